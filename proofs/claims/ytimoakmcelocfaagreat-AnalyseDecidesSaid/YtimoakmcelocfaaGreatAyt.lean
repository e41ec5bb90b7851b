import Derived.Test.YtimoakmcelocfaaGreatAys
namespace Go.Proofs.YtimoakmcelocfaaGreat.Par
open Go.RowKit Base Txt Mem
theorem how_is (q:Ln.R) (c:UInt8):q.how c=0∨q.how c=1∨q.how c=2∨q.how c=3∨q.how c=4:=by
 unfold Ln.R.how
 repeat' split
 all_goals simp
section code
set_option maxHeartbeats 4000000
set_option maxRecDepth 20000
attribute [local go_sem] Base.some_undef
variable {w:World} {B:Zone} {g q:Nat} {v f bd t o:Value} {p:Nat} {b:Bd} {s:S}
theorem byte_any (hp:p<4294967296) (h3:16≤b.x3∧b.x3≤1048576) (h4:0≤b.x4) (c:UInt8) (h:PR w B g q v f bd t o p b s) (hs:lined s.st) (he:s.e=0) (ok:Fits s) (hl:LineOk p s.rd)
 (hlong:s.st=5→s.rd.how c=4→Qk.has p 29=true→PlainOk p {s with fresh:=false,rd:=nl p b.x0,st:=3} c)
 (hag:s.rd.how c=2→(S.ended p b {s with fresh:=false,rd:=s.rd.byte c} (s.rd.byte c).L).e=0→PlainOk p (S.ended p b {s with fresh:=false,rd:=s.rd.byte c} (s.rd.byte c).L) c∧(S.ended p b {s with fresh:=false,rd:=s.rd.byte c} (s.rd.byte c).L).head≤1000000) :
 Calls Tryz.prog 57 #[ptr g,.int .u8 (c.toNat:Int)] w fun r w'=>r=.returned (.tuple #[])∧∃q1 v1 f1 bd1 t1 o1,PR w' B g q1 v1 f1 bd1 t1 o1 p b (s.byte1 p b c)∧Step (blks g q v f bd t o) (blks g q1 v1 f1 bd1 t1 o1) w w':=by
 have hbod:bodied s.st=false:=by rcases hs with e | e | e | e | e<;>rw [e]<;>rfl
 have t2:((s.st:Int)==2)=false:=beq_eq_false_iff_ne.2 (by rcases hs with e | e | e | e | e<;>omega)
 have t4:((s.st:Int)==4)=false:=beq_eq_false_iff_ne.2 (by rcases hs with e | e | e | e | e<;>omega);have n2:¬(s.st:Int)=2:=beq_eq_false_iff_ne.1 t2;have n4:¬(s.st:Int)=4:=beq_eq_false_iff_ne.1 t4;have m2:¬s.st=2:=by omega
 have m4:¬s.st=4:=by omega
 have H1:=Lib.hid (h.put 23 (.bool false) {s with fresh:=false} rfl rfl rfl rfl rfl rfl)
 have HS1:=Lib.hid (Step.set (w:=w) (L:=blks g q v f bd t o) g 23 (.bool false) (by simp));have c23:=h.cs.c23;have z23:=h.marks 23;have c11:=h.cs.c11;have hrb:=Ln.rbyte_any c s.rd hl.most p hp hl.lf hl.cr (w.setCell ⟨g,23,none⟩ (.bool false)) B q v H1.out.own.R;clear h;have hL:(s.rd.how c=1∨s.rd.how c=2)→(s.rd.byte c).L.length≤5000:=fun e=>by rw [byte_L s.rd c e];have:=hl.len;have:=hl.most;omega
 rcases how_is s.rd c with hw | hw | hw | hw | hw
 ·have e:s.byte1 p b c={s with fresh:=false,rd:=s.rd.byte c}:=by unfold S.byte1;simp [hbod,hw]
  rw [e];rw [hw] at hrb;have HRB:=Lib.hid hrb;clear e hw hL hrb hbod hs he hl ok hlong hag;go_enter Tryz.func57,Tryz.ntmps57;go_upto_region 8 with fail
  generalize w.setCell ⟨g,23,none⟩ (.bool false)=W1 at *;clear c23 z23 c11;have c12:=H1.out.cs.c12;go_wp2_with
   (go_at_call 70;with_reducible refine HRB.out.mono ?_;rintro r w2 ⟨v2,rfl,hr2,hk2,hm2⟩
    obtain ⟨hP2,hS2⟩:=H1.out.reader hk2 hm2 hr2
    have HP2:=Lib.hid hP2;have HS2:=Lib.hid (HS1.out.trans hS2);clear hr2 hk2 hm2 hP2 hS2)
  first | go_end0 | refine bodyPost_ret (results_none rfl _ _ _) rfl ?_
  exact ⟨rfl,_,_,_,_,_,_,HP2.out,HS2.out⟩
 ·have e:s.byte1 p b c=S.ended p b {s with fresh:=false,rd:=s.rd.byte c} (s.rd.byte c).L:=by unfold S.byte1;simp [hbod,hw]
  rw [e];rw [hw] at hrb;have HRB:=Lib.hid hrb;obtain ⟨x,hx⟩:∃x:ByteArray,ba (s.rd.byte c).L=x:=⟨_,rfl⟩;have hxl:(s.rd.byte c).L=x.data.toList:=by rw [←hx];simp [ba]
  have hxs:x.size≤5000:=by rw [←hx,ba_size];exact hL (.inl hw)
  have HEN:=Lib.hid (fun w2 q1 v1 (h:PR w2 B g q1 v1 f bd t o p b {s with fresh:=false,rd:=s.rd.byte c})=>ended_any hp h3 h4 x hxs h hs he ⟨ok.lines,ok.fss,ok.fsl,ok.tss,ok.tsl,ok.body,ok.out⟩);have HX:=Lib.hid hx;rw [hxl];clear e hw hL hrb hbod hs he hl ok hlong hag hx hxl hxs;go_enter Tryz.func57,Tryz.ntmps57;go_upto_region 8 with fail
  generalize w.setCell ⟨g,23,none⟩ (.bool false)=W1 at *;clear c23 z23 c11;have c12:=H1.out.cs.c12
  go_wp2_with (first
   |(go_at_call 72;with_reducible refine (HEN.out _ _ _ HP2.out).mono ?_;rintro r w3 ⟨rfl,q1,v1,f1,bd1,t1,o1,hP3,hS3⟩)
   |(go_at_call 70;with_reducible refine HRB.out.mono ?_;rintro r w2 ⟨v2,rfl,hr2,hk2,hm2⟩
     obtain ⟨hP2,hS2⟩:=H1.out.reader hk2 hm2 hr2
     have HP2:=Lib.hid hP2;have HS2:=Lib.hid (HS1.out.trans hS2);have c11:=hP2.cs.c11;have c12:=hP2.cs.c12;have y4:w2.cell? ⟨q,4,none⟩=some (.string x):=by rw [←HX.out];exact Ln.row_cell hr2.row (k:=4) rfl
     clear hr2 hk2 hm2 hP2 hS2))
  first | go_end0 | refine bodyPost_ret (results_none rfl _ _ _) rfl ?_
  exact ⟨rfl,_,_,_,_,_,_,hP3,HS2.out.trans hS3⟩
 ·rw [hw] at hrb;have HRB:=Lib.hid hrb;obtain ⟨x,hx⟩:∃x:ByteArray,ba (s.rd.byte c).L=x:=⟨_,rfl⟩;have hxl:(s.rd.byte c).L=x.data.toList:=by rw [←hx];simp [ba]
  have hxs:x.size≤5000:=by rw [←hx,ba_size];exact hL (.inr hw)
  have HEN:=Lib.hid (fun w2 q1 v1 (h:PR w2 B g q1 v1 f bd t o p b {s with fresh:=false,rd:=s.rd.byte c})=>ended_any hp h3 h4 x hxs h hs he ⟨ok.lines,ok.fss,ok.fsl,ok.tss,ok.tsl,ok.body,ok.out⟩);have HX:=Lib.hid hx;rw [hxl] at hag;obtain ⟨s3,hs3⟩:∃s3,S.ended p b {s with fresh:=false,rd:=s.rd.byte c} x.data.toList=s3:=⟨_,rfl⟩;rw [hs3] at hag HEN;by_cases he3:s3.e=0
  ·obtain ⟨ok3,hh3⟩:=hag hw he3;have e:s.byte1 p b c=S.again p b s3 c s.st:=by
    unfold S.byte1;simp [hbod,hw,hxl,hs3,he3]
   rw [e]
   have HAG:=Lib.hid (fun w2 q1 v1 f1 bd1 t1 o1 (h:PR w2 B g q1 v1 f1 bd1 t1 o1 p b s3)=>again_any hp h3 h4 c s.st h ok3 hh3 hs);have HE2:=Lib.hid he3;clear e hw hL hrb hbod hs he hl ok hlong hag hx hxl hxs hs3 he3 ok3 hh3;go_enter Tryz.func57,Tryz.ntmps57;go_upto_region 8 with fail
   generalize w.setCell ⟨g,23,none⟩ (.bool false)=W1 at *;clear c23 z23 c11;have c12:=H1.out.cs.c12
   go_wp2_with (first
    |(go_at_call 73;with_reducible refine (HAG.out _ _ _ _ _ _ _ HP3.out).mono ?_;rintro r w4 ⟨rfl,q2,v3,f2,bd2,t2',o2,hP4,hS4⟩)
    |(go_at_call 72;with_reducible refine (HEN.out _ _ _ HP2.out).mono ?_;rintro r w3 ⟨rfl,q1,v1,f1,bd1,t1,o1,hP3,hS3⟩
      have HP3:=Lib.hid hP3;have HS3:=Lib.hid (HS2.out.trans hS3);have c25:w3.cell? ⟨g,25,none⟩=some (.int .i64 0):=by have:=hP3.cs.c25;rw [HE2.out] at this;exact this
      clear hP3 hS3)
    |(go_at_call 70;with_reducible refine HRB.out.mono ?_;rintro r w2 ⟨v2,rfl,hr2,hk2,hm2⟩
      obtain ⟨hP2,hS2⟩:=H1.out.reader hk2 hm2 hr2
      have HP2:=Lib.hid hP2;have HS2:=Lib.hid (HS1.out.trans hS2);have c11:=hP2.cs.c11;have c12:=hP2.cs.c12;have y4:w2.cell? ⟨q,4,none⟩=some (.string x):=by rw [←HX.out];exact Ln.row_cell hr2.row (k:=4) rfl
      clear hr2 hk2 hm2 hP2 hS2))
   first | go_end0 | refine bodyPost_ret (results_none rfl _ _ _) rfl ?_
   exact ⟨rfl,_,_,_,_,_,_,hP4,HS3.out.trans hS4⟩
  ·have e:s.byte1 p b c=s3:=by
    unfold S.byte1;simp [hbod,hw,hxl,hs3,he3]
   rw [e];obtain ⟨k,hk⟩:∃k,s3.e=k:=⟨_,rfl⟩
   have t5:((k:Int)==0)=false:=beq_eq_false_iff_ne.2 (by omega);have n5:¬(k:Int)=0:=by omega
   have n6:¬k=0:=by omega
   have HE2:=Lib.hid hk;clear e hw hL hrb hbod hs he hl ok hlong hag hx hxl hxs hs3 he3 hk;go_enter Tryz.func57,Tryz.ntmps57;go_upto_region 8 with fail
   generalize w.setCell ⟨g,23,none⟩ (.bool false)=W1 at *;clear c23 z23 c11;have c12:=H1.out.cs.c12
   go_wp2_with (first
    |(go_at_call 72;with_reducible refine (HEN.out _ _ _ HP2.out).mono ?_;rintro r w3 ⟨rfl,q1,v1,f1,bd1,t1,o1,hP3,hS3⟩
      have HP3:=Lib.hid hP3;have HS3:=Lib.hid (HS2.out.trans hS3);have c25:w3.cell? ⟨g,25,none⟩=some (.int .i64 (k:Int)):=by have:=hP3.cs.c25;rw [HE2.out] at this;exact this
      clear hP3 hS3)
    |(go_at_call 70;with_reducible refine HRB.out.mono ?_;rintro r w2 ⟨v2,rfl,hr2,hk2,hm2⟩
      obtain ⟨hP2,hS2⟩:=H1.out.reader hk2 hm2 hr2
      have HP2:=Lib.hid hP2;have HS2:=Lib.hid (HS1.out.trans hS2);have c11:=hP2.cs.c11;have c12:=hP2.cs.c12;have y4:w2.cell? ⟨q,4,none⟩=some (.string x):=by rw [←HX.out];exact Ln.row_cell hr2.row (k:=4) rfl
      clear hr2 hk2 hm2 hP2 hS2))
   first | go_end0 | refine bodyPost_ret (results_none rfl _ _ _) rfl ?_
   exact ⟨rfl,_,_,_,_,_,_,HP3.out,HS3.out⟩
 ·have e:s.byte1 p b c=S.fail {s with fresh:=false,rd:=s.rd.byte c} 400:=by unfold S.byte1;simp [hbod,hw]
  rw [e];rw [hw] at hrb;have HRB:=Lib.hid hrb
  have HFA:=Lib.hid (fun w2 q1 v1 (h:PR w2 B g q1 v1 f bd t o p b {s with fresh:=false,rd:=s.rd.byte c})=>fail_at h 400 400 rfl);clear e hw hL hrb hbod hs he hl ok hlong hag;go_enter Tryz.func57,Tryz.ntmps57;go_upto_region 8 with fail
  generalize w.setCell ⟨g,23,none⟩ (.bool false)=W1 at *;clear c23 z23 c11;have c12:=H1.out.cs.c12
  go_wp2_with (first
   |(go_at_call 56;with_reducible refine (HFA.out _ _ _ HP2.out).mono ?_;rintro r w3 ⟨rfl,hP3,hS3⟩)
   |(go_at_call 70;with_reducible refine HRB.out.mono ?_;rintro r w2 ⟨v2,rfl,hr2,hk2,hm2⟩
     obtain ⟨hP2,hS2⟩:=H1.out.reader hk2 hm2 hr2
     have HP2:=Lib.hid hP2;have HS2:=Lib.hid (HS1.out.trans hS2);clear hr2 hk2 hm2 hP2 hS2))
  first | go_end0 | refine bodyPost_ret (results_none rfl _ _ _) rfl ?_
  exact ⟨rfl,_,_,_,_,_,_,hP3,HS2.out.trans hS3⟩
 ·by_cases hce:(s.st==5&&Qk.has p 29)=true
  ·have hce2:s.st=5∧Qk.has p 29=true:=by simpa using hce
   have e:s.byte1 p b c=S.plain p b {s with fresh:=false,rd:=nl p b.x0,st:=3} c:=by unfold S.byte1;simp [bodied,hw,hce2.1,hce2.2]
   rw [e];have ok3:=hlong hce2.1 hw hce2.2;rw [hw] at hrb;have HRB:=Lib.hid hrb
   have HLO:=Lib.hid (fun w2 q1 v1 (h:PR w2 B g q1 v1 f bd t o p b {s with fresh:=false,rd:=s.rd.byte c})=>longEnd_any hp h3 h4 c h hce2.1 hce2.2 ok3);clear e hw hL hrb hbod hs he hl ok hlong hag hce hce2 ok3;go_enter Tryz.func57,Tryz.ntmps57;go_upto_region 8 with fail
   generalize w.setCell ⟨g,23,none⟩ (.bool false)=W1 at *;clear c23 z23 c11;have c12:=H1.out.cs.c12
   go_wp2_with (first
    |(go_at_call 71;with_reducible refine (HLO.out _ _ _ HP2.out).mono ?_;rintro r w3 ⟨rfl,q1,v1,f1,bd1,t1,o1,hP3,hS3⟩)
    |(go_at_call 70;with_reducible refine HRB.out.mono ?_;rintro r w2 ⟨v2,rfl,hr2,hk2,hm2⟩
      obtain ⟨hP2,hS2⟩:=H1.out.reader hk2 hm2 hr2
      have HP2:=Lib.hid hP2;have HS2:=Lib.hid (HS1.out.trans hS2);clear hr2 hk2 hm2 hP2 hS2))
   first | go_end0 | refine bodyPost_ret (results_none rfl _ _ _) rfl ?_
   exact ⟨rfl,_,_,_,_,_,_,hP3,HS2.out.trans hS3⟩
  ·have e:s.byte1 p b c=S.fail {s with fresh:=false,rd:=s.rd.byte c} (longE s.st):=by unfold S.byte1;simp [hbod,hw,hce]
   rw [e];have h6:s.st=5→Qk.has p 29=false:=fun e=>by
    cases h:Qk.has p 29 with
    | false=>rfl
    | true=>exact absurd (by rw [e,h];rfl) hce
   rw [hw] at hrb;have HRB:=Lib.hid hrb
   have HLO:=Lib.hid (fun w2 q1 v1 (h:PR w2 B g q1 v1 f bd t o p b {s with fresh:=false,rd:=s.rd.byte c})=>long_any hp c h hs h6);clear e hw hL hrb hbod hs he hl ok hlong hag hce h6;go_enter Tryz.func57,Tryz.ntmps57;go_upto_region 8 with fail
   generalize w.setCell ⟨g,23,none⟩ (.bool false)=W1 at *;clear c23 z23 c11;have c12:=H1.out.cs.c12
   go_wp2_with (first
    |(go_at_call 71;with_reducible refine (HLO.out _ _ _ HP2.out).mono ?_;rintro r w3 ⟨rfl,hP3,hS3⟩)
    |(go_at_call 70;with_reducible refine HRB.out.mono ?_;rintro r w2 ⟨v2,rfl,hr2,hk2,hm2⟩
      obtain ⟨hP2,hS2⟩:=H1.out.reader hk2 hm2 hr2
      have HP2:=Lib.hid hP2;have HS2:=Lib.hid (HS1.out.trans hS2);clear hr2 hk2 hm2 hP2 hS2))
   first | go_end0 | refine bodyPost_ret (results_none rfl _ _ _) rfl ?_
   exact ⟨rfl,_,_,_,_,_,_,hP3,HS2.out.trans hS3⟩
end code
end Go.Proofs.YtimoakmcelocfaaGreat.Par
namespace Go.Proofs.YtimoakmcelocfaaGreat.Par
open Go.RowKit Base Txt Mem
section
variable {p:Nat} {b:Bd} {x:Pg.T} {s:S}
theorem fits_of (h:Pg.R0 p b x s) (ok:x.Ok) (ho:s.out.length≤1000000000):Fits s:=by
 have k1:=ok.hl;have k2:=ok.bl;have k3:=ok.fsl;have k4:=ok.tsl;have k5:=ok.body;refine ⟨fun e=>?_,fun y hy=>?_,?_,fun y hy=>?_,?_,?_,ho⟩
 ·rcases e with e | e
  ·rw [h.hl (by omega)];omega
  ·rw [h.bl e];omega
 ·rw [h.r] at hy;have:=ok.fss y hy;omega
 ·rw [h.r];omega
 ·rw [h.r] at hy;have:=ok.tss y hy;omega
 ·rw [h.r];omega
 ·rw [h.r];omega
theorem lineOk_of (h:Pg.R0 p b x s) (ok:x.Ok) (hn:bodied s.st=false):LineOk p s.rd:=by
 have r:=h.rd hn;have h1:=ok.rd.len;have h2:=ok.rd.most;refine ⟨r.lf.trans h.lf,r.cr.trans h.cr,by rw [r.most];exact h2,?_⟩;rw [r.B,r.most];split
 ·exact Nat.zero_le _
 ·exact h1
theorem lined_of (h:Pg.R0 p b x s) (ok:x.Ok) (hn:bodied s.st=false):lined s.st:=by
 have h7:=ok.st;have ht:=h.st;have hn2:s.st≠2∧s.st≠4:=by constructor<;> (intro e;rw [e] at hn;exact absurd hn (by decide))
 unfold lined;omega
theorem plainOk_of (h:Pg.R0 p b x s) (ok:x.Ok) (hp:x.rd.pend=false) (h6:x.st≠6) (ho:s.out.length≤1000000000) (c:UInt8):PlainOk p s c:=by
 have h7:=ok.st;have ht:=h.st;refine ⟨h.e,fits_of h ok ho,?_,fun hb=>?_,fun hl=>?_⟩
 ·unfold lined;omega
 ·have h1:=h.left hb;have h2:=ok.left (by rw [Pg.bod h];exact hb);have h3:=ok.body;omega
 ·have hn:bodied s.st=false:=by rcases hl with e | e | e | e | e<;>rw [e]<;>rfl
  exact ⟨lineOk_of h ok hn,(h.rd hn).CR.trans hp,fun e=>absurd (ht.trans (by rw [e])) h6⟩
theorem ended_ok (h:Pg.R0 p b x s) (ok:x.Ok) (hb:b.right=true) (hn:bodied s.st=false) (hc:s.clean=false) (ho:s.out.length≤999999998) (c:UInt8) (h2:s.rd.how c=2)
 (he:(S.ended p b {s with fresh:=false,rd:=s.rd.byte c} (s.rd.byte c).L).e=0) :
 PlainOk p (S.ended p b {s with fresh:=false,rd:=s.rd.byte c} (s.rd.byte c).L) c∧(S.ended p b {s with fresh:=false,rd:=s.rd.byte c} (s.rd.byte c).L).head≤1000000:=by
 obtain ⟨n,hnx⟩:∃n,x.rd.clear.next c=n:=⟨_,rfl⟩;obtain ⟨k1, -,k3⟩:=Pg.took_sim h hn ok hc c hnx;have e2:n=2:=k1.symm.trans h2;subst e2
 have k4:=k3 (.inr rfl);have hb0:Pg.bodied x.st=false:=(Pg.bod h).trans hn;generalize hs2:S.ended p b {s with fresh:=false,rd:=s.rd.byte c} (s.rd.byte c).L=s2 at k4 he ⊢;generalize hq:Pg.ends (Pg.T.line p b {x with rd:=x.rd.byte c} (x.rd.byte c).line)=y at k4;rcases Pg.ends_cases hq with ⟨t2,g1,rfl⟩ | ⟨e,o,rfl⟩
 ·have k5:Pg.RR p b t2 s2:=k4;have hin:x.inLine p b c=(.live t2,false):=by
   unfold Pg.T.inLine;simp only [hnx,Int.reduceEq,if_false,BEq.rfl,Bool.not_true];rw [hq]
  have ok2:t2.Ok:=ok.inLine hb c (by rw [hin]);obtain ⟨g2,g3⟩:=Pg.inLine_again hb0 c hin;have hout:=Pg.inLine_out (p:=p) (b:=b) x c;rw [hin] at hout;have ho2:s2.out.length≤1000000000:=by rw [k5.out];have h1:t2.out.length≤x.out.length+1:=hout;rw [←h.out] at h1;omega
  exact ⟨plainOk_of k5.toR0 ok2 g2 g3 ho2 c,by rw [k5.head];have:=ok2.size;omega⟩
 ·exact absurd he k4.err
end
section code
set_option maxHeartbeats 4000000
variable {w:World} {B:Zone} {g q:Nat} {v f bd t o:Value} {p:Nat} {b:Bd} {s:S} {x:Pg.T}
theorem byte1_any (hp:p<4294967296) (hb:b.right=true) (c:UInt8) (h:PR w B g q v f bd t o p b s) (h0:Pg.R0 p b x s) (ok:x.Ok) (hc:s.clean=false) (ho:s.out.length≤999999998) :
 Calls Tryz.prog 57 #[ptr g,.int .u8 (c.toNat:Int)] w fun r w'=>r=.returned (.tuple #[])∧∃q1 v1 f1 bd1 t1 o1,PR w' B g q1 v1 f1 bd1 t1 o1 p b (s.byte1 p b c)∧Step (blks g q v f bd t o) (blks g q1 v1 f1 bd1 t1 o1) w w':=by
 obtain ⟨-, -, -,h3,h4, -⟩:=Pg.Bd.edges hb
 have hf:=fits_of h0 ok (by omega);by_cases hbd:bodied s.st=true
 ·have hst:s.st=2∨s.st=4:=by
   unfold bodied at hbd;simpa using hbd
  have e:s.byte1 p b c=S.bodyB p b {s with fresh:=false} c:=by unfold S.byte1;simp [hbd]
  rw [e];have h1:=h0.left hbd;have h2:=ok.left (by rw [Pg.bod h0];exact hbd);have h5:=ok.body;exact body_any c h hst ⟨by omega,by omega⟩ hf.body hf.out
 ·have hn:bodied s.st=false:=by simpa using hbd
  refine byte_any hp h3 h4.1 c h (lined_of h0 ok hn) h0.e hf (lineOk_of h0 ok hn) (fun h5 _ _=>?_) (fun h2 he=>ended_ok h0 ok hb hn hc ho c h2 he);have he:=Pg.enter_sim (t:=x) (s:={s with fresh:=false}) {h0 with} h5;exact plainOk_of he (ok.enter (.inl rfl) b.x0) rfl (by show (4:Nat)≠6;decide) (by show s.out.length≤_;omega) c
theorem byteS_any (hp:p<4294967296) (hb:b.right=true) (c:UInt8) (h:PR w B g q v f bd t o p b s) (hr:Pg.RR p b x s) (ok:x.Ok) (ho:s.out.length≤999999998) :
 Calls Tryz.prog 37 #[ptr g,.int .u8 (c.toNat:Int)] w fun r w'=>r=.returned (.tuple #[])∧∃q1 v1 f1 bd1 t1 o1,PR w' B g q1 v1 f1 bd1 t1 o1 p b (s.byte p b c)∧Step (blks g q v f bd t o) (blks g q1 v1 f1 bd1 t1 o1) w w':=by
 have h0:Pg.R0 p b ({x with cnt:=false}:Pg.T) {s with clean:=false}:=⟨hr.e,hr.st,hr.r,hr.out,hr.head,hr.hl,hr.bl,hr.bl0,hr.left,hr.rd,hr.fr,hr.lf,hr.cr,hr.most,hr.beh,hr.ch⟩;have ok0:({x with cnt:=false}:Pg.T).Ok:=ok.cleared;refine count_any c (fun s=>s.byte1 p b c) h hr.e (by rw [hr.head];have:=ok.size;omega) fun w2 s2 hs h2=>?_;rcases hs with ⟨hh,rfl,hx⟩ | ⟨hh,rfl⟩
 ·have h1:Pg.R0 p b ({x with cnt:=false}:Pg.T).counted {s with head:=s.head+1,clean:=false}:=h0.of_counted rfl;have esz:({x with cnt:=false}:Pg.T).counted.size=s.head+1:=h1.head.symm;exact byte1_any hp hb c h2 h1 (ok0.counted hb (by rw [esz];exact hx)) rfl ho
 ·exact byte1_any hp hb c h2 h0 ok0 rfl ho
end code
end Go.Proofs.YtimoakmcelocfaaGreat.Par
namespace Go.Proofs.YtimoakmcelocfaaGreat.Par
open Go.RowKit Base Txt Mem Each
abbrev ncells (p:Nat) (b:Bd) (cl:Bool) (e:Nat):List Value:=
 [.int .u32 (p:Int),.int .i64 b.x0,.int .i64 b.x1,.int .i64 b.x2,.int .i64 b.x3,.int .i64 b.x4,.int .i64 b.x5,.int .i64 b.x6,.int .i64 b.x7,.bool b.ch,.bool b.od,.int .i64 0,.pointer none,
   .string E0,.string E0,.int .i64 0,nil,.bool false,nil,nil,.int .i64 0,.int .i64 0,.int .i64 0,.bool false,.bool cl,.int .i64 (e:Int),nil]
structure Bad (w:World) (B:Zone) (g p:Nat) (b:Bd) (s:S):Prop where
 row:w.heap[g]?=some (.cells (ncells p b false 20).toArray 59 (0,0))
 e:s.e=20
 clean:s.clean=false
 out:s.out= []
 ge:B≤g
 zone:Clear w B.z [some g]
structure Rest (w:World) (B:Zone) (g q:Nat) (v f bd t:Value) (p:Nat) (b:Bd) (s:S):Prop where
 row:∃o,w.heap[g]?=some (.cells (pcells p b s q f bd t o).toArray 59 (0,0))
 own:Own w B g q v f bd t nil p s.rd s.r.fs s.r.body s.r.ts []
def Run (w:World) (B:Zone) (g p:Nat) (b:Bd) (L:List (Option Nat)) (s:S):Prop:=
 (∃q v f bd t o,L=blks g q v f bd t o∧PR w B g q v f bd t o p b s)∨(L= [some g]∧Bad w B g p b s)
def DAt (w:World) (B:Zone) (g p:Nat) (b:Bd) (L:List (Option Nat)) (s:S):Prop:=
 (∃q v f bd t,L=blks g q v f bd t nil∧Rest w B g q v f bd t p b s)∨(L= [some g]∧Bad w B g p b s)
def DQ (w:World) (B:Zone) (g p:Nat) (b:Bd) (L:List (Option Nat)) (x:Pg.Q):Prop:=∃s,Pg.RQ p b x s∧x.Fine b∧DAt w B g p b L s
theorem fine_of {b:Bd} {x:Pg.Q} (h:x.Ok b):x.Fine b:=by cases x<;>exact h
section
variable {w w':World} {B:Zone} {g q:Nat} {v f bd t o:Value} {p:Nat} {b:Bd} {L M:List (Option Nat)} {s:S} {x:Pg.Q} {rd:Ln.R} {fs ts:List Fld} {body:List UInt8} {out:List Rec.R}
theorem Own.less (h:Own w B g q v f bd t o p rd fs body ts out):Own w B g q v f bd t nil p rd fs body ts []:=by
 have e:blks g q v f bd t nil=(blks g q v f bd t o).set 6 none:=rfl;refine ⟨h.R,h.F,h.D,h.T,⟨[],rfl,(by intro x hx;cases hx),World.ownsRow_nil _ _ _ _⟩,?_,h.ge,h.lt,h.zone.of (Nat.le_refl _) (by rw [e];exact Of.set 6 none (.inl rfl))⟩;rw [e]
 exact h.lone.set h.in 6 none (.inl rfl)
theorem Run.tell (h:Run w B g p b L s):∃o L',w.cell? ⟨g,26,none⟩=some o∧DAt w B g p b L' s∧Pg.Told L' B w o s.out∧Step L L' w w:=by
 rcases h with ⟨q,v,f,bd,t,o,rfl,h⟩ | ⟨rfl,h⟩
 ·have hsub:∀k,some k∈blks g q v f bd t nil→some k∈blks g q v f bd t o:=fun k hk=>by
   simp only [List.mem_cons,List.not_mem_nil,or_false,Value.ownBlock,reduceCtorEq] at hk ⊢;rcases hk with e | e | e | e | e | e<;>simp [e]
  refine ⟨o,blks g q v f bd t nil,h.cs.c26,.inl ⟨q,v,f,bd,t,rfl,⟨o,h.row⟩,h.own.less⟩,⟨Pg.Outs.less h.own.O (fun k hk=>.inl (hsub k hk)),fun k e=>⟨fun hm=>?_,?_⟩,fun k e=>h.own.zone.off k (List.mem_of_getElem? (i:=6) (by rw [←e];rfl))⟩,⟨Keeps.refl,fun k hk=>.inl (hsub k hk)⟩⟩
  ·obtain ⟨i,hi⟩:=List.getElem?_of_mem hm;have h6:(blks g q v f bd t o)[6]?=some (some k):=by rw [←e];rfl
   rcases i with _ | _ | _ | _ | _ | _ | _ | i
   ·exact h.own.lone.ne (i:=0) (j:=6) (k:=k) hi (by decide) h6
   ·exact h.own.lone.ne (i:=1) (j:=6) (k:=k) hi (by decide) h6
   ·exact h.own.lone.ne (i:=2) (j:=6) (k:=k) hi (by decide) h6
   ·exact h.own.lone.ne (i:=3) (j:=6) (k:=k) hi (by decide) h6
   ·exact h.own.lone.ne (i:=4) (j:=6) (k:=k) hi (by decide) h6
   ·exact h.own.lone.ne (i:=5) (j:=6) (k:=k) hi (by decide) h6
   ·cases hi
   ·cases hi
  ·exact h.own.in k (List.mem_of_getElem? (i:=6) (by rw [←e];rfl))
 ·exact ⟨nil,[some g],row_cellL h.row rfl,.inr ⟨rfl,h⟩,by rw [h.out];exact ⟨⟨[],rfl,(by intro x hx;cases hx),World.ownsRow_nil _ _ _ _⟩,(fun k e=>by cases e),(fun k e=>by cases e)⟩,Step.refl⟩
theorem DAt.start (h:DAt w B g p b L s) (ho:s.out= []):w.frozen? ⟨g,26,none⟩=false∧(∃o,w.cell? ⟨g,26,none⟩=some o)∧Run (w.setCell ⟨g,26,none⟩ nil) B g p b L s∧Step L L w (w.setCell ⟨g,26,none⟩ nil):=by
 rcases h with ⟨q,v,f,bd,t,rfl,⟨o,hrow⟩,hown⟩ | ⟨rfl,h⟩
 ·refine ⟨Ln.row_frozen hrow 26,⟨o,row_cellL hrow rfl⟩,.inl ⟨q,v,f,bd,t,nil,rfl,row_setL hrow 26 nil,?_⟩,Step.set g 26 nil (by simp)⟩;rw [ho];exact hown.set 26 nil
 ·exact ⟨Ln.row_frozen h.row 26,⟨_,row_cellL h.row rfl⟩,.inr ⟨rfl,row_setL h.row 26 nil,h.e,h.clean,h.out,h.ge,h.zone.of (by simp) Of.refl⟩,Step.set g 26 nil (by simp)⟩
theorem Own.keepsD (h:Own w B g q v f bd t nil p rd fs body ts []) (hk:Keeps M w w') (hd:Dis (blks g q v f bd t nil) M):Own w' B g q v f bd t nil p rd fs body ts []:=
 ⟨⟨hk.row h.R.row (hd q (by simp)),hk.own h.R.own fun k e=>hd k (by simp [←e]),h.R.ge,h.R.ne⟩,hk.own h.F fun k e=>hd k (by simp [←e]),hk.own h.D fun k e=>hd k (by simp [←e]),hk.own h.T fun k e=>hd k (by simp [←e]),
   ⟨[],rfl,(by intro x hx;cases hx),World.ownsRow_nil _ _ _ _⟩,h.lone,h.ge,Nat.lt_of_lt_of_le h.lt hk.size,h.zone.of hk.size Of.refl⟩
theorem Own.rezoneD (h:Own w B g q v f bd t nil p rd fs body ts []) {Z:List (Option Nat)} (hz:Clear w Z (blks g q v f bd t nil)):Own w ⟨B.b,Z⟩ g q v f bd t nil p rd fs body ts []:=
 ⟨h.R,h.F,h.D,h.T,⟨[],rfl,(by intro x hx;cases hx),World.ownsRow_nil _ _ _ _⟩,h.lone,h.ge,h.lt,hz⟩
theorem DAt.keeps (h:DAt w B g p b L s) (hk:Keeps M w w') (hd:Dis L M):DAt w' B g p b L s:=by
 rcases h with ⟨q,v,f,bd,t,rfl,⟨o,hrow⟩,hown⟩ | ⟨rfl,h⟩
 ·exact .inl ⟨q,v,f,bd,t,rfl,⟨o,hk.row hrow (hd g (by simp))⟩,hown.keepsD hk hd⟩
 ·exact .inr ⟨rfl,hk.row h.row (hd g (by simp)),h.e,h.clean,h.out,h.ge,h.zone.of hk.size Of.refl⟩
theorem DAt.rezone (h:DAt w B g p b L s) {Z:List (Option Nat)} (hz:Clear w Z L):DAt w ⟨B.b,Z⟩ g p b L s:=by
 rcases h with ⟨q,v,f,bd,t,rfl,hrow,hown⟩ | ⟨rfl,h⟩
 ·exact .inl ⟨q,v,f,bd,t,rfl,hrow,hown.rezoneD hz⟩
 ·exact .inr ⟨rfl,h.row,h.e,h.clean,h.out,h.ge,hz⟩
theorem DAt.in (h:DAt w B g p b L s):In w L:=by
 rcases h with ⟨q,v,f,bd,t,rfl, -,hown⟩ | ⟨rfl,h⟩
 ·exact hown.in
 ·intro k hk;obtain rfl:k=g:=by simpa using hk
  exact Ln.row_lt h.row
theorem DAt.low (h:DAt w B g p b L s):∀k,some k∈L→B≤k:=by
 rcases h with ⟨q,v,f,bd,t,rfl, -,hown⟩ | ⟨rfl,h⟩
 ·exact hown.low
 ·intro k hk;obtain rfl:k=g:=by simpa using hk
  exact h.ge
theorem DAt.uniq {B':Zone} {p':Nat} {b':Bd} {s':S} {L':List (Option Nat)} (h:DAt w B g p b L s) (h':DAt w B' g p' b' L' s'):L=L':=by
 rcases h with ⟨q,v,f,bd,t,rfl,⟨o,h1⟩,h2⟩ | ⟨rfl,h⟩
 ·rcases h' with ⟨q',v',f',bd',t',rfl,⟨o',h1'⟩,h2'⟩ | ⟨rfl,h'⟩
  ·have e:=Pg.cells_inj h1 h1'
   have e12:ptr q=ptr q':=Option.some.inj (congrArg (fun l:List Value=>l[12]?) e)
   have e16:f=f':=Option.some.inj (congrArg (fun l:List Value=>l[16]?) e)
   have e18:bd=bd':=Option.some.inj (congrArg (fun l:List Value=>l[18]?) e)
   have e19:t=t':=Option.some.inj (congrArg (fun l:List Value=>l[19]?) e);have eq:q=q':=by simpa using e12
   subst eq e16 e18 e19;have hr:=h2.R.row.symm.trans h2'.R.row;have ev:v=v':=by
    simp only [Option.some.injEq,Obj.cells.injEq,and_true] at hr
    exact Option.some.inj (congrArg (fun a:Array Value=>a[2]?) hr)
   rw [ev]
  ·have e:=Pg.cells_inj h1 h'.row
   have e12:ptr q=.pointer none:=Option.some.inj (congrArg (fun l:List Value=>l[12]?) e);cases e12
 ·rcases h' with ⟨q',v',f',bd',t',rfl,⟨o',h1'⟩,h2'⟩ | ⟨rfl,h'⟩
  ·have e:=Pg.cells_inj h.row h1'
   have e12:Value.pointer none=ptr q':=Option.some.inj (congrArg (fun l:List Value=>l[12]?) e);cases e12
  ·rfl
theorem DQ.keeps (h:DQ w B g p b L x) (hk:Keeps M w w') (hd:Dis L M):DQ w' B g p b L x:=by obtain ⟨s,h1,h2,h3⟩:=h;exact ⟨s,h1,h2,h3.keeps hk hd⟩
theorem DQ.below (h:DQ w B g p b L x) (hb:Below w.heap.size w w'):DQ w' B g p b L x:=h.keeps (M:= []) (Keeps.of_below hb) (fun k _ hk=>by cases hk)
theorem DQ.rezone (h:DQ w B g p b L x) {Z:List (Option Nat)} (hz:Clear w Z L):DQ w ⟨B.b,Z⟩ g p b L x:=by obtain ⟨s,h1,h2,h3⟩:=h;exact ⟨s,h1,h2,h3.rezone hz⟩
theorem DQ.in (h:DQ w B g p b L x):In w L:=by obtain ⟨_,_,_,h3⟩:=h;exact h3.in
theorem DQ.low (h:DQ w B g p b L x):∀k,some k∈L→B≤k:=by obtain ⟨_,_,_,h3⟩:=h;exact h3.low
theorem DQ.uniq {B':Zone} {p':Nat} {b':Bd} {x':Pg.Q} {L':List (Option Nat)} (h:DQ w B g p b L x) (h':DQ w B' g p' b' L' x'):L=L':=by obtain ⟨_,_,_,h3⟩:=h;obtain ⟨_,_,_,h3'⟩:=h';exact h3.uniq h3'
theorem obj_dq {B:Zone} {g p p':Nat} {b b':Bd} {x x':Pg.Q}:Thing (fun w L=>∃Z,DQ w ⟨B.b,Z⟩ g p b L x) (fun w L=>∃Z,DQ w ⟨B.b,Z⟩ g p' b' L x') where
 keeps:=fun ⟨Z,h⟩ hk hd=>⟨Z,h.keeps hk hd⟩
 keeps':=fun ⟨Z,h⟩ hk hd=>⟨Z,h.keeps hk hd⟩
 inn:=fun ⟨_,h⟩=>h.in
 inn':=fun ⟨_,h⟩=>h.in
 uniq:=fun h h'=>by rcases h with ⟨_,h⟩ | ⟨_,h⟩<;>rcases h' with ⟨_,h'⟩ | ⟨_,h'⟩<;>exact h.uniq h'
end
section code
set_option maxHeartbeats 4000000
set_option maxRecDepth 20000
attribute [local go_sem] Base.some_undef
variable {w:World} {B:Zone} {g q:Nat} {v f bd t o:Value} {p:Nat} {b:Bd} {s:S} {x:Pg.Q} {L:List (Option Nat)}
theorem byteDead_any (c:UInt8) {e:Nat} (he:e≠0) (c25:w.cell? ⟨g,25,none⟩=some (.int .i64 (e:Int))) :
 Calls Tryz.prog 37 #[ptr g,.int .u8 (c.toNat:Int)] w fun r w'=>r=.returned (.tuple #[])∧w'=w:=by
 have t5:((e:Int)==0)=false:=beq_eq_false_iff_ne.2 (by omega);have n5:¬(e:Int)=0:=by omega
 go_enter Tryz.func37,Tryz.ntmps37;go_wp2;first | go_end0 | refine bodyPost_ret (results_none rfl _ _ _) rfl ?_
 exact ⟨rfl,rfl⟩
theorem byteRun_any (hp:p<4294967296) (c:UInt8) (h:Run w B g p b L s) (hr:Pg.RQ p b x s) (ok:x.Fine b) (ho:s.out.length≤999999998) :
 Calls Tryz.prog 37 #[ptr g,.int .u8 (c.toNat:Int)] w fun r w'=>r=.returned (.tuple #[])∧∃L',Run w' B g p b L' (s.byte p b c)∧Step L L' w w':=by
 cases x with
 | live y=>
   obtain ⟨ok1,ok2⟩:=ok;have hr:Pg.RR p b y s:=hr;rcases h with ⟨q,v,f,bd,t,o,rfl,h⟩ | ⟨rfl,h⟩
   ·refine (byteS_any hp ok2 c h hr ok1 ho).mono ?_;rintro r w' ⟨rfl,q1,v1,f1,bd1,t1,o1,hP,hS⟩;exact ⟨rfl,_,.inl ⟨q1,v1,f1,bd1,t1,o1,rfl,hP⟩,hS⟩
   ·exact absurd (hr.e.symm.trans h.e) (by decide)
 | dead e o=>
   have he:=hr.err;rw [S.byte_dead he];have key:∀c25:w.cell? ⟨g,25,none⟩=some (.int .i64 (s.e:Int)),Calls Tryz.prog 37 #[ptr g,.int .u8 (c.toNat:Int)] w fun r w'=>r=.returned (.tuple #[])∧∃L',Run w' B g p b L' s∧Step L L' w w':=by intro c25;refine (byteDead_any c he c25).mono ?_;rintro r w' ⟨rfl,rfl⟩;exact ⟨rfl,L,h,Step.refl⟩
   rcases h with ⟨q,v,f,bd,t,o,rfl,h1⟩ | ⟨rfl,h1⟩
   ·exact key h1.cs.c25
   ·exact key (by rw [h1.e];exact row_cellL h1.row rfl)
end code
end Go.Proofs.YtimoakmcelocfaaGreat.Par
namespace Go.Proofs.YtimoakmcelocfaaGreat.Par
open Go.RowKit Base Txt Mem Each
section
variable {w:World} {B:Zone} {g p:Nat} {b:Bd} {s:S} {x:Pg.Q} {L:List (Option Nat)}
theorem DAt.cell (h:DAt w B g p b L s):w.cell? ⟨g,25,none⟩=some (.int .i64 (s.e:Int))∧w.cell? ⟨g,24,none⟩=some (.bool s.clean):=by
 rcases h with ⟨q,v,f,bd,t,rfl,⟨o,hrow⟩,hown⟩ | ⟨rfl,h⟩
 ·exact ⟨row_cellL hrow rfl,row_cellL hrow rfl⟩
 ·rw [h.e,h.clean];exact ⟨row_cellL h.row rfl,row_cellL h.row rfl⟩
theorem DQ.e (h:DQ w B g p b L x):w.cell? ⟨g,25,none⟩=some (.int .i64 (x.err:Int)):=by obtain ⟨s,h1,h2,h3⟩:=h;rw [←(Pg.said_sim h1 h2).1];exact h3.cell.1
theorem DAt.told (h:DAt w B g p b L s):DAt w B g p b L {s with out:= []}:=by
 rcases h with ⟨q,v,f,bd,t,rfl,hrow,hown⟩ | ⟨rfl,h⟩
 ·exact .inl ⟨q,v,f,bd,t,rfl,hrow,hown⟩
 ·exact .inr ⟨rfl,h.row,h.e,h.clean,rfl,h.ge,h.zone⟩
end
section code
set_option maxHeartbeats 4000000
set_option maxRecDepth 20000
attribute [local go_sem] Base.some_undef
variable {w:World} {B:Zone} {g q:Nat} {v f bd t o:Value} {p:Nat} {b:Bd} {s:S} {x:Pg.Q} {L:List (Option Nat)}
theorem next_new (hrow:w.heap[g]?=some (.cells (ncells p b true 0).toArray 59 (0,0))) (hB:B≤g) (hz:B.z= []):Calls Tryz.prog 36 #[ptr g] w fun r w'=>
 r=.returned (.tuple #[])∧∃q1,PR w' B g q1 nil nil nil nil nil p b ⟨0,nl p b.x0,zero,0,0,0,false,true,0,[]⟩∧Keeps [some g] w w':=by
 have hlt:=Ln.row_lt hrow
 have HR1:=Lib.hid (show (((((((((((((w.setCell ⟨g,13,none⟩ (.string E0)).setCell ⟨g,14,none⟩ (.string E0)).setCell ⟨g,15,none⟩ (.int .i64 0)).setCell ⟨g,16,none⟩ (nil)).setCell ⟨g,17,none⟩ (.bool false)).setCell ⟨g,18,none⟩ (nil)).setCell ⟨g,19,none⟩ (nil)).setCell ⟨g,11,none⟩ (.int .i64 0)).setCell ⟨g,20,none⟩ (.int .i64 0)).setCell ⟨g,21,none⟩ (.int .i64 0)).setCell ⟨g,23,none⟩ (.bool false)).setCell ⟨g,24,none⟩ (.bool true))).heap[g]?=some (.cells (ncells p b true 0).toArray 59 (0,0)) from (row_setL (row_setL (row_setL (row_setL (row_setL (row_setL (row_setL (row_setL (row_setL (row_setL (row_setL (row_setL hrow 13 (.string E0)) 14 (.string E0)) 15 (.int .i64 0)) 16 (nil)) 17 (.bool false)) 18 (nil)) 19 (nil)) 11 (.int .i64 0)) 20 (.int .i64 0)) 21 (.int .i64 0)) 23 (.bool false)) 24 (.bool true)))
 have HK1:=Lib.hid (show Keeps [some g] w ((((((((((((w.setCell ⟨g,13,none⟩ (.string E0)).setCell ⟨g,14,none⟩ (.string E0)).setCell ⟨g,15,none⟩ (.int .i64 0)).setCell ⟨g,16,none⟩ (nil)).setCell ⟨g,17,none⟩ (.bool false)).setCell ⟨g,18,none⟩ (nil)).setCell ⟨g,19,none⟩ (nil)).setCell ⟨g,11,none⟩ (.int .i64 0)).setCell ⟨g,20,none⟩ (.int .i64 0)).setCell ⟨g,21,none⟩ (.int .i64 0)).setCell ⟨g,23,none⟩ (.bool false)).setCell ⟨g,24,none⟩ (.bool true)) from ((((((((((((Keeps.set (L:= [some g]) g 13 (.string E0) (by simp)).trans (Keeps.set (L:= [some g]) g 14 (.string E0) (by simp)) Of.refl).trans (Keeps.set (L:= [some g]) g 15 (.int .i64 0) (by simp)) Of.refl).trans (Keeps.set (L:= [some g]) g 16 (nil) (by simp)) Of.refl).trans (Keeps.set (L:= [some g]) g 17 (.bool false) (by simp)) Of.refl).trans (Keeps.set (L:= [some g]) g 18 (nil) (by simp)) Of.refl).trans (Keeps.set (L:= [some g]) g 19 (nil) (by simp)) Of.refl).trans (Keeps.set (L:= [some g]) g 11 (.int .i64 0) (by simp)) Of.refl).trans (Keeps.set (L:= [some g]) g 20 (.int .i64 0) (by simp)) Of.refl).trans (Keeps.set (L:= [some g]) g 21 (.int .i64 0) (by simp)) Of.refl).trans (Keeps.set (L:= [some g]) g 23 (.bool false) (by simp)) Of.refl).trans (Keeps.set (L:= [some g]) g 24 (.bool true) (by simp)) Of.refl));have c11:=row_cellL hrow (k:=11) rfl;have z11:=Ln.row_frozen hrow 11;have c13:=row_cellL hrow (k:=13) rfl;have z13:=Ln.row_frozen hrow 13;have c14:=row_cellL hrow (k:=14) rfl;have z14:=Ln.row_frozen hrow 14;have c15:=row_cellL hrow (k:=15) rfl;have z15:=Ln.row_frozen hrow 15;have c16:=row_cellL hrow (k:=16) rfl;have z16:=Ln.row_frozen hrow 16;have c17:=row_cellL hrow (k:=17) rfl;have z17:=Ln.row_frozen hrow 17;have c18:=row_cellL hrow (k:=18) rfl;have z18:=Ln.row_frozen hrow 18;have c19:=row_cellL hrow (k:=19) rfl;have z19:=Ln.row_frozen hrow 19;have c20:=row_cellL hrow (k:=20) rfl;have z20:=Ln.row_frozen hrow 20;have c21:=row_cellL hrow (k:=21) rfl;have z21:=Ln.row_frozen hrow 21;have c23:=row_cellL hrow (k:=23) rfl;have z23:=Ln.row_frozen hrow 23;have c24:=row_cellL hrow (k:=24) rfl;have z24:=Ln.row_frozen hrow 24;have HB:=Lib.hid hB;have HZ:=Lib.hid hz;clear hrow hB hlt hz;go_enter Tryz.func36,Tryz.ntmps36;go_upto_region 1 with fail
 generalize ((((((((((((w.setCell ⟨g,13,none⟩ (.string E0)).setCell ⟨g,14,none⟩ (.string E0)).setCell ⟨g,15,none⟩ (.int .i64 0)).setCell ⟨g,16,none⟩ (nil)).setCell ⟨g,17,none⟩ (.bool false)).setCell ⟨g,18,none⟩ (nil)).setCell ⟨g,19,none⟩ (nil)).setCell ⟨g,11,none⟩ (.int .i64 0)).setCell ⟨g,20,none⟩ (.int .i64 0)).setCell ⟨g,21,none⟩ (.int .i64 0)).setCell ⟨g,23,none⟩ (.bool false)).setCell ⟨g,24,none⟩ (.bool true))=W1 at *;clear c13 z13 c14 z14 c15 z15 c16 z16 c17 z17 c18 z18 c19 z19 c11 z11 c20 z20 c21 z21 c23 z23 c24 z24
 have HRD:=Lib.hid (show (W1.drewN 1).heap[g]?=some (.cells (ncells p b true 0).toArray 59 (0,0)) from HR1.out)
 have HQ:=Lib.hid (show Rec.Bk (W1.drewN 1) g (ncells p b true 0) from ⟨fun _ _ hu=>row_cellL HRD.out hu,fun k _=>Ln.row_frozen HRD.out k,Ln.row_lt HRD.out⟩)
 have HBW:=Lib.hid (show B≤(W1.drewN 1).heap.size from Nat.le_trans HB.out (Nat.le_of_lt (Ln.row_lt HRD.out)));refine Each.region 11 [21,22,23,24,25,26,27,28,29,30,31]
  [Each.is (.pointer (some ⟨g,0,none⟩)),
    Each.is (.pointer (some ⟨g,0,none⟩)),
    Each.is (.pointer (some ⟨g,0,none⟩)),
    Each.is (.pointer (some ⟨g,0,none⟩)),
    Each.is (.int .u32 (p:Int)),
    Each.is (.pointer (some ⟨g,0,none⟩)),
    Each.is (.pointer (some ⟨g,0,none⟩)),
    Each.is (.pointer (some ⟨g,1,none⟩)),
    Each.is (.pointer (some ⟨g,1,none⟩)),
    Each.is (.int .i64 b.x0),
    fun v w=>∃q1,v=ptr q1∧W1.heap.size≤q1∧Ln.Rr w B.b q1 nil p (nl p (b.x0))]
  (.quiet 11 (.quiet 12 (.act 13 .done))) (by kernel_rfl) (by kernel_rfl) (by kernel_rfl) (by kernel_rfl) (fun _ _ d _ _ h=>by cases d<;>exact h) (by rfl) (by rfl)
  ⟨Each.Lasts.eq _,Each.Lasts.eq _,Each.Lasts.eq _,Each.Lasts.eq _,Each.Lasts.eq _,Each.Lasts.eq _,Each.Lasts.eq _,Each.Lasts.eq _,Each.Lasts.eq _,Each.Lasts.eq _,((fun _ _ _ hb h=>by obtain ⟨q1,e1,h1,h2⟩:=h;exact ⟨q1,e1,h1,rr_below h2 hb⟩)),trivial⟩ ?_ ?_
 ·refine ⟨?_,?_,?_,?_,?_,?_,?_,?_,?_,?_,?_,trivial⟩
  ·refine Each.fine rfl (fun ev w1 hR hb hh=>?_);clear hh;have e0:=hR.old 0 rfl;simp only [qA,qT,qZ,qO] at e0;refine Each.Goes.same ?_;go_simp;try with_reducible rfl
  ·refine Each.fine rfl (fun ev w1 hR hb hh=>?_);clear hh;have e0:=hR.old 0 rfl;simp only [qA,qT,qZ,qO] at e0;refine Each.Goes.same ?_;go_simp;try with_reducible rfl
  ·refine Each.fine rfl (fun ev w1 hR hb hh=>?_);have e22:(ev (.tmp 22)=.pointer (some ⟨g,0,none⟩)):=hh.at 0;clear hh;refine Each.Goes.same ?_;go_simp;try with_reducible rfl
  ·refine Each.fine rfl (fun ev w1 hR hb hh=>?_);have e23:(ev (.tmp 23)=.pointer (some ⟨g,0,none⟩)):=hh.at 0;clear hh;refine Each.Goes.same ?_;go_simp;try with_reducible rfl
  ·refine Each.fine rfl (fun ev w1 hR hb hh=>?_);have e24:(ev (.tmp 24)=.pointer (some ⟨g,0,none⟩)):=hh.at 0;clear hh;have q0:=(HQ.out.below hb).c 0 _ rfl;refine Each.Goes.same ?_;go_simp;try with_reducible rfl
  ·refine Each.fine rfl (fun ev w1 hR hb hh=>?_);clear hh;have e0:=hR.old 0 rfl;simp only [qA,qT,qZ,qO] at e0;refine Each.Goes.same ?_;go_simp;try with_reducible rfl
  ·refine Each.fine rfl (fun ev w1 hR hb hh=>?_);have e26:(ev (.tmp 26)=.pointer (some ⟨g,0,none⟩)):=hh.at 0;clear hh;refine Each.Goes.same ?_;go_simp;try with_reducible rfl
  ·refine Each.fine rfl (fun ev w1 hR hb hh=>?_);have e27:(ev (.tmp 27)=.pointer (some ⟨g,0,none⟩)):=hh.at 0;clear hh;refine Each.Goes.same ?_;go_simp;try with_reducible rfl
  ·refine Each.fine rfl (fun ev w1 hR hb hh=>?_);have e28:(ev (.tmp 28)=.pointer (some ⟨g,1,none⟩)):=hh.at 0;clear hh;refine Each.Goes.same ?_;go_simp;try with_reducible rfl
  ·refine Each.fine rfl (fun ev w1 hR hb hh=>?_);have e29:(ev (.tmp 29)=.pointer (some ⟨g,1,none⟩)):=hh.at 0;clear hh;have q1:=(HQ.out.below hb).c 1 _ rfl;refine Each.Goes.same ?_;go_simp;try with_reducible rfl
  ·refine Each.fine rfl (fun ev w1 hR hb hh=>?_);have e25:(ev (.tmp 25)=.int .u32 (p:Int)):=hh.at 0;have e30:(ev (.tmp 30)=.int .i64 b.x0):=hh.at 1;clear hh;have ef:=hR.func
   refine Each.Goes.enter 55 #[.int .u32 (p:Int),.int .i64 (b.x0)] (by go_simp) ((rnew_line B.b (b.x0) w1 (Nat.le_trans HBW.out hb.size)).mono ?_);rintro r w2 ⟨q1,rfl,h1,h2,hb2⟩;exact ⟨_,rfl,hb2,q1,rfl,Nat.le_trans hb.size h1,h2⟩
 intro g1 w2 hb hf;have z21:(g1 21=.pointer (some ⟨g,0,none⟩)):=hf.at 0;have z31:((fun v w=>∃q1,v=ptr q1∧W1.heap.size≤q1∧Ln.Rr w B.b q1 nil p (nl p (b.x0))) (g1 31) w2):=hf.at 10;clear hf;obtain ⟨q1,e1,hq1,hr1⟩:=z31;simp only [Each.putg,Act.put,qI,qY,qX];rw [e1,z21];simp only [Tree.grow,Tree.put1,qZ,qS];refine Tree.quiet (by rfl) (ptr g) (fun _ _=>by go_simp) ?_;simp only [Act.put,qI,qY,qX];refine Tree.quiet (by rfl) (.pointer (some ⟨g,12,none⟩)) (fun _ _=>by go_simp) ?_;simp only [Act.put,qI,qY,qX];have hrow2:=(hb.block g (Ln.row_lt HR1.out)).trans HR1.out;have c12:=row_cellL hrow2 (k:=12) rfl;have z12:=Ln.row_frozen hrow2 12
 refine Tree.change (by rfl) (fun K hK=>?_);go_simp;refine hK _ _ trivial ?_;clear hK K;refine Tree.done ?_;have HR2:=Lib.hid hrow2;have HRR:=Lib.hid hr1;have HQ1:=Lib.hid hq1;have HB2:=Lib.hid hb;clear HQ HBW HRD hr1 hq1 hrow2 c12 z12 hb;go_wp2;go_end0;have hgq:g≠q1:=by have:=Ln.row_lt HR1.out;have:=HQ1.out;omega
 have hk:Keeps [some g] w2 (w2.setCell ⟨g,12,none⟩ (ptr q1)):=Keeps.set g 12 _ (by simp);refine ⟨rfl,q1,⟨row_setL HR2.out 12 (ptr q1),⟨⟨hk.row HRR.out.row (by simpa using fun e=>hgq e.symm),hk.own HRR.out.own (by simp [Value.ownBlock]),HRR.out.ge,HRR.out.ne⟩,World.ownsRow_nil _ _ _ _,World.ownsRow_nil _ _ _ _,World.ownsRow_nil _ _ _ _,⟨[],rfl,(by intro x hx;cases hx),World.ownsRow_nil _ _ _ _⟩,?_,HB.out,by have:=Ln.row_lt HR2.out;simpa using this,by rw [HZ.out];exact Clear.nil⟩⟩,(HK1.out.trans (Keeps.of_below HB2.out) Of.refl).trans hk Of.refl⟩;intro i j k hi hj;rcases i with _ | _ | _ | _ | _ | _ | _ | i<;>rcases j with _ | _ | _ | _ | _ | _ | _ | j<;>simp [Value.ownBlock] at hi hj ⊢<;>omega
theorem fine_new (p:Nat) (b:Bd):(Pg.Q.new p b).Fine b:=fine_of (Pg.Q.new_ok p b)
theorem dnew_any (hp:p<4294967296) (w:World):Calls Tryz.prog 20 #[.int .u32 (p:Int),.agg #[.int .i64 b.x0,.int .i64 b.x1,.int .i64 b.x2,.int .i64 b.x3,.int .i64 b.x4,.int .i64 b.x5,.int .i64 b.x6,.int .i64 b.x7,.bool b.ch,.bool b.od]] w fun r w'=>
 ∃g L',r=.returned (ptr g)∧w.heap.size≤g∧DQ w' ⟨w.heap.size,[]⟩ g p b L' (Pg.Q.new p b)∧Below w.heap.size w w':=by
 have hqr:=fun w=>Qk.rright_any p hp w;have hbr:=fun w=>Bnd.rright_any b.x0 b.x1 b.x2 b.x3 b.x4 b.x5 b.x6 b.x7 b.ch b.od w
 have HB0:=Lib.hid (((Below.refl _ _).alloc (Nat.le_refl _) (.cells #[.int .i64 b.x0,.int .i64 b.x1,.int .i64 b.x2,.int .i64 b.x3,.int .i64 b.x4,.int .i64 b.x5,.int .i64 b.x6,.int .i64 b.x7,.bool b.ch,.bool b.od] 24)):Below w.heap.size w _)
 have HZ0:=Lib.hid (Rec.Bk.new w w.heap.size rfl 24 [.int .i64 b.x0,.int .i64 b.x1,.int .i64 b.x2,.int .i64 b.x3,.int .i64 b.x4,.int .i64 b.x5,.int .i64 b.x6,.int .i64 b.x7,.bool b.ch,.bool b.od])
 have HSZ:=Lib.hid (show w.heap.size<(w.alloc (.cells #[.int .i64 b.x0,.int .i64 b.x1,.int .i64 b.x2,.int .i64 b.x3,.int .i64 b.x4,.int .i64 b.x5,.int .i64 b.x6,.int .i64 b.x7,.bool b.ch,.bool b.od] 24)).heap.size by simp)
 have HSIM:=Lib.hid (Pg.new_sim (p:=p) (b:=b));have HFI:=Lib.hid (fine_new p b);have hnew:Pg.Q.new p b=if (b.right&&decide (p<1073741824))=true then .live (Pg.T.new p b) else .dead 20 []:=rfl
 have hsn:S.new p b=if (b.right&&decide (p<1073741824))=true then ⟨0,nl p b.x0,zero,0,0,0,false,true,0,[]⟩ else ⟨0,nl p b.x0,zero,0,0,0,false,false,20,[]⟩:=rfl
 generalize Pg.Q.new p b=X at HSIM HFI hnew ⊢;generalize S.new p b=s0 at HSIM hsn;have good:b.right=true→p<1073741824→s0=⟨0,nl p b.x0,zero,0,0,0,false,true,0,[]⟩:=fun h1 h2=>by rw [hsn,if_pos (by rw [h1,decide_eq_true h2];rfl)]
 have bad:¬(b.right=true∧p<1073741824)→s0=⟨0,nl p b.x0,zero,0,0,0,false,false,20,[]⟩:=fun h=>by rw [hsn,if_neg (by simpa using h)]
 clear hnew hsn;by_cases hok:b.right=true∧p<1073741824
 ·have es:=good hok.1 hok.2;subst es;rw [decide_eq_true hok.2] at hqr;rw [show Bnd.right b.x0 b.x1 b.x2 b.x3 b.x4 b.x5 b.x6 b.x7=true from hok.1] at hbr;have HQR:=Lib.hid hqr;have HBR:=Lib.hid hbr;clear hqr hbr good bad hok;go_enter Tryz.func20,Tryz.ntmps20;go_upto_region 1 with fail
  generalize w.alloc (.cells #[.int .i64 b.x0,.int .i64 b.x1,.int .i64 b.x2,.int .i64 b.x3,.int .i64 b.x4,.int .i64 b.x5,.int .i64 b.x6,.int .i64 b.x7,.bool b.ch,.bool b.od] 24)=W0 at *;have y0:=HZ0.out.c 0 _ rfl;have y1:=HZ0.out.c 1 _ rfl;have y2:=HZ0.out.c 2 _ rfl;have y3:=HZ0.out.c 3 _ rfl;have y4:=HZ0.out.c 4 _ rfl;have y5:=HZ0.out.c 5 _ rfl;have y6:=HZ0.out.c 6 _ rfl;have y7:=HZ0.out.c 7 _ rfl;have y8:=HZ0.out.c 8 _ rfl;have y9:=HZ0.out.c 9 _ rfl
  have HG:=Lib.hid (Nat.le_of_lt HSZ.out)
  have HR4:=Lib.hid (heap_alloc_new W0 (.cells #[.int .u32 (p:Int),.int .i64 b.x0,.int .i64 b.x1,.int .i64 b.x2,.int .i64 b.x3,.int .i64 b.x4,.int .i64 b.x5,.int .i64 b.x6,.int .i64 b.x7,.bool b.ch,.bool b.od,.int .i64 0,.pointer none,.string E0,.string E0,.int .i64 0,nil,.bool false,nil,nil,.int .i64 0,.int .i64 0,.int .i64 0,.bool false,.bool true,.int .i64 0,nil] 59))
  have HB4:=Lib.hid (HB0.out.alloc HG.out (.cells #[.int .u32 (p:Int),.int .i64 b.x0,.int .i64 b.x1,.int .i64 b.x2,.int .i64 b.x3,.int .i64 b.x4,.int .i64 b.x5,.int .i64 b.x6,.int .i64 b.x7,.bool b.ch,.bool b.od,.int .i64 0,.pointer none,.string E0,.string E0,.int .i64 0,nil,.bool false,nil,nil,.int .i64 0,.int .i64 0,.int .i64 0,.bool false,.bool true,.int .i64 0,nil] 59))
  have HX4:=Lib.hid (HZ0.out.alloc (.cells #[.int .u32 (p:Int),.int .i64 b.x0,.int .i64 b.x1,.int .i64 b.x2,.int .i64 b.x3,.int .i64 b.x4,.int .i64 b.x5,.int .i64 b.x6,.int .i64 b.x7,.bool b.ch,.bool b.od,.int .i64 0,.pointer none,.string E0,.string E0,.int .i64 0,nil,.bool false,nil,nil,.int .i64 0,.int .i64 0,.int .i64 0,.bool false,.bool true,.int .i64 0,nil] 59))
  have HLT:=Lib.hid (show W0.heap.size<(W0.alloc (.cells #[.int .u32 (p:Int),.int .i64 b.x0,.int .i64 b.x1,.int .i64 b.x2,.int .i64 b.x3,.int .i64 b.x4,.int .i64 b.x5,.int .i64 b.x6,.int .i64 b.x7,.bool b.ch,.bool b.od,.int .i64 0,.pointer none,.string E0,.string E0,.int .i64 0,nil,.bool false,nil,nil,.int .i64 0,.int .i64 0,.int .i64 0,.bool false,.bool true,.int .i64 0,nil] 59)).heap.size by simp);go_upto_region 2 with fail
  generalize hgg:W0.heap.size=g at *;generalize W0.alloc (.cells #[.int .u32 (p:Int),.int .i64 b.x0,.int .i64 b.x1,.int .i64 b.x2,.int .i64 b.x3,.int .i64 b.x4,.int .i64 b.x5,.int .i64 b.x6,.int .i64 b.x7,.bool b.ch,.bool b.od,.int .i64 0,.pointer none,.string E0,.string E0,.int .i64 0,nil,.bool false,nil,nil,.int .i64 0,.int .i64 0,.int .i64 0,.bool false,.bool true,.int .i64 0,nil] 59)=W2 at *;clear y0 y1 y2 y3 y4 y5 y6 y7 y8 y9;have x0:=HX4.out.c 0 _ rfl;have x1:=HX4.out.c 1 _ rfl;have x2:=HX4.out.c 2 _ rfl;have x3:=HX4.out.c 3 _ rfl;have x4:=HX4.out.c 4 _ rfl;have x5:=HX4.out.c 5 _ rfl;have x6:=HX4.out.c 6 _ rfl;have x7:=HX4.out.c 7 _ rfl;have x8:=HX4.out.c 8 _ rfl;have x9:=HX4.out.c 9 _ rfl
  go_wp2_with (first
   |(go_at_call 36;with_reducible refine (next_new (B:=⟨w.heap.size,[]⟩) HR5.out HG.out rfl).mono ?_;rintro r w5 ⟨rfl,q1,hP,hK⟩)
   |(go_at_call 17;with_reducible refine (HQR.out _).mono ?_;rintro r w4 ⟨rfl,hw⟩;rw [hw];clear hw)
   |(go_at_call 16;with_reducible refine (HBR.out _).mono ?_;rintro r w3 ⟨rfl,hb3⟩
     have HB3:=Lib.hid hb3
     have HR5:=Lib.hid ((hb3.block g HLT.out).trans HR4.out);clear hb3))
  go_ret;have hbw:=Base.below_step HB4.out HB3.out;exact ⟨g,_,rfl,HG.out,⟨_,HSIM.out,HFI.out,.inl ⟨q1,nil,nil,nil,nil,rfl,⟨nil,hP.row⟩,hP.own⟩⟩,hbw.trans (hK.below hbw.size (fun k hk=>by rw [Option.some.inj (List.mem_singleton.1 hk)];exact HG.out))⟩
 ·have es:=bad hok;subst es;have hbr':b.right=false∨(b.right=true∧decide (p<1073741824)=false):=by
   cases h:b.right with
   | false=>exact .inl rfl
   | true=>exact .inr ⟨rfl,decide_eq_false fun e=>hok ⟨h,e⟩⟩
  clear good bad hok;have HQR:=Lib.hid hqr;have HBR:=Lib.hid hbr;clear hqr hbr;have key:∀(W0:World) (W:World),Below w.heap.size w W→w.heap.size≤W0.heap.size→W0.heap.size<W.heap.size→W.heap[W0.heap.size]?=some (.cells (ncells p b true 0).toArray 59 (0,0))→
   ∃g L',(Ending.returned (ptr W0.heap.size))=.returned (ptr g)∧w.heap.size≤g∧DQ ((W.setCell ⟨W0.heap.size,25,none⟩ (.int .i64 20)).setCell ⟨W0.heap.size,24,none⟩ (.bool false)) ⟨w.heap.size,[]⟩ g p b L' X∧Below w.heap.size w ((W.setCell ⟨W0.heap.size,25,none⟩ (.int .i64 20)).setCell ⟨W0.heap.size,24,none⟩ (.bool false)):=by
   intro W0 W hb hg hlt hr;have hk:Keeps [some W0.heap.size] W ((W.setCell ⟨W0.heap.size,25,none⟩ (.int .i64 20)).setCell ⟨W0.heap.size,24,none⟩ (.bool false)):=(Keeps.set _ 25 _ (by simp)).trans (Keeps.set _ 24 _ (by simp)) Of.refl;exact ⟨W0.heap.size,[some W0.heap.size],rfl,hg,⟨_,HSIM.out,HFI.out,.inr ⟨rfl,row_setL (row_setL hr 25 (.int .i64 20)) 24 (.bool false),rfl,rfl,rfl,hg,Clear.nil⟩⟩,hb.trans (hk.below hb.size (fun k hk=>by rw [Option.some.inj (List.mem_singleton.1 hk)];exact hg))⟩
  have KEY:=Lib.hid key;clear key HSIM HFI;rcases hbr' with h1 | ⟨h1,h2⟩
  ·rw [show Bnd.right b.x0 b.x1 b.x2 b.x3 b.x4 b.x5 b.x6 b.x7=false from h1] at HBR;clear HQR h1;go_enter Tryz.func20,Tryz.ntmps20;go_upto_region 1 with fail
   generalize w.alloc (.cells #[.int .i64 b.x0,.int .i64 b.x1,.int .i64 b.x2,.int .i64 b.x3,.int .i64 b.x4,.int .i64 b.x5,.int .i64 b.x6,.int .i64 b.x7,.bool b.ch,.bool b.od] 24)=W0 at *;have y0:=HZ0.out.c 0 _ rfl;have y1:=HZ0.out.c 1 _ rfl;have y2:=HZ0.out.c 2 _ rfl;have y3:=HZ0.out.c 3 _ rfl;have y4:=HZ0.out.c 4 _ rfl;have y5:=HZ0.out.c 5 _ rfl;have y6:=HZ0.out.c 6 _ rfl;have y7:=HZ0.out.c 7 _ rfl;have y8:=HZ0.out.c 8 _ rfl;have y9:=HZ0.out.c 9 _ rfl
   have HG:=Lib.hid (Nat.le_of_lt HSZ.out)
   have HR4:=Lib.hid (heap_alloc_new W0 (.cells #[.int .u32 (p:Int),.int .i64 b.x0,.int .i64 b.x1,.int .i64 b.x2,.int .i64 b.x3,.int .i64 b.x4,.int .i64 b.x5,.int .i64 b.x6,.int .i64 b.x7,.bool b.ch,.bool b.od,.int .i64 0,.pointer none,.string E0,.string E0,.int .i64 0,nil,.bool false,nil,nil,.int .i64 0,.int .i64 0,.int .i64 0,.bool false,.bool true,.int .i64 0,nil] 59))
   have HB4:=Lib.hid (HB0.out.alloc HG.out (.cells #[.int .u32 (p:Int),.int .i64 b.x0,.int .i64 b.x1,.int .i64 b.x2,.int .i64 b.x3,.int .i64 b.x4,.int .i64 b.x5,.int .i64 b.x6,.int .i64 b.x7,.bool b.ch,.bool b.od,.int .i64 0,.pointer none,.string E0,.string E0,.int .i64 0,nil,.bool false,nil,nil,.int .i64 0,.int .i64 0,.int .i64 0,.bool false,.bool true,.int .i64 0,nil] 59))
   have HX4:=Lib.hid (HZ0.out.alloc (.cells #[.int .u32 (p:Int),.int .i64 b.x0,.int .i64 b.x1,.int .i64 b.x2,.int .i64 b.x3,.int .i64 b.x4,.int .i64 b.x5,.int .i64 b.x6,.int .i64 b.x7,.bool b.ch,.bool b.od,.int .i64 0,.pointer none,.string E0,.string E0,.int .i64 0,nil,.bool false,nil,nil,.int .i64 0,.int .i64 0,.int .i64 0,.bool false,.bool true,.int .i64 0,nil] 59))
   have HLT:=Lib.hid (show W0.heap.size<(W0.alloc (.cells #[.int .u32 (p:Int),.int .i64 b.x0,.int .i64 b.x1,.int .i64 b.x2,.int .i64 b.x3,.int .i64 b.x4,.int .i64 b.x5,.int .i64 b.x6,.int .i64 b.x7,.bool b.ch,.bool b.od,.int .i64 0,.pointer none,.string E0,.string E0,.int .i64 0,nil,.bool false,nil,nil,.int .i64 0,.int .i64 0,.int .i64 0,.bool false,.bool true,.int .i64 0,nil] 59)).heap.size by simp);go_upto_region 2 with fail
   generalize W0.alloc (.cells #[.int .u32 (p:Int),.int .i64 b.x0,.int .i64 b.x1,.int .i64 b.x2,.int .i64 b.x3,.int .i64 b.x4,.int .i64 b.x5,.int .i64 b.x6,.int .i64 b.x7,.bool b.ch,.bool b.od,.int .i64 0,.pointer none,.string E0,.string E0,.int .i64 0,nil,.bool false,nil,nil,.int .i64 0,.int .i64 0,.int .i64 0,.bool false,.bool true,.int .i64 0,nil] 59)=W2 at *;clear y0 y1 y2 y3 y4 y5 y6 y7 y8 y9;have x0:=HX4.out.c 0 _ rfl;have x1:=HX4.out.c 1 _ rfl;have x2:=HX4.out.c 2 _ rfl;have x3:=HX4.out.c 3 _ rfl;have x4:=HX4.out.c 4 _ rfl;have x5:=HX4.out.c 5 _ rfl;have x6:=HX4.out.c 6 _ rfl;have x7:=HX4.out.c 7 _ rfl;have x8:=HX4.out.c 8 _ rfl;have x9:=HX4.out.c 9 _ rfl;go_upto_region 3 with
    (go_at_call 16;with_reducible refine (HBR.out _).mono ?_;rintro r w3 ⟨rfl,hb3⟩
     have HB3:=Lib.hid hb3;have hr5:=(hb3.block _ HLT.out).trans HR4.out;have d25:=row_cellL hr5 (k:=25) rfl;have e25:=Ln.row_frozen hr5 25;have d24:=row_cellL hr5 (k:=24) rfl;have e24:=Ln.row_frozen hr5 24;have HR5:=Lib.hid hr5;clear hb3 hr5)
   clear x0 x1 x2 x3 x4 x5 x6 x7 x8 x9;go_wp2_with fail;go_ret;exact KEY.out W0 _ (Base.below_step HB4.out HB3.out) HG.out (Nat.lt_of_lt_of_le HLT.out HB3.out.size) HR5.out
  ·rw [show Bnd.right b.x0 b.x1 b.x2 b.x3 b.x4 b.x5 b.x6 b.x7=true from h1] at HBR;rw [h2] at HQR;clear h1 h2;go_enter Tryz.func20,Tryz.ntmps20;go_upto_region 1 with fail
   generalize w.alloc (.cells #[.int .i64 b.x0,.int .i64 b.x1,.int .i64 b.x2,.int .i64 b.x3,.int .i64 b.x4,.int .i64 b.x5,.int .i64 b.x6,.int .i64 b.x7,.bool b.ch,.bool b.od] 24)=W0 at *;have y0:=HZ0.out.c 0 _ rfl;have y1:=HZ0.out.c 1 _ rfl;have y2:=HZ0.out.c 2 _ rfl;have y3:=HZ0.out.c 3 _ rfl;have y4:=HZ0.out.c 4 _ rfl;have y5:=HZ0.out.c 5 _ rfl;have y6:=HZ0.out.c 6 _ rfl;have y7:=HZ0.out.c 7 _ rfl;have y8:=HZ0.out.c 8 _ rfl;have y9:=HZ0.out.c 9 _ rfl
   have HG:=Lib.hid (Nat.le_of_lt HSZ.out)
   have HR4:=Lib.hid (heap_alloc_new W0 (.cells #[.int .u32 (p:Int),.int .i64 b.x0,.int .i64 b.x1,.int .i64 b.x2,.int .i64 b.x3,.int .i64 b.x4,.int .i64 b.x5,.int .i64 b.x6,.int .i64 b.x7,.bool b.ch,.bool b.od,.int .i64 0,.pointer none,.string E0,.string E0,.int .i64 0,nil,.bool false,nil,nil,.int .i64 0,.int .i64 0,.int .i64 0,.bool false,.bool true,.int .i64 0,nil] 59))
   have HB4:=Lib.hid (HB0.out.alloc HG.out (.cells #[.int .u32 (p:Int),.int .i64 b.x0,.int .i64 b.x1,.int .i64 b.x2,.int .i64 b.x3,.int .i64 b.x4,.int .i64 b.x5,.int .i64 b.x6,.int .i64 b.x7,.bool b.ch,.bool b.od,.int .i64 0,.pointer none,.string E0,.string E0,.int .i64 0,nil,.bool false,nil,nil,.int .i64 0,.int .i64 0,.int .i64 0,.bool false,.bool true,.int .i64 0,nil] 59))
   have HX4:=Lib.hid (HZ0.out.alloc (.cells #[.int .u32 (p:Int),.int .i64 b.x0,.int .i64 b.x1,.int .i64 b.x2,.int .i64 b.x3,.int .i64 b.x4,.int .i64 b.x5,.int .i64 b.x6,.int .i64 b.x7,.bool b.ch,.bool b.od,.int .i64 0,.pointer none,.string E0,.string E0,.int .i64 0,nil,.bool false,nil,nil,.int .i64 0,.int .i64 0,.int .i64 0,.bool false,.bool true,.int .i64 0,nil] 59))
   have HLT:=Lib.hid (show W0.heap.size<(W0.alloc (.cells #[.int .u32 (p:Int),.int .i64 b.x0,.int .i64 b.x1,.int .i64 b.x2,.int .i64 b.x3,.int .i64 b.x4,.int .i64 b.x5,.int .i64 b.x6,.int .i64 b.x7,.bool b.ch,.bool b.od,.int .i64 0,.pointer none,.string E0,.string E0,.int .i64 0,nil,.bool false,nil,nil,.int .i64 0,.int .i64 0,.int .i64 0,.bool false,.bool true,.int .i64 0,nil] 59)).heap.size by simp);go_upto_region 2 with fail
   generalize W0.alloc (.cells #[.int .u32 (p:Int),.int .i64 b.x0,.int .i64 b.x1,.int .i64 b.x2,.int .i64 b.x3,.int .i64 b.x4,.int .i64 b.x5,.int .i64 b.x6,.int .i64 b.x7,.bool b.ch,.bool b.od,.int .i64 0,.pointer none,.string E0,.string E0,.int .i64 0,nil,.bool false,nil,nil,.int .i64 0,.int .i64 0,.int .i64 0,.bool false,.bool true,.int .i64 0,nil] 59)=W2 at *;clear y0 y1 y2 y3 y4 y5 y6 y7 y8 y9;have x0:=HX4.out.c 0 _ rfl;have x1:=HX4.out.c 1 _ rfl;have x2:=HX4.out.c 2 _ rfl;have x3:=HX4.out.c 3 _ rfl;have x4:=HX4.out.c 4 _ rfl;have x5:=HX4.out.c 5 _ rfl;have x6:=HX4.out.c 6 _ rfl;have x7:=HX4.out.c 7 _ rfl;have x8:=HX4.out.c 8 _ rfl;have x9:=HX4.out.c 9 _ rfl
   go_upto_region 3 with (first
    |(go_at_call 17;with_reducible refine (HQR.out _).mono ?_;rintro r w4 ⟨rfl,hw⟩;rw [hw];clear hw)
    |(go_at_call 16;with_reducible refine (HBR.out _).mono ?_;rintro r w3 ⟨rfl,hb3⟩
      have HB3:=Lib.hid hb3;have hr5:=(hb3.block _ HLT.out).trans HR4.out;have d25:=row_cellL hr5 (k:=25) rfl;have e25:=Ln.row_frozen hr5 25;have d24:=row_cellL hr5 (k:=24) rfl;have e24:=Ln.row_frozen hr5 24;have HR5:=Lib.hid hr5;clear hb3 hr5))
   clear x0 x1 x2 x3 x4 x5 x6 x7 x8 x9;go_wp2_with fail;go_ret;exact KEY.out W0 _ (Base.below_step HB4.out HB3.out) HG.out (Nat.lt_of_lt_of_le HLT.out HB3.out.size) HR5.out
end code
end Go.Proofs.YtimoakmcelocfaaGreat.Par
namespace Go.Proofs.YtimoakmcelocfaaGreat.Pg
open Go.RowKit Base Txt Par
def T.pre (o:List Rec.R) (t:T):T:={t with out:=o++t.out}
def Q.pre (o:List Rec.R):Q→Q
 | .live t=>.live (t.pre o)
 | .dead e x=>.dead e (o++x)
section
variable {p:Nat} {b:Bd} {t:T} {o:List Rec.R} {s:List UInt8} {c:UInt8}
theorem fin_pre:(t.pre o).fin=t.fin.pre o:=by show ({t with out:=(o++t.out) ++ [t.r],r:=zero,hl:=0,bl:=0,size:=0,cnt:=false,left:=0,st:=1}:T)={t with out:=o++(t.out ++ [t.r]),r:=zero,hl:=0,bl:=0,size:=0,cnt:=false,left:=0,st:=1};rw [List.append_assoc]
theorem endData_pre:(t.pre o).endData p=(t.endData p).pre o:=by
 unfold T.endData;show (if t.r.ch=true then _ else _)= _;by_cases h:t.r.ch=true
 ·rw [if_pos h,if_pos h];rfl
 ·rw [if_neg h,if_neg h];exact fin_pre
theorem first_pre:(t.pre o).first p b s=((t.first p b s).1,(t.first p b s).2.pre o):=by
 unfold T.first;by_cases h:s= []
 ·rw [if_pos h,if_pos h]
 ·rw [if_neg h,if_neg h];dsimp only;by_cases h2:(Rq.request (Rq.clOf p) b.od s).2.2.2=0
  ·rw [if_pos h2,if_pos h2];rfl
  ·rw [if_neg h2,if_neg h2]
theorem endHead_pre:(t.pre o).endHead p b=((t.endHead p b).1,(t.endHead p b).2.pre o):=by
 unfold T.endHead;have er:(t.pre o).r=t.r:=rfl;rw [er];generalize Frm.decideV (Frm.clOf p) b.ch b.x3 t.r.k t.r.fs=d;dsimp only;by_cases h1:d.2.2≠0
 ·rw [if_pos h1,if_pos h1]
 ·rw [if_neg h1,if_neg h1];by_cases h2:d.1=2
  ·rw [if_pos h2,if_pos h2];rfl
  ·rw [if_neg h2,if_neg h2];by_cases h3:d.2.1=0
   ·rw [if_pos h3,if_pos h3];exact Prod.ext rfl fin_pre
   ·rw [if_neg h3,if_neg h3];rfl
theorem fields_pre:(t.pre o).fields p b s=((t.fields p b s).1,(t.fields p b s).2.pre o):=by
 unfold T.fields;by_cases h:s= []
 ·rw [if_pos h,if_pos h];exact endHead_pre
 ·rw [if_neg h,if_neg h];rfl
theorem trail_pre:(t.pre o).trail p b s=((t.trail p b s).1,(t.trail p b s).2.pre o):=by
 unfold T.trail;by_cases h:s= []
 ·rw [if_pos h,if_pos h];exact Prod.ext rfl fin_pre
 ·rw [if_neg h,if_neg h];rfl
theorem chunk_pre:(t.pre o).chunk p b s=((t.chunk p b s).1,(t.chunk p b s).2.pre o):=by
 unfold T.chunk;generalize Chk.sizeV (Qk.has p 27) (Qk.has p 28) b.x4 b.x3 s=z;dsimp only;by_cases h1:z.2≠0
 ·rw [if_pos h1,if_pos h1]
 ·rw [if_neg h1,if_neg h1];by_cases h2:z.1=0
  ·rw [if_pos h2,if_pos h2];rfl
  ·rw [if_neg h2,if_neg h2];show (if b.x3-(t.r.body.length:Int)<z.1 then _ else _)= _;by_cases h3:b.x3-(t.r.body.length:Int)<z.1
   ·rw [if_pos h3,if_pos h3]
   ·rw [if_neg h3,if_neg h3];rfl
theorem line_pre:(t.pre o).line p b s=((t.line p b s).1,(t.line p b s).2.pre o):=by
 unfold T.line;show (if t.st=1 then _ else _)= _;by_cases h1:t.st=1
 ·rw [if_pos h1,if_pos h1];exact first_pre
 ·rw [if_neg h1,if_neg h1];show (if t.st=2 then _ else _)= _;by_cases h2:t.st=2
  ·rw [if_pos h2,if_pos h2];exact fields_pre
  ·rw [if_neg h2,if_neg h2];show (if t.st=4 then _ else _)= _;by_cases h4:t.st=4
   ·rw [if_pos h4,if_pos h4];exact chunk_pre
   ·rw [if_neg h4,if_neg h4];show (if t.st=7 then _ else _)= _;by_cases h7:t.st=7
    ·rw [if_pos h7,if_pos h7];exact trail_pre
    ·rw [if_neg h7,if_neg h7];rfl
theorem ends_pre (x:Nat × T):ends (x.1,x.2.pre o)=(ends x).pre o:=by
 unfold ends;by_cases h:x.1=0
 ·rw [if_pos h,if_pos h];rfl
 ·rw [if_neg h,if_neg h];rfl
theorem inLine_pre:(t.pre o).inLine p b c=((t.inLine p b c).1.pre o,(t.inLine p b c).2):=by
 unfold T.inLine;have er:(t.pre o).rd=t.rd:=rfl;have es:(t.pre o).st=t.st:=rfl;have eo:(t.pre o).out=o++t.out:=rfl;rw [er,es,eo];generalize t.rd.clear.next c=how;dsimp only;by_cases h0:how=0
 ·rw [if_pos h0,if_pos h0];rfl
 ·rw [if_neg h0,if_neg h0];by_cases h3:how=3
  ·rw [if_pos h3,if_pos h3];rfl
  ·rw [if_neg h3,if_neg h3];by_cases h4:how=4
   ·rw [if_pos h4,if_pos h4];by_cases h5:(t.st==6&&Qk.has p 29)=true
    ·rw [if_pos h5,if_pos h5];rfl
    ·rw [if_neg h5,if_neg h5];rfl
   ·rw [if_neg h4,if_neg h4];refine Prod.ext ?_ rfl;show ends ((({t with rd:=t.rd.byte c}:T).pre o).line p b (t.rd.byte c).line)= _;rw [line_pre,ends_pre]
theorem counted_pre:(t.pre o).counted=t.counted.pre o:=by
 unfold T.counted;show (if t.cnt=true then _ else _)= _;by_cases h:t.cnt=true
 ·rw [if_pos h,if_pos h]
 ·rw [if_neg h,if_neg h];rfl
theorem look_pre:(t.pre o).look p b c=((t.look p b c).1.pre o,(t.look p b c).2):=by
 unfold T.look;show (if bodied t.st=true then _ else _)= _;by_cases h1:bodied t.st=true
 ·rw [if_pos h1,if_pos h1];refine Prod.ext ?_ rfl;show Q.live (if t.left=1 then _ else _)= _;by_cases h2:t.left=1
  ·rw [if_pos h2,if_pos h2];show Q.live (((t.keep c).pre o).endData p)= _;rw [endData_pre];rfl
  ·rw [if_neg h2,if_neg h2];rfl
 ·rw [if_neg h1,if_neg h1];show (if headed t.st=true then _ else _)= _;by_cases h2:headed t.st=true
  ·rw [if_pos h2,if_pos h2,counted_pre];show (if b.x2<(t.counted.size:Int) then _ else _)= _
   by_cases h3:b.x2<(t.counted.size:Int)
   ·rw [if_pos h3,if_pos h3];rfl
   ·rw [if_neg h3,if_neg h3];exact inLine_pre
  ·rw [if_neg h2,if_neg h2];exact inLine_pre
theorem take_pre:(t.pre o).take p b c=(t.take p b c).pre o:=by
 unfold T.take;have e:({(t.pre o) with cnt:=false}:T)=({t with cnt:=false}:T).pre o:=rfl;rw [e,look_pre];rcases ({t with cnt:=false}:T).look p b c with ⟨x,u⟩;cases x with
 | dead e1 o1=>cases u<;>rfl
 | live t1=>
   cases u with
   | true=>rfl
   | false=>
     show ((t1.pre o).look p b c).1=((t1.look p b c).1).pre o;rw [look_pre]
end
end Go.Proofs.YtimoakmcelocfaaGreat.Pg
namespace Go.Proofs.YtimoakmcelocfaaGreat.Flt
open Go.RowKit Base Txt Par Pg
section
variable {p:Nat} {b:Bd} {t:T} {s:List UInt8} {c:UInt8}
theorem line_bad_out (h:(t.line p b s).1≠0):(t.line p b s).2.out=t.out:=by
 revert h;unfold T.line;split
 ·unfold T.first;split
  ·intro _;rfl
  ·dsimp only;split
   ·intro h;exact absurd rfl h
   ·intro _;rfl
 ·split
  ·unfold T.fields;split
   ·unfold T.endHead;dsimp only;split
    ·intro _;rfl
    ·split
     ·intro _;rfl
     ·split
      ·intro h;exact absurd rfl h
      ·intro _;rfl
   ·intro _;rfl
  ·split
   ·unfold T.chunk;dsimp only;split
    ·intro _;rfl
    ·split
     ·intro _;rfl
     ·split
      ·intro _;rfl
      ·intro _;rfl
   ·split
    ·unfold T.trail;split
     ·intro h;exact absurd rfl h
     ·intro _;rfl
    ·intro _;rfl
theorem inLine_bad_out {e:Nat} {o:List Rec.R} {u:Bool} (h:t.inLine p b c=(.dead e o,u)):o=t.out:=by
 unfold T.inLine at h;dsimp only at h;split at h
 ·cases h
 ·split at h
  ·cases h;rfl
  ·split at h
   ·split at h
    ·cases h
    ·cases h;rfl
   ·have h1:=congrArg Prod.fst h;unfold ends at h1;dsimp only at h1;split at h1
    ·cases h1
    ·rename_i h0;have:=line_bad_out h0;cases h1;exact this
theorem look_bad_out {e:Nat} {o:List Rec.R} {u:Bool} (h:t.look p b c=(.dead e o,u)):o=t.out:=by
 unfold T.look at h;split at h
 ·cases h
 ·split at h
  ·split at h
   ·cases h;rfl
   ·have:=inLine_bad_out h
    rwa [counted_out] at this
  ·exact inLine_bad_out h
theorem strict_used (hs:t.Strict):(t.inLine 0 b c).2=true:=by
 have h2:t.rd.clear.next c≠2:=by
  unfold Ln.M.next;have e1:t.rd.clear.cr=false:=hs.cr;rw [e1];simp only [Bool.false_eq_true,if_false]
  repeat' split
  all_goals decide
 unfold T.inLine;obtain ⟨how,hh⟩:∃how,t.rd.clear.next c=how:=⟨_,rfl⟩;simp only [hh] at h2 ⊢;split
 ·rfl
 ·split
  ·rfl
  ·split
   ·rw [none0 29,Bool.and_false];rfl
   ·simp only [Bool.not_eq_true',beq_eq_false_iff_ne];exact h2
theorem strict_look (hs:t.Strict):(t.look 0 b c).2=true:=by
 unfold T.look;split
 ·rfl
 ·split
  ·split
   ·rfl
   ·exact strict_used ⟨by rw [counted_rd];exact hs.lf,by rw [counted_rd];exact hs.cr⟩
  ·exact strict_used hs
theorem strict_bad {e:Nat} {o:List Rec.R} (hs:t.Strict) (h:t.take 0 b c=.dead e o):o=t.out:=by
 unfold T.take at h;have hs0:({t with cnt:=false}:T).Strict:=⟨hs.lf,hs.cr⟩;have hu:=strict_look (b:=b) (c:=c) hs0;rcases hq:({t with cnt:=false}:T).look 0 b c with ⟨q,u⟩;rw [hq] at h hu;cases q with
 | dead e1 o1=>
   have:=look_bad_out hq
   cases u<;> (cases h;exact this)
 | live t1=>
   have hu:u=true:=hu;subst hu;cases h
end
end Go.Proofs.YtimoakmcelocfaaGreat.Flt
namespace Go.Proofs.YtimoakmcelocfaaGreat.Par
open Go.RowKit Base Txt Mem Each
section code
set_option maxHeartbeats 4000000
set_option maxRecDepth 20000
attribute [local go_sem] Base.some_undef
variable {w:World} {B:Zone} {g q:Nat} {v f bd t o:Value} {p:Nat} {b:Bd} {s:S} {x:Pg.Q} {L:List (Option Nat)}
theorem dfeed_any (hp:p<4294967296) (h:DQ w B g p b L x) (xo:x.out= []) (a:Option Addr) (ca:Nat) (ls:List (List UInt8)) (hl:Pg.Parts L w a ls) (hn:ls.length≤1000000) (hout:2*ls.flatten.length≤999999998) :
 Calls Tryz.prog 21 #[ptr g,.slice a ls.length ca] w fun r w'=>∃o L',r=.returned o∧DQ w' B g p b L' (x.feed p b ls.flatten).told∧Pg.Told L' B w' o (x.feed p b ls.flatten).out∧Step L L' w w':=by
 obtain ⟨s,hr,ok,hd⟩:=h;have ho:s.out= []:=(Pg.said_sim hr ok).2.1.trans xo;obtain ⟨z26,⟨o0,c26⟩,hrun,hst⟩:=hd.start ho;have HR:=Lib.hid hr;have HOK:=Lib.hid ok;have HU:=Lib.hid hrun;have HS0:=Lib.hid hst;have HL:=Lib.hid (hl.step hst);have HOU:=Lib.hid hout;have HXO:=Lib.hid xo;obtain ⟨n,hnn⟩:∃n,ls.length=n:=⟨_,rfl⟩;have HN:=Lib.hid hnn;have hn1:n≤1000000:=by omega
 rw [hnn];clear hd hr ok hrun hst hl hout xo ho hn hnn;go_enter Tryz.func21,Tryz.ntmps21;go_upto_region 3 with fail
 generalize w.setCell ⟨g,26,none⟩ nil=W1 at *;clear z26 c26
 go_loopw [5] (fun i wr=>∃k:Nat,k≤n∧i=.int .i64 k∧Hid (∃Lr,Run wr B g p b Lr (s.feed p b (ls.take k).flatten)∧Step L Lr W1 wr)) (fun i _=>n-(intOf i).toNat)
 case atStart=>exact ⟨0,Nat.zero_le _,rfl,Lib.hid ⟨L,HU.out,Step.refl⟩⟩
 case round=>
  obtain ⟨k,hk,rfl,hR⟩:=hrel;rcases Nat.lt_or_ge k n with hlt | hge
  ·obtain ⟨Lr,hA,hS⟩:=hR.out;have hkl:k<ls.length:=by rw [HN.out];exact hlt
   obtain ⟨bk,off,rfl, -, -, -⟩:=HL.out.cells (by omega);have htk:(ls.take (k+1)).flatten=(ls.take k).flatten++ls[k]:=by rw [List.take_succ_eq_append_getElem hkl,List.flatten_append];simp
   have hsum:(ls.take (k+1)).flatten.length≤ls.flatten.length:=by have:=congrArg List.length (congrArg List.flatten (List.take_append_drop (k+1) ls));rw [List.flatten_append,List.length_append] at this;omega
   rw [htk,List.length_append] at hsum;have t1:(k:Int)<(n:Int):=by omega
   have HTK:=Lib.hid htk;obtain ⟨pl,hpl⟩:∃pl,ls[k]=pl:=⟨_,rfl⟩;rw [hpl] at hsum HTK;obtain ⟨m,hm⟩:∃m,pl.length=m:=⟨_,rfl⟩;rw [hm] at hsum;have HM:=Lib.hid hm;obtain ⟨q0,hq0⟩:∃q0,(ls.take k).flatten=q0:=⟨_,rfl⟩;rw [hq0] at hA hsum HTK;have hsum2:2*(q0.length+m)≤999999998:=by have:=HOU.out;omega
   have HSUM:=Lib.hid hsum2;have hm9:m≤1000000000:=by omega
   have HCE:=Lib.hid (show∀(wq:World) (Lq:List (Option Nat)),Step L Lq W1 wq→∃ak ck,wq.cell? ⟨bk,off+k,none⟩=some (.slice ak m ck)∧Pg.Bts Lq wq ak pl from fun wq Lq hS=>by obtain ⟨bk',off',e, -, -,hc⟩:=(HL.out.step hS).cells (by omega);cases e;obtain ⟨ak,ck,h1,h2⟩:=hc k hkl;rw [hpl,hm] at h1;rw [hpl] at h2;exact ⟨ak,ck,h1,h2⟩)
   have HA:=Lib.hid hA;have HS:=Lib.hid hS;clear hA hS hsum hsum2 htk hpl hm hR hq0 hkl;go_upto_region 6 with fail
   go_loopw [6] (fun j wq=>∃i:Nat,i≤m∧j=.int .i64 i∧Hid (∃Lq,Run wq B g p b Lq (s.feed p b (q0++pl.take i))∧Step L Lq W1 wq)) (fun j _=>m-(intOf j).toNat)
   case atStart=>exact ⟨0,Nat.zero_le _,rfl,Lib.hid ⟨Lr,by rw [List.take_zero,List.append_nil];exact HA.out,HS.out⟩⟩
   case round=>
    obtain ⟨i,hi,rfl,hR2⟩:=hrel;rcases Nat.lt_or_ge i m with hilt | hige
    ·obtain ⟨Lq,hA2,hS2⟩:=hR2.out;have hil:i<pl.length:=by rw [HM.out];exact hilt
     obtain ⟨ak,ck,hcell,hbt⟩:=HCE.out _ _ hS2
     obtain ⟨zb,zo,rfl,hzb,hz⟩:=hbt.nums.2 (by omega);have hbyte:=hz i hil;have hti:pl.take (i+1)=pl.take i ++ [pl[i]]:=List.take_succ_eq_append_getElem hil;have hgi:(pl.map fun c=>(c.toNat:Int))[i]?.getD 0=(pl[i].toNat:Int):=by simp [hil]
     rw [hgi] at hbyte;have HTI:=Lib.hid hti;obtain ⟨c,hc⟩:∃c,pl[i]=c:=⟨_,rfl⟩;rw [hc] at hbyte HTI;have t2:(i:Int)<(m:Int):=by omega
     obtain ⟨hr3,ok3⟩:=Pg.feed_sim (q0++pl.take i) HR.out HOK.out;have hou3:(s.feed p b (q0++pl.take i)).out.length≤999999998:=by rw [(Pg.said_sim hr3 ok3).2.1];have h1:=Pg.Q.feed_out (p:=p) (b:=b) (q0++pl.take i) x;have h2:=HSUM.out;rw [HXO.out,List.length_append,List.length_take] at h1;simp only [List.length_nil] at h1;omega
     have HTA:=Lib.hid (byteRun_any hp c hA2 hr3 ok3 hou3);have HS2:=Lib.hid hS2;clear hA2 hS2 hz hzb hti hgi hc hr3 ok3 hou3 hR2 hbt
     go_wp2_with (go_at_call 37;with_reducible refine HTA.out.mono ?_;rintro r w5 ⟨rfl,L5,hA5,hS5⟩);go_roundw
     case rel=>exact ⟨i+1,by omega,by go_num,Lib.hid ⟨L5,by rw [HTI.out,←List.append_assoc,S.feed_app];exact hA5,HS2.out.trans hS5⟩⟩
     case measure=>simp [intOf];omega
    ·obtain rfl:i=m:=by omega
     have t2:¬(i:Int)<(i:Int):=by omega
     obtain ⟨Lq,hA2,hS2⟩:=hR2.out;obtain ⟨ak,ck,hcell,hbt⟩:=HCE.out _ _ hS2
     have e:pl.take i=pl:=List.take_of_length_le (by rw [HM.out];exact Nat.le_refl _);rw [e,←HTK.out] at hA2;have HA2:=Lib.hid hA2;have HS2:=Lib.hid hS2;clear hA2 hS2 e hR2 hbt;go_wp2_with fail;go_roundw
     case rel=>exact ⟨k+1,by omega,by go_num,Lib.hid ⟨Lq,HA2.out,HS2.out⟩⟩
     case measure=>simp [intOf];omega
  ·obtain rfl:k=n:=by omega
   have t1:¬(k:Int)<(k:Int):=by omega
   obtain ⟨Lr,hA,hS⟩:=hR.out
   have e:ls.take k=ls:=List.take_of_length_le (by rw [HN.out];exact Nat.le_refl _);rw [e] at hA;obtain ⟨o,L2,c26,hA2,hT2,hS2⟩:=hA.tell;obtain ⟨hr3,ok3⟩:=Pg.feed_sim ls.flatten HR.out HOK.out;have e2:=(Pg.said_sim hr3 ok3).2.1;rw [e2] at hT2
   have HA2:=Lib.hid (show DQ wr B g p b L2 (x.feed p b ls.flatten).told from ⟨_,Pg.told_sim hr3,Pg.told_fine ok3,hA2.told⟩);have HT2:=Lib.hid hT2;have HS2:=Lib.hid ((HS0.out.trans hS).trans hS2);clear hA hS hR e hA2 hT2 hS2 hr3 ok3 e2;go_wp2_with fail;go_ret;exact ⟨o,rfl,L2,HA2.out,HT2.out,HS2.out⟩
theorem qnew_out:(Pg.Q.new p b).out= []:=by unfold Pg.Q.new;split<;>rfl
end code
end Go.Proofs.YtimoakmcelocfaaGreat.Par
