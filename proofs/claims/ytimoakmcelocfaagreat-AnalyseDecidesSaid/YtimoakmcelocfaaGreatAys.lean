import Derived.Test.YtimoakmcelocfaaGreatAyr
namespace Go.Proofs.YtimoakmcelocfaaGreat.Par
open Go.RowKit Base Txt Mem
section
variable {w w':World} {B:Zone} {g q:Nat} {v f bd t o:Value} {p:Nat} {rd:Ln.R} {fs ts:List Fld} {body:List UInt8} {out:List Rec.R}
theorem Own.reader (h:Own w B g q v f bd t o p rd fs body ts out) {v':Value} {rd':Ln.R} (hk:Ln.Kept q v.ownBlock w w') (hm:Ln.Moved w v.ownBlock v'.ownBlock) (hr:Ln.Rr w' B q v' p rd') :
 Own w' B g q v' f bd t o p rd' fs body ts out∧Step (blks g q v f bd t o) (blks g q v' f bd t o) w w'∧Keeps [some q,v.ownBlock] w w':=by
 have hk2:Keeps [some q,v.ownBlock] w w':=Keeps.of_kept hk (by simp) fun k e=>by simp [e]
 have hn:∀i j,i≠1→i≠2→(blks g q v f bd t o)[i]?=some (some j)→some j∉ [some q,v.ownBlock]:=fun i j h1 h2 hj hm=>by
  rcases (by simpa using hm:j=q∨some j=v.ownBlock) with e | e
  ·exact h1 (h.lone i 1 j hj (by rw [e];rfl))
  ·exact h2 (h.lone i 2 j hj (by rw [e];rfl))
 have e:blks g q v' f bd t o=(blks g q v f bd t o).set 2 v'.ownBlock:=rfl;have ho:v'.ownBlock=none∨(blks g q v f bd t o)[2]?=some v'.ownBlock∨∃k,v'.ownBlock=some k∧w.heap.size≤k:=by
  rcases hm with e | e | e
  ·exact .inr (.inl (by rw [e];rfl))
  ·exact .inl e
  ·exact .inr (.inr e)
 have hof:Of w (blks g q v f bd t o) (blks g q v' f bd t o):=by rw [e];exact Of.set 2 _ ho
 have hkL:Keeps (blks g q v f bd t o) w w':=hk2.mono fun k hk=>by
  rcases (by simpa using hk:k=q∨some k=v.ownBlock) with e | e
  ·simp [e]
  ·simp [e]
 obtain ⟨ps,h1,h2,h3⟩:=h.O
 refine ⟨⟨hr,hk2.own h.F fun j e=>hn 3 j (by decide) (by decide) (by rw [←e];rfl),hk2.own h.D fun j e=>hn 4 j (by decide) (by decide) (by rw [←e];rfl),hk2.own h.T fun j e=>hn 5 j (by decide) (by decide) (by rw [←e];rfl),
  ⟨ps,h1,fun x hx=>⟨(h2 x hx).1,by
    have hx2:=(h2 x hx).2.keeps hkL
    exact ⟨hx2.reads,fun k hb=>⟨fun hm=>by
     rcases hof k hm with e | e
     ·exact (hx2.far k hb).1 e
     ·exact absurd ((h2 x hx).2.far k hb).2 (by omega),(hx2.far k hb).2⟩,hx2.off⟩⟩,hk2.own h3 fun j e=>hn 6 j (by decide) (by decide) (by rw [←e];rfl)⟩,?_,h.ge,Nat.lt_of_lt_of_le h.lt hk2.size,h.zone.of hk2.size hof⟩,⟨hkL,hof⟩,hk2⟩
 rw [e];exact h.lone.set h.in 2 _ ho
theorem PR.reader {b:Bd} {s:S} (h:PR w B g q v f bd t o p b s) {v':Value} {rd':Ln.R} (hk:Ln.Kept q v.ownBlock w w') (hm:Ln.Moved w v.ownBlock v'.ownBlock) (hr:Ln.Rr w' B q v' p rd') :
 PR w' B g q v' f bd t o p b {s with rd:=rd'}∧Step (blks g q v f bd t o) (blks g q v' f bd t o) w w':=by
 obtain ⟨h1,h2,h3⟩:=h.own.reader hk hm hr;refine ⟨⟨h3.row h.row fun hm=>?_,h1⟩,h2⟩;rcases (by simpa using hm:g=q∨some g=v.ownBlock) with e | e
 ·exact absurd (h.own.lone 0 1 g rfl (by rw [e];rfl)) (by decide)
 ·exact absurd (h.own.lone 0 2 g rfl (by rw [e];rfl)) (by decide)
end
section code
set_option maxHeartbeats 4000000
set_option maxRecDepth 20000
attribute [local go_sem] Base.some_undef
variable {w:World} {B:Zone} {g q:Nat} {v f bd t o:Value} {p:Nat} {b:Bd} {s:S}
theorem long_any (hp:p<4294967296) (c:UInt8) (h:PR w B g q v f bd t o p b s) (hs:s.st=0∨s.st=1∨s.st=3∨s.st=5∨s.st=6) (hb:s.st=5→Qk.has p 29=false):Calls Tryz.prog 71 #[ptr g,.int .u8 (c.toNat:Int)] w fun r w'=>
 r=.returned (.tuple #[])∧PR w' B g q v nil nil nil o p b (s.fail (longE s.st))∧Step (blks g q v f bd t o) (blks g q v nil nil nil o) w w':=by
 have HH:=Lib.hid (fun w=>Qk.rhas_any p hp 29 w);rcases hs with hst | hst | hst | hst | hst
 ·have e:longE s.st=414:=by rw [hst];rfl
  rw [e];clear hb e;have c11:w.cell? ⟨g,11,none⟩=some (.int .i64 0):=by have:=h.cs.c11;rw [hst] at this;exact this
  have HFA:=Lib.hid (fail_at h 414 414 rfl);clear h hst;go_enter Tryz.func71,Tryz.ntmps71
  go_wp2_with (first
   |(go_at_call 56;with_reducible refine HFA.out.mono ?_;rintro r w2 ⟨rfl,hP,hS⟩)
   |(go_at_call 39;with_reducible refine (HH.out _).mono ?_;rintro r w3 ⟨rfl,hw⟩;rw [hw];clear hw))
  first | go_end0 | refine bodyPost_ret (results_none rfl _ _ _) rfl ?_
  exact ⟨rfl,hP,hS⟩
 ·have e:longE s.st=431:=by rw [hst];rfl
  rw [e];clear hb e;have c11:w.cell? ⟨g,11,none⟩=some (.int .i64 1):=by have:=h.cs.c11;rw [hst] at this;exact this
  have HFA:=Lib.hid (fail_at h 431 431 rfl);clear h hst;go_enter Tryz.func71,Tryz.ntmps71
  go_wp2_with (first
   |(go_at_call 56;with_reducible refine HFA.out.mono ?_;rintro r w2 ⟨rfl,hP,hS⟩)
   |(go_at_call 39;with_reducible refine (HH.out _).mono ?_;rintro r w3 ⟨rfl,hw⟩;rw [hw];clear hw))
  first | go_end0 | refine bodyPost_ret (results_none rfl _ _ _) rfl ?_
  exact ⟨rfl,hP,hS⟩
 ·have e:longE s.st=400:=by rw [hst];rfl
  rw [e];clear hb e;have c11:w.cell? ⟨g,11,none⟩=some (.int .i64 3):=by have:=h.cs.c11;rw [hst] at this;exact this
  have HFA:=Lib.hid (fail_at h 400 400 rfl);clear h hst;go_enter Tryz.func71,Tryz.ntmps71
  go_wp2_with (first
   |(go_at_call 56;with_reducible refine HFA.out.mono ?_;rintro r w2 ⟨rfl,hP,hS⟩)
   |(go_at_call 39;with_reducible refine (HH.out _).mono ?_;rintro r w3 ⟨rfl,hw⟩;rw [hw];clear hw))
  first | go_end0 | refine bodyPost_ret (results_none rfl _ _ _) rfl ?_
  exact ⟨rfl,hP,hS⟩
 ·have e:longE s.st=400:=by rw [hst];rfl
  rw [e];rw [hb hst] at HH;clear hb e;have c11:w.cell? ⟨g,11,none⟩=some (.int .i64 5):=by have:=h.cs.c11;rw [hst] at this;exact this
  have HFA:=Lib.hid (fail_at h 400 400 rfl);have c0:=h.cs.c0;clear h hst;go_enter Tryz.func71,Tryz.ntmps71
  go_wp2_with (first
   |(go_at_call 56;with_reducible refine HFA.out.mono ?_;rintro r w2 ⟨rfl,hP,hS⟩)
   |(go_at_call 39;with_reducible refine (HH.out _).mono ?_;rintro r w3 ⟨rfl,hw⟩;rw [hw];clear hw))
  first | go_end0 | refine bodyPost_ret (results_none rfl _ _ _) rfl ?_
  exact ⟨rfl,hP,hS⟩
 ·have e:longE s.st=431:=by rw [hst];rfl
  rw [e];clear hb e;have c11:w.cell? ⟨g,11,none⟩=some (.int .i64 6):=by have:=h.cs.c11;rw [hst] at this;exact this
  have HFA:=Lib.hid (fail_at h 431 431 rfl);clear h hst;go_enter Tryz.func71,Tryz.ntmps71
  go_wp2_with (first
   |(go_at_call 56;with_reducible refine HFA.out.mono ?_;rintro r w2 ⟨rfl,hP,hS⟩)
   |(go_at_call 39;with_reducible refine (HH.out _).mono ?_;rintro r w3 ⟨rfl,hw⟩;rw [hw];clear hw))
  first | go_end0 | refine bodyPost_ret (results_none rfl _ _ _) rfl ?_
  exact ⟨rfl,hP,hS⟩
end code
end Go.Proofs.YtimoakmcelocfaaGreat.Par
namespace Go.Proofs.YtimoakmcelocfaaGreat.Par
open Go.RowKit Base Txt Mem
def lined (st:Nat):Prop:=st=0∨st=1∨st=3∨st=5∨st=6
structure LineOk (p:Nat) (q:Ln.R):Prop where
 lf:q.lf=Qk.has p 1
 cr:q.cr=Qk.has p 2
 most:q.most≤4096
 len:q.B.length≤q.most
theorem how_plain (q:Ln.R) (c:UInt8) (h:q.CR=false):q.how c=0∨q.how c=1∨q.how c=3∨q.how c=4:=by
 unfold Ln.R.how;rw [h]
 repeat' split
 all_goals simp_all
theorem byte_L (q:Ln.R) (c:UInt8) (h:q.how c=1∨q.how c=2):(q.byte c).L=q.B:=by
 unfold Ln.R.how at h;unfold Ln.R.byte
 repeat' split
 all_goals first | rfl |(exfalso;simp_all)
section code
set_option maxHeartbeats 4000000
set_option maxRecDepth 20000
attribute [local go_sem] Base.some_undef
variable {w:World} {B:Zone} {g q:Nat} {v f bd t o:Value} {p:Nat} {b:Bd} {s:S}
theorem ended_any (hp:p<4294967296) (h3:16≤b.x3∧b.x3≤1048576) (h4:0≤b.x4) (x:ByteArray) (hx:x.size≤5000) (h:PR w B g q v f bd t o p b s) (hs:lined s.st) (he:s.e=0) (ok:Fits s):Calls Tryz.prog 72 #[ptr g,.string x] w fun r w'=>
 r=.returned (.tuple #[])∧∃q1 v1 f1 bd1 t1 o1,PR w' B g q1 v1 f1 bd1 t1 o1 p b (s.ended p b x.data.toList)∧Step (blks g q v f bd t o) (blks g q1 v1 f1 bd1 t1 o1) w w':=by
 rcases hs with hst | hst | hst | hst | hst
 ·exact ended_first hp x hx h hst he
 ·exact ended_fields hp h3 x hx h hst ok
 ·exact ended_size hp h3 h4 x hx h hst ok
 ·exact ended_behind x h hst
 ·exact ended_trail hp x hx h hst ok
theorem plain_any (hp:p<4294967296) (h3:16≤b.x3∧b.x3≤1048576) (h4:0≤b.x4) (c:UInt8) (h:PR w B g q v f bd t o p b s) (hs:lined s.st) (he:s.e=0) (ok:Fits s) (hl:LineOk p s.rd) (hcr:s.rd.CR=false) (h5:s.st=5→s.rd.how c=4→Qk.has p 29=false) :
 Calls Tryz.prog 57 #[ptr g,.int .u8 (c.toNat:Int)] w fun r w'=>r=.returned (.tuple #[])∧∃q1 v1 f1 bd1 t1 o1,PR w' B g q1 v1 f1 bd1 t1 o1 p b (s.plain p b c)∧Step (blks g q v f bd t o) (blks g q1 v1 f1 bd1 t1 o1) w w':=by
 have hbod:bodied s.st=false:=by rcases hs with e | e | e | e | e<;>rw [e]<;>rfl
 have t2:((s.st:Int)==2)=false:=beq_eq_false_iff_ne.2 (by rcases hs with e | e | e | e | e<;>omega)
 have t4:((s.st:Int)==4)=false:=beq_eq_false_iff_ne.2 (by rcases hs with e | e | e | e | e<;>omega);have n2:¬(s.st:Int)=2:=beq_eq_false_iff_ne.1 t2;have n4:¬(s.st:Int)=4:=beq_eq_false_iff_ne.1 t4;have m2:¬s.st=2:=by omega
 have m4:¬s.st=4:=by omega
 have H1:=Lib.hid (h.put 23 (.bool false) {s with fresh:=false} rfl rfl rfl rfl rfl rfl)
 have HS1:=Lib.hid (Step.set (w:=w) (L:=blks g q v f bd t o) g 23 (.bool false) (by simp));have c23:=h.cs.c23;have z23:=h.marks 23;have c11:=h.cs.c11;have hrb:=Ln.rbyte_any c s.rd hl.most p hp hl.lf hl.cr (w.setCell ⟨g,23,none⟩ (.bool false)) B q v H1.out.own.R;clear h;have hL:s.rd.how c=1→(s.rd.byte c).L.length≤5000:=fun e=>by rw [byte_L s.rd c (.inl e)];have:=hl.len;have:=hl.most;omega
 rcases how_plain s.rd c hcr with hw | hw | hw | hw
 ·have e:s.plain p b c={s with fresh:=false,rd:=s.rd.byte c}:=by unfold S.plain;simp [hbod,hw]
  rw [e];rw [hw] at hrb;have HRB:=Lib.hid hrb;clear e hw hL hrb h5 hbod hs he hl hcr ok;go_enter Tryz.func57,Tryz.ntmps57;go_upto_region 8 with fail
  generalize w.setCell ⟨g,23,none⟩ (.bool false)=W1 at *;clear c23 z23 c11;have c12:=H1.out.cs.c12;go_wp2_with
   (go_at_call 70;with_reducible refine HRB.out.mono ?_;rintro r w2 ⟨v2,rfl,hr2,hk2,hm2⟩
    obtain ⟨hP2,hS2⟩:=H1.out.reader hk2 hm2 hr2
    have HP2:=Lib.hid hP2;have HS2:=Lib.hid (HS1.out.trans hS2);clear hr2 hk2 hm2 hP2 hS2)
  first | go_end0 | refine bodyPost_ret (results_none rfl _ _ _) rfl ?_
  exact ⟨rfl,_,_,_,_,_,_,HP2.out,HS2.out⟩
 ·have e:s.plain p b c=S.ended p b {s with fresh:=false,rd:=s.rd.byte c} (s.rd.byte c).L:=by unfold S.plain;simp [hbod,hw]
  rw [e];rw [hw] at hrb;have HRB:=Lib.hid hrb;obtain ⟨x,hx⟩:∃x:ByteArray,ba (s.rd.byte c).L=x:=⟨_,rfl⟩;have hxl:(s.rd.byte c).L=x.data.toList:=by rw [←hx];simp [ba]
  have hxs:x.size≤5000:=by rw [←hx,ba_size];exact hL hw
  rw [hxl]
  have HEN:=Lib.hid (fun w2 q1 v1 (h:PR w2 B g q1 v1 f bd t o p b {s with fresh:=false,rd:=s.rd.byte c})=>ended_any hp h3 h4 x hxs h hs he ⟨ok.lines,ok.fss,ok.fsl,ok.tss,ok.tsl,ok.body,ok.out⟩);have HX:=Lib.hid hx;clear e hw hL hrb h5 hbod hs he hl hcr ok hx hxl hxs;go_enter Tryz.func57,Tryz.ntmps57;go_upto_region 8 with fail
  generalize w.setCell ⟨g,23,none⟩ (.bool false)=W1 at *;clear c23 z23 c11;have c12:=H1.out.cs.c12
  go_wp2_with (first
   |(go_at_call 72;with_reducible refine (HEN.out _ _ _ HP2.out).mono ?_;rintro r w3 ⟨rfl,q1,v1,f1,bd1,t1,o1,hP3,hS3⟩)
   |(go_at_call 70;with_reducible refine HRB.out.mono ?_;rintro r w2 ⟨v2,rfl,hr2,hk2,hm2⟩
     obtain ⟨hP2,hS2⟩:=H1.out.reader hk2 hm2 hr2
     have HP2:=Lib.hid hP2;have HS2:=Lib.hid (HS1.out.trans hS2);have c11:=hP2.cs.c11;have c12:=hP2.cs.c12;have y4:w2.cell? ⟨q,4,none⟩=some (.string x):=by rw [←HX.out];exact Ln.row_cell hr2.row (k:=4) rfl
     clear hr2 hk2 hm2 hP2 hS2))
  first | go_end0 | refine bodyPost_ret (results_none rfl _ _ _) rfl ?_
  exact ⟨rfl,_,_,_,_,_,_,hP3,HS2.out.trans hS3⟩
 ·have e:s.plain p b c=S.fail {s with fresh:=false,rd:=s.rd.byte c} 400:=by unfold S.plain;simp [hbod,hw]
  rw [e];rw [hw] at hrb;have HRB:=Lib.hid hrb
  have HFA:=Lib.hid (fun w2 q1 v1 (h:PR w2 B g q1 v1 f bd t o p b {s with fresh:=false,rd:=s.rd.byte c})=>fail_at h 400 400 rfl);clear e hw hL hrb h5 hbod hs he hl hcr ok;go_enter Tryz.func57,Tryz.ntmps57;go_upto_region 8 with fail
  generalize w.setCell ⟨g,23,none⟩ (.bool false)=W1 at *;clear c23 z23 c11;have c12:=H1.out.cs.c12
  go_wp2_with (first
   |(go_at_call 56;with_reducible refine (HFA.out _ _ _ HP2.out).mono ?_;rintro r w3 ⟨rfl,hP3,hS3⟩)
   |(go_at_call 70;with_reducible refine HRB.out.mono ?_;rintro r w2 ⟨v2,rfl,hr2,hk2,hm2⟩
     obtain ⟨hP2,hS2⟩:=H1.out.reader hk2 hm2 hr2
     have HP2:=Lib.hid hP2;have HS2:=Lib.hid (HS1.out.trans hS2);have c11:=hP2.cs.c11;have c12:=hP2.cs.c12;have y4:=Ln.row_cell hr2.row (k:=4) rfl;clear hr2 hk2 hm2 hP2 hS2))
  first | go_end0 | refine bodyPost_ret (results_none rfl _ _ _) rfl ?_
  exact ⟨rfl,_,_,_,_,_,_,hP3,HS2.out.trans hS3⟩
 ·have e:s.plain p b c=S.fail {s with fresh:=false,rd:=s.rd.byte c} (longE s.st):=by unfold S.plain;simp [hbod,hw]
  rw [e];have h6:=fun e=>h5 e hw;rw [hw] at hrb;have HRB:=Lib.hid hrb
  have HLO:=Lib.hid (fun w2 q1 v1 (h:PR w2 B g q1 v1 f bd t o p b {s with fresh:=false,rd:=s.rd.byte c})=>long_any hp c h hs h6);clear e hw hL hrb h5 h6 hbod hs he hl hcr ok;go_enter Tryz.func57,Tryz.ntmps57;go_upto_region 8 with fail
  generalize w.setCell ⟨g,23,none⟩ (.bool false)=W1 at *;clear c23 z23 c11;have c12:=H1.out.cs.c12
  go_wp2_with (first
   |(go_at_call 71;with_reducible refine (HLO.out _ _ _ HP2.out).mono ?_;rintro r w3 ⟨rfl,hP3,hS3⟩)
   |(go_at_call 70;with_reducible refine HRB.out.mono ?_;rintro r w2 ⟨v2,rfl,hr2,hk2,hm2⟩
     obtain ⟨hP2,hS2⟩:=H1.out.reader hk2 hm2 hr2
     have HP2:=Lib.hid hP2;have HS2:=Lib.hid (HS1.out.trans hS2);have c11:=hP2.cs.c11;have c12:=hP2.cs.c12;have y4:=Ln.row_cell hr2.row (k:=4) rfl;clear hr2 hk2 hm2 hP2 hS2))
  first | go_end0 | refine bodyPost_ret (results_none rfl _ _ _) rfl ?_
  exact ⟨rfl,_,_,_,_,_,_,hP3,HS2.out.trans hS3⟩
end code
end Go.Proofs.YtimoakmcelocfaaGreat.Par
namespace Go.Proofs.YtimoakmcelocfaaGreat.Par
open Go.RowKit Base Txt Mem
section code
set_option maxHeartbeats 4000000
set_option maxRecDepth 20000
attribute [local go_sem] Base.some_undef
variable {w:World} {B:Zone} {g q:Nat} {v f bd t o:Value} {p:Nat} {b:Bd} {s:S}
theorem count_any (c:UInt8) (G:S→S) (h:PR w B g q v f bd t o p b s) (he:s.e=0) (hh:s.head≤1000000)
 (HB0:∀(w2:World) (s2:S),(headed s.st=true∧s2={s with head:=s.head+1,clean:=false}∧¬b.x2<(s2.head:Int))∨(headed s.st=false∧s2={s with clean:=false})→PR w2 B g q v f bd t o p b s2→Calls Tryz.prog 57 #[ptr g,.int .u8 (c.toNat:Int)] w2 fun r w'=>
   r=.returned (.tuple #[])∧∃q1 v1 f1 bd1 t1 o1,PR w' B g q1 v1 f1 bd1 t1 o1 p b (G s2)∧Step (blks g q v f bd t o) (blks g q1 v1 f1 bd1 t1 o1) w2 w') :
 Calls Tryz.prog 37 #[ptr g,.int .u8 (c.toNat:Int)] w fun r w'=>r=.returned (.tuple #[])∧∃q1 v1 f1 bd1 t1 o1,PR w' B g q1 v1 f1 bd1 t1 o1 p b (s.count b G)∧Step (blks g q v f bd t o) (blks g q1 v1 f1 bd1 t1 o1) w w':=by
 have HB:=Lib.hid HB0;have H:=Lib.hid h;unfold S.count;rw [if_neg (by rw [he];decide)];by_cases hd:headed s.st=true
 ·rw [if_pos hd];have hst0:s.st=0∨s.st=1∨s.st=6:=by
   unfold headed at hd;simp only [Bool.or_eq_true,beq_iff_eq] at hd;rcases hd with (e | e) | e
   ·exact .inl e
   ·exact .inr (.inl e)
   ·exact .inr (.inr e)
  obtain ⟨a1,a2⟩:=Rec.wraps ((s.head:Int)+1) ⟨by omega,by omega⟩;obtain ⟨S1,hS1⟩:∃S1:S,{s with head:=s.head+1}=S1:=⟨_,rfl⟩
  have H1:=Lib.hid (h.put 21 (.int .i64 ((s.head:Int)+1)) {s with head:=s.head+1} rfl rfl rfl rfl rfl rfl)
  have HS1:=Lib.hid (Step.set (w:=w) (L:=blks g q v f bd t o) g 21 (.int .i64 ((s.head:Int)+1)) (by simp));have c21:=h.cs.c21;have z21:=h.marks 21;have HSS:=Lib.hid hS1;have hd1:((s.head+1:Nat):Int)=(S1.head:Int):=by rw [←hS1]
  have e2:({s with head:=s.head+1,clean:=false}:S)={S1 with clean:=false}:=by rw [←hS1]
  have HD:=Lib.hid hd;rw [hS1] at H1;rw [hd1,hS1,e2];clear h HB0 hS1 hd hh e2 hd1
  by_cases hov:b.x2<(S1.head:Int)
  ·rw [if_pos hov];have HT:=Lib.hid hov;clear hov;rcases hst0 with hst | hst | hst
   ·have c11:w.cell? ⟨g,11,none⟩=some (.int .i64 0):=by have:=H.out.cs.c11;rw [hst] at this;exact this
    have c25:w.cell? ⟨g,25,none⟩=some (.int .i64 0):=by have:=H.out.cs.c25;rw [he] at this;exact this
    clear hst he;go_enter Tryz.func37,Tryz.ntmps37;go_upto_region 3 with fail
    generalize w.setCell ⟨g,21,none⟩ (.int .i64 ((s.head:Int)+1))=W1 at *;clear c11 c25 c21 z21 a1 a2
    have HQ:=Lib.hid ((H1.out.drew 1).bk);refine Each.region_all 10 [35,36,37,38,39,40,41,42,43,44]
     [Each.is (.pointer (some ⟨g,0,none⟩)),
       Each.is (.pointer (some ⟨g,0,none⟩)),
       Each.is (.pointer (some ⟨g,21,none⟩)),
       Each.is (.int .i64 (S1.head:Int)),
       Each.is (.pointer (some ⟨g,0,none⟩)),
       Each.is (.pointer (some ⟨g,0,none⟩)),
       Each.is (.pointer (some ⟨g,1,none⟩)),
       Each.is (.pointer (some ⟨g,3,none⟩)),
       Each.is (.int .i64 b.x2),
       Each.is (.bool true)]
      (by kernel_rfl) (by kernel_rfl) (by kernel_rfl) (by kernel_rfl) (fun _ _ d _ _ h=>by cases d<;>exact h) (by rfl) (by rfl)
     (by repeat first | exact trivial | refine ⟨Each.Lasts.eq _,?_⟩) ?_ ?_
    ·refine ⟨?_,?_,?_,?_,?_,?_,?_,?_,?_,?_,trivial⟩
     ·refine Each.fine rfl (fun ev w1 hR hb hh=>?_);clear hh;have e0:=hR.old 0 rfl;simp only [qA,qT,qZ,qO] at e0;refine Each.Goes.same ?_;go_simp;try with_reducible rfl
     ·refine Each.fine rfl (fun ev w1 hR hb hh=>?_);have e35:(ev (.tmp 35)=.pointer (some ⟨g,0,none⟩)):=hh.at 0;clear hh;refine Each.Goes.same ?_;go_simp;try with_reducible rfl
     ·refine Each.fine rfl (fun ev w1 hR hb hh=>?_);have e36:(ev (.tmp 36)=.pointer (some ⟨g,0,none⟩)):=hh.at 0;clear hh;refine Each.Goes.same ?_;go_simp;try with_reducible rfl
     ·refine Each.fine rfl (fun ev w1 hR hb hh=>?_);have e37:(ev (.tmp 37)=.pointer (some ⟨g,21,none⟩)):=hh.at 0;clear hh;have q21:=(HQ.out.below hb).c 21 _ rfl;refine Each.Goes.same ?_;go_simp;try with_reducible rfl
     ·refine Each.fine rfl (fun ev w1 hR hb hh=>?_);clear hh;have e0:=hR.old 0 rfl;simp only [qA,qT,qZ,qO] at e0;refine Each.Goes.same ?_;go_simp;try with_reducible rfl
     ·refine Each.fine rfl (fun ev w1 hR hb hh=>?_);have e39:(ev (.tmp 39)=.pointer (some ⟨g,0,none⟩)):=hh.at 0;clear hh;refine Each.Goes.same ?_;go_simp;try with_reducible rfl
     ·refine Each.fine rfl (fun ev w1 hR hb hh=>?_);have e40:(ev (.tmp 40)=.pointer (some ⟨g,0,none⟩)):=hh.at 0;clear hh;refine Each.Goes.same ?_;go_simp;try with_reducible rfl
     ·refine Each.fine rfl (fun ev w1 hR hb hh=>?_);have e41:(ev (.tmp 41)=.pointer (some ⟨g,1,none⟩)):=hh.at 0;clear hh;refine Each.Goes.same ?_;go_simp;try with_reducible rfl
     ·refine Each.fine rfl (fun ev w1 hR hb hh=>?_);have e42:(ev (.tmp 42)=.pointer (some ⟨g,3,none⟩)):=hh.at 0;clear hh;have q3:=(HQ.out.below hb).c 3 _ rfl;refine Each.Goes.same ?_;go_simp;try with_reducible rfl
     ·refine Each.fine rfl (fun ev w1 hR hb hh=>?_);have e38:(ev (.tmp 38)=.int .i64 (S1.head:Int)):=hh.at 0;have e43:(ev (.tmp 43)=.int .i64 b.x2):=hh.at 1;clear hh;have d1:=HT.out;refine Each.Goes.same ?_;go_simp;try with_reducible rfl
    intro g1 w2 hb hf;have z44:(g1 44=.bool true):=hf.at 9;clear hf;simp only [Each.putg,Act.put,qI,qY,qX];rw [z44]
    have HFA:=Lib.hid (fail_at (H1.out.below hb) 431 431 rfl);have HS2:=Lib.hid (HS1.out.trans (Step.of_below hb));clear hb HQ
    go_wp2_with (go_at_call 56;with_reducible refine HFA.out.mono ?_;rintro r w3 ⟨rfl,hP,hS⟩);first | go_end0 | refine bodyPost_ret (results_none rfl _ _ _) rfl ?_
    exact ⟨rfl,_,_,_,_,_,_,hP,HS2.out.trans hS⟩
   ·have c11:w.cell? ⟨g,11,none⟩=some (.int .i64 1):=by have:=H.out.cs.c11;rw [hst] at this;exact this
    have c25:w.cell? ⟨g,25,none⟩=some (.int .i64 0):=by have:=H.out.cs.c25;rw [he] at this;exact this
    clear hst he;go_enter Tryz.func37,Tryz.ntmps37;go_upto_region 3 with fail
    generalize w.setCell ⟨g,21,none⟩ (.int .i64 ((s.head:Int)+1))=W1 at *;clear c11 c25 c21 z21 a1 a2
    have HQ:=Lib.hid ((H1.out.drew 1).bk);refine Each.region_all 10 [35,36,37,38,39,40,41,42,43,44]
     [Each.is (.pointer (some ⟨g,0,none⟩)),
       Each.is (.pointer (some ⟨g,0,none⟩)),
       Each.is (.pointer (some ⟨g,21,none⟩)),
       Each.is (.int .i64 (S1.head:Int)),
       Each.is (.pointer (some ⟨g,0,none⟩)),
       Each.is (.pointer (some ⟨g,0,none⟩)),
       Each.is (.pointer (some ⟨g,1,none⟩)),
       Each.is (.pointer (some ⟨g,3,none⟩)),
       Each.is (.int .i64 b.x2),
       Each.is (.bool true)]
      (by kernel_rfl) (by kernel_rfl) (by kernel_rfl) (by kernel_rfl) (fun _ _ d _ _ h=>by cases d<;>exact h) (by rfl) (by rfl)
     (by repeat first | exact trivial | refine ⟨Each.Lasts.eq _,?_⟩) ?_ ?_
    ·refine ⟨?_,?_,?_,?_,?_,?_,?_,?_,?_,?_,trivial⟩
     ·refine Each.fine rfl (fun ev w1 hR hb hh=>?_);clear hh;have e0:=hR.old 0 rfl;simp only [qA,qT,qZ,qO] at e0;refine Each.Goes.same ?_;go_simp;try with_reducible rfl
     ·refine Each.fine rfl (fun ev w1 hR hb hh=>?_);have e35:(ev (.tmp 35)=.pointer (some ⟨g,0,none⟩)):=hh.at 0;clear hh;refine Each.Goes.same ?_;go_simp;try with_reducible rfl
     ·refine Each.fine rfl (fun ev w1 hR hb hh=>?_);have e36:(ev (.tmp 36)=.pointer (some ⟨g,0,none⟩)):=hh.at 0;clear hh;refine Each.Goes.same ?_;go_simp;try with_reducible rfl
     ·refine Each.fine rfl (fun ev w1 hR hb hh=>?_);have e37:(ev (.tmp 37)=.pointer (some ⟨g,21,none⟩)):=hh.at 0;clear hh;have q21:=(HQ.out.below hb).c 21 _ rfl;refine Each.Goes.same ?_;go_simp;try with_reducible rfl
     ·refine Each.fine rfl (fun ev w1 hR hb hh=>?_);clear hh;have e0:=hR.old 0 rfl;simp only [qA,qT,qZ,qO] at e0;refine Each.Goes.same ?_;go_simp;try with_reducible rfl
     ·refine Each.fine rfl (fun ev w1 hR hb hh=>?_);have e39:(ev (.tmp 39)=.pointer (some ⟨g,0,none⟩)):=hh.at 0;clear hh;refine Each.Goes.same ?_;go_simp;try with_reducible rfl
     ·refine Each.fine rfl (fun ev w1 hR hb hh=>?_);have e40:(ev (.tmp 40)=.pointer (some ⟨g,0,none⟩)):=hh.at 0;clear hh;refine Each.Goes.same ?_;go_simp;try with_reducible rfl
     ·refine Each.fine rfl (fun ev w1 hR hb hh=>?_);have e41:(ev (.tmp 41)=.pointer (some ⟨g,1,none⟩)):=hh.at 0;clear hh;refine Each.Goes.same ?_;go_simp;try with_reducible rfl
     ·refine Each.fine rfl (fun ev w1 hR hb hh=>?_);have e42:(ev (.tmp 42)=.pointer (some ⟨g,3,none⟩)):=hh.at 0;clear hh;have q3:=(HQ.out.below hb).c 3 _ rfl;refine Each.Goes.same ?_;go_simp;try with_reducible rfl
     ·refine Each.fine rfl (fun ev w1 hR hb hh=>?_);have e38:(ev (.tmp 38)=.int .i64 (S1.head:Int)):=hh.at 0;have e43:(ev (.tmp 43)=.int .i64 b.x2):=hh.at 1;clear hh;have d1:=HT.out;refine Each.Goes.same ?_;go_simp;try with_reducible rfl
    intro g1 w2 hb hf;have z44:(g1 44=.bool true):=hf.at 9;clear hf;simp only [Each.putg,Act.put,qI,qY,qX];rw [z44]
    have HFA:=Lib.hid (fail_at (H1.out.below hb) 431 431 rfl);have HS2:=Lib.hid (HS1.out.trans (Step.of_below hb));clear hb HQ
    go_wp2_with (go_at_call 56;with_reducible refine HFA.out.mono ?_;rintro r w3 ⟨rfl,hP,hS⟩);first | go_end0 | refine bodyPost_ret (results_none rfl _ _ _) rfl ?_
    exact ⟨rfl,_,_,_,_,_,_,hP,HS2.out.trans hS⟩
   ·have c11:w.cell? ⟨g,11,none⟩=some (.int .i64 6):=by have:=H.out.cs.c11;rw [hst] at this;exact this
    have c25:w.cell? ⟨g,25,none⟩=some (.int .i64 0):=by have:=H.out.cs.c25;rw [he] at this;exact this
    clear hst he;go_enter Tryz.func37,Tryz.ntmps37;go_upto_region 3 with fail
    generalize w.setCell ⟨g,21,none⟩ (.int .i64 ((s.head:Int)+1))=W1 at *;clear c11 c25 c21 z21 a1 a2
    have HQ:=Lib.hid ((H1.out.drew 1).bk);refine Each.region_all 10 [35,36,37,38,39,40,41,42,43,44]
     [Each.is (.pointer (some ⟨g,0,none⟩)),
       Each.is (.pointer (some ⟨g,0,none⟩)),
       Each.is (.pointer (some ⟨g,21,none⟩)),
       Each.is (.int .i64 (S1.head:Int)),
       Each.is (.pointer (some ⟨g,0,none⟩)),
       Each.is (.pointer (some ⟨g,0,none⟩)),
       Each.is (.pointer (some ⟨g,1,none⟩)),
       Each.is (.pointer (some ⟨g,3,none⟩)),
       Each.is (.int .i64 b.x2),
       Each.is (.bool true)]
      (by kernel_rfl) (by kernel_rfl) (by kernel_rfl) (by kernel_rfl) (fun _ _ d _ _ h=>by cases d<;>exact h) (by rfl) (by rfl)
     (by repeat first | exact trivial | refine ⟨Each.Lasts.eq _,?_⟩) ?_ ?_
    ·refine ⟨?_,?_,?_,?_,?_,?_,?_,?_,?_,?_,trivial⟩
     ·refine Each.fine rfl (fun ev w1 hR hb hh=>?_);clear hh;have e0:=hR.old 0 rfl;simp only [qA,qT,qZ,qO] at e0;refine Each.Goes.same ?_;go_simp;try with_reducible rfl
     ·refine Each.fine rfl (fun ev w1 hR hb hh=>?_);have e35:(ev (.tmp 35)=.pointer (some ⟨g,0,none⟩)):=hh.at 0;clear hh;refine Each.Goes.same ?_;go_simp;try with_reducible rfl
     ·refine Each.fine rfl (fun ev w1 hR hb hh=>?_);have e36:(ev (.tmp 36)=.pointer (some ⟨g,0,none⟩)):=hh.at 0;clear hh;refine Each.Goes.same ?_;go_simp;try with_reducible rfl
     ·refine Each.fine rfl (fun ev w1 hR hb hh=>?_);have e37:(ev (.tmp 37)=.pointer (some ⟨g,21,none⟩)):=hh.at 0;clear hh;have q21:=(HQ.out.below hb).c 21 _ rfl;refine Each.Goes.same ?_;go_simp;try with_reducible rfl
     ·refine Each.fine rfl (fun ev w1 hR hb hh=>?_);clear hh;have e0:=hR.old 0 rfl;simp only [qA,qT,qZ,qO] at e0;refine Each.Goes.same ?_;go_simp;try with_reducible rfl
     ·refine Each.fine rfl (fun ev w1 hR hb hh=>?_);have e39:(ev (.tmp 39)=.pointer (some ⟨g,0,none⟩)):=hh.at 0;clear hh;refine Each.Goes.same ?_;go_simp;try with_reducible rfl
     ·refine Each.fine rfl (fun ev w1 hR hb hh=>?_);have e40:(ev (.tmp 40)=.pointer (some ⟨g,0,none⟩)):=hh.at 0;clear hh;refine Each.Goes.same ?_;go_simp;try with_reducible rfl
     ·refine Each.fine rfl (fun ev w1 hR hb hh=>?_);have e41:(ev (.tmp 41)=.pointer (some ⟨g,1,none⟩)):=hh.at 0;clear hh;refine Each.Goes.same ?_;go_simp;try with_reducible rfl
     ·refine Each.fine rfl (fun ev w1 hR hb hh=>?_);have e42:(ev (.tmp 42)=.pointer (some ⟨g,3,none⟩)):=hh.at 0;clear hh;have q3:=(HQ.out.below hb).c 3 _ rfl;refine Each.Goes.same ?_;go_simp;try with_reducible rfl
     ·refine Each.fine rfl (fun ev w1 hR hb hh=>?_);have e38:(ev (.tmp 38)=.int .i64 (S1.head:Int)):=hh.at 0;have e43:(ev (.tmp 43)=.int .i64 b.x2):=hh.at 1;clear hh;have d1:=HT.out;refine Each.Goes.same ?_;go_simp;try with_reducible rfl
    intro g1 w2 hb hf;have z44:(g1 44=.bool true):=hf.at 9;clear hf;simp only [Each.putg,Act.put,qI,qY,qX];rw [z44]
    have HFA:=Lib.hid (fail_at (H1.out.below hb) 431 431 rfl);have HS2:=Lib.hid (HS1.out.trans (Step.of_below hb));clear hb HQ
    go_wp2_with (go_at_call 56;with_reducible refine HFA.out.mono ?_;rintro r w3 ⟨rfl,hP,hS⟩);first | go_end0 | refine bodyPost_ret (results_none rfl _ _ _) rfl ?_
    exact ⟨rfl,_,_,_,_,_,_,hP,HS2.out.trans hS⟩
  ·rw [if_neg hov];have HT:=Lib.hid hov;clear hov;rcases hst0 with hst | hst | hst
   ·have c11:w.cell? ⟨g,11,none⟩=some (.int .i64 0):=by have:=H.out.cs.c11;rw [hst] at this;exact this
    have c25:w.cell? ⟨g,25,none⟩=some (.int .i64 0):=by have:=H.out.cs.c25;rw [he] at this;exact this
    clear hst he;go_enter Tryz.func37,Tryz.ntmps37;go_upto_region 3 with fail
    generalize w.setCell ⟨g,21,none⟩ (.int .i64 ((s.head:Int)+1))=W1 at *;clear c11 c25 c21 z21 a1 a2
    have HQ:=Lib.hid ((H1.out.drew 1).bk);refine Each.region_all 10 [35,36,37,38,39,40,41,42,43,44]
     [Each.is (.pointer (some ⟨g,0,none⟩)),
       Each.is (.pointer (some ⟨g,0,none⟩)),
       Each.is (.pointer (some ⟨g,21,none⟩)),
       Each.is (.int .i64 (S1.head:Int)),
       Each.is (.pointer (some ⟨g,0,none⟩)),
       Each.is (.pointer (some ⟨g,0,none⟩)),
       Each.is (.pointer (some ⟨g,1,none⟩)),
       Each.is (.pointer (some ⟨g,3,none⟩)),
       Each.is (.int .i64 b.x2),
       Each.is (.bool false)]
      (by kernel_rfl) (by kernel_rfl) (by kernel_rfl) (by kernel_rfl) (fun _ _ d _ _ h=>by cases d<;>exact h) (by rfl) (by rfl)
     (by repeat first | exact trivial | refine ⟨Each.Lasts.eq _,?_⟩) ?_ ?_
    ·refine ⟨?_,?_,?_,?_,?_,?_,?_,?_,?_,?_,trivial⟩
     ·refine Each.fine rfl (fun ev w1 hR hb hh=>?_);clear hh;have e0:=hR.old 0 rfl;simp only [qA,qT,qZ,qO] at e0;refine Each.Goes.same ?_;go_simp;try with_reducible rfl
     ·refine Each.fine rfl (fun ev w1 hR hb hh=>?_);have e35:(ev (.tmp 35)=.pointer (some ⟨g,0,none⟩)):=hh.at 0;clear hh;refine Each.Goes.same ?_;go_simp;try with_reducible rfl
     ·refine Each.fine rfl (fun ev w1 hR hb hh=>?_);have e36:(ev (.tmp 36)=.pointer (some ⟨g,0,none⟩)):=hh.at 0;clear hh;refine Each.Goes.same ?_;go_simp;try with_reducible rfl
     ·refine Each.fine rfl (fun ev w1 hR hb hh=>?_);have e37:(ev (.tmp 37)=.pointer (some ⟨g,21,none⟩)):=hh.at 0;clear hh;have q21:=(HQ.out.below hb).c 21 _ rfl;refine Each.Goes.same ?_;go_simp;try with_reducible rfl
     ·refine Each.fine rfl (fun ev w1 hR hb hh=>?_);clear hh;have e0:=hR.old 0 rfl;simp only [qA,qT,qZ,qO] at e0;refine Each.Goes.same ?_;go_simp;try with_reducible rfl
     ·refine Each.fine rfl (fun ev w1 hR hb hh=>?_);have e39:(ev (.tmp 39)=.pointer (some ⟨g,0,none⟩)):=hh.at 0;clear hh;refine Each.Goes.same ?_;go_simp;try with_reducible rfl
     ·refine Each.fine rfl (fun ev w1 hR hb hh=>?_);have e40:(ev (.tmp 40)=.pointer (some ⟨g,0,none⟩)):=hh.at 0;clear hh;refine Each.Goes.same ?_;go_simp;try with_reducible rfl
     ·refine Each.fine rfl (fun ev w1 hR hb hh=>?_);have e41:(ev (.tmp 41)=.pointer (some ⟨g,1,none⟩)):=hh.at 0;clear hh;refine Each.Goes.same ?_;go_simp;try with_reducible rfl
     ·refine Each.fine rfl (fun ev w1 hR hb hh=>?_);have e42:(ev (.tmp 42)=.pointer (some ⟨g,3,none⟩)):=hh.at 0;clear hh;have q3:=(HQ.out.below hb).c 3 _ rfl;refine Each.Goes.same ?_;go_simp;try with_reducible rfl
     ·refine Each.fine rfl (fun ev w1 hR hb hh=>?_);have e38:(ev (.tmp 38)=.int .i64 (S1.head:Int)):=hh.at 0;have e43:(ev (.tmp 43)=.int .i64 b.x2):=hh.at 1;clear hh;have d1:=HT.out;refine Each.Goes.same ?_;go_simp;try with_reducible rfl
    intro g1 w2 hb hf;have z44:(g1 44=.bool false):=hf.at 9;clear hf;simp only [Each.putg,Act.put,qI,qY,qX];rw [z44]
    have H2:=Lib.hid (H1.out.below hb);have HS2:=Lib.hid (HS1.out.trans (Step.of_below hb));clear hb HQ;have c24:=H2.out.cs.c24;have z24:=H2.out.marks 24
    have H3:=Lib.hid (H2.out.put 24 (.bool false) {S1 with clean:=false} rfl rfl rfl rfl rfl rfl)
    have HS3:=Lib.hid (HS2.out.trans (Step.set g 24 (.bool false) (by simp)))
    have HB3:=Lib.hid (HB.out _ {S1 with clean:=false} (.inl ⟨HD.out,by rw [←HSS.out],HT.out⟩) H3.out)
    go_wp2_with (go_at_call 57;with_reducible refine HB3.out.mono ?_;rintro r w3 ⟨rfl,q1,v1,f1,bd1,t1,o1,hP,hS⟩);first | go_end0 | refine bodyPost_ret (results_none rfl _ _ _) rfl ?_
    exact ⟨rfl,_,_,_,_,_,_,hP,HS3.out.trans hS⟩
   ·have c11:w.cell? ⟨g,11,none⟩=some (.int .i64 1):=by have:=H.out.cs.c11;rw [hst] at this;exact this
    have c25:w.cell? ⟨g,25,none⟩=some (.int .i64 0):=by have:=H.out.cs.c25;rw [he] at this;exact this
    clear hst he;go_enter Tryz.func37,Tryz.ntmps37;go_upto_region 3 with fail
    generalize w.setCell ⟨g,21,none⟩ (.int .i64 ((s.head:Int)+1))=W1 at *;clear c11 c25 c21 z21 a1 a2
    have HQ:=Lib.hid ((H1.out.drew 1).bk);refine Each.region_all 10 [35,36,37,38,39,40,41,42,43,44]
     [Each.is (.pointer (some ⟨g,0,none⟩)),
       Each.is (.pointer (some ⟨g,0,none⟩)),
       Each.is (.pointer (some ⟨g,21,none⟩)),
       Each.is (.int .i64 (S1.head:Int)),
       Each.is (.pointer (some ⟨g,0,none⟩)),
       Each.is (.pointer (some ⟨g,0,none⟩)),
       Each.is (.pointer (some ⟨g,1,none⟩)),
       Each.is (.pointer (some ⟨g,3,none⟩)),
       Each.is (.int .i64 b.x2),
       Each.is (.bool false)]
      (by kernel_rfl) (by kernel_rfl) (by kernel_rfl) (by kernel_rfl) (fun _ _ d _ _ h=>by cases d<;>exact h) (by rfl) (by rfl)
     (by repeat first | exact trivial | refine ⟨Each.Lasts.eq _,?_⟩) ?_ ?_
    ·refine ⟨?_,?_,?_,?_,?_,?_,?_,?_,?_,?_,trivial⟩
     ·refine Each.fine rfl (fun ev w1 hR hb hh=>?_);clear hh;have e0:=hR.old 0 rfl;simp only [qA,qT,qZ,qO] at e0;refine Each.Goes.same ?_;go_simp;try with_reducible rfl
     ·refine Each.fine rfl (fun ev w1 hR hb hh=>?_);have e35:(ev (.tmp 35)=.pointer (some ⟨g,0,none⟩)):=hh.at 0;clear hh;refine Each.Goes.same ?_;go_simp;try with_reducible rfl
     ·refine Each.fine rfl (fun ev w1 hR hb hh=>?_);have e36:(ev (.tmp 36)=.pointer (some ⟨g,0,none⟩)):=hh.at 0;clear hh;refine Each.Goes.same ?_;go_simp;try with_reducible rfl
     ·refine Each.fine rfl (fun ev w1 hR hb hh=>?_);have e37:(ev (.tmp 37)=.pointer (some ⟨g,21,none⟩)):=hh.at 0;clear hh;have q21:=(HQ.out.below hb).c 21 _ rfl;refine Each.Goes.same ?_;go_simp;try with_reducible rfl
     ·refine Each.fine rfl (fun ev w1 hR hb hh=>?_);clear hh;have e0:=hR.old 0 rfl;simp only [qA,qT,qZ,qO] at e0;refine Each.Goes.same ?_;go_simp;try with_reducible rfl
     ·refine Each.fine rfl (fun ev w1 hR hb hh=>?_);have e39:(ev (.tmp 39)=.pointer (some ⟨g,0,none⟩)):=hh.at 0;clear hh;refine Each.Goes.same ?_;go_simp;try with_reducible rfl
     ·refine Each.fine rfl (fun ev w1 hR hb hh=>?_);have e40:(ev (.tmp 40)=.pointer (some ⟨g,0,none⟩)):=hh.at 0;clear hh;refine Each.Goes.same ?_;go_simp;try with_reducible rfl
     ·refine Each.fine rfl (fun ev w1 hR hb hh=>?_);have e41:(ev (.tmp 41)=.pointer (some ⟨g,1,none⟩)):=hh.at 0;clear hh;refine Each.Goes.same ?_;go_simp;try with_reducible rfl
     ·refine Each.fine rfl (fun ev w1 hR hb hh=>?_);have e42:(ev (.tmp 42)=.pointer (some ⟨g,3,none⟩)):=hh.at 0;clear hh;have q3:=(HQ.out.below hb).c 3 _ rfl;refine Each.Goes.same ?_;go_simp;try with_reducible rfl
     ·refine Each.fine rfl (fun ev w1 hR hb hh=>?_);have e38:(ev (.tmp 38)=.int .i64 (S1.head:Int)):=hh.at 0;have e43:(ev (.tmp 43)=.int .i64 b.x2):=hh.at 1;clear hh;have d1:=HT.out;refine Each.Goes.same ?_;go_simp;try with_reducible rfl
    intro g1 w2 hb hf;have z44:(g1 44=.bool false):=hf.at 9;clear hf;simp only [Each.putg,Act.put,qI,qY,qX];rw [z44]
    have H2:=Lib.hid (H1.out.below hb);have HS2:=Lib.hid (HS1.out.trans (Step.of_below hb));clear hb HQ;have c24:=H2.out.cs.c24;have z24:=H2.out.marks 24
    have H3:=Lib.hid (H2.out.put 24 (.bool false) {S1 with clean:=false} rfl rfl rfl rfl rfl rfl)
    have HS3:=Lib.hid (HS2.out.trans (Step.set g 24 (.bool false) (by simp)))
    have HB3:=Lib.hid (HB.out _ {S1 with clean:=false} (.inl ⟨HD.out,by rw [←HSS.out],HT.out⟩) H3.out)
    go_wp2_with (go_at_call 57;with_reducible refine HB3.out.mono ?_;rintro r w3 ⟨rfl,q1,v1,f1,bd1,t1,o1,hP,hS⟩);first | go_end0 | refine bodyPost_ret (results_none rfl _ _ _) rfl ?_
    exact ⟨rfl,_,_,_,_,_,_,hP,HS3.out.trans hS⟩
   ·have c11:w.cell? ⟨g,11,none⟩=some (.int .i64 6):=by have:=H.out.cs.c11;rw [hst] at this;exact this
    have c25:w.cell? ⟨g,25,none⟩=some (.int .i64 0):=by have:=H.out.cs.c25;rw [he] at this;exact this
    clear hst he;go_enter Tryz.func37,Tryz.ntmps37;go_upto_region 3 with fail
    generalize w.setCell ⟨g,21,none⟩ (.int .i64 ((s.head:Int)+1))=W1 at *;clear c11 c25 c21 z21 a1 a2
    have HQ:=Lib.hid ((H1.out.drew 1).bk);refine Each.region_all 10 [35,36,37,38,39,40,41,42,43,44]
     [Each.is (.pointer (some ⟨g,0,none⟩)),
       Each.is (.pointer (some ⟨g,0,none⟩)),
       Each.is (.pointer (some ⟨g,21,none⟩)),
       Each.is (.int .i64 (S1.head:Int)),
       Each.is (.pointer (some ⟨g,0,none⟩)),
       Each.is (.pointer (some ⟨g,0,none⟩)),
       Each.is (.pointer (some ⟨g,1,none⟩)),
       Each.is (.pointer (some ⟨g,3,none⟩)),
       Each.is (.int .i64 b.x2),
       Each.is (.bool false)]
      (by kernel_rfl) (by kernel_rfl) (by kernel_rfl) (by kernel_rfl) (fun _ _ d _ _ h=>by cases d<;>exact h) (by rfl) (by rfl)
     (by repeat first | exact trivial | refine ⟨Each.Lasts.eq _,?_⟩) ?_ ?_
    ·refine ⟨?_,?_,?_,?_,?_,?_,?_,?_,?_,?_,trivial⟩
     ·refine Each.fine rfl (fun ev w1 hR hb hh=>?_);clear hh;have e0:=hR.old 0 rfl;simp only [qA,qT,qZ,qO] at e0;refine Each.Goes.same ?_;go_simp;try with_reducible rfl
     ·refine Each.fine rfl (fun ev w1 hR hb hh=>?_);have e35:(ev (.tmp 35)=.pointer (some ⟨g,0,none⟩)):=hh.at 0;clear hh;refine Each.Goes.same ?_;go_simp;try with_reducible rfl
     ·refine Each.fine rfl (fun ev w1 hR hb hh=>?_);have e36:(ev (.tmp 36)=.pointer (some ⟨g,0,none⟩)):=hh.at 0;clear hh;refine Each.Goes.same ?_;go_simp;try with_reducible rfl
     ·refine Each.fine rfl (fun ev w1 hR hb hh=>?_);have e37:(ev (.tmp 37)=.pointer (some ⟨g,21,none⟩)):=hh.at 0;clear hh;have q21:=(HQ.out.below hb).c 21 _ rfl;refine Each.Goes.same ?_;go_simp;try with_reducible rfl
     ·refine Each.fine rfl (fun ev w1 hR hb hh=>?_);clear hh;have e0:=hR.old 0 rfl;simp only [qA,qT,qZ,qO] at e0;refine Each.Goes.same ?_;go_simp;try with_reducible rfl
     ·refine Each.fine rfl (fun ev w1 hR hb hh=>?_);have e39:(ev (.tmp 39)=.pointer (some ⟨g,0,none⟩)):=hh.at 0;clear hh;refine Each.Goes.same ?_;go_simp;try with_reducible rfl
     ·refine Each.fine rfl (fun ev w1 hR hb hh=>?_);have e40:(ev (.tmp 40)=.pointer (some ⟨g,0,none⟩)):=hh.at 0;clear hh;refine Each.Goes.same ?_;go_simp;try with_reducible rfl
     ·refine Each.fine rfl (fun ev w1 hR hb hh=>?_);have e41:(ev (.tmp 41)=.pointer (some ⟨g,1,none⟩)):=hh.at 0;clear hh;refine Each.Goes.same ?_;go_simp;try with_reducible rfl
     ·refine Each.fine rfl (fun ev w1 hR hb hh=>?_);have e42:(ev (.tmp 42)=.pointer (some ⟨g,3,none⟩)):=hh.at 0;clear hh;have q3:=(HQ.out.below hb).c 3 _ rfl;refine Each.Goes.same ?_;go_simp;try with_reducible rfl
     ·refine Each.fine rfl (fun ev w1 hR hb hh=>?_);have e38:(ev (.tmp 38)=.int .i64 (S1.head:Int)):=hh.at 0;have e43:(ev (.tmp 43)=.int .i64 b.x2):=hh.at 1;clear hh;have d1:=HT.out;refine Each.Goes.same ?_;go_simp;try with_reducible rfl
    intro g1 w2 hb hf;have z44:(g1 44=.bool false):=hf.at 9;clear hf;simp only [Each.putg,Act.put,qI,qY,qX];rw [z44]
    have H2:=Lib.hid (H1.out.below hb);have HS2:=Lib.hid (HS1.out.trans (Step.of_below hb));clear hb HQ;have c24:=H2.out.cs.c24;have z24:=H2.out.marks 24
    have H3:=Lib.hid (H2.out.put 24 (.bool false) {S1 with clean:=false} rfl rfl rfl rfl rfl rfl)
    have HS3:=Lib.hid (HS2.out.trans (Step.set g 24 (.bool false) (by simp)))
    have HB3:=Lib.hid (HB.out _ {S1 with clean:=false} (.inl ⟨HD.out,by rw [←HSS.out],HT.out⟩) H3.out)
    go_wp2_with (go_at_call 57;with_reducible refine HB3.out.mono ?_;rintro r w3 ⟨rfl,q1,v1,f1,bd1,t1,o1,hP,hS⟩);first | go_end0 | refine bodyPost_ret (results_none rfl _ _ _) rfl ?_
    exact ⟨rfl,_,_,_,_,_,_,hP,HS3.out.trans hS⟩
 ·rw [if_neg hd];have hn:¬s.st=0∧¬s.st=1∧¬s.st=6:=by
   unfold headed at hd;simp only [Bool.or_eq_true,beq_iff_eq,not_or] at hd;exact ⟨hd.1.1,hd.1.2,hd.2⟩
  obtain ⟨n0,n1,n6⟩:=hn
  have t0:((s.st:Int)==0)=false:=beq_eq_false_iff_ne.2 (by omega)
  have t1:((s.st:Int)==1)=false:=beq_eq_false_iff_ne.2 (by omega)
  have t6:((s.st:Int)==6)=false:=beq_eq_false_iff_ne.2 (by omega);have m0:¬(s.st:Int)=0:=by omega
  have m1:¬(s.st:Int)=1:=by omega
  have m6:¬(s.st:Int)=6:=by omega
  have c11:=h.cs.c11;have c25:w.cell? ⟨g,25,none⟩=some (.int .i64 0):=by have:=h.cs.c25;rw [he] at this;exact this
  have c24:=h.cs.c24;have z24:=h.marks 24
  have H3:=Lib.hid (h.put 24 (.bool false) {s with clean:=false} rfl rfl rfl rfl rfl rfl)
  have HS3:=Lib.hid (Step.set (w:=w) (L:=blks g q v f bd t o) g 24 (.bool false) (by simp))
  have HB3:=Lib.hid (HB.out _ _ (.inr ⟨by simpa using hd,rfl⟩) H3.out);clear h HB0 hd hh he;go_enter Tryz.func37,Tryz.ntmps37
  go_wp2_with (go_at_call 57;with_reducible refine HB3.out.mono ?_;rintro r w3 ⟨rfl,q1,v1,f1,bd1,t1,o1,hP,hS⟩);first | go_end0 | refine bodyPost_ret (results_none rfl _ _ _) rfl ?_
  exact ⟨rfl,_,_,_,_,_,_,hP,HS3.out.trans hS⟩
end code
end Go.Proofs.YtimoakmcelocfaaGreat.Par
namespace Go.Proofs.YtimoakmcelocfaaGreat.Par
open Go.RowKit Base Txt Mem
structure PlainOk (p:Nat) (s:S) (c:UInt8):Prop where
 e:s.e=0
 fit:Fits s
 st:lined s.st∨s.st=2∨s.st=4
 left:bodied s.st=true→1≤s.left∧s.left≤2000000
 line:lined s.st→LineOk p s.rd∧s.rd.CR=false∧(s.st=5→s.rd.how c=4→Qk.has p 29=false)
theorem PlainOk.of {p:Nat} {s s2:S} {c:UInt8} (h:PlainOk p s c) {k:Nat} {cl:Bool} (h2:s2={s with head:=k,clean:=cl}):PlainOk p s2 c:=by subst h2;exact ⟨h.e,⟨h.fit.lines,h.fit.fss,h.fit.fsl,h.fit.tss,h.fit.tsl,h.fit.body,h.fit.out⟩,h.st,h.left,h.line⟩
section code
set_option maxHeartbeats 4000000
set_option maxRecDepth 20000
attribute [local go_sem] Base.some_undef
variable {w:World} {B:Zone} {g q:Nat} {v f bd t o:Value} {p:Nat} {b:Bd} {s:S}
theorem once_any (hp:p<4294967296) (h3:16≤b.x3∧b.x3≤1048576) (h4:0≤b.x4) (c:UInt8) (h:PR w B g q v f bd t o p b s) (ok:PlainOk p s c) :
 Calls Tryz.prog 57 #[ptr g,.int .u8 (c.toNat:Int)] w fun r w'=>r=.returned (.tuple #[])∧∃q1 v1 f1 bd1 t1 o1,PR w' B g q1 v1 f1 bd1 t1 o1 p b (s.plain p b c)∧Step (blks g q v f bd t o) (blks g q1 v1 f1 bd1 t1 o1) w w':=by
 have key:∀hst:s.st=2∨s.st=4,Calls Tryz.prog 57 #[ptr g,.int .u8 (c.toNat:Int)] w fun r w'=>
  r=.returned (.tuple #[])∧∃q1 v1 f1 bd1 t1 o1,PR w' B g q1 v1 f1 bd1 t1 o1 p b (s.plain p b c)∧Step (blks g q v f bd t o) (blks g q1 v1 f1 bd1 t1 o1) w w':=by
  intro hst;have hb:bodied s.st=true:=by rcases hst with e | e<;>rw [e]<;>rfl
  have e:s.plain p b c=S.bodyB p b {s with fresh:=false} c:=by unfold S.plain;simp [hb]
  rw [e];exact body_any c h hst (ok.left hb) ok.fit.body ok.fit.out
 rcases ok.st with hs | hs | hs
 ·obtain ⟨h5,h6,h7⟩:=ok.line hs;exact plain_any hp h3 h4 c h hs ok.e ok.fit h5 h6 h7
 ·exact key (.inl hs)
 ·exact key (.inr hs)
theorem countOnce_any (hp:p<4294967296) (h3:16≤b.x3∧b.x3≤1048576) (h4:0≤b.x4) (c:UInt8) (h:PR w B g q v f bd t o p b s) (ok:PlainOk p s c) (hh:s.head≤1000000) :
 Calls Tryz.prog 37 #[ptr g,.int .u8 (c.toNat:Int)] w fun r w'=>r=.returned (.tuple #[])∧∃q1 v1 f1 bd1 t1 o1,PR w' B g q1 v1 f1 bd1 t1 o1 p b (s.count b fun s=>s.plain p b c)∧Step (blks g q v f bd t o) (blks g q1 v1 f1 bd1 t1 o1) w w':=
 count_any c (fun s=>s.plain p b c) h ok.e hh fun w2 s2 hs h2=>once_any hp h3 h4 c h2 (by
  rcases hs with ⟨-,e, -⟩ | ⟨-,e⟩
  ·exact ok.of e
  ·exact ok.of (k:=s.head) (by rw [e]))
theorem again_any (hp:p<4294967296) (h3:16≤b.x3∧b.x3≤1048576) (h4:0≤b.x4) (c:UInt8) (was:Nat) (h:PR w B g q v f bd t o p b s) (ok:PlainOk p s c) (hh:s.head≤1000000) (hw:lined was) :
 Calls Tryz.prog 73 #[ptr g,.int .u8 (c.toNat:Int),.int .i64 (was:Int)] w fun r w'=>r=.returned (.tuple #[])∧∃q1 v1 f1 bd1 t1 o1,PR w' B g q1 v1 f1 bd1 t1 o1 p b (S.again p b s c was)∧Step (blks g q v f bd t o) (blks g q1 v1 f1 bd1 t1 o1) w w':=by
 have c11:=h.cs.c11;have c24:=h.cs.c24;have z24:=h.marks 24
 have H2:=Lib.hid (h.put 24 (.bool false) {s with clean:=false} rfl rfl rfl rfl rfl rfl)
 have HS2:=Lib.hid (Step.set (w:=w) (L:=blks g q v f bd t o) g 24 (.bool false) (by simp));have ok2:PlainOk p {s with clean:=false} c:=ok.of (k:=s.head) rfl
 have HBy:=Lib.hid (countOnce_any hp h3 h4 c h ok hh)
 have HC:=Lib.hid (countOnce_any hp h3 h4 c H2.out ok2 hh)
 have HP:=Lib.hid (once_any hp h3 h4 c H2.out ok2);clear ok ok2 hh;rcases hw with rfl | rfl | rfl | rfl | rfl
 ·rcases (by omega:s.st=0∨s.st=6∨(¬s.st=0∧¬s.st=6)) with hst | hst | ⟨n0,n6⟩
  ·have e:S.again p b s c 0=S.plain p b {s with clean:=false} c:=by simp [S.again,headed,hst]
   rw [e]
   replace c11:w.cell? ⟨g,11,none⟩=some (.int .i64 0):=by rw [hst] at c11;exact c11
   clear e h hst;go_enter Tryz.func73,Tryz.ntmps73
   go_wp2_with (go_at_call 57;with_reducible refine HP.out.mono ?_;rintro r w3 ⟨rfl,q1,v1,f1,bd1,t1,o1,hP,hS⟩);first | go_end0 | refine bodyPost_ret (results_none rfl _ _ _) rfl ?_
   exact ⟨rfl,_,_,_,_,_,_,hP,HS2.out.trans hS⟩
  ·have e:S.again p b s c 0=S.plain p b {s with clean:=false} c:=by simp [S.again,headed,hst]
   rw [e]
   replace c11:w.cell? ⟨g,11,none⟩=some (.int .i64 6):=by rw [hst] at c11;exact c11
   clear e h hst;go_enter Tryz.func73,Tryz.ntmps73
   go_wp2_with (go_at_call 57;with_reducible refine HP.out.mono ?_;rintro r w3 ⟨rfl,q1,v1,f1,bd1,t1,o1,hP,hS⟩);first | go_end0 | refine bodyPost_ret (results_none rfl _ _ _) rfl ?_
   exact ⟨rfl,_,_,_,_,_,_,hP,HS2.out.trans hS⟩
  ·have e:S.again p b s c 0=S.plain p b {s with clean:=false} c:=by simp [S.again,headed]
   rw [e]
   have t0:((s.st:Int)==0)=false:=beq_eq_false_iff_ne.2 (by omega)
   have t6:((s.st:Int)==6)=false:=beq_eq_false_iff_ne.2 (by omega);have m0:¬(s.st:Int)=0:=by omega
   have m6:¬(s.st:Int)=6:=by omega
   clear e h;go_enter Tryz.func73,Tryz.ntmps73
   go_wp2_with (go_at_call 57;with_reducible refine HP.out.mono ?_;rintro r w3 ⟨rfl,q1,v1,f1,bd1,t1,o1,hP,hS⟩);first | go_end0 | refine bodyPost_ret (results_none rfl _ _ _) rfl ?_
   exact ⟨rfl,_,_,_,_,_,_,hP,HS2.out.trans hS⟩
 ·rcases (by omega:s.st=0∨s.st=6∨(¬s.st=0∧¬s.st=6)) with hst | hst | ⟨n0,n6⟩
  ·have e:S.again p b s c 1=s.count b fun s=>s.plain p b c:=by simp [S.again,hst]
   rw [e]
   replace c11:w.cell? ⟨g,11,none⟩=some (.int .i64 0):=by rw [hst] at c11;exact c11
   clear e h hst;go_enter Tryz.func73,Tryz.ntmps73
   go_wp2_with (go_at_call 37;with_reducible refine HBy.out.mono ?_;rintro r w3 ⟨rfl,q1,v1,f1,bd1,t1,o1,hP,hS⟩);first | go_end0 | refine bodyPost_ret (results_none rfl _ _ _) rfl ?_
   exact ⟨rfl,_,_,_,_,_,_,hP,hS⟩
  ·have e:S.again p b s c 1=S.plain p b {s with clean:=false} c:=by simp [S.again,headed,hst]
   rw [e]
   replace c11:w.cell? ⟨g,11,none⟩=some (.int .i64 6):=by rw [hst] at c11;exact c11
   clear e h hst;go_enter Tryz.func73,Tryz.ntmps73
   go_wp2_with (go_at_call 57;with_reducible refine HP.out.mono ?_;rintro r w3 ⟨rfl,q1,v1,f1,bd1,t1,o1,hP,hS⟩);first | go_end0 | refine bodyPost_ret (results_none rfl _ _ _) rfl ?_
   exact ⟨rfl,_,_,_,_,_,_,hP,HS2.out.trans hS⟩
  ·have e:S.again p b s c 1=S.plain p b {s with clean:=false} c:=by simp [S.again,headed,n0]
   rw [e]
   have t0:((s.st:Int)==0)=false:=beq_eq_false_iff_ne.2 (by omega)
   have t6:((s.st:Int)==6)=false:=beq_eq_false_iff_ne.2 (by omega);have m0:¬(s.st:Int)=0:=by omega
   have m6:¬(s.st:Int)=6:=by omega
   clear e h;go_enter Tryz.func73,Tryz.ntmps73
   go_wp2_with (go_at_call 57;with_reducible refine HP.out.mono ?_;rintro r w3 ⟨rfl,q1,v1,f1,bd1,t1,o1,hP,hS⟩);first | go_end0 | refine bodyPost_ret (results_none rfl _ _ _) rfl ?_
   exact ⟨rfl,_,_,_,_,_,_,hP,HS2.out.trans hS⟩
 ·rcases (by omega:s.st=0∨s.st=6∨(¬s.st=0∧¬s.st=6)) with hst | hst | ⟨n0,n6⟩
  ·have e:S.again p b s c 3=s.count b fun s=>s.plain p b c:=by simp [S.again,hst]
   rw [e]
   replace c11:w.cell? ⟨g,11,none⟩=some (.int .i64 0):=by rw [hst] at c11;exact c11
   clear e h hst;go_enter Tryz.func73,Tryz.ntmps73
   go_wp2_with (go_at_call 37;with_reducible refine HBy.out.mono ?_;rintro r w3 ⟨rfl,q1,v1,f1,bd1,t1,o1,hP,hS⟩);first | go_end0 | refine bodyPost_ret (results_none rfl _ _ _) rfl ?_
   exact ⟨rfl,_,_,_,_,_,_,hP,hS⟩
  ·have e:S.again p b s c 3=S.count b (fun s=>s.plain p b c) {s with clean:=false}:=by simp [S.again,headed,hst]
   rw [e]
   replace c11:w.cell? ⟨g,11,none⟩=some (.int .i64 6):=by rw [hst] at c11;exact c11
   clear e h hst;go_enter Tryz.func73,Tryz.ntmps73
   go_wp2_with (go_at_call 37;with_reducible refine HC.out.mono ?_;rintro r w3 ⟨rfl,q1,v1,f1,bd1,t1,o1,hP,hS⟩);first | go_end0 | refine bodyPost_ret (results_none rfl _ _ _) rfl ?_
   exact ⟨rfl,_,_,_,_,_,_,hP,HS2.out.trans hS⟩
  ·have e:S.again p b s c 3=S.plain p b {s with clean:=false} c:=by simp [S.again,headed,n0,n6]
   rw [e]
   have t0:((s.st:Int)==0)=false:=beq_eq_false_iff_ne.2 (by omega)
   have t6:((s.st:Int)==6)=false:=beq_eq_false_iff_ne.2 (by omega);have m0:¬(s.st:Int)=0:=by omega
   have m6:¬(s.st:Int)=6:=by omega
   clear e h;go_enter Tryz.func73,Tryz.ntmps73
   go_wp2_with (go_at_call 57;with_reducible refine HP.out.mono ?_;rintro r w3 ⟨rfl,q1,v1,f1,bd1,t1,o1,hP,hS⟩);first | go_end0 | refine bodyPost_ret (results_none rfl _ _ _) rfl ?_
   exact ⟨rfl,_,_,_,_,_,_,hP,HS2.out.trans hS⟩
 ·rcases (by omega:s.st=0∨s.st=6∨(¬s.st=0∧¬s.st=6)) with hst | hst | ⟨n0,n6⟩
  ·have e:S.again p b s c 5=s.count b fun s=>s.plain p b c:=by simp [S.again,hst]
   rw [e]
   replace c11:w.cell? ⟨g,11,none⟩=some (.int .i64 0):=by rw [hst] at c11;exact c11
   clear e h hst;go_enter Tryz.func73,Tryz.ntmps73
   go_wp2_with (go_at_call 37;with_reducible refine HBy.out.mono ?_;rintro r w3 ⟨rfl,q1,v1,f1,bd1,t1,o1,hP,hS⟩);first | go_end0 | refine bodyPost_ret (results_none rfl _ _ _) rfl ?_
   exact ⟨rfl,_,_,_,_,_,_,hP,hS⟩
  ·have e:S.again p b s c 5=S.count b (fun s=>s.plain p b c) {s with clean:=false}:=by simp [S.again,headed,hst]
   rw [e]
   replace c11:w.cell? ⟨g,11,none⟩=some (.int .i64 6):=by rw [hst] at c11;exact c11
   clear e h hst;go_enter Tryz.func73,Tryz.ntmps73
   go_wp2_with (go_at_call 37;with_reducible refine HC.out.mono ?_;rintro r w3 ⟨rfl,q1,v1,f1,bd1,t1,o1,hP,hS⟩);first | go_end0 | refine bodyPost_ret (results_none rfl _ _ _) rfl ?_
   exact ⟨rfl,_,_,_,_,_,_,hP,HS2.out.trans hS⟩
  ·have e:S.again p b s c 5=S.plain p b {s with clean:=false} c:=by simp [S.again,headed,n0,n6]
   rw [e]
   have t0:((s.st:Int)==0)=false:=beq_eq_false_iff_ne.2 (by omega)
   have t6:((s.st:Int)==6)=false:=beq_eq_false_iff_ne.2 (by omega);have m0:¬(s.st:Int)=0:=by omega
   have m6:¬(s.st:Int)=6:=by omega
   clear e h;go_enter Tryz.func73,Tryz.ntmps73
   go_wp2_with (go_at_call 57;with_reducible refine HP.out.mono ?_;rintro r w3 ⟨rfl,q1,v1,f1,bd1,t1,o1,hP,hS⟩);first | go_end0 | refine bodyPost_ret (results_none rfl _ _ _) rfl ?_
   exact ⟨rfl,_,_,_,_,_,_,hP,HS2.out.trans hS⟩
 ·rcases (by omega:s.st=0∨s.st=6∨(¬s.st=0∧¬s.st=6)) with hst | hst | ⟨n0,n6⟩
  ·have e:S.again p b s c 6=s.count b fun s=>s.plain p b c:=by simp [S.again,hst]
   rw [e]
   replace c11:w.cell? ⟨g,11,none⟩=some (.int .i64 0):=by rw [hst] at c11;exact c11
   clear e h hst;go_enter Tryz.func73,Tryz.ntmps73
   go_wp2_with (go_at_call 37;with_reducible refine HBy.out.mono ?_;rintro r w3 ⟨rfl,q1,v1,f1,bd1,t1,o1,hP,hS⟩);first | go_end0 | refine bodyPost_ret (results_none rfl _ _ _) rfl ?_
   exact ⟨rfl,_,_,_,_,_,_,hP,hS⟩
  ·have e:S.again p b s c 6=S.plain p b {s with clean:=false} c:=by simp [S.again,headed,hst]
   rw [e]
   replace c11:w.cell? ⟨g,11,none⟩=some (.int .i64 6):=by rw [hst] at c11;exact c11
   clear e h hst;go_enter Tryz.func73,Tryz.ntmps73
   go_wp2_with (go_at_call 57;with_reducible refine HP.out.mono ?_;rintro r w3 ⟨rfl,q1,v1,f1,bd1,t1,o1,hP,hS⟩);first | go_end0 | refine bodyPost_ret (results_none rfl _ _ _) rfl ?_
   exact ⟨rfl,_,_,_,_,_,_,hP,HS2.out.trans hS⟩
  ·have e:S.again p b s c 6=S.plain p b {s with clean:=false} c:=by simp [S.again,headed,n0]
   rw [e]
   have t0:((s.st:Int)==0)=false:=beq_eq_false_iff_ne.2 (by omega)
   have t6:((s.st:Int)==6)=false:=beq_eq_false_iff_ne.2 (by omega);have m0:¬(s.st:Int)=0:=by omega
   have m6:¬(s.st:Int)=6:=by omega
   clear e h;go_enter Tryz.func73,Tryz.ntmps73
   go_wp2_with (go_at_call 57;with_reducible refine HP.out.mono ?_;rintro r w3 ⟨rfl,q1,v1,f1,bd1,t1,o1,hP,hS⟩);first | go_end0 | refine bodyPost_ret (results_none rfl _ _ _) rfl ?_
   exact ⟨rfl,_,_,_,_,_,_,hP,HS2.out.trans hS⟩
end code
end Go.Proofs.YtimoakmcelocfaaGreat.Par
namespace Go.Proofs.YtimoakmcelocfaaGreat.Par
open Go.RowKit Base Txt Mem
section code
set_option maxHeartbeats 4000000
set_option maxRecDepth 20000
attribute [local go_sem] Base.some_undef
variable {w:World} {B:Zone} {g q:Nat} {v f bd t o:Value} {p:Nat} {b:Bd} {s:S}
theorem longEnd_any (hp:p<4294967296) (h3:16≤b.x3∧b.x3≤1048576) (h4:0≤b.x4) (c:UInt8) (h:PR w B g q v f bd t o p b s) (hst:s.st=5) (hh:Qk.has p 29=true) (ok:PlainOk p {s with st:=3,rd:=nl p b.x0} c):Calls Tryz.prog 71 #[ptr g,.int .u8 (c.toNat:Int)] w fun r w'=>
 r=.returned (.tuple #[])∧∃q1 v1 f1 bd1 t1 o1,PR w' B g q1 v1 f1 bd1 t1 o1 p b (S.plain p b {s with st:=3,rd:=nl p b.x0} c)∧Step (blks g q v f bd t o) (blks g q1 v1 f1 bd1 t1 o1) w w':=by
 have HH:=Lib.hid (fun w=>Qk.rhas_any p hp 29 w);rw [hh] at HH;have c11:w.cell? ⟨g,11,none⟩=some (.int .i64 5):=by have:=h.cs.c11;rw [hst] at this;exact this
 have c0:=h.cs.c0;have H:=Lib.hid h
 have HO:=Lib.hid (fun w2 q1 (h:PR w2 B g q1 nil f bd t o p b {s with st:=3,rd:=nl p b.x0})=>once_any hp h3 h4 c h ok)
 have HQ:=Lib.hid ((h.drew 1).bk)
 have HBW:=Lib.hid (show B≤(w.drewN 1).heap.size from Nat.le_trans h.own.ge (Nat.le_of_lt (h.drew 1).own.lt));clear h hst ok hh;go_enter Tryz.func71,Tryz.ntmps71
 go_upto_region 2 with (go_at_call 39;with_reducible refine (HH.out _).mono ?_;rintro r w3 ⟨rfl,hw⟩;rw [hw];clear hw)
 clear c11 c0;refine Each.region_float 12 [19,20,21,22,23,24,25,26,27,28,29,30]
  [Each.is (.pointer (some ⟨g,0,none⟩)),
    Each.is (.pointer (some ⟨g,0,none⟩)),
    Each.is (.pointer (some ⟨g,0,none⟩)),
    Each.is (.pointer (some ⟨g,0,none⟩)),
    Each.is (.pointer (some ⟨g,0,none⟩)),
    Each.is (.int .u32 (p:Int)),
    Each.is (.pointer (some ⟨g,0,none⟩)),
    Each.is (.pointer (some ⟨g,0,none⟩)),
    Each.is (.pointer (some ⟨g,1,none⟩)),
    Each.is (.pointer (some ⟨g,1,none⟩)),
    Each.is (.int .i64 b.x0),
    fun v u=>∃q1,v=ptr q1∧w.heap.size≤q1∧Ln.Rr u B q1 nil p (nl p (b.x0))]
  [] 6 (some 1) (.quiet 12 (.quiet 13 (.act 14 (.quiet 15 (.quiet 16 (.act 17 .done)))))) (.quiet 1 (.quiet 12 (.quiet 13 (.act 14 (.quiet 15 (.quiet 16 (.act 17 .done))))))) (by kernel_rfl) (by kernel_rfl) (by kernel_rfl) (by kernel_rfl) (fun k0 h=>by cases h;kernel_rfl) (fun _ _ d _ _ h=>by cases d<;>exact h) (by rfl) (by rfl)
  ⟨Each.Lasts.eq _,Each.Lasts.eq _,Each.Lasts.eq _,Each.Lasts.eq _,Each.Lasts.eq _,Each.Lasts.eq _,Each.Lasts.eq _,Each.Lasts.eq _,Each.Lasts.eq _,Each.Lasts.eq _,Each.Lasts.eq _,((fun _ _ _ hb h=>by obtain ⟨q1,e1,h1,h2⟩:=h;exact ⟨q1,e1,h1,rr_below h2 hb⟩)),trivial⟩ trivial (by rfl) ?_ ?_ ?_
 ·refine ⟨?_,?_,?_,?_,?_,?_,?_,?_,?_,?_,?_,?_,trivial⟩
  ·refine Each.fine rfl (fun ev w1 hR hb hh=>?_);clear hh;have e0:=hR.old 0 rfl;simp only [qA,qT,qZ,qO] at e0;refine Each.Goes.same ?_;go_simp;try with_reducible rfl
  ·refine Each.fine rfl (fun ev w1 hR hb hh=>?_);clear hh;have e0:=hR.old 0 rfl;simp only [qA,qT,qZ,qO] at e0;refine Each.Goes.same ?_;go_simp;try with_reducible rfl
  ·refine Each.fine rfl (fun ev w1 hR hb hh=>?_);clear hh;have e0:=hR.old 0 rfl;simp only [qA,qT,qZ,qO] at e0;refine Each.Goes.same ?_;go_simp;try with_reducible rfl
  ·refine Each.fine rfl (fun ev w1 hR hb hh=>?_);have e21:(ev (.tmp 21)=.pointer (some ⟨g,0,none⟩)):=hh.at 0;clear hh;refine Each.Goes.same ?_;go_simp;try with_reducible rfl
  ·refine Each.fine rfl (fun ev w1 hR hb hh=>?_);have e22:(ev (.tmp 22)=.pointer (some ⟨g,0,none⟩)):=hh.at 0;clear hh;refine Each.Goes.same ?_;go_simp;try with_reducible rfl
  ·refine Each.fine rfl (fun ev w1 hR hb hh=>?_);have e23:(ev (.tmp 23)=.pointer (some ⟨g,0,none⟩)):=hh.at 0;clear hh;have q0:=(HQ.out.below hb).c 0 _ rfl;refine Each.Goes.same ?_;go_simp;try with_reducible rfl
  ·refine Each.fine rfl (fun ev w1 hR hb hh=>?_);clear hh;have e0:=hR.old 0 rfl;simp only [qA,qT,qZ,qO] at e0;refine Each.Goes.same ?_;go_simp;try with_reducible rfl
  ·refine Each.fine rfl (fun ev w1 hR hb hh=>?_);have e25:(ev (.tmp 25)=.pointer (some ⟨g,0,none⟩)):=hh.at 0;clear hh;refine Each.Goes.same ?_;go_simp;try with_reducible rfl
  ·refine Each.fine rfl (fun ev w1 hR hb hh=>?_);have e26:(ev (.tmp 26)=.pointer (some ⟨g,0,none⟩)):=hh.at 0;clear hh;refine Each.Goes.same ?_;go_simp;try with_reducible rfl
  ·refine Each.fine rfl (fun ev w1 hR hb hh=>?_);have e27:(ev (.tmp 27)=.pointer (some ⟨g,1,none⟩)):=hh.at 0;clear hh;refine Each.Goes.same ?_;go_simp;try with_reducible rfl
  ·refine Each.fine rfl (fun ev w1 hR hb hh=>?_);have e28:(ev (.tmp 28)=.pointer (some ⟨g,1,none⟩)):=hh.at 0;clear hh;have q1:=(HQ.out.below hb).c 1 _ rfl;refine Each.Goes.same ?_;go_simp;try with_reducible rfl
  ·refine Each.fine rfl (fun ev w1 hR hb hh=>?_);have e24:(ev (.tmp 24)=.int .u32 (p:Int)):=hh.at 0;have e29:(ev (.tmp 29)=.int .i64 b.x0):=hh.at 1;clear hh;have ef:=hR.func
   refine Each.Goes.enter 55 #[.int .u32 (p:Int),.int .i64 (b.x0)] (by go_simp) ((rnew_line B (b.x0) w1 (Nat.le_trans HBW.out hb.size)).mono ?_);rintro r w2 ⟨q1,rfl,h1,h2,hb2⟩;exact ⟨_,rfl,hb2,q1,rfl,Nat.le_trans hb.size h1,h2⟩
 ·intro g1 w2 hb hf;have z19:(g1 19=.pointer (some ⟨g,0,none⟩)):=hf.at 0;have z20:(g1 20=.pointer (some ⟨g,0,none⟩)):=hf.at 1;have z30:((fun v u=>∃q1,v=ptr q1∧w.heap.size≤q1∧Ln.Rr u B q1 nil p (nl p (b.x0))) (g1 30) w2):=hf.at 11;clear hf;obtain ⟨q1,e1,hq1,hr1⟩:=z30;simp only [Each.putg,Act.put,qI,qY,qX];rw [e1,z19,z20];simp only [Tree.grow,Tree.put1,qZ,qS];refine Tree.quiet (by rfl) (ptr g) (fun _ _=>by go_simp) ?_;simp only [Act.put,qI,qY,qX];refine Tree.quiet (by rfl) (.pointer (some ⟨g,11,none⟩)) (fun _ _=>by go_simp) ?_;simp only [Act.put,qI,qY,qX];have h1:=H.out.below hb;have ho:=H.out.own.line hb hr1 hq1;have d11:=h1.cs.c11;have z11:=h1.marks 11
  refine Tree.change (by rfl) (fun K hK=>?_);go_simp;refine hK _ _ trivial ?_;clear hK K;refine Tree.quiet (by rfl) (ptr g) (fun _ _=>by go_simp) ?_;simp only [Act.put,qI,qY,qX];refine Tree.quiet (by rfl) (.pointer (some ⟨g,12,none⟩)) (fun _ _=>by go_simp) ?_;simp only [Act.put,qI,qY,qX];have c12:=h1.cs.c12;have z12:=h1.marks 12
  refine Tree.change (by rfl) (fun K hK=>?_);go_simp;refine hK _ _ trivial ?_;clear hK K;refine Tree.done ?_;have HP2:Hid (PR ((w2.setCell ⟨g,11,none⟩ (.int .i64 3)).setCell ⟨g,12,none⟩ (ptr q1)) B g q1 nil f bd t o p b {s with st:=3,rd:=nl p b.x0}):=Lib.hid ⟨row_setL (row_setL h1.row 11 (.int .i64 3)) 12 (ptr q1),(ho.set 11 (.int .i64 3)).set 12 (ptr q1)⟩
  have HS:=Lib.hid ((Step.line (g:=g) (q:=q) (v:=v) (f:=f) (bd:=bd) (t:=t) (o:=o) hb hq1).trans ((Step.set g 11 (.int .i64 3) (by simp)).trans (Step.set g 12 (ptr q1) (by simp))))
  have HON:=Lib.hid (HO.out _ _ HP2.out);clear HQ HBW hr1 hq1 c12 z12 d11 z11 h1 ho hb HP2;generalize (w2.setCell ⟨g,11,none⟩ (.int .i64 3)).setCell ⟨g,12,none⟩ (ptr q1)=W3 at *
  go_wp2_with (go_at_call 57;with_reducible refine HON.out.mono ?_;rintro r w4 ⟨rfl,q2,v2,f2,bd2,t2,o2,hP,hS⟩);first | go_end0 | refine bodyPost_ret (results_none rfl _ _ _) rfl ?_
  exact ⟨rfl,_,_,_,_,_,_,hP,HS.out.trans hS⟩
 ·intro k0 hk0 g1 w2 hb hf;cases hk0;have z19:(g1 19=.pointer (some ⟨g,0,none⟩)):=hf.at 0;have z30:((fun v u=>∃q1,v=ptr q1∧w.heap.size≤q1∧Ln.Rr u B q1 nil p (nl p (b.x0))) (g1 30) w2):=hf.at 11;clear hf;obtain ⟨q1,e1,hq1,hr1⟩:=z30;simp only [Each.putg,Act.put,qI,qY,qX];rw [e1,z19];simp only [Tree.grow,Tree.put1,qZ,qS];refine Tree.quiet (by rfl) (ptr g) (fun _ _=>by go_simp) ?_;simp only [Act.put,qI,qY,qX];refine Tree.quiet (by rfl) (ptr g) (fun _ _=>by go_simp) ?_;simp only [Act.put,qI,qY,qX];refine Tree.quiet (by rfl) (.pointer (some ⟨g,11,none⟩)) (fun _ _=>by go_simp) ?_;simp only [Act.put,qI,qY,qX];have h1:=H.out.below hb;have ho:=H.out.own.line hb hr1 hq1;have d11:=h1.cs.c11;have z11:=h1.marks 11
  refine Tree.change (by rfl) (fun K hK=>?_);go_simp;refine hK _ _ trivial ?_;clear hK K;refine Tree.quiet (by rfl) (ptr g) (fun _ _=>by go_simp) ?_;simp only [Act.put,qI,qY,qX];refine Tree.quiet (by rfl) (.pointer (some ⟨g,12,none⟩)) (fun _ _=>by go_simp) ?_;simp only [Act.put,qI,qY,qX];have c12:=h1.cs.c12;have z12:=h1.marks 12
  refine Tree.change (by rfl) (fun K hK=>?_);go_simp;refine hK _ _ trivial ?_;clear hK K;refine Tree.done ?_;have HP2:Hid (PR ((w2.setCell ⟨g,11,none⟩ (.int .i64 3)).setCell ⟨g,12,none⟩ (ptr q1)) B g q1 nil f bd t o p b {s with st:=3,rd:=nl p b.x0}):=Lib.hid ⟨row_setL (row_setL h1.row 11 (.int .i64 3)) 12 (ptr q1),(ho.set 11 (.int .i64 3)).set 12 (ptr q1)⟩
  have HS:=Lib.hid ((Step.line (g:=g) (q:=q) (v:=v) (f:=f) (bd:=bd) (t:=t) (o:=o) hb hq1).trans ((Step.set g 11 (.int .i64 3) (by simp)).trans (Step.set g 12 (ptr q1) (by simp))))
  have HON:=Lib.hid (HO.out _ _ HP2.out);clear HQ HBW hr1 hq1 c12 z12 d11 z11 h1 ho hb HP2;generalize (w2.setCell ⟨g,11,none⟩ (.int .i64 3)).setCell ⟨g,12,none⟩ (ptr q1)=W3 at *
  go_wp2_with (go_at_call 57;with_reducible refine HON.out.mono ?_;rintro r w4 ⟨rfl,q2,v2,f2,bd2,t2,o2,hP,hS⟩);first | go_end0 | refine bodyPost_ret (results_none rfl _ _ _) rfl ?_
  exact ⟨rfl,_,_,_,_,_,_,hP,HS.out.trans hS⟩
end code
end Go.Proofs.YtimoakmcelocfaaGreat.Par
