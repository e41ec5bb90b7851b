import Derived.Test.YtnabkcglnbdfeaaGreatDoorFep
namespace Go.Proofs.YtnabkcglnbdfeaaGreatDoor.Pg
open Go.RowKit Base Txt Mem Par
def At (w:World) (B:Zone) (g:Nat) (p:Nat) (b:Bd) (L:List (Option Nat)):Q→Prop
 | .live s=>∃q v f bd t o,L=blks g q v f bd t o∧PR w B g q v f bd t o p b s
 | .dead e out=>∃o,L= [some g,o.ownBlock]∧Dead w B g e o out
theorem ba_list (l:List UInt8):(ba l).data.toList=l:=rfl
section
variable {w w':World} {B:Zone} {g q:Nat} {v f bd t o:Value} {p:Nat} {rd:Ln.M} {fs ts:List Fld} {body:List UInt8} {out:List Rec.R}
theorem Own.reader (h:Own w B g q v f bd t o rd fs body ts out) {v':Value} {rd':Ln.M} (hk:Ln.Kept q v.ownBlock w w') (hm:Ln.Moved w v.ownBlock v'.ownBlock) (hr:Ln.Rd w' B q v' rd') :
 Own w' B g q v' f bd t o rd' fs body ts out∧Step (blks g q v f bd t o) (blks g q v' f bd t o) w w'∧Keeps [some q,v.ownBlock] w w':=by
 have hk2:Keeps [some q,v.ownBlock] w w':=Keeps.of_kept hk (by simp) fun k e=>by simp [e]
 have hn:∀i j,i≠1→i≠2→(blks g q v f bd t o)[i]?=some (some j)→some j∉ [some q,v.ownBlock]:=fun i j h1 h2 hj hm=>by
  rcases (by simpa using hm:j=q∨some j=v.ownBlock) with e | e
  ·exact h1 (h.lone i 1 j hj (by rw [e];rfl))
  ·exact h2 (h.lone i 2 j hj (by rw [e];rfl))
 have e:blks g q v' f bd t o=(blks g q v f bd t o).set 2 v'.ownBlock:=rfl;have ho:v'.ownBlock=none∨(blks g q v f bd t o)[2]?=some v'.ownBlock∨∃k,v'.ownBlock=some k∧w.heap.size≤k:=by
  rcases hm with e | e | e
  ·exact .inr (.inl (by rw [e];rfl))
  ·exact .inl e
  ·exact .inr (.inr e)
 have hof:Of w (blks g q v f bd t o) (blks g q v' f bd t o):=by rw [e];exact Of.set 2 _ ho
 have hkL:Keeps (blks g q v f bd t o) w w':=hk2.mono fun k hk=>by
  rcases (by simpa using hk:k=q∨some k=v.ownBlock) with e | e
  ·simp [e]
  ·simp [e]
 obtain ⟨ps,h1,h2,h3⟩:=h.O
 refine ⟨⟨hr,hk2.own h.F fun j e=>hn 3 j (by decide) (by decide) (by rw [←e];rfl),hk2.own h.D fun j e=>hn 4 j (by decide) (by decide) (by rw [←e];rfl),hk2.own h.TR fun j e=>hn 5 j (by decide) (by decide) (by rw [←e];rfl),
  ⟨ps,h1,fun x hx=>⟨(h2 x hx).1,by
    have hx2:=(h2 x hx).2.keeps hkL
    exact ⟨hx2.reads,fun k hb=>⟨fun hm=>by
     rcases hof k hm with e | e
     ·exact (hx2.far k hb).1 e
     ·exact absurd ((h2 x hx).2.far k hb).2 (by omega),(hx2.far k hb).2⟩,hx2.off⟩⟩,hk2.own h3 fun j e=>hn 6 j (by decide) (by decide) (by rw [←e];rfl)⟩,?_,h.ge,Nat.lt_of_lt_of_le h.lt hk2.size,h.zone.of hk2.size hof⟩,⟨hkL,hof⟩,hk2⟩
 rw [e];exact h.lone.set h.in 2 _ ho
theorem PR.reader {b:Bd} {s:T} (h:PR w B g q v f bd t o p b s) {v':Value} {rd':Ln.M} (hk:Ln.Kept q v.ownBlock w w') (hm:Ln.Moved w v.ownBlock v'.ownBlock) (hr:Ln.Rd w' B q v' rd') :
 PR w' B g q v' f bd t o p b {s with rd:=rd'}∧Step (blks g q v f bd t o) (blks g q v' f bd t o) w w':=by
 obtain ⟨h1,h2,h3⟩:=h.own.reader hk hm hr;refine ⟨⟨h3.row h.row fun hm=>?_,h1⟩,h2⟩;rcases (by simpa using hm:g=q∨some g=v.ownBlock) with e | e
 ·exact absurd (h.own.lone 0 1 g rfl (by rw [e];rfl)) (by decide)
 ·exact absurd (h.own.lone 0 2 g rfl (by rw [e];rfl)) (by decide)
end
section code
set_option maxHeartbeats 4000000
set_option maxRecDepth 20000
attribute [local go_sem] Base.some_undef
variable {w:World} {B:Zone} {g q:Nat} {v f bd t o:Value} {p:Nat} {b:Bd} {s:T}
theorem reader_any (c:UInt8) (hm:s.rd.Ok) (h:PR w B g q v f bd t o p b s):Calls Tryz.prog 184 #[ptr q,.int .u8 (c.toNat:Int)] w fun r w'=>
 ∃v1,r=.returned (.int .i64 (s.rd.clear.next c))∧PR w' B g q v1 f bd t o p b {s with rd:=s.rd.byte c}∧Step (blks g q v f bd t o) (blks g q v1 f bd t o) w w':=by
 refine (Ln.byte_any c s.rd hm w B q v h.own.R).mono ?_;rintro r w' ⟨v1,rfl,h1,h2,h3⟩;obtain ⟨h4,h5⟩:=h.reader h2 h3 h1;exact ⟨v1,rfl,h4,h5⟩
theorem inLine_any (hp:p<4294967296) (hb0:b.right=true) (c:UInt8) (h:PR w B g q v f bd t o p b s) (ok:s.Ok) (hout:s.out.length≤1000000000):Calls Tryz.prog 160 #[ptr g,.int .u8 (c.toNat:Int)] w fun r w'=>
 r=.returned (.bool (s.inLine p b c).2)∧∃L1,At w' B g p b L1 (s.inLine p b c).1∧Step (blks g q v f bd t o) L1 w w':=by
 have hby:=reader_any c ok.rd h;rcases Ln.M.next_is s.rd.clear c with hhow | hhow | hhow | hhow | hhow
 ·have HBY:=Lib.hid (show Calls Tryz.prog 184 #[ptr q,.int .u8 (c.toNat:Int)] w fun r w'=>∃v1,r=.returned (.int .i64 0)∧PR w' B g q v1 f bd t o p b {s with rd:=s.rd.byte c}∧Step (blks g q v f bd t o) (blks g q v1 f bd t o) w w' from by rw [←hhow];exact hby);have e0:s.inLine p b c=(.live {s with rd:=s.rd.byte c},true):=by
   unfold T.inLine;dsimp only;rw [hhow,if_pos rfl]
  rw [e0];have c25:=h.cs.c25;clear h hby ok hout e0 hhow;go_enter Tryz.func160,Tryz.ntmps160;go_wp2_with
   (go_at_call 184;with_reducible refine HBY.out.mono ?_;rintro r w2 ⟨v1,rfl,h2,hS2⟩
    have HP:=Lib.hid h2;have HS:=Lib.hid hS2;clear h2 hS2 c25)
  go_ret;exact ⟨rfl,_,⟨_,_,_,_,_,_,rfl,HP.out⟩,HS.out⟩
 ·have HBY:=Lib.hid (show Calls Tryz.prog 184 #[ptr q,.int .u8 (c.toNat:Int)] w fun r w'=>∃v1,r=.returned (.int .i64 1)∧PR w' B g q v1 f bd t o p b {s with rd:=s.rd.byte c}∧Step (blks g q v f bd t o) (blks g q v1 f bd t o) w w' from by rw [←hhow];exact hby)
  have ok2:({s with rd:=s.rd.byte c}:T).Ok:=ok.byteR c (by rw [hhow];rfl);have hln:=line_len ok c;obtain ⟨ln,hl⟩:∃ln,(s.rd.byte c).line=ln:=⟨_,rfl⟩;rw [hl] at hln;obtain ⟨⟨e,t2⟩,hx⟩:∃x,T.line p b {s with rd:=s.rd.byte c} ln=x:=⟨_,rfl⟩;have e0:s.inLine p b c=(ends (e,t2),true):=by unfold T.inLine;dsimp only;rw [hhow,if_neg (by decide),if_neg (by decide),if_neg (by decide),hl,hx];rfl
  rw [e0]
  have HEN:=Lib.hid (fun (w2:World) (v1:Value) (h2:PR w2 B g q v1 f bd t o p b {s with rd:=s.rd.byte c})=>endLine_any hp hb0 (ba ln) (by rw [size_ba];exact hln) h2 ok2 hout)
  have HLI:=Lib.hid (fun (w2:World) (v1:Value) (h2:PR w2 B g q v1 f bd t o p b {s with rd:=s.rd.byte c})=>Ln.line_any h2.own.R.row h2.own.R.own);have HLN:=Lib.hid hl;have HX:=Lib.hid hx;have c25:=h.cs.c25;clear h hby ok2 hln hl hx e0 hhow ok;rcases Nat.eq_zero_or_pos e with he | he
  ·subst he;go_enter Tryz.func160,Tryz.ntmps160
   go_wp2_with (first
    |(go_at_call 159;with_reducible refine (HFZ.out).mono ?_;rintro r w5 ⟨rfl,hw⟩;rw [hw];clear hw)
    |(go_at_call 185;with_reducible refine HEN2.out.mono ?_;rintro r w4 ⟨rfl,q1,v2,f1,bd1,t1,o1,hP,hS⟩
      have HP:=Lib.hid hP;have HS:=Lib.hid (HS2.out.trans hS);have HFZ:=Lib.hid (fail_zero w4 g);clear hP hS)
    |(go_at_call 186;with_reducible refine HLI2.out.mono ?_;rintro r w3 ⟨rfl,hw⟩;rw [hw];clear hw)
    |(go_at_call 184;with_reducible refine HBY.out.mono ?_;rintro r w2 ⟨v1,rfl,h2,hS2⟩
      have d25:=h2.cs.c25;have HS2:=Lib.hid hS2;have HEN2:=HEN.out w2 v1 h2;have HLI2:=HLI.out w2 v1 h2
      replace HEN2:=Lib.hid (show Calls Tryz.prog 185 #[ptr g,.string (Ln.ba ln)] w2 fun r w'=>r=.returned (.int .i64 0)∧∃q1 v2 f1 bd1 t1 o1,PR w' B g q1 v2 f1 bd1 t1 o1 p b t2∧Step (blks g q v1 f bd t o) (blks g q1 v2 f1 bd1 t1 o1) w2 w' from by rw [ba_list,HX.out] at HEN2;exact HEN2)
      rw [HLN.out] at HLI2
      replace HLI2:=Lib.hid HLI2
      clear h2 hS2 c25))
   go_ret;exact ⟨rfl,_,⟨_,_,_,_,_,_,rfl,HP.out⟩,HS.out⟩
  ·have hne:e≠0:=by omega
   have e1:ends (e,t2)=.dead e t2.out:=by unfold ends;rw [if_neg hne]
   rw [e1];have HNE:=Lib.hid hne;clear he hne e1;go_enter Tryz.func160,Tryz.ntmps160
   go_wp2_with (first
    |(go_at_call 159;with_reducible refine HFA.out.mono ?_;rintro r w5 ⟨rfl,hD,hS5⟩)
    |(go_at_call 185;with_reducible refine HEN2.out.mono ?_;rintro r w4 ⟨rfl,q1,v2,f1,bd1,t1,o1,hP,hS⟩
      have HS:=Lib.hid (HS2.out.trans hS);have HFA:=Lib.hid (fail_any hP e HNE.out _ rfl);clear hP hS)
    |(go_at_call 186;with_reducible refine HLI2.out.mono ?_;rintro r w3 ⟨rfl,hw⟩;rw [hw];clear hw)
    |(go_at_call 184;with_reducible refine HBY.out.mono ?_;rintro r w2 ⟨v1,rfl,h2,hS2⟩
      have d25:=h2.cs.c25;have HS2:=Lib.hid hS2;have HEN2:=HEN.out w2 v1 h2;have HLI2:=HLI.out w2 v1 h2
      replace HEN2:=Lib.hid (show Calls Tryz.prog 185 #[ptr g,.string (Ln.ba ln)] w2 fun r w'=>r=.returned (.int .i64 (e:Int))∧∃q1 v2 f1 bd1 t1 o1,PR w' B g q1 v2 f1 bd1 t1 o1 p b t2∧Step (blks g q v1 f bd t o) (blks g q1 v2 f1 bd1 t1 o1) w2 w' from by rw [ba_list,HX.out] at HEN2;exact HEN2)
      rw [HLN.out] at HLI2
      replace HLI2:=Lib.hid HLI2
      clear h2 hS2 c25))
   go_ret;exact ⟨rfl,_,⟨_,rfl,hD⟩,HS.out.trans hS5⟩
 ·have HBY:=Lib.hid (show Calls Tryz.prog 184 #[ptr q,.int .u8 (c.toNat:Int)] w fun r w'=>∃v1,r=.returned (.int .i64 2)∧PR w' B g q v1 f bd t o p b {s with rd:=s.rd.byte c}∧Step (blks g q v f bd t o) (blks g q v1 f bd t o) w w' from by rw [←hhow];exact hby)
  have ok2:({s with rd:=s.rd.byte c}:T).Ok:=ok.byteR c (by rw [hhow];rfl);have hln:=line_len ok c;obtain ⟨ln,hl⟩:∃ln,(s.rd.byte c).line=ln:=⟨_,rfl⟩;rw [hl] at hln;obtain ⟨⟨e,t2⟩,hx⟩:∃x,T.line p b {s with rd:=s.rd.byte c} ln=x:=⟨_,rfl⟩;have e0:s.inLine p b c=(ends (e,t2),false):=by unfold T.inLine;dsimp only;rw [hhow,if_neg (by decide),if_neg (by decide),if_neg (by decide),hl,hx];rfl
  rw [e0]
  have HEN:=Lib.hid (fun (w2:World) (v1:Value) (h2:PR w2 B g q v1 f bd t o p b {s with rd:=s.rd.byte c})=>endLine_any hp hb0 (ba ln) (by rw [size_ba];exact hln) h2 ok2 hout)
  have HLI:=Lib.hid (fun (w2:World) (v1:Value) (h2:PR w2 B g q v1 f bd t o p b {s with rd:=s.rd.byte c})=>Ln.line_any h2.own.R.row h2.own.R.own);have HLN:=Lib.hid hl;have HX:=Lib.hid hx;have c25:=h.cs.c25;clear h hby ok2 hln hl hx e0 hhow ok;rcases Nat.eq_zero_or_pos e with he | he
  ·subst he;go_enter Tryz.func160,Tryz.ntmps160
   go_wp2_with (first
    |(go_at_call 159;with_reducible refine (HFZ.out).mono ?_;rintro r w5 ⟨rfl,hw⟩;rw [hw];clear hw)
    |(go_at_call 185;with_reducible refine HEN2.out.mono ?_;rintro r w4 ⟨rfl,q1,v2,f1,bd1,t1,o1,hP,hS⟩
      have HP:=Lib.hid hP;have HS:=Lib.hid (HS2.out.trans hS);have HFZ:=Lib.hid (fail_zero w4 g);clear hP hS)
    |(go_at_call 186;with_reducible refine HLI2.out.mono ?_;rintro r w3 ⟨rfl,hw⟩;rw [hw];clear hw)
    |(go_at_call 184;with_reducible refine HBY.out.mono ?_;rintro r w2 ⟨v1,rfl,h2,hS2⟩
      have d25:=h2.cs.c25;have HS2:=Lib.hid hS2;have HEN2:=HEN.out w2 v1 h2;have HLI2:=HLI.out w2 v1 h2
      replace HEN2:=Lib.hid (show Calls Tryz.prog 185 #[ptr g,.string (Ln.ba ln)] w2 fun r w'=>r=.returned (.int .i64 0)∧∃q1 v2 f1 bd1 t1 o1,PR w' B g q1 v2 f1 bd1 t1 o1 p b t2∧Step (blks g q v1 f bd t o) (blks g q1 v2 f1 bd1 t1 o1) w2 w' from by rw [ba_list,HX.out] at HEN2;exact HEN2)
      rw [HLN.out] at HLI2
      replace HLI2:=Lib.hid HLI2
      clear h2 hS2 c25))
   go_ret;exact ⟨rfl,_,⟨_,_,_,_,_,_,rfl,HP.out⟩,HS.out⟩
  ·have hne:e≠0:=by omega
   have e1:ends (e,t2)=.dead e t2.out:=by unfold ends;rw [if_neg hne]
   rw [e1];have HNE:=Lib.hid hne;clear he hne e1;go_enter Tryz.func160,Tryz.ntmps160
   go_wp2_with (first
    |(go_at_call 159;with_reducible refine HFA.out.mono ?_;rintro r w5 ⟨rfl,hD,hS5⟩)
    |(go_at_call 185;with_reducible refine HEN2.out.mono ?_;rintro r w4 ⟨rfl,q1,v2,f1,bd1,t1,o1,hP,hS⟩
      have HS:=Lib.hid (HS2.out.trans hS);have HFA:=Lib.hid (fail_any hP e HNE.out _ rfl);clear hP hS)
    |(go_at_call 186;with_reducible refine HLI2.out.mono ?_;rintro r w3 ⟨rfl,hw⟩;rw [hw];clear hw)
    |(go_at_call 184;with_reducible refine HBY.out.mono ?_;rintro r w2 ⟨v1,rfl,h2,hS2⟩
      have d25:=h2.cs.c25;have HS2:=Lib.hid hS2;have HEN2:=HEN.out w2 v1 h2;have HLI2:=HLI.out w2 v1 h2
      replace HEN2:=Lib.hid (show Calls Tryz.prog 185 #[ptr g,.string (Ln.ba ln)] w2 fun r w'=>r=.returned (.int .i64 (e:Int))∧∃q1 v2 f1 bd1 t1 o1,PR w' B g q1 v2 f1 bd1 t1 o1 p b t2∧Step (blks g q v1 f bd t o) (blks g q1 v2 f1 bd1 t1 o1) w2 w' from by rw [ba_list,HX.out] at HEN2;exact HEN2)
      rw [HLN.out] at HLI2
      replace HLI2:=Lib.hid HLI2
      clear h2 hS2 c25))
   go_ret;exact ⟨rfl,_,⟨_,rfl,hD⟩,HS.out.trans hS5⟩
 ·have HBY:=Lib.hid (show Calls Tryz.prog 184 #[ptr q,.int .u8 (c.toNat:Int)] w fun r w'=>∃v1,r=.returned (.int .i64 3)∧PR w' B g q v1 f bd t o p b {s with rd:=s.rd.byte c}∧Step (blks g q v f bd t o) (blks g q v1 f bd t o) w w' from by rw [←hhow];exact hby);have e0:s.inLine p b c=(.dead 400 s.out,true):=by
   unfold T.inLine;dsimp only;rw [hhow,if_neg (by decide),if_pos rfl]
  rw [e0];have c25:=h.cs.c25;clear h hby ok hout e0 hhow;go_enter Tryz.func160,Tryz.ntmps160
  go_wp2_with (first
   |(go_at_call 159;with_reducible refine HFA.out.mono ?_;rintro r w5 ⟨rfl,hD,hS5⟩)
   |(go_at_call 184;with_reducible refine HBY.out.mono ?_;rintro r w2 ⟨v1,rfl,h2,hS2⟩
     have HS2:=Lib.hid hS2;have HFA:=Lib.hid (fail_any h2 400 (by decide) 400 rfl);clear h2 hS2 c25))
  go_ret;exact ⟨rfl,_,⟨_,rfl,hD⟩,HS2.out.trans hS5⟩
 ·have HBY:=Lib.hid (show Calls Tryz.prog 184 #[ptr q,.int .u8 (c.toNat:Int)] w fun r w'=>∃v1,r=.returned (.int .i64 4)∧PR w' B g q v1 f bd t o p b {s with rd:=s.rd.byte c}∧Step (blks g q v f bd t o) (blks g q v1 f bd t o) w w' from by rw [←hhow];exact hby);have HH0:=fun w=>Qk.has_any p hp 29 w;have c25:=h.cs.c25;have e0:s.inLine p b c=(if (s.st==6&&Qk.has p 29)=true then (.live (({s with rd:=s.rd.byte c}:T).enter p 4 b.x0),false) else (.dead (longE s.st) s.out,true)):=by
   unfold T.inLine;dsimp only;rw [hhow,if_neg (by decide),if_neg (by decide),if_pos rfl]
  rw [e0]
  have HEN:=Lib.hid (fun (w2:World) (v1:Value) (h2:PR w2 B g q v1 f bd t o p b {s with rd:=s.rd.byte c})=>enter_any hp h2 4 4 rfl b.x0)
  have HTL:=Lib.hid (fun (w2:World) (v1:Value) (h2:PR w2 B g q v1 f bd t o p b {s with rd:=s.rd.byte c})=>tooLong_any h2.cs.c24)
  have hlong:longE s.st≠0:=by unfold longE;split<;>first | decide |(split<;>decide)
  have HLE:=Lib.hid hlong;clear h hby ok hout e0 hhow hlong;by_cases h6:s.st=6
  ·cases hh:Qk.has p 29 with
   | true=>
     rw [hh] at HH0;have HH:=Lib.hid HH0;have H6:=Lib.hid h6;rw [h6,if_pos (by decide)];clear HH0 hh h6;go_enter Tryz.func160,Tryz.ntmps160
     go_wp2_with (first
      |(go_at_call 72;with_reducible refine HE2.out.mono ?_;rintro r w5 ⟨rfl,q1,hP,hS5⟩)
      |(go_at_call 92;with_reducible refine (HH.out _).mono ?_;rintro r w4 ⟨rfl,hw⟩;rw [hw];clear hw)
      |(go_at_call 184;with_reducible refine HBY.out.mono ?_;rintro r w2 ⟨v1,rfl,h2,hS2⟩
        have HS2:=Lib.hid hS2;have HE2:=Lib.hid (HEN.out w2 v1 h2);have c24:w2.cell? ⟨g,24,none⟩=some (.int .i64 6):=by have:=h2.cs.c24;rw [show ({s with rd:=s.rd.byte c}:T).st=6 from H6.out] at this;exact this
        have c13:=h2.cs.c13;have c14:=h2.cs.c14;clear h2 hS2 c25))
     go_ret;exact ⟨rfl,_,⟨_,_,_,_,_,_,rfl,hP⟩,HS2.out.trans hS5⟩
   | false=>
     rw [hh] at HH0;have HH:=Lib.hid HH0;have H6:=Lib.hid h6;have e1:(s.st==6&&false)=false:=Bool.and_false _;rw [e1,if_neg (by decide)];clear HH0 hh h6 e1;go_enter Tryz.func160,Tryz.ntmps160
     go_wp2_with (first
      |(go_at_call 159;with_reducible refine HFA.out.mono ?_;rintro r w5 ⟨rfl,hD,hS5⟩)
      |(go_at_call 187;with_reducible refine HT2.out.mono ?_;rintro r w4 ⟨rfl,hw⟩;rw [hw];clear hw)
      |(go_at_call 92;with_reducible refine (HH.out _).mono ?_;rintro r w4 ⟨rfl,hw⟩;rw [hw];clear hw)
      |(go_at_call 184;with_reducible refine HBY.out.mono ?_;rintro r w2 ⟨v1,rfl,h2,hS2⟩
        have HS2:=Lib.hid hS2;have HT2:=Lib.hid (HTL.out w2 v1 h2);have HFA:=Lib.hid (fail_any h2 (longE s.st) HLE.out _ rfl);have c24:w2.cell? ⟨g,24,none⟩=some (.int .i64 6):=by have:=h2.cs.c24;rw [show ({s with rd:=s.rd.byte c}:T).st=6 from H6.out] at this;exact this
        have c13:=h2.cs.c13;clear h2 hS2 c25))
     go_ret;exact ⟨rfl,_,⟨_,rfl,hD⟩,HS2.out.trans hS5⟩
  ·have t6:((s.st:Int)==6)=false:=beq_eq_false_iff_ne.2 (by omega);have m6:¬(s.st:Int)=6:=by omega
   have m6n:¬s.st=6:=h6;rw [beq_eq_false_iff_ne.2 h6,Bool.false_and,if_neg (by decide)];clear HH0 h6;go_enter Tryz.func160,Tryz.ntmps160
   go_wp2_with (first
    |(go_at_call 159;with_reducible refine HFA.out.mono ?_;rintro r w5 ⟨rfl,hD,hS5⟩)
    |(go_at_call 187;with_reducible refine HT2.out.mono ?_;rintro r w4 ⟨rfl,hw⟩;rw [hw];clear hw)
    |(go_at_call 184;with_reducible refine HBY.out.mono ?_;rintro r w2 ⟨v1,rfl,h2,hS2⟩
      have HS2:=Lib.hid hS2;have HT2:=Lib.hid (HTL.out w2 v1 h2);have HFA:=Lib.hid (fail_any h2 (longE s.st) HLE.out _ rfl);have c24:w2.cell? ⟨g,24,none⟩=some (.int .i64 (s.st:Int)):=h2.cs.c24;clear h2 hS2 c25))
   go_ret;exact ⟨rfl,_,⟨_,rfl,hD⟩,HS2.out.trans hS5⟩
theorem look_any (hp:p<4294967296) (hb0:b.right=true) (c:UInt8) (h:PR w B g q v f bd t o p b s) (ok:s.Ok) (hout:s.out.length≤1000000000):Calls Tryz.prog 117 #[ptr g,.int .u8 (c.toNat:Int)] w fun r w'=>
 r=.returned (.bool (s.look p b c).2)∧∃L1,At w' B g p b L1 (s.look p b c).1∧Step (blks g q v f bd t o) L1 w w':=by
 have H:=Lib.hid h;have c24:=h.cs.c24;by_cases hbd:bodied s.st=true
 ·have hl:=ok.left hbd;have hbl:=ok.body
  have HK0:=keep_any c h ⟨hl,by omega⟩ (by omega)
  have HK9:=Lib.hid (fun (w2:World) (bd1:Value) (h2:PR w2 B g q v f bd1 t o p b (s.keep c))=>endData_any hp h2 hout);have hst:s.st=3∨s.st=5:=by unfold bodied at hbd;simpa using hbd
  unfold T.look;rw [if_pos hbd];clear h hb0 hbl hout ok hbd;by_cases h1:s.left=1
  ·rw [decide_eq_true h1] at HK0;have HK:=Lib.hid HK0;rw [if_pos h1];clear HK0 h1 hl;rcases hst with hst | hst
   ·rw [hst] at c24;clear hst;go_enter Tryz.func117,Tryz.ntmps117
    go_wp2_with (first
     |(go_at_call 157;with_reducible refine HED.out.mono ?_;rintro r w5 ⟨rfl,q1,v1,f1,bd2,t1,o1,hP,hS5⟩)
     |(go_at_call 156;with_reducible refine HK.out.mono ?_;rintro r w4 ⟨rfl,bd1,h2,hS2⟩
       have HS2:=Lib.hid hS2;have HED:=Lib.hid (HK9.out w4 bd1 h2);clear h2 hS2))
    go_ret;exact ⟨rfl,_,⟨_,_,_,_,_,_,rfl,hP⟩,HS2.out.trans hS5⟩
   ·rw [hst] at c24;clear hst;go_enter Tryz.func117,Tryz.ntmps117
    go_wp2_with (first
     |(go_at_call 157;with_reducible refine HED.out.mono ?_;rintro r w5 ⟨rfl,q1,v1,f1,bd2,t1,o1,hP,hS5⟩)
     |(go_at_call 156;with_reducible refine HK.out.mono ?_;rintro r w4 ⟨rfl,bd1,h2,hS2⟩
       have HS2:=Lib.hid hS2;have HED:=Lib.hid (HK9.out w4 bd1 h2);clear h2 hS2))
    go_ret;exact ⟨rfl,_,⟨_,_,_,_,_,_,rfl,hP⟩,HS2.out.trans hS5⟩
  ·rw [decide_eq_false h1] at HK0;have HK:=Lib.hid HK0;rw [if_neg h1];clear HK0 h1 hl;rcases hst with hst | hst
   ·rw [hst] at c24;clear hst;go_enter Tryz.func117,Tryz.ntmps117
    go_wp2_with (go_at_call 156;with_reducible refine HK.out.mono ?_;rintro r w4 ⟨rfl,bd1,h2,hS2⟩);go_ret;exact ⟨rfl,_,⟨_,_,_,_,_,_,rfl,h2⟩,hS2⟩
   ·rw [hst] at c24;clear hst;go_enter Tryz.func117,Tryz.ntmps117
    go_wp2_with (go_at_call 156;with_reducible refine HK.out.mono ?_;rintro r w4 ⟨rfl,bd1,h2,hS2⟩);go_ret;exact ⟨rfl,_,⟨_,_,_,_,_,_,rfl,h2⟩,hS2⟩
 ·have hbd:bodied s.st=false:=by simpa using hbd
  unfold T.look;rw [if_neg (by rw [hbd];decide)];have hn:¬s.st=3∧¬s.st=5:=by unfold bodied at hbd;simpa using hbd
  by_cases hhd:headed s.st=true
  ·rw [if_pos hhd];have hst:s.st=1∨s.st=2∨s.st=7:=by
    unfold headed at hhd;simp only [Bool.or_eq_true,beq_iff_eq] at hhd;omega
   have hsz:s.size≤1000000:=Nat.le_trans ok.size (by decide)
   have HQ:=Lib.hid ((h.drew 1).bk);clear hhd hn
   by_cases hov:b.x2<(s.counted.size:Int)
   ·rw [if_pos hov]
    have HTR:=Lib.hid (show (!decide (b.x2<(s.counted.size:Int)))=false by rw [decide_eq_true hov];rfl);clear hov h hbd hout hb0 ok;rcases hst with hst | hst | hst
    ·rw [hst] at c24;go_enter Tryz.func117,Tryz.ntmps117;go_upto_region 10 with fail
     refine Each.region 8 [23,24,25,26,27,28,29,30]
      [fun v _=>v=.pointer (some ⟨g,0,none⟩),
        fun v _=>v=.pointer (some ⟨g,0,none⟩),
        fun v _=>v=.pointer (some ⟨g,1,none⟩),
        fun v _=>v=.pointer (some ⟨g,0,none⟩),
        fun v _=>v=.pointer (some ⟨g,0,none⟩),
        fun v _=>v=.pointer (some ⟨g,14,none⟩),
        fun v _=>v=.pointer (some ⟨g,16,none⟩),
        fun v _=>v=.int .i64 b.x2]
      (.act 8 (.quiet 9 .done)) (by kernel_rfl) (by kernel_rfl) (by kernel_rfl) (by kernel_rfl) (fun _ _ d _ _ h=>by cases d<;>exact h) (by rfl) (by rfl)
      ⟨Each.Lasts.eq _,Each.Lasts.eq _,Each.Lasts.eq _,Each.Lasts.eq _,Each.Lasts.eq _,Each.Lasts.eq _,Each.Lasts.eq _,Each.Lasts.eq _,trivial⟩ ?_ ?_
     ·refine ⟨?_,?_,?_,?_,?_,?_,?_,?_,trivial⟩
      ·refine Each.fine rfl (fun ev w1 hR hb hh=>?_);clear hh;have e0:=hR.old 0 rfl;simp only [Array.getD_eq_getD_getElem?,List.getElem?_toArray,List.getElem?_cons_zero,Option.getD_some] at e0;refine Each.Goes.same ?_;go_simp;try with_reducible rfl
      ·refine Each.fine rfl (fun ev w1 hR hb hh=>?_);have e23:(ev (.tmp 23)=.pointer (some ⟨g,0,none⟩)):=hh.at 0;clear hh;refine Each.Goes.same ?_;go_simp;try with_reducible rfl
      ·refine Each.fine rfl (fun ev w1 hR hb hh=>?_);have e24:(ev (.tmp 24)=.pointer (some ⟨g,0,none⟩)):=hh.at 0;clear hh;refine Each.Goes.same ?_;go_simp;try with_reducible rfl
      ·refine Each.fine rfl (fun ev w1 hR hb hh=>?_);clear hh;have e0:=hR.old 0 rfl;simp only [Array.getD_eq_getD_getElem?,List.getElem?_toArray,List.getElem?_cons_zero,Option.getD_some] at e0;refine Each.Goes.same ?_;go_simp;try with_reducible rfl
      ·refine Each.fine rfl (fun ev w1 hR hb hh=>?_);have e26:(ev (.tmp 26)=.pointer (some ⟨g,0,none⟩)):=hh.at 0;clear hh;refine Each.Goes.same ?_;go_simp;try with_reducible rfl
      ·refine Each.fine rfl (fun ev w1 hR hb hh=>?_);have e27:(ev (.tmp 27)=.pointer (some ⟨g,0,none⟩)):=hh.at 0;clear hh;refine Each.Goes.same ?_;go_simp;try with_reducible rfl
      ·refine Each.fine rfl (fun ev w1 hR hb hh=>?_);have e28:(ev (.tmp 28)=.pointer (some ⟨g,14,none⟩)):=hh.at 0;clear hh;refine Each.Goes.same ?_;go_simp;try with_reducible rfl
      ·refine Each.fine rfl (fun ev w1 hR hb hh=>?_);have e29:(ev (.tmp 29)=.pointer (some ⟨g,16,none⟩)):=hh.at 0;clear hh;have q16:=(HQ.out.below hb).c 16 _ rfl;refine Each.Goes.same ?_;go_simp;try with_reducible rfl
     intro g1 w2 hb hf;have z25:(g1 25=.pointer (some ⟨g,1,none⟩)):=hf.at 2;have z30:(g1 30=.int .i64 b.x2):=hf.at 7;clear hf;simp only [Each.putg,Act.put,List.setIfInBounds_toArray,List.set_cons_zero,List.set_cons_succ];rw [z25,z30];simp only [Tree.grow,Tree.put1,List.getElem?_cons_zero,List.getElem?_cons_succ]
     have HS1:=Lib.hid (Step.of_below hb (L:=blks g q v f bd t o))
     have HFI:=Lib.hid (count_any b.x2 (H.out.below hb) hsz);clear hb HQ;rw [HTR.out] at HFI
     refine Tree.change (by rfl) (fun K hK=>?_)
     refine Each.oper_enter (g:=158) (args:=#[.pointer (some ⟨g,1,none⟩),.int .i64 b.x2]) (by go_simp) (HFI.out.mono ?_);rintro r w3 ⟨rfl,hP,hS⟩;refine ⟨_,rfl,?_⟩;refine hK _ _ trivial ?_;clear hK K;simp only [Act.put,List.setIfInBounds_toArray,List.set_cons_zero,List.set_cons_succ];refine Tree.quiet (by rfl) (.bool true) (fun _ _=>by go_simp) ?_;simp only [Act.put,List.setIfInBounds_toArray,List.set_cons_zero,List.set_cons_succ];refine Tree.done ?_
     have HP2:=Lib.hid hP;have HS2:=Lib.hid (HS1.out.trans hS);clear HFI HS1 hS
     have HF:=Lib.hid (fail_any hP 431 (by decide) 431 rfl);clear hP
     go_wp2_with (go_at_call 159;with_reducible refine HF.out.mono ?_;rintro r w4 ⟨rfl,hD,hS4⟩);go_ret;exact ⟨rfl,_,⟨_,rfl,by rw [counted_out] at hD;exact hD⟩,HS2.out.trans hS4⟩
    ·rw [hst] at c24;go_enter Tryz.func117,Tryz.ntmps117;go_upto_region 10 with fail
     refine Each.region 8 [23,24,25,26,27,28,29,30]
      [fun v _=>v=.pointer (some ⟨g,0,none⟩),
        fun v _=>v=.pointer (some ⟨g,0,none⟩),
        fun v _=>v=.pointer (some ⟨g,1,none⟩),
        fun v _=>v=.pointer (some ⟨g,0,none⟩),
        fun v _=>v=.pointer (some ⟨g,0,none⟩),
        fun v _=>v=.pointer (some ⟨g,14,none⟩),
        fun v _=>v=.pointer (some ⟨g,16,none⟩),
        fun v _=>v=.int .i64 b.x2]
      (.act 8 (.quiet 9 .done)) (by kernel_rfl) (by kernel_rfl) (by kernel_rfl) (by kernel_rfl) (fun _ _ d _ _ h=>by cases d<;>exact h) (by rfl) (by rfl)
      ⟨Each.Lasts.eq _,Each.Lasts.eq _,Each.Lasts.eq _,Each.Lasts.eq _,Each.Lasts.eq _,Each.Lasts.eq _,Each.Lasts.eq _,Each.Lasts.eq _,trivial⟩ ?_ ?_
     ·refine ⟨?_,?_,?_,?_,?_,?_,?_,?_,trivial⟩
      ·refine Each.fine rfl (fun ev w1 hR hb hh=>?_);clear hh;have e0:=hR.old 0 rfl;simp only [Array.getD_eq_getD_getElem?,List.getElem?_toArray,List.getElem?_cons_zero,Option.getD_some] at e0;refine Each.Goes.same ?_;go_simp;try with_reducible rfl
      ·refine Each.fine rfl (fun ev w1 hR hb hh=>?_);have e23:(ev (.tmp 23)=.pointer (some ⟨g,0,none⟩)):=hh.at 0;clear hh;refine Each.Goes.same ?_;go_simp;try with_reducible rfl
      ·refine Each.fine rfl (fun ev w1 hR hb hh=>?_);have e24:(ev (.tmp 24)=.pointer (some ⟨g,0,none⟩)):=hh.at 0;clear hh;refine Each.Goes.same ?_;go_simp;try with_reducible rfl
      ·refine Each.fine rfl (fun ev w1 hR hb hh=>?_);clear hh;have e0:=hR.old 0 rfl;simp only [Array.getD_eq_getD_getElem?,List.getElem?_toArray,List.getElem?_cons_zero,Option.getD_some] at e0;refine Each.Goes.same ?_;go_simp;try with_reducible rfl
      ·refine Each.fine rfl (fun ev w1 hR hb hh=>?_);have e26:(ev (.tmp 26)=.pointer (some ⟨g,0,none⟩)):=hh.at 0;clear hh;refine Each.Goes.same ?_;go_simp;try with_reducible rfl
      ·refine Each.fine rfl (fun ev w1 hR hb hh=>?_);have e27:(ev (.tmp 27)=.pointer (some ⟨g,0,none⟩)):=hh.at 0;clear hh;refine Each.Goes.same ?_;go_simp;try with_reducible rfl
      ·refine Each.fine rfl (fun ev w1 hR hb hh=>?_);have e28:(ev (.tmp 28)=.pointer (some ⟨g,14,none⟩)):=hh.at 0;clear hh;refine Each.Goes.same ?_;go_simp;try with_reducible rfl
      ·refine Each.fine rfl (fun ev w1 hR hb hh=>?_);have e29:(ev (.tmp 29)=.pointer (some ⟨g,16,none⟩)):=hh.at 0;clear hh;have q16:=(HQ.out.below hb).c 16 _ rfl;refine Each.Goes.same ?_;go_simp;try with_reducible rfl
     intro g1 w2 hb hf;have z25:(g1 25=.pointer (some ⟨g,1,none⟩)):=hf.at 2;have z30:(g1 30=.int .i64 b.x2):=hf.at 7;clear hf;simp only [Each.putg,Act.put,List.setIfInBounds_toArray,List.set_cons_zero,List.set_cons_succ];rw [z25,z30];simp only [Tree.grow,Tree.put1,List.getElem?_cons_zero,List.getElem?_cons_succ]
     have HS1:=Lib.hid (Step.of_below hb (L:=blks g q v f bd t o))
     have HFI:=Lib.hid (count_any b.x2 (H.out.below hb) hsz);clear hb HQ;rw [HTR.out] at HFI
     refine Tree.change (by rfl) (fun K hK=>?_)
     refine Each.oper_enter (g:=158) (args:=#[.pointer (some ⟨g,1,none⟩),.int .i64 b.x2]) (by go_simp) (HFI.out.mono ?_);rintro r w3 ⟨rfl,hP,hS⟩;refine ⟨_,rfl,?_⟩;refine hK _ _ trivial ?_;clear hK K;simp only [Act.put,List.setIfInBounds_toArray,List.set_cons_zero,List.set_cons_succ];refine Tree.quiet (by rfl) (.bool true) (fun _ _=>by go_simp) ?_;simp only [Act.put,List.setIfInBounds_toArray,List.set_cons_zero,List.set_cons_succ];refine Tree.done ?_
     have HP2:=Lib.hid hP;have HS2:=Lib.hid (HS1.out.trans hS);clear HFI HS1 hS
     have HF:=Lib.hid (fail_any hP 431 (by decide) 431 rfl);clear hP
     go_wp2_with (go_at_call 159;with_reducible refine HF.out.mono ?_;rintro r w4 ⟨rfl,hD,hS4⟩);go_ret;exact ⟨rfl,_,⟨_,rfl,by rw [counted_out] at hD;exact hD⟩,HS2.out.trans hS4⟩
    ·rw [hst] at c24;go_enter Tryz.func117,Tryz.ntmps117;go_upto_region 10 with fail
     refine Each.region 8 [23,24,25,26,27,28,29,30]
      [fun v _=>v=.pointer (some ⟨g,0,none⟩),
        fun v _=>v=.pointer (some ⟨g,0,none⟩),
        fun v _=>v=.pointer (some ⟨g,1,none⟩),
        fun v _=>v=.pointer (some ⟨g,0,none⟩),
        fun v _=>v=.pointer (some ⟨g,0,none⟩),
        fun v _=>v=.pointer (some ⟨g,14,none⟩),
        fun v _=>v=.pointer (some ⟨g,16,none⟩),
        fun v _=>v=.int .i64 b.x2]
      (.act 8 (.quiet 9 .done)) (by kernel_rfl) (by kernel_rfl) (by kernel_rfl) (by kernel_rfl) (fun _ _ d _ _ h=>by cases d<;>exact h) (by rfl) (by rfl)
      ⟨Each.Lasts.eq _,Each.Lasts.eq _,Each.Lasts.eq _,Each.Lasts.eq _,Each.Lasts.eq _,Each.Lasts.eq _,Each.Lasts.eq _,Each.Lasts.eq _,trivial⟩ ?_ ?_
     ·refine ⟨?_,?_,?_,?_,?_,?_,?_,?_,trivial⟩
      ·refine Each.fine rfl (fun ev w1 hR hb hh=>?_);clear hh;have e0:=hR.old 0 rfl;simp only [Array.getD_eq_getD_getElem?,List.getElem?_toArray,List.getElem?_cons_zero,Option.getD_some] at e0;refine Each.Goes.same ?_;go_simp;try with_reducible rfl
      ·refine Each.fine rfl (fun ev w1 hR hb hh=>?_);have e23:(ev (.tmp 23)=.pointer (some ⟨g,0,none⟩)):=hh.at 0;clear hh;refine Each.Goes.same ?_;go_simp;try with_reducible rfl
      ·refine Each.fine rfl (fun ev w1 hR hb hh=>?_);have e24:(ev (.tmp 24)=.pointer (some ⟨g,0,none⟩)):=hh.at 0;clear hh;refine Each.Goes.same ?_;go_simp;try with_reducible rfl
      ·refine Each.fine rfl (fun ev w1 hR hb hh=>?_);clear hh;have e0:=hR.old 0 rfl;simp only [Array.getD_eq_getD_getElem?,List.getElem?_toArray,List.getElem?_cons_zero,Option.getD_some] at e0;refine Each.Goes.same ?_;go_simp;try with_reducible rfl
      ·refine Each.fine rfl (fun ev w1 hR hb hh=>?_);have e26:(ev (.tmp 26)=.pointer (some ⟨g,0,none⟩)):=hh.at 0;clear hh;refine Each.Goes.same ?_;go_simp;try with_reducible rfl
      ·refine Each.fine rfl (fun ev w1 hR hb hh=>?_);have e27:(ev (.tmp 27)=.pointer (some ⟨g,0,none⟩)):=hh.at 0;clear hh;refine Each.Goes.same ?_;go_simp;try with_reducible rfl
      ·refine Each.fine rfl (fun ev w1 hR hb hh=>?_);have e28:(ev (.tmp 28)=.pointer (some ⟨g,14,none⟩)):=hh.at 0;clear hh;refine Each.Goes.same ?_;go_simp;try with_reducible rfl
      ·refine Each.fine rfl (fun ev w1 hR hb hh=>?_);have e29:(ev (.tmp 29)=.pointer (some ⟨g,16,none⟩)):=hh.at 0;clear hh;have q16:=(HQ.out.below hb).c 16 _ rfl;refine Each.Goes.same ?_;go_simp;try with_reducible rfl
     intro g1 w2 hb hf;have z25:(g1 25=.pointer (some ⟨g,1,none⟩)):=hf.at 2;have z30:(g1 30=.int .i64 b.x2):=hf.at 7;clear hf;simp only [Each.putg,Act.put,List.setIfInBounds_toArray,List.set_cons_zero,List.set_cons_succ];rw [z25,z30];simp only [Tree.grow,Tree.put1,List.getElem?_cons_zero,List.getElem?_cons_succ]
     have HS1:=Lib.hid (Step.of_below hb (L:=blks g q v f bd t o))
     have HFI:=Lib.hid (count_any b.x2 (H.out.below hb) hsz);clear hb HQ;rw [HTR.out] at HFI
     refine Tree.change (by rfl) (fun K hK=>?_)
     refine Each.oper_enter (g:=158) (args:=#[.pointer (some ⟨g,1,none⟩),.int .i64 b.x2]) (by go_simp) (HFI.out.mono ?_);rintro r w3 ⟨rfl,hP,hS⟩;refine ⟨_,rfl,?_⟩;refine hK _ _ trivial ?_;clear hK K;simp only [Act.put,List.setIfInBounds_toArray,List.set_cons_zero,List.set_cons_succ];refine Tree.quiet (by rfl) (.bool true) (fun _ _=>by go_simp) ?_;simp only [Act.put,List.setIfInBounds_toArray,List.set_cons_zero,List.set_cons_succ];refine Tree.done ?_
     have HP2:=Lib.hid hP;have HS2:=Lib.hid (HS1.out.trans hS);clear HFI HS1 hS
     have HF:=Lib.hid (fail_any hP 431 (by decide) 431 rfl);clear hP
     go_wp2_with (go_at_call 159;with_reducible refine HF.out.mono ?_;rintro r w4 ⟨rfl,hD,hS4⟩);go_ret;exact ⟨rfl,_,⟨_,rfl,by rw [counted_out] at hD;exact hD⟩,HS2.out.trans hS4⟩
   ·rw [if_neg hov]
    have HTR:=Lib.hid (show (!decide (b.x2<(s.counted.size:Int)))=true by rw [decide_eq_false hov];rfl);clear h hbd;rcases hst with hst | hst | hst
    ·rw [hst] at c24;go_enter Tryz.func117,Tryz.ntmps117;go_upto_region 10 with fail
     refine Each.region 8 [23,24,25,26,27,28,29,30]
      [fun v _=>v=.pointer (some ⟨g,0,none⟩),
        fun v _=>v=.pointer (some ⟨g,0,none⟩),
        fun v _=>v=.pointer (some ⟨g,1,none⟩),
        fun v _=>v=.pointer (some ⟨g,0,none⟩),
        fun v _=>v=.pointer (some ⟨g,0,none⟩),
        fun v _=>v=.pointer (some ⟨g,14,none⟩),
        fun v _=>v=.pointer (some ⟨g,16,none⟩),
        fun v _=>v=.int .i64 b.x2]
      (.act 8 (.quiet 9 .done)) (by kernel_rfl) (by kernel_rfl) (by kernel_rfl) (by kernel_rfl) (fun _ _ d _ _ h=>by cases d<;>exact h) (by rfl) (by rfl)
      ⟨Each.Lasts.eq _,Each.Lasts.eq _,Each.Lasts.eq _,Each.Lasts.eq _,Each.Lasts.eq _,Each.Lasts.eq _,Each.Lasts.eq _,Each.Lasts.eq _,trivial⟩ ?_ ?_
     ·refine ⟨?_,?_,?_,?_,?_,?_,?_,?_,trivial⟩
      ·refine Each.fine rfl (fun ev w1 hR hb hh=>?_);clear hh;have e0:=hR.old 0 rfl;simp only [Array.getD_eq_getD_getElem?,List.getElem?_toArray,List.getElem?_cons_zero,Option.getD_some] at e0;refine Each.Goes.same ?_;go_simp;try with_reducible rfl
      ·refine Each.fine rfl (fun ev w1 hR hb hh=>?_);have e23:(ev (.tmp 23)=.pointer (some ⟨g,0,none⟩)):=hh.at 0;clear hh;refine Each.Goes.same ?_;go_simp;try with_reducible rfl
      ·refine Each.fine rfl (fun ev w1 hR hb hh=>?_);have e24:(ev (.tmp 24)=.pointer (some ⟨g,0,none⟩)):=hh.at 0;clear hh;refine Each.Goes.same ?_;go_simp;try with_reducible rfl
      ·refine Each.fine rfl (fun ev w1 hR hb hh=>?_);clear hh;have e0:=hR.old 0 rfl;simp only [Array.getD_eq_getD_getElem?,List.getElem?_toArray,List.getElem?_cons_zero,Option.getD_some] at e0;refine Each.Goes.same ?_;go_simp;try with_reducible rfl
      ·refine Each.fine rfl (fun ev w1 hR hb hh=>?_);have e26:(ev (.tmp 26)=.pointer (some ⟨g,0,none⟩)):=hh.at 0;clear hh;refine Each.Goes.same ?_;go_simp;try with_reducible rfl
      ·refine Each.fine rfl (fun ev w1 hR hb hh=>?_);have e27:(ev (.tmp 27)=.pointer (some ⟨g,0,none⟩)):=hh.at 0;clear hh;refine Each.Goes.same ?_;go_simp;try with_reducible rfl
      ·refine Each.fine rfl (fun ev w1 hR hb hh=>?_);have e28:(ev (.tmp 28)=.pointer (some ⟨g,14,none⟩)):=hh.at 0;clear hh;refine Each.Goes.same ?_;go_simp;try with_reducible rfl
      ·refine Each.fine rfl (fun ev w1 hR hb hh=>?_);have e29:(ev (.tmp 29)=.pointer (some ⟨g,16,none⟩)):=hh.at 0;clear hh;have q16:=(HQ.out.below hb).c 16 _ rfl;refine Each.Goes.same ?_;go_simp;try with_reducible rfl
     intro g1 w2 hb hf;have z25:(g1 25=.pointer (some ⟨g,1,none⟩)):=hf.at 2;have z30:(g1 30=.int .i64 b.x2):=hf.at 7;clear hf;simp only [Each.putg,Act.put,List.setIfInBounds_toArray,List.set_cons_zero,List.set_cons_succ];rw [z25,z30];simp only [Tree.grow,Tree.put1,List.getElem?_cons_zero,List.getElem?_cons_succ]
     have HS1:=Lib.hid (Step.of_below hb (L:=blks g q v f bd t o))
     have HFI:=Lib.hid (count_any b.x2 (H.out.below hb) hsz);clear hb HQ;rw [HTR.out] at HFI
     refine Tree.change (by rfl) (fun K hK=>?_)
     refine Each.oper_enter (g:=158) (args:=#[.pointer (some ⟨g,1,none⟩),.int .i64 b.x2]) (by go_simp) (HFI.out.mono ?_);rintro r w3 ⟨rfl,hP,hS⟩;refine ⟨_,rfl,?_⟩;refine hK _ _ trivial ?_;clear hK K;simp only [Act.put,List.setIfInBounds_toArray,List.set_cons_zero,List.set_cons_succ];refine Tree.quiet (by rfl) (.bool false) (fun _ _=>by go_simp) ?_;simp only [Act.put,List.setIfInBounds_toArray,List.set_cons_zero,List.set_cons_succ];refine Tree.done ?_
     have HP2:=Lib.hid hP;have HS2:=Lib.hid (HS1.out.trans hS);clear HFI HS1 hS
     have HI:=Lib.hid (inLine_any hp hb0 c hP (ok.counted hb0 hov) (by rw [counted_out];exact hout));clear hP
     go_wp2_with (go_at_call 160;with_reducible refine HI.out.mono ?_;rintro r w4 ⟨rfl,L4,hA,hS4⟩);go_ret;exact ⟨rfl,L4,hA,HS2.out.trans hS4⟩
    ·rw [hst] at c24;go_enter Tryz.func117,Tryz.ntmps117;go_upto_region 10 with fail
     refine Each.region 8 [23,24,25,26,27,28,29,30]
      [fun v _=>v=.pointer (some ⟨g,0,none⟩),
        fun v _=>v=.pointer (some ⟨g,0,none⟩),
        fun v _=>v=.pointer (some ⟨g,1,none⟩),
        fun v _=>v=.pointer (some ⟨g,0,none⟩),
        fun v _=>v=.pointer (some ⟨g,0,none⟩),
        fun v _=>v=.pointer (some ⟨g,14,none⟩),
        fun v _=>v=.pointer (some ⟨g,16,none⟩),
        fun v _=>v=.int .i64 b.x2]
      (.act 8 (.quiet 9 .done)) (by kernel_rfl) (by kernel_rfl) (by kernel_rfl) (by kernel_rfl) (fun _ _ d _ _ h=>by cases d<;>exact h) (by rfl) (by rfl)
      ⟨Each.Lasts.eq _,Each.Lasts.eq _,Each.Lasts.eq _,Each.Lasts.eq _,Each.Lasts.eq _,Each.Lasts.eq _,Each.Lasts.eq _,Each.Lasts.eq _,trivial⟩ ?_ ?_
     ·refine ⟨?_,?_,?_,?_,?_,?_,?_,?_,trivial⟩
      ·refine Each.fine rfl (fun ev w1 hR hb hh=>?_);clear hh;have e0:=hR.old 0 rfl;simp only [Array.getD_eq_getD_getElem?,List.getElem?_toArray,List.getElem?_cons_zero,Option.getD_some] at e0;refine Each.Goes.same ?_;go_simp;try with_reducible rfl
      ·refine Each.fine rfl (fun ev w1 hR hb hh=>?_);have e23:(ev (.tmp 23)=.pointer (some ⟨g,0,none⟩)):=hh.at 0;clear hh;refine Each.Goes.same ?_;go_simp;try with_reducible rfl
      ·refine Each.fine rfl (fun ev w1 hR hb hh=>?_);have e24:(ev (.tmp 24)=.pointer (some ⟨g,0,none⟩)):=hh.at 0;clear hh;refine Each.Goes.same ?_;go_simp;try with_reducible rfl
      ·refine Each.fine rfl (fun ev w1 hR hb hh=>?_);clear hh;have e0:=hR.old 0 rfl;simp only [Array.getD_eq_getD_getElem?,List.getElem?_toArray,List.getElem?_cons_zero,Option.getD_some] at e0;refine Each.Goes.same ?_;go_simp;try with_reducible rfl
      ·refine Each.fine rfl (fun ev w1 hR hb hh=>?_);have e26:(ev (.tmp 26)=.pointer (some ⟨g,0,none⟩)):=hh.at 0;clear hh;refine Each.Goes.same ?_;go_simp;try with_reducible rfl
      ·refine Each.fine rfl (fun ev w1 hR hb hh=>?_);have e27:(ev (.tmp 27)=.pointer (some ⟨g,0,none⟩)):=hh.at 0;clear hh;refine Each.Goes.same ?_;go_simp;try with_reducible rfl
      ·refine Each.fine rfl (fun ev w1 hR hb hh=>?_);have e28:(ev (.tmp 28)=.pointer (some ⟨g,14,none⟩)):=hh.at 0;clear hh;refine Each.Goes.same ?_;go_simp;try with_reducible rfl
      ·refine Each.fine rfl (fun ev w1 hR hb hh=>?_);have e29:(ev (.tmp 29)=.pointer (some ⟨g,16,none⟩)):=hh.at 0;clear hh;have q16:=(HQ.out.below hb).c 16 _ rfl;refine Each.Goes.same ?_;go_simp;try with_reducible rfl
     intro g1 w2 hb hf;have z25:(g1 25=.pointer (some ⟨g,1,none⟩)):=hf.at 2;have z30:(g1 30=.int .i64 b.x2):=hf.at 7;clear hf;simp only [Each.putg,Act.put,List.setIfInBounds_toArray,List.set_cons_zero,List.set_cons_succ];rw [z25,z30];simp only [Tree.grow,Tree.put1,List.getElem?_cons_zero,List.getElem?_cons_succ]
     have HS1:=Lib.hid (Step.of_below hb (L:=blks g q v f bd t o))
     have HFI:=Lib.hid (count_any b.x2 (H.out.below hb) hsz);clear hb HQ;rw [HTR.out] at HFI
     refine Tree.change (by rfl) (fun K hK=>?_)
     refine Each.oper_enter (g:=158) (args:=#[.pointer (some ⟨g,1,none⟩),.int .i64 b.x2]) (by go_simp) (HFI.out.mono ?_);rintro r w3 ⟨rfl,hP,hS⟩;refine ⟨_,rfl,?_⟩;refine hK _ _ trivial ?_;clear hK K;simp only [Act.put,List.setIfInBounds_toArray,List.set_cons_zero,List.set_cons_succ];refine Tree.quiet (by rfl) (.bool false) (fun _ _=>by go_simp) ?_;simp only [Act.put,List.setIfInBounds_toArray,List.set_cons_zero,List.set_cons_succ];refine Tree.done ?_
     have HP2:=Lib.hid hP;have HS2:=Lib.hid (HS1.out.trans hS);clear HFI HS1 hS
     have HI:=Lib.hid (inLine_any hp hb0 c hP (ok.counted hb0 hov) (by rw [counted_out];exact hout));clear hP
     go_wp2_with (go_at_call 160;with_reducible refine HI.out.mono ?_;rintro r w4 ⟨rfl,L4,hA,hS4⟩);go_ret;exact ⟨rfl,L4,hA,HS2.out.trans hS4⟩
    ·rw [hst] at c24;go_enter Tryz.func117,Tryz.ntmps117;go_upto_region 10 with fail
     refine Each.region 8 [23,24,25,26,27,28,29,30]
      [fun v _=>v=.pointer (some ⟨g,0,none⟩),
        fun v _=>v=.pointer (some ⟨g,0,none⟩),
        fun v _=>v=.pointer (some ⟨g,1,none⟩),
        fun v _=>v=.pointer (some ⟨g,0,none⟩),
        fun v _=>v=.pointer (some ⟨g,0,none⟩),
        fun v _=>v=.pointer (some ⟨g,14,none⟩),
        fun v _=>v=.pointer (some ⟨g,16,none⟩),
        fun v _=>v=.int .i64 b.x2]
      (.act 8 (.quiet 9 .done)) (by kernel_rfl) (by kernel_rfl) (by kernel_rfl) (by kernel_rfl) (fun _ _ d _ _ h=>by cases d<;>exact h) (by rfl) (by rfl)
      ⟨Each.Lasts.eq _,Each.Lasts.eq _,Each.Lasts.eq _,Each.Lasts.eq _,Each.Lasts.eq _,Each.Lasts.eq _,Each.Lasts.eq _,Each.Lasts.eq _,trivial⟩ ?_ ?_
     ·refine ⟨?_,?_,?_,?_,?_,?_,?_,?_,trivial⟩
      ·refine Each.fine rfl (fun ev w1 hR hb hh=>?_);clear hh;have e0:=hR.old 0 rfl;simp only [Array.getD_eq_getD_getElem?,List.getElem?_toArray,List.getElem?_cons_zero,Option.getD_some] at e0;refine Each.Goes.same ?_;go_simp;try with_reducible rfl
      ·refine Each.fine rfl (fun ev w1 hR hb hh=>?_);have e23:(ev (.tmp 23)=.pointer (some ⟨g,0,none⟩)):=hh.at 0;clear hh;refine Each.Goes.same ?_;go_simp;try with_reducible rfl
      ·refine Each.fine rfl (fun ev w1 hR hb hh=>?_);have e24:(ev (.tmp 24)=.pointer (some ⟨g,0,none⟩)):=hh.at 0;clear hh;refine Each.Goes.same ?_;go_simp;try with_reducible rfl
      ·refine Each.fine rfl (fun ev w1 hR hb hh=>?_);clear hh;have e0:=hR.old 0 rfl;simp only [Array.getD_eq_getD_getElem?,List.getElem?_toArray,List.getElem?_cons_zero,Option.getD_some] at e0;refine Each.Goes.same ?_;go_simp;try with_reducible rfl
      ·refine Each.fine rfl (fun ev w1 hR hb hh=>?_);have e26:(ev (.tmp 26)=.pointer (some ⟨g,0,none⟩)):=hh.at 0;clear hh;refine Each.Goes.same ?_;go_simp;try with_reducible rfl
      ·refine Each.fine rfl (fun ev w1 hR hb hh=>?_);have e27:(ev (.tmp 27)=.pointer (some ⟨g,0,none⟩)):=hh.at 0;clear hh;refine Each.Goes.same ?_;go_simp;try with_reducible rfl
      ·refine Each.fine rfl (fun ev w1 hR hb hh=>?_);have e28:(ev (.tmp 28)=.pointer (some ⟨g,14,none⟩)):=hh.at 0;clear hh;refine Each.Goes.same ?_;go_simp;try with_reducible rfl
      ·refine Each.fine rfl (fun ev w1 hR hb hh=>?_);have e29:(ev (.tmp 29)=.pointer (some ⟨g,16,none⟩)):=hh.at 0;clear hh;have q16:=(HQ.out.below hb).c 16 _ rfl;refine Each.Goes.same ?_;go_simp;try with_reducible rfl
     intro g1 w2 hb hf;have z25:(g1 25=.pointer (some ⟨g,1,none⟩)):=hf.at 2;have z30:(g1 30=.int .i64 b.x2):=hf.at 7;clear hf;simp only [Each.putg,Act.put,List.setIfInBounds_toArray,List.set_cons_zero,List.set_cons_succ];rw [z25,z30];simp only [Tree.grow,Tree.put1,List.getElem?_cons_zero,List.getElem?_cons_succ]
     have HS1:=Lib.hid (Step.of_below hb (L:=blks g q v f bd t o))
     have HFI:=Lib.hid (count_any b.x2 (H.out.below hb) hsz);clear hb HQ;rw [HTR.out] at HFI
     refine Tree.change (by rfl) (fun K hK=>?_)
     refine Each.oper_enter (g:=158) (args:=#[.pointer (some ⟨g,1,none⟩),.int .i64 b.x2]) (by go_simp) (HFI.out.mono ?_);rintro r w3 ⟨rfl,hP,hS⟩;refine ⟨_,rfl,?_⟩;refine hK _ _ trivial ?_;clear hK K;simp only [Act.put,List.setIfInBounds_toArray,List.set_cons_zero,List.set_cons_succ];refine Tree.quiet (by rfl) (.bool false) (fun _ _=>by go_simp) ?_;simp only [Act.put,List.setIfInBounds_toArray,List.set_cons_zero,List.set_cons_succ];refine Tree.done ?_
     have HP2:=Lib.hid hP;have HS2:=Lib.hid (HS1.out.trans hS);clear HFI HS1 hS
     have HI:=Lib.hid (inLine_any hp hb0 c hP (ok.counted hb0 hov) (by rw [counted_out];exact hout));clear hP
     go_wp2_with (go_at_call 160;with_reducible refine HI.out.mono ?_;rintro r w4 ⟨rfl,L4,hA,hS4⟩);go_ret;exact ⟨rfl,L4,hA,HS2.out.trans hS4⟩
  ·rw [if_neg hhd];have hn2:¬s.st=1∧¬s.st=2∧¬s.st=7:=by
    unfold headed at hhd;simp only [Bool.or_eq_true,beq_iff_eq] at hhd;omega
   have t1:((s.st:Int)==1)=false:=beq_eq_false_iff_ne.2 (by omega);have m1:¬(s.st:Int)=1:=by omega
   have t2:((s.st:Int)==2)=false:=beq_eq_false_iff_ne.2 (by omega);have m2:¬(s.st:Int)=2:=by omega
   have t3:((s.st:Int)==3)=false:=beq_eq_false_iff_ne.2 (by omega);have m3:¬(s.st:Int)=3:=by omega
   have t5:((s.st:Int)==5)=false:=beq_eq_false_iff_ne.2 (by omega);have m5:¬(s.st:Int)=5:=by omega
   have t7:((s.st:Int)==7)=false:=beq_eq_false_iff_ne.2 (by omega);have m7:¬(s.st:Int)=7:=by omega
   have HI:=Lib.hid (inLine_any hp hb0 c h ok hout);clear h hbd ok hout hb0 hhd hn hn2;go_enter Tryz.func117,Tryz.ntmps117
   go_wp2_with (go_at_call 160;with_reducible refine HI.out.mono ?_;rintro r w4 ⟨rfl,L4,hA,hS4⟩);go_ret;exact ⟨rfl,L4,hA,hS4⟩
end code
end Go.Proofs.YtnabkcglnbdfeaaGreatDoor.Pg
namespace Go.Proofs.YtnabkcglnbdfeaaGreatDoor.Pg
open Go.RowKit Base Txt Par
section
variable {p:Nat} {b:Bd} {t t':T}
theorem feed_nil (x:Q):x.feed p b []=x:=rfl
theorem feed_cons (x:Q) (c:UInt8) (l:List UInt8):x.feed p b (c::l)=(x.byte p b c).feed p b l:=rfl
theorem feed_app (x:Q) (l l':List UInt8):x.feed p b (l++l')=(x.feed p b l).feed p b l':=List.foldl_append
theorem feed_dead (e:Nat) (o:List Rec.R) (l:List UInt8):(Q.dead e o).feed p b l=.dead e o:=by
 induction l with
 | nil=>rfl
 | cons c l ih=>rw [feed_cons];exact ih
def T.room (b:Bd) (t:T) (n:Nat):Prop:=headed t.st=true→((t.size+n:Nat):Int)≤b.x2
structure T.Open (t:T):Prop where
 st:bodied t.st=false
 pend:t.rd.pend=false
 nf:Ln.failed t.rd.last=false
def T.went (t:T) (rd:Ln.M) (n:Nat):T:={t with rd:=rd,size:=if headed t.st=true then t.size+n else t.size,cnt:=headed t.st}
theorem take_line (h:bodied t.st=false) (c:UInt8) (hr:t.room b 1):t.take p b c=(match ({t with size:=if headed t.st=true then t.size+1 else t.size,cnt:=headed t.st}:T).inLine p b c with
 |(.live t1,false)=>(t1.look p b c).1
 |(x,_)=>x):=by
 unfold T.take T.look;have e:¬bodied ({t with cnt:=false}:T).st=true:=by rw [show ({t with cnt:=false}:T).st=t.st from rfl,h];decide
 rw [if_neg e];by_cases hh:headed t.st=true
 ·have hr':=hr hh;rw [if_pos (show headed ({t with cnt:=false}:T).st=true from hh)];have e2:T.counted {t with cnt:=false}={t with size:=if headed t.st=true then t.size+1 else t.size,cnt:=headed t.st}:=by
   unfold T.counted;rw [if_pos hh,hh];rfl
  rw [e2,if_neg (by show¬b.x2<((if headed t.st=true then t.size+1 else t.size:Nat):Int);rw [if_pos hh];omega)];rfl
 ·rw [if_neg (show¬headed ({t with cnt:=false}:T).st=true from hh)];have e2:headed t.st=false:=by simpa using hh
  rw [if_neg hh,e2];rfl
theorem take_plain (h:t.Open) (c:UInt8) (h10:c≠10) (h13:c≠13) (hm:t.rd.clear.buf.length<t.rd.most) (hr:t.room b 1) :
 t.take p b c=.live (t.went {t.rd with buf:=t.rd.clear.buf ++ [c],last:=0,pend:=false} 1):=by
 rw [take_line h.st c hr];have e0:t.rd.clear.next c=0:=by unfold Ln.M.next;rw [show t.rd.clear.last=t.rd.last from rfl,show t.rd.clear.pend=t.rd.pend from rfl,h.nf,h.pend,if_neg (by decide),if_neg (by decide),if_neg h10,if_neg h13,if_neg (by rw [show t.rd.clear.most=t.rd.most from rfl];omega)]
 have ek:t.rd.clear.keeps c=true:=by unfold Ln.M.keeps;rw [show t.rd.clear.last=t.rd.last from rfl,show t.rd.clear.pend=t.rd.pend from rfl,h.nf,h.pend,if_neg (by decide),if_neg (by decide),if_neg h10,if_neg h13,if_neg (by rw [show t.rd.clear.most=t.rd.most from rfl];omega)]
 have eb:t.rd.byte c={t.rd with buf:=t.rd.clear.buf ++ [c],last:=0,pend:=false}:=by unfold Ln.M.byte Ln.M.told;rw [e0,ek,if_pos rfl,beq_eq_false_iff_ne.2 h13];rfl
 unfold T.inLine;dsimp only;rw [e0,if_pos rfl,eb];rfl
theorem went_open (h:bodied t.st=false) {rd:Ln.M} (h1:rd.pend=false) (h2:Ln.failed rd.last=false) (n:Nat):(t.went rd n).Open:=⟨h,h1,h2⟩
theorem went_went (rd rd':Ln.M) (n k:Nat):(t.went rd n).went rd' k=t.went rd' (n+k):=by unfold T.went;dsimp only;split<;>simp [Nat.add_assoc]
theorem went_room {rd:Ln.M} {n k:Nat} (h:t.room b (n+k)):(t.went rd n).room b k:=by intro hh;have:=h hh;show ((((if headed t.st=true then t.size+n else t.size)+k:Nat)):Int)≤b.x2;rw [if_pos (show headed t.st=true from hh)];omega
theorem room_le {n k:Nat} (h:t.room b k) (hn:n≤k):t.room b n:=fun hh=>by have:=h hh;omega
theorem feed_plain (l:List UInt8):∀t:T,l≠ []→t.Open→(∀c∈l,c≠10∧c≠13)→t.rd.clear.buf.length+l.length≤t.rd.most→t.room b l.length→
 (Q.live t).feed p b l=.live (t.went {t.rd with buf:=t.rd.clear.buf++l,last:=0,pend:=false} l.length):=by
 induction l with
 | nil=>intro t h;exact absurd rfl h
 | cons c l ih=>
   intro t _ ho hc hm hr
   have h1:=hc c (by simp);simp only [List.length_cons] at hm hr ⊢;rw [feed_cons];show ((t.take p b c).feed p b l)= _;rw [take_plain ho c h1.1 h1.2 (by omega) (room_le hr (by omega))];rcases List.eq_nil_or_concat l with rfl | ⟨_,_,_⟩
   ·rfl
   ·have hne:l≠ []:=by rename_i h;rw [h];simp
    rw [ih _ hne (went_open ho.st rfl rfl 1) (fun x hx=>hc x (by simp [hx])) ?_ (went_room (by rw [Nat.add_comm];exact hr)),went_went]
    ·rw [Nat.add_comm 1];show Q.live (t.went {t.rd with buf:=(t.rd.clear.buf ++ [c])++l,last:=0,pend:=false} (l.length+1))= _;rw [List.append_assoc];rfl
    ·show (t.rd.clear.buf ++ [c]).length+l.length≤t.rd.most;rw [List.length_append,List.length_singleton];omega
theorem take_cr (h:t.Open) (hr:t.room b 1):t.take p b 13=.live (t.went {t.rd with buf:=t.rd.clear.buf,last:=0,pend:=true} 1):=by
 rw [take_line h.st 13 hr];have e0:t.rd.clear.next 13=0:=by unfold Ln.M.next;rw [show t.rd.clear.last=t.rd.last from rfl,show t.rd.clear.pend=t.rd.pend from rfl,h.nf,h.pend,if_neg (by decide),if_neg (by decide),if_neg (by decide),if_pos rfl]
 have ek:t.rd.clear.keeps 13=false:=by unfold Ln.M.keeps;rw [show t.rd.clear.last=t.rd.last from rfl,show t.rd.clear.pend=t.rd.pend from rfl,h.nf,h.pend,if_neg (by decide),if_neg (by decide),if_neg (by decide),if_pos rfl]
 have eb:t.rd.byte 13={t.rd with buf:=t.rd.clear.buf,last:=0,pend:=true}:=by unfold Ln.M.byte Ln.M.told;rw [e0,ek,if_neg (by decide),List.append_nil];rfl
 unfold T.inLine;dsimp only;rw [e0,if_pos rfl,eb];rfl
theorem take_lf (hs:bodied t.st=false) (hp:t.rd.pend=true) (hl:t.rd.last=0) (hr:t.room b 1) :
 t.take p b 10=ends (T.line p b (t.went {t.rd with last:=1,pend:=false} 1) t.rd.buf):=by
 rw [take_line hs 10 hr]
 have ec:t.rd.clear=t.rd:=Ln.clear_of (by rw [hl];rfl);have e0:t.rd.clear.next 10=1:=by unfold Ln.M.next;rw [ec,hl,hp];rfl
 have ek:t.rd.clear.keeps 10=false:=by unfold Ln.M.keeps;rw [ec,hl,hp];rfl
 have eb:t.rd.byte 10={t.rd with last:=1,pend:=false}:=by unfold Ln.M.byte Ln.M.told;rw [e0,ek,if_neg (by decide),List.append_nil,ec];rfl
 unfold T.inLine;dsimp only;rw [e0,if_neg (by decide),if_neg (by decide),if_neg (by decide),eb];have el:({t.rd with last:=1,pend:=false}:Ln.M).line=t.rd.buf:=rfl;rw [el];unfold T.went;obtain ⟨x,hx⟩:∃x,ends (T.line p b {t with rd:={t.rd with last:=1,pend:=false},size:=if headed t.st=true then t.size+1 else t.size,cnt:=headed t.st} t.rd.buf)=x:=⟨_,rfl⟩;rw [hx];cases x<;>rfl
theorem feed_line (l:List UInt8) (h:t.Open) (h0:t.rd.clear.buf= []) (hc:∀c∈l,c≠10∧c≠13) (hm:l.length≤t.rd.most) (hr:t.room b (l.length+2)) :
 (Q.live t).feed p b (l ++ [13,10])=ends (T.line p b (t.went {t.rd with buf:=l,last:=1,pend:=false} (l.length+2)) l):=by
 rw [feed_app];have key:∀(t1:T) (k:Nat),t1.Open→t1.room b 2→t1.rd.clear.buf=l→(Q.live t1).feed p b [13,10]=ends (T.line p b (t1.went {t1.rd with buf:=l,last:=1,pend:=false} 2) l):=by
  intro t1 k ho hr hb;rw [feed_cons,feed_cons];show ((Q.byte p b (t1.take p b 13) 10).feed p b [])= _;rw [take_cr ho (room_le hr (by omega)),feed_nil];show T.take p b _ 10= _
  have e:=take_lf (p:=p) (b:=b) (t:=t1.went {t1.rd with buf:=t1.rd.clear.buf,last:=0,pend:=true} 1) ho.st rfl rfl (went_room hr);rw [e,went_went];show ends (T.line p b (t1.went {t1.rd with buf:=t1.rd.clear.buf,last:=1,pend:=false} 2) t1.rd.clear.buf)= _;rw [hb]
 rcases List.eq_nil_or_concat l with rfl | ⟨_,_,_⟩
 ·rw [feed_nil,key t 0 h hr h0];rfl
 ·have hne:l≠ []:=by rename_i h;rw [h];simp
  rw [feed_plain l t hne h hc (by rw [h0];simpa using hm) (room_le hr (by omega)),h0,List.nil_append,key _ 0 (went_open h.st rfl rfl _) (went_room hr) rfl,went_went];rfl
theorem take_body (h:bodied t.st=true) (c:UInt8):t.take p b c=.live (if t.left=1 then ({t with cnt:=false}:T).keep c |>.endData p else ({t with cnt:=false}:T).keep c):=by unfold T.take T.look;rw [if_pos (show bodied ({t with cnt:=false}:T).st=true from h)]
theorem feed_body (d:List UInt8):∀t:T,bodied t.st=true→d≠ []→d.length≤t.left→(Q.live t).feed p b d=.live (if d.length=t.left then T.endData p {t with cnt:=false,r:={t.r with body:=t.r.body++d},left:=0} else {t with cnt:=false,r:={t.r with body:=t.r.body++d},left:=t.left-d.length}):=by
 induction d with
 | nil=>intro t _ h;exact absurd rfl h
 | cons c d ih=>
   intro t hb _ hl;simp only [List.length_cons] at hl ⊢;rw [feed_cons];show ((t.take p b c).feed p b d)= _;rw [take_body hb c];by_cases h1:t.left=1
   ·have hd:d= []:=List.eq_nil_of_length_eq_zero (by omega);subst hd;rw [if_pos h1,if_pos (by simp [h1]),feed_nil];unfold T.keep;rw [h1]
   ·rw [if_neg h1];rcases List.eq_nil_or_concat d with rfl | ⟨_,_,_⟩
    ·rw [feed_nil,if_neg (by simp only [List.length_nil];omega)];rfl
    ·have hne:d≠ []:=by rename_i h;rw [h];simp
     rw [ih (({t with cnt:=false}:T).keep c) hb hne (by show d.length≤t.left-1;omega)];unfold T.keep;dsimp only;have e1:t.r.body ++ [c]++d=t.r.body++c::d:=by rw [List.append_assoc];rfl
     rw [e1];by_cases h2:d.length=t.left-1
     ·rw [if_pos h2,if_pos (by omega)]
     ·rw [if_neg h2,if_neg (by omega),show t.left-1-d.length=t.left-(d.length+1) by omega]
end
end Go.Proofs.YtnabkcglnbdfeaaGreatDoor.Pg
namespace Go.Proofs.YtnabkcglnbdfeaaGreatDoor.Pg
open Go.RowKit Base Txt Mem Par
def Q.Ok (b:Bd):Q→Prop
 | .live t=>t.Ok∧b.right=true
 | .dead _ _=>True
section
variable {p:Nat} {b:Bd} {t t':T} {s:List UInt8}
theorem line_out (t:T) (s:List UInt8):(t.line p b s).2.out.length≤t.out.length+1:=by
 have hf:t.fin.out.length≤t.out.length+1:=by show (t.out ++ [t.r]).length≤_;simp
 unfold T.line T.first T.fields T.endHead T.chunk T.trail;split
 ·split
  ·exact Nat.le_succ _
  ·dsimp only;split<;>exact Nat.le_succ _
 ·split
  ·split
   ·dsimp only;split
    ·exact Nat.le_succ _
    ·split
     ·exact Nat.le_succ _
     ·split
      ·exact hf
      ·exact Nat.le_succ _
   ·exact Nat.le_succ _
  ·split
   ·dsimp only;split
    ·exact Nat.le_succ _
    ·split
     ·exact Nat.le_succ _
     ·split<;>exact Nat.le_succ _
   ·split
    ·split
     ·exact hf
     ·exact Nat.le_succ _
    ·exact Nat.le_succ _
theorem inLine_out (t:T) (c:UInt8):(t.inLine p b c).1.out.length≤t.out.length+1:=by
 unfold T.inLine;dsimp only;split
 ·exact Nat.le_succ _
 ·split
  ·exact Nat.le_succ _
  ·split
   ·split<;>exact Nat.le_succ _
   ·have h:=line_out (p:=p) (b:=b) {t with rd:=t.rd.byte c} (t.rd.byte c).line;unfold ends;split<;>exact h
theorem look_out (t:T) (c:UInt8):(t.look p b c).1.out.length≤t.out.length+1:=by
 unfold T.look;split
 ·split
  ·show (T.endData p (t.keep c)).out.length≤_;unfold T.endData;split
   ·exact Nat.le_succ _
   ·show (t.out ++ [_]).length≤_;simp
  ·exact Nat.le_succ _
 ·split
  ·split
   ·exact Nat.le_succ _
   ·have h:=inLine_out (p:=p) (b:=b) t.counted c;rw [counted_out] at h;exact h
  ·exact inLine_out t c
theorem take_out (t:T) (c:UInt8):(t.take p b c).out.length≤t.out.length+2:=by
 have h:=look_out (p:=p) (b:=b) {t with cnt:=false} c;have e:({t with cnt:=false}:T).out=t.out:=rfl;rw [e] at h;unfold T.take;rcases hx:({t with cnt:=false}:T).look p b c with ⟨t1 | ⟨e,o⟩,u⟩
 ·rw [hx] at h;have h:t1.out.length≤t.out.length+1:=h;cases u with
  | true=>show t1.out.length≤_;omega
  | false=>
    have h2:=look_out (p:=p) (b:=b) t1 c;show (t1.look p b c).1.out.length≤_;omega
 ·rw [hx] at h;have h:o.length≤t.out.length+1:=h
  cases u<;> (show o.length≤_;omega)
theorem Q.byte_out (x:Q) (c:UInt8):(x.byte p b c).out.length≤x.out.length+2:=by
 cases x with
 | live t=>exact take_out t c
 | dead e o=>show o.length≤o.length+2;omega
theorem Q.feed_out:∀(l:List UInt8) (x:Q),(x.feed p b l).out.length≤x.out.length+2*l.length
 | [],_=>Nat.le_refl _
 | c::l,x=>by
   have h1:=Q.byte_out (p:=p) (b:=b) x c
   have h2:=Q.feed_out l (x.byte p b c);rw [feed_cons,List.length_cons];omega
theorem Q.Ok.byte {x:Q} (h:x.Ok b) (c:UInt8):(x.byte p b c).Ok b:=by
 cases x with
 | live t=>
   show (t.take p b c).Ok b;rcases hx:t.take p b c with t1 | ⟨e,o⟩
   ·exact ⟨T.Ok.take h.1 h.2 c hx,h.2⟩
   ·trivial
 | dead e o=>trivial
theorem Q.Ok.feed:∀(l:List UInt8) {x:Q},x.Ok b→(x.feed p b l).Ok b
 | [],_,h=>h
 | c::l,_,h=>Q.Ok.feed l (h.byte c)
end
structure Bts (L:List (Option Nat)) (w:World) (a:Option Addr) (l:List UInt8):Prop where
 nums:Nums .u8 w a l.length (l.map fun c=>(c.toNat:Int))
 far:∀ad,a=some ad→some ad.block∉L∧ad.block<w.heap.size
structure Parts (L:List (Option Nat)) (w:World) (a:Option Addr) (ls:List (List UInt8)):Prop where
 cells:0<ls.length→∃bk off,a=some ⟨bk,off,none⟩∧bk<w.heap.size∧some bk∉L∧∀k (hk:k<ls.length),∃ak ck,w.cell? ⟨bk,off+k,none⟩=some (.slice ak ls[k].length ck)∧Bts L w ak ls[k]
theorem Bts.step {L L':List (Option Nat)} {w w':World} {a:Option Addr} {l:List UInt8} (h:Bts L w a l) (hs:Step L L' w w'):Bts L' w' a l:=by
 refine ⟨nums_keeps h.nums hs.keeps (fun c=>?_),fun ad e=>⟨fun hm=>?_,Nat.lt_of_lt_of_le (h.far ad e).2 hs.keeps.size⟩⟩
 ·cases ha:a with
  | none=>exact .inl rfl
  | some ad=>exact .inr ⟨ad.block,rfl,(h.far ad ha).1⟩
 ·rcases hs.of _ hm with h1 | h1
  ·exact (h.far ad e).1 h1
  ·have:=(h.far ad e).2;omega
theorem Parts.step {L L':List (Option Nat)} {w w':World} {a:Option Addr} {ls:List (List UInt8)} (h:Parts L w a ls) (hs:Step L L' w w'):Parts L' w' a ls:=by
 refine ⟨fun h0=>?_⟩;obtain ⟨bk,off,e,hlt,hn,hc⟩:=h.cells h0;refine ⟨bk,off,e,Nat.lt_of_lt_of_le hlt hs.keeps.size,fun hm=>?_,fun k hk=>?_⟩
 ·rcases hs.of _ hm with h1 | h1
  ·exact hn h1
  ·omega
 ·obtain ⟨ak,ck,h1,h2⟩:=hc k hk;exact ⟨ak,ck,(hs.keeps.cell (p:=⟨bk,off+k,none⟩) hlt hn).trans h1,h2.step hs⟩
section code
set_option maxHeartbeats 4000000
set_option maxRecDepth 20000
attribute [local go_sem] Base.some_undef
variable {w:World} {B:Zone} {g q:Nat} {v f bd t o:Value} {p:Nat} {b:Bd} {s:T}
theorem Dead.cell0 {e:Nat} {out:List Rec.R} (h:Dead w B g e o out):w.cell? ⟨g,0,none⟩=some (.int .i64 (e:Int)):=row_cellL h.row rfl
theorem Dead.put {e:Nat} {out:List Rec.R} (h:Dead w B g e o out) (k:Nat) (u:Value) (o':Value) (out':List Rec.R) (hc:(deadcells e o).set k u=deadcells e o') (hO:Outs [some g,o'.ownBlock] B (w.setCell ⟨g,k,none⟩ u) o' out') (hn:o'.ownBlock≠some g) (hz:o'.ownBlock=none∨o'.ownBlock=o.ownBlock):Dead (w.setCell ⟨g,k,none⟩ u) B g e o' out':=
 ⟨by rw [←hc];exact row_setL h.row k u,hO,hn,h.ge,by simpa using h.lt,h.bad,h.zone.of (by simp) fun k hk=>.inl (by
   rcases (by simpa using hk:k=g∨some k=o'.ownBlock) with e | e
   ·simp [e]
   ·rcases hz with z | z
    ·rw [z] at e;cases e
    ·rw [←z,←e];simp)⟩
theorem Dead.same {e:Nat} {out:List Rec.R} (h:Dead w B g e o out) (k:Nat) (u:Value) (hc:(deadcells e o).set k u=deadcells e o):Dead (w.setCell ⟨g,k,none⟩ u) B g e o out:=
 h.put k u o out hc (h.O.keeps (Keeps.set g k u (List.mem_singleton.2 rfl)) (fun k hk=>by simp only [List.mem_singleton] at hk;simp [hk]) (fun k e hm=>h.ne (by rw [e,List.mem_singleton.1 hm]))) h.ne (.inr rfl)
theorem take_any (hp:p<4294967296) (c:UInt8) (x:Q) {L:List (Option Nat)} (h:At w B g p b L x) (ok:x.Ok b) (hout:x.out.length≤999999998):Calls Tryz.prog 75 #[ptr g,.int .u8 (c.toNat:Int)] w fun r w'=>
 r=.returned (.tuple #[])∧∃L',At w' B g p b L' (x.byte p b c)∧Step L L' w w':=by
 cases x with
 | dead e out=>
   obtain ⟨o,rfl,hd⟩:=h
   have H1:=Lib.hid (hd.same 7 (.bool false) rfl)
   have HS1:=Lib.hid (Step.set (w:=w) (L:= [some g,o.ownBlock]) g 7 (.bool false) (by simp));have HB:=Lib.hid hd.bad;have c7:=row_cellL hd.row (k:=7) rfl;have z7:=Ln.row_frozen hd.row 7;clear hd ok hout;go_enter Tryz.func75,Tryz.ntmps75;go_upto_region 1 with fail
   generalize w.setCell ⟨g,7,none⟩ (.bool false)=W1 at *;clear c7 z7
   have HF:=Lib.hid (failed_dead H1.out.cell0 HB.out);refine wp_loop_rounds 1 ?_;rw [rounds_succ]
   go_wp2_with (go_at_call 81;with_reducible refine HF.out.mono ?_;rintro r w2 ⟨rfl,hw⟩;rw [hw];clear hw);first | go_end0 | refine bodyPost_ret (results_none rfl _ _ _) rfl ?_
   exact ⟨rfl,_,⟨_,rfl,H1.out⟩,HS1.out⟩
 | live s=>
   obtain ⟨q,v,f,bd,t,o,rfl,h⟩:=h
   have H1:=Lib.hid (h.put 7 (.bool false) {s with cnt:=false} rfl rfl rfl rfl rfl rfl)
   have HS1:=Lib.hid (Step.set (w:=w) (L:=blks g q v f bd t o) g 7 (.bool false) (by simp));have c7:=h.cs.c7;have z7:=h.marks 7;obtain ⟨ok,hb0⟩:s.Ok∧b.right=true:=ok;have hout:s.out.length≤999999998:=hout;have ok1:=ok.cleared;obtain ⟨S1,hS1⟩:∃S1:T,{s with cnt:=false}=S1:=⟨_,rfl⟩;have ho1:S1.out.length≤999999998:=by rw [←hS1];exact hout
   rw [hS1] at ok1 H1
   have e:Q.byte p b (.live s) c=(match S1.look p b c with
    |(.live t1,false)=>(t1.look p b c).1
    |(x,_)=>x):=by rw [←hS1];rfl
   have HL:=Lib.hid (fun (w2:World) (h2:PR w2 B g q v f bd t o p b S1)=>look_any hp hb0 c h2 ok1 (by omega));have htw:=fun t'=>look_twice (p:=p) (t':=t') ok1 hb0 c;have hoo:=look_out (p:=p) (b:=b) S1 c;have hok2:=fun t' (h:(S1.look p b c).1=.live t')=>ok1.look hb0 c h;rw [e];clear h ok hout e hS1;rcases hx:S1.look p b c with ⟨t1 | ⟨e,out⟩,u⟩
   ·rw [hx] at HL hoo;cases u with
    | true=>
      show Calls _ _ _ _ fun r w'=>r=.returned (.tuple #[])∧∃L',At w' B g p b L' (.live t1)∧Step _ L' w w';clear htw hx hok2 hoo;go_enter Tryz.func75,Tryz.ntmps75;go_upto_region 1 with fail
      generalize w.setCell ⟨g,7,none⟩ (.bool false)=W1 at *;clear c7 z7
      have HF:=Lib.hid (failed_live H1.out.cs.c0)
      have HL1:=Lib.hid (HL.out _ H1.out);refine wp_loop_rounds 1 ?_;rw [rounds_succ]
      go_wp2_with (first
       |(go_at_call 117;with_reducible refine HL1.out.mono ?_;rintro r w2 ⟨rfl,L2,hA,hS2⟩)
       |(go_at_call 81;with_reducible refine HF.out.mono ?_;rintro r w3 ⟨rfl,hw⟩;rw [hw];clear hw))
      first | go_end0 | refine bodyPost_ret (results_none rfl _ _ _) rfl ?_
      exact ⟨rfl,_,hA,HS1.out.trans hS2⟩
    | false=>
      have hu:=htw t1 hx;show Calls _ _ _ _ fun r w'=>r=.returned (.tuple #[])∧∃L',At w' B g p b L' (t1.look p b c).1∧Step _ L' w w'
      have ok2:=hok2 t1 (by rw [hx]);have hoo:t1.out.length≤S1.out.length+1:=hoo
      have HL9:=fun (w2:World) (q v f bd t o) (h2:PR w2 B g q v f bd t o p b t1)=>look_any hp hb0 c h2 ok2 (by omega);rw [hu] at HL9;have HL2:=Lib.hid HL9;clear htw hx hok2 hoo hu ok2 HL9;go_enter Tryz.func75,Tryz.ntmps75;go_upto_region 1 with fail
      generalize w.setCell ⟨g,7,none⟩ (.bool false)=W1 at *;clear c7 z7
      have HF:=Lib.hid (failed_live H1.out.cs.c0)
      have HL1:=Lib.hid (HL.out _ H1.out);refine wp_loop_rounds 2 ?_;rw [rounds_succ]
      go_wp2_with (first
       |(go_at_call 117;with_reducible refine HL1.out.mono ?_;rintro r w2 ⟨rfl,L2,hA,hS2⟩)
       |(go_at_call 81;with_reducible refine HF.out.mono ?_;rintro r w3 ⟨rfl,hw⟩;rw [hw];clear hw))
      obtain ⟨q2,v2,f2,bd2,t2,o2,rfl,h2⟩:=hA
      have HF2:=Lib.hid (failed_live h2.cs.c0)
      have HL3:=Lib.hid (HL2.out _ _ _ _ _ _ _ h2)
      have HS2:=Lib.hid (HS1.out.trans hS2);clear h2 hS2 HF HL1 HL2 H1 HS1;rw [rounds_succ]
      go_wp2_with (first
       |(go_at_call 117;with_reducible refine HL3.out.mono ?_;rintro r w4 ⟨rfl,L4,hA4,hS4⟩)
       |(go_at_call 81;with_reducible refine HF2.out.mono ?_;rintro r w3 ⟨rfl,hw⟩;rw [hw];clear hw))
      first | go_end0 | refine bodyPost_ret (results_none rfl _ _ _) rfl ?_
      exact ⟨rfl,_,hA4,HS2.out.trans hS4⟩
   ·rw [hx] at HL hoo;cases u with
    | true=>
      show Calls _ _ _ _ fun r w'=>r=.returned (.tuple #[])∧∃L',At w' B g p b L' (.dead e out)∧Step _ L' w w';clear htw hx hok2 hoo;go_enter Tryz.func75,Tryz.ntmps75;go_upto_region 1 with fail
      generalize w.setCell ⟨g,7,none⟩ (.bool false)=W1 at *;clear c7 z7
      have HF:=Lib.hid (failed_live H1.out.cs.c0)
      have HL1:=Lib.hid (HL.out _ H1.out);refine wp_loop_rounds 1 ?_;rw [rounds_succ]
      go_wp2_with (first
       |(go_at_call 117;with_reducible refine HL1.out.mono ?_;rintro r w2 ⟨rfl,L2,hA,hS2⟩)
       |(go_at_call 81;with_reducible refine HF.out.mono ?_;rintro r w3 ⟨rfl,hw⟩;rw [hw];clear hw))
      first | go_end0 | refine bodyPost_ret (results_none rfl _ _ _) rfl ?_
      exact ⟨rfl,_,hA,HS1.out.trans hS2⟩
    | false=>
      show Calls _ _ _ _ fun r w'=>r=.returned (.tuple #[])∧∃L',At w' B g p b L' (.dead e out)∧Step _ L' w w';clear htw hx hok2 hoo;go_enter Tryz.func75,Tryz.ntmps75;go_upto_region 1 with fail
      generalize w.setCell ⟨g,7,none⟩ (.bool false)=W1 at *;clear c7 z7
      have HF:=Lib.hid (failed_live H1.out.cs.c0)
      have HL1:=Lib.hid (HL.out _ H1.out);refine wp_loop_rounds 2 ?_;rw [rounds_succ]
      go_wp2_with (first
       |(go_at_call 117;with_reducible refine HL1.out.mono ?_;rintro r w2 ⟨rfl,L2,hA,hS2⟩)
       |(go_at_call 81;with_reducible refine HF.out.mono ?_;rintro r w3 ⟨rfl,hw⟩;rw [hw];clear hw))
      obtain ⟨o2,rfl,h2⟩:=hA
      have HF2:=Lib.hid (failed_dead h2.cell0 h2.bad);have HD2:=Lib.hid h2
      have HS2:=Lib.hid (HS1.out.trans hS2);clear h2 hS2 HF HL1 H1 HS1;rw [rounds_succ]
      go_wp2_with (go_at_call 81;with_reducible refine HF2.out.mono ?_;rintro r w3 ⟨rfl,hw⟩;rw [hw];clear hw);first | go_end0 | refine bodyPost_ret (results_none rfl _ _ _) rfl ?_
      exact ⟨rfl,_,⟨_,rfl,HD2.out⟩,HS2.out⟩
end code
end Go.Proofs.YtnabkcglnbdfeaaGreatDoor.Pg
