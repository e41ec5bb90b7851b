import Derived.Test.YtldhlecknfomjaaGreatDoorCgn
namespace Go.Proofs.YtldhlecknfomjaaGreatDoor.Pg
open Go.RowKit Base Txt Mem Par
def At (w:World) (B:Zone) (g:Nat) (p:Nat) (b:Bd) (L:List (Option Nat)):Q→Prop
 | .live s=>∃q v f bd t o,L=blks g q v f bd t o∧PR w B g q v f bd t o p b s
 | .dead e out=>∃o,L= [some g,o.ownBlock]∧Dead w B g e o out
theorem ba_list (l:List UInt8):(ba l).data.toList=l:=rfl
section
variable {w w':World} {B:Zone} {g q:Nat} {v f bd t o:Value} {p:Nat} {rd:Ln.M} {fs ts:List Fld} {body:List UInt8} {out:List Rec.R}
theorem Own.reader (h:Own w B g q v f bd t o rd fs body ts out) {v':Value} {rd':Ln.M} (hk:Ln.Kept q v.ownBlock w w') (hm:Ln.Moved w v.ownBlock v'.ownBlock) (hr:Ln.Rd w' B q v' rd') :
 Own w' B g q v' f bd t o rd' fs body ts out∧Step (blks g q v f bd t o) (blks g q v' f bd t o) w w'∧Keeps [some q,v.ownBlock] w w':=by
 have hk2:Keeps [some q,v.ownBlock] w w':=Keeps.of_kept hk (by simp) fun k e=>by simp [e]
 have hn:∀i j,i≠1→i≠2→(blks g q v f bd t o)[i]?=some (some j)→some j∉ [some q,v.ownBlock]:=fun i j h1 h2 hj hm=>by
  rcases (by simpa using hm:j=q∨some j=v.ownBlock) with e | e
  ·exact h1 (h.lone i 1 j hj (by rw [e];rfl))
  ·exact h2 (h.lone i 2 j hj (by rw [e];rfl))
 have e:blks g q v' f bd t o=(blks g q v f bd t o).set 2 v'.ownBlock:=rfl;have ho:v'.ownBlock=none∨(blks g q v f bd t o)[2]?=some v'.ownBlock∨∃k,v'.ownBlock=some k∧w.heap.size≤k:=by
  rcases hm with e | e | e
  ·exact .inr (.inl (by rw [e];rfl))
  ·exact .inl e
  ·exact .inr (.inr e)
 have hof:Of w (blks g q v f bd t o) (blks g q v' f bd t o):=by rw [e];exact Of.set 2 _ ho
 have hkL:Keeps (blks g q v f bd t o) w w':=hk2.mono fun k hk=>by
  rcases (by simpa using hk:k=q∨some k=v.ownBlock) with e | e
  ·simp [e]
  ·simp [e]
 obtain ⟨ps,h1,h2,h3⟩:=h.O
 refine ⟨⟨hr,hk2.own h.F fun j e=>hn 3 j (by decide) (by decide) (by rw [←e];rfl),hk2.own h.D fun j e=>hn 4 j (by decide) (by decide) (by rw [←e];rfl),hk2.own h.TR fun j e=>hn 5 j (by decide) (by decide) (by rw [←e];rfl),
  ⟨ps,h1,fun x hx=>⟨(h2 x hx).1,by
    have hx2:=(h2 x hx).2.keeps hkL
    exact ⟨hx2.reads,fun k hb=>⟨fun hm=>by
     rcases hof k hm with e | e
     ·exact (hx2.far k hb).1 e
     ·exact absurd ((h2 x hx).2.far k hb).2 (by omega),(hx2.far k hb).2⟩,hx2.off⟩⟩,hk2.own h3 fun j e=>hn 6 j (by decide) (by decide) (by rw [←e];rfl)⟩,?_,h.ge,Nat.lt_of_lt_of_le h.lt hk2.size,h.zone.of hk2.size hof⟩,⟨hkL,hof⟩,hk2⟩
 rw [e];exact h.lone.set h.in 2 _ ho
theorem PR.reader {b:Bd} {s:T} (h:PR w B g q v f bd t o p b s) {v':Value} {rd':Ln.M} (hk:Ln.Kept q v.ownBlock w w') (hm:Ln.Moved w v.ownBlock v'.ownBlock) (hr:Ln.Rd w' B q v' rd') :
 PR w' B g q v' f bd t o p b {s with rd:=rd'}∧Step (blks g q v f bd t o) (blks g q v' f bd t o) w w':=by
 obtain ⟨h1,h2,h3⟩:=h.own.reader hk hm hr;refine ⟨⟨h3.row h.row fun hm=>?_,h1⟩,h2⟩;rcases (by simpa using hm:g=q∨some g=v.ownBlock) with e | e
 ·exact absurd (h.own.lone 0 1 g rfl (by rw [e];rfl)) (by decide)
 ·exact absurd (h.own.lone 0 2 g rfl (by rw [e];rfl)) (by decide)
end
section code
set_option maxHeartbeats 4000000
set_option maxRecDepth 20000
attribute [local go_sem] Base.some_undef
variable {w:World} {B:Zone} {g q:Nat} {v f bd t o:Value} {p:Nat} {b:Bd} {s:T}
theorem reader_any (c:UInt8) (hm:s.rd.Ok) (h:PR w B g q v f bd t o p b s):Calls Tryz.prog 194 #[ptr q,.int .u8 (c.toNat:Int)] w fun r w'=>
 ∃v1,r=.returned (.int .i64 (s.rd.clear.next c))∧PR w' B g q v1 f bd t o p b {s with rd:=s.rd.byte c}∧Step (blks g q v f bd t o) (blks g q v1 f bd t o) w w':=by
 refine (Ln.byte_any c s.rd hm w B q v h.own.R).mono ?_;rintro r w' ⟨v1,rfl,h1,h2,h3⟩;obtain ⟨h4,h5⟩:=h.reader h2 h3 h1;exact ⟨v1,rfl,h4,h5⟩
theorem inLine_any (hp:p<4294967296) (hb0:b.right=true) (c:UInt8) (h:PR w B g q v f bd t o p b s) (ok:s.Ok) (hout:s.out.length≤1000000000):Calls Tryz.prog 173 #[ptr g,.int .u8 (c.toNat:Int)] w fun r w'=>
 r=.returned (.bool (s.inLine p b c).2)∧∃L1,At w' B g p b L1 (s.inLine p b c).1∧Step (blks g q v f bd t o) L1 w w':=by
 have hby:=reader_any c ok.rd h;rcases Ln.M.next_is s.rd.clear c with hhow | hhow | hhow | hhow | hhow
 ·have HBY:=Lib.hid (show Calls Tryz.prog 194 #[ptr q,.int .u8 (c.toNat:Int)] w fun r w'=>∃v1,r=.returned (.int .i64 0)∧PR w' B g q v1 f bd t o p b {s with rd:=s.rd.byte c}∧Step (blks g q v f bd t o) (blks g q v1 f bd t o) w w' from by rw [←hhow];exact hby);have e0:s.inLine p b c=(.live {s with rd:=s.rd.byte c},true):=by
   unfold T.inLine;dsimp only;rw [hhow,if_pos rfl]
  rw [e0];have c25:=h.cs.c25;clear h hby ok hout e0 hhow;go_enter Tryz.func173,Tryz.ntmps173;go_wp2_with
   (go_at_call 194;with_reducible refine HBY.out.mono ?_;rintro r w2 ⟨v1,rfl,h2,hS2⟩
    have HP:=Lib.hid h2;have HS:=Lib.hid hS2;clear h2 hS2 c25)
  go_ret;exact ⟨rfl,_,⟨_,_,_,_,_,_,rfl,HP.out⟩,HS.out⟩
 ·have HBY:=Lib.hid (show Calls Tryz.prog 194 #[ptr q,.int .u8 (c.toNat:Int)] w fun r w'=>∃v1,r=.returned (.int .i64 1)∧PR w' B g q v1 f bd t o p b {s with rd:=s.rd.byte c}∧Step (blks g q v f bd t o) (blks g q v1 f bd t o) w w' from by rw [←hhow];exact hby)
  have ok2:({s with rd:=s.rd.byte c}:T).Ok:=ok.byteR c (by rw [hhow];rfl);have hln:=line_len ok c;obtain ⟨ln,hl⟩:∃ln,(s.rd.byte c).line=ln:=⟨_,rfl⟩;rw [hl] at hln;obtain ⟨⟨e,t2⟩,hx⟩:∃x,T.line p b {s with rd:=s.rd.byte c} ln=x:=⟨_,rfl⟩;have e0:s.inLine p b c=(ends (e,t2),true):=by unfold T.inLine;dsimp only;rw [hhow,if_neg (by decide),if_neg (by decide),if_neg (by decide),hl,hx];rfl
  rw [e0]
  have HEN:=Lib.hid (fun (w2:World) (v1:Value) (h2:PR w2 B g q v1 f bd t o p b {s with rd:=s.rd.byte c})=>endLine_any hp hb0 (ba ln) (by rw [size_ba];exact hln) h2 ok2 hout)
  have HLI:=Lib.hid (fun (w2:World) (v1:Value) (h2:PR w2 B g q v1 f bd t o p b {s with rd:=s.rd.byte c})=>Ln.line_any h2.own.R.row h2.own.R.own);have HLN:=Lib.hid hl;have HX:=Lib.hid hx;have c25:=h.cs.c25;clear h hby ok2 hln hl hx e0 hhow ok;rcases Nat.eq_zero_or_pos e with he | he
  ·subst he;go_enter Tryz.func173,Tryz.ntmps173
   go_wp2_with (first
    |(go_at_call 172;with_reducible refine (HFZ.out).mono ?_;rintro r w5 ⟨rfl,hw⟩;rw [hw];clear hw)
    |(go_at_call 195;with_reducible refine HEN2.out.mono ?_;rintro r w4 ⟨rfl,q1,v2,f1,bd1,t1,o1,hP,hS⟩
      have HP:=Lib.hid hP;have HS:=Lib.hid (HS2.out.trans hS);have HFZ:=Lib.hid (fail_zero w4 g);clear hP hS)
    |(go_at_call 196;with_reducible refine HLI2.out.mono ?_;rintro r w3 ⟨rfl,hw⟩;rw [hw];clear hw)
    |(go_at_call 194;with_reducible refine HBY.out.mono ?_;rintro r w2 ⟨v1,rfl,h2,hS2⟩
      have d25:=h2.cs.c25;have HS2:=Lib.hid hS2;have HEN2:=HEN.out w2 v1 h2;have HLI2:=HLI.out w2 v1 h2
      replace HEN2:=Lib.hid (show Calls Tryz.prog 195 #[ptr g,.string (Ln.ba ln)] w2 fun r w'=>r=.returned (.int .i64 0)∧∃q1 v2 f1 bd1 t1 o1,PR w' B g q1 v2 f1 bd1 t1 o1 p b t2∧Step (blks g q v1 f bd t o) (blks g q1 v2 f1 bd1 t1 o1) w2 w' from by rw [ba_list,HX.out] at HEN2;exact HEN2)
      rw [HLN.out] at HLI2
      replace HLI2:=Lib.hid HLI2
      clear h2 hS2 c25))
   go_ret;exact ⟨rfl,_,⟨_,_,_,_,_,_,rfl,HP.out⟩,HS.out⟩
  ·have hne:e≠0:=by omega
   have e1:ends (e,t2)=.dead e t2.out:=by unfold ends;rw [if_neg hne]
   rw [e1];have HNE:=Lib.hid hne;clear he hne e1;go_enter Tryz.func173,Tryz.ntmps173
   go_wp2_with (first
    |(go_at_call 172;with_reducible refine HFA.out.mono ?_;rintro r w5 ⟨rfl,hD,hS5⟩)
    |(go_at_call 195;with_reducible refine HEN2.out.mono ?_;rintro r w4 ⟨rfl,q1,v2,f1,bd1,t1,o1,hP,hS⟩
      have HS:=Lib.hid (HS2.out.trans hS);have HFA:=Lib.hid (fail_any hP e HNE.out _ rfl);clear hP hS)
    |(go_at_call 196;with_reducible refine HLI2.out.mono ?_;rintro r w3 ⟨rfl,hw⟩;rw [hw];clear hw)
    |(go_at_call 194;with_reducible refine HBY.out.mono ?_;rintro r w2 ⟨v1,rfl,h2,hS2⟩
      have d25:=h2.cs.c25;have HS2:=Lib.hid hS2;have HEN2:=HEN.out w2 v1 h2;have HLI2:=HLI.out w2 v1 h2
      replace HEN2:=Lib.hid (show Calls Tryz.prog 195 #[ptr g,.string (Ln.ba ln)] w2 fun r w'=>r=.returned (.int .i64 (e:Int))∧∃q1 v2 f1 bd1 t1 o1,PR w' B g q1 v2 f1 bd1 t1 o1 p b t2∧Step (blks g q v1 f bd t o) (blks g q1 v2 f1 bd1 t1 o1) w2 w' from by rw [ba_list,HX.out] at HEN2;exact HEN2)
      rw [HLN.out] at HLI2
      replace HLI2:=Lib.hid HLI2
      clear h2 hS2 c25))
   go_ret;exact ⟨rfl,_,⟨_,rfl,hD⟩,HS.out.trans hS5⟩
 ·have HBY:=Lib.hid (show Calls Tryz.prog 194 #[ptr q,.int .u8 (c.toNat:Int)] w fun r w'=>∃v1,r=.returned (.int .i64 2)∧PR w' B g q v1 f bd t o p b {s with rd:=s.rd.byte c}∧Step (blks g q v f bd t o) (blks g q v1 f bd t o) w w' from by rw [←hhow];exact hby)
  have ok2:({s with rd:=s.rd.byte c}:T).Ok:=ok.byteR c (by rw [hhow];rfl);have hln:=line_len ok c;obtain ⟨ln,hl⟩:∃ln,(s.rd.byte c).line=ln:=⟨_,rfl⟩;rw [hl] at hln;obtain ⟨⟨e,t2⟩,hx⟩:∃x,T.line p b {s with rd:=s.rd.byte c} ln=x:=⟨_,rfl⟩;have e0:s.inLine p b c=(ends (e,t2),false):=by unfold T.inLine;dsimp only;rw [hhow,if_neg (by decide),if_neg (by decide),if_neg (by decide),hl,hx];rfl
  rw [e0]
  have HEN:=Lib.hid (fun (w2:World) (v1:Value) (h2:PR w2 B g q v1 f bd t o p b {s with rd:=s.rd.byte c})=>endLine_any hp hb0 (ba ln) (by rw [size_ba];exact hln) h2 ok2 hout)
  have HLI:=Lib.hid (fun (w2:World) (v1:Value) (h2:PR w2 B g q v1 f bd t o p b {s with rd:=s.rd.byte c})=>Ln.line_any h2.own.R.row h2.own.R.own);have HLN:=Lib.hid hl;have HX:=Lib.hid hx;have c25:=h.cs.c25;clear h hby ok2 hln hl hx e0 hhow ok;rcases Nat.eq_zero_or_pos e with he | he
  ·subst he;go_enter Tryz.func173,Tryz.ntmps173
   go_wp2_with (first
    |(go_at_call 172;with_reducible refine (HFZ.out).mono ?_;rintro r w5 ⟨rfl,hw⟩;rw [hw];clear hw)
    |(go_at_call 195;with_reducible refine HEN2.out.mono ?_;rintro r w4 ⟨rfl,q1,v2,f1,bd1,t1,o1,hP,hS⟩
      have HP:=Lib.hid hP;have HS:=Lib.hid (HS2.out.trans hS);have HFZ:=Lib.hid (fail_zero w4 g);clear hP hS)
    |(go_at_call 196;with_reducible refine HLI2.out.mono ?_;rintro r w3 ⟨rfl,hw⟩;rw [hw];clear hw)
    |(go_at_call 194;with_reducible refine HBY.out.mono ?_;rintro r w2 ⟨v1,rfl,h2,hS2⟩
      have d25:=h2.cs.c25;have HS2:=Lib.hid hS2;have HEN2:=HEN.out w2 v1 h2;have HLI2:=HLI.out w2 v1 h2
      replace HEN2:=Lib.hid (show Calls Tryz.prog 195 #[ptr g,.string (Ln.ba ln)] w2 fun r w'=>r=.returned (.int .i64 0)∧∃q1 v2 f1 bd1 t1 o1,PR w' B g q1 v2 f1 bd1 t1 o1 p b t2∧Step (blks g q v1 f bd t o) (blks g q1 v2 f1 bd1 t1 o1) w2 w' from by rw [ba_list,HX.out] at HEN2;exact HEN2)
      rw [HLN.out] at HLI2
      replace HLI2:=Lib.hid HLI2
      clear h2 hS2 c25))
   go_ret;exact ⟨rfl,_,⟨_,_,_,_,_,_,rfl,HP.out⟩,HS.out⟩
  ·have hne:e≠0:=by omega
   have e1:ends (e,t2)=.dead e t2.out:=by unfold ends;rw [if_neg hne]
   rw [e1];have HNE:=Lib.hid hne;clear he hne e1;go_enter Tryz.func173,Tryz.ntmps173
   go_wp2_with (first
    |(go_at_call 172;with_reducible refine HFA.out.mono ?_;rintro r w5 ⟨rfl,hD,hS5⟩)
    |(go_at_call 195;with_reducible refine HEN2.out.mono ?_;rintro r w4 ⟨rfl,q1,v2,f1,bd1,t1,o1,hP,hS⟩
      have HS:=Lib.hid (HS2.out.trans hS);have HFA:=Lib.hid (fail_any hP e HNE.out _ rfl);clear hP hS)
    |(go_at_call 196;with_reducible refine HLI2.out.mono ?_;rintro r w3 ⟨rfl,hw⟩;rw [hw];clear hw)
    |(go_at_call 194;with_reducible refine HBY.out.mono ?_;rintro r w2 ⟨v1,rfl,h2,hS2⟩
      have d25:=h2.cs.c25;have HS2:=Lib.hid hS2;have HEN2:=HEN.out w2 v1 h2;have HLI2:=HLI.out w2 v1 h2
      replace HEN2:=Lib.hid (show Calls Tryz.prog 195 #[ptr g,.string (Ln.ba ln)] w2 fun r w'=>r=.returned (.int .i64 (e:Int))∧∃q1 v2 f1 bd1 t1 o1,PR w' B g q1 v2 f1 bd1 t1 o1 p b t2∧Step (blks g q v1 f bd t o) (blks g q1 v2 f1 bd1 t1 o1) w2 w' from by rw [ba_list,HX.out] at HEN2;exact HEN2)
      rw [HLN.out] at HLI2
      replace HLI2:=Lib.hid HLI2
      clear h2 hS2 c25))
   go_ret;exact ⟨rfl,_,⟨_,rfl,hD⟩,HS.out.trans hS5⟩
 ·have HBY:=Lib.hid (show Calls Tryz.prog 194 #[ptr q,.int .u8 (c.toNat:Int)] w fun r w'=>∃v1,r=.returned (.int .i64 3)∧PR w' B g q v1 f bd t o p b {s with rd:=s.rd.byte c}∧Step (blks g q v f bd t o) (blks g q v1 f bd t o) w w' from by rw [←hhow];exact hby);have e0:s.inLine p b c=(.dead 400 s.out,true):=by
   unfold T.inLine;dsimp only;rw [hhow,if_neg (by decide),if_pos rfl]
  rw [e0];have c25:=h.cs.c25;clear h hby ok hout e0 hhow;go_enter Tryz.func173,Tryz.ntmps173
  go_wp2_with (first
   |(go_at_call 172;with_reducible refine HFA.out.mono ?_;rintro r w5 ⟨rfl,hD,hS5⟩)
   |(go_at_call 194;with_reducible refine HBY.out.mono ?_;rintro r w2 ⟨v1,rfl,h2,hS2⟩
     have HS2:=Lib.hid hS2;have HFA:=Lib.hid (fail_any h2 400 (by decide) 400 rfl);clear h2 hS2 c25))
  go_ret;exact ⟨rfl,_,⟨_,rfl,hD⟩,HS2.out.trans hS5⟩
 ·have HBY:=Lib.hid (show Calls Tryz.prog 194 #[ptr q,.int .u8 (c.toNat:Int)] w fun r w'=>∃v1,r=.returned (.int .i64 4)∧PR w' B g q v1 f bd t o p b {s with rd:=s.rd.byte c}∧Step (blks g q v f bd t o) (blks g q v1 f bd t o) w w' from by rw [←hhow];exact hby);have HH0:=fun w=>Qk.has_any p hp 29 w;have c25:=h.cs.c25;have e0:s.inLine p b c=(if (s.st==6&&Qk.has p 29)=true then (.live (({s with rd:=s.rd.byte c}:T).enter p 4 b.x0),false) else (.dead (longE s.st) s.out,true)):=by
   unfold T.inLine;dsimp only;rw [hhow,if_neg (by decide),if_neg (by decide),if_pos rfl]
  rw [e0]
  have HEN:=Lib.hid (fun (w2:World) (v1:Value) (h2:PR w2 B g q v1 f bd t o p b {s with rd:=s.rd.byte c})=>enter_any hp h2 4 4 rfl b.x0)
  have HTL:=Lib.hid (fun (w2:World) (v1:Value) (h2:PR w2 B g q v1 f bd t o p b {s with rd:=s.rd.byte c})=>tooLong_any h2.cs.c24)
  have hlong:longE s.st≠0:=by unfold longE;split<;>first | decide |(split<;>decide)
  have HLE:=Lib.hid hlong;clear h hby ok hout e0 hhow hlong;by_cases h6:s.st=6
  ·cases hh:Qk.has p 29 with
   | true=>
     rw [hh] at HH0;have HH:=Lib.hid HH0;have H6:=Lib.hid h6;rw [h6,if_pos (by decide)];clear HH0 hh h6;go_enter Tryz.func173,Tryz.ntmps173
     go_wp2_with (first
      |(go_at_call 93;with_reducible refine HE2.out.mono ?_;rintro r w5 ⟨rfl,q1,hP,hS5⟩)
      |(go_at_call 109;with_reducible refine (HH.out _).mono ?_;rintro r w4 ⟨rfl,hw⟩;rw [hw];clear hw)
      |(go_at_call 194;with_reducible refine HBY.out.mono ?_;rintro r w2 ⟨v1,rfl,h2,hS2⟩
        have HS2:=Lib.hid hS2;have HE2:=Lib.hid (HEN.out w2 v1 h2);have c24:w2.cell? ⟨g,24,none⟩=some (.int .i64 6):=by have:=h2.cs.c24;rw [show ({s with rd:=s.rd.byte c}:T).st=6 from H6.out] at this;exact this
        have c13:=h2.cs.c13;have c14:=h2.cs.c14;clear h2 hS2 c25))
     go_ret;exact ⟨rfl,_,⟨_,_,_,_,_,_,rfl,hP⟩,HS2.out.trans hS5⟩
   | false=>
     rw [hh] at HH0;have HH:=Lib.hid HH0;have H6:=Lib.hid h6;have e1:(s.st==6&&false)=false:=Bool.and_false _;rw [e1,if_neg (by decide)];clear HH0 hh h6 e1;go_enter Tryz.func173,Tryz.ntmps173
     go_wp2_with (first
      |(go_at_call 172;with_reducible refine HFA.out.mono ?_;rintro r w5 ⟨rfl,hD,hS5⟩)
      |(go_at_call 197;with_reducible refine HT2.out.mono ?_;rintro r w4 ⟨rfl,hw⟩;rw [hw];clear hw)
      |(go_at_call 109;with_reducible refine (HH.out _).mono ?_;rintro r w4 ⟨rfl,hw⟩;rw [hw];clear hw)
      |(go_at_call 194;with_reducible refine HBY.out.mono ?_;rintro r w2 ⟨v1,rfl,h2,hS2⟩
        have HS2:=Lib.hid hS2;have HT2:=Lib.hid (HTL.out w2 v1 h2);have HFA:=Lib.hid (fail_any h2 (longE s.st) HLE.out _ rfl);have c24:w2.cell? ⟨g,24,none⟩=some (.int .i64 6):=by have:=h2.cs.c24;rw [show ({s with rd:=s.rd.byte c}:T).st=6 from H6.out] at this;exact this
        have c13:=h2.cs.c13;clear h2 hS2 c25))
     go_ret;exact ⟨rfl,_,⟨_,rfl,hD⟩,HS2.out.trans hS5⟩
  ·have t6:((s.st:Int)==6)=false:=beq_eq_false_iff_ne.2 (by omega);have m6:¬(s.st:Int)=6:=by omega
   have m6n:¬s.st=6:=h6;rw [beq_eq_false_iff_ne.2 h6,Bool.false_and,if_neg (by decide)];clear HH0 h6;go_enter Tryz.func173,Tryz.ntmps173
   go_wp2_with (first
    |(go_at_call 172;with_reducible refine HFA.out.mono ?_;rintro r w5 ⟨rfl,hD,hS5⟩)
    |(go_at_call 197;with_reducible refine HT2.out.mono ?_;rintro r w4 ⟨rfl,hw⟩;rw [hw];clear hw)
    |(go_at_call 194;with_reducible refine HBY.out.mono ?_;rintro r w2 ⟨v1,rfl,h2,hS2⟩
      have HS2:=Lib.hid hS2;have HT2:=Lib.hid (HTL.out w2 v1 h2);have HFA:=Lib.hid (fail_any h2 (longE s.st) HLE.out _ rfl);have c24:w2.cell? ⟨g,24,none⟩=some (.int .i64 (s.st:Int)):=h2.cs.c24;clear h2 hS2 c25))
   go_ret;exact ⟨rfl,_,⟨_,rfl,hD⟩,HS2.out.trans hS5⟩
theorem look_any (hp:p<4294967296) (hb0:b.right=true) (c:UInt8) (h:PR w B g q v f bd t o p b s) (ok:s.Ok) (hout:s.out.length≤1000000000):Calls Tryz.prog 138 #[ptr g,.int .u8 (c.toNat:Int)] w fun r w'=>
 r=.returned (.bool (s.look p b c).2)∧∃L1,At w' B g p b L1 (s.look p b c).1∧Step (blks g q v f bd t o) L1 w w':=by
 have H:=Lib.hid h;have c24:=h.cs.c24;by_cases hbd:bodied s.st=true
 ·have hl:=ok.left hbd;have hbl:=ok.body
  have HK0:=keep_any c h ⟨hl,by omega⟩ (by omega)
  have HK9:=Lib.hid (fun (w2:World) (bd1:Value) (h2:PR w2 B g q v f bd1 t o p b (s.keep c))=>endData_any hp h2 hout);have hst:s.st=3∨s.st=5:=by unfold bodied at hbd;simpa using hbd
  unfold T.look;rw [if_pos hbd];clear h hb0 hbl hout ok hbd;by_cases h1:s.left=1
  ·rw [decide_eq_true h1] at HK0;have HK:=Lib.hid HK0;rw [if_pos h1];clear HK0 h1 hl;rcases hst with hst | hst
   ·rw [hst] at c24;clear hst;go_enter Tryz.func138,Tryz.ntmps138
    go_wp2_with (first
     |(go_at_call 170;with_reducible refine HED.out.mono ?_;rintro r w5 ⟨rfl,q1,v1,f1,bd2,t1,o1,hP,hS5⟩)
     |(go_at_call 169;with_reducible refine HK.out.mono ?_;rintro r w4 ⟨rfl,bd1,h2,hS2⟩
       have HS2:=Lib.hid hS2;have HED:=Lib.hid (HK9.out w4 bd1 h2);clear h2 hS2))
    go_ret;exact ⟨rfl,_,⟨_,_,_,_,_,_,rfl,hP⟩,HS2.out.trans hS5⟩
   ·rw [hst] at c24;clear hst;go_enter Tryz.func138,Tryz.ntmps138
    go_wp2_with (first
     |(go_at_call 170;with_reducible refine HED.out.mono ?_;rintro r w5 ⟨rfl,q1,v1,f1,bd2,t1,o1,hP,hS5⟩)
     |(go_at_call 169;with_reducible refine HK.out.mono ?_;rintro r w4 ⟨rfl,bd1,h2,hS2⟩
       have HS2:=Lib.hid hS2;have HED:=Lib.hid (HK9.out w4 bd1 h2);clear h2 hS2))
    go_ret;exact ⟨rfl,_,⟨_,_,_,_,_,_,rfl,hP⟩,HS2.out.trans hS5⟩
  ·rw [decide_eq_false h1] at HK0;have HK:=Lib.hid HK0;rw [if_neg h1];clear HK0 h1 hl;rcases hst with hst | hst
   ·rw [hst] at c24;clear hst;go_enter Tryz.func138,Tryz.ntmps138
    go_wp2_with (go_at_call 169;with_reducible refine HK.out.mono ?_;rintro r w4 ⟨rfl,bd1,h2,hS2⟩);go_ret;exact ⟨rfl,_,⟨_,_,_,_,_,_,rfl,h2⟩,hS2⟩
   ·rw [hst] at c24;clear hst;go_enter Tryz.func138,Tryz.ntmps138
    go_wp2_with (go_at_call 169;with_reducible refine HK.out.mono ?_;rintro r w4 ⟨rfl,bd1,h2,hS2⟩);go_ret;exact ⟨rfl,_,⟨_,_,_,_,_,_,rfl,h2⟩,hS2⟩
 ·have hbd:bodied s.st=false:=by simpa using hbd
  unfold T.look;rw [if_neg (by rw [hbd];decide)];have hn:¬s.st=3∧¬s.st=5:=by unfold bodied at hbd;simpa using hbd
  by_cases hhd:headed s.st=true
  ·rw [if_pos hhd];have hst:s.st=1∨s.st=2∨s.st=7:=by
    unfold headed at hhd;simp only [Bool.or_eq_true,beq_iff_eq] at hhd;omega
   have hsz:s.size≤1000000:=Nat.le_trans ok.size (by decide)
   have HQ:=Lib.hid ((h.drew 1).bk);clear hhd hn
   by_cases hov:b.x2<(s.counted.size:Int)
   ·rw [if_pos hov]
    have HTR:=Lib.hid (show (!decide (b.x2<(s.counted.size:Int)))=false by rw [decide_eq_true hov];rfl);clear hov h hbd hout hb0 ok;rcases hst with hst | hst | hst
    ·rw [hst] at c24;go_enter Tryz.func138,Tryz.ntmps138;go_upto_region 10 with fail
     refine Each.region 8 [23,24,25,26,27,28,29,30]
      [fun v _=>v=.pointer (some ⟨g,0,none⟩),
        fun v _=>v=.pointer (some ⟨g,0,none⟩),
        fun v _=>v=.pointer (some ⟨g,1,none⟩),
        fun v _=>v=.pointer (some ⟨g,0,none⟩),
        fun v _=>v=.pointer (some ⟨g,0,none⟩),
        fun v _=>v=.pointer (some ⟨g,14,none⟩),
        fun v _=>v=.pointer (some ⟨g,16,none⟩),
        fun v _=>v=.int .i64 b.x2]
      (.act 8 (.quiet 9 .done)) (by kernel_rfl) (by kernel_rfl) (by kernel_rfl) (by kernel_rfl) (fun _ _ d _ _ h=>by cases d<;>exact h) (by rfl) (by rfl)
      ⟨Each.Lasts.eq _,Each.Lasts.eq _,Each.Lasts.eq _,Each.Lasts.eq _,Each.Lasts.eq _,Each.Lasts.eq _,Each.Lasts.eq _,Each.Lasts.eq _,trivial⟩ ?_ ?_
     ·refine ⟨?_,?_,?_,?_,?_,?_,?_,?_,trivial⟩
      ·refine Each.fine rfl (fun ev w1 hR hb hh=>?_);clear hh;have e0:=hR.old 0 rfl;simp only [Array.getD_eq_getD_getElem?,List.getElem?_toArray,List.getElem?_cons_zero,Option.getD_some] at e0;refine Each.Goes.same ?_;go_simp;try with_reducible rfl
      ·refine Each.fine rfl (fun ev w1 hR hb hh=>?_);have e23:(ev (.tmp 23)=.pointer (some ⟨g,0,none⟩)):=hh.at 0;clear hh;refine Each.Goes.same ?_;go_simp;try with_reducible rfl
      ·refine Each.fine rfl (fun ev w1 hR hb hh=>?_);have e24:(ev (.tmp 24)=.pointer (some ⟨g,0,none⟩)):=hh.at 0;clear hh;refine Each.Goes.same ?_;go_simp;try with_reducible rfl
      ·refine Each.fine rfl (fun ev w1 hR hb hh=>?_);clear hh;have e0:=hR.old 0 rfl;simp only [Array.getD_eq_getD_getElem?,List.getElem?_toArray,List.getElem?_cons_zero,Option.getD_some] at e0;refine Each.Goes.same ?_;go_simp;try with_reducible rfl
      ·refine Each.fine rfl (fun ev w1 hR hb hh=>?_);have e26:(ev (.tmp 26)=.pointer (some ⟨g,0,none⟩)):=hh.at 0;clear hh;refine Each.Goes.same ?_;go_simp;try with_reducible rfl
      ·refine Each.fine rfl (fun ev w1 hR hb hh=>?_);have e27:(ev (.tmp 27)=.pointer (some ⟨g,0,none⟩)):=hh.at 0;clear hh;refine Each.Goes.same ?_;go_simp;try with_reducible rfl
      ·refine Each.fine rfl (fun ev w1 hR hb hh=>?_);have e28:(ev (.tmp 28)=.pointer (some ⟨g,14,none⟩)):=hh.at 0;clear hh;refine Each.Goes.same ?_;go_simp;try with_reducible rfl
      ·refine Each.fine rfl (fun ev w1 hR hb hh=>?_);have e29:(ev (.tmp 29)=.pointer (some ⟨g,16,none⟩)):=hh.at 0;clear hh;have q16:=(HQ.out.below hb).c 16 _ rfl;refine Each.Goes.same ?_;go_simp;try with_reducible rfl
     intro g1 w2 hb hf;have z25:(g1 25=.pointer (some ⟨g,1,none⟩)):=hf.at 2;have z30:(g1 30=.int .i64 b.x2):=hf.at 7;clear hf;simp only [Each.putg,Act.put,List.setIfInBounds_toArray,List.set_cons_zero,List.set_cons_succ];rw [z25,z30];simp only [Tree.grow,Tree.put1,List.getElem?_cons_zero,List.getElem?_cons_succ]
     have HS1:=Lib.hid (Step.of_below hb (L:=blks g q v f bd t o))
     have HFI:=Lib.hid (count_any b.x2 (H.out.below hb) hsz);clear hb HQ;rw [HTR.out] at HFI
     refine Tree.change (by rfl) (fun K hK=>?_)
     refine Each.oper_enter (g:=171) (args:=#[.pointer (some ⟨g,1,none⟩),.int .i64 b.x2]) (by go_simp) (HFI.out.mono ?_);rintro r w3 ⟨rfl,hP,hS⟩;refine ⟨_,rfl,?_⟩;refine hK _ _ trivial ?_;clear hK K;simp only [Act.put,List.setIfInBounds_toArray,List.set_cons_zero,List.set_cons_succ];refine Tree.quiet (by rfl) (.bool true) (fun _ _=>by go_simp) ?_;simp only [Act.put,List.setIfInBounds_toArray,List.set_cons_zero,List.set_cons_succ];refine Tree.done ?_
     have HP2:=Lib.hid hP;have HS2:=Lib.hid (HS1.out.trans hS);clear HFI HS1 hS
     have HF:=Lib.hid (fail_any hP 431 (by decide) 431 rfl);clear hP
     go_wp2_with (go_at_call 172;with_reducible refine HF.out.mono ?_;rintro r w4 ⟨rfl,hD,hS4⟩);go_ret;exact ⟨rfl,_,⟨_,rfl,by rw [counted_out] at hD;exact hD⟩,HS2.out.trans hS4⟩
    ·rw [hst] at c24;go_enter Tryz.func138,Tryz.ntmps138;go_upto_region 10 with fail
     refine Each.region 8 [23,24,25,26,27,28,29,30]
      [fun v _=>v=.pointer (some ⟨g,0,none⟩),
        fun v _=>v=.pointer (some ⟨g,0,none⟩),
        fun v _=>v=.pointer (some ⟨g,1,none⟩),
        fun v _=>v=.pointer (some ⟨g,0,none⟩),
        fun v _=>v=.pointer (some ⟨g,0,none⟩),
        fun v _=>v=.pointer (some ⟨g,14,none⟩),
        fun v _=>v=.pointer (some ⟨g,16,none⟩),
        fun v _=>v=.int .i64 b.x2]
      (.act 8 (.quiet 9 .done)) (by kernel_rfl) (by kernel_rfl) (by kernel_rfl) (by kernel_rfl) (fun _ _ d _ _ h=>by cases d<;>exact h) (by rfl) (by rfl)
      ⟨Each.Lasts.eq _,Each.Lasts.eq _,Each.Lasts.eq _,Each.Lasts.eq _,Each.Lasts.eq _,Each.Lasts.eq _,Each.Lasts.eq _,Each.Lasts.eq _,trivial⟩ ?_ ?_
     ·refine ⟨?_,?_,?_,?_,?_,?_,?_,?_,trivial⟩
      ·refine Each.fine rfl (fun ev w1 hR hb hh=>?_);clear hh;have e0:=hR.old 0 rfl;simp only [Array.getD_eq_getD_getElem?,List.getElem?_toArray,List.getElem?_cons_zero,Option.getD_some] at e0;refine Each.Goes.same ?_;go_simp;try with_reducible rfl
      ·refine Each.fine rfl (fun ev w1 hR hb hh=>?_);have e23:(ev (.tmp 23)=.pointer (some ⟨g,0,none⟩)):=hh.at 0;clear hh;refine Each.Goes.same ?_;go_simp;try with_reducible rfl
      ·refine Each.fine rfl (fun ev w1 hR hb hh=>?_);have e24:(ev (.tmp 24)=.pointer (some ⟨g,0,none⟩)):=hh.at 0;clear hh;refine Each.Goes.same ?_;go_simp;try with_reducible rfl
      ·refine Each.fine rfl (fun ev w1 hR hb hh=>?_);clear hh;have e0:=hR.old 0 rfl;simp only [Array.getD_eq_getD_getElem?,List.getElem?_toArray,List.getElem?_cons_zero,Option.getD_some] at e0;refine Each.Goes.same ?_;go_simp;try with_reducible rfl
      ·refine Each.fine rfl (fun ev w1 hR hb hh=>?_);have e26:(ev (.tmp 26)=.pointer (some ⟨g,0,none⟩)):=hh.at 0;clear hh;refine Each.Goes.same ?_;go_simp;try with_reducible rfl
      ·refine Each.fine rfl (fun ev w1 hR hb hh=>?_);have e27:(ev (.tmp 27)=.pointer (some ⟨g,0,none⟩)):=hh.at 0;clear hh;refine Each.Goes.same ?_;go_simp;try with_reducible rfl
      ·refine Each.fine rfl (fun ev w1 hR hb hh=>?_);have e28:(ev (.tmp 28)=.pointer (some ⟨g,14,none⟩)):=hh.at 0;clear hh;refine Each.Goes.same ?_;go_simp;try with_reducible rfl
      ·refine Each.fine rfl (fun ev w1 hR hb hh=>?_);have e29:(ev (.tmp 29)=.pointer (some ⟨g,16,none⟩)):=hh.at 0;clear hh;have q16:=(HQ.out.below hb).c 16 _ rfl;refine Each.Goes.same ?_;go_simp;try with_reducible rfl
     intro g1 w2 hb hf;have z25:(g1 25=.pointer (some ⟨g,1,none⟩)):=hf.at 2;have z30:(g1 30=.int .i64 b.x2):=hf.at 7;clear hf;simp only [Each.putg,Act.put,List.setIfInBounds_toArray,List.set_cons_zero,List.set_cons_succ];rw [z25,z30];simp only [Tree.grow,Tree.put1,List.getElem?_cons_zero,List.getElem?_cons_succ]
     have HS1:=Lib.hid (Step.of_below hb (L:=blks g q v f bd t o))
     have HFI:=Lib.hid (count_any b.x2 (H.out.below hb) hsz);clear hb HQ;rw [HTR.out] at HFI
     refine Tree.change (by rfl) (fun K hK=>?_)
     refine Each.oper_enter (g:=171) (args:=#[.pointer (some ⟨g,1,none⟩),.int .i64 b.x2]) (by go_simp) (HFI.out.mono ?_);rintro r w3 ⟨rfl,hP,hS⟩;refine ⟨_,rfl,?_⟩;refine hK _ _ trivial ?_;clear hK K;simp only [Act.put,List.setIfInBounds_toArray,List.set_cons_zero,List.set_cons_succ];refine Tree.quiet (by rfl) (.bool true) (fun _ _=>by go_simp) ?_;simp only [Act.put,List.setIfInBounds_toArray,List.set_cons_zero,List.set_cons_succ];refine Tree.done ?_
     have HP2:=Lib.hid hP;have HS2:=Lib.hid (HS1.out.trans hS);clear HFI HS1 hS
     have HF:=Lib.hid (fail_any hP 431 (by decide) 431 rfl);clear hP
     go_wp2_with (go_at_call 172;with_reducible refine HF.out.mono ?_;rintro r w4 ⟨rfl,hD,hS4⟩);go_ret;exact ⟨rfl,_,⟨_,rfl,by rw [counted_out] at hD;exact hD⟩,HS2.out.trans hS4⟩
    ·rw [hst] at c24;go_enter Tryz.func138,Tryz.ntmps138;go_upto_region 10 with fail
     refine Each.region 8 [23,24,25,26,27,28,29,30]
      [fun v _=>v=.pointer (some ⟨g,0,none⟩),
        fun v _=>v=.pointer (some ⟨g,0,none⟩),
        fun v _=>v=.pointer (some ⟨g,1,none⟩),
        fun v _=>v=.pointer (some ⟨g,0,none⟩),
        fun v _=>v=.pointer (some ⟨g,0,none⟩),
        fun v _=>v=.pointer (some ⟨g,14,none⟩),
        fun v _=>v=.pointer (some ⟨g,16,none⟩),
        fun v _=>v=.int .i64 b.x2]
      (.act 8 (.quiet 9 .done)) (by kernel_rfl) (by kernel_rfl) (by kernel_rfl) (by kernel_rfl) (fun _ _ d _ _ h=>by cases d<;>exact h) (by rfl) (by rfl)
      ⟨Each.Lasts.eq _,Each.Lasts.eq _,Each.Lasts.eq _,Each.Lasts.eq _,Each.Lasts.eq _,Each.Lasts.eq _,Each.Lasts.eq _,Each.Lasts.eq _,trivial⟩ ?_ ?_
     ·refine ⟨?_,?_,?_,?_,?_,?_,?_,?_,trivial⟩
      ·refine Each.fine rfl (fun ev w1 hR hb hh=>?_);clear hh;have e0:=hR.old 0 rfl;simp only [Array.getD_eq_getD_getElem?,List.getElem?_toArray,List.getElem?_cons_zero,Option.getD_some] at e0;refine Each.Goes.same ?_;go_simp;try with_reducible rfl
      ·refine Each.fine rfl (fun ev w1 hR hb hh=>?_);have e23:(ev (.tmp 23)=.pointer (some ⟨g,0,none⟩)):=hh.at 0;clear hh;refine Each.Goes.same ?_;go_simp;try with_reducible rfl
      ·refine Each.fine rfl (fun ev w1 hR hb hh=>?_);have e24:(ev (.tmp 24)=.pointer (some ⟨g,0,none⟩)):=hh.at 0;clear hh;refine Each.Goes.same ?_;go_simp;try with_reducible rfl
      ·refine Each.fine rfl (fun ev w1 hR hb hh=>?_);clear hh;have e0:=hR.old 0 rfl;simp only [Array.getD_eq_getD_getElem?,List.getElem?_toArray,List.getElem?_cons_zero,Option.getD_some] at e0;refine Each.Goes.same ?_;go_simp;try with_reducible rfl
      ·refine Each.fine rfl (fun ev w1 hR hb hh=>?_);have e26:(ev (.tmp 26)=.pointer (some ⟨g,0,none⟩)):=hh.at 0;clear hh;refine Each.Goes.same ?_;go_simp;try with_reducible rfl
      ·refine Each.fine rfl (fun ev w1 hR hb hh=>?_);have e27:(ev (.tmp 27)=.pointer (some ⟨g,0,none⟩)):=hh.at 0;clear hh;refine Each.Goes.same ?_;go_simp;try with_reducible rfl
      ·refine Each.fine rfl (fun ev w1 hR hb hh=>?_);have e28:(ev (.tmp 28)=.pointer (some ⟨g,14,none⟩)):=hh.at 0;clear hh;refine Each.Goes.same ?_;go_simp;try with_reducible rfl
      ·refine Each.fine rfl (fun ev w1 hR hb hh=>?_);have e29:(ev (.tmp 29)=.pointer (some ⟨g,16,none⟩)):=hh.at 0;clear hh;have q16:=(HQ.out.below hb).c 16 _ rfl;refine Each.Goes.same ?_;go_simp;try with_reducible rfl
     intro g1 w2 hb hf;have z25:(g1 25=.pointer (some ⟨g,1,none⟩)):=hf.at 2;have z30:(g1 30=.int .i64 b.x2):=hf.at 7;clear hf;simp only [Each.putg,Act.put,List.setIfInBounds_toArray,List.set_cons_zero,List.set_cons_succ];rw [z25,z30];simp only [Tree.grow,Tree.put1,List.getElem?_cons_zero,List.getElem?_cons_succ]
     have HS1:=Lib.hid (Step.of_below hb (L:=blks g q v f bd t o))
     have HFI:=Lib.hid (count_any b.x2 (H.out.below hb) hsz);clear hb HQ;rw [HTR.out] at HFI
     refine Tree.change (by rfl) (fun K hK=>?_)
     refine Each.oper_enter (g:=171) (args:=#[.pointer (some ⟨g,1,none⟩),.int .i64 b.x2]) (by go_simp) (HFI.out.mono ?_);rintro r w3 ⟨rfl,hP,hS⟩;refine ⟨_,rfl,?_⟩;refine hK _ _ trivial ?_;clear hK K;simp only [Act.put,List.setIfInBounds_toArray,List.set_cons_zero,List.set_cons_succ];refine Tree.quiet (by rfl) (.bool true) (fun _ _=>by go_simp) ?_;simp only [Act.put,List.setIfInBounds_toArray,List.set_cons_zero,List.set_cons_succ];refine Tree.done ?_
     have HP2:=Lib.hid hP;have HS2:=Lib.hid (HS1.out.trans hS);clear HFI HS1 hS
     have HF:=Lib.hid (fail_any hP 431 (by decide) 431 rfl);clear hP
     go_wp2_with (go_at_call 172;with_reducible refine HF.out.mono ?_;rintro r w4 ⟨rfl,hD,hS4⟩);go_ret;exact ⟨rfl,_,⟨_,rfl,by rw [counted_out] at hD;exact hD⟩,HS2.out.trans hS4⟩
   ·rw [if_neg hov]
    have HTR:=Lib.hid (show (!decide (b.x2<(s.counted.size:Int)))=true by rw [decide_eq_false hov];rfl);clear h hbd;rcases hst with hst | hst | hst
    ·rw [hst] at c24;go_enter Tryz.func138,Tryz.ntmps138;go_upto_region 10 with fail
     refine Each.region 8 [23,24,25,26,27,28,29,30]
      [fun v _=>v=.pointer (some ⟨g,0,none⟩),
        fun v _=>v=.pointer (some ⟨g,0,none⟩),
        fun v _=>v=.pointer (some ⟨g,1,none⟩),
        fun v _=>v=.pointer (some ⟨g,0,none⟩),
        fun v _=>v=.pointer (some ⟨g,0,none⟩),
        fun v _=>v=.pointer (some ⟨g,14,none⟩),
        fun v _=>v=.pointer (some ⟨g,16,none⟩),
        fun v _=>v=.int .i64 b.x2]
      (.act 8 (.quiet 9 .done)) (by kernel_rfl) (by kernel_rfl) (by kernel_rfl) (by kernel_rfl) (fun _ _ d _ _ h=>by cases d<;>exact h) (by rfl) (by rfl)
      ⟨Each.Lasts.eq _,Each.Lasts.eq _,Each.Lasts.eq _,Each.Lasts.eq _,Each.Lasts.eq _,Each.Lasts.eq _,Each.Lasts.eq _,Each.Lasts.eq _,trivial⟩ ?_ ?_
     ·refine ⟨?_,?_,?_,?_,?_,?_,?_,?_,trivial⟩
      ·refine Each.fine rfl (fun ev w1 hR hb hh=>?_);clear hh;have e0:=hR.old 0 rfl;simp only [Array.getD_eq_getD_getElem?,List.getElem?_toArray,List.getElem?_cons_zero,Option.getD_some] at e0;refine Each.Goes.same ?_;go_simp;try with_reducible rfl
      ·refine Each.fine rfl (fun ev w1 hR hb hh=>?_);have e23:(ev (.tmp 23)=.pointer (some ⟨g,0,none⟩)):=hh.at 0;clear hh;refine Each.Goes.same ?_;go_simp;try with_reducible rfl
      ·refine Each.fine rfl (fun ev w1 hR hb hh=>?_);have e24:(ev (.tmp 24)=.pointer (some ⟨g,0,none⟩)):=hh.at 0;clear hh;refine Each.Goes.same ?_;go_simp;try with_reducible rfl
      ·refine Each.fine rfl (fun ev w1 hR hb hh=>?_);clear hh;have e0:=hR.old 0 rfl;simp only [Array.getD_eq_getD_getElem?,List.getElem?_toArray,List.getElem?_cons_zero,Option.getD_some] at e0;refine Each.Goes.same ?_;go_simp;try with_reducible rfl
      ·refine Each.fine rfl (fun ev w1 hR hb hh=>?_);have e26:(ev (.tmp 26)=.pointer (some ⟨g,0,none⟩)):=hh.at 0;clear hh;refine Each.Goes.same ?_;go_simp;try with_reducible rfl
      ·refine Each.fine rfl (fun ev w1 hR hb hh=>?_);have e27:(ev (.tmp 27)=.pointer (some ⟨g,0,none⟩)):=hh.at 0;clear hh;refine Each.Goes.same ?_;go_simp;try with_reducible rfl
      ·refine Each.fine rfl (fun ev w1 hR hb hh=>?_);have e28:(ev (.tmp 28)=.pointer (some ⟨g,14,none⟩)):=hh.at 0;clear hh;refine Each.Goes.same ?_;go_simp;try with_reducible rfl
      ·refine Each.fine rfl (fun ev w1 hR hb hh=>?_);have e29:(ev (.tmp 29)=.pointer (some ⟨g,16,none⟩)):=hh.at 0;clear hh;have q16:=(HQ.out.below hb).c 16 _ rfl;refine Each.Goes.same ?_;go_simp;try with_reducible rfl
     intro g1 w2 hb hf;have z25:(g1 25=.pointer (some ⟨g,1,none⟩)):=hf.at 2;have z30:(g1 30=.int .i64 b.x2):=hf.at 7;clear hf;simp only [Each.putg,Act.put,List.setIfInBounds_toArray,List.set_cons_zero,List.set_cons_succ];rw [z25,z30];simp only [Tree.grow,Tree.put1,List.getElem?_cons_zero,List.getElem?_cons_succ]
     have HS1:=Lib.hid (Step.of_below hb (L:=blks g q v f bd t o))
     have HFI:=Lib.hid (count_any b.x2 (H.out.below hb) hsz);clear hb HQ;rw [HTR.out] at HFI
     refine Tree.change (by rfl) (fun K hK=>?_)
     refine Each.oper_enter (g:=171) (args:=#[.pointer (some ⟨g,1,none⟩),.int .i64 b.x2]) (by go_simp) (HFI.out.mono ?_);rintro r w3 ⟨rfl,hP,hS⟩;refine ⟨_,rfl,?_⟩;refine hK _ _ trivial ?_;clear hK K;simp only [Act.put,List.setIfInBounds_toArray,List.set_cons_zero,List.set_cons_succ];refine Tree.quiet (by rfl) (.bool false) (fun _ _=>by go_simp) ?_;simp only [Act.put,List.setIfInBounds_toArray,List.set_cons_zero,List.set_cons_succ];refine Tree.done ?_
     have HP2:=Lib.hid hP;have HS2:=Lib.hid (HS1.out.trans hS);clear HFI HS1 hS
     have HI:=Lib.hid (inLine_any hp hb0 c hP (ok.counted hb0 hov) (by rw [counted_out];exact hout));clear hP
     go_wp2_with (go_at_call 173;with_reducible refine HI.out.mono ?_;rintro r w4 ⟨rfl,L4,hA,hS4⟩);go_ret;exact ⟨rfl,L4,hA,HS2.out.trans hS4⟩
    ·rw [hst] at c24;go_enter Tryz.func138,Tryz.ntmps138;go_upto_region 10 with fail
     refine Each.region 8 [23,24,25,26,27,28,29,30]
      [fun v _=>v=.pointer (some ⟨g,0,none⟩),
        fun v _=>v=.pointer (some ⟨g,0,none⟩),
        fun v _=>v=.pointer (some ⟨g,1,none⟩),
        fun v _=>v=.pointer (some ⟨g,0,none⟩),
        fun v _=>v=.pointer (some ⟨g,0,none⟩),
        fun v _=>v=.pointer (some ⟨g,14,none⟩),
        fun v _=>v=.pointer (some ⟨g,16,none⟩),
        fun v _=>v=.int .i64 b.x2]
      (.act 8 (.quiet 9 .done)) (by kernel_rfl) (by kernel_rfl) (by kernel_rfl) (by kernel_rfl) (fun _ _ d _ _ h=>by cases d<;>exact h) (by rfl) (by rfl)
      ⟨Each.Lasts.eq _,Each.Lasts.eq _,Each.Lasts.eq _,Each.Lasts.eq _,Each.Lasts.eq _,Each.Lasts.eq _,Each.Lasts.eq _,Each.Lasts.eq _,trivial⟩ ?_ ?_
     ·refine ⟨?_,?_,?_,?_,?_,?_,?_,?_,trivial⟩
      ·refine Each.fine rfl (fun ev w1 hR hb hh=>?_);clear hh;have e0:=hR.old 0 rfl;simp only [Array.getD_eq_getD_getElem?,List.getElem?_toArray,List.getElem?_cons_zero,Option.getD_some] at e0;refine Each.Goes.same ?_;go_simp;try with_reducible rfl
      ·refine Each.fine rfl (fun ev w1 hR hb hh=>?_);have e23:(ev (.tmp 23)=.pointer (some ⟨g,0,none⟩)):=hh.at 0;clear hh;refine Each.Goes.same ?_;go_simp;try with_reducible rfl
      ·refine Each.fine rfl (fun ev w1 hR hb hh=>?_);have e24:(ev (.tmp 24)=.pointer (some ⟨g,0,none⟩)):=hh.at 0;clear hh;refine Each.Goes.same ?_;go_simp;try with_reducible rfl
      ·refine Each.fine rfl (fun ev w1 hR hb hh=>?_);clear hh;have e0:=hR.old 0 rfl;simp only [Array.getD_eq_getD_getElem?,List.getElem?_toArray,List.getElem?_cons_zero,Option.getD_some] at e0;refine Each.Goes.same ?_;go_simp;try with_reducible rfl
      ·refine Each.fine rfl (fun ev w1 hR hb hh=>?_);have e26:(ev (.tmp 26)=.pointer (some ⟨g,0,none⟩)):=hh.at 0;clear hh;refine Each.Goes.same ?_;go_simp;try with_reducible rfl
      ·refine Each.fine rfl (fun ev w1 hR hb hh=>?_);have e27:(ev (.tmp 27)=.pointer (some ⟨g,0,none⟩)):=hh.at 0;clear hh;refine Each.Goes.same ?_;go_simp;try with_reducible rfl
      ·refine Each.fine rfl (fun ev w1 hR hb hh=>?_);have e28:(ev (.tmp 28)=.pointer (some ⟨g,14,none⟩)):=hh.at 0;clear hh;refine Each.Goes.same ?_;go_simp;try with_reducible rfl
      ·refine Each.fine rfl (fun ev w1 hR hb hh=>?_);have e29:(ev (.tmp 29)=.pointer (some ⟨g,16,none⟩)):=hh.at 0;clear hh;have q16:=(HQ.out.below hb).c 16 _ rfl;refine Each.Goes.same ?_;go_simp;try with_reducible rfl
     intro g1 w2 hb hf;have z25:(g1 25=.pointer (some ⟨g,1,none⟩)):=hf.at 2;have z30:(g1 30=.int .i64 b.x2):=hf.at 7;clear hf;simp only [Each.putg,Act.put,List.setIfInBounds_toArray,List.set_cons_zero,List.set_cons_succ];rw [z25,z30];simp only [Tree.grow,Tree.put1,List.getElem?_cons_zero,List.getElem?_cons_succ]
     have HS1:=Lib.hid (Step.of_below hb (L:=blks g q v f bd t o))
     have HFI:=Lib.hid (count_any b.x2 (H.out.below hb) hsz);clear hb HQ;rw [HTR.out] at HFI
     refine Tree.change (by rfl) (fun K hK=>?_)
     refine Each.oper_enter (g:=171) (args:=#[.pointer (some ⟨g,1,none⟩),.int .i64 b.x2]) (by go_simp) (HFI.out.mono ?_);rintro r w3 ⟨rfl,hP,hS⟩;refine ⟨_,rfl,?_⟩;refine hK _ _ trivial ?_;clear hK K;simp only [Act.put,List.setIfInBounds_toArray,List.set_cons_zero,List.set_cons_succ];refine Tree.quiet (by rfl) (.bool false) (fun _ _=>by go_simp) ?_;simp only [Act.put,List.setIfInBounds_toArray,List.set_cons_zero,List.set_cons_succ];refine Tree.done ?_
     have HP2:=Lib.hid hP;have HS2:=Lib.hid (HS1.out.trans hS);clear HFI HS1 hS
     have HI:=Lib.hid (inLine_any hp hb0 c hP (ok.counted hb0 hov) (by rw [counted_out];exact hout));clear hP
     go_wp2_with (go_at_call 173;with_reducible refine HI.out.mono ?_;rintro r w4 ⟨rfl,L4,hA,hS4⟩);go_ret;exact ⟨rfl,L4,hA,HS2.out.trans hS4⟩
    ·rw [hst] at c24;go_enter Tryz.func138,Tryz.ntmps138;go_upto_region 10 with fail
     refine Each.region 8 [23,24,25,26,27,28,29,30]
      [fun v _=>v=.pointer (some ⟨g,0,none⟩),
        fun v _=>v=.pointer (some ⟨g,0,none⟩),
        fun v _=>v=.pointer (some ⟨g,1,none⟩),
        fun v _=>v=.pointer (some ⟨g,0,none⟩),
        fun v _=>v=.pointer (some ⟨g,0,none⟩),
        fun v _=>v=.pointer (some ⟨g,14,none⟩),
        fun v _=>v=.pointer (some ⟨g,16,none⟩),
        fun v _=>v=.int .i64 b.x2]
      (.act 8 (.quiet 9 .done)) (by kernel_rfl) (by kernel_rfl) (by kernel_rfl) (by kernel_rfl) (fun _ _ d _ _ h=>by cases d<;>exact h) (by rfl) (by rfl)
      ⟨Each.Lasts.eq _,Each.Lasts.eq _,Each.Lasts.eq _,Each.Lasts.eq _,Each.Lasts.eq _,Each.Lasts.eq _,Each.Lasts.eq _,Each.Lasts.eq _,trivial⟩ ?_ ?_
     ·refine ⟨?_,?_,?_,?_,?_,?_,?_,?_,trivial⟩
      ·refine Each.fine rfl (fun ev w1 hR hb hh=>?_);clear hh;have e0:=hR.old 0 rfl;simp only [Array.getD_eq_getD_getElem?,List.getElem?_toArray,List.getElem?_cons_zero,Option.getD_some] at e0;refine Each.Goes.same ?_;go_simp;try with_reducible rfl
      ·refine Each.fine rfl (fun ev w1 hR hb hh=>?_);have e23:(ev (.tmp 23)=.pointer (some ⟨g,0,none⟩)):=hh.at 0;clear hh;refine Each.Goes.same ?_;go_simp;try with_reducible rfl
      ·refine Each.fine rfl (fun ev w1 hR hb hh=>?_);have e24:(ev (.tmp 24)=.pointer (some ⟨g,0,none⟩)):=hh.at 0;clear hh;refine Each.Goes.same ?_;go_simp;try with_reducible rfl
      ·refine Each.fine rfl (fun ev w1 hR hb hh=>?_);clear hh;have e0:=hR.old 0 rfl;simp only [Array.getD_eq_getD_getElem?,List.getElem?_toArray,List.getElem?_cons_zero,Option.getD_some] at e0;refine Each.Goes.same ?_;go_simp;try with_reducible rfl
      ·refine Each.fine rfl (fun ev w1 hR hb hh=>?_);have e26:(ev (.tmp 26)=.pointer (some ⟨g,0,none⟩)):=hh.at 0;clear hh;refine Each.Goes.same ?_;go_simp;try with_reducible rfl
      ·refine Each.fine rfl (fun ev w1 hR hb hh=>?_);have e27:(ev (.tmp 27)=.pointer (some ⟨g,0,none⟩)):=hh.at 0;clear hh;refine Each.Goes.same ?_;go_simp;try with_reducible rfl
      ·refine Each.fine rfl (fun ev w1 hR hb hh=>?_);have e28:(ev (.tmp 28)=.pointer (some ⟨g,14,none⟩)):=hh.at 0;clear hh;refine Each.Goes.same ?_;go_simp;try with_reducible rfl
      ·refine Each.fine rfl (fun ev w1 hR hb hh=>?_);have e29:(ev (.tmp 29)=.pointer (some ⟨g,16,none⟩)):=hh.at 0;clear hh;have q16:=(HQ.out.below hb).c 16 _ rfl;refine Each.Goes.same ?_;go_simp;try with_reducible rfl
     intro g1 w2 hb hf;have z25:(g1 25=.pointer (some ⟨g,1,none⟩)):=hf.at 2;have z30:(g1 30=.int .i64 b.x2):=hf.at 7;clear hf;simp only [Each.putg,Act.put,List.setIfInBounds_toArray,List.set_cons_zero,List.set_cons_succ];rw [z25,z30];simp only [Tree.grow,Tree.put1,List.getElem?_cons_zero,List.getElem?_cons_succ]
     have HS1:=Lib.hid (Step.of_below hb (L:=blks g q v f bd t o))
     have HFI:=Lib.hid (count_any b.x2 (H.out.below hb) hsz);clear hb HQ;rw [HTR.out] at HFI
     refine Tree.change (by rfl) (fun K hK=>?_)
     refine Each.oper_enter (g:=171) (args:=#[.pointer (some ⟨g,1,none⟩),.int .i64 b.x2]) (by go_simp) (HFI.out.mono ?_);rintro r w3 ⟨rfl,hP,hS⟩;refine ⟨_,rfl,?_⟩;refine hK _ _ trivial ?_;clear hK K;simp only [Act.put,List.setIfInBounds_toArray,List.set_cons_zero,List.set_cons_succ];refine Tree.quiet (by rfl) (.bool false) (fun _ _=>by go_simp) ?_;simp only [Act.put,List.setIfInBounds_toArray,List.set_cons_zero,List.set_cons_succ];refine Tree.done ?_
     have HP2:=Lib.hid hP;have HS2:=Lib.hid (HS1.out.trans hS);clear HFI HS1 hS
     have HI:=Lib.hid (inLine_any hp hb0 c hP (ok.counted hb0 hov) (by rw [counted_out];exact hout));clear hP
     go_wp2_with (go_at_call 173;with_reducible refine HI.out.mono ?_;rintro r w4 ⟨rfl,L4,hA,hS4⟩);go_ret;exact ⟨rfl,L4,hA,HS2.out.trans hS4⟩
  ·rw [if_neg hhd];have hn2:¬s.st=1∧¬s.st=2∧¬s.st=7:=by
    unfold headed at hhd;simp only [Bool.or_eq_true,beq_iff_eq] at hhd;omega
   have t1:((s.st:Int)==1)=false:=beq_eq_false_iff_ne.2 (by omega);have m1:¬(s.st:Int)=1:=by omega
   have t2:((s.st:Int)==2)=false:=beq_eq_false_iff_ne.2 (by omega);have m2:¬(s.st:Int)=2:=by omega
   have t3:((s.st:Int)==3)=false:=beq_eq_false_iff_ne.2 (by omega);have m3:¬(s.st:Int)=3:=by omega
   have t5:((s.st:Int)==5)=false:=beq_eq_false_iff_ne.2 (by omega);have m5:¬(s.st:Int)=5:=by omega
   have t7:((s.st:Int)==7)=false:=beq_eq_false_iff_ne.2 (by omega);have m7:¬(s.st:Int)=7:=by omega
   have HI:=Lib.hid (inLine_any hp hb0 c h ok hout);clear h hbd ok hout hb0 hhd hn hn2;go_enter Tryz.func138,Tryz.ntmps138
   go_wp2_with (go_at_call 173;with_reducible refine HI.out.mono ?_;rintro r w4 ⟨rfl,L4,hA,hS4⟩);go_ret;exact ⟨rfl,L4,hA,hS4⟩
end code
end Go.Proofs.YtldhlecknfomjaaGreatDoor.Pg
namespace Go.Proofs.YtldhlecknfomjaaGreatDoor.Pg
open Go.RowKit Base Txt Mem Par
def Q.Ok (b:Bd):Q→Prop
 | .live t=>t.Ok∧b.right=true
 | .dead _ _=>True
section
variable {p:Nat} {b:Bd} {t t':T} {s:List UInt8}
theorem line_out (t:T) (s:List UInt8):(t.line p b s).2.out.length≤t.out.length+1:=by
 have hf:t.fin.out.length≤t.out.length+1:=by show (t.out ++ [t.r]).length≤_;simp
 unfold T.line T.first T.fields T.endHead T.chunk T.trail;split
 ·split
  ·exact Nat.le_succ _
  ·dsimp only;split<;>exact Nat.le_succ _
 ·split
  ·split
   ·dsimp only;split
    ·exact Nat.le_succ _
    ·split
     ·exact Nat.le_succ _
     ·split
      ·exact hf
      ·exact Nat.le_succ _
   ·exact Nat.le_succ _
  ·split
   ·dsimp only;split
    ·exact Nat.le_succ _
    ·split
     ·exact Nat.le_succ _
     ·split<;>exact Nat.le_succ _
   ·split
    ·split
     ·exact hf
     ·exact Nat.le_succ _
    ·exact Nat.le_succ _
theorem inLine_out (t:T) (c:UInt8):(t.inLine p b c).1.out.length≤t.out.length+1:=by
 unfold T.inLine;dsimp only;split
 ·exact Nat.le_succ _
 ·split
  ·exact Nat.le_succ _
  ·split
   ·split<;>exact Nat.le_succ _
   ·have h:=line_out (p:=p) (b:=b) {t with rd:=t.rd.byte c} (t.rd.byte c).line;unfold ends;split<;>exact h
theorem look_out (t:T) (c:UInt8):(t.look p b c).1.out.length≤t.out.length+1:=by
 unfold T.look;split
 ·split
  ·show (T.endData p (t.keep c)).out.length≤_;unfold T.endData;split
   ·exact Nat.le_succ _
   ·show (t.out ++ [_]).length≤_;simp
  ·exact Nat.le_succ _
 ·split
  ·split
   ·exact Nat.le_succ _
   ·have h:=inLine_out (p:=p) (b:=b) t.counted c;rw [counted_out] at h;exact h
  ·exact inLine_out t c
theorem take_out (t:T) (c:UInt8):(t.take p b c).out.length≤t.out.length+2:=by
 have h:=look_out (p:=p) (b:=b) {t with cnt:=false} c;have e:({t with cnt:=false}:T).out=t.out:=rfl;rw [e] at h;unfold T.take;rcases hx:({t with cnt:=false}:T).look p b c with ⟨t1 | ⟨e,o⟩,u⟩
 ·rw [hx] at h;have h:t1.out.length≤t.out.length+1:=h;cases u with
  | true=>show t1.out.length≤_;omega
  | false=>
    have h2:=look_out (p:=p) (b:=b) t1 c;show (t1.look p b c).1.out.length≤_;omega
 ·rw [hx] at h;have h:o.length≤t.out.length+1:=h
  cases u<;> (show o.length≤_;omega)
theorem Q.byte_out (x:Q) (c:UInt8):(x.byte p b c).out.length≤x.out.length+2:=by
 cases x with
 | live t=>exact take_out t c
 | dead e o=>show o.length≤o.length+2;omega
theorem Q.feed_out:∀(l:List UInt8) (x:Q),(x.feed p b l).out.length≤x.out.length+2*l.length
 | [],_=>Nat.le_refl _
 | c::l,x=>by
   have h1:=Q.byte_out (p:=p) (b:=b) x c
   have h2:=Q.feed_out l (x.byte p b c);rw [feed_cons,List.length_cons];omega
theorem Q.Ok.byte {x:Q} (h:x.Ok b) (c:UInt8):(x.byte p b c).Ok b:=by
 cases x with
 | live t=>
   show (t.take p b c).Ok b;rcases hx:t.take p b c with t1 | ⟨e,o⟩
   ·exact ⟨T.Ok.take h.1 h.2 c hx,h.2⟩
   ·trivial
 | dead e o=>trivial
theorem Q.Ok.feed:∀(l:List UInt8) {x:Q},x.Ok b→(x.feed p b l).Ok b
 | [],_,h=>h
 | c::l,_,h=>Q.Ok.feed l (h.byte c)
end
structure Bts (L:List (Option Nat)) (w:World) (a:Option Addr) (l:List UInt8):Prop where
 nums:Nums .u8 w a l.length (l.map fun c=>(c.toNat:Int))
 far:∀ad,a=some ad→some ad.block∉L∧ad.block<w.heap.size
structure Parts (L:List (Option Nat)) (w:World) (a:Option Addr) (ls:List (List UInt8)):Prop where
 cells:0<ls.length→∃bk off,a=some ⟨bk,off,none⟩∧bk<w.heap.size∧some bk∉L∧∀k (hk:k<ls.length),∃ak ck,w.cell? ⟨bk,off+k,none⟩=some (.slice ak ls[k].length ck)∧Bts L w ak ls[k]
theorem Bts.step {L L':List (Option Nat)} {w w':World} {a:Option Addr} {l:List UInt8} (h:Bts L w a l) (hs:Step L L' w w'):Bts L' w' a l:=by
 refine ⟨nums_keeps h.nums hs.keeps (fun c=>?_),fun ad e=>⟨fun hm=>?_,Nat.lt_of_lt_of_le (h.far ad e).2 hs.keeps.size⟩⟩
 ·cases ha:a with
  | none=>exact .inl rfl
  | some ad=>exact .inr ⟨ad.block,rfl,(h.far ad ha).1⟩
 ·rcases hs.of _ hm with h1 | h1
  ·exact (h.far ad e).1 h1
  ·have:=(h.far ad e).2;omega
theorem Parts.step {L L':List (Option Nat)} {w w':World} {a:Option Addr} {ls:List (List UInt8)} (h:Parts L w a ls) (hs:Step L L' w w'):Parts L' w' a ls:=by
 refine ⟨fun h0=>?_⟩;obtain ⟨bk,off,e,hlt,hn,hc⟩:=h.cells h0;refine ⟨bk,off,e,Nat.lt_of_lt_of_le hlt hs.keeps.size,fun hm=>?_,fun k hk=>?_⟩
 ·rcases hs.of _ hm with h1 | h1
  ·exact hn h1
  ·omega
 ·obtain ⟨ak,ck,h1,h2⟩:=hc k hk;exact ⟨ak,ck,(hs.keeps.cell (p:=⟨bk,off+k,none⟩) hlt hn).trans h1,h2.step hs⟩
section code
set_option maxHeartbeats 4000000
set_option maxRecDepth 20000
attribute [local go_sem] Base.some_undef
variable {w:World} {B:Zone} {g q:Nat} {v f bd t o:Value} {p:Nat} {b:Bd} {s:T}
theorem Dead.cell0 {e:Nat} {out:List Rec.R} (h:Dead w B g e o out):w.cell? ⟨g,0,none⟩=some (.int .i64 (e:Int)):=row_cellL h.row rfl
theorem Dead.put {e:Nat} {out:List Rec.R} (h:Dead w B g e o out) (k:Nat) (u:Value) (o':Value) (out':List Rec.R) (hc:(deadcells e o).set k u=deadcells e o') (hO:Outs [some g,o'.ownBlock] B (w.setCell ⟨g,k,none⟩ u) o' out') (hn:o'.ownBlock≠some g) (hz:o'.ownBlock=none∨o'.ownBlock=o.ownBlock):Dead (w.setCell ⟨g,k,none⟩ u) B g e o' out':=
 ⟨by rw [←hc];exact row_setL h.row k u,hO,hn,h.ge,by simpa using h.lt,h.bad,h.zone.of (by simp) fun k hk=>.inl (by
   rcases (by simpa using hk:k=g∨some k=o'.ownBlock) with e | e
   ·simp [e]
   ·rcases hz with z | z
    ·rw [z] at e;cases e
    ·rw [←z,←e];simp)⟩
theorem Dead.same {e:Nat} {out:List Rec.R} (h:Dead w B g e o out) (k:Nat) (u:Value) (hc:(deadcells e o).set k u=deadcells e o):Dead (w.setCell ⟨g,k,none⟩ u) B g e o out:=
 h.put k u o out hc (h.O.keeps (Keeps.set g k u (List.mem_singleton.2 rfl)) (fun k hk=>by simp only [List.mem_singleton] at hk;simp [hk]) (fun k e hm=>h.ne (by rw [e,List.mem_singleton.1 hm]))) h.ne (.inr rfl)
theorem take_any (hp:p<4294967296) (c:UInt8) (x:Q) {L:List (Option Nat)} (h:At w B g p b L x) (ok:x.Ok b) (hout:x.out.length≤999999998):Calls Tryz.prog 96 #[ptr g,.int .u8 (c.toNat:Int)] w fun r w'=>
 r=.returned (.tuple #[])∧∃L',At w' B g p b L' (x.byte p b c)∧Step L L' w w':=by
 cases x with
 | dead e out=>
   obtain ⟨o,rfl,hd⟩:=h
   have H1:=Lib.hid (hd.same 7 (.bool false) rfl)
   have HS1:=Lib.hid (Step.set (w:=w) (L:= [some g,o.ownBlock]) g 7 (.bool false) (by simp));have HB:=Lib.hid hd.bad;have c7:=row_cellL hd.row (k:=7) rfl;have z7:=Ln.row_frozen hd.row 7;clear hd ok hout;go_enter Tryz.func96,Tryz.ntmps96;go_upto_region 1 with fail
   generalize w.setCell ⟨g,7,none⟩ (.bool false)=W1 at *;clear c7 z7
   have HF:=Lib.hid (failed_dead H1.out.cell0 HB.out);refine wp_loop_rounds 1 ?_;rw [rounds_succ]
   go_wp2_with (go_at_call 102;with_reducible refine HF.out.mono ?_;rintro r w2 ⟨rfl,hw⟩;rw [hw];clear hw);first | go_end0 | refine bodyPost_ret (results_none rfl _ _ _) rfl ?_
   exact ⟨rfl,_,⟨_,rfl,H1.out⟩,HS1.out⟩
 | live s=>
   obtain ⟨q,v,f,bd,t,o,rfl,h⟩:=h
   have H1:=Lib.hid (h.put 7 (.bool false) {s with cnt:=false} rfl rfl rfl rfl rfl rfl)
   have HS1:=Lib.hid (Step.set (w:=w) (L:=blks g q v f bd t o) g 7 (.bool false) (by simp));have c7:=h.cs.c7;have z7:=h.marks 7;obtain ⟨ok,hb0⟩:s.Ok∧b.right=true:=ok;have hout:s.out.length≤999999998:=hout;have ok1:=ok.cleared;obtain ⟨S1,hS1⟩:∃S1:T,{s with cnt:=false}=S1:=⟨_,rfl⟩;have ho1:S1.out.length≤999999998:=by rw [←hS1];exact hout
   rw [hS1] at ok1 H1
   have e:Q.byte p b (.live s) c=(match S1.look p b c with
    |(.live t1,false)=>(t1.look p b c).1
    |(x,_)=>x):=by rw [←hS1];rfl
   have HL:=Lib.hid (fun (w2:World) (h2:PR w2 B g q v f bd t o p b S1)=>look_any hp hb0 c h2 ok1 (by omega));have htw:=fun t'=>look_twice (p:=p) (t':=t') ok1 hb0 c;have hoo:=look_out (p:=p) (b:=b) S1 c;have hok2:=fun t' (h:(S1.look p b c).1=.live t')=>ok1.look hb0 c h;rw [e];clear h ok hout e hS1;rcases hx:S1.look p b c with ⟨t1 | ⟨e,out⟩,u⟩
   ·rw [hx] at HL hoo;cases u with
    | true=>
      show Calls _ _ _ _ fun r w'=>r=.returned (.tuple #[])∧∃L',At w' B g p b L' (.live t1)∧Step _ L' w w';clear htw hx hok2 hoo;go_enter Tryz.func96,Tryz.ntmps96;go_upto_region 1 with fail
      generalize w.setCell ⟨g,7,none⟩ (.bool false)=W1 at *;clear c7 z7
      have HF:=Lib.hid (failed_live H1.out.cs.c0)
      have HL1:=Lib.hid (HL.out _ H1.out);refine wp_loop_rounds 1 ?_;rw [rounds_succ]
      go_wp2_with (first
       |(go_at_call 138;with_reducible refine HL1.out.mono ?_;rintro r w2 ⟨rfl,L2,hA,hS2⟩)
       |(go_at_call 102;with_reducible refine HF.out.mono ?_;rintro r w3 ⟨rfl,hw⟩;rw [hw];clear hw))
      first | go_end0 | refine bodyPost_ret (results_none rfl _ _ _) rfl ?_
      exact ⟨rfl,_,hA,HS1.out.trans hS2⟩
    | false=>
      have hu:=htw t1 hx;show Calls _ _ _ _ fun r w'=>r=.returned (.tuple #[])∧∃L',At w' B g p b L' (t1.look p b c).1∧Step _ L' w w'
      have ok2:=hok2 t1 (by rw [hx]);have hoo:t1.out.length≤S1.out.length+1:=hoo
      have HL9:=fun (w2:World) (q v f bd t o) (h2:PR w2 B g q v f bd t o p b t1)=>look_any hp hb0 c h2 ok2 (by omega);rw [hu] at HL9;have HL2:=Lib.hid HL9;clear htw hx hok2 hoo hu ok2 HL9;go_enter Tryz.func96,Tryz.ntmps96;go_upto_region 1 with fail
      generalize w.setCell ⟨g,7,none⟩ (.bool false)=W1 at *;clear c7 z7
      have HF:=Lib.hid (failed_live H1.out.cs.c0)
      have HL1:=Lib.hid (HL.out _ H1.out);refine wp_loop_rounds 2 ?_;rw [rounds_succ]
      go_wp2_with (first
       |(go_at_call 138;with_reducible refine HL1.out.mono ?_;rintro r w2 ⟨rfl,L2,hA,hS2⟩)
       |(go_at_call 102;with_reducible refine HF.out.mono ?_;rintro r w3 ⟨rfl,hw⟩;rw [hw];clear hw))
      obtain ⟨q2,v2,f2,bd2,t2,o2,rfl,h2⟩:=hA
      have HF2:=Lib.hid (failed_live h2.cs.c0)
      have HL3:=Lib.hid (HL2.out _ _ _ _ _ _ _ h2)
      have HS2:=Lib.hid (HS1.out.trans hS2);clear h2 hS2 HF HL1 HL2 H1 HS1;rw [rounds_succ]
      go_wp2_with (first
       |(go_at_call 138;with_reducible refine HL3.out.mono ?_;rintro r w4 ⟨rfl,L4,hA4,hS4⟩)
       |(go_at_call 102;with_reducible refine HF2.out.mono ?_;rintro r w3 ⟨rfl,hw⟩;rw [hw];clear hw))
      first | go_end0 | refine bodyPost_ret (results_none rfl _ _ _) rfl ?_
      exact ⟨rfl,_,hA4,HS2.out.trans hS4⟩
   ·rw [hx] at HL hoo;cases u with
    | true=>
      show Calls _ _ _ _ fun r w'=>r=.returned (.tuple #[])∧∃L',At w' B g p b L' (.dead e out)∧Step _ L' w w';clear htw hx hok2 hoo;go_enter Tryz.func96,Tryz.ntmps96;go_upto_region 1 with fail
      generalize w.setCell ⟨g,7,none⟩ (.bool false)=W1 at *;clear c7 z7
      have HF:=Lib.hid (failed_live H1.out.cs.c0)
      have HL1:=Lib.hid (HL.out _ H1.out);refine wp_loop_rounds 1 ?_;rw [rounds_succ]
      go_wp2_with (first
       |(go_at_call 138;with_reducible refine HL1.out.mono ?_;rintro r w2 ⟨rfl,L2,hA,hS2⟩)
       |(go_at_call 102;with_reducible refine HF.out.mono ?_;rintro r w3 ⟨rfl,hw⟩;rw [hw];clear hw))
      first | go_end0 | refine bodyPost_ret (results_none rfl _ _ _) rfl ?_
      exact ⟨rfl,_,hA,HS1.out.trans hS2⟩
    | false=>
      show Calls _ _ _ _ fun r w'=>r=.returned (.tuple #[])∧∃L',At w' B g p b L' (.dead e out)∧Step _ L' w w';clear htw hx hok2 hoo;go_enter Tryz.func96,Tryz.ntmps96;go_upto_region 1 with fail
      generalize w.setCell ⟨g,7,none⟩ (.bool false)=W1 at *;clear c7 z7
      have HF:=Lib.hid (failed_live H1.out.cs.c0)
      have HL1:=Lib.hid (HL.out _ H1.out);refine wp_loop_rounds 2 ?_;rw [rounds_succ]
      go_wp2_with (first
       |(go_at_call 138;with_reducible refine HL1.out.mono ?_;rintro r w2 ⟨rfl,L2,hA,hS2⟩)
       |(go_at_call 102;with_reducible refine HF.out.mono ?_;rintro r w3 ⟨rfl,hw⟩;rw [hw];clear hw))
      obtain ⟨o2,rfl,h2⟩:=hA
      have HF2:=Lib.hid (failed_dead h2.cell0 h2.bad);have HD2:=Lib.hid h2
      have HS2:=Lib.hid (HS1.out.trans hS2);clear h2 hS2 HF HL1 H1 HS1;rw [rounds_succ]
      go_wp2_with (go_at_call 102;with_reducible refine HF2.out.mono ?_;rintro r w3 ⟨rfl,hw⟩;rw [hw];clear hw);first | go_end0 | refine bodyPost_ret (results_none rfl _ _ _) rfl ?_
      exact ⟨rfl,_,⟨_,rfl,HD2.out⟩,HS2.out⟩
end code
end Go.Proofs.YtldhlecknfomjaaGreatDoor.Pg
namespace Go.Proofs.YtldhlecknfomjaaGreatDoor.Pg
open Go.RowKit Base Txt Mem Par
structure Told (L:List (Option Nat)) (B:Zone) (w:World) (o:Value) (out:List Rec.R):Prop where
 outs:Outs L B w o out
 far:∀k,o.ownBlock=some k→some k∉L∧k<w.heap.size
 off:∀k,o.ownBlock=some k→some k∉B.z
section code
set_option maxHeartbeats 4000000
set_option maxRecDepth 20000
attribute [local go_sem] Base.some_undef
variable {w:World} {B:Zone} {g q:Nat} {v f bd t o:Value} {p:Nat} {b:Bd} {s:T}
theorem Own.less {rd:Ln.M} {fs ts:List Fld} {body:List UInt8} {out:List Rec.R} (h:Own w B g q v f bd t o rd fs body ts out):Own w B g q v f bd t nil rd fs body ts []:=by
 have e:blks g q v f bd t nil=(blks g q v f bd t o).set 6 none:=rfl;refine ⟨h.R,h.F,h.D,h.TR,⟨[],rfl,(by intro x hx;cases hx),World.ownsRow_nil _ _ _ _⟩,?_,h.ge,h.lt,h.zone.of (Nat.le_refl _) (by rw [e];exact Of.set 6 none (.inl rfl))⟩;rw [e]
 exact h.lone.set h.in 6 none (.inl rfl)
theorem At.below {L:List (Option Nat)} {w':World} {x:Q} (h:At w B g p b L x) (hb:Below w.heap.size w w'):At w' B g p b L x:=by
 cases x with
 | live s=>
   obtain ⟨q,v,f,bd,t,o,rfl,h⟩:=h;exact ⟨q,v,f,bd,t,o,rfl,h.below hb⟩
 | dead e out=>
   obtain ⟨o,rfl,h⟩:=h;refine ⟨o,rfl,(hb.block g h.lt).trans h.row,h.O.keeps (Keeps.of_below hb:Keeps [] w w') (by simp) (by simp),h.ne,h.ge,Nat.lt_of_lt_of_le h.lt hb.size,h.bad,h.zone.of hb.size Of.refl⟩
theorem At.low {L:List (Option Nat)} {x:Q} (h:At w B g p b L x):∀k,some k∈L→B≤k:=by
 cases x with
 | live s=>
   obtain ⟨q,v,f,bd,t,o,rfl,h⟩:=h;exact h.own.low
 | dead e out=>
   obtain ⟨o,rfl,h⟩:=h;intro k hk;obtain ⟨ps, -, -,h3⟩:=h.O;rcases (by simpa using hk:k=g∨some k=o.ownBlock) with e | e
   ·rw [e];exact h.ge
   ·exact (World.ownsRow.lt h3 k e.symm).1
theorem At.in {L:List (Option Nat)} {x:Q} (h:At w B g p b L x):In w L:=by
 cases x with
 | live s=>
   obtain ⟨q,v,f,bd,t,o,rfl,h⟩:=h;exact h.own.in
 | dead e out=>
   obtain ⟨o,rfl,h⟩:=h;intro k hk;obtain ⟨ps, -, -,h3⟩:=h.O;rcases (by simpa using hk:k=g∨some k=o.ownBlock) with e | e
   ·rw [e];exact h.lt
   ·exact (World.ownsRow.lt h3 k e.symm).2
theorem At.tell {L:List (Option Nat)} {x:Q} (h:At w B g p b L x):∃o L',w.cell? ⟨g,26,none⟩=some o∧w.frozen? ⟨g,26,none⟩=false∧At (w.setCell ⟨g,26,none⟩ nil) B g p b L' x.told∧Told L' B (w.setCell ⟨g,26,none⟩ nil) o x.out∧Step L L' w (w.setCell ⟨g,26,none⟩ nil):=by
 cases x with
 | live s=>
   obtain ⟨q,v,f,bd,t,o,rfl,h⟩:=h;have hg:(blks g q v f bd t o)[0]?=some (some g):=rfl
   have hne:o.ownBlock≠some g:=fun e=>h.own.lone.ne (i:=0) (j:=6) rfl (by decide) (by rw [←e];rfl);have hsub:∀k,some k∈blks g q v f bd t nil→some k∈blks g q v f bd t o:=fun k hk=>by simp only [List.mem_cons,List.not_mem_nil,or_false,Value.ownBlock,reduceCtorEq] at hk ⊢;rcases hk with e | e | e | e | e | e<;>simp [e]
   refine ⟨o,blks g q v f bd t nil,h.cs.c26,h.marks 26,⟨q,v,f,bd,t,nil,rfl,⟨row_setL h.row 26 nil,(h.own.less).set 26 nil⟩⟩,⟨Outs.less (h.own.O.keeps (Keeps.set g 26 nil (List.mem_singleton.2 rfl)) (fun k hk=>by simp only [List.mem_singleton] at hk;simp [hk]) (fun k e hm=>hne (by rw [e,List.mem_singleton.1 hm]))) (fun k hk=>.inl (hsub k hk)),fun k e=>⟨fun hm=>?_,?_⟩,fun k e=>h.own.zone.off k (List.mem_of_getElem? (i:=6) (by rw [←e];rfl))⟩,⟨Keeps.set g 26 nil (List.mem_of_getElem? hg),fun k hk=>.inl (hsub k hk)⟩⟩
   ·obtain ⟨i,hi⟩:=List.getElem?_of_mem hm;have h6:(blks g q v f bd t o)[6]?=some (some k):=by rw [←e];rfl
    rcases i with _ | _ | _ | _ | _ | _ | _ | i
    ·exact h.own.lone.ne (i:=0) (j:=6) (k:=k) hi (by decide) h6
    ·exact h.own.lone.ne (i:=1) (j:=6) (k:=k) hi (by decide) h6
    ·exact h.own.lone.ne (i:=2) (j:=6) (k:=k) hi (by decide) h6
    ·exact h.own.lone.ne (i:=3) (j:=6) (k:=k) hi (by decide) h6
    ·exact h.own.lone.ne (i:=4) (j:=6) (k:=k) hi (by decide) h6
    ·exact h.own.lone.ne (i:=5) (j:=6) (k:=k) hi (by decide) h6
    ·cases hi
    ·cases hi
   ·have:=h.own.in k (List.mem_of_getElem? (i:=6) (by rw [←e];rfl));simpa using this
 | dead e out=>
   obtain ⟨o,rfl,h⟩:=h;obtain ⟨ps, -, -,h3⟩:=h.O;refine ⟨o,[some g,none],row_cellL h.row rfl,Ln.row_frozen h.row 26,⟨nil,rfl,h.put 26 nil nil [] rfl ⟨[],rfl,(by intro x hx;cases hx),World.ownsRow_nil _ _ _ _⟩ (by simp [Value.ownBlock]) (.inl rfl)⟩,⟨Outs.less (h.O.keeps (Keeps.set g 26 nil (List.mem_singleton.2 rfl)) (fun k hk=>by simp only [List.mem_singleton] at hk;simp [hk]) (fun k e hm=>h.ne (by rw [e,List.mem_singleton.1 hm]))) (fun k hk=>.inl (by simpa using Or.inl (by simpa using hk))),fun k e=>⟨fun hm=>?_,?_⟩,fun k e=>h.zone.off k (by rw [←e];simp)⟩,⟨Keeps.set g 26 nil (by simp),fun k hk=>.inl (by simpa using Or.inl (by simpa using hk))⟩⟩
   ·rcases (by simpa using hm:k=g) with rfl;exact h.ne e
   ·have:=(World.ownsRow.lt h3 k e).2;simpa using this
theorem feed_any (hp:p<4294967296) (x:Q) {L:List (Option Nat)} (h:At w B g p b L x) (ok:x.Ok b) (a:Option Addr) (ca:Nat) (ls:List (List UInt8)) (hl:Parts L w a ls) (hn:ls.length≤1000000) (hout:x.out.length+2*ls.flatten.length≤999999998) :
 Calls Tryz.prog 39 #[ptr g,.slice a ls.length ca] w fun r w'=>∃o L',r=.returned o∧At w' B g p b L' (x.feed p b ls.flatten).told∧Told L' B w' o (x.feed p b ls.flatten).out∧Step L L' w w':=by
 have H:=Lib.hid h;have HL:=Lib.hid hl;have HOK:=Lib.hid ok;have HOU:=Lib.hid hout;obtain ⟨n,hnn⟩:∃n,ls.length=n:=⟨_,rfl⟩;have HN:=Lib.hid hnn;have hn1:n≤1000000:=by omega
 rw [hnn];clear h hl ok hout hn hnn;go_enter Tryz.func39,Tryz.ntmps39;go_upto_region 2 with fail
 go_loopw [12] (fun i wr=>∃k:Nat,k≤n∧i=.int .i64 k∧Hid (∃Lr,At wr B g p b Lr (x.feed p b (ls.take k).flatten)∧Step L Lr w wr)) (fun i _=>n-(intOf i).toNat)
 case atStart=>exact ⟨0,Nat.zero_le _,rfl,Lib.hid ⟨L,H.out,Step.refl⟩⟩
 case round=>
  obtain ⟨k,hk,rfl,hR⟩:=hrel;rcases Nat.lt_or_ge k n with hlt | hge
  ·obtain ⟨Lr,hA,hS⟩:=hR.out;have hkl:k<ls.length:=by rw [HN.out];exact hlt
   obtain ⟨bk,off,rfl,hbk,hnb,hc⟩:=(HL.out.step hS).cells (by omega);obtain ⟨ak,ck,hcell,hB⟩:=hc k hkl;have htk:(ls.take (k+1)).flatten=(ls.take k).flatten++ls[k]:=by rw [List.take_succ_eq_append_getElem hkl,List.flatten_append];simp
   have hsum:(ls.take (k+1)).flatten.length≤ls.flatten.length:=by have:=congrArg List.length (congrArg List.flatten (List.take_append_drop (k+1) ls));rw [List.flatten_append,List.length_append] at this;omega
   rw [htk,List.length_append] at hsum;have t1:(k:Int)<(n:Int):=by omega
   have HTK:=Lib.hid htk;obtain ⟨pl,hpl⟩:∃pl,ls[k]=pl:=⟨_,rfl⟩;rw [hpl] at hcell hB hsum HTK;have hpb:pl.length≤1000000000:=by have:=HOU.out;omega
   obtain ⟨m,hm⟩:∃m,pl.length=m:=⟨_,rfl⟩;rw [hm] at hcell hpb hsum;have HM:=Lib.hid hm;obtain ⟨X,hX⟩:∃X,x.feed p b (ls.take k).flatten=X:=⟨_,rfl⟩;have hXok:X.Ok b:=by rw [←hX];exact Q.Ok.feed _ HOK.out
   have hXo:X.out.length+2*m≤999999998:=by have:=Q.feed_out (p:=p) (b:=b) (ls.take k).flatten x;rw [hX] at this;have:=HOU.out;omega
   rw [hX] at hA;have HX:=Lib.hid hX;have HXO:=Lib.hid hXok;have HXL:=Lib.hid hXo;have HA:=Lib.hid hA;have HS:=Lib.hid hS;have HB:=Lib.hid hB;clear hA hS hB hX hXok hXo hsum htk hpl hm hc hR hnb hbk;go_upto_region 5 with fail
   clear hcell
   go_loopw [18] (fun j wq=>∃i:Nat,i≤m∧j=.int .i64 i∧Hid (∃Lq,At wq B g p b Lq (X.feed p b (pl.take i))∧Step Lr Lq wr wq)) (fun j _=>m-(intOf j).toNat)
   case atStart=>exact ⟨0,Nat.zero_le _,rfl,Lib.hid ⟨Lr,HA.out,Step.refl⟩⟩
   case round=>
    obtain ⟨wC,hwC⟩:∃x,x=wr:=⟨_,rfl⟩;obtain ⟨i,hi,rfl,hR2⟩:=hrel;rcases Nat.lt_or_ge i m with hilt | hige
    ·obtain ⟨Lq,hA2,hS2⟩:=hR2.out;have hil:i<pl.length:=by rw [HM.out];exact hilt
     obtain ⟨zb,zo,rfl,hzb,hz⟩:=(HB.out.step hS2).nums.2 (by omega);have hcell:=hz i hil;have hti:pl.take (i+1)=pl.take i ++ [pl[i]]:=List.take_succ_eq_append_getElem hil;have hgi:(pl.map fun c=>(c.toNat:Int))[i]?.getD 0=(pl[i].toNat:Int):=by simp [hil]
     rw [hgi] at hcell;have HTI:=Lib.hid hti;obtain ⟨c,hc⟩:∃c,pl[i]=c:=⟨_,rfl⟩;rw [hc] at hcell HTI;have t2:(i:Int)<(m:Int):=by omega
     have hok3:(X.feed p b (pl.take i)).Ok b:=Q.Ok.feed _ HXO.out;have hou3:(X.feed p b (pl.take i)).out.length≤999999998:=by have h1:=Q.feed_out (p:=p) (b:=b) (pl.take i) X;have h2:=HXL.out;rw [List.length_take] at h1;omega
     have HTA:=Lib.hid (take_any hp c _ hA2 hok3 hou3);have HS2:=Lib.hid hS2;clear hA2 hS2 hz hzb hti hgi hc hok3 hou3 hR2
     go_wp2_with (go_at_call 96;with_reducible refine HTA.out.mono ?_;rintro r w5 ⟨rfl,L5,hA5,hS5⟩);go_roundw
     case rel=>exact ⟨i+1,by omega,by go_num,Lib.hid ⟨L5,by rw [HTI.out,feed_app];exact hA5,HS2.out.trans hS5⟩⟩
     case measure=>simp [intOf];omega
    ·obtain rfl:i=m:=by omega
     have t2:¬(i:Int)<(i:Int):=by omega
     obtain ⟨Lq,hA2,hS2⟩:=hR2.out
     have e:pl.take i=pl:=List.take_of_length_le (by rw [HM.out];exact Nat.le_refl _);rw [e,←HX.out,←feed_app,←HTK.out] at hA2
     have HA2:=Lib.hid hA2;have HS2:=Lib.hid (HS.out.trans hS2);clear hA2 hS2 e hR2;go_wp2_with fail;go_roundw
     case rel=>exact ⟨k+1,by omega,by go_num,Lib.hid ⟨Lq,HA2.out,HS2.out⟩⟩
     case measure=>simp [intOf];omega
  ·obtain rfl:k=n:=by omega
   have t1:¬(k:Int)<(k:Int):=by omega
   obtain ⟨Lr,hA,hS⟩:=hR.out
   have e:ls.take k=ls:=List.take_of_length_le (by rw [HN.out];exact Nat.le_refl _);rw [e] at hA;obtain ⟨o,L2,c26,z26,hA2,hT2,hS2⟩:=hA.tell
   have HA2:=Lib.hid hA2;have HT2:=Lib.hid hT2;have HS2:=Lib.hid (hS.trans hS2);clear hA hS hR e hA2 hT2 hS2;go_wp2_with fail;go_ret;exact ⟨o,rfl,L2,HA2.out,HT2.out,HS2.out⟩
theorem errq_any {L:List (Option Nat)} {x:Q} (h:At w B g p b L x):Calls Tryz.prog 42 #[ptr g] w fun r w'=>r=.returned (.int .i64 (x.err:Int))∧w'=w:=by
 cases x with
 | live s=>
   obtain ⟨q,v,f,bd,t,o,rfl,h⟩:=h;exact err_any h.cs.c0
 | dead e out=>
   obtain ⟨o,rfl,h⟩:=h;exact err_any h.cell0
theorem cleanq_any {L:List (Option Nat)} {x:Q} (h:At w B g p b L x):Calls Tryz.prog 47 #[ptr g] w fun r w'=>r=.returned (.bool x.clean)∧w'=w:=by
 cases x with
 | live s=>
   obtain ⟨q,v,f,bd,t,o,rfl,h⟩:=h;exact clean_live h
 | dead e out=>
   obtain ⟨o,rfl,h⟩:=h
   exact clean_dead (row_cellL h.row rfl)
end code
end Go.Proofs.YtldhlecknfomjaaGreatDoor.Pg
