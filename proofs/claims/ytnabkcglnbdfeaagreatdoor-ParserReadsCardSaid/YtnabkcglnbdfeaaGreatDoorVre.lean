import Derived.Test.YtnabkcglnbdfeaaGreatDoorVrd
set_option linter.unusedSimpArgs false
open Array renaming getD_eq_getD_getElem?→Af
open Bool renaming and_eq_true→An,eq_iff_iff→Ar,false_and→As,false_eq_true→Au,not_eq_true'→Aw,or_eq_true→Ax
open ByteArray renaming empty→A6
open Go.Act renaming put→Ab
open Go.Lib renaming extract_data→Bl,hid→Bo,toList_data→Bv
open Go.Proofs.Tryz renaming prog→EL,underlying22→Fm,underlying5→Fx,underlying9→Fz
open Go.Proofs.YtnabkcglnbdfeaaGreatDoor.Base renaming below_step→Ak,some_undef→Al
open Go.Proofs.YtnabkcglnbdfeaaGreatDoor.Each renaming fine→AJ,putg→AM
open Go.Proofs.YtnabkcglnbdfeaaGreatDoor.Each.Goes renaming enter→AE
open Go.Proofs.YtnabkcglnbdfeaaGreatDoor.Each.Lasts renaming eq→AI
open Go.Proofs.YtnabkcglnbdfeaaGreatDoor.Ln renaming own_slice→CJ,row_frozen→CL
open Go.Proofs.YtnabkcglnbdfeaaGreatDoor.Mem.Keeps renaming grown→Bc,of_below→Be,set→Bf
open Go.Proofs.YtnabkcglnbdfeaaGreatDoor.Mem.Of renaming refl→Dg
open Go.Proofs.YtnabkcglnbdfeaaGreatDoor.Par renaming bodied→Dl
open Go.Proofs.YtnabkcglnbdfeaaGreatDoor.Par.S renaming again→D7
open Go.Proofs.YtnabkcglnbdfeaaGreatDoor.Par.Step renaming of_below→DD,set→DF
open Go.Proofs.YtnabkcglnbdfeaaGreatDoor.Qk renaming has_any→Dt,has→Ds
open Go.Proofs.YtnabkcglnbdfeaaGreatDoor.Rec renaming Bk→Dv,R→Dx,wraps→Dz
open Go.Proofs.YtnabkcglnbdfeaaGreatDoor.Rec.Bk renaming new→Dw
open Go.Proofs.YtnabkcglnbdfeaaGreatDoor.Tree renaming change→DS,done→DT,grow→DU,put1→DV,quiet→DW
open Go.Region renaming binds→D0
open Go.RowKit.Below renaming refl→Am
open Go.World renaming ownsRow_nil→FK
open Go.World.ownsRow renaming lt→FJ
open List renaming append_nil→B7,drop_eq_getElem_cons→BH,eq_nil_of_length_eq_zero→BK,getElem?_cons_succ→BQ,getElem?_cons_zero→BR,getElem?_eq_getElem→BS,getElem?_map→BV,getElem?_toArray→BY,getElem_mem→Ca,length_append→Ch,length_drop→Cj,length_map→Cn,length_take→Cr,mem_cons→Cw,mem_of_getElem?→Cy,mem_singleton→C1,not_mem_nil→C3,setIfInBounds_toArray→C7,set_cons_succ→C9,set_cons_zero→CA,take_of_length_le→CD,take_succ_eq_append_getElem→CE
open Nat renaming eq_zero_or_pos→CO,le_of_lt→CP,le_refl→CQ,le_succ→CS,le_trans→CT,lt_of_lt_of_le→CV,lt_or_ge→CW,zero_add→CX,zero_le→CY
open Option renaming getD_some→Di,some→Dk
open UInt8 renaming toNat_inj→FD
namespace Go.Proofs.YtnabkcglnbdfeaaGreatDoor.Pg
open Go.RowKit Base Txt Mem Par
def At (w:World) (B:Zone) (g:Nat) (p:Nat) (b:Bd) (L:List (Option Nat)):Q→Prop
 | .live s=>∃q v f bd t o,L=blks g q v f bd t o∧PR w B g q v f bd t o p b s
 | .dead e out=>∃o,L= [some g,o.ownBlock]∧Dead w B g e o out
theorem ba_list (l:List UInt8):(ba l).data.toList=l:=rfl
section
variable {w w':World} {B:Zone} {g q:Nat} {v f bd t o:Value} {p:Nat} {rd:Ln.M} {fs ts:List Fld} {body:List UInt8} {out:List Dx}
theorem _root_.Go.Proofs.YtnabkcglnbdfeaaGreatDoor.XXVqF {P:Prop} (h:P:=by
 rcases (by simpa using hm:j=q∨some j=v.ownBlock) with e | e
 ·exact h1 (h.lone i 1 j hj (by rw [e];rfl))
 ·exact h2 (h.lone i 2 j hj (by rw [e];rfl))):P:=h
theorem Own.reader (h:Own w B g q v f bd t o rd fs body ts out) {v':Value} {rd':Ln.M} (hk:Ln.Kept q v.ownBlock w w') (hm:Ln.Moved w v.ownBlock v'.ownBlock) (hr:Ln.Rd w' B q v' rd') :
 Own w' B g q v' f bd t o rd' fs body ts out∧Step (blks g q v f bd t o) (blks g q v' f bd t o) w w'∧Keeps [some q,v.ownBlock] w w':=by
 have hk2:Keeps [some q,v.ownBlock] w w':=Keeps.of_kept hk (by simp) fun k e=>by simp [e]
 have hn:∀i j,i≠1→i≠2→(blks g q v f bd t o)[i]?=some (some j)→some j∉ [some q,v.ownBlock]:=fun i j h1 h2 hj hm=>by exact XXVqF
 have e:blks g q v' f bd t o=(blks g q v f bd t o).set 2 v'.ownBlock:=rfl;have ho:v'.ownBlock=none∨(blks g q v f bd t o)[2]?=some v'.ownBlock∨∃k,v'.ownBlock=some k∧w.heap.size≤k:=by
  rcases hm with e | e | e
  ·exact .inr (.inl (by rw [e];rfl))
  ·exact .inl e
  ·exact .inr (.inr e)
 have hof:Of w (blks g q v f bd t o) (blks g q v' f bd t o):=by rw [e];exact Of.set 2 _ ho
 have hkL:Keeps (blks g q v f bd t o) w w':=hk2.mono fun k hk=>by
  rcases (by simpa using hk:k=q∨some k=v.ownBlock) with e | e
  ·simp [e]
  ·simp [e]
 obtain ⟨ps,h1,h2,h3⟩:=h.O
 refine ⟨⟨hr,hk2.own h.F fun j e=>hn 3 j (by decide) (by decide) (by rw [←e];rfl),hk2.own h.D fun j e=>hn 4 j (by decide) (by decide) (by rw [←e];rfl),hk2.own h.TR fun j e=>hn 5 j (by decide) (by decide) (by rw [←e];rfl),
  ⟨ps,h1,fun x hx=>⟨(h2 x hx).1,by
    have hx2:=(h2 x hx).2.keeps hkL
    exact ⟨hx2.reads,fun k hb=>⟨fun hm=>by
     rcases hof k hm with e | e
     ·exact (hx2.far k hb).1 e
     ·exact absurd ((h2 x hx).2.far k hb).2 (by omega),(hx2.far k hb).2⟩,hx2.off⟩⟩,hk2.own h3 fun j e=>hn 6 j (by decide) (by decide) (by rw [←e];rfl)⟩,?_,h.ge,CV h.lt hk2.size,h.zone.of hk2.size hof⟩,⟨hkL,hof⟩,hk2⟩
 rw [e];exact h.lone.set h.in 2 _ ho
theorem PR.reader {b:Bd} {s:T} (h:PR w B g q v f bd t o p b s) {v':Value} {rd':Ln.M} (hk:Ln.Kept q v.ownBlock w w') (hm:Ln.Moved w v.ownBlock v'.ownBlock) (hr:Ln.Rd w' B q v' rd') :
 PR w' B g q v' f bd t o p b {s with rd:=rd'}∧Step (blks g q v f bd t o) (blks g q v' f bd t o) w w':=by
 obtain ⟨h1,h2,h3⟩:=h.own.reader hk hm hr;refine ⟨⟨h3.row h.row fun hm=>?_,h1⟩,h2⟩;rcases (by simpa using hm:g=q∨some g=v.ownBlock) with e | e
 ·exact absurd (h.own.lone 0 1 g rfl (by rw [e];rfl)) (by decide)
 ·exact absurd (h.own.lone 0 2 g rfl (by rw [e];rfl)) (by decide)
end
section code
set_option maxHeartbeats 4000000
set_option maxRecDepth 20000
attribute [local go_sem] Al
variable {w:World} {B:Zone} {g q:Nat} {v f bd t o:Value} {p:Nat} {b:Bd} {s:T}
theorem reader_any (c:UInt8) (hm:s.rd.Ok) (h:PR w B g q v f bd t o p b s):Calls EL 184 #[ptr q,.int .u8 (c.toNat:Int)] w fun r w'=>
 ∃v1,r=.returned (.int .i64 (s.rd.clear.next c))∧PR w' B g q v1 f bd t o p b {s with rd:=s.rd.byte c}∧Step (blks g q v f bd t o) (blks g q v1 f bd t o) w w':=by
 refine (Ln.byte_any c s.rd hm w B q v h.own.R).mono ?_;rintro r w' ⟨v1,rfl,h1,h2,h3⟩;obtain ⟨h4,h5⟩:=h.reader h2 h3 h1;exact ⟨v1,rfl,h4,h5⟩
theorem XX6xd {P:Prop} (h:P:=by
 rw [e0]
 have HEN:=Bo (fun (w2:World) (v1:Value) (h2:PR w2 B g q v1 f bd t o p b {s with rd:=s.rd.byte c})=>endLine_any hp hb0 (ba ln) (by rw [size_ba];exact hln) h2 ok2 hout)
 have HLI:=Bo (fun (w2:World) (v1:Value) (h2:PR w2 B g q v1 f bd t o p b {s with rd:=s.rd.byte c})=>Ln.line_any h2.own.R.row h2.own.R.own);have HLN:=Bo hl;have HX:=Bo hx;have c25:=h.cs.c25;clear h hby ok2 hln hl hx e0 hhow ok;rcases CO e with he | he
 ·subst he;go_enter Tryz.func160,Tryz.ntmps160
  go_wp2_with (first
   |(go_at_call 159;with_reducible refine Cm (HFZ.out) ?_)
   |(go_at_call 185;with_reducible refine HEN2.out.mono ?_;rintro r w4 ⟨rfl,q1,v2,f1,bd1,t1,o1,hP,hS⟩
     have HP:=Bo hP;have HS:=Bo (HS2.out.trans hS);have HFZ:=Bo (fail_zero w4 g);clear hP hS)
   |(go_at_call 186;with_reducible refine Cm HLI2.out ?_)
   |(go_at_call 184;with_reducible refine HBY.out.mono ?_;rintro r w2 ⟨v1,rfl,h2,hS2⟩
     have d25:=h2.cs.c25;have HS2:=Bo hS2;have HEN2:=HEN.out w2 v1 h2;have HLI2:=HLI.out w2 v1 h2
     replace HEN2:=Bo (show Calls EL 185 #[ptr g,.string (Ln.ba ln)] w2 fun r w'=>r=.returned (.int .i64 0)∧∃q1 v2 f1 bd1 t1 o1,PR w' B g q1 v2 f1 bd1 t1 o1 p b t2∧Step (blks g q v1 f bd t o) (blks g q1 v2 f1 bd1 t1 o1) w2 w' from by rw [ba_list,HX.out] at HEN2;exact HEN2)
     rw [HLN.out] at HLI2
     replace HLI2:=Bo HLI2
     clear h2 hS2 c25))
  go_ret;exact ⟨rfl,_,⟨_,_,_,_,_,_,rfl,HP.out⟩,HS.out⟩
 ·have hne:e≠0:=by omega
  have e1:ends (e,t2)=.dead e t2.out:=by unfold ends;rw [if_neg hne]
  rw [e1];have HNE:=Bo hne;clear he hne e1;go_enter Tryz.func160,Tryz.ntmps160
  go_wp2_with (first
   |(go_at_call 159;with_reducible refine HFA.out.mono ?_;rintro r w5 ⟨rfl,hD,hS5⟩)
   |(go_at_call 185;with_reducible refine HEN2.out.mono ?_;rintro r w4 ⟨rfl,q1,v2,f1,bd1,t1,o1,hP,hS⟩
     have HS:=Bo (HS2.out.trans hS);have HFA:=Bo (fail_any hP e HNE.out _ rfl);clear hP hS)
   |(go_at_call 186;with_reducible refine Cm HLI2.out ?_)
   |(go_at_call 184;with_reducible refine HBY.out.mono ?_;rintro r w2 ⟨v1,rfl,h2,hS2⟩
     have d25:=h2.cs.c25;have HS2:=Bo hS2;have HEN2:=HEN.out w2 v1 h2;have HLI2:=HLI.out w2 v1 h2
     replace HEN2:=Bo (show Calls EL 185 #[ptr g,.string (Ln.ba ln)] w2 fun r w'=>r=.returned (.int .i64 (e:Int))∧∃q1 v2 f1 bd1 t1 o1,PR w' B g q1 v2 f1 bd1 t1 o1 p b t2∧Step (blks g q v1 f bd t o) (blks g q1 v2 f1 bd1 t1 o1) w2 w' from by rw [ba_list,HX.out] at HEN2;exact HEN2)
     rw [HLN.out] at HLI2
     replace HLI2:=Bo HLI2
     clear h2 hS2 c25))
  go_ret
  exact ⟨rfl,_,⟨_,rfl,hD⟩,HS.out.trans hS5⟩):P:=h
theorem inLine_any (hp:p<4294967296) (hb0:b.right=true) (c:UInt8) (h:PR w B g q v f bd t o p b s) (ok:s.Ok) (hout:s.out.length≤1000000000):Calls EL 160 #[ptr g,.int .u8 (c.toNat:Int)] w fun r w'=>
 r=.returned (.bool (s.inLine p b c).2)∧∃L1,At w' B g p b L1 (s.inLine p b c).1∧Step (blks g q v f bd t o) L1 w w':=by
 have hby:=reader_any c ok.rd h;rcases Ln.M.next_is s.rd.clear c with hhow | hhow | hhow | hhow | hhow
 ·have HBY:=Bo (show Calls EL 184 #[ptr q,.int .u8 (c.toNat:Int)] w fun r w'=>∃v1,r=.returned (.int .i64 0)∧PR w' B g q v1 f bd t o p b {s with rd:=s.rd.byte c}∧Step (blks g q v f bd t o) (blks g q v1 f bd t o) w w' from by rw [←hhow];exact hby);have e0:s.inLine p b c=(.live {s with rd:=s.rd.byte c},true):=by
   unfold T.inLine;dsimp only;rw [hhow,if_pos rfl]
  rw [e0];have c25:=h.cs.c25;clear h hby ok hout e0 hhow;go_enter Tryz.func160,Tryz.ntmps160;go_wp2_with
   (go_at_call 184;with_reducible refine HBY.out.mono ?_;rintro r w2 ⟨v1,rfl,h2,hS2⟩
    have HP:=Bo h2;have HS:=Bo hS2;clear h2 hS2 c25)
  go_ret;exact ⟨rfl,_,⟨_,_,_,_,_,_,rfl,HP.out⟩,HS.out⟩
 ·have HBY:=Bo (show Calls EL 184 #[ptr q,.int .u8 (c.toNat:Int)] w fun r w'=>∃v1,r=.returned (.int .i64 1)∧PR w' B g q v1 f bd t o p b {s with rd:=s.rd.byte c}∧Step (blks g q v f bd t o) (blks g q v1 f bd t o) w w' from by rw [←hhow];exact hby)
  have ok2:({s with rd:=s.rd.byte c}:T).Ok:=ok.byteR c (by rw [hhow];rfl);have hln:=line_len ok c;obtain ⟨ln,hl⟩:∃ln,(s.rd.byte c).line=ln:=⟨_,rfl⟩;rw [hl] at hln;obtain ⟨⟨e,t2⟩,hx⟩:∃x,T.line p b {s with rd:=s.rd.byte c} ln=x:=⟨_,rfl⟩;have e0:s.inLine p b c=(ends (e,t2),true):=by unfold T.inLine;dsimp only;rw [hhow,if_neg (by decide),if_neg (by decide),if_neg (by decide),hl,hx];rfl
  exact XX6xd
 ·have HBY:=Bo (show Calls EL 184 #[ptr q,.int .u8 (c.toNat:Int)] w fun r w'=>∃v1,r=.returned (.int .i64 2)∧PR w' B g q v1 f bd t o p b {s with rd:=s.rd.byte c}∧Step (blks g q v f bd t o) (blks g q v1 f bd t o) w w' from by rw [←hhow];exact hby)
  have ok2:({s with rd:=s.rd.byte c}:T).Ok:=ok.byteR c (by rw [hhow];rfl);have hln:=line_len ok c;obtain ⟨ln,hl⟩:∃ln,(s.rd.byte c).line=ln:=⟨_,rfl⟩;rw [hl] at hln;obtain ⟨⟨e,t2⟩,hx⟩:∃x,T.line p b {s with rd:=s.rd.byte c} ln=x:=⟨_,rfl⟩;have e0:s.inLine p b c=(ends (e,t2),false):=by unfold T.inLine;dsimp only;rw [hhow,if_neg (by decide),if_neg (by decide),if_neg (by decide),hl,hx];rfl
  exact XX6xd
 ·have HBY:=Bo (show Calls EL 184 #[ptr q,.int .u8 (c.toNat:Int)] w fun r w'=>∃v1,r=.returned (.int .i64 3)∧PR w' B g q v1 f bd t o p b {s with rd:=s.rd.byte c}∧Step (blks g q v f bd t o) (blks g q v1 f bd t o) w w' from by rw [←hhow];exact hby);have e0:s.inLine p b c=(.dead 400 s.out,true):=by
   unfold T.inLine;dsimp only;rw [hhow,if_neg (by decide),if_pos rfl]
  rw [e0];have c25:=h.cs.c25;clear h hby ok hout e0 hhow;go_enter Tryz.func160,Tryz.ntmps160
  go_wp2_with (first
   |(go_at_call 159;with_reducible refine HFA.out.mono ?_;rintro r w5 ⟨rfl,hD,hS5⟩)
   |(go_at_call 184;with_reducible refine HBY.out.mono ?_;rintro r w2 ⟨v1,rfl,h2,hS2⟩
     have HS2:=Bo hS2;have HFA:=Bo (fail_any h2 400 (by decide) 400 rfl);clear h2 hS2 c25))
  go_ret;exact ⟨rfl,_,⟨_,rfl,hD⟩,HS2.out.trans hS5⟩
 ·have HBY:=Bo (show Calls EL 184 #[ptr q,.int .u8 (c.toNat:Int)] w fun r w'=>∃v1,r=.returned (.int .i64 4)∧PR w' B g q v1 f bd t o p b {s with rd:=s.rd.byte c}∧Step (blks g q v f bd t o) (blks g q v1 f bd t o) w w' from by rw [←hhow];exact hby);have HH0:=fun w=>Dt p hp 29 w;have c25:=h.cs.c25;have e0:s.inLine p b c=(if (s.st==6&&Ds p 29)=true then (.live (({s with rd:=s.rd.byte c}:T).enter p 4 b.x0),false) else (.dead (longE s.st) s.out,true)):=by
   unfold T.inLine;dsimp only;rw [hhow,if_neg (by decide),if_neg (by decide),if_pos rfl]
  rw [e0]
  have HEN:=Bo (fun (w2:World) (v1:Value) (h2:PR w2 B g q v1 f bd t o p b {s with rd:=s.rd.byte c})=>enter_any hp h2 4 4 rfl b.x0)
  have HTL:=Bo (fun (w2:World) (v1:Value) (h2:PR w2 B g q v1 f bd t o p b {s with rd:=s.rd.byte c})=>tooLong_any h2.cs.c24)
  have hlong:longE s.st≠0:=by unfold longE;split<;>first | decide |(split<;>decide)
  have HLE:=Bo hlong;clear h hby ok hout e0 hhow hlong;by_cases h6:s.st=6
  ·cases hh:Ds p 29 with
   | true=>
     rw [hh] at HH0;have HH:=Bo HH0;have H6:=Bo h6;rw [h6,if_pos (by decide)];clear HH0 hh h6;go_enter Tryz.func160,Tryz.ntmps160
     go_wp2_with (first
      |(go_at_call 72;with_reducible refine HE2.out.mono ?_;rintro r w5 ⟨rfl,q1,hP,hS5⟩)
      |(go_at_call 92;with_reducible refine Cm (HH.out _) ?_)
      |(go_at_call 184;with_reducible refine HBY.out.mono ?_;rintro r w2 ⟨v1,rfl,h2,hS2⟩
        have HS2:=Bo hS2;have HE2:=Bo (HEN.out w2 v1 h2);have c24:w2.cell? ⟨g,24,none⟩=some (.int .i64 6):=by have:=h2.cs.c24;rw [show ({s with rd:=s.rd.byte c}:T).st=6 from H6.out] at this;exact this
        have c13:=h2.cs.c13;have c14:=h2.cs.c14;clear h2 hS2 c25))
     go_ret;exact ⟨rfl,_,⟨_,_,_,_,_,_,rfl,hP⟩,HS2.out.trans hS5⟩
   | false=>
     rw [hh] at HH0;have HH:=Bo HH0;have H6:=Bo h6;have e1:(s.st==6&&false)=false:=Bool.and_false _;rw [e1,if_neg (by decide)];clear HH0 hh h6 e1;go_enter Tryz.func160,Tryz.ntmps160
     go_wp2_with (first
      |(go_at_call 159;with_reducible refine HFA.out.mono ?_;rintro r w5 ⟨rfl,hD,hS5⟩)
      |(go_at_call 187;with_reducible refine Cm HT2.out ?_)
      |(go_at_call 92;with_reducible refine Cm (HH.out _) ?_)
      |(go_at_call 184;with_reducible refine HBY.out.mono ?_;rintro r w2 ⟨v1,rfl,h2,hS2⟩
        have HS2:=Bo hS2;have HT2:=Bo (HTL.out w2 v1 h2);have HFA:=Bo (fail_any h2 (longE s.st) HLE.out _ rfl);have c24:w2.cell? ⟨g,24,none⟩=some (.int .i64 6):=by have:=h2.cs.c24;rw [show ({s with rd:=s.rd.byte c}:T).st=6 from H6.out] at this;exact this
        have c13:=h2.cs.c13;clear h2 hS2 c25))
     go_ret;exact ⟨rfl,_,⟨_,rfl,hD⟩,HS2.out.trans hS5⟩
  ·have t6:((s.st:Int)==6)=false:=beq_eq_false_iff_ne.2 (by omega);have m6:¬(s.st:Int)=6:=by omega
   have m6n:¬s.st=6:=h6;rw [beq_eq_false_iff_ne.2 h6,As,if_neg (by decide)];clear HH0 h6;go_enter Tryz.func160,Tryz.ntmps160
   go_wp2_with (first
    |(go_at_call 159;with_reducible refine HFA.out.mono ?_;rintro r w5 ⟨rfl,hD,hS5⟩)
    |(go_at_call 187;with_reducible refine Cm HT2.out ?_)
    |(go_at_call 184;with_reducible refine HBY.out.mono ?_;rintro r w2 ⟨v1,rfl,h2,hS2⟩
      have HS2:=Bo hS2;have HT2:=Bo (HTL.out w2 v1 h2);have HFA:=Bo (fail_any h2 (longE s.st) HLE.out _ rfl);have c24:w2.cell? ⟨g,24,none⟩=some (.int .i64 (s.st:Int)):=h2.cs.c24;clear h2 hS2 c25))
   go_ret;exact ⟨rfl,_,⟨_,rfl,hD⟩,HS2.out.trans hS5⟩
theorem XXlfn {P:Prop} (h:P:=by
 rw [hst] at c24;go_enter Tryz.func117,Tryz.ntmps117;go_upto_region 10 with fail
 refine Each.region 8 [23,24,25,26,27,28,29,30] [eP g 0,eP g 0,eP g 1,eP g 0,eP g 0,eP g 14,eP g 16,eQ (.int .i64 b.x2)] (.act 8 (.quiet 9 .done)) (by kernel_rfl) (by kernel_rfl) (by kernel_rfl) (by kernel_rfl) (fun _ _ d _ _ h=>by cases d<;>exact h) (by rfl) (by rfl) (by repeat first | exact trivial | refine ⟨AI _,?_⟩) ?_ ?_
 ·refine ⟨?_,?_,?_,?_,?_,?_,?_,?_,trivial⟩
  all_goals (refine AJ rfl (fun ev w1 hR hb hh=>?_);have e0:=hR.old 0 rfl;simp only [Af,BY,BQ,BR,Di] at e0;have q16:=(HQ.out.below hb).c 16 _ rfl;exact Each.std)
 intro g1 w2 hb hf;have z25:g1 25= _:=hf.at 2;have z30:g1 30= _:=hf.at 7;clear hf;simp only [AM,Ab,C7,CA,C9];rw [z25,z30];simp only [DU,DV,BR,BQ]
 have HS1:=Bo (DD hb (L:=blks g q v f bd t o))
 have HFI:=Bo (count_any b.x2 (H.out.below hb) hsz);clear hb HQ;rw [HTR.out] at HFI
 refine DS (by rfl) (fun K hK=>?_)
 refine Each.oper_enter (g:=158) (args:=#[.pointer (some ⟨g,1,none⟩),.int .i64 b.x2]) (by go_simp) (HFI.out.mono ?_);rintro r w3 ⟨rfl,hP,hS⟩;refine ⟨_,rfl,?_⟩;refine hK _ _ trivial ?_;clear hK K;simp only [Ab,C7,CA,C9];refine DW (by rfl) (.bool false) (fun _ _=>by go_simp) ?_;simp only [Ab,C7,CA,C9];refine DT ?_
 have HP2:=Bo hP;have HS2:=Bo (HS1.out.trans hS);clear HFI HS1 hS
 have HI:=Bo (inLine_any hp hb0 c hP (ok.counted hb0 hov) (by rw [counted_out];exact hout));clear hP
 go_wp2_with (go_at_call 160;with_reducible refine HI.out.mono ?_;rintro r w4 ⟨rfl,L4,hA,hS4⟩);go_ret
 exact ⟨rfl,L4,hA,HS2.out.trans hS4⟩):P:=h
theorem XXJzP {P:Prop} (h:P:=by
 rw [hst] at c24;go_enter Tryz.func117,Tryz.ntmps117;go_upto_region 10 with fail
 refine Each.region 8 [23,24,25,26,27,28,29,30] [eP g 0,eP g 0,eP g 1,eP g 0,eP g 0,eP g 14,eP g 16,eQ (.int .i64 b.x2)] (.act 8 (.quiet 9 .done)) (by kernel_rfl) (by kernel_rfl) (by kernel_rfl) (by kernel_rfl) (fun _ _ d _ _ h=>by cases d<;>exact h) (by rfl) (by rfl) (by repeat first | exact trivial | refine ⟨AI _,?_⟩) ?_ ?_
 ·refine ⟨?_,?_,?_,?_,?_,?_,?_,?_,trivial⟩
  all_goals (refine AJ rfl (fun ev w1 hR hb hh=>?_);have e0:=hR.old 0 rfl;simp only [Af,BY,BQ,BR,Di] at e0;have q16:=(HQ.out.below hb).c 16 _ rfl;exact Each.std)
 intro g1 w2 hb hf;have z25:g1 25= _:=hf.at 2;have z30:g1 30= _:=hf.at 7;clear hf;simp only [AM,Ab,C7,CA,C9];rw [z25,z30];simp only [DU,DV,BR,BQ]
 have HS1:=Bo (DD hb (L:=blks g q v f bd t o))
 have HFI:=Bo (count_any b.x2 (H.out.below hb) hsz);clear hb HQ;rw [HTR.out] at HFI
 refine DS (by rfl) (fun K hK=>?_)
 refine Each.oper_enter (g:=158) (args:=#[.pointer (some ⟨g,1,none⟩),.int .i64 b.x2]) (by go_simp) (HFI.out.mono ?_);rintro r w3 ⟨rfl,hP,hS⟩;refine ⟨_,rfl,?_⟩;refine hK _ _ trivial ?_;clear hK K;simp only [Ab,C7,CA,C9];refine DW (by rfl) (.bool true) (fun _ _=>by go_simp) ?_;simp only [Ab,C7,CA,C9];refine DT ?_
 have HP2:=Bo hP;have HS2:=Bo (HS1.out.trans hS);clear HFI HS1 hS
 have HF:=Bo (fail_any hP 431 (by decide) 431 rfl);clear hP
 go_wp2_with (go_at_call 159;with_reducible refine HF.out.mono ?_;rintro r w4 ⟨rfl,hD,hS4⟩);go_ret
 exact ⟨rfl,_,⟨_,rfl,by rw [counted_out] at hD;exact hD⟩,HS2.out.trans hS4⟩):P:=h
theorem XXvW3 {P:Prop} (h:P:=by
 rw [hst] at c24;clear hst;go_enter Tryz.func117,Tryz.ntmps117
 go_wp2_with (first
  |(go_at_call 157;with_reducible refine HED.out.mono ?_;rintro r w5 ⟨rfl,q1,v1,f1,bd2,t1,o1,hP,hS5⟩)
  |(go_at_call 156;with_reducible refine HK.out.mono ?_;rintro r w4 ⟨rfl,bd1,h2,hS2⟩
    have HS2:=Bo hS2;have HED:=Bo (HK9.out w4 bd1 h2);clear h2 hS2))
 go_ret
 exact ⟨rfl,_,⟨_,_,_,_,_,_,rfl,hP⟩,HS2.out.trans hS5⟩):P:=h
theorem XXbrj {P:Prop} (h:P:=by
 rw [hst] at c24;clear hst;go_enter Tryz.func117,Tryz.ntmps117
 go_wp2_with (go_at_call 156;with_reducible refine HK.out.mono ?_;rintro r w4 ⟨rfl,bd1,h2,hS2⟩);go_ret
 exact ⟨rfl,_,⟨_,_,_,_,_,_,rfl,h2⟩,hS2⟩):P:=h
theorem look_any (hp:p<4294967296) (hb0:b.right=true) (c:UInt8) (h:PR w B g q v f bd t o p b s) (ok:s.Ok) (hout:s.out.length≤1000000000):Calls EL 117 #[ptr g,.int .u8 (c.toNat:Int)] w fun r w'=>
 r=.returned (.bool (s.look p b c).2)∧∃L1,At w' B g p b L1 (s.look p b c).1∧Step (blks g q v f bd t o) L1 w w':=by
 have H:=Bo h;have c24:=h.cs.c24;by_cases hbd:bodied s.st=true
 ·have hl:=ok.left hbd;have hbl:=ok.body
  have HK0:=keep_any c h ⟨hl,by omega⟩ (by omega)
  have HK9:=Bo (fun (w2:World) (bd1:Value) (h2:PR w2 B g q v f bd1 t o p b (s.keep c))=>endData_any hp h2 hout);have hst:s.st=3∨s.st=5:=by unfold bodied at hbd;simpa using hbd
  unfold T.look;rw [if_pos hbd];clear h hb0 hbl hout ok hbd;by_cases h1:s.left=1
  ·rw [decide_eq_true h1] at HK0;have HK:=Bo HK0;rw [if_pos h1];clear HK0 h1 hl;rcases hst with hst | hst
   ·exact XXvW3
   ·exact XXvW3
  ·rw [decide_eq_false h1] at HK0;have HK:=Bo HK0;rw [if_neg h1];clear HK0 h1 hl;rcases hst with hst | hst
   ·exact XXbrj
   ·exact XXbrj
 ·have hbd:bodied s.st=false:=by simpa using hbd
  unfold T.look;rw [if_neg (by rw [hbd];decide)];have hn:¬s.st=3∧¬s.st=5:=by unfold bodied at hbd;simpa using hbd
  by_cases hhd:headed s.st=true
  ·rw [if_pos hhd];have hst:s.st=1∨s.st=2∨s.st=7:=by
    unfold headed at hhd;simp only [Ax,beq_iff_eq] at hhd;omega
   have hsz:s.size≤1000000:=CT ok.size (by decide)
   have HQ:=Bo ((h.drew 1).bk);clear hhd hn
   by_cases hov:b.x2<(s.counted.size:Int)
   ·rw [if_pos hov]
    have HTR:=Bo (show (!decide (b.x2<(s.counted.size:Int)))=false by rw [decide_eq_true hov];rfl);clear hov h hbd hout hb0 ok;rcases hst with hst | hst | hst
    ·exact XXJzP
    ·exact XXJzP
    ·exact XXJzP
   ·rw [if_neg hov]
    have HTR:=Bo (show (!decide (b.x2<(s.counted.size:Int)))=true by rw [decide_eq_false hov];rfl);clear h hbd;rcases hst with hst | hst | hst
    ·exact XXlfn
    ·exact XXlfn
    ·exact XXlfn
  ·rw [if_neg hhd];have hn2:¬s.st=1∧¬s.st=2∧¬s.st=7:=by
    unfold headed at hhd;simp only [Ax,beq_iff_eq] at hhd;omega
   have t1:((s.st:Int)==1)=false:=beq_eq_false_iff_ne.2 (by omega);have m1:¬(s.st:Int)=1:=by omega
   have t2:((s.st:Int)==2)=false:=beq_eq_false_iff_ne.2 (by omega);have m2:¬(s.st:Int)=2:=by omega
   have t3:((s.st:Int)==3)=false:=beq_eq_false_iff_ne.2 (by omega);have m3:¬(s.st:Int)=3:=by omega
   have t5:((s.st:Int)==5)=false:=beq_eq_false_iff_ne.2 (by omega);have m5:¬(s.st:Int)=5:=by omega
   have t7:((s.st:Int)==7)=false:=beq_eq_false_iff_ne.2 (by omega);have m7:¬(s.st:Int)=7:=by omega
   have HI:=Bo (inLine_any hp hb0 c h ok hout);clear h hbd ok hout hb0 hhd hn hn2;go_enter Tryz.func117,Tryz.ntmps117
   go_wp2_with (go_at_call 160;with_reducible refine HI.out.mono ?_;rintro r w4 ⟨rfl,L4,hA,hS4⟩);go_ret;exact ⟨rfl,L4,hA,hS4⟩
end code
end Go.Proofs.YtnabkcglnbdfeaaGreatDoor.Pg
namespace Go.Proofs.YtnabkcglnbdfeaaGreatDoor.Pg
open Go.RowKit Base Txt Par
section
variable {p:Nat} {b:Bd} {t t':T}
theorem feed_cons (x:Q) (c:UInt8) (l:List UInt8):x.feed p b (c::l)=(x.byte p b c).feed p b l:=rfl
theorem feed_app (x:Q) (l l':List UInt8):x.feed p b (l++l')=(x.feed p b l).feed p b l':=List.foldl_append
def T.room (b:Bd) (t:T) (n:Nat):Prop:=headed t.st=true→((t.size+n:Nat):Int)≤b.x2
structure T.Open (t:T):Prop where
 st:bodied t.st=false
 pend:t.rd.pend=false
 nf:Ln.failed t.rd.last=false
def T.went (t:T) (rd:Ln.M) (n:Nat):T:={t with rd:=rd,size:=if headed t.st=true then t.size+n else t.size,cnt:=headed t.st}
end
end Go.Proofs.YtnabkcglnbdfeaaGreatDoor.Pg
namespace Go.Proofs.YtnabkcglnbdfeaaGreatDoor.Pg
open Go.RowKit Base Txt Mem Par
def Q.Ok (b:Bd):Q→Prop
 | .live t=>t.Ok∧b.right=true
 | .dead _ _=>True
section
variable {p:Nat} {b:Bd} {t t':T} {s:List UInt8}
theorem line_out (t:T) (s:List UInt8):(t.line p b s).2.out.length≤t.out.length+1:=by
 have hf:t.fin.out.length≤t.out.length+1:=by show (t.out ++ [t.r]).length≤_;simp
 unfold T.line T.first T.fields T.endHead T.chunk T.trail;split
 ·split
  ·exact CS _
  ·dsimp only;split<;>exact CS _
 ·split
  ·split
   ·dsimp only;split
    ·exact CS _
    ·split
     ·exact CS _
     ·split
      ·exact hf
      ·exact CS _
   ·exact CS _
  ·split
   ·dsimp only;split
    ·exact CS _
    ·split
     ·exact CS _
     ·split<;>exact CS _
   ·split
    ·split
     ·exact hf
     ·exact CS _
    ·exact CS _
theorem inLine_out (t:T) (c:UInt8):(t.inLine p b c).1.out.length≤t.out.length+1:=by
 unfold T.inLine;dsimp only;split
 ·exact CS _
 ·split
  ·exact CS _
  ·split
   ·split<;>exact CS _
   ·have h:=line_out (p:=p) (b:=b) {t with rd:=t.rd.byte c} (t.rd.byte c).line;unfold ends;split<;>exact h
theorem look_out (t:T) (c:UInt8):(t.look p b c).1.out.length≤t.out.length+1:=by
 unfold T.look;split
 ·split
  ·show (T.endData p (t.keep c)).out.length≤_;unfold T.endData;split
   ·exact CS _
   ·show (t.out ++ [_]).length≤_;simp
  ·exact CS _
 ·split
  ·split
   ·exact CS _
   ·have h:=inLine_out (p:=p) (b:=b) t.counted c;rw [counted_out] at h;exact h
  ·exact inLine_out t c
theorem take_out (t:T) (c:UInt8):(t.take p b c).out.length≤t.out.length+2:=by
 have h:=look_out (p:=p) (b:=b) {t with cnt:=false} c;have e:({t with cnt:=false}:T).out=t.out:=rfl;rw [e] at h;unfold T.take;rcases hx:({t with cnt:=false}:T).look p b c with ⟨t1 | ⟨e,o⟩,u⟩
 ·rw [hx] at h;have h:t1.out.length≤t.out.length+1:=h;cases u with
  | true=>show t1.out.length≤_;omega
  | false=>
    have h2:=look_out (p:=p) (b:=b) t1 c;show (t1.look p b c).1.out.length≤_;omega
 ·rw [hx] at h;have h:o.length≤t.out.length+1:=h
  cases u<;> (show o.length≤_;omega)
theorem Q.byte_out (x:Q) (c:UInt8):(x.byte p b c).out.length≤x.out.length+2:=by
 cases x with
 | live t=>exact take_out t c
 | dead e o=>show o.length≤o.length+2;omega
theorem Q.feed_out:∀(l:List UInt8) (x:Q),(x.feed p b l).out.length≤x.out.length+2*l.length
 | [],_=>CQ _
 | c::l,x=>by
   have h1:=Q.byte_out (p:=p) (b:=b) x c
   have h2:=Q.feed_out l (x.byte p b c);rw [feed_cons,List.length_cons];omega
theorem Q.Ok.byte {x:Q} (h:x.Ok b) (c:UInt8):(x.byte p b c).Ok b:=by
 cases x with
 | live t=>
   show (t.take p b c).Ok b;rcases hx:t.take p b c with t1 | ⟨e,o⟩
   ·exact ⟨T.Ok.take h.1 h.2 c hx,h.2⟩
   ·trivial
 | dead e o=>trivial
theorem Q.Ok.feed:∀(l:List UInt8) {x:Q},x.Ok b→(x.feed p b l).Ok b
 | [],_,h=>h
 | c::l,_,h=>Q.Ok.feed l (h.byte c)
end
structure Bts (L:List (Option Nat)) (w:World) (a:Option Addr) (l:List UInt8):Prop where
 nums:Nums .u8 w a l.length (l.map fun c=>(c.toNat:Int))
 far:∀ad,a=some ad→some ad.block∉L∧ad.block<w.heap.size
structure Parts (L:List (Option Nat)) (w:World) (a:Option Addr) (ls:List (List UInt8)):Prop where
 cells:0<ls.length→∃bk off,a=some ⟨bk,off,none⟩∧bk<w.heap.size∧some bk∉L∧∀k (hk:k<ls.length),∃ak ck,w.cell? ⟨bk,off+k,none⟩=some (.slice ak ls[k].length ck)∧Bts L w ak ls[k]
theorem Bts.step {L L':List (Option Nat)} {w w':World} {a:Option Addr} {l:List UInt8} (h:Bts L w a l) (hs:Step L L' w w'):Bts L' w' a l:=by
 refine ⟨nums_keeps h.nums hs.keeps (fun c=>?_),fun ad e=>⟨fun hm=>?_,CV (h.far ad e).2 hs.keeps.size⟩⟩
 ·cases ha:a with
  | none=>exact .inl rfl
  | some ad=>exact .inr ⟨ad.block,rfl,(h.far ad ha).1⟩
 ·rcases hs.of _ hm with h1 | h1
  ·exact (h.far ad e).1 h1
  ·have:=(h.far ad e).2;omega
theorem Parts.step {L L':List (Option Nat)} {w w':World} {a:Option Addr} {ls:List (List UInt8)} (h:Parts L w a ls) (hs:Step L L' w w'):Parts L' w' a ls:=by
 refine ⟨fun h0=>?_⟩;obtain ⟨bk,off,e,hlt,hn,hc⟩:=h.cells h0;refine ⟨bk,off,e,CV hlt hs.keeps.size,fun hm=>?_,fun k hk=>?_⟩
 ·rcases hs.of _ hm with h1 | h1
  ·exact hn h1
  ·omega
 ·obtain ⟨ak,ck,h1,h2⟩:=hc k hk;exact ⟨ak,ck,(hs.keeps.cell (p:=⟨bk,off+k,none⟩) hlt hn).trans h1,h2.step hs⟩
section code
set_option maxHeartbeats 4000000
set_option maxRecDepth 20000
attribute [local go_sem] Al
variable {w:World} {B:Zone} {g q:Nat} {v f bd t o:Value} {p:Nat} {b:Bd} {s:T}
theorem Dead.cell0 {e:Nat} {out:List Dx} (h:Dead w B g e o out):w.cell? ⟨g,0,none⟩=some (.int .i64 (e:Int)):=row_cellL h.row rfl
theorem Dead.put {e:Nat} {out:List Dx} (h:Dead w B g e o out) (k:Nat) (u:Value) (o':Value) (out':List Dx) (hc:(deadcells e o).set k u=deadcells e o') (hO:Outs [some g,o'.ownBlock] B (w.setCell ⟨g,k,none⟩ u) o' out') (hn:o'.ownBlock≠some g) (hz:o'.ownBlock=none∨o'.ownBlock=o.ownBlock):Dead (w.setCell ⟨g,k,none⟩ u) B g e o' out':=
 ⟨by rw [←hc];exact row_setL h.row k u,hO,hn,h.ge,by simpa using h.lt,h.bad,h.zone.of (by simp) fun k hk=>.inl (by
   rcases (by simpa using hk:k=g∨some k=o'.ownBlock) with e | e
   ·simp [e]
   ·rcases hz with z | z
    ·rw [z] at e;cases e
    ·rw [←z,←e];simp)⟩
theorem Dead.same {e:Nat} {out:List Dx} (h:Dead w B g e o out) (k:Nat) (u:Value) (hc:(deadcells e o).set k u=deadcells e o):Dead (w.setCell ⟨g,k,none⟩ u) B g e o out:=
 h.put k u o out hc (h.O.keeps (Bf g k u (C1.2 rfl)) (fun k hk=>by simp only [C1] at hk;simp [hk]) (fun k e hm=>h.ne (by rw [e,C1.1 hm]))) h.ne (.inr rfl)
theorem XXQzO {P:Prop} (h:P:=by
 clear htw hx hok2 hoo;go_enter Tryz.func75,Tryz.ntmps75;go_upto_region 1 with fail
 generalize w.setCell ⟨g,7,none⟩ (.bool false)=W1 at *;clear c7 z7
 have HF:=Bo (failed_live H1.out.cs.c0)
 have HL1:=Bo (HL.out _ H1.out);refine wp_loop_rounds 1 ?_;rw [rounds_succ]
 go_wp2_with (first
  |(go_at_call 117;with_reducible refine HL1.out.mono ?_;rintro r w2 ⟨rfl,L2,hA,hS2⟩)
  |(go_at_call 81;with_reducible refine Cm HF.out ?_))
 first | go_end0 | refine bodyPost_ret (results_none rfl _ _ _) rfl ?_
 exact ⟨rfl,_,hA,HS1.out.trans hS2⟩):P:=h
theorem take_any (hp:p<4294967296) (c:UInt8) (x:Q) {L:List (Option Nat)} (h:At w B g p b L x) (ok:x.Ok b) (hout:x.out.length≤999999998):Calls EL 75 #[ptr g,.int .u8 (c.toNat:Int)] w fun r w'=>
 r=.returned (.tuple #[])∧∃L',At w' B g p b L' (x.byte p b c)∧Step L L' w w':=by
 cases x with
 | dead e out=>
   obtain ⟨o,rfl,hd⟩:=h
   have H1:=Bo (hd.same 7 (.bool false) rfl)
   have HS1:=Bo (DF (w:=w) (L:= [some g,o.ownBlock]) g 7 (.bool false) (by simp));have HB:=Bo hd.bad;have c7:=row_cellL hd.row (k:=7) rfl;have z7:=CL hd.row 7;clear hd ok hout;go_enter Tryz.func75,Tryz.ntmps75;go_upto_region 1 with fail
   generalize w.setCell ⟨g,7,none⟩ (.bool false)=W1 at *;clear c7 z7
   have HF:=Bo (failed_dead H1.out.cell0 HB.out);refine wp_loop_rounds 1 ?_;rw [rounds_succ]
   go_wp2_with (go_at_call 81;with_reducible refine Cm HF.out ?_);first | go_end0 | refine bodyPost_ret (results_none rfl _ _ _) rfl ?_
   exact ⟨rfl,_,⟨_,rfl,H1.out⟩,HS1.out⟩
 | live s=>
   obtain ⟨q,v,f,bd,t,o,rfl,h⟩:=h
   have H1:=Bo (h.put 7 (.bool false) {s with cnt:=false} rfl rfl rfl rfl rfl rfl)
   have HS1:=Bo (DF (w:=w) (L:=blks g q v f bd t o) g 7 (.bool false) (by simp));have c7:=h.cs.c7;have z7:=h.marks 7;obtain ⟨ok,hb0⟩:s.Ok∧b.right=true:=ok;have hout:s.out.length≤999999998:=hout;have ok1:=ok.cleared;obtain ⟨S1,hS1⟩:∃S1:T,{s with cnt:=false}=S1:=⟨_,rfl⟩;have ho1:S1.out.length≤999999998:=by rw [←hS1];exact hout
   rw [hS1] at ok1 H1
   have e:Q.byte p b (.live s) c=(match S1.look p b c with
    |(.live t1,false)=>(t1.look p b c).1
    |(x,_)=>x):=by rw [←hS1];rfl
   have HL:=Bo (fun (w2:World) (h2:PR w2 B g q v f bd t o p b S1)=>look_any hp hb0 c h2 ok1 (by omega));have htw:=fun t'=>look_twice (p:=p) (t':=t') ok1 hb0 c;have hoo:=look_out (p:=p) (b:=b) S1 c;have hok2:=fun t' (h:(S1.look p b c).1=.live t')=>ok1.look hb0 c h;rw [e];clear h ok hout e hS1;rcases hx:S1.look p b c with ⟨t1 | ⟨e,out⟩,u⟩
   ·rw [hx] at HL hoo;cases u with
    | true=>
      show Calls _ _ _ _ fun r w'=>r=.returned (.tuple #[])∧∃L',At w' B g p b L' (.live t1)∧Step _ L' w w';exact XXQzO
    | false=>
      have hu:=htw t1 hx;show Calls _ _ _ _ fun r w'=>r=.returned (.tuple #[])∧∃L',At w' B g p b L' (t1.look p b c).1∧Step _ L' w w'
      have ok2:=hok2 t1 (by rw [hx]);have hoo:t1.out.length≤S1.out.length+1:=hoo
      have HL9:=fun (w2:World) (q v f bd t o) (h2:PR w2 B g q v f bd t o p b t1)=>look_any hp hb0 c h2 ok2 (by omega);rw [hu] at HL9;have HL2:=Bo HL9;clear htw hx hok2 hoo hu ok2 HL9;go_enter Tryz.func75,Tryz.ntmps75;go_upto_region 1 with fail
      generalize w.setCell ⟨g,7,none⟩ (.bool false)=W1 at *;clear c7 z7
      have HF:=Bo (failed_live H1.out.cs.c0)
      have HL1:=Bo (HL.out _ H1.out);refine wp_loop_rounds 2 ?_;rw [rounds_succ]
      go_wp2_with (first
       |(go_at_call 117;with_reducible refine HL1.out.mono ?_;rintro r w2 ⟨rfl,L2,hA,hS2⟩)
       |(go_at_call 81;with_reducible refine Cm HF.out ?_))
      obtain ⟨q2,v2,f2,bd2,t2,o2,rfl,h2⟩:=hA
      have HF2:=Bo (failed_live h2.cs.c0)
      have HL3:=Bo (HL2.out _ _ _ _ _ _ _ h2)
      have HS2:=Bo (HS1.out.trans hS2);clear h2 hS2 HF HL1 HL2 H1 HS1;rw [rounds_succ]
      go_wp2_with (first
       |(go_at_call 117;with_reducible refine HL3.out.mono ?_;rintro r w4 ⟨rfl,L4,hA4,hS4⟩)
       |(go_at_call 81;with_reducible refine Cm HF2.out ?_))
      first | go_end0 | refine bodyPost_ret (results_none rfl _ _ _) rfl ?_
      exact ⟨rfl,_,hA4,HS2.out.trans hS4⟩
   ·rw [hx] at HL hoo;cases u with
    | true=>
      show Calls _ _ _ _ fun r w'=>r=.returned (.tuple #[])∧∃L',At w' B g p b L' (.dead e out)∧Step _ L' w w';exact XXQzO
    | false=>
      show Calls _ _ _ _ fun r w'=>r=.returned (.tuple #[])∧∃L',At w' B g p b L' (.dead e out)∧Step _ L' w w';clear htw hx hok2 hoo;go_enter Tryz.func75,Tryz.ntmps75;go_upto_region 1 with fail
      generalize w.setCell ⟨g,7,none⟩ (.bool false)=W1 at *;clear c7 z7
      have HF:=Bo (failed_live H1.out.cs.c0)
      have HL1:=Bo (HL.out _ H1.out);refine wp_loop_rounds 2 ?_;rw [rounds_succ]
      go_wp2_with (first
       |(go_at_call 117;with_reducible refine HL1.out.mono ?_;rintro r w2 ⟨rfl,L2,hA,hS2⟩)
       |(go_at_call 81;with_reducible refine Cm HF.out ?_))
      obtain ⟨o2,rfl,h2⟩:=hA
      have HF2:=Bo (failed_dead h2.cell0 h2.bad);have HD2:=Bo h2
      have HS2:=Bo (HS1.out.trans hS2);clear h2 hS2 HF HL1 H1 HS1;rw [rounds_succ]
      go_wp2_with (go_at_call 81;with_reducible refine Cm HF2.out ?_);first | go_end0 | refine bodyPost_ret (results_none rfl _ _ _) rfl ?_
      exact ⟨rfl,_,⟨_,rfl,HD2.out⟩,HS2.out⟩
end code
end Go.Proofs.YtnabkcglnbdfeaaGreatDoor.Pg
namespace Go.Proofs.YtnabkcglnbdfeaaGreatDoor.Pg
open Go.RowKit Base Txt Mem Par
structure Told (L:List (Option Nat)) (B:Zone) (w:World) (o:Value) (out:List Dx):Prop where
 outs:Outs L B w o out
 far:∀k,o.ownBlock=some k→some k∉L∧k<w.heap.size
 off:∀k,o.ownBlock=some k→some k∉B.z
theorem Told.step {L L':List (Option Nat)} {B:Zone} {w w':World} {o:Value} {out:List Dx} (h:Told L B w o out) (hs:Step L L' w w'):Told L' B w' o out:=by
 obtain ⟨ps,h1,h2,h3⟩:=h.outs;refine ⟨⟨ps,h1,fun x hx=>⟨(h2 x hx).1,⟨((h2 x hx).2.keeps hs.keeps).reads,fun k hb=>⟨fun hm=>?_,CV ((h2 x hx).2.far k hb).2 hs.keeps.size⟩,(h2 x hx).2.off⟩⟩,hs.keeps.own h3 (fun k e=>(h.far k e).1)⟩,fun k e=>⟨fun hm=>?_,CV (h.far k e).2 hs.keeps.size⟩,h.off⟩
 ·rcases hs.of k hm with e | e
  ·exact ((h2 x hx).2.far k hb).1 e
  ·exact absurd ((h2 x hx).2.far k hb).2 (by omega)
 ·rcases hs.of k hm with h1 | h1
  ·exact (h.far k e).1 h1
  ·have:=(h.far k e).2;omega
section code
set_option maxHeartbeats 4000000
set_option maxRecDepth 20000
attribute [local go_sem] Al
variable {w:World} {B:Zone} {g q:Nat} {v f bd t o:Value} {p:Nat} {b:Bd} {s:T}
theorem Own.less {rd:Ln.M} {fs ts:List Fld} {body:List UInt8} {out:List Dx} (h:Own w B g q v f bd t o rd fs body ts out):Own w B g q v f bd t nil rd fs body ts []:=by
 have e:blks g q v f bd t nil=(blks g q v f bd t o).set 6 none:=rfl;refine ⟨h.R,h.F,h.D,h.TR,⟨[],rfl,(by intro x hx;cases hx),FK _ _ _ _⟩,?_,h.ge,h.lt,h.zone.of (CQ _) (by rw [e];exact Of.set 6 none (.inl rfl))⟩;rw [e]
 exact h.lone.set h.in 6 none (.inl rfl)
theorem At.below {L:List (Option Nat)} {w':World} {x:Q} (h:At w B g p b L x) (hb:Below w.heap.size w w'):At w' B g p b L x:=by
 cases x with
 | live s=>
   obtain ⟨q,v,f,bd,t,o,rfl,h⟩:=h;exact ⟨q,v,f,bd,t,o,rfl,h.below hb⟩
 | dead e out=>
   obtain ⟨o,rfl,h⟩:=h;refine ⟨o,rfl,(hb.block g h.lt).trans h.row,h.O.keeps (Be hb:Keeps [] w w') (by simp) (by simp),h.ne,h.ge,CV h.lt hb.size,h.bad,h.zone.of hb.size Dg⟩
theorem At.low {L:List (Option Nat)} {x:Q} (h:At w B g p b L x):∀k,some k∈L→B≤k:=by
 cases x with
 | live s=>
   obtain ⟨q,v,f,bd,t,o,rfl,h⟩:=h;exact h.own.low
 | dead e out=>
   obtain ⟨o,rfl,h⟩:=h;intro k hk;obtain ⟨ps, -, -,h3⟩:=h.O;rcases (by simpa using hk:k=g∨some k=o.ownBlock) with e | e
   ·rw [e];exact h.ge
   ·exact (FJ h3 k e.symm).1
theorem At.in {L:List (Option Nat)} {x:Q} (h:At w B g p b L x):In w L:=by
 cases x with
 | live s=>
   obtain ⟨q,v,f,bd,t,o,rfl,h⟩:=h;exact h.own.in
 | dead e out=>
   obtain ⟨o,rfl,h⟩:=h;intro k hk;obtain ⟨ps, -, -,h3⟩:=h.O;rcases (by simpa using hk:k=g∨some k=o.ownBlock) with e | e
   ·rw [e];exact h.lt
   ·exact (FJ h3 k e.symm).2
theorem _root_.Go.Proofs.YtnabkcglnbdfeaaGreatDoor.XXTkD {P:Prop} (h:P:=by
 obtain ⟨i,hi⟩:=List.getElem?_of_mem hm;have h6:(blks g q v f bd t o)[6]?=some (some k):=by rw [←e];rfl
 rcases i with _ | _ | _ | _ | _ | _ | _ | i
 ·exact h.own.lone.ne (i:=0) (j:=6) (k:=k) hi (by decide) h6
 ·exact h.own.lone.ne (i:=1) (j:=6) (k:=k) hi (by decide) h6
 ·exact h.own.lone.ne (i:=2) (j:=6) (k:=k) hi (by decide) h6
 ·exact h.own.lone.ne (i:=3) (j:=6) (k:=k) hi (by decide) h6
 ·exact h.own.lone.ne (i:=4) (j:=6) (k:=k) hi (by decide) h6
 ·exact h.own.lone.ne (i:=5) (j:=6) (k:=k) hi (by decide) h6
 ·cases hi
 ·cases hi):P:=h
theorem _root_.Go.Proofs.YtnabkcglnbdfeaaGreatDoor.XX5KD {P:Prop} (h:P:=by
 simp only [Cw,C3,or_false,Value.ownBlock,reduceCtorEq] at hk ⊢
 rcases hk with e | e | e | e | e | e<;>simp [e]):P:=h
theorem At.tell {L:List (Option Nat)} {x:Q} (h:At w B g p b L x):∃o L',w.cell? ⟨g,26,none⟩=some o∧w.frozen? ⟨g,26,none⟩=false∧At (w.setCell ⟨g,26,none⟩ nil) B g p b L' x.told∧Told L' B (w.setCell ⟨g,26,none⟩ nil) o x.out∧Step L L' w (w.setCell ⟨g,26,none⟩ nil):=by
 cases x with
 | live s=>
   obtain ⟨q,v,f,bd,t,o,rfl,h⟩:=h;have hg:(blks g q v f bd t o)[0]?=some (some g):=rfl
   have hne:o.ownBlock≠some g:=fun e=>h.own.lone.ne (i:=0) (j:=6) rfl (by decide) (by rw [←e];rfl);have hsub:∀k,some k∈blks g q v f bd t nil→some k∈blks g q v f bd t o:=fun k hk=>by exact XX5KD
   refine ⟨o,blks g q v f bd t nil,h.cs.c26,h.marks 26,⟨q,v,f,bd,t,nil,rfl,⟨row_setL h.row 26 nil,(h.own.less).set 26 nil⟩⟩,⟨Outs.less (h.own.O.keeps (Bf g 26 nil (C1.2 rfl)) (fun k hk=>by simp only [C1] at hk;simp [hk]) (fun k e hm=>hne (by rw [e,C1.1 hm]))) (fun k hk=>.inl (hsub k hk)),fun k e=>⟨fun hm=>?_,?_⟩,fun k e=>h.own.zone.off k (Cy (i:=6) (by rw [←e];rfl))⟩,⟨Bf g 26 nil (Cy hg),fun k hk=>.inl (hsub k hk)⟩⟩
   ·exact XXTkD
   ·have:=h.own.in k (Cy (i:=6) (by rw [←e];rfl));simpa using this
 | dead e out=>
   obtain ⟨o,rfl,h⟩:=h;obtain ⟨ps, -, -,h3⟩:=h.O;refine ⟨o,[some g,none],row_cellL h.row rfl,CL h.row 26,⟨nil,rfl,h.put 26 nil nil [] rfl ⟨[],rfl,(by intro x hx;cases hx),FK _ _ _ _⟩ (by simp [Value.ownBlock]) (.inl rfl)⟩,⟨Outs.less (h.O.keeps (Bf g 26 nil (C1.2 rfl)) (fun k hk=>by simp only [C1] at hk;simp [hk]) (fun k e hm=>h.ne (by rw [e,C1.1 hm]))) (fun k hk=>.inl (by simpa using Or.inl (by simpa using hk))),fun k e=>⟨fun hm=>?_,?_⟩,fun k e=>h.zone.off k (by rw [←e];simp)⟩,⟨Bf g 26 nil (by simp),fun k hk=>.inl (by simpa using Or.inl (by simpa using hk))⟩⟩
   ·rcases (by simpa using hm:k=g) with rfl;exact h.ne e
   ·have:=(FJ h3 k e).2;simpa using this
theorem _root_.Go.Proofs.YtnabkcglnbdfeaaGreatDoor.XX086 {P:Prop} (h:P:=by
 have:=congrArg List.length (congrArg List.flatten (List.take_append_drop (k+1) ls));rw [List.flatten_append,Ch] at this
 omega):P:=h
theorem _root_.Go.Proofs.YtnabkcglnbdfeaaGreatDoor.XXMED {P:Prop} (h:P:=by
 go_wp2_with fail;go_roundw
 case rel=>exact ⟨k+1,by omega,by go_num,Bo ⟨Lq,HA2.out,HS2.out⟩⟩
 case measure=>simp [intOf];omega):P:=h
theorem feed_any (hp:p<4294967296) (x:Q) {L:List (Option Nat)} (h:At w B g p b L x) (ok:x.Ok b) (a:Option Addr) (ca:Nat) (ls:List (List UInt8)) (hl:Parts L w a ls) (hn:ls.length≤1000000) (hout:x.out.length+2*ls.flatten.length≤999999998) :
 Calls EL 20 #[ptr g,.slice a ls.length ca] w fun r w'=>∃o L',r=.returned o∧At w' B g p b L' (x.feed p b ls.flatten).told∧Told L' B w' o (x.feed p b ls.flatten).out∧Step L L' w w':=by
 have H:=Bo h;have HL:=Bo hl;have HOK:=Bo ok;have HOU:=Bo hout;obtain ⟨n,hnn⟩:∃n,ls.length=n:=⟨_,rfl⟩;have HN:=Bo hnn;have hn1:n≤1000000:=by omega
 rw [hnn];clear h hl ok hout hn hnn;go_enter Tryz.func20,Tryz.ntmps20;go_upto_region 2 with fail
 go_loopw [12] (fun i wr=>∃k:Nat,k≤n∧i=.int .i64 k∧Hid (∃Lr,At wr B g p b Lr (x.feed p b (ls.take k).flatten)∧Step L Lr w wr)) (fun i _=>n-(intOf i).toNat)
 case atStart=>exact ⟨0,CY _,rfl,Bo ⟨L,H.out,Step.refl⟩⟩
 case round=>
  obtain ⟨k,hk,rfl,hR⟩:=hrel;rcases CW k n with hlt | hge
  ·obtain ⟨Lr,hA,hS⟩:=hR.out;have hkl:k<ls.length:=by rw [HN.out];exact hlt
   obtain ⟨bk,off,rfl,hbk,hnb,hc⟩:=(HL.out.step hS).cells (by omega);obtain ⟨ak,ck,hcell,hB⟩:=hc k hkl;have htk:(ls.take (k+1)).flatten=(ls.take k).flatten++ls[k]:=by rw [CE hkl,List.flatten_append];simp
   have hsum:(ls.take (k+1)).flatten.length≤ls.flatten.length:=by exact XX086
   rw [htk,Ch] at hsum;have t1:(k:Int)<(n:Int):=by omega
   have HTK:=Bo htk;obtain ⟨pl,hpl⟩:∃pl,ls[k]=pl:=⟨_,rfl⟩;rw [hpl] at hcell hB hsum HTK;have hpb:pl.length≤1000000000:=by have:=HOU.out;omega
   obtain ⟨m,hm⟩:∃m,pl.length=m:=⟨_,rfl⟩;rw [hm] at hcell hpb hsum;have HM:=Bo hm;obtain ⟨X,hX⟩:∃X,x.feed p b (ls.take k).flatten=X:=⟨_,rfl⟩;have hXok:X.Ok b:=by rw [←hX];exact Q.Ok.feed _ HOK.out
   have hXo:X.out.length+2*m≤999999998:=by have:=Q.feed_out (p:=p) (b:=b) (ls.take k).flatten x;rw [hX] at this;have:=HOU.out;omega
   rw [hX] at hA;have HX:=Bo hX;have HXO:=Bo hXok;have HXL:=Bo hXo;have HA:=Bo hA;have HS:=Bo hS;have HB:=Bo hB;clear hA hS hB hX hXok hXo hsum htk hpl hm hc hR hnb hbk;go_upto_region 5 with fail
   clear hcell
   go_loopw [18] (fun j wq=>∃i:Nat,i≤m∧j=.int .i64 i∧Hid (∃Lq,At wq B g p b Lq (X.feed p b (pl.take i))∧Step Lr Lq wr wq)) (fun j _=>m-(intOf j).toNat)
   case atStart=>exact ⟨0,CY _,rfl,Bo ⟨Lr,HA.out,Step.refl⟩⟩
   case round=>
    obtain ⟨wC,hwC⟩:∃x,x=wr:=⟨_,rfl⟩;obtain ⟨i,hi,rfl,hR2⟩:=hrel;rcases CW i m with hilt | hige
    ·obtain ⟨Lq,hA2,hS2⟩:=hR2.out;have hil:i<pl.length:=by rw [HM.out];exact hilt
     obtain ⟨zb,zo,rfl,hzb,hz⟩:=(HB.out.step hS2).nums.2 (by omega);have hcell:=hz i hil;have hti:pl.take (i+1)=pl.take i ++ [pl[i]]:=CE hil;have hgi:(pl.map fun c=>(c.toNat:Int))[i]?.getD 0=(pl[i].toNat:Int):=by simp [hil]
     rw [hgi] at hcell;have HTI:=Bo hti;obtain ⟨c,hc⟩:∃c,pl[i]=c:=⟨_,rfl⟩;rw [hc] at hcell HTI;have t2:(i:Int)<(m:Int):=by omega
     have hok3:(X.feed p b (pl.take i)).Ok b:=Q.Ok.feed _ HXO.out;have hou3:(X.feed p b (pl.take i)).out.length≤999999998:=by have h1:=Q.feed_out (p:=p) (b:=b) (pl.take i) X;have h2:=HXL.out;rw [Cr] at h1;omega
     have HTA:=Bo (take_any hp c _ hA2 hok3 hou3);have HS2:=Bo hS2;clear hA2 hS2 hz hzb hti hgi hc hok3 hou3 hR2
     go_wp2_with (go_at_call 75;with_reducible refine HTA.out.mono ?_;rintro r w5 ⟨rfl,L5,hA5,hS5⟩);go_roundw
     case rel=>exact ⟨i+1,by omega,by go_num,Bo ⟨L5,by rw [HTI.out,feed_app];exact hA5,HS2.out.trans hS5⟩⟩
     case measure=>simp [intOf];omega
    ·obtain rfl:i=m:=by omega
     have t2:¬(i:Int)<(i:Int):=by omega
     obtain ⟨Lq,hA2,hS2⟩:=hR2.out
     have e:pl.take i=pl:=CD (by rw [HM.out];exact CQ _);rw [e,←HX.out,←feed_app,←HTK.out] at hA2
     have HA2:=Bo hA2;have HS2:=Bo (HS.out.trans hS2);clear hA2 hS2 e hR2;exact XXMED
  ·obtain rfl:k=n:=by omega
   have t1:¬(k:Int)<(k:Int):=by omega
   obtain ⟨Lr,hA,hS⟩:=hR.out
   have e:ls.take k=ls:=CD (by rw [HN.out];exact CQ _);rw [e] at hA;obtain ⟨o,L2,c26,z26,hA2,hT2,hS2⟩:=hA.tell
   have HA2:=Bo hA2;have HT2:=Bo hT2;have HS2:=Bo (hS.trans hS2);clear hA hS hR e hA2 hT2 hS2;go_wp2_with fail;go_ret;exact ⟨o,rfl,L2,HA2.out,HT2.out,HS2.out⟩
theorem errq_any {L:List (Option Nat)} {x:Q} (h:At w B g p b L x):Calls EL 23 #[ptr g] w fun r w'=>r=.returned (.int .i64 (x.err:Int))∧w'=w:=by
 cases x with
 | live s=>
   obtain ⟨q,v,f,bd,t,o,rfl,h⟩:=h;exact err_any h.cs.c0
 | dead e out=>
   obtain ⟨o,rfl,h⟩:=h;exact err_any h.cell0
theorem cleanq_any {L:List (Option Nat)} {x:Q} (h:At w B g p b L x):Calls EL 28 #[ptr g] w fun r w'=>r=.returned (.bool x.clean)∧w'=w:=by
 cases x with
 | live s=>
   obtain ⟨q,v,f,bd,t,o,rfl,h⟩:=h;exact clean_live h
 | dead e out=>
   obtain ⟨o,rfl,h⟩:=h
   exact clean_dead (row_cellL h.row rfl)
theorem PR.draft (h:PR w B g q v f bd t o p b s) (ok:s.Ok):Rec.Reads w (.agg #[.string s.r.m,.string s.r.x,.int .i64 s.r.k,f,.bool s.r.ch,bd,t]) s.r∧Rec.Fit s.r:=by obtain ⟨A1,c1,e1,h1⟩:=Flds.of_own h.own.F;obtain ⟨A2,c2,e2,h2⟩:=Rec.nums_of_own h.own.D;obtain ⟨A3,c3,e3,h3⟩:=Flds.of_own h.own.TR;subst e1 e2 e3;have k1:=ok.fsl;have k2:=ok.tsl;have k3:=ok.hl;have k4:=ok.bl;have k5:=ok.body;have k6:=ok.m;have k7:=ok.x;exact ⟨⟨_,_,_,_,_,_,rfl,h1,h2,h3⟩,⟨by omega,by omega,by omega,fun y hy=>by have:=ok.fss y hy;omega,by omega,by omega,fun y hy=>by have:=ok.tss y hy;omega⟩⟩
theorem XXpzh {P:Prop} (h:P:=by
 go_enter Tryz.func24,Tryz.ntmps24
 go_wp2_with (go_at_call 77;with_reducible refine Cm HN.out ?_);go_ret
 exact ⟨rfl,Am _ _⟩):P:=h
theorem waits_any {L:List (Option Nat)} {x:Q} (h:At w B g p b L x) (ok:x.Ok b):Calls EL 24 #[ptr g] w fun r w'=>r=.returned (.bool x.waits)∧Below w.heap.size w w':=by
 cases x with
 | live s=>
   obtain ⟨q,v,f,bd,t,o,rfl,h⟩:=h;obtain ⟨ok, -⟩:s.Ok∧b.right=true:=ok;have hbl:=ok.body
   have HN0:=bodyIsNext_live h (by omega)
   have HD:=Bo (draft_any h)
   have HE:=Bo (fun (w2:World) (hb:Below w.heap.size w w2)=>Rec.expects_any _ s.r w2 (PR.draft (h.below hb) ok).1 (PR.draft (h.below hb) ok).2);show Calls _ _ _ _ fun r w'=>r=.returned (.bool (s.next&&Rec.expects s.r))∧Below w.heap.size w w';clear h ok hbl;cases hx:s.next with
   | true=>
     rw [hx] at HN0;have HN:=Bo HN0;clear HN0 hx;generalize Rec.expects s.r=ex at *;go_enter Tryz.func24,Tryz.ntmps24
     go_wp2_with (first
      |(go_at_call 78;with_reducible refine (HE.out _ HB2.out).mono ?_;rintro r w4 ⟨rfl,hb4⟩)
      |(go_at_call 79;with_reducible refine HD.out.mono ?_;rintro r w3 ⟨rfl,hb3⟩
        have HB2:=Bo hb3;clear hb3)
      |(go_at_call 77;with_reducible refine Cm HN.out ?_))
     go_ret;exact ⟨by cases ex<;>rfl,Ak HB2.out hb4⟩
   | false=>
     rw [hx] at HN0;have HN:=Bo HN0;clear HN0 hx HD HE;exact XXpzh
 | dead e out=>
   obtain ⟨o,rfl,h⟩:=h
   have HN:=Bo (bodyIsNext_dead (w:=w) (g:=g) (row_cellL h.row rfl));clear h ok;exact XXpzh
theorem size_small {r:Dx} (h:Rec.Fit r):Rec.size r≤5000000000000:=by
 have h1:=h.m;have h2:=h.x;have h3:=h.body;have h4:=h.fs;have h5:=h.ts;have h6:=Rec.weigh_le r.fs 1000000 h.f;have h7:=Rec.weigh_le r.ts 1000000 h.t
 have h8:r.fs.length*(1000000+1000000)≤1000000000:=CT (Nat.mul_le_mul_right _ h4) (by decide)
 have h9:r.ts.length*(1000000+1000000)≤1000000000:=CT (Nat.mul_le_mul_right _ h5) (by decide);unfold Rec.size;omega
theorem held_any {L:List (Option Nat)} {x:Q} (h:At w B g p b L x) (ok:x.Ok b):Calls EL 26 #[ptr g] w fun r w'=>r=.returned (.int .i64 (x.held:Int))∧Below w.heap.size w w':=by
 cases x with
 | live s=>
   obtain ⟨q,v,f,bd,t,o,rfl,h⟩:=h;obtain ⟨ok, -⟩:s.Ok∧b.right=true:=ok
   have HF:=Bo (failed_live h.cs.c0);have c25:=h.cs.c25;have hll:s.rd.len≤4096:=by have h1:=ok.rd.len;have h2:=ok.rd.most;unfold Ln.M.len;split<;>omega
   have hsz:=size_small (PR.draft h ok).2
   have HL:=Bo (Ln.len_any h.own.R.row h.own.R.own)
   have HD:=Bo (draft_any h)
   have HE:=Bo (fun (w2:World) (hb:Below w.heap.size w w2)=>Rec.size_any _ s.r w2 (PR.draft (h.below hb) ok).1 (PR.draft (h.below hb) ok).2);obtain ⟨a1,a2⟩:=Dz ((s.rd.len:Int)+(Rec.size s.r:Int)) ⟨by omega,by omega⟩;show Calls _ _ _ _ fun r w'=>r=.returned (.int .i64 ((s.rd.len+Rec.size s.r:Nat):Int))∧Below w.heap.size w w';clear h ok hll hsz;generalize s.rd.len=n1 at *;generalize Rec.size s.r=n2 at *;go_enter Tryz.func26,Tryz.ntmps26
   go_wp2_with (first
    |(go_at_call 83;with_reducible refine (HE.out _ HB2.out).mono ?_;rintro r w4 ⟨rfl,hb4⟩)
    |(go_at_call 79;with_reducible refine HD.out.mono ?_;rintro r w3 ⟨rfl,hb3⟩
      have HB2:=Bo hb3;clear hb3)
    |(go_at_call 82;with_reducible refine Cm HL.out ?_)
    |(go_at_call 81;with_reducible refine Cm HF.out ?_))
   go_ret;exact ⟨rfl,Ak HB2.out hb4⟩
 | dead e out=>
   obtain ⟨o,rfl,h⟩:=h
   have HF:=Bo (failed_dead h.cell0 h.bad);clear h ok;go_enter Tryz.func26,Tryz.ntmps26
   go_wp2_with (go_at_call 81;with_reducible refine Cm HF.out ?_);go_ret;exact ⟨rfl,Am _ _⟩
end code
end Go.Proofs.YtnabkcglnbdfeaaGreatDoor.Pg
namespace Go.Proofs.YtnabkcglnbdfeaaGreatDoor.Pg
open Go.RowKit Base Txt Mem Par
section code
set_option maxHeartbeats 4000000
set_option maxRecDepth 20000
attribute [local go_sem] Al
variable {w:World} {B:Zone} {g q:Nat} {v f bd t o:Value} {p:Nat} {b:Bd} {s:T}
theorem enter_new (hp:p<4294967296) (hz:B.z= []) (hrow:w.heap[g]?=some (.cells ([.int .i64 0,.int .i64 0,nil,.string E0,.string E0,.int .i64 0,.int .i64 0,.bool false,.int .i64 0,nil,.bool false,nil,.int .i64 0,.int .u32 (p:Int),.int .i64 b.x0,.int .i64 b.x1,.int .i64 b.x2,.int .i64 b.x3,.int .i64 b.x4,.int .i64 b.x5,.int .i64 b.x6,.int .i64 b.x7,.bool b.ch,.bool b.od,.int .i64 0,.pointer none,nil]:List Value).toArray 55 (0,0))) (hB:B≤g):Calls EL 72 #[ptr g,.int .i64 1,.int .i64 b.x0] w fun r w'=>
 r=.returned (.tuple #[])∧∃q1,PR w' B g q1 nil nil nil nil nil p b (T.new p b)∧Keeps [some g] w w':=by
 have hlt:=Ln.row_lt hrow
 have HR1:=Bo (row_setL hrow 24 (.int .i64 1))
 have HK1:=Bo (Bf (w:=w) (L:= [some g]) g 24 (.int .i64 1) (by simp))
 have HLT:=Bo (show g<(w.setCell ⟨g,24,none⟩ (.int .i64 1)).heap.size by simpa using hlt);have HB:=Bo hB;have c24:=row_cellL hrow (k:=24) rfl;have z24:=CL hrow 24;clear hrow hB hlt;go_enter Tryz.func72,Tryz.ntmps72;go_upto_region 1 with fail
 generalize w.setCell ⟨g,24,none⟩ (.int .i64 1)=W1 at *;clear c24 z24;have c13:W1.cell? ⟨g,13,none⟩=some (.int .u32 (p:Int)):=row_cellL HR1.out (k:=13) rfl
 have HNL:=Bo (line_new hp B b.x0 W1 (CT HB.out (CP HLT.out)));go_wp2_with
  (go_at_call 115;with_reducible refine HNL.out.mono ?_;rintro r w8 ⟨q1,rfl,hq1,hr1,hb8⟩
   have hrow8:=(hb8.block g HLT.out).trans HR1.out;have d25:=row_cellL hrow8 (k:=25) rfl;have y25:=CL hrow8 25;have HR8:=Bo hrow8;have HD8:=Bo hr1;have HQ8:=Bo hq1;have HB8:=Bo hb8;clear hb8 hr1 hq1 hrow8)
 go_end0;have hgq:g≠q1:=by have:=HLT.out;have:=HQ8.out;omega
 have hk:Keeps [some g] w8 (w8.setCell ⟨g,25,none⟩ (ptr q1)):=Bf g 25 _ (by simp);refine ⟨rfl,q1,⟨row_setL HR8.out 25 (ptr q1),⟨⟨hk.row HD8.out.row (by simpa using fun e=>hgq e.symm),hk.own HD8.out.own (by simp [Value.ownBlock]),HD8.out.ge,HD8.out.ne⟩,FK _ _ _ _,FK _ _ _ _,FK _ _ _ _,⟨[],rfl,(by intro x hx;cases hx),FK _ _ _ _⟩,?_,HB.out,by have:=HLT.out;have:=HB8.out.size;simp;omega,by rw [hz];exact Clear.nil⟩⟩,(HK1.out.trans (Be HB8.out) Dg).trans hk Dg⟩;intro i j k hi hj;rcases i with _ | _ | _ | _ | _ | _ | _ | i<;>rcases j with _ | _ | _ | _ | _ | _ | _ | j<;>simp [Value.ownBlock] at hi hj ⊢<;>omega
theorem T.new_ok (p:Nat) (b:Bd):(T.new p b).Ok:=
 ⟨Ln.M.new_ok _ _ _ (Ln.mid_le _),rfl,⟨CQ _,by show 1≤7;omega⟩,CY _,CY _,CQ _,CQ _,(by intro y hy;cases hy),(by intro y hy;cases hy),CY _,CY _,CY _,fun h=>(by cases h),fun _=>rfl,CY _⟩
theorem Q.new_ok (p:Nat) (b:Bd):(Q.new p b).Ok b:=by
 unfold Q.new;split
 ·rename_i h;simp only [An] at h;exact ⟨T.new_ok p b,h.1⟩
 ·trivial
theorem dead_new {W:World} (hz:B.z= []) (hrow:W.heap[g]?=some (.cells ([.int .i64 20,.int .i64 0,nil,.string E0,.string E0,.int .i64 0,.int .i64 0,.bool false,.int .i64 0,nil,.bool false,nil,.int .i64 0,.int .u32 0,.int .i64 0,.int .i64 0,.int .i64 0,.int .i64 0,.int .i64 0,.int .i64 0,.int .i64 0,.int .i64 0,.bool false,.bool false,.int .i64 0,.pointer none,nil]:List Value).toArray 55 (0,0))) (hB:B≤g):At W B g p b [some g,none] (.dead 20 []):=
 ⟨nil,rfl,⟨hrow,⟨[],rfl,(by intro x hx;cases hx),FK _ _ _ _⟩,by simp [Value.ownBlock],hB,Ln.row_lt hrow,by decide,by rw [hz];exact Clear.nil⟩⟩
theorem new_any (hp:p<4294967296) (w:World):Calls EL 18 #[.int .u32 (p:Int),.agg #[.int .i64 b.x0,.int .i64 b.x1,.int .i64 b.x2,.int .i64 b.x3,.int .i64 b.x4,.int .i64 b.x5,.int .i64 b.x6,.int .i64 b.x7,.bool b.ch,.bool b.od]] w fun r w'=>
 ∃g L',r=.returned (ptr g)∧w.heap.size≤g∧At w' ⟨w.heap.size,[]⟩ g p b L' (Q.new p b)∧Below w.heap.size w w':=by
 have hqr:=fun w=>Qk.right_any p hp w;have hbr:=fun w=>Bnd.right_any b.x0 b.x1 b.x2 b.x3 b.x4 b.x5 b.x6 b.x7 b.ch b.od w
 have HB0:=Bo (((Am _ _).alloc (CQ _) (.cells #[.int .i64 b.x0,.int .i64 b.x1,.int .i64 b.x2,.int .i64 b.x3,.int .i64 b.x4,.int .i64 b.x5,.int .i64 b.x6,.int .i64 b.x7,.bool b.ch,.bool b.od] 29)):Below w.heap.size w _)
 have HZ0:=Bo (Dw w w.heap.size rfl 29 [.int .i64 b.x0,.int .i64 b.x1,.int .i64 b.x2,.int .i64 b.x3,.int .i64 b.x4,.int .i64 b.x5,.int .i64 b.x6,.int .i64 b.x7,.bool b.ch,.bool b.od])
 have HSZ:=Bo (show w.heap.size<(w.alloc (.cells #[.int .i64 b.x0,.int .i64 b.x1,.int .i64 b.x2,.int .i64 b.x3,.int .i64 b.x4,.int .i64 b.x5,.int .i64 b.x6,.int .i64 b.x7,.bool b.ch,.bool b.od] 29)).heap.size by simp);unfold Q.new;by_cases hP:p<1073741824
 ·rw [decide_eq_true hP] at hqr ⊢;rw [Bool.and_true];have HQR:=Bo hqr;unfold Bd.right;cases hb:Bnd.right b.x0 b.x1 b.x2 b.x3 b.x4 b.x5 b.x6 b.x7 with
  | true=>
    rw [hb] at hbr;have HBR:=Bo hbr;rw [if_pos rfl];clear hqr hbr hb hP;go_enter Tryz.func18,Tryz.ntmps18;go_upto_region 1 with fail
    generalize w.alloc (.cells #[.int .i64 b.x0,.int .i64 b.x1,.int .i64 b.x2,.int .i64 b.x3,.int .i64 b.x4,.int .i64 b.x5,.int .i64 b.x6,.int .i64 b.x7,.bool b.ch,.bool b.od] 29)=W0 at *;have y0:=HZ0.out.c 0 _ rfl;have y1:=HZ0.out.c 1 _ rfl;have y2:=HZ0.out.c 2 _ rfl;have y3:=HZ0.out.c 3 _ rfl;have y4:=HZ0.out.c 4 _ rfl;have y5:=HZ0.out.c 5 _ rfl;have y6:=HZ0.out.c 6 _ rfl;have y7:=HZ0.out.c 7 _ rfl;have y8:=HZ0.out.c 8 _ rfl;have y9:=HZ0.out.c 9 _ rfl
    go_upto_region 4 with (first
     |(go_at_call 71;with_reducible refine (HBR.out _).mono ?_;rintro r w3 ⟨rfl,hb3⟩
       have HB3:=Bo hb3;have HZ3:=Bo (HZ0.out.below hb3);have x0:=HZ3.out.c 0 _ rfl;have x1:=HZ3.out.c 1 _ rfl;have x2:=HZ3.out.c 2 _ rfl;have x3:=HZ3.out.c 3 _ rfl;have x4:=HZ3.out.c 4 _ rfl;have x5:=HZ3.out.c 5 _ rfl;have x6:=HZ3.out.c 6 _ rfl;have x7:=HZ3.out.c 7 _ rfl;have x8:=HZ3.out.c 8 _ rfl;have x9:=HZ3.out.c 9 _ rfl;clear hb3)
     |(go_at_call 70;with_reducible refine Cm (HQR.out _) ?_))
    have HB4:=Bo (Ak HB0.out HB3.out)
    have HR4:=Bo (heap_alloc_new w3 (.cells ([.int .i64 0,.int .i64 0,nil,.string E0,.string E0,.int .i64 0,.int .i64 0,.bool false,.int .i64 0,nil,.bool false,nil,.int .i64 0,.int .u32 (p:Int),.int .i64 b.x0,.int .i64 b.x1,.int .i64 b.x2,.int .i64 b.x3,.int .i64 b.x4,.int .i64 b.x5,.int .i64 b.x6,.int .i64 b.x7,.bool b.ch,.bool b.od,.int .i64 0,.pointer none,nil]:List Value).toArray 55))
    have HG:=Bo (show w.heap.size≤w3.heap.size from CT (CP HSZ.out) HB3.out.size)
    have HBW:=Bo (HB4.out.alloc HG.out (.cells ([.int .i64 0,.int .i64 0,nil,.string E0,.string E0,.int .i64 0,.int .i64 0,.bool false,.int .i64 0,nil,.bool false,nil,.int .i64 0,.int .u32 (p:Int),.int .i64 b.x0,.int .i64 b.x1,.int .i64 b.x2,.int .i64 b.x3,.int .i64 b.x4,.int .i64 b.x5,.int .i64 b.x6,.int .i64 b.x7,.bool b.ch,.bool b.od,.int .i64 0,.pointer none,nil]:List Value).toArray 55))
    have HX4:=Bo ((HZ3.out.alloc (.cells ([.int .i64 0,.int .i64 0,nil,.string E0,.string E0,.int .i64 0,.int .i64 0,.bool false,.int .i64 0,nil,.bool false,nil,.int .i64 0,.int .u32 (p:Int),.int .i64 b.x0,.int .i64 b.x1,.int .i64 b.x2,.int .i64 b.x3,.int .i64 b.x4,.int .i64 b.x5,.int .i64 b.x6,.int .i64 b.x7,.bool b.ch,.bool b.od,.int .i64 0,.pointer none,nil]:List Value).toArray 55)).c 0 _ rfl)
    have HE:=Bo (enter_new (B:=⟨w.heap.size,[]⟩) hp rfl HR4.out HG.out);clear y0 y1 y2 y3 y4 y5 y6 y7 y8 y9 x0 x1 x2 x3 x4 x5 x6 x7 x8 x9 HR4;have x0:=HX4.out
    go_wp2_with (go_at_call 72;with_reducible refine HE.out.mono ?_;rintro r w5 ⟨rfl,q1,hP,hK⟩);go_ret;exact ⟨_,_,rfl,HG.out,⟨_,_,_,_,_,_,rfl,hP⟩,HBW.out.trans (hK.below HBW.out.size (fun k hk=>by rw [Dk.inj (C1.1 hk)];exact HG.out))⟩
  | false=>
    rw [hb] at hbr;have HBR:=Bo hbr;rw [if_neg (by decide)];clear hqr hbr hb hP;go_enter Tryz.func18,Tryz.ntmps18;go_upto_region 1 with fail
    generalize w.alloc (.cells #[.int .i64 b.x0,.int .i64 b.x1,.int .i64 b.x2,.int .i64 b.x3,.int .i64 b.x4,.int .i64 b.x5,.int .i64 b.x6,.int .i64 b.x7,.bool b.ch,.bool b.od] 29)=W0 at *;have y0:=HZ0.out.c 0 _ rfl;have y1:=HZ0.out.c 1 _ rfl;have y2:=HZ0.out.c 2 _ rfl;have y3:=HZ0.out.c 3 _ rfl;have y4:=HZ0.out.c 4 _ rfl;have y5:=HZ0.out.c 5 _ rfl;have y6:=HZ0.out.c 6 _ rfl;have y7:=HZ0.out.c 7 _ rfl;have y8:=HZ0.out.c 8 _ rfl;have y9:=HZ0.out.c 9 _ rfl
    go_wp2_with (first
     |(go_at_call 71;with_reducible refine (HBR.out _).mono ?_;rintro r w3 ⟨rfl,hb3⟩
       have HB3:=Bo hb3;clear hb3)
     |(go_at_call 70;with_reducible refine Cm (HQR.out _) ?_))
    go_ret;have hg:=CT (CP HSZ.out) HB3.out.size;exact ⟨_,_,rfl,hg,dead_new (B:=⟨w.heap.size,[]⟩) rfl (heap_alloc_new w3 (.cells ([.int .i64 20,.int .i64 0,nil,.string E0,.string E0,.int .i64 0,.int .i64 0,.bool false,.int .i64 0,nil,.bool false,nil,.int .i64 0,.int .u32 0,.int .i64 0,.int .i64 0,.int .i64 0,.int .i64 0,.int .i64 0,.int .i64 0,.int .i64 0,.int .i64 0,.bool false,.bool false,.int .i64 0,.pointer none,nil]:List Value).toArray 55)) hg,(Ak HB0.out HB3.out).alloc hg _⟩
 ·rw [decide_eq_false hP] at hqr ⊢;rw [Bool.and_false,if_neg (by decide)];have HQR:=Bo hqr;clear hqr hbr hP;go_enter Tryz.func18,Tryz.ntmps18;go_upto_region 1 with fail
  generalize w.alloc (.cells #[.int .i64 b.x0,.int .i64 b.x1,.int .i64 b.x2,.int .i64 b.x3,.int .i64 b.x4,.int .i64 b.x5,.int .i64 b.x6,.int .i64 b.x7,.bool b.ch,.bool b.od] 29)=W0 at *
  go_wp2_with (go_at_call 70;with_reducible refine Cm (HQR.out _) ?_);go_ret;have hg:=CP HSZ.out;exact ⟨_,_,rfl,hg,dead_new (B:=⟨w.heap.size,[]⟩) rfl (heap_alloc_new W0 (.cells ([.int .i64 20,.int .i64 0,nil,.string E0,.string E0,.int .i64 0,.int .i64 0,.bool false,.int .i64 0,nil,.bool false,nil,.int .i64 0,.int .u32 0,.int .i64 0,.int .i64 0,.int .i64 0,.int .i64 0,.int .i64 0,.int .i64 0,.int .i64 0,.int .i64 0,.bool false,.bool false,.int .i64 0,.pointer none,nil]:List Value).toArray 55)) hg,HB0.out.alloc hg _⟩
end code
end Go.Proofs.YtnabkcglnbdfeaaGreatDoor.Pg
namespace Go.Proofs.YtnabkcglnbdfeaaGreatDoor.Pg
open Go.RowKit Base Txt Mem Par
theorem told_err (x:Q):x.told.err=x.err:=by cases x<;>rfl
theorem told_clean (x:Q):x.told.clean=x.clean:=by cases x<;>rfl
theorem told_waits (x:Q):x.told.waits=x.waits:=by cases x<;>rfl
theorem told_held (x:Q):x.told.held=x.held:=by cases x<;>rfl
theorem told_ok {b:Bd} {x:Q} (h:x.Ok b):x.told.Ok b:=by
 cases x with
 | live t=>exact ⟨⟨h.1.rd,h.1.nf,h.1.st,h.1.hl,h.1.bl,h.1.fsl,h.1.tsl,h.1.fss,h.1.tss,h.1.m,h.1.x,h.1.body,h.1.left,h.1.early,h.1.size⟩,h.2⟩
 | dead e o=>trivial
theorem told_out (x:Q):x.told.out= []:=by cases x<;>rfl
theorem Parts.one {L:List (Option Nat)} {w:World} {a:Option Addr} {c:Nat} {l:List UInt8} (h:Bts L w a l) (hin:In w L) (ty:TypeId):Parts L (w.alloc (.cells #[.slice a l.length c] ty)) (some ⟨w.heap.size,0,none⟩) [l]:=by
 have hb:Below w.heap.size w (w.alloc (.cells #[.slice a l.length c] ty)):=(Am _ _).alloc (CQ _) _;refine ⟨fun _=>⟨w.heap.size,0,rfl,by simp,fun hm=>by have:=hin _ hm;omega,fun k hk=>?_⟩⟩;have hk:k<1:=hk;obtain rfl:k=0:=by omega
 refine ⟨a,c,?_,?_⟩
 ·have:=cell_of_row (w.alloc (.cells #[.slice a l.length c] ty)) w.heap.size 0 _ ty (0,0) (heap_alloc_new w _);exact this.trans rfl
 ·exact h.step (DD hb)
section code
set_option maxHeartbeats 4000000
set_option maxRecDepth 20000
attribute [local go_sem] Al
variable {w:World} {B:Zone} {g q:Nat} {v f bd t o:Value} {p:Nat} {b:Bd} {s:T}
theorem _root_.Go.Proofs.YtnabkcglnbdfeaaGreatDoor.XXIoU {P:Prop} (h:P:=by
 refine ⟨HL.out.nums.below (Ak HB0.out HB1.out),fun ad e=>?_⟩;have:=(HL.out.far ad e).2;refine ⟨fun hm=>?_,CV this (CT (CP HSZ.out) HB1.out.size)⟩;have:W0.heap.size≤ad.block:=hlow _ hm;have:=HSZ.out
 omega):P:=h
theorem read_any (hp:p<4294967296) (w:World) (a:Option Addr) (c:Nat) (l:List UInt8) (hl:Bts [] w a l) (hn:l.length≤400000000):Calls EL 30 #[.int .u32 (p:Int),.agg #[.int .i64 b.x0,.int .i64 b.x1,.int .i64 b.x2,.int .i64 b.x3,.int .i64 b.x4,.int .i64 b.x5,.int .i64 b.x6,.int .i64 b.x7,.bool b.ch,.bool b.od],.slice a l.length c] w fun r w'=>
 ∃o L B0,r=.returned (.tuple #[o,.int .i64 ((Q.read p b l).err:Int),.bool (Q.read p b l).clean])∧Told L B0 w' o (Q.read p b l).out∧Below w.heap.size w w':=by
 have HB0:=Bo (((Am _ _).alloc (CQ _) (.cells #[.int .i64 b.x0,.int .i64 b.x1,.int .i64 b.x2,.int .i64 b.x3,.int .i64 b.x4,.int .i64 b.x5,.int .i64 b.x6,.int .i64 b.x7,.bool b.ch,.bool b.od] 29)):Below w.heap.size w _)
 have HZ0:=Bo (Dw w w.heap.size rfl 29 [.int .i64 b.x0,.int .i64 b.x1,.int .i64 b.x2,.int .i64 b.x3,.int .i64 b.x4,.int .i64 b.x5,.int .i64 b.x6,.int .i64 b.x7,.bool b.ch,.bool b.od])
 have HSZ:=Bo (show w.heap.size<(w.alloc (.cells #[.int .i64 b.x0,.int .i64 b.x1,.int .i64 b.x2,.int .i64 b.x3,.int .i64 b.x4,.int .i64 b.x5,.int .i64 b.x6,.int .i64 b.x7,.bool b.ch,.bool b.od] 29)).heap.size by simp);have HL:=Bo hl;have HN:=Bo hn;unfold Q.read;obtain ⟨X,hX⟩:∃X,Q.feed p b (Q.new p b) l=X:=⟨_,rfl⟩;rw [hX];have HX:=Bo hX;obtain ⟨m,hm⟩:∃m,l.length=m:=⟨_,rfl⟩;have HM:=Bo hm;rw [hm];clear hl hn hm hX;go_enter Tryz.func30,Tryz.ntmps30;go_upto_region 1 with fail
 generalize w.alloc (.cells #[.int .i64 b.x0,.int .i64 b.x1,.int .i64 b.x2,.int .i64 b.x3,.int .i64 b.x4,.int .i64 b.x5,.int .i64 b.x6,.int .i64 b.x7,.bool b.ch,.bool b.od] 29)=W0 at *;have y0:=HZ0.out.c 0 _ rfl;have y1:=HZ0.out.c 1 _ rfl;have y2:=HZ0.out.c 2 _ rfl;have y3:=HZ0.out.c 3 _ rfl;have y4:=HZ0.out.c 4 _ rfl;have y5:=HZ0.out.c 5 _ rfl;have y6:=HZ0.out.c 6 _ rfl;have y7:=HZ0.out.c 7 _ rfl;have y8:=HZ0.out.c 8 _ rfl;have y9:=HZ0.out.c 9 _ rfl
 have HNW:=Bo (new_any (b:=b) hp W0);go_upto_region 2 with
  (go_at_call 18;with_reducible refine HNW.out.mono ?_;rintro r w1 ⟨g,L1,rfl,hg,hA,hb1⟩
   have HG:=Bo hg;have HA:=Bo hA;have HB1:=Bo hb1;clear hg hA hb1)
 have hlow:=HA.out.low;have hlA:Bts L1 w1 a l:=by exact XXIoU
 have hpa:=Parts.one (c:=c) hlA HA.out.in 22;rw [HM.out] at hpa;have hb2:Below w1.heap.size w1 (w1.alloc (.cells #[.slice a m c] 22)):=(Am _ _).alloc (CQ _) _
 have hfe:=feed_any hp _ (HA.out.below hb2) (Q.new_ok p b) (some ⟨w1.heap.size,0,none⟩) 1 [l] hpa (by simp) (by
  have h1:(Q.new p b).out.length=0:=by unfold Q.new;split<;>rfl
  have h2:=HN.out;rw [h1];simp only [List.flatten_cons,List.flatten_nil,B7];omega)
 have efl: [l].flatten=l:=by simp
 rw [efl] at hfe
 have HFE:=Bo (show Calls EL 20 #[ptr g,.slice (some ⟨w1.heap.size,0,none⟩) 1 1] (w1.alloc (.cells #[.slice a m c] 22)) fun r w'=>∃o L',r=.returned o∧At w' ⟨W0.heap.size,[]⟩ g p b L' (Q.feed p b (Q.new p b) l).told∧Told L' ⟨W0.heap.size,[]⟩ w' o (Q.feed p b (Q.new p b) l).out∧Step L1 L' (w1.alloc (.cells #[.slice a m c] 22)) w' from hfe);have HLOW:=Bo hlow
 have HB2:=Bo (Ak (Ak HB0.out HB1.out) hb2);rw [HX.out] at HFE;clear hlA hpa hb2 hfe efl hlow y0 y1 y2 y3 y4 y5 y6 y7 y8 y9
 go_wp2_with (first
  |(go_at_call 28;with_reducible refine Cm HC.out ?_)
  |(go_at_call 23;with_reducible refine Cm HE.out ?_)
  |(go_at_call 20;with_reducible refine HFE.out.mono ?_;rintro r w3 ⟨o,L',rfl,hA3,hT3,hS3⟩
    have HE:=Bo (errq_any hA3);have HC:=Bo (cleanq_any hA3);rw [told_err] at HE;rw [told_clean] at HC;have HT3:=Bo hT3;have HS3:=Bo hS3;clear hA3 hT3 hS3))
 refine bodyPost_ret (v:=.tuple #[o,.int .i64 (X.err:Int),.bool X.clean]) (by simp [results,Tryz.results30,go_sem]) rfl ?_;refine ⟨_,_,_,rfl,HT3.out,HB2.out.trans (HS3.out.keeps.below HB2.out.size (fun k hk=>?_))⟩;have:=HLOW.out k hk;have:=HSZ.out;omega
end code
theorem flat_at:∀(ps:List (Array Value × Dx)),(∀x∈ps,x.1.size=7)→∀k (hk:k<ps.length) j,j<7→(ps.flatMap (·.1.toList))[k*7+j]?=ps[k].1.toList[j]?
 | [],_,k,hk,_,_=>by cases hk
 | x::ps,h,0,_,j,hj=>by
   have hx:x.1.toList.length=7:=by simpa using h x (by simp)
   rw [List.flatMap_cons,List.getElem?_append_left (by omega),Nat.zero_mul,CX];rfl
 | x::ps,h,k+1,hk,j,hj=>by
   have hx:x.1.toList.length=7:=by simpa using h x (by simp)
   rw [List.flatMap_cons,List.getElem?_append_right (by omega),hx,show (k+1)*7+j-7=k*7+j by omega];exact flat_at ps (fun y hy=>h y (by simp [hy])) k (by simpa using hk) j hj
theorem Told.at {L:List (Option Nat)} {B:Zone} {w:World} {o:Value} {out:List Dx} (h:Told L B w o out):∃a c,o=.slice a out.length c∧(0<out.length→∃bk,a=some ⟨bk,0,none⟩∧bk<w.heap.size∧
 ∀k (hk:k<out.length),∃fa fc ba bc ta tc,Flds w fa out[k].fs.length out[k].fs∧Nums .u8 w ba out[k].body.length (out[k].body.map fun c=>(c.toNat:Int))∧Flds w ta out[k].ts.length out[k].ts∧
  w.cell? ⟨bk,k*7,none⟩=some (.string out[k].m)∧w.cell? ⟨bk,k*7+1,none⟩=some (.string out[k].x)∧w.cell? ⟨bk,k*7+2,none⟩=some (.int .i64 out[k].k)∧w.cell? ⟨bk,k*7+3,none⟩=some (.slice fa out[k].fs.length fc)∧
  w.cell? ⟨bk,k*7+4,none⟩=some (.bool out[k].ch)∧w.cell? ⟨bk,k*7+5,none⟩=some (.slice ba out[k].body.length bc)∧w.cell? ⟨bk,k*7+6,none⟩=some (.slice ta out[k].ts.length tc)):=by
 obtain ⟨ps,h1,h2,h3⟩:=h.outs;obtain ⟨a,c,e, -⟩:=CJ h3;subst e;refine ⟨a,c,rfl,fun h0=>?_⟩;obtain ⟨bk,cf,hform, -,hlt⟩:=h3.form h0;simp only [Value.slice.injEq,true_and] at hform;obtain ⟨rfl,rfl⟩:=hform;refine ⟨bk,rfl,hlt,fun k hk=>?_⟩;have hkp:k<ps.length:=by rw [←h1,Cn] at hk;exact hk
 have hr:out[k]=ps[k].2:=by simp [←h1]
 obtain ⟨h7,hF⟩:=h2 ps[k] (Ca hkp);obtain ⟨fa,fc,ba,bc,ta,tc,hV,f1,f2,f3⟩:=hF.reads;have hcs:ps[k].1= #[.string ps[k].2.m,.string ps[k].2.x,.int .i64 ps[k].2.k,.slice fa ps[k].2.fs.length fc,.bool ps[k].2.ch,.slice ba ps[k].2.body.length bc,.slice ta ps[k].2.ts.length tc]:=by injection hV
 have key:∀j,j<7→w.cell? ⟨bk,k*7+j,none⟩=ps[k].1.toList[j]?:=by
  intro j hj
  have hc:=h3.cellAt (k*7+j) (by omega);have e:(ps.flatMap (·.1.toList))[k*7+j]?=ps[k].1.toList[j]?:=flat_at ps (fun x hx=>(h2 x hx).1) k hkp j hj;exact hc.trans e
 rw [hr];rw [hcs] at key;exact ⟨fa,fc,ba,bc,ta,tc,f1,f2,f3,key 0 (by decide),key 1 (by decide),key 2 (by decide),key 3 (by decide),key 4 (by decide),key 5 (by decide),key 6 (by decide)⟩
end Go.Proofs.YtnabkcglnbdfeaaGreatDoor.Pg
namespace Go.Proofs.YtnabkcglnbdfeaaGreatDoor.By
open Go.RowKit Base
def Bytes (w:World) (g:Nat) (l:List UInt8):Prop:=∀j (h:j<l.length),w.cell? ⟨g,j,none⟩=some (.int .u8 (l[j].toNat:Int))∧w.frozen? ⟨g,j,none⟩=false
theorem _root_.Go.Proofs.YtnabkcglnbdfeaaGreatDoor.XXLUf {P:Prop} (h:P:=by
 have hcv:=run_bytes_of_string (P:=EL) w 9 22 5 s Fz Fm Fx;refine ⟨_,_,hcv,fun j hj=>?_,by simp,(Am _ _).drew.alloc (CQ _) _⟩;have hj':j<s.data.size:=by simpa using hj
 refine ⟨(World.cell?_alloc_mark w.drew _ _ _ j).trans (bytesRow_at s _ j hj'),(World.frozen?_alloc_mark w.drew _ _ _ _ j).trans ?_⟩;have:¬(bytesRow s (grownCap w s.size 0 5)).size≤j:=by unfold bytesRow;rw [Array.size_append,Array.size_map];omega
 simp [this]):P:=h
theorem conv_bytes (s:ByteArray) (w:World):∃W cap,(convert 9 22 (.string s)).run EL w=.ok (.slice (some ⟨w.heap.size,0,none⟩) s.size cap) W∧Bytes W w.heap.size s.data.toList∧w.heap.size<W.heap.size∧Below w.heap.size w W:=by exact XXLUf
end Go.Proofs.YtnabkcglnbdfeaaGreatDoor.By
namespace Go.Proofs.YtnabkcglnbdfeaaGreatDoor.Pg
open Go.RowKit Base Txt Mem Par
abbrev usual:Bd:=⟨1024,32,8192,65536,32,8,4,20,true,true⟩
abbrev bdV (b:Bd):Value:=.agg #[.int .i64 b.x0,.int .i64 b.x1,.int .i64 b.x2,.int .i64 b.x3,.int .i64 b.x4,.int .i64 b.x5,.int .i64 b.x6,.int .i64 b.x7,.bool b.ch,.bool b.od]
def RecAt (w:World) (bk j:Nat) (r:Dx):Prop:=∃fa fc ba bc ta tc,Flds w fa r.fs.length r.fs∧Nums .u8 w ba r.body.length (r.body.map fun c=>(c.toNat:Int))∧Flds w ta r.ts.length r.ts∧
 w.cell? ⟨bk,j,none⟩=some (.string r.m)∧w.cell? ⟨bk,j+1,none⟩=some (.string r.x)∧w.cell? ⟨bk,j+2,none⟩=some (.int .i64 r.k)∧w.cell? ⟨bk,j+3,none⟩=some (.slice fa r.fs.length fc)∧
 w.cell? ⟨bk,j+4,none⟩=some (.bool r.ch)∧w.cell? ⟨bk,j+5,none⟩=some (.slice ba r.body.length bc)∧w.cell? ⟨bk,j+6,none⟩=some (.slice ta r.ts.length tc)
def Said (w:World) (o:Value) (out:List Dx):Prop:=∃a c,o=.slice a out.length c∧(0<out.length→∃bk,a=some ⟨bk,0,none⟩∧bk<w.heap.size∧∀k (hk:k<out.length),RecAt w bk (k*7) out[k])
theorem Told.said {L:List (Option Nat)} {B:Zone} {w:World} {o:Value} {out:List Dx} (h:Told L B w o out):Said w o out:=h.at
theorem RecAt.below {w w':World} {bk j:Nat} {r:Dx} (h:RecAt w bk j r) (hlt:bk<w.heap.size) (hb:Below w.heap.size w w'):RecAt w' bk j r:=by obtain ⟨fa,fc,ba,bc,ta,tc,f1,f2,f3,c0,c1,c2,c3,c4,c5,c6⟩:=h;exact ⟨fa,fc,ba,bc,ta,tc,f1.below hb,f2.below hb,f3.below hb,(hb.cell (p:=⟨bk,j,none⟩) hlt).trans c0,(hb.cell (p:=⟨bk,j+1,none⟩) hlt).trans c1,(hb.cell (p:=⟨bk,j+2,none⟩) hlt).trans c2,(hb.cell (p:=⟨bk,j+3,none⟩) hlt).trans c3,(hb.cell (p:=⟨bk,j+4,none⟩) hlt).trans c4,(hb.cell (p:=⟨bk,j+5,none⟩) hlt).trans c5,(hb.cell (p:=⟨bk,j+6,none⟩) hlt).trans c6⟩
theorem Said.below {w w':World} {o:Value} {out:List Dx} (h:Said w o out) (hb:Below w.heap.size w w'):Said w' o out:=by obtain ⟨a,c,e,hc⟩:=h;refine ⟨a,c,e,fun h0=>?_⟩;obtain ⟨bk,e1,hlt,h1⟩:=hc h0;exact ⟨bk,e1,CV hlt hb.size,fun k hk=>(h1 k hk).below hlt hb⟩
abbrev bytesV (l:List UInt8):Array Value:=(l.map fun c=>Value.int .u8 (c.toNat:Int)).toArray
theorem Bts.lit {L:List (Option Nat)} {w:World} (hin:In w L) (l:List UInt8) (V:Array Value) (hV:V=bytesV l) (ty:TypeId) (fr:Nat × Nat):Bts L (w.alloc (.cells V ty fr)) (some ⟨w.heap.size,0,none⟩) l:=by
 subst hV;refine ⟨⟨by simp,fun h0=>⟨w.heap.size,0,rfl,by simp,fun k hk=>?_⟩⟩,fun ad e=>?_⟩
 ·rw [CX,cell_of_row _ _ k _ ty fr (heap_alloc_new _ _)];simp [bytesV,hk]
 ·obtain rfl:ad=⟨w.heap.size,0,none⟩:=by simpa using e.symm
  exact ⟨fun hm=>by have:w.heap.size<w.heap.size:=hin _ hm;omega,by simp⟩
theorem Bts.alloc {L:List (Option Nat)} {w:World} {a:Option Addr} {l:List UInt8} (h:Bts L w a l) (o:Obj):Bts L (w.alloc o) a l:=h.step (DD ((Am _ _).alloc (CQ _) _))
theorem Parts.two {L:List (Option Nat)} {w:World} {a a':Option Addr} {c c':Nat} {l l':List UInt8} (h:Bts L w a l) (h':Bts L w a' l') (hin:In w L) (ty:TypeId):Parts L (w.alloc (.cells #[.slice a l.length c,.slice a' l'.length c'] ty)) (some ⟨w.heap.size,0,none⟩) [l,l']:=by
 have hb:Below w.heap.size w (w.alloc (.cells #[.slice a l.length c,.slice a' l'.length c'] ty)):=(Am _ _).alloc (CQ _) _;refine ⟨fun _=>⟨w.heap.size,0,rfl,by simp,fun hm=>by have:=hin _ hm;omega,fun k hk=>?_⟩⟩;have hk:k<2:=hk
 have hr:=fun j=>cell_of_row (w.alloc (.cells #[.slice a l.length c,.slice a' l'.length c'] ty)) w.heap.size j _ ty (0,0) (heap_alloc_new w _);rcases (by omega:k=0∨k=1) with rfl | rfl
 ·exact ⟨a,c,(hr 0).trans rfl,h.step (DD hb)⟩
 ·exact ⟨a',c',(hr 1).trans rfl,h'.step (DD hb)⟩
theorem in_alloc {L:List (Option Nat)} {w:World} (h:In w L) (o:Obj):In (w.alloc o) L:=h.mono (by simp)
theorem in_nil (w:World):In w []:=fun k hk=>by cases hk
theorem read_said {p:Nat} (hp:p<4294967296) (b:Bd) (w:World) (a:Option Addr) (c:Nat) (l:List UInt8) (hl:Bts [] w a l) (hn:l.length≤400000000) (e:Nat) (cl:Bool) (out:List Dx) (he:(Q.read p b l).err=e) (hc:(Q.read p b l).clean=cl) (ho:(Q.read p b l).out=out):Calls EL 30 #[.int .u32 (p:Int),bdV b,.slice a l.length c] w fun r w'=>
 ∃o,r=.returned (.tuple #[o,.int .i64 (e:Int),.bool cl])∧Said w' o out∧Below w.heap.size w w':=by
 refine (read_any (b:=b) hp w a c l hl hn).mono ?_;rintro r w' ⟨o,L,B0,rfl,hT,hb⟩;rw [he,hc];rw [ho] at hT;exact ⟨o,rfl,hT.said,hb⟩
end Go.Proofs.YtnabkcglnbdfeaaGreatDoor.Pg
namespace Go.Proofs.YtnabkcglnbdfeaaGreatDoor.Each
open Go.RowKit Base Mem Par
structure Thing (A A':World→List (Option Nat)→Prop):Prop where
 keeps:∀{w w':World} {L M:List (Option Nat)},A w L→Keeps M w w'→(∀k,some k∈L→some k∉M)→A w' L
 keeps':∀{w w':World} {L M:List (Option Nat)},A' w L→Keeps M w w'→(∀k,some k∈L→some k∉M)→A' w' L
 inn:∀{w:World} {L:List (Option Nat)},A w L→In w L
 inn':∀{w:World} {L:List (Option Nat)},A' w L→In w L
 uniq:∀{w:World} {L L':List (Option Nat)},(A w L∨A' w L)→(A w L'∨A' w L')→L=L'
def Dis (L M:List (Option Nat)):Prop:=∀k,some k∈L→some k∉M
section
variable {P:Program} {l:List Oper} {Q:Exit→Act→World→Prop} {fs:List Fact} {a0:Act} {ds:List Nat}
variable (A A' C C':World→List (Option Nat)→Prop) (L1 L2:List (Option Nat)) (i1 i2:Nat) (W:World)
structure Two (b:Array Bool) (w:World):Prop where
 keeps:Keeps (L1++L2) W w
 both:∃M1 M2,(A' w M1∧b.getD i1 false=true∨A w M1∧M1=L1)∧(C' w M2∧b.getD i2 false=true∨C w M2∧M2=L2)∧Dis M1 M2∧Of W L1 M1∧Of W L2 M2
def RTwo (k:Nat) (w w':World):Prop:=
 if k=i1 then w'=w∨∃M1,A' w' M1∧Step L1 M1 w w' else if k=i2 then w'=w∨∃M2,C' w' M2∧Step L2 M2 w w' else Below w.heap.size w w'
variable {A A' C C' L1 L2 i1 i2 W}
def waits (l:List Oper) (k j:Nat):Bool:=match l[k]? with
 | some o=>o.after.toList.any fun e=>D0 .any e&&e.on==j
 | none=>false
def LastsTwo (l:List Oper) (A' C':World→List (Option Nat)→Prop) (L1 L2:List (Option Nat)) (i1 i2 k:Nat) (f:Fact):Prop:=
 (∀v w w',Below w.heap.size w w'→f v w→f v w')∧(k≠i1→waits l k i1=false→∀v w w' M1,A' w' M1→Step L1 M1 w w'→f v w→f v w')∧(k≠i2→waits l k i2=false→∀v w w' M2,C' w' M2→Step L2 M2 w w'→f v w→f v w')
def EveryTwo (l:List Oper) (A' C':World→List (Option Nat)→Prop) (L1 L2:List (Option Nat)) (i1 i2:Nat):Nat→List Fact→Prop
 | _,[]=>True
 | k,f::fs=>LastsTwo l A' C' L1 L2 i1 i2 k f∧EveryTwo l A' C' L1 L2 i1 i2 (k+1) fs
def AllTwo (P:Program) (l:List Oper) (fs:List Fact) (R:Nat→World→World→Prop) (K:Array Bool→World→Prop) (a0:Act) (ds:List Nat):Nat→List Oper→List Fact→Prop
 | k,o::os,f::gs=>FineR P l fs R K a0 ds k o f∧AllTwo P l fs R K a0 ds (k+1) os gs
 | _,_,_=>True
end
end Go.Proofs.YtnabkcglnbdfeaaGreatDoor.Each
namespace Go.Proofs.YtnabkcglnbdfeaaGreatDoor.Pg
open Go.RowKit Base Txt Mem Par Each
section
variable {w w':World} {B:Zone} {g q:Nat} {v f bd t o:Value} {p:Nat} {b:Bd} {L M:List (Option Nat)} {x:Q} {rd:Ln.M} {fs ts:List Fld} {body:List UInt8}
theorem outs_nil (h:Outs L B w o []):w.ownsRow B 58 7 o 0 []:=by obtain ⟨ps,h1,h2,h3⟩:=h;have hps:ps= []:=List.map_eq_nil_iff.1 h1;subst hps;exact h3
theorem outs_of {L':List (Option Nat)} {B':Zone} (h:w.ownsRow B'.b 58 7 o 0 []):Outs L' B' w o []:=⟨[],rfl,(by intro x hx;cases hx),h⟩
theorem Own.keeps (h:Own w B g q v f bd t o rd fs body ts []) (hk:Keeps M w w') (hd:Dis (blks g q v f bd t o) M):Own w' B g q v f bd t o rd fs body ts []:=
 ⟨⟨hk.row h.R.row (hd q (by simp)),hk.own h.R.own fun k e=>hd k (by simp [←e]),h.R.ge,h.R.ne⟩,hk.own h.F fun k e=>hd k (by simp [←e]),hk.own h.D fun k e=>hd k (by simp [←e]),hk.own h.TR fun k e=>hd k (by simp [←e]),
   outs_of (hk.own (outs_nil h.O) fun k e=>hd k (by simp [←e])),h.lone,h.ge,CV h.lt hk.size,h.zone.of hk.size Dg⟩
theorem Own.rezone (h:Own w B g q v f bd t o rd fs body ts []) {Z:List (Option Nat)} (hz:Clear w Z (blks g q v f bd t o)):Own w ⟨B.b,Z⟩ g q v f bd t o rd fs body ts []:=
 ⟨h.R,h.F,h.D,h.TR,outs_of (outs_nil (B:=B) h.O),h.lone,h.ge,h.lt,hz⟩
theorem At.keeps (h:At w B g p b L x) (ho:x.out= []) (hk:Keeps M w w') (hd:Dis L M):At w' B g p b L x:=by
 cases x with
 | live s=>
   obtain ⟨q,v,f,bd,t,o,rfl,h1,h2⟩:=h;have ho:s.out= []:=ho;rw [ho] at h2;refine ⟨q,v,f,bd,t,o,rfl,hk.row h1 (hd g (by simp)),?_⟩;rw [ho];exact h2.keeps hk hd
 | dead e out=>
   obtain ⟨o,rfl,h⟩:=h;have ho:out= []:=ho;subst ho;exact ⟨o,rfl,hk.row h.row (hd g (by simp)),outs_of (hk.own (outs_nil h.O) fun k e=>hd k (by simp [←e])),h.ne,h.ge,CV h.lt hk.size,h.bad,h.zone.of hk.size Dg⟩
theorem At.rezone (h:At w B g p b L x) (ho:x.out= []) {Z:List (Option Nat)} (hz:Clear w Z L):At w ⟨B.b,Z⟩ g p b L x:=by
 cases x with
 | live s=>
   obtain ⟨q,v,f,bd,t,o,rfl,h1,h2⟩:=h;have ho:s.out= []:=ho;rw [ho] at h2;refine ⟨q,v,f,bd,t,o,rfl,h1,?_⟩;rw [ho];exact h2.rezone hz
 | dead e out=>
   obtain ⟨o,rfl,h⟩:=h;have ho:out= []:=ho;subst ho;exact ⟨o,rfl,h.row,outs_of (outs_nil (B:=B) h.O),h.ne,h.ge,h.lt,h.bad,hz⟩
end
end Go.Proofs.YtnabkcglnbdfeaaGreatDoor.Pg
namespace Go.Proofs.YtnabkcglnbdfeaaGreatDoor.Pg
open Go.RowKit Base Txt Par
def wideM (p:Nat) (m:Ln.M):Ln.M:={m with lf:=Ds p 1,cr:=Ds p 2}
def T.wide (p:Nat) (t:T):T:={t with rd:=wideM p t.rd}
structure T.Strict (t:T):Prop where
 lf:t.rd.lf=false
 cr:t.rd.cr=false
theorem decide_codes (ch:Bool) (body minor:Int) (fs:List Fld) (c:Frm.Cl):0≤(Frm.decideV c ch body minor fs).2.2:=by
 unfold Frm.decideV Frm.bodyV;split
 ·unfold Frm.hostsV;split
  ·decide
  ·split<;>decide
 ·split
  ·unfold Frm.winsV
   repeat' split
   all_goals decide
  ·split
   ·split<;>decide
   ·unfold Frm.fixedV;split
    ·exact Int.le_refl _
    ·show 0≤(Frm.lengthV c.lp c.lc c.lf c.ll body (find fs Frm.clN)).2;unfold Frm.lengthV;split
     ·decide
     ·split
      ·decide
      ·unfold Frm.numV;split
       ·decide
       ·split
        ·decide
        ·exact Int.le_refl _
theorem decide_pos {ch:Bool} {body minor:Int} {fs:List Fld} {c:Frm.Cl} {d:Int × Int × Int} (hd:d=Frm.decideV c ch body minor fs) (h1:d.2.2≠0):d.2.2.toNat≠0:=by have:=decide_codes ch body minor fs c;rw [←hd] at this;omega
theorem size_pos {hex blanks:Bool} {ext body:Int} {l:List UInt8} {z:Int × Int} (hz:z=Chk.sizeV hex blanks ext body l) (h1:z.2≠0):z.2.toNat≠0:=by
 have:0≤(Chk.sizeV hex blanks ext body l).2:=by
  unfold Chk.sizeV;split
  ·unfold Chk.numV;split
   ·decide
   ·split
    ·decide
    ·exact Int.le_refl _
  ·decide
 rw [←hz] at this;omega
section
variable {p:Nat} {b:Bd} {t t2:T} {s:List UInt8} {c:UInt8}
end
end Go.Proofs.YtnabkcglnbdfeaaGreatDoor.Pg
namespace Go.Proofs.YtnabkcglnbdfeaaGreatDoor.Pg
open Go.RowKit Base Txt Par
structure RelW (m:Ln.M) (q:Ln.R):Prop where
 lf:q.lf=m.lf
 cr:q.cr=m.cr
 most:q.most=m.most
 dead:q.dead=false
 CR:q.CR=m.pend
 B:q.B=if Ln.ended m.last then [] else m.buf
structure Fresh (m:Ln.M):Prop where
 buf:(if Ln.ended m.last then [] else m.buf)= []
 pend:m.pend=false
theorem RelW.step {m:Ln.M} {q:Ln.R} (h:RelW m q) (hm:m.Ok) (hf:Ln.failed m.last=false) (c:UInt8) :
 q.how c=m.clear.next c∧(Ln.failed (m.clear.next c)=false→RelW (m.byte c) (q.byte c)∧(q.byte c).L=(m.byte c).line):=by
 have hr:Ln.Rel m {q with L:=m.line}:=⟨h.lf,h.cr,h.most,h.dead.trans hf.symm,rfl,fun _=>h.CR,fun _=>h.B⟩;have h1:=Ln.step_how hr hm c;have h2:=Ln.step_rel hr hm c;have e:({q with L:=m.line}:Ln.R).byte c=q.byte c:=by simp [Ln.R.byte,Ln.R.start,Ln.R.fin,Ln.R.die,h.dead]
 rw [e] at h2;refine ⟨h1,fun hn=>?_⟩;exact ⟨⟨h2.lf,h2.cr,h2.most,h2.dead.trans hn,h2.CR hn,h2.B hn⟩,h2.L⟩
theorem Fresh.isNew {t:T} (h:Fresh t.rd):t.isNew=true:=by
 have h1:t.rd.len=0:=by
  have:=congrArg List.length h.buf;unfold Ln.M.len;split
  ·rfl
  ·rename_i hn;rw [if_neg hn] at this;exact this
 unfold T.isNew;rw [h1,h.pend];rfl
structure R0 (p:Nat) (b:Bd) (t:T) (s:S):Prop where
 e:s.e=0
 st:t.st=s.st+1
 r:s.r=t.r
 out:s.out=t.out
 head:s.head=t.size
 hl:s.st≤1→s.lines=t.hl
 bl:s.st=6→s.lines=t.bl
 bl0:s.st≠6→t.bl=0
 left:Dl s.st=true→s.left=t.left
 rd:Dl s.st=false→RelW t.rd s.rd
 fr:Dl s.st=true→Fresh t.rd
 lf:t.rd.lf=Ds p 1
 cr:t.rd.cr=Ds p 2
 most:s.st≠5→t.rd.most=Ln.mid b.x0
 beh:s.st=5→t.r.body≠ []
 ch:t.r.ch=decide (3≤s.st)
structure RR (p:Nat) (b:Bd) (t:T) (s:S):Prop extends R0 p b t s where
 fresh:s.fresh=t.next
 clean:s.clean=(t.st==1&&t.isNew)
def RQ (p:Nat) (b:Bd):Q→S→Prop
 | .live t,s=>RR p b t s
 | .dead e o,s=>s.e=e∧e≠0∧s.out=o∧s.clean=false
section
variable {p:Nat} {b:Bd} {t:T} {s:S}
theorem Fresh.nl {m:Ln.M} (h:Fresh m) (hl:m.lf=Ds p 1) (hc:m.cr=Ds p 2) (hm:m.most=Ln.mid b.x0):RelW m (nl p b.x0):=
 ⟨hl.symm,hc.symm,hm.symm,rfl,h.pend.symm,h.buf.symm⟩
theorem fresh_of (most:Int):Fresh (Ln.M.of p most):=⟨rfl,rfl⟩
theorem next_st (h3:t.st≠3) (h4:t.st≠4):t.next=false:=by unfold T.next;rw [beq_eq_false_iff_ne.2 h3,beq_eq_false_iff_ne.2 h4];rfl
theorem next_body (h:t.r.body≠ []):t.next=false:=by
 unfold T.next;have:t.r.body.isEmpty=false:=by
  cases hb:t.r.body with
  | nil=>exact absurd hb h
  | cons _ _=>rfl
 rw [this,As,Bool.and_false]
theorem clean_st (h:t.st≠1):(t.st==1&&t.isNew)=false:=by rw [beq_eq_false_iff_ne.2 h];rfl
theorem ends_err {e:Nat} {t:T} (he:e≠0):ends (e,t)=.dead e t.out:=if_neg he
theorem fail_sim {e:Nat} (h:R0 p b t s) (he:e≠0):RQ p b (.dead e t.out) (s.fail e):=⟨rfl,he,h.out,rfl⟩
theorem bod (h:R0 p b t s):Pg.bodied t.st=Dl s.st:=by
 rw [h.st];unfold Pg.bodied Dl;have e1:(s.st+1==3)=(s.st==2):=by rw [Ar,beq_iff_eq,beq_iff_eq];omega
 have e2:(s.st+1==5)=(s.st==4):=by rw [Ar,beq_iff_eq,beq_iff_eq];omega
 rw [e1,e2]
theorem hed (h:R0 p b t s):Pg.headed t.st=Par.headed s.st:=by
 rw [h.st];unfold Pg.headed Par.headed;have e1:(s.st+1==1)=(s.st==0):=by rw [Ar,beq_iff_eq,beq_iff_eq];omega
 have e2:(s.st+1==2)=(s.st==1):=by rw [Ar,beq_iff_eq,beq_iff_eq];omega
 have e3:(s.st+1==7)=(s.st==6):=by rw [Ar,beq_iff_eq,beq_iff_eq];omega
 rw [e1,e2,e3]
theorem long_sim (h:R0 p b t s):Pg.longE t.st=Par.longE s.st∧Par.longE s.st≠0:=by
 rw [h.st];unfold Pg.longE Par.longE Par.headed;by_cases h0:s.st=0
 ·simp [h0]
 ·by_cases h1:s.st=1
  ·simp [h1]
  ·by_cases h6:s.st=6
   ·simp [h6]
   ·rw [if_neg (by omega),if_neg (by omega),if_neg h0,if_neg (by simp [h0,h1,h6])];decide
theorem whole_sim (h:R0 p b t s) (hf:Fresh t.rd) (h5:s.st≠5):RR p b t.fin (s.whole p b) where
 e:=h.e
 st:=rfl
 r:=rfl
 out:=by show s.out ++ [s.r]=t.out ++ [t.r];rw [h.out,h.r]
 head:=rfl
 hl:=fun _=>rfl
 bl:=fun e=>absurd e (by show (0:Nat)≠6;decide)
 bl0:=fun _=>rfl
 left:=fun e=>absurd e (by show Dl 0≠true;decide)
 rd:=fun _=>hf.nl h.lf h.cr (h.most h5)
 fr:=fun e=>absurd e (by show Dl 0≠true;decide)
 lf:=h.lf
 cr:=h.cr
 most:=fun _=>h.most h5
 beh:=fun e=>absurd e (by show (0:Nat)≠5;decide)
 ch:=rfl
 fresh:=(next_st (t:=t.fin) (by show (1:Nat)≠3;decide) (by show (1:Nat)≠4;decide)).symm
 clean:=by
  have:t.fin.isNew=true:=Fresh.isNew (t:=t.fin) hf
  show true=((1:Nat)==1&&t.fin.isNew);rw [this];rfl
theorem first_sim (h:R0 p b t s) (hf:Fresh t.rd) (hc:s.clean=false) (hfr:s.fresh=false) (hs:s.st=0) (ln:List UInt8):RQ p b (ends (t.first p b ln)) (s.first p b ln):=by
 have ht:t.st=1:=by rw [h.st,hs]
 unfold T.first S.first;by_cases h0:ln= []
 ·simp only [if_pos h0];cases hq:Ds p 0 with
  | true=>
    simp only [if_true]
    exact {h with
     fresh:=hfr.trans (next_st (t:=t) (by omega) (by omega)).symm
     clean:=by
      show true= _
      rw [hf.isNew,ht];rfl}
  | false=>
    simp only [Au,if_false];rw [ends_err (by decide)]
    exact fail_sim h (by decide)
 ·simp only [if_neg h0];generalize Rq.request (Rq.clOf p) b.od ln=q;by_cases hq:q.2.2.2=0
  ·simp only [hq,if_true,ne_eq,not_true_eq_false,if_false];show RR p b _ _
   exact {
    e:=h.e
    st:=rfl
    r:=by show ({s.r with m:=ba q.1,x:=ba q.2.1,k:=(q.2.2.1:Int)}:Dx)={t.r with m:=ba q.1,x:=ba q.2.1,k:=(q.2.2.1:Int)};rw [h.r]
    out:=h.out
    head:=h.head
    hl:=fun _=>h.hl (by omega)
    bl:=fun e=>absurd e (by show (1:Nat)≠6;decide)
    bl0:=fun _=>h.bl0 (by omega)
    left:=fun e=>absurd e (by show Dl 1≠true;decide)
    rd:=fun _=>h.rd (by rw [hs];rfl)
    fr:=fun e=>absurd e (by show Dl 1≠true;decide)
    lf:=h.lf
    cr:=h.cr
    most:=fun _=>h.most (by omega)
    beh:=fun e=>absurd e (by show (1:Nat)≠5;decide)
    ch:=by show t.r.ch=decide (3≤1);rw [h.ch,hs];rfl
    fresh:=hfr.trans (next_st (t:={t with r:={t.r with m:=ba q.1,x:=ba q.2.1,k:=(q.2.2.1:Int)},st:=2}) (by show (2:Nat)≠3;decide) (by show (2:Nat)≠4;decide)).symm
    clean:=hc}
  ·rw [if_neg hq,if_pos hq,ends_err hq];exact fail_sim h hq
theorem over_sim (h:R0 p b t s) (ok:t.Ok) (hf:Fresh t.rd) (hc:s.clean=false) (hs:s.st=1):RQ p b (ends (t.endHead p b)) (s.over p b):=by
 have ht:t.st=2:=by rw [h.st,hs]
 have hbody:t.r.body= []:=ok.early (by omega);have hnew:=hf.isNew;unfold T.endHead S.over;rw [h.r];have hp:=fun h1=>decide_pos (d:=Frm.decideV (Frm.clOf p) b.ch b.x3 t.r.k t.r.fs) rfl h1;generalize Frm.decideV (Frm.clOf p) b.ch b.x3 t.r.k t.r.fs=d at hp ⊢;by_cases h1:d.2.2=0
 ·simp only [h1,ne_eq,not_true_eq_false,if_false];by_cases h2:d.1=2
  ·simp only [if_pos h2];show RR p b _ _
   exact {
    e:=h.e
    st:=rfl
    r:=rfl
    out:=h.out
    head:=h.head
    hl:=fun e=>absurd e (by show¬(3:Nat)≤1;decide)
    bl:=fun e=>absurd e (by show (3:Nat)≠6;decide)
    bl0:=fun _=>h.bl0 (by omega)
    left:=fun e=>absurd e (by show Dl 3≠true;decide)
    rd:=fun _=>hf.nl h.lf h.cr (h.most (by omega))
    fr:=fun e=>absurd e (by show Dl 3≠true;decide)
    lf:=h.lf
    cr:=h.cr
    most:=fun _=>h.most (by omega)
    beh:=fun e=>absurd e (by show (3:Nat)≠5;decide)
    ch:=rfl
    fresh:=by show true=(((4:Nat)==3|| (4:Nat)==4)&&(t.r.body.isEmpty&&t.isNew));rw [hbody,hnew];rfl
    clean:=hc.trans (clean_st (t:={t with r:={t.r with ch:=true},st:=4}) (by show (4:Nat)≠1;decide)).symm}
  ·simp only [if_neg h2];by_cases h3:d.2.1=0
   ·simp only [if_pos h3]
    exact whole_sim h hf (by omega)
   ·simp only [if_neg h3];show RR p b _ _
    exact {
     e:=h.e
     st:=rfl
     r:=rfl
     out:=h.out
     head:=h.head
     hl:=fun e=>absurd e (by show¬(2:Nat)≤1;decide)
     bl:=fun e=>absurd e (by show (2:Nat)≠6;decide)
     bl0:=fun _=>h.bl0 (by omega)
     left:=fun _=>rfl
     rd:=fun e=>absurd e (by show Dl 2≠false;decide)
     fr:=fun _=>hf
     lf:=h.lf
     cr:=h.cr
     most:=fun _=>h.most (by omega)
     beh:=fun e=>absurd e (by show (2:Nat)≠5;decide)
     ch:=by show t.r.ch=decide (3≤2);rw [h.ch,hs];rfl
     fresh:=by show true=(((3:Nat)==3|| (3:Nat)==4)&&(t.r.body.isEmpty&&t.isNew));rw [hbody,hnew];rfl
     clean:=hc.trans (clean_st (t:={t with left:=d.2.1.toNat,st:=3}) (by show (3:Nat)≠1;decide)).symm}
 ·simp only [ne_eq,h1,not_false_eq_true,if_true];rw [ends_err (hp h1)]
  exact fail_sim h (hp h1)
theorem XXy3C {P:Prop} (h:P:=by
 have he:e≠0:=by rcases fieldV_err hv with e1 | e1<;>rw [e1]<;>decide
 simp only [listE];rw [ends_err he]
 exact ⟨rfl,he,h.out,rfl⟩):P:=h
theorem fields_sim (h:R0 p b t s) (ok:t.Ok) (hf:Fresh t.rd) (hc:s.clean=false) (hfr:s.fresh=false) (hs:s.st=1) (ln:List UInt8):RQ p b (ends (t.fields p b ln)) (s.fields p b ln):=by
 have ht:t.st=2:=by rw [h.st,hs]
 unfold T.fields S.fields;by_cases h0:ln= []
 ·simp only [if_pos h0];exact over_sim h ok hf hc hs
 ·simp only [if_neg h0];rw [h.r,h.hl (by omega)];cases hv:fieldV p t.hl t.r.fs ln b.x1 with
  | inl e=>
    exact XXy3C
  | inr l=>
    show RR p b _ _
    exact {
     e:=h.e
     st:=h.st
     r:=rfl
     out:=h.out
     head:=h.head
     hl:=fun _=>rfl
     bl:=fun e=>absurd e (by show s.st≠6;omega)
     bl0:=fun _=>h.bl0 (by omega)
     left:=fun e=>absurd e (by show Dl s.st≠true;rw [hs];decide)
     rd:=fun _=>h.rd (by rw [hs];rfl)
     fr:=fun e=>absurd e (by show Dl s.st≠true;rw [hs];decide)
     lf:=h.lf
     cr:=h.cr
     most:=fun _=>h.most (by omega)
     beh:=fun e=>absurd e (by show s.st≠5;omega)
     ch:=h.ch
     fresh:=hfr.trans (next_st (t:={t with hl:=t.hl+1,r:={t.r with fs:=l}}) (by show t.st≠3;omega) (by show t.st≠4;omega)).symm
     clean:=hc.trans (clean_st (t:={t with hl:=t.hl+1,r:={t.r with fs:=l}}) (by show t.st≠1;omega)).symm}
theorem trail_sim (h:R0 p b t s) (hf:Fresh t.rd) (hc:s.clean=false) (hfr:s.fresh=false) (hs:s.st=6) (ln:List UInt8):RQ p b (ends (t.trail p b ln)) (s.trail p b ln):=by
 have ht:t.st=7:=by rw [h.st,hs]
 unfold T.trail S.trail;by_cases h0:ln= []
 ·simp only [if_pos h0]
  exact whole_sim h hf (by omega)
 ·simp only [if_neg h0];rw [h.r,h.bl hs];cases hv:fieldV p t.bl t.r.ts ln b.x5 with
  | inl e=>
    exact XXy3C
  | inr l=>
    show RR p b _ _
    exact {
     e:=h.e
     st:=h.st
     r:=rfl
     out:=h.out
     head:=h.head
     hl:=fun e=>absurd e (by show¬s.st≤1;omega)
     bl:=fun _=>rfl
     bl0:=fun e=>absurd hs e
     left:=fun e=>absurd e (by show Dl s.st≠true;rw [hs];decide)
     rd:=fun _=>h.rd (by rw [hs];rfl)
     fr:=fun e=>absurd e (by show Dl s.st≠true;rw [hs];decide)
     lf:=h.lf
     cr:=h.cr
     most:=fun _=>h.most (by omega)
     beh:=fun e=>absurd e (by show s.st≠5;omega)
     ch:=h.ch
     fresh:=hfr.trans (next_st (t:={t with bl:=t.bl+1,r:={t.r with ts:=l}}) (by show t.st≠3;omega) (by show t.st≠4;omega)).symm
     clean:=hc.trans (clean_st (t:={t with bl:=t.bl+1,r:={t.r with ts:=l}}) (by show t.st≠1;omega)).symm}
theorem chunk_sim (h:R0 p b t s) (hf:Fresh t.rd) (hc:s.clean=false) (hfr:s.fresh=false) (hs:s.st=3) (ln:List UInt8):RQ p b (ends (t.chunk p b ln)) (s.chunk p b ln):=by
 have ht:t.st=4:=by rw [h.st,hs]
 unfold T.chunk S.chunk;rw [h.r];have hp:=fun h1=>size_pos (z:=Chk.sizeV (Ds p 27) (Ds p 28) b.x4 b.x3 ln) rfl h1;generalize Chk.sizeV (Ds p 27) (Ds p 28) b.x4 b.x3 ln=z at hp ⊢;by_cases h1:z.2=0
 ·simp only [h1,ne_eq,not_true_eq_false,if_false];by_cases h2:z.1=0
  ·simp only [if_pos h2];show RR p b _ _
   exact {
    e:=h.e
    st:=rfl
    r:=rfl
    out:=h.out
    head:=h.head
    hl:=fun e=>absurd e (by show¬(6:Nat)≤1;decide)
    bl:=fun _=>(h.bl0 (by omega)).symm
    bl0:=fun e=>absurd rfl e
    left:=fun e=>absurd e (by show Dl 6≠true;decide)
    rd:=fun _=>hf.nl h.lf h.cr (h.most (by omega))
    fr:=fun e=>absurd e (by show Dl 6≠true;decide)
    lf:=h.lf
    cr:=h.cr
    most:=fun _=>h.most (by omega)
    beh:=fun e=>absurd e (by show (6:Nat)≠5;decide)
    ch:=by show t.r.ch=decide (3≤6);rw [h.ch,hs];rfl
    fresh:=hfr.trans (next_st (t:={t with st:=7}) (by show (7:Nat)≠3;decide) (by show (7:Nat)≠4;decide)).symm
    clean:=hc.trans (clean_st (t:={t with st:=7}) (by show (7:Nat)≠1;decide)).symm}
  ·simp only [if_neg h2];by_cases h3:b.x3-(t.r.body.length:Int)<z.1
   ·simp only [if_pos h3];rw [ends_err (by decide)]
    exact fail_sim h (by decide)
   ·simp only [if_neg h3];show RR p b _ _
    exact {
     e:=h.e
     st:=rfl
     r:=rfl
     out:=h.out
     head:=h.head
     hl:=fun e=>absurd e (by show¬(4:Nat)≤1;decide)
     bl:=fun e=>absurd e (by show (4:Nat)≠6;decide)
     bl0:=fun _=>h.bl0 (by omega)
     left:=fun _=>rfl
     rd:=fun e=>absurd e (by show Dl 4≠false;decide)
     fr:=fun _=>hf
     lf:=h.lf
     cr:=h.cr
     most:=fun _=>h.most (by omega)
     beh:=fun e=>absurd e (by show (4:Nat)≠5;decide)
     ch:=by show t.r.ch=decide (3≤4);rw [h.ch,hs];rfl
     fresh:=hfr.trans (next_st (t:={t with left:=z.1.toNat,st:=5}) (by show (5:Nat)≠3;decide) (by show (5:Nat)≠4;decide)).symm
     clean:=hc.trans (clean_st (t:={t with left:=z.1.toNat,st:=5}) (by show (5:Nat)≠1;decide)).symm}
 ·simp only [ne_eq,h1,not_false_eq_true,if_true];rw [ends_err (hp h1)]
  exact fail_sim h (hp h1)
theorem enter_sim (h:R0 p b t s) (hs:s.st=5):R0 p b (t.enter p 4 b.x0) {s with st:=3,rd:=nl p b.x0} where
 e:=h.e
 st:=rfl
 r:=h.r
 out:=h.out
 head:=h.head
 hl:=fun e=>absurd e (by show¬(3:Nat)≤1;decide)
 bl:=fun e=>absurd e (by show (3:Nat)≠6;decide)
 bl0:=fun _=>h.bl0 (by omega)
 left:=fun e=>absurd e (by show Dl 3≠true;decide)
 rd:=fun _=>(fresh_of b.x0).nl rfl rfl rfl
 fr:=fun e=>absurd e (by show Dl 3≠true;decide)
 lf:=rfl
 cr:=rfl
 most:=fun _=>rfl
 beh:=fun e=>absurd e (by show (3:Nat)≠5;decide)
 ch:=by show t.r.ch=decide (3≤3);rw [h.ch,hs];rfl
theorem line_sim (h:R0 p b t s) (ok:t.Ok) (hf:Fresh t.rd) (hc:s.clean=false) (hfr:s.fresh=false) (hn:Dl s.st=false) (ln:List UInt8):RQ p b (ends (t.line p b ln)) (s.ended p b ln):=by
 have h7:=ok.st;have ht:=h.st;have hn2:s.st≠2∧s.st≠4:=by constructor<;> (intro e;rw [e] at hn;exact absurd hn (by decide))
 have hcs:s.st=0∨s.st=1∨s.st=3∨s.st=5∨s.st=6:=by omega
 unfold T.line S.ended;rcases hcs with e | e | e | e | e
 ·rw [ht,e];exact first_sim h hf hc hfr e ln
 ·rw [ht,e];exact fields_sim h ok hf hc hfr e ln
 ·rw [ht,e];exact chunk_sim h hf hc hfr e ln
 ·rw [ht,e];have h1:=enter_sim h e;show RR p b (t.enter p 4 b.x0) {s with st:=3,rd:=nl p b.x0}
  exact {h1 with
   fresh:=hfr.trans (next_body (t:=t.enter p 4 b.x0) (h.beh e)).symm
   clean:=hc.trans (clean_st (t:=t.enter p 4 b.x0) (by show (4:Nat)≠1;decide)).symm}
 ·rw [ht,e];exact trail_sim h hf hc hfr e ln
theorem body_sim (h:R0 p b t s) (ok:t.Ok) (hc:s.clean=false) (hfr:s.fresh=false) (hn:Dl s.st=true) (c:UInt8) :
 RR p b (if t.left=1 then (t.keep c).endData p else t.keep c) (s.bodyB p b c):=by
 have hst:s.st=2∨s.st=4:=by unfold Dl at hn;simpa using hn
 have hl:1≤t.left:=ok.left (by rw [bod h];exact hn);have hle:=h.left hn;have hfr0:=h.fr hn;have hbd:(t.keep c).r.body≠ []:=by show t.r.body ++ [c]≠ [];simp
 have er:({s.r with body:=s.r.body ++ [c]}:Dx)={t.r with body:=t.r.body ++ [c]}:=by rw [h.r]
 have hk:R0 p b (t.keep c) {s with r:={s.r with body:=s.r.body ++ [c]},left:=s.left-1}:={
  e:=h.e
  st:=h.st
  r:=er
  out:=h.out
  head:=h.head
  hl:=h.hl
  bl:=h.bl
  bl0:=h.bl0
  left:=fun _=>by show s.left-1=t.left-1;rw [hle]
  rd:=fun e=>h.rd e
  fr:=fun _=>hfr0
  lf:=h.lf
  cr:=h.cr
  most:=h.most
  beh:=fun _=>hbd
  ch:=h.ch}
 unfold S.bodyB;by_cases h1:1<s.left
 ·rw [if_neg (by omega)];simp only [if_pos h1]
  exact {hk with
   fresh:=hfr.trans (next_body hbd).symm
   clean:=hc.trans (clean_st (t:=t.keep c) (by show t.st≠1;have:=h.st;omega)).symm}
 ·rw [if_pos (by omega)];simp only [if_neg h1];unfold T.endData;have e2:(t.keep c).r.ch=t.r.ch:=rfl;rw [e2,h.ch];rcases hst with e | e
  ·simp only [e,Nat.reduceLeDiff,decide_false,Au,if_false,if_true]
   have:=whole_sim hk hfr0 (by show s.st≠5;omega);rw [e] at this;exact this
  ·simp only [e,Nat.reduceLeDiff,decide_true,if_true,Nat.reduceEqDiff,if_false]
   exact {
    e:=h.e
    st:=rfl
    r:=er
    out:=h.out
    head:=h.head
    hl:=fun e=>absurd e (by show¬(5:Nat)≤1;decide)
    bl:=fun e=>absurd e (by show (5:Nat)≠6;decide)
    bl0:=fun _=>h.bl0 (by omega)
    left:=fun e=>absurd e (by show Dl 5≠true;decide)
    rd:=fun _=>⟨rfl,rfl,rfl,rfl,rfl,rfl⟩
    fr:=fun e=>absurd e (by show Dl 5≠true;decide)
    lf:=rfl
    cr:=rfl
    most:=fun e=>absurd rfl e
    beh:=fun _=>hbd
    ch:=by show t.r.ch=decide (3≤5);rw [h.ch,e];rfl
    fresh:=hfr.trans (next_st (t:=(t.keep c).enter p 6 0) (by show (6:Nat)≠3;decide) (by show (6:Nat)≠4;decide)).symm
    clean:=hc.trans (clean_st (t:=(t.keep c).enter p 6 0) (by show (6:Nat)≠1;decide)).symm}
theorem ended_fresh {m:Ln.M} {c:UInt8} {n:Int} (hn:m.clear.next c=n) (h:n=1∨n=2):Fresh (m.byte c)∧Ln.failed (m.byte c).last=false:=by
 have hl:(m.byte c).last=n:=hn;refine ⟨⟨?_,?_⟩,?_⟩
 ·rw [hl,if_pos];rcases h with rfl | rfl<;>rfl
 ·show (m.clear.next c==0&&c==13)=false;rw [hn];rcases h with rfl | rfl<;>rfl
 ·rw [hl];rcases h with rfl | rfl<;>rfl
theorem byte_some {m:Ln.M} {c:UInt8} (hm:m.next c=0):¬((m.told c).buf= []∧(m.next c==0&&c==13)=false):=by
 rintro ⟨h1,h2⟩;rw [hm] at h2;have hc:c≠13:=by
  intro e;rw [e] at h2
  exact absurd h2 (by decide)
 have hk:m.keeps c=true:=by
  unfold Ln.M.next at hm;unfold Ln.M.keeps;by_cases g1:Ln.failed m.last=true
  ·simp [g1] at hm
  ·by_cases g2:m.pend=true
   ·by_cases g3:c=10
    ·simp [g1,g2,g3] at hm
    ·by_cases g4:m.cr=true
     ·simp [g1,g2,g3,g4] at hm
     ·simp [g1,g2,g3,g4] at hm
   ·by_cases g3:c=10
    ·by_cases g4:m.lf=true
     ·simp [g1,g2,g3,g4] at hm
     ·simp [g1,g2,g3,g4] at hm
    ·by_cases g5:m.buf.length=m.most
     ·simp [g1,g2,g3,hc,g5] at hm
     ·simp [g1,g2,g3,hc,g5]
 have:(m.told c).buf=m.buf ++ [c]:=by show m.buf++(if m.keeps c then [c] else [])= _;rw [if_pos hk]
 rw [this] at h1;simp at h1
theorem more_new {c:UInt8} (hn:t.rd.clear.next c=0):({t with rd:=t.rd.byte c}:T).isNew=false:=by
 have h:=byte_some (m:=t.rd.clear) hn;have e1:(t.rd.byte c).len=(t.rd.clear.told c).buf.length:=by unfold Ln.M.len;have hl:(t.rd.byte c).last=0:=hn;rw [hl];rfl
 have e2:(t.rd.byte c).pend=(t.rd.clear.next c==0&&c==13):=rfl;unfold T.isNew;rw [Bool.eq_false_iff];intro hh;rw [An,decide_eq_true_eq,Aw] at hh;exact h ⟨BK (e1 ▸ hh.1),e2 ▸ hh.2⟩
theorem next_new (h:t.isNew=false):t.next=false:=by unfold T.next;rw [h,Bool.and_false,Bool.and_false]
theorem step_sim (h:R0 p b t s) (hn:Dl s.st=false) (ok:t.Ok) (c:UInt8) :
 s.rd.how c=t.rd.clear.next c∧(Ln.failed (t.rd.clear.next c)=false→
  R0 p b {t with rd:=t.rd.byte c} {s with fresh:=false,rd:=s.rd.byte c}∧({t with rd:=t.rd.byte c}:T).Ok∧(s.rd.byte c).L=(t.rd.byte c).line):=by
 obtain ⟨h1,h2⟩:=(h.rd hn).step ok.rd ok.nf c;refine ⟨h1,fun hf=>?_⟩;obtain ⟨h3,h4⟩:=h2 hf
 exact ⟨{
  e:=h.e
  st:=h.st
  r:=h.r
  out:=h.out
  head:=h.head
  hl:=h.hl
  bl:=h.bl
  bl0:=h.bl0
  left:=h.left
  rd:=fun _=>h3
  fr:=fun e=>absurd (hn.symm.trans e) (by decide)
  lf:=h.lf
  cr:=h.cr
  most:=h.most
  beh:=h.beh
  ch:=h.ch},ok.byteR c hf,h4⟩
theorem nextM_is (m:Ln.M) (c:UInt8) (hp:m.pend=false):m.next c≠2:=by
 unfold Ln.M.next;split
 ·decide
 ·rw [hp];simp only [Au,if_false];split
  ·split<;>decide
  ·split
   ·decide
   ·split<;>decide
theorem took_sim (h:R0 p b t s) (hn:Dl s.st=false) (ok:t.Ok) (hc:s.clean=false) (c:UInt8) {n:Int} (hnx:t.rd.clear.next c=n) :
 s.rd.how c=n∧(n=0→RR p b {t with rd:=t.rd.byte c} {s with fresh:=false,rd:=s.rd.byte c})∧
 (n=1∨n=2→RQ p b (ends (({t with rd:=t.rd.byte c}:T).line p b (t.rd.byte c).line)) (({s with fresh:=false,rd:=s.rd.byte c}:S).ended p b (s.rd.byte c).L)):=by
 obtain ⟨k1,k2⟩:=step_sim h hn ok c;rw [hnx] at k1 k2;refine ⟨k1,fun h0=>?_,fun h12=>?_⟩
 ·obtain ⟨k3,k4,k5⟩:=k2 (by rw [h0];rfl)
  have hw:=more_new (t:=t) (c:=c) (hnx.trans h0)
  exact {k3 with
   fresh:=(next_new hw).symm
   clean:=by
    show s.clean= _
    rw [hw,Bool.and_false];exact hc}
 ·obtain ⟨k3,k4,k5⟩:=k2 (by rcases h12 with e | e<;> (rw [e];rfl));have hf:=(ended_fresh hnx h12).1;rw [k5];exact line_sim k3 k4 hf hc rfl hn _
theorem plain_sim (h:R0 p b t s) (hn:Dl s.st=false) (ok:t.Ok) (hc:s.clean=false) (hp:t.rd.pend=false) (h6:t.st≠6) (c:UInt8) :
 RQ p b (t.inLine p b c).1 (s.plain p b c):=by
 have hn':¬Dl s.st=true:=by rw [hn];decide
 obtain ⟨n,hnx⟩:∃n,t.rd.clear.next c=n:=⟨_,rfl⟩;obtain ⟨k1,k2,k3⟩:=took_sim h hn ok hc c hnx;have h2:n≠2:=by rw [←hnx];exact nextM_is t.rd.clear c hp
 have his:=Ln.M.next_is t.rd.clear c;rw [hnx] at his;have h6':(t.st==6)=false:=beq_eq_false_iff_ne.2 h6;unfold T.inLine S.plain;simp only [if_neg hn',k1,hnx,h6',As,Au,if_false];rcases his with e | e | e | e | e
 ·subst e;exact k2 rfl
 ·subst e
  exact k3 (.inl rfl)
 ·exact absurd e h2
 ·subst e;exact ⟨rfl,by decide,h.out,rfl⟩
 ·subst e;obtain ⟨g1,g2⟩:=long_sim h;simp only [Int.reduceEq,if_false,if_true];rw [g1];exact ⟨rfl,g2,h.out,rfl⟩
theorem line_cnt (ln:List UInt8) :
 ((t.line p b ln).2.cnt=t.cnt∧(t.line p b ln).2.size=t.size∧((t.line p b ln).2.st=1→t.st=1)∧((t.line p b ln).2.st=2→t.st=1∨t.st=2))∨
 ((t.line p b ln).2.cnt=false∧(t.line p b ln).2.size=0∧(t.line p b ln).2.st=1∧t.st≠1):=by
 unfold T.line;by_cases h1:t.st=1
 ·left;simp only [if_pos h1];unfold T.first;split
  ·exact ⟨rfl,rfl,fun _=>h1,fun _=>.inl h1⟩
  ·simp only;split
   ·exact ⟨rfl,rfl,fun _=>h1,fun _=>.inl h1⟩
   ·exact ⟨rfl,rfl,fun _=>h1,fun _=>.inl h1⟩
 simp only [if_neg h1];by_cases h2:t.st=2
 ·simp only [if_pos h2];unfold T.fields;by_cases hs:ln= []
  ·simp only [if_pos hs];unfold T.endHead;generalize Frm.decideV (Frm.clOf p) b.ch b.x3 t.r.k t.r.fs=d;simp only;split
   ·exact .inl ⟨rfl,rfl,fun e=>absurd (h2.symm.trans e) (by decide),fun _=>.inr h2⟩
   ·split
    ·exact .inl ⟨rfl,rfl,fun e=>absurd e (by show (4:Nat)≠1;decide),fun _=>.inr h2⟩
    ·split
     ·exact .inr ⟨rfl,rfl,rfl,h1⟩
     ·exact .inl ⟨rfl,rfl,fun e=>absurd e (by show (3:Nat)≠1;decide),fun _=>.inr h2⟩
  ·simp only [if_neg hs];exact .inl ⟨by trivial,by trivial,fun e=>e,fun _=>.inr h2⟩
 simp only [if_neg h2];by_cases h4:t.st=4
 ·left;simp only [if_pos h4];unfold T.chunk;simp only;split
  ·exact ⟨rfl,rfl,fun e=>absurd (h4.symm.trans e) (by decide),fun e=>absurd (h4.symm.trans e) (by decide)⟩
  ·split
   ·exact ⟨rfl,rfl,fun e=>absurd e (by show (7:Nat)≠1;decide),fun e=>absurd e (by show (7:Nat)≠2;decide)⟩
   ·split
    ·exact ⟨rfl,rfl,fun e=>absurd (h4.symm.trans e) (by decide),fun e=>absurd (h4.symm.trans e) (by decide)⟩
    ·exact ⟨rfl,rfl,fun e=>absurd e (by show (5:Nat)≠1;decide),fun e=>absurd e (by show (5:Nat)≠2;decide)⟩
 simp only [if_neg h4];by_cases h7:t.st=7
 ·simp only [if_pos h7];unfold T.trail;by_cases hs:ln= []
  ·simp only [if_pos hs];exact .inr ⟨rfl,rfl,rfl,h1⟩
  ·simp only [if_neg hs];exact .inl ⟨by trivial,by trivial,fun e=>e,fun e=>absurd e h2⟩
 simp only [if_neg h7];exact .inl ⟨rfl,rfl,fun e=>absurd e (by show (4:Nat)≠1;decide),fun e=>absurd e (by show (4:Nat)≠2;decide)⟩
theorem R0.of_counted (h:R0 p b t s) (hc:t.cnt=false):R0 p b t.counted {s with head:=s.head+1,clean:=false}:=by
 have e:t.counted={t with cnt:=true,size:=t.size+1}:=by unfold T.counted;rw [hc];rfl
 rw [e];exact ⟨h.e,h.st,h.r,h.out,congrArg (·+1) h.head,h.hl,h.bl,h.bl0,h.left,h.rd,h.fr,h.lf,h.cr,h.most,h.beh,h.ch⟩
theorem R0.dirty (h:R0 p b t s):R0 p b t {s with clean:=false}:=⟨h.e,h.st,h.r,h.out,h.head,h.hl,h.bl,h.bl0,h.left,h.rd,h.fr,h.lf,h.cr,h.most,h.beh,h.ch⟩
theorem RQ.err {e:Nat} {o:List Dx} (h:RQ p b (.dead e o) s):s.e≠0:=by obtain ⟨h1,h2, -, -⟩:=h;rw [h1];exact h2
theorem look_count (h:R0 p b t s) (ok:t.Ok) (hb:b.right=true) (hc:t.cnt=false) (hh:Par.headed s.st=true) (hp:t.rd.pend=false) (h6:t.st≠6) (c:UInt8) :
 RQ p b (t.look p b c).1 (s.count b (fun s=>s.plain p b c)):=by
 have hbd:Dl s.st=false:=by
  unfold Par.headed at hh;unfold Dl;simp only [Ax,beq_iff_eq] at hh
  rcases hh with (e | e) | e<;> (rw [e];rfl)
 have hb':Pg.bodied t.st=false:=(bod h).trans hbd;have hh':Pg.headed t.st=true:=(hed h).trans hh;have h1:=h.of_counted hc;have esz:t.counted.size=s.head+1:=h1.head.symm;have eS:s.count b (fun s=>s.plain p b c)=if b.x2<((s.head+1:Nat):Int) then S.fail {s with head:=s.head+1} 431 else ({s with head:=s.head+1,clean:=false}:S).plain p b c:=by unfold S.count;rw [if_neg (fun hn=>hn h.e),if_pos hh]
 rw [eS];unfold T.look;rw [if_neg (by rw [hb'];decide),if_pos hh',esz]
 by_cases hx:b.x2<((s.head+1:Nat):Int)
 ·rw [if_pos hx,if_pos hx];exact ⟨rfl,by decide,h.out,rfl⟩
 ·rw [if_neg hx,if_neg hx]
  have hok:t.counted.Ok:=ok.counted hb (by rw [esz];exact hx);exact plain_sim h1 hbd hok rfl (by rw [counted_rd];exact hp) (by rw [counted_st];exact h6) c
theorem look_plain (h:R0 p b t s) (ok:t.Ok) (hh:Pg.headed t.st=true→t.cnt=true∧¬b.x2<(t.size:Int)) (hc:s.clean=false) (hp:t.rd.pend=false) (h6:t.st≠6) (c:UInt8) :
 RQ p b (t.look p b c).1 (s.plain p b c):=by
 unfold T.look;by_cases hbd:Dl s.st=true
 ·rw [if_pos ((bod h).trans hbd)];unfold S.plain;simp only [if_pos hbd];exact body_sim (s:={s with fresh:=false}) {h with} ok hc rfl hbd c
 ·have hb':Dl s.st=false:=by simpa using hbd
  rw [if_neg (by rw [bod h];exact hbd)];by_cases h2:Pg.headed t.st=true
  ·obtain ⟨e1,e2⟩:=hh h2;have e3:t.counted=t:=by unfold T.counted;rw [if_pos e1]
   rw [if_pos h2,e3,if_neg e2];exact plain_sim h hb' ok hc hp h6 c
  ·rw [if_neg h2];exact plain_sim h hb' ok hc hp h6 c
theorem again_sim {t1 t2:T} {s2:S} (h:RR p b t2 s2) (ok2:t2.Ok) (hb:b.right=true) (hp:t2.rd.pend=false) (h6:t2.st≠6) {was:Nat} (hw:t1.st=was+1)
 (hcnt:t1.cnt=Par.headed was) (hsz:Par.headed was=true→¬b.x2<(t1.size:Int)) {ln:List UInt8} (he:t1.line p b ln=(0,t2)) (c:UInt8) :
 RQ p b (t2.look p b c).1 (s2.again p b c was):=by
 have hl:=line_cnt (p:=p) (b:=b) (t:=t1) ln;rw [he] at hl;simp only at hl;have hst:=h.st;unfold D7;by_cases hA:s2.st=0∧was≠0
 ·rw [if_pos (by simp [hA.1,hA.2])];rcases hl with ⟨-, -,k, -⟩ | ⟨k, -, -, -⟩
  ·have:=k (by omega);omega
  ·exact look_count h.toR0 ok2 hb k (by rw [hA.1];rfl) hp h6 c
 ·rw [if_neg (by
   intro hh;rw [An,beq_iff_eq,Aw,beq_eq_false_iff_ne] at hh
   exact hA hh)]
  simp only;by_cases hB:Par.headed was=false∧s2.st=6
  ·rw [if_pos (by simp [hB.1,hB.2])];have k:t2.cnt=false:=by
    rcases hl with ⟨k, -, -, -⟩ | ⟨k, -, -, -⟩
    ·rw [k,hcnt];exact hB.1
    ·exact k
   exact look_count (s:={s2 with clean:=false}) h.toR0.dirty ok2 hb k (by show Par.headed s2.st=true;rw [hB.2];rfl) hp h6 c
  ·rw [if_neg (by
    intro hh;rw [An,beq_iff_eq,Aw] at hh
    exact hB hh)]
   refine look_plain h.toR0.dirty ok2 (fun hh=>?_) rfl hp h6 c;have hh2:Par.headed s2.st=true:=(hed h.toR0).symm.trans hh;have hwas:Par.headed was=true∧t2.cnt=t1.cnt∧t2.size=t1.size:=by
    rcases hl with ⟨k1,k2,k3,k4⟩ | ⟨-, -,k3,k4⟩
    ·refine ⟨?_,k1,k2⟩;unfold Par.headed at hh2;simp only [Ax,beq_iff_eq] at hh2;rcases hh2 with (e | e) | e
     ·have:=k3 (by omega);have:was=0:=by omega
      rw [this];rfl
     ·rcases k4 (by omega) with e1 | e1
      ·have:was=0:=by omega
       rw [this];rfl
      ·have:was=1:=by omega
       rw [this];rfl
     ·cases hw2:Par.headed was with
      | true=>rfl
      | false=>exact absurd ⟨hw2,e⟩ hB
    ·exact absurd ⟨by omega,by omega⟩ hA
   obtain ⟨g1,g2,g3⟩:=hwas;exact ⟨by rw [g2,hcnt];exact g1,by rw [g3];exact hsz g1⟩
theorem ends_cases {x:Nat × T} {q:Q} (h:ends x=q):(∃t2,x=(0,t2)∧q=.live t2)∨∃e o,q=.dead e o:=by
 unfold ends at h;split at h
 ·rename_i h0;exact .inl ⟨x.2,Prod.ext h0 rfl,h.symm⟩
 ·exact .inr ⟨_,_,h.symm⟩
theorem byte1_sim {t0:T} (h:R0 p b t0 s) (hn:Dl s.st=false) (ok:t0.Ok) (hb:b.right=true) (hc:s.clean=false) (hcnt:t0.cnt=Par.headed s.st) (hsz:Par.headed s.st=true→¬b.x2<(t0.size:Int)) (c:UInt8) :
 RQ p b (match t0.inLine p b c with
  |(.live t1,false)=>(t1.look p b c).1
  |(x,_)=>x) (s.byte1 p b c):=by
 have hn':¬Dl s.st=true:=by rw [hn];decide
 have hb0:Pg.bodied t0.st=false:=(bod h).trans hn;obtain ⟨n,hnx⟩:∃n,t0.rd.clear.next c=n:=⟨_,rfl⟩;obtain ⟨k1,k2,k3⟩:=took_sim h hn ok hc c hnx;have his:=Ln.M.next_is t0.rd.clear c;rw [hnx] at his;have e5:(t0.st==6)=(s.st==5):=by rw [Ar,beq_iff_eq,beq_iff_eq,h.st];omega
 have hag:∀t',t0.inLine p b c=(.live t',false)→t'.rd.pend=false∧t'.st≠6:=fun t'=>inLine_again hb0 c
 have hok:∀t' u,t0.inLine p b c=(.live t',u)→t'.Ok:=fun t' u e=>ok.inLine hb c (by rw [e]);unfold S.byte1;simp only [if_neg hn',k1];unfold T.inLine at hag hok ⊢;simp only [hnx,e5] at hag hok ⊢;rcases his with e | e | e | e | e
 ·subst e;exact k2 rfl
 ·subst e;simp only [Int.reduceEq,if_false,Int.reduceBEq,Bool.not_false] at hag hok ⊢
  have k4:=k3 (.inl rfl);generalize ends (T.line p b {t0 with rd:=t0.rd.byte c} (t0.rd.byte c).line)=q at k4 ⊢;cases q<;>exact k4
 ·subst e
  have k4:=k3 (.inr rfl);simp only [Int.reduceEq,if_false,if_true,BEq.rfl,Bool.not_true] at hag hok ⊢;generalize hq:ends (T.line p b {t0 with rd:=t0.rd.byte c} (t0.rd.byte c).line)=q at hag hok k4 ⊢;generalize hs2:S.ended p b {s with fresh:=false,rd:=s.rd.byte c} (s.rd.byte c).L=s2 at k4 ⊢;rcases ends_cases hq with ⟨t2,g1,rfl⟩ | ⟨e,o,rfl⟩
  ·have k5:RR p b t2 s2:=k4;simp only;rw [if_pos k5.e];obtain ⟨g2,g3⟩:=hag t2 rfl;exact again_sim k5 (hok t2 false rfl) hb g2 g3 (t1:={t0 with rd:=t0.rd.byte c}) h.st hcnt hsz g1 c
  ·simp only;rw [if_neg k4.err];exact k4
 ·subst e;exact ⟨rfl,by decide,h.out,rfl⟩
 ·subst e;obtain ⟨g1,g2⟩:=long_sim h;simp only [Int.reduceEq,if_false,if_true] at hag hok ⊢;by_cases hce:(s.st==5&&Ds p 29)=true
  ·simp only [if_pos hce] at hag hok ⊢;have hs5:s.st=5:=by
    rw [An,beq_iff_eq] at hce;exact hce.1
   obtain ⟨g3,g4⟩:=hag _ rfl;have he:=enter_sim (t:=t0) (s:={s with fresh:=false}) {h with} hs5;exact look_plain he (hok _ _ rfl) (fun hh=>absurd hh (by show Pg.headed 4≠true;decide)) hc g3 g4 c
  ·simp only [if_neg hce];rw [g1];exact ⟨rfl,g2,h.out,rfl⟩
theorem take_sim (h:RR p b t s) (ok:t.Ok) (hb:b.right=true) (c:UInt8):RQ p b (t.take p b c) (s.byte p b c):=by
 have h0:R0 p b ({t with cnt:=false}:T) {s with clean:=false}:=⟨h.e,h.st,h.r,h.out,h.head,h.hl,h.bl,h.bl0,h.left,h.rd,h.fr,h.lf,h.cr,h.most,h.beh,h.ch⟩;have ok0:({t with cnt:=false}:T).Ok:=ok.cleared;unfold T.take S.byte S.count;rw [if_neg (fun hn=>hn h.e)];unfold T.look;have hbe:Pg.bodied ({t with cnt:=false}:T).st=Dl s.st:=bod (t:=t) h.toR0;have hhe:Pg.headed ({t with cnt:=false}:T).st=Par.headed s.st:=hed (t:=t) h.toR0;rw [hbe,hhe];by_cases hbd:Dl s.st=true
 ·have hnh:¬Par.headed s.st=true:=by
   unfold Dl at hbd;unfold Par.headed;simp only [Ax,beq_iff_eq] at hbd ⊢;omega
  rw [if_pos hbd,if_neg hnh];have e1:({s with clean:=false}:S).byte1 p b c=({s with fresh:=false,clean:=false}:S).bodyB p b c:=by unfold S.byte1;simp only [if_pos hbd]
  simp only [e1];exact body_sim (s:={s with fresh:=false,clean:=false}) {h0 with} ok0 rfl rfl hbd c
 ·have hbd':Dl s.st=false:=by simpa using hbd
  rw [if_neg hbd];by_cases hh:Par.headed s.st=true
  ·rw [if_pos hh,if_pos hh];have h1:R0 p b ({t with cnt:=false}:T).counted {s with head:=s.head+1,clean:=false}:=h0.of_counted rfl;have esz:({t with cnt:=false}:T).counted.size=s.head+1:=h1.head.symm;rw [esz]
   by_cases hx:b.x2<((s.head+1:Nat):Int)
   ·rw [if_pos hx,if_pos hx];exact ⟨rfl,by decide,h.out,rfl⟩
   ·rw [if_neg hx,if_neg hx]
    have hok:=ok0.counted hb (by rw [esz];exact hx);exact byte1_sim h1 hbd' hok hb rfl hh.symm (fun _=>by rw [esz];exact hx) c
  ·rw [if_neg hh,if_neg hh];have hh':Par.headed s.st=false:=by simpa using hh
   exact byte1_sim h0 hbd' ok0 hb rfl hh'.symm (fun e=>absurd e hh) c
def Q.Fine (b:Bd):Q→Prop
 | .live t=>t.Ok∧b.right=true
 | .dead _ _=>True
theorem Q.Fine.byte {x:Q} (h:x.Fine b) (c:UInt8):(x.byte p b c).Fine b:=by
 cases x with
 | live t=>
   show (t.take p b c).Fine b;cases hq:t.take p b c with
   | live t'=>exact ⟨h.1.take h.2 c hq,h.2⟩
   | dead e o=>trivial
 | dead e o=>trivial
theorem byte_sim {x:Q} (h:RQ p b x s) (ok:x.Fine b) (c:UInt8):RQ p b (x.byte p b c) (s.byte p b c):=by
 cases x with
 | live t=>exact take_sim h ok.1 ok.2 c
 | dead e o=>
   rw [S.byte_dead h.err];exact h
theorem feed_sim (l:List UInt8):∀{x:Q} {s:S},RQ p b x s→x.Fine b→RQ p b (x.feed p b l) (s.feed p b l)∧(x.feed p b l).Fine b:=by
 induction l with
 | nil=>intro x s h ok;exact ⟨h,ok⟩
 | cons c l ih=>intro x s h ok;exact ih (byte_sim h ok c) (ok.byte c)
theorem new_sim:RQ p b (Q.new p b) (S.new p b):=by
 unfold Q.new S.new;by_cases h:(b.right&&decide (p<1073741824))=true
 ·rw [if_pos h,if_pos h]
  exact {
   e:=rfl
   st:=rfl
   r:=rfl
   out:=rfl
   head:=rfl
   hl:=fun _=>rfl
   bl:=fun e=>absurd e (by show (0:Nat)≠6;decide)
   bl0:=fun _=>rfl
   left:=fun e=>absurd e (by show Dl 0≠true;decide)
   rd:=fun _=>⟨rfl,rfl,rfl,rfl,rfl,rfl⟩
   fr:=fun e=>absurd e (by show Dl 0≠true;decide)
   lf:=rfl
   cr:=rfl
   most:=fun _=>rfl
   beh:=fun e=>absurd e (by show (0:Nat)≠5;decide)
   ch:=rfl
   fresh:=rfl
   clean:=rfl}
 ·rw [if_neg h,if_neg h];exact ⟨rfl,by decide,rfl,rfl⟩
theorem said_sim {x:Q} (h:RQ p b x s) (ok:x.Fine b):s.e=x.err∧s.out=x.out∧s.waits=x.waits∧s.held=x.held∧s.clean=x.clean:=by
 cases x with
 | live t=>
   refine ⟨h.e,h.out,?_,?_,h.clean⟩
   ·show (decide (s.e=0)&&(s.fresh&&Rec.expects s.r))=(t.next&&Rec.expects t.r);rw [h.e,h.fresh,h.r];rfl
   ·show (if s.e=0 then Rec.size s.r+(if Dl s.st=true then 0 else s.rd.B.length) else 0)=t.rd.len+Rec.size t.r;rw [if_pos h.e,h.r];by_cases hb:Dl s.st=true
    ·rw [if_pos hb];have:=(h.fr hb).isNew;unfold T.isNew at this;rw [An,decide_eq_true_eq] at this;rw [this.1];omega
    ·rw [if_neg hb];have h1:=(h.rd (by simpa using hb)).B;have:s.rd.B.length=t.rd.len:=by
      rw [h1];unfold Ln.M.len;split<;>rfl
     omega
 | dead e o=>
   obtain ⟨h1,h2,h3,h4⟩:=h;refine ⟨h1,h3,?_,?_,h4⟩
   ·show (decide (s.e=0) && _)=false;rw [decide_eq_false (by rw [h1];exact h2),As]
   ·show (if s.e=0 then _ else 0)=0;rw [if_neg (by rw [h1];exact h2)]
theorem told_sim {x:Q} (h:RQ p b x s):RQ p b x.told {s with out:= []}:=by
 cases x with
 | live t=>exact ⟨⟨h.e,h.st,h.r,rfl,h.head,h.hl,h.bl,h.bl0,h.left,h.rd,h.fr,h.lf,h.cr,h.most,h.beh,h.ch⟩,h.fresh,h.clean⟩
 | dead e o=>
   obtain ⟨h1,h2, -,h4⟩:=h;exact ⟨h1,h2,rfl,h4⟩
theorem told_fine {x:Q} (h:x.Fine b):x.told.Fine b:=by
 cases x with
 | live t=>exact ⟨⟨h.1.rd,h.1.nf,h.1.st,h.1.hl,h.1.bl,h.1.fsl,h.1.tsl,h.1.fss,h.1.tss,h.1.m,h.1.x,h.1.body,h.1.left,h.1.early,h.1.size⟩,h.2⟩
 | dead e o=>trivial
end
end Go.Proofs.YtnabkcglnbdfeaaGreatDoor.Pg
namespace Go.Proofs.YtnabkcglnbdfeaaGreatDoor.Pg
open Go.RowKit Base Txt Par
def T.pre (o:List Dx) (t:T):T:={t with out:=o++t.out}
def Q.pre (o:List Dx):Q→Q
 | .live t=>.live (t.pre o)
 | .dead e x=>.dead e (o++x)
section
variable {p:Nat} {b:Bd} {t:T} {o:List Dx} {s:List UInt8} {c:UInt8}
theorem fin_pre:(t.pre o).fin=t.fin.pre o:=by show ({t with out:=(o++t.out) ++ [t.r],r:=zero,hl:=0,bl:=0,size:=0,cnt:=false,left:=0,st:=1}:T)={t with out:=o++(t.out ++ [t.r]),r:=zero,hl:=0,bl:=0,size:=0,cnt:=false,left:=0,st:=1};rw [List.append_assoc]
theorem endData_pre:(t.pre o).endData p=(t.endData p).pre o:=by
 unfold T.endData;show (if t.r.ch=true then _ else _)= _;by_cases h:t.r.ch=true
 ·rw [if_pos h,if_pos h];rfl
 ·rw [if_neg h,if_neg h];exact fin_pre
theorem first_pre:(t.pre o).first p b s=((t.first p b s).1,(t.first p b s).2.pre o):=by
 unfold T.first;by_cases h:s= []
 ·rw [if_pos h,if_pos h]
 ·rw [if_neg h,if_neg h];dsimp only;by_cases h2:(Rq.request (Rq.clOf p) b.od s).2.2.2=0
  ·rw [if_pos h2,if_pos h2];rfl
  ·rw [if_neg h2,if_neg h2]
theorem endHead_pre:(t.pre o).endHead p b=((t.endHead p b).1,(t.endHead p b).2.pre o):=by
 unfold T.endHead;have er:(t.pre o).r=t.r:=rfl;rw [er];generalize Frm.decideV (Frm.clOf p) b.ch b.x3 t.r.k t.r.fs=d;dsimp only;by_cases h1:d.2.2≠0
 ·rw [if_pos h1,if_pos h1]
 ·rw [if_neg h1,if_neg h1];by_cases h2:d.1=2
  ·rw [if_pos h2,if_pos h2];rfl
  ·rw [if_neg h2,if_neg h2];by_cases h3:d.2.1=0
   ·rw [if_pos h3,if_pos h3];exact Prod.ext rfl fin_pre
   ·rw [if_neg h3,if_neg h3];rfl
theorem fields_pre:(t.pre o).fields p b s=((t.fields p b s).1,(t.fields p b s).2.pre o):=by
 unfold T.fields;by_cases h:s= []
 ·rw [if_pos h,if_pos h];exact endHead_pre
 ·rw [if_neg h,if_neg h];rfl
theorem trail_pre:(t.pre o).trail p b s=((t.trail p b s).1,(t.trail p b s).2.pre o):=by
 unfold T.trail;by_cases h:s= []
 ·rw [if_pos h,if_pos h];exact Prod.ext rfl fin_pre
 ·rw [if_neg h,if_neg h];rfl
theorem chunk_pre:(t.pre o).chunk p b s=((t.chunk p b s).1,(t.chunk p b s).2.pre o):=by
 unfold T.chunk;generalize Chk.sizeV (Ds p 27) (Ds p 28) b.x4 b.x3 s=z;dsimp only;by_cases h1:z.2≠0
 ·rw [if_pos h1,if_pos h1]
 ·rw [if_neg h1,if_neg h1];by_cases h2:z.1=0
  ·rw [if_pos h2,if_pos h2];rfl
  ·rw [if_neg h2,if_neg h2];show (if b.x3-(t.r.body.length:Int)<z.1 then _ else _)= _;by_cases h3:b.x3-(t.r.body.length:Int)<z.1
   ·rw [if_pos h3,if_pos h3]
   ·rw [if_neg h3,if_neg h3];rfl
theorem line_pre:(t.pre o).line p b s=((t.line p b s).1,(t.line p b s).2.pre o):=by
 unfold T.line;show (if t.st=1 then _ else _)= _;by_cases h1:t.st=1
 ·rw [if_pos h1,if_pos h1];exact first_pre
 ·rw [if_neg h1,if_neg h1];show (if t.st=2 then _ else _)= _;by_cases h2:t.st=2
  ·rw [if_pos h2,if_pos h2];exact fields_pre
  ·rw [if_neg h2,if_neg h2];show (if t.st=4 then _ else _)= _;by_cases h4:t.st=4
   ·rw [if_pos h4,if_pos h4];exact chunk_pre
   ·rw [if_neg h4,if_neg h4];show (if t.st=7 then _ else _)= _;by_cases h7:t.st=7
    ·rw [if_pos h7,if_pos h7];exact trail_pre
    ·rw [if_neg h7,if_neg h7];rfl
theorem ends_pre (x:Nat × T):ends (x.1,x.2.pre o)=(ends x).pre o:=by
 unfold ends;by_cases h:x.1=0
 ·rw [if_pos h,if_pos h];rfl
 ·rw [if_neg h,if_neg h];rfl
theorem inLine_pre:(t.pre o).inLine p b c=((t.inLine p b c).1.pre o,(t.inLine p b c).2):=by
 unfold T.inLine;have er:(t.pre o).rd=t.rd:=rfl;have es:(t.pre o).st=t.st:=rfl;have eo:(t.pre o).out=o++t.out:=rfl;rw [er,es,eo];generalize t.rd.clear.next c=how;dsimp only;by_cases h0:how=0
 ·rw [if_pos h0,if_pos h0];rfl
 ·rw [if_neg h0,if_neg h0];by_cases h3:how=3
  ·rw [if_pos h3,if_pos h3];rfl
  ·rw [if_neg h3,if_neg h3];by_cases h4:how=4
   ·rw [if_pos h4,if_pos h4];by_cases h5:(t.st==6&&Ds p 29)=true
    ·rw [if_pos h5,if_pos h5];rfl
    ·rw [if_neg h5,if_neg h5];rfl
   ·rw [if_neg h4,if_neg h4];refine Prod.ext ?_ rfl;show ends ((({t with rd:=t.rd.byte c}:T).pre o).line p b (t.rd.byte c).line)= _;rw [line_pre,ends_pre]
theorem counted_pre:(t.pre o).counted=t.counted.pre o:=by
 unfold T.counted;show (if t.cnt=true then _ else _)= _;by_cases h:t.cnt=true
 ·rw [if_pos h,if_pos h]
 ·rw [if_neg h,if_neg h];rfl
theorem look_pre:(t.pre o).look p b c=((t.look p b c).1.pre o,(t.look p b c).2):=by
 unfold T.look;show (if bodied t.st=true then _ else _)= _;by_cases h1:bodied t.st=true
 ·rw [if_pos h1,if_pos h1];refine Prod.ext ?_ rfl;show Q.live (if t.left=1 then _ else _)= _;by_cases h2:t.left=1
  ·rw [if_pos h2,if_pos h2];show Q.live (((t.keep c).pre o).endData p)= _;rw [endData_pre];rfl
  ·rw [if_neg h2,if_neg h2];rfl
 ·rw [if_neg h1,if_neg h1];show (if headed t.st=true then _ else _)= _;by_cases h2:headed t.st=true
  ·rw [if_pos h2,if_pos h2,counted_pre];show (if b.x2<(t.counted.size:Int) then _ else _)= _
   by_cases h3:b.x2<(t.counted.size:Int)
   ·rw [if_pos h3,if_pos h3];rfl
   ·rw [if_neg h3,if_neg h3];exact inLine_pre
  ·rw [if_neg h2,if_neg h2];exact inLine_pre
theorem take_pre:(t.pre o).take p b c=(t.take p b c).pre o:=by
 unfold T.take;have e:({(t.pre o) with cnt:=false}:T)=({t with cnt:=false}:T).pre o:=rfl;rw [e,look_pre];rcases ({t with cnt:=false}:T).look p b c with ⟨x,u⟩;cases x with
 | dead e1 o1=>cases u<;>rfl
 | live t1=>
   cases u with
   | true=>rfl
   | false=>
     show ((t1.pre o).look p b c).1=((t1.look p b c).1).pre o;rw [look_pre]
theorem byte_pre (x:Q):(x.pre o).byte p b c=(x.byte p b c).pre o:=by
 cases x with
 | live t=>exact take_pre
 | dead e o1=>rfl
theorem feed_pre (l:List UInt8):∀x:Q,(x.pre o).feed p b l=(x.feed p b l).pre o:=by
 induction l with
 | nil=>intro x;rfl
 | cons c l ih=>
   intro x;show ((x.pre o).byte p b c).feed p b l=((x.byte p b c).feed p b l).pre o;rw [byte_pre,ih]
theorem pre_told (x:Q):x.told.pre x.out=x:=by
 cases x with
 | live t=>
   show Q.live {t with out:=t.out ++ []}= _;rw [B7]
 | dead e o1=>
   show Q.dead e (o1 ++ [])= _;rw [B7]
theorem pre_err (x:Q):(x.pre o).err=x.err:=by cases x<;>rfl
theorem pre_clean (x:Q):(x.pre o).clean=x.clean:=by cases x<;>rfl
theorem pre_out (x:Q):(x.pre o).out=o++x.out:=by cases x<;>rfl
theorem pre_pre (x:Q) (o1:List Dx):(x.pre o).pre o1=x.pre (o1++o):=by
 cases x with
 | live t=>show Q.live {t with out:=o1++(o++t.out)}=Q.live {t with out:=o1++o++t.out};rw [List.append_assoc]
 | dead e o2=>show Q.dead e (o1++(o++o2))=Q.dead e (o1++o++o2);rw [List.append_assoc]
end
end Go.Proofs.YtnabkcglnbdfeaaGreatDoor.Pg
namespace Go.Proofs.YtnabkcglnbdfeaaGreatDoor.Par
open Go.RowKit Base Txt Mem
abbrev nil:Value:=.slice none 0 0
structure Cs (w:World) (g:Nat) (p:Nat) (b:Bd) (s:S) (q:Nat) (f bd t o:Value):Prop where
 c0:w.cell? ⟨g,0,none⟩=some (.int .u32 (p:Int))
 c1:w.cell? ⟨g,1,none⟩=some (.int .i64 b.x0)
 c2:w.cell? ⟨g,2,none⟩=some (.int .i64 b.x1)
 c3:w.cell? ⟨g,3,none⟩=some (.int .i64 b.x2)
 c4:w.cell? ⟨g,4,none⟩=some (.int .i64 b.x3)
 c5:w.cell? ⟨g,5,none⟩=some (.int .i64 b.x4)
 c6:w.cell? ⟨g,6,none⟩=some (.int .i64 b.x5)
 c7:w.cell? ⟨g,7,none⟩=some (.int .i64 b.x6)
 c8:w.cell? ⟨g,8,none⟩=some (.int .i64 b.x7)
 c9:w.cell? ⟨g,9,none⟩=some (.bool b.ch)
 c10:w.cell? ⟨g,10,none⟩=some (.bool b.od)
 c11:w.cell? ⟨g,11,none⟩=some (.int .i64 (s.st:Int))
 c12:w.cell? ⟨g,12,none⟩=some (ptr q)
 c13:w.cell? ⟨g,13,none⟩=some (.string s.r.m)
 c14:w.cell? ⟨g,14,none⟩=some (.string s.r.x)
 c15:w.cell? ⟨g,15,none⟩=some (.int .i64 s.r.k)
 c16:w.cell? ⟨g,16,none⟩=some (f)
 c17:w.cell? ⟨g,17,none⟩=some (.bool s.r.ch)
 c18:w.cell? ⟨g,18,none⟩=some (bd)
 c19:w.cell? ⟨g,19,none⟩=some (t)
 c20:w.cell? ⟨g,20,none⟩=some (.int .i64 (s.lines:Int))
 c21:w.cell? ⟨g,21,none⟩=some (.int .i64 (s.head:Int))
 c22:w.cell? ⟨g,22,none⟩=some (.int .i64 (s.left:Int))
 c23:w.cell? ⟨g,23,none⟩=some (.bool s.fresh)
 c24:w.cell? ⟨g,24,none⟩=some (.bool s.clean)
 c25:w.cell? ⟨g,25,none⟩=some (.int .i64 (s.e:Int))
 c26:w.cell? ⟨g,26,none⟩=some (o)
theorem Cs.of {w:World} {g:Nat} {p:Nat} {b:Bd} {s:S} {q:Nat} {f bd t o:Value} (h:w.heap[g]?=some (.cells (pcells p b s q f bd t o).toArray 60 (0,0))):Cs w g p b s q f bd t o:=⟨row_cellL h rfl,row_cellL h rfl,row_cellL h rfl,row_cellL h rfl,row_cellL h rfl,row_cellL h rfl,row_cellL h rfl,row_cellL h rfl,row_cellL h rfl,row_cellL h rfl,row_cellL h rfl,row_cellL h rfl,row_cellL h rfl,row_cellL h rfl,row_cellL h rfl,row_cellL h rfl,row_cellL h rfl,row_cellL h rfl,row_cellL h rfl,row_cellL h rfl,row_cellL h rfl,row_cellL h rfl,row_cellL h rfl,row_cellL h rfl,row_cellL h rfl,row_cellL h rfl,row_cellL h rfl⟩
section code
set_option maxHeartbeats 4000000
set_option maxRecDepth 20000
variable {w:World} {B:Zone} {g q:Nat} {v f bd t o:Value} {p:Nat} {b:Bd} {s:S}
theorem PR.cs (h:PR w B g q v f bd t o p b s):Cs w g p b s q f bd t o:=Cs.of h.row
theorem PR.marks (h:PR w B g q v f bd t o p b s) (k:Nat):w.frozen? ⟨g,k,none⟩=false:=CL h.row k
theorem PR.zero_of {f1 bd1 t1:Value} {fs1 ts1:List Fld} {body1:List UInt8} (hr:w.heap[g]?=some (.cells (pcells p b s q f bd t o).toArray 60 (0,0))) (ho:Own w B g q v f1 bd1 t1 o p s.rd fs1 body1 ts1 s.out) (s':S) (hs:s'={s with r:=zero}) :
 PR (((((((w.setCell ⟨g,13,none⟩ (.string E0)).setCell ⟨g,14,none⟩ (.string E0)).setCell ⟨g,15,none⟩ (.int .i64 0)).setCell ⟨g,16,none⟩ nil).setCell ⟨g,17,none⟩ (.bool false)).setCell ⟨g,18,none⟩ nil).setCell ⟨g,19,none⟩ nil) B g q v nil nil nil o p b s':=by
 subst hs;refine ⟨?_,(((((((ho.zero).set 13 _).set 14 _).set 15 _).set 16 _).set 17 _).set 18 _).set 19 _⟩;exact row_setL (row_setL (row_setL (row_setL (row_setL (row_setL (row_setL hr 13 _) 14 _) 15 _) 16 _) 17 _) 18 _) 19 _
theorem PR.zero (h:PR w B g q v f bd t o p b s) (s':S) (hs:s'={s with r:=zero}):PR (((((((w.setCell ⟨g,13,none⟩ (.string E0)).setCell ⟨g,14,none⟩ (.string E0)).setCell ⟨g,15,none⟩ (.int .i64 0)).setCell ⟨g,16,none⟩ nil).setCell ⟨g,17,none⟩ (.bool false)).setCell ⟨g,18,none⟩ nil).setCell ⟨g,19,none⟩ nil) B g q v nil nil nil o p b s':=
 PR.zero_of h.row h.own s' hs
theorem Step.put7 (u13 u14 u15 u16 u17 u18 u19:Value):Step (blks g q v f bd t o) (blks g q v f bd t o) w (((((((w.setCell ⟨g,13,none⟩ u13).setCell ⟨g,14,none⟩ u14).setCell ⟨g,15,none⟩ u15).setCell ⟨g,16,none⟩ u16).setCell ⟨g,17,none⟩ u17).setCell ⟨g,18,none⟩ u18).setCell ⟨g,19,none⟩ u19):=
 ((((((DF g 13 _ (by simp)).trans (DF g 14 _ (by simp))).trans (DF g 15 _ (by simp))).trans (DF g 16 _ (by simp))).trans (DF g 17 _ (by simp))).trans (DF g 18 _ (by simp))).trans (DF g 19 _ (by simp))
theorem fail_any (h:PR w B g q v f bd t o p b s) (e:Nat):Calls EL 118 #[ptr g,.int .i64 (e:Int)] w fun r w'=>
 r=.returned (.tuple #[])∧PR w' B g q v nil nil nil o p b (s.fail e)∧Step (blks g q v f bd t o) (blks g q v nil nil nil o) w w':=by
 have H:=Bo h;have c24:=h.cs.c24;have z24:=h.marks 24;have c25:=h.cs.c25;have z25:=h.marks 25;have c13:=h.cs.c13;have z13:=h.marks 13;have c14:=h.cs.c14;have z14:=h.marks 14;have c15:=h.cs.c15;have z15:=h.marks 15;have c16:=h.cs.c16;have z16:=h.marks 16;have c17:=h.cs.c17;have z17:=h.marks 17;have c18:=h.cs.c18;have z18:=h.marks 18;have c19:=h.cs.c19;have z19:=h.marks 19
 have H1:=Bo (h.put 25 (.int .i64 (e:Int)) {s with e:=e} rfl rfl rfl rfl rfl rfl)
 have H2:=Bo (H1.out.put 24 (.bool false) {s with e:=e,clean:=false} rfl rfl rfl rfl rfl rfl);clear h;go_enter Tryz.func118,Tryz.ntmps118;go_wp2;go_end0;exact ⟨rfl,H2.out.zero _ rfl,((DF g 25 _ (by simp)).trans (DF g 24 _ (by simp))).trans ((Step.put7 _ _ _ _ _ _ _).trans Step.zero)⟩
theorem rnew_line (B:Nat) (most:Int) (w:World) (hB:B≤w.heap.size):Calls EL 116 #[.int .u32 (p:Int),.int .i64 most] w fun r w'=>∃q1,r=.returned (ptr q1)∧w.heap.size≤q1∧Ln.Rr w' B q1 nil p (nl p most)∧Below w.heap.size w w':=by refine (Ln.rnew_any p most w).mono ?_;exact XX8I9
theorem XXSdZ {P:Prop} (h:P:=by refine AJ rfl (fun ev w1 hR hb hh=>?_);have e0:=hR.old 0 rfl;simp only [Af,BY,BQ,BR,Di] at e0;have q0:=(HQ.out.below hb).c 0 _ rfl;have q1:=(HQ.out.below hb).c 1 _ rfl;exact Each.std):P:=h
theorem XXHuz {P:Prop} (h:P:=by
 clear hh;have ef:=hR.func
 refine AE 116 #[.int .u32 (p:Int),.int .i64 (b.x0)] (by go_simp) ((rnew_line B (b.x0) w1 (CT HBW.out hb.size)).mono ?_);rintro r w2 ⟨q1,rfl,h1,h2,hb2⟩
 exact ⟨_,rfl,hb2,q1,rfl,CT hb.size h1,h2⟩):P:=h
theorem next_any {f1 bd1 t1:Value} {fs1 ts1:List Fld} {body1:List UInt8} (hrow:w.heap[g]?=some (.cells (pcells p b s q f bd t o).toArray 60 (0,0))) (ho:Own w B g q v f1 bd1 t1 o p s.rd fs1 body1 ts1 s.out):Calls EL 74 #[ptr g] w fun r w'=>
 r=.returned (.tuple #[])∧∃q1,PR w' B g q1 nil nil nil nil o p b (s.next p b)∧Step (blks g q v f1 bd1 t1 o) (blks g q1 nil nil nil nil o) w w':=by
 have H1:=Bo ((((((PR.zero_of hrow ho {s with r:=zero} rfl).put 11 (.int .i64 0) {s with r:=zero,st:=0} rfl rfl rfl rfl rfl rfl).put 20 (.int .i64 0) {s with r:=zero,st:=0,lines:=0} rfl rfl rfl rfl rfl rfl).put 21 (.int .i64 0) {s with r:=zero,st:=0,lines:=0,head:=0} rfl rfl rfl rfl rfl rfl).put 23 (.bool false) {s with r:=zero,st:=0,lines:=0,head:=0,fresh:=false} rfl rfl rfl rfl rfl rfl).put 24 (.bool true) {s with r:=zero,st:=0,lines:=0,head:=0,fresh:=false,clean:=true} rfl rfl rfl rfl rfl rfl)
 have HS:=Bo ((((((Step.put7 (w:=w) (g:=g) (q:=q) (v:=v) (f:=f1) (bd:=bd1) (t:=t1) (o:=o) (.string E0) (.string E0) (.int .i64 0) nil (.bool false) nil nil).trans (DF g 11 (.int .i64 0) (by simp))).trans (DF g 20 (.int .i64 0) (by simp))).trans (DF g 21 (.int .i64 0) (by simp))).trans (DF g 23 (.bool false) (by simp))).trans (DF g 24 (.bool true) (by simp)));have cs:=Cs.of hrow;have c11:=cs.c11;have z11:=CL hrow 11;have c20:=cs.c20;have z20:=CL hrow 20;have c21:=cs.c21;have z21:=CL hrow 21;have c23:=cs.c23;have z23:=CL hrow 23;have c24:=cs.c24;have z24:=CL hrow 24;have c13:=cs.c13;have z13:=CL hrow 13;have c14:=cs.c14;have z14:=CL hrow 14;have c15:=cs.c15;have z15:=CL hrow 15;have c16:=cs.c16;have z16:=CL hrow 16;have c17:=cs.c17;have z17:=CL hrow 17;have c18:=cs.c18;have z18:=CL hrow 18;have c19:=cs.c19;have z19:=CL hrow 19
 have HB:=Bo (ho.ge);clear hrow ho cs;go_enter Tryz.func74,Tryz.ntmps74;go_upto_region 1 with fail
 generalize (((((((((((w.setCell ⟨g,13,none⟩ (.string E0)).setCell ⟨g,14,none⟩ (.string E0)).setCell ⟨g,15,none⟩ (.int .i64 0)).setCell ⟨g,16,none⟩ (nil)).setCell ⟨g,17,none⟩ (.bool false)).setCell ⟨g,18,none⟩ (nil)).setCell ⟨g,19,none⟩ (nil)).setCell ⟨g,11,none⟩ (.int .i64 0)).setCell ⟨g,20,none⟩ (.int .i64 0)).setCell ⟨g,21,none⟩ (.int .i64 0)).setCell ⟨g,23,none⟩ (.bool false)).setCell ⟨g,24,none⟩ (.bool true)=W1 at *;clear c11 c20 c21 c23 c24 c13 c14 c15 c16 c17 c18 c19 z11 z20 z21 z23 z24 z13 z14 z15 z16 z17 z18 z19;obtain ⟨S1,hS1⟩:∃S1:S,{s with r:=zero,st:=0,lines:=0,head:=0,fresh:=false,clean:=true}=S1:=⟨_,rfl⟩;have HS1:=Bo hS1;rw [hS1] at H1;clear hS1
 have HQ:=Bo ((H1.out.drew 1).bk)
 have HBW:=Bo (show B≤(W1.drewN 1).heap.size from CT HB.out (CP (H1.out.drew 1).own.lt));refine Each.region 11 [21,22,23,24,25,26,27,28,29,30,31] [eP g 0,eP g 0,eP g 0,eP g 0,eQ (.int .u32 (p:Int)),eP g 0,eP g 0,eP g 1,eP g 1,eQ (.int .i64 b.x0),fun v w=>∃q1,v=ptr q1∧W1.heap.size≤q1∧Ln.Rr w B q1 nil p (nl p (b.x0))] (.quiet 11 (.quiet 12 (.act 13 .done))) (by kernel_rfl) (by kernel_rfl) (by kernel_rfl) (by kernel_rfl) (fun _ _ d _ _ h=>by cases d<;>exact h) (by rfl) (by rfl) ⟨AI _,AI _,AI _,AI _,AI _,AI _,AI _,AI _,AI _,AI _,((fun _ _ _ hb h=>by obtain ⟨q1,e1,h1,h2⟩:=h;exact ⟨q1,e1,h1,rr_below h2 hb⟩)),trivial⟩ ?_ ?_
 ·refine ⟨?_,?_,?_,?_,?_,?_,?_,?_,?_,?_,?_,trivial⟩
  ·exact XXSdZ
  ·exact XXSdZ
  ·exact XXSdZ
  ·exact XXSdZ
  ·exact XXSdZ
  ·exact XXSdZ
  ·exact XXSdZ
  ·exact XXSdZ
  ·exact XXSdZ
  ·exact XXSdZ
  ·refine AJ rfl (fun ev w1 hR hb hh=>?_);have e25:ev (.tmp 25)= _:=hh.at 0;have e30:ev (.tmp 30)= _:=hh.at 1;exact XXHuz
 intro g1 w2 hb hf;have z21:g1 21= _:=hf.at 0;have z31:=hf.at 10;clear hf;obtain ⟨q1,e1,hq1,hr1⟩:=z31;simp only [AM,Ab,C7,CA,C9];rw [e1,z21];simp only [DU,DV,BR,BQ];refine DW (by rfl) (ptr g) (fun _ _=>by go_simp) ?_;simp only [Ab,C7,CA,C9];refine DW (by rfl) (.pointer (some ⟨g,12,none⟩)) (fun _ _=>by go_simp) ?_;simp only [Ab,C7,CA,C9];have c12:=(H1.out.below hb).cs.c12;have z12:=(H1.out.below hb).marks 12
 refine DS (by rfl) (fun K hK=>?_);go_simp;refine hK _ _ trivial ?_;clear hK K;refine DT ?_;have H2:=H1.out.line hb hr1 hq1
 have HS2:=(HS.out.trans Step.zero).trans ((Step.line hb hq1).trans (DF g 12 (ptr q1) (by simp)));rw [←HS1.out] at H2;clear H1 HQ HBW HS HS1 hr1 hq1 c12 z12;go_wp2;go_end0;exact ⟨rfl,q1,H2,HS2⟩
theorem record_info:(EL.info? 58).map (fun i=>(i.zero,i.size,i.bytes))=some (some (.agg #[.string A6,.string A6,.int .i64 0,.slice none 0 0,.bool false,.slice none 0 0,.slice none 0 0]),7,120):=by kernel_rfl
theorem XXVVG {P:Prop} (h:P:=by refine AJ rfl (fun ev w1 hR hb hh=>?_);have e0:=hR.old 0 rfl;simp only [Af,BY,BQ,BR,Di] at e0;have q26:=(HQ.out.below hb).c 26 _ rfl;have q13:=(HQ.out.below hb).c 13 _ rfl;have q14:=(HQ.out.below hb).c 14 _ rfl;have q15:=(HQ.out.below hb).c 15 _ rfl;have q16:=(HQ.out.below hb).c 16 _ rfl;have q17:=(HQ.out.below hb).c 17 _ rfl;have q18:=(HQ.out.below hb).c 18 _ rfl;have q19:=(HQ.out.below hb).c 19 _ rfl;exact Each.std):P:=h
theorem XXQtb {P:Prop} (h:P:=by
 have H2:=H.out.below hb;obtain ⟨ps,hps,hfar,hrow⟩:=H2.own.O;obtain ⟨bo,co,eo, -⟩:=CJ hrow;subst eo
 obtain ⟨v',w3,hrun,ho,hgr,hor⟩:=App.run_append_list w2 39 39 B 58 iR (.agg #[.string A6,.string A6,.int .i64 0,.slice none 0 0,.bool false,.slice none 0 0,.slice none 0 0]) 7 120 Tryz.underlying39 I1.out I2.out I3.out I4.out rfl (by decide) (.slice bo s.out.length co) s.out.length (ps.flatMap (·.1.toList)) hrow (some ⟨gl,0,none⟩) 1 1 [.string s.r.m,.string s.r.x,.int .i64 s.r.k,f,.bool s.r.ch,bd,t] rfl (fun _=>⟨gl,0,rfl,fun j u hu=>by rw [CX];exact hBl.c j u hu⟩) (by intro u hu;simp only [Cw,C3,or_false] at hu;rcases hu with rfl | rfl | rfl | rfl | rfl | rfl | rfl<;>first | rfl | exact one_own H2.own.F | exact one_own H2.own.D | exact one_own H2.own.T) (by have:=HN.out;unfold maxLen;omega) (by have:=HN.out;omega) (CT H2.own.ge (CP H2.own.lt));obtain ⟨b9,c9,e9, -⟩:=CJ ho;subst e9;have HP:=H2.own.push hgr ps hps hfar ho hor;have hr3:w3.heap[g]?=some (.cells (pcells p b s q f bd t (.slice bo s.out.length co)).toArray 60 (0,0)):=(hgr.block g H2.own.lt (fun e=>H2.own.lone.ne (i:=0) (j:=6) rfl (by decide) (by rw [e];rfl))).trans H2.row
 refine DS (by rfl) (fun K hK=>?_);refine Each.oper_append _ _ _ rfl (by rfl) (by rfl) hrun ?_;refine hK _ _ trivial ?_;clear hK K hrun;simp only [Ab,C7,CA,C9];refine DW (by rfl) (ptr g) (fun _ _=>by go_simp) ?_;simp only [Ab,C7,CA,C9];refine DW (by rfl) (.pointer (some ⟨g,26,none⟩)) (fun _ _=>by go_simp) ?_;simp only [Ab,C7,CA,C9];have c26:=(Cs.of hr3).c26;have z26:=CL hr3 26
 refine DS (by rfl) (fun K hK=>?_);go_simp;refine hK _ _ trivial ?_;clear hK K;refine DT ?_
 have hr4:=row_setL hr3 26 (.slice b9 (s.out.length+1) c9)
 have HP4:=HP.set 26 (.slice b9 (s.out.length+1) c9)
 have HS4:=((DD hb (L:=blks g q v f bd t (.slice bo s.out.length co))).trans (Step.push hgr hor)).trans (DF g 26 (.slice b9 (s.out.length+1) c9) (by simp))
 have HNX:=Bo (next_any (s:={s with out:=s.out ++ [s.r]}) hr4 HP4);have HS5:=Bo HS4;clear c26 z26 hr3 hr4 HP HP4 HS4 hgr ho hor hrow hfar hps H2 hBl;generalize w3.setCell ⟨g,26,none⟩ (.slice b9 (s.out.length+1) c9)=W4 at *
 go_wp2_with (go_at_call 74;with_reducible refine HNX.out.mono ?_;rintro r w5 ⟨rfl,q1,hp5,hs5⟩);go_end0
 exact ⟨rfl,q1,(.slice b9 (s.out.length+1) c9),hp5,HS5.out.trans hs5⟩):P:=h
theorem whole_any (h:PR w B g q v f bd t o p b s) (hn:s.out.length≤1000000000):Calls EL 161 #[ptr g] w fun r w'=>
 r=.returned (.tuple #[])∧∃q1 o1,PR w' B g q1 nil nil nil nil o1 p b (s.whole p b)∧Step (blks g q v f bd t o) (blks g q1 nil nil nil nil o1) w w':=by
 obtain ⟨iR,hi,hz0,hz1,hz2⟩:=info_parts record_info;have I1:=Bo hi;have I2:=Bo hz0;have I3:=Bo hz1;have I4:=Bo hz2;clear hi hz0 hz1 hz2;have H:=Bo h;have HN:=Bo hn
 have HQ:=Bo ((h.drew 1).bk);clear h hn;go_enter Tryz.func161,Tryz.ntmps161;go_upto_region 0 with fail
 refine Each.region_float 10 [2,3,4,5,6,7,8,9,10,11] [eP g 0,eP g 0,eP g 0,eP g 26,eQ (o),eP g 0,eP g 0,eP g 13,eQ (.agg #[.string s.r.m,.string s.r.x,.int .i64 s.r.k,f,.bool s.r.ch,bd,t]),fun v w=>∃g1,v=.slice (some ⟨g1,0,none⟩) 1 1∧Dv w g1 [.string s.r.m,.string s.r.x,.int .i64 s.r.k,f,.bool s.r.ch,bd,t]] [] 4 (some 0) (.act 10 (.quiet 11 (.quiet 12 (.act 13 .done)))) (.quiet 0 (.act 10 (.quiet 11 (.quiet 12 (.act 13 .done))))) (by kernel_rfl) (by kernel_rfl) (by kernel_rfl) (by kernel_rfl) (fun k0 h=>by cases h;kernel_rfl) (fun _ _ d _ _ h=>by cases d<;>exact h) (by rfl) (by rfl) ⟨AI _,AI _,AI _,AI _,AI _,AI _,AI _,AI _,AI _,((fun _ _ _ hb h=>by obtain ⟨g1,e1,hB⟩:=h;exact ⟨g1,e1,hB.below hb⟩)),trivial⟩ trivial (by rfl) ?_ ?_ ?_
 ·refine ⟨?_,?_,?_,?_,?_,?_,?_,?_,?_,?_,trivial⟩
  ·exact XXVVG
  ·exact XXVVG
  ·exact XXVVG
  ·exact XXVVG
  ·exact XXVVG
  ·exact XXVVG
  ·exact XXVVG
  ·exact XXVVG
  ·exact XXVVG
  ·refine AJ rfl (fun ev w1 hR hb hh=>?_);have e10:ev (.tmp 10)= _:=hh.at 0;exact XX4eD
 ·intro g1 w2 hb hf;have z2:g1 2= _:=hf.at 0;have z6:g1 6= _:=hf.at 4;have z11:=hf.at 9;clear hf;obtain ⟨gl,el,hBl⟩:=z11;simp only [AM,Ab,C7,CA,C9];rw [z2,z6,el];simp only [DU,DV,BR,BQ];exact XXQtb
 ·intro k0 hk0 g1 w2 hb hf;cases hk0;have z6:g1 6= _:=hf.at 4;have z11:=hf.at 9;clear hf;obtain ⟨gl,el,hBl⟩:=z11;simp only [AM,Ab,C7,CA,C9];rw [z6,el];simp only [DU,DV,BR,BQ];refine DW (by rfl) (ptr g) (fun _ _=>by go_simp) ?_;simp only [Ab,C7,CA,C9];exact XXQtb
end code
end Go.Proofs.YtnabkcglnbdfeaaGreatDoor.Par
namespace Go.Proofs.YtnabkcglnbdfeaaGreatDoor.Pg
open Go.RowKit Base Txt Mem Par
structure Acc (L:List (Option Nat)) (B:Nat) (w:World) (v:Value) (out:List Dx):Prop where
 outs:Outs L ⟨B,[v.ownBlock]⟩ w v out
 far:∀k,v.ownBlock=some k→some k∉L∧k<w.heap.size
section
variable {L L':List (Option Nat)} {B:Nat} {w w':World} {v v' o:Value} {out out2:List Dx}
theorem own_le {w:World} {base base':Nat} {e:TypeId} {size:Nat} {v:Value} {n:Nat} {xs:List Value} (h:w.ownsRow base e size v n xs) (hb:base'≤base):w.ownsRow base' e size v n xs:=by refine ⟨h.1,h.2.imp_right ?_⟩;rintro ⟨g,cap,cur,e1,h1,h2⟩;exact ⟨g,cap,cur,e1,CT hb h1,h2⟩
theorem Acc.nil (L:List (Option Nat)) (B:Nat) (w:World):Acc L B w (.slice none 0 0) []:=⟨⟨[],rfl,(by intro x hx;cases hx),FK _ _ _ _⟩,fun k h=>by cases h⟩
theorem Acc.step (h:Acc L B w v out) (hs:Step L L' w w'):Acc L' B w' v out:=by
 obtain ⟨ps,h1,h2,h3⟩:=h.outs;refine ⟨⟨ps,h1,fun x hx=>⟨(h2 x hx).1,⟨((h2 x hx).2.keeps hs.keeps).reads,fun k hb=>⟨fun hm=>?_,CV ((h2 x hx).2.far k hb).2 hs.keeps.size⟩,(h2 x hx).2.off⟩⟩,hs.keeps.own h3 (fun k e=>(h.far k e).1)⟩,fun k e=>⟨fun hm=>?_,CV (h.far k e).2 hs.keeps.size⟩⟩
 ·rcases hs.of k hm with e | e
  ·exact ((h2 x hx).2.far k hb).1 e
  ·exact absurd ((h2 x hx).2.far k hb).2 (by omega)
 ·rcases hs.of k hm with h1 | h1
  ·exact (h.far k e).1 h1
  ·have:=(h.far k e).2;omega
theorem Acc.told (h:Acc L B w v out):Told [] ⟨B,[]⟩ w v out:=by obtain ⟨ps,h1,h2,h3⟩:=h.outs;exact ⟨⟨ps,h1,fun x hx=>⟨(h2 x hx).1,(h2 x hx).2.reads,fun k hb=>⟨C3,((h2 x hx).2.far k hb).2⟩,fun k _=>C3⟩,h3⟩,fun k e=>⟨C3,(h.far k e).2⟩,fun k _=>C3⟩
theorem far_off {Z:List (Option Nat)} {V:Value} {r:Dx} (h:Far L Z w V r) (hk:Keeps Z w w') {Z':List (Option Nat)} (hz:∀k,some k∈Z'→some k∈Z∨w.heap.size≤k):Far L Z' w' V r:=by
 have h1:Far Z [] w V r:=⟨h.reads,fun k hb=>⟨h.off k hb,(h.far k hb).2⟩,fun k _=>C3⟩;refine ⟨(h1.keeps hk).reads,fun k hb=>⟨(h.far k hb).1,CV (h.far k hb).2 hk.size⟩,fun k hb hm=>?_⟩;rcases hz k hm with e | e
 ·exact h.off k hb e
 ·have:=(h.far k hb).2;omega
theorem Outs.news {Z:Zone} (h:Outs L Z w o out):∃(a:Option Addr) (c:Nat) (ps:List (Array Value × Dx)),o=.slice a out.length c∧ps.map (·.2)=out∧(∀x∈ps,x.1.size=7∧Far L Z.z w (.agg x.1) x.2)∧(ps.flatMap (·.1.toList)).length=out.length*7∧
 (0<out.length→∃b off,a=some ⟨b,off,none⟩∧∀j u,(ps.flatMap (·.1.toList))[j]?=some u→w.cell? ⟨b,off+j,none⟩=some u)∧(∀u∈ps.flatMap (·.1.toList),u.oneCell'=true)∧w.ownsRow Z.b 58 7 (.slice a out.length c) out.length (ps.flatMap (·.1.toList)):=by
 obtain ⟨ps,h1,h2,h3⟩:=h;obtain ⟨a,c,e, -⟩:=CJ h3;subst e;refine ⟨a,c,ps,rfl,h1,h2,h3.1,fun h0=>?_,fun u hu=>?_,h3⟩
 ·obtain ⟨b,c',e, -, -⟩:=h3.form h0;simp only [Value.slice.injEq,true_and] at e;obtain ⟨rfl,rfl⟩:=e;refine ⟨b,0,rfl,fun j u hj=>?_⟩;have hlt:j<out.length*7:=by rw [←h3.1];exact (List.getElem?_eq_some_iff.1 hj).1
  rw [CX,h3.cellAt j hlt];exact hj
 ·obtain ⟨x,hx,hu⟩:=List.mem_flatMap.1 hu;obtain ⟨fa,fc,ba,bc,ta,tc,e, -⟩:=(h2 x hx).2.reads;have e:x.1= _:=Value.agg.inj e;rw [e] at hu;simp only [Cw,C3,or_false] at hu;rcases hu with rfl | rfl | rfl | rfl | rfl | rfl | rfl<;>rfl
theorem Acc.app {cs cs2:List Value} {n m:Nat} {B2:Nat} (h:Acc L B w v out) {ps ps2:List (Array Value × Dx)} (e1:ps.map (·.2)=out) (f1:∀x∈ps,x.1.size=7∧Far L [v.ownBlock] w (.agg x.1) x.2) (c1:ps.flatMap (·.1.toList)=cs)
 (e2:ps2.map (·.2)=out2) (f2:∀x∈ps2,x.1.size=7∧Far L [v.ownBlock] w (.agg x.1) x.2) (c2:ps2.flatMap (·.1.toList)=cs2) (hn:n=out.length) (hm:m=out2.length)
 (ho:w'.ownsRow B2 58 7 v' (n+m) (cs++cs2)) (hB:B≤B2) (hg:w.grownBy w' v.ownBlock) (hl:v'.ownBlock=v.ownBlock∨v'.ownBlock=some w.heap.size) (hin:In w L):Acc L B w' v' (out++out2):=by
 have hk:Keeps [v.ownBlock] w w':=Bc hg (fun k e=>by simp [e]);have hz:∀k,some k∈ [v'.ownBlock]→some k∈ [v.ownBlock]∨w.heap.size≤k:=fun k hk=>by
  have hk:some k=v'.ownBlock:=by simpa using hk
  rcases hl with e | e
  ·exact .inl (by rw [hk,e];simp)
  ·have:k=w.heap.size:=by rw [e] at hk;exact Dk.inj hk
   exact .inr (by omega)
 refine ⟨⟨ps++ps2,by rw [List.map_append,e1,e2],fun x hx=>?_,?_⟩,fun k e=>?_⟩
 ·rcases List.mem_append.1 hx with hx | hx
  ·exact ⟨(f1 x hx).1,far_off (f1 x hx).2 hk hz⟩
  ·exact ⟨(f2 x hx).1,far_off (f2 x hx).2 hk hz⟩
 ·rw [List.flatMap_append,c1,c2,Ch,←hn,←hm];exact own_le ho hB
 ·refine ⟨fun hm=>?_,(ho.lt k e).2⟩;rcases hl with e' | e'
  ·exact (h.far k (e' ▸ e)).1 hm
  ·have h1:=hin k hm;rw [e'] at e;have:w.heap.size=k:=Dk.inj e;omega
end
theorem w64_add (a b:Nat) (h:a+b≤1000000000):wrap64 ((a:Int)+(b:Int))=(a:Int)+(b:Int):=by unfold wrap64;omega
theorem w64_succ (a:Nat) (h:a≤1000000000):wrap64 ((a:Int)+1)=(a:Int)+1:=by unfold wrap64;omega
theorem w64_sub (a b:Nat) (h:b≤a) (h2:a≤1000000000):wrap64 ((a:Int)-(b:Int))=(a:Int)-(b:Int):=by unfold wrap64;omega
theorem w64_sub1 (a b:Nat) (h:b≤a) (h2:a≤1000000000):wrap64 ((a:Int)-(b:Int)+1)=(a:Int)-(b:Int)+1:=by unfold wrap64;omega
theorem i64_in (c:Int) (h:0≤c∧c≤65535):IntKind.i64.wrap c=c:=wrap_in _ (by omega) (by omega)
theorem sum_nat (f r T:Nat) (h:f+r=T):(f:Int)+(r:Int)=((T:Nat):Int):=by omega
theorem cut_at (n f:Nat) (cv:Int) (hf:f≤n) (hc:0≤cv):∃r:Nat,Hid (Int.tmod cv ((n:Int)-f+1)=(r:Int))∧¬((n:Int)-f+1=0)∧f+r≤n:=by
 refine ⟨(cv%((n:Int)-f+1)).toNat,Bo ?_,by omega,?_⟩
 ·rw [Int.tmod_eq_emod_of_nonneg hc,Int.toNat_of_nonneg (Int.emod_nonneg _ (by omega))]
 ·have h1:=Int.emod_lt_of_pos cv (show 0<(n:Int)-f+1 by omega)
  have h2:=Int.emod_nonneg cv (show (n:Int)-f+1≠0 by omega);generalize cv%((n:Int)-f+1)=z at *;omega
theorem num_succ (k:Nat):Value.int .i64 ((k:Int)+1)=Value.int .i64 ((k+1:Nat):Int):=by rw [Int.natCast_add];rfl
theorem less_step (k m:Nat) (h:k<m):m-((k:Int)+1).toNat<m-(k:Int).toNat:=by omega
theorem bts_range {w:World} {g:Nat} {s:List UInt8} {L:List (Option Nat)} (h:By.Bytes w g s) (hlt:g<w.heap.size) (hn:some g∉L) (k m:Nat) (hk:k+m≤s.length) (k2:Nat) (h2:k2=k∨m=0):Bts L w (some ⟨g,k2,none⟩) ((s.drop k).take m):=by
 have hl:((s.drop k).take m).length=m:=by rw [Cr,Cj];omega
 refine ⟨⟨by rw [Cn],fun h0=>⟨g,k2,rfl,hlt,fun j hj=>?_⟩⟩,fun ad e=>?_⟩
 ·rw [hl] at hj
  obtain rfl:k2=k:=h2.resolve_right (by omega);have hj2:k2+j<s.length:=by omega
  rw [(h (k2+j) hj2).1,BV,List.getElem?_take_of_lt hj,List.getElem?_drop,BS hj2];rfl
 ·have e:ad=⟨g,k2,none⟩:=by simpa using e.symm
  rw [e];exact ⟨hn,hlt⟩
theorem bytes_keeps {w w':World} {g:Nat} {s:List UInt8} {M:List (Option Nat)} (h:By.Bytes w g s) (hlt:g<w.heap.size) (hk:Keeps M w w') (hn:some g∉M):By.Bytes w' g s:=fun j hj=>by have hb:=hk.block g hlt hn;exact ⟨(World.cell?_of_block (a:=⟨g,j,none⟩) hb).trans (h j hj).1,(World.frozen?_of_block (a:=⟨g,j,none⟩) hb).trans (h j hj).2⟩
theorem Parts.three {L:List (Option Nat)} {w:World} {a:Option Addr} {c:Nat} {l:List UInt8} (h:Bts L w a l) (hin:In w L) (ty:TypeId):Parts L (w.alloc (.cells #[.slice none 0 0,.slice a l.length c,.slice none 0 0] ty)) (some ⟨w.heap.size,0,none⟩) [[],l,[]]:=by
 have hb:Below w.heap.size w (w.alloc (.cells #[.slice none 0 0,.slice a l.length c,.slice none 0 0] ty)):=(Am _ _).alloc (CQ _) _;have h0:∀w':World,Bts L w' none []:=fun w'=>⟨⟨rfl,fun h=>absurd h (by simp)⟩,fun ad e=>by cases e⟩;refine ⟨fun _=>⟨w.heap.size,0,rfl,by simp,fun hm=>by have:=hin _ hm;omega,fun k hk=>?_⟩⟩;have hk:k<3:=hk
 have hr:=fun j=>cell_of_row (w.alloc (.cells #[.slice none 0 0,.slice a l.length c,.slice none 0 0] ty)) w.heap.size j _ ty (0,0) (heap_alloc_new w _);rcases (by omega:k=0∨k=1∨k=2) with rfl | rfl | rfl
 ·exact ⟨none,0,(hr 0).trans rfl,h0 _⟩
 ·exact ⟨a,c,(hr 1).trans rfl,h.step (DD hb)⟩
 ·exact ⟨none,0,(hr 2).trans rfl,h0 _⟩
end Go.Proofs.YtnabkcglnbdfeaaGreatDoor.Pg
namespace Go.Proofs.YtnabkcglnbdfeaaGreatDoor.Pg
open Go.RowKit Base Txt Mem Par
theorem k1_all:(Q.read 0 usual [80,79,83,84,32,47,97,32,72,84,84,80,47,49,46,49,13,10,72,111,115,116,58,32,104,13,10,84,114,97,110,115,102,101,114,45,69,110,99,111,100,105,110,103,58,32,99,104,117,110,107,101,100,13,10,13,10,51,13,10,97,98,99,13,10,48,13,10,84,58,32,117,13,10,13,10,71]).err=0∧(Q.read 0 usual [80,79,83,84,32,47,97,32,72,84,84,80,47,49,46,49,13,10,72,111,115,116,58,32,104,13,10,84,114,97,110,115,102,101,114,45,69,110,99,111,100,105,110,103,58,32,99,104,117,110,107,101,100,13,10,13,10,51,13,10,97,98,99,13,10,48,13,10,84,58,32,117,13,10,13,10,71]).clean=false∧(Q.read 0 usual [80,79,83,84,32,47,97,32,72,84,84,80,47,49,46,49,13,10,72,111,115,116,58,32,104,13,10,84,114,97,110,115,102,101,114,45,69,110,99,111,100,105,110,103,58,32,99,104,117,110,107,101,100,13,10,13,10,51,13,10,97,98,99,13,10,48,13,10,84,58,32,117,13,10,13,10,71]).out.map (fun r=>(r.body,r.ts.length,r.ch))= [([97,98,99],1,true)]∧(Q.read 0 usual [80,79,83,84,32,47,97,32,72,84,84,80,47,49,46,49,13,10,72,111,115,116,58,32,104,13,10,84,114,97,110,115,102,101,114,45,69,110,99,111,100,105,110,103,58,32,99,104,117,110,107,101,100,13,10,13,10,51,13,10,97,98,99,13,10,48,13,10,84,58,32,117,13,10,13,10,71]).out.length=1:=by decide +kernel
theorem k1_out:∃r:Dx,(Q.read 0 usual [80,79,83,84,32,47,97,32,72,84,84,80,47,49,46,49,13,10,72,111,115,116,58,32,104,13,10,84,114,97,110,115,102,101,114,45,69,110,99,111,100,105,110,103,58,32,99,104,117,110,107,101,100,13,10,13,10,51,13,10,97,98,99,13,10,48,13,10,84,58,32,117,13,10,13,10,71]).out= [r]∧r.body= [97,98,99]∧r.ts.length=1∧r.ch=true:=by
 have h:=k1_all.2.2.1;obtain ⟨r,hr⟩:=List.length_eq_one_iff.1 k1_all.2.2.2;rw [hr] at h;have h2:(r.body,r.ts.length,r.ch)=([97,98,99],1,true):=by injection h
 exact ⟨r,hr,congrArg Prod.fst h2,congrArg (fun x=>x.2.1) h2,congrArg (fun x=>x.2.2) h2⟩
theorem k2_all:(Q.read 0 usual [71,69,84,32,47,32,72,84,84,80,47,49,46,49,10]).err=400∧(Q.read 0 usual [71,69,84,32,47,32,72,84,84,80,47,49,46,49,10]).clean=false∧(Q.read 0 usual [71,69,84,32,47,32,72,84,84,80,47,49,46,49,10]).out.length=0:=by decide +kernel
theorem k3_all:(Q.read 0 usual ([80,79,83,84,32,47,32,72,84,84,80,47,49,46,49,13,10,72,111,115,116,58,32,104,13,10,69,120,112,101,99,116,58,32,49,48,48,45,99,111,110,116,105,110,117,101,13,10] ++ [67,111,110,116,101,110,116,45,76,101,110,103,116,104,58,32,50,13,10,13,10])).waits=true∧(Q.read 0 usual ([80,79,83,84,32,47,32,72,84,84,80,47,49,46,49,13,10,72,111,115,116,58,32,104,13,10,69,120,112,101,99,116,58,32,49,48,48,45,99,111,110,116,105,110,117,101,13,10] ++ [67,111,110,116,101,110,116,45,76,101,110,103,116,104,58,32,50,13,10,13,10])).held=43∧(Q.read 0 usual ([80,79,83,84,32,47,32,72,84,84,80,47,49,46,49,13,10,72,111,115,116,58,32,104,13,10,69,120,112,101,99,116,58,32,49,48,48,45,99,111,110,116,105,110,117,101,13,10] ++ [67,111,110,116,101,110,116,45,76,101,110,103,116,104,58,32,50,13,10,13,10])).out.length=0∧((Q.read 0 usual ([80,79,83,84,32,47,32,72,84,84,80,47,49,46,49,13,10,72,111,115,116,58,32,104,13,10,69,120,112,101,99,116,58,32,49,48,48,45,99,111,110,116,105,110,117,101,13,10] ++ [67,111,110,116,101,110,116,45,76,101,110,103,116,104,58,32,50,13,10,13,10])).told.feed 0 usual [97,98]).out.length=1∧
 ((Q.read 0 usual ([80,79,83,84,32,47,32,72,84,84,80,47,49,46,49,13,10,72,111,115,116,58,32,104,13,10,69,120,112,101,99,116,58,32,49,48,48,45,99,111,110,116,105,110,117,101,13,10] ++ [67,111,110,116,101,110,116,45,76,101,110,103,116,104,58,32,50,13,10,13,10])).told.feed 0 usual [97,98]).clean=true∧((Q.read 0 usual ([80,79,83,84,32,47,32,72,84,84,80,47,49,46,49,13,10,72,111,115,116,58,32,104,13,10,69,120,112,101,99,116,58,32,49,48,48,45,99,111,110,116,105,110,117,101,13,10] ++ [67,111,110,116,101,110,116,45,76,101,110,103,116,104,58,32,50,13,10,13,10])).told.feed 0 usual [97,98]).err=0∧((Q.read 0 usual ([80,79,83,84,32,47,32,72,84,84,80,47,49,46,49,13,10,72,111,115,116,58,32,104,13,10,69,120,112,101,99,116,58,32,49,48,48,45,99,111,110,116,105,110,117,101,13,10] ++ [67,111,110,116,101,110,116,45,76,101,110,103,116,104,58,32,50,13,10,13,10])).told.feed 0 usual [97,98]).held=0:=by decide +kernel
section code
set_option maxHeartbeats 8000000
set_option maxRecDepth 100000
attribute [local go_sem] Al
theorem feed_said {p:Nat} {b:Bd} {w:World} {B:Zone} {g:Nat} {L:List (Option Nat)} {x:Q} (hp:p<4294967296) (h:At w B g p b L x) (ok:x.Ok b) (hw:x.out= []) (a:Option Addr) (ca:Nat) (ls:List (List UInt8)) (hl:Parts L w a ls) (hn:ls.length≤1000000) (hle:ls.flatten.length≤400000000) :
 Calls EL 20 #[ptr g,.slice a ls.length ca] w fun r w'=>∃o L',r=.returned o∧At w' B g p b L' (x.feed p b ls.flatten).told∧(x.feed p b ls.flatten).told.Ok b∧(x.feed p b ls.flatten).told.out= []∧Said w' o (x.feed p b ls.flatten).out∧Step L L' w w':=by
 refine (feed_any hp x h ok a ca ls hl hn (by rw [hw];simp only [List.length_nil];omega)).mono ?_;rintro r w' ⟨o,L',rfl,h1,h2,h3⟩;exact ⟨o,L',rfl,h1,told_ok (Q.Ok.feed _ ok),told_out _,h2.said,h3⟩
theorem known_any (w:World):Calls EL 13 #[] w fun e w'=>e=.returned (.bool true)∧Below w.heap.size w w':=by
 obtain ⟨r1,ho1,hbd1,hts1,hch1⟩:=k1_out;have ho2:(Q.read 0 usual [71,69,84,32,47,32,72,84,84,80,47,49,46,49,10]).out= []:=BK k2_all.2.2;have hc1:∀w:World,(convert 22 22 (.slice (some ⟨w.heap.size,0,none⟩) 77 77)).run EL (w.alloc (.cells #[.int .u8 80,.int .u8 79,.int .u8 83,.int .u8 84,.int .u8 32,.int .u8 47,.int .u8 97,.int .u8 32,.int .u8 72,.int .u8 84,.int .u8 84,.int .u8 80,.int .u8 47,.int .u8 49,.int .u8 46,.int .u8 49,.int .u8 13,.int .u8 10,.int .u8 72,.int .u8 111,.int .u8 115,.int .u8 116,.int .u8 58,.int .u8 32,.int .u8 104,.int .u8 13,.int .u8 10,.int .u8 84,.int .u8 114,.int .u8 97,.int .u8 110,.int .u8 115,.int .u8 102,.int .u8 101,.int .u8 114,.int .u8 45,.int .u8 69,.int .u8 110,.int .u8 99,.int .u8 111,.int .u8 100,.int .u8 105,.int .u8 110,.int .u8 103,.int .u8 58,.int .u8 32,.int .u8 99,.int .u8 104,.int .u8 117,.int .u8 110,.int .u8 107,.int .u8 101,.int .u8 100,.int .u8 13,.int .u8 10,.int .u8 13,.int .u8 10,.int .u8 51,.int .u8 13,.int .u8 10,.int .u8 97,.int .u8 98,.int .u8 99,.int .u8 13,.int .u8 10,.int .u8 48,.int .u8 13,.int .u8 10,.int .u8 84,.int .u8 58,.int .u8 32,.int .u8 117,.int .u8 13,.int .u8 10,.int .u8 13,.int .u8 10,.int .u8 71] 5))=.ok (.slice (some ⟨w.heap.size,0,none⟩) 77 77) (w.alloc (.cells #[.int .u8 80,.int .u8 79,.int .u8 83,.int .u8 84,.int .u8 32,.int .u8 47,.int .u8 97,.int .u8 32,.int .u8 72,.int .u8 84,.int .u8 84,.int .u8 80,.int .u8 47,.int .u8 49,.int .u8 46,.int .u8 49,.int .u8 13,.int .u8 10,.int .u8 72,.int .u8 111,.int .u8 115,.int .u8 116,.int .u8 58,.int .u8 32,.int .u8 104,.int .u8 13,.int .u8 10,.int .u8 84,.int .u8 114,.int .u8 97,.int .u8 110,.int .u8 115,.int .u8 102,.int .u8 101,.int .u8 114,.int .u8 45,.int .u8 69,.int .u8 110,.int .u8 99,.int .u8 111,.int .u8 100,.int .u8 105,.int .u8 110,.int .u8 103,.int .u8 58,.int .u8 32,.int .u8 99,.int .u8 104,.int .u8 117,.int .u8 110,.int .u8 107,.int .u8 101,.int .u8 100,.int .u8 13,.int .u8 10,.int .u8 13,.int .u8 10,.int .u8 51,.int .u8 13,.int .u8 10,.int .u8 97,.int .u8 98,.int .u8 99,.int .u8 13,.int .u8 10,.int .u8 48,.int .u8 13,.int .u8 10,.int .u8 84,.int .u8 58,.int .u8 32,.int .u8 117,.int .u8 13,.int .u8 10,.int .u8 13,.int .u8 10,.int .u8 71] 5 (77,78))):=fun w=>Lib.run_convert_bytes_const w 22 5 #[.int .u8 80,.int .u8 79,.int .u8 83,.int .u8 84,.int .u8 32,.int .u8 47,.int .u8 97,.int .u8 32,.int .u8 72,.int .u8 84,.int .u8 84,.int .u8 80,.int .u8 47,.int .u8 49,.int .u8 46,.int .u8 49,.int .u8 13,.int .u8 10,.int .u8 72,.int .u8 111,.int .u8 115,.int .u8 116,.int .u8 58,.int .u8 32,.int .u8 104,.int .u8 13,.int .u8 10,.int .u8 84,.int .u8 114,.int .u8 97,.int .u8 110,.int .u8 115,.int .u8 102,.int .u8 101,.int .u8 114,.int .u8 45,.int .u8 69,.int .u8 110,.int .u8 99,.int .u8 111,.int .u8 100,.int .u8 105,.int .u8 110,.int .u8 103,.int .u8 58,.int .u8 32,.int .u8 99,.int .u8 104,.int .u8 117,.int .u8 110,.int .u8 107,.int .u8 101,.int .u8 100,.int .u8 13,.int .u8 10,.int .u8 13,.int .u8 10,.int .u8 51,.int .u8 13,.int .u8 10,.int .u8 97,.int .u8 98,.int .u8 99,.int .u8 13,.int .u8 10,.int .u8 48,.int .u8 13,.int .u8 10,.int .u8 84,.int .u8 58,.int .u8 32,.int .u8 117,.int .u8 13,.int .u8 10,.int .u8 13,.int .u8 10,.int .u8 71] 77 77 Fm Fx
 have hc2:∀w:World,(convert 22 22 (.slice (some ⟨w.heap.size,0,none⟩) 15 15)).run EL (w.alloc (.cells #[.int .u8 71,.int .u8 69,.int .u8 84,.int .u8 32,.int .u8 47,.int .u8 32,.int .u8 72,.int .u8 84,.int .u8 84,.int .u8 80,.int .u8 47,.int .u8 49,.int .u8 46,.int .u8 49,.int .u8 10] 5))=.ok (.slice (some ⟨w.heap.size,0,none⟩) 15 15) (w.alloc (.cells #[.int .u8 71,.int .u8 69,.int .u8 84,.int .u8 32,.int .u8 47,.int .u8 32,.int .u8 72,.int .u8 84,.int .u8 84,.int .u8 80,.int .u8 47,.int .u8 49,.int .u8 46,.int .u8 49,.int .u8 10] 5 (15,16))):=fun w=>Lib.run_convert_bytes_const w 22 5 #[.int .u8 71,.int .u8 69,.int .u8 84,.int .u8 32,.int .u8 47,.int .u8 32,.int .u8 72,.int .u8 84,.int .u8 84,.int .u8 80,.int .u8 47,.int .u8 49,.int .u8 46,.int .u8 49,.int .u8 10] 15 15 Fm Fx
 have hc3:∀w:World,(convert 22 22 (.slice (some ⟨w.heap.size,0,none⟩) 48 48)).run EL (w.alloc (.cells #[.int .u8 80,.int .u8 79,.int .u8 83,.int .u8 84,.int .u8 32,.int .u8 47,.int .u8 32,.int .u8 72,.int .u8 84,.int .u8 84,.int .u8 80,.int .u8 47,.int .u8 49,.int .u8 46,.int .u8 49,.int .u8 13,.int .u8 10,.int .u8 72,.int .u8 111,.int .u8 115,.int .u8 116,.int .u8 58,.int .u8 32,.int .u8 104,.int .u8 13,.int .u8 10,.int .u8 69,.int .u8 120,.int .u8 112,.int .u8 101,.int .u8 99,.int .u8 116,.int .u8 58,.int .u8 32,.int .u8 49,.int .u8 48,.int .u8 48,.int .u8 45,.int .u8 99,.int .u8 111,.int .u8 110,.int .u8 116,.int .u8 105,.int .u8 110,.int .u8 117,.int .u8 101,.int .u8 13,.int .u8 10] 5))=.ok (.slice (some ⟨w.heap.size,0,none⟩) 48 48) (w.alloc (.cells #[.int .u8 80,.int .u8 79,.int .u8 83,.int .u8 84,.int .u8 32,.int .u8 47,.int .u8 32,.int .u8 72,.int .u8 84,.int .u8 84,.int .u8 80,.int .u8 47,.int .u8 49,.int .u8 46,.int .u8 49,.int .u8 13,.int .u8 10,.int .u8 72,.int .u8 111,.int .u8 115,.int .u8 116,.int .u8 58,.int .u8 32,.int .u8 104,.int .u8 13,.int .u8 10,.int .u8 69,.int .u8 120,.int .u8 112,.int .u8 101,.int .u8 99,.int .u8 116,.int .u8 58,.int .u8 32,.int .u8 49,.int .u8 48,.int .u8 48,.int .u8 45,.int .u8 99,.int .u8 111,.int .u8 110,.int .u8 116,.int .u8 105,.int .u8 110,.int .u8 117,.int .u8 101,.int .u8 13,.int .u8 10] 5 (48,49))):=fun w=>Lib.run_convert_bytes_const w 22 5 #[.int .u8 80,.int .u8 79,.int .u8 83,.int .u8 84,.int .u8 32,.int .u8 47,.int .u8 32,.int .u8 72,.int .u8 84,.int .u8 84,.int .u8 80,.int .u8 47,.int .u8 49,.int .u8 46,.int .u8 49,.int .u8 13,.int .u8 10,.int .u8 72,.int .u8 111,.int .u8 115,.int .u8 116,.int .u8 58,.int .u8 32,.int .u8 104,.int .u8 13,.int .u8 10,.int .u8 69,.int .u8 120,.int .u8 112,.int .u8 101,.int .u8 99,.int .u8 116,.int .u8 58,.int .u8 32,.int .u8 49,.int .u8 48,.int .u8 48,.int .u8 45,.int .u8 99,.int .u8 111,.int .u8 110,.int .u8 116,.int .u8 105,.int .u8 110,.int .u8 117,.int .u8 101,.int .u8 13,.int .u8 10] 48 48 Fm Fx
 have hc4:∀w:World,(convert 22 22 (.slice (some ⟨w.heap.size,0,none⟩) 21 21)).run EL (w.alloc (.cells #[.int .u8 67,.int .u8 111,.int .u8 110,.int .u8 116,.int .u8 101,.int .u8 110,.int .u8 116,.int .u8 45,.int .u8 76,.int .u8 101,.int .u8 110,.int .u8 103,.int .u8 116,.int .u8 104,.int .u8 58,.int .u8 32,.int .u8 50,.int .u8 13,.int .u8 10,.int .u8 13,.int .u8 10] 5))=.ok (.slice (some ⟨w.heap.size,0,none⟩) 21 21) (w.alloc (.cells #[.int .u8 67,.int .u8 111,.int .u8 110,.int .u8 116,.int .u8 101,.int .u8 110,.int .u8 116,.int .u8 45,.int .u8 76,.int .u8 101,.int .u8 110,.int .u8 103,.int .u8 116,.int .u8 104,.int .u8 58,.int .u8 32,.int .u8 50,.int .u8 13,.int .u8 10,.int .u8 13,.int .u8 10] 5 (21,22))):=fun w=>Lib.run_convert_bytes_const w 22 5 #[.int .u8 67,.int .u8 111,.int .u8 110,.int .u8 116,.int .u8 101,.int .u8 110,.int .u8 116,.int .u8 45,.int .u8 76,.int .u8 101,.int .u8 110,.int .u8 103,.int .u8 116,.int .u8 104,.int .u8 58,.int .u8 32,.int .u8 50,.int .u8 13,.int .u8 10,.int .u8 13,.int .u8 10] 21 21 Fm Fx
 have hc5:∀w:World,(convert 22 22 (.slice (some ⟨w.heap.size,0,none⟩) 2 2)).run EL (w.alloc (.cells #[.int .u8 97,.int .u8 98] 5))=.ok (.slice (some ⟨w.heap.size,0,none⟩) 2 2) (w.alloc (.cells #[.int .u8 97,.int .u8 98] 5 (2,3))):=fun w=>Lib.run_convert_bytes_const w 22 5 #[.int .u8 97,.int .u8 98] 2 2 Fm Fx
 have HK1:Hid (∀w:World,Calls EL 30 #[.int .u32 0,.agg #[.int .i64 1024,.int .i64 32,.int .i64 8192,.int .i64 65536,.int .i64 32,.int .i64 8,.int .i64 4,.int .i64 20,.bool true,.bool true],.slice (some ⟨w.heap.size,0,none⟩) 77 77] (w.alloc (.cells #[.int .u8 80,.int .u8 79,.int .u8 83,.int .u8 84,.int .u8 32,.int .u8 47,.int .u8 97,.int .u8 32,.int .u8 72,.int .u8 84,.int .u8 84,.int .u8 80,.int .u8 47,.int .u8 49,.int .u8 46,.int .u8 49,.int .u8 13,.int .u8 10,.int .u8 72,.int .u8 111,.int .u8 115,.int .u8 116,.int .u8 58,.int .u8 32,.int .u8 104,.int .u8 13,.int .u8 10,.int .u8 84,.int .u8 114,.int .u8 97,.int .u8 110,.int .u8 115,.int .u8 102,.int .u8 101,.int .u8 114,.int .u8 45,.int .u8 69,.int .u8 110,.int .u8 99,.int .u8 111,.int .u8 100,.int .u8 105,.int .u8 110,.int .u8 103,.int .u8 58,.int .u8 32,.int .u8 99,.int .u8 104,.int .u8 117,.int .u8 110,.int .u8 107,.int .u8 101,.int .u8 100,.int .u8 13,.int .u8 10,.int .u8 13,.int .u8 10,.int .u8 51,.int .u8 13,.int .u8 10,.int .u8 97,.int .u8 98,.int .u8 99,.int .u8 13,.int .u8 10,.int .u8 48,.int .u8 13,.int .u8 10,.int .u8 84,.int .u8 58,.int .u8 32,.int .u8 117,.int .u8 13,.int .u8 10,.int .u8 13,.int .u8 10,.int .u8 71] 5 (77,78))) fun r w'=>
  ∃o,r=.returned (.tuple #[o,.int .i64 0,.bool false])∧Said w' o [r1]∧Below (w.heap.size+1) (w.alloc (.cells #[.int .u8 80,.int .u8 79,.int .u8 83,.int .u8 84,.int .u8 32,.int .u8 47,.int .u8 97,.int .u8 32,.int .u8 72,.int .u8 84,.int .u8 84,.int .u8 80,.int .u8 47,.int .u8 49,.int .u8 46,.int .u8 49,.int .u8 13,.int .u8 10,.int .u8 72,.int .u8 111,.int .u8 115,.int .u8 116,.int .u8 58,.int .u8 32,.int .u8 104,.int .u8 13,.int .u8 10,.int .u8 84,.int .u8 114,.int .u8 97,.int .u8 110,.int .u8 115,.int .u8 102,.int .u8 101,.int .u8 114,.int .u8 45,.int .u8 69,.int .u8 110,.int .u8 99,.int .u8 111,.int .u8 100,.int .u8 105,.int .u8 110,.int .u8 103,.int .u8 58,.int .u8 32,.int .u8 99,.int .u8 104,.int .u8 117,.int .u8 110,.int .u8 107,.int .u8 101,.int .u8 100,.int .u8 13,.int .u8 10,.int .u8 13,.int .u8 10,.int .u8 51,.int .u8 13,.int .u8 10,.int .u8 97,.int .u8 98,.int .u8 99,.int .u8 13,.int .u8 10,.int .u8 48,.int .u8 13,.int .u8 10,.int .u8 84,.int .u8 58,.int .u8 32,.int .u8 117,.int .u8 13,.int .u8 10,.int .u8 13,.int .u8 10,.int .u8 71] 5 (77,78))) w'):=Bo fun w=>by
  have h:=read_said (p:=0) (by decide) usual (w.alloc (.cells #[.int .u8 80,.int .u8 79,.int .u8 83,.int .u8 84,.int .u8 32,.int .u8 47,.int .u8 97,.int .u8 32,.int .u8 72,.int .u8 84,.int .u8 84,.int .u8 80,.int .u8 47,.int .u8 49,.int .u8 46,.int .u8 49,.int .u8 13,.int .u8 10,.int .u8 72,.int .u8 111,.int .u8 115,.int .u8 116,.int .u8 58,.int .u8 32,.int .u8 104,.int .u8 13,.int .u8 10,.int .u8 84,.int .u8 114,.int .u8 97,.int .u8 110,.int .u8 115,.int .u8 102,.int .u8 101,.int .u8 114,.int .u8 45,.int .u8 69,.int .u8 110,.int .u8 99,.int .u8 111,.int .u8 100,.int .u8 105,.int .u8 110,.int .u8 103,.int .u8 58,.int .u8 32,.int .u8 99,.int .u8 104,.int .u8 117,.int .u8 110,.int .u8 107,.int .u8 101,.int .u8 100,.int .u8 13,.int .u8 10,.int .u8 13,.int .u8 10,.int .u8 51,.int .u8 13,.int .u8 10,.int .u8 97,.int .u8 98,.int .u8 99,.int .u8 13,.int .u8 10,.int .u8 48,.int .u8 13,.int .u8 10,.int .u8 84,.int .u8 58,.int .u8 32,.int .u8 117,.int .u8 13,.int .u8 10,.int .u8 13,.int .u8 10,.int .u8 71] 5 (77,78))) (some ⟨w.heap.size,0,none⟩) 77 [80,79,83,84,32,47,97,32,72,84,84,80,47,49,46,49,13,10,72,111,115,116,58,32,104,13,10,84,114,97,110,115,102,101,114,45,69,110,99,111,100,105,110,103,58,32,99,104,117,110,107,101,100,13,10,13,10,51,13,10,97,98,99,13,10,48,13,10,84,58,32,117,13,10,13,10,71] (Bts.lit (in_nil w) [80,79,83,84,32,47,97,32,72,84,84,80,47,49,46,49,13,10,72,111,115,116,58,32,104,13,10,84,114,97,110,115,102,101,114,45,69,110,99,111,100,105,110,103,58,32,99,104,117,110,107,101,100,13,10,13,10,51,13,10,97,98,99,13,10,48,13,10,84,58,32,117,13,10,13,10,71] #[.int .u8 80,.int .u8 79,.int .u8 83,.int .u8 84,.int .u8 32,.int .u8 47,.int .u8 97,.int .u8 32,.int .u8 72,.int .u8 84,.int .u8 84,.int .u8 80,.int .u8 47,.int .u8 49,.int .u8 46,.int .u8 49,.int .u8 13,.int .u8 10,.int .u8 72,.int .u8 111,.int .u8 115,.int .u8 116,.int .u8 58,.int .u8 32,.int .u8 104,.int .u8 13,.int .u8 10,.int .u8 84,.int .u8 114,.int .u8 97,.int .u8 110,.int .u8 115,.int .u8 102,.int .u8 101,.int .u8 114,.int .u8 45,.int .u8 69,.int .u8 110,.int .u8 99,.int .u8 111,.int .u8 100,.int .u8 105,.int .u8 110,.int .u8 103,.int .u8 58,.int .u8 32,.int .u8 99,.int .u8 104,.int .u8 117,.int .u8 110,.int .u8 107,.int .u8 101,.int .u8 100,.int .u8 13,.int .u8 10,.int .u8 13,.int .u8 10,.int .u8 51,.int .u8 13,.int .u8 10,.int .u8 97,.int .u8 98,.int .u8 99,.int .u8 13,.int .u8 10,.int .u8 48,.int .u8 13,.int .u8 10,.int .u8 84,.int .u8 58,.int .u8 32,.int .u8 117,.int .u8 13,.int .u8 10,.int .u8 13,.int .u8 10,.int .u8 71] (by kernel_rfl) 5 (77,78)) (by decide) 0 false [r1] k1_all.1 k1_all.2.1 ho1;have hs:(w.alloc (.cells #[.int .u8 80,.int .u8 79,.int .u8 83,.int .u8 84,.int .u8 32,.int .u8 47,.int .u8 97,.int .u8 32,.int .u8 72,.int .u8 84,.int .u8 84,.int .u8 80,.int .u8 47,.int .u8 49,.int .u8 46,.int .u8 49,.int .u8 13,.int .u8 10,.int .u8 72,.int .u8 111,.int .u8 115,.int .u8 116,.int .u8 58,.int .u8 32,.int .u8 104,.int .u8 13,.int .u8 10,.int .u8 84,.int .u8 114,.int .u8 97,.int .u8 110,.int .u8 115,.int .u8 102,.int .u8 101,.int .u8 114,.int .u8 45,.int .u8 69,.int .u8 110,.int .u8 99,.int .u8 111,.int .u8 100,.int .u8 105,.int .u8 110,.int .u8 103,.int .u8 58,.int .u8 32,.int .u8 99,.int .u8 104,.int .u8 117,.int .u8 110,.int .u8 107,.int .u8 101,.int .u8 100,.int .u8 13,.int .u8 10,.int .u8 13,.int .u8 10,.int .u8 51,.int .u8 13,.int .u8 10,.int .u8 97,.int .u8 98,.int .u8 99,.int .u8 13,.int .u8 10,.int .u8 48,.int .u8 13,.int .u8 10,.int .u8 84,.int .u8 58,.int .u8 32,.int .u8 117,.int .u8 13,.int .u8 10,.int .u8 13,.int .u8 10,.int .u8 71] 5 (77,78))).heap.size=w.heap.size+1:=by simp
  rw [hs] at h;exact h
 have HK2:Hid (∀w:World,Calls EL 30 #[.int .u32 0,.agg #[.int .i64 1024,.int .i64 32,.int .i64 8192,.int .i64 65536,.int .i64 32,.int .i64 8,.int .i64 4,.int .i64 20,.bool true,.bool true],.slice (some ⟨w.heap.size,0,none⟩) 15 15] (w.alloc (.cells #[.int .u8 71,.int .u8 69,.int .u8 84,.int .u8 32,.int .u8 47,.int .u8 32,.int .u8 72,.int .u8 84,.int .u8 84,.int .u8 80,.int .u8 47,.int .u8 49,.int .u8 46,.int .u8 49,.int .u8 10] 5 (15,16))) fun r w'=>
  ∃o,r=.returned (.tuple #[o,.int .i64 400,.bool false])∧Said w' o []∧Below (w.heap.size+1) (w.alloc (.cells #[.int .u8 71,.int .u8 69,.int .u8 84,.int .u8 32,.int .u8 47,.int .u8 32,.int .u8 72,.int .u8 84,.int .u8 84,.int .u8 80,.int .u8 47,.int .u8 49,.int .u8 46,.int .u8 49,.int .u8 10] 5 (15,16))) w'):=Bo fun w=>by
  have h:=read_said (p:=0) (by decide) usual (w.alloc (.cells #[.int .u8 71,.int .u8 69,.int .u8 84,.int .u8 32,.int .u8 47,.int .u8 32,.int .u8 72,.int .u8 84,.int .u8 84,.int .u8 80,.int .u8 47,.int .u8 49,.int .u8 46,.int .u8 49,.int .u8 10] 5 (15,16))) (some ⟨w.heap.size,0,none⟩) 15 [71,69,84,32,47,32,72,84,84,80,47,49,46,49,10] (Bts.lit (in_nil w) [71,69,84,32,47,32,72,84,84,80,47,49,46,49,10] #[.int .u8 71,.int .u8 69,.int .u8 84,.int .u8 32,.int .u8 47,.int .u8 32,.int .u8 72,.int .u8 84,.int .u8 84,.int .u8 80,.int .u8 47,.int .u8 49,.int .u8 46,.int .u8 49,.int .u8 10] (by kernel_rfl) 5 (15,16)) (by decide) 400 false [] k2_all.1 k2_all.2.1 ho2;have hs:(w.alloc (.cells #[.int .u8 71,.int .u8 69,.int .u8 84,.int .u8 32,.int .u8 47,.int .u8 32,.int .u8 72,.int .u8 84,.int .u8 84,.int .u8 80,.int .u8 47,.int .u8 49,.int .u8 46,.int .u8 49,.int .u8 10] 5 (15,16))).heap.size=w.heap.size+1:=by simp
  rw [hs] at h;exact h
 have HBD:=Bo hbd1;have HTS:=Bo hts1;have HCH:=Bo hch1;clear ho1 ho2 hbd1 hts1 hch1;go_enter Tryz.func13,Tryz.ntmps13
 go_upto_region 2 with (go_at_call 45;with_reducible refine (Bnd.rusual_any _).mono ?_;rintro r w1 ⟨rfl,hb⟩;have HB1:=Bo hb;clear hb)
 have HZ1:=Bo (Dw w1 w1.heap.size rfl 29 [.int .i64 1024,.int .i64 32,.int .i64 8192,.int .i64 65536,.int .i64 32,.int .i64 8,.int .i64 4,.int .i64 20,.bool true,.bool true])
 have HBW1:=Bo (HB1.out.alloc HB1.out.size (.cells #[.int .i64 1024,.int .i64 32,.int .i64 8192,.int .i64 65536,.int .i64 32,.int .i64 8,.int .i64 4,.int .i64 20,.bool true,.bool true] 29));generalize w1.alloc (.cells #[.int .i64 1024,.int .i64 32,.int .i64 8192,.int .i64 65536,.int .i64 32,.int .i64 8,.int .i64 4,.int .i64 20,.bool true,.bool true] 29)=W1 at *;generalize w1.heap.size=gB at *;have y0:=HZ1.out.c 0 _ rfl;have y1:=HZ1.out.c 1 _ rfl;have y2:=HZ1.out.c 2 _ rfl;have y3:=HZ1.out.c 3 _ rfl;have y4:=HZ1.out.c 4 _ rfl;have y5:=HZ1.out.c 5 _ rfl;have y6:=HZ1.out.c 6 _ rfl;have y7:=HZ1.out.c 7 _ rfl;have y8:=HZ1.out.c 8 _ rfl;have y9:=HZ1.out.c 9 _ rfl;go_upto_region 3 with
  (go_at_call 30;with_reducible refine (HK1.out _).mono ?_;rintro r w2 ⟨o1,rfl,hT,hb⟩
   have hb2:Below W1.heap.size W1 w2:=((Am _ _).alloc (CQ _) _).trans (hb.mono (CS _))
   have HT2:=Bo hT;have HZ2:=Bo (HZ1.out.below hb2);have HB2:=Bo (Ak HBW1.out hb2);clear hb hb2 hT y0 y1 y2 y3 y4 y5 y6 y7 y8 y9)
 have y0:=HZ2.out.c 0 _ rfl;have y1:=HZ2.out.c 1 _ rfl;have y2:=HZ2.out.c 2 _ rfl;have y3:=HZ2.out.c 3 _ rfl;have y4:=HZ2.out.c 4 _ rfl;have y5:=HZ2.out.c 5 _ rfl;have y6:=HZ2.out.c 6 _ rfl;have y7:=HZ2.out.c 7 _ rfl;have y8:=HZ2.out.c 8 _ rfl;have y9:=HZ2.out.c 9 _ rfl;clear HZ1 HBW1 HK1 hc1;go_upto_region 4 with
  (go_at_call 30;with_reducible refine (HK2.out _).mono ?_;rintro r w3 ⟨o2,rfl,hT,hb⟩
   have hb2:Below w2.heap.size w2 w3:=((Am _ _).alloc (CQ _) _).trans (hb.mono (CS _))
   have HT3:=Bo (HT2.out.below hb2);have HZ3:=Bo (HZ2.out.below hb2);have HB3:=Bo (Ak HB2.out hb2);clear hb hb2 hT y0 y1 y2 y3 y4 y5 y6 y7 y8 y9)
 have y0:=HZ3.out.c 0 _ rfl;have y1:=HZ3.out.c 1 _ rfl;have y2:=HZ3.out.c 2 _ rfl;have y3:=HZ3.out.c 3 _ rfl;have y4:=HZ3.out.c 4 _ rfl;have y5:=HZ3.out.c 5 _ rfl;have y6:=HZ3.out.c 6 _ rfl;have y7:=HZ3.out.c 7 _ rfl;have y8:=HZ3.out.c 8 _ rfl;have y9:=HZ3.out.c 9 _ rfl;clear HZ2 HB2 HT2 HK2 hc2
 have HNW:Hid (Calls EL 18 #[.int .u32 0,.agg #[.int .i64 1024,.int .i64 32,.int .i64 8192,.int .i64 65536,.int .i64 32,.int .i64 8,.int .i64 4,.int .i64 20,.bool true,.bool true]] w3 fun r w'=>∃g L',r=.returned (ptr g)∧w3.heap.size≤g∧At w' ⟨w3.heap.size,[]⟩ g 0 usual L' (Q.new 0 usual)∧Below w3.heap.size w3 w'):=Bo (new_any (p:=0) (b:=usual) (by decide) w3);go_upto_region 5 with
  (go_at_call 18;with_reducible refine HNW.out.mono ?_;rintro r w4 ⟨g,L4,rfl,hg,hA,hb⟩
   have HA4:=Bo hA;have HL4:=Bo hb;clear hA hb hg y0 y1 y2 y3 y4 y5 y6 y7 y8 y9)
 clear HZ3 HNW;go_upto_region 7 with fail
 have hc4w:=hc4 (w4.alloc (.cells #[.int .u8 80,.int .u8 79,.int .u8 83,.int .u8 84,.int .u8 32,.int .u8 47,.int .u8 32,.int .u8 72,.int .u8 84,.int .u8 84,.int .u8 80,.int .u8 47,.int .u8 49,.int .u8 46,.int .u8 49,.int .u8 13,.int .u8 10,.int .u8 72,.int .u8 111,.int .u8 115,.int .u8 116,.int .u8 58,.int .u8 32,.int .u8 104,.int .u8 13,.int .u8 10,.int .u8 69,.int .u8 120,.int .u8 112,.int .u8 101,.int .u8 99,.int .u8 116,.int .u8 58,.int .u8 32,.int .u8 49,.int .u8 48,.int .u8 48,.int .u8 45,.int .u8 99,.int .u8 111,.int .u8 110,.int .u8 116,.int .u8 105,.int .u8 110,.int .u8 117,.int .u8 101,.int .u8 13,.int .u8 10] 5 (48,49)));rw [show (w4.alloc (.cells #[.int .u8 80,.int .u8 79,.int .u8 83,.int .u8 84,.int .u8 32,.int .u8 47,.int .u8 32,.int .u8 72,.int .u8 84,.int .u8 84,.int .u8 80,.int .u8 47,.int .u8 49,.int .u8 46,.int .u8 49,.int .u8 13,.int .u8 10,.int .u8 72,.int .u8 111,.int .u8 115,.int .u8 116,.int .u8 58,.int .u8 32,.int .u8 104,.int .u8 13,.int .u8 10,.int .u8 69,.int .u8 120,.int .u8 112,.int .u8 101,.int .u8 99,.int .u8 116,.int .u8 58,.int .u8 32,.int .u8 49,.int .u8 48,.int .u8 48,.int .u8 45,.int .u8 99,.int .u8 111,.int .u8 110,.int .u8 116,.int .u8 105,.int .u8 110,.int .u8 117,.int .u8 101,.int .u8 13,.int .u8 10] 5 (48,49))).heap.size=w4.heap.size+1 by simp] at hc4w;clear hc4;have hP:Parts L4 (((w4.alloc (.cells #[.int .u8 80,.int .u8 79,.int .u8 83,.int .u8 84,.int .u8 32,.int .u8 47,.int .u8 32,.int .u8 72,.int .u8 84,.int .u8 84,.int .u8 80,.int .u8 47,.int .u8 49,.int .u8 46,.int .u8 49,.int .u8 13,.int .u8 10,.int .u8 72,.int .u8 111,.int .u8 115,.int .u8 116,.int .u8 58,.int .u8 32,.int .u8 104,.int .u8 13,.int .u8 10,.int .u8 69,.int .u8 120,.int .u8 112,.int .u8 101,.int .u8 99,.int .u8 116,.int .u8 58,.int .u8 32,.int .u8 49,.int .u8 48,.int .u8 48,.int .u8 45,.int .u8 99,.int .u8 111,.int .u8 110,.int .u8 116,.int .u8 105,.int .u8 110,.int .u8 117,.int .u8 101,.int .u8 13,.int .u8 10] 5 (48,49))).alloc (.cells #[.int .u8 67,.int .u8 111,.int .u8 110,.int .u8 116,.int .u8 101,.int .u8 110,.int .u8 116,.int .u8 45,.int .u8 76,.int .u8 101,.int .u8 110,.int .u8 103,.int .u8 116,.int .u8 104,.int .u8 58,.int .u8 32,.int .u8 50,.int .u8 13,.int .u8 10,.int .u8 13,.int .u8 10] 5 (21,22))).alloc (.cells #[.slice (some ⟨w4.heap.size,0,none⟩) 48 48,.slice (some ⟨w4.heap.size+1,0,none⟩) 21 21] 22)) (some ⟨w4.heap.size+2,0,none⟩) [[80,79,83,84,32,47,32,72,84,84,80,47,49,46,49,13,10,72,111,115,116,58,32,104,13,10,69,120,112,101,99,116,58,32,49,48,48,45,99,111,110,116,105,110,117,101,13,10],[67,111,110,116,101,110,116,45,76,101,110,103,116,104,58,32,50,13,10,13,10]]:=by
  have hin:=HA4.out.in
  have h1:=Bts.lit hin [80,79,83,84,32,47,32,72,84,84,80,47,49,46,49,13,10,72,111,115,116,58,32,104,13,10,69,120,112,101,99,116,58,32,49,48,48,45,99,111,110,116,105,110,117,101,13,10] #[.int .u8 80,.int .u8 79,.int .u8 83,.int .u8 84,.int .u8 32,.int .u8 47,.int .u8 32,.int .u8 72,.int .u8 84,.int .u8 84,.int .u8 80,.int .u8 47,.int .u8 49,.int .u8 46,.int .u8 49,.int .u8 13,.int .u8 10,.int .u8 72,.int .u8 111,.int .u8 115,.int .u8 116,.int .u8 58,.int .u8 32,.int .u8 104,.int .u8 13,.int .u8 10,.int .u8 69,.int .u8 120,.int .u8 112,.int .u8 101,.int .u8 99,.int .u8 116,.int .u8 58,.int .u8 32,.int .u8 49,.int .u8 48,.int .u8 48,.int .u8 45,.int .u8 99,.int .u8 111,.int .u8 110,.int .u8 116,.int .u8 105,.int .u8 110,.int .u8 117,.int .u8 101,.int .u8 13,.int .u8 10] (by kernel_rfl) 5 (48,49)
  have hin1:=in_alloc hin (.cells #[.int .u8 80,.int .u8 79,.int .u8 83,.int .u8 84,.int .u8 32,.int .u8 47,.int .u8 32,.int .u8 72,.int .u8 84,.int .u8 84,.int .u8 80,.int .u8 47,.int .u8 49,.int .u8 46,.int .u8 49,.int .u8 13,.int .u8 10,.int .u8 72,.int .u8 111,.int .u8 115,.int .u8 116,.int .u8 58,.int .u8 32,.int .u8 104,.int .u8 13,.int .u8 10,.int .u8 69,.int .u8 120,.int .u8 112,.int .u8 101,.int .u8 99,.int .u8 116,.int .u8 58,.int .u8 32,.int .u8 49,.int .u8 48,.int .u8 48,.int .u8 45,.int .u8 99,.int .u8 111,.int .u8 110,.int .u8 116,.int .u8 105,.int .u8 110,.int .u8 117,.int .u8 101,.int .u8 13,.int .u8 10] 5 (48,49))
  have h2:=Bts.lit hin1 [67,111,110,116,101,110,116,45,76,101,110,103,116,104,58,32,50,13,10,13,10] #[.int .u8 67,.int .u8 111,.int .u8 110,.int .u8 116,.int .u8 101,.int .u8 110,.int .u8 116,.int .u8 45,.int .u8 76,.int .u8 101,.int .u8 110,.int .u8 103,.int .u8 116,.int .u8 104,.int .u8 58,.int .u8 32,.int .u8 50,.int .u8 13,.int .u8 10,.int .u8 13,.int .u8 10] (by kernel_rfl) 5 (21,22);have e1:(w4.alloc (.cells #[.int .u8 80,.int .u8 79,.int .u8 83,.int .u8 84,.int .u8 32,.int .u8 47,.int .u8 32,.int .u8 72,.int .u8 84,.int .u8 84,.int .u8 80,.int .u8 47,.int .u8 49,.int .u8 46,.int .u8 49,.int .u8 13,.int .u8 10,.int .u8 72,.int .u8 111,.int .u8 115,.int .u8 116,.int .u8 58,.int .u8 32,.int .u8 104,.int .u8 13,.int .u8 10,.int .u8 69,.int .u8 120,.int .u8 112,.int .u8 101,.int .u8 99,.int .u8 116,.int .u8 58,.int .u8 32,.int .u8 49,.int .u8 48,.int .u8 48,.int .u8 45,.int .u8 99,.int .u8 111,.int .u8 110,.int .u8 116,.int .u8 105,.int .u8 110,.int .u8 117,.int .u8 101,.int .u8 13,.int .u8 10] 5 (48,49))).heap.size=w4.heap.size+1:=by simp
  have e2:((w4.alloc (.cells #[.int .u8 80,.int .u8 79,.int .u8 83,.int .u8 84,.int .u8 32,.int .u8 47,.int .u8 32,.int .u8 72,.int .u8 84,.int .u8 84,.int .u8 80,.int .u8 47,.int .u8 49,.int .u8 46,.int .u8 49,.int .u8 13,.int .u8 10,.int .u8 72,.int .u8 111,.int .u8 115,.int .u8 116,.int .u8 58,.int .u8 32,.int .u8 104,.int .u8 13,.int .u8 10,.int .u8 69,.int .u8 120,.int .u8 112,.int .u8 101,.int .u8 99,.int .u8 116,.int .u8 58,.int .u8 32,.int .u8 49,.int .u8 48,.int .u8 48,.int .u8 45,.int .u8 99,.int .u8 111,.int .u8 110,.int .u8 116,.int .u8 105,.int .u8 110,.int .u8 117,.int .u8 101,.int .u8 13,.int .u8 10] 5 (48,49))).alloc (.cells #[.int .u8 67,.int .u8 111,.int .u8 110,.int .u8 116,.int .u8 101,.int .u8 110,.int .u8 116,.int .u8 45,.int .u8 76,.int .u8 101,.int .u8 110,.int .u8 103,.int .u8 116,.int .u8 104,.int .u8 58,.int .u8 32,.int .u8 50,.int .u8 13,.int .u8 10,.int .u8 13,.int .u8 10] 5 (21,22))).heap.size=w4.heap.size+2:=by simp
  rw [e1] at h2;have h3:=Parts.two (c:=48) (c':=21) (h1.alloc (.cells #[.int .u8 67,.int .u8 111,.int .u8 110,.int .u8 116,.int .u8 101,.int .u8 110,.int .u8 116,.int .u8 45,.int .u8 76,.int .u8 101,.int .u8 110,.int .u8 103,.int .u8 116,.int .u8 104,.int .u8 58,.int .u8 32,.int .u8 50,.int .u8 13,.int .u8 10,.int .u8 13,.int .u8 10] 5 (21,22))) h2 (in_alloc hin1 _) 22;rw [e2] at h3;exact h3
 obtain ⟨W7,hW7⟩:∃W7,((w4.alloc (.cells #[.int .u8 80,.int .u8 79,.int .u8 83,.int .u8 84,.int .u8 32,.int .u8 47,.int .u8 32,.int .u8 72,.int .u8 84,.int .u8 84,.int .u8 80,.int .u8 47,.int .u8 49,.int .u8 46,.int .u8 49,.int .u8 13,.int .u8 10,.int .u8 72,.int .u8 111,.int .u8 115,.int .u8 116,.int .u8 58,.int .u8 32,.int .u8 104,.int .u8 13,.int .u8 10,.int .u8 69,.int .u8 120,.int .u8 112,.int .u8 101,.int .u8 99,.int .u8 116,.int .u8 58,.int .u8 32,.int .u8 49,.int .u8 48,.int .u8 48,.int .u8 45,.int .u8 99,.int .u8 111,.int .u8 110,.int .u8 116,.int .u8 105,.int .u8 110,.int .u8 117,.int .u8 101,.int .u8 13,.int .u8 10] 5 (48,49))).alloc (.cells #[.int .u8 67,.int .u8 111,.int .u8 110,.int .u8 116,.int .u8 101,.int .u8 110,.int .u8 116,.int .u8 45,.int .u8 76,.int .u8 101,.int .u8 110,.int .u8 103,.int .u8 116,.int .u8 104,.int .u8 58,.int .u8 32,.int .u8 50,.int .u8 13,.int .u8 10,.int .u8 13,.int .u8 10] 5 (21,22))).alloc (.cells #[.slice (some ⟨w4.heap.size,0,none⟩) 48 48,.slice (some ⟨w4.heap.size+1,0,none⟩) 21 21] 22)=W7:=⟨_,rfl⟩;have hb7:Below w4.heap.size w4 W7:=by
  rw [←hW7]
  exact ((((Am w4.heap.size w4).alloc (CQ _) (.cells #[.int .u8 80,.int .u8 79,.int .u8 83,.int .u8 84,.int .u8 32,.int .u8 47,.int .u8 32,.int .u8 72,.int .u8 84,.int .u8 84,.int .u8 80,.int .u8 47,.int .u8 49,.int .u8 46,.int .u8 49,.int .u8 13,.int .u8 10,.int .u8 72,.int .u8 111,.int .u8 115,.int .u8 116,.int .u8 58,.int .u8 32,.int .u8 104,.int .u8 13,.int .u8 10,.int .u8 69,.int .u8 120,.int .u8 112,.int .u8 101,.int .u8 99,.int .u8 116,.int .u8 58,.int .u8 32,.int .u8 49,.int .u8 48,.int .u8 48,.int .u8 45,.int .u8 99,.int .u8 111,.int .u8 110,.int .u8 116,.int .u8 105,.int .u8 110,.int .u8 117,.int .u8 101,.int .u8 13,.int .u8 10] 5 (48,49))).alloc (by simp) (.cells #[.int .u8 67,.int .u8 111,.int .u8 110,.int .u8 116,.int .u8 101,.int .u8 110,.int .u8 116,.int .u8 45,.int .u8 76,.int .u8 101,.int .u8 110,.int .u8 103,.int .u8 116,.int .u8 104,.int .u8 58,.int .u8 32,.int .u8 50,.int .u8 13,.int .u8 10,.int .u8 13,.int .u8 10] 5 (21,22))).alloc (by simp;omega) (.cells #[.slice (some ⟨w4.heap.size,0,none⟩) 48 48,.slice (some ⟨w4.heap.size+1,0,none⟩) 21 21] 22))
 rw [hW7] at hP
 have hf:=feed_said (by decide) (HA4.out.below hb7) (Q.new_ok 0 usual) (by unfold Q.new;split<;>rfl) (some ⟨w4.heap.size+2,0,none⟩) 2 [[80,79,83,84,32,47,32,72,84,84,80,47,49,46,49,13,10,72,111,115,116,58,32,104,13,10,69,120,112,101,99,116,58,32,49,48,48,45,99,111,110,116,105,110,117,101,13,10],[67,111,110,116,101,110,116,45,76,101,110,103,116,104,58,32,50,13,10,13,10]] hP (by decide) (by decide);rw [show ([[80,79,83,84,32,47,32,72,84,84,80,47,49,46,49,13,10,72,111,115,116,58,32,104,13,10,69,120,112,101,99,116,58,32,49,48,48,45,99,111,110,116,105,110,117,101,13,10],[67,111,110,116,101,110,116,45,76,101,110,103,116,104,58,32,50,13,10,13,10]]:List (List UInt8)).flatten= [80,79,83,84,32,47,32,72,84,84,80,47,49,46,49,13,10,72,111,115,116,58,32,104,13,10,69,120,112,101,99,116,58,32,49,48,48,45,99,111,110,116,105,110,117,101,13,10] ++ [67,111,110,116,101,110,116,45,76,101,110,103,116,104,58,32,50,13,10,13,10] from rfl] at hf;have k3:=k3_all;rw [show Q.feed 0 usual (Q.new 0 usual) ([80,79,83,84,32,47,32,72,84,84,80,47,49,46,49,13,10,72,111,115,116,58,32,104,13,10,69,120,112,101,99,116,58,32,49,48,48,45,99,111,110,116,105,110,117,101,13,10] ++ [67,111,110,116,101,110,116,45,76,101,110,103,116,104,58,32,50,13,10,13,10])=Q.read 0 usual ([80,79,83,84,32,47,32,72,84,84,80,47,49,46,49,13,10,72,111,115,116,58,32,104,13,10,69,120,112,101,99,116,58,32,49,48,48,45,99,111,110,116,105,110,117,101,13,10] ++ [67,111,110,116,101,110,116,45,76,101,110,103,116,104,58,32,50,13,10,13,10]) from rfl] at hf;obtain ⟨X,hX⟩:∃X,Q.read 0 usual ([80,79,83,84,32,47,32,72,84,84,80,47,49,46,49,13,10,72,111,115,116,58,32,104,13,10,69,120,112,101,99,116,58,32,49,48,48,45,99,111,110,116,105,110,117,101,13,10] ++ [67,111,110,116,101,110,116,45,76,101,110,103,116,104,58,32,50,13,10,13,10])=X:=⟨_,rfl⟩;rw [hX] at k3 hf
 have HF7:=Bo (show Calls EL 20 #[ptr g,.slice (some ⟨w4.heap.size+2,0,none⟩) 2 2] (((w4.alloc (.cells #[.int .u8 80,.int .u8 79,.int .u8 83,.int .u8 84,.int .u8 32,.int .u8 47,.int .u8 32,.int .u8 72,.int .u8 84,.int .u8 84,.int .u8 80,.int .u8 47,.int .u8 49,.int .u8 46,.int .u8 49,.int .u8 13,.int .u8 10,.int .u8 72,.int .u8 111,.int .u8 115,.int .u8 116,.int .u8 58,.int .u8 32,.int .u8 104,.int .u8 13,.int .u8 10,.int .u8 69,.int .u8 120,.int .u8 112,.int .u8 101,.int .u8 99,.int .u8 116,.int .u8 58,.int .u8 32,.int .u8 49,.int .u8 48,.int .u8 48,.int .u8 45,.int .u8 99,.int .u8 111,.int .u8 110,.int .u8 116,.int .u8 105,.int .u8 110,.int .u8 117,.int .u8 101,.int .u8 13,.int .u8 10] 5 (48,49))).alloc (.cells #[.int .u8 67,.int .u8 111,.int .u8 110,.int .u8 116,.int .u8 101,.int .u8 110,.int .u8 116,.int .u8 45,.int .u8 76,.int .u8 101,.int .u8 110,.int .u8 103,.int .u8 116,.int .u8 104,.int .u8 58,.int .u8 32,.int .u8 50,.int .u8 13,.int .u8 10,.int .u8 13,.int .u8 10] 5 (21,22))).alloc (.cells #[.slice (some ⟨w4.heap.size,0,none⟩) 48 48,.slice (some ⟨w4.heap.size+1,0,none⟩) 21 21] 22)) fun r w'=>∃o L',r=.returned o∧At w' ⟨w3.heap.size,[]⟩ g 0 usual L' X.told∧X.told.Ok usual∧X.told.out= []∧Said w' o X.out∧Step L4 L' W7 w' from by rw [hW7];exact hf);have HK3:=Bo k3;have HB7:=Bo hb7;clear hP hf hX k3 hb7 hW7;go_upto_region 8 with
  (go_at_call 20;with_reducible refine HF7.out.mono ?_;rintro r w5 ⟨o5,L5,rfl,hA5,hok5,ho5,hT5,hS5⟩
   have HA5:=Bo hA5;have HO5:=Bo hok5;have HE5:=Bo ho5
   have HL5:=Bo ((HL4.out.trans (HB7.out.mono HL4.out.size)).trans (hS5.keeps.below (CT HL4.out.size HB7.out.size) HA4.out.low));clear hA5 hok5 ho5 hT5 hS5)
 have hwt:=waits_any HA5.out HO5.out;rw [told_waits,HK3.out.1] at hwt;have HWT:=Bo hwt;clear hwt HF7 HB7 HL4 HA4 hc3 hc4w;have hhd:=fun (w6:World) (hb:Below w5.heap.size w5 w6)=>held_any (HA5.out.below hb) HO5.out;rw [told_held,HK3.out.2.1] at hhd
 have HHD:=Bo (show∀(w6:World),Below w5.heap.size w5 w6→Calls EL 26 #[ptr g] w6 fun r w'=>r=.returned (.int .i64 43)∧Below w6.heap.size w6 w' from hhd);clear hhd
 go_upto_region 9 with (first
  |(go_at_call 26;with_reducible refine (HHD.out _ HB6.out).mono ?_;rintro r w7 ⟨rfl,hb⟩
    have HB8:=Bo (Ak HB6.out hb);clear hb)
  |(go_at_call 24;with_reducible refine HWT.out.mono ?_;rintro r w6 ⟨rfl,hb⟩
    have HB6:=Bo hb;clear hb))
 clear HHD HWT HB6
 have HA7:=Bo (HA5.out.below HB8.out)
 have HL7:=Bo (HL5.out.trans (HB8.out.mono HL5.out.size));clear HA5 HL5 HB8;have hbA:Below w7.heap.size w7 (w7.alloc (.cells #[.int .u8 97,.int .u8 98] 5 (2,3))):=(Am _ _).alloc (CQ _) _;have hP5:=Parts.one (c:=2) (Bts.lit HA7.out.in [97,98] #[.int .u8 97,.int .u8 98] (by kernel_rfl) 5 (2,3)) (in_alloc HA7.out.in _) 22;have hs5:(w7.alloc (.cells #[.int .u8 97,.int .u8 98] 5 (2,3))).heap.size=w7.heap.size+1:=by simp
 rw [hs5] at hP5;have hb9:Below w7.heap.size w7 ((w7.alloc (.cells #[.int .u8 97,.int .u8 98] 5 (2,3))).alloc (.cells #[.slice (some ⟨w7.heap.size,0,none⟩) 2 2] 22)):=hbA.alloc (by simp) _
 have hf5:=feed_said (by decide) (HA7.out.below hb9) HO5.out HE5.out (some ⟨w7.heap.size+1,0,none⟩) 1 [[97,98]] hP5 (by decide) (by decide);rw [show ([[97,98]]:List (List UInt8)).flatten= [97,98] from rfl] at hf5;have k3:=HK3.out;obtain ⟨Y,hY⟩:∃Y,X.told.feed 0 usual [97,98]=Y:=⟨_,rfl⟩;rw [hY] at k3 hf5
 have HF9:=Bo (show Calls EL 20 #[ptr g,.slice (some ⟨w7.heap.size+1,0,none⟩) 1 1] ((w7.alloc (.cells #[.int .u8 97,.int .u8 98] 5 (2,3))).alloc (.cells #[.slice (some ⟨w7.heap.size,0,none⟩) 2 2] 22)) fun r w'=>∃o L',r=.returned o∧At w' ⟨w3.heap.size,[]⟩ g 0 usual L' Y.told∧Y.told.Ok usual∧Y.told.out= []∧Said w' o Y.out∧Step L5 L' ((w7.alloc (.cells #[.int .u8 97,.int .u8 98] 5 (2,3))).alloc (.cells #[.slice (some ⟨w7.heap.size,0,none⟩) 2 2] 22)) w' from hf5);have HY:=Bo k3;have HB9:=Bo hb9;clear hbA hP5 hs5 hb9 hf5 k3 hY HK3;obtain ⟨a1,c1,e1,hc1⟩:=HT3.out;obtain ⟨bk,rfl,hbk,hr1⟩:=hc1 Nat.zero_lt_one;have hr2:=hr1 0 Nat.zero_lt_one;have e1:o1=.slice (some ⟨bk,0,none⟩) 1 c1:=e1;subst e1
 have HR1:=Bo (show RecAt w3 bk 0 r1 from hr2);have HBK:=Bo hbk;clear hc1 hr1 hr2 hbk HT3
 go_wp2_with (first
  |(go_at_call 26;with_reducible refine HHE.out.mono ?_;rintro r w9 ⟨rfl,hb⟩;have HB10:=Bo hb;clear hb)
  |(go_at_call 23;with_reducible refine Cm HER.out ?_)
  |(go_at_call 28;with_reducible refine Cm HCL.out ?_)
  |(go_at_call 20;with_reducible refine HF9.out.mono ?_;rintro r w8 ⟨o8,L8,rfl,hA8,hok8,ho8,hT8,hS8⟩
    have hl8:=(HL7.out.trans (HB9.out.mono HL7.out.size)).trans (hS8.keeps.below (CT HL7.out.size HB9.out.size) HA7.out.low);have HL8:=Bo hl8;obtain ⟨fa,fc,ba,bc,ta,tc,f1,f2,f3,d0,d1,d2,d3,d4,d5,d6⟩:=HR1.out.below HBK.out hl8;have hcl:=cleanq_any hA8;have her:=errq_any hA8;have hhe:=held_any hA8 hok8;rw [told_clean,HY.out.2.2.2.2.1] at hcl;rw [told_err,HY.out.2.2.2.2.2.1] at her;rw [told_held,HY.out.2.2.2.2.2.2] at hhe;have HCL:=Bo hcl
    have HER:=Bo (show Calls EL 23 #[ptr g] w8 fun r w'=>r=.returned (.int .i64 0)∧w'=w8 from her)
    have HHE:=Bo (show Calls EL 26 #[ptr g] w8 fun r w'=>r=.returned (.int .i64 0)∧Below w8.heap.size w8 w' from hhe);obtain ⟨a8,c8,e8, -⟩:=hT8;rw [HY.out.2.2.2.1] at e8;subst e8;rw [HBD.out] at f2 d5;rw [HTS.out] at d6;rw [HCH.out] at d4;have hcs:(convert 22 9 (.slice ba 3 bc)).run EL w8=.ok (.string ⟨#[97,98,99]⟩) w8:=Txt.conv_str w8 ba 3 bc _ f2;clear hcl her hhe hA8 hok8 ho8 hS8 f1 f2 f3 d0 d1 d2 d3 hl8))
 go_ret;exact ⟨rfl,((HB3.out.trans (HL8.out.mono HB3.out.size)).trans (HB10.out.mono (CT HB3.out.size HL8.out.size)))⟩
end code
end Go.Proofs.YtnabkcglnbdfeaaGreatDoor.Pg
namespace Go.Proofs.YtnabkcglnbdfeaaGreatDoor.Txt
open Go.RowKit Base Oct
theorem stands_isIn (set:ByteArray) (x:UInt8):stands set.data.toList (x.toNat:Int)=isIn set x:=by
 unfold stands isIn;rw [Ar,List.any_eq_true,List.contains_iff_exists_mem_beq];constructor
 ·rintro ⟨b,hb,e⟩;exact ⟨b,hb,by rw [beq_iff_eq] at e ⊢;exact (FD.1 (by omega)).symm⟩
 ·rintro ⟨b,hb,e⟩;rw [beq_iff_eq] at e;subst e;exact ⟨x,hb,by simp⟩
def Bytes (w:World) (g:Nat) (l:List UInt8):Prop:=∀j (h:j<l.length),w.cell? ⟨g,j,none⟩=some (.int .u8 (l[j].toNat:Int))∧w.frozen? ⟨g,j,none⟩=false
theorem Bytes.set {w:World} {g:Nat} {l:List UInt8} (h:Bytes w g l) (k:Nat) (b:UInt8):Bytes (w.setCell ⟨g,k,none⟩ (.int .u8 (b.toNat:Int))) g (l.set k b):=by
 intro j hj;rw [List.length_set] at hj;obtain ⟨c,z⟩:=h j hj;refine ⟨?_,by rw [World.frozen?_setCell];exact z⟩;by_cases e:k=j
 ·subst e;rw [World.cell?_setCell_same _ _ _ c,List.getElem_set_self]
 ·rw [World.cell?_setCell_other _ _ _ _ (by simp<;>omega),List.getElem_set_ne e];exact c
theorem conv_bytes (s:ByteArray) (w:World):∃W cap,(convert 9 22 (.string s)).run EL w=.ok (.slice (some ⟨w.heap.size,0,none⟩) s.size cap) W∧Bytes W w.heap.size s.data.toList∧w.heap.size<W.heap.size∧Below w.heap.size w W:=by exact XXLUf
theorem mix_put (l:List UInt8) (k:Nat) (h:k<l.length):(mix l k).set k (lowB l[k])=mix l (k+1):=by
 unfold mix low;rw [List.set_append_right _ _ (by simp;omega),CE h,BH h];have:k-(List.map lowB (List.take k l)).length=0:=by simp;omega
 rw [this,CA,List.map_append,List.append_assoc];rfl
theorem mix_get (l:List UInt8) (k:Nat) (h:k<l.length):(mix l k)[k]'(by rw [mix_length];exact h)=l[k]:=by
 unfold mix low;rw [List.getElem_append_right (by simp;omega)];have:k-(List.map lowB (List.take k l)).length=0:=by simp;omega
 simp only [this,List.getElem_drop,Nat.add_zero]
theorem mix_skip (l:List UInt8) (k:Nat) (h:k<l.length) (e:lowB l[k]=l[k]):mix l k=mix l (k+1):=by rw [←mix_put l k h,e,←mix_get l k h,List.set_getElem_self]
def tbytes:Value→Nat
 | .string t=>t.size
 | _=>0
section code
set_option maxHeartbeats 1000000
attribute [local go_sem] Al
theorem XXoMT {P:Prop} (h:P:=by
 generalize (s.data.toList[k].toNat:Int)=x at *;go_wp2;go_roundw
 case rel=>exact ⟨k+1,by omega,by go_num,HS,hbr⟩
 case measure=>simp [intOf];omega):P:=h
theorem rlower_any (s:ByteArray) (w:World) (hs:s.size≤1099511627776):Calls EL 179 #[.string s] w fun e w'=>e=.returned (.string (lower s))∧Below w.heap.size w w':=by
 obtain ⟨W,cap,hcv,hB,hg,hb⟩:=conv_bytes s w
 have hB0:=Bo (show Bytes W w.heap.size (mix s.data.toList 0) by rw [mix_zero];exact hB);have hb0:=Bo hb;clear hB hb;go_enter Tryz.func179,Tryz.ntmps179;go_wp2;clear hcv;generalize hgw:w.heap.size=g at *;have HG:=Bo hgw;clear hgw
 go_loopw [4] (fun i wr=>∃k:Nat,k≤s.size∧i=.int .i64 k∧Hid (Bytes wr g (mix s.data.toList k))∧Hid (Below g w wr)) (fun i _=>s.size-(intOf i).toNat)
 case atStart=>exact ⟨0,CY _,rfl,hB0,hb0⟩
 case round=>
  obtain ⟨k,hk,rfl,hB,hbr⟩:=hrel;rcases CW k s.size with hlt | hge
  ·have hll:k<s.data.toList.length:=by rw [len];exact hlt
   obtain ⟨hc,hz⟩:=hB.out k (by rw [mix_length];exact hll);rw [mix_get _ _ hll] at hc;have i1:(k:Int)<(s.size:Int):=by omega
   have hb0:0≤(s.data.toList[k].toNat:Int):=by omega
   have hb1:=byte_lt s.data.toList[k];by_cases hx:65≤s.data.toList[k].toNat∧s.data.toList[k].toNat≤90
   ·obtain ⟨x0,x1⟩:=hx;have e0:=lowB_toNat s.data.toList[k];have e1:lowN (s.data.toList[k].toNat:Int)=(s.data.toList[k].toNat:Int)+32:=by unfold lowN;rw [if_pos (by omega)]
    have hset:=(hB.out.set k (lowB s.data.toList[k]));rw [mix_put _ _ hll,e0,e1] at hset;have HS:=Bo hset;have y0:(65:Int)≤(s.data.toList[k].toNat:Int):=by omega
    have y1:(s.data.toList[k].toNat:Int)≤90:=by omega
    clear e0 e1 hset x0 x1;generalize (s.data.toList[k].toNat:Int)=x at *;have e2:IntKind.u8.wrap (x+32)=x+32:=by rw [IntKind.wrap_u8];omega
    go_wp2;go_roundw
    case rel=>exact ⟨k+1,by omega,by go_num,HS,Bo (hbr.out.setCell (CQ _) _)⟩
    case measure=>simp [intOf];omega
   ·have e0:lowB s.data.toList[k]=s.data.toList[k]:=by unfold lowB;rw [if_neg hx]
    have hB2:=hB.out;rw [mix_skip _ _ hll e0] at hB2;have HS:=Bo hB2;clear hB2 e0;rcases CW s.data.toList[k].toNat 65 with h | h
    ·have y0:¬(65:Int)≤(s.data.toList[k].toNat:Int):=by omega
     exact XXoMT
    ·have y0:(65:Int)≤(s.data.toList[k].toNat:Int):=by omega
     have y1:¬(s.data.toList[k].toNat:Int)≤90:=by omega
     exact XXoMT
  ·obtain rfl:k=s.size:=by omega
   have hconv:=run_convert_bytes_back (P:=EL) wr 22 9 5 ⟨g,0,none⟩ cap (low s.data.toList) Fm Fx Fz (fun j hj=>by
    have h1:=(hB.out j (by rw [mix_length];simpa [low] using hj)).1;have e:(⟨g,0,none⟩:Addr).add j=⟨g,j,none⟩:=by unfold Addr.add;by_cases h:j=0<;>simp [h]
    rw [e,h1]
    congr 4
    simp only [mix_all s.data.toList s.size (by rw [len];exact CQ _)])
   have hl:(low s.data.toList).length=s.size:=by rw [low,Cn,len]
   rw [hl] at hconv;go_wp2;go_ret;exact ⟨rfl,by rw [HG.out];exact hbr.out⟩
theorem rsame_any (a b:ByteArray) (w:World) (ha:a.size≤1099511627776) (hb:b.size≤1099511627776):Calls EL 151 #[.string a,.string b] w fun e w'=>e=.returned (.bool (same a b))∧Below w.heap.size w w':=by
 have h1:=Bo (fun w=>rlower_any a w ha)
 have h2:=Bo (fun w=>rlower_any b w hb);have hr:((lower a).toList==(lower b).toList)=same a b:=by rw [Bv,Bv];rfl
 generalize lower a=x at *;generalize lower b=y at *;go_enter Tryz.func151,Tryz.ntmps151
 go_wp2_with (first
  |(go_at_call 179;with_reducible refine (h1.out _).mono ?_;rintro e w1 ⟨rfl,hb1⟩)
  |(go_at_call 179;with_reducible refine (h2.out _).mono ?_;rintro e w2 ⟨rfl,hb2⟩))
 go_ret;exact ⟨by rw [←hr];rfl,Ak hb1 hb2⟩
theorem first_of (t:ByteArray) (h:0<t.size):t.data.toList=t[0]::t.data.toList.drop 1∧(t.extract 1 t.size).data.toList=t.data.toList.drop 1∧t.toList.isEmpty=false:=by
 have hl:0<t.data.toList.length:=by rw [len];exact h
 have e:t.data.toList=t[0]::t.data.toList.drop 1:=by
  conv=>lhs;rw [←List.drop_zero (l:=t.data.toList),BH hl]
  rfl
 refine ⟨e,?_,?_⟩
 ·rw [Bl,CD (by rw [Cj,len];exact CQ _)]
 ·rw [Bv,e];rfl
theorem last_of (t:ByteArray) (h:0<t.size):t.data.toList=t.data.toList.take (t.size-1) ++ [t[t.size-1]]∧(t.extract 0 (t.size-1)).data.toList=t.data.toList.take (t.size-1)∧t.toList.isEmpty=false:=by
 have e:=take_snoc t (t.size-1) (by omega);rw [show t.size-1+1=t.size by omega,take_all t _ (CQ _)] at e;refine ⟨e,?_,?_⟩
 ·rw [Bl,List.drop_zero,Nat.sub_zero]
 ·rw [Bv];cases hl:t.data.toList with
  | nil=>exfalso;have h2:=len t;rw [hl,List.length_nil] at h2;omega
  | cons _ _=>rfl
theorem in_any (x:UInt8) (r:Bool) (set:ByteArray) (w:World) (ht:set.size≤maxLen) (hq:isIn set x=r):Calls EL 197 #[.int .u8 x.toNat,.string set] w fun e w'=>e=.returned (.bool r)∧w'=w:=by have:=Oct.stands_any (x.toNat:Int) set w ht;rw [stands_isIn,hq] at this;exact this
theorem rtrimOf_any (s set:ByteArray) (w:World) (ht:set.size≤maxLen) (hs:s.size≤maxLen):Calls EL 170 #[.string s,.string set] w fun e w'=>e=.returned (.string (trimOf s set))∧w'=w:=by
 unfold maxLen at hs;go_enter Tryz.func170,Tryz.ntmps170;go_wp2
 go_loop [0] (fun x=>∃t:ByteArray,x=.string t∧t.size≤s.size∧Hid (t.data.toList.dropWhile (isIn set)=s.data.toList.dropWhile (isIn set))) (fun x=>tbytes x)
 case atStart=>exact ⟨s,rfl,CQ _,Bo rfl⟩
 case round=>
  obtain ⟨t,rfl,hts,hdw⟩:=hrel;by_cases hgo:∃h:0<t.size,isIn set t[0]=true
  ·obtain ⟨h0,hq⟩:=hgo
   have HC:=Bo (in_any t[0] true set w ht hq);obtain ⟨e1,e2,e3⟩:=first_of t h0
   have HD:=Bo (show (t.extract 1 t.size).data.toList.dropWhile (isIn set)=s.data.toList.dropWhile (isIn set) by
    rw [←hdw.out,e2]
    conv=>rhs;rw [e1,List.dropWhile_cons,if_pos hq])
   have i0:t.toList.isEmpty=false:=e3;have i1:(1:Int)≤(t.size:Int):=by omega
   have i2:(t.size:Int)≤9223372036854775807:=by omega
   have hsz:(t.extract 1 t.size).size=t.size-1:=by rw [ByteArray.size_extract];omega
   clear e1 e2 e3 hq
   go_wp2_with (go_at_call 197;with_reducible refine HC.out.mono ?_;rintro e w' ⟨rfl,hw⟩;rw [hw];clear hw);go_round
   case rel=>exact ⟨_,rfl,by omega,HD⟩
   case measure=>simp [tbytes];omega
  ·have hst:t.data.toList.dropWhile (isIn set)=t.data.toList:=by
    rcases CO t.size with h0 | h0
    ·have:t.data.toList= []:=List.length_eq_zero_iff.1 (by rw [len];exact h0);rw [this];rfl
    ·obtain ⟨e1,_,_⟩:=first_of t h0;rw [e1];refine dropWhile_stop ?_;cases hq:isIn set t[0] with
     | false=>rfl
     | true=>exact absurd ⟨h0,hq⟩ hgo
   have hfin:=Bo (show trimL (isIn set) s.data.toList=(t.data.toList.reverse.dropWhile (isIn set)).reverse by unfold trimL;rw [←hdw.out,hst])
   have hlast:=Bo (show∀h:0<t.size,isIn set t[0]=false from fun h=>by
    cases hq:isIn set t[0] with
    | false=>rfl
    | true=>exact absurd ⟨h,hq⟩ hgo)
   clear hgo hst;rcases CO t.size with h0 | h0
   all_goals (first
    |(have i0:t.toList.isEmpty=false:=(first_of t h0).2.2
      have HC:=Bo (in_any t[0] false set w ht (hlast.out h0))
      (go_wp2_with (go_at_call 197;with_reducible refine HC.out.mono ?_;rintro e w' ⟨rfl,hw⟩;rw [hw];clear hw)))
    |(have i0:t.toList.isEmpty=true:=by
       rw [Bv,List.length_eq_zero_iff.1 (show t.data.toList.length=0 by rw [len];exact h0)];rfl
      go_wp2))
   all_goals
    clear i0
    go_loop [0] (fun x=>∃u:ByteArray,x=.string u∧u.size≤t.size∧Hid (u.data.toList.reverse.dropWhile (isIn set)=t.data.toList.reverse.dropWhile (isIn set))) (fun x=>tbytes x)
    case atStart=>exact ⟨t,rfl,CQ _,Bo rfl⟩
    case round=>
     obtain ⟨u,rfl,hus,hrv⟩:=hrel;rcases CO u.size with hu0 | hu0
     ·have e0:u.data.toList= []:=List.length_eq_zero_iff.1 (by rw [len];exact hu0);have i0:u.toList.isEmpty=true:=by rw [Bv,e0];rfl
      have HF:=Bo (show u=trimOf s set from ba_ext (by rw [trimOf,trimB_list,hfin.out,←hrv.out,e0];rfl))
      clear e0;go_wp2;go_ret;exact ⟨by rw [←HF.out];rfl,rfl⟩
     ·first
      |(exfalso;omega)
      |(
       obtain ⟨e1,e2,e3⟩:=last_of u hu0;have i0:u.toList.isEmpty=false:=e3;have i1:u.size-1<u.size:=by omega
       have i3:(u.size:Int)-1<(u.size:Int):=by omega
       have i4:0≤(u.size:Int)-1:=by omega
       have i5:IntKind.i64.wrap ((u.size:Int)-1)=(u.size:Int)-1:=wrap_in _ (by omega) (by omega);have i6:((u.size:Int)-1).toNat=u.size-1:=by omega
       have i7:(u.size:Int)-1≤(u.size:Int):=by omega
       cases hq:isIn set u[u.size-1] with
       | true=>
         have HC:=Bo (in_any u[u.size-1] true set w ht hq)
         have HD:=Bo (show (u.extract 0 (u.size-1)).data.toList.reverse.dropWhile (isIn set)=t.data.toList.reverse.dropWhile (isIn set) by
          rw [←hrv.out,e2]
          conv=>rhs;rw [e1,List.reverse_append,List.reverse_singleton,List.singleton_append,List.dropWhile_cons,if_pos hq])
         have hsz:(u.extract 0 (u.size-1)).size=u.size-1:=by rw [ByteArray.size_extract];omega
         clear e1 e2 e3 hq
         go_wp2_with (go_at_call 197;with_reducible refine HC.out.mono ?_;rintro e w' ⟨rfl,hw⟩;rw [hw];clear hw);go_round
         case rel=>exact ⟨_,rfl,by omega,HD⟩
         case measure=>simp [tbytes];omega
       | false=>
         have HC:=Bo (in_any u[u.size-1] false set w ht hq)
         have HF:=Bo (show u=trimOf s set from ba_ext (by rw [trimOf,trimB_list,hfin.out,←hrv.out,e1,List.reverse_append,List.reverse_singleton,List.singleton_append,dropWhile_stop hq];simp))
         clear e1 e2 e3 hq
         go_wp2_with (go_at_call 197;with_reducible refine HC.out.mono ?_;rintro e w' ⟨rfl,hw⟩;rw [hw];clear hw);go_ret;exact ⟨by rw [←HF.out];rfl,rfl⟩)
theorem rtrim_any (s:ByteArray) (w:World) (hs:s.size≤maxLen):Calls EL 129 #[.string s] w fun e w'=>e=.returned (.string (trim s))∧w'=w:=by
 have h:=Bo (rtrimOf_any s ⟨#[32,9]⟩ w (by decide) hs);have e:trimOf s ⟨#[32,9]⟩=trim s:=by
  unfold trimOf trim
  congr 1
  funext x
  simp only [isIn,blank,List.contains_cons,List.contains_nil,Bool.or_false]
 rw [e] at h;go_enter Tryz.func129,Tryz.ntmps129
 go_wp2_with (go_at_call 170;with_reducible refine h.out.mono ?_;rintro e w' ⟨rfl,rfl⟩);go_ret;exact ⟨rfl,rfl⟩
end code
end Go.Proofs.YtnabkcglnbdfeaaGreatDoor.Txt
namespace Go.Proofs.YtnabkcglnbdfeaaGreatDoor.Txt
open Go.RowKit Base Oct
def Part (c:UInt8) (l:List UInt8) (f k:Nat) (done:List (List UInt8)):Prop:=
 (k≤l.length∧f≤k∧parts c l=done++parts c (l.drop f)∧c∉(l.drop f).take (k-f))∨(k=l.length+1∧f=l.length+1∧parts c l=done)
theorem Part.start (c:UInt8) (l:List UInt8):Part c l 0 0 []:=.inl ⟨CY _,CQ _,rfl,by simp⟩
theorem Part.last {c:UInt8} {l:List UInt8} {f:Nat} {done:List (List UInt8)} (h:Part c l f l.length done):f≤l.length∧Part c l (l.length+1) (l.length+1) (done ++ [l.drop f]):=by
 rcases h with ⟨_,h1,h2,h3⟩ | ⟨h,_⟩
 ·refine ⟨h1,.inr ⟨rfl,rfl,?_⟩⟩;rw [CD (by rw [Cj];omega)] at h3;rw [h2,parts_none c _ h3]
 ·omega
theorem Part.hit {c:UInt8} {l:List UInt8} {f k:Nat} {done:List (List UInt8)} (h:Part c l f k done) (hk:k<l.length) (hc:l[k]=c):f≤k∧Part c l (k+1) (k+1) (done ++ [(l.drop f).take (k-f)]):=by
 rcases h with ⟨_,h1,h2,h3⟩ | ⟨h,_⟩
 ·refine ⟨h1,.inl ⟨by omega,CQ _,?_,by simp⟩⟩;have e:l.drop f=(l.drop f).take (k-f)++c::l.drop (k+1):=by
   conv=>lhs;rw [←List.take_append_drop (k-f) (l.drop f)]
   rw [List.drop_drop,show f+(k-f)=k by omega,BH hk,hc]
  rw [h2]
  conv=>lhs;rw [e]
  rw [parts_cut c _ _ h3,List.append_assoc];rfl
 ·omega
theorem Part.miss {c:UInt8} {l:List UInt8} {f k:Nat} {done:List (List UInt8)} (h:Part c l f k done) (hk:k<l.length) (hc:l[k]≠c):Part c l f (k+1) done:=by
 rcases h with ⟨_,h1,h2,h3⟩ | ⟨h,_⟩
 ·refine .inl ⟨by omega,by omega,h2,?_⟩;have hlt:k-f<(l.drop f).length:=by rw [Cj];omega
  rw [show k+1-f=(k-f)+1 by omega,CE hlt,List.mem_append,not_or];refine ⟨h3,?_⟩;rw [List.getElem_drop,C1];simp only [show f+(k-f)=k by omega];exact fun e=>hc e.symm
 ·omega
section code
set_option maxHeartbeats 1000000
attribute [local go_sem] Al
set_option maxRecDepth 10000 in
theorem rsplit_any (s:ByteArray) (c:UInt8) (w:World) (hs:s.size≤1000000000) :
 Calls EL 169 #[.string s,.int .u8 c.toNat] w fun e w'=>∃b m cp,e=.returned (.slice b m cp)∧m=(parts c s.data.toList).length∧Strs w' b m ((parts c s.data.toList).map ba)∧Below w.heap.size w w':=by
 obtain ⟨i0,hi,hz0,hz1,hz2⟩:=info_parts text_info;have G1:=Bo hi;have G2:=Bo hz0;have G3:=Bo hz1;have G4:=Bo hz2;clear hi hz0 hz1 hz2;obtain ⟨PS,hPS⟩:∃PS,parts c s.data.toList=PS:=⟨_,rfl⟩;rw [hPS];have HPS:=Bo hPS;clear hPS;go_enter Tryz.func169,Tryz.ntmps169;go_wp2
 go_loopw [5,6,7] (fun v fr i wr=>∃(k f:Nat) (done:List (List UInt8)),k≤s.size+1∧f≤s.size+1∧done.length≤k∧fr=.int .i64 f∧i=.int .i64 k∧Hid (Part c s.data.toList f k done)∧Hid (wr.ownsRow w.heap.size 9 1 v done.length ((done.map ba).map Value.string))∧Hid (Below w.heap.size w wr)) (fun _ _ i _=>s.size+1-(intOf i).toNat)
 case atStart=>exact ⟨0,0,[],by omega,by omega,CQ _,rfl,rfl,Bo (Part.start _ _),Bo ⟨rfl,.inl ⟨rfl,rfl⟩⟩,Bo (Am _ _)⟩
 case round=>
  obtain ⟨k,f,done,hk,hf,hdn,rfl,rfl,hpt,hown,hbr⟩:=hrel;rcases CW k s.size with hlt | hge
  ·have t0:(k:Int)≤(s.size:Int):=by omega
   have t1:((k:Int)==(s.size:Int))=false:=beq_eq_false_iff_ne.2 (by omega);have i1:(k:Int)<(s.size:Int):=by omega
   have hkl:k<s.data.toList.length:=by rw [len];exact hlt
   have e0:s[k]=s.data.toList[k]:=rfl;by_cases hc:s.data.toList[k]=c
   ·have t2:((s[k].toNat:Int)==(c.toNat:Int))=true:=by rw [e0,hc];exact beq_self_eq_true _
    obtain ⟨hfk,hP⟩:=hpt.out.hit hkl hc;have HP:=Bo hP
    have ex:s.extract f k=ba ((s.data.toList.drop f).take (k-f)):=ba_ext (by rw [Bl];rfl);have c1:(f:Int)≤(k:Int):=by omega
    have m1:IntKind.i64.wrap ((k:Int)+1)=((k+1:Nat):Int):=by rw [wrap_in _ (by omega) (by omega)];omega
    clear hP hpt hc e0;generalize (s.data.toList.drop f).take (k-f)=p at *;have HX:=Bo ex;clear ex
    go_wp2_with (at_builtin;refine wpList_append_own _ rfl _ _ 87 rfl w.heap.size 9 i0 (.string A6) 1 16 Tryz.underlying87 G1.out G2.out G3.out G4.out rfl (by decide) _ _ _ rfl (hown.out.alloc _) ⟨wr.heap.size,0,none⟩ 1 1 [.string (s.extract f k)] rfl rfl ?c1 ?c2 ?c3 ?c4 ?c5 ?_)
    case c1=>exact news_one wr _ _
    case c2=>intro u hu;obtain rfl:u=.string (s.extract f k):=by simpa using hu
             rfl
    case c3=>unfold maxLen;omega
    case c4=>omega
    case c5=>have:=hbr.out.size;simp;omega
    intro v' w' hown' hgr _
    have H2:Hid (w'.ownsRow w.heap.size 9 1 v' (done ++ [p]).length (((done ++ [p]).map ba).map Value.string)):=Bo (by rw [HX.out] at hown';simpa using hown')
    have H3:=Bo ((hbr.out.alloc hbr.out.size _).grown hgr (by have:=hbr.out.size;simp;omega) (own_base hown.out));clear hown' hgr hown hbr;go_wp2;go_roundw
    case rel=>exact ⟨k+1,k+1,done ++ [p],by omega,by omega,by rw [Ch,List.length_singleton];omega,by go_num,by go_num,HP,H2,H3⟩
    case measure=>simp [intOf];omega
   ·have t2:((s[k].toNat:Int)==(c.toNat:Int))=false:=beq_eq_false_iff_ne.2 fun e=>hc (FD.1 (by rw [e0] at e;omega))
    have HP:=Bo (hpt.out.miss hkl hc);clear hpt hc e0;go_wp2;go_roundw
    case rel=>exact ⟨k+1,f,done,by omega,hf,by omega,rfl,by go_num,HP,hown,hbr⟩
    case measure=>simp [intOf];omega
  ·rcases CW s.size k with hgt | hle
   ·obtain rfl:k=s.size+1:=by omega
    have t0:¬((s.size+1:Nat):Int)≤(s.size:Int):=by omega
    have hfin:done=PS:=by
     rcases hpt.out with ⟨h,_⟩ | ⟨_,_,h⟩
     ·rw [len] at h;omega
     ·rw [←h,HPS.out]
    subst hfin;obtain ⟨A,cp,rfl,hA⟩:=Strs.of_own hown.out;have HA:=Bo hA;clear hA hown hpt;go_wp2;go_ret;first | exact ⟨A,⟨cp,rfl⟩,HA.out,hbr.out⟩ | exact ⟨A,_,⟨cp,rfl⟩,rfl,HA.out,hbr.out⟩ | exact ⟨A,_,⟨cp,rfl⟩,HA.out,hbr.out⟩
   ·obtain rfl:k=s.size:=by omega
    have hpt':=hpt.out;rw [←len s] at hpt';obtain ⟨hfk,hP⟩:=hpt'.last;rw [len] at hfk hP;have HP:=Bo hP
    have ex:s.extract f s.size=ba (s.data.toList.drop f):=ba_ext (by rw [Bl,CD (by rw [Cj,len];omega)];rfl);have c1:(f:Int)≤(s.size:Int):=by omega
    have t0:(s.size:Int)≤(s.size:Int):=by omega
    have t1:((s.size:Int)==(s.size:Int))=true:=beq_self_eq_true _;have m1:IntKind.i64.wrap ((s.size:Int)+1)=((s.size+1:Nat):Int):=by rw [wrap_in _ (by omega) (by omega)];omega
    clear hP hpt hpt';generalize s.data.toList.drop f=p at *;have HX:=Bo ex;clear ex
    go_wp2_with (at_builtin;refine wpList_append_own _ rfl _ _ 87 rfl w.heap.size 9 i0 (.string A6) 1 16 Tryz.underlying87 G1.out G2.out G3.out G4.out rfl (by decide) _ _ _ rfl (hown.out.alloc _) ⟨wr.heap.size,0,none⟩ 1 1 [.string (s.extract f s.size)] rfl rfl ?c1 ?c2 ?c3 ?c4 ?c5 ?_)
    case c1=>exact news_one wr _ _
    case c2=>intro u hu;obtain rfl:u=.string (s.extract f s.size):=by simpa using hu
             rfl
    case c3=>unfold maxLen;omega
    case c4=>omega
    case c5=>have:=hbr.out.size;simp;omega
    intro v' w' hown' hgr _
    have H2:Hid (w'.ownsRow w.heap.size 9 1 v' (done ++ [p]).length (((done ++ [p]).map ba).map Value.string)):=Bo (by rw [HX.out] at hown';simpa using hown')
    have H3:=Bo ((hbr.out.alloc hbr.out.size _).grown hgr (by have:=hbr.out.size;simp;omega) (own_base hown.out));clear hown' hgr hown hbr;go_wp2;go_roundw
    case rel=>exact ⟨s.size+1,s.size+1,done ++ [p],by omega,by omega,by rw [Ch,List.length_singleton];omega,by go_num,by go_num,HP,H2,H3⟩
    case measure=>simp [intOf]
end code
end Go.Proofs.YtnabkcglnbdfeaaGreatDoor.Txt
