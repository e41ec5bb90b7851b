import Derived.Test.YtldhlecknfomjaaGreatDoorFnd
set_option linter.unusedSimpArgs false
open Array renaming getD_eq_getD_getElem?→Af
open Bool renaming and_eq_true→An,eq_iff_iff→Ar,false_and→As,or_eq_true→Ax
open ByteArray renaming empty→A6,size_append→A7
open Go.Act renaming put→Ab
open Go.Lib renaming extract_data→Bl,hid→Bo,toList_data→Bv
open Go.Proofs.Tryz renaming prog→EG,underlying23→Fh,underlying5→Fp,underlying9→Fs
open Go.Proofs.YtldhlecknfomjaaGreatDoor.Base renaming below_drewN→Aj,below_step→Ak,some_undef→Al
open Go.Proofs.YtldhlecknfomjaaGreatDoor.Each renaming fine→AJ,putg→AM,region_float→AP
open Go.Proofs.YtldhlecknfomjaaGreatDoor.Each.Goes renaming enter→AE
open Go.Proofs.YtldhlecknfomjaaGreatDoor.Each.Lasts renaming eq→AI
open Go.Proofs.YtldhlecknfomjaaGreatDoor.Ln renaming own_slice→CJ,row_frozen→CL
open Go.Proofs.YtldhlecknfomjaaGreatDoor.Mem.Keeps renaming set→Bf
open Go.Proofs.YtldhlecknfomjaaGreatDoor.Mem.Of renaming refl→De
open Go.Proofs.YtldhlecknfomjaaGreatDoor.Par.Step renaming of_below→D9,set→DB
open Go.Proofs.YtldhlecknfomjaaGreatDoor.Qk renaming has_any→Dp,has→Do
open Go.Proofs.YtldhlecknfomjaaGreatDoor.Rec renaming Bk→Dr,R→Dt,wraps→Dv
open Go.Proofs.YtldhlecknfomjaaGreatDoor.Rec.Bk renaming new→Ds
open Go.Proofs.YtldhlecknfomjaaGreatDoor.Tree renaming change→DM,done→DN,grow→DO,put1→DP,quiet→DR
open Go.RowKit.Below renaming refl→Am
open Go.World renaming ownsRow_nil→FD
open Go.World.ownsRow renaming lt→FC
open List renaming append_nil→B9,drop_eq_getElem_cons→BJ,eq_nil_of_length_eq_zero→BM,getElem?_cons_succ→BR,getElem?_cons_zero→BS,getElem?_eq_getElem→BT,getElem?_toArray→BZ,getElem_mem→Cb,length_append→Ci,length_drop→Ck,length_map→Co,length_take→Ct,mem_cons→Cx,mem_of_getElem?→Cz,mem_singleton→C2,not_mem_nil→C4,setIfInBounds_toArray→C8,set_cons_succ→CA,set_cons_zero→CB,take_of_length_le→CE,take_succ_eq_append_getElem→CF
open Nat renaming eq_zero_or_pos→CO,le_of_lt→CP,le_refl→CQ,le_succ→CS,le_trans→CT,lt_of_lt_of_le→CU,lt_or_ge→CV,zero_add→CW,zero_le→CX
open Option renaming getD_some→Dg,some→Di
open UInt8 renaming toNat_inj→F6
namespace Go.Proofs.YtldhlecknfomjaaGreatDoor.Pg
open Go.RowKit Base Txt Mem Par
def At (w:World) (B:Zone) (g:Nat) (p:Nat) (b:Bd) (L:List (Option Nat)):Q→Prop
 | .live s=>∃q v f bd t o,L=blks g q v f bd t o∧PR w B g q v f bd t o p b s
 | .dead e out=>∃o,L= [some g,o.ownBlock]∧Dead w B g e o out
theorem ba_list (l:List UInt8):(ba l).data.toList=l:=rfl
section
variable {w w':World} {B:Zone} {g q:Nat} {v f bd t o:Value} {p:Nat} {rd:Ln.M} {fs ts:List Fld} {body:List UInt8} {out:List Dt}
theorem _root_.Go.Proofs.YtldhlecknfomjaaGreatDoor.XXVqF {P:Prop} (h:P:=by
 rcases (by simpa using hm:j=q∨some j=v.ownBlock) with e | e
 ·exact h1 (h.lone i 1 j hj (by rw [e];rfl))
 ·exact h2 (h.lone i 2 j hj (by rw [e];rfl))):P:=h
theorem Own.reader (h:Own w B g q v f bd t o rd fs body ts out) {v':Value} {rd':Ln.M} (hk:Ln.Kept q v.ownBlock w w') (hm:Ln.Moved w v.ownBlock v'.ownBlock) (hr:Ln.Rd w' B q v' rd') :
 Own w' B g q v' f bd t o rd' fs body ts out∧Step (blks g q v f bd t o) (blks g q v' f bd t o) w w'∧Keeps [some q,v.ownBlock] w w':=by
 have hk2:Keeps [some q,v.ownBlock] w w':=Keeps.of_kept hk (by simp) fun k e=>by simp [e]
 have hn:∀i j,i≠1→i≠2→(blks g q v f bd t o)[i]?=some (some j)→some j∉ [some q,v.ownBlock]:=fun i j h1 h2 hj hm=>by exact XXVqF
 have e:blks g q v' f bd t o=(blks g q v f bd t o).set 2 v'.ownBlock:=rfl;have ho:v'.ownBlock=none∨(blks g q v f bd t o)[2]?=some v'.ownBlock∨∃k,v'.ownBlock=some k∧w.heap.size≤k:=by
  rcases hm with e | e | e
  ·exact .inr (.inl (by rw [e];rfl))
  ·exact .inl e
  ·exact .inr (.inr e)
 have hof:Of w (blks g q v f bd t o) (blks g q v' f bd t o):=by rw [e];exact Of.set 2 _ ho
 have hkL:Keeps (blks g q v f bd t o) w w':=hk2.mono fun k hk=>by
  rcases (by simpa using hk:k=q∨some k=v.ownBlock) with e | e
  ·simp [e]
  ·simp [e]
 obtain ⟨ps,h1,h2,h3⟩:=h.O
 refine ⟨⟨hr,hk2.own h.F fun j e=>hn 3 j (by decide) (by decide) (by rw [←e];rfl),hk2.own h.D fun j e=>hn 4 j (by decide) (by decide) (by rw [←e];rfl),hk2.own h.TR fun j e=>hn 5 j (by decide) (by decide) (by rw [←e];rfl),
  ⟨ps,h1,fun x hx=>⟨(h2 x hx).1,by
    have hx2:=(h2 x hx).2.keeps hkL
    exact ⟨hx2.reads,fun k hb=>⟨fun hm=>by
     rcases hof k hm with e | e
     ·exact (hx2.far k hb).1 e
     ·exact absurd ((h2 x hx).2.far k hb).2 (by omega),(hx2.far k hb).2⟩,hx2.off⟩⟩,hk2.own h3 fun j e=>hn 6 j (by decide) (by decide) (by rw [←e];rfl)⟩,?_,h.ge,CU h.lt hk2.size,h.zone.of hk2.size hof⟩,⟨hkL,hof⟩,hk2⟩
 rw [e];exact h.lone.set h.in 2 _ ho
theorem PR.reader {b:Bd} {s:T} (h:PR w B g q v f bd t o p b s) {v':Value} {rd':Ln.M} (hk:Ln.Kept q v.ownBlock w w') (hm:Ln.Moved w v.ownBlock v'.ownBlock) (hr:Ln.Rd w' B q v' rd') :
 PR w' B g q v' f bd t o p b {s with rd:=rd'}∧Step (blks g q v f bd t o) (blks g q v' f bd t o) w w':=by
 obtain ⟨h1,h2,h3⟩:=h.own.reader hk hm hr;refine ⟨⟨h3.row h.row fun hm=>?_,h1⟩,h2⟩;rcases (by simpa using hm:g=q∨some g=v.ownBlock) with e | e
 ·exact absurd (h.own.lone 0 1 g rfl (by rw [e];rfl)) (by decide)
 ·exact absurd (h.own.lone 0 2 g rfl (by rw [e];rfl)) (by decide)
end
section code
set_option maxHeartbeats 4000000
set_option maxRecDepth 20000
attribute [local go_sem] Al
variable {w:World} {B:Zone} {g q:Nat} {v f bd t o:Value} {p:Nat} {b:Bd} {s:T}
theorem reader_any (c:UInt8) (hm:s.rd.Ok) (h:PR w B g q v f bd t o p b s):Calls EG 194 #[ptr q,.int .u8 (c.toNat:Int)] w fun r w'=>
 ∃v1,r=.returned (.int .i64 (s.rd.clear.next c))∧PR w' B g q v1 f bd t o p b {s with rd:=s.rd.byte c}∧Step (blks g q v f bd t o) (blks g q v1 f bd t o) w w':=by
 refine (Ln.byte_any c s.rd hm w B q v h.own.R).mono ?_;rintro r w' ⟨v1,rfl,h1,h2,h3⟩;obtain ⟨h4,h5⟩:=h.reader h2 h3 h1;exact ⟨v1,rfl,h4,h5⟩
theorem XXWUf {P:Prop} (h:P:=by
 rw [e0]
 have HEN:=Bo (fun (w2:World) (v1:Value) (h2:PR w2 B g q v1 f bd t o p b {s with rd:=s.rd.byte c})=>endLine_any hp hb0 (ba ln) (by rw [size_ba];exact hln) h2 ok2 hout)
 have HLI:=Bo (fun (w2:World) (v1:Value) (h2:PR w2 B g q v1 f bd t o p b {s with rd:=s.rd.byte c})=>Ln.line_any h2.own.R.row h2.own.R.own);have HLN:=Bo hl;have HX:=Bo hx;have c25:=h.cs.c25;clear h hby ok2 hln hl hx e0 hhow ok;rcases CO e with he | he
 ·subst he;go_enter Tryz.func173,Tryz.ntmps173
  go_wp2_with (first
   |(go_at_call 172;with_reducible refine Cm (HFZ.out) ?_)
   |(go_at_call 195;with_reducible refine HEN2.out.mono ?_;rintro r w4 ⟨rfl,q1,v2,f1,bd1,t1,o1,hP,hS⟩
     have HP:=Bo hP;have HS:=Bo (HS2.out.trans hS);have HFZ:=Bo (fail_zero w4 g);clear hP hS)
   |(go_at_call 196;with_reducible refine Cm HLI2.out ?_)
   |(go_at_call 194;with_reducible refine HBY.out.mono ?_;rintro r w2 ⟨v1,rfl,h2,hS2⟩
     have d25:=h2.cs.c25;have HS2:=Bo hS2;have HEN2:=HEN.out w2 v1 h2;have HLI2:=HLI.out w2 v1 h2
     replace HEN2:=Bo (show Calls EG 195 #[ptr g,.string (Ln.ba ln)] w2 fun r w'=>r=.returned (.int .i64 0)∧∃q1 v2 f1 bd1 t1 o1,PR w' B g q1 v2 f1 bd1 t1 o1 p b t2∧Step (blks g q v1 f bd t o) (blks g q1 v2 f1 bd1 t1 o1) w2 w' from by rw [ba_list,HX.out] at HEN2;exact HEN2)
     rw [HLN.out] at HLI2
     replace HLI2:=Bo HLI2
     clear h2 hS2 c25))
  go_ret;exact ⟨rfl,_,⟨_,_,_,_,_,_,rfl,HP.out⟩,HS.out⟩
 ·have hne:e≠0:=by omega
  have e1:ends (e,t2)=.dead e t2.out:=by unfold ends;rw [if_neg hne]
  rw [e1];have HNE:=Bo hne;clear he hne e1;go_enter Tryz.func173,Tryz.ntmps173
  go_wp2_with (first
   |(go_at_call 172;with_reducible refine HFA.out.mono ?_;rintro r w5 ⟨rfl,hD,hS5⟩)
   |(go_at_call 195;with_reducible refine HEN2.out.mono ?_;rintro r w4 ⟨rfl,q1,v2,f1,bd1,t1,o1,hP,hS⟩
     have HS:=Bo (HS2.out.trans hS);have HFA:=Bo (fail_any hP e HNE.out _ rfl);clear hP hS)
   |(go_at_call 196;with_reducible refine Cm HLI2.out ?_)
   |(go_at_call 194;with_reducible refine HBY.out.mono ?_;rintro r w2 ⟨v1,rfl,h2,hS2⟩
     have d25:=h2.cs.c25;have HS2:=Bo hS2;have HEN2:=HEN.out w2 v1 h2;have HLI2:=HLI.out w2 v1 h2
     replace HEN2:=Bo (show Calls EG 195 #[ptr g,.string (Ln.ba ln)] w2 fun r w'=>r=.returned (.int .i64 (e:Int))∧∃q1 v2 f1 bd1 t1 o1,PR w' B g q1 v2 f1 bd1 t1 o1 p b t2∧Step (blks g q v1 f bd t o) (blks g q1 v2 f1 bd1 t1 o1) w2 w' from by rw [ba_list,HX.out] at HEN2;exact HEN2)
     rw [HLN.out] at HLI2
     replace HLI2:=Bo HLI2
     clear h2 hS2 c25))
  go_ret
  exact ⟨rfl,_,⟨_,rfl,hD⟩,HS.out.trans hS5⟩):P:=h
theorem inLine_any (hp:p<4294967296) (hb0:b.right=true) (c:UInt8) (h:PR w B g q v f bd t o p b s) (ok:s.Ok) (hout:s.out.length≤1000000000):Calls EG 173 #[ptr g,.int .u8 (c.toNat:Int)] w fun r w'=>
 r=.returned (.bool (s.inLine p b c).2)∧∃L1,At w' B g p b L1 (s.inLine p b c).1∧Step (blks g q v f bd t o) L1 w w':=by
 have hby:=reader_any c ok.rd h;rcases Ln.M.next_is s.rd.clear c with hhow | hhow | hhow | hhow | hhow
 ·have HBY:=Bo (show Calls EG 194 #[ptr q,.int .u8 (c.toNat:Int)] w fun r w'=>∃v1,r=.returned (.int .i64 0)∧PR w' B g q v1 f bd t o p b {s with rd:=s.rd.byte c}∧Step (blks g q v f bd t o) (blks g q v1 f bd t o) w w' from by rw [←hhow];exact hby);have e0:s.inLine p b c=(.live {s with rd:=s.rd.byte c},true):=by
   unfold T.inLine;dsimp only;rw [hhow,if_pos rfl]
  rw [e0];have c25:=h.cs.c25;clear h hby ok hout e0 hhow;go_enter Tryz.func173,Tryz.ntmps173;go_wp2_with
   (go_at_call 194;with_reducible refine HBY.out.mono ?_;rintro r w2 ⟨v1,rfl,h2,hS2⟩
    have HP:=Bo h2;have HS:=Bo hS2;clear h2 hS2 c25)
  go_ret;exact ⟨rfl,_,⟨_,_,_,_,_,_,rfl,HP.out⟩,HS.out⟩
 ·have HBY:=Bo (show Calls EG 194 #[ptr q,.int .u8 (c.toNat:Int)] w fun r w'=>∃v1,r=.returned (.int .i64 1)∧PR w' B g q v1 f bd t o p b {s with rd:=s.rd.byte c}∧Step (blks g q v f bd t o) (blks g q v1 f bd t o) w w' from by rw [←hhow];exact hby)
  have ok2:({s with rd:=s.rd.byte c}:T).Ok:=ok.byteR c (by rw [hhow];rfl);have hln:=line_len ok c;obtain ⟨ln,hl⟩:∃ln,(s.rd.byte c).line=ln:=⟨_,rfl⟩;rw [hl] at hln;obtain ⟨⟨e,t2⟩,hx⟩:∃x,T.line p b {s with rd:=s.rd.byte c} ln=x:=⟨_,rfl⟩;have e0:s.inLine p b c=(ends (e,t2),true):=by unfold T.inLine;dsimp only;rw [hhow,if_neg (by decide),if_neg (by decide),if_neg (by decide),hl,hx];rfl
  exact XXWUf
 ·have HBY:=Bo (show Calls EG 194 #[ptr q,.int .u8 (c.toNat:Int)] w fun r w'=>∃v1,r=.returned (.int .i64 2)∧PR w' B g q v1 f bd t o p b {s with rd:=s.rd.byte c}∧Step (blks g q v f bd t o) (blks g q v1 f bd t o) w w' from by rw [←hhow];exact hby)
  have ok2:({s with rd:=s.rd.byte c}:T).Ok:=ok.byteR c (by rw [hhow];rfl);have hln:=line_len ok c;obtain ⟨ln,hl⟩:∃ln,(s.rd.byte c).line=ln:=⟨_,rfl⟩;rw [hl] at hln;obtain ⟨⟨e,t2⟩,hx⟩:∃x,T.line p b {s with rd:=s.rd.byte c} ln=x:=⟨_,rfl⟩;have e0:s.inLine p b c=(ends (e,t2),false):=by unfold T.inLine;dsimp only;rw [hhow,if_neg (by decide),if_neg (by decide),if_neg (by decide),hl,hx];rfl
  exact XXWUf
 ·have HBY:=Bo (show Calls EG 194 #[ptr q,.int .u8 (c.toNat:Int)] w fun r w'=>∃v1,r=.returned (.int .i64 3)∧PR w' B g q v1 f bd t o p b {s with rd:=s.rd.byte c}∧Step (blks g q v f bd t o) (blks g q v1 f bd t o) w w' from by rw [←hhow];exact hby);have e0:s.inLine p b c=(.dead 400 s.out,true):=by
   unfold T.inLine;dsimp only;rw [hhow,if_neg (by decide),if_pos rfl]
  rw [e0];have c25:=h.cs.c25;clear h hby ok hout e0 hhow;go_enter Tryz.func173,Tryz.ntmps173
  go_wp2_with (first
   |(go_at_call 172;with_reducible refine HFA.out.mono ?_;rintro r w5 ⟨rfl,hD,hS5⟩)
   |(go_at_call 194;with_reducible refine HBY.out.mono ?_;rintro r w2 ⟨v1,rfl,h2,hS2⟩
     have HS2:=Bo hS2;have HFA:=Bo (fail_any h2 400 (by decide) 400 rfl);clear h2 hS2 c25))
  go_ret;exact ⟨rfl,_,⟨_,rfl,hD⟩,HS2.out.trans hS5⟩
 ·have HBY:=Bo (show Calls EG 194 #[ptr q,.int .u8 (c.toNat:Int)] w fun r w'=>∃v1,r=.returned (.int .i64 4)∧PR w' B g q v1 f bd t o p b {s with rd:=s.rd.byte c}∧Step (blks g q v f bd t o) (blks g q v1 f bd t o) w w' from by rw [←hhow];exact hby);have HH0:=fun w=>Dp p hp 29 w;have c25:=h.cs.c25;have e0:s.inLine p b c=(if (s.st==6&&Do p 29)=true then (.live (({s with rd:=s.rd.byte c}:T).enter p 4 b.x0),false) else (.dead (longE s.st) s.out,true)):=by
   unfold T.inLine;dsimp only;rw [hhow,if_neg (by decide),if_neg (by decide),if_pos rfl]
  rw [e0]
  have HEN:=Bo (fun (w2:World) (v1:Value) (h2:PR w2 B g q v1 f bd t o p b {s with rd:=s.rd.byte c})=>enter_any hp h2 4 4 rfl b.x0)
  have HTL:=Bo (fun (w2:World) (v1:Value) (h2:PR w2 B g q v1 f bd t o p b {s with rd:=s.rd.byte c})=>tooLong_any h2.cs.c24)
  have hlong:longE s.st≠0:=by unfold longE;split<;>first | decide |(split<;>decide)
  have HLE:=Bo hlong;clear h hby ok hout e0 hhow hlong;by_cases h6:s.st=6
  ·cases hh:Do p 29 with
   | true=>
     rw [hh] at HH0;have HH:=Bo HH0;have H6:=Bo h6;rw [h6,if_pos (by decide)];clear HH0 hh h6;go_enter Tryz.func173,Tryz.ntmps173
     go_wp2_with (first
      |(go_at_call 93;with_reducible refine HE2.out.mono ?_;rintro r w5 ⟨rfl,q1,hP,hS5⟩)
      |(go_at_call 109;with_reducible refine Cm (HH.out _) ?_)
      |(go_at_call 194;with_reducible refine HBY.out.mono ?_;rintro r w2 ⟨v1,rfl,h2,hS2⟩
        have HS2:=Bo hS2;have HE2:=Bo (HEN.out w2 v1 h2);have c24:w2.cell? ⟨g,24,none⟩=some (.int .i64 6):=by have:=h2.cs.c24;rw [show ({s with rd:=s.rd.byte c}:T).st=6 from H6.out] at this;exact this
        have c13:=h2.cs.c13;have c14:=h2.cs.c14;clear h2 hS2 c25))
     go_ret;exact ⟨rfl,_,⟨_,_,_,_,_,_,rfl,hP⟩,HS2.out.trans hS5⟩
   | false=>
     rw [hh] at HH0;have HH:=Bo HH0;have H6:=Bo h6;have e1:(s.st==6&&false)=false:=Bool.and_false _;rw [e1,if_neg (by decide)];clear HH0 hh h6 e1;go_enter Tryz.func173,Tryz.ntmps173
     go_wp2_with (first
      |(go_at_call 172;with_reducible refine HFA.out.mono ?_;rintro r w5 ⟨rfl,hD,hS5⟩)
      |(go_at_call 197;with_reducible refine Cm HT2.out ?_)
      |(go_at_call 109;with_reducible refine Cm (HH.out _) ?_)
      |(go_at_call 194;with_reducible refine HBY.out.mono ?_;rintro r w2 ⟨v1,rfl,h2,hS2⟩
        have HS2:=Bo hS2;have HT2:=Bo (HTL.out w2 v1 h2);have HFA:=Bo (fail_any h2 (longE s.st) HLE.out _ rfl);have c24:w2.cell? ⟨g,24,none⟩=some (.int .i64 6):=by have:=h2.cs.c24;rw [show ({s with rd:=s.rd.byte c}:T).st=6 from H6.out] at this;exact this
        have c13:=h2.cs.c13;clear h2 hS2 c25))
     go_ret;exact ⟨rfl,_,⟨_,rfl,hD⟩,HS2.out.trans hS5⟩
  ·have t6:((s.st:Int)==6)=false:=beq_eq_false_iff_ne.2 (by omega);have m6:¬(s.st:Int)=6:=by omega
   have m6n:¬s.st=6:=h6;rw [beq_eq_false_iff_ne.2 h6,As,if_neg (by decide)];clear HH0 h6;go_enter Tryz.func173,Tryz.ntmps173
   go_wp2_with (first
    |(go_at_call 172;with_reducible refine HFA.out.mono ?_;rintro r w5 ⟨rfl,hD,hS5⟩)
    |(go_at_call 197;with_reducible refine Cm HT2.out ?_)
    |(go_at_call 194;with_reducible refine HBY.out.mono ?_;rintro r w2 ⟨v1,rfl,h2,hS2⟩
      have HS2:=Bo hS2;have HT2:=Bo (HTL.out w2 v1 h2);have HFA:=Bo (fail_any h2 (longE s.st) HLE.out _ rfl);have c24:w2.cell? ⟨g,24,none⟩=some (.int .i64 (s.st:Int)):=h2.cs.c24;clear h2 hS2 c25))
   go_ret;exact ⟨rfl,_,⟨_,rfl,hD⟩,HS2.out.trans hS5⟩
theorem XXTKK {P:Prop} (h:P:=by
 rw [hst] at c24;go_enter Tryz.func138,Tryz.ntmps138;go_upto_region 10 with fail
 refine Each.region 8 [23,24,25,26,27,28,29,30]
  [eQ (.pointer (some ⟨g,0,none⟩)),
    eQ (.pointer (some ⟨g,0,none⟩)),
    eQ (.pointer (some ⟨g,1,none⟩)),
    eQ (.pointer (some ⟨g,0,none⟩)),
    eQ (.pointer (some ⟨g,0,none⟩)),
    eQ (.pointer (some ⟨g,14,none⟩)),
    eQ (.pointer (some ⟨g,16,none⟩)),
    eQ (.int .i64 b.x2)]
  (.act 8 (.quiet 9 .done)) (by kernel_rfl) (by kernel_rfl) (by kernel_rfl) (by kernel_rfl) (fun _ _ d _ _ h=>by cases d<;>exact h) (by rfl) (by rfl)
  (by repeat first | exact trivial | refine ⟨AI _,?_⟩) ?_ ?_
 ·refine ⟨?_,?_,?_,?_,?_,?_,?_,?_,trivial⟩
  all_goals (refine AJ rfl (fun ev w1 hR hb hh=>?_);have e0:=hR.old 0 rfl;simp only [Af,BZ,BR,BS,Dg] at e0;have q16:=(HQ.out.below hb).c 16 _ rfl;exact Each.std)
 intro g1 w2 hb hf;have z25:(g1 25=.pointer (some ⟨g,1,none⟩)):=hf.at 2;have z30:(g1 30=.int .i64 b.x2):=hf.at 7;clear hf;simp only [AM,Ab,C8,CB,CA];rw [z25,z30];simp only [DO,DP,BS,BR]
 have HS1:=Bo (D9 hb (L:=blks g q v f bd t o))
 have HFI:=Bo (count_any b.x2 (H.out.below hb) hsz);clear hb HQ;rw [HTR.out] at HFI
 refine DM (by rfl) (fun K hK=>?_)
 refine Each.oper_enter (g:=171) (args:=#[.pointer (some ⟨g,1,none⟩),.int .i64 b.x2]) (by go_simp) (HFI.out.mono ?_);rintro r w3 ⟨rfl,hP,hS⟩;refine ⟨_,rfl,?_⟩;refine hK _ _ trivial ?_;clear hK K;simp only [Ab,C8,CB,CA];refine DR (by rfl) (.bool false) (fun _ _=>by go_simp) ?_;simp only [Ab,C8,CB,CA];refine DN ?_
 have HP2:=Bo hP;have HS2:=Bo (HS1.out.trans hS);clear HFI HS1 hS
 have HI:=Bo (inLine_any hp hb0 c hP (ok.counted hb0 hov) (by rw [counted_out];exact hout));clear hP
 go_wp2_with (go_at_call 173;with_reducible refine HI.out.mono ?_;rintro r w4 ⟨rfl,L4,hA,hS4⟩);go_ret
 exact ⟨rfl,L4,hA,HS2.out.trans hS4⟩):P:=h
theorem XXOrQ {P:Prop} (h:P:=by
 rw [hst] at c24;go_enter Tryz.func138,Tryz.ntmps138;go_upto_region 10 with fail
 refine Each.region 8 [23,24,25,26,27,28,29,30]
  [eQ (.pointer (some ⟨g,0,none⟩)),
    eQ (.pointer (some ⟨g,0,none⟩)),
    eQ (.pointer (some ⟨g,1,none⟩)),
    eQ (.pointer (some ⟨g,0,none⟩)),
    eQ (.pointer (some ⟨g,0,none⟩)),
    eQ (.pointer (some ⟨g,14,none⟩)),
    eQ (.pointer (some ⟨g,16,none⟩)),
    eQ (.int .i64 b.x2)]
  (.act 8 (.quiet 9 .done)) (by kernel_rfl) (by kernel_rfl) (by kernel_rfl) (by kernel_rfl) (fun _ _ d _ _ h=>by cases d<;>exact h) (by rfl) (by rfl)
  (by repeat first | exact trivial | refine ⟨AI _,?_⟩) ?_ ?_
 ·refine ⟨?_,?_,?_,?_,?_,?_,?_,?_,trivial⟩
  all_goals (refine AJ rfl (fun ev w1 hR hb hh=>?_);have e0:=hR.old 0 rfl;simp only [Af,BZ,BR,BS,Dg] at e0;have q16:=(HQ.out.below hb).c 16 _ rfl;exact Each.std)
 intro g1 w2 hb hf;have z25:(g1 25=.pointer (some ⟨g,1,none⟩)):=hf.at 2;have z30:(g1 30=.int .i64 b.x2):=hf.at 7;clear hf;simp only [AM,Ab,C8,CB,CA];rw [z25,z30];simp only [DO,DP,BS,BR]
 have HS1:=Bo (D9 hb (L:=blks g q v f bd t o))
 have HFI:=Bo (count_any b.x2 (H.out.below hb) hsz);clear hb HQ;rw [HTR.out] at HFI
 refine DM (by rfl) (fun K hK=>?_)
 refine Each.oper_enter (g:=171) (args:=#[.pointer (some ⟨g,1,none⟩),.int .i64 b.x2]) (by go_simp) (HFI.out.mono ?_);rintro r w3 ⟨rfl,hP,hS⟩;refine ⟨_,rfl,?_⟩;refine hK _ _ trivial ?_;clear hK K;simp only [Ab,C8,CB,CA];refine DR (by rfl) (.bool true) (fun _ _=>by go_simp) ?_;simp only [Ab,C8,CB,CA];refine DN ?_
 have HP2:=Bo hP;have HS2:=Bo (HS1.out.trans hS);clear HFI HS1 hS
 have HF:=Bo (fail_any hP 431 (by decide) 431 rfl);clear hP
 go_wp2_with (go_at_call 172;with_reducible refine HF.out.mono ?_;rintro r w4 ⟨rfl,hD,hS4⟩);go_ret
 exact ⟨rfl,_,⟨_,rfl,by rw [counted_out] at hD;exact hD⟩,HS2.out.trans hS4⟩):P:=h
theorem XXs6B {P:Prop} (h:P:=by
 rw [hst] at c24;clear hst;go_enter Tryz.func138,Tryz.ntmps138
 go_wp2_with (first
  |(go_at_call 170;with_reducible refine HED.out.mono ?_;rintro r w5 ⟨rfl,q1,v1,f1,bd2,t1,o1,hP,hS5⟩)
  |(go_at_call 169;with_reducible refine HK.out.mono ?_;rintro r w4 ⟨rfl,bd1,h2,hS2⟩
    have HS2:=Bo hS2;have HED:=Bo (HK9.out w4 bd1 h2);clear h2 hS2))
 go_ret
 exact ⟨rfl,_,⟨_,_,_,_,_,_,rfl,hP⟩,HS2.out.trans hS5⟩):P:=h
theorem XXfow {P:Prop} (h:P:=by
 rw [hst] at c24;clear hst;go_enter Tryz.func138,Tryz.ntmps138
 go_wp2_with (go_at_call 169;with_reducible refine HK.out.mono ?_;rintro r w4 ⟨rfl,bd1,h2,hS2⟩);go_ret
 exact ⟨rfl,_,⟨_,_,_,_,_,_,rfl,h2⟩,hS2⟩):P:=h
theorem look_any (hp:p<4294967296) (hb0:b.right=true) (c:UInt8) (h:PR w B g q v f bd t o p b s) (ok:s.Ok) (hout:s.out.length≤1000000000):Calls EG 138 #[ptr g,.int .u8 (c.toNat:Int)] w fun r w'=>
 r=.returned (.bool (s.look p b c).2)∧∃L1,At w' B g p b L1 (s.look p b c).1∧Step (blks g q v f bd t o) L1 w w':=by
 have H:=Bo h;have c24:=h.cs.c24;by_cases hbd:bodied s.st=true
 ·have hl:=ok.left hbd;have hbl:=ok.body
  have HK0:=keep_any c h ⟨hl,by omega⟩ (by omega)
  have HK9:=Bo (fun (w2:World) (bd1:Value) (h2:PR w2 B g q v f bd1 t o p b (s.keep c))=>endData_any hp h2 hout);have hst:s.st=3∨s.st=5:=by unfold bodied at hbd;simpa using hbd
  unfold T.look;rw [if_pos hbd];clear h hb0 hbl hout ok hbd;by_cases h1:s.left=1
  ·rw [decide_eq_true h1] at HK0;have HK:=Bo HK0;rw [if_pos h1];clear HK0 h1 hl;rcases hst with hst | hst
   ·exact XXs6B
   ·exact XXs6B
  ·rw [decide_eq_false h1] at HK0;have HK:=Bo HK0;rw [if_neg h1];clear HK0 h1 hl;rcases hst with hst | hst
   ·exact XXfow
   ·exact XXfow
 ·have hbd:bodied s.st=false:=by simpa using hbd
  unfold T.look;rw [if_neg (by rw [hbd];decide)];have hn:¬s.st=3∧¬s.st=5:=by unfold bodied at hbd;simpa using hbd
  by_cases hhd:headed s.st=true
  ·rw [if_pos hhd];have hst:s.st=1∨s.st=2∨s.st=7:=by
    unfold headed at hhd;simp only [Ax,beq_iff_eq] at hhd;omega
   have hsz:s.size≤1000000:=CT ok.size (by decide)
   have HQ:=Bo ((h.drew 1).bk);clear hhd hn
   by_cases hov:b.x2<(s.counted.size:Int)
   ·rw [if_pos hov]
    have HTR:=Bo (show (!decide (b.x2<(s.counted.size:Int)))=false by rw [decide_eq_true hov];rfl);clear hov h hbd hout hb0 ok;rcases hst with hst | hst | hst
    ·exact XXOrQ
    ·exact XXOrQ
    ·exact XXOrQ
   ·rw [if_neg hov]
    have HTR:=Bo (show (!decide (b.x2<(s.counted.size:Int)))=true by rw [decide_eq_false hov];rfl);clear h hbd;rcases hst with hst | hst | hst
    ·exact XXTKK
    ·exact XXTKK
    ·exact XXTKK
  ·rw [if_neg hhd];have hn2:¬s.st=1∧¬s.st=2∧¬s.st=7:=by
    unfold headed at hhd;simp only [Ax,beq_iff_eq] at hhd;omega
   have t1:((s.st:Int)==1)=false:=beq_eq_false_iff_ne.2 (by omega);have m1:¬(s.st:Int)=1:=by omega
   have t2:((s.st:Int)==2)=false:=beq_eq_false_iff_ne.2 (by omega);have m2:¬(s.st:Int)=2:=by omega
   have t3:((s.st:Int)==3)=false:=beq_eq_false_iff_ne.2 (by omega);have m3:¬(s.st:Int)=3:=by omega
   have t5:((s.st:Int)==5)=false:=beq_eq_false_iff_ne.2 (by omega);have m5:¬(s.st:Int)=5:=by omega
   have t7:((s.st:Int)==7)=false:=beq_eq_false_iff_ne.2 (by omega);have m7:¬(s.st:Int)=7:=by omega
   have HI:=Bo (inLine_any hp hb0 c h ok hout);clear h hbd ok hout hb0 hhd hn hn2;go_enter Tryz.func138,Tryz.ntmps138
   go_wp2_with (go_at_call 173;with_reducible refine HI.out.mono ?_;rintro r w4 ⟨rfl,L4,hA,hS4⟩);go_ret;exact ⟨rfl,L4,hA,hS4⟩
end code
end Go.Proofs.YtldhlecknfomjaaGreatDoor.Pg
namespace Go.Proofs.YtldhlecknfomjaaGreatDoor.Pg
open Go.RowKit Base Txt Par
section
variable {p:Nat} {b:Bd} {t t':T}
theorem feed_cons (x:Q) (c:UInt8) (l:List UInt8):x.feed p b (c::l)=(x.byte p b c).feed p b l:=rfl
theorem feed_app (x:Q) (l l':List UInt8):x.feed p b (l++l')=(x.feed p b l).feed p b l':=List.foldl_append
theorem feed_dead (e:Nat) (o:List Dt) (l:List UInt8):(Q.dead e o).feed p b l=.dead e o:=by
 induction l with
 | nil=>rfl
 | cons c l ih=>rw [feed_cons];exact ih
def T.room (b:Bd) (t:T) (n:Nat):Prop:=headed t.st=true→((t.size+n:Nat):Int)≤b.x2
structure T.Open (t:T):Prop where
 st:bodied t.st=false
 pend:t.rd.pend=false
 nf:Ln.failed t.rd.last=false
def T.went (t:T) (rd:Ln.M) (n:Nat):T:={t with rd:=rd,size:=if headed t.st=true then t.size+n else t.size,cnt:=headed t.st}
end
end Go.Proofs.YtldhlecknfomjaaGreatDoor.Pg
namespace Go.Proofs.YtldhlecknfomjaaGreatDoor.Pg
open Go.RowKit Base Txt Mem Par
def Q.Ok (b:Bd):Q→Prop
 | .live t=>t.Ok∧b.right=true
 | .dead _ _=>True
section
variable {p:Nat} {b:Bd} {t t':T} {s:List UInt8}
theorem line_out (t:T) (s:List UInt8):(t.line p b s).2.out.length≤t.out.length+1:=by
 have hf:t.fin.out.length≤t.out.length+1:=by show (t.out ++ [t.r]).length≤_;simp
 unfold T.line T.first T.fields T.endHead T.chunk T.trail;split
 ·split
  ·exact CS _
  ·dsimp only;split<;>exact CS _
 ·split
  ·split
   ·dsimp only;split
    ·exact CS _
    ·split
     ·exact CS _
     ·split
      ·exact hf
      ·exact CS _
   ·exact CS _
  ·split
   ·dsimp only;split
    ·exact CS _
    ·split
     ·exact CS _
     ·split<;>exact CS _
   ·split
    ·split
     ·exact hf
     ·exact CS _
    ·exact CS _
theorem inLine_out (t:T) (c:UInt8):(t.inLine p b c).1.out.length≤t.out.length+1:=by
 unfold T.inLine;dsimp only;split
 ·exact CS _
 ·split
  ·exact CS _
  ·split
   ·split<;>exact CS _
   ·have h:=line_out (p:=p) (b:=b) {t with rd:=t.rd.byte c} (t.rd.byte c).line;unfold ends;split<;>exact h
theorem look_out (t:T) (c:UInt8):(t.look p b c).1.out.length≤t.out.length+1:=by
 unfold T.look;split
 ·split
  ·show (T.endData p (t.keep c)).out.length≤_;unfold T.endData;split
   ·exact CS _
   ·show (t.out ++ [_]).length≤_;simp
  ·exact CS _
 ·split
  ·split
   ·exact CS _
   ·have h:=inLine_out (p:=p) (b:=b) t.counted c;rw [counted_out] at h;exact h
  ·exact inLine_out t c
theorem take_out (t:T) (c:UInt8):(t.take p b c).out.length≤t.out.length+2:=by
 have h:=look_out (p:=p) (b:=b) {t with cnt:=false} c;have e:({t with cnt:=false}:T).out=t.out:=rfl;rw [e] at h;unfold T.take;rcases hx:({t with cnt:=false}:T).look p b c with ⟨t1 | ⟨e,o⟩,u⟩
 ·rw [hx] at h;have h:t1.out.length≤t.out.length+1:=h;cases u with
  | true=>show t1.out.length≤_;omega
  | false=>
    have h2:=look_out (p:=p) (b:=b) t1 c;show (t1.look p b c).1.out.length≤_;omega
 ·rw [hx] at h;have h:o.length≤t.out.length+1:=h
  cases u<;> (show o.length≤_;omega)
theorem Q.byte_out (x:Q) (c:UInt8):(x.byte p b c).out.length≤x.out.length+2:=by
 cases x with
 | live t=>exact take_out t c
 | dead e o=>show o.length≤o.length+2;omega
theorem Q.feed_out:∀(l:List UInt8) (x:Q),(x.feed p b l).out.length≤x.out.length+2*l.length
 | [],_=>CQ _
 | c::l,x=>by
   have h1:=Q.byte_out (p:=p) (b:=b) x c
   have h2:=Q.feed_out l (x.byte p b c);rw [feed_cons,List.length_cons];omega
theorem Q.Ok.byte {x:Q} (h:x.Ok b) (c:UInt8):(x.byte p b c).Ok b:=by
 cases x with
 | live t=>
   show (t.take p b c).Ok b;rcases hx:t.take p b c with t1 | ⟨e,o⟩
   ·exact ⟨T.Ok.take h.1 h.2 c hx,h.2⟩
   ·trivial
 | dead e o=>trivial
theorem Q.Ok.feed:∀(l:List UInt8) {x:Q},x.Ok b→(x.feed p b l).Ok b
 | [],_,h=>h
 | c::l,_,h=>Q.Ok.feed l (h.byte c)
end
structure Bts (L:List (Option Nat)) (w:World) (a:Option Addr) (l:List UInt8):Prop where
 nums:Nums .u8 w a l.length (l.map fun c=>(c.toNat:Int))
 far:∀ad,a=some ad→some ad.block∉L∧ad.block<w.heap.size
structure Parts (L:List (Option Nat)) (w:World) (a:Option Addr) (ls:List (List UInt8)):Prop where
 cells:0<ls.length→∃bk off,a=some ⟨bk,off,none⟩∧bk<w.heap.size∧some bk∉L∧∀k (hk:k<ls.length),∃ak ck,w.cell? ⟨bk,off+k,none⟩=some (.slice ak ls[k].length ck)∧Bts L w ak ls[k]
theorem Bts.step {L L':List (Option Nat)} {w w':World} {a:Option Addr} {l:List UInt8} (h:Bts L w a l) (hs:Step L L' w w'):Bts L' w' a l:=by
 refine ⟨nums_keeps h.nums hs.keeps (fun c=>?_),fun ad e=>⟨fun hm=>?_,CU (h.far ad e).2 hs.keeps.size⟩⟩
 ·cases ha:a with
  | none=>exact .inl rfl
  | some ad=>exact .inr ⟨ad.block,rfl,(h.far ad ha).1⟩
 ·rcases hs.of _ hm with h1 | h1
  ·exact (h.far ad e).1 h1
  ·have:=(h.far ad e).2;omega
theorem Parts.step {L L':List (Option Nat)} {w w':World} {a:Option Addr} {ls:List (List UInt8)} (h:Parts L w a ls) (hs:Step L L' w w'):Parts L' w' a ls:=by
 refine ⟨fun h0=>?_⟩;obtain ⟨bk,off,e,hlt,hn,hc⟩:=h.cells h0;refine ⟨bk,off,e,CU hlt hs.keeps.size,fun hm=>?_,fun k hk=>?_⟩
 ·rcases hs.of _ hm with h1 | h1
  ·exact hn h1
  ·omega
 ·obtain ⟨ak,ck,h1,h2⟩:=hc k hk;exact ⟨ak,ck,(hs.keeps.cell (p:=⟨bk,off+k,none⟩) hlt hn).trans h1,h2.step hs⟩
section code
set_option maxHeartbeats 4000000
set_option maxRecDepth 20000
attribute [local go_sem] Al
variable {w:World} {B:Zone} {g q:Nat} {v f bd t o:Value} {p:Nat} {b:Bd} {s:T}
theorem Dead.cell0 {e:Nat} {out:List Dt} (h:Dead w B g e o out):w.cell? ⟨g,0,none⟩=some (.int .i64 (e:Int)):=row_cellL h.row rfl
theorem Dead.put {e:Nat} {out:List Dt} (h:Dead w B g e o out) (k:Nat) (u:Value) (o':Value) (out':List Dt) (hc:(deadcells e o).set k u=deadcells e o') (hO:Outs [some g,o'.ownBlock] B (w.setCell ⟨g,k,none⟩ u) o' out') (hn:o'.ownBlock≠some g) (hz:o'.ownBlock=none∨o'.ownBlock=o.ownBlock):Dead (w.setCell ⟨g,k,none⟩ u) B g e o' out':=
 ⟨by rw [←hc];exact row_setL h.row k u,hO,hn,h.ge,by simpa using h.lt,h.bad,h.zone.of (by simp) fun k hk=>.inl (by
   rcases (by simpa using hk:k=g∨some k=o'.ownBlock) with e | e
   ·simp [e]
   ·rcases hz with z | z
    ·rw [z] at e;cases e
    ·rw [←z,←e];simp)⟩
theorem Dead.same {e:Nat} {out:List Dt} (h:Dead w B g e o out) (k:Nat) (u:Value) (hc:(deadcells e o).set k u=deadcells e o):Dead (w.setCell ⟨g,k,none⟩ u) B g e o out:=
 h.put k u o out hc (h.O.keeps (Bf g k u (C2.2 rfl)) (fun k hk=>by simp only [C2] at hk;simp [hk]) (fun k e hm=>h.ne (by rw [e,C2.1 hm]))) h.ne (.inr rfl)
theorem XXvDT {P:Prop} (h:P:=by
 clear htw hx hok2 hoo;go_enter Tryz.func96,Tryz.ntmps96;go_upto_region 1 with fail
 generalize w.setCell ⟨g,7,none⟩ (.bool false)=W1 at *;clear c7 z7
 have HF:=Bo (failed_live H1.out.cs.c0)
 have HL1:=Bo (HL.out _ H1.out);refine wp_loop_rounds 1 ?_;rw [rounds_succ]
 go_wp2_with (first
  |(go_at_call 138;with_reducible refine HL1.out.mono ?_;rintro r w2 ⟨rfl,L2,hA,hS2⟩)
  |(go_at_call 102;with_reducible refine Cm HF.out ?_))
 first | go_end0 | refine bodyPost_ret (results_none rfl _ _ _) rfl ?_
 exact ⟨rfl,_,hA,HS1.out.trans hS2⟩):P:=h
theorem take_any (hp:p<4294967296) (c:UInt8) (x:Q) {L:List (Option Nat)} (h:At w B g p b L x) (ok:x.Ok b) (hout:x.out.length≤999999998):Calls EG 96 #[ptr g,.int .u8 (c.toNat:Int)] w fun r w'=>
 r=.returned (.tuple #[])∧∃L',At w' B g p b L' (x.byte p b c)∧Step L L' w w':=by
 cases x with
 | dead e out=>
   obtain ⟨o,rfl,hd⟩:=h
   have H1:=Bo (hd.same 7 (.bool false) rfl)
   have HS1:=Bo (DB (w:=w) (L:= [some g,o.ownBlock]) g 7 (.bool false) (by simp));have HB:=Bo hd.bad;have c7:=row_cellL hd.row (k:=7) rfl;have z7:=CL hd.row 7;clear hd ok hout;go_enter Tryz.func96,Tryz.ntmps96;go_upto_region 1 with fail
   generalize w.setCell ⟨g,7,none⟩ (.bool false)=W1 at *;clear c7 z7
   have HF:=Bo (failed_dead H1.out.cell0 HB.out);refine wp_loop_rounds 1 ?_;rw [rounds_succ]
   go_wp2_with (go_at_call 102;with_reducible refine Cm HF.out ?_);first | go_end0 | refine bodyPost_ret (results_none rfl _ _ _) rfl ?_
   exact ⟨rfl,_,⟨_,rfl,H1.out⟩,HS1.out⟩
 | live s=>
   obtain ⟨q,v,f,bd,t,o,rfl,h⟩:=h
   have H1:=Bo (h.put 7 (.bool false) {s with cnt:=false} rfl rfl rfl rfl rfl rfl)
   have HS1:=Bo (DB (w:=w) (L:=blks g q v f bd t o) g 7 (.bool false) (by simp));have c7:=h.cs.c7;have z7:=h.marks 7;obtain ⟨ok,hb0⟩:s.Ok∧b.right=true:=ok;have hout:s.out.length≤999999998:=hout;have ok1:=ok.cleared;obtain ⟨S1,hS1⟩:∃S1:T,{s with cnt:=false}=S1:=⟨_,rfl⟩;have ho1:S1.out.length≤999999998:=by rw [←hS1];exact hout
   rw [hS1] at ok1 H1
   have e:Q.byte p b (.live s) c=(match S1.look p b c with
    |(.live t1,false)=>(t1.look p b c).1
    |(x,_)=>x):=by rw [←hS1];rfl
   have HL:=Bo (fun (w2:World) (h2:PR w2 B g q v f bd t o p b S1)=>look_any hp hb0 c h2 ok1 (by omega));have htw:=fun t'=>look_twice (p:=p) (t':=t') ok1 hb0 c;have hoo:=look_out (p:=p) (b:=b) S1 c;have hok2:=fun t' (h:(S1.look p b c).1=.live t')=>ok1.look hb0 c h;rw [e];clear h ok hout e hS1;rcases hx:S1.look p b c with ⟨t1 | ⟨e,out⟩,u⟩
   ·rw [hx] at HL hoo;cases u with
    | true=>
      show Calls _ _ _ _ fun r w'=>r=.returned (.tuple #[])∧∃L',At w' B g p b L' (.live t1)∧Step _ L' w w';exact XXvDT
    | false=>
      have hu:=htw t1 hx;show Calls _ _ _ _ fun r w'=>r=.returned (.tuple #[])∧∃L',At w' B g p b L' (t1.look p b c).1∧Step _ L' w w'
      have ok2:=hok2 t1 (by rw [hx]);have hoo:t1.out.length≤S1.out.length+1:=hoo
      have HL9:=fun (w2:World) (q v f bd t o) (h2:PR w2 B g q v f bd t o p b t1)=>look_any hp hb0 c h2 ok2 (by omega);rw [hu] at HL9;have HL2:=Bo HL9;clear htw hx hok2 hoo hu ok2 HL9;go_enter Tryz.func96,Tryz.ntmps96;go_upto_region 1 with fail
      generalize w.setCell ⟨g,7,none⟩ (.bool false)=W1 at *;clear c7 z7
      have HF:=Bo (failed_live H1.out.cs.c0)
      have HL1:=Bo (HL.out _ H1.out);refine wp_loop_rounds 2 ?_;rw [rounds_succ]
      go_wp2_with (first
       |(go_at_call 138;with_reducible refine HL1.out.mono ?_;rintro r w2 ⟨rfl,L2,hA,hS2⟩)
       |(go_at_call 102;with_reducible refine Cm HF.out ?_))
      obtain ⟨q2,v2,f2,bd2,t2,o2,rfl,h2⟩:=hA
      have HF2:=Bo (failed_live h2.cs.c0)
      have HL3:=Bo (HL2.out _ _ _ _ _ _ _ h2)
      have HS2:=Bo (HS1.out.trans hS2);clear h2 hS2 HF HL1 HL2 H1 HS1;rw [rounds_succ]
      go_wp2_with (first
       |(go_at_call 138;with_reducible refine HL3.out.mono ?_;rintro r w4 ⟨rfl,L4,hA4,hS4⟩)
       |(go_at_call 102;with_reducible refine Cm HF2.out ?_))
      first | go_end0 | refine bodyPost_ret (results_none rfl _ _ _) rfl ?_
      exact ⟨rfl,_,hA4,HS2.out.trans hS4⟩
   ·rw [hx] at HL hoo;cases u with
    | true=>
      show Calls _ _ _ _ fun r w'=>r=.returned (.tuple #[])∧∃L',At w' B g p b L' (.dead e out)∧Step _ L' w w';exact XXvDT
    | false=>
      show Calls _ _ _ _ fun r w'=>r=.returned (.tuple #[])∧∃L',At w' B g p b L' (.dead e out)∧Step _ L' w w';clear htw hx hok2 hoo;go_enter Tryz.func96,Tryz.ntmps96;go_upto_region 1 with fail
      generalize w.setCell ⟨g,7,none⟩ (.bool false)=W1 at *;clear c7 z7
      have HF:=Bo (failed_live H1.out.cs.c0)
      have HL1:=Bo (HL.out _ H1.out);refine wp_loop_rounds 2 ?_;rw [rounds_succ]
      go_wp2_with (first
       |(go_at_call 138;with_reducible refine HL1.out.mono ?_;rintro r w2 ⟨rfl,L2,hA,hS2⟩)
       |(go_at_call 102;with_reducible refine Cm HF.out ?_))
      obtain ⟨o2,rfl,h2⟩:=hA
      have HF2:=Bo (failed_dead h2.cell0 h2.bad);have HD2:=Bo h2
      have HS2:=Bo (HS1.out.trans hS2);clear h2 hS2 HF HL1 H1 HS1;rw [rounds_succ]
      go_wp2_with (go_at_call 102;with_reducible refine Cm HF2.out ?_);first | go_end0 | refine bodyPost_ret (results_none rfl _ _ _) rfl ?_
      exact ⟨rfl,_,⟨_,rfl,HD2.out⟩,HS2.out⟩
end code
end Go.Proofs.YtldhlecknfomjaaGreatDoor.Pg
namespace Go.Proofs.YtldhlecknfomjaaGreatDoor.Pg
open Go.RowKit Base Txt Mem Par
structure Told (L:List (Option Nat)) (B:Zone) (w:World) (o:Value) (out:List Dt):Prop where
 outs:Outs L B w o out
 far:∀k,o.ownBlock=some k→some k∉L∧k<w.heap.size
 off:∀k,o.ownBlock=some k→some k∉B.z
theorem Told.step {L L':List (Option Nat)} {B:Zone} {w w':World} {o:Value} {out:List Dt} (h:Told L B w o out) (hs:Step L L' w w'):Told L' B w' o out:=by
 obtain ⟨ps,h1,h2,h3⟩:=h.outs;refine ⟨⟨ps,h1,fun x hx=>⟨(h2 x hx).1,⟨((h2 x hx).2.keeps hs.keeps).reads,fun k hb=>⟨fun hm=>?_,CU ((h2 x hx).2.far k hb).2 hs.keeps.size⟩,(h2 x hx).2.off⟩⟩,hs.keeps.own h3 (fun k e=>(h.far k e).1)⟩,fun k e=>⟨fun hm=>?_,CU (h.far k e).2 hs.keeps.size⟩,h.off⟩
 ·rcases hs.of k hm with e | e
  ·exact ((h2 x hx).2.far k hb).1 e
  ·exact absurd ((h2 x hx).2.far k hb).2 (by omega)
 ·rcases hs.of k hm with h1 | h1
  ·exact (h.far k e).1 h1
  ·have:=(h.far k e).2;omega
section code
set_option maxHeartbeats 4000000
set_option maxRecDepth 20000
attribute [local go_sem] Al
variable {w:World} {B:Zone} {g q:Nat} {v f bd t o:Value} {p:Nat} {b:Bd} {s:T}
theorem Own.less {rd:Ln.M} {fs ts:List Fld} {body:List UInt8} {out:List Dt} (h:Own w B g q v f bd t o rd fs body ts out):Own w B g q v f bd t nil rd fs body ts []:=by
 have e:blks g q v f bd t nil=(blks g q v f bd t o).set 6 none:=rfl;refine ⟨h.R,h.F,h.D,h.TR,⟨[],rfl,(by intro x hx;cases hx),FD _ _ _ _⟩,?_,h.ge,h.lt,h.zone.of (CQ _) (by rw [e];exact Of.set 6 none (.inl rfl))⟩;rw [e]
 exact h.lone.set h.in 6 none (.inl rfl)
theorem At.below {L:List (Option Nat)} {w':World} {x:Q} (h:At w B g p b L x) (hb:Below w.heap.size w w'):At w' B g p b L x:=by
 cases x with
 | live s=>
   obtain ⟨q,v,f,bd,t,o,rfl,h⟩:=h;exact ⟨q,v,f,bd,t,o,rfl,h.below hb⟩
 | dead e out=>
   obtain ⟨o,rfl,h⟩:=h;refine ⟨o,rfl,(hb.block g h.lt).trans h.row,h.O.keeps (Keeps.of_below hb:Keeps [] w w') (by simp) (by simp),h.ne,h.ge,CU h.lt hb.size,h.bad,h.zone.of hb.size De⟩
theorem At.low {L:List (Option Nat)} {x:Q} (h:At w B g p b L x):∀k,some k∈L→B≤k:=by
 cases x with
 | live s=>
   obtain ⟨q,v,f,bd,t,o,rfl,h⟩:=h;exact h.own.low
 | dead e out=>
   obtain ⟨o,rfl,h⟩:=h;intro k hk;obtain ⟨ps, -, -,h3⟩:=h.O;rcases (by simpa using hk:k=g∨some k=o.ownBlock) with e | e
   ·rw [e];exact h.ge
   ·exact (FC h3 k e.symm).1
theorem At.in {L:List (Option Nat)} {x:Q} (h:At w B g p b L x):In w L:=by
 cases x with
 | live s=>
   obtain ⟨q,v,f,bd,t,o,rfl,h⟩:=h;exact h.own.in
 | dead e out=>
   obtain ⟨o,rfl,h⟩:=h;intro k hk;obtain ⟨ps, -, -,h3⟩:=h.O;rcases (by simpa using hk:k=g∨some k=o.ownBlock) with e | e
   ·rw [e];exact h.lt
   ·exact (FC h3 k e.symm).2
theorem _root_.Go.Proofs.YtldhlecknfomjaaGreatDoor.XXTkD {P:Prop} (h:P:=by
 obtain ⟨i,hi⟩:=List.getElem?_of_mem hm;have h6:(blks g q v f bd t o)[6]?=some (some k):=by rw [←e];rfl
 rcases i with _ | _ | _ | _ | _ | _ | _ | i
 ·exact h.own.lone.ne (i:=0) (j:=6) (k:=k) hi (by decide) h6
 ·exact h.own.lone.ne (i:=1) (j:=6) (k:=k) hi (by decide) h6
 ·exact h.own.lone.ne (i:=2) (j:=6) (k:=k) hi (by decide) h6
 ·exact h.own.lone.ne (i:=3) (j:=6) (k:=k) hi (by decide) h6
 ·exact h.own.lone.ne (i:=4) (j:=6) (k:=k) hi (by decide) h6
 ·exact h.own.lone.ne (i:=5) (j:=6) (k:=k) hi (by decide) h6
 ·cases hi
 ·cases hi):P:=h
theorem _root_.Go.Proofs.YtldhlecknfomjaaGreatDoor.XX5KD {P:Prop} (h:P:=by
 simp only [Cx,C4,or_false,Value.ownBlock,reduceCtorEq] at hk ⊢
 rcases hk with e | e | e | e | e | e<;>simp [e]):P:=h
theorem At.tell {L:List (Option Nat)} {x:Q} (h:At w B g p b L x):∃o L',w.cell? ⟨g,26,none⟩=some o∧w.frozen? ⟨g,26,none⟩=false∧At (w.setCell ⟨g,26,none⟩ nil) B g p b L' x.told∧Told L' B (w.setCell ⟨g,26,none⟩ nil) o x.out∧Step L L' w (w.setCell ⟨g,26,none⟩ nil):=by
 cases x with
 | live s=>
   obtain ⟨q,v,f,bd,t,o,rfl,h⟩:=h;have hg:(blks g q v f bd t o)[0]?=some (some g):=rfl
   have hne:o.ownBlock≠some g:=fun e=>h.own.lone.ne (i:=0) (j:=6) rfl (by decide) (by rw [←e];rfl);have hsub:∀k,some k∈blks g q v f bd t nil→some k∈blks g q v f bd t o:=fun k hk=>by exact XX5KD
   refine ⟨o,blks g q v f bd t nil,h.cs.c26,h.marks 26,⟨q,v,f,bd,t,nil,rfl,⟨row_setL h.row 26 nil,(h.own.less).set 26 nil⟩⟩,⟨Outs.less (h.own.O.keeps (Bf g 26 nil (C2.2 rfl)) (fun k hk=>by simp only [C2] at hk;simp [hk]) (fun k e hm=>hne (by rw [e,C2.1 hm]))) (fun k hk=>.inl (hsub k hk)),fun k e=>⟨fun hm=>?_,?_⟩,fun k e=>h.own.zone.off k (Cz (i:=6) (by rw [←e];rfl))⟩,⟨Bf g 26 nil (Cz hg),fun k hk=>.inl (hsub k hk)⟩⟩
   ·exact XXTkD
   ·have:=h.own.in k (Cz (i:=6) (by rw [←e];rfl));simpa using this
 | dead e out=>
   obtain ⟨o,rfl,h⟩:=h;obtain ⟨ps, -, -,h3⟩:=h.O;refine ⟨o,[some g,none],row_cellL h.row rfl,CL h.row 26,⟨nil,rfl,h.put 26 nil nil [] rfl ⟨[],rfl,(by intro x hx;cases hx),FD _ _ _ _⟩ (by simp [Value.ownBlock]) (.inl rfl)⟩,⟨Outs.less (h.O.keeps (Bf g 26 nil (C2.2 rfl)) (fun k hk=>by simp only [C2] at hk;simp [hk]) (fun k e hm=>h.ne (by rw [e,C2.1 hm]))) (fun k hk=>.inl (by simpa using Or.inl (by simpa using hk))),fun k e=>⟨fun hm=>?_,?_⟩,fun k e=>h.zone.off k (by rw [←e];simp)⟩,⟨Bf g 26 nil (by simp),fun k hk=>.inl (by simpa using Or.inl (by simpa using hk))⟩⟩
   ·rcases (by simpa using hm:k=g) with rfl;exact h.ne e
   ·have:=(FC h3 k e).2;simpa using this
theorem _root_.Go.Proofs.YtldhlecknfomjaaGreatDoor.XX086 {P:Prop} (h:P:=by
 have:=congrArg List.length (congrArg List.flatten (List.take_append_drop (k+1) ls));rw [List.flatten_append,Ci] at this
 omega):P:=h
theorem _root_.Go.Proofs.YtldhlecknfomjaaGreatDoor.XXMED {P:Prop} (h:P:=by
 go_wp2_with fail;go_roundw
 case rel=>exact ⟨k+1,by omega,by go_num,Bo ⟨Lq,HA2.out,HS2.out⟩⟩
 case measure=>simp [intOf];omega):P:=h
theorem feed_any (hp:p<4294967296) (x:Q) {L:List (Option Nat)} (h:At w B g p b L x) (ok:x.Ok b) (a:Option Addr) (ca:Nat) (ls:List (List UInt8)) (hl:Parts L w a ls) (hn:ls.length≤1000000) (hout:x.out.length+2*ls.flatten.length≤999999998) :
 Calls EG 39 #[ptr g,.slice a ls.length ca] w fun r w'=>∃o L',r=.returned o∧At w' B g p b L' (x.feed p b ls.flatten).told∧Told L' B w' o (x.feed p b ls.flatten).out∧Step L L' w w':=by
 have H:=Bo h;have HL:=Bo hl;have HOK:=Bo ok;have HOU:=Bo hout;obtain ⟨n,hnn⟩:∃n,ls.length=n:=⟨_,rfl⟩;have HN:=Bo hnn;have hn1:n≤1000000:=by omega
 rw [hnn];clear h hl ok hout hn hnn;go_enter Tryz.func39,Tryz.ntmps39;go_upto_region 2 with fail
 go_loopw [12] (fun i wr=>∃k:Nat,k≤n∧i=.int .i64 k∧Hid (∃Lr,At wr B g p b Lr (x.feed p b (ls.take k).flatten)∧Step L Lr w wr)) (fun i _=>n-(intOf i).toNat)
 case atStart=>exact ⟨0,CX _,rfl,Bo ⟨L,H.out,Step.refl⟩⟩
 case round=>
  obtain ⟨k,hk,rfl,hR⟩:=hrel;rcases CV k n with hlt | hge
  ·obtain ⟨Lr,hA,hS⟩:=hR.out;have hkl:k<ls.length:=by rw [HN.out];exact hlt
   obtain ⟨bk,off,rfl,hbk,hnb,hc⟩:=(HL.out.step hS).cells (by omega);obtain ⟨ak,ck,hcell,hB⟩:=hc k hkl;have htk:(ls.take (k+1)).flatten=(ls.take k).flatten++ls[k]:=by rw [CF hkl,List.flatten_append];simp
   have hsum:(ls.take (k+1)).flatten.length≤ls.flatten.length:=by exact XX086
   rw [htk,Ci] at hsum;have t1:(k:Int)<(n:Int):=by omega
   have HTK:=Bo htk;obtain ⟨pl,hpl⟩:∃pl,ls[k]=pl:=⟨_,rfl⟩;rw [hpl] at hcell hB hsum HTK;have hpb:pl.length≤1000000000:=by have:=HOU.out;omega
   obtain ⟨m,hm⟩:∃m,pl.length=m:=⟨_,rfl⟩;rw [hm] at hcell hpb hsum;have HM:=Bo hm;obtain ⟨X,hX⟩:∃X,x.feed p b (ls.take k).flatten=X:=⟨_,rfl⟩;have hXok:X.Ok b:=by rw [←hX];exact Q.Ok.feed _ HOK.out
   have hXo:X.out.length+2*m≤999999998:=by have:=Q.feed_out (p:=p) (b:=b) (ls.take k).flatten x;rw [hX] at this;have:=HOU.out;omega
   rw [hX] at hA;have HX:=Bo hX;have HXO:=Bo hXok;have HXL:=Bo hXo;have HA:=Bo hA;have HS:=Bo hS;have HB:=Bo hB;clear hA hS hB hX hXok hXo hsum htk hpl hm hc hR hnb hbk;go_upto_region 5 with fail
   clear hcell
   go_loopw [18] (fun j wq=>∃i:Nat,i≤m∧j=.int .i64 i∧Hid (∃Lq,At wq B g p b Lq (X.feed p b (pl.take i))∧Step Lr Lq wr wq)) (fun j _=>m-(intOf j).toNat)
   case atStart=>exact ⟨0,CX _,rfl,Bo ⟨Lr,HA.out,Step.refl⟩⟩
   case round=>
    obtain ⟨wC,hwC⟩:∃x,x=wr:=⟨_,rfl⟩;obtain ⟨i,hi,rfl,hR2⟩:=hrel;rcases CV i m with hilt | hige
    ·obtain ⟨Lq,hA2,hS2⟩:=hR2.out;have hil:i<pl.length:=by rw [HM.out];exact hilt
     obtain ⟨zb,zo,rfl,hzb,hz⟩:=(HB.out.step hS2).nums.2 (by omega);have hcell:=hz i hil;have hti:pl.take (i+1)=pl.take i ++ [pl[i]]:=CF hil;have hgi:(pl.map fun c=>(c.toNat:Int))[i]?.getD 0=(pl[i].toNat:Int):=by simp [hil]
     rw [hgi] at hcell;have HTI:=Bo hti;obtain ⟨c,hc⟩:∃c,pl[i]=c:=⟨_,rfl⟩;rw [hc] at hcell HTI;have t2:(i:Int)<(m:Int):=by omega
     have hok3:(X.feed p b (pl.take i)).Ok b:=Q.Ok.feed _ HXO.out;have hou3:(X.feed p b (pl.take i)).out.length≤999999998:=by have h1:=Q.feed_out (p:=p) (b:=b) (pl.take i) X;have h2:=HXL.out;rw [Ct] at h1;omega
     have HTA:=Bo (take_any hp c _ hA2 hok3 hou3);have HS2:=Bo hS2;clear hA2 hS2 hz hzb hti hgi hc hok3 hou3 hR2
     go_wp2_with (go_at_call 96;with_reducible refine HTA.out.mono ?_;rintro r w5 ⟨rfl,L5,hA5,hS5⟩);go_roundw
     case rel=>exact ⟨i+1,by omega,by go_num,Bo ⟨L5,by rw [HTI.out,feed_app];exact hA5,HS2.out.trans hS5⟩⟩
     case measure=>simp [intOf];omega
    ·obtain rfl:i=m:=by omega
     have t2:¬(i:Int)<(i:Int):=by omega
     obtain ⟨Lq,hA2,hS2⟩:=hR2.out
     have e:pl.take i=pl:=CE (by rw [HM.out];exact CQ _);rw [e,←HX.out,←feed_app,←HTK.out] at hA2
     have HA2:=Bo hA2;have HS2:=Bo (HS.out.trans hS2);clear hA2 hS2 e hR2;exact XXMED
  ·obtain rfl:k=n:=by omega
   have t1:¬(k:Int)<(k:Int):=by omega
   obtain ⟨Lr,hA,hS⟩:=hR.out
   have e:ls.take k=ls:=CE (by rw [HN.out];exact CQ _);rw [e] at hA;obtain ⟨o,L2,c26,z26,hA2,hT2,hS2⟩:=hA.tell
   have HA2:=Bo hA2;have HT2:=Bo hT2;have HS2:=Bo (hS.trans hS2);clear hA hS hR e hA2 hT2 hS2;go_wp2_with fail;go_ret;exact ⟨o,rfl,L2,HA2.out,HT2.out,HS2.out⟩
theorem errq_any {L:List (Option Nat)} {x:Q} (h:At w B g p b L x):Calls EG 42 #[ptr g] w fun r w'=>r=.returned (.int .i64 (x.err:Int))∧w'=w:=by
 cases x with
 | live s=>
   obtain ⟨q,v,f,bd,t,o,rfl,h⟩:=h;exact err_any h.cs.c0
 | dead e out=>
   obtain ⟨o,rfl,h⟩:=h;exact err_any h.cell0
theorem cleanq_any {L:List (Option Nat)} {x:Q} (h:At w B g p b L x):Calls EG 47 #[ptr g] w fun r w'=>r=.returned (.bool x.clean)∧w'=w:=by
 cases x with
 | live s=>
   obtain ⟨q,v,f,bd,t,o,rfl,h⟩:=h;exact clean_live h
 | dead e out=>
   obtain ⟨o,rfl,h⟩:=h
   exact clean_dead (row_cellL h.row rfl)
theorem PR.draft (h:PR w B g q v f bd t o p b s) (ok:s.Ok):Rec.Reads w (.agg #[.string s.r.m,.string s.r.x,.int .i64 s.r.k,f,.bool s.r.ch,bd,t]) s.r∧Rec.Fit s.r:=by obtain ⟨A1,c1,e1,h1⟩:=Flds.of_own h.own.F;obtain ⟨A2,c2,e2,h2⟩:=Rec.nums_of_own h.own.D;obtain ⟨A3,c3,e3,h3⟩:=Flds.of_own h.own.TR;subst e1 e2 e3;have k1:=ok.fsl;have k2:=ok.tsl;have k3:=ok.hl;have k4:=ok.bl;have k5:=ok.body;have k6:=ok.m;have k7:=ok.x;exact ⟨⟨_,_,_,_,_,_,rfl,h1,h2,h3⟩,⟨by omega,by omega,by omega,fun y hy=>by have:=ok.fss y hy;omega,by omega,by omega,fun y hy=>by have:=ok.tss y hy;omega⟩⟩
theorem XXqmx {P:Prop} (h:P:=by
 go_enter Tryz.func43,Tryz.ntmps43
 go_wp2_with (go_at_call 98;with_reducible refine Cm HN.out ?_);go_ret
 exact ⟨rfl,Am _ _⟩):P:=h
theorem waits_any {L:List (Option Nat)} {x:Q} (h:At w B g p b L x) (ok:x.Ok b):Calls EG 43 #[ptr g] w fun r w'=>r=.returned (.bool x.waits)∧Below w.heap.size w w':=by
 cases x with
 | live s=>
   obtain ⟨q,v,f,bd,t,o,rfl,h⟩:=h;obtain ⟨ok, -⟩:s.Ok∧b.right=true:=ok;have hbl:=ok.body
   have HN0:=bodyIsNext_live h (by omega)
   have HD:=Bo (draft_any h)
   have HE:=Bo (fun (w2:World) (hb:Below w.heap.size w w2)=>Rec.expects_any _ s.r w2 (PR.draft (h.below hb) ok).1 (PR.draft (h.below hb) ok).2);show Calls _ _ _ _ fun r w'=>r=.returned (.bool (s.next&&Rec.expects s.r))∧Below w.heap.size w w';clear h ok hbl;cases hx:s.next with
   | true=>
     rw [hx] at HN0;have HN:=Bo HN0;clear HN0 hx;generalize Rec.expects s.r=ex at *;go_enter Tryz.func43,Tryz.ntmps43
     go_wp2_with (first
      |(go_at_call 99;with_reducible refine (HE.out _ HB2.out).mono ?_;rintro r w4 ⟨rfl,hb4⟩)
      |(go_at_call 100;with_reducible refine HD.out.mono ?_;rintro r w3 ⟨rfl,hb3⟩
        have HB2:=Bo hb3;clear hb3)
      |(go_at_call 98;with_reducible refine Cm HN.out ?_))
     go_ret;exact ⟨by cases ex<;>rfl,Ak HB2.out hb4⟩
   | false=>
     rw [hx] at HN0;have HN:=Bo HN0;clear HN0 hx HD HE;exact XXqmx
 | dead e out=>
   obtain ⟨o,rfl,h⟩:=h
   have HN:=Bo (bodyIsNext_dead (w:=w) (g:=g) (row_cellL h.row rfl));clear h ok;exact XXqmx
theorem size_small {r:Dt} (h:Rec.Fit r):Rec.size r≤5000000000000:=by
 have h1:=h.m;have h2:=h.x;have h3:=h.body;have h4:=h.fs;have h5:=h.ts;have h6:=Rec.weigh_le r.fs 1000000 h.f;have h7:=Rec.weigh_le r.ts 1000000 h.t
 have h8:r.fs.length*(1000000+1000000)≤1000000000:=CT (Nat.mul_le_mul_right _ h4) (by decide)
 have h9:r.ts.length*(1000000+1000000)≤1000000000:=CT (Nat.mul_le_mul_right _ h5) (by decide);unfold Rec.size;omega
theorem held_any {L:List (Option Nat)} {x:Q} (h:At w B g p b L x) (ok:x.Ok b):Calls EG 45 #[ptr g] w fun r w'=>r=.returned (.int .i64 (x.held:Int))∧Below w.heap.size w w':=by
 cases x with
 | live s=>
   obtain ⟨q,v,f,bd,t,o,rfl,h⟩:=h;obtain ⟨ok, -⟩:s.Ok∧b.right=true:=ok
   have HF:=Bo (failed_live h.cs.c0);have c25:=h.cs.c25;have hll:s.rd.len≤4096:=by have h1:=ok.rd.len;have h2:=ok.rd.most;unfold Ln.M.len;split<;>omega
   have hsz:=size_small (PR.draft h ok).2
   have HL:=Bo (Ln.len_any h.own.R.row h.own.R.own)
   have HD:=Bo (draft_any h)
   have HE:=Bo (fun (w2:World) (hb:Below w.heap.size w w2)=>Rec.size_any _ s.r w2 (PR.draft (h.below hb) ok).1 (PR.draft (h.below hb) ok).2);obtain ⟨a1,a2⟩:=Dv ((s.rd.len:Int)+(Rec.size s.r:Int)) ⟨by omega,by omega⟩;show Calls _ _ _ _ fun r w'=>r=.returned (.int .i64 ((s.rd.len+Rec.size s.r:Nat):Int))∧Below w.heap.size w w';clear h ok hll hsz;generalize s.rd.len=n1 at *;generalize Rec.size s.r=n2 at *;go_enter Tryz.func45,Tryz.ntmps45
   go_wp2_with (first
    |(go_at_call 104;with_reducible refine (HE.out _ HB2.out).mono ?_;rintro r w4 ⟨rfl,hb4⟩)
    |(go_at_call 100;with_reducible refine HD.out.mono ?_;rintro r w3 ⟨rfl,hb3⟩
      have HB2:=Bo hb3;clear hb3)
    |(go_at_call 103;with_reducible refine Cm HL.out ?_)
    |(go_at_call 102;with_reducible refine Cm HF.out ?_))
   go_ret;exact ⟨rfl,Ak HB2.out hb4⟩
 | dead e out=>
   obtain ⟨o,rfl,h⟩:=h
   have HF:=Bo (failed_dead h.cell0 h.bad);clear h ok;go_enter Tryz.func45,Tryz.ntmps45
   go_wp2_with (go_at_call 102;with_reducible refine Cm HF.out ?_);go_ret;exact ⟨rfl,Am _ _⟩
end code
end Go.Proofs.YtldhlecknfomjaaGreatDoor.Pg
namespace Go.Proofs.YtldhlecknfomjaaGreatDoor.Pg
open Go.RowKit Base Txt Mem Par
section code
set_option maxHeartbeats 4000000
set_option maxRecDepth 20000
attribute [local go_sem] Al
variable {w:World} {B:Zone} {g q:Nat} {v f bd t o:Value} {p:Nat} {b:Bd} {s:T}
theorem enter_new (hp:p<4294967296) (hz:B.z= []) (hrow:w.heap[g]?=some (.cells ([.int .i64 0,.int .i64 0,nil,.string E0,.string E0,.int .i64 0,.int .i64 0,.bool false,.int .i64 0,nil,.bool false,nil,.int .i64 0,.int .u32 (p:Int),.int .i64 b.x0,.int .i64 b.x1,.int .i64 b.x2,.int .i64 b.x3,.int .i64 b.x4,.int .i64 b.x5,.int .i64 b.x6,.int .i64 b.x7,.bool b.ch,.bool b.od,.int .i64 0,.pointer none,nil]:List Value).toArray 75 (0,0))) (hB:B≤g):Calls EG 93 #[ptr g,.int .i64 1,.int .i64 b.x0] w fun r w'=>
 r=.returned (.tuple #[])∧∃q1,PR w' B g q1 nil nil nil nil nil p b (T.new p b)∧Keeps [some g] w w':=by
 have hlt:=Ln.row_lt hrow
 have HR1:=Bo (row_setL hrow 24 (.int .i64 1))
 have HK1:=Bo (Bf (w:=w) (L:= [some g]) g 24 (.int .i64 1) (by simp))
 have HLT:=Bo (show g<(w.setCell ⟨g,24,none⟩ (.int .i64 1)).heap.size by simpa using hlt);have HB:=Bo hB;have c24:=row_cellL hrow (k:=24) rfl;have z24:=CL hrow 24;clear hrow hB hlt;go_enter Tryz.func93,Tryz.ntmps93;go_upto_region 1 with fail
 generalize w.setCell ⟨g,24,none⟩ (.int .i64 1)=W1 at *;clear c24 z24;have c13:W1.cell? ⟨g,13,none⟩=some (.int .u32 (p:Int)):=row_cellL HR1.out (k:=13) rfl
 have HNL:=Bo (line_new hp B b.x0 W1 (CT HB.out (CP HLT.out)));go_wp2_with
  (go_at_call 136;with_reducible refine HNL.out.mono ?_;rintro r w8 ⟨q1,rfl,hq1,hr1,hb8⟩
   have hrow8:=(hb8.block g HLT.out).trans HR1.out;have d25:=row_cellL hrow8 (k:=25) rfl;have y25:=CL hrow8 25;have HR8:=Bo hrow8;have HD8:=Bo hr1;have HQ8:=Bo hq1;have HB8:=Bo hb8;clear hb8 hr1 hq1 hrow8)
 go_end0;have hgq:g≠q1:=by have:=HLT.out;have:=HQ8.out;omega
 have hk:Keeps [some g] w8 (w8.setCell ⟨g,25,none⟩ (ptr q1)):=Bf g 25 _ (by simp);refine ⟨rfl,q1,⟨row_setL HR8.out 25 (ptr q1),⟨⟨hk.row HD8.out.row (by simpa using fun e=>hgq e.symm),hk.own HD8.out.own (by simp [Value.ownBlock]),HD8.out.ge,HD8.out.ne⟩,FD _ _ _ _,FD _ _ _ _,FD _ _ _ _,⟨[],rfl,(by intro x hx;cases hx),FD _ _ _ _⟩,?_,HB.out,by have:=HLT.out;have:=HB8.out.size;simp;omega,by rw [hz];exact Clear.nil⟩⟩,(HK1.out.trans (Keeps.of_below HB8.out) De).trans hk De⟩;intro i j k hi hj;rcases i with _ | _ | _ | _ | _ | _ | _ | i<;>rcases j with _ | _ | _ | _ | _ | _ | _ | j<;>simp [Value.ownBlock] at hi hj ⊢<;>omega
theorem T.new_ok (p:Nat) (b:Bd):(T.new p b).Ok:=
 ⟨Ln.M.new_ok _ _ _ (Ln.mid_le _),rfl,⟨CQ _,by show 1≤7;omega⟩,CX _,CX _,CQ _,CQ _,(by intro y hy;cases hy),(by intro y hy;cases hy),CX _,CX _,CX _,fun h=>(by cases h),fun _=>rfl,CX _⟩
theorem Q.new_ok (p:Nat) (b:Bd):(Q.new p b).Ok b:=by
 unfold Q.new;split
 ·rename_i h;simp only [An] at h;exact ⟨T.new_ok p b,h.1⟩
 ·trivial
theorem dead_new {W:World} (hz:B.z= []) (hrow:W.heap[g]?=some (.cells ([.int .i64 20,.int .i64 0,nil,.string E0,.string E0,.int .i64 0,.int .i64 0,.bool false,.int .i64 0,nil,.bool false,nil,.int .i64 0,.int .u32 0,.int .i64 0,.int .i64 0,.int .i64 0,.int .i64 0,.int .i64 0,.int .i64 0,.int .i64 0,.int .i64 0,.bool false,.bool false,.int .i64 0,.pointer none,nil]:List Value).toArray 75 (0,0))) (hB:B≤g):At W B g p b [some g,none] (.dead 20 []):=
 ⟨nil,rfl,⟨hrow,⟨[],rfl,(by intro x hx;cases hx),FD _ _ _ _⟩,by simp [Value.ownBlock],hB,Ln.row_lt hrow,by decide,by rw [hz];exact Clear.nil⟩⟩
theorem new_any (hp:p<4294967296) (w:World):Calls EG 37 #[.int .u32 (p:Int),.agg #[.int .i64 b.x0,.int .i64 b.x1,.int .i64 b.x2,.int .i64 b.x3,.int .i64 b.x4,.int .i64 b.x5,.int .i64 b.x6,.int .i64 b.x7,.bool b.ch,.bool b.od]] w fun r w'=>
 ∃g L',r=.returned (ptr g)∧w.heap.size≤g∧At w' ⟨w.heap.size,[]⟩ g p b L' (Q.new p b)∧Below w.heap.size w w':=by
 have hqr:=fun w=>Qk.right_any p hp w;have hbr:=fun w=>Bnd.right_any b.x0 b.x1 b.x2 b.x3 b.x4 b.x5 b.x6 b.x7 b.ch b.od w
 have HB0:=Bo (((Am _ _).alloc (CQ _) (.cells #[.int .i64 b.x0,.int .i64 b.x1,.int .i64 b.x2,.int .i64 b.x3,.int .i64 b.x4,.int .i64 b.x5,.int .i64 b.x6,.int .i64 b.x7,.bool b.ch,.bool b.od] 29)):Below w.heap.size w _)
 have HZ0:=Bo (Ds w w.heap.size rfl 29 [.int .i64 b.x0,.int .i64 b.x1,.int .i64 b.x2,.int .i64 b.x3,.int .i64 b.x4,.int .i64 b.x5,.int .i64 b.x6,.int .i64 b.x7,.bool b.ch,.bool b.od])
 have HSZ:=Bo (show w.heap.size<(w.alloc (.cells #[.int .i64 b.x0,.int .i64 b.x1,.int .i64 b.x2,.int .i64 b.x3,.int .i64 b.x4,.int .i64 b.x5,.int .i64 b.x6,.int .i64 b.x7,.bool b.ch,.bool b.od] 29)).heap.size by simp);unfold Q.new;by_cases hP:p<1073741824
 ·rw [decide_eq_true hP] at hqr ⊢;rw [Bool.and_true];have HQR:=Bo hqr;unfold Bd.right;cases hb:Bnd.right b.x0 b.x1 b.x2 b.x3 b.x4 b.x5 b.x6 b.x7 with
  | true=>
    rw [hb] at hbr;have HBR:=Bo hbr;rw [if_pos rfl];clear hqr hbr hb hP;go_enter Tryz.func37,Tryz.ntmps37;go_upto_region 1 with fail
    generalize w.alloc (.cells #[.int .i64 b.x0,.int .i64 b.x1,.int .i64 b.x2,.int .i64 b.x3,.int .i64 b.x4,.int .i64 b.x5,.int .i64 b.x6,.int .i64 b.x7,.bool b.ch,.bool b.od] 29)=W0 at *;have y0:=HZ0.out.c 0 _ rfl;have y1:=HZ0.out.c 1 _ rfl;have y2:=HZ0.out.c 2 _ rfl;have y3:=HZ0.out.c 3 _ rfl;have y4:=HZ0.out.c 4 _ rfl;have y5:=HZ0.out.c 5 _ rfl;have y6:=HZ0.out.c 6 _ rfl;have y7:=HZ0.out.c 7 _ rfl;have y8:=HZ0.out.c 8 _ rfl;have y9:=HZ0.out.c 9 _ rfl
    go_upto_region 4 with (first
     |(go_at_call 92;with_reducible refine (HBR.out _).mono ?_;rintro r w3 ⟨rfl,hb3⟩
       have HB3:=Bo hb3;have HZ3:=Bo (HZ0.out.below hb3);have x0:=HZ3.out.c 0 _ rfl;have x1:=HZ3.out.c 1 _ rfl;have x2:=HZ3.out.c 2 _ rfl;have x3:=HZ3.out.c 3 _ rfl;have x4:=HZ3.out.c 4 _ rfl;have x5:=HZ3.out.c 5 _ rfl;have x6:=HZ3.out.c 6 _ rfl;have x7:=HZ3.out.c 7 _ rfl;have x8:=HZ3.out.c 8 _ rfl;have x9:=HZ3.out.c 9 _ rfl;clear hb3)
     |(go_at_call 91;with_reducible refine Cm (HQR.out _) ?_))
    have HB4:=Bo (Ak HB0.out HB3.out)
    have HR4:=Bo (heap_alloc_new w3 (.cells ([.int .i64 0,.int .i64 0,nil,.string E0,.string E0,.int .i64 0,.int .i64 0,.bool false,.int .i64 0,nil,.bool false,nil,.int .i64 0,.int .u32 (p:Int),.int .i64 b.x0,.int .i64 b.x1,.int .i64 b.x2,.int .i64 b.x3,.int .i64 b.x4,.int .i64 b.x5,.int .i64 b.x6,.int .i64 b.x7,.bool b.ch,.bool b.od,.int .i64 0,.pointer none,nil]:List Value).toArray 75))
    have HG:=Bo (show w.heap.size≤w3.heap.size from CT (CP HSZ.out) HB3.out.size)
    have HBW:=Bo (HB4.out.alloc HG.out (.cells ([.int .i64 0,.int .i64 0,nil,.string E0,.string E0,.int .i64 0,.int .i64 0,.bool false,.int .i64 0,nil,.bool false,nil,.int .i64 0,.int .u32 (p:Int),.int .i64 b.x0,.int .i64 b.x1,.int .i64 b.x2,.int .i64 b.x3,.int .i64 b.x4,.int .i64 b.x5,.int .i64 b.x6,.int .i64 b.x7,.bool b.ch,.bool b.od,.int .i64 0,.pointer none,nil]:List Value).toArray 75))
    have HX4:=Bo ((HZ3.out.alloc (.cells ([.int .i64 0,.int .i64 0,nil,.string E0,.string E0,.int .i64 0,.int .i64 0,.bool false,.int .i64 0,nil,.bool false,nil,.int .i64 0,.int .u32 (p:Int),.int .i64 b.x0,.int .i64 b.x1,.int .i64 b.x2,.int .i64 b.x3,.int .i64 b.x4,.int .i64 b.x5,.int .i64 b.x6,.int .i64 b.x7,.bool b.ch,.bool b.od,.int .i64 0,.pointer none,nil]:List Value).toArray 75)).c 0 _ rfl)
    have HE:=Bo (enter_new (B:=⟨w.heap.size,[]⟩) hp rfl HR4.out HG.out);clear y0 y1 y2 y3 y4 y5 y6 y7 y8 y9 x0 x1 x2 x3 x4 x5 x6 x7 x8 x9 HR4;have x0:=HX4.out
    go_wp2_with (go_at_call 93;with_reducible refine HE.out.mono ?_;rintro r w5 ⟨rfl,q1,hP,hK⟩);go_ret;exact ⟨_,_,rfl,HG.out,⟨_,_,_,_,_,_,rfl,hP⟩,HBW.out.trans (hK.below HBW.out.size (fun k hk=>by rw [Di.inj (C2.1 hk)];exact HG.out))⟩
  | false=>
    rw [hb] at hbr;have HBR:=Bo hbr;rw [if_neg (by decide)];clear hqr hbr hb hP;go_enter Tryz.func37,Tryz.ntmps37;go_upto_region 1 with fail
    generalize w.alloc (.cells #[.int .i64 b.x0,.int .i64 b.x1,.int .i64 b.x2,.int .i64 b.x3,.int .i64 b.x4,.int .i64 b.x5,.int .i64 b.x6,.int .i64 b.x7,.bool b.ch,.bool b.od] 29)=W0 at *;have y0:=HZ0.out.c 0 _ rfl;have y1:=HZ0.out.c 1 _ rfl;have y2:=HZ0.out.c 2 _ rfl;have y3:=HZ0.out.c 3 _ rfl;have y4:=HZ0.out.c 4 _ rfl;have y5:=HZ0.out.c 5 _ rfl;have y6:=HZ0.out.c 6 _ rfl;have y7:=HZ0.out.c 7 _ rfl;have y8:=HZ0.out.c 8 _ rfl;have y9:=HZ0.out.c 9 _ rfl
    go_wp2_with (first
     |(go_at_call 92;with_reducible refine (HBR.out _).mono ?_;rintro r w3 ⟨rfl,hb3⟩
       have HB3:=Bo hb3;clear hb3)
     |(go_at_call 91;with_reducible refine Cm (HQR.out _) ?_))
    go_ret;have hg:=CT (CP HSZ.out) HB3.out.size;exact ⟨_,_,rfl,hg,dead_new (B:=⟨w.heap.size,[]⟩) rfl (heap_alloc_new w3 (.cells ([.int .i64 20,.int .i64 0,nil,.string E0,.string E0,.int .i64 0,.int .i64 0,.bool false,.int .i64 0,nil,.bool false,nil,.int .i64 0,.int .u32 0,.int .i64 0,.int .i64 0,.int .i64 0,.int .i64 0,.int .i64 0,.int .i64 0,.int .i64 0,.int .i64 0,.bool false,.bool false,.int .i64 0,.pointer none,nil]:List Value).toArray 75)) hg,(Ak HB0.out HB3.out).alloc hg _⟩
 ·rw [decide_eq_false hP] at hqr ⊢;rw [Bool.and_false,if_neg (by decide)];have HQR:=Bo hqr;clear hqr hbr hP;go_enter Tryz.func37,Tryz.ntmps37;go_upto_region 1 with fail
  generalize w.alloc (.cells #[.int .i64 b.x0,.int .i64 b.x1,.int .i64 b.x2,.int .i64 b.x3,.int .i64 b.x4,.int .i64 b.x5,.int .i64 b.x6,.int .i64 b.x7,.bool b.ch,.bool b.od] 29)=W0 at *
  go_wp2_with (go_at_call 91;with_reducible refine Cm (HQR.out _) ?_);go_ret;have hg:=CP HSZ.out;exact ⟨_,_,rfl,hg,dead_new (B:=⟨w.heap.size,[]⟩) rfl (heap_alloc_new W0 (.cells ([.int .i64 20,.int .i64 0,nil,.string E0,.string E0,.int .i64 0,.int .i64 0,.bool false,.int .i64 0,nil,.bool false,nil,.int .i64 0,.int .u32 0,.int .i64 0,.int .i64 0,.int .i64 0,.int .i64 0,.int .i64 0,.int .i64 0,.int .i64 0,.int .i64 0,.bool false,.bool false,.int .i64 0,.pointer none,nil]:List Value).toArray 75)) hg,HB0.out.alloc hg _⟩
end code
end Go.Proofs.YtldhlecknfomjaaGreatDoor.Pg
namespace Go.Proofs.YtldhlecknfomjaaGreatDoor.Pg
open Go.RowKit Base Txt Mem Par
theorem told_err (x:Q):x.told.err=x.err:=by cases x<;>rfl
theorem told_clean (x:Q):x.told.clean=x.clean:=by cases x<;>rfl
theorem told_waits (x:Q):x.told.waits=x.waits:=by cases x<;>rfl
theorem told_held (x:Q):x.told.held=x.held:=by cases x<;>rfl
theorem told_ok {b:Bd} {x:Q} (h:x.Ok b):x.told.Ok b:=by
 cases x with
 | live t=>exact ⟨⟨h.1.rd,h.1.nf,h.1.st,h.1.hl,h.1.bl,h.1.fsl,h.1.tsl,h.1.fss,h.1.tss,h.1.m,h.1.x,h.1.body,h.1.left,h.1.early,h.1.size⟩,h.2⟩
 | dead e o=>trivial
theorem told_out (x:Q):x.told.out= []:=by cases x<;>rfl
theorem Parts.one {L:List (Option Nat)} {w:World} {a:Option Addr} {c:Nat} {l:List UInt8} (h:Bts L w a l) (hin:In w L) (ty:TypeId):Parts L (w.alloc (.cells #[.slice a l.length c] ty)) (some ⟨w.heap.size,0,none⟩) [l]:=by
 have hb:Below w.heap.size w (w.alloc (.cells #[.slice a l.length c] ty)):=(Am _ _).alloc (CQ _) _;refine ⟨fun _=>⟨w.heap.size,0,rfl,by simp,fun hm=>by have:=hin _ hm;omega,fun k hk=>?_⟩⟩;have hk:k<1:=hk;obtain rfl:k=0:=by omega
 refine ⟨a,c,?_,?_⟩
 ·have:=cell_of_row (w.alloc (.cells #[.slice a l.length c] ty)) w.heap.size 0 _ ty (0,0) (heap_alloc_new w _);exact this.trans rfl
 ·exact h.step (D9 hb)
section code
set_option maxHeartbeats 4000000
set_option maxRecDepth 20000
attribute [local go_sem] Al
variable {w:World} {B:Zone} {g q:Nat} {v f bd t o:Value} {p:Nat} {b:Bd} {s:T}
theorem _root_.Go.Proofs.YtldhlecknfomjaaGreatDoor.XXIoU {P:Prop} (h:P:=by
 refine ⟨HL.out.nums.below (Ak HB0.out HB1.out),fun ad e=>?_⟩;have:=(HL.out.far ad e).2;refine ⟨fun hm=>?_,CU this (CT (CP HSZ.out) HB1.out.size)⟩;have:W0.heap.size≤ad.block:=hlow _ hm;have:=HSZ.out
 omega):P:=h
theorem read_any (hp:p<4294967296) (w:World) (a:Option Addr) (c:Nat) (l:List UInt8) (hl:Bts [] w a l) (hn:l.length≤400000000):Calls EG 49 #[.int .u32 (p:Int),.agg #[.int .i64 b.x0,.int .i64 b.x1,.int .i64 b.x2,.int .i64 b.x3,.int .i64 b.x4,.int .i64 b.x5,.int .i64 b.x6,.int .i64 b.x7,.bool b.ch,.bool b.od],.slice a l.length c] w fun r w'=>
 ∃o L B0,r=.returned (.tuple #[o,.int .i64 ((Q.read p b l).err:Int),.bool (Q.read p b l).clean])∧Told L B0 w' o (Q.read p b l).out∧Below w.heap.size w w':=by
 have HB0:=Bo (((Am _ _).alloc (CQ _) (.cells #[.int .i64 b.x0,.int .i64 b.x1,.int .i64 b.x2,.int .i64 b.x3,.int .i64 b.x4,.int .i64 b.x5,.int .i64 b.x6,.int .i64 b.x7,.bool b.ch,.bool b.od] 29)):Below w.heap.size w _)
 have HZ0:=Bo (Ds w w.heap.size rfl 29 [.int .i64 b.x0,.int .i64 b.x1,.int .i64 b.x2,.int .i64 b.x3,.int .i64 b.x4,.int .i64 b.x5,.int .i64 b.x6,.int .i64 b.x7,.bool b.ch,.bool b.od])
 have HSZ:=Bo (show w.heap.size<(w.alloc (.cells #[.int .i64 b.x0,.int .i64 b.x1,.int .i64 b.x2,.int .i64 b.x3,.int .i64 b.x4,.int .i64 b.x5,.int .i64 b.x6,.int .i64 b.x7,.bool b.ch,.bool b.od] 29)).heap.size by simp);have HL:=Bo hl;have HN:=Bo hn;unfold Q.read;obtain ⟨X,hX⟩:∃X,Q.feed p b (Q.new p b) l=X:=⟨_,rfl⟩;rw [hX];have HX:=Bo hX;obtain ⟨m,hm⟩:∃m,l.length=m:=⟨_,rfl⟩;have HM:=Bo hm;rw [hm];clear hl hn hm hX;go_enter Tryz.func49,Tryz.ntmps49;go_upto_region 1 with fail
 generalize w.alloc (.cells #[.int .i64 b.x0,.int .i64 b.x1,.int .i64 b.x2,.int .i64 b.x3,.int .i64 b.x4,.int .i64 b.x5,.int .i64 b.x6,.int .i64 b.x7,.bool b.ch,.bool b.od] 29)=W0 at *;have y0:=HZ0.out.c 0 _ rfl;have y1:=HZ0.out.c 1 _ rfl;have y2:=HZ0.out.c 2 _ rfl;have y3:=HZ0.out.c 3 _ rfl;have y4:=HZ0.out.c 4 _ rfl;have y5:=HZ0.out.c 5 _ rfl;have y6:=HZ0.out.c 6 _ rfl;have y7:=HZ0.out.c 7 _ rfl;have y8:=HZ0.out.c 8 _ rfl;have y9:=HZ0.out.c 9 _ rfl
 have HNW:=Bo (new_any (b:=b) hp W0);go_upto_region 2 with
  (go_at_call 37;with_reducible refine HNW.out.mono ?_;rintro r w1 ⟨g,L1,rfl,hg,hA,hb1⟩
   have HG:=Bo hg;have HA:=Bo hA;have HB1:=Bo hb1;clear hg hA hb1)
 have hlow:=HA.out.low;have hlA:Bts L1 w1 a l:=by exact XXIoU
 have hpa:=Parts.one (c:=c) hlA HA.out.in 23;rw [HM.out] at hpa;have hb2:Below w1.heap.size w1 (w1.alloc (.cells #[.slice a m c] 23)):=(Am _ _).alloc (CQ _) _
 have hfe:=feed_any hp _ (HA.out.below hb2) (Q.new_ok p b) (some ⟨w1.heap.size,0,none⟩) 1 [l] hpa (by simp) (by
  have h1:(Q.new p b).out.length=0:=by unfold Q.new;split<;>rfl
  have h2:=HN.out;rw [h1];simp only [List.flatten_cons,List.flatten_nil,B9];omega)
 have efl: [l].flatten=l:=by simp
 rw [efl] at hfe
 have HFE:=Bo (show Calls EG 39 #[ptr g,.slice (some ⟨w1.heap.size,0,none⟩) 1 1] (w1.alloc (.cells #[.slice a m c] 23)) fun r w'=>∃o L',r=.returned o∧At w' ⟨W0.heap.size,[]⟩ g p b L' (Q.feed p b (Q.new p b) l).told∧Told L' ⟨W0.heap.size,[]⟩ w' o (Q.feed p b (Q.new p b) l).out∧Step L1 L' (w1.alloc (.cells #[.slice a m c] 23)) w' from hfe);have HLOW:=Bo hlow
 have HB2:=Bo (Ak (Ak HB0.out HB1.out) hb2);rw [HX.out] at HFE;clear hlA hpa hb2 hfe efl hlow y0 y1 y2 y3 y4 y5 y6 y7 y8 y9
 go_wp2_with (first
  |(go_at_call 47;with_reducible refine Cm HC.out ?_)
  |(go_at_call 42;with_reducible refine Cm HE.out ?_)
  |(go_at_call 39;with_reducible refine HFE.out.mono ?_;rintro r w3 ⟨o,L',rfl,hA3,hT3,hS3⟩
    have HE:=Bo (errq_any hA3);have HC:=Bo (cleanq_any hA3);rw [told_err] at HE;rw [told_clean] at HC;have HT3:=Bo hT3;have HS3:=Bo hS3;clear hA3 hT3 hS3))
 refine bodyPost_ret (v:=.tuple #[o,.int .i64 (X.err:Int),.bool X.clean]) (by simp [results,Tryz.results49,go_sem]) rfl ?_;refine ⟨_,_,_,rfl,HT3.out,HB2.out.trans (HS3.out.keeps.below HB2.out.size (fun k hk=>?_))⟩;have:=HLOW.out k hk;have:=HSZ.out;omega
end code
theorem flat_at:∀(ps:List (Array Value × Dt)),(∀x∈ps,x.1.size=7)→∀k (hk:k<ps.length) j,j<7→(ps.flatMap (·.1.toList))[k*7+j]?=ps[k].1.toList[j]?
 | [],_,k,hk,_,_=>by cases hk
 | x::ps,h,0,_,j,hj=>by
   have hx:x.1.toList.length=7:=by simpa using h x (by simp)
   rw [List.flatMap_cons,List.getElem?_append_left (by omega),Nat.zero_mul,CW];rfl
 | x::ps,h,k+1,hk,j,hj=>by
   have hx:x.1.toList.length=7:=by simpa using h x (by simp)
   rw [List.flatMap_cons,List.getElem?_append_right (by omega),hx,show (k+1)*7+j-7=k*7+j by omega];exact flat_at ps (fun y hy=>h y (by simp [hy])) k (by simpa using hk) j hj
theorem Told.at {L:List (Option Nat)} {B:Zone} {w:World} {o:Value} {out:List Dt} (h:Told L B w o out):∃a c,o=.slice a out.length c∧(0<out.length→∃bk,a=some ⟨bk,0,none⟩∧bk<w.heap.size∧
 ∀k (hk:k<out.length),∃fa fc ba bc ta tc,Flds w fa out[k].fs.length out[k].fs∧Nums .u8 w ba out[k].body.length (out[k].body.map fun c=>(c.toNat:Int))∧Flds w ta out[k].ts.length out[k].ts∧
  w.cell? ⟨bk,k*7,none⟩=some (.string out[k].m)∧w.cell? ⟨bk,k*7+1,none⟩=some (.string out[k].x)∧w.cell? ⟨bk,k*7+2,none⟩=some (.int .i64 out[k].k)∧w.cell? ⟨bk,k*7+3,none⟩=some (.slice fa out[k].fs.length fc)∧
  w.cell? ⟨bk,k*7+4,none⟩=some (.bool out[k].ch)∧w.cell? ⟨bk,k*7+5,none⟩=some (.slice ba out[k].body.length bc)∧w.cell? ⟨bk,k*7+6,none⟩=some (.slice ta out[k].ts.length tc)):=by
 obtain ⟨ps,h1,h2,h3⟩:=h.outs;obtain ⟨a,c,e, -⟩:=CJ h3;subst e;refine ⟨a,c,rfl,fun h0=>?_⟩;obtain ⟨bk,cf,hform, -,hlt⟩:=h3.form h0;simp only [Value.slice.injEq,true_and] at hform;obtain ⟨rfl,rfl⟩:=hform;refine ⟨bk,rfl,hlt,fun k hk=>?_⟩;have hkp:k<ps.length:=by rw [←h1,Co] at hk;exact hk
 have hr:out[k]=ps[k].2:=by simp [←h1]
 obtain ⟨h7,hF⟩:=h2 ps[k] (Cb hkp);obtain ⟨fa,fc,ba,bc,ta,tc,hV,f1,f2,f3⟩:=hF.reads;have hcs:ps[k].1= #[.string ps[k].2.m,.string ps[k].2.x,.int .i64 ps[k].2.k,.slice fa ps[k].2.fs.length fc,.bool ps[k].2.ch,.slice ba ps[k].2.body.length bc,.slice ta ps[k].2.ts.length tc]:=by injection hV
 have key:∀j,j<7→w.cell? ⟨bk,k*7+j,none⟩=ps[k].1.toList[j]?:=by
  intro j hj
  have hc:=h3.cellAt (k*7+j) (by omega);have e:(ps.flatMap (·.1.toList))[k*7+j]?=ps[k].1.toList[j]?:=flat_at ps (fun x hx=>(h2 x hx).1) k hkp j hj;exact hc.trans e
 rw [hr];rw [hcs] at key;exact ⟨fa,fc,ba,bc,ta,tc,f1,f2,f3,key 0 (by decide),key 1 (by decide),key 2 (by decide),key 3 (by decide),key 4 (by decide),key 5 (by decide),key 6 (by decide)⟩
end Go.Proofs.YtldhlecknfomjaaGreatDoor.Pg
namespace Go.Proofs.YtldhlecknfomjaaGreatDoor.By
open Go.RowKit Base
def Bytes (w:World) (g:Nat) (l:List UInt8):Prop:=∀j (h:j<l.length),w.cell? ⟨g,j,none⟩=some (.int .u8 (l[j].toNat:Int))∧w.frozen? ⟨g,j,none⟩=false
theorem _root_.Go.Proofs.YtldhlecknfomjaaGreatDoor.XXgmf {P:Prop} (h:P:=by
 have hcv:=run_bytes_of_string (P:=EG) w 9 23 5 s Fs Fh Fp;refine ⟨_,_,hcv,fun j hj=>?_,by simp,(Am _ _).drew.alloc (CQ _) _⟩;have hj':j<s.data.size:=by simpa using hj
 refine ⟨(World.cell?_alloc_mark w.drew _ _ _ j).trans (bytesRow_at s _ j hj'),(World.frozen?_alloc_mark w.drew _ _ _ _ j).trans ?_⟩;have:¬(bytesRow s (grownCap w s.size 0 5)).size≤j:=by unfold bytesRow;rw [Array.size_append,Array.size_map];omega
 simp [this]):P:=h
theorem conv_bytes (s:ByteArray) (w:World):∃W cap,(convert 9 23 (.string s)).run EG w=.ok (.slice (some ⟨w.heap.size,0,none⟩) s.size cap) W∧Bytes W w.heap.size s.data.toList∧w.heap.size<W.heap.size∧Below w.heap.size w W:=by exact XXgmf
end Go.Proofs.YtldhlecknfomjaaGreatDoor.By
namespace Go.Proofs.YtldhlecknfomjaaGreatDoor.Pg
open Go.RowKit Base Txt Mem Par
abbrev usual:Bd:=⟨1024,32,8192,65536,32,8,4,20,true,true⟩
abbrev bdV (b:Bd):Value:=.agg #[.int .i64 b.x0,.int .i64 b.x1,.int .i64 b.x2,.int .i64 b.x3,.int .i64 b.x4,.int .i64 b.x5,.int .i64 b.x6,.int .i64 b.x7,.bool b.ch,.bool b.od]
def RecAt (w:World) (bk j:Nat) (r:Dt):Prop:=∃fa fc ba bc ta tc,Flds w fa r.fs.length r.fs∧Nums .u8 w ba r.body.length (r.body.map fun c=>(c.toNat:Int))∧Flds w ta r.ts.length r.ts∧
 w.cell? ⟨bk,j,none⟩=some (.string r.m)∧w.cell? ⟨bk,j+1,none⟩=some (.string r.x)∧w.cell? ⟨bk,j+2,none⟩=some (.int .i64 r.k)∧w.cell? ⟨bk,j+3,none⟩=some (.slice fa r.fs.length fc)∧
 w.cell? ⟨bk,j+4,none⟩=some (.bool r.ch)∧w.cell? ⟨bk,j+5,none⟩=some (.slice ba r.body.length bc)∧w.cell? ⟨bk,j+6,none⟩=some (.slice ta r.ts.length tc)
def Said (w:World) (o:Value) (out:List Dt):Prop:=∃a c,o=.slice a out.length c∧(0<out.length→∃bk,a=some ⟨bk,0,none⟩∧bk<w.heap.size∧∀k (hk:k<out.length),RecAt w bk (k*7) out[k])
theorem Told.said {L:List (Option Nat)} {B:Zone} {w:World} {o:Value} {out:List Dt} (h:Told L B w o out):Said w o out:=h.at
theorem RecAt.below {w w':World} {bk j:Nat} {r:Dt} (h:RecAt w bk j r) (hlt:bk<w.heap.size) (hb:Below w.heap.size w w'):RecAt w' bk j r:=by obtain ⟨fa,fc,ba,bc,ta,tc,f1,f2,f3,c0,c1,c2,c3,c4,c5,c6⟩:=h;exact ⟨fa,fc,ba,bc,ta,tc,f1.below hb,f2.below hb,f3.below hb,(hb.cell (p:=⟨bk,j,none⟩) hlt).trans c0,(hb.cell (p:=⟨bk,j+1,none⟩) hlt).trans c1,(hb.cell (p:=⟨bk,j+2,none⟩) hlt).trans c2,(hb.cell (p:=⟨bk,j+3,none⟩) hlt).trans c3,(hb.cell (p:=⟨bk,j+4,none⟩) hlt).trans c4,(hb.cell (p:=⟨bk,j+5,none⟩) hlt).trans c5,(hb.cell (p:=⟨bk,j+6,none⟩) hlt).trans c6⟩
theorem Said.below {w w':World} {o:Value} {out:List Dt} (h:Said w o out) (hb:Below w.heap.size w w'):Said w' o out:=by obtain ⟨a,c,e,hc⟩:=h;refine ⟨a,c,e,fun h0=>?_⟩;obtain ⟨bk,e1,hlt,h1⟩:=hc h0;exact ⟨bk,e1,CU hlt hb.size,fun k hk=>(h1 k hk).below hlt hb⟩
abbrev bytesV (l:List UInt8):Array Value:=(l.map fun c=>Value.int .u8 (c.toNat:Int)).toArray
theorem Bts.lit {L:List (Option Nat)} {w:World} (hin:In w L) (l:List UInt8) (V:Array Value) (hV:V=bytesV l) (ty:TypeId) (fr:Nat × Nat):Bts L (w.alloc (.cells V ty fr)) (some ⟨w.heap.size,0,none⟩) l:=by
 subst hV;refine ⟨⟨by simp,fun h0=>⟨w.heap.size,0,rfl,by simp,fun k hk=>?_⟩⟩,fun ad e=>?_⟩
 ·rw [CW,cell_of_row _ _ k _ ty fr (heap_alloc_new _ _)];simp [bytesV,hk]
 ·obtain rfl:ad=⟨w.heap.size,0,none⟩:=by simpa using e.symm
  exact ⟨fun hm=>by have:w.heap.size<w.heap.size:=hin _ hm;omega,by simp⟩
theorem Bts.alloc {L:List (Option Nat)} {w:World} {a:Option Addr} {l:List UInt8} (h:Bts L w a l) (o:Obj):Bts L (w.alloc o) a l:=h.step (D9 ((Am _ _).alloc (CQ _) _))
theorem Parts.two {L:List (Option Nat)} {w:World} {a a':Option Addr} {c c':Nat} {l l':List UInt8} (h:Bts L w a l) (h':Bts L w a' l') (hin:In w L) (ty:TypeId):Parts L (w.alloc (.cells #[.slice a l.length c,.slice a' l'.length c'] ty)) (some ⟨w.heap.size,0,none⟩) [l,l']:=by
 have hb:Below w.heap.size w (w.alloc (.cells #[.slice a l.length c,.slice a' l'.length c'] ty)):=(Am _ _).alloc (CQ _) _;refine ⟨fun _=>⟨w.heap.size,0,rfl,by simp,fun hm=>by have:=hin _ hm;omega,fun k hk=>?_⟩⟩;have hk:k<2:=hk
 have hr:=fun j=>cell_of_row (w.alloc (.cells #[.slice a l.length c,.slice a' l'.length c'] ty)) w.heap.size j _ ty (0,0) (heap_alloc_new w _);rcases (by omega:k=0∨k=1) with rfl | rfl
 ·exact ⟨a,c,(hr 0).trans rfl,h.step (D9 hb)⟩
 ·exact ⟨a',c',(hr 1).trans rfl,h'.step (D9 hb)⟩
theorem in_alloc {L:List (Option Nat)} {w:World} (h:In w L) (o:Obj):In (w.alloc o) L:=h.mono (by simp)
theorem in_nil (w:World):In w []:=fun k hk=>by cases hk
theorem read_said {p:Nat} (hp:p<4294967296) (b:Bd) (w:World) (a:Option Addr) (c:Nat) (l:List UInt8) (hl:Bts [] w a l) (hn:l.length≤400000000) (e:Nat) (cl:Bool) (out:List Dt) (he:(Q.read p b l).err=e) (hc:(Q.read p b l).clean=cl) (ho:(Q.read p b l).out=out):Calls EG 49 #[.int .u32 (p:Int),bdV b,.slice a l.length c] w fun r w'=>
 ∃o,r=.returned (.tuple #[o,.int .i64 (e:Int),.bool cl])∧Said w' o out∧Below w.heap.size w w':=by
 refine (read_any (b:=b) hp w a c l hl hn).mono ?_;rintro r w' ⟨o,L,B0,rfl,hT,hb⟩;rw [he,hc];rw [ho] at hT;exact ⟨o,rfl,hT.said,hb⟩
end Go.Proofs.YtldhlecknfomjaaGreatDoor.Pg
namespace Go.Proofs.YtldhlecknfomjaaGreatDoor.Pg
open Go.RowKit Base Txt Mem Par
theorem k1_all:(Q.read 0 usual [80,79,83,84,32,47,97,32,72,84,84,80,47,49,46,49,13,10,72,111,115,116,58,32,104,13,10,84,114,97,110,115,102,101,114,45,69,110,99,111,100,105,110,103,58,32,99,104,117,110,107,101,100,13,10,13,10,51,13,10,97,98,99,13,10,48,13,10,84,58,32,117,13,10,13,10,71]).err=0∧(Q.read 0 usual [80,79,83,84,32,47,97,32,72,84,84,80,47,49,46,49,13,10,72,111,115,116,58,32,104,13,10,84,114,97,110,115,102,101,114,45,69,110,99,111,100,105,110,103,58,32,99,104,117,110,107,101,100,13,10,13,10,51,13,10,97,98,99,13,10,48,13,10,84,58,32,117,13,10,13,10,71]).clean=false∧(Q.read 0 usual [80,79,83,84,32,47,97,32,72,84,84,80,47,49,46,49,13,10,72,111,115,116,58,32,104,13,10,84,114,97,110,115,102,101,114,45,69,110,99,111,100,105,110,103,58,32,99,104,117,110,107,101,100,13,10,13,10,51,13,10,97,98,99,13,10,48,13,10,84,58,32,117,13,10,13,10,71]).out.map (fun r=>(r.body,r.ts.length,r.ch))= [([97,98,99],1,true)]∧(Q.read 0 usual [80,79,83,84,32,47,97,32,72,84,84,80,47,49,46,49,13,10,72,111,115,116,58,32,104,13,10,84,114,97,110,115,102,101,114,45,69,110,99,111,100,105,110,103,58,32,99,104,117,110,107,101,100,13,10,13,10,51,13,10,97,98,99,13,10,48,13,10,84,58,32,117,13,10,13,10,71]).out.length=1:=by decide +kernel
theorem k1_out:∃r:Dt,(Q.read 0 usual [80,79,83,84,32,47,97,32,72,84,84,80,47,49,46,49,13,10,72,111,115,116,58,32,104,13,10,84,114,97,110,115,102,101,114,45,69,110,99,111,100,105,110,103,58,32,99,104,117,110,107,101,100,13,10,13,10,51,13,10,97,98,99,13,10,48,13,10,84,58,32,117,13,10,13,10,71]).out= [r]∧r.body= [97,98,99]∧r.ts.length=1∧r.ch=true:=by
 have h:=k1_all.2.2.1;obtain ⟨r,hr⟩:=List.length_eq_one_iff.1 k1_all.2.2.2;rw [hr] at h;have h2:(r.body,r.ts.length,r.ch)=([97,98,99],1,true):=by injection h
 exact ⟨r,hr,congrArg Prod.fst h2,congrArg (fun x=>x.2.1) h2,congrArg (fun x=>x.2.2) h2⟩
theorem k2_all:(Q.read 0 usual [71,69,84,32,47,32,72,84,84,80,47,49,46,49,10]).err=400∧(Q.read 0 usual [71,69,84,32,47,32,72,84,84,80,47,49,46,49,10]).clean=false∧(Q.read 0 usual [71,69,84,32,47,32,72,84,84,80,47,49,46,49,10]).out.length=0:=by decide +kernel
theorem k3_all:(Q.read 0 usual ([80,79,83,84,32,47,32,72,84,84,80,47,49,46,49,13,10,72,111,115,116,58,32,104,13,10,69,120,112,101,99,116,58,32,49,48,48,45,99,111,110,116,105,110,117,101,13,10] ++ [67,111,110,116,101,110,116,45,76,101,110,103,116,104,58,32,50,13,10,13,10])).waits=true∧(Q.read 0 usual ([80,79,83,84,32,47,32,72,84,84,80,47,49,46,49,13,10,72,111,115,116,58,32,104,13,10,69,120,112,101,99,116,58,32,49,48,48,45,99,111,110,116,105,110,117,101,13,10] ++ [67,111,110,116,101,110,116,45,76,101,110,103,116,104,58,32,50,13,10,13,10])).held=43∧(Q.read 0 usual ([80,79,83,84,32,47,32,72,84,84,80,47,49,46,49,13,10,72,111,115,116,58,32,104,13,10,69,120,112,101,99,116,58,32,49,48,48,45,99,111,110,116,105,110,117,101,13,10] ++ [67,111,110,116,101,110,116,45,76,101,110,103,116,104,58,32,50,13,10,13,10])).out.length=0∧((Q.read 0 usual ([80,79,83,84,32,47,32,72,84,84,80,47,49,46,49,13,10,72,111,115,116,58,32,104,13,10,69,120,112,101,99,116,58,32,49,48,48,45,99,111,110,116,105,110,117,101,13,10] ++ [67,111,110,116,101,110,116,45,76,101,110,103,116,104,58,32,50,13,10,13,10])).told.feed 0 usual [97,98]).out.length=1∧
 ((Q.read 0 usual ([80,79,83,84,32,47,32,72,84,84,80,47,49,46,49,13,10,72,111,115,116,58,32,104,13,10,69,120,112,101,99,116,58,32,49,48,48,45,99,111,110,116,105,110,117,101,13,10] ++ [67,111,110,116,101,110,116,45,76,101,110,103,116,104,58,32,50,13,10,13,10])).told.feed 0 usual [97,98]).clean=true∧((Q.read 0 usual ([80,79,83,84,32,47,32,72,84,84,80,47,49,46,49,13,10,72,111,115,116,58,32,104,13,10,69,120,112,101,99,116,58,32,49,48,48,45,99,111,110,116,105,110,117,101,13,10] ++ [67,111,110,116,101,110,116,45,76,101,110,103,116,104,58,32,50,13,10,13,10])).told.feed 0 usual [97,98]).err=0∧((Q.read 0 usual ([80,79,83,84,32,47,32,72,84,84,80,47,49,46,49,13,10,72,111,115,116,58,32,104,13,10,69,120,112,101,99,116,58,32,49,48,48,45,99,111,110,116,105,110,117,101,13,10] ++ [67,111,110,116,101,110,116,45,76,101,110,103,116,104,58,32,50,13,10,13,10])).told.feed 0 usual [97,98]).held=0:=by decide +kernel
section code
set_option maxHeartbeats 8000000
set_option maxRecDepth 100000
attribute [local go_sem] Al
theorem feed_said {p:Nat} {b:Bd} {w:World} {B:Zone} {g:Nat} {L:List (Option Nat)} {x:Q} (hp:p<4294967296) (h:At w B g p b L x) (ok:x.Ok b) (hw:x.out= []) (a:Option Addr) (ca:Nat) (ls:List (List UInt8)) (hl:Parts L w a ls) (hn:ls.length≤1000000) (hle:ls.flatten.length≤400000000) :
 Calls EG 39 #[ptr g,.slice a ls.length ca] w fun r w'=>∃o L',r=.returned o∧At w' B g p b L' (x.feed p b ls.flatten).told∧(x.feed p b ls.flatten).told.Ok b∧(x.feed p b ls.flatten).told.out= []∧Said w' o (x.feed p b ls.flatten).out∧Step L L' w w':=by
 refine (feed_any hp x h ok a ca ls hl hn (by rw [hw];simp only [List.length_nil];omega)).mono ?_;rintro r w' ⟨o,L',rfl,h1,h2,h3⟩;exact ⟨o,L',rfl,h1,told_ok (Q.Ok.feed _ ok),told_out _,h2.said,h3⟩
theorem known_any (w:World):Calls EG 34 #[] w fun e w'=>e=.returned (.bool true)∧Below w.heap.size w w':=by
 obtain ⟨r1,ho1,hbd1,hts1,hch1⟩:=k1_out;have ho2:(Q.read 0 usual [71,69,84,32,47,32,72,84,84,80,47,49,46,49,10]).out= []:=BM k2_all.2.2;have hc1:∀w:World,(convert 23 23 (.slice (some ⟨w.heap.size,0,none⟩) 77 77)).run EG (w.alloc (.cells #[.int .u8 80,.int .u8 79,.int .u8 83,.int .u8 84,.int .u8 32,.int .u8 47,.int .u8 97,.int .u8 32,.int .u8 72,.int .u8 84,.int .u8 84,.int .u8 80,.int .u8 47,.int .u8 49,.int .u8 46,.int .u8 49,.int .u8 13,.int .u8 10,.int .u8 72,.int .u8 111,.int .u8 115,.int .u8 116,.int .u8 58,.int .u8 32,.int .u8 104,.int .u8 13,.int .u8 10,.int .u8 84,.int .u8 114,.int .u8 97,.int .u8 110,.int .u8 115,.int .u8 102,.int .u8 101,.int .u8 114,.int .u8 45,.int .u8 69,.int .u8 110,.int .u8 99,.int .u8 111,.int .u8 100,.int .u8 105,.int .u8 110,.int .u8 103,.int .u8 58,.int .u8 32,.int .u8 99,.int .u8 104,.int .u8 117,.int .u8 110,.int .u8 107,.int .u8 101,.int .u8 100,.int .u8 13,.int .u8 10,.int .u8 13,.int .u8 10,.int .u8 51,.int .u8 13,.int .u8 10,.int .u8 97,.int .u8 98,.int .u8 99,.int .u8 13,.int .u8 10,.int .u8 48,.int .u8 13,.int .u8 10,.int .u8 84,.int .u8 58,.int .u8 32,.int .u8 117,.int .u8 13,.int .u8 10,.int .u8 13,.int .u8 10,.int .u8 71] 5))=.ok (.slice (some ⟨w.heap.size,0,none⟩) 77 77) (w.alloc (.cells #[.int .u8 80,.int .u8 79,.int .u8 83,.int .u8 84,.int .u8 32,.int .u8 47,.int .u8 97,.int .u8 32,.int .u8 72,.int .u8 84,.int .u8 84,.int .u8 80,.int .u8 47,.int .u8 49,.int .u8 46,.int .u8 49,.int .u8 13,.int .u8 10,.int .u8 72,.int .u8 111,.int .u8 115,.int .u8 116,.int .u8 58,.int .u8 32,.int .u8 104,.int .u8 13,.int .u8 10,.int .u8 84,.int .u8 114,.int .u8 97,.int .u8 110,.int .u8 115,.int .u8 102,.int .u8 101,.int .u8 114,.int .u8 45,.int .u8 69,.int .u8 110,.int .u8 99,.int .u8 111,.int .u8 100,.int .u8 105,.int .u8 110,.int .u8 103,.int .u8 58,.int .u8 32,.int .u8 99,.int .u8 104,.int .u8 117,.int .u8 110,.int .u8 107,.int .u8 101,.int .u8 100,.int .u8 13,.int .u8 10,.int .u8 13,.int .u8 10,.int .u8 51,.int .u8 13,.int .u8 10,.int .u8 97,.int .u8 98,.int .u8 99,.int .u8 13,.int .u8 10,.int .u8 48,.int .u8 13,.int .u8 10,.int .u8 84,.int .u8 58,.int .u8 32,.int .u8 117,.int .u8 13,.int .u8 10,.int .u8 13,.int .u8 10,.int .u8 71] 5 (77,78))):=fun w=>Lib.run_convert_bytes_const w 23 5 #[.int .u8 80,.int .u8 79,.int .u8 83,.int .u8 84,.int .u8 32,.int .u8 47,.int .u8 97,.int .u8 32,.int .u8 72,.int .u8 84,.int .u8 84,.int .u8 80,.int .u8 47,.int .u8 49,.int .u8 46,.int .u8 49,.int .u8 13,.int .u8 10,.int .u8 72,.int .u8 111,.int .u8 115,.int .u8 116,.int .u8 58,.int .u8 32,.int .u8 104,.int .u8 13,.int .u8 10,.int .u8 84,.int .u8 114,.int .u8 97,.int .u8 110,.int .u8 115,.int .u8 102,.int .u8 101,.int .u8 114,.int .u8 45,.int .u8 69,.int .u8 110,.int .u8 99,.int .u8 111,.int .u8 100,.int .u8 105,.int .u8 110,.int .u8 103,.int .u8 58,.int .u8 32,.int .u8 99,.int .u8 104,.int .u8 117,.int .u8 110,.int .u8 107,.int .u8 101,.int .u8 100,.int .u8 13,.int .u8 10,.int .u8 13,.int .u8 10,.int .u8 51,.int .u8 13,.int .u8 10,.int .u8 97,.int .u8 98,.int .u8 99,.int .u8 13,.int .u8 10,.int .u8 48,.int .u8 13,.int .u8 10,.int .u8 84,.int .u8 58,.int .u8 32,.int .u8 117,.int .u8 13,.int .u8 10,.int .u8 13,.int .u8 10,.int .u8 71] 77 77 Fh Fp
 have hc2:∀w:World,(convert 23 23 (.slice (some ⟨w.heap.size,0,none⟩) 15 15)).run EG (w.alloc (.cells #[.int .u8 71,.int .u8 69,.int .u8 84,.int .u8 32,.int .u8 47,.int .u8 32,.int .u8 72,.int .u8 84,.int .u8 84,.int .u8 80,.int .u8 47,.int .u8 49,.int .u8 46,.int .u8 49,.int .u8 10] 5))=.ok (.slice (some ⟨w.heap.size,0,none⟩) 15 15) (w.alloc (.cells #[.int .u8 71,.int .u8 69,.int .u8 84,.int .u8 32,.int .u8 47,.int .u8 32,.int .u8 72,.int .u8 84,.int .u8 84,.int .u8 80,.int .u8 47,.int .u8 49,.int .u8 46,.int .u8 49,.int .u8 10] 5 (15,16))):=fun w=>Lib.run_convert_bytes_const w 23 5 #[.int .u8 71,.int .u8 69,.int .u8 84,.int .u8 32,.int .u8 47,.int .u8 32,.int .u8 72,.int .u8 84,.int .u8 84,.int .u8 80,.int .u8 47,.int .u8 49,.int .u8 46,.int .u8 49,.int .u8 10] 15 15 Fh Fp
 have hc3:∀w:World,(convert 23 23 (.slice (some ⟨w.heap.size,0,none⟩) 48 48)).run EG (w.alloc (.cells #[.int .u8 80,.int .u8 79,.int .u8 83,.int .u8 84,.int .u8 32,.int .u8 47,.int .u8 32,.int .u8 72,.int .u8 84,.int .u8 84,.int .u8 80,.int .u8 47,.int .u8 49,.int .u8 46,.int .u8 49,.int .u8 13,.int .u8 10,.int .u8 72,.int .u8 111,.int .u8 115,.int .u8 116,.int .u8 58,.int .u8 32,.int .u8 104,.int .u8 13,.int .u8 10,.int .u8 69,.int .u8 120,.int .u8 112,.int .u8 101,.int .u8 99,.int .u8 116,.int .u8 58,.int .u8 32,.int .u8 49,.int .u8 48,.int .u8 48,.int .u8 45,.int .u8 99,.int .u8 111,.int .u8 110,.int .u8 116,.int .u8 105,.int .u8 110,.int .u8 117,.int .u8 101,.int .u8 13,.int .u8 10] 5))=.ok (.slice (some ⟨w.heap.size,0,none⟩) 48 48) (w.alloc (.cells #[.int .u8 80,.int .u8 79,.int .u8 83,.int .u8 84,.int .u8 32,.int .u8 47,.int .u8 32,.int .u8 72,.int .u8 84,.int .u8 84,.int .u8 80,.int .u8 47,.int .u8 49,.int .u8 46,.int .u8 49,.int .u8 13,.int .u8 10,.int .u8 72,.int .u8 111,.int .u8 115,.int .u8 116,.int .u8 58,.int .u8 32,.int .u8 104,.int .u8 13,.int .u8 10,.int .u8 69,.int .u8 120,.int .u8 112,.int .u8 101,.int .u8 99,.int .u8 116,.int .u8 58,.int .u8 32,.int .u8 49,.int .u8 48,.int .u8 48,.int .u8 45,.int .u8 99,.int .u8 111,.int .u8 110,.int .u8 116,.int .u8 105,.int .u8 110,.int .u8 117,.int .u8 101,.int .u8 13,.int .u8 10] 5 (48,49))):=fun w=>Lib.run_convert_bytes_const w 23 5 #[.int .u8 80,.int .u8 79,.int .u8 83,.int .u8 84,.int .u8 32,.int .u8 47,.int .u8 32,.int .u8 72,.int .u8 84,.int .u8 84,.int .u8 80,.int .u8 47,.int .u8 49,.int .u8 46,.int .u8 49,.int .u8 13,.int .u8 10,.int .u8 72,.int .u8 111,.int .u8 115,.int .u8 116,.int .u8 58,.int .u8 32,.int .u8 104,.int .u8 13,.int .u8 10,.int .u8 69,.int .u8 120,.int .u8 112,.int .u8 101,.int .u8 99,.int .u8 116,.int .u8 58,.int .u8 32,.int .u8 49,.int .u8 48,.int .u8 48,.int .u8 45,.int .u8 99,.int .u8 111,.int .u8 110,.int .u8 116,.int .u8 105,.int .u8 110,.int .u8 117,.int .u8 101,.int .u8 13,.int .u8 10] 48 48 Fh Fp
 have hc4:∀w:World,(convert 23 23 (.slice (some ⟨w.heap.size,0,none⟩) 21 21)).run EG (w.alloc (.cells #[.int .u8 67,.int .u8 111,.int .u8 110,.int .u8 116,.int .u8 101,.int .u8 110,.int .u8 116,.int .u8 45,.int .u8 76,.int .u8 101,.int .u8 110,.int .u8 103,.int .u8 116,.int .u8 104,.int .u8 58,.int .u8 32,.int .u8 50,.int .u8 13,.int .u8 10,.int .u8 13,.int .u8 10] 5))=.ok (.slice (some ⟨w.heap.size,0,none⟩) 21 21) (w.alloc (.cells #[.int .u8 67,.int .u8 111,.int .u8 110,.int .u8 116,.int .u8 101,.int .u8 110,.int .u8 116,.int .u8 45,.int .u8 76,.int .u8 101,.int .u8 110,.int .u8 103,.int .u8 116,.int .u8 104,.int .u8 58,.int .u8 32,.int .u8 50,.int .u8 13,.int .u8 10,.int .u8 13,.int .u8 10] 5 (21,22))):=fun w=>Lib.run_convert_bytes_const w 23 5 #[.int .u8 67,.int .u8 111,.int .u8 110,.int .u8 116,.int .u8 101,.int .u8 110,.int .u8 116,.int .u8 45,.int .u8 76,.int .u8 101,.int .u8 110,.int .u8 103,.int .u8 116,.int .u8 104,.int .u8 58,.int .u8 32,.int .u8 50,.int .u8 13,.int .u8 10,.int .u8 13,.int .u8 10] 21 21 Fh Fp
 have hc5:∀w:World,(convert 23 23 (.slice (some ⟨w.heap.size,0,none⟩) 2 2)).run EG (w.alloc (.cells #[.int .u8 97,.int .u8 98] 5))=.ok (.slice (some ⟨w.heap.size,0,none⟩) 2 2) (w.alloc (.cells #[.int .u8 97,.int .u8 98] 5 (2,3))):=fun w=>Lib.run_convert_bytes_const w 23 5 #[.int .u8 97,.int .u8 98] 2 2 Fh Fp
 have HK1:Hid (∀w:World,Calls EG 49 #[.int .u32 0,.agg #[.int .i64 1024,.int .i64 32,.int .i64 8192,.int .i64 65536,.int .i64 32,.int .i64 8,.int .i64 4,.int .i64 20,.bool true,.bool true],.slice (some ⟨w.heap.size,0,none⟩) 77 77] (w.alloc (.cells #[.int .u8 80,.int .u8 79,.int .u8 83,.int .u8 84,.int .u8 32,.int .u8 47,.int .u8 97,.int .u8 32,.int .u8 72,.int .u8 84,.int .u8 84,.int .u8 80,.int .u8 47,.int .u8 49,.int .u8 46,.int .u8 49,.int .u8 13,.int .u8 10,.int .u8 72,.int .u8 111,.int .u8 115,.int .u8 116,.int .u8 58,.int .u8 32,.int .u8 104,.int .u8 13,.int .u8 10,.int .u8 84,.int .u8 114,.int .u8 97,.int .u8 110,.int .u8 115,.int .u8 102,.int .u8 101,.int .u8 114,.int .u8 45,.int .u8 69,.int .u8 110,.int .u8 99,.int .u8 111,.int .u8 100,.int .u8 105,.int .u8 110,.int .u8 103,.int .u8 58,.int .u8 32,.int .u8 99,.int .u8 104,.int .u8 117,.int .u8 110,.int .u8 107,.int .u8 101,.int .u8 100,.int .u8 13,.int .u8 10,.int .u8 13,.int .u8 10,.int .u8 51,.int .u8 13,.int .u8 10,.int .u8 97,.int .u8 98,.int .u8 99,.int .u8 13,.int .u8 10,.int .u8 48,.int .u8 13,.int .u8 10,.int .u8 84,.int .u8 58,.int .u8 32,.int .u8 117,.int .u8 13,.int .u8 10,.int .u8 13,.int .u8 10,.int .u8 71] 5 (77,78))) fun r w'=>
  ∃o,r=.returned (.tuple #[o,.int .i64 0,.bool false])∧Said w' o [r1]∧Below (w.heap.size+1) (w.alloc (.cells #[.int .u8 80,.int .u8 79,.int .u8 83,.int .u8 84,.int .u8 32,.int .u8 47,.int .u8 97,.int .u8 32,.int .u8 72,.int .u8 84,.int .u8 84,.int .u8 80,.int .u8 47,.int .u8 49,.int .u8 46,.int .u8 49,.int .u8 13,.int .u8 10,.int .u8 72,.int .u8 111,.int .u8 115,.int .u8 116,.int .u8 58,.int .u8 32,.int .u8 104,.int .u8 13,.int .u8 10,.int .u8 84,.int .u8 114,.int .u8 97,.int .u8 110,.int .u8 115,.int .u8 102,.int .u8 101,.int .u8 114,.int .u8 45,.int .u8 69,.int .u8 110,.int .u8 99,.int .u8 111,.int .u8 100,.int .u8 105,.int .u8 110,.int .u8 103,.int .u8 58,.int .u8 32,.int .u8 99,.int .u8 104,.int .u8 117,.int .u8 110,.int .u8 107,.int .u8 101,.int .u8 100,.int .u8 13,.int .u8 10,.int .u8 13,.int .u8 10,.int .u8 51,.int .u8 13,.int .u8 10,.int .u8 97,.int .u8 98,.int .u8 99,.int .u8 13,.int .u8 10,.int .u8 48,.int .u8 13,.int .u8 10,.int .u8 84,.int .u8 58,.int .u8 32,.int .u8 117,.int .u8 13,.int .u8 10,.int .u8 13,.int .u8 10,.int .u8 71] 5 (77,78))) w'):=Bo fun w=>by
  have h:=read_said (p:=0) (by decide) usual (w.alloc (.cells #[.int .u8 80,.int .u8 79,.int .u8 83,.int .u8 84,.int .u8 32,.int .u8 47,.int .u8 97,.int .u8 32,.int .u8 72,.int .u8 84,.int .u8 84,.int .u8 80,.int .u8 47,.int .u8 49,.int .u8 46,.int .u8 49,.int .u8 13,.int .u8 10,.int .u8 72,.int .u8 111,.int .u8 115,.int .u8 116,.int .u8 58,.int .u8 32,.int .u8 104,.int .u8 13,.int .u8 10,.int .u8 84,.int .u8 114,.int .u8 97,.int .u8 110,.int .u8 115,.int .u8 102,.int .u8 101,.int .u8 114,.int .u8 45,.int .u8 69,.int .u8 110,.int .u8 99,.int .u8 111,.int .u8 100,.int .u8 105,.int .u8 110,.int .u8 103,.int .u8 58,.int .u8 32,.int .u8 99,.int .u8 104,.int .u8 117,.int .u8 110,.int .u8 107,.int .u8 101,.int .u8 100,.int .u8 13,.int .u8 10,.int .u8 13,.int .u8 10,.int .u8 51,.int .u8 13,.int .u8 10,.int .u8 97,.int .u8 98,.int .u8 99,.int .u8 13,.int .u8 10,.int .u8 48,.int .u8 13,.int .u8 10,.int .u8 84,.int .u8 58,.int .u8 32,.int .u8 117,.int .u8 13,.int .u8 10,.int .u8 13,.int .u8 10,.int .u8 71] 5 (77,78))) (some ⟨w.heap.size,0,none⟩) 77 [80,79,83,84,32,47,97,32,72,84,84,80,47,49,46,49,13,10,72,111,115,116,58,32,104,13,10,84,114,97,110,115,102,101,114,45,69,110,99,111,100,105,110,103,58,32,99,104,117,110,107,101,100,13,10,13,10,51,13,10,97,98,99,13,10,48,13,10,84,58,32,117,13,10,13,10,71] (Bts.lit (in_nil w) [80,79,83,84,32,47,97,32,72,84,84,80,47,49,46,49,13,10,72,111,115,116,58,32,104,13,10,84,114,97,110,115,102,101,114,45,69,110,99,111,100,105,110,103,58,32,99,104,117,110,107,101,100,13,10,13,10,51,13,10,97,98,99,13,10,48,13,10,84,58,32,117,13,10,13,10,71] #[.int .u8 80,.int .u8 79,.int .u8 83,.int .u8 84,.int .u8 32,.int .u8 47,.int .u8 97,.int .u8 32,.int .u8 72,.int .u8 84,.int .u8 84,.int .u8 80,.int .u8 47,.int .u8 49,.int .u8 46,.int .u8 49,.int .u8 13,.int .u8 10,.int .u8 72,.int .u8 111,.int .u8 115,.int .u8 116,.int .u8 58,.int .u8 32,.int .u8 104,.int .u8 13,.int .u8 10,.int .u8 84,.int .u8 114,.int .u8 97,.int .u8 110,.int .u8 115,.int .u8 102,.int .u8 101,.int .u8 114,.int .u8 45,.int .u8 69,.int .u8 110,.int .u8 99,.int .u8 111,.int .u8 100,.int .u8 105,.int .u8 110,.int .u8 103,.int .u8 58,.int .u8 32,.int .u8 99,.int .u8 104,.int .u8 117,.int .u8 110,.int .u8 107,.int .u8 101,.int .u8 100,.int .u8 13,.int .u8 10,.int .u8 13,.int .u8 10,.int .u8 51,.int .u8 13,.int .u8 10,.int .u8 97,.int .u8 98,.int .u8 99,.int .u8 13,.int .u8 10,.int .u8 48,.int .u8 13,.int .u8 10,.int .u8 84,.int .u8 58,.int .u8 32,.int .u8 117,.int .u8 13,.int .u8 10,.int .u8 13,.int .u8 10,.int .u8 71] (by kernel_rfl) 5 (77,78)) (by decide) 0 false [r1] k1_all.1 k1_all.2.1 ho1;have hs:(w.alloc (.cells #[.int .u8 80,.int .u8 79,.int .u8 83,.int .u8 84,.int .u8 32,.int .u8 47,.int .u8 97,.int .u8 32,.int .u8 72,.int .u8 84,.int .u8 84,.int .u8 80,.int .u8 47,.int .u8 49,.int .u8 46,.int .u8 49,.int .u8 13,.int .u8 10,.int .u8 72,.int .u8 111,.int .u8 115,.int .u8 116,.int .u8 58,.int .u8 32,.int .u8 104,.int .u8 13,.int .u8 10,.int .u8 84,.int .u8 114,.int .u8 97,.int .u8 110,.int .u8 115,.int .u8 102,.int .u8 101,.int .u8 114,.int .u8 45,.int .u8 69,.int .u8 110,.int .u8 99,.int .u8 111,.int .u8 100,.int .u8 105,.int .u8 110,.int .u8 103,.int .u8 58,.int .u8 32,.int .u8 99,.int .u8 104,.int .u8 117,.int .u8 110,.int .u8 107,.int .u8 101,.int .u8 100,.int .u8 13,.int .u8 10,.int .u8 13,.int .u8 10,.int .u8 51,.int .u8 13,.int .u8 10,.int .u8 97,.int .u8 98,.int .u8 99,.int .u8 13,.int .u8 10,.int .u8 48,.int .u8 13,.int .u8 10,.int .u8 84,.int .u8 58,.int .u8 32,.int .u8 117,.int .u8 13,.int .u8 10,.int .u8 13,.int .u8 10,.int .u8 71] 5 (77,78))).heap.size=w.heap.size+1:=by simp
  rw [hs] at h;exact h
 have HK2:Hid (∀w:World,Calls EG 49 #[.int .u32 0,.agg #[.int .i64 1024,.int .i64 32,.int .i64 8192,.int .i64 65536,.int .i64 32,.int .i64 8,.int .i64 4,.int .i64 20,.bool true,.bool true],.slice (some ⟨w.heap.size,0,none⟩) 15 15] (w.alloc (.cells #[.int .u8 71,.int .u8 69,.int .u8 84,.int .u8 32,.int .u8 47,.int .u8 32,.int .u8 72,.int .u8 84,.int .u8 84,.int .u8 80,.int .u8 47,.int .u8 49,.int .u8 46,.int .u8 49,.int .u8 10] 5 (15,16))) fun r w'=>
  ∃o,r=.returned (.tuple #[o,.int .i64 400,.bool false])∧Said w' o []∧Below (w.heap.size+1) (w.alloc (.cells #[.int .u8 71,.int .u8 69,.int .u8 84,.int .u8 32,.int .u8 47,.int .u8 32,.int .u8 72,.int .u8 84,.int .u8 84,.int .u8 80,.int .u8 47,.int .u8 49,.int .u8 46,.int .u8 49,.int .u8 10] 5 (15,16))) w'):=Bo fun w=>by
  have h:=read_said (p:=0) (by decide) usual (w.alloc (.cells #[.int .u8 71,.int .u8 69,.int .u8 84,.int .u8 32,.int .u8 47,.int .u8 32,.int .u8 72,.int .u8 84,.int .u8 84,.int .u8 80,.int .u8 47,.int .u8 49,.int .u8 46,.int .u8 49,.int .u8 10] 5 (15,16))) (some ⟨w.heap.size,0,none⟩) 15 [71,69,84,32,47,32,72,84,84,80,47,49,46,49,10] (Bts.lit (in_nil w) [71,69,84,32,47,32,72,84,84,80,47,49,46,49,10] #[.int .u8 71,.int .u8 69,.int .u8 84,.int .u8 32,.int .u8 47,.int .u8 32,.int .u8 72,.int .u8 84,.int .u8 84,.int .u8 80,.int .u8 47,.int .u8 49,.int .u8 46,.int .u8 49,.int .u8 10] (by kernel_rfl) 5 (15,16)) (by decide) 400 false [] k2_all.1 k2_all.2.1 ho2;have hs:(w.alloc (.cells #[.int .u8 71,.int .u8 69,.int .u8 84,.int .u8 32,.int .u8 47,.int .u8 32,.int .u8 72,.int .u8 84,.int .u8 84,.int .u8 80,.int .u8 47,.int .u8 49,.int .u8 46,.int .u8 49,.int .u8 10] 5 (15,16))).heap.size=w.heap.size+1:=by simp
  rw [hs] at h;exact h
 have HBD:=Bo hbd1;have HTS:=Bo hts1;have HCH:=Bo hch1;clear ho1 ho2 hbd1 hts1 hch1;go_enter Tryz.func34,Tryz.ntmps34
 go_upto_region 2 with (go_at_call 20;with_reducible refine (Bnd.rusual_any _).mono ?_;rintro r w1 ⟨rfl,hb⟩;have HB1:=Bo hb;clear hb)
 have HZ1:=Bo (Ds w1 w1.heap.size rfl 29 [.int .i64 1024,.int .i64 32,.int .i64 8192,.int .i64 65536,.int .i64 32,.int .i64 8,.int .i64 4,.int .i64 20,.bool true,.bool true])
 have HBW1:=Bo (HB1.out.alloc HB1.out.size (.cells #[.int .i64 1024,.int .i64 32,.int .i64 8192,.int .i64 65536,.int .i64 32,.int .i64 8,.int .i64 4,.int .i64 20,.bool true,.bool true] 29));generalize w1.alloc (.cells #[.int .i64 1024,.int .i64 32,.int .i64 8192,.int .i64 65536,.int .i64 32,.int .i64 8,.int .i64 4,.int .i64 20,.bool true,.bool true] 29)=W1 at *;generalize w1.heap.size=gB at *;have y0:=HZ1.out.c 0 _ rfl;have y1:=HZ1.out.c 1 _ rfl;have y2:=HZ1.out.c 2 _ rfl;have y3:=HZ1.out.c 3 _ rfl;have y4:=HZ1.out.c 4 _ rfl;have y5:=HZ1.out.c 5 _ rfl;have y6:=HZ1.out.c 6 _ rfl;have y7:=HZ1.out.c 7 _ rfl;have y8:=HZ1.out.c 8 _ rfl;have y9:=HZ1.out.c 9 _ rfl;go_upto_region 3 with
  (go_at_call 49;with_reducible refine (HK1.out _).mono ?_;rintro r w2 ⟨o1,rfl,hT,hb⟩
   have hb2:Below W1.heap.size W1 w2:=((Am _ _).alloc (CQ _) _).trans (hb.mono (CS _))
   have HT2:=Bo hT;have HZ2:=Bo (HZ1.out.below hb2);have HB2:=Bo (Ak HBW1.out hb2);clear hb hb2 hT y0 y1 y2 y3 y4 y5 y6 y7 y8 y9)
 have y0:=HZ2.out.c 0 _ rfl;have y1:=HZ2.out.c 1 _ rfl;have y2:=HZ2.out.c 2 _ rfl;have y3:=HZ2.out.c 3 _ rfl;have y4:=HZ2.out.c 4 _ rfl;have y5:=HZ2.out.c 5 _ rfl;have y6:=HZ2.out.c 6 _ rfl;have y7:=HZ2.out.c 7 _ rfl;have y8:=HZ2.out.c 8 _ rfl;have y9:=HZ2.out.c 9 _ rfl;clear HZ1 HBW1 HK1 hc1;go_upto_region 4 with
  (go_at_call 49;with_reducible refine (HK2.out _).mono ?_;rintro r w3 ⟨o2,rfl,hT,hb⟩
   have hb2:Below w2.heap.size w2 w3:=((Am _ _).alloc (CQ _) _).trans (hb.mono (CS _))
   have HT3:=Bo (HT2.out.below hb2);have HZ3:=Bo (HZ2.out.below hb2);have HB3:=Bo (Ak HB2.out hb2);clear hb hb2 hT y0 y1 y2 y3 y4 y5 y6 y7 y8 y9)
 have y0:=HZ3.out.c 0 _ rfl;have y1:=HZ3.out.c 1 _ rfl;have y2:=HZ3.out.c 2 _ rfl;have y3:=HZ3.out.c 3 _ rfl;have y4:=HZ3.out.c 4 _ rfl;have y5:=HZ3.out.c 5 _ rfl;have y6:=HZ3.out.c 6 _ rfl;have y7:=HZ3.out.c 7 _ rfl;have y8:=HZ3.out.c 8 _ rfl;have y9:=HZ3.out.c 9 _ rfl;clear HZ2 HB2 HT2 HK2 hc2
 have HNW:Hid (Calls EG 37 #[.int .u32 0,.agg #[.int .i64 1024,.int .i64 32,.int .i64 8192,.int .i64 65536,.int .i64 32,.int .i64 8,.int .i64 4,.int .i64 20,.bool true,.bool true]] w3 fun r w'=>∃g L',r=.returned (ptr g)∧w3.heap.size≤g∧At w' ⟨w3.heap.size,[]⟩ g 0 usual L' (Q.new 0 usual)∧Below w3.heap.size w3 w'):=Bo (new_any (p:=0) (b:=usual) (by decide) w3);go_upto_region 5 with
  (go_at_call 37;with_reducible refine HNW.out.mono ?_;rintro r w4 ⟨g,L4,rfl,hg,hA,hb⟩
   have HA4:=Bo hA;have HL4:=Bo hb;clear hA hb hg y0 y1 y2 y3 y4 y5 y6 y7 y8 y9)
 clear HZ3 HNW;go_upto_region 7 with fail
 have hc4w:=hc4 (w4.alloc (.cells #[.int .u8 80,.int .u8 79,.int .u8 83,.int .u8 84,.int .u8 32,.int .u8 47,.int .u8 32,.int .u8 72,.int .u8 84,.int .u8 84,.int .u8 80,.int .u8 47,.int .u8 49,.int .u8 46,.int .u8 49,.int .u8 13,.int .u8 10,.int .u8 72,.int .u8 111,.int .u8 115,.int .u8 116,.int .u8 58,.int .u8 32,.int .u8 104,.int .u8 13,.int .u8 10,.int .u8 69,.int .u8 120,.int .u8 112,.int .u8 101,.int .u8 99,.int .u8 116,.int .u8 58,.int .u8 32,.int .u8 49,.int .u8 48,.int .u8 48,.int .u8 45,.int .u8 99,.int .u8 111,.int .u8 110,.int .u8 116,.int .u8 105,.int .u8 110,.int .u8 117,.int .u8 101,.int .u8 13,.int .u8 10] 5 (48,49)));rw [show (w4.alloc (.cells #[.int .u8 80,.int .u8 79,.int .u8 83,.int .u8 84,.int .u8 32,.int .u8 47,.int .u8 32,.int .u8 72,.int .u8 84,.int .u8 84,.int .u8 80,.int .u8 47,.int .u8 49,.int .u8 46,.int .u8 49,.int .u8 13,.int .u8 10,.int .u8 72,.int .u8 111,.int .u8 115,.int .u8 116,.int .u8 58,.int .u8 32,.int .u8 104,.int .u8 13,.int .u8 10,.int .u8 69,.int .u8 120,.int .u8 112,.int .u8 101,.int .u8 99,.int .u8 116,.int .u8 58,.int .u8 32,.int .u8 49,.int .u8 48,.int .u8 48,.int .u8 45,.int .u8 99,.int .u8 111,.int .u8 110,.int .u8 116,.int .u8 105,.int .u8 110,.int .u8 117,.int .u8 101,.int .u8 13,.int .u8 10] 5 (48,49))).heap.size=w4.heap.size+1 by simp] at hc4w;clear hc4;have hP:Parts L4 (((w4.alloc (.cells #[.int .u8 80,.int .u8 79,.int .u8 83,.int .u8 84,.int .u8 32,.int .u8 47,.int .u8 32,.int .u8 72,.int .u8 84,.int .u8 84,.int .u8 80,.int .u8 47,.int .u8 49,.int .u8 46,.int .u8 49,.int .u8 13,.int .u8 10,.int .u8 72,.int .u8 111,.int .u8 115,.int .u8 116,.int .u8 58,.int .u8 32,.int .u8 104,.int .u8 13,.int .u8 10,.int .u8 69,.int .u8 120,.int .u8 112,.int .u8 101,.int .u8 99,.int .u8 116,.int .u8 58,.int .u8 32,.int .u8 49,.int .u8 48,.int .u8 48,.int .u8 45,.int .u8 99,.int .u8 111,.int .u8 110,.int .u8 116,.int .u8 105,.int .u8 110,.int .u8 117,.int .u8 101,.int .u8 13,.int .u8 10] 5 (48,49))).alloc (.cells #[.int .u8 67,.int .u8 111,.int .u8 110,.int .u8 116,.int .u8 101,.int .u8 110,.int .u8 116,.int .u8 45,.int .u8 76,.int .u8 101,.int .u8 110,.int .u8 103,.int .u8 116,.int .u8 104,.int .u8 58,.int .u8 32,.int .u8 50,.int .u8 13,.int .u8 10,.int .u8 13,.int .u8 10] 5 (21,22))).alloc (.cells #[.slice (some ⟨w4.heap.size,0,none⟩) 48 48,.slice (some ⟨w4.heap.size+1,0,none⟩) 21 21] 23)) (some ⟨w4.heap.size+2,0,none⟩) [[80,79,83,84,32,47,32,72,84,84,80,47,49,46,49,13,10,72,111,115,116,58,32,104,13,10,69,120,112,101,99,116,58,32,49,48,48,45,99,111,110,116,105,110,117,101,13,10],[67,111,110,116,101,110,116,45,76,101,110,103,116,104,58,32,50,13,10,13,10]]:=by
  have hin:=HA4.out.in
  have h1:=Bts.lit hin [80,79,83,84,32,47,32,72,84,84,80,47,49,46,49,13,10,72,111,115,116,58,32,104,13,10,69,120,112,101,99,116,58,32,49,48,48,45,99,111,110,116,105,110,117,101,13,10] #[.int .u8 80,.int .u8 79,.int .u8 83,.int .u8 84,.int .u8 32,.int .u8 47,.int .u8 32,.int .u8 72,.int .u8 84,.int .u8 84,.int .u8 80,.int .u8 47,.int .u8 49,.int .u8 46,.int .u8 49,.int .u8 13,.int .u8 10,.int .u8 72,.int .u8 111,.int .u8 115,.int .u8 116,.int .u8 58,.int .u8 32,.int .u8 104,.int .u8 13,.int .u8 10,.int .u8 69,.int .u8 120,.int .u8 112,.int .u8 101,.int .u8 99,.int .u8 116,.int .u8 58,.int .u8 32,.int .u8 49,.int .u8 48,.int .u8 48,.int .u8 45,.int .u8 99,.int .u8 111,.int .u8 110,.int .u8 116,.int .u8 105,.int .u8 110,.int .u8 117,.int .u8 101,.int .u8 13,.int .u8 10] (by kernel_rfl) 5 (48,49)
  have hin1:=in_alloc hin (.cells #[.int .u8 80,.int .u8 79,.int .u8 83,.int .u8 84,.int .u8 32,.int .u8 47,.int .u8 32,.int .u8 72,.int .u8 84,.int .u8 84,.int .u8 80,.int .u8 47,.int .u8 49,.int .u8 46,.int .u8 49,.int .u8 13,.int .u8 10,.int .u8 72,.int .u8 111,.int .u8 115,.int .u8 116,.int .u8 58,.int .u8 32,.int .u8 104,.int .u8 13,.int .u8 10,.int .u8 69,.int .u8 120,.int .u8 112,.int .u8 101,.int .u8 99,.int .u8 116,.int .u8 58,.int .u8 32,.int .u8 49,.int .u8 48,.int .u8 48,.int .u8 45,.int .u8 99,.int .u8 111,.int .u8 110,.int .u8 116,.int .u8 105,.int .u8 110,.int .u8 117,.int .u8 101,.int .u8 13,.int .u8 10] 5 (48,49))
  have h2:=Bts.lit hin1 [67,111,110,116,101,110,116,45,76,101,110,103,116,104,58,32,50,13,10,13,10] #[.int .u8 67,.int .u8 111,.int .u8 110,.int .u8 116,.int .u8 101,.int .u8 110,.int .u8 116,.int .u8 45,.int .u8 76,.int .u8 101,.int .u8 110,.int .u8 103,.int .u8 116,.int .u8 104,.int .u8 58,.int .u8 32,.int .u8 50,.int .u8 13,.int .u8 10,.int .u8 13,.int .u8 10] (by kernel_rfl) 5 (21,22);have e1:(w4.alloc (.cells #[.int .u8 80,.int .u8 79,.int .u8 83,.int .u8 84,.int .u8 32,.int .u8 47,.int .u8 32,.int .u8 72,.int .u8 84,.int .u8 84,.int .u8 80,.int .u8 47,.int .u8 49,.int .u8 46,.int .u8 49,.int .u8 13,.int .u8 10,.int .u8 72,.int .u8 111,.int .u8 115,.int .u8 116,.int .u8 58,.int .u8 32,.int .u8 104,.int .u8 13,.int .u8 10,.int .u8 69,.int .u8 120,.int .u8 112,.int .u8 101,.int .u8 99,.int .u8 116,.int .u8 58,.int .u8 32,.int .u8 49,.int .u8 48,.int .u8 48,.int .u8 45,.int .u8 99,.int .u8 111,.int .u8 110,.int .u8 116,.int .u8 105,.int .u8 110,.int .u8 117,.int .u8 101,.int .u8 13,.int .u8 10] 5 (48,49))).heap.size=w4.heap.size+1:=by simp
  have e2:((w4.alloc (.cells #[.int .u8 80,.int .u8 79,.int .u8 83,.int .u8 84,.int .u8 32,.int .u8 47,.int .u8 32,.int .u8 72,.int .u8 84,.int .u8 84,.int .u8 80,.int .u8 47,.int .u8 49,.int .u8 46,.int .u8 49,.int .u8 13,.int .u8 10,.int .u8 72,.int .u8 111,.int .u8 115,.int .u8 116,.int .u8 58,.int .u8 32,.int .u8 104,.int .u8 13,.int .u8 10,.int .u8 69,.int .u8 120,.int .u8 112,.int .u8 101,.int .u8 99,.int .u8 116,.int .u8 58,.int .u8 32,.int .u8 49,.int .u8 48,.int .u8 48,.int .u8 45,.int .u8 99,.int .u8 111,.int .u8 110,.int .u8 116,.int .u8 105,.int .u8 110,.int .u8 117,.int .u8 101,.int .u8 13,.int .u8 10] 5 (48,49))).alloc (.cells #[.int .u8 67,.int .u8 111,.int .u8 110,.int .u8 116,.int .u8 101,.int .u8 110,.int .u8 116,.int .u8 45,.int .u8 76,.int .u8 101,.int .u8 110,.int .u8 103,.int .u8 116,.int .u8 104,.int .u8 58,.int .u8 32,.int .u8 50,.int .u8 13,.int .u8 10,.int .u8 13,.int .u8 10] 5 (21,22))).heap.size=w4.heap.size+2:=by simp
  rw [e1] at h2;have h3:=Parts.two (c:=48) (c':=21) (h1.alloc (.cells #[.int .u8 67,.int .u8 111,.int .u8 110,.int .u8 116,.int .u8 101,.int .u8 110,.int .u8 116,.int .u8 45,.int .u8 76,.int .u8 101,.int .u8 110,.int .u8 103,.int .u8 116,.int .u8 104,.int .u8 58,.int .u8 32,.int .u8 50,.int .u8 13,.int .u8 10,.int .u8 13,.int .u8 10] 5 (21,22))) h2 (in_alloc hin1 _) 23;rw [e2] at h3;exact h3
 obtain ⟨W7,hW7⟩:∃W7,((w4.alloc (.cells #[.int .u8 80,.int .u8 79,.int .u8 83,.int .u8 84,.int .u8 32,.int .u8 47,.int .u8 32,.int .u8 72,.int .u8 84,.int .u8 84,.int .u8 80,.int .u8 47,.int .u8 49,.int .u8 46,.int .u8 49,.int .u8 13,.int .u8 10,.int .u8 72,.int .u8 111,.int .u8 115,.int .u8 116,.int .u8 58,.int .u8 32,.int .u8 104,.int .u8 13,.int .u8 10,.int .u8 69,.int .u8 120,.int .u8 112,.int .u8 101,.int .u8 99,.int .u8 116,.int .u8 58,.int .u8 32,.int .u8 49,.int .u8 48,.int .u8 48,.int .u8 45,.int .u8 99,.int .u8 111,.int .u8 110,.int .u8 116,.int .u8 105,.int .u8 110,.int .u8 117,.int .u8 101,.int .u8 13,.int .u8 10] 5 (48,49))).alloc (.cells #[.int .u8 67,.int .u8 111,.int .u8 110,.int .u8 116,.int .u8 101,.int .u8 110,.int .u8 116,.int .u8 45,.int .u8 76,.int .u8 101,.int .u8 110,.int .u8 103,.int .u8 116,.int .u8 104,.int .u8 58,.int .u8 32,.int .u8 50,.int .u8 13,.int .u8 10,.int .u8 13,.int .u8 10] 5 (21,22))).alloc (.cells #[.slice (some ⟨w4.heap.size,0,none⟩) 48 48,.slice (some ⟨w4.heap.size+1,0,none⟩) 21 21] 23)=W7:=⟨_,rfl⟩;have hb7:Below w4.heap.size w4 W7:=by
  rw [←hW7]
  exact ((((Am w4.heap.size w4).alloc (CQ _) (.cells #[.int .u8 80,.int .u8 79,.int .u8 83,.int .u8 84,.int .u8 32,.int .u8 47,.int .u8 32,.int .u8 72,.int .u8 84,.int .u8 84,.int .u8 80,.int .u8 47,.int .u8 49,.int .u8 46,.int .u8 49,.int .u8 13,.int .u8 10,.int .u8 72,.int .u8 111,.int .u8 115,.int .u8 116,.int .u8 58,.int .u8 32,.int .u8 104,.int .u8 13,.int .u8 10,.int .u8 69,.int .u8 120,.int .u8 112,.int .u8 101,.int .u8 99,.int .u8 116,.int .u8 58,.int .u8 32,.int .u8 49,.int .u8 48,.int .u8 48,.int .u8 45,.int .u8 99,.int .u8 111,.int .u8 110,.int .u8 116,.int .u8 105,.int .u8 110,.int .u8 117,.int .u8 101,.int .u8 13,.int .u8 10] 5 (48,49))).alloc (by simp) (.cells #[.int .u8 67,.int .u8 111,.int .u8 110,.int .u8 116,.int .u8 101,.int .u8 110,.int .u8 116,.int .u8 45,.int .u8 76,.int .u8 101,.int .u8 110,.int .u8 103,.int .u8 116,.int .u8 104,.int .u8 58,.int .u8 32,.int .u8 50,.int .u8 13,.int .u8 10,.int .u8 13,.int .u8 10] 5 (21,22))).alloc (by simp;omega) (.cells #[.slice (some ⟨w4.heap.size,0,none⟩) 48 48,.slice (some ⟨w4.heap.size+1,0,none⟩) 21 21] 23))
 rw [hW7] at hP
 have hf:=feed_said (by decide) (HA4.out.below hb7) (Q.new_ok 0 usual) (by unfold Q.new;split<;>rfl) (some ⟨w4.heap.size+2,0,none⟩) 2 [[80,79,83,84,32,47,32,72,84,84,80,47,49,46,49,13,10,72,111,115,116,58,32,104,13,10,69,120,112,101,99,116,58,32,49,48,48,45,99,111,110,116,105,110,117,101,13,10],[67,111,110,116,101,110,116,45,76,101,110,103,116,104,58,32,50,13,10,13,10]] hP (by decide) (by decide);rw [show ([[80,79,83,84,32,47,32,72,84,84,80,47,49,46,49,13,10,72,111,115,116,58,32,104,13,10,69,120,112,101,99,116,58,32,49,48,48,45,99,111,110,116,105,110,117,101,13,10],[67,111,110,116,101,110,116,45,76,101,110,103,116,104,58,32,50,13,10,13,10]]:List (List UInt8)).flatten= [80,79,83,84,32,47,32,72,84,84,80,47,49,46,49,13,10,72,111,115,116,58,32,104,13,10,69,120,112,101,99,116,58,32,49,48,48,45,99,111,110,116,105,110,117,101,13,10] ++ [67,111,110,116,101,110,116,45,76,101,110,103,116,104,58,32,50,13,10,13,10] from rfl] at hf;have k3:=k3_all;rw [show Q.feed 0 usual (Q.new 0 usual) ([80,79,83,84,32,47,32,72,84,84,80,47,49,46,49,13,10,72,111,115,116,58,32,104,13,10,69,120,112,101,99,116,58,32,49,48,48,45,99,111,110,116,105,110,117,101,13,10] ++ [67,111,110,116,101,110,116,45,76,101,110,103,116,104,58,32,50,13,10,13,10])=Q.read 0 usual ([80,79,83,84,32,47,32,72,84,84,80,47,49,46,49,13,10,72,111,115,116,58,32,104,13,10,69,120,112,101,99,116,58,32,49,48,48,45,99,111,110,116,105,110,117,101,13,10] ++ [67,111,110,116,101,110,116,45,76,101,110,103,116,104,58,32,50,13,10,13,10]) from rfl] at hf;obtain ⟨X,hX⟩:∃X,Q.read 0 usual ([80,79,83,84,32,47,32,72,84,84,80,47,49,46,49,13,10,72,111,115,116,58,32,104,13,10,69,120,112,101,99,116,58,32,49,48,48,45,99,111,110,116,105,110,117,101,13,10] ++ [67,111,110,116,101,110,116,45,76,101,110,103,116,104,58,32,50,13,10,13,10])=X:=⟨_,rfl⟩;rw [hX] at k3 hf
 have HF7:=Bo (show Calls EG 39 #[ptr g,.slice (some ⟨w4.heap.size+2,0,none⟩) 2 2] (((w4.alloc (.cells #[.int .u8 80,.int .u8 79,.int .u8 83,.int .u8 84,.int .u8 32,.int .u8 47,.int .u8 32,.int .u8 72,.int .u8 84,.int .u8 84,.int .u8 80,.int .u8 47,.int .u8 49,.int .u8 46,.int .u8 49,.int .u8 13,.int .u8 10,.int .u8 72,.int .u8 111,.int .u8 115,.int .u8 116,.int .u8 58,.int .u8 32,.int .u8 104,.int .u8 13,.int .u8 10,.int .u8 69,.int .u8 120,.int .u8 112,.int .u8 101,.int .u8 99,.int .u8 116,.int .u8 58,.int .u8 32,.int .u8 49,.int .u8 48,.int .u8 48,.int .u8 45,.int .u8 99,.int .u8 111,.int .u8 110,.int .u8 116,.int .u8 105,.int .u8 110,.int .u8 117,.int .u8 101,.int .u8 13,.int .u8 10] 5 (48,49))).alloc (.cells #[.int .u8 67,.int .u8 111,.int .u8 110,.int .u8 116,.int .u8 101,.int .u8 110,.int .u8 116,.int .u8 45,.int .u8 76,.int .u8 101,.int .u8 110,.int .u8 103,.int .u8 116,.int .u8 104,.int .u8 58,.int .u8 32,.int .u8 50,.int .u8 13,.int .u8 10,.int .u8 13,.int .u8 10] 5 (21,22))).alloc (.cells #[.slice (some ⟨w4.heap.size,0,none⟩) 48 48,.slice (some ⟨w4.heap.size+1,0,none⟩) 21 21] 23)) fun r w'=>∃o L',r=.returned o∧At w' ⟨w3.heap.size,[]⟩ g 0 usual L' X.told∧X.told.Ok usual∧X.told.out= []∧Said w' o X.out∧Step L4 L' W7 w' from by rw [hW7];exact hf);have HK3:=Bo k3;have HB7:=Bo hb7;clear hP hf hX k3 hb7 hW7;go_upto_region 8 with
  (go_at_call 39;with_reducible refine HF7.out.mono ?_;rintro r w5 ⟨o5,L5,rfl,hA5,hok5,ho5,hT5,hS5⟩
   have HA5:=Bo hA5;have HO5:=Bo hok5;have HE5:=Bo ho5
   have HL5:=Bo ((HL4.out.trans (HB7.out.mono HL4.out.size)).trans (hS5.keeps.below (CT HL4.out.size HB7.out.size) HA4.out.low));clear hA5 hok5 ho5 hT5 hS5)
 have hwt:=waits_any HA5.out HO5.out;rw [told_waits,HK3.out.1] at hwt;have HWT:=Bo hwt;clear hwt HF7 HB7 HL4 HA4 hc3 hc4w;have hhd:=fun (w6:World) (hb:Below w5.heap.size w5 w6)=>held_any (HA5.out.below hb) HO5.out;rw [told_held,HK3.out.2.1] at hhd
 have HHD:=Bo (show∀(w6:World),Below w5.heap.size w5 w6→Calls EG 45 #[ptr g] w6 fun r w'=>r=.returned (.int .i64 43)∧Below w6.heap.size w6 w' from hhd);clear hhd
 go_upto_region 9 with (first
  |(go_at_call 45;with_reducible refine (HHD.out _ HB6.out).mono ?_;rintro r w7 ⟨rfl,hb⟩
    have HB8:=Bo (Ak HB6.out hb);clear hb)
  |(go_at_call 43;with_reducible refine HWT.out.mono ?_;rintro r w6 ⟨rfl,hb⟩
    have HB6:=Bo hb;clear hb))
 clear HHD HWT HB6
 have HA7:=Bo (HA5.out.below HB8.out)
 have HL7:=Bo (HL5.out.trans (HB8.out.mono HL5.out.size));clear HA5 HL5 HB8;have hbA:Below w7.heap.size w7 (w7.alloc (.cells #[.int .u8 97,.int .u8 98] 5 (2,3))):=(Am _ _).alloc (CQ _) _;have hP5:=Parts.one (c:=2) (Bts.lit HA7.out.in [97,98] #[.int .u8 97,.int .u8 98] (by kernel_rfl) 5 (2,3)) (in_alloc HA7.out.in _) 23;have hs5:(w7.alloc (.cells #[.int .u8 97,.int .u8 98] 5 (2,3))).heap.size=w7.heap.size+1:=by simp
 rw [hs5] at hP5;have hb9:Below w7.heap.size w7 ((w7.alloc (.cells #[.int .u8 97,.int .u8 98] 5 (2,3))).alloc (.cells #[.slice (some ⟨w7.heap.size,0,none⟩) 2 2] 23)):=hbA.alloc (by simp) _
 have hf5:=feed_said (by decide) (HA7.out.below hb9) HO5.out HE5.out (some ⟨w7.heap.size+1,0,none⟩) 1 [[97,98]] hP5 (by decide) (by decide);rw [show ([[97,98]]:List (List UInt8)).flatten= [97,98] from rfl] at hf5;have k3:=HK3.out;obtain ⟨Y,hY⟩:∃Y,X.told.feed 0 usual [97,98]=Y:=⟨_,rfl⟩;rw [hY] at k3 hf5
 have HF9:=Bo (show Calls EG 39 #[ptr g,.slice (some ⟨w7.heap.size+1,0,none⟩) 1 1] ((w7.alloc (.cells #[.int .u8 97,.int .u8 98] 5 (2,3))).alloc (.cells #[.slice (some ⟨w7.heap.size,0,none⟩) 2 2] 23)) fun r w'=>∃o L',r=.returned o∧At w' ⟨w3.heap.size,[]⟩ g 0 usual L' Y.told∧Y.told.Ok usual∧Y.told.out= []∧Said w' o Y.out∧Step L5 L' ((w7.alloc (.cells #[.int .u8 97,.int .u8 98] 5 (2,3))).alloc (.cells #[.slice (some ⟨w7.heap.size,0,none⟩) 2 2] 23)) w' from hf5);have HY:=Bo k3;have HB9:=Bo hb9;clear hbA hP5 hs5 hb9 hf5 k3 hY HK3;obtain ⟨a1,c1,e1,hc1⟩:=HT3.out;obtain ⟨bk,rfl,hbk,hr1⟩:=hc1 Nat.zero_lt_one;have hr2:=hr1 0 Nat.zero_lt_one;have e1:o1=.slice (some ⟨bk,0,none⟩) 1 c1:=e1;subst e1
 have HR1:=Bo (show RecAt w3 bk 0 r1 from hr2);have HBK:=Bo hbk;clear hc1 hr1 hr2 hbk HT3
 go_wp2_with (first
  |(go_at_call 45;with_reducible refine HHE.out.mono ?_;rintro r w9 ⟨rfl,hb⟩;have HB10:=Bo hb;clear hb)
  |(go_at_call 42;with_reducible refine Cm HER.out ?_)
  |(go_at_call 47;with_reducible refine Cm HCL.out ?_)
  |(go_at_call 39;with_reducible refine HF9.out.mono ?_;rintro r w8 ⟨o8,L8,rfl,hA8,hok8,ho8,hT8,hS8⟩
    have hl8:=(HL7.out.trans (HB9.out.mono HL7.out.size)).trans (hS8.keeps.below (CT HL7.out.size HB9.out.size) HA7.out.low);have HL8:=Bo hl8;obtain ⟨fa,fc,ba,bc,ta,tc,f1,f2,f3,d0,d1,d2,d3,d4,d5,d6⟩:=HR1.out.below HBK.out hl8;have hcl:=cleanq_any hA8;have her:=errq_any hA8;have hhe:=held_any hA8 hok8;rw [told_clean,HY.out.2.2.2.2.1] at hcl;rw [told_err,HY.out.2.2.2.2.2.1] at her;rw [told_held,HY.out.2.2.2.2.2.2] at hhe;have HCL:=Bo hcl
    have HER:=Bo (show Calls EG 42 #[ptr g] w8 fun r w'=>r=.returned (.int .i64 0)∧w'=w8 from her)
    have HHE:=Bo (show Calls EG 45 #[ptr g] w8 fun r w'=>r=.returned (.int .i64 0)∧Below w8.heap.size w8 w' from hhe);obtain ⟨a8,c8,e8, -⟩:=hT8;rw [HY.out.2.2.2.1] at e8;subst e8;rw [HBD.out] at f2 d5;rw [HTS.out] at d6;rw [HCH.out] at d4;have hcs:(convert 23 9 (.slice ba 3 bc)).run EG w8=.ok (.string ⟨#[97,98,99]⟩) w8:=Txt.conv_str w8 ba 3 bc _ f2;clear hcl her hhe hA8 hok8 ho8 hS8 f1 f2 f3 d0 d1 d2 d3 hl8))
 go_ret;exact ⟨rfl,((HB3.out.trans (HL8.out.mono HB3.out.size)).trans (HB10.out.mono (CT HB3.out.size HL8.out.size)))⟩
end code
end Go.Proofs.YtldhlecknfomjaaGreatDoor.Pg
namespace Go.Proofs.YtldhlecknfomjaaGreatDoor.Rq
open Go.RowKit Base Txt
theorem strs_at (w:World) (t:TypeId) (ss:List ByteArray) (k:Nat) (hk:k<ss.length):(w.alloc (.cells ((ss.map Value.string).toArray) t)).cell? ⟨w.heap.size,k,none⟩=some (.string (ss[k]?.getD A6)):=by rw [cell_of_row (w.alloc _) w.heap.size k _ t (0,0) (heap_alloc_new w _)];simp [BT hk]
theorem val_at (ss:List ByteArray) (k:Nat) (hk:k<ss.length):(ss.map Value.string)[k]'(by rw [Co];exact hk)=.string (ss[k]?.getD A6):=by simp [BT hk]
theorem size_at (ss:List ByteArray) (m:Nat) (h:ss.all (fun x=>decide (x.size≤m))=true) (k:Nat) (hk:k<ss.length):(ss[k]?.getD A6).size≤m:=by
 rw [List.all_eq_true] at h;rw [BT hk,Dg]
 simpa using h _ (Cb hk)
theorem tgts_at (k:Nat) (hk:k<12):∃X:ByteArray,X.size≤17∧(∀w:World,(w.alloc (.cells #[.string ⟨#[47]⟩,.string ⟨#[47,97]⟩,.string ⟨#[47,97,47,98,63,120,61,49]⟩,.string ⟨#[47,97,47,46,46,47,98]⟩,.string ⟨#[47,37,52,49,47,99]⟩,.string ⟨#[42]⟩,.string ⟨#[104,116,116,112,58,47,47,104,46,111,114,103,47,113,63]⟩,.string ⟨#[47,118,49,47,105,116,101,109,47,55]⟩,.string ⟨#[47,120,32,121]⟩,.string ⟨#[47,113,1]⟩,.string ⟨#[47,115,116,97,116,105,99,47,99,115,115,47,109,46,99,115,115]⟩,.string ⟨#[104,116,116,112,58,47,47,97]⟩] 9)).cell? ⟨w.heap.size,k,none⟩=some (.string X))∧∀hh,([.string ⟨#[47]⟩,.string ⟨#[47,97]⟩,.string ⟨#[47,97,47,98,63,120,61,49]⟩,.string ⟨#[47,97,47,46,46,47,98]⟩,.string ⟨#[47,37,52,49,47,99]⟩,.string ⟨#[42]⟩,.string ⟨#[104,116,116,112,58,47,47,104,46,111,114,103,47,113,63]⟩,.string ⟨#[47,118,49,47,105,116,101,109,47,55]⟩,.string ⟨#[47,120,32,121]⟩,.string ⟨#[47,113,1]⟩,.string ⟨#[47,115,116,97,116,105,99,47,99,115,115,47,109,46,99,115,115]⟩,.string ⟨#[104,116,116,112,58,47,47,97]⟩]:List Value)[k]'hh=.string X:=
 ⟨_,size_at [⟨#[47]⟩,⟨#[47,97]⟩,⟨#[47,97,47,98,63,120,61,49]⟩,⟨#[47,97,47,46,46,47,98]⟩,⟨#[47,37,52,49,47,99]⟩,⟨#[42]⟩,⟨#[104,116,116,112,58,47,47,104,46,111,114,103,47,113,63]⟩,⟨#[47,118,49,47,105,116,101,109,47,55]⟩,⟨#[47,120,32,121]⟩,⟨#[47,113,1]⟩,⟨#[47,115,116,97,116,105,99,47,99,115,115,47,109,46,99,115,115]⟩,⟨#[104,116,116,112,58,47,47,97]⟩] 17 (by decide) k hk,fun w=>strs_at w 9 [⟨#[47]⟩,⟨#[47,97]⟩,⟨#[47,97,47,98,63,120,61,49]⟩,⟨#[47,97,47,46,46,47,98]⟩,⟨#[47,37,52,49,47,99]⟩,⟨#[42]⟩,⟨#[104,116,116,112,58,47,47,104,46,111,114,103,47,113,63]⟩,⟨#[47,118,49,47,105,116,101,109,47,55]⟩,⟨#[47,120,32,121]⟩,⟨#[47,113,1]⟩,⟨#[47,115,116,97,116,105,99,47,99,115,115,47,109,46,99,115,115]⟩,⟨#[104,116,116,112,58,47,47,97]⟩] k hk,fun hh=>by
   have h2:=val_at [⟨#[47]⟩,⟨#[47,97]⟩,⟨#[47,97,47,98,63,120,61,49]⟩,⟨#[47,97,47,46,46,47,98]⟩,⟨#[47,37,52,49,47,99]⟩,⟨#[42]⟩,⟨#[104,116,116,112,58,47,47,104,46,111,114,103,47,113,63]⟩,⟨#[47,118,49,47,105,116,101,109,47,55]⟩,⟨#[47,120,32,121]⟩,⟨#[47,113,1]⟩,⟨#[47,115,116,97,116,105,99,47,99,115,115,47,109,46,99,115,115]⟩,⟨#[104,116,116,112,58,47,47,97]⟩] k hk
   exact h2⟩
theorem meths_at (k:Nat) (hk:k<8):∃X:ByteArray,X.size≤7∧(∀w:World,(w.alloc (.cells #[.string ⟨#[71,69,84]⟩,.string ⟨#[80,79,83,84]⟩,.string ⟨#[79,80,84,73,79,78,83]⟩,.string ⟨#[72,69,65,68]⟩,.string ⟨#[80,85,84]⟩,.string ⟨#[68,69,76,69,84,69]⟩,.string ⟨#[71,40,84]⟩,.string ⟨#[67,79,78,78,69,67,84]⟩] 9)).cell? ⟨w.heap.size,k,none⟩=some (.string X))∧∀hh,([.string ⟨#[71,69,84]⟩,.string ⟨#[80,79,83,84]⟩,.string ⟨#[79,80,84,73,79,78,83]⟩,.string ⟨#[72,69,65,68]⟩,.string ⟨#[80,85,84]⟩,.string ⟨#[68,69,76,69,84,69]⟩,.string ⟨#[71,40,84]⟩,.string ⟨#[67,79,78,78,69,67,84]⟩]:List Value)[k]'hh=.string X:=
 ⟨_,size_at [⟨#[71,69,84]⟩,⟨#[80,79,83,84]⟩,⟨#[79,80,84,73,79,78,83]⟩,⟨#[72,69,65,68]⟩,⟨#[80,85,84]⟩,⟨#[68,69,76,69,84,69]⟩,⟨#[71,40,84]⟩,⟨#[67,79,78,78,69,67,84]⟩] 7 (by decide) k hk,fun w=>strs_at w 9 [⟨#[71,69,84]⟩,⟨#[80,79,83,84]⟩,⟨#[79,80,84,73,79,78,83]⟩,⟨#[72,69,65,68]⟩,⟨#[80,85,84]⟩,⟨#[68,69,76,69,84,69]⟩,⟨#[71,40,84]⟩,⟨#[67,79,78,78,69,67,84]⟩] k hk,fun hh=>by
   have h2:=val_at [⟨#[71,69,84]⟩,⟨#[80,79,83,84]⟩,⟨#[79,80,84,73,79,78,83]⟩,⟨#[72,69,65,68]⟩,⟨#[80,85,84]⟩,⟨#[68,69,76,69,84,69]⟩,⟨#[71,40,84]⟩,⟨#[67,79,78,78,69,67,84]⟩] k hk
   exact h2⟩
theorem gaps_at (k:Nat) (hk:k<4):∃X:ByteArray,X.size≤3∧(∀w:World,(w.alloc (.cells #[.string ⟨#[32]⟩,.string ⟨#[32,32]⟩,.string ⟨#[9]⟩,.string ⟨#[32,9,32]⟩] 9)).cell? ⟨w.heap.size,k,none⟩=some (.string X))∧∀hh,([.string ⟨#[32]⟩,.string ⟨#[32,32]⟩,.string ⟨#[9]⟩,.string ⟨#[32,9,32]⟩]:List Value)[k]'hh=.string X:=
 ⟨_,size_at [⟨#[32]⟩,⟨#[32,32]⟩,⟨#[9]⟩,⟨#[32,9,32]⟩] 3 (by decide) k hk,fun w=>strs_at w 9 [⟨#[32]⟩,⟨#[32,32]⟩,⟨#[9]⟩,⟨#[32,9,32]⟩] k hk,fun hh=>by
   have h2:=val_at [⟨#[32]⟩,⟨#[32,32]⟩,⟨#[9]⟩,⟨#[32,9,32]⟩] k hk
   exact h2⟩
theorem vers_at (k:Nat) (hk:k<6):∃X:ByteArray,X.size≤8∧(∀w:World,(w.alloc (.cells #[.string ⟨#[72,84,84,80,47,49,46,49]⟩,.string ⟨#[72,84,84,80,47,49,46,48]⟩,.string ⟨#[72,84,84,80,47,49,46,55]⟩,.string ⟨#[104,116,116,112,47,49,46,49]⟩,.string ⟨#[72,84,84,80,47,50,46,48]⟩,.string ⟨#[72,84,84,80,47,49,46,49]⟩] 9)).cell? ⟨w.heap.size,k,none⟩=some (.string X))∧∀hh,([.string ⟨#[72,84,84,80,47,49,46,49]⟩,.string ⟨#[72,84,84,80,47,49,46,48]⟩,.string ⟨#[72,84,84,80,47,49,46,55]⟩,.string ⟨#[104,116,116,112,47,49,46,49]⟩,.string ⟨#[72,84,84,80,47,50,46,48]⟩,.string ⟨#[72,84,84,80,47,49,46,49]⟩]:List Value)[k]'hh=.string X:=
 ⟨_,size_at [⟨#[72,84,84,80,47,49,46,49]⟩,⟨#[72,84,84,80,47,49,46,48]⟩,⟨#[72,84,84,80,47,49,46,55]⟩,⟨#[104,116,116,112,47,49,46,49]⟩,⟨#[72,84,84,80,47,50,46,48]⟩,⟨#[72,84,84,80,47,49,46,49]⟩] 8 (by decide) k hk,fun w=>strs_at w 9 [⟨#[72,84,84,80,47,49,46,49]⟩,⟨#[72,84,84,80,47,49,46,48]⟩,⟨#[72,84,84,80,47,49,46,55]⟩,⟨#[104,116,116,112,47,49,46,49]⟩,⟨#[72,84,84,80,47,50,46,48]⟩,⟨#[72,84,84,80,47,49,46,49]⟩] k hk,fun hh=>by
   have h2:=val_at [⟨#[72,84,84,80,47,49,46,49]⟩,⟨#[72,84,84,80,47,49,46,48]⟩,⟨#[72,84,84,80,47,49,46,55]⟩,⟨#[104,116,116,112,47,49,46,49]⟩,⟨#[72,84,84,80,47,50,46,48]⟩,⟨#[72,84,84,80,47,49,46,49]⟩] k hk
   exact h2⟩
section code
set_option maxHeartbeats 1000000
attribute [local go_sem] Al
set_option maxHeartbeats 16000000 in
set_option maxRecDepth 10000 in
theorem line_any (a b:Nat) (ha:a<256) (hb:b<256) (w:World):Calls EG 117 #[.int .u8 a,.int .u8 b] w fun e w'=>(∃L:ByteArray,e=.returned (.string L)∧L.size≤60)∧Below w.heap.size w w':=by
 obtain ⟨u,hu⟩:∃u,b%12=u:=⟨_,rfl⟩;obtain ⟨v,hv⟩:∃v,a%8=v:=⟨_,rfl⟩;obtain ⟨z,hz⟩:∃z,b%4=z:=⟨_,rfl⟩;obtain ⟨y,hy⟩:∃y,a%6=y:=⟨_,rfl⟩;have iu:(b:Int)%12=(u:Int):=by omega
 have iv:(a:Int)%8=(v:Int):=by omega
 have iz:(b:Int)%4=(z:Int):=by omega
 have iy:(a:Int)%6=(y:Int):=by omega
 have lu:u<12:=by omega
 have lv:v<8:=by omega
 have lz:z<4:=by omega
 have ly:y<6:=by omega
 clear hu hv hz hy;obtain ⟨X1,z1,c1,d1⟩:=tgts_at u lu;obtain ⟨X2,z2,c2,d2⟩:=meths_at v lv;obtain ⟨X3,z3,c3,d3⟩:=gaps_at z lz;obtain ⟨X4,z4,c4,d4⟩:=vers_at y ly;have hA:200≤a∨(a<200∧5<v∧7<u∧¬u=10)∨(a<200∧5<v∧u=10)∨(a<200∧5<v∧u≤7)∨(a<200∧v≤5∧7<u∧¬u=10∧¬u=5)∨(a<200∧v≤5∧u=10)∨(a<200∧v≤5∧u=5)∨(a<200∧v≤5∧u≤7∧¬u=5):=by omega
 have hB:200<b∨b=199∨(b≤200∧¬b=199):=by omega
 rcases hA with h | ⟨h,h1,h2,h3⟩ | ⟨h,h1,rfl⟩ | ⟨h,h1,h2⟩ | ⟨h,h1,h2,h3,h4⟩ | ⟨h,h1,rfl⟩ | ⟨h,h1,rfl⟩ | ⟨h,h1,h2,h3⟩;all_goals
  rcases hB with k1 | rfl | ⟨k1,k2⟩
  all_goals try (exfalso;omega)
  all_goals
   go_enter Tryz.func117,Tryz.ntmps117;go_wp2_with fail;all_goals
    go_ret;refine ⟨⟨_,rfl,?_⟩,?_⟩
    ·simp only [A7,len_mk,List.length_cons,List.length_nil];omega
    ·repeat (first | exact Am _ _ | with_reducible refine Below.alloc ?_ ?_ _)
     all_goals (simp;try omega)
end code
end Go.Proofs.YtldhlecknfomjaaGreatDoor.Rq
namespace Go.Proofs.YtldhlecknfomjaaGreatDoor.Rq
open Go.RowKit Base Txt
theorem ends_at (k:Nat) (hk:k<4):∃X:ByteArray,X.size≤3∧(∀w:World,(w.alloc (.cells #[.string ⟨#[10]⟩,.string ⟨#[13]⟩,.string ⟨#[13,13,10]⟩,.string ⟨#[10,10]⟩] 9)).cell? ⟨w.heap.size,k,none⟩=some (.string X))∧∀hh,([.string ⟨#[10]⟩,.string ⟨#[13]⟩,.string ⟨#[13,13,10]⟩,.string ⟨#[10,10]⟩]:List Value)[k]'hh=.string X:=
 ⟨_,size_at [⟨#[10]⟩,⟨#[13]⟩,⟨#[13,13,10]⟩,⟨#[10,10]⟩] 3 (by decide) k hk,fun w=>strs_at w 9 [⟨#[10]⟩,⟨#[13]⟩,⟨#[13,13,10]⟩,⟨#[10,10]⟩] k hk,fun hh=>by
   have h2:=val_at [⟨#[10]⟩,⟨#[13]⟩,⟨#[13,13,10]⟩,⟨#[10,10]⟩] k hk
   exact h2⟩
theorem good_at (k:Nat) (hk:k<16):∃X:ByteArray,X.size≤34∧(∀w:World,(w.alloc (.cells #[.string ⟨#[72,111,115,116,58,32,104,46,111,114,103]⟩,.string ⟨#[72,111,115,116,58,32,97]⟩,.string ⟨#[65,58,32,98]⟩,.string ⟨#[88,45,89,58,32,32,122,32]⟩,.string ⟨#[65,99,99,101,112,116,58,32,42,47,42]⟩,.string ⟨#[79,114,105,103,105,110,58,32,104,116,116,112,58,47,47,111,46,111,114,103]⟩,.string ⟨#[65,117,116,104,111,114,105,122,97,116,105,111,110,58,32,66,97,115,105,99,32,100,84,112,119]⟩,.string ⟨#[67,111,110,110,101,99,116,105,111,110,58,32,107,101,101,112,45,97,108,105,118,101]⟩,.string ⟨#[67,111,111,107,105,101,58,32,97,61,49,44,32,98,61,50]⟩,.string ⟨#[69,120,112,101,99,116,58,32,49,48,48,45,99,111,110,116,105,110,117,101]⟩,.string ⟨#[85,112,103,114,97,100,101,58,32,120]⟩,.string ⟨#[88,45,70,111,114,119,97,114,100,101,100,45,70,111,114,58,32,49,46,50,46,51,46,52]⟩,.string ⟨#[67,111,110,110,101,99,116,105,111,110,58,32,88,45,89]⟩,.string ⟨#[84,69,58,32,116,114,97,105,108,101,114,115]⟩,.string ⟨#[86,105,97,58,32,49,46,48,32,113]⟩,.string ⟨#[65,99,99,101,115,115,45,67,111,110,116,114,111,108,45,82,101,113,117,101,115,116,45,77,101,116,104,111,100,58,32,80,85,84]⟩] 9)).cell? ⟨w.heap.size,k,none⟩=some (.string X))∧∀hh,([.string ⟨#[72,111,115,116,58,32,104,46,111,114,103]⟩,.string ⟨#[72,111,115,116,58,32,97]⟩,.string ⟨#[65,58,32,98]⟩,.string ⟨#[88,45,89,58,32,32,122,32]⟩,.string ⟨#[65,99,99,101,112,116,58,32,42,47,42]⟩,.string ⟨#[79,114,105,103,105,110,58,32,104,116,116,112,58,47,47,111,46,111,114,103]⟩,.string ⟨#[65,117,116,104,111,114,105,122,97,116,105,111,110,58,32,66,97,115,105,99,32,100,84,112,119]⟩,.string ⟨#[67,111,110,110,101,99,116,105,111,110,58,32,107,101,101,112,45,97,108,105,118,101]⟩,.string ⟨#[67,111,111,107,105,101,58,32,97,61,49,44,32,98,61,50]⟩,.string ⟨#[69,120,112,101,99,116,58,32,49,48,48,45,99,111,110,116,105,110,117,101]⟩,.string ⟨#[85,112,103,114,97,100,101,58,32,120]⟩,.string ⟨#[88,45,70,111,114,119,97,114,100,101,100,45,70,111,114,58,32,49,46,50,46,51,46,52]⟩,.string ⟨#[67,111,110,110,101,99,116,105,111,110,58,32,88,45,89]⟩,.string ⟨#[84,69,58,32,116,114,97,105,108,101,114,115]⟩,.string ⟨#[86,105,97,58,32,49,46,48,32,113]⟩,.string ⟨#[65,99,99,101,115,115,45,67,111,110,116,114,111,108,45,82,101,113,117,101,115,116,45,77,101,116,104,111,100,58,32,80,85,84]⟩]:List Value)[k]'hh=.string X:=
 ⟨_,size_at [⟨#[72,111,115,116,58,32,104,46,111,114,103]⟩,⟨#[72,111,115,116,58,32,97]⟩,⟨#[65,58,32,98]⟩,⟨#[88,45,89,58,32,32,122,32]⟩,⟨#[65,99,99,101,112,116,58,32,42,47,42]⟩,⟨#[79,114,105,103,105,110,58,32,104,116,116,112,58,47,47,111,46,111,114,103]⟩,⟨#[65,117,116,104,111,114,105,122,97,116,105,111,110,58,32,66,97,115,105,99,32,100,84,112,119]⟩,⟨#[67,111,110,110,101,99,116,105,111,110,58,32,107,101,101,112,45,97,108,105,118,101]⟩,⟨#[67,111,111,107,105,101,58,32,97,61,49,44,32,98,61,50]⟩,⟨#[69,120,112,101,99,116,58,32,49,48,48,45,99,111,110,116,105,110,117,101]⟩,⟨#[85,112,103,114,97,100,101,58,32,120]⟩,⟨#[88,45,70,111,114,119,97,114,100,101,100,45,70,111,114,58,32,49,46,50,46,51,46,52]⟩,⟨#[67,111,110,110,101,99,116,105,111,110,58,32,88,45,89]⟩,⟨#[84,69,58,32,116,114,97,105,108,101,114,115]⟩,⟨#[86,105,97,58,32,49,46,48,32,113]⟩,⟨#[65,99,99,101,115,115,45,67,111,110,116,114,111,108,45,82,101,113,117,101,115,116,45,77,101,116,104,111,100,58,32,80,85,84]⟩] 34 (by decide) k hk,fun w=>strs_at w 9 [⟨#[72,111,115,116,58,32,104,46,111,114,103]⟩,⟨#[72,111,115,116,58,32,97]⟩,⟨#[65,58,32,98]⟩,⟨#[88,45,89,58,32,32,122,32]⟩,⟨#[65,99,99,101,112,116,58,32,42,47,42]⟩,⟨#[79,114,105,103,105,110,58,32,104,116,116,112,58,47,47,111,46,111,114,103]⟩,⟨#[65,117,116,104,111,114,105,122,97,116,105,111,110,58,32,66,97,115,105,99,32,100,84,112,119]⟩,⟨#[67,111,110,110,101,99,116,105,111,110,58,32,107,101,101,112,45,97,108,105,118,101]⟩,⟨#[67,111,111,107,105,101,58,32,97,61,49,44,32,98,61,50]⟩,⟨#[69,120,112,101,99,116,58,32,49,48,48,45,99,111,110,116,105,110,117,101]⟩,⟨#[85,112,103,114,97,100,101,58,32,120]⟩,⟨#[88,45,70,111,114,119,97,114,100,101,100,45,70,111,114,58,32,49,46,50,46,51,46,52]⟩,⟨#[67,111,110,110,101,99,116,105,111,110,58,32,88,45,89]⟩,⟨#[84,69,58,32,116,114,97,105,108,101,114,115]⟩,⟨#[86,105,97,58,32,49,46,48,32,113]⟩,⟨#[65,99,99,101,115,115,45,67,111,110,116,114,111,108,45,82,101,113,117,101,115,116,45,77,101,116,104,111,100,58,32,80,85,84]⟩] k hk,fun hh=>by
   have h2:=val_at [⟨#[72,111,115,116,58,32,104,46,111,114,103]⟩,⟨#[72,111,115,116,58,32,97]⟩,⟨#[65,58,32,98]⟩,⟨#[88,45,89,58,32,32,122,32]⟩,⟨#[65,99,99,101,112,116,58,32,42,47,42]⟩,⟨#[79,114,105,103,105,110,58,32,104,116,116,112,58,47,47,111,46,111,114,103]⟩,⟨#[65,117,116,104,111,114,105,122,97,116,105,111,110,58,32,66,97,115,105,99,32,100,84,112,119]⟩,⟨#[67,111,110,110,101,99,116,105,111,110,58,32,107,101,101,112,45,97,108,105,118,101]⟩,⟨#[67,111,111,107,105,101,58,32,97,61,49,44,32,98,61,50]⟩,⟨#[69,120,112,101,99,116,58,32,49,48,48,45,99,111,110,116,105,110,117,101]⟩,⟨#[85,112,103,114,97,100,101,58,32,120]⟩,⟨#[88,45,70,111,114,119,97,114,100,101,100,45,70,111,114,58,32,49,46,50,46,51,46,52]⟩,⟨#[67,111,110,110,101,99,116,105,111,110,58,32,88,45,89]⟩,⟨#[84,69,58,32,116,114,97,105,108,101,114,115]⟩,⟨#[86,105,97,58,32,49,46,48,32,113]⟩,⟨#[65,99,99,101,115,115,45,67,111,110,116,114,111,108,45,82,101,113,117,101,115,116,45,77,101,116,104,111,100,58,32,80,85,84]⟩] k hk
   exact h2⟩
theorem odd_at (k:Nat) (hk:k<22):∃X:ByteArray,X.size≤36∧(∀w:World,(w.alloc (.cells #[.string ⟨#[72,111,115,116,32,58,32,97]⟩,.string ⟨#[40,120,58,32,49]⟩,.string ⟨#[110,111,118,97,108,117,101]⟩,.string ⟨#[58,32,110,97,109,101,108,101,115,115]⟩,.string ⟨#[32,102,111,108,100,101,100]⟩,.string ⟨#[9,102,111,108,100,101,100,58,32,116,111,111]⟩,.string ⟨#[86,58,32,97,1,98]⟩,.string ⟨#[84,114,97,110,115,102,101,114,45,69,110,99,111,100,105,110,103,58,32,103,122,105,112]⟩,.string ⟨#[84,114,97,110,115,102,101,114,45,69,110,99,111,100,105,110,103,58,32,103,122,105,112,44,32,99,104,117,110,107,101,100]⟩,.string ⟨#[84,114,97,110,115,102,101,114,45,69,110,99,111,100,105,110,103,58,32,11,99,104,117,110,107,101,100]⟩,.string ⟨#[84,114,97,110,115,102,101,114,45,69,110,99,111,100,105,110,103,58,32,67,104,117,110,107,101,100]⟩,.string ⟨#[67,111,110,116,101,110,116,45,76,101,110,103,116,104,58,32,43,51]⟩,.string ⟨#[67,111,110,116,101,110,116,45,76,101,110,103,116,104,58,32,51,44,32,51]⟩,.string ⟨#[67,111,110,116,101,110,116,45,76,101,110,103,116,104,58,32,51]⟩,.string ⟨#[67,111,110,116,101,110,116,45,76,101,110,103,116,104,58,32,48]⟩,.string ⟨#[67,111,110,116,101,110,116,45,76,101,110,103,116,104,58,32,48,51]⟩,.string ⟨#[72,111,115,116,58,32,98]⟩,.string ⟨#[72,111,115,116,58,32,97,58,57,57,57,57,57]⟩,.string ⟨#[67,111,110,110,101,99,116,105,111,110,58,32,99,108,111,115,101]⟩,.string ⟨#[67,111,110,116,101,110,116,45,76,101,110,103,116,104,58,32,57,57,57,57,57,57,57,57,57,57,57,57,57,57,57,57,57,57,57,57]⟩,.string ⟨#[86,58,32,255,128]⟩,.string ⟨#[84,114,97,110,115,102,101,114,45,69,110,99,111,100,105,110,103,58,32,99,104,117,110,107,101,100,44,32,99,104,117,110,107,101,100]⟩] 9)).cell? ⟨w.heap.size,k,none⟩=some (.string X))∧∀hh,([.string ⟨#[72,111,115,116,32,58,32,97]⟩,.string ⟨#[40,120,58,32,49]⟩,.string ⟨#[110,111,118,97,108,117,101]⟩,.string ⟨#[58,32,110,97,109,101,108,101,115,115]⟩,.string ⟨#[32,102,111,108,100,101,100]⟩,.string ⟨#[9,102,111,108,100,101,100,58,32,116,111,111]⟩,.string ⟨#[86,58,32,97,1,98]⟩,.string ⟨#[84,114,97,110,115,102,101,114,45,69,110,99,111,100,105,110,103,58,32,103,122,105,112]⟩,.string ⟨#[84,114,97,110,115,102,101,114,45,69,110,99,111,100,105,110,103,58,32,103,122,105,112,44,32,99,104,117,110,107,101,100]⟩,.string ⟨#[84,114,97,110,115,102,101,114,45,69,110,99,111,100,105,110,103,58,32,11,99,104,117,110,107,101,100]⟩,.string ⟨#[84,114,97,110,115,102,101,114,45,69,110,99,111,100,105,110,103,58,32,67,104,117,110,107,101,100]⟩,.string ⟨#[67,111,110,116,101,110,116,45,76,101,110,103,116,104,58,32,43,51]⟩,.string ⟨#[67,111,110,116,101,110,116,45,76,101,110,103,116,104,58,32,51,44,32,51]⟩,.string ⟨#[67,111,110,116,101,110,116,45,76,101,110,103,116,104,58,32,51]⟩,.string ⟨#[67,111,110,116,101,110,116,45,76,101,110,103,116,104,58,32,48]⟩,.string ⟨#[67,111,110,116,101,110,116,45,76,101,110,103,116,104,58,32,48,51]⟩,.string ⟨#[72,111,115,116,58,32,98]⟩,.string ⟨#[72,111,115,116,58,32,97,58,57,57,57,57,57]⟩,.string ⟨#[67,111,110,110,101,99,116,105,111,110,58,32,99,108,111,115,101]⟩,.string ⟨#[67,111,110,116,101,110,116,45,76,101,110,103,116,104,58,32,57,57,57,57,57,57,57,57,57,57,57,57,57,57,57,57,57,57,57,57]⟩,.string ⟨#[86,58,32,255,128]⟩,.string ⟨#[84,114,97,110,115,102,101,114,45,69,110,99,111,100,105,110,103,58,32,99,104,117,110,107,101,100,44,32,99,104,117,110,107,101,100]⟩]:List Value)[k]'hh=.string X:=
 ⟨_,size_at [⟨#[72,111,115,116,32,58,32,97]⟩,⟨#[40,120,58,32,49]⟩,⟨#[110,111,118,97,108,117,101]⟩,⟨#[58,32,110,97,109,101,108,101,115,115]⟩,⟨#[32,102,111,108,100,101,100]⟩,⟨#[9,102,111,108,100,101,100,58,32,116,111,111]⟩,⟨#[86,58,32,97,1,98]⟩,⟨#[84,114,97,110,115,102,101,114,45,69,110,99,111,100,105,110,103,58,32,103,122,105,112]⟩,⟨#[84,114,97,110,115,102,101,114,45,69,110,99,111,100,105,110,103,58,32,103,122,105,112,44,32,99,104,117,110,107,101,100]⟩,⟨#[84,114,97,110,115,102,101,114,45,69,110,99,111,100,105,110,103,58,32,11,99,104,117,110,107,101,100]⟩,⟨#[84,114,97,110,115,102,101,114,45,69,110,99,111,100,105,110,103,58,32,67,104,117,110,107,101,100]⟩,⟨#[67,111,110,116,101,110,116,45,76,101,110,103,116,104,58,32,43,51]⟩,⟨#[67,111,110,116,101,110,116,45,76,101,110,103,116,104,58,32,51,44,32,51]⟩,⟨#[67,111,110,116,101,110,116,45,76,101,110,103,116,104,58,32,51]⟩,⟨#[67,111,110,116,101,110,116,45,76,101,110,103,116,104,58,32,48]⟩,⟨#[67,111,110,116,101,110,116,45,76,101,110,103,116,104,58,32,48,51]⟩,⟨#[72,111,115,116,58,32,98]⟩,⟨#[72,111,115,116,58,32,97,58,57,57,57,57,57]⟩,⟨#[67,111,110,110,101,99,116,105,111,110,58,32,99,108,111,115,101]⟩,⟨#[67,111,110,116,101,110,116,45,76,101,110,103,116,104,58,32,57,57,57,57,57,57,57,57,57,57,57,57,57,57,57,57,57,57,57,57]⟩,⟨#[86,58,32,255,128]⟩,⟨#[84,114,97,110,115,102,101,114,45,69,110,99,111,100,105,110,103,58,32,99,104,117,110,107,101,100,44,32,99,104,117,110,107,101,100]⟩] 36 (by decide) k hk,fun w=>strs_at w 9 [⟨#[72,111,115,116,32,58,32,97]⟩,⟨#[40,120,58,32,49]⟩,⟨#[110,111,118,97,108,117,101]⟩,⟨#[58,32,110,97,109,101,108,101,115,115]⟩,⟨#[32,102,111,108,100,101,100]⟩,⟨#[9,102,111,108,100,101,100,58,32,116,111,111]⟩,⟨#[86,58,32,97,1,98]⟩,⟨#[84,114,97,110,115,102,101,114,45,69,110,99,111,100,105,110,103,58,32,103,122,105,112]⟩,⟨#[84,114,97,110,115,102,101,114,45,69,110,99,111,100,105,110,103,58,32,103,122,105,112,44,32,99,104,117,110,107,101,100]⟩,⟨#[84,114,97,110,115,102,101,114,45,69,110,99,111,100,105,110,103,58,32,11,99,104,117,110,107,101,100]⟩,⟨#[84,114,97,110,115,102,101,114,45,69,110,99,111,100,105,110,103,58,32,67,104,117,110,107,101,100]⟩,⟨#[67,111,110,116,101,110,116,45,76,101,110,103,116,104,58,32,43,51]⟩,⟨#[67,111,110,116,101,110,116,45,76,101,110,103,116,104,58,32,51,44,32,51]⟩,⟨#[67,111,110,116,101,110,116,45,76,101,110,103,116,104,58,32,51]⟩,⟨#[67,111,110,116,101,110,116,45,76,101,110,103,116,104,58,32,48]⟩,⟨#[67,111,110,116,101,110,116,45,76,101,110,103,116,104,58,32,48,51]⟩,⟨#[72,111,115,116,58,32,98]⟩,⟨#[72,111,115,116,58,32,97,58,57,57,57,57,57]⟩,⟨#[67,111,110,110,101,99,116,105,111,110,58,32,99,108,111,115,101]⟩,⟨#[67,111,110,116,101,110,116,45,76,101,110,103,116,104,58,32,57,57,57,57,57,57,57,57,57,57,57,57,57,57,57,57,57,57,57,57]⟩,⟨#[86,58,32,255,128]⟩,⟨#[84,114,97,110,115,102,101,114,45,69,110,99,111,100,105,110,103,58,32,99,104,117,110,107,101,100,44,32,99,104,117,110,107,101,100]⟩] k hk,fun hh=>by
   have h2:=val_at [⟨#[72,111,115,116,32,58,32,97]⟩,⟨#[40,120,58,32,49]⟩,⟨#[110,111,118,97,108,117,101]⟩,⟨#[58,32,110,97,109,101,108,101,115,115]⟩,⟨#[32,102,111,108,100,101,100]⟩,⟨#[9,102,111,108,100,101,100,58,32,116,111,111]⟩,⟨#[86,58,32,97,1,98]⟩,⟨#[84,114,97,110,115,102,101,114,45,69,110,99,111,100,105,110,103,58,32,103,122,105,112]⟩,⟨#[84,114,97,110,115,102,101,114,45,69,110,99,111,100,105,110,103,58,32,103,122,105,112,44,32,99,104,117,110,107,101,100]⟩,⟨#[84,114,97,110,115,102,101,114,45,69,110,99,111,100,105,110,103,58,32,11,99,104,117,110,107,101,100]⟩,⟨#[84,114,97,110,115,102,101,114,45,69,110,99,111,100,105,110,103,58,32,67,104,117,110,107,101,100]⟩,⟨#[67,111,110,116,101,110,116,45,76,101,110,103,116,104,58,32,43,51]⟩,⟨#[67,111,110,116,101,110,116,45,76,101,110,103,116,104,58,32,51,44,32,51]⟩,⟨#[67,111,110,116,101,110,116,45,76,101,110,103,116,104,58,32,51]⟩,⟨#[67,111,110,116,101,110,116,45,76,101,110,103,116,104,58,32,48]⟩,⟨#[67,111,110,116,101,110,116,45,76,101,110,103,116,104,58,32,48,51]⟩,⟨#[72,111,115,116,58,32,98]⟩,⟨#[72,111,115,116,58,32,97,58,57,57,57,57,57]⟩,⟨#[67,111,110,110,101,99,116,105,111,110,58,32,99,108,111,115,101]⟩,⟨#[67,111,110,116,101,110,116,45,76,101,110,103,116,104,58,32,57,57,57,57,57,57,57,57,57,57,57,57,57,57,57,57,57,57,57,57]⟩,⟨#[86,58,32,255,128]⟩,⟨#[84,114,97,110,115,102,101,114,45,69,110,99,111,100,105,110,103,58,32,99,104,117,110,107,101,100,44,32,99,104,117,110,107,101,100]⟩] k hk
   exact h2⟩
theorem end3_at (k:Nat) (hk:k<5):∃X:ByteArray,X.size≤2∧(∀w:World,(w.alloc (.cells #[.string ⟨#[13,10]⟩,.string ⟨#[13,10]⟩,.string ⟨#[]⟩,.string ⟨#[10]⟩,.string ⟨#[13]⟩] 9)).cell? ⟨w.heap.size,k,none⟩=some (.string X))∧∀hh,([.string ⟨#[13,10]⟩,.string ⟨#[13,10]⟩,.string ⟨#[]⟩,.string ⟨#[10]⟩,.string ⟨#[13]⟩]:List Value)[k]'hh=.string X:=
 ⟨_,size_at [⟨#[13,10]⟩,⟨#[13,10]⟩,⟨#[]⟩,⟨#[10]⟩,⟨#[13]⟩] 2 (by decide) k hk,fun w=>strs_at w 9 [⟨#[13,10]⟩,⟨#[13,10]⟩,⟨#[]⟩,⟨#[10]⟩,⟨#[13]⟩] k hk,fun hh=>by
   have h2:=val_at [⟨#[13,10]⟩,⟨#[13,10]⟩,⟨#[]⟩,⟨#[10]⟩,⟨#[13]⟩] k hk
   exact h2⟩
theorem tr_at (k:Nat) (hk:k<4):∃X:ByteArray,X.size≤10∧(∀w:World,(w.alloc (.cells #[.string ⟨#[]⟩,.string ⟨#[84,58,32,117,13,10]⟩,.string ⟨#[98,97,100,13,10]⟩,.string ⟨#[84,58,32,117,13,10,32,119,13,10]⟩] 9)).cell? ⟨w.heap.size,k,none⟩=some (.string X))∧∀hh,([.string ⟨#[]⟩,.string ⟨#[84,58,32,117,13,10]⟩,.string ⟨#[98,97,100,13,10]⟩,.string ⟨#[84,58,32,117,13,10,32,119,13,10]⟩]:List Value)[k]'hh=.string X:=
 ⟨_,size_at [⟨#[]⟩,⟨#[84,58,32,117,13,10]⟩,⟨#[98,97,100,13,10]⟩,⟨#[84,58,32,117,13,10,32,119,13,10]⟩] 10 (by decide) k hk,fun w=>strs_at w 9 [⟨#[]⟩,⟨#[84,58,32,117,13,10]⟩,⟨#[98,97,100,13,10]⟩,⟨#[84,58,32,117,13,10,32,119,13,10]⟩] k hk,fun hh=>by
   have h2:=val_at [⟨#[]⟩,⟨#[84,58,32,117,13,10]⟩,⟨#[98,97,100,13,10]⟩,⟨#[84,58,32,117,13,10,32,119,13,10]⟩] k hk
   exact h2⟩
theorem host_at (k:Nat) (hk:k<4):∃X:ByteArray,X.size≤8∧(∀w:World,(w.alloc (.cells #[.string ⟨#[104,46,111,114,103]⟩,.string ⟨#[97]⟩,.string ⟨#[104,46,111,114,103,58,56,48]⟩,.string ⟨#[120,46,121]⟩] 9)).cell? ⟨w.heap.size,k,none⟩=some (.string X))∧∀hh,([.string ⟨#[104,46,111,114,103]⟩,.string ⟨#[97]⟩,.string ⟨#[104,46,111,114,103,58,56,48]⟩,.string ⟨#[120,46,121]⟩]:List Value)[k]'hh=.string X:=
 ⟨_,size_at [⟨#[104,46,111,114,103]⟩,⟨#[97]⟩,⟨#[104,46,111,114,103,58,56,48]⟩,⟨#[120,46,121]⟩] 8 (by decide) k hk,fun w=>strs_at w 9 [⟨#[104,46,111,114,103]⟩,⟨#[97]⟩,⟨#[104,46,111,114,103,58,56,48]⟩,⟨#[120,46,121]⟩] k hk,fun hh=>by
   have h2:=val_at [⟨#[104,46,111,114,103]⟩,⟨#[97]⟩,⟨#[104,46,111,114,103,58,56,48]⟩,⟨#[120,46,121]⟩] k hk
   exact h2⟩
section code
set_option maxHeartbeats 4000000
set_option maxRecDepth 10000
attribute [local go_sem] Al
theorem end_any (a:Nat) (ha:a<256) (w:World):Calls EG 118 #[.int .u8 a] w fun e w'=>(∃L:ByteArray,e=.returned (.string L)∧L.size≤3)∧Below w.heap.size w w':=by
 obtain ⟨u,hu⟩:∃u,a%4=u:=⟨_,rfl⟩;have iu:(a:Int)%4=(u:Int):=by omega
 have lu:u<4:=by omega
 clear hu;obtain ⟨X1,z1,c1,d1⟩:=ends_at u lu;rcases CV a 235 with h | h;all_goals
  go_enter Tryz.func118,Tryz.ntmps118;go_wp2_with fail;all_goals
   go_ret;refine ⟨⟨_,rfl,?_⟩,?_⟩
   ·first | exact z1 | decide
   ·repeat (first | exact Am _ _ | with_reducible refine Below.alloc ?_ ?_ _)
    all_goals (simp;try omega)
theorem field_any (a b:Nat) (ha:a<256) (hb:b<256) (w:World):Calls EG 119 #[.int .u8 a,.int .u8 b] w fun e w'=>(∃L:ByteArray,e=.returned (.string L)∧L.size≤46)∧Below w.heap.size w w':=by
 obtain ⟨u,hu⟩:∃u,b%16=u:=⟨_,rfl⟩;obtain ⟨v,hv⟩:∃v,b%22=v:=⟨_,rfl⟩;have iu:(b:Int)%16=(u:Int):=by omega
 have iv:(b:Int)%22=(v:Int):=by omega
 have ju:Int.tmod (b:Int) 16=(u:Int):=by rw [Int.tmod_eq_emod_of_nonneg (by omega)];exact iu
 have jv:Int.tmod (b:Int) 22=(v:Int):=by rw [Int.tmod_eq_emod_of_nonneg (by omega)];exact iv
 have lu:u<16:=by omega
 have lv:v<22:=by omega
 clear hu hv;obtain ⟨X1,z1,c1,d1⟩:=good_at u lu;obtain ⟨X2,z2,c2,d2⟩:=odd_at v lv;rcases CV a 150 with h | h;all_goals
  go_enter Tryz.func119,Tryz.ntmps119;go_wp2_with fail;all_goals
   go_ret;refine ⟨⟨_,rfl,?_⟩,?_⟩
   ·first |(exact CT z1 (by decide)) |(exact CT z2 (by decide))
   ·repeat (first | exact Am _ _ | with_reducible refine Below.alloc ?_ ?_ _)
    all_goals (simp;try omega)
end code
end Go.Proofs.YtldhlecknfomjaaGreatDoor.Rq
namespace Go.Proofs.YtldhlecknfomjaaGreatDoor.Rq
open Go.RowKit Base Txt
section code
set_option maxHeartbeats 4000000
set_option maxRecDepth 10000
attribute [local go_sem] Al
theorem spell_len:∀k:Fin 20,(Num.str (Num.spell 10 k.val)).size≤2∧(Num.str (Num.spell 16 k.val)).size≤2:=by decide +kernel
theorem below_drew1 {n:Nat} {w w':World} (h:Below n w w'):Below n w w'.drew:=Aj h 1
theorem size9_at (E:ByteArray) (he:E.size≤40) (k:Nat) (hk:k<9):∃X:ByteArray,X.size≤40∧(∀w:World,(w.alloc (.cells #[.string ⟨#[51]⟩,.string ⟨#[48,120,51]⟩,.string ⟨#[32,51]⟩,.string ⟨#[51,59,97,61,98]⟩,.string ⟨#[51,32,59,120]⟩,.string ⟨#[48,51]⟩,.string ⟨#[51,9]⟩,.string ⟨#[103]⟩,.string E] 9)).cell? ⟨w.heap.size,k,none⟩=some (.string X))∧∀hh,([.string ⟨#[51]⟩,.string ⟨#[48,120,51]⟩,.string ⟨#[32,51]⟩,.string ⟨#[51,59,97,61,98]⟩,.string ⟨#[51,32,59,120]⟩,.string ⟨#[48,51]⟩,.string ⟨#[51,9]⟩,.string ⟨#[103]⟩,.string E]:List Value)[k]'hh=.string X:=
 ⟨_,size_at [⟨#[51]⟩,⟨#[48,120,51]⟩,⟨#[32,51]⟩,⟨#[51,59,97,61,98]⟩,⟨#[51,32,59,120]⟩,⟨#[48,51]⟩,⟨#[51,9]⟩,⟨#[103]⟩,E] 40 (by simp only [List.all_cons,List.all_nil,Bool.and_true,An,decide_eq_true_eq];exact ⟨by decide,by decide,by decide,by decide,by decide,by decide,by decide,by decide,he⟩) k hk,fun w=>strs_at w 9 [⟨#[51]⟩,⟨#[48,120,51]⟩,⟨#[32,51]⟩,⟨#[51,59,97,61,98]⟩,⟨#[51,32,59,120]⟩,⟨#[48,51]⟩,⟨#[51,9]⟩,⟨#[103]⟩,E] k hk,fun hh=>by
   have h2:=val_at [⟨#[51]⟩,⟨#[48,120,51]⟩,⟨#[32,51]⟩,⟨#[51,59,97,61,98]⟩,⟨#[51,32,59,120]⟩,⟨#[48,51]⟩,⟨#[51,9]⟩,⟨#[103]⟩,E] k hk
   exact h2⟩
theorem body_any (a n c:Nat) (ha:a<256) (hn:n<256) (hc:c<256) (w:World):Calls EG 120 #[.int .u8 a,.int .u8 n,.int .u8 c] w fun e w'=>(∃L M:ByteArray,e=.returned (.tuple #[.string L,.string M])∧L.size≤60∧M.size≤100)∧Below w.heap.size w w':=by
 obtain ⟨v,hv⟩:∃v,n%20=v:=⟨_,rfl⟩;obtain ⟨y,hy⟩:∃y,c%9=y:=⟨_,rfl⟩;obtain ⟨z,hz⟩:∃z,n%5=z:=⟨_,rfl⟩;obtain ⟨x,hx⟩:∃x,n/5%4=x:=⟨_,rfl⟩;have iv:(n:Int)%20=(v:Int):=by omega
 have iy:(c:Int)%9=(y:Int):=by omega
 have iz:(n:Int)%5=(z:Int):=by omega
 have ix:(n:Int)/5%4=(x:Int):=by omega
 have lv:v<20:=by omega
 have ly:y<9:=by omega
 have lz:z<5:=by omega
 have lx:x<4:=by omega
 clear hv hy hz hx;have es:(ByteArray.extract ⟨#[48,49,50,51,52,53,54,55,56,57,97,98,99,100,101,102,103,104,105,106,107,108,109,110,111,112]⟩ 0 v).size=v:=by rw [ByteArray.size_extract];show min v 26-0=v;omega
 obtain ⟨S,hS⟩:∃S,ByteArray.extract ⟨#[48,49,50,51,52,53,54,55,56,57,97,98,99,100,101,102,103,104,105,106,107,108,109,110,111,112]⟩ 0 v=S:=⟨_,rfl⟩;rw [hS] at es
 have HP:=Bo (fun w=>Num.rput_any (v:Int) w (by omega) (by omega))
 have HX:=Bo (fun w=>Num.rputHex_any (v:Int) w (by omega) (by omega));have l1:=(spell_len ⟨v,lv⟩).1;have l2:=(spell_len ⟨v,lv⟩).2;simp only [Int.toNat_natCast] at HP HX l1 l2;generalize Num.str (Num.spell 10 v)=D1 at *;generalize Num.str (Num.spell 16 v)=D2 at *
 have HE:=Bo (fun w=>end_any c hc w);obtain ⟨X1,z1,c1,d1⟩:=size9_at (⟨#[51,59]⟩++S++S) (by rw [A7,A7,es];show 2+v+v≤40;omega) y ly;obtain ⟨X2,z2,c2,d2⟩:=end3_at z lz;obtain ⟨X3,z3,c3,d3⟩:=tr_at x lx;have hb6:a%6=0∨a%6=1∨a%6=2∨a%6=3∨a%6=4∨a%6=5:=by omega
 have c1':=fun w:World=>c1 (w.drewN 1);rcases hb6 with h | h | h | h | h | h
 rotate_left 3
 ·have ih:(a:Int)%6=3:=by omega
  clear h;go_enter Tryz.func120,Tryz.ntmps120;go_upto_region 13 with fail
  go_region;all_goals
   go_wp2_with fail;go_ret2;refine ⟨⟨_,_,rfl,?_,?_⟩,?_⟩
   ·decide
   ·simp only [A7,len_mk,List.length_cons,List.length_nil];omega
   ·repeat (first | exact Am _ _ | with_reducible refine Below.alloc ?_ ?_ _ | with_reducible refine below_drew1 ?_)
    all_goals (try simp)
    all_goals (try omega)
 all_goals
  have ih:(a:Int)%6=((a%6:Nat):Int):=by omega
  rw [h] at ih;go_enter Tryz.func120,Tryz.ntmps120;clear h
  go_wp2_with (first
   |(go_at_call 118;with_reducible refine (HE.out _).mono ?_;rintro e w2 ⟨⟨E1,rfl,e1⟩,hb2⟩;have HB2:=Bo hb2;clear hb2)
   |(go_at_call 33;with_reducible refine (HP.out _).mono ?_;rintro e w3 ⟨rfl,m3,hw⟩;rw [hw];clear hw)
   |(go_at_call 123;with_reducible refine (HX.out _).mono ?_;rintro e w4 ⟨rfl,m4,hw⟩;rw [hw];clear hw))
  all_goals
   go_ret2;refine ⟨⟨_,_,rfl,?_,?_⟩,?_⟩
   ·first | decide |(simp only [A7,len_mk,List.length_cons,List.length_nil];omega)
   ·first | decide | omega |(simp only [A7,len_mk,List.length_cons,List.length_nil];omega)
   ·first
     | exact Am _ _
     | exact HB2.out
     | exact Aj HB2.out _
     | exact Ak (Aj (Am _ _) _) HB2.out
     | exact Aj (Ak (Aj (Am _ _) _) HB2.out) _
end code
end Go.Proofs.YtldhlecknfomjaaGreatDoor.Rq
namespace Go.Proofs.YtldhlecknfomjaaGreatDoor.Rq
open Go.RowKit Base Txt Rec
section code
set_option maxHeartbeats 8000000
set_option maxRecDepth 20000
attribute [local go_sem] Al
theorem byte_lt (x:Int):(x%256).toNat<256:=by omega
theorem byte_cast (x:Int):(((x%256).toNat:Nat):Int)=x%256:=by omega
theorem at_any (a:Option Addr) (n cap:Nat) (zs:List Int) (g:Nat) (hn:n≤1000000):∃G:Int→Nat,(∀i,G i<256)∧∀(w:World) (i:Int),w.cell? ⟨g,0,none⟩=some (.slice a n cap)→Nums .u8 w a n zs→0≤i→i≤1000000→
 Calls EG 116 #[.int .i64 i,.pointer (some ⟨g,0,none⟩)] w fun e w'=>e=.returned (.int .u8 (G i:Nat))∧∃q,w'=w.drewN q:=by
 rcases CO n with hz | hp
 ·refine ⟨fun i=>(i%256).toNat,fun i=>byte_lt _,fun w i hc hv h0 h1=>?_⟩;subst hz;have e:(((i%256).toNat:Nat):Int)=i%256:=byte_cast _;rw [e];go_enter Tryz.func116,Tryz.ntmps116;go_wp2;go_ret;exact ⟨rfl,0,rfl⟩
 ·refine ⟨fun i=>((zs[i.toNat%n]?.getD 0+wrap64 (wrap64 (Int.tdiv i n)*37)%256)%256).toNat,fun i=>byte_lt _,fun w i hc hv h0 h1=>?_⟩;have e:((((zs[i.toNat%n]?.getD 0+wrap64 (wrap64 (Int.tdiv i n)*37)%256)%256).toNat:Nat):Int)=(zs[i.toNat%n]?.getD 0+wrap64 (wrap64 (Int.tdiv i n)*37)%256)%256:=byte_cast _;rw [e];clear e h1;obtain ⟨b,off,rfl,hb,hcs⟩:=hv.2 hp;obtain ⟨j,hj,hjm,_⟩:∃j:Nat,j<n∧Int.tmod i (n:Int)=(j:Int)∧i.toNat%n=j:=by
   refine ⟨i.toNat%n,Nat.mod_lt _ hp,?_,rfl⟩;rw [Int.tmod_eq_emod_of_nonneg h0,Int.natCast_emod,Int.toNat_of_nonneg h0]
  rename_i hjn;rw [hjn];obtain ⟨d,hd⟩:∃d:Int,Int.tdiv i (n:Int)=d:=⟨_,rfl⟩;rw [hd];have hck:=hcs j hj;generalize zs[j]?.getD 0=z at *;have t0:((n:Int)==0)=false:=by rw [beq_eq_false_iff_ne];omega
  have t1:¬(n:Int)=0:=by omega
  clear hcs hv hjn h0;go_enter Tryz.func116,Tryz.ntmps116;go_wp2_with fail
  go_quiet (fail);rename_i nq;go_wp2;go_ret;exact ⟨rfl,nq,rfl⟩
theorem request_any (a:Option Addr) (n cap:Nat) (zs:List Int) (w:World) (hv:Nums .u8 w a n zs) (hn:n≤1000000) :
 Calls EG 75 #[.slice a n cap] w fun e w'=>(∃L:ByteArray,e=.returned (.string L)∧L.size≤500)∧Below w.heap.size w w':=by
 have eg:∀args w,(callFunc 116 args).run EG w=.ok (.enter 116 args) w:=enters_of Tryz.func116 (by kernel_rfl) rfl;obtain ⟨G,hG,hat⟩:=at_any a n cap zs w.heap.size hn;have HAT:Hid (∀(w1:World) (i:Int),Below w.heap.size w w1∧Bk w1 w.heap.size [.slice a n cap]→0≤i→i≤1000000→Calls EG 116 #[.int .i64 i,.pointer (some ⟨w.heap.size,0,none⟩)] w1 fun e w'=>e=.returned (.int .u8 (G i:Nat))∧∃q,w'=w1.drewN q):=
  Bo (fun w1 i hb h0 h1=>hat w1 i (hb.2.c 0 _ rfl) (hv.below hb.1) h0 h1)
 have HG:=Bo hG;have hb0:Below w.heap.size w (w.alloc (.cells #[.slice a n cap] 23)):=(Am _ _).alloc (CQ _) _
 have HC:=Bo (show Below w.heap.size w (w.alloc (.cells #[.slice a n cap] 23))∧Bk (w.alloc (.cells #[.slice a n cap] 23)) w.heap.size [.slice a n cap] from ⟨hb0,Bk.new w _ rfl 23 [.slice a n cap]⟩);clear hv hat hb0 hG;obtain ⟨u,hu⟩:∃u,G 4%4=u:=⟨_,rfl⟩;have iu:((G 4:Nat):Int)%4=(u:Int):=by omega
 have lu:u<4:=by omega
 clear hu;obtain ⟨X1,z1,c1,d1⟩:=host_at u lu;obtain ⟨t,ht⟩:∃t,G 5%4=t:=⟨_,rfl⟩;have it:((G 5:Nat):Int)%4=(t:Int):=by omega
 have lt:t<4:=by omega
 clear ht;have h0:250<G 0∨G 0≤250:=by omega
 have h4:G 4<235∨235≤G 4:=by omega
 go_enter Tryz.func75,Tryz.ntmps75;go_upto_if 11 with
  (go_at_fn 116;with_reducible refine (HAT.out _ _ HC.out (by first | decide | omega) (by first | decide | omega)).mono ?_;rintro e wn ⟨rfl,qn,hwn⟩
   replace HC:=Bo (show Below w.heap.size w wn∧Bk wn w.heap.size [.slice a n cap] by rw [hwn];exact ⟨Aj HC.out.1 qn,HC.out.2.below (Aj (Am _ _) qn)⟩)
   clear hwn)
 go_cut [4] from 12 to 13 (fun v wx=>∃S:ByteArray,v=.string S∧S.size≤2∧Hid (Below w.heap.size w wx∧Bk wx w.heap.size [.slice a n cap]))
 case first=>
  rcases h0 with h0 | h0;all_goals
   go_wp2_with fail;go_meet
   case rel=>exact ⟨_,rfl,by decide,HC⟩
 case rest=>
  obtain ⟨S0,rfl,hS0,HC2⟩:=hcut
  replace HC:=HC2
  clear HC2 h0
  go_upto_if 25 with (first
   |(go_at_fn 116;with_reducible refine (HAT.out _ _ HC.out (by first | decide | omega) (by first | decide | omega)).mono ?_;rintro e wn ⟨rfl,qn,hwn⟩
     replace HC:=Bo (show Below w.heap.size w wn∧Bk wn w.heap.size [.slice a n cap] by rw [hwn];exact ⟨Aj HC.out.1 qn,HC.out.2.below (Aj (Am _ _) qn)⟩)
     clear hwn)
   |(go_at_call 117;with_reducible refine (line_any _ _ (HG.out _) (HG.out _) _).mono ?_;rintro e wn ⟨⟨Tn,rfl,tn⟩,hbn⟩
     replace HC:=Bo (show Below w.heap.size w wn∧Bk wn w.heap.size [.slice a n cap] from ⟨Ak HC.out.1 hbn,HC.out.2.below hbn⟩)
     clear hbn)
   |(go_at_call 118;with_reducible refine (end_any _ (HG.out _) _).mono ?_;rintro e wn ⟨⟨En,rfl,en⟩,hbn⟩
     replace HC:=Bo (show Below w.heap.size w wn∧Bk wn w.heap.size [.slice a n cap] from ⟨Ak HC.out.1 hbn,HC.out.2.below hbn⟩)
     clear hbn))
  obtain ⟨S1,hS1⟩:∃S,S0++Tn++En=S:=⟨_,rfl⟩;have hz1:S1.size≤65:=by rw [←hS1,A7,A7];omega
  rw [hS1];clear hS1 tn en hS0;obtain ⟨WX,hWX⟩:∃x,x=wn:=⟨_,rfl⟩;subst hWX
  go_cut [4] from 25 to 36 (fun v wx=>∃S:ByteArray,v=.string S∧S.size≤100∧Hid (Below w.heap.size w wx∧Bk wx w.heap.size [.slice a n cap]))
  case first=>
   rcases h4 with h4 | h4
   ·have hb9:Below w.heap.size w (WX.alloc (.cells #[.string ⟨#[104,46,111,114,103]⟩,.string ⟨#[97]⟩,.string ⟨#[104,46,111,114,103,58,56,48]⟩,.string ⟨#[120,46,121]⟩] 9)):=HC.out.1.alloc HC.out.1.size _
    have hk9:Bk (WX.alloc (.cells #[.string ⟨#[104,46,111,114,103]⟩,.string ⟨#[97]⟩,.string ⟨#[104,46,111,114,103,58,56,48]⟩,.string ⟨#[120,46,121]⟩] 9)) w.heap.size [.slice a n cap]:=HC.out.2.below ((Am _ _).alloc (CQ _) _)
    have HAL:=Bo (HAT.out _ 4 ⟨hb9,hk9⟩ (by decide) (by decide));have HB9:=Bo hb9;have HK9:=Bo hk9;have c1w:=c1 WX;clear hb9 hk9 c1;go_wp2_with
     (go_at_fn 116;with_reducible refine HAL.out.mono ?_;rintro e wm ⟨rfl,qn,hwn⟩
      have c1':wm.cell? ⟨WX.heap.size,u,none⟩=some (.string X1):=by rw [hwn];exact c1w
      replace HC:=Bo (show Below w.heap.size w wm∧Bk wm w.heap.size [.slice a n cap] by rw [hwn];exact ⟨Aj HB9.out qn,HK9.out.below (Aj (Am _ _) qn)⟩)
      clear hwn)
    go_meet
    case rel=>exact ⟨_,rfl,(by simp only [A7,len_mk,List.length_cons,List.length_nil];omega),HC⟩
   ·go_wp2_with fail;go_meet
    case rel=>exact ⟨_,rfl,by omega,HC⟩
  case rest=>
   obtain ⟨S2,rfl,hS2,HC2⟩:=hcut
   replace HC:=HC2
   clear HC2 h4 hz1 c1 d1 z1 iu lu;go_upto_region 9 with fail
   go_loopw [4,5] (fun v i wr=>∃(k:Nat) (S:ByteArray),k≤t∧i=.int .i64 k∧v=.string S∧S.size≤100+60*k∧Hid (Below w.heap.size w wr∧Bk wr w.heap.size [.slice a n cap])) (fun _ i _=>t-(intOf i).toNat)
   case atStart=>exact ⟨0,_,CX _,rfl,rfl,by omega,HC⟩
   case round=>
    obtain ⟨k,S,hk,rfl,rfl,hS,hR⟩:=hrel
    replace HC:=hR
    clear hR hS2;rcases CV k t with hlt | hge
    ·have hk4:k<4:=by omega
     have HS:=Bo hS;have HLT:=Bo hlt;have hs9:S.size≤400:=by omega
     have tlt:(k:Int)<(t:Int):=by omega
     clear hS hlt lt hk
     go_wp2_with (first
      |(go_at_fn 116;with_reducible refine (HAT.out _ _ HC.out (by first | decide | omega) (by first | decide | omega)).mono ?_;rintro e wn ⟨rfl,qn,hwn⟩
        replace HC:=Bo (show Below w.heap.size w wn∧Bk wn w.heap.size [.slice a n cap] by rw [hwn];exact ⟨Aj HC.out.1 qn,HC.out.2.below (Aj (Am _ _) qn)⟩)
        clear hwn)
      |(go_at_call 119;with_reducible refine (field_any _ _ (HG.out _) (HG.out _) _).mono ?_;rintro e wn ⟨⟨Fq,rfl,fq⟩,hbn⟩
        replace HC:=Bo (show Below w.heap.size w wn∧Bk wn w.heap.size [.slice a n cap] from ⟨Ak HC.out.1 hbn,HC.out.2.below hbn⟩)
        clear hbn)
      |(go_at_call 118;with_reducible refine (end_any _ (HG.out _) _).mono ?_;rintro e wn ⟨⟨En,rfl,en⟩,hbn⟩
        replace HC:=Bo (show Below w.heap.size w wn∧Bk wn w.heap.size [.slice a n cap] from ⟨Ak HC.out.1 hbn,HC.out.2.below hbn⟩)
        clear hbn))
     go_roundw
     case rel=>exact ⟨k+1,_,(by have:=HLT.out;omega),by go_num,rfl,(by have:=HS.out;simp only [A7];omega),HC⟩
     case measure=>have:=HLT.out;simp [intOf];omega
    ·obtain rfl:k=t:=by omega
     have tlt:¬(k:Int)<(k:Int):=by omega
     have hs9:S.size≤300:=by omega
     clear hS lt hk hge
     go_wp2_with (first
      |(go_at_fn 116;with_reducible refine (HAT.out _ _ HC.out (by first | decide | omega) (by first | decide | omega)).mono ?_;rintro e wn ⟨rfl,qn,hwn⟩
        replace HC:=Bo (show Below w.heap.size w wn∧Bk wn w.heap.size [.slice a n cap] by rw [hwn];exact ⟨Aj HC.out.1 qn,HC.out.2.below (Aj (Am _ _) qn)⟩)
        clear hwn)
      |(go_at_call 118;with_reducible refine (end_any _ (HG.out _) _).mono ?_;rintro e wn ⟨⟨En,rfl,en⟩,hbn⟩
        replace HC:=Bo (show Below w.heap.size w wn∧Bk wn w.heap.size [.slice a n cap] from ⟨Ak HC.out.1 hbn,HC.out.2.below hbn⟩)
        clear hbn)
      |(go_at_call 120;with_reducible refine (body_any _ _ _ (HG.out _) (HG.out _) (HG.out _) _).mono ?_;rintro e wn ⟨⟨Ln,Mn,rfl,ln,mn⟩,hbn⟩
        replace HC:=Bo (show Below w.heap.size w wn∧Bk wn w.heap.size [.slice a n cap] from ⟨Ak HC.out.1 hbn,HC.out.2.below hbn⟩)
        clear hbn))
     go_ret;refine ⟨⟨_,rfl,?_⟩,HC.out.1⟩;simp only [A7];omega
end code
end Go.Proofs.YtldhlecknfomjaaGreatDoor.Rq
namespace Go.Proofs.YtldhlecknfomjaaGreatDoor.Rq
open Go.RowKit Base Txt
section code
set_option maxHeartbeats 4000000
set_option maxRecDepth 20000
attribute [local go_sem] Al
theorem conv_cap (s:ByteArray) (w:World):∃W cap,(convert 9 23 (.string s)).run EG w=.ok (.slice (some ⟨w.heap.size,0,none⟩) s.size cap) W∧s.size≤cap∧By.Bytes W w.heap.size s.data.toList∧w.heap.size<W.heap.size∧Below w.heap.size w W:=by have hcv:=run_bytes_of_string (P:=EG) w 9 23 5 s Fs Fh Fp;obtain ⟨W,cap,h1,h2,h3,h4⟩:=By.conv_bytes s w;have e:=h1.symm.trans hcv;simp only [Result.ok.injEq,Value.slice.injEq,true_and] at e;exact ⟨W,cap,h1,by rw [e.1];exact grownCap_ge _ _ _ _,h2,h3,h4⟩
theorem nums_cut {w:World} {b off n:Nat} {zs:List Int} (h:Nums .u8 w (some ⟨b,off,none⟩) n zs) (i m:Nat) (hm:i+m≤n):Nums .u8 w (some ⟨b,off+i,none⟩) m ((zs.drop i).take m):=by
 refine ⟨by rw [Ct,Ck,h.1];omega,fun h0=>?_⟩
 obtain ⟨b0,o0,e,hlt,hc⟩:=h.2 (by omega);cases e;refine ⟨b,off+i,rfl,hlt,fun k hk=>?_⟩
 have:=hc (i+k) (by omega);rw [show off+i+k=off+(i+k) by omega,this];simp [List.getElem?_drop,hk]
theorem stream_any (a:Option Addr) (n cap:Nat) (zs:List Int) (w:World) (hv:Nums .u8 w a n zs) (hn:n≤40) (hc:n≤cap) :
 Calls EG 21 #[.slice a n cap] w fun e w'=>∃(g:Nat) (s:List UInt8) (c:Nat),e=.returned (.slice (some ⟨g,0,none⟩) s.length c)∧s.length≤c∧s.length≤2500∧w.heap.size≤g∧g<w'.heap.size∧By.Bytes w' g s∧Below w.heap.size w w':=by
 have HV:=Bo hv;clear hv;go_enter Tryz.func21,Tryz.ntmps21;go_upto_region 3 with fail
 go_loopw [3,4] (fun v i wr=>∃(j:Nat) (S:ByteArray),j≤4∧i=.int .i64 ((10*j:Nat):Int)∧v=.string S∧S.size≤500*j∧Hid (Below w.heap.size w wr)) (fun _ i _=>50-(intOf i).toNat)
 case atStart=>exact ⟨0,⟨#[]⟩,by omega,rfl,rfl,by decide,Bo (Am _ _)⟩
 case round=>
  obtain ⟨j,S,hj,rfl,rfl,hS,hR⟩:=hrel;obtain ⟨q,hq⟩:∃q,10*j=q:=⟨_,rfl⟩;rw [hq]
  have HS:=Bo hS;have HJ:=Bo (And.intro hj hq);have hs9:S.size≤2000:=by omega
  have hq4:q≤40:=by omega
  by_cases hlt:q<n
  ·have hq40:q<40:=by omega
   have t1:(q:Int)<(n:Int):=by omega
   have t2:(q:Int)<40:=by omega
   obtain ⟨m,hm⟩:∃m,min (q+10) n=m:=⟨_,rfl⟩;have hm1:q≤m∧m≤n∧m≤q+10:=by omega
   have im:min ((q:Int)+10) (n:Int)=(m:Int):=by omega
   obtain ⟨b,off,rfl,hb, -⟩:=HV.out.2 (by omega)
   have hcu:=nums_cut HV.out q (m-q) (by omega)
   have HRQ:=Bo (request_any (some ⟨b,off+q,none⟩) (m-q) (cap-q) _ wr (hcu.below hR.out) (by omega));have c2:q≤m:=hm1.1;have c3:m≤cap:=by omega
   clear hm hcu hS hj hq hb hm1
   go_wp2_with (go_at_call 75;with_reducible refine HRQ.out.mono ?_;rintro e w2 ⟨⟨L,rfl,hl⟩,hb2⟩);go_roundw
   case rel=>obtain ⟨hj,hq⟩:=HJ.out;exact ⟨j+1,_,by omega,by subst hq;go_num,rfl,(by have:=HS.out;simp only [A7];omega),Bo (Ak hR.out hb2)⟩
   case measure=>simp [intOf];omega
  ·have t1:¬(q:Int)<(n:Int):=by omega
   obtain ⟨W5,cap5,hcv,hcap5,hby,hlt5,hb5⟩:=conv_cap S wr
   have HF:=Bo (And.intro hcap5 (And.intro hby (And.intro hlt5 (Ak hR.out hb5))));clear hcap5 hby hlt5 hb5 hS hj hq;go_wp2_with fail;go_ret;obtain ⟨f1,f2,f3,f4⟩:=HF.out;exact ⟨wr.heap.size,S.data.toList,cap5,(by rw [Txt.len];rfl),by rw [Txt.len];exact f1,by rw [Txt.len];omega,hR.out.size,f3,f2,f4⟩
end code
end Go.Proofs.YtldhlecknfomjaaGreatDoor.Rq
namespace Go.Proofs.YtldhlecknfomjaaGreatDoor.Par
open Go.RowKit Base Txt Mem
abbrev nil:Value:=.slice none 0 0
structure Cs (w:World) (g:Nat) (p:Nat) (b:Bd) (s:S) (q:Nat) (f bd t o:Value):Prop where
 c0:w.cell? ⟨g,0,none⟩=some (.int .u32 (p:Int))
 c1:w.cell? ⟨g,1,none⟩=some (.int .i64 b.x0)
 c2:w.cell? ⟨g,2,none⟩=some (.int .i64 b.x1)
 c3:w.cell? ⟨g,3,none⟩=some (.int .i64 b.x2)
 c4:w.cell? ⟨g,4,none⟩=some (.int .i64 b.x3)
 c5:w.cell? ⟨g,5,none⟩=some (.int .i64 b.x4)
 c6:w.cell? ⟨g,6,none⟩=some (.int .i64 b.x5)
 c7:w.cell? ⟨g,7,none⟩=some (.int .i64 b.x6)
 c8:w.cell? ⟨g,8,none⟩=some (.int .i64 b.x7)
 c9:w.cell? ⟨g,9,none⟩=some (.bool b.ch)
 c10:w.cell? ⟨g,10,none⟩=some (.bool b.od)
 c11:w.cell? ⟨g,11,none⟩=some (.int .i64 (s.st:Int))
 c12:w.cell? ⟨g,12,none⟩=some (ptr q)
 c13:w.cell? ⟨g,13,none⟩=some (.string s.r.m)
 c14:w.cell? ⟨g,14,none⟩=some (.string s.r.x)
 c15:w.cell? ⟨g,15,none⟩=some (.int .i64 s.r.k)
 c16:w.cell? ⟨g,16,none⟩=some (f)
 c17:w.cell? ⟨g,17,none⟩=some (.bool s.r.ch)
 c18:w.cell? ⟨g,18,none⟩=some (bd)
 c19:w.cell? ⟨g,19,none⟩=some (t)
 c20:w.cell? ⟨g,20,none⟩=some (.int .i64 (s.lines:Int))
 c21:w.cell? ⟨g,21,none⟩=some (.int .i64 (s.head:Int))
 c22:w.cell? ⟨g,22,none⟩=some (.int .i64 (s.left:Int))
 c23:w.cell? ⟨g,23,none⟩=some (.bool s.fresh)
 c24:w.cell? ⟨g,24,none⟩=some (.bool s.clean)
 c25:w.cell? ⟨g,25,none⟩=some (.int .i64 (s.e:Int))
 c26:w.cell? ⟨g,26,none⟩=some (o)
theorem Cs.of {w:World} {g:Nat} {p:Nat} {b:Bd} {s:S} {q:Nat} {f bd t o:Value} (h:w.heap[g]?=some (.cells (pcells p b s q f bd t o).toArray 78 (0,0))):Cs w g p b s q f bd t o:=⟨row_cellL h rfl,row_cellL h rfl,row_cellL h rfl,row_cellL h rfl,row_cellL h rfl,row_cellL h rfl,row_cellL h rfl,row_cellL h rfl,row_cellL h rfl,row_cellL h rfl,row_cellL h rfl,row_cellL h rfl,row_cellL h rfl,row_cellL h rfl,row_cellL h rfl,row_cellL h rfl,row_cellL h rfl,row_cellL h rfl,row_cellL h rfl,row_cellL h rfl,row_cellL h rfl,row_cellL h rfl,row_cellL h rfl,row_cellL h rfl,row_cellL h rfl,row_cellL h rfl,row_cellL h rfl⟩
section code
set_option maxHeartbeats 4000000
set_option maxRecDepth 20000
variable {w:World} {B:Zone} {g q:Nat} {v f bd t o:Value} {p:Nat} {b:Bd} {s:S}
theorem PR.cs (h:PR w B g q v f bd t o p b s):Cs w g p b s q f bd t o:=Cs.of h.row
theorem PR.marks (h:PR w B g q v f bd t o p b s) (k:Nat):w.frozen? ⟨g,k,none⟩=false:=CL h.row k
theorem PR.zero_of {f1 bd1 t1:Value} {fs1 ts1:List Fld} {body1:List UInt8} (hr:w.heap[g]?=some (.cells (pcells p b s q f bd t o).toArray 78 (0,0))) (ho:Own w B g q v f1 bd1 t1 o p s.rd fs1 body1 ts1 s.out) (s':S) (hs:s'={s with r:=zero}) :
 PR (((((((w.setCell ⟨g,13,none⟩ (.string E0)).setCell ⟨g,14,none⟩ (.string E0)).setCell ⟨g,15,none⟩ (.int .i64 0)).setCell ⟨g,16,none⟩ nil).setCell ⟨g,17,none⟩ (.bool false)).setCell ⟨g,18,none⟩ nil).setCell ⟨g,19,none⟩ nil) B g q v nil nil nil o p b s':=by
 subst hs;refine ⟨?_,(((((((ho.zero).set 13 _).set 14 _).set 15 _).set 16 _).set 17 _).set 18 _).set 19 _⟩;exact row_setL (row_setL (row_setL (row_setL (row_setL (row_setL (row_setL hr 13 _) 14 _) 15 _) 16 _) 17 _) 18 _) 19 _
theorem PR.zero (h:PR w B g q v f bd t o p b s) (s':S) (hs:s'={s with r:=zero}):PR (((((((w.setCell ⟨g,13,none⟩ (.string E0)).setCell ⟨g,14,none⟩ (.string E0)).setCell ⟨g,15,none⟩ (.int .i64 0)).setCell ⟨g,16,none⟩ nil).setCell ⟨g,17,none⟩ (.bool false)).setCell ⟨g,18,none⟩ nil).setCell ⟨g,19,none⟩ nil) B g q v nil nil nil o p b s':=
 PR.zero_of h.row h.own s' hs
theorem Step.put7 (u13 u14 u15 u16 u17 u18 u19:Value):Step (blks g q v f bd t o) (blks g q v f bd t o) w (((((((w.setCell ⟨g,13,none⟩ u13).setCell ⟨g,14,none⟩ u14).setCell ⟨g,15,none⟩ u15).setCell ⟨g,16,none⟩ u16).setCell ⟨g,17,none⟩ u17).setCell ⟨g,18,none⟩ u18).setCell ⟨g,19,none⟩ u19):=
 ((((((DB g 13 _ (by simp)).trans (DB g 14 _ (by simp))).trans (DB g 15 _ (by simp))).trans (DB g 16 _ (by simp))).trans (DB g 17 _ (by simp))).trans (DB g 18 _ (by simp))).trans (DB g 19 _ (by simp))
theorem fail_any (h:PR w B g q v f bd t o p b s) (e:Nat):Calls EG 139 #[ptr g,.int .i64 (e:Int)] w fun r w'=>
 r=.returned (.tuple #[])∧PR w' B g q v nil nil nil o p b (s.fail e)∧Step (blks g q v f bd t o) (blks g q v nil nil nil o) w w':=by
 have H:=Bo h;have c24:=h.cs.c24;have z24:=h.marks 24;have c25:=h.cs.c25;have z25:=h.marks 25;have c13:=h.cs.c13;have z13:=h.marks 13;have c14:=h.cs.c14;have z14:=h.marks 14;have c15:=h.cs.c15;have z15:=h.marks 15;have c16:=h.cs.c16;have z16:=h.marks 16;have c17:=h.cs.c17;have z17:=h.marks 17;have c18:=h.cs.c18;have z18:=h.marks 18;have c19:=h.cs.c19;have z19:=h.marks 19
 have H1:=Bo (h.put 25 (.int .i64 (e:Int)) {s with e:=e} rfl rfl rfl rfl rfl rfl)
 have H2:=Bo (H1.out.put 24 (.bool false) {s with e:=e,clean:=false} rfl rfl rfl rfl rfl rfl);clear h;go_enter Tryz.func139,Tryz.ntmps139;go_wp2;go_end0;exact ⟨rfl,H2.out.zero _ rfl,((DB g 25 _ (by simp)).trans (DB g 24 _ (by simp))).trans ((Step.put7 _ _ _ _ _ _ _).trans Step.zero)⟩
theorem rnew_line (B:Nat) (most:Int) (w:World) (hB:B≤w.heap.size):Calls EG 137 #[.int .u32 (p:Int),.int .i64 most] w fun r w'=>∃q1,r=.returned (ptr q1)∧w.heap.size≤q1∧Ln.Rr w' B q1 nil p (nl p most)∧Below w.heap.size w w':=by refine (Ln.rnew_any p most w).mono ?_;exact XX8I9
theorem XXSdZ {P:Prop} (h:P:=by refine AJ rfl (fun ev w1 hR hb hh=>?_);have e0:=hR.old 0 rfl;simp only [Af,BZ,BR,BS,Dg] at e0;have q0:=(HQ.out.below hb).c 0 _ rfl;have q1:=(HQ.out.below hb).c 1 _ rfl;exact Each.std):P:=h
theorem XXQ1N {P:Prop} (h:P:=by
 clear hh;have ef:=hR.func
 refine AE 137 #[.int .u32 (p:Int),.int .i64 (b.x0)] (by go_simp) ((rnew_line B (b.x0) w1 (CT HBW.out hb.size)).mono ?_);rintro r w2 ⟨q1,rfl,h1,h2,hb2⟩
 exact ⟨_,rfl,hb2,q1,rfl,CT hb.size h1,h2⟩):P:=h
theorem next_any {f1 bd1 t1:Value} {fs1 ts1:List Fld} {body1:List UInt8} (hrow:w.heap[g]?=some (.cells (pcells p b s q f bd t o).toArray 78 (0,0))) (ho:Own w B g q v f1 bd1 t1 o p s.rd fs1 body1 ts1 s.out):Calls EG 95 #[ptr g] w fun r w'=>
 r=.returned (.tuple #[])∧∃q1,PR w' B g q1 nil nil nil nil o p b (s.next p b)∧Step (blks g q v f1 bd1 t1 o) (blks g q1 nil nil nil nil o) w w':=by
 have H1:=Bo ((((((PR.zero_of hrow ho {s with r:=zero} rfl).put 11 (.int .i64 0) {s with r:=zero,st:=0} rfl rfl rfl rfl rfl rfl).put 20 (.int .i64 0) {s with r:=zero,st:=0,lines:=0} rfl rfl rfl rfl rfl rfl).put 21 (.int .i64 0) {s with r:=zero,st:=0,lines:=0,head:=0} rfl rfl rfl rfl rfl rfl).put 23 (.bool false) {s with r:=zero,st:=0,lines:=0,head:=0,fresh:=false} rfl rfl rfl rfl rfl rfl).put 24 (.bool true) {s with r:=zero,st:=0,lines:=0,head:=0,fresh:=false,clean:=true} rfl rfl rfl rfl rfl rfl)
 have HS:=Bo ((((((Step.put7 (w:=w) (g:=g) (q:=q) (v:=v) (f:=f1) (bd:=bd1) (t:=t1) (o:=o) (.string E0) (.string E0) (.int .i64 0) nil (.bool false) nil nil).trans (DB g 11 (.int .i64 0) (by simp))).trans (DB g 20 (.int .i64 0) (by simp))).trans (DB g 21 (.int .i64 0) (by simp))).trans (DB g 23 (.bool false) (by simp))).trans (DB g 24 (.bool true) (by simp)));have cs:=Cs.of hrow;have c11:=cs.c11;have z11:=CL hrow 11;have c20:=cs.c20;have z20:=CL hrow 20;have c21:=cs.c21;have z21:=CL hrow 21;have c23:=cs.c23;have z23:=CL hrow 23;have c24:=cs.c24;have z24:=CL hrow 24;have c13:=cs.c13;have z13:=CL hrow 13;have c14:=cs.c14;have z14:=CL hrow 14;have c15:=cs.c15;have z15:=CL hrow 15;have c16:=cs.c16;have z16:=CL hrow 16;have c17:=cs.c17;have z17:=CL hrow 17;have c18:=cs.c18;have z18:=CL hrow 18;have c19:=cs.c19;have z19:=CL hrow 19
 have HB:=Bo (ho.ge);clear hrow ho cs;go_enter Tryz.func95,Tryz.ntmps95;go_upto_region 1 with fail
 generalize (((((((((((w.setCell ⟨g,13,none⟩ (.string E0)).setCell ⟨g,14,none⟩ (.string E0)).setCell ⟨g,15,none⟩ (.int .i64 0)).setCell ⟨g,16,none⟩ (nil)).setCell ⟨g,17,none⟩ (.bool false)).setCell ⟨g,18,none⟩ (nil)).setCell ⟨g,19,none⟩ (nil)).setCell ⟨g,11,none⟩ (.int .i64 0)).setCell ⟨g,20,none⟩ (.int .i64 0)).setCell ⟨g,21,none⟩ (.int .i64 0)).setCell ⟨g,23,none⟩ (.bool false)).setCell ⟨g,24,none⟩ (.bool true)=W1 at *;clear c11 c20 c21 c23 c24 c13 c14 c15 c16 c17 c18 c19 z11 z20 z21 z23 z24 z13 z14 z15 z16 z17 z18 z19;obtain ⟨S1,hS1⟩:∃S1:S,{s with r:=zero,st:=0,lines:=0,head:=0,fresh:=false,clean:=true}=S1:=⟨_,rfl⟩;have HS1:=Bo hS1;rw [hS1] at H1;clear hS1
 have HQ:=Bo ((H1.out.drew 1).bk)
 have HBW:=Bo (show B≤(W1.drewN 1).heap.size from CT HB.out (CP (H1.out.drew 1).own.lt));refine Each.region 11 [21,22,23,24,25,26,27,28,29,30,31]
  [eQ (.pointer (some ⟨g,0,none⟩)),
    eQ (.pointer (some ⟨g,0,none⟩)),
    eQ (.pointer (some ⟨g,0,none⟩)),
    eQ (.pointer (some ⟨g,0,none⟩)),
    eQ (.int .u32 (p:Int)),
    eQ (.pointer (some ⟨g,0,none⟩)),
    eQ (.pointer (some ⟨g,0,none⟩)),
    eQ (.pointer (some ⟨g,1,none⟩)),
    eQ (.pointer (some ⟨g,1,none⟩)),
    eQ (.int .i64 b.x0),
    fun v w=>∃q1,v=ptr q1∧W1.heap.size≤q1∧Ln.Rr w B q1 nil p (nl p (b.x0))]
  (.quiet 11 (.quiet 12 (.act 13 .done))) (by kernel_rfl) (by kernel_rfl) (by kernel_rfl) (by kernel_rfl) (fun _ _ d _ _ h=>by cases d<;>exact h) (by rfl) (by rfl)
  ⟨AI _,AI _,AI _,AI _,AI _,AI _,AI _,AI _,AI _,AI _,((fun _ _ _ hb h=>by obtain ⟨q1,e1,h1,h2⟩:=h;exact ⟨q1,e1,h1,rr_below h2 hb⟩)),trivial⟩ ?_ ?_
 ·refine ⟨?_,?_,?_,?_,?_,?_,?_,?_,?_,?_,?_,trivial⟩
  ·exact XXSdZ
  ·exact XXSdZ
  ·exact XXSdZ
  ·exact XXSdZ
  ·exact XXSdZ
  ·exact XXSdZ
  ·exact XXSdZ
  ·exact XXSdZ
  ·exact XXSdZ
  ·exact XXSdZ
  ·refine AJ rfl (fun ev w1 hR hb hh=>?_);have e25:(ev (.tmp 25)=.int .u32 (p:Int)):=hh.at 0;have e30:(ev (.tmp 30)=.int .i64 b.x0):=hh.at 1;exact XXQ1N
 intro g1 w2 hb hf;have z21:(g1 21=.pointer (some ⟨g,0,none⟩)):=hf.at 0;have z31:((fun v w=>∃q1,v=ptr q1∧W1.heap.size≤q1∧Ln.Rr w B q1 nil p (nl p (b.x0))) (g1 31) w2):=hf.at 10;clear hf;obtain ⟨q1,e1,hq1,hr1⟩:=z31;simp only [AM,Ab,C8,CB,CA];rw [e1,z21];simp only [DO,DP,BS,BR];refine DR (by rfl) (ptr g) (fun _ _=>by go_simp) ?_;simp only [Ab,C8,CB,CA];refine DR (by rfl) (.pointer (some ⟨g,12,none⟩)) (fun _ _=>by go_simp) ?_;simp only [Ab,C8,CB,CA];have c12:=(H1.out.below hb).cs.c12;have z12:=(H1.out.below hb).marks 12
 refine DM (by rfl) (fun K hK=>?_);go_simp;refine hK _ _ trivial ?_;clear hK K;refine DN ?_;have H2:=H1.out.line hb hr1 hq1
 have HS2:=(HS.out.trans Step.zero).trans ((Step.line hb hq1).trans (DB g 12 (ptr q1) (by simp)));rw [←HS1.out] at H2;clear H1 HQ HBW HS HS1 hr1 hq1 c12 z12;go_wp2;go_end0;exact ⟨rfl,q1,H2,HS2⟩
theorem record_info:(EG.info? 25).map (fun i=>(i.zero,i.size,i.bytes))=some (some (.agg #[.string A6,.string A6,.int .i64 0,.slice none 0 0,.bool false,.slice none 0 0,.slice none 0 0]),7,120):=by kernel_rfl
theorem XXLVG {P:Prop} (h:P:=by
 have H2:=H.out.below hb;obtain ⟨ps,hps,hfar,hrow⟩:=H2.own.O;obtain ⟨bo,co,eo, -⟩:=CJ hrow;subst eo
 obtain ⟨v',w3,hrun,ho,hgr,hor⟩:=App.run_append_list w2 32 32 B 25 iR (.agg #[.string A6,.string A6,.int .i64 0,.slice none 0 0,.bool false,.slice none 0 0,.slice none 0 0]) 7 120 Tryz.underlying32 I1.out I2.out I3.out I4.out rfl (by decide) (.slice bo s.out.length co) s.out.length (ps.flatMap (·.1.toList)) hrow (some ⟨gl,0,none⟩) 1 1 [.string s.r.m,.string s.r.x,.int .i64 s.r.k,f,.bool s.r.ch,bd,t] rfl (fun _=>⟨gl,0,rfl,fun j u hu=>by rw [CW];exact hBl.c j u hu⟩) (by intro u hu;simp only [Cx,C4,or_false] at hu;rcases hu with rfl | rfl | rfl | rfl | rfl | rfl | rfl<;>first | rfl | exact one_own H2.own.F | exact one_own H2.own.D | exact one_own H2.own.T) (by have:=HN.out;unfold maxLen;omega) (by have:=HN.out;omega) (CT H2.own.ge (CP H2.own.lt));obtain ⟨b9,c9,e9, -⟩:=CJ ho;subst e9;have HP:=H2.own.push hgr ps hps hfar ho hor;have hr3:w3.heap[g]?=some (.cells (pcells p b s q f bd t (.slice bo s.out.length co)).toArray 78 (0,0)):=(hgr.block g H2.own.lt (fun e=>H2.own.lone.ne (i:=0) (j:=6) rfl (by decide) (by rw [e];rfl))).trans H2.row
 refine DM (by rfl) (fun K hK=>?_);refine Each.oper_append _ _ _ rfl (by rfl) (by rfl) hrun ?_;refine hK _ _ trivial ?_;clear hK K hrun;simp only [Ab,C8,CB,CA];refine DR (by rfl) (ptr g) (fun _ _=>by go_simp) ?_;simp only [Ab,C8,CB,CA];refine DR (by rfl) (.pointer (some ⟨g,26,none⟩)) (fun _ _=>by go_simp) ?_;simp only [Ab,C8,CB,CA];have c26:=(Cs.of hr3).c26;have z26:=CL hr3 26
 refine DM (by rfl) (fun K hK=>?_);go_simp;refine hK _ _ trivial ?_;clear hK K;refine DN ?_
 have hr4:=row_setL hr3 26 (.slice b9 (s.out.length+1) c9)
 have HP4:=HP.set 26 (.slice b9 (s.out.length+1) c9)
 have HS4:=((D9 hb (L:=blks g q v f bd t (.slice bo s.out.length co))).trans (Step.push hgr hor)).trans (DB g 26 (.slice b9 (s.out.length+1) c9) (by simp))
 have HNX:=Bo (next_any (s:={s with out:=s.out ++ [s.r]}) hr4 HP4);have HS5:=Bo HS4;clear c26 z26 hr3 hr4 HP HP4 HS4 hgr ho hor hrow hfar hps H2 hBl;generalize w3.setCell ⟨g,26,none⟩ (.slice b9 (s.out.length+1) c9)=W4 at *
 go_wp2_with (go_at_call 95;with_reducible refine HNX.out.mono ?_;rintro r w5 ⟨rfl,q1,hp5,hs5⟩);go_end0
 exact ⟨rfl,q1,(.slice b9 (s.out.length+1) c9),hp5,HS5.out.trans hs5⟩):P:=h
theorem whole_any (h:PR w B g q v f bd t o p b s) (hn:s.out.length≤1000000000):Calls EG 174 #[ptr g] w fun r w'=>
 r=.returned (.tuple #[])∧∃q1 o1,PR w' B g q1 nil nil nil nil o1 p b (s.whole p b)∧Step (blks g q v f bd t o) (blks g q1 nil nil nil nil o1) w w':=by
 obtain ⟨iR,hi,hz0,hz1,hz2⟩:=info_parts record_info;have I1:=Bo hi;have I2:=Bo hz0;have I3:=Bo hz1;have I4:=Bo hz2;clear hi hz0 hz1 hz2;have H:=Bo h;have HN:=Bo hn
 have HQ:=Bo ((h.drew 1).bk);clear h hn;go_enter Tryz.func174,Tryz.ntmps174;go_upto_region 0 with fail
 refine AP 10 [2,3,4,5,6,7,8,9,10,11]
  [eQ (.pointer (some ⟨g,0,none⟩)),
    eQ (.pointer (some ⟨g,0,none⟩)),
    eQ (.pointer (some ⟨g,0,none⟩)),
    eQ (.pointer (some ⟨g,26,none⟩)),
    eQ (o),
    eQ (.pointer (some ⟨g,0,none⟩)),
    eQ (.pointer (some ⟨g,0,none⟩)),
    eQ (.pointer (some ⟨g,13,none⟩)),
    eQ (.agg #[.string s.r.m,.string s.r.x,.int .i64 s.r.k,f,.bool s.r.ch,bd,t]),
    fun v w=>∃g1,v=.slice (some ⟨g1,0,none⟩) 1 1∧Dr w g1 [.string s.r.m,.string s.r.x,.int .i64 s.r.k,f,.bool s.r.ch,bd,t]]
  [] 4 (some 0) (.act 10 (.quiet 11 (.quiet 12 (.act 13 .done)))) (.quiet 0 (.act 10 (.quiet 11 (.quiet 12 (.act 13 .done))))) (by kernel_rfl) (by kernel_rfl) (by kernel_rfl) (by kernel_rfl) (fun k0 h=>by cases h;kernel_rfl) (fun _ _ d _ _ h=>by cases d<;>exact h) (by rfl) (by rfl)
  ⟨AI _,AI _,AI _,AI _,AI _,AI _,AI _,AI _,AI _,((fun _ _ _ hb h=>by obtain ⟨g1,e1,hB⟩:=h;exact ⟨g1,e1,hB.below hb⟩)),trivial⟩ trivial (by rfl) ?_ ?_ ?_
 ·refine ⟨?_,?_,?_,?_,?_,?_,?_,?_,?_,?_,trivial⟩
  ·exact XXUzV
  ·exact XXUzV
  ·refine AJ rfl (fun ev w1 hR hb hh=>?_);have e3:(ev (.tmp 3)=.pointer (some ⟨g,0,none⟩)):=hh.at 0;clear hh;exact XXqTe
  ·refine AJ rfl (fun ev w1 hR hb hh=>?_);have e4:(ev (.tmp 4)=.pointer (some ⟨g,0,none⟩)):=hh.at 0;clear hh;exact XXqTe
  ·refine AJ rfl (fun ev w1 hR hb hh=>?_);have e5:(ev (.tmp 5)=.pointer (some ⟨g,26,none⟩)):=hh.at 0;clear hh;have q26:=(HQ.out.below hb).c 26 _ rfl;exact XXqTe
  ·exact XXUzV
  ·refine AJ rfl (fun ev w1 hR hb hh=>?_);have e7:(ev (.tmp 7)=.pointer (some ⟨g,0,none⟩)):=hh.at 0;clear hh;exact XXqTe
  ·refine AJ rfl (fun ev w1 hR hb hh=>?_);have e8:(ev (.tmp 8)=.pointer (some ⟨g,0,none⟩)):=hh.at 0;clear hh;exact XXqTe
  ·refine AJ rfl (fun ev w1 hR hb hh=>?_);have e9:(ev (.tmp 9)=.pointer (some ⟨g,13,none⟩)):=hh.at 0;clear hh;have q13:=(HQ.out.below hb).c 13 _ rfl;have q14:=(HQ.out.below hb).c 14 _ rfl;have q15:=(HQ.out.below hb).c 15 _ rfl;have q16:=(HQ.out.below hb).c 16 _ rfl;have q17:=(HQ.out.below hb).c 17 _ rfl;have q18:=(HQ.out.below hb).c 18 _ rfl;have q19:=(HQ.out.below hb).c 19 _ rfl;exact XXqTe
  ·refine AJ rfl (fun ev w1 hR hb hh=>?_);have e10:(ev (.tmp 10)=.agg #[.string s.r.m,.string s.r.x,.int .i64 s.r.k,f,.bool s.r.ch,bd,t]):=hh.at 0;exact XXP3p
 ·intro g1 w2 hb hf;have z2:(g1 2=.pointer (some ⟨g,0,none⟩)):=hf.at 0;have z6:(g1 6=o):=hf.at 4;have z11:((fun v w=>∃g1,v=.slice (some ⟨g1,0,none⟩) 1 1∧Dr w g1 [.string s.r.m,.string s.r.x,.int .i64 s.r.k,f,.bool s.r.ch,bd,t]) (g1 11) w2):=hf.at 9;clear hf;obtain ⟨gl,el,hBl⟩:=z11;simp only [AM,Ab,C8,CB,CA];rw [z2,z6,el];simp only [DO,DP,BS,BR];exact XXLVG
 ·intro k0 hk0 g1 w2 hb hf;cases hk0;have z6:(g1 6=o):=hf.at 4;have z11:((fun v w=>∃g1,v=.slice (some ⟨g1,0,none⟩) 1 1∧Dr w g1 [.string s.r.m,.string s.r.x,.int .i64 s.r.k,f,.bool s.r.ch,bd,t]) (g1 11) w2):=hf.at 9;clear hf;obtain ⟨gl,el,hBl⟩:=z11;simp only [AM,Ab,C8,CB,CA];rw [z6,el];simp only [DO,DP,BS,BR];refine DR (by rfl) (ptr g) (fun _ _=>by go_simp) ?_;simp only [Ab,C8,CB,CA];exact XXLVG
end code
end Go.Proofs.YtldhlecknfomjaaGreatDoor.Par
namespace Go.Proofs.YtldhlecknfomjaaGreatDoor.Bld
open Go.RowKit
abbrev T:TypeId:=177
abbrev E:TypeId:=5
section code
set_option maxHeartbeats 2000000
set_option maxRecDepth 100000
end code
end Go.Proofs.YtldhlecknfomjaaGreatDoor.Bld
namespace Go.Proofs.YtldhlecknfomjaaGreatDoor.Fd
open Go.RowKit Base Txt Tgt
abbrev lineB (f:Fld):ByteArray:=((f.1 ++⟨#[58,32]⟩)++f.2) ++⟨#[13,10]⟩
section code
set_option maxHeartbeats 4000000
set_option maxRecDepth 100000
attribute [local go_sem] Al
end code
end Go.Proofs.YtldhlecknfomjaaGreatDoor.Fd
namespace Go.Proofs.YtldhlecknfomjaaGreatDoor.Txt
open Go.RowKit Base Oct
theorem stands_isIn (set:ByteArray) (x:UInt8):stands set.data.toList (x.toNat:Int)=isIn set x:=by
 unfold stands isIn;rw [Ar,List.any_eq_true,List.contains_iff_exists_mem_beq];constructor
 ·rintro ⟨b,hb,e⟩;exact ⟨b,hb,by rw [beq_iff_eq] at e ⊢;exact (F6.1 (by omega)).symm⟩
 ·rintro ⟨b,hb,e⟩;rw [beq_iff_eq] at e;subst e;exact ⟨x,hb,by simp⟩
def Bytes (w:World) (g:Nat) (l:List UInt8):Prop:=∀j (h:j<l.length),w.cell? ⟨g,j,none⟩=some (.int .u8 (l[j].toNat:Int))∧w.frozen? ⟨g,j,none⟩=false
theorem Bytes.set {w:World} {g:Nat} {l:List UInt8} (h:Bytes w g l) (k:Nat) (b:UInt8):Bytes (w.setCell ⟨g,k,none⟩ (.int .u8 (b.toNat:Int))) g (l.set k b):=by
 intro j hj;rw [List.length_set] at hj;obtain ⟨c,z⟩:=h j hj;refine ⟨?_,by rw [World.frozen?_setCell];exact z⟩;by_cases e:k=j
 ·subst e;rw [World.cell?_setCell_same _ _ _ c,List.getElem_set_self]
 ·rw [World.cell?_setCell_other _ _ _ _ (by simp<;>omega),List.getElem_set_ne e];exact c
theorem conv_bytes (s:ByteArray) (w:World):∃W cap,(convert 9 23 (.string s)).run EG w=.ok (.slice (some ⟨w.heap.size,0,none⟩) s.size cap) W∧Bytes W w.heap.size s.data.toList∧w.heap.size<W.heap.size∧Below w.heap.size w W:=by exact XXgmf
theorem mix_put (l:List UInt8) (k:Nat) (h:k<l.length):(mix l k).set k (lowB l[k])=mix l (k+1):=by
 unfold mix low;rw [List.set_append_right _ _ (by simp;omega),CF h,BJ h];have:k-(List.map lowB (List.take k l)).length=0:=by simp;omega
 rw [this,CB,List.map_append,List.append_assoc];rfl
theorem mix_get (l:List UInt8) (k:Nat) (h:k<l.length):(mix l k)[k]'(by rw [mix_length];exact h)=l[k]:=by
 unfold mix low;rw [List.getElem_append_right (by simp;omega)];have:k-(List.map lowB (List.take k l)).length=0:=by simp;omega
 simp only [this,List.getElem_drop,Nat.add_zero]
theorem mix_skip (l:List UInt8) (k:Nat) (h:k<l.length) (e:lowB l[k]=l[k]):mix l k=mix l (k+1):=by rw [←mix_put l k h,e,←mix_get l k h,List.set_getElem_self]
def tbytes:Value→Nat
 | .string t=>t.size
 | _=>0
section code
set_option maxHeartbeats 1000000
attribute [local go_sem] Al
theorem XXoMT {P:Prop} (h:P:=by
 generalize (s.data.toList[k].toNat:Int)=x at *;go_wp2;go_roundw
 case rel=>exact ⟨k+1,by omega,by go_num,HS,hbr⟩
 case measure=>simp [intOf];omega):P:=h
theorem rlower_any (s:ByteArray) (w:World) (hs:s.size≤1099511627776):Calls EG 134 #[.string s] w fun e w'=>e=.returned (.string (lower s))∧Below w.heap.size w w':=by
 obtain ⟨W,cap,hcv,hB,hg,hb⟩:=conv_bytes s w
 have hB0:=Bo (show Bytes W w.heap.size (mix s.data.toList 0) by rw [mix_zero];exact hB);have hb0:=Bo hb;clear hB hb;go_enter Tryz.func134,Tryz.ntmps134;go_wp2;clear hcv;generalize hgw:w.heap.size=g at *;have HG:=Bo hgw;clear hgw
 go_loopw [4] (fun i wr=>∃k:Nat,k≤s.size∧i=.int .i64 k∧Hid (Bytes wr g (mix s.data.toList k))∧Hid (Below g w wr)) (fun i _=>s.size-(intOf i).toNat)
 case atStart=>exact ⟨0,CX _,rfl,hB0,hb0⟩
 case round=>
  obtain ⟨k,hk,rfl,hB,hbr⟩:=hrel;rcases CV k s.size with hlt | hge
  ·have hll:k<s.data.toList.length:=by rw [len];exact hlt
   obtain ⟨hc,hz⟩:=hB.out k (by rw [mix_length];exact hll);rw [mix_get _ _ hll] at hc;have i1:(k:Int)<(s.size:Int):=by omega
   have hb0:0≤(s.data.toList[k].toNat:Int):=by omega
   have hb1:=byte_lt s.data.toList[k];by_cases hx:65≤s.data.toList[k].toNat∧s.data.toList[k].toNat≤90
   ·obtain ⟨x0,x1⟩:=hx;have e0:=lowB_toNat s.data.toList[k];have e1:lowN (s.data.toList[k].toNat:Int)=(s.data.toList[k].toNat:Int)+32:=by unfold lowN;rw [if_pos (by omega)]
    have hset:=(hB.out.set k (lowB s.data.toList[k]));rw [mix_put _ _ hll,e0,e1] at hset;have HS:=Bo hset;have y0:(65:Int)≤(s.data.toList[k].toNat:Int):=by omega
    have y1:(s.data.toList[k].toNat:Int)≤90:=by omega
    clear e0 e1 hset x0 x1;generalize (s.data.toList[k].toNat:Int)=x at *;have e2:IntKind.u8.wrap (x+32)=x+32:=by rw [IntKind.wrap_u8];omega
    go_wp2;go_roundw
    case rel=>exact ⟨k+1,by omega,by go_num,HS,Bo (hbr.out.setCell (CQ _) _)⟩
    case measure=>simp [intOf];omega
   ·have e0:lowB s.data.toList[k]=s.data.toList[k]:=by unfold lowB;rw [if_neg hx]
    have hB2:=hB.out;rw [mix_skip _ _ hll e0] at hB2;have HS:=Bo hB2;clear hB2 e0;rcases CV s.data.toList[k].toNat 65 with h | h
    ·have y0:¬(65:Int)≤(s.data.toList[k].toNat:Int):=by omega
     exact XXoMT
    ·have y0:(65:Int)≤(s.data.toList[k].toNat:Int):=by omega
     have y1:¬(s.data.toList[k].toNat:Int)≤90:=by omega
     exact XXoMT
  ·obtain rfl:k=s.size:=by omega
   have hconv:=run_convert_bytes_back (P:=EG) wr 23 9 5 ⟨g,0,none⟩ cap (low s.data.toList) Fh Fp Fs (fun j hj=>by
    have h1:=(hB.out j (by rw [mix_length];simpa [low] using hj)).1;have e:(⟨g,0,none⟩:Addr).add j=⟨g,j,none⟩:=by unfold Addr.add;by_cases h:j=0<;>simp [h]
    rw [e,h1]
    congr 4
    simp only [mix_all s.data.toList s.size (by rw [len];exact CQ _)])
   have hl:(low s.data.toList).length=s.size:=by rw [low,Co,len]
   rw [hl] at hconv;go_wp2;go_ret;exact ⟨rfl,by rw [HG.out];exact hbr.out⟩
theorem rsame_any (a b:ByteArray) (w:World) (ha:a.size≤1099511627776) (hb:b.size≤1099511627776):Calls EG 88 #[.string a,.string b] w fun e w'=>e=.returned (.bool (same a b))∧Below w.heap.size w w':=by
 have h1:=Bo (fun w=>rlower_any a w ha)
 have h2:=Bo (fun w=>rlower_any b w hb);have hr:((lower a).toList==(lower b).toList)=same a b:=by rw [Bv,Bv];rfl
 generalize lower a=x at *;generalize lower b=y at *;go_enter Tryz.func88,Tryz.ntmps88
 go_wp2_with (first
  |(go_at_call 134;with_reducible refine (h1.out _).mono ?_;rintro e w1 ⟨rfl,hb1⟩)
  |(go_at_call 134;with_reducible refine (h2.out _).mono ?_;rintro e w2 ⟨rfl,hb2⟩))
 go_ret;exact ⟨by rw [←hr];rfl,Ak hb1 hb2⟩
theorem first_of (t:ByteArray) (h:0<t.size):t.data.toList=t[0]::t.data.toList.drop 1∧(t.extract 1 t.size).data.toList=t.data.toList.drop 1∧t.toList.isEmpty=false:=by
 have hl:0<t.data.toList.length:=by rw [len];exact h
 have e:t.data.toList=t[0]::t.data.toList.drop 1:=by
  conv=>lhs;rw [←List.drop_zero (l:=t.data.toList),BJ hl]
  rfl
 refine ⟨e,?_,?_⟩
 ·rw [Bl,CE (by rw [Ck,len];exact CQ _)]
 ·rw [Bv,e];rfl
theorem last_of (t:ByteArray) (h:0<t.size):t.data.toList=t.data.toList.take (t.size-1) ++ [t[t.size-1]]∧(t.extract 0 (t.size-1)).data.toList=t.data.toList.take (t.size-1)∧t.toList.isEmpty=false:=by
 have e:=take_snoc t (t.size-1) (by omega);rw [show t.size-1+1=t.size by omega,take_all t _ (CQ _)] at e;refine ⟨e,?_,?_⟩
 ·rw [Bl,List.drop_zero,Nat.sub_zero]
 ·rw [Bv];cases hl:t.data.toList with
  | nil=>exfalso;have h2:=len t;rw [hl,List.length_nil] at h2;omega
  | cons _ _=>rfl
theorem in_any (x:UInt8) (r:Bool) (set:ByteArray) (w:World) (ht:set.size≤maxLen) (hq:isIn set x=r):Calls EG 185 #[.int .u8 x.toNat,.string set] w fun e w'=>e=.returned (.bool r)∧w'=w:=by have:=Oct.stands_any (x.toNat:Int) set w ht;rw [stands_isIn,hq] at this;exact this
theorem rtrimOf_any (s set:ByteArray) (w:World) (ht:set.size≤maxLen) (hs:s.size≤maxLen):Calls EG 158 #[.string s,.string set] w fun e w'=>e=.returned (.string (trimOf s set))∧w'=w:=by
 unfold maxLen at hs;go_enter Tryz.func158,Tryz.ntmps158;go_wp2
 go_loop [0] (fun x=>∃t:ByteArray,x=.string t∧t.size≤s.size∧Hid (t.data.toList.dropWhile (isIn set)=s.data.toList.dropWhile (isIn set))) (fun x=>tbytes x)
 case atStart=>exact ⟨s,rfl,CQ _,Bo rfl⟩
 case round=>
  obtain ⟨t,rfl,hts,hdw⟩:=hrel;by_cases hgo:∃h:0<t.size,isIn set t[0]=true
  ·obtain ⟨h0,hq⟩:=hgo
   have HC:=Bo (in_any t[0] true set w ht hq);obtain ⟨e1,e2,e3⟩:=first_of t h0
   have HD:=Bo (show (t.extract 1 t.size).data.toList.dropWhile (isIn set)=s.data.toList.dropWhile (isIn set) by
    rw [←hdw.out,e2]
    conv=>rhs;rw [e1,List.dropWhile_cons,if_pos hq])
   have i0:t.toList.isEmpty=false:=e3;have i1:(1:Int)≤(t.size:Int):=by omega
   have i2:(t.size:Int)≤9223372036854775807:=by omega
   have hsz:(t.extract 1 t.size).size=t.size-1:=by rw [ByteArray.size_extract];omega
   clear e1 e2 e3 hq
   go_wp2_with (go_at_call 185;with_reducible refine HC.out.mono ?_;rintro e w' ⟨rfl,hw⟩;rw [hw];clear hw);go_round
   case rel=>exact ⟨_,rfl,by omega,HD⟩
   case measure=>simp [tbytes];omega
  ·have hst:t.data.toList.dropWhile (isIn set)=t.data.toList:=by
    rcases CO t.size with h0 | h0
    ·have:t.data.toList= []:=List.length_eq_zero_iff.1 (by rw [len];exact h0);rw [this];rfl
    ·obtain ⟨e1,_,_⟩:=first_of t h0;rw [e1];refine dropWhile_stop ?_;cases hq:isIn set t[0] with
     | false=>rfl
     | true=>exact absurd ⟨h0,hq⟩ hgo
   have hfin:=Bo (show trimL (isIn set) s.data.toList=(t.data.toList.reverse.dropWhile (isIn set)).reverse by unfold trimL;rw [←hdw.out,hst])
   have hlast:=Bo (show∀h:0<t.size,isIn set t[0]=false from fun h=>by
    cases hq:isIn set t[0] with
    | false=>rfl
    | true=>exact absurd ⟨h,hq⟩ hgo)
   clear hgo hst;rcases CO t.size with h0 | h0
   all_goals (first
    |(have i0:t.toList.isEmpty=false:=(first_of t h0).2.2
      have HC:=Bo (in_any t[0] false set w ht (hlast.out h0))
      (go_wp2_with (go_at_call 185;with_reducible refine HC.out.mono ?_;rintro e w' ⟨rfl,hw⟩;rw [hw];clear hw)))
    |(have i0:t.toList.isEmpty=true:=by
       rw [Bv,List.length_eq_zero_iff.1 (show t.data.toList.length=0 by rw [len];exact h0)];rfl
      go_wp2))
   all_goals
    clear i0
    go_loop [0] (fun x=>∃u:ByteArray,x=.string u∧u.size≤t.size∧Hid (u.data.toList.reverse.dropWhile (isIn set)=t.data.toList.reverse.dropWhile (isIn set))) (fun x=>tbytes x)
    case atStart=>exact ⟨t,rfl,CQ _,Bo rfl⟩
    case round=>
     obtain ⟨u,rfl,hus,hrv⟩:=hrel;rcases CO u.size with hu0 | hu0
     ·have e0:u.data.toList= []:=List.length_eq_zero_iff.1 (by rw [len];exact hu0);have i0:u.toList.isEmpty=true:=by rw [Bv,e0];rfl
      have HF:=Bo (show u=trimOf s set from ba_ext (by rw [trimOf,trimB_list,hfin.out,←hrv.out,e0];rfl))
      clear e0;go_wp2;go_ret;exact ⟨by rw [←HF.out];rfl,rfl⟩
     ·first
      |(exfalso;omega)
      |(
       obtain ⟨e1,e2,e3⟩:=last_of u hu0;have i0:u.toList.isEmpty=false:=e3;have i1:u.size-1<u.size:=by omega
       have i3:(u.size:Int)-1<(u.size:Int):=by omega
       have i4:0≤(u.size:Int)-1:=by omega
       have i5:IntKind.i64.wrap ((u.size:Int)-1)=(u.size:Int)-1:=wrap_in _ (by omega) (by omega);have i6:((u.size:Int)-1).toNat=u.size-1:=by omega
       have i7:(u.size:Int)-1≤(u.size:Int):=by omega
       cases hq:isIn set u[u.size-1] with
       | true=>
         have HC:=Bo (in_any u[u.size-1] true set w ht hq)
         have HD:=Bo (show (u.extract 0 (u.size-1)).data.toList.reverse.dropWhile (isIn set)=t.data.toList.reverse.dropWhile (isIn set) by
          rw [←hrv.out,e2]
          conv=>rhs;rw [e1,List.reverse_append,List.reverse_singleton,List.singleton_append,List.dropWhile_cons,if_pos hq])
         have hsz:(u.extract 0 (u.size-1)).size=u.size-1:=by rw [ByteArray.size_extract];omega
         clear e1 e2 e3 hq
         go_wp2_with (go_at_call 185;with_reducible refine HC.out.mono ?_;rintro e w' ⟨rfl,hw⟩;rw [hw];clear hw);go_round
         case rel=>exact ⟨_,rfl,by omega,HD⟩
         case measure=>simp [tbytes];omega
       | false=>
         have HC:=Bo (in_any u[u.size-1] false set w ht hq)
         have HF:=Bo (show u=trimOf s set from ba_ext (by rw [trimOf,trimB_list,hfin.out,←hrv.out,e1,List.reverse_append,List.reverse_singleton,List.singleton_append,dropWhile_stop hq];simp))
         clear e1 e2 e3 hq
         go_wp2_with (go_at_call 185;with_reducible refine HC.out.mono ?_;rintro e w' ⟨rfl,hw⟩;rw [hw];clear hw);go_ret;exact ⟨by rw [←HF.out];rfl,rfl⟩)
theorem rtrim_any (s:ByteArray) (w:World) (hs:s.size≤maxLen):Calls EG 113 #[.string s] w fun e w'=>e=.returned (.string (trim s))∧w'=w:=by
 have h:=Bo (rtrimOf_any s ⟨#[32,9]⟩ w (by decide) hs);have e:trimOf s ⟨#[32,9]⟩=trim s:=by
  unfold trimOf trim
  congr 1
  funext x
  simp only [isIn,blank,List.contains_cons,List.contains_nil,Bool.or_false]
 rw [e] at h;go_enter Tryz.func113,Tryz.ntmps113
 go_wp2_with (go_at_call 158;with_reducible refine h.out.mono ?_;rintro e w' ⟨rfl,rfl⟩);go_ret;exact ⟨rfl,rfl⟩
end code
end Go.Proofs.YtldhlecknfomjaaGreatDoor.Txt
namespace Go.Proofs.YtldhlecknfomjaaGreatDoor.Txt
open Go.RowKit Base Oct
def Part (c:UInt8) (l:List UInt8) (f k:Nat) (done:List (List UInt8)):Prop:=
 (k≤l.length∧f≤k∧parts c l=done++parts c (l.drop f)∧c∉(l.drop f).take (k-f))∨(k=l.length+1∧f=l.length+1∧parts c l=done)
theorem Part.start (c:UInt8) (l:List UInt8):Part c l 0 0 []:=.inl ⟨CX _,CQ _,rfl,by simp⟩
theorem Part.last {c:UInt8} {l:List UInt8} {f:Nat} {done:List (List UInt8)} (h:Part c l f l.length done):f≤l.length∧Part c l (l.length+1) (l.length+1) (done ++ [l.drop f]):=by
 rcases h with ⟨_,h1,h2,h3⟩ | ⟨h,_⟩
 ·refine ⟨h1,.inr ⟨rfl,rfl,?_⟩⟩;rw [CE (by rw [Ck];omega)] at h3;rw [h2,parts_none c _ h3]
 ·omega
theorem Part.hit {c:UInt8} {l:List UInt8} {f k:Nat} {done:List (List UInt8)} (h:Part c l f k done) (hk:k<l.length) (hc:l[k]=c):f≤k∧Part c l (k+1) (k+1) (done ++ [(l.drop f).take (k-f)]):=by
 rcases h with ⟨_,h1,h2,h3⟩ | ⟨h,_⟩
 ·refine ⟨h1,.inl ⟨by omega,CQ _,?_,by simp⟩⟩;have e:l.drop f=(l.drop f).take (k-f)++c::l.drop (k+1):=by
   conv=>lhs;rw [←List.take_append_drop (k-f) (l.drop f)]
   rw [List.drop_drop,show f+(k-f)=k by omega,BJ hk,hc]
  rw [h2]
  conv=>lhs;rw [e]
  rw [parts_cut c _ _ h3,List.append_assoc];rfl
 ·omega
theorem Part.miss {c:UInt8} {l:List UInt8} {f k:Nat} {done:List (List UInt8)} (h:Part c l f k done) (hk:k<l.length) (hc:l[k]≠c):Part c l f (k+1) done:=by
 rcases h with ⟨_,h1,h2,h3⟩ | ⟨h,_⟩
 ·refine .inl ⟨by omega,by omega,h2,?_⟩;have hlt:k-f<(l.drop f).length:=by rw [Ck];omega
  rw [show k+1-f=(k-f)+1 by omega,CF hlt,List.mem_append,not_or];refine ⟨h3,?_⟩;rw [List.getElem_drop,C2];simp only [show f+(k-f)=k by omega];exact fun e=>hc e.symm
 ·omega
section code
set_option maxHeartbeats 1000000
attribute [local go_sem] Al
set_option maxRecDepth 10000 in
theorem rsplit_any (s:ByteArray) (c:UInt8) (w:World) (hs:s.size≤1000000000) :
 Calls EG 182 #[.string s,.int .u8 c.toNat] w fun e w'=>∃b m cp,e=.returned (.slice b m cp)∧m=(parts c s.data.toList).length∧Strs w' b m ((parts c s.data.toList).map ba)∧Below w.heap.size w w':=by
 obtain ⟨i0,hi,hz0,hz1,hz2⟩:=info_parts text_info;have G1:=Bo hi;have G2:=Bo hz0;have G3:=Bo hz1;have G4:=Bo hz2;clear hi hz0 hz1 hz2;obtain ⟨PS,hPS⟩:∃PS,parts c s.data.toList=PS:=⟨_,rfl⟩;rw [hPS];have HPS:=Bo hPS;clear hPS;go_enter Tryz.func182,Tryz.ntmps182;go_wp2
 go_loopw [5,6,7] (fun v fr i wr=>∃(k f:Nat) (done:List (List UInt8)),k≤s.size+1∧f≤s.size+1∧done.length≤k∧fr=.int .i64 f∧i=.int .i64 k∧Hid (Part c s.data.toList f k done)∧Hid (wr.ownsRow w.heap.size 9 1 v done.length ((done.map ba).map Value.string))∧Hid (Below w.heap.size w wr)) (fun _ _ i _=>s.size+1-(intOf i).toNat)
 case atStart=>exact ⟨0,0,[],by omega,by omega,CQ _,rfl,rfl,Bo (Part.start _ _),Bo ⟨rfl,.inl ⟨rfl,rfl⟩⟩,Bo (Am _ _)⟩
 case round=>
  obtain ⟨k,f,done,hk,hf,hdn,rfl,rfl,hpt,hown,hbr⟩:=hrel;rcases CV k s.size with hlt | hge
  ·have t0:(k:Int)≤(s.size:Int):=by omega
   have t1:((k:Int)==(s.size:Int))=false:=beq_eq_false_iff_ne.2 (by omega);have i1:(k:Int)<(s.size:Int):=by omega
   have hkl:k<s.data.toList.length:=by rw [len];exact hlt
   have e0:s[k]=s.data.toList[k]:=rfl;by_cases hc:s.data.toList[k]=c
   ·have t2:((s[k].toNat:Int)==(c.toNat:Int))=true:=by rw [e0,hc];exact beq_self_eq_true _
    obtain ⟨hfk,hP⟩:=hpt.out.hit hkl hc;have HP:=Bo hP
    have ex:s.extract f k=ba ((s.data.toList.drop f).take (k-f)):=ba_ext (by rw [Bl];rfl);have c1:(f:Int)≤(k:Int):=by omega
    have m1:IntKind.i64.wrap ((k:Int)+1)=((k+1:Nat):Int):=by rw [wrap_in _ (by omega) (by omega)];omega
    clear hP hpt hc e0;generalize (s.data.toList.drop f).take (k-f)=p at *;have HX:=Bo ex;clear ex
    go_wp2_with (at_builtin;refine wpList_append_own _ rfl _ _ 46 rfl w.heap.size 9 i0 (.string A6) 1 16 Tryz.underlying46 G1.out G2.out G3.out G4.out rfl (by decide) _ _ _ rfl (hown.out.alloc _) ⟨wr.heap.size,0,none⟩ 1 1 [.string (s.extract f k)] rfl rfl ?c1 ?c2 ?c3 ?c4 ?c5 ?_)
    case c1=>exact news_one wr _ _
    case c2=>intro u hu;obtain rfl:u=.string (s.extract f k):=by simpa using hu
             rfl
    case c3=>unfold maxLen;omega
    case c4=>omega
    case c5=>have:=hbr.out.size;simp;omega
    intro v' w' hown' hgr _
    have H2:Hid (w'.ownsRow w.heap.size 9 1 v' (done ++ [p]).length (((done ++ [p]).map ba).map Value.string)):=Bo (by rw [HX.out] at hown';simpa using hown')
    have H3:=Bo ((hbr.out.alloc hbr.out.size _).grown hgr (by have:=hbr.out.size;simp;omega) (own_base hown.out));clear hown' hgr hown hbr;go_wp2;go_roundw
    case rel=>exact ⟨k+1,k+1,done ++ [p],by omega,by omega,by rw [Ci,List.length_singleton];omega,by go_num,by go_num,HP,H2,H3⟩
    case measure=>simp [intOf];omega
   ·have t2:((s[k].toNat:Int)==(c.toNat:Int))=false:=beq_eq_false_iff_ne.2 fun e=>hc (F6.1 (by rw [e0] at e;omega))
    have HP:=Bo (hpt.out.miss hkl hc);clear hpt hc e0;go_wp2;go_roundw
    case rel=>exact ⟨k+1,f,done,by omega,hf,by omega,rfl,by go_num,HP,hown,hbr⟩
    case measure=>simp [intOf];omega
  ·rcases CV s.size k with hgt | hle
   ·obtain rfl:k=s.size+1:=by omega
    have t0:¬((s.size+1:Nat):Int)≤(s.size:Int):=by omega
    have hfin:done=PS:=by
     rcases hpt.out with ⟨h,_⟩ | ⟨_,_,h⟩
     ·rw [len] at h;omega
     ·rw [←h,HPS.out]
    subst hfin;obtain ⟨A,cp,rfl,hA⟩:=Strs.of_own hown.out;have HA:=Bo hA;clear hA hown hpt;go_wp2;go_ret;first | exact ⟨A,⟨cp,rfl⟩,HA.out,hbr.out⟩ | exact ⟨A,_,⟨cp,rfl⟩,rfl,HA.out,hbr.out⟩ | exact ⟨A,_,⟨cp,rfl⟩,HA.out,hbr.out⟩
   ·obtain rfl:k=s.size:=by omega
    have hpt':=hpt.out;rw [←len s] at hpt';obtain ⟨hfk,hP⟩:=hpt'.last;rw [len] at hfk hP;have HP:=Bo hP
    have ex:s.extract f s.size=ba (s.data.toList.drop f):=ba_ext (by rw [Bl,CE (by rw [Ck,len];omega)];rfl);have c1:(f:Int)≤(s.size:Int):=by omega
    have t0:(s.size:Int)≤(s.size:Int):=by omega
    have t1:((s.size:Int)==(s.size:Int))=true:=beq_self_eq_true _;have m1:IntKind.i64.wrap ((s.size:Int)+1)=((s.size+1:Nat):Int):=by rw [wrap_in _ (by omega) (by omega)];omega
    clear hP hpt hpt';generalize s.data.toList.drop f=p at *;have HX:=Bo ex;clear ex
    go_wp2_with (at_builtin;refine wpList_append_own _ rfl _ _ 46 rfl w.heap.size 9 i0 (.string A6) 1 16 Tryz.underlying46 G1.out G2.out G3.out G4.out rfl (by decide) _ _ _ rfl (hown.out.alloc _) ⟨wr.heap.size,0,none⟩ 1 1 [.string (s.extract f s.size)] rfl rfl ?c1 ?c2 ?c3 ?c4 ?c5 ?_)
    case c1=>exact news_one wr _ _
    case c2=>intro u hu;obtain rfl:u=.string (s.extract f s.size):=by simpa using hu
             rfl
    case c3=>unfold maxLen;omega
    case c4=>omega
    case c5=>have:=hbr.out.size;simp;omega
    intro v' w' hown' hgr _
    have H2:Hid (w'.ownsRow w.heap.size 9 1 v' (done ++ [p]).length (((done ++ [p]).map ba).map Value.string)):=Bo (by rw [HX.out] at hown';simpa using hown')
    have H3:=Bo ((hbr.out.alloc hbr.out.size _).grown hgr (by have:=hbr.out.size;simp;omega) (own_base hown.out));clear hown' hgr hown hbr;go_wp2;go_roundw
    case rel=>exact ⟨s.size+1,s.size+1,done ++ [p],by omega,by omega,by rw [Ci,List.length_singleton];omega,by go_num,by go_num,HP,H2,H3⟩
    case measure=>simp [intOf]
end code
end Go.Proofs.YtldhlecknfomjaaGreatDoor.Txt
