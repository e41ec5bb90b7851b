import Derived.Test.YtdfabddnpgjepaaGreatDoorPmd
set_option linter.unusedSimpArgs false
open Array renaming getD_eq_getD_getElem?→Ag
open Bool renaming and_eq_true→Ao,eq_iff_iff→Au,false_and→Av,false_eq_true→Aw,not_eq_true'→Ay,or_eq_true→Az
open ByteArray renaming empty→A8
open Go.Act renaming put→Ab
open Go.Lib renaming extract_data→Bu,hid→Bx,toList_data→B9
open Go.Proofs.Tryz renaming prog→EW,underlying22→F0,underlying5→F7,underlying9→F8
open Go.Proofs.YtdfabddnpgjepaaGreatDoor.Base renaming below_drewN→Ak,below_step→Al,some_undef→Am
open Go.Proofs.YtdfabddnpgjepaaGreatDoor.Each renaming fine→AP,putg→AU
open Go.Proofs.YtdfabddnpgjepaaGreatDoor.Each.Goes renaming enter→AG
open Go.Proofs.YtdfabddnpgjepaaGreatDoor.Each.Lasts renaming eq→AK
open Go.Proofs.YtdfabddnpgjepaaGreatDoor.Ln renaming own_slice→CT,row_frozen→CV
open Go.Proofs.YtdfabddnpgjepaaGreatDoor.Mem.Keeps renaming of_below→Bo,set→Bp
open Go.Proofs.YtdfabddnpgjepaaGreatDoor.Mem.Of renaming refl→Dq
open Go.Proofs.YtdfabddnpgjepaaGreatDoor.Par renaming bodied→Dv
open Go.Proofs.YtdfabddnpgjepaaGreatDoor.Par.S renaming again→DJ
open Go.Proofs.YtdfabddnpgjepaaGreatDoor.Par.Step renaming of_below→DP,set→DS
open Go.Proofs.YtdfabddnpgjepaaGreatDoor.Qk renaming has_any→D3,has→D0
open Go.Proofs.YtdfabddnpgjepaaGreatDoor.Rec renaming Bk→D5,R→D7,wraps→DD
open Go.Proofs.YtdfabddnpgjepaaGreatDoor.Rec.Bk renaming new→D6
open Go.Proofs.YtdfabddnpgjepaaGreatDoor.Tree renaming change→Ec,done→Ed,grow→Ee,put1→Ef,quiet→Eg
open Go.Region renaming binds→DE,wanted→DH
open Go.RowKit.Below renaming refl→An
open Go.World renaming ownsRow_nil→FV
open Go.World.ownsRow renaming lt→FU
open List renaming append_nil→BH,drop_eq_getElem_cons→BQ,eq_nil_of_length_eq_zero→BT,getElem?_cons_succ→BY,getElem?_cons_zero→BZ,getElem?_toArray→Cg,getElem_mem→Ci,length_append→Cr,length_drop→Cu,length_map→Cw,length_take→C0,mem_append→C3,mem_cons→C6,mem_of_getElem?→C8,mem_singleton→CB,not_mem_nil→CD,setIfInBounds_toArray→CH,set_cons_succ→CJ,set_cons_zero→CK,take_of_length_le→CN,take_succ_eq_append_getElem→CO
open Nat renaming eq_zero_or_pos→CZ,le_of_lt→Da,le_refl→Db,le_succ→Dc,le_trans→Dd,lt_of_lt_of_le→Df,lt_or_ge→Dg,zero_add→Di,zero_le→Dj
open Option renaming getD_some→Ds,some→Du
open UInt8 renaming toNat_inj→FM
open Go.Value renaming int→ZZ,string→ZY,slice→ZX,bool→ZW,pointer→ZV,agg→ZU,tuple→ZT
open Go.IntKind renaming i64→ZS,u8→ZR,u32→ZQ
namespace Go.Proofs.YtdfabddnpgjepaaGreatDoor.Pg
open Go.RowKit Base Txt Mem Par
def At (w:World) (B:Zone) (g:Nat) (p:Nat) (b:Bd) (L:List (Option Nat)):Q->Prop
 | .live s=>∃q v f bd t o,L=blks g q v f bd t o/\PR w B g q v f bd t o p b s
 | .dead e out=>∃o,L= [some g,o.ownBlock]/\Dead w B g e o out
theorem ba_list (l:List UInt8):(ba l).data.toList=l:=rfl
section
variable {w w':World} {B:Zone} {g q:Nat} {v f bd t o:Value} {p:Nat} {rd:Ln.M} {fs ts:List Fld} {body:List UInt8} {out:List D7}
theorem _root_.Go.Proofs.YtdfabddnpgjepaaGreatDoor.XXVqF {P:Prop} (h:P:=by
 rcases (by simpa using hm:j=q∨some j=v.ownBlock) with e | e
 ·exact h1 (h.lone i 1 j hj (by rw [e];rfl))
 ·exact h2 (h.lone i 2 j hj (by rw [e];rfl))):P:=h
theorem Own.reader (h:Own w B g q v f bd t o rd fs body ts out) {v':Value} {rd':Ln.M} (hk:Ln.Kept q v.ownBlock w w') (hm:Ln.Moved w v.ownBlock v'.ownBlock) (hr:Ln.Rd w' B q v' rd') :
 Own w' B g q v' f bd t o rd' fs body ts out/\Step (blks g q v f bd t o) (blks g q v' f bd t o) w w'/\Keeps [some q,v.ownBlock] w w':=by
 have hk2:Keeps [some q,v.ownBlock] w w':=Keeps.of_kept hk (by simp) λk e=>by simp [e]
 have hn:∀i j,i≠1->i≠2->(blks g q v f bd t o)[i]?=some (some j)->some j∉ [some q,v.ownBlock]:=λi j h1 h2 hj hm=>by exact XXVqF
 have e:blks g q v' f bd t o=(blks g q v f bd t o).set 2 v'.ownBlock:=rfl;have ho:v'.ownBlock=none∨(blks g q v f bd t o)[2]?=some v'.ownBlock∨∃k,v'.ownBlock=some k/\w.heap.size<=k:=by
  rcases hm with e | e | e
  ·exact .inr (.inl (by rw [e];rfl))
  ·exact .inl e
  ·exact .inr (.inr e)
 have hof:Of w (blks g q v f bd t o) (blks g q v' f bd t o):=by rw [e];exact Of.set 2 _ ho
 have hkL:Keeps (blks g q v f bd t o) w w':=hk2.mono λk hk=>by
  rcases (by simpa using hk:k=q∨some k=v.ownBlock) with e | e
  ·simp [e]
  ·simp [e]
 obtain ⟨ps,h1,h2,h3⟩:=h.O
 refine ⟨⟨hr,hk2.own h.F λj e=>hn 3 j (by decide) (by decide) (by rw [←e];rfl),hk2.own h.D λj e=>hn 4 j (by decide) (by decide) (by rw [←e];rfl),hk2.own h.TR λj e=>hn 5 j (by decide) (by decide) (by rw [←e];rfl),
  ⟨ps,h1,λx hx=>⟨(h2 x hx).1,by
    have hx2:=(h2 x hx).2.keeps hkL
    exact ⟨hx2.reads,λk hb=>⟨λhm=>by
     rcases hof k hm with e | e
     ·exact (hx2.far k hb).1 e
     ·exact absurd ((h2 x hx).2.far k hb).2 (by omega),(hx2.far k hb).2⟩,hx2.off⟩⟩,hk2.own h3 λj e=>hn 6 j (by decide) (by decide) (by rw [←e];rfl)⟩,?_,h.ge,Df h.lt hk2.size,h.zone.of hk2.size hof⟩,⟨hkL,hof⟩,hk2⟩
 rw [e];exact h.lone.set h.in 2 _ ho
theorem PR.reader {b:Bd} {s:T} (h:PR w B g q v f bd t o p b s) {v':Value} {rd':Ln.M} (hk:Ln.Kept q v.ownBlock w w') (hm:Ln.Moved w v.ownBlock v'.ownBlock) (hr:Ln.Rd w' B q v' rd') :
 PR w' B g q v' f bd t o p b {s with rd:=rd'}/\Step (blks g q v f bd t o) (blks g q v' f bd t o) w w':=by
 obtain ⟨h1,h2,h3⟩:=h.own.reader hk hm hr;refine ⟨⟨h3.row h.row λhm=>?_,h1⟩,h2⟩;rcases (by simpa using hm:g=q∨some g=v.ownBlock) with e | e
 ·exact absurd (h.own.lone 0 1 g rfl (by rw [e];rfl)) (by decide)
 ·exact absurd (h.own.lone 0 2 g rfl (by rw [e];rfl)) (by decide)
end
section
set_option maxHeartbeats 4000000
set_option maxRecDepth 20000
attribute [local go_sem] Am
variable {w:World} {B:Zone} {g q:Nat} {v f bd t o:Value} {p:Nat} {b:Bd} {s:T}
theorem reader_any (c:UInt8) (hm:s.rd.Ok) (h:PR w B g q v f bd t o p b s):Calls EW 181 #[ptr q,ZZ ZR (c.toNat:Int)] w λr w'=>
 ∃v1,r=.returned (ZZ ZS (s.rd.clear.next c))/\PR w' B g q v1 f bd t o p b {s with rd:=s.rd.byte c}/\Step (blks g q v f bd t o) (blks g q v1 f bd t o) w w':=by
 refine (Ln.byte_any c s.rd hm w B q v h.own.R).mono ?_;rintro r w' ⟨v1,rfl,h1,h2,h3⟩;obtain ⟨h4,h5⟩:=h.reader h2 h3 h1;exact ⟨v1,rfl,h4,h5⟩
theorem XXuF3 {P:Prop} (h:P:=by
 rw [e0]
 have HEN:=Bx (λ(w2:World) (v1:Value) (h2:PR w2 B g q v1 f bd t o p b {s with rd:=s.rd.byte c})=>endLine_any hp hb0 (ba ln) (by rw [size_ba];exact hln) h2 ok2 hout)
 have HLI:=Bx (λ(w2:World) (v1:Value) (h2:PR w2 B g q v1 f bd t o p b {s with rd:=s.rd.byte c})=>Ln.line_any h2.own.R.row h2.own.R.own);have HLN:=Bx hl;have HX:=Bx hx;have c25:=h.cs.c25;clear h hby ok2 hln hl hx e0 hhow ok;rcases CZ e with he | he
 ·subst he;go_enter Tryz.func157,Tryz.ntmps157
  go_wp2_with (first
   |(go_at_call 156;with_reducible refine Cm (HFZ.out) ?_)
   |(go_at_call 182;with_reducible refine HEN2.out.mono ?_;rintro r w4 ⟨rfl,q1,v2,f1,bd1,t1,o1,hP,hS⟩
     have HP:=Bx hP;have HS:=Bx (HS2.out.trans hS);have HFZ:=Bx (fail_zero w4 g);clear hP hS)
   |(go_at_call 183;with_reducible refine Cm HLI2.out ?_)
   |(go_at_call 181;with_reducible refine HBY.out.mono ?_;rintro r w2 ⟨v1,rfl,h2,hS2⟩
     have d25:=h2.cs.c25;have HS2:=Bx hS2;have HEN2:=HEN.out w2 v1 h2;have HLI2:=HLI.out w2 v1 h2
     replace HEN2:=Bx (show Calls EW 182 #[ptr g,ZY (Ln.ba ln)] w2 λr w'=>r=.returned (ZZ ZS 0)/\∃q1 v2 f1 bd1 t1 o1,PR w' B g q1 v2 f1 bd1 t1 o1 p b t2/\Step (blks g q v1 f bd t o) (blks g q1 v2 f1 bd1 t1 o1) w2 w' from by rw [ba_list,HX.out] at HEN2;exact HEN2)
     rw [HLN.out] at HLI2
     replace HLI2:=Bx HLI2
     clear h2 hS2 c25))
  go_ret;exact ⟨rfl,_,⟨_,_,_,_,_,_,rfl,HP.out⟩,HS.out⟩
 ·have hne:e≠0:=by omega
  have e1:ends (e,t2)=.dead e t2.out:=by unfold ends;rw [if_neg hne]
  rw [e1];have HNE:=Bx hne;clear he hne e1;go_enter Tryz.func157,Tryz.ntmps157
  go_wp2_with (first
   |(go_at_call 156;with_reducible refine HFA.out.mono ?_;rintro r w5 ⟨rfl,hD,hS5⟩)
   |(go_at_call 182;with_reducible refine HEN2.out.mono ?_;rintro r w4 ⟨rfl,q1,v2,f1,bd1,t1,o1,hP,hS⟩
     have HS:=Bx (HS2.out.trans hS);have HFA:=Bx (fail_any hP e HNE.out _ rfl);clear hP hS)
   |(go_at_call 183;with_reducible refine Cm HLI2.out ?_)
   |(go_at_call 181;with_reducible refine HBY.out.mono ?_;rintro r w2 ⟨v1,rfl,h2,hS2⟩
     have d25:=h2.cs.c25;have HS2:=Bx hS2;have HEN2:=HEN.out w2 v1 h2;have HLI2:=HLI.out w2 v1 h2
     replace HEN2:=Bx (show Calls EW 182 #[ptr g,ZY (Ln.ba ln)] w2 λr w'=>r=.returned (ZZ ZS (e:Int))/\∃q1 v2 f1 bd1 t1 o1,PR w' B g q1 v2 f1 bd1 t1 o1 p b t2/\Step (blks g q v1 f bd t o) (blks g q1 v2 f1 bd1 t1 o1) w2 w' from by rw [ba_list,HX.out] at HEN2;exact HEN2)
     rw [HLN.out] at HLI2
     replace HLI2:=Bx HLI2
     clear h2 hS2 c25))
  go_ret
  exact ⟨rfl,_,⟨_,rfl,hD⟩,HS.out.trans hS5⟩):P:=h
theorem inLine_any (hp:p<4294967296) (hb0:b.right=true) (c:UInt8) (h:PR w B g q v f bd t o p b s) (ok:s.Ok) (hout:s.out.length<=1000000000):Calls EW 157 #[ptr g,ZZ ZR (c.toNat:Int)] w λr w'=>
 r=.returned (ZW (s.inLine p b c).2)/\∃L1,At w' B g p b L1 (s.inLine p b c).1/\Step (blks g q v f bd t o) L1 w w':=by
 have hby:=reader_any c ok.rd h;rcases Ln.M.next_is s.rd.clear c with hhow | hhow | hhow | hhow | hhow
 ·have HBY:=Bx (show Calls EW 181 #[ptr q,ZZ ZR (c.toNat:Int)] w λr w'=>∃v1,r=.returned (ZZ ZS 0)/\PR w' B g q v1 f bd t o p b {s with rd:=s.rd.byte c}/\Step (blks g q v f bd t o) (blks g q v1 f bd t o) w w' from by rw [←hhow];exact hby);have e0:s.inLine p b c=(.live {s with rd:=s.rd.byte c},true):=by
   unfold T.inLine;dsimp only;rw [hhow,if_pos rfl]
  rw [e0];have c25:=h.cs.c25;clear h hby ok hout e0 hhow;go_enter Tryz.func157,Tryz.ntmps157;go_wp2_with
   (go_at_call 181;with_reducible refine HBY.out.mono ?_;rintro r w2 ⟨v1,rfl,h2,hS2⟩
    have HP:=Bx h2;have HS:=Bx hS2;clear h2 hS2 c25)
  go_ret;exact ⟨rfl,_,⟨_,_,_,_,_,_,rfl,HP.out⟩,HS.out⟩
 ·have HBY:=Bx (show Calls EW 181 #[ptr q,ZZ ZR (c.toNat:Int)] w λr w'=>∃v1,r=.returned (ZZ ZS 1)/\PR w' B g q v1 f bd t o p b {s with rd:=s.rd.byte c}/\Step (blks g q v f bd t o) (blks g q v1 f bd t o) w w' from by rw [←hhow];exact hby)
  have ok2:({s with rd:=s.rd.byte c}:T).Ok:=ok.byteR c (by rw [hhow];rfl);have hln:=line_len ok c;obtain ⟨ln,hl⟩:∃ln,(s.rd.byte c).line=ln:=⟨_,rfl⟩;rw [hl] at hln;obtain ⟨⟨e,t2⟩,hx⟩:∃x,T.line p b {s with rd:=s.rd.byte c} ln=x:=⟨_,rfl⟩;have e0:s.inLine p b c=(ends (e,t2),true):=by unfold T.inLine;dsimp only;rw [hhow,if_neg (by decide),if_neg (by decide),if_neg (by decide),hl,hx];rfl
  exact XXuF3
 ·have HBY:=Bx (show Calls EW 181 #[ptr q,ZZ ZR (c.toNat:Int)] w λr w'=>∃v1,r=.returned (ZZ ZS 2)/\PR w' B g q v1 f bd t o p b {s with rd:=s.rd.byte c}/\Step (blks g q v f bd t o) (blks g q v1 f bd t o) w w' from by rw [←hhow];exact hby)
  have ok2:({s with rd:=s.rd.byte c}:T).Ok:=ok.byteR c (by rw [hhow];rfl);have hln:=line_len ok c;obtain ⟨ln,hl⟩:∃ln,(s.rd.byte c).line=ln:=⟨_,rfl⟩;rw [hl] at hln;obtain ⟨⟨e,t2⟩,hx⟩:∃x,T.line p b {s with rd:=s.rd.byte c} ln=x:=⟨_,rfl⟩;have e0:s.inLine p b c=(ends (e,t2),false):=by unfold T.inLine;dsimp only;rw [hhow,if_neg (by decide),if_neg (by decide),if_neg (by decide),hl,hx];rfl
  exact XXuF3
 ·have HBY:=Bx (show Calls EW 181 #[ptr q,ZZ ZR (c.toNat:Int)] w λr w'=>∃v1,r=.returned (ZZ ZS 3)/\PR w' B g q v1 f bd t o p b {s with rd:=s.rd.byte c}/\Step (blks g q v f bd t o) (blks g q v1 f bd t o) w w' from by rw [←hhow];exact hby);have e0:s.inLine p b c=(.dead 400 s.out,true):=by
   unfold T.inLine;dsimp only;rw [hhow,if_neg (by decide),if_pos rfl]
  rw [e0];have c25:=h.cs.c25;clear h hby ok hout e0 hhow;go_enter Tryz.func157,Tryz.ntmps157
  go_wp2_with (first
   |(go_at_call 156;with_reducible refine HFA.out.mono ?_;rintro r w5 ⟨rfl,hD,hS5⟩)
   |(go_at_call 181;with_reducible refine HBY.out.mono ?_;rintro r w2 ⟨v1,rfl,h2,hS2⟩
     have HS2:=Bx hS2;have HFA:=Bx (fail_any h2 400 (by decide) 400 rfl);clear h2 hS2 c25))
  go_ret;exact ⟨rfl,_,⟨_,rfl,hD⟩,HS2.out.trans hS5⟩
 ·have HBY:=Bx (show Calls EW 181 #[ptr q,ZZ ZR (c.toNat:Int)] w λr w'=>∃v1,r=.returned (ZZ ZS 4)/\PR w' B g q v1 f bd t o p b {s with rd:=s.rd.byte c}/\Step (blks g q v f bd t o) (blks g q v1 f bd t o) w w' from by rw [←hhow];exact hby);have HH0:=λw=>D3 p hp 29 w;have c25:=h.cs.c25;have e0:s.inLine p b c=(if (s.st==6&&D0 p 29)=true then (.live (({s with rd:=s.rd.byte c}:T).enter p 4 b.x0),false) else (.dead (longE s.st) s.out,true)):=by
   unfold T.inLine;dsimp only;rw [hhow,if_neg (by decide),if_neg (by decide),if_pos rfl]
  rw [e0]
  have HEN:=Bx (λ(w2:World) (v1:Value) (h2:PR w2 B g q v1 f bd t o p b {s with rd:=s.rd.byte c})=>enter_any hp h2 4 4 rfl b.x0)
  have HTL:=Bx (λ(w2:World) (v1:Value) (h2:PR w2 B g q v1 f bd t o p b {s with rd:=s.rd.byte c})=>tooLong_any h2.cs.c24)
  have hlong:longE s.st≠0:=by unfold longE;split<;>first | decide |(split<;>decide)
  have HLE:=Bx hlong;clear h hby ok hout e0 hhow hlong;by_cases h6:s.st=6
  ·cases hh:D0 p 29 with
   | true=>
     rw [hh] at HH0;have HH:=Bx HH0;have H6:=Bx h6;rw [h6,if_pos (by decide)];clear HH0 hh h6;go_enter Tryz.func157,Tryz.ntmps157
     go_wp2_with (first
      |(go_at_call 68;with_reducible refine HE2.out.mono ?_;rintro r w5 ⟨rfl,q1,hP,hS5⟩)
      |(go_at_call 84;with_reducible refine Cm (HH.out _) ?_)
      |(go_at_call 181;with_reducible refine HBY.out.mono ?_;rintro r w2 ⟨v1,rfl,h2,hS2⟩
        have HS2:=Bx hS2;have HE2:=Bx (HEN.out w2 v1 h2);have c24:w2.cell? ⟨g,24,none⟩=some (ZZ ZS 6):=by have:=h2.cs.c24;rw [show ({s with rd:=s.rd.byte c}:T).st=6 from H6.out] at this;exact this
        have c13:=h2.cs.c13;have c14:=h2.cs.c14;clear h2 hS2 c25))
     go_ret;exact ⟨rfl,_,⟨_,_,_,_,_,_,rfl,hP⟩,HS2.out.trans hS5⟩
   | false=>
     rw [hh] at HH0;have HH:=Bx HH0;have H6:=Bx h6;have e1:(s.st==6&&false)=false:=Bool.and_false _;rw [e1,if_neg (by decide)];clear HH0 hh h6 e1;go_enter Tryz.func157,Tryz.ntmps157
     go_wp2_with (first
      |(go_at_call 156;with_reducible refine HFA.out.mono ?_;rintro r w5 ⟨rfl,hD,hS5⟩)
      |(go_at_call 184;with_reducible refine Cm HT2.out ?_)
      |(go_at_call 84;with_reducible refine Cm (HH.out _) ?_)
      |(go_at_call 181;with_reducible refine HBY.out.mono ?_;rintro r w2 ⟨v1,rfl,h2,hS2⟩
        have HS2:=Bx hS2;have HT2:=Bx (HTL.out w2 v1 h2);have HFA:=Bx (fail_any h2 (longE s.st) HLE.out _ rfl);have c24:w2.cell? ⟨g,24,none⟩=some (ZZ ZS 6):=by have:=h2.cs.c24;rw [show ({s with rd:=s.rd.byte c}:T).st=6 from H6.out] at this;exact this
        have c13:=h2.cs.c13;clear h2 hS2 c25))
     go_ret;exact ⟨rfl,_,⟨_,rfl,hD⟩,HS2.out.trans hS5⟩
  ·have t6:((s.st:Int)==6)=false:=beq_eq_false_iff_ne.2 (by omega);have m6:¬(s.st:Int)=6:=by omega
   have m6n:¬s.st=6:=h6;rw [beq_eq_false_iff_ne.2 h6,Av,if_neg (by decide)];clear HH0 h6;go_enter Tryz.func157,Tryz.ntmps157
   go_wp2_with (first
    |(go_at_call 156;with_reducible refine HFA.out.mono ?_;rintro r w5 ⟨rfl,hD,hS5⟩)
    |(go_at_call 184;with_reducible refine Cm HT2.out ?_)
    |(go_at_call 181;with_reducible refine HBY.out.mono ?_;rintro r w2 ⟨v1,rfl,h2,hS2⟩
      have HS2:=Bx hS2;have HT2:=Bx (HTL.out w2 v1 h2);have HFA:=Bx (fail_any h2 (longE s.st) HLE.out _ rfl);have c24:w2.cell? ⟨g,24,none⟩=some (ZZ ZS (s.st:Int)):=h2.cs.c24;clear h2 hS2 c25))
   go_ret;exact ⟨rfl,_,⟨_,rfl,hD⟩,HS2.out.trans hS5⟩
theorem XXIv5 {P:Prop} (h:P:=by
 rw [hst] at c24;go_enter Tryz.func114,Tryz.ntmps114;go_upto_region 10 with fail
 refine Each.region 8 [23,24,25,26,27,28,29,30] [eP g 0,eP g 0,eP g 1,eP g 0,eP g 0,eP g 14,eP g 16,eQ (ZZ ZS b.x2)] (.act 8 (.quiet 9 .done)) (by kernel_rfl) (by kernel_rfl) (by kernel_rfl) (by kernel_rfl) (λ_ _ d _ _ h=>by cases d<;>exact h) (by rfl) (by rfl) (by repeat first | exact trivial | refine ⟨AK _,?_⟩) ?_ ?_
 ·refine ⟨?_,?_,?_,?_,?_,?_,?_,?_,trivial⟩
  all_goals (refine AP rfl (λev w1 hR hb hh=>?_);have e0:=hR.old 0 rfl;simp only [Ag,Cg,BY,BZ,Ds] at e0;have q16:=(HQ.out.below hb).c 16 _ rfl;exact Each.std)
 intro g1 w2 hb hf;have z25:g1 25= _:=hf.at 2;have z30:g1 30= _:=hf.at 7;clear hf;simp only [AU,Ab,CH,CK,CJ];rw [z25,z30];simp only [Ee,Ef,BZ,BY]
 have HS1:=Bx (DP hb (L:=blks g q v f bd t o))
 have HFI:=Bx (count_any b.x2 (H.out.below hb) hsz);clear hb HQ;rw [HTR.out] at HFI
 refine Ec (by rfl) (λK hK=>?_)
 refine Each.oper_enter (g:=155) (args:=#[ZV (some ⟨g,1,none⟩),ZZ ZS b.x2]) (by go_simp) (HFI.out.mono ?_);rintro r w3 ⟨rfl,hP,hS⟩;refine ⟨_,rfl,?_⟩;refine hK _ _ trivial ?_;clear hK K;simp only [Ab,CH,CK,CJ];refine Eg (by rfl) (ZW false) (λ_ _=>by go_simp) ?_;simp only [Ab,CH,CK,CJ];refine Ed ?_
 have HP2:=Bx hP;have HS2:=Bx (HS1.out.trans hS);clear HFI HS1 hS
 have HI:=Bx (inLine_any hp hb0 c hP (ok.counted hb0 hov) (by rw [counted_out];exact hout));clear hP
 go_wp2_with (go_at_call 157;with_reducible refine HI.out.mono ?_;rintro r w4 ⟨rfl,L4,hA,hS4⟩);go_ret
 exact ⟨rfl,L4,hA,HS2.out.trans hS4⟩):P:=h
theorem XXtX3 {P:Prop} (h:P:=by
 rw [hst] at c24;go_enter Tryz.func114,Tryz.ntmps114;go_upto_region 10 with fail
 refine Each.region 8 [23,24,25,26,27,28,29,30] [eP g 0,eP g 0,eP g 1,eP g 0,eP g 0,eP g 14,eP g 16,eQ (ZZ ZS b.x2)] (.act 8 (.quiet 9 .done)) (by kernel_rfl) (by kernel_rfl) (by kernel_rfl) (by kernel_rfl) (λ_ _ d _ _ h=>by cases d<;>exact h) (by rfl) (by rfl) (by repeat first | exact trivial | refine ⟨AK _,?_⟩) ?_ ?_
 ·refine ⟨?_,?_,?_,?_,?_,?_,?_,?_,trivial⟩
  all_goals (refine AP rfl (λev w1 hR hb hh=>?_);have e0:=hR.old 0 rfl;simp only [Ag,Cg,BY,BZ,Ds] at e0;have q16:=(HQ.out.below hb).c 16 _ rfl;exact Each.std)
 intro g1 w2 hb hf;have z25:g1 25= _:=hf.at 2;have z30:g1 30= _:=hf.at 7;clear hf;simp only [AU,Ab,CH,CK,CJ];rw [z25,z30];simp only [Ee,Ef,BZ,BY]
 have HS1:=Bx (DP hb (L:=blks g q v f bd t o))
 have HFI:=Bx (count_any b.x2 (H.out.below hb) hsz);clear hb HQ;rw [HTR.out] at HFI
 refine Ec (by rfl) (λK hK=>?_)
 refine Each.oper_enter (g:=155) (args:=#[ZV (some ⟨g,1,none⟩),ZZ ZS b.x2]) (by go_simp) (HFI.out.mono ?_);rintro r w3 ⟨rfl,hP,hS⟩;refine ⟨_,rfl,?_⟩;refine hK _ _ trivial ?_;clear hK K;simp only [Ab,CH,CK,CJ];refine Eg (by rfl) (ZW true) (λ_ _=>by go_simp) ?_;simp only [Ab,CH,CK,CJ];refine Ed ?_
 have HP2:=Bx hP;have HS2:=Bx (HS1.out.trans hS);clear HFI HS1 hS
 have HF:=Bx (fail_any hP 431 (by decide) 431 rfl);clear hP
 go_wp2_with (go_at_call 156;with_reducible refine HF.out.mono ?_;rintro r w4 ⟨rfl,hD,hS4⟩);go_ret
 exact ⟨rfl,_,⟨_,rfl,by rw [counted_out] at hD;exact hD⟩,HS2.out.trans hS4⟩):P:=h
theorem XXYZX {P:Prop} (h:P:=by
 rw [hst] at c24;clear hst;go_enter Tryz.func114,Tryz.ntmps114
 go_wp2_with (first
  |(go_at_call 154;with_reducible refine HED.out.mono ?_;rintro r w5 ⟨rfl,q1,v1,f1,bd2,t1,o1,hP,hS5⟩)
  |(go_at_call 153;with_reducible refine HK.out.mono ?_;rintro r w4 ⟨rfl,bd1,h2,hS2⟩
    have HS2:=Bx hS2;have HED:=Bx (HK9.out w4 bd1 h2);clear h2 hS2))
 go_ret
 exact ⟨rfl,_,⟨_,_,_,_,_,_,rfl,hP⟩,HS2.out.trans hS5⟩):P:=h
theorem XXJc6 {P:Prop} (h:P:=by
 rw [hst] at c24;clear hst;go_enter Tryz.func114,Tryz.ntmps114
 go_wp2_with (go_at_call 153;with_reducible refine HK.out.mono ?_;rintro r w4 ⟨rfl,bd1,h2,hS2⟩);go_ret
 exact ⟨rfl,_,⟨_,_,_,_,_,_,rfl,h2⟩,hS2⟩):P:=h
theorem look_any (hp:p<4294967296) (hb0:b.right=true) (c:UInt8) (h:PR w B g q v f bd t o p b s) (ok:s.Ok) (hout:s.out.length<=1000000000):Calls EW 114 #[ptr g,ZZ ZR (c.toNat:Int)] w λr w'=>
 r=.returned (ZW (s.look p b c).2)/\∃L1,At w' B g p b L1 (s.look p b c).1/\Step (blks g q v f bd t o) L1 w w':=by
 have H:=Bx h;have c24:=h.cs.c24;by_cases hbd:bodied s.st=true
 ·have hl:=ok.left hbd;have hbl:=ok.body
  have HK0:=keep_any c h ⟨hl,by omega⟩ (by omega)
  have HK9:=Bx (λ(w2:World) (bd1:Value) (h2:PR w2 B g q v f bd1 t o p b (s.keep c))=>endData_any hp h2 hout);have hst:s.st=3∨s.st=5:=by unfold bodied at hbd;simpa using hbd
  unfold T.look;rw [if_pos hbd];clear h hb0 hbl hout ok hbd;by_cases h1:s.left=1
  ·rw [decide_eq_true h1] at HK0;have HK:=Bx HK0;rw [if_pos h1];clear HK0 h1 hl;rcases hst with hst | hst
   ·exact XXYZX
   ·exact XXYZX
  ·rw [decide_eq_false h1] at HK0;have HK:=Bx HK0;rw [if_neg h1];clear HK0 h1 hl;rcases hst with hst | hst
   ·exact XXJc6
   ·exact XXJc6
 ·have hbd:bodied s.st=false:=by simpa using hbd
  unfold T.look;rw [if_neg (by rw [hbd];decide)];have hn:¬s.st=3/\¬s.st=5:=by unfold bodied at hbd;simpa using hbd
  by_cases hhd:headed s.st=true
  ·rw [if_pos hhd];have hst:s.st=1∨s.st=2∨s.st=7:=by
    unfold headed at hhd;simp only [Az,beq_iff_eq] at hhd;omega
   have hsz:s.size<=1000000:=Dd ok.size (by decide)
   have HQ:=Bx ((h.drew 1).bk);clear hhd hn
   by_cases hov:b.x2<(s.counted.size:Int)
   ·rw [if_pos hov]
    have HTR:=Bx (show (!decide (b.x2<(s.counted.size:Int)))=false by rw [decide_eq_true hov];rfl);clear hov h hbd hout hb0 ok;rcases hst with hst | hst | hst
    ·exact XXtX3
    ·exact XXtX3
    ·exact XXtX3
   ·rw [if_neg hov]
    have HTR:=Bx (show (!decide (b.x2<(s.counted.size:Int)))=true by rw [decide_eq_false hov];rfl);clear h hbd;rcases hst with hst | hst | hst
    ·exact XXIv5
    ·exact XXIv5
    ·exact XXIv5
  ·rw [if_neg hhd];have hn2:¬s.st=1/\¬s.st=2/\¬s.st=7:=by
    unfold headed at hhd;simp only [Az,beq_iff_eq] at hhd;omega
   have t1:((s.st:Int)==1)=false:=beq_eq_false_iff_ne.2 (by omega);have m1:¬(s.st:Int)=1:=by omega
   have t2:((s.st:Int)==2)=false:=beq_eq_false_iff_ne.2 (by omega);have m2:¬(s.st:Int)=2:=by omega
   have t3:((s.st:Int)==3)=false:=beq_eq_false_iff_ne.2 (by omega);have m3:¬(s.st:Int)=3:=by omega
   have t5:((s.st:Int)==5)=false:=beq_eq_false_iff_ne.2 (by omega);have m5:¬(s.st:Int)=5:=by omega
   have t7:((s.st:Int)==7)=false:=beq_eq_false_iff_ne.2 (by omega);have m7:¬(s.st:Int)=7:=by omega
   have HI:=Bx (inLine_any hp hb0 c h ok hout);clear h hbd ok hout hb0 hhd hn hn2;go_enter Tryz.func114,Tryz.ntmps114
   go_wp2_with (go_at_call 157;with_reducible refine HI.out.mono ?_;rintro r w4 ⟨rfl,L4,hA,hS4⟩);go_ret;exact ⟨rfl,L4,hA,hS4⟩
end
end Go.Proofs.YtdfabddnpgjepaaGreatDoor.Pg
namespace Go.Proofs.YtdfabddnpgjepaaGreatDoor.Pg
open Go.RowKit Base Txt Par
section
variable {p:Nat} {b:Bd} {t t':T}
theorem feed_cons (x:Q) (c:UInt8) (l:List UInt8):x.feed p b (c::l)=(x.byte p b c).feed p b l:=rfl
theorem feed_app (x:Q) (l l':List UInt8):x.feed p b (l++l')=(x.feed p b l).feed p b l':=List.foldl_append
def T.room (b:Bd) (t:T) (n:Nat):Prop:=headed t.st=true->((t.size+n:Nat):Int)<=b.x2
structure T.Open (t:T):Prop where
 st:bodied t.st=false
 pend:t.rd.pend=false
 nf:Ln.failed t.rd.last=false
def T.went (t:T) (rd:Ln.M) (n:Nat):T:={t with rd:=rd,size:=if headed t.st=true then t.size+n else t.size,cnt:=headed t.st}
end
end Go.Proofs.YtdfabddnpgjepaaGreatDoor.Pg
namespace Go.Proofs.YtdfabddnpgjepaaGreatDoor.Pg
open Go.RowKit Base Txt Mem Par
def Q.Ok (b:Bd):Q->Prop
 | .live t=>t.Ok/\b.right=true
 | .dead _ _=>True
section
variable {p:Nat} {b:Bd} {t t':T} {s:List UInt8}
theorem line_out (t:T) (s:List UInt8):(t.line p b s).2.out.length<=t.out.length+1:=by
 have hf:t.fin.out.length<=t.out.length+1:=by show (t.out ++ [t.r]).length<=_;simp
 unfold T.line T.first T.fields T.endHead T.chunk T.trail;split
 ·split
  ·exact Dc _
  ·dsimp only;split<;>exact Dc _
 ·split
  ·split
   ·dsimp only;split
    ·exact Dc _
    ·split
     ·exact Dc _
     ·split
      ·exact hf
      ·exact Dc _
   ·exact Dc _
  ·split
   ·dsimp only;split
    ·exact Dc _
    ·split
     ·exact Dc _
     ·split<;>exact Dc _
   ·split
    ·split
     ·exact hf
     ·exact Dc _
    ·exact Dc _
theorem inLine_out (t:T) (c:UInt8):(t.inLine p b c).1.out.length<=t.out.length+1:=by
 unfold T.inLine;dsimp only;split
 ·exact Dc _
 ·split
  ·exact Dc _
  ·split
   ·split<;>exact Dc _
   ·have h:=line_out (p:=p) (b:=b) {t with rd:=t.rd.byte c} (t.rd.byte c).line;unfold ends;split<;>exact h
theorem look_out (t:T) (c:UInt8):(t.look p b c).1.out.length<=t.out.length+1:=by
 unfold T.look;split
 ·split
  ·show (T.endData p (t.keep c)).out.length<=_;unfold T.endData;split
   ·exact Dc _
   ·show (t.out ++ [_]).length<=_;simp
  ·exact Dc _
 ·split
  ·split
   ·exact Dc _
   ·have h:=inLine_out (p:=p) (b:=b) t.counted c;rw [counted_out] at h;exact h
  ·exact inLine_out t c
theorem take_out (t:T) (c:UInt8):(t.take p b c).out.length<=t.out.length+2:=by
 have h:=look_out (p:=p) (b:=b) {t with cnt:=false} c;have e:({t with cnt:=false}:T).out=t.out:=rfl;rw [e] at h;unfold T.take;rcases hx:({t with cnt:=false}:T).look p b c with ⟨t1 | ⟨e,o⟩,u⟩
 ·rw [hx] at h;have h:t1.out.length<=t.out.length+1:=h;cases u with
  | true=>show t1.out.length<=_;omega
  | false=>
    have h2:=look_out (p:=p) (b:=b) t1 c;show (t1.look p b c).1.out.length<=_;omega
 ·rw [hx] at h;have h:o.length<=t.out.length+1:=h
  cases u<;> (show o.length<=_;omega)
theorem Q.byte_out (x:Q) (c:UInt8):(x.byte p b c).out.length<=x.out.length+2:=by
 cases x with
 | live t=>exact take_out t c
 | dead e o=>show o.length<=o.length+2;omega
theorem Q.feed_out:∀(l:List UInt8) (x:Q),(x.feed p b l).out.length<=x.out.length+2*l.length
 | [],_=>Db _
 | c::l,x=>by
   have h1:=Q.byte_out (p:=p) (b:=b) x c
   have h2:=Q.feed_out l (x.byte p b c);rw [feed_cons,List.length_cons];omega
theorem Q.Ok.byte {x:Q} (h:x.Ok b) (c:UInt8):(x.byte p b c).Ok b:=by
 cases x with
 | live t=>
   show (t.take p b c).Ok b;rcases hx:t.take p b c with t1 | ⟨e,o⟩
   ·exact ⟨T.Ok.take h.1 h.2 c hx,h.2⟩
   ·trivial
 | dead e o=>trivial
theorem Q.Ok.feed:∀(l:List UInt8) {x:Q},x.Ok b->(x.feed p b l).Ok b
 | [],_,h=>h
 | c::l,_,h=>Q.Ok.feed l (h.byte c)
end
structure Bts (L:List (Option Nat)) (w:World) (a:Option Addr) (l:List UInt8):Prop where
 nums:Nums .u8 w a l.length (l.map λc=>(c.toNat:Int))
 far:∀ad,a=some ad->some ad.block∉L/\ad.block<w.heap.size
structure Parts (L:List (Option Nat)) (w:World) (a:Option Addr) (ls:List (List UInt8)):Prop where
 cells:0<ls.length->∃bk off,a=some ⟨bk,off,none⟩/\bk<w.heap.size/\some bk∉L/\∀k (hk:k<ls.length),∃ak ck,w.cell? ⟨bk,off+k,none⟩=some (.slice ak ls[k].length ck)/\Bts L w ak ls[k]
theorem Bts.step {L L':List (Option Nat)} {w w':World} {a:Option Addr} {l:List UInt8} (h:Bts L w a l) (hs:Step L L' w w'):Bts L' w' a l:=by
 refine ⟨nums_keeps h.nums hs.keeps (λc=>?_),λad e=>⟨λhm=>?_,Df (h.far ad e).2 hs.keeps.size⟩⟩
 ·cases ha:a with
  | none=>exact .inl rfl
  | some ad=>exact .inr ⟨ad.block,rfl,(h.far ad ha).1⟩
 ·rcases hs.of _ hm with h1 | h1
  ·exact (h.far ad e).1 h1
  ·have:=(h.far ad e).2;omega
theorem Parts.step {L L':List (Option Nat)} {w w':World} {a:Option Addr} {ls:List (List UInt8)} (h:Parts L w a ls) (hs:Step L L' w w'):Parts L' w' a ls:=by
 refine ⟨λh0=>?_⟩;obtain ⟨bk,off,e,hlt,hn,hc⟩:=h.cells h0;refine ⟨bk,off,e,Df hlt hs.keeps.size,λhm=>?_,λk hk=>?_⟩
 ·rcases hs.of _ hm with h1 | h1
  ·exact hn h1
  ·omega
 ·obtain ⟨ak,ck,h1,h2⟩:=hc k hk;exact ⟨ak,ck,(hs.keeps.cell (p:=⟨bk,off+k,none⟩) hlt hn).trans h1,h2.step hs⟩
section
set_option maxHeartbeats 4000000
set_option maxRecDepth 20000
attribute [local go_sem] Am
variable {w:World} {B:Zone} {g q:Nat} {v f bd t o:Value} {p:Nat} {b:Bd} {s:T}
theorem Dead.cell0 {e:Nat} {out:List D7} (h:Dead w B g e o out):w.cell? ⟨g,0,none⟩=some (ZZ ZS (e:Int)):=row_cellL h.row rfl
theorem Dead.put {e:Nat} {out:List D7} (h:Dead w B g e o out) (k:Nat) (u:Value) (o':Value) (out':List D7) (hc:(deadcells e o).set k u=deadcells e o') (hO:Outs [some g,o'.ownBlock] B (w.setCell ⟨g,k,none⟩ u) o' out') (hn:o'.ownBlock≠some g) (hz:o'.ownBlock=none∨o'.ownBlock=o.ownBlock):Dead (w.setCell ⟨g,k,none⟩ u) B g e o' out':=
 ⟨by rw [←hc];exact row_setL h.row k u,hO,hn,h.ge,by simpa using h.lt,h.bad,h.zone.of (by simp) λk hk=>.inl (by
   rcases (by simpa using hk:k=g∨some k=o'.ownBlock) with e | e
   ·simp [e]
   ·rcases hz with z | z
    ·rw [z] at e;cases e
    ·rw [←z,←e];simp)⟩
theorem Dead.same {e:Nat} {out:List D7} (h:Dead w B g e o out) (k:Nat) (u:Value) (hc:(deadcells e o).set k u=deadcells e o):Dead (w.setCell ⟨g,k,none⟩ u) B g e o out:=
 h.put k u o out hc (h.O.keeps (Bp g k u (CB.2 rfl)) (λk hk=>by simp only [CB] at hk;simp [hk]) (λk e hm=>h.ne (by rw [e,CB.1 hm]))) h.ne (.inr rfl)
theorem XXfSm {P:Prop} (h:P:=by
 clear htw hx hok2 hoo;go_enter Tryz.func71,Tryz.ntmps71;go_upto_region 1 with fail
 generalize w.setCell ⟨g,7,none⟩ (ZW false)=W1 at *;clear c7 z7
 have HF:=Bx (failed_live H1.out.cs.c0)
 have HL1:=Bx (HL.out _ H1.out);refine wp_loop_rounds 1 ?_;rw [rounds_succ]
 go_wp2_with (first
  |(go_at_call 114;with_reducible refine HL1.out.mono ?_;rintro r w2 ⟨rfl,L2,hA,hS2⟩)
  |(go_at_call 78;with_reducible refine Cm HF.out ?_))
 first | go_end0 | refine bodyPost_ret (results_none rfl _ _ _) rfl ?_
 exact ⟨rfl,_,hA,HS1.out.trans hS2⟩):P:=h
theorem take_any (hp:p<4294967296) (c:UInt8) (x:Q) {L:List (Option Nat)} (h:At w B g p b L x) (ok:x.Ok b) (hout:x.out.length<=999999998):Calls EW 71 #[ptr g,ZZ ZR (c.toNat:Int)] w λr w'=>
 r=.returned (ZT #[])/\∃L',At w' B g p b L' (x.byte p b c)/\Step L L' w w':=by
 cases x with
 | dead e out=>
   obtain ⟨o,rfl,hd⟩:=h
   have H1:=Bx (hd.same 7 (ZW false) rfl)
   have HS1:=Bx (DS (w:=w) (L:= [some g,o.ownBlock]) g 7 (ZW false) (by simp));have HB:=Bx hd.bad;have c7:=row_cellL hd.row (k:=7) rfl;have z7:=CV hd.row 7;clear hd ok hout;go_enter Tryz.func71,Tryz.ntmps71;go_upto_region 1 with fail
   generalize w.setCell ⟨g,7,none⟩ (ZW false)=W1 at *;clear c7 z7
   have HF:=Bx (failed_dead H1.out.cell0 HB.out);refine wp_loop_rounds 1 ?_;rw [rounds_succ]
   go_wp2_with (go_at_call 78;with_reducible refine Cm HF.out ?_);first | go_end0 | refine bodyPost_ret (results_none rfl _ _ _) rfl ?_
   exact ⟨rfl,_,⟨_,rfl,H1.out⟩,HS1.out⟩
 | live s=>
   obtain ⟨q,v,f,bd,t,o,rfl,h⟩:=h
   have H1:=Bx (h.put 7 (ZW false) {s with cnt:=false} rfl rfl rfl rfl rfl rfl)
   have HS1:=Bx (DS (w:=w) (L:=blks g q v f bd t o) g 7 (ZW false) (by simp));have c7:=h.cs.c7;have z7:=h.marks 7;obtain ⟨ok,hb0⟩:s.Ok/\b.right=true:=ok;have hout:s.out.length<=999999998:=hout;have ok1:=ok.cleared;obtain ⟨S1,hS1⟩:∃S1:T,{s with cnt:=false}=S1:=⟨_,rfl⟩;have ho1:S1.out.length<=999999998:=by rw [←hS1];exact hout
   rw [hS1] at ok1 H1
   have e:Q.byte p b (.live s) c=(match S1.look p b c with
    |(.live t1,false)=>(t1.look p b c).1
    |(x,_)=>x):=by rw [←hS1];rfl
   have HL:=Bx (λ(w2:World) (h2:PR w2 B g q v f bd t o p b S1)=>look_any hp hb0 c h2 ok1 (by omega));have htw:=λt'=>look_twice (p:=p) (t':=t') ok1 hb0 c;have hoo:=look_out (p:=p) (b:=b) S1 c;have hok2:=λt' (h:(S1.look p b c).1=.live t')=>ok1.look hb0 c h;rw [e];clear h ok hout e hS1;rcases hx:S1.look p b c with ⟨t1 | ⟨e,out⟩,u⟩
   ·rw [hx] at HL hoo;cases u with
    | true=>
      show Calls _ _ _ _ λr w'=>r=.returned (ZT #[])/\∃L',At w' B g p b L' (.live t1)/\Step _ L' w w';exact XXfSm
    | false=>
      have hu:=htw t1 hx;show Calls _ _ _ _ λr w'=>r=.returned (ZT #[])/\∃L',At w' B g p b L' (t1.look p b c).1/\Step _ L' w w'
      have ok2:=hok2 t1 (by rw [hx]);have hoo:t1.out.length<=S1.out.length+1:=hoo
      have HL9:=λ(w2:World) (q v f bd t o) (h2:PR w2 B g q v f bd t o p b t1)=>look_any hp hb0 c h2 ok2 (by omega);rw [hu] at HL9;have HL2:=Bx HL9;clear htw hx hok2 hoo hu ok2 HL9;go_enter Tryz.func71,Tryz.ntmps71;go_upto_region 1 with fail
      generalize w.setCell ⟨g,7,none⟩ (ZW false)=W1 at *;clear c7 z7
      have HF:=Bx (failed_live H1.out.cs.c0)
      have HL1:=Bx (HL.out _ H1.out);refine wp_loop_rounds 2 ?_;rw [rounds_succ]
      go_wp2_with (first
       |(go_at_call 114;with_reducible refine HL1.out.mono ?_;rintro r w2 ⟨rfl,L2,hA,hS2⟩)
       |(go_at_call 78;with_reducible refine Cm HF.out ?_))
      obtain ⟨q2,v2,f2,bd2,t2,o2,rfl,h2⟩:=hA
      have HF2:=Bx (failed_live h2.cs.c0)
      have HL3:=Bx (HL2.out _ _ _ _ _ _ _ h2)
      have HS2:=Bx (HS1.out.trans hS2);clear h2 hS2 HF HL1 HL2 H1 HS1;rw [rounds_succ]
      go_wp2_with (first
       |(go_at_call 114;with_reducible refine HL3.out.mono ?_;rintro r w4 ⟨rfl,L4,hA4,hS4⟩)
       |(go_at_call 78;with_reducible refine Cm HF2.out ?_))
      first | go_end0 | refine bodyPost_ret (results_none rfl _ _ _) rfl ?_
      exact ⟨rfl,_,hA4,HS2.out.trans hS4⟩
   ·rw [hx] at HL hoo;cases u with
    | true=>
      show Calls _ _ _ _ λr w'=>r=.returned (ZT #[])/\∃L',At w' B g p b L' (.dead e out)/\Step _ L' w w';exact XXfSm
    | false=>
      show Calls _ _ _ _ λr w'=>r=.returned (ZT #[])/\∃L',At w' B g p b L' (.dead e out)/\Step _ L' w w';clear htw hx hok2 hoo;go_enter Tryz.func71,Tryz.ntmps71;go_upto_region 1 with fail
      generalize w.setCell ⟨g,7,none⟩ (ZW false)=W1 at *;clear c7 z7
      have HF:=Bx (failed_live H1.out.cs.c0)
      have HL1:=Bx (HL.out _ H1.out);refine wp_loop_rounds 2 ?_;rw [rounds_succ]
      go_wp2_with (first
       |(go_at_call 114;with_reducible refine HL1.out.mono ?_;rintro r w2 ⟨rfl,L2,hA,hS2⟩)
       |(go_at_call 78;with_reducible refine Cm HF.out ?_))
      obtain ⟨o2,rfl,h2⟩:=hA
      have HF2:=Bx (failed_dead h2.cell0 h2.bad);have HD2:=Bx h2
      have HS2:=Bx (HS1.out.trans hS2);clear h2 hS2 HF HL1 H1 HS1;rw [rounds_succ]
      go_wp2_with (go_at_call 78;with_reducible refine Cm HF2.out ?_);first | go_end0 | refine bodyPost_ret (results_none rfl _ _ _) rfl ?_
      exact ⟨rfl,_,⟨_,rfl,HD2.out⟩,HS2.out⟩
end
end Go.Proofs.YtdfabddnpgjepaaGreatDoor.Pg
namespace Go.Proofs.YtdfabddnpgjepaaGreatDoor.Pg
open Go.RowKit Base Txt Mem Par
structure Told (L:List (Option Nat)) (B:Zone) (w:World) (o:Value) (out:List D7):Prop where
 outs:Outs L B w o out
 far:∀k,o.ownBlock=some k->some k∉L/\k<w.heap.size
 off:∀k,o.ownBlock=some k->some k∉B.z
section
set_option maxHeartbeats 4000000
set_option maxRecDepth 20000
attribute [local go_sem] Am
variable {w:World} {B:Zone} {g q:Nat} {v f bd t o:Value} {p:Nat} {b:Bd} {s:T}
theorem Own.less {rd:Ln.M} {fs ts:List Fld} {body:List UInt8} {out:List D7} (h:Own w B g q v f bd t o rd fs body ts out):Own w B g q v f bd t nil rd fs body ts []:=by
 have e:blks g q v f bd t nil=(blks g q v f bd t o).set 6 none:=rfl;refine ⟨h.R,h.F,h.D,h.TR,⟨[],rfl,(by intro x hx;cases hx),FV _ _ _ _⟩,?_,h.ge,h.lt,h.zone.of (Db _) (by rw [e];exact Of.set 6 none (.inl rfl))⟩;rw [e]
 exact h.lone.set h.in 6 none (.inl rfl)
theorem At.below {L:List (Option Nat)} {w':World} {x:Q} (h:At w B g p b L x) (hb:Below w.heap.size w w'):At w' B g p b L x:=by
 cases x with
 | live s=>
   obtain ⟨q,v,f,bd,t,o,rfl,h⟩:=h;exact ⟨q,v,f,bd,t,o,rfl,h.below hb⟩
 | dead e out=>
   obtain ⟨o,rfl,h⟩:=h;refine ⟨o,rfl,(hb.block g h.lt).trans h.row,h.O.keeps (Bo hb:Keeps [] w w') (by simp) (by simp),h.ne,h.ge,Df h.lt hb.size,h.bad,h.zone.of hb.size Dq⟩
theorem At.low {L:List (Option Nat)} {x:Q} (h:At w B g p b L x):∀k,some k∈L->B<=k:=by
 cases x with
 | live s=>
   obtain ⟨q,v,f,bd,t,o,rfl,h⟩:=h;exact h.own.low
 | dead e out=>
   obtain ⟨o,rfl,h⟩:=h;intro k hk;obtain ⟨ps, -, -,h3⟩:=h.O;rcases (by simpa using hk:k=g∨some k=o.ownBlock) with e | e
   ·rw [e];exact h.ge
   ·exact (FU h3 k e.symm).1
theorem At.in {L:List (Option Nat)} {x:Q} (h:At w B g p b L x):In w L:=by
 cases x with
 | live s=>
   obtain ⟨q,v,f,bd,t,o,rfl,h⟩:=h;exact h.own.in
 | dead e out=>
   obtain ⟨o,rfl,h⟩:=h;intro k hk;obtain ⟨ps, -, -,h3⟩:=h.O;rcases (by simpa using hk:k=g∨some k=o.ownBlock) with e | e
   ·rw [e];exact h.lt
   ·exact (FU h3 k e.symm).2
theorem _root_.Go.Proofs.YtdfabddnpgjepaaGreatDoor.XXTkD {P:Prop} (h:P:=by
 obtain ⟨i,hi⟩:=List.getElem?_of_mem hm;have h6:(blks g q v f bd t o)[6]?=some (some k):=by rw [←e];rfl
 rcases i with _ | _ | _ | _ | _ | _ | _ | i
 ·exact h.own.lone.ne (i:=0) (j:=6) (k:=k) hi (by decide) h6
 ·exact h.own.lone.ne (i:=1) (j:=6) (k:=k) hi (by decide) h6
 ·exact h.own.lone.ne (i:=2) (j:=6) (k:=k) hi (by decide) h6
 ·exact h.own.lone.ne (i:=3) (j:=6) (k:=k) hi (by decide) h6
 ·exact h.own.lone.ne (i:=4) (j:=6) (k:=k) hi (by decide) h6
 ·exact h.own.lone.ne (i:=5) (j:=6) (k:=k) hi (by decide) h6
 ·cases hi
 ·cases hi):P:=h
theorem _root_.Go.Proofs.YtdfabddnpgjepaaGreatDoor.XX5KD {P:Prop} (h:P:=by
 simp only [C6,CD,or_false,Value.ownBlock,reduceCtorEq] at hk ⊢
 rcases hk with e | e | e | e | e | e<;>simp [e]):P:=h
theorem At.tell {L:List (Option Nat)} {x:Q} (h:At w B g p b L x):∃o L',w.cell? ⟨g,26,none⟩=some o/\w.frozen? ⟨g,26,none⟩=false/\At (w.setCell ⟨g,26,none⟩ nil) B g p b L' x.told/\Told L' B (w.setCell ⟨g,26,none⟩ nil) o x.out/\Step L L' w (w.setCell ⟨g,26,none⟩ nil):=by
 cases x with
 | live s=>
   obtain ⟨q,v,f,bd,t,o,rfl,h⟩:=h;have hg:(blks g q v f bd t o)[0]?=some (some g):=rfl
   have hne:o.ownBlock≠some g:=λe=>h.own.lone.ne (i:=0) (j:=6) rfl (by decide) (by rw [←e];rfl);have hsub:∀k,some k∈blks g q v f bd t nil->some k∈blks g q v f bd t o:=λk hk=>by exact XX5KD
   refine ⟨o,blks g q v f bd t nil,h.cs.c26,h.marks 26,⟨q,v,f,bd,t,nil,rfl,⟨row_setL h.row 26 nil,(h.own.less).set 26 nil⟩⟩,⟨Outs.less (h.own.O.keeps (Bp g 26 nil (CB.2 rfl)) (λk hk=>by simp only [CB] at hk;simp [hk]) (λk e hm=>hne (by rw [e,CB.1 hm]))) (λk hk=>.inl (hsub k hk)),λk e=>⟨λhm=>?_,?_⟩,λk e=>h.own.zone.off k (C8 (i:=6) (by rw [←e];rfl))⟩,⟨Bp g 26 nil (C8 hg),λk hk=>.inl (hsub k hk)⟩⟩
   ·exact XXTkD
   ·have:=h.own.in k (C8 (i:=6) (by rw [←e];rfl));simpa using this
 | dead e out=>
   obtain ⟨o,rfl,h⟩:=h;obtain ⟨ps, -, -,h3⟩:=h.O;refine ⟨o,[some g,none],row_cellL h.row rfl,CV h.row 26,⟨nil,rfl,h.put 26 nil nil [] rfl ⟨[],rfl,(by intro x hx;cases hx),FV _ _ _ _⟩ (by simp [Value.ownBlock]) (.inl rfl)⟩,⟨Outs.less (h.O.keeps (Bp g 26 nil (CB.2 rfl)) (λk hk=>by simp only [CB] at hk;simp [hk]) (λk e hm=>h.ne (by rw [e,CB.1 hm]))) (λk hk=>.inl (by simpa using Or.inl (by simpa using hk))),λk e=>⟨λhm=>?_,?_⟩,λk e=>h.zone.off k (by rw [←e];simp)⟩,⟨Bp g 26 nil (by simp),λk hk=>.inl (by simpa using Or.inl (by simpa using hk))⟩⟩
   ·rcases (by simpa using hm:k=g) with rfl;exact h.ne e
   ·have:=(FU h3 k e).2;simpa using this
theorem _root_.Go.Proofs.YtdfabddnpgjepaaGreatDoor.XX086 {P:Prop} (h:P:=by
 have:=congrArg List.length (congrArg List.flatten (List.take_append_drop (k+1) ls));rw [List.flatten_append,Cr] at this
 omega):P:=h
theorem _root_.Go.Proofs.YtdfabddnpgjepaaGreatDoor.XXMED {P:Prop} (h:P:=by
 go_wp2_with fail;go_roundw
 case rel=>exact ⟨k+1,by omega,by go_num,Bx ⟨Lq,HA2.out,HS2.out⟩⟩
 case measure=>simp [intOf];omega):P:=h
theorem feed_any (hp:p<4294967296) (x:Q) {L:List (Option Nat)} (h:At w B g p b L x) (ok:x.Ok b) (a:Option Addr) (ca:Nat) (ls:List (List UInt8)) (hl:Parts L w a ls) (hn:ls.length<=1000000) (hout:x.out.length+2*ls.flatten.length<=999999998) :
 Calls EW 17 #[ptr g,.slice a ls.length ca] w λr w'=>∃o L',r=.returned o/\At w' B g p b L' (x.feed p b ls.flatten).told/\Told L' B w' o (x.feed p b ls.flatten).out/\Step L L' w w':=by
 have H:=Bx h;have HL:=Bx hl;have HOK:=Bx ok;have HOU:=Bx hout;obtain ⟨n,hnn⟩:∃n,ls.length=n:=⟨_,rfl⟩;have HN:=Bx hnn;have hn1:n<=1000000:=by omega
 rw [hnn];clear h hl ok hout hn hnn;go_enter Tryz.func17,Tryz.ntmps17;go_upto_region 2 with fail
 go_loopw [12] (λi wr=>∃k:Nat,k<=n/\i=ZZ ZS k/\Hid (∃Lr,At wr B g p b Lr (x.feed p b (ls.take k).flatten)/\Step L Lr w wr)) (λi _=>n-(intOf i).toNat)
 case atStart=>exact ⟨0,Dj _,rfl,Bx ⟨L,H.out,Step.refl⟩⟩
 case round=>
  obtain ⟨k,hk,rfl,hR⟩:=hrel;rcases Dg k n with hlt | hge
  ·obtain ⟨Lr,hA,hS⟩:=hR.out;have hkl:k<ls.length:=by rw [HN.out];exact hlt
   obtain ⟨bk,off,rfl,hbk,hnb,hc⟩:=(HL.out.step hS).cells (by omega);obtain ⟨ak,ck,hcell,hB⟩:=hc k hkl;have htk:(ls.take (k+1)).flatten=(ls.take k).flatten++ls[k]:=by rw [CO hkl,List.flatten_append];simp
   have hsum:(ls.take (k+1)).flatten.length<=ls.flatten.length:=by exact XX086
   rw [htk,Cr] at hsum;have t1:(k:Int)<(n:Int):=by omega
   have HTK:=Bx htk;obtain ⟨pl,hpl⟩:∃pl,ls[k]=pl:=⟨_,rfl⟩;rw [hpl] at hcell hB hsum HTK;have hpb:pl.length<=1000000000:=by have:=HOU.out;omega
   obtain ⟨m,hm⟩:∃m,pl.length=m:=⟨_,rfl⟩;rw [hm] at hcell hpb hsum;have HM:=Bx hm;obtain ⟨X,hX⟩:∃X,x.feed p b (ls.take k).flatten=X:=⟨_,rfl⟩;have hXok:X.Ok b:=by rw [←hX];exact Q.Ok.feed _ HOK.out
   have hXo:X.out.length+2*m<=999999998:=by have:=Q.feed_out (p:=p) (b:=b) (ls.take k).flatten x;rw [hX] at this;have:=HOU.out;omega
   rw [hX] at hA;have HX:=Bx hX;have HXO:=Bx hXok;have HXL:=Bx hXo;have HA:=Bx hA;have HS:=Bx hS;have HB:=Bx hB;clear hA hS hB hX hXok hXo hsum htk hpl hm hc hR hnb hbk;go_upto_region 5 with fail
   clear hcell
   go_loopw [18] (λj wq=>∃i:Nat,i<=m/\j=ZZ ZS i/\Hid (∃Lq,At wq B g p b Lq (X.feed p b (pl.take i))/\Step Lr Lq wr wq)) (λj _=>m-(intOf j).toNat)
   case atStart=>exact ⟨0,Dj _,rfl,Bx ⟨Lr,HA.out,Step.refl⟩⟩
   case round=>
    obtain ⟨wC,hwC⟩:∃x,x=wr:=⟨_,rfl⟩;obtain ⟨i,hi,rfl,hR2⟩:=hrel;rcases Dg i m with hilt | hige
    ·obtain ⟨Lq,hA2,hS2⟩:=hR2.out;have hil:i<pl.length:=by rw [HM.out];exact hilt
     obtain ⟨zb,zo,rfl,hzb,hz⟩:=(HB.out.step hS2).nums.2 (by omega);have hcell:=hz i hil;have hti:pl.take (i+1)=pl.take i ++ [pl[i]]:=CO hil;have hgi:(pl.map λc=>(c.toNat:Int))[i]?.getD 0=(pl[i].toNat:Int):=by simp [hil]
     rw [hgi] at hcell;have HTI:=Bx hti;obtain ⟨c,hc⟩:∃c,pl[i]=c:=⟨_,rfl⟩;rw [hc] at hcell HTI;have t2:(i:Int)<(m:Int):=by omega
     have hok3:(X.feed p b (pl.take i)).Ok b:=Q.Ok.feed _ HXO.out;have hou3:(X.feed p b (pl.take i)).out.length<=999999998:=by have h1:=Q.feed_out (p:=p) (b:=b) (pl.take i) X;have h2:=HXL.out;rw [C0] at h1;omega
     have HTA:=Bx (take_any hp c _ hA2 hok3 hou3);have HS2:=Bx hS2;clear hA2 hS2 hz hzb hti hgi hc hok3 hou3 hR2
     go_wp2_with (go_at_call 71;with_reducible refine HTA.out.mono ?_;rintro r w5 ⟨rfl,L5,hA5,hS5⟩);go_roundw
     case rel=>exact ⟨i+1,by omega,by go_num,Bx ⟨L5,by rw [HTI.out,feed_app];exact hA5,HS2.out.trans hS5⟩⟩
     case measure=>simp [intOf];omega
    ·obtain rfl:i=m:=by omega
     have t2:¬(i:Int)<(i:Int):=by omega
     obtain ⟨Lq,hA2,hS2⟩:=hR2.out
     have e:pl.take i=pl:=CN (by rw [HM.out];exact Db _);rw [e,←HX.out,←feed_app,←HTK.out] at hA2
     have HA2:=Bx hA2;have HS2:=Bx (HS.out.trans hS2);clear hA2 hS2 e hR2;exact XXMED
  ·obtain rfl:k=n:=by omega
   have t1:¬(k:Int)<(k:Int):=by omega
   obtain ⟨Lr,hA,hS⟩:=hR.out
   have e:ls.take k=ls:=CN (by rw [HN.out];exact Db _);rw [e] at hA;obtain ⟨o,L2,c26,z26,hA2,hT2,hS2⟩:=hA.tell
   have HA2:=Bx hA2;have HT2:=Bx hT2;have HS2:=Bx (hS.trans hS2);clear hA hS hR e hA2 hT2 hS2;go_wp2_with fail;go_ret;exact ⟨o,rfl,L2,HA2.out,HT2.out,HS2.out⟩
theorem errq_any {L:List (Option Nat)} {x:Q} (h:At w B g p b L x):Calls EW 20 #[ptr g] w λr w'=>r=.returned (ZZ ZS (x.err:Int))/\w'=w:=by
 cases x with
 | live s=>
   obtain ⟨q,v,f,bd,t,o,rfl,h⟩:=h;exact err_any h.cs.c0
 | dead e out=>
   obtain ⟨o,rfl,h⟩:=h;exact err_any h.cell0
theorem cleanq_any {L:List (Option Nat)} {x:Q} (h:At w B g p b L x):Calls EW 25 #[ptr g] w λr w'=>r=.returned (ZW x.clean)/\w'=w:=by
 cases x with
 | live s=>
   obtain ⟨q,v,f,bd,t,o,rfl,h⟩:=h;exact clean_live h
 | dead e out=>
   obtain ⟨o,rfl,h⟩:=h
   exact clean_dead (row_cellL h.row rfl)
theorem PR.draft (h:PR w B g q v f bd t o p b s) (ok:s.Ok):Rec.Reads w (ZU #[ZY s.r.m,ZY s.r.x,ZZ ZS s.r.k,f,ZW s.r.ch,bd,t]) s.r/\Rec.Fit s.r:=by obtain ⟨A1,c1,e1,h1⟩:=Flds.of_own h.own.F;obtain ⟨A2,c2,e2,h2⟩:=Rec.nums_of_own h.own.D;obtain ⟨A3,c3,e3,h3⟩:=Flds.of_own h.own.TR;subst e1 e2 e3;have k1:=ok.fsl;have k2:=ok.tsl;have k3:=ok.hl;have k4:=ok.bl;have k5:=ok.body;have k6:=ok.m;have k7:=ok.x;exact ⟨⟨_,_,_,_,_,_,rfl,h1,h2,h3⟩,⟨by omega,by omega,by omega,λy hy=>by have:=ok.fss y hy;omega,by omega,by omega,λy hy=>by have:=ok.tss y hy;omega⟩⟩
theorem XXuaO {P:Prop} (h:P:=by
 go_enter Tryz.func21,Tryz.ntmps21
 go_wp2_with (go_at_call 74;with_reducible refine Cm HN.out ?_);go_ret
 exact ⟨rfl,An _ _⟩):P:=h
theorem waits_any {L:List (Option Nat)} {x:Q} (h:At w B g p b L x) (ok:x.Ok b):Calls EW 21 #[ptr g] w λr w'=>r=.returned (ZW x.waits)/\Below w.heap.size w w':=by
 cases x with
 | live s=>
   obtain ⟨q,v,f,bd,t,o,rfl,h⟩:=h;obtain ⟨ok, -⟩:s.Ok/\b.right=true:=ok;have hbl:=ok.body
   have HN0:=bodyIsNext_live h (by omega)
   have HD:=Bx (draft_any h)
   have HE:=Bx (λ(w2:World) (hb:Below w.heap.size w w2)=>Rec.expects_any _ s.r w2 (PR.draft (h.below hb) ok).1 (PR.draft (h.below hb) ok).2);show Calls _ _ _ _ λr w'=>r=.returned (ZW (s.next&&Rec.expects s.r))/\Below w.heap.size w w';clear h ok hbl;cases hx:s.next with
   | true=>
     rw [hx] at HN0;have HN:=Bx HN0;clear HN0 hx;generalize Rec.expects s.r=ex at *;go_enter Tryz.func21,Tryz.ntmps21
     go_wp2_with (first
      |(go_at_call 75;with_reducible refine (HE.out _ HB2.out).mono ?_;rintro r w4 ⟨rfl,hb4⟩)
      |(go_at_call 76;with_reducible refine HD.out.mono ?_;rintro r w3 ⟨rfl,hb3⟩
        have HB2:=Bx hb3;clear hb3)
      |(go_at_call 74;with_reducible refine Cm HN.out ?_))
     go_ret;exact ⟨by cases ex<;>rfl,Al HB2.out hb4⟩
   | false=>
     rw [hx] at HN0;have HN:=Bx HN0;clear HN0 hx HD HE;exact XXuaO
 | dead e out=>
   obtain ⟨o,rfl,h⟩:=h
   have HN:=Bx (bodyIsNext_dead (w:=w) (g:=g) (row_cellL h.row rfl));clear h ok;exact XXuaO
theorem size_small {r:D7} (h:Rec.Fit r):Rec.size r<=5000000000000:=by
 have h1:=h.m;have h2:=h.x;have h3:=h.body;have h4:=h.fs;have h5:=h.ts;have h6:=Rec.weigh_le r.fs 1000000 h.f;have h7:=Rec.weigh_le r.ts 1000000 h.t
 have h8:r.fs.length*(1000000+1000000)<=1000000000:=Dd (Nat.mul_le_mul_right _ h4) (by decide)
 have h9:r.ts.length*(1000000+1000000)<=1000000000:=Dd (Nat.mul_le_mul_right _ h5) (by decide);unfold Rec.size;omega
theorem held_any {L:List (Option Nat)} {x:Q} (h:At w B g p b L x) (ok:x.Ok b):Calls EW 23 #[ptr g] w λr w'=>r=.returned (ZZ ZS (x.held:Int))/\Below w.heap.size w w':=by
 cases x with
 | live s=>
   obtain ⟨q,v,f,bd,t,o,rfl,h⟩:=h;obtain ⟨ok, -⟩:s.Ok/\b.right=true:=ok
   have HF:=Bx (failed_live h.cs.c0);have c25:=h.cs.c25;have hll:s.rd.len<=4096:=by have h1:=ok.rd.len;have h2:=ok.rd.most;unfold Ln.M.len;split<;>omega
   have hsz:=size_small (PR.draft h ok).2
   have HL:=Bx (Ln.len_any h.own.R.row h.own.R.own)
   have HD:=Bx (draft_any h)
   have HE:=Bx (λ(w2:World) (hb:Below w.heap.size w w2)=>Rec.size_any _ s.r w2 (PR.draft (h.below hb) ok).1 (PR.draft (h.below hb) ok).2);obtain ⟨a1,a2⟩:=DD ((s.rd.len:Int)+(Rec.size s.r:Int)) ⟨by omega,by omega⟩;show Calls _ _ _ _ λr w'=>r=.returned (ZZ ZS ((s.rd.len+Rec.size s.r:Nat):Int))/\Below w.heap.size w w';clear h ok hll hsz;generalize s.rd.len=n1 at *;generalize Rec.size s.r=n2 at *;go_enter Tryz.func23,Tryz.ntmps23
   go_wp2_with (first
    |(go_at_call 80;with_reducible refine (HE.out _ HB2.out).mono ?_;rintro r w4 ⟨rfl,hb4⟩)
    |(go_at_call 76;with_reducible refine HD.out.mono ?_;rintro r w3 ⟨rfl,hb3⟩
      have HB2:=Bx hb3;clear hb3)
    |(go_at_call 79;with_reducible refine Cm HL.out ?_)
    |(go_at_call 78;with_reducible refine Cm HF.out ?_))
   go_ret;exact ⟨rfl,Al HB2.out hb4⟩
 | dead e out=>
   obtain ⟨o,rfl,h⟩:=h
   have HF:=Bx (failed_dead h.cell0 h.bad);clear h ok;go_enter Tryz.func23,Tryz.ntmps23
   go_wp2_with (go_at_call 78;with_reducible refine Cm HF.out ?_);go_ret;exact ⟨rfl,An _ _⟩
end
end Go.Proofs.YtdfabddnpgjepaaGreatDoor.Pg
namespace Go.Proofs.YtdfabddnpgjepaaGreatDoor.Pg
open Go.RowKit Base Txt Mem Par
section
set_option maxHeartbeats 4000000
set_option maxRecDepth 20000
attribute [local go_sem] Am
variable {w:World} {B:Zone} {g q:Nat} {v f bd t o:Value} {p:Nat} {b:Bd} {s:T}
theorem enter_new (hp:p<4294967296) (hz:B.z= []) (hrow:w.heap[g]?=some (.cells ([ZZ ZS 0,ZZ ZS 0,nil,ZY E0,ZY E0,ZZ ZS 0,ZZ ZS 0,ZW false,ZZ ZS 0,nil,ZW false,nil,ZZ ZS 0,ZZ ZQ (p:Int),ZZ ZS b.x0,ZZ ZS b.x1,ZZ ZS b.x2,ZZ ZS b.x3,ZZ ZS b.x4,ZZ ZS b.x5,ZZ ZS b.x6,ZZ ZS b.x7,ZW b.ch,ZW b.od,ZZ ZS 0,ZV none,nil]:List Value).toArray 55 (0,0))) (hB:B<=g):Calls EW 68 #[ptr g,ZZ ZS 1,ZZ ZS b.x0] w λr w'=>
 r=.returned (ZT #[])/\∃q1,PR w' B g q1 nil nil nil nil nil p b (T.new p b)/\Keeps [some g] w w':=by
 have hlt:=Ln.row_lt hrow
 have HR1:=Bx (row_setL hrow 24 (ZZ ZS 1))
 have HK1:=Bx (Bp (w:=w) (L:= [some g]) g 24 (ZZ ZS 1) (by simp))
 have HLT:=Bx (show g<(w.setCell ⟨g,24,none⟩ (ZZ ZS 1)).heap.size by simpa using hlt);have HB:=Bx hB;have c24:=row_cellL hrow (k:=24) rfl;have z24:=CV hrow 24;clear hrow hB hlt;go_enter Tryz.func68,Tryz.ntmps68;go_upto_region 1 with fail
 generalize w.setCell ⟨g,24,none⟩ (ZZ ZS 1)=W1 at *;clear c24 z24;have c13:W1.cell? ⟨g,13,none⟩=some (ZZ ZQ (p:Int)):=row_cellL HR1.out (k:=13) rfl
 have HNL:=Bx (line_new hp B b.x0 W1 (Dd HB.out (Da HLT.out)));go_wp2_with
  (go_at_call 112;with_reducible refine HNL.out.mono ?_;rintro r w8 ⟨q1,rfl,hq1,hr1,hb8⟩
   have hrow8:=(hb8.block g HLT.out).trans HR1.out;have d25:=row_cellL hrow8 (k:=25) rfl;have y25:=CV hrow8 25;have HR8:=Bx hrow8;have HD8:=Bx hr1;have HQ8:=Bx hq1;have HB8:=Bx hb8;clear hb8 hr1 hq1 hrow8)
 go_end0;have hgq:g≠q1:=by have:=HLT.out;have:=HQ8.out;omega
 have hk:Keeps [some g] w8 (w8.setCell ⟨g,25,none⟩ (ptr q1)):=Bp g 25 _ (by simp);refine ⟨rfl,q1,⟨row_setL HR8.out 25 (ptr q1),⟨⟨hk.row HD8.out.row (by simpa using λe=>hgq e.symm),hk.own HD8.out.own (by simp [Value.ownBlock]),HD8.out.ge,HD8.out.ne⟩,FV _ _ _ _,FV _ _ _ _,FV _ _ _ _,⟨[],rfl,(by intro x hx;cases hx),FV _ _ _ _⟩,?_,HB.out,by have:=HLT.out;have:=HB8.out.size;simp;omega,by rw [hz];exact Clear.nil⟩⟩,(HK1.out.trans (Bo HB8.out) Dq).trans hk Dq⟩;intro i j k hi hj;rcases i with _ | _ | _ | _ | _ | _ | _ | i<;>rcases j with _ | _ | _ | _ | _ | _ | _ | j<;>simp [Value.ownBlock] at hi hj ⊢<;>omega
theorem T.new_ok (p:Nat) (b:Bd):(T.new p b).Ok:=
 ⟨Ln.M.new_ok _ _ _ (Ln.mid_le _),rfl,⟨Db _,by show 1<=7;omega⟩,Dj _,Dj _,Db _,Db _,(by intro y hy;cases hy),(by intro y hy;cases hy),Dj _,Dj _,Dj _,λh=>(by cases h),λ_=>rfl,Dj _⟩
theorem Q.new_ok (p:Nat) (b:Bd):(Q.new p b).Ok b:=by
 unfold Q.new;split
 ·rename_i h;simp only [Ao] at h;exact ⟨T.new_ok p b,h.1⟩
 ·trivial
theorem dead_new {W:World} (hz:B.z= []) (hrow:W.heap[g]?=some (.cells ([ZZ ZS 20,ZZ ZS 0,nil,ZY E0,ZY E0,ZZ ZS 0,ZZ ZS 0,ZW false,ZZ ZS 0,nil,ZW false,nil,ZZ ZS 0,ZZ ZQ 0,ZZ ZS 0,ZZ ZS 0,ZZ ZS 0,ZZ ZS 0,ZZ ZS 0,ZZ ZS 0,ZZ ZS 0,ZZ ZS 0,ZW false,ZW false,ZZ ZS 0,ZV none,nil]:List Value).toArray 55 (0,0))) (hB:B<=g):At W B g p b [some g,none] (.dead 20 []):=
 ⟨nil,rfl,⟨hrow,⟨[],rfl,(by intro x hx;cases hx),FV _ _ _ _⟩,by simp [Value.ownBlock],hB,Ln.row_lt hrow,by decide,by rw [hz];exact Clear.nil⟩⟩
theorem new_any (hp:p<4294967296) (w:World):Calls EW 15 #[ZZ ZQ (p:Int),ZU #[ZZ ZS b.x0,ZZ ZS b.x1,ZZ ZS b.x2,ZZ ZS b.x3,ZZ ZS b.x4,ZZ ZS b.x5,ZZ ZS b.x6,ZZ ZS b.x7,ZW b.ch,ZW b.od]] w λr w'=>
 ∃g L',r=.returned (ptr g)/\w.heap.size<=g/\At w' ⟨w.heap.size,[]⟩ g p b L' (Q.new p b)/\Below w.heap.size w w':=by
 have hqr:=λw=>Qk.right_any p hp w;have hbr:=λw=>Bnd.right_any b.x0 b.x1 b.x2 b.x3 b.x4 b.x5 b.x6 b.x7 b.ch b.od w
 have HB0:=Bx (((An _ _).alloc (Db _) (.cells #[ZZ ZS b.x0,ZZ ZS b.x1,ZZ ZS b.x2,ZZ ZS b.x3,ZZ ZS b.x4,ZZ ZS b.x5,ZZ ZS b.x6,ZZ ZS b.x7,ZW b.ch,ZW b.od] 29)):Below w.heap.size w _)
 have HZ0:=Bx (D6 w w.heap.size rfl 29 [ZZ ZS b.x0,ZZ ZS b.x1,ZZ ZS b.x2,ZZ ZS b.x3,ZZ ZS b.x4,ZZ ZS b.x5,ZZ ZS b.x6,ZZ ZS b.x7,ZW b.ch,ZW b.od])
 have HSZ:=Bx (show w.heap.size<(w.alloc (.cells #[ZZ ZS b.x0,ZZ ZS b.x1,ZZ ZS b.x2,ZZ ZS b.x3,ZZ ZS b.x4,ZZ ZS b.x5,ZZ ZS b.x6,ZZ ZS b.x7,ZW b.ch,ZW b.od] 29)).heap.size by simp);unfold Q.new;by_cases hP:p<1073741824
 ·rw [decide_eq_true hP] at hqr ⊢;rw [Bool.and_true];have HQR:=Bx hqr;unfold Bd.right;cases hb:Bnd.right b.x0 b.x1 b.x2 b.x3 b.x4 b.x5 b.x6 b.x7 with
  | true=>
    rw [hb] at hbr;have HBR:=Bx hbr;rw [if_pos rfl];clear hqr hbr hb hP;go_enter Tryz.func15,Tryz.ntmps15;go_upto_region 1 with fail
    generalize w.alloc (.cells #[ZZ ZS b.x0,ZZ ZS b.x1,ZZ ZS b.x2,ZZ ZS b.x3,ZZ ZS b.x4,ZZ ZS b.x5,ZZ ZS b.x6,ZZ ZS b.x7,ZW b.ch,ZW b.od] 29)=W0 at *;have y0:=HZ0.out.c 0 _ rfl;have y1:=HZ0.out.c 1 _ rfl;have y2:=HZ0.out.c 2 _ rfl;have y3:=HZ0.out.c 3 _ rfl;have y4:=HZ0.out.c 4 _ rfl;have y5:=HZ0.out.c 5 _ rfl;have y6:=HZ0.out.c 6 _ rfl;have y7:=HZ0.out.c 7 _ rfl;have y8:=HZ0.out.c 8 _ rfl;have y9:=HZ0.out.c 9 _ rfl
    go_upto_region 4 with (first
     |(go_at_call 67;with_reducible refine (HBR.out _).mono ?_;rintro r w3 ⟨rfl,hb3⟩
       have HB3:=Bx hb3;have HZ3:=Bx (HZ0.out.below hb3);have x0:=HZ3.out.c 0 _ rfl;have x1:=HZ3.out.c 1 _ rfl;have x2:=HZ3.out.c 2 _ rfl;have x3:=HZ3.out.c 3 _ rfl;have x4:=HZ3.out.c 4 _ rfl;have x5:=HZ3.out.c 5 _ rfl;have x6:=HZ3.out.c 6 _ rfl;have x7:=HZ3.out.c 7 _ rfl;have x8:=HZ3.out.c 8 _ rfl;have x9:=HZ3.out.c 9 _ rfl;clear hb3)
     |(go_at_call 66;with_reducible refine Cm (HQR.out _) ?_))
    have HB4:=Bx (Al HB0.out HB3.out)
    have HR4:=Bx (heap_alloc_new w3 (.cells ([ZZ ZS 0,ZZ ZS 0,nil,ZY E0,ZY E0,ZZ ZS 0,ZZ ZS 0,ZW false,ZZ ZS 0,nil,ZW false,nil,ZZ ZS 0,ZZ ZQ (p:Int),ZZ ZS b.x0,ZZ ZS b.x1,ZZ ZS b.x2,ZZ ZS b.x3,ZZ ZS b.x4,ZZ ZS b.x5,ZZ ZS b.x6,ZZ ZS b.x7,ZW b.ch,ZW b.od,ZZ ZS 0,ZV none,nil]:List Value).toArray 55))
    have HG:=Bx (show w.heap.size<=w3.heap.size from Dd (Da HSZ.out) HB3.out.size)
    have HBW:=Bx (HB4.out.alloc HG.out (.cells ([ZZ ZS 0,ZZ ZS 0,nil,ZY E0,ZY E0,ZZ ZS 0,ZZ ZS 0,ZW false,ZZ ZS 0,nil,ZW false,nil,ZZ ZS 0,ZZ ZQ (p:Int),ZZ ZS b.x0,ZZ ZS b.x1,ZZ ZS b.x2,ZZ ZS b.x3,ZZ ZS b.x4,ZZ ZS b.x5,ZZ ZS b.x6,ZZ ZS b.x7,ZW b.ch,ZW b.od,ZZ ZS 0,ZV none,nil]:List Value).toArray 55))
    have HX4:=Bx ((HZ3.out.alloc (.cells ([ZZ ZS 0,ZZ ZS 0,nil,ZY E0,ZY E0,ZZ ZS 0,ZZ ZS 0,ZW false,ZZ ZS 0,nil,ZW false,nil,ZZ ZS 0,ZZ ZQ (p:Int),ZZ ZS b.x0,ZZ ZS b.x1,ZZ ZS b.x2,ZZ ZS b.x3,ZZ ZS b.x4,ZZ ZS b.x5,ZZ ZS b.x6,ZZ ZS b.x7,ZW b.ch,ZW b.od,ZZ ZS 0,ZV none,nil]:List Value).toArray 55)).c 0 _ rfl)
    have HE:=Bx (enter_new (B:=⟨w.heap.size,[]⟩) hp rfl HR4.out HG.out);clear y0 y1 y2 y3 y4 y5 y6 y7 y8 y9 x0 x1 x2 x3 x4 x5 x6 x7 x8 x9 HR4;have x0:=HX4.out
    go_wp2_with (go_at_call 68;with_reducible refine HE.out.mono ?_;rintro r w5 ⟨rfl,q1,hP,hK⟩);go_ret;exact ⟨_,_,rfl,HG.out,⟨_,_,_,_,_,_,rfl,hP⟩,HBW.out.trans (hK.below HBW.out.size (λk hk=>by rw [Du.inj (CB.1 hk)];exact HG.out))⟩
  | false=>
    rw [hb] at hbr;have HBR:=Bx hbr;rw [if_neg (by decide)];clear hqr hbr hb hP;go_enter Tryz.func15,Tryz.ntmps15;go_upto_region 1 with fail
    generalize w.alloc (.cells #[ZZ ZS b.x0,ZZ ZS b.x1,ZZ ZS b.x2,ZZ ZS b.x3,ZZ ZS b.x4,ZZ ZS b.x5,ZZ ZS b.x6,ZZ ZS b.x7,ZW b.ch,ZW b.od] 29)=W0 at *;have y0:=HZ0.out.c 0 _ rfl;have y1:=HZ0.out.c 1 _ rfl;have y2:=HZ0.out.c 2 _ rfl;have y3:=HZ0.out.c 3 _ rfl;have y4:=HZ0.out.c 4 _ rfl;have y5:=HZ0.out.c 5 _ rfl;have y6:=HZ0.out.c 6 _ rfl;have y7:=HZ0.out.c 7 _ rfl;have y8:=HZ0.out.c 8 _ rfl;have y9:=HZ0.out.c 9 _ rfl
    go_wp2_with (first
     |(go_at_call 67;with_reducible refine (HBR.out _).mono ?_;rintro r w3 ⟨rfl,hb3⟩
       have HB3:=Bx hb3;clear hb3)
     |(go_at_call 66;with_reducible refine Cm (HQR.out _) ?_))
    go_ret;have hg:=Dd (Da HSZ.out) HB3.out.size;exact ⟨_,_,rfl,hg,dead_new (B:=⟨w.heap.size,[]⟩) rfl (heap_alloc_new w3 (.cells ([ZZ ZS 20,ZZ ZS 0,nil,ZY E0,ZY E0,ZZ ZS 0,ZZ ZS 0,ZW false,ZZ ZS 0,nil,ZW false,nil,ZZ ZS 0,ZZ ZQ 0,ZZ ZS 0,ZZ ZS 0,ZZ ZS 0,ZZ ZS 0,ZZ ZS 0,ZZ ZS 0,ZZ ZS 0,ZZ ZS 0,ZW false,ZW false,ZZ ZS 0,ZV none,nil]:List Value).toArray 55)) hg,(Al HB0.out HB3.out).alloc hg _⟩
 ·rw [decide_eq_false hP] at hqr ⊢;rw [Bool.and_false,if_neg (by decide)];have HQR:=Bx hqr;clear hqr hbr hP;go_enter Tryz.func15,Tryz.ntmps15;go_upto_region 1 with fail
  generalize w.alloc (.cells #[ZZ ZS b.x0,ZZ ZS b.x1,ZZ ZS b.x2,ZZ ZS b.x3,ZZ ZS b.x4,ZZ ZS b.x5,ZZ ZS b.x6,ZZ ZS b.x7,ZW b.ch,ZW b.od] 29)=W0 at *
  go_wp2_with (go_at_call 66;with_reducible refine Cm (HQR.out _) ?_);go_ret;have hg:=Da HSZ.out;exact ⟨_,_,rfl,hg,dead_new (B:=⟨w.heap.size,[]⟩) rfl (heap_alloc_new W0 (.cells ([ZZ ZS 20,ZZ ZS 0,nil,ZY E0,ZY E0,ZZ ZS 0,ZZ ZS 0,ZW false,ZZ ZS 0,nil,ZW false,nil,ZZ ZS 0,ZZ ZQ 0,ZZ ZS 0,ZZ ZS 0,ZZ ZS 0,ZZ ZS 0,ZZ ZS 0,ZZ ZS 0,ZZ ZS 0,ZZ ZS 0,ZW false,ZW false,ZZ ZS 0,ZV none,nil]:List Value).toArray 55)) hg,HB0.out.alloc hg _⟩
end
end Go.Proofs.YtdfabddnpgjepaaGreatDoor.Pg
namespace Go.Proofs.YtdfabddnpgjepaaGreatDoor.Pg
open Go.RowKit Base Txt Mem Par
theorem told_err (x:Q):x.told.err=x.err:=by cases x<;>rfl
theorem told_clean (x:Q):x.told.clean=x.clean:=by cases x<;>rfl
theorem told_waits (x:Q):x.told.waits=x.waits:=by cases x<;>rfl
theorem told_held (x:Q):x.told.held=x.held:=by cases x<;>rfl
theorem told_ok {b:Bd} {x:Q} (h:x.Ok b):x.told.Ok b:=by
 cases x with
 | live t=>exact ⟨⟨h.1.rd,h.1.nf,h.1.st,h.1.hl,h.1.bl,h.1.fsl,h.1.tsl,h.1.fss,h.1.tss,h.1.m,h.1.x,h.1.body,h.1.left,h.1.early,h.1.size⟩,h.2⟩
 | dead e o=>trivial
theorem told_out (x:Q):x.told.out= []:=by cases x<;>rfl
theorem Parts.one {L:List (Option Nat)} {w:World} {a:Option Addr} {c:Nat} {l:List UInt8} (h:Bts L w a l) (hin:In w L) (ty:TypeId):Parts L (w.alloc (.cells #[.slice a l.length c] ty)) (some ⟨w.heap.size,0,none⟩) [l]:=by
 have hb:Below w.heap.size w (w.alloc (.cells #[.slice a l.length c] ty)):=(An _ _).alloc (Db _) _;refine ⟨λ_=>⟨w.heap.size,0,rfl,by simp,λhm=>by have:=hin _ hm;omega,λk hk=>?_⟩⟩;have hk:k<1:=hk;obtain rfl:k=0:=by omega
 refine ⟨a,c,?_,?_⟩
 ·have:=cell_of_row (w.alloc (.cells #[.slice a l.length c] ty)) w.heap.size 0 _ ty (0,0) (heap_alloc_new w _);exact this.trans rfl
 ·exact h.step (DP hb)
section
set_option maxHeartbeats 4000000
set_option maxRecDepth 20000
attribute [local go_sem] Am
variable {w:World} {B:Zone} {g q:Nat} {v f bd t o:Value} {p:Nat} {b:Bd} {s:T}
theorem read_any (hp:p<4294967296) (w:World) (a:Option Addr) (c:Nat) (l:List UInt8) (hl:Bts [] w a l) (hn:l.length<=400000000):Calls EW 63 #[ZZ ZQ (p:Int),ZU #[ZZ ZS b.x0,ZZ ZS b.x1,ZZ ZS b.x2,ZZ ZS b.x3,ZZ ZS b.x4,ZZ ZS b.x5,ZZ ZS b.x6,ZZ ZS b.x7,ZW b.ch,ZW b.od],.slice a l.length c] w λr w'=>
 ∃o L B0,r=.returned (ZT #[o,ZZ ZS ((Q.read p b l).err:Int),ZW (Q.read p b l).clean])/\Told L B0 w' o (Q.read p b l).out/\Below w.heap.size w w':=by
 have HB0:=Bx (((An _ _).alloc (Db _) (.cells #[ZZ ZS b.x0,ZZ ZS b.x1,ZZ ZS b.x2,ZZ ZS b.x3,ZZ ZS b.x4,ZZ ZS b.x5,ZZ ZS b.x6,ZZ ZS b.x7,ZW b.ch,ZW b.od] 29)):Below w.heap.size w _)
 have HZ0:=Bx (D6 w w.heap.size rfl 29 [ZZ ZS b.x0,ZZ ZS b.x1,ZZ ZS b.x2,ZZ ZS b.x3,ZZ ZS b.x4,ZZ ZS b.x5,ZZ ZS b.x6,ZZ ZS b.x7,ZW b.ch,ZW b.od])
 have HSZ:=Bx (show w.heap.size<(w.alloc (.cells #[ZZ ZS b.x0,ZZ ZS b.x1,ZZ ZS b.x2,ZZ ZS b.x3,ZZ ZS b.x4,ZZ ZS b.x5,ZZ ZS b.x6,ZZ ZS b.x7,ZW b.ch,ZW b.od] 29)).heap.size by simp);have HL:=Bx hl;have HN:=Bx hn;unfold Q.read;obtain ⟨X,hX⟩:∃X,Q.feed p b (Q.new p b) l=X:=⟨_,rfl⟩;rw [hX];have HX:=Bx hX;obtain ⟨m,hm⟩:∃m,l.length=m:=⟨_,rfl⟩;have HM:=Bx hm;rw [hm];clear hl hn hm hX;go_enter Tryz.func63,Tryz.ntmps63;go_upto_region 1 with fail
 generalize w.alloc (.cells #[ZZ ZS b.x0,ZZ ZS b.x1,ZZ ZS b.x2,ZZ ZS b.x3,ZZ ZS b.x4,ZZ ZS b.x5,ZZ ZS b.x6,ZZ ZS b.x7,ZW b.ch,ZW b.od] 29)=W0 at *;have y0:=HZ0.out.c 0 _ rfl;have y1:=HZ0.out.c 1 _ rfl;have y2:=HZ0.out.c 2 _ rfl;have y3:=HZ0.out.c 3 _ rfl;have y4:=HZ0.out.c 4 _ rfl;have y5:=HZ0.out.c 5 _ rfl;have y6:=HZ0.out.c 6 _ rfl;have y7:=HZ0.out.c 7 _ rfl;have y8:=HZ0.out.c 8 _ rfl;have y9:=HZ0.out.c 9 _ rfl
 have HNW:=Bx (new_any (b:=b) hp W0);go_upto_region 2 with
  (go_at_call 15;with_reducible refine HNW.out.mono ?_;rintro r w1 ⟨g,L1,rfl,hg,hA,hb1⟩
   have HG:=Bx hg;have HA:=Bx hA;have HB1:=Bx hb1;clear hg hA hb1)
 have hlow:=HA.out.low;have hlA:Bts L1 w1 a l:=by refine ⟨HL.out.nums.below (Al HB0.out HB1.out),λad e=>?_⟩;have:=(HL.out.far ad e).2;refine ⟨λhm=>?_,Df this (Dd (Da HSZ.out) HB1.out.size)⟩;have:W0.heap.size<=ad.block:=hlow _ hm;have:=HSZ.out;omega
 have hpa:=Parts.one (c:=c) hlA HA.out.in 22;rw [HM.out] at hpa;have hb2:Below w1.heap.size w1 (w1.alloc (.cells #[.slice a m c] 22)):=(An _ _).alloc (Db _) _
 have hfe:=feed_any hp _ (HA.out.below hb2) (Q.new_ok p b) (some ⟨w1.heap.size,0,none⟩) 1 [l] hpa (by simp) (by
  have h1:(Q.new p b).out.length=0:=by unfold Q.new;split<;>rfl
  have h2:=HN.out;rw [h1];simp only [List.flatten_cons,List.flatten_nil,BH];omega)
 have efl: [l].flatten=l:=by simp
 rw [efl] at hfe
 have HFE:=Bx (show Calls EW 17 #[ptr g,ZX (some ⟨w1.heap.size,0,none⟩) 1 1] (w1.alloc (.cells #[.slice a m c] 22)) λr w'=>∃o L',r=.returned o/\At w' ⟨W0.heap.size,[]⟩ g p b L' (Q.feed p b (Q.new p b) l).told/\Told L' ⟨W0.heap.size,[]⟩ w' o (Q.feed p b (Q.new p b) l).out/\Step L1 L' (w1.alloc (.cells #[.slice a m c] 22)) w' from hfe);have HLOW:=Bx hlow
 have HB2:=Bx (Al (Al HB0.out HB1.out) hb2);rw [HX.out] at HFE;clear hlA hpa hb2 hfe efl hlow y0 y1 y2 y3 y4 y5 y6 y7 y8 y9
 go_wp2_with (first
  |(go_at_call 25;with_reducible refine Cm HC.out ?_)
  |(go_at_call 20;with_reducible refine Cm HE.out ?_)
  |(go_at_call 17;with_reducible refine HFE.out.mono ?_;rintro r w3 ⟨o,L',rfl,hA3,hT3,hS3⟩
    have HE:=Bx (errq_any hA3);have HC:=Bx (cleanq_any hA3);rw [told_err] at HE;rw [told_clean] at HC;have HT3:=Bx hT3;have HS3:=Bx hS3;clear hA3 hT3 hS3))
 refine bodyPost_ret (v:=ZT #[o,ZZ ZS (X.err:Int),ZW X.clean]) (by simp [results,Tryz.results63,go_sem]) rfl ?_;refine ⟨_,_,_,rfl,HT3.out,HB2.out.trans (HS3.out.keeps.below HB2.out.size (λk hk=>?_))⟩;have:=HLOW.out k hk;have:=HSZ.out;omega
end
theorem flat_at:∀(ps:List (Array Value × D7)),(∀x∈ps,x.1.size=7)->∀k (hk:k<ps.length) j,j<7->(ps.flatMap (·.1.toList))[k*7+j]?=ps[k].1.toList[j]?
 | [],_,k,hk,_,_=>by cases hk
 | x::ps,h,0,_,j,hj=>by
   have hx:x.1.toList.length=7:=by simpa using h x (by simp)
   rw [List.flatMap_cons,List.getElem?_append_left (by omega),Nat.zero_mul,Di];rfl
 | x::ps,h,k+1,hk,j,hj=>by
   have hx:x.1.toList.length=7:=by simpa using h x (by simp)
   rw [List.flatMap_cons,List.getElem?_append_right (by omega),hx,show (k+1)*7+j-7=k*7+j by omega];exact flat_at ps (λy hy=>h y (by simp [hy])) k (by simpa using hk) j hj
theorem Told.at {L:List (Option Nat)} {B:Zone} {w:World} {o:Value} {out:List D7} (h:Told L B w o out):∃a c,o=.slice a out.length c/\(0<out.length->∃bk,a=some ⟨bk,0,none⟩/\bk<w.heap.size/\
 ∀k (hk:k<out.length),∃fa fc ba bc ta tc,Flds w fa out[k].fs.length out[k].fs/\Nums .u8 w ba out[k].body.length (out[k].body.map λc=>(c.toNat:Int))/\Flds w ta out[k].ts.length out[k].ts/\
  w.cell? ⟨bk,k*7,none⟩=some (ZY out[k].m)/\w.cell? ⟨bk,k*7+1,none⟩=some (ZY out[k].x)/\w.cell? ⟨bk,k*7+2,none⟩=some (ZZ ZS out[k].k)/\w.cell? ⟨bk,k*7+3,none⟩=some (.slice fa out[k].fs.length fc)/\
  w.cell? ⟨bk,k*7+4,none⟩=some (ZW out[k].ch)/\w.cell? ⟨bk,k*7+5,none⟩=some (.slice ba out[k].body.length bc)/\w.cell? ⟨bk,k*7+6,none⟩=some (.slice ta out[k].ts.length tc)):=by
 obtain ⟨ps,h1,h2,h3⟩:=h.outs;obtain ⟨a,c,e, -⟩:=CT h3;subst e;refine ⟨a,c,rfl,λh0=>?_⟩;obtain ⟨bk,cf,hform, -,hlt⟩:=h3.form h0;simp only [Value.slice.injEq,true_and] at hform;obtain ⟨rfl,rfl⟩:=hform;refine ⟨bk,rfl,hlt,λk hk=>?_⟩;have hkp:k<ps.length:=by rw [←h1,Cw] at hk;exact hk
 have hr:out[k]=ps[k].2:=by simp [←h1]
 obtain ⟨h7,hF⟩:=h2 ps[k] (Ci hkp);obtain ⟨fa,fc,ba,bc,ta,tc,hV,f1,f2,f3⟩:=hF.reads;have hcs:ps[k].1= #[ZY ps[k].2.m,ZY ps[k].2.x,ZZ ZS ps[k].2.k,.slice fa ps[k].2.fs.length fc,ZW ps[k].2.ch,.slice ba ps[k].2.body.length bc,.slice ta ps[k].2.ts.length tc]:=by injection hV
 have key:∀j,j<7->w.cell? ⟨bk,k*7+j,none⟩=ps[k].1.toList[j]?:=by
  intro j hj
  have hc:=h3.cellAt (k*7+j) (by omega);have e:(ps.flatMap (·.1.toList))[k*7+j]?=ps[k].1.toList[j]?:=flat_at ps (λx hx=>(h2 x hx).1) k hkp j hj;exact hc.trans e
 rw [hr];rw [hcs] at key;exact ⟨fa,fc,ba,bc,ta,tc,f1,f2,f3,key 0 (by decide),key 1 (by decide),key 2 (by decide),key 3 (by decide),key 4 (by decide),key 5 (by decide),key 6 (by decide)⟩
end Go.Proofs.YtdfabddnpgjepaaGreatDoor.Pg
namespace Go.Proofs.YtdfabddnpgjepaaGreatDoor.By
open Go.RowKit Base
def Bytes (w:World) (g:Nat) (l:List UInt8):Prop:=∀j (h:j<l.length),w.cell? ⟨g,j,none⟩=some (ZZ ZR (l[j].toNat:Int))/\w.frozen? ⟨g,j,none⟩=false
theorem _root_.Go.Proofs.YtdfabddnpgjepaaGreatDoor.XXLUf {P:Prop} (h:P:=by
 have hcv:=run_bytes_of_string (P:=EW) w 9 22 5 s F8 F0 F7;refine ⟨_,_,hcv,λj hj=>?_,by simp,(An _ _).drew.alloc (Db _) _⟩;have hj':j<s.data.size:=by simpa using hj
 refine ⟨(World.cell?_alloc_mark w.drew _ _ _ j).trans (bytesRow_at s _ j hj'),(World.frozen?_alloc_mark w.drew _ _ _ _ j).trans ?_⟩;have:¬(bytesRow s (grownCap w s.size 0 5)).size<=j:=by unfold bytesRow;rw [Array.size_append,Array.size_map];omega
 simp [this]):P:=h
theorem conv_bytes (s:ByteArray) (w:World):∃W cap,(convert 9 22 (ZY s)).run EW w=.ok (ZX (some ⟨w.heap.size,0,none⟩) s.size cap) W/\Bytes W w.heap.size s.data.toList/\w.heap.size<W.heap.size/\Below w.heap.size w W:=by exact XXLUf
end Go.Proofs.YtdfabddnpgjepaaGreatDoor.By
namespace Go.Proofs.YtdfabddnpgjepaaGreatDoor.Pg
open Go.RowKit Base Txt Mem Par
abbrev usual:Bd:=⟨1024,32,8192,65536,32,8,4,20,true,true⟩
abbrev bdV (b:Bd):Value:=ZU #[ZZ ZS b.x0,ZZ ZS b.x1,ZZ ZS b.x2,ZZ ZS b.x3,ZZ ZS b.x4,ZZ ZS b.x5,ZZ ZS b.x6,ZZ ZS b.x7,ZW b.ch,ZW b.od]
def RecAt (w:World) (bk j:Nat) (r:D7):Prop:=∃fa fc ba bc ta tc,Flds w fa r.fs.length r.fs/\Nums .u8 w ba r.body.length (r.body.map λc=>(c.toNat:Int))/\Flds w ta r.ts.length r.ts/\
 w.cell? ⟨bk,j,none⟩=some (ZY r.m)/\w.cell? ⟨bk,j+1,none⟩=some (ZY r.x)/\w.cell? ⟨bk,j+2,none⟩=some (ZZ ZS r.k)/\w.cell? ⟨bk,j+3,none⟩=some (.slice fa r.fs.length fc)/\
 w.cell? ⟨bk,j+4,none⟩=some (ZW r.ch)/\w.cell? ⟨bk,j+5,none⟩=some (.slice ba r.body.length bc)/\w.cell? ⟨bk,j+6,none⟩=some (.slice ta r.ts.length tc)
def Said (w:World) (o:Value) (out:List D7):Prop:=∃a c,o=.slice a out.length c/\(0<out.length->∃bk,a=some ⟨bk,0,none⟩/\bk<w.heap.size/\∀k (hk:k<out.length),RecAt w bk (k*7) out[k])
theorem Told.said {L:List (Option Nat)} {B:Zone} {w:World} {o:Value} {out:List D7} (h:Told L B w o out):Said w o out:=h.at
theorem RecAt.below {w w':World} {bk j:Nat} {r:D7} (h:RecAt w bk j r) (hlt:bk<w.heap.size) (hb:Below w.heap.size w w'):RecAt w' bk j r:=by obtain ⟨fa,fc,ba,bc,ta,tc,f1,f2,f3,c0,c1,c2,c3,c4,c5,c6⟩:=h;exact ⟨fa,fc,ba,bc,ta,tc,f1.below hb,f2.below hb,f3.below hb,(hb.cell (p:=⟨bk,j,none⟩) hlt).trans c0,(hb.cell (p:=⟨bk,j+1,none⟩) hlt).trans c1,(hb.cell (p:=⟨bk,j+2,none⟩) hlt).trans c2,(hb.cell (p:=⟨bk,j+3,none⟩) hlt).trans c3,(hb.cell (p:=⟨bk,j+4,none⟩) hlt).trans c4,(hb.cell (p:=⟨bk,j+5,none⟩) hlt).trans c5,(hb.cell (p:=⟨bk,j+6,none⟩) hlt).trans c6⟩
theorem Said.below {w w':World} {o:Value} {out:List D7} (h:Said w o out) (hb:Below w.heap.size w w'):Said w' o out:=by obtain ⟨a,c,e,hc⟩:=h;refine ⟨a,c,e,λh0=>?_⟩;obtain ⟨bk,e1,hlt,h1⟩:=hc h0;exact ⟨bk,e1,Df hlt hb.size,λk hk=>(h1 k hk).below hlt hb⟩
abbrev bytesV (l:List UInt8):Array Value:=(l.map λc=>Value.int .u8 (c.toNat:Int)).toArray
theorem Bts.lit {L:List (Option Nat)} {w:World} (hin:In w L) (l:List UInt8) (V:Array Value) (hV:V=bytesV l) (ty:TypeId) (fr:Nat × Nat):Bts L (w.alloc (.cells V ty fr)) (some ⟨w.heap.size,0,none⟩) l:=by
 subst hV;refine ⟨⟨by simp,λh0=>⟨w.heap.size,0,rfl,by simp,λk hk=>?_⟩⟩,λad e=>?_⟩
 ·rw [Di,cell_of_row _ _ k _ ty fr (heap_alloc_new _ _)];simp [bytesV,hk]
 ·obtain rfl:ad=⟨w.heap.size,0,none⟩:=by simpa using e.symm
  exact ⟨λhm=>by have:w.heap.size<w.heap.size:=hin _ hm;omega,by simp⟩
theorem Bts.alloc {L:List (Option Nat)} {w:World} {a:Option Addr} {l:List UInt8} (h:Bts L w a l) (o:Obj):Bts L (w.alloc o) a l:=h.step (DP ((An _ _).alloc (Db _) _))
theorem Parts.two {L:List (Option Nat)} {w:World} {a a':Option Addr} {c c':Nat} {l l':List UInt8} (h:Bts L w a l) (h':Bts L w a' l') (hin:In w L) (ty:TypeId):Parts L (w.alloc (.cells #[.slice a l.length c,.slice a' l'.length c'] ty)) (some ⟨w.heap.size,0,none⟩) [l,l']:=by
 have hb:Below w.heap.size w (w.alloc (.cells #[.slice a l.length c,.slice a' l'.length c'] ty)):=(An _ _).alloc (Db _) _;refine ⟨λ_=>⟨w.heap.size,0,rfl,by simp,λhm=>by have:=hin _ hm;omega,λk hk=>?_⟩⟩;have hk:k<2:=hk
 have hr:=λj=>cell_of_row (w.alloc (.cells #[.slice a l.length c,.slice a' l'.length c'] ty)) w.heap.size j _ ty (0,0) (heap_alloc_new w _);rcases (by omega:k=0∨k=1) with rfl | rfl
 ·exact ⟨a,c,(hr 0).trans rfl,h.step (DP hb)⟩
 ·exact ⟨a',c',(hr 1).trans rfl,h'.step (DP hb)⟩
theorem in_alloc {L:List (Option Nat)} {w:World} (h:In w L) (o:Obj):In (w.alloc o) L:=h.mono (by simp)
theorem in_nil (w:World):In w []:=λk hk=>by cases hk
theorem read_said {p:Nat} (hp:p<4294967296) (b:Bd) (w:World) (a:Option Addr) (c:Nat) (l:List UInt8) (hl:Bts [] w a l) (hn:l.length<=400000000) (e:Nat) (cl:Bool) (out:List D7) (he:(Q.read p b l).err=e) (hc:(Q.read p b l).clean=cl) (ho:(Q.read p b l).out=out):Calls EW 63 #[ZZ ZQ (p:Int),bdV b,.slice a l.length c] w λr w'=>
 ∃o,r=.returned (ZT #[o,ZZ ZS (e:Int),ZW cl])/\Said w' o out/\Below w.heap.size w w':=by
 refine (read_any (b:=b) hp w a c l hl hn).mono ?_;rintro r w' ⟨o,L,B0,rfl,hT,hb⟩;rw [he,hc];rw [ho] at hT;exact ⟨o,rfl,hT.said,hb⟩
end Go.Proofs.YtdfabddnpgjepaaGreatDoor.Pg
namespace Go.Proofs.YtdfabddnpgjepaaGreatDoor.Each
open Go.RowKit Base Mem Par
structure Thing (A A':World->List (Option Nat)->Prop):Prop where
 keeps:∀{w w':World} {L M:List (Option Nat)},A w L->Keeps M w w'->(∀k,some k∈L->some k∉M)->A w' L
 keeps':∀{w w':World} {L M:List (Option Nat)},A' w L->Keeps M w w'->(∀k,some k∈L->some k∉M)->A' w' L
 inn:∀{w:World} {L:List (Option Nat)},A w L->In w L
 inn':∀{w:World} {L:List (Option Nat)},A' w L->In w L
 uniq:∀{w:World} {L L':List (Option Nat)},(A w L∨A' w L)->(A w L'∨A' w L')->L=L'
theorem Thing.now {A A':World->List (Option Nat)->Prop} (h:Thing A A') {w w':World} {L M:List (Option Nat)} (hA:A w L∨A' w L) (hk:Keeps M w w') (hd:∀k,some k∈L->some k∉M):A w' L∨A' w' L:=
 hA.imp (λh1=>h.keeps h1 hk hd) (λh1=>h.keeps' h1 hk hd)
theorem Thing.in {A A':World->List (Option Nat)->Prop} (h:Thing A A') {w:World} {L:List (Option Nat)} (hA:A w L∨A' w L):In w L:=hA.elim h.inn h.inn'
def Dis (L M:List (Option Nat)):Prop:=∀k,some k∈L->some k∉M
theorem Dis.symm {L M:List (Option Nat)} (h:Dis L M):Dis M L:=λk hM hL=>h k hL hM
theorem Dis.of {W:World} {L M M':List (Option Nat)} (h:Dis L M) (hin:In W L) (ho:Of W M M'):Dis L M':=λk hL hM=>by
 rcases ho k hM with e | e
 ·exact h k hL e
 ·have:=hin k hL;omega
section
variable {P:Program} {l:List Oper} {Q:Exit->Act->World->Prop} {fs:List Fact} {a0:Act} {ds:List Nat}
variable (A A' C C':World->List (Option Nat)->Prop) (L1 L2:List (Option Nat)) (i1 i2:Nat) (W:World)
structure Two (b:Array Bool) (w:World):Prop where
 keeps:Keeps (L1++L2) W w
 both:∃M1 M2,(A' w M1/\b.getD i1 false=true∨A w M1/\M1=L1)/\(C' w M2/\b.getD i2 false=true∨C w M2/\M2=L2)/\Dis M1 M2/\Of W L1 M1/\Of W L2 M2
def RTwo (k:Nat) (w w':World):Prop:=
 if k=i1 then w'=w∨∃M1,A' w' M1/\Step L1 M1 w w' else if k=i2 then w'=w∨∃M2,C' w' M2/\Step L2 M2 w w' else Below w.heap.size w w'
variable {A A' C C' L1 L2 i1 i2 W}
theorem Two.step (hA:Thing A A') (hC:Thing C C') (h12:i1≠i2) {b:Array Bool} {k:Nat} {w w':World} (hks:k<b.size) (hbk:b.getD k false=false) (h:Two A A' C C' L1 L2 i1 i2 W b w) (hR:RTwo A' C' L1 L2 i1 i2 k w w'):Two A A' C C' L1 L2 i1 i2 W (b.setIfInBounds k true) w':=by
 obtain ⟨hk,M1,M2,h1,h2,h3,h4,h5⟩:=h
 have hin1:In w M1:=h1.elim (λh=>hA.inn' h.1) (λh=>hA.inn h.1)
 have hin2:In w M2:=h2.elim (λh=>hC.inn' h.1) (λh=>hC.inn h.1);have g1:(b.setIfInBounds k true).getD i1 false=if i1=k then true else b.getD i1 false:=get_set b k i1 hks
 have g2:(b.setIfInBounds k true).getD i2 false=if i2=k then true else b.getD i2 false:=get_set b k i2 hks
 have up1:b.getD i1 false=true->(b.setIfInBounds k true).getD i1 false=true:=λe=>by rw [g1,e];split<;>rfl
 have up2:b.getD i2 false=true->(b.setIfInBounds k true).getD i2 false=true:=λe=>by rw [g2,e];split<;>rfl
 unfold RTwo at hR;by_cases e1:k=i1
 ·rw [if_pos e1] at hR;subst e1;have h1':A w M1/\M1=L1:=by
   rcases h1 with ⟨-,h⟩ | h
   ·rw [hbk] at h;cases h
   ·exact h
  rcases hR with rfl | ⟨M1',hA',hs⟩
  ·exact ⟨hk,M1,M2,.inr h1',h2.imp (λh=>⟨h.1,up2 h.2⟩) id,h3,h4,h5⟩
  ·have e:=h1'.2;subst e;have hd:Dis M2 M1':=h3.symm.of hin2 hs.of
   exact ⟨hk.trans (hs.keeps.mono λk hk=>List.mem_append_left _ hk) Dq,M1',M2,.inl ⟨hA',by rw [g1,if_pos rfl]⟩,
    h2.imp (λh=>⟨hC.keeps' h.1 hs.keeps h3.symm,up2 h.2⟩) (λh=>⟨hC.keeps h.1 hs.keeps h3.symm,h.2⟩),hd.symm,h4.trans hs.of hk.size,h5⟩
 ·rw [if_neg e1] at hR;by_cases e2:k=i2
  ·rw [if_pos e2] at hR;subst e2;have h2':C w M2/\M2=L2:=by
    rcases h2 with ⟨-,h⟩ | h
    ·rw [hbk] at h;cases h
    ·exact h
   rcases hR with rfl | ⟨M2',hC',hs⟩
   ·exact ⟨hk,M1,M2,h1.imp (λh=>⟨h.1,up1 h.2⟩) id,.inr h2',h3,h4,h5⟩
   ·have e:=h2'.2;subst e;have hd:Dis M1 M2':=h3.of hin1 hs.of
    exact ⟨hk.trans (hs.keeps.mono λk hk=>List.mem_append_right _ hk) Dq,M1,M2',h1.imp (λh=>⟨hA.keeps' h.1 hs.keeps h3,up1 h.2⟩) (λh=>⟨hA.keeps h.1 hs.keeps h3,h.2⟩),
     .inl ⟨hC',by rw [g2,if_pos rfl]⟩,hd,h4,h5.trans hs.of hk.size⟩
  ·rw [if_neg e2] at hR;have hkb:Keeps [] w w':=Bo hR
   exact ⟨hk.trans hkb (λk hk=>by cases hk),M1,M2,h1.imp (λh=>⟨hA.keeps' h.1 hkb (by simp),up1 h.2⟩) (λh=>⟨hA.keeps h.1 hkb (by simp),h.2⟩),
    h2.imp (λh=>⟨hC.keeps' h.1 hkb (by simp),up2 h.2⟩) (λh=>⟨hC.keeps h.1 hkb (by simp),h.2⟩),h3,h4,h5⟩
theorem fine_two {k:Nat} {o:Oper} {f:Fact} (h1:k≠i1) (h2:k≠i2) (hg:o.guard=none) (h:∀(ev:Operand->Value) (w:World),Reads a0 ds ev->Keeps (L1++L2) W w->has l fs ev w o.after.toList->Goes P o ev f w) :
 FineR P l fs (RTwo A' C' L1 L2 i1 i2) (Two A A' C C' L1 L2 i1 i2 W) a0 ds k o f:=
 λev _ w hr hK _ hh=>⟨λ_=>(h ev w hr hK.keeps hh).gen λw' hb=>by unfold RTwo;rw [if_neg h1,if_neg h2];exact hb,λhw=>by simp [DH,hg] at hw⟩
theorem fine_first {o:Oper} {f:Fact} (hg:o.guard=none) (h:∀(ev:Operand->Value) (w:World) (M2:List (Option Nat)),Reads a0 ds ev->Keeps (L1++L2) W w->A w L1->(C w M2∨C' w M2)->Dis L1 M2->has l fs ev w o.after.toList->
 GoesR P o ev f (λw w'=>∃M1,A' w' M1/\Step L1 M1 w w') w) :
 FineR P l fs (RTwo A' C' L1 L2 i1 i2) (Two A A' C C' L1 L2 i1 i2 W) a0 ds i1 o f:=by
 intro ev b w hr hK hb hh;refine ⟨λ_=>?_,λhw=>by simp [DH,hg] at hw⟩;obtain ⟨hk,M1,M2,h1,h2,h3,h4,h5⟩:=hK;have h1':A w M1/\M1=L1:=by
  rcases h1 with ⟨-,h⟩ | h
  ·rw [hb] at h;cases h
  ·exact h
 have e:=h1'.2;subst e;have hR:RTwo A' C' M1 L2 i1 i2 i1=λw w'=>w'=w∨∃M1',A' w' M1'/\Step M1 M1' w w':=by funext w w';unfold RTwo;rw [if_pos rfl]
 rw [hR];cases h ev w M2 hr hk h1'.1 (h2.elim (λh=>.inr h.1) (λh=>.inl h.1)) h3 hh with
 | value v w' hrun hb hf=>exact .value v w' hrun (.inr hb) hf
 | enter g args hrun hc=>
   exact XXmLr
theorem fine_second {o:Oper} {f:Fact} (h12:i1≠i2) (hg:o.guard=none) (h:∀(ev:Operand->Value) (w:World) (M1:List (Option Nat)),Reads a0 ds ev->Keeps (L1++L2) W w->C w L2->(A w M1∨A' w M1)->Dis L2 M1->has l fs ev w o.after.toList->
 GoesR P o ev f (λw w'=>∃M2,C' w' M2/\Step L2 M2 w w') w) :
 FineR P l fs (RTwo A' C' L1 L2 i1 i2) (Two A A' C C' L1 L2 i1 i2 W) a0 ds i2 o f:=by
 intro ev b w hr hK hb hh;refine ⟨λ_=>?_,λhw=>by simp [DH,hg] at hw⟩;obtain ⟨hk,M1,M2,h1,h2,h3,h4,h5⟩:=hK;have h2':C w M2/\M2=L2:=by
  rcases h2 with ⟨-,h⟩ | h
  ·rw [hb] at h;cases h
  ·exact h
 have e:=h2'.2;subst e;have hR:RTwo A' C' L1 M2 i1 i2 i2=λw w'=>w'=w∨∃M2',C' w' M2'/\Step M2 M2' w w':=by funext w w';unfold RTwo;rw [if_neg h12.symm,if_pos rfl]
 rw [hR];cases h ev w M1 hr hk h2'.1 (h1.elim (λh=>.inr h.1) (λh=>.inl h.1)) h3.symm hh with
 | value v w' hrun hb hf=>exact .value v w' hrun (.inr hb) hf
 | enter g args hrun hc=>
   exact XXmLr
def waits (l:List Oper) (k j:Nat):Bool:=match l[k]? with
 | some o=>o.after.toList.any λe=>DE .any e&&e.on==j
 | none=>false
def LastsTwo (l:List Oper) (A' C':World->List (Option Nat)->Prop) (L1 L2:List (Option Nat)) (i1 i2 k:Nat) (f:Fact):Prop:=
 (∀v w w',Below w.heap.size w w'->f v w->f v w')/\(k≠i1->waits l k i1=false->∀v w w' M1,A' w' M1->Step L1 M1 w w'->f v w->f v w')/\(k≠i2->waits l k i2=false->∀v w w' M2,C' w' M2->Step L2 M2 w w'->f v w->f v w')
theorem LastsTwo.pure (k:Nat) (p:Value->Prop):LastsTwo l A' C' L1 L2 i1 i2 k (λv _=>p v):=⟨λ_ _ _ _ h=>h,λ_ _ _ _ _ _ _ _ h=>h,λ_ _ _ _ _ _ _ _ h=>h⟩
theorem LastsTwo.keeps {k:Nat} {f:Fact} (h:∀v w w' M,(∀k,some k∈M->some k∈L1++L2)->Keeps M w w'->f v w->f v w'):LastsTwo l A' C' L1 L2 i1 i2 k f:=
 ⟨λv w w' hb hf=>h v w w' [] (by intro k hk;cases hk) (Bo hb) hf,λ_ _ v w w' _ _ hs hf=>h v w w' L1 (λ_ hk=>List.mem_append_left _ hk) hs.keeps hf,λ_ _ v w w' _ _ hs hf=>h v w w' L2 (λ_ hk=>List.mem_append_right _ hk) hs.keeps hf⟩
def EveryTwo (l:List Oper) (A' C':World->List (Option Nat)->Prop) (L1 L2:List (Option Nat)) (i1 i2:Nat):Nat->List Fact->Prop
 | _,[]=>True
 | k,f::fs=>LastsTwo l A' C' L1 L2 i1 i2 k f/\EveryTwo l A' C' L1 L2 i1 i2 (k+1) fs
theorem everyTwo_at:∀{fs:List Fact} {n:Nat},EveryTwo l A' C' L1 L2 i1 i2 n fs->∀(k:Nat) (f:Fact),fs[k]?=some f->LastsTwo l A' C' L1 L2 i1 i2 (n+k) f
 | [],_,_,k,f,hf=>by simp at hf
 | g::fs,n,h,0,f,hf=>by simp at hf;subst hf;exact h.1
 | g::fs,n,h,k+1,f,hf=>by
   have:=everyTwo_at h.2 k f (by simpa using hf);rw [show n+(k+1)=n+1+k by omega];exact this
def AllTwo (P:Program) (l:List Oper) (fs:List Fact) (R:Nat->World->World->Prop) (K:Array Bool->World->Prop) (a0:Act) (ds:List Nat):Nat->List Oper->List Fact->Prop
 | k,o::os,f::gs=>FineR P l fs R K a0 ds k o f/\AllTwo P l fs R K a0 ds (k+1) os gs
 | _,_,_=>True
theorem allTwo_at {R:Nat->World->World->Prop} {K:Array Bool->World->Prop}:∀{os:List Oper} {gs:List Fact} {n:Nat},AllTwo P l fs R K a0 ds n os gs->∀(k:Nat) (o:Oper) (f:Fact),os[k]?=some o->gs[k]?=some f->FineR P l fs R K a0 ds (n+k) o f
 | [],_,_,_,k,o,f,ho,hf=>by simp at ho
 | _ :: _,[],_,_,k,o,f,ho,hf=>by simp at hf
 | _ :: _,_ :: _,_,h,0,o,f,ho,hf=>by simp at ho hf;subst ho hf;exact h.1
 | _ :: _,_ :: _,n,h,k+1,o,f,ho,hf=>by
   have:=allTwo_at h.2 k o f (by simpa using ho) (by simpa using hf);rw [show n+(k+1)=n+1+k by omega];exact this
theorem region_two (m:Nat) (ds:List Nat) (fs:List Fact) (i1 i2:Nat) {id:Nat} {a0:Act} {w:World} (hA:Thing A A') (hC:Thing C C') (hA0:A w L1) (hC0:C w L2) (hd:Dis L1 L2)
 (hmo:P.follows .mixedOrders=true) (hg:good l m ds [] (l.length-m)=true) (hns:Region.noSelect l.toArray=true)
 (hp:Tree.fits l.toArray .done (l.length-m) (fill l.length m [])=true) (hQ:∀c a d v w,Q (.panic c) (Ab a d v) w->Q (.panic c) a w)
 (hsz:ds.all (λd=>decide (d<a0.tmps.size))=true) (hlen:fs.length=m) (hi:(decide (i1<m)&&(decide (i2<m)&&decide (i1≠i2)))=true) (hlast:EveryTwo l A' C' L1 L2 i1 i2 0 fs)
 (hfine:AllTwo P l fs (RTwo A' C' L1 L2 i1 i2) (Two A A' C C' L1 L2 i1 i2 (w.drewN 1)) a0 ds 0 l fs)
 (hrest:∀(g:Nat->Value) (w':World) (M1 M2:List (Option Nat)),(A w' M1∨A' w' M1)->(C w' M2∨C' w' M2)->Dis M1 M2->Of w L1 M1->Of w L2 M2->Keeps (L1++L2) w w'->facts g w' ds fs->Q .normal (putg g ds a0) w'):(Code.region id l.toArray true).wp P Q a0 w:=by
 simp only [Ao,decide_eq_true_eq] at hi;obtain ⟨hi1,hi2,h12⟩:=hi
 have hbd:Keeps [] w (w.drewN 1):=Bo (Ak (An w.heap.size w) 1);have hml:m<=l.length:=by simp only [good,Ao,decide_eq_true_eq] at hg;exact hg.1
 refine region_gen (K:=λb w'=>b.size=l.length/\Two A A' C C' L1 L2 i1 i2 (w.drewN 1) b w') (R:=RTwo A' C' L1 L2 i1 i2) m ds fs [] (l.length-m) .done hmo hg hns hp hQ hsz hlen
  ⟨by simp,Keeps.refl,L1,L2,.inr ⟨hA.keeps hA0 hbd (by simp),rfl⟩,.inr ⟨hC.keeps hC0 hbd (by simp),rfl⟩,hd,Dq,Dq⟩
  (λb k w1 w2 hk hbk hK hR=>⟨by simp [hK.1],hK.2.step hA hC h12 (by rw [hK.1];omega) hbk hR⟩) (λk w=>?_) (λk j f hf hjk hwt v w1 w2 hR hv=>?_) trivial (λk o f ho hf _ ev b w1 hr hK hb hh=>?_) (λg w' hK hf=>?_)
 ·unfold RTwo;split
  ·exact .inl rfl
  ·split
   ·exact .inl rfl
   ·exact An _ _
 ·have:=everyTwo_at hlast k f hf;rw [Di] at this;obtain ⟨l1,l2,l3⟩:=this;have hw0:∀i,j=i->waits l k i=false:=by
   intro i hi;unfold waits;cases ho:l[k]? with
   | none=>rfl
   | some o=>
     rw [Bool.eq_false_iff];intro hh;obtain ⟨e,he,h2⟩:=List.any_eq_true.1 hh;rw [Ao,beq_iff_eq] at h2
     exact hwt o ho e he h2.1 (h2.2.trans hi.symm)
  unfold RTwo at hR;split at hR
  ·rename_i e;rcases hR with rfl | ⟨M1,h1,h2⟩
   ·exact hv
   ·exact l2 (by omega) (hw0 _ e) v w1 w2 M1 h1 h2 hv
  ·split at hR
   ·rename_i e;rcases hR with rfl | ⟨M2,h1,h2⟩
    ·exact hv
    ·exact l3 (by omega) (hw0 _ e) v w1 w2 M2 h1 h2 hv
   ·exact l1 v w1 w2 hR hv
 ·have:=allTwo_at hfine k o f ho hf;rw [Di] at this;exact this ev b w1 hr hK.2 hb hh
 ·obtain ⟨-,hk,M1,M2,h1,h2,h3,h4,h5⟩:=hK;rw [Ee];have hof:∀{L M:List (Option Nat)},Of (w.drewN 1) L M->Of w L M:=λh k hk=>h k hk
  exact Ed (hrest g w' M1 M2 (h1.elim (λh=>.inr h.1) (λh=>.inl h.1)) (h2.elim (λh=>.inr h.1) (λh=>.inl h.1)) h3 (hof h4) (hof h5) (Keeps.trans (hbd.mono λk hk=>by cases hk) hk Dq) hf)
end
end Go.Proofs.YtdfabddnpgjepaaGreatDoor.Each
namespace Go.Proofs.YtdfabddnpgjepaaGreatDoor.Pg
open Go.RowKit Base Txt Mem Par Each
section
variable {w w':World} {B:Zone} {g q:Nat} {v f bd t o:Value} {p:Nat} {b:Bd} {L M:List (Option Nat)} {x:Q} {rd:Ln.M} {fs ts:List Fld} {body:List UInt8}
theorem outs_nil (h:Outs L B w o []):w.ownsRow B 58 7 o 0 []:=by obtain ⟨ps,h1,h2,h3⟩:=h;have hps:ps= []:=List.map_eq_nil_iff.1 h1;subst hps;exact h3
theorem outs_of {L':List (Option Nat)} {B':Zone} (h:w.ownsRow B'.b 58 7 o 0 []):Outs L' B' w o []:=⟨[],rfl,(by intro x hx;cases hx),h⟩
theorem Own.keeps (h:Own w B g q v f bd t o rd fs body ts []) (hk:Keeps M w w') (hd:Dis (blks g q v f bd t o) M):Own w' B g q v f bd t o rd fs body ts []:=
 ⟨⟨hk.row h.R.row (hd q (by simp)),hk.own h.R.own λk e=>hd k (by simp [←e]),h.R.ge,h.R.ne⟩,hk.own h.F λk e=>hd k (by simp [←e]),hk.own h.D λk e=>hd k (by simp [←e]),hk.own h.TR λk e=>hd k (by simp [←e]),
   outs_of (hk.own (outs_nil h.O) λk e=>hd k (by simp [←e])),h.lone,h.ge,Df h.lt hk.size,h.zone.of hk.size Dq⟩
theorem Own.rezone (h:Own w B g q v f bd t o rd fs body ts []) {Z:List (Option Nat)} (hz:Clear w Z (blks g q v f bd t o)):Own w ⟨B.b,Z⟩ g q v f bd t o rd fs body ts []:=
 ⟨h.R,h.F,h.D,h.TR,outs_of (outs_nil (B:=B) h.O),h.lone,h.ge,h.lt,hz⟩
theorem At.keeps (h:At w B g p b L x) (ho:x.out= []) (hk:Keeps M w w') (hd:Dis L M):At w' B g p b L x:=by
 cases x with
 | live s=>
   obtain ⟨q,v,f,bd,t,o,rfl,h1,h2⟩:=h;have ho:s.out= []:=ho;rw [ho] at h2;refine ⟨q,v,f,bd,t,o,rfl,hk.row h1 (hd g (by simp)),?_⟩;rw [ho];exact h2.keeps hk hd
 | dead e out=>
   obtain ⟨o,rfl,h⟩:=h;have ho:out= []:=ho;subst ho;exact ⟨o,rfl,hk.row h.row (hd g (by simp)),outs_of (hk.own (outs_nil h.O) λk e=>hd k (by simp [←e])),h.ne,h.ge,Df h.lt hk.size,h.bad,h.zone.of hk.size Dq⟩
theorem At.rezone (h:At w B g p b L x) (ho:x.out= []) {Z:List (Option Nat)} (hz:Clear w Z L):At w ⟨B.b,Z⟩ g p b L x:=by
 cases x with
 | live s=>
   obtain ⟨q,v,f,bd,t,o,rfl,h1,h2⟩:=h;have ho:s.out= []:=ho;rw [ho] at h2;refine ⟨q,v,f,bd,t,o,rfl,h1,?_⟩;rw [ho];exact h2.rezone hz
 | dead e out=>
   obtain ⟨o,rfl,h⟩:=h;have ho:out= []:=ho;subst ho;exact ⟨o,rfl,h.row,outs_of (outs_nil (B:=B) h.O),h.ne,h.ge,h.lt,h.bad,hz⟩
theorem cells_inj {a c:List Value} {ty:TypeId} {fr:Nat × Nat} (h1:w.heap[g]?=some (.cells a.toArray ty fr)) (h2:w.heap[g]?=some (.cells c.toArray ty fr)):a=c:=by have h3:=h1.symm.trans h2;simp only [Du.injEq,Obj.cells.injEq,and_true] at h3;simpa using h3
theorem At.uniq {B':Zone} {p':Nat} {b':Bd} {x':Q} {L':List (Option Nat)} (h:At w B g p b L x) (h':At w B' g p' b' L' x'):L=L':=by
 cases x with
 | live s=>
   obtain ⟨q,v,f,bd,t,o,rfl,h1,h2⟩:=h;cases x' with
   | live s'=>
     obtain ⟨q',v',f',bd',t',o',rfl,h1',h2'⟩:=h';have e:=cells_inj h1 h1';have e2:f=f':=(List.cons.inj (List.cons.inj (List.cons.inj e).2).2).1
     have e9:t=t':=Du.inj (congrArg (λl:List Value=>l[9]?) e)
     have e11:bd=bd':=Du.inj (congrArg (λl:List Value=>l[11]?) e)
     have e25:ptr q=ptr q':=Du.inj (congrArg (λl:List Value=>l[25]?) e)
     have e26:o=o':=Du.inj (congrArg (λl:List Value=>l[26]?) e);have eq:q=q':=by simpa using e25
     subst eq e2 e9 e11 e26;have hr:=h2.R.row.symm.trans h2'.R.row;have ev:v=v':=by simp only [Du.injEq,Obj.cells.injEq,and_true] at hr;have h9:=congrArg (λa:Array Value=>a.toList) hr;simp at h9;exact h9.2.2.2.1
     rw [ev]
   | dead e' out'=>
     obtain ⟨o',rfl,h'⟩:=h';have e:=cells_inj h1 h'.row
     have e25:ptr q=ZV none:=Du.inj (congrArg (λl:List Value=>l[25]?) e);cases e25
 | dead e out=>
   obtain ⟨o,rfl,h⟩:=h;cases x' with
   | live s'=>
     obtain ⟨q',v',f',bd',t',o',rfl,h1',h2'⟩:=h';have e:=cells_inj h.row h1'
     have e25:Value.pointer none=ptr q':=Du.inj (congrArg (λl:List Value=>l[25]?) e);cases e25
   | dead e' out'=>
     obtain ⟨o',rfl,h'⟩:=h';have e:=cells_inj h.row h'.row
     have e26:o=o':=Du.inj (congrArg (λl:List Value=>l[26]?) e);rw [e26]
theorem obj_at {B:Zone} {g p p':Nat} {b b':Bd} {x x':Q} (hx:x.out= []) (hx':x'.out= []):Thing (λw L=>∃Z,At w ⟨B.b,Z⟩ g p b L x) (λw L=>∃Z,At w ⟨B.b,Z⟩ g p' b' L x') where
 keeps:=λ⟨Z,h⟩ hk hd=>⟨Z,h.keeps hx hk hd⟩
 keeps':=λ⟨Z,h⟩ hk hd=>⟨Z,h.keeps hx' hk hd⟩
 inn:=λ⟨_,h⟩=>h.in
 inn':=λ⟨_,h⟩=>h.in
 uniq:=λh h'=>by rcases h with ⟨_,h⟩ | ⟨_,h⟩<;>rcases h' with ⟨_,h'⟩ | ⟨_,h'⟩<;>exact h.uniq h'
theorem Told.keeps {out:List D7} (h:Told L B w o out) (hk:Keeps M w w') (hM:∀k,some k∈M->some k∈B.z):Told L B w' o out:=by obtain ⟨ps,h1,h2,h3⟩:=h.outs;refine ⟨⟨ps,h1,λx hx=>⟨(h2 x hx).1,?_⟩,hk.own h3 λk e hm=>h.off k e (hM k hm)⟩,λk e=>⟨(h.far k e).1,Df (h.far k e).2 hk.size⟩,h.off⟩;have hf:=(h2 x hx).2;have hf2:Far M B.z w (ZU x.1) x.2:=⟨hf.reads,λk hb=>⟨λhm=>hf.off k hb (hM k hm),(hf.far k hb).2⟩,hf.off⟩;have:=hf2.keeps hk;exact ⟨this.reads,λk hb=>⟨(hf.far k hb).1,(this.far k hb).2⟩,hf.off⟩
theorem Told.rezone {out:List D7} (h:Told L B w o out) {Z:List (Option Nat)} (hZ:∀k,some k∈Z->some k∈B.z∨w.heap.size<=k):Told L ⟨B.b,Z⟩ w o out:=by
 obtain ⟨ps,h1,h2,h3⟩:=h.outs;refine ⟨⟨ps,h1,λx hx=>⟨(h2 x hx).1,(h2 x hx).2.reads,(h2 x hx).2.far,λk hb hz=>?_⟩,h3⟩,h.far,λk e hz=>?_⟩
 ·rcases hZ k hz with e | e
  ·exact (h2 x hx).2.off k hb e
  ·have:=((h2 x hx).2.far k hb).2;omega
 ·rcases hZ k hz with e1 | e1
  ·exact h.off k e e1
  ·have:=(h.far k e).2;omega
end
end Go.Proofs.YtdfabddnpgjepaaGreatDoor.Pg
namespace Go.Proofs.YtdfabddnpgjepaaGreatDoor.Pg
open Go.RowKit Base Txt Par
def wideM (p:Nat) (m:Ln.M):Ln.M:={m with lf:=D0 p 1,cr:=D0 p 2}
def T.wide (p:Nat) (t:T):T:={t with rd:=wideM p t.rd}
structure T.Strict (t:T):Prop where
 lf:t.rd.lf=false
 cr:t.rd.cr=false
theorem decide_codes (ch:Bool) (body minor:Int) (fs:List Fld) (c:Frm.Cl):0<=(Frm.decideV c ch body minor fs).2.2:=by
 unfold Frm.decideV Frm.bodyV;split
 ·unfold Frm.hostsV;split
  ·decide
  ·split<;>decide
 ·split
  ·unfold Frm.winsV
   repeat' split
   all_goals decide
  ·split
   ·split<;>decide
   ·unfold Frm.fixedV;split
    ·exact Int.le_refl _
    ·show 0<=(Frm.lengthV c.lp c.lc c.lf c.ll body (find fs Frm.clN)).2;unfold Frm.lengthV;split
     ·decide
     ·split
      ·decide
      ·unfold Frm.numV;split
       ·decide
       ·split
        ·decide
        ·exact Int.le_refl _
theorem decide_pos {ch:Bool} {body minor:Int} {fs:List Fld} {c:Frm.Cl} {d:Int × Int × Int} (hd:d=Frm.decideV c ch body minor fs) (h1:d.2.2≠0):d.2.2.toNat≠0:=by have:=decide_codes ch body minor fs c;rw [←hd] at this;omega
theorem size_pos {hex blanks:Bool} {ext body:Int} {l:List UInt8} {z:Int × Int} (hz:z=Chk.sizeV hex blanks ext body l) (h1:z.2≠0):z.2.toNat≠0:=by
 have:0<=(Chk.sizeV hex blanks ext body l).2:=by
  unfold Chk.sizeV;split
  ·unfold Chk.numV;split
   ·decide
   ·split
    ·decide
    ·exact Int.le_refl _
  ·decide
 rw [←hz] at this;omega
section
variable {p:Nat} {b:Bd} {t t2:T} {s:List UInt8} {c:UInt8}
end
end Go.Proofs.YtdfabddnpgjepaaGreatDoor.Pg
namespace Go.Proofs.YtdfabddnpgjepaaGreatDoor.Pg
open Go.RowKit Base Txt Par
structure RelW (m:Ln.M) (q:Ln.R):Prop where
 lf:q.lf=m.lf
 cr:q.cr=m.cr
 most:q.most=m.most
 dead:q.dead=false
 CR:q.CR=m.pend
 B:q.B=if Ln.ended m.last then [] else m.buf
structure Fresh (m:Ln.M):Prop where
 buf:(if Ln.ended m.last then [] else m.buf)= []
 pend:m.pend=false
theorem RelW.step {m:Ln.M} {q:Ln.R} (h:RelW m q) (hm:m.Ok) (hf:Ln.failed m.last=false) (c:UInt8) :
 q.how c=m.clear.next c/\(Ln.failed (m.clear.next c)=false->RelW (m.byte c) (q.byte c)/\(q.byte c).L=(m.byte c).line):=by
 have hr:Ln.Rel m {q with L:=m.line}:=⟨h.lf,h.cr,h.most,h.dead.trans hf.symm,rfl,λ_=>h.CR,λ_=>h.B⟩;have h1:=Ln.step_how hr hm c;have h2:=Ln.step_rel hr hm c;have e:({q with L:=m.line}:Ln.R).byte c=q.byte c:=by simp [Ln.R.byte,Ln.R.start,Ln.R.fin,Ln.R.die,h.dead]
 rw [e] at h2;refine ⟨h1,λhn=>?_⟩;exact ⟨⟨h2.lf,h2.cr,h2.most,h2.dead.trans hn,h2.CR hn,h2.B hn⟩,h2.L⟩
theorem Fresh.isNew {t:T} (h:Fresh t.rd):t.isNew=true:=by
 have h1:t.rd.len=0:=by
  have:=congrArg List.length h.buf;unfold Ln.M.len;split
  ·rfl
  ·rename_i hn;rw [if_neg hn] at this;exact this
 unfold T.isNew;rw [h1,h.pend];rfl
structure R0 (p:Nat) (b:Bd) (t:T) (s:S):Prop where
 e:s.e=0
 st:t.st=s.st+1
 r:s.r=t.r
 out:s.out=t.out
 head:s.head=t.size
 hl:s.st<=1->s.lines=t.hl
 bl:s.st=6->s.lines=t.bl
 bl0:s.st≠6->t.bl=0
 left:Dv s.st=true->s.left=t.left
 rd:Dv s.st=false->RelW t.rd s.rd
 fr:Dv s.st=true->Fresh t.rd
 lf:t.rd.lf=D0 p 1
 cr:t.rd.cr=D0 p 2
 most:s.st≠5->t.rd.most=Ln.mid b.x0
 beh:s.st=5->t.r.body≠ []
 ch:t.r.ch=decide (3<=s.st)
structure RR (p:Nat) (b:Bd) (t:T) (s:S):Prop extends R0 p b t s where
 fresh:s.fresh=t.next
 clean:s.clean=(t.st==1&&t.isNew)
def RQ (p:Nat) (b:Bd):Q->S->Prop
 | .live t,s=>RR p b t s
 | .dead e o,s=>s.e=e/\e≠0/\s.out=o/\s.clean=false
section
variable {p:Nat} {b:Bd} {t:T} {s:S}
theorem Fresh.nl {m:Ln.M} (h:Fresh m) (hl:m.lf=D0 p 1) (hc:m.cr=D0 p 2) (hm:m.most=Ln.mid b.x0):RelW m (nl p b.x0):=
 ⟨hl.symm,hc.symm,hm.symm,rfl,h.pend.symm,h.buf.symm⟩
theorem fresh_of (most:Int):Fresh (Ln.M.of p most):=⟨rfl,rfl⟩
theorem next_st (h3:t.st≠3) (h4:t.st≠4):t.next=false:=by unfold T.next;rw [beq_eq_false_iff_ne.2 h3,beq_eq_false_iff_ne.2 h4];rfl
theorem next_body (h:t.r.body≠ []):t.next=false:=by
 unfold T.next;have:t.r.body.isEmpty=false:=by
  cases hb:t.r.body with
  | nil=>exact absurd hb h
  | cons _ _=>rfl
 rw [this,Av,Bool.and_false]
theorem clean_st (h:t.st≠1):(t.st==1&&t.isNew)=false:=by rw [beq_eq_false_iff_ne.2 h];rfl
theorem ends_err {e:Nat} {t:T} (he:e≠0):ends (e,t)=.dead e t.out:=if_neg he
theorem fail_sim {e:Nat} (h:R0 p b t s) (he:e≠0):RQ p b (.dead e t.out) (s.fail e):=⟨rfl,he,h.out,rfl⟩
theorem bod (h:R0 p b t s):Pg.bodied t.st=Dv s.st:=by
 rw [h.st];unfold Pg.bodied Dv;have e1:(s.st+1==3)=(s.st==2):=by rw [Au,beq_iff_eq,beq_iff_eq];omega
 have e2:(s.st+1==5)=(s.st==4):=by rw [Au,beq_iff_eq,beq_iff_eq];omega
 rw [e1,e2]
theorem hed (h:R0 p b t s):Pg.headed t.st=Par.headed s.st:=by
 rw [h.st];unfold Pg.headed Par.headed;have e1:(s.st+1==1)=(s.st==0):=by rw [Au,beq_iff_eq,beq_iff_eq];omega
 have e2:(s.st+1==2)=(s.st==1):=by rw [Au,beq_iff_eq,beq_iff_eq];omega
 have e3:(s.st+1==7)=(s.st==6):=by rw [Au,beq_iff_eq,beq_iff_eq];omega
 rw [e1,e2,e3]
theorem long_sim (h:R0 p b t s):Pg.longE t.st=Par.longE s.st/\Par.longE s.st≠0:=by
 rw [h.st];unfold Pg.longE Par.longE Par.headed;by_cases h0:s.st=0
 ·simp [h0]
 ·by_cases h1:s.st=1
  ·simp [h1]
  ·by_cases h6:s.st=6
   ·simp [h6]
   ·rw [if_neg (by omega),if_neg (by omega),if_neg h0,if_neg (by simp [h0,h1,h6])];decide
theorem whole_sim (h:R0 p b t s) (hf:Fresh t.rd) (h5:s.st≠5):RR p b t.fin (s.whole p b) where
 e:=h.e
 st:=rfl
 r:=rfl
 out:=by show s.out ++ [s.r]=t.out ++ [t.r];rw [h.out,h.r]
 head:=rfl
 hl:=λ_=>rfl
 bl:=λe=>absurd e (by show (0:Nat)≠6;decide)
 bl0:=λ_=>rfl
 left:=λe=>absurd e (by show Dv 0≠true;decide)
 rd:=λ_=>hf.nl h.lf h.cr (h.most h5)
 fr:=λe=>absurd e (by show Dv 0≠true;decide)
 lf:=h.lf
 cr:=h.cr
 most:=λ_=>h.most h5
 beh:=λe=>absurd e (by show (0:Nat)≠5;decide)
 ch:=rfl
 fresh:=(next_st (t:=t.fin) (by show (1:Nat)≠3;decide) (by show (1:Nat)≠4;decide)).symm
 clean:=by
  have:t.fin.isNew=true:=Fresh.isNew (t:=t.fin) hf
  show true=((1:Nat)==1&&t.fin.isNew);rw [this];rfl
theorem first_sim (h:R0 p b t s) (hf:Fresh t.rd) (hc:s.clean=false) (hfr:s.fresh=false) (hs:s.st=0) (ln:List UInt8):RQ p b (ends (t.first p b ln)) (s.first p b ln):=by
 have ht:t.st=1:=by rw [h.st,hs]
 unfold T.first S.first;by_cases h0:ln= []
 ·simp only [if_pos h0];cases hq:D0 p 0 with
  | true=>
    simp only [if_true]
    exact {h with
     fresh:=hfr.trans (next_st (t:=t) (by omega) (by omega)).symm
     clean:=by
      show true= _
      rw [hf.isNew,ht];rfl}
  | false=>
    simp only [Aw,if_false];rw [ends_err (by decide)]
    exact fail_sim h (by decide)
 ·simp only [if_neg h0];generalize Rq.request (Rq.clOf p) b.od ln=q;by_cases hq:q.2.2.2=0
  ·simp only [hq,if_true,ne_eq,not_true_eq_false,if_false];show RR p b _ _
   exact {
    e:=h.e
    st:=rfl
    r:=by show ({s.r with m:=ba q.1,x:=ba q.2.1,k:=(q.2.2.1:Int)}:D7)={t.r with m:=ba q.1,x:=ba q.2.1,k:=(q.2.2.1:Int)};rw [h.r]
    out:=h.out
    head:=h.head
    hl:=λ_=>h.hl (by omega)
    bl:=λe=>absurd e (by show (1:Nat)≠6;decide)
    bl0:=λ_=>h.bl0 (by omega)
    left:=λe=>absurd e (by show Dv 1≠true;decide)
    rd:=λ_=>h.rd (by rw [hs];rfl)
    fr:=λe=>absurd e (by show Dv 1≠true;decide)
    lf:=h.lf
    cr:=h.cr
    most:=λ_=>h.most (by omega)
    beh:=λe=>absurd e (by show (1:Nat)≠5;decide)
    ch:=by show t.r.ch=decide (3<=1);rw [h.ch,hs];rfl
    fresh:=hfr.trans (next_st (t:={t with r:={t.r with m:=ba q.1,x:=ba q.2.1,k:=(q.2.2.1:Int)},st:=2}) (by show (2:Nat)≠3;decide) (by show (2:Nat)≠4;decide)).symm
    clean:=hc}
  ·rw [if_neg hq,if_pos hq,ends_err hq];exact fail_sim h hq
theorem over_sim (h:R0 p b t s) (ok:t.Ok) (hf:Fresh t.rd) (hc:s.clean=false) (hs:s.st=1):RQ p b (ends (t.endHead p b)) (s.over p b):=by
 have ht:t.st=2:=by rw [h.st,hs]
 have hbody:t.r.body= []:=ok.early (by omega);have hnew:=hf.isNew;unfold T.endHead S.over;rw [h.r];have hp:=λh1=>decide_pos (d:=Frm.decideV (Frm.clOf p) b.ch b.x3 t.r.k t.r.fs) rfl h1;generalize Frm.decideV (Frm.clOf p) b.ch b.x3 t.r.k t.r.fs=d at hp ⊢;by_cases h1:d.2.2=0
 ·simp only [h1,ne_eq,not_true_eq_false,if_false];by_cases h2:d.1=2
  ·simp only [if_pos h2];show RR p b _ _
   exact {
    e:=h.e
    st:=rfl
    r:=rfl
    out:=h.out
    head:=h.head
    hl:=λe=>absurd e (by show¬(3:Nat)<=1;decide)
    bl:=λe=>absurd e (by show (3:Nat)≠6;decide)
    bl0:=λ_=>h.bl0 (by omega)
    left:=λe=>absurd e (by show Dv 3≠true;decide)
    rd:=λ_=>hf.nl h.lf h.cr (h.most (by omega))
    fr:=λe=>absurd e (by show Dv 3≠true;decide)
    lf:=h.lf
    cr:=h.cr
    most:=λ_=>h.most (by omega)
    beh:=λe=>absurd e (by show (3:Nat)≠5;decide)
    ch:=rfl
    fresh:=by show true=(((4:Nat)==3|| (4:Nat)==4)&&(t.r.body.isEmpty&&t.isNew));rw [hbody,hnew];rfl
    clean:=hc.trans (clean_st (t:={t with r:={t.r with ch:=true},st:=4}) (by show (4:Nat)≠1;decide)).symm}
  ·simp only [if_neg h2];by_cases h3:d.2.1=0
   ·simp only [if_pos h3]
    exact whole_sim h hf (by omega)
   ·simp only [if_neg h3];show RR p b _ _
    exact {
     e:=h.e
     st:=rfl
     r:=rfl
     out:=h.out
     head:=h.head
     hl:=λe=>absurd e (by show¬(2:Nat)<=1;decide)
     bl:=λe=>absurd e (by show (2:Nat)≠6;decide)
     bl0:=λ_=>h.bl0 (by omega)
     left:=λ_=>rfl
     rd:=λe=>absurd e (by show Dv 2≠false;decide)
     fr:=λ_=>hf
     lf:=h.lf
     cr:=h.cr
     most:=λ_=>h.most (by omega)
     beh:=λe=>absurd e (by show (2:Nat)≠5;decide)
     ch:=by show t.r.ch=decide (3<=2);rw [h.ch,hs];rfl
     fresh:=by show true=(((3:Nat)==3|| (3:Nat)==4)&&(t.r.body.isEmpty&&t.isNew));rw [hbody,hnew];rfl
     clean:=hc.trans (clean_st (t:={t with left:=d.2.1.toNat,st:=3}) (by show (3:Nat)≠1;decide)).symm}
 ·simp only [ne_eq,h1,not_false_eq_true,if_true];rw [ends_err (hp h1)]
  exact fail_sim h (hp h1)
theorem XXy3C {P:Prop} (h:P:=by
 have he:e≠0:=by rcases fieldV_err hv with e1 | e1<;>rw [e1]<;>decide
 simp only [listE];rw [ends_err he]
 exact ⟨rfl,he,h.out,rfl⟩):P:=h
theorem fields_sim (h:R0 p b t s) (ok:t.Ok) (hf:Fresh t.rd) (hc:s.clean=false) (hfr:s.fresh=false) (hs:s.st=1) (ln:List UInt8):RQ p b (ends (t.fields p b ln)) (s.fields p b ln):=by
 have ht:t.st=2:=by rw [h.st,hs]
 unfold T.fields S.fields;by_cases h0:ln= []
 ·simp only [if_pos h0];exact over_sim h ok hf hc hs
 ·simp only [if_neg h0];rw [h.r,h.hl (by omega)];cases hv:fieldV p t.hl t.r.fs ln b.x1 with
  | inl e=>
    exact XXy3C
  | inr l=>
    show RR p b _ _
    exact {
     e:=h.e
     st:=h.st
     r:=rfl
     out:=h.out
     head:=h.head
     hl:=λ_=>rfl
     bl:=λe=>absurd e (by show s.st≠6;omega)
     bl0:=λ_=>h.bl0 (by omega)
     left:=λe=>absurd e (by show Dv s.st≠true;rw [hs];decide)
     rd:=λ_=>h.rd (by rw [hs];rfl)
     fr:=λe=>absurd e (by show Dv s.st≠true;rw [hs];decide)
     lf:=h.lf
     cr:=h.cr
     most:=λ_=>h.most (by omega)
     beh:=λe=>absurd e (by show s.st≠5;omega)
     ch:=h.ch
     fresh:=hfr.trans (next_st (t:={t with hl:=t.hl+1,r:={t.r with fs:=l}}) (by show t.st≠3;omega) (by show t.st≠4;omega)).symm
     clean:=hc.trans (clean_st (t:={t with hl:=t.hl+1,r:={t.r with fs:=l}}) (by show t.st≠1;omega)).symm}
theorem trail_sim (h:R0 p b t s) (hf:Fresh t.rd) (hc:s.clean=false) (hfr:s.fresh=false) (hs:s.st=6) (ln:List UInt8):RQ p b (ends (t.trail p b ln)) (s.trail p b ln):=by
 have ht:t.st=7:=by rw [h.st,hs]
 unfold T.trail S.trail;by_cases h0:ln= []
 ·simp only [if_pos h0]
  exact whole_sim h hf (by omega)
 ·simp only [if_neg h0];rw [h.r,h.bl hs];cases hv:fieldV p t.bl t.r.ts ln b.x5 with
  | inl e=>
    exact XXy3C
  | inr l=>
    show RR p b _ _
    exact {
     e:=h.e
     st:=h.st
     r:=rfl
     out:=h.out
     head:=h.head
     hl:=λe=>absurd e (by show¬s.st<=1;omega)
     bl:=λ_=>rfl
     bl0:=λe=>absurd hs e
     left:=λe=>absurd e (by show Dv s.st≠true;rw [hs];decide)
     rd:=λ_=>h.rd (by rw [hs];rfl)
     fr:=λe=>absurd e (by show Dv s.st≠true;rw [hs];decide)
     lf:=h.lf
     cr:=h.cr
     most:=λ_=>h.most (by omega)
     beh:=λe=>absurd e (by show s.st≠5;omega)
     ch:=h.ch
     fresh:=hfr.trans (next_st (t:={t with bl:=t.bl+1,r:={t.r with ts:=l}}) (by show t.st≠3;omega) (by show t.st≠4;omega)).symm
     clean:=hc.trans (clean_st (t:={t with bl:=t.bl+1,r:={t.r with ts:=l}}) (by show t.st≠1;omega)).symm}
theorem chunk_sim (h:R0 p b t s) (hf:Fresh t.rd) (hc:s.clean=false) (hfr:s.fresh=false) (hs:s.st=3) (ln:List UInt8):RQ p b (ends (t.chunk p b ln)) (s.chunk p b ln):=by
 have ht:t.st=4:=by rw [h.st,hs]
 unfold T.chunk S.chunk;rw [h.r];have hp:=λh1=>size_pos (z:=Chk.sizeV (D0 p 27) (D0 p 28) b.x4 b.x3 ln) rfl h1;generalize Chk.sizeV (D0 p 27) (D0 p 28) b.x4 b.x3 ln=z at hp ⊢;by_cases h1:z.2=0
 ·simp only [h1,ne_eq,not_true_eq_false,if_false];by_cases h2:z.1=0
  ·simp only [if_pos h2];show RR p b _ _
   exact {
    e:=h.e
    st:=rfl
    r:=rfl
    out:=h.out
    head:=h.head
    hl:=λe=>absurd e (by show¬(6:Nat)<=1;decide)
    bl:=λ_=>(h.bl0 (by omega)).symm
    bl0:=λe=>absurd rfl e
    left:=λe=>absurd e (by show Dv 6≠true;decide)
    rd:=λ_=>hf.nl h.lf h.cr (h.most (by omega))
    fr:=λe=>absurd e (by show Dv 6≠true;decide)
    lf:=h.lf
    cr:=h.cr
    most:=λ_=>h.most (by omega)
    beh:=λe=>absurd e (by show (6:Nat)≠5;decide)
    ch:=by show t.r.ch=decide (3<=6);rw [h.ch,hs];rfl
    fresh:=hfr.trans (next_st (t:={t with st:=7}) (by show (7:Nat)≠3;decide) (by show (7:Nat)≠4;decide)).symm
    clean:=hc.trans (clean_st (t:={t with st:=7}) (by show (7:Nat)≠1;decide)).symm}
  ·simp only [if_neg h2];by_cases h3:b.x3-(t.r.body.length:Int)<z.1
   ·simp only [if_pos h3];rw [ends_err (by decide)]
    exact fail_sim h (by decide)
   ·simp only [if_neg h3];show RR p b _ _
    exact {
     e:=h.e
     st:=rfl
     r:=rfl
     out:=h.out
     head:=h.head
     hl:=λe=>absurd e (by show¬(4:Nat)<=1;decide)
     bl:=λe=>absurd e (by show (4:Nat)≠6;decide)
     bl0:=λ_=>h.bl0 (by omega)
     left:=λ_=>rfl
     rd:=λe=>absurd e (by show Dv 4≠false;decide)
     fr:=λ_=>hf
     lf:=h.lf
     cr:=h.cr
     most:=λ_=>h.most (by omega)
     beh:=λe=>absurd e (by show (4:Nat)≠5;decide)
     ch:=by show t.r.ch=decide (3<=4);rw [h.ch,hs];rfl
     fresh:=hfr.trans (next_st (t:={t with left:=z.1.toNat,st:=5}) (by show (5:Nat)≠3;decide) (by show (5:Nat)≠4;decide)).symm
     clean:=hc.trans (clean_st (t:={t with left:=z.1.toNat,st:=5}) (by show (5:Nat)≠1;decide)).symm}
 ·simp only [ne_eq,h1,not_false_eq_true,if_true];rw [ends_err (hp h1)]
  exact fail_sim h (hp h1)
theorem enter_sim (h:R0 p b t s) (hs:s.st=5):R0 p b (t.enter p 4 b.x0) {s with st:=3,rd:=nl p b.x0} where
 e:=h.e
 st:=rfl
 r:=h.r
 out:=h.out
 head:=h.head
 hl:=λe=>absurd e (by show¬(3:Nat)<=1;decide)
 bl:=λe=>absurd e (by show (3:Nat)≠6;decide)
 bl0:=λ_=>h.bl0 (by omega)
 left:=λe=>absurd e (by show Dv 3≠true;decide)
 rd:=λ_=>(fresh_of b.x0).nl rfl rfl rfl
 fr:=λe=>absurd e (by show Dv 3≠true;decide)
 lf:=rfl
 cr:=rfl
 most:=λ_=>rfl
 beh:=λe=>absurd e (by show (3:Nat)≠5;decide)
 ch:=by show t.r.ch=decide (3<=3);rw [h.ch,hs];rfl
theorem line_sim (h:R0 p b t s) (ok:t.Ok) (hf:Fresh t.rd) (hc:s.clean=false) (hfr:s.fresh=false) (hn:Dv s.st=false) (ln:List UInt8):RQ p b (ends (t.line p b ln)) (s.ended p b ln):=by
 have h7:=ok.st;have ht:=h.st;have hn2:s.st≠2/\s.st≠4:=by constructor<;> (intro e;rw [e] at hn;exact absurd hn (by decide))
 have hcs:s.st=0∨s.st=1∨s.st=3∨s.st=5∨s.st=6:=by omega
 unfold T.line S.ended;rcases hcs with e | e | e | e | e
 ·rw [ht,e];exact first_sim h hf hc hfr e ln
 ·rw [ht,e];exact fields_sim h ok hf hc hfr e ln
 ·rw [ht,e];exact chunk_sim h hf hc hfr e ln
 ·rw [ht,e];have h1:=enter_sim h e;show RR p b (t.enter p 4 b.x0) {s with st:=3,rd:=nl p b.x0}
  exact {h1 with
   fresh:=hfr.trans (next_body (t:=t.enter p 4 b.x0) (h.beh e)).symm
   clean:=hc.trans (clean_st (t:=t.enter p 4 b.x0) (by show (4:Nat)≠1;decide)).symm}
 ·rw [ht,e];exact trail_sim h hf hc hfr e ln
theorem body_sim (h:R0 p b t s) (ok:t.Ok) (hc:s.clean=false) (hfr:s.fresh=false) (hn:Dv s.st=true) (c:UInt8) :
 RR p b (if t.left=1 then (t.keep c).endData p else t.keep c) (s.bodyB p b c):=by
 have hst:s.st=2∨s.st=4:=by unfold Dv at hn;simpa using hn
 have hl:1<=t.left:=ok.left (by rw [bod h];exact hn);have hle:=h.left hn;have hfr0:=h.fr hn;have hbd:(t.keep c).r.body≠ []:=by show t.r.body ++ [c]≠ [];simp
 have er:({s.r with body:=s.r.body ++ [c]}:D7)={t.r with body:=t.r.body ++ [c]}:=by rw [h.r]
 have hk:R0 p b (t.keep c) {s with r:={s.r with body:=s.r.body ++ [c]},left:=s.left-1}:={
  e:=h.e
  st:=h.st
  r:=er
  out:=h.out
  head:=h.head
  hl:=h.hl
  bl:=h.bl
  bl0:=h.bl0
  left:=λ_=>by show s.left-1=t.left-1;rw [hle]
  rd:=λe=>h.rd e
  fr:=λ_=>hfr0
  lf:=h.lf
  cr:=h.cr
  most:=h.most
  beh:=λ_=>hbd
  ch:=h.ch}
 unfold S.bodyB;by_cases h1:1<s.left
 ·rw [if_neg (by omega)];simp only [if_pos h1]
  exact {hk with
   fresh:=hfr.trans (next_body hbd).symm
   clean:=hc.trans (clean_st (t:=t.keep c) (by show t.st≠1;have:=h.st;omega)).symm}
 ·rw [if_pos (by omega)];simp only [if_neg h1];unfold T.endData;have e2:(t.keep c).r.ch=t.r.ch:=rfl;rw [e2,h.ch];rcases hst with e | e
  ·simp only [e,Nat.reduceLeDiff,decide_false,Aw,if_false,if_true]
   have:=whole_sim hk hfr0 (by show s.st≠5;omega);rw [e] at this;exact this
  ·simp only [e,Nat.reduceLeDiff,decide_true,if_true,Nat.reduceEqDiff,if_false]
   exact {
    e:=h.e
    st:=rfl
    r:=er
    out:=h.out
    head:=h.head
    hl:=λe=>absurd e (by show¬(5:Nat)<=1;decide)
    bl:=λe=>absurd e (by show (5:Nat)≠6;decide)
    bl0:=λ_=>h.bl0 (by omega)
    left:=λe=>absurd e (by show Dv 5≠true;decide)
    rd:=λ_=>⟨rfl,rfl,rfl,rfl,rfl,rfl⟩
    fr:=λe=>absurd e (by show Dv 5≠true;decide)
    lf:=rfl
    cr:=rfl
    most:=λe=>absurd rfl e
    beh:=λ_=>hbd
    ch:=by show t.r.ch=decide (3<=5);rw [h.ch,e];rfl
    fresh:=hfr.trans (next_st (t:=(t.keep c).enter p 6 0) (by show (6:Nat)≠3;decide) (by show (6:Nat)≠4;decide)).symm
    clean:=hc.trans (clean_st (t:=(t.keep c).enter p 6 0) (by show (6:Nat)≠1;decide)).symm}
theorem ended_fresh {m:Ln.M} {c:UInt8} {n:Int} (hn:m.clear.next c=n) (h:n=1∨n=2):Fresh (m.byte c)/\Ln.failed (m.byte c).last=false:=by
 have hl:(m.byte c).last=n:=hn;refine ⟨⟨?_,?_⟩,?_⟩
 ·rw [hl,if_pos];rcases h with rfl | rfl<;>rfl
 ·show (m.clear.next c==0&&c==13)=false;rw [hn];rcases h with rfl | rfl<;>rfl
 ·rw [hl];rcases h with rfl | rfl<;>rfl
theorem byte_some {m:Ln.M} {c:UInt8} (hm:m.next c=0):¬((m.told c).buf= []/\(m.next c==0&&c==13)=false):=by
 rintro ⟨h1,h2⟩;rw [hm] at h2;have hc:c≠13:=by
  intro e;rw [e] at h2
  exact absurd h2 (by decide)
 have hk:m.keeps c=true:=by
  unfold Ln.M.next at hm;unfold Ln.M.keeps;by_cases g1:Ln.failed m.last=true
  ·simp [g1] at hm
  ·by_cases g2:m.pend=true
   ·by_cases g3:c=10
    ·simp [g1,g2,g3] at hm
    ·by_cases g4:m.cr=true
     ·simp [g1,g2,g3,g4] at hm
     ·simp [g1,g2,g3,g4] at hm
   ·by_cases g3:c=10
    ·by_cases g4:m.lf=true
     ·simp [g1,g2,g3,g4] at hm
     ·simp [g1,g2,g3,g4] at hm
    ·by_cases g5:m.buf.length=m.most
     ·simp [g1,g2,g3,hc,g5] at hm
     ·simp [g1,g2,g3,hc,g5]
 have:(m.told c).buf=m.buf ++ [c]:=by show m.buf++(if m.keeps c then [c] else [])= _;rw [if_pos hk]
 rw [this] at h1;simp at h1
theorem more_new {c:UInt8} (hn:t.rd.clear.next c=0):({t with rd:=t.rd.byte c}:T).isNew=false:=by
 have h:=byte_some (m:=t.rd.clear) hn;have e1:(t.rd.byte c).len=(t.rd.clear.told c).buf.length:=by unfold Ln.M.len;have hl:(t.rd.byte c).last=0:=hn;rw [hl];rfl
 have e2:(t.rd.byte c).pend=(t.rd.clear.next c==0&&c==13):=rfl;unfold T.isNew;rw [Bool.eq_false_iff];intro hh;rw [Ao,decide_eq_true_eq,Ay] at hh;exact h ⟨BT (e1 ▸ hh.1),e2 ▸ hh.2⟩
theorem next_new (h:t.isNew=false):t.next=false:=by unfold T.next;rw [h,Bool.and_false,Bool.and_false]
theorem step_sim (h:R0 p b t s) (hn:Dv s.st=false) (ok:t.Ok) (c:UInt8) :
 s.rd.how c=t.rd.clear.next c/\(Ln.failed (t.rd.clear.next c)=false->
  R0 p b {t with rd:=t.rd.byte c} {s with fresh:=false,rd:=s.rd.byte c}/\({t with rd:=t.rd.byte c}:T).Ok/\(s.rd.byte c).L=(t.rd.byte c).line):=by
 obtain ⟨h1,h2⟩:=(h.rd hn).step ok.rd ok.nf c;refine ⟨h1,λhf=>?_⟩;obtain ⟨h3,h4⟩:=h2 hf
 exact ⟨{
  e:=h.e
  st:=h.st
  r:=h.r
  out:=h.out
  head:=h.head
  hl:=h.hl
  bl:=h.bl
  bl0:=h.bl0
  left:=h.left
  rd:=λ_=>h3
  fr:=λe=>absurd (hn.symm.trans e) (by decide)
  lf:=h.lf
  cr:=h.cr
  most:=h.most
  beh:=h.beh
  ch:=h.ch},ok.byteR c hf,h4⟩
theorem nextM_is (m:Ln.M) (c:UInt8) (hp:m.pend=false):m.next c≠2:=by
 unfold Ln.M.next;split
 ·decide
 ·rw [hp];simp only [Aw,if_false];split
  ·split<;>decide
  ·split
   ·decide
   ·split<;>decide
theorem took_sim (h:R0 p b t s) (hn:Dv s.st=false) (ok:t.Ok) (hc:s.clean=false) (c:UInt8) {n:Int} (hnx:t.rd.clear.next c=n) :
 s.rd.how c=n/\(n=0->RR p b {t with rd:=t.rd.byte c} {s with fresh:=false,rd:=s.rd.byte c})/\
 (n=1∨n=2->RQ p b (ends (({t with rd:=t.rd.byte c}:T).line p b (t.rd.byte c).line)) (({s with fresh:=false,rd:=s.rd.byte c}:S).ended p b (s.rd.byte c).L)):=by
 obtain ⟨k1,k2⟩:=step_sim h hn ok c;rw [hnx] at k1 k2;refine ⟨k1,λh0=>?_,λh12=>?_⟩
 ·obtain ⟨k3,k4,k5⟩:=k2 (by rw [h0];rfl)
  have hw:=more_new (t:=t) (c:=c) (hnx.trans h0)
  exact {k3 with
   fresh:=(next_new hw).symm
   clean:=by
    show s.clean= _
    rw [hw,Bool.and_false];exact hc}
 ·obtain ⟨k3,k4,k5⟩:=k2 (by rcases h12 with e | e<;> (rw [e];rfl));have hf:=(ended_fresh hnx h12).1;rw [k5];exact line_sim k3 k4 hf hc rfl hn _
theorem plain_sim (h:R0 p b t s) (hn:Dv s.st=false) (ok:t.Ok) (hc:s.clean=false) (hp:t.rd.pend=false) (h6:t.st≠6) (c:UInt8) :
 RQ p b (t.inLine p b c).1 (s.plain p b c):=by
 have hn':¬Dv s.st=true:=by rw [hn];decide
 obtain ⟨n,hnx⟩:∃n,t.rd.clear.next c=n:=⟨_,rfl⟩;obtain ⟨k1,k2,k3⟩:=took_sim h hn ok hc c hnx;have h2:n≠2:=by rw [←hnx];exact nextM_is t.rd.clear c hp
 have his:=Ln.M.next_is t.rd.clear c;rw [hnx] at his;have h6':(t.st==6)=false:=beq_eq_false_iff_ne.2 h6;unfold T.inLine S.plain;simp only [if_neg hn',k1,hnx,h6',Av,Aw,if_false];rcases his with e | e | e | e | e
 ·subst e;exact k2 rfl
 ·subst e
  exact k3 (.inl rfl)
 ·exact absurd e h2
 ·subst e;exact ⟨rfl,by decide,h.out,rfl⟩
 ·subst e;obtain ⟨g1,g2⟩:=long_sim h;simp only [Int.reduceEq,if_false,if_true];rw [g1];exact ⟨rfl,g2,h.out,rfl⟩
theorem line_cnt (ln:List UInt8) :
 ((t.line p b ln).2.cnt=t.cnt/\(t.line p b ln).2.size=t.size/\((t.line p b ln).2.st=1->t.st=1)/\((t.line p b ln).2.st=2->t.st=1∨t.st=2))∨
 ((t.line p b ln).2.cnt=false/\(t.line p b ln).2.size=0/\(t.line p b ln).2.st=1/\t.st≠1):=by
 unfold T.line;by_cases h1:t.st=1
 ·left;simp only [if_pos h1];unfold T.first;split
  ·exact ⟨rfl,rfl,λ_=>h1,λ_=>.inl h1⟩
  ·simp only;split
   ·exact ⟨rfl,rfl,λ_=>h1,λ_=>.inl h1⟩
   ·exact ⟨rfl,rfl,λ_=>h1,λ_=>.inl h1⟩
 simp only [if_neg h1];by_cases h2:t.st=2
 ·simp only [if_pos h2];unfold T.fields;by_cases hs:ln= []
  ·simp only [if_pos hs];unfold T.endHead;generalize Frm.decideV (Frm.clOf p) b.ch b.x3 t.r.k t.r.fs=d;simp only;split
   ·exact .inl ⟨rfl,rfl,λe=>absurd (h2.symm.trans e) (by decide),λ_=>.inr h2⟩
   ·split
    ·exact .inl ⟨rfl,rfl,λe=>absurd e (by show (4:Nat)≠1;decide),λ_=>.inr h2⟩
    ·split
     ·exact .inr ⟨rfl,rfl,rfl,h1⟩
     ·exact .inl ⟨rfl,rfl,λe=>absurd e (by show (3:Nat)≠1;decide),λ_=>.inr h2⟩
  ·simp only [if_neg hs];exact .inl ⟨by trivial,by trivial,λe=>e,λ_=>.inr h2⟩
 simp only [if_neg h2];by_cases h4:t.st=4
 ·left;simp only [if_pos h4];unfold T.chunk;simp only;split
  ·exact ⟨rfl,rfl,λe=>absurd (h4.symm.trans e) (by decide),λe=>absurd (h4.symm.trans e) (by decide)⟩
  ·split
   ·exact ⟨rfl,rfl,λe=>absurd e (by show (7:Nat)≠1;decide),λe=>absurd e (by show (7:Nat)≠2;decide)⟩
   ·split
    ·exact ⟨rfl,rfl,λe=>absurd (h4.symm.trans e) (by decide),λe=>absurd (h4.symm.trans e) (by decide)⟩
    ·exact ⟨rfl,rfl,λe=>absurd e (by show (5:Nat)≠1;decide),λe=>absurd e (by show (5:Nat)≠2;decide)⟩
 simp only [if_neg h4];by_cases h7:t.st=7
 ·simp only [if_pos h7];unfold T.trail;by_cases hs:ln= []
  ·simp only [if_pos hs];exact .inr ⟨rfl,rfl,rfl,h1⟩
  ·simp only [if_neg hs];exact .inl ⟨by trivial,by trivial,λe=>e,λe=>absurd e h2⟩
 simp only [if_neg h7];exact .inl ⟨rfl,rfl,λe=>absurd e (by show (4:Nat)≠1;decide),λe=>absurd e (by show (4:Nat)≠2;decide)⟩
theorem R0.of_counted (h:R0 p b t s) (hc:t.cnt=false):R0 p b t.counted {s with head:=s.head+1,clean:=false}:=by
 have e:t.counted={t with cnt:=true,size:=t.size+1}:=by unfold T.counted;rw [hc];rfl
 rw [e];exact ⟨h.e,h.st,h.r,h.out,congrArg (·+1) h.head,h.hl,h.bl,h.bl0,h.left,h.rd,h.fr,h.lf,h.cr,h.most,h.beh,h.ch⟩
theorem R0.dirty (h:R0 p b t s):R0 p b t {s with clean:=false}:=⟨h.e,h.st,h.r,h.out,h.head,h.hl,h.bl,h.bl0,h.left,h.rd,h.fr,h.lf,h.cr,h.most,h.beh,h.ch⟩
theorem RQ.err {e:Nat} {o:List D7} (h:RQ p b (.dead e o) s):s.e≠0:=by obtain ⟨h1,h2, -, -⟩:=h;rw [h1];exact h2
theorem look_count (h:R0 p b t s) (ok:t.Ok) (hb:b.right=true) (hc:t.cnt=false) (hh:Par.headed s.st=true) (hp:t.rd.pend=false) (h6:t.st≠6) (c:UInt8) :
 RQ p b (t.look p b c).1 (s.count b (λs=>s.plain p b c)):=by
 have hbd:Dv s.st=false:=by
  unfold Par.headed at hh;unfold Dv;simp only [Az,beq_iff_eq] at hh
  rcases hh with (e | e) | e<;> (rw [e];rfl)
 have hb':Pg.bodied t.st=false:=(bod h).trans hbd;have hh':Pg.headed t.st=true:=(hed h).trans hh;have h1:=h.of_counted hc;have esz:t.counted.size=s.head+1:=h1.head.symm;have eS:s.count b (λs=>s.plain p b c)=if b.x2<((s.head+1:Nat):Int) then S.fail {s with head:=s.head+1} 431 else ({s with head:=s.head+1,clean:=false}:S).plain p b c:=by unfold S.count;rw [if_neg (λhn=>hn h.e),if_pos hh]
 rw [eS];unfold T.look;rw [if_neg (by rw [hb'];decide),if_pos hh',esz]
 by_cases hx:b.x2<((s.head+1:Nat):Int)
 ·rw [if_pos hx,if_pos hx];exact ⟨rfl,by decide,h.out,rfl⟩
 ·rw [if_neg hx,if_neg hx]
  have hok:t.counted.Ok:=ok.counted hb (by rw [esz];exact hx);exact plain_sim h1 hbd hok rfl (by rw [counted_rd];exact hp) (by rw [counted_st];exact h6) c
theorem look_plain (h:R0 p b t s) (ok:t.Ok) (hh:Pg.headed t.st=true->t.cnt=true/\¬b.x2<(t.size:Int)) (hc:s.clean=false) (hp:t.rd.pend=false) (h6:t.st≠6) (c:UInt8) :
 RQ p b (t.look p b c).1 (s.plain p b c):=by
 unfold T.look;by_cases hbd:Dv s.st=true
 ·rw [if_pos ((bod h).trans hbd)];unfold S.plain;simp only [if_pos hbd];exact body_sim (s:={s with fresh:=false}) {h with} ok hc rfl hbd c
 ·have hb':Dv s.st=false:=by simpa using hbd
  rw [if_neg (by rw [bod h];exact hbd)];by_cases h2:Pg.headed t.st=true
  ·obtain ⟨e1,e2⟩:=hh h2;have e3:t.counted=t:=by unfold T.counted;rw [if_pos e1]
   rw [if_pos h2,e3,if_neg e2];exact plain_sim h hb' ok hc hp h6 c
  ·rw [if_neg h2];exact plain_sim h hb' ok hc hp h6 c
theorem again_sim {t1 t2:T} {s2:S} (h:RR p b t2 s2) (ok2:t2.Ok) (hb:b.right=true) (hp:t2.rd.pend=false) (h6:t2.st≠6) {was:Nat} (hw:t1.st=was+1)
 (hcnt:t1.cnt=Par.headed was) (hsz:Par.headed was=true->¬b.x2<(t1.size:Int)) {ln:List UInt8} (he:t1.line p b ln=(0,t2)) (c:UInt8) :
 RQ p b (t2.look p b c).1 (s2.again p b c was):=by
 have hl:=line_cnt (p:=p) (b:=b) (t:=t1) ln;rw [he] at hl;simp only at hl;have hst:=h.st;unfold DJ;by_cases hA:s2.st=0/\was≠0
 ·rw [if_pos (by simp [hA.1,hA.2])];rcases hl with ⟨-, -,k, -⟩ | ⟨k, -, -, -⟩
  ·have:=k (by omega);omega
  ·exact look_count h.toR0 ok2 hb k (by rw [hA.1];rfl) hp h6 c
 ·rw [if_neg (by
   intro hh;rw [Ao,beq_iff_eq,Ay,beq_eq_false_iff_ne] at hh
   exact hA hh)]
  simp only;by_cases hB:Par.headed was=false/\s2.st=6
  ·rw [if_pos (by simp [hB.1,hB.2])];have k:t2.cnt=false:=by
    rcases hl with ⟨k, -, -, -⟩ | ⟨k, -, -, -⟩
    ·rw [k,hcnt];exact hB.1
    ·exact k
   exact look_count (s:={s2 with clean:=false}) h.toR0.dirty ok2 hb k (by show Par.headed s2.st=true;rw [hB.2];rfl) hp h6 c
  ·rw [if_neg (by
    intro hh;rw [Ao,beq_iff_eq,Ay] at hh
    exact hB hh)]
   refine look_plain h.toR0.dirty ok2 (λhh=>?_) rfl hp h6 c;have hh2:Par.headed s2.st=true:=(hed h.toR0).symm.trans hh;have hwas:Par.headed was=true/\t2.cnt=t1.cnt/\t2.size=t1.size:=by
    rcases hl with ⟨k1,k2,k3,k4⟩ | ⟨-, -,k3,k4⟩
    ·refine ⟨?_,k1,k2⟩;unfold Par.headed at hh2;simp only [Az,beq_iff_eq] at hh2;rcases hh2 with (e | e) | e
     ·have:=k3 (by omega);have:was=0:=by omega
      rw [this];rfl
     ·rcases k4 (by omega) with e1 | e1
      ·have:was=0:=by omega
       rw [this];rfl
      ·have:was=1:=by omega
       rw [this];rfl
     ·cases hw2:Par.headed was with
      | true=>rfl
      | false=>exact absurd ⟨hw2,e⟩ hB
    ·exact absurd ⟨by omega,by omega⟩ hA
   obtain ⟨g1,g2,g3⟩:=hwas;exact ⟨by rw [g2,hcnt];exact g1,by rw [g3];exact hsz g1⟩
theorem ends_cases {x:Nat × T} {q:Q} (h:ends x=q):(∃t2,x=(0,t2)/\q=.live t2)∨∃e o,q=.dead e o:=by
 unfold ends at h;split at h
 ·rename_i h0;exact .inl ⟨x.2,Prod.ext h0 rfl,h.symm⟩
 ·exact .inr ⟨_,_,h.symm⟩
theorem byte1_sim {t0:T} (h:R0 p b t0 s) (hn:Dv s.st=false) (ok:t0.Ok) (hb:b.right=true) (hc:s.clean=false) (hcnt:t0.cnt=Par.headed s.st) (hsz:Par.headed s.st=true->¬b.x2<(t0.size:Int)) (c:UInt8) :
 RQ p b (match t0.inLine p b c with
  |(.live t1,false)=>(t1.look p b c).1
  |(x,_)=>x) (s.byte1 p b c):=by
 have hn':¬Dv s.st=true:=by rw [hn];decide
 have hb0:Pg.bodied t0.st=false:=(bod h).trans hn;obtain ⟨n,hnx⟩:∃n,t0.rd.clear.next c=n:=⟨_,rfl⟩;obtain ⟨k1,k2,k3⟩:=took_sim h hn ok hc c hnx;have his:=Ln.M.next_is t0.rd.clear c;rw [hnx] at his;have e5:(t0.st==6)=(s.st==5):=by rw [Au,beq_iff_eq,beq_iff_eq,h.st];omega
 have hag:∀t',t0.inLine p b c=(.live t',false)->t'.rd.pend=false/\t'.st≠6:=λt'=>inLine_again hb0 c
 have hok:∀t' u,t0.inLine p b c=(.live t',u)->t'.Ok:=λt' u e=>ok.inLine hb c (by rw [e]);unfold S.byte1;simp only [if_neg hn',k1];unfold T.inLine at hag hok ⊢;simp only [hnx,e5] at hag hok ⊢;rcases his with e | e | e | e | e
 ·subst e;exact k2 rfl
 ·subst e;simp only [Int.reduceEq,if_false,Int.reduceBEq,Bool.not_false] at hag hok ⊢
  have k4:=k3 (.inl rfl);generalize ends (T.line p b {t0 with rd:=t0.rd.byte c} (t0.rd.byte c).line)=q at k4 ⊢;cases q<;>exact k4
 ·subst e
  have k4:=k3 (.inr rfl);simp only [Int.reduceEq,if_false,if_true,BEq.rfl,Bool.not_true] at hag hok ⊢;generalize hq:ends (T.line p b {t0 with rd:=t0.rd.byte c} (t0.rd.byte c).line)=q at hag hok k4 ⊢;generalize hs2:S.ended p b {s with fresh:=false,rd:=s.rd.byte c} (s.rd.byte c).L=s2 at k4 ⊢;rcases ends_cases hq with ⟨t2,g1,rfl⟩ | ⟨e,o,rfl⟩
  ·have k5:RR p b t2 s2:=k4;simp only;rw [if_pos k5.e];obtain ⟨g2,g3⟩:=hag t2 rfl;exact again_sim k5 (hok t2 false rfl) hb g2 g3 (t1:={t0 with rd:=t0.rd.byte c}) h.st hcnt hsz g1 c
  ·simp only;rw [if_neg k4.err];exact k4
 ·subst e;exact ⟨rfl,by decide,h.out,rfl⟩
 ·subst e;obtain ⟨g1,g2⟩:=long_sim h;simp only [Int.reduceEq,if_false,if_true] at hag hok ⊢;by_cases hce:(s.st==5&&D0 p 29)=true
  ·simp only [if_pos hce] at hag hok ⊢;have hs5:s.st=5:=by
    rw [Ao,beq_iff_eq] at hce;exact hce.1
   obtain ⟨g3,g4⟩:=hag _ rfl;have he:=enter_sim (t:=t0) (s:={s with fresh:=false}) {h with} hs5;exact look_plain he (hok _ _ rfl) (λhh=>absurd hh (by show Pg.headed 4≠true;decide)) hc g3 g4 c
  ·simp only [if_neg hce];rw [g1];exact ⟨rfl,g2,h.out,rfl⟩
theorem take_sim (h:RR p b t s) (ok:t.Ok) (hb:b.right=true) (c:UInt8):RQ p b (t.take p b c) (s.byte p b c):=by
 have h0:R0 p b ({t with cnt:=false}:T) {s with clean:=false}:=⟨h.e,h.st,h.r,h.out,h.head,h.hl,h.bl,h.bl0,h.left,h.rd,h.fr,h.lf,h.cr,h.most,h.beh,h.ch⟩;have ok0:({t with cnt:=false}:T).Ok:=ok.cleared;unfold T.take S.byte S.count;rw [if_neg (λhn=>hn h.e)];unfold T.look;have hbe:Pg.bodied ({t with cnt:=false}:T).st=Dv s.st:=bod (t:=t) h.toR0;have hhe:Pg.headed ({t with cnt:=false}:T).st=Par.headed s.st:=hed (t:=t) h.toR0;rw [hbe,hhe];by_cases hbd:Dv s.st=true
 ·have hnh:¬Par.headed s.st=true:=by
   unfold Dv at hbd;unfold Par.headed;simp only [Az,beq_iff_eq] at hbd ⊢;omega
  rw [if_pos hbd,if_neg hnh];have e1:({s with clean:=false}:S).byte1 p b c=({s with fresh:=false,clean:=false}:S).bodyB p b c:=by unfold S.byte1;simp only [if_pos hbd]
  simp only [e1];exact body_sim (s:={s with fresh:=false,clean:=false}) {h0 with} ok0 rfl rfl hbd c
 ·have hbd':Dv s.st=false:=by simpa using hbd
  rw [if_neg hbd];by_cases hh:Par.headed s.st=true
  ·rw [if_pos hh,if_pos hh];have h1:R0 p b ({t with cnt:=false}:T).counted {s with head:=s.head+1,clean:=false}:=h0.of_counted rfl;have esz:({t with cnt:=false}:T).counted.size=s.head+1:=h1.head.symm;rw [esz]
   by_cases hx:b.x2<((s.head+1:Nat):Int)
   ·rw [if_pos hx,if_pos hx];exact ⟨rfl,by decide,h.out,rfl⟩
   ·rw [if_neg hx,if_neg hx]
    have hok:=ok0.counted hb (by rw [esz];exact hx);exact byte1_sim h1 hbd' hok hb rfl hh.symm (λ_=>by rw [esz];exact hx) c
  ·rw [if_neg hh,if_neg hh];have hh':Par.headed s.st=false:=by simpa using hh
   exact byte1_sim h0 hbd' ok0 hb rfl hh'.symm (λe=>absurd e hh) c
def Q.Fine (b:Bd):Q->Prop
 | .live t=>t.Ok/\b.right=true
 | .dead _ _=>True
theorem Q.Fine.byte {x:Q} (h:x.Fine b) (c:UInt8):(x.byte p b c).Fine b:=by
 cases x with
 | live t=>
   show (t.take p b c).Fine b;cases hq:t.take p b c with
   | live t'=>exact ⟨h.1.take h.2 c hq,h.2⟩
   | dead e o=>trivial
 | dead e o=>trivial
theorem byte_sim {x:Q} (h:RQ p b x s) (ok:x.Fine b) (c:UInt8):RQ p b (x.byte p b c) (s.byte p b c):=by
 cases x with
 | live t=>exact take_sim h ok.1 ok.2 c
 | dead e o=>
   rw [S.byte_dead h.err];exact h
theorem feed_sim (l:List UInt8):∀{x:Q} {s:S},RQ p b x s->x.Fine b->RQ p b (x.feed p b l) (s.feed p b l)/\(x.feed p b l).Fine b:=by
 induction l with
 | nil=>intro x s h ok;exact ⟨h,ok⟩
 | cons c l ih=>intro x s h ok;exact ih (byte_sim h ok c) (ok.byte c)
theorem new_sim:RQ p b (Q.new p b) (S.new p b):=by
 unfold Q.new S.new;by_cases h:(b.right&&decide (p<1073741824))=true
 ·rw [if_pos h,if_pos h]
  exact {
   e:=rfl
   st:=rfl
   r:=rfl
   out:=rfl
   head:=rfl
   hl:=λ_=>rfl
   bl:=λe=>absurd e (by show (0:Nat)≠6;decide)
   bl0:=λ_=>rfl
   left:=λe=>absurd e (by show Dv 0≠true;decide)
   rd:=λ_=>⟨rfl,rfl,rfl,rfl,rfl,rfl⟩
   fr:=λe=>absurd e (by show Dv 0≠true;decide)
   lf:=rfl
   cr:=rfl
   most:=λ_=>rfl
   beh:=λe=>absurd e (by show (0:Nat)≠5;decide)
   ch:=rfl
   fresh:=rfl
   clean:=rfl}
 ·rw [if_neg h,if_neg h];exact ⟨rfl,by decide,rfl,rfl⟩
theorem said_sim {x:Q} (h:RQ p b x s) (ok:x.Fine b):s.e=x.err/\s.out=x.out/\s.waits=x.waits/\s.held=x.held/\s.clean=x.clean:=by
 cases x with
 | live t=>
   refine ⟨h.e,h.out,?_,?_,h.clean⟩
   ·show (decide (s.e=0)&&(s.fresh&&Rec.expects s.r))=(t.next&&Rec.expects t.r);rw [h.e,h.fresh,h.r];rfl
   ·show (if s.e=0 then Rec.size s.r+(if Dv s.st=true then 0 else s.rd.B.length) else 0)=t.rd.len+Rec.size t.r;rw [if_pos h.e,h.r];by_cases hb:Dv s.st=true
    ·rw [if_pos hb];have:=(h.fr hb).isNew;unfold T.isNew at this;rw [Ao,decide_eq_true_eq] at this;rw [this.1];omega
    ·rw [if_neg hb];have h1:=(h.rd (by simpa using hb)).B;have:s.rd.B.length=t.rd.len:=by
      rw [h1];unfold Ln.M.len;split<;>rfl
     omega
 | dead e o=>
   obtain ⟨h1,h2,h3,h4⟩:=h;refine ⟨h1,h3,?_,?_,h4⟩
   ·show (decide (s.e=0) && _)=false;rw [decide_eq_false (by rw [h1];exact h2),Av]
   ·show (if s.e=0 then _ else 0)=0;rw [if_neg (by rw [h1];exact h2)]
theorem told_sim {x:Q} (h:RQ p b x s):RQ p b x.told {s with out:= []}:=by
 cases x with
 | live t=>exact ⟨⟨h.e,h.st,h.r,rfl,h.head,h.hl,h.bl,h.bl0,h.left,h.rd,h.fr,h.lf,h.cr,h.most,h.beh,h.ch⟩,h.fresh,h.clean⟩
 | dead e o=>
   obtain ⟨h1,h2, -,h4⟩:=h;exact ⟨h1,h2,rfl,h4⟩
theorem told_fine {x:Q} (h:x.Fine b):x.told.Fine b:=by
 cases x with
 | live t=>exact ⟨⟨h.1.rd,h.1.nf,h.1.st,h.1.hl,h.1.bl,h.1.fsl,h.1.tsl,h.1.fss,h.1.tss,h.1.m,h.1.x,h.1.body,h.1.left,h.1.early,h.1.size⟩,h.2⟩
 | dead e o=>trivial
end
end Go.Proofs.YtdfabddnpgjepaaGreatDoor.Pg
namespace Go.Proofs.YtdfabddnpgjepaaGreatDoor.Pg
open Go.RowKit Base Txt Par
def T.pre (o:List D7) (t:T):T:={t with out:=o++t.out}
def Q.pre (o:List D7):Q->Q
 | .live t=>.live (t.pre o)
 | .dead e x=>.dead e (o++x)
section
variable {p:Nat} {b:Bd} {t:T} {o:List D7} {s:List UInt8} {c:UInt8}
end
end Go.Proofs.YtdfabddnpgjepaaGreatDoor.Pg
namespace Go.Proofs.YtdfabddnpgjepaaGreatDoor.Par
open Go.RowKit Base Txt Mem
abbrev nil:Value:=ZX none 0 0
structure Cs (w:World) (g:Nat) (p:Nat) (b:Bd) (s:S) (q:Nat) (f bd t o:Value):Prop where
 c0:w.cell? ⟨g,0,none⟩=some (ZZ ZQ (p:Int))
 c1:w.cell? ⟨g,1,none⟩=some (ZZ ZS b.x0)
 c2:w.cell? ⟨g,2,none⟩=some (ZZ ZS b.x1)
 c3:w.cell? ⟨g,3,none⟩=some (ZZ ZS b.x2)
 c4:w.cell? ⟨g,4,none⟩=some (ZZ ZS b.x3)
 c5:w.cell? ⟨g,5,none⟩=some (ZZ ZS b.x4)
 c6:w.cell? ⟨g,6,none⟩=some (ZZ ZS b.x5)
 c7:w.cell? ⟨g,7,none⟩=some (ZZ ZS b.x6)
 c8:w.cell? ⟨g,8,none⟩=some (ZZ ZS b.x7)
 c9:w.cell? ⟨g,9,none⟩=some (ZW b.ch)
 c10:w.cell? ⟨g,10,none⟩=some (ZW b.od)
 c11:w.cell? ⟨g,11,none⟩=some (ZZ ZS (s.st:Int))
 c12:w.cell? ⟨g,12,none⟩=some (ptr q)
 c13:w.cell? ⟨g,13,none⟩=some (ZY s.r.m)
 c14:w.cell? ⟨g,14,none⟩=some (ZY s.r.x)
 c15:w.cell? ⟨g,15,none⟩=some (ZZ ZS s.r.k)
 c16:w.cell? ⟨g,16,none⟩=some (f)
 c17:w.cell? ⟨g,17,none⟩=some (ZW s.r.ch)
 c18:w.cell? ⟨g,18,none⟩=some (bd)
 c19:w.cell? ⟨g,19,none⟩=some (t)
 c20:w.cell? ⟨g,20,none⟩=some (ZZ ZS (s.lines:Int))
 c21:w.cell? ⟨g,21,none⟩=some (ZZ ZS (s.head:Int))
 c22:w.cell? ⟨g,22,none⟩=some (ZZ ZS (s.left:Int))
 c23:w.cell? ⟨g,23,none⟩=some (ZW s.fresh)
 c24:w.cell? ⟨g,24,none⟩=some (ZW s.clean)
 c25:w.cell? ⟨g,25,none⟩=some (ZZ ZS (s.e:Int))
 c26:w.cell? ⟨g,26,none⟩=some (o)
theorem Cs.of {w:World} {g:Nat} {p:Nat} {b:Bd} {s:S} {q:Nat} {f bd t o:Value} (h:w.heap[g]?=some (.cells (pcells p b s q f bd t o).toArray 60 (0,0))):Cs w g p b s q f bd t o:=⟨row_cellL h rfl,row_cellL h rfl,row_cellL h rfl,row_cellL h rfl,row_cellL h rfl,row_cellL h rfl,row_cellL h rfl,row_cellL h rfl,row_cellL h rfl,row_cellL h rfl,row_cellL h rfl,row_cellL h rfl,row_cellL h rfl,row_cellL h rfl,row_cellL h rfl,row_cellL h rfl,row_cellL h rfl,row_cellL h rfl,row_cellL h rfl,row_cellL h rfl,row_cellL h rfl,row_cellL h rfl,row_cellL h rfl,row_cellL h rfl,row_cellL h rfl,row_cellL h rfl,row_cellL h rfl⟩
section
set_option maxHeartbeats 4000000
set_option maxRecDepth 20000
variable {w:World} {B:Zone} {g q:Nat} {v f bd t o:Value} {p:Nat} {b:Bd} {s:S}
theorem PR.cs (h:PR w B g q v f bd t o p b s):Cs w g p b s q f bd t o:=Cs.of h.row
theorem PR.marks (h:PR w B g q v f bd t o p b s) (k:Nat):w.frozen? ⟨g,k,none⟩=false:=CV h.row k
theorem PR.zero_of {f1 bd1 t1:Value} {fs1 ts1:List Fld} {body1:List UInt8} (hr:w.heap[g]?=some (.cells (pcells p b s q f bd t o).toArray 60 (0,0))) (ho:Own w B g q v f1 bd1 t1 o p s.rd fs1 body1 ts1 s.out) (s':S) (hs:s'={s with r:=zero}) :
 PR (((((((w.setCell ⟨g,13,none⟩ (ZY E0)).setCell ⟨g,14,none⟩ (ZY E0)).setCell ⟨g,15,none⟩ (ZZ ZS 0)).setCell ⟨g,16,none⟩ nil).setCell ⟨g,17,none⟩ (ZW false)).setCell ⟨g,18,none⟩ nil).setCell ⟨g,19,none⟩ nil) B g q v nil nil nil o p b s':=by
 subst hs;refine ⟨?_,(((((((ho.zero).set 13 _).set 14 _).set 15 _).set 16 _).set 17 _).set 18 _).set 19 _⟩;exact row_setL (row_setL (row_setL (row_setL (row_setL (row_setL (row_setL hr 13 _) 14 _) 15 _) 16 _) 17 _) 18 _) 19 _
theorem PR.zero (h:PR w B g q v f bd t o p b s) (s':S) (hs:s'={s with r:=zero}):PR (((((((w.setCell ⟨g,13,none⟩ (ZY E0)).setCell ⟨g,14,none⟩ (ZY E0)).setCell ⟨g,15,none⟩ (ZZ ZS 0)).setCell ⟨g,16,none⟩ nil).setCell ⟨g,17,none⟩ (ZW false)).setCell ⟨g,18,none⟩ nil).setCell ⟨g,19,none⟩ nil) B g q v nil nil nil o p b s':=
 PR.zero_of h.row h.own s' hs
theorem Step.put7 (u13 u14 u15 u16 u17 u18 u19:Value):Step (blks g q v f bd t o) (blks g q v f bd t o) w (((((((w.setCell ⟨g,13,none⟩ u13).setCell ⟨g,14,none⟩ u14).setCell ⟨g,15,none⟩ u15).setCell ⟨g,16,none⟩ u16).setCell ⟨g,17,none⟩ u17).setCell ⟨g,18,none⟩ u18).setCell ⟨g,19,none⟩ u19):=
 ((((((DS g 13 _ (by simp)).trans (DS g 14 _ (by simp))).trans (DS g 15 _ (by simp))).trans (DS g 16 _ (by simp))).trans (DS g 17 _ (by simp))).trans (DS g 18 _ (by simp))).trans (DS g 19 _ (by simp))
theorem fail_any (h:PR w B g q v f bd t o p b s) (e:Nat):Calls EW 115 #[ptr g,ZZ ZS (e:Int)] w λr w'=>
 r=.returned (ZT #[])/\PR w' B g q v nil nil nil o p b (s.fail e)/\Step (blks g q v f bd t o) (blks g q v nil nil nil o) w w':=by
 have H:=Bx h;have c24:=h.cs.c24;have z24:=h.marks 24;have c25:=h.cs.c25;have z25:=h.marks 25;have c13:=h.cs.c13;have z13:=h.marks 13;have c14:=h.cs.c14;have z14:=h.marks 14;have c15:=h.cs.c15;have z15:=h.marks 15;have c16:=h.cs.c16;have z16:=h.marks 16;have c17:=h.cs.c17;have z17:=h.marks 17;have c18:=h.cs.c18;have z18:=h.marks 18;have c19:=h.cs.c19;have z19:=h.marks 19
 have H1:=Bx (h.put 25 (ZZ ZS (e:Int)) {s with e:=e} rfl rfl rfl rfl rfl rfl)
 have H2:=Bx (H1.out.put 24 (ZW false) {s with e:=e,clean:=false} rfl rfl rfl rfl rfl rfl);clear h;go_enter Tryz.func115,Tryz.ntmps115;go_wp2;go_end0;exact ⟨rfl,H2.out.zero _ rfl,((DS g 25 _ (by simp)).trans (DS g 24 _ (by simp))).trans ((Step.put7 _ _ _ _ _ _ _).trans Step.zero)⟩
theorem rnew_line (B:Nat) (most:Int) (w:World) (hB:B<=w.heap.size):Calls EW 113 #[ZZ ZQ (p:Int),ZZ ZS most] w λr w'=>∃q1,r=.returned (ptr q1)/\w.heap.size<=q1/\Ln.Rr w' B q1 nil p (nl p most)/\Below w.heap.size w w':=by refine (Ln.rnew_any p most w).mono ?_;exact XX8I9
theorem XXSdZ {P:Prop} (h:P:=by refine AP rfl (λev w1 hR hb hh=>?_);have e0:=hR.old 0 rfl;simp only [Ag,Cg,BY,BZ,Ds] at e0;have q0:=(HQ.out.below hb).c 0 _ rfl;have q1:=(HQ.out.below hb).c 1 _ rfl;exact Each.std):P:=h
theorem XXJwx {P:Prop} (h:P:=by
 clear hh;have ef:=hR.func
 refine AG 113 #[ZZ ZQ (p:Int),ZZ ZS (b.x0)] (by go_simp) ((rnew_line B (b.x0) w1 (Dd HBW.out hb.size)).mono ?_);rintro r w2 ⟨q1,rfl,h1,h2,hb2⟩
 exact ⟨_,rfl,hb2,q1,rfl,Dd hb.size h1,h2⟩):P:=h
theorem next_any {f1 bd1 t1:Value} {fs1 ts1:List Fld} {body1:List UInt8} (hrow:w.heap[g]?=some (.cells (pcells p b s q f bd t o).toArray 60 (0,0))) (ho:Own w B g q v f1 bd1 t1 o p s.rd fs1 body1 ts1 s.out):Calls EW 70 #[ptr g] w λr w'=>
 r=.returned (ZT #[])/\∃q1,PR w' B g q1 nil nil nil nil o p b (s.next p b)/\Step (blks g q v f1 bd1 t1 o) (blks g q1 nil nil nil nil o) w w':=by
 have H1:=Bx ((((((PR.zero_of hrow ho {s with r:=zero} rfl).put 11 (ZZ ZS 0) {s with r:=zero,st:=0} rfl rfl rfl rfl rfl rfl).put 20 (ZZ ZS 0) {s with r:=zero,st:=0,lines:=0} rfl rfl rfl rfl rfl rfl).put 21 (ZZ ZS 0) {s with r:=zero,st:=0,lines:=0,head:=0} rfl rfl rfl rfl rfl rfl).put 23 (ZW false) {s with r:=zero,st:=0,lines:=0,head:=0,fresh:=false} rfl rfl rfl rfl rfl rfl).put 24 (ZW true) {s with r:=zero,st:=0,lines:=0,head:=0,fresh:=false,clean:=true} rfl rfl rfl rfl rfl rfl)
 have HS:=Bx ((((((Step.put7 (w:=w) (g:=g) (q:=q) (v:=v) (f:=f1) (bd:=bd1) (t:=t1) (o:=o) (ZY E0) (ZY E0) (ZZ ZS 0) nil (ZW false) nil nil).trans (DS g 11 (ZZ ZS 0) (by simp))).trans (DS g 20 (ZZ ZS 0) (by simp))).trans (DS g 21 (ZZ ZS 0) (by simp))).trans (DS g 23 (ZW false) (by simp))).trans (DS g 24 (ZW true) (by simp)));have cs:=Cs.of hrow;have c11:=cs.c11;have z11:=CV hrow 11;have c20:=cs.c20;have z20:=CV hrow 20;have c21:=cs.c21;have z21:=CV hrow 21;have c23:=cs.c23;have z23:=CV hrow 23;have c24:=cs.c24;have z24:=CV hrow 24;have c13:=cs.c13;have z13:=CV hrow 13;have c14:=cs.c14;have z14:=CV hrow 14;have c15:=cs.c15;have z15:=CV hrow 15;have c16:=cs.c16;have z16:=CV hrow 16;have c17:=cs.c17;have z17:=CV hrow 17;have c18:=cs.c18;have z18:=CV hrow 18;have c19:=cs.c19;have z19:=CV hrow 19
 have HB:=Bx (ho.ge);clear hrow ho cs;go_enter Tryz.func70,Tryz.ntmps70;go_upto_region 1 with fail
 generalize (((((((((((w.setCell ⟨g,13,none⟩ (ZY E0)).setCell ⟨g,14,none⟩ (ZY E0)).setCell ⟨g,15,none⟩ (ZZ ZS 0)).setCell ⟨g,16,none⟩ (nil)).setCell ⟨g,17,none⟩ (ZW false)).setCell ⟨g,18,none⟩ (nil)).setCell ⟨g,19,none⟩ (nil)).setCell ⟨g,11,none⟩ (ZZ ZS 0)).setCell ⟨g,20,none⟩ (ZZ ZS 0)).setCell ⟨g,21,none⟩ (ZZ ZS 0)).setCell ⟨g,23,none⟩ (ZW false)).setCell ⟨g,24,none⟩ (ZW true)=W1 at *;clear c11 c20 c21 c23 c24 c13 c14 c15 c16 c17 c18 c19 z11 z20 z21 z23 z24 z13 z14 z15 z16 z17 z18 z19;obtain ⟨S1,hS1⟩:∃S1:S,{s with r:=zero,st:=0,lines:=0,head:=0,fresh:=false,clean:=true}=S1:=⟨_,rfl⟩;have HS1:=Bx hS1;rw [hS1] at H1;clear hS1
 have HQ:=Bx ((H1.out.drew 1).bk)
 have HBW:=Bx (show B<=(W1.drewN 1).heap.size from Dd HB.out (Da (H1.out.drew 1).own.lt));refine Each.region 11 [21,22,23,24,25,26,27,28,29,30,31] [eP g 0,eP g 0,eP g 0,eP g 0,eQ (ZZ ZQ (p:Int)),eP g 0,eP g 0,eP g 1,eP g 1,eQ (ZZ ZS b.x0),λv w=>∃q1,v=ptr q1/\W1.heap.size<=q1/\Ln.Rr w B q1 nil p (nl p (b.x0))] (.quiet 11 (.quiet 12 (.act 13 .done))) (by kernel_rfl) (by kernel_rfl) (by kernel_rfl) (by kernel_rfl) (λ_ _ d _ _ h=>by cases d<;>exact h) (by rfl) (by rfl) ⟨AK _,AK _,AK _,AK _,AK _,AK _,AK _,AK _,AK _,AK _,((λ_ _ _ hb h=>by obtain ⟨q1,e1,h1,h2⟩:=h;exact ⟨q1,e1,h1,rr_below h2 hb⟩)),trivial⟩ ?_ ?_
 ·refine ⟨?_,?_,?_,?_,?_,?_,?_,?_,?_,?_,?_,trivial⟩
  ·exact XXSdZ
  ·exact XXSdZ
  ·exact XXSdZ
  ·exact XXSdZ
  ·exact XXSdZ
  ·exact XXSdZ
  ·exact XXSdZ
  ·exact XXSdZ
  ·exact XXSdZ
  ·exact XXSdZ
  ·refine AP rfl (λev w1 hR hb hh=>?_);have e25:ev (.tmp 25)= _:=hh.at 0;have e30:ev (.tmp 30)= _:=hh.at 1;exact XXJwx
 intro g1 w2 hb hf;have z21:g1 21= _:=hf.at 0;have z31:=hf.at 10;clear hf;obtain ⟨q1,e1,hq1,hr1⟩:=z31;simp only [AU,Ab,CH,CK,CJ];rw [e1,z21];simp only [Ee,Ef,BZ,BY];refine Eg (by rfl) (ptr g) (λ_ _=>by go_simp) ?_;simp only [Ab,CH,CK,CJ];refine Eg (by rfl) (ZV (some ⟨g,12,none⟩)) (λ_ _=>by go_simp) ?_;simp only [Ab,CH,CK,CJ];have c12:=(H1.out.below hb).cs.c12;have z12:=(H1.out.below hb).marks 12
 refine Ec (by rfl) (λK hK=>?_);go_simp;refine hK _ _ trivial ?_;clear hK K;refine Ed ?_;have H2:=H1.out.line hb hr1 hq1
 have HS2:=(HS.out.trans Step.zero).trans ((Step.line hb hq1).trans (DS g 12 (ptr q1) (by simp)));rw [←HS1.out] at H2;clear H1 HQ HBW HS HS1 hr1 hq1 c12 z12;go_wp2;go_end0;exact ⟨rfl,q1,H2,HS2⟩
theorem record_info:(EW.info? 58).map (λi=>(i.zero,i.size,i.bytes))=some (some (ZU #[ZY A8,ZY A8,ZZ ZS 0,ZX none 0 0,ZW false,ZX none 0 0,ZX none 0 0]),7,120):=by kernel_rfl
theorem XXVVG {P:Prop} (h:P:=by refine AP rfl (λev w1 hR hb hh=>?_);have e0:=hR.old 0 rfl;simp only [Ag,Cg,BY,BZ,Ds] at e0;have q26:=(HQ.out.below hb).c 26 _ rfl;have q13:=(HQ.out.below hb).c 13 _ rfl;have q14:=(HQ.out.below hb).c 14 _ rfl;have q15:=(HQ.out.below hb).c 15 _ rfl;have q16:=(HQ.out.below hb).c 16 _ rfl;have q17:=(HQ.out.below hb).c 17 _ rfl;have q18:=(HQ.out.below hb).c 18 _ rfl;have q19:=(HQ.out.below hb).c 19 _ rfl;exact Each.std):P:=h
theorem XXKGe {P:Prop} (h:P:=by
 have H2:=H.out.below hb;obtain ⟨ps,hps,hfar,hrow⟩:=H2.own.O;obtain ⟨bo,co,eo, -⟩:=CT hrow;subst eo
 obtain ⟨v',w3,hrun,ho,hgr,hor⟩:=App.run_append_list w2 39 39 B 58 iR (.agg #[.string A8,.string A8,.int .i64 0,.slice none 0 0,.bool false,.slice none 0 0,.slice none 0 0]) 7 120 Tryz.underlying39 I1.out I2.out I3.out I4.out rfl (by decide) (.slice bo s.out.length co) s.out.length (ps.flatMap (·.1.toList)) hrow (some ⟨gl,0,none⟩) 1 1 [.string s.r.m,.string s.r.x,.int .i64 s.r.k,f,.bool s.r.ch,bd,t] rfl (λ_=>⟨gl,0,rfl,λj u hu=>by rw [Di];exact hBl.c j u hu⟩) (by intro u hu;simp only [C6,CD,or_false] at hu;rcases hu with rfl | rfl | rfl | rfl | rfl | rfl | rfl<;>first | rfl | exact one_own H2.own.F | exact one_own H2.own.D | exact one_own H2.own.T) (by have:=HN.out;unfold maxLen;omega) (by have:=HN.out;omega) (Dd H2.own.ge (Da H2.own.lt));obtain ⟨b9,c9,e9, -⟩:=CT ho;subst e9;have HP:=H2.own.push hgr ps hps hfar ho hor;have hr3:w3.heap[g]?=some (.cells (pcells p b s q f bd t (.slice bo s.out.length co)).toArray 60 (0,0)):=(hgr.block g H2.own.lt (λe=>H2.own.lone.ne (i:=0) (j:=6) rfl (by decide) (by rw [e];rfl))).trans H2.row
 refine Ec (by rfl) (λK hK=>?_);refine Each.oper_append _ _ _ rfl (by rfl) (by rfl) hrun ?_;refine hK _ _ trivial ?_;clear hK K hrun;simp only [Ab,CH,CK,CJ];refine Eg (by rfl) (ptr g) (λ_ _=>by go_simp) ?_;simp only [Ab,CH,CK,CJ];refine Eg (by rfl) (ZV (some ⟨g,26,none⟩)) (λ_ _=>by go_simp) ?_;simp only [Ab,CH,CK,CJ];have c26:=(Cs.of hr3).c26;have z26:=CV hr3 26
 refine Ec (by rfl) (λK hK=>?_);go_simp;refine hK _ _ trivial ?_;clear hK K;refine Ed ?_
 have hr4:=row_setL hr3 26 (.slice b9 (s.out.length+1) c9)
 have HP4:=HP.set 26 (.slice b9 (s.out.length+1) c9)
 have HS4:=((DP hb (L:=blks g q v f bd t (.slice bo s.out.length co))).trans (Step.push hgr hor)).trans (DS g 26 (.slice b9 (s.out.length+1) c9) (by simp))
 have HNX:=Bx (next_any (s:={s with out:=s.out ++ [s.r]}) hr4 HP4);have HS5:=Bx HS4;clear c26 z26 hr3 hr4 HP HP4 HS4 hgr ho hor hrow hfar hps H2 hBl;generalize w3.setCell ⟨g,26,none⟩ (.slice b9 (s.out.length+1) c9)=W4 at *
 go_wp2_with (go_at_call 70;with_reducible refine HNX.out.mono ?_;rintro r w5 ⟨rfl,q1,hp5,hs5⟩);go_end0
 exact ⟨rfl,q1,(.slice b9 (s.out.length+1) c9),hp5,HS5.out.trans hs5⟩):P:=h
theorem whole_any (h:PR w B g q v f bd t o p b s) (hn:s.out.length<=1000000000):Calls EW 158 #[ptr g] w λr w'=>
 r=.returned (ZT #[])/\∃q1 o1,PR w' B g q1 nil nil nil nil o1 p b (s.whole p b)/\Step (blks g q v f bd t o) (blks g q1 nil nil nil nil o1) w w':=by
 obtain ⟨iR,hi,hz0,hz1,hz2⟩:=info_parts record_info;have I1:=Bx hi;have I2:=Bx hz0;have I3:=Bx hz1;have I4:=Bx hz2;clear hi hz0 hz1 hz2;have H:=Bx h;have HN:=Bx hn
 have HQ:=Bx ((h.drew 1).bk);clear h hn;go_enter Tryz.func158,Tryz.ntmps158;go_upto_region 0 with fail
 refine Each.region_float 10 [2,3,4,5,6,7,8,9,10,11] [eP g 0,eP g 0,eP g 0,eP g 26,eQ (o),eP g 0,eP g 0,eP g 13,eQ (ZU #[ZY s.r.m,ZY s.r.x,ZZ ZS s.r.k,f,ZW s.r.ch,bd,t]),λv w=>∃g1,v=ZX (some ⟨g1,0,none⟩) 1 1/\D5 w g1 [ZY s.r.m,ZY s.r.x,ZZ ZS s.r.k,f,ZW s.r.ch,bd,t]] [] 4 (some 0) (.act 10 (.quiet 11 (.quiet 12 (.act 13 .done)))) (.quiet 0 (.act 10 (.quiet 11 (.quiet 12 (.act 13 .done))))) (by kernel_rfl) (by kernel_rfl) (by kernel_rfl) (by kernel_rfl) (λk0 h=>by cases h;kernel_rfl) (λ_ _ d _ _ h=>by cases d<;>exact h) (by rfl) (by rfl) ⟨AK _,AK _,AK _,AK _,AK _,AK _,AK _,AK _,AK _,((λ_ _ _ hb h=>by obtain ⟨g1,e1,hB⟩:=h;exact ⟨g1,e1,hB.below hb⟩)),trivial⟩ trivial (by rfl) ?_ ?_ ?_
 ·refine ⟨?_,?_,?_,?_,?_,?_,?_,?_,?_,?_,trivial⟩
  ·exact XXVVG
  ·exact XXVVG
  ·exact XXVVG
  ·exact XXVVG
  ·exact XXVVG
  ·exact XXVVG
  ·exact XXVVG
  ·exact XXVVG
  ·exact XXVVG
  ·refine AP rfl (λev w1 hR hb hh=>?_);have e10:ev (.tmp 10)= _:=hh.at 0;exact XX4eD
 ·intro g1 w2 hb hf;have z2:g1 2= _:=hf.at 0;have z6:g1 6= _:=hf.at 4;have z11:=hf.at 9;clear hf;obtain ⟨gl,el,hBl⟩:=z11;simp only [AU,Ab,CH,CK,CJ];rw [z2,z6,el];simp only [Ee,Ef,BZ,BY];exact XXKGe
 ·intro k0 hk0 g1 w2 hb hf;cases hk0;have z6:g1 6= _:=hf.at 4;have z11:=hf.at 9;clear hf;obtain ⟨gl,el,hBl⟩:=z11;simp only [AU,Ab,CH,CK,CJ];rw [z6,el];simp only [Ee,Ef,BZ,BY];refine Eg (by rfl) (ptr g) (λ_ _=>by go_simp) ?_;simp only [Ab,CH,CK,CJ];exact XXKGe
end
end Go.Proofs.YtdfabddnpgjepaaGreatDoor.Par
namespace Go.Proofs.YtdfabddnpgjepaaGreatDoor.Pg
open Go.RowKit Base Txt Mem Par
structure Acc (L:List (Option Nat)) (B:Nat) (w:World) (v:Value) (out:List D7):Prop where
 outs:Outs L ⟨B,[v.ownBlock]⟩ w v out
 far:∀k,v.ownBlock=some k->some k∉L/\k<w.heap.size
section
variable {L L':List (Option Nat)} {B:Nat} {w w':World} {v v' o:Value} {out out2:List D7}
end
end Go.Proofs.YtdfabddnpgjepaaGreatDoor.Pg
namespace Go.Proofs.YtdfabddnpgjepaaGreatDoor.Pg
open Go.RowKit Base Txt Mem Par
theorem k1_all:(Q.read 0 usual [80,79,83,84,32,47,97,32,72,84,84,80,47,49,46,49,13,10,72,111,115,116,58,32,104,13,10,84,114,97,110,115,102,101,114,45,69,110,99,111,100,105,110,103,58,32,99,104,117,110,107,101,100,13,10,13,10,51,13,10,97,98,99,13,10,48,13,10,84,58,32,117,13,10,13,10,71]).err=0/\(Q.read 0 usual [80,79,83,84,32,47,97,32,72,84,84,80,47,49,46,49,13,10,72,111,115,116,58,32,104,13,10,84,114,97,110,115,102,101,114,45,69,110,99,111,100,105,110,103,58,32,99,104,117,110,107,101,100,13,10,13,10,51,13,10,97,98,99,13,10,48,13,10,84,58,32,117,13,10,13,10,71]).clean=false/\(Q.read 0 usual [80,79,83,84,32,47,97,32,72,84,84,80,47,49,46,49,13,10,72,111,115,116,58,32,104,13,10,84,114,97,110,115,102,101,114,45,69,110,99,111,100,105,110,103,58,32,99,104,117,110,107,101,100,13,10,13,10,51,13,10,97,98,99,13,10,48,13,10,84,58,32,117,13,10,13,10,71]).out.map (λr=>(r.body,r.ts.length,r.ch))= [([97,98,99],1,true)]/\(Q.read 0 usual [80,79,83,84,32,47,97,32,72,84,84,80,47,49,46,49,13,10,72,111,115,116,58,32,104,13,10,84,114,97,110,115,102,101,114,45,69,110,99,111,100,105,110,103,58,32,99,104,117,110,107,101,100,13,10,13,10,51,13,10,97,98,99,13,10,48,13,10,84,58,32,117,13,10,13,10,71]).out.length=1:=by decide +kernel
theorem k1_out:∃r:D7,(Q.read 0 usual [80,79,83,84,32,47,97,32,72,84,84,80,47,49,46,49,13,10,72,111,115,116,58,32,104,13,10,84,114,97,110,115,102,101,114,45,69,110,99,111,100,105,110,103,58,32,99,104,117,110,107,101,100,13,10,13,10,51,13,10,97,98,99,13,10,48,13,10,84,58,32,117,13,10,13,10,71]).out= [r]/\r.body= [97,98,99]/\r.ts.length=1/\r.ch=true:=by
 have h:=k1_all.2.2.1;obtain ⟨r,hr⟩:=List.length_eq_one_iff.1 k1_all.2.2.2;rw [hr] at h;have h2:(r.body,r.ts.length,r.ch)=([97,98,99],1,true):=by injection h
 exact ⟨r,hr,congrArg Prod.fst h2,congrArg (λx=>x.2.1) h2,congrArg (λx=>x.2.2) h2⟩
theorem k2_all:(Q.read 0 usual [71,69,84,32,47,32,72,84,84,80,47,49,46,49,10]).err=400/\(Q.read 0 usual [71,69,84,32,47,32,72,84,84,80,47,49,46,49,10]).clean=false/\(Q.read 0 usual [71,69,84,32,47,32,72,84,84,80,47,49,46,49,10]).out.length=0:=by decide +kernel
theorem k3_all:(Q.read 0 usual ([80,79,83,84,32,47,32,72,84,84,80,47,49,46,49,13,10,72,111,115,116,58,32,104,13,10,69,120,112,101,99,116,58,32,49,48,48,45,99,111,110,116,105,110,117,101,13,10] ++ [67,111,110,116,101,110,116,45,76,101,110,103,116,104,58,32,50,13,10,13,10])).waits=true/\(Q.read 0 usual ([80,79,83,84,32,47,32,72,84,84,80,47,49,46,49,13,10,72,111,115,116,58,32,104,13,10,69,120,112,101,99,116,58,32,49,48,48,45,99,111,110,116,105,110,117,101,13,10] ++ [67,111,110,116,101,110,116,45,76,101,110,103,116,104,58,32,50,13,10,13,10])).held=43/\(Q.read 0 usual ([80,79,83,84,32,47,32,72,84,84,80,47,49,46,49,13,10,72,111,115,116,58,32,104,13,10,69,120,112,101,99,116,58,32,49,48,48,45,99,111,110,116,105,110,117,101,13,10] ++ [67,111,110,116,101,110,116,45,76,101,110,103,116,104,58,32,50,13,10,13,10])).out.length=0/\((Q.read 0 usual ([80,79,83,84,32,47,32,72,84,84,80,47,49,46,49,13,10,72,111,115,116,58,32,104,13,10,69,120,112,101,99,116,58,32,49,48,48,45,99,111,110,116,105,110,117,101,13,10] ++ [67,111,110,116,101,110,116,45,76,101,110,103,116,104,58,32,50,13,10,13,10])).told.feed 0 usual [97,98]).out.length=1/\
 ((Q.read 0 usual ([80,79,83,84,32,47,32,72,84,84,80,47,49,46,49,13,10,72,111,115,116,58,32,104,13,10,69,120,112,101,99,116,58,32,49,48,48,45,99,111,110,116,105,110,117,101,13,10] ++ [67,111,110,116,101,110,116,45,76,101,110,103,116,104,58,32,50,13,10,13,10])).told.feed 0 usual [97,98]).clean=true/\((Q.read 0 usual ([80,79,83,84,32,47,32,72,84,84,80,47,49,46,49,13,10,72,111,115,116,58,32,104,13,10,69,120,112,101,99,116,58,32,49,48,48,45,99,111,110,116,105,110,117,101,13,10] ++ [67,111,110,116,101,110,116,45,76,101,110,103,116,104,58,32,50,13,10,13,10])).told.feed 0 usual [97,98]).err=0/\((Q.read 0 usual ([80,79,83,84,32,47,32,72,84,84,80,47,49,46,49,13,10,72,111,115,116,58,32,104,13,10,69,120,112,101,99,116,58,32,49,48,48,45,99,111,110,116,105,110,117,101,13,10] ++ [67,111,110,116,101,110,116,45,76,101,110,103,116,104,58,32,50,13,10,13,10])).told.feed 0 usual [97,98]).held=0:=by decide +kernel
section
set_option maxHeartbeats 8000000
set_option maxRecDepth 100000
attribute [local go_sem] Am
theorem feed_said {p:Nat} {b:Bd} {w:World} {B:Zone} {g:Nat} {L:List (Option Nat)} {x:Q} (hp:p<4294967296) (h:At w B g p b L x) (ok:x.Ok b) (hw:x.out= []) (a:Option Addr) (ca:Nat) (ls:List (List UInt8)) (hl:Parts L w a ls) (hn:ls.length<=1000000) (hle:ls.flatten.length<=400000000) :
 Calls EW 17 #[ptr g,.slice a ls.length ca] w λr w'=>∃o L',r=.returned o/\At w' B g p b L' (x.feed p b ls.flatten).told/\(x.feed p b ls.flatten).told.Ok b/\(x.feed p b ls.flatten).told.out= []/\Said w' o (x.feed p b ls.flatten).out/\Step L L' w w':=by
 refine (feed_any hp x h ok a ca ls hl hn (by rw [hw];simp only [List.length_nil];omega)).mono ?_;rintro r w' ⟨o,L',rfl,h1,h2,h3⟩;exact ⟨o,L',rfl,h1,told_ok (Q.Ok.feed _ ok),told_out _,h2.said,h3⟩
theorem known_any (w:World):Calls EW 10 #[] w λe w'=>e=.returned (ZW true)/\Below w.heap.size w w':=by
 obtain ⟨r1,ho1,hbd1,hts1,hch1⟩:=k1_out;have ho2:(Q.read 0 usual [71,69,84,32,47,32,72,84,84,80,47,49,46,49,10]).out= []:=BT k2_all.2.2;have hc1:∀w:World,(convert 22 22 (.slice (some ⟨w.heap.size,0,none⟩) 77 77)).run EW (w.alloc (.cells #[.int .u8 80,.int .u8 79,.int .u8 83,.int .u8 84,.int .u8 32,.int .u8 47,.int .u8 97,.int .u8 32,.int .u8 72,.int .u8 84,.int .u8 84,.int .u8 80,.int .u8 47,.int .u8 49,.int .u8 46,.int .u8 49,.int .u8 13,.int .u8 10,.int .u8 72,.int .u8 111,.int .u8 115,.int .u8 116,.int .u8 58,.int .u8 32,.int .u8 104,.int .u8 13,.int .u8 10,.int .u8 84,.int .u8 114,.int .u8 97,.int .u8 110,.int .u8 115,.int .u8 102,.int .u8 101,.int .u8 114,.int .u8 45,.int .u8 69,.int .u8 110,.int .u8 99,.int .u8 111,.int .u8 100,.int .u8 105,.int .u8 110,.int .u8 103,.int .u8 58,.int .u8 32,.int .u8 99,.int .u8 104,.int .u8 117,.int .u8 110,.int .u8 107,.int .u8 101,.int .u8 100,.int .u8 13,.int .u8 10,.int .u8 13,.int .u8 10,.int .u8 51,.int .u8 13,.int .u8 10,.int .u8 97,.int .u8 98,.int .u8 99,.int .u8 13,.int .u8 10,.int .u8 48,.int .u8 13,.int .u8 10,.int .u8 84,.int .u8 58,.int .u8 32,.int .u8 117,.int .u8 13,.int .u8 10,.int .u8 13,.int .u8 10,.int .u8 71] 5))=.ok (.slice (some ⟨w.heap.size,0,none⟩) 77 77) (w.alloc (.cells #[.int .u8 80,.int .u8 79,.int .u8 83,.int .u8 84,.int .u8 32,.int .u8 47,.int .u8 97,.int .u8 32,.int .u8 72,.int .u8 84,.int .u8 84,.int .u8 80,.int .u8 47,.int .u8 49,.int .u8 46,.int .u8 49,.int .u8 13,.int .u8 10,.int .u8 72,.int .u8 111,.int .u8 115,.int .u8 116,.int .u8 58,.int .u8 32,.int .u8 104,.int .u8 13,.int .u8 10,.int .u8 84,.int .u8 114,.int .u8 97,.int .u8 110,.int .u8 115,.int .u8 102,.int .u8 101,.int .u8 114,.int .u8 45,.int .u8 69,.int .u8 110,.int .u8 99,.int .u8 111,.int .u8 100,.int .u8 105,.int .u8 110,.int .u8 103,.int .u8 58,.int .u8 32,.int .u8 99,.int .u8 104,.int .u8 117,.int .u8 110,.int .u8 107,.int .u8 101,.int .u8 100,.int .u8 13,.int .u8 10,.int .u8 13,.int .u8 10,.int .u8 51,.int .u8 13,.int .u8 10,.int .u8 97,.int .u8 98,.int .u8 99,.int .u8 13,.int .u8 10,.int .u8 48,.int .u8 13,.int .u8 10,.int .u8 84,.int .u8 58,.int .u8 32,.int .u8 117,.int .u8 13,.int .u8 10,.int .u8 13,.int .u8 10,.int .u8 71] 5 (77,78))):=λw=>Lib.run_convert_bytes_const w 22 5 #[.int .u8 80,.int .u8 79,.int .u8 83,.int .u8 84,.int .u8 32,.int .u8 47,.int .u8 97,.int .u8 32,.int .u8 72,.int .u8 84,.int .u8 84,.int .u8 80,.int .u8 47,.int .u8 49,.int .u8 46,.int .u8 49,.int .u8 13,.int .u8 10,.int .u8 72,.int .u8 111,.int .u8 115,.int .u8 116,.int .u8 58,.int .u8 32,.int .u8 104,.int .u8 13,.int .u8 10,.int .u8 84,.int .u8 114,.int .u8 97,.int .u8 110,.int .u8 115,.int .u8 102,.int .u8 101,.int .u8 114,.int .u8 45,.int .u8 69,.int .u8 110,.int .u8 99,.int .u8 111,.int .u8 100,.int .u8 105,.int .u8 110,.int .u8 103,.int .u8 58,.int .u8 32,.int .u8 99,.int .u8 104,.int .u8 117,.int .u8 110,.int .u8 107,.int .u8 101,.int .u8 100,.int .u8 13,.int .u8 10,.int .u8 13,.int .u8 10,.int .u8 51,.int .u8 13,.int .u8 10,.int .u8 97,.int .u8 98,.int .u8 99,.int .u8 13,.int .u8 10,.int .u8 48,.int .u8 13,.int .u8 10,.int .u8 84,.int .u8 58,.int .u8 32,.int .u8 117,.int .u8 13,.int .u8 10,.int .u8 13,.int .u8 10,.int .u8 71] 77 77 F0 F7
 have hc2:∀w:World,(convert 22 22 (.slice (some ⟨w.heap.size,0,none⟩) 15 15)).run EW (w.alloc (.cells #[.int .u8 71,.int .u8 69,.int .u8 84,.int .u8 32,.int .u8 47,.int .u8 32,.int .u8 72,.int .u8 84,.int .u8 84,.int .u8 80,.int .u8 47,.int .u8 49,.int .u8 46,.int .u8 49,.int .u8 10] 5))=.ok (.slice (some ⟨w.heap.size,0,none⟩) 15 15) (w.alloc (.cells #[.int .u8 71,.int .u8 69,.int .u8 84,.int .u8 32,.int .u8 47,.int .u8 32,.int .u8 72,.int .u8 84,.int .u8 84,.int .u8 80,.int .u8 47,.int .u8 49,.int .u8 46,.int .u8 49,.int .u8 10] 5 (15,16))):=λw=>Lib.run_convert_bytes_const w 22 5 #[.int .u8 71,.int .u8 69,.int .u8 84,.int .u8 32,.int .u8 47,.int .u8 32,.int .u8 72,.int .u8 84,.int .u8 84,.int .u8 80,.int .u8 47,.int .u8 49,.int .u8 46,.int .u8 49,.int .u8 10] 15 15 F0 F7
 have hc3:∀w:World,(convert 22 22 (.slice (some ⟨w.heap.size,0,none⟩) 48 48)).run EW (w.alloc (.cells #[.int .u8 80,.int .u8 79,.int .u8 83,.int .u8 84,.int .u8 32,.int .u8 47,.int .u8 32,.int .u8 72,.int .u8 84,.int .u8 84,.int .u8 80,.int .u8 47,.int .u8 49,.int .u8 46,.int .u8 49,.int .u8 13,.int .u8 10,.int .u8 72,.int .u8 111,.int .u8 115,.int .u8 116,.int .u8 58,.int .u8 32,.int .u8 104,.int .u8 13,.int .u8 10,.int .u8 69,.int .u8 120,.int .u8 112,.int .u8 101,.int .u8 99,.int .u8 116,.int .u8 58,.int .u8 32,.int .u8 49,.int .u8 48,.int .u8 48,.int .u8 45,.int .u8 99,.int .u8 111,.int .u8 110,.int .u8 116,.int .u8 105,.int .u8 110,.int .u8 117,.int .u8 101,.int .u8 13,.int .u8 10] 5))=.ok (.slice (some ⟨w.heap.size,0,none⟩) 48 48) (w.alloc (.cells #[.int .u8 80,.int .u8 79,.int .u8 83,.int .u8 84,.int .u8 32,.int .u8 47,.int .u8 32,.int .u8 72,.int .u8 84,.int .u8 84,.int .u8 80,.int .u8 47,.int .u8 49,.int .u8 46,.int .u8 49,.int .u8 13,.int .u8 10,.int .u8 72,.int .u8 111,.int .u8 115,.int .u8 116,.int .u8 58,.int .u8 32,.int .u8 104,.int .u8 13,.int .u8 10,.int .u8 69,.int .u8 120,.int .u8 112,.int .u8 101,.int .u8 99,.int .u8 116,.int .u8 58,.int .u8 32,.int .u8 49,.int .u8 48,.int .u8 48,.int .u8 45,.int .u8 99,.int .u8 111,.int .u8 110,.int .u8 116,.int .u8 105,.int .u8 110,.int .u8 117,.int .u8 101,.int .u8 13,.int .u8 10] 5 (48,49))):=λw=>Lib.run_convert_bytes_const w 22 5 #[.int .u8 80,.int .u8 79,.int .u8 83,.int .u8 84,.int .u8 32,.int .u8 47,.int .u8 32,.int .u8 72,.int .u8 84,.int .u8 84,.int .u8 80,.int .u8 47,.int .u8 49,.int .u8 46,.int .u8 49,.int .u8 13,.int .u8 10,.int .u8 72,.int .u8 111,.int .u8 115,.int .u8 116,.int .u8 58,.int .u8 32,.int .u8 104,.int .u8 13,.int .u8 10,.int .u8 69,.int .u8 120,.int .u8 112,.int .u8 101,.int .u8 99,.int .u8 116,.int .u8 58,.int .u8 32,.int .u8 49,.int .u8 48,.int .u8 48,.int .u8 45,.int .u8 99,.int .u8 111,.int .u8 110,.int .u8 116,.int .u8 105,.int .u8 110,.int .u8 117,.int .u8 101,.int .u8 13,.int .u8 10] 48 48 F0 F7
 have hc4:∀w:World,(convert 22 22 (.slice (some ⟨w.heap.size,0,none⟩) 21 21)).run EW (w.alloc (.cells #[.int .u8 67,.int .u8 111,.int .u8 110,.int .u8 116,.int .u8 101,.int .u8 110,.int .u8 116,.int .u8 45,.int .u8 76,.int .u8 101,.int .u8 110,.int .u8 103,.int .u8 116,.int .u8 104,.int .u8 58,.int .u8 32,.int .u8 50,.int .u8 13,.int .u8 10,.int .u8 13,.int .u8 10] 5))=.ok (.slice (some ⟨w.heap.size,0,none⟩) 21 21) (w.alloc (.cells #[.int .u8 67,.int .u8 111,.int .u8 110,.int .u8 116,.int .u8 101,.int .u8 110,.int .u8 116,.int .u8 45,.int .u8 76,.int .u8 101,.int .u8 110,.int .u8 103,.int .u8 116,.int .u8 104,.int .u8 58,.int .u8 32,.int .u8 50,.int .u8 13,.int .u8 10,.int .u8 13,.int .u8 10] 5 (21,22))):=λw=>Lib.run_convert_bytes_const w 22 5 #[.int .u8 67,.int .u8 111,.int .u8 110,.int .u8 116,.int .u8 101,.int .u8 110,.int .u8 116,.int .u8 45,.int .u8 76,.int .u8 101,.int .u8 110,.int .u8 103,.int .u8 116,.int .u8 104,.int .u8 58,.int .u8 32,.int .u8 50,.int .u8 13,.int .u8 10,.int .u8 13,.int .u8 10] 21 21 F0 F7
 have hc5:∀w:World,(convert 22 22 (.slice (some ⟨w.heap.size,0,none⟩) 2 2)).run EW (w.alloc (.cells #[.int .u8 97,.int .u8 98] 5))=.ok (.slice (some ⟨w.heap.size,0,none⟩) 2 2) (w.alloc (.cells #[.int .u8 97,.int .u8 98] 5 (2,3))):=λw=>Lib.run_convert_bytes_const w 22 5 #[.int .u8 97,.int .u8 98] 2 2 F0 F7
 have HK1:Hid (∀w:World,Calls EW 63 #[ZZ ZQ 0,ZU #[ZZ ZS 1024,ZZ ZS 32,ZZ ZS 8192,ZZ ZS 65536,ZZ ZS 32,ZZ ZS 8,ZZ ZS 4,ZZ ZS 20,ZW true,ZW true],ZX (some ⟨w.heap.size,0,none⟩) 77 77] (w.alloc (.cells #[ZZ ZR 80,ZZ ZR 79,ZZ ZR 83,ZZ ZR 84,ZZ ZR 32,ZZ ZR 47,ZZ ZR 97,ZZ ZR 32,ZZ ZR 72,ZZ ZR 84,ZZ ZR 84,ZZ ZR 80,ZZ ZR 47,ZZ ZR 49,ZZ ZR 46,ZZ ZR 49,ZZ ZR 13,ZZ ZR 10,ZZ ZR 72,ZZ ZR 111,ZZ ZR 115,ZZ ZR 116,ZZ ZR 58,ZZ ZR 32,ZZ ZR 104,ZZ ZR 13,ZZ ZR 10,ZZ ZR 84,ZZ ZR 114,ZZ ZR 97,ZZ ZR 110,ZZ ZR 115,ZZ ZR 102,ZZ ZR 101,ZZ ZR 114,ZZ ZR 45,ZZ ZR 69,ZZ ZR 110,ZZ ZR 99,ZZ ZR 111,ZZ ZR 100,ZZ ZR 105,ZZ ZR 110,ZZ ZR 103,ZZ ZR 58,ZZ ZR 32,ZZ ZR 99,ZZ ZR 104,ZZ ZR 117,ZZ ZR 110,ZZ ZR 107,ZZ ZR 101,ZZ ZR 100,ZZ ZR 13,ZZ ZR 10,ZZ ZR 13,ZZ ZR 10,ZZ ZR 51,ZZ ZR 13,ZZ ZR 10,ZZ ZR 97,ZZ ZR 98,ZZ ZR 99,ZZ ZR 13,ZZ ZR 10,ZZ ZR 48,ZZ ZR 13,ZZ ZR 10,ZZ ZR 84,ZZ ZR 58,ZZ ZR 32,ZZ ZR 117,ZZ ZR 13,ZZ ZR 10,ZZ ZR 13,ZZ ZR 10,ZZ ZR 71] 5 (77,78))) λr w'=>
  ∃o,r=.returned (ZT #[o,ZZ ZS 0,ZW false])/\Said w' o [r1]/\Below (w.heap.size+1) (w.alloc (.cells #[ZZ ZR 80,ZZ ZR 79,ZZ ZR 83,ZZ ZR 84,ZZ ZR 32,ZZ ZR 47,ZZ ZR 97,ZZ ZR 32,ZZ ZR 72,ZZ ZR 84,ZZ ZR 84,ZZ ZR 80,ZZ ZR 47,ZZ ZR 49,ZZ ZR 46,ZZ ZR 49,ZZ ZR 13,ZZ ZR 10,ZZ ZR 72,ZZ ZR 111,ZZ ZR 115,ZZ ZR 116,ZZ ZR 58,ZZ ZR 32,ZZ ZR 104,ZZ ZR 13,ZZ ZR 10,ZZ ZR 84,ZZ ZR 114,ZZ ZR 97,ZZ ZR 110,ZZ ZR 115,ZZ ZR 102,ZZ ZR 101,ZZ ZR 114,ZZ ZR 45,ZZ ZR 69,ZZ ZR 110,ZZ ZR 99,ZZ ZR 111,ZZ ZR 100,ZZ ZR 105,ZZ ZR 110,ZZ ZR 103,ZZ ZR 58,ZZ ZR 32,ZZ ZR 99,ZZ ZR 104,ZZ ZR 117,ZZ ZR 110,ZZ ZR 107,ZZ ZR 101,ZZ ZR 100,ZZ ZR 13,ZZ ZR 10,ZZ ZR 13,ZZ ZR 10,ZZ ZR 51,ZZ ZR 13,ZZ ZR 10,ZZ ZR 97,ZZ ZR 98,ZZ ZR 99,ZZ ZR 13,ZZ ZR 10,ZZ ZR 48,ZZ ZR 13,ZZ ZR 10,ZZ ZR 84,ZZ ZR 58,ZZ ZR 32,ZZ ZR 117,ZZ ZR 13,ZZ ZR 10,ZZ ZR 13,ZZ ZR 10,ZZ ZR 71] 5 (77,78))) w'):=Bx λw=>by
  have h:=read_said (p:=0) (by decide) usual (w.alloc (.cells #[.int .u8 80,.int .u8 79,.int .u8 83,.int .u8 84,.int .u8 32,.int .u8 47,.int .u8 97,.int .u8 32,.int .u8 72,.int .u8 84,.int .u8 84,.int .u8 80,.int .u8 47,.int .u8 49,.int .u8 46,.int .u8 49,.int .u8 13,.int .u8 10,.int .u8 72,.int .u8 111,.int .u8 115,.int .u8 116,.int .u8 58,.int .u8 32,.int .u8 104,.int .u8 13,.int .u8 10,.int .u8 84,.int .u8 114,.int .u8 97,.int .u8 110,.int .u8 115,.int .u8 102,.int .u8 101,.int .u8 114,.int .u8 45,.int .u8 69,.int .u8 110,.int .u8 99,.int .u8 111,.int .u8 100,.int .u8 105,.int .u8 110,.int .u8 103,.int .u8 58,.int .u8 32,.int .u8 99,.int .u8 104,.int .u8 117,.int .u8 110,.int .u8 107,.int .u8 101,.int .u8 100,.int .u8 13,.int .u8 10,.int .u8 13,.int .u8 10,.int .u8 51,.int .u8 13,.int .u8 10,.int .u8 97,.int .u8 98,.int .u8 99,.int .u8 13,.int .u8 10,.int .u8 48,.int .u8 13,.int .u8 10,.int .u8 84,.int .u8 58,.int .u8 32,.int .u8 117,.int .u8 13,.int .u8 10,.int .u8 13,.int .u8 10,.int .u8 71] 5 (77,78))) (some ⟨w.heap.size,0,none⟩) 77 [80,79,83,84,32,47,97,32,72,84,84,80,47,49,46,49,13,10,72,111,115,116,58,32,104,13,10,84,114,97,110,115,102,101,114,45,69,110,99,111,100,105,110,103,58,32,99,104,117,110,107,101,100,13,10,13,10,51,13,10,97,98,99,13,10,48,13,10,84,58,32,117,13,10,13,10,71] (Bts.lit (in_nil w) [80,79,83,84,32,47,97,32,72,84,84,80,47,49,46,49,13,10,72,111,115,116,58,32,104,13,10,84,114,97,110,115,102,101,114,45,69,110,99,111,100,105,110,103,58,32,99,104,117,110,107,101,100,13,10,13,10,51,13,10,97,98,99,13,10,48,13,10,84,58,32,117,13,10,13,10,71] #[.int .u8 80,.int .u8 79,.int .u8 83,.int .u8 84,.int .u8 32,.int .u8 47,.int .u8 97,.int .u8 32,.int .u8 72,.int .u8 84,.int .u8 84,.int .u8 80,.int .u8 47,.int .u8 49,.int .u8 46,.int .u8 49,.int .u8 13,.int .u8 10,.int .u8 72,.int .u8 111,.int .u8 115,.int .u8 116,.int .u8 58,.int .u8 32,.int .u8 104,.int .u8 13,.int .u8 10,.int .u8 84,.int .u8 114,.int .u8 97,.int .u8 110,.int .u8 115,.int .u8 102,.int .u8 101,.int .u8 114,.int .u8 45,.int .u8 69,.int .u8 110,.int .u8 99,.int .u8 111,.int .u8 100,.int .u8 105,.int .u8 110,.int .u8 103,.int .u8 58,.int .u8 32,.int .u8 99,.int .u8 104,.int .u8 117,.int .u8 110,.int .u8 107,.int .u8 101,.int .u8 100,.int .u8 13,.int .u8 10,.int .u8 13,.int .u8 10,.int .u8 51,.int .u8 13,.int .u8 10,.int .u8 97,.int .u8 98,.int .u8 99,.int .u8 13,.int .u8 10,.int .u8 48,.int .u8 13,.int .u8 10,.int .u8 84,.int .u8 58,.int .u8 32,.int .u8 117,.int .u8 13,.int .u8 10,.int .u8 13,.int .u8 10,.int .u8 71] (by kernel_rfl) 5 (77,78)) (by decide) 0 false [r1] k1_all.1 k1_all.2.1 ho1;have hs:(w.alloc (.cells #[.int .u8 80,.int .u8 79,.int .u8 83,.int .u8 84,.int .u8 32,.int .u8 47,.int .u8 97,.int .u8 32,.int .u8 72,.int .u8 84,.int .u8 84,.int .u8 80,.int .u8 47,.int .u8 49,.int .u8 46,.int .u8 49,.int .u8 13,.int .u8 10,.int .u8 72,.int .u8 111,.int .u8 115,.int .u8 116,.int .u8 58,.int .u8 32,.int .u8 104,.int .u8 13,.int .u8 10,.int .u8 84,.int .u8 114,.int .u8 97,.int .u8 110,.int .u8 115,.int .u8 102,.int .u8 101,.int .u8 114,.int .u8 45,.int .u8 69,.int .u8 110,.int .u8 99,.int .u8 111,.int .u8 100,.int .u8 105,.int .u8 110,.int .u8 103,.int .u8 58,.int .u8 32,.int .u8 99,.int .u8 104,.int .u8 117,.int .u8 110,.int .u8 107,.int .u8 101,.int .u8 100,.int .u8 13,.int .u8 10,.int .u8 13,.int .u8 10,.int .u8 51,.int .u8 13,.int .u8 10,.int .u8 97,.int .u8 98,.int .u8 99,.int .u8 13,.int .u8 10,.int .u8 48,.int .u8 13,.int .u8 10,.int .u8 84,.int .u8 58,.int .u8 32,.int .u8 117,.int .u8 13,.int .u8 10,.int .u8 13,.int .u8 10,.int .u8 71] 5 (77,78))).heap.size=w.heap.size+1:=by simp
  rw [hs] at h;exact h
 have HK2:Hid (∀w:World,Calls EW 63 #[ZZ ZQ 0,ZU #[ZZ ZS 1024,ZZ ZS 32,ZZ ZS 8192,ZZ ZS 65536,ZZ ZS 32,ZZ ZS 8,ZZ ZS 4,ZZ ZS 20,ZW true,ZW true],ZX (some ⟨w.heap.size,0,none⟩) 15 15] (w.alloc (.cells #[ZZ ZR 71,ZZ ZR 69,ZZ ZR 84,ZZ ZR 32,ZZ ZR 47,ZZ ZR 32,ZZ ZR 72,ZZ ZR 84,ZZ ZR 84,ZZ ZR 80,ZZ ZR 47,ZZ ZR 49,ZZ ZR 46,ZZ ZR 49,ZZ ZR 10] 5 (15,16))) λr w'=>
  ∃o,r=.returned (ZT #[o,ZZ ZS 400,ZW false])/\Said w' o []/\Below (w.heap.size+1) (w.alloc (.cells #[ZZ ZR 71,ZZ ZR 69,ZZ ZR 84,ZZ ZR 32,ZZ ZR 47,ZZ ZR 32,ZZ ZR 72,ZZ ZR 84,ZZ ZR 84,ZZ ZR 80,ZZ ZR 47,ZZ ZR 49,ZZ ZR 46,ZZ ZR 49,ZZ ZR 10] 5 (15,16))) w'):=Bx λw=>by
  have h:=read_said (p:=0) (by decide) usual (w.alloc (.cells #[.int .u8 71,.int .u8 69,.int .u8 84,.int .u8 32,.int .u8 47,.int .u8 32,.int .u8 72,.int .u8 84,.int .u8 84,.int .u8 80,.int .u8 47,.int .u8 49,.int .u8 46,.int .u8 49,.int .u8 10] 5 (15,16))) (some ⟨w.heap.size,0,none⟩) 15 [71,69,84,32,47,32,72,84,84,80,47,49,46,49,10] (Bts.lit (in_nil w) [71,69,84,32,47,32,72,84,84,80,47,49,46,49,10] #[.int .u8 71,.int .u8 69,.int .u8 84,.int .u8 32,.int .u8 47,.int .u8 32,.int .u8 72,.int .u8 84,.int .u8 84,.int .u8 80,.int .u8 47,.int .u8 49,.int .u8 46,.int .u8 49,.int .u8 10] (by kernel_rfl) 5 (15,16)) (by decide) 400 false [] k2_all.1 k2_all.2.1 ho2;have hs:(w.alloc (.cells #[.int .u8 71,.int .u8 69,.int .u8 84,.int .u8 32,.int .u8 47,.int .u8 32,.int .u8 72,.int .u8 84,.int .u8 84,.int .u8 80,.int .u8 47,.int .u8 49,.int .u8 46,.int .u8 49,.int .u8 10] 5 (15,16))).heap.size=w.heap.size+1:=by simp
  rw [hs] at h;exact h
 have HBD:=Bx hbd1;have HTS:=Bx hts1;have HCH:=Bx hch1;clear ho1 ho2 hbd1 hts1 hch1;go_enter Tryz.func10,Tryz.ntmps10
 go_upto_region 2 with (go_at_call 47;with_reducible refine (Bnd.rusual_any _).mono ?_;rintro r w1 ⟨rfl,hb⟩;have HB1:=Bx hb;clear hb)
 have HZ1:=Bx (D6 w1 w1.heap.size rfl 29 [ZZ ZS 1024,ZZ ZS 32,ZZ ZS 8192,ZZ ZS 65536,ZZ ZS 32,ZZ ZS 8,ZZ ZS 4,ZZ ZS 20,ZW true,ZW true])
 have HBW1:=Bx (HB1.out.alloc HB1.out.size (.cells #[ZZ ZS 1024,ZZ ZS 32,ZZ ZS 8192,ZZ ZS 65536,ZZ ZS 32,ZZ ZS 8,ZZ ZS 4,ZZ ZS 20,ZW true,ZW true] 29));generalize w1.alloc (.cells #[ZZ ZS 1024,ZZ ZS 32,ZZ ZS 8192,ZZ ZS 65536,ZZ ZS 32,ZZ ZS 8,ZZ ZS 4,ZZ ZS 20,ZW true,ZW true] 29)=W1 at *;generalize w1.heap.size=gB at *;have y0:=HZ1.out.c 0 _ rfl;have y1:=HZ1.out.c 1 _ rfl;have y2:=HZ1.out.c 2 _ rfl;have y3:=HZ1.out.c 3 _ rfl;have y4:=HZ1.out.c 4 _ rfl;have y5:=HZ1.out.c 5 _ rfl;have y6:=HZ1.out.c 6 _ rfl;have y7:=HZ1.out.c 7 _ rfl;have y8:=HZ1.out.c 8 _ rfl;have y9:=HZ1.out.c 9 _ rfl;go_upto_region 3 with
  (go_at_call 63;with_reducible refine (HK1.out _).mono ?_;rintro r w2 ⟨o1,rfl,hT,hb⟩
   have hb2:Below W1.heap.size W1 w2:=((An _ _).alloc (Db _) _).trans (hb.mono (Dc _))
   have HT2:=Bx hT;have HZ2:=Bx (HZ1.out.below hb2);have HB2:=Bx (Al HBW1.out hb2);clear hb hb2 hT y0 y1 y2 y3 y4 y5 y6 y7 y8 y9)
 have y0:=HZ2.out.c 0 _ rfl;have y1:=HZ2.out.c 1 _ rfl;have y2:=HZ2.out.c 2 _ rfl;have y3:=HZ2.out.c 3 _ rfl;have y4:=HZ2.out.c 4 _ rfl;have y5:=HZ2.out.c 5 _ rfl;have y6:=HZ2.out.c 6 _ rfl;have y7:=HZ2.out.c 7 _ rfl;have y8:=HZ2.out.c 8 _ rfl;have y9:=HZ2.out.c 9 _ rfl;clear HZ1 HBW1 HK1 hc1;go_upto_region 4 with
  (go_at_call 63;with_reducible refine (HK2.out _).mono ?_;rintro r w3 ⟨o2,rfl,hT,hb⟩
   have hb2:Below w2.heap.size w2 w3:=((An _ _).alloc (Db _) _).trans (hb.mono (Dc _))
   have HT3:=Bx (HT2.out.below hb2);have HZ3:=Bx (HZ2.out.below hb2);have HB3:=Bx (Al HB2.out hb2);clear hb hb2 hT y0 y1 y2 y3 y4 y5 y6 y7 y8 y9)
 have y0:=HZ3.out.c 0 _ rfl;have y1:=HZ3.out.c 1 _ rfl;have y2:=HZ3.out.c 2 _ rfl;have y3:=HZ3.out.c 3 _ rfl;have y4:=HZ3.out.c 4 _ rfl;have y5:=HZ3.out.c 5 _ rfl;have y6:=HZ3.out.c 6 _ rfl;have y7:=HZ3.out.c 7 _ rfl;have y8:=HZ3.out.c 8 _ rfl;have y9:=HZ3.out.c 9 _ rfl;clear HZ2 HB2 HT2 HK2 hc2
 have HNW:Hid (Calls EW 15 #[ZZ ZQ 0,ZU #[ZZ ZS 1024,ZZ ZS 32,ZZ ZS 8192,ZZ ZS 65536,ZZ ZS 32,ZZ ZS 8,ZZ ZS 4,ZZ ZS 20,ZW true,ZW true]] w3 λr w'=>∃g L',r=.returned (ptr g)/\w3.heap.size<=g/\At w' ⟨w3.heap.size,[]⟩ g 0 usual L' (Q.new 0 usual)/\Below w3.heap.size w3 w'):=Bx (new_any (p:=0) (b:=usual) (by decide) w3);go_upto_region 5 with
  (go_at_call 15;with_reducible refine HNW.out.mono ?_;rintro r w4 ⟨g,L4,rfl,hg,hA,hb⟩
   have HA4:=Bx hA;have HL4:=Bx hb;clear hA hb hg y0 y1 y2 y3 y4 y5 y6 y7 y8 y9)
 clear HZ3 HNW;go_upto_region 7 with fail
 have hc4w:=hc4 (w4.alloc (.cells #[ZZ ZR 80,ZZ ZR 79,ZZ ZR 83,ZZ ZR 84,ZZ ZR 32,ZZ ZR 47,ZZ ZR 32,ZZ ZR 72,ZZ ZR 84,ZZ ZR 84,ZZ ZR 80,ZZ ZR 47,ZZ ZR 49,ZZ ZR 46,ZZ ZR 49,ZZ ZR 13,ZZ ZR 10,ZZ ZR 72,ZZ ZR 111,ZZ ZR 115,ZZ ZR 116,ZZ ZR 58,ZZ ZR 32,ZZ ZR 104,ZZ ZR 13,ZZ ZR 10,ZZ ZR 69,ZZ ZR 120,ZZ ZR 112,ZZ ZR 101,ZZ ZR 99,ZZ ZR 116,ZZ ZR 58,ZZ ZR 32,ZZ ZR 49,ZZ ZR 48,ZZ ZR 48,ZZ ZR 45,ZZ ZR 99,ZZ ZR 111,ZZ ZR 110,ZZ ZR 116,ZZ ZR 105,ZZ ZR 110,ZZ ZR 117,ZZ ZR 101,ZZ ZR 13,ZZ ZR 10] 5 (48,49)));rw [show (w4.alloc (.cells #[ZZ ZR 80,ZZ ZR 79,ZZ ZR 83,ZZ ZR 84,ZZ ZR 32,ZZ ZR 47,ZZ ZR 32,ZZ ZR 72,ZZ ZR 84,ZZ ZR 84,ZZ ZR 80,ZZ ZR 47,ZZ ZR 49,ZZ ZR 46,ZZ ZR 49,ZZ ZR 13,ZZ ZR 10,ZZ ZR 72,ZZ ZR 111,ZZ ZR 115,ZZ ZR 116,ZZ ZR 58,ZZ ZR 32,ZZ ZR 104,ZZ ZR 13,ZZ ZR 10,ZZ ZR 69,ZZ ZR 120,ZZ ZR 112,ZZ ZR 101,ZZ ZR 99,ZZ ZR 116,ZZ ZR 58,ZZ ZR 32,ZZ ZR 49,ZZ ZR 48,ZZ ZR 48,ZZ ZR 45,ZZ ZR 99,ZZ ZR 111,ZZ ZR 110,ZZ ZR 116,ZZ ZR 105,ZZ ZR 110,ZZ ZR 117,ZZ ZR 101,ZZ ZR 13,ZZ ZR 10] 5 (48,49))).heap.size=w4.heap.size+1 by simp] at hc4w;clear hc4;have hP:Parts L4 (((w4.alloc (.cells #[ZZ ZR 80,ZZ ZR 79,ZZ ZR 83,ZZ ZR 84,ZZ ZR 32,ZZ ZR 47,ZZ ZR 32,ZZ ZR 72,ZZ ZR 84,ZZ ZR 84,ZZ ZR 80,ZZ ZR 47,ZZ ZR 49,ZZ ZR 46,ZZ ZR 49,ZZ ZR 13,ZZ ZR 10,ZZ ZR 72,ZZ ZR 111,ZZ ZR 115,ZZ ZR 116,ZZ ZR 58,ZZ ZR 32,ZZ ZR 104,ZZ ZR 13,ZZ ZR 10,ZZ ZR 69,ZZ ZR 120,ZZ ZR 112,ZZ ZR 101,ZZ ZR 99,ZZ ZR 116,ZZ ZR 58,ZZ ZR 32,ZZ ZR 49,ZZ ZR 48,ZZ ZR 48,ZZ ZR 45,ZZ ZR 99,ZZ ZR 111,ZZ ZR 110,ZZ ZR 116,ZZ ZR 105,ZZ ZR 110,ZZ ZR 117,ZZ ZR 101,ZZ ZR 13,ZZ ZR 10] 5 (48,49))).alloc (.cells #[ZZ ZR 67,ZZ ZR 111,ZZ ZR 110,ZZ ZR 116,ZZ ZR 101,ZZ ZR 110,ZZ ZR 116,ZZ ZR 45,ZZ ZR 76,ZZ ZR 101,ZZ ZR 110,ZZ ZR 103,ZZ ZR 116,ZZ ZR 104,ZZ ZR 58,ZZ ZR 32,ZZ ZR 50,ZZ ZR 13,ZZ ZR 10,ZZ ZR 13,ZZ ZR 10] 5 (21,22))).alloc (.cells #[ZX (some ⟨w4.heap.size,0,none⟩) 48 48,ZX (some ⟨w4.heap.size+1,0,none⟩) 21 21] 22)) (some ⟨w4.heap.size+2,0,none⟩) [[80,79,83,84,32,47,32,72,84,84,80,47,49,46,49,13,10,72,111,115,116,58,32,104,13,10,69,120,112,101,99,116,58,32,49,48,48,45,99,111,110,116,105,110,117,101,13,10],[67,111,110,116,101,110,116,45,76,101,110,103,116,104,58,32,50,13,10,13,10]]:=by
  have hin:=HA4.out.in
  have h1:=Bts.lit hin [80,79,83,84,32,47,32,72,84,84,80,47,49,46,49,13,10,72,111,115,116,58,32,104,13,10,69,120,112,101,99,116,58,32,49,48,48,45,99,111,110,116,105,110,117,101,13,10] #[.int .u8 80,.int .u8 79,.int .u8 83,.int .u8 84,.int .u8 32,.int .u8 47,.int .u8 32,.int .u8 72,.int .u8 84,.int .u8 84,.int .u8 80,.int .u8 47,.int .u8 49,.int .u8 46,.int .u8 49,.int .u8 13,.int .u8 10,.int .u8 72,.int .u8 111,.int .u8 115,.int .u8 116,.int .u8 58,.int .u8 32,.int .u8 104,.int .u8 13,.int .u8 10,.int .u8 69,.int .u8 120,.int .u8 112,.int .u8 101,.int .u8 99,.int .u8 116,.int .u8 58,.int .u8 32,.int .u8 49,.int .u8 48,.int .u8 48,.int .u8 45,.int .u8 99,.int .u8 111,.int .u8 110,.int .u8 116,.int .u8 105,.int .u8 110,.int .u8 117,.int .u8 101,.int .u8 13,.int .u8 10] (by kernel_rfl) 5 (48,49)
  have hin1:=in_alloc hin (.cells #[ZZ ZR 80,ZZ ZR 79,ZZ ZR 83,ZZ ZR 84,ZZ ZR 32,ZZ ZR 47,ZZ ZR 32,ZZ ZR 72,ZZ ZR 84,ZZ ZR 84,ZZ ZR 80,ZZ ZR 47,ZZ ZR 49,ZZ ZR 46,ZZ ZR 49,ZZ ZR 13,ZZ ZR 10,ZZ ZR 72,ZZ ZR 111,ZZ ZR 115,ZZ ZR 116,ZZ ZR 58,ZZ ZR 32,ZZ ZR 104,ZZ ZR 13,ZZ ZR 10,ZZ ZR 69,ZZ ZR 120,ZZ ZR 112,ZZ ZR 101,ZZ ZR 99,ZZ ZR 116,ZZ ZR 58,ZZ ZR 32,ZZ ZR 49,ZZ ZR 48,ZZ ZR 48,ZZ ZR 45,ZZ ZR 99,ZZ ZR 111,ZZ ZR 110,ZZ ZR 116,ZZ ZR 105,ZZ ZR 110,ZZ ZR 117,ZZ ZR 101,ZZ ZR 13,ZZ ZR 10] 5 (48,49))
  have h2:=Bts.lit hin1 [67,111,110,116,101,110,116,45,76,101,110,103,116,104,58,32,50,13,10,13,10] #[.int .u8 67,.int .u8 111,.int .u8 110,.int .u8 116,.int .u8 101,.int .u8 110,.int .u8 116,.int .u8 45,.int .u8 76,.int .u8 101,.int .u8 110,.int .u8 103,.int .u8 116,.int .u8 104,.int .u8 58,.int .u8 32,.int .u8 50,.int .u8 13,.int .u8 10,.int .u8 13,.int .u8 10] (by kernel_rfl) 5 (21,22);have e1:(w4.alloc (.cells #[.int .u8 80,.int .u8 79,.int .u8 83,.int .u8 84,.int .u8 32,.int .u8 47,.int .u8 32,.int .u8 72,.int .u8 84,.int .u8 84,.int .u8 80,.int .u8 47,.int .u8 49,.int .u8 46,.int .u8 49,.int .u8 13,.int .u8 10,.int .u8 72,.int .u8 111,.int .u8 115,.int .u8 116,.int .u8 58,.int .u8 32,.int .u8 104,.int .u8 13,.int .u8 10,.int .u8 69,.int .u8 120,.int .u8 112,.int .u8 101,.int .u8 99,.int .u8 116,.int .u8 58,.int .u8 32,.int .u8 49,.int .u8 48,.int .u8 48,.int .u8 45,.int .u8 99,.int .u8 111,.int .u8 110,.int .u8 116,.int .u8 105,.int .u8 110,.int .u8 117,.int .u8 101,.int .u8 13,.int .u8 10] 5 (48,49))).heap.size=w4.heap.size+1:=by simp
  have e2:((w4.alloc (.cells #[ZZ ZR 80,ZZ ZR 79,ZZ ZR 83,ZZ ZR 84,ZZ ZR 32,ZZ ZR 47,ZZ ZR 32,ZZ ZR 72,ZZ ZR 84,ZZ ZR 84,ZZ ZR 80,ZZ ZR 47,ZZ ZR 49,ZZ ZR 46,ZZ ZR 49,ZZ ZR 13,ZZ ZR 10,ZZ ZR 72,ZZ ZR 111,ZZ ZR 115,ZZ ZR 116,ZZ ZR 58,ZZ ZR 32,ZZ ZR 104,ZZ ZR 13,ZZ ZR 10,ZZ ZR 69,ZZ ZR 120,ZZ ZR 112,ZZ ZR 101,ZZ ZR 99,ZZ ZR 116,ZZ ZR 58,ZZ ZR 32,ZZ ZR 49,ZZ ZR 48,ZZ ZR 48,ZZ ZR 45,ZZ ZR 99,ZZ ZR 111,ZZ ZR 110,ZZ ZR 116,ZZ ZR 105,ZZ ZR 110,ZZ ZR 117,ZZ ZR 101,ZZ ZR 13,ZZ ZR 10] 5 (48,49))).alloc (.cells #[ZZ ZR 67,ZZ ZR 111,ZZ ZR 110,ZZ ZR 116,ZZ ZR 101,ZZ ZR 110,ZZ ZR 116,ZZ ZR 45,ZZ ZR 76,ZZ ZR 101,ZZ ZR 110,ZZ ZR 103,ZZ ZR 116,ZZ ZR 104,ZZ ZR 58,ZZ ZR 32,ZZ ZR 50,ZZ ZR 13,ZZ ZR 10,ZZ ZR 13,ZZ ZR 10] 5 (21,22))).heap.size=w4.heap.size+2:=by simp
  rw [e1] at h2;have h3:=Parts.two (c:=48) (c':=21) (h1.alloc (.cells #[ZZ ZR 67,ZZ ZR 111,ZZ ZR 110,ZZ ZR 116,ZZ ZR 101,ZZ ZR 110,ZZ ZR 116,ZZ ZR 45,ZZ ZR 76,ZZ ZR 101,ZZ ZR 110,ZZ ZR 103,ZZ ZR 116,ZZ ZR 104,ZZ ZR 58,ZZ ZR 32,ZZ ZR 50,ZZ ZR 13,ZZ ZR 10,ZZ ZR 13,ZZ ZR 10] 5 (21,22))) h2 (in_alloc hin1 _) 22;rw [e2] at h3;exact h3
 obtain ⟨W7,hW7⟩:∃W7,((w4.alloc (.cells #[ZZ ZR 80,ZZ ZR 79,ZZ ZR 83,ZZ ZR 84,ZZ ZR 32,ZZ ZR 47,ZZ ZR 32,ZZ ZR 72,ZZ ZR 84,ZZ ZR 84,ZZ ZR 80,ZZ ZR 47,ZZ ZR 49,ZZ ZR 46,ZZ ZR 49,ZZ ZR 13,ZZ ZR 10,ZZ ZR 72,ZZ ZR 111,ZZ ZR 115,ZZ ZR 116,ZZ ZR 58,ZZ ZR 32,ZZ ZR 104,ZZ ZR 13,ZZ ZR 10,ZZ ZR 69,ZZ ZR 120,ZZ ZR 112,ZZ ZR 101,ZZ ZR 99,ZZ ZR 116,ZZ ZR 58,ZZ ZR 32,ZZ ZR 49,ZZ ZR 48,ZZ ZR 48,ZZ ZR 45,ZZ ZR 99,ZZ ZR 111,ZZ ZR 110,ZZ ZR 116,ZZ ZR 105,ZZ ZR 110,ZZ ZR 117,ZZ ZR 101,ZZ ZR 13,ZZ ZR 10] 5 (48,49))).alloc (.cells #[ZZ ZR 67,ZZ ZR 111,ZZ ZR 110,ZZ ZR 116,ZZ ZR 101,ZZ ZR 110,ZZ ZR 116,ZZ ZR 45,ZZ ZR 76,ZZ ZR 101,ZZ ZR 110,ZZ ZR 103,ZZ ZR 116,ZZ ZR 104,ZZ ZR 58,ZZ ZR 32,ZZ ZR 50,ZZ ZR 13,ZZ ZR 10,ZZ ZR 13,ZZ ZR 10] 5 (21,22))).alloc (.cells #[ZX (some ⟨w4.heap.size,0,none⟩) 48 48,ZX (some ⟨w4.heap.size+1,0,none⟩) 21 21] 22)=W7:=⟨_,rfl⟩;have hb7:Below w4.heap.size w4 W7:=by
  rw [←hW7]
  exact ((((An w4.heap.size w4).alloc (Db _) (.cells #[ZZ ZR 80,ZZ ZR 79,ZZ ZR 83,ZZ ZR 84,ZZ ZR 32,ZZ ZR 47,ZZ ZR 32,ZZ ZR 72,ZZ ZR 84,ZZ ZR 84,ZZ ZR 80,ZZ ZR 47,ZZ ZR 49,ZZ ZR 46,ZZ ZR 49,ZZ ZR 13,ZZ ZR 10,ZZ ZR 72,ZZ ZR 111,ZZ ZR 115,ZZ ZR 116,ZZ ZR 58,ZZ ZR 32,ZZ ZR 104,ZZ ZR 13,ZZ ZR 10,ZZ ZR 69,ZZ ZR 120,ZZ ZR 112,ZZ ZR 101,ZZ ZR 99,ZZ ZR 116,ZZ ZR 58,ZZ ZR 32,ZZ ZR 49,ZZ ZR 48,ZZ ZR 48,ZZ ZR 45,ZZ ZR 99,ZZ ZR 111,ZZ ZR 110,ZZ ZR 116,ZZ ZR 105,ZZ ZR 110,ZZ ZR 117,ZZ ZR 101,ZZ ZR 13,ZZ ZR 10] 5 (48,49))).alloc (by simp) (.cells #[ZZ ZR 67,ZZ ZR 111,ZZ ZR 110,ZZ ZR 116,ZZ ZR 101,ZZ ZR 110,ZZ ZR 116,ZZ ZR 45,ZZ ZR 76,ZZ ZR 101,ZZ ZR 110,ZZ ZR 103,ZZ ZR 116,ZZ ZR 104,ZZ ZR 58,ZZ ZR 32,ZZ ZR 50,ZZ ZR 13,ZZ ZR 10,ZZ ZR 13,ZZ ZR 10] 5 (21,22))).alloc (by simp;omega) (.cells #[ZX (some ⟨w4.heap.size,0,none⟩) 48 48,ZX (some ⟨w4.heap.size+1,0,none⟩) 21 21] 22))
 rw [hW7] at hP
 have hf:=feed_said (by decide) (HA4.out.below hb7) (Q.new_ok 0 usual) (by unfold Q.new;split<;>rfl) (some ⟨w4.heap.size+2,0,none⟩) 2 [[80,79,83,84,32,47,32,72,84,84,80,47,49,46,49,13,10,72,111,115,116,58,32,104,13,10,69,120,112,101,99,116,58,32,49,48,48,45,99,111,110,116,105,110,117,101,13,10],[67,111,110,116,101,110,116,45,76,101,110,103,116,104,58,32,50,13,10,13,10]] hP (by decide) (by decide);rw [show ([[80,79,83,84,32,47,32,72,84,84,80,47,49,46,49,13,10,72,111,115,116,58,32,104,13,10,69,120,112,101,99,116,58,32,49,48,48,45,99,111,110,116,105,110,117,101,13,10],[67,111,110,116,101,110,116,45,76,101,110,103,116,104,58,32,50,13,10,13,10]]:List (List UInt8)).flatten= [80,79,83,84,32,47,32,72,84,84,80,47,49,46,49,13,10,72,111,115,116,58,32,104,13,10,69,120,112,101,99,116,58,32,49,48,48,45,99,111,110,116,105,110,117,101,13,10] ++ [67,111,110,116,101,110,116,45,76,101,110,103,116,104,58,32,50,13,10,13,10] from rfl] at hf;have k3:=k3_all;rw [show Q.feed 0 usual (Q.new 0 usual) ([80,79,83,84,32,47,32,72,84,84,80,47,49,46,49,13,10,72,111,115,116,58,32,104,13,10,69,120,112,101,99,116,58,32,49,48,48,45,99,111,110,116,105,110,117,101,13,10] ++ [67,111,110,116,101,110,116,45,76,101,110,103,116,104,58,32,50,13,10,13,10])=Q.read 0 usual ([80,79,83,84,32,47,32,72,84,84,80,47,49,46,49,13,10,72,111,115,116,58,32,104,13,10,69,120,112,101,99,116,58,32,49,48,48,45,99,111,110,116,105,110,117,101,13,10] ++ [67,111,110,116,101,110,116,45,76,101,110,103,116,104,58,32,50,13,10,13,10]) from rfl] at hf;obtain ⟨X,hX⟩:∃X,Q.read 0 usual ([80,79,83,84,32,47,32,72,84,84,80,47,49,46,49,13,10,72,111,115,116,58,32,104,13,10,69,120,112,101,99,116,58,32,49,48,48,45,99,111,110,116,105,110,117,101,13,10] ++ [67,111,110,116,101,110,116,45,76,101,110,103,116,104,58,32,50,13,10,13,10])=X:=⟨_,rfl⟩;rw [hX] at k3 hf
 have HF7:=Bx (show Calls EW 17 #[ptr g,ZX (some ⟨w4.heap.size+2,0,none⟩) 2 2] (((w4.alloc (.cells #[ZZ ZR 80,ZZ ZR 79,ZZ ZR 83,ZZ ZR 84,ZZ ZR 32,ZZ ZR 47,ZZ ZR 32,ZZ ZR 72,ZZ ZR 84,ZZ ZR 84,ZZ ZR 80,ZZ ZR 47,ZZ ZR 49,ZZ ZR 46,ZZ ZR 49,ZZ ZR 13,ZZ ZR 10,ZZ ZR 72,ZZ ZR 111,ZZ ZR 115,ZZ ZR 116,ZZ ZR 58,ZZ ZR 32,ZZ ZR 104,ZZ ZR 13,ZZ ZR 10,ZZ ZR 69,ZZ ZR 120,ZZ ZR 112,ZZ ZR 101,ZZ ZR 99,ZZ ZR 116,ZZ ZR 58,ZZ ZR 32,ZZ ZR 49,ZZ ZR 48,ZZ ZR 48,ZZ ZR 45,ZZ ZR 99,ZZ ZR 111,ZZ ZR 110,ZZ ZR 116,ZZ ZR 105,ZZ ZR 110,ZZ ZR 117,ZZ ZR 101,ZZ ZR 13,ZZ ZR 10] 5 (48,49))).alloc (.cells #[ZZ ZR 67,ZZ ZR 111,ZZ ZR 110,ZZ ZR 116,ZZ ZR 101,ZZ ZR 110,ZZ ZR 116,ZZ ZR 45,ZZ ZR 76,ZZ ZR 101,ZZ ZR 110,ZZ ZR 103,ZZ ZR 116,ZZ ZR 104,ZZ ZR 58,ZZ ZR 32,ZZ ZR 50,ZZ ZR 13,ZZ ZR 10,ZZ ZR 13,ZZ ZR 10] 5 (21,22))).alloc (.cells #[ZX (some ⟨w4.heap.size,0,none⟩) 48 48,ZX (some ⟨w4.heap.size+1,0,none⟩) 21 21] 22)) λr w'=>∃o L',r=.returned o/\At w' ⟨w3.heap.size,[]⟩ g 0 usual L' X.told/\X.told.Ok usual/\X.told.out= []/\Said w' o X.out/\Step L4 L' W7 w' from by rw [hW7];exact hf);have HK3:=Bx k3;have HB7:=Bx hb7;clear hP hf hX k3 hb7 hW7;go_upto_region 8 with
  (go_at_call 17;with_reducible refine HF7.out.mono ?_;rintro r w5 ⟨o5,L5,rfl,hA5,hok5,ho5,hT5,hS5⟩
   have HA5:=Bx hA5;have HO5:=Bx hok5;have HE5:=Bx ho5
   have HL5:=Bx ((HL4.out.trans (HB7.out.mono HL4.out.size)).trans (hS5.keeps.below (Dd HL4.out.size HB7.out.size) HA4.out.low));clear hA5 hok5 ho5 hT5 hS5)
 have hwt:=waits_any HA5.out HO5.out;rw [told_waits,HK3.out.1] at hwt;have HWT:=Bx hwt;clear hwt HF7 HB7 HL4 HA4 hc3 hc4w;have hhd:=λ(w6:World) (hb:Below w5.heap.size w5 w6)=>held_any (HA5.out.below hb) HO5.out;rw [told_held,HK3.out.2.1] at hhd
 have HHD:=Bx (show∀(w6:World),Below w5.heap.size w5 w6->Calls EW 23 #[ptr g] w6 λr w'=>r=.returned (ZZ ZS 43)/\Below w6.heap.size w6 w' from hhd);clear hhd
 go_upto_region 9 with (first
  |(go_at_call 23;with_reducible refine (HHD.out _ HB6.out).mono ?_;rintro r w7 ⟨rfl,hb⟩
    have HB8:=Bx (Al HB6.out hb);clear hb)
  |(go_at_call 21;with_reducible refine HWT.out.mono ?_;rintro r w6 ⟨rfl,hb⟩
    have HB6:=Bx hb;clear hb))
 clear HHD HWT HB6
 have HA7:=Bx (HA5.out.below HB8.out)
 have HL7:=Bx (HL5.out.trans (HB8.out.mono HL5.out.size));clear HA5 HL5 HB8;have hbA:Below w7.heap.size w7 (w7.alloc (.cells #[.int .u8 97,.int .u8 98] 5 (2,3))):=(An _ _).alloc (Db _) _;have hP5:=Parts.one (c:=2) (Bts.lit HA7.out.in [97,98] #[.int .u8 97,.int .u8 98] (by kernel_rfl) 5 (2,3)) (in_alloc HA7.out.in _) 22;have hs5:(w7.alloc (.cells #[.int .u8 97,.int .u8 98] 5 (2,3))).heap.size=w7.heap.size+1:=by simp
 rw [hs5] at hP5;have hb9:Below w7.heap.size w7 ((w7.alloc (.cells #[ZZ ZR 97,ZZ ZR 98] 5 (2,3))).alloc (.cells #[ZX (some ⟨w7.heap.size,0,none⟩) 2 2] 22)):=hbA.alloc (by simp) _
 have hf5:=feed_said (by decide) (HA7.out.below hb9) HO5.out HE5.out (some ⟨w7.heap.size+1,0,none⟩) 1 [[97,98]] hP5 (by decide) (by decide);rw [show ([[97,98]]:List (List UInt8)).flatten= [97,98] from rfl] at hf5;have k3:=HK3.out;obtain ⟨Y,hY⟩:∃Y,X.told.feed 0 usual [97,98]=Y:=⟨_,rfl⟩;rw [hY] at k3 hf5
 have HF9:=Bx (show Calls EW 17 #[ptr g,ZX (some ⟨w7.heap.size+1,0,none⟩) 1 1] ((w7.alloc (.cells #[ZZ ZR 97,ZZ ZR 98] 5 (2,3))).alloc (.cells #[ZX (some ⟨w7.heap.size,0,none⟩) 2 2] 22)) λr w'=>∃o L',r=.returned o/\At w' ⟨w3.heap.size,[]⟩ g 0 usual L' Y.told/\Y.told.Ok usual/\Y.told.out= []/\Said w' o Y.out/\Step L5 L' ((w7.alloc (.cells #[ZZ ZR 97,ZZ ZR 98] 5 (2,3))).alloc (.cells #[ZX (some ⟨w7.heap.size,0,none⟩) 2 2] 22)) w' from hf5);have HY:=Bx k3;have HB9:=Bx hb9;clear hbA hP5 hs5 hb9 hf5 k3 hY HK3;obtain ⟨a1,c1,e1,hc1⟩:=HT3.out;obtain ⟨bk,rfl,hbk,hr1⟩:=hc1 Nat.zero_lt_one;have hr2:=hr1 0 Nat.zero_lt_one;have e1:o1=ZX (some ⟨bk,0,none⟩) 1 c1:=e1;subst e1
 have HR1:=Bx (show RecAt w3 bk 0 r1 from hr2);have HBK:=Bx hbk;clear hc1 hr1 hr2 hbk HT3
 go_wp2_with (first
  |(go_at_call 23;with_reducible refine HHE.out.mono ?_;rintro r w9 ⟨rfl,hb⟩;have HB10:=Bx hb;clear hb)
  |(go_at_call 20;with_reducible refine Cm HER.out ?_)
  |(go_at_call 25;with_reducible refine Cm HCL.out ?_)
  |(go_at_call 17;with_reducible refine HF9.out.mono ?_;rintro r w8 ⟨o8,L8,rfl,hA8,hok8,ho8,hT8,hS8⟩
    have hl8:=(HL7.out.trans (HB9.out.mono HL7.out.size)).trans (hS8.keeps.below (Dd HL7.out.size HB9.out.size) HA7.out.low);have HL8:=Bx hl8;obtain ⟨fa,fc,ba,bc,ta,tc,f1,f2,f3,d0,d1,d2,d3,d4,d5,d6⟩:=HR1.out.below HBK.out hl8;have hcl:=cleanq_any hA8;have her:=errq_any hA8;have hhe:=held_any hA8 hok8;rw [told_clean,HY.out.2.2.2.2.1] at hcl;rw [told_err,HY.out.2.2.2.2.2.1] at her;rw [told_held,HY.out.2.2.2.2.2.2] at hhe;have HCL:=Bx hcl
    have HER:=Bx (show Calls EW 20 #[ptr g] w8 λr w'=>r=.returned (ZZ ZS 0)/\w'=w8 from her)
    have HHE:=Bx (show Calls EW 23 #[ptr g] w8 λr w'=>r=.returned (ZZ ZS 0)/\Below w8.heap.size w8 w' from hhe);obtain ⟨a8,c8,e8, -⟩:=hT8;rw [HY.out.2.2.2.1] at e8;subst e8;rw [HBD.out] at f2 d5;rw [HTS.out] at d6;rw [HCH.out] at d4;have hcs:(convert 22 9 (.slice ba 3 bc)).run EW w8=.ok (ZY ⟨#[97,98,99]⟩) w8:=Txt.conv_str w8 ba 3 bc _ f2;clear hcl her hhe hA8 hok8 ho8 hS8 f1 f2 f3 d0 d1 d2 d3 hl8))
 go_ret;exact ⟨rfl,((HB3.out.trans (HL8.out.mono HB3.out.size)).trans (HB10.out.mono (Dd HB3.out.size HL8.out.size)))⟩
end
end Go.Proofs.YtdfabddnpgjepaaGreatDoor.Pg
namespace Go.Proofs.YtdfabddnpgjepaaGreatDoor.Txt
open Go.RowKit Base Oct
theorem stands_isIn (set:ByteArray) (x:UInt8):stands set.data.toList (x.toNat:Int)=isIn set x:=by
 unfold stands isIn;rw [Au,List.any_eq_true,List.contains_iff_exists_mem_beq];constructor
 ·rintro ⟨b,hb,e⟩;exact ⟨b,hb,by rw [beq_iff_eq] at e ⊢;exact (FM.1 (by omega)).symm⟩
 ·rintro ⟨b,hb,e⟩;rw [beq_iff_eq] at e;subst e;exact ⟨x,hb,by simp⟩
def Bytes (w:World) (g:Nat) (l:List UInt8):Prop:=∀j (h:j<l.length),w.cell? ⟨g,j,none⟩=some (ZZ ZR (l[j].toNat:Int))/\w.frozen? ⟨g,j,none⟩=false
theorem Bytes.set {w:World} {g:Nat} {l:List UInt8} (h:Bytes w g l) (k:Nat) (b:UInt8):Bytes (w.setCell ⟨g,k,none⟩ (ZZ ZR (b.toNat:Int))) g (l.set k b):=by
 intro j hj;rw [List.length_set] at hj;obtain ⟨c,z⟩:=h j hj;refine ⟨?_,by rw [World.frozen?_setCell];exact z⟩;by_cases e:k=j
 ·subst e;rw [World.cell?_setCell_same _ _ _ c,List.getElem_set_self]
 ·rw [World.cell?_setCell_other _ _ _ _ (by simp<;>omega),List.getElem_set_ne e];exact c
theorem conv_bytes (s:ByteArray) (w:World):∃W cap,(convert 9 22 (ZY s)).run EW w=.ok (ZX (some ⟨w.heap.size,0,none⟩) s.size cap) W/\Bytes W w.heap.size s.data.toList/\w.heap.size<W.heap.size/\Below w.heap.size w W:=by exact XXLUf
theorem mix_put (l:List UInt8) (k:Nat) (h:k<l.length):(mix l k).set k (lowB l[k])=mix l (k+1):=by
 unfold mix low;rw [List.set_append_right _ _ (by simp;omega),CO h,BQ h];have:k-(List.map lowB (List.take k l)).length=0:=by simp;omega
 rw [this,CK,List.map_append,List.append_assoc];rfl
theorem mix_get (l:List UInt8) (k:Nat) (h:k<l.length):(mix l k)[k]'(by rw [mix_length];exact h)=l[k]:=by
 unfold mix low;rw [List.getElem_append_right (by simp;omega)];have:k-(List.map lowB (List.take k l)).length=0:=by simp;omega
 simp only [this,List.getElem_drop,Nat.add_zero]
theorem mix_skip (l:List UInt8) (k:Nat) (h:k<l.length) (e:lowB l[k]=l[k]):mix l k=mix l (k+1):=by rw [←mix_put l k h,e,←mix_get l k h,List.set_getElem_self]
def tbytes:Value->Nat
 | .string t=>t.size
 | _=>0
section
set_option maxHeartbeats 1000000
attribute [local go_sem] Am
theorem XXoMT {P:Prop} (h:P:=by
 generalize (s.data.toList[k].toNat:Int)=x at *;go_wp2;go_roundw
 case rel=>exact ⟨k+1,by omega,by go_num,HS,hbr⟩
 case measure=>simp [intOf];omega):P:=h
theorem rlower_any (s:ByteArray) (w:World) (hs:s.size<=1099511627776):Calls EW 176 #[ZY s] w λe w'=>e=.returned (ZY (lower s))/\Below w.heap.size w w':=by
 obtain ⟨W,cap,hcv,hB,hg,hb⟩:=conv_bytes s w
 have hB0:=Bx (show Bytes W w.heap.size (mix s.data.toList 0) by rw [mix_zero];exact hB);have hb0:=Bx hb;clear hB hb;go_enter Tryz.func176,Tryz.ntmps176;go_wp2;clear hcv;generalize hgw:w.heap.size=g at *;have HG:=Bx hgw;clear hgw
 go_loopw [4] (λi wr=>∃k:Nat,k<=s.size/\i=ZZ ZS k/\Hid (Bytes wr g (mix s.data.toList k))/\Hid (Below g w wr)) (λi _=>s.size-(intOf i).toNat)
 case atStart=>exact ⟨0,Dj _,rfl,hB0,hb0⟩
 case round=>
  obtain ⟨k,hk,rfl,hB,hbr⟩:=hrel;rcases Dg k s.size with hlt | hge
  ·have hll:k<s.data.toList.length:=by rw [len];exact hlt
   obtain ⟨hc,hz⟩:=hB.out k (by rw [mix_length];exact hll);rw [mix_get _ _ hll] at hc;have i1:(k:Int)<(s.size:Int):=by omega
   have hb0:0<=(s.data.toList[k].toNat:Int):=by omega
   have hb1:=byte_lt s.data.toList[k];by_cases hx:65<=s.data.toList[k].toNat/\s.data.toList[k].toNat<=90
   ·obtain ⟨x0,x1⟩:=hx;have e0:=lowB_toNat s.data.toList[k];have e1:lowN (s.data.toList[k].toNat:Int)=(s.data.toList[k].toNat:Int)+32:=by unfold lowN;rw [if_pos (by omega)]
    have hset:=(hB.out.set k (lowB s.data.toList[k]));rw [mix_put _ _ hll,e0,e1] at hset;have HS:=Bx hset;have y0:(65:Int)<=(s.data.toList[k].toNat:Int):=by omega
    have y1:(s.data.toList[k].toNat:Int)<=90:=by omega
    clear e0 e1 hset x0 x1;generalize (s.data.toList[k].toNat:Int)=x at *;have e2:IntKind.u8.wrap (x+32)=x+32:=by rw [IntKind.wrap_u8];omega
    go_wp2;go_roundw
    case rel=>exact ⟨k+1,by omega,by go_num,HS,Bx (hbr.out.setCell (Db _) _)⟩
    case measure=>simp [intOf];omega
   ·have e0:lowB s.data.toList[k]=s.data.toList[k]:=by unfold lowB;rw [if_neg hx]
    have hB2:=hB.out;rw [mix_skip _ _ hll e0] at hB2;have HS:=Bx hB2;clear hB2 e0;rcases Dg s.data.toList[k].toNat 65 with h | h
    ·have y0:¬(65:Int)<=(s.data.toList[k].toNat:Int):=by omega
     exact XXoMT
    ·have y0:(65:Int)<=(s.data.toList[k].toNat:Int):=by omega
     have y1:¬(s.data.toList[k].toNat:Int)<=90:=by omega
     exact XXoMT
  ·obtain rfl:k=s.size:=by omega
   have hconv:=run_convert_bytes_back (P:=EW) wr 22 9 5 ⟨g,0,none⟩ cap (low s.data.toList) F0 F7 F8 (λj hj=>by
    have h1:=(hB.out j (by rw [mix_length];simpa [low] using hj)).1;have e:(⟨g,0,none⟩:Addr).add j=⟨g,j,none⟩:=by unfold Addr.add;by_cases h:j=0<;>simp [h]
    rw [e,h1]
    congr 4
    simp only [mix_all s.data.toList s.size (by rw [len];exact Db _)])
   have hl:(low s.data.toList).length=s.size:=by rw [low,Cw,len]
   rw [hl] at hconv;go_wp2;go_ret;exact ⟨rfl,by rw [HG.out];exact hbr.out⟩
theorem rsame_any (a b:ByteArray) (w:World) (ha:a.size<=1099511627776) (hb:b.size<=1099511627776):Calls EW 148 #[ZY a,ZY b] w λe w'=>e=.returned (ZW (same a b))/\Below w.heap.size w w':=by
 have h1:=Bx (λw=>rlower_any a w ha)
 have h2:=Bx (λw=>rlower_any b w hb);have hr:((lower a).toList==(lower b).toList)=same a b:=by rw [B9,B9];rfl
 generalize lower a=x at *;generalize lower b=y at *;go_enter Tryz.func148,Tryz.ntmps148
 go_wp2_with (first
  |(go_at_call 176;with_reducible refine (h1.out _).mono ?_;rintro e w1 ⟨rfl,hb1⟩)
  |(go_at_call 176;with_reducible refine (h2.out _).mono ?_;rintro e w2 ⟨rfl,hb2⟩))
 go_ret;exact ⟨by rw [←hr];rfl,Al hb1 hb2⟩
theorem first_of (t:ByteArray) (h:0<t.size):t.data.toList=t[0]::t.data.toList.drop 1/\(t.extract 1 t.size).data.toList=t.data.toList.drop 1/\t.toList.isEmpty=false:=by
 have hl:0<t.data.toList.length:=by rw [len];exact h
 have e:t.data.toList=t[0]::t.data.toList.drop 1:=by
  conv=>lhs;rw [←List.drop_zero (l:=t.data.toList),BQ hl]
  rfl
 refine ⟨e,?_,?_⟩
 ·rw [Bu,CN (by rw [Cu,len];exact Db _)]
 ·rw [B9,e];rfl
theorem last_of (t:ByteArray) (h:0<t.size):t.data.toList=t.data.toList.take (t.size-1) ++ [t[t.size-1]]/\(t.extract 0 (t.size-1)).data.toList=t.data.toList.take (t.size-1)/\t.toList.isEmpty=false:=by
 have e:=take_snoc t (t.size-1) (by omega);rw [show t.size-1+1=t.size by omega,take_all t _ (Db _)] at e;refine ⟨e,?_,?_⟩
 ·rw [Bu,List.drop_zero,Nat.sub_zero]
 ·rw [B9];cases hl:t.data.toList with
  | nil=>exfalso;have h2:=len t;rw [hl,List.length_nil] at h2;omega
  | cons _ _=>rfl
theorem in_any (x:UInt8) (r:Bool) (set:ByteArray) (w:World) (ht:set.size<=maxLen) (hq:isIn set x=r):Calls EW 194 #[ZZ ZR x.toNat,ZY set] w λe w'=>e=.returned (ZW r)/\w'=w:=by have:=Oct.stands_any (x.toNat:Int) set w ht;rw [stands_isIn,hq] at this;exact this
theorem rtrimOf_any (s set:ByteArray) (w:World) (ht:set.size<=maxLen) (hs:s.size<=maxLen):Calls EW 169 #[ZY s,ZY set] w λe w'=>e=.returned (ZY (trimOf s set))/\w'=w:=by
 unfold maxLen at hs;go_enter Tryz.func169,Tryz.ntmps169;go_wp2
 go_loop [0] (λx=>∃t:ByteArray,x=ZY t/\t.size<=s.size/\Hid (t.data.toList.dropWhile (isIn set)=s.data.toList.dropWhile (isIn set))) (λx=>tbytes x)
 case atStart=>exact ⟨s,rfl,Db _,Bx rfl⟩
 case round=>
  obtain ⟨t,rfl,hts,hdw⟩:=hrel;by_cases hgo:∃h:0<t.size,isIn set t[0]=true
  ·obtain ⟨h0,hq⟩:=hgo
   have HC:=Bx (in_any t[0] true set w ht hq);obtain ⟨e1,e2,e3⟩:=first_of t h0
   have HD:=Bx (show (t.extract 1 t.size).data.toList.dropWhile (isIn set)=s.data.toList.dropWhile (isIn set) by
    rw [←hdw.out,e2]
    conv=>rhs;rw [e1,List.dropWhile_cons,if_pos hq])
   have i0:t.toList.isEmpty=false:=e3;have i1:(1:Int)<=(t.size:Int):=by omega
   have i2:(t.size:Int)<=9223372036854775807:=by omega
   have hsz:(t.extract 1 t.size).size=t.size-1:=by rw [ByteArray.size_extract];omega
   clear e1 e2 e3 hq
   go_wp2_with (go_at_call 194;with_reducible refine HC.out.mono ?_;rintro e w' ⟨rfl,hw⟩;rw [hw];clear hw);go_round
   case rel=>exact ⟨_,rfl,by omega,HD⟩
   case measure=>simp [tbytes];omega
  ·have hst:t.data.toList.dropWhile (isIn set)=t.data.toList:=by
    rcases CZ t.size with h0 | h0
    ·have:t.data.toList= []:=List.length_eq_zero_iff.1 (by rw [len];exact h0);rw [this];rfl
    ·obtain ⟨e1,_,_⟩:=first_of t h0;rw [e1];refine dropWhile_stop ?_;cases hq:isIn set t[0] with
     | false=>rfl
     | true=>exact absurd ⟨h0,hq⟩ hgo
   have hfin:=Bx (show trimL (isIn set) s.data.toList=(t.data.toList.reverse.dropWhile (isIn set)).reverse by unfold trimL;rw [←hdw.out,hst])
   have hlast:=Bx (show∀h:0<t.size,isIn set t[0]=false from λh=>by
    cases hq:isIn set t[0] with
    | false=>rfl
    | true=>exact absurd ⟨h,hq⟩ hgo)
   clear hgo hst;rcases CZ t.size with h0 | h0
   all_goals (first
    |(have i0:t.toList.isEmpty=false:=(first_of t h0).2.2
      have HC:=Bx (in_any t[0] false set w ht (hlast.out h0))
      (go_wp2_with (go_at_call 194;with_reducible refine HC.out.mono ?_;rintro e w' ⟨rfl,hw⟩;rw [hw];clear hw)))
    |(have i0:t.toList.isEmpty=true:=by
       rw [B9,List.length_eq_zero_iff.1 (show t.data.toList.length=0 by rw [len];exact h0)];rfl
      go_wp2))
   all_goals
    clear i0
    go_loop [0] (λx=>∃u:ByteArray,x=ZY u/\u.size<=t.size/\Hid (u.data.toList.reverse.dropWhile (isIn set)=t.data.toList.reverse.dropWhile (isIn set))) (λx=>tbytes x)
    case atStart=>exact ⟨t,rfl,Db _,Bx rfl⟩
    case round=>
     obtain ⟨u,rfl,hus,hrv⟩:=hrel;rcases CZ u.size with hu0 | hu0
     ·have e0:u.data.toList= []:=List.length_eq_zero_iff.1 (by rw [len];exact hu0);have i0:u.toList.isEmpty=true:=by rw [B9,e0];rfl
      have HF:=Bx (show u=trimOf s set from ba_ext (by rw [trimOf,trimB_list,hfin.out,←hrv.out,e0];rfl))
      clear e0;go_wp2;go_ret;exact ⟨by rw [←HF.out];rfl,rfl⟩
     ·first
      |(exfalso;omega)
      |(
       obtain ⟨e1,e2,e3⟩:=last_of u hu0;have i0:u.toList.isEmpty=false:=e3;have i1:u.size-1<u.size:=by omega
       have i3:(u.size:Int)-1<(u.size:Int):=by omega
       have i4:0<=(u.size:Int)-1:=by omega
       have i5:IntKind.i64.wrap ((u.size:Int)-1)=(u.size:Int)-1:=wrap_in _ (by omega) (by omega);have i6:((u.size:Int)-1).toNat=u.size-1:=by omega
       have i7:(u.size:Int)-1<=(u.size:Int):=by omega
       cases hq:isIn set u[u.size-1] with
       | true=>
         have HC:=Bx (in_any u[u.size-1] true set w ht hq)
         have HD:=Bx (show (u.extract 0 (u.size-1)).data.toList.reverse.dropWhile (isIn set)=t.data.toList.reverse.dropWhile (isIn set) by
          rw [←hrv.out,e2]
          conv=>rhs;rw [e1,List.reverse_append,List.reverse_singleton,List.singleton_append,List.dropWhile_cons,if_pos hq])
         have hsz:(u.extract 0 (u.size-1)).size=u.size-1:=by rw [ByteArray.size_extract];omega
         clear e1 e2 e3 hq
         go_wp2_with (go_at_call 194;with_reducible refine HC.out.mono ?_;rintro e w' ⟨rfl,hw⟩;rw [hw];clear hw);go_round
         case rel=>exact ⟨_,rfl,by omega,HD⟩
         case measure=>simp [tbytes];omega
       | false=>
         have HC:=Bx (in_any u[u.size-1] false set w ht hq)
         have HF:=Bx (show u=trimOf s set from ba_ext (by rw [trimOf,trimB_list,hfin.out,←hrv.out,e1,List.reverse_append,List.reverse_singleton,List.singleton_append,dropWhile_stop hq];simp))
         clear e1 e2 e3 hq
         go_wp2_with (go_at_call 194;with_reducible refine HC.out.mono ?_;rintro e w' ⟨rfl,hw⟩;rw [hw];clear hw);go_ret;exact ⟨by rw [←HF.out];rfl,rfl⟩)
theorem rtrim_any (s:ByteArray) (w:World) (hs:s.size<=maxLen):Calls EW 135 #[ZY s] w λe w'=>e=.returned (ZY (trim s))/\w'=w:=by
 have h:=Bx (rtrimOf_any s ⟨#[32,9]⟩ w (by decide) hs);have e:trimOf s ⟨#[32,9]⟩=trim s:=by
  unfold trimOf trim
  congr 1
  funext x
  simp only [isIn,blank,List.contains_cons,List.contains_nil,Bool.or_false]
 rw [e] at h;go_enter Tryz.func135,Tryz.ntmps135
 go_wp2_with (go_at_call 169;with_reducible refine h.out.mono ?_;rintro e w' ⟨rfl,rfl⟩);go_ret;exact ⟨rfl,rfl⟩
end
end Go.Proofs.YtdfabddnpgjepaaGreatDoor.Txt
namespace Go.Proofs.YtdfabddnpgjepaaGreatDoor.Txt
open Go.RowKit Base Oct
def Part (c:UInt8) (l:List UInt8) (f k:Nat) (done:List (List UInt8)):Prop:=
 (k<=l.length/\f<=k/\parts c l=done++parts c (l.drop f)/\c∉(l.drop f).take (k-f))∨(k=l.length+1/\f=l.length+1/\parts c l=done)
theorem Part.start (c:UInt8) (l:List UInt8):Part c l 0 0 []:=.inl ⟨Dj _,Db _,rfl,by simp⟩
theorem Part.last {c:UInt8} {l:List UInt8} {f:Nat} {done:List (List UInt8)} (h:Part c l f l.length done):f<=l.length/\Part c l (l.length+1) (l.length+1) (done ++ [l.drop f]):=by
 rcases h with ⟨_,h1,h2,h3⟩ | ⟨h,_⟩
 ·refine ⟨h1,.inr ⟨rfl,rfl,?_⟩⟩;rw [CN (by rw [Cu];omega)] at h3;rw [h2,parts_none c _ h3]
 ·omega
theorem Part.hit {c:UInt8} {l:List UInt8} {f k:Nat} {done:List (List UInt8)} (h:Part c l f k done) (hk:k<l.length) (hc:l[k]=c):f<=k/\Part c l (k+1) (k+1) (done ++ [(l.drop f).take (k-f)]):=by
 rcases h with ⟨_,h1,h2,h3⟩ | ⟨h,_⟩
 ·refine ⟨h1,.inl ⟨by omega,Db _,?_,by simp⟩⟩;have e:l.drop f=(l.drop f).take (k-f)++c::l.drop (k+1):=by
   conv=>lhs;rw [←List.take_append_drop (k-f) (l.drop f)]
   rw [List.drop_drop,show f+(k-f)=k by omega,BQ hk,hc]
  rw [h2]
  conv=>lhs;rw [e]
  rw [parts_cut c _ _ h3,List.append_assoc];rfl
 ·omega
theorem Part.miss {c:UInt8} {l:List UInt8} {f k:Nat} {done:List (List UInt8)} (h:Part c l f k done) (hk:k<l.length) (hc:l[k]≠c):Part c l f (k+1) done:=by
 rcases h with ⟨_,h1,h2,h3⟩ | ⟨h,_⟩
 ·refine .inl ⟨by omega,by omega,h2,?_⟩;have hlt:k-f<(l.drop f).length:=by rw [Cu];omega
  rw [show k+1-f=(k-f)+1 by omega,CO hlt,C3,not_or];refine ⟨h3,?_⟩;rw [List.getElem_drop,CB];simp only [show f+(k-f)=k by omega];exact λe=>hc e.symm
 ·omega
section
set_option maxHeartbeats 1000000
attribute [local go_sem] Am
set_option maxRecDepth 10000 in
theorem rsplit_any (s:ByteArray) (c:UInt8) (w:World) (hs:s.size<=1000000000) :
 Calls EW 166 #[ZY s,ZZ ZR c.toNat] w λe w'=>∃b m cp,e=.returned (.slice b m cp)/\m=(parts c s.data.toList).length/\Strs w' b m ((parts c s.data.toList).map ba)/\Below w.heap.size w w':=by
 obtain ⟨i0,hi,hz0,hz1,hz2⟩:=info_parts text_info;have G1:=Bx hi;have G2:=Bx hz0;have G3:=Bx hz1;have G4:=Bx hz2;clear hi hz0 hz1 hz2;obtain ⟨PS,hPS⟩:∃PS,parts c s.data.toList=PS:=⟨_,rfl⟩;rw [hPS];have HPS:=Bx hPS;clear hPS;go_enter Tryz.func166,Tryz.ntmps166;go_wp2
 go_loopw [5,6,7] (λv fr i wr=>∃(k f:Nat) (done:List (List UInt8)),k<=s.size+1/\f<=s.size+1/\done.length<=k/\fr=ZZ ZS f/\i=ZZ ZS k/\Hid (Part c s.data.toList f k done)/\Hid (wr.ownsRow w.heap.size 9 1 v done.length ((done.map ba).map Value.string))/\Hid (Below w.heap.size w wr)) (λ_ _ i _=>s.size+1-(intOf i).toNat)
 case atStart=>exact ⟨0,0,[],by omega,by omega,Db _,rfl,rfl,Bx (Part.start _ _),Bx ⟨rfl,.inl ⟨rfl,rfl⟩⟩,Bx (An _ _)⟩
 case round=>
  obtain ⟨k,f,done,hk,hf,hdn,rfl,rfl,hpt,hown,hbr⟩:=hrel;rcases Dg k s.size with hlt | hge
  ·have t0:(k:Int)<=(s.size:Int):=by omega
   have t1:((k:Int)==(s.size:Int))=false:=beq_eq_false_iff_ne.2 (by omega);have i1:(k:Int)<(s.size:Int):=by omega
   have hkl:k<s.data.toList.length:=by rw [len];exact hlt
   have e0:s[k]=s.data.toList[k]:=rfl;by_cases hc:s.data.toList[k]=c
   ·have t2:((s[k].toNat:Int)==(c.toNat:Int))=true:=by rw [e0,hc];exact beq_self_eq_true _
    obtain ⟨hfk,hP⟩:=hpt.out.hit hkl hc;have HP:=Bx hP
    have ex:s.extract f k=ba ((s.data.toList.drop f).take (k-f)):=ba_ext (by rw [Bu];rfl);have c1:(f:Int)<=(k:Int):=by omega
    have m1:IntKind.i64.wrap ((k:Int)+1)=((k+1:Nat):Int):=by rw [wrap_in _ (by omega) (by omega)];omega
    clear hP hpt hc e0;generalize (s.data.toList.drop f).take (k-f)=p at *;have HX:=Bx ex;clear ex
    go_wp2_with (at_builtin;refine wpList_append_own _ rfl _ _ 124 rfl w.heap.size 9 i0 (.string A8) 1 16 Tryz.underlying124 G1.out G2.out G3.out G4.out rfl (by decide) _ _ _ rfl (hown.out.alloc _) ⟨wr.heap.size,0,none⟩ 1 1 [.string (s.extract f k)] rfl rfl ?c1 ?c2 ?c3 ?c4 ?c5 ?_)
    case c1=>exact news_one wr _ _
    case c2=>intro u hu;obtain rfl:u=ZY (s.extract f k):=by simpa using hu
             rfl
    case c3=>unfold maxLen;omega
    case c4=>omega
    case c5=>have:=hbr.out.size;simp;omega
    intro v' w' hown' hgr _
    have H2:Hid (w'.ownsRow w.heap.size 9 1 v' (done ++ [p]).length (((done ++ [p]).map ba).map Value.string)):=Bx (by rw [HX.out] at hown';simpa using hown')
    have H3:=Bx ((hbr.out.alloc hbr.out.size _).grown hgr (by have:=hbr.out.size;simp;omega) (own_base hown.out));clear hown' hgr hown hbr;go_wp2;go_roundw
    case rel=>exact ⟨k+1,k+1,done ++ [p],by omega,by omega,by rw [Cr,List.length_singleton];omega,by go_num,by go_num,HP,H2,H3⟩
    case measure=>simp [intOf];omega
   ·have t2:((s[k].toNat:Int)==(c.toNat:Int))=false:=beq_eq_false_iff_ne.2 λe=>hc (FM.1 (by rw [e0] at e;omega))
    have HP:=Bx (hpt.out.miss hkl hc);clear hpt hc e0;go_wp2;go_roundw
    case rel=>exact ⟨k+1,f,done,by omega,hf,by omega,rfl,by go_num,HP,hown,hbr⟩
    case measure=>simp [intOf];omega
  ·rcases Dg s.size k with hgt | hle
   ·obtain rfl:k=s.size+1:=by omega
    have t0:¬((s.size+1:Nat):Int)<=(s.size:Int):=by omega
    have hfin:done=PS:=by
     rcases hpt.out with ⟨h,_⟩ | ⟨_,_,h⟩
     ·rw [len] at h;omega
     ·rw [←h,HPS.out]
    subst hfin;obtain ⟨A,cp,rfl,hA⟩:=Strs.of_own hown.out;have HA:=Bx hA;clear hA hown hpt;go_wp2;go_ret;first | exact ⟨A,⟨cp,rfl⟩,HA.out,hbr.out⟩ | exact ⟨A,_,⟨cp,rfl⟩,rfl,HA.out,hbr.out⟩ | exact ⟨A,_,⟨cp,rfl⟩,HA.out,hbr.out⟩
   ·obtain rfl:k=s.size:=by omega
    have hpt':=hpt.out;rw [←len s] at hpt';obtain ⟨hfk,hP⟩:=hpt'.last;rw [len] at hfk hP;have HP:=Bx hP
    have ex:s.extract f s.size=ba (s.data.toList.drop f):=ba_ext (by rw [Bu,CN (by rw [Cu,len];omega)];rfl);have c1:(f:Int)<=(s.size:Int):=by omega
    have t0:(s.size:Int)<=(s.size:Int):=by omega
    have t1:((s.size:Int)==(s.size:Int))=true:=beq_self_eq_true _;have m1:IntKind.i64.wrap ((s.size:Int)+1)=((s.size+1:Nat):Int):=by rw [wrap_in _ (by omega) (by omega)];omega
    clear hP hpt hpt';generalize s.data.toList.drop f=p at *;have HX:=Bx ex;clear ex
    go_wp2_with (at_builtin;refine wpList_append_own _ rfl _ _ 124 rfl w.heap.size 9 i0 (.string A8) 1 16 Tryz.underlying124 G1.out G2.out G3.out G4.out rfl (by decide) _ _ _ rfl (hown.out.alloc _) ⟨wr.heap.size,0,none⟩ 1 1 [.string (s.extract f s.size)] rfl rfl ?c1 ?c2 ?c3 ?c4 ?c5 ?_)
    case c1=>exact news_one wr _ _
    case c2=>intro u hu;obtain rfl:u=ZY (s.extract f s.size):=by simpa using hu
             rfl
    case c3=>unfold maxLen;omega
    case c4=>omega
    case c5=>have:=hbr.out.size;simp;omega
    intro v' w' hown' hgr _
    have H2:Hid (w'.ownsRow w.heap.size 9 1 v' (done ++ [p]).length (((done ++ [p]).map ba).map Value.string)):=Bx (by rw [HX.out] at hown';simpa using hown')
    have H3:=Bx ((hbr.out.alloc hbr.out.size _).grown hgr (by have:=hbr.out.size;simp;omega) (own_base hown.out));clear hown' hgr hown hbr;go_wp2;go_roundw
    case rel=>exact ⟨s.size+1,s.size+1,done ++ [p],by omega,by omega,by rw [Cr,List.length_singleton];omega,by go_num,by go_num,HP,H2,H3⟩
    case measure=>simp [intOf]
end
end Go.Proofs.YtdfabddnpgjepaaGreatDoor.Txt
