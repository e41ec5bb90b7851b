import Derived.Test.YtdfabddnpgjepaaGreatDoorPmc
set_option linter.unusedSimpArgs false
open Array renaming getD_eq_getD_getElem?→Ag
open Bool renaming and_eq_true→Ao,not_eq_true'→Ay
open ByteArray renaming empty→A8
open Go.Act renaming put→Ab
open Go.Lib renaming hid→Bx
open Go.Proofs.Tryz renaming prog→EW
open Go.Proofs.YtdfabddnpgjepaaGreatDoor.Base renaming below_drewN→Ak,below_step→Al,some_undef→Am
open Go.Proofs.YtdfabddnpgjepaaGreatDoor.Each renaming Goes→AF,fine→AP,putg→AU,region_all→AW
open Go.Proofs.YtdfabddnpgjepaaGreatDoor.Each.Goes renaming enter→AG,same→AH
open Go.Proofs.YtdfabddnpgjepaaGreatDoor.Each.Lasts renaming eq→AK
open Go.Proofs.YtdfabddnpgjepaaGreatDoor.Ln renaming own_slice→CT,row_frozen→CV
open Go.Proofs.YtdfabddnpgjepaaGreatDoor.Mem.Keeps renaming set→Bp
open Go.Proofs.YtdfabddnpgjepaaGreatDoor.Mem.Of renaming refl→Dq
open Go.Proofs.YtdfabddnpgjepaaGreatDoor.Par.Step renaming of_below→DP,set→DS
open Go.Proofs.YtdfabddnpgjepaaGreatDoor.Qk renaming has→D0
open Go.Proofs.YtdfabddnpgjepaaGreatDoor.Rec renaming Bk→D5,wraps→DD
open Go.Proofs.YtdfabddnpgjepaaGreatDoor.Rec.Bk renaming new→D6
open Go.Proofs.YtdfabddnpgjepaaGreatDoor.Tree renaming change→Ec,done→Ed,grow→Ee,put1→Ef,quiet→Eg
open Go.RowKit.Below renaming refl→An
open List renaming getElem?_cons_succ→BY,getElem?_cons_zero→BZ,getElem?_toArray→Cg,mem_singleton→CB,setIfInBounds_toArray→CH,set_cons_succ→CJ,set_cons_zero→CK
open Nat renaming eq_zero_or_pos→CZ,le_of_lt→Da,le_refl→Db,le_trans→Dd,zero_add→Di
open Option renaming getD_some→Ds
open Go.Value renaming int→ZZ,string→ZY,slice→ZX,bool→ZW,pointer→ZV,agg→ZU,tuple→ZT
open Go.IntKind renaming i64→ZS,u8→ZR,u32→ZQ
namespace Go.Proofs.YtdfabddnpgjepaaGreatDoor.Pg
open Go.RowKit Base Txt Mem Par
theorem _root_.Go.Proofs.YtdfabddnpgjepaaGreatDoor.XXWvg {P:Prop} (h:P:=by
 have e:(cells ini).length=ini.length*2:=cells_length ini;have e2:cells [a]= [ZY a.1,ZY a.2]:=by simp [cells]
 rw [cells_append,e2];refine ⟨?_,?_⟩
 ·rw [List.getElem?_append_right (by omega),e,Nat.sub_self];rfl
 ·rw [List.getElem?_append_right (by omega),e,show ini.length*2+1-ini.length*2=1 by omega];rfl):P:=h
theorem cells_last (ini:List Fld) (a:Fld):(cells (ini ++ [a]))[ini.length*2]?=some (ZY a.1)/\(cells (ini ++ [a]))[ini.length*2+1]?=some (ZY a.2):=by exact XXWvg
theorem _root_.Go.Proofs.YtdfabddnpgjepaaGreatDoor.XXysj {P:Prop} (h:P:=by
 have e:(cells ini).length=ini.length*2:=cells_length ini;have e2:∀d:Fld,cells [d]= [ZY d.1,ZY d.2]:=λd=>by simp [cells]
 rw [cells_append,cells_append,e2,e2,List.set_append_right _ _ (by omega),e,Nat.sub_self,List.set_append_right _ _ (by omega),e,show ini.length*2+1-ini.length*2=1 by omega]
 rfl):P:=h
theorem cells_put (ini:List Fld) (a c:Fld):((cells (ini ++ [a])).set (ini.length*2) (ZY c.1)).set (ini.length*2+1) (ZY c.2)=cells (ini ++ [c]):=by exact XXysj
section
set_option maxHeartbeats 4000000
set_option maxRecDepth 20000
attribute [local go_sem] Am
variable {w:World} {B:Zone} {g q:Nat} {v f bd t o:Value} {p:Nat} {b:Bd} {s:T}
theorem XXDC0 {P:Prop} (h:P:=by
 have HB4:=Bx (HB3.out.alloc HB3.out.size (.cells #[ZY (ba n),ZY (ba vv)] 126))
 have HL4:=Bx (D6 w3 w3.heap.size rfl 126 [ZY (ba n),ZY (ba vv)]);generalize w3.alloc (.cells #[ZY (ba n),ZY (ba vv)] 126)=W4 at *;generalize w3.heap.size=gL at *
 have H4:=Bx (H1.out.below HB4.out);have HS4:=Bx (HS1.out.trans (DP HB4.out))
 have HQ:=Bx ((H4.out.drew 1).bk);have HQL:=Bx (HL4.out.drew 1);clear b1 b2 b3 c2 H1 HS1 HB3 HB4 HL4;refine Each.region_float 7 [62,63,64,65,66,67,68] [eP g 1,eP g 1,eP g 1,eP g 2,eQ (.slice bo s.r.fs.length co),eQ (ZU #[ZY (ba n),ZY (ba vv)]),λv w=>∃g1,v=ZX (some ⟨g1,0,none⟩) 1 1/\D5 w g1 [ZY (ba n),ZY (ba vv)]] [] 4 (some 0) (.act 7 (.quiet 8 (.quiet 9 (.act 10 .done)))) (.quiet 0 (.act 7 (.quiet 8 (.quiet 9 (.act 10 .done))))) (by kernel_rfl) (by kernel_rfl) (by kernel_rfl) (by kernel_rfl) (λk0 h=>by cases h;kernel_rfl) (λ_ _ d _ _ h=>by cases d<;>exact h) (by rfl) (by rfl) ⟨AK _,AK _,AK _,AK _,AK _,AK _,((λ_ _ _ hb h=>by obtain ⟨g1,e1,hB⟩:=h;exact ⟨g1,e1,hB.below hb⟩)),trivial⟩ trivial (by rfl) ?_ ?_ ?_
 ·refine ⟨?_,?_,?_,?_,?_,?_,?_,trivial⟩
  ·refine AP rfl (λev w1 hR hb hh=>?_);have e0:=hR.old 0 rfl;have e10:=hR.old 10 rfl;simp only [Ag,Cg,BY,BZ,Ds] at e0 e10;have q2:=(HQ.out.below hb).c 2 _ rfl;have q0:=(HQL.out.below hb).c 0 _ rfl;have q1:=(HQL.out.below hb).c 1 _ rfl;exact Each.std
  ·refine AP rfl (λev w1 hR hb hh=>?_);have e0:=hR.old 0 rfl;have e10:=hR.old 10 rfl;simp only [Ag,Cg,BY,BZ,Ds] at e0 e10;have q2:=(HQ.out.below hb).c 2 _ rfl;have q0:=(HQL.out.below hb).c 0 _ rfl;have q1:=(HQL.out.below hb).c 1 _ rfl;exact Each.std
  ·refine AP rfl (λev w1 hR hb hh=>?_);have e0:=hR.old 0 rfl;have e10:=hR.old 10 rfl;simp only [Ag,Cg,BY,BZ,Ds] at e0 e10;have q2:=(HQ.out.below hb).c 2 _ rfl;have q0:=(HQL.out.below hb).c 0 _ rfl;have q1:=(HQL.out.below hb).c 1 _ rfl;exact Each.std
  ·refine AP rfl (λev w1 hR hb hh=>?_);have e0:=hR.old 0 rfl;have e10:=hR.old 10 rfl;simp only [Ag,Cg,BY,BZ,Ds] at e0 e10;have q2:=(HQ.out.below hb).c 2 _ rfl;have q0:=(HQL.out.below hb).c 0 _ rfl;have q1:=(HQL.out.below hb).c 1 _ rfl;exact Each.std
  ·refine AP rfl (λev w1 hR hb hh=>?_);have e0:=hR.old 0 rfl;have e10:=hR.old 10 rfl;simp only [Ag,Cg,BY,BZ,Ds] at e0 e10;have q2:=(HQ.out.below hb).c 2 _ rfl;have q0:=(HQL.out.below hb).c 0 _ rfl;have q1:=(HQL.out.below hb).c 1 _ rfl;exact Each.std
  ·refine AP rfl (λev w1 hR hb hh=>?_);have e0:=hR.old 0 rfl;have e10:=hR.old 10 rfl;simp only [Ag,Cg,BY,BZ,Ds] at e0 e10;have q2:=(HQ.out.below hb).c 2 _ rfl;have q0:=(HQL.out.below hb).c 0 _ rfl;have q1:=(HQL.out.below hb).c 1 _ rfl;exact Each.std
  ·refine AP rfl (λev w1 hR hb hh=>?_);have e67:ev (.tmp 67)= _:=hh.at 0;clear hh;exact AF.value (ZX (some ⟨w1.heap.size,0,none⟩) 1 1) (w1.alloc (.cells #[ZY (ba n),ZY (ba vv)] 126)) (by go_simp) ((An _ _).alloc (Db _) _) ⟨_,rfl,D6 w1 _ rfl 126 [ZY (ba n),ZY (ba vv)]⟩
 ·intro g1 w5 hb hf;have z62:g1 62= _:=hf.at 0;have z66:g1 66= _:=hf.at 4;have z68:=hf.at 6;clear hf;obtain ⟨gl,el,hBl⟩:=z68;simp only [AU,Ab,CH,CK,CJ];rw [z62,z66,el];simp only [Ee,Ef,BZ,BY]
  have H5:=H4.out.below (Al (An W4.heap.size W4) hb)
  obtain ⟨v',w6,hrun,hO5,hgr5,hor5⟩:=App.run_append_list w5 46 46 B 126 iF (.agg #[.string A8,.string A8]) 2 32 Tryz.underlying46 I1.out I2.out I3.out I4.out rfl (by decide) (.slice bo s.r.fs.length co) s.r.fs.length (cells s.r.fs) H5.own.F (some ⟨gl,0,none⟩) 1 1 [.string (ba n),.string (ba vv)] rfl (λ_=>⟨gl,0,rfl,λj u hu=>by rw [Di];exact hBl.c j u hu⟩) (by intro u hu;rcases (by simpa using hu:u=.string (ba n)∨u=.string (ba vv)) with rfl | rfl<;>rfl) (by have:=HLEN.out;unfold maxLen;omega) (by have:=HLEN.out;omega) (Dd H5.own.ge (Da H5.own.lt));obtain ⟨bz,cz,ez, -⟩:=CT hO5;subst ez;have hl5:(s.r.fs ++ [(ba n,ba vv)]).length=s.r.fs.length+1:=by simp
  have hk5:Keeps [(.slice bo s.r.fs.length co:Value).ownBlock] w5 w6:=Keeps.grown hgr5 λk e=>by rw [e];exact CB.2 rfl
  obtain ⟨ho5,hs5⟩:=H5.own.setF (f':=.slice bz (s.r.fs.length+1) cz) (fs':=s.r.fs ++ [(ba n,ba vv)]) hk5 (by rw [hl5,cells_append];exact hO5) (by
   rcases hor5 with e | e
   ·exact .inl e
   ·exact .inr ⟨_,e,Db _⟩)
  have hrow:w6.heap[g]?= _:=hk5.row H5.row (λhm=>by
   have e:some g=(.slice bo s.r.fs.length co:Value).ownBlock:=by simpa using hm
   exact H5.own.lone.ne (i:=0) (j:=3) rfl (by decide) (by rw [e];rfl))
  refine Ec (by rfl) (λK hK=>?_);refine Each.oper_append _ _ _ rfl (by rfl) (by rfl) hrun ?_;refine hK _ _ trivial ?_;clear hK K hrun;simp only [Ab,CH,CK,CJ];refine Eg (by rfl) (ZV (some ⟨g,1,none⟩)) (λ_ _=>by go_simp) ?_;simp only [Ab,CH,CK,CJ];refine Eg (by rfl) (ZV (some ⟨g,2,none⟩)) (λ_ _=>by go_simp) ?_;simp only [Ab,CH,CK,CJ];have c2:=row_cellL hrow (k:=2) rfl;have z2:=CV hrow 2
  refine Ec (by rfl) (λK hK=>?_);go_simp;refine hK _ _ trivial ?_;clear hK K;refine Ed ?_
  have HR6:=Bx (row_setL hrow 2 (.slice bz (s.r.fs.length+1) cz));have HO6:=Bx (ho5.set 2 (.slice bz (s.r.fs.length+1) cz))
  have HS6:=Bx ((HS4.out.trans ((DP (Al (An W4.heap.size W4) hb)).trans hs5)).trans (DS g 2 (.slice bz (s.r.fs.length+1) cz) (by simp)));clear c2 z2 hrow ho5 hs5 hk5 hl5 hO5 hgr5 hor5 H5 hBl;go_wp2;go_ret;exact ⟨rfl,_,⟨HR6.out,HO6.out⟩,HS6.out⟩
 ·intro k0 hk0 g1 w5 hb hf;cases hk0;have z66:g1 66= _:=hf.at 4;have z68:=hf.at 6;clear hf;obtain ⟨gl,el,hBl⟩:=z68;simp only [AU,Ab,CH,CK,CJ];rw [z66,el];simp only [Ee,Ef,BZ,BY];refine Eg (by rfl) (ZV (some ⟨g,1,none⟩)) (λ_ _=>by go_simp) ?_;simp only [Ab,CH,CK,CJ]
  have H5:=H4.out.below (Al (An W4.heap.size W4) hb)
  obtain ⟨v',w6,hrun,hO5,hgr5,hor5⟩:=App.run_append_list w5 46 46 B 126 iF (.agg #[.string A8,.string A8]) 2 32 Tryz.underlying46 I1.out I2.out I3.out I4.out rfl (by decide) (.slice bo s.r.fs.length co) s.r.fs.length (cells s.r.fs) H5.own.F (some ⟨gl,0,none⟩) 1 1 [.string (ba n),.string (ba vv)] rfl (λ_=>⟨gl,0,rfl,λj u hu=>by rw [Di];exact hBl.c j u hu⟩) (by intro u hu;rcases (by simpa using hu:u=.string (ba n)∨u=.string (ba vv)) with rfl | rfl<;>rfl) (by have:=HLEN.out;unfold maxLen;omega) (by have:=HLEN.out;omega) (Dd H5.own.ge (Da H5.own.lt));obtain ⟨bz,cz,ez, -⟩:=CT hO5;subst ez;have hl5:(s.r.fs ++ [(ba n,ba vv)]).length=s.r.fs.length+1:=by simp
  have hk5:Keeps [(.slice bo s.r.fs.length co:Value).ownBlock] w5 w6:=Keeps.grown hgr5 λk e=>by rw [e];exact CB.2 rfl
  obtain ⟨ho5,hs5⟩:=H5.own.setF (f':=.slice bz (s.r.fs.length+1) cz) (fs':=s.r.fs ++ [(ba n,ba vv)]) hk5 (by rw [hl5,cells_append];exact hO5) (by
   rcases hor5 with e | e
   ·exact .inl e
   ·exact .inr ⟨_,e,Db _⟩)
  have hrow:w6.heap[g]?= _:=hk5.row H5.row (λhm=>by
   have e:some g=(.slice bo s.r.fs.length co:Value).ownBlock:=by simpa using hm
   exact H5.own.lone.ne (i:=0) (j:=3) rfl (by decide) (by rw [e];rfl))
  refine Ec (by rfl) (λK hK=>?_);refine Each.oper_append _ _ _ rfl (by rfl) (by rfl) hrun ?_;refine hK _ _ trivial ?_;clear hK K hrun;simp only [Ab,CH,CK,CJ];refine Eg (by rfl) (ZV (some ⟨g,1,none⟩)) (λ_ _=>by go_simp) ?_;simp only [Ab,CH,CK,CJ];refine Eg (by rfl) (ZV (some ⟨g,2,none⟩)) (λ_ _=>by go_simp) ?_;simp only [Ab,CH,CK,CJ];have c2:=row_cellL hrow (k:=2) rfl;have z2:=CV hrow 2
  refine Ec (by rfl) (λK hK=>?_);go_simp;refine hK _ _ trivial ?_;clear hK K;refine Ed ?_
  have HR6:=Bx (row_setL hrow 2 (.slice bz (s.r.fs.length+1) cz));have HO6:=Bx (ho5.set 2 (.slice bz (s.r.fs.length+1) cz))
  have HS6:=Bx ((HS4.out.trans ((DP (Al (An W4.heap.size W4) hb)).trans hs5)).trans (DS g 2 (.slice bz (s.r.fs.length+1) cz) (by simp)));clear c2 z2 hrow ho5 hs5 hk5 hl5 hO5 hgr5 hor5 H5 hBl;go_wp2;go_ret
  exact ⟨rfl,_,⟨HR6.out,HO6.out⟩,HS6.out⟩):P:=h
theorem XXNoy {P:Prop} (h:P:=by refine AP rfl (λev w1 hR hb hh=>?_);have e0:=hR.old 0 rfl;have e9:=hR.old 9 rfl;have e1:=hR.old 1 rfl;simp only [Ag,Cg,BY,BZ,Ds] at e0 e9 e1;have q2:=(HQ.out.below hb).c 2 _ rfl;have y0:=((Al HD.out hb).cell (p:=⟨gf,k*2,none⟩) HGF.out).trans HQ0.out;have y1:=((Al HD.out hb).cell (p:=⟨gf,k*2+1,none⟩) HGF.out).trans HQ1.out;exact Each.std):P:=h
theorem _root_.Go.Proofs.YtdfabddnpgjepaaGreatDoor.XXvfE {P:Prop} (h:P:=by
 go_ret
 have h4:=H1.out.below (HB3.out.alloc HB3.out.size (.cells #[ZY ⟨#[]⟩,ZY ⟨#[]⟩] 126));first
  |exact ⟨rfl,_,h4,HS1.out.trans (DP (HB3.out.alloc HB3.out.size (.cells #[.string ⟨#[]⟩,.string ⟨#[]⟩] 126)))⟩
  |exact ⟨_,rfl,h4.row,h4.own,HS1.out.trans (DP (HB3.out.alloc HB3.out.size (.cells #[.string ⟨#[]⟩,.string ⟨#[]⟩] 126)))⟩):P:=h
theorem _root_.Go.Proofs.YtdfabddnpgjepaaGreatDoor.XXqTe {P:Prop} (h:P:=by
 refine AH ?_;go_simp
 try with_reducible rfl):P:=h
theorem _root_.Go.Proofs.YtdfabddnpgjepaaGreatDoor.XXaNX {P:Prop} (h:P:=by
 have ho:(Value.slice (some ⟨gf,0,none⟩) s.r.fs.length co).ownBlock=some gf:=by simp [Value.ownBlock]
 have hk3:Keeps [(Value.slice (some ⟨gf,0,none⟩) s.r.fs.length co).ownBlock] w3 ((w3.setCell ⟨gf,k*2,none⟩ (ZY last.1)).setCell ⟨gf,k*2+1,none⟩ (ZY (ba (Fd.joined last.2.data.toList x.data.toList)))):=
  (Bp gf (k*2) _ (by rw [ho];simp)).trans (Bp gf (k*2+1) _ (by rw [ho];simp)) Dq
 have hl3:(ini ++ [joinF last x.data.toList]).length=s.r.fs.length:=by rw [HEL.out];simp
 have hr3:=((h3.own.F.stored (k*2) (ZY last.1)).1.stored (k*2+1) (ZY (ba (Fd.joined last.2.data.toList x.data.toList)))).1
 obtain ⟨ho3,hs3⟩:=h3.own.setF (f':=ZX (some ⟨gf,0,none⟩) s.r.fs.length co) (fs':=ini ++ [joinF last x.data.toList]) hk3 (by
  rw [hl3,←cells_put ini last (joinF last x.data.toList),HK.out];have e:cells (ini ++ [last])=cells s.r.fs:=by rw [HEL.out]
  rw [e];exact hr3) (.inl rfl)
 have hrow:((w3.setCell ⟨gf,k*2,none⟩ (ZY last.1)).setCell ⟨gf,k*2+1,none⟩ (ZY (ba (Fd.joined last.2.data.toList x.data.toList)))).heap[g]?= _:=hk3.row h3.row (λhm=>by
  have e:some g=some gf:=by rw [←ho];simpa using hm
  exact h3.own.lone.ne (i:=0) (j:=3) rfl (by decide) (by rw [e,←ho];rfl))
 first
  |exact ⟨rfl,_,⟨hrow,ho3⟩,HS1.out.trans ((DP HB4.out).trans hs3)⟩
  |exact ⟨_,rfl,hrow,ho3,HS1.out.trans ((DP HB3.out).trans hs3)⟩):P:=h
theorem _root_.Go.Proofs.YtdfabddnpgjepaaGreatDoor.XX098 {P:Prop} (h:P:=by
 unfold fieldV;have e1:(Fd.goes p x.data.toList && !s.r.fs.isEmpty)=true:=by rw [hg,el];simp
 rw [if_neg hm,if_pos e1,el]
 simp):P:=h
theorem addF_any (hp:p<4294967296) (x:ByteArray) (hx:x.size<=5000) (most:Int) (h:PR w B g q v f bd t o p b s) (hl:s.hl<=1000) (hsz:∀y∈s.r.fs,y.1.size<=1000000/\y.2.size<=1000000) (hlen:s.r.fs.length<=500) :
 Calls EW 226 #[ZV (some ⟨g,1,none⟩),ZY x,ZZ ZQ (p:Int),ZZ ZS most] w λr w'=>r=.returned (ZZ ZS (listE (fieldV p s.hl s.r.fs x.data.toList most):Int))/\∃f1,PR w' B g q v f1 bd t o p b {s with hl:=s.hl+1,r:={s.r with fs:=listL s.r.fs (fieldV p s.hl s.r.fs x.data.toList most)}}/\Step (blks g q v f bd t o) (blks g q v f1 bd t o) w w':=by
 obtain ⟨a1,a2⟩:=DD ((s.hl:Int)+1) ⟨by omega,by omega⟩
 have H1:=Bx (h.put 1 (ZZ ZS ((s.hl:Int)+1)) {s with hl:=s.hl+1} rfl rfl rfl rfl rfl rfl)
 have HS1:=Bx (DS (w:=w) (L:=blks g q v f bd t o) g 1 (ZZ ZS ((s.hl:Int)+1)) (by simp));have c1:=h.cs.c1;have z1:=h.marks 1;have HSZ:=Bx hsz;have HLEN:=Bx hlen;clear hsz hlen
 by_cases hm:most<((s.hl+1:Nat):Int)
 ·have e:fieldV p s.hl s.r.fs x.data.toList most=.inl 431:=by unfold fieldV;rw [if_pos hm]
  rw [e];have t0:most<(s.hl:Int)+1:=by omega
  clear e hm h hl hx;go_enter Tryz.func226,Tryz.ntmps226;go_wp2;go_ret;exact ⟨rfl,_,H1.out,HS1.out⟩
 ·have t0:¬most<(s.hl:Int)+1:=by omega
  obtain ⟨bo,co,eo, -⟩:=CT h.own.F;have hgo:=λw=>Fd.goes_any x p hp w;have HSZx:=Bx hx;have hnn:(s.r.fs.length:Int)<=500:=by have:=HLEN.out;omega
  subst eo;obtain ⟨S1,hS1⟩:∃S1:T,{s with hl:=s.hl+1}=S1:=⟨_,rfl⟩;have HS:=Bx hS1;clear h hl hx;by_cases hj:(Fd.goes p x.data.toList && !s.r.fs.isEmpty)=true
  ·simp only [Ao,Ay,List.isEmpty_eq_false_iff] at hj;obtain ⟨hg,hne⟩:=hj;rw [hg] at hgo;have HGo:=Bx hgo;obtain ⟨ini,last,el⟩:∃ini last,s.r.fs=ini ++ [last]:=⟨_,_,(List.dropLast_concat_getLast hne).symm⟩;have hn1:s.r.fs.length=ini.length+1:=by rw [el];simp
   have e:fieldV p s.hl s.r.fs x.data.toList most=.inr (ini ++ [joinF last x.data.toList]):=by exact XX098
   rw [e]
   obtain ⟨gf,cf,hform,hgl,hgf⟩:=H1.out.own.F.form (by show 0<s.r.fs.length;omega);simp only [Value.slice.injEq,true_and] at hform;obtain ⟨rfl,rfl⟩:=hform
   have hq0:=(H1.out.own.F.cellAt (ini.length*2) (by show ini.length*2<s.r.fs.length*2;omega)).trans (show (cells s.r.fs)[ini.length*2]?=some (ZY last.1) by rw [el];exact (cells_last ini last).1)
   have hq1:=(H1.out.own.F.cellAt (ini.length*2+1) (by show ini.length*2+1<s.r.fs.length*2;omega)).trans (show (cells s.r.fs)[ini.length*2+1]?=some (ZY last.2) by rw [el];exact (cells_last ini last).2)
   have hz0:=H1.out.own.F.frozenAt (ini.length*2);have hz1:=H1.out.own.F.frozenAt (ini.length*2+1)
   have HJ:=Bx (show∀w,Calls EW 246 #[ZU #[ZY last.1,ZY last.2],ZY x] w λe w'=>e=.returned (ZU #[ZY last.1,ZY (ba (Fd.joined last.2.data.toList x.data.toList))])/\Below w.heap.size w w' from
    λw=>Fd.join_any last.1 last.2 x w (by have:=HSZx.out;omega) (by have:=(HSZ.out last (by rw [el];simp)).2;omega))
   obtain ⟨k,hk⟩:∃k,ini.length=k:=⟨_,rfl⟩;have HK:=Bx hk;rw [hk] at hn1 hq0 hq1 hz0 hz1;have t1:(0:Int)<=(k:Int):=by omega
   have i1:(k:Int)<(s.r.fs.length:Int):=by omega
   have i2:k<s.r.fs.length:=by omega
   obtain ⟨b1,b2⟩:=DD ((s.r.fs.length:Int)-1) ⟨by omega,by omega⟩;have b3:(s.r.fs.length:Int)-1=(k:Int):=by omega
   rw [b3] at b1 b2;have HEL:=Bx el;have HN1:=Bx hn1;have HGL:=Bx hgl;have HQ0:=Bx hq0;have HQ1:=Bx hq1;have HGF:=Bx hgf;have HZ0:=Bx hz0;have HZ1:=Bx hz1;have HB3:=Bx b3;have HI2:=Bx i2;clear hne e hk hnn el hn1 hg hgo hm hgl hq0 hq1 hgf hz0 hz1;go_enter Tryz.func226,Tryz.ntmps226;go_upto_region 4 with fail
   generalize w.setCell ⟨g,1,none⟩ (ZZ ZS ((s.hl:Int)+1))=W1 at *;clear c1 z1 a1 a2 t0;have c2:=H1.out.cs.c2
   go_upto_region 6 with (go_at_call 245;with_reducible refine Cm (HGo.out _) ?_)
   have HQ:=Bx ((H1.out.drew 1).bk)
   have HD:=Bx (Ak (An W1.heap.size W1) 1);clear b1 b2 b3 c2;refine Each.region 15 [39,40,41,42,43,44,45,46,47,48,49,50,51,52,53] [eP g 1,eP g 1,eP g 2,eQ (ZX (some ⟨gf,0,none⟩) s.r.fs.length co),eQ (ZZ ZS (k:Int)),eP g 1,eP g 1,eP g 2,eQ (ZX (some ⟨gf,0,none⟩) s.r.fs.length co),eQ (ZZ ZS (k:Int)),eP gf (k*2),eQ (ZU #[ZY last.1,ZY last.2]),eQ (ZY x),eQ (ZU #[ZY last.1,ZY (ba (Fd.joined last.2.data.toList x.data.toList))]),eP gf (k*2)] (.act 15 .done) (by kernel_rfl) (by kernel_rfl) (by kernel_rfl) (by kernel_rfl) (λ_ _ d _ _ h=>by cases d<;>exact h) (by rfl) (by rfl) (by repeat first | exact trivial | refine ⟨AK _,?_⟩) ?_ ?_
   ·refine ⟨?_,?_,?_,?_,?_,?_,?_,?_,?_,?_,?_,?_,?_,?_,?_,trivial⟩
    ·exact XXNoy
    ·exact XXNoy
    ·exact XXNoy
    ·exact XXNoy
    ·exact XXNoy
    ·exact XXNoy
    ·exact XXNoy
    ·exact XXNoy
    ·exact XXNoy
    ·exact XXNoy
    ·refine AP rfl (λev w1 hR hb hh=>?_);have e47:ev (.tmp 47)= _:=hh.at 0;have e48:ev (.tmp 48)= _:=hh.at 1;clear hh;have d1:=HI2.out;have d2:(k:Int)<(s.r.fs.length:Int):=by omega
     exact XXqTe
    ·exact XXNoy
    ·exact XXNoy
    ·refine AP rfl (λev w1 hR hb hh=>?_);have e50:ev (.tmp 50)= _:=hh.at 0;have e51:ev (.tmp 51)= _:=hh.at 1;clear hh;have ef:=hR.func
     refine AG 246 #[ZU #[ZY last.1,ZY last.2],ZY x] (by go_simp) ((HJ.out w1).mono ?_);exact XXUgj
    ·refine AP rfl (λev w1 hR hb hh=>?_);have e42:ev (.tmp 42)= _:=hh.at 0;have e43:ev (.tmp 43)= _:=hh.at 1;clear hh;have d1:=HI2.out;have d2:(k:Int)<(s.r.fs.length:Int):=by omega
     exact XXqTe
   intro g1 w3 hb hf;have z52:g1 52= _:=hf.at 13;have z53:g1 53= _:=hf.at 14;clear hf;simp only [AU,Ab,CH,CK,CJ];rw [z52,z53];simp only [Ee,Ef,BZ,BY];have HB4:=Bx hb;have y0:=(HB4.out.cell (p:=⟨gf,k*2,none⟩) HGF.out).trans HQ0.out;have y1:=(HB4.out.cell (p:=⟨gf,k*2+1,none⟩) HGF.out).trans HQ1.out;have x0:=(HB4.out.frozen (p:=⟨gf,k*2,none⟩) HGF.out).trans HZ0.out;have x1:=(HB4.out.frozen (p:=⟨gf,k*2+1,none⟩) HGF.out).trans HZ1.out
   refine Ec (by rfl) (λK hK=>?_);go_simp;refine hK _ _ trivial ?_;clear hK K y0 y1 x0 x1;refine Ed ?_;go_wp2;go_ret;have h3:=H1.out.below HB4.out;exact XXaNX
  ·have hgt:s.r.fs.length=0∨Fd.goes p x.data.toList=false/\∃k,s.r.fs.length=k+1:=by
    rcases CZ s.r.fs.length with h0 | h0
    ·exact .inl h0
    ·refine .inr ⟨?_,s.r.fs.length-1,by omega⟩;cases hg:Fd.goes p x.data.toList with
     | false=>rfl
     | true=>
       rw [hg] at hj;have:s.r.fs= []:=by simpa using hj
       rw [this] at h0;cases h0
   have hp:=λw=>Fd.parse_any x p hp w (by have:=HSZx.out;omega);obtain ⟨iF,hi,hz0,hz1,hz2⟩:=info_parts field_info;have I1:=Bx hi;have I2:=Bx hz0;have I3:=Bx hz1;have I4:=Bx hz2;clear hi hz0 hz1 hz2;rcases hpar:Fd.parse (Fd.clOf p) x.data.toList with _ | _ | ⟨n,vv⟩
   ·have e:fieldV p s.hl s.r.fs x.data.toList most=.inl 400:=by unfold fieldV;rw [if_neg hm,if_neg hj,hpar]
    rw [e];rw [hpar] at hp;simp only [Fd.rv,Fd.fv] at hp;have HP:=Bx hp;clear e hpar hp hm hj;rcases hgt with h0 | hgk
    ·have b3:(s.r.fs.length:Int)-1= -1:=by omega
     obtain ⟨b1,b2⟩:=DD ((s.r.fs.length:Int)-1) ⟨by omega,by omega⟩;rw [b3] at b1 b2;clear hgo hnn h0;go_enter Tryz.func226,Tryz.ntmps226;go_upto_region 4 with fail
     generalize w.setCell ⟨g,1,none⟩ (ZZ ZS ((s.hl:Int)+1))=W1 at *;clear c1 z1 a1 a2 t0;have c2:=H1.out.cs.c2;go_wp2_with
      (go_at_call 247;with_reducible refine (HP.out _).mono ?_;rintro r w3 ⟨rfl,hb3⟩
       have HB3:=Bx hb3;clear hb3)
     exact XXvfE
    ·obtain ⟨hg,k,hk⟩:=hgk;rw [hg] at hgo;have HGo:=Bx hgo;have t1:(0:Int)<=(k:Int):=by omega
     have b3:(s.r.fs.length:Int)-1=(k:Int):=by omega
     obtain ⟨b1,b2⟩:=DD ((s.r.fs.length:Int)-1) ⟨by omega,by omega⟩;rw [b3] at b1 b2;clear hgo hg hk hnn;go_enter Tryz.func226,Tryz.ntmps226;go_upto_region 4 with fail
     generalize w.setCell ⟨g,1,none⟩ (ZZ ZS ((s.hl:Int)+1))=W1 at *;clear c1 z1 a1 a2 t0;have c2:=H1.out.cs.c2
     go_wp2_with (first
      |(go_at_call 247;with_reducible refine (HP.out _).mono ?_;rintro r w3 ⟨rfl,hb3⟩
        have HB3:=Bx hb3;clear hb3)
      |(go_at_call 245;with_reducible refine Cm (HGo.out _) ?_))
     exact XXvfE
   ·have e:fieldV p s.hl s.r.fs x.data.toList most=.inr s.r.fs:=by unfold fieldV;rw [if_neg hm,if_neg hj,hpar]
    rw [e];rw [hpar] at hp;simp only [Fd.rv,Fd.fv] at hp;have HP:=Bx hp;clear e hpar hp hm hj;rcases hgt with h0 | hgk
    ·have b3:(s.r.fs.length:Int)-1= -1:=by omega
     obtain ⟨b1,b2⟩:=DD ((s.r.fs.length:Int)-1) ⟨by omega,by omega⟩;rw [b3] at b1 b2;clear hgo hnn h0;go_enter Tryz.func226,Tryz.ntmps226;go_upto_region 4 with fail
     generalize w.setCell ⟨g,1,none⟩ (ZZ ZS ((s.hl:Int)+1))=W1 at *;clear c1 z1 a1 a2 t0;have c2:=H1.out.cs.c2;go_wp2_with
      (go_at_call 247;with_reducible refine (HP.out _).mono ?_;rintro r w3 ⟨rfl,hb3⟩
       have HB3:=Bx hb3;clear hb3)
     exact XXvfE
    ·obtain ⟨hg,k,hk⟩:=hgk;rw [hg] at hgo;have HGo:=Bx hgo;have t1:(0:Int)<=(k:Int):=by omega
     have b3:(s.r.fs.length:Int)-1=(k:Int):=by omega
     obtain ⟨b1,b2⟩:=DD ((s.r.fs.length:Int)-1) ⟨by omega,by omega⟩;rw [b3] at b1 b2;clear hgo hg hk hnn;go_enter Tryz.func226,Tryz.ntmps226;go_upto_region 4 with fail
     generalize w.setCell ⟨g,1,none⟩ (ZZ ZS ((s.hl:Int)+1))=W1 at *;clear c1 z1 a1 a2 t0;have c2:=H1.out.cs.c2
     go_wp2_with (first
      |(go_at_call 247;with_reducible refine (HP.out _).mono ?_;rintro r w3 ⟨rfl,hb3⟩
        have HB3:=Bx hb3;clear hb3)
      |(go_at_call 245;with_reducible refine Cm (HGo.out _) ?_))
     exact XXvfE
   ·have e:fieldV p s.hl s.r.fs x.data.toList most=.inr (s.r.fs ++ [(ba n,ba vv)]):=by unfold fieldV;rw [if_neg hm,if_neg hj,hpar]
    rw [e];rw [hpar] at hp;simp only [Fd.rv,Fd.fv] at hp;have HP:=Bx hp;clear e hpar hp hm hj;rcases hgt with h0 | hgk
    ·have b3:(s.r.fs.length:Int)-1= -1:=by omega
     obtain ⟨b1,b2⟩:=DD ((s.r.fs.length:Int)-1) ⟨by omega,by omega⟩;rw [b3] at b1 b2;clear hgo hnn h0;go_enter Tryz.func226,Tryz.ntmps226;go_upto_region 4 with fail
     generalize w.setCell ⟨g,1,none⟩ (ZZ ZS ((s.hl:Int)+1))=W1 at *;clear c1 z1 a1 a2 t0;have c2:=H1.out.cs.c2;go_upto_region 10 with
      (go_at_call 247;with_reducible refine (HP.out _).mono ?_;rintro r w3 ⟨rfl,hb3⟩
       have HB3:=Bx hb3;clear hb3)
     exact XXDC0
    ·obtain ⟨hg,k,hk⟩:=hgk;rw [hg] at hgo;have HGo:=Bx hgo;have t1:(0:Int)<=(k:Int):=by omega
     have b3:(s.r.fs.length:Int)-1=(k:Int):=by omega
     obtain ⟨b1,b2⟩:=DD ((s.r.fs.length:Int)-1) ⟨by omega,by omega⟩;rw [b3] at b1 b2;clear hgo hg hk hnn;go_enter Tryz.func226,Tryz.ntmps226;go_upto_region 4 with fail
     generalize w.setCell ⟨g,1,none⟩ (ZZ ZS ((s.hl:Int)+1))=W1 at *;clear c1 z1 a1 a2 t0;have c2:=H1.out.cs.c2
     go_upto_region 10 with (first
      |(go_at_call 247;with_reducible refine (HP.out _).mono ?_;rintro r w3 ⟨rfl,hb3⟩
        have HB3:=Bx hb3;clear hb3)
      |(go_at_call 245;with_reducible refine Cm (HGo.out _) ?_))
     exact XXDC0
theorem XXLci {P:Prop} (h:P:=by
 have HB4:=Bx (HB3.out.alloc HB3.out.size (.cells #[ZY (ba n),ZY (ba vv)] 126))
 have HL4:=Bx (D6 w3 w3.heap.size rfl 126 [ZY (ba n),ZY (ba vv)]);generalize w3.alloc (.cells #[ZY (ba n),ZY (ba vv)] 126)=W4 at *;generalize w3.heap.size=gL at *
 have H4:=Bx (H1.out.below HB4.out);have HS4:=Bx (HS1.out.trans (DP HB4.out))
 have HQ:=Bx ((H4.out.drew 1).bk);have HQL:=Bx (HL4.out.drew 1);clear b1 b2 b3 c9 H1 HS1 HB3 HB4 HL4;refine Each.region_float 7 [62,63,64,65,66,67,68] [eP g 8,eP g 8,eP g 8,eP g 9,eQ (.slice bo s.r.ts.length co),eQ (ZU #[ZY (ba n),ZY (ba vv)]),λv w=>∃g1,v=ZX (some ⟨g1,0,none⟩) 1 1/\D5 w g1 [ZY (ba n),ZY (ba vv)]] [] 4 (some 0) (.act 7 (.quiet 8 (.quiet 9 (.act 10 .done)))) (.quiet 0 (.act 7 (.quiet 8 (.quiet 9 (.act 10 .done))))) (by kernel_rfl) (by kernel_rfl) (by kernel_rfl) (by kernel_rfl) (λk0 h=>by cases h;kernel_rfl) (λ_ _ d _ _ h=>by cases d<;>exact h) (by rfl) (by rfl) ⟨AK _,AK _,AK _,AK _,AK _,AK _,((λ_ _ _ hb h=>by obtain ⟨g1,e1,hB⟩:=h;exact ⟨g1,e1,hB.below hb⟩)),trivial⟩ trivial (by rfl) ?_ ?_ ?_
 ·refine ⟨?_,?_,?_,?_,?_,?_,?_,trivial⟩
  ·refine AP rfl (λev w1 hR hb hh=>?_);have e0:=hR.old 0 rfl;have e10:=hR.old 10 rfl;simp only [Ag,Cg,BY,BZ,Ds] at e0 e10;have q9:=(HQ.out.below hb).c 9 _ rfl;have q0:=(HQL.out.below hb).c 0 _ rfl;have q1:=(HQL.out.below hb).c 1 _ rfl;exact Each.std
  ·refine AP rfl (λev w1 hR hb hh=>?_);have e0:=hR.old 0 rfl;have e10:=hR.old 10 rfl;simp only [Ag,Cg,BY,BZ,Ds] at e0 e10;have q9:=(HQ.out.below hb).c 9 _ rfl;have q0:=(HQL.out.below hb).c 0 _ rfl;have q1:=(HQL.out.below hb).c 1 _ rfl;exact Each.std
  ·refine AP rfl (λev w1 hR hb hh=>?_);have e0:=hR.old 0 rfl;have e10:=hR.old 10 rfl;simp only [Ag,Cg,BY,BZ,Ds] at e0 e10;have q9:=(HQ.out.below hb).c 9 _ rfl;have q0:=(HQL.out.below hb).c 0 _ rfl;have q1:=(HQL.out.below hb).c 1 _ rfl;exact Each.std
  ·refine AP rfl (λev w1 hR hb hh=>?_);have e0:=hR.old 0 rfl;have e10:=hR.old 10 rfl;simp only [Ag,Cg,BY,BZ,Ds] at e0 e10;have q9:=(HQ.out.below hb).c 9 _ rfl;have q0:=(HQL.out.below hb).c 0 _ rfl;have q1:=(HQL.out.below hb).c 1 _ rfl;exact Each.std
  ·refine AP rfl (λev w1 hR hb hh=>?_);have e0:=hR.old 0 rfl;have e10:=hR.old 10 rfl;simp only [Ag,Cg,BY,BZ,Ds] at e0 e10;have q9:=(HQ.out.below hb).c 9 _ rfl;have q0:=(HQL.out.below hb).c 0 _ rfl;have q1:=(HQL.out.below hb).c 1 _ rfl;exact Each.std
  ·refine AP rfl (λev w1 hR hb hh=>?_);have e0:=hR.old 0 rfl;have e10:=hR.old 10 rfl;simp only [Ag,Cg,BY,BZ,Ds] at e0 e10;have q9:=(HQ.out.below hb).c 9 _ rfl;have q0:=(HQL.out.below hb).c 0 _ rfl;have q1:=(HQL.out.below hb).c 1 _ rfl;exact Each.std
  ·refine AP rfl (λev w1 hR hb hh=>?_);have e67:ev (.tmp 67)= _:=hh.at 0;clear hh;exact AF.value (ZX (some ⟨w1.heap.size,0,none⟩) 1 1) (w1.alloc (.cells #[ZY (ba n),ZY (ba vv)] 126)) (by go_simp) ((An _ _).alloc (Db _) _) ⟨_,rfl,D6 w1 _ rfl 126 [ZY (ba n),ZY (ba vv)]⟩
 ·intro g1 w5 hb hf;have z62:g1 62= _:=hf.at 0;have z66:g1 66= _:=hf.at 4;have z68:=hf.at 6;clear hf;obtain ⟨gl,el,hBl⟩:=z68;simp only [AU,Ab,CH,CK,CJ];rw [z62,z66,el];simp only [Ee,Ef,BZ,BY]
  have H5:=H4.out.below (Al (An W4.heap.size W4) hb)
  obtain ⟨v',w6,hrun,hO5,hgr5,hor5⟩:=App.run_append_list w5 46 46 B 126 iF (.agg #[.string A8,.string A8]) 2 32 Tryz.underlying46 I1.out I2.out I3.out I4.out rfl (by decide) (.slice bo s.r.ts.length co) s.r.ts.length (cells s.r.ts) H5.own.TR (some ⟨gl,0,none⟩) 1 1 [.string (ba n),.string (ba vv)] rfl (λ_=>⟨gl,0,rfl,λj u hu=>by rw [Di];exact hBl.c j u hu⟩) (by intro u hu;rcases (by simpa using hu:u=.string (ba n)∨u=.string (ba vv)) with rfl | rfl<;>rfl) (by have:=HLEN.out;unfold maxLen;omega) (by have:=HLEN.out;omega) (Dd H5.own.ge (Da H5.own.lt));obtain ⟨bz,cz,ez, -⟩:=CT hO5;subst ez;have hl5:(s.r.ts ++ [(ba n,ba vv)]).length=s.r.ts.length+1:=by simp
  have hk5:Keeps [(.slice bo s.r.ts.length co:Value).ownBlock] w5 w6:=Keeps.grown hgr5 λk e=>by rw [e];exact CB.2 rfl
  obtain ⟨ho5,hs5⟩:=H5.own.setT (t':=.slice bz (s.r.ts.length+1) cz) (ts':=s.r.ts ++ [(ba n,ba vv)]) hk5 (by rw [hl5,cells_append];exact hO5) (by
   rcases hor5 with e | e
   ·exact .inl e
   ·exact .inr ⟨_,e,Db _⟩)
  have hrow:w6.heap[g]?= _:=hk5.row H5.row (λhm=>by
   have e:some g=(.slice bo s.r.ts.length co:Value).ownBlock:=by simpa using hm
   exact H5.own.lone.ne (i:=0) (j:=5) rfl (by decide) (by rw [e];rfl))
  refine Ec (by rfl) (λK hK=>?_);refine Each.oper_append _ _ _ rfl (by rfl) (by rfl) hrun ?_;refine hK _ _ trivial ?_;clear hK K hrun;simp only [Ab,CH,CK,CJ];refine Eg (by rfl) (ZV (some ⟨g,8,none⟩)) (λ_ _=>by go_simp) ?_;simp only [Ab,CH,CK,CJ];refine Eg (by rfl) (ZV (some ⟨g,9,none⟩)) (λ_ _=>by go_simp) ?_;simp only [Ab,CH,CK,CJ];have c9:=row_cellL hrow (k:=9) rfl;have z9:=CV hrow 9
  refine Ec (by rfl) (λK hK=>?_);go_simp;refine hK _ _ trivial ?_;clear hK K;refine Ed ?_
  have HR6:=Bx (row_setL hrow 9 (.slice bz (s.r.ts.length+1) cz));have HO6:=Bx (ho5.set 9 (.slice bz (s.r.ts.length+1) cz))
  have HS6:=Bx ((HS4.out.trans ((DP (Al (An W4.heap.size W4) hb)).trans hs5)).trans (DS g 9 (.slice bz (s.r.ts.length+1) cz) (by simp)));clear c9 z9 hrow ho5 hs5 hk5 hl5 hO5 hgr5 hor5 H5 hBl;go_wp2;go_ret;exact ⟨rfl,_,⟨HR6.out,HO6.out⟩,HS6.out⟩
 ·intro k0 hk0 g1 w5 hb hf;cases hk0;have z66:g1 66= _:=hf.at 4;have z68:=hf.at 6;clear hf;obtain ⟨gl,el,hBl⟩:=z68;simp only [AU,Ab,CH,CK,CJ];rw [z66,el];simp only [Ee,Ef,BZ,BY];refine Eg (by rfl) (ZV (some ⟨g,8,none⟩)) (λ_ _=>by go_simp) ?_;simp only [Ab,CH,CK,CJ]
  have H5:=H4.out.below (Al (An W4.heap.size W4) hb)
  obtain ⟨v',w6,hrun,hO5,hgr5,hor5⟩:=App.run_append_list w5 46 46 B 126 iF (.agg #[.string A8,.string A8]) 2 32 Tryz.underlying46 I1.out I2.out I3.out I4.out rfl (by decide) (.slice bo s.r.ts.length co) s.r.ts.length (cells s.r.ts) H5.own.TR (some ⟨gl,0,none⟩) 1 1 [.string (ba n),.string (ba vv)] rfl (λ_=>⟨gl,0,rfl,λj u hu=>by rw [Di];exact hBl.c j u hu⟩) (by intro u hu;rcases (by simpa using hu:u=.string (ba n)∨u=.string (ba vv)) with rfl | rfl<;>rfl) (by have:=HLEN.out;unfold maxLen;omega) (by have:=HLEN.out;omega) (Dd H5.own.ge (Da H5.own.lt));obtain ⟨bz,cz,ez, -⟩:=CT hO5;subst ez;have hl5:(s.r.ts ++ [(ba n,ba vv)]).length=s.r.ts.length+1:=by simp
  have hk5:Keeps [(.slice bo s.r.ts.length co:Value).ownBlock] w5 w6:=Keeps.grown hgr5 λk e=>by rw [e];exact CB.2 rfl
  obtain ⟨ho5,hs5⟩:=H5.own.setT (t':=.slice bz (s.r.ts.length+1) cz) (ts':=s.r.ts ++ [(ba n,ba vv)]) hk5 (by rw [hl5,cells_append];exact hO5) (by
   rcases hor5 with e | e
   ·exact .inl e
   ·exact .inr ⟨_,e,Db _⟩)
  have hrow:w6.heap[g]?= _:=hk5.row H5.row (λhm=>by
   have e:some g=(.slice bo s.r.ts.length co:Value).ownBlock:=by simpa using hm
   exact H5.own.lone.ne (i:=0) (j:=5) rfl (by decide) (by rw [e];rfl))
  refine Ec (by rfl) (λK hK=>?_);refine Each.oper_append _ _ _ rfl (by rfl) (by rfl) hrun ?_;refine hK _ _ trivial ?_;clear hK K hrun;simp only [Ab,CH,CK,CJ];refine Eg (by rfl) (ZV (some ⟨g,8,none⟩)) (λ_ _=>by go_simp) ?_;simp only [Ab,CH,CK,CJ];refine Eg (by rfl) (ZV (some ⟨g,9,none⟩)) (λ_ _=>by go_simp) ?_;simp only [Ab,CH,CK,CJ];have c9:=row_cellL hrow (k:=9) rfl;have z9:=CV hrow 9
  refine Ec (by rfl) (λK hK=>?_);go_simp;refine hK _ _ trivial ?_;clear hK K;refine Ed ?_
  have HR6:=Bx (row_setL hrow 9 (.slice bz (s.r.ts.length+1) cz));have HO6:=Bx (ho5.set 9 (.slice bz (s.r.ts.length+1) cz))
  have HS6:=Bx ((HS4.out.trans ((DP (Al (An W4.heap.size W4) hb)).trans hs5)).trans (DS g 9 (.slice bz (s.r.ts.length+1) cz) (by simp)));clear c9 z9 hrow ho5 hs5 hk5 hl5 hO5 hgr5 hor5 H5 hBl;go_wp2;go_ret
  exact ⟨rfl,_,⟨HR6.out,HO6.out⟩,HS6.out⟩):P:=h
theorem XXOsI {P:Prop} (h:P:=by refine AP rfl (λev w1 hR hb hh=>?_);have e0:=hR.old 0 rfl;have e9:=hR.old 9 rfl;have e1:=hR.old 1 rfl;simp only [Ag,Cg,BY,BZ,Ds] at e0 e9 e1;have q9:=(HQ.out.below hb).c 9 _ rfl;have y0:=((Al HD.out hb).cell (p:=⟨gf,k*2,none⟩) HGF.out).trans HQ0.out;have y1:=((Al HD.out hb).cell (p:=⟨gf,k*2+1,none⟩) HGF.out).trans HQ1.out;exact Each.std):P:=h
theorem _root_.Go.Proofs.YtdfabddnpgjepaaGreatDoor.XXKim {P:Prop} (h:P:=by
 obtain ⟨ho3,hs3⟩:=h3.own.setT (t':=ZX (some ⟨gf,0,none⟩) s.r.ts.length co) (ts':=ini ++ [joinF last x.data.toList]) hk3 (by
  rw [hl3,←cells_put ini last (joinF last x.data.toList),HK.out];have e:cells (ini ++ [last])=cells s.r.ts:=by rw [HEL.out]
  rw [e];exact hr3) (.inl rfl)
 have hrow:((w3.setCell ⟨gf,k*2,none⟩ (ZY last.1)).setCell ⟨gf,k*2+1,none⟩ (ZY (ba (Fd.joined last.2.data.toList x.data.toList)))).heap[g]?= _:=hk3.row h3.row (λhm=>by
  have e:some g=some gf:=by rw [←ho];simpa using hm
  exact h3.own.lone.ne (i:=0) (j:=5) rfl (by decide) (by rw [e,←ho];rfl))
 first
  |exact ⟨rfl,_,⟨hrow,ho3⟩,HS1.out.trans ((DP HB4.out).trans hs3)⟩
  |exact ⟨_,rfl,hrow,ho3,HS1.out.trans ((DP HB3.out).trans hs3)⟩):P:=h
theorem _root_.Go.Proofs.YtdfabddnpgjepaaGreatDoor.XXTMq {P:Prop} (h:P:=by
 unfold fieldV;have e1:(Fd.goes p x.data.toList && !s.r.ts.isEmpty)=true:=by rw [hg,el];simp
 rw [if_neg hm,if_pos e1,el]
 simp):P:=h
theorem addTR_any (hp:p<4294967296) (x:ByteArray) (hx:x.size<=5000) (most:Int) (h:PR w B g q v f bd t o p b s) (hl:s.bl<=1000) (hsz:∀y∈s.r.ts,y.1.size<=1000000/\y.2.size<=1000000) (hlen:s.r.ts.length<=500) :
 Calls EW 226 #[ZV (some ⟨g,8,none⟩),ZY x,ZZ ZQ (p:Int),ZZ ZS most] w λr w'=>r=.returned (ZZ ZS (listE (fieldV p s.bl s.r.ts x.data.toList most):Int))/\∃t1,PR w' B g q v f bd t1 o p b {s with bl:=s.bl+1,r:={s.r with ts:=listL s.r.ts (fieldV p s.bl s.r.ts x.data.toList most)}}/\Step (blks g q v f bd t o) (blks g q v f bd t1 o) w w':=by
 obtain ⟨a1,a2⟩:=DD ((s.bl:Int)+1) ⟨by omega,by omega⟩
 have H1:=Bx (h.put 8 (ZZ ZS ((s.bl:Int)+1)) {s with bl:=s.bl+1} rfl rfl rfl rfl rfl rfl)
 have HS1:=Bx (DS (w:=w) (L:=blks g q v f bd t o) g 8 (ZZ ZS ((s.bl:Int)+1)) (by simp));have c8:=h.cs.c8;have z8:=h.marks 8;have HSZ:=Bx hsz;have HLEN:=Bx hlen;clear hsz hlen
 by_cases hm:most<((s.bl+1:Nat):Int)
 ·have e:fieldV p s.bl s.r.ts x.data.toList most=.inl 431:=by unfold fieldV;rw [if_pos hm]
  rw [e];have t0:most<(s.bl:Int)+1:=by omega
  clear e hm h hl hx;go_enter Tryz.func226,Tryz.ntmps226;go_wp2;go_ret;exact ⟨rfl,_,H1.out,HS1.out⟩
 ·have t0:¬most<(s.bl:Int)+1:=by omega
  obtain ⟨bo,co,eo, -⟩:=CT h.own.TR;have hgo:=λw=>Fd.goes_any x p hp w;have HSZx:=Bx hx;have hnn:(s.r.ts.length:Int)<=500:=by have:=HLEN.out;omega
  subst eo;obtain ⟨S1,hS1⟩:∃S1:T,{s with bl:=s.bl+1}=S1:=⟨_,rfl⟩;have HS:=Bx hS1;clear h hl hx;by_cases hj:(Fd.goes p x.data.toList && !s.r.ts.isEmpty)=true
  ·simp only [Ao,Ay,List.isEmpty_eq_false_iff] at hj;obtain ⟨hg,hne⟩:=hj;rw [hg] at hgo;have HGo:=Bx hgo;obtain ⟨ini,last,el⟩:∃ini last,s.r.ts=ini ++ [last]:=⟨_,_,(List.dropLast_concat_getLast hne).symm⟩;have hn1:s.r.ts.length=ini.length+1:=by rw [el];simp
   have e:fieldV p s.bl s.r.ts x.data.toList most=.inr (ini ++ [joinF last x.data.toList]):=by exact XXTMq
   rw [e]
   obtain ⟨gf,cf,hform,hgl,hgf⟩:=H1.out.own.TR.form (by show 0<s.r.ts.length;omega);simp only [Value.slice.injEq,true_and] at hform;obtain ⟨rfl,rfl⟩:=hform
   have hq0:=(H1.out.own.TR.cellAt (ini.length*2) (by show ini.length*2<s.r.ts.length*2;omega)).trans (show (cells s.r.ts)[ini.length*2]?=some (ZY last.1) by rw [el];exact (cells_last ini last).1)
   have hq1:=(H1.out.own.TR.cellAt (ini.length*2+1) (by show ini.length*2+1<s.r.ts.length*2;omega)).trans (show (cells s.r.ts)[ini.length*2+1]?=some (ZY last.2) by rw [el];exact (cells_last ini last).2)
   have hz0:=H1.out.own.TR.frozenAt (ini.length*2);have hz1:=H1.out.own.TR.frozenAt (ini.length*2+1)
   have HJ:=Bx (show∀w,Calls EW 246 #[ZU #[ZY last.1,ZY last.2],ZY x] w λe w'=>e=.returned (ZU #[ZY last.1,ZY (ba (Fd.joined last.2.data.toList x.data.toList))])/\Below w.heap.size w w' from
    λw=>Fd.join_any last.1 last.2 x w (by have:=HSZx.out;omega) (by have:=(HSZ.out last (by rw [el];simp)).2;omega))
   obtain ⟨k,hk⟩:∃k,ini.length=k:=⟨_,rfl⟩;have HK:=Bx hk;rw [hk] at hn1 hq0 hq1 hz0 hz1;have t1:(0:Int)<=(k:Int):=by omega
   have i1:(k:Int)<(s.r.ts.length:Int):=by omega
   have i2:k<s.r.ts.length:=by omega
   obtain ⟨b1,b2⟩:=DD ((s.r.ts.length:Int)-1) ⟨by omega,by omega⟩;have b3:(s.r.ts.length:Int)-1=(k:Int):=by omega
   rw [b3] at b1 b2;have HEL:=Bx el;have HN1:=Bx hn1;have HGL:=Bx hgl;have HQ0:=Bx hq0;have HQ1:=Bx hq1;have HGF:=Bx hgf;have HZ0:=Bx hz0;have HZ1:=Bx hz1;have HB3:=Bx b3;have HI2:=Bx i2;clear hne e hk hnn el hn1 hg hgo hm hgl hq0 hq1 hgf hz0 hz1;go_enter Tryz.func226,Tryz.ntmps226;go_upto_region 4 with fail
   generalize w.setCell ⟨g,8,none⟩ (ZZ ZS ((s.bl:Int)+1))=W1 at *;clear c8 z8 a1 a2 t0;have c9:=H1.out.cs.c9
   go_upto_region 6 with (go_at_call 245;with_reducible refine Cm (HGo.out _) ?_)
   have HQ:=Bx ((H1.out.drew 1).bk)
   have HD:=Bx (Ak (An W1.heap.size W1) 1);clear b1 b2 b3 c9;refine Each.region 15 [39,40,41,42,43,44,45,46,47,48,49,50,51,52,53] [eP g 8,eP g 8,eP g 9,eQ (ZX (some ⟨gf,0,none⟩) s.r.ts.length co),eQ (ZZ ZS (k:Int)),eP g 8,eP g 8,eP g 9,eQ (ZX (some ⟨gf,0,none⟩) s.r.ts.length co),eQ (ZZ ZS (k:Int)),eP gf (k*2),eQ (ZU #[ZY last.1,ZY last.2]),eQ (ZY x),eQ (ZU #[ZY last.1,ZY (ba (Fd.joined last.2.data.toList x.data.toList))]),eP gf (k*2)] (.act 15 .done) (by kernel_rfl) (by kernel_rfl) (by kernel_rfl) (by kernel_rfl) (λ_ _ d _ _ h=>by cases d<;>exact h) (by rfl) (by rfl) (by repeat first | exact trivial | refine ⟨AK _,?_⟩) ?_ ?_
   ·refine ⟨?_,?_,?_,?_,?_,?_,?_,?_,?_,?_,?_,?_,?_,?_,?_,trivial⟩
    ·exact XXOsI
    ·exact XXOsI
    ·exact XXOsI
    ·exact XXOsI
    ·exact XXOsI
    ·exact XXOsI
    ·exact XXOsI
    ·exact XXOsI
    ·exact XXOsI
    ·exact XXOsI
    ·refine AP rfl (λev w1 hR hb hh=>?_);have e47:ev (.tmp 47)= _:=hh.at 0;have e48:ev (.tmp 48)= _:=hh.at 1;clear hh;have d1:=HI2.out;have d2:(k:Int)<(s.r.ts.length:Int):=by omega
     exact XXqTe
    ·exact XXOsI
    ·exact XXOsI
    ·refine AP rfl (λev w1 hR hb hh=>?_);have e50:ev (.tmp 50)= _:=hh.at 0;have e51:ev (.tmp 51)= _:=hh.at 1;clear hh;have ef:=hR.func
     refine AG 246 #[ZU #[ZY last.1,ZY last.2],ZY x] (by go_simp) ((HJ.out w1).mono ?_);exact XXUgj
    ·refine AP rfl (λev w1 hR hb hh=>?_);have e42:ev (.tmp 42)= _:=hh.at 0;have e43:ev (.tmp 43)= _:=hh.at 1;clear hh;have d1:=HI2.out;have d2:(k:Int)<(s.r.ts.length:Int):=by omega
     exact XXqTe
   intro g1 w3 hb hf;have z52:g1 52= _:=hf.at 13;have z53:g1 53= _:=hf.at 14;clear hf;simp only [AU,Ab,CH,CK,CJ];rw [z52,z53];simp only [Ee,Ef,BZ,BY];have HB4:=Bx hb;have y0:=(HB4.out.cell (p:=⟨gf,k*2,none⟩) HGF.out).trans HQ0.out;have y1:=(HB4.out.cell (p:=⟨gf,k*2+1,none⟩) HGF.out).trans HQ1.out;have x0:=(HB4.out.frozen (p:=⟨gf,k*2,none⟩) HGF.out).trans HZ0.out;have x1:=(HB4.out.frozen (p:=⟨gf,k*2+1,none⟩) HGF.out).trans HZ1.out
   refine Ec (by rfl) (λK hK=>?_);go_simp;refine hK _ _ trivial ?_;clear hK K y0 y1 x0 x1;refine Ed ?_;go_wp2;go_ret;have h3:=H1.out.below HB4.out;have ho:(Value.slice (some ⟨gf,0,none⟩) s.r.ts.length co).ownBlock=some gf:=by simp [Value.ownBlock]
   have hk3:Keeps [(Value.slice (some ⟨gf,0,none⟩) s.r.ts.length co).ownBlock] w3 ((w3.setCell ⟨gf,k*2,none⟩ (ZY last.1)).setCell ⟨gf,k*2+1,none⟩ (ZY (ba (Fd.joined last.2.data.toList x.data.toList)))):=
    (Bp gf (k*2) _ (by rw [ho];simp)).trans (Bp gf (k*2+1) _ (by rw [ho];simp)) Dq
   have hl3:(ini ++ [joinF last x.data.toList]).length=s.r.ts.length:=by rw [HEL.out];simp
   have hr3:=((h3.own.TR.stored (k*2) (ZY last.1)).1.stored (k*2+1) (ZY (ba (Fd.joined last.2.data.toList x.data.toList)))).1;exact XXKim
  ·have hgt:s.r.ts.length=0∨Fd.goes p x.data.toList=false/\∃k,s.r.ts.length=k+1:=by
    rcases CZ s.r.ts.length with h0 | h0
    ·exact .inl h0
    ·refine .inr ⟨?_,s.r.ts.length-1,by omega⟩;cases hg:Fd.goes p x.data.toList with
     | false=>rfl
     | true=>
       rw [hg] at hj;have:s.r.ts= []:=by simpa using hj
       rw [this] at h0;cases h0
   have hp:=λw=>Fd.parse_any x p hp w (by have:=HSZx.out;omega);obtain ⟨iF,hi,hz0,hz1,hz2⟩:=info_parts field_info;have I1:=Bx hi;have I2:=Bx hz0;have I3:=Bx hz1;have I4:=Bx hz2;clear hi hz0 hz1 hz2;rcases hpar:Fd.parse (Fd.clOf p) x.data.toList with _ | _ | ⟨n,vv⟩
   ·have e:fieldV p s.bl s.r.ts x.data.toList most=.inl 400:=by unfold fieldV;rw [if_neg hm,if_neg hj,hpar]
    rw [e];rw [hpar] at hp;simp only [Fd.rv,Fd.fv] at hp;have HP:=Bx hp;clear e hpar hp hm hj;rcases hgt with h0 | hgk
    ·have b3:(s.r.ts.length:Int)-1= -1:=by omega
     obtain ⟨b1,b2⟩:=DD ((s.r.ts.length:Int)-1) ⟨by omega,by omega⟩;rw [b3] at b1 b2;clear hgo hnn h0;go_enter Tryz.func226,Tryz.ntmps226;go_upto_region 4 with fail
     generalize w.setCell ⟨g,8,none⟩ (ZZ ZS ((s.bl:Int)+1))=W1 at *;clear c8 z8 a1 a2 t0;have c9:=H1.out.cs.c9;go_wp2_with
      (go_at_call 247;with_reducible refine (HP.out _).mono ?_;rintro r w3 ⟨rfl,hb3⟩
       have HB3:=Bx hb3;clear hb3)
     exact XXvfE
    ·obtain ⟨hg,k,hk⟩:=hgk;rw [hg] at hgo;have HGo:=Bx hgo;have t1:(0:Int)<=(k:Int):=by omega
     have b3:(s.r.ts.length:Int)-1=(k:Int):=by omega
     obtain ⟨b1,b2⟩:=DD ((s.r.ts.length:Int)-1) ⟨by omega,by omega⟩;rw [b3] at b1 b2;clear hgo hg hk hnn;go_enter Tryz.func226,Tryz.ntmps226;go_upto_region 4 with fail
     generalize w.setCell ⟨g,8,none⟩ (ZZ ZS ((s.bl:Int)+1))=W1 at *;clear c8 z8 a1 a2 t0;have c9:=H1.out.cs.c9
     go_wp2_with (first
      |(go_at_call 247;with_reducible refine (HP.out _).mono ?_;rintro r w3 ⟨rfl,hb3⟩
        have HB3:=Bx hb3;clear hb3)
      |(go_at_call 245;with_reducible refine Cm (HGo.out _) ?_))
     exact XXvfE
   ·have e:fieldV p s.bl s.r.ts x.data.toList most=.inr s.r.ts:=by unfold fieldV;rw [if_neg hm,if_neg hj,hpar]
    rw [e];rw [hpar] at hp;simp only [Fd.rv,Fd.fv] at hp;have HP:=Bx hp;clear e hpar hp hm hj;rcases hgt with h0 | hgk
    ·have b3:(s.r.ts.length:Int)-1= -1:=by omega
     obtain ⟨b1,b2⟩:=DD ((s.r.ts.length:Int)-1) ⟨by omega,by omega⟩;rw [b3] at b1 b2;clear hgo hnn h0;go_enter Tryz.func226,Tryz.ntmps226;go_upto_region 4 with fail
     generalize w.setCell ⟨g,8,none⟩ (ZZ ZS ((s.bl:Int)+1))=W1 at *;clear c8 z8 a1 a2 t0;have c9:=H1.out.cs.c9;go_wp2_with
      (go_at_call 247;with_reducible refine (HP.out _).mono ?_;rintro r w3 ⟨rfl,hb3⟩
       have HB3:=Bx hb3;clear hb3)
     exact XXvfE
    ·obtain ⟨hg,k,hk⟩:=hgk;rw [hg] at hgo;have HGo:=Bx hgo;have t1:(0:Int)<=(k:Int):=by omega
     have b3:(s.r.ts.length:Int)-1=(k:Int):=by omega
     obtain ⟨b1,b2⟩:=DD ((s.r.ts.length:Int)-1) ⟨by omega,by omega⟩;rw [b3] at b1 b2;clear hgo hg hk hnn;go_enter Tryz.func226,Tryz.ntmps226;go_upto_region 4 with fail
     generalize w.setCell ⟨g,8,none⟩ (ZZ ZS ((s.bl:Int)+1))=W1 at *;clear c8 z8 a1 a2 t0;have c9:=H1.out.cs.c9
     go_wp2_with (first
      |(go_at_call 247;with_reducible refine (HP.out _).mono ?_;rintro r w3 ⟨rfl,hb3⟩
        have HB3:=Bx hb3;clear hb3)
      |(go_at_call 245;with_reducible refine Cm (HGo.out _) ?_))
     exact XXvfE
   ·have e:fieldV p s.bl s.r.ts x.data.toList most=.inr (s.r.ts ++ [(ba n,ba vv)]):=by unfold fieldV;rw [if_neg hm,if_neg hj,hpar]
    rw [e];rw [hpar] at hp;simp only [Fd.rv,Fd.fv] at hp;have HP:=Bx hp;clear e hpar hp hm hj;rcases hgt with h0 | hgk
    ·have b3:(s.r.ts.length:Int)-1= -1:=by omega
     obtain ⟨b1,b2⟩:=DD ((s.r.ts.length:Int)-1) ⟨by omega,by omega⟩;rw [b3] at b1 b2;clear hgo hnn h0;go_enter Tryz.func226,Tryz.ntmps226;go_upto_region 4 with fail
     generalize w.setCell ⟨g,8,none⟩ (ZZ ZS ((s.bl:Int)+1))=W1 at *;clear c8 z8 a1 a2 t0;have c9:=H1.out.cs.c9;go_upto_region 10 with
      (go_at_call 247;with_reducible refine (HP.out _).mono ?_;rintro r w3 ⟨rfl,hb3⟩
       have HB3:=Bx hb3;clear hb3)
     exact XXLci
    ·obtain ⟨hg,k,hk⟩:=hgk;rw [hg] at hgo;have HGo:=Bx hgo;have t1:(0:Int)<=(k:Int):=by omega
     have b3:(s.r.ts.length:Int)-1=(k:Int):=by omega
     obtain ⟨b1,b2⟩:=DD ((s.r.ts.length:Int)-1) ⟨by omega,by omega⟩;rw [b3] at b1 b2;clear hgo hg hk hnn;go_enter Tryz.func226,Tryz.ntmps226;go_upto_region 4 with fail
     generalize w.setCell ⟨g,8,none⟩ (ZZ ZS ((s.bl:Int)+1))=W1 at *;clear c8 z8 a1 a2 t0;have c9:=H1.out.cs.c9
     go_upto_region 10 with (first
      |(go_at_call 247;with_reducible refine (HP.out _).mono ?_;rintro r w3 ⟨rfl,hb3⟩
        have HB3:=Bx hb3;clear hb3)
      |(go_at_call 245;with_reducible refine Cm (HGo.out _) ?_))
     exact XXLci
end
end Go.Proofs.YtdfabddnpgjepaaGreatDoor.Pg
namespace Go.Proofs.YtdfabddnpgjepaaGreatDoor.Pg
open Go.RowKit Base Txt Mem Par
theorem empty_of {x:ByteArray} (h:x.size=0):x=⟨#[]⟩:=by
 have:x.data.size=0:=h;cases x with
 | mk d=>
   have e:d= #[]:=Array.eq_empty_of_size_eq_zero this;rw [e]
theorem list_ne {x:ByteArray} (h:0<x.size):x.data.toList≠ []:=λe=>by
 have:x.size=0:=by rw [←len,e];rfl
 omega
section
set_option maxHeartbeats 4000000
set_option maxRecDepth 20000
attribute [local go_sem] Am
variable {w:World} {B:Zone} {g q:Nat} {v f bd t o:Value} {p:Nat} {b:Bd} {s:T}
theorem XXDW2 {P:Prop} (h:P:=by refine AP rfl (λev w1 hR hb hh=>?_);have e1:=hR.old 1 rfl;have e0:=hR.old 0 rfl;simp only [Ag,Cg,BY,BZ,Ds] at e1 e0;have q13:=(HQ.out.below hb).c 13 _ rfl;have q14:=(HQ.out.below hb).c 14 _ rfl;have q15:=(HQ.out.below hb).c 15 _ rfl;have q16:=(HQ.out.below hb).c 16 _ rfl;have q17:=(HQ.out.below hb).c 17 _ rfl;have q18:=(HQ.out.below hb).c 18 _ rfl;have q19:=(HQ.out.below hb).c 19 _ rfl;have q20:=(HQ.out.below hb).c 20 _ rfl;have q21:=(HQ.out.below hb).c 21 _ rfl;have q22:=(HQ.out.below hb).c 22 _ rfl;have q23:=(HQ.out.below hb).c 23 _ rfl;exact Each.std):P:=h
theorem XXCdj {P:Prop} (h:P:=by exact ⟨rfl,_,_,_,_,_,_,H2.out,HS2.out⟩):P:=h
theorem firstLine_any (hp:p<4294967296) (x:ByteArray) (hx:x.size<=5000) (h:PR w B g q v f bd t o p b s):Calls EW 203 #[ptr g,ZY x] w λr w'=>
 r=.returned (ZZ ZS (((s.first p b x.data.toList).1:Nat):Int))/\∃q1 v1 f1 bd1 t1 o1,PR w' B g q1 v1 f1 bd1 t1 o1 p b (s.first p b x.data.toList).2/\Step (blks g q v f bd t o) (blks g q1 v1 f1 bd1 t1 o1) w w':=by
 have H:=Bx h;rcases CZ x.size with h0 | h0
 ·obtain rfl:=empty_of h0
  have HE:=Bx (emptyLine_any (g:=g) hp h.cs.c13);have e:s.first p b (⟨#[]⟩:ByteArray).data.toList=(if D0 p 0=true then 0 else 400,s):=rfl;rw [e];obtain ⟨z,hz⟩:∃z:Nat,(if D0 p 0=true then 0 else 400)=z:=⟨_,rfl⟩;rw [hz] at HE ⊢;clear h h0 hx e hz;go_enter Tryz.func203,Tryz.ntmps203
  go_wp2_with (go_at_call 223;with_reducible refine Cm HE.out ?_);go_ret;exact ⟨rfl,_,_,_,_,_,_,H.out,Step.refl⟩
 ·have hne:=list_ne h0;have te:=Fd.first_no x h0
  have HQ:=Bx ((h.drew 1).bk)
  have hz:=λw=>Rq.parse_any x p hp b.x0 b.x1 b.x2 b.x3 b.x4 b.x5 b.x6 b.x7 b.ch b.od w (by omega);unfold T.first;rw [if_neg hne];obtain ⟨⟨m1,t1,qk,qe⟩,hq⟩:∃Q,Rq.request (Rq.clOf p) b.od x.data.toList=Q:=⟨_,rfl⟩;rw [hq] at hz;simp only [Rq.rv] at hz;rw [hq];obtain ⟨qm,hqm⟩:∃qm,ba m1=qm:=⟨_,rfl⟩;obtain ⟨qt,hqt⟩:∃qt,ba t1=qt:=⟨_,rfl⟩;rw [hqm,hqt] at hz;have HZ:=Bx hz;simp only [hqm,hqt];clear hz hq hqm hqt hne h0 hx h;by_cases hqe:qe=0
  ·subst hqe;rw [if_pos rfl]
   have HZ:=Bx (show∀w,Calls EW 224 #[ZY x,ZZ ZQ (p:Int),ZU #[ZZ ZS b.x0,ZZ ZS b.x1,ZZ ZS b.x2,ZZ ZS b.x3,ZZ ZS b.x4,ZZ ZS b.x5,ZZ ZS b.x6,ZZ ZS b.x7,ZW b.ch,ZW b.od]] w λe w'=>e=.returned (ZT #[ZY qm,ZY qt,ZZ ZS (qk:Int),ZZ ZS 0])/\Below w.heap.size w w' from λw=>HZ.out w);go_enter Tryz.func203,Tryz.ntmps203;go_upto_region 3 with fail
   refine AW 19 [14,15,16,17,18,19,20,21,22,23,13,24,25,26,27,5,6,7,8] [eQ (ZY x),eP g 0,eP g 0,eP g 13,eQ (ZZ ZQ (p:Int)),eP g 0,eP g 0,eP g 14,eQ (ZU #[ZZ ZS b.x0,ZZ ZS b.x1,ZZ ZS b.x2,ZZ ZS b.x3,ZZ ZS b.x4,ZZ ZS b.x5,ZZ ZS b.x6,ZZ ZS b.x7,ZW b.ch,ZW b.od]),eQ (ZT #[ZY qm,ZY qt,ZZ ZS (qk:Int),ZZ ZS 0]),eQ (ZT #[ZY qm,ZY qt,ZZ ZS (qk:Int),ZZ ZS 0]),eQ (ZY qm),eQ (ZY qt),eQ (ZZ ZS (qk:Int)),eQ (ZZ ZS 0),eQ (ZY qm),eQ (ZY qt),eQ (ZZ ZS (qk:Int)),eQ (ZZ ZS 0)] (by kernel_rfl) (by kernel_rfl) (by kernel_rfl) (by kernel_rfl) (λ_ _ d _ _ h=>by cases d<;>exact h) (by rfl) (by rfl) (by repeat first | exact trivial | refine ⟨AK _,?_⟩) ?_ ?_
   ·refine ⟨?_,?_,?_,?_,?_,?_,?_,?_,?_,?_,?_,?_,?_,?_,?_,?_,?_,?_,?_,trivial⟩
    ·exact XXDW2
    ·exact XXDW2
    ·exact XXDW2
    ·exact XXDW2
    ·exact XXDW2
    ·exact XXDW2
    ·exact XXDW2
    ·exact XXDW2
    ·exact XXDW2
    ·refine AP rfl (λev w1 hR hb hh=>?_);have e14:ev (.tmp 14)= _:=hh.at 0;have e18:ev (.tmp 18)= _:=hh.at 1;have e22:ev (.tmp 22)= _:=hh.at 2;clear hh;have ef:=hR.func
     refine AG 224 #[ZY x,ZZ ZQ (p:Int),ZU #[ZZ ZS b.x0,ZZ ZS b.x1,ZZ ZS b.x2,ZZ ZS b.x3,ZZ ZS b.x4,ZZ ZS b.x5,ZZ ZS b.x6,ZZ ZS b.x7,ZW b.ch,ZW b.od]] (by go_simp) ((HZ.out w1).mono ?_);exact XXUgj
    ·exact XXDW2
    ·exact XXDW2
    ·exact XXDW2
    ·exact XXDW2
    ·exact XXDW2
    ·exact XXDW2
    ·exact XXDW2
    ·exact XXDW2
    ·exact XXDW2
   intro g1 w2 hb hf;have z5:g1 5= _:=hf.at 15;have z6:g1 6= _:=hf.at 16;have z7:g1 7= _:=hf.at 17;have z8:g1 8= _:=hf.at 18;clear hf;simp only [AU,Ab,CH,CK,CJ];rw [z5];rw [z6];rw [z7];rw [z8]
   have H1:=Bx (H.out.below hb);have HS1:=Bx (DP hb (L:=blks g q v f bd t o));clear hb HQ
   have H2:=Bx (((((H1.out).put 3 (ZY qm) {s with r:={s.r with m:=qm}} rfl rfl rfl rfl rfl rfl).put 4 (ZY qt) {s with r:={s.r with m:=qm,x:=qt}} rfl rfl rfl rfl rfl rfl).put 5 (ZZ ZS (qk:Int)) {s with r:={s.r with m:=qm,x:=qt,k:=(qk:Int)}} rfl rfl rfl rfl rfl rfl).put 24 (ZZ ZS 2) {s with r:={s.r with m:=qm,x:=qt,k:=(qk:Int)},st:=2} rfl rfl rfl rfl rfl rfl)
   have HS2:=Bx (((((HS1.out).trans (DS g 3 (ZY qm) (by simp))).trans (DS g 4 (ZY qt) (by simp))).trans (DS g 5 (ZZ ZS (qk:Int)) (by simp))).trans (DS g 24 (ZZ ZS 2) (by simp)));have c3:=H1.out.cs.c3;have z3:=H1.out.marks 3;have c4:=H1.out.cs.c4;have z4:=H1.out.marks 4;have c5:=H1.out.cs.c5;have z5:=H1.out.marks 5;have c24:=H1.out.cs.c24;have z24:=H1.out.marks 24;go_wp2;first | go_end0 | go_ret
   exact XXCdj
  ·rw [if_neg hqe];have tz:¬(qe:Int)=0:=by omega
   have tz':((qe:Int)==0)=false:=beq_eq_false_iff_ne.2 tz;clear hqe;go_enter Tryz.func203,Tryz.ntmps203;go_upto_region 3 with fail
   refine AW 19 [14,15,16,17,18,19,20,21,22,23,13,24,25,26,27,5,6,7,8] [eQ (ZY x),eP g 0,eP g 0,eP g 13,eQ (ZZ ZQ (p:Int)),eP g 0,eP g 0,eP g 14,eQ (ZU #[ZZ ZS b.x0,ZZ ZS b.x1,ZZ ZS b.x2,ZZ ZS b.x3,ZZ ZS b.x4,ZZ ZS b.x5,ZZ ZS b.x6,ZZ ZS b.x7,ZW b.ch,ZW b.od]),eQ (ZT #[ZY qm,ZY qt,ZZ ZS (qk:Int),ZZ ZS (qe:Int)]),eQ (ZT #[ZY qm,ZY qt,ZZ ZS (qk:Int),ZZ ZS (qe:Int)]),eQ (ZY qm),eQ (ZY qt),eQ (ZZ ZS (qk:Int)),eQ (ZZ ZS (qe:Int)),eQ (ZY qm),eQ (ZY qt),eQ (ZZ ZS (qk:Int)),eQ (ZZ ZS (qe:Int))] (by kernel_rfl) (by kernel_rfl) (by kernel_rfl) (by kernel_rfl) (λ_ _ d _ _ h=>by cases d<;>exact h) (by rfl) (by rfl) (by repeat first | exact trivial | refine ⟨AK _,?_⟩) ?_ ?_
   ·refine ⟨?_,?_,?_,?_,?_,?_,?_,?_,?_,?_,?_,?_,?_,?_,?_,?_,?_,?_,?_,trivial⟩
    ·exact XXDW2
    ·exact XXDW2
    ·exact XXDW2
    ·exact XXDW2
    ·exact XXDW2
    ·exact XXDW2
    ·exact XXDW2
    ·exact XXDW2
    ·exact XXDW2
    ·refine AP rfl (λev w1 hR hb hh=>?_);have e14:ev (.tmp 14)= _:=hh.at 0;have e18:ev (.tmp 18)= _:=hh.at 1;have e22:ev (.tmp 22)= _:=hh.at 2;clear hh;have ef:=hR.func
     refine AG 224 #[ZY x,ZZ ZQ (p:Int),ZU #[ZZ ZS b.x0,ZZ ZS b.x1,ZZ ZS b.x2,ZZ ZS b.x3,ZZ ZS b.x4,ZZ ZS b.x5,ZZ ZS b.x6,ZZ ZS b.x7,ZW b.ch,ZW b.od]] (by go_simp) ((HZ.out w1).mono ?_);exact XXUgj
    ·exact XXDW2
    ·exact XXDW2
    ·exact XXDW2
    ·exact XXDW2
    ·exact XXDW2
    ·exact XXDW2
    ·exact XXDW2
    ·exact XXDW2
    ·exact XXDW2
   intro g1 w2 hb hf;have z5:g1 5= _:=hf.at 15;have z6:g1 6= _:=hf.at 16;have z7:g1 7= _:=hf.at 17;have z8:g1 8= _:=hf.at 18;clear hf;simp only [AU,Ab,CH,CK,CJ];rw [z5];rw [z6];rw [z7];rw [z8]
   have H1:=Bx (H.out.below hb);have HS1:=Bx (DP hb (L:=blks g q v f bd t o));clear hb HQ;go_wp2;first | go_end0 | go_ret
   exact ⟨rfl,_,_,_,_,_,_,H1.out,HS1.out⟩
theorem XXNvB {P:Prop} (h:P:=by
 refine AP rfl (λev w1 hR hb hh=>?_);have e8:ev (.tmp 8)= _:=hh.at 0;have e12:ev (.tmp 12)= _:=hh.at 1;have e16:ev (.tmp 16)= _:=hh.at 2;clear hh;have ef:=hR.func
 refine AG 227 #[ZY x,ZZ ZQ (p:Int),ZU #[ZZ ZS b.x0,ZZ ZS b.x1,ZZ ZS b.x2,ZZ ZS b.x3,ZZ ZS b.x4,ZZ ZS b.x5,ZZ ZS b.x6,ZZ ZS b.x7,ZW b.ch,ZW b.od]] (by go_simp) ((HZ.out w1).mono ?_);rintro r w2 ⟨rfl,hb2⟩
 exact ⟨_,rfl,hb2,rfl⟩):P:=h
theorem XXYV8 {P:Prop} (h:P:=by
 refine ⟨?_,?_,?_,?_,?_,?_,?_,?_,?_,?_,?_,?_,?_,?_,?_,trivial⟩
 all_goals (refine AP rfl (λev w1 hR hb hh=>?_);have e5:=hR.old 5 rfl;have e0:=hR.old 0 rfl;simp only [Ag,Cg,BY,BZ,Ds] at e5 e0;have q17:=(HQ.out.below hb).c 17 _ rfl;have q11:=(HQ.out.below hb).c 11 _ rfl;have d1:=HD.out;have d2:=HT.out;exact Each.std)):P:=h
theorem XXS6f {P:Prop} (h:P:=by
 intro g1 w2 hb hf;have z5:g1 5= _:=hf.at 13;have z6:g1 6= _:=hf.at 14;clear hf;simp only [AU,Ab,CH,CK,CJ];rw [z5];rw [z6];have H1:=Bx (H.out.below hb);have HB:=Bx hb;clear HQ hb;go_wp2;go_ret
 exact ⟨rfl,_,_,_,_,_,_,H1.out,DP HB.out⟩):P:=h
theorem _root_.Go.Proofs.YtdfabddnpgjepaaGreatDoor.XX7js {P:Prop} (h:P:=by
 rw [hZ];show (if (0:Int)≠0 then _ else if (n:Int)=0 then _ else if b.x3-(s.r.body.length:Int)<(n:Int) then _ else _)= _
 rw [if_neg (by decide),if_neg tz,if_pos hov]):P:=h
theorem sizeLine_any (hp:p<4294967296) (h3:16<=b.x3/\b.x3<=1048576) (x:ByteArray) (hx:x.size<=5000) (h:PR w B g q v f bd t o p b s) (hbl:s.r.body.length<=2000000):Calls EW 205 #[ptr g,ZY x] w λr w'=>
 r=.returned (ZZ ZS (((s.chunk p b x.data.toList).1:Nat):Int))/\∃q1 v1 f1 bd1 t1 o1,PR w' B g q1 v1 f1 bd1 t1 o1 p b (s.chunk p b x.data.toList).2/\Step (blks g q v f bd t o) (blks g q1 v1 f1 bd1 t1 o1) w w':=by
 have H:=Bx h
 have HQ:=Bx ((h.drew 1).bk)
 have hz:=λw=>Chk.size_any x p hp b.x0 b.x1 b.x2 b.x3 b.x4 b.x5 b.x6 b.x7 b.ch b.od (by omega) w (by omega);have HF:=chunk_facts (D0 p 27) (D0 p 28) b.x4 b.x3 x.data.toList;obtain ⟨⟨z1,z2⟩,hZ⟩:∃Z,Chk.sizeV (D0 p 27) (D0 p 28) b.x4 b.x3 x.data.toList=Z:=⟨_,rfl⟩;rw [hZ] at HF;clear h hx;rcases HF with ⟨e2,h0,h1⟩ | e2 | e2
 ·have e2:z2=0:=e2;subst e2;obtain ⟨n,rfl⟩:∃n:Nat,z1=(n:Int):=⟨z1.toNat,by have:0<=z1:=h0;omega⟩;have h1:(n:Int)<=max b.x3 0:=h1
  have HZ:=Bx (show∀w,Calls EW 227 #[ZY x,ZZ ZQ (p:Int),ZU #[ZZ ZS b.x0,ZZ ZS b.x1,ZZ ZS b.x2,ZZ ZS b.x3,ZZ ZS b.x4,ZZ ZS b.x5,ZZ ZS b.x6,ZZ ZS b.x7,ZW b.ch,ZW b.od]] w λe w'=>e=.returned (ZT #[ZZ ZS (n:Int),ZZ ZS 0])/\Below w.heap.size w w' from λw=>by have:=hz w;rw [hZ] at this;exact this);clear hz;rcases CZ n with hn | hn
  ·subst hn;have e:s.chunk p b x.data.toList=(0,{s with st:=7}):=by unfold T.chunk;rw [hZ];rfl
   rw [e]
   have HZ:=Bx (show∀w,Calls EW 227 #[ZY x,ZZ ZQ (p:Int),ZU #[ZZ ZS b.x0,ZZ ZS b.x1,ZZ ZS b.x2,ZZ ZS b.x3,ZZ ZS b.x4,ZZ ZS b.x5,ZZ ZS b.x6,ZZ ZS b.x7,ZW b.ch,ZW b.od]] w λe w'=>e=.returned (ZT #[ZZ ZS 0,ZZ ZS 0])/\Below w.heap.size w w' from λw=>HZ.out w);clear e hZ h0 h1;go_enter Tryz.func205,Tryz.ntmps205;go_upto_region 1 with fail
   refine AW 15 [8,9,10,11,12,13,14,15,16,17,7,18,19,5,6] [eQ (ZY x),eP g 0,eP g 0,eP g 13,eQ (ZZ ZQ (p:Int)),eP g 0,eP g 0,eP g 14,eQ (ZU #[ZZ ZS b.x0,ZZ ZS b.x1,ZZ ZS b.x2,ZZ ZS b.x3,ZZ ZS b.x4,ZZ ZS b.x5,ZZ ZS b.x6,ZZ ZS b.x7,ZW b.ch,ZW b.od]),eQ (ZT #[ZZ ZS 0,ZZ ZS 0]),eQ (ZT #[ZZ ZS 0,ZZ ZS 0]),eQ (ZZ ZS 0),eQ (ZZ ZS 0),eQ (ZZ ZS 0),eQ (ZZ ZS 0)] (by kernel_rfl) (by kernel_rfl) (by kernel_rfl) (by kernel_rfl) (λ_ _ d _ _ h=>by cases d<;>exact h) (by rfl) (by rfl) (by repeat first | exact trivial | refine ⟨AK _,?_⟩) ?_ ?_
   ·refine ⟨?_,?_,?_,?_,?_,?_,?_,?_,?_,?_,?_,?_,?_,?_,?_,trivial⟩
    ·exact XXDW2
    ·exact XXDW2
    ·exact XXDW2
    ·exact XXDW2
    ·exact XXDW2
    ·exact XXDW2
    ·exact XXDW2
    ·exact XXDW2
    ·exact XXDW2
    ·exact XXNvB
    ·exact XXDW2
    ·exact XXDW2
    ·exact XXDW2
    ·exact XXDW2
    ·exact XXDW2
   intro g1 w2 hb hf;have z5:g1 5= _:=hf.at 13;have z6:g1 6= _:=hf.at 14;clear hf;simp only [AU,Ab,CH,CK,CJ];rw [z5];rw [z6];have H1:=Bx (H.out.below hb);have HB:=Bx hb;clear HQ hb
   have H2:=Bx (H1.out.put 24 (ZZ ZS 7) {s with st:=7} rfl rfl rfl rfl rfl rfl)
   have HS2:=Bx ((DP HB.out (L:=blks g q v f bd t o)).trans (DS g 24 (ZZ ZS 7) (by simp)));have c24:=H1.out.cs.c24;have z24:=H1.out.marks 24;go_wp2;go_ret;exact XXCdj
  ·obtain ⟨bb,cb,eb, -⟩:=CT H.out.own.D;subst eb
   have HD:=Bx (Base.wrap_in (b.x3-(s.r.body.length:Int)) (by omega) (by omega));have tz:¬(n:Int)=0:=by omega
   have tz':((n:Int)==0)=false:=beq_eq_false_iff_ne.2 tz
   by_cases hov:b.x3-(s.r.body.length:Int)<(n:Int)
   ·have e:s.chunk p b x.data.toList=(413,s):=by
     unfold T.chunk;exact XX7js
    rw [e];have HT:=Bx hov;clear e hZ h0 h1 hn;go_enter Tryz.func205,Tryz.ntmps205;go_upto_region 1 with fail
    refine AW 15 [8,9,10,11,12,13,14,15,16,17,7,18,19,5,6] [eQ (ZY x),eP g 0,eP g 0,eP g 13,eQ (ZZ ZQ (p:Int)),eP g 0,eP g 0,eP g 14,eQ (ZU #[ZZ ZS b.x0,ZZ ZS b.x1,ZZ ZS b.x2,ZZ ZS b.x3,ZZ ZS b.x4,ZZ ZS b.x5,ZZ ZS b.x6,ZZ ZS b.x7,ZW b.ch,ZW b.od]),eQ (ZT #[ZZ ZS (n:Int),ZZ ZS 0]),eQ (ZT #[ZZ ZS (n:Int),ZZ ZS 0]),eQ (ZZ ZS (n:Int)),eQ (ZZ ZS 0),eQ (ZZ ZS (n:Int)),eQ (ZZ ZS 0)] (by kernel_rfl) (by kernel_rfl) (by kernel_rfl) (by kernel_rfl) (λ_ _ d _ _ h=>by cases d<;>exact h) (by rfl) (by rfl) (by repeat first | exact trivial | refine ⟨AK _,?_⟩) ?_ ?_
    ·refine ⟨?_,?_,?_,?_,?_,?_,?_,?_,?_,?_,?_,?_,?_,?_,?_,trivial⟩
     ·exact XXDW2
     ·exact XXDW2
     ·exact XXDW2
     ·exact XXDW2
     ·exact XXDW2
     ·exact XXDW2
     ·exact XXDW2
     ·exact XXDW2
     ·exact XXDW2
     ·exact XXNvB
     ·exact XXDW2
     ·exact XXDW2
     ·exact XXDW2
     ·exact XXDW2
     ·exact XXDW2
    intro g1 w2 hb hf;have z5:g1 5= _:=hf.at 13;have z6:g1 6= _:=hf.at 14;clear hf;simp only [AU,Ab,CH,CK,CJ];rw [z5];rw [z6];have H1:=Bx (H.out.below hb);have HB:=Bx hb;clear HQ hb;go_upto_region 8 with fail
    have HQ:=Bx ((H1.out.drew 1).bk);refine AW 15 [39,40,41,42,43,44,45,46,47,48,49,50,51,52,38] [eQ (ZZ ZS ((n:Nat):Int)),eP g 0,eP g 0,eP g 14,eP g 17,eQ (ZZ ZS b.x3),eP g 0,eP g 0,eP g 8,eP g 11,eQ (.slice bb s.r.body.length cb),eQ (ZZ ZS ((s.r.body.length:Nat):Int)),eQ (ZZ ZS (b.x3-(s.r.body.length:Int))),eQ (ZW true),eQ (ZW true)] (by kernel_rfl) (by kernel_rfl) (by kernel_rfl) (by kernel_rfl) (λ_ _ d _ _ h=>by cases d<;>exact h) (by rfl) (by rfl) (by repeat first | exact trivial | refine ⟨AK _,?_⟩) ?_ ?_
    ·exact XXYV8
    intro g1 w3 hb hf;have z38:g1 38= _:=hf.at 14;clear hf;simp only [AU,Ab,CH,CK,CJ];rw [z38]
    have H2:=Bx (H1.out.below hb);have HS2:=Bx ((DP HB.out (L:=blks g q v f (.slice bb s.r.body.length cb) t o)).trans (DP hb));clear H1 HB hb HQ;go_wp2;go_ret;exact XXCdj
   ·have e:s.chunk p b x.data.toList=(0,{s with st:=5,left:=n}):=by
     unfold T.chunk;rw [hZ];show (if (0:Int)≠0 then _ else if (n:Int)=0 then _ else if b.x3-(s.r.body.length:Int)<(n:Int) then _ else (0,({s with left:=(n:Int).toNat,st:=5}:T)))= _;rw [if_neg (by decide),if_neg tz,if_neg hov,Int.toNat_natCast]
    rw [e];have HT:=Bx hov;clear e hZ h0 h1 hn;go_enter Tryz.func205,Tryz.ntmps205;go_upto_region 1 with fail
    refine AW 15 [8,9,10,11,12,13,14,15,16,17,7,18,19,5,6] [eQ (ZY x),eP g 0,eP g 0,eP g 13,eQ (ZZ ZQ (p:Int)),eP g 0,eP g 0,eP g 14,eQ (ZU #[ZZ ZS b.x0,ZZ ZS b.x1,ZZ ZS b.x2,ZZ ZS b.x3,ZZ ZS b.x4,ZZ ZS b.x5,ZZ ZS b.x6,ZZ ZS b.x7,ZW b.ch,ZW b.od]),eQ (ZT #[ZZ ZS (n:Int),ZZ ZS 0]),eQ (ZT #[ZZ ZS (n:Int),ZZ ZS 0]),eQ (ZZ ZS (n:Int)),eQ (ZZ ZS 0),eQ (ZZ ZS (n:Int)),eQ (ZZ ZS 0)] (by kernel_rfl) (by kernel_rfl) (by kernel_rfl) (by kernel_rfl) (λ_ _ d _ _ h=>by cases d<;>exact h) (by rfl) (by rfl) (by repeat first | exact trivial | refine ⟨AK _,?_⟩) ?_ ?_
    ·refine ⟨?_,?_,?_,?_,?_,?_,?_,?_,?_,?_,?_,?_,?_,?_,?_,trivial⟩
     ·exact XXDW2
     ·exact XXDW2
     ·exact XXDW2
     ·exact XXDW2
     ·exact XXDW2
     ·exact XXDW2
     ·exact XXDW2
     ·exact XXDW2
     ·exact XXDW2
     ·exact XXNvB
     ·exact XXDW2
     ·exact XXDW2
     ·exact XXDW2
     ·exact XXDW2
     ·exact XXDW2
    intro g1 w2 hb hf;have z5:g1 5= _:=hf.at 13;have z6:g1 6= _:=hf.at 14;clear hf;simp only [AU,Ab,CH,CK,CJ];rw [z5];rw [z6];have H1:=Bx (H.out.below hb);have HB:=Bx hb;clear HQ hb;go_upto_region 8 with fail
    have HQ:=Bx ((H1.out.drew 1).bk);refine AW 15 [39,40,41,42,43,44,45,46,47,48,49,50,51,52,38] [eQ (ZZ ZS ((n:Nat):Int)),eP g 0,eP g 0,eP g 14,eP g 17,eQ (ZZ ZS b.x3),eP g 0,eP g 0,eP g 8,eP g 11,eQ (.slice bb s.r.body.length cb),eQ (ZZ ZS ((s.r.body.length:Nat):Int)),eQ (ZZ ZS (b.x3-(s.r.body.length:Int))),eQ (ZW false),eQ (ZW false)] (by kernel_rfl) (by kernel_rfl) (by kernel_rfl) (by kernel_rfl) (λ_ _ d _ _ h=>by cases d<;>exact h) (by rfl) (by rfl) (by repeat first | exact trivial | refine ⟨AK _,?_⟩) ?_ ?_
    ·exact XXYV8
    intro g1 w3 hb hf;have z38:g1 38= _:=hf.at 14;clear hf;simp only [AU,Ab,CH,CK,CJ];rw [z38]
    have H2:=Bx (H1.out.below hb);have HS2:=Bx ((DP HB.out (L:=blks g q v f (.slice bb s.r.body.length cb) t o)).trans (DP hb));clear H1 HB hb HQ
    have H3:=Bx ((H2.out.put 12 (ZZ ZS (n:Int)) {s with left:=n} rfl rfl rfl rfl rfl rfl).put 24 (ZZ ZS 5) {s with left:=n,st:=5} rfl rfl rfl rfl rfl rfl)
    have HS3:=Bx (HS2.out.trans ((DS g 12 (ZZ ZS (n:Int)) (by simp)).trans (DS g 24 (ZZ ZS 5) (by simp))));have c12:=H2.out.cs.c12;have z12:=H2.out.marks 12;have c24:=H2.out.cs.c24;have z24:=H2.out.marks 24;go_wp2;go_ret;exact ⟨rfl,_,_,_,_,_,_,H3.out,HS3.out⟩
 ·have e2:z2=400:=e2;subst e2
  have HZ:=Bx (show∀w,Calls EW 227 #[ZY x,ZZ ZQ (p:Int),ZU #[ZZ ZS b.x0,ZZ ZS b.x1,ZZ ZS b.x2,ZZ ZS b.x3,ZZ ZS b.x4,ZZ ZS b.x5,ZZ ZS b.x6,ZZ ZS b.x7,ZW b.ch,ZW b.od]] w λe w'=>e=.returned (ZT #[ZZ ZS z1,ZZ ZS 400])/\Below w.heap.size w w' from λw=>by have:=hz w;rw [hZ] at this;exact this);have e:s.chunk p b x.data.toList=(400,s):=by unfold T.chunk;rw [hZ];rfl
  rw [e];clear hz hZ e;go_enter Tryz.func205,Tryz.ntmps205;go_upto_region 1 with fail
  refine AW 15 [8,9,10,11,12,13,14,15,16,17,7,18,19,5,6] [eQ (ZY x),eP g 0,eP g 0,eP g 13,eQ (ZZ ZQ (p:Int)),eP g 0,eP g 0,eP g 14,eQ (ZU #[ZZ ZS b.x0,ZZ ZS b.x1,ZZ ZS b.x2,ZZ ZS b.x3,ZZ ZS b.x4,ZZ ZS b.x5,ZZ ZS b.x6,ZZ ZS b.x7,ZW b.ch,ZW b.od]),eQ (ZT #[ZZ ZS z1,ZZ ZS 400]),eQ (ZT #[ZZ ZS z1,ZZ ZS 400]),eQ (ZZ ZS z1),eQ (ZZ ZS 400),eQ (ZZ ZS z1),eQ (ZZ ZS 400)] (by kernel_rfl) (by kernel_rfl) (by kernel_rfl) (by kernel_rfl) (λ_ _ d _ _ h=>by cases d<;>exact h) (by rfl) (by rfl) (by repeat first | exact trivial | refine ⟨AK _,?_⟩) ?_ ?_
  ·refine ⟨?_,?_,?_,?_,?_,?_,?_,?_,?_,?_,?_,?_,?_,?_,?_,trivial⟩
   ·exact XXDW2
   ·exact XXDW2
   ·exact XXDW2
   ·exact XXDW2
   ·exact XXDW2
   ·exact XXDW2
   ·exact XXDW2
   ·exact XXDW2
   ·exact XXDW2
   ·exact XXNvB
   ·exact XXDW2
   ·exact XXDW2
   ·exact XXDW2
   ·exact XXDW2
   ·exact XXDW2
  exact XXS6f
 ·have e2:z2=413:=e2;subst e2
  have HZ:=Bx (show∀w,Calls EW 227 #[ZY x,ZZ ZQ (p:Int),ZU #[ZZ ZS b.x0,ZZ ZS b.x1,ZZ ZS b.x2,ZZ ZS b.x3,ZZ ZS b.x4,ZZ ZS b.x5,ZZ ZS b.x6,ZZ ZS b.x7,ZW b.ch,ZW b.od]] w λe w'=>e=.returned (ZT #[ZZ ZS z1,ZZ ZS 413])/\Below w.heap.size w w' from λw=>by have:=hz w;rw [hZ] at this;exact this);have e:s.chunk p b x.data.toList=(413,s):=by unfold T.chunk;rw [hZ];rfl
  rw [e];clear hz hZ e;go_enter Tryz.func205,Tryz.ntmps205;go_upto_region 1 with fail
  refine AW 15 [8,9,10,11,12,13,14,15,16,17,7,18,19,5,6] [eQ (ZY x),eP g 0,eP g 0,eP g 13,eQ (ZZ ZQ (p:Int)),eP g 0,eP g 0,eP g 14,eQ (ZU #[ZZ ZS b.x0,ZZ ZS b.x1,ZZ ZS b.x2,ZZ ZS b.x3,ZZ ZS b.x4,ZZ ZS b.x5,ZZ ZS b.x6,ZZ ZS b.x7,ZW b.ch,ZW b.od]),eQ (ZT #[ZZ ZS z1,ZZ ZS 413]),eQ (ZT #[ZZ ZS z1,ZZ ZS 413]),eQ (ZZ ZS z1),eQ (ZZ ZS 413),eQ (ZZ ZS z1),eQ (ZZ ZS 413)] (by kernel_rfl) (by kernel_rfl) (by kernel_rfl) (by kernel_rfl) (λ_ _ d _ _ h=>by cases d<;>exact h) (by rfl) (by rfl) (by repeat first | exact trivial | refine ⟨AK _,?_⟩) ?_ ?_
  ·refine ⟨?_,?_,?_,?_,?_,?_,?_,?_,?_,?_,?_,?_,?_,?_,?_,trivial⟩
   ·exact XXDW2
   ·exact XXDW2
   ·exact XXDW2
   ·exact XXDW2
   ·exact XXDW2
   ·exact XXDW2
   ·exact XXDW2
   ·exact XXDW2
   ·exact XXDW2
   ·exact XXNvB
   ·exact XXDW2
   ·exact XXDW2
   ·exact XXDW2
   ·exact XXDW2
   ·exact XXDW2
  exact XXS6f
theorem XXkR9 {P:Prop} (h:P:=by refine AP rfl (λev w1 hR hb hh=>?_);have e0:=hR.old 0 rfl;simp only [Ag,Cg,BY,BZ,Ds] at e0;have q13:=(HQ.out.below hb).c 13 _ rfl;have q14:=(HQ.out.below hb).c 14 _ rfl;have q15:=(HQ.out.below hb).c 15 _ rfl;have q16:=(HQ.out.below hb).c 16 _ rfl;have q17:=(HQ.out.below hb).c 17 _ rfl;have q18:=(HQ.out.below hb).c 18 _ rfl;have q19:=(HQ.out.below hb).c 19 _ rfl;have q20:=(HQ.out.below hb).c 20 _ rfl;have q21:=(HQ.out.below hb).c 21 _ rfl;have q22:=(HQ.out.below hb).c 22 _ rfl;have q23:=(HQ.out.below hb).c 23 _ rfl;have q5:=(HQ.out.below hb).c 5 _ rfl;have q2:=(HQ.out.below hb).c 2 _ rfl;exact Each.std):P:=h
theorem _root_.Go.Proofs.YtdfabddnpgjepaaGreatDoor.XXsvP {P:Prop} (h:P:=by
 have y0:=hB2.c 0 _ rfl;have y1:=hB2.c 1 _ rfl;have x0:=hB2.z 0 (by simp);have x1:=hB2.z 1 (by simp)
 refine Ec (by rfl) (λK hK=>?_);go_simp;refine hK _ _ trivial ?_;clear hK K y0 y1 x0 x1;refine Tree.assign _ (by rfl) (by rfl) ?_;simp only [Ab,Act.eval,Ag,Cg,BZ,BY,Ds,CH,CK,CJ];refine Ed ?_;go_wp2_with fail;go_meet
 case rel=>exact ⟨g2,rfl,rfl,Bx ((hb.setCell hg2 _).setCell hg2 _),Bx ((hB2.set 0 (ZZ ZS 1) (by simp)).set 1 (ZZ ZS (n:Int)) (by simp)),Bx hg2⟩):P:=h
theorem _root_.Go.Proofs.YtdfabddnpgjepaaGreatDoor.XXZHN {P:Prop} (h:P:=by
 have y0:=hB2.c 0 _ rfl;have y1:=hB2.c 1 _ rfl;have x0:=hB2.z 0 (by simp);have x1:=hB2.z 1 (by simp)
 refine Ec (by rfl) (λK hK=>?_);go_simp;refine hK _ _ trivial ?_;clear hK K y0 y1 x0 x1;refine Tree.assign _ (by rfl) (by rfl) ?_;simp only [Ab,Act.eval,Ag,Cg,BZ,BY,Ds,CH,CK,CJ];refine Ed ?_;go_wp2_with fail;go_meet
 case rel=>exact ⟨g2,rfl,rfl,Bx ((hb.setCell hg2 _).setCell hg2 _),Bx ((hB2.set 0 (ZZ ZS 2) (by simp)).set 1 (ZZ ZS 0) (by simp)),Bx hg2⟩):P:=h
theorem _root_.Go.Proofs.YtdfabddnpgjepaaGreatDoor.XX4U6 {P:Prop} (h:P:=by
 have y0:=hB2.c 0 _ rfl;have y1:=hB2.c 1 _ rfl;have x0:=hB2.z 0 (by simp);have x1:=hB2.z 1 (by simp)
 refine Ec (by rfl) (λK hK=>?_);go_simp;refine hK _ _ trivial ?_;clear hK K y0 y1 x0 x1;refine Tree.assign _ (by rfl) (by rfl) ?_;simp only [Ab,Act.eval,Ag,Cg,BZ,BY,Ds,CH,CK,CJ];refine Ed ?_;go_wp2_with fail;go_meet
 case rel=>exact ⟨g2,rfl,rfl,Bx ((hb.setCell hg2 _).setCell hg2 _),Bx ((hB2.set 0 (ZZ ZS 1) (by simp)).set 1 (ZZ ZS 0) (by simp)),Bx hg2⟩):P:=h
theorem _root_.Go.Proofs.YtdfabddnpgjepaaGreatDoor.XX0H4 {P:Prop} (h:P:=by
 have y0:=hB2.c 0 _ rfl;have y1:=hB2.c 1 _ rfl;have x0:=hB2.z 0 (by simp);have x1:=hB2.z 1 (by simp)
 refine Ec (by rfl) (λK hK=>?_);go_simp;refine hK _ _ trivial ?_;clear hK K y0 y1 x0 x1;refine Tree.assign _ (by rfl) (by rfl) ?_;simp only [Ab,Act.eval,Ag,Cg,BZ,BY,Ds,CH,CK,CJ];refine Ed ?_;go_wp2_with fail;go_meet
 case rel=>exact ⟨g2,rfl,rfl,Bx ((hb.setCell hg2 _).setCell hg2 _),Bx ((hB2.set 0 (ZZ ZS 0) (by simp)).set 1 (ZZ ZS 0) (by simp)),Bx hg2⟩):P:=h
theorem _root_.Go.Proofs.YtdfabddnpgjepaaGreatDoor.XXEhL {P:Prop} (h:P:=by
 refine AP rfl (λev w1 hR hb hh=>?_);clear hh
 exact AF.value (ptr w1.heap.size) (w1.alloc (.cells #[ZZ ZS 0,ZZ ZS 0] 214)) (by go_simp) ((An _ _).alloc (Db _) _) ⟨_,rfl,hb.size,D6 w1 _ rfl 214 [ZZ ZS 0,ZZ ZS 0]⟩):P:=h
theorem XXlAS {P:Prop} (h:P:=by
 refine AP rfl (λev w1 hR hb hh=>?_);have e9:ev (.tmp 9)= _:=hh.at 0;have e13:ev (.tmp 13)= _:=hh.at 1;have e18:ev (.tmp 18)= _:=hh.at 2;have e24:ev (.tmp 24)= _:=hh.at 3;clear hh;have ef:=hR.func
 refine AG 244 #[ZZ ZQ (p:Int),ZU #[ZZ ZS b.x0,ZZ ZS b.x1,ZZ ZS b.x2,ZZ ZS b.x3,ZZ ZS b.x4,ZZ ZS b.x5,ZZ ZS b.x6,ZZ ZS b.x7,ZW b.ch,ZW b.od],ZZ ZS s.r.k,.slice bf s.r.fs.length cf] (by go_simp) ((HZ.out w1 hb).mono ?_);rintro r w2 ⟨rfl,hb2⟩
 exact ⟨_,rfl,hb2,rfl⟩):P:=h
theorem endHead_any (hp:p<4294967296) (h3:16<=b.x3/\b.x3<=1048576) (h:PR w B g q v f bd t o p b s) (hn:s.r.fs.length<=500) (hs:∀y∈s.r.fs,y.1.size<=1000000/\y.2.size<=1000000) (hout:s.out.length<=1000000000):Calls EW 225 #[ptr g] w λr w'=>
 r=.returned (ZZ ZS (((s.endHead p b).1:Nat):Int))/\∃q1 v1 f1 bd1 t1 o1,PR w' B g q1 v1 f1 bd1 t1 o1 p b (s.endHead p b).2/\Step (blks g q v f bd t o) (blks g q1 v1 f1 bd1 t1 o1) w w':=by
 obtain ⟨A,c,e,hv⟩:=Flds.of_own h.own.F;obtain ⟨bf,cf,eb, -⟩:=CT h.own.F;subst eb;simp only [Value.slice.injEq,true_and] at e;obtain ⟨rfl,rfl⟩:=e;have H:=Bx h
 have HQ:=Bx ((h.drew 1).bk)
 have hvd:=hv.below (Ak (An w.heap.size w) 1);have hz:=λw2 (hb:Below (w.drewN 1).heap.size (w.drewN 1) w2)=>Frm.decide_any p hp b.x0 b.x1 b.x2 b.x3 b.x4 b.x5 b.x6 b.x7 b.ch b.od (by omega) s.r.k _ _ cf s.r.fs w2 (hvd.below hb) hn hs;have HO:=Bx hout;clear h hn hs hout hv;rcases decide_facts (Frm.clOf p) b.ch b.x3 s.r.k s.r.fs with hD | ⟨n,hle,hD⟩ | ⟨e,he,hD⟩
 ·have HZ:=Bx (show∀w2,Below (w.drewN 1).heap.size (w.drewN 1) w2->Calls EW 244 #[ZZ ZQ (p:Int),ZU #[ZZ ZS b.x0,ZZ ZS b.x1,ZZ ZS b.x2,ZZ ZS b.x3,ZZ ZS b.x4,ZZ ZS b.x5,ZZ ZS b.x6,ZZ ZS b.x7,ZW b.ch,ZW b.od],ZZ ZS s.r.k,.slice bf s.r.fs.length cf] w2 λr w'=>r=.returned (ZT #[ZU #[ZZ ZS 2,ZZ ZS 0],ZZ ZS 0])/\Below w2.heap.size w2 w' from λw2 hb=>by have:=hz w2 hb;rw [hD] at this;exact this);have e:s.endHead p b=(0,{s with r:={s.r with ch:=true},st:=4}):=by unfold T.endHead;rw [hD];rfl
  rw [e];clear hz hD e hvd;go_enter Tryz.func225,Tryz.ntmps225;go_upto_region 1 with fail
  go_cut [3,4] from 5 to 27 (λu c wx=>∃g2,u=ptr g2/\c=ZZ ZS 0/\Hid (Below w.heap.size w wx)/\Hid (D5 wx g2 [ZZ ZS 2,ZZ ZS 0])/\Hid (w.heap.size<=g2))
  case first=>
   refine Each.region_float 24 [6,7,8,9,10,11,12,13,14,15,16,17,18,19,20,21,22,23,24,25,5,26,27,3] [eP g 0,eP g 0,eP g 13,eQ (ZZ ZQ (p:Int)),eP g 0,eP g 0,eP g 14,eQ (ZU #[ZZ ZS b.x0,ZZ ZS b.x1,ZZ ZS b.x2,ZZ ZS b.x3,ZZ ZS b.x4,ZZ ZS b.x5,ZZ ZS b.x6,ZZ ZS b.x7,ZW b.ch,ZW b.od]),eP g 0,eP g 0,eP g 1,eP g 5,eQ (ZZ ZS s.r.k),eP g 0,eP g 0,eP g 1,eP g 1,eP g 2,eQ (.slice bf s.r.fs.length cf),eQ (ZT #[ZU #[ZZ ZS 2,ZZ ZS 0],ZZ ZS 0]),eQ (ZT #[ZU #[ZZ ZS 2,ZZ ZS 0],ZZ ZS 0]),eQ (ZU #[ZZ ZS 2,ZZ ZS 0]),eQ (ZZ ZS 0),λv u=>∃g2,v=ptr g2/\w.heap.size<=g2/\D5 u g2 [ZZ ZS 0,ZZ ZS 0]] [] 2 (some 22) (.act 24 (.quiet 25 .done)) (.quiet 22 (.act 24 (.quiet 25 .done))) (by kernel_rfl) (by kernel_rfl) (by kernel_rfl) (by kernel_rfl) (λk0 h=>by cases h;kernel_rfl) (λ_ _ d _ _ h=>by cases d<;>exact h) (by rfl) (by rfl) ⟨AK _,AK _,AK _,AK _,AK _,AK _,AK _,AK _,AK _,AK _,AK _,AK _,AK _,AK _,AK _,AK _,AK _,AK _,AK _,AK _,AK _,AK _,AK _,((λ_ _ _ hb h=>by obtain ⟨g2,e1,h1,hB⟩:=h;exact ⟨g2,e1,h1,hB.below hb⟩)),trivial⟩ trivial (by rfl) ?_ ?_ ?_
   ·refine ⟨?_,?_,?_,?_,?_,?_,?_,?_,?_,?_,?_,?_,?_,?_,?_,?_,?_,?_,?_,?_,?_,?_,?_,?_,trivial⟩
    ·exact XXkR9
    ·exact XXkR9
    ·exact XXkR9
    ·exact XXkR9
    ·exact XXkR9
    ·exact XXkR9
    ·exact XXkR9
    ·exact XXkR9
    ·exact XXkR9
    ·exact XXkR9
    ·exact XXkR9
    ·exact XXkR9
    ·exact XXkR9
    ·exact XXkR9
    ·exact XXkR9
    ·exact XXkR9
    ·exact XXkR9
    ·exact XXkR9
    ·exact XXkR9
    ·exact XXlAS
    ·exact XXkR9
    ·exact XXkR9
    ·exact XXkR9
    ·exact XXEhL
   ·intro g1 w2 hb hf;have z5:g1 5= _:=hf.at 20;have z26:g1 26= _:=hf.at 21;have z27:g1 27= _:=hf.at 22;have z3:=hf.at 23;clear hf;obtain ⟨g2,e2,hg2,hB2⟩:=z3;simp only [AU,Ab,CH,CK,CJ];rw [z5,z26,z27,e2];simp only [Ee,Ef,BZ,BY];exact XXZHN
   ·intro k0 hk0 g1 w2 hb hf;cases hk0;have z5:g1 5= _:=hf.at 20;have z26:g1 26= _:=hf.at 21;have z3:=hf.at 23;clear hf;obtain ⟨g2,e2,hg2,hB2⟩:=z3;simp only [AU,Ab,CH,CK,CJ];rw [z5,z26,e2];simp only [Ee,Ef,BZ,BY];refine Eg (by rfl) (ZZ ZS 0) (λ_ _=>by go_simp) ?_;simp only [Ab,CH,CK,CJ];exact XXZHN
  case rest=>
  obtain ⟨g2,rfl,rfl,HB,HG,HG2⟩:=hcut
  have H1:=Bx (H.out.below HB.out);clear HQ;obtain ⟨W0,hW0⟩:∃x,x=wc:=⟨_,rfl⟩;subst hW0;have y0:=HG.out.c 0 _ rfl;have y1:=HG.out.c 1 _ rfl
  have H2:=Bx ((H1.out.put 10 (ZW true) {s with r:={s.r with ch:=true}} rfl rfl rfl rfl rfl rfl).put 24 (ZZ ZS 4) {s with r:={s.r with ch:=true},st:=4} rfl rfl rfl rfl rfl rfl)
  have HS2:=Bx ((DP HB.out (L:=blks g q v (.slice bf s.r.fs.length cf) bd t o)).trans ((DS g 10 (ZW true) (by simp)).trans (DS g 24 (ZZ ZS 4) (by simp))));have c10:=H1.out.cs.c10;have z10:=H1.out.marks 10;have c24:=H1.out.cs.c24;have z24:=H1.out.marks 24;go_wp2;go_ret;exact XXCdj
 ·have HZ:=Bx (show∀w2,Below (w.drewN 1).heap.size (w.drewN 1) w2->Calls EW 244 #[ZZ ZQ (p:Int),ZU #[ZZ ZS b.x0,ZZ ZS b.x1,ZZ ZS b.x2,ZZ ZS b.x3,ZZ ZS b.x4,ZZ ZS b.x5,ZZ ZS b.x6,ZZ ZS b.x7,ZW b.ch,ZW b.od],ZZ ZS s.r.k,.slice bf s.r.fs.length cf] w2 λr w'=>r=.returned (ZT #[ZU #[ZZ ZS 1,ZZ ZS (n:Int)],ZZ ZS 0])/\Below w2.heap.size w2 w' from λw2 hb=>by have:=hz w2 hb;rw [hD] at this;exact this);rcases CZ n with hn | hn
  ·subst hn
   have HZ:=Bx (show∀w2,Below (w.drewN 1).heap.size (w.drewN 1) w2->Calls EW 244 #[ZZ ZQ (p:Int),ZU #[ZZ ZS b.x0,ZZ ZS b.x1,ZZ ZS b.x2,ZZ ZS b.x3,ZZ ZS b.x4,ZZ ZS b.x5,ZZ ZS b.x6,ZZ ZS b.x7,ZW b.ch,ZW b.od],ZZ ZS s.r.k,.slice bf s.r.fs.length cf] w2 λe w'=>e=.returned (ZT #[ZU #[ZZ ZS 1,ZZ ZS 0],ZZ ZS 0])/\Below w2.heap.size w2 w' from λw2 hb=>HZ.out w2 hb);have e:s.endHead p b=(0,s.fin):=by unfold T.endHead;rw [hD];rfl
   rw [e];clear hz hD e hvd hle;go_enter Tryz.func225,Tryz.ntmps225;go_upto_region 1 with fail
   go_cut [3,4] from 5 to 27 (λu c wx=>∃g2,u=ptr g2/\c=ZZ ZS 0/\Hid (Below w.heap.size w wx)/\Hid (D5 wx g2 [ZZ ZS 1,ZZ ZS 0])/\Hid (w.heap.size<=g2))
   case first=>
    refine Each.region_float 24 [6,7,8,9,10,11,12,13,14,15,16,17,18,19,20,21,22,23,24,25,5,26,27,3] [eP g 0,eP g 0,eP g 13,eQ (ZZ ZQ (p:Int)),eP g 0,eP g 0,eP g 14,eQ (ZU #[ZZ ZS b.x0,ZZ ZS b.x1,ZZ ZS b.x2,ZZ ZS b.x3,ZZ ZS b.x4,ZZ ZS b.x5,ZZ ZS b.x6,ZZ ZS b.x7,ZW b.ch,ZW b.od]),eP g 0,eP g 0,eP g 1,eP g 5,eQ (ZZ ZS s.r.k),eP g 0,eP g 0,eP g 1,eP g 1,eP g 2,eQ (.slice bf s.r.fs.length cf),eQ (ZT #[ZU #[ZZ ZS 1,ZZ ZS 0],ZZ ZS 0]),eQ (ZT #[ZU #[ZZ ZS 1,ZZ ZS 0],ZZ ZS 0]),eQ (ZU #[ZZ ZS 1,ZZ ZS 0]),eQ (ZZ ZS 0),λv u=>∃g2,v=ptr g2/\w.heap.size<=g2/\D5 u g2 [ZZ ZS 0,ZZ ZS 0]] [] 2 (some 22) (.act 24 (.quiet 25 .done)) (.quiet 22 (.act 24 (.quiet 25 .done))) (by kernel_rfl) (by kernel_rfl) (by kernel_rfl) (by kernel_rfl) (λk0 h=>by cases h;kernel_rfl) (λ_ _ d _ _ h=>by cases d<;>exact h) (by rfl) (by rfl) ⟨AK _,AK _,AK _,AK _,AK _,AK _,AK _,AK _,AK _,AK _,AK _,AK _,AK _,AK _,AK _,AK _,AK _,AK _,AK _,AK _,AK _,AK _,AK _,((λ_ _ _ hb h=>by obtain ⟨g2,e1,h1,hB⟩:=h;exact ⟨g2,e1,h1,hB.below hb⟩)),trivial⟩ trivial (by rfl) ?_ ?_ ?_
    ·refine ⟨?_,?_,?_,?_,?_,?_,?_,?_,?_,?_,?_,?_,?_,?_,?_,?_,?_,?_,?_,?_,?_,?_,?_,?_,trivial⟩
     ·exact XXkR9
     ·exact XXkR9
     ·exact XXkR9
     ·exact XXkR9
     ·exact XXkR9
     ·exact XXkR9
     ·exact XXkR9
     ·exact XXkR9
     ·exact XXkR9
     ·exact XXkR9
     ·exact XXkR9
     ·exact XXkR9
     ·exact XXkR9
     ·exact XXkR9
     ·exact XXkR9
     ·exact XXkR9
     ·exact XXkR9
     ·exact XXkR9
     ·exact XXkR9
     ·exact XXlAS
     ·exact XXkR9
     ·exact XXkR9
     ·exact XXkR9
     ·exact XXEhL
    ·intro g1 w2 hb hf;have z5:g1 5= _:=hf.at 20;have z26:g1 26= _:=hf.at 21;have z27:g1 27= _:=hf.at 22;have z3:=hf.at 23;clear hf;obtain ⟨g2,e2,hg2,hB2⟩:=z3;simp only [AU,Ab,CH,CK,CJ];rw [z5,z26,z27,e2];simp only [Ee,Ef,BZ,BY];exact XX4U6
    ·intro k0 hk0 g1 w2 hb hf;cases hk0;have z5:g1 5= _:=hf.at 20;have z26:g1 26= _:=hf.at 21;have z3:=hf.at 23;clear hf;obtain ⟨g2,e2,hg2,hB2⟩:=z3;simp only [AU,Ab,CH,CK,CJ];rw [z5,z26,e2];simp only [Ee,Ef,BZ,BY];refine Eg (by rfl) (ZZ ZS 0) (λ_ _=>by go_simp) ?_;simp only [Ab,CH,CK,CJ];exact XX4U6
   case rest=>
   obtain ⟨g2,rfl,rfl,HB,HG,HG2⟩:=hcut
   have H1:=Bx (H.out.below HB.out);clear HQ;obtain ⟨W0,hW0⟩:∃x,x=wc:=⟨_,rfl⟩;subst hW0;have y0:=HG.out.c 0 _ rfl;have y1:=HG.out.c 1 _ rfl
   have HW:=Bx (finish_any H1.out HO.out)
   go_wp2_with (go_at_call 180;with_reducible refine HW.out.mono ?_;rintro r w3 ⟨rfl,o1,hP,hS⟩);go_ret;exact ⟨rfl,_,_,_,_,_,_,hP,(DP HB.out).trans hS⟩
  ·have tz:¬(n:Int)=0:=by omega
   have tz':((n:Int)==0)=false:=beq_eq_false_iff_ne.2 tz;have e:s.endHead p b=(0,{s with st:=3,left:=n}):=by unfold T.endHead;rw [hD];show (if (0:Int)≠0 then _ else if (1:Int)=2 then _ else if (n:Int)=0 then _ else (0,({s with left:=(n:Int).toNat,st:=3}:T)))= _;rw [if_neg (by decide),if_neg (by decide),if_neg tz,Int.toNat_natCast]
   rw [e];clear hz hD e hvd hle hn;go_enter Tryz.func225,Tryz.ntmps225;go_upto_region 1 with fail
   go_cut [3,4] from 5 to 27 (λu c wx=>∃g2,u=ptr g2/\c=ZZ ZS 0/\Hid (Below w.heap.size w wx)/\Hid (D5 wx g2 [ZZ ZS 1,ZZ ZS (n:Int)])/\Hid (w.heap.size<=g2))
   case first=>
    refine Each.region_float 24 [6,7,8,9,10,11,12,13,14,15,16,17,18,19,20,21,22,23,24,25,5,26,27,3] [eP g 0,eP g 0,eP g 13,eQ (ZZ ZQ (p:Int)),eP g 0,eP g 0,eP g 14,eQ (ZU #[ZZ ZS b.x0,ZZ ZS b.x1,ZZ ZS b.x2,ZZ ZS b.x3,ZZ ZS b.x4,ZZ ZS b.x5,ZZ ZS b.x6,ZZ ZS b.x7,ZW b.ch,ZW b.od]),eP g 0,eP g 0,eP g 1,eP g 5,eQ (ZZ ZS s.r.k),eP g 0,eP g 0,eP g 1,eP g 1,eP g 2,eQ (.slice bf s.r.fs.length cf),eQ (ZT #[ZU #[ZZ ZS 1,ZZ ZS (n:Int)],ZZ ZS 0]),eQ (ZT #[ZU #[ZZ ZS 1,ZZ ZS (n:Int)],ZZ ZS 0]),eQ (ZU #[ZZ ZS 1,ZZ ZS (n:Int)]),eQ (ZZ ZS 0),λv u=>∃g2,v=ptr g2/\w.heap.size<=g2/\D5 u g2 [ZZ ZS 0,ZZ ZS 0]] [] 2 (some 22) (.act 24 (.quiet 25 .done)) (.quiet 22 (.act 24 (.quiet 25 .done))) (by kernel_rfl) (by kernel_rfl) (by kernel_rfl) (by kernel_rfl) (λk0 h=>by cases h;kernel_rfl) (λ_ _ d _ _ h=>by cases d<;>exact h) (by rfl) (by rfl) ⟨AK _,AK _,AK _,AK _,AK _,AK _,AK _,AK _,AK _,AK _,AK _,AK _,AK _,AK _,AK _,AK _,AK _,AK _,AK _,AK _,AK _,AK _,AK _,((λ_ _ _ hb h=>by obtain ⟨g2,e1,h1,hB⟩:=h;exact ⟨g2,e1,h1,hB.below hb⟩)),trivial⟩ trivial (by rfl) ?_ ?_ ?_
    ·refine ⟨?_,?_,?_,?_,?_,?_,?_,?_,?_,?_,?_,?_,?_,?_,?_,?_,?_,?_,?_,?_,?_,?_,?_,?_,trivial⟩
     ·exact XXkR9
     ·exact XXkR9
     ·exact XXkR9
     ·exact XXkR9
     ·exact XXkR9
     ·exact XXkR9
     ·exact XXkR9
     ·exact XXkR9
     ·exact XXkR9
     ·exact XXkR9
     ·exact XXkR9
     ·exact XXkR9
     ·exact XXkR9
     ·exact XXkR9
     ·exact XXkR9
     ·exact XXkR9
     ·exact XXkR9
     ·exact XXkR9
     ·exact XXkR9
     ·exact XXlAS
     ·exact XXkR9
     ·exact XXkR9
     ·exact XXkR9
     ·exact XXEhL
    ·intro g1 w2 hb hf;have z5:g1 5= _:=hf.at 20;have z26:g1 26= _:=hf.at 21;have z27:g1 27= _:=hf.at 22;have z3:=hf.at 23;clear hf;obtain ⟨g2,e2,hg2,hB2⟩:=z3;simp only [AU,Ab,CH,CK,CJ];rw [z5,z26,z27,e2];simp only [Ee,Ef,BZ,BY];exact XXsvP
    ·intro k0 hk0 g1 w2 hb hf;cases hk0;have z5:g1 5= _:=hf.at 20;have z26:g1 26= _:=hf.at 21;have z3:=hf.at 23;clear hf;obtain ⟨g2,e2,hg2,hB2⟩:=z3;simp only [AU,Ab,CH,CK,CJ];rw [z5,z26,e2];simp only [Ee,Ef,BZ,BY];refine Eg (by rfl) (ZZ ZS 0) (λ_ _=>by go_simp) ?_;simp only [Ab,CH,CK,CJ];exact XXsvP
   case rest=>
   obtain ⟨g2,rfl,rfl,HB,HG,HG2⟩:=hcut
   have H1:=Bx (H.out.below HB.out);clear HQ;obtain ⟨W0,hW0⟩:∃x,x=wc:=⟨_,rfl⟩;subst hW0;have y0:=HG.out.c 0 _ rfl;have y1:=HG.out.c 1 _ rfl
   have H2:=Bx ((H1.out.put 12 (ZZ ZS (n:Int)) {s with left:=n} rfl rfl rfl rfl rfl rfl).put 24 (ZZ ZS 3) {s with left:=n,st:=3} rfl rfl rfl rfl rfl rfl)
   have HS2:=Bx ((DP HB.out (L:=blks g q v (.slice bf s.r.fs.length cf) bd t o)).trans ((DS g 12 (ZZ ZS (n:Int)) (by simp)).trans (DS g 24 (ZZ ZS 3) (by simp))));have c12:=H1.out.cs.c12;have z12:=H1.out.marks 12;have c24:=H1.out.cs.c24;have z24:=H1.out.marks 24;go_wp2;go_ret;exact XXCdj
 ·have HZ:=Bx (show∀w2,Below (w.drewN 1).heap.size (w.drewN 1) w2->Calls EW 244 #[ZZ ZQ (p:Int),ZU #[ZZ ZS b.x0,ZZ ZS b.x1,ZZ ZS b.x2,ZZ ZS b.x3,ZZ ZS b.x4,ZZ ZS b.x5,ZZ ZS b.x6,ZZ ZS b.x7,ZW b.ch,ZW b.od],ZZ ZS s.r.k,.slice bf s.r.fs.length cf] w2 λr w'=>r=.returned (ZT #[ZU #[ZZ ZS 0,ZZ ZS 0],ZZ ZS (e:Int)])/\Below w2.heap.size w2 w' from λw2 hb=>by have:=hz w2 hb;rw [hD] at this;exact this);have tz:¬(e:Int)=0:=by omega
  have tz':((e:Int)==0)=false:=beq_eq_false_iff_ne.2 tz;have tz2:((e:Int) != 0)=true:=bne_iff_ne.2 tz;have e1:s.endHead p b=(e,s):=by unfold T.endHead;rw [hD];show (if (e:Int)≠0 then ((e:Int).toNat,s) else _)= _;rw [if_pos tz,Int.toNat_natCast]
  rw [e1];clear hz hD e1 hvd he;go_enter Tryz.func225,Tryz.ntmps225;go_upto_region 1 with fail
  go_cut [3,4] from 5 to 27 (λu c wx=>∃g2,u=ptr g2/\c=ZZ ZS (e:Int)/\Hid (Below w.heap.size w wx)/\Hid (D5 wx g2 [ZZ ZS 0,ZZ ZS 0])/\Hid (w.heap.size<=g2))
  case first=>
   refine Each.region_float 24 [6,7,8,9,10,11,12,13,14,15,16,17,18,19,20,21,22,23,24,25,5,26,27,3] [eP g 0,eP g 0,eP g 13,eQ (ZZ ZQ (p:Int)),eP g 0,eP g 0,eP g 14,eQ (ZU #[ZZ ZS b.x0,ZZ ZS b.x1,ZZ ZS b.x2,ZZ ZS b.x3,ZZ ZS b.x4,ZZ ZS b.x5,ZZ ZS b.x6,ZZ ZS b.x7,ZW b.ch,ZW b.od]),eP g 0,eP g 0,eP g 1,eP g 5,eQ (ZZ ZS s.r.k),eP g 0,eP g 0,eP g 1,eP g 1,eP g 2,eQ (.slice bf s.r.fs.length cf),eQ (ZT #[ZU #[ZZ ZS 0,ZZ ZS 0],ZZ ZS (e:Int)]),eQ (ZT #[ZU #[ZZ ZS 0,ZZ ZS 0],ZZ ZS (e:Int)]),eQ (ZU #[ZZ ZS 0,ZZ ZS 0]),eQ (ZZ ZS (e:Int)),λv u=>∃g2,v=ptr g2/\w.heap.size<=g2/\D5 u g2 [ZZ ZS 0,ZZ ZS 0]] [] 2 (some 22) (.act 24 (.quiet 25 .done)) (.quiet 22 (.act 24 (.quiet 25 .done))) (by kernel_rfl) (by kernel_rfl) (by kernel_rfl) (by kernel_rfl) (λk0 h=>by cases h;kernel_rfl) (λ_ _ d _ _ h=>by cases d<;>exact h) (by rfl) (by rfl) ⟨AK _,AK _,AK _,AK _,AK _,AK _,AK _,AK _,AK _,AK _,AK _,AK _,AK _,AK _,AK _,AK _,AK _,AK _,AK _,AK _,AK _,AK _,AK _,((λ_ _ _ hb h=>by obtain ⟨g2,e1,h1,hB⟩:=h;exact ⟨g2,e1,h1,hB.below hb⟩)),trivial⟩ trivial (by rfl) ?_ ?_ ?_
   ·refine ⟨?_,?_,?_,?_,?_,?_,?_,?_,?_,?_,?_,?_,?_,?_,?_,?_,?_,?_,?_,?_,?_,?_,?_,?_,trivial⟩
    ·exact XXkR9
    ·exact XXkR9
    ·exact XXkR9
    ·exact XXkR9
    ·exact XXkR9
    ·exact XXkR9
    ·exact XXkR9
    ·exact XXkR9
    ·exact XXkR9
    ·exact XXkR9
    ·exact XXkR9
    ·exact XXkR9
    ·exact XXkR9
    ·exact XXkR9
    ·exact XXkR9
    ·exact XXkR9
    ·exact XXkR9
    ·exact XXkR9
    ·exact XXkR9
    ·exact XXlAS
    ·exact XXkR9
    ·exact XXkR9
    ·exact XXkR9
    ·exact XXEhL
   ·intro g1 w2 hb hf;have z5:g1 5= _:=hf.at 20;have z26:g1 26= _:=hf.at 21;have z27:g1 27= _:=hf.at 22;have z3:=hf.at 23;clear hf;obtain ⟨g2,e2,hg2,hB2⟩:=z3;simp only [AU,Ab,CH,CK,CJ];rw [z5,z26,z27,e2];simp only [Ee,Ef,BZ,BY];exact XX0H4
   ·intro k0 hk0 g1 w2 hb hf;cases hk0;have z5:g1 5= _:=hf.at 20;have z26:g1 26= _:=hf.at 21;have z3:=hf.at 23;clear hf;obtain ⟨g2,e2,hg2,hB2⟩:=z3;simp only [AU,Ab,CH,CK,CJ];rw [z5,z26,e2];simp only [Ee,Ef,BZ,BY];refine Eg (by rfl) (ZZ ZS (e:Int)) (λ_ _=>by go_simp) ?_;simp only [Ab,CH,CK,CJ];exact XX0H4
  case rest=>
  obtain ⟨g2,rfl,rfl,HB,HG,HG2⟩:=hcut
  have H1:=Bx (H.out.below HB.out);clear HQ;obtain ⟨W0,hW0⟩:∃x,x=wc:=⟨_,rfl⟩;subst hW0;have y0:=HG.out.c 0 _ rfl;have y1:=HG.out.c 1 _ rfl;go_wp2;go_ret;exact ⟨rfl,_,_,_,_,_,_,H1.out,DP HB.out⟩
theorem XXoqK {P:Prop} (h:P:=by
 refine ⟨_,rfl,?_⟩;refine hK _ _ trivial ?_;clear hK K;simp only [Ab,CH,CK,CJ];refine Tree.assign _ (by rfl) (by rfl) ?_;simp only [Ab,Act.eval,Ag,Cg,BZ,BY,Ds,CH,CK,CJ];refine Ed ?_
 have HP2:=Bx hP;have HS2:=Bx (HS1.out.trans hS);clear hP hS HFI HS1 HFI0;go_wp2;go_ret
 exact ⟨rfl,_,_,_,_,_,_,HP2.out,HS2.out⟩):P:=h
theorem XXCDO {P:Prop} (h:P:=by
 go_ret
 exact ⟨rfl,_,_,_,_,_,_,hP,hS⟩):P:=h
theorem fieldLine_any (hp:p<4294967296) (h3:16<=b.x3/\b.x3<=1048576) (x:ByteArray) (hx:x.size<=5000) (h:PR w B g q v f bd t o p b s) (hl:s.hl<=1000) (hlen:s.r.fs.length<=500) (hsz:∀y∈s.r.fs,y.1.size<=1000000/\y.2.size<=1000000) (hout:s.out.length<=1000000000):Calls EW 204 #[ptr g,ZY x] w λr w'=>
 r=.returned (ZZ ZS (((s.fields p b x.data.toList).1:Nat):Int))/\∃q1 v1 f1 bd1 t1 o1,PR w' B g q1 v1 f1 bd1 t1 o1 p b (s.fields p b x.data.toList).2/\Step (blks g q v f bd t o) (blks g q1 v1 f1 bd1 t1 o1) w w':=by
 rcases CZ x.size with h0 | h0
 ·obtain rfl:=empty_of h0
  have HE:=Bx (endHead_any hp h3 h hlen hsz hout);have e:s.fields p b (⟨#[]⟩:ByteArray).data.toList=s.endHead p b:=rfl;rw [e];clear h h0 hx e hl hlen hsz hout;go_enter Tryz.func204,Tryz.ntmps204
  go_wp2_with (go_at_call 225;with_reducible refine HE.out.mono ?_;rintro r w2 ⟨rfl,q1,v1,f1,bd1,t1,o1,hP,hS⟩);exact XXCDO
 ·have hne:=list_ne h0;have te:=Fd.first_no x h0
  have HQ:=Bx ((h.drew 1).bk);unfold T.fields;rw [if_neg hne]
  have HFI0:=Bx (λw1 (hb:Below w.heap.size w w1)=>addF_any hp x hx b.x1 (h.below hb) hl hsz hlen);clear h hne h0 hl hlen hsz hout hx;go_enter Tryz.func204,Tryz.ntmps204;go_upto_region 3 with fail
  refine Each.region 14 [9,10,11,12,13,14,15,16,17,18,19,20,21,22] [eP g 0,eP g 0,eP g 1,eP g 1,eQ (ZY x),eP g 0,eP g 0,eP g 13,eQ (ZZ ZQ (p:Int)),eP g 0,eP g 0,eP g 14,eP g 15,eQ (ZZ ZS b.x1)] (.act 14 (.quiet 15 .done)) (by kernel_rfl) (by kernel_rfl) (by kernel_rfl) (by kernel_rfl) (λ_ _ d _ _ h=>by cases d<;>exact h) (by rfl) (by rfl) (by repeat first | exact trivial | refine ⟨AK _,?_⟩) ?_ ?_
  ·refine ⟨?_,?_,?_,?_,?_,?_,?_,?_,?_,?_,?_,?_,?_,?_,trivial⟩
   all_goals (refine AP rfl (λev w1 hR hb hh=>?_);have e0:=hR.old 0 rfl;have e1:=hR.old 1 rfl;simp only [Ag,Cg,BY,BZ,Ds] at e0 e1;have q13:=(HQ.out.below hb).c 13 _ rfl;have q15:=(HQ.out.below hb).c 15 _ rfl;exact Each.std)
  intro g1 w2 hb hf;have z12:g1 12= _:=hf.at 3;have z13:g1 13= _:=hf.at 4;have z17:g1 17= _:=hf.at 8;have z22:g1 22= _:=hf.at 13;clear hf;simp only [AU,Ab,CH,CK,CJ];rw [z12,z13,z17,z22];simp only [Ee,Ef,BZ,BY]
  have HS1:=Bx (DP hb (L:=blks g q v f bd t o))
  have HFI:=Bx (HFI0.out _ hb);clear hb HQ
  refine Ec (by rfl) (λK hK=>?_)
  refine Each.oper_enter (g:=226) (args:=#[ZV (some ⟨g,1,none⟩),ZY x,ZZ ZQ (p:Int),ZZ ZS b.x1]) (by go_simp) (HFI.out.mono ?_);rintro r w3 ⟨rfl,f1,hP,hS⟩;exact XXoqK
theorem trailerLine_any (hp:p<4294967296) (x:ByteArray) (hx:x.size<=5000) (h:PR w B g q v f bd t o p b s) (hl:s.bl<=1000) (hlen:s.r.ts.length<=500) (hsz:∀y∈s.r.ts,y.1.size<=1000000/\y.2.size<=1000000) (hout:s.out.length<=1000000000):Calls EW 206 #[ptr g,ZY x] w λr w'=>
 r=.returned (ZZ ZS (((s.trail p b x.data.toList).1:Nat):Int))/\∃q1 v1 f1 bd1 t1 o1,PR w' B g q1 v1 f1 bd1 t1 o1 p b (s.trail p b x.data.toList).2/\Step (blks g q v f bd t o) (blks g q1 v1 f1 bd1 t1 o1) w w':=by
 rcases CZ x.size with h0 | h0
 ·obtain rfl:=empty_of h0
  have HE:=Bx (finish_any h hout);have e:s.trail p b (⟨#[]⟩:ByteArray).data.toList=(0,s.fin):=rfl;rw [e];clear h h0 hx e hl hlen hsz hout;go_enter Tryz.func206,Tryz.ntmps206
  go_wp2_with (go_at_call 180;with_reducible refine HE.out.mono ?_;rintro r w2 ⟨rfl,o1,hP,hS⟩);exact XXCDO
 ·have hne:=list_ne h0;have te:=Fd.first_no x h0
  have HQ:=Bx ((h.drew 1).bk);unfold T.trail;rw [if_neg hne]
  have HFI0:=Bx (λw1 (hb:Below w.heap.size w w1)=>addTR_any hp x hx b.x5 (h.below hb) hl hsz hlen);clear h hne h0 hl hlen hsz hout hx;go_enter Tryz.func206,Tryz.ntmps206;go_upto_region 4 with fail
  refine Each.region 14 [9,10,11,12,13,14,15,16,17,18,19,20,21,22] [eP g 0,eP g 0,eP g 8,eP g 8,eQ (ZY x),eP g 0,eP g 0,eP g 13,eQ (ZZ ZQ (p:Int)),eP g 0,eP g 0,eP g 14,eP g 19,eQ (ZZ ZS b.x5)] (.act 14 (.quiet 15 .done)) (by kernel_rfl) (by kernel_rfl) (by kernel_rfl) (by kernel_rfl) (λ_ _ d _ _ h=>by cases d<;>exact h) (by rfl) (by rfl) (by repeat first | exact trivial | refine ⟨AK _,?_⟩) ?_ ?_
  ·refine ⟨?_,?_,?_,?_,?_,?_,?_,?_,?_,?_,?_,?_,?_,?_,trivial⟩
   all_goals (refine AP rfl (λev w1 hR hb hh=>?_);have e0:=hR.old 0 rfl;have e1:=hR.old 1 rfl;simp only [Ag,Cg,BY,BZ,Ds] at e0 e1;have q13:=(HQ.out.below hb).c 13 _ rfl;have q19:=(HQ.out.below hb).c 19 _ rfl;exact Each.std)
  intro g1 w2 hb hf;have z12:g1 12= _:=hf.at 3;have z13:g1 13= _:=hf.at 4;have z17:g1 17= _:=hf.at 8;have z22:g1 22= _:=hf.at 13;clear hf;simp only [AU,Ab,CH,CK,CJ];rw [z12,z13,z17,z22];simp only [Ee,Ef,BZ,BY]
  have HS1:=Bx (DP hb (L:=blks g q v f bd t o))
  have HFI:=Bx (HFI0.out _ hb);clear hb HQ
  refine Ec (by rfl) (λK hK=>?_)
  refine Each.oper_enter (g:=226) (args:=#[ZV (some ⟨g,8,none⟩),ZY x,ZZ ZQ (p:Int),ZZ ZS b.x5]) (by go_simp) (HFI.out.mono ?_);rintro r w3 ⟨rfl,t1,hP,hS⟩;exact XXoqK
theorem endLine_any (hp:p<4294967296) (hb:b.right=true) (x:ByteArray) (hx:x.size<=4096) (h:PR w B g q v f bd t o p b s) (ok:s.Ok) (hout:s.out.length<=1000000000):Calls EW 182 #[ptr g,ZY x] w λr w'=>
 r=.returned (ZZ ZS (((s.line p b x.data.toList).1:Nat):Int))/\∃q1 v1 f1 bd1 t1 o1,PR w' B g q1 v1 f1 bd1 t1 o1 p b (s.line p b x.data.toList).2/\Step (blks g q v f bd t o) (blks g q1 v1 f1 bd1 t1 o1) w w':=by
 have e3:=(Bd.edges hb).2.2.2.1;have c24:=h.cs.c24;have hh:=ok.hl;have hbl:=ok.bl;have hfl:=ok.fsl;have htl:=ok.tsl;have hbd:=ok.body;have hfs:∀y∈s.r.fs,y.1.size<=1000000/\y.2.size<=1000000:=λy hy=>by have:=ok.fss y hy;omega
 have hts:∀y∈s.r.ts,y.1.size<=1000000/\y.2.size<=1000000:=λy hy=>by have:=ok.tss y hy;omega
 unfold T.line;by_cases h1:s.st=1
 ·rw [if_pos h1];rw [h1] at c24
  have HA:=Bx (firstLine_any hp x (by omega) h);clear h ok h1 hx hfs hts hh hbl hfl htl hbd hout e3;go_enter Tryz.func182,Tryz.ntmps182
  go_wp2_with (go_at_call 203;with_reducible refine HA.out.mono ?_;rintro r w2 ⟨rfl,q1,v1,f1,bd1,t1,o1,hP,hS⟩);exact XXCDO
 ·rw [if_neg h1];by_cases h2:s.st=2
  ·rw [if_pos h2];rw [h2] at c24
   have HA:=Bx (fieldLine_any hp e3 x (by omega) h (by omega) (by omega) hfs hout);clear h ok h1 h2 hx hfs hts hh hbl hfl htl hbd hout e3;go_enter Tryz.func182,Tryz.ntmps182
   go_wp2_with (go_at_call 204;with_reducible refine HA.out.mono ?_;rintro r w2 ⟨rfl,q1,v1,f1,bd1,t1,o1,hP,hS⟩);exact XXCDO
  ·rw [if_neg h2];by_cases h4:s.st=4
   ·rw [if_pos h4];rw [h4] at c24
    have HA:=Bx (sizeLine_any hp e3 x (by omega) h (by omega));clear h ok h1 h2 h4 hx hfs hts hh hbl hfl htl hbd hout e3;go_enter Tryz.func182,Tryz.ntmps182
    go_wp2_with (go_at_call 205;with_reducible refine HA.out.mono ?_;rintro r w2 ⟨rfl,q1,v1,f1,bd1,t1,o1,hP,hS⟩);exact XXCDO
   ·rw [if_neg h4];by_cases h7:s.st=7
    ·rw [if_pos h7];rw [h7] at c24
     have HA:=Bx (trailerLine_any hp x (by omega) h (by omega) (by omega) hts hout);clear h ok h1 h2 h4 h7 hx hfs hts hh hbl hfl htl hbd hout e3;go_enter Tryz.func182,Tryz.ntmps182
     go_wp2_with (go_at_call 206;with_reducible refine HA.out.mono ?_;rintro r w2 ⟨rfl,q1,v1,f1,bd1,t1,o1,hP,hS⟩);exact XXCDO
    ·rw [if_neg h7]
     have t1:((s.st:Int)==1)=false:=beq_eq_false_iff_ne.2 (by omega)
     have t2:((s.st:Int)==2)=false:=beq_eq_false_iff_ne.2 (by omega)
     have t4:((s.st:Int)==4)=false:=beq_eq_false_iff_ne.2 (by omega)
     have t7:((s.st:Int)==7)=false:=beq_eq_false_iff_ne.2 (by omega);have m1:¬(s.st:Int)=1:=by omega
     have m2:¬(s.st:Int)=2:=by omega
     have m4:¬(s.st:Int)=4:=by omega
     have m7:¬(s.st:Int)=7:=by omega
     have c14:=h.cs.c14
     have HA:=Bx (enter_any hp h 4 4 rfl b.x0);clear h ok hx hfs hts hh hbl hfl htl hbd hout e3;go_enter Tryz.func182,Tryz.ntmps182
     go_wp2_with (go_at_call 68;with_reducible refine HA.out.mono ?_;rintro r w2 ⟨rfl,q1,hP,hS⟩);exact XXCDO
end
end Go.Proofs.YtdfabddnpgjepaaGreatDoor.Pg
