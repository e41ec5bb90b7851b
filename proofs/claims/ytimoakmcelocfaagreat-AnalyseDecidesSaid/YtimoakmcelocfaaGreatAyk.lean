import Derived.Test.YtimoakmcelocfaaGreatAyj
namespace Go.Proofs.YtimoakmcelocfaaGreat.Par
open Go.RowKit Base Txt Mem
section code
set_option maxHeartbeats 4000000
set_option maxRecDepth 20000
attribute [local go_sem] Base.some_undef
variable {w:World} {B:Zone} {g q:Nat} {v f bd t o:Value} {p:Nat} {b:Bd} {s:S}
theorem fail_at (h:PR w B g q v f bd t o p b s) (e:Nat) (x:Int) (hx:x=(e:Int)):Calls Tryz.prog 56 #[ptr g,.int .i64 x] w fun r w'=>
 r=.returned (.tuple #[])∧PR w' B g q v nil nil nil o p b (s.fail e)∧Step (blks g q v f bd t o) (blks g q v nil nil nil o) w w':=by
 subst hx;exact fail_any h e
theorem cells_last (ini:List Fld) (a:Fld):(cells (ini ++ [a]))[ini.length*2]?=some (.string a.1)∧(cells (ini ++ [a]))[ini.length*2+1]?=some (.string a.2):=by
 have e:(cells ini).length=ini.length*2:=cells_length ini;have e2:cells [a]= [.string a.1,.string a.2]:=by simp [cells]
 rw [cells_append,e2];refine ⟨?_,?_⟩
 ·rw [List.getElem?_append_right (by omega),e,Nat.sub_self];rfl
 ·rw [List.getElem?_append_right (by omega),e,show ini.length*2+1-ini.length*2=1 by omega];rfl
theorem cells_put (ini:List Fld) (a c:Fld):((cells (ini ++ [a])).set (ini.length*2) (.string c.1)).set (ini.length*2+1) (.string c.2)=cells (ini ++ [c]):=by
 have e:(cells ini).length=ini.length*2:=cells_length ini;have e2:∀d:Fld,cells [d]= [.string d.1,.string d.2]:=fun d=>by simp [cells]
 rw [cells_append,cells_append,e2,e2,List.set_append_right _ _ (by omega),e,Nat.sub_self,List.set_append_right _ _ (by omega),e,show ini.length*2+1-ini.length*2=1 by omega];rfl
theorem fieldF_any (hp:p<4294967296) (x:ByteArray) (hx:x.size≤5000) (most:Int) (h:PR w B g q v f bd t o p b s) (hl:s.lines≤1000) (hsz:∀y∈s.r.fs,y.1.size≤1000000∧y.2.size≤1000000) (hlen:s.r.fs.length≤500) :
 Calls Tryz.prog 82 #[ptr g,f,.string x,.int .i64 most] w fun r w'=>
  match fieldV p s.lines s.r.fs x.data.toList most with
  | .inl e=>r=.returned nil∧PR w' B g q v nil nil nil o p b (S.fail {s with lines:=s.lines+1} e)∧Step (blks g q v f bd t o) (blks g q v nil nil nil o) w w'
  | .inr l=>∃f',r=.returned f'∧w'.heap[g]?=some (.cells (pcells p b {s with lines:=s.lines+1} q f bd t o).toArray 59 (0,0))∧Own w' B g q v f' bd t o p s.rd l s.r.body s.r.ts s.out∧Step (blks g q v f bd t o) (blks g q v f' bd t o) w w':=by
 obtain ⟨a1,a2⟩:=Rec.wraps ((s.lines:Int)+1) ⟨by omega,by omega⟩
 have H1:=Lib.hid (h.put 20 (.int .i64 ((s.lines:Int)+1)) {s with lines:=s.lines+1} rfl rfl rfl rfl rfl rfl)
 have HS1:=Lib.hid (Step.set (w:=w) (L:=blks g q v f bd t o) g 20 (.int .i64 ((s.lines:Int)+1)) (by simp));have c20:=h.cs.c20;have z20:=h.marks 20;have HSZ:=Lib.hid hsz;have HLEN:=Lib.hid hlen;clear hsz hlen
 by_cases hm:most<((s.lines+1:Nat):Int)
 ·have e:fieldV p s.lines s.r.fs x.data.toList most=.inl 431:=by unfold fieldV;rw [if_pos hm]
  rw [e];have t0:most<(s.lines:Int)+1:=by omega
  have HFA:=Lib.hid (fail_at H1.out 431 431 rfl);clear e hm;go_enter Tryz.func82,Tryz.ntmps82
  go_wp2_with (go_at_call 56;with_reducible refine HFA.out.mono ?_;rintro r w2 ⟨rfl,hP,hS⟩);go_ret;exact ⟨rfl,hP,HS1.out.trans hS⟩
 ·have t0:¬most<(s.lines:Int)+1:=by omega
  obtain ⟨bo,co,eo, -⟩:=Ln.own_slice h.own.F;have hgo:=fun w=>Fd.rgoes_any x p hp w
  have HP:=Lib.hid (fun w=>Fd.rparse_any x p hp w (by omega));have HSZx:=Lib.hid hx;have hnn:(s.r.fs.length:Int)≤500:=by have:=HLEN.out;omega
  subst eo;clear h hl hx;by_cases hj:(Fd.goes p x.data.toList && !s.r.fs.isEmpty)=true
  ·simp only [Bool.and_eq_true,Bool.not_eq_true',List.isEmpty_eq_false_iff] at hj;obtain ⟨hg,hne⟩:=hj;rw [hg] at hgo;have HGo:=Lib.hid hgo;obtain ⟨ini,last,el⟩:∃ini last,s.r.fs=ini ++ [last]:=⟨_,_,(List.dropLast_concat_getLast hne).symm⟩;have hn1:s.r.fs.length=ini.length+1:=by rw [el];simp
   have e:fieldV p s.lines s.r.fs x.data.toList most=.inr (ini ++ [joinF last x.data.toList]):=by
    unfold fieldV;have e1:(Fd.goes p x.data.toList && !s.r.fs.isEmpty)=true:=by rw [hg,el];simp
    rw [if_neg hm,if_pos e1,el];simp
   rw [e]
   obtain ⟨gf,cf,hform,hgl,hgf⟩:=H1.out.own.F.form (by show 0<s.r.fs.length;omega);simp only [Value.slice.injEq,true_and] at hform;obtain ⟨rfl,rfl⟩:=hform
   have hq0:=(H1.out.own.F.cellAt (ini.length*2) (by show ini.length*2<s.r.fs.length*2;omega)).trans (show (cells s.r.fs)[ini.length*2]?=some (.string last.1) by rw [el];exact (cells_last ini last).1)
   have hq1:=(H1.out.own.F.cellAt (ini.length*2+1) (by show ini.length*2+1<s.r.fs.length*2;omega)).trans (show (cells s.r.fs)[ini.length*2+1]?=some (.string last.2) by rw [el];exact (cells_last ini last).2)
   have hz0:=H1.out.own.F.frozenAt (ini.length*2);have hz1:=H1.out.own.F.frozenAt (ini.length*2+1)
   have HJ:=Lib.hid (show∀w,Calls Tryz.prog 93 #[.agg #[.string last.1,.string last.2],.string x] w fun e w'=>e=.returned (.agg #[.string last.1,.string (ba (Fd.joined last.2.data.toList x.data.toList))])∧Below w.heap.size w w' from
    fun w=>Fd.rjoin_any last.1 last.2 x w (by have:=HSZx.out;omega) (by have:=(HSZ.out last (by rw [el];simp)).2;omega))
   obtain ⟨k,hk⟩:∃k,ini.length=k:=⟨_,rfl⟩;have HK:=Lib.hid hk;rw [hk] at hn1 hq0 hq1 hz0 hz1;have t1:(0:Int)<(s.r.fs.length:Int):=by omega
   have i1:(k:Int)<(s.r.fs.length:Int):=by omega
   obtain ⟨b1,b2⟩:=Rec.wraps ((s.r.fs.length:Int)-1) ⟨by omega,by omega⟩;have b3:(s.r.fs.length:Int)-1=(k:Int):=by omega
   rw [b3] at b1 b2;have HEL:=Lib.hid el;have HN1:=Lib.hid hn1;have HGL:=Lib.hid hgl;have HQ0:=Lib.hid hq0;have HQ1:=Lib.hid hq1;have HGF:=Lib.hid hgf;have HZ0:=Lib.hid hz0;have HZ1:=Lib.hid hz1;clear hne e hk hnn el hn1 hg hgo hm hgl;go_enter Tryz.func82,Tryz.ntmps82;go_upto_region 5 with fail
   generalize w.setCell ⟨g,20,none⟩ (.int .i64 ((s.lines:Int)+1))=W1 at *;clear c20 z20 a1 a2 t0;have c0:=H1.out.cs.c0
   go_wp2_with (first
    |(go_at_call 93;with_reducible refine (HJ.out _).mono ?_;rintro r w3 ⟨rfl,hb3⟩
      have HB3:=Lib.hid hb3;have y0:=(hb3.cell (p:=⟨gf,k*2,none⟩) HGF.out).trans HQ0.out;have y1:=(hb3.cell (p:=⟨gf,k*2+1,none⟩) HGF.out).trans HQ1.out;have x0:=(hb3.frozen (p:=⟨gf,k*2,none⟩) HGF.out).trans HZ0.out;have x1:=(hb3.frozen (p:=⟨gf,k*2+1,none⟩) HGF.out).trans HZ1.out;clear hb3)
    |(go_at_call 92;with_reducible refine (HGo.out _).mono ?_;rintro r w2 ⟨rfl,hw⟩;rw [hw];clear hw))
   go_ret;have h3:=H1.out.below HB3.out;have ho:(Value.slice (some ⟨gf,0,none⟩) s.r.fs.length co).ownBlock=some gf:=by simp [Value.ownBlock]
   have hk3:Keeps [(Value.slice (some ⟨gf,0,none⟩) s.r.fs.length co).ownBlock] w3 ((w3.setCell ⟨gf,k*2,none⟩ (.string last.1)).setCell ⟨gf,k*2+1,none⟩ (.string (ba (Fd.joined last.2.data.toList x.data.toList)))):=
    (Keeps.set gf (k*2) _ (by rw [ho];simp)).trans (Keeps.set gf (k*2+1) _ (by rw [ho];simp)) Of.refl
   have hl3:(ini ++ [joinF last x.data.toList]).length=s.r.fs.length:=by rw [HEL.out];simp
   have hr3:=((h3.own.F.stored (k*2) (.string last.1)).1.stored (k*2+1) (.string (ba (Fd.joined last.2.data.toList x.data.toList)))).1
   obtain ⟨ho3,hs3⟩:=h3.own.setF (f':=.slice (some ⟨gf,0,none⟩) s.r.fs.length co) (fs':=ini ++ [joinF last x.data.toList]) hk3 (by
    rw [hl3,←cells_put ini last (joinF last x.data.toList),HK.out];have e:cells (ini ++ [last])=cells s.r.fs:=by rw [HEL.out]
    rw [e];exact hr3) (.inl rfl)
   have hrow:((w3.setCell ⟨gf,k*2,none⟩ (.string last.1)).setCell ⟨gf,k*2+1,none⟩ (.string (ba (Fd.joined last.2.data.toList x.data.toList)))).heap[g]?= _:=hk3.row h3.row (fun hm=>by
    have e:some g=some gf:=by rw [←ho];simpa using hm
    exact h3.own.lone.ne (i:=0) (j:=3) rfl (by decide) (by rw [e,←ho];rfl))
   exact ⟨_,rfl,hrow,ho3,HS1.out.trans ((Step.of_below HB3.out).trans hs3)⟩
  ·have hgt:Fd.goes p x.data.toList=false∨Fd.goes p x.data.toList=true∧¬(0:Int)<(s.r.fs.length:Int):=by
    cases hg:Fd.goes p x.data.toList with
    | false=>exact .inl rfl
    | true=>
      refine .inr ⟨rfl,?_⟩;rw [hg] at hj;have:s.r.fs= []:=by simpa using hj
      rw [this];simp
   have hp:=fun w=>Fd.rparse_any x p hp w (by have:=HSZx.out;omega)
   have HFA:=Lib.hid (fun w2 (hb:Below (w.setCell ⟨g,20,none⟩ (.int .i64 ((s.lines:Int)+1))).heap.size (w.setCell ⟨g,20,none⟩ (.int .i64 ((s.lines:Int)+1))) w2)=>fail_at (H1.out.below hb) 400 400 rfl);obtain ⟨iF,hi,hz0,hz1,hz2⟩:=info_parts field_info;have I1:=Lib.hid hi;have I2:=Lib.hid hz0;have I3:=Lib.hid hz1;have I4:=Lib.hid hz2;clear hi hz0 hz1 hz2 HP;rcases hpar:Fd.parse (Fd.clOf p) x.data.toList with _ | _ | ⟨n,vv⟩
   ·have e:fieldV p s.lines s.r.fs x.data.toList most=.inl 400:=by unfold fieldV;rw [if_neg hm,if_neg hj,hpar]
    rw [e];rw [hpar] at hp;simp only [Fd.rv,Fd.fv] at hp;have HP:=Lib.hid hp;clear e hpar hp hm hj hnn;rcases hgt with hg | ⟨hg,t1⟩
    ·rw [hg] at hgo;have HGo:=Lib.hid hgo;clear hgo hg;go_enter Tryz.func82,Tryz.ntmps82;go_upto_region 5 with fail
     generalize w.setCell ⟨g,20,none⟩ (.int .i64 ((s.lines:Int)+1))=W1 at *;clear c20 z20 a1 a2 t0;have c0:=H1.out.cs.c0
     go_wp2_with (first
      |(go_at_call 56;with_reducible refine (HFA.out _ (HB3.out.alloc HB3.out.size (.cells #[.string ⟨#[]⟩,.string ⟨#[]⟩] 106))).mono ?_;rintro r w4 ⟨rfl,hP,hS⟩)
      |(go_at_call 94;with_reducible refine (HP.out _).mono ?_;rintro r w3 ⟨rfl,hb3⟩
        have HB3:=Lib.hid hb3;clear hb3)
      |(go_at_call 92;with_reducible refine (HGo.out _).mono ?_;rintro r w2 ⟨rfl,hw⟩;rw [hw];clear hw))
     go_ret;exact ⟨rfl,hP,HS1.out.trans ((Step.of_below (HB3.out.alloc HB3.out.size (.cells #[.string ⟨#[]⟩,.string ⟨#[]⟩] 106))).trans hS)⟩
    ·rw [hg] at hgo;have HGo:=Lib.hid hgo;clear hgo hg;go_enter Tryz.func82,Tryz.ntmps82;go_upto_region 5 with fail
     generalize w.setCell ⟨g,20,none⟩ (.int .i64 ((s.lines:Int)+1))=W1 at *;clear c20 z20 a1 a2 t0;have c0:=H1.out.cs.c0
     go_wp2_with (first
      |(go_at_call 56;with_reducible refine (HFA.out _ (HB3.out.alloc HB3.out.size (.cells #[.string ⟨#[]⟩,.string ⟨#[]⟩] 106))).mono ?_;rintro r w4 ⟨rfl,hP,hS⟩)
      |(go_at_call 94;with_reducible refine (HP.out _).mono ?_;rintro r w3 ⟨rfl,hb3⟩
        have HB3:=Lib.hid hb3;clear hb3)
      |(go_at_call 92;with_reducible refine (HGo.out _).mono ?_;rintro r w2 ⟨rfl,hw⟩;rw [hw];clear hw))
     go_ret;exact ⟨rfl,hP,HS1.out.trans ((Step.of_below (HB3.out.alloc HB3.out.size (.cells #[.string ⟨#[]⟩,.string ⟨#[]⟩] 106))).trans hS)⟩
   ·have e:fieldV p s.lines s.r.fs x.data.toList most=.inr s.r.fs:=by unfold fieldV;rw [if_neg hm,if_neg hj,hpar]
    rw [e];rw [hpar] at hp;simp only [Fd.rv,Fd.fv] at hp;have HP:=Lib.hid hp;clear e hpar hp hm hj hnn;rcases hgt with hg | ⟨hg,t1⟩
    ·rw [hg] at hgo;have HGo:=Lib.hid hgo;clear hgo hg;go_enter Tryz.func82,Tryz.ntmps82;go_upto_region 5 with fail
     generalize w.setCell ⟨g,20,none⟩ (.int .i64 ((s.lines:Int)+1))=W1 at *;clear c20 z20 a1 a2 t0;have c0:=H1.out.cs.c0
     go_wp2_with (first
      |(go_at_call 94;with_reducible refine (HP.out _).mono ?_;rintro r w3 ⟨rfl,hb3⟩
        have HB3:=Lib.hid hb3;clear hb3)
      |(go_at_call 92;with_reducible refine (HGo.out _).mono ?_;rintro r w2 ⟨rfl,hw⟩;rw [hw];clear hw))
     go_ret
     have h4:=H1.out.below (HB3.out.alloc HB3.out.size (.cells #[.string ⟨#[]⟩,.string ⟨#[]⟩] 106));exact ⟨_,rfl,h4.row,h4.own,HS1.out.trans (Step.of_below (HB3.out.alloc HB3.out.size (.cells #[.string ⟨#[]⟩,.string ⟨#[]⟩] 106)))⟩
    ·rw [hg] at hgo;have HGo:=Lib.hid hgo;clear hgo hg;go_enter Tryz.func82,Tryz.ntmps82;go_upto_region 5 with fail
     generalize w.setCell ⟨g,20,none⟩ (.int .i64 ((s.lines:Int)+1))=W1 at *;clear c20 z20 a1 a2 t0;have c0:=H1.out.cs.c0
     go_wp2_with (first
      |(go_at_call 94;with_reducible refine (HP.out _).mono ?_;rintro r w3 ⟨rfl,hb3⟩
        have HB3:=Lib.hid hb3;clear hb3)
      |(go_at_call 92;with_reducible refine (HGo.out _).mono ?_;rintro r w2 ⟨rfl,hw⟩;rw [hw];clear hw))
     go_ret
     have h4:=H1.out.below (HB3.out.alloc HB3.out.size (.cells #[.string ⟨#[]⟩,.string ⟨#[]⟩] 106));exact ⟨_,rfl,h4.row,h4.own,HS1.out.trans (Step.of_below (HB3.out.alloc HB3.out.size (.cells #[.string ⟨#[]⟩,.string ⟨#[]⟩] 106)))⟩
   ·have e:fieldV p s.lines s.r.fs x.data.toList most=.inr (s.r.fs ++ [(ba n,ba vv)]):=by unfold fieldV;rw [if_neg hm,if_neg hj,hpar]
    rw [e];rw [hpar] at hp;simp only [Fd.rv,Fd.fv] at hp;have HP:=Lib.hid hp;clear e hpar hp hm hj hnn;rcases hgt with hg | ⟨hg,t1⟩
    ·rw [hg] at hgo;have HGo:=Lib.hid hgo;clear hgo hg;go_enter Tryz.func82,Tryz.ntmps82;go_upto_region 5 with fail
     generalize w.setCell ⟨g,20,none⟩ (.int .i64 ((s.lines:Int)+1))=W1 at *;clear c20 z20 a1 a2 t0;have c0:=H1.out.cs.c0
     go_wp2_with (first
      |(at_builtin;refine App.wpList_append_list _ rfl _ _ 55 rfl B 106 iF (.agg #[.string ByteArray.empty,.string ByteArray.empty]) 2 32 Tryz.underlying55 I1.out I2.out I3.out I4.out rfl (by decide) (.slice bo s.r.fs.length co) s.r.fs.length (cells s.r.fs) rfl ((H1.out.below (HB3.out.alloc HB3.out.size (.cells #[.string (ba n),.string (ba vv)] 106))).own.F.alloc (.cells #[.string (ba n),.string (ba vv)] 106)) (some ⟨w3.heap.size+1,0,none⟩) 1 1 [.string (ba n),.string (ba vv)] rfl rfl (fun _=>⟨w3.heap.size+1,0,rfl,fun j u hu=>by rw [Nat.zero_add];exact (Rec.Bk.new (w3.alloc (.cells #[.string (ba n),.string (ba vv)] 106)) (w3.heap.size+1) (by simp) 106 [.string (ba n),.string (ba vv)]).c j u hu⟩) (by intro u hu;rcases (by simpa using hu:u=.string (ba n)∨u=.string (ba vv)) with rfl | rfl<;>rfl) (by have:=HLEN.out;unfold maxLen;omega) (by have:=HLEN.out;omega) (by have:=(H1.out.below (HB3.out.alloc HB3.out.size (.cells #[.string (ba n),.string (ba vv)] 106))).own.lt;have:=H1.out.own.ge;simp at *;omega) ?_;intro v2 w5 hO5 hgr5 _ hor5;have HO5:=Lib.hid hO5;have HG5:=Lib.hid hgr5;have HR5:=Lib.hid hor5;clear hO5 hgr5 hor5)
      |(go_at_call 94;with_reducible refine (HP.out _).mono ?_;rintro r w3 ⟨rfl,hb3⟩
        have HB3:=Lib.hid hb3;clear hb3)
      |(go_at_call 92;with_reducible refine (HGo.out _).mono ?_;rintro r w2 ⟨rfl,hw⟩;rw [hw];clear hw))
     go_ret
     have hb4:=(HB3.out.alloc HB3.out.size (.cells #[.string (ba n),.string (ba vv)] 106))
     have hb5:=hb4.alloc hb4.size (.cells #[.string (ba n),.string (ba vv)] 106);have h4:=H1.out.below hb5;have hl:(s.r.fs ++ [(ba n,ba vv)]).length=s.r.fs.length+1:=by simp
     have hk5:Keeps [(Value.slice bo s.r.fs.length co).ownBlock] ((w3.alloc (.cells #[.string (ba n),.string (ba vv)] 106)).alloc (.cells #[.string (ba n),.string (ba vv)] 106)) w5:=Keeps.grown HG5.out fun k e=>by rw [e];exact List.mem_singleton.2 rfl
     obtain ⟨ho5,hs5⟩:=h4.own.setF (f':=v2) (fs':=s.r.fs ++ [(ba n,ba vv)]) hk5 (by rw [hl,cells_append];exact HO5.out) (by
      rcases HR5.out with e | e
      ·exact .inl e
      ·exact .inr ⟨_,e,Nat.le_refl _⟩)
     have hrow:w5.heap[g]?= _:=hk5.row h4.row (fun hm=>by
      have e:some g=(Value.slice bo s.r.fs.length co).ownBlock:=by simpa using hm
      exact h4.own.lone.ne (i:=0) (j:=3) rfl (by decide) (by rw [e];rfl))
     exact ⟨_,rfl,hrow,ho5,HS1.out.trans ((Step.of_below hb5).trans hs5)⟩
    ·rw [hg] at hgo;have HGo:=Lib.hid hgo;clear hgo hg;go_enter Tryz.func82,Tryz.ntmps82;go_upto_region 5 with fail
     generalize w.setCell ⟨g,20,none⟩ (.int .i64 ((s.lines:Int)+1))=W1 at *;clear c20 z20 a1 a2 t0;have c0:=H1.out.cs.c0
     go_wp2_with (first
      |(at_builtin;refine App.wpList_append_list _ rfl _ _ 55 rfl B 106 iF (.agg #[.string ByteArray.empty,.string ByteArray.empty]) 2 32 Tryz.underlying55 I1.out I2.out I3.out I4.out rfl (by decide) (.slice bo s.r.fs.length co) s.r.fs.length (cells s.r.fs) rfl ((H1.out.below (HB3.out.alloc HB3.out.size (.cells #[.string (ba n),.string (ba vv)] 106))).own.F.alloc (.cells #[.string (ba n),.string (ba vv)] 106)) (some ⟨w3.heap.size+1,0,none⟩) 1 1 [.string (ba n),.string (ba vv)] rfl rfl (fun _=>⟨w3.heap.size+1,0,rfl,fun j u hu=>by rw [Nat.zero_add];exact (Rec.Bk.new (w3.alloc (.cells #[.string (ba n),.string (ba vv)] 106)) (w3.heap.size+1) (by simp) 106 [.string (ba n),.string (ba vv)]).c j u hu⟩) (by intro u hu;rcases (by simpa using hu:u=.string (ba n)∨u=.string (ba vv)) with rfl | rfl<;>rfl) (by have:=HLEN.out;unfold maxLen;omega) (by have:=HLEN.out;omega) (by have:=(H1.out.below (HB3.out.alloc HB3.out.size (.cells #[.string (ba n),.string (ba vv)] 106))).own.lt;have:=H1.out.own.ge;simp at *;omega) ?_;intro v2 w5 hO5 hgr5 _ hor5;have HO5:=Lib.hid hO5;have HG5:=Lib.hid hgr5;have HR5:=Lib.hid hor5;clear hO5 hgr5 hor5)
      |(go_at_call 94;with_reducible refine (HP.out _).mono ?_;rintro r w3 ⟨rfl,hb3⟩
        have HB3:=Lib.hid hb3;clear hb3)
      |(go_at_call 92;with_reducible refine (HGo.out _).mono ?_;rintro r w2 ⟨rfl,hw⟩;rw [hw];clear hw))
     go_ret
     have hb4:=(HB3.out.alloc HB3.out.size (.cells #[.string (ba n),.string (ba vv)] 106))
     have hb5:=hb4.alloc hb4.size (.cells #[.string (ba n),.string (ba vv)] 106);have h4:=H1.out.below hb5;have hl:(s.r.fs ++ [(ba n,ba vv)]).length=s.r.fs.length+1:=by simp
     have hk5:Keeps [(Value.slice bo s.r.fs.length co).ownBlock] ((w3.alloc (.cells #[.string (ba n),.string (ba vv)] 106)).alloc (.cells #[.string (ba n),.string (ba vv)] 106)) w5:=Keeps.grown HG5.out fun k e=>by rw [e];exact List.mem_singleton.2 rfl
     obtain ⟨ho5,hs5⟩:=h4.own.setF (f':=v2) (fs':=s.r.fs ++ [(ba n,ba vv)]) hk5 (by rw [hl,cells_append];exact HO5.out) (by
      rcases HR5.out with e | e
      ·exact .inl e
      ·exact .inr ⟨_,e,Nat.le_refl _⟩)
     have hrow:w5.heap[g]?= _:=hk5.row h4.row (fun hm=>by
      have e:some g=(Value.slice bo s.r.fs.length co).ownBlock:=by simpa using hm
      exact h4.own.lone.ne (i:=0) (j:=3) rfl (by decide) (by rw [e];rfl))
     exact ⟨_,rfl,hrow,ho5,HS1.out.trans ((Step.of_below hb5).trans hs5)⟩
theorem fieldT_any (hp:p<4294967296) (x:ByteArray) (hx:x.size≤5000) (most:Int) (h:PR w B g q v f bd t o p b s) (hl:s.lines≤1000) (hsz:∀y∈s.r.ts,y.1.size≤1000000∧y.2.size≤1000000) (hlen:s.r.ts.length≤500) :
 Calls Tryz.prog 82 #[ptr g,t,.string x,.int .i64 most] w fun r w'=>
  match fieldV p s.lines s.r.ts x.data.toList most with
  | .inl e=>r=.returned nil∧PR w' B g q v nil nil nil o p b (S.fail {s with lines:=s.lines+1} e)∧Step (blks g q v f bd t o) (blks g q v nil nil nil o) w w'
  | .inr l=>∃t',r=.returned t'∧w'.heap[g]?=some (.cells (pcells p b {s with lines:=s.lines+1} q f bd t o).toArray 59 (0,0))∧Own w' B g q v f bd t' o p s.rd s.r.fs s.r.body l s.out∧Step (blks g q v f bd t o) (blks g q v f bd t' o) w w':=by
 obtain ⟨a1,a2⟩:=Rec.wraps ((s.lines:Int)+1) ⟨by omega,by omega⟩
 have H1:=Lib.hid (h.put 20 (.int .i64 ((s.lines:Int)+1)) {s with lines:=s.lines+1} rfl rfl rfl rfl rfl rfl)
 have HS1:=Lib.hid (Step.set (w:=w) (L:=blks g q v f bd t o) g 20 (.int .i64 ((s.lines:Int)+1)) (by simp));have c20:=h.cs.c20;have z20:=h.marks 20;have HSZ:=Lib.hid hsz;have HLEN:=Lib.hid hlen;clear hsz hlen
 by_cases hm:most<((s.lines+1:Nat):Int)
 ·have e:fieldV p s.lines s.r.ts x.data.toList most=.inl 431:=by unfold fieldV;rw [if_pos hm]
  rw [e];have t0:most<(s.lines:Int)+1:=by omega
  have HFA:=Lib.hid (fail_at H1.out 431 431 rfl);clear e hm;go_enter Tryz.func82,Tryz.ntmps82
  go_wp2_with (go_at_call 56;with_reducible refine HFA.out.mono ?_;rintro r w2 ⟨rfl,hP,hS⟩);go_ret;exact ⟨rfl,hP,HS1.out.trans hS⟩
 ·have t0:¬most<(s.lines:Int)+1:=by omega
  obtain ⟨bo,co,eo, -⟩:=Ln.own_slice h.own.T;have hgo:=fun w=>Fd.rgoes_any x p hp w
  have HP:=Lib.hid (fun w=>Fd.rparse_any x p hp w (by omega));have HSZx:=Lib.hid hx;have hnn:(s.r.ts.length:Int)≤500:=by have:=HLEN.out;omega
  subst eo;clear h hl hx;by_cases hj:(Fd.goes p x.data.toList && !s.r.ts.isEmpty)=true
  ·simp only [Bool.and_eq_true,Bool.not_eq_true',List.isEmpty_eq_false_iff] at hj;obtain ⟨hg,hne⟩:=hj;rw [hg] at hgo;have HGo:=Lib.hid hgo;obtain ⟨ini,last,el⟩:∃ini last,s.r.ts=ini ++ [last]:=⟨_,_,(List.dropLast_concat_getLast hne).symm⟩;have hn1:s.r.ts.length=ini.length+1:=by rw [el];simp
   have e:fieldV p s.lines s.r.ts x.data.toList most=.inr (ini ++ [joinF last x.data.toList]):=by
    unfold fieldV;have e1:(Fd.goes p x.data.toList && !s.r.ts.isEmpty)=true:=by rw [hg,el];simp
    rw [if_neg hm,if_pos e1,el];simp
   rw [e]
   obtain ⟨gf,cf,hform,hgl,hgf⟩:=H1.out.own.T.form (by show 0<s.r.ts.length;omega);simp only [Value.slice.injEq,true_and] at hform;obtain ⟨rfl,rfl⟩:=hform
   have hq0:=(H1.out.own.T.cellAt (ini.length*2) (by show ini.length*2<s.r.ts.length*2;omega)).trans (show (cells s.r.ts)[ini.length*2]?=some (.string last.1) by rw [el];exact (cells_last ini last).1)
   have hq1:=(H1.out.own.T.cellAt (ini.length*2+1) (by show ini.length*2+1<s.r.ts.length*2;omega)).trans (show (cells s.r.ts)[ini.length*2+1]?=some (.string last.2) by rw [el];exact (cells_last ini last).2)
   have hz0:=H1.out.own.T.frozenAt (ini.length*2);have hz1:=H1.out.own.T.frozenAt (ini.length*2+1)
   have HJ:=Lib.hid (show∀w,Calls Tryz.prog 93 #[.agg #[.string last.1,.string last.2],.string x] w fun e w'=>e=.returned (.agg #[.string last.1,.string (ba (Fd.joined last.2.data.toList x.data.toList))])∧Below w.heap.size w w' from
    fun w=>Fd.rjoin_any last.1 last.2 x w (by have:=HSZx.out;omega) (by have:=(HSZ.out last (by rw [el];simp)).2;omega))
   obtain ⟨k,hk⟩:∃k,ini.length=k:=⟨_,rfl⟩;have HK:=Lib.hid hk;rw [hk] at hn1 hq0 hq1 hz0 hz1;have t1:(0:Int)<(s.r.ts.length:Int):=by omega
   have i1:(k:Int)<(s.r.ts.length:Int):=by omega
   obtain ⟨b1,b2⟩:=Rec.wraps ((s.r.ts.length:Int)-1) ⟨by omega,by omega⟩;have b3:(s.r.ts.length:Int)-1=(k:Int):=by omega
   rw [b3] at b1 b2;have HEL:=Lib.hid el;have HN1:=Lib.hid hn1;have HGL:=Lib.hid hgl;have HQ0:=Lib.hid hq0;have HQ1:=Lib.hid hq1;have HGF:=Lib.hid hgf;have HZ0:=Lib.hid hz0;have HZ1:=Lib.hid hz1;clear hne e hk hnn el hn1 hg hgo hm hgl;go_enter Tryz.func82,Tryz.ntmps82;go_upto_region 5 with fail
   generalize w.setCell ⟨g,20,none⟩ (.int .i64 ((s.lines:Int)+1))=W1 at *;clear c20 z20 a1 a2 t0;have c0:=H1.out.cs.c0
   go_wp2_with (first
    |(go_at_call 93;with_reducible refine (HJ.out _).mono ?_;rintro r w3 ⟨rfl,hb3⟩
      have HB3:=Lib.hid hb3;have y0:=(hb3.cell (p:=⟨gf,k*2,none⟩) HGF.out).trans HQ0.out;have y1:=(hb3.cell (p:=⟨gf,k*2+1,none⟩) HGF.out).trans HQ1.out;have x0:=(hb3.frozen (p:=⟨gf,k*2,none⟩) HGF.out).trans HZ0.out;have x1:=(hb3.frozen (p:=⟨gf,k*2+1,none⟩) HGF.out).trans HZ1.out;clear hb3)
    |(go_at_call 92;with_reducible refine (HGo.out _).mono ?_;rintro r w2 ⟨rfl,hw⟩;rw [hw];clear hw))
   go_ret;have h3:=H1.out.below HB3.out;have ho:(Value.slice (some ⟨gf,0,none⟩) s.r.ts.length co).ownBlock=some gf:=by simp [Value.ownBlock]
   have hk3:Keeps [(Value.slice (some ⟨gf,0,none⟩) s.r.ts.length co).ownBlock] w3 ((w3.setCell ⟨gf,k*2,none⟩ (.string last.1)).setCell ⟨gf,k*2+1,none⟩ (.string (ba (Fd.joined last.2.data.toList x.data.toList)))):=
    (Keeps.set gf (k*2) _ (by rw [ho];simp)).trans (Keeps.set gf (k*2+1) _ (by rw [ho];simp)) Of.refl
   have hl3:(ini ++ [joinF last x.data.toList]).length=s.r.ts.length:=by rw [HEL.out];simp
   have hr3:=((h3.own.T.stored (k*2) (.string last.1)).1.stored (k*2+1) (.string (ba (Fd.joined last.2.data.toList x.data.toList)))).1
   obtain ⟨ho3,hs3⟩:=h3.own.setT (t':=.slice (some ⟨gf,0,none⟩) s.r.ts.length co) (ts':=ini ++ [joinF last x.data.toList]) hk3 (by
    rw [hl3,←cells_put ini last (joinF last x.data.toList),HK.out];have e:cells (ini ++ [last])=cells s.r.ts:=by rw [HEL.out]
    rw [e];exact hr3) (.inl rfl)
   have hrow:((w3.setCell ⟨gf,k*2,none⟩ (.string last.1)).setCell ⟨gf,k*2+1,none⟩ (.string (ba (Fd.joined last.2.data.toList x.data.toList)))).heap[g]?= _:=hk3.row h3.row (fun hm=>by
    have e:some g=some gf:=by rw [←ho];simpa using hm
    exact h3.own.lone.ne (i:=0) (j:=5) rfl (by decide) (by rw [e,←ho];rfl))
   exact ⟨_,rfl,hrow,ho3,HS1.out.trans ((Step.of_below HB3.out).trans hs3)⟩
  ·have hgt:Fd.goes p x.data.toList=false∨Fd.goes p x.data.toList=true∧¬(0:Int)<(s.r.ts.length:Int):=by
    cases hg:Fd.goes p x.data.toList with
    | false=>exact .inl rfl
    | true=>
      refine .inr ⟨rfl,?_⟩;rw [hg] at hj;have:s.r.ts= []:=by simpa using hj
      rw [this];simp
   have hp:=fun w=>Fd.rparse_any x p hp w (by have:=HSZx.out;omega)
   have HFA:=Lib.hid (fun w2 (hb:Below (w.setCell ⟨g,20,none⟩ (.int .i64 ((s.lines:Int)+1))).heap.size (w.setCell ⟨g,20,none⟩ (.int .i64 ((s.lines:Int)+1))) w2)=>fail_at (H1.out.below hb) 400 400 rfl);obtain ⟨iF,hi,hz0,hz1,hz2⟩:=info_parts field_info;have I1:=Lib.hid hi;have I2:=Lib.hid hz0;have I3:=Lib.hid hz1;have I4:=Lib.hid hz2;clear hi hz0 hz1 hz2 HP;rcases hpar:Fd.parse (Fd.clOf p) x.data.toList with _ | _ | ⟨n,vv⟩
   ·have e:fieldV p s.lines s.r.ts x.data.toList most=.inl 400:=by unfold fieldV;rw [if_neg hm,if_neg hj,hpar]
    rw [e];rw [hpar] at hp;simp only [Fd.rv,Fd.fv] at hp;have HP:=Lib.hid hp;clear e hpar hp hm hj hnn;rcases hgt with hg | ⟨hg,t1⟩
    ·rw [hg] at hgo;have HGo:=Lib.hid hgo;clear hgo hg;go_enter Tryz.func82,Tryz.ntmps82;go_upto_region 5 with fail
     generalize w.setCell ⟨g,20,none⟩ (.int .i64 ((s.lines:Int)+1))=W1 at *;clear c20 z20 a1 a2 t0;have c0:=H1.out.cs.c0
     go_wp2_with (first
      |(go_at_call 56;with_reducible refine (HFA.out _ (HB3.out.alloc HB3.out.size (.cells #[.string ⟨#[]⟩,.string ⟨#[]⟩] 106))).mono ?_;rintro r w4 ⟨rfl,hP,hS⟩)
      |(go_at_call 94;with_reducible refine (HP.out _).mono ?_;rintro r w3 ⟨rfl,hb3⟩
        have HB3:=Lib.hid hb3;clear hb3)
      |(go_at_call 92;with_reducible refine (HGo.out _).mono ?_;rintro r w2 ⟨rfl,hw⟩;rw [hw];clear hw))
     go_ret;exact ⟨rfl,hP,HS1.out.trans ((Step.of_below (HB3.out.alloc HB3.out.size (.cells #[.string ⟨#[]⟩,.string ⟨#[]⟩] 106))).trans hS)⟩
    ·rw [hg] at hgo;have HGo:=Lib.hid hgo;clear hgo hg;go_enter Tryz.func82,Tryz.ntmps82;go_upto_region 5 with fail
     generalize w.setCell ⟨g,20,none⟩ (.int .i64 ((s.lines:Int)+1))=W1 at *;clear c20 z20 a1 a2 t0;have c0:=H1.out.cs.c0
     go_wp2_with (first
      |(go_at_call 56;with_reducible refine (HFA.out _ (HB3.out.alloc HB3.out.size (.cells #[.string ⟨#[]⟩,.string ⟨#[]⟩] 106))).mono ?_;rintro r w4 ⟨rfl,hP,hS⟩)
      |(go_at_call 94;with_reducible refine (HP.out _).mono ?_;rintro r w3 ⟨rfl,hb3⟩
        have HB3:=Lib.hid hb3;clear hb3)
      |(go_at_call 92;with_reducible refine (HGo.out _).mono ?_;rintro r w2 ⟨rfl,hw⟩;rw [hw];clear hw))
     go_ret;exact ⟨rfl,hP,HS1.out.trans ((Step.of_below (HB3.out.alloc HB3.out.size (.cells #[.string ⟨#[]⟩,.string ⟨#[]⟩] 106))).trans hS)⟩
   ·have e:fieldV p s.lines s.r.ts x.data.toList most=.inr s.r.ts:=by unfold fieldV;rw [if_neg hm,if_neg hj,hpar]
    rw [e];rw [hpar] at hp;simp only [Fd.rv,Fd.fv] at hp;have HP:=Lib.hid hp;clear e hpar hp hm hj hnn;rcases hgt with hg | ⟨hg,t1⟩
    ·rw [hg] at hgo;have HGo:=Lib.hid hgo;clear hgo hg;go_enter Tryz.func82,Tryz.ntmps82;go_upto_region 5 with fail
     generalize w.setCell ⟨g,20,none⟩ (.int .i64 ((s.lines:Int)+1))=W1 at *;clear c20 z20 a1 a2 t0;have c0:=H1.out.cs.c0
     go_wp2_with (first
      |(go_at_call 94;with_reducible refine (HP.out _).mono ?_;rintro r w3 ⟨rfl,hb3⟩
        have HB3:=Lib.hid hb3;clear hb3)
      |(go_at_call 92;with_reducible refine (HGo.out _).mono ?_;rintro r w2 ⟨rfl,hw⟩;rw [hw];clear hw))
     go_ret
     have h4:=H1.out.below (HB3.out.alloc HB3.out.size (.cells #[.string ⟨#[]⟩,.string ⟨#[]⟩] 106));exact ⟨_,rfl,h4.row,h4.own,HS1.out.trans (Step.of_below (HB3.out.alloc HB3.out.size (.cells #[.string ⟨#[]⟩,.string ⟨#[]⟩] 106)))⟩
    ·rw [hg] at hgo;have HGo:=Lib.hid hgo;clear hgo hg;go_enter Tryz.func82,Tryz.ntmps82;go_upto_region 5 with fail
     generalize w.setCell ⟨g,20,none⟩ (.int .i64 ((s.lines:Int)+1))=W1 at *;clear c20 z20 a1 a2 t0;have c0:=H1.out.cs.c0
     go_wp2_with (first
      |(go_at_call 94;with_reducible refine (HP.out _).mono ?_;rintro r w3 ⟨rfl,hb3⟩
        have HB3:=Lib.hid hb3;clear hb3)
      |(go_at_call 92;with_reducible refine (HGo.out _).mono ?_;rintro r w2 ⟨rfl,hw⟩;rw [hw];clear hw))
     go_ret
     have h4:=H1.out.below (HB3.out.alloc HB3.out.size (.cells #[.string ⟨#[]⟩,.string ⟨#[]⟩] 106));exact ⟨_,rfl,h4.row,h4.own,HS1.out.trans (Step.of_below (HB3.out.alloc HB3.out.size (.cells #[.string ⟨#[]⟩,.string ⟨#[]⟩] 106)))⟩
   ·have e:fieldV p s.lines s.r.ts x.data.toList most=.inr (s.r.ts ++ [(ba n,ba vv)]):=by unfold fieldV;rw [if_neg hm,if_neg hj,hpar]
    rw [e];rw [hpar] at hp;simp only [Fd.rv,Fd.fv] at hp;have HP:=Lib.hid hp;clear e hpar hp hm hj hnn;rcases hgt with hg | ⟨hg,t1⟩
    ·rw [hg] at hgo;have HGo:=Lib.hid hgo;clear hgo hg;go_enter Tryz.func82,Tryz.ntmps82;go_upto_region 5 with fail
     generalize w.setCell ⟨g,20,none⟩ (.int .i64 ((s.lines:Int)+1))=W1 at *;clear c20 z20 a1 a2 t0;have c0:=H1.out.cs.c0
     go_wp2_with (first
      |(at_builtin;refine App.wpList_append_list _ rfl _ _ 55 rfl B 106 iF (.agg #[.string ByteArray.empty,.string ByteArray.empty]) 2 32 Tryz.underlying55 I1.out I2.out I3.out I4.out rfl (by decide) (.slice bo s.r.ts.length co) s.r.ts.length (cells s.r.ts) rfl ((H1.out.below (HB3.out.alloc HB3.out.size (.cells #[.string (ba n),.string (ba vv)] 106))).own.T.alloc (.cells #[.string (ba n),.string (ba vv)] 106)) (some ⟨w3.heap.size+1,0,none⟩) 1 1 [.string (ba n),.string (ba vv)] rfl rfl (fun _=>⟨w3.heap.size+1,0,rfl,fun j u hu=>by rw [Nat.zero_add];exact (Rec.Bk.new (w3.alloc (.cells #[.string (ba n),.string (ba vv)] 106)) (w3.heap.size+1) (by simp) 106 [.string (ba n),.string (ba vv)]).c j u hu⟩) (by intro u hu;rcases (by simpa using hu:u=.string (ba n)∨u=.string (ba vv)) with rfl | rfl<;>rfl) (by have:=HLEN.out;unfold maxLen;omega) (by have:=HLEN.out;omega) (by have:=(H1.out.below (HB3.out.alloc HB3.out.size (.cells #[.string (ba n),.string (ba vv)] 106))).own.lt;have:=H1.out.own.ge;simp at *;omega) ?_;intro v2 w5 hO5 hgr5 _ hor5;have HO5:=Lib.hid hO5;have HG5:=Lib.hid hgr5;have HR5:=Lib.hid hor5;clear hO5 hgr5 hor5)
      |(go_at_call 94;with_reducible refine (HP.out _).mono ?_;rintro r w3 ⟨rfl,hb3⟩
        have HB3:=Lib.hid hb3;clear hb3)
      |(go_at_call 92;with_reducible refine (HGo.out _).mono ?_;rintro r w2 ⟨rfl,hw⟩;rw [hw];clear hw))
     go_ret
     have hb4:=(HB3.out.alloc HB3.out.size (.cells #[.string (ba n),.string (ba vv)] 106))
     have hb5:=hb4.alloc hb4.size (.cells #[.string (ba n),.string (ba vv)] 106);have h4:=H1.out.below hb5;have hl:(s.r.ts ++ [(ba n,ba vv)]).length=s.r.ts.length+1:=by simp
     have hk5:Keeps [(Value.slice bo s.r.ts.length co).ownBlock] ((w3.alloc (.cells #[.string (ba n),.string (ba vv)] 106)).alloc (.cells #[.string (ba n),.string (ba vv)] 106)) w5:=Keeps.grown HG5.out fun k e=>by rw [e];exact List.mem_singleton.2 rfl
     obtain ⟨ho5,hs5⟩:=h4.own.setT (t':=v2) (ts':=s.r.ts ++ [(ba n,ba vv)]) hk5 (by rw [hl,cells_append];exact HO5.out) (by
      rcases HR5.out with e | e
      ·exact .inl e
      ·exact .inr ⟨_,e,Nat.le_refl _⟩)
     have hrow:w5.heap[g]?= _:=hk5.row h4.row (fun hm=>by
      have e:some g=(Value.slice bo s.r.ts.length co).ownBlock:=by simpa using hm
      exact h4.own.lone.ne (i:=0) (j:=5) rfl (by decide) (by rw [e];rfl))
     exact ⟨_,rfl,hrow,ho5,HS1.out.trans ((Step.of_below hb5).trans hs5)⟩
    ·rw [hg] at hgo;have HGo:=Lib.hid hgo;clear hgo hg;go_enter Tryz.func82,Tryz.ntmps82;go_upto_region 5 with fail
     generalize w.setCell ⟨g,20,none⟩ (.int .i64 ((s.lines:Int)+1))=W1 at *;clear c20 z20 a1 a2 t0;have c0:=H1.out.cs.c0
     go_wp2_with (first
      |(at_builtin;refine App.wpList_append_list _ rfl _ _ 55 rfl B 106 iF (.agg #[.string ByteArray.empty,.string ByteArray.empty]) 2 32 Tryz.underlying55 I1.out I2.out I3.out I4.out rfl (by decide) (.slice bo s.r.ts.length co) s.r.ts.length (cells s.r.ts) rfl ((H1.out.below (HB3.out.alloc HB3.out.size (.cells #[.string (ba n),.string (ba vv)] 106))).own.T.alloc (.cells #[.string (ba n),.string (ba vv)] 106)) (some ⟨w3.heap.size+1,0,none⟩) 1 1 [.string (ba n),.string (ba vv)] rfl rfl (fun _=>⟨w3.heap.size+1,0,rfl,fun j u hu=>by rw [Nat.zero_add];exact (Rec.Bk.new (w3.alloc (.cells #[.string (ba n),.string (ba vv)] 106)) (w3.heap.size+1) (by simp) 106 [.string (ba n),.string (ba vv)]).c j u hu⟩) (by intro u hu;rcases (by simpa using hu:u=.string (ba n)∨u=.string (ba vv)) with rfl | rfl<;>rfl) (by have:=HLEN.out;unfold maxLen;omega) (by have:=HLEN.out;omega) (by have:=(H1.out.below (HB3.out.alloc HB3.out.size (.cells #[.string (ba n),.string (ba vv)] 106))).own.lt;have:=H1.out.own.ge;simp at *;omega) ?_;intro v2 w5 hO5 hgr5 _ hor5;have HO5:=Lib.hid hO5;have HG5:=Lib.hid hgr5;have HR5:=Lib.hid hor5;clear hO5 hgr5 hor5)
      |(go_at_call 94;with_reducible refine (HP.out _).mono ?_;rintro r w3 ⟨rfl,hb3⟩
        have HB3:=Lib.hid hb3;clear hb3)
      |(go_at_call 92;with_reducible refine (HGo.out _).mono ?_;rintro r w2 ⟨rfl,hw⟩;rw [hw];clear hw))
     go_ret
     have hb4:=(HB3.out.alloc HB3.out.size (.cells #[.string (ba n),.string (ba vv)] 106))
     have hb5:=hb4.alloc hb4.size (.cells #[.string (ba n),.string (ba vv)] 106);have h4:=H1.out.below hb5;have hl:(s.r.ts ++ [(ba n,ba vv)]).length=s.r.ts.length+1:=by simp
     have hk5:Keeps [(Value.slice bo s.r.ts.length co).ownBlock] ((w3.alloc (.cells #[.string (ba n),.string (ba vv)] 106)).alloc (.cells #[.string (ba n),.string (ba vv)] 106)) w5:=Keeps.grown HG5.out fun k e=>by rw [e];exact List.mem_singleton.2 rfl
     obtain ⟨ho5,hs5⟩:=h4.own.setT (t':=v2) (ts':=s.r.ts ++ [(ba n,ba vv)]) hk5 (by rw [hl,cells_append];exact HO5.out) (by
      rcases HR5.out with e | e
      ·exact .inl e
      ·exact .inr ⟨_,e,Nat.le_refl _⟩)
     have hrow:w5.heap[g]?= _:=hk5.row h4.row (fun hm=>by
      have e:some g=(Value.slice bo s.r.ts.length co).ownBlock:=by simpa using hm
      exact h4.own.lone.ne (i:=0) (j:=5) rfl (by decide) (by rw [e];rfl))
     exact ⟨_,rfl,hrow,ho5,HS1.out.trans ((Step.of_below hb5).trans hs5)⟩
end code
end Go.Proofs.YtimoakmcelocfaaGreat.Par
