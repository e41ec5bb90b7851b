import Derived.Test.YtimoakmcelocfaaGreatAwc
namespace Go.Proofs.YtimoakmcelocfaaGreat.Par
open Go.RowKit Base Txt Mem
section code
set_option maxHeartbeats 4000000
set_option maxRecDepth 20000
attribute [local go_sem] Base.some_undef
variable {w:World} {B:Zone} {g q:Nat} {v f bd t o:Value} {p:Nat} {b:Bd} {s:S}
theorem fail_at (h:PR w B g q v f bd t o p b s) (e:Nat) (x:Int) (hx:x=(e:Int)):Calls Tryz.prog 56 #[ptr g,.int .i64 x] w fun r w'=>
 r=.returned (.tuple #[])∧PR w' B g q v nil nil nil o p b (s.fail e)∧Step (blks g q v f bd t o) (blks g q v nil nil nil o) w w':=by
 subst hx;exact fail_any h e
theorem cells_last (ini:List Fld) (a:Fld):(cells (ini ++ [a]))[ini.length*2]?=some (.string a.1)∧(cells (ini ++ [a]))[ini.length*2+1]?=some (.string a.2):=by
 have e:(cells ini).length=ini.length*2:=cells_length ini;have e2:cells [a]= [.string a.1,.string a.2]:=by simp [cells]
 rw [cells_append,e2];refine ⟨?_,?_⟩
 ·rw [List.getElem?_append_right (by omega),e,Nat.sub_self];rfl
 ·rw [List.getElem?_append_right (by omega),e,show ini.length*2+1-ini.length*2=1 by omega];rfl
theorem cells_put (ini:List Fld) (a c:Fld):((cells (ini ++ [a])).set (ini.length*2) (.string c.1)).set (ini.length*2+1) (.string c.2)=cells (ini ++ [c]):=by
 have e:(cells ini).length=ini.length*2:=cells_length ini;have e2:∀d:Fld,cells [d]= [.string d.1,.string d.2]:=fun d=>by simp [cells]
 rw [cells_append,cells_append,e2,e2,List.set_append_right _ _ (by omega),e,Nat.sub_self,List.set_append_right _ _ (by omega),e,show ini.length*2+1-ini.length*2=1 by omega];rfl
theorem fieldF_any (hp:p<4294967296) (x:ByteArray) (hx:x.size≤5000) (most:Int) (h:PR w B g q v f bd t o p b s) (hl:s.lines≤1000) (hsz:∀y∈s.r.fs,y.1.size≤1000000∧y.2.size≤1000000) (hlen:s.r.fs.length≤500) :
 Calls Tryz.prog 82 #[ptr g,f,.string x,.int .i64 most] w fun r w'=>
  match fieldV p s.lines s.r.fs x.data.toList most with
  | .inl e=>r=.returned nil∧PR w' B g q v nil nil nil o p b (S.fail {s with lines:=s.lines+1} e)∧Step (blks g q v f bd t o) (blks g q v nil nil nil o) w w'
  | .inr l=>∃f',r=.returned f'∧w'.heap[g]?=some (.cells (pcells p b {s with lines:=s.lines+1} q f bd t o).toArray 59 (0,0))∧Own w' B g q v f' bd t o p s.rd l s.r.body s.r.ts s.out∧Step (blks g q v f bd t o) (blks g q v f' bd t o) w w':=by
 obtain ⟨a1,a2⟩:=Rec.wraps ((s.lines:Int)+1) ⟨by omega,by omega⟩
 have H1:=Lib.hid (h.put 20 (.int .i64 ((s.lines:Int)+1)) {s with lines:=s.lines+1} rfl rfl rfl rfl rfl rfl)
 have HS1:=Lib.hid (Step.set (w:=w) (L:=blks g q v f bd t o) g 20 (.int .i64 ((s.lines:Int)+1)) (by simp));have c20:=h.cs.c20;have z20:=h.marks 20;have HSZ:=Lib.hid hsz;have HLEN:=Lib.hid hlen;clear hsz hlen
 by_cases hm:most<((s.lines+1:Nat):Int)
 ·have e:fieldV p s.lines s.r.fs x.data.toList most=.inl 431:=by unfold fieldV;rw [if_pos hm]
  rw [e];have t0:most<(s.lines:Int)+1:=by omega
  have HFA:=Lib.hid (fail_at H1.out 431 431 rfl);clear e hm;go_enter Tryz.func82,Tryz.ntmps82
  go_wp2_with (go_at_call 56;with_reducible refine HFA.out.mono ?_;rintro r w2 ⟨rfl,hP,hS⟩);go_ret;exact ⟨rfl,hP,HS1.out.trans hS⟩
 ·have t0:¬most<(s.lines:Int)+1:=by omega
  obtain ⟨bo,co,eo, -⟩:=Ln.own_slice h.own.F;have hgo:=fun w=>Fd.rgoes_any x p hp w
  have HP:=Lib.hid (fun w=>Fd.rparse_any x p hp w (by omega));have HSZx:=Lib.hid hx;have hnn:(s.r.fs.length:Int)≤500:=by have:=HLEN.out;omega
  subst eo;clear h hl hx;by_cases hj:(Fd.goes p x.data.toList && !s.r.fs.isEmpty)=true
  ·simp only [Bool.and_eq_true,Bool.not_eq_true',List.isEmpty_eq_false_iff] at hj;obtain ⟨hg,hne⟩:=hj;rw [hg] at hgo;have HGo:=Lib.hid hgo;obtain ⟨ini,last,el⟩:∃ini last,s.r.fs=ini ++ [last]:=⟨_,_,(List.dropLast_concat_getLast hne).symm⟩;have hn1:s.r.fs.length=ini.length+1:=by rw [el];simp
   have e:fieldV p s.lines s.r.fs x.data.toList most=.inr (ini ++ [joinF last x.data.toList]):=by
    unfold fieldV;have e1:(Fd.goes p x.data.toList && !s.r.fs.isEmpty)=true:=by rw [hg,el];simp
    rw [if_neg hm,if_pos e1,el];simp
   rw [e]
   obtain ⟨gf,cf,hform,hgl,hgf⟩:=H1.out.own.F.form (by show 0<s.r.fs.length;omega);simp only [Value.slice.injEq,true_and] at hform;obtain ⟨rfl,rfl⟩:=hform
   have hq0:=(H1.out.own.F.cellAt (ini.length*2) (by show ini.length*2<s.r.fs.length*2;omega)).trans (show (cells s.r.fs)[ini.length*2]?=some (.string last.1) by rw [el];exact (cells_last ini last).1)
   have hq1:=(H1.out.own.F.cellAt (ini.length*2+1) (by show ini.length*2+1<s.r.fs.length*2;omega)).trans (show (cells s.r.fs)[ini.length*2+1]?=some (.string last.2) by rw [el];exact (cells_last ini last).2)
   have hz0:=H1.out.own.F.frozenAt (ini.length*2);have hz1:=H1.out.own.F.frozenAt (ini.length*2+1)
   have HJ:=Lib.hid (show∀w,Calls Tryz.prog 93 #[.agg #[.string last.1,.string last.2],.string x] w fun e w'=>e=.returned (.agg #[.string last.1,.string (ba (Fd.joined last.2.data.toList x.data.toList))])∧Below w.heap.size w w' from
    fun w=>Fd.rjoin_any last.1 last.2 x w (by have:=HSZx.out;omega) (by have:=(HSZ.out last (by rw [el];simp)).2;omega))
   obtain ⟨k,hk⟩:∃k,ini.length=k:=⟨_,rfl⟩;have HK:=Lib.hid hk;rw [hk] at hn1 hq0 hq1 hz0 hz1;have t1:(0:Int)<(s.r.fs.length:Int):=by omega
   have i1:(k:Int)<(s.r.fs.length:Int):=by omega
   obtain ⟨b1,b2⟩:=Rec.wraps ((s.r.fs.length:Int)-1) ⟨by omega,by omega⟩;have b3:(s.r.fs.length:Int)-1=(k:Int):=by omega
   rw [b3] at b1 b2;have HEL:=Lib.hid el;have HN1:=Lib.hid hn1;have HGL:=Lib.hid hgl;have HQ0:=Lib.hid hq0;have HQ1:=Lib.hid hq1;have HGF:=Lib.hid hgf;have HZ0:=Lib.hid hz0;have HZ1:=Lib.hid hz1;clear hne e hk hnn el hn1 hg hgo hm hgl;go_enter Tryz.func82,Tryz.ntmps82;go_upto_region 5 with fail
   generalize w.setCell ⟨g,20,none⟩ (.int .i64 ((s.lines:Int)+1))=W1 at *;clear c20 z20 a1 a2 t0;have c0:=H1.out.cs.c0
   go_wp2_with (first
    |(go_at_call 93;with_reducible refine (HJ.out _).mono ?_;rintro r w3 ⟨rfl,hb3⟩
      have HB3:=Lib.hid hb3;have y0:=(hb3.cell (p:=⟨gf,k*2,none⟩) HGF.out).trans HQ0.out;have y1:=(hb3.cell (p:=⟨gf,k*2+1,none⟩) HGF.out).trans HQ1.out;have x0:=(hb3.frozen (p:=⟨gf,k*2,none⟩) HGF.out).trans HZ0.out;have x1:=(hb3.frozen (p:=⟨gf,k*2+1,none⟩) HGF.out).trans HZ1.out;clear hb3)
    |(go_at_call 92;with_reducible refine (HGo.out _).mono ?_;rintro r w2 ⟨rfl,hw⟩;rw [hw];clear hw))
   go_ret;have h3:=H1.out.below HB3.out;have ho:(Value.slice (some ⟨gf,0,none⟩) s.r.fs.length co).ownBlock=some gf:=by simp [Value.ownBlock]
   have hk3:Keeps [(Value.slice (some ⟨gf,0,none⟩) s.r.fs.length co).ownBlock] w3 ((w3.setCell ⟨gf,k*2,none⟩ (.string last.1)).setCell ⟨gf,k*2+1,none⟩ (.string (ba (Fd.joined last.2.data.toList x.data.toList)))):=
    (Keeps.set gf (k*2) _ (by rw [ho];simp)).trans (Keeps.set gf (k*2+1) _ (by rw [ho];simp)) Of.refl
   have hl3:(ini ++ [joinF last x.data.toList]).length=s.r.fs.length:=by rw [HEL.out];simp
   have hr3:=((h3.own.F.stored (k*2) (.string last.1)).1.stored (k*2+1) (.string (ba (Fd.joined last.2.data.toList x.data.toList)))).1
   obtain ⟨ho3,hs3⟩:=h3.own.setF (f':=.slice (some ⟨gf,0,none⟩) s.r.fs.length co) (fs':=ini ++ [joinF last x.data.toList]) hk3 (by
    rw [hl3,←cells_put ini last (joinF last x.data.toList),HK.out];have e:cells (ini ++ [last])=cells s.r.fs:=by rw [HEL.out]
    rw [e];exact hr3) (.inl rfl)
   have hrow:((w3.setCell ⟨gf,k*2,none⟩ (.string last.1)).setCell ⟨gf,k*2+1,none⟩ (.string (ba (Fd.joined last.2.data.toList x.data.toList)))).heap[g]?= _:=hk3.row h3.row (fun hm=>by
    have e:some g=some gf:=by rw [←ho];simpa using hm
    exact h3.own.lone.ne (i:=0) (j:=3) rfl (by decide) (by rw [e,←ho];rfl))
   exact ⟨_,rfl,hrow,ho3,HS1.out.trans ((Step.of_below HB3.out).trans hs3)⟩
  ·have hgt:Fd.goes p x.data.toList=false∨Fd.goes p x.data.toList=true∧¬(0:Int)<(s.r.fs.length:Int):=by
    cases hg:Fd.goes p x.data.toList with
    | false=>exact .inl rfl
    | true=>
      refine .inr ⟨rfl,?_⟩;rw [hg] at hj;have:s.r.fs= []:=by simpa using hj
      rw [this];simp
   have hp:=fun w=>Fd.rparse_any x p hp w (by have:=HSZx.out;omega)
   have HFA:=Lib.hid (fun w2 (hb:Below (w.setCell ⟨g,20,none⟩ (.int .i64 ((s.lines:Int)+1))).heap.size (w.setCell ⟨g,20,none⟩ (.int .i64 ((s.lines:Int)+1))) w2)=>fail_at (H1.out.below hb) 400 400 rfl);obtain ⟨iF,hi,hz0,hz1,hz2⟩:=info_parts field_info;have I1:=Lib.hid hi;have I2:=Lib.hid hz0;have I3:=Lib.hid hz1;have I4:=Lib.hid hz2;clear hi hz0 hz1 hz2 HP;rcases hpar:Fd.parse (Fd.clOf p) x.data.toList with _ | _ | ⟨n,vv⟩
   ·have e:fieldV p s.lines s.r.fs x.data.toList most=.inl 400:=by unfold fieldV;rw [if_neg hm,if_neg hj,hpar]
    rw [e];rw [hpar] at hp;simp only [Fd.rv,Fd.fv] at hp;have HP:=Lib.hid hp;clear e hpar hp hm hj hnn;rcases hgt with hg | ⟨hg,t1⟩
    ·rw [hg] at hgo;have HGo:=Lib.hid hgo;clear hgo hg;go_enter Tryz.func82,Tryz.ntmps82;go_upto_region 5 with fail
     generalize w.setCell ⟨g,20,none⟩ (.int .i64 ((s.lines:Int)+1))=W1 at *;clear c20 z20 a1 a2 t0;have c0:=H1.out.cs.c0
     go_wp2_with (first
      |(go_at_call 56;with_reducible refine (HFA.out _ (HB3.out.alloc HB3.out.size (.cells #[.string ⟨#[]⟩,.string ⟨#[]⟩] 106))).mono ?_;rintro r w4 ⟨rfl,hP,hS⟩)
      |(go_at_call 94;with_reducible refine (HP.out _).mono ?_;rintro r w3 ⟨rfl,hb3⟩
        have HB3:=Lib.hid hb3;clear hb3)
      |(go_at_call 92;with_reducible refine (HGo.out _).mono ?_;rintro r w2 ⟨rfl,hw⟩;rw [hw];clear hw))
     go_ret;exact ⟨rfl,hP,HS1.out.trans ((Step.of_below (HB3.out.alloc HB3.out.size (.cells #[.string ⟨#[]⟩,.string ⟨#[]⟩] 106))).trans hS)⟩
    ·rw [hg] at hgo;have HGo:=Lib.hid hgo;clear hgo hg;go_enter Tryz.func82,Tryz.ntmps82;go_upto_region 5 with fail
     generalize w.setCell ⟨g,20,none⟩ (.int .i64 ((s.lines:Int)+1))=W1 at *;clear c20 z20 a1 a2 t0;have c0:=H1.out.cs.c0
     go_wp2_with (first
      |(go_at_call 56;with_reducible refine (HFA.out _ (HB3.out.alloc HB3.out.size (.cells #[.string ⟨#[]⟩,.string ⟨#[]⟩] 106))).mono ?_;rintro r w4 ⟨rfl,hP,hS⟩)
      |(go_at_call 94;with_reducible refine (HP.out _).mono ?_;rintro r w3 ⟨rfl,hb3⟩
        have HB3:=Lib.hid hb3;clear hb3)
      |(go_at_call 92;with_reducible refine (HGo.out _).mono ?_;rintro r w2 ⟨rfl,hw⟩;rw [hw];clear hw))
     go_ret;exact ⟨rfl,hP,HS1.out.trans ((Step.of_below (HB3.out.alloc HB3.out.size (.cells #[.string ⟨#[]⟩,.string ⟨#[]⟩] 106))).trans hS)⟩
   ·have e:fieldV p s.lines s.r.fs x.data.toList most=.inr s.r.fs:=by unfold fieldV;rw [if_neg hm,if_neg hj,hpar]
    rw [e];rw [hpar] at hp;simp only [Fd.rv,Fd.fv] at hp;have HP:=Lib.hid hp;clear e hpar hp hm hj hnn;rcases hgt with hg | ⟨hg,t1⟩
    ·rw [hg] at hgo;have HGo:=Lib.hid hgo;clear hgo hg;go_enter Tryz.func82,Tryz.ntmps82;go_upto_region 5 with fail
     generalize w.setCell ⟨g,20,none⟩ (.int .i64 ((s.lines:Int)+1))=W1 at *;clear c20 z20 a1 a2 t0;have c0:=H1.out.cs.c0
     go_wp2_with (first
      |(go_at_call 94;with_reducible refine (HP.out _).mono ?_;rintro r w3 ⟨rfl,hb3⟩
        have HB3:=Lib.hid hb3;clear hb3)
      |(go_at_call 92;with_reducible refine (HGo.out _).mono ?_;rintro r w2 ⟨rfl,hw⟩;rw [hw];clear hw))
     go_ret
     have h4:=H1.out.below (HB3.out.alloc HB3.out.size (.cells #[.string ⟨#[]⟩,.string ⟨#[]⟩] 106));exact ⟨_,rfl,h4.row,h4.own,HS1.out.trans (Step.of_below (HB3.out.alloc HB3.out.size (.cells #[.string ⟨#[]⟩,.string ⟨#[]⟩] 106)))⟩
    ·rw [hg] at hgo;have HGo:=Lib.hid hgo;clear hgo hg;go_enter Tryz.func82,Tryz.ntmps82;go_upto_region 5 with fail
     generalize w.setCell ⟨g,20,none⟩ (.int .i64 ((s.lines:Int)+1))=W1 at *;clear c20 z20 a1 a2 t0;have c0:=H1.out.cs.c0
     go_wp2_with (first
      |(go_at_call 94;with_reducible refine (HP.out _).mono ?_;rintro r w3 ⟨rfl,hb3⟩
        have HB3:=Lib.hid hb3;clear hb3)
      |(go_at_call 92;with_reducible refine (HGo.out _).mono ?_;rintro r w2 ⟨rfl,hw⟩;rw [hw];clear hw))
     go_ret
     have h4:=H1.out.below (HB3.out.alloc HB3.out.size (.cells #[.string ⟨#[]⟩,.string ⟨#[]⟩] 106));exact ⟨_,rfl,h4.row,h4.own,HS1.out.trans (Step.of_below (HB3.out.alloc HB3.out.size (.cells #[.string ⟨#[]⟩,.string ⟨#[]⟩] 106)))⟩
   ·have e:fieldV p s.lines s.r.fs x.data.toList most=.inr (s.r.fs ++ [(ba n,ba vv)]):=by unfold fieldV;rw [if_neg hm,if_neg hj,hpar]
    rw [e];rw [hpar] at hp;simp only [Fd.rv,Fd.fv] at hp;have HP:=Lib.hid hp;clear e hpar hp hm hj hnn;rcases hgt with hg | ⟨hg,t1⟩
    ·rw [hg] at hgo;have HGo:=Lib.hid hgo;clear hgo hg;go_enter Tryz.func82,Tryz.ntmps82;go_upto_region 5 with fail
     generalize w.setCell ⟨g,20,none⟩ (.int .i64 ((s.lines:Int)+1))=W1 at *;clear c20 z20 a1 a2 t0;have c0:=H1.out.cs.c0
     go_wp2_with (first
      |(at_builtin;refine App.wpList_append_list _ rfl _ _ 55 rfl B 106 iF (.agg #[.string ByteArray.empty,.string ByteArray.empty]) 2 32 Tryz.underlying55 I1.out I2.out I3.out I4.out rfl (by decide) (.slice bo s.r.fs.length co) s.r.fs.length (cells s.r.fs) rfl ((H1.out.below (HB3.out.alloc HB3.out.size (.cells #[.string (ba n),.string (ba vv)] 106))).own.F.alloc (.cells #[.string (ba n),.string (ba vv)] 106)) (some ⟨w3.heap.size+1,0,none⟩) 1 1 [.string (ba n),.string (ba vv)] rfl rfl (fun _=>⟨w3.heap.size+1,0,rfl,fun j u hu=>by rw [Nat.zero_add];exact (Rec.Bk.new (w3.alloc (.cells #[.string (ba n),.string (ba vv)] 106)) (w3.heap.size+1) (by simp) 106 [.string (ba n),.string (ba vv)]).c j u hu⟩) (by intro u hu;rcases (by simpa using hu:u=.string (ba n)∨u=.string (ba vv)) with rfl | rfl<;>rfl) (by have:=HLEN.out;unfold maxLen;omega) (by have:=HLEN.out;omega) (by have:=(H1.out.below (HB3.out.alloc HB3.out.size (.cells #[.string (ba n),.string (ba vv)] 106))).own.lt;have:=H1.out.own.ge;simp at *;omega) ?_;intro v2 w5 hO5 hgr5 _ hor5;have HO5:=Lib.hid hO5;have HG5:=Lib.hid hgr5;have HR5:=Lib.hid hor5;clear hO5 hgr5 hor5)
      |(go_at_call 94;with_reducible refine (HP.out _).mono ?_;rintro r w3 ⟨rfl,hb3⟩
        have HB3:=Lib.hid hb3;clear hb3)
      |(go_at_call 92;with_reducible refine (HGo.out _).mono ?_;rintro r w2 ⟨rfl,hw⟩;rw [hw];clear hw))
     go_ret
     have hb4:=(HB3.out.alloc HB3.out.size (.cells #[.string (ba n),.string (ba vv)] 106))
     have hb5:=hb4.alloc hb4.size (.cells #[.string (ba n),.string (ba vv)] 106);have h4:=H1.out.below hb5;have hl:(s.r.fs ++ [(ba n,ba vv)]).length=s.r.fs.length+1:=by simp
     have hk5:Keeps [(Value.slice bo s.r.fs.length co).ownBlock] ((w3.alloc (.cells #[.string (ba n),.string (ba vv)] 106)).alloc (.cells #[.string (ba n),.string (ba vv)] 106)) w5:=Keeps.grown HG5.out fun k e=>by rw [e];exact List.mem_singleton.2 rfl
     obtain ⟨ho5,hs5⟩:=h4.own.setF (f':=v2) (fs':=s.r.fs ++ [(ba n,ba vv)]) hk5 (by rw [hl,cells_append];exact HO5.out) (by
      rcases HR5.out with e | e
      ·exact .inl e
      ·exact .inr ⟨_,e,Nat.le_refl _⟩)
     have hrow:w5.heap[g]?= _:=hk5.row h4.row (fun hm=>by
      have e:some g=(Value.slice bo s.r.fs.length co).ownBlock:=by simpa using hm
      exact h4.own.lone.ne (i:=0) (j:=3) rfl (by decide) (by rw [e];rfl))
     exact ⟨_,rfl,hrow,ho5,HS1.out.trans ((Step.of_below hb5).trans hs5)⟩
    ·rw [hg] at hgo;have HGo:=Lib.hid hgo;clear hgo hg;go_enter Tryz.func82,Tryz.ntmps82;go_upto_region 5 with fail
     generalize w.setCell ⟨g,20,none⟩ (.int .i64 ((s.lines:Int)+1))=W1 at *;clear c20 z20 a1 a2 t0;have c0:=H1.out.cs.c0
     go_wp2_with (first
      |(at_builtin;refine App.wpList_append_list _ rfl _ _ 55 rfl B 106 iF (.agg #[.string ByteArray.empty,.string ByteArray.empty]) 2 32 Tryz.underlying55 I1.out I2.out I3.out I4.out rfl (by decide) (.slice bo s.r.fs.length co) s.r.fs.length (cells s.r.fs) rfl ((H1.out.below (HB3.out.alloc HB3.out.size (.cells #[.string (ba n),.string (ba vv)] 106))).own.F.alloc (.cells #[.string (ba n),.string (ba vv)] 106)) (some ⟨w3.heap.size+1,0,none⟩) 1 1 [.string (ba n),.string (ba vv)] rfl rfl (fun _=>⟨w3.heap.size+1,0,rfl,fun j u hu=>by rw [Nat.zero_add];exact (Rec.Bk.new (w3.alloc (.cells #[.string (ba n),.string (ba vv)] 106)) (w3.heap.size+1) (by simp) 106 [.string (ba n),.string (ba vv)]).c j u hu⟩) (by intro u hu;rcases (by simpa using hu:u=.string (ba n)∨u=.string (ba vv)) with rfl | rfl<;>rfl) (by have:=HLEN.out;unfold maxLen;omega) (by have:=HLEN.out;omega) (by have:=(H1.out.below (HB3.out.alloc HB3.out.size (.cells #[.string (ba n),.string (ba vv)] 106))).own.lt;have:=H1.out.own.ge;simp at *;omega) ?_;intro v2 w5 hO5 hgr5 _ hor5;have HO5:=Lib.hid hO5;have HG5:=Lib.hid hgr5;have HR5:=Lib.hid hor5;clear hO5 hgr5 hor5)
      |(go_at_call 94;with_reducible refine (HP.out _).mono ?_;rintro r w3 ⟨rfl,hb3⟩
        have HB3:=Lib.hid hb3;clear hb3)
      |(go_at_call 92;with_reducible refine (HGo.out _).mono ?_;rintro r w2 ⟨rfl,hw⟩;rw [hw];clear hw))
     go_ret
     have hb4:=(HB3.out.alloc HB3.out.size (.cells #[.string (ba n),.string (ba vv)] 106))
     have hb5:=hb4.alloc hb4.size (.cells #[.string (ba n),.string (ba vv)] 106);have h4:=H1.out.below hb5;have hl:(s.r.fs ++ [(ba n,ba vv)]).length=s.r.fs.length+1:=by simp
     have hk5:Keeps [(Value.slice bo s.r.fs.length co).ownBlock] ((w3.alloc (.cells #[.string (ba n),.string (ba vv)] 106)).alloc (.cells #[.string (ba n),.string (ba vv)] 106)) w5:=Keeps.grown HG5.out fun k e=>by rw [e];exact List.mem_singleton.2 rfl
     obtain ⟨ho5,hs5⟩:=h4.own.setF (f':=v2) (fs':=s.r.fs ++ [(ba n,ba vv)]) hk5 (by rw [hl,cells_append];exact HO5.out) (by
      rcases HR5.out with e | e
      ·exact .inl e
      ·exact .inr ⟨_,e,Nat.le_refl _⟩)
     have hrow:w5.heap[g]?= _:=hk5.row h4.row (fun hm=>by
      have e:some g=(Value.slice bo s.r.fs.length co).ownBlock:=by simpa using hm
      exact h4.own.lone.ne (i:=0) (j:=3) rfl (by decide) (by rw [e];rfl))
     exact ⟨_,rfl,hrow,ho5,HS1.out.trans ((Step.of_below hb5).trans hs5)⟩
theorem fieldT_any (hp:p<4294967296) (x:ByteArray) (hx:x.size≤5000) (most:Int) (h:PR w B g q v f bd t o p b s) (hl:s.lines≤1000) (hsz:∀y∈s.r.ts,y.1.size≤1000000∧y.2.size≤1000000) (hlen:s.r.ts.length≤500) :
 Calls Tryz.prog 82 #[ptr g,t,.string x,.int .i64 most] w fun r w'=>
  match fieldV p s.lines s.r.ts x.data.toList most with
  | .inl e=>r=.returned nil∧PR w' B g q v nil nil nil o p b (S.fail {s with lines:=s.lines+1} e)∧Step (blks g q v f bd t o) (blks g q v nil nil nil o) w w'
  | .inr l=>∃t',r=.returned t'∧w'.heap[g]?=some (.cells (pcells p b {s with lines:=s.lines+1} q f bd t o).toArray 59 (0,0))∧Own w' B g q v f bd t' o p s.rd s.r.fs s.r.body l s.out∧Step (blks g q v f bd t o) (blks g q v f bd t' o) w w':=by
 obtain ⟨a1,a2⟩:=Rec.wraps ((s.lines:Int)+1) ⟨by omega,by omega⟩
 have H1:=Lib.hid (h.put 20 (.int .i64 ((s.lines:Int)+1)) {s with lines:=s.lines+1} rfl rfl rfl rfl rfl rfl)
 have HS1:=Lib.hid (Step.set (w:=w) (L:=blks g q v f bd t o) g 20 (.int .i64 ((s.lines:Int)+1)) (by simp));have c20:=h.cs.c20;have z20:=h.marks 20;have HSZ:=Lib.hid hsz;have HLEN:=Lib.hid hlen;clear hsz hlen
 by_cases hm:most<((s.lines+1:Nat):Int)
 ·have e:fieldV p s.lines s.r.ts x.data.toList most=.inl 431:=by unfold fieldV;rw [if_pos hm]
  rw [e];have t0:most<(s.lines:Int)+1:=by omega
  have HFA:=Lib.hid (fail_at H1.out 431 431 rfl);clear e hm;go_enter Tryz.func82,Tryz.ntmps82
  go_wp2_with (go_at_call 56;with_reducible refine HFA.out.mono ?_;rintro r w2 ⟨rfl,hP,hS⟩);go_ret;exact ⟨rfl,hP,HS1.out.trans hS⟩
 ·have t0:¬most<(s.lines:Int)+1:=by omega
  obtain ⟨bo,co,eo, -⟩:=Ln.own_slice h.own.T;have hgo:=fun w=>Fd.rgoes_any x p hp w
  have HP:=Lib.hid (fun w=>Fd.rparse_any x p hp w (by omega));have HSZx:=Lib.hid hx;have hnn:(s.r.ts.length:Int)≤500:=by have:=HLEN.out;omega
  subst eo;clear h hl hx;by_cases hj:(Fd.goes p x.data.toList && !s.r.ts.isEmpty)=true
  ·simp only [Bool.and_eq_true,Bool.not_eq_true',List.isEmpty_eq_false_iff] at hj;obtain ⟨hg,hne⟩:=hj;rw [hg] at hgo;have HGo:=Lib.hid hgo;obtain ⟨ini,last,el⟩:∃ini last,s.r.ts=ini ++ [last]:=⟨_,_,(List.dropLast_concat_getLast hne).symm⟩;have hn1:s.r.ts.length=ini.length+1:=by rw [el];simp
   have e:fieldV p s.lines s.r.ts x.data.toList most=.inr (ini ++ [joinF last x.data.toList]):=by
    unfold fieldV;have e1:(Fd.goes p x.data.toList && !s.r.ts.isEmpty)=true:=by rw [hg,el];simp
    rw [if_neg hm,if_pos e1,el];simp
   rw [e]
   obtain ⟨gf,cf,hform,hgl,hgf⟩:=H1.out.own.T.form (by show 0<s.r.ts.length;omega);simp only [Value.slice.injEq,true_and] at hform;obtain ⟨rfl,rfl⟩:=hform
   have hq0:=(H1.out.own.T.cellAt (ini.length*2) (by show ini.length*2<s.r.ts.length*2;omega)).trans (show (cells s.r.ts)[ini.length*2]?=some (.string last.1) by rw [el];exact (cells_last ini last).1)
   have hq1:=(H1.out.own.T.cellAt (ini.length*2+1) (by show ini.length*2+1<s.r.ts.length*2;omega)).trans (show (cells s.r.ts)[ini.length*2+1]?=some (.string last.2) by rw [el];exact (cells_last ini last).2)
   have hz0:=H1.out.own.T.frozenAt (ini.length*2);have hz1:=H1.out.own.T.frozenAt (ini.length*2+1)
   have HJ:=Lib.hid (show∀w,Calls Tryz.prog 93 #[.agg #[.string last.1,.string last.2],.string x] w fun e w'=>e=.returned (.agg #[.string last.1,.string (ba (Fd.joined last.2.data.toList x.data.toList))])∧Below w.heap.size w w' from
    fun w=>Fd.rjoin_any last.1 last.2 x w (by have:=HSZx.out;omega) (by have:=(HSZ.out last (by rw [el];simp)).2;omega))
   obtain ⟨k,hk⟩:∃k,ini.length=k:=⟨_,rfl⟩;have HK:=Lib.hid hk;rw [hk] at hn1 hq0 hq1 hz0 hz1;have t1:(0:Int)<(s.r.ts.length:Int):=by omega
   have i1:(k:Int)<(s.r.ts.length:Int):=by omega
   obtain ⟨b1,b2⟩:=Rec.wraps ((s.r.ts.length:Int)-1) ⟨by omega,by omega⟩;have b3:(s.r.ts.length:Int)-1=(k:Int):=by omega
   rw [b3] at b1 b2;have HEL:=Lib.hid el;have HN1:=Lib.hid hn1;have HGL:=Lib.hid hgl;have HQ0:=Lib.hid hq0;have HQ1:=Lib.hid hq1;have HGF:=Lib.hid hgf;have HZ0:=Lib.hid hz0;have HZ1:=Lib.hid hz1;clear hne e hk hnn el hn1 hg hgo hm hgl;go_enter Tryz.func82,Tryz.ntmps82;go_upto_region 5 with fail
   generalize w.setCell ⟨g,20,none⟩ (.int .i64 ((s.lines:Int)+1))=W1 at *;clear c20 z20 a1 a2 t0;have c0:=H1.out.cs.c0
   go_wp2_with (first
    |(go_at_call 93;with_reducible refine (HJ.out _).mono ?_;rintro r w3 ⟨rfl,hb3⟩
      have HB3:=Lib.hid hb3;have y0:=(hb3.cell (p:=⟨gf,k*2,none⟩) HGF.out).trans HQ0.out;have y1:=(hb3.cell (p:=⟨gf,k*2+1,none⟩) HGF.out).trans HQ1.out;have x0:=(hb3.frozen (p:=⟨gf,k*2,none⟩) HGF.out).trans HZ0.out;have x1:=(hb3.frozen (p:=⟨gf,k*2+1,none⟩) HGF.out).trans HZ1.out;clear hb3)
    |(go_at_call 92;with_reducible refine (HGo.out _).mono ?_;rintro r w2 ⟨rfl,hw⟩;rw [hw];clear hw))
   go_ret;have h3:=H1.out.below HB3.out;have ho:(Value.slice (some ⟨gf,0,none⟩) s.r.ts.length co).ownBlock=some gf:=by simp [Value.ownBlock]
   have hk3:Keeps [(Value.slice (some ⟨gf,0,none⟩) s.r.ts.length co).ownBlock] w3 ((w3.setCell ⟨gf,k*2,none⟩ (.string last.1)).setCell ⟨gf,k*2+1,none⟩ (.string (ba (Fd.joined last.2.data.toList x.data.toList)))):=
    (Keeps.set gf (k*2) _ (by rw [ho];simp)).trans (Keeps.set gf (k*2+1) _ (by rw [ho];simp)) Of.refl
   have hl3:(ini ++ [joinF last x.data.toList]).length=s.r.ts.length:=by rw [HEL.out];simp
   have hr3:=((h3.own.T.stored (k*2) (.string last.1)).1.stored (k*2+1) (.string (ba (Fd.joined last.2.data.toList x.data.toList)))).1
   obtain ⟨ho3,hs3⟩:=h3.own.setT (t':=.slice (some ⟨gf,0,none⟩) s.r.ts.length co) (ts':=ini ++ [joinF last x.data.toList]) hk3 (by
    rw [hl3,←cells_put ini last (joinF last x.data.toList),HK.out];have e:cells (ini ++ [last])=cells s.r.ts:=by rw [HEL.out]
    rw [e];exact hr3) (.inl rfl)
   have hrow:((w3.setCell ⟨gf,k*2,none⟩ (.string last.1)).setCell ⟨gf,k*2+1,none⟩ (.string (ba (Fd.joined last.2.data.toList x.data.toList)))).heap[g]?= _:=hk3.row h3.row (fun hm=>by
    have e:some g=some gf:=by rw [←ho];simpa using hm
    exact h3.own.lone.ne (i:=0) (j:=5) rfl (by decide) (by rw [e,←ho];rfl))
   exact ⟨_,rfl,hrow,ho3,HS1.out.trans ((Step.of_below HB3.out).trans hs3)⟩
  ·have hgt:Fd.goes p x.data.toList=false∨Fd.goes p x.data.toList=true∧¬(0:Int)<(s.r.ts.length:Int):=by
    cases hg:Fd.goes p x.data.toList with
    | false=>exact .inl rfl
    | true=>
      refine .inr ⟨rfl,?_⟩;rw [hg] at hj;have:s.r.ts= []:=by simpa using hj
      rw [this];simp
   have hp:=fun w=>Fd.rparse_any x p hp w (by have:=HSZx.out;omega)
   have HFA:=Lib.hid (fun w2 (hb:Below (w.setCell ⟨g,20,none⟩ (.int .i64 ((s.lines:Int)+1))).heap.size (w.setCell ⟨g,20,none⟩ (.int .i64 ((s.lines:Int)+1))) w2)=>fail_at (H1.out.below hb) 400 400 rfl);obtain ⟨iF,hi,hz0,hz1,hz2⟩:=info_parts field_info;have I1:=Lib.hid hi;have I2:=Lib.hid hz0;have I3:=Lib.hid hz1;have I4:=Lib.hid hz2;clear hi hz0 hz1 hz2 HP;rcases hpar:Fd.parse (Fd.clOf p) x.data.toList with _ | _ | ⟨n,vv⟩
   ·have e:fieldV p s.lines s.r.ts x.data.toList most=.inl 400:=by unfold fieldV;rw [if_neg hm,if_neg hj,hpar]
    rw [e];rw [hpar] at hp;simp only [Fd.rv,Fd.fv] at hp;have HP:=Lib.hid hp;clear e hpar hp hm hj hnn;rcases hgt with hg | ⟨hg,t1⟩
    ·rw [hg] at hgo;have HGo:=Lib.hid hgo;clear hgo hg;go_enter Tryz.func82,Tryz.ntmps82;go_upto_region 5 with fail
     generalize w.setCell ⟨g,20,none⟩ (.int .i64 ((s.lines:Int)+1))=W1 at *;clear c20 z20 a1 a2 t0;have c0:=H1.out.cs.c0
     go_wp2_with (first
      |(go_at_call 56;with_reducible refine (HFA.out _ (HB3.out.alloc HB3.out.size (.cells #[.string ⟨#[]⟩,.string ⟨#[]⟩] 106))).mono ?_;rintro r w4 ⟨rfl,hP,hS⟩)
      |(go_at_call 94;with_reducible refine (HP.out _).mono ?_;rintro r w3 ⟨rfl,hb3⟩
        have HB3:=Lib.hid hb3;clear hb3)
      |(go_at_call 92;with_reducible refine (HGo.out _).mono ?_;rintro r w2 ⟨rfl,hw⟩;rw [hw];clear hw))
     go_ret;exact ⟨rfl,hP,HS1.out.trans ((Step.of_below (HB3.out.alloc HB3.out.size (.cells #[.string ⟨#[]⟩,.string ⟨#[]⟩] 106))).trans hS)⟩
    ·rw [hg] at hgo;have HGo:=Lib.hid hgo;clear hgo hg;go_enter Tryz.func82,Tryz.ntmps82;go_upto_region 5 with fail
     generalize w.setCell ⟨g,20,none⟩ (.int .i64 ((s.lines:Int)+1))=W1 at *;clear c20 z20 a1 a2 t0;have c0:=H1.out.cs.c0
     go_wp2_with (first
      |(go_at_call 56;with_reducible refine (HFA.out _ (HB3.out.alloc HB3.out.size (.cells #[.string ⟨#[]⟩,.string ⟨#[]⟩] 106))).mono ?_;rintro r w4 ⟨rfl,hP,hS⟩)
      |(go_at_call 94;with_reducible refine (HP.out _).mono ?_;rintro r w3 ⟨rfl,hb3⟩
        have HB3:=Lib.hid hb3;clear hb3)
      |(go_at_call 92;with_reducible refine (HGo.out _).mono ?_;rintro r w2 ⟨rfl,hw⟩;rw [hw];clear hw))
     go_ret;exact ⟨rfl,hP,HS1.out.trans ((Step.of_below (HB3.out.alloc HB3.out.size (.cells #[.string ⟨#[]⟩,.string ⟨#[]⟩] 106))).trans hS)⟩
   ·have e:fieldV p s.lines s.r.ts x.data.toList most=.inr s.r.ts:=by unfold fieldV;rw [if_neg hm,if_neg hj,hpar]
    rw [e];rw [hpar] at hp;simp only [Fd.rv,Fd.fv] at hp;have HP:=Lib.hid hp;clear e hpar hp hm hj hnn;rcases hgt with hg | ⟨hg,t1⟩
    ·rw [hg] at hgo;have HGo:=Lib.hid hgo;clear hgo hg;go_enter Tryz.func82,Tryz.ntmps82;go_upto_region 5 with fail
     generalize w.setCell ⟨g,20,none⟩ (.int .i64 ((s.lines:Int)+1))=W1 at *;clear c20 z20 a1 a2 t0;have c0:=H1.out.cs.c0
     go_wp2_with (first
      |(go_at_call 94;with_reducible refine (HP.out _).mono ?_;rintro r w3 ⟨rfl,hb3⟩
        have HB3:=Lib.hid hb3;clear hb3)
      |(go_at_call 92;with_reducible refine (HGo.out _).mono ?_;rintro r w2 ⟨rfl,hw⟩;rw [hw];clear hw))
     go_ret
     have h4:=H1.out.below (HB3.out.alloc HB3.out.size (.cells #[.string ⟨#[]⟩,.string ⟨#[]⟩] 106));exact ⟨_,rfl,h4.row,h4.own,HS1.out.trans (Step.of_below (HB3.out.alloc HB3.out.size (.cells #[.string ⟨#[]⟩,.string ⟨#[]⟩] 106)))⟩
    ·rw [hg] at hgo;have HGo:=Lib.hid hgo;clear hgo hg;go_enter Tryz.func82,Tryz.ntmps82;go_upto_region 5 with fail
     generalize w.setCell ⟨g,20,none⟩ (.int .i64 ((s.lines:Int)+1))=W1 at *;clear c20 z20 a1 a2 t0;have c0:=H1.out.cs.c0
     go_wp2_with (first
      |(go_at_call 94;with_reducible refine (HP.out _).mono ?_;rintro r w3 ⟨rfl,hb3⟩
        have HB3:=Lib.hid hb3;clear hb3)
      |(go_at_call 92;with_reducible refine (HGo.out _).mono ?_;rintro r w2 ⟨rfl,hw⟩;rw [hw];clear hw))
     go_ret
     have h4:=H1.out.below (HB3.out.alloc HB3.out.size (.cells #[.string ⟨#[]⟩,.string ⟨#[]⟩] 106));exact ⟨_,rfl,h4.row,h4.own,HS1.out.trans (Step.of_below (HB3.out.alloc HB3.out.size (.cells #[.string ⟨#[]⟩,.string ⟨#[]⟩] 106)))⟩
   ·have e:fieldV p s.lines s.r.ts x.data.toList most=.inr (s.r.ts ++ [(ba n,ba vv)]):=by unfold fieldV;rw [if_neg hm,if_neg hj,hpar]
    rw [e];rw [hpar] at hp;simp only [Fd.rv,Fd.fv] at hp;have HP:=Lib.hid hp;clear e hpar hp hm hj hnn;rcases hgt with hg | ⟨hg,t1⟩
    ·rw [hg] at hgo;have HGo:=Lib.hid hgo;clear hgo hg;go_enter Tryz.func82,Tryz.ntmps82;go_upto_region 5 with fail
     generalize w.setCell ⟨g,20,none⟩ (.int .i64 ((s.lines:Int)+1))=W1 at *;clear c20 z20 a1 a2 t0;have c0:=H1.out.cs.c0
     go_wp2_with (first
      |(at_builtin;refine App.wpList_append_list _ rfl _ _ 55 rfl B 106 iF (.agg #[.string ByteArray.empty,.string ByteArray.empty]) 2 32 Tryz.underlying55 I1.out I2.out I3.out I4.out rfl (by decide) (.slice bo s.r.ts.length co) s.r.ts.length (cells s.r.ts) rfl ((H1.out.below (HB3.out.alloc HB3.out.size (.cells #[.string (ba n),.string (ba vv)] 106))).own.T.alloc (.cells #[.string (ba n),.string (ba vv)] 106)) (some ⟨w3.heap.size+1,0,none⟩) 1 1 [.string (ba n),.string (ba vv)] rfl rfl (fun _=>⟨w3.heap.size+1,0,rfl,fun j u hu=>by rw [Nat.zero_add];exact (Rec.Bk.new (w3.alloc (.cells #[.string (ba n),.string (ba vv)] 106)) (w3.heap.size+1) (by simp) 106 [.string (ba n),.string (ba vv)]).c j u hu⟩) (by intro u hu;rcases (by simpa using hu:u=.string (ba n)∨u=.string (ba vv)) with rfl | rfl<;>rfl) (by have:=HLEN.out;unfold maxLen;omega) (by have:=HLEN.out;omega) (by have:=(H1.out.below (HB3.out.alloc HB3.out.size (.cells #[.string (ba n),.string (ba vv)] 106))).own.lt;have:=H1.out.own.ge;simp at *;omega) ?_;intro v2 w5 hO5 hgr5 _ hor5;have HO5:=Lib.hid hO5;have HG5:=Lib.hid hgr5;have HR5:=Lib.hid hor5;clear hO5 hgr5 hor5)
      |(go_at_call 94;with_reducible refine (HP.out _).mono ?_;rintro r w3 ⟨rfl,hb3⟩
        have HB3:=Lib.hid hb3;clear hb3)
      |(go_at_call 92;with_reducible refine (HGo.out _).mono ?_;rintro r w2 ⟨rfl,hw⟩;rw [hw];clear hw))
     go_ret
     have hb4:=(HB3.out.alloc HB3.out.size (.cells #[.string (ba n),.string (ba vv)] 106))
     have hb5:=hb4.alloc hb4.size (.cells #[.string (ba n),.string (ba vv)] 106);have h4:=H1.out.below hb5;have hl:(s.r.ts ++ [(ba n,ba vv)]).length=s.r.ts.length+1:=by simp
     have hk5:Keeps [(Value.slice bo s.r.ts.length co).ownBlock] ((w3.alloc (.cells #[.string (ba n),.string (ba vv)] 106)).alloc (.cells #[.string (ba n),.string (ba vv)] 106)) w5:=Keeps.grown HG5.out fun k e=>by rw [e];exact List.mem_singleton.2 rfl
     obtain ⟨ho5,hs5⟩:=h4.own.setT (t':=v2) (ts':=s.r.ts ++ [(ba n,ba vv)]) hk5 (by rw [hl,cells_append];exact HO5.out) (by
      rcases HR5.out with e | e
      ·exact .inl e
      ·exact .inr ⟨_,e,Nat.le_refl _⟩)
     have hrow:w5.heap[g]?= _:=hk5.row h4.row (fun hm=>by
      have e:some g=(Value.slice bo s.r.ts.length co).ownBlock:=by simpa using hm
      exact h4.own.lone.ne (i:=0) (j:=5) rfl (by decide) (by rw [e];rfl))
     exact ⟨_,rfl,hrow,ho5,HS1.out.trans ((Step.of_below hb5).trans hs5)⟩
    ·rw [hg] at hgo;have HGo:=Lib.hid hgo;clear hgo hg;go_enter Tryz.func82,Tryz.ntmps82;go_upto_region 5 with fail
     generalize w.setCell ⟨g,20,none⟩ (.int .i64 ((s.lines:Int)+1))=W1 at *;clear c20 z20 a1 a2 t0;have c0:=H1.out.cs.c0
     go_wp2_with (first
      |(at_builtin;refine App.wpList_append_list _ rfl _ _ 55 rfl B 106 iF (.agg #[.string ByteArray.empty,.string ByteArray.empty]) 2 32 Tryz.underlying55 I1.out I2.out I3.out I4.out rfl (by decide) (.slice bo s.r.ts.length co) s.r.ts.length (cells s.r.ts) rfl ((H1.out.below (HB3.out.alloc HB3.out.size (.cells #[.string (ba n),.string (ba vv)] 106))).own.T.alloc (.cells #[.string (ba n),.string (ba vv)] 106)) (some ⟨w3.heap.size+1,0,none⟩) 1 1 [.string (ba n),.string (ba vv)] rfl rfl (fun _=>⟨w3.heap.size+1,0,rfl,fun j u hu=>by rw [Nat.zero_add];exact (Rec.Bk.new (w3.alloc (.cells #[.string (ba n),.string (ba vv)] 106)) (w3.heap.size+1) (by simp) 106 [.string (ba n),.string (ba vv)]).c j u hu⟩) (by intro u hu;rcases (by simpa using hu:u=.string (ba n)∨u=.string (ba vv)) with rfl | rfl<;>rfl) (by have:=HLEN.out;unfold maxLen;omega) (by have:=HLEN.out;omega) (by have:=(H1.out.below (HB3.out.alloc HB3.out.size (.cells #[.string (ba n),.string (ba vv)] 106))).own.lt;have:=H1.out.own.ge;simp at *;omega) ?_;intro v2 w5 hO5 hgr5 _ hor5;have HO5:=Lib.hid hO5;have HG5:=Lib.hid hgr5;have HR5:=Lib.hid hor5;clear hO5 hgr5 hor5)
      |(go_at_call 94;with_reducible refine (HP.out _).mono ?_;rintro r w3 ⟨rfl,hb3⟩
        have HB3:=Lib.hid hb3;clear hb3)
      |(go_at_call 92;with_reducible refine (HGo.out _).mono ?_;rintro r w2 ⟨rfl,hw⟩;rw [hw];clear hw))
     go_ret
     have hb4:=(HB3.out.alloc HB3.out.size (.cells #[.string (ba n),.string (ba vv)] 106))
     have hb5:=hb4.alloc hb4.size (.cells #[.string (ba n),.string (ba vv)] 106);have h4:=H1.out.below hb5;have hl:(s.r.ts ++ [(ba n,ba vv)]).length=s.r.ts.length+1:=by simp
     have hk5:Keeps [(Value.slice bo s.r.ts.length co).ownBlock] ((w3.alloc (.cells #[.string (ba n),.string (ba vv)] 106)).alloc (.cells #[.string (ba n),.string (ba vv)] 106)) w5:=Keeps.grown HG5.out fun k e=>by rw [e];exact List.mem_singleton.2 rfl
     obtain ⟨ho5,hs5⟩:=h4.own.setT (t':=v2) (ts':=s.r.ts ++ [(ba n,ba vv)]) hk5 (by rw [hl,cells_append];exact HO5.out) (by
      rcases HR5.out with e | e
      ·exact .inl e
      ·exact .inr ⟨_,e,Nat.le_refl _⟩)
     have hrow:w5.heap[g]?= _:=hk5.row h4.row (fun hm=>by
      have e:some g=(Value.slice bo s.r.ts.length co).ownBlock:=by simpa using hm
      exact h4.own.lone.ne (i:=0) (j:=5) rfl (by decide) (by rw [e];rfl))
     exact ⟨_,rfl,hrow,ho5,HS1.out.trans ((Step.of_below hb5).trans hs5)⟩
end code
end Go.Proofs.YtimoakmcelocfaaGreat.Par
namespace Go.Proofs.YtimoakmcelocfaaGreat.Tgt
open Go.RowKit Base Oct Num Txt
theorem host_parts (l:List UInt8):hostB l=match parts 58 l with
 | [n]=>nameOk n
 | [n,p]=>nameOk n&&portOk p
 | _=>false:=by
 unfold hostB;rcases cut_cases 58 l with h | ⟨a,r,rfl,h⟩
 ·rw [cutAt_none 58 l h,parts_none 58 l h];simp
 ·rw [cutAt_app 58 a r h,parts_cut 58 a r h];simp only [Bool.not_true,Bool.false_or];rcases cut_cases 58 r with h2 | ⟨b,r2,rfl,h2⟩
  ·rw [parts_none 58 r h2]
  ·rw [parts_cut 58 b r2 h2];have:portOk (b++58::r2)=false:=by
    cases hp:portOk (b++58::r2) with
    | false=>rfl
    | true=>exact absurd (by simp) (port_no_colon hp)
   rw [this,Bool.and_false];cases hq:parts 58 r2 with
   | nil=>
     have:=parts_length 58 r2;rw [hq] at this;simp at this
   | cons x xs=>rfl
theorem parts_form (c:UInt8) (l:List UInt8):(∃n,parts c l= [n])∨(∃n p,parts c l= [n,p])∨∃n p x xs,parts c l=n::p::x::xs:=by
 cases h:parts c l with
 | nil=>
   have:=parts_length c l;rw [h] at this;simp at this
 | cons n t=>
   match t with
   | []=>exact .inl ⟨n,rfl⟩
   | [p]=>exact .inr (.inl ⟨n,p,rfl⟩)
   | p::x::xs=>exact .inr (.inr ⟨n,p,x,xs,rfl⟩)
theorem parts_bound (c:UInt8):∀(l:List UInt8),∀p∈parts c l,p.length≤l.length
 | [],p,h=>by simp [parts] at h;subst h;simp
 | b::l,p,h=>by
   rw [parts] at h;have ih:=parts_bound c l;split at h
   ·rcases List.mem_cons.1 h with rfl | h
    ·simp
    ·have:=ih p h;simp;omega
   ·cases hq:parts c l with
    | nil=>rw [hq] at h;simp at h;subst h;simp
    | cons y ys=>
      rw [hq] at h ih;rcases List.mem_cons.1 h with rfl | h
      ·have:=ih y (by simp);simp;omega
      ·have:=ih p (by simp [h]);simp;omega
theorem name_ways (x:UInt8):(plainB nameMarks x=true∧(Oct.letter (x.toNat:Int)=true∨(Oct.letter (x.toNat:Int)=false∧Oct.digit (x.toNat:Int)=true)∨(Oct.letter (x.toNat:Int)=false∧Oct.digit (x.toNat:Int)=false∧((x.toNat:Int)=45∨(x.toNat:Int)=46∨(x.toNat:Int)=95∨(x.toNat:Int)=126))))∨
 (plainB nameMarks x=false∧Oct.letter (x.toNat:Int)=false∧Oct.digit (x.toNat:Int)=false∧¬(x.toNat:Int)=45∧¬(x.toNat:Int)=46∧¬(x.toNat:Int)=95∧¬(x.toNat:Int)=126):=by
 have hc:nameMarks.contains x=true↔((x.toNat:Int)=45∨(x.toNat:Int)=46∨(x.toNat:Int)=95∨(x.toNat:Int)=126):=by have e:∀k:UInt8,x=k↔(x.toNat:Int)=(k.toNat:Int):=fun k=>⟨fun h=>by rw [h],fun h=>UInt8.toNat_inj.1 (by omega)⟩;simp only [nameMarks,List.contains_cons,List.contains_nil,Bool.or_false,Bool.or_eq_true,beq_iff_eq];rw [e 45,e 46,e 95,e 126];rfl
 unfold plainB;cases hl:Oct.letter (x.toNat:Int) with
 | true=>exact .inl ⟨rfl,.inl rfl⟩
 | false=>
   cases hd:Oct.digit (x.toNat:Int) with
   | true=>exact .inl ⟨rfl,.inr (.inl ⟨rfl,rfl⟩)⟩
   | false=>
     cases hm:nameMarks.contains x with
     | true=>exact .inl ⟨rfl,.inr (.inr ⟨rfl,rfl,hc.1 hm⟩)⟩
     | false=>
       refine .inr ⟨rfl,rfl,rfl,?_,?_,?_,?_⟩<;> (intro h;have:=hc.2 (by simp [h]);rw [hm] at this;cases this)
section code
set_option maxHeartbeats 1000000
attribute [local go_sem] Base.some_undef
theorem rhost_core (s:ByteArray) (n:List UInt8) (T:Bool) (w:World) (hn:n.length≤1000000000)
 (hS:∀w,Calls Tryz.prog 117 #[.string s,.int .u8 58] w fun e w'=>∃bl off m cp,e=.returned (.slice (some ⟨bl,off,none⟩) m cp)∧bl<w'.heap.size∧Below w.heap.size w w'∧w'.cell? ⟨bl,off,none⟩=some (.string (ba n))∧
   ((m=1∧T=true)∨(m=2∧∃p,w'.cell? ⟨bl,off+1,none⟩=some (.string (ba p))∧p.length≤1000000000∧portOk p=T))) :
 Calls Tryz.prog 102 #[.string s] w fun e w'=>e=.returned (.bool (nameOk n&&T))∧Below w.heap.size w w':=by
 have HS:=Lib.hid hS;clear hS;obtain ⟨R,hR⟩:∃R,(nameOk n&&T)=R:=⟨_,rfl⟩;rw [hR];have hsz:=ba_size n;have HR:=Lib.hid hR;clear hR;rcases Nat.eq_zero_or_pos n.length with h0 | hpos
 ·have hRf:false=R:=by
   rw [←HR.out];obtain rfl:n= []:=List.length_eq_zero_iff.1 h0;rfl
  have hz:((ba n).size:Int)<1:=by omega
  clear HR hsz h0;subst hRf;generalize ba n=N at *;go_enter Tryz.func102,Tryz.ntmps102
  go_wp2_with (go_at_call 117;with_reducible refine (HS.out _).mono ?_;rintro e w1 ⟨bl,off,m,cp,rfl,hbl,hb,hc0,hm⟩
               have t1:¬(2:Int)<(m:Int):=by rcases hm with ⟨rfl,_⟩ | ⟨rfl,_⟩<;>omega
               have t2:(0:Int)<(m:Int):=by rcases hm with ⟨rfl,_⟩ | ⟨rfl,_⟩<;>omega
               clear hm)
  go_ret;exact ⟨rfl,hb⟩
 have hz:¬((ba n).size:Int)<1:=by omega
 rcases Nat.lt_or_ge 255 n.length with hbig | hsm
 ·have hRf:false=R:=by
   rw [←HR.out];unfold nameOk;rw [decide_eq_false (by omega:¬n.length≤255),Bool.false_and,Bool.and_false];rfl
  have hz2:(255:Int)<((ba n).size:Int):=by omega
  clear HR hsz hpos hbig;subst hRf;generalize ba n=N at *;go_enter Tryz.func102,Tryz.ntmps102
  go_wp2_with (go_at_call 117;with_reducible refine (HS.out _).mono ?_;rintro e w1 ⟨bl,off,m,cp,rfl,hbl,hb,hc0,hm⟩
               have t1:¬(2:Int)<(m:Int):=by rcases hm with ⟨rfl,_⟩ | ⟨rfl,_⟩<;>omega
               have t2:(0:Int)<(m:Int):=by rcases hm with ⟨rfl,_⟩ | ⟨rfl,_⟩<;>omega
               clear hm)
  go_ret;exact ⟨rfl,hb⟩
 have hz2:¬(255:Int)<((ba n).size:Int):=by omega
 have HR2:Hid ((n.all (plainB nameMarks)&&T)=R):=Lib.hid (by
  rw [←HR.out];unfold nameOk;have:n.isEmpty=false:=by cases n with
   | nil=>simp at hpos
   | cons _ _=>rfl
  rw [decide_eq_true hsm,this];rfl)
 have e0:∀k (h:k<(ba n).size) (hk2:k<n.length),(ba n)[k]'h=n[k]:=fun _ _ _=>rfl;have E0:=Lib.hid e0;have HZ:=Lib.hid hsz;have hHM:∀k (h:k<n.length),n[k]∈n:=fun k h=>List.getElem_mem h;have HM:=Lib.hid hHM;have hTS:∀k (h:k<n.length),n.take (k+1)=n.take k ++ [n[k]]:=fun k h=>List.take_succ_eq_append_getElem h;have HTS:=Lib.hid hTS;clear HR e0 hsz hpos hHM hTS;generalize ba n=N at *;go_enter Tryz.func102,Tryz.ntmps102
 go_wp2_with (go_at_call 117;with_reducible refine (HS.out _).mono ?_;rintro e w1 ⟨bl,off,m,cp,rfl,hbl,hb,hc0,hm⟩
              have t1:¬(2:Int)<(m:Int):=by rcases hm with ⟨rfl,_⟩ | ⟨rfl,_⟩<;>omega
              have t2:(0:Int)<(m:Int):=by rcases hm with ⟨rfl,_⟩ | ⟨rfl,_⟩<;>omega
              have HMM:=Lib.hid hm;have HBB:=Lib.hid hb;clear hm hb)
 go_loop [4] (fun i=>∃k:Nat,k≤N.size∧i=.int .i64 k∧Hid ((n.take k).all (plainB nameMarks)=true)) (fun i=>N.size-(intOf i).toNat)
 case atStart=>exact ⟨0,Nat.zero_le _,rfl,Lib.hid rfl⟩
 case round=>
  obtain ⟨k,hk,rfl,hall⟩:=hrel;rcases Nat.lt_or_ge k N.size with hlt | hge
  ·have i1:(k:Int)<(N.size:Int):=by omega
   have hkn:k<n.length:=by have:=HZ.out;omega
   obtain ⟨x,hxx⟩:∃x,n[k]=x:=⟨_,rfl⟩;have hx:∀h,N[k]'h=x:=fun h=>(E0.out k h hkn).trans hxx
   have hts:=Lib.hid (HTS.out k hkn)
   have hmm:=Lib.hid (HM.out k hkn);rw [hxx] at hts hmm;clear hxx hkn
   have HL:=Lib.hid (fun w=>Oct.rletter_any (x.toNat:Int) w)
   have HD:=Lib.hid (fun w=>Oct.rdigit_any (x.toNat:Int) w);rcases name_ways x with ⟨hq,hway⟩ | ⟨hq,hl,hd,n45,n46,n95,n126⟩
   ·have HNX:Hid ((n.take (k+1)).all (plainB nameMarks)=true):=Lib.hid (by rw [hts.out,List.all_append,hall.out];simp [hq]);clear hq hmm hts hall;rcases hway with hl | ⟨hl,hd⟩ | ⟨hl,hd,hc⟩
    ·rw [hl] at HL;clear hl
     go_wp2_with (first
      |(go_at_call 118;with_reducible refine (HL.out _).mono ?_;rintro e w2 ⟨rfl,hw⟩;rw [hw];clear hw)
      |(go_at_call 106;with_reducible refine (HD.out _).mono ?_;rintro e w2 ⟨rfl,hw⟩;rw [hw];clear hw))
     go_round
     case rel=>exact ⟨k+1,by omega,by go_num,HNX⟩
     case measure=>simp [intOf];omega
    ·rw [hl] at HL;rw [hd] at HD;clear hl hd
     go_wp2_with (first
      |(go_at_call 118;with_reducible refine (HL.out _).mono ?_;rintro e w2 ⟨rfl,hw⟩;rw [hw];clear hw)
      |(go_at_call 106;with_reducible refine (HD.out _).mono ?_;rintro e w2 ⟨rfl,hw⟩;rw [hw];clear hw))
     go_round
     case rel=>exact ⟨k+1,by omega,by go_num,HNX⟩
     case measure=>simp [intOf];omega
    ·rw [hl] at HL;rw [hd] at HD;clear hl hd;rcases hc with hc | hc | hc | hc;all_goals
      have d1:=fun (z:Int)=>congrArg (fun y:Int=>y != z) hc;have d2:=d1 45;have d3:=d1 46;have d4:=d1 95;have d5:=d1 126;simp only [show ((45:Int) != 45)=false from rfl,show ((46:Int) != 45)=true from rfl,show ((46:Int) != 46)=false from rfl,show ((95:Int) != 45)=true from rfl,show ((95:Int) != 46)=true from rfl,show ((95:Int) != 95)=false from rfl,show ((126:Int) != 45)=true from rfl,show ((126:Int) != 46)=true from rfl,show ((126:Int) != 95)=true from rfl,show ((126:Int) != 126)=false from rfl] at d2 d3 d4 d5;clear d1 hc
      go_wp2_with (first
       |(go_at_call 118;with_reducible refine (HL.out _).mono ?_;rintro e w2 ⟨rfl,hw⟩;rw [hw];clear hw)
       |(go_at_call 106;with_reducible refine (HD.out _).mono ?_;rintro e w2 ⟨rfl,hw⟩;rw [hw];clear hw))
      go_round
      case rel=>exact ⟨k+1,by omega,by go_num,HNX⟩
      case measure=>simp [intOf];omega
   ·have hRf:false=R:=by
     rw [←HR2.out,List.all_eq_false.2 ⟨x,hmm.out,by rw [hq];decide⟩];rfl
    have HRF:=Lib.hid hRf;rw [hl] at HL;rw [hd] at HD;have d45:((x.toNat:Int) != 45)=true:=bne_iff_ne.2 n45;have d46:((x.toNat:Int) != 46)=true:=bne_iff_ne.2 n46;have d95:((x.toNat:Int) != 95)=true:=bne_iff_ne.2 n95;have d126:((x.toNat:Int) != 126)=true:=bne_iff_ne.2 n126;clear hl hd n45 n46 n95 n126 hq hRf hmm hts hall
    go_wp2_with (first
     |(go_at_call 118;with_reducible refine (HL.out _).mono ?_;rintro e w2 ⟨rfl,hw⟩;rw [hw];clear hw)
     |(go_at_call 106;with_reducible refine (HD.out _).mono ?_;rintro e w2 ⟨rfl,hw⟩;rw [hw];clear hw))
    go_ret;exact ⟨by rw [←HRF.out];rfl,HBB.out⟩
  ·obtain rfl:k=N.size:=by omega
   have hTR:T=R:=by rw [←HR2.out];have:=hall.out;rw [List.take_of_length_le (by rw [HZ.out];exact Nat.le_refl _)] at this;rw [this,Bool.true_and]
   have HTR:=Lib.hid hTR;clear hTR hall;rcases HMM.out with ⟨rfl,hT⟩ | ⟨rfl,p,hc1,hpl,hT⟩
   ·have HT:=Lib.hid (hT.symm.trans HTR.out);clear hT HMM;go_wp2;go_ret;exact ⟨by rw [←HT.out];rfl,HBB.out⟩
   ·have hps:=ba_size p
    have HDc:=Lib.hid (fun w=>Num.rdec_any 65535 (by decide) (ba p) w (by unfold maxLen;omega));rw [ba_list] at HDc;have hP:portOk p=(decide ((ba p).size≤5)&&decide ((readOf 10 65535 p).2=0)):=by unfold portOk;rw [hps]
    rw [hP] at hT;generalize (readOf 10 65535 p).2=en at *;generalize (readOf 10 65535 p).1=vn at *;generalize ba p=PP at *;clear hP hps HMM;by_cases he:en=0
    ·subst he;rw [decide_eq_true rfl,Bool.and_true] at hT
     have HT:=Lib.hid (hT.trans HTR.out);clear hT
     go_wp2_with (go_at_call 119;with_reducible refine (HDc.out _).mono ?_;rintro e w2 ⟨rfl,hw⟩;rw [hw];clear hw);go_ret;exact ⟨by rw [←HT.out];first | rfl |(simp;omega),HBB.out⟩
    ·rw [decide_eq_false he,Bool.and_false] at hT
     have HT:=Lib.hid (hT.trans HTR.out);have he2:(en==0)=false:=beq_eq_false_iff_ne.2 he;clear hT he
     go_wp2_with (go_at_call 119;with_reducible refine (HDc.out _).mono ?_;rintro e w2 ⟨rfl,hw⟩;rw [hw];clear hw);go_ret;exact ⟨by rw [←HT.out];rfl,HBB.out⟩
theorem rhost_any (s:ByteArray) (w:World) (hs:s.size≤1000000000):Calls Tryz.prog 102 #[.string s] w fun e w'=>e=.returned (.bool (hostB s.data.toList))∧Below w.heap.size w w':=by
 have HS:=Lib.hid (fun w=>Txt.rsplit_any s 58 w hs);have hbd:=parts_bound 58 s.data.toList;rw [len] at hbd;rw [host_parts];rcases parts_form 58 s.data.toList with ⟨n,hp⟩ | ⟨n,p,hp⟩ | ⟨n,p,x,xs,hp⟩
 ·rw [hp] at HS hbd;rw [hp]
  have hnl:=hbd n (by simp);have key:=rhost_core s n true w (by omega) fun w=>(HS.out w).mono fun e w' h=>by
   obtain ⟨b,m,cp,rfl,hm,hst,hb⟩:=h;obtain rfl:m=1:=hm
   obtain ⟨bl,off,rfl,hbl,hc⟩:=hst.2 (by omega);exact ⟨bl,off,1,cp,rfl,hbl,hb,hc 0 (by omega),.inl ⟨rfl,rfl⟩⟩
  rw [Bool.and_true] at key;exact key
 ·rw [hp] at HS hbd;rw [hp]
  have hnl:=hbd n (by simp)
  have hpl:=hbd p (by simp);exact rhost_core s n (portOk p) w (by omega) fun w=>(HS.out w).mono fun e w' h=>by
   obtain ⟨b,m,cp,rfl,hm,hst,hb⟩:=h;obtain rfl:m=2:=hm
   obtain ⟨bl,off,rfl,hbl,hc⟩:=hst.2 (by omega);exact ⟨bl,off,2,cp,rfl,hbl,hb,hc 0 (by omega),.inr ⟨rfl,p,hc 1 (by omega),by omega,rfl⟩⟩
 ·rw [hp] at HS;rw [hp];clear hp hbd;have HS2:Hid (∀w,Calls Tryz.prog 117 #[.string s,.int .u8 58] w fun e w'=>∃b m cp,e=.returned (.slice b m cp)∧m=(n::p::x::xs).length∧Strs w' b m ((n::p::x::xs).map ba)∧Below w.heap.size w w'):=HS;clear HS;go_enter Tryz.func102,Tryz.ntmps102
  go_wp2_with (go_at_call 117;with_reducible refine (HS2.out _).mono ?_;rintro e w1 ⟨b,m,cp,rfl,hm,hst,hb⟩
               have t1:(2:Int)<(m:Int):=by rw [hm];simp;omega)
  go_ret;exact ⟨rfl,hb⟩
end code
end Go.Proofs.YtimoakmcelocfaaGreat.Tgt
namespace Go.Proofs.YtimoakmcelocfaaGreat.Tgt
open Go.RowKit Base Oct Num Txt
theorem written_drop (ms l:List UInt8) (k:Nat) (h:k<l.length):written ms (l.drop k)=(okAt ms l[k] (l.drop (k+1))&&written ms (l.drop (k+1))):=by rw [List.drop_eq_getElem_cons h,written]
theorem okAt_short (ms:List UInt8) (c:UInt8) (r:List UInt8) (h:r.length<2):okAt ms c r=plainB ms c:=by
 match r,h with
 | [],_=>rfl
 | [a],_=>rfl
theorem okAt_pct (ms l:List UInt8) (k:Nat) (h:k+2<l.length):okAt ms 37 (l.drop (k+1))=(hexB l[k+1]&&hexB l[k+2]):=by rw [List.drop_eq_getElem_cons (by omega:k+1<l.length),List.drop_eq_getElem_cons (by omega:k+1+1<l.length),okAt,if_pos rfl]
theorem contains_snoc (l:List UInt8) (k:Nat) (h:k<l.length) (c:UInt8):(l.take (k+1)).contains c=((l.take k).contains c|| (c==l[k])):=by
 rw [List.take_succ_eq_append_getElem h];generalize l[k]=x;generalize l.take k=m
 induction m with
 | nil=>rw [List.nil_append,List.contains_cons,List.contains_nil,Bool.or_false,Bool.false_or]
 | cons y m ih=>rw [List.cons_append,List.contains_cons,List.contains_cons,ih,Bool.or_assoc]
section code
set_option maxHeartbeats 1000000
attribute [local go_sem] Base.some_undef
set_option maxRecDepth 10000 in
theorem rof_any (s ms:ByteArray) (w:World) (hs:s.size≤1000000000) (hms:ms.size≤1000000000) :
 Calls Tryz.prog 127 #[.string s,.string ms] w fun e w'=>e=.returned (.bool (written ms.data.toList s.data.toList))∧w'=w:=by
 obtain ⟨A,hA⟩:∃A,written ms.data.toList s.data.toList=A:=⟨_,rfl⟩;rw [hA];have HA:=Lib.hid hA;clear hA;go_enter Tryz.func127,Tryz.ntmps127;go_wp2
 go_loop [5] (fun i=>∃k:Nat,k≤s.size∧i=.int .i64 k∧Hid (written ms.data.toList (s.data.toList.drop k)=A)) (fun i=>s.size-(intOf i).toNat)
 case atStart=>exact ⟨0,Nat.zero_le _,rfl,HA⟩
 case round=>
  obtain ⟨k,hk,rfl,hw⟩:=hrel;rcases Nat.lt_or_ge k s.size with hlt | hge
  ·have i1:(k:Int)<(s.size:Int):=by omega
   have hkl:k<s.data.toList.length:=by rw [len];exact hlt
   obtain ⟨c,hc⟩:∃c,s.data.toList[k]=c:=⟨_,rfl⟩;have hx:∀h,s[k]'h=c:=fun _=>hc;have hwd:=hw.out;rw [written_drop _ _ k hkl,hc] at hwd;have HW:=Lib.hid hwd;clear hwd hw
   have HL:=Lib.hid (fun w=>Oct.rletter_any (c.toNat:Int) w)
   have HD:=Lib.hid (fun w=>Oct.rdigit_any (c.toNat:Int) w);have hpl:plainB ms.data.toList c=((Oct.letter (c.toNat:Int)||Oct.digit (c.toNat:Int))||ms.data.toList.contains c):=rfl;have HPL:=Lib.hid hpl;clear hpl;have hbase:∃b0,(Oct.letter (c.toNat:Int)||Oct.digit (c.toNat:Int))=b0:=⟨_,rfl⟩;obtain ⟨b0,hb0⟩:=hbase;rw [hb0] at HPL;have hbb:(Oct.letter (c.toNat:Int)=true∧b0=true)∨(Oct.letter (c.toNat:Int)=false∧Oct.digit (c.toNat:Int)=b0):=by
    cases hl:Oct.letter (c.toNat:Int) with
    | true=>rw [hl,Bool.true_or] at hb0;exact .inl ⟨rfl,hb0.symm⟩
    | false=>rw [hl,Bool.false_or] at hb0;exact .inr ⟨rfl,hb0⟩
   clear hb0;rcases hbb with ⟨hl,hb0⟩ | ⟨hl,hd⟩
   rotate_left 1
   ·rw [hd] at HD;rw [hl] at HL;clear hl hd
    go_wp2_with (first
     |(go_at_call 118;with_reducible refine (HL.out _).mono ?_;rintro e w2 ⟨rfl,hw⟩;rw [hw];clear hw)
     |(go_at_call 106;with_reducible refine (HD.out _).mono ?_;rintro e w2 ⟨rfl,hw⟩;rw [hw];clear hw))
    clear HL HD
    go_loop [7,8] (fun ok j=>∃q:Nat,q≤ms.size∧j=.int .i64 q∧ok=.bool (b0|| (ms.data.toList.take q).contains c)) (fun _ j=>ms.size-(intOf j).toNat)
    case atStart=>exact ⟨0,Nat.zero_le _,rfl,by simp⟩
    case round=>
     obtain ⟨q,hq,rfl,rfl⟩:=hrel;rcases Nat.lt_or_ge q ms.size with hlq | hgq
     ·have j1:(q:Int)<(ms.size:Int):=by omega
      have hsn:=Lib.hid (contains_snoc ms.data.toList q (by rw [len];exact hlq) c);obtain ⟨y,hy⟩:∃y,ms.data.toList[q]'(by rw [len];exact hlq)=y:=⟨_,rfl⟩;have hym:∀h,ms[q]'h=y:=fun _=>hy;rw [hy] at hsn;clear hy;obtain ⟨z,hz⟩:∃z,(ms.data.toList.take (q+1)).contains c=z:=⟨_,rfl⟩;rw [hz] at hsn;have HZQ:=Lib.hid hz;clear hz;generalize (ms.data.toList.take q).contains c=v at *;cases hv:(b0||v) with
      | true=>
        have HZ:Hid ((b0||z)=true):=Lib.hid (by rw [hsn.out,←Bool.or_assoc,hv,Bool.true_or]);clear hv hsn;go_wp2;go_round
        case rel=>exact ⟨q+1,by omega,by go_num,by rw [HZQ.out,HZ.out]⟩
        case measure=>simp [intOf];omega
      | false=>
        have HZ:Hid ((b0||z)=(c==y)):=Lib.hid (by rw [hsn.out,←Bool.or_assoc,hv,Bool.false_or]);clear hv hsn;cases hcy:(c==y) with
        | true=>
          rw [hcy] at HZ;have t1:((c.toNat:Int)==(y.toNat:Int))=true:=by rw [beq_iff_eq.1 hcy];exact beq_self_eq_true _
          clear hcy;go_wp2;go_round
          case rel=>exact ⟨q+1,by omega,by go_num,by rw [HZQ.out,HZ.out]⟩
          case measure=>simp [intOf];omega
        | false=>
          rw [hcy] at HZ
          have t1:((c.toNat:Int)==(y.toNat:Int))=false:=beq_eq_false_iff_ne.2 fun e=>(beq_eq_false_iff_ne.1 hcy) (UInt8.toNat_inj.1 (by omega));clear hcy;go_wp2;go_round
          case rel=>exact ⟨q+1,by omega,by go_num,by rw [HZQ.out,HZ.out]⟩
          case measure=>simp [intOf];omega
     ·obtain rfl:q=ms.size:=by omega
      have j1:¬(ms.size:Int)<(ms.size:Int):=by omega
      rw [List.take_of_length_le (by rw [len];exact Nat.le_refl _),←HPL.out];by_cases hlong:c=37∧k+2<s.size
      ·obtain ⟨hc37,hlg⟩:=hlong;have t37:((c.toNat:Int)==37)=true:=by rw [hc37];rfl
       have m1:IntKind.i64.wrap ((s.size:Int)-(k:Int))=((s.size-k:Nat):Int):=by rw [wrap_in _ (by omega) (by omega)];omega
       have m2:(2:Int)<((s.size-k:Nat):Int):=by omega
       have m3:IntKind.i64.wrap ((k:Int)+1)=((k+1:Nat):Int):=by rw [wrap_in _ (by omega) (by omega)];omega
       have m4:IntKind.i64.wrap ((k:Int)+2)=((k+2:Nat):Int):=by rw [wrap_in _ (by omega) (by omega)];omega
       have i2:((k+1:Nat):Int)<(s.size:Int):=by omega
       have i3:((k+2:Nat):Int)<(s.size:Int):=by omega
       have hw2:=HW.out;rw [hc37,okAt_pct _ _ k (by rw [len];exact hlg)] at hw2;obtain ⟨a,ha⟩:∃a,s.data.toList[k+1]'(by rw [len];omega)=a:=⟨_,rfl⟩;obtain ⟨b,hb⟩:∃b,s.data.toList[k+2]'(by rw [len];omega)=b:=⟨_,rfl⟩;rw [ha,hb] at hw2;have ya:∀h,s[k+1]'h=a:=fun _=>ha;have yb:∀h,s[k+2]'h=b:=fun _=>hb
       have HXA:=Lib.hid (fun w=>Oct.rhex_any (a.toNat:Int) w (by omega) (Base.byte_lt a))
       have HXB:=Lib.hid (fun w=>Oct.rhex_any (b.toNat:Int) w (by omega) (Base.byte_lt b));have ea:Oct.isHex (a.toNat:Int)=hexB a:=rfl;have eb:Oct.isHex (b.toNat:Int)=hexB b:=rfl;rw [ea] at HXA;rw [eb] at HXB;have HW2:=Lib.hid hw2;clear hw2 ha hb ea eb hc37 hlg HW HPL hc;generalize Oct.hexVal (a.toNat:Int)=va at *;generalize Oct.hexVal (b.toNat:Int)=vb at *;generalize hexB a=ha at *;generalize hexB b=hb at *;rcases (show (ha=true∧hb=true)∨(ha&&hb)=false by cases ha<;>cases hb<;>simp) with ⟨rfl,rfl⟩ | hf
       ·have HW3:Hid (written ms.data.toList (s.data.toList.drop (k+1))=A):=HW2;clear HW2
        go_wp2_with (first
         |(go_at_call 114;with_reducible refine (HXA.out _).mono ?_;rintro e w2 ⟨rfl,hw⟩;rw [hw];clear hw)
         |(go_at_call 114;with_reducible refine (HXB.out _).mono ?_;rintro e w2 ⟨rfl,hw⟩;rw [hw];clear hw))
        go_round
        case rel=>exact ⟨k+1,by omega,by go_num,HW3⟩
        case measure=>simp [intOf];omega
       ·rw [hf] at HW2;have HF:Hid (false=A):=HW2;clear HW2;cases ha;all_goals cases hb
        all_goals try (exact absurd hf (by decide))
        all_goals
         clear hf
         go_wp2_with (first
          |(go_at_call 114;with_reducible refine (HXA.out _).mono ?_;rintro e w2 ⟨rfl,hw⟩;rw [hw];clear hw)
          |(go_at_call 114;with_reducible refine (HXB.out _).mono ?_;rintro e w2 ⟨rfl,hw⟩;rw [hw];clear hw))
         go_ret;exact ⟨by rw [←HF.out];rfl,rfl⟩
      ·have hok:okAt ms.data.toList c (s.data.toList.drop (k+1))=plainB ms.data.toList c:=by
        by_cases hc37:c=37
        ·exact okAt_short _ _ _ (by have:¬k+2<s.size:=fun h=>hlong ⟨hc37,h⟩;rw [List.length_drop,len];omega)
        ·exact okAt_plain _ _ _ hc37
       have HW2:=Lib.hid (by have:=HW.out;rwa [hok] at this);clear hok HW HPL;generalize plainB ms.data.toList c=pb at *;by_cases hc37:c=37
       ·have t37:((c.toNat:Int)==37)=true:=by rw [hc37];rfl
        have m1:IntKind.i64.wrap ((s.size:Int)-(k:Int))=((s.size-k:Nat):Int):=by rw [wrap_in _ (by omega) (by omega)];omega
        have m2:¬(2:Int)<((s.size-k:Nat):Int):=by have:¬k+2<s.size:=fun h=>hlong ⟨hc37,h⟩;omega
        clear hlong hc37 hc;cases pb with
        | true=>
          go_wp2;go_round
          case rel=>exact ⟨k+1,by omega,by go_num,Lib.hid (by have:=HW2.out;rwa [Bool.true_and] at this)⟩
          case measure=>simp [intOf];omega
        | false=>
          have hf:=HW2.out;rw [Bool.false_and] at hf;have HF:=Lib.hid hf;clear hf HW2;go_wp2;go_ret;exact ⟨by rw [←HF.out];rfl,rfl⟩
       ·have t37:((c.toNat:Int)==37)=false:=beq_eq_false_iff_ne.2 fun e=>hc37 (UInt8.toNat_inj.1 (by show c.toNat=37;omega));clear hlong hc37 hc;cases pb with
        | true=>
          go_wp2;go_round
          case rel=>exact ⟨k+1,by omega,by go_num,Lib.hid (by have:=HW2.out;rwa [Bool.true_and] at this)⟩
          case measure=>simp [intOf];omega
        | false=>
          have hf:=HW2.out;rw [Bool.false_and] at hf;have HF:=Lib.hid hf;clear hf HW2;go_wp2;go_ret;exact ⟨by rw [←HF.out];rfl,rfl⟩
   ·rw [hl] at HL;clear hl
    go_wp2_with (go_at_call 118;with_reducible refine (HL.out _).mono ?_;rintro e w2 ⟨rfl,hw⟩;rw [hw];clear hw);clear HL HD
    go_loop [7,8] (fun ok j=>∃q:Nat,q≤ms.size∧j=.int .i64 q∧ok=.bool (b0|| (ms.data.toList.take q).contains c)) (fun _ j=>ms.size-(intOf j).toNat)
    case atStart=>exact ⟨0,Nat.zero_le _,rfl,by simp [hb0]⟩
    case round=>
     obtain ⟨q,hq,rfl,rfl⟩:=hrel;rcases Nat.lt_or_ge q ms.size with hlq | hgq
     ·have j1:(q:Int)<(ms.size:Int):=by omega
      have hsn:=Lib.hid (contains_snoc ms.data.toList q (by rw [len];exact hlq) c);obtain ⟨y,hy⟩:∃y,ms.data.toList[q]'(by rw [len];exact hlq)=y:=⟨_,rfl⟩;have hym:∀h,ms[q]'h=y:=fun _=>hy;rw [hy] at hsn;clear hy;obtain ⟨z,hz⟩:∃z,(ms.data.toList.take (q+1)).contains c=z:=⟨_,rfl⟩;rw [hz] at hsn;have HZQ:=Lib.hid hz;clear hz;generalize (ms.data.toList.take q).contains c=v at *;cases hv:(b0||v) with
      | true=>
        have HZ:Hid ((b0||z)=true):=Lib.hid (by rw [hsn.out,←Bool.or_assoc,hv,Bool.true_or]);clear hv hsn;go_wp2;go_round
        case rel=>exact ⟨q+1,by omega,by go_num,by rw [HZQ.out,HZ.out]⟩
        case measure=>simp [intOf];omega
      | false=>
        have HZ:Hid ((b0||z)=(c==y)):=Lib.hid (by rw [hsn.out,←Bool.or_assoc,hv,Bool.false_or]);clear hv hsn;cases hcy:(c==y) with
        | true=>
          rw [hcy] at HZ;have t1:((c.toNat:Int)==(y.toNat:Int))=true:=by rw [beq_iff_eq.1 hcy];exact beq_self_eq_true _
          clear hcy;go_wp2;go_round
          case rel=>exact ⟨q+1,by omega,by go_num,by rw [HZQ.out,HZ.out]⟩
          case measure=>simp [intOf];omega
        | false=>
          rw [hcy] at HZ
          have t1:((c.toNat:Int)==(y.toNat:Int))=false:=beq_eq_false_iff_ne.2 fun e=>(beq_eq_false_iff_ne.1 hcy) (UInt8.toNat_inj.1 (by omega));clear hcy;go_wp2;go_round
          case rel=>exact ⟨q+1,by omega,by go_num,by rw [HZQ.out,HZ.out]⟩
          case measure=>simp [intOf];omega
     ·obtain rfl:q=ms.size:=by omega
      have j1:¬(ms.size:Int)<(ms.size:Int):=by omega
      rw [List.take_of_length_le (by rw [len];exact Nat.le_refl _),←HPL.out];by_cases hlong:c=37∧k+2<s.size
      ·obtain ⟨hc37,hlg⟩:=hlong;have t37:((c.toNat:Int)==37)=true:=by rw [hc37];rfl
       have m1:IntKind.i64.wrap ((s.size:Int)-(k:Int))=((s.size-k:Nat):Int):=by rw [wrap_in _ (by omega) (by omega)];omega
       have m2:(2:Int)<((s.size-k:Nat):Int):=by omega
       have m3:IntKind.i64.wrap ((k:Int)+1)=((k+1:Nat):Int):=by rw [wrap_in _ (by omega) (by omega)];omega
       have m4:IntKind.i64.wrap ((k:Int)+2)=((k+2:Nat):Int):=by rw [wrap_in _ (by omega) (by omega)];omega
       have i2:((k+1:Nat):Int)<(s.size:Int):=by omega
       have i3:((k+2:Nat):Int)<(s.size:Int):=by omega
       have hw2:=HW.out;rw [hc37,okAt_pct _ _ k (by rw [len];exact hlg)] at hw2;obtain ⟨a,ha⟩:∃a,s.data.toList[k+1]'(by rw [len];omega)=a:=⟨_,rfl⟩;obtain ⟨b,hb⟩:∃b,s.data.toList[k+2]'(by rw [len];omega)=b:=⟨_,rfl⟩;rw [ha,hb] at hw2;have ya:∀h,s[k+1]'h=a:=fun _=>ha;have yb:∀h,s[k+2]'h=b:=fun _=>hb
       have HXA:=Lib.hid (fun w=>Oct.rhex_any (a.toNat:Int) w (by omega) (Base.byte_lt a))
       have HXB:=Lib.hid (fun w=>Oct.rhex_any (b.toNat:Int) w (by omega) (Base.byte_lt b));have ea:Oct.isHex (a.toNat:Int)=hexB a:=rfl;have eb:Oct.isHex (b.toNat:Int)=hexB b:=rfl;rw [ea] at HXA;rw [eb] at HXB;have HW2:=Lib.hid hw2;clear hw2 ha hb ea eb hc37 hlg HW HPL hc;generalize Oct.hexVal (a.toNat:Int)=va at *;generalize Oct.hexVal (b.toNat:Int)=vb at *;generalize hexB a=ha at *;generalize hexB b=hb at *;rcases (show (ha=true∧hb=true)∨(ha&&hb)=false by cases ha<;>cases hb<;>simp) with ⟨rfl,rfl⟩ | hf
       ·have HW3:Hid (written ms.data.toList (s.data.toList.drop (k+1))=A):=HW2;clear HW2
        go_wp2_with (first
         |(go_at_call 114;with_reducible refine (HXA.out _).mono ?_;rintro e w2 ⟨rfl,hw⟩;rw [hw];clear hw)
         |(go_at_call 114;with_reducible refine (HXB.out _).mono ?_;rintro e w2 ⟨rfl,hw⟩;rw [hw];clear hw))
        go_round
        case rel=>exact ⟨k+1,by omega,by go_num,HW3⟩
        case measure=>simp [intOf];omega
       ·rw [hf] at HW2;have HF:Hid (false=A):=HW2;clear HW2;cases ha;all_goals cases hb
        all_goals try (exact absurd hf (by decide))
        all_goals
         clear hf
         go_wp2_with (first
          |(go_at_call 114;with_reducible refine (HXA.out _).mono ?_;rintro e w2 ⟨rfl,hw⟩;rw [hw];clear hw)
          |(go_at_call 114;with_reducible refine (HXB.out _).mono ?_;rintro e w2 ⟨rfl,hw⟩;rw [hw];clear hw))
         go_ret;exact ⟨by rw [←HF.out];rfl,rfl⟩
      ·have hok:okAt ms.data.toList c (s.data.toList.drop (k+1))=plainB ms.data.toList c:=by
        by_cases hc37:c=37
        ·exact okAt_short _ _ _ (by have:¬k+2<s.size:=fun h=>hlong ⟨hc37,h⟩;rw [List.length_drop,len];omega)
        ·exact okAt_plain _ _ _ hc37
       have HW2:=Lib.hid (by have:=HW.out;rwa [hok] at this);clear hok HW HPL;generalize plainB ms.data.toList c=pb at *;by_cases hc37:c=37
       ·have t37:((c.toNat:Int)==37)=true:=by rw [hc37];rfl
        have m1:IntKind.i64.wrap ((s.size:Int)-(k:Int))=((s.size-k:Nat):Int):=by rw [wrap_in _ (by omega) (by omega)];omega
        have m2:¬(2:Int)<((s.size-k:Nat):Int):=by have:¬k+2<s.size:=fun h=>hlong ⟨hc37,h⟩;omega
        clear hlong hc37 hc;cases pb with
        | true=>
          go_wp2;go_round
          case rel=>exact ⟨k+1,by omega,by go_num,Lib.hid (by have:=HW2.out;rwa [Bool.true_and] at this)⟩
          case measure=>simp [intOf];omega
        | false=>
          have hf:=HW2.out;rw [Bool.false_and] at hf;have HF:=Lib.hid hf;clear hf HW2;go_wp2;go_ret;exact ⟨by rw [←HF.out];rfl,rfl⟩
       ·have t37:((c.toNat:Int)==37)=false:=beq_eq_false_iff_ne.2 fun e=>hc37 (UInt8.toNat_inj.1 (by show c.toNat=37;omega));clear hlong hc37 hc;cases pb with
        | true=>
          go_wp2;go_round
          case rel=>exact ⟨k+1,by omega,by go_num,Lib.hid (by have:=HW2.out;rwa [Bool.true_and] at this)⟩
          case measure=>simp [intOf];omega
        | false=>
          have hf:=HW2.out;rw [Bool.false_and] at hf;have HF:=Lib.hid hf;clear hf HW2;go_wp2;go_ret;exact ⟨by rw [←HF.out];rfl,rfl⟩
  ·obtain rfl:k=s.size:=by omega
   have hw1:=hw.out;rw [List.drop_eq_nil_of_le (by rw [len];exact Nat.le_refl _)] at hw1
   have HT:=Lib.hid (show true=A from hw1);clear hw hw1;go_wp2;go_ret;exact ⟨by rw [←HT.out];rfl,rfl⟩
end code
end Go.Proofs.YtimoakmcelocfaaGreat.Tgt
namespace Go.Proofs.YtimoakmcelocfaaGreat.Tgt
open Go.RowKit Base Oct Num Txt
section code
set_option maxHeartbeats 1000000
attribute [local go_sem] Base.some_undef
theorem rquery_any (s:ByteArray) (w:World) (hs:s.size≤1000000000):Calls Tryz.prog 122 #[.string s] w fun e w'=>e=.returned (.bool (queryB s.data.toList))∧w'=w:=by
 have HW:=Lib.hid (fun w=>rof_any s ⟨#[45,46,95,126,33,36,38,39,40,41,42,43,44,59,61,58,64,47,63]⟩ w hs (by decide));rw [show (ByteArray.mk #[45,46,95,126,33,36,38,39,40,41,42,43,44,59,61,58,64,47,63]).data.toList=queryMarks from rfl] at HW;unfold queryB;generalize written queryMarks s.data.toList=q at *;go_enter Tryz.func122,Tryz.ntmps122
 go_wp2_with (go_at_call 127;with_reducible refine (HW.out _).mono ?_;rintro e w1 ⟨rfl,hw⟩;rw [hw];clear hw);go_ret;exact ⟨rfl,rfl⟩
theorem rpath_any (s:ByteArray) (w:World) (hs:s.size≤1000000000):Calls Tryz.prog 121 #[.string s] w fun e w'=>e=.returned (.bool (pathB s.data.toList))∧w'=w:=by
 have HW:=Lib.hid (fun w=>rof_any s ⟨#[45,46,95,126,33,36,38,39,40,41,42,43,44,59,61,58,64,47]⟩ w hs (by decide));rw [show (ByteArray.mk #[45,46,95,126,33,36,38,39,40,41,42,43,44,59,61,58,64,47]).data.toList=pathMarks from rfl] at HW;unfold pathB;cases hl:s.data.toList with
 | nil=>
   have he:=empty_of hl;clear hl HW;go_enter Tryz.func121,Tryz.ntmps121;go_wp2;go_ret;exact ⟨rfl,rfl⟩
 | cons c r=>
   have he:=full_of hl;have hz:=size_cons hl;have h0:(0:Int)<(s.size:Int):=by omega
   have e0:∀h,s[0]'h=c:=fun h=>at_zero hl h;rw [hl] at HW;clear hl hz;generalize written pathMarks (c::r)=q at *;rw [List.head?_cons];by_cases hc:c=47
   ·have t1:((c.toNat:Int)==47)=true:=by rw [hc];rfl
    rw [decide_eq_true (by rw [hc]),Bool.true_and];clear hc;go_enter Tryz.func121,Tryz.ntmps121
    go_wp2_with (go_at_call 127;with_reducible refine (HW.out _).mono ?_;rintro e w1 ⟨rfl,hw⟩;rw [hw];clear hw);go_ret;exact ⟨rfl,rfl⟩
   ·have t1:((c.toNat:Int)==47)=false:=beq_eq_false_iff_ne.2 fun e=>hc (UInt8.toNat_inj.1 (by show c.toNat=47;omega));rw [decide_eq_false (fun e=>hc (Option.some.inj e)),Bool.false_and];clear hc;go_enter Tryz.func121,Tryz.ntmps121;go_wp2;go_ret;exact ⟨rfl,rfl⟩
theorem rport_any (s:ByteArray) (w:World) (hs:s.size≤1000000000):Calls Tryz.prog 103 #[.string s] w fun e w'=>e=.returned (.bool (s.data.toList.contains 58))∧w'=w:=by
 obtain ⟨A,hA⟩:∃A,s.data.toList.contains 58=A:=⟨_,rfl⟩;rw [hA];have HA:=Lib.hid hA;clear hA;go_enter Tryz.func103,Tryz.ntmps103;go_wp2
 go_loop [3] (fun i=>∃k:Nat,k≤s.size∧i=.int .i64 k∧Hid ((s.data.toList.take k).contains 58=false)) (fun i=>s.size-(intOf i).toNat)
 case atStart=>exact ⟨0,Nat.zero_le _,rfl,Lib.hid rfl⟩
 case round=>
  obtain ⟨k,hk,rfl,hno⟩:=hrel;rcases Nat.lt_or_ge k s.size with hlt | hge
  ·have i1:(k:Int)<(s.size:Int):=by omega
   have hkl:k<s.data.toList.length:=by rw [len];exact hlt
   have hsn:=Lib.hid (contains_snoc s.data.toList k hkl 58);obtain ⟨c,hc⟩:∃c,s.data.toList[k]=c:=⟨_,rfl⟩;have hx:∀h,s[k]'h=c:=fun _=>hc
   have hmem:=Lib.hid (List.getElem_mem hkl);rw [hc] at hsn hmem;clear hc hkl;by_cases h58:c=58
   ·have t1:((c.toNat:Int)==58)=true:=by rw [h58];rfl
    have HT:Hid (true=A):=Lib.hid (by rw [←HA.out,List.contains_iff_mem.2 (by rw [←h58];exact hmem.out)]);clear h58;go_wp2;go_ret;exact ⟨by rw [←HT.out];rfl,rfl⟩
   ·have t1:((c.toNat:Int)==58)=false:=beq_eq_false_iff_ne.2 fun e=>h58 (UInt8.toNat_inj.1 (by show c.toNat=58;omega))
    have HN:Hid ((s.data.toList.take (k+1)).contains 58=false):=Lib.hid (by rw [hsn.out,hno.out,Bool.false_or];exact beq_eq_false_iff_ne.2 fun e=>h58 e.symm);clear h58;go_wp2;go_round
    case rel=>exact ⟨k+1,by omega,by go_num,HN⟩
    case measure=>simp [intOf];omega
  ·obtain rfl:k=s.size:=by omega
   have h1:=hno.out;rw [take_all s _ (Nat.le_refl _),HA.out] at h1;have HT:=Lib.hid h1;clear hno h1;go_wp2;go_ret;exact ⟨by rw [HT.out];rfl,rfl⟩
end code
end Go.Proofs.YtimoakmcelocfaaGreat.Tgt
namespace Go.Proofs.YtimoakmcelocfaaGreat.Tgt
open Go.RowKit Base Oct Num Txt
theorem cut_hit (c:UInt8) (l:List UInt8) (k:Nat) (hk:k<l.length) (hc:l[k]=c) (hno:c∉l.take k):cutAt c l=(l.take k,l.drop (k+1),true):=by
 have e:l=l.take k++c::l.drop (k+1):=by conv=>lhs;rw [←List.take_append_drop k l,List.drop_eq_getElem_cons hk,hc]
 conv=>lhs;rw [e]
 exact cutAt_app c _ _ hno
section code
set_option maxHeartbeats 1000000
attribute [local go_sem] Base.some_undef
set_option maxRecDepth 10000 in
theorem rorigin_any (s:ByteArray) (w:World) (hs:s.size≤1000000000) :
 Calls Tryz.prog 105 #[.string s] w fun e w'=>e=.returned (.tuple #[tv 0 E0 (ba (cutAt 63 s.data.toList).1) (ba (cutAt 63 s.data.toList).2.1) (cutAt 63 s.data.toList).2.2,.bool (pathB (cutAt 63 s.data.toList).1&&queryB (cutAt 63 s.data.toList).2.1)])∧Below w.heap.size w w':=by
 obtain ⟨R,hR⟩:∃R,cutAt 63 s.data.toList=R:=⟨_,rfl⟩;rw [hR];have HR:=Lib.hid hR
 have HRL:=Lib.hid (cutAt_le 63 s.data.toList);rw [hR,len] at HRL;clear hR;obtain ⟨p,q,bb⟩:=R;simp only at HRL;simp only
 have HP:=Lib.hid (fun w=>rpath_any (ba p) w (by rw [ba_size];have:=HRL.out.1;omega))
 have HQ:=Lib.hid (fun w=>rquery_any (ba q) w (by rw [ba_size];have:=HRL.out.2;omega));rw [ba_list] at HP HQ;generalize pathB p=pk at *;generalize queryB q=qk at *;have HPP:Hid (∀k (hk:k<s.data.toList.length),s.data.toList[k]=63→(63:UInt8)∉s.data.toList.take k→s.extract 0 k=ba p∧s.extract (k+1) s.size=ba q∧true=bb):=Lib.hid fun k hk hc hno=>by have h1:=HR.out;rw [cut_hit 63 _ k hk hc hno] at h1;simp only [Prod.mk.injEq] at h1;exact ⟨ba_ext (by rw [Lib.extract_data,←h1.1];simp [ba]),ba_ext (by rw [drop_ext,←h1.2.1];rfl),h1.2.2⟩
 have HEE:Hid ((63:UInt8)∉s.data.toList→s=ba p∧E0=ba q∧false=bb):=Lib.hid fun hno=>by have h1:=HR.out;rw [cutAt_none 63 _ hno] at h1;simp only [Prod.mk.injEq] at h1;exact ⟨by rw [←h1.1];rfl,by rw [←h1.2.1];rfl,h1.2.2⟩
 clear HR HRL;generalize ba p=PP at *;generalize ba q=QQ at *;have hc2:=Tgb.new w 127 0 E0 E0 E0 false;have hg2':w.heap.size<(w.alloc (.cells #[.int .i64 0,.string E0,.string E0,.string E0,.bool false] 127)).heap.size:=by simp
 have hsz2:(w.alloc (.cells #[.int .i64 0,.string E0,.string E0,.string E0,.bool false] 127)).heap.size=w.heap.size+1:=by simp
 have hb2:Below w.heap.size w (w.alloc (.cells #[.int .i64 0,.string E0,.string E0,.string E0,.bool false] 127)):=(Below.refl _ _).alloc (Nat.le_refl _) _;have hn24:¬w.heap.size=w.heap.size+1:=by omega
 go_enter Tryz.func105,Tryz.ntmps105;go_upto_region 2 with fail
 generalize w.alloc (.cells #[.int .i64 0,.string E0,.string E0,.string E0,.bool false] 127)=W2 at *;have hc4:=Tgb.new W2 127 0 E0 s E0 false;have hb4:Below W2.heap.size W2 (W2.alloc (.cells #[.int .i64 0,.string E0,.string s,.string E0,.bool false] 127)):=(Below.refl _ _).alloc (Nat.le_refl _) _;have hg4:W2.heap.size<(W2.alloc (.cells #[.int .i64 0,.string E0,.string s,.string E0,.bool false] 127)).heap.size:=by simp
 generalize W2.alloc (.cells #[.int .i64 0,.string E0,.string s,.string E0,.bool false] 127)=W at *
 have H2w:=Lib.hid (hc2.below hg2' hb4)
 have HBw:=Lib.hid (hb2.trans (hb4.mono (Nat.le_of_lt hg2')))
 have HG2w:=Lib.hid (Nat.lt_trans hg2' hg4);rw [hsz2] at hc4 hg4;have H4w:=Lib.hid hc4;have HG4w:=Lib.hid hg4;clear hc2 hg2' hsz2 hb2 hc4 hb4 hg4;go_wp2_with fail
 go_loopw [5] (fun i wr=>∃k:Nat,k≤s.size∧i=.int .i64 k∧wr=W∧Hid ((63:UInt8)∉s.data.toList.take k)) (fun i _=>s.size-(intOf i).toNat)
 case atStart=>exact ⟨0,Nat.zero_le _,rfl,rfl,Lib.hid (by simp)⟩
 case round=>
  obtain ⟨k,hk,rfl,rfl,hno⟩:=hrel;rcases Nat.lt_or_ge k s.size with hlt | hge
  ·have i1:(k:Int)<(s.size:Int):=by omega
   have hkl:k<s.data.toList.length:=by rw [len];exact hlt
   obtain ⟨c,hc⟩:∃c,s.data.toList[k]=c:=⟨_,rfl⟩;have hx:∀h,s[k]'h=c:=fun _=>hc;by_cases h63:c=63
   ·have t1:((c.toNat:Int)==63)=true:=by rw [h63];rfl
    obtain ⟨e1,e2,e3⟩:=HPP.out k hkl (hc.trans h63) hno.out;have j0:(0:Int)≤(k:Int):=by omega
    have j1:(k:Int)≤(s.size:Int):=by omega
    have m1:IntKind.i64.wrap ((k:Int)+1)=((k+1:Nat):Int):=by rw [wrap_in _ (by omega) (by omega)];omega
    have j2:(k:Int)+1≤(s.size:Int):=by omega
    have j3:(0:Int)≤(k:Int)+1:=by omega
    clear h63 hc hkl hno;subst e3;go_wp2_with fail;refine Sched.region [(0,false),(1,false),(2,false),(3,false),(4,false),(5,false),(6,false),(7,false),(8,true),(9,false),(10,true),(11,false),(12,true)] (fun _=>True) (by kernel_rfl) (by kernel_rfl) (fun _ _ d _ _ h=>by cases d<;>exact h) trivial ?_
    have HY4:=Lib.hid (H4w.out.below HG4w.out (Base.below_drewN (Below.refl _ _) 1))
    have HY2:=Lib.hid (H2w.out.below HG2w.out (Base.below_drewN (Below.refl _ _) 1))
    have HYB:=Lib.hid (Base.below_drewN HBw.out 1);have HYG:Hid (w.heap.size+1<(World.drewN wr 1).heap.size):=HG4w;generalize World.drewN wr 1=W6 at *;simp only [Sched.picked,List.filterMap_cons,List.filterMap_nil,List.getElem?_cons_zero,List.getElem?_cons_succ,Option.map_some]
    iterate 8
     refine Sched.quiet (by rfl) ?_ ?_ ?_
     rotate_left 1
     ·intro w' hS;clear hS;go_simp;with_reducible rfl
     simp only [Act.put,List.setIfInBounds_toArray,List.set_cons_zero,List.set_cons_succ]
    obtain ⟨c0,c1,c2,c3,c4,z0,z1,z2,z3,z4⟩:=HY4.out
    refine Sched.change (by rfl) (fun K hK=>?_);go_simp;refine hK _ _ trivial ?_;clear hK K;refine Sched.quiet (by rfl) ?_ ?_ ?_
    rotate_left 1
    ·intro w' hS;clear hS;go_simp;with_reducible rfl
    simp only [Act.put,List.setIfInBounds_toArray,List.set_cons_zero,List.set_cons_succ]
    refine Sched.change (by rfl) (fun K hK=>?_);go_simp;refine hK _ _ trivial ?_;clear hK K;refine Sched.quiet (by rfl) ?_ ?_ ?_
    rotate_left 1
    ·intro w' hS;clear hS;go_simp;with_reducible rfl
    simp only [Act.put,List.setIfInBounds_toArray,List.set_cons_zero,List.set_cons_succ]
    refine Sched.change (by rfl) (fun K hK=>?_);go_simp;refine hK _ _ trivial ?_;clear hK K;refine Sched.done ?_
    have H4:Hid (Tgb (((W6.setCell ⟨w.heap.size+1,2,none⟩ (.string PP)).setCell ⟨w.heap.size+1,3,none⟩ (.string QQ)).setCell ⟨w.heap.size+1,4,none⟩ (.bool true)) (w.heap.size+1) 0 E0 PP QQ true):=Lib.hid (by refine ⟨?_,?_,?_,?_,?_,?_,?_,?_,?_,?_⟩;all_goals go_simp)
    have hn42:¬w.heap.size+1=w.heap.size:=by omega
    have H2:=Lib.hid (((HY2.out.other (w.heap.size+1) 2 (.string PP) hn42).other (w.heap.size+1) 3 (.string QQ) hn42).other (w.heap.size+1) 4 (.bool true) hn42);have hle:w.heap.size≤w.heap.size+1:=Nat.le_succ _
    have HB:=Lib.hid (((HYB.out.setCell (p:=⟨w.heap.size+1,2,none⟩) hle (.string PP)).setCell (p:=⟨w.heap.size+1,3,none⟩) hle (.string QQ)).setCell (p:=⟨w.heap.size+1,4,none⟩) hle (.bool true))
    have HG4:Hid (w.heap.size+1<(((W6.setCell ⟨w.heap.size+1,2,none⟩ (.string PP)).setCell ⟨w.heap.size+1,3,none⟩ (.string QQ)).setCell ⟨w.heap.size+1,4,none⟩ (.bool true)).heap.size):=Lib.hid (by simpa using HYG.out)
    have HG2:=Lib.hid (Nat.lt_of_le_of_lt hle HG4.out);clear HY4 HY2 HYB HYG c0 c1 c2 c3 c4 z0 z1 z2 z3 z4 H4w H2w HBw HG4w HG2w;generalize ((W6.setCell ⟨w.heap.size+1,2,none⟩ (.string PP)).setCell ⟨w.heap.size+1,3,none⟩ (.string QQ)).setCell ⟨w.heap.size+1,4,none⟩ (.bool true)=W7 at *;go_wp2_with fail
    have HW7:=Lib.hid (H4.out.below HG4.out (Base.below_drewN (Below.refl _ _) 1))
    have HX7:=Lib.hid (H2.out.below HG2.out (Base.below_drewN (Below.refl _ _) 1))
    have HB7:=Lib.hid (Base.below_drewN HB.out 1);refine Sched.region [(0,false),(1,false),(2,false),(3,true),(4,false),(5,false),(6,false),(7,true),(8,false),(9,true),(10,false)] (fun w'=>Tgb w' (w.heap.size+1) 0 E0 PP QQ true) (by kernel_rfl) (by kernel_rfl) (fun _ _ d _ _ h=>by cases d<;>exact h) HW7.out ?_;generalize World.drewN W7 1=W8 at *;simp only [Sched.picked,List.filterMap_cons,List.filterMap_nil,List.getElem?_cons_zero,List.getElem?_cons_succ,Option.map_some]
    iterate 3
     refine Sched.quiet (by rfl) ?_ ?_ ?_
     rotate_left 1
     ·intro w' hS;obtain ⟨c0,c1,c2,c3,c4,_,_,_,_,_⟩:=hS;go_simp;with_reducible rfl
     simp only [Act.put,List.setIfInBounds_toArray,List.set_cons_zero,List.set_cons_succ]
    refine Sched.change (by rfl) (fun K hK=>?_);go_simp;with_reducible refine (HP.out _).mono ?_
    rintro e w1 ⟨rfl,hw⟩;rw [hw];clear hw;dsimp only;refine hK _ _ HW7.out ?_;clear hK K;refine Sched.move _ (by rfl) (by rfl) ?_;simp only [Act.put,Act.eval,Array.getD_eq_getD_getElem?,List.getElem?_toArray,List.getElem?_cons_zero,List.getElem?_cons_succ,Option.getD_some,List.setIfInBounds_toArray,List.set_cons_zero,List.set_cons_succ];cases pk with
    | false=>
      iterate 3
       refine Sched.skip (by rfl) ?_;simp only [Act.put,List.setIfInBounds_toArray,List.set_cons_zero,List.set_cons_succ]
      refine Sched.quiet (by rfl) (.bool false) ?_ ?_
      ·intro w' hS;clear hS;go_simp
      simp only [Act.put,List.setIfInBounds_toArray,List.set_cons_zero,List.set_cons_succ]
      refine Sched.change (by rfl) (fun K hK=>?_);obtain ⟨c0,c1,c2,c3,c4,z0,z1,z2,z3,z4⟩:=HX7.out;obtain ⟨W9,hW9,⟨d0,d1,d2,d3,d4,_,_,_,_,_⟩,hbW⟩:=Tgb.put ⟨c0,c1,c2,c3,c4,z0,z1,z2,z3,z4⟩ HB7.out (Nat.le_refl _) 0 E0 PP QQ true;go_simp;refine hK _ _ ?_ ?_
      ·rw [←hW9];exact ((((HW7.out.other w.heap.size 0 _ hn24).other w.heap.size 1 _ hn24).other w.heap.size 2 _ hn24).other w.heap.size 3 _ hn24).other w.heap.size 4 _ hn24
      clear hK K;refine Sched.assign _ (by rfl) (by rfl) ?_;simp only [Act.put,Act.eval,Array.getD_eq_getD_getElem?,List.getElem?_toArray,List.getElem?_cons_zero,List.getElem?_cons_succ,Option.getD_some,List.setIfInBounds_toArray,List.set_cons_zero,List.set_cons_succ];refine Sched.done ?_;go_wp2;exact bodyPost_ret (v:=.tuple #[tv 0 E0 PP QQ true,.bool false]) (by simp [results,Tryz.results105,go_sem,d0,d1,d2,d3,d4]) rfl ⟨rfl,hbW⟩
    | true=>
      iterate 2
       refine Sched.quiet (by rfl) ?_ ?_ ?_
       rotate_left 1
       ·intro w' hS;obtain ⟨c0,c1,c2,c3,c4,_,_,_,_,_⟩:=hS;go_simp;with_reducible rfl
       simp only [Act.put,List.setIfInBounds_toArray,List.set_cons_zero,List.set_cons_succ]
      refine Sched.change (by rfl) (fun K hK=>?_);go_simp;with_reducible refine (HQ.out _).mono ?_
      rintro e w1 ⟨rfl,hw⟩;rw [hw];clear hw;dsimp only;refine hK _ _ HW7.out ?_;clear hK K;refine Sched.quiet (by rfl) (.bool qk) ?_ ?_
      ·intro w' hS;clear hS;go_simp
      simp only [Act.put,List.setIfInBounds_toArray,List.set_cons_zero,List.set_cons_succ]
      refine Sched.change (by rfl) (fun K hK=>?_);obtain ⟨c0,c1,c2,c3,c4,z0,z1,z2,z3,z4⟩:=HX7.out;obtain ⟨W9,hW9,⟨d0,d1,d2,d3,d4,_,_,_,_,_⟩,hbW⟩:=Tgb.put ⟨c0,c1,c2,c3,c4,z0,z1,z2,z3,z4⟩ HB7.out (Nat.le_refl _) 0 E0 PP QQ true;go_simp;refine hK _ _ ?_ ?_
      ·rw [←hW9];exact ((((HW7.out.other w.heap.size 0 _ hn24).other w.heap.size 1 _ hn24).other w.heap.size 2 _ hn24).other w.heap.size 3 _ hn24).other w.heap.size 4 _ hn24
      clear hK K;refine Sched.assign _ (by rfl) (by rfl) ?_;simp only [Act.put,Act.eval,Array.getD_eq_getD_getElem?,List.getElem?_toArray,List.getElem?_cons_zero,List.getElem?_cons_succ,Option.getD_some,List.setIfInBounds_toArray,List.set_cons_zero,List.set_cons_succ];refine Sched.done ?_;go_wp2;exact bodyPost_ret (v:=.tuple #[tv 0 E0 PP QQ true,.bool qk]) (by simp [results,Tryz.results105,go_sem,d0,d1,d2,d3,d4]) rfl ⟨rfl,hbW⟩
   ·have t1:((c.toNat:Int)==63)=false:=beq_eq_false_iff_ne.2 fun e=>h63 (UInt8.toNat_inj.1 (by show c.toNat=63;omega))
    have HN:Hid ((63:UInt8)∉s.data.toList.take (k+1)):=Lib.hid (by rw [List.take_succ_eq_append_getElem hkl,hc,List.mem_append,not_or];exact ⟨hno.out,by rw [List.mem_singleton];exact fun e=>h63 e.symm⟩)
    clear h63 hc hkl hno;go_wp2_with fail;go_roundw
    case rel=>first | exact ⟨k+1,by omega,by go_num,rfl,HN⟩ | exact ⟨k+1,by omega,by go_num,trivial,HN⟩
    case measure=>simp [intOf];omega
  ·obtain rfl:k=s.size:=by omega
   have h1:=hno.out;rw [take_all s _ (Nat.le_refl _)] at h1;obtain ⟨e1,e2,e3⟩:=HEE.out h1;clear hno h1;subst e1 e2 e3;go_wp2_with fail;have H4:=H4w;have H2:=H2w;have HB:=HBw;have HG4:=HG4w;have HG2:=HG2w;clear H4w H2w HBw HG4w HG2w;generalize wr=W7 at *
   have HW7:=Lib.hid (H4.out.below HG4.out (Base.below_drewN (Below.refl _ _) 1))
   have HX7:=Lib.hid (H2.out.below HG2.out (Base.below_drewN (Below.refl _ _) 1))
   have HB7:=Lib.hid (Base.below_drewN HB.out 1);refine Sched.region [(0,false),(1,false),(2,false),(3,true),(4,false),(5,false),(6,false),(7,true),(8,false),(9,true),(10,false)] (fun w'=>Tgb w' (w.heap.size+1) 0 E0 s E0 false) (by kernel_rfl) (by kernel_rfl) (fun _ _ d _ _ h=>by cases d<;>exact h) HW7.out ?_;generalize World.drewN W7 1=W8 at *;simp only [Sched.picked,List.filterMap_cons,List.filterMap_nil,List.getElem?_cons_zero,List.getElem?_cons_succ,Option.map_some]
   iterate 3
    refine Sched.quiet (by rfl) ?_ ?_ ?_
    rotate_left 1
    ·intro w' hS;obtain ⟨c0,c1,c2,c3,c4,_,_,_,_,_⟩:=hS;go_simp;with_reducible rfl
    simp only [Act.put,List.setIfInBounds_toArray,List.set_cons_zero,List.set_cons_succ]
   refine Sched.change (by rfl) (fun K hK=>?_);go_simp;with_reducible refine (HP.out _).mono ?_
   rintro e w1 ⟨rfl,hw⟩;rw [hw];clear hw;dsimp only;refine hK _ _ HW7.out ?_;clear hK K;refine Sched.move _ (by rfl) (by rfl) ?_;simp only [Act.put,Act.eval,Array.getD_eq_getD_getElem?,List.getElem?_toArray,List.getElem?_cons_zero,List.getElem?_cons_succ,Option.getD_some,List.setIfInBounds_toArray,List.set_cons_zero,List.set_cons_succ];cases pk with
   | false=>
     iterate 3
      refine Sched.skip (by rfl) ?_;simp only [Act.put,List.setIfInBounds_toArray,List.set_cons_zero,List.set_cons_succ]
     refine Sched.quiet (by rfl) (.bool false) ?_ ?_
     ·intro w' hS;clear hS;go_simp
     simp only [Act.put,List.setIfInBounds_toArray,List.set_cons_zero,List.set_cons_succ]
     refine Sched.change (by rfl) (fun K hK=>?_);obtain ⟨c0,c1,c2,c3,c4,z0,z1,z2,z3,z4⟩:=HX7.out;obtain ⟨W9,hW9,⟨d0,d1,d2,d3,d4,_,_,_,_,_⟩,hbW⟩:=Tgb.put ⟨c0,c1,c2,c3,c4,z0,z1,z2,z3,z4⟩ HB7.out (Nat.le_refl _) 0 E0 s E0 false;go_simp;refine hK _ _ ?_ ?_
     ·rw [←hW9];exact ((((HW7.out.other w.heap.size 0 _ hn24).other w.heap.size 1 _ hn24).other w.heap.size 2 _ hn24).other w.heap.size 3 _ hn24).other w.heap.size 4 _ hn24
     clear hK K;refine Sched.assign _ (by rfl) (by rfl) ?_;simp only [Act.put,Act.eval,Array.getD_eq_getD_getElem?,List.getElem?_toArray,List.getElem?_cons_zero,List.getElem?_cons_succ,Option.getD_some,List.setIfInBounds_toArray,List.set_cons_zero,List.set_cons_succ];refine Sched.done ?_;go_wp2;exact bodyPost_ret (v:=.tuple #[tv 0 E0 s E0 false,.bool false]) (by simp [results,Tryz.results105,go_sem,d0,d1,d2,d3,d4]) rfl ⟨rfl,hbW⟩
   | true=>
     iterate 2
      refine Sched.quiet (by rfl) ?_ ?_ ?_
      rotate_left 1
      ·intro w' hS;obtain ⟨c0,c1,c2,c3,c4,_,_,_,_,_⟩:=hS;go_simp;with_reducible rfl
      simp only [Act.put,List.setIfInBounds_toArray,List.set_cons_zero,List.set_cons_succ]
     refine Sched.change (by rfl) (fun K hK=>?_);go_simp;with_reducible refine (HQ.out _).mono ?_
     rintro e w1 ⟨rfl,hw⟩;rw [hw];clear hw;dsimp only;refine hK _ _ HW7.out ?_;clear hK K;refine Sched.quiet (by rfl) (.bool qk) ?_ ?_
     ·intro w' hS;clear hS;go_simp
     simp only [Act.put,List.setIfInBounds_toArray,List.set_cons_zero,List.set_cons_succ]
     refine Sched.change (by rfl) (fun K hK=>?_);obtain ⟨c0,c1,c2,c3,c4,z0,z1,z2,z3,z4⟩:=HX7.out;obtain ⟨W9,hW9,⟨d0,d1,d2,d3,d4,_,_,_,_,_⟩,hbW⟩:=Tgb.put ⟨c0,c1,c2,c3,c4,z0,z1,z2,z3,z4⟩ HB7.out (Nat.le_refl _) 0 E0 s E0 false;go_simp;refine hK _ _ ?_ ?_
     ·rw [←hW9];exact ((((HW7.out.other w.heap.size 0 _ hn24).other w.heap.size 1 _ hn24).other w.heap.size 2 _ hn24).other w.heap.size 3 _ hn24).other w.heap.size 4 _ hn24
     clear hK K;refine Sched.assign _ (by rfl) (by rfl) ?_;simp only [Act.put,Act.eval,Array.getD_eq_getD_getElem?,List.getElem?_toArray,List.getElem?_cons_zero,List.getElem?_cons_succ,Option.getD_some,List.setIfInBounds_toArray,List.set_cons_zero,List.set_cons_succ];refine Sched.done ?_;go_wp2;exact bodyPost_ret (v:=.tuple #[tv 0 E0 s E0 false,.bool qk]) (by simp [results,Tryz.results105,go_sem,d0,d1,d2,d3,d4]) rfl ⟨rfl,hbW⟩
end code
end Go.Proofs.YtimoakmcelocfaaGreat.Tgt
namespace Go.Proofs.YtimoakmcelocfaaGreat.Tgt
open Go.RowKit Base Oct Num Txt
theorem cutAt_head (c d:UInt8) (l:List UInt8) (h:(cutAt c l).1.head?=some d):l.head?=some d:=by
 cases l with
 | nil=>simp [cutAt] at h
 | cons b r=>
   rw [cutAt] at h;split at h
   ·simp at h
   ·simpa using h
theorem origin_head {l:List UInt8} (h:l.head?≠some 47):origin l=none:=by
 unfold origin;have:pathB (cutAt 63 l).1=false:=by unfold pathB;rw [decide_eq_false (fun e=>h (cutAt_head _ _ _ e)),Bool.false_and]
 rw [this,Bool.false_and];rfl
theorem schemed_head {l:List UInt8} (h:l.head?=some 47):schemed l=false:=by
 cases l with
 | nil=>simp at h
 | cons c r=>
   obtain rfl:c=47:=by simpa using h
   unfold schemed;have:(low (((47:UInt8)::r).take 7)==low http)=false:=by rw [beq_eq_false_iff_ne];intro e;have e2:=congrArg (fun x=>x.head?) e;revert e2;show some (lowB 47)=some (lowB 104)→False;decide
   rw [this,Bool.and_false]
theorem parse_alt {m l:List UInt8} (hm:¬m=connect) (ho:¬(m=options∧l= [42])):parse m l=if schemed l=true then absolute (l.drop 7) else origin l:=by
 rw [parse,if_neg hm,if_neg ho];by_cases hd:l.head?=some 47
 ·rw [if_pos hd,schemed_head hd];rfl
 ·rw [if_neg hd,origin_head hd]
def relabel (F:Nat) (ho:List UInt8) (o:Option Tg):Option Tg:=o.map fun t=>⟨F,ho,t.path,t.query,t.asked⟩
theorem origin_relabel (l:List UInt8):origin l=relabel 1 [] (origin l):=by
 unfold relabel;cases h:origin l with
 | none=>rfl
 | some t=>
   obtain ⟨_,h1,h2⟩:=putPath_origin h;obtain ⟨f,ho,p,q,a⟩:=t;simp only at h1 h2;subst h1 h2;rfl
theorem absolute_relabel (l:List UInt8) (h:hostB (hostOf l)=true):absolute l=relabel 2 (hostOf l) (origin (slashed (restOf l))):=by
 unfold absolute relabel;cases origin (slashed (restOf l)) with
 | none=>rfl
 | some t=>simp only [h,if_true];rfl
theorem absolute_none (l:List UInt8) (h:hostB (hostOf l)=false):absolute l=none:=by
 unfold absolute;cases origin (slashed (restOf l)) with
 | none=>rfl
 | some t=>simp only [h];rfl
theorem host_all:∀l:List UInt8,(∀x∈l,ended x=false)→hostOf l=l∧restOf l= []
 | [],_=>⟨rfl,rfl⟩
 | c::r,h=>by
   have hc:=h c (by simp)
   have ih:=host_all r fun x hx=>h x (by simp [hx]);unfold hostOf restOf at *;simp only [List.takeWhile_cons,List.dropWhile_cons,hc,Bool.not_false,if_true];exact ⟨by rw [ih.1],ih.2⟩
theorem host_stop (l:List UInt8) (k:Nat) (h1:∀x∈l.take k,ended x=false) (h2:l.length≤k∨∃h:k<l.length,ended l[k]=true):hostOf l=l.take k∧restOf l=l.drop k:=by
 rcases h2 with h2 | ⟨h2,h3⟩
 ·rw [List.take_of_length_le h2] at h1;rw [List.take_of_length_le h2,List.drop_eq_nil_of_le h2];exact host_all l h1
 ·have e:=host_cut (fun c=>!ended c) (l.take k) (l.drop (k+1)) l[k] (fun x hx=>by simp [h1 x hx]) (by simp [h3]);have e2:l.take k++l[k]::l.drop (k+1)=l:=by rw [←List.drop_eq_getElem_cons h2,List.take_append_drop]
  rw [e2] at e;exact ⟨e.1,by rw [List.drop_eq_getElem_cons h2];exact e.2⟩
section code
set_option maxHeartbeats 1000000
attribute [local go_sem] Base.some_undef
theorem rtarget_connect (m s:ByteArray) (w:World) (hs:s.size≤900000000) (hm:m.data.toList=connect) :
 Calls Tryz.prog 89 #[.string m,.string s] w fun e w'=>e=.returned (ans (parse m.data.toList s.data.toList))∧Below w.heap.size w w':=by
 have HCC:=Lib.hid (Tgb.new w 127 0 E0 E0 E0 false)
 have HWW:=Lib.hid (show Below w.heap.size w (w.alloc (.cells #[.int .i64 0,.string E0,.string E0,.string E0,.bool false] 127)) from (Below.refl _ _).alloc (Nat.le_refl _) _)
 have HG:=Lib.hid (show w.heap.size<(w.alloc (.cells #[.int .i64 0,.string E0,.string E0,.string E0,.bool false] 127)).heap.size by simp)
 have HC:=Lib.hid (fun w=>rport_any s w (by omega))
 have HH:=Lib.hid (fun w=>rhost_any s w (by omega));have hba:ba s.data.toList=s:=rfl;rw [parse,if_pos hm]
 obtain ⟨t1,t2⟩:=eq_facts m [67,79,78,78,69,67,84] true (decide_eq_true hm);clear hm;obtain ⟨R,hR⟩:∃R,authority s.data.toList=R:=⟨_,rfl⟩;rw [hR];unfold authority at hR;generalize s.data.toList.contains 58=b at *;generalize hostB s.data.toList=h at *;cases h with
 | false=>
   rw [Bool.and_false] at hR;obtain rfl:none=R:=hR;rw [ans];clear hba;go_enter Tryz.func89,Tryz.ntmps89
   go_wp2_with (go_at_call 102;with_reducible refine (HH.out _).mono ?_;rintro e w2 ⟨rfl,hb⟩
                obtain ⟨c0,c1,c2,c3,c4,z0,z1,z2,z3,z4⟩:=HCC.out.below HG.out hb
                have HB:=Lib.hid (Base.below_step HWW.out hb);clear hb)
   obtain ⟨W,hW,⟨d0,d1,d2,d3,d4,_,_,_,_,_⟩,hbW⟩:=Tgb.put ⟨c0,c1,c2,c3,c4,z0,z1,z2,z3,z4⟩ HB.out (Nat.le_refl _) 0 E0 E0 E0 false;rw [hW];exact bodyPost_ret (v:=.tuple #[tv 0 E0 E0 E0 false,.int .i64 400]) (by simp [results,Tryz.results89,go_sem,d0,d1,d2,d3,d4]) rfl ⟨rfl,hbW⟩
 | true=>
   cases b with
   | false=>
     obtain rfl:none=R:=hR;rw [ans];clear hba;go_enter Tryz.func89,Tryz.ntmps89
     go_wp2_with (first
      |(go_at_call 103;with_reducible refine (HC.out _).mono ?_;rintro e w1 ⟨rfl,hw⟩;rw [hw];clear hw)
      |(go_at_call 102;with_reducible refine (HH.out _).mono ?_;rintro e w2 ⟨rfl,hb⟩
        obtain ⟨c0,c1,c2,c3,c4,z0,z1,z2,z3,z4⟩:=HCC.out.below HG.out hb
        have HB:=Lib.hid (Base.below_step HWW.out hb);clear hb))
     obtain ⟨W,hW,⟨d0,d1,d2,d3,d4,_,_,_,_,_⟩,hbW⟩:=Tgb.put ⟨c0,c1,c2,c3,c4,z0,z1,z2,z3,z4⟩ HB.out (Nat.le_refl _) 0 E0 E0 E0 false;rw [hW];exact bodyPost_ret (v:=.tuple #[tv 0 E0 E0 E0 false,.int .i64 400]) (by simp [results,Tryz.results89,go_sem,d0,d1,d2,d3,d4]) rfl ⟨rfl,hbW⟩
   | true=>
     obtain rfl:some ⟨3,s.data.toList,[],[],false⟩=R:=hR;rw [ans,hba,show ba []=E0 from rfl];clear hba;go_enter Tryz.func89,Tryz.ntmps89
     go_wp2_with (first
      |(go_at_call 103;with_reducible refine (HC.out _).mono ?_;rintro e w1 ⟨rfl,hw⟩;rw [hw];clear hw)
      |(go_at_call 102;with_reducible refine (HH.out _).mono ?_;rintro e w2 ⟨rfl,hb⟩
        obtain ⟨c0,c1,c2,c3,c4,z0,z1,z2,z3,z4⟩:=HCC.out.below HG.out hb
        have HB:=Lib.hid (Base.below_step HWW.out hb);clear hb))
     obtain ⟨W,hW,⟨d0,d1,d2,d3,d4,_,_,_,_,_⟩,hbW⟩:=Tgb.put ⟨c0,c1,c2,c3,c4,z0,z1,z2,z3,z4⟩ HB.out (Nat.le_refl _) 3 s E0 E0 false;rw [hW];exact bodyPost_ret (v:=.tuple #[tv 3 s E0 E0 false,.int .i64 0]) (by simp [results,Tryz.results89,go_sem,d0,d1,d2,d3,d4]) rfl ⟨rfl,hbW⟩
set_option maxRecDepth 10000 in
theorem rtarget_any (m s:ByteArray) (w:World) (hs:s.size≤900000000) :
 Calls Tryz.prog 89 #[.string m,.string s] w fun e w'=>e=.returned (ans (parse m.data.toList s.data.toList))∧Below w.heap.size w w':=by
 by_cases hm:m.data.toList=connect
 ·exact rtarget_connect m s w hs hm
 obtain ⟨t1,t2⟩:=eq_facts m [67,79,78,78,69,67,84] false (decide_eq_false hm);by_cases ho:m.data.toList=options∧s.data.toList= [42]
 ·obtain ⟨t3,t4⟩:=eq_facts m [79,80,84,73,79,78,83] true (decide_eq_true ho.1)
  obtain ⟨t5,t6⟩:=eq_facts s [42] true (decide_eq_true ho.2);rw [parse,if_neg hm,if_pos ho];clear ho hm;go_enter Tryz.func89,Tryz.ntmps89;go_wp2_with fail;exact bodyPost_ret (v:=.tuple #[tv 4 E0 E0 E0 false,.int .i64 0]) (by simp [results,Tryz.results89,go_sem]) rfl ⟨rfl,(Below.refl _ _).alloc (Nat.le_refl _) _⟩
 obtain ⟨R,hR⟩:∃R,parse m.data.toList s.data.toList=R:=⟨_,rfl⟩;rw [hR];rw [parse_alt hm ho] at hR;have HR:=Lib.hid hR;have hno:((m.toList == [79,80,84,73,79,78,83])=false∧(m.toList==(ByteArray.mk #[79,80,84,73,79,78,83]).toList)=false)∨((m.toList == [79,80,84,73,79,78,83])=true∧(m.toList==(ByteArray.mk #[79,80,84,73,79,78,83]).toList)=true∧(s.toList == [42])=false∧(s.toList==(ByteArray.mk #[42]).toList)=false):=by
  by_cases h1:m.data.toList=options
  ·obtain ⟨t3,t4⟩:=eq_facts m [79,80,84,73,79,78,83] true (decide_eq_true h1)
   obtain ⟨t5,t6⟩:=eq_facts s [42] false (decide_eq_false fun e=>ho ⟨h1,e⟩);exact .inr ⟨t3,t4,t5,t6⟩
  ·obtain ⟨t3,t4⟩:=eq_facts m [79,80,84,73,79,78,83] false (decide_eq_false h1);exact .inl ⟨t3,t4⟩
 have HNO:=Lib.hid hno;clear ho hm hR hno;have hcc:=Tgb.new w 127 0 E0 E0 E0 false;have hww:Below w.heap.size w (w.alloc (.cells #[.int .i64 0,.string E0,.string E0,.string E0,.bool false] 127)):=(Below.refl _ _).alloc (Nat.le_refl _) _;have hgg:w.heap.size<(w.alloc (.cells #[.int .i64 0,.string E0,.string E0,.string E0,.bool false] 127)).heap.size:=by simp
 go_enter Tryz.func89,Tryz.ntmps89;go_upto_region 5 with fail
 generalize w.alloc (.cells #[.int .i64 0,.string E0,.string E0,.string E0,.bool false] 127)=W at *;have HCC:=Lib.hid hcc;have HWW:=Lib.hid hww;have HG:=Lib.hid hgg;clear hcc hww hgg
 go_cut [29] from 24 (fun v wx=>v=.bool false∧wx=W)
 case first=>
  rcases HNO.out with ⟨t3,t4⟩ | ⟨t3,t4,t5,t6⟩;all_goals
   go_wp2_with fail;go_meet
   case rel=>exact ⟨rfl,rfl⟩
 case rest=>
  obtain ⟨rfl,hw0⟩:=hcut;rw [hw0];clear hw0 HNO;go_upto_region 8 with fail
  go_cut [38] from 31 (fun v wx=>v=.bool (schemed s.data.toList)∧Hid (Below W.heap.size W wx))
  case first=>
   by_cases h7:7≤s.size
   ·have q7:(7:Int)≤(s.size:Int):=by omega
    have x1:(s.extract 0 7).data.toList=s.data.toList.take 7:=by rw [Lib.extract_data];simp
    have hx1:(s.extract 0 7).size≤1000:=by rw [←len,x1,List.length_take];omega
    have HM:=Lib.hid (fun w=>Txt.rsame_any (s.extract 0 7) ⟨#[104,116,116,112,58,47,47]⟩ w (by omega) (by decide));have hsm:same (s.extract 0 7) ⟨#[104,116,116,112,58,47,47]⟩=schemed s.data.toList:=by unfold same schemed;rw [x1,len,decide_eq_true h7];rfl
    rw [hsm] at HM;clear x1 hx1 hsm h7 HR;generalize schemed s.data.toList=sc at *
    go_wp2_with (go_at_call 104;with_reducible refine (HM.out _).mono ?_;rintro e w2 ⟨rfl,hb⟩);go_meet
    case rel=>exact ⟨rfl,Lib.hid hb⟩
   ·have q7:¬(7:Int)≤(s.size:Int):=by omega
    have hsc:schemed s.data.toList=false:=by unfold schemed;rw [len,decide_eq_false h7,Bool.false_and]
    have HSC:=Lib.hid hsc;clear hsc h7;go_wp2_with fail;go_meet
    case rel=>exact ⟨by rw [HSC.out],Lib.hid (Below.refl _ _)⟩
  case rest=>
   obtain ⟨rfl,hbc⟩:=hcut
   have H1:=Lib.hid (HCC.out.below HG.out hbc.out)
   have HB1:=Lib.hid (Base.below_step HWW.out hbc.out)
   have HG1:=Lib.hid (Nat.lt_of_lt_of_le HG.out hbc.out.size);clear HCC HWW HG hbc;go_upto_if 38 with fail
   go_cut [1,6,7] from 8 (fun v1 v6 v7 wx=>∃(F:Nat) (HO SS:List UInt8),v1=.string (ba SS)∧v6=.int .i64 F∧v7=.string (ba HO)∧SS.length≤1000000000∧Hid (relabel F HO (origin SS)=R)∧Hid (Below wc.heap.size wc wx))
   case first=>
    cases hsc:schemed s.data.toList with
    | false=>
      rw [hsc,if_neg (by decide),origin_relabel] at HR;clear hsc;go_wp2_with fail;go_meet
      case rel=>exact ⟨1,[],s.data.toList,rfl,rfl,rfl,by rw [len];omega,HR,Lib.hid (Below.refl _ _)⟩
    | true=>
      rw [hsc,if_pos rfl] at HR;have hs7:7≤s.size:=by unfold schemed at hsc;rw [Bool.and_eq_true,decide_eq_true_eq,len] at hsc;exact hsc.1
      clear hsc;go_wp2_with fail
      go_loop [8] (fun i=>∃k:Nat,7≤k∧k≤s.size∧i=.int .i64 k∧Hid (∀x∈(s.data.toList.drop 7).take (k-7),ended x=false)) (fun i=>s.size-(intOf i).toNat)
      case atStart=>exact ⟨7,Nat.le_refl _,hs7,rfl,Lib.hid (by simp)⟩
      case round=>
       obtain ⟨k,hlk,hle,rfl,hall⟩:=hrel;rcases Nat.lt_or_ge k s.size with hlt | hge
       ·have i1:(k:Int)<(s.size:Int):=by omega
        have hkl:k<s.data.toList.length:=by rw [len];exact hlt
        obtain ⟨c,hck⟩:∃c,s.data.toList[k]=c:=⟨_,rfl⟩;have hxk:∀h,s[k]'h=c:=fun _=>hck;have hdl:k-7<(s.data.toList.drop 7).length:=by rw [List.length_drop,len];omega
        have hdk:(s.data.toList.drop 7)[k-7]=c:=by
         rw [List.getElem_drop,←hck]
         congr 1
         omega
        by_cases h47:c=47
        ·have t47:((c.toNat:Int) != 47)=false:=by rw [h47];rfl
         have hstop:(s.data.toList.drop 7).length≤k-7∨∃h:k-7<(s.data.toList.drop 7).length,ended (s.data.toList.drop 7)[k-7]=true:=.inr ⟨hdl,by rw [hdk,h47];rfl⟩;clear hdl hdk;have j7:(7:Int)≤(k:Int):=by omega
         have jk:(k:Int)≤(s.size:Int):=by omega
         obtain ⟨g1,g2⟩:=host_stop (s.data.toList.drop 7) (k-7) hall.out hstop;rw [List.drop_drop,show 7+(k-7)=k by omega] at g2
         have hx:s.extract 7 k=ba (hostOf (s.data.toList.drop 7)):=ba_ext (by rw [Lib.extract_data,g1];rfl)
         have hy:s.extract k s.size=ba (restOf (s.data.toList.drop 7)):=ba_ext (by rw [drop_ext,g2];rfl)
         have HHo:=Lib.hid (fun w=>rhost_any (s.extract 7 k) w (by rw [hx,ba_size];have:=hostOf_le (s.data.toList.drop 7);rw [List.length_drop,len] at this;omega));rw [hx,ba_list] at HHo
         have hlen:=slashed_le (restOf (s.data.toList.drop 7))
         have hrl:=restOf_le (s.data.toList.drop 7);rw [List.length_drop,len] at hrl
         have HLEN:=Lib.hid (show (slashed (restOf (s.data.toList.drop 7))).length≤1000000000 by omega);have hre:restOf (s.data.toList.drop 7)=47::s.data.toList.drop (k+1):=by rw [g2,List.drop_eq_getElem_cons hkl,hck,h47]
         have hemp:(s.extract k s.size).toList.isEmpty=false:=by rw [hy];exact full_of hre
         have hpos:(0:Int)<((s.extract k s.size).size:Int):=by rw [hy,ba_size,hre,List.length_cons];omega
         have hat:∀h,(s.extract k s.size)[0]'h=47:=fun h=>at_zero (by rw [hy];exact hre) h;have hsl:s.extract k s.size=ba (slashed (restOf (s.data.toList.drop 7))):=by rw [hy,hre];rfl
         have HX:=Lib.hid hx;have HSL:=Lib.hid hsl;clear hx hy hsl hre g1 g2 hlen hrl hstop hall hck hkl h47;cases hh:hostB (hostOf (s.data.toList.drop 7)) with
         | false=>
           rw [hh] at HHo
           have HN:Hid (none=R):=Lib.hid (by rw [←HR.out,absolute_none _ hh]);clear hh HR;go_wp2_with fail
           go_quiet (fail);rename_i nq;generalize s.extract k s.size=X at *;generalize s.extract 7 k=Y at *
           have HH2:Hid (∀w,Calls Tryz.prog 102 #[.string Y] w fun e w'=>e=.returned (.bool false)∧Below w.heap.size w w'):=Lib.hid (by rw [HX.out];exact HHo.out)
           have hbq:=Lib.hid (Base.below_drewN (Below.refl wc.heap.size wc) nq);generalize wc.drewN nq=wq at *
           go_wp2_with (go_at_call 102;with_reducible refine (HH2.out _).mono ?_;rintro e w2 ⟨rfl,hb⟩
                        have hb':=Base.below_step hbq.out hb;obtain ⟨c0,c1,c2,c3,c4,z0,z1,z2,z3,z4⟩:=H1.out.below HG1.out hb'
                        have HB:=Lib.hid (Base.below_step HB1.out hb');clear hb hb')
           obtain ⟨W9,hW,⟨d0,d1,d2,d3,d4,_,_,_,_,_⟩,hbW⟩:=Tgb.put ⟨c0,c1,c2,c3,c4,z0,z1,z2,z3,z4⟩ HB.out (Nat.le_refl _) 0 E0 E0 E0 false;rw [hW];exact bodyPost_ret (v:=.tuple #[tv 0 E0 E0 E0 false,.int .i64 400]) (by simp [results,Tryz.results89,go_sem,d0,d1,d2,d3,d4]) rfl ⟨by rw [←HN.out];rfl,hbW⟩
         | true=>
           rw [hh] at HHo
           have HRR:Hid (relabel 2 (hostOf (s.data.toList.drop 7)) (origin (slashed (restOf (s.data.toList.drop 7))))=R):=Lib.hid (by rw [←HR.out,absolute_relabel _ hh]);clear hh HR;go_wp2_with fail
           go_quiet (fail);rename_i nq;generalize s.extract k s.size=X at *;generalize s.extract 7 k=Y at *
           have HH2:Hid (∀w,Calls Tryz.prog 102 #[.string Y] w fun e w'=>e=.returned (.bool true)∧Below w.heap.size w w'):=Lib.hid (by rw [HX.out];exact HHo.out)
           have hbq:=Lib.hid (Base.below_drewN (Below.refl wc.heap.size wc) nq);generalize wc.drewN nq=wq at *
           go_wp2_with (go_at_call 102;with_reducible refine (HH2.out _).mono ?_;rintro e w2 ⟨rfl,hb⟩
                        have HBH:=Lib.hid (Base.below_step hbq.out hb);clear hb)
           go_meet
           case rel=>exact ⟨2,hostOf (s.data.toList.drop 7),slashed (restOf (s.data.toList.drop 7)),by rw [HSL.out],rfl,by rw [HX.out],HLEN.out,HRR,HBH⟩
        ·have t47:((c.toNat:Int) != 47)=true:=bne_iff_ne.2 fun e=>h47 (UInt8.toNat_inj.1 (by show c.toNat=47;omega));by_cases h63:c=63
         ·have t63:((c.toNat:Int) != 63)=false:=by rw [h63];rfl
          have hstop:(s.data.toList.drop 7).length≤k-7∨∃h:k-7<(s.data.toList.drop 7).length,ended (s.data.toList.drop 7)[k-7]=true:=.inr ⟨hdl,by rw [hdk,h63];rfl⟩;clear hdl hdk;have j7:(7:Int)≤(k:Int):=by omega
          have jk:(k:Int)≤(s.size:Int):=by omega
          obtain ⟨g1,g2⟩:=host_stop (s.data.toList.drop 7) (k-7) hall.out hstop;rw [List.drop_drop,show 7+(k-7)=k by omega] at g2
          have hx:s.extract 7 k=ba (hostOf (s.data.toList.drop 7)):=ba_ext (by rw [Lib.extract_data,g1];rfl)
          have hy:s.extract k s.size=ba (restOf (s.data.toList.drop 7)):=ba_ext (by rw [drop_ext,g2];rfl)
          have HHo:=Lib.hid (fun w=>rhost_any (s.extract 7 k) w (by rw [hx,ba_size];have:=hostOf_le (s.data.toList.drop 7);rw [List.length_drop,len] at this;omega));rw [hx,ba_list] at HHo
          have hlen:=slashed_le (restOf (s.data.toList.drop 7))
          have hrl:=restOf_le (s.data.toList.drop 7);rw [List.length_drop,len] at hrl
          have HLEN:=Lib.hid (show (slashed (restOf (s.data.toList.drop 7))).length≤1000000000 by omega);have hre:restOf (s.data.toList.drop 7)=63::s.data.toList.drop (k+1):=by rw [g2,List.drop_eq_getElem_cons hkl,hck,h63]
          have hemp:(s.extract k s.size).toList.isEmpty=false:=by rw [hy];exact full_of hre
          have hpos:(0:Int)<((s.extract k s.size).size:Int):=by rw [hy,ba_size,hre,List.length_cons];omega
          have hat:∀h,(s.extract k s.size)[0]'h=63:=fun h=>at_zero (by rw [hy];exact hre) h
          have hsl:(⟨#[47]⟩:ByteArray)++s.extract k s.size=ba (slashed (restOf (s.data.toList.drop 7))):=by rw [hy,hre];exact ba_ext (by simp [ba,slashed])
          have hv:¬9223372036854775807<1+(s.extract k s.size).size:=by rw [hy,ba_size];omega
          have HX:=Lib.hid hx;have HSL:=Lib.hid hsl;clear hx hy hsl hre g1 g2 hlen hrl hstop hall hck hkl h63 h47;cases hh:hostB (hostOf (s.data.toList.drop 7)) with
          | false=>
            rw [hh] at HHo
            have HN:Hid (none=R):=Lib.hid (by rw [←HR.out,absolute_none _ hh]);clear hh HR;go_wp2_with fail
            go_quiet (fail);rename_i nq;generalize s.extract k s.size=X at *;generalize s.extract 7 k=Y at *
            have HH2:Hid (∀w,Calls Tryz.prog 102 #[.string Y] w fun e w'=>e=.returned (.bool false)∧Below w.heap.size w w'):=Lib.hid (by rw [HX.out];exact HHo.out)
            have hbq:=Lib.hid (Base.below_drewN (Below.refl wc.heap.size wc) nq);generalize wc.drewN nq=wq at *
            go_wp2_with (go_at_call 102;with_reducible refine (HH2.out _).mono ?_;rintro e w2 ⟨rfl,hb⟩
                         have hb':=Base.below_step hbq.out hb;obtain ⟨c0,c1,c2,c3,c4,z0,z1,z2,z3,z4⟩:=H1.out.below HG1.out hb'
                         have HB:=Lib.hid (Base.below_step HB1.out hb');clear hb hb')
            obtain ⟨W9,hW,⟨d0,d1,d2,d3,d4,_,_,_,_,_⟩,hbW⟩:=Tgb.put ⟨c0,c1,c2,c3,c4,z0,z1,z2,z3,z4⟩ HB.out (Nat.le_refl _) 0 E0 E0 E0 false;rw [hW];exact bodyPost_ret (v:=.tuple #[tv 0 E0 E0 E0 false,.int .i64 400]) (by simp [results,Tryz.results89,go_sem,d0,d1,d2,d3,d4]) rfl ⟨by rw [←HN.out];rfl,hbW⟩
          | true=>
            rw [hh] at HHo
            have HRR:Hid (relabel 2 (hostOf (s.data.toList.drop 7)) (origin (slashed (restOf (s.data.toList.drop 7))))=R):=Lib.hid (by rw [←HR.out,absolute_relabel _ hh]);clear hh HR;go_wp2_with fail
            go_quiet (fail);rename_i nq;generalize s.extract k s.size=X at *;generalize s.extract 7 k=Y at *
            have HH2:Hid (∀w,Calls Tryz.prog 102 #[.string Y] w fun e w'=>e=.returned (.bool true)∧Below w.heap.size w w'):=Lib.hid (by rw [HX.out];exact HHo.out)
            have hbq:=Lib.hid (Base.below_drewN (Below.refl wc.heap.size wc) nq);generalize wc.drewN nq=wq at *
            go_wp2_with (go_at_call 102;with_reducible refine (HH2.out _).mono ?_;rintro e w2 ⟨rfl,hb⟩
                         have HBH:=Lib.hid (Base.below_step hbq.out hb);clear hb)
            go_meet
            case rel=>exact ⟨2,hostOf (s.data.toList.drop 7),slashed (restOf (s.data.toList.drop 7)),by rw [HSL.out],rfl,by rw [HX.out],HLEN.out,HRR,HBH⟩
         ·have t63:((c.toNat:Int) != 63)=true:=bne_iff_ne.2 fun e=>h63 (UInt8.toNat_inj.1 (by show c.toNat=63;omega))
          have HN:Hid (∀x∈(s.data.toList.drop 7).take (k+1-7),ended x=false):=Lib.hid (by
           rw [show k+1-7=(k-7)+1 by omega,List.take_succ_eq_append_getElem hdl,hdk];intro x hx;rcases List.mem_append.1 hx with hx | hx
           ·exact hall.out x hx
           ·obtain rfl:x=c:=by simpa using hx
            simp [ended,h47,h63])
          clear h47 h63 hdl hdk hck hkl hall;go_wp2_with fail;go_round
          case rel=>exact ⟨k+1,by omega,by omega,by go_num,HN⟩
          case measure=>simp [intOf];omega
       ·have i1:¬(k:Int)<(s.size:Int):=by omega
        have hstop:(s.data.toList.drop 7).length≤k-7∨∃h:k-7<(s.data.toList.drop 7).length,ended (s.data.toList.drop 7)[k-7]=true:=.inl (by rw [List.length_drop,len];omega);have j7:(7:Int)≤(k:Int):=by omega
        have jk:(k:Int)≤(s.size:Int):=by omega
        obtain ⟨g1,g2⟩:=host_stop (s.data.toList.drop 7) (k-7) hall.out hstop;rw [List.drop_drop,show 7+(k-7)=k by omega] at g2
        have hx:s.extract 7 k=ba (hostOf (s.data.toList.drop 7)):=ba_ext (by rw [Lib.extract_data,g1];rfl)
        have hy:s.extract k s.size=ba (restOf (s.data.toList.drop 7)):=ba_ext (by rw [drop_ext,g2];rfl)
        have HHo:=Lib.hid (fun w=>rhost_any (s.extract 7 k) w (by rw [hx,ba_size];have:=hostOf_le (s.data.toList.drop 7);rw [List.length_drop,len] at this;omega));rw [hx,ba_list] at HHo
        have hlen:=slashed_le (restOf (s.data.toList.drop 7))
        have hrl:=restOf_le (s.data.toList.drop 7);rw [List.length_drop,len] at hrl
        have HLEN:=Lib.hid (show (slashed (restOf (s.data.toList.drop 7))).length≤1000000000 by omega)
        have hre:restOf (s.data.toList.drop 7)= []:=by rw [g2];exact List.drop_eq_nil_of_le (by rw [len];omega)
        have hemp:(s.extract k s.size).toList.isEmpty=true:=by rw [hy,hre];exact empty_of rfl
        have hsl:(⟨#[47]⟩:ByteArray)++s.extract k s.size=ba (slashed (restOf (s.data.toList.drop 7))):=by rw [hy,hre];exact ba_ext (by simp [ba,slashed])
        have hv:¬9223372036854775807<1+(s.extract k s.size).size:=by rw [hy,ba_size];omega
        have HX:=Lib.hid hx;have HSL:=Lib.hid hsl;clear hx hy hsl hre g1 g2 hlen hrl hstop hall;cases hh:hostB (hostOf (s.data.toList.drop 7)) with
        | false=>
          rw [hh] at HHo
          have HN:Hid (none=R):=Lib.hid (by rw [←HR.out,absolute_none _ hh]);clear hh HR;go_wp2_with fail
          go_quiet (fail);rename_i nq;generalize s.extract k s.size=X at *;generalize s.extract 7 k=Y at *
          have HH2:Hid (∀w,Calls Tryz.prog 102 #[.string Y] w fun e w'=>e=.returned (.bool false)∧Below w.heap.size w w'):=Lib.hid (by rw [HX.out];exact HHo.out)
          have hbq:=Lib.hid (Base.below_drewN (Below.refl wc.heap.size wc) nq);generalize wc.drewN nq=wq at *
          go_wp2_with (go_at_call 102;with_reducible refine (HH2.out _).mono ?_;rintro e w2 ⟨rfl,hb⟩
                       have hb':=Base.below_step hbq.out hb;obtain ⟨c0,c1,c2,c3,c4,z0,z1,z2,z3,z4⟩:=H1.out.below HG1.out hb'
                       have HB:=Lib.hid (Base.below_step HB1.out hb');clear hb hb')
          obtain ⟨W9,hW,⟨d0,d1,d2,d3,d4,_,_,_,_,_⟩,hbW⟩:=Tgb.put ⟨c0,c1,c2,c3,c4,z0,z1,z2,z3,z4⟩ HB.out (Nat.le_refl _) 0 E0 E0 E0 false;rw [hW];exact bodyPost_ret (v:=.tuple #[tv 0 E0 E0 E0 false,.int .i64 400]) (by simp [results,Tryz.results89,go_sem,d0,d1,d2,d3,d4]) rfl ⟨by rw [←HN.out];rfl,hbW⟩
        | true=>
          rw [hh] at HHo
          have HRR:Hid (relabel 2 (hostOf (s.data.toList.drop 7)) (origin (slashed (restOf (s.data.toList.drop 7))))=R):=Lib.hid (by rw [←HR.out,absolute_relabel _ hh]);clear hh HR;go_wp2_with fail
          go_quiet (fail);rename_i nq;generalize s.extract k s.size=X at *;generalize s.extract 7 k=Y at *
          have HH2:Hid (∀w,Calls Tryz.prog 102 #[.string Y] w fun e w'=>e=.returned (.bool true)∧Below w.heap.size w w'):=Lib.hid (by rw [HX.out];exact HHo.out)
          have hbq:=Lib.hid (Base.below_drewN (Below.refl wc.heap.size wc) nq);generalize wc.drewN nq=wq at *
          go_wp2_with (go_at_call 102;with_reducible refine (HH2.out _).mono ?_;rintro e w2 ⟨rfl,hb⟩
                       have HBH:=Lib.hid (Base.below_step hbq.out hb);clear hb)
          go_meet
          case rel=>exact ⟨2,hostOf (s.data.toList.drop 7),slashed (restOf (s.data.toList.drop 7)),by rw [HSL.out],rfl,by rw [HX.out],HLEN.out,HRR,HBH⟩
   case rest=>
    obtain ⟨F,HO,SS,rfl,rfl,rfl,hSS,hRR,hbc⟩:=hcut
    have H2:=Lib.hid (H1.out.below HG1.out hbc.out)
    have HB2:=Lib.hid (Base.below_step HB1.out hbc.out)
    have HG2:=Lib.hid (Nat.lt_of_lt_of_le HG1.out hbc.out.size);clear H1 HB1 HG1 hbc HR
    have HOR:=Lib.hid (fun w=>rorigin_any (ba SS) w (by rw [ba_size];omega));rw [ba_list] at HOR;have hor:origin SS=if (pathB (cutAt 63 SS).1&&queryB (cutAt 63 SS).2.1)=true then some ⟨1,[],(cutAt 63 SS).1,(cutAt 63 SS).2.1,(cutAt 63 SS).2.2⟩ else none:=rfl
    rw [hor] at hRR;clear hor;generalize (cutAt 63 SS).1=p at *;generalize (cutAt 63 SS).2.1=q at *;generalize (cutAt 63 SS).2.2=bb at *;cases hk:(pathB p&&queryB q) with
    | false=>
      rw [hk] at HOR hRR;have HN:Hid (none=R):=hRR;clear hk hRR
      go_upto_if 82 with (go_at_call 105;with_reducible refine (HOR.out _).mono ?_;rintro e w2 ⟨rfl,hb⟩)
      have hb3:Below wc.heap.size wc (w2.alloc (.cells #[.int .i64 0,.string E0,.string (ba p),.string (ba q),.bool bb] 127)):=hb.alloc hb.size _;generalize w2.alloc (.cells #[.int .i64 0,.string E0,.string (ba p),.string (ba q),.bool bb] 127)=W3 at *;obtain ⟨c0,c1,c2,c3,c4,z0,z1,z2,z3,z4⟩:=H2.out.below HG2.out hb3
      have HB:=Lib.hid (Base.below_step HB2.out hb3);clear hb hb3 H2 HB2 HG2;go_wp2_with fail;obtain ⟨W9,hW,⟨d0,d1,d2,d3,d4,_,_,_,_,_⟩,hbW⟩:=Tgb.put ⟨c0,c1,c2,c3,c4,z0,z1,z2,z3,z4⟩ HB.out (Nat.le_refl _) 0 E0 E0 E0 false;rw [hW];exact bodyPost_ret (v:=.tuple #[tv 0 E0 E0 E0 false,.int .i64 400]) (by simp [results,Tryz.results89,go_sem,d0,d1,d2,d3,d4]) rfl ⟨by rw [←HN.out];rfl,hbW⟩
    | true=>
      rw [hk] at HOR hRR;have HN:Hid (some ⟨F,HO,p,q,bb⟩=R):=hRR;clear hk hRR
      go_upto_if 82 with (go_at_call 105;with_reducible refine (HOR.out _).mono ?_;rintro e w2 ⟨rfl,hb⟩)
      have HT5:=Lib.hid (Tgb.new w2 127 0 E0 (ba p) (ba q) bb);have hb3:Below wc.heap.size wc (w2.alloc (.cells #[.int .i64 0,.string E0,.string (ba p),.string (ba q),.bool bb] 127)):=hb.alloc hb.size _;have hne:w.heap.size<w2.heap.size:=Nat.lt_of_lt_of_le HG2.out hb.size;generalize w2.alloc (.cells #[.int .i64 0,.string E0,.string (ba p),.string (ba q),.bool bb] 127)=W3 at *;obtain ⟨c0,c1,c2,c3,c4,z0,z1,z2,z3,z4⟩:=H2.out.below HG2.out hb3;obtain ⟨a0,a1,a2,a3,a4,y0,y1,y2,y3,y4⟩:=HT5.out
      have HB:=Lib.hid (Base.below_step HB2.out hb3);clear hb hb3 H2 HB2 HG2 HT5;have n1:¬w.heap.size=w2.heap.size:=by omega
      have n2:¬w2.heap.size=w.heap.size:=by omega
      generalize w2.heap.size=g7 at *;go_wp2_with fail
      have hB5:=(HB.out.setCell (p:=⟨g7,0,none⟩) (Nat.le_of_lt hne) (.int .i64 F)).setCell (p:=⟨g7,1,none⟩) (Nat.le_of_lt hne) (.string (ba HO));obtain ⟨W9,hW,⟨d0,d1,d2,d3,d4,_,_,_,_,_⟩,hbW⟩:=Tgb.put (((Tgb.mk c0 c1 c2 c3 c4 z0 z1 z2 z3 z4).other g7 0 (.int .i64 F) n2).other g7 1 (.string (ba HO)) n2) hB5 (Nat.le_refl _) F (ba HO) (ba p) (ba q) bb;rw [hW];exact bodyPost_ret (v:=.tuple #[tv F (ba HO) (ba p) (ba q) bb,.int .i64 0]) (by simp [results,Tryz.results89,go_sem,d0,d1,d2,d3,d4]) rfl ⟨by rw [←HN.out];rfl,hbW⟩
end code
end Go.Proofs.YtimoakmcelocfaaGreat.Tgt
namespace Go.Proofs.YtimoakmcelocfaaGreat.Frm
open Go.RowKit Base Txt
def Rowf (w:World) (g n:Nat) (f:Nat→ByteArray):Prop:=∀j,j<n→w.cell? ⟨g,j,none⟩=some (.string (f j))∧w.frozen? ⟨g,j,none⟩=false
theorem Rowf.set {w:World} {g n:Nat} {f:Nat→ByteArray} (h:Rowf w g n f) (k:Nat) (x:ByteArray):Rowf (w.setCell ⟨g,k,none⟩ (.string x)) g n (fun j=>if j=k then x else f j):=by
 intro j hj;obtain ⟨c,z⟩:=h j hj;refine ⟨?_,by rw [World.frozen?_setCell];exact z⟩;by_cases e:j=k
 ·subst e;rw [World.cell?_setCell_same _ _ _ c];simp
 ·rw [World.cell?_setCell_other _ _ _ _ (by simp<;>omega)];simp only [if_neg e];exact c
theorem Rowf.below {w w':World} {g n:Nat} {f:Nat→ByteArray} (h:Rowf w g n f) (hg:g<w.heap.size) (hb:Below w.heap.size w w'):Rowf w' g n f:=
 fun j hj=>⟨(hb.cell (p:=⟨g,j,none⟩) hg).trans (h j hj).1,(hb.frozen (p:=⟨g,j,none⟩) hg).trans (h j hj).2⟩
theorem Rowf.congr {w:World} {g n:Nat} {f f':Nat→ByteArray} (h:Rowf w g n f) (e:∀j,j<n→f j=f' j):Rowf w g n f':=
 fun j hj=>by rw [←e j hj];exact h j hj
theorem rowf_of_own {w:World} {base:Nat} {e:TypeId} {v:Value} {n:Nat} {ss:List ByteArray} (h:w.ownsRow base e 1 v n (ss.map Value.string)) :
 ∃A c,v=.slice A n c∧(0<n→∃g,A=some ⟨g,0,none⟩∧base≤g∧g<w.heap.size∧Rowf w g n (fun j=>ss[j]?.getD ByteArray.empty)):=by
 have hl:ss.length=n:=by simpa using h.1
 rcases h.2 with ⟨rfl,rfl⟩ | ⟨g,cap,cur,rfl,hbg,hh,hnc,_,hsz,ht⟩
 ·exact ⟨none,0,rfl,fun h=>absurd h (by omega)⟩
 ·refine ⟨_,_,rfl,fun _=>⟨g,rfl,hbg,?_,fun k hk=>⟨?_,?_⟩⟩⟩
  ·rcases Nat.lt_or_ge g w.heap.size with hlt | hge
   ·exact hlt
   ·rw [Array.getElem?_eq_none hge] at hh;cases hh
  ·rw [cell_of_row w g k cur e (0,0) hh];have h1:(ss.map Value.string)[k]?=some (.string (ss[k]?.getD ByteArray.empty)):=by
    rw [List.getElem?_map,List.getElem?_eq_getElem (by omega)];rfl
   rw [←ht,List.getElem?_take_of_lt (by omega)] at h1;simpa using h1
  ·unfold World.frozen?;simp only [hh];simp
def norm (tb:Bool) (v:ByteArray):ByteArray:=lower (if tb=true then trimOf v blanksOf else v)
theorem norm_is (tb:Bool) (v:ByteArray):decide (norm tb v=chunked)=isC tb v:=lower_chunked _
def mixN (tb:Bool) (ls:List ByteArray) (k:Nat) (j:Nat):ByteArray:=if j<k then norm tb (ls[j]?.getD ByteArray.empty) else ls[j]?.getD ByteArray.empty
theorem count_snoc (bs:List Bool) (k:Nat) (h:k<bs.length):(bs.take (k+1)).countP id=(bs.take k).countP id+(if bs[k]=true then 1 else 0):=by
 rw [List.take_succ_eq_append_getElem h,List.countP_append]
 congr 1
 cases bs[k]<;>rfl
section code
set_option maxHeartbeats 4000000
set_option maxRecDepth 10000
attribute [local go_sem] Base.some_undef
theorem rcoding_any (p:Nat) (hp:p<4294967296) (a:Option Addr) (n cap:Nat) (vs:List ByteArray) (w:World) (hv:Strs w a n vs) (hr:room vs≤1000000000) :
 Calls Tryz.prog 109 #[.int .u32 (p:Nat),.slice a n cap] w fun e w'=>e=.returned (.bool (coding (Qk.has p 17) (Qk.has p 18) vs))∧Below w.heap.size w w':=by
 have HL:=Lib.hid (rlist_own a n cap vs w hv hr)
 have H17:=Lib.hid (fun w=>Qk.rhas_any p hp 17 w)
 have H18:=Lib.hid (fun w=>Qk.rhas_any p hp 18 w)
 have HM:=Lib.hid (fun x hx=>Nat.le_trans (list_mem_size vs x hx) hr);have hlr:=Nat.le_trans (list_le vs) hr;have HX:coding (Qk.has p 17) (Qk.has p 18) vs=((decide (((list vs).map (isC (Qk.has p 17))).countP id=1)&&((list vs).map (isC (Qk.has p 17))).getLastD false)&&(decide ((list vs).length=1)||Qk.has p 18)):=by rw [only_count];rfl
 rw [HX];clear HX hv hr hp;generalize list vs=ls at *;generalize Qk.has p 17=tb at *;generalize Qk.has p 18=tl at *;obtain ⟨m,hm⟩:∃m,ls.length=m:=⟨_,rfl⟩;rw [hm] at HL hlr ⊢
 have HSZ:=Lib.hid (fun k (hk:k<m)=>show (ls[k]?.getD ByteArray.empty).size≤1000000000 by
  rw [List.getElem?_eq_getElem (by omega)]
  exact HM.out _ (List.getElem_mem _))
 obtain ⟨bs,hbs⟩:∃bs,ls.map (isC tb)=bs:=⟨_,rfl⟩;rw [hbs]
 have HBL:=Lib.hid (show bs.length=m by rw [←hbs,List.length_map,hm])
 have HBA:=Lib.hid (fun k (hk:k<m)=>show bs[k]'(by rw [HBL.out];exact hk)=isC tb (ls[k]?.getD ByteArray.empty) by simp only [←hbs,List.getElem_map];rw [List.getElem?_eq_getElem (by omega)];rfl)
 clear HM hbs hm;obtain ⟨R,hR0⟩:∃R,((decide (bs.countP id=1)&&bs.getLastD false)&&(decide (m=1)||tl))=R:=⟨_,rfl⟩;rw [hR0];have HRR:=Lib.hid hR0;clear hR0;rcases Nat.eq_zero_or_pos m with h0 | h0
 ·subst h0;have e0:bs= []:=List.eq_nil_of_length_eq_zero HBL.out;subst e0
  have HRF:=Lib.hid (show R=false from HRR.out.symm);clear HBA HBL HSZ hlr HRR;go_enter Tryz.func109,Tryz.ntmps109
  go_wp2_with (go_at_call 123;with_reducible refine (HL.out).mono ?_;rintro e w1 ⟨v,rfl,ho,hb⟩
               obtain ⟨A1,c1,rfl,_⟩:=rowf_of_own ho;have HB:=Lib.hid hb;clear ho hb)
  go_loopw [6] (fun i wr=>i=.int .i64 0∧wr=w1) (fun i _=>0)
  case atStart=>exact ⟨rfl,rfl⟩
  case round=>
   obtain ⟨rfl,rfl⟩:=hrel;go_wp2_with fail
   go_loopw [7,8] (fun c i wr'=>c=.int .i64 0∧i=.int .i64 0∧wr'=wr) (fun _ i _=>0)
   case atStart=>exact ⟨rfl,rfl,rfl⟩
   case round=>obtain ⟨rfl,rfl,rfl⟩:=hrel;go_wp2_with fail;go_ret;exact ⟨by rw [HRF.out];rfl,HB.out⟩
 have HT:=Lib.hid (fun v (hv:v.size≤1000000000) w=>rtrimOf_any v ⟨#[11,12,32,9]⟩ w (by decide) (Nat.le_trans hv (by decide)))
 have HLo:=Lib.hid (fun v (hv:v.size≤1000000000) w=>rlower_any v w (Nat.le_trans hv (by decide)))
 have HTZ:=Lib.hid (fun v (hv:v.size≤1000000000)=>show (trimOf v ⟨#[11,12,32,9]⟩).size≤1000000000 from Nat.le_trans (trim_size _ _) hv)
 have HC1:=Lib.hid (show IntKind.i64.wrap ((m:Int)-1)=((m-1:Nat):Int) by rw [Base.wrap_in _ (by omega) (by omega)];omega)
 have HC2:=Lib.hid (show wrap64 ((m:Int)-1)=((m-1:Nat):Int) by unfold wrap64;omega);go_enter Tryz.func109,Tryz.ntmps109
 go_wp2_with (go_at_call 123;with_reducible refine (HL.out).mono ?_;rintro e w1 ⟨v,rfl,ho,hb⟩
              obtain ⟨A1,c3,rfl,ho2⟩:=rowf_of_own ho;obtain ⟨g,rfl,hg,hlt,hR⟩:=ho2 h0
              have HR0:=Lib.hid (show Rowf w1 g m (mixN tb ls 0) from hR.congr fun j _=>by simp [mixN]);have HB:=Lib.hid hb;clear ho hb ho2 hR)
 go_loopw [6] (fun i wr=>∃k:Nat,k≤m∧i=.int .i64 k∧Hid (Below w.heap.size w wr)∧Hid (Rowf wr g m (mixN tb ls k))∧g<wr.heap.size) (fun i _=>m-(intOf i).toNat)
 case atStart=>exact ⟨0,Nat.zero_le _,rfl,HB,HR0,hlt⟩
 case round=>
  obtain ⟨k,hk,rfl,hbr,hR,hgl⟩:=hrel;rcases Nat.lt_or_ge k m with hlk | hge
  ·obtain ⟨hck,hzk⟩:=hR.out k hlk;have hsz:=HSZ.out k hlk;rw [show mixN tb ls k k=ls[k]?.getD ByteArray.empty from if_neg (Nat.lt_irrefl k)] at hck
   have HS:=Lib.hid (fun x (hx:x=norm tb (ls[k]?.getD ByteArray.empty)) (w':World) (h:Rowf w' g m (mixN tb ls k))=>show Rowf (w'.setCell ⟨g,k,none⟩ (.string x)) g m (mixN tb ls (k+1)) from (h.set k x).congr fun j hj=>by
    unfold mixN;by_cases e:j=k
    ·rw [if_pos e,if_pos (by omega),hx,e]
    ·rw [if_neg e];by_cases e2:j<k
     ·rw [if_pos e2,if_pos (by omega)]
     ·rw [if_neg e2,if_neg (by omega)])
   have HS2:=Lib.hid (fun T x (hx:x=norm tb (ls[k]?.getD ByteArray.empty)) (w':World) (h:Rowf w' g m (fun j=>if j=k then T else mixN tb ls k j))=>show Rowf (w'.setCell ⟨g,k,none⟩ (.string x)) g m (mixN tb ls (k+1)) from (h.set k x).congr fun j hj=>by
    unfold mixN;by_cases e:j=k
    ·rw [if_pos e,if_pos (by omega),hx,e]
    ·rw [if_neg e,if_neg e];by_cases e2:j<k
     ·rw [if_pos e2,if_pos (by omega)]
     ·rw [if_neg e2,if_neg (by omega)])
   generalize ls[k]?.getD ByteArray.empty=x at *;have i1:(k:Int)<(m:Int):=by omega
   cases tb with
   | false=>
     have HC:=Lib.hid (HLo.out x hsz)
     have HY:=Lib.hid (show lower x=norm false x from rfl);generalize lower x=y at *;clear HT HTZ hsz
     go_wp2_with (first
      |(go_at_call 39;with_reducible refine (H17.out _).mono ?_;rintro e w2 ⟨rfl,hw⟩;rw [hw];clear hw)
      |(go_at_call 120;(with_reducible refine (HC.out _).mono ?_);rintro e w3 ⟨rfl,hb⟩
        have HB3:=Lib.hid (Base.below_step hbr.out hb);have hR3:=hR.out.below hgl hb;have hg3:=Nat.lt_of_lt_of_le hgl hb.size;clear hck hzk;obtain ⟨hck,hzk⟩:=hR3 k hlk;have HR3:=Lib.hid hR3;clear hb hR3))
     go_roundw
     case rel=>exact ⟨k+1,by omega,by go_num,Lib.hid (HB3.out.setCell hg _),Lib.hid (HS.out _ HY.out _ HR3.out),by simpa using hg3⟩
     case measure=>simp [intOf];omega
   | true=>
     have HT2:=Lib.hid (HT.out x hsz);have hsT:=HTZ.out x hsz
     have HY0:=Lib.hid (show lower (trimOf x ⟨#[11,12,32,9]⟩)=norm true x from rfl);generalize trimOf x ⟨#[11,12,32,9]⟩=T at *
     have HC:=Lib.hid (HLo.out T hsT)
     have HRT:=Lib.hid (hR.out.set k T)
     have HBT:Hid (Below w.heap.size w (wr.setCell ⟨g,k,none⟩ (.string T))):=Lib.hid (hbr.out.setCell hg _);have hgT:g<(wr.setCell ⟨g,k,none⟩ (.string T)).heap.size:=by simpa using hgl
     generalize lower T=y at *;clear HT HTZ hsz hsT
     go_wp2_with (first
      |(go_at_call 39;with_reducible refine (H17.out _).mono ?_;rintro e w2 ⟨rfl,hw⟩;rw [hw];clear hw)
      |(go_at_call 124;with_reducible refine (HT2.out _).mono ?_;rintro e w2 ⟨rfl,hw⟩;rw [hw];clear hw)
      |(go_at_call 120;(with_reducible refine (HC.out _).mono ?_);rintro e w3 ⟨rfl,hb⟩
        have HB3:=Lib.hid (Base.below_step HBT.out hb);have hR3:=HRT.out.below hgT hb;have hg3:=Nat.lt_of_lt_of_le hgT hb.size;clear hck hzk;obtain ⟨hck,hzk⟩:=hR3 k hlk;have HR3:=Lib.hid hR3;clear hb hR3))
     go_roundw
     case rel=>exact ⟨k+1,by omega,by go_num,Lib.hid (HB3.out.setCell hg _),Lib.hid (HS2.out _ _ HY0.out _ HR3.out),by simpa using hg3⟩
     case measure=>simp [intOf];omega
  ·obtain rfl:k=m:=by omega
   have HRk:=Lib.hid (hR.out.congr (f':=fun j=>norm tb (ls[j]?.getD ByteArray.empty)) fun j hj=>if_pos hj);have HBk:=hbr;clear hR hbr HR0 HT HLo HTZ HSZ H17 HL;go_wp2_with fail
   go_loop [7,8] (fun c i=>∃j:Nat,j≤k∧i=.int .i64 j∧∃q:Nat,c=.int .i64 q∧q≤j∧Hid (q=(bs.take j).countP id)) (fun _ i=>k-(intOf i).toNat)
   case atStart=>exact ⟨0,Nat.zero_le _,rfl,0,rfl,Nat.le_refl _,Lib.hid rfl⟩
   case round=>
    obtain ⟨j,hj,rfl,q,rfl,hqj,HQ⟩:=hrel;rcases Nat.lt_or_ge j k with hlj | hgj
    ·have hcj:wr.cell? ⟨g,j,none⟩=some (.string (norm tb (ls[j]?.getD ByteArray.empty))):=(HRk.out j hlj).1
     have HN:=Lib.hid (count_snoc bs j (by rw [HBL.out];exact hlj));have hbj:=HBA.out j hlj;rw [←norm_is] at hbj;have HBJ:=Lib.hid hbj;clear hbj;generalize norm tb (ls[j]?.getD ByteArray.empty)=x at *;have i1:(j:Int)<(k:Int):=by omega
     have hq1:q+1≤j+1:=by omega
     have hq2:q≤j+1:=by omega
     have hj1:j+1≤k:=by omega
     have c3:wrap64 ((q:Int)+1)=((q+1:Nat):Int):=by unfold wrap64;omega
     by_cases hx:x=chunked
     ·have H2:=Lib.hid (show q+1=(bs.take (j+1)).countP id by
       rw [HN.out,HBJ.out,decide_eq_true hx,if_pos rfl,←HQ.out])
      obtain ⟨t1,t2⟩:=Tgt.eq_facts x [99,104,117,110,107,101,100] true (decide_eq_true (by rw [hx]));clear HN HBJ hx;go_wp2_with fail;clear c3;go_round
      case rel=>exact ⟨j+1,hj1,by go_num,q+1,rfl,hq1,H2⟩
      case measure=>simp [intOf];omega
     ·have H2:=Lib.hid (show q=(bs.take (j+1)).countP id by
       rw [HN.out,HBJ.out,decide_eq_false hx,if_neg (by decide),←HQ.out];rfl)
      obtain ⟨t1,t2⟩:=Tgt.eq_facts x [99,104,117,110,107,101,100] false (decide_eq_false fun e=>hx (ba_ext e));clear HN HBJ hx c3;go_wp2_with fail;go_round
      case rel=>exact ⟨j+1,hj1,by go_num,q,rfl,hq2,H2⟩
      case measure=>simp [intOf];omega
    ·obtain rfl:j=k:=by omega
     have hcl:wr.cell? ⟨g,j-1,none⟩=some (.string (norm tb (ls[j-1]?.getD ByteArray.empty))):=(HRk.out (j-1) (by omega)).1;have hQ:=HQ.out;rw [List.take_of_length_le (by rw [HBL.out];exact Nat.le_refl _)] at hQ;have hRR:=HRR.out;rw [←hQ] at hRR;have hlast:bs.getLastD false=decide (norm tb (ls[j-1]?.getD ByteArray.empty)=chunked):=by rw [norm_is,←HBA.out (j-1) (by omega),List.getLastD_eq_getLast?,List.getLast?_eq_getElem?,show bs.length-1=j-1 by rw [HBL.out],List.getElem?_eq_getElem (by rw [HBL.out];omega)];rfl
     rw [hlast] at hRR;have HR2:=Lib.hid hRR;have HJ:=Lib.hid hgj;have c1:=HC1.out;have c2:=HC2.out;clear hQ hlast HQ HBA HBL hgj hRR HRR HC1 HC2;generalize norm tb (ls[j-1]?.getD ByteArray.empty)=x at *;have i1:((j-1:Nat):Int)<(j:Int):=by omega
     generalize j-1=j1 at *;by_cases hq:q=1
     ·have t0:((q:Int)==1)=true:=beq_iff_eq.2 (by omega);by_cases hx:x=chunked
      ·obtain ⟨t1,t2⟩:=Tgt.eq_facts x [99,104,117,110,107,101,100] true (decide_eq_true (by rw [hx]));by_cases h1:j=1
       ·have t3:((j:Int)==1)=true:=beq_iff_eq.2 (by omega)
        have HH:=Lib.hid (show R=true by rw [←HR2.out,decide_eq_true hq,decide_eq_true hx,decide_eq_true h1];rfl);clear h1 hq hx HR2;go_wp2_with fail;go_ret;exact ⟨by rw [HH.out];rfl,HBk.out⟩
       ·have t3:((j:Int)==1)=false:=beq_eq_false_iff_ne.2 (by omega)
        have HH:=Lib.hid (show R=tl by rw [←HR2.out,decide_eq_true hq,decide_eq_true hx,decide_eq_false h1];rfl);clear h1 hq hx HR2
        go_wp2_with (go_at_call 39;with_reducible refine (H18.out _).mono ?_;rintro e w2 ⟨rfl,hw⟩;rw [hw];clear hw);go_ret;exact ⟨by rw [HH.out];rfl,HBk.out⟩
      ·obtain ⟨t1,t2⟩:=Tgt.eq_facts x [99,104,117,110,107,101,100] false (decide_eq_false fun e=>hx (ba_ext e))
       have HH:=Lib.hid (show R=false by rw [←HR2.out,decide_eq_true hq,decide_eq_false hx];rfl);clear hq hx HR2;go_wp2_with fail;go_ret;exact ⟨by rw [HH.out];rfl,HBk.out⟩
     ·have t0:((q:Int)==1)=false:=beq_eq_false_iff_ne.2 (by omega)
      have HH:=Lib.hid (show R=false by rw [←HR2.out,decide_eq_false hq];rfl);clear hq HR2;go_wp2_with fail;go_ret;exact ⟨by rw [HH.out];rfl,HBk.out⟩
end code
end Go.Proofs.YtimoakmcelocfaaGreat.Frm
namespace Go.Proofs.YtimoakmcelocfaaGreat.Frm
open Go.RowKit Base Txt
section code
set_option maxHeartbeats 4000000
set_option maxRecDepth 10000
attribute [local go_sem] Base.some_undef
theorem rlength_any (p:Nat) (hp:p<4294967296) (most:Int) (hM:most≤9223372036854775807) (a:Option Addr) (n cap:Nat) (vs:List ByteArray) (w:World) (hv:Strs w a n vs) (hr:room vs≤1000000000) :
 Calls Tryz.prog 110 #[.int .u32 (p:Nat),.int .i64 most,.slice a n cap] w fun e w'=>e=.returned (.tuple #[.int .i64 (lengthV (Qk.has p 23) (Qk.has p 24) (Qk.has p 25) (Qk.has p 26) most vs).1,.int .i64 (lengthV (Qk.has p 23) (Qk.has p 24) (Qk.has p 25) (Qk.has p 26) most vs).2])∧Below w.heap.size w w':=by
 obtain ⟨R,hR⟩:∃R,lengthV (Qk.has p 23) (Qk.has p 24) (Qk.has p 25) (Qk.has p 26) most vs=R:=⟨_,rfl⟩;rw [hR];unfold lengthV at hR;have hl:=hv.1;by_cases hn:n=0
 ·subst hn;obtain rfl:=List.eq_nil_of_length_eq_zero hl;rw [if_pos rfl] at hR;subst hR;go_enter Tryz.func110,Tryz.ntmps110;go_wp2_with fail;go_ret2;exact ⟨rfl,Below.refl _ _⟩
 have hne:vs≠ []:=fun e=>hn (by rw [←hl,e];rfl);rw [if_neg hne] at hR
 have H23:=Lib.hid (fun w=>Qk.rhas_any p hp 23 w)
 have H24:=Lib.hid (fun w=>Qk.rhas_any p hp 24 w)
 have H25:=Lib.hid (fun w=>Qk.rhas_any p hp 25 w)
 have H26:=Lib.hid (fun w=>Qk.rhas_any p hp 26 w)
 have HL:=Lib.hid (rlist_any a n cap vs w hv hr);have hll:=Nat.le_trans (list_le vs) hr;have hlp:=list_ne_nil vs hne;have hnr:=Nat.le_trans (len_room vs) hr;rw [hl] at hnr;have hms:=list_mem_size vs;have hrm:=room_mem vs;generalize Qk.has p 23=lp at *;generalize Qk.has p 24=lc at *;generalize Qk.has p 25=lf at *;generalize Qk.has p 26=ll at *
 have HT:=Lib.hid (fun s (hs:s.size≤1000000000) w=>Num.rdec_any most hM (unplus lp s) w (Nat.le_trans (unplus_size lp s) (Nat.le_trans hs (by decide))))
 have t0:((n:Int)==0)=false:=beq_eq_false_iff_ne.2 (by omega);clear hp hM hl;cases lc with
 | false=>
   rw [if_neg (by decide)] at hR
   have HM:=Lib.hid (fun s (h:s∈vs)=>show s.size≤1000000000 by have:=hrm s h;omega);clear HL hll hlp hms hrm hne;obtain ⟨U,hU⟩:∃U,U=vs:=⟨_,rfl⟩;rw [←hU] at hv HM hR;clear hU;have hm:=hv.1;obtain ⟨m,hnm⟩:∃m,m=n:=⟨_,rfl⟩;have hll:m≤1000000000:=by omega
   have hlp:0<m:=by omega
   subst hnm;obtain ⟨K,rfl⟩:∃K,m=K+1:=⟨m-1,by omega⟩
   have HE:=Lib.hid (fun (a':Option Addr) (w':World) (hS:Strs w' a' (K+1) U)=>strs_ends hS)
   have HMN:=Lib.hid (fun (s:ByteArray) (h:counts false lf ll U=some s)=>HM.out s (counts_mem _ _ _ _ _ h (fun e=>by rw [e] at hm;simp at hm)));obtain ⟨O,hO⟩:∃O,counts false lf ll U=O:=⟨_,rfl⟩;rw [hO] at hR HMN;have HUL:=Lib.hid hm;have hO2:O=if (decide (K=0)|| ((false&&alikeL U)||lf))=true then some (U.headD ByteArray.empty) else if ll=true then some (U.getLastD ByteArray.empty) else none:=by rw [←hO];unfold counts;rw [hm];simp
   have HO:=Lib.hid hO2;clear hO hO2 HM hm
   have HN:=Lib.hid (fun k (hk:k<K+1)=>take_all_snoc (fun v:ByteArray=>decide (v=U.headD ByteArray.empty)) ByteArray.empty U k (by rw [HUL.out];exact hk))
   have HA:=Lib.hid (show (U.take (K+1)).all (fun v=>decide (v=U.headD ByteArray.empty))=alikeL U by rw [List.take_of_length_le (by rw [HUL.out];exact Nat.le_refl _)];rfl)
   have HC1:=Lib.hid (show IntKind.i64.wrap (((K+1:Nat):Int)-1)=(K:Int) by rw [wrap_in _ (by omega) (by omega)];omega)
   have HC2:=Lib.hid (show wrap64 (((K+1:Nat):Int)-1)=(K:Int) by unfold wrap64;omega);have HS:=Lib.hid hv;obtain ⟨w1,hw1⟩:∃x,x=w:=⟨_,rfl⟩
   have HB:Hid (Below w.heap.size w w1):=Lib.hid (hw1 ▸ Below.refl _ _);rw [←hw1] at HS hv ⊢;rw [hw1] at HB;rw [←hw1] at HB;obtain ⟨bl,off,rfl,hd0,hz0⟩:=HE.out _ _ hv;have HD0:=Lib.hid hd0;have HZ0:=Lib.hid hz0;clear hv hd0 hz0 hw1;go_enter Tryz.func110,Tryz.ntmps110
   go_wp2_with (go_at_call 39;with_reducible refine (H24.out _).mono ?_;rintro e w2 ⟨rfl,hw⟩;rw [hw];clear hw)
   go_loopw [9,10] (fun al i wr=>∃k q:Nat,k≤K+1∧i=.int .i64 k∧wr=w1.drewN q∧∃b:Bool,al=.bool b∧Hid (false=b)) (fun _ i _=>K+1-(intOf i).toNat)
   case atStart=>exact ⟨0,0,Nat.zero_le _,rfl,rfl,false,rfl,Lib.hid rfl⟩
   case round=>
    obtain ⟨k,q,hk,rfl,rfl,al,rfl,HAL⟩:=hrel;rcases Nat.lt_or_ge k (K+1) with hlt | hge
    ·have i1:(k:Int)<((K+1:Nat):Int):=by omega
     have i0:(0:Int)<((K+1:Nat):Int):=by omega
     obtain rfl:al=false:=HAL.out.symm;go_wp2_with fail
     go_quiet (fail);rename_i nq;go_wp2;go_roundw
     case rel=>first | exact ⟨k+1,q+nq,by omega,by go_num,(World.drewN_drewN _ _ _).symm ▸ rfl,false,rfl,Lib.hid rfl⟩ | exact ⟨k+1,q+nq,by omega,by go_num,by rw [World.drewN_drewN],false,rfl,Lib.hid rfl⟩ | exact ⟨k+1,q+nq,by omega,by go_num,rfl,false,rfl,Lib.hid rfl⟩
     case measure=>simp [intOf];omega
    ·obtain rfl:k=K+1:=by omega
     have HAL2:=Lib.hid (show (false&&alikeL U)=al by exact HAL.out);have hbd:Below w1.heap.size w1 (w1.drewN q):=Base.below_drewN (Below.refl _ _) q
     obtain ⟨bl2,off2,he2,hd,hz⟩:=HE.out _ _ (HS.out.below hbd);obtain ⟨rfl,rfl⟩:bl=bl2∧off=off2:=by simpa using he2
     have HBq:=Lib.hid (Base.below_step HB.out hbd);have hO3:=HO.out;rw [HAL2.out] at hO3;have c1:=HC1.out;have c2:=HC2.out;have i0:(0:Int)<((K+1:Nat):Int):=by omega
     have iK:(K:Int)<((K+1:Nat):Int):=by omega
     clear he2 hbd HE HN HA HC1 HC2 HO HAL HAL2 HS HB HD0 HZ0;generalize w1.drewN q=wq at *;generalize U.headD ByteArray.empty=y at *;generalize U.getLastD ByteArray.empty=z at *;cases O with
     | none=>
       simp only at hR;have hcase:¬K=0∧al=false∧lf=false∧ll=false:=by
        refine ⟨fun e=>?_,?_,?_,?_⟩
        ·rw [decide_eq_true e] at hO3;simp at hO3
        ·cases al
         ·rfl
         ·simp at hO3
        ·cases lf
         ·rfl
         ·simp at hO3
        ·cases ll
         ·rfl
         ·by_cases hx:(decide (K=0)|| (al||lf))=true
          ·rw [if_pos hx] at hO3;cases hO3
          ·rw [if_neg hx,if_pos rfl] at hO3;cases hO3
       obtain ⟨hK,rfl,rfl,rfl⟩:=hcase;subst hR
       have tK:((((K+1:Nat)):Int)==1)=false:=beq_eq_false_iff_ne.2 (by omega)
       have tK2:((K:Int)+1==1)=false:=beq_eq_false_iff_ne.2 (by omega);have tK3:¬(K:Int)=0:=by omega
       clear hO3
       go_wp2_with (first
        |(go_at_call 39;with_reducible refine (H25.out _).mono ?_;rintro e w2 ⟨rfl,hw⟩;rw [hw];clear hw)
        |(go_at_call 39;with_reducible refine (H26.out _).mono ?_;rintro e w2 ⟨rfl,hw⟩;rw [hw];clear hw))
       go_ret2;exact ⟨rfl,HBq.out⟩
     | some S=>
       simp only at hR;have hs:=HMN.out S rfl;have hways:(K=0∧S=y)∨(¬K=0∧al=true∧S=y)∨(¬K=0∧al=false∧lf=true∧S=y)∨(¬K=0∧al=false∧lf=false∧ll=true∧S=z):=by
        by_cases hK:K=0
        ·rw [decide_eq_true hK] at hO3;exact .inl ⟨hK,by simpa using hO3⟩
        ·rw [decide_eq_false hK] at hO3;cases al
         ·cases lf
          ·cases ll
           ·simp at hO3
           ·exact .inr (.inr (.inr ⟨hK,rfl,rfl,rfl,by simpa using hO3⟩))
          ·exact .inr (.inr (.inl ⟨hK,rfl,rfl,by simpa using hO3⟩))
         ·exact .inr (.inl ⟨hK,rfl,by simpa using hO3⟩)
       have HW:=Lib.hid hways;clear hO3 hways;have hK4:(K=0∧S=y)∨(¬K=0∧al=true∧S=y)∨(¬K=0∧al=false∧lf=true∧S=y)∨(¬K=0∧al=false∧lf=false∧ll=true∧S=z):=HW.out;clear HW;rcases hK4 with ⟨hK,rfl⟩ | ⟨hK,rfl,rfl⟩ | ⟨hK,rfl,rfl,rfl⟩ | ⟨hK,rfl,rfl,rfl,rfl⟩;all_goals
        first
         |(have tK:((((K+1:Nat)):Int)==1)=true:=beq_iff_eq.2 (by omega))
         |(have tK:((((K+1:Nat)):Int)==1)=false:=beq_eq_false_iff_ne.2 (by omega)
           have tK2:((K:Int)+1==1)=false:=beq_eq_false_iff_ne.2 (by omega);have tK3:¬(K:Int)=0:=by omega)
        have HD:=Lib.hid (HT.out S hs);clear HT HMN;generalize hNN:Num.readOf 10 most (unplus lp S).data.toList=N at *;clear hNN;obtain ⟨N1,N2⟩:=N;simp only at HD;unfold numV at hR;simp only at hR;have hcase:(N2=22∧R=(0,400))∨((N2==22)=false∧N2=23∧R=(0,413))∨((N2==22)=false∧(N2==23)=false∧R=(N1,0)):=by
         by_cases h1:N2=22
         ·rw [if_pos h1] at hR;exact .inl ⟨h1,hR.symm⟩
         ·rw [if_neg h1] at hR;by_cases h2:N2=23
          ·rw [if_pos h2] at hR;exact .inr (.inl ⟨beq_eq_false_iff_ne.2 h1,h2,hR.symm⟩)
          ·rw [if_neg h2] at hR;exact .inr (.inr ⟨beq_eq_false_iff_ne.2 h1,beq_eq_false_iff_ne.2 h2,hR.symm⟩)
        clear hR;cases lp with
        | false=>
          rw [show unplus false S=S from rfl] at HD;rcases hcase with ⟨rfl,rfl⟩ | ⟨t1,rfl,rfl⟩ | ⟨t1,t2,rfl⟩;all_goals
           go_wp2_with (first
            |(go_at_call 39;with_reducible refine (H23.out _).mono ?_;rintro e w2 ⟨rfl,hw⟩;rw [hw];clear hw) |(go_at_call 39;with_reducible refine (H25.out _).mono ?_;rintro e w2 ⟨rfl,hw⟩;rw [hw];clear hw) |(go_at_call 39;with_reducible refine (H26.out _).mono ?_;rintro e w2 ⟨rfl,hw⟩;rw [hw];clear hw)
            |(go_at_call 119;with_reducible refine (HD.out _).mono ?_;rintro e w3 ⟨rfl,hw⟩;rw [hw];clear hw))
           go_ret2;exact ⟨rfl,HBq.out⟩
        | true=>
          rcases Nat.eq_zero_or_pos S.size with hz0 | hz0
          ·have e0:S.toList.isEmpty=true:=by
            rw [Lib.toList_data,List.length_eq_zero_iff.1 (show S.data.toList.length=0 by rw [len];exact hz0)];rfl
           rw [show unplus true S=S by unfold unplus;rw [List.length_eq_zero_iff.1 (show S.data.toList.length=0 by rw [len];exact hz0)];rfl] at HD;clear hz0;rcases hcase with ⟨rfl,rfl⟩ | ⟨t1,rfl,rfl⟩ | ⟨t1,t2,rfl⟩;all_goals
            go_wp2_with (first
             |(go_at_call 39;with_reducible refine (H23.out _).mono ?_;rintro e w2 ⟨rfl,hw⟩;rw [hw];clear hw) |(go_at_call 39;with_reducible refine (H25.out _).mono ?_;rintro e w2 ⟨rfl,hw⟩;rw [hw];clear hw) |(go_at_call 39;with_reducible refine (H26.out _).mono ?_;rintro e w2 ⟨rfl,hw⟩;rw [hw];clear hw)
             |(go_at_call 119;with_reducible refine (HD.out _).mono ?_;rintro e w3 ⟨rfl,hw⟩;rw [hw];clear hw))
            go_ret2;exact ⟨rfl,HBq.out⟩
          ·obtain ⟨e1,e2,e0⟩:=first_of S hz0;have i0:(0:Int)<(S.size:Int):=by omega
           have i1:(1:Int)≤(S.size:Int):=by omega
           have i2:(S.size:Int)≤9223372036854775807:=by omega
           by_cases hp:S[0]=43
           ·have t3:(((S[0].toNat:Nat):Int)==43)=true:=by rw [hp];rfl
            rw [show unplus true S=S.extract 1 S.size from by
             unfold unplus;rw [if_pos (by rw [e1,hp];rfl)]
             exact ba_ext e2.symm] at HD
            clear e1 e2 hp;rcases hcase with ⟨rfl,rfl⟩ | ⟨t1,rfl,rfl⟩ | ⟨t1,t2,rfl⟩;all_goals
             go_wp2_with (first
              |(go_at_call 39;with_reducible refine (H23.out _).mono ?_;rintro e w2 ⟨rfl,hw⟩;rw [hw];clear hw) |(go_at_call 39;with_reducible refine (H25.out _).mono ?_;rintro e w2 ⟨rfl,hw⟩;rw [hw];clear hw) |(go_at_call 39;with_reducible refine (H26.out _).mono ?_;rintro e w2 ⟨rfl,hw⟩;rw [hw];clear hw)
              |(go_at_call 119;with_reducible refine (HD.out _).mono ?_;rintro e w3 ⟨rfl,hw⟩;rw [hw];clear hw))
             go_ret2;exact ⟨rfl,HBq.out⟩
           ·have t3:(((S[0].toNat:Nat):Int)==43)=false:=beq_eq_false_iff_ne.2 (fun e=>hp (UInt8.toNat_inj.1 (show S[0].toNat=(43:UInt8).toNat from by have e43:(43:UInt8).toNat=43:=rfl;omega)))
            rw [show unplus true S=S from by
             unfold unplus
             rw [if_neg (by rw [e1,List.head?_cons];simpa using hp)]] at HD
            clear e1 e2 hp;rcases hcase with ⟨rfl,rfl⟩ | ⟨t1,rfl,rfl⟩ | ⟨t1,t2,rfl⟩;all_goals
             go_wp2_with (first
              |(go_at_call 39;with_reducible refine (H23.out _).mono ?_;rintro e w2 ⟨rfl,hw⟩;rw [hw];clear hw) |(go_at_call 39;with_reducible refine (H25.out _).mono ?_;rintro e w2 ⟨rfl,hw⟩;rw [hw];clear hw) |(go_at_call 39;with_reducible refine (H26.out _).mono ?_;rintro e w2 ⟨rfl,hw⟩;rw [hw];clear hw)
              |(go_at_call 119;with_reducible refine (HD.out _).mono ?_;rintro e w3 ⟨rfl,hw⟩;rw [hw];clear hw))
             go_ret2;exact ⟨rfl,HBq.out⟩
 | true=>
   rw [if_pos rfl] at hR
   have HM:=Lib.hid (fun s (h:s∈list vs)=>show s.size≤1000000000 from Nat.le_trans (hms s h) hr);clear hv hms hrm hne;generalize list vs=U at *;obtain ⟨m,hm⟩:∃m,U.length=m:=⟨_,rfl⟩;rw [hm] at HL hll hlp;obtain ⟨K,rfl⟩:∃K,m=K+1:=⟨m-1,by omega⟩
   have HE:=Lib.hid (fun (a':Option Addr) (w':World) (hS:Strs w' a' (K+1) U)=>strs_ends hS)
   have HMN:=Lib.hid (fun (s:ByteArray) (h:counts true lf ll U=some s)=>HM.out s (counts_mem _ _ _ _ _ h (fun e=>by rw [e] at hm;simp at hm)));obtain ⟨O,hO⟩:∃O,counts true lf ll U=O:=⟨_,rfl⟩;rw [hO] at hR HMN;have HUL:=Lib.hid hm;have hO2:O=if (decide (K=0)|| ((true&&alikeL U)||lf))=true then some (U.headD ByteArray.empty) else if ll=true then some (U.getLastD ByteArray.empty) else none:=by rw [←hO];unfold counts;rw [hm];simp
   have HO:=Lib.hid hO2;clear hO hO2 HM hm
   have HN:=Lib.hid (fun k (hk:k<K+1)=>take_all_snoc (fun v:ByteArray=>decide (v=U.headD ByteArray.empty)) ByteArray.empty U k (by rw [HUL.out];exact hk))
   have HA:=Lib.hid (show (U.take (K+1)).all (fun v=>decide (v=U.headD ByteArray.empty))=alikeL U by rw [List.take_of_length_le (by rw [HUL.out];exact Nat.le_refl _)];rfl)
   have HC1:=Lib.hid (show IntKind.i64.wrap (((K+1:Nat):Int)-1)=(K:Int) by rw [wrap_in _ (by omega) (by omega)];omega)
   have HC2:=Lib.hid (show wrap64 (((K+1:Nat):Int)-1)=(K:Int) by unfold wrap64;omega);go_enter Tryz.func110,Tryz.ntmps110
   go_wp2_with (first
    |(go_at_call 39;with_reducible refine (H24.out _).mono ?_;rintro e w1 ⟨rfl,hw⟩;rw [hw];clear hw)
    |(go_at_call 123;with_reducible refine (HL.out).mono ?_;rintro e w1 ⟨b,m2,c,rfl,hm2,hS,hb⟩
      rw [hm2] at hS ⊢;clear hm2;have HS:=Lib.hid hS;have HB:=Lib.hid hb;obtain ⟨bl,off,rfl,hd0,hz0⟩:=HE.out _ _ hS;have HD0:=Lib.hid hd0;have HZ0:=Lib.hid hz0;clear hS hb hd0 hz0))
   go_loopw [9,10] (fun al i wr=>∃k q:Nat,k≤K+1∧i=.int .i64 k∧wr=w1.drewN q∧∃b:Bool,al=.bool b∧Hid ((U.take k).all (fun v=>decide (v=U.headD ByteArray.empty))=b)) (fun _ i _=>K+1-(intOf i).toNat)
   case atStart=>exact ⟨0,0,Nat.zero_le _,rfl,rfl,true,rfl,Lib.hid rfl⟩
   case round=>
    obtain ⟨k,q,hk,rfl,rfl,al,rfl,HAL⟩:=hrel;rcases Nat.lt_or_ge k (K+1) with hlt | hge
    ·have i1:(k:Int)<((K+1:Nat):Int):=by omega
     have i0:(0:Int)<((K+1:Nat):Int):=by omega
     obtain ⟨bl2,off2,he2,_,hc⟩:=HS.out.2 (by omega);obtain ⟨rfl,rfl⟩:bl=bl2∧off=off2:=by simpa using he2
     have hck:=hc k hlt;have hc0:=HD0.out
     have HNk:=Lib.hid (HN.out k hlt);clear hc he2;cases al with
     | false=>
       have H2:=Lib.hid (show (U.take (k+1)).all (fun v=>decide (v=U.headD ByteArray.empty))=false by rw [HNk.out,HAL.out];rfl);clear HNk hck hc0;go_wp2_with fail
       go_quiet (fail);rename_i nq;go_wp2;go_roundw
       case rel=>first | exact ⟨k+1,q+nq,by omega,by go_num,(World.drewN_drewN _ _ _).symm ▸ rfl,false,rfl,H2⟩ | exact ⟨k+1,q+nq,by omega,by go_num,by rw [World.drewN_drewN],false,rfl,H2⟩ | exact ⟨k+1,q+nq,by omega,by go_num,rfl,false,rfl,H2⟩
       case measure=>simp [intOf];omega
     | true=>
       by_cases he:U[k]?.getD ByteArray.empty=U.headD ByteArray.empty
       ·have H2:=Lib.hid (show (U.take (k+1)).all (fun v=>decide (v=U.headD ByteArray.empty))=true by rw [HNk.out,HAL.out,he];simp);rw [he] at hck;clear HNk he;generalize U.headD ByteArray.empty=y at *;go_wp2_with fail
        go_quiet (fail);rename_i nq;go_wp2;go_roundw
        case rel=>first | exact ⟨k+1,q+nq,by omega,by go_num,(World.drewN_drewN _ _ _).symm ▸ rfl,true,rfl,H2⟩ | exact ⟨k+1,q+nq,by omega,by go_num,by rw [World.drewN_drewN],true,rfl,H2⟩ | exact ⟨k+1,q+nq,by omega,by go_num,rfl,true,rfl,H2⟩
        case measure=>simp [intOf];omega
       ·have H2:=Lib.hid (show (U.take (k+1)).all (fun v=>decide (v=U.headD ByteArray.empty))=false by rw [HNk.out,HAL.out,decide_eq_false he];rfl);generalize U[k]?.getD ByteArray.empty=x at *;generalize U.headD ByteArray.empty=y at *
        have he2:¬x.toList=y.toList:=fun h=>he ((toList_iff x y).1 h);have he3:(x.toList==y.toList)=false:=by simpa using he2
        clear HNk he;go_wp2_with fail
        go_quiet (fail);rename_i nq;go_wp2;go_roundw
        case rel=>first | exact ⟨k+1,q+nq,by omega,by go_num,(World.drewN_drewN _ _ _).symm ▸ rfl,false,rfl,H2⟩ | exact ⟨k+1,q+nq,by omega,by go_num,by rw [World.drewN_drewN],false,rfl,H2⟩ | exact ⟨k+1,q+nq,by omega,by go_num,rfl,false,rfl,H2⟩
        case measure=>simp [intOf];omega
    ·obtain rfl:k=K+1:=by omega
     have HAL2:=Lib.hid (show (true&&alikeL U)=al by rw [Bool.true_and,←HA.out];exact HAL.out);have hbd:Below w1.heap.size w1 (w1.drewN q):=Base.below_drewN (Below.refl _ _) q
     obtain ⟨bl2,off2,he2,hd,hz⟩:=HE.out _ _ (HS.out.below hbd);obtain ⟨rfl,rfl⟩:bl=bl2∧off=off2:=by simpa using he2
     have HBq:=Lib.hid (Base.below_step HB.out hbd);have hO3:=HO.out;rw [HAL2.out] at hO3;have c1:=HC1.out;have c2:=HC2.out;have i0:(0:Int)<((K+1:Nat):Int):=by omega
     have iK:(K:Int)<((K+1:Nat):Int):=by omega
     clear he2 hbd HE HN HA HC1 HC2 HO HAL HAL2 HS HB HD0 HZ0;generalize w1.drewN q=wq at *;generalize U.headD ByteArray.empty=y at *;generalize U.getLastD ByteArray.empty=z at *;cases O with
     | none=>
       simp only at hR;have hcase:¬K=0∧al=false∧lf=false∧ll=false:=by
        refine ⟨fun e=>?_,?_,?_,?_⟩
        ·rw [decide_eq_true e] at hO3;simp at hO3
        ·cases al
         ·rfl
         ·simp at hO3
        ·cases lf
         ·rfl
         ·simp at hO3
        ·cases ll
         ·rfl
         ·by_cases hx:(decide (K=0)|| (al||lf))=true
          ·rw [if_pos hx] at hO3;cases hO3
          ·rw [if_neg hx,if_pos rfl] at hO3;cases hO3
       obtain ⟨hK,rfl,rfl,rfl⟩:=hcase;subst hR
       have tK:((((K+1:Nat)):Int)==1)=false:=beq_eq_false_iff_ne.2 (by omega)
       have tK2:((K:Int)+1==1)=false:=beq_eq_false_iff_ne.2 (by omega);have tK3:¬(K:Int)=0:=by omega
       clear hO3
       go_wp2_with (first
        |(go_at_call 39;with_reducible refine (H25.out _).mono ?_;rintro e w2 ⟨rfl,hw⟩;rw [hw];clear hw)
        |(go_at_call 39;with_reducible refine (H26.out _).mono ?_;rintro e w2 ⟨rfl,hw⟩;rw [hw];clear hw))
       go_ret2;exact ⟨rfl,HBq.out⟩
     | some S=>
       simp only at hR;have hs:=HMN.out S rfl;have hways:(K=0∧S=y)∨(¬K=0∧al=true∧S=y)∨(¬K=0∧al=false∧lf=true∧S=y)∨(¬K=0∧al=false∧lf=false∧ll=true∧S=z):=by
        by_cases hK:K=0
        ·rw [decide_eq_true hK] at hO3;exact .inl ⟨hK,by simpa using hO3⟩
        ·rw [decide_eq_false hK] at hO3;cases al
         ·cases lf
          ·cases ll
           ·simp at hO3
           ·exact .inr (.inr (.inr ⟨hK,rfl,rfl,rfl,by simpa using hO3⟩))
          ·exact .inr (.inr (.inl ⟨hK,rfl,rfl,by simpa using hO3⟩))
         ·exact .inr (.inl ⟨hK,rfl,by simpa using hO3⟩)
       have HW:=Lib.hid hways;clear hO3 hways;have hK4:(K=0∧S=y)∨(¬K=0∧al=true∧S=y)∨(¬K=0∧al=false∧lf=true∧S=y)∨(¬K=0∧al=false∧lf=false∧ll=true∧S=z):=HW.out;clear HW;rcases hK4 with ⟨hK,rfl⟩ | ⟨hK,rfl,rfl⟩ | ⟨hK,rfl,rfl,rfl⟩ | ⟨hK,rfl,rfl,rfl,rfl⟩;all_goals
        first
         |(have tK:((((K+1:Nat)):Int)==1)=true:=beq_iff_eq.2 (by omega))
         |(have tK:((((K+1:Nat)):Int)==1)=false:=beq_eq_false_iff_ne.2 (by omega)
           have tK2:((K:Int)+1==1)=false:=beq_eq_false_iff_ne.2 (by omega);have tK3:¬(K:Int)=0:=by omega)
        have HD:=Lib.hid (HT.out S hs);clear HT HMN;generalize hNN:Num.readOf 10 most (unplus lp S).data.toList=N at *;clear hNN;obtain ⟨N1,N2⟩:=N;simp only at HD;unfold numV at hR;simp only at hR;have hcase:(N2=22∧R=(0,400))∨((N2==22)=false∧N2=23∧R=(0,413))∨((N2==22)=false∧(N2==23)=false∧R=(N1,0)):=by
         by_cases h1:N2=22
         ·rw [if_pos h1] at hR;exact .inl ⟨h1,hR.symm⟩
         ·rw [if_neg h1] at hR;by_cases h2:N2=23
          ·rw [if_pos h2] at hR;exact .inr (.inl ⟨beq_eq_false_iff_ne.2 h1,h2,hR.symm⟩)
          ·rw [if_neg h2] at hR;exact .inr (.inr ⟨beq_eq_false_iff_ne.2 h1,beq_eq_false_iff_ne.2 h2,hR.symm⟩)
        clear hR;cases lp with
        | false=>
          rw [show unplus false S=S from rfl] at HD;rcases hcase with ⟨rfl,rfl⟩ | ⟨t1,rfl,rfl⟩ | ⟨t1,t2,rfl⟩;all_goals
           go_wp2_with (first
            |(go_at_call 39;with_reducible refine (H23.out _).mono ?_;rintro e w2 ⟨rfl,hw⟩;rw [hw];clear hw) |(go_at_call 39;with_reducible refine (H25.out _).mono ?_;rintro e w2 ⟨rfl,hw⟩;rw [hw];clear hw) |(go_at_call 39;with_reducible refine (H26.out _).mono ?_;rintro e w2 ⟨rfl,hw⟩;rw [hw];clear hw)
            |(go_at_call 119;with_reducible refine (HD.out _).mono ?_;rintro e w3 ⟨rfl,hw⟩;rw [hw];clear hw))
           go_ret2;exact ⟨rfl,HBq.out⟩
        | true=>
          rcases Nat.eq_zero_or_pos S.size with hz0 | hz0
          ·have e0:S.toList.isEmpty=true:=by
            rw [Lib.toList_data,List.length_eq_zero_iff.1 (show S.data.toList.length=0 by rw [len];exact hz0)];rfl
           rw [show unplus true S=S by unfold unplus;rw [List.length_eq_zero_iff.1 (show S.data.toList.length=0 by rw [len];exact hz0)];rfl] at HD;clear hz0;rcases hcase with ⟨rfl,rfl⟩ | ⟨t1,rfl,rfl⟩ | ⟨t1,t2,rfl⟩;all_goals
            go_wp2_with (first
             |(go_at_call 39;with_reducible refine (H23.out _).mono ?_;rintro e w2 ⟨rfl,hw⟩;rw [hw];clear hw) |(go_at_call 39;with_reducible refine (H25.out _).mono ?_;rintro e w2 ⟨rfl,hw⟩;rw [hw];clear hw) |(go_at_call 39;with_reducible refine (H26.out _).mono ?_;rintro e w2 ⟨rfl,hw⟩;rw [hw];clear hw)
             |(go_at_call 119;with_reducible refine (HD.out _).mono ?_;rintro e w3 ⟨rfl,hw⟩;rw [hw];clear hw))
            go_ret2;exact ⟨rfl,HBq.out⟩
          ·obtain ⟨e1,e2,e0⟩:=first_of S hz0;have i0:(0:Int)<(S.size:Int):=by omega
           have i1:(1:Int)≤(S.size:Int):=by omega
           have i2:(S.size:Int)≤9223372036854775807:=by omega
           by_cases hp:S[0]=43
           ·have t3:(((S[0].toNat:Nat):Int)==43)=true:=by rw [hp];rfl
            rw [show unplus true S=S.extract 1 S.size from by
             unfold unplus;rw [if_pos (by rw [e1,hp];rfl)]
             exact ba_ext e2.symm] at HD
            clear e1 e2 hp;rcases hcase with ⟨rfl,rfl⟩ | ⟨t1,rfl,rfl⟩ | ⟨t1,t2,rfl⟩;all_goals
             go_wp2_with (first
              |(go_at_call 39;with_reducible refine (H23.out _).mono ?_;rintro e w2 ⟨rfl,hw⟩;rw [hw];clear hw) |(go_at_call 39;with_reducible refine (H25.out _).mono ?_;rintro e w2 ⟨rfl,hw⟩;rw [hw];clear hw) |(go_at_call 39;with_reducible refine (H26.out _).mono ?_;rintro e w2 ⟨rfl,hw⟩;rw [hw];clear hw)
              |(go_at_call 119;with_reducible refine (HD.out _).mono ?_;rintro e w3 ⟨rfl,hw⟩;rw [hw];clear hw))
             go_ret2;exact ⟨rfl,HBq.out⟩
           ·have t3:(((S[0].toNat:Nat):Int)==43)=false:=beq_eq_false_iff_ne.2 (fun e=>hp (UInt8.toNat_inj.1 (show S[0].toNat=(43:UInt8).toNat from by have e43:(43:UInt8).toNat=43:=rfl;omega)))
            rw [show unplus true S=S from by
             unfold unplus
             rw [if_neg (by rw [e1,List.head?_cons];simpa using hp)]] at HD
            clear e1 e2 hp;rcases hcase with ⟨rfl,rfl⟩ | ⟨t1,rfl,rfl⟩ | ⟨t1,t2,rfl⟩;all_goals
             go_wp2_with (first
              |(go_at_call 39;with_reducible refine (H23.out _).mono ?_;rintro e w2 ⟨rfl,hw⟩;rw [hw];clear hw) |(go_at_call 39;with_reducible refine (H25.out _).mono ?_;rintro e w2 ⟨rfl,hw⟩;rw [hw];clear hw) |(go_at_call 39;with_reducible refine (H26.out _).mono ?_;rintro e w2 ⟨rfl,hw⟩;rw [hw];clear hw)
              |(go_at_call 119;with_reducible refine (HD.out _).mono ?_;rintro e w3 ⟨rfl,hw⟩;rw [hw];clear hw))
             go_ret2;exact ⟨rfl,HBq.out⟩
end code
end Go.Proofs.YtimoakmcelocfaaGreat.Frm
namespace Go.Proofs.YtimoakmcelocfaaGreat.Frm
open Go.RowKit Base Txt
theorem rfind_at (a:Option Addr) (n cap:Nat) (fs:List Fld) (name:ByteArray) (w:World) (hv:Flds w a n fs) (hn:n≤1000000000) (hs:∀f∈fs,f.1.size≤1000000000) (ht:name.size≤1000000000) :
 Calls Tryz.prog 108 #[.slice a n cap,.string name] w fun e w'=>∃b c,e=.returned (.slice b (find fs name).length c)∧Strs w' b (find fs name).length (find fs name)∧Below w.heap.size w w':=
 (rfind_any a n cap fs name w hv hn hs ht).mono (by rintro e w' ⟨b,m,c,rfl,rfl,hS,hb⟩;exact ⟨b,c,rfl,hS,hb⟩)
theorem hosts_old (nh mh:Bool) (h:List ByteArray) (h0:h.length=0) (hn:nh=true):hostsV nh mh 1 h=0:=by obtain rfl:=List.eq_nil_of_length_eq_zero h0;rw [hosts_none,hn];rfl
section code
set_option maxHeartbeats 4000000
set_option maxRecDepth 10000
attribute [local go_sem] Base.some_undef
theorem rhosts_any (p:Nat) (hp:p<4294967296) (minor:Int) (a:Option Addr) (n cap:Nat) (fs:List Fld) (w:World) (hv:Flds w a n fs) (hn:n≤1000000000) (hs:∀f∈fs,f.1.size≤1000000000∧f.2.size≤1000000000) :
 Calls Tryz.prog 107 #[.int .u32 (p:Nat),.int .i64 minor,.slice a n cap] w fun e w'=>e=.returned (.int .i64 (hostsV (Qk.has p 15) (Qk.has p 16) minor (find fs hostN)))∧Below w.heap.size w w':=by
 have HF:=Lib.hid (rfind_at a n cap fs ⟨#[72,111,115,116]⟩ w hv hn (fun f hf=>(hs f hf).1) (by decide))
 have H15:=Lib.hid (fun w=>Qk.rhas_any p hp 15 w)
 have H16:=Lib.hid (fun w=>Qk.rhas_any p hp 16 w)
 have hsz:=find_sizes fs ⟨#[72,111,115,116]⟩ 1000000000 (fun f hf=>(hs f hf).2);have hle:=find_le fs ⟨#[72,111,115,116]⟩;rw [hv.1] at hle
 have HT:=Lib.hid (fun v (hv:v.size≤1000000000) w=>Tgt.rhost_any v w hv);obtain ⟨R,hR⟩:∃R,hostsV (Qk.has p 15) (Qk.has p 16) minor (find fs ⟨#[72,111,115,116]⟩)=R:=⟨_,rfl⟩;rw [show hostsV (Qk.has p 15) (Qk.has p 16) minor (find fs hostN)=R from hR];clear hv hs hp;generalize find fs ⟨#[72,111,115,116]⟩=H at *;obtain ⟨nh,hnh⟩:∃nh,Qk.has p 15=nh:=⟨_,rfl⟩;rw [hnh] at H15 hR;obtain ⟨mh,hmh⟩:∃mh,Qk.has p 16=mh:=⟨_,rfl⟩;rw [hmh] at H16 hR;clear hmh hnh;obtain ⟨m,hm⟩:∃m,H.length=m:=⟨_,rfl⟩;rw [hm] at HF hle
 have HSZ:=Lib.hid (fun k (hk:k<m)=>show (H[k]?.getD ByteArray.empty).size≤1000000000 by
  rw [List.getElem?_eq_getElem (by omega)]
  exact hsz _ (List.getElem_mem _))
 have HM:=Lib.hid hm;clear hsz;by_cases hA:minor=1∧m=0∧nh=false
 ·obtain ⟨rfl,rfl,rfl⟩:=hA;obtain rfl:=List.eq_nil_of_length_eq_zero hm;rw [hosts_none] at hR
  replace hR:R=400:=hR.symm
  subst hR;clear hm HSZ HM HT;go_enter Tryz.func107,Tryz.ntmps107
  go_wp2_with (first
   |(go_at_call 108;with_reducible refine (HF.out).mono ?_;rintro e w1 ⟨b,c,rfl,hS,hb⟩;clear hS)
   |(go_at_call 39;with_reducible refine (H15.out _).mono ?_;rintro e w2 ⟨rfl,hw⟩;rw [hw];clear hw))
  go_ret;exact ⟨rfl,hb⟩
 by_cases hB:1<m∧mh=false
 ·obtain ⟨h1,rfl⟩:=hB;rw [hosts_many nh minor H (by omega)] at hR;subst hR
  have t0:((m:Int)==0)=false:=beq_eq_false_iff_ne.2 (by omega);have t1:(1:Int)<(m:Int):=by omega
  clear hm hA HSZ HM HT;rcases (by omega:minor=1∨¬minor=1) with rfl | h2;all_goals
   try (have t2:(minor==1)=false:=beq_eq_false_iff_ne.2 h2)
   go_enter Tryz.func107,Tryz.ntmps107
   go_wp2_with (first
    |(go_at_call 108;with_reducible refine (HF.out).mono ?_;rintro e w1 ⟨b,c,rfl,hS,hb⟩;clear hS)
    |(go_at_call 39;with_reducible refine (H16.out _).mono ?_;rintro e w2 ⟨rfl,hw⟩;rw [hw];clear hw))
   go_ret;exact ⟨rfl,hb⟩
 have hR2:R=if (H.all fun v=>Tgt.hostB v.data.toList)=true then 0 else 400:=by
  by_cases h10:minor=1∧m=0
  ·obtain ⟨rfl,rfl⟩:=h10;cases nh
   ·exact absurd ⟨rfl,rfl,rfl⟩ hA
   ·rw [←hR,hosts_old true mh H hm rfl,List.eq_nil_of_length_eq_zero hm];rfl
  ·rw [←hR]
   exact hosts_loop nh mh minor H (by rw [hm];exact h10) (by
    rcases (by omega:m≤1∨1<m) with h | h
    ·exact .inl (by omega)
    ·right;cases mh
     ·exact absurd ⟨h,rfl⟩ hB
     ·rfl)
 have HR:=Lib.hid hR2;clear hR hR2 hm;have hcase:(m=0∧(¬minor=1∨(minor=1∧nh=true)))∨(m=1∧(¬minor=1∨minor=1))∨((1<m∧mh=true)∧(¬minor=1∨minor=1)):=by
  rcases (by omega:m=0∨m=1∨1<m) with h | h | h
  ·refine .inl ⟨h,?_⟩;by_cases h2:minor=1
   ·right;cases nh
    ·exact absurd ⟨h2,h,rfl⟩ hA
    ·exact ⟨h2,rfl⟩
   ·exact .inl h2
  ·exact .inr (.inl ⟨h,by omega⟩)
  ·refine .inr (.inr ⟨⟨h,?_⟩,by omega⟩);cases mh
   ·exact absurd ⟨h,rfl⟩ hB
   ·rfl
 clear hA hB;rcases hcase with ⟨h0,hmi⟩ | ⟨h0,hmi⟩ | ⟨⟨h0,rfl⟩,hmi⟩
 ·obtain rfl:=h0
  have H3:=Lib.hid (show R=0 from by rw [HR.out,List.eq_nil_of_length_eq_zero HM.out];rfl);rcases hmi with h2 | ⟨rfl,rfl⟩;all_goals
   try (have t2:(minor==1)=false:=beq_eq_false_iff_ne.2 h2)
   go_enter Tryz.func107,Tryz.ntmps107
   go_wp2_with (first
    |(go_at_call 108;with_reducible refine (HF.out).mono ?_;rintro e w1 ⟨b,c,rfl,hS,hb⟩;clear hS
      have HB:=Lib.hid hb;clear hb)
    |(go_at_call 39;with_reducible refine (H15.out _).mono ?_;rintro e w2 ⟨rfl,hw⟩;rw [hw];clear hw))
   go_loopw [8] (fun i wr=>i=.int .i64 0∧wr=w1) (fun i _=>0)
   case atStart=>exact ⟨rfl,rfl⟩
   case round=>obtain ⟨rfl,rfl⟩:=hrel;go_wp2_with fail;go_ret;exact ⟨by rw [H3.out];rfl,HB.out⟩
 all_goals
  have t0:((m:Int)==0)=false:=beq_eq_false_iff_ne.2 (by omega);first
   |(have t1:(1:Int)<(m:Int):=by omega)
   |(have t1:¬(1:Int)<(m:Int):=by omega)
  clear h0;rcases hmi with h2 | rfl;all_goals
   try (have t2:(minor==1)=false:=beq_eq_false_iff_ne.2 h2)
   go_enter Tryz.func107,Tryz.ntmps107
   go_wp2_with (first
    |(go_at_call 108;with_reducible refine (HF.out).mono ?_;rintro e w1 ⟨b,c,rfl,hS,hb⟩
      have HS:=Lib.hid hS;have HB:=Lib.hid hb;clear hS hb)
    |(go_at_call 39;with_reducible refine (H16.out _).mono ?_;rintro e w2 ⟨rfl,hw⟩;rw [hw];clear hw))
   go_loopw [8] (fun i wr=>∃k:Nat,k≤m∧i=.int .i64 k∧Hid (Below w1.heap.size w1 wr)∧Hid ((H.take k).all (fun v=>Tgt.hostB v.data.toList)=true)) (fun i _=>m-(intOf i).toNat)
   case atStart=>exact ⟨0,Nat.zero_le _,rfl,Lib.hid (Below.refl _ _),Lib.hid rfl⟩
   case round=>
    obtain ⟨k,hk,rfl,hbr,H1⟩:=hrel;rcases Nat.lt_or_ge k m with hlt | hge
    ·obtain ⟨bl,off,rfl,hbl,hc⟩:=(HS.out.below hbr.out).2 (by omega);have hck:=hc k hlt
     have HN:=Lib.hid (take_all_snoc (fun v:ByteArray=>Tgt.hostB v.data.toList) ByteArray.empty H k (by rw [HM.out];exact hlt))
     have HZ:=Lib.hid (all_of_miss (fun v:ByteArray=>Tgt.hostB v.data.toList) ByteArray.empty H k (by rw [HM.out];exact hlt))
     have HC:=Lib.hid (HT.out _ (HSZ.out k hlt));clear hc;generalize H[k]?.getD ByteArray.empty=x at *;have i1:(k:Int)<(m:Int):=by omega
     generalize Tgt.hostB x.data.toList=q at *;cases q with
     | true=>
       have H2:=Lib.hid (show (H.take (k+1)).all (fun v=>Tgt.hostB v.data.toList)=true by rw [HN.out,H1.out];rfl);clear HN HZ
       go_wp2_with (go_at_call 102;with_reducible refine (HC.out _).mono ?_;rintro e w2 ⟨rfl,hb⟩)
       have HB2:=Lib.hid (Base.below_step hbr.out hb);clear hb;go_roundw
       case rel=>exact ⟨k+1,by omega,by go_num,HB2,H2⟩
       case measure=>simp [intOf];omega
     | false=>
       have H2:=Lib.hid (show R=400 by rw [HR.out,HZ.out rfl];rfl);clear HN HZ
       go_wp2_with (go_at_call 102;with_reducible refine (HC.out _).mono ?_;rintro e w2 ⟨rfl,hb⟩)
       have HB2:=Lib.hid (Base.below_step (Base.below_step HB.out hbr.out) hb);clear hb;go_ret;exact ⟨by rw [H2.out];rfl,HB2.out⟩
    ·obtain rfl:k=m:=by omega
     have H2:=Lib.hid (show R=0 by have:=H1.out;rw [List.take_of_length_le (by rw [HM.out];exact Nat.le_refl _)] at this;rw [HR.out,this];rfl)
     have HB2:=Lib.hid (Base.below_step HB.out hbr.out);go_wp2_with fail;go_ret;exact ⟨by rw [H2.out];rfl,HB2.out⟩
end code
end Go.Proofs.YtimoakmcelocfaaGreat.Frm
namespace Go.Proofs.YtimoakmcelocfaaGreat.Frm
open Go.RowKit Base Txt
section code
set_option maxHeartbeats 8000000
set_option maxRecDepth 10000
attribute [local go_sem] Base.some_undef
theorem rdecide_any (p:Nat) (hp:p<4294967296) (x0 x1 x2 x3 x4 x5 x6 x7:Int) (ch od:Bool) (hx:x3≤9223372036854775807) (minor:Int) (a:Option Addr) (n cap:Nat) (fs:List Fld) (w:World) (hv:Flds w a n fs) (hn:n≤500) (hs:∀f∈fs,f.1.size≤1000000∧f.2.size≤1000000) :
 Calls Tryz.prog 91 #[.int .u32 (p:Nat),Bnd.bnd x0 x1 x2 x3 x4 x5 x6 x7 ch od,.int .i64 minor,.slice a n cap] w fun e w'=>e=.returned (.tuple #[fr (decideV (clOf p) ch x3 minor fs).1 (decideV (clOf p) ch x3 minor fs).2.1,.int .i64 (decideV (clOf p) ch x3 minor fs).2.2])∧Below w.heap.size w w':=by
 have HH:=Lib.hid (fun w' hb=>rhosts_any p hp minor a n cap fs w' (hv.below (w':=w') hb) (by omega) (fun f hf=>by have:=hs f hf;omega))
 have HF1:=Lib.hid (fun w' hb=>rfind_at a n cap fs ⟨#[84,114,97,110,115,102,101,114,45,69,110,99,111,100,105,110,103]⟩ w' (hv.below (w':=w') hb) (by omega) (fun f hf=>by have:=hs f hf;omega) (by decide))
 have HF2:=Lib.hid (fun w' hb=>rfind_at a n cap fs ⟨#[67,111,110,116,101,110,116,45,76,101,110,103,116,104]⟩ w' (hv.below (w':=w') hb) (by omega) (fun f hf=>by have:=hs f hf;omega) (by decide));have hrm:∀name,room (find fs name)≤1000000000:=fun name=>by
  have h1:=room_le (find fs name) 1000000 (find_sizes fs name 1000000 fun f hf=>(hs f hf).2);have h2:=find_le fs name;rw [hv.1] at h2
  have h3:(find fs name).length*(1000000+1)≤500*1000001:=Nat.mul_le_mul (by omega) (by omega);omega
 have hrm1:=hrm ⟨#[84,114,97,110,115,102,101,114,45,69,110,99,111,100,105,110,103]⟩;have hrm2:=hrm ⟨#[67,111,110,116,101,110,116,45,76,101,110,103,116,104]⟩
 have H19:=Lib.hid (fun w=>Qk.rhas_any p hp 19 w)
 have H20:=Lib.hid (fun w=>Qk.rhas_any p hp 20 w)
 have H21:=Lib.hid (fun w=>Qk.rhas_any p hp 21 w)
 have H22:=Lib.hid (fun w=>Qk.rhas_any p hp 22 w);obtain ⟨R,hR⟩:∃R,decideV (clOf p) ch x3 minor fs=R:=⟨_,rfl⟩;rw [hR]
 replace hR:bodyV (hostsV (Qk.has p 15) (Qk.has p 16) minor (find fs ⟨#[72,111,115,116]⟩)) ch
  (winsV (Qk.has p 20) (Qk.has p 19) (Qk.has p 21) (Qk.has p 22) minor (find fs ⟨#[84,114,97,110,115,102,101,114,45,69,110,99,111,100,105,110,103]⟩).length (find fs ⟨#[67,111,110,116,101,110,116,45,76,101,110,103,116,104]⟩).length (coding (Qk.has p 17) (Qk.has p 18) (find fs ⟨#[84,114,97,110,115,102,101,114,45,69,110,99,111,100,105,110,103]⟩)))
  (lengthV (Qk.has p 23) (Qk.has p 24) (Qk.has p 25) (Qk.has p 26) x3 (find fs ⟨#[67,111,110,116,101,110,116,45,76,101,110,103,116,104]⟩))=R:=hR
 rw [show find fs hostN=find fs ⟨#[72,111,115,116]⟩ from rfl] at HH;generalize find fs ⟨#[72,111,115,116]⟩=LH at *;generalize find fs ⟨#[84,114,97,110,115,102,101,114,45,69,110,99,111,100,105,110,103]⟩=LT at *;generalize find fs ⟨#[67,111,110,116,101,110,116,45,76,101,110,103,116,104]⟩=LC at *
 have HW:=Lib.hid (fun a' c' w' hS=>rcoding_any p hp a' LT.length c' LT w' hS hrm1)
 have HL:=Lib.hid (fun a' c' w' hS=>rlength_any p hp x3 hx a' LC.length c' LC w' hS hrm2);generalize hostsV (Qk.has p 15) (Qk.has p 16) minor LH=Z at *;generalize lengthV (Qk.has p 23) (Qk.has p 24) (Qk.has p 25) (Qk.has p 26) x3 LC=LV at *;generalize coding (Qk.has p 17) (Qk.has p 18) LT=cod at *;generalize LT.length=nT at *;generalize LC.length=nC at *;generalize Qk.has p 19=ti at *;generalize Qk.has p 20=td at *;generalize Qk.has p 21=tw at *;generalize Qk.has p 22=lw at *;obtain ⟨ln,le⟩:=LV;unfold bodyV fixedV winsV at hR;simp only at hR HL;clear hrm hrm1 hrm2 hv hs hp hx hn
 have HK0:=Lib.hid (Kp.new w 24 133 x0 x1 x2 x3 x4 x5 x6 x7 ch od);by_cases hZ:Z≠0
 ·rw [if_pos hZ] at hR;subst hR;have tz:(Z==0)=false:=beq_eq_false_iff_ne.2 hZ;clear hZ;go_enter Tryz.func91,Tryz.ntmps91
  go_wp2_with (first
   |(go_at_call 39;with_reducible refine (H19.out _).mono ?_;rintro e w8 ⟨rfl,hw⟩;rw [hw];clear hw)
   |(go_at_call 39;with_reducible refine (H20.out _).mono ?_;rintro e w8 ⟨rfl,hw⟩;rw [hw];clear hw)
   |(go_at_call 39;with_reducible refine (H21.out _).mono ?_;rintro e w8 ⟨rfl,hw⟩;rw [hw];clear hw)
   |(go_at_call 39;with_reducible refine (H22.out _).mono ?_;rintro e w8 ⟨rfl,hw⟩;rw [hw];clear hw)
   |(go_at_call 110;(with_reducible refine (HL.out _ _ _ HS2.out).mono ?_);rintro e w5 ⟨rfl,hb⟩
     replace HK:=Lib.hid (HK.out.step hb)
     (try clear q3 q8 c0 c1 z0 z1)
     obtain ⟨q3,q8,⟨c0,c1,z0,z1⟩,hlt,hbk⟩:=HK.out;clear hlt hbk hb)
   |(go_at_call 109;(with_reducible refine (HW.out _ _ _ HS1.out).mono ?_);rintro e w4 ⟨rfl,hb⟩
     replace HK:=Lib.hid (HK.out.step hb)
     replace HS1:=Lib.hid (HS1.out.below hb)
     replace HS2:=Lib.hid (HS2.out.below hb)
     (try clear q3 q8 c0 c1 z0 z1)
     obtain ⟨q3,q8,⟨c0,c1,z0,z1⟩,hlt,hbk⟩:=HK.out;clear hlt hbk hb)
   |(go_at_call 108;(with_reducible refine (HF2.out _ HK.out.b).mono ?_);rintro e w3 ⟨b3,k3,rfl,hS,hb⟩
     replace HK:=Lib.hid (HK.out.step hb)
     replace HS1:=Lib.hid (HS1.out.below hb)
     have HS2:=Lib.hid hS;clear hS
     (try clear q3 q8 c0 c1 z0 z1)
     obtain ⟨q3,q8,⟨c0,c1,z0,z1⟩,hlt,hbk⟩:=HK.out;clear hlt hbk hb)
   |(go_at_call 108;(with_reducible refine (HF1.out _ HK.out.b).mono ?_);rintro e w2 ⟨b2,k2,rfl,hS,hb⟩
     replace HK:=Lib.hid (HK.out.step hb)
     have HS1:=Lib.hid hS;clear hS
     (try clear q3 q8 c0 c1 z0 z1)
     obtain ⟨q3,q8,⟨c0,c1,z0,z1⟩,hlt,hbk⟩:=HK.out;clear hlt hbk hb)
   |(go_at_call 107;(with_reducible refine (HH.out _ HK0.out.b).mono ?_);rintro e w1 ⟨rfl,hb⟩
     have HK:=Lib.hid (HK0.out.step hb)
     (try clear q3 q8 c0 c1 z0 z1)
     obtain ⟨q3,q8,⟨c0,c1,z0,z1⟩,hlt,hbk⟩:=HK.out;clear hlt hbk hb))
  obtain ⟨W,hW,⟨d0,d1,_,_⟩,hbW⟩:=Gb.put HK.out.f HK.out.b (Nat.le_succ _) 0 0;rw [hW];exact bodyPost_ret (v:=.tuple #[fr 0 0,.int .i64 Z]) (by simp [results,Tryz.results91,go_sem,d0,d1]) rfl ⟨rfl,hbW⟩
 rw [if_neg hZ] at hR;obtain rfl:Z=0:=Decidable.not_not.1 hZ;clear hZ;by_cases hT:nT=0
 ·subst hT;rw [if_pos rfl] at hR;rw [if_neg (by decide),if_neg (by decide)] at hR;have hcase:(le=0∧R=(1,ln,0))∨((le==0)=false∧R=(0,0,le)):=by
   by_cases h:le=0
   ·rw [if_pos h] at hR;exact .inl ⟨h,hR.symm⟩
   ·rw [if_neg h] at hR;exact .inr ⟨beq_eq_false_iff_ne.2 h,hR.symm⟩
  clear hR;rcases hcase with ⟨rfl,rfl⟩ | ⟨tz,rfl⟩
  ·go_enter Tryz.func91,Tryz.ntmps91
   go_wp2_with (first
    |(go_at_call 39;with_reducible refine (H19.out _).mono ?_;rintro e w8 ⟨rfl,hw⟩;rw [hw];clear hw)
    |(go_at_call 39;with_reducible refine (H20.out _).mono ?_;rintro e w8 ⟨rfl,hw⟩;rw [hw];clear hw)
    |(go_at_call 39;with_reducible refine (H21.out _).mono ?_;rintro e w8 ⟨rfl,hw⟩;rw [hw];clear hw)
    |(go_at_call 39;with_reducible refine (H22.out _).mono ?_;rintro e w8 ⟨rfl,hw⟩;rw [hw];clear hw)
    |(go_at_call 110;(with_reducible refine (HL.out _ _ _ HS2.out).mono ?_);rintro e w5 ⟨rfl,hb⟩
      replace HK:=Lib.hid (HK.out.step hb)
      (try clear q3 q8 c0 c1 z0 z1)
      obtain ⟨q3,q8,⟨c0,c1,z0,z1⟩,hlt,hbk⟩:=HK.out;clear hlt hbk hb)
    |(go_at_call 109;(with_reducible refine (HW.out _ _ _ HS1.out).mono ?_);rintro e w4 ⟨rfl,hb⟩
      replace HK:=Lib.hid (HK.out.step hb)
      replace HS1:=Lib.hid (HS1.out.below hb)
      replace HS2:=Lib.hid (HS2.out.below hb)
      (try clear q3 q8 c0 c1 z0 z1)
      obtain ⟨q3,q8,⟨c0,c1,z0,z1⟩,hlt,hbk⟩:=HK.out;clear hlt hbk hb)
    |(go_at_call 108;(with_reducible refine (HF2.out _ HK.out.b).mono ?_);rintro e w3 ⟨b3,k3,rfl,hS,hb⟩
      replace HK:=Lib.hid (HK.out.step hb)
      replace HS1:=Lib.hid (HS1.out.below hb)
      have HS2:=Lib.hid hS;clear hS
      (try clear q3 q8 c0 c1 z0 z1)
      obtain ⟨q3,q8,⟨c0,c1,z0,z1⟩,hlt,hbk⟩:=HK.out;clear hlt hbk hb)
    |(go_at_call 108;(with_reducible refine (HF1.out _ HK.out.b).mono ?_);rintro e w2 ⟨b2,k2,rfl,hS,hb⟩
      replace HK:=Lib.hid (HK.out.step hb)
      have HS1:=Lib.hid hS;clear hS
      (try clear q3 q8 c0 c1 z0 z1)
      obtain ⟨q3,q8,⟨c0,c1,z0,z1⟩,hlt,hbk⟩:=HK.out;clear hlt hbk hb)
    |(go_at_call 107;(with_reducible refine (HH.out _ HK0.out.b).mono ?_);rintro e w1 ⟨rfl,hb⟩
      have HK:=Lib.hid (HK0.out.step hb)
      (try clear q3 q8 c0 c1 z0 z1)
      obtain ⟨q3,q8,⟨c0,c1,z0,z1⟩,hlt,hbk⟩:=HK.out;clear hlt hbk hb))
   obtain ⟨W,hW,⟨d0,d1,_,_⟩,hbW⟩:=Gb.put HK.out.f HK.out.b (Nat.le_succ _) 1 ln;rw [hW];exact bodyPost_ret (v:=.tuple #[fr 1 ln,.int .i64 0]) (by simp [results,Tryz.results91,go_sem,d0,d1]) rfl ⟨rfl,hbW⟩
  ·go_enter Tryz.func91,Tryz.ntmps91
   go_wp2_with (first
    |(go_at_call 39;with_reducible refine (H19.out _).mono ?_;rintro e w8 ⟨rfl,hw⟩;rw [hw];clear hw)
    |(go_at_call 39;with_reducible refine (H20.out _).mono ?_;rintro e w8 ⟨rfl,hw⟩;rw [hw];clear hw)
    |(go_at_call 39;with_reducible refine (H21.out _).mono ?_;rintro e w8 ⟨rfl,hw⟩;rw [hw];clear hw)
    |(go_at_call 39;with_reducible refine (H22.out _).mono ?_;rintro e w8 ⟨rfl,hw⟩;rw [hw];clear hw)
    |(go_at_call 110;(with_reducible refine (HL.out _ _ _ HS2.out).mono ?_);rintro e w5 ⟨rfl,hb⟩
      replace HK:=Lib.hid (HK.out.step hb)
      (try clear q3 q8 c0 c1 z0 z1)
      obtain ⟨q3,q8,⟨c0,c1,z0,z1⟩,hlt,hbk⟩:=HK.out;clear hlt hbk hb)
    |(go_at_call 109;(with_reducible refine (HW.out _ _ _ HS1.out).mono ?_);rintro e w4 ⟨rfl,hb⟩
      replace HK:=Lib.hid (HK.out.step hb)
      replace HS1:=Lib.hid (HS1.out.below hb)
      replace HS2:=Lib.hid (HS2.out.below hb)
      (try clear q3 q8 c0 c1 z0 z1)
      obtain ⟨q3,q8,⟨c0,c1,z0,z1⟩,hlt,hbk⟩:=HK.out;clear hlt hbk hb)
    |(go_at_call 108;(with_reducible refine (HF2.out _ HK.out.b).mono ?_);rintro e w3 ⟨b3,k3,rfl,hS,hb⟩
      replace HK:=Lib.hid (HK.out.step hb)
      replace HS1:=Lib.hid (HS1.out.below hb)
      have HS2:=Lib.hid hS;clear hS
      (try clear q3 q8 c0 c1 z0 z1)
      obtain ⟨q3,q8,⟨c0,c1,z0,z1⟩,hlt,hbk⟩:=HK.out;clear hlt hbk hb)
    |(go_at_call 108;(with_reducible refine (HF1.out _ HK.out.b).mono ?_);rintro e w2 ⟨b2,k2,rfl,hS,hb⟩
      replace HK:=Lib.hid (HK.out.step hb)
      have HS1:=Lib.hid hS;clear hS
      (try clear q3 q8 c0 c1 z0 z1)
      obtain ⟨q3,q8,⟨c0,c1,z0,z1⟩,hlt,hbk⟩:=HK.out;clear hlt hbk hb)
    |(go_at_call 107;(with_reducible refine (HH.out _ HK0.out.b).mono ?_);rintro e w1 ⟨rfl,hb⟩
      have HK:=Lib.hid (HK0.out.step hb)
      (try clear q3 q8 c0 c1 z0 z1)
      obtain ⟨q3,q8,⟨c0,c1,z0,z1⟩,hlt,hbk⟩:=HK.out;clear hlt hbk hb))
   obtain ⟨W,hW,⟨d0,d1,_,_⟩,hbW⟩:=Gb.put HK.out.f HK.out.b (Nat.le_succ _) 0 0;rw [hW];exact bodyPost_ret (v:=.tuple #[fr 0 0,.int .i64 le]) (by simp [results,Tryz.results91,go_sem,d0,d1]) rfl ⟨rfl,hbW⟩
 rw [if_neg hT] at hR;have tT:(0:Int)<(nT:Int):=by omega
 clear hT;by_cases hO:minor=0∧td=false
 ·obtain ⟨rfl,rfl⟩:=hO;rw [if_pos (show (decide ((0:Int)=0) && !false)=true from rfl),if_pos (by decide)] at hR;subst hR;go_enter Tryz.func91,Tryz.ntmps91
  go_wp2_with (first
   |(go_at_call 39;with_reducible refine (H19.out _).mono ?_;rintro e w8 ⟨rfl,hw⟩;rw [hw];clear hw)
   |(go_at_call 39;with_reducible refine (H20.out _).mono ?_;rintro e w8 ⟨rfl,hw⟩;rw [hw];clear hw)
   |(go_at_call 39;with_reducible refine (H21.out _).mono ?_;rintro e w8 ⟨rfl,hw⟩;rw [hw];clear hw)
   |(go_at_call 39;with_reducible refine (H22.out _).mono ?_;rintro e w8 ⟨rfl,hw⟩;rw [hw];clear hw)
   |(go_at_call 110;(with_reducible refine (HL.out _ _ _ HS2.out).mono ?_);rintro e w5 ⟨rfl,hb⟩
     replace HK:=Lib.hid (HK.out.step hb)
     (try clear q3 q8 c0 c1 z0 z1)
     obtain ⟨q3,q8,⟨c0,c1,z0,z1⟩,hlt,hbk⟩:=HK.out;clear hlt hbk hb)
   |(go_at_call 109;(with_reducible refine (HW.out _ _ _ HS1.out).mono ?_);rintro e w4 ⟨rfl,hb⟩
     replace HK:=Lib.hid (HK.out.step hb)
     replace HS1:=Lib.hid (HS1.out.below hb)
     replace HS2:=Lib.hid (HS2.out.below hb)
     (try clear q3 q8 c0 c1 z0 z1)
     obtain ⟨q3,q8,⟨c0,c1,z0,z1⟩,hlt,hbk⟩:=HK.out;clear hlt hbk hb)
   |(go_at_call 108;(with_reducible refine (HF2.out _ HK.out.b).mono ?_);rintro e w3 ⟨b3,k3,rfl,hS,hb⟩
     replace HK:=Lib.hid (HK.out.step hb)
     replace HS1:=Lib.hid (HS1.out.below hb)
     have HS2:=Lib.hid hS;clear hS
     (try clear q3 q8 c0 c1 z0 z1)
     obtain ⟨q3,q8,⟨c0,c1,z0,z1⟩,hlt,hbk⟩:=HK.out;clear hlt hbk hb)
   |(go_at_call 108;(with_reducible refine (HF1.out _ HK.out.b).mono ?_);rintro e w2 ⟨b2,k2,rfl,hS,hb⟩
     replace HK:=Lib.hid (HK.out.step hb)
     have HS1:=Lib.hid hS;clear hS
     (try clear q3 q8 c0 c1 z0 z1)
     obtain ⟨q3,q8,⟨c0,c1,z0,z1⟩,hlt,hbk⟩:=HK.out;clear hlt hbk hb)
   |(go_at_call 107;(with_reducible refine (HH.out _ HK0.out.b).mono ?_);rintro e w1 ⟨rfl,hb⟩
     have HK:=Lib.hid (HK0.out.step hb)
     (try clear q3 q8 c0 c1 z0 z1)
     obtain ⟨q3,q8,⟨c0,c1,z0,z1⟩,hlt,hbk⟩:=HK.out;clear hlt hbk hb))
  obtain ⟨W,hW,⟨d0,d1,_,_⟩,hbW⟩:=Gb.put HK.out.f HK.out.b (Nat.le_succ _) 0 0;rw [hW];exact bodyPost_ret (v:=.tuple #[fr 0 0,.int .i64 400]) (by simp [results,Tryz.results91,go_sem,d0,d1]) rfl ⟨rfl,hbW⟩
 have hO2:(minor=0∧td=true)∨(minor==0)=false:=by
  by_cases h:minor=0
  ·cases td
   ·exact absurd ⟨h,rfl⟩ hO
   ·exact .inl ⟨h,rfl⟩
  ·exact .inr (beq_eq_false_iff_ne.2 h)
 rw [if_neg (show¬(decide (minor=0) && !td)=true by
  rintro h;rw [Bool.and_eq_true,decide_eq_true_eq,Bool.not_eq_true'] at h
  exact hO h)] at hR
 clear hO;cases cod with
 | false=>
   rw [if_pos (show false=false from rfl)] at hR;cases ti with
   | false=>
     rw [if_neg (show¬false=true by decide)] at hR;rw [if_pos (by decide)] at hR;subst hR;rcases hO2 with ⟨rfl,rfl⟩ | t1;all_goals
      go_enter Tryz.func91,Tryz.ntmps91
      go_wp2_with (first
       |(go_at_call 39;with_reducible refine (H19.out _).mono ?_;rintro e w8 ⟨rfl,hw⟩;rw [hw];clear hw)
       |(go_at_call 39;with_reducible refine (H20.out _).mono ?_;rintro e w8 ⟨rfl,hw⟩;rw [hw];clear hw)
       |(go_at_call 39;with_reducible refine (H21.out _).mono ?_;rintro e w8 ⟨rfl,hw⟩;rw [hw];clear hw)
       |(go_at_call 39;with_reducible refine (H22.out _).mono ?_;rintro e w8 ⟨rfl,hw⟩;rw [hw];clear hw)
       |(go_at_call 110;(with_reducible refine (HL.out _ _ _ HS2.out).mono ?_);rintro e w5 ⟨rfl,hb⟩
         replace HK:=Lib.hid (HK.out.step hb)
         (try clear q3 q8 c0 c1 z0 z1)
         obtain ⟨q3,q8,⟨c0,c1,z0,z1⟩,hlt,hbk⟩:=HK.out;clear hlt hbk hb)
       |(go_at_call 109;(with_reducible refine (HW.out _ _ _ HS1.out).mono ?_);rintro e w4 ⟨rfl,hb⟩
         replace HK:=Lib.hid (HK.out.step hb)
         replace HS1:=Lib.hid (HS1.out.below hb)
         replace HS2:=Lib.hid (HS2.out.below hb)
         (try clear q3 q8 c0 c1 z0 z1)
         obtain ⟨q3,q8,⟨c0,c1,z0,z1⟩,hlt,hbk⟩:=HK.out;clear hlt hbk hb)
       |(go_at_call 108;(with_reducible refine (HF2.out _ HK.out.b).mono ?_);rintro e w3 ⟨b3,k3,rfl,hS,hb⟩
         replace HK:=Lib.hid (HK.out.step hb)
         replace HS1:=Lib.hid (HS1.out.below hb)
         have HS2:=Lib.hid hS;clear hS
         (try clear q3 q8 c0 c1 z0 z1)
         obtain ⟨q3,q8,⟨c0,c1,z0,z1⟩,hlt,hbk⟩:=HK.out;clear hlt hbk hb)
       |(go_at_call 108;(with_reducible refine (HF1.out _ HK.out.b).mono ?_);rintro e w2 ⟨b2,k2,rfl,hS,hb⟩
         replace HK:=Lib.hid (HK.out.step hb)
         have HS1:=Lib.hid hS;clear hS
         (try clear q3 q8 c0 c1 z0 z1)
         obtain ⟨q3,q8,⟨c0,c1,z0,z1⟩,hlt,hbk⟩:=HK.out;clear hlt hbk hb)
       |(go_at_call 107;(with_reducible refine (HH.out _ HK0.out.b).mono ?_);rintro e w1 ⟨rfl,hb⟩
         have HK:=Lib.hid (HK0.out.step hb)
         (try clear q3 q8 c0 c1 z0 z1)
         obtain ⟨q3,q8,⟨c0,c1,z0,z1⟩,hlt,hbk⟩:=HK.out;clear hlt hbk hb))
      obtain ⟨W,hW,⟨d0,d1,_,_⟩,hbW⟩:=Gb.put HK.out.f HK.out.b (Nat.le_succ _) 0 0;rw [hW];exact bodyPost_ret (v:=.tuple #[fr 0 0,.int .i64 501]) (by simp [results,Tryz.results91,go_sem,d0,d1]) rfl ⟨rfl,hbW⟩
   | true=>
     rw [if_pos (show true=true from rfl),if_neg (by decide),if_neg (by decide)] at hR;rcases hO2 with ⟨rfl,rfl⟩ | t1;all_goals
      have hcase:(le=0∧R=(1,ln,0))∨((le==0)=false∧R=(0,0,le)):=by
       by_cases h:le=0
       ·rw [if_pos h] at hR;exact .inl ⟨h,hR.symm⟩
       ·rw [if_neg h] at hR;exact .inr ⟨beq_eq_false_iff_ne.2 h,hR.symm⟩
      clear hR;rcases hcase with ⟨rfl,rfl⟩ | ⟨tz,rfl⟩
      ·go_enter Tryz.func91,Tryz.ntmps91
       go_wp2_with (first
        |(go_at_call 39;with_reducible refine (H19.out _).mono ?_;rintro e w8 ⟨rfl,hw⟩;rw [hw];clear hw)
        |(go_at_call 39;with_reducible refine (H20.out _).mono ?_;rintro e w8 ⟨rfl,hw⟩;rw [hw];clear hw)
        |(go_at_call 39;with_reducible refine (H21.out _).mono ?_;rintro e w8 ⟨rfl,hw⟩;rw [hw];clear hw)
        |(go_at_call 39;with_reducible refine (H22.out _).mono ?_;rintro e w8 ⟨rfl,hw⟩;rw [hw];clear hw)
        |(go_at_call 110;(with_reducible refine (HL.out _ _ _ HS2.out).mono ?_);rintro e w5 ⟨rfl,hb⟩
          replace HK:=Lib.hid (HK.out.step hb)
          (try clear q3 q8 c0 c1 z0 z1)
          obtain ⟨q3,q8,⟨c0,c1,z0,z1⟩,hlt,hbk⟩:=HK.out;clear hlt hbk hb)
        |(go_at_call 109;(with_reducible refine (HW.out _ _ _ HS1.out).mono ?_);rintro e w4 ⟨rfl,hb⟩
          replace HK:=Lib.hid (HK.out.step hb)
          replace HS1:=Lib.hid (HS1.out.below hb)
          replace HS2:=Lib.hid (HS2.out.below hb)
          (try clear q3 q8 c0 c1 z0 z1)
          obtain ⟨q3,q8,⟨c0,c1,z0,z1⟩,hlt,hbk⟩:=HK.out;clear hlt hbk hb)
        |(go_at_call 108;(with_reducible refine (HF2.out _ HK.out.b).mono ?_);rintro e w3 ⟨b3,k3,rfl,hS,hb⟩
          replace HK:=Lib.hid (HK.out.step hb)
          replace HS1:=Lib.hid (HS1.out.below hb)
          have HS2:=Lib.hid hS;clear hS
          (try clear q3 q8 c0 c1 z0 z1)
          obtain ⟨q3,q8,⟨c0,c1,z0,z1⟩,hlt,hbk⟩:=HK.out;clear hlt hbk hb)
        |(go_at_call 108;(with_reducible refine (HF1.out _ HK.out.b).mono ?_);rintro e w2 ⟨b2,k2,rfl,hS,hb⟩
          replace HK:=Lib.hid (HK.out.step hb)
          have HS1:=Lib.hid hS;clear hS
          (try clear q3 q8 c0 c1 z0 z1)
          obtain ⟨q3,q8,⟨c0,c1,z0,z1⟩,hlt,hbk⟩:=HK.out;clear hlt hbk hb)
        |(go_at_call 107;(with_reducible refine (HH.out _ HK0.out.b).mono ?_);rintro e w1 ⟨rfl,hb⟩
          have HK:=Lib.hid (HK0.out.step hb)
          (try clear q3 q8 c0 c1 z0 z1)
          obtain ⟨q3,q8,⟨c0,c1,z0,z1⟩,hlt,hbk⟩:=HK.out;clear hlt hbk hb))
       obtain ⟨W,hW,⟨d0,d1,_,_⟩,hbW⟩:=Gb.put HK.out.f HK.out.b (Nat.le_succ _) 1 ln;rw [hW];exact bodyPost_ret (v:=.tuple #[fr 1 ln,.int .i64 0]) (by simp [results,Tryz.results91,go_sem,d0,d1]) rfl ⟨rfl,hbW⟩
      ·go_enter Tryz.func91,Tryz.ntmps91
       go_wp2_with (first
        |(go_at_call 39;with_reducible refine (H19.out _).mono ?_;rintro e w8 ⟨rfl,hw⟩;rw [hw];clear hw)
        |(go_at_call 39;with_reducible refine (H20.out _).mono ?_;rintro e w8 ⟨rfl,hw⟩;rw [hw];clear hw)
        |(go_at_call 39;with_reducible refine (H21.out _).mono ?_;rintro e w8 ⟨rfl,hw⟩;rw [hw];clear hw)
        |(go_at_call 39;with_reducible refine (H22.out _).mono ?_;rintro e w8 ⟨rfl,hw⟩;rw [hw];clear hw)
        |(go_at_call 110;(with_reducible refine (HL.out _ _ _ HS2.out).mono ?_);rintro e w5 ⟨rfl,hb⟩
          replace HK:=Lib.hid (HK.out.step hb)
          (try clear q3 q8 c0 c1 z0 z1)
          obtain ⟨q3,q8,⟨c0,c1,z0,z1⟩,hlt,hbk⟩:=HK.out;clear hlt hbk hb)
        |(go_at_call 109;(with_reducible refine (HW.out _ _ _ HS1.out).mono ?_);rintro e w4 ⟨rfl,hb⟩
          replace HK:=Lib.hid (HK.out.step hb)
          replace HS1:=Lib.hid (HS1.out.below hb)
          replace HS2:=Lib.hid (HS2.out.below hb)
          (try clear q3 q8 c0 c1 z0 z1)
          obtain ⟨q3,q8,⟨c0,c1,z0,z1⟩,hlt,hbk⟩:=HK.out;clear hlt hbk hb)
        |(go_at_call 108;(with_reducible refine (HF2.out _ HK.out.b).mono ?_);rintro e w3 ⟨b3,k3,rfl,hS,hb⟩
          replace HK:=Lib.hid (HK.out.step hb)
          replace HS1:=Lib.hid (HS1.out.below hb)
          have HS2:=Lib.hid hS;clear hS
          (try clear q3 q8 c0 c1 z0 z1)
          obtain ⟨q3,q8,⟨c0,c1,z0,z1⟩,hlt,hbk⟩:=HK.out;clear hlt hbk hb)
        |(go_at_call 108;(with_reducible refine (HF1.out _ HK.out.b).mono ?_);rintro e w2 ⟨b2,k2,rfl,hS,hb⟩
          replace HK:=Lib.hid (HK.out.step hb)
          have HS1:=Lib.hid hS;clear hS
          (try clear q3 q8 c0 c1 z0 z1)
          obtain ⟨q3,q8,⟨c0,c1,z0,z1⟩,hlt,hbk⟩:=HK.out;clear hlt hbk hb)
        |(go_at_call 107;(with_reducible refine (HH.out _ HK0.out.b).mono ?_);rintro e w1 ⟨rfl,hb⟩
          have HK:=Lib.hid (HK0.out.step hb)
          (try clear q3 q8 c0 c1 z0 z1)
          obtain ⟨q3,q8,⟨c0,c1,z0,z1⟩,hlt,hbk⟩:=HK.out;clear hlt hbk hb))
       obtain ⟨W,hW,⟨d0,d1,_,_⟩,hbW⟩:=Gb.put HK.out.f HK.out.b (Nat.le_succ _) 0 0;rw [hW];exact bodyPost_ret (v:=.tuple #[fr 0 0,.int .i64 le]) (by simp [results,Tryz.results91,go_sem,d0,d1]) rfl ⟨rfl,hbW⟩
 | true=>
   rw [if_neg (show¬true=false by decide)] at hR;by_cases hB:0<nC∧tw=false
   ·obtain ⟨h0,rfl⟩:=hB;rw [if_pos (show (decide (0<nC) && !false)=true by rw [decide_eq_true h0];rfl)] at hR
    have t2:((nC:Int)==0)=false:=beq_eq_false_iff_ne.2 (by omega);clear h0;cases lw with
    | false=>
      rw [if_neg (show¬false=true by decide)] at hR;rw [if_pos (by decide)] at hR;subst hR;rcases hO2 with ⟨rfl,rfl⟩ | t1;all_goals
       go_enter Tryz.func91,Tryz.ntmps91
       go_wp2_with (first
        |(go_at_call 39;with_reducible refine (H19.out _).mono ?_;rintro e w8 ⟨rfl,hw⟩;rw [hw];clear hw)
        |(go_at_call 39;with_reducible refine (H20.out _).mono ?_;rintro e w8 ⟨rfl,hw⟩;rw [hw];clear hw)
        |(go_at_call 39;with_reducible refine (H21.out _).mono ?_;rintro e w8 ⟨rfl,hw⟩;rw [hw];clear hw)
        |(go_at_call 39;with_reducible refine (H22.out _).mono ?_;rintro e w8 ⟨rfl,hw⟩;rw [hw];clear hw)
        |(go_at_call 110;(with_reducible refine (HL.out _ _ _ HS2.out).mono ?_);rintro e w5 ⟨rfl,hb⟩
          replace HK:=Lib.hid (HK.out.step hb)
          (try clear q3 q8 c0 c1 z0 z1)
          obtain ⟨q3,q8,⟨c0,c1,z0,z1⟩,hlt,hbk⟩:=HK.out;clear hlt hbk hb)
        |(go_at_call 109;(with_reducible refine (HW.out _ _ _ HS1.out).mono ?_);rintro e w4 ⟨rfl,hb⟩
          replace HK:=Lib.hid (HK.out.step hb)
          replace HS1:=Lib.hid (HS1.out.below hb)
          replace HS2:=Lib.hid (HS2.out.below hb)
          (try clear q3 q8 c0 c1 z0 z1)
          obtain ⟨q3,q8,⟨c0,c1,z0,z1⟩,hlt,hbk⟩:=HK.out;clear hlt hbk hb)
        |(go_at_call 108;(with_reducible refine (HF2.out _ HK.out.b).mono ?_);rintro e w3 ⟨b3,k3,rfl,hS,hb⟩
          replace HK:=Lib.hid (HK.out.step hb)
          replace HS1:=Lib.hid (HS1.out.below hb)
          have HS2:=Lib.hid hS;clear hS
          (try clear q3 q8 c0 c1 z0 z1)
          obtain ⟨q3,q8,⟨c0,c1,z0,z1⟩,hlt,hbk⟩:=HK.out;clear hlt hbk hb)
        |(go_at_call 108;(with_reducible refine (HF1.out _ HK.out.b).mono ?_);rintro e w2 ⟨b2,k2,rfl,hS,hb⟩
          replace HK:=Lib.hid (HK.out.step hb)
          have HS1:=Lib.hid hS;clear hS
          (try clear q3 q8 c0 c1 z0 z1)
          obtain ⟨q3,q8,⟨c0,c1,z0,z1⟩,hlt,hbk⟩:=HK.out;clear hlt hbk hb)
        |(go_at_call 107;(with_reducible refine (HH.out _ HK0.out.b).mono ?_);rintro e w1 ⟨rfl,hb⟩
          have HK:=Lib.hid (HK0.out.step hb)
          (try clear q3 q8 c0 c1 z0 z1)
          obtain ⟨q3,q8,⟨c0,c1,z0,z1⟩,hlt,hbk⟩:=HK.out;clear hlt hbk hb))
       obtain ⟨W,hW,⟨d0,d1,_,_⟩,hbW⟩:=Gb.put HK.out.f HK.out.b (Nat.le_succ _) 0 0;rw [hW];exact bodyPost_ret (v:=.tuple #[fr 0 0,.int .i64 400]) (by simp [results,Tryz.results91,go_sem,d0,d1]) rfl ⟨rfl,hbW⟩
    | true=>
      rw [if_pos (show true=true from rfl),if_neg (by decide),if_neg (by decide)] at hR;rcases hO2 with ⟨rfl,rfl⟩ | t1;all_goals
       have hcase:(le=0∧R=(1,ln,0))∨((le==0)=false∧R=(0,0,le)):=by
        by_cases h:le=0
        ·rw [if_pos h] at hR;exact .inl ⟨h,hR.symm⟩
        ·rw [if_neg h] at hR;exact .inr ⟨beq_eq_false_iff_ne.2 h,hR.symm⟩
       clear hR;rcases hcase with ⟨rfl,rfl⟩ | ⟨tz,rfl⟩
       ·go_enter Tryz.func91,Tryz.ntmps91
        go_wp2_with (first
         |(go_at_call 39;with_reducible refine (H19.out _).mono ?_;rintro e w8 ⟨rfl,hw⟩;rw [hw];clear hw)
         |(go_at_call 39;with_reducible refine (H20.out _).mono ?_;rintro e w8 ⟨rfl,hw⟩;rw [hw];clear hw)
         |(go_at_call 39;with_reducible refine (H21.out _).mono ?_;rintro e w8 ⟨rfl,hw⟩;rw [hw];clear hw)
         |(go_at_call 39;with_reducible refine (H22.out _).mono ?_;rintro e w8 ⟨rfl,hw⟩;rw [hw];clear hw)
         |(go_at_call 110;(with_reducible refine (HL.out _ _ _ HS2.out).mono ?_);rintro e w5 ⟨rfl,hb⟩
           replace HK:=Lib.hid (HK.out.step hb)
           (try clear q3 q8 c0 c1 z0 z1)
           obtain ⟨q3,q8,⟨c0,c1,z0,z1⟩,hlt,hbk⟩:=HK.out;clear hlt hbk hb)
         |(go_at_call 109;(with_reducible refine (HW.out _ _ _ HS1.out).mono ?_);rintro e w4 ⟨rfl,hb⟩
           replace HK:=Lib.hid (HK.out.step hb)
           replace HS1:=Lib.hid (HS1.out.below hb)
           replace HS2:=Lib.hid (HS2.out.below hb)
           (try clear q3 q8 c0 c1 z0 z1)
           obtain ⟨q3,q8,⟨c0,c1,z0,z1⟩,hlt,hbk⟩:=HK.out;clear hlt hbk hb)
         |(go_at_call 108;(with_reducible refine (HF2.out _ HK.out.b).mono ?_);rintro e w3 ⟨b3,k3,rfl,hS,hb⟩
           replace HK:=Lib.hid (HK.out.step hb)
           replace HS1:=Lib.hid (HS1.out.below hb)
           have HS2:=Lib.hid hS;clear hS
           (try clear q3 q8 c0 c1 z0 z1)
           obtain ⟨q3,q8,⟨c0,c1,z0,z1⟩,hlt,hbk⟩:=HK.out;clear hlt hbk hb)
         |(go_at_call 108;(with_reducible refine (HF1.out _ HK.out.b).mono ?_);rintro e w2 ⟨b2,k2,rfl,hS,hb⟩
           replace HK:=Lib.hid (HK.out.step hb)
           have HS1:=Lib.hid hS;clear hS
           (try clear q3 q8 c0 c1 z0 z1)
           obtain ⟨q3,q8,⟨c0,c1,z0,z1⟩,hlt,hbk⟩:=HK.out;clear hlt hbk hb)
         |(go_at_call 107;(with_reducible refine (HH.out _ HK0.out.b).mono ?_);rintro e w1 ⟨rfl,hb⟩
           have HK:=Lib.hid (HK0.out.step hb)
           (try clear q3 q8 c0 c1 z0 z1)
           obtain ⟨q3,q8,⟨c0,c1,z0,z1⟩,hlt,hbk⟩:=HK.out;clear hlt hbk hb))
        obtain ⟨W,hW,⟨d0,d1,_,_⟩,hbW⟩:=Gb.put HK.out.f HK.out.b (Nat.le_succ _) 1 ln;rw [hW];exact bodyPost_ret (v:=.tuple #[fr 1 ln,.int .i64 0]) (by simp [results,Tryz.results91,go_sem,d0,d1]) rfl ⟨rfl,hbW⟩
       ·go_enter Tryz.func91,Tryz.ntmps91
        go_wp2_with (first
         |(go_at_call 39;with_reducible refine (H19.out _).mono ?_;rintro e w8 ⟨rfl,hw⟩;rw [hw];clear hw)
         |(go_at_call 39;with_reducible refine (H20.out _).mono ?_;rintro e w8 ⟨rfl,hw⟩;rw [hw];clear hw)
         |(go_at_call 39;with_reducible refine (H21.out _).mono ?_;rintro e w8 ⟨rfl,hw⟩;rw [hw];clear hw)
         |(go_at_call 39;with_reducible refine (H22.out _).mono ?_;rintro e w8 ⟨rfl,hw⟩;rw [hw];clear hw)
         |(go_at_call 110;(with_reducible refine (HL.out _ _ _ HS2.out).mono ?_);rintro e w5 ⟨rfl,hb⟩
           replace HK:=Lib.hid (HK.out.step hb)
           (try clear q3 q8 c0 c1 z0 z1)
           obtain ⟨q3,q8,⟨c0,c1,z0,z1⟩,hlt,hbk⟩:=HK.out;clear hlt hbk hb)
         |(go_at_call 109;(with_reducible refine (HW.out _ _ _ HS1.out).mono ?_);rintro e w4 ⟨rfl,hb⟩
           replace HK:=Lib.hid (HK.out.step hb)
           replace HS1:=Lib.hid (HS1.out.below hb)
           replace HS2:=Lib.hid (HS2.out.below hb)
           (try clear q3 q8 c0 c1 z0 z1)
           obtain ⟨q3,q8,⟨c0,c1,z0,z1⟩,hlt,hbk⟩:=HK.out;clear hlt hbk hb)
         |(go_at_call 108;(with_reducible refine (HF2.out _ HK.out.b).mono ?_);rintro e w3 ⟨b3,k3,rfl,hS,hb⟩
           replace HK:=Lib.hid (HK.out.step hb)
           replace HS1:=Lib.hid (HS1.out.below hb)
           have HS2:=Lib.hid hS;clear hS
           (try clear q3 q8 c0 c1 z0 z1)
           obtain ⟨q3,q8,⟨c0,c1,z0,z1⟩,hlt,hbk⟩:=HK.out;clear hlt hbk hb)
         |(go_at_call 108;(with_reducible refine (HF1.out _ HK.out.b).mono ?_);rintro e w2 ⟨b2,k2,rfl,hS,hb⟩
           replace HK:=Lib.hid (HK.out.step hb)
           have HS1:=Lib.hid hS;clear hS
           (try clear q3 q8 c0 c1 z0 z1)
           obtain ⟨q3,q8,⟨c0,c1,z0,z1⟩,hlt,hbk⟩:=HK.out;clear hlt hbk hb)
         |(go_at_call 107;(with_reducible refine (HH.out _ HK0.out.b).mono ?_);rintro e w1 ⟨rfl,hb⟩
           have HK:=Lib.hid (HK0.out.step hb)
           (try clear q3 q8 c0 c1 z0 z1)
           obtain ⟨q3,q8,⟨c0,c1,z0,z1⟩,hlt,hbk⟩:=HK.out;clear hlt hbk hb))
        obtain ⟨W,hW,⟨d0,d1,_,_⟩,hbW⟩:=Gb.put HK.out.f HK.out.b (Nat.le_succ _) 0 0;rw [hW];exact bodyPost_ret (v:=.tuple #[fr 0 0,.int .i64 le]) (by simp [results,Tryz.results91,go_sem,d0,d1]) rfl ⟨rfl,hbW⟩
   ·rw [if_neg (show¬(decide (0<nC) && !tw)=true by
     rintro h;rw [Bool.and_eq_true,decide_eq_true_eq,Bool.not_eq_true'] at h
     exact hB h),if_neg (by decide),if_pos (show true=true from rfl)] at hR
    have hB2:(nC=0)∨(0<nC∧tw=true):=by
     rcases Nat.eq_zero_or_pos nC with h | h
     ·exact .inl h
     ·right;cases tw
      ·exact absurd ⟨h,rfl⟩ hB
      ·exact ⟨h,rfl⟩
    clear hB;cases ch with
    | false=>
      rw [if_neg (by decide)] at hR;subst hR;rcases hO2 with ⟨rfl,rfl⟩ | t1<;>rcases hB2 with rfl | ⟨h0,rfl⟩;all_goals
       try (have t2:((nC:Int)==0)=false:=beq_eq_false_iff_ne.2 (by omega))
       go_enter Tryz.func91,Tryz.ntmps91
       go_wp2_with (first
        |(go_at_call 39;with_reducible refine (H19.out _).mono ?_;rintro e w8 ⟨rfl,hw⟩;rw [hw];clear hw)
        |(go_at_call 39;with_reducible refine (H20.out _).mono ?_;rintro e w8 ⟨rfl,hw⟩;rw [hw];clear hw)
        |(go_at_call 39;with_reducible refine (H21.out _).mono ?_;rintro e w8 ⟨rfl,hw⟩;rw [hw];clear hw)
        |(go_at_call 39;with_reducible refine (H22.out _).mono ?_;rintro e w8 ⟨rfl,hw⟩;rw [hw];clear hw)
        |(go_at_call 110;(with_reducible refine (HL.out _ _ _ HS2.out).mono ?_);rintro e w5 ⟨rfl,hb⟩
          replace HK:=Lib.hid (HK.out.step hb)
          (try clear q3 q8 c0 c1 z0 z1)
          obtain ⟨q3,q8,⟨c0,c1,z0,z1⟩,hlt,hbk⟩:=HK.out;clear hlt hbk hb)
        |(go_at_call 109;(with_reducible refine (HW.out _ _ _ HS1.out).mono ?_);rintro e w4 ⟨rfl,hb⟩
          replace HK:=Lib.hid (HK.out.step hb)
          replace HS1:=Lib.hid (HS1.out.below hb)
          replace HS2:=Lib.hid (HS2.out.below hb)
          (try clear q3 q8 c0 c1 z0 z1)
          obtain ⟨q3,q8,⟨c0,c1,z0,z1⟩,hlt,hbk⟩:=HK.out;clear hlt hbk hb)
        |(go_at_call 108;(with_reducible refine (HF2.out _ HK.out.b).mono ?_);rintro e w3 ⟨b3,k3,rfl,hS,hb⟩
          replace HK:=Lib.hid (HK.out.step hb)
          replace HS1:=Lib.hid (HS1.out.below hb)
          have HS2:=Lib.hid hS;clear hS
          (try clear q3 q8 c0 c1 z0 z1)
          obtain ⟨q3,q8,⟨c0,c1,z0,z1⟩,hlt,hbk⟩:=HK.out;clear hlt hbk hb)
        |(go_at_call 108;(with_reducible refine (HF1.out _ HK.out.b).mono ?_);rintro e w2 ⟨b2,k2,rfl,hS,hb⟩
          replace HK:=Lib.hid (HK.out.step hb)
          have HS1:=Lib.hid hS;clear hS
          (try clear q3 q8 c0 c1 z0 z1)
          obtain ⟨q3,q8,⟨c0,c1,z0,z1⟩,hlt,hbk⟩:=HK.out;clear hlt hbk hb)
        |(go_at_call 107;(with_reducible refine (HH.out _ HK0.out.b).mono ?_);rintro e w1 ⟨rfl,hb⟩
          have HK:=Lib.hid (HK0.out.step hb)
          (try clear q3 q8 c0 c1 z0 z1)
          obtain ⟨q3,q8,⟨c0,c1,z0,z1⟩,hlt,hbk⟩:=HK.out;clear hlt hbk hb))
       obtain ⟨W,hW,⟨d0,d1,_,_⟩,hbW⟩:=Gb.put HK.out.f HK.out.b (Nat.le_succ _) 0 0;rw [hW];exact bodyPost_ret (v:=.tuple #[fr 0 0,.int .i64 501]) (by simp [results,Tryz.results91,go_sem,d0,d1]) rfl ⟨rfl,hbW⟩
    | true=>
      rw [if_pos rfl] at hR;subst hR;rcases hO2 with ⟨rfl,rfl⟩ | t1<;>rcases hB2 with rfl | ⟨h0,rfl⟩;all_goals
       try (have t2:((nC:Int)==0)=false:=beq_eq_false_iff_ne.2 (by omega))
       go_enter Tryz.func91,Tryz.ntmps91
       go_wp2_with (first
        |(go_at_call 39;with_reducible refine (H19.out _).mono ?_;rintro e w8 ⟨rfl,hw⟩;rw [hw];clear hw)
        |(go_at_call 39;with_reducible refine (H20.out _).mono ?_;rintro e w8 ⟨rfl,hw⟩;rw [hw];clear hw)
        |(go_at_call 39;with_reducible refine (H21.out _).mono ?_;rintro e w8 ⟨rfl,hw⟩;rw [hw];clear hw)
        |(go_at_call 39;with_reducible refine (H22.out _).mono ?_;rintro e w8 ⟨rfl,hw⟩;rw [hw];clear hw)
        |(go_at_call 110;(with_reducible refine (HL.out _ _ _ HS2.out).mono ?_);rintro e w5 ⟨rfl,hb⟩
          replace HK:=Lib.hid (HK.out.step hb)
          (try clear q3 q8 c0 c1 z0 z1)
          obtain ⟨q3,q8,⟨c0,c1,z0,z1⟩,hlt,hbk⟩:=HK.out;clear hlt hbk hb)
        |(go_at_call 109;(with_reducible refine (HW.out _ _ _ HS1.out).mono ?_);rintro e w4 ⟨rfl,hb⟩
          replace HK:=Lib.hid (HK.out.step hb)
          replace HS1:=Lib.hid (HS1.out.below hb)
          replace HS2:=Lib.hid (HS2.out.below hb)
          (try clear q3 q8 c0 c1 z0 z1)
          obtain ⟨q3,q8,⟨c0,c1,z0,z1⟩,hlt,hbk⟩:=HK.out;clear hlt hbk hb)
        |(go_at_call 108;(with_reducible refine (HF2.out _ HK.out.b).mono ?_);rintro e w3 ⟨b3,k3,rfl,hS,hb⟩
          replace HK:=Lib.hid (HK.out.step hb)
          replace HS1:=Lib.hid (HS1.out.below hb)
          have HS2:=Lib.hid hS;clear hS
          (try clear q3 q8 c0 c1 z0 z1)
          obtain ⟨q3,q8,⟨c0,c1,z0,z1⟩,hlt,hbk⟩:=HK.out;clear hlt hbk hb)
        |(go_at_call 108;(with_reducible refine (HF1.out _ HK.out.b).mono ?_);rintro e w2 ⟨b2,k2,rfl,hS,hb⟩
          replace HK:=Lib.hid (HK.out.step hb)
          have HS1:=Lib.hid hS;clear hS
          (try clear q3 q8 c0 c1 z0 z1)
          obtain ⟨q3,q8,⟨c0,c1,z0,z1⟩,hlt,hbk⟩:=HK.out;clear hlt hbk hb)
        |(go_at_call 107;(with_reducible refine (HH.out _ HK0.out.b).mono ?_);rintro e w1 ⟨rfl,hb⟩
          have HK:=Lib.hid (HK0.out.step hb)
          (try clear q3 q8 c0 c1 z0 z1)
          obtain ⟨q3,q8,⟨c0,c1,z0,z1⟩,hlt,hbk⟩:=HK.out;clear hlt hbk hb))
       obtain ⟨W,hW,⟨d0,d1,_,_⟩,hbW⟩:=Gb.put HK.out.f HK.out.b (Nat.le_succ _) 2 0;rw [hW];exact bodyPost_ret (v:=.tuple #[fr 2 0,.int .i64 0]) (by simp [results,Tryz.results91,go_sem,d0,d1]) rfl ⟨rfl,hbW⟩
end code
end Go.Proofs.YtimoakmcelocfaaGreat.Frm
