import Derived.Test.YtnabkcglnbdfeaaGreatDoorFen
namespace Go.Proofs.YtnabkcglnbdfeaaGreatDoor.Pg
open Go.RowKit Base Txt Mem Par
theorem cells_last (ini:List Fld) (a:Fld):(cells (ini ++ [a]))[ini.length*2]?=some (.string a.1)∧(cells (ini ++ [a]))[ini.length*2+1]?=some (.string a.2):=by
 have e:(cells ini).length=ini.length*2:=cells_length ini;have e2:cells [a]= [.string a.1,.string a.2]:=by simp [cells]
 rw [cells_append,e2];refine ⟨?_,?_⟩
 ·rw [List.getElem?_append_right (by omega),e,Nat.sub_self];rfl
 ·rw [List.getElem?_append_right (by omega),e,show ini.length*2+1-ini.length*2=1 by omega];rfl
theorem cells_put (ini:List Fld) (a c:Fld):((cells (ini ++ [a])).set (ini.length*2) (.string c.1)).set (ini.length*2+1) (.string c.2)=cells (ini ++ [c]):=by
 have e:(cells ini).length=ini.length*2:=cells_length ini;have e2:∀d:Fld,cells [d]= [.string d.1,.string d.2]:=fun d=>by simp [cells]
 rw [cells_append,cells_append,e2,e2,List.set_append_right _ _ (by omega),e,Nat.sub_self,List.set_append_right _ _ (by omega),e,show ini.length*2+1-ini.length*2=1 by omega];rfl
section code
set_option maxHeartbeats 4000000
set_option maxRecDepth 20000
attribute [local go_sem] Base.some_undef
variable {w:World} {B:Zone} {g q:Nat} {v f bd t o:Value} {p:Nat} {b:Bd} {s:T}
theorem addF_any (hp:p<4294967296) (x:ByteArray) (hx:x.size≤5000) (most:Int) (h:PR w B g q v f bd t o p b s) (hl:s.hl≤1000) (hsz:∀y∈s.r.fs,y.1.size≤1000000∧y.2.size≤1000000) (hlen:s.r.fs.length≤500) :
 Calls Tryz.prog 229 #[.pointer (some ⟨g,1,none⟩),.string x,.int .u32 (p:Int),.int .i64 most] w fun r w'=>r=.returned (.int .i64 (listE (fieldV p s.hl s.r.fs x.data.toList most):Int))∧∃f1,PR w' B g q v f1 bd t o p b {s with hl:=s.hl+1,r:={s.r with fs:=listL s.r.fs (fieldV p s.hl s.r.fs x.data.toList most)}}∧Step (blks g q v f bd t o) (blks g q v f1 bd t o) w w':=by
 obtain ⟨a1,a2⟩:=Rec.wraps ((s.hl:Int)+1) ⟨by omega,by omega⟩
 have H1:=Lib.hid (h.put 1 (.int .i64 ((s.hl:Int)+1)) {s with hl:=s.hl+1} rfl rfl rfl rfl rfl rfl)
 have HS1:=Lib.hid (Step.set (w:=w) (L:=blks g q v f bd t o) g 1 (.int .i64 ((s.hl:Int)+1)) (by simp));have c1:=h.cs.c1;have z1:=h.marks 1;have HSZ:=Lib.hid hsz;have HLEN:=Lib.hid hlen;clear hsz hlen
 by_cases hm:most<((s.hl+1:Nat):Int)
 ·have e:fieldV p s.hl s.r.fs x.data.toList most=.inl 431:=by unfold fieldV;rw [if_pos hm]
  rw [e];have t0:most<(s.hl:Int)+1:=by omega
  clear e hm h hl hx;go_enter Tryz.func229,Tryz.ntmps229;go_wp2;go_ret;exact ⟨rfl,_,H1.out,HS1.out⟩
 ·have t0:¬most<(s.hl:Int)+1:=by omega
  obtain ⟨bo,co,eo, -⟩:=Ln.own_slice h.own.F;have hgo:=fun w=>Fd.goes_any x p hp w;have HSZx:=Lib.hid hx;have hnn:(s.r.fs.length:Int)≤500:=by have:=HLEN.out;omega
  subst eo;obtain ⟨S1,hS1⟩:∃S1:T,{s with hl:=s.hl+1}=S1:=⟨_,rfl⟩;have HS:=Lib.hid hS1;clear h hl hx;by_cases hj:(Fd.goes p x.data.toList && !s.r.fs.isEmpty)=true
  ·simp only [Bool.and_eq_true,Bool.not_eq_true',List.isEmpty_eq_false_iff] at hj;obtain ⟨hg,hne⟩:=hj;rw [hg] at hgo;have HGo:=Lib.hid hgo;obtain ⟨ini,last,el⟩:∃ini last,s.r.fs=ini ++ [last]:=⟨_,_,(List.dropLast_concat_getLast hne).symm⟩;have hn1:s.r.fs.length=ini.length+1:=by rw [el];simp
   have e:fieldV p s.hl s.r.fs x.data.toList most=.inr (ini ++ [joinF last x.data.toList]):=by
    unfold fieldV;have e1:(Fd.goes p x.data.toList && !s.r.fs.isEmpty)=true:=by rw [hg,el];simp
    rw [if_neg hm,if_pos e1,el];simp
   rw [e]
   obtain ⟨gf,cf,hform,hgl,hgf⟩:=H1.out.own.F.form (by show 0<s.r.fs.length;omega);simp only [Value.slice.injEq,true_and] at hform;obtain ⟨rfl,rfl⟩:=hform
   have hq0:=(H1.out.own.F.cellAt (ini.length*2) (by show ini.length*2<s.r.fs.length*2;omega)).trans (show (cells s.r.fs)[ini.length*2]?=some (.string last.1) by rw [el];exact (cells_last ini last).1)
   have hq1:=(H1.out.own.F.cellAt (ini.length*2+1) (by show ini.length*2+1<s.r.fs.length*2;omega)).trans (show (cells s.r.fs)[ini.length*2+1]?=some (.string last.2) by rw [el];exact (cells_last ini last).2)
   have hz0:=H1.out.own.F.frozenAt (ini.length*2);have hz1:=H1.out.own.F.frozenAt (ini.length*2+1)
   have HJ:=Lib.hid (show∀w,Calls Tryz.prog 249 #[.agg #[.string last.1,.string last.2],.string x] w fun e w'=>e=.returned (.agg #[.string last.1,.string (ba (Fd.joined last.2.data.toList x.data.toList))])∧Below w.heap.size w w' from
    fun w=>Fd.join_any last.1 last.2 x w (by have:=HSZx.out;omega) (by have:=(HSZ.out last (by rw [el];simp)).2;omega))
   obtain ⟨k,hk⟩:∃k,ini.length=k:=⟨_,rfl⟩;have HK:=Lib.hid hk;rw [hk] at hn1 hq0 hq1 hz0 hz1;have t1:(0:Int)≤(k:Int):=by omega
   have i1:(k:Int)<(s.r.fs.length:Int):=by omega
   have i2:k<s.r.fs.length:=by omega
   obtain ⟨b1,b2⟩:=Rec.wraps ((s.r.fs.length:Int)-1) ⟨by omega,by omega⟩;have b3:(s.r.fs.length:Int)-1=(k:Int):=by omega
   rw [b3] at b1 b2;have HEL:=Lib.hid el;have HN1:=Lib.hid hn1;have HGL:=Lib.hid hgl;have HQ0:=Lib.hid hq0;have HQ1:=Lib.hid hq1;have HGF:=Lib.hid hgf;have HZ0:=Lib.hid hz0;have HZ1:=Lib.hid hz1;have HB3:=Lib.hid b3;have HI2:=Lib.hid i2;clear hne e hk hnn el hn1 hg hgo hm hgl hq0 hq1 hgf hz0 hz1;go_enter Tryz.func229,Tryz.ntmps229;go_upto_region 4 with fail
   generalize w.setCell ⟨g,1,none⟩ (.int .i64 ((s.hl:Int)+1))=W1 at *;clear c1 z1 a1 a2 t0;have c2:=H1.out.cs.c2
   go_upto_region 6 with (go_at_call 248;with_reducible refine (HGo.out _).mono ?_;rintro r w2 ⟨rfl,hw⟩;rw [hw];clear hw)
   have HQ:=Lib.hid ((H1.out.drew 1).bk)
   have HD:=Lib.hid (Base.below_drewN (Below.refl W1.heap.size W1) 1);clear b1 b2 b3 c2;refine Each.region 15 [39,40,41,42,43,44,45,46,47,48,49,50,51,52,53]
    [fun v _=>v=.pointer (some ⟨g,1,none⟩),
      fun v _=>v=.pointer (some ⟨g,1,none⟩),
      fun v _=>v=.pointer (some ⟨g,2,none⟩),
      fun v _=>v=.slice (some ⟨gf,0,none⟩) s.r.fs.length co,
      fun v _=>v=.int .i64 (k:Int),
      fun v _=>v=.pointer (some ⟨g,1,none⟩),
      fun v _=>v=.pointer (some ⟨g,1,none⟩),
      fun v _=>v=.pointer (some ⟨g,2,none⟩),
      fun v _=>v=.slice (some ⟨gf,0,none⟩) s.r.fs.length co,
      fun v _=>v=.int .i64 (k:Int),
      fun v _=>v=.pointer (some ⟨gf,k*2,none⟩),
      fun v _=>v=.agg #[.string last.1,.string last.2],
      fun v _=>v=.string x,
      fun v _=>v=.agg #[.string last.1,.string (ba (Fd.joined last.2.data.toList x.data.toList))],
      fun v _=>v=.pointer (some ⟨gf,k*2,none⟩)]
    (.act 15 .done) (by kernel_rfl) (by kernel_rfl) (by kernel_rfl) (by kernel_rfl) (fun _ _ d _ _ h=>by cases d<;>exact h) (by rfl) (by rfl)
    ⟨Each.Lasts.eq _,Each.Lasts.eq _,Each.Lasts.eq _,Each.Lasts.eq _,Each.Lasts.eq _,Each.Lasts.eq _,Each.Lasts.eq _,Each.Lasts.eq _,Each.Lasts.eq _,Each.Lasts.eq _,Each.Lasts.eq _,Each.Lasts.eq _,Each.Lasts.eq _,Each.Lasts.eq _,Each.Lasts.eq _,trivial⟩ ?_ ?_
   ·refine ⟨?_,?_,?_,?_,?_,?_,?_,?_,?_,?_,?_,?_,?_,?_,?_,trivial⟩
    ·refine Each.fine rfl (fun ev w1 hR hb hh=>?_);clear hh;have e0:=hR.old 0 rfl;simp only [Array.getD_eq_getD_getElem?,List.getElem?_toArray,List.getElem?_cons_zero,Option.getD_some] at e0;refine Each.Goes.same ?_;go_simp;try with_reducible rfl
    ·refine Each.fine rfl (fun ev w1 hR hb hh=>?_);have e39:(ev (.tmp 39)=.pointer (some ⟨g,1,none⟩)):=hh.at 0;clear hh;refine Each.Goes.same ?_;go_simp;try with_reducible rfl
    ·refine Each.fine rfl (fun ev w1 hR hb hh=>?_);have e40:(ev (.tmp 40)=.pointer (some ⟨g,1,none⟩)):=hh.at 0;clear hh;refine Each.Goes.same ?_;go_simp;try with_reducible rfl
    ·refine Each.fine rfl (fun ev w1 hR hb hh=>?_);have e41:(ev (.tmp 41)=.pointer (some ⟨g,2,none⟩)):=hh.at 0;clear hh;have q2:=(HQ.out.below hb).c 2 _ rfl;refine Each.Goes.same ?_;go_simp;try with_reducible rfl
    ·refine Each.fine rfl (fun ev w1 hR hb hh=>?_);clear hh;have e9:=hR.old 9 rfl;simp only [Array.getD_eq_getD_getElem?,List.getElem?_toArray,List.getElem?_cons_succ,List.getElem?_cons_zero,Option.getD_some] at e9;refine Each.Goes.same ?_;go_simp;try with_reducible rfl
    ·refine Each.fine rfl (fun ev w1 hR hb hh=>?_);clear hh;have e0:=hR.old 0 rfl;simp only [Array.getD_eq_getD_getElem?,List.getElem?_toArray,List.getElem?_cons_zero,Option.getD_some] at e0;refine Each.Goes.same ?_;go_simp;try with_reducible rfl
    ·refine Each.fine rfl (fun ev w1 hR hb hh=>?_);have e44:(ev (.tmp 44)=.pointer (some ⟨g,1,none⟩)):=hh.at 0;clear hh;refine Each.Goes.same ?_;go_simp;try with_reducible rfl
    ·refine Each.fine rfl (fun ev w1 hR hb hh=>?_);have e45:(ev (.tmp 45)=.pointer (some ⟨g,1,none⟩)):=hh.at 0;clear hh;refine Each.Goes.same ?_;go_simp;try with_reducible rfl
    ·refine Each.fine rfl (fun ev w1 hR hb hh=>?_);have e46:(ev (.tmp 46)=.pointer (some ⟨g,2,none⟩)):=hh.at 0;clear hh;have q2:=(HQ.out.below hb).c 2 _ rfl;refine Each.Goes.same ?_;go_simp;try with_reducible rfl
    ·refine Each.fine rfl (fun ev w1 hR hb hh=>?_);clear hh;have e9:=hR.old 9 rfl;simp only [Array.getD_eq_getD_getElem?,List.getElem?_toArray,List.getElem?_cons_succ,List.getElem?_cons_zero,Option.getD_some] at e9;refine Each.Goes.same ?_;go_simp;try with_reducible rfl
    ·refine Each.fine rfl (fun ev w1 hR hb hh=>?_);have e47:(ev (.tmp 47)=.slice (some ⟨gf,0,none⟩) s.r.fs.length co):=hh.at 0;have e48:(ev (.tmp 48)=.int .i64 (k:Int)):=hh.at 1;clear hh;have d1:=HI2.out;have d2:(k:Int)<(s.r.fs.length:Int):=by omega
     refine Each.Goes.same ?_;go_simp;try with_reducible rfl
    ·refine Each.fine rfl (fun ev w1 hR hb hh=>?_);have e49:(ev (.tmp 49)=.pointer (some ⟨gf,k*2,none⟩)):=hh.at 0;clear hh;have y0:=((Base.below_step HD.out hb).cell (p:=⟨gf,k*2,none⟩) HGF.out).trans HQ0.out;have y1:=((Base.below_step HD.out hb).cell (p:=⟨gf,k*2+1,none⟩) HGF.out).trans HQ1.out;refine Each.Goes.same ?_;go_simp;try with_reducible rfl
    ·refine Each.fine rfl (fun ev w1 hR hb hh=>?_);clear hh;have e1:=hR.old 1 rfl;simp only [Array.getD_eq_getD_getElem?,List.getElem?_toArray,List.getElem?_cons_succ,List.getElem?_cons_zero,Option.getD_some] at e1;refine Each.Goes.same ?_;go_simp;try with_reducible rfl
    ·refine Each.fine rfl (fun ev w1 hR hb hh=>?_);have e50:(ev (.tmp 50)=.agg #[.string last.1,.string last.2]):=hh.at 0;have e51:(ev (.tmp 51)=.string x):=hh.at 1;clear hh;have ef:=hR.func
     refine Each.Goes.enter 249 #[.agg #[.string last.1,.string last.2],.string x] (by go_simp) ((HJ.out w1).mono ?_);rintro r w2 ⟨rfl,hb2⟩;exact ⟨_,rfl,hb2,rfl⟩
    ·refine Each.fine rfl (fun ev w1 hR hb hh=>?_);have e42:(ev (.tmp 42)=.slice (some ⟨gf,0,none⟩) s.r.fs.length co):=hh.at 0;have e43:(ev (.tmp 43)=.int .i64 (k:Int)):=hh.at 1;clear hh;have d1:=HI2.out;have d2:(k:Int)<(s.r.fs.length:Int):=by omega
     refine Each.Goes.same ?_;go_simp;try with_reducible rfl
   intro g1 w3 hb hf;have z52:(g1 52=.agg #[.string last.1,.string (ba (Fd.joined last.2.data.toList x.data.toList))]):=hf.at 13;have z53:(g1 53=.pointer (some ⟨gf,k*2,none⟩)):=hf.at 14;clear hf;simp only [Each.putg,Act.put,List.setIfInBounds_toArray,List.set_cons_zero,List.set_cons_succ];rw [z52,z53];simp only [Tree.grow,Tree.put1,List.getElem?_cons_zero,List.getElem?_cons_succ];have HB4:=Lib.hid hb;have y0:=(HB4.out.cell (p:=⟨gf,k*2,none⟩) HGF.out).trans HQ0.out;have y1:=(HB4.out.cell (p:=⟨gf,k*2+1,none⟩) HGF.out).trans HQ1.out;have x0:=(HB4.out.frozen (p:=⟨gf,k*2,none⟩) HGF.out).trans HZ0.out;have x1:=(HB4.out.frozen (p:=⟨gf,k*2+1,none⟩) HGF.out).trans HZ1.out
   refine Tree.change (by rfl) (fun K hK=>?_);go_simp;refine hK _ _ trivial ?_;clear hK K y0 y1 x0 x1;refine Tree.done ?_;go_wp2;go_ret;have h3:=H1.out.below HB4.out;have ho:(Value.slice (some ⟨gf,0,none⟩) s.r.fs.length co).ownBlock=some gf:=by simp [Value.ownBlock]
   have hk3:Keeps [(Value.slice (some ⟨gf,0,none⟩) s.r.fs.length co).ownBlock] w3 ((w3.setCell ⟨gf,k*2,none⟩ (.string last.1)).setCell ⟨gf,k*2+1,none⟩ (.string (ba (Fd.joined last.2.data.toList x.data.toList)))):=
    (Keeps.set gf (k*2) _ (by rw [ho];simp)).trans (Keeps.set gf (k*2+1) _ (by rw [ho];simp)) Of.refl
   have hl3:(ini ++ [joinF last x.data.toList]).length=s.r.fs.length:=by rw [HEL.out];simp
   have hr3:=((h3.own.F.stored (k*2) (.string last.1)).1.stored (k*2+1) (.string (ba (Fd.joined last.2.data.toList x.data.toList)))).1
   obtain ⟨ho3,hs3⟩:=h3.own.setF (f':=.slice (some ⟨gf,0,none⟩) s.r.fs.length co) (fs':=ini ++ [joinF last x.data.toList]) hk3 (by
    rw [hl3,←cells_put ini last (joinF last x.data.toList),HK.out];have e:cells (ini ++ [last])=cells s.r.fs:=by rw [HEL.out]
    rw [e];exact hr3) (.inl rfl)
   have hrow:((w3.setCell ⟨gf,k*2,none⟩ (.string last.1)).setCell ⟨gf,k*2+1,none⟩ (.string (ba (Fd.joined last.2.data.toList x.data.toList)))).heap[g]?= _:=hk3.row h3.row (fun hm=>by
    have e:some g=some gf:=by rw [←ho];simpa using hm
    exact h3.own.lone.ne (i:=0) (j:=3) rfl (by decide) (by rw [e,←ho];rfl))
   exact ⟨rfl,_,⟨hrow,ho3⟩,HS1.out.trans ((Step.of_below HB4.out).trans hs3)⟩
  ·have hgt:s.r.fs.length=0∨Fd.goes p x.data.toList=false∧∃k,s.r.fs.length=k+1:=by
    rcases Nat.eq_zero_or_pos s.r.fs.length with h0 | h0
    ·exact .inl h0
    ·refine .inr ⟨?_,s.r.fs.length-1,by omega⟩;cases hg:Fd.goes p x.data.toList with
     | false=>rfl
     | true=>
       rw [hg] at hj;have:s.r.fs= []:=by simpa using hj
       rw [this] at h0;cases h0
   have hp:=fun w=>Fd.parse_any x p hp w (by have:=HSZx.out;omega);obtain ⟨iF,hi,hz0,hz1,hz2⟩:=info_parts field_info;have I1:=Lib.hid hi;have I2:=Lib.hid hz0;have I3:=Lib.hid hz1;have I4:=Lib.hid hz2;clear hi hz0 hz1 hz2;rcases hpar:Fd.parse (Fd.clOf p) x.data.toList with _ | _ | ⟨n,vv⟩
   ·have e:fieldV p s.hl s.r.fs x.data.toList most=.inl 400:=by unfold fieldV;rw [if_neg hm,if_neg hj,hpar]
    rw [e];rw [hpar] at hp;simp only [Fd.rv,Fd.fv] at hp;have HP:=Lib.hid hp;clear e hpar hp hm hj;rcases hgt with h0 | hgk
    ·have b3:(s.r.fs.length:Int)-1= -1:=by omega
     obtain ⟨b1,b2⟩:=Rec.wraps ((s.r.fs.length:Int)-1) ⟨by omega,by omega⟩;rw [b3] at b1 b2;clear hgo hnn h0;go_enter Tryz.func229,Tryz.ntmps229;go_upto_region 4 with fail
     generalize w.setCell ⟨g,1,none⟩ (.int .i64 ((s.hl:Int)+1))=W1 at *;clear c1 z1 a1 a2 t0;have c2:=H1.out.cs.c2;go_wp2_with
      (go_at_call 250;with_reducible refine (HP.out _).mono ?_;rintro r w3 ⟨rfl,hb3⟩
       have HB3:=Lib.hid hb3;clear hb3)
     go_ret
     have h4:=H1.out.below (HB3.out.alloc HB3.out.size (.cells #[.string ⟨#[]⟩,.string ⟨#[]⟩] 126));exact ⟨rfl,_,h4,HS1.out.trans (Step.of_below (HB3.out.alloc HB3.out.size (.cells #[.string ⟨#[]⟩,.string ⟨#[]⟩] 126)))⟩
    ·obtain ⟨hg,k,hk⟩:=hgk;rw [hg] at hgo;have HGo:=Lib.hid hgo;have t1:(0:Int)≤(k:Int):=by omega
     have b3:(s.r.fs.length:Int)-1=(k:Int):=by omega
     obtain ⟨b1,b2⟩:=Rec.wraps ((s.r.fs.length:Int)-1) ⟨by omega,by omega⟩;rw [b3] at b1 b2;clear hgo hg hk hnn;go_enter Tryz.func229,Tryz.ntmps229;go_upto_region 4 with fail
     generalize w.setCell ⟨g,1,none⟩ (.int .i64 ((s.hl:Int)+1))=W1 at *;clear c1 z1 a1 a2 t0;have c2:=H1.out.cs.c2
     go_wp2_with (first
      |(go_at_call 250;with_reducible refine (HP.out _).mono ?_;rintro r w3 ⟨rfl,hb3⟩
        have HB3:=Lib.hid hb3;clear hb3)
      |(go_at_call 248;with_reducible refine (HGo.out _).mono ?_;rintro r w2 ⟨rfl,hw⟩;rw [hw];clear hw))
     go_ret
     have h4:=H1.out.below (HB3.out.alloc HB3.out.size (.cells #[.string ⟨#[]⟩,.string ⟨#[]⟩] 126));exact ⟨rfl,_,h4,HS1.out.trans (Step.of_below (HB3.out.alloc HB3.out.size (.cells #[.string ⟨#[]⟩,.string ⟨#[]⟩] 126)))⟩
   ·have e:fieldV p s.hl s.r.fs x.data.toList most=.inr s.r.fs:=by unfold fieldV;rw [if_neg hm,if_neg hj,hpar]
    rw [e];rw [hpar] at hp;simp only [Fd.rv,Fd.fv] at hp;have HP:=Lib.hid hp;clear e hpar hp hm hj;rcases hgt with h0 | hgk
    ·have b3:(s.r.fs.length:Int)-1= -1:=by omega
     obtain ⟨b1,b2⟩:=Rec.wraps ((s.r.fs.length:Int)-1) ⟨by omega,by omega⟩;rw [b3] at b1 b2;clear hgo hnn h0;go_enter Tryz.func229,Tryz.ntmps229;go_upto_region 4 with fail
     generalize w.setCell ⟨g,1,none⟩ (.int .i64 ((s.hl:Int)+1))=W1 at *;clear c1 z1 a1 a2 t0;have c2:=H1.out.cs.c2;go_wp2_with
      (go_at_call 250;with_reducible refine (HP.out _).mono ?_;rintro r w3 ⟨rfl,hb3⟩
       have HB3:=Lib.hid hb3;clear hb3)
     go_ret
     have h4:=H1.out.below (HB3.out.alloc HB3.out.size (.cells #[.string ⟨#[]⟩,.string ⟨#[]⟩] 126));exact ⟨rfl,_,h4,HS1.out.trans (Step.of_below (HB3.out.alloc HB3.out.size (.cells #[.string ⟨#[]⟩,.string ⟨#[]⟩] 126)))⟩
    ·obtain ⟨hg,k,hk⟩:=hgk;rw [hg] at hgo;have HGo:=Lib.hid hgo;have t1:(0:Int)≤(k:Int):=by omega
     have b3:(s.r.fs.length:Int)-1=(k:Int):=by omega
     obtain ⟨b1,b2⟩:=Rec.wraps ((s.r.fs.length:Int)-1) ⟨by omega,by omega⟩;rw [b3] at b1 b2;clear hgo hg hk hnn;go_enter Tryz.func229,Tryz.ntmps229;go_upto_region 4 with fail
     generalize w.setCell ⟨g,1,none⟩ (.int .i64 ((s.hl:Int)+1))=W1 at *;clear c1 z1 a1 a2 t0;have c2:=H1.out.cs.c2
     go_wp2_with (first
      |(go_at_call 250;with_reducible refine (HP.out _).mono ?_;rintro r w3 ⟨rfl,hb3⟩
        have HB3:=Lib.hid hb3;clear hb3)
      |(go_at_call 248;with_reducible refine (HGo.out _).mono ?_;rintro r w2 ⟨rfl,hw⟩;rw [hw];clear hw))
     go_ret
     have h4:=H1.out.below (HB3.out.alloc HB3.out.size (.cells #[.string ⟨#[]⟩,.string ⟨#[]⟩] 126));exact ⟨rfl,_,h4,HS1.out.trans (Step.of_below (HB3.out.alloc HB3.out.size (.cells #[.string ⟨#[]⟩,.string ⟨#[]⟩] 126)))⟩
   ·have e:fieldV p s.hl s.r.fs x.data.toList most=.inr (s.r.fs ++ [(ba n,ba vv)]):=by unfold fieldV;rw [if_neg hm,if_neg hj,hpar]
    rw [e];rw [hpar] at hp;simp only [Fd.rv,Fd.fv] at hp;have HP:=Lib.hid hp;clear e hpar hp hm hj;rcases hgt with h0 | hgk
    ·have b3:(s.r.fs.length:Int)-1= -1:=by omega
     obtain ⟨b1,b2⟩:=Rec.wraps ((s.r.fs.length:Int)-1) ⟨by omega,by omega⟩;rw [b3] at b1 b2;clear hgo hnn h0;go_enter Tryz.func229,Tryz.ntmps229;go_upto_region 4 with fail
     generalize w.setCell ⟨g,1,none⟩ (.int .i64 ((s.hl:Int)+1))=W1 at *;clear c1 z1 a1 a2 t0;have c2:=H1.out.cs.c2;go_upto_region 10 with
      (go_at_call 250;with_reducible refine (HP.out _).mono ?_;rintro r w3 ⟨rfl,hb3⟩
       have HB3:=Lib.hid hb3;clear hb3)
     have HB4:=Lib.hid (HB3.out.alloc HB3.out.size (.cells #[.string (ba n),.string (ba vv)] 126))
     have HL4:=Lib.hid (Rec.Bk.new w3 w3.heap.size rfl 126 [.string (ba n),.string (ba vv)]);generalize w3.alloc (.cells #[.string (ba n),.string (ba vv)] 126)=W4 at *;generalize w3.heap.size=gL at *
     have H4:=Lib.hid (H1.out.below HB4.out);have HS4:=Lib.hid (HS1.out.trans (Step.of_below HB4.out))
     have HQ:=Lib.hid ((H4.out.drew 1).bk);have HQL:=Lib.hid (HL4.out.drew 1);clear b1 b2 b3 c2 H1 HS1 HB3 HB4 HL4;refine Each.region_float 7 [62,63,64,65,66,67,68]
      [fun v _=>v=.pointer (some ⟨g,1,none⟩),
        fun v _=>v=.pointer (some ⟨g,1,none⟩),
        fun v _=>v=.pointer (some ⟨g,1,none⟩),
        fun v _=>v=.pointer (some ⟨g,2,none⟩),
        fun v _=>v=.slice bo s.r.fs.length co,
        fun v _=>v=.agg #[.string (ba n),.string (ba vv)],
        fun v w=>∃g1,v=.slice (some ⟨g1,0,none⟩) 1 1∧Rec.Bk w g1 [.string (ba n),.string (ba vv)]]
      [] 4 (some 0) (.act 7 (.quiet 8 (.quiet 9 (.act 10 .done)))) (.quiet 0 (.act 7 (.quiet 8 (.quiet 9 (.act 10 .done))))) (by kernel_rfl) (by kernel_rfl) (by kernel_rfl) (by kernel_rfl) (fun k0 h=>by cases h;kernel_rfl) (fun _ _ d _ _ h=>by cases d<;>exact h) (by rfl) (by rfl)
      ⟨Each.Lasts.eq _,Each.Lasts.eq _,Each.Lasts.eq _,Each.Lasts.eq _,Each.Lasts.eq _,Each.Lasts.eq _,((fun _ _ _ hb h=>by obtain ⟨g1,e1,hB⟩:=h;exact ⟨g1,e1,hB.below hb⟩)),trivial⟩ trivial (by rfl) ?_ ?_ ?_
     ·refine ⟨?_,?_,?_,?_,?_,?_,?_,trivial⟩
      ·refine Each.fine rfl (fun ev w1 hR hb hh=>?_);clear hh;have e0:=hR.old 0 rfl;simp only [Array.getD_eq_getD_getElem?,List.getElem?_toArray,List.getElem?_cons_zero,Option.getD_some] at e0;refine Each.Goes.same ?_;go_simp;try with_reducible rfl
      ·refine Each.fine rfl (fun ev w1 hR hb hh=>?_);clear hh;have e0:=hR.old 0 rfl;simp only [Array.getD_eq_getD_getElem?,List.getElem?_toArray,List.getElem?_cons_zero,Option.getD_some] at e0;refine Each.Goes.same ?_;go_simp;try with_reducible rfl
      ·refine Each.fine rfl (fun ev w1 hR hb hh=>?_);have e63:(ev (.tmp 63)=.pointer (some ⟨g,1,none⟩)):=hh.at 0;clear hh;refine Each.Goes.same ?_;go_simp;try with_reducible rfl
      ·refine Each.fine rfl (fun ev w1 hR hb hh=>?_);have e64:(ev (.tmp 64)=.pointer (some ⟨g,1,none⟩)):=hh.at 0;clear hh;refine Each.Goes.same ?_;go_simp;try with_reducible rfl
      ·refine Each.fine rfl (fun ev w1 hR hb hh=>?_);have e65:(ev (.tmp 65)=.pointer (some ⟨g,2,none⟩)):=hh.at 0;clear hh;have q2:=(HQ.out.below hb).c 2 _ rfl;refine Each.Goes.same ?_;go_simp;try with_reducible rfl
      ·refine Each.fine rfl (fun ev w1 hR hb hh=>?_);clear hh;have e10:=hR.old 10 rfl;simp only [Array.getD_eq_getD_getElem?,List.getElem?_toArray,List.getElem?_cons_succ,List.getElem?_cons_zero,Option.getD_some] at e10;have q0:=(HQL.out.below hb).c 0 _ rfl;have q1:=(HQL.out.below hb).c 1 _ rfl;refine Each.Goes.same ?_;go_simp;try with_reducible rfl
      ·refine Each.fine rfl (fun ev w1 hR hb hh=>?_);have e67:(ev (.tmp 67)=.agg #[.string (ba n),.string (ba vv)]):=hh.at 0;clear hh;exact Each.Goes.value (.slice (some ⟨w1.heap.size,0,none⟩) 1 1) (w1.alloc (.cells #[.string (ba n),.string (ba vv)] 126)) (by go_simp) ((Below.refl _ _).alloc (Nat.le_refl _) _) ⟨_,rfl,Rec.Bk.new w1 _ rfl 126 [.string (ba n),.string (ba vv)]⟩
     ·intro g1 w5 hb hf;have z62:(g1 62=.pointer (some ⟨g,1,none⟩)):=hf.at 0;have z66:(g1 66=.slice bo s.r.fs.length co):=hf.at 4;have z68:((fun v w=>∃g1,v=.slice (some ⟨g1,0,none⟩) 1 1∧Rec.Bk w g1 [.string (ba n),.string (ba vv)]) (g1 68) w5):=hf.at 6;clear hf;obtain ⟨gl,el,hBl⟩:=z68;simp only [Each.putg,Act.put,List.setIfInBounds_toArray,List.set_cons_zero,List.set_cons_succ];rw [z62,z66,el];simp only [Tree.grow,Tree.put1,List.getElem?_cons_zero,List.getElem?_cons_succ]
      have H5:=H4.out.below (Base.below_step (Below.refl W4.heap.size W4) hb)
      obtain ⟨v',w6,hrun,hO5,hgr5,hor5⟩:=App.run_append_list w5 46 46 B 126 iF (.agg #[.string ByteArray.empty,.string ByteArray.empty]) 2 32 Tryz.underlying46 I1.out I2.out I3.out I4.out rfl (by decide) (.slice bo s.r.fs.length co) s.r.fs.length (cells s.r.fs) H5.own.F (some ⟨gl,0,none⟩) 1 1 [.string (ba n),.string (ba vv)] rfl (fun _=>⟨gl,0,rfl,fun j u hu=>by rw [Nat.zero_add];exact hBl.c j u hu⟩) (by intro u hu;rcases (by simpa using hu:u=.string (ba n)∨u=.string (ba vv)) with rfl | rfl<;>rfl) (by have:=HLEN.out;unfold maxLen;omega) (by have:=HLEN.out;omega) (Nat.le_trans H5.own.ge (Nat.le_of_lt H5.own.lt));obtain ⟨bz,cz,ez, -⟩:=Ln.own_slice hO5;subst ez;have hl5:(s.r.fs ++ [(ba n,ba vv)]).length=s.r.fs.length+1:=by simp
      have hk5:Keeps [(.slice bo s.r.fs.length co:Value).ownBlock] w5 w6:=Keeps.grown hgr5 fun k e=>by rw [e];exact List.mem_singleton.2 rfl
      obtain ⟨ho5,hs5⟩:=H5.own.setF (f':=.slice bz (s.r.fs.length+1) cz) (fs':=s.r.fs ++ [(ba n,ba vv)]) hk5 (by rw [hl5,cells_append];exact hO5) (by
       rcases hor5 with e | e
       ·exact .inl e
       ·exact .inr ⟨_,e,Nat.le_refl _⟩)
      have hrow:w6.heap[g]?= _:=hk5.row H5.row (fun hm=>by
       have e:some g=(.slice bo s.r.fs.length co:Value).ownBlock:=by simpa using hm
       exact H5.own.lone.ne (i:=0) (j:=3) rfl (by decide) (by rw [e];rfl))
      refine Tree.change (by rfl) (fun K hK=>?_);refine Each.oper_append _ _ _ rfl (by rfl) (by rfl) hrun ?_;refine hK _ _ trivial ?_;clear hK K hrun;simp only [Act.put,List.setIfInBounds_toArray,List.set_cons_zero,List.set_cons_succ];refine Tree.quiet (by rfl) (.pointer (some ⟨g,1,none⟩)) (fun _ _=>by go_simp) ?_;simp only [Act.put,List.setIfInBounds_toArray,List.set_cons_zero,List.set_cons_succ];refine Tree.quiet (by rfl) (.pointer (some ⟨g,2,none⟩)) (fun _ _=>by go_simp) ?_;simp only [Act.put,List.setIfInBounds_toArray,List.set_cons_zero,List.set_cons_succ];have c2:=row_cellL hrow (k:=2) rfl;have z2:=Ln.row_frozen hrow 2
      refine Tree.change (by rfl) (fun K hK=>?_);go_simp;refine hK _ _ trivial ?_;clear hK K;refine Tree.done ?_
      have HR6:=Lib.hid (row_setL hrow 2 (.slice bz (s.r.fs.length+1) cz));have HO6:=Lib.hid (ho5.set 2 (.slice bz (s.r.fs.length+1) cz))
      have HS6:=Lib.hid ((HS4.out.trans ((Step.of_below (Base.below_step (Below.refl W4.heap.size W4) hb)).trans hs5)).trans (Step.set g 2 (.slice bz (s.r.fs.length+1) cz) (by simp)));clear c2 z2 hrow ho5 hs5 hk5 hl5 hO5 hgr5 hor5 H5 hBl;go_wp2;go_ret;exact ⟨rfl,_,⟨HR6.out,HO6.out⟩,HS6.out⟩
     ·intro k0 hk0 g1 w5 hb hf;cases hk0;have z66:(g1 66=.slice bo s.r.fs.length co):=hf.at 4;have z68:((fun v w=>∃g1,v=.slice (some ⟨g1,0,none⟩) 1 1∧Rec.Bk w g1 [.string (ba n),.string (ba vv)]) (g1 68) w5):=hf.at 6;clear hf;obtain ⟨gl,el,hBl⟩:=z68;simp only [Each.putg,Act.put,List.setIfInBounds_toArray,List.set_cons_zero,List.set_cons_succ];rw [z66,el];simp only [Tree.grow,Tree.put1,List.getElem?_cons_zero,List.getElem?_cons_succ];refine Tree.quiet (by rfl) (.pointer (some ⟨g,1,none⟩)) (fun _ _=>by go_simp) ?_;simp only [Act.put,List.setIfInBounds_toArray,List.set_cons_zero,List.set_cons_succ]
      have H5:=H4.out.below (Base.below_step (Below.refl W4.heap.size W4) hb)
      obtain ⟨v',w6,hrun,hO5,hgr5,hor5⟩:=App.run_append_list w5 46 46 B 126 iF (.agg #[.string ByteArray.empty,.string ByteArray.empty]) 2 32 Tryz.underlying46 I1.out I2.out I3.out I4.out rfl (by decide) (.slice bo s.r.fs.length co) s.r.fs.length (cells s.r.fs) H5.own.F (some ⟨gl,0,none⟩) 1 1 [.string (ba n),.string (ba vv)] rfl (fun _=>⟨gl,0,rfl,fun j u hu=>by rw [Nat.zero_add];exact hBl.c j u hu⟩) (by intro u hu;rcases (by simpa using hu:u=.string (ba n)∨u=.string (ba vv)) with rfl | rfl<;>rfl) (by have:=HLEN.out;unfold maxLen;omega) (by have:=HLEN.out;omega) (Nat.le_trans H5.own.ge (Nat.le_of_lt H5.own.lt));obtain ⟨bz,cz,ez, -⟩:=Ln.own_slice hO5;subst ez;have hl5:(s.r.fs ++ [(ba n,ba vv)]).length=s.r.fs.length+1:=by simp
      have hk5:Keeps [(.slice bo s.r.fs.length co:Value).ownBlock] w5 w6:=Keeps.grown hgr5 fun k e=>by rw [e];exact List.mem_singleton.2 rfl
      obtain ⟨ho5,hs5⟩:=H5.own.setF (f':=.slice bz (s.r.fs.length+1) cz) (fs':=s.r.fs ++ [(ba n,ba vv)]) hk5 (by rw [hl5,cells_append];exact hO5) (by
       rcases hor5 with e | e
       ·exact .inl e
       ·exact .inr ⟨_,e,Nat.le_refl _⟩)
      have hrow:w6.heap[g]?= _:=hk5.row H5.row (fun hm=>by
       have e:some g=(.slice bo s.r.fs.length co:Value).ownBlock:=by simpa using hm
       exact H5.own.lone.ne (i:=0) (j:=3) rfl (by decide) (by rw [e];rfl))
      refine Tree.change (by rfl) (fun K hK=>?_);refine Each.oper_append _ _ _ rfl (by rfl) (by rfl) hrun ?_;refine hK _ _ trivial ?_;clear hK K hrun;simp only [Act.put,List.setIfInBounds_toArray,List.set_cons_zero,List.set_cons_succ];refine Tree.quiet (by rfl) (.pointer (some ⟨g,1,none⟩)) (fun _ _=>by go_simp) ?_;simp only [Act.put,List.setIfInBounds_toArray,List.set_cons_zero,List.set_cons_succ];refine Tree.quiet (by rfl) (.pointer (some ⟨g,2,none⟩)) (fun _ _=>by go_simp) ?_;simp only [Act.put,List.setIfInBounds_toArray,List.set_cons_zero,List.set_cons_succ];have c2:=row_cellL hrow (k:=2) rfl;have z2:=Ln.row_frozen hrow 2
      refine Tree.change (by rfl) (fun K hK=>?_);go_simp;refine hK _ _ trivial ?_;clear hK K;refine Tree.done ?_
      have HR6:=Lib.hid (row_setL hrow 2 (.slice bz (s.r.fs.length+1) cz));have HO6:=Lib.hid (ho5.set 2 (.slice bz (s.r.fs.length+1) cz))
      have HS6:=Lib.hid ((HS4.out.trans ((Step.of_below (Base.below_step (Below.refl W4.heap.size W4) hb)).trans hs5)).trans (Step.set g 2 (.slice bz (s.r.fs.length+1) cz) (by simp)));clear c2 z2 hrow ho5 hs5 hk5 hl5 hO5 hgr5 hor5 H5 hBl;go_wp2;go_ret;exact ⟨rfl,_,⟨HR6.out,HO6.out⟩,HS6.out⟩
    ·obtain ⟨hg,k,hk⟩:=hgk;rw [hg] at hgo;have HGo:=Lib.hid hgo;have t1:(0:Int)≤(k:Int):=by omega
     have b3:(s.r.fs.length:Int)-1=(k:Int):=by omega
     obtain ⟨b1,b2⟩:=Rec.wraps ((s.r.fs.length:Int)-1) ⟨by omega,by omega⟩;rw [b3] at b1 b2;clear hgo hg hk hnn;go_enter Tryz.func229,Tryz.ntmps229;go_upto_region 4 with fail
     generalize w.setCell ⟨g,1,none⟩ (.int .i64 ((s.hl:Int)+1))=W1 at *;clear c1 z1 a1 a2 t0;have c2:=H1.out.cs.c2
     go_upto_region 10 with (first
      |(go_at_call 250;with_reducible refine (HP.out _).mono ?_;rintro r w3 ⟨rfl,hb3⟩
        have HB3:=Lib.hid hb3;clear hb3)
      |(go_at_call 248;with_reducible refine (HGo.out _).mono ?_;rintro r w2 ⟨rfl,hw⟩;rw [hw];clear hw))
     have HB4:=Lib.hid (HB3.out.alloc HB3.out.size (.cells #[.string (ba n),.string (ba vv)] 126))
     have HL4:=Lib.hid (Rec.Bk.new w3 w3.heap.size rfl 126 [.string (ba n),.string (ba vv)]);generalize w3.alloc (.cells #[.string (ba n),.string (ba vv)] 126)=W4 at *;generalize w3.heap.size=gL at *
     have H4:=Lib.hid (H1.out.below HB4.out);have HS4:=Lib.hid (HS1.out.trans (Step.of_below HB4.out))
     have HQ:=Lib.hid ((H4.out.drew 1).bk);have HQL:=Lib.hid (HL4.out.drew 1);clear b1 b2 b3 c2 H1 HS1 HB3 HB4 HL4;refine Each.region_float 7 [62,63,64,65,66,67,68]
      [fun v _=>v=.pointer (some ⟨g,1,none⟩),
        fun v _=>v=.pointer (some ⟨g,1,none⟩),
        fun v _=>v=.pointer (some ⟨g,1,none⟩),
        fun v _=>v=.pointer (some ⟨g,2,none⟩),
        fun v _=>v=.slice bo s.r.fs.length co,
        fun v _=>v=.agg #[.string (ba n),.string (ba vv)],
        fun v w=>∃g1,v=.slice (some ⟨g1,0,none⟩) 1 1∧Rec.Bk w g1 [.string (ba n),.string (ba vv)]]
      [] 4 (some 0) (.act 7 (.quiet 8 (.quiet 9 (.act 10 .done)))) (.quiet 0 (.act 7 (.quiet 8 (.quiet 9 (.act 10 .done))))) (by kernel_rfl) (by kernel_rfl) (by kernel_rfl) (by kernel_rfl) (fun k0 h=>by cases h;kernel_rfl) (fun _ _ d _ _ h=>by cases d<;>exact h) (by rfl) (by rfl)
      ⟨Each.Lasts.eq _,Each.Lasts.eq _,Each.Lasts.eq _,Each.Lasts.eq _,Each.Lasts.eq _,Each.Lasts.eq _,((fun _ _ _ hb h=>by obtain ⟨g1,e1,hB⟩:=h;exact ⟨g1,e1,hB.below hb⟩)),trivial⟩ trivial (by rfl) ?_ ?_ ?_
     ·refine ⟨?_,?_,?_,?_,?_,?_,?_,trivial⟩
      ·refine Each.fine rfl (fun ev w1 hR hb hh=>?_);clear hh;have e0:=hR.old 0 rfl;simp only [Array.getD_eq_getD_getElem?,List.getElem?_toArray,List.getElem?_cons_zero,Option.getD_some] at e0;refine Each.Goes.same ?_;go_simp;try with_reducible rfl
      ·refine Each.fine rfl (fun ev w1 hR hb hh=>?_);clear hh;have e0:=hR.old 0 rfl;simp only [Array.getD_eq_getD_getElem?,List.getElem?_toArray,List.getElem?_cons_zero,Option.getD_some] at e0;refine Each.Goes.same ?_;go_simp;try with_reducible rfl
      ·refine Each.fine rfl (fun ev w1 hR hb hh=>?_);have e63:(ev (.tmp 63)=.pointer (some ⟨g,1,none⟩)):=hh.at 0;clear hh;refine Each.Goes.same ?_;go_simp;try with_reducible rfl
      ·refine Each.fine rfl (fun ev w1 hR hb hh=>?_);have e64:(ev (.tmp 64)=.pointer (some ⟨g,1,none⟩)):=hh.at 0;clear hh;refine Each.Goes.same ?_;go_simp;try with_reducible rfl
      ·refine Each.fine rfl (fun ev w1 hR hb hh=>?_);have e65:(ev (.tmp 65)=.pointer (some ⟨g,2,none⟩)):=hh.at 0;clear hh;have q2:=(HQ.out.below hb).c 2 _ rfl;refine Each.Goes.same ?_;go_simp;try with_reducible rfl
      ·refine Each.fine rfl (fun ev w1 hR hb hh=>?_);clear hh;have e10:=hR.old 10 rfl;simp only [Array.getD_eq_getD_getElem?,List.getElem?_toArray,List.getElem?_cons_succ,List.getElem?_cons_zero,Option.getD_some] at e10;have q0:=(HQL.out.below hb).c 0 _ rfl;have q1:=(HQL.out.below hb).c 1 _ rfl;refine Each.Goes.same ?_;go_simp;try with_reducible rfl
      ·refine Each.fine rfl (fun ev w1 hR hb hh=>?_);have e67:(ev (.tmp 67)=.agg #[.string (ba n),.string (ba vv)]):=hh.at 0;clear hh;exact Each.Goes.value (.slice (some ⟨w1.heap.size,0,none⟩) 1 1) (w1.alloc (.cells #[.string (ba n),.string (ba vv)] 126)) (by go_simp) ((Below.refl _ _).alloc (Nat.le_refl _) _) ⟨_,rfl,Rec.Bk.new w1 _ rfl 126 [.string (ba n),.string (ba vv)]⟩
     ·intro g1 w5 hb hf;have z62:(g1 62=.pointer (some ⟨g,1,none⟩)):=hf.at 0;have z66:(g1 66=.slice bo s.r.fs.length co):=hf.at 4;have z68:((fun v w=>∃g1,v=.slice (some ⟨g1,0,none⟩) 1 1∧Rec.Bk w g1 [.string (ba n),.string (ba vv)]) (g1 68) w5):=hf.at 6;clear hf;obtain ⟨gl,el,hBl⟩:=z68;simp only [Each.putg,Act.put,List.setIfInBounds_toArray,List.set_cons_zero,List.set_cons_succ];rw [z62,z66,el];simp only [Tree.grow,Tree.put1,List.getElem?_cons_zero,List.getElem?_cons_succ]
      have H5:=H4.out.below (Base.below_step (Below.refl W4.heap.size W4) hb)
      obtain ⟨v',w6,hrun,hO5,hgr5,hor5⟩:=App.run_append_list w5 46 46 B 126 iF (.agg #[.string ByteArray.empty,.string ByteArray.empty]) 2 32 Tryz.underlying46 I1.out I2.out I3.out I4.out rfl (by decide) (.slice bo s.r.fs.length co) s.r.fs.length (cells s.r.fs) H5.own.F (some ⟨gl,0,none⟩) 1 1 [.string (ba n),.string (ba vv)] rfl (fun _=>⟨gl,0,rfl,fun j u hu=>by rw [Nat.zero_add];exact hBl.c j u hu⟩) (by intro u hu;rcases (by simpa using hu:u=.string (ba n)∨u=.string (ba vv)) with rfl | rfl<;>rfl) (by have:=HLEN.out;unfold maxLen;omega) (by have:=HLEN.out;omega) (Nat.le_trans H5.own.ge (Nat.le_of_lt H5.own.lt));obtain ⟨bz,cz,ez, -⟩:=Ln.own_slice hO5;subst ez;have hl5:(s.r.fs ++ [(ba n,ba vv)]).length=s.r.fs.length+1:=by simp
      have hk5:Keeps [(.slice bo s.r.fs.length co:Value).ownBlock] w5 w6:=Keeps.grown hgr5 fun k e=>by rw [e];exact List.mem_singleton.2 rfl
      obtain ⟨ho5,hs5⟩:=H5.own.setF (f':=.slice bz (s.r.fs.length+1) cz) (fs':=s.r.fs ++ [(ba n,ba vv)]) hk5 (by rw [hl5,cells_append];exact hO5) (by
       rcases hor5 with e | e
       ·exact .inl e
       ·exact .inr ⟨_,e,Nat.le_refl _⟩)
      have hrow:w6.heap[g]?= _:=hk5.row H5.row (fun hm=>by
       have e:some g=(.slice bo s.r.fs.length co:Value).ownBlock:=by simpa using hm
       exact H5.own.lone.ne (i:=0) (j:=3) rfl (by decide) (by rw [e];rfl))
      refine Tree.change (by rfl) (fun K hK=>?_);refine Each.oper_append _ _ _ rfl (by rfl) (by rfl) hrun ?_;refine hK _ _ trivial ?_;clear hK K hrun;simp only [Act.put,List.setIfInBounds_toArray,List.set_cons_zero,List.set_cons_succ];refine Tree.quiet (by rfl) (.pointer (some ⟨g,1,none⟩)) (fun _ _=>by go_simp) ?_;simp only [Act.put,List.setIfInBounds_toArray,List.set_cons_zero,List.set_cons_succ];refine Tree.quiet (by rfl) (.pointer (some ⟨g,2,none⟩)) (fun _ _=>by go_simp) ?_;simp only [Act.put,List.setIfInBounds_toArray,List.set_cons_zero,List.set_cons_succ];have c2:=row_cellL hrow (k:=2) rfl;have z2:=Ln.row_frozen hrow 2
      refine Tree.change (by rfl) (fun K hK=>?_);go_simp;refine hK _ _ trivial ?_;clear hK K;refine Tree.done ?_
      have HR6:=Lib.hid (row_setL hrow 2 (.slice bz (s.r.fs.length+1) cz));have HO6:=Lib.hid (ho5.set 2 (.slice bz (s.r.fs.length+1) cz))
      have HS6:=Lib.hid ((HS4.out.trans ((Step.of_below (Base.below_step (Below.refl W4.heap.size W4) hb)).trans hs5)).trans (Step.set g 2 (.slice bz (s.r.fs.length+1) cz) (by simp)));clear c2 z2 hrow ho5 hs5 hk5 hl5 hO5 hgr5 hor5 H5 hBl;go_wp2;go_ret;exact ⟨rfl,_,⟨HR6.out,HO6.out⟩,HS6.out⟩
     ·intro k0 hk0 g1 w5 hb hf;cases hk0;have z66:(g1 66=.slice bo s.r.fs.length co):=hf.at 4;have z68:((fun v w=>∃g1,v=.slice (some ⟨g1,0,none⟩) 1 1∧Rec.Bk w g1 [.string (ba n),.string (ba vv)]) (g1 68) w5):=hf.at 6;clear hf;obtain ⟨gl,el,hBl⟩:=z68;simp only [Each.putg,Act.put,List.setIfInBounds_toArray,List.set_cons_zero,List.set_cons_succ];rw [z66,el];simp only [Tree.grow,Tree.put1,List.getElem?_cons_zero,List.getElem?_cons_succ];refine Tree.quiet (by rfl) (.pointer (some ⟨g,1,none⟩)) (fun _ _=>by go_simp) ?_;simp only [Act.put,List.setIfInBounds_toArray,List.set_cons_zero,List.set_cons_succ]
      have H5:=H4.out.below (Base.below_step (Below.refl W4.heap.size W4) hb)
      obtain ⟨v',w6,hrun,hO5,hgr5,hor5⟩:=App.run_append_list w5 46 46 B 126 iF (.agg #[.string ByteArray.empty,.string ByteArray.empty]) 2 32 Tryz.underlying46 I1.out I2.out I3.out I4.out rfl (by decide) (.slice bo s.r.fs.length co) s.r.fs.length (cells s.r.fs) H5.own.F (some ⟨gl,0,none⟩) 1 1 [.string (ba n),.string (ba vv)] rfl (fun _=>⟨gl,0,rfl,fun j u hu=>by rw [Nat.zero_add];exact hBl.c j u hu⟩) (by intro u hu;rcases (by simpa using hu:u=.string (ba n)∨u=.string (ba vv)) with rfl | rfl<;>rfl) (by have:=HLEN.out;unfold maxLen;omega) (by have:=HLEN.out;omega) (Nat.le_trans H5.own.ge (Nat.le_of_lt H5.own.lt));obtain ⟨bz,cz,ez, -⟩:=Ln.own_slice hO5;subst ez;have hl5:(s.r.fs ++ [(ba n,ba vv)]).length=s.r.fs.length+1:=by simp
      have hk5:Keeps [(.slice bo s.r.fs.length co:Value).ownBlock] w5 w6:=Keeps.grown hgr5 fun k e=>by rw [e];exact List.mem_singleton.2 rfl
      obtain ⟨ho5,hs5⟩:=H5.own.setF (f':=.slice bz (s.r.fs.length+1) cz) (fs':=s.r.fs ++ [(ba n,ba vv)]) hk5 (by rw [hl5,cells_append];exact hO5) (by
       rcases hor5 with e | e
       ·exact .inl e
       ·exact .inr ⟨_,e,Nat.le_refl _⟩)
      have hrow:w6.heap[g]?= _:=hk5.row H5.row (fun hm=>by
       have e:some g=(.slice bo s.r.fs.length co:Value).ownBlock:=by simpa using hm
       exact H5.own.lone.ne (i:=0) (j:=3) rfl (by decide) (by rw [e];rfl))
      refine Tree.change (by rfl) (fun K hK=>?_);refine Each.oper_append _ _ _ rfl (by rfl) (by rfl) hrun ?_;refine hK _ _ trivial ?_;clear hK K hrun;simp only [Act.put,List.setIfInBounds_toArray,List.set_cons_zero,List.set_cons_succ];refine Tree.quiet (by rfl) (.pointer (some ⟨g,1,none⟩)) (fun _ _=>by go_simp) ?_;simp only [Act.put,List.setIfInBounds_toArray,List.set_cons_zero,List.set_cons_succ];refine Tree.quiet (by rfl) (.pointer (some ⟨g,2,none⟩)) (fun _ _=>by go_simp) ?_;simp only [Act.put,List.setIfInBounds_toArray,List.set_cons_zero,List.set_cons_succ];have c2:=row_cellL hrow (k:=2) rfl;have z2:=Ln.row_frozen hrow 2
      refine Tree.change (by rfl) (fun K hK=>?_);go_simp;refine hK _ _ trivial ?_;clear hK K;refine Tree.done ?_
      have HR6:=Lib.hid (row_setL hrow 2 (.slice bz (s.r.fs.length+1) cz));have HO6:=Lib.hid (ho5.set 2 (.slice bz (s.r.fs.length+1) cz))
      have HS6:=Lib.hid ((HS4.out.trans ((Step.of_below (Base.below_step (Below.refl W4.heap.size W4) hb)).trans hs5)).trans (Step.set g 2 (.slice bz (s.r.fs.length+1) cz) (by simp)));clear c2 z2 hrow ho5 hs5 hk5 hl5 hO5 hgr5 hor5 H5 hBl;go_wp2;go_ret;exact ⟨rfl,_,⟨HR6.out,HO6.out⟩,HS6.out⟩
theorem addTR_any (hp:p<4294967296) (x:ByteArray) (hx:x.size≤5000) (most:Int) (h:PR w B g q v f bd t o p b s) (hl:s.bl≤1000) (hsz:∀y∈s.r.ts,y.1.size≤1000000∧y.2.size≤1000000) (hlen:s.r.ts.length≤500) :
 Calls Tryz.prog 229 #[.pointer (some ⟨g,8,none⟩),.string x,.int .u32 (p:Int),.int .i64 most] w fun r w'=>r=.returned (.int .i64 (listE (fieldV p s.bl s.r.ts x.data.toList most):Int))∧∃t1,PR w' B g q v f bd t1 o p b {s with bl:=s.bl+1,r:={s.r with ts:=listL s.r.ts (fieldV p s.bl s.r.ts x.data.toList most)}}∧Step (blks g q v f bd t o) (blks g q v f bd t1 o) w w':=by
 obtain ⟨a1,a2⟩:=Rec.wraps ((s.bl:Int)+1) ⟨by omega,by omega⟩
 have H1:=Lib.hid (h.put 8 (.int .i64 ((s.bl:Int)+1)) {s with bl:=s.bl+1} rfl rfl rfl rfl rfl rfl)
 have HS1:=Lib.hid (Step.set (w:=w) (L:=blks g q v f bd t o) g 8 (.int .i64 ((s.bl:Int)+1)) (by simp));have c8:=h.cs.c8;have z8:=h.marks 8;have HSZ:=Lib.hid hsz;have HLEN:=Lib.hid hlen;clear hsz hlen
 by_cases hm:most<((s.bl+1:Nat):Int)
 ·have e:fieldV p s.bl s.r.ts x.data.toList most=.inl 431:=by unfold fieldV;rw [if_pos hm]
  rw [e];have t0:most<(s.bl:Int)+1:=by omega
  clear e hm h hl hx;go_enter Tryz.func229,Tryz.ntmps229;go_wp2;go_ret;exact ⟨rfl,_,H1.out,HS1.out⟩
 ·have t0:¬most<(s.bl:Int)+1:=by omega
  obtain ⟨bo,co,eo, -⟩:=Ln.own_slice h.own.TR;have hgo:=fun w=>Fd.goes_any x p hp w;have HSZx:=Lib.hid hx;have hnn:(s.r.ts.length:Int)≤500:=by have:=HLEN.out;omega
  subst eo;obtain ⟨S1,hS1⟩:∃S1:T,{s with bl:=s.bl+1}=S1:=⟨_,rfl⟩;have HS:=Lib.hid hS1;clear h hl hx;by_cases hj:(Fd.goes p x.data.toList && !s.r.ts.isEmpty)=true
  ·simp only [Bool.and_eq_true,Bool.not_eq_true',List.isEmpty_eq_false_iff] at hj;obtain ⟨hg,hne⟩:=hj;rw [hg] at hgo;have HGo:=Lib.hid hgo;obtain ⟨ini,last,el⟩:∃ini last,s.r.ts=ini ++ [last]:=⟨_,_,(List.dropLast_concat_getLast hne).symm⟩;have hn1:s.r.ts.length=ini.length+1:=by rw [el];simp
   have e:fieldV p s.bl s.r.ts x.data.toList most=.inr (ini ++ [joinF last x.data.toList]):=by
    unfold fieldV;have e1:(Fd.goes p x.data.toList && !s.r.ts.isEmpty)=true:=by rw [hg,el];simp
    rw [if_neg hm,if_pos e1,el];simp
   rw [e]
   obtain ⟨gf,cf,hform,hgl,hgf⟩:=H1.out.own.TR.form (by show 0<s.r.ts.length;omega);simp only [Value.slice.injEq,true_and] at hform;obtain ⟨rfl,rfl⟩:=hform
   have hq0:=(H1.out.own.TR.cellAt (ini.length*2) (by show ini.length*2<s.r.ts.length*2;omega)).trans (show (cells s.r.ts)[ini.length*2]?=some (.string last.1) by rw [el];exact (cells_last ini last).1)
   have hq1:=(H1.out.own.TR.cellAt (ini.length*2+1) (by show ini.length*2+1<s.r.ts.length*2;omega)).trans (show (cells s.r.ts)[ini.length*2+1]?=some (.string last.2) by rw [el];exact (cells_last ini last).2)
   have hz0:=H1.out.own.TR.frozenAt (ini.length*2);have hz1:=H1.out.own.TR.frozenAt (ini.length*2+1)
   have HJ:=Lib.hid (show∀w,Calls Tryz.prog 249 #[.agg #[.string last.1,.string last.2],.string x] w fun e w'=>e=.returned (.agg #[.string last.1,.string (ba (Fd.joined last.2.data.toList x.data.toList))])∧Below w.heap.size w w' from
    fun w=>Fd.join_any last.1 last.2 x w (by have:=HSZx.out;omega) (by have:=(HSZ.out last (by rw [el];simp)).2;omega))
   obtain ⟨k,hk⟩:∃k,ini.length=k:=⟨_,rfl⟩;have HK:=Lib.hid hk;rw [hk] at hn1 hq0 hq1 hz0 hz1;have t1:(0:Int)≤(k:Int):=by omega
   have i1:(k:Int)<(s.r.ts.length:Int):=by omega
   have i2:k<s.r.ts.length:=by omega
   obtain ⟨b1,b2⟩:=Rec.wraps ((s.r.ts.length:Int)-1) ⟨by omega,by omega⟩;have b3:(s.r.ts.length:Int)-1=(k:Int):=by omega
   rw [b3] at b1 b2;have HEL:=Lib.hid el;have HN1:=Lib.hid hn1;have HGL:=Lib.hid hgl;have HQ0:=Lib.hid hq0;have HQ1:=Lib.hid hq1;have HGF:=Lib.hid hgf;have HZ0:=Lib.hid hz0;have HZ1:=Lib.hid hz1;have HB3:=Lib.hid b3;have HI2:=Lib.hid i2;clear hne e hk hnn el hn1 hg hgo hm hgl hq0 hq1 hgf hz0 hz1;go_enter Tryz.func229,Tryz.ntmps229;go_upto_region 4 with fail
   generalize w.setCell ⟨g,8,none⟩ (.int .i64 ((s.bl:Int)+1))=W1 at *;clear c8 z8 a1 a2 t0;have c9:=H1.out.cs.c9
   go_upto_region 6 with (go_at_call 248;with_reducible refine (HGo.out _).mono ?_;rintro r w2 ⟨rfl,hw⟩;rw [hw];clear hw)
   have HQ:=Lib.hid ((H1.out.drew 1).bk)
   have HD:=Lib.hid (Base.below_drewN (Below.refl W1.heap.size W1) 1);clear b1 b2 b3 c9;refine Each.region 15 [39,40,41,42,43,44,45,46,47,48,49,50,51,52,53]
    [fun v _=>v=.pointer (some ⟨g,8,none⟩),
      fun v _=>v=.pointer (some ⟨g,8,none⟩),
      fun v _=>v=.pointer (some ⟨g,9,none⟩),
      fun v _=>v=.slice (some ⟨gf,0,none⟩) s.r.ts.length co,
      fun v _=>v=.int .i64 (k:Int),
      fun v _=>v=.pointer (some ⟨g,8,none⟩),
      fun v _=>v=.pointer (some ⟨g,8,none⟩),
      fun v _=>v=.pointer (some ⟨g,9,none⟩),
      fun v _=>v=.slice (some ⟨gf,0,none⟩) s.r.ts.length co,
      fun v _=>v=.int .i64 (k:Int),
      fun v _=>v=.pointer (some ⟨gf,k*2,none⟩),
      fun v _=>v=.agg #[.string last.1,.string last.2],
      fun v _=>v=.string x,
      fun v _=>v=.agg #[.string last.1,.string (ba (Fd.joined last.2.data.toList x.data.toList))],
      fun v _=>v=.pointer (some ⟨gf,k*2,none⟩)]
    (.act 15 .done) (by kernel_rfl) (by kernel_rfl) (by kernel_rfl) (by kernel_rfl) (fun _ _ d _ _ h=>by cases d<;>exact h) (by rfl) (by rfl)
    ⟨Each.Lasts.eq _,Each.Lasts.eq _,Each.Lasts.eq _,Each.Lasts.eq _,Each.Lasts.eq _,Each.Lasts.eq _,Each.Lasts.eq _,Each.Lasts.eq _,Each.Lasts.eq _,Each.Lasts.eq _,Each.Lasts.eq _,Each.Lasts.eq _,Each.Lasts.eq _,Each.Lasts.eq _,Each.Lasts.eq _,trivial⟩ ?_ ?_
   ·refine ⟨?_,?_,?_,?_,?_,?_,?_,?_,?_,?_,?_,?_,?_,?_,?_,trivial⟩
    ·refine Each.fine rfl (fun ev w1 hR hb hh=>?_);clear hh;have e0:=hR.old 0 rfl;simp only [Array.getD_eq_getD_getElem?,List.getElem?_toArray,List.getElem?_cons_zero,Option.getD_some] at e0;refine Each.Goes.same ?_;go_simp;try with_reducible rfl
    ·refine Each.fine rfl (fun ev w1 hR hb hh=>?_);have e39:(ev (.tmp 39)=.pointer (some ⟨g,8,none⟩)):=hh.at 0;clear hh;refine Each.Goes.same ?_;go_simp;try with_reducible rfl
    ·refine Each.fine rfl (fun ev w1 hR hb hh=>?_);have e40:(ev (.tmp 40)=.pointer (some ⟨g,8,none⟩)):=hh.at 0;clear hh;refine Each.Goes.same ?_;go_simp;try with_reducible rfl
    ·refine Each.fine rfl (fun ev w1 hR hb hh=>?_);have e41:(ev (.tmp 41)=.pointer (some ⟨g,9,none⟩)):=hh.at 0;clear hh;have q9:=(HQ.out.below hb).c 9 _ rfl;refine Each.Goes.same ?_;go_simp;try with_reducible rfl
    ·refine Each.fine rfl (fun ev w1 hR hb hh=>?_);clear hh;have e9:=hR.old 9 rfl;simp only [Array.getD_eq_getD_getElem?,List.getElem?_toArray,List.getElem?_cons_succ,List.getElem?_cons_zero,Option.getD_some] at e9;refine Each.Goes.same ?_;go_simp;try with_reducible rfl
    ·refine Each.fine rfl (fun ev w1 hR hb hh=>?_);clear hh;have e0:=hR.old 0 rfl;simp only [Array.getD_eq_getD_getElem?,List.getElem?_toArray,List.getElem?_cons_zero,Option.getD_some] at e0;refine Each.Goes.same ?_;go_simp;try with_reducible rfl
    ·refine Each.fine rfl (fun ev w1 hR hb hh=>?_);have e44:(ev (.tmp 44)=.pointer (some ⟨g,8,none⟩)):=hh.at 0;clear hh;refine Each.Goes.same ?_;go_simp;try with_reducible rfl
    ·refine Each.fine rfl (fun ev w1 hR hb hh=>?_);have e45:(ev (.tmp 45)=.pointer (some ⟨g,8,none⟩)):=hh.at 0;clear hh;refine Each.Goes.same ?_;go_simp;try with_reducible rfl
    ·refine Each.fine rfl (fun ev w1 hR hb hh=>?_);have e46:(ev (.tmp 46)=.pointer (some ⟨g,9,none⟩)):=hh.at 0;clear hh;have q9:=(HQ.out.below hb).c 9 _ rfl;refine Each.Goes.same ?_;go_simp;try with_reducible rfl
    ·refine Each.fine rfl (fun ev w1 hR hb hh=>?_);clear hh;have e9:=hR.old 9 rfl;simp only [Array.getD_eq_getD_getElem?,List.getElem?_toArray,List.getElem?_cons_succ,List.getElem?_cons_zero,Option.getD_some] at e9;refine Each.Goes.same ?_;go_simp;try with_reducible rfl
    ·refine Each.fine rfl (fun ev w1 hR hb hh=>?_);have e47:(ev (.tmp 47)=.slice (some ⟨gf,0,none⟩) s.r.ts.length co):=hh.at 0;have e48:(ev (.tmp 48)=.int .i64 (k:Int)):=hh.at 1;clear hh;have d1:=HI2.out;have d2:(k:Int)<(s.r.ts.length:Int):=by omega
     refine Each.Goes.same ?_;go_simp;try with_reducible rfl
    ·refine Each.fine rfl (fun ev w1 hR hb hh=>?_);have e49:(ev (.tmp 49)=.pointer (some ⟨gf,k*2,none⟩)):=hh.at 0;clear hh;have y0:=((Base.below_step HD.out hb).cell (p:=⟨gf,k*2,none⟩) HGF.out).trans HQ0.out;have y1:=((Base.below_step HD.out hb).cell (p:=⟨gf,k*2+1,none⟩) HGF.out).trans HQ1.out;refine Each.Goes.same ?_;go_simp;try with_reducible rfl
    ·refine Each.fine rfl (fun ev w1 hR hb hh=>?_);clear hh;have e1:=hR.old 1 rfl;simp only [Array.getD_eq_getD_getElem?,List.getElem?_toArray,List.getElem?_cons_succ,List.getElem?_cons_zero,Option.getD_some] at e1;refine Each.Goes.same ?_;go_simp;try with_reducible rfl
    ·refine Each.fine rfl (fun ev w1 hR hb hh=>?_);have e50:(ev (.tmp 50)=.agg #[.string last.1,.string last.2]):=hh.at 0;have e51:(ev (.tmp 51)=.string x):=hh.at 1;clear hh;have ef:=hR.func
     refine Each.Goes.enter 249 #[.agg #[.string last.1,.string last.2],.string x] (by go_simp) ((HJ.out w1).mono ?_);rintro r w2 ⟨rfl,hb2⟩;exact ⟨_,rfl,hb2,rfl⟩
    ·refine Each.fine rfl (fun ev w1 hR hb hh=>?_);have e42:(ev (.tmp 42)=.slice (some ⟨gf,0,none⟩) s.r.ts.length co):=hh.at 0;have e43:(ev (.tmp 43)=.int .i64 (k:Int)):=hh.at 1;clear hh;have d1:=HI2.out;have d2:(k:Int)<(s.r.ts.length:Int):=by omega
     refine Each.Goes.same ?_;go_simp;try with_reducible rfl
   intro g1 w3 hb hf;have z52:(g1 52=.agg #[.string last.1,.string (ba (Fd.joined last.2.data.toList x.data.toList))]):=hf.at 13;have z53:(g1 53=.pointer (some ⟨gf,k*2,none⟩)):=hf.at 14;clear hf;simp only [Each.putg,Act.put,List.setIfInBounds_toArray,List.set_cons_zero,List.set_cons_succ];rw [z52,z53];simp only [Tree.grow,Tree.put1,List.getElem?_cons_zero,List.getElem?_cons_succ];have HB4:=Lib.hid hb;have y0:=(HB4.out.cell (p:=⟨gf,k*2,none⟩) HGF.out).trans HQ0.out;have y1:=(HB4.out.cell (p:=⟨gf,k*2+1,none⟩) HGF.out).trans HQ1.out;have x0:=(HB4.out.frozen (p:=⟨gf,k*2,none⟩) HGF.out).trans HZ0.out;have x1:=(HB4.out.frozen (p:=⟨gf,k*2+1,none⟩) HGF.out).trans HZ1.out
   refine Tree.change (by rfl) (fun K hK=>?_);go_simp;refine hK _ _ trivial ?_;clear hK K y0 y1 x0 x1;refine Tree.done ?_;go_wp2;go_ret;have h3:=H1.out.below HB4.out;have ho:(Value.slice (some ⟨gf,0,none⟩) s.r.ts.length co).ownBlock=some gf:=by simp [Value.ownBlock]
   have hk3:Keeps [(Value.slice (some ⟨gf,0,none⟩) s.r.ts.length co).ownBlock] w3 ((w3.setCell ⟨gf,k*2,none⟩ (.string last.1)).setCell ⟨gf,k*2+1,none⟩ (.string (ba (Fd.joined last.2.data.toList x.data.toList)))):=
    (Keeps.set gf (k*2) _ (by rw [ho];simp)).trans (Keeps.set gf (k*2+1) _ (by rw [ho];simp)) Of.refl
   have hl3:(ini ++ [joinF last x.data.toList]).length=s.r.ts.length:=by rw [HEL.out];simp
   have hr3:=((h3.own.TR.stored (k*2) (.string last.1)).1.stored (k*2+1) (.string (ba (Fd.joined last.2.data.toList x.data.toList)))).1
   obtain ⟨ho3,hs3⟩:=h3.own.setT (t':=.slice (some ⟨gf,0,none⟩) s.r.ts.length co) (ts':=ini ++ [joinF last x.data.toList]) hk3 (by
    rw [hl3,←cells_put ini last (joinF last x.data.toList),HK.out];have e:cells (ini ++ [last])=cells s.r.ts:=by rw [HEL.out]
    rw [e];exact hr3) (.inl rfl)
   have hrow:((w3.setCell ⟨gf,k*2,none⟩ (.string last.1)).setCell ⟨gf,k*2+1,none⟩ (.string (ba (Fd.joined last.2.data.toList x.data.toList)))).heap[g]?= _:=hk3.row h3.row (fun hm=>by
    have e:some g=some gf:=by rw [←ho];simpa using hm
    exact h3.own.lone.ne (i:=0) (j:=5) rfl (by decide) (by rw [e,←ho];rfl))
   exact ⟨rfl,_,⟨hrow,ho3⟩,HS1.out.trans ((Step.of_below HB4.out).trans hs3)⟩
  ·have hgt:s.r.ts.length=0∨Fd.goes p x.data.toList=false∧∃k,s.r.ts.length=k+1:=by
    rcases Nat.eq_zero_or_pos s.r.ts.length with h0 | h0
    ·exact .inl h0
    ·refine .inr ⟨?_,s.r.ts.length-1,by omega⟩;cases hg:Fd.goes p x.data.toList with
     | false=>rfl
     | true=>
       rw [hg] at hj;have:s.r.ts= []:=by simpa using hj
       rw [this] at h0;cases h0
   have hp:=fun w=>Fd.parse_any x p hp w (by have:=HSZx.out;omega);obtain ⟨iF,hi,hz0,hz1,hz2⟩:=info_parts field_info;have I1:=Lib.hid hi;have I2:=Lib.hid hz0;have I3:=Lib.hid hz1;have I4:=Lib.hid hz2;clear hi hz0 hz1 hz2;rcases hpar:Fd.parse (Fd.clOf p) x.data.toList with _ | _ | ⟨n,vv⟩
   ·have e:fieldV p s.bl s.r.ts x.data.toList most=.inl 400:=by unfold fieldV;rw [if_neg hm,if_neg hj,hpar]
    rw [e];rw [hpar] at hp;simp only [Fd.rv,Fd.fv] at hp;have HP:=Lib.hid hp;clear e hpar hp hm hj;rcases hgt with h0 | hgk
    ·have b3:(s.r.ts.length:Int)-1= -1:=by omega
     obtain ⟨b1,b2⟩:=Rec.wraps ((s.r.ts.length:Int)-1) ⟨by omega,by omega⟩;rw [b3] at b1 b2;clear hgo hnn h0;go_enter Tryz.func229,Tryz.ntmps229;go_upto_region 4 with fail
     generalize w.setCell ⟨g,8,none⟩ (.int .i64 ((s.bl:Int)+1))=W1 at *;clear c8 z8 a1 a2 t0;have c9:=H1.out.cs.c9;go_wp2_with
      (go_at_call 250;with_reducible refine (HP.out _).mono ?_;rintro r w3 ⟨rfl,hb3⟩
       have HB3:=Lib.hid hb3;clear hb3)
     go_ret
     have h4:=H1.out.below (HB3.out.alloc HB3.out.size (.cells #[.string ⟨#[]⟩,.string ⟨#[]⟩] 126));exact ⟨rfl,_,h4,HS1.out.trans (Step.of_below (HB3.out.alloc HB3.out.size (.cells #[.string ⟨#[]⟩,.string ⟨#[]⟩] 126)))⟩
    ·obtain ⟨hg,k,hk⟩:=hgk;rw [hg] at hgo;have HGo:=Lib.hid hgo;have t1:(0:Int)≤(k:Int):=by omega
     have b3:(s.r.ts.length:Int)-1=(k:Int):=by omega
     obtain ⟨b1,b2⟩:=Rec.wraps ((s.r.ts.length:Int)-1) ⟨by omega,by omega⟩;rw [b3] at b1 b2;clear hgo hg hk hnn;go_enter Tryz.func229,Tryz.ntmps229;go_upto_region 4 with fail
     generalize w.setCell ⟨g,8,none⟩ (.int .i64 ((s.bl:Int)+1))=W1 at *;clear c8 z8 a1 a2 t0;have c9:=H1.out.cs.c9
     go_wp2_with (first
      |(go_at_call 250;with_reducible refine (HP.out _).mono ?_;rintro r w3 ⟨rfl,hb3⟩
        have HB3:=Lib.hid hb3;clear hb3)
      |(go_at_call 248;with_reducible refine (HGo.out _).mono ?_;rintro r w2 ⟨rfl,hw⟩;rw [hw];clear hw))
     go_ret
     have h4:=H1.out.below (HB3.out.alloc HB3.out.size (.cells #[.string ⟨#[]⟩,.string ⟨#[]⟩] 126));exact ⟨rfl,_,h4,HS1.out.trans (Step.of_below (HB3.out.alloc HB3.out.size (.cells #[.string ⟨#[]⟩,.string ⟨#[]⟩] 126)))⟩
   ·have e:fieldV p s.bl s.r.ts x.data.toList most=.inr s.r.ts:=by unfold fieldV;rw [if_neg hm,if_neg hj,hpar]
    rw [e];rw [hpar] at hp;simp only [Fd.rv,Fd.fv] at hp;have HP:=Lib.hid hp;clear e hpar hp hm hj;rcases hgt with h0 | hgk
    ·have b3:(s.r.ts.length:Int)-1= -1:=by omega
     obtain ⟨b1,b2⟩:=Rec.wraps ((s.r.ts.length:Int)-1) ⟨by omega,by omega⟩;rw [b3] at b1 b2;clear hgo hnn h0;go_enter Tryz.func229,Tryz.ntmps229;go_upto_region 4 with fail
     generalize w.setCell ⟨g,8,none⟩ (.int .i64 ((s.bl:Int)+1))=W1 at *;clear c8 z8 a1 a2 t0;have c9:=H1.out.cs.c9;go_wp2_with
      (go_at_call 250;with_reducible refine (HP.out _).mono ?_;rintro r w3 ⟨rfl,hb3⟩
       have HB3:=Lib.hid hb3;clear hb3)
     go_ret
     have h4:=H1.out.below (HB3.out.alloc HB3.out.size (.cells #[.string ⟨#[]⟩,.string ⟨#[]⟩] 126));exact ⟨rfl,_,h4,HS1.out.trans (Step.of_below (HB3.out.alloc HB3.out.size (.cells #[.string ⟨#[]⟩,.string ⟨#[]⟩] 126)))⟩
    ·obtain ⟨hg,k,hk⟩:=hgk;rw [hg] at hgo;have HGo:=Lib.hid hgo;have t1:(0:Int)≤(k:Int):=by omega
     have b3:(s.r.ts.length:Int)-1=(k:Int):=by omega
     obtain ⟨b1,b2⟩:=Rec.wraps ((s.r.ts.length:Int)-1) ⟨by omega,by omega⟩;rw [b3] at b1 b2;clear hgo hg hk hnn;go_enter Tryz.func229,Tryz.ntmps229;go_upto_region 4 with fail
     generalize w.setCell ⟨g,8,none⟩ (.int .i64 ((s.bl:Int)+1))=W1 at *;clear c8 z8 a1 a2 t0;have c9:=H1.out.cs.c9
     go_wp2_with (first
      |(go_at_call 250;with_reducible refine (HP.out _).mono ?_;rintro r w3 ⟨rfl,hb3⟩
        have HB3:=Lib.hid hb3;clear hb3)
      |(go_at_call 248;with_reducible refine (HGo.out _).mono ?_;rintro r w2 ⟨rfl,hw⟩;rw [hw];clear hw))
     go_ret
     have h4:=H1.out.below (HB3.out.alloc HB3.out.size (.cells #[.string ⟨#[]⟩,.string ⟨#[]⟩] 126));exact ⟨rfl,_,h4,HS1.out.trans (Step.of_below (HB3.out.alloc HB3.out.size (.cells #[.string ⟨#[]⟩,.string ⟨#[]⟩] 126)))⟩
   ·have e:fieldV p s.bl s.r.ts x.data.toList most=.inr (s.r.ts ++ [(ba n,ba vv)]):=by unfold fieldV;rw [if_neg hm,if_neg hj,hpar]
    rw [e];rw [hpar] at hp;simp only [Fd.rv,Fd.fv] at hp;have HP:=Lib.hid hp;clear e hpar hp hm hj;rcases hgt with h0 | hgk
    ·have b3:(s.r.ts.length:Int)-1= -1:=by omega
     obtain ⟨b1,b2⟩:=Rec.wraps ((s.r.ts.length:Int)-1) ⟨by omega,by omega⟩;rw [b3] at b1 b2;clear hgo hnn h0;go_enter Tryz.func229,Tryz.ntmps229;go_upto_region 4 with fail
     generalize w.setCell ⟨g,8,none⟩ (.int .i64 ((s.bl:Int)+1))=W1 at *;clear c8 z8 a1 a2 t0;have c9:=H1.out.cs.c9;go_upto_region 10 with
      (go_at_call 250;with_reducible refine (HP.out _).mono ?_;rintro r w3 ⟨rfl,hb3⟩
       have HB3:=Lib.hid hb3;clear hb3)
     have HB4:=Lib.hid (HB3.out.alloc HB3.out.size (.cells #[.string (ba n),.string (ba vv)] 126))
     have HL4:=Lib.hid (Rec.Bk.new w3 w3.heap.size rfl 126 [.string (ba n),.string (ba vv)]);generalize w3.alloc (.cells #[.string (ba n),.string (ba vv)] 126)=W4 at *;generalize w3.heap.size=gL at *
     have H4:=Lib.hid (H1.out.below HB4.out);have HS4:=Lib.hid (HS1.out.trans (Step.of_below HB4.out))
     have HQ:=Lib.hid ((H4.out.drew 1).bk);have HQL:=Lib.hid (HL4.out.drew 1);clear b1 b2 b3 c9 H1 HS1 HB3 HB4 HL4;refine Each.region_float 7 [62,63,64,65,66,67,68]
      [fun v _=>v=.pointer (some ⟨g,8,none⟩),
        fun v _=>v=.pointer (some ⟨g,8,none⟩),
        fun v _=>v=.pointer (some ⟨g,8,none⟩),
        fun v _=>v=.pointer (some ⟨g,9,none⟩),
        fun v _=>v=.slice bo s.r.ts.length co,
        fun v _=>v=.agg #[.string (ba n),.string (ba vv)],
        fun v w=>∃g1,v=.slice (some ⟨g1,0,none⟩) 1 1∧Rec.Bk w g1 [.string (ba n),.string (ba vv)]]
      [] 4 (some 0) (.act 7 (.quiet 8 (.quiet 9 (.act 10 .done)))) (.quiet 0 (.act 7 (.quiet 8 (.quiet 9 (.act 10 .done))))) (by kernel_rfl) (by kernel_rfl) (by kernel_rfl) (by kernel_rfl) (fun k0 h=>by cases h;kernel_rfl) (fun _ _ d _ _ h=>by cases d<;>exact h) (by rfl) (by rfl)
      ⟨Each.Lasts.eq _,Each.Lasts.eq _,Each.Lasts.eq _,Each.Lasts.eq _,Each.Lasts.eq _,Each.Lasts.eq _,((fun _ _ _ hb h=>by obtain ⟨g1,e1,hB⟩:=h;exact ⟨g1,e1,hB.below hb⟩)),trivial⟩ trivial (by rfl) ?_ ?_ ?_
     ·refine ⟨?_,?_,?_,?_,?_,?_,?_,trivial⟩
      ·refine Each.fine rfl (fun ev w1 hR hb hh=>?_);clear hh;have e0:=hR.old 0 rfl;simp only [Array.getD_eq_getD_getElem?,List.getElem?_toArray,List.getElem?_cons_zero,Option.getD_some] at e0;refine Each.Goes.same ?_;go_simp;try with_reducible rfl
      ·refine Each.fine rfl (fun ev w1 hR hb hh=>?_);clear hh;have e0:=hR.old 0 rfl;simp only [Array.getD_eq_getD_getElem?,List.getElem?_toArray,List.getElem?_cons_zero,Option.getD_some] at e0;refine Each.Goes.same ?_;go_simp;try with_reducible rfl
      ·refine Each.fine rfl (fun ev w1 hR hb hh=>?_);have e63:(ev (.tmp 63)=.pointer (some ⟨g,8,none⟩)):=hh.at 0;clear hh;refine Each.Goes.same ?_;go_simp;try with_reducible rfl
      ·refine Each.fine rfl (fun ev w1 hR hb hh=>?_);have e64:(ev (.tmp 64)=.pointer (some ⟨g,8,none⟩)):=hh.at 0;clear hh;refine Each.Goes.same ?_;go_simp;try with_reducible rfl
      ·refine Each.fine rfl (fun ev w1 hR hb hh=>?_);have e65:(ev (.tmp 65)=.pointer (some ⟨g,9,none⟩)):=hh.at 0;clear hh;have q9:=(HQ.out.below hb).c 9 _ rfl;refine Each.Goes.same ?_;go_simp;try with_reducible rfl
      ·refine Each.fine rfl (fun ev w1 hR hb hh=>?_);clear hh;have e10:=hR.old 10 rfl;simp only [Array.getD_eq_getD_getElem?,List.getElem?_toArray,List.getElem?_cons_succ,List.getElem?_cons_zero,Option.getD_some] at e10;have q0:=(HQL.out.below hb).c 0 _ rfl;have q1:=(HQL.out.below hb).c 1 _ rfl;refine Each.Goes.same ?_;go_simp;try with_reducible rfl
      ·refine Each.fine rfl (fun ev w1 hR hb hh=>?_);have e67:(ev (.tmp 67)=.agg #[.string (ba n),.string (ba vv)]):=hh.at 0;clear hh;exact Each.Goes.value (.slice (some ⟨w1.heap.size,0,none⟩) 1 1) (w1.alloc (.cells #[.string (ba n),.string (ba vv)] 126)) (by go_simp) ((Below.refl _ _).alloc (Nat.le_refl _) _) ⟨_,rfl,Rec.Bk.new w1 _ rfl 126 [.string (ba n),.string (ba vv)]⟩
     ·intro g1 w5 hb hf;have z62:(g1 62=.pointer (some ⟨g,8,none⟩)):=hf.at 0;have z66:(g1 66=.slice bo s.r.ts.length co):=hf.at 4;have z68:((fun v w=>∃g1,v=.slice (some ⟨g1,0,none⟩) 1 1∧Rec.Bk w g1 [.string (ba n),.string (ba vv)]) (g1 68) w5):=hf.at 6;clear hf;obtain ⟨gl,el,hBl⟩:=z68;simp only [Each.putg,Act.put,List.setIfInBounds_toArray,List.set_cons_zero,List.set_cons_succ];rw [z62,z66,el];simp only [Tree.grow,Tree.put1,List.getElem?_cons_zero,List.getElem?_cons_succ]
      have H5:=H4.out.below (Base.below_step (Below.refl W4.heap.size W4) hb)
      obtain ⟨v',w6,hrun,hO5,hgr5,hor5⟩:=App.run_append_list w5 46 46 B 126 iF (.agg #[.string ByteArray.empty,.string ByteArray.empty]) 2 32 Tryz.underlying46 I1.out I2.out I3.out I4.out rfl (by decide) (.slice bo s.r.ts.length co) s.r.ts.length (cells s.r.ts) H5.own.TR (some ⟨gl,0,none⟩) 1 1 [.string (ba n),.string (ba vv)] rfl (fun _=>⟨gl,0,rfl,fun j u hu=>by rw [Nat.zero_add];exact hBl.c j u hu⟩) (by intro u hu;rcases (by simpa using hu:u=.string (ba n)∨u=.string (ba vv)) with rfl | rfl<;>rfl) (by have:=HLEN.out;unfold maxLen;omega) (by have:=HLEN.out;omega) (Nat.le_trans H5.own.ge (Nat.le_of_lt H5.own.lt));obtain ⟨bz,cz,ez, -⟩:=Ln.own_slice hO5;subst ez;have hl5:(s.r.ts ++ [(ba n,ba vv)]).length=s.r.ts.length+1:=by simp
      have hk5:Keeps [(.slice bo s.r.ts.length co:Value).ownBlock] w5 w6:=Keeps.grown hgr5 fun k e=>by rw [e];exact List.mem_singleton.2 rfl
      obtain ⟨ho5,hs5⟩:=H5.own.setT (t':=.slice bz (s.r.ts.length+1) cz) (ts':=s.r.ts ++ [(ba n,ba vv)]) hk5 (by rw [hl5,cells_append];exact hO5) (by
       rcases hor5 with e | e
       ·exact .inl e
       ·exact .inr ⟨_,e,Nat.le_refl _⟩)
      have hrow:w6.heap[g]?= _:=hk5.row H5.row (fun hm=>by
       have e:some g=(.slice bo s.r.ts.length co:Value).ownBlock:=by simpa using hm
       exact H5.own.lone.ne (i:=0) (j:=5) rfl (by decide) (by rw [e];rfl))
      refine Tree.change (by rfl) (fun K hK=>?_);refine Each.oper_append _ _ _ rfl (by rfl) (by rfl) hrun ?_;refine hK _ _ trivial ?_;clear hK K hrun;simp only [Act.put,List.setIfInBounds_toArray,List.set_cons_zero,List.set_cons_succ];refine Tree.quiet (by rfl) (.pointer (some ⟨g,8,none⟩)) (fun _ _=>by go_simp) ?_;simp only [Act.put,List.setIfInBounds_toArray,List.set_cons_zero,List.set_cons_succ];refine Tree.quiet (by rfl) (.pointer (some ⟨g,9,none⟩)) (fun _ _=>by go_simp) ?_;simp only [Act.put,List.setIfInBounds_toArray,List.set_cons_zero,List.set_cons_succ];have c9:=row_cellL hrow (k:=9) rfl;have z9:=Ln.row_frozen hrow 9
      refine Tree.change (by rfl) (fun K hK=>?_);go_simp;refine hK _ _ trivial ?_;clear hK K;refine Tree.done ?_
      have HR6:=Lib.hid (row_setL hrow 9 (.slice bz (s.r.ts.length+1) cz));have HO6:=Lib.hid (ho5.set 9 (.slice bz (s.r.ts.length+1) cz))
      have HS6:=Lib.hid ((HS4.out.trans ((Step.of_below (Base.below_step (Below.refl W4.heap.size W4) hb)).trans hs5)).trans (Step.set g 9 (.slice bz (s.r.ts.length+1) cz) (by simp)));clear c9 z9 hrow ho5 hs5 hk5 hl5 hO5 hgr5 hor5 H5 hBl;go_wp2;go_ret;exact ⟨rfl,_,⟨HR6.out,HO6.out⟩,HS6.out⟩
     ·intro k0 hk0 g1 w5 hb hf;cases hk0;have z66:(g1 66=.slice bo s.r.ts.length co):=hf.at 4;have z68:((fun v w=>∃g1,v=.slice (some ⟨g1,0,none⟩) 1 1∧Rec.Bk w g1 [.string (ba n),.string (ba vv)]) (g1 68) w5):=hf.at 6;clear hf;obtain ⟨gl,el,hBl⟩:=z68;simp only [Each.putg,Act.put,List.setIfInBounds_toArray,List.set_cons_zero,List.set_cons_succ];rw [z66,el];simp only [Tree.grow,Tree.put1,List.getElem?_cons_zero,List.getElem?_cons_succ];refine Tree.quiet (by rfl) (.pointer (some ⟨g,8,none⟩)) (fun _ _=>by go_simp) ?_;simp only [Act.put,List.setIfInBounds_toArray,List.set_cons_zero,List.set_cons_succ]
      have H5:=H4.out.below (Base.below_step (Below.refl W4.heap.size W4) hb)
      obtain ⟨v',w6,hrun,hO5,hgr5,hor5⟩:=App.run_append_list w5 46 46 B 126 iF (.agg #[.string ByteArray.empty,.string ByteArray.empty]) 2 32 Tryz.underlying46 I1.out I2.out I3.out I4.out rfl (by decide) (.slice bo s.r.ts.length co) s.r.ts.length (cells s.r.ts) H5.own.TR (some ⟨gl,0,none⟩) 1 1 [.string (ba n),.string (ba vv)] rfl (fun _=>⟨gl,0,rfl,fun j u hu=>by rw [Nat.zero_add];exact hBl.c j u hu⟩) (by intro u hu;rcases (by simpa using hu:u=.string (ba n)∨u=.string (ba vv)) with rfl | rfl<;>rfl) (by have:=HLEN.out;unfold maxLen;omega) (by have:=HLEN.out;omega) (Nat.le_trans H5.own.ge (Nat.le_of_lt H5.own.lt));obtain ⟨bz,cz,ez, -⟩:=Ln.own_slice hO5;subst ez;have hl5:(s.r.ts ++ [(ba n,ba vv)]).length=s.r.ts.length+1:=by simp
      have hk5:Keeps [(.slice bo s.r.ts.length co:Value).ownBlock] w5 w6:=Keeps.grown hgr5 fun k e=>by rw [e];exact List.mem_singleton.2 rfl
      obtain ⟨ho5,hs5⟩:=H5.own.setT (t':=.slice bz (s.r.ts.length+1) cz) (ts':=s.r.ts ++ [(ba n,ba vv)]) hk5 (by rw [hl5,cells_append];exact hO5) (by
       rcases hor5 with e | e
       ·exact .inl e
       ·exact .inr ⟨_,e,Nat.le_refl _⟩)
      have hrow:w6.heap[g]?= _:=hk5.row H5.row (fun hm=>by
       have e:some g=(.slice bo s.r.ts.length co:Value).ownBlock:=by simpa using hm
       exact H5.own.lone.ne (i:=0) (j:=5) rfl (by decide) (by rw [e];rfl))
      refine Tree.change (by rfl) (fun K hK=>?_);refine Each.oper_append _ _ _ rfl (by rfl) (by rfl) hrun ?_;refine hK _ _ trivial ?_;clear hK K hrun;simp only [Act.put,List.setIfInBounds_toArray,List.set_cons_zero,List.set_cons_succ];refine Tree.quiet (by rfl) (.pointer (some ⟨g,8,none⟩)) (fun _ _=>by go_simp) ?_;simp only [Act.put,List.setIfInBounds_toArray,List.set_cons_zero,List.set_cons_succ];refine Tree.quiet (by rfl) (.pointer (some ⟨g,9,none⟩)) (fun _ _=>by go_simp) ?_;simp only [Act.put,List.setIfInBounds_toArray,List.set_cons_zero,List.set_cons_succ];have c9:=row_cellL hrow (k:=9) rfl;have z9:=Ln.row_frozen hrow 9
      refine Tree.change (by rfl) (fun K hK=>?_);go_simp;refine hK _ _ trivial ?_;clear hK K;refine Tree.done ?_
      have HR6:=Lib.hid (row_setL hrow 9 (.slice bz (s.r.ts.length+1) cz));have HO6:=Lib.hid (ho5.set 9 (.slice bz (s.r.ts.length+1) cz))
      have HS6:=Lib.hid ((HS4.out.trans ((Step.of_below (Base.below_step (Below.refl W4.heap.size W4) hb)).trans hs5)).trans (Step.set g 9 (.slice bz (s.r.ts.length+1) cz) (by simp)));clear c9 z9 hrow ho5 hs5 hk5 hl5 hO5 hgr5 hor5 H5 hBl;go_wp2;go_ret;exact ⟨rfl,_,⟨HR6.out,HO6.out⟩,HS6.out⟩
    ·obtain ⟨hg,k,hk⟩:=hgk;rw [hg] at hgo;have HGo:=Lib.hid hgo;have t1:(0:Int)≤(k:Int):=by omega
     have b3:(s.r.ts.length:Int)-1=(k:Int):=by omega
     obtain ⟨b1,b2⟩:=Rec.wraps ((s.r.ts.length:Int)-1) ⟨by omega,by omega⟩;rw [b3] at b1 b2;clear hgo hg hk hnn;go_enter Tryz.func229,Tryz.ntmps229;go_upto_region 4 with fail
     generalize w.setCell ⟨g,8,none⟩ (.int .i64 ((s.bl:Int)+1))=W1 at *;clear c8 z8 a1 a2 t0;have c9:=H1.out.cs.c9
     go_upto_region 10 with (first
      |(go_at_call 250;with_reducible refine (HP.out _).mono ?_;rintro r w3 ⟨rfl,hb3⟩
        have HB3:=Lib.hid hb3;clear hb3)
      |(go_at_call 248;with_reducible refine (HGo.out _).mono ?_;rintro r w2 ⟨rfl,hw⟩;rw [hw];clear hw))
     have HB4:=Lib.hid (HB3.out.alloc HB3.out.size (.cells #[.string (ba n),.string (ba vv)] 126))
     have HL4:=Lib.hid (Rec.Bk.new w3 w3.heap.size rfl 126 [.string (ba n),.string (ba vv)]);generalize w3.alloc (.cells #[.string (ba n),.string (ba vv)] 126)=W4 at *;generalize w3.heap.size=gL at *
     have H4:=Lib.hid (H1.out.below HB4.out);have HS4:=Lib.hid (HS1.out.trans (Step.of_below HB4.out))
     have HQ:=Lib.hid ((H4.out.drew 1).bk);have HQL:=Lib.hid (HL4.out.drew 1);clear b1 b2 b3 c9 H1 HS1 HB3 HB4 HL4;refine Each.region_float 7 [62,63,64,65,66,67,68]
      [fun v _=>v=.pointer (some ⟨g,8,none⟩),
        fun v _=>v=.pointer (some ⟨g,8,none⟩),
        fun v _=>v=.pointer (some ⟨g,8,none⟩),
        fun v _=>v=.pointer (some ⟨g,9,none⟩),
        fun v _=>v=.slice bo s.r.ts.length co,
        fun v _=>v=.agg #[.string (ba n),.string (ba vv)],
        fun v w=>∃g1,v=.slice (some ⟨g1,0,none⟩) 1 1∧Rec.Bk w g1 [.string (ba n),.string (ba vv)]]
      [] 4 (some 0) (.act 7 (.quiet 8 (.quiet 9 (.act 10 .done)))) (.quiet 0 (.act 7 (.quiet 8 (.quiet 9 (.act 10 .done))))) (by kernel_rfl) (by kernel_rfl) (by kernel_rfl) (by kernel_rfl) (fun k0 h=>by cases h;kernel_rfl) (fun _ _ d _ _ h=>by cases d<;>exact h) (by rfl) (by rfl)
      ⟨Each.Lasts.eq _,Each.Lasts.eq _,Each.Lasts.eq _,Each.Lasts.eq _,Each.Lasts.eq _,Each.Lasts.eq _,((fun _ _ _ hb h=>by obtain ⟨g1,e1,hB⟩:=h;exact ⟨g1,e1,hB.below hb⟩)),trivial⟩ trivial (by rfl) ?_ ?_ ?_
     ·refine ⟨?_,?_,?_,?_,?_,?_,?_,trivial⟩
      ·refine Each.fine rfl (fun ev w1 hR hb hh=>?_);clear hh;have e0:=hR.old 0 rfl;simp only [Array.getD_eq_getD_getElem?,List.getElem?_toArray,List.getElem?_cons_zero,Option.getD_some] at e0;refine Each.Goes.same ?_;go_simp;try with_reducible rfl
      ·refine Each.fine rfl (fun ev w1 hR hb hh=>?_);clear hh;have e0:=hR.old 0 rfl;simp only [Array.getD_eq_getD_getElem?,List.getElem?_toArray,List.getElem?_cons_zero,Option.getD_some] at e0;refine Each.Goes.same ?_;go_simp;try with_reducible rfl
      ·refine Each.fine rfl (fun ev w1 hR hb hh=>?_);have e63:(ev (.tmp 63)=.pointer (some ⟨g,8,none⟩)):=hh.at 0;clear hh;refine Each.Goes.same ?_;go_simp;try with_reducible rfl
      ·refine Each.fine rfl (fun ev w1 hR hb hh=>?_);have e64:(ev (.tmp 64)=.pointer (some ⟨g,8,none⟩)):=hh.at 0;clear hh;refine Each.Goes.same ?_;go_simp;try with_reducible rfl
      ·refine Each.fine rfl (fun ev w1 hR hb hh=>?_);have e65:(ev (.tmp 65)=.pointer (some ⟨g,9,none⟩)):=hh.at 0;clear hh;have q9:=(HQ.out.below hb).c 9 _ rfl;refine Each.Goes.same ?_;go_simp;try with_reducible rfl
      ·refine Each.fine rfl (fun ev w1 hR hb hh=>?_);clear hh;have e10:=hR.old 10 rfl;simp only [Array.getD_eq_getD_getElem?,List.getElem?_toArray,List.getElem?_cons_succ,List.getElem?_cons_zero,Option.getD_some] at e10;have q0:=(HQL.out.below hb).c 0 _ rfl;have q1:=(HQL.out.below hb).c 1 _ rfl;refine Each.Goes.same ?_;go_simp;try with_reducible rfl
      ·refine Each.fine rfl (fun ev w1 hR hb hh=>?_);have e67:(ev (.tmp 67)=.agg #[.string (ba n),.string (ba vv)]):=hh.at 0;clear hh;exact Each.Goes.value (.slice (some ⟨w1.heap.size,0,none⟩) 1 1) (w1.alloc (.cells #[.string (ba n),.string (ba vv)] 126)) (by go_simp) ((Below.refl _ _).alloc (Nat.le_refl _) _) ⟨_,rfl,Rec.Bk.new w1 _ rfl 126 [.string (ba n),.string (ba vv)]⟩
     ·intro g1 w5 hb hf;have z62:(g1 62=.pointer (some ⟨g,8,none⟩)):=hf.at 0;have z66:(g1 66=.slice bo s.r.ts.length co):=hf.at 4;have z68:((fun v w=>∃g1,v=.slice (some ⟨g1,0,none⟩) 1 1∧Rec.Bk w g1 [.string (ba n),.string (ba vv)]) (g1 68) w5):=hf.at 6;clear hf;obtain ⟨gl,el,hBl⟩:=z68;simp only [Each.putg,Act.put,List.setIfInBounds_toArray,List.set_cons_zero,List.set_cons_succ];rw [z62,z66,el];simp only [Tree.grow,Tree.put1,List.getElem?_cons_zero,List.getElem?_cons_succ]
      have H5:=H4.out.below (Base.below_step (Below.refl W4.heap.size W4) hb)
      obtain ⟨v',w6,hrun,hO5,hgr5,hor5⟩:=App.run_append_list w5 46 46 B 126 iF (.agg #[.string ByteArray.empty,.string ByteArray.empty]) 2 32 Tryz.underlying46 I1.out I2.out I3.out I4.out rfl (by decide) (.slice bo s.r.ts.length co) s.r.ts.length (cells s.r.ts) H5.own.TR (some ⟨gl,0,none⟩) 1 1 [.string (ba n),.string (ba vv)] rfl (fun _=>⟨gl,0,rfl,fun j u hu=>by rw [Nat.zero_add];exact hBl.c j u hu⟩) (by intro u hu;rcases (by simpa using hu:u=.string (ba n)∨u=.string (ba vv)) with rfl | rfl<;>rfl) (by have:=HLEN.out;unfold maxLen;omega) (by have:=HLEN.out;omega) (Nat.le_trans H5.own.ge (Nat.le_of_lt H5.own.lt));obtain ⟨bz,cz,ez, -⟩:=Ln.own_slice hO5;subst ez;have hl5:(s.r.ts ++ [(ba n,ba vv)]).length=s.r.ts.length+1:=by simp
      have hk5:Keeps [(.slice bo s.r.ts.length co:Value).ownBlock] w5 w6:=Keeps.grown hgr5 fun k e=>by rw [e];exact List.mem_singleton.2 rfl
      obtain ⟨ho5,hs5⟩:=H5.own.setT (t':=.slice bz (s.r.ts.length+1) cz) (ts':=s.r.ts ++ [(ba n,ba vv)]) hk5 (by rw [hl5,cells_append];exact hO5) (by
       rcases hor5 with e | e
       ·exact .inl e
       ·exact .inr ⟨_,e,Nat.le_refl _⟩)
      have hrow:w6.heap[g]?= _:=hk5.row H5.row (fun hm=>by
       have e:some g=(.slice bo s.r.ts.length co:Value).ownBlock:=by simpa using hm
       exact H5.own.lone.ne (i:=0) (j:=5) rfl (by decide) (by rw [e];rfl))
      refine Tree.change (by rfl) (fun K hK=>?_);refine Each.oper_append _ _ _ rfl (by rfl) (by rfl) hrun ?_;refine hK _ _ trivial ?_;clear hK K hrun;simp only [Act.put,List.setIfInBounds_toArray,List.set_cons_zero,List.set_cons_succ];refine Tree.quiet (by rfl) (.pointer (some ⟨g,8,none⟩)) (fun _ _=>by go_simp) ?_;simp only [Act.put,List.setIfInBounds_toArray,List.set_cons_zero,List.set_cons_succ];refine Tree.quiet (by rfl) (.pointer (some ⟨g,9,none⟩)) (fun _ _=>by go_simp) ?_;simp only [Act.put,List.setIfInBounds_toArray,List.set_cons_zero,List.set_cons_succ];have c9:=row_cellL hrow (k:=9) rfl;have z9:=Ln.row_frozen hrow 9
      refine Tree.change (by rfl) (fun K hK=>?_);go_simp;refine hK _ _ trivial ?_;clear hK K;refine Tree.done ?_
      have HR6:=Lib.hid (row_setL hrow 9 (.slice bz (s.r.ts.length+1) cz));have HO6:=Lib.hid (ho5.set 9 (.slice bz (s.r.ts.length+1) cz))
      have HS6:=Lib.hid ((HS4.out.trans ((Step.of_below (Base.below_step (Below.refl W4.heap.size W4) hb)).trans hs5)).trans (Step.set g 9 (.slice bz (s.r.ts.length+1) cz) (by simp)));clear c9 z9 hrow ho5 hs5 hk5 hl5 hO5 hgr5 hor5 H5 hBl;go_wp2;go_ret;exact ⟨rfl,_,⟨HR6.out,HO6.out⟩,HS6.out⟩
     ·intro k0 hk0 g1 w5 hb hf;cases hk0;have z66:(g1 66=.slice bo s.r.ts.length co):=hf.at 4;have z68:((fun v w=>∃g1,v=.slice (some ⟨g1,0,none⟩) 1 1∧Rec.Bk w g1 [.string (ba n),.string (ba vv)]) (g1 68) w5):=hf.at 6;clear hf;obtain ⟨gl,el,hBl⟩:=z68;simp only [Each.putg,Act.put,List.setIfInBounds_toArray,List.set_cons_zero,List.set_cons_succ];rw [z66,el];simp only [Tree.grow,Tree.put1,List.getElem?_cons_zero,List.getElem?_cons_succ];refine Tree.quiet (by rfl) (.pointer (some ⟨g,8,none⟩)) (fun _ _=>by go_simp) ?_;simp only [Act.put,List.setIfInBounds_toArray,List.set_cons_zero,List.set_cons_succ]
      have H5:=H4.out.below (Base.below_step (Below.refl W4.heap.size W4) hb)
      obtain ⟨v',w6,hrun,hO5,hgr5,hor5⟩:=App.run_append_list w5 46 46 B 126 iF (.agg #[.string ByteArray.empty,.string ByteArray.empty]) 2 32 Tryz.underlying46 I1.out I2.out I3.out I4.out rfl (by decide) (.slice bo s.r.ts.length co) s.r.ts.length (cells s.r.ts) H5.own.TR (some ⟨gl,0,none⟩) 1 1 [.string (ba n),.string (ba vv)] rfl (fun _=>⟨gl,0,rfl,fun j u hu=>by rw [Nat.zero_add];exact hBl.c j u hu⟩) (by intro u hu;rcases (by simpa using hu:u=.string (ba n)∨u=.string (ba vv)) with rfl | rfl<;>rfl) (by have:=HLEN.out;unfold maxLen;omega) (by have:=HLEN.out;omega) (Nat.le_trans H5.own.ge (Nat.le_of_lt H5.own.lt));obtain ⟨bz,cz,ez, -⟩:=Ln.own_slice hO5;subst ez;have hl5:(s.r.ts ++ [(ba n,ba vv)]).length=s.r.ts.length+1:=by simp
      have hk5:Keeps [(.slice bo s.r.ts.length co:Value).ownBlock] w5 w6:=Keeps.grown hgr5 fun k e=>by rw [e];exact List.mem_singleton.2 rfl
      obtain ⟨ho5,hs5⟩:=H5.own.setT (t':=.slice bz (s.r.ts.length+1) cz) (ts':=s.r.ts ++ [(ba n,ba vv)]) hk5 (by rw [hl5,cells_append];exact hO5) (by
       rcases hor5 with e | e
       ·exact .inl e
       ·exact .inr ⟨_,e,Nat.le_refl _⟩)
      have hrow:w6.heap[g]?= _:=hk5.row H5.row (fun hm=>by
       have e:some g=(.slice bo s.r.ts.length co:Value).ownBlock:=by simpa using hm
       exact H5.own.lone.ne (i:=0) (j:=5) rfl (by decide) (by rw [e];rfl))
      refine Tree.change (by rfl) (fun K hK=>?_);refine Each.oper_append _ _ _ rfl (by rfl) (by rfl) hrun ?_;refine hK _ _ trivial ?_;clear hK K hrun;simp only [Act.put,List.setIfInBounds_toArray,List.set_cons_zero,List.set_cons_succ];refine Tree.quiet (by rfl) (.pointer (some ⟨g,8,none⟩)) (fun _ _=>by go_simp) ?_;simp only [Act.put,List.setIfInBounds_toArray,List.set_cons_zero,List.set_cons_succ];refine Tree.quiet (by rfl) (.pointer (some ⟨g,9,none⟩)) (fun _ _=>by go_simp) ?_;simp only [Act.put,List.setIfInBounds_toArray,List.set_cons_zero,List.set_cons_succ];have c9:=row_cellL hrow (k:=9) rfl;have z9:=Ln.row_frozen hrow 9
      refine Tree.change (by rfl) (fun K hK=>?_);go_simp;refine hK _ _ trivial ?_;clear hK K;refine Tree.done ?_
      have HR6:=Lib.hid (row_setL hrow 9 (.slice bz (s.r.ts.length+1) cz));have HO6:=Lib.hid (ho5.set 9 (.slice bz (s.r.ts.length+1) cz))
      have HS6:=Lib.hid ((HS4.out.trans ((Step.of_below (Base.below_step (Below.refl W4.heap.size W4) hb)).trans hs5)).trans (Step.set g 9 (.slice bz (s.r.ts.length+1) cz) (by simp)));clear c9 z9 hrow ho5 hs5 hk5 hl5 hO5 hgr5 hor5 H5 hBl;go_wp2;go_ret;exact ⟨rfl,_,⟨HR6.out,HO6.out⟩,HS6.out⟩
end code
end Go.Proofs.YtnabkcglnbdfeaaGreatDoor.Pg
