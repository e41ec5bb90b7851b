import Derived.Test.YtimoakmcelocfaaGreatAyi
namespace Go.Proofs.YtimoakmcelocfaaGreat.Flt
open Go.RowKit Base Txt Mem Par Pg Each
section
variable {w w' w0 w1:World} {B g g1 g2 p:Nat} {b:Bd} {L L' L1 L2 N1 N2 M1 M2 Z:List (Option Nat)} {f f':F} {V U:Value} {out out2:List Rec.R}
theorem look_len (hx:f.x.out= []) (c:UInt8):(f.look p b c).2.length≤2:=by
 show (if Rec.all (f.x.byte 0 b c).out (f.y.byte p b c).out=true then (f.x.byte 0 b c).out else []).length≤2;split
 ·have:=Q.byte_out (p:=0) (b:=b) f.x c;rw [hx] at this;simpa using this
 ·simp
theorem outs_step {B:Zone} (h:Outs (V.ownBlock::L) B w V out) (hs:Step L L' w w') (ho:∀k,V.ownBlock=some k→some k∉L):Outs (V.ownBlock::L') B w' V out:=by
 obtain ⟨ps,h1,h2,h3⟩:=h;refine ⟨ps,h1,fun x hx=>⟨(h2 x hx).1,?_⟩,hs.keeps.own h3 ho⟩;have e1:=(h2 x hx).2
 have e2:=e1.keeps (hs.keeps.mono fun k hk=>List.mem_cons_of_mem _ hk);refine ⟨e2.reads,fun k hb=>⟨fun hm=>?_,(e2.far k hb).2⟩,e1.off⟩;rcases List.mem_cons.1 hm with e | e
 ·exact (e1.far k hb).1 (by rw [e];exact List.mem_cons_self ..)
 ·rcases hs.of k e with e | e
  ·exact (e1.far k hb).1 (List.mem_cons_of_mem _ e)
  ·have:=(e1.far k hb).2;omega
theorem outs_append {b0 b1:Nat} (h:Outs (V.ownBlock::L) ⟨b0,Z⟩ w V out) (h':Outs (V.ownBlock::L) ⟨b1,Z⟩ w U out2) (hn:out.length+out2.length≤1000000000) (hb:b0≤w.heap.size) :
 ∃V' w',(Builtin.append_ #[51,51] 51 #[V,U]).run Tryz.prog w=.ok V' w'∧Outs (V'.ownBlock::L) ⟨b0,Z⟩ w' V' (out++out2)∧Keeps [V.ownBlock] w w'∧(V'.ownBlock=V.ownBlock∨V'.ownBlock=some w.heap.size):=by
 obtain ⟨ps,h1,h2,h3⟩:=h;obtain ⟨qs,g1,g2,g3⟩:=h';obtain ⟨iR,hi,hz0,hz1,hz2⟩:=info_parts record_info;have hlen:(qs.flatMap (·.1.toList)).length=out2.length*7:=by
  rw [←g1,List.length_map];have:∀rs:List (Array Value × Rec.R),(∀x∈rs,x.1.size=7)→(rs.flatMap (·.1.toList)).length=rs.length*7:=fun rs=>by
   induction rs with
   | nil=>intro _;rfl
   | cons x rs ih=>
     intro hx;rw [List.flatMap_cons,List.length_append,ih fun y hy=>hx y (by simp [hy]),Array.length_toList,hx x (by simp),List.length_cons];omega
  exact this qs fun x hx=>(g2 x hx).1
 obtain ⟨a,c,eU, -⟩:=Ln.own_slice g3;subst eU;have hone:∀u∈qs.flatMap (·.1.toList),u.oneCell'=true:=by
  intro u hu;obtain ⟨x,hx,hu⟩:=List.mem_flatMap.1 hu;obtain ⟨fa,fc,ba,bc,ta,tc,e, -, -, -⟩:=(g2 x hx).2.reads;have e:x.1= #[.string x.2.m,.string x.2.x,.int .i64 x.2.k,.slice fa x.2.fs.length fc,.bool x.2.ch,.slice ba x.2.body.length bc,.slice ta x.2.ts.length tc]:=by injection e
  rw [e] at hu;simp only [List.mem_cons,List.not_mem_nil,or_false] at hu;rcases hu with rfl | rfl | rfl | rfl | rfl | rfl | rfl<;>rfl
 obtain ⟨V',w',hrun,ho,hgr,hor⟩:=App.run_append_list w 51 51 b0 57 iR (.agg #[.string ByteArray.empty,.string ByteArray.empty,.int .i64 0,.slice none 0 0,.bool false,.slice none 0 0,.slice none 0 0]) 7 120 Tryz.underlying51 hi hz0 hz1 hz2 rfl (by decide) V out.length (ps.flatMap (·.1.toList)) h3 a out2.length c (qs.flatMap (·.1.toList)) hlen
  (fun h0=>by
    obtain ⟨bk,cf,hform, -,hlt⟩:=g3.form h0;simp only [Value.slice.injEq,true_and] at hform;obtain ⟨rfl,rfl⟩:=hform
    exact ⟨bk,0,rfl,fun j u hu=>by
     have hj:j<(qs.flatMap (·.1.toList)).length:=(List.getElem?_eq_some_iff.1 hu).1;rw [Nat.zero_add]
     exact (g3.cellAt j (by rw [hlen] at hj;omega)).trans hu⟩)
  hone (by unfold maxLen;omega) (by omega) hb
 have hk:Keeps [V.ownBlock] w w':=Keeps.grown hgr fun k e=>by rw [e];exact List.mem_singleton.2 rfl
 refine ⟨V',w',hrun,⟨ps++qs,by rw [List.map_append,h1,g1],fun x hx=>?_,by rw [List.length_append,List.flatMap_append];exact ho⟩,hk,hor⟩
 have hx2:x.1.size=7∧Far (V.ownBlock::L) Z w (.agg x.1) x.2:=(List.mem_append.1 hx).elim (h2 x) (g2 x);refine ⟨hx2.1,?_⟩;have e1:=hx2.2
 have e2:=e1.keeps (hk.mono fun k hk=>by rw [List.mem_singleton.1 hk];exact List.mem_cons_self ..);refine ⟨e2.reads,fun k hb=>⟨fun hm=>?_,(e2.far k hb).2⟩,e1.off⟩;rcases List.mem_cons.1 hm with e | e
 ·rcases hor with e3 | e3
  ·exact (e1.far k hb).1 (by rw [e,e3];exact List.mem_cons_self ..)
  ·rw [e3] at e;have:=(e1.far k hb).2;cases e;omega
 ·exact (e1.far k hb).1 (List.mem_cons_of_mem _ e)
end
end Go.Proofs.YtimoakmcelocfaaGreat.Flt
namespace Go.Proofs.YtimoakmcelocfaaGreat.Flt
open Go.RowKit Base Txt Mem Par Pg Each
structure PartsC (L:List (Option Nat)) (w:World) (a:Option Addr) (ls:List (List UInt8)):Prop where
 cells:0<ls.length→∃bk off,a=some ⟨bk,off,none⟩∧bk<w.heap.size∧some bk∉L∧∀k (hk:k<ls.length),∃ak ck,w.cell? ⟨bk,off+k,none⟩=some (.slice ak ls[k].length ck)∧ls[k].length≤ck∧(ls[k]≠ []→Bts L w ak ls[k])
section code
set_option maxHeartbeats 4000000
set_option maxRecDepth 20000
attribute [local go_sem] Base.some_undef
variable {w:World} {B g g1 g2 p:Nat} {b:Bd} {L1 L2:List (Option Nat)} {f:F}
theorem feed_len (p:Nat) (b:Bd):∀(l:List UInt8) (f:F),f.x.out= []→(F.feed p b f l).2.length≤2*l.length∧(F.feed p b f l).1.x.out= []
 | [],f,h=>⟨Nat.zero_le _,h⟩
 | c::l,f,h=>by
   have h1:(f.byte p b c).2.length≤2∧(f.byte p b c).1.x.out= []:=by
    unfold F.byte;split
    ·refine ⟨look_len h c,?_⟩;show (F.judge _ _ _ _).x.out= [];unfold F.judge;split
     ·exact told_out _
     ·split<;>exact told_out _
    ·exact ⟨Nat.zero_le _,h⟩
   obtain ⟨h2,h3⟩:=feed_len p b l (f.byte p b c).1 h1.2;refine ⟨?_,h3⟩
   show ((f.byte p b c).2++(F.feed p b (f.byte p b c).1 l).2).length≤2*(l.length+1);rw [List.length_append];omega
end code
end Go.Proofs.YtimoakmcelocfaaGreat.Flt
namespace Go.Proofs.YtimoakmcelocfaaGreat.Par
open Go.RowKit Base Txt Mem
abbrev nil:Value:=.slice none 0 0
structure Cs (w:World) (g:Nat) (p:Nat) (b:Bd) (s:S) (q:Nat) (f bd t o:Value):Prop where
 c0:w.cell? ⟨g,0,none⟩=some (.int .u32 (p:Int))
 c1:w.cell? ⟨g,1,none⟩=some (.int .i64 b.x0)
 c2:w.cell? ⟨g,2,none⟩=some (.int .i64 b.x1)
 c3:w.cell? ⟨g,3,none⟩=some (.int .i64 b.x2)
 c4:w.cell? ⟨g,4,none⟩=some (.int .i64 b.x3)
 c5:w.cell? ⟨g,5,none⟩=some (.int .i64 b.x4)
 c6:w.cell? ⟨g,6,none⟩=some (.int .i64 b.x5)
 c7:w.cell? ⟨g,7,none⟩=some (.int .i64 b.x6)
 c8:w.cell? ⟨g,8,none⟩=some (.int .i64 b.x7)
 c9:w.cell? ⟨g,9,none⟩=some (.bool b.ch)
 c10:w.cell? ⟨g,10,none⟩=some (.bool b.od)
 c11:w.cell? ⟨g,11,none⟩=some (.int .i64 (s.st:Int))
 c12:w.cell? ⟨g,12,none⟩=some (ptr q)
 c13:w.cell? ⟨g,13,none⟩=some (.string s.r.m)
 c14:w.cell? ⟨g,14,none⟩=some (.string s.r.x)
 c15:w.cell? ⟨g,15,none⟩=some (.int .i64 s.r.k)
 c16:w.cell? ⟨g,16,none⟩=some (f)
 c17:w.cell? ⟨g,17,none⟩=some (.bool s.r.ch)
 c18:w.cell? ⟨g,18,none⟩=some (bd)
 c19:w.cell? ⟨g,19,none⟩=some (t)
 c20:w.cell? ⟨g,20,none⟩=some (.int .i64 (s.lines:Int))
 c21:w.cell? ⟨g,21,none⟩=some (.int .i64 (s.head:Int))
 c22:w.cell? ⟨g,22,none⟩=some (.int .i64 (s.left:Int))
 c23:w.cell? ⟨g,23,none⟩=some (.bool s.fresh)
 c24:w.cell? ⟨g,24,none⟩=some (.bool s.clean)
 c25:w.cell? ⟨g,25,none⟩=some (.int .i64 (s.e:Int))
 c26:w.cell? ⟨g,26,none⟩=some (o)
theorem Cs.of {w:World} {g:Nat} {p:Nat} {b:Bd} {s:S} {q:Nat} {f bd t o:Value} (h:w.heap[g]?=some (.cells (pcells p b s q f bd t o).toArray 59 (0,0))):Cs w g p b s q f bd t o:=⟨row_cellL h rfl,row_cellL h rfl,row_cellL h rfl,row_cellL h rfl,row_cellL h rfl,row_cellL h rfl,row_cellL h rfl,row_cellL h rfl,row_cellL h rfl,row_cellL h rfl,row_cellL h rfl,row_cellL h rfl,row_cellL h rfl,row_cellL h rfl,row_cellL h rfl,row_cellL h rfl,row_cellL h rfl,row_cellL h rfl,row_cellL h rfl,row_cellL h rfl,row_cellL h rfl,row_cellL h rfl,row_cellL h rfl,row_cellL h rfl,row_cellL h rfl,row_cellL h rfl,row_cellL h rfl⟩
section code
set_option maxHeartbeats 4000000
set_option maxRecDepth 20000
variable {w:World} {B:Zone} {g q:Nat} {v f bd t o:Value} {p:Nat} {b:Bd} {s:S}
theorem PR.cs (h:PR w B g q v f bd t o p b s):Cs w g p b s q f bd t o:=Cs.of h.row
theorem PR.marks (h:PR w B g q v f bd t o p b s) (k:Nat):w.frozen? ⟨g,k,none⟩=false:=Ln.row_frozen h.row k
theorem PR.zero_of {f1 bd1 t1:Value} {fs1 ts1:List Fld} {body1:List UInt8} (hr:w.heap[g]?=some (.cells (pcells p b s q f bd t o).toArray 59 (0,0))) (ho:Own w B g q v f1 bd1 t1 o p s.rd fs1 body1 ts1 s.out) (s':S) (hs:s'={s with r:=zero}) :
 PR (((((((w.setCell ⟨g,13,none⟩ (.string E0)).setCell ⟨g,14,none⟩ (.string E0)).setCell ⟨g,15,none⟩ (.int .i64 0)).setCell ⟨g,16,none⟩ nil).setCell ⟨g,17,none⟩ (.bool false)).setCell ⟨g,18,none⟩ nil).setCell ⟨g,19,none⟩ nil) B g q v nil nil nil o p b s':=by
 subst hs;refine ⟨?_,(((((((ho.zero).set 13 _).set 14 _).set 15 _).set 16 _).set 17 _).set 18 _).set 19 _⟩;exact row_setL (row_setL (row_setL (row_setL (row_setL (row_setL (row_setL hr 13 _) 14 _) 15 _) 16 _) 17 _) 18 _) 19 _
theorem PR.zero (h:PR w B g q v f bd t o p b s) (s':S) (hs:s'={s with r:=zero}):PR (((((((w.setCell ⟨g,13,none⟩ (.string E0)).setCell ⟨g,14,none⟩ (.string E0)).setCell ⟨g,15,none⟩ (.int .i64 0)).setCell ⟨g,16,none⟩ nil).setCell ⟨g,17,none⟩ (.bool false)).setCell ⟨g,18,none⟩ nil).setCell ⟨g,19,none⟩ nil) B g q v nil nil nil o p b s':=
 PR.zero_of h.row h.own s' hs
theorem Step.put7 (u13 u14 u15 u16 u17 u18 u19:Value):Step (blks g q v f bd t o) (blks g q v f bd t o) w (((((((w.setCell ⟨g,13,none⟩ u13).setCell ⟨g,14,none⟩ u14).setCell ⟨g,15,none⟩ u15).setCell ⟨g,16,none⟩ u16).setCell ⟨g,17,none⟩ u17).setCell ⟨g,18,none⟩ u18).setCell ⟨g,19,none⟩ u19):=
 ((((((Step.set g 13 _ (by simp)).trans (Step.set g 14 _ (by simp))).trans (Step.set g 15 _ (by simp))).trans (Step.set g 16 _ (by simp))).trans (Step.set g 17 _ (by simp))).trans (Step.set g 18 _ (by simp))).trans (Step.set g 19 _ (by simp))
theorem fail_any (h:PR w B g q v f bd t o p b s) (e:Nat):Calls Tryz.prog 56 #[ptr g,.int .i64 (e:Int)] w fun r w'=>
 r=.returned (.tuple #[])∧PR w' B g q v nil nil nil o p b (s.fail e)∧Step (blks g q v f bd t o) (blks g q v nil nil nil o) w w':=by
 have H:=Lib.hid h;have c24:=h.cs.c24;have z24:=h.marks 24;have c25:=h.cs.c25;have z25:=h.marks 25;have c13:=h.cs.c13;have z13:=h.marks 13;have c14:=h.cs.c14;have z14:=h.marks 14;have c15:=h.cs.c15;have z15:=h.marks 15;have c16:=h.cs.c16;have z16:=h.marks 16;have c17:=h.cs.c17;have z17:=h.marks 17;have c18:=h.cs.c18;have z18:=h.marks 18;have c19:=h.cs.c19;have z19:=h.marks 19
 have H1:=Lib.hid (h.put 25 (.int .i64 (e:Int)) {s with e:=e} rfl rfl rfl rfl rfl rfl)
 have H2:=Lib.hid (H1.out.put 24 (.bool false) {s with e:=e,clean:=false} rfl rfl rfl rfl rfl rfl);clear h;go_enter Tryz.func56,Tryz.ntmps56;go_wp2;go_end0;exact ⟨rfl,H2.out.zero _ rfl,((Step.set g 25 _ (by simp)).trans (Step.set g 24 _ (by simp))).trans ((Step.put7 _ _ _ _ _ _ _).trans Step.zero)⟩
theorem rnew_line (B:Nat) (most:Int) (w:World) (hB:B≤w.heap.size):Calls Tryz.prog 55 #[.int .u32 (p:Int),.int .i64 most] w fun r w'=>∃q1,r=.returned (ptr q1)∧w.heap.size≤q1∧Ln.Rr w' B q1 nil p (nl p most)∧Below w.heap.size w w':=by refine (Ln.rnew_any p most w).mono ?_;rintro r w' ⟨rfl,rfl⟩;exact ⟨_,rfl,Nat.le_refl _,⟨heap_alloc_new w _,World.ownsRow_nil _ _ _ _,hB,by simp [Value.ownBlock]⟩,(Below.refl _ _).alloc (Nat.le_refl _) _⟩
theorem next_any {f1 bd1 t1:Value} {fs1 ts1:List Fld} {body1:List UInt8} (hrow:w.heap[g]?=some (.cells (pcells p b s q f bd t o).toArray 59 (0,0))) (ho:Own w B g q v f1 bd1 t1 o p s.rd fs1 body1 ts1 s.out):Calls Tryz.prog 36 #[ptr g] w fun r w'=>
 r=.returned (.tuple #[])∧∃q1,PR w' B g q1 nil nil nil nil o p b (s.next p b)∧Step (blks g q v f1 bd1 t1 o) (blks g q1 nil nil nil nil o) w w':=by
 have H1:=Lib.hid ((((((PR.zero_of hrow ho {s with r:=zero} rfl).put 11 (.int .i64 0) {s with r:=zero,st:=0} rfl rfl rfl rfl rfl rfl).put 20 (.int .i64 0) {s with r:=zero,st:=0,lines:=0} rfl rfl rfl rfl rfl rfl).put 21 (.int .i64 0) {s with r:=zero,st:=0,lines:=0,head:=0} rfl rfl rfl rfl rfl rfl).put 23 (.bool false) {s with r:=zero,st:=0,lines:=0,head:=0,fresh:=false} rfl rfl rfl rfl rfl rfl).put 24 (.bool true) {s with r:=zero,st:=0,lines:=0,head:=0,fresh:=false,clean:=true} rfl rfl rfl rfl rfl rfl)
 have HS:=Lib.hid ((((((Step.put7 (w:=w) (g:=g) (q:=q) (v:=v) (f:=f1) (bd:=bd1) (t:=t1) (o:=o) (.string E0) (.string E0) (.int .i64 0) nil (.bool false) nil nil).trans (Step.set g 11 (.int .i64 0) (by simp))).trans (Step.set g 20 (.int .i64 0) (by simp))).trans (Step.set g 21 (.int .i64 0) (by simp))).trans (Step.set g 23 (.bool false) (by simp))).trans (Step.set g 24 (.bool true) (by simp)));have cs:=Cs.of hrow;have c11:=cs.c11;have z11:=Ln.row_frozen hrow 11;have c20:=cs.c20;have z20:=Ln.row_frozen hrow 20;have c21:=cs.c21;have z21:=Ln.row_frozen hrow 21;have c23:=cs.c23;have z23:=Ln.row_frozen hrow 23;have c24:=cs.c24;have z24:=Ln.row_frozen hrow 24;have c13:=cs.c13;have z13:=Ln.row_frozen hrow 13;have c14:=cs.c14;have z14:=Ln.row_frozen hrow 14;have c15:=cs.c15;have z15:=Ln.row_frozen hrow 15;have c16:=cs.c16;have z16:=Ln.row_frozen hrow 16;have c17:=cs.c17;have z17:=Ln.row_frozen hrow 17;have c18:=cs.c18;have z18:=Ln.row_frozen hrow 18;have c19:=cs.c19;have z19:=Ln.row_frozen hrow 19
 have HB:=Lib.hid (ho.ge);clear hrow ho cs;go_enter Tryz.func36,Tryz.ntmps36;go_upto_region 1 with fail
 generalize (((((((((((w.setCell ⟨g,13,none⟩ (.string E0)).setCell ⟨g,14,none⟩ (.string E0)).setCell ⟨g,15,none⟩ (.int .i64 0)).setCell ⟨g,16,none⟩ (nil)).setCell ⟨g,17,none⟩ (.bool false)).setCell ⟨g,18,none⟩ (nil)).setCell ⟨g,19,none⟩ (nil)).setCell ⟨g,11,none⟩ (.int .i64 0)).setCell ⟨g,20,none⟩ (.int .i64 0)).setCell ⟨g,21,none⟩ (.int .i64 0)).setCell ⟨g,23,none⟩ (.bool false)).setCell ⟨g,24,none⟩ (.bool true)=W1 at *;clear c11 c20 c21 c23 c24 c13 c14 c15 c16 c17 c18 c19 z11 z20 z21 z23 z24 z13 z14 z15 z16 z17 z18 z19;obtain ⟨S1,hS1⟩:∃S1:S,{s with r:=zero,st:=0,lines:=0,head:=0,fresh:=false,clean:=true}=S1:=⟨_,rfl⟩;have HS1:=Lib.hid hS1;rw [hS1] at H1;clear hS1
 have HQ:=Lib.hid ((H1.out.drew 1).bk)
 have HBW:=Lib.hid (show B≤(W1.drewN 1).heap.size from Nat.le_trans HB.out (Nat.le_of_lt (H1.out.drew 1).own.lt));refine Each.region 11 [21,22,23,24,25,26,27,28,29,30,31]
  [Each.is (.pointer (some ⟨g,0,none⟩)),
    Each.is (.pointer (some ⟨g,0,none⟩)),
    Each.is (.pointer (some ⟨g,0,none⟩)),
    Each.is (.pointer (some ⟨g,0,none⟩)),
    Each.is (.int .u32 (p:Int)),
    Each.is (.pointer (some ⟨g,0,none⟩)),
    Each.is (.pointer (some ⟨g,0,none⟩)),
    Each.is (.pointer (some ⟨g,1,none⟩)),
    Each.is (.pointer (some ⟨g,1,none⟩)),
    Each.is (.int .i64 b.x0),
    fun v w=>∃q1,v=ptr q1∧W1.heap.size≤q1∧Ln.Rr w B q1 nil p (nl p (b.x0))]
  (.quiet 11 (.quiet 12 (.act 13 .done))) (by kernel_rfl) (by kernel_rfl) (by kernel_rfl) (by kernel_rfl) (fun _ _ d _ _ h=>by cases d<;>exact h) (by rfl) (by rfl)
  ⟨Each.Lasts.eq _,Each.Lasts.eq _,Each.Lasts.eq _,Each.Lasts.eq _,Each.Lasts.eq _,Each.Lasts.eq _,Each.Lasts.eq _,Each.Lasts.eq _,Each.Lasts.eq _,Each.Lasts.eq _,((fun _ _ _ hb h=>by obtain ⟨q1,e1,h1,h2⟩:=h;exact ⟨q1,e1,h1,rr_below h2 hb⟩)),trivial⟩ ?_ ?_
 ·refine ⟨?_,?_,?_,?_,?_,?_,?_,?_,?_,?_,?_,trivial⟩
  ·refine Each.fine rfl (fun ev w1 hR hb hh=>?_);clear hh;have e0:=hR.old 0 rfl;simp only [qA,qT,qZ,qO] at e0;refine Each.Goes.same ?_;go_simp;try with_reducible rfl
  ·refine Each.fine rfl (fun ev w1 hR hb hh=>?_);clear hh;have e0:=hR.old 0 rfl;simp only [qA,qT,qZ,qO] at e0;refine Each.Goes.same ?_;go_simp;try with_reducible rfl
  ·refine Each.fine rfl (fun ev w1 hR hb hh=>?_);have e22:(ev (.tmp 22)=.pointer (some ⟨g,0,none⟩)):=hh.at 0;clear hh;refine Each.Goes.same ?_;go_simp;try with_reducible rfl
  ·refine Each.fine rfl (fun ev w1 hR hb hh=>?_);have e23:(ev (.tmp 23)=.pointer (some ⟨g,0,none⟩)):=hh.at 0;clear hh;refine Each.Goes.same ?_;go_simp;try with_reducible rfl
  ·refine Each.fine rfl (fun ev w1 hR hb hh=>?_);have e24:(ev (.tmp 24)=.pointer (some ⟨g,0,none⟩)):=hh.at 0;clear hh;have q0:=(HQ.out.below hb).c 0 _ rfl;refine Each.Goes.same ?_;go_simp;try with_reducible rfl
  ·refine Each.fine rfl (fun ev w1 hR hb hh=>?_);clear hh;have e0:=hR.old 0 rfl;simp only [qA,qT,qZ,qO] at e0;refine Each.Goes.same ?_;go_simp;try with_reducible rfl
  ·refine Each.fine rfl (fun ev w1 hR hb hh=>?_);have e26:(ev (.tmp 26)=.pointer (some ⟨g,0,none⟩)):=hh.at 0;clear hh;refine Each.Goes.same ?_;go_simp;try with_reducible rfl
  ·refine Each.fine rfl (fun ev w1 hR hb hh=>?_);have e27:(ev (.tmp 27)=.pointer (some ⟨g,0,none⟩)):=hh.at 0;clear hh;refine Each.Goes.same ?_;go_simp;try with_reducible rfl
  ·refine Each.fine rfl (fun ev w1 hR hb hh=>?_);have e28:(ev (.tmp 28)=.pointer (some ⟨g,1,none⟩)):=hh.at 0;clear hh;refine Each.Goes.same ?_;go_simp;try with_reducible rfl
  ·refine Each.fine rfl (fun ev w1 hR hb hh=>?_);have e29:(ev (.tmp 29)=.pointer (some ⟨g,1,none⟩)):=hh.at 0;clear hh;have q1:=(HQ.out.below hb).c 1 _ rfl;refine Each.Goes.same ?_;go_simp;try with_reducible rfl
  ·refine Each.fine rfl (fun ev w1 hR hb hh=>?_);have e25:(ev (.tmp 25)=.int .u32 (p:Int)):=hh.at 0;have e30:(ev (.tmp 30)=.int .i64 b.x0):=hh.at 1;clear hh;have ef:=hR.func
   refine Each.Goes.enter 55 #[.int .u32 (p:Int),.int .i64 (b.x0)] (by go_simp) ((rnew_line B (b.x0) w1 (Nat.le_trans HBW.out hb.size)).mono ?_);rintro r w2 ⟨q1,rfl,h1,h2,hb2⟩;exact ⟨_,rfl,hb2,q1,rfl,Nat.le_trans hb.size h1,h2⟩
 intro g1 w2 hb hf;have z21:(g1 21=.pointer (some ⟨g,0,none⟩)):=hf.at 0;have z31:((fun v w=>∃q1,v=ptr q1∧W1.heap.size≤q1∧Ln.Rr w B q1 nil p (nl p (b.x0))) (g1 31) w2):=hf.at 10;clear hf;obtain ⟨q1,e1,hq1,hr1⟩:=z31;simp only [Each.putg,Act.put,qI,qY,qX];rw [e1,z21];simp only [Tree.grow,Tree.put1,qZ,qS];refine Tree.quiet (by rfl) (ptr g) (fun _ _=>by go_simp) ?_;simp only [Act.put,qI,qY,qX];refine Tree.quiet (by rfl) (.pointer (some ⟨g,12,none⟩)) (fun _ _=>by go_simp) ?_;simp only [Act.put,qI,qY,qX];have c12:=(H1.out.below hb).cs.c12;have z12:=(H1.out.below hb).marks 12
 refine Tree.change (by rfl) (fun K hK=>?_);go_simp;refine hK _ _ trivial ?_;clear hK K;refine Tree.done ?_;have H2:=H1.out.line hb hr1 hq1
 have HS2:=(HS.out.trans Step.zero).trans ((Step.line hb hq1).trans (Step.set g 12 (ptr q1) (by simp)));rw [←HS1.out] at H2;clear H1 HQ HBW HS HS1 hr1 hq1 c12 z12;go_wp2;go_end0;exact ⟨rfl,q1,H2,HS2⟩
theorem record_info:(Tryz.prog.info? 57).map (fun i=>(i.zero,i.size,i.bytes))=some (some (.agg #[.string ByteArray.empty,.string ByteArray.empty,.int .i64 0,.slice none 0 0,.bool false,.slice none 0 0,.slice none 0 0]),7,120):=by kernel_rfl
theorem whole_any (h:PR w B g q v f bd t o p b s) (hn:s.out.length≤1000000000):Calls Tryz.prog 69 #[ptr g] w fun r w'=>
 r=.returned (.tuple #[])∧∃q1 o1,PR w' B g q1 nil nil nil nil o1 p b (s.whole p b)∧Step (blks g q v f bd t o) (blks g q1 nil nil nil nil o1) w w':=by
 obtain ⟨iR,hi,hz0,hz1,hz2⟩:=info_parts record_info;have I1:=Lib.hid hi;have I2:=Lib.hid hz0;have I3:=Lib.hid hz1;have I4:=Lib.hid hz2;clear hi hz0 hz1 hz2;have H:=Lib.hid h;have HN:=Lib.hid hn
 have HQ:=Lib.hid ((h.drew 1).bk);clear h hn;go_enter Tryz.func69,Tryz.ntmps69;go_upto_region 0 with fail
 refine Each.region_float 10 [2,3,4,5,6,7,8,9,10,11]
  [Each.is (.pointer (some ⟨g,0,none⟩)),
    Each.is (.pointer (some ⟨g,0,none⟩)),
    Each.is (.pointer (some ⟨g,0,none⟩)),
    Each.is (.pointer (some ⟨g,26,none⟩)),
    Each.is (o),
    Each.is (.pointer (some ⟨g,0,none⟩)),
    Each.is (.pointer (some ⟨g,0,none⟩)),
    Each.is (.pointer (some ⟨g,13,none⟩)),
    Each.is (.agg #[.string s.r.m,.string s.r.x,.int .i64 s.r.k,f,.bool s.r.ch,bd,t]),
    fun v w=>∃g1,v=.slice (some ⟨g1,0,none⟩) 1 1∧Rec.Bk w g1 [.string s.r.m,.string s.r.x,.int .i64 s.r.k,f,.bool s.r.ch,bd,t]]
  [] 4 (some 0) (.act 10 (.quiet 11 (.quiet 12 (.act 13 .done)))) (.quiet 0 (.act 10 (.quiet 11 (.quiet 12 (.act 13 .done))))) (by kernel_rfl) (by kernel_rfl) (by kernel_rfl) (by kernel_rfl) (fun k0 h=>by cases h;kernel_rfl) (fun _ _ d _ _ h=>by cases d<;>exact h) (by rfl) (by rfl)
  ⟨Each.Lasts.eq _,Each.Lasts.eq _,Each.Lasts.eq _,Each.Lasts.eq _,Each.Lasts.eq _,Each.Lasts.eq _,Each.Lasts.eq _,Each.Lasts.eq _,Each.Lasts.eq _,((fun _ _ _ hb h=>by obtain ⟨g1,e1,hB⟩:=h;exact ⟨g1,e1,hB.below hb⟩)),trivial⟩ trivial (by rfl) ?_ ?_ ?_
 ·refine ⟨?_,?_,?_,?_,?_,?_,?_,?_,?_,?_,trivial⟩
  ·refine Each.fine rfl (fun ev w1 hR hb hh=>?_);clear hh;have e0:=hR.old 0 rfl;simp only [qA,qT,qZ,qO] at e0;refine Each.Goes.same ?_;go_simp;try with_reducible rfl
  ·refine Each.fine rfl (fun ev w1 hR hb hh=>?_);clear hh;have e0:=hR.old 0 rfl;simp only [qA,qT,qZ,qO] at e0;refine Each.Goes.same ?_;go_simp;try with_reducible rfl
  ·refine Each.fine rfl (fun ev w1 hR hb hh=>?_);have e3:(ev (.tmp 3)=.pointer (some ⟨g,0,none⟩)):=hh.at 0;clear hh;refine Each.Goes.same ?_;go_simp;try with_reducible rfl
  ·refine Each.fine rfl (fun ev w1 hR hb hh=>?_);have e4:(ev (.tmp 4)=.pointer (some ⟨g,0,none⟩)):=hh.at 0;clear hh;refine Each.Goes.same ?_;go_simp;try with_reducible rfl
  ·refine Each.fine rfl (fun ev w1 hR hb hh=>?_);have e5:(ev (.tmp 5)=.pointer (some ⟨g,26,none⟩)):=hh.at 0;clear hh;have q26:=(HQ.out.below hb).c 26 _ rfl;refine Each.Goes.same ?_;go_simp;try with_reducible rfl
  ·refine Each.fine rfl (fun ev w1 hR hb hh=>?_);clear hh;have e0:=hR.old 0 rfl;simp only [qA,qT,qZ,qO] at e0;refine Each.Goes.same ?_;go_simp;try with_reducible rfl
  ·refine Each.fine rfl (fun ev w1 hR hb hh=>?_);have e7:(ev (.tmp 7)=.pointer (some ⟨g,0,none⟩)):=hh.at 0;clear hh;refine Each.Goes.same ?_;go_simp;try with_reducible rfl
  ·refine Each.fine rfl (fun ev w1 hR hb hh=>?_);have e8:(ev (.tmp 8)=.pointer (some ⟨g,0,none⟩)):=hh.at 0;clear hh;refine Each.Goes.same ?_;go_simp;try with_reducible rfl
  ·refine Each.fine rfl (fun ev w1 hR hb hh=>?_);have e9:(ev (.tmp 9)=.pointer (some ⟨g,13,none⟩)):=hh.at 0;clear hh;have q13:=(HQ.out.below hb).c 13 _ rfl;have q14:=(HQ.out.below hb).c 14 _ rfl;have q15:=(HQ.out.below hb).c 15 _ rfl;have q16:=(HQ.out.below hb).c 16 _ rfl;have q17:=(HQ.out.below hb).c 17 _ rfl;have q18:=(HQ.out.below hb).c 18 _ rfl;have q19:=(HQ.out.below hb).c 19 _ rfl;refine Each.Goes.same ?_;go_simp;try with_reducible rfl
  ·refine Each.fine rfl (fun ev w1 hR hb hh=>?_);have e10:(ev (.tmp 10)=.agg #[.string s.r.m,.string s.r.x,.int .i64 s.r.k,f,.bool s.r.ch,bd,t]):=hh.at 0;clear hh;exact Each.Goes.value (.slice (some ⟨w1.heap.size,0,none⟩) 1 1) (w1.alloc (.cells #[.string s.r.m,.string s.r.x,.int .i64 s.r.k,f,.bool s.r.ch,bd,t] 57)) (by go_simp) ((Below.refl _ _).alloc (Nat.le_refl _) _) ⟨_,rfl,Rec.Bk.new w1 _ rfl 57 [.string s.r.m,.string s.r.x,.int .i64 s.r.k,f,.bool s.r.ch,bd,t]⟩
 ·intro g1 w2 hb hf;have z2:(g1 2=.pointer (some ⟨g,0,none⟩)):=hf.at 0;have z6:(g1 6=o):=hf.at 4;have z11:((fun v w=>∃g1,v=.slice (some ⟨g1,0,none⟩) 1 1∧Rec.Bk w g1 [.string s.r.m,.string s.r.x,.int .i64 s.r.k,f,.bool s.r.ch,bd,t]) (g1 11) w2):=hf.at 9;clear hf;obtain ⟨gl,el,hBl⟩:=z11;simp only [Each.putg,Act.put,qI,qY,qX];rw [z2,z6,el];simp only [Tree.grow,Tree.put1,qZ,qS];have H2:=H.out.below hb;obtain ⟨ps,hps,hfar,hrow⟩:=H2.own.O;obtain ⟨bo,co,eo, -⟩:=Ln.own_slice hrow;subst eo
  obtain ⟨v',w3,hrun,ho,hgr,hor⟩:=App.run_append_list w2 51 51 B 57 iR (.agg #[.string ByteArray.empty,.string ByteArray.empty,.int .i64 0,.slice none 0 0,.bool false,.slice none 0 0,.slice none 0 0]) 7 120 Tryz.underlying51 I1.out I2.out I3.out I4.out rfl (by decide) (.slice bo s.out.length co) s.out.length (ps.flatMap (·.1.toList)) hrow (some ⟨gl,0,none⟩) 1 1 [.string s.r.m,.string s.r.x,.int .i64 s.r.k,f,.bool s.r.ch,bd,t] rfl (fun _=>⟨gl,0,rfl,fun j u hu=>by rw [Nat.zero_add];exact hBl.c j u hu⟩) (by intro u hu;simp only [List.mem_cons,List.not_mem_nil,or_false] at hu;rcases hu with rfl | rfl | rfl | rfl | rfl | rfl | rfl<;>first | rfl | exact one_own H2.own.F | exact one_own H2.own.D | exact one_own H2.own.T) (by have:=HN.out;unfold maxLen;omega) (by have:=HN.out;omega) (Nat.le_trans H2.own.ge (Nat.le_of_lt H2.own.lt));obtain ⟨b9,c9,e9, -⟩:=Ln.own_slice ho;subst e9;have HP:=H2.own.push hgr ps hps hfar ho hor;have hr3:w3.heap[g]?=some (.cells (pcells p b s q f bd t (.slice bo s.out.length co)).toArray 59 (0,0)):=(hgr.block g H2.own.lt (fun e=>H2.own.lone.ne (i:=0) (j:=6) rfl (by decide) (by rw [e];rfl))).trans H2.row
  refine Tree.change (by rfl) (fun K hK=>?_);refine Each.oper_append _ _ _ rfl (by rfl) (by rfl) hrun ?_;refine hK _ _ trivial ?_;clear hK K hrun;simp only [Act.put,qI,qY,qX];refine Tree.quiet (by rfl) (ptr g) (fun _ _=>by go_simp) ?_;simp only [Act.put,qI,qY,qX];refine Tree.quiet (by rfl) (.pointer (some ⟨g,26,none⟩)) (fun _ _=>by go_simp) ?_;simp only [Act.put,qI,qY,qX];have c26:=(Cs.of hr3).c26;have z26:=Ln.row_frozen hr3 26
  refine Tree.change (by rfl) (fun K hK=>?_);go_simp;refine hK _ _ trivial ?_;clear hK K;refine Tree.done ?_
  have hr4:=row_setL hr3 26 (.slice b9 (s.out.length+1) c9)
  have HP4:=HP.set 26 (.slice b9 (s.out.length+1) c9)
  have HS4:=((Step.of_below hb (L:=blks g q v f bd t (.slice bo s.out.length co))).trans (Step.push hgr hor)).trans (Step.set g 26 (.slice b9 (s.out.length+1) c9) (by simp))
  have HNX:=Lib.hid (next_any (s:={s with out:=s.out ++ [s.r]}) hr4 HP4);have HS5:=Lib.hid HS4;clear c26 z26 hr3 hr4 HP HP4 HS4 hgr ho hor hrow hfar hps H2 hBl;generalize w3.setCell ⟨g,26,none⟩ (.slice b9 (s.out.length+1) c9)=W4 at *
  go_wp2_with (go_at_call 36;with_reducible refine HNX.out.mono ?_;rintro r w5 ⟨rfl,q1,hp5,hs5⟩);go_end0;exact ⟨rfl,q1,(.slice b9 (s.out.length+1) c9),hp5,HS5.out.trans hs5⟩
 ·intro k0 hk0 g1 w2 hb hf;cases hk0;have z6:(g1 6=o):=hf.at 4;have z11:((fun v w=>∃g1,v=.slice (some ⟨g1,0,none⟩) 1 1∧Rec.Bk w g1 [.string s.r.m,.string s.r.x,.int .i64 s.r.k,f,.bool s.r.ch,bd,t]) (g1 11) w2):=hf.at 9;clear hf;obtain ⟨gl,el,hBl⟩:=z11;simp only [Each.putg,Act.put,qI,qY,qX];rw [z6,el];simp only [Tree.grow,Tree.put1,qZ,qS];refine Tree.quiet (by rfl) (ptr g) (fun _ _=>by go_simp) ?_;simp only [Act.put,qI,qY,qX];have H2:=H.out.below hb;obtain ⟨ps,hps,hfar,hrow⟩:=H2.own.O;obtain ⟨bo,co,eo, -⟩:=Ln.own_slice hrow;subst eo
  obtain ⟨v',w3,hrun,ho,hgr,hor⟩:=App.run_append_list w2 51 51 B 57 iR (.agg #[.string ByteArray.empty,.string ByteArray.empty,.int .i64 0,.slice none 0 0,.bool false,.slice none 0 0,.slice none 0 0]) 7 120 Tryz.underlying51 I1.out I2.out I3.out I4.out rfl (by decide) (.slice bo s.out.length co) s.out.length (ps.flatMap (·.1.toList)) hrow (some ⟨gl,0,none⟩) 1 1 [.string s.r.m,.string s.r.x,.int .i64 s.r.k,f,.bool s.r.ch,bd,t] rfl (fun _=>⟨gl,0,rfl,fun j u hu=>by rw [Nat.zero_add];exact hBl.c j u hu⟩) (by intro u hu;simp only [List.mem_cons,List.not_mem_nil,or_false] at hu;rcases hu with rfl | rfl | rfl | rfl | rfl | rfl | rfl<;>first | rfl | exact one_own H2.own.F | exact one_own H2.own.D | exact one_own H2.own.T) (by have:=HN.out;unfold maxLen;omega) (by have:=HN.out;omega) (Nat.le_trans H2.own.ge (Nat.le_of_lt H2.own.lt));obtain ⟨b9,c9,e9, -⟩:=Ln.own_slice ho;subst e9;have HP:=H2.own.push hgr ps hps hfar ho hor;have hr3:w3.heap[g]?=some (.cells (pcells p b s q f bd t (.slice bo s.out.length co)).toArray 59 (0,0)):=(hgr.block g H2.own.lt (fun e=>H2.own.lone.ne (i:=0) (j:=6) rfl (by decide) (by rw [e];rfl))).trans H2.row
  refine Tree.change (by rfl) (fun K hK=>?_);refine Each.oper_append _ _ _ rfl (by rfl) (by rfl) hrun ?_;refine hK _ _ trivial ?_;clear hK K hrun;simp only [Act.put,qI,qY,qX];refine Tree.quiet (by rfl) (ptr g) (fun _ _=>by go_simp) ?_;simp only [Act.put,qI,qY,qX];refine Tree.quiet (by rfl) (.pointer (some ⟨g,26,none⟩)) (fun _ _=>by go_simp) ?_;simp only [Act.put,qI,qY,qX];have c26:=(Cs.of hr3).c26;have z26:=Ln.row_frozen hr3 26
  refine Tree.change (by rfl) (fun K hK=>?_);go_simp;refine hK _ _ trivial ?_;clear hK K;refine Tree.done ?_
  have hr4:=row_setL hr3 26 (.slice b9 (s.out.length+1) c9)
  have HP4:=HP.set 26 (.slice b9 (s.out.length+1) c9)
  have HS4:=((Step.of_below hb (L:=blks g q v f bd t (.slice bo s.out.length co))).trans (Step.push hgr hor)).trans (Step.set g 26 (.slice b9 (s.out.length+1) c9) (by simp))
  have HNX:=Lib.hid (next_any (s:={s with out:=s.out ++ [s.r]}) hr4 HP4);have HS5:=Lib.hid HS4;clear c26 z26 hr3 hr4 HP HP4 HS4 hgr ho hor hrow hfar hps H2 hBl;generalize w3.setCell ⟨g,26,none⟩ (.slice b9 (s.out.length+1) c9)=W4 at *
  go_wp2_with (go_at_call 36;with_reducible refine HNX.out.mono ?_;rintro r w5 ⟨rfl,q1,hp5,hs5⟩);go_end0;exact ⟨rfl,q1,(.slice b9 (s.out.length+1) c9),hp5,HS5.out.trans hs5⟩
end code
end Go.Proofs.YtimoakmcelocfaaGreat.Par
namespace Go.Proofs.YtimoakmcelocfaaGreat.Fd
open Go.RowKit Base Txt Tgt
abbrev lineB (f:Fld):ByteArray:=((f.1 ++⟨#[58,32]⟩)++f.2) ++⟨#[13,10]⟩
section code
set_option maxHeartbeats 4000000
set_option maxRecDepth 100000
attribute [local go_sem] Base.some_undef
end code
end Go.Proofs.YtimoakmcelocfaaGreat.Fd
namespace Go.Proofs.YtimoakmcelocfaaGreat.Fd
open Go.RowKit Base Txt Tgt
theorem rjoined_eq (v s:ByteArray):(v ++⟨#[32]⟩)++trim s=ba (joined v.data.toList s.data.toList):=ba_ext (by simp only [joined,ByteArray.data_append,Array.toList_append,List.append_assoc];rfl)
section code
set_option maxHeartbeats 4000000
set_option maxRecDepth 100000
attribute [local go_sem] Base.some_undef
theorem rgoes_any (s:ByteArray) (p:Nat) (hp:p<4294967296) (w:World):Calls Tryz.prog 92 #[.string s,.int .u32 (p:Nat)] w fun e w'=>e=.returned (.bool (goes p s.data.toList))∧w'=w:=by
 have HH:=Lib.hid (fun w=>Qk.rhas_any p hp 13 w);unfold goes;generalize Qk.has p 13=b at *;rcases Nat.eq_zero_or_pos s.size with h0 | h0
 ·obtain rfl:s=E0:=ba_ext (List.length_eq_zero_iff.1 (by rw [len];exact h0));cases b;all_goals
   go_enter Tryz.func92,Tryz.ntmps92
   go_wp2_with (go_at_call 39;with_reducible refine (HH.out _).mono ?_;rintro e w1 ⟨rfl,hw⟩;rw [hw];clear hw);go_ret;exact ⟨by rfl,rfl⟩
 ·have t0:=first_no s h0
  have HB:=Lib.hid (fun w=>Oct.rblank_any (s[0].toNat:Int) w);rw [blank_is] at HB;have e1:(!s.data.toList.isEmpty&&Txt.blank (s.data.toList.headD 0))=Txt.blank s[0]:=by
   have hl:s.data.toList=s[0]::s.data.toList.drop 1:=by
    have hlen:0<s.data.toList.length:=by rw [len];exact h0
    rw [←List.drop_zero (l:=s.data.toList),List.drop_eq_getElem_cons hlen];rfl
   rw [hl];rfl
  rw [e1];clear e1;cases b;all_goals
   go_enter Tryz.func92,Tryz.ntmps92
   go_wp2_with (first
    |(go_at_call 39;with_reducible refine (HH.out _).mono ?_;rintro e w1 ⟨rfl,hw⟩;rw [hw];clear hw)
    |(go_at_call 100;with_reducible refine (HB.out _).mono ?_;rintro e w1 ⟨rfl,hw⟩;rw [hw];clear hw))
   go_ret;exact ⟨by rfl,rfl⟩
theorem rjoin_any (n v s:ByteArray) (w:World) (hs:s.size≤1000000000) (hv:v.size≤1000000000):Calls Tryz.prog 93 #[fv n v,.string s] w fun e w'=>e=.returned (fv n (ba (joined v.data.toList s.data.toList)))∧Below w.heap.size w w':=by
 have HT:=Lib.hid (fun w=>rtrim_any s w (by unfold maxLen;omega));have hT:(trim s).size≤s.size:=trim_size _ _;rw [←rjoined_eq];generalize trim s=T at *;have v1:¬9223372036854775807<v.size+1:=by omega
 have v2:¬9223372036854775807<v.size+1+T.size:=by omega
 go_enter Tryz.func93,Tryz.ntmps93;go_wp2_with fail
 go_region_with (go_at_call 111;with_reducible refine (HT.out _).mono ?_;rintro e w1 ⟨rfl,hw⟩;rw [hw];clear hw);all_goals
  go_wp2;exact bodyPost_ret (v:=fv n ((v ++⟨#[32]⟩)++T)) (by simp [results,Tryz.results93,go_sem]) rfl ⟨rfl,Base.below_drewN (((Below.refl _ _).alloc (Nat.le_refl _) _).alloc (by simp) _) 1⟩
end code
end Go.Proofs.YtimoakmcelocfaaGreat.Fd
namespace Go.Proofs.YtimoakmcelocfaaGreat.Fd
open Go.RowKit Base Txt Tgt
section code
set_option maxHeartbeats 4000000
set_option maxRecDepth 100000
attribute [local go_sem] Base.some_undef
end code
end Go.Proofs.YtimoakmcelocfaaGreat.Fd
namespace Go.Proofs.YtimoakmcelocfaaGreat.Fd
open Go.RowKit Base Txt Tgt
theorem colon_cases (l:List UInt8):((58:UInt8)∉l∧(cutAt 58 l).2.2=false)∨∃j,∃h:j<l.length,l[j]=58∧(58:UInt8)∉l.take j∧(cutAt 58 l).1=l.take j∧(cutAt 58 l).2.1=l.drop (j+1)∧(cutAt 58 l).2.2=true:=by
 rcases cut_cases 58 l with h | ⟨a,r,rfl,h⟩
 ·exact .inl ⟨h,by rw [cutAt_none 58 l h]⟩
 ·refine .inr ⟨a.length,by simp,by simp,by simpa using h,?_,?_,?_⟩
  ·rw [cutAt_app 58 a r h];simp
  ·rw [cutAt_app 58 a r h];simp
  ·rw [cutAt_app 58 a r h]
def nameAt (t:Nat) (w:World):Nat:=match w.cell? ⟨t,0,none⟩ with
 | some (.string b)=>b.size
 | _=>0
theorem nameAt_of {t:Nat} {w:World} {b:ByteArray} (h:w.cell? ⟨t,0,none⟩=some (.string b)):nameAt t w=b.size:=by unfold nameAt;rw [h]
theorem Two.set0 {w0 w:World} {n v N V:ByteArray} {t:Nat} (h:Two w0 n v t N V w) (N':ByteArray):Two w0 n v t N' V (w.setCell ⟨t,0,none⟩ (.string N')):=by
 have h1:=h.k.f.other t 0 (.string N') h.ne
 have hb:=h.k.b.setCell (p:=⟨t,0,none⟩) h.ge (.string N');obtain ⟨c0,c1,z0,z1⟩:=h.f;exact ⟨⟨h1,by simpa using h.k.g,hb⟩,⟨by go_simp,by go_simp,by go_simp,by go_simp⟩,h.ne,by simpa using h.lt,h.ge⟩
theorem not_colon (s:ByteArray) (k:Nat) (h:k<s.size) (j:Nat) (hj:k<j) (hn:(58:UInt8)∉s.data.toList.take j):((s[k].toNat:Int)==58)=false:=by
 refine beq_eq_false_iff_ne.2 fun e=>hn ?_;have hl:k<s.data.toList.length:=by rw [len];exact h
 have e1:s.data.toList[k]=58:=UInt8.toNat_inj.1 (by show s[k].toNat=58;omega);rw [←e1];rw [List.mem_take_iff_getElem];exact ⟨k,by omega,rfl⟩
theorem last_of (n0:List UInt8) (m:Nat) (h:m<n0.length):∃Nn:ByteArray,ba (n0.take (m+1))=Nn∧Nn.size=m+1∧(∃h2:m<Nn.size,Nn[m]=n0[m])∧Nn.extract 0 m=ba (n0.take m):=by
 have hl:(n0.take (m+1)).length=m+1:=by rw [List.length_take];omega
 refine ⟨_,rfl,by rw [Txt.ba_size];exact hl,⟨by rw [Txt.ba_size];omega,?_⟩,?_⟩
 ·show (n0.take (m+1))[m]'(by omega)=n0[m];rw [List.getElem_take]
 ·exact ba_ext (by
   rw [Lib.extract_data];show ((n0.take (m+1)).drop 0).take (m-0)=n0.take m;rw [List.drop_zero,List.take_take]
   congr 1;omega)
section code
set_option maxHeartbeats 4000000
set_option maxRecDepth 100000
attribute [local go_sem] Base.some_undef
theorem rparse_none (s:ByteArray) (p:Nat) (hp:p<4294967296) (w:World) (hs:s.size≤1000000000) (hno:(58:UInt8)∉s.data.toList) :
 Calls Tryz.prog 94 #[.string s,.int .u32 (p:Nat)] w fun e w'=>e=.returned (rv (out (Qk.has p 11)))∧Below w.heap.size w w':=by
 have HH:=Lib.hid (fun w=>Qk.rhas_any p hp 11 w);have HNO:=Lib.hid hno;clear hno;obtain ⟨b,hb⟩:∃b,Qk.has p 11=b:=⟨_,rfl⟩;rw [hb] at HH ⊢;clear hb
 have hW:=Lib.hid (show Below w.heap.size w (w.alloc (.cells #[.string E0,.string E0] 106)) from (Below.refl _ _).alloc (Nat.le_refl _) _);go_enter Tryz.func94,Tryz.ntmps94;go_wp2
 go_loop [7,8] (fun c i=>∃k:Nat,k≤s.size∧c=.int .i64 (-1)∧i=.int .i64 k) (fun _ i=>s.size-(intOf i).toNat)
 case atStart=>exact ⟨0,Nat.zero_le _,rfl,rfl⟩
 case round=>
  obtain ⟨k,hk,rfl,rfl⟩:=hrel;rcases Nat.lt_or_ge k s.size with hlt | hge
  ·have t1:=not_colon s k hlt (k+1) (by omega) (fun h=>HNO.out (List.mem_of_mem_take h));go_wp2;go_round
   case rel=>exact ⟨k+1,by omega,rfl,by go_num⟩
   case measure=>simp [intOf];omega
  ·cases b
   ·go_wp2_with (go_at_call 39;with_reducible refine (HH.out _).mono ?_;rintro e w1 ⟨rfl,hw⟩;rw [hw];clear hw);exact bodyPost_ret (v:=.tuple #[fv E0 E0,.bool false,.int .i64 400]) (by simp [results,Tryz.results94,go_sem]) rfl ⟨rfl,hW.out⟩
   ·go_wp2_with (go_at_call 39;with_reducible refine (HH.out _).mono ?_;rintro e w1 ⟨rfl,hw⟩;rw [hw];clear hw);exact bodyPost_ret (v:=.tuple #[fv E0 E0,.bool false,.int .i64 0]) (by simp [results,Tryz.results94,go_sem]) rfl ⟨rfl,hW.out⟩
theorem rparse_some (s:ByteArray) (p:Nat) (hp:p<4294967296) (w:World) (hs:s.size≤1000000000) (j:Nat) (hj:j<s.size) (hc:s[j]=58) (hno:(58:UInt8)∉s.data.toList.take j) :
 Calls Tryz.prog 94 #[.string s,.int .u32 (p:Nat)] w fun e w'=>e=.returned (rv (read (clOf p) (nameL (clOf p) (s.data.toList.take j)) (trimL Txt.blank (s.data.toList.drop (j+1)))))∧Below w.heap.size w w':=by
 have H9:=Lib.hid (fun w=>Qk.rhas_any p hp 9 w)
 have H10:=Lib.hid (fun w=>Qk.rhas_any p hp 10 w)
 have H12:=Lib.hid (fun w=>Qk.rhas_any p hp 12 w)
 have H14:=Lib.hid (fun w=>Qk.rhas_any p hp 14 w)
 have e1:s.extract 0 j=ba (s.data.toList.take j):=ba_ext (by rw [Lib.extract_data];simp [ba])
 have e2:s.extract (j+1) s.size=ba (s.data.toList.drop (j+1)):=ba_ext (by rw [Lib.extract_data,List.take_of_length_le (by rw [List.length_drop,len];omega)];rfl)
 have HT:=Lib.hid (fun w=>rtrim_any (s.extract (j+1) s.size) w (by unfold maxLen;rw [ByteArray.size_extract];omega));have hT:trim (s.extract (j+1) s.size)=ba (trimL Txt.blank (s.data.toList.drop (j+1))):=by rw [e2];rfl
 rw [hT] at HT
 have hvl:(trimL Txt.blank (s.data.toList.drop (j+1))).length≤s.size:=Nat.le_trans (trimL_length _ _) (by rw [List.length_drop,len];omega);have hnl:(s.data.toList.take j).length=j:=by rw [List.length_take,len];omega
 have E1:=Lib.hid e1;have t0:((s[j].toNat:Int)==58)=true:=by rw [hc];rfl
 have HNC:=Lib.hid (fun k (h:k<s.size) (hk:k<j)=>not_colon s k h j hk hno);clear e1 e2 hT hno hc;generalize s.data.toList.take j=n0 at *;generalize trimL Txt.blank (s.data.toList.drop (j+1))=v1 at *
 have hW:=Lib.hid (show Below w.heap.size w (w.alloc (.cells #[.string E0,.string E0] 106)) from (Below.refl _ _).alloc (Nat.le_refl _) _);obtain ⟨R,hR⟩:∃R,rv (read (clOf p) (nameL (clOf p) n0) v1)=R:=⟨_,rfl⟩;rw [hR];have HR0:=Lib.hid hR;clear hR;go_enter Tryz.func94,Tryz.ntmps94;go_upto_block 0 with fail
 go_cut [7,8] from 10 (fun c i wx=>c=.int .i64 (j:Nat)∧wx=w.alloc (.cells #[.string E0,.string E0] 106))
 case first=>
  go_wp2_with fail
  go_loop [7,8] (fun c i=>(∃k:Nat,k≤j∧c=.int .i64 (-1)∧i=.int .i64 k)∨(c=.int .i64 (j:Nat)∧i=.int .i64 ((j+1:Nat):Int))) (fun _ i=>s.size-(intOf i).toNat)
  case atStart=>exact .inl ⟨0,Nat.zero_le _,rfl,rfl⟩
  case round=>
   rcases hrel with ⟨k,hk,rfl,rfl⟩ | ⟨rfl,rfl⟩
   ·have hlt:k<s.size:=by omega
    rcases Nat.lt_or_ge k j with hkj | hkj
    ·have t1:=HNC.out k hlt hkj;clear t0;go_wp2;go_round
     case rel=>exact .inl ⟨k+1,by omega,rfl,by go_num⟩
     case measure=>simp [intOf];omega
    ·obtain rfl:k=j:=by omega
     go_wp2;go_round
     case rel=>exact .inr ⟨rfl,by go_num⟩
     case measure=>simp [intOf];omega
   ·have q0:¬(j:Int)<0:=by omega
    go_wp2;all_goals
     go_meet
     case rel=>exact ⟨rfl,rfl⟩
 case rest=>
  obtain ⟨rfl,hw0⟩:=hcut;rw [hw0];clear hw0;have q0:¬(j:Int)<0:=by omega
  have q1:(0:Int)≤(j:Int):=by omega
  have q2:(j:Int)≤(s.size:Int):=by omega
  have q3:IntKind.i64.wrap ((j:Int)+1)=((j+1:Nat):Int):=by rw [wrap_in _ (by omega) (by omega)];omega
  have q4:((j+1:Nat):Int)≤(s.size:Int):=by omega
  have q5:(0:Int)≤((j+1:Nat):Int):=by omega
  go_upto_region 11 with fail
  go_cut [9] from 31 (fun f wx=>f=.pointer (some ⟨w.heap.size+1,0,none⟩)∧wx=((w.alloc (.cells #[.string E0,.string E0] 106)).alloc (.cells #[.string (s.extract 0 j),.string (ba v1)] 106)).drew)
  case first=>
   go_region_with (go_at_call 111;with_reducible refine (HT.out _).mono ?_;rintro e w1 ⟨rfl,hw⟩;rw [hw];clear hw);all_goals
    go_wp2_with fail;go_meet
    case rel=>exact ⟨rfl,rfl⟩
  case rest=>
   obtain ⟨rfl,hw0⟩:=hcut;have hts:(w.alloc (.cells #[.string E0,.string E0] 106)).heap.size=w.heap.size+1:=by simp
   have HX:=(Two.new (Keep.new w 106 E0 E0) 106 (s.extract 0 j) (ba v1)).drew 1;rw [hts,E1.out] at HX;rw [E1.out] at hw0
   replace HX:=Lib.hid (show Two w E0 E0 (w.heap.size+1) (ba n0) (ba v1) wc by rw [hw0];exact HX)
   clear hw0 hts hW HT E1 HNC t0 q0 q1 q2 q3 q4 q5;have htz:w.heap.size+1=w.heap.size+1:=rfl;generalize w.heap.size+1=t at *;clear htz;have hnf:∀x,nameL (clOf p) x=if Qk.has p 9=true then trimEnd x else x:=fun _=>rfl
   obtain ⟨sp,hsp⟩:∃sp,Qk.has p 9=sp:=⟨_,rfl⟩;rw [hsp] at H9 hnf;clear hsp;have HNF:=Lib.hid hnf;clear hnf;have hn1l:=nameL_le (clOf p) n0;rw [hnl] at hn1l;go_upto_block 2 with fail
   go_cut [] from 40 (fun wx=>Hid (Two w E0 E0 t (ba (nameL (clOf p) n0)) (ba v1) wx))
   case first=>
    go_wp2_with fail
    go_loopw [] (fun wr=>∃m:Nat,m≤j∧Hid (Two w E0 E0 t (ba (n0.take m)) (ba v1) wr)∧Hid (nameL (clOf p) (n0.take m)=nameL (clOf p) n0)) (fun wr=>nameAt t wr)
    case atStart=>exact ⟨j,Nat.le_refl _,Lib.hid (by rw [List.take_of_length_le (by omega)];exact HX.out),Lib.hid (by rw [List.take_of_length_le (by omega)])⟩
    case round=>
     obtain ⟨m,hm,HY,HR⟩:=hrel;obtain ⟨⟨⟨c0,c1,z0,z1⟩,hg,hbk⟩,⟨d0,d1,y0,y1⟩,hne,hlt,hge⟩:=HY.out;have hna:=nameAt_of d0;clear c0 c1 z0 z1 hg hbk hlt hge;cases sp with
     | false=>
       have HZ:=Lib.hid (show Two w E0 E0 t (ba (nameL (clOf p) n0)) (ba v1) wr by rw [←HR.out,HNF.out,if_neg (by decide)];exact HY.out)
       go_wp2_with (go_at_call 39;with_reducible refine (H9.out _).mono ?_;rintro e w1 ⟨rfl,hw⟩;rw [hw];clear hw);go_meet
       case rel=>exact HZ
     | true=>
       rcases m with _ | m
       ·have HZ:=Lib.hid (show Two w E0 E0 t (ba (nameL (clOf p) n0)) (ba v1) wr by
         rw [←HR.out,HNF.out,if_pos rfl];exact HY.out)
        rw [show ba (n0.take 0)=E0 from rfl] at d0
        go_wp2_with (go_at_call 39;with_reducible refine (H9.out _).mono ?_;rintro e w1 ⟨rfl,hw⟩;rw [hw];clear hw);go_meet
        case rel=>exact HZ
       ·have hml:m<n0.length:=by omega
        have htk:=List.take_succ_eq_append_getElem hml;obtain ⟨Nn,hNn,hsz,⟨z2,hat⟩,hex⟩:=last_of n0 m hml;rw [hNn] at d0 hna
        have hno:=first_no Nn (by omega);have HB:Hid (∀w,Calls Tryz.prog 100 #[.int .u8 (Nn[m].toNat:Int)] w fun e w'=>e=.returned (.bool (Txt.blank n0[m]))∧w'=w):=Lib.hid fun w=>by
         have:=Oct.rblank_any (Nn[m].toNat:Int) w;rw [blank_is] at this
         rwa [show Txt.blank Nn[m]=Txt.blank n0[m] from congrArg _ hat] at this
        have z1:IntKind.i64.wrap ((Nn.size:Int)-1)=(m:Int):=by rw [wrap_in _ (by omega) (by omega)];omega
        have z3:(m:Int)<(Nn.size:Int):=by omega
        have z4:(m:Int)≤(Nn.size:Int):=by omega
        have z5:(0:Int)≤(m:Int):=by omega
        cases hb:Txt.blank n0[m] with
        | false=>
          rw [hb] at HB
          have HZ:=Lib.hid (show Two w E0 E0 t (ba (nameL (clOf p) n0)) (ba v1) wr by rw [←HR.out,HNF.out,if_pos rfl,htk,trimEnd_stop _ _ hb,←htk];exact HY.out)
          clear hb htk HY HR hex hat hNn
          go_wp2_with (first
           |(go_at_call 39;with_reducible refine (H9.out _).mono ?_;rintro e w1 ⟨rfl,hw⟩;rw [hw];clear hw)
           |(go_at_call 100;with_reducible refine (HB.out _).mono ?_;rintro e w1 ⟨rfl,hw⟩;rw [hw];clear hw))
          go_meet
          case rel=>exact HZ
        | true=>
          rw [hb] at HB
          have HY2:=Lib.hid (HY.out.set0 (Nn.extract 0 m))
          have HR2:=Lib.hid (show nameL (clOf p) (n0.take m)=nameL (clOf p) n0 by rw [←HR.out,HNF.out,HNF.out,if_pos rfl,if_pos rfl,htk,trimEnd_snoc _ _ hb])
          have HE:=Lib.hid hex;clear hb htk HY HR hex hat hNn
          go_wp2_with (first
           |(go_at_call 39;with_reducible refine (H9.out _).mono ?_;rintro e w1 ⟨rfl,hw⟩;rw [hw];clear hw)
           |(go_at_call 100;with_reducible refine (HB.out _).mono ?_;rintro e w1 ⟨rfl,hw⟩;rw [hw];clear hw))
          have hd:=HY2.out.f.c0;have hs2:(Nn.extract 0 m).size=m:=by rw [ByteArray.size_extract];omega
          rw [HE.out] at HY2;go_roundw
          case rel=>exact ⟨m,by omega,by first | exact HY2 |(rw [HE.out];exact HY2),HR2⟩
          case measure=>rw [nameAt_of hd,hna];omega
   case rest=>
    clear HX;have HX:=hcut;clear hcut H9 HNF;generalize nameL (clOf p) n0=n1 at *;by_cases hn:n1= []
    ·subst hn;have hRv:R=rv (out (Qk.has p 12)):=by rw [←HR0.out];rfl
     clear HR0;generalize Qk.has p 12=nn at *;obtain ⟨⟨⟨c0,c1,z0,z1⟩,hg,hbk⟩,⟨d0,d1,y0,y1⟩,hne,hlt,hge⟩:=HX.out;obtain ⟨W9,hW9,⟨r0,r1,_,_⟩,hbW⟩:=Fb.put HX.out.k.f HX.out.k.b (Nat.le_refl _) E0 E0;rw [show ba []=E0 from rfl] at d0;clear hg hbk hlt hge;cases nn
     ·go_wp2_with (go_at_call 39;with_reducible refine (H12.out _).mono ?_;rintro e w1 ⟨rfl,hw⟩;rw [hw];clear hw);try rw [hW9]
      exact bodyPost_ret (v:=.tuple #[fv E0 E0,.bool false,.int .i64 400]) (by simp [results,Tryz.results94,go_sem,r0,r1]) rfl ⟨by first | rfl |(rw [hRv];rfl),hbW⟩
     ·go_wp2_with (go_at_call 39;with_reducible refine (H12.out _).mono ?_;rintro e w1 ⟨rfl,hw⟩;rw [hw];clear hw);try rw [hW9]
      exact bodyPost_ret (v:=.tuple #[fv E0 E0,.bool false,.int .i64 0]) (by simp [results,Tryz.results94,go_sem,r0,r1]) rfl ⟨by first | rfl |(rw [hRv];rfl),hbW⟩
    ·have t0:=first_no (ba n1) (ba_pos hn)
     have HN:=Lib.hid (fun w a (hk:Ints w a 1 [1])=>Oct.rall_any (ba n1) a 1 1 [1] w (by rw [Txt.ba_size];unfold maxLen;omega) hk (by decide))
     have HV:=Lib.hid (fun w a (hk:Ints w a 1 [6])=>Oct.rall_any (ba v1) a 1 1 [6] w (by rw [Txt.ba_size];unfold maxLen;omega) hk (by decide));rw [show (ba n1).data.toList=n1 from rfl] at HN;rw [show (ba v1).data.toList=v1 from rfl] at HV;obtain ⟨G,hG⟩:∃G,(!(goodN (clOf p) n1&&goodV (clOf p) v1))=G:=⟨_,rfl⟩
     have HG:=Lib.hid (show G= !((Qk.has p 10||Oct.allOf [1] n1)&&(Qk.has p 14||Oct.allOf [6] v1)) from hG.symm)
     have HRv:=Lib.hid (show R=if G=true then rv none else rv (some (some (n1,v1))) by rw [←HR0.out,←hG];unfold read;rw [if_neg hn];cases (goodN (clOf p) n1&&goodV (clOf p) v1)<;>rfl)
     have HF:Hid (rv (some (some (n1,v1)))=.tuple #[fv (ba n1) (ba v1),.bool true,.int .i64 0]):=Lib.hid rfl;clear hG HR0 hn hnl hvl hn1l H12;generalize ba n1=N1 at *;generalize ba v1=V1 at *;obtain ⟨⟨⟨c0,c1,z0,z1⟩,hg,hbk⟩,⟨d0,d1,y0,y1⟩,hne,hlt,hge⟩:=HX.out;clear hg hbk hlt hge c0 c1 z0 z1;go_upto_region 18 with fail
     go_cut [93] from 72 (fun v wx=>v=.bool G∧Hid (Two w E0 E0 t N1 V1 wx))
     case first=>
      clear HRv HF t0;generalize Qk.has p 10=nb at *;generalize Qk.has p 14=vb at *;generalize Oct.allOf [1] n1=tn at *;generalize Oct.allOf [6] v1=tv at *;have hGG:=HG.out;clear HG;cases nb<;>cases tn<;>cases vb<;>cases tv;all_goals
       obtain rfl:=hGG
       go_wp2_with (first
        |(go_at_call 39;with_reducible refine (H10.out _).mono ?_;rintro e w1 ⟨rfl,hw⟩;rw [hw];clear hw)
        |(go_at_call 39;with_reducible refine (H14.out _).mono ?_;rintro e w1 ⟨rfl,hw⟩;rw [hw];clear hw)
        |(go_at_call 87;(with_reducible refine (HV.out _ _ (Ints.one _ _ rfl _ _)).mono ?_);rintro e w1 ⟨rfl,m,hw⟩
          replace HX:=Lib.hid ((HX.out.step ((Below.refl _ _).alloc (Nat.le_refl _) (.cells #[.int .i64 6] 3))).drew m)
          rw [←hw] at HX;clear hw)
        |(go_at_call 87;(with_reducible refine (HN.out _ _ (Ints.one _ _ rfl _ _)).mono ?_);rintro e w1 ⟨rfl,m,hw⟩
          replace HX:=Lib.hid ((HX.out.step ((Below.refl _ _).alloc (Nat.le_refl _) (.cells #[.int .i64 1] 3))).drew m)
          rw [←hw] at HX;clear hw d0 d1 y0 y1;obtain ⟨d0,d1,y0,y1⟩:=HX.out.f))
       go_meet
       case rel=>exact ⟨by rfl,HX⟩
     case rest=>
      obtain ⟨rfl,HY⟩:=hcut;clear HX HG d0 d1 y0 y1 t0 HN HV H10 H14;obtain ⟨⟨⟨c0,c1,z0,z1⟩,hg,hbk⟩,⟨d0,d1,y0,y1⟩,hne,hlt,hge⟩:=HY.out;clear hg hbk hlt hge;cases G with
      | true=>
        have hRv:=HRv.out;rw [if_pos rfl] at hRv;obtain ⟨W9,hW9,⟨r0,r1,_,_⟩,hbW⟩:=Fb.put HY.out.k.f HY.out.k.b (Nat.le_refl _) E0 E0;go_wp2_with fail;try rw [hW9]
        exact bodyPost_ret (v:=.tuple #[fv E0 E0,.bool false,.int .i64 400]) (by simp [results,Tryz.results94,go_sem,r0,r1]) rfl ⟨by first | rfl |(rw [hRv];rfl),hbW⟩
      | false=>
        have hRv:=HRv.out;rw [if_neg (by decide),HF.out] at hRv;obtain ⟨W9,hW9,⟨r0,r1,_,_⟩,hbW⟩:=Fb.put HY.out.k.f HY.out.k.b (Nat.le_refl _) N1 V1;go_wp2_with fail;try rw [hW9]
        exact bodyPost_ret (v:=.tuple #[fv N1 V1,.bool true,.int .i64 0]) (by simp [results,Tryz.results94,go_sem,r0,r1]) rfl ⟨by first | rfl | rw [hRv],hbW⟩
theorem rparse_any (s:ByteArray) (p:Nat) (hp:p<4294967296) (w:World) (hs:s.size≤1000000000):Calls Tryz.prog 94 #[.string s,.int .u32 (p:Nat)] w fun e w'=>e=.returned (rv (parse (clOf p) s.data.toList))∧Below w.heap.size w w':=by
 rcases colon_cases s.data.toList with ⟨h1,h2⟩ | ⟨j,hj,h1,h2,h3,h4,h5⟩
 ·have:=rparse_none s p hp w hs h1;unfold parse;rw [if_neg (by rw [h2];decide)];exact this
 ·have:=rparse_some s p hp w hs j (by rw [←len];exact hj) h1 h2;unfold parse;rw [if_pos h5,h3,h4];exact this
end code
end Go.Proofs.YtimoakmcelocfaaGreat.Fd
