import Derived.Test.YtdfabddnpgjepaaGreatDoorCzd
set_option linter.unusedSimpArgs false
set_option maxHeartbeats 8000000
set_option maxRecDepth 100000
open Array renaming getD_eq_getD_getElem?→Am
open ByteArray renaming data_append→Bo,empty→Bp,size_append→Br,size_extract→Bs
open Go.Act renaming put→Ab
open Go.Addr renaming add→Ac
open Go.IntKind renaming i64→Z7,u8→Z6,u32→Z5
open Go.Lib renaming extract_data→Di,hid→Dl
open Go.Proofs.Tryz renaming prog→Mm,results91→M4,underlying22→MZ,underlying5→Nr,underlying9→Ns
open Go.RowKit.Below renaming alloc→AB,refl→AE
open Go.Value renaming int→ZE,string→ZD,slice→ZC,bool→ZB,pointer→ZA,agg→Z9,tuple→Z8
open List renaming all_eq_true→D5,append_assoc→D7,drop_eq_getElem_cons→DR,getElem?_cons_succ→Ep,getElem?_cons_zero→Er,getElem?_eq_getElem→Et,getElem?_map→Ew,getElem?_toArray→E6,getElem_mem→EB,length_cons→EP,length_drop→ER,length_eq_zero_iff→ET,length_map→EV,length_nil→EW,length_take→Fc,mem_of_mem_take→Ft,mem_singleton→Fv,nil_append→Fw,replicate→Fz,setIfInBounds_toArray→F4,set_cons_succ→F6,set_cons_zero→F7,take_of_length_le→FF,take_succ_eq_append_getElem→FG
open Nat renaming eq_zero_or_pos→Gg,le_refl→Gi,le_succ→Gj,le_trans→Gl,lt_or_ge→Gp,zero_add→Gy,zero_le→Gz
open Option renaming getD_some→GW
open UInt8 renaming toNat_inj→NI
namespace Go.Proofs.YtdfabddnpgjepaaGreatDoor
open Go.RowKit
open Base renaming below_drewN→Az,below_step→A6,some_undef→A8
open Base.Ints renaming one→CO
open Each renaming Lasts→BE,When→BH,fine_when→BJ,fine→BI,putg→BM,region_all→BO
open Each.Goes renaming enter→BA,same→BC,value→BD
open Each.Lasts renaming eq→BF,when→BG
open Frm renaming clN→Co,hostN→Cv,teN→Cz
open Ln renaming mid→FT
open Oct renaming allOf→GA
open Par.Step renaming of_below→II
open Pg.Q renaming live→Ho,read→Hr
open Qk renaming has→Hs,rhas_any→Hu
open Rec renaming Reads→Ia,R→Hz
open Rec.Bk renaming new→Hw
open Txt renaming blank→NF
namespace Can
open Base Txt Par Pg
def wrR (r:Hz):Hz:=⟨r.m,r.x,1,fieldsR r,decide (r.ts≠ []),r.body,r.ts⟩
def rightV (b:Bd) (r:Hz):Bool:=(Hr 0 b (putR r)).clean&&Rec.all (Hr 0 b (putR r)).out [wrR r]
theorem feed_fits {p:Nat} {b:Bd} (l:List UInt8):∀{x:Q},Flt.Fits x.out->x.Fine b->Flt.Fits (x.feed p b l).out:=by
 induction l with
 | nil=>intro x h _;exact h
 | cons c l ih=>intro x h ok;exact ih (Flt.byte_fits h ok c) (ok.byte c)
theorem fine_of {b:Bd} {x:Q} (h:x.Ok b):x.Fine b:=by cases x<;>exact h
theorem new_out (p:Nat) (b:Bd):(Q.new p b).out= []:=by unfold Q.new;split<;>rfl
theorem read_fits {p:Nat} {b:Bd} (l:List UInt8):Flt.Fits (Hr p b l).out:=feed_fits l (by rw [new_out];intro r hr;cases hr) (fine_of (Q.new_ok p b))
theorem read_few {p:Nat} {b:Bd} (l:List UInt8):(Hr p b l).out.length<=2*l.length:=by have:=Q.feed_out (p:=p) (b:=b) l (Q.new p b);rw [new_out] at this;show (Q.feed p b (Q.new p b) l).out.length<=_;simpa using this
theorem Sm.fit {r:Hz} (h:Sm r):Rec.Fit (wrR r):=by
 obtain ⟨h1,h2⟩:=h.fields;have hm:=h.m;have hx:=h.x;have hb:=h.body;have ht:=h.tl;refine ⟨?_,?_,?_,λf hf=>?_,?_,?_,λf hf=>?_⟩
 ·show r.m.size<=_;omega
 ·show r.x.size<=_;omega
 ·show (fieldsR r).length<=_;omega
 ·have:=h1 f hf;omega
 ·show r.body.length<=_;omega
 ·show r.ts.length<=_;omega
 ·have:=h.ts f hf;omega
theorem said_recs {w:World} {o:Value} {out:List Hz} (h:Said w o out):∃a c,o=.slice a out.length c/\Rec.Recs w a out.length out:=by
 obtain ⟨a,c,e,hc⟩:=h;refine ⟨a,c,e,rfl,λh0=>?_⟩;obtain ⟨bk,e1,hlt,h1⟩:=hc h0;refine ⟨bk,0,e1,hlt,λk hk=>?_⟩;obtain ⟨fa,fc,ba,bc,ta,tc,f1,f2,f3,c0,c1,c2,c3,c4,c5,c6⟩:=h1 k hk;have e2:(out[k]?.getD Rec.r0)=out[k]:=by rw [Et hk];rfl
 rw [e2,Gy];exact ⟨fa,fc,ba,bc,ta,tc,⟨c0,c1,c2,c3,c4,c5,c6⟩,⟨fa,fc,ba,bc,ta,tc,rfl,f1,f2,f3⟩⟩
theorem recs_one {w:World} {V:Value} {r:Hz} (h:Ia w V r) (cs:Array Value) (hc:V=Z9 cs) (t:TypeId):Rec.Recs (w.alloc (.cells cs t)) (some ⟨w.heap.size,0,none⟩) 1 [r]:=by
 subst hc;have hB:=Hw w w.heap.size rfl t cs.toList;rw [Array.toArray_toList] at hB
 have:=Rec.Recs.lit (w:=w.alloc (.cells cs t)) (g:=w.heap.size) [(cs,r)] (by simpa using hB) (by
  intro p hp;rw [Fv.1 hp]
  exact h.below ((AE _ _).alloc (Gi _) _))
 simpa using this
theorem bts_of_buf {w:World} {B:Nat} {v:Value} {xs:List UInt8} (h:By.Buf w B v xs):∃a c,v=.slice a xs.length c/\Bts [] w a xs:=by
 obtain ⟨g,cap,rfl,h1,h2,h3,h4,h5⟩:=h;refine ⟨_,cap,rfl,⟨⟨ZW,λh0=>⟨g,0,rfl,h2,λk hk=>?_⟩⟩,λad e=>?_⟩⟩
 ·rw [Gy,h4 k hk,Ew,Et hk];rfl
 ·obtain rfl:ad=⟨g,0,none⟩:=by simpa using e.symm
  exact ⟨λhm=>(by cases hm),h2⟩
def BtsF (l:List UInt8):Each.Fact:=λv w=>∃a c,v=.slice a l.length c/\Bts [] w a l
theorem BtsF.lasts {l:List UInt8}:BE (BtsF l):=λ_ _ _ hb ⟨a,c,e,h⟩=>⟨a,c,e,h.step (II hb)⟩
def SaidF (out:List Hz):Each.Fact:=λv w=>Said w v out
theorem SaidF.lasts {out:List Hz}:BE (SaidF out):=λ_ _ _ hb h=>Said.below h hb
def TupF (e:Nat) (cl:Bool) (out:List Hz):Each.Fact:=λv w=>∃o,v=Z8 #[o,ZE Z7 (e:Int),ZB cl]/\Said w o out
theorem TupF.lasts {e:Nat} {cl:Bool} {out:List Hz}:BE (TupF e cl out):=λ_ _ _ hb ⟨o,h1,h2⟩=>⟨o,h1,h2.below hb⟩
section
attribute [local go_sem] A8
theorem written_any (V:Value) (r:Hz) (w:World) (h:Ia w V r) (hs:Sm r):Calls Mm 105 #[V] w λe w'=>∃cs,e=.returned (Z9 cs)/\cs.size=7/\Ia w' (Z9 cs) (wrR r)/\Below w.heap.size w w':=by
 obtain ⟨fa,fc,ba,bc,ta,tc,rfl,h1,h2,h3⟩:=h;have hR0:∀wk,Below w.heap.size w wk->Ia wk (Z9 #[ZD r.m,ZD r.x,ZE Z7 1,.slice fa r.fs.length fc,ZB r.ch,.slice ba r.body.length bc,.slice ta r.ts.length tc]) {r with k:=1}:=λwk hb=>⟨fa,fc,ba,bc,ta,tc,rfl,h1.below hb,h2.below hb,h3.below hb⟩;have HF:=Dl λwk hb=>fields_any _ {r with k:=1} wk (hR0 wk hb) (by have:=hs.fl;show r.fs.length<=_;omega) (λf hf=>by have:=hs.fs f hf;omega) (by have:=hs.body;show r.body.length<=_;omega);have HC:Hid (∀wk fa3 fc3,Below w.heap.size w wk->Flds wk fa3 (fieldsV r.m r.fs r.body r.ts).length (fieldsV r.m r.fs r.body r.ts)->Calls Mm 59 #[Z9 #[ZD r.m,ZD r.x,ZE Z7 1,.slice fa3 (fieldsV r.m r.fs r.body r.ts).length fc3,ZB r.ch,.slice ba r.body.length bc,.slice ta r.ts.length tc]] wk λe w'=>e=.returned (ZB (decide (r.ts≠ [])))/\Below wk.heap.size wk w'):=
  Dl λwk fa3 fc3 hb hf=>chunked_any _ {r with k:=1,fs:=fieldsV r.m r.fs r.body r.ts} wk ⟨fa3,fc3,ba,bc,ta,tc,rfl,hf,h2.below hb,h3.below hb⟩
 have HE:Hid (∀wk fa3 fc3 C,C=decide (r.ts≠ [])->Below w.heap.size w wk->Flds wk fa3 (fieldsV r.m r.fs r.body r.ts).length (fieldsV r.m r.fs r.body r.ts)->Ia wk (Z9 #[ZD r.m,ZD r.x,ZE Z7 1,.slice fa3 (fieldsV r.m r.fs r.body r.ts).length fc3,ZB C,.slice ba r.body.length bc,.slice ta r.ts.length tc]) (wrR r)):=
  Dl λwk fa3 fc3 C hC hb hf=>⟨fa3,fc3,ba,bc,ta,tc,by rw [hC];rfl,hf,h2.below hb,h3.below hb⟩
 have hb0:=Dl (((AE _ _).alloc (Gi _) (.cells #[ZD r.m,ZD r.x,ZE Z7 r.k,.slice fa r.fs.length fc,ZB r.ch,.slice ba r.body.length bc,.slice ta r.ts.length tc] 58)).alloc ZW (.cells #[ZD ⟨#[]⟩,ZD ⟨#[]⟩,ZE Z7 0,ZC none 0 0,ZB false,ZC none 0 0,ZC none 0 0] 58):Below w.heap.size w _)
 have HA:=Dl ((Hw w w.heap.size rfl 58 [ZD r.m,ZD r.x,ZE Z7 r.k,.slice fa r.fs.length fc,ZB r.ch,.slice ba r.body.length bc,.slice ta r.ts.length tc]).alloc (.cells #[ZD ⟨#[]⟩,ZD ⟨#[]⟩,ZE Z7 0,ZC none 0 0,ZB false,ZC none 0 0,ZC none 0 0] 58));have HZ:=Dl (Hw (w.alloc (.cells #[ZD r.m,ZD r.x,ZE Z7 r.k,.slice fa r.fs.length fc,ZB r.ch,.slice ba r.body.length bc,.slice ta r.ts.length tc] 58)) (w.heap.size+1) ZW 58 [ZD ⟨#[]⟩,ZD ⟨#[]⟩,ZE Z7 0,ZC none 0 0,ZB false,ZC none 0 0,ZC none 0 0]);have hsz:((w.alloc (.cells #[ZD r.m,ZD r.x,ZE Z7 r.k,.slice fa r.fs.length fc,ZB r.ch,.slice ba r.body.length bc,.slice ta r.ts.length tc] 58)).alloc (.cells #[ZD ⟨#[]⟩,ZD ⟨#[]⟩,ZE Z7 0,ZC none 0 0,ZB false,ZC none 0 0,ZC none 0 0] 58)).heap.size=w.heap.size+2:=ZW;obtain ⟨C,hC⟩:∃C,decide (r.ts≠ [])=C:=⟨_,rfl⟩;rw [hC] at HC HE;clear hC hR0 h1 h2 h3 hs;go_enter Tryz.func105,Tryz.ntmps105;go_upto_region 1 with fail
 generalize (w.alloc (.cells #[ZD r.m,ZD r.x,ZE Z7 r.k,.slice fa r.fs.length fc,ZB r.ch,.slice ba r.body.length bc,.slice ta r.ts.length tc] 58)).alloc (.cells #[ZD ⟨#[]⟩,ZD ⟨#[]⟩,ZE Z7 0,ZC none 0 0,ZB false,ZC none 0 0,ZC none 0 0] 58)=W at *;have HB0:=hb0;have HA0:=HA;have HZ0:=HZ;clear HA HZ hb0;have q2:=HA0.out.c 2 _ rfl;have z2:=HA0.out.z 2 ZW;go_upto_region 2 with fail
 have HA1:=Dl (HA0.out.set 2 (ZE Z7 1) ZW)
 have HZ1:=Dl (HZ0.out.other w.heap.size 2 (ZE Z7 1) ZZ);have HB1:=Dl (show Below w.heap.size w (W.setCell ⟨w.heap.size,2,none⟩ (ZE Z7 1)) from HB0.out.setCell (Gi _) _);have hs1:(W.setCell ⟨w.heap.size,2,none⟩ (ZE Z7 1)).heap.size=w.heap.size+2:=by simp [hsz]
 clear q2 z2 HB0 HA0 HZ0 hsz;generalize W.setCell ⟨w.heap.size,2,none⟩ (ZE Z7 1)=W1 at *;have q0:=HA1.out.c 0 _ rfl;have q1:=HA1.out.c 1 _ rfl;have q2:=HA1.out.c 2 _ rfl;have q3:=HA1.out.c 3 _ rfl;have q4:=HA1.out.c 4 _ rfl;have q5:=HA1.out.c 5 _ rfl;have q6:=HA1.out.c 6 _ rfl;go_upto_region 3 with
  (go_at_call 57;with_reducible refine (HF.out _ HB1.out).mono ?_;rintro e w2 ⟨fa3,fc3,rfl,hf2,hb2,ho2⟩
   have HF2:=Dl hf2;have HO2:=Dl ho2;have HX2:=Dl hb2;have HA2:=Dl (HA1.out.below hb2);have HZ2:=Dl (HZ1.out.below hb2);clear q0 q1 q2 q3 q4 q5 q6;have q3:=HA2.out.c 3 _ rfl;have z3:=HA2.out.z 3 ZW;clear hf2 ho2 hb2)
 have hlo:∀g,(Value.slice fa3 (fieldsV r.m r.fs r.body r.ts).length fc3).ownBlock=some g->w.heap.size+2<=g/\g<w2.heap.size:=λg hg=>by have:=(HO2.out.lt g hg);rw [hs1] at this;exact this
 have HLO:=Dl hlo
 have HA3:=Dl (HA2.out.set 3 (.slice fa3 (fieldsV r.m r.fs r.body r.ts).length fc3) ZW)
 have HZ3:=Dl (HZ2.out.other w.heap.size 3 (.slice fa3 (fieldsV r.m r.fs r.body r.ts).length fc3) ZZ)
 have HB3:=Dl (show Below w.heap.size w (w2.setCell ⟨w.heap.size,3,none⟩ (.slice fa3 (fieldsV r.m r.fs r.body r.ts).length fc3)) from (A6 HB1.out HX2.out).setCell (Gi _) _);have HO3:=Dl (ownsRow_setCell_other HO2.out (a:=⟨w.heap.size,3,none⟩) (λe=>by have:=hlo _ e;simp only at this;omega) (.slice fa3 (fieldsV r.m r.fs r.body r.ts).length fc3));clear q3 z3 HA2 HZ2 HO2 HF2 HX2 HA1 HZ1 HB1 hs1 hlo;generalize w2.setCell ⟨w.heap.size,3,none⟩ (.slice fa3 (fieldsV r.m r.fs r.body r.ts).length fc3)=W3 at *;have HF3:Hid (∀wk:World,wk.ownsRow W1.heap.size 126 2 (.slice fa3 (fieldsV r.m r.fs r.body r.ts).length fc3) (fieldsV r.m r.fs r.body r.ts).length (cells (fieldsV r.m r.fs r.body r.ts))->Flds wk fa3 (fieldsV r.m r.fs r.body r.ts).length (fieldsV r.m r.fs r.body r.ts)):=Dl λwk ho=>by obtain ⟨A,c,e,hf⟩:=Flds.of_own ho;simp only [Value.slice.injEq,true_and] at e;obtain ⟨rfl, -⟩:=e;exact hf
 have q0:=HA3.out.c 0 _ rfl;have q1:=HA3.out.c 1 _ rfl;have q2:=HA3.out.c 2 _ rfl;have q3:=HA3.out.c 3 _ rfl;have q4:=HA3.out.c 4 _ rfl;have q5:=HA3.out.c 5 _ rfl;have q6:=HA3.out.c 6 _ rfl;go_upto_region 4 with
  (go_at_call 59;with_reducible refine (HC.out _ _ _ HB3.out (HF3.out _ HO3.out)).mono ?_;rintro e w4 ⟨rfl,hb4⟩
   have HX4:=Dl hb4;have HA4:=Dl (HA3.out.below hb4);have HZ4:=Dl (HZ3.out.below hb4);clear q0 q1 q2 q3 q4 q5 q6;have q4:=HA4.out.c 4 _ rfl;have z4:=HA4.out.z 4 ZW;clear hb4)
 have HA5:=Dl (HA4.out.set 4 (ZB C) ZW)
 have HZ5:=Dl (HZ4.out.other w.heap.size 4 (ZB C) ZZ)
 have HB5:=Dl (show Below w.heap.size w (w4.setCell ⟨w.heap.size,4,none⟩ (ZB C)) from (A6 HB3.out HX4.out).setCell (Gi _) _);have HO5:=Dl (ownsRow_setCell_other (own_below HO3.out HX4.out) (a:=⟨w.heap.size,4,none⟩) (λe=>by have:=HLO.out _ e;simp only at this;omega) (ZB C));clear q4 z4 HA4 HZ4 HO3 HX4 HA3 HZ3 HB3;generalize w4.setCell ⟨w.heap.size,4,none⟩ (ZB C)=W5 at *;have q0:=HA5.out.c 0 _ rfl;have q1:=HA5.out.c 1 _ rfl;have q2:=HA5.out.c 2 _ rfl;have q3:=HA5.out.c 3 _ rfl;have q4:=HA5.out.c 4 _ rfl;have q5:=HA5.out.c 5 _ rfl;have q6:=HA5.out.c 6 _ rfl;have p0:=HZ5.out.z 0 ZW;have p1:=HZ5.out.z 1 ZW;have p2:=HZ5.out.z 2 ZW;have p3:=HZ5.out.z 3 ZW;have p4:=HZ5.out.z 4 ZW;have p5:=HZ5.out.z 5 ZW;have p6:=HZ5.out.z 6 ZW;have y0:=HZ5.out.c 0 _ rfl;have y1:=HZ5.out.c 1 _ rfl;have y2:=HZ5.out.c 2 _ rfl;have y3:=HZ5.out.c 3 _ rfl;have y4:=HZ5.out.c 4 _ rfl;have y5:=HZ5.out.c 5 _ rfl;have y6:=HZ5.out.c 6 _ rfl;go_wp2_with fail;obtain ⟨X,hX,hBX,hbX,hsX,hoX, -⟩:=Rec.put7 HZ5.out ZW HB5.out (Gj _) (ZD r.m) (ZD r.x) (ZE Z7 1) (.slice fa3 (fieldsV r.m r.fs r.body r.ts).length fc3) (ZB C) (.slice ba r.body.length bc) (.slice ta r.ts.length tc);rw [hX];have d0:=hBX.c 0 _ rfl;have d1:=hBX.c 1 _ rfl;have d2:=hBX.c 2 _ rfl;have d3:=hBX.c 3 _ rfl;have d4:=hBX.c 4 _ rfl;have d5:=hBX.c 5 _ rfl;have d6:=hBX.c 6 _ rfl;refine ZF (v:=Z9 #[ZD r.m,ZD r.x,ZE Z7 1,.slice fa3 (fieldsV r.m r.fs r.body r.ts).length fc3,ZB C,.slice ba r.body.length bc,.slice ta r.ts.length tc]) (by simp [results,Tryz.results105,go_sem,d0,d1,d2,d3,d4,d5,d6]) rfl ⟨_,rfl,rfl,?_,hbX⟩
 exact HE.out _ _ _ _ rfl hbX (HF3.out _ (hoX _ _ _ _ _ _ HO5.out (λe=>by have:=HLO.out _ e;omega)))
theorem XXb7D {P:Prop} (h:P:=by refine BI rfl (λev w1 hR hb hh=>?_);have e3:=hR.old 3 rfl;have e2:=hR.old 2 rfl;simp only [Am,E6,Ep,Er,GW] at e3 e2;have q0:=(HB0.out.below hb).c 0 _ rfl;have q1:=(HB0.out.below hb).c 1 _ rfl;have q2:=(HB0.out.below hb).c 2 _ rfl;have q3:=(HB0.out.below hb).c 3 _ rfl;have q4:=(HB0.out.below hb).c 4 _ rfl;have q5:=(HB0.out.below hb).c 5 _ rfl;have q6:=(HB0.out.below hb).c 6 _ rfl;have q7:=(HB0.out.below hb).c 7 _ rfl;have q8:=(HB0.out.below hb).c 8 _ rfl;have q9:=(HB0.out.below hb).c 9 _ rfl;have q0:=(HR0.out.below hb).c 0 _ rfl;have q1:=(HR0.out.below hb).c 1 _ rfl;have q2:=(HR0.out.below hb).c 2 _ rfl;have q3:=(HR0.out.below hb).c 3 _ rfl;have q4:=(HR0.out.below hb).c 4 _ rfl;have q5:=(HR0.out.below hb).c 5 _ rfl;have q6:=(HR0.out.below hb).c 6 _ rfl;exact Each.std):P:=h
theorem right_any (V:Value) (r:Hz) (b:Bd) (w:World) (h:Ia w V r) (hs:Sm r):Calls Mm 61 #[V,Z9 #[ZE Z7 b.x0,ZE Z7 b.x1,ZE Z7 b.x2,ZE Z7 b.x3,ZE Z7 b.x4,ZE Z7 b.x5,ZE Z7 b.x6,ZE Z7 b.x7,ZB b.ch,ZB b.od]] w λe w'=>e=.returned (ZB (rightV b r))/\Below w.heap.size w w':=by
 obtain ⟨fa,fc,ba,bc,ta,tc,rfl,h1,h2,h3⟩:=h;have hR:Ia w (Z9 #[ZD r.m,ZD r.x,ZE Z7 r.k,.slice fa r.fs.length fc,ZB r.ch,.slice ba r.body.length bc,.slice ta r.ts.length tc]) r:=⟨fa,fc,ba,bc,ta,tc,rfl,h1,h2,h3⟩;clear h1 h2 h3;have HP:=Dl λwk hb=>put_any _ r wk (hR.below (w':=wk) hb) hs;have HWR:=Dl λwk hb=>written_any _ r wk (hR.below (w':=wk) hb) hs;obtain ⟨E,hE⟩:∃E,(Hr 0 b (putR r)).err=E:=⟨_,rfl⟩;obtain ⟨CL,hC⟩:∃CL,(Hr 0 b (putR r)).clean=CL:=⟨_,rfl⟩;obtain ⟨OUT,hO⟩:∃OUT,(Hr 0 b (putR r)).out=OUT:=⟨_,rfl⟩
 have HFI:Hid (∀r∈OUT,Rec.Fit r):=Dl (by rw [←hO];exact read_fits _)
 have HFW:Hid (OUT.length<=1000000000/\Rec.Fit (wrR r)):=Dl ⟨by
  have:=read_few (p:=0) (b:=b) (putR r);rw [hO] at this;have:=hs.put
  omega,hs.fit⟩
 have HRD:Hid (∀w1 a c,Bts [] w1 a (putR r)->Calls Mm 63 #[ZE Z5 0,Z9 #[ZE Z7 b.x0,ZE Z7 b.x1,ZE Z7 b.x2,ZE Z7 b.x3,ZE Z7 b.x4,ZE Z7 b.x5,ZE Z7 b.x6,ZE Z7 b.x7,ZB b.ch,ZB b.od],.slice a (putR r).length c] w1 λe w2=>∃o,e=.returned (Z8 #[o,ZE Z7 (E:Int),ZB CL])/\Said w2 o OUT/\Below w1.heap.size w1 w2):=
  Dl λw1 a c hl=>read_said (p:=0) ZX b w1 a c _ hl (by have:=hs.put;omega) E CL OUT hE hC hO
 unfold rightV;rw [hC,hO];clear hE hC hO hs hR;have hb0:Below w.heap.size w ((w.alloc (.cells #[ZD r.m,ZD r.x,ZE Z7 r.k,.slice fa r.fs.length fc,ZB r.ch,.slice ba r.body.length bc,.slice ta r.ts.length tc] 58)).alloc (.cells #[ZE Z7 b.x0,ZE Z7 b.x1,ZE Z7 b.x2,ZE Z7 b.x3,ZE Z7 b.x4,ZE Z7 b.x5,ZE Z7 b.x6,ZE Z7 b.x7,ZB b.ch,ZB b.od] 29)):=((AE _ _).alloc (Gi _) _).alloc ZW _
 have HA:=Dl (((Hw w w.heap.size rfl 58 [ZD r.m,ZD r.x,ZE Z7 r.k,.slice fa r.fs.length fc,ZB r.ch,.slice ba r.body.length bc,.slice ta r.ts.length tc]).alloc (.cells #[ZE Z7 b.x0,ZE Z7 b.x1,ZE Z7 b.x2,ZE Z7 b.x3,ZE Z7 b.x4,ZE Z7 b.x5,ZE Z7 b.x6,ZE Z7 b.x7,ZB b.ch,ZB b.od] 29)).drew 1)
 have HZ:=Dl ((Hw (w.alloc (.cells #[ZD r.m,ZD r.x,ZE Z7 r.k,.slice fa r.fs.length fc,ZB r.ch,.slice ba r.body.length bc,.slice ta r.ts.length tc] 58)) (w.heap.size+1) ZW 29 [ZE Z7 b.x0,ZE Z7 b.x1,ZE Z7 b.x2,ZE Z7 b.x3,ZE Z7 b.x4,ZE Z7 b.x5,ZE Z7 b.x6,ZE Z7 b.x7,ZB b.ch,ZB b.od]).drew 1);have HW:=Dl (Az hb0 1);have HW0:=Dl hb0;have HA0:=Dl ((Hw w w.heap.size rfl 58 [ZD r.m,ZD r.x,ZE Z7 r.k,.slice fa r.fs.length fc,ZB r.ch,.slice ba r.body.length bc,.slice ta r.ts.length tc]).alloc (.cells #[ZE Z7 b.x0,ZE Z7 b.x1,ZE Z7 b.x2,ZE Z7 b.x3,ZE Z7 b.x4,ZE Z7 b.x5,ZE Z7 b.x6,ZE Z7 b.x7,ZB b.ch,ZB b.od] 29));clear hb0;go_enter Tryz.func61,Tryz.ntmps61;go_upto_region 1 with fail
 generalize (w.alloc (.cells #[ZD r.m,ZD r.x,ZE Z7 r.k,.slice fa r.fs.length fc,ZB r.ch,.slice ba r.body.length bc,.slice ta r.ts.length tc] 58)).alloc (.cells #[ZE Z7 b.x0,ZE Z7 b.x1,ZE Z7 b.x2,ZE Z7 b.x3,ZE Z7 b.x4,ZE Z7 b.x5,ZE Z7 b.x6,ZE Z7 b.x7,ZB b.ch,ZB b.od] 29)=W at *;have HR0:=HA;have HB0:=HZ;clear HA HZ;refine BO 11 [9,10,11,12,8,13,14,15,5,6,7] [eQ (Z9 #[ZE Z7 b.x0,ZE Z7 b.x1,ZE Z7 b.x2,ZE Z7 b.x3,ZE Z7 b.x4,ZE Z7 b.x5,ZE Z7 b.x6,ZE Z7 b.x7,ZB b.ch,ZB b.od]),eQ (Z9 #[ZD r.m,ZD r.x,ZE Z7 r.k,.slice fa r.fs.length fc,ZB r.ch,.slice ba r.body.length bc,.slice ta r.ts.length tc]),BtsF (putR r),TupF E CL OUT,TupF E CL OUT,SaidF OUT,eQ (ZE Z7 (E:Int)),eQ (ZB CL),SaidF OUT,eQ (ZE Z7 (E:Int)),eQ (ZB CL)] ZY ZY ZY ZY (λ_ _ d _ _ h=>by cases d<;>exact h) ZV ZV ⟨BF _,BF _,(BtsF.lasts),(TupF.lasts),(TupF.lasts),(SaidF.lasts),BF _,BF _,(SaidF.lasts),BF _,BF _,trivial⟩ ?_ ?_
 ·refine ⟨?_,?_,?_,?_,?_,?_,?_,?_,?_,?_,?_,trivial⟩
  iterate 2·exact XXb7D
  ·refine BI rfl (λev w1 hR hb hh=>?_);have e10:ev (.tmp 10)= _:=hh.at 0;clear hh;have ef:=hR.func;refine BA 54 #[Z9 #[ZD r.m,ZD r.x,ZE Z7 r.k,.slice fa r.fs.length fc,ZB r.ch,.slice ba r.body.length bc,.slice ta r.ts.length tc]] ZU ((HP.out w1 (A6 HW.out hb)).mono ?_);rintro e w2 ⟨v,rfl,hr,h2⟩;exact ⟨_,rfl,h2,bts_of_buf hr⟩
  ·refine BI rfl (λev w1 hR hb hh=>?_);have e9:ev (.tmp 9)= _:=hh.at 0;have e11:((BtsF (putR r)) (ev (.tmp 11)) w1):=hh.at 1;clear hh;have ec:=hR.const;have ef:=hR.func;obtain ⟨a,c,e11x,hbt⟩:=e11;refine BA 63 #[ZE Z5 0,Z9 #[ZE Z7 b.x0,ZE Z7 b.x1,ZE Z7 b.x2,ZE Z7 b.x3,ZE Z7 b.x4,ZE Z7 b.x5,ZE Z7 b.x6,ZE Z7 b.x7,ZB b.ch,ZB b.od],.slice a (putR r).length c] ZU ((HRD.out w1 a c hbt).mono ?_);rintro e w2 ⟨o,rfl,hs,h2⟩;exact ⟨_,rfl,h2,⟨o,rfl,hs⟩⟩
  ·refine BI rfl (λev w1 hR hb hh=>?_);have e12:((TupF E CL OUT) (ev (.tmp 12)) w1):=hh.at 0;clear hh;exact BD (ev (.tmp 12)) w1 ZU (AE _ _) e12
  ·refine BI rfl (λev w1 hR hb hh=>?_);have e8:((TupF E CL OUT) (ev (.tmp 8)) w1):=hh.at 0;clear hh;obtain ⟨o,e8x,hs⟩:=e8;exact BD o w1 ZU (AE _ _) hs
  ·refine BI rfl (λev w1 hR hb hh=>?_);have e8:((TupF E CL OUT) (ev (.tmp 8)) w1):=hh.at 0;clear hh;obtain ⟨o,e8x,hs⟩:=e8;exact XXqTe
  ·refine BI rfl (λev w1 hR hb hh=>?_);have e8:((TupF E CL OUT) (ev (.tmp 8)) w1):=hh.at 0;clear hh;obtain ⟨o,e8x,hs⟩:=e8;exact XXqTe
  ·refine BI rfl (λev w1 hR hb hh=>?_);have e13:((SaidF OUT) (ev (.tmp 13)) w1):=hh.at 0;clear hh;exact BD (ev (.tmp 13)) w1 ZU (AE _ _) e13
  iterate 2·exact XXb7D
 intro g1 w2 hb2 hf;have z5:((SaidF OUT) (g1 5) w2):=hf.at 8;have z6:g1 6= _:=hf.at 9;have z7:g1 7= _:=hf.at 10;clear hf;simp only [BM,Ab,F4,F7,F6];rw [z6];rw [z7];obtain ⟨a5,c5,e5,hrc⟩:=said_recs z5;rw [e5];have HRC:=Dl hrc
 have HB2:=Dl (A6 HW0.out hb2);have HA2:=Dl (HA0.out.below hb2);clear z5 hrc hb2 HW HW0 HA0 HB0 HR0 HP HRD e5;cases CL with
 | false=>
   go_wp2_with fail;go_ret;exact ⟨ZW,HB2.out⟩
 | true=>
   have q0:=HA2.out.c 0 _ rfl;have q1:=HA2.out.c 1 _ rfl;have q2:=HA2.out.c 2 _ rfl;have q3:=HA2.out.c 3 _ rfl;have q4:=HA2.out.c 4 _ rfl;have q5:=HA2.out.c 5 _ rfl;have q6:=HA2.out.c 6 _ rfl
   go_wp2_with (first
    |(go_at_call 104;with_reducible refine HALL.out.mono ?_;rintro e w6 ⟨rfl,hb6⟩
      have HB6:=Dl (A6 (HB5.out.alloc HB5.out.size _) hb6);clear hb6)
    |(go_at_call 105;with_reducible refine (HWR.out _ HB2.out).mono ?_;rintro e w5 ⟨cs,rfl,hsz,hrd,hb5⟩
      obtain ⟨fa5,fc5,ba5,bc5,ta5,tc5,h5e,g1,g2,g3⟩:=hrd;obtain rfl:=Value.agg.inj h5e
      have HB5:=Dl (A6 HB2.out hb5);have HALL:=Dl (Rec.all_any a5 _ c5 OUT _ 1 1 [wrR r] _ ((HRC.out.below hb5).below ((AE _ _).alloc (Gi _) _)) (recs_one (w:=w5) ⟨fa5,fc5,ba5,bc5,ta5,tc5,rfl,g1,g2,g3⟩ _ rfl 58) HFW.out.1 ZX HFI.out (by intro x hx;rw [Fv.1 hx];exact HFW.out.2));clear hb5 h5e g1 g2 g3 hsz q0 q1 q2 q3 q4 q5 q6))
   go_ret;exact ⟨ZW,HB6.out⟩
end
end Can
namespace Can
open Base Txt Par Pg
theorem wo_again (l:List Fld) (ns:List ByteArray):without (without l ns) ns=without l ns:=by
 unfold without;rw [List.filter_filter]
 congr 1
 funext f
 rw [Bool.and_self]
theorem wo_host (fs:List Fld):without (hostA (without fs [Co,Cz])) [Co,Cz]=hostA (without fs [Co,Cz]):=by
 have h:=wo_again fs [Co,Cz];unfold hostA;split
 ·have e:∀l:List Fld,without ((Cv,localV)::l) [Co,Cz]=(Cv,localV)::without l [Co,Cz]:=λl=>by
   unfold without;rw [List.filter_cons,ZN ZR]
  rw [e,h]
 ·exact h
theorem host_ne (l:List Fld):find (hostA l) Cv≠ []:=by
 unfold hostA;split
 ·have e:find ((Cv,localV)::l) Cv=localV::find l Cv:=by
   unfold find;rw [List.filter_cons,ZN ZR];rfl
  rw [e];simp
 ·assumption
theorem host_id (l:List Fld):hostA (hostA l)=hostA l:=by have h:=host_ne l;generalize hostA l=k at h ⊢;unfold hostA;rw [if_neg h]
theorem wo_last (l:List Fld) (f:Fld) (h:one [Co,Cz] f.1=true):without (l ++ [f]) [Co,Cz]=without l [Co,Cz]:=by unfold without;rw [List.filter_append,List.filter_cons,h];simp
theorem fields_again (m:ByteArray) (fs ts:List Fld) (body:List UInt8):fieldsV m (fieldsV m fs body ts) body ts=fieldsV m fs body ts:=by
 have key:hostA (without (fieldsV m fs body ts) [Co,Cz])=hostA (without fs [Co,Cz]):=by
  unfold fieldsV;split
  ·rw [wo_last _ _ ZR,wo_host,host_id]
  ·split
   ·have e:one [Co,Cz] Co=true:=by decide +kernel
    rw [wo_last _ _ e,wo_host,host_id]
   ·rw [wo_host,host_id]
 generalize hk:fieldsV m fs body ts=g at key;unfold fieldsV;rw [key,←hk];rfl
theorem put_again (m x body:List UInt8) (fs ts:List Fld):putV m x (fieldsV (ba m) fs body ts) body ts=putV m x fs body ts:=by unfold putV;rw [fields_again]
end Can
namespace Can
open Base Txt Par Pg
def neatM:List ByteArray:= [⟨#[71,69,84]⟩,⟨#[80,79,83,84]⟩,⟨#[80,85,84]⟩,⟨#[68,69,76,69,84,69]⟩,⟨#[72,69,65,68]⟩]
def neatX:List ByteArray:= [⟨#[47]⟩,⟨#[47,97]⟩,⟨#[47,97,47,98,63,120,61,49]⟩,⟨#[47,118,49,47,105,116,101,109,47,55]⟩,⟨#[47,115,116,97,116,105,99,47,99,115,115,47,109,46,99,115,115]⟩,⟨#[104,116,116,112,58,47,47,97,47,113]⟩]
def neatH:List ByteArray:= [⟨#[97]⟩,⟨#[104,46,111,114,103]⟩]
def neatF:List Fld:= [(⟨#[65]⟩,⟨#[98]⟩),(⟨#[88,45,89]⟩,⟨#[122]⟩),(⟨#[65,99,99,101,112,116]⟩,⟨#[42,47,42]⟩),(⟨#[67,111,111,107,105,101]⟩,⟨#[97,61,49]⟩)]
def neatB:List UInt8:= [48,49,50,51,52,53,54,55,56,57,97,98,99,100,101,102]
def neatT:Fld:=(⟨#[84]⟩,⟨#[117]⟩)
structure Neat (r:Hz):Prop where
 m:r.m∈neatM
 x:r.x∈neatX
 k:r.k=1
 fs:∃h∈neatH,∃gs:List Fld,r.fs=(Cv,h)::gs/\gs.length<=2/\∀g∈gs,g∈neatF
 body:∃n,n<=15/\r.body=neatB.take n
 ts:r.ts= []∨r.ts= [neatT]
section
variable {r:Hz}
end
theorem many_all {b:Bd} {p:Nat} {m x body:List UInt8} {fs ts:List Fld} (hb:b.right=true) (hp:p<1073741824) (h:Fits b m x fs body ts) (k:Nat) :
 ∃t,Hr p b (Fz k (putV m x fs body ts)).flatten=.live t/\t.out=Fz k ⟨ba m,ba x,1,fieldsV (ba m) fs body ts,decide (ts≠ []),body,ts⟩/\(Ho t).clean=true:=by
 obtain ⟨t,e,hk⟩:=read_many hb h k (T.new 0 b) [] (fr_new b);have hw:=new_wide (p:=p) (b:=b);obtain ⟨e2, -⟩:=feed_wide (p:=p) (b:=b) _ hw.2 e;refine ⟨t.wide p,?_,?_,hk.clean⟩
 ·unfold Hr;rw [show Q.new p b=.live (T.new p b) from ZN (by rw [hb,ZK hp];rfl),hw.1];exact e2
 ·rw [wide_out,hk.out,Fw]
end Can
namespace Can
open Base Txt Par Pg
abbrev wide:Bd:=⟨4096,100,65536,1048576,256,100,16,1000,true,true⟩
theorem wide_right:wide.right=true:=ZX
theorem usual_right:usual.right=true:=ZX
theorem wide_mid:FT wide.x0=4096:=ZX
theorem usual_mid:FT usual.x0=1024:=ZX
section
variable {r:Hz}
theorem wr_form (r:Hz):(⟨ba r.m.data.toList,ba r.x.data.toList,1,fieldsV (ba r.m.data.toList) r.fs r.body r.ts,decide (r.ts≠ []),r.body,r.ts⟩:Hz)=wrR r:=by rw [ba_back,ba_back];rfl
theorem put_read {b:Bd} {p:Nat} (hb:b.right=true) (hp:p<1073741824) (h:Fits b r.m.data.toList r.x.data.toList r.fs r.body r.ts) (k:Nat) :
 (Hr p b (Fz k (putR r)).flatten).err=0/\(Hr p b (Fz k (putR r)).flatten).clean=true/\(Hr p b (Fz k (putR r)).flatten).out=Fz k (wrR r):=by
 obtain ⟨t,e,ho,hc⟩:=many_all (p:=p) hb hp h k;unfold putR;rw [e];refine ⟨rfl,hc,?_⟩;show t.out= _;rw [ho,wr_form]
theorem put_read1 {b:Bd} {p:Nat} (hb:b.right=true) (hp:p<1073741824) (h:Fits b r.m.data.toList r.x.data.toList r.fs r.body r.ts) :
 (Hr p b (putR r)).err=0/\(Hr p b (putR r)).clean=true/\(Hr p b (putR r)).out= [wrR r]:=by
 have:=put_read (p:=p) hb hp h 1;simpa using this
theorem put_right {b:Bd} (hb:b.right=true) (h:Fits b r.m.data.toList r.x.data.toList r.fs r.body r.ts):rightV b r=true:=by obtain ⟨-,h2,h3⟩:=put_read1 (p:=0) hb ZX h;unfold rightV;rw [h2,h3,(Rec.all_iff _ _).2 rfl];rfl
theorem wr_put (r:Hz):putR (wrR r)=putR r:=by show putV r.m.data.toList r.x.data.toList (fieldsV r.m r.fs r.body r.ts) r.body r.ts=putR r;have:=put_again r.m.data.toList r.x.data.toList r.body r.fs r.ts;rw [ba_back] at this;exact this
theorem wr_fields (r:Hz):fieldsR (wrR r)=fieldsR r:=fields_again r.m r.fs r.ts r.body
structure Came (r:Hz):Prop where
 good:Good r
 size:SzR usual r
theorem Came.sm (h:Came r):Sm r:=by
 have hs:=h.size;have e:=usual_mid;refine ⟨by have:=hs.m;omega,by have:=hs.x;omega,by have:=hs.fl;have e1:usual.x1=32:=rfl;omega,λf hf=>?_,hs.body,by have:=hs.tl;have e1:usual.x5=8:=rfl;omega,λf hf=>?_⟩
 ·have:=hs.fs f hf;unfold SzF at this;omega
 ·have:=hs.ts f hf;unfold SzF at this;omega
theorem Came.wrSm (h:Came r):Sm (wrR r):=by have hs:=h.sm;obtain ⟨h1,h2⟩:=hs.fields;refine ⟨hs.m,hs.x,?_,h1,hs.body,hs.tl,hs.ts⟩;show (fieldsR r).length<=200;have:=fields_len r.m r.fs r.ts r.body;have hl:=h.size.fl;have e1:usual.x1=32:=rfl;unfold fieldsR;omega
theorem Came.wide (h:Came r):Fits wide r.m.data.toList r.x.data.toList r.fs r.body r.ts:=
 fits_wide h.good h.size ZX ZX ZX wide_mid rfl rfl rfl rfl rfl
theorem came_read (l:List UInt8):∀r∈(Hr 0 usual l).out,Came r:=λr hr=>⟨read_good usual_right (T.new_ok 0 usual) l r hr,read_size usual_right (T.new_ok 0 usual) l r hr⟩
def sameB (x r:Hz):Bool:=decide (x.m=r.m)&&(decide (x.x=r.x)&&(decide (x.k=1)&&(decide (x.body=r.body)&&(decide (x.ts=r.ts)&&decide (x.fs=fieldsR r)))))
end
end Can
namespace Can
open Base Txt Par Pg
def kr:Hz:=⟨⟨#[80,79,83,84]⟩,⟨#[47]⟩,0,[],false,[97,98],[]⟩
def er:Hz:=⟨⟨#[]⟩,⟨#[]⟩,0,[],false,[],[]⟩
theorem k_put:putR kr= [80,79,83,84,32,47,32,72,84,84,80,47,49,46,49,13,10,72,111,115,116,58,32,108,111,99,97,108,104,111,115,116,13,10,67,111,110,116,101,110,116,45,76,101,110,103,116,104,58,32,50,13,10,13,10,97,98]:=ZR
theorem k_len:(fieldsR kr).length=2:=ZR
theorem k_right:rightV usual kr=true:=ZR
theorem e_right:rightV usual er=false:=ZR
theorem k_ts:decide (kr.ts≠ [])=false:=ZX
theorem kr_sm:Sm kr:=⟨ZX,ZX,ZX,λf hf=>(by cases hf),ZX,ZX,λf hf=>(by cases hf)⟩
theorem er_sm:Sm er:=⟨ZX,ZX,ZX,λf hf=>(by cases hf),ZX,ZX,λf hf=>(by cases hf)⟩
def BufF (xs:List UInt8):Each.Fact:=λv w=>∃B,By.Buf w B v xs
theorem BufF.lasts {xs:List UInt8}:BE (BufF xs):=λ_ _ _ hb ⟨B,h⟩=>⟨B,h.below hb⟩
theorem er_reads (w:World):Ia w (Z9 #[ZD ⟨#[]⟩,ZD ⟨#[]⟩,ZE Z7 0,ZC none 0 0,ZB false,ZC none 0 0,ZC none 0 0]) er:=⟨none,0,none,0,none,0,rfl,Flds.nil _ _,⟨rfl,λh=>absurd h ZX⟩,Flds.nil _ _⟩
section
attribute [local go_sem] A8
theorem conv_of_buf {w:World} {v:Value} {xs:List UInt8} (h:BufF xs v w):(convert 22 9 v).run Mm w=.ok (ZD ⟨xs.toArray⟩) w:=by
 obtain ⟨B,g,cap,rfl, -, -, -,h4, -⟩:=h
 exact run_convert_bytes_back (P:=Mm) w 22 9 5 ⟨g,0,none⟩ cap xs MZ Nr Ns (λj hj=>by
  have e:(⟨g,0,none⟩:Addr).add j=⟨g,j,none⟩:=by unfold Ac;by_cases h:j=0<;>simp [h]
  rw [e];exact h4 j hj)
theorem XXFZb {P:Prop} (h:P:=by refine BI rfl (λev w1 hR hb hh=>?_);have e1:=hR.old 1 rfl;simp only [Am,E6,Ep,Er,GW] at e1;have q0:=(HK0.out.below hb).c 0 _ rfl;have q1:=(HK0.out.below hb).c 1 _ rfl;have q2:=(HK0.out.below hb).c 2 _ rfl;have q3:=(HK0.out.below hb).c 3 _ rfl;have q4:=(HK0.out.below hb).c 4 _ rfl;have q5:=(HK0.out.below hb).c 5 _ rfl;have q6:=(HK0.out.below hb).c 6 _ rfl;exact Each.std):P:=h
theorem XXVvd {P:Prop} (h:P:=by
 rintro r w2 ⟨rfl,h2⟩
 exact ⟨_,rfl,h2,rfl⟩):P:=h
theorem known_any (w:World):Calls Mm 50 #[] w λe w'=>e=.returned (ZB true)/\Below w.heap.size w w':=by
 have hb0:Below w.heap.size w ((w.alloc (.cells #[.int .u8 97,.int .u8 98] 5 (2,3))).alloc (.cells #[.string ⟨#[80,79,83,84]⟩,.string ⟨#[47]⟩,.int .i64 0,.slice none 0 0,.bool false,.slice (some ⟨w.heap.size,0,none⟩) 2 2,.slice none 0 0] 58)):=((AE _ _).alloc (Gi _) _).alloc ZW _;have HA:=Dl ((Hw (w.alloc (.cells #[.int .u8 97,.int .u8 98] 5 (2,3))) (w.heap.size+1) ZW 58 [.string ⟨#[80,79,83,84]⟩,.string ⟨#[47]⟩,.int .i64 0,.slice none 0 0,.bool false,.slice (some ⟨w.heap.size,0,none⟩) 2 2,.slice none 0 0]).drew 1);have hR:Ia ((w.alloc (.cells #[.int .u8 97,.int .u8 98] 5 (2,3))).alloc (.cells #[.string ⟨#[80,79,83,84]⟩,.string ⟨#[47]⟩,.int .i64 0,.slice none 0 0,.bool false,.slice (some ⟨w.heap.size,0,none⟩) 2 2,.slice none 0 0] 58)) (.agg #[.string ⟨#[80,79,83,84]⟩,.string ⟨#[47]⟩,.int .i64 0,.slice none 0 0,.bool false,.slice (some ⟨w.heap.size,0,none⟩) 2 2,.slice none 0 0]) kr:=⟨none,0,_,2,none,0,rfl,Flds.nil _ _,(Bts.lit (L:= []) (in_nil w) [97,98] #[.int .u8 97,.int .u8 98] rfl 5 (2,3)).nums.below ((AE _ _).alloc (Gi _) _),Flds.nil _ _⟩;have HR:=Dl hR;have HW0:=Dl hb0;have hcv:(convert 22 22 (.slice (some ⟨w.heap.size,0,none⟩) 2 2)).run Mm (w.alloc (.cells #[.int .u8 97,.int .u8 98] 5))=.ok (.slice (some ⟨w.heap.size,0,none⟩) 2 2) (w.alloc (.cells #[.int .u8 97,.int .u8 98] 5 (2,3))):=
  Lib.run_convert_bytes_const w 22 5 #[.int .u8 97,.int .u8 98] 2 2 MZ Nr
 clear hb0 hR;go_enter Tryz.func50,Tryz.ntmps50;go_upto_region 2 with fail
 clear hcv;generalize (w.alloc (.cells #[ZE Z6 97,ZE Z6 98] 5 (2,3))).alloc (.cells #[ZD ⟨#[80,79,83,84]⟩,ZD ⟨#[47]⟩,ZE Z7 0,ZC none 0 0,ZB false,ZC (some ⟨w.heap.size,0,none⟩) 2 2,ZC none 0 0] 58)=W at *;have HK0:=HA;have HRW:=HR;have HW:=HW0;clear HA HR HW0;have HRD:=Dl (HRW.out.below (Az (AE W.heap.size W) 1));have HP:=Dl λwk hb=>put_any _ kr wk (HRD.out.below (w':=wk) hb) kr_sm;have HF:Hid (∀wk,Below (W.drewN 1).heap.size (W.drewN 1) wk->Calls Mm 57 #[Z9 #[ZD ⟨#[80,79,83,84]⟩,ZD ⟨#[47]⟩,ZE Z7 0,ZC none 0 0,ZB false,ZC (some ⟨w.heap.size,0,none⟩) 2 2,ZC none 0 0]] wk λe w'=>∃a c,e=.returned (.slice a 2 c)/\Below wk.heap.size wk w'):=
  Dl λwk hb=>(fields_any _ kr wk (HRD.out.below hb) ZX (λf hf=>(by cases hf)) ZX).mono (by rintro e w' ⟨a,c,h1, -,h3, -⟩;have e2:(fieldsV kr.m kr.fs kr.body kr.ts).length=2:=k_len;rw [e2] at h1;exact ⟨a,c,h1,h3⟩)
 have HC:Hid (∀wk,Below (W.drewN 1).heap.size (W.drewN 1) wk->Calls Mm 59 #[Z9 #[ZD ⟨#[80,79,83,84]⟩,ZD ⟨#[47]⟩,ZE Z7 0,ZC none 0 0,ZB false,ZC (some ⟨w.heap.size,0,none⟩) 2 2,ZC none 0 0]] wk λe w'=>e=.returned (ZB false)/\Below wk.heap.size wk w'):=
  Dl λwk hb=>(chunked_any _ kr wk (HRD.out.below hb)).mono (by rw [k_ts];exact λe w' h=>h)
 have HR1:Hid (∀wk,Below (W.drewN 1).heap.size (W.drewN 1) wk->Calls Mm 61 #[Z9 #[ZD ⟨#[80,79,83,84]⟩,ZD ⟨#[47]⟩,ZE Z7 0,ZC none 0 0,ZB false,ZC (some ⟨w.heap.size,0,none⟩) 2 2,ZC none 0 0],Z9 #[ZE Z7 1024,ZE Z7 32,ZE Z7 8192,ZE Z7 65536,ZE Z7 32,ZE Z7 8,ZE Z7 4,ZE Z7 20,ZB true,ZB true]] wk λe w'=>e=.returned (ZB true)/\Below wk.heap.size wk w'):=
  Dl λwk hb=>(right_any _ kr usual wk (HRD.out.below hb) kr_sm).mono (by rw [k_right];exact λe w' h=>h)
 have HR2:Hid (∀wk,Calls Mm 61 #[Z9 #[ZD ⟨#[]⟩,ZD ⟨#[]⟩,ZE Z7 0,ZC none 0 0,ZB false,ZC none 0 0,ZC none 0 0],Z9 #[ZE Z7 1024,ZE Z7 32,ZE Z7 8192,ZE Z7 65536,ZE Z7 32,ZE Z7 8,ZE Z7 4,ZE Z7 20,ZB true,ZB true]] wk λe w'=>e=.returned (ZB false)/\Below wk.heap.size wk w'):=
  Dl λwk=>(right_any _ er usual wk (er_reads wk) er_sm).mono (by rw [e_right];exact λe w' h=>h)
 clear HRW HRD;refine BO 27 [5,6,7,8,9,10,11,12,13,14,15,16,17,18,19,20,21,22,23,24,25,26,27,28,29,30,0] [eQ (Z9 #[ZD ⟨#[80,79,83,84]⟩,ZD ⟨#[47]⟩,ZE Z7 0,ZC none 0 0,ZB false,ZC (some ⟨w.heap.size,0,none⟩) 2 2,ZC none 0 0]),BufF (putR kr),eQ (ZD ⟨#[80,79,83,84,32,47,32,72,84,84,80,47,49,46,49,13,10,72,111,115,116,58,32,108,111,99,97,108,104,111,115,116,13,10,67,111,110,116,101,110,116,45,76,101,110,103,116,104,58,32,50,13,10,13,10,97,98]⟩),eQ (ZB true),eQ (ZB true),BH (true) true (λv _=>v=Z9 #[ZD ⟨#[80,79,83,84]⟩,ZD ⟨#[47]⟩,ZE Z7 0,ZC none 0 0,ZB false,ZC (some ⟨w.heap.size,0,none⟩) 2 2,ZC none 0 0]),BH (true) true (λv _=>∃a c,v=.slice a 2 c),BH (true) true (λv _=>v=ZE Z7 2),BH (true) true (λv _=>v=ZB true),eQ (ZB true),eQ (ZB true),BH (true) true (λv _=>v=Z9 #[ZD ⟨#[80,79,83,84]⟩,ZD ⟨#[47]⟩,ZE Z7 0,ZC none 0 0,ZB false,ZC (some ⟨w.heap.size,0,none⟩) 2 2,ZC none 0 0]),BH (true) true (λv _=>v=Z9 #[ZE Z7 1024,ZE Z7 32,ZE Z7 8192,ZE Z7 65536,ZE Z7 32,ZE Z7 8,ZE Z7 4,ZE Z7 20,ZB true,ZB true]),BH (true) true (λv _=>v=ZB true),eQ (ZB true),eQ (ZB true),BH (true) true (λv _=>v=Z9 #[ZD ⟨#[80,79,83,84]⟩,ZD ⟨#[47]⟩,ZE Z7 0,ZC none 0 0,ZB false,ZC (some ⟨w.heap.size,0,none⟩) 2 2,ZC none 0 0]),BH (true) true (λv _=>v=ZB false),BH (true) true (λv _=>v=ZB true),eQ (ZB true),eQ (ZB true),BH (true) true (λv _=>v=Z9 #[ZD ⟨#[]⟩,ZD ⟨#[]⟩,ZE Z7 0,ZC none 0 0,ZB false,ZC none 0 0,ZC none 0 0]),BH (true) true (λv _=>v=Z9 #[ZE Z7 1024,ZE Z7 32,ZE Z7 8192,ZE Z7 65536,ZE Z7 32,ZE Z7 8,ZE Z7 4,ZE Z7 20,ZB true,ZB true]),BH (true) true (λv _=>v=ZB false),BH (true) true (λv _=>v=ZB true),eQ (ZB true),eQ (ZB true)] ZY ZY ZY ZY (λ_ _ d _ _ h=>by cases d<;>exact h) ZV ZV ⟨BF _,(BufF.lasts),BF _,BF _,BF _,BG (BF _),BG (λ_ _ _ _ h=>h),BG (BF _),BG (BF _),BF _,BF _,BG (BF _),BG (BF _),BG (BF _),BF _,BF _,BG (BF _),BG (BF _),BG (BF _),BF _,BF _,BG (BF _),BG (BF _),BG (BF _),BG (BF _),BF _,BF _,trivial⟩ ?_ ?_
 ·refine ⟨?_,?_,?_,?_,?_,?_,?_,?_,?_,?_,?_,?_,?_,?_,?_,?_,?_,?_,?_,?_,?_,?_,?_,?_,?_,?_,?_,trivial⟩
  ·exact XXFZb
  ·refine BI rfl (λev w1 hR hb hh=>?_);have e5:ev (.tmp 5)= _:=hh.at 0;clear hh;have ef:=hR.func;refine BA 54 #[Z9 #[ZD ⟨#[80,79,83,84]⟩,ZD ⟨#[47]⟩,ZE Z7 0,ZC none 0 0,ZB false,ZC (some ⟨w.heap.size,0,none⟩) 2 2,ZC none 0 0]] ZU ((HP.out w1 hb).mono ?_);rintro e w2 ⟨v,rfl,hr,h2⟩;exact ⟨_,rfl,h2,⟨_,hr⟩⟩
  ·refine BI rfl (λev w1 hR hb hh=>?_);have e6:((BufF (putR kr)) (ev (.tmp 6)) w1):=hh.at 0;clear hh;have hcv:=conv_of_buf e6;rw [k_put] at hcv;exact XXqTe
  ·refine BI rfl (λev w1 hR hb hh=>?_);have e7:ev (.tmp 7)= _:=hh.at 0;clear hh;have ec:=hR.const;refine BC ?_;go_simp
   all_goals (first | done | with_reducible rfl | decide)
  ·exact XXFZb
  ·refine BJ 4 9 rfl rfl (λev w1 hh=>?_) (λhg ev w1 hR hb hh=>?_)
   ·exact hh.at 0
   ·clear hh;have e1:=hR.old 1 rfl;simp only [Am,E6,Ep,Er,GW] at e1;have q0:=(HK0.out.below hb).c 0 _ rfl;have q1:=(HK0.out.below hb).c 1 _ rfl;have q2:=(HK0.out.below hb).c 2 _ rfl;have q3:=(HK0.out.below hb).c 3 _ rfl;have q4:=(HK0.out.below hb).c 4 _ rfl;have q5:=(HK0.out.below hb).c 5 _ rfl;have q6:=(HK0.out.below hb).c 6 _ rfl;exact XXqTe
  ·refine BJ 4 9 rfl rfl (λev w1 hh=>?_) (λhg ev w1 hR hb hh=>?_)
   ·exact hh.at 1
   ·have e10:=(show ((true)=true->ev (.tmp 10)=Z9 #[ZD ⟨#[80,79,83,84]⟩,ZD ⟨#[47]⟩,ZE Z7 0,ZC none 0 0,ZB false,ZC (some ⟨w.heap.size,0,none⟩) 2 2,ZC none 0 0]) from hh.at 0) hg;clear hh;have ef:=hR.func;refine BA 57 #[Z9 #[ZD ⟨#[80,79,83,84]⟩,ZD ⟨#[47]⟩,ZE Z7 0,ZC none 0 0,ZB false,ZC (some ⟨w.heap.size,0,none⟩) 2 2,ZC none 0 0]] ZU ((HF.out w1 hb).mono ?_);rintro e w2 ⟨a,c,rfl,h2⟩;exact ⟨_,rfl,h2,⟨a,c,rfl⟩⟩
  ·refine BJ 4 9 rfl rfl (λev w1 hh=>?_) (λhg ev w1 hR hb hh=>?_)
   ·exact hh.at 1
   ·have e11:=(show ((true)=true->(λv _=>∃a c,v=.slice a 2 c) (ev (.tmp 11)) w1) from hh.at 0) hg;clear hh;obtain ⟨a,c,e11x⟩:=e11;exact XXqTe
  ·refine BJ 4 9 rfl rfl (λev w1 hh=>?_) (λhg ev w1 hR hb hh=>?_)
   ·exact hh.at 1
   ·have e12:=(show ((true)=true->ev (.tmp 12)=ZE Z7 2) from hh.at 0) hg;clear hh;have ec:=hR.const;refine BC ?_;go_simp
    all_goals (first | done | with_reducible rfl | decide)
  ·refine BI rfl (λev w1 hR hb hh=>?_);have e9:ev (.tmp 9)= _:=hh.at 0;have h13:((true)=true->ev (.tmp 13)=ZB true):=hh.at 1;clear hh;have ec:=hR.const;refine BC ?_;have e13:=h13 rfl;go_simp;try with_reducible rfl
  ·exact XXFZb
  ·refine BJ 10 15 rfl rfl (λev w1 hh=>?_) (λhg ev w1 hR hb hh=>?_)
   ·exact hh.at 0
   ·clear hh;have e1:=hR.old 1 rfl;simp only [Am,E6,Ep,Er,GW] at e1;have q0:=(HK0.out.below hb).c 0 _ rfl;have q1:=(HK0.out.below hb).c 1 _ rfl;have q2:=(HK0.out.below hb).c 2 _ rfl;have q3:=(HK0.out.below hb).c 3 _ rfl;have q4:=(HK0.out.below hb).c 4 _ rfl;have q5:=(HK0.out.below hb).c 5 _ rfl;have q6:=(HK0.out.below hb).c 6 _ rfl;exact XXqTe
  ·refine BJ 10 15 rfl rfl (λev w1 hh=>?_) (λhg ev w1 hR hb hh=>?_)
   ·exact hh.at 0
   ·clear hh;have ef:=hR.func;refine BA 47 #[] ZU ((Bnd.rusual_any w1).mono ?_);exact XXVvd
  ·refine BJ 10 15 rfl rfl (λev w1 hh=>?_) (λhg ev w1 hR hb hh=>?_)
   ·exact hh.at 3
   ·have e16:=(show ((true)=true->ev (.tmp 16)=Z9 #[ZD ⟨#[80,79,83,84]⟩,ZD ⟨#[47]⟩,ZE Z7 0,ZC none 0 0,ZB false,ZC (some ⟨w.heap.size,0,none⟩) 2 2,ZC none 0 0]) from hh.at 0) hg;have e17:=(show ((true)=true->ev (.tmp 17)=Z9 #[ZE Z7 1024,ZE Z7 32,ZE Z7 8192,ZE Z7 65536,ZE Z7 32,ZE Z7 8,ZE Z7 4,ZE Z7 20,ZB true,ZB true]) from hh.at 1) hg;clear hh;have ef:=hR.func;refine BA 61 #[Z9 #[ZD ⟨#[80,79,83,84]⟩,ZD ⟨#[47]⟩,ZE Z7 0,ZC none 0 0,ZB false,ZC (some ⟨w.heap.size,0,none⟩) 2 2,ZC none 0 0],Z9 #[ZE Z7 1024,ZE Z7 32,ZE Z7 8192,ZE Z7 65536,ZE Z7 32,ZE Z7 8,ZE Z7 4,ZE Z7 20,ZB true,ZB true]] ZU ((HR1.out w1 hb).mono ?_);exact XXVvd
  ·refine BI rfl (λev w1 hR hb hh=>?_);have e15:ev (.tmp 15)= _:=hh.at 0;have h18:((true)=true->ev (.tmp 18)=ZB true):=hh.at 1;clear hh;have ec:=hR.const;refine BC ?_;have e18:=h18 rfl;go_simp;try with_reducible rfl
  ·exact XXFZb
  ·refine BJ 15 20 rfl rfl (λev w1 hh=>?_) (λhg ev w1 hR hb hh=>?_)
   ·exact hh.at 0
   ·clear hh;have e1:=hR.old 1 rfl;simp only [Am,E6,Ep,Er,GW] at e1;have q0:=(HK0.out.below hb).c 0 _ rfl;have q1:=(HK0.out.below hb).c 1 _ rfl;have q2:=(HK0.out.below hb).c 2 _ rfl;have q3:=(HK0.out.below hb).c 3 _ rfl;have q4:=(HK0.out.below hb).c 4 _ rfl;have q5:=(HK0.out.below hb).c 5 _ rfl;have q6:=(HK0.out.below hb).c 6 _ rfl;exact XXqTe
  ·refine BJ 15 20 rfl rfl (λev w1 hh=>?_) (λhg ev w1 hR hb hh=>?_)
   ·exact hh.at 1
   ·have e21:=(show ((true)=true->ev (.tmp 21)=Z9 #[ZD ⟨#[80,79,83,84]⟩,ZD ⟨#[47]⟩,ZE Z7 0,ZC none 0 0,ZB false,ZC (some ⟨w.heap.size,0,none⟩) 2 2,ZC none 0 0]) from hh.at 0) hg;clear hh;have ef:=hR.func;refine BA 59 #[Z9 #[ZD ⟨#[80,79,83,84]⟩,ZD ⟨#[47]⟩,ZE Z7 0,ZC none 0 0,ZB false,ZC (some ⟨w.heap.size,0,none⟩) 2 2,ZC none 0 0]] ZU ((HC.out w1 hb).mono ?_);exact XXVvd
  ·refine BJ 15 20 rfl rfl (λev w1 hh=>?_) (λhg ev w1 hR hb hh=>?_)
   ·exact hh.at 1
   ·have e22:=(show ((true)=true->ev (.tmp 22)=ZB false) from hh.at 0) hg;clear hh;exact XXqTe
  ·refine BI rfl (λev w1 hR hb hh=>?_);have e20:ev (.tmp 20)= _:=hh.at 0;have h23:((true)=true->ev (.tmp 23)=ZB true):=hh.at 1;clear hh;have ec:=hR.const;refine BC ?_;have e23:=h23 rfl;go_simp;try with_reducible rfl
  ·exact XXFZb
  ·refine BJ 20 25 rfl rfl (λev w1 hh=>?_) (λhg ev w1 hR hb hh=>?_)
   ·exact hh.at 0
   ·clear hh;exact XXqTe
  ·refine BJ 20 25 rfl rfl (λev w1 hh=>?_) (λhg ev w1 hR hb hh=>?_)
   ·exact hh.at 0
   ·clear hh;have ef:=hR.func;refine BA 47 #[] ZU ((Bnd.rusual_any w1).mono ?_);exact XXVvd
  ·refine BJ 20 25 rfl rfl (λev w1 hh=>?_) (λhg ev w1 hR hb hh=>?_)
   ·exact hh.at 3
   ·have e26:=(show ((true)=true->ev (.tmp 26)=Z9 #[ZD ⟨#[]⟩,ZD ⟨#[]⟩,ZE Z7 0,ZC none 0 0,ZB false,ZC none 0 0,ZC none 0 0]) from hh.at 0) hg;have e27:=(show ((true)=true->ev (.tmp 27)=Z9 #[ZE Z7 1024,ZE Z7 32,ZE Z7 8192,ZE Z7 65536,ZE Z7 32,ZE Z7 8,ZE Z7 4,ZE Z7 20,ZB true,ZB true]) from hh.at 1) hg;clear hh;have ef:=hR.func;refine BA 61 #[Z9 #[ZD ⟨#[]⟩,ZD ⟨#[]⟩,ZE Z7 0,ZC none 0 0,ZB false,ZC none 0 0,ZC none 0 0],Z9 #[ZE Z7 1024,ZE Z7 32,ZE Z7 8192,ZE Z7 65536,ZE Z7 32,ZE Z7 8,ZE Z7 4,ZE Z7 20,ZB true,ZB true]] ZU ((HR2.out w1).mono ?_);exact XXVvd
  ·refine BJ 20 25 rfl rfl (λev w1 hh=>?_) (λhg ev w1 hR hb hh=>?_)
   ·exact hh.at 1
   ·have e28:=(show ((true)=true->ev (.tmp 28)=ZB false) from hh.at 0) hg;clear hh;exact XXqTe
  ·refine BI rfl (λev w1 hR hb hh=>?_);have e25:ev (.tmp 25)= _:=hh.at 0;have h29:((true)=true->ev (.tmp 29)=ZB true):=hh.at 1;clear hh;have ec:=hR.const;refine BC ?_;have e29:=h29 rfl;go_simp;try with_reducible rfl
  ·exact XXFZb
 intro g1 w2 hb2 hf;have z0:g1 0= _:=hf.at 26;clear hf;simp only [BM,Ab,F4,F7,F6];rw [z0];go_wp2_with fail;go_ret;exact ⟨rfl,A6 HW.out hb2⟩
end
end Can
namespace Hp
open Base Txt
def small (f:Fld):Bool:=decide (f.1.size+f.2.size<=120)
def fieldsOk (fs:List Fld):Bool:=decide (fs.length<=20)&&fs.all small
section
attribute [local go_sem] A8
end
end Hp
namespace Rec
open Base Txt
structure Small (r:R):Prop where
 m:r.m.size<=1000
 x:r.x.size<=1000
 fs:r.fs.length<=100
 f:∀f∈r.fs,f.1.size<=1000/\f.2.size<=1000
 body:r.body.length<=1000
 ts:r.ts.length<=100
 t:∀f∈r.ts,f.1.size<=1000/\f.2.size<=1000
def bent (q:Nat) (s:ByteArray) (r:R):R:=
 match q with
 | 0=>{r with m:=r.m ++⟨#[88]⟩}
 | 1=>{r with x:=r.x ++⟨#[120]⟩}
 | 2=>{r with k:=wrap64 (1-r.k)}
 | 3=>{r with fs:=r.fs ++ [(connN,s)]}
 | 4=>{r with ch:=!r.ch}
 | 5=>{r with body:=r.body ++ [120]}
 | _=>{r with ts:=r.ts ++ [(⟨#[90]⟩,⟨#[]⟩)]}
def recordOk (r:R):Bool:=decide (r.m.size+r.x.size+r.body.length<300)&&(Hp.fieldsOk r.fs&&Hp.fieldsOk r.ts)
structure Came (r:R):Prop where
 m:r.m.size<=140737488351232
 x:r.x.size<=140737488351232
 b:r.body.length<=140737488351232
 fs:r.fs.length<=maxLen
 f:∀f∈r.fs,f.1.size<=140737488351232/\f.2.size<=140737488351232
 ts:r.ts.length<=maxLen
 t:∀f∈r.ts,f.1.size<=140737488351232/\f.2.size<=140737488351232
section
attribute [local go_sem] A8
end
end Rec
namespace Rec
open Base Txt
section
end
end Rec
namespace Fd
open Base Txt Tgt
theorem rjoined_eq (v s:ByteArray):(v ++⟨#[32]⟩)++trim s=ba (joined v.data.toList s.data.toList):=ba_ext (by simp only [joined,Bo,Array.toList_append,D7];rfl)
section
attribute [local go_sem] A8
theorem rgoes_any (s:ByteArray) (p:Nat) (hp:p<4294967296) (w:World):Calls Mm 212 #[ZD s,ZE Z5 (p:Nat)] w λe w'=>e=.returned (ZB (goes p s.data.toList))/\w'=w:=by
 have HH:=Dl (λw=>Hu p hp 13 w);unfold goes;generalize Hs p 13=b at *;rcases Gg s.size with h0 | h0
 ·obtain rfl:s=E0:=ba_ext (ET.1 (by rw [len];exact h0));cases b;all_goals
   go_enter Tryz.func212,Tryz.ntmps212;go_wp2_with (go_at_call 44;with_reducible refine Cm (HH.out _) ?_);go_ret;exact ⟨ZV,rfl⟩
 ·have t0:=first_no s h0;have HB:=Dl (λw=>Oct.rblank_any (s[0].toNat:Int) w);rw [blank_is] at HB;have e1:(!s.data.toList.isEmpty&&NF (s.data.toList.headD 0))=NF s[0]:=by exact XXpKR
  rw [e1];clear e1;cases b;all_goals
   go_enter Tryz.func212,Tryz.ntmps212
   go_wp2_with (first
    |(go_at_call 44;with_reducible refine Cm (HH.out _) ?_)
    |(go_at_call 136;with_reducible refine Cm (HB.out _) ?_))
   go_ret;exact ⟨ZV,rfl⟩
theorem rjoin_any (n v s:ByteArray) (w:World) (hs:s.size<=1000000000) (hv:v.size<=1000000000):Calls Mm 213 #[fv n v,ZD s] w λe w'=>e=.returned (fv n (ba (joined v.data.toList s.data.toList)))/\Below w.heap.size w w':=by
 have HT:=Dl (λw=>rtrim_any s w ZP);have hT:(trim s).size<=s.size:=trim_size _ _;rw [←rjoined_eq];generalize trim s=T at *;have v1:¬9223372036854775807<v.size+1:=ZZ;have v2:¬9223372036854775807<v.size+1+T.size:=ZZ;go_enter Tryz.func213,Tryz.ntmps213;go_wp2_with fail;go_region_with (go_at_call 135;with_reducible refine Cm (HT.out _) ?_);all_goals
  go_wp2;exact ZF (v:=fv n ((v ++⟨#[32]⟩)++T)) (by simp [results,Tryz.results213,go_sem]) rfl ⟨rfl,Az (((AE _ _).alloc (Gi _) _).alloc ZW _) 1⟩
end
end Fd
namespace Fd
open Base Txt Tgt
section
attribute [local go_sem] A8
end
end Fd
namespace Fd
open Base Txt Tgt
theorem colon_cases (l:List UInt8):((58:UInt8)∉l/\(cutAt 58 l).2.2=false)∨∃j,∃h:j<l.length,l[j]=58/\(58:UInt8)∉l.take j/\(cutAt 58 l).1=l.take j/\(cutAt 58 l).2.1=l.drop (j+1)/\(cutAt 58 l).2.2=true:=by
 rcases cut_cases 58 l with h | ⟨a,r,rfl,h⟩
 ·exact .inl ⟨h,by rw [cutAt_none 58 l h]⟩
 ·refine .inr ⟨a.length,ZW,ZW,by simpa using h,?_,?_,?_⟩
  ·rw [cutAt_app 58 a r h];simp
  ·rw [cutAt_app 58 a r h];simp
  ·rw [cutAt_app 58 a r h]
def nameAt (t:Nat) (w:World):Nat:=match w.cell? ⟨t,0,none⟩ with
 | some (.string b)=>b.size
 | _=>0
theorem nameAt_of {t:Nat} {w:World} {b:ByteArray} (h:w.cell? ⟨t,0,none⟩=some (ZD b)):nameAt t w=b.size:=by unfold nameAt;rw [h]
theorem Two.set0 {w0 w:World} {n v N V:ByteArray} {t:Nat} (h:Two w0 n v t N V w) (N':ByteArray):Two w0 n v t N' V (w.setCell ⟨t,0,none⟩ (ZD N')):=by
 have h1:=h.k.f.other t 0 (ZD N') h.ne;have hb:=h.k.b.setCell (p:=⟨t,0,none⟩) h.ge (ZD N');obtain ⟨c0,c1,z0,z1⟩:=h.f;exact ⟨⟨h1,by simpa using h.k.g,hb⟩,⟨ZU,ZU,ZU,ZU⟩,h.ne,by simpa using h.lt,h.ge⟩
theorem not_colon (s:ByteArray) (k:Nat) (h:k<s.size) (j:Nat) (hj:k<j) (hn:(58:UInt8)∉s.data.toList.take j):((s[k].toNat:Int)==58)=false:=by
 refine ZM.2 λe=>hn ?_;have hl:k<s.data.toList.length:=by rw [len];exact h
 have e1:s.data.toList[k]=58:=NI.1 (by show s[k].toNat=58;omega);rw [←e1];rw [List.mem_take_iff_getElem];exact ⟨k,ZZ,rfl⟩
theorem last_of (n0:List UInt8) (m:Nat) (h:m<n0.length):∃Nn:ByteArray,ba (n0.take (m+1))=Nn/\Nn.size=m+1/\(∃h2:m<Nn.size,Nn[m]=n0[m])/\Nn.extract 0 m=ba (n0.take m):=by
 have hl:(n0.take (m+1)).length=m+1:=by rw [Fc];omega
 refine ⟨_,rfl,by rw [Txt.ba_size];exact hl,⟨by rw [Txt.ba_size];omega,?_⟩,?_⟩
 ·show (n0.take (m+1))[m]'(by omega)=n0[m];rw [List.getElem_take]
 ·exact ba_ext (by
   rw [Di];show ((n0.take (m+1)).drop 0).take (m-0)=n0.take m;rw [List.drop_zero,List.take_take]
   congr 1;omega)
section
attribute [local go_sem] A8
theorem rparse_none (s:ByteArray) (p:Nat) (hp:p<4294967296) (w:World) (hs:s.size<=1000000000) (hno:(58:UInt8)∉s.data.toList) :
 Calls Mm 91 #[ZD s,ZE Z5 (p:Nat)] w λe w'=>e=.returned (rv (out (Hs p 11)))/\Below w.heap.size w w':=by
 have HH:=Dl (λw=>Hu p hp 11 w);have HNO:=Dl hno;clear hno;obtain ⟨b,hb⟩:∃b,Hs p 11=b:=⟨_,rfl⟩;rw [hb] at HH ⊢;clear hb;have hW:=Dl (show Below w.heap.size w (w.alloc (.cells #[ZD E0,ZD E0] 126)) from (AE _ _).alloc (Gi _) _);go_enter Tryz.func91,Tryz.ntmps91;go_wp2
 go_loop [7,8] (λc i=>∃k:Nat,k<=s.size/\c=ZE Z7 (-1)/\i=ZE Z7 k) (λ_ i=>s.size-(intOf i).toNat)
 case atStart=>exact ⟨0,Gz _,rfl,rfl⟩
 case round=>
  obtain ⟨k,hk,rfl,rfl⟩:=hrel;rcases Gp k s.size with hlt | hge
  ·have t1:=not_colon s k hlt (k+1) ZZ (λh=>HNO.out (Ft h));go_wp2;go_round
   case rel=>exact ⟨k+1,ZZ,rfl,ZT⟩
   case measure=>simp [intOf];omega
  ·cases b
   ·go_wp2_with (go_at_call 44;with_reducible refine Cm (HH.out _) ?_);exact ZF (v:=Z8 #[fv E0 E0,ZB false,ZE Z7 400]) (by simp [results,M4,go_sem]) rfl ⟨rfl,hW.out⟩
   ·go_wp2_with (go_at_call 44;with_reducible refine Cm (HH.out _) ?_);exact ZF (v:=Z8 #[fv E0 E0,ZB false,ZE Z7 0]) (by simp [results,M4,go_sem]) rfl ⟨rfl,hW.out⟩
theorem XXfct {P:Prop} (h:P:=by exact bodyPost_ret (v:=Z8 #[fv E0 E0,ZB false,ZE Z7 400]) (by simp [results,M4,go_sem,r0,r1]) rfl ⟨by first | rfl |(rw [hRv];rfl),hbW⟩):P:=h
theorem XXFaQ {P:Prop} (h:P:=by
 go_wp2_with (go_at_call 44;with_reducible refine Cm (H9.out _) ?_);go_meet
 case rel=>exact HZ):P:=h
theorem rparse_some (s:ByteArray) (p:Nat) (hp:p<4294967296) (w:World) (hs:s.size<=1000000000) (j:Nat) (hj:j<s.size) (hc:s[j]=58) (hno:(58:UInt8)∉s.data.toList.take j) :
 Calls Mm 91 #[ZD s,ZE Z5 (p:Nat)] w λe w'=>e=.returned (rv (read (clOf p) (nameL (clOf p) (s.data.toList.take j)) (trimL NF (s.data.toList.drop (j+1)))))/\Below w.heap.size w w':=by
 have H9:=Dl (λw=>Hu p hp 9 w)
 have H10:=Dl (λw=>Hu p hp 10 w)
 have H12:=Dl (λw=>Hu p hp 12 w)
 have H14:=Dl (λw=>Hu p hp 14 w);have e1:s.extract 0 j=ba (s.data.toList.take j):=ba_ext XXf66;have e2:s.extract (j+1) s.size=ba (s.data.toList.drop (j+1)):=ba_ext XXabb;have HT:=Dl (λw=>rtrim_any (s.extract (j+1) s.size) w (by unfold maxLen;rw [Bs];omega));have hT:trim (s.extract (j+1) s.size)=ba (trimL NF (s.data.toList.drop (j+1))):=by rw [e2];rfl
 rw [hT] at HT;have hvl:(trimL NF (s.data.toList.drop (j+1))).length<=s.size:=Gl (trimL_length _ _) XXa22;have hnl:(s.data.toList.take j).length=j:=by rw [Fc,len];omega
 have E1:=Dl e1;have t0:((s[j].toNat:Int)==58)=true:=by rw [hc];rfl
 have HNC:=Dl (λk (h:k<s.size) (hk:k<j)=>not_colon s k h j hk hno);clear e1 e2 hT hno hc;generalize s.data.toList.take j=n0 at *;generalize trimL NF (s.data.toList.drop (j+1))=v1 at *;have hW:=Dl (show Below w.heap.size w (w.alloc (.cells #[ZD E0,ZD E0] 126)) from (AE _ _).alloc (Gi _) _);obtain ⟨R,hR⟩:∃R,rv (read (clOf p) (nameL (clOf p) n0) v1)=R:=⟨_,rfl⟩;rw [hR];have HR0:=Dl hR;clear hR;go_enter Tryz.func91,Tryz.ntmps91;go_upto_block 0 with fail
 go_cut [7,8] from 10 (λc i wx=>c=ZE Z7 (j:Nat)/\wx=w.alloc (.cells #[ZD E0,ZD E0] 126))
 case first=>
  go_wp2_with fail
  go_loop [7,8] (λc i=>(∃k:Nat,k<=j/\c=ZE Z7 (-1)/\i=ZE Z7 k)∨(c=ZE Z7 (j:Nat)/\i=ZE Z7 ((j+1:Nat):Int))) (λ_ i=>s.size-(intOf i).toNat)
  case atStart=>exact .inl ⟨0,Gz _,rfl,rfl⟩
  case round=>
   rcases hrel with ⟨k,hk,rfl,rfl⟩ | ⟨rfl,rfl⟩
   ·have hlt:k<s.size:=by omega
    rcases Gp k j with hkj | hkj
    ·have t1:=HNC.out k hlt hkj;clear t0;go_wp2;go_round
     case rel=>exact .inl ⟨k+1,ZZ,rfl,ZT⟩
     case measure=>simp [intOf];omega
    ·obtain rfl:k=j:=by omega
     go_wp2;go_round
     case rel=>exact .inr ⟨rfl,ZT⟩
     case measure=>simp [intOf];omega
   ·have q0:¬(j:Int)<0:=by omega
    go_wp2;all_goals
     go_meet
     case rel=>exact ⟨rfl,rfl⟩
 case rest=>
  obtain ⟨rfl,hw0⟩:=hcut;rw [hw0];clear hw0;have q0:¬(j:Int)<0:=ZZ;have q1:(0:Int)<=(j:Int):=ZZ;have q2:(j:Int)<=(s.size:Int):=ZZ;have q3:IntKind.i64.wrap ((j:Int)+1)=((j+1:Nat):Int):=by rw [wrap_in _ ZZ ZZ];omega
  have q4:((j+1:Nat):Int)<=(s.size:Int):=ZZ;have q5:(0:Int)<=((j+1:Nat):Int):=ZZ;go_upto_region 11 with fail
  go_cut [9] from 31 (λf wx=>f=ZA (some ⟨w.heap.size+1,0,none⟩)/\wx=((w.alloc (.cells #[ZD E0,ZD E0] 126)).alloc (.cells #[ZD (s.extract 0 j),ZD (ba v1)] 126)).drew)
  case first=>
   go_region_with (go_at_call 135;with_reducible refine Cm (HT.out _) ?_);all_goals
    go_wp2_with fail;go_meet
    case rel=>exact ⟨rfl,rfl⟩
  case rest=>
   obtain ⟨rfl,hw0⟩:=hcut;have hts:(w.alloc (.cells #[ZD E0,ZD E0] 126)).heap.size=w.heap.size+1:=ZW;have HX:=(Two.new (Keep.new w 126 E0 E0) 126 (s.extract 0 j) (ba v1)).drew 1;rw [hts,E1.out] at HX;rw [E1.out] at hw0
   replace HX:=Dl (show Two w E0 E0 (w.heap.size+1) (ba n0) (ba v1) wc by rw [hw0];exact HX)
   clear hw0 hts hW HT E1 HNC t0 q0 q1 q2 q3 q4 q5;have htz:w.heap.size+1=w.heap.size+1:=rfl;generalize w.heap.size+1=t at *;clear htz;have hnf:∀x,nameL (clOf p) x=if Hs p 9=true then trimEnd x else x:=λ_=>rfl
   obtain ⟨sp,hsp⟩:∃sp,Hs p 9=sp:=⟨_,rfl⟩;rw [hsp] at H9 hnf;clear hsp;have HNF:=Dl hnf;clear hnf;have hn1l:=nameL_le (clOf p) n0;rw [hnl] at hn1l;go_upto_block 2 with fail
   go_cut [] from 40 (λwx=>Hid (Two w E0 E0 t (ba (nameL (clOf p) n0)) (ba v1) wx))
   case first=>
    go_wp2_with fail
    go_loopw [] (λwr=>∃m:Nat,m<=j/\Hid (Two w E0 E0 t (ba (n0.take m)) (ba v1) wr)/\Hid (nameL (clOf p) (n0.take m)=nameL (clOf p) n0)) (λwr=>nameAt t wr)
    case atStart=>exact ⟨j,Gi _,Dl (by rw [FF ZZ];exact HX.out),Dl (by rw [FF ZZ])⟩
    case round=>
     obtain ⟨m,hm,HY,HR⟩:=hrel;obtain ⟨⟨⟨c0,c1,z0,z1⟩,hg,hbk⟩,⟨d0,d1,y0,y1⟩,hne,hlt,hge⟩:=HY.out;have hna:=nameAt_of d0;clear c0 c1 z0 z1 hg hbk hlt hge;cases sp with
     | false=>
       have HZ:=Dl (show Two w E0 E0 t (ba (nameL (clOf p) n0)) (ba v1) wr by rw [←HR.out,HNF.out,ZO ZX];exact HY.out);exact XXFaQ
     | true=>
       rcases m with _ | m
       ·have HZ:=Dl (show Two w E0 E0 t (ba (nameL (clOf p) n0)) (ba v1) wr by
         rw [←HR.out,HNF.out,ZN rfl];exact HY.out)
        rw [show ba (n0.take 0)=E0 from rfl] at d0;exact XXFaQ
       ·have hml:m<n0.length:=by omega
        have htk:=FG hml;obtain ⟨Nn,hNn,hsz,⟨z2,hat⟩,hex⟩:=last_of n0 m hml;rw [hNn] at d0 hna;have hno:=first_no Nn ZZ;have HB:Hid (∀w,Calls Mm 136 #[ZE Z6 (Nn[m].toNat:Int)] w λe w'=>e=.returned (ZB (NF n0[m]))/\w'=w):=Dl λw=>by
         have:=Oct.rblank_any (Nn[m].toNat:Int) w;rw [blank_is] at this
         rwa [show NF Nn[m]=NF n0[m] from ZH _ hat] at this
        have z1:IntKind.i64.wrap ((Nn.size:Int)-1)=(m:Int):=by rw [wrap_in _ ZZ ZZ];omega
        have z3:(m:Int)<(Nn.size:Int):=ZZ;have z4:(m:Int)<=(Nn.size:Int):=ZZ;have z5:(0:Int)<=(m:Int):=ZZ;cases hb:NF n0[m] with
        | false=>
          rw [hb] at HB
          have HZ:=Dl (show Two w E0 E0 t (ba (nameL (clOf p) n0)) (ba v1) wr by rw [←HR.out,HNF.out,ZN rfl,htk,trimEnd_stop _ _ hb,←htk];exact HY.out);clear hb htk HY HR hex hat hNn
          go_wp2_with (first
           |(go_at_call 44;with_reducible refine Cm (H9.out _) ?_)
           |(go_at_call 136;with_reducible refine Cm (HB.out _) ?_))
          go_meet
          case rel=>exact HZ
        | true=>
          rw [hb] at HB
          have HY2:=Dl (HY.out.set0 (Nn.extract 0 m))
          have HR2:=Dl (show nameL (clOf p) (n0.take m)=nameL (clOf p) n0 by rw [←HR.out,HNF.out,HNF.out,ZN rfl,ZN rfl,htk,trimEnd_snoc _ _ hb]);have HE:=Dl hex;clear hb htk HY HR hex hat hNn
          go_wp2_with (first
           |(go_at_call 44;with_reducible refine Cm (H9.out _) ?_)
           |(go_at_call 136;with_reducible refine Cm (HB.out _) ?_))
          have hd:=HY2.out.f.c0;have hs2:(Nn.extract 0 m).size=m:=by rw [Bs];omega
          rw [HE.out] at HY2;go_roundw
          case rel=>exact ⟨m,ZZ,by first | exact HY2 |(rw [HE.out];exact HY2),HR2⟩
          case measure=>rw [nameAt_of hd,hna];omega
   case rest=>
    clear HX;have HX:=hcut;clear hcut H9 HNF;generalize nameL (clOf p) n0=n1 at *;by_cases hn:n1= []
    ·subst hn;have hRv:R=rv (out (Hs p 12)):=by rw [←HR0.out];rfl
     clear HR0;generalize Hs p 12=nn at *;obtain ⟨⟨⟨c0,c1,z0,z1⟩,hg,hbk⟩,⟨d0,d1,y0,y1⟩,hne,hlt,hge⟩:=HX.out;obtain ⟨W9,hW9,⟨r0,r1,_,_⟩,hbW⟩:=Fb.put HX.out.k.f HX.out.k.b (Gi _) E0 E0;rw [show ba []=E0 from rfl] at d0;clear hg hbk hlt hge;cases nn
     ·go_wp2_with (go_at_call 44;with_reducible refine Cm (H12.out _) ?_);try rw [hW9]
      exact XXfct
     ·go_wp2_with (go_at_call 44;with_reducible refine Cm (H12.out _) ?_);try rw [hW9]
      exact ZF (v:=Z8 #[fv E0 E0,ZB false,ZE Z7 0]) (by simp [results,M4,go_sem,r0,r1]) rfl ⟨by first | rfl |(rw [hRv];rfl),hbW⟩
    ·have t0:=first_no (ba n1) (ba_pos hn)
     have HN:=Dl (λw a (hk:Ints w a 1 [1])=>Oct.rall_any (ba n1) a 1 1 [1] w XX1Z9 hk ZX);have HV:=Dl (λw a (hk:Ints w a 1 [6])=>Oct.rall_any (ba v1) a 1 1 [6] w XX1Z9 hk ZX);rw [show (ba n1).data.toList=n1 from rfl] at HN;rw [show (ba v1).data.toList=v1 from rfl] at HV;obtain ⟨G,hG⟩:∃G,(!(goodN (clOf p) n1&&goodV (clOf p) v1))=G:=⟨_,rfl⟩
     have HG:=Dl (show G= !((Hs p 10||GA [1] n1)&&(Hs p 14||GA [6] v1)) from hG.symm)
     have HRv:=Dl (show R=if G=true then rv none else rv (some (some (n1,v1))) by rw [←HR0.out,←hG];unfold read;rw [ZO hn];cases (goodN (clOf p) n1&&goodV (clOf p) v1)<;>rfl);have HF:Hid (rv (some (some (n1,v1)))=Z8 #[fv (ba n1) (ba v1),ZB true,ZE Z7 0]):=Dl rfl;clear hG HR0 hn hnl hvl hn1l H12;generalize ba n1=N1 at *;generalize ba v1=V1 at *;obtain ⟨⟨⟨c0,c1,z0,z1⟩,hg,hbk⟩,⟨d0,d1,y0,y1⟩,hne,hlt,hge⟩:=HX.out;clear hg hbk hlt hge c0 c1 z0 z1;go_upto_region 18 with fail
     go_cut [93] from 72 (λv wx=>v=ZB G/\Hid (Two w E0 E0 t N1 V1 wx))
     case first=>
      clear HRv HF t0;generalize Hs p 10=nb at *;generalize Hs p 14=vb at *;generalize GA [1] n1=tn at *;generalize GA [6] v1=tv at *;have hGG:=HG.out;clear HG;cases nb<;>cases tn<;>cases vb<;>cases tv;all_goals
       obtain rfl:=hGG
       go_wp2_with (first
        |(go_at_call 44;with_reducible refine Cm (H10.out _) ?_)
        |(go_at_call 44;with_reducible refine Cm (H14.out _) ?_)
        |(go_at_call 137;(with_reducible refine (HV.out _ _ (CO _ _ rfl _ _)).mono ?_);rintro e w1 ⟨rfl,m,hw⟩
          replace HX:=Dl ((HX.out.step ((AE _ _).alloc (Gi _) (.cells #[ZE Z7 6] 3))).drew m)
          rw [←hw] at HX;clear hw)
        |(go_at_call 137;(with_reducible refine (HN.out _ _ (CO _ _ rfl _ _)).mono ?_);rintro e w1 ⟨rfl,m,hw⟩
          replace HX:=Dl ((HX.out.step ((AE _ _).alloc (Gi _) (.cells #[ZE Z7 1] 3))).drew m)
          rw [←hw] at HX;clear hw d0 d1 y0 y1;obtain ⟨d0,d1,y0,y1⟩:=HX.out.f))
       go_meet
       case rel=>exact ⟨ZV,HX⟩
     case rest=>
      obtain ⟨rfl,HY⟩:=hcut;clear HX HG d0 d1 y0 y1 t0 HN HV H10 H14;obtain ⟨⟨⟨c0,c1,z0,z1⟩,hg,hbk⟩,⟨d0,d1,y0,y1⟩,hne,hlt,hge⟩:=HY.out;clear hg hbk hlt hge;cases G with
      | true=>
        have hRv:=HRv.out;rw [ZN rfl] at hRv;obtain ⟨W9,hW9,⟨r0,r1,_,_⟩,hbW⟩:=Fb.put HY.out.k.f HY.out.k.b (Gi _) E0 E0;go_wp2_with fail;try rw [hW9]
        exact XXfct
      | false=>
        have hRv:=HRv.out;rw [ZO ZX,HF.out] at hRv;obtain ⟨W9,hW9,⟨r0,r1,_,_⟩,hbW⟩:=Fb.put HY.out.k.f HY.out.k.b (Gi _) N1 V1;go_wp2_with fail;try rw [hW9]
        exact ZF (v:=Z8 #[fv N1 V1,ZB true,ZE Z7 0]) (by simp [results,M4,go_sem,r0,r1]) rfl ⟨by first | rfl | rw [hRv],hbW⟩
theorem rparse_any (s:ByteArray) (p:Nat) (hp:p<4294967296) (w:World) (hs:s.size<=1000000000):Calls Mm 91 #[ZD s,ZE Z5 (p:Nat)] w λe w'=>e=.returned (rv (parse (clOf p) s.data.toList))/\Below w.heap.size w w':=by
 rcases colon_cases s.data.toList with ⟨h1,h2⟩ | ⟨j,hj,h1,h2,h3,h4,h5⟩
 ·have:=rparse_none s p hp w hs h1;unfold parse;rw [ZO (by rw [h2];decide)];exact this
 ·have:=rparse_some s p hp w hs j (by rw [←len];exact hj) h1 h2;unfold parse;rw [ZN h5,h3,h4];exact this
end
end Fd
namespace Rec
open Base Txt
def atV (n:Nat) (zs:List Int) (i:Int):Int:=if n=0 then i%256 else (zs[i.toNat%n]?.getD 0+wrap64 (wrap64 (Int.tdiv i n)*41)%256)%256
def neatM:List ByteArray:= [⟨#[71,69,84]⟩,⟨#[80,79,83,84]⟩,⟨#[80,85,84]⟩,⟨#[68,69,76,69,84,69]⟩,⟨#[72,69,65,68]⟩]
def neatX:List ByteArray:= [⟨#[47]⟩,⟨#[47,97]⟩,⟨#[47,97,47,98,63,120,61,49]⟩,⟨#[47,118,49,47,105,116,101,109,47,55]⟩,⟨#[47,115,116,97,116,105,99,47,99,115,115,47,109,46,99,115,115]⟩,⟨#[104,116,116,112,58,47,47,97,47,113]⟩]
def neatH:List ByteArray:= [⟨#[97]⟩,⟨#[104,46,111,114,103]⟩]
def neatF:List Fld:= [(⟨#[65]⟩,⟨#[98]⟩),(⟨#[88,45,89]⟩,⟨#[122]⟩),(⟨#[65,99,99,101,112,116]⟩,⟨#[42,47,42]⟩),(⟨#[67,111,111,107,105,101]⟩,⟨#[97,61,49]⟩)]
def neatB:List UInt8:= [48,49,50,51,52,53,54,55,56,57,97,98,99,100,101,102]
def FsR (x:ByteArray) (fs:List Fld):Prop:=∃gs:List Fld,fs=(⟨#[72,111,115,116]⟩,x)::gs/\∀g∈gs,g∈neatF
structure NeatR (r:R):Prop where
 m:r.m∈neatM
 x:r.x∈neatX
 k:r.k=1
 fs:∃h∈neatH,∃gs:List Fld,r.fs=(⟨#[72,111,115,116]⟩,h)::gs/\gs.length<=2/\∀g∈gs,g∈neatF
 body:∃n,n<=15/\r.body=neatB.take n
 ts:r.ts= []∨r.ts= [(⟨#[84]⟩,⟨#[117]⟩)]
section
end
end Rec
namespace Pg
open Base Txt Par
abbrev lineB (x:Int):Bd:=⟨x,32,8192,65536,32,8,4,20,true,true⟩
def tgtL (m:Nat):List UInt8:=([71,69,84,32,47]++Fz m 97) ++ [32,72,84,84,80,47,49,46,49]
end Pg
namespace Rq
open Base Txt
theorem strs_at (w:World) (t:TypeId) (ss:List ByteArray) (k:Nat) (hk:k<ss.length):(w.alloc (.cells ((ss.map Value.string).toArray) t)).cell? ⟨w.heap.size,k,none⟩=some (ZD (ss[k]?.getD Bp)):=by rw [cell_of_row (w.alloc _) w.heap.size k _ t (0,0) (heap_alloc_new w _)];simp [Et hk]
theorem val_at (ss:List ByteArray) (k:Nat) (hk:k<ss.length):(ss.map Value.string)[k]'(by rw [EV];exact hk)=ZD (ss[k]?.getD Bp):=by simp [Et hk]
theorem size_at (ss:List ByteArray) (m:Nat) (h:ss.all (λx=>decide (x.size<=m))=true) (k:Nat) (hk:k<ss.length):(ss[k]?.getD Bp).size<=m:=by
 rw [D5] at h;rw [Et hk,GW]
 simpa using h _ (EB hk)
theorem tgts_at (k:Nat) (hk:k<12):∃X:ByteArray,X.size<=17/\(∀w:World,(w.alloc (.cells #[ZD ⟨#[47]⟩,ZD ⟨#[47,97]⟩,ZD ⟨#[47,97,47,98,63,120,61,49]⟩,ZD ⟨#[47,97,47,46,46,47,98]⟩,ZD ⟨#[47,37,52,49,47,99]⟩,ZD ⟨#[42]⟩,ZD ⟨#[104,116,116,112,58,47,47,104,46,111,114,103,47,113,63]⟩,ZD ⟨#[47,118,49,47,105,116,101,109,47,55]⟩,ZD ⟨#[47,120,32,121]⟩,ZD ⟨#[47,113,1]⟩,ZD ⟨#[47,115,116,97,116,105,99,47,99,115,115,47,109,46,99,115,115]⟩,ZD ⟨#[104,116,116,112,58,47,47,97]⟩] 9)).cell? ⟨w.heap.size,k,none⟩=some (ZD X))/\∀hh,([ZD ⟨#[47]⟩,ZD ⟨#[47,97]⟩,ZD ⟨#[47,97,47,98,63,120,61,49]⟩,ZD ⟨#[47,97,47,46,46,47,98]⟩,ZD ⟨#[47,37,52,49,47,99]⟩,ZD ⟨#[42]⟩,ZD ⟨#[104,116,116,112,58,47,47,104,46,111,114,103,47,113,63]⟩,ZD ⟨#[47,118,49,47,105,116,101,109,47,55]⟩,ZD ⟨#[47,120,32,121]⟩,ZD ⟨#[47,113,1]⟩,ZD ⟨#[47,115,116,97,116,105,99,47,99,115,115,47,109,46,99,115,115]⟩,ZD ⟨#[104,116,116,112,58,47,47,97]⟩]:List Value)[k]'hh=ZD X:=
 ⟨_,size_at [⟨#[47]⟩,⟨#[47,97]⟩,⟨#[47,97,47,98,63,120,61,49]⟩,⟨#[47,97,47,46,46,47,98]⟩,⟨#[47,37,52,49,47,99]⟩,⟨#[42]⟩,⟨#[104,116,116,112,58,47,47,104,46,111,114,103,47,113,63]⟩,⟨#[47,118,49,47,105,116,101,109,47,55]⟩,⟨#[47,120,32,121]⟩,⟨#[47,113,1]⟩,⟨#[47,115,116,97,116,105,99,47,99,115,115,47,109,46,99,115,115]⟩,⟨#[104,116,116,112,58,47,47,97]⟩] 17 ZX k hk,λw=>strs_at w 9 [⟨#[47]⟩,⟨#[47,97]⟩,⟨#[47,97,47,98,63,120,61,49]⟩,⟨#[47,97,47,46,46,47,98]⟩,⟨#[47,37,52,49,47,99]⟩,⟨#[42]⟩,⟨#[104,116,116,112,58,47,47,104,46,111,114,103,47,113,63]⟩,⟨#[47,118,49,47,105,116,101,109,47,55]⟩,⟨#[47,120,32,121]⟩,⟨#[47,113,1]⟩,⟨#[47,115,116,97,116,105,99,47,99,115,115,47,109,46,99,115,115]⟩,⟨#[104,116,116,112,58,47,47,97]⟩] k hk,λhh=>by
   have h2:=val_at [⟨#[47]⟩,⟨#[47,97]⟩,⟨#[47,97,47,98,63,120,61,49]⟩,⟨#[47,97,47,46,46,47,98]⟩,⟨#[47,37,52,49,47,99]⟩,⟨#[42]⟩,⟨#[104,116,116,112,58,47,47,104,46,111,114,103,47,113,63]⟩,⟨#[47,118,49,47,105,116,101,109,47,55]⟩,⟨#[47,120,32,121]⟩,⟨#[47,113,1]⟩,⟨#[47,115,116,97,116,105,99,47,99,115,115,47,109,46,99,115,115]⟩,⟨#[104,116,116,112,58,47,47,97]⟩] k hk
   exact h2⟩
theorem meths_at (k:Nat) (hk:k<8):∃X:ByteArray,X.size<=7/\(∀w:World,(w.alloc (.cells #[ZD ⟨#[71,69,84]⟩,ZD ⟨#[80,79,83,84]⟩,ZD ⟨#[79,80,84,73,79,78,83]⟩,ZD ⟨#[72,69,65,68]⟩,ZD ⟨#[80,85,84]⟩,ZD ⟨#[68,69,76,69,84,69]⟩,ZD ⟨#[71,40,84]⟩,ZD ⟨#[67,79,78,78,69,67,84]⟩] 9)).cell? ⟨w.heap.size,k,none⟩=some (ZD X))/\∀hh,([ZD ⟨#[71,69,84]⟩,ZD ⟨#[80,79,83,84]⟩,ZD ⟨#[79,80,84,73,79,78,83]⟩,ZD ⟨#[72,69,65,68]⟩,ZD ⟨#[80,85,84]⟩,ZD ⟨#[68,69,76,69,84,69]⟩,ZD ⟨#[71,40,84]⟩,ZD ⟨#[67,79,78,78,69,67,84]⟩]:List Value)[k]'hh=ZD X:=
 ⟨_,size_at [⟨#[71,69,84]⟩,⟨#[80,79,83,84]⟩,⟨#[79,80,84,73,79,78,83]⟩,⟨#[72,69,65,68]⟩,⟨#[80,85,84]⟩,⟨#[68,69,76,69,84,69]⟩,⟨#[71,40,84]⟩,⟨#[67,79,78,78,69,67,84]⟩] 7 ZX k hk,λw=>strs_at w 9 [⟨#[71,69,84]⟩,⟨#[80,79,83,84]⟩,⟨#[79,80,84,73,79,78,83]⟩,⟨#[72,69,65,68]⟩,⟨#[80,85,84]⟩,⟨#[68,69,76,69,84,69]⟩,⟨#[71,40,84]⟩,⟨#[67,79,78,78,69,67,84]⟩] k hk,λhh=>by
   have h2:=val_at [⟨#[71,69,84]⟩,⟨#[80,79,83,84]⟩,⟨#[79,80,84,73,79,78,83]⟩,⟨#[72,69,65,68]⟩,⟨#[80,85,84]⟩,⟨#[68,69,76,69,84,69]⟩,⟨#[71,40,84]⟩,⟨#[67,79,78,78,69,67,84]⟩] k hk
   exact h2⟩
theorem gaps_at (k:Nat) (hk:k<4):∃X:ByteArray,X.size<=3/\(∀w:World,(w.alloc (.cells #[ZD ⟨#[32]⟩,ZD ⟨#[32,32]⟩,ZD ⟨#[9]⟩,ZD ⟨#[32,9,32]⟩] 9)).cell? ⟨w.heap.size,k,none⟩=some (ZD X))/\∀hh,([ZD ⟨#[32]⟩,ZD ⟨#[32,32]⟩,ZD ⟨#[9]⟩,ZD ⟨#[32,9,32]⟩]:List Value)[k]'hh=ZD X:=
 ⟨_,size_at [⟨#[32]⟩,⟨#[32,32]⟩,⟨#[9]⟩,⟨#[32,9,32]⟩] 3 ZX k hk,λw=>strs_at w 9 [⟨#[32]⟩,⟨#[32,32]⟩,⟨#[9]⟩,⟨#[32,9,32]⟩] k hk,λhh=>by
   have h2:=val_at [⟨#[32]⟩,⟨#[32,32]⟩,⟨#[9]⟩,⟨#[32,9,32]⟩] k hk
   exact h2⟩
theorem vers_at (k:Nat) (hk:k<6):∃X:ByteArray,X.size<=8/\(∀w:World,(w.alloc (.cells #[ZD ⟨#[72,84,84,80,47,49,46,49]⟩,ZD ⟨#[72,84,84,80,47,49,46,48]⟩,ZD ⟨#[72,84,84,80,47,49,46,55]⟩,ZD ⟨#[104,116,116,112,47,49,46,49]⟩,ZD ⟨#[72,84,84,80,47,50,46,48]⟩,ZD ⟨#[72,84,84,80,47,49,46,49]⟩] 9)).cell? ⟨w.heap.size,k,none⟩=some (ZD X))/\∀hh,([ZD ⟨#[72,84,84,80,47,49,46,49]⟩,ZD ⟨#[72,84,84,80,47,49,46,48]⟩,ZD ⟨#[72,84,84,80,47,49,46,55]⟩,ZD ⟨#[104,116,116,112,47,49,46,49]⟩,ZD ⟨#[72,84,84,80,47,50,46,48]⟩,ZD ⟨#[72,84,84,80,47,49,46,49]⟩]:List Value)[k]'hh=ZD X:=
 ⟨_,size_at [⟨#[72,84,84,80,47,49,46,49]⟩,⟨#[72,84,84,80,47,49,46,48]⟩,⟨#[72,84,84,80,47,49,46,55]⟩,⟨#[104,116,116,112,47,49,46,49]⟩,⟨#[72,84,84,80,47,50,46,48]⟩,⟨#[72,84,84,80,47,49,46,49]⟩] 8 ZX k hk,λw=>strs_at w 9 [⟨#[72,84,84,80,47,49,46,49]⟩,⟨#[72,84,84,80,47,49,46,48]⟩,⟨#[72,84,84,80,47,49,46,55]⟩,⟨#[104,116,116,112,47,49,46,49]⟩,⟨#[72,84,84,80,47,50,46,48]⟩,⟨#[72,84,84,80,47,49,46,49]⟩] k hk,λhh=>by
   have h2:=val_at [⟨#[72,84,84,80,47,49,46,49]⟩,⟨#[72,84,84,80,47,49,46,48]⟩,⟨#[72,84,84,80,47,49,46,55]⟩,⟨#[104,116,116,112,47,49,46,49]⟩,⟨#[72,84,84,80,47,50,46,48]⟩,⟨#[72,84,84,80,47,49,46,49]⟩] k hk
   exact h2⟩
section
attribute [local go_sem] A8
theorem line_any (a b:Nat) (ha:a<256) (hb:b<256) (w:World):Calls Mm 107 #[ZE Z6 a,ZE Z6 b] w λe w'=>(∃L:ByteArray,e=.returned (ZD L)/\L.size<=60)/\Below w.heap.size w w':=by
 obtain ⟨u,hu⟩:∃u,b%12=u:=⟨_,rfl⟩;obtain ⟨v,hv⟩:∃v,a%8=v:=⟨_,rfl⟩;obtain ⟨z,hz⟩:∃z,b%4=z:=⟨_,rfl⟩;obtain ⟨y,hy⟩:∃y,a%6=y:=⟨_,rfl⟩;have iu:(b:Int)%12=(u:Int):=ZZ;have iv:(a:Int)%8=(v:Int):=ZZ;have iz:(b:Int)%4=(z:Int):=ZZ;have iy:(a:Int)%6=(y:Int):=ZZ;have lu:u<12:=ZZ;have lv:v<8:=ZZ;have lz:z<4:=ZZ;have ly:y<6:=ZZ;clear hu hv hz hy;obtain ⟨X1,z1,c1,d1⟩:=tgts_at u lu;obtain ⟨X2,z2,c2,d2⟩:=meths_at v lv;obtain ⟨X3,z3,c3,d3⟩:=gaps_at z lz;obtain ⟨X4,z4,c4,d4⟩:=vers_at y ly;have hA:200<=a∨(a<200/\5<v/\7<u/\¬u=10)∨(a<200/\5<v/\u=10)∨(a<200/\5<v/\u<=7)∨(a<200/\v<=5/\7<u/\¬u=10/\¬u=5)∨(a<200/\v<=5/\u=10)∨(a<200/\v<=5/\u=5)∨(a<200/\v<=5/\u<=7/\¬u=5):=ZZ;have hB:200<b∨b=199∨(b<=200/\¬b=199):=ZZ;rcases hA with h | ⟨h,h1,h2,h3⟩ | ⟨h,h1,rfl⟩ | ⟨h,h1,h2⟩ | ⟨h,h1,h2,h3,h4⟩ | ⟨h,h1,rfl⟩ | ⟨h,h1,rfl⟩ | ⟨h,h1,h2,h3⟩;all_goals
  rcases hB with k1 | rfl | ⟨k1,k2⟩
  all_goals try (exfalso;omega)
  all_goals
   go_enter Tryz.func107,Tryz.ntmps107;go_wp2_with fail;all_goals
    go_ret;refine ⟨⟨_,rfl,?_⟩,?_⟩
    ·simp only [Br,len_mk,EP,EW];omega
    ·repeat (first | exact AE _ _ | with_reducible refine AB ?_ ?_ _)
     all_goals (simp;try omega)
end
end Rq
namespace Rq
open Base Txt
theorem ends_at (k:Nat) (hk:k<4):∃X:ByteArray,X.size<=3/\(∀w:World,(w.alloc (.cells #[ZD ⟨#[10]⟩,ZD ⟨#[13]⟩,ZD ⟨#[13,13,10]⟩,ZD ⟨#[10,10]⟩] 9)).cell? ⟨w.heap.size,k,none⟩=some (ZD X))/\∀hh,([ZD ⟨#[10]⟩,ZD ⟨#[13]⟩,ZD ⟨#[13,13,10]⟩,ZD ⟨#[10,10]⟩]:List Value)[k]'hh=ZD X:=
 ⟨_,size_at [⟨#[10]⟩,⟨#[13]⟩,⟨#[13,13,10]⟩,⟨#[10,10]⟩] 3 ZX k hk,λw=>strs_at w 9 [⟨#[10]⟩,⟨#[13]⟩,⟨#[13,13,10]⟩,⟨#[10,10]⟩] k hk,λhh=>by
   have h2:=val_at [⟨#[10]⟩,⟨#[13]⟩,⟨#[13,13,10]⟩,⟨#[10,10]⟩] k hk
   exact h2⟩
theorem good_at (k:Nat) (hk:k<16):∃X:ByteArray,X.size<=34/\(∀w:World,(w.alloc (.cells #[ZD ⟨#[72,111,115,116,58,32,104,46,111,114,103]⟩,ZD ⟨#[72,111,115,116,58,32,97]⟩,ZD ⟨#[65,58,32,98]⟩,ZD ⟨#[88,45,89,58,32,32,122,32]⟩,ZD ⟨#[65,99,99,101,112,116,58,32,42,47,42]⟩,ZD ⟨#[79,114,105,103,105,110,58,32,104,116,116,112,58,47,47,111,46,111,114,103]⟩,ZD ⟨#[65,117,116,104,111,114,105,122,97,116,105,111,110,58,32,66,97,115,105,99,32,100,84,112,119]⟩,ZD ⟨#[67,111,110,110,101,99,116,105,111,110,58,32,107,101,101,112,45,97,108,105,118,101]⟩,ZD ⟨#[67,111,111,107,105,101,58,32,97,61,49,44,32,98,61,50]⟩,ZD ⟨#[69,120,112,101,99,116,58,32,49,48,48,45,99,111,110,116,105,110,117,101]⟩,ZD ⟨#[85,112,103,114,97,100,101,58,32,120]⟩,ZD ⟨#[88,45,70,111,114,119,97,114,100,101,100,45,70,111,114,58,32,49,46,50,46,51,46,52]⟩,ZD ⟨#[67,111,110,110,101,99,116,105,111,110,58,32,88,45,89]⟩,ZD ⟨#[84,69,58,32,116,114,97,105,108,101,114,115]⟩,ZD ⟨#[86,105,97,58,32,49,46,48,32,113]⟩,ZD ⟨#[65,99,99,101,115,115,45,67,111,110,116,114,111,108,45,82,101,113,117,101,115,116,45,77,101,116,104,111,100,58,32,80,85,84]⟩] 9)).cell? ⟨w.heap.size,k,none⟩=some (ZD X))/\∀hh,([ZD ⟨#[72,111,115,116,58,32,104,46,111,114,103]⟩,ZD ⟨#[72,111,115,116,58,32,97]⟩,ZD ⟨#[65,58,32,98]⟩,ZD ⟨#[88,45,89,58,32,32,122,32]⟩,ZD ⟨#[65,99,99,101,112,116,58,32,42,47,42]⟩,ZD ⟨#[79,114,105,103,105,110,58,32,104,116,116,112,58,47,47,111,46,111,114,103]⟩,ZD ⟨#[65,117,116,104,111,114,105,122,97,116,105,111,110,58,32,66,97,115,105,99,32,100,84,112,119]⟩,ZD ⟨#[67,111,110,110,101,99,116,105,111,110,58,32,107,101,101,112,45,97,108,105,118,101]⟩,ZD ⟨#[67,111,111,107,105,101,58,32,97,61,49,44,32,98,61,50]⟩,ZD ⟨#[69,120,112,101,99,116,58,32,49,48,48,45,99,111,110,116,105,110,117,101]⟩,ZD ⟨#[85,112,103,114,97,100,101,58,32,120]⟩,ZD ⟨#[88,45,70,111,114,119,97,114,100,101,100,45,70,111,114,58,32,49,46,50,46,51,46,52]⟩,ZD ⟨#[67,111,110,110,101,99,116,105,111,110,58,32,88,45,89]⟩,ZD ⟨#[84,69,58,32,116,114,97,105,108,101,114,115]⟩,ZD ⟨#[86,105,97,58,32,49,46,48,32,113]⟩,ZD ⟨#[65,99,99,101,115,115,45,67,111,110,116,114,111,108,45,82,101,113,117,101,115,116,45,77,101,116,104,111,100,58,32,80,85,84]⟩]:List Value)[k]'hh=ZD X:=
 ⟨_,size_at [⟨#[72,111,115,116,58,32,104,46,111,114,103]⟩,⟨#[72,111,115,116,58,32,97]⟩,⟨#[65,58,32,98]⟩,⟨#[88,45,89,58,32,32,122,32]⟩,⟨#[65,99,99,101,112,116,58,32,42,47,42]⟩,⟨#[79,114,105,103,105,110,58,32,104,116,116,112,58,47,47,111,46,111,114,103]⟩,⟨#[65,117,116,104,111,114,105,122,97,116,105,111,110,58,32,66,97,115,105,99,32,100,84,112,119]⟩,⟨#[67,111,110,110,101,99,116,105,111,110,58,32,107,101,101,112,45,97,108,105,118,101]⟩,⟨#[67,111,111,107,105,101,58,32,97,61,49,44,32,98,61,50]⟩,⟨#[69,120,112,101,99,116,58,32,49,48,48,45,99,111,110,116,105,110,117,101]⟩,⟨#[85,112,103,114,97,100,101,58,32,120]⟩,⟨#[88,45,70,111,114,119,97,114,100,101,100,45,70,111,114,58,32,49,46,50,46,51,46,52]⟩,⟨#[67,111,110,110,101,99,116,105,111,110,58,32,88,45,89]⟩,⟨#[84,69,58,32,116,114,97,105,108,101,114,115]⟩,⟨#[86,105,97,58,32,49,46,48,32,113]⟩,⟨#[65,99,99,101,115,115,45,67,111,110,116,114,111,108,45,82,101,113,117,101,115,116,45,77,101,116,104,111,100,58,32,80,85,84]⟩] 34 ZX k hk,λw=>strs_at w 9 [⟨#[72,111,115,116,58,32,104,46,111,114,103]⟩,⟨#[72,111,115,116,58,32,97]⟩,⟨#[65,58,32,98]⟩,⟨#[88,45,89,58,32,32,122,32]⟩,⟨#[65,99,99,101,112,116,58,32,42,47,42]⟩,⟨#[79,114,105,103,105,110,58,32,104,116,116,112,58,47,47,111,46,111,114,103]⟩,⟨#[65,117,116,104,111,114,105,122,97,116,105,111,110,58,32,66,97,115,105,99,32,100,84,112,119]⟩,⟨#[67,111,110,110,101,99,116,105,111,110,58,32,107,101,101,112,45,97,108,105,118,101]⟩,⟨#[67,111,111,107,105,101,58,32,97,61,49,44,32,98,61,50]⟩,⟨#[69,120,112,101,99,116,58,32,49,48,48,45,99,111,110,116,105,110,117,101]⟩,⟨#[85,112,103,114,97,100,101,58,32,120]⟩,⟨#[88,45,70,111,114,119,97,114,100,101,100,45,70,111,114,58,32,49,46,50,46,51,46,52]⟩,⟨#[67,111,110,110,101,99,116,105,111,110,58,32,88,45,89]⟩,⟨#[84,69,58,32,116,114,97,105,108,101,114,115]⟩,⟨#[86,105,97,58,32,49,46,48,32,113]⟩,⟨#[65,99,99,101,115,115,45,67,111,110,116,114,111,108,45,82,101,113,117,101,115,116,45,77,101,116,104,111,100,58,32,80,85,84]⟩] k hk,λhh=>by
   have h2:=val_at [⟨#[72,111,115,116,58,32,104,46,111,114,103]⟩,⟨#[72,111,115,116,58,32,97]⟩,⟨#[65,58,32,98]⟩,⟨#[88,45,89,58,32,32,122,32]⟩,⟨#[65,99,99,101,112,116,58,32,42,47,42]⟩,⟨#[79,114,105,103,105,110,58,32,104,116,116,112,58,47,47,111,46,111,114,103]⟩,⟨#[65,117,116,104,111,114,105,122,97,116,105,111,110,58,32,66,97,115,105,99,32,100,84,112,119]⟩,⟨#[67,111,110,110,101,99,116,105,111,110,58,32,107,101,101,112,45,97,108,105,118,101]⟩,⟨#[67,111,111,107,105,101,58,32,97,61,49,44,32,98,61,50]⟩,⟨#[69,120,112,101,99,116,58,32,49,48,48,45,99,111,110,116,105,110,117,101]⟩,⟨#[85,112,103,114,97,100,101,58,32,120]⟩,⟨#[88,45,70,111,114,119,97,114,100,101,100,45,70,111,114,58,32,49,46,50,46,51,46,52]⟩,⟨#[67,111,110,110,101,99,116,105,111,110,58,32,88,45,89]⟩,⟨#[84,69,58,32,116,114,97,105,108,101,114,115]⟩,⟨#[86,105,97,58,32,49,46,48,32,113]⟩,⟨#[65,99,99,101,115,115,45,67,111,110,116,114,111,108,45,82,101,113,117,101,115,116,45,77,101,116,104,111,100,58,32,80,85,84]⟩] k hk
   exact h2⟩
theorem odd_at (k:Nat) (hk:k<22):∃X:ByteArray,X.size<=36/\(∀w:World,(w.alloc (.cells #[ZD ⟨#[72,111,115,116,32,58,32,97]⟩,ZD ⟨#[40,120,58,32,49]⟩,ZD ⟨#[110,111,118,97,108,117,101]⟩,ZD ⟨#[58,32,110,97,109,101,108,101,115,115]⟩,ZD ⟨#[32,102,111,108,100,101,100]⟩,ZD ⟨#[9,102,111,108,100,101,100,58,32,116,111,111]⟩,ZD ⟨#[86,58,32,97,1,98]⟩,ZD ⟨#[84,114,97,110,115,102,101,114,45,69,110,99,111,100,105,110,103,58,32,103,122,105,112]⟩,ZD ⟨#[84,114,97,110,115,102,101,114,45,69,110,99,111,100,105,110,103,58,32,103,122,105,112,44,32,99,104,117,110,107,101,100]⟩,ZD ⟨#[84,114,97,110,115,102,101,114,45,69,110,99,111,100,105,110,103,58,32,11,99,104,117,110,107,101,100]⟩,ZD ⟨#[84,114,97,110,115,102,101,114,45,69,110,99,111,100,105,110,103,58,32,67,104,117,110,107,101,100]⟩,ZD ⟨#[67,111,110,116,101,110,116,45,76,101,110,103,116,104,58,32,43,51]⟩,ZD ⟨#[67,111,110,116,101,110,116,45,76,101,110,103,116,104,58,32,51,44,32,51]⟩,ZD ⟨#[67,111,110,116,101,110,116,45,76,101,110,103,116,104,58,32,51]⟩,ZD ⟨#[67,111,110,116,101,110,116,45,76,101,110,103,116,104,58,32,48]⟩,ZD ⟨#[67,111,110,116,101,110,116,45,76,101,110,103,116,104,58,32,48,51]⟩,ZD ⟨#[72,111,115,116,58,32,98]⟩,ZD ⟨#[72,111,115,116,58,32,97,58,57,57,57,57,57]⟩,ZD ⟨#[67,111,110,110,101,99,116,105,111,110,58,32,99,108,111,115,101]⟩,ZD ⟨#[67,111,110,116,101,110,116,45,76,101,110,103,116,104,58,32,57,57,57,57,57,57,57,57,57,57,57,57,57,57,57,57,57,57,57,57]⟩,ZD ⟨#[86,58,32,255,128]⟩,ZD ⟨#[84,114,97,110,115,102,101,114,45,69,110,99,111,100,105,110,103,58,32,99,104,117,110,107,101,100,44,32,99,104,117,110,107,101,100]⟩] 9)).cell? ⟨w.heap.size,k,none⟩=some (ZD X))/\∀hh,([ZD ⟨#[72,111,115,116,32,58,32,97]⟩,ZD ⟨#[40,120,58,32,49]⟩,ZD ⟨#[110,111,118,97,108,117,101]⟩,ZD ⟨#[58,32,110,97,109,101,108,101,115,115]⟩,ZD ⟨#[32,102,111,108,100,101,100]⟩,ZD ⟨#[9,102,111,108,100,101,100,58,32,116,111,111]⟩,ZD ⟨#[86,58,32,97,1,98]⟩,ZD ⟨#[84,114,97,110,115,102,101,114,45,69,110,99,111,100,105,110,103,58,32,103,122,105,112]⟩,ZD ⟨#[84,114,97,110,115,102,101,114,45,69,110,99,111,100,105,110,103,58,32,103,122,105,112,44,32,99,104,117,110,107,101,100]⟩,ZD ⟨#[84,114,97,110,115,102,101,114,45,69,110,99,111,100,105,110,103,58,32,11,99,104,117,110,107,101,100]⟩,ZD ⟨#[84,114,97,110,115,102,101,114,45,69,110,99,111,100,105,110,103,58,32,67,104,117,110,107,101,100]⟩,ZD ⟨#[67,111,110,116,101,110,116,45,76,101,110,103,116,104,58,32,43,51]⟩,ZD ⟨#[67,111,110,116,101,110,116,45,76,101,110,103,116,104,58,32,51,44,32,51]⟩,ZD ⟨#[67,111,110,116,101,110,116,45,76,101,110,103,116,104,58,32,51]⟩,ZD ⟨#[67,111,110,116,101,110,116,45,76,101,110,103,116,104,58,32,48]⟩,ZD ⟨#[67,111,110,116,101,110,116,45,76,101,110,103,116,104,58,32,48,51]⟩,ZD ⟨#[72,111,115,116,58,32,98]⟩,ZD ⟨#[72,111,115,116,58,32,97,58,57,57,57,57,57]⟩,ZD ⟨#[67,111,110,110,101,99,116,105,111,110,58,32,99,108,111,115,101]⟩,ZD ⟨#[67,111,110,116,101,110,116,45,76,101,110,103,116,104,58,32,57,57,57,57,57,57,57,57,57,57,57,57,57,57,57,57,57,57,57,57]⟩,ZD ⟨#[86,58,32,255,128]⟩,ZD ⟨#[84,114,97,110,115,102,101,114,45,69,110,99,111,100,105,110,103,58,32,99,104,117,110,107,101,100,44,32,99,104,117,110,107,101,100]⟩]:List Value)[k]'hh=ZD X:=
 ⟨_,size_at [⟨#[72,111,115,116,32,58,32,97]⟩,⟨#[40,120,58,32,49]⟩,⟨#[110,111,118,97,108,117,101]⟩,⟨#[58,32,110,97,109,101,108,101,115,115]⟩,⟨#[32,102,111,108,100,101,100]⟩,⟨#[9,102,111,108,100,101,100,58,32,116,111,111]⟩,⟨#[86,58,32,97,1,98]⟩,⟨#[84,114,97,110,115,102,101,114,45,69,110,99,111,100,105,110,103,58,32,103,122,105,112]⟩,⟨#[84,114,97,110,115,102,101,114,45,69,110,99,111,100,105,110,103,58,32,103,122,105,112,44,32,99,104,117,110,107,101,100]⟩,⟨#[84,114,97,110,115,102,101,114,45,69,110,99,111,100,105,110,103,58,32,11,99,104,117,110,107,101,100]⟩,⟨#[84,114,97,110,115,102,101,114,45,69,110,99,111,100,105,110,103,58,32,67,104,117,110,107,101,100]⟩,⟨#[67,111,110,116,101,110,116,45,76,101,110,103,116,104,58,32,43,51]⟩,⟨#[67,111,110,116,101,110,116,45,76,101,110,103,116,104,58,32,51,44,32,51]⟩,⟨#[67,111,110,116,101,110,116,45,76,101,110,103,116,104,58,32,51]⟩,⟨#[67,111,110,116,101,110,116,45,76,101,110,103,116,104,58,32,48]⟩,⟨#[67,111,110,116,101,110,116,45,76,101,110,103,116,104,58,32,48,51]⟩,⟨#[72,111,115,116,58,32,98]⟩,⟨#[72,111,115,116,58,32,97,58,57,57,57,57,57]⟩,⟨#[67,111,110,110,101,99,116,105,111,110,58,32,99,108,111,115,101]⟩,⟨#[67,111,110,116,101,110,116,45,76,101,110,103,116,104,58,32,57,57,57,57,57,57,57,57,57,57,57,57,57,57,57,57,57,57,57,57]⟩,⟨#[86,58,32,255,128]⟩,⟨#[84,114,97,110,115,102,101,114,45,69,110,99,111,100,105,110,103,58,32,99,104,117,110,107,101,100,44,32,99,104,117,110,107,101,100]⟩] 36 ZX k hk,λw=>strs_at w 9 [⟨#[72,111,115,116,32,58,32,97]⟩,⟨#[40,120,58,32,49]⟩,⟨#[110,111,118,97,108,117,101]⟩,⟨#[58,32,110,97,109,101,108,101,115,115]⟩,⟨#[32,102,111,108,100,101,100]⟩,⟨#[9,102,111,108,100,101,100,58,32,116,111,111]⟩,⟨#[86,58,32,97,1,98]⟩,⟨#[84,114,97,110,115,102,101,114,45,69,110,99,111,100,105,110,103,58,32,103,122,105,112]⟩,⟨#[84,114,97,110,115,102,101,114,45,69,110,99,111,100,105,110,103,58,32,103,122,105,112,44,32,99,104,117,110,107,101,100]⟩,⟨#[84,114,97,110,115,102,101,114,45,69,110,99,111,100,105,110,103,58,32,11,99,104,117,110,107,101,100]⟩,⟨#[84,114,97,110,115,102,101,114,45,69,110,99,111,100,105,110,103,58,32,67,104,117,110,107,101,100]⟩,⟨#[67,111,110,116,101,110,116,45,76,101,110,103,116,104,58,32,43,51]⟩,⟨#[67,111,110,116,101,110,116,45,76,101,110,103,116,104,58,32,51,44,32,51]⟩,⟨#[67,111,110,116,101,110,116,45,76,101,110,103,116,104,58,32,51]⟩,⟨#[67,111,110,116,101,110,116,45,76,101,110,103,116,104,58,32,48]⟩,⟨#[67,111,110,116,101,110,116,45,76,101,110,103,116,104,58,32,48,51]⟩,⟨#[72,111,115,116,58,32,98]⟩,⟨#[72,111,115,116,58,32,97,58,57,57,57,57,57]⟩,⟨#[67,111,110,110,101,99,116,105,111,110,58,32,99,108,111,115,101]⟩,⟨#[67,111,110,116,101,110,116,45,76,101,110,103,116,104,58,32,57,57,57,57,57,57,57,57,57,57,57,57,57,57,57,57,57,57,57,57]⟩,⟨#[86,58,32,255,128]⟩,⟨#[84,114,97,110,115,102,101,114,45,69,110,99,111,100,105,110,103,58,32,99,104,117,110,107,101,100,44,32,99,104,117,110,107,101,100]⟩] k hk,λhh=>by
   have h2:=val_at [⟨#[72,111,115,116,32,58,32,97]⟩,⟨#[40,120,58,32,49]⟩,⟨#[110,111,118,97,108,117,101]⟩,⟨#[58,32,110,97,109,101,108,101,115,115]⟩,⟨#[32,102,111,108,100,101,100]⟩,⟨#[9,102,111,108,100,101,100,58,32,116,111,111]⟩,⟨#[86,58,32,97,1,98]⟩,⟨#[84,114,97,110,115,102,101,114,45,69,110,99,111,100,105,110,103,58,32,103,122,105,112]⟩,⟨#[84,114,97,110,115,102,101,114,45,69,110,99,111,100,105,110,103,58,32,103,122,105,112,44,32,99,104,117,110,107,101,100]⟩,⟨#[84,114,97,110,115,102,101,114,45,69,110,99,111,100,105,110,103,58,32,11,99,104,117,110,107,101,100]⟩,⟨#[84,114,97,110,115,102,101,114,45,69,110,99,111,100,105,110,103,58,32,67,104,117,110,107,101,100]⟩,⟨#[67,111,110,116,101,110,116,45,76,101,110,103,116,104,58,32,43,51]⟩,⟨#[67,111,110,116,101,110,116,45,76,101,110,103,116,104,58,32,51,44,32,51]⟩,⟨#[67,111,110,116,101,110,116,45,76,101,110,103,116,104,58,32,51]⟩,⟨#[67,111,110,116,101,110,116,45,76,101,110,103,116,104,58,32,48]⟩,⟨#[67,111,110,116,101,110,116,45,76,101,110,103,116,104,58,32,48,51]⟩,⟨#[72,111,115,116,58,32,98]⟩,⟨#[72,111,115,116,58,32,97,58,57,57,57,57,57]⟩,⟨#[67,111,110,110,101,99,116,105,111,110,58,32,99,108,111,115,101]⟩,⟨#[67,111,110,116,101,110,116,45,76,101,110,103,116,104,58,32,57,57,57,57,57,57,57,57,57,57,57,57,57,57,57,57,57,57,57,57]⟩,⟨#[86,58,32,255,128]⟩,⟨#[84,114,97,110,115,102,101,114,45,69,110,99,111,100,105,110,103,58,32,99,104,117,110,107,101,100,44,32,99,104,117,110,107,101,100]⟩] k hk
   exact h2⟩
theorem end3_at (k:Nat) (hk:k<5):∃X:ByteArray,X.size<=2/\(∀w:World,(w.alloc (.cells #[ZD ⟨#[13,10]⟩,ZD ⟨#[13,10]⟩,ZD ⟨#[]⟩,ZD ⟨#[10]⟩,ZD ⟨#[13]⟩] 9)).cell? ⟨w.heap.size,k,none⟩=some (ZD X))/\∀hh,([ZD ⟨#[13,10]⟩,ZD ⟨#[13,10]⟩,ZD ⟨#[]⟩,ZD ⟨#[10]⟩,ZD ⟨#[13]⟩]:List Value)[k]'hh=ZD X:=
 ⟨_,size_at [⟨#[13,10]⟩,⟨#[13,10]⟩,⟨#[]⟩,⟨#[10]⟩,⟨#[13]⟩] 2 ZX k hk,λw=>strs_at w 9 [⟨#[13,10]⟩,⟨#[13,10]⟩,⟨#[]⟩,⟨#[10]⟩,⟨#[13]⟩] k hk,λhh=>by
   have h2:=val_at [⟨#[13,10]⟩,⟨#[13,10]⟩,⟨#[]⟩,⟨#[10]⟩,⟨#[13]⟩] k hk
   exact h2⟩
theorem tr_at (k:Nat) (hk:k<4):∃X:ByteArray,X.size<=10/\(∀w:World,(w.alloc (.cells #[ZD ⟨#[]⟩,ZD ⟨#[84,58,32,117,13,10]⟩,ZD ⟨#[98,97,100,13,10]⟩,ZD ⟨#[84,58,32,117,13,10,32,119,13,10]⟩] 9)).cell? ⟨w.heap.size,k,none⟩=some (ZD X))/\∀hh,([ZD ⟨#[]⟩,ZD ⟨#[84,58,32,117,13,10]⟩,ZD ⟨#[98,97,100,13,10]⟩,ZD ⟨#[84,58,32,117,13,10,32,119,13,10]⟩]:List Value)[k]'hh=ZD X:=
 ⟨_,size_at [⟨#[]⟩,⟨#[84,58,32,117,13,10]⟩,⟨#[98,97,100,13,10]⟩,⟨#[84,58,32,117,13,10,32,119,13,10]⟩] 10 ZX k hk,λw=>strs_at w 9 [⟨#[]⟩,⟨#[84,58,32,117,13,10]⟩,⟨#[98,97,100,13,10]⟩,⟨#[84,58,32,117,13,10,32,119,13,10]⟩] k hk,λhh=>by
   have h2:=val_at [⟨#[]⟩,⟨#[84,58,32,117,13,10]⟩,⟨#[98,97,100,13,10]⟩,⟨#[84,58,32,117,13,10,32,119,13,10]⟩] k hk
   exact h2⟩
theorem host_at (k:Nat) (hk:k<4):∃X:ByteArray,X.size<=8/\(∀w:World,(w.alloc (.cells #[ZD ⟨#[104,46,111,114,103]⟩,ZD ⟨#[97]⟩,ZD ⟨#[104,46,111,114,103,58,56,48]⟩,ZD ⟨#[120,46,121]⟩] 9)).cell? ⟨w.heap.size,k,none⟩=some (ZD X))/\∀hh,([ZD ⟨#[104,46,111,114,103]⟩,ZD ⟨#[97]⟩,ZD ⟨#[104,46,111,114,103,58,56,48]⟩,ZD ⟨#[120,46,121]⟩]:List Value)[k]'hh=ZD X:=
 ⟨_,size_at [⟨#[104,46,111,114,103]⟩,⟨#[97]⟩,⟨#[104,46,111,114,103,58,56,48]⟩,⟨#[120,46,121]⟩] 8 ZX k hk,λw=>strs_at w 9 [⟨#[104,46,111,114,103]⟩,⟨#[97]⟩,⟨#[104,46,111,114,103,58,56,48]⟩,⟨#[120,46,121]⟩] k hk,λhh=>by
   have h2:=val_at [⟨#[104,46,111,114,103]⟩,⟨#[97]⟩,⟨#[104,46,111,114,103,58,56,48]⟩,⟨#[120,46,121]⟩] k hk
   exact h2⟩
section
attribute [local go_sem] A8
theorem end_any (a:Nat) (ha:a<256) (w:World):Calls Mm 108 #[ZE Z6 a] w λe w'=>(∃L:ByteArray,e=.returned (ZD L)/\L.size<=3)/\Below w.heap.size w w':=by
 obtain ⟨u,hu⟩:∃u,a%4=u:=⟨_,rfl⟩;have iu:(a:Int)%4=(u:Int):=ZZ;have lu:u<4:=ZZ;clear hu;obtain ⟨X1,z1,c1,d1⟩:=ends_at u lu;rcases Gp a 235 with h | h;all_goals
  go_enter Tryz.func108,Tryz.ntmps108;go_wp2_with fail;all_goals
   go_ret;refine ⟨⟨_,rfl,?_⟩,?_⟩
   ·first | exact z1 | decide
   ·repeat (first | exact AE _ _ | with_reducible refine AB ?_ ?_ _)
    all_goals (simp;try omega)
theorem field_any (a b:Nat) (ha:a<256) (hb:b<256) (w:World):Calls Mm 109 #[ZE Z6 a,ZE Z6 b] w λe w'=>(∃L:ByteArray,e=.returned (ZD L)/\L.size<=46)/\Below w.heap.size w w':=by
 obtain ⟨u,hu⟩:∃u,b%16=u:=⟨_,rfl⟩;obtain ⟨v,hv⟩:∃v,b%22=v:=⟨_,rfl⟩;have iu:(b:Int)%16=(u:Int):=ZZ;have iv:(b:Int)%22=(v:Int):=ZZ;have ju:Int.tmod (b:Int) 16=(u:Int):=by rw [Int.tmod_eq_emod_of_nonneg ZZ];exact iu
 have jv:Int.tmod (b:Int) 22=(v:Int):=by rw [Int.tmod_eq_emod_of_nonneg ZZ];exact iv
 have lu:u<16:=ZZ;have lv:v<22:=ZZ;clear hu hv;obtain ⟨X1,z1,c1,d1⟩:=good_at u lu;obtain ⟨X2,z2,c2,d2⟩:=odd_at v lv;rcases Gp a 150 with h | h;all_goals
  go_enter Tryz.func109,Tryz.ntmps109;go_wp2_with fail;all_goals
   go_ret;refine ⟨⟨_,rfl,?_⟩,?_⟩
   ·first |(exact Gl z1 ZX) |(exact Gl z2 ZX)
   ·repeat (first | exact AE _ _ | with_reducible refine AB ?_ ?_ _)
    all_goals (simp;try omega)
end
end Rq
open _root_.Bool renaming and_eq_true→AM,and_true→AO,not_eq_true'→AX
open _root_.Go.Proofs.Tryz renaming func189→JL,ntmps189→Lz,underlying46→Nq
open _root_.Go.World renaming ownsRow_nil→NY
open _root_.List renaming dropLast_concat_getLast→DL,mem_cons→Fk,not_mem_nil→Fx,set_append_right→F5
open _root_.Nat renaming le_of_lt→Gh
open App renaming run_append_list→Ah,wpList_append_list→Ai
open Each renaming region_float→BP,region→BN
open _root_.Go.Proofs.YtdfabddnpgjepaaGreatDoor.Fd renaming goes→BX,joined→BY
open Ln renaming own_slice→FV,row_frozen→FX
open Mem.Keeps renaming grown→CP,set→CU
open Mem.Of renaming refl→GQ
open Num renaming spell→G7
open Par.Step renaming set→IL
open Rec renaming Bk→Hv,wraps→Ih
open Tree renaming change→Jr,done→Js,grow→Ju,put1→Jw,quiet→Jx
namespace Rq
open Base Txt
section
attribute [local go_sem] A8
theorem spell_len:∀k:Fin 20,(Num.str (G7 10 k.val)).size<=2/\(Num.str (G7 16 k.val)).size<=2:=ZR
theorem below_drew1 {n:Nat} {w w':World} (h:Below n w w'):Below n w w'.drew:=Az h 1
theorem size9_at (E:ByteArray) (he:E.size<=40) (k:Nat) (hk:k<9):∃X:ByteArray,X.size<=40/\(∀w:World,(w.alloc (.cells #[ZD ⟨#[51]⟩,ZD ⟨#[48,120,51]⟩,ZD ⟨#[32,51]⟩,ZD ⟨#[51,59,97,61,98]⟩,ZD ⟨#[51,32,59,120]⟩,ZD ⟨#[48,51]⟩,ZD ⟨#[51,9]⟩,ZD ⟨#[103]⟩,ZD E] 9)).cell? ⟨w.heap.size,k,none⟩=some (ZD X))/\∀hh,([ZD ⟨#[51]⟩,ZD ⟨#[48,120,51]⟩,ZD ⟨#[32,51]⟩,ZD ⟨#[51,59,97,61,98]⟩,ZD ⟨#[51,32,59,120]⟩,ZD ⟨#[48,51]⟩,ZD ⟨#[51,9]⟩,ZD ⟨#[103]⟩,ZD E]:List Value)[k]'hh=ZD X:=
 ⟨_,size_at [⟨#[51]⟩,⟨#[48,120,51]⟩,⟨#[32,51]⟩,⟨#[51,59,97,61,98]⟩,⟨#[51,32,59,120]⟩,⟨#[48,51]⟩,⟨#[51,9]⟩,⟨#[103]⟩,E] 40 (by simp only [List.all_cons,List.all_nil,AO,AM,ZJ];exact ⟨ZX,ZX,ZX,ZX,ZX,ZX,ZX,ZX,he⟩) k hk,λw=>strs_at w 9 [⟨#[51]⟩,⟨#[48,120,51]⟩,⟨#[32,51]⟩,⟨#[51,59,97,61,98]⟩,⟨#[51,32,59,120]⟩,⟨#[48,51]⟩,⟨#[51,9]⟩,⟨#[103]⟩,E] k hk,λhh=>by
   have h2:=val_at [⟨#[51]⟩,⟨#[48,120,51]⟩,⟨#[32,51]⟩,⟨#[51,59,97,61,98]⟩,⟨#[51,32,59,120]⟩,⟨#[48,51]⟩,⟨#[51,9]⟩,⟨#[103]⟩,E] k hk
   exact h2⟩
theorem body_any (a n c:Nat) (ha:a<256) (hn:n<256) (hc:c<256) (w:World):Calls Mm 110 #[ZE Z6 a,ZE Z6 n,ZE Z6 c] w λe w'=>(∃L M:ByteArray,e=.returned (Z8 #[ZD L,ZD M])/\L.size<=60/\M.size<=100)/\Below w.heap.size w w':=by
 obtain ⟨v,hv⟩:∃v,n%20=v:=⟨_,rfl⟩;obtain ⟨y,hy⟩:∃y,c%9=y:=⟨_,rfl⟩;obtain ⟨z,hz⟩:∃z,n%5=z:=⟨_,rfl⟩;obtain ⟨x,hx⟩:∃x,n/5%4=x:=⟨_,rfl⟩;have iv:(n:Int)%20=(v:Int):=ZZ;have iy:(c:Int)%9=(y:Int):=ZZ;have iz:(n:Int)%5=(z:Int):=ZZ;have ix:(n:Int)/5%4=(x:Int):=ZZ;have lv:v<20:=ZZ;have ly:y<9:=ZZ;have lz:z<5:=ZZ;have lx:x<4:=ZZ;clear hv hy hz hx;have es:(ByteArray.extract ⟨#[48,49,50,51,52,53,54,55,56,57,97,98,99,100,101,102,103,104,105,106,107,108,109,110,111,112]⟩ 0 v).size=v:=by rw [Bs];show min v 26-0=v;omega
 obtain ⟨S,hS⟩:∃S,ByteArray.extract ⟨#[48,49,50,51,52,53,54,55,56,57,97,98,99,100,101,102,103,104,105,106,107,108,109,110,111,112]⟩ 0 v=S:=⟨_,rfl⟩;rw [hS] at es
 have HP:=Dl (λw=>Num.rput_any (v:Int) w ZZ ZZ);have HX:=Dl (λw=>Num.rputHex_any (v:Int) w ZZ ZZ);have l1:=(spell_len ⟨v,lv⟩).1;have l2:=(spell_len ⟨v,lv⟩).2;simp only [Int.toNat_natCast] at HP HX l1 l2;generalize Num.str (G7 10 v)=D1 at *;generalize Num.str (G7 16 v)=D2 at *;have HE:=Dl (λw=>end_any c hc w);obtain ⟨X1,z1,c1,d1⟩:=size9_at (⟨#[51,59]⟩++S++S) (by rw [Br,Br,es];show 2+v+v<=40;omega) y ly;obtain ⟨X2,z2,c2,d2⟩:=end3_at z lz;obtain ⟨X3,z3,c3,d3⟩:=tr_at x lx;have hb6:a%6=0∨a%6=1∨a%6=2∨a%6=3∨a%6=4∨a%6=5:=ZZ;have c1':=λw:World=>c1 (w.drewN 1);rcases hb6 with h | h | h | h | h | h
 rotate_left 3
 ·have ih:(a:Int)%6=3:=by omega
  clear h;go_enter Tryz.func110,Tryz.ntmps110;go_upto_region 13 with fail
  go_region;all_goals
   go_wp2_with fail;go_ret2;refine ⟨⟨_,_,rfl,?_,?_⟩,?_⟩
   ·decide
   ·simp only [Br,len_mk,EP,EW];omega
   ·repeat (first | exact AE _ _ | with_reducible refine AB ?_ ?_ _ | with_reducible refine below_drew1 ?_)
    all_goals (try simp)
    all_goals (try omega)
 all_goals
  have ih:(a:Int)%6=((a%6:Nat):Int):=ZZ;rw [h] at ih;go_enter Tryz.func110,Tryz.ntmps110;clear h
  go_wp2_with (first
   |(go_at_call 108;with_reducible refine (HE.out _).mono ?_;rintro e w2 ⟨⟨E1,rfl,e1⟩,hb2⟩;have HB2:=Dl hb2;clear hb2)
   |(go_at_call 103;with_reducible refine (HP.out _).mono ?_;rintro e w3 ⟨rfl,m3,hw⟩;rw [hw];clear hw)
   |(go_at_call 140;with_reducible refine (HX.out _).mono ?_;rintro e w4 ⟨rfl,m4,hw⟩;rw [hw];clear hw))
  all_goals
   go_ret2;refine ⟨⟨_,_,rfl,?_,?_⟩,?_⟩
   ·first | decide |(simp only [Br,len_mk,EP,EW];omega)
   ·first | decide | omega |(simp only [Br,len_mk,EP,EW];omega)
   ·first
     | exact AE _ _
     | exact HB2.out
     | exact Az HB2.out _
     | exact A6 (Az (AE _ _) _) HB2.out
     | exact Az (A6 (Az (AE _ _) _) HB2.out) _
end
end Rq
theorem XX1a7 {P:Prop} (h:P:=by first | decide | omega):P:=h
namespace Rq
open Base Txt Rec
section
attribute [local go_sem] A8
theorem byte_lt (x:Int):(x%256).toNat<256:=ZZ
theorem byte_cast (x:Int):(((x%256).toNat:Nat):Int)=x%256:=ZZ
theorem at_any (a:Option Addr) (n cap:Nat) (zs:List Int) (g:Nat) (hn:n<=1000000):∃G:Int->Nat,(∀i,G i<256)/\∀(w:World) (i:Int),w.cell? ⟨g,0,none⟩=some (.slice a n cap)->Nums .u8 w a n zs->0<=i->i<=1000000->
 Calls Mm 106 #[ZE Z7 i,ZA (some ⟨g,0,none⟩)] w λe w'=>e=.returned (ZE Z6 (G i:Nat))/\∃q,w'=w.drewN q:=by
 rcases Gg n with hz | hp
 ·refine ⟨λi=>(i%256).toNat,λi=>byte_lt _,λw i hc hv h0 h1=>?_⟩;subst hz;have e:(((i%256).toNat:Nat):Int)=i%256:=byte_cast _;rw [e];go_enter Tryz.func106,Tryz.ntmps106;go_wp2;go_ret;exact ⟨rfl,0,rfl⟩
 ·refine ⟨λi=>((zs[i.toNat%n]?.getD 0+wrap64 (wrap64 (Int.tdiv i n)*37)%256)%256).toNat,λi=>byte_lt _,λw i hc hv h0 h1=>?_⟩;have e:((((zs[i.toNat%n]?.getD 0+wrap64 (wrap64 (Int.tdiv i n)*37)%256)%256).toNat:Nat):Int)=(zs[i.toNat%n]?.getD 0+wrap64 (wrap64 (Int.tdiv i n)*37)%256)%256:=byte_cast _;rw [e];clear e h1;obtain ⟨b,off,rfl,hb,hcs⟩:=hv.2 hp;obtain ⟨j,hj,hjm,_⟩:∃j:Nat,j<n/\Int.tmod i (n:Int)=(j:Int)/\i.toNat%n=j:=by
   refine ⟨i.toNat%n,Nat.mod_lt _ hp,?_,rfl⟩;rw [Int.tmod_eq_emod_of_nonneg h0,Int.natCast_emod,Int.toNat_of_nonneg h0]
  rename_i hjn;rw [hjn];obtain ⟨d,hd⟩:∃d:Int,Int.tdiv i (n:Int)=d:=⟨_,rfl⟩;rw [hd];have hck:=hcs j hj;generalize zs[j]?.getD 0=z at *;have t0:((n:Int)==0)=false:=by rw [ZM];omega
  have t1:¬(n:Int)=0:=ZZ;clear hcs hv hjn h0;go_enter Tryz.func106,Tryz.ntmps106;go_wp2_with fail;go_quiet (fail);rename_i nq;go_wp2;go_ret;exact ⟨rfl,nq,rfl⟩
theorem request_any (a:Option Addr) (n cap:Nat) (zs:List Int) (w:World) (hv:Nums .u8 w a n zs) (hn:n<=1000000) :
 Calls Mm 65 #[.slice a n cap] w λe w'=>(∃L:ByteArray,e=.returned (ZD L)/\L.size<=500)/\Below w.heap.size w w':=by
 have eg:∀args w,(callFunc 106 args).run Mm w=.ok (.enter 106 args) w:=enters_of Tryz.func106 ZY rfl;obtain ⟨G,hG,hat⟩:=at_any a n cap zs w.heap.size hn;have HAT:Hid (∀(w1:World) (i:Int),Below w.heap.size w w1/\Bk w1 w.heap.size [.slice a n cap]->0<=i->i<=1000000->Calls Mm 106 #[ZE Z7 i,ZA (some ⟨w.heap.size,0,none⟩)] w1 λe w'=>e=.returned (ZE Z6 (G i:Nat))/\∃q,w'=w1.drewN q):=
  Dl (λw1 i hb h0 h1=>hat w1 i (hb.2.c 0 _ rfl) (hv.below hb.1) h0 h1)
 have HG:=Dl hG;have hb0:Below w.heap.size w (w.alloc (.cells #[.slice a n cap] 22)):=(AE _ _).alloc (Gi _) _;have HC:=Dl (show Below w.heap.size w (w.alloc (.cells #[.slice a n cap] 22))/\Bk (w.alloc (.cells #[.slice a n cap] 22)) w.heap.size [.slice a n cap] from ⟨hb0,Bk.new w _ rfl 22 [.slice a n cap]⟩);clear hv hat hb0 hG;obtain ⟨u,hu⟩:∃u,G 4%4=u:=⟨_,rfl⟩;have iu:((G 4:Nat):Int)%4=(u:Int):=ZZ;have lu:u<4:=ZZ;clear hu;obtain ⟨X1,z1,c1,d1⟩:=host_at u lu;obtain ⟨t,ht⟩:∃t,G 5%4=t:=⟨_,rfl⟩;have it:((G 5:Nat):Int)%4=(t:Int):=ZZ;have lt:t<4:=ZZ;clear ht;have h0:250<G 0∨G 0<=250:=ZZ;have h4:G 4<235∨235<=G 4:=ZZ;go_enter Tryz.func65,Tryz.ntmps65;go_upto_if 11 with
  (go_at_fn 106;with_reducible refine (HAT.out _ _ HC.out XX1a7 XX1a7).mono ?_;rintro e wn ⟨rfl,qn,hwn⟩
   replace HC:=Dl (show Below w.heap.size w wn/\Bk wn w.heap.size [.slice a n cap] by rw [hwn];exact ⟨Az HC.out.1 qn,HC.out.2.below (Az (AE _ _) qn)⟩)
   clear hwn)
 go_cut [4] from 12 to 13 (λv wx=>∃S:ByteArray,v=ZD S/\S.size<=2/\Hid (Below w.heap.size w wx/\Bk wx w.heap.size [.slice a n cap]))
 case first=>
  rcases h0 with h0 | h0;all_goals
   go_wp2_with fail;go_meet
   case rel=>exact ⟨_,rfl,ZX,HC⟩
 case rest=>
  obtain ⟨S0,rfl,hS0,HC2⟩:=hcut
  replace HC:=HC2
  clear HC2 h0
  go_upto_if 25 with (first
   |(go_at_fn 106;with_reducible refine (HAT.out _ _ HC.out XX1a7 XX1a7).mono ?_;rintro e wn ⟨rfl,qn,hwn⟩
     replace HC:=Dl (show Below w.heap.size w wn/\Bk wn w.heap.size [.slice a n cap] by rw [hwn];exact ⟨Az HC.out.1 qn,HC.out.2.below (Az (AE _ _) qn)⟩)
     clear hwn)
   |(go_at_call 107;with_reducible refine (line_any _ _ (HG.out _) (HG.out _) _).mono ?_;rintro e wn ⟨⟨Tn,rfl,tn⟩,hbn⟩
     replace HC:=Dl (show Below w.heap.size w wn/\Bk wn w.heap.size [.slice a n cap] from ⟨A6 HC.out.1 hbn,HC.out.2.below hbn⟩)
     clear hbn)
   |(go_at_call 108;with_reducible refine (end_any _ (HG.out _) _).mono ?_;rintro e wn ⟨⟨En,rfl,en⟩,hbn⟩
     replace HC:=Dl (show Below w.heap.size w wn/\Bk wn w.heap.size [.slice a n cap] from ⟨A6 HC.out.1 hbn,HC.out.2.below hbn⟩)
     clear hbn))
  obtain ⟨S1,hS1⟩:∃S,S0++Tn++En=S:=⟨_,rfl⟩;have hz1:S1.size<=65:=by rw [←hS1,Br,Br];omega
  rw [hS1];clear hS1 tn en hS0;obtain ⟨WX,hWX⟩:∃x,x=wn:=⟨_,rfl⟩;subst hWX
  go_cut [4] from 25 to 36 (λv wx=>∃S:ByteArray,v=ZD S/\S.size<=100/\Hid (Below w.heap.size w wx/\Bk wx w.heap.size [.slice a n cap]))
  case first=>
   rcases h4 with h4 | h4
   ·have hb9:Below w.heap.size w (WX.alloc (.cells #[ZD ⟨#[104,46,111,114,103]⟩,ZD ⟨#[97]⟩,ZD ⟨#[104,46,111,114,103,58,56,48]⟩,ZD ⟨#[120,46,121]⟩] 9)):=HC.out.1.alloc HC.out.1.size _
    have hk9:Bk (WX.alloc (.cells #[ZD ⟨#[104,46,111,114,103]⟩,ZD ⟨#[97]⟩,ZD ⟨#[104,46,111,114,103,58,56,48]⟩,ZD ⟨#[120,46,121]⟩] 9)) w.heap.size [.slice a n cap]:=HC.out.2.below ((AE _ _).alloc (Gi _) _);have HAL:=Dl (HAT.out _ 4 ⟨hb9,hk9⟩ ZX ZX);have HB9:=Dl hb9;have HK9:=Dl hk9;have c1w:=c1 WX;clear hb9 hk9 c1;go_wp2_with
     (go_at_fn 106;with_reducible refine HAL.out.mono ?_;rintro e wm ⟨rfl,qn,hwn⟩
      have c1':wm.cell? ⟨WX.heap.size,u,none⟩=some (ZD X1):=by rw [hwn];exact c1w
      replace HC:=Dl (show Below w.heap.size w wm/\Bk wm w.heap.size [.slice a n cap] by rw [hwn];exact ⟨Az HB9.out qn,HK9.out.below (Az (AE _ _) qn)⟩)
      clear hwn)
    go_meet
    case rel=>exact ⟨_,rfl,(by simp only [Br,len_mk,EP,EW];omega),HC⟩
   ·go_wp2_with fail;go_meet
    case rel=>exact ⟨_,rfl,ZZ,HC⟩
  case rest=>
   obtain ⟨S2,rfl,hS2,HC2⟩:=hcut
   replace HC:=HC2
   clear HC2 h4 hz1 c1 d1 z1 iu lu;go_upto_region 9 with fail
   go_loopw [4,5] (λv i wr=>∃(k:Nat) (S:ByteArray),k<=t/\i=ZE Z7 k/\v=ZD S/\S.size<=100+60*k/\Hid (Below w.heap.size w wr/\Bk wr w.heap.size [.slice a n cap])) (λ_ i _=>t-(intOf i).toNat)
   case atStart=>exact ⟨0,_,Gz _,rfl,rfl,ZZ,HC⟩
   case round=>
    obtain ⟨k,S,hk,rfl,rfl,hS,hR⟩:=hrel
    replace HC:=hR
    clear hR hS2;rcases Gp k t with hlt | hge
    ·have hk4:k<4:=by omega
     have HS:=Dl hS;have HLT:=Dl hlt;have hs9:S.size<=400:=ZZ;have tlt:(k:Int)<(t:Int):=ZZ;clear hS hlt lt hk
     go_wp2_with (first
      |(go_at_fn 106;with_reducible refine (HAT.out _ _ HC.out XX1a7 XX1a7).mono ?_;rintro e wn ⟨rfl,qn,hwn⟩
        replace HC:=Dl (show Below w.heap.size w wn/\Bk wn w.heap.size [.slice a n cap] by rw [hwn];exact ⟨Az HC.out.1 qn,HC.out.2.below (Az (AE _ _) qn)⟩)
        clear hwn)
      |(go_at_call 109;with_reducible refine (field_any _ _ (HG.out _) (HG.out _) _).mono ?_;rintro e wn ⟨⟨Fq,rfl,fq⟩,hbn⟩
        replace HC:=Dl (show Below w.heap.size w wn/\Bk wn w.heap.size [.slice a n cap] from ⟨A6 HC.out.1 hbn,HC.out.2.below hbn⟩)
        clear hbn)
      |(go_at_call 108;with_reducible refine (end_any _ (HG.out _) _).mono ?_;rintro e wn ⟨⟨En,rfl,en⟩,hbn⟩
        replace HC:=Dl (show Below w.heap.size w wn/\Bk wn w.heap.size [.slice a n cap] from ⟨A6 HC.out.1 hbn,HC.out.2.below hbn⟩)
        clear hbn))
     go_roundw
     case rel=>exact ⟨k+1,_,(by have:=HLT.out;omega),ZT,rfl,(by have:=HS.out;simp only [Br];omega),HC⟩
     case measure=>have:=HLT.out;simp [intOf];omega
    ·obtain rfl:k=t:=by omega
     have tlt:¬(k:Int)<(k:Int):=ZZ;have hs9:S.size<=300:=ZZ;clear hS lt hk hge
     go_wp2_with (first
      |(go_at_fn 106;with_reducible refine (HAT.out _ _ HC.out XX1a7 XX1a7).mono ?_;rintro e wn ⟨rfl,qn,hwn⟩
        replace HC:=Dl (show Below w.heap.size w wn/\Bk wn w.heap.size [.slice a n cap] by rw [hwn];exact ⟨Az HC.out.1 qn,HC.out.2.below (Az (AE _ _) qn)⟩)
        clear hwn)
      |(go_at_call 108;with_reducible refine (end_any _ (HG.out _) _).mono ?_;rintro e wn ⟨⟨En,rfl,en⟩,hbn⟩
        replace HC:=Dl (show Below w.heap.size w wn/\Bk wn w.heap.size [.slice a n cap] from ⟨A6 HC.out.1 hbn,HC.out.2.below hbn⟩)
        clear hbn)
      |(go_at_call 110;with_reducible refine (body_any _ _ _ (HG.out _) (HG.out _) (HG.out _) _).mono ?_;rintro e wn ⟨⟨Ln,Mn,rfl,ln,mn⟩,hbn⟩
        replace HC:=Dl (show Below w.heap.size w wn/\Bk wn w.heap.size [.slice a n cap] from ⟨A6 HC.out.1 hbn,HC.out.2.below hbn⟩)
        clear hbn))
     go_ret;refine ⟨⟨_,rfl,?_⟩,HC.out.1⟩;simp only [Br];omega
end
end Rq
namespace Rq
open Base Txt
section
attribute [local go_sem] A8
theorem conv_cap (s:ByteArray) (w:World):∃W cap,(convert 9 22 (.string s)).run Mm w=.ok (.slice (some ⟨w.heap.size,0,none⟩) s.size cap) W/\s.size<=cap/\By.Bytes W w.heap.size s.data.toList/\w.heap.size<W.heap.size/\Below w.heap.size w W:=by have hcv:=run_bytes_of_string (P:=Mm) w 9 22 5 s Ns MZ Nr;obtain ⟨W,cap,h1,h2,h3,h4⟩:=By.conv_bytes s w;have e:=h1.symm.trans hcv;simp only [Result.ok.injEq,Value.slice.injEq,true_and] at e;exact ⟨W,cap,h1,by rw [e.1];exact grownCap_ge _ _ _ _,h2,h3,h4⟩
theorem nums_cut {w:World} {b off n:Nat} {zs:List Int} (h:Nums .u8 w (some ⟨b,off,none⟩) n zs) (i m:Nat) (hm:i+m<=n):Nums .u8 w (some ⟨b,off+i,none⟩) m ((zs.drop i).take m):=by
 refine ⟨by rw [Fc,ER,h.1];omega,λh0=>?_⟩;obtain ⟨b0,o0,e,hlt,hc⟩:=h.2 ZZ;cases e;refine ⟨b,off+i,rfl,hlt,λk hk=>?_⟩;have:=hc (i+k) ZZ;rw [show off+i+k=off+(i+k) by omega,this];simp [List.getElem?_drop,hk]
theorem stream_any (a:Option Addr) (n cap:Nat) (zs:List Int) (w:World) (hv:Nums .u8 w a n zs) (hn:n<=40) (hc:n<=cap) :
 Calls Mm 13 #[.slice a n cap] w λe w'=>∃(g:Nat) (s:List UInt8) (c:Nat),e=.returned (ZC (some ⟨g,0,none⟩) s.length c)/\s.length<=c/\s.length<=2500/\w.heap.size<=g/\g<w'.heap.size/\By.Bytes w' g s/\Below w.heap.size w w':=by
 have HV:=Dl hv;clear hv;go_enter Tryz.func13,Tryz.ntmps13;go_upto_region 3 with fail
 go_loopw [3,4] (λv i wr=>∃(j:Nat) (S:ByteArray),j<=4/\i=ZE Z7 ((10*j:Nat):Int)/\v=ZD S/\S.size<=500*j/\Hid (Below w.heap.size w wr)) (λ_ i _=>50-(intOf i).toNat)
 case atStart=>exact ⟨0,⟨#[]⟩,ZZ,rfl,rfl,ZX,Dl (AE _ _)⟩
 case round=>
  obtain ⟨j,S,hj,rfl,rfl,hS,hR⟩:=hrel;obtain ⟨q,hq⟩:∃q,10*j=q:=⟨_,rfl⟩;rw [hq];have HS:=Dl hS;have HJ:=Dl (And.intro hj hq);have hs9:S.size<=2000:=ZZ;have hq4:q<=40:=ZZ;by_cases hlt:q<n
  ·have hq40:q<40:=by omega
   have t1:(q:Int)<(n:Int):=ZZ;have t2:(q:Int)<40:=ZZ;obtain ⟨m,hm⟩:∃m,min (q+10) n=m:=⟨_,rfl⟩;have hm1:q<=m/\m<=n/\m<=q+10:=ZZ;have im:min ((q:Int)+10) (n:Int)=(m:Int):=ZZ;obtain ⟨b,off,rfl,hb, -⟩:=HV.out.2 ZZ;have hcu:=nums_cut HV.out q (m-q) ZZ;have HRQ:=Dl (request_any (some ⟨b,off+q,none⟩) (m-q) (cap-q) _ wr (hcu.below hR.out) ZZ);have c2:q<=m:=hm1.1;have c3:m<=cap:=ZZ;clear hm hcu hS hj hq hb hm1;go_wp2_with (go_at_call 65;with_reducible refine HRQ.out.mono ?_;rintro e w2 ⟨⟨L,rfl,hl⟩,hb2⟩);go_roundw
   case rel=>obtain ⟨hj,hq⟩:=HJ.out;exact ⟨j+1,_,ZZ,by subst hq;go_num,rfl,(by have:=HS.out;simp only [Br];omega),Dl (A6 hR.out hb2)⟩
   case measure=>simp [intOf];omega
  ·have t1:¬(q:Int)<(n:Int):=by omega
   obtain ⟨W5,cap5,hcv,hcap5,hby,hlt5,hb5⟩:=conv_cap S wr;have HF:=Dl (And.intro hcap5 (And.intro hby (And.intro hlt5 (A6 hR.out hb5))));clear hcap5 hby hlt5 hb5 hS hj hq;go_wp2_with fail;go_ret;obtain ⟨f1,f2,f3,f4⟩:=HF.out;exact ⟨wr.heap.size,S.data.toList,cap5,(by rw [Txt.len];rfl),by rw [Txt.len];exact f1,by rw [Txt.len];omega,hR.out.size,f3,f2,f4⟩
end
end Rq
namespace By
open Base
def PRow (w:World) (B:Nat) (V:Value) (ls:List (List UInt8)):Prop:=∃cs:List Value,cs.length=ls.length/\w.ownsRow B 22 1 V ls.length cs/\∀j (h:j<ls.length),∃u,cs[j]?=some u/\Rd w u ls[j]
section
variable {w w':World} {B:Nat} {V u:Value} {ls:List (List UInt8)} {ys:List UInt8}
def Low (B:Nat) (u:Value):Prop:=∀a n c,u=.slice (some a) n c->0<n->a.block<B
def PLow (w:World) (B:Nat) (V:Value) (ls:List (List UInt8)):Prop:=∃cs:List Value,cs.length=ls.length/\w.ownsRow B 22 1 V ls.length cs/\∀j (h:j<ls.length),∃u,cs[j]?=some u/\Rd w u ls[j]/\Low B u/\u.oneCell'=true
end
section
variable {P:Program} {w w':World} {ops:Array Oper} {rest:List Oper} {o:Oper} {a:Act} {Q:Exit->Act->World->Prop}
end
end By
namespace Par
open Base Txt Mem
abbrev nil:Value:=ZC none 0 0
structure Cs (w:World) (g:Nat) (p:Nat) (b:Bd) (s:S) (q:Nat) (f bd t o:Value):Prop where
 c0:w.cell? ⟨g,0,none⟩=some (ZE Z5 (p:Int))
 c1:w.cell? ⟨g,1,none⟩=some (ZE Z7 b.x0)
 c2:w.cell? ⟨g,2,none⟩=some (ZE Z7 b.x1)
 c3:w.cell? ⟨g,3,none⟩=some (ZE Z7 b.x2)
 c4:w.cell? ⟨g,4,none⟩=some (ZE Z7 b.x3)
 c5:w.cell? ⟨g,5,none⟩=some (ZE Z7 b.x4)
 c6:w.cell? ⟨g,6,none⟩=some (ZE Z7 b.x5)
 c7:w.cell? ⟨g,7,none⟩=some (ZE Z7 b.x6)
 c8:w.cell? ⟨g,8,none⟩=some (ZE Z7 b.x7)
 c9:w.cell? ⟨g,9,none⟩=some (ZB b.ch)
 c10:w.cell? ⟨g,10,none⟩=some (ZB b.od)
 c11:w.cell? ⟨g,11,none⟩=some (ZE Z7 (s.st:Int))
 c12:w.cell? ⟨g,12,none⟩=some (ptr q)
 c13:w.cell? ⟨g,13,none⟩=some (ZD s.r.m)
 c14:w.cell? ⟨g,14,none⟩=some (ZD s.r.x)
 c15:w.cell? ⟨g,15,none⟩=some (ZE Z7 s.r.k)
 c16:w.cell? ⟨g,16,none⟩=some (f)
 c17:w.cell? ⟨g,17,none⟩=some (ZB s.r.ch)
 c18:w.cell? ⟨g,18,none⟩=some (bd)
 c19:w.cell? ⟨g,19,none⟩=some (t)
 c20:w.cell? ⟨g,20,none⟩=some (ZE Z7 (s.lines:Int))
 c21:w.cell? ⟨g,21,none⟩=some (ZE Z7 (s.head:Int))
 c22:w.cell? ⟨g,22,none⟩=some (ZE Z7 (s.left:Int))
 c23:w.cell? ⟨g,23,none⟩=some (ZB s.fresh)
 c24:w.cell? ⟨g,24,none⟩=some (ZB s.clean)
 c25:w.cell? ⟨g,25,none⟩=some (ZE Z7 (s.e:Int))
 c26:w.cell? ⟨g,26,none⟩=some (o)
theorem Cs.of {w:World} {g:Nat} {p:Nat} {b:Bd} {s:S} {q:Nat} {f bd t o:Value} (h:w.heap[g]?=some (.cells (pcells p b s q f bd t o).toArray 60 (0,0))):Cs w g p b s q f bd t o:=⟨row_cellL h rfl,row_cellL h rfl,row_cellL h rfl,row_cellL h rfl,row_cellL h rfl,row_cellL h rfl,row_cellL h rfl,row_cellL h rfl,row_cellL h rfl,row_cellL h rfl,row_cellL h rfl,row_cellL h rfl,row_cellL h rfl,row_cellL h rfl,row_cellL h rfl,row_cellL h rfl,row_cellL h rfl,row_cellL h rfl,row_cellL h rfl,row_cellL h rfl,row_cellL h rfl,row_cellL h rfl,row_cellL h rfl,row_cellL h rfl,row_cellL h rfl,row_cellL h rfl,row_cellL h rfl⟩
section
variable {w:World} {B:Zone} {g q:Nat} {v f bd t o:Value} {p:Nat} {b:Bd} {s:S}
theorem PR.cs (h:PR w B g q v f bd t o p b s):Cs w g p b s q f bd t o:=Cs.of h.row
theorem PR.marks (h:PR w B g q v f bd t o p b s) (k:Nat):w.frozen? ⟨g,k,none⟩=false:=FX h.row k
theorem PR.zero_of {f1 bd1 t1:Value} {fs1 ts1:List Fld} {body1:List UInt8} (hr:w.heap[g]?=some (.cells (pcells p b s q f bd t o).toArray 60 (0,0))) (ho:Own w B g q v f1 bd1 t1 o p s.rd fs1 body1 ts1 s.out) (s':S) (hs:s'={s with r:=zero}) :
 PR (((((((w.setCell ⟨g,13,none⟩ (ZD E0)).setCell ⟨g,14,none⟩ (ZD E0)).setCell ⟨g,15,none⟩ (ZE Z7 0)).setCell ⟨g,16,none⟩ nil).setCell ⟨g,17,none⟩ (ZB false)).setCell ⟨g,18,none⟩ nil).setCell ⟨g,19,none⟩ nil) B g q v nil nil nil o p b s':=by
 subst hs;refine ⟨?_,(((((((ho.zero).set 13 _).set 14 _).set 15 _).set 16 _).set 17 _).set 18 _).set 19 _⟩;exact row_setL (row_setL (row_setL (row_setL (row_setL (row_setL (row_setL hr 13 _) 14 _) 15 _) 16 _) 17 _) 18 _) 19 _
theorem PR.zero (h:PR w B g q v f bd t o p b s) (s':S) (hs:s'={s with r:=zero}):PR (((((((w.setCell ⟨g,13,none⟩ (ZD E0)).setCell ⟨g,14,none⟩ (ZD E0)).setCell ⟨g,15,none⟩ (ZE Z7 0)).setCell ⟨g,16,none⟩ nil).setCell ⟨g,17,none⟩ (ZB false)).setCell ⟨g,18,none⟩ nil).setCell ⟨g,19,none⟩ nil) B g q v nil nil nil o p b s':=
 PR.zero_of h.row h.own s' hs
theorem Step.put7 (u13 u14 u15 u16 u17 u18 u19:Value):Step (blks g q v f bd t o) (blks g q v f bd t o) w (((((((w.setCell ⟨g,13,none⟩ u13).setCell ⟨g,14,none⟩ u14).setCell ⟨g,15,none⟩ u15).setCell ⟨g,16,none⟩ u16).setCell ⟨g,17,none⟩ u17).setCell ⟨g,18,none⟩ u18).setCell ⟨g,19,none⟩ u19):=
 ((((((IL g 13 _ ZW).trans (IL g 14 _ ZW)).trans (IL g 15 _ ZW)).trans (IL g 16 _ ZW)).trans (IL g 17 _ ZW)).trans (IL g 18 _ ZW)).trans (IL g 19 _ ZW)
theorem fail_any (h:PR w B g q v f bd t o p b s) (e:Nat):Calls Mm 115 #[ptr g,ZE Z7 (e:Int)] w λr w'=>
 r=.returned (Z8 #[])/\PR w' B g q v nil nil nil o p b (s.fail e)/\Step (blks g q v f bd t o) (blks g q v nil nil nil o) w w':=by
 have H:=Dl h;have c24:=h.cs.c24;have z24:=h.marks 24;have c25:=h.cs.c25;have z25:=h.marks 25;have c13:=h.cs.c13;have z13:=h.marks 13;have c14:=h.cs.c14;have z14:=h.marks 14;have c15:=h.cs.c15;have z15:=h.marks 15;have c16:=h.cs.c16;have z16:=h.marks 16;have c17:=h.cs.c17;have z17:=h.marks 17;have c18:=h.cs.c18;have z18:=h.marks 18;have c19:=h.cs.c19;have z19:=h.marks 19
 have H1:=Dl (h.put 25 (ZE Z7 (e:Int)) {s with e:=e} rfl rfl rfl rfl rfl rfl);have H2:=Dl (H1.out.put 24 (ZB false) {s with e:=e,clean:=false} rfl rfl rfl rfl rfl rfl);clear h;go_enter Tryz.func115,Tryz.ntmps115;go_wp2;go_end0;exact ⟨rfl,H2.out.zero _ rfl,((IL g 25 _ ZW).trans (IL g 24 _ ZW)).trans ((Step.put7 _ _ _ _ _ _ _).trans Step.zero)⟩
theorem rnew_line (B:Nat) (most:Int) (w:World) (hB:B<=w.heap.size):Calls Mm 113 #[ZE Z5 (p:Int),ZE Z7 most] w λr w'=>∃q1,r=.returned (ptr q1)/\w.heap.size<=q1/\Ln.Rr w' B q1 nil p (nl p most)/\Below w.heap.size w w':=by refine (Ln.rnew_any p most w).mono ?_;exact XX8I9
theorem XXSdZ {P:Prop} (h:P:=by refine BI rfl (λev w1 hR hb hh=>?_);have e0:=hR.old 0 rfl;simp only [Am,E6,Ep,Er,GW] at e0;have q0:=(HQ.out.below hb).c 0 _ rfl;have q1:=(HQ.out.below hb).c 1 _ rfl;exact Each.std):P:=h
theorem XXJwx {P:Prop} (h:P:=by
 clear hh;have ef:=hR.func;refine BA 113 #[ZE Z5 (p:Int),ZE Z7 (b.x0)] ZU ((rnew_line B (b.x0) w1 (Gl HBW.out hb.size)).mono ?_);rintro r w2 ⟨q1,rfl,h1,h2,hb2⟩
 exact ⟨_,rfl,hb2,q1,rfl,Gl hb.size h1,h2⟩):P:=h
theorem next_any {f1 bd1 t1:Value} {fs1 ts1:List Fld} {body1:List UInt8} (hrow:w.heap[g]?=some (.cells (pcells p b s q f bd t o).toArray 60 (0,0))) (ho:Own w B g q v f1 bd1 t1 o p s.rd fs1 body1 ts1 s.out):Calls Mm 70 #[ptr g] w λr w'=>
 r=.returned (Z8 #[])/\∃q1,PR w' B g q1 nil nil nil nil o p b (s.next p b)/\Step (blks g q v f1 bd1 t1 o) (blks g q1 nil nil nil nil o) w w':=by
 have H1:=Dl ((((((PR.zero_of hrow ho {s with r:=zero} rfl).put 11 (ZE Z7 0) {s with r:=zero,st:=0} rfl rfl rfl rfl rfl rfl).put 20 (ZE Z7 0) {s with r:=zero,st:=0,lines:=0} rfl rfl rfl rfl rfl rfl).put 21 (ZE Z7 0) {s with r:=zero,st:=0,lines:=0,head:=0} rfl rfl rfl rfl rfl rfl).put 23 (ZB false) {s with r:=zero,st:=0,lines:=0,head:=0,fresh:=false} rfl rfl rfl rfl rfl rfl).put 24 (ZB true) {s with r:=zero,st:=0,lines:=0,head:=0,fresh:=false,clean:=true} rfl rfl rfl rfl rfl rfl);have HS:=Dl ((((((Step.put7 (w:=w) (g:=g) (q:=q) (v:=v) (f:=f1) (bd:=bd1) (t:=t1) (o:=o) (ZD E0) (ZD E0) (ZE Z7 0) nil (ZB false) nil nil).trans (IL g 11 (ZE Z7 0) ZW)).trans (IL g 20 (ZE Z7 0) ZW)).trans (IL g 21 (ZE Z7 0) ZW)).trans (IL g 23 (ZB false) ZW)).trans (IL g 24 (ZB true) ZW));have cs:=Cs.of hrow;have c11:=cs.c11;have z11:=FX hrow 11;have c20:=cs.c20;have z20:=FX hrow 20;have c21:=cs.c21;have z21:=FX hrow 21;have c23:=cs.c23;have z23:=FX hrow 23;have c24:=cs.c24;have z24:=FX hrow 24;have c13:=cs.c13;have z13:=FX hrow 13;have c14:=cs.c14;have z14:=FX hrow 14;have c15:=cs.c15;have z15:=FX hrow 15;have c16:=cs.c16;have z16:=FX hrow 16;have c17:=cs.c17;have z17:=FX hrow 17;have c18:=cs.c18;have z18:=FX hrow 18;have c19:=cs.c19;have z19:=FX hrow 19;have HB:=Dl (ho.ge);clear hrow ho cs;go_enter Tryz.func70,Tryz.ntmps70;go_upto_region 1 with fail
 generalize (((((((((((w.setCell ⟨g,13,none⟩ (ZD E0)).setCell ⟨g,14,none⟩ (ZD E0)).setCell ⟨g,15,none⟩ (ZE Z7 0)).setCell ⟨g,16,none⟩ (nil)).setCell ⟨g,17,none⟩ (ZB false)).setCell ⟨g,18,none⟩ (nil)).setCell ⟨g,19,none⟩ (nil)).setCell ⟨g,11,none⟩ (ZE Z7 0)).setCell ⟨g,20,none⟩ (ZE Z7 0)).setCell ⟨g,21,none⟩ (ZE Z7 0)).setCell ⟨g,23,none⟩ (ZB false)).setCell ⟨g,24,none⟩ (ZB true)=W1 at *;clear c11 c20 c21 c23 c24 c13 c14 c15 c16 c17 c18 c19 z11 z20 z21 z23 z24 z13 z14 z15 z16 z17 z18 z19;obtain ⟨S1,hS1⟩:∃S1:S,{s with r:=zero,st:=0,lines:=0,head:=0,fresh:=false,clean:=true}=S1:=⟨_,rfl⟩;have HS1:=Dl hS1;rw [hS1] at H1;clear hS1
 have HQ:=Dl ((H1.out.drew 1).bk);have HBW:=Dl (show B<=(W1.drewN 1).heap.size from Gl HB.out (Gh (H1.out.drew 1).own.lt));refine BN 11 [21,22,23,24,25,26,27,28,29,30,31] [eP g 0,eP g 0,eP g 0,eP g 0,eQ (ZE Z5 (p:Int)),eP g 0,eP g 0,eP g 1,eP g 1,eQ (ZE Z7 b.x0),λv w=>∃q1,v=ptr q1/\W1.heap.size<=q1/\Ln.Rr w B q1 nil p (nl p (b.x0))] (.quiet 11 (.quiet 12 (.act 13 .done))) ZY ZY ZY ZY (λ_ _ d _ _ h=>by cases d<;>exact h) ZV ZV ⟨BF _,BF _,BF _,BF _,BF _,BF _,BF _,BF _,BF _,BF _,((λ_ _ _ hb h=>by obtain ⟨q1,e1,h1,h2⟩:=h;exact ⟨q1,e1,h1,rr_below h2 hb⟩)),trivial⟩ ?_ ?_
 ·refine ⟨?_,?_,?_,?_,?_,?_,?_,?_,?_,?_,?_,trivial⟩
  iterate 10·exact XXSdZ
  ·refine BI rfl (λev w1 hR hb hh=>?_);have e25:ev (.tmp 25)= _:=hh.at 0;have e30:ev (.tmp 30)= _:=hh.at 1;exact XXJwx
 intro g1 w2 hb hf;have z21:g1 21= _:=hf.at 0;have z31:=hf.at 10;clear hf;obtain ⟨q1,e1,hq1,hr1⟩:=z31;simp only [BM,Ab,F4,F7,F6];rw [e1,z21];simp only [Ju,Jw,Er,Ep];refine Jx ZV (ptr g) (λ_ _=>by go_simp) ?_;simp only [Ab,F4,F7,F6];refine Jx ZV (ZA (some ⟨g,12,none⟩)) (λ_ _=>by go_simp) ?_;simp only [Ab,F4,F7,F6];have c12:=(H1.out.below hb).cs.c12;have z12:=(H1.out.below hb).marks 12;refine Jr ZV (λK hK=>?_);go_simp;refine hK _ _ trivial ?_;clear hK K;refine Js ?_;have H2:=H1.out.line hb hr1 hq1;have HS2:=(HS.out.trans Step.zero).trans ((Step.line hb hq1).trans (IL g 12 (ptr q1) ZW));rw [←HS1.out] at H2;clear H1 HQ HBW HS HS1 hr1 hq1 c12 z12;go_wp2;go_end0;exact ⟨rfl,q1,H2,HS2⟩
theorem record_info:(Mm.info? 58).map (λi=>(i.zero,i.size,i.bytes))=some (some (Z9 #[ZD Bp,ZD Bp,ZE Z7 0,ZC none 0 0,ZB false,ZC none 0 0,ZC none 0 0]),7,120):=ZY
theorem XXVVG {P:Prop} (h:P:=by refine BI rfl (λev w1 hR hb hh=>?_);have e0:=hR.old 0 rfl;simp only [Am,E6,Ep,Er,GW] at e0;have q26:=(HQ.out.below hb).c 26 _ rfl;have q13:=(HQ.out.below hb).c 13 _ rfl;have q14:=(HQ.out.below hb).c 14 _ rfl;have q15:=(HQ.out.below hb).c 15 _ rfl;have q16:=(HQ.out.below hb).c 16 _ rfl;have q17:=(HQ.out.below hb).c 17 _ rfl;have q18:=(HQ.out.below hb).c 18 _ rfl;have q19:=(HQ.out.below hb).c 19 _ rfl;exact Each.std):P:=h
theorem XXKGe {P:Prop} (h:P:=by
 have H2:=H.out.below hb;obtain ⟨ps,hps,hfar,hrow⟩:=H2.own.O;obtain ⟨bo,co,eo, -⟩:=FV hrow;subst eo;obtain ⟨v',w3,hrun,ho,hgr,hor⟩:=Ah w2 39 39 B 58 iR (.agg #[.string Bp,.string Bp,.int .i64 0,.slice none 0 0,.bool false,.slice none 0 0,.slice none 0 0]) 7 120 Tryz.underlying39 I1.out I2.out I3.out I4.out rfl ZX (.slice bo s.out.length co) s.out.length (ps.flatMap (·.1.toList)) hrow (some ⟨gl,0,none⟩) 1 1 [.string s.r.m,.string s.r.x,.int .i64 s.r.k,f,.bool s.r.ch,bd,t] rfl (λ_=>⟨gl,0,rfl,λj u hu=>by rw [Gy];exact hBl.c j u hu⟩) (by intro u hu;simp only [Fk,Fx,or_false] at hu;rcases hu with rfl | rfl | rfl | rfl | rfl | rfl | rfl<;>first | rfl | exact one_own H2.own.F | exact one_own H2.own.D | exact one_own H2.own.T) (by have:=HN.out;unfold maxLen;omega) (by have:=HN.out;omega) (Gl H2.own.ge (Gh H2.own.lt));obtain ⟨b9,c9,e9, -⟩:=FV ho;subst e9;have HP:=H2.own.push hgr ps hps hfar ho hor;have hr3:w3.heap[g]?=some (.cells (pcells p b s q f bd t (.slice bo s.out.length co)).toArray 60 (0,0)):=(hgr.block g H2.own.lt (λe=>H2.own.lone.ne (i:=0) (j:=6) rfl ZX XX1c2)).trans H2.row;refine Jr ZV (λK hK=>?_);refine Each.oper_append _ _ _ rfl ZV ZV hrun ?_;refine hK _ _ trivial ?_;clear hK K hrun;simp only [Ab,F4,F7,F6];refine Jx ZV (ptr g) (λ_ _=>by go_simp) ?_;simp only [Ab,F4,F7,F6];refine Jx ZV (.pointer (some ⟨g,26,none⟩)) (λ_ _=>by go_simp) ?_;simp only [Ab,F4,F7,F6];have c26:=(Cs.of hr3).c26;have z26:=FX hr3 26;refine Jr ZV (λK hK=>?_);go_simp;refine hK _ _ trivial ?_;clear hK K;refine Js ?_
 have hr4:=row_setL hr3 26 (.slice b9 (s.out.length+1) c9)
 have HP4:=HP.set 26 (.slice b9 (s.out.length+1) c9)
 have HS4:=((II hb (L:=blks g q v f bd t (.slice bo s.out.length co))).trans (Step.push hgr hor)).trans (IL g 26 (.slice b9 (s.out.length+1) c9) ZW);have HNX:=Dl (next_any (s:={s with out:=s.out ++ [s.r]}) hr4 HP4);have HS5:=Dl HS4;clear c26 z26 hr3 hr4 HP HP4 HS4 hgr ho hor hrow hfar hps H2 hBl;generalize w3.setCell ⟨g,26,none⟩ (.slice b9 (s.out.length+1) c9)=W4 at *;go_wp2_with (go_at_call 70;with_reducible refine HNX.out.mono ?_;rintro r w5 ⟨rfl,q1,hp5,hs5⟩);go_end0
 exact ⟨rfl,q1,(.slice b9 (s.out.length+1) c9),hp5,HS5.out.trans hs5⟩):P:=h
theorem whole_any (h:PR w B g q v f bd t o p b s) (hn:s.out.length<=1000000000):Calls Mm 158 #[ptr g] w λr w'=>
 r=.returned (Z8 #[])/\∃q1 o1,PR w' B g q1 nil nil nil nil o1 p b (s.whole p b)/\Step (blks g q v f bd t o) (blks g q1 nil nil nil nil o1) w w':=by
 obtain ⟨iR,hi,hz0,hz1,hz2⟩:=info_parts record_info;have I1:=Dl hi;have I2:=Dl hz0;have I3:=Dl hz1;have I4:=Dl hz2;clear hi hz0 hz1 hz2;have H:=Dl h;have HN:=Dl hn;have HQ:=Dl ((h.drew 1).bk);clear h hn;go_enter Tryz.func158,Tryz.ntmps158;go_upto_region 0 with fail
 refine BP 10 [2,3,4,5,6,7,8,9,10,11] [eP g 0,eP g 0,eP g 0,eP g 26,eQ (o),eP g 0,eP g 0,eP g 13,eQ (Z9 #[ZD s.r.m,ZD s.r.x,ZE Z7 s.r.k,f,ZB s.r.ch,bd,t]),λv w=>∃g1,v=ZC (some ⟨g1,0,none⟩) 1 1/\Hv w g1 [ZD s.r.m,ZD s.r.x,ZE Z7 s.r.k,f,ZB s.r.ch,bd,t]] [] 4 (some 0) (.act 10 (.quiet 11 (.quiet 12 (.act 13 .done)))) (.quiet 0 (.act 10 (.quiet 11 (.quiet 12 (.act 13 .done))))) ZY ZY ZY ZY (λk0 h=>by cases h;kernel_rfl) (λ_ _ d _ _ h=>by cases d<;>exact h) ZV ZV ⟨BF _,BF _,BF _,BF _,BF _,BF _,BF _,BF _,BF _,((λ_ _ _ hb h=>by obtain ⟨g1,e1,hB⟩:=h;exact ⟨g1,e1,hB.below hb⟩)),trivial⟩ trivial ZV ?_ ?_ ?_
 ·refine ⟨?_,?_,?_,?_,?_,?_,?_,?_,?_,?_,trivial⟩
  iterate 9·exact XXVVG
  ·refine BI rfl (λev w1 hR hb hh=>?_);have e10:ev (.tmp 10)= _:=hh.at 0;exact XX4eD
 ·intro g1 w2 hb hf;have z2:g1 2= _:=hf.at 0;have z6:g1 6= _:=hf.at 4;have z11:=hf.at 9;clear hf;obtain ⟨gl,el,hBl⟩:=z11;simp only [BM,Ab,F4,F7,F6];rw [z2,z6,el];simp only [Ju,Jw,Er,Ep];exact XXKGe
 ·intro k0 hk0 g1 w2 hb hf;cases hk0;have z6:g1 6= _:=hf.at 4;have z11:=hf.at 9;clear hf;obtain ⟨gl,el,hBl⟩:=z11;simp only [BM,Ab,F4,F7,F6];rw [z6,el];simp only [Ju,Jw,Er,Ep];refine Jx ZV (ptr g) (λ_ _=>by go_simp) ?_;simp only [Ab,F4,F7,F6];exact XXKGe
end
end Par
namespace Par
open Base Txt Mem
section
attribute [local go_sem] A8
variable {w:World} {B:Zone} {g q:Nat} {v f bd t o:Value} {p:Nat} {b:Bd} {s:S}
theorem fail_at (h:PR w B g q v f bd t o p b s) (e:Nat) (x:Int) (hx:x=(e:Int)):Calls Mm 115 #[ptr g,ZE Z7 x] w λr w'=>
 r=.returned (Z8 #[])/\PR w' B g q v nil nil nil o p b (s.fail e)/\Step (blks g q v f bd t o) (blks g q v nil nil nil o) w w':=by
 subst hx;exact fail_any h e
theorem cells_last (ini:List Fld) (a:Fld):(cells (ini ++ [a]))[ini.length*2]?=some (ZD a.1)/\(cells (ini ++ [a]))[ini.length*2+1]?=some (ZD a.2):=by exact XXWvg
theorem cells_put (ini:List Fld) (a c:Fld):((cells (ini ++ [a])).set (ini.length*2) (ZD c.1)).set (ini.length*2+1) (ZD c.2)=cells (ini ++ [c]):=by exact XXysj
theorem XXvrY {P:Prop} (h:P:=by
 rw [hg] at hgo;have HGo:=Dl hgo;clear hgo hg;go_enter JL,Lz;go_upto_region 5 with fail
 generalize w.setCell ⟨g,20,none⟩ (ZE Z7 ((s.lines:Int)+1))=W1 at *;clear c20 z20 a1 a2 t0;have c0:=H1.out.cs.c0
 go_wp2_with (first
  |(at_builtin;refine Ai _ rfl _ _ 46 rfl B 126 iF (.agg #[.string Bp,.string Bp]) 2 32 Nq I1.out I2.out I3.out I4.out rfl ZX (.slice bo s.r.fs.length co) s.r.fs.length (cells s.r.fs) rfl ((H1.out.below (HB3.out.alloc HB3.out.size (.cells #[.string (ba n),.string (ba vv)] 126))).own.F.alloc (.cells #[.string (ba n),.string (ba vv)] 126)) (some ⟨w3.heap.size+1,0,none⟩) 1 1 [.string (ba n),.string (ba vv)] rfl rfl (λ_=>⟨w3.heap.size+1,0,rfl,λj u hu=>by rw [Gy];exact (Hw (w3.alloc (.cells #[.string (ba n),.string (ba vv)] 126)) (w3.heap.size+1) ZW 126 [.string (ba n),.string (ba vv)]).c j u hu⟩) XX1f9 XX821 (by have:=HLEN.out;omega) (by have:=(H1.out.below (HB3.out.alloc HB3.out.size (.cells #[.string (ba n),.string (ba vv)] 126))).own.lt;have:=H1.out.own.ge;simp at *;omega) ?_;intro v2 w5 hO5 hgr5 _ hor5;have HO5:=Dl hO5;have HG5:=Dl hgr5;have HR5:=Dl hor5;clear hO5 hgr5 hor5)
  |(go_at_call 91;with_reducible refine (HP.out _).mono ?_;rintro r w3 ⟨rfl,hb3⟩
    have HB3:=Dl hb3;clear hb3)
  |(go_at_call 212;with_reducible refine Cm (HGo.out _) ?_))
 go_ret
 have hb4:=(HB3.out.alloc HB3.out.size (.cells #[ZD (ba n),ZD (ba vv)] 126));have hb5:=hb4.alloc hb4.size (.cells #[ZD (ba n),ZD (ba vv)] 126);have h4:=H1.out.below hb5;have hl:(s.r.fs ++ [(ba n,ba vv)]).length=s.r.fs.length+1:=ZW;have hk5:Keeps [(Value.slice bo s.r.fs.length co).ownBlock] ((w3.alloc (.cells #[ZD (ba n),ZD (ba vv)] 126)).alloc (.cells #[ZD (ba n),ZD (ba vv)] 126)) w5:=CP HG5.out λk e=>by rw [e];exact Fv.2 rfl
 obtain ⟨ho5,hs5⟩:=h4.own.setF (f':=v2) (fs':=s.r.fs ++ [(ba n,ba vv)]) hk5 (by rw [hl,cells_append];exact HO5.out) (by
  rcases HR5.out with e | e
  ·exact .inl e
  ·exact .inr ⟨_,e,Gi _⟩)
 have hrow:w5.heap[g]?= _:=hk5.row h4.row (λhm=>by
  have e:some g=(Value.slice bo s.r.fs.length co).ownBlock:=by simpa using hm
  exact h4.own.lone.ne (i:=0) (j:=3) rfl ZX XX1c2)
 exact ⟨_,rfl,hrow,ho5,HS1.out.trans ((II hb5).trans hs5)⟩):P:=h
theorem XX2XV {P:Prop} (h:P:=by
 rw [hg] at hgo;have HGo:=Dl hgo;clear hgo hg;go_enter JL,Lz;go_upto_region 5 with fail
 generalize w.setCell ⟨g,20,none⟩ (ZE Z7 ((s.lines:Int)+1))=W1 at *;clear c20 z20 a1 a2 t0;have c0:=H1.out.cs.c0
 go_wp2_with (first
  |(go_at_call 115;with_reducible refine (HFA.out _ (HB3.out.alloc HB3.out.size (.cells #[.string ⟨#[]⟩,.string ⟨#[]⟩] 126))).mono ?_;rintro r w4 ⟨rfl,hP,hS⟩)
  |(go_at_call 91;with_reducible refine (HP.out _).mono ?_;rintro r w3 ⟨rfl,hb3⟩
    have HB3:=Dl hb3;clear hb3)
  |(go_at_call 212;with_reducible refine Cm (HGo.out _) ?_))
 go_ret
 exact ⟨rfl,hP,HS1.out.trans ((II (HB3.out.alloc HB3.out.size (.cells #[ZD ⟨#[]⟩,ZD ⟨#[]⟩] 126))).trans hS)⟩):P:=h
theorem XXPyZ {P:Prop} (h:P:=by
 rw [e];have t0:most<(s.lines:Int)+1:=ZZ;have HFA:=Dl (fail_at H1.out 431 431 rfl);clear e hm;go_enter JL,Lz;go_wp2_with (go_at_call 115;with_reducible refine HFA.out.mono ?_;rintro r w2 ⟨rfl,hP,hS⟩);go_ret
 exact ⟨rfl,hP,HS1.out.trans hS⟩):P:=h
theorem fieldF_any (hp:p<4294967296) (x:ByteArray) (hx:x.size<=5000) (most:Int) (h:PR w B g q v f bd t o p b s) (hl:s.lines<=1000) (hsz:∀y∈s.r.fs,y.1.size<=1000000/\y.2.size<=1000000) (hlen:s.r.fs.length<=500) :
 Calls Mm 189 #[ptr g,f,ZD x,ZE Z7 most] w λr w'=>
  match fieldV p s.lines s.r.fs x.data.toList most with
  | .inl e=>r=.returned nil/\PR w' B g q v nil nil nil o p b (S.fail {s with lines:=s.lines+1} e)/\Step (blks g q v f bd t o) (blks g q v nil nil nil o) w w'
  | .inr l=>∃f',r=.returned f'/\w'.heap[g]?=some (.cells (pcells p b {s with lines:=s.lines+1} q f bd t o).toArray 60 (0,0))/\Own w' B g q v f' bd t o p s.rd l s.r.body s.r.ts s.out/\Step (blks g q v f bd t o) (blks g q v f' bd t o) w w':=by
 obtain ⟨a1,a2⟩:=Ih ((s.lines:Int)+1) ⟨ZZ,ZZ⟩
 have H1:=Dl (h.put 20 (ZE Z7 ((s.lines:Int)+1)) {s with lines:=s.lines+1} rfl rfl rfl rfl rfl rfl);have HS1:=Dl (IL (w:=w) (L:=blks g q v f bd t o) g 20 (ZE Z7 ((s.lines:Int)+1)) ZW);have c20:=h.cs.c20;have z20:=h.marks 20;have HSZ:=Dl hsz;have HLEN:=Dl hlen;clear hsz hlen
 by_cases hm:most<((s.lines+1:Nat):Int)
 ·have e:fieldV p s.lines s.r.fs x.data.toList most=.inl 431:=by unfold fieldV;rw [ZN hm]
  exact XXPyZ
 ·have t0:¬most<(s.lines:Int)+1:=by omega
  obtain ⟨bo,co,eo, -⟩:=FV h.own.F;have hgo:=λw=>Fd.rgoes_any x p hp w;have HP:=Dl (λw=>Fd.rparse_any x p hp w ZZ);have HSZx:=Dl hx;have hnn:(s.r.fs.length:Int)<=500:=by have:=HLEN.out;omega
  subst eo;clear h hl hx;by_cases hj:(BX p x.data.toList && !s.r.fs.isEmpty)=true
  ·simp only [AM,AX,List.isEmpty_eq_false_iff] at hj;obtain ⟨hg,hne⟩:=hj;rw [hg] at hgo;have HGo:=Dl hgo;obtain ⟨ini,last,el⟩:∃ini last,s.r.fs=ini ++ [last]:=⟨_,_,(DL hne).symm⟩;have hn1:s.r.fs.length=ini.length+1:=by rw [el];simp
   have e:fieldV p s.lines s.r.fs x.data.toList most=.inr (ini ++ [joinF last x.data.toList]):=by exact XX098
   rw [e];obtain ⟨gf,cf,hform,hgl,hgf⟩:=H1.out.own.F.form (by show 0<s.r.fs.length;omega);simp only [Value.slice.injEq,true_and] at hform;obtain ⟨rfl,rfl⟩:=hform
   have hq0:=(H1.out.own.F.cellAt (ini.length*2) (by show ini.length*2<s.r.fs.length*2;omega)).trans (show (cells s.r.fs)[ini.length*2]?=some (ZD last.1) by rw [el];exact (cells_last ini last).1)
   have hq1:=(H1.out.own.F.cellAt (ini.length*2+1) (by show ini.length*2+1<s.r.fs.length*2;omega)).trans (show (cells s.r.fs)[ini.length*2+1]?=some (ZD last.2) by rw [el];exact (cells_last ini last).2)
   have hz0:=H1.out.own.F.frozenAt (ini.length*2);have hz1:=H1.out.own.F.frozenAt (ini.length*2+1)
   have HJ:=Dl (show∀w,Calls Mm 213 #[Z9 #[ZD last.1,ZD last.2],ZD x] w λe w'=>e=.returned (Z9 #[ZD last.1,ZD (ba (BY last.2.data.toList x.data.toList))])/\Below w.heap.size w w' from
    λw=>Fd.rjoin_any last.1 last.2 x w XX34b XXef8)
   obtain ⟨k,hk⟩:∃k,ini.length=k:=⟨_,rfl⟩;have HK:=Dl hk;rw [hk] at hn1 hq0 hq1 hz0 hz1;have t1:(0:Int)<(s.r.fs.length:Int):=ZZ;have i1:(k:Int)<(s.r.fs.length:Int):=ZZ;obtain ⟨b1,b2⟩:=Ih ((s.r.fs.length:Int)-1) ⟨ZZ,ZZ⟩;have b3:(s.r.fs.length:Int)-1=(k:Int):=ZZ;rw [b3] at b1 b2;have HEL:=Dl el;have HN1:=Dl hn1;have HGL:=Dl hgl;have HQ0:=Dl hq0;have HQ1:=Dl hq1;have HGF:=Dl hgf;have HZ0:=Dl hz0;have HZ1:=Dl hz1;clear hne e hk hnn el hn1 hg hgo hm hgl;go_enter JL,Lz;go_upto_region 5 with fail
   generalize w.setCell ⟨g,20,none⟩ (ZE Z7 ((s.lines:Int)+1))=W1 at *;clear c20 z20 a1 a2 t0;have c0:=H1.out.cs.c0
   go_wp2_with (first
    |(go_at_call 213;with_reducible refine (HJ.out _).mono ?_;rintro r w3 ⟨rfl,hb3⟩
      have HB3:=Dl hb3;have y0:=(hb3.cell (p:=⟨gf,k*2,none⟩) HGF.out).trans HQ0.out;have y1:=(hb3.cell (p:=⟨gf,k*2+1,none⟩) HGF.out).trans HQ1.out;have x0:=(hb3.frozen (p:=⟨gf,k*2,none⟩) HGF.out).trans HZ0.out;have x1:=(hb3.frozen (p:=⟨gf,k*2+1,none⟩) HGF.out).trans HZ1.out;clear hb3)
    |(go_at_call 212;with_reducible refine Cm (HGo.out _) ?_))
   go_ret;have h3:=H1.out.below HB3.out;exact XXaNX
  ·have hgt:BX p x.data.toList=false∨BX p x.data.toList=true/\¬(0:Int)<(s.r.fs.length:Int):=by
    cases hg:BX p x.data.toList with
    | false=>exact .inl rfl
    | true=>
      refine .inr ⟨rfl,?_⟩;rw [hg] at hj;have:s.r.fs= []:=by simpa using hj
      rw [this];simp
   have hp:=λw=>Fd.rparse_any x p hp w XX34b;have HFA:=Dl (λw2 (hb:Below (w.setCell ⟨g,20,none⟩ (ZE Z7 ((s.lines:Int)+1))).heap.size (w.setCell ⟨g,20,none⟩ (ZE Z7 ((s.lines:Int)+1))) w2)=>fail_at (H1.out.below hb) 400 400 rfl);obtain ⟨iF,hi,hz0,hz1,hz2⟩:=info_parts field_info;have I1:=Dl hi;have I2:=Dl hz0;have I3:=Dl hz1;have I4:=Dl hz2;clear hi hz0 hz1 hz2 HP;rcases hpar:Fd.parse (Fd.clOf p) x.data.toList with _ | _ | ⟨n,vv⟩
   ·have e:fieldV p s.lines s.r.fs x.data.toList most=.inl 400:=by unfold fieldV;rw [ZO hm,ZO hj,hpar]
    rw [e];rw [hpar] at hp;simp only [Fd.rv,Fd.fv] at hp;have HP:=Dl hp;clear e hpar hp hm hj hnn;rcases hgt with hg | ⟨hg,t1⟩
    iterate 2·exact XX2XV
   ·have e:fieldV p s.lines s.r.fs x.data.toList most=.inr s.r.fs:=by unfold fieldV;rw [ZO hm,ZO hj,hpar]
    rw [e];rw [hpar] at hp;simp only [Fd.rv,Fd.fv] at hp;have HP:=Dl hp;clear e hpar hp hm hj hnn;rcases hgt with hg | ⟨hg,t1⟩
    ·rw [hg] at hgo;have HGo:=Dl hgo;clear hgo hg;go_enter JL,Lz;go_upto_region 5 with fail
     generalize w.setCell ⟨g,20,none⟩ (ZE Z7 ((s.lines:Int)+1))=W1 at *;clear c20 z20 a1 a2 t0;have c0:=H1.out.cs.c0
     go_wp2_with (first
      |(go_at_call 91;with_reducible refine (HP.out _).mono ?_;rintro r w3 ⟨rfl,hb3⟩
        have HB3:=Dl hb3;clear hb3)
      |(go_at_call 212;with_reducible refine Cm (HGo.out _) ?_))
     exact XXvfE
    ·rw [hg] at hgo;have HGo:=Dl hgo;clear hgo hg;go_enter JL,Lz;go_upto_region 5 with fail
     generalize w.setCell ⟨g,20,none⟩ (ZE Z7 ((s.lines:Int)+1))=W1 at *;clear c20 z20 a1 a2 t0;have c0:=H1.out.cs.c0
     go_wp2_with (first
      |(go_at_call 91;with_reducible refine (HP.out _).mono ?_;rintro r w3 ⟨rfl,hb3⟩
        have HB3:=Dl hb3;clear hb3)
      |(go_at_call 212;with_reducible refine Cm (HGo.out _) ?_))
     exact XXvfE
   ·have e:fieldV p s.lines s.r.fs x.data.toList most=.inr (s.r.fs ++ [(ba n,ba vv)]):=by unfold fieldV;rw [ZO hm,ZO hj,hpar]
    rw [e];rw [hpar] at hp;simp only [Fd.rv,Fd.fv] at hp;have HP:=Dl hp;clear e hpar hp hm hj hnn;rcases hgt with hg | ⟨hg,t1⟩
    iterate 2·exact XXvrY
theorem XX5JS {P:Prop} (h:P:=by
 rw [hg] at hgo;have HGo:=Dl hgo;clear hgo hg;go_enter JL,Lz;go_upto_region 5 with fail
 generalize w.setCell ⟨g,20,none⟩ (ZE Z7 ((s.lines:Int)+1))=W1 at *;clear c20 z20 a1 a2 t0;have c0:=H1.out.cs.c0
 go_wp2_with (first
  |(at_builtin;refine Ai _ rfl _ _ 46 rfl B 126 iF (.agg #[.string Bp,.string Bp]) 2 32 Nq I1.out I2.out I3.out I4.out rfl ZX (.slice bo s.r.ts.length co) s.r.ts.length (cells s.r.ts) rfl ((H1.out.below (HB3.out.alloc HB3.out.size (.cells #[.string (ba n),.string (ba vv)] 126))).own.T.alloc (.cells #[.string (ba n),.string (ba vv)] 126)) (some ⟨w3.heap.size+1,0,none⟩) 1 1 [.string (ba n),.string (ba vv)] rfl rfl (λ_=>⟨w3.heap.size+1,0,rfl,λj u hu=>by rw [Gy];exact (Hw (w3.alloc (.cells #[.string (ba n),.string (ba vv)] 126)) (w3.heap.size+1) ZW 126 [.string (ba n),.string (ba vv)]).c j u hu⟩) XX1f9 XX821 (by have:=HLEN.out;omega) (by have:=(H1.out.below (HB3.out.alloc HB3.out.size (.cells #[.string (ba n),.string (ba vv)] 126))).own.lt;have:=H1.out.own.ge;simp at *;omega) ?_;intro v2 w5 hO5 hgr5 _ hor5;have HO5:=Dl hO5;have HG5:=Dl hgr5;have HR5:=Dl hor5;clear hO5 hgr5 hor5)
  |(go_at_call 91;with_reducible refine (HP.out _).mono ?_;rintro r w3 ⟨rfl,hb3⟩
    have HB3:=Dl hb3;clear hb3)
  |(go_at_call 212;with_reducible refine Cm (HGo.out _) ?_))
 go_ret
 have hb4:=(HB3.out.alloc HB3.out.size (.cells #[ZD (ba n),ZD (ba vv)] 126));have hb5:=hb4.alloc hb4.size (.cells #[ZD (ba n),ZD (ba vv)] 126);have h4:=H1.out.below hb5;have hl:(s.r.ts ++ [(ba n,ba vv)]).length=s.r.ts.length+1:=ZW;have hk5:Keeps [(Value.slice bo s.r.ts.length co).ownBlock] ((w3.alloc (.cells #[ZD (ba n),ZD (ba vv)] 126)).alloc (.cells #[ZD (ba n),ZD (ba vv)] 126)) w5:=CP HG5.out λk e=>by rw [e];exact Fv.2 rfl
 obtain ⟨ho5,hs5⟩:=h4.own.setT (t':=v2) (ts':=s.r.ts ++ [(ba n,ba vv)]) hk5 (by rw [hl,cells_append];exact HO5.out) (by
  rcases HR5.out with e | e
  ·exact .inl e
  ·exact .inr ⟨_,e,Gi _⟩)
 have hrow:w5.heap[g]?= _:=hk5.row h4.row (λhm=>by
  have e:some g=(Value.slice bo s.r.ts.length co).ownBlock:=by simpa using hm
  exact h4.own.lone.ne (i:=0) (j:=5) rfl ZX XX1c2)
 exact ⟨_,rfl,hrow,ho5,HS1.out.trans ((II hb5).trans hs5)⟩):P:=h
theorem fieldT_any (hp:p<4294967296) (x:ByteArray) (hx:x.size<=5000) (most:Int) (h:PR w B g q v f bd t o p b s) (hl:s.lines<=1000) (hsz:∀y∈s.r.ts,y.1.size<=1000000/\y.2.size<=1000000) (hlen:s.r.ts.length<=500) :
 Calls Mm 189 #[ptr g,t,ZD x,ZE Z7 most] w λr w'=>
  match fieldV p s.lines s.r.ts x.data.toList most with
  | .inl e=>r=.returned nil/\PR w' B g q v nil nil nil o p b (S.fail {s with lines:=s.lines+1} e)/\Step (blks g q v f bd t o) (blks g q v nil nil nil o) w w'
  | .inr l=>∃t',r=.returned t'/\w'.heap[g]?=some (.cells (pcells p b {s with lines:=s.lines+1} q f bd t o).toArray 60 (0,0))/\Own w' B g q v f bd t' o p s.rd s.r.fs s.r.body l s.out/\Step (blks g q v f bd t o) (blks g q v f bd t' o) w w':=by
 obtain ⟨a1,a2⟩:=Ih ((s.lines:Int)+1) ⟨ZZ,ZZ⟩
 have H1:=Dl (h.put 20 (ZE Z7 ((s.lines:Int)+1)) {s with lines:=s.lines+1} rfl rfl rfl rfl rfl rfl);have HS1:=Dl (IL (w:=w) (L:=blks g q v f bd t o) g 20 (ZE Z7 ((s.lines:Int)+1)) ZW);have c20:=h.cs.c20;have z20:=h.marks 20;have HSZ:=Dl hsz;have HLEN:=Dl hlen;clear hsz hlen
 by_cases hm:most<((s.lines+1:Nat):Int)
 ·have e:fieldV p s.lines s.r.ts x.data.toList most=.inl 431:=by unfold fieldV;rw [ZN hm]
  exact XXPyZ
 ·have t0:¬most<(s.lines:Int)+1:=by omega
  obtain ⟨bo,co,eo, -⟩:=FV h.own.T;have hgo:=λw=>Fd.rgoes_any x p hp w;have HP:=Dl (λw=>Fd.rparse_any x p hp w ZZ);have HSZx:=Dl hx;have hnn:(s.r.ts.length:Int)<=500:=by have:=HLEN.out;omega
  subst eo;clear h hl hx;by_cases hj:(BX p x.data.toList && !s.r.ts.isEmpty)=true
  ·simp only [AM,AX,List.isEmpty_eq_false_iff] at hj;obtain ⟨hg,hne⟩:=hj;rw [hg] at hgo;have HGo:=Dl hgo;obtain ⟨ini,last,el⟩:∃ini last,s.r.ts=ini ++ [last]:=⟨_,_,(DL hne).symm⟩;have hn1:s.r.ts.length=ini.length+1:=by rw [el];simp
   have e:fieldV p s.lines s.r.ts x.data.toList most=.inr (ini ++ [joinF last x.data.toList]):=by exact XXTMq
   rw [e];obtain ⟨gf,cf,hform,hgl,hgf⟩:=H1.out.own.T.form (by show 0<s.r.ts.length;omega);simp only [Value.slice.injEq,true_and] at hform;obtain ⟨rfl,rfl⟩:=hform
   have hq0:=(H1.out.own.T.cellAt (ini.length*2) (by show ini.length*2<s.r.ts.length*2;omega)).trans (show (cells s.r.ts)[ini.length*2]?=some (ZD last.1) by rw [el];exact (cells_last ini last).1)
   have hq1:=(H1.out.own.T.cellAt (ini.length*2+1) (by show ini.length*2+1<s.r.ts.length*2;omega)).trans (show (cells s.r.ts)[ini.length*2+1]?=some (ZD last.2) by rw [el];exact (cells_last ini last).2)
   have hz0:=H1.out.own.T.frozenAt (ini.length*2);have hz1:=H1.out.own.T.frozenAt (ini.length*2+1)
   have HJ:=Dl (show∀w,Calls Mm 213 #[Z9 #[ZD last.1,ZD last.2],ZD x] w λe w'=>e=.returned (Z9 #[ZD last.1,ZD (ba (BY last.2.data.toList x.data.toList))])/\Below w.heap.size w w' from
    λw=>Fd.rjoin_any last.1 last.2 x w XX34b XXef8)
   obtain ⟨k,hk⟩:∃k,ini.length=k:=⟨_,rfl⟩;have HK:=Dl hk;rw [hk] at hn1 hq0 hq1 hz0 hz1;have t1:(0:Int)<(s.r.ts.length:Int):=ZZ;have i1:(k:Int)<(s.r.ts.length:Int):=ZZ;obtain ⟨b1,b2⟩:=Ih ((s.r.ts.length:Int)-1) ⟨ZZ,ZZ⟩;have b3:(s.r.ts.length:Int)-1=(k:Int):=ZZ;rw [b3] at b1 b2;have HEL:=Dl el;have HN1:=Dl hn1;have HGL:=Dl hgl;have HQ0:=Dl hq0;have HQ1:=Dl hq1;have HGF:=Dl hgf;have HZ0:=Dl hz0;have HZ1:=Dl hz1;clear hne e hk hnn el hn1 hg hgo hm hgl;go_enter JL,Lz;go_upto_region 5 with fail
   generalize w.setCell ⟨g,20,none⟩ (ZE Z7 ((s.lines:Int)+1))=W1 at *;clear c20 z20 a1 a2 t0;have c0:=H1.out.cs.c0
   go_wp2_with (first
    |(go_at_call 213;with_reducible refine (HJ.out _).mono ?_;rintro r w3 ⟨rfl,hb3⟩
      have HB3:=Dl hb3;have y0:=(hb3.cell (p:=⟨gf,k*2,none⟩) HGF.out).trans HQ0.out;have y1:=(hb3.cell (p:=⟨gf,k*2+1,none⟩) HGF.out).trans HQ1.out;have x0:=(hb3.frozen (p:=⟨gf,k*2,none⟩) HGF.out).trans HZ0.out;have x1:=(hb3.frozen (p:=⟨gf,k*2+1,none⟩) HGF.out).trans HZ1.out;clear hb3)
    |(go_at_call 212;with_reducible refine Cm (HGo.out _) ?_))
   go_ret;have h3:=H1.out.below HB3.out;have ho:(Value.slice (some ⟨gf,0,none⟩) s.r.ts.length co).ownBlock=some gf:=by simp [Value.ownBlock]
   have hk3:Keeps [(Value.slice (some ⟨gf,0,none⟩) s.r.ts.length co).ownBlock] w3 ((w3.setCell ⟨gf,k*2,none⟩ (ZD last.1)).setCell ⟨gf,k*2+1,none⟩ (ZD (ba (BY last.2.data.toList x.data.toList)))):=
    (CU gf (k*2) _ (by rw [ho];simp)).trans (CU gf (k*2+1) _ (by rw [ho];simp)) GQ
   have hl3:(ini ++ [joinF last x.data.toList]).length=s.r.ts.length:=by rw [HEL.out];simp
   have hr3:=((h3.own.T.stored (k*2) (ZD last.1)).1.stored (k*2+1) (ZD (ba (BY last.2.data.toList x.data.toList)))).1;exact XXKim
  ·have hgt:BX p x.data.toList=false∨BX p x.data.toList=true/\¬(0:Int)<(s.r.ts.length:Int):=by
    cases hg:BX p x.data.toList with
    | false=>exact .inl rfl
    | true=>
      refine .inr ⟨rfl,?_⟩;rw [hg] at hj;have:s.r.ts= []:=by simpa using hj
      rw [this];simp
   have hp:=λw=>Fd.rparse_any x p hp w XX34b;have HFA:=Dl (λw2 (hb:Below (w.setCell ⟨g,20,none⟩ (ZE Z7 ((s.lines:Int)+1))).heap.size (w.setCell ⟨g,20,none⟩ (ZE Z7 ((s.lines:Int)+1))) w2)=>fail_at (H1.out.below hb) 400 400 rfl);obtain ⟨iF,hi,hz0,hz1,hz2⟩:=info_parts field_info;have I1:=Dl hi;have I2:=Dl hz0;have I3:=Dl hz1;have I4:=Dl hz2;clear hi hz0 hz1 hz2 HP;rcases hpar:Fd.parse (Fd.clOf p) x.data.toList with _ | _ | ⟨n,vv⟩
   ·have e:fieldV p s.lines s.r.ts x.data.toList most=.inl 400:=by unfold fieldV;rw [ZO hm,ZO hj,hpar]
    rw [e];rw [hpar] at hp;simp only [Fd.rv,Fd.fv] at hp;have HP:=Dl hp;clear e hpar hp hm hj hnn;rcases hgt with hg | ⟨hg,t1⟩
    iterate 2·exact XX2XV
   ·have e:fieldV p s.lines s.r.ts x.data.toList most=.inr s.r.ts:=by unfold fieldV;rw [ZO hm,ZO hj,hpar]
    rw [e];rw [hpar] at hp;simp only [Fd.rv,Fd.fv] at hp;have HP:=Dl hp;clear e hpar hp hm hj hnn;rcases hgt with hg | ⟨hg,t1⟩
    ·rw [hg] at hgo;have HGo:=Dl hgo;clear hgo hg;go_enter JL,Lz;go_upto_region 5 with fail
     generalize w.setCell ⟨g,20,none⟩ (ZE Z7 ((s.lines:Int)+1))=W1 at *;clear c20 z20 a1 a2 t0;have c0:=H1.out.cs.c0
     go_wp2_with (first
      |(go_at_call 91;with_reducible refine (HP.out _).mono ?_;rintro r w3 ⟨rfl,hb3⟩
        have HB3:=Dl hb3;clear hb3)
      |(go_at_call 212;with_reducible refine Cm (HGo.out _) ?_))
     exact XXvfE
    ·rw [hg] at hgo;have HGo:=Dl hgo;clear hgo hg;go_enter JL,Lz;go_upto_region 5 with fail
     generalize w.setCell ⟨g,20,none⟩ (ZE Z7 ((s.lines:Int)+1))=W1 at *;clear c20 z20 a1 a2 t0;have c0:=H1.out.cs.c0
     go_wp2_with (first
      |(go_at_call 91;with_reducible refine (HP.out _).mono ?_;rintro r w3 ⟨rfl,hb3⟩
        have HB3:=Dl hb3;clear hb3)
      |(go_at_call 212;with_reducible refine Cm (HGo.out _) ?_))
     exact XXvfE
   ·have e:fieldV p s.lines s.r.ts x.data.toList most=.inr (s.r.ts ++ [(ba n,ba vv)]):=by unfold fieldV;rw [ZO hm,ZO hj,hpar]
    rw [e];rw [hpar] at hp;simp only [Fd.rv,Fd.fv] at hp;have HP:=Dl hp;clear e hpar hp hm hj hnn;rcases hgt with hg | ⟨hg,t1⟩
    iterate 2·exact XX5JS
end
end Par
open _root_.Bool renaming and_false→AN,false_and→AS,false_or→AV,or_eq_true→Bc,or_false→Be,true_and→Bg,true_or→Bh
open _root_.Go.Act renaming eval→Aa
open _root_.Go.Proofs.Tryz renaming ntmps209→L9,results209→Mq
open _root_.List renaming cons_append→DC,contains_cons→DE,dropWhile_cons→DM,drop_eq_nil_of_le→DS,mem_append→Fj,take_append_drop→FD
open _root_.Nat renaming lt_of_lt_of_le→Gn
open _root_.Option renaming map_some→GY,some→GZ
open _root_.Prod.mk renaming injEq→Hl
open Oct renaming digit→GF,letter→GI
open Sched renaming change→I9,quiet→IC
open Tgt.Tgb renaming put→Je
namespace Tgt
open Base Oct Num Txt
theorem host_parts (l:List UInt8):hostB l=match parts 58 l with
 | [n]=>nameOk n
 | [n,p]=>nameOk n&&portOk p
 | _=>false:=by
 unfold hostB;rcases cut_cases 58 l with h | ⟨a,r,rfl,h⟩
 ·rw [cutAt_none 58 l h,parts_none 58 l h];simp
 ·rw [cutAt_app 58 a r h,parts_cut 58 a r h];simp only [Bool.not_true,AV];rcases cut_cases 58 r with h2 | ⟨b,r2,rfl,h2⟩
  ·rw [parts_none 58 r h2]
  ·rw [parts_cut 58 b r2 h2];have:portOk (b++58::r2)=false:=by
    cases hp:portOk (b++58::r2) with
    | false=>rfl
    | true=>exact ZG ZW (port_no_colon hp)
   rw [this,AN];cases hq:parts 58 r2 with
   | nil=>
     have:=parts_length 58 r2;rw [hq] at this;simp at this
   | cons x xs=>rfl
theorem parts_form (c:UInt8) (l:List UInt8):(∃n,parts c l= [n])∨(∃n p,parts c l= [n,p])∨∃n p x xs,parts c l=n::p::x::xs:=by
 cases h:parts c l with
 | nil=>
   have:=parts_length c l;rw [h] at this;simp at this
 | cons n t=>
   match t with
   | []=>exact .inl ⟨n,rfl⟩
   | [p]=>exact .inr (.inl ⟨n,p,rfl⟩)
   | p::x::xs=>exact .inr (.inr ⟨n,p,x,xs,rfl⟩)
theorem parts_bound (c:UInt8):∀(l:List UInt8),∀p∈parts c l,p.length<=l.length
 | [],p,h=>by simp [parts] at h;subst h;simp
 | b::l,p,h=>by
   rw [parts] at h;have ih:=parts_bound c l;split at h
   ·rcases Fk.1 h with rfl | h
    ·simp
    ·have:=ih p h;simp;omega
   ·cases hq:parts c l with
    | nil=>rw [hq] at h;simp at h;subst h;simp
    | cons y ys=>
      rw [hq] at h ih;rcases Fk.1 h with rfl | h
      ·have:=ih y ZW;simp;omega
      ·have:=ih p (by simp [h]);simp;omega
theorem name_ways (x:UInt8):(plainB nameMarks x=true/\(GI (x.toNat:Int)=true∨(GI (x.toNat:Int)=false/\GF (x.toNat:Int)=true)∨(GI (x.toNat:Int)=false/\GF (x.toNat:Int)=false/\((x.toNat:Int)=45∨(x.toNat:Int)=46∨(x.toNat:Int)=95∨(x.toNat:Int)=126))))∨
 (plainB nameMarks x=false/\GI (x.toNat:Int)=false/\GF (x.toNat:Int)=false/\¬(x.toNat:Int)=45/\¬(x.toNat:Int)=46/\¬(x.toNat:Int)=95/\¬(x.toNat:Int)=126):=by
 have hc:nameMarks.contains x=true↔((x.toNat:Int)=45∨(x.toNat:Int)=46∨(x.toNat:Int)=95∨(x.toNat:Int)=126):=by have e:∀k:UInt8,x=k↔(x.toNat:Int)=(k.toNat:Int):=λk=>⟨λh=>by rw [h],λh=>NI.1 ZZ⟩;simp only [nameMarks,DE,List.contains_nil,Be,Bc,ZI];rw [e 45,e 46,e 95,e 126];rfl
 unfold plainB;cases hl:GI (x.toNat:Int) with
 | true=>exact .inl ⟨rfl,.inl rfl⟩
 | false=>
   cases hd:GF (x.toNat:Int) with
   | true=>exact .inl ⟨rfl,.inr (.inl ⟨rfl,rfl⟩)⟩
   | false=>
     cases hm:nameMarks.contains x with
     | true=>exact .inl ⟨rfl,.inr (.inr ⟨rfl,rfl,hc.1 hm⟩)⟩
     | false=>
       refine .inr ⟨rfl,rfl,rfl,?_,?_,?_,?_⟩<;> (intro h;have:=hc.2 (by simp [h]);rw [hm] at this;cases this)
section
attribute [local go_sem] A8
theorem XXodb {P:Prop} (h:P:=by
 subst hRf;generalize ba n=N at *;go_enter Tryz.func230,Tryz.ntmps230
 go_wp2_with (go_at_call 166;with_reducible refine (HS.out _).mono ?_;rintro e w1 ⟨bl,off,m,cp,rfl,hbl,hb,hc0,hm⟩
              have t1:¬(2:Int)<(m:Int):=by rcases hm with ⟨rfl,_⟩ | ⟨rfl,_⟩<;>omega
              have t2:(0:Int)<(m:Int):=by rcases hm with ⟨rfl,_⟩ | ⟨rfl,_⟩<;>omega
              clear hm)
 go_ret
 exact ⟨rfl,hb⟩):P:=h
theorem XXds3 {P:Prop} (h:P:=by
 go_wp2_with (first
  |(go_at_call 218;with_reducible refine Cm (HL.out _) ?_)
  |(go_at_call 198;with_reducible refine Cm (HD.out _) ?_))
 go_round
 case rel=>exact ⟨k+1,ZZ,ZT,HNX⟩
 case measure=>simp [intOf];omega):P:=h
theorem rhost_core (s:ByteArray) (n:List UInt8) (T:Bool) (w:World) (hn:n.length<=1000000000)
 (hS:∀w,Calls Mm 166 #[ZD s,ZE Z6 58] w λe w'=>∃bl off m cp,e=.returned (ZC (some ⟨bl,off,none⟩) m cp)/\bl<w'.heap.size/\Below w.heap.size w w'/\w'.cell? ⟨bl,off,none⟩=some (ZD (ba n))/\
   ((m=1/\T=true)∨(m=2/\∃p,w'.cell? ⟨bl,off+1,none⟩=some (ZD (ba p))/\p.length<=1000000000/\portOk p=T))) :
 Calls Mm 230 #[ZD s] w λe w'=>e=.returned (ZB (nameOk n&&T))/\Below w.heap.size w w':=by
 have HS:=Dl hS;clear hS;obtain ⟨R,hR⟩:∃R,(nameOk n&&T)=R:=⟨_,rfl⟩;rw [hR];have hsz:=ba_size n;have HR:=Dl hR;clear hR;rcases Gg n.length with h0 | hpos
 ·have hRf:false=R:=by
   rw [←HR.out];obtain rfl:n= []:=ET.1 h0;rfl
  have hz:((ba n).size:Int)<1:=ZZ;clear HR hsz h0;exact XXodb
 have hz:¬((ba n).size:Int)<1:=ZZ;rcases Gp 255 n.length with hbig | hsm
 ·have hRf:false=R:=by
   rw [←HR.out];unfold nameOk;rw [ZL (by omega:¬n.length<=255),AS,AN];rfl
  have hz2:(255:Int)<((ba n).size:Int):=ZZ;clear HR hsz hpos hbig;exact XXodb
 have hz2:¬(255:Int)<((ba n).size:Int):=ZZ
 have HR2:Hid ((n.all (plainB nameMarks)&&T)=R):=Dl (by
  rw [←HR.out];unfold nameOk;have:n.isEmpty=false:=by cases n with
   | nil=>simp at hpos
   | cons _ _=>rfl
  rw [ZK hsm,this];rfl)
 have e0:∀k (h:k<(ba n).size) (hk2:k<n.length),(ba n)[k]'h=n[k]:=λ_ _ _=>rfl;have E0:=Dl e0;have HZ:=Dl hsz;have hHM:∀k (h:k<n.length),n[k]∈n:=λk h=>EB h;have HM:=Dl hHM;have hTS:∀k (h:k<n.length),n.take (k+1)=n.take k ++ [n[k]]:=λk h=>FG h;have HTS:=Dl hTS;clear HR e0 hsz hpos hHM hTS;generalize ba n=N at *;go_enter Tryz.func230,Tryz.ntmps230
 go_wp2_with (go_at_call 166;with_reducible refine (HS.out _).mono ?_;rintro e w1 ⟨bl,off,m,cp,rfl,hbl,hb,hc0,hm⟩
              have t1:¬(2:Int)<(m:Int):=by rcases hm with ⟨rfl,_⟩ | ⟨rfl,_⟩<;>omega
              have t2:(0:Int)<(m:Int):=by rcases hm with ⟨rfl,_⟩ | ⟨rfl,_⟩<;>omega
              have HMM:=Dl hm;have HBB:=Dl hb;clear hm hb)
 go_loop [4] (λi=>∃k:Nat,k<=N.size/\i=ZE Z7 k/\Hid ((n.take k).all (plainB nameMarks)=true)) (λi=>N.size-(intOf i).toNat)
 case atStart=>exact ⟨0,Gz _,rfl,Dl rfl⟩
 case round=>
  obtain ⟨k,hk,rfl,hall⟩:=hrel;rcases Gp k N.size with hlt | hge
  ·have i1:(k:Int)<(N.size:Int):=by omega
   have hkn:k<n.length:=by have:=HZ.out;omega
   obtain ⟨x,hxx⟩:∃x,n[k]=x:=⟨_,rfl⟩;have hx:∀h,N[k]'h=x:=λh=>(E0.out k h hkn).trans hxx
   have hts:=Dl (HTS.out k hkn);have hmm:=Dl (HM.out k hkn);rw [hxx] at hts hmm;clear hxx hkn
   have HL:=Dl (λw=>Oct.rletter_any (x.toNat:Int) w);have HD:=Dl (λw=>Oct.rdigit_any (x.toNat:Int) w);rcases name_ways x with ⟨hq,hway⟩ | ⟨hq,hl,hd,n45,n46,n95,n126⟩
   ·have HNX:Hid ((n.take (k+1)).all (plainB nameMarks)=true):=Dl (by rw [hts.out,List.all_append,hall.out];simp [hq]);clear hq hmm hts hall;rcases hway with hl | ⟨hl,hd⟩ | ⟨hl,hd,hc⟩
    ·rw [hl] at HL;clear hl;exact XXds3
    ·rw [hl] at HL;rw [hd] at HD;clear hl hd;exact XXds3
    ·rw [hl] at HL;rw [hd] at HD;clear hl hd;rcases hc with hc | hc | hc | hc;all_goals
      have d1:=λ(z:Int)=>ZH (λy:Int=>y != z) hc;have d2:=d1 45;have d3:=d1 46;have d4:=d1 95;have d5:=d1 126;simp only [show ((45:Int) != 45)=false from rfl,show ((46:Int) != 45)=true from rfl,show ((46:Int) != 46)=false from rfl,show ((95:Int) != 45)=true from rfl,show ((95:Int) != 46)=true from rfl,show ((95:Int) != 95)=false from rfl,show ((126:Int) != 45)=true from rfl,show ((126:Int) != 46)=true from rfl,show ((126:Int) != 95)=true from rfl,show ((126:Int) != 126)=false from rfl] at d2 d3 d4 d5;clear d1 hc
      go_wp2_with (first
       |(go_at_call 218;with_reducible refine Cm (HL.out _) ?_)
       |(go_at_call 198;with_reducible refine Cm (HD.out _) ?_))
      go_round
      case rel=>exact ⟨k+1,ZZ,ZT,HNX⟩
      case measure=>simp [intOf];omega
   ·have hRf:false=R:=by
     rw [←HR2.out,List.all_eq_false.2 ⟨x,hmm.out,by rw [hq];decide⟩];rfl
    have HRF:=Dl hRf;rw [hl] at HL;rw [hd] at HD;have d45:((x.toNat:Int) != 45)=true:=bne_iff_ne.2 n45;have d46:((x.toNat:Int) != 46)=true:=bne_iff_ne.2 n46;have d95:((x.toNat:Int) != 95)=true:=bne_iff_ne.2 n95;have d126:((x.toNat:Int) != 126)=true:=bne_iff_ne.2 n126;clear hl hd n45 n46 n95 n126 hq hRf hmm hts hall
    go_wp2_with (first
     |(go_at_call 218;with_reducible refine Cm (HL.out _) ?_)
     |(go_at_call 198;with_reducible refine Cm (HD.out _) ?_))
    go_ret;exact ⟨by rw [←HRF.out];rfl,HBB.out⟩
  ·obtain rfl:k=N.size:=by omega
   have hTR:T=R:=by rw [←HR2.out];have:=hall.out;rw [FF (by rw [HZ.out];exact Gi _)] at this;rw [this,Bg]
   have HTR:=Dl hTR;clear hTR hall;rcases HMM.out with ⟨rfl,hT⟩ | ⟨rfl,p,hc1,hpl,hT⟩
   ·have HT:=Dl (hT.symm.trans HTR.out);clear hT HMM;go_wp2;go_ret;exact ⟨by rw [←HT.out];rfl,HBB.out⟩
   ·have hps:=ba_size p;have HDc:=Dl (λw=>Num.rdec_any 65535 ZX (ba p) w ZP);rw [ba_list] at HDc;have hP:portOk p=(decide ((ba p).size<=5)&&decide ((readOf 10 65535 p).2=0)):=by unfold portOk;rw [hps]
    rw [hP] at hT;generalize (readOf 10 65535 p).2=en at *;generalize (readOf 10 65535 p).1=vn at *;generalize ba p=PP at *;clear hP hps HMM;by_cases he:en=0
    ·subst he;rw [ZK rfl,AO] at hT;have HT:=Dl (hT.trans HTR.out);clear hT;go_wp2_with (go_at_call 252;with_reducible refine Cm (HDc.out _) ?_);go_ret;exact ⟨by rw [←HT.out];first | rfl |(simp;omega),HBB.out⟩
    ·rw [ZL he,AN] at hT;have HT:=Dl (hT.trans HTR.out);have he2:(en==0)=false:=ZM.2 he;clear hT he;go_wp2_with (go_at_call 252;with_reducible refine Cm (HDc.out _) ?_);go_ret;exact ⟨by rw [←HT.out];rfl,HBB.out⟩
theorem rhost_any (s:ByteArray) (w:World) (hs:s.size<=1000000000):Calls Mm 230 #[ZD s] w λe w'=>e=.returned (ZB (hostB s.data.toList))/\Below w.heap.size w w':=by
 have HS:=Dl (λw=>Txt.rsplit_any s 58 w hs);have hbd:=parts_bound 58 s.data.toList;rw [len] at hbd;rw [host_parts];rcases parts_form 58 s.data.toList with ⟨n,hp⟩ | ⟨n,p,hp⟩ | ⟨n,p,x,xs,hp⟩
 ·rw [hp] at HS hbd;rw [hp];have hnl:=hbd n ZW;have key:=rhost_core s n true w ZZ λw=>(HS.out w).mono λe w' h=>by
   obtain ⟨b,m,cp,rfl,hm,hst,hb⟩:=h;obtain rfl:m=1:=hm;obtain ⟨bl,off,rfl,hbl,hc⟩:=hst.2 ZZ;exact ⟨bl,off,1,cp,rfl,hbl,hb,hc 0 ZZ,.inl ⟨rfl,rfl⟩⟩
  rw [AO] at key;exact key
 ·rw [hp] at HS hbd;rw [hp];have hnl:=hbd n ZW;have hpl:=hbd p ZW;exact rhost_core s n (portOk p) w ZZ λw=>(HS.out w).mono λe w' h=>by
   obtain ⟨b,m,cp,rfl,hm,hst,hb⟩:=h;obtain rfl:m=2:=hm;obtain ⟨bl,off,rfl,hbl,hc⟩:=hst.2 ZZ;exact ⟨bl,off,2,cp,rfl,hbl,hb,hc 0 ZZ,.inr ⟨rfl,p,hc 1 ZZ,ZZ,rfl⟩⟩
 ·rw [hp] at HS;rw [hp];clear hp hbd;have HS2:Hid (∀w,Calls Mm 166 #[ZD s,ZE Z6 58] w λe w'=>∃b m cp,e=.returned (.slice b m cp)/\m=(n::p::x::xs).length/\Strs w' b m ((n::p::x::xs).map ba)/\Below w.heap.size w w'):=HS;clear HS;go_enter Tryz.func230,Tryz.ntmps230
  go_wp2_with (go_at_call 166;with_reducible refine (HS2.out _).mono ?_;rintro e w1 ⟨b,m,cp,rfl,hm,hst,hb⟩
               have t1:(2:Int)<(m:Int):=by rw [hm];simp;omega)
  go_ret;exact ⟨rfl,hb⟩
end
end Tgt
namespace Tgt
open Base Oct Num Txt
theorem written_drop (ms l:List UInt8) (k:Nat) (h:k<l.length):written ms (l.drop k)=(okAt ms l[k] (l.drop (k+1))&&written ms (l.drop (k+1))):=by rw [DR h,written]
theorem okAt_short (ms:List UInt8) (c:UInt8) (r:List UInt8) (h:r.length<2):okAt ms c r=plainB ms c:=by
 match r,h with
 | [],_=>rfl
 | [a],_=>rfl
theorem okAt_pct (ms l:List UInt8) (k:Nat) (h:k+2<l.length):okAt ms 37 (l.drop (k+1))=(hexB l[k+1]&&hexB l[k+2]):=by rw [DR (by omega:k+1<l.length),DR (by omega:k+1+1<l.length),okAt,if_pos rfl]
theorem contains_snoc (l:List UInt8) (k:Nat) (h:k<l.length) (c:UInt8):(l.take (k+1)).contains c=((l.take k).contains c|| (c==l[k])):=by
 rw [FG h];generalize l[k]=x;generalize l.take k=m
 induction m with
 | nil=>rw [Fw,DE,List.contains_nil,Be,AV]
 | cons y m ih=>rw [DC,DE,DE,ih,Bool.or_assoc]
section
attribute [local go_sem] A8
theorem XXQfM {P:Prop} (h:P:=by
 obtain ⟨q,hq,rfl,rfl⟩:=hrel;rcases Gp q ms.size with hlq | hgq
 ·have j1:(q:Int)<(ms.size:Int):=by omega
  have hsn:=Dl (contains_snoc ms.data.toList q (by rw [len];exact hlq) c);obtain ⟨y,hy⟩:∃y,ms.data.toList[q]'(by rw [len];exact hlq)=y:=⟨_,rfl⟩;have hym:∀h,ms[q]'h=y:=λ_=>hy;rw [hy] at hsn;clear hy;obtain ⟨z,hz⟩:∃z,(ms.data.toList.take (q+1)).contains c=z:=⟨_,rfl⟩;rw [hz] at hsn;have HZQ:=Dl hz;clear hz;generalize (ms.data.toList.take q).contains c=v at *;cases hv:(b0||v) with
  | true=>
    have HZ:Hid ((b0||z)=true):=Dl (by rw [hsn.out,←Bool.or_assoc,hv,Bh]);clear hv hsn;go_wp2;go_round
    case rel=>exact ⟨q+1,ZZ,ZT,by rw [HZQ.out,HZ.out]⟩
    case measure=>simp [intOf];omega
  | false=>
    have HZ:Hid ((b0||z)=(c==y)):=Dl (by rw [hsn.out,←Bool.or_assoc,hv,AV]);clear hv hsn;cases hcy:(c==y) with
    | true=>
      rw [hcy] at HZ;have t1:((c.toNat:Int)==(y.toNat:Int))=true:=by rw [ZI.1 hcy];exact beq_self_eq_true _
      clear hcy;go_wp2;go_round
      case rel=>exact ⟨q+1,ZZ,ZT,by rw [HZQ.out,HZ.out]⟩
      case measure=>simp [intOf];omega
    | false=>
      rw [hcy] at HZ;have t1:((c.toNat:Int)==(y.toNat:Int))=false:=ZM.2 λe=>(ZM.1 hcy) (NI.1 ZZ);clear hcy;go_wp2;go_round
      case rel=>exact ⟨q+1,ZZ,ZT,by rw [HZQ.out,HZ.out]⟩
      case measure=>simp [intOf];omega
 ·obtain rfl:q=ms.size:=by omega
  have j1:¬(ms.size:Int)<(ms.size:Int):=ZZ;rw [FF XXc2a,←HPL.out];by_cases hlong:c=37/\k+2<s.size
  ·obtain ⟨hc37,hlg⟩:=hlong;have t37:((c.toNat:Int)==37)=true:=by rw [hc37];rfl
   have m1:IntKind.i64.wrap ((s.size:Int)-(k:Int))=((s.size-k:Nat):Int):=by rw [wrap_in _ ZZ ZZ];omega
   have m2:(2:Int)<((s.size-k:Nat):Int):=ZZ;have m3:IntKind.i64.wrap ((k:Int)+1)=((k+1:Nat):Int):=by rw [wrap_in _ ZZ ZZ];omega
   have m4:IntKind.i64.wrap ((k:Int)+2)=((k+2:Nat):Int):=by rw [wrap_in _ ZZ ZZ];omega
   have i2:((k+1:Nat):Int)<(s.size:Int):=ZZ;have i3:((k+2:Nat):Int)<(s.size:Int):=ZZ;have hw2:=HW.out;rw [hc37,okAt_pct _ _ k (by rw [len];exact hlg)] at hw2;obtain ⟨a,ha⟩:∃a,s.data.toList[k+1]'(by rw [len];omega)=a:=⟨_,rfl⟩;obtain ⟨b,hb⟩:∃b,s.data.toList[k+2]'(by rw [len];omega)=b:=⟨_,rfl⟩;rw [ha,hb] at hw2;have ya:∀h,s[k+1]'h=a:=λ_=>ha;have yb:∀h,s[k+2]'h=b:=λ_=>hb
   have HXA:=Dl (λw=>Oct.rhex_any (a.toNat:Int) w ZZ (Base.byte_lt a));have HXB:=Dl (λw=>Oct.rhex_any (b.toNat:Int) w ZZ (Base.byte_lt b));have ea:Oct.isHex (a.toNat:Int)=hexB a:=rfl;have eb:Oct.isHex (b.toNat:Int)=hexB b:=rfl;rw [ea] at HXA;rw [eb] at HXB;have HW2:=Dl hw2;clear hw2 ha hb ea eb hc37 hlg HW HPL hc;generalize Oct.hexVal (a.toNat:Int)=va at *;generalize Oct.hexVal (b.toNat:Int)=vb at *;generalize hexB a=ha at *;generalize hexB b=hb at *;rcases (show (ha=true/\hb=true)∨(ha&&hb)=false by cases ha<;>cases hb<;>simp) with ⟨rfl,rfl⟩ | hf
   ·have HW3:Hid (written ms.data.toList (s.data.toList.drop (k+1))=A):=HW2;clear HW2
    go_wp2_with (first
     |(go_at_call 195;with_reducible refine Cm (HXA.out _) ?_)
     |(go_at_call 195;with_reducible refine Cm (HXB.out _) ?_))
    go_round
    case rel=>exact ⟨k+1,ZZ,ZT,HW3⟩
    case measure=>simp [intOf];omega
   ·rw [hf] at HW2;have HF:Hid (false=A):=HW2;clear HW2;cases ha;all_goals cases hb
    all_goals try (exact ZG hf ZX)
    all_goals
     clear hf
     go_wp2_with (first
      |(go_at_call 195;with_reducible refine Cm (HXA.out _) ?_)
      |(go_at_call 195;with_reducible refine Cm (HXB.out _) ?_))
     go_ret;exact ⟨by rw [←HF.out];rfl,rfl⟩
  ·have hok:okAt ms.data.toList c (s.data.toList.drop (k+1))=plainB ms.data.toList c:=by
    by_cases hc37:c=37
    ·exact okAt_short _ _ _ (by have:¬k+2<s.size:=λh=>hlong ⟨hc37,h⟩;rw [ER,len];omega)
    ·exact okAt_plain _ _ _ hc37
   have HW2:=Dl (by have:=HW.out;rwa [hok] at this);clear hok HW HPL;generalize plainB ms.data.toList c=pb at *;by_cases hc37:c=37
   ·have t37:((c.toNat:Int)==37)=true:=by rw [hc37];rfl
    have m1:IntKind.i64.wrap ((s.size:Int)-(k:Int))=((s.size-k:Nat):Int):=by rw [wrap_in _ ZZ ZZ];omega
    have m2:¬(2:Int)<((s.size-k:Nat):Int):=by have:¬k+2<s.size:=λh=>hlong ⟨hc37,h⟩;omega
    clear hlong hc37 hc;cases pb with
    | true=>
      go_wp2;go_round
      case rel=>exact ⟨k+1,ZZ,ZT,Dl (by have:=HW2.out;rwa [Bg] at this)⟩
      case measure=>simp [intOf];omega
    | false=>
      have hf:=HW2.out;rw [AS] at hf;have HF:=Dl hf;clear hf HW2;go_wp2;go_ret;exact ⟨by rw [←HF.out];rfl,rfl⟩
   ·have t37:((c.toNat:Int)==37)=false:=ZM.2 λe=>hc37 (NI.1 (by show c.toNat=37;omega));clear hlong hc37 hc;cases pb with
    | true=>
      go_wp2;go_round
      case rel=>exact ⟨k+1,ZZ,ZT,Dl (by have:=HW2.out;rwa [Bg] at this)⟩
      case measure=>simp [intOf];omega
    | false=>
      have hf:=HW2.out;rw [AS] at hf;have HF:=Dl hf;clear hf HW2;go_wp2;go_ret
      exact ⟨by rw [←HF.out];rfl,rfl⟩):P:=h
theorem rof_any (s ms:ByteArray) (w:World) (hs:s.size<=1000000000) (hms:ms.size<=1000000000) :
 Calls Mm 277 #[ZD s,ZD ms] w λe w'=>e=.returned (ZB (written ms.data.toList s.data.toList))/\w'=w:=by
 obtain ⟨A,hA⟩:∃A,written ms.data.toList s.data.toList=A:=⟨_,rfl⟩;rw [hA];have HA:=Dl hA;clear hA;go_enter Tryz.func277,Tryz.ntmps277;go_wp2
 go_loop [5] (λi=>∃k:Nat,k<=s.size/\i=ZE Z7 k/\Hid (written ms.data.toList (s.data.toList.drop k)=A)) (λi=>s.size-(intOf i).toNat)
 case atStart=>exact ⟨0,Gz _,rfl,HA⟩
 case round=>
  obtain ⟨k,hk,rfl,hw⟩:=hrel;rcases Gp k s.size with hlt | hge
  ·have i1:(k:Int)<(s.size:Int):=by omega
   have hkl:k<s.data.toList.length:=by rw [len];exact hlt
   obtain ⟨c,hc⟩:∃c,s.data.toList[k]=c:=⟨_,rfl⟩;have hx:∀h,s[k]'h=c:=λ_=>hc;have hwd:=hw.out;rw [written_drop _ _ k hkl,hc] at hwd;have HW:=Dl hwd;clear hwd hw
   have HL:=Dl (λw=>Oct.rletter_any (c.toNat:Int) w);have HD:=Dl (λw=>Oct.rdigit_any (c.toNat:Int) w);have hpl:plainB ms.data.toList c=((GI (c.toNat:Int)||GF (c.toNat:Int))||ms.data.toList.contains c):=rfl;have HPL:=Dl hpl;clear hpl;have hbase:∃b0,(GI (c.toNat:Int)||GF (c.toNat:Int))=b0:=⟨_,rfl⟩;obtain ⟨b0,hb0⟩:=hbase;rw [hb0] at HPL;have hbb:(GI (c.toNat:Int)=true/\b0=true)∨(GI (c.toNat:Int)=false/\GF (c.toNat:Int)=b0):=by
    cases hl:GI (c.toNat:Int) with
    | true=>rw [hl,Bh] at hb0;exact .inl ⟨rfl,hb0.symm⟩
    | false=>rw [hl,AV] at hb0;exact .inr ⟨rfl,hb0⟩
   clear hb0;rcases hbb with ⟨hl,hb0⟩ | ⟨hl,hd⟩
   rotate_left 1
   ·rw [hd] at HD;rw [hl] at HL;clear hl hd
    go_wp2_with (first
     |(go_at_call 218;with_reducible refine Cm (HL.out _) ?_)
     |(go_at_call 198;with_reducible refine Cm (HD.out _) ?_))
    clear HL HD
    go_loop [7,8] (λok j=>∃q:Nat,q<=ms.size/\j=ZE Z7 q/\ok=ZB (b0|| (ms.data.toList.take q).contains c)) (λ_ j=>ms.size-(intOf j).toNat)
    case atStart=>exact ⟨0,Gz _,rfl,ZW⟩
    case round=>exact XXQfM
   ·rw [hl] at HL;clear hl;go_wp2_with (go_at_call 218;with_reducible refine Cm (HL.out _) ?_);clear HL HD
    go_loop [7,8] (λok j=>∃q:Nat,q<=ms.size/\j=ZE Z7 q/\ok=ZB (b0|| (ms.data.toList.take q).contains c)) (λ_ j=>ms.size-(intOf j).toNat)
    case atStart=>exact ⟨0,Gz _,rfl,by simp [hb0]⟩
    case round=>exact XXQfM
  ·obtain rfl:k=s.size:=by omega
   have hw1:=hw.out;rw [DS XXc2a] at hw1;have HT:=Dl (show true=A from hw1);clear hw hw1;go_wp2;go_ret;exact ⟨by rw [←HT.out];rfl,rfl⟩
end
end Tgt
namespace Tgt
open Base Oct Num Txt
section
attribute [local go_sem] A8
theorem XXEaK {P:Prop} (h:P:=by
 go_wp2_with (go_at_call 277;with_reducible refine Cm (HW.out _) ?_);go_ret
 exact ⟨rfl,rfl⟩):P:=h
theorem rquery_any (s:ByteArray) (w:World) (hs:s.size<=1000000000):Calls Mm 254 #[ZD s] w λe w'=>e=.returned (ZB (queryB s.data.toList))/\w'=w:=by have HW:=Dl (λw=>rof_any s ⟨#[45,46,95,126,33,36,38,39,40,41,42,43,44,59,61,58,64,47,63]⟩ w hs ZX);rw [show (ByteArray.mk #[45,46,95,126,33,36,38,39,40,41,42,43,44,59,61,58,64,47,63]).data.toList=queryMarks from rfl] at HW;unfold queryB;generalize written queryMarks s.data.toList=q at *;go_enter Tryz.func254,Tryz.ntmps254;exact XXEaK
theorem rpath_any (s:ByteArray) (w:World) (hs:s.size<=1000000000):Calls Mm 253 #[ZD s] w λe w'=>e=.returned (ZB (pathB s.data.toList))/\w'=w:=by
 have HW:=Dl (λw=>rof_any s ⟨#[45,46,95,126,33,36,38,39,40,41,42,43,44,59,61,58,64,47]⟩ w hs ZX);rw [show (ByteArray.mk #[45,46,95,126,33,36,38,39,40,41,42,43,44,59,61,58,64,47]).data.toList=pathMarks from rfl] at HW;unfold pathB;cases hl:s.data.toList with
 | nil=>
   have he:=empty_of hl;clear hl HW;go_enter Tryz.func253,Tryz.ntmps253;go_wp2;go_ret;exact ⟨rfl,rfl⟩
 | cons c r=>
   have he:=full_of hl;have hz:=size_cons hl;have h0:(0:Int)<(s.size:Int):=ZZ;have e0:∀h,s[0]'h=c:=λh=>at_zero hl h;rw [hl] at HW;clear hl hz;generalize written pathMarks (c::r)=q at *;rw [List.head?_cons];by_cases hc:c=47
   ·have t1:((c.toNat:Int)==47)=true:=by rw [hc];rfl
    rw [ZK (by rw [hc]),Bg];clear hc;go_enter Tryz.func253,Tryz.ntmps253;exact XXEaK
   ·have t1:((c.toNat:Int)==47)=false:=ZM.2 λe=>hc (NI.1 (by show c.toNat=47;omega));rw [ZL (λe=>hc (GZ.inj e)),AS];clear hc;go_enter Tryz.func253,Tryz.ntmps253;go_wp2;go_ret;exact ⟨rfl,rfl⟩
theorem rport_any (s:ByteArray) (w:World) (hs:s.size<=1000000000):Calls Mm 231 #[ZD s] w λe w'=>e=.returned (ZB (s.data.toList.contains 58))/\w'=w:=by
 obtain ⟨A,hA⟩:∃A,s.data.toList.contains 58=A:=⟨_,rfl⟩;rw [hA];have HA:=Dl hA;clear hA;go_enter Tryz.func231,Tryz.ntmps231;go_wp2
 go_loop [3] (λi=>∃k:Nat,k<=s.size/\i=ZE Z7 k/\Hid ((s.data.toList.take k).contains 58=false)) (λi=>s.size-(intOf i).toNat)
 case atStart=>exact ⟨0,Gz _,rfl,Dl rfl⟩
 case round=>
  obtain ⟨k,hk,rfl,hno⟩:=hrel;rcases Gp k s.size with hlt | hge
  ·have i1:(k:Int)<(s.size:Int):=by omega
   have hkl:k<s.data.toList.length:=by rw [len];exact hlt
   have hsn:=Dl (contains_snoc s.data.toList k hkl 58);obtain ⟨c,hc⟩:∃c,s.data.toList[k]=c:=⟨_,rfl⟩;have hx:∀h,s[k]'h=c:=λ_=>hc;have hmem:=Dl (EB hkl);rw [hc] at hsn hmem;clear hc hkl;by_cases h58:c=58
   ·have t1:((c.toNat:Int)==58)=true:=by rw [h58];rfl
    have HT:Hid (true=A):=Dl (by rw [←HA.out,List.contains_iff_mem.2 (by rw [←h58];exact hmem.out)]);clear h58;go_wp2;go_ret;exact ⟨by rw [←HT.out];rfl,rfl⟩
   ·have t1:((c.toNat:Int)==58)=false:=ZM.2 λe=>h58 (NI.1 (by show c.toNat=58;omega));have HN:Hid ((s.data.toList.take (k+1)).contains 58=false):=Dl (by rw [hsn.out,hno.out,AV];exact ZM.2 λe=>h58 e.symm);clear h58;go_wp2;go_round
    case rel=>exact ⟨k+1,ZZ,ZT,HN⟩
    case measure=>simp [intOf];omega
  ·obtain rfl:k=s.size:=by omega
   have h1:=hno.out;rw [take_all s _ (Gi _),HA.out] at h1;have HT:=Dl h1;clear hno h1;go_wp2;go_ret;exact ⟨by rw [HT.out];rfl,rfl⟩
end
end Tgt
theorem XXb27 {P:Prop} (h:P:=by (simp [results,Tryz.results232,go_sem,d0,d1,d2,d3,d4]);first|done|fail):P:=h
namespace Tgt
open Base Oct Num Txt
theorem cut_hit (c:UInt8) (l:List UInt8) (k:Nat) (hk:k<l.length) (hc:l[k]=c) (hno:c∉l.take k):cutAt c l=(l.take k,l.drop (k+1),true):=by
 have e:l=l.take k++c::l.drop (k+1):=by conv=>lhs;rw [←FD k l,DR hk,hc]
 conv=>lhs;rw [e]
 exact cutAt_app c _ _ hno
section
attribute [local go_sem] A8
theorem XX34J {P:Prop} (h:P:=by
 go_simp;refine hK _ _ ?_ ?_
 ·rw [←hW9];exact ((((HW7.out.other w.heap.size 0 _ hn24).other w.heap.size 1 _ hn24).other w.heap.size 2 _ hn24).other w.heap.size 3 _ hn24).other w.heap.size 4 _ hn24
 clear hK K;refine Sched.assign _ ZV ZV ?_;simp only [Ab,Aa,Am,E6,Er,Ep,GW,F4,F7,F6];refine Sched.done ?_;go_wp2;first
  |exact ZF (v:=.tuple #[tv 0 E0 PP QQ true,.bool false]) XXb27 rfl ⟨rfl,hbW⟩
  |exact ZF (v:=.tuple #[tv 0 E0 PP QQ true,.bool qk]) XXb27 rfl ⟨rfl,hbW⟩
  |exact ZF (v:=.tuple #[tv 0 E0 s E0 false,.bool false]) XXb27 rfl ⟨rfl,hbW⟩
  |exact ZF (v:=.tuple #[tv 0 E0 s E0 false,.bool qk]) XXb27 rfl ⟨rfl,hbW⟩):P:=h
theorem XXWdt {P:Prop} (h:P:=by
 intro w' hS;obtain ⟨c0,c1,c2,c3,c4,_,_,_,_,_⟩:=hS;go_simp
 with_reducible rfl):P:=h
theorem rorigin_any (s:ByteArray) (w:World) (hs:s.size<=1000000000) :
 Calls Mm 232 #[ZD s] w λe w'=>e=.returned (Z8 #[tv 0 E0 (ba (cutAt 63 s.data.toList).1) (ba (cutAt 63 s.data.toList).2.1) (cutAt 63 s.data.toList).2.2,ZB (pathB (cutAt 63 s.data.toList).1&&queryB (cutAt 63 s.data.toList).2.1)])/\Below w.heap.size w w':=by
 obtain ⟨R,hR⟩:∃R,cutAt 63 s.data.toList=R:=⟨_,rfl⟩;rw [hR];have HR:=Dl hR;have HRL:=Dl (cutAt_le 63 s.data.toList);rw [hR,len] at HRL;clear hR;obtain ⟨p,q,bb⟩:=R;simp only at HRL;simp only
 have HP:=Dl (λw=>rpath_any (ba p) w (by rw [ba_size];have:=HRL.out.1;omega));have HQ:=Dl (λw=>rquery_any (ba q) w (by rw [ba_size];have:=HRL.out.2;omega));rw [ba_list] at HP HQ;generalize pathB p=pk at *;generalize queryB q=qk at *;have HPP:Hid (∀k (hk:k<s.data.toList.length),s.data.toList[k]=63->(63:UInt8)∉s.data.toList.take k->s.extract 0 k=ba p/\s.extract (k+1) s.size=ba q/\true=bb):=Dl λk hk hc hno=>by have h1:=HR.out;rw [cut_hit 63 _ k hk hc hno] at h1;simp only [Hl] at h1;exact ⟨ba_ext (by rw [Di,←h1.1];simp [ba]),ba_ext (by rw [drop_ext,←h1.2.1];rfl),h1.2.2⟩
 have HEE:Hid ((63:UInt8)∉s.data.toList->s=ba p/\E0=ba q/\false=bb):=Dl λhno=>by have h1:=HR.out;rw [cutAt_none 63 _ hno] at h1;simp only [Hl] at h1;exact ⟨by rw [←h1.1];rfl,by rw [←h1.2.1];rfl,h1.2.2⟩
 clear HR HRL;generalize ba p=PP at *;generalize ba q=QQ at *;have hc2:=Tgb.new w 209 0 E0 E0 E0 false;have hg2':w.heap.size<(w.alloc (.cells #[ZE Z7 0,ZD E0,ZD E0,ZD E0,ZB false] 209)).heap.size:=ZW;have hsz2:(w.alloc (.cells #[ZE Z7 0,ZD E0,ZD E0,ZD E0,ZB false] 209)).heap.size=w.heap.size+1:=ZW;have hb2:Below w.heap.size w (w.alloc (.cells #[ZE Z7 0,ZD E0,ZD E0,ZD E0,ZB false] 209)):=(AE _ _).alloc (Gi _) _;have hn24:¬w.heap.size=w.heap.size+1:=ZZ;go_enter Tryz.func232,Tryz.ntmps232;go_upto_region 2 with fail
 generalize w.alloc (.cells #[ZE Z7 0,ZD E0,ZD E0,ZD E0,ZB false] 209)=W2 at *;have hc4:=Tgb.new W2 209 0 E0 s E0 false;have hb4:Below W2.heap.size W2 (W2.alloc (.cells #[ZE Z7 0,ZD E0,ZD s,ZD E0,ZB false] 209)):=(AE _ _).alloc (Gi _) _;have hg4:W2.heap.size<(W2.alloc (.cells #[ZE Z7 0,ZD E0,ZD s,ZD E0,ZB false] 209)).heap.size:=ZW;generalize W2.alloc (.cells #[ZE Z7 0,ZD E0,ZD s,ZD E0,ZB false] 209)=W at *
 have H2w:=Dl (hc2.below hg2' hb4)
 have HBw:=Dl (hb2.trans (hb4.mono (Gh hg2')));have HG2w:=Dl (Nat.lt_trans hg2' hg4);rw [hsz2] at hc4 hg4;have H4w:=Dl hc4;have HG4w:=Dl hg4;clear hc2 hg2' hsz2 hb2 hc4 hb4 hg4;go_wp2_with fail
 go_loopw [5] (λi wr=>∃k:Nat,k<=s.size/\i=ZE Z7 k/\wr=W/\Hid ((63:UInt8)∉s.data.toList.take k)) (λi _=>s.size-(intOf i).toNat)
 case atStart=>exact ⟨0,Gz _,rfl,rfl,Dl ZW⟩
 case round=>
  obtain ⟨k,hk,rfl,rfl,hno⟩:=hrel;rcases Gp k s.size with hlt | hge
  ·have i1:(k:Int)<(s.size:Int):=by omega
   have hkl:k<s.data.toList.length:=by rw [len];exact hlt
   obtain ⟨c,hc⟩:∃c,s.data.toList[k]=c:=⟨_,rfl⟩;have hx:∀h,s[k]'h=c:=λ_=>hc;by_cases h63:c=63
   ·have t1:((c.toNat:Int)==63)=true:=by rw [h63];rfl
    obtain ⟨e1,e2,e3⟩:=HPP.out k hkl (hc.trans h63) hno.out;have j0:(0:Int)<=(k:Int):=ZZ;have j1:(k:Int)<=(s.size:Int):=ZZ;have m1:IntKind.i64.wrap ((k:Int)+1)=((k+1:Nat):Int):=by rw [wrap_in _ ZZ ZZ];omega
    have j2:(k:Int)+1<=(s.size:Int):=ZZ;have j3:(0:Int)<=(k:Int)+1:=ZZ;clear h63 hc hkl hno;subst e3;go_wp2_with fail;refine Sched.region [(0,false),(1,false),(2,false),(3,false),(4,false),(5,false),(6,false),(7,false),(8,true),(9,false),(10,true),(11,false),(12,true)] (λ_=>True) ZY ZY (λ_ _ d _ _ h=>by cases d<;>exact h) trivial ?_
    have HY4:=Dl (H4w.out.below HG4w.out (Az (AE _ _) 1))
    have HY2:=Dl (H2w.out.below HG2w.out (Az (AE _ _) 1));have HYB:=Dl (Az HBw.out 1);have HYG:Hid (w.heap.size+1<(World.drewN wr 1).heap.size):=HG4w;generalize World.drewN wr 1=W6 at *;simp only [Sched.picked,List.filterMap_cons,List.filterMap_nil,Er,Ep,GY]
    iterate 8
     refine IC ZV ?_ ?_ ?_
     rotate_left 1
     ·intro w' hS;clear hS;go_simp;with_reducible rfl
     simp only [Ab,F4,F7,F6]
    obtain ⟨c0,c1,c2,c3,c4,z0,z1,z2,z3,z4⟩:=HY4.out;refine I9 ZV (λK hK=>?_);go_simp;refine hK _ _ trivial ?_;clear hK K;refine IC ZV ?_ ?_ ?_
    rotate_left 1
    ·intro w' hS;clear hS;go_simp;with_reducible rfl
    simp only [Ab,F4,F7,F6];refine I9 ZV (λK hK=>?_);go_simp;refine hK _ _ trivial ?_;clear hK K;refine IC ZV ?_ ?_ ?_
    rotate_left 1
    ·intro w' hS;clear hS;go_simp;with_reducible rfl
    simp only [Ab,F4,F7,F6];refine I9 ZV (λK hK=>?_);go_simp;refine hK _ _ trivial ?_;clear hK K;refine Sched.done ?_
    have H4:Hid (Tgb (((W6.setCell ⟨w.heap.size+1,2,none⟩ (ZD PP)).setCell ⟨w.heap.size+1,3,none⟩ (ZD QQ)).setCell ⟨w.heap.size+1,4,none⟩ (ZB true)) (w.heap.size+1) 0 E0 PP QQ true):=Dl (by refine ⟨?_,?_,?_,?_,?_,?_,?_,?_,?_,?_⟩;all_goals go_simp);have hn42:¬w.heap.size+1=w.heap.size:=ZZ;have H2:=Dl (((HY2.out.other (w.heap.size+1) 2 (ZD PP) hn42).other (w.heap.size+1) 3 (ZD QQ) hn42).other (w.heap.size+1) 4 (ZB true) hn42);have hle:w.heap.size<=w.heap.size+1:=Gj _
    have HB:=Dl (((HYB.out.setCell (p:=⟨w.heap.size+1,2,none⟩) hle (ZD PP)).setCell (p:=⟨w.heap.size+1,3,none⟩) hle (ZD QQ)).setCell (p:=⟨w.heap.size+1,4,none⟩) hle (ZB true))
    have HG4:Hid (w.heap.size+1<(((W6.setCell ⟨w.heap.size+1,2,none⟩ (ZD PP)).setCell ⟨w.heap.size+1,3,none⟩ (ZD QQ)).setCell ⟨w.heap.size+1,4,none⟩ (ZB true)).heap.size):=Dl (by simpa using HYG.out);have HG2:=Dl (Nat.lt_of_le_of_lt hle HG4.out);clear HY4 HY2 HYB HYG c0 c1 c2 c3 c4 z0 z1 z2 z3 z4 H4w H2w HBw HG4w HG2w;generalize ((W6.setCell ⟨w.heap.size+1,2,none⟩ (ZD PP)).setCell ⟨w.heap.size+1,3,none⟩ (ZD QQ)).setCell ⟨w.heap.size+1,4,none⟩ (ZB true)=W7 at *;go_wp2_with fail
    have HW7:=Dl (H4.out.below HG4.out (Az (AE _ _) 1))
    have HX7:=Dl (H2.out.below HG2.out (Az (AE _ _) 1));have HB7:=Dl (Az HB.out 1);refine Sched.region [(0,false),(1,false),(2,false),(3,true),(4,false),(5,false),(6,false),(7,true),(8,false),(9,true),(10,false)] (λw'=>Tgb w' (w.heap.size+1) 0 E0 PP QQ true) ZY ZY (λ_ _ d _ _ h=>by cases d<;>exact h) HW7.out ?_;generalize World.drewN W7 1=W8 at *;simp only [Sched.picked,List.filterMap_cons,List.filterMap_nil,Er,Ep,GY]
    iterate 3
     refine IC ZV ?_ ?_ ?_
     rotate_left 1
     ·exact XXWdt
     simp only [Ab,F4,F7,F6]
    refine I9 ZV (λK hK=>?_);go_simp;with_reducible refine (HP.out _).mono ?_
    rintro e w1 ⟨rfl,hw⟩;rw [hw];clear hw;dsimp only;refine hK _ _ HW7.out ?_;clear hK K;refine Sched.move _ ZV ZV ?_;simp only [Ab,Aa,Am,E6,Er,Ep,GW,F4,F7,F6];cases pk with
    | false=>
      iterate 3
       refine Sched.skip ZV ?_;simp only [Ab,F4,F7,F6]
      refine IC ZV (ZB false) ?_ ?_
      ·intro w' hS;clear hS;go_simp
      simp only [Ab,F4,F7,F6];refine I9 ZV (λK hK=>?_);obtain ⟨c0,c1,c2,c3,c4,z0,z1,z2,z3,z4⟩:=HX7.out;obtain ⟨W9,hW9,⟨d0,d1,d2,d3,d4,_,_,_,_,_⟩,hbW⟩:=Je ⟨c0,c1,c2,c3,c4,z0,z1,z2,z3,z4⟩ HB7.out (Gi _) 0 E0 PP QQ true;exact XX34J
    | true=>
      iterate 2
       refine IC ZV ?_ ?_ ?_
       rotate_left 1
       ·exact XXWdt
       simp only [Ab,F4,F7,F6]
      refine I9 ZV (λK hK=>?_);go_simp;with_reducible refine (HQ.out _).mono ?_
      rintro e w1 ⟨rfl,hw⟩;rw [hw];clear hw;dsimp only;refine hK _ _ HW7.out ?_;clear hK K;refine IC ZV (ZB qk) ?_ ?_
      ·intro w' hS;clear hS;go_simp
      simp only [Ab,F4,F7,F6];refine I9 ZV (λK hK=>?_);obtain ⟨c0,c1,c2,c3,c4,z0,z1,z2,z3,z4⟩:=HX7.out;obtain ⟨W9,hW9,⟨d0,d1,d2,d3,d4,_,_,_,_,_⟩,hbW⟩:=Je ⟨c0,c1,c2,c3,c4,z0,z1,z2,z3,z4⟩ HB7.out (Gi _) 0 E0 PP QQ true;exact XX34J
   ·have t1:((c.toNat:Int)==63)=false:=ZM.2 λe=>h63 (NI.1 (by show c.toNat=63;omega))
    have HN:Hid ((63:UInt8)∉s.data.toList.take (k+1)):=Dl (by rw [FG hkl,hc,Fj,not_or];exact ⟨hno.out,by rw [Fv];exact λe=>h63 e.symm⟩);clear h63 hc hkl hno;go_wp2_with fail;go_roundw
    case rel=>first | exact ⟨k+1,ZZ,ZT,rfl,HN⟩ | exact ⟨k+1,ZZ,ZT,trivial,HN⟩
    case measure=>simp [intOf];omega
  ·obtain rfl:k=s.size:=by omega
   have h1:=hno.out;rw [take_all s _ (Gi _)] at h1;obtain ⟨e1,e2,e3⟩:=HEE.out h1;clear hno h1;subst e1 e2 e3;go_wp2_with fail;have H4:=H4w;have H2:=H2w;have HB:=HBw;have HG4:=HG4w;have HG2:=HG2w;clear H4w H2w HBw HG4w HG2w;generalize wr=W7 at *
   have HW7:=Dl (H4.out.below HG4.out (Az (AE _ _) 1))
   have HX7:=Dl (H2.out.below HG2.out (Az (AE _ _) 1));have HB7:=Dl (Az HB.out 1);refine Sched.region [(0,false),(1,false),(2,false),(3,true),(4,false),(5,false),(6,false),(7,true),(8,false),(9,true),(10,false)] (λw'=>Tgb w' (w.heap.size+1) 0 E0 s E0 false) ZY ZY (λ_ _ d _ _ h=>by cases d<;>exact h) HW7.out ?_;generalize World.drewN W7 1=W8 at *;simp only [Sched.picked,List.filterMap_cons,List.filterMap_nil,Er,Ep,GY]
   iterate 3
    refine IC ZV ?_ ?_ ?_
    rotate_left 1
    ·exact XXWdt
    simp only [Ab,F4,F7,F6]
   refine I9 ZV (λK hK=>?_);go_simp;with_reducible refine (HP.out _).mono ?_
   rintro e w1 ⟨rfl,hw⟩;rw [hw];clear hw;dsimp only;refine hK _ _ HW7.out ?_;clear hK K;refine Sched.move _ ZV ZV ?_;simp only [Ab,Aa,Am,E6,Er,Ep,GW,F4,F7,F6];cases pk with
   | false=>
     iterate 3
      refine Sched.skip ZV ?_;simp only [Ab,F4,F7,F6]
     refine IC ZV (ZB false) ?_ ?_
     ·intro w' hS;clear hS;go_simp
     simp only [Ab,F4,F7,F6];refine I9 ZV (λK hK=>?_);obtain ⟨c0,c1,c2,c3,c4,z0,z1,z2,z3,z4⟩:=HX7.out;obtain ⟨W9,hW9,⟨d0,d1,d2,d3,d4,_,_,_,_,_⟩,hbW⟩:=Je ⟨c0,c1,c2,c3,c4,z0,z1,z2,z3,z4⟩ HB7.out (Gi _) 0 E0 s E0 false;exact XX34J
   | true=>
     iterate 2
      refine IC ZV ?_ ?_ ?_
      rotate_left 1
      ·exact XXWdt
      simp only [Ab,F4,F7,F6]
     refine I9 ZV (λK hK=>?_);go_simp;with_reducible refine (HQ.out _).mono ?_
     rintro e w1 ⟨rfl,hw⟩;rw [hw];clear hw;dsimp only;refine hK _ _ HW7.out ?_;clear hK K;refine IC ZV (ZB qk) ?_ ?_
     ·intro w' hS;clear hS;go_simp
     simp only [Ab,F4,F7,F6];refine I9 ZV (λK hK=>?_);obtain ⟨c0,c1,c2,c3,c4,z0,z1,z2,z3,z4⟩:=HX7.out;obtain ⟨W9,hW9,⟨d0,d1,d2,d3,d4,_,_,_,_,_⟩,hbW⟩:=Je ⟨c0,c1,c2,c3,c4,z0,z1,z2,z3,z4⟩ HB7.out (Gi _) 0 E0 s E0 false;exact XX34J
end
end Tgt
theorem XX452 {P:Prop} (h:P:=by rw [hx,ba_size];have:=hostOf_le (s.data.toList.drop 7);rw [ER,len] at this;omega):P:=h
namespace Tgt
open Base Oct Num Txt
theorem cutAt_head (c d:UInt8) (l:List UInt8) (h:(cutAt c l).1.head?=some d):l.head?=some d:=by
 cases l with
 | nil=>simp [cutAt] at h
 | cons b r=>
   rw [cutAt] at h;split at h
   ·simp at h
   ·simpa using h
theorem origin_head {l:List UInt8} (h:l.head?≠some 47):origin l=none:=by
 unfold origin;have:pathB (cutAt 63 l).1=false:=by unfold pathB;rw [ZL (λe=>h (cutAt_head _ _ _ e)),AS]
 rw [this,AS];rfl
theorem schemed_head {l:List UInt8} (h:l.head?=some 47):schemed l=false:=by
 cases l with
 | nil=>simp at h
 | cons c r=>
   obtain rfl:c=47:=by simpa using h
   unfold schemed;have:(low (((47:UInt8)::r).take 7)==low http)=false:=by rw [ZM];intro e;have e2:=ZH (λx=>x.head?) e;revert e2;show some (lowB 47)=some (lowB 104)->False;decide
   rw [this,AN]
theorem parse_alt {m l:List UInt8} (hm:¬m=connect) (ho:¬(m=options/\l= [42])):parse m l=if schemed l=true then absolute (l.drop 7) else origin l:=by
 rw [parse,ZO hm,ZO ho];by_cases hd:l.head?=some 47
 ·rw [ZN hd,schemed_head hd];rfl
 ·rw [ZO hd,origin_head hd]
def relabel (F:Nat) (ho:List UInt8) (o:Option Tg):Option Tg:=o.map λt=>⟨F,ho,t.path,t.query,t.asked⟩
theorem origin_relabel (l:List UInt8):origin l=relabel 1 [] (origin l):=by
 unfold relabel;cases h:origin l with
 | none=>rfl
 | some t=>
   obtain ⟨_,h1,h2⟩:=putPath_origin h;obtain ⟨f,ho,p,q,a⟩:=t;simp only at h1 h2;subst h1 h2;rfl
theorem absolute_relabel (l:List UInt8) (h:hostB (hostOf l)=true):absolute l=relabel 2 (hostOf l) (origin (slashed (restOf l))):=by
 unfold absolute relabel;cases origin (slashed (restOf l)) with
 | none=>rfl
 | some t=>simp only [h,if_true];rfl
theorem absolute_none (l:List UInt8) (h:hostB (hostOf l)=false):absolute l=none:=by
 unfold absolute;cases origin (slashed (restOf l)) with
 | none=>rfl
 | some t=>simp only [h];rfl
theorem host_all:∀l:List UInt8,(∀x∈l,ended x=false)->hostOf l=l/\restOf l= []
 | [],_=>⟨rfl,rfl⟩
 | c::r,h=>by
   have hc:=h c ZW;have ih:=host_all r λx hx=>h x (by simp [hx]);unfold hostOf restOf at *;simp only [List.takeWhile_cons,DM,hc,Bool.not_false,if_true];exact ⟨by rw [ih.1],ih.2⟩
theorem host_stop (l:List UInt8) (k:Nat) (h1:∀x∈l.take k,ended x=false) (h2:l.length<=k∨∃h:k<l.length,ended l[k]=true):hostOf l=l.take k/\restOf l=l.drop k:=by
 rcases h2 with h2 | ⟨h2,h3⟩
 ·rw [FF h2] at h1;rw [FF h2,DS h2];exact host_all l h1
 ·have e:=host_cut (λc=>!ended c) (l.take k) (l.drop (k+1)) l[k] (λx hx=>by simp [h1 x hx]) (by simp [h3]);have e2:l.take k++l[k]::l.drop (k+1)=l:=by rw [←DR h2,FD]
  rw [e2] at e;exact ⟨e.1,by rw [DR h2];exact e.2⟩
section
attribute [local go_sem] A8
theorem rtarget_connect (m s:ByteArray) (w:World) (hs:s.size<=900000000) (hm:m.data.toList=connect) :
 Calls Mm 209 #[ZD m,ZD s] w λe w'=>e=.returned (ans (parse m.data.toList s.data.toList))/\Below w.heap.size w w':=by
 have HCC:=Dl (Tgb.new w 209 0 E0 E0 E0 false)
 have HWW:=Dl (show Below w.heap.size w (w.alloc (.cells #[ZE Z7 0,ZD E0,ZD E0,ZD E0,ZB false] 209)) from (AE _ _).alloc (Gi _) _)
 have HG:=Dl (show w.heap.size<(w.alloc (.cells #[ZE Z7 0,ZD E0,ZD E0,ZD E0,ZB false] 209)).heap.size by simp)
 have HC:=Dl (λw=>rport_any s w ZZ);have HH:=Dl (λw=>rhost_any s w ZZ);have hba:ba s.data.toList=s:=rfl;rw [parse,ZN hm];obtain ⟨t1,t2⟩:=eq_facts m [67,79,78,78,69,67,84] true (ZK hm);clear hm;obtain ⟨R,hR⟩:∃R,authority s.data.toList=R:=⟨_,rfl⟩;rw [hR];unfold authority at hR;generalize s.data.toList.contains 58=b at *;generalize hostB s.data.toList=h at *;cases h with
 | false=>
   rw [AN] at hR;obtain rfl:none=R:=hR;rw [ans];clear hba;go_enter Tryz.func209,L9
   go_wp2_with (go_at_call 230;with_reducible refine (HH.out _).mono ?_;rintro e w2 ⟨rfl,hb⟩
                obtain ⟨c0,c1,c2,c3,c4,z0,z1,z2,z3,z4⟩:=HCC.out.below HG.out hb;have HB:=Dl (A6 HWW.out hb);clear hb)
   exact XXoUb
 | true=>
   cases b with
   | false=>
     obtain rfl:none=R:=hR;rw [ans];clear hba;go_enter Tryz.func209,L9
     go_wp2_with (first
      |(go_at_call 231;with_reducible refine Cm (HC.out _) ?_)
      |(go_at_call 230;with_reducible refine (HH.out _).mono ?_;rintro e w2 ⟨rfl,hb⟩
        obtain ⟨c0,c1,c2,c3,c4,z0,z1,z2,z3,z4⟩:=HCC.out.below HG.out hb;have HB:=Dl (A6 HWW.out hb);clear hb))
     exact XXoUb
   | true=>
     obtain rfl:some ⟨3,s.data.toList,[],[],false⟩=R:=hR;rw [ans,hba,show ba []=E0 from rfl];clear hba;go_enter Tryz.func209,L9
     go_wp2_with (first
      |(go_at_call 231;with_reducible refine Cm (HC.out _) ?_)
      |(go_at_call 230;with_reducible refine (HH.out _).mono ?_;rintro e w2 ⟨rfl,hb⟩
        obtain ⟨c0,c1,c2,c3,c4,z0,z1,z2,z3,z4⟩:=HCC.out.below HG.out hb;have HB:=Dl (A6 HWW.out hb);clear hb))
     exact XXTgp
theorem XXQYT {P:Prop} (h:P:=by
 rw [hh] at HHo;have HN:Hid (none=R):=Dl (by rw [←HR.out,absolute_none _ hh]);clear hh HR;go_wp2_with fail;go_quiet (fail);rename_i nq;generalize s.extract k s.size=X at *;generalize s.extract 7 k=Y at *
 have HH2:Hid (∀w,Calls Mm 230 #[ZD Y] w λe w'=>e=.returned (ZB false)/\Below w.heap.size w w'):=Dl (by rw [HX.out];exact HHo.out);have hbq:=Dl (Az (AE wc.heap.size wc) nq);generalize wc.drewN nq=wq at *
 go_wp2_with (go_at_call 230;with_reducible refine (HH2.out _).mono ?_;rintro e w2 ⟨rfl,hb⟩
              have hb':=A6 hbq.out hb;obtain ⟨c0,c1,c2,c3,c4,z0,z1,z2,z3,z4⟩:=H1.out.below HG1.out hb';have HB:=Dl (A6 HB1.out hb');clear hb hb')
 obtain ⟨W9,hW,⟨d0,d1,d2,d3,d4,_,_,_,_,_⟩,hbW⟩:=Je ⟨c0,c1,c2,c3,c4,z0,z1,z2,z3,z4⟩ HB.out (Gi _) 0 E0 E0 E0 false;rw [hW]
 exact ZF (v:=Z8 #[tv 0 E0 E0 E0 false,ZE Z7 400]) (by simp [results,Mq,go_sem,d0,d1,d2,d3,d4]) rfl ⟨by rw [←HN.out];rfl,hbW⟩):P:=h
theorem XXQk6 {P:Prop} (h:P:=by
 rw [hh] at HHo;have HRR:Hid (relabel 2 (hostOf (s.data.toList.drop 7)) (origin (slashed (restOf (s.data.toList.drop 7))))=R):=Dl (by rw [←HR.out,absolute_relabel _ hh]);clear hh HR;go_wp2_with fail;go_quiet (fail);rename_i nq;generalize s.extract k s.size=X at *;generalize s.extract 7 k=Y at *
 have HH2:Hid (∀w,Calls Mm 230 #[ZD Y] w λe w'=>e=.returned (ZB true)/\Below w.heap.size w w'):=Dl (by rw [HX.out];exact HHo.out);have hbq:=Dl (Az (AE wc.heap.size wc) nq);generalize wc.drewN nq=wq at *
 go_wp2_with (go_at_call 230;with_reducible refine (HH2.out _).mono ?_;rintro e w2 ⟨rfl,hb⟩
              have HBH:=Dl (A6 hbq.out hb);clear hb)
 go_meet
 case rel=>exact ⟨2,hostOf (s.data.toList.drop 7),slashed (restOf (s.data.toList.drop 7)),by rw [HSL.out],rfl,by rw [HX.out],HLEN.out,HRR,HBH⟩):P:=h
theorem rtarget_any (m s:ByteArray) (w:World) (hs:s.size<=900000000) :
 Calls Mm 209 #[ZD m,ZD s] w λe w'=>e=.returned (ans (parse m.data.toList s.data.toList))/\Below w.heap.size w w':=by
 by_cases hm:m.data.toList=connect
 ·exact rtarget_connect m s w hs hm
 obtain ⟨t1,t2⟩:=eq_facts m [67,79,78,78,69,67,84] false (ZL hm);by_cases ho:m.data.toList=options/\s.data.toList= [42]
 ·obtain ⟨t3,t4⟩:=eq_facts m [79,80,84,73,79,78,83] true (ZK ho.1);obtain ⟨t5,t6⟩:=eq_facts s [42] true (ZK ho.2);rw [parse,ZO hm,ZN ho];clear ho hm;go_enter Tryz.func209,L9;go_wp2_with fail;exact ZF (v:=Z8 #[tv 4 E0 E0 E0 false,ZE Z7 0]) (by simp [results,Mq,go_sem]) rfl ⟨rfl,(AE _ _).alloc (Gi _) _⟩
 obtain ⟨R,hR⟩:∃R,parse m.data.toList s.data.toList=R:=⟨_,rfl⟩;rw [hR];rw [parse_alt hm ho] at hR;have HR:=Dl hR;have hno:((m.toList == [79,80,84,73,79,78,83])=false/\(m.toList==(ByteArray.mk #[79,80,84,73,79,78,83]).toList)=false)∨((m.toList == [79,80,84,73,79,78,83])=true/\(m.toList==(ByteArray.mk #[79,80,84,73,79,78,83]).toList)=true/\(s.toList == [42])=false/\(s.toList==(ByteArray.mk #[42]).toList)=false):=by exact XXkkv
 have HNO:=Dl hno;clear ho hm hR hno;have hcc:=Tgb.new w 209 0 E0 E0 E0 false;have hww:Below w.heap.size w (w.alloc (.cells #[ZE Z7 0,ZD E0,ZD E0,ZD E0,ZB false] 209)):=(AE _ _).alloc (Gi _) _;have hgg:w.heap.size<(w.alloc (.cells #[ZE Z7 0,ZD E0,ZD E0,ZD E0,ZB false] 209)).heap.size:=ZW;go_enter Tryz.func209,L9;go_upto_region 5 with fail
 generalize w.alloc (.cells #[ZE Z7 0,ZD E0,ZD E0,ZD E0,ZB false] 209)=W at *;have HCC:=Dl hcc;have HWW:=Dl hww;have HG:=Dl hgg;clear hcc hww hgg
 go_cut [29] from 24 (λv wx=>v=ZB false/\wx=W)
 case first=>
  rcases HNO.out with ⟨t3,t4⟩ | ⟨t3,t4,t5,t6⟩;all_goals
   go_wp2_with fail;go_meet
   case rel=>exact ⟨rfl,rfl⟩
 case rest=>
  obtain ⟨rfl,hw0⟩:=hcut;rw [hw0];clear hw0 HNO;go_upto_region 8 with fail
  go_cut [38] from 31 (λv wx=>v=ZB (schemed s.data.toList)/\Hid (Below W.heap.size W wx))
  case first=>
   by_cases h7:7<=s.size
   ·have q7:(7:Int)<=(s.size:Int):=by omega
    have x1:(s.extract 0 7).data.toList=s.data.toList.take 7:=by rw [Di];simp
    have hx1:(s.extract 0 7).size<=1000:=by rw [←len,x1,Fc];omega
    have HM:=Dl (λw=>Txt.rsame_any (s.extract 0 7) ⟨#[104,116,116,112,58,47,47]⟩ w ZZ ZX);have hsm:same (s.extract 0 7) ⟨#[104,116,116,112,58,47,47]⟩=schemed s.data.toList:=by unfold same schemed;rw [x1,len,ZK h7];rfl
    rw [hsm] at HM;clear x1 hx1 hsm h7 HR;generalize schemed s.data.toList=sc at *;go_wp2_with (go_at_call 148;with_reducible refine (HM.out _).mono ?_;rintro e w2 ⟨rfl,hb⟩);go_meet
    case rel=>exact ⟨rfl,Dl hb⟩
   ·have q7:¬(7:Int)<=(s.size:Int):=by omega
    have hsc:schemed s.data.toList=false:=by unfold schemed;rw [len,ZL h7,AS]
    have HSC:=Dl hsc;clear hsc h7;go_wp2_with fail;go_meet
    case rel=>exact ⟨by rw [HSC.out],Dl (AE _ _)⟩
  case rest=>
   obtain ⟨rfl,hbc⟩:=hcut
   have H1:=Dl (HCC.out.below HG.out hbc.out)
   have HB1:=Dl (A6 HWW.out hbc.out);have HG1:=Dl (Gn HG.out hbc.out.size);clear HCC HWW HG hbc;go_upto_if 38 with fail
   go_cut [1,6,7] from 8 (λv1 v6 v7 wx=>∃(F:Nat) (HO SS:List UInt8),v1=ZD (ba SS)/\v6=ZE Z7 F/\v7=ZD (ba HO)/\SS.length<=1000000000/\Hid (relabel F HO (origin SS)=R)/\Hid (Below wc.heap.size wc wx))
   case first=>
    cases hsc:schemed s.data.toList with
    | false=>
      rw [hsc,ZO ZX,origin_relabel] at HR;clear hsc;go_wp2_with fail;go_meet
      case rel=>exact ⟨1,[],s.data.toList,rfl,rfl,rfl,by rw [len];omega,HR,Dl (AE _ _)⟩
    | true=>
      rw [hsc,ZN rfl] at HR;have hs7:7<=s.size:=by unfold schemed at hsc;rw [AM,ZJ,len] at hsc;exact hsc.1
      clear hsc;go_wp2_with fail
      go_loop [8] (λi=>∃k:Nat,7<=k/\k<=s.size/\i=ZE Z7 k/\Hid (∀x∈(s.data.toList.drop 7).take (k-7),ended x=false)) (λi=>s.size-(intOf i).toNat)
      case atStart=>exact ⟨7,Gi _,hs7,rfl,Dl ZW⟩
      case round=>
       obtain ⟨k,hlk,hle,rfl,hall⟩:=hrel;rcases Gp k s.size with hlt | hge
       ·have i1:(k:Int)<(s.size:Int):=by omega
        have hkl:k<s.data.toList.length:=by rw [len];exact hlt
        obtain ⟨c,hck⟩:∃c,s.data.toList[k]=c:=⟨_,rfl⟩;have hxk:∀h,s[k]'h=c:=λ_=>hck;have hdl:k-7<(s.data.toList.drop 7).length:=by rw [ER,len];omega
        have hdk:(s.data.toList.drop 7)[k-7]=c:=by
         rw [List.getElem_drop,←hck]
         congr 1
         omega
        by_cases h47:c=47
        ·have t47:((c.toNat:Int) != 47)=false:=by rw [h47];rfl
         have hstop:(s.data.toList.drop 7).length<=k-7∨∃h:k-7<(s.data.toList.drop 7).length,ended (s.data.toList.drop 7)[k-7]=true:=.inr ⟨hdl,by rw [hdk,h47];rfl⟩;clear hdl hdk;have j7:(7:Int)<=(k:Int):=ZZ;have jk:(k:Int)<=(s.size:Int):=ZZ;obtain ⟨g1,g2⟩:=host_stop (s.data.toList.drop 7) (k-7) hall.out hstop;rw [List.drop_drop,show 7+(k-7)=k by omega] at g2
         have hx:s.extract 7 k=ba (hostOf (s.data.toList.drop 7)):=ba_ext (by rw [Di,g1];rfl)
         have hy:s.extract k s.size=ba (restOf (s.data.toList.drop 7)):=ba_ext (by rw [drop_ext,g2];rfl);have HHo:=Dl (λw=>rhost_any (s.extract 7 k) w XX452);rw [hx,ba_list] at HHo
         have hlen:=slashed_le (restOf (s.data.toList.drop 7));have hrl:=restOf_le (s.data.toList.drop 7);rw [ER,len] at hrl;have HLEN:=Dl (show (slashed (restOf (s.data.toList.drop 7))).length<=1000000000 by omega);have hre:restOf (s.data.toList.drop 7)=47::s.data.toList.drop (k+1):=by rw [g2,DR hkl,hck,h47]
         have hemp:(s.extract k s.size).toList.isEmpty=false:=by rw [hy];exact full_of hre
         have hpos:(0:Int)<((s.extract k s.size).size:Int):=by rw [hy,ba_size,hre,EP];omega
         have hat:∀h,(s.extract k s.size)[0]'h=47:=λh=>at_zero (by rw [hy];exact hre) h;have hsl:s.extract k s.size=ba (slashed (restOf (s.data.toList.drop 7))):=by rw [hy,hre];rfl
         have HX:=Dl hx;have HSL:=Dl hsl;clear hx hy hsl hre g1 g2 hlen hrl hstop hall hck hkl h47;cases hh:hostB (hostOf (s.data.toList.drop 7)) with
         | false=>
           exact XXQYT
         | true=>
           exact XXQk6
        ·have t47:((c.toNat:Int) != 47)=true:=bne_iff_ne.2 λe=>h47 (NI.1 (by show c.toNat=47;omega));by_cases h63:c=63
         ·have t63:((c.toNat:Int) != 63)=false:=by rw [h63];rfl
          have hstop:(s.data.toList.drop 7).length<=k-7∨∃h:k-7<(s.data.toList.drop 7).length,ended (s.data.toList.drop 7)[k-7]=true:=.inr ⟨hdl,by rw [hdk,h63];rfl⟩;clear hdl hdk;have j7:(7:Int)<=(k:Int):=ZZ;have jk:(k:Int)<=(s.size:Int):=ZZ;obtain ⟨g1,g2⟩:=host_stop (s.data.toList.drop 7) (k-7) hall.out hstop;rw [List.drop_drop,show 7+(k-7)=k by omega] at g2
          have hx:s.extract 7 k=ba (hostOf (s.data.toList.drop 7)):=ba_ext (by rw [Di,g1];rfl)
          have hy:s.extract k s.size=ba (restOf (s.data.toList.drop 7)):=ba_ext (by rw [drop_ext,g2];rfl);have HHo:=Dl (λw=>rhost_any (s.extract 7 k) w XX452);rw [hx,ba_list] at HHo
          have hlen:=slashed_le (restOf (s.data.toList.drop 7));have hrl:=restOf_le (s.data.toList.drop 7);rw [ER,len] at hrl;have HLEN:=Dl (show (slashed (restOf (s.data.toList.drop 7))).length<=1000000000 by omega);have hre:restOf (s.data.toList.drop 7)=63::s.data.toList.drop (k+1):=by rw [g2,DR hkl,hck,h63]
          have hemp:(s.extract k s.size).toList.isEmpty=false:=by rw [hy];exact full_of hre
          have hpos:(0:Int)<((s.extract k s.size).size:Int):=by rw [hy,ba_size,hre,EP];omega
          have hat:∀h,(s.extract k s.size)[0]'h=63:=λh=>at_zero (by rw [hy];exact hre) h
          have hsl:(⟨#[47]⟩:ByteArray)++s.extract k s.size=ba (slashed (restOf (s.data.toList.drop 7))):=by rw [hy,hre];exact ba_ext (by simp [ba,slashed])
          have hv:¬9223372036854775807<1+(s.extract k s.size).size:=by rw [hy,ba_size];omega
          have HX:=Dl hx;have HSL:=Dl hsl;clear hx hy hsl hre g1 g2 hlen hrl hstop hall hck hkl h63 h47;cases hh:hostB (hostOf (s.data.toList.drop 7)) with
          | false=>
            exact XXQYT
          | true=>
            exact XXQk6
         ·have t63:((c.toNat:Int) != 63)=true:=bne_iff_ne.2 λe=>h63 (NI.1 (by show c.toNat=63;omega))
          have HN:Hid (∀x∈(s.data.toList.drop 7).take (k+1-7),ended x=false):=Dl (by
           rw [show k+1-7=(k-7)+1 by omega,FG hdl,hdk];intro x hx;rcases Fj.1 hx with hx | hx
           ·exact hall.out x hx
           ·obtain rfl:x=c:=by simpa using hx
            simp [ended,h47,h63])
          clear h47 h63 hdl hdk hck hkl hall;go_wp2_with fail;go_round
          case rel=>exact ⟨k+1,ZZ,ZZ,ZT,HN⟩
          case measure=>simp [intOf];omega
       ·have i1:¬(k:Int)<(s.size:Int):=by omega
        have hstop:(s.data.toList.drop 7).length<=k-7∨∃h:k-7<(s.data.toList.drop 7).length,ended (s.data.toList.drop 7)[k-7]=true:=.inl XXa22;have j7:(7:Int)<=(k:Int):=ZZ;have jk:(k:Int)<=(s.size:Int):=ZZ;obtain ⟨g1,g2⟩:=host_stop (s.data.toList.drop 7) (k-7) hall.out hstop;rw [List.drop_drop,show 7+(k-7)=k by omega] at g2
        have hx:s.extract 7 k=ba (hostOf (s.data.toList.drop 7)):=ba_ext (by rw [Di,g1];rfl)
        have hy:s.extract k s.size=ba (restOf (s.data.toList.drop 7)):=ba_ext (by rw [drop_ext,g2];rfl);have HHo:=Dl (λw=>rhost_any (s.extract 7 k) w XX452);rw [hx,ba_list] at HHo
        have hlen:=slashed_le (restOf (s.data.toList.drop 7));have hrl:=restOf_le (s.data.toList.drop 7);rw [ER,len] at hrl
        have HLEN:=Dl (show (slashed (restOf (s.data.toList.drop 7))).length<=1000000000 by omega)
        have hre:restOf (s.data.toList.drop 7)= []:=by rw [g2];exact DS (by rw [len];omega)
        have hemp:(s.extract k s.size).toList.isEmpty=true:=by rw [hy,hre];exact empty_of rfl
        have hsl:(⟨#[47]⟩:ByteArray)++s.extract k s.size=ba (slashed (restOf (s.data.toList.drop 7))):=by rw [hy,hre];exact ba_ext (by simp [ba,slashed])
        have hv:¬9223372036854775807<1+(s.extract k s.size).size:=by rw [hy,ba_size];omega
        have HX:=Dl hx;have HSL:=Dl hsl;clear hx hy hsl hre g1 g2 hlen hrl hstop hall;cases hh:hostB (hostOf (s.data.toList.drop 7)) with
        | false=>
          exact XXQYT
        | true=>
          exact XXQk6
   case rest=>
    obtain ⟨F,HO,SS,rfl,rfl,rfl,hSS,hRR,hbc⟩:=hcut
    have H2:=Dl (H1.out.below HG1.out hbc.out)
    have HB2:=Dl (A6 HB1.out hbc.out);have HG2:=Dl (Gn HG1.out hbc.out.size);clear H1 HB1 HG1 hbc HR;have HOR:=Dl (λw=>rorigin_any (ba SS) w XXbde);rw [ba_list] at HOR;have hor:origin SS=if (pathB (cutAt 63 SS).1&&queryB (cutAt 63 SS).2.1)=true then some ⟨1,[],(cutAt 63 SS).1,(cutAt 63 SS).2.1,(cutAt 63 SS).2.2⟩ else none:=rfl
    rw [hor] at hRR;clear hor;generalize (cutAt 63 SS).1=p at *;generalize (cutAt 63 SS).2.1=q at *;generalize (cutAt 63 SS).2.2=bb at *;cases hk:(pathB p&&queryB q) with
    | false=>
      rw [hk] at HOR hRR;have HN:Hid (none=R):=hRR;clear hk hRR
      go_upto_if 82 with (go_at_call 232;with_reducible refine (HOR.out _).mono ?_;rintro e w2 ⟨rfl,hb⟩)
      have hb3:Below wc.heap.size wc (w2.alloc (.cells #[ZE Z7 0,ZD E0,ZD (ba p),ZD (ba q),ZB bb] 209)):=hb.alloc hb.size _;generalize w2.alloc (.cells #[ZE Z7 0,ZD E0,ZD (ba p),ZD (ba q),ZB bb] 209)=W3 at *;obtain ⟨c0,c1,c2,c3,c4,z0,z1,z2,z3,z4⟩:=H2.out.below HG2.out hb3;have HB:=Dl (A6 HB2.out hb3);clear hb hb3 H2 HB2 HG2;go_wp2_with fail;obtain ⟨W9,hW,⟨d0,d1,d2,d3,d4,_,_,_,_,_⟩,hbW⟩:=Je ⟨c0,c1,c2,c3,c4,z0,z1,z2,z3,z4⟩ HB.out (Gi _) 0 E0 E0 E0 false;rw [hW];exact ZF (v:=Z8 #[tv 0 E0 E0 E0 false,ZE Z7 400]) (by simp [results,Mq,go_sem,d0,d1,d2,d3,d4]) rfl ⟨by rw [←HN.out];rfl,hbW⟩
    | true=>
      rw [hk] at HOR hRR;have HN:Hid (some ⟨F,HO,p,q,bb⟩=R):=hRR;clear hk hRR
      go_upto_if 82 with (go_at_call 232;with_reducible refine (HOR.out _).mono ?_;rintro e w2 ⟨rfl,hb⟩)
      have HT5:=Dl (Tgb.new w2 209 0 E0 (ba p) (ba q) bb);have hb3:Below wc.heap.size wc (w2.alloc (.cells #[ZE Z7 0,ZD E0,ZD (ba p),ZD (ba q),ZB bb] 209)):=hb.alloc hb.size _;have hne:w.heap.size<w2.heap.size:=Gn HG2.out hb.size;generalize w2.alloc (.cells #[ZE Z7 0,ZD E0,ZD (ba p),ZD (ba q),ZB bb] 209)=W3 at *;obtain ⟨c0,c1,c2,c3,c4,z0,z1,z2,z3,z4⟩:=H2.out.below HG2.out hb3;obtain ⟨a0,a1,a2,a3,a4,y0,y1,y2,y3,y4⟩:=HT5.out;have HB:=Dl (A6 HB2.out hb3);clear hb hb3 H2 HB2 HG2 HT5;have n1:¬w.heap.size=w2.heap.size:=ZZ;have n2:¬w2.heap.size=w.heap.size:=ZZ;generalize w2.heap.size=g7 at *;go_wp2_with fail;have hB5:=(HB.out.setCell (p:=⟨g7,0,none⟩) (Gh hne) (ZE Z7 F)).setCell (p:=⟨g7,1,none⟩) (Gh hne) (ZD (ba HO));obtain ⟨W9,hW,⟨d0,d1,d2,d3,d4,_,_,_,_,_⟩,hbW⟩:=Je (((Tgb.mk c0 c1 c2 c3 c4 z0 z1 z2 z3 z4).other g7 0 (ZE Z7 F) n2).other g7 1 (ZD (ba HO)) n2) hB5 (Gi _) F (ba HO) (ba p) (ba q) bb;rw [hW];exact ZF (v:=Z8 #[tv F (ba HO) (ba p) (ba q) bb,ZE Z7 0]) (by simp [results,Mq,go_sem,d0,d1,d2,d3,d4]) rfl ⟨by rw [←HN.out];rfl,hbW⟩
end
end Tgt
open _root_.Array renaming getElem?_eq_none→Ao
open _root_.Decidable renaming not_not→B7
open _root_.Go.Lib renaming toList_data→Dv
open _root_.Go.Proofs.Tryz renaming func211→JT,ntmps211→LB
open _root_.Go.World renaming drewN_drewN→NR
open _root_.List renaming eq_nil_of_length_eq_zero→DX,getLastD_eq_getLast?→EI
open Num renaming readOf→G6
open Tgt renaming hostB→Jl
namespace Frm
open Base Txt
def Rowf (w:World) (g n:Nat) (f:Nat->ByteArray):Prop:=∀j,j<n->w.cell? ⟨g,j,none⟩=some (ZD (f j))/\w.frozen? ⟨g,j,none⟩=false
theorem Rowf.set {w:World} {g n:Nat} {f:Nat->ByteArray} (h:Rowf w g n f) (k:Nat) (x:ByteArray):Rowf (w.setCell ⟨g,k,none⟩ (ZD x)) g n (λj=>if j=k then x else f j):=by
 intro j hj;obtain ⟨c,z⟩:=h j hj;refine ⟨?_,by rw [World.frozen?_setCell];exact z⟩;by_cases e:j=k
 ·subst e;rw [World.cell?_setCell_same _ _ _ c];simp
 ·rw [World.cell?_setCell_other _ _ _ _ XX2aa];simp only [ZO e];exact c
theorem Rowf.below {w w':World} {g n:Nat} {f:Nat->ByteArray} (h:Rowf w g n f) (hg:g<w.heap.size) (hb:Below w.heap.size w w'):Rowf w' g n f:=
 λj hj=>⟨(hb.cell (p:=⟨g,j,none⟩) hg).trans (h j hj).1,(hb.frozen (p:=⟨g,j,none⟩) hg).trans (h j hj).2⟩
theorem Rowf.congr {w:World} {g n:Nat} {f f':Nat->ByteArray} (h:Rowf w g n f) (e:∀j,j<n->f j=f' j):Rowf w g n f':=
 λj hj=>by rw [←e j hj];exact h j hj
theorem rowf_of_own {w:World} {base:Nat} {e:TypeId} {v:Value} {n:Nat} {ss:List ByteArray} (h:w.ownsRow base e 1 v n (ss.map Value.string)) :
 ∃A c,v=.slice A n c/\(0<n->∃g,A=some ⟨g,0,none⟩/\base<=g/\g<w.heap.size/\Rowf w g n (λj=>ss[j]?.getD Bp)):=by
 have hl:ss.length=n:=by simpa using h.1
 rcases h.2 with ⟨rfl,rfl⟩ | ⟨g,cap,cur,rfl,hbg,hh,hnc,_,hsz,ht⟩
 ·exact ⟨none,0,rfl,λh=>ZG h ZZ⟩
 ·refine ⟨_,_,rfl,λ_=>⟨g,rfl,hbg,?_,λk hk=>⟨?_,?_⟩⟩⟩
  ·rcases Gp g w.heap.size with hlt | hge
   ·exact hlt
   ·rw [Ao hge] at hh;cases hh
  ·rw [cell_of_row w g k cur e (0,0) hh];exact XX100
  ·unfold World.frozen?;simp only [hh];simp
def norm (tb:Bool) (v:ByteArray):ByteArray:=lower (if tb=true then trimOf v blanksOf else v)
theorem norm_is (tb:Bool) (v:ByteArray):decide (norm tb v=chunked)=isC tb v:=lower_chunked _
def mixN (tb:Bool) (ls:List ByteArray) (k:Nat) (j:Nat):ByteArray:=if j<k then norm tb (ls[j]?.getD Bp) else ls[j]?.getD Bp
theorem count_snoc (bs:List Bool) (k:Nat) (h:k<bs.length):(bs.take (k+1)).countP id=(bs.take k).countP id+(if bs[k]=true then 1 else 0):=by
 rw [FG h,List.countP_append]
 congr 1
 cases bs[k]<;>rfl
section
attribute [local go_sem] A8
theorem rcoding_any (p:Nat) (hp:p<4294967296) (a:Option Addr) (n cap:Nat) (vs:List ByteArray) (w:World) (hv:Strs w a n vs) (hr:room vs<=1000000000) :
 Calls Mm 234 #[ZE Z5 (p:Nat),.slice a n cap] w λe w'=>e=.returned (ZB (coding (Hs p 17) (Hs p 18) vs))/\Below w.heap.size w w':=by
 have HL:=Dl (rlist_own a n cap vs w hv hr)
 have H17:=Dl (λw=>Hu p hp 17 w)
 have H18:=Dl (λw=>Hu p hp 18 w);have HM:=Dl (λx hx=>Gl (list_mem_size vs x hx) hr);have hlr:=Gl (list_le vs) hr;have HX:coding (Hs p 17) (Hs p 18) vs=((decide (((list vs).map (isC (Hs p 17))).countP id=1)&&((list vs).map (isC (Hs p 17))).getLastD false)&&(decide ((list vs).length=1)||Hs p 18)):=by rw [only_count];rfl
 rw [HX];clear HX hv hr hp;generalize list vs=ls at *;generalize Hs p 17=tb at *;generalize Hs p 18=tl at *;obtain ⟨m,hm⟩:∃m,ls.length=m:=⟨_,rfl⟩;rw [hm] at HL hlr ⊢
 have HSZ:=Dl (λk (hk:k<m)=>show (ls[k]?.getD Bp).size<=1000000000 by
  rw [Et ZZ]
  exact HM.out _ (EB _))
 obtain ⟨bs,hbs⟩:∃bs,ls.map (isC tb)=bs:=⟨_,rfl⟩;rw [hbs]
 have HBL:=Dl (show bs.length=m by rw [←hbs,EV,hm])
 have HBA:=Dl (λk (hk:k<m)=>show bs[k]'(by rw [HBL.out];exact hk)=isC tb (ls[k]?.getD Bp) by simp only [←hbs,List.getElem_map];rw [Et ZZ];rfl);clear HM hbs hm;obtain ⟨R,hR0⟩:∃R,((decide (bs.countP id=1)&&bs.getLastD false)&&(decide (m=1)||tl))=R:=⟨_,rfl⟩;rw [hR0];have HRR:=Dl hR0;clear hR0;rcases Gg m with h0 | h0
 ·subst h0;have e0:bs= []:=DX HBL.out;subst e0;have HRF:=Dl (show R=false from HRR.out.symm);clear HBA HBL HSZ hlr HRR;go_enter Tryz.func234,Tryz.ntmps234
  go_wp2_with (go_at_call 119;with_reducible refine (HL.out).mono ?_;rintro e w1 ⟨v,rfl,ho,hb⟩
               obtain ⟨A1,c1,rfl,_⟩:=rowf_of_own ho;have HB:=Dl hb;clear ho hb)
  go_loopw [6] (λi wr=>i=ZE Z7 0/\wr=w1) (λi _=>0)
  case atStart=>exact ⟨rfl,rfl⟩
  case round=>
   obtain ⟨rfl,rfl⟩:=hrel;go_wp2_with fail
   go_loopw [7,8] (λc i wr'=>c=ZE Z7 0/\i=ZE Z7 0/\wr'=wr) (λ_ i _=>0)
   case atStart=>exact ⟨rfl,rfl,rfl⟩
   case round=>obtain ⟨rfl,rfl,rfl⟩:=hrel;go_wp2_with fail;go_ret;exact ⟨by rw [HRF.out];rfl,HB.out⟩
 have HT:=Dl (λv (hv:v.size<=1000000000) w=>rtrimOf_any v ⟨#[11,12,32,9]⟩ w ZX (Gl hv ZX))
 have HLo:=Dl (λv (hv:v.size<=1000000000) w=>rlower_any v w (Gl hv ZX))
 have HTZ:=Dl (λv (hv:v.size<=1000000000)=>show (trimOf v ⟨#[11,12,32,9]⟩).size<=1000000000 from Gl (trim_size _ _) hv)
 have HC1:=Dl (show IntKind.i64.wrap ((m:Int)-1)=((m-1:Nat):Int) by rw [Base.wrap_in _ ZZ ZZ];omega);have HC2:=Dl (show wrap64 ((m:Int)-1)=((m-1:Nat):Int) by unfold wrap64;omega);go_enter Tryz.func234,Tryz.ntmps234
 go_wp2_with (go_at_call 119;with_reducible refine (HL.out).mono ?_;rintro e w1 ⟨v,rfl,ho,hb⟩
              obtain ⟨A1,c3,rfl,ho2⟩:=rowf_of_own ho;obtain ⟨g,rfl,hg,hlt,hR⟩:=ho2 h0;have HR0:=Dl (show Rowf w1 g m (mixN tb ls 0) from hR.congr λj _=>by simp [mixN]);have HB:=Dl hb;clear ho hb ho2 hR)
 go_loopw [6] (λi wr=>∃k:Nat,k<=m/\i=ZE Z7 k/\Hid (Below w.heap.size w wr)/\Hid (Rowf wr g m (mixN tb ls k))/\g<wr.heap.size) (λi _=>m-(intOf i).toNat)
 case atStart=>exact ⟨0,Gz _,rfl,HB,HR0,hlt⟩
 case round=>
  obtain ⟨k,hk,rfl,hbr,hR,hgl⟩:=hrel;rcases Gp k m with hlk | hge
  ·obtain ⟨hck,hzk⟩:=hR.out k hlk;have hsz:=HSZ.out k hlk;rw [show mixN tb ls k k=ls[k]?.getD Bp from ZO (Nat.lt_irrefl k)] at hck
   have HS:=Dl (λx (hx:x=norm tb (ls[k]?.getD Bp)) (w':World) (h:Rowf w' g m (mixN tb ls k))=>show Rowf (w'.setCell ⟨g,k,none⟩ (ZD x)) g m (mixN tb ls (k+1)) from (h.set k x).congr λj hj=>by
    unfold mixN;by_cases e:j=k
    ·rw [ZN e,ZN ZZ,hx,e]
    ·rw [ZO e];by_cases e2:j<k
     ·rw [ZN e2,ZN ZZ]
     ·rw [ZO e2,ZO ZZ])
   have HS2:=Dl (λT x (hx:x=norm tb (ls[k]?.getD Bp)) (w':World) (h:Rowf w' g m (λj=>if j=k then T else mixN tb ls k j))=>show Rowf (w'.setCell ⟨g,k,none⟩ (ZD x)) g m (mixN tb ls (k+1)) from (h.set k x).congr λj hj=>by
    unfold mixN;by_cases e:j=k
    ·rw [ZN e,ZN ZZ,hx,e]
    ·rw [ZO e,ZO e];by_cases e2:j<k
     ·rw [ZN e2,ZN ZZ]
     ·rw [ZO e2,ZO ZZ])
   generalize ls[k]?.getD Bp=x at *;have i1:(k:Int)<(m:Int):=ZZ;cases tb with
   | false=>
     have HC:=Dl (HLo.out x hsz);have HY:=Dl (show lower x=norm false x from rfl);generalize lower x=y at *;clear HT HTZ hsz
     go_wp2_with (first
      |(go_at_call 44;with_reducible refine Cm (H17.out _) ?_)
      |(go_at_call 176;(with_reducible refine (HC.out _).mono ?_);rintro e w3 ⟨rfl,hb⟩;have HB3:=Dl (A6 hbr.out hb);have hR3:=hR.out.below hgl hb;have hg3:=Gn hgl hb.size;clear hck hzk;obtain ⟨hck,hzk⟩:=hR3 k hlk;have HR3:=Dl hR3;clear hb hR3))
     go_roundw
     case rel=>exact ⟨k+1,ZZ,ZT,Dl (HB3.out.setCell hg _),Dl (HS.out _ HY.out _ HR3.out),by simpa using hg3⟩
     case measure=>simp [intOf];omega
   | true=>
     have HT2:=Dl (HT.out x hsz);have hsT:=HTZ.out x hsz;have HY0:=Dl (show lower (trimOf x ⟨#[11,12,32,9]⟩)=norm true x from rfl);generalize trimOf x ⟨#[11,12,32,9]⟩=T at *
     have HC:=Dl (HLo.out T hsT)
     have HRT:=Dl (hR.out.set k T);have HBT:Hid (Below w.heap.size w (wr.setCell ⟨g,k,none⟩ (ZD T))):=Dl (hbr.out.setCell hg _);have hgT:g<(wr.setCell ⟨g,k,none⟩ (ZD T)).heap.size:=by simpa using hgl
     generalize lower T=y at *;clear HT HTZ hsz hsT
     go_wp2_with (first
      |(go_at_call 44;with_reducible refine Cm (H17.out _) ?_)
      |(go_at_call 169;with_reducible refine Cm (HT2.out _) ?_)
      |(go_at_call 176;(with_reducible refine (HC.out _).mono ?_);rintro e w3 ⟨rfl,hb⟩;have HB3:=Dl (A6 HBT.out hb);have hR3:=HRT.out.below hgT hb;have hg3:=Gn hgT hb.size;clear hck hzk;obtain ⟨hck,hzk⟩:=hR3 k hlk;have HR3:=Dl hR3;clear hb hR3))
     go_roundw
     case rel=>exact ⟨k+1,ZZ,ZT,Dl (HB3.out.setCell hg _),Dl (HS2.out _ _ HY0.out _ HR3.out),by simpa using hg3⟩
     case measure=>simp [intOf];omega
  ·obtain rfl:k=m:=by omega
   have HRk:=Dl (hR.out.congr (f':=λj=>norm tb (ls[j]?.getD Bp)) λj hj=>ZN hj);have HBk:=hbr;clear hR hbr HR0 HT HLo HTZ HSZ H17 HL;go_wp2_with fail
   go_loop [7,8] (λc i=>∃j:Nat,j<=k/\i=ZE Z7 j/\∃q:Nat,c=ZE Z7 q/\q<=j/\Hid (q=(bs.take j).countP id)) (λ_ i=>k-(intOf i).toNat)
   case atStart=>exact ⟨0,Gz _,rfl,0,rfl,Gi _,Dl rfl⟩
   case round=>
    obtain ⟨j,hj,rfl,q,rfl,hqj,HQ⟩:=hrel;rcases Gp j k with hlj | hgj
    ·have hcj:wr.cell? ⟨g,j,none⟩=some (ZD (norm tb (ls[j]?.getD Bp))):=(HRk.out j hlj).1;have HN:=Dl (count_snoc bs j (by rw [HBL.out];exact hlj));have hbj:=HBA.out j hlj;rw [←norm_is] at hbj;have HBJ:=Dl hbj;clear hbj;generalize norm tb (ls[j]?.getD Bp)=x at *;have i1:(j:Int)<(k:Int):=ZZ;have hq1:q+1<=j+1:=ZZ;have hq2:q<=j+1:=ZZ;have hj1:j+1<=k:=ZZ;have c3:wrap64 ((q:Int)+1)=((q+1:Nat):Int):=by unfold wrap64;omega
     by_cases hx:x=chunked
     ·have H2:=Dl (show q+1=(bs.take (j+1)).countP id by
       rw [HN.out,HBJ.out,ZK hx,ZN rfl,←HQ.out])
      obtain ⟨t1,t2⟩:=Tgt.eq_facts x [99,104,117,110,107,101,100] true (ZK (by rw [hx]));clear HN HBJ hx;go_wp2_with fail;clear c3;go_round
      case rel=>exact ⟨j+1,hj1,ZT,q+1,rfl,hq1,H2⟩
      case measure=>simp [intOf];omega
     ·have H2:=Dl (show q=(bs.take (j+1)).countP id by
       rw [HN.out,HBJ.out,ZL hx,ZO ZX,←HQ.out];rfl)
      obtain ⟨t1,t2⟩:=Tgt.eq_facts x [99,104,117,110,107,101,100] false (ZL λe=>hx (ba_ext e));clear HN HBJ hx c3;go_wp2_with fail;go_round
      case rel=>exact ⟨j+1,hj1,ZT,q,rfl,hq2,H2⟩
      case measure=>simp [intOf];omega
    ·obtain rfl:j=k:=by omega
     have hcl:wr.cell? ⟨g,j-1,none⟩=some (ZD (norm tb (ls[j-1]?.getD Bp))):=(HRk.out (j-1) ZZ).1;have hQ:=HQ.out;rw [FF (by rw [HBL.out];exact Gi _)] at hQ;have hRR:=HRR.out;rw [←hQ] at hRR;have hlast:bs.getLastD false=decide (norm tb (ls[j-1]?.getD Bp)=chunked):=by rw [norm_is,←HBA.out (j-1) ZZ,EI,List.getLast?_eq_getElem?,show bs.length-1=j-1 by rw [HBL.out],Et (by rw [HBL.out];omega)];rfl
     rw [hlast] at hRR;have HR2:=Dl hRR;have HJ:=Dl hgj;have c1:=HC1.out;have c2:=HC2.out;clear hQ hlast HQ HBA HBL hgj hRR HRR HC1 HC2;generalize norm tb (ls[j-1]?.getD Bp)=x at *;have i1:((j-1:Nat):Int)<(j:Int):=ZZ;generalize j-1=j1 at *;by_cases hq:q=1
     ·have t0:((q:Int)==1)=true:=ZI.2 ZZ;by_cases hx:x=chunked
      ·obtain ⟨t1,t2⟩:=Tgt.eq_facts x [99,104,117,110,107,101,100] true (ZK (by rw [hx]));by_cases h1:j=1
       ·have t3:((j:Int)==1)=true:=ZI.2 ZZ;have HH:=Dl (show R=true by rw [←HR2.out,ZK hq,ZK hx,ZK h1];rfl);clear h1 hq hx HR2;go_wp2_with fail;go_ret;exact ⟨by rw [HH.out];rfl,HBk.out⟩
       ·have t3:((j:Int)==1)=false:=ZM.2 ZZ;have HH:=Dl (show R=tl by rw [←HR2.out,ZK hq,ZK hx,ZL h1];rfl);clear h1 hq hx HR2;go_wp2_with (go_at_call 44;with_reducible refine Cm (H18.out _) ?_);go_ret;exact ⟨by rw [HH.out];rfl,HBk.out⟩
      ·obtain ⟨t1,t2⟩:=Tgt.eq_facts x [99,104,117,110,107,101,100] false (ZL λe=>hx (ba_ext e));have HH:=Dl (show R=false by rw [←HR2.out,ZK hq,ZL hx];rfl);clear hq hx HR2;go_wp2_with fail;go_ret;exact ⟨by rw [HH.out];rfl,HBk.out⟩
     ·have t0:((q:Int)==1)=false:=ZM.2 ZZ;have HH:=Dl (show R=false by rw [←HR2.out,ZL hq];rfl);clear hq HR2;go_wp2_with fail;go_ret;exact ⟨by rw [HH.out];rfl,HBk.out⟩
end
end Frm
namespace Frm
open Base Txt
section
attribute [local go_sem] A8
theorem XXlUm {P:Prop} (h:P:=by
 simp only at hR;have hs:=HMN.out S rfl;have hways:(K=0/\S=y)∨(¬K=0/\al=true/\S=y)∨(¬K=0/\al=false/\lf=true/\S=y)∨(¬K=0/\al=false/\lf=false/\ll=true/\S=z):=by
  by_cases hK:K=0
  ·rw [ZK hK] at hO3;exact .inl ⟨hK,by simpa using hO3⟩
  ·rw [ZL hK] at hO3;cases al
   ·cases lf
    ·cases ll
     ·simp at hO3
     ·exact .inr (.inr (.inr ⟨hK,rfl,rfl,rfl,by simpa using hO3⟩))
    ·exact .inr (.inr (.inl ⟨hK,rfl,rfl,by simpa using hO3⟩))
   ·exact .inr (.inl ⟨hK,rfl,by simpa using hO3⟩)
 have HW:=Dl hways;clear hO3 hways;have hK4:(K=0/\S=y)∨(¬K=0/\al=true/\S=y)∨(¬K=0/\al=false/\lf=true/\S=y)∨(¬K=0/\al=false/\lf=false/\ll=true/\S=z):=HW.out;clear HW;rcases hK4 with ⟨hK,rfl⟩ | ⟨hK,rfl,rfl⟩ | ⟨hK,rfl,rfl,rfl⟩ | ⟨hK,rfl,rfl,rfl,rfl⟩;all_goals
  first
   |(have tK:((((K+1:Nat)):Int)==1)=true:=ZI.2 ZZ)
   |(have tK:((((K+1:Nat)):Int)==1)=false:=ZM.2 ZZ;have tK2:((K:Int)+1==1)=false:=ZM.2 ZZ;have tK3:¬(K:Int)=0:=ZZ)
  have HD:=Dl (HT.out S hs);clear HT HMN;generalize hNN:G6 10 most (unplus lp S).data.toList=N at *;clear hNN;obtain ⟨N1,N2⟩:=N;simp only at HD;unfold numV at hR;simp only at hR;have hcase:(N2=22/\R=(0,400))∨((N2==22)=false/\N2=23/\R=(0,413))∨((N2==22)=false/\(N2==23)=false/\R=(N1,0)):=by
   by_cases h1:N2=22
   ·rw [ZN h1] at hR;exact .inl ⟨h1,hR.symm⟩
   ·rw [ZO h1] at hR;by_cases h2:N2=23
    ·rw [ZN h2] at hR;exact .inr (.inl ⟨ZM.2 h1,h2,hR.symm⟩)
    ·rw [ZO h2] at hR;exact .inr (.inr ⟨ZM.2 h1,ZM.2 h2,hR.symm⟩)
  clear hR;cases lp with
  | false=>
    rw [show unplus false S=S from rfl] at HD;rcases hcase with ⟨rfl,rfl⟩ | ⟨t1,rfl,rfl⟩ | ⟨t1,t2,rfl⟩;all_goals
     go_wp2_with (first
      |(go_at_call 44;with_reducible refine Cm (H23.out _) ?_) |(go_at_call 44;with_reducible refine Cm (H25.out _) ?_) |(go_at_call 44;with_reducible refine Cm (H26.out _) ?_)
      |(go_at_call 252;with_reducible refine Cm (HD.out _) ?_))
     go_ret2;exact ⟨rfl,HBq.out⟩
  | true=>
    rcases Gg S.size with hz0 | hz0
    ·have e0:S.toList.isEmpty=true:=by
      rw [Dv,ET.1 (show S.data.toList.length=0 by rw [len];exact hz0)];rfl
     rw [show unplus true S=S by unfold unplus;rw [ET.1 (show S.data.toList.length=0 by rw [len];exact hz0)];rfl] at HD;clear hz0;rcases hcase with ⟨rfl,rfl⟩ | ⟨t1,rfl,rfl⟩ | ⟨t1,t2,rfl⟩;all_goals
      go_wp2_with (first
       |(go_at_call 44;with_reducible refine Cm (H23.out _) ?_) |(go_at_call 44;with_reducible refine Cm (H25.out _) ?_) |(go_at_call 44;with_reducible refine Cm (H26.out _) ?_)
       |(go_at_call 252;with_reducible refine Cm (HD.out _) ?_))
      go_ret2;exact ⟨rfl,HBq.out⟩
    ·obtain ⟨e1,e2,e0⟩:=first_of S hz0;have i0:(0:Int)<(S.size:Int):=by omega
     have i1:(1:Int)<=(S.size:Int):=ZZ;have i2:(S.size:Int)<=9223372036854775807:=ZZ;by_cases hp:S[0]=43
     ·have t3:(((S[0].toNat:Nat):Int)==43)=true:=by rw [hp];rfl
      rw [show unplus true S=S.extract 1 S.size from by
       unfold unplus;rw [ZN (by rw [e1,hp];rfl)]
       exact ba_ext e2.symm] at HD
      clear e1 e2 hp;rcases hcase with ⟨rfl,rfl⟩ | ⟨t1,rfl,rfl⟩ | ⟨t1,t2,rfl⟩;all_goals
       go_wp2_with (first
        |(go_at_call 44;with_reducible refine Cm (H23.out _) ?_) |(go_at_call 44;with_reducible refine Cm (H25.out _) ?_) |(go_at_call 44;with_reducible refine Cm (H26.out _) ?_)
        |(go_at_call 252;with_reducible refine Cm (HD.out _) ?_))
       go_ret2;exact ⟨rfl,HBq.out⟩
     ·have t3:(((S[0].toNat:Nat):Int)==43)=false:=ZM.2 (λe=>hp (NI.1 (show S[0].toNat=(43:UInt8).toNat from by have e43:(43:UInt8).toNat=43:=rfl;omega)))
      rw [show unplus true S=S from by
       unfold unplus
       rw [ZO (by rw [e1,List.head?_cons];simpa using hp)]] at HD
      clear e1 e2 hp;rcases hcase with ⟨rfl,rfl⟩ | ⟨t1,rfl,rfl⟩ | ⟨t1,t2,rfl⟩;all_goals
       go_wp2_with (first
        |(go_at_call 44;with_reducible refine Cm (H23.out _) ?_) |(go_at_call 44;with_reducible refine Cm (H25.out _) ?_) |(go_at_call 44;with_reducible refine Cm (H26.out _) ?_)
        |(go_at_call 252;with_reducible refine Cm (HD.out _) ?_))
       go_ret2
       exact ⟨rfl,HBq.out⟩):P:=h
theorem XXQsP {P:Prop} (h:P:=by
 simp only at hR;have hcase:¬K=0/\al=false/\lf=false/\ll=false:=by
  refine ⟨λe=>?_,?_,?_,?_⟩
  ·rw [ZK e] at hO3;simp at hO3
  ·cases al
   ·rfl
   ·simp at hO3
  ·cases lf
   ·rfl
   ·simp at hO3
  ·cases ll
   ·rfl
   ·by_cases hx:(decide (K=0)|| (al||lf))=true
    ·rw [ZN hx] at hO3;cases hO3
    ·rw [ZO hx,ZN rfl] at hO3;cases hO3
 obtain ⟨hK,rfl,rfl,rfl⟩:=hcase;subst hR;have tK:((((K+1:Nat)):Int)==1)=false:=ZM.2 ZZ;have tK2:((K:Int)+1==1)=false:=ZM.2 ZZ;have tK3:¬(K:Int)=0:=ZZ;clear hO3
 go_wp2_with (first
  |(go_at_call 44;with_reducible refine Cm (H25.out _) ?_)
  |(go_at_call 44;with_reducible refine Cm (H26.out _) ?_))
 go_ret2
 exact ⟨rfl,HBq.out⟩):P:=h
theorem XXbpH {P:Prop} (h:P:=by
 go_wp2_with fail;go_quiet (fail);rename_i nq;go_wp2;go_roundw
 case rel=>first | exact ⟨k+1,q+nq,ZZ,ZT,(NR _ _ _).symm ▸ rfl,false,rfl,H2⟩ | exact ⟨k+1,q+nq,ZZ,ZT,by rw [NR],false,rfl,H2⟩ | exact ⟨k+1,q+nq,ZZ,ZT,rfl,false,rfl,H2⟩
 case measure=>simp [intOf];omega):P:=h
theorem rlength_any (p:Nat) (hp:p<4294967296) (most:Int) (hM:most<=9223372036854775807) (a:Option Addr) (n cap:Nat) (vs:List ByteArray) (w:World) (hv:Strs w a n vs) (hr:room vs<=1000000000) :
 Calls Mm 235 #[ZE Z5 (p:Nat),ZE Z7 most,.slice a n cap] w λe w'=>e=.returned (Z8 #[ZE Z7 (lengthV (Hs p 23) (Hs p 24) (Hs p 25) (Hs p 26) most vs).1,ZE Z7 (lengthV (Hs p 23) (Hs p 24) (Hs p 25) (Hs p 26) most vs).2])/\Below w.heap.size w w':=by
 obtain ⟨R,hR⟩:∃R,lengthV (Hs p 23) (Hs p 24) (Hs p 25) (Hs p 26) most vs=R:=⟨_,rfl⟩;rw [hR];unfold lengthV at hR;have hl:=hv.1;by_cases hn:n=0
 ·subst hn;obtain rfl:=DX hl;rw [ZN rfl] at hR;subst hR;go_enter Tryz.func235,Tryz.ntmps235;exact XXdKB
 have hne:vs≠ []:=λe=>hn (by rw [←hl,e];rfl);rw [ZO hne] at hR
 have H23:=Dl (λw=>Hu p hp 23 w)
 have H24:=Dl (λw=>Hu p hp 24 w)
 have H25:=Dl (λw=>Hu p hp 25 w)
 have H26:=Dl (λw=>Hu p hp 26 w);have HL:=Dl (rlist_any a n cap vs w hv hr);have hll:=Gl (list_le vs) hr;have hlp:=list_ne_nil vs hne;have hnr:=Gl (len_room vs) hr;rw [hl] at hnr;have hms:=list_mem_size vs;have hrm:=room_mem vs;generalize Hs p 23=lp at *;generalize Hs p 24=lc at *;generalize Hs p 25=lf at *;generalize Hs p 26=ll at *
 have HT:=Dl (λs (hs:s.size<=1000000000) w=>Num.rdec_any most hM (unplus lp s) w (Gl (unplus_size lp s) (Gl hs ZX)));have t0:((n:Int)==0)=false:=ZM.2 ZZ;clear hp hM hl;cases lc with
 | false=>
   rw [ZO ZX] at hR;have HM:=Dl (λs (h:s∈vs)=>show s.size<=1000000000 by have:=hrm s h;omega);clear HL hll hlp hms hrm hne;obtain ⟨U,hU⟩:∃U,U=vs:=⟨_,rfl⟩;rw [←hU] at hv HM hR;clear hU;have hm:=hv.1;obtain ⟨m,hnm⟩:∃m,m=n:=⟨_,rfl⟩;have hll:m<=1000000000:=ZZ;have hlp:0<m:=ZZ;subst hnm;obtain ⟨K,rfl⟩:∃K,m=K+1:=⟨m-1,ZZ⟩
   have HE:=Dl (λ(a':Option Addr) (w':World) (hS:Strs w' a' (K+1) U)=>strs_ends hS);have HMN:=Dl (λ(s:ByteArray) (h:counts false lf ll U=some s)=>HM.out s (counts_mem _ _ _ _ _ h (λe=>by rw [e] at hm;simp at hm)));obtain ⟨O,hO⟩:∃O,counts false lf ll U=O:=⟨_,rfl⟩;rw [hO] at hR HMN;have HUL:=Dl hm;have hO2:O=if (decide (K=0)|| ((false&&alikeL U)||lf))=true then some (U.headD Bp) else if ll=true then some (U.getLastD Bp) else none:=by rw [←hO];unfold counts;rw [hm];simp
   have HO:=Dl hO2;clear hO hO2 HM hm
   have HN:=Dl (λk (hk:k<K+1)=>take_all_snoc (λv:ByteArray=>decide (v=U.headD Bp)) Bp U k (by rw [HUL.out];exact hk))
   have HA:=Dl (show (U.take (K+1)).all (λv=>decide (v=U.headD Bp))=alikeL U by rw [FF (by rw [HUL.out];exact Gi _)];rfl)
   have HC1:=Dl (show IntKind.i64.wrap (((K+1:Nat):Int)-1)=(K:Int) by rw [wrap_in _ ZZ ZZ];omega);have HC2:=Dl (show wrap64 (((K+1:Nat):Int)-1)=(K:Int) by unfold wrap64;omega);have HS:=Dl hv;obtain ⟨w1,hw1⟩:∃x,x=w:=⟨_,rfl⟩;have HB:Hid (Below w.heap.size w w1):=Dl (hw1 ▸ AE _ _);rw [←hw1] at HS hv ⊢;rw [hw1] at HB;rw [←hw1] at HB;obtain ⟨bl,off,rfl,hd0,hz0⟩:=HE.out _ _ hv;have HD0:=Dl hd0;have HZ0:=Dl hz0;clear hv hd0 hz0 hw1;go_enter Tryz.func235,Tryz.ntmps235
   go_wp2_with (go_at_call 44;with_reducible refine Cm (H24.out _) ?_)
   go_loopw [9,10] (λal i wr=>∃k q:Nat,k<=K+1/\i=ZE Z7 k/\wr=w1.drewN q/\∃b:Bool,al=ZB b/\Hid (false=b)) (λ_ i _=>K+1-(intOf i).toNat)
   case atStart=>exact ⟨0,0,Gz _,rfl,rfl,false,rfl,Dl rfl⟩
   case round=>
    obtain ⟨k,q,hk,rfl,rfl,al,rfl,HAL⟩:=hrel;rcases Gp k (K+1) with hlt | hge
    ·have i1:(k:Int)<((K+1:Nat):Int):=by omega
     have i0:(0:Int)<((K+1:Nat):Int):=ZZ;obtain rfl:al=false:=HAL.out.symm;go_wp2_with fail;go_quiet (fail);rename_i nq;go_wp2;go_roundw
     case rel=>first | exact ⟨k+1,q+nq,ZZ,ZT,(NR _ _ _).symm ▸ rfl,false,rfl,Dl rfl⟩ | exact ⟨k+1,q+nq,ZZ,ZT,by rw [NR],false,rfl,Dl rfl⟩ | exact ⟨k+1,q+nq,ZZ,ZT,rfl,false,rfl,Dl rfl⟩
     case measure=>simp [intOf];omega
    ·obtain rfl:k=K+1:=by omega
     have HAL2:=Dl (show (false&&alikeL U)=al by exact HAL.out);have hbd:Below w1.heap.size w1 (w1.drewN q):=Az (AE _ _) q;obtain ⟨bl2,off2,he2,hd,hz⟩:=HE.out _ _ (HS.out.below hbd);obtain ⟨rfl,rfl⟩:bl=bl2/\off=off2:=by simpa using he2
     have HBq:=Dl (A6 HB.out hbd);have hO3:=HO.out;rw [HAL2.out] at hO3;have c1:=HC1.out;have c2:=HC2.out;have i0:(0:Int)<((K+1:Nat):Int):=ZZ;have iK:(K:Int)<((K+1:Nat):Int):=ZZ;clear he2 hbd HE HN HA HC1 HC2 HO HAL HAL2 HS HB HD0 HZ0;generalize w1.drewN q=wq at *;generalize U.headD Bp=y at *;generalize U.getLastD Bp=z at *;cases O with
     | none=>
       exact XXQsP
     | some S=>
       exact XXlUm
 | true=>
   rw [ZN rfl] at hR;have HM:=Dl (λs (h:s∈list vs)=>show s.size<=1000000000 from Gl (hms s h) hr);clear hv hms hrm hne;generalize list vs=U at *;obtain ⟨m,hm⟩:∃m,U.length=m:=⟨_,rfl⟩;rw [hm] at HL hll hlp;obtain ⟨K,rfl⟩:∃K,m=K+1:=⟨m-1,ZZ⟩
   have HE:=Dl (λ(a':Option Addr) (w':World) (hS:Strs w' a' (K+1) U)=>strs_ends hS);have HMN:=Dl (λ(s:ByteArray) (h:counts true lf ll U=some s)=>HM.out s (counts_mem _ _ _ _ _ h (λe=>by rw [e] at hm;simp at hm)));obtain ⟨O,hO⟩:∃O,counts true lf ll U=O:=⟨_,rfl⟩;rw [hO] at hR HMN;have HUL:=Dl hm;have hO2:O=if (decide (K=0)|| ((true&&alikeL U)||lf))=true then some (U.headD Bp) else if ll=true then some (U.getLastD Bp) else none:=by rw [←hO];unfold counts;rw [hm];simp
   have HO:=Dl hO2;clear hO hO2 HM hm
   have HN:=Dl (λk (hk:k<K+1)=>take_all_snoc (λv:ByteArray=>decide (v=U.headD Bp)) Bp U k (by rw [HUL.out];exact hk))
   have HA:=Dl (show (U.take (K+1)).all (λv=>decide (v=U.headD Bp))=alikeL U by rw [FF (by rw [HUL.out];exact Gi _)];rfl)
   have HC1:=Dl (show IntKind.i64.wrap (((K+1:Nat):Int)-1)=(K:Int) by rw [wrap_in _ ZZ ZZ];omega);have HC2:=Dl (show wrap64 (((K+1:Nat):Int)-1)=(K:Int) by unfold wrap64;omega);go_enter Tryz.func235,Tryz.ntmps235
   go_wp2_with (first
    |(go_at_call 44;with_reducible refine Cm (H24.out _) ?_)
    |(go_at_call 119;with_reducible refine (HL.out).mono ?_;rintro e w1 ⟨b,m2,c,rfl,hm2,hS,hb⟩
      rw [hm2] at hS ⊢;clear hm2;have HS:=Dl hS;have HB:=Dl hb;obtain ⟨bl,off,rfl,hd0,hz0⟩:=HE.out _ _ hS;have HD0:=Dl hd0;have HZ0:=Dl hz0;clear hS hb hd0 hz0))
   go_loopw [9,10] (λal i wr=>∃k q:Nat,k<=K+1/\i=ZE Z7 k/\wr=w1.drewN q/\∃b:Bool,al=ZB b/\Hid ((U.take k).all (λv=>decide (v=U.headD Bp))=b)) (λ_ i _=>K+1-(intOf i).toNat)
   case atStart=>exact ⟨0,0,Gz _,rfl,rfl,true,rfl,Dl rfl⟩
   case round=>
    obtain ⟨k,q,hk,rfl,rfl,al,rfl,HAL⟩:=hrel;rcases Gp k (K+1) with hlt | hge
    ·have i1:(k:Int)<((K+1:Nat):Int):=by omega
     have i0:(0:Int)<((K+1:Nat):Int):=ZZ;obtain ⟨bl2,off2,he2,_,hc⟩:=HS.out.2 ZZ;obtain ⟨rfl,rfl⟩:bl=bl2/\off=off2:=by simpa using he2
     have hck:=hc k hlt;have hc0:=HD0.out;have HNk:=Dl (HN.out k hlt);clear hc he2;cases al with
     | false=>
       have H2:=Dl (show (U.take (k+1)).all (λv=>decide (v=U.headD Bp))=false by rw [HNk.out,HAL.out];rfl);clear HNk hck hc0;exact XXbpH
     | true=>
       by_cases he:U[k]?.getD Bp=U.headD Bp
       ·have H2:=Dl (show (U.take (k+1)).all (λv=>decide (v=U.headD Bp))=true by rw [HNk.out,HAL.out,he];simp);rw [he] at hck;clear HNk he;generalize U.headD Bp=y at *;go_wp2_with fail;go_quiet (fail);rename_i nq;go_wp2;go_roundw
        case rel=>first | exact ⟨k+1,q+nq,ZZ,ZT,(NR _ _ _).symm ▸ rfl,true,rfl,H2⟩ | exact ⟨k+1,q+nq,ZZ,ZT,by rw [NR],true,rfl,H2⟩ | exact ⟨k+1,q+nq,ZZ,ZT,rfl,true,rfl,H2⟩
        case measure=>simp [intOf];omega
       ·have H2:=Dl (show (U.take (k+1)).all (λv=>decide (v=U.headD Bp))=false by rw [HNk.out,HAL.out,ZL he];rfl);generalize U[k]?.getD Bp=x at *;generalize U.headD Bp=y at *;have he2:¬x.toList=y.toList:=λh=>he ((toList_iff x y).1 h);have he3:(x.toList==y.toList)=false:=by simpa using he2
        clear HNk he;exact XXbpH
    ·obtain rfl:k=K+1:=by omega
     have HAL2:=Dl (show (true&&alikeL U)=al by rw [Bg,←HA.out];exact HAL.out);have hbd:Below w1.heap.size w1 (w1.drewN q):=Az (AE _ _) q;obtain ⟨bl2,off2,he2,hd,hz⟩:=HE.out _ _ (HS.out.below hbd);obtain ⟨rfl,rfl⟩:bl=bl2/\off=off2:=by simpa using he2
     have HBq:=Dl (A6 HB.out hbd);have hO3:=HO.out;rw [HAL2.out] at hO3;have c1:=HC1.out;have c2:=HC2.out;have i0:(0:Int)<((K+1:Nat):Int):=ZZ;have iK:(K:Int)<((K+1:Nat):Int):=ZZ;clear he2 hbd HE HN HA HC1 HC2 HO HAL HAL2 HS HB HD0 HZ0;generalize w1.drewN q=wq at *;generalize U.headD Bp=y at *;generalize U.getLastD Bp=z at *;cases O with
     | none=>
       exact XXQsP
     | some S=>
       exact XXlUm
end
end Frm
namespace Frm
open Base Txt
theorem rfind_at (a:Option Addr) (n cap:Nat) (fs:List Fld) (name:ByteArray) (w:World) (hv:Flds w a n fs) (hn:n<=1000000000) (hs:∀f∈fs,f.1.size<=1000000000) (ht:name.size<=1000000000) :
 Calls Mm 102 #[.slice a n cap,ZD name] w λe w'=>∃b c,e=.returned (.slice b (find fs name).length c)/\Strs w' b (find fs name).length (find fs name)/\Below w.heap.size w w':=
 (rfind_any a n cap fs name w hv hn hs ht).mono XX4ed
theorem hosts_old (nh mh:Bool) (h:List ByteArray) (h0:h.length=0) (hn:nh=true):hostsV nh mh 1 h=0:=by obtain rfl:=DX h0;rw [hosts_none,hn];rfl
section
attribute [local go_sem] A8
theorem rhosts_any (p:Nat) (hp:p<4294967296) (minor:Int) (a:Option Addr) (n cap:Nat) (fs:List Fld) (w:World) (hv:Flds w a n fs) (hn:n<=1000000000) (hs:∀f∈fs,f.1.size<=1000000000/\f.2.size<=1000000000) :
 Calls Mm 233 #[ZE Z5 (p:Nat),ZE Z7 minor,.slice a n cap] w λe w'=>e=.returned (ZE Z7 (hostsV (Hs p 15) (Hs p 16) minor (find fs hostN)))/\Below w.heap.size w w':=by
 have HF:=Dl (rfind_at a n cap fs ⟨#[72,111,115,116]⟩ w hv hn (λf hf=>(hs f hf).1) ZX)
 have H15:=Dl (λw=>Hu p hp 15 w)
 have H16:=Dl (λw=>Hu p hp 16 w);have hsz:=find_sizes fs ⟨#[72,111,115,116]⟩ 1000000000 (λf hf=>(hs f hf).2);have hle:=find_le fs ⟨#[72,111,115,116]⟩;rw [hv.1] at hle;have HT:=Dl (λv (hv:v.size<=1000000000) w=>Tgt.rhost_any v w hv);obtain ⟨R,hR⟩:∃R,hostsV (Hs p 15) (Hs p 16) minor (find fs ⟨#[72,111,115,116]⟩)=R:=⟨_,rfl⟩;rw [show hostsV (Hs p 15) (Hs p 16) minor (find fs hostN)=R from hR];clear hv hs hp;generalize find fs ⟨#[72,111,115,116]⟩=H at *;obtain ⟨nh,hnh⟩:∃nh,Hs p 15=nh:=⟨_,rfl⟩;rw [hnh] at H15 hR;obtain ⟨mh,hmh⟩:∃mh,Hs p 16=mh:=⟨_,rfl⟩;rw [hmh] at H16 hR;clear hmh hnh;obtain ⟨m,hm⟩:∃m,H.length=m:=⟨_,rfl⟩;rw [hm] at HF hle
 have HSZ:=Dl (λk (hk:k<m)=>show (H[k]?.getD Bp).size<=1000000000 by
  rw [Et ZZ]
  exact hsz _ (EB _))
 have HM:=Dl hm;clear hsz;by_cases hA:minor=1/\m=0/\nh=false
 ·obtain ⟨rfl,rfl,rfl⟩:=hA;obtain rfl:=DX hm;rw [hosts_none] at hR
  replace hR:R=400:=hR.symm
  subst hR;clear hm HSZ HM HT;go_enter Tryz.func233,Tryz.ntmps233
  go_wp2_with (first
   |(go_at_call 102;with_reducible refine (HF.out).mono ?_;rintro e w1 ⟨b,c,rfl,hS,hb⟩;clear hS)
   |(go_at_call 44;with_reducible refine Cm (H15.out _) ?_))
  go_ret;exact ⟨rfl,hb⟩
 by_cases hB:1<m/\mh=false
 ·obtain ⟨h1,rfl⟩:=hB;rw [hosts_many nh minor H ZZ] at hR;subst hR;have t0:((m:Int)==0)=false:=ZM.2 ZZ;have t1:(1:Int)<(m:Int):=ZZ;clear hm hA HSZ HM HT;rcases (by omega:minor=1∨¬minor=1) with rfl | h2;all_goals
   try (have t2:(minor==1)=false:=ZM.2 h2)
   go_enter Tryz.func233,Tryz.ntmps233
   go_wp2_with (first
    |(go_at_call 102;with_reducible refine (HF.out).mono ?_;rintro e w1 ⟨b,c,rfl,hS,hb⟩;clear hS)
    |(go_at_call 44;with_reducible refine Cm (H16.out _) ?_))
   go_ret;exact ⟨rfl,hb⟩
 have hR2:R=if (H.all λv=>Jl v.data.toList)=true then 0 else 400:=by
  by_cases h10:minor=1/\m=0
  ·obtain ⟨rfl,rfl⟩:=h10;cases nh
   ·exact ZG ⟨rfl,rfl,rfl⟩ hA
   ·rw [←hR,hosts_old true mh H hm rfl,DX hm];rfl
  ·rw [←hR]
   exact hosts_loop nh mh minor H (by rw [hm];exact h10) (by
    rcases (by omega:m<=1∨1<m) with h | h
    ·exact .inl ZZ
    ·right;cases mh
     ·exact ZG ⟨h,rfl⟩ hB
     ·rfl)
 have HR:=Dl hR2;clear hR hR2 hm;have hcase:(m=0/\(¬minor=1∨(minor=1/\nh=true)))∨(m=1/\(¬minor=1∨minor=1))∨((1<m/\mh=true)/\(¬minor=1∨minor=1)):=by
  rcases (by omega:m=0∨m=1∨1<m) with h | h | h
  ·refine .inl ⟨h,?_⟩;by_cases h2:minor=1
   ·right;cases nh
    ·exact ZG ⟨h2,h,rfl⟩ hA
    ·exact ⟨h2,rfl⟩
   ·exact .inl h2
  ·exact .inr (.inl ⟨h,ZZ⟩)
  ·refine .inr (.inr ⟨⟨h,?_⟩,ZZ⟩);cases mh
   ·exact ZG ⟨h,rfl⟩ hB
   ·rfl
 clear hA hB;rcases hcase with ⟨h0,hmi⟩ | ⟨h0,hmi⟩ | ⟨⟨h0,rfl⟩,hmi⟩
 ·obtain rfl:=h0;have H3:=Dl (show R=0 from by rw [HR.out,DX HM.out];rfl);rcases hmi with h2 | ⟨rfl,rfl⟩;all_goals
   try (have t2:(minor==1)=false:=ZM.2 h2)
   go_enter Tryz.func233,Tryz.ntmps233
   go_wp2_with (first
    |(go_at_call 102;with_reducible refine (HF.out).mono ?_;rintro e w1 ⟨b,c,rfl,hS,hb⟩;clear hS
      have HB:=Dl hb;clear hb)
    |(go_at_call 44;with_reducible refine Cm (H15.out _) ?_))
   go_loopw [8] (λi wr=>i=ZE Z7 0/\wr=w1) (λi _=>0)
   case atStart=>exact ⟨rfl,rfl⟩
   case round=>obtain ⟨rfl,rfl⟩:=hrel;go_wp2_with fail;go_ret;exact ⟨by rw [H3.out];rfl,HB.out⟩
 all_goals
  have t0:((m:Int)==0)=false:=ZM.2 ZZ;first
   |(have t1:(1:Int)<(m:Int):=ZZ)
   |(have t1:¬(1:Int)<(m:Int):=ZZ)
  clear h0;rcases hmi with h2 | rfl;all_goals
   try (have t2:(minor==1)=false:=ZM.2 h2)
   go_enter Tryz.func233,Tryz.ntmps233
   go_wp2_with (first
    |(go_at_call 102;with_reducible refine (HF.out).mono ?_;rintro e w1 ⟨b,c,rfl,hS,hb⟩
      have HS:=Dl hS;have HB:=Dl hb;clear hS hb)
    |(go_at_call 44;with_reducible refine Cm (H16.out _) ?_))
   go_loopw [8] (λi wr=>∃k:Nat,k<=m/\i=ZE Z7 k/\Hid (Below w1.heap.size w1 wr)/\Hid ((H.take k).all (λv=>Jl v.data.toList)=true)) (λi _=>m-(intOf i).toNat)
   case atStart=>exact ⟨0,Gz _,rfl,Dl (AE _ _),Dl rfl⟩
   case round=>
    obtain ⟨k,hk,rfl,hbr,H1⟩:=hrel;rcases Gp k m with hlt | hge
    ·obtain ⟨bl,off,rfl,hbl,hc⟩:=(HS.out.below hbr.out).2 ZZ;have hck:=hc k hlt
     have HN:=Dl (take_all_snoc (λv:ByteArray=>Jl v.data.toList) Bp H k (by rw [HM.out];exact hlt))
     have HZ:=Dl (all_of_miss (λv:ByteArray=>Jl v.data.toList) Bp H k (by rw [HM.out];exact hlt));have HC:=Dl (HT.out _ (HSZ.out k hlt));clear hc;generalize H[k]?.getD Bp=x at *;have i1:(k:Int)<(m:Int):=ZZ;generalize Jl x.data.toList=q at *;cases q with
     | true=>
       have H2:=Dl (show (H.take (k+1)).all (λv=>Jl v.data.toList)=true by rw [HN.out,H1.out];rfl);clear HN HZ;go_wp2_with (go_at_call 230;with_reducible refine (HC.out _).mono ?_;rintro e w2 ⟨rfl,hb⟩);exact XXfTh
     | false=>
       have H2:=Dl (show R=400 by rw [HR.out,HZ.out rfl];rfl);clear HN HZ;go_wp2_with (go_at_call 230;with_reducible refine (HC.out _).mono ?_;rintro e w2 ⟨rfl,hb⟩);exact XXteq
    ·exact XXCdJ
end
end Frm
theorem XXf83 {P:Prop} (h:P:=by (simp [results,Tryz.results211,go_sem,d0,d1]);first|done|fail):P:=h
theorem XX667 {P:Prop} (h:P:=by simp [results,Tryz.results211,go_sem,d0,d1]):P:=h
namespace Frm
open Base Txt
section
attribute [local go_sem] A8
theorem XXXZf {P:Prop} (h:P:=by
 go_enter JT,LB
 go_wp2_with (first
  |(go_at_call 44;with_reducible refine Cm (H19.out _) ?_)
  |(go_at_call 44;with_reducible refine Cm (H20.out _) ?_)
  |(go_at_call 44;with_reducible refine Cm (H21.out _) ?_)
  |(go_at_call 44;with_reducible refine Cm (H22.out _) ?_)
  |(go_at_call 235;(with_reducible refine (HL.out _ _ _ HS2.out).mono ?_);rintro e w5 ⟨rfl,hb⟩
    replace HK:=Dl (HK.out.step hb)
    (try clear q3 q8 c0 c1 z0 z1)
    obtain ⟨q3,q8,⟨c0,c1,z0,z1⟩,hlt,hbk⟩:=HK.out;clear hlt hbk hb)
  |(go_at_call 234;(with_reducible refine (HW.out _ _ _ HS1.out).mono ?_);rintro e w4 ⟨rfl,hb⟩
    replace HK:=Dl (HK.out.step hb)
    replace HS1:=Dl (HS1.out.below hb)
    replace HS2:=Dl (HS2.out.below hb)
    (try clear q3 q8 c0 c1 z0 z1)
    obtain ⟨q3,q8,⟨c0,c1,z0,z1⟩,hlt,hbk⟩:=HK.out;clear hlt hbk hb)
  |(go_at_call 102;(with_reducible refine (HF2.out _ HK.out.b).mono ?_);rintro e w3 ⟨b3,k3,rfl,hS,hb⟩
    replace HK:=Dl (HK.out.step hb)
    replace HS1:=Dl (HS1.out.below hb)
    have HS2:=Dl hS;clear hS
    (try clear q3 q8 c0 c1 z0 z1)
    obtain ⟨q3,q8,⟨c0,c1,z0,z1⟩,hlt,hbk⟩:=HK.out;clear hlt hbk hb)
  |(go_at_call 102;(with_reducible refine (HF1.out _ HK.out.b).mono ?_);rintro e w2 ⟨b2,k2,rfl,hS,hb⟩
    replace HK:=Dl (HK.out.step hb)
    have HS1:=Dl hS;clear hS
    (try clear q3 q8 c0 c1 z0 z1)
    obtain ⟨q3,q8,⟨c0,c1,z0,z1⟩,hlt,hbk⟩:=HK.out;clear hlt hbk hb)
  |(go_at_call 233;(with_reducible refine (HH.out _ HK0.out.b).mono ?_);rintro e w1 ⟨rfl,hb⟩
    have HK:=Dl (HK0.out.step hb)
    (try clear q3 q8 c0 c1 z0 z1)
    obtain ⟨q3,q8,⟨c0,c1,z0,z1⟩,hlt,hbk⟩:=HK.out;clear hlt hbk hb))
 obtain ⟨W,hW,⟨d0,d1,_,_⟩,hbW⟩:=Gb.put HK.out.f HK.out.b (Gj _) 0 0;rw [hW];first
  |exact ZF (v:=.tuple #[fr 0 0,.int .i64 Z]) XXf83 rfl ⟨rfl,hbW⟩
  |exact ZF (v:=.tuple #[fr 0 0,.int .i64 le]) XXf83 rfl ⟨rfl,hbW⟩
  |exact ZF (v:=.tuple #[fr 0 0,.int .i64 400]) XXf83 rfl ⟨rfl,hbW⟩):P:=h
theorem XXkmg {P:Prop} (h:P:=by
 go_enter JT,LB
 go_wp2_with (first
  |(go_at_call 44;with_reducible refine Cm (H19.out _) ?_)
  |(go_at_call 44;with_reducible refine Cm (H20.out _) ?_)
  |(go_at_call 44;with_reducible refine Cm (H21.out _) ?_)
  |(go_at_call 44;with_reducible refine Cm (H22.out _) ?_)
  |(go_at_call 235;(with_reducible refine (HL.out _ _ _ HS2.out).mono ?_);rintro e w5 ⟨rfl,hb⟩
    replace HK:=Dl (HK.out.step hb)
    (try clear q3 q8 c0 c1 z0 z1)
    obtain ⟨q3,q8,⟨c0,c1,z0,z1⟩,hlt,hbk⟩:=HK.out;clear hlt hbk hb)
  |(go_at_call 234;(with_reducible refine (HW.out _ _ _ HS1.out).mono ?_);rintro e w4 ⟨rfl,hb⟩
    replace HK:=Dl (HK.out.step hb)
    replace HS1:=Dl (HS1.out.below hb)
    replace HS2:=Dl (HS2.out.below hb)
    (try clear q3 q8 c0 c1 z0 z1)
    obtain ⟨q3,q8,⟨c0,c1,z0,z1⟩,hlt,hbk⟩:=HK.out;clear hlt hbk hb)
  |(go_at_call 102;(with_reducible refine (HF2.out _ HK.out.b).mono ?_);rintro e w3 ⟨b3,k3,rfl,hS,hb⟩
    replace HK:=Dl (HK.out.step hb)
    replace HS1:=Dl (HS1.out.below hb)
    have HS2:=Dl hS;clear hS
    (try clear q3 q8 c0 c1 z0 z1)
    obtain ⟨q3,q8,⟨c0,c1,z0,z1⟩,hlt,hbk⟩:=HK.out;clear hlt hbk hb)
  |(go_at_call 102;(with_reducible refine (HF1.out _ HK.out.b).mono ?_);rintro e w2 ⟨b2,k2,rfl,hS,hb⟩
    replace HK:=Dl (HK.out.step hb)
    have HS1:=Dl hS;clear hS
    (try clear q3 q8 c0 c1 z0 z1)
    obtain ⟨q3,q8,⟨c0,c1,z0,z1⟩,hlt,hbk⟩:=HK.out;clear hlt hbk hb)
  |(go_at_call 233;(with_reducible refine (HH.out _ HK0.out.b).mono ?_);rintro e w1 ⟨rfl,hb⟩
    have HK:=Dl (HK0.out.step hb)
    (try clear q3 q8 c0 c1 z0 z1)
    obtain ⟨q3,q8,⟨c0,c1,z0,z1⟩,hlt,hbk⟩:=HK.out;clear hlt hbk hb))
 obtain ⟨W,hW,⟨d0,d1,_,_⟩,hbW⟩:=Gb.put HK.out.f HK.out.b (Gj _) 1 ln;rw [hW]
 exact ZF (v:=Z8 #[fr 1 ln,ZE Z7 0]) XX667 rfl ⟨rfl,hbW⟩):P:=h
theorem rdecide_any (p:Nat) (hp:p<4294967296) (x0 x1 x2 x3 x4 x5 x6 x7:Int) (ch od:Bool) (hx:x3<=9223372036854775807) (minor:Int) (a:Option Addr) (n cap:Nat) (fs:List Fld) (w:World) (hv:Flds w a n fs) (hn:n<=500) (hs:∀f∈fs,f.1.size<=1000000/\f.2.size<=1000000) :
 Calls Mm 211 #[ZE Z5 (p:Nat),Bnd.bnd x0 x1 x2 x3 x4 x5 x6 x7 ch od,ZE Z7 minor,.slice a n cap] w λe w'=>e=.returned (Z8 #[fr (decideV (clOf p) ch x3 minor fs).1 (decideV (clOf p) ch x3 minor fs).2.1,ZE Z7 (decideV (clOf p) ch x3 minor fs).2.2])/\Below w.heap.size w w':=by
 have HH:=Dl (λw' hb=>rhosts_any p hp minor a n cap fs w' (hv.below (w':=w') hb) ZZ (λf hf=>by have:=hs f hf;omega))
 have HF1:=Dl (λw' hb=>rfind_at a n cap fs ⟨#[84,114,97,110,115,102,101,114,45,69,110,99,111,100,105,110,103]⟩ w' (hv.below (w':=w') hb) ZZ (λf hf=>by have:=hs f hf;omega) ZX);have HF2:=Dl (λw' hb=>rfind_at a n cap fs ⟨#[67,111,110,116,101,110,116,45,76,101,110,103,116,104]⟩ w' (hv.below (w':=w') hb) ZZ (λf hf=>by have:=hs f hf;omega) ZX);have hrm:∀name,room (find fs name)<=1000000000:=λname=>by exact XXocm
 have hrm1:=hrm ⟨#[84,114,97,110,115,102,101,114,45,69,110,99,111,100,105,110,103]⟩;have hrm2:=hrm ⟨#[67,111,110,116,101,110,116,45,76,101,110,103,116,104]⟩
 have H19:=Dl (λw=>Hu p hp 19 w)
 have H20:=Dl (λw=>Hu p hp 20 w)
 have H21:=Dl (λw=>Hu p hp 21 w);have H22:=Dl (λw=>Hu p hp 22 w);obtain ⟨R,hR⟩:∃R,decideV (clOf p) ch x3 minor fs=R:=⟨_,rfl⟩;rw [hR]
 replace hR:bodyV (hostsV (Hs p 15) (Hs p 16) minor (find fs ⟨#[72,111,115,116]⟩)) ch
  (winsV (Hs p 20) (Hs p 19) (Hs p 21) (Hs p 22) minor (find fs ⟨#[84,114,97,110,115,102,101,114,45,69,110,99,111,100,105,110,103]⟩).length (find fs ⟨#[67,111,110,116,101,110,116,45,76,101,110,103,116,104]⟩).length (coding (Hs p 17) (Hs p 18) (find fs ⟨#[84,114,97,110,115,102,101,114,45,69,110,99,111,100,105,110,103]⟩)))
  (lengthV (Hs p 23) (Hs p 24) (Hs p 25) (Hs p 26) x3 (find fs ⟨#[67,111,110,116,101,110,116,45,76,101,110,103,116,104]⟩))=R:=hR
 rw [show find fs hostN=find fs ⟨#[72,111,115,116]⟩ from rfl] at HH;generalize find fs ⟨#[72,111,115,116]⟩=LH at *;generalize find fs ⟨#[84,114,97,110,115,102,101,114,45,69,110,99,111,100,105,110,103]⟩=LT at *;generalize find fs ⟨#[67,111,110,116,101,110,116,45,76,101,110,103,116,104]⟩=LC at *
 have HW:=Dl (λa' c' w' hS=>rcoding_any p hp a' LT.length c' LT w' hS hrm1);have HL:=Dl (λa' c' w' hS=>rlength_any p hp x3 hx a' LC.length c' LC w' hS hrm2);generalize hostsV (Hs p 15) (Hs p 16) minor LH=Z at *;generalize lengthV (Hs p 23) (Hs p 24) (Hs p 25) (Hs p 26) x3 LC=LV at *;generalize coding (Hs p 17) (Hs p 18) LT=cod at *;generalize LT.length=nT at *;generalize LC.length=nC at *;generalize Hs p 19=ti at *;generalize Hs p 20=td at *;generalize Hs p 21=tw at *;generalize Hs p 22=lw at *;obtain ⟨ln,le⟩:=LV;unfold bodyV fixedV winsV at hR;simp only at hR HL;clear hrm hrm1 hrm2 hv hs hp hx hn;have HK0:=Dl (Kp.new w 29 214 x0 x1 x2 x3 x4 x5 x6 x7 ch od);by_cases hZ:Z≠0
 ·rw [ZN hZ] at hR;subst hR;have tz:(Z==0)=false:=ZM.2 hZ;clear hZ;exact XXXZf
 rw [ZO hZ] at hR;obtain rfl:Z=0:=B7.1 hZ;clear hZ;by_cases hT:nT=0
 ·subst hT;rw [ZN rfl] at hR;rw [ZO ZX,ZO ZX] at hR;have hcase:(le=0/\R=(1,ln,0))∨((le==0)=false/\R=(0,0,le)):=by
   exact XXELR
  clear hR;rcases hcase with ⟨rfl,rfl⟩ | ⟨tz,rfl⟩
  ·exact XXkmg
  ·exact XXXZf
 rw [ZO hT] at hR;have tT:(0:Int)<(nT:Int):=ZZ;clear hT;by_cases hO:minor=0/\td=false
 ·obtain ⟨rfl,rfl⟩:=hO;rw [ZN (show (decide ((0:Int)=0) && !false)=true from rfl),ZN ZX] at hR;subst hR;exact XXXZf
 have hO2:(minor=0/\td=true)∨(minor==0)=false:=by exact XX2eG
 rw [ZO (show¬(decide (minor=0) && !td)=true by
  rintro h;rw [AM,ZJ,AX] at h
  exact hO h)] at hR
 clear hO;cases cod with
 | false=>
   rw [ZN (show false=false from rfl)] at hR;cases ti with
   | false=>
     rw [ZO (show¬false=true by decide)] at hR;rw [ZN ZX] at hR;subst hR;rcases hO2 with ⟨rfl,rfl⟩ | t1;all_goals
      go_enter JT,LB
      go_wp2_with (first
       |(go_at_call 44;with_reducible refine Cm (H19.out _) ?_)
       |(go_at_call 44;with_reducible refine Cm (H20.out _) ?_)
       |(go_at_call 44;with_reducible refine Cm (H21.out _) ?_)
       |(go_at_call 44;with_reducible refine Cm (H22.out _) ?_)
       |(go_at_call 235;(with_reducible refine (HL.out _ _ _ HS2.out).mono ?_);rintro e w5 ⟨rfl,hb⟩
         replace HK:=Dl (HK.out.step hb)
         (try clear q3 q8 c0 c1 z0 z1)
         obtain ⟨q3,q8,⟨c0,c1,z0,z1⟩,hlt,hbk⟩:=HK.out;clear hlt hbk hb)
       |(go_at_call 234;(with_reducible refine (HW.out _ _ _ HS1.out).mono ?_);rintro e w4 ⟨rfl,hb⟩
         replace HK:=Dl (HK.out.step hb)
         replace HS1:=Dl (HS1.out.below hb)
         replace HS2:=Dl (HS2.out.below hb)
         (try clear q3 q8 c0 c1 z0 z1)
         obtain ⟨q3,q8,⟨c0,c1,z0,z1⟩,hlt,hbk⟩:=HK.out;clear hlt hbk hb)
       |(go_at_call 102;(with_reducible refine (HF2.out _ HK.out.b).mono ?_);rintro e w3 ⟨b3,k3,rfl,hS,hb⟩
         replace HK:=Dl (HK.out.step hb)
         replace HS1:=Dl (HS1.out.below hb)
         have HS2:=Dl hS;clear hS
         (try clear q3 q8 c0 c1 z0 z1)
         obtain ⟨q3,q8,⟨c0,c1,z0,z1⟩,hlt,hbk⟩:=HK.out;clear hlt hbk hb)
       |(go_at_call 102;(with_reducible refine (HF1.out _ HK.out.b).mono ?_);rintro e w2 ⟨b2,k2,rfl,hS,hb⟩
         replace HK:=Dl (HK.out.step hb)
         have HS1:=Dl hS;clear hS
         (try clear q3 q8 c0 c1 z0 z1)
         obtain ⟨q3,q8,⟨c0,c1,z0,z1⟩,hlt,hbk⟩:=HK.out;clear hlt hbk hb)
       |(go_at_call 233;(with_reducible refine (HH.out _ HK0.out.b).mono ?_);rintro e w1 ⟨rfl,hb⟩
         have HK:=Dl (HK0.out.step hb)
         (try clear q3 q8 c0 c1 z0 z1)
         obtain ⟨q3,q8,⟨c0,c1,z0,z1⟩,hlt,hbk⟩:=HK.out;clear hlt hbk hb))
      obtain ⟨W,hW,⟨d0,d1,_,_⟩,hbW⟩:=Gb.put HK.out.f HK.out.b (Gj _) 0 0;rw [hW];exact ZF (v:=Z8 #[fr 0 0,ZE Z7 501]) XX667 rfl ⟨rfl,hbW⟩
   | true=>
     rw [ZN (show true=true from rfl),ZO ZX,ZO ZX] at hR;rcases hO2 with ⟨rfl,rfl⟩ | t1;all_goals
      have hcase:(le=0/\R=(1,ln,0))∨((le==0)=false/\R=(0,0,le)):=by exact XXELR
      clear hR;rcases hcase with ⟨rfl,rfl⟩ | ⟨tz,rfl⟩
      ·exact XXkmg
      ·exact XXXZf
 | true=>
   rw [ZO (show¬true=false by decide)] at hR;by_cases hB:0<nC/\tw=false
   ·obtain ⟨h0,rfl⟩:=hB;rw [ZN (show (decide (0<nC) && !false)=true by rw [ZK h0];rfl)] at hR;have t2:((nC:Int)==0)=false:=ZM.2 ZZ;clear h0;cases lw with
    | false=>
      rw [ZO (show¬false=true by decide)] at hR;rw [ZN ZX] at hR;subst hR;rcases hO2 with ⟨rfl,rfl⟩ | t1;all_goals
       go_enter JT,LB
       go_wp2_with (first
        |(go_at_call 44;with_reducible refine Cm (H19.out _) ?_)
        |(go_at_call 44;with_reducible refine Cm (H20.out _) ?_)
        |(go_at_call 44;with_reducible refine Cm (H21.out _) ?_)
        |(go_at_call 44;with_reducible refine Cm (H22.out _) ?_)
        |(go_at_call 235;(with_reducible refine (HL.out _ _ _ HS2.out).mono ?_);rintro e w5 ⟨rfl,hb⟩
          replace HK:=Dl (HK.out.step hb)
          (try clear q3 q8 c0 c1 z0 z1)
          obtain ⟨q3,q8,⟨c0,c1,z0,z1⟩,hlt,hbk⟩:=HK.out;clear hlt hbk hb)
        |(go_at_call 234;(with_reducible refine (HW.out _ _ _ HS1.out).mono ?_);rintro e w4 ⟨rfl,hb⟩
          replace HK:=Dl (HK.out.step hb)
          replace HS1:=Dl (HS1.out.below hb)
          replace HS2:=Dl (HS2.out.below hb)
          (try clear q3 q8 c0 c1 z0 z1)
          obtain ⟨q3,q8,⟨c0,c1,z0,z1⟩,hlt,hbk⟩:=HK.out;clear hlt hbk hb)
        |(go_at_call 102;(with_reducible refine (HF2.out _ HK.out.b).mono ?_);rintro e w3 ⟨b3,k3,rfl,hS,hb⟩
          replace HK:=Dl (HK.out.step hb)
          replace HS1:=Dl (HS1.out.below hb)
          have HS2:=Dl hS;clear hS
          (try clear q3 q8 c0 c1 z0 z1)
          obtain ⟨q3,q8,⟨c0,c1,z0,z1⟩,hlt,hbk⟩:=HK.out;clear hlt hbk hb)
        |(go_at_call 102;(with_reducible refine (HF1.out _ HK.out.b).mono ?_);rintro e w2 ⟨b2,k2,rfl,hS,hb⟩
          replace HK:=Dl (HK.out.step hb)
          have HS1:=Dl hS;clear hS
          (try clear q3 q8 c0 c1 z0 z1)
          obtain ⟨q3,q8,⟨c0,c1,z0,z1⟩,hlt,hbk⟩:=HK.out;clear hlt hbk hb)
        |(go_at_call 233;(with_reducible refine (HH.out _ HK0.out.b).mono ?_);rintro e w1 ⟨rfl,hb⟩
          have HK:=Dl (HK0.out.step hb)
          (try clear q3 q8 c0 c1 z0 z1)
          obtain ⟨q3,q8,⟨c0,c1,z0,z1⟩,hlt,hbk⟩:=HK.out;clear hlt hbk hb))
       obtain ⟨W,hW,⟨d0,d1,_,_⟩,hbW⟩:=Gb.put HK.out.f HK.out.b (Gj _) 0 0;rw [hW];exact ZF (v:=Z8 #[fr 0 0,ZE Z7 400]) XX667 rfl ⟨rfl,hbW⟩
    | true=>
      rw [ZN (show true=true from rfl),ZO ZX,ZO ZX] at hR;rcases hO2 with ⟨rfl,rfl⟩ | t1;all_goals
       have hcase:(le=0/\R=(1,ln,0))∨((le==0)=false/\R=(0,0,le)):=by exact XXELR
       clear hR;rcases hcase with ⟨rfl,rfl⟩ | ⟨tz,rfl⟩
       ·exact XXkmg
       ·exact XXXZf
   ·rw [ZO (show¬(decide (0<nC) && !tw)=true by
     rintro h;rw [AM,ZJ,AX] at h
     exact hB h),ZO ZX,ZN (show true=true from rfl)] at hR
    have hB2:(nC=0)∨(0<nC/\tw=true):=by
     rcases Gg nC with h | h
     ·exact .inl h
     ·right;cases tw
      ·exact ZG ⟨h,rfl⟩ hB
      ·exact ⟨h,rfl⟩
    clear hB;cases ch with
    | false=>
      rw [ZO ZX] at hR;subst hR;rcases hO2 with ⟨rfl,rfl⟩ | t1<;>rcases hB2 with rfl | ⟨h0,rfl⟩;all_goals
       try (have t2:((nC:Int)==0)=false:=ZM.2 ZZ)
       go_enter JT,LB
       go_wp2_with (first
        |(go_at_call 44;with_reducible refine Cm (H19.out _) ?_)
        |(go_at_call 44;with_reducible refine Cm (H20.out _) ?_)
        |(go_at_call 44;with_reducible refine Cm (H21.out _) ?_)
        |(go_at_call 44;with_reducible refine Cm (H22.out _) ?_)
        |(go_at_call 235;(with_reducible refine (HL.out _ _ _ HS2.out).mono ?_);rintro e w5 ⟨rfl,hb⟩
          replace HK:=Dl (HK.out.step hb)
          (try clear q3 q8 c0 c1 z0 z1)
          obtain ⟨q3,q8,⟨c0,c1,z0,z1⟩,hlt,hbk⟩:=HK.out;clear hlt hbk hb)
        |(go_at_call 234;(with_reducible refine (HW.out _ _ _ HS1.out).mono ?_);rintro e w4 ⟨rfl,hb⟩
          replace HK:=Dl (HK.out.step hb)
          replace HS1:=Dl (HS1.out.below hb)
          replace HS2:=Dl (HS2.out.below hb)
          (try clear q3 q8 c0 c1 z0 z1)
          obtain ⟨q3,q8,⟨c0,c1,z0,z1⟩,hlt,hbk⟩:=HK.out;clear hlt hbk hb)
        |(go_at_call 102;(with_reducible refine (HF2.out _ HK.out.b).mono ?_);rintro e w3 ⟨b3,k3,rfl,hS,hb⟩
          replace HK:=Dl (HK.out.step hb)
          replace HS1:=Dl (HS1.out.below hb)
          have HS2:=Dl hS;clear hS
          (try clear q3 q8 c0 c1 z0 z1)
          obtain ⟨q3,q8,⟨c0,c1,z0,z1⟩,hlt,hbk⟩:=HK.out;clear hlt hbk hb)
        |(go_at_call 102;(with_reducible refine (HF1.out _ HK.out.b).mono ?_);rintro e w2 ⟨b2,k2,rfl,hS,hb⟩
          replace HK:=Dl (HK.out.step hb)
          have HS1:=Dl hS;clear hS
          (try clear q3 q8 c0 c1 z0 z1)
          obtain ⟨q3,q8,⟨c0,c1,z0,z1⟩,hlt,hbk⟩:=HK.out;clear hlt hbk hb)
        |(go_at_call 233;(with_reducible refine (HH.out _ HK0.out.b).mono ?_);rintro e w1 ⟨rfl,hb⟩
          have HK:=Dl (HK0.out.step hb)
          (try clear q3 q8 c0 c1 z0 z1)
          obtain ⟨q3,q8,⟨c0,c1,z0,z1⟩,hlt,hbk⟩:=HK.out;clear hlt hbk hb))
       obtain ⟨W,hW,⟨d0,d1,_,_⟩,hbW⟩:=Gb.put HK.out.f HK.out.b (Gj _) 0 0;rw [hW];exact ZF (v:=Z8 #[fr 0 0,ZE Z7 501]) XX667 rfl ⟨rfl,hbW⟩
    | true=>
      rw [ZN rfl] at hR;subst hR;rcases hO2 with ⟨rfl,rfl⟩ | t1<;>rcases hB2 with rfl | ⟨h0,rfl⟩;all_goals
       try (have t2:((nC:Int)==0)=false:=ZM.2 ZZ)
       go_enter JT,LB
       go_wp2_with (first
        |(go_at_call 44;with_reducible refine Cm (H19.out _) ?_)
        |(go_at_call 44;with_reducible refine Cm (H20.out _) ?_)
        |(go_at_call 44;with_reducible refine Cm (H21.out _) ?_)
        |(go_at_call 44;with_reducible refine Cm (H22.out _) ?_)
        |(go_at_call 235;(with_reducible refine (HL.out _ _ _ HS2.out).mono ?_);rintro e w5 ⟨rfl,hb⟩
          replace HK:=Dl (HK.out.step hb)
          (try clear q3 q8 c0 c1 z0 z1)
          obtain ⟨q3,q8,⟨c0,c1,z0,z1⟩,hlt,hbk⟩:=HK.out;clear hlt hbk hb)
        |(go_at_call 234;(with_reducible refine (HW.out _ _ _ HS1.out).mono ?_);rintro e w4 ⟨rfl,hb⟩
          replace HK:=Dl (HK.out.step hb)
          replace HS1:=Dl (HS1.out.below hb)
          replace HS2:=Dl (HS2.out.below hb)
          (try clear q3 q8 c0 c1 z0 z1)
          obtain ⟨q3,q8,⟨c0,c1,z0,z1⟩,hlt,hbk⟩:=HK.out;clear hlt hbk hb)
        |(go_at_call 102;(with_reducible refine (HF2.out _ HK.out.b).mono ?_);rintro e w3 ⟨b3,k3,rfl,hS,hb⟩
          replace HK:=Dl (HK.out.step hb)
          replace HS1:=Dl (HS1.out.below hb)
          have HS2:=Dl hS;clear hS
          (try clear q3 q8 c0 c1 z0 z1)
          obtain ⟨q3,q8,⟨c0,c1,z0,z1⟩,hlt,hbk⟩:=HK.out;clear hlt hbk hb)
        |(go_at_call 102;(with_reducible refine (HF1.out _ HK.out.b).mono ?_);rintro e w2 ⟨b2,k2,rfl,hS,hb⟩
          replace HK:=Dl (HK.out.step hb)
          have HS1:=Dl hS;clear hS
          (try clear q3 q8 c0 c1 z0 z1)
          obtain ⟨q3,q8,⟨c0,c1,z0,z1⟩,hlt,hbk⟩:=HK.out;clear hlt hbk hb)
        |(go_at_call 233;(with_reducible refine (HH.out _ HK0.out.b).mono ?_);rintro e w1 ⟨rfl,hb⟩
          have HK:=Dl (HK0.out.step hb)
          (try clear q3 q8 c0 c1 z0 z1)
          obtain ⟨q3,q8,⟨c0,c1,z0,z1⟩,hlt,hbk⟩:=HK.out;clear hlt hbk hb))
       obtain ⟨W,hW,⟨d0,d1,_,_⟩,hbW⟩:=Gb.put HK.out.f HK.out.b (Gj _) 2 0;rw [hW];exact ZF (v:=Z8 #[fr 2 0,ZE Z7 0]) XX667 rfl ⟨rfl,hbW⟩
end
end Frm
open _root_.Go.ByteArray renaming toList_eq→C3
open _root_.UInt8 renaming ofNat→NG
open Frm renaming clOf→Cp
open Tgt renaming cutAt→Jg
open Tree renaming assign→Jq
namespace Par
open Base Txt Mem
section
attribute [local go_sem] A8
variable {w:World} {B:Zone} {g q:Nat} {v f bd t o:Value} {p:Nat} {b:Bd} {s:S}
theorem XXAxS {P:Prop} (h:P:=by refine BI rfl (λev w1 hR hb hh=>?_);have e0:=hR.old 0 rfl;simp only [Am,E6,Ep,Er,GW] at e0;have q0:=(HQ.out.below hb).c 0 _ rfl;have q1:=(HQ.out.below hb).c 1 _ rfl;have q2:=(HQ.out.below hb).c 2 _ rfl;have q3:=(HQ.out.below hb).c 3 _ rfl;have q4:=(HQ.out.below hb).c 4 _ rfl;have q5:=(HQ.out.below hb).c 5 _ rfl;have q6:=(HQ.out.below hb).c 6 _ rfl;have q7:=(HQ.out.below hb).c 7 _ rfl;have q8:=(HQ.out.below hb).c 8 _ rfl;have q9:=(HQ.out.below hb).c 9 _ rfl;have q10:=(HQ.out.below hb).c 10 _ rfl;have q15:=(HQ.out.below hb).c 15 _ rfl;have q16:=(HQ.out.below hb).c 16 _ rfl;exact Each.std):P:=h
theorem XXL5Q {P:Prop} (h:P:=by
 refine BI rfl (λev w1 hR hb hh=>?_);have e8:ev (.tmp 8)= _:=hh.at 0;have e12:ev (.tmp 12)= _:=hh.at 1;have e17:ev (.tmp 17)= _:=hh.at 2;have e22:ev (.tmp 22)= _:=hh.at 3;clear hh;have ef:=hR.func;refine BA 211 #[ZE Z5 (p:Int),Z9 #[ZE Z7 b.x0,ZE Z7 b.x1,ZE Z7 b.x2,ZE Z7 b.x3,ZE Z7 b.x4,ZE Z7 b.x5,ZE Z7 b.x6,ZE Z7 b.x7,ZB b.ch,ZB b.od],ZE Z7 s.r.k,.slice bf s.r.fs.length cf] ZU ((HZ.out w1 hb).mono ?_);rintro r w2 ⟨rfl,hb2⟩
 exact ⟨_,rfl,hb2,rfl⟩):P:=h
theorem XX8YT {P:Prop} (h:P:=by
 go_wp2_with (go_at_call 115;with_reducible refine HFA.out.mono ?_;rintro r w3 ⟨rfl,hP,hS⟩);go_end0;first
  |exact ⟨rfl,_,_,_,_,_,_,hP,(II HB.out).trans hS⟩
  |exact ⟨rfl,_,_,_,_,_,hP,(II HB.out).trans hS⟩):P:=h
theorem over_any (hp:p<4294967296) (h3:16<=b.x3/\b.x3<=1048576) (h:PR w B g q v f bd t o p b s) (hn:s.r.fs.length<=500) (hs:∀y∈s.r.fs,y.1.size<=1000000/\y.2.size<=1000000) (hout:s.out.length<=1000000000):Calls Mm 188 #[ptr g] w λr w'=>
 r=.returned (Z8 #[])/\∃q1 v1 f1 bd1 t1 o1,PR w' B g q1 v1 f1 bd1 t1 o1 p b (s.over p b)/\Step (blks g q v f bd t o) (blks g q1 v1 f1 bd1 t1 o1) w w':=by
 obtain ⟨A,c,e,hv⟩:=Flds.of_own h.own.F;obtain ⟨bf,cf,eb, -⟩:=FV h.own.F;subst eb;simp only [Value.slice.injEq,true_and] at e;obtain ⟨rfl,rfl⟩:=e;have H:=Dl h
 have HQ:=Dl ((h.drew 1).bk);have hvd:=hv.below (Az (AE w.heap.size w) 1);have hz:=λw2 (hb:Below (w.drewN 1).heap.size (w.drewN 1) w2)=>Frm.rdecide_any p hp b.x0 b.x1 b.x2 b.x3 b.x4 b.x5 b.x6 b.x7 b.ch b.od ZZ s.r.k _ _ cf s.r.fs w2 (hvd.below hb) hn hs;have HO:=Dl hout;clear h hn hs hout hv;rcases decide_facts (Cp p) b.ch b.x3 s.r.k s.r.fs with hD | ⟨n,hle,hD⟩ | ⟨e,he,hD⟩
 ·have HZ:=Dl (show∀w2,Below (w.drewN 1).heap.size (w.drewN 1) w2->Calls Mm 211 #[ZE Z5 (p:Int),Z9 #[ZE Z7 b.x0,ZE Z7 b.x1,ZE Z7 b.x2,ZE Z7 b.x3,ZE Z7 b.x4,ZE Z7 b.x5,ZE Z7 b.x6,ZE Z7 b.x7,ZB b.ch,ZB b.od],ZE Z7 s.r.k,.slice bf s.r.fs.length cf] w2 λr w'=>r=.returned (Z8 #[Z9 #[ZE Z7 2,ZE Z7 0],ZE Z7 0])/\Below w2.heap.size w2 w' from λw2 hb=>by have:=hz w2 hb;rw [hD] at this;exact this);have e:s.over p b={s with r:={s.r with ch:=true},st:=3,fresh:=true,rd:=nl p b.x0}:=by unfold S.over;rw [hD];rfl
  rw [e];clear hz hD e hvd;go_enter Tryz.func188,Tryz.ntmps188;go_upto_region 0 with fail
  go_cut [2,3] from 4 to 25 (λu c wx=>∃g2,u=ptr g2/\c=ZE Z7 0/\Hid (Below w.heap.size w wx)/\Hid (Hv wx g2 [ZE Z7 2,ZE Z7 0])/\Hid (w.heap.size<=g2))
  case first=>
   refine BP 23 [5,6,7,8,9,10,11,12,13,14,15,16,17,18,19,20,21,22,23,4,24,25,2] [eP g 0,eP g 0,eP g 0,eQ (ZE Z5 (p:Int)),eP g 0,eP g 0,eP g 1,eQ (Z9 #[ZE Z7 b.x0,ZE Z7 b.x1,ZE Z7 b.x2,ZE Z7 b.x3,ZE Z7 b.x4,ZE Z7 b.x5,ZE Z7 b.x6,ZE Z7 b.x7,ZB b.ch,ZB b.od]),eP g 0,eP g 0,eP g 13,eP g 15,eQ (ZE Z7 s.r.k),eP g 0,eP g 0,eP g 13,eP g 16,eQ (.slice bf s.r.fs.length cf),eQ (Z8 #[Z9 #[ZE Z7 2,ZE Z7 0],ZE Z7 0]),eQ (Z8 #[Z9 #[ZE Z7 2,ZE Z7 0],ZE Z7 0]),eQ (Z9 #[ZE Z7 2,ZE Z7 0]),eQ (ZE Z7 0),λv u=>∃g2,v=ptr g2/\w.heap.size<=g2/\Hv u g2 [ZE Z7 0,ZE Z7 0]] [] 2 (some 21) (.act 23 (.quiet 24 .done)) (.quiet 21 (.act 23 (.quiet 24 .done))) ZY ZY ZY ZY (λk0 h=>by cases h;kernel_rfl) (λ_ _ d _ _ h=>by cases d<;>exact h) ZV ZV ⟨BF _,BF _,BF _,BF _,BF _,BF _,BF _,BF _,BF _,BF _,BF _,BF _,BF _,BF _,BF _,BF _,BF _,BF _,BF _,BF _,BF _,BF _,((λ_ _ _ hb h=>by obtain ⟨g2,e1,h1,hB⟩:=h;exact ⟨g2,e1,h1,hB.below hb⟩)),trivial⟩ trivial ZV ?_ ?_ ?_
   ·refine ⟨?_,?_,?_,?_,?_,?_,?_,?_,?_,?_,?_,?_,?_,?_,?_,?_,?_,?_,?_,?_,?_,?_,?_,trivial⟩
    iterate 18·exact XXAxS
    ·exact XXL5Q
    iterate 3·exact XXAxS
    ·exact XXEhL
   ·intro g1 w2 hb hf;have z4:g1 4= _:=hf.at 19;have z24:g1 24= _:=hf.at 20;have z25:g1 25= _:=hf.at 21;have z2:=hf.at 22;clear hf;obtain ⟨g2,e2,hg2,hB2⟩:=z2;simp only [BM,Ab,F4,F7,F6];rw [z4,z24,z25,e2];simp only [Ju,Jw,Er,Ep];exact XXZHN
   ·intro k0 hk0 g1 w2 hb hf;cases hk0;have z4:g1 4= _:=hf.at 19;have z24:g1 24= _:=hf.at 20;have z2:=hf.at 22;clear hf;obtain ⟨g2,e2,hg2,hB2⟩:=z2;simp only [BM,Ab,F4,F7,F6];rw [z4,z24,e2];simp only [Ju,Jw,Er,Ep];refine Jx ZV (ZE Z7 0) (λ_ _=>by go_simp) ?_;simp only [Ab,F4,F7,F6];exact XXZHN
  case rest=>
  obtain ⟨g2,rfl,rfl,HB,HG,HG2⟩:=hcut;have H1:=Dl (H.out.below HB.out);clear HQ;obtain ⟨W0,hW0⟩:∃x,x=wc:=⟨_,rfl⟩;subst hW0;have y0:=HG.out.c 0 _ rfl;have y1:=HG.out.c 1 _ rfl
  have H2:=Dl (((H1.out.put 17 (ZB true) {s with r:={s.r with ch:=true}} rfl rfl rfl rfl rfl rfl).put 11 (ZE Z7 3) {s with r:={s.r with ch:=true},st:=3} rfl rfl rfl rfl rfl rfl).put 23 (ZB true) {s with r:={s.r with ch:=true},st:=3,fresh:=true} rfl rfl rfl rfl rfl rfl);have HS2:=Dl ((II HB.out (L:=blks g q v (.slice bf s.r.fs.length cf) bd t o)).trans (((IL g 17 (ZB true) ZW).trans (IL g 11 (ZE Z7 3) ZW)).trans (IL g 23 (ZB true) ZW)));have c11:=H1.out.cs.c11;have c17:=H1.out.cs.c17;have c23:=H1.out.cs.c23;have z11:=H1.out.marks 11;have z17:=H1.out.marks 17;have z23:=H1.out.marks 23;go_upto_region 6 with fail
  generalize ((W0.setCell ⟨g,17,none⟩ (ZB true)).setCell ⟨g,11,none⟩ (ZE Z7 3)).setCell ⟨g,23,none⟩ (ZB true)=W1 at *;clear c11 c17 c23 z11 z17 z23 H1 HB HG y0 y1;obtain ⟨S1,hS1⟩:∃S1:S,{s with r:={s.r with ch:=true},st:=3,fresh:=true}=S1:=⟨_,rfl⟩;have HS1:=Dl hS1;rw [hS1] at H2;clear hS1
  have HQ:=Dl ((H2.out.drew 1).bk);have HBW:=Dl (show B<=(W1.drewN 1).heap.size from Gl H2.out.own.ge (Gh (H2.out.drew 1).own.lt));refine BN 11 [57,58,59,60,61,62,63,64,65,66,67] [eP g 0,eP g 0,eP g 0,eP g 0,eQ (ZE Z5 (p:Int)),eP g 0,eP g 0,eP g 1,eP g 1,eQ (ZE Z7 b.x0),λv w=>∃q1,v=ptr q1/\W1.heap.size<=q1/\Ln.Rr w B q1 nil p (nl p (b.x0))] (.quiet 11 (.quiet 12 (.act 13 .done))) ZY ZY ZY ZY (λ_ _ d _ _ h=>by cases d<;>exact h) ZV ZV ⟨BF _,BF _,BF _,BF _,BF _,BF _,BF _,BF _,BF _,BF _,((λ_ _ _ hb h=>by obtain ⟨q1,e1,h1,h2⟩:=h;exact ⟨q1,e1,h1,rr_below h2 hb⟩)),trivial⟩ ?_ ?_
  ·refine ⟨?_,?_,?_,?_,?_,?_,?_,?_,?_,?_,?_,trivial⟩
   iterate 10·exact XXSdZ
   ·refine BI rfl (λev w1 hR hb hh=>?_);have e61:ev (.tmp 61)= _:=hh.at 0;have e66:ev (.tmp 66)= _:=hh.at 1;exact XXJwx
  intro g1 w2 hb hf;have z57:g1 57= _:=hf.at 0;have z67:=hf.at 10;clear hf;obtain ⟨q1,e1,hq1,hr1⟩:=z67;simp only [BM,Ab,F4,F7,F6];rw [e1,z57];simp only [Ju,Jw,Er,Ep];refine Jx ZV (ptr g) (λ_ _=>by go_simp) ?_;simp only [Ab,F4,F7,F6];refine Jx ZV (ZA (some ⟨g,12,none⟩)) (λ_ _=>by go_simp) ?_;simp only [Ab,F4,F7,F6];have c12:=(H2.out.below hb).cs.c12;have z12:=(H2.out.below hb).marks 12;refine Jr ZV (λK hK=>?_);go_simp;refine hK _ _ trivial ?_;clear hK K;refine Js ?_;have HL:=H2.out.line hb hr1 hq1;have SL:=(Step.line (g:=g) (q:=q) (v:=v) (f:=(.slice bf s.r.fs.length cf)) (bd:=bd) (t:=t) (o:=o) hb hq1).trans (IL g 12 (ptr q1) ZW);clear HQ HBW hr1 hq1 c12 z12;rw [←HS1.out] at HL;go_wp2;go_end0;exact ⟨rfl,q1,_,_,_,_,_,HL,HS2.out.trans SL⟩
 ·have HZ:=Dl (show∀w2,Below (w.drewN 1).heap.size (w.drewN 1) w2->Calls Mm 211 #[ZE Z5 (p:Int),Z9 #[ZE Z7 b.x0,ZE Z7 b.x1,ZE Z7 b.x2,ZE Z7 b.x3,ZE Z7 b.x4,ZE Z7 b.x5,ZE Z7 b.x6,ZE Z7 b.x7,ZB b.ch,ZB b.od],ZE Z7 s.r.k,.slice bf s.r.fs.length cf] w2 λr w'=>r=.returned (Z8 #[Z9 #[ZE Z7 1,ZE Z7 (n:Int)],ZE Z7 0])/\Below w2.heap.size w2 w' from λw2 hb=>by have:=hz w2 hb;rw [hD] at this;exact this);rcases Gg n with hn | hn
  ·subst hn;have HZ:=Dl (show∀w2,Below (w.drewN 1).heap.size (w.drewN 1) w2->Calls Mm 211 #[ZE Z5 (p:Int),Z9 #[ZE Z7 b.x0,ZE Z7 b.x1,ZE Z7 b.x2,ZE Z7 b.x3,ZE Z7 b.x4,ZE Z7 b.x5,ZE Z7 b.x6,ZE Z7 b.x7,ZB b.ch,ZB b.od],ZE Z7 s.r.k,.slice bf s.r.fs.length cf] w2 λe w'=>e=.returned (Z8 #[Z9 #[ZE Z7 1,ZE Z7 0],ZE Z7 0])/\Below w2.heap.size w2 w' from λw2 hb=>HZ.out w2 hb);have e:s.over p b=s.whole p b:=by unfold S.over;rw [hD];rfl
   rw [e];clear hz hD e hvd hle;go_enter Tryz.func188,Tryz.ntmps188;go_upto_region 0 with fail
   go_cut [2,3] from 4 to 25 (λu c wx=>∃g2,u=ptr g2/\c=ZE Z7 0/\Hid (Below w.heap.size w wx)/\Hid (Hv wx g2 [ZE Z7 1,ZE Z7 0])/\Hid (w.heap.size<=g2))
   case first=>
    refine BP 23 [5,6,7,8,9,10,11,12,13,14,15,16,17,18,19,20,21,22,23,4,24,25,2] [eP g 0,eP g 0,eP g 0,eQ (ZE Z5 (p:Int)),eP g 0,eP g 0,eP g 1,eQ (Z9 #[ZE Z7 b.x0,ZE Z7 b.x1,ZE Z7 b.x2,ZE Z7 b.x3,ZE Z7 b.x4,ZE Z7 b.x5,ZE Z7 b.x6,ZE Z7 b.x7,ZB b.ch,ZB b.od]),eP g 0,eP g 0,eP g 13,eP g 15,eQ (ZE Z7 s.r.k),eP g 0,eP g 0,eP g 13,eP g 16,eQ (.slice bf s.r.fs.length cf),eQ (Z8 #[Z9 #[ZE Z7 1,ZE Z7 0],ZE Z7 0]),eQ (Z8 #[Z9 #[ZE Z7 1,ZE Z7 0],ZE Z7 0]),eQ (Z9 #[ZE Z7 1,ZE Z7 0]),eQ (ZE Z7 0),λv u=>∃g2,v=ptr g2/\w.heap.size<=g2/\Hv u g2 [ZE Z7 0,ZE Z7 0]] [] 2 (some 21) (.act 23 (.quiet 24 .done)) (.quiet 21 (.act 23 (.quiet 24 .done))) ZY ZY ZY ZY (λk0 h=>by cases h;kernel_rfl) (λ_ _ d _ _ h=>by cases d<;>exact h) ZV ZV ⟨BF _,BF _,BF _,BF _,BF _,BF _,BF _,BF _,BF _,BF _,BF _,BF _,BF _,BF _,BF _,BF _,BF _,BF _,BF _,BF _,BF _,BF _,((λ_ _ _ hb h=>by obtain ⟨g2,e1,h1,hB⟩:=h;exact ⟨g2,e1,h1,hB.below hb⟩)),trivial⟩ trivial ZV ?_ ?_ ?_
    ·refine ⟨?_,?_,?_,?_,?_,?_,?_,?_,?_,?_,?_,?_,?_,?_,?_,?_,?_,?_,?_,?_,?_,?_,?_,trivial⟩
     iterate 18·exact XXAxS
     ·exact XXL5Q
     iterate 3·exact XXAxS
     ·exact XXEhL
    ·intro g1 w2 hb hf;have z4:g1 4= _:=hf.at 19;have z24:g1 24= _:=hf.at 20;have z25:g1 25= _:=hf.at 21;have z2:=hf.at 22;clear hf;obtain ⟨g2,e2,hg2,hB2⟩:=z2;simp only [BM,Ab,F4,F7,F6];rw [z4,z24,z25,e2];simp only [Ju,Jw,Er,Ep];exact XX4U6
    ·intro k0 hk0 g1 w2 hb hf;cases hk0;have z4:g1 4= _:=hf.at 19;have z24:g1 24= _:=hf.at 20;have z2:=hf.at 22;clear hf;obtain ⟨g2,e2,hg2,hB2⟩:=z2;simp only [BM,Ab,F4,F7,F6];rw [z4,z24,e2];simp only [Ju,Jw,Er,Ep];refine Jx ZV (ZE Z7 0) (λ_ _=>by go_simp) ?_;simp only [Ab,F4,F7,F6];exact XX4U6
   case rest=>
   obtain ⟨g2,rfl,rfl,HB,HG,HG2⟩:=hcut;have H1:=Dl (H.out.below HB.out);clear HQ;obtain ⟨W0,hW0⟩:∃x,x=wc:=⟨_,rfl⟩;subst hW0;have y0:=HG.out.c 0 _ rfl;have y1:=HG.out.c 1 _ rfl
   have HW:=Dl (whole_any H1.out HO.out);go_wp2_with (go_at_call 158;with_reducible refine HW.out.mono ?_;rintro r w3 ⟨rfl,q1,o1,hP,hS⟩);go_end0;exact ⟨rfl,q1,_,_,_,_,o1,hP,(II HB.out).trans hS⟩
  ·have tz:¬(n:Int)=0:=by omega
   have tz':((n:Int)==0)=false:=ZM.2 tz;have e:s.over p b={s with st:=2,left:=n,fresh:=true}:=by unfold S.over;rw [hD];show (if (0:Int)≠0 then _ else if (1:Int)=2 then _ else if (n:Int)=0 then _ else ({s with st:=2,left:=(n:Int).toNat,fresh:=true}:S))= _;rw [ZO ZX,ZO ZX,ZO tz,Int.toNat_natCast]
   rw [e];clear hz hD e hvd hle hn;go_enter Tryz.func188,Tryz.ntmps188;go_upto_region 0 with fail
   go_cut [2,3] from 4 to 25 (λu c wx=>∃g2,u=ptr g2/\c=ZE Z7 0/\Hid (Below w.heap.size w wx)/\Hid (Hv wx g2 [ZE Z7 1,ZE Z7 (n:Int)])/\Hid (w.heap.size<=g2))
   case first=>
    refine BP 23 [5,6,7,8,9,10,11,12,13,14,15,16,17,18,19,20,21,22,23,4,24,25,2] [eP g 0,eP g 0,eP g 0,eQ (ZE Z5 (p:Int)),eP g 0,eP g 0,eP g 1,eQ (Z9 #[ZE Z7 b.x0,ZE Z7 b.x1,ZE Z7 b.x2,ZE Z7 b.x3,ZE Z7 b.x4,ZE Z7 b.x5,ZE Z7 b.x6,ZE Z7 b.x7,ZB b.ch,ZB b.od]),eP g 0,eP g 0,eP g 13,eP g 15,eQ (ZE Z7 s.r.k),eP g 0,eP g 0,eP g 13,eP g 16,eQ (.slice bf s.r.fs.length cf),eQ (Z8 #[Z9 #[ZE Z7 1,ZE Z7 (n:Int)],ZE Z7 0]),eQ (Z8 #[Z9 #[ZE Z7 1,ZE Z7 (n:Int)],ZE Z7 0]),eQ (Z9 #[ZE Z7 1,ZE Z7 (n:Int)]),eQ (ZE Z7 0),λv u=>∃g2,v=ptr g2/\w.heap.size<=g2/\Hv u g2 [ZE Z7 0,ZE Z7 0]] [] 2 (some 21) (.act 23 (.quiet 24 .done)) (.quiet 21 (.act 23 (.quiet 24 .done))) ZY ZY ZY ZY (λk0 h=>by cases h;kernel_rfl) (λ_ _ d _ _ h=>by cases d<;>exact h) ZV ZV ⟨BF _,BF _,BF _,BF _,BF _,BF _,BF _,BF _,BF _,BF _,BF _,BF _,BF _,BF _,BF _,BF _,BF _,BF _,BF _,BF _,BF _,BF _,((λ_ _ _ hb h=>by obtain ⟨g2,e1,h1,hB⟩:=h;exact ⟨g2,e1,h1,hB.below hb⟩)),trivial⟩ trivial ZV ?_ ?_ ?_
    ·refine ⟨?_,?_,?_,?_,?_,?_,?_,?_,?_,?_,?_,?_,?_,?_,?_,?_,?_,?_,?_,?_,?_,?_,?_,trivial⟩
     iterate 18·exact XXAxS
     ·exact XXL5Q
     iterate 3·exact XXAxS
     ·exact XXEhL
    ·intro g1 w2 hb hf;have z4:g1 4= _:=hf.at 19;have z24:g1 24= _:=hf.at 20;have z25:g1 25= _:=hf.at 21;have z2:=hf.at 22;clear hf;obtain ⟨g2,e2,hg2,hB2⟩:=z2;simp only [BM,Ab,F4,F7,F6];rw [z4,z24,z25,e2];simp only [Ju,Jw,Er,Ep];exact XXsvP
    ·intro k0 hk0 g1 w2 hb hf;cases hk0;have z4:g1 4= _:=hf.at 19;have z24:g1 24= _:=hf.at 20;have z2:=hf.at 22;clear hf;obtain ⟨g2,e2,hg2,hB2⟩:=z2;simp only [BM,Ab,F4,F7,F6];rw [z4,z24,e2];simp only [Ju,Jw,Er,Ep];refine Jx ZV (ZE Z7 0) (λ_ _=>by go_simp) ?_;simp only [Ab,F4,F7,F6];exact XXsvP
   case rest=>
   obtain ⟨g2,rfl,rfl,HB,HG,HG2⟩:=hcut;have H1:=Dl (H.out.below HB.out);clear HQ;obtain ⟨W0,hW0⟩:∃x,x=wc:=⟨_,rfl⟩;subst hW0;have y0:=HG.out.c 0 _ rfl;have y1:=HG.out.c 1 _ rfl;have H2:=Dl (((H1.out.put 11 (ZE Z7 2) {s with st:=2} rfl rfl rfl rfl rfl rfl).put 22 (ZE Z7 (n:Int)) {s with st:=2,left:=n} rfl rfl rfl rfl rfl rfl).put 23 (ZB true) {s with st:=2,left:=n,fresh:=true} rfl rfl rfl rfl rfl rfl);have c11:=H1.out.cs.c11;have c22:=H1.out.cs.c22;have c23:=H1.out.cs.c23;have z11:=H1.out.marks 11;have z22:=H1.out.marks 22;have z23:=H1.out.marks 23;have HS2:=Dl ((II HB.out (L:=blks g q v (.slice bf s.r.fs.length cf) bd t o)).trans (((IL g 11 (ZE Z7 2) ZW).trans (IL g 22 (ZE Z7 (n:Int)) ZW)).trans (IL g 23 (ZB true) ZW)));have hne:¬g2=g:=by have h1:=H.out.own.lt;have h2:=HG2.out;omega
   have hne':¬g=g2:=λe=>hne e.symm;clear H1;go_upto_region 1 with fail
   go_region;have H3:=Dl (H2.out.drew 1);have HS3:=Dl (HS2.out.trans (II (Az (AE _ _) 1)));clear c11 c22 c23 z11 z22 z23 H2 HS2;go_wp2;go_end0;exact ⟨rfl,_,_,_,_,_,_,H3.out,HS3.out⟩
 ·have HZ:=Dl (show∀w2,Below (w.drewN 1).heap.size (w.drewN 1) w2->Calls Mm 211 #[ZE Z5 (p:Int),Z9 #[ZE Z7 b.x0,ZE Z7 b.x1,ZE Z7 b.x2,ZE Z7 b.x3,ZE Z7 b.x4,ZE Z7 b.x5,ZE Z7 b.x6,ZE Z7 b.x7,ZB b.ch,ZB b.od],ZE Z7 s.r.k,.slice bf s.r.fs.length cf] w2 λr w'=>r=.returned (Z8 #[Z9 #[ZE Z7 0,ZE Z7 0],ZE Z7 (e:Int)])/\Below w2.heap.size w2 w' from λw2 hb=>by have:=hz w2 hb;rw [hD] at this;exact this);have tz:¬(e:Int)=0:=by omega
  have tz':((e:Int)==0)=false:=ZM.2 tz;have e1:s.over p b=s.fail e:=by unfold S.over;rw [hD];show (if (e:Int)≠0 then s.fail (e:Int).toNat else _)= _;rw [ZN tz,Int.toNat_natCast]
  rw [e1];clear hz hD e1 hvd he;go_enter Tryz.func188,Tryz.ntmps188;go_upto_region 0 with fail
  go_cut [2,3] from 4 to 25 (λu c wx=>∃g2,u=ptr g2/\c=ZE Z7 (e:Int)/\Hid (Below w.heap.size w wx)/\Hid (Hv wx g2 [ZE Z7 0,ZE Z7 0])/\Hid (w.heap.size<=g2))
  case first=>
   refine BP 23 [5,6,7,8,9,10,11,12,13,14,15,16,17,18,19,20,21,22,23,4,24,25,2] [eP g 0,eP g 0,eP g 0,eQ (ZE Z5 (p:Int)),eP g 0,eP g 0,eP g 1,eQ (Z9 #[ZE Z7 b.x0,ZE Z7 b.x1,ZE Z7 b.x2,ZE Z7 b.x3,ZE Z7 b.x4,ZE Z7 b.x5,ZE Z7 b.x6,ZE Z7 b.x7,ZB b.ch,ZB b.od]),eP g 0,eP g 0,eP g 13,eP g 15,eQ (ZE Z7 s.r.k),eP g 0,eP g 0,eP g 13,eP g 16,eQ (.slice bf s.r.fs.length cf),eQ (Z8 #[Z9 #[ZE Z7 0,ZE Z7 0],ZE Z7 (e:Int)]),eQ (Z8 #[Z9 #[ZE Z7 0,ZE Z7 0],ZE Z7 (e:Int)]),eQ (Z9 #[ZE Z7 0,ZE Z7 0]),eQ (ZE Z7 (e:Int)),λv u=>∃g2,v=ptr g2/\w.heap.size<=g2/\Hv u g2 [ZE Z7 0,ZE Z7 0]] [] 2 (some 21) (.act 23 (.quiet 24 .done)) (.quiet 21 (.act 23 (.quiet 24 .done))) ZY ZY ZY ZY (λk0 h=>by cases h;kernel_rfl) (λ_ _ d _ _ h=>by cases d<;>exact h) ZV ZV ⟨BF _,BF _,BF _,BF _,BF _,BF _,BF _,BF _,BF _,BF _,BF _,BF _,BF _,BF _,BF _,BF _,BF _,BF _,BF _,BF _,BF _,BF _,((λ_ _ _ hb h=>by obtain ⟨g2,e1,h1,hB⟩:=h;exact ⟨g2,e1,h1,hB.below hb⟩)),trivial⟩ trivial ZV ?_ ?_ ?_
   ·refine ⟨?_,?_,?_,?_,?_,?_,?_,?_,?_,?_,?_,?_,?_,?_,?_,?_,?_,?_,?_,?_,?_,?_,?_,trivial⟩
    iterate 18·exact XXAxS
    ·exact XXL5Q
    iterate 3·exact XXAxS
    ·exact XXEhL
   ·intro g1 w2 hb hf;have z4:g1 4= _:=hf.at 19;have z24:g1 24= _:=hf.at 20;have z25:g1 25= _:=hf.at 21;have z2:=hf.at 22;clear hf;obtain ⟨g2,e2,hg2,hB2⟩:=z2;simp only [BM,Ab,F4,F7,F6];rw [z4,z24,z25,e2];simp only [Ju,Jw,Er,Ep];exact XX0H4
   ·intro k0 hk0 g1 w2 hb hf;cases hk0;have z4:g1 4= _:=hf.at 19;have z24:g1 24= _:=hf.at 20;have z2:=hf.at 22;clear hf;obtain ⟨g2,e2,hg2,hB2⟩:=z2;simp only [BM,Ab,F4,F7,F6];rw [z4,z24,e2];simp only [Ju,Jw,Er,Ep];refine Jx ZV (ZE Z7 (e:Int)) (λ_ _=>by go_simp) ?_;simp only [Ab,F4,F7,F6];exact XX0H4
  case rest=>
  obtain ⟨g2,rfl,rfl,HB,HG,HG2⟩:=hcut;have H1:=Dl (H.out.below HB.out);clear HQ;obtain ⟨W0,hW0⟩:∃x,x=wc:=⟨_,rfl⟩;subst hW0;have y0:=HG.out.c 0 _ rfl;have y1:=HG.out.c 1 _ rfl;have HFA:=Dl (fail_any H1.out e);exact XX8YT
end
end Par
namespace Chk
open Base Txt
theorem marks_tab:∀k:Fin 256,(lowB (NG k.val)=48↔NG k.val=48)/\(lowB (NG k.val)=120↔(NG k.val=120∨NG k.val=88)):=ZR
theorem low_mark (b:UInt8):(lowB b=48↔b=48)/\(lowB b=120↔(b=120∨b=88)):=by have h:=marks_tab ⟨b.toNat,b.toNat_lt⟩;simpa using h
theorem same_two (X:ByteArray) (h:X.size=2):same X ⟨#[48,120]⟩=true↔(X=⟨#[48,120]⟩∨X=⟨#[48,88]⟩):=by
 obtain ⟨a,b,hab⟩:∃a b,X.data.toList= [a,b]:=by
  rw [←len] at h
  match hx:X.data.toList,h with
  | [a,b],_=>exact ⟨a,b,rfl⟩
 have e:∀c d:UInt8,X=⟨#[c,d]⟩↔(a=c/\b=d):=λc d=>by
  constructor
  ·intro hX;subst hX;simpa using hab.symm
  ·rintro ⟨rfl,rfl⟩;exact ba_ext (by rw [hab])
 rw [e,e];unfold same;rw [ZI,hab];have h1:=low_mark a;have h2:=low_mark b;show [lowB a,lowB b]= [lowB 48,lowB 120]↔_;rw [show lowB 48=48 from ZR,show lowB 120=120 from by decide +kernel];simp only [List.cons.injEq,and_true];rw [h1.1,h2.2];constructor
 ·rintro ⟨x,y | y⟩
  ·exact .inl ⟨x,y⟩
  ·exact .inr ⟨x,y⟩
 ·rintro (⟨x,y⟩ | ⟨x,y⟩)
  ·exact ⟨x,.inl y⟩
  ·exact ⟨x,.inr y⟩
section
attribute [local go_sem] A8
theorem XXOH8 {P:Prop} (h:P:=by
 have HT:=Dl (λw=>rtrim_any C w ZP);have ht:(trim C).size<=C.size:=trim_size _ _
 have HZ:Hid (ba SL=(if b7=true then ba (bare (if b8=true then trim C else C).data.toList) else (if b8=true then trim C else C))):=Dl (by rw [HCS.out];cases b8<;>cases b7<;>rfl);generalize ba SL=Z at *;clear HCS;obtain ⟨T,hTz,HC⟩:∃T:ByteArray,T.size<=1000000000/\Hid (T=if b8=true then trim C else C):=by
  cases b8 with
  | true=>exact ⟨trim C,ZZ,Dl rfl⟩
  | false=>exact ⟨C,HC0,Dl rfl⟩
 rw [←HC.out] at HZ;have hT8:(b8=true/\trim C=T)∨(b8=false/\C=T):=by
  cases b8 with
  | true=>exact .inl ⟨rfl,HC.out.symm⟩
  | false=>exact .inr ⟨rfl,HC.out.symm⟩
 have HT8:=Dl hT8;clear hT8 HC ht HC0
 go_upto_if 42 with (go_at_call 44;with_reducible refine Cm (H8.out _) ?_)
 go_cut [8] from 43 to 44 (λv wx=>v=ZD T/\wx=w1)
 case first=>
  clear HN hcase' HBX HZ H7 hTz;rcases HT8.out with ⟨rfl,ht⟩ | ⟨rfl,rfl⟩
  ·rw [ht] at HT;clear ht HT8;go_wp2_with (go_at_call 135;with_reducible refine Cm (HT.out _) ?_);go_meet
   case rel=>exact ⟨rfl,rfl⟩
  ·clear HT8 HT;go_wp2_with fail;go_meet
   case rel=>exact ⟨rfl,rfl⟩
 case rest=>
  obtain ⟨rfl,hw0⟩:=hcut;rw [hw0];clear hw0 HT HT8 H8;have hway:∃bm:Bool,(bm=true->2<=T.size)/\Z=(if bm=true then T.extract 2 T.size else T)/\((b7=false/\bm=false)∨(b7=true/\T.size<2/\bm=false)∨(b7=true/\2<=T.size/\T.extract 0 2=⟨#[48,120]⟩/\bm=true)∨(b7=true/\2<=T.size/\T.extract 0 2=⟨#[48,88]⟩/\bm=true)∨(b7=true/\2<=T.size/\¬T.extract 0 2=⟨#[48,120]⟩/\¬T.extract 0 2=⟨#[48,88]⟩/\bm=false)):=by
   have hz:=HZ.out;have e0:ba T.data.toList=T:=ba_ext rfl;cases b7 with
   | false=>exact ⟨false,ZW,hz,.inl ⟨rfl,rfl⟩⟩
   | true=>
     rw [ZN rfl] at hz;rcases Gp T.size 2 with h2 | h2
     ·refine ⟨false,ZW,?_,.inr (.inl ⟨rfl,h2,rfl⟩)⟩;rw [hz,ZO ZX];unfold bare marked;rw [len,ZL ZZ,AS,ZO ZX,e0]
     ·have hx:T.extract 0 2=ba (T.data.toList.take 2):=ba_ext XXf66;have hx2:T.extract 2 T.size=ba (T.data.toList.drop 2):=ba_ext XXabb;have hsz:(T.extract 0 2).size=2:=by rw [hx,←len];show (T.data.toList.take 2).length=2;rw [Fc,len];omega
      have em:bare T.data.toList=if same (T.extract 0 2) ⟨#[48,120]⟩=true then T.data.toList.drop 2 else T.data.toList:=by unfold bare marked;rw [len,ZK h2,Bg,hx]
      rw [em] at hz;by_cases q1:T.extract 0 2=⟨#[48,120]⟩
      ·rw [ZN ((same_two _ hsz).2 (.inl q1)),←hx2] at hz;exact ⟨true,λ_=>h2,hz,.inr (.inr (.inl ⟨rfl,h2,q1,rfl⟩))⟩
      ·by_cases q2:T.extract 0 2=⟨#[48,88]⟩
       ·rw [ZN ((same_two _ hsz).2 (.inr q2)),←hx2] at hz;exact ⟨true,λ_=>h2,hz,.inr (.inr (.inr (.inl ⟨rfl,h2,q2,rfl⟩)))⟩
       ·have hnn:¬same (T.extract 0 2) ⟨#[48,120]⟩=true:=λh=>((same_two _ hsz).1 h).elim q1 q2;rw [ZO hnn,e0] at hz;exact ⟨false,ZW,hz,.inr (.inr (.inr (.inr ⟨rfl,h2,q1,q2,rfl⟩)))⟩
  obtain ⟨bm,hbm,hZ,hway⟩:=hway;have HW:=Dl hway;have HBM:=Dl hbm;have HZZ:=Dl hZ;clear hway hbm hZ HZ hTz;go_upto_region 11 with fail
  go_cut [61] from 45 to 61 (λv wx=>v=ZB bm/\wx=w1)
  case first=>
   clear HN hcase' HBX HZZ HBM;rcases HW.out with ⟨rfl,rfl⟩ | ⟨rfl,h2,rfl⟩ | ⟨rfl,h2,q1,rfl⟩ | ⟨rfl,h2,q1,rfl⟩ | ⟨rfl,h2,q1,q2,rfl⟩
   ·clear HW;go_wp2_with (go_at_call 44;with_reducible refine Cm (H7.out _) ?_);go_meet
    case rel=>exact ⟨rfl,rfl⟩
   ·clear HW;have d1:decide ((1:Int)<(T.size:Int))=false:=ZL ZZ;go_wp2_with (go_at_call 44;with_reducible refine Cm (H7.out _) ?_);go_meet
    case rel=>exact ⟨rfl,rfl⟩
   ·clear HW;have d1:decide ((1:Int)<(T.size:Int))=true:=ZK ZZ;have d2:(2:Int)<=(T.size:Int):=ZZ;go_wp2_with (go_at_call 44;with_reducible refine Cm (H7.out _) ?_);go_meet
    case rel=>exact ⟨rfl,rfl⟩
   ·clear HW;have d1:decide ((1:Int)<(T.size:Int))=true:=ZK ZZ;have d2:(2:Int)<=(T.size:Int):=ZZ;go_wp2_with (go_at_call 44;with_reducible refine Cm (H7.out _) ?_);go_meet
    case rel=>exact ⟨rfl,rfl⟩
   ·clear HW;have d1:decide ((1:Int)<(T.size:Int))=true:=ZK ZZ;have d2:(2:Int)<=(T.size:Int):=ZZ;have f3:¬(T.extract 0 2).toList= [48,120]:=λh=>q1 (ba_ext (by rw [←C3,h]));have f1:((T.extract 0 2).toList == [48,120])=false:=ZM.2 f3
    have f4:¬(T.extract 0 2).toList= [48,88]:=λh=>q2 (ba_ext (by rw [←C3,h]));go_wp2_with (go_at_call 44;with_reducible refine Cm (H7.out _) ?_);go_meet
    case rel=>first | exact ⟨rfl,rfl⟩ | exact ⟨by rw [ZM.2 f4],rfl⟩ | exact ⟨by rw [f1,ZM.2 f4];rfl,rfl⟩
  case rest=>
   obtain ⟨rfl,hw0⟩:=hcut;rw [hw0];clear hw0 HW H7;obtain ⟨⟨q0,q1,q2,q3,q4,q5,q6,q7,q8,q9⟩,hlt,hbk⟩:=HBX.out;clear q0 q1 q2 q4 q5 q6 q7 q8 q9 hlt;have hz:=HZZ.out;cases bm with
   | false=>
     rw [ZO ZX] at hz;rw [hz] at HN;clear hz HZZ HBM;rcases hcase'.out with ⟨rfl,rfl⟩ | ⟨t1,rfl,rfl⟩ | ⟨t1,t2,rfl⟩;all_goals
      go_wp2_with (go_at_call 236;with_reducible refine Cm (HN.out _) ?_);go_ret2;exact ⟨rfl,hbk⟩
   | true=>
     rw [ZN rfl] at hz;rw [hz] at HN;have h2:=HBM.out rfl;have d2:(2:Int)<=(T.size:Int):=ZZ;clear hz HZZ HBM;rcases hcase'.out with ⟨rfl,rfl⟩ | ⟨t1,rfl,rfl⟩ | ⟨t1,t2,rfl⟩;all_goals
      go_wp2_with (go_at_call 236;with_reducible refine Cm (HN.out _) ?_);go_ret2
      exact ⟨rfl,hbk⟩):P:=h
theorem XXMk8 {P:Prop} (h:P:=by
 go_wp2_with fail;go_roundw
 case rel=>first | exact ⟨k+1,ZZ,rfl,rfl,ZT,rfl⟩ | exact ⟨k+1,ZZ,rfl,rfl,ZT,trivial⟩
 case measure=>simp [intOf];omega):P:=h
theorem rsize_any (s:ByteArray) (p:Nat) (hp:p<4294967296) (x0 x1 x2 x3 x4 x5 x6 x7:Int) (ch od:Bool) (h3:x3<=9223372036854775807) (h4:0<=x4) (w:World) (hs:s.size<=1000000000) :
 Calls Mm 214 #[ZD s,ZE Z5 (p:Nat),Bnd.bnd x0 x1 x2 x3 x4 x5 x6 x7 ch od] w λe w'=>e=.returned (Z8 #[ZE Z7 (sizeV (Hs p 27) (Hs p 28) x4 x3 s.data.toList).1,ZE Z7 (sizeV (Hs p 27) (Hs p 28) x4 x3 s.data.toList).2])/\Below w.heap.size w w':=by
 have HBB:=Dl (BB.new (AE w.heap.size w) 29 x0 x1 x2 x3 x4 x5 x6 x7 ch od)
 have H7:=Dl (λw=>Hu p hp 27 w)
 have H8:=Dl (λw=>Hu p hp 28 w)
 have HCUT:=Dl (show∀C:ByteArray,C.size<=1000000000->ba (Jg 59 s.data.toList).1=C->sizeL (Hs p 27) (Hs p 28) s.data.toList=pieceL (Hs p 27) (Hs p 28) C.data.toList from λC hC e=>by rw [←e];rfl);have HEX:=Dl (show∀E:ByteArray,ba (extL s.data.toList)=E->isx x4 (extL s.data.toList)= !(decide (x4<(E.size:Int)) || !Oct.allOf [6] E.data.toList) from λE e=>by rw [isx_eq _ h4,←e,←len];rfl);have hSL:(ba (sizeL (Hs p 27) (Hs p 28) s.data.toList)).size<=maxLen:=by have h1:=piece_le (Hs p 27) (Hs p 28) (Jg 59 s.data.toList).1;have h2:=(ext_le s.data.toList).2;rw [len] at h2;rw [←len];show (pieceL _ _ _).length<=_;unfold maxLen;omega
 have HN:=Dl (λw=>Num.rhexN_any x3 h3 (ba (sizeL (Hs p 27) (Hs p 28) s.data.toList)) w hSL);have e1:(ba (sizeL (Hs p 27) (Hs p 28) s.data.toList)).data.toList=sizeL (Hs p 27) (Hs p 28) s.data.toList:=rfl;rw [e1] at HN;clear e1 hSL;unfold sizeV;generalize G6 16 x3 (sizeL (Hs p 27) (Hs p 28) s.data.toList)=R at *;generalize sizeL (Hs p 27) (Hs p 28) s.data.toList=SL at *;generalize Hs p 27=b7 at *;generalize Hs p 28=b8 at *;obtain ⟨r1,r2⟩:=R;dsimp only at HN;have hcase:(r2=22/\numV (r1,r2)=(0,400))∨((r2==22)=false/\r2=23/\numV (r1,r2)=(0,413))∨((r2==22)=false/\(r2==23)=false/\numV (r1,r2)=(r1,0)):=by exact XXmTI
 generalize numV (r1,r2)=V at *;have hcase':=Dl hcase;clear hcase;obtain ⟨VV,hVV⟩:∃VV,(if isx x4 (extL s.data.toList)=true then V else (0,400))=VV:=⟨_,rfl⟩;rw [hVV];rcases Tgt.cut_cases 59 s.data.toList with hno | ⟨a,r,hl,hna⟩
 ·have hE:=HEX.out ⟨#[]⟩ (by unfold extL;rw [Tgt.cutAt_none 59 _ hno];rfl);have HCS:=Dl (HCUT.out s hs (by rw [Tgt.cutAt_none 59 _ hno];exact ba_ext rfl));have hx:isx x4 (extL s.data.toList)=true:=by
   rw [hE];have:decide (x4<((⟨#[]⟩:ByteArray).size:Int))=false:=ZL (by show¬x4<0;omega);rw [this];rfl
  rw [hx,ZN rfl] at hVV;subst hVV;have HA:Hid (∀w a,Ints w a 1 [6]->Calls Mm 137 #[ZD ⟨#[]⟩,.slice a 1 1] w λe w'=>e=.returned (ZB true)/\∃m,w'=w.drewN m):=Dl λw a hk=>Oct.rall_any ⟨#[]⟩ a 1 1 [6] w ZX hk ZX;have hb59:Hid (∀k (h:k<s.size),(((s[k]'h).toNat:Int)==59)=false):=Dl λk h=>by
   have hm:=byte_mem s k h;rw [ZM];intro e9
   exact hno (by have:s[k]=59:=NI.1 (by have:(s[k].toNat:Int)=59:=e9;show s[k].toNat=59;omega);rw [←this];exact hm)
  have d0:decide (x4<0)=false:=ZL ZZ;clear hE hx HCUT HEX hno;obtain ⟨C,hC⟩:∃C,C=s:=⟨s,rfl⟩;rw [←hC] at HCS;have HC0:C.size<=1000000000:=by rw [hC];exact hs
  go_enter Tryz.func214,Tryz.ntmps214;go_upto_region 3 with fail
  generalize w.alloc (.cells #[ZE Z7 x0,ZE Z7 x1,ZE Z7 x2,ZE Z7 x3,ZE Z7 x4,ZE Z7 x5,ZE Z7 x6,ZE Z7 x7,ZB ch,ZB od] 29)=W at *;generalize w.heap.size=g at *
  go_loopw [8,9,10] (λa b i wr=>∃k:Nat,k<=s.size/\a=ZD s/\b=ZD ⟨#[]⟩/\i=ZE Z7 k/\wr=W) (λ_ _ i _=>s.size-(intOf i).toNat)
  case atStart=>first | exact ⟨0,Gz _,rfl,rfl,rfl,rfl⟩ | exact ⟨0,Gz _,rfl,trivial,rfl,rfl⟩ |(refine ⟨0,Gz _,?_⟩;simp)
  case round=>
   obtain ⟨k,hk,rfl,rfl,rfl,rfl⟩:=hrel;rcases Gp k s.size with hlt | hge
   ·have t0:=hb59.out k hlt;have i1:(k:Int)<(s.size:Int):=by omega
    exact XXMk8
   ·obtain rfl:k=s.size:=by omega
    subst hC;obtain ⟨⟨q0,q1,q2,q3,q4,q5,q6,q7,q8,q9⟩,hlt,hbk⟩:=HBB.out;clear q0 q1 q2 q3 q5 q6 q7 q8 q9 hlt hbk
    go_upto_region 9 with (go_at_call 137;(with_reducible refine (HA.out _ _ (CO _ _ rfl _ _)).mono ?_);rintro e w1 ⟨rfl,m,hw⟩;have HBX:=Dl ((HBB.out.alloc (.cells #[ZE Z7 6] 3)).drew m);rw [←hw] at HBX;clear hw)
    clear HBB q4;exact XXOH8
 ·have hin:∃i:Nat,i<s.size/\a=s.data.toList.take i/\s.data.toList.drop i=59::r:=⟨a.length,by rw [←len,hl];simp,by rw [hl];simp,by rw [hl];simp⟩;obtain ⟨i,hi,ha,hr⟩:=hin
  have hC1:s.extract 0 i=ba a:=ba_ext (by rw [Di];simp [ba,ha])
  have hE1:s.extract i s.size=ba (59::r):=ba_ext (by rw [Di,FF XXa22,hr];rfl);have hE:=HEX.out (s.extract i s.size) (by unfold extL;rw [hl,Tgt.cutAt_app 59 _ _ hna,hE1];rfl);have hCs:(s.extract 0 i).size<=1000000000:=by rw [hC1,←len];show a.length<=_;rw [ha,Fc];omega
  have HCS:=Dl (HCUT.out (s.extract 0 i) hCs (by rw [hl,Tgt.cutAt_app 59 _ _ hna,hC1]));have hEs:(s.extract i s.size).size<=1000000000:=by rw [hE1,←len];show (59::r).length<=_;rw [←hr,ER,len];omega
  have hb59:Hid (∀k (h:k<i),(((s[k]'(by omega)).toNat:Int)==59)=false):=Dl λk h=>by
   rw [ZM];intro e9;refine hna ?_;have e8:s[k]'(by omega)=59:=NI.1 (by have:(((s[k]'(by omega)).toNat:Nat):Int)=59:=e9;show (s[k]'(by omega)).toNat=59;omega);rw [ha,←e8];have hk2:k<(s.data.toList.take i).length:=by rw [Fc,len];omega
   have:=EB hk2;rw [List.getElem_take] at this;exact this
  have hb60:(((s[i]'hi).toNat:Int)==59)=true:=by
   have h9:s.data.toList[i]?=some 59:=by have:=ZH (λl=>l[0]?) hr;simpa using this
   have h8:s[i]'hi=59:=by
    have h7:s.data.toList[i]?=some (s[i]'hi):=by rw [Et (by rw [len];exact hi)];rfl
    rw [h7] at h9;exact GZ.inj h9
   rw [h8];rfl
  have c1:(i:Int)<=(s.size:Int):=ZZ;have c2:(0:Int)<=(i:Int):=ZZ;have HA:Hid (∀w a,Ints w a 1 [6]->Calls Mm 137 #[ZD (s.extract i s.size),.slice a 1 1] w λe w'=>e=.returned (ZB (GA [6] (s.extract i s.size).data.toList))/\∃m,w'=w.drewN m):=Dl λw a hk=>Oct.rall_any _ a 1 1 [6] w ZP hk ZX;generalize isx x4 (extL s.data.toList)=q at *;clear HCUT HEX hC1 hE1 ha hr hl hna;generalize hCC:s.extract 0 i=C at *;have HC0:=hCs;clear hCs;generalize hEE:s.extract i s.size=E at *;generalize GA [6] E.data.toList=al at *
  have HQ:Hid ((decide (x4<(E.size:Int))=true/\q=false)∨(decide (x4<(E.size:Int))=false/\al=false/\q=false)∨(decide (x4<(E.size:Int))=false/\al=true/\q=true)):=Dl (by rw [hE];cases decide (x4<(E.size:Int))<;>cases al<;>simp);have HVV:Hid ((q=false->VV=(0,400))/\(q=true->V=VV)):=Dl ⟨λh=>by rw [←hVV,h,ZO ZX],λh=>by rw [←hVV,h,ZN rfl]⟩;clear hVV;have HCC:=Dl hCC;have HEE:=Dl hEE;clear hE hCC hEE hEs;go_enter Tryz.func214,Tryz.ntmps214;go_upto_region 3 with fail
  generalize w.alloc (.cells #[ZE Z7 x0,ZE Z7 x1,ZE Z7 x2,ZE Z7 x3,ZE Z7 x4,ZE Z7 x5,ZE Z7 x6,ZE Z7 x7,ZB ch,ZB od] 29)=W at *;generalize w.heap.size=g at *
  go_loopw [8,9,10] (λa b j wr=>∃k:Nat,k<=i/\a=ZD s/\b=ZD ⟨#[]⟩/\j=ZE Z7 k/\wr=W) (λ_ _ j _=>s.size-(intOf j).toNat)
  case atStart=>first | exact ⟨0,Gz _,rfl,rfl,rfl,rfl⟩ | exact ⟨0,Gz _,rfl,trivial,rfl,rfl⟩ |(refine ⟨0,Gz _,?_⟩;simp)
  case round=>
   obtain ⟨k,hk,rfl,rfl,rfl,rfl⟩:=hrel;rcases Gp k i with hlt | hge
   ·have t0:=hb59.out k hlt;have i1:(k:Int)<(s.size:Int):=by omega
    clear hb60;exact XXMk8
   ·obtain rfl:k=i:=by omega
    have i1:(k:Int)<(s.size:Int):=ZZ;go_upto_region 6 with fail
    go_quiet (fail);rename_i nq
    replace HBB:=Dl (HBB.out.drew nq)
    go_upto_region 7 with fail
    rw [HCC.out,HEE.out];generalize wr.drewN nq=W1 at *;obtain ⟨⟨q0,q1,q2,q3,q4,q5,q6,q7,q8,q9⟩,hlt,hbk⟩:=HBB.out;clear q0 q1 q2 q3 q5 q6 q7 q8 q9 hlt hb60 hb59 HCC HEE;rcases HQ.out with ⟨d0,rfl⟩ | ⟨d0,rfl,rfl⟩ | ⟨d0,rfl,rfl⟩
    ·obtain rfl:=HVV.out.1 rfl;clear HVV;go_wp2_with fail;go_ret2;exact ⟨rfl,hbk⟩
    ·obtain rfl:=HVV.out.1 rfl;clear HVV
     go_wp2_with (go_at_call 137;(with_reducible refine (HA.out _ _ (CO _ _ rfl _ _)).mono ?_);rintro e w1 ⟨rfl,m,hw⟩;have HBX:=Dl ((HBB.out.alloc (.cells #[ZE Z7 6] 3)).drew m);rw [←hw] at HBX;clear hw)
     go_ret2;exact ⟨rfl,HBX.out.b⟩
    ·obtain rfl:=HVV.out.2 rfl;clear HVV
     go_upto_region 9 with (go_at_call 137;(with_reducible refine (HA.out _ _ (CO _ _ rfl _ _)).mono ?_);rintro e w1 ⟨rfl,m,hw⟩;have HBX:=Dl ((HBB.out.alloc (.cells #[ZE Z7 6] 3)).drew m);rw [←hw] at HBX;clear hw)
     clear HBB q4 HQ hbk;exact XXOH8
end
end Chk
end Go.Proofs.YtdfabddnpgjepaaGreatDoor
