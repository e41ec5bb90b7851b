import Derived.Test.YtdfabddnpgjepaaGreatDoorProg
import Derived.WalkKit
import Derived.WalkSpells
import Derived.WalkLawsBesides
import Derived.Lib.Hide
import Derived.Deep.Draws
import Derived.OrdersHeld
import Derived.Deep.RegionHeld
import Derived.BigRegion
import Derived.Maps.AppendAt
import Derived.Laws.Append
import Derived.Lib.Strings
import Derived.LaidLaws
import Derived.OpenShut
import Derived.ChangeArms
import Derived.ChangeKeysEq
import Derived.Test.YtdfabddnpgjepaaGreatDoorRows
import Derived.ProofKit
import Derived.ShutString
import Derived.ChangeOld
import Derived.Below
import Derived.SizedLaws
import Derived.Lib.Split
import Derived.Lib.SplitLaws
import Derived.Lib.IndexBytes
import Derived.Deep.AppendLies
import Derived.Laws.IdiomStrings
import Derived.Laws.BytesString
import Derived.Shelf.Strings.Builder1
import Derived.Shelf.Strings.Trim
import Derived.Shelf.Small.Utf8
import Derived.Shelf.Small.Strs
import Derived.Shelf.Strings.BuilderF
import Derived.Shelf.Strings.BuilderK
import Derived.Shelf.Strings.Search1
import Derived.Shelf.Strings.Search2
import Derived.Shelf.Strings.Search3
import Derived.Shelf.Strings.Cut
import Derived.Shelf.Strings.Count
import Derived.Shelf.LaysM
import Derived.Shelf.Strings.Shaped
import Derived.Shelf.Strings.Prefix
import Derived.Shelf.Strings.Split
import Derived.Shelf.Strings.SplitShaped
import Derived.Shelf.Unicode.Decode
import Derived.Shelf.Strings.Runes
import Derived.Shelf.Strings.RuneCount
import Derived.Shelf.Strings.IndexAny
import Derived.Shelf.Strings.AsciiSet
import Derived.Shelf.Strings.IndexAnyAll
import Derived.Shelf.Strings.Explode
import Derived.Shelf.Unicode.DecodeSlow
import Derived.Shelf.Unicode.DecodeAny
import Derived.Shelf.Strings.FieldsFuncAny
import Derived.Shelf.Slices.Turned
import Derived.Shelf.Bytes.SlEqualAll
import Derived.Shelf.Bytes.Small
import Derived.Deep.QuietTactic
import Derived.BigQuiet
import Derived.Lib.Bytealg
import Derived.Lib.AppendStr
import Derived.Laws.OwnMore
import Derived.Shelf.Abstract
import Derived.Maps.OwnSet
import Derived.SliceStrings
import Derived.Lib.SliceRun
import Derived.Lib.LazyBuf
import Derived.Lib.TrimByte
import Derived.WalkMore
import Derived.Lib.CutLaws
import Derived.Lib.IndexAny
import Derived.Lib.QuoteLoop
import Derived.Lib.RuneCount
import Derived.Laws.RangeAny
import Derived.Laws.Runes
import Derived.Deep.LoopGhost
import Derived.Deep.CutBlock
import Derived.Deep.DeepCutAuto
import Derived.Laws.BitsAllLaws
import Derived.Laws.ShiftsVarLaws
import Derived.Lib.FieldsP
import Derived.Lib.SlicesS
import Derived.ChangeSame
import Derived.Deep.RegionWith
import Derived.Deep.CutRange
import Derived.Laws.BytesArg
import Derived.Shelf.Bytes.SlSmallAll
import Derived.Lib.FrozenHead
import Derived.Lib.Builder
import Derived.Lib.UnsafeStr
import Derived.Deep.AppendSrc
import Derived.Deep.OwnRows
import Derived.Laws.IdiomCopy
import Derived.Lib.EndianMore
import Derived.OneCell
import Derived.Great.Walk
import Derived.LoopN
import Derived.Lib.SlBytesConst
import Derived.RegionTactic
set_option linter.unusedSimpArgs false
set_option maxHeartbeats 8000000
set_option maxRecDepth 100000
open Array renaming getElem?_eq_none→Ao,replicate→As
open Bool renaming and_eq_true→AM,eq_iff_iff→AR,false_eq_true→AT
open ByteArray renaming empty→Bp
open Classical renaming em→B4
open Go.Act renaming put→Ab
open Go.Addr renaming add→Ac
open Go.Builtin renaming append_→Bi
open Go.Calls renaming quiet_of_same→Bu
open Go.IntKind renaming i64→Z7,u8→Z6,u32→Z5
open Go.Lib renaming IsBuilderF→CZ,byteCells→Da,extract_data→Di,goFieldsP→Dj,hid→Dl,indexAny→Dm,indexByte→Dn,trimLeftB→Dw
open Go.Proofs.Tryz renaming func279→Ks,func280→Ku,func281→Kv,func301→K3,func322→K6,isAgg0→KC,isAgg102→KD,isAgg21→KF,isAgg285→KH,isAgg3→KI,isAgg4→KJ,isAgg5→KK,isAgg9→KL,prog→Mm,sizeOf0→M5,sizeOf102→M6,sizeOf21→M8,sizeOf23→M9,sizeOf285→MA,sizeOf3→MB,sizeOf4→MC,sizeOf5→MD,sizeOf9→ME,underlying0→MT,underlying102→MU,underlying124→MV,underlying21→MY,underlying22→MZ,underlying23→Nc,underlying285→Ni,underlying3→Nm,underlying4→Np,underlying5→Nr,underlying9→Ns,zeroValue0→Nu,zeroValue102→Nv,zeroValue21→Nx,zeroValue23→Ny,zeroValue285→N5,zeroValue3→N8,zeroValue4→N9,zeroValue5→NA,zeroValue9→NB
open Go.Region renaming noSelect→Ij,ready→Ik,wanted→Il
open Go.Shelf renaming Ren→C4
open Go.Value renaming int→ZE,string→ZD,slice→ZC,bool→ZB,pointer→ZA,agg→Z9,tuple→Z8
open Go.World renaming drewN_drewN→NR
open List renaming all_eq_true→D5,append_nil→D8,cons_append→DC,dropWhile_cons→DM,drop_eq_getElem_cons→DR,getElem?_eq_getElem→Et,getElem?_map→Ew,getElem_of_mem→EC,length_cons→EP,length_drop→ER,length_eq_zero_iff→ET,length_map→EV,map_cons→Fg,mem_cons→Fk,mem_of_mem_take→Ft,nil_append→Fw,not_mem_nil→Fx,reverse_append→F1,take_append_drop→FD,take_of_length_le→FF,take_succ_eq_append_getElem→FG
open Nat renaming eq_zero_or_pos→Gg,le_refl→Gi,lt_of_lt_of_le→Gn,lt_or_ge→Gp,zero_add→Gy,zero_le→Gz
open Option renaming some→GZ
open UInt8 renaming ofNat→NG
namespace Go.Proofs.YtdfabddnpgjepaaGreatDoor
open Go.RowKit
theorem Cm {P:Go.Program} {f:Go.FuncId} {a:Array Go.Value} {w:Go.World} {E:Go.Ending} {Q:Go.Ending->Go.World->Prop} (h:Go.Calls P f a w λe w'=>e=E/\w'=w) (k:Q E w):Go.Calls P f a w Q:=h.mono λ_ _ h=>by obtain ⟨rfl,rfl⟩:=h;exact k
abbrev ZO:=@if_neg
abbrev ZN:=@if_pos
abbrev ZM:=@beq_eq_false_iff_ne
abbrev ZL:=@decide_eq_false
abbrev ZK:=@decide_eq_true
abbrev ZJ:=@decide_eq_true_eq
abbrev ZI:=@beq_iff_eq
abbrev ZH:=@congrArg
abbrev ZG:=@absurd
abbrev ZF:=@Go.bodyPost_ret
theorem ZW {P:Prop} (h:P:=by simp):P:=h
theorem ZZ {P:Prop} (h:P:=by omega):P:=h
theorem ZQ {P:Prop} (h:P:=by simp;omega):P:=h
theorem XX9Py {P:Prop} (h:P:=by rw [FG h,Et h];rfl):P:=h
theorem XXsyZ {P:Prop} (h:P:=by
 refine ⟨h.1,λhn=>?_⟩;obtain ⟨b,off,e,hlt,hc⟩:=h.2 hn;first
  |exact ⟨b,off,e,Gn hlt hb.size,λk hk=>(hb.cell (p:=⟨b,off+k,none⟩) hlt).trans (hc k hk)⟩
  |exact ⟨b,off,e,Gn hlt hb.size,λk hk=>⟨(hb.cell (p:=⟨b,off+k*2,none⟩) hlt).trans (hc k hk).1,(hb.cell (p:=⟨b,off+k*2+1,none⟩) hlt).trans (hc k hk).2⟩⟩
  |exact ⟨b,off,e,Gn hlt hb.size,λk hk=>(hc k hk).below hlt hb⟩):P:=h
namespace Base
def Ints (w:World) (a:Option Addr) (n:Nat) (zs:List Int):Prop:=
 zs.length=n/\(0<n->∃b off,a=some ⟨b,off,none⟩/\b<w.heap.size/\∀k,k<n->w.cell? ⟨b,off+k,none⟩=some (ZE Z7 (zs[k]?.getD 0)))
theorem Ints.new (w:World) (cs:Array Value) (t:TypeId) (zs:List Int) (n:Nat) (hn:zs.length=n) (h:∀k,k<n->cs[k]?=some (ZE Z7 (zs[k]?.getD 0))) :
 Ints (w.alloc (.cells cs t)) (some ⟨w.heap.size,0,none⟩) n zs:=by
 refine ⟨hn,λ_=>⟨w.heap.size,0,rfl,ZW,λk hk=>?_⟩⟩;rw [Gy]
 exact (cell_of_row (w.alloc (.cells cs t)) w.heap.size k cs t (0,0) (heap_alloc_new w _)).trans (h k hk)
theorem Ints.one (w:World) (g:Nat) (hg:g=w.heap.size) (x:Int) (t:TypeId):Ints (w.alloc (.cells #[ZE Z7 x] t)) (some ⟨g,0,none⟩) 1 [x]:=by
 subst hg;refine Ints.new w _ t [x] 1 rfl ?_;intro k hk;obtain rfl:k=0:=ZZ;rfl
theorem own_base {w:World} {base:Nat} {e:TypeId} {size:Nat} {v:Value} {n:Nat} {xs:List Value} (h:w.ownsRow base e size v n xs) (g:Nat) (hg:v.ownBlock=some g):base<=g:=by
 rcases h.2 with ⟨rfl,_⟩ | ⟨g',_,_,rfl,hb,_⟩
 ·simp [Value.ownBlock] at hg
 ·simp [Value.ownBlock] at hg;omega
theorem news_one (w:World) (v:Value) (t:TypeId):∀(j:Nat) (u:Value),[v][j]?=some u->(w.alloc (.cells #[v] t)).cell? (Ac ⟨w.heap.size,0,none⟩ j)=some u:=by
 intro j u hu;have hj:j=0:=by
  rcases Gg j with h | h
  ·exact h
  ·rw [List.getElem?_eq_none ZQ] at hu;cases hu
 subst hj;have:v=u:=by simpa using hu
 subst this
 exact (cell_of_row (w.alloc (.cells #[v] t)) w.heap.size 0 #[v] t (0,0) (heap_alloc_new w _))
theorem some_undef:(some undef:Option Value)=some (Z8 #[]):=rfl
theorem below_drewN {B:Nat} {a w:World} (h:Below B a w) (n:Nat):Below B a (w.drewN n):=⟨h.os,h.tape,h.output,h.size,h.block⟩
theorem ret_bool {a b:Bool} (h:a=true↔b=true):Ending.returned (ZB a)=.returned (ZB b):=by rw [AR.2 h]
theorem ret_int {k:IntKind} {a b:Int} (h:a=b):Ending.returned (.int k a)=.returned (.int k b):=by rw [h]
theorem take_snoc (s:ByteArray) (k:Nat) (h:k<s.size):s.data.toList.take (k+1)=s.data.toList.take k ++ [s[k]]:=by rw [FG (by simpa using h)];rfl
theorem take_all (s:ByteArray) (k:Nat) (h:s.size<=k):s.data.toList.take k=s.data.toList:=FF (by simpa using h)
theorem byte_lt (b:UInt8):(b.toNat:Int)<=255:=by have:=b.toNat_lt;omega
theorem byte_mem (s:ByteArray) (k:Nat) (h:k<s.size):s[k]∈s.data.toList:=by
 have:=take_snoc s k h
 exact Ft (i:=k+1) (by rw [this];simp)
theorem ints_snoc (zs:List Int) (k:Nat) (h:k<zs.length):zs.take (k+1)=zs.take k ++ [zs[k]?.getD 0]:=by exact XX9Py
theorem below_step {a b c:World} (h1:Below a.heap.size a b) (h2:Below b.heap.size b c):Below a.heap.size a c:=h1.trans (h2.mono h1.size)
def Nums (kd:IntKind) (w:World) (a:Option Addr) (n:Nat) (zs:List Int):Prop:=
 zs.length=n/\(0<n->∃b off,a=some ⟨b,off,none⟩/\b<w.heap.size/\∀k,k<n->w.cell? ⟨b,off+k,none⟩=some (.int kd (zs[k]?.getD 0)))
theorem Nums.nil (kd:IntKind) (w:World) (a:Option Addr):Nums kd w a 0 []:=⟨rfl,λh=>absurd h ZZ⟩
theorem Nums.below {kd:IntKind} {w w':World} {a:Option Addr} {n:Nat} {zs:List Int} (h:Nums kd w a n zs) (hb:Below w.heap.size w w'):Nums kd w' a n zs:=by exact XXsyZ
theorem wrap_in (x:Int) (h0: -9223372036854775808<=x) (h1:x<=9223372036854775807):IntKind.i64.wrap x=x:=by rw [IntKind.wrap_i64];omega
end Base
namespace Sched
def fits (ops:Array Oper):List (Nat × Bool)->Array Bool->Bool
 | [],listed=>(Ik .any ops listed).isEmpty
 |(k,act)::ks,listed=>(if act then Ik .any ops listed == [k] else (Ik .any ops listed).contains k&&Region.free .any ops listed k)&&fits ops ks (listed.setIfInBounds k true)
def walk (P:Program) (ops:Array Oper) (Q:Exit->Act->World->Prop) (S:World->Prop):List (Bool × Oper)->Act->World->Prop
 | [],a,w=>Q .normal a w
 |(act,o)::rest,a,w=>
  if Il o (yielded ops a.tmps)=true then
   (if act=true then o.wp P a w (λa' w'=>S w'/\walk P ops Q S rest a' w') Q
    else∃v,(∀w',S w'->(execOp a.eval o).run P w'=.ok (.value v) w')/\walk P ops Q S rest (a.put o.dst v) w)
  else walk P ops Q S rest (a.put o.dst undef) w
def picked (l:List Oper) (ks:List (Nat × Bool)):List (Bool × Oper):=ks.filterMap λk=>(l[k.1]?).map λo=>(k.2,o)
section
variable {P:Program} {l:List Oper} {Q:Exit->Act->World->Prop} {S:World->Prop}
theorem held_of_walk (hs:Ij l.toArray=true) (hQ:∀c a d v w,Q (.panic c) (Ab a d v) w->Q (.panic c) a w):∀(ks:List (Nat × Bool)) (listed:Array Bool) (a:Act) (w:World),
 (∀k∈ks,k.1<l.length)->fits l.toArray ks listed=true->S w->walk P l.toArray Q S (picked l ks) a w->wpAnyH P .any l.toArray Q S ks.length listed a w
 | [],listed,a,w,_,hf,_,h=>wpAnyH_done (by simpa [fits] using hf) (by simpa [walk,picked] using h) _
 |(k,act)::ks,listed,a,w,hb,hf,hS,h=>by
  have hk:k<l.length:=hb (k,act) ZW;have hb':∀x∈ks,x.1<l.length:=λx hx=>hb x (by simp [hx]);have ho:l.toArray[k]?=some l[k]:=by simp [hk]
  have hp:picked l ((k,act)::ks)=(act,l[k])::picked l ks:=by simp [picked,hk]
  rw [hp] at h;simp only [fits,AM] at hf;obtain ⟨h1,h2⟩:=hf;simp only [walk] at h;cases act with
  | true=>
    simp only [if_true] at h h1;have hr:Ik .any l.toArray listed= [k]:=by simpa using h1
    refine wpAnyH_all hr ZW ?_;intro i hi;obtain rfl:i=k:=by simpa using hi
    unfold wpOp;simp only [ho];by_cases hw:Il l[i] (yielded l.toArray a.tmps)=true
    ·simp only [hw,if_true] at h ⊢
     exact .inl (Oper.wp_mono (λa' w' h'=>⟨h'.1,held_of_walk hs hQ ks _ a' w' hb' h2 h'.1 h'.2⟩) h)
    ·simp only [hw] at h ⊢;exact ⟨hS,held_of_walk hs hQ ks _ _ _ hb' h2 hS h⟩
  | false=>
    simp only [AT,if_false,AM] at h h1;by_cases hw:Il l[k] (yielded l.toArray a.tmps)=true
    ·simp only [hw,if_true] at h;obtain ⟨v,hv,h⟩:=h
     exact wpAnyH_take ho hs h1.2 h1.1 (λc a w=>hQ c a _ _ w) (.inl ⟨hw,hv⟩) hS (held_of_walk hs hQ ks _ _ _ hb' h2 hS h)
    ·simp only [hw] at h
     exact wpAnyH_take ho hs h1.2 h1.1 (λc a w=>hQ c a _ _ w) (.inr ⟨by simpa using hw,rfl⟩) hS (held_of_walk hs hQ ks _ _ _ hb' h2 hS h)
def good (l:List Oper) (ks:List (Nat × Bool)):Bool:=Ij l.toArray&&(decide (ks.length=l.length)&&(ks.all (λk=>decide (k.1<l.length))&&fits l.toArray ks (As l.length false)))
structure Step (P:Program) (ops:Array Oper) (Q:Exit->Act->World->Prop) (S:World->Prop) (l:List (Bool × Oper)) (a:Act) (w:World):Prop where
 out:walk P ops Q S l a w
theorem region (ks:List (Nat × Bool)) {id:Nat} {a:Act} {w:World} (S:World->Prop) (hm:P.follows .mixedOrders=true) (hg:good l ks=true)
 (hQ:∀c a d v w,Q (.panic c) (Ab a d v) w->Q (.panic c) a w) (hS:S (w.drewN 1)) (h:Step P l.toArray Q S (picked l ks) a (w.drewN 1)):(Code.region id l.toArray true).wp P Q a w:=by
 simp only [good,AM,D5,ZJ] at hg;obtain ⟨g0,g1,g2,g3⟩:=hg;refine wp_region_held (S:=S) hm ?_;have:=held_of_walk g0 hQ ks _ a _ g2 g3 hS h.out;rw [g1] at this;simpa [World.drewN] using this
variable {ops:Array Oper} {o:Oper} {rest:List (Bool × Oper)} {a:Act} {w:World} {act:Bool}
theorem skip (hw:Il o (yielded ops a.tmps)=false) (h:Step P ops Q S rest (a.put o.dst undef) w):Step P ops Q S ((act,o)::rest) a w:=
 ⟨by simp only [walk,hw,AT,if_false];exact h.out⟩
theorem quiet (hw:Il o (yielded ops a.tmps)=true) (v:Value) (hv:∀w',S w'->(execOp a.eval o).run P w'=.ok (.value v) w') (h:Step P ops Q S rest (a.put o.dst v) w):Step P ops Q S ((false,o)::rest) a w:=
 ⟨by simp only [walk,hw,if_true,AT,if_false];exact ⟨v,hv,h.out⟩⟩
theorem move (x:Operand) (hop:o.op=.move x) (hw:Il o (yielded ops a.tmps)=true) (h:Step P ops Q S rest (a.put o.dst (a.eval x)) w):Step P ops Q S ((false,o)::rest) a w:=
 quiet hw _ (λw' _=>BigFrame.run_move x hop w') h
theorem assign (x:Operand) (hop:o.op=.assign x) (hw:Il o (yielded ops a.tmps)=true) (h:Step P ops Q S rest (a.put o.dst (a.eval x)) w):Step P ops Q S ((false,o)::rest) a w:=
 quiet hw _ (λw' _=>BigFrame.run_assign x hop w') h
theorem change (hw:Il o (yielded ops a.tmps)=true) (h:∀K:Act->World->Prop,(∀a' w',S w'->Step P ops Q S rest a' w'->K a' w')->o.wp P a w K Q):Step P ops Q S ((true,o)::rest) a w:=by refine ⟨?_⟩;simp only [walk,hw,if_true];exact h _ λa' w' h1 h2=>⟨h1,h2.out⟩
theorem done (h:Q .normal a w):Step P ops Q S [] a w:=⟨h⟩
end
end Sched
namespace Tree
inductive Plan where
 | done:Plan
 | quiet (k:Nat) (t:Plan):Plan
 | act (k:Nat) (t:Plan):Plan
 | two (k:Nat) (t:Plan) (j:Nat) (s:Plan):Plan
inductive Way where
 | done:Way
 | stuck:Way
 | quiet (o:Oper) (t:Way):Way
 | act (o:Oper) (t:Way):Way
 | two (t:Way) (s:Way):Way
def put1 (f:Oper->Way):Option Oper->Way
 | some o=>f o
 | none=>.stuck
def grow (l:List Oper):Plan->Way
 | .done=>.done
 | .quiet k t=>put1 (λo=>.quiet o (grow l t)) l[k]?
 | .act k t=>put1 (λo=>.act o (grow l t)) l[k]?
 | .two k t j s=>.two (put1 (λo=>.act o (grow l t)) l[k]?) (put1 (λo=>.act o (grow l s)) l[j]?)
def fits (ops:Array Oper):Plan->Nat->Array Bool->Bool
 | .done,_,listed=>(Ik .any ops listed).isEmpty
 | .quiet k t,n+1,listed=>(Ik .any ops listed).contains k&&Region.free .any ops listed k&&fits ops t n (listed.setIfInBounds k true)
 | .act k t,n+1,listed=>Ik .any ops listed == [k]&&fits ops t n (listed.setIfInBounds k true)
 | .two k t j s,n+1,listed=>Ik .any ops listed == [k,j]&&fits ops t n (listed.setIfInBounds k true)&&fits ops s n (listed.setIfInBounds j true)
 | _,0,_=>false
def walk (P:Program) (ops:Array Oper) (Q:Exit->Act->World->Prop) (S:World->Prop):Way->Act->World->Prop
 | .done,a,w=>Q .normal a w
 | .stuck,_,_=>False
 | .quiet o t,a,w=>
   if Il o (yielded ops a.tmps)=true then∃v,(∀w',S w'->(execOp a.eval o).run P w'=.ok (.value v) w')/\walk P ops Q S t (a.put o.dst v) w
   else walk P ops Q S t (a.put o.dst undef) w
 | .act o t,a,w=>if Il o (yielded ops a.tmps)=true then o.wp P a w (λa' w'=>S w'/\walk P ops Q S t a' w') Q else walk P ops Q S t (a.put o.dst undef) w
 | .two t s,a,w=>walk P ops Q S t a w/\walk P ops Q S s a w
section
variable {P:Program} {l:List Oper} {Q:Exit->Act->World->Prop} {S:World->Prop}
theorem step_act {n k:Nat} {listed:Array Bool} {a:Act} {w:World} {t:Plan} (hS:S w)
 (ih:∀(a:Act) (w:World),S w->walk P l.toArray Q S (grow l t) a w->wpAnyH P .any l.toArray Q S n (listed.setIfInBounds k true) a w)
 (h:walk P l.toArray Q S (put1 (λo=>.act o (grow l t)) l[k]?) a w):wpOp P l.toArray Q k (λa' w'=>S w'/\wpAnyH P .any l.toArray Q S n (listed.setIfInBounds k true) a' w') a w:=by
 cases hk:l[k]? with
 | none=>rw [hk] at h;exact h.elim
 | some o=>
   rw [hk] at h;have ho:l.toArray[k]?=some o:=by simpa using hk
   unfold wpOp;simp only [ho];simp only [put1,walk] at h;by_cases hw:Il o (yielded l.toArray a.tmps)=true
   ·simp only [hw,if_true] at h ⊢
    exact .inl (Oper.wp_mono (λa' w' h'=>⟨h'.1,ih a' w' h'.1 h'.2⟩) h)
   ·simp only [hw] at h ⊢;exact ⟨hS,ih _ _ hS h⟩
theorem held_of_walk (hs:Ij l.toArray=true) (hQ:∀c a d v w,Q (.panic c) (Ab a d v) w->Q (.panic c) a w):∀(p:Plan) (n:Nat) (listed:Array Bool) (a:Act) (w:World),
 fits l.toArray p n listed=true->S w->walk P l.toArray Q S (grow l p) a w->wpAnyH P .any l.toArray Q S n listed a w
 | .done,n,listed,a,w,hf,_,h=>wpAnyH_done (by simpa [fits] using hf) (by simpa [walk,grow] using h) _
 | .quiet k t,0,listed,a,w,hf,_,_=>by simp [fits] at hf
 | .act k t,0,listed,a,w,hf,_,_=>by simp [fits] at hf
 | .two k t j s,0,listed,a,w,hf,_,_=>by simp [fits] at hf
 | .quiet k t,n+1,listed,a,w,hf,hS,h=>by
   simp only [fits,AM] at hf;obtain ⟨h1,h2⟩:=hf;cases hk:l[k]? with
   | none=>rw [grow,hk] at h;exact h.elim
   | some o=>
     rw [grow,hk] at h;have ho:l.toArray[k]?=some o:=by simpa using hk
     simp only [put1,walk] at h;by_cases hw:Il o (yielded l.toArray a.tmps)=true
     ·simp only [hw,if_true] at h;obtain ⟨v,hv,h⟩:=h
      exact wpAnyH_take ho hs h1.2 h1.1 (λc a w=>hQ c a _ _ w) (.inl ⟨hw,hv⟩) hS (held_of_walk hs hQ t n _ _ _ h2 hS h)
     ·simp only [hw] at h
      exact wpAnyH_take ho hs h1.2 h1.1 (λc a w=>hQ c a _ _ w) (.inr ⟨by simpa using hw,rfl⟩) hS (held_of_walk hs hQ t n _ _ _ h2 hS h)
 | .act k t,n+1,listed,a,w,hf,hS,h=>by
   simp only [fits,AM] at hf;obtain ⟨h1,h2⟩:=hf;have hr:Ik .any l.toArray listed= [k]:=by simpa using h1
   refine wpAnyH_all hr ZW ?_;intro i hi;obtain rfl:i=k:=by simpa using hi
   exact step_act hS (λa w hS h=>held_of_walk hs hQ t n _ a w h2 hS h) h
 | .two k t j s,n+1,listed,a,w,hf,hS,h=>by
   simp only [fits,AM] at hf;obtain ⟨⟨h1,h2⟩,h3⟩:=hf;have hr:Ik .any l.toArray listed= [k,j]:=by simpa using h1
   simp only [grow,walk] at h;refine wpAnyH_all hr ZW ?_;intro i hi;simp only [Fk,Fx,or_false] at hi;rcases hi with rfl | rfl
   ·exact step_act hS (λa w hS h=>held_of_walk hs hQ t n _ a w h2 hS h) h.1
   ·exact step_act hS (λa w hS h=>held_of_walk hs hQ s n _ a w h3 hS h) h.2
def good (l:List Oper) (p:Plan):Bool:=Ij l.toArray&&fits l.toArray p l.length (As l.length false)
structure Step (P:Program) (ops:Array Oper) (Q:Exit->Act->World->Prop) (S:World->Prop) (t:Way) (a:Act) (w:World):Prop where
 out:walk P ops Q S t a w
theorem region (p:Plan) {id:Nat} {a:Act} {w:World} (S:World->Prop) (hm:P.follows .mixedOrders=true) (hg:good l p=true)
 (hQ:∀c a d v w,Q (.panic c) (Ab a d v) w->Q (.panic c) a w) (hS:S (w.drewN 1)) (h:Step P l.toArray Q S (grow l p) a (w.drewN 1)):(Code.region id l.toArray true).wp P Q a w:=by
 simp only [good,AM] at hg;refine wp_region_held (S:=S) hm ?_;have:=held_of_walk hg.1 hQ p _ _ a _ hg.2 hS h.out;simpa [World.drewN] using this
variable {ops:Array Oper} {o:Oper} {t s:Way} {a:Act} {w:World}
theorem quiet (hw:Il o (yielded ops a.tmps)=true) (v:Value) (hv:∀w',S w'->(execOp a.eval o).run P w'=.ok (.value v) w') (h:Step P ops Q S t (a.put o.dst v) w):Step P ops Q S (.quiet o t) a w:=by exact ⟨by simp only [walk,hw,if_true];exact ⟨v,hv,h.out⟩⟩
theorem move (x:Operand) (hop:o.op=.move x) (hw:Il o (yielded ops a.tmps)=true) (h:Step P ops Q S t (a.put o.dst (a.eval x)) w):Step P ops Q S (.quiet o t) a w:=
 quiet hw _ (λw' _=>BigFrame.run_move x hop w') h
theorem assign (x:Operand) (hop:o.op=.assign x) (hw:Il o (yielded ops a.tmps)=true) (h:Step P ops Q S t (a.put o.dst (a.eval x)) w):Step P ops Q S (.quiet o t) a w:=
 quiet hw _ (λw' _=>BigFrame.run_assign x hop w') h
theorem change (hw:Il o (yielded ops a.tmps)=true) (h:∀K:Act->World->Prop,(∀a' w',S w'->Step P ops Q S t a' w'->K a' w')->o.wp P a w K Q):Step P ops Q S (.act o t) a w:=by refine ⟨?_⟩;simp only [walk,hw,if_true];exact h _ λa' w' h1 h2=>⟨h1,h2.out⟩
theorem both (h1:Step P ops Q S t a w) (h2:Step P ops Q S s a w):Step P ops Q S (.two t s) a w:=⟨⟨h1.out,h2.out⟩⟩
theorem done (h:Q .normal a w):Step P ops Q S .done a w:=⟨h⟩
end
end Tree
namespace App
variable {P:Program}
theorem run_append_zero (w:World) (t ty e:TypeId) (i:TypeInfo) (ht:P.underlying t=some (.slice e)) (hi:P.info? e=some i) (b:Option Addr) (n cap:Nat) (h:n<=cap) (a:Option Addr) (c:Nat) :
 (Bi #[t,t] ty #[.slice b n cap,.slice a 0 c]).run P w=.ok (.slice b n cap) w:=by
 have hb:∀x:Addr,(storeCells x []).run P w=.ok () w:=λx=>rfl;have hl:∀x:Addr,(loadCells x 0).run P w=.ok #[] w:=λx=>rfl;cases b<;>cases a<;>simp [Bi,run_underlying ht,sizeOf,typeInfo,hi,Builtin.lenOf,Builtin.firstCells,h,hb,hl]
theorem XXxqp {P:Prop} (h:P:=by
 rcases hown.2 with ⟨rfl,rfl⟩ | ⟨g,cap,cur,rfl,_,_,hc,_⟩
 ·exact ⟨none,0,rfl,Gi _⟩
 ·exact ⟨_,cap,rfl,hc⟩):P:=h
theorem run_append_list (w:World) (t ty:TypeId)
 (base:Nat) (e:TypeId) (i:TypeInfo) (z:Value) (size bytes:Nat) (ht:P.underlying t=some (.slice e)) (hi:P.info? e=some i) (hz:i.zero=some z)
 (hsize:i.size=size) (hby:i.bytes=bytes) (hzs:z.cells.size=size) (hsz:0<size)
 (v:Value) (n:Nat) (xs:List Value) (hown:w.ownsRow base e size v n xs)
 (xa:Option Addr) (m c:Nat) (news:List Value) (hl:news.length=m*size)
 (hnews:0<m->∃b off,xa=some ⟨b,off,none⟩/\∀j u,news[j]?=some u->w.cell? ⟨b,off+j,none⟩=some u) (h1:∀u∈news,u.oneCell'=true)
 (h63:n+m<=maxLen) (hbytes:(n+m)*bytes<=140737488355328) (hbase:base<=w.heap.size) :
 ∃v' w',(Bi #[t,t] ty #[v,.slice xa m c]).run P w=.ok v' w'/\w'.ownsRow base e size v' (n+m) (xs++news)/\w.grownBy w' v.ownBlock/\(v'.ownBlock=v.ownBlock∨v'.ownBlock=some w.heap.size):=by
 rcases Gg m with h0 | hp
 ·subst h0;obtain rfl:news= []:=by simpa using hl
  obtain ⟨b,cap,hv,hcap⟩:∃b cap,v=.slice b n cap/\n<=cap:=by exact XXxqp
  have hr:=run_append_zero (P:=P) w t ty e i ht hi b n cap hcap xa c;rw [←hv] at hr;exact ⟨v,w,hr,by rw [Nat.add_zero,D8];exact hown,⟨rfl,rfl,rfl,Gi _,λ_ _ _=>rfl⟩,.inl rfl⟩
 ·obtain ⟨b,off,rfl,hc⟩:=hnews hp
  obtain ⟨v',w',hr,h2,h3,_,h5⟩:=run_append_own_at (P:=P) w base t ty e i z size bytes ht hi hz hsize hby hzs hsz v n xs hown ⟨b,off,none⟩ m c news hl (λj u hj=>by
   have e2:Ac ⟨b,off,none⟩ j=⟨b,off+j,none⟩:=by unfold Ac;by_cases h:j=0<;>simp [h]
   rw [e2];exact hc j u hj) h1 h63 hbytes hbase
  exact ⟨v',w',hr,h2,h3,h5⟩
theorem wpList_append_list (w:World) {ops:Array Oper} {rest:List Oper} {o:Oper} {a:Act} {Q:Exit->Act->World->Prop} (hgd:o.guard=none) (s x:Operand) (t:TypeId)
 (ho:o.op=.call {callee:=.builtin .append,args:=#[s,x],argTypes:=#[t,t]})
 (base:Nat) (e:TypeId) (i:TypeInfo) (z:Value) (size bytes:Nat) (ht:P.underlying t=some (.slice e)) (hi:P.info? e=some i) (hz:i.zero=some z)
 (hsize:i.size=size) (hby:i.bytes=bytes) (hzs:z.cells.size=size) (hsz:0<size)
 (v:Value) (n:Nat) (xs:List Value) (hs:a.eval s=v) (hown:w.ownsRow base e size v n xs)
 (xa:Option Addr) (m c:Nat) (news:List Value) (hx:a.eval x=.slice xa m c) (hl:news.length=m*size)
 (hnews:0<m->∃b off,xa=some ⟨b,off,none⟩/\∀j u,news[j]?=some u->w.cell? ⟨b,off+j,none⟩=some u) (h1:∀u∈news,u.oneCell'=true)
 (h63:n+m<=maxLen) (hbytes:(n+m)*bytes<=140737488355328) (hbase:base<=w.heap.size)
 (h:∀v' w',w'.ownsRow base e size v' (n+m) (xs++news)->w.grownBy w' v.ownBlock->(v'=ZC none 0 0↔v=ZC none 0 0/\m=0)->(v'.ownBlock=v.ownBlock∨v'.ownBlock=some w.heap.size)->wpList P ops Q rest (a.put o.dst v') w') :
 wpList P ops Q (o::rest) a w:=by
 rcases Gg m with h0 | hp
 ·subst h0;obtain rfl:news= []:=by simpa using hl
  refine wpList_plain hgd λK hK=>?_;obtain ⟨b,cap,hv,hcap⟩:∃b cap,v=.slice b n cap/\n<=cap:=by exact XXxqp
  have hr:=run_append_zero (P:=P) w t o.type e i ht hi b n cap hcap xa c;rw [←hv] at hr;unfold Oper.wp execOp;simp only [ho,resolve,invoke,builtin,Sem.run_bind,Sem.run_pure,Result.andThen_ok,List.map_toArray,Fg,List.map_nil,hs,hx,hr]
  exact hK _ _ (h v w (by rw [Nat.add_zero,D8];exact hown) ⟨rfl,rfl,rfl,Gi _,λ_ _ _=>rfl⟩ ZW (.inl rfl))
 ·obtain ⟨b,off,rfl,hc⟩:=hnews hp
  exact wpList_append_own_at w hgd s x t ho base e i z size bytes ht hi hz hsize hby hzs hsz v n xs hs hown ⟨b,off,none⟩ m c news hx hl (λj u hj=>by
   have e2:Ac ⟨b,off,none⟩ j=⟨b,off+j,none⟩:=by unfold Ac;by_cases h:j=0<;>simp [h]
   rw [e2];exact hc j u hj) h1 h63 hbytes hbase h
end App
namespace Ls
open Base
theorem grown_of_below {w w':World} (hb:Below w.heap.size w w'):w.grownBy w' none:=⟨hb.os,hb.tape,hb.output,hb.size,λk hk _=>hb.block k hk⟩
theorem own_below {w w':World} {base:Nat} {e:TypeId} {size:Nat} {v:Value} {n:Nat} {xs:List Value} (h:w.ownsRow base e size v n xs) (hb:Below w.heap.size w w'):w'.ownsRow base e size v n xs:=
 h.kept (grown_of_below hb) (B4 _)
end Ls
namespace Table
open Base
end Table
theorem ZY {P:Prop} (h:P:=by kernel_rfl):P:=h
theorem ZX {P:Prop} (h:P:=by decide):P:=h
namespace Frame
open Go.ChangeShapes Go.WideShapes Go.ChangeAt Go.RowKit
open Go.ChangeMaps (open_string shut_string)
theorem own:ownKnob Mm.godebug=none:=ZY
theorem laidOut:laidOutB Mm=true:=ZY
section
variable {H:Type} {enc:TypeId × Value->H} {P:Program}
theorem trodAll_below (hl:laidOutB P=true) {W W':World} (hb:Below W.heap.size W W'):∀(ts:List TypeId) (vs:List Value) (ds:List (DataW H)) (ps:List MemPlace),
 ts.all (λt=>P.readableRec t&&decide (t<P.types.size))=true->DataW.TrodAll enc P W 0 (λ_=>true) true ts vs ds ps->(∀x∈ps,x.block<W.heap.size)->
 DataW.TrodAll enc P W' 0 (λb=>decide (b<W.heap.size)) true ts vs ds ps
 | [],vs,ds,ps,_,h,_=>by
   obtain ⟨rfl,rfl,rfl⟩:=trodAll_nil h;exact trodAll_mk0
 | t::ts,vs,ds,ps,hr,h,hlt=>by
   obtain ⟨v,vs',d,ds',p,q,rfl,rfl,rfl,h1,h2⟩:=trodAll_cons h;simp only [List.all_cons,AM,ZJ] at hr
   exact trodAll_cons_mk (Below.trod hl hr.1.1 hr.1.2 h1 hb (λx hx=>hlt x (by simp [hx]))) (trodAll_below hl hb ts vs' ds' q (by simpa using hr.2) h2 (λx hx=>hlt x (by simp [hx])))
theorem law_post {f:Func} {s:ChangeSpec} {bt:TypeId} {W W':World} {args:Array Value} {ds gs:List (DataW H)} {before:List MemPlace}
 (hl:laidOutB P=true) (hv:s.vars= []) (hread:f.params.toList.all (λt=>P.readableRec t&&decide (t<P.types.size))=true) (hres:f.resultTypes= #[bt]) (hbt:P.underlying bt=some .bool)
 (hspec:s.fn H ds={results:= [.lit (.bool true)],args:=ds})
 (hW:DataW.Whole enc P f.params.toList s.vars false W args.toList ds gs before) (hb:Below W.heap.size W W'):s.post enc P f false true false false W args (.bool true) W':=by
 have hW0:=hW;have hlt:=λp hp=>hW.lt p hp;obtain ⟨p,q,hA,hV,hpq,_,_⟩:=hW;rw [hv] at hV;obtain ⟨rfl,rfl⟩:=trodVars_none hV;have hp:before=p:=by simpa using hpq
 subst hp;refine ⟨ds,[],before,[],before,[],hW0,?_,?_,?_,hb.frame _,λh=>by cases h⟩
 ·simp only [D8,hspec,hres]
  exact trodAll_mk1 (shut_bool hbt _)
 ·simp only [D8,hspec];exact trodAll_below hl hb _ _ _ _ hread hA hlt
 ·simp only [D8,hspec,hv];first | rfl | exact ⟨rfl,rfl⟩
theorem open_num_slice {kd:IntKind} {t e:TypeId} {W:World} {v:Value} {d:DataW H} {ps:List MemPlace} (ht:P.underlying t=some (.slice e)) (he:P.underlying e=some (.int kd)) (hc:P.cellsOf e=1) {base:Nat}
 (hok:Value.okWide P W .any base t v) (h:DataW.Trod enc P W 0 (λ_=>true) true t v d ps) :
 ∃a len cap zs,v=.slice a len cap/\Base.Nums kd W a len zs/\len<=maxLen/\cap<=maxLen/\len<=cap/\∀n∈zs,(Lit.int kd n).wf=true:=by
 obtain ⟨a,len,cap,rfl⟩:=okWide_slice ht hok;obtain ⟨fuel,hf⟩:=h;rcases open_ints ht he hc hf with ⟨hcs,_⟩ | ⟨x,l,c,zs,hcs,_,hl,hm,hz,hx,hcell,hwz⟩
 ·simp [Value.cells] at hcs;obtain ⟨rfl,rfl,rfl⟩:=hcs;exact ⟨none,0,0,[],rfl,Base.Nums.nil _ _ _,ZX,ZX,Gi _,ZW⟩
 ·simp [Value.cells] at hcs;obtain ⟨rfl,rfl,rfl⟩:=hcs;simp at hz;refine ⟨some x,len,cap,zs.take len,rfl,⟨ZQ,λh0=>?_⟩,ZZ,hm,hl,λn hn=>hwz n (Ft hn)⟩;obtain ⟨b,off,spot⟩:=x;have c0:=hcell 0 ZZ;have hspot:spot=none:=by simpa [Ac] using World.cell?_spot c0
  subst hspot;refine ⟨b,off,rfl,?_,λk hk=>?_⟩
  ·rcases Gp b W.heap.size with hb | hb
   ·exact hb
   ·exfalso;have:W.heap[b]?=none:=Ao hb;simp [World.cell?,Ac,this] at c0
  ·have:=hcell k ZZ;rw [List.getElem?_take_of_lt hk];have e2:Ac ⟨b,off,none⟩ k=⟨b,off+k,none⟩:=by
    unfold Ac;by_cases h:k=0<;>simp [h]
   rw [e2] at this;simpa using this
end
end Frame
theorem XXws0 {P:Prop} (h:P:=by
 obtain ⟨k,hk,e⟩:=EC hm;have hk':k<i:=by simp at hk;omega
 exact g2 k hk' (by rw [Et ZZ];rw [List.getElem_take] at e;rw [e])):P:=h
theorem XX100 {P:Prop} (h:P:=by
 have h1:(ss.map Value.string)[k]?=some (ZD (ss[k]?.getD Bp)):=by rw [Ew,Et ZZ];rfl
 rw [←ht,List.getElem?_take_of_lt ZZ] at h1
 simpa using h1):P:=h
namespace Txt
open Base
def lowN (n:Int):Int:=if 65<=n/\n<=90 then n+32 else n
def lowB (b:UInt8):UInt8:=if 65<=b.toNat/\b.toNat<=90 then b+32 else b
theorem lowB_toNat (b:UInt8):((lowB b).toNat:Int)=lowN b.toNat:=by
 unfold lowB lowN;by_cases h:65<=b.toNat/\b.toNat<=90
 ·rw [ZN h,ZN ZZ,UInt8.toNat_add];have:(32:UInt8).toNat=32:=rfl;omega
 ·rw [ZO h,ZO ZZ]
theorem len (s:ByteArray):s.data.toList.length=s.size:=ZW
theorem len_mk (l:List UInt8):(ByteArray.mk l.toArray).size=l.length:=by rw [←len]
def low (l:List UInt8):List UInt8:=l.map lowB
def lower (s:ByteArray):ByteArray:=⟨(low s.data.toList).toArray⟩
theorem lower_size (s:ByteArray):(lower s).size=s.size:=by rw [lower,len_mk,low,EV,len]
theorem lower_list (s:ByteArray):(lower s).data.toList=low s.data.toList:=rfl
def same (a b:ByteArray):Bool:=low a.data.toList==low b.data.toList
theorem ba_ext {a b:ByteArray} (h:a.data.toList=b.data.toList):a=b:=by cases a;cases b;simp at h;rw [h]
theorem same_iff (a b:ByteArray):same a b=true↔lower a=lower b:=by unfold same;rw [beq_iff_eq];exact ⟨λh=>ba_ext (by rw [lower_list,lower_list,h]),λh=>by rw [←lower_list,←lower_list,h]⟩
theorem same_sizes {a b:ByteArray} (h:same a b=true):a.size=b.size:=by
 have:=ZH List.length (ZI.1 h)
 rwa [low,low,EV,EV,len,len] at this
theorem same_comm (a b:ByteArray):same a b=same b a:=by rw [AR,same_iff,same_iff];exact eq_comm
def trimL (p:UInt8->Bool) (l:List UInt8):List UInt8:=((l.dropWhile p).reverse.dropWhile p).reverse
def trimB (p:UInt8->Bool) (s:ByteArray):ByteArray:=⟨(trimL p s.data.toList).toArray⟩
theorem trimB_list (p:UInt8->Bool) (s:ByteArray):(trimB p s).data.toList=trimL p s.data.toList:=rfl
theorem dropWhile_all {p:UInt8->Bool}:∀{l r:List UInt8},(∀x∈l,p x=true)->(l++r).dropWhile p=r.dropWhile p
 | [],_,_=>rfl
 | x::l,r,h=>by
   rw [DC,DM,ZN (h x ZW)]
   exact dropWhile_all λy hy=>h y (by simp [hy])
theorem dropWhile_stop {p:UInt8->Bool} {x:UInt8} {l:List UInt8} (h:p x=false):(x::l).dropWhile p=x::l:=by rw [DM,if_neg (by simp [h])]
theorem trimL_mid (p:UInt8->Bool) (A M B:List UInt8) (hA:∀x∈A,p x=true) (hB:∀x∈B,p x=true) (hM:M= []∨((∃x r,M=x::r/\p x=false)/\∃x r,M=r ++ [x]/\p x=false)) :
 trimL p (A++(M++B))=M:=by
 unfold trimL;rw [dropWhile_all hA];rcases hM with rfl | ⟨⟨x,r,hx,px⟩,y,t,hy,py⟩
 ·rw [Fw,←D8 B,dropWhile_all hB];rfl
 ·have e1:(M++B).dropWhile p=M++B:=by rw [hx,DC];exact dropWhile_stop px
  rw [e1,F1,dropWhile_all (by intro z hz;exact hB z (by simpa using hz))];have e2:M.reverse.dropWhile p=M.reverse:=by rw [hy,F1,List.reverse_singleton,List.singleton_append];exact dropWhile_stop py
  rw [e2,List.reverse_reverse]
theorem trim_cut (p:UInt8->Bool) (s:ByteArray) (a b:Nat) (hab:a<=b) (hb:b<=s.size) (h1:∀x∈s.data.toList.take a,p x=true) (h2:∀x∈s.data.toList.drop b,p x=true)
 (h3:a<b->(∃h:a<s.size,p s[a]=false)/\∃h:b-1<s.size,p s[b-1]=false):s.extract a b=trimB p s:=by
 apply ba_ext;rw [trimB_list,Di];generalize hl:s.data.toList=l at *;have hsz:s.size=l.length:=by rw [←hl,len]
 have e:l=l.take a++((l.drop a).take (b-a)++l.drop b):=by
  have e1:l.drop b=(l.drop a).drop (b-a):=by rw [List.drop_drop];congr 1;omega
  rw [e1,FD,FD]
 have key:=trimL_mid p (l.take a) ((l.drop a).take (b-a)) (l.drop b) h1 h2 (by
  rcases Gp a b with hlt | hge
  ·obtain ⟨⟨ha,p1⟩,hb',p2⟩:=h3 hlt;have g1:s[a]=l[a]'(by omega):=by subst hl;rfl
   have g2:s[b-1]=l[b-1]'(by omega):=by subst hl;rfl
   right;refine ⟨⟨l[a]'(by omega),(l.drop (a+1)).take (b-a-1),?_,by rw [←g1];exact p1⟩,⟨l[b-1]'(by omega),(l.drop a).take (b-a-1),?_,by rw [←g2];exact p2⟩⟩
   ·rw [DR ZZ];obtain ⟨d,hd⟩:∃d,b-a=d+1:=⟨b-a-1,ZZ⟩;rw [hd];rfl
   ·have:(b-a-1)<(l.drop a).length:=by simp;omega
    have e3:=FG this;rw [show b-a=b-a-1+1 by omega,e3]
    congr 2
    rw [List.getElem_drop]
    congr 1
    omega
  ·left;rw [show b-a=0 by omega];rfl)
 rw [←e] at key;exact key.symm
def parts (c:UInt8):List UInt8->List (List UInt8)
 | []=> [[]]
 | b::l=>if b=c then []::parts c l else match parts c l with
   | []=> [[b]]
   | p::ps=>(b::p)::ps
theorem parts_none (c:UInt8):∀l:List UInt8,c∉l->parts c l= [l]
 | [],_=>rfl
 | b::l,h=>by
   simp only [Fk,not_or] at h;rw [parts,ZO (λe=>h.1 e.symm),parts_none c l h.2]
theorem parts_cut (c:UInt8):∀(a r:List UInt8),c∉a->parts c (a++c::r)=a::parts c r
 | [],r,_=>by rw [Fw,parts,ZN rfl]
 | b::a,r,h=>by
   simp only [Fk,not_or] at h;rw [DC,parts,ZO (λe=>h.1 e.symm),parts_cut c a r h.2]
theorem parts_length (c:UInt8):∀l:List UInt8,(parts c l).length=l.count c+1
 | []=>rfl
 | b::l=>by
   rw [parts];have ih:=parts_length c l;by_cases h:b=c
   ·subst h;rw [ZN rfl,EP,ih,List.count_cons_self]
   ·rw [ZO h,List.count_cons_of_ne h];cases hp:parts c l with
    | nil=>rw [hp] at ih;simp at ih
    | cons p ps=>rw [hp] at ih;simpa using ih
theorem parts_le (c:UInt8) (l:List UInt8):(parts c l).length<=l.length+1:=by rw [parts_length];have:=List.count_le_length (a:=c) (l:=l);omega
theorem parts_size (c:UInt8):∀l:List UInt8,∀p∈parts c l,p.length<=l.length
 | [],p,h=>by simp [parts] at h;subst h;simp
 | b::l,p,h=>by
   rw [parts] at h;have ih:=parts_size c l;split at h
   ·rcases Fk.1 h with rfl | h
    ·simp
    ·have:=ih p h;simp;omega
   ·cases hp:parts c l with
    | nil=>rw [hp] at h;simp at h;subst h;simp
    | cons q qs=>
      rw [hp] at h ih;rcases Fk.1 h with rfl | h
      ·have:=ih q ZW;simp;omega
      ·have:=ih p (by simp [h]);simp;omega
def ba (l:List UInt8):ByteArray:=⟨l.toArray⟩
theorem ba_size (l:List UInt8):(ba l).size=l.length:=len_mk l
theorem splitB_parts (c:UInt8):∀(k:Nat) (s:ByteArray),Lib.countB s ⟨#[c]⟩=k->Lib.splitB ⟨#[c]⟩ 0 k s=(parts c s.data.toList).map ba:=by
 have hsz:(ByteArray.mk #[c]).size=1:=rfl;have hix:∀s:ByteArray,Lib.indexB s ⟨#[c]⟩=Dn s.data.toList c:=λs=>Lib.index_one _ _
 have miss:∀s:ByteArray,Dn s.data.toList c= -1->parts c s.data.toList= [s.data.toList]:=λs h=>parts_none c _ (λhm=>by
  obtain ⟨k,hk,e⟩:=EC hm
  exact Lib.indexByte_none h k (by rw [Et hk,e]))
 intro k
 induction k with
 | zero=>
   intro s h;rw [Lib.splitB_zero];by_cases hi:Dn s.data.toList c= -1
   ·rw [miss s hi];rfl
   ·have:=Lib.indexByte_ge s.data.toList c;obtain ⟨i,hi'⟩:∃i:Nat,Dn s.data.toList c=i:=⟨(Dn s.data.toList c).toNat,ZZ⟩;have:=Lib.countB_hit s ⟨#[c]⟩ i (by rw [hsz];decide) (by rw [hix,hi']);omega
 | succ k ih=>
   intro s h;by_cases hi:Dn s.data.toList c= -1
   ·have:=Lib.countB_miss s ⟨#[c]⟩ (by rw [hix,hi]);omega
   ·have h0:=Lib.indexByte_ge s.data.toList c;obtain ⟨i,hi'⟩:∃i:Nat,Dn s.data.toList c=i:=⟨(Dn s.data.toList c).toNat,ZZ⟩;have h1:=Lib.countB_hit s ⟨#[c]⟩ i (by rw [hsz];decide) (by rw [hix,hi']);rw [Lib.splitB_hit _ _ _ _ i (by rw [hix,hi']),ih _ ZZ,hsz];obtain ⟨g1,g2⟩:=Lib.indexByte_some hi';have hlt:i<s.data.toList.length:=by
     rcases Gp i s.data.toList.length with h | h
     ·exact h
     ·rw [List.getElem?_eq_none h] at g1;cases g1
    have e1:s.data.toList=s.data.toList.take i++c::s.data.toList.drop (i+1):=by
     have hc:s.data.toList[i]=c:=by rw [Et hlt] at g1;exact GZ.inj g1
     conv=>lhs;rw [←FD i s.data.toList,DR hlt,hc]
    have hno:c∉s.data.toList.take i:=λhm=>by exact XXws0
    have e2:parts c s.data.toList=s.data.toList.take i::parts c (s.data.toList.drop (i+1)):=by
     conv=>lhs;rw [e1]
     exact parts_cut c _ _ hno
    rw [e2,Fg]
    congr 1
    ·apply ba_ext;rw [Di];simp [ba]
    ·congr 2
     rw [Di];rw [FF];rw [ER,len];omega
theorem countB_parts (c:UInt8) (s:ByteArray):Lib.countB s ⟨#[c]⟩+1=(parts c s.data.toList).length:=by have h:=congrArg List.length (splitB_parts c _ s rfl);rw [Lib.splitB_all _ (show 1<=(ByteArray.mk #[c]).size from Gi 1) 0 _ s rfl,EV] at h;exact h
def blank (b:UInt8):Bool:=b==32||b==9
def trim (s:ByteArray):ByteArray:=trimB blank s
def partsOf (s:ByteArray):List ByteArray:=(parts 44 s.data.toList).map λl=>trim (ba l)
def list (vs:List ByteArray):List ByteArray:=vs.flatMap partsOf
abbrev Fld:=ByteArray × ByteArray
def find (l:List Fld) (name:ByteArray):List ByteArray:=(l.filter λf=>same f.1 name).map (·.2)
def one (names:List ByteArray) (s:ByteArray):Bool:=names.any λn=>same n s
def without (l:List Fld) (names:List ByteArray):List Fld:=l.filter λf=>!one names f.1
theorem dropWhile_le (p:UInt8->Bool) (l:List UInt8):(l.dropWhile p).length<=l.length:=(List.dropWhile_sublist p).length_le
theorem trimL_length (p:UInt8->Bool) (l:List UInt8):(trimL p l).length<=l.length:=by unfold trimL;have h1:=dropWhile_le p l;have h2:=dropWhile_le p (l.dropWhile p).reverse;simp only [List.length_reverse] at h2 ⊢;omega
theorem trim_size (p:UInt8->Bool) (s:ByteArray):(trimB p s).size<=s.size:=by
 have:=trimL_length p s.data.toList
 rwa [trimB,len_mk,←len]
def Strs (w:World) (a:Option Addr) (n:Nat) (ss:List ByteArray):Prop:=
 ss.length=n/\(0<n->∃b off,a=some ⟨b,off,none⟩/\b<w.heap.size/\∀k,k<n->w.cell? ⟨b,off+k,none⟩=some (ZD (ss[k]?.getD Bp)))
theorem Strs.below {w w':World} {a:Option Addr} {n:Nat} {ss:List ByteArray} (h:Strs w a n ss) (hb:Below w.heap.size w w'):Strs w' a n ss:=by exact XXsyZ
theorem Strs.new (w:World) (cs:Array Value) (t:TypeId) (ss:List ByteArray) (n:Nat) (hn:ss.length=n) (h:∀k,k<n->cs[k]?=some (ZD (ss[k]?.getD Bp))) :
 Strs (w.alloc (.cells cs t)) (some ⟨w.heap.size,0,none⟩) n ss:=by
 refine ⟨hn,λ_=>⟨w.heap.size,0,rfl,ZW,λk hk=>?_⟩⟩;rw [Gy]
 exact (cell_of_row (w.alloc (.cells cs t)) w.heap.size k cs t (0,0) (heap_alloc_new w _)).trans (h k hk)
theorem Strs.made (w:World) (g:Nat) (hg:g=w.heap.size) (t:TypeId) (ss:List ByteArray) (n:Nat) (hn:ss.length=n):Strs (w.alloc (.cells ((ss.map Value.string).toArray) t)) (some ⟨g,0,none⟩) n ss:=by subst hg;refine Strs.new w _ t ss n hn λk hk=>?_;simp [Ew,Et (show k<ss.length by omega)]
theorem Strs.two (w:World) (g:Nat) (hg:g=w.heap.size) (t:TypeId) (x y:ByteArray):Strs (w.alloc (.cells #[ZD x,ZD y] t)) (some ⟨g,0,none⟩) 2 [x,y]:=Strs.made w g hg t [x,y] 2 rfl
theorem Strs.of_own {w:World} {base:Nat} {e:TypeId} {v:Value} {n:Nat} {ss:List ByteArray} (h:w.ownsRow base e 1 v n (ss.map Value.string)):∃A c,v=.slice A n c/\Strs w A n ss:=by
 have hl:ss.length=n:=by simpa using h.1
 rcases h.2 with ⟨rfl,rfl⟩ | ⟨g,cap,cur,rfl,_,hh,_,_,_,ht⟩
 ·exact ⟨none,0,rfl,hl,λh=>ZG h ZZ⟩
 ·refine ⟨_,_,rfl,hl,λ_=>⟨g,0,rfl,?_,λk hk=>?_⟩⟩
  ·rcases Gp g w.heap.size with hlt | hge
   ·exact hlt
   ·rw [Ao hge] at hh;cases hh
  ·rw [Gy,cell_of_row w g k cur e (0,0) hh];exact XX100
theorem Strs.grown {w w':World} {b off n:Nat} {ss:List ByteArray} (h:Strs w (some ⟨b,off,none⟩) n ss) {row:Option Nat} (hg:w.grownBy w' row) (hne:row≠some b):Strs w' (some ⟨b,off,none⟩) n ss:=by
 refine ⟨h.1,λhn=>?_⟩;obtain ⟨b',off',e,hlt,hc⟩:=h.2 hn;obtain ⟨rfl,rfl⟩:b=b'/\off=off':=by simpa using e
 exact ⟨b,off,rfl,Gn hlt hg.size,λk hk=>hg.cell (hc k hk) (λe=>hne e.symm)⟩
theorem strs_snoc (ss:List ByteArray) (k:Nat) (h:k<ss.length):ss.take (k+1)=ss.take k ++ [ss[k]?.getD Bp]:=by exact XX9Py
theorem grown_of_below {w w':World} (hb:Below w.heap.size w w'):w.grownBy w' none:=⟨hb.os,hb.tape,hb.output,hb.size,λk hk _=>hb.block k hk⟩
theorem own_below {w w':World} {base:Nat} {e:TypeId} {size:Nat} {v:Value} {n:Nat} {xs:List Value} (h:w.ownsRow base e size v n xs) (hb:Below w.heap.size w w'):w'.ownsRow base e size v n xs:=
 h.kept (grown_of_below hb) (B4 _)
theorem map_snoc {α β:Type} (f:α->β) (d:α) (l:List α) (j:Nat) (h:j<l.length):(l.map f).take (j+1)=(l.map f).take j ++ [f (l[j]?.getD d)]:=by rw [FG (by rw [EV];exact h),List.getElem_map,Et h];rfl
def cells (fs:List Fld):List Value:=fs.flatMap λf=> [ZD f.1,ZD f.2]
theorem cells_length:∀fs:List Fld,(cells fs).length=fs.length*2
 | []=>rfl
 | f::fs=>by simp [cells] at *;have:=cells_length fs;simp [cells] at this;omega
theorem cells_append (fs gs:List Fld):cells (fs++gs)=cells fs++cells gs:=by simp [cells]
def dflt:Fld:=(Bp,Bp)
theorem cells_at:∀(fs:List Fld) (k:Nat),k<fs.length->(cells fs)[k*2]?=some (ZD (fs[k]?.getD dflt).1)/\(cells fs)[k*2+1]?=some (ZD (fs[k]?.getD dflt).2)
 | [],k,h=>by simp at h
 | f::fs,0,_=>by simp [cells]
 | f::fs,k+1,h=>by
   have:=cells_at fs k (by simpa using h);have e:cells (f::fs)=ZD f.1 :: ZD f.2::cells fs:=by simp [cells]
   rw [e,show (k+1)*2=k*2+2 by omega,show k*2+2+1=(k*2+1)+2 by omega];simpa using this
def Flds (w:World) (a:Option Addr) (n:Nat) (fs:List Fld):Prop:=
 fs.length=n/\(0<n->∃b off,a=some ⟨b,off,none⟩/\b<w.heap.size/\∀k,k<n->w.cell? ⟨b,off+k*2,none⟩=some (ZD (fs[k]?.getD dflt).1)/\w.cell? ⟨b,off+k*2+1,none⟩=some (ZD (fs[k]?.getD dflt).2))
theorem Flds.nil (w:World) (a:Option Addr):Flds w a 0 []:=⟨rfl,λh=>absurd h ZZ⟩
theorem Flds.below {w w':World} {a:Option Addr} {n:Nat} {fs:List Fld} (h:Flds w a n fs) (hb:Below w.heap.size w w'):Flds w' a n fs:=by exact XXsyZ
theorem Flds.of_cells {w:World} {b:Nat} {fs:List Fld} {n:Nat} (hn:fs.length=n) (hb:b<w.heap.size) (h:∀j,j<n*2->w.cell? ⟨b,j,none⟩=(cells fs)[j]?):Flds w (some ⟨b,0,none⟩) n fs:=by
 refine ⟨hn,λ_=>⟨b,0,rfl,hb,λk hk=>?_⟩⟩;have:=cells_at fs k ZZ;rw [Gy,h (k*2) ZZ,h (k*2+1) ZZ];exact this
theorem Flds.of_own {w:World} {base:Nat} {e:TypeId} {v:Value} {n:Nat} {fs:List Fld} (h:w.ownsRow base e 2 v n (cells fs)):∃A c,v=.slice A n c/\Flds w A n fs:=by
 have hl:fs.length=n:=by have:=h.1;rw [cells_length] at this;omega
 rcases Gg n with h0 | hp
 ·subst h0;rcases h.2 with ⟨rfl,_⟩ | ⟨g,cap,cur,rfl,_⟩
  ·exact ⟨none,0,rfl,hl,λh=>ZG h ZZ⟩
  ·exact ⟨_,_,rfl,hl,λh=>ZG h ZZ⟩
 ·obtain ⟨g,cap,rfl,_,hg⟩:=h.form hp;exact ⟨_,_,rfl,Flds.of_cells hl hg λj hj=>h.cellAt j hj⟩
theorem flds_snoc (fs:List Fld) (k:Nat) (h:k<fs.length):fs.take (k+1)=fs.take k ++ [fs[k]?.getD dflt]:=by exact XX9Py
end Txt
namespace Txt
open Base
def nums (bs:List UInt8):List Int:=bs.map λb=>(b.toNat:Int)
theorem nums_at (bs:List UInt8) (k:Nat) (h:k<bs.length):(nums bs)[k]?.getD 0=(bs[k].toNat:Int):=by rw [nums,Ew,Et h];rfl
theorem conv_str (w:World) (a:Option Addr) (n cap:Nat) (bs:List UInt8) (h:Nums .u8 w a n (nums bs)):(convert 22 9 (.slice a n cap)).run Mm w=.ok (ZD (ba bs)) w:=by
 have hl:bs.length=n:=by have:=h.1;rwa [nums,EV] at this
 have key:∀b off,(∀k,k<n->w.cell? ⟨b,off+k,none⟩=some (ZE Z6 ((nums bs)[k]?.getD 0)))->(convert 22 9 (ZC (some ⟨b,off,none⟩) n cap)).run Mm w=.ok (ZD (ba bs)) w:=by
  intro b off hc
  have:=run_convert_bytes_back (P:=Mm) w 22 9 5 ⟨b,off,none⟩ cap bs MZ Nr Ns (λj hj=>by
   have e:(⟨b,off,none⟩:Addr).add j=⟨b,off+j,none⟩:=by unfold Ac;by_cases h:j=0<;>simp [h]
   rw [e,hc j ZZ,nums_at bs j hj])
  rw [hl] at this;exact this
 rcases Gg n with h0 | hp
 ·subst h0;obtain rfl:bs= []:=ET.1 hl;cases a with
  | none=>rw [run_convert_bytes_string w 22 9 5 none 0 cap MZ Nr Ns];rfl
  | some x=>
    exact run_convert_bytes_back (P:=Mm) w 22 9 5 x cap [] MZ Nr Ns (λj hj=>by simp at hj)
 ·obtain ⟨b,off,rfl,_,hc⟩:=h.2 hp;exact key b off hc
def Lines (w:World) (a:Option Addr) (n:Nat) (ls:List (List UInt8)):Prop:=
 ls.length=n/\(0<n->∃b off,a=some ⟨b,off,none⟩/\b<w.heap.size/\∀k,k<n->∃ak ck,w.cell? ⟨b,off+k,none⟩=some (.slice ak (ls[k]?.getD []).length ck)/\Nums .u8 w ak (ls[k]?.getD []).length (nums (ls[k]?.getD [])))
end Txt
end Go.Proofs.YtdfabddnpgjepaaGreatDoor
namespace Go.Proofs
open Go.Proofs.YtdfabddnpgjepaaGreatDoor (ZH ZY)
open Go.Shelf
def Tryz.lays169_ren:C4:=⟨fun | 169=>172 | n=>n,fun | 70=>178 | 9=>9 | 0=>0 | 72=>180 | 37=>22 | 127=>204 | 3=>3 | 5=>5 | n=>n,fun | n=>n⟩
theorem Tryz.lays169:Go.Proofs.Lays.n169 Mm Tryz.lays169_ren:={
 mixed:=ZY
 f169:=Tryz.func172.trans (ZH some ZY)
 t0:=MT
 a0:=KC
 z0:=M5
 v0:=Nu
 t3:=Nm
 a3:=KI
 z3:=MB
 v3:=N8
 t9:=Ns
 a9:=KL
 z9:=ME
 v9:=NB
 t37:=MZ
 a37:=Tryz.isAgg22
 z37:=Tryz.sizeOf22
 v37:=Tryz.zeroValue22
 t70:=Tryz.underlying178
 a70:=Tryz.isAgg178
 z70:=Tryz.sizeOf178
 v70:=Tryz.zeroValue178
 t72:=Tryz.underlying180
 a72:=Tryz.isAgg180
 z72:=Tryz.sizeOf180
 v72:=Tryz.zeroValue180
 t127:=Tryz.underlying204
 a127:=Tryz.isAgg204
 z127:=Tryz.sizeOf204
 v127:=Tryz.zeroValue204}
theorem Tryz.Builder_Extra_169:Builder.Extra Mm Tryz.lays169_ren:={
 sizeBuilder:=ZY
 liesBuilder:=ZY
 t5:=Nr
 a5:=KK
 z5:=MD
 v5:=NA
 infoByte:=ZY
 cellsByte:=ZY
 sizeByte:=ZY
 neB5:=by decide}
def Tryz.lays231_ren:C4:=⟨fun | 231=>315 | n=>n,fun | 9=>9 | 5=>5 | 3=>3 | 4=>4 | n=>n,fun | n=>n⟩
def Tryz.lays161_ren:C4:=⟨fun | 161=>300 | 231=>315 | 227=>316 | 233=>317 | 235=>318 | 228=>324 | 197=>257 | 151=>327 | 260=>278 | 152=>322 | 137=>329 | 119=>330 | 224=>281 | 225=>280 | 217=>279 | 266=>301 | n=>n,fun | 9=>9 | 4=>4 | 3=>3 | 5=>5 | 117=>294 | 116=>293 | 0=>0 | 124=>297 | 105=>255 | 21=>21 | 119=>281 | 46=>102 | 139=>284 | 138=>283 | n=>n,fun | 3=>1 | 4=>2 | n=>n⟩
theorem Tryz.lays161:Go.Proofs.Lays.n161 Mm Tryz.lays161_ren:={
 mixed:=ZY
 f119:=Tryz.func330.trans (ZH some ZY)
 f137:=Tryz.func329.trans (ZH some ZY)
 f151:=Tryz.func327.trans (ZH some ZY)
 f152:=K6.trans (ZH some ZY)
 f161:=Tryz.func300.trans (ZH some ZY)
 f197:=Tryz.func257.trans (ZH some ZY)
 f217:=Ks.trans (ZH some ZY)
 f224:=Kv.trans (ZH some ZY)
 f225:=Ku.trans (ZH some ZY)
 f227:=Tryz.func316.trans (ZH some ZY)
 f228:=Tryz.func324.trans (ZH some ZY)
 f231:=Tryz.func315.trans (ZH some ZY)
 f233:=Tryz.func317.trans (ZH some ZY)
 f235:=Tryz.func318.trans (ZH some ZY)
 f260:=Tryz.func278.trans (ZH some ZY)
 f266:=K3.trans (ZH some ZY)
 t0:=MT
 a0:=KC
 z0:=M5
 v0:=Nu
 t3:=Nm
 a3:=KI
 z3:=MB
 v3:=N8
 t4:=Np
 a4:=KJ
 z4:=MC
 v4:=N9
 t5:=Nr
 a5:=KK
 z5:=MD
 v5:=NA
 t9:=Ns
 a9:=KL
 z9:=ME
 v9:=NB
 t21:=MY
 a21:=KF
 z21:=M8
 v21:=Nx
 t46:=MU
 a46:=KD
 z46:=M6
 v46:=Nv
 t105:=Tryz.underlying255
 a105:=Tryz.isAgg255
 z105:=Tryz.sizeOf255
 v105:=Tryz.zeroValue255
 t116:=Tryz.underlying293
 a116:=Tryz.isAgg293
 z116:=Tryz.sizeOf293
 t117:=Tryz.underlying294
 a117:=Tryz.isAgg294
 z117:=Tryz.sizeOf294
 v117:=Tryz.zeroValue294
 t119:=Tryz.underlying281
 a119:=Tryz.isAgg281
 z119:=Tryz.sizeOf281
 t124:=Tryz.underlying297
 a124:=Tryz.isAgg297
 z124:=Tryz.sizeOf297
 v124:=Tryz.zeroValue297
 t138:=Tryz.underlying283
 a138:=Tryz.isAgg283
 z138:=Tryz.sizeOf283
 v138:=Tryz.zeroValue283
 t139:=Tryz.underlying284
 a139:=Tryz.isAgg284
 z139:=Tryz.sizeOf284
 v139:=Tryz.zeroValue284
 g3:=ZY
 g4:=by kernel_rfl}
open Go.RowKit in
theorem Tryz.strings_TrimLeft_one (s:ByteArray) (c:UInt8) (hc:c.toNat<128) (w:World) :
 Calls Mm 300 #[ZD s,ZD ⟨#[c]⟩] w λe w'=>e=.returned (ZD ⟨(Dw s.data.toList c).toArray⟩)/\w'=w:=Any.strings_TrimLeft_one Tryz.lays161 s c hc w
def Tryz.lays119_ren:C4:=⟨fun | 119=>330 | n=>n,fun | 21=>21 | 4=>4 | n=>n,fun | n=>n⟩
theorem Tryz.lays119:Go.Proofs.Lays.n119 Mm Tryz.lays119_ren:={
 mixed:=ZY
 f119:=Tryz.func330.trans (ZH some ZY)
 t4:=Np
 a4:=KJ
 z4:=MC
 v4:=N9
 t21:=MY
 a21:=KF
 z21:=M8
 v21:=Nx}
theorem Tryz.utf8_ValidRune (r:Int) (w:World) :
 Calls Mm 330 #[.int .i32 r] w λe w'=>e=.returned (ZB (Lib.validRune r))/\w'=w:=Any.utf8_ValidRune Tryz.lays119 r w
def Tryz.lays137_ren:C4:=⟨fun | 137=>329 | 217=>279 | 266=>301 | n=>n,fun | 9=>9 | 5=>5 | 3=>3 | n=>n,fun | n=>n⟩
theorem Tryz.lays137:Go.Proofs.Lays.n137 Mm Tryz.lays137_ren:={
 mixed:=ZY
 f137:=Tryz.func329.trans (ZH some ZY)
 f217:=Ks.trans (ZH some ZY)
 f266:=K3.trans (ZH some ZY)
 t3:=Nm
 a3:=KI
 z3:=MB
 v3:=N8
 t5:=Nr
 a5:=KK
 z5:=MD
 v5:=NA
 t9:=Ns
 a9:=KL
 z9:=ME
 v9:=NB}
open Go.RowKit in
theorem Tryz.strings_IndexByte (s:ByteArray) (c:Int) (w:World) :
 Calls Mm 329 #[ZD s,ZE Z6 c] w λe w'=>e=.returned (ZE Z7 (Dn s.data.toList c.toNat.toUInt8))/\w'=w:=Any.strings_IndexByte Tryz.lays137 s c w
open Go.RowKit in
theorem Tryz.Builder_String_any_f (B b:Nat) (l:List UInt8) (w:World) (h:CZ 180 5 B b (Da l) w) (hBw:B<=w.heap.size) :
 Calls Mm 172 #[ZA (some ⟨b,0,none⟩)] w λe w'=>e=.returned (ZD ⟨l.toArray⟩)/\(CZ 180 5 B b (Da l) w'/\Below B w w'):=Any.Builder_String_any_f Tryz.lays169 Tryz.Builder_Extra_169 B b l w h hBw
def Tryz.lays217_ren:C4:=⟨fun | 217=>279 | 266=>301 | n=>n,fun | 9=>9 | 5=>5 | 3=>3 | n=>n,fun | n=>n⟩
def Tryz.lays224_ren:C4:=⟨fun | 224=>281 | n=>n,fun | 3=>3 | n=>n,fun | n=>n⟩
def Tryz.lays314_ren:C4:=⟨fun | 314=>302 | n=>n,fun | 9=>9 | 51=>23 | 3=>3 | 4=>4 | 5=>5 | 46=>102 | n=>n,fun | n=>n⟩
def Tryz.lays267_ren:C4:=⟨fun | 267=>282 | 314=>302 | n=>n,fun | 9=>9 | 3=>3 | 146=>285 | 51=>23 | 4=>4 | 5=>5 | 46=>102 | n=>n,fun | n=>n⟩
def Tryz.lays219_ren:C4:=⟨fun | 219=>259 | 217=>279 | 225=>280 | 224=>281 | 267=>282 | 266=>301 | 314=>302 | n=>n,fun | 9=>9 | 3=>3 | 4=>4 | 5=>5 | 46=>102 | 146=>285 | 51=>23 | n=>n,fun | 1=>0 | n=>n⟩
theorem Tryz.lays219:Go.Proofs.Lays.n219 Mm Tryz.lays219_ren:={
 mixed:=ZY
 f217:=Ks.trans (ZH some ZY)
 f219:=Tryz.func259.trans (ZH some ZY)
 f224:=Kv.trans (ZH some ZY)
 f225:=Ku.trans (ZH some ZY)
 f266:=K3.trans (ZH some ZY)
 f267:=Tryz.func282.trans (ZH some ZY)
 f314:=Tryz.func302.trans (ZH some ZY)
 t3:=Nm
 a3:=KI
 z3:=MB
 v3:=N8
 t4:=Np
 a4:=KJ
 z4:=MC
 v4:=N9
 t5:=Nr
 a5:=KK
 z5:=MD
 v5:=NA
 t9:=Ns
 a9:=KL
 z9:=ME
 v9:=NB
 t46:=MU
 a46:=KD
 z46:=M6
 v46:=Nv
 t51:=Nc
 a51:=Tryz.isAgg23
 z51:=M9
 v51:=Ny
 t146:=Ni
 a146:=KH
 z146:=MA
 v146:=N5
 g1:=by kernel_rfl}
open Go.RowKit Go.Lib in
theorem Tryz.stringslite_Index_one (s:ByteArray) (c:UInt8) (w:World) :
 Calls Mm 259 #[ZD s,ZD ⟨#[c]⟩] w λe w'=>e=.returned (ZE Z7 (Dn s.data.toList c))/\w'=w:=Any.stringslite_Index_one Tryz.lays219 s c w
def Tryz.lays143_ren:C4:=⟨fun | 143=>239 | 219=>259 | 217=>279 | 225=>280 | 224=>281 | 267=>282 | 266=>301 | 314=>302 | n=>n,fun | 9=>9 | 3=>3 | 4=>4 | 5=>5 | 46=>102 | 146=>285 | 51=>23 | n=>n,fun | 1=>0 | n=>n⟩
theorem Tryz.lays143:Go.Proofs.Lays.n143 Mm Tryz.lays143_ren:={
 mixed:=ZY
 f143:=Tryz.func239.trans (ZH some ZY)
 f217:=Ks.trans (ZH some ZY)
 f219:=Tryz.func259.trans (ZH some ZY)
 f224:=Kv.trans (ZH some ZY)
 f225:=Ku.trans (ZH some ZY)
 f266:=K3.trans (ZH some ZY)
 f267:=Tryz.func282.trans (ZH some ZY)
 f314:=Tryz.func302.trans (ZH some ZY)
 t3:=Nm
 a3:=KI
 z3:=MB
 v3:=N8
 t4:=Np
 a4:=KJ
 z4:=MC
 v4:=N9
 t5:=Nr
 a5:=KK
 z5:=MD
 v5:=NA
 t9:=Ns
 a9:=KL
 z9:=ME
 v9:=NB
 t46:=MU
 a46:=KD
 z46:=M6
 v46:=Nv
 t51:=Nc
 a51:=Tryz.isAgg23
 z51:=M9
 v51:=Ny
 t146:=Ni
 a146:=KH
 z146:=MA
 v146:=N5
 g1:=by kernel_rfl}
open Go.RowKit Go.Lib in
theorem Tryz.strings_Index_one (s:ByteArray) (c:UInt8) (w:World) :
 Calls Mm 239 #[ZD s,ZD ⟨#[c]⟩] w λe w'=>e=.returned (ZE Z7 (Dn s.data.toList c))/\w'=w:=Any.strings_Index_one Tryz.lays143 s c w
def Tryz.lays144_ren:C4:=⟨fun | 144=>304 | 143=>239 | 219=>259 | 217=>279 | 225=>280 | 224=>281 | 267=>282 | 266=>301 | 314=>302 | n=>n,fun | 9=>9 | 4=>4 | 3=>3 | 5=>5 | 46=>102 | 146=>285 | 51=>23 | n=>n,fun | 1=>0 | n=>n⟩
theorem Tryz.lays144:Go.Proofs.Lays.n144 Mm Tryz.lays144_ren:={
 mixed:=ZY
 f143:=Tryz.func239.trans (ZH some ZY)
 f144:=Tryz.func304.trans (ZH some ZY)
 f217:=Ks.trans (ZH some ZY)
 f219:=Tryz.func259.trans (ZH some ZY)
 f224:=Kv.trans (ZH some ZY)
 f225:=Ku.trans (ZH some ZY)
 f266:=K3.trans (ZH some ZY)
 f267:=Tryz.func282.trans (ZH some ZY)
 f314:=Tryz.func302.trans (ZH some ZY)
 t3:=Nm
 a3:=KI
 z3:=MB
 v3:=N8
 t4:=Np
 a4:=KJ
 z4:=MC
 v4:=N9
 t5:=Nr
 a5:=KK
 z5:=MD
 v5:=NA
 t9:=Ns
 a9:=KL
 z9:=ME
 v9:=NB
 t46:=MU
 a46:=KD
 z46:=M6
 v46:=Nv
 t51:=Nc
 a51:=Tryz.isAgg23
 z51:=M9
 v51:=Ny
 t146:=Ni
 a146:=KH
 z146:=MA
 v146:=N5
 g1:=by kernel_rfl}
open Go.RowKit Go.Lib in
theorem Tryz.strings_Contains_one (s:ByteArray) (c:UInt8) (w:World) :
 Calls Mm 304 #[ZD s,ZD ⟨#[c]⟩] w λe w'=>e=.returned (ZB (decide (0<=Dn s.data.toList c)))/\w'=w:=Any.strings_Contains_one Tryz.lays144 s c w
def Tryz.lays220_ren:C4:=⟨fun | 220=>298 | 219=>259 | 217=>279 | 225=>280 | 224=>281 | 267=>282 | 266=>301 | 314=>302 | n=>n,fun | 9=>9 | 4=>4 | 3=>3 | 5=>5 | 46=>102 | 146=>285 | 51=>23 | n=>n,fun | 1=>0 | n=>n⟩
def Tryz.lays145_ren:C4:=⟨fun | 145=>271 | 220=>298 | 219=>259 | 217=>279 | 225=>280 | 224=>281 | 267=>282 | 266=>301 | 314=>302 | n=>n,fun | 9=>9 | 4=>4 | 59=>268 | 3=>3 | 5=>5 | 46=>102 | 146=>285 | 51=>23 | n=>n,fun | 1=>0 | n=>n⟩
def Tryz.lays138_ren:C4:=⟨fun | 138=>238 | 195=>256 | 218=>258 | 143=>239 | 219=>259 | 217=>279 | 225=>280 | 224=>281 | 267=>282 | 266=>301 | 314=>302 | n=>n,fun | 9=>9 | 3=>3 | 4=>4 | 5=>5 | 0=>0 | 46=>102 | 146=>285 | 51=>23 | n=>n,fun | 1=>0 | n=>n⟩
theorem Tryz.lays138:Go.Proofs.Lays.n138 Mm Tryz.lays138_ren:={
 mixed:=ZY
 f138:=Tryz.func238.trans (ZH some ZY)
 f143:=Tryz.func239.trans (ZH some ZY)
 f195:=Tryz.func256.trans (ZH some ZY)
 f217:=Ks.trans (ZH some ZY)
 f218:=Tryz.func258.trans (ZH some ZY)
 f219:=Tryz.func259.trans (ZH some ZY)
 f224:=Kv.trans (ZH some ZY)
 f225:=Ku.trans (ZH some ZY)
 f266:=K3.trans (ZH some ZY)
 f267:=Tryz.func282.trans (ZH some ZY)
 f314:=Tryz.func302.trans (ZH some ZY)
 t0:=MT
 a0:=KC
 z0:=M5
 v0:=Nu
 t3:=Nm
 a3:=KI
 z3:=MB
 v3:=N8
 t4:=Np
 a4:=KJ
 z4:=MC
 v4:=N9
 t5:=Nr
 a5:=KK
 z5:=MD
 v5:=NA
 t9:=Ns
 a9:=KL
 z9:=ME
 v9:=NB
 t46:=MU
 a46:=KD
 z46:=M6
 v46:=Nv
 t51:=Nc
 a51:=Tryz.isAgg23
 z51:=M9
 v51:=Ny
 t146:=Ni
 a146:=KH
 z146:=MA
 v146:=N5
 g1:=by kernel_rfl}
open Go.RowKit Go.Lib in
theorem Tryz.strings_Count_one (s:ByteArray) (c:UInt8) (w:World) :
 Calls Mm 238 #[ZD s,ZD ⟨#[c]⟩] w λe w'=>e=.returned (ZE Z7 (Lib.countByte s.data.toList c))/\w'=w:=Any.strings_Count_one Tryz.lays138 s c w
def Tryz.laysM219_ren:C4:=⟨fun | 219=>259 | 217=>279 | 225=>280 | 224=>281 | 267=>282 | 266=>301 | 314=>302 | n=>n,fun | 9=>9 | 3=>3 | 4=>4 | 5=>5 | 46=>102 | 146=>285 | 51=>23 | n=>n,fun | 1=>0 | n=>n⟩
def Tryz.laysM143_ren:C4:=⟨fun | 143=>239 | 219=>259 | 217=>279 | 225=>280 | 224=>281 | 267=>282 | 266=>301 | 314=>302 | n=>n,fun | 9=>9 | 3=>3 | 4=>4 | 5=>5 | 46=>102 | 146=>285 | 51=>23 | n=>n,fun | 1=>0 | n=>n⟩
def Tryz.laysM144_ren:C4:=⟨fun | 144=>304 | 143=>239 | 219=>259 | 217=>279 | 225=>280 | 224=>281 | 267=>282 | 266=>301 | 314=>302 | n=>n,fun | 9=>9 | 4=>4 | 3=>3 | 5=>5 | 46=>102 | 146=>285 | 51=>23 | n=>n,fun | 1=>0 | n=>n⟩
def Tryz.laysM220_ren:C4:=⟨fun | 220=>298 | 219=>259 | 217=>279 | 225=>280 | 224=>281 | 267=>282 | 266=>301 | 314=>302 | n=>n,fun | 9=>9 | 4=>4 | 3=>3 | 5=>5 | 46=>102 | 146=>285 | 51=>23 | n=>n,fun | 1=>0 | n=>n⟩
def Tryz.laysM145_ren:C4:=⟨fun | 145=>271 | 220=>298 | 219=>259 | 217=>279 | 225=>280 | 224=>281 | 267=>282 | 266=>301 | 314=>302 | n=>n,fun | 9=>9 | 4=>4 | 59=>268 | 3=>3 | 5=>5 | 46=>102 | 146=>285 | 51=>23 | n=>n,fun | 1=>0 | n=>n⟩
def Tryz.laysM138_ren:C4:=⟨fun | 138=>238 | 195=>256 | 218=>258 | 143=>239 | 219=>259 | 217=>279 | 225=>280 | 224=>281 | 267=>282 | 266=>301 | 314=>302 | n=>n,fun | 9=>9 | 3=>3 | 4=>4 | 5=>5 | 0=>0 | 46=>102 | 146=>285 | 51=>23 | n=>n,fun | 1=>0 | n=>n⟩
def Tryz.lays206_ren:C4:=⟨fun | 206=>305 | n=>n,fun | 9=>9 | 4=>4 | 3=>3 | n=>n,fun | n=>n⟩
def Tryz.lays99_ren:C4:=⟨fun | 99=>288 | 206=>305 | n=>n,fun | 9=>9 | 4=>4 | 3=>3 | n=>n,fun | n=>n⟩
theorem Tryz.lays99:Go.Proofs.Lays.n99 Mm Tryz.lays99_ren:={
 mixed:=ZY
 f99:=Tryz.func288.trans (ZH some ZY)
 f206:=Tryz.func305.trans (ZH some ZY)
 t3:=Nm
 a3:=KI
 z3:=MB
 v3:=N8
 t4:=Np
 a4:=KJ
 z4:=MC
 v4:=N9
 t9:=Ns
 a9:=KL
 z9:=ME
 v9:=NB}
open Go.RowKit Go.Lib in
theorem Tryz.strings_HasPrefix (s p:ByteArray) (w:World) :
 Calls Mm 288 #[ZD s,ZD p] w λe w'=>e=.returned (ZB (Lib.hasPrefix s.data.toList p.data.toList))/\w'=w:=Any.strings_HasPrefix Tryz.lays99 s p w
def Tryz.lays208_ren:C4:=⟨fun | 208=>313 | 206=>305 | n=>n,fun | 9=>9 | 4=>4 | 3=>3 | n=>n,fun | n=>n⟩
def Tryz.lays101_ren:C4:=⟨fun | 101=>296 | 208=>313 | 206=>305 | n=>n,fun | 9=>9 | 4=>4 | 3=>3 | n=>n,fun | n=>n⟩
theorem Tryz.lays101:Go.Proofs.Lays.n101 Mm Tryz.lays101_ren:={
 mixed:=ZY
 f101:=Tryz.func296.trans (ZH some ZY)
 f206:=Tryz.func305.trans (ZH some ZY)
 f208:=Tryz.func313.trans (ZH some ZY)
 t3:=Nm
 a3:=KI
 z3:=MB
 v3:=N8
 t4:=Np
 a4:=KJ
 z4:=MC
 v4:=N9
 t9:=Ns
 a9:=KL
 z9:=ME
 v9:=NB}
open Go.RowKit Go.Lib in
theorem Tryz.strings_TrimPrefix (s p:ByteArray) (w:World) :
 Calls Mm 296 #[ZD s,ZD p] w λe w'=>e=.returned (ZD ⟨(Lib.trimPrefix s.data.toList p.data.toList).toArray⟩)/\w'=w:=Any.strings_TrimPrefix Tryz.lays101 s p w
def Tryz.lays221_ren:C4:=⟨fun | 221=>215 | 268=>237 | 138=>238 | 143=>239 | 195=>256 | 197=>257 | 218=>258 | 219=>259 | 260=>278 | 217=>279 | 225=>280 | 224=>281 | 267=>282 | 266=>301 | 314=>302 | n=>n,fun | 9=>9 | 3=>3 | 31=>124 | 4=>4 | 0=>0 | 105=>255 | 21=>21 | 5=>5 | 46=>102 | 119=>281 | 139=>284 | 138=>283 | 146=>285 | 51=>23 | n=>n,fun | 1=>0 | 3=>1 | 4=>2 | n=>n⟩
theorem Tryz.lays221:Go.Proofs.Lays.n221 Mm Tryz.lays221_ren:={
 mixed:=ZY
 f138:=Tryz.func238.trans (ZH some ZY)
 f143:=Tryz.func239.trans (ZH some ZY)
 f195:=Tryz.func256.trans (ZH some ZY)
 f197:=Tryz.func257.trans (ZH some ZY)
 f217:=Ks.trans (ZH some ZY)
 f218:=Tryz.func258.trans (ZH some ZY)
 f219:=Tryz.func259.trans (ZH some ZY)
 f221:=Tryz.func215.trans (ZH some ZY)
 f224:=Kv.trans (ZH some ZY)
 f225:=Ku.trans (ZH some ZY)
 f260:=Tryz.func278.trans (ZH some ZY)
 f266:=K3.trans (ZH some ZY)
 f267:=Tryz.func282.trans (ZH some ZY)
 f268:=Tryz.func237.trans (ZH some ZY)
 f314:=Tryz.func302.trans (ZH some ZY)
 t0:=MT
 a0:=KC
 z0:=M5
 v0:=Nu
 t3:=Nm
 a3:=KI
 z3:=MB
 v3:=N8
 t4:=Np
 a4:=KJ
 z4:=MC
 v4:=N9
 t5:=Nr
 a5:=KK
 z5:=MD
 v5:=NA
 t9:=Ns
 a9:=KL
 z9:=ME
 v9:=NB
 t21:=MY
 a21:=KF
 z21:=M8
 v21:=Nx
 t31:=MV
 a31:=Tryz.isAgg124
 z31:=Tryz.sizeOf124
 v31:=Tryz.zeroValue124
 t46:=MU
 a46:=KD
 z46:=M6
 v46:=Nv
 t51:=Nc
 a51:=Tryz.isAgg23
 z51:=M9
 v51:=Ny
 t105:=Tryz.underlying255
 a105:=Tryz.isAgg255
 z105:=Tryz.sizeOf255
 v105:=Tryz.zeroValue255
 t119:=Tryz.underlying281
 a119:=Tryz.isAgg281
 z119:=Tryz.sizeOf281
 t138:=Tryz.underlying283
 a138:=Tryz.isAgg283
 z138:=Tryz.sizeOf283
 v138:=Tryz.zeroValue283
 t139:=Tryz.underlying284
 a139:=Tryz.isAgg284
 z139:=Tryz.sizeOf284
 v139:=Tryz.zeroValue284
 t146:=Ni
 a146:=KH
 z146:=MA
 v146:=N5
 g1:=ZY
 g3:=ZY
 g4:=by kernel_rfl}
def Tryz.lays146_ren:C4:=⟨fun | 146=>191 | 221=>215 | 268=>237 | 138=>238 | 143=>239 | 195=>256 | 197=>257 | 218=>258 | 219=>259 | 260=>278 | 217=>279 | 225=>280 | 224=>281 | 267=>282 | 266=>301 | 314=>302 | n=>n,fun | 9=>9 | 31=>124 | 3=>3 | 4=>4 | 0=>0 | 105=>255 | 21=>21 | 5=>5 | 46=>102 | 119=>281 | 139=>284 | 138=>283 | 146=>285 | 51=>23 | n=>n,fun | 1=>0 | 3=>1 | 4=>2 | n=>n⟩
def Tryz.laysM146_ren:C4:=⟨fun | 146=>191 | 221=>215 | 268=>237 | 138=>238 | 143=>239 | 195=>256 | 197=>257 | 218=>258 | 219=>259 | 260=>278 | 217=>279 | 225=>280 | 224=>281 | 267=>282 | 266=>301 | 314=>302 | n=>n,fun | 9=>9 | 31=>124 | 3=>3 | 4=>4 | 0=>0 | 105=>255 | 21=>21 | 5=>5 | 46=>102 | 119=>281 | 139=>284 | 138=>283 | 146=>285 | 51=>23 | n=>n,fun | 1=>0 | 3=>1 | 4=>2 | n=>n⟩
def Tryz.lays197_ren:C4:=⟨fun | 197=>257 | 260=>278 | n=>n,fun | 9=>9 | 21=>21 | 3=>3 | 4=>4 | 5=>5 | 105=>255 | 119=>281 | 0=>0 | 46=>102 | 139=>284 | 138=>283 | n=>n,fun | 3=>1 | 4=>2 | n=>n⟩
def Tryz.lays152_ren:C4:=⟨fun | 152=>322 | 137=>329 | 119=>330 | 224=>281 | 225=>280 | 217=>279 | 266=>301 | n=>n,fun | 9=>9 | 21=>21 | 3=>3 | 4=>4 | 5=>5 | 0=>0 | 46=>102 | n=>n,fun | n=>n⟩
theorem Tryz.lays152:Go.Proofs.Lays.n152 Mm Tryz.lays152_ren:={
 mixed:=ZY
 f119:=Tryz.func330.trans (ZH some ZY)
 f137:=Tryz.func329.trans (ZH some ZY)
 f152:=K6.trans (ZH some ZY)
 f217:=Ks.trans (ZH some ZY)
 f224:=Kv.trans (ZH some ZY)
 f225:=Ku.trans (ZH some ZY)
 f266:=K3.trans (ZH some ZY)
 t0:=MT
 a0:=KC
 z0:=M5
 v0:=Nu
 t3:=Nm
 a3:=KI
 z3:=MB
 v3:=N8
 t4:=Np
 a4:=KJ
 z4:=MC
 v4:=N9
 t5:=Nr
 a5:=KK
 z5:=MD
 v5:=NA
 t9:=Ns
 a9:=KL
 z9:=ME
 v9:=NB
 t21:=MY
 a21:=KF
 z21:=M8
 v21:=Nx
 t46:=MU
 a46:=KD
 z46:=M6
 v46:=Nv}
open Go.RowKit Go.Lib in
theorem Tryz.strings_IndexRune_ascii (s:ByteArray) (r:Int) (w:World) (h0:0<=r) (h1:r<128) :
 Calls Mm 322 #[ZD s,.int .i32 r] w λe w'=>e=.returned (ZE Z7 (Dn s.data.toList r.toNat.toUInt8))/\w'=w:=Any.strings_IndexRune_ascii Tryz.lays152 s r w h0 h1
def Tryz.lays151_ren:C4:=⟨fun | 151=>327 | 152=>322 | 137=>329 | 119=>330 | 224=>281 | 225=>280 | 217=>279 | 266=>301 | n=>n,fun | 9=>9 | 21=>21 | 4=>4 | 3=>3 | 5=>5 | 0=>0 | 46=>102 | n=>n,fun | n=>n⟩
def Tryz.lays195_ren:C4:=⟨fun | 195=>256 | n=>n,fun | 9=>9 | 3=>3 | 0=>0 | 4=>4 | n=>n,fun | n=>n⟩
def Tryz.lays226_ren:C4:=⟨fun | 226=>323 | n=>n,fun | 3=>3 | 4=>4 | n=>n,fun | n=>n⟩
theorem Tryz.lays226:Go.Proofs.Lays.n226 Mm Tryz.lays226_ren:={
 mixed:=ZY
 f226:=Tryz.func323.trans (ZH some ZY)
 t3:=Nm
 a3:=KI
 z3:=MB
 v3:=N8
 t4:=Np
 a4:=KJ
 z4:=MC
 v4:=N9}
open Go.RowKit Go.Lib in
theorem Tryz.strings_shouldUseASCIISet (n:Int) (w:World) :
 Calls Mm 323 #[ZE Z7 n] w λe w'=>e=.returned (ZB (decide (8<n)))/\w'=w:=Any.strings_shouldUseASCIISet Tryz.lays226 n w
def Tryz.lays153_ren:C4:=⟨fun | 153=>308 | 152=>322 | 226=>323 | 227=>316 | 228=>324 | 137=>329 | 119=>330 | 224=>281 | 225=>280 | 217=>279 | 266=>301 | n=>n,fun | 9=>9 | 3=>3 | 4=>4 | 5=>5 | 21=>21 | 117=>294 | 116=>293 | 0=>0 | 46=>102 | 124=>297 | n=>n,fun | n=>n⟩
theorem Tryz.lays153:Go.Proofs.Lays.n153 Mm Tryz.lays153_ren:={
 mixed:=ZY
 f119:=Tryz.func330.trans (ZH some ZY)
 f137:=Tryz.func329.trans (ZH some ZY)
 f152:=K6.trans (ZH some ZY)
 f153:=Tryz.func308.trans (ZH some ZY)
 f217:=Ks.trans (ZH some ZY)
 f224:=Kv.trans (ZH some ZY)
 f225:=Ku.trans (ZH some ZY)
 f226:=Tryz.func323.trans (ZH some ZY)
 f227:=Tryz.func316.trans (ZH some ZY)
 f228:=Tryz.func324.trans (ZH some ZY)
 f266:=K3.trans (ZH some ZY)
 t0:=MT
 a0:=KC
 z0:=M5
 v0:=Nu
 t3:=Nm
 a3:=KI
 z3:=MB
 v3:=N8
 t4:=Np
 a4:=KJ
 z4:=MC
 v4:=N9
 t5:=Nr
 a5:=KK
 z5:=MD
 v5:=NA
 t9:=Ns
 a9:=KL
 z9:=ME
 v9:=NB
 t21:=MY
 a21:=KF
 z21:=M8
 v21:=Nx
 t46:=MU
 a46:=KD
 z46:=M6
 v46:=Nv
 t116:=Tryz.underlying293
 a116:=Tryz.isAgg293
 z116:=Tryz.sizeOf293
 t117:=Tryz.underlying294
 a117:=Tryz.isAgg294
 z117:=Tryz.sizeOf294
 v117:=Tryz.zeroValue294
 t124:=Tryz.underlying297
 a124:=Tryz.isAgg297
 z124:=Tryz.sizeOf297
 v124:=Tryz.zeroValue297}
def Tryz.lays227_ren:C4:=⟨fun | 227=>316 | n=>n,fun | 9=>9 | 116=>293 | 4=>4 | 0=>0 | 3=>3 | 5=>5 | n=>n,fun | n=>n⟩
def Tryz.lays228_ren:C4:=⟨fun | 228=>324 | n=>n,fun | 124=>297 | 5=>5 | 4=>4 | 0=>0 | 116=>293 | n=>n,fun | n=>n⟩
open Go.RowKit Go.Lib in
theorem Tryz.strings_IndexAny_long (hv116:∀w,(zeroValue 293).run Mm w=.ok (Z9 (As 256 (ZB false))) w) (s chars:ByteArray) (w:World) (h2:2<=chars.size) (h8:8<s.size) (hs:s.size<4294967281) (hcs:chars.size<4294967281) (hascii:∀(j:Nat) b,chars.data.toList[j]?=some b->b.toNat<128) :
 Calls Mm 308 #[ZD s,ZD chars] w λe w'=>e=.returned (ZE Z7 (Dm s.data.toList chars.data.toList))/\w'=((w.alloc (.cells (Lib.setCells chars.data.toList) 293)).alloc (.cells (Lib.setCells chars.data.toList) 293)):=Any.strings_IndexAny_long Tryz.lays153 hv116 ZY s chars w h2 h8 hs hcs hascii
def Tryz.lays268_ren:C4:=⟨fun | 268=>237 | 195=>256 | 197=>257 | 260=>278 | n=>n,fun | 9=>9 | 3=>3 | 31=>124 | 4=>4 | 105=>255 | 21=>21 | 0=>0 | 5=>5 | 119=>281 | 46=>102 | 139=>284 | 138=>283 | n=>n,fun | 3=>1 | 4=>2 | n=>n⟩
def Tryz.lays260_ren:C4:=⟨fun | 260=>278 | n=>n,fun | 9=>9 | 21=>21 | 3=>3 | 4=>4 | 5=>5 | 119=>281 | 0=>0 | 46=>102 | 139=>284 | 138=>283 | n=>n,fun | 3=>1 | 4=>2 | n=>n⟩
def Tryz.lays229_ren:C4:=⟨fun | 229=>283 | n=>n,fun | 9=>9 | 40=>273 | 31=>124 | 152=>287 | 3=>3 | 0=>0 | 4=>4 | 21=>21 | 154=>289 | n=>n,fun | n=>n⟩
theorem Tryz.lays229:Go.Proofs.Lays.n229 Mm Tryz.lays229_ren:={
 mixed:=ZY
 f229:=Tryz.func283.trans (ZH some ZY)
 t0:=MT
 a0:=KC
 z0:=M5
 v0:=Nu
 t3:=Nm
 a3:=KI
 z3:=MB
 v3:=N8
 t4:=Np
 a4:=KJ
 z4:=MC
 v4:=N9
 t9:=Ns
 a9:=KL
 z9:=ME
 v9:=NB
 t21:=MY
 a21:=KF
 z21:=M8
 v21:=Nx
 t31:=MV
 a31:=Tryz.isAgg124
 z31:=Tryz.sizeOf124
 v31:=Tryz.zeroValue124
 t40:=Tryz.underlying273
 a40:=Tryz.isAgg273
 z40:=Tryz.sizeOf273
 v40:=Tryz.zeroValue273
 t152:=Tryz.underlying287
 a152:=Tryz.isAgg287
 z152:=Tryz.sizeOf287
 v152:=Tryz.zeroValue287
 t154:=Tryz.underlying289
 a154:=Tryz.isAgg289
 z154:=Tryz.sizeOf289
 v154:=Tryz.zeroValue289}
open Go.RowKit Go.Lib in
theorem Tryz.strings_FieldsFunc_runes (g:Nat) (lb:Array Value) (eg:∀args w,(callFunc g args).run Mm w=.ok (.enter g args) w) (p:Nat->Bool) (s:ByteArray) (w:World) (hs:s.size<=4294967296) (hp:PredAtRunes Mm g lb p w) :
 Calls Mm 283 #[ZD s,.func (.func g) #[] lb] w λe w'=>∃A,e=.returned (ZC (some ⟨A,0,none⟩) (Dj p s).length (Dj p s).length)/\w.heap.size<=A/\
  w'.ownsRow w.heap.size 9 1 (ZC (some ⟨A,0,none⟩) (Dj p s).length (Dj p s).length) (Dj p s).length ((Dj p s).map Value.string)/\Below w.heap.size w w':=Any.strings_FieldsFunc_runes Tryz.lays229 g lb eg p s w hs hp ZY ZY
def Tryz.lays109_ren:C4:=⟨fun | 109=>285 | n=>n,fun | 31=>124 | 9=>9 | 3=>3 | 0=>0 | 4=>4 | n=>n,fun | n=>n⟩
def Tryz.lays110_ren:C4:=⟨fun | 110=>261 | 109=>285 | n=>n,fun | 31=>124 | 9=>9 | 4=>4 | 3=>3 | 0=>0 | n=>n,fun | n=>n⟩
theorem Tryz.lays110:Go.Proofs.Lays.n110 Mm Tryz.lays110_ren:={
 mixed:=ZY
 f109:=Tryz.func285.trans (ZH some ZY)
 f110:=Tryz.func261.trans (ZH some ZY)
 t0:=MT
 a0:=KC
 z0:=M5
 v0:=Nu
 t3:=Nm
 a3:=KI
 z3:=MB
 v3:=N8
 t4:=Np
 a4:=KJ
 z4:=MC
 v4:=N9
 t9:=Ns
 a9:=KL
 z9:=ME
 v9:=NB
 t31:=MV
 a31:=Tryz.isAgg124
 z31:=Tryz.sizeOf124
 v31:=Tryz.zeroValue124}
open Go.Lib in
theorem Tryz.slices_Contains_string (b off n c:Nat) (zs:List ByteArray) (x:ByteArray) (w:World) (hz:n<=zs.length) (hbig:n<=9223372036854775807) (hc:∀j,j<zs.length->w.cell? ⟨b,off+j,none⟩=some (ZD (zs.getD j Bp))) :
 Calls Mm 261 #[ZC (some ⟨b,off,none⟩) n c,ZD x] w λe w'=>e=.returned (ZB (Lib.containsS (zs.take n) x))/\w'=w:=Any.slices_Contains_string Tryz.lays110 b off n c zs x w hz hbig hc
open Go.Lib in
theorem Tryz.slices_Contains_string_empty (a:Option Addr) (c:Nat) (x:ByteArray) (w:World) :
 Calls Mm 261 #[.slice a 0 c,ZD x] w λe w'=>e=.returned (ZB false)/\w'=w:=Any.slices_Contains_string_empty Tryz.lays110 a c x w
def Tryz.laysnb115_ren:C4:=⟨fun | 115=>179 | n=>n,fun | 37=>22 | 4=>4 | 9=>9 | 5=>5 | n=>n,fun | n=>n⟩
def Tryz.lays115_ren:C4:=⟨fun | 115=>179 | n=>n,fun | 37=>22 | 4=>4 | 9=>9 | 5=>5 | n=>n,fun | n=>n⟩
end Go.Proofs
namespace Go.Proofs.YtdfabddnpgjepaaGreatDoor
open Go.RowKit
theorem ZR {P:Prop} (h:P:=by decide +kernel):P:=h
theorem ZT {P:Prop} (h:P:=by go_num):P:=h
theorem ZS {P:Prop} (h:P:=by assumption):P:=h
namespace Oct
open Base
def digit (n:Int):Bool:=decide (48<=n)&&decide (n<=57)
def letter (n:Int):Bool:=(decide (97<=n)&&decide (n<=122))|| (decide (65<=n)&&decide (n<=90))
def visible (n:Int):Bool:=decide (33<=n)&&decide (n<=126)
def blank (n:Int):Bool:=decide (n=32)||decide (n=9)
def control (n:Int):Bool:=decide (n<32)||decide (n=127)
def textual (n:Int):Bool:=visible n||blank n||decide (128<=n)
def marks:List UInt8:= [33,35,36,37,38,39,42,43,45,46,94,95,96,124,126]
def stands (l:List UInt8) (n:Int):Bool:=l.any λb=>(b.toNat:Int)==n
def token (n:Int):Bool:=letter n||digit n||stands marks n
def isHex (n:Int):Bool:=digit n|| (decide (97<=n)&&decide (n<=102))|| (decide (65<=n)&&decide (n<=70))
def hexVal (n:Int):Int:=if digit n=true then n-48 else if 97<=n/\n<=102 then n-87 else if 65<=n/\n<=70 then n-55 else 0
def ofKind (n k:Int):Bool:=if k=1 then token n else if k=2 then visible n else if k=3 then blank n else if k=4 then digit n else if k=5 then isHex n else if k=6 then textual n else false
def oneOf (ks:List Int) (n:Int):Bool:=ks.any λk=>ofKind n k
def allOf (ks:List Int) (l:List UInt8):Bool:=l.all λb=>oneOf ks b.toNat
theorem marks_index:∀k:Fin 256,decide (0<=Dn marks (NG k.val))=stands marks (k.val:Int):=ZR
theorem index_marks (n:Int) (h0:0<=n) (h1:n<=255):(0<=Dn [33,35,36,37,38,39,42,43,45,46,94,95,96,124,126] (NG n.toNat))↔stands marks n=true:=by
 have h:=marks_index ⟨n.toNat,ZZ⟩;have e:((n.toNat:Nat):Int)=n:=ZZ;simp only [e] at h;rw [←h,decide_eq_true_iff];rfl
section
theorem digit_any (n:Int) (w:World):Calls Mm 291 #[ZE Z6 n] w λe w'=>e=.returned (ZB (digit n))/\w'=w:=by
 go_enter Tryz.func291,Tryz.ntmps291;go_wp2
 all_goals (go_ret;exact ⟨ret_bool (by simp [digit]<;>omega),rfl⟩)
theorem letter_any (n:Int) (w:World):Calls Mm 328 #[ZE Z6 n] w λe w'=>e=.returned (ZB (letter n))/\w'=w:=by
 go_enter Tryz.func328,Tryz.ntmps328;go_wp2
 all_goals (go_ret;exact ⟨ret_bool (by simp [letter]<;>omega),rfl⟩)
theorem visible_any (n:Int) (w:World):Calls Mm 264 #[ZE Z6 n] w λe w'=>e=.returned (ZB (visible n))/\w'=w:=by
 go_enter Tryz.func264,Tryz.ntmps264;go_wp2
 all_goals (go_ret;exact ⟨ret_bool (by simp [visible]<;>omega),rfl⟩)
theorem blank_any (n:Int) (w:World):Calls Mm 217 #[ZE Z6 n] w λe w'=>e=.returned (ZB (blank n))/\w'=w:=by
 go_enter Tryz.func217,Tryz.ntmps217;go_wp2
 all_goals (go_ret;exact ⟨ret_bool (by simp [blank]<;>omega),rfl⟩)
theorem control_any (n:Int) (w:World):Calls Mm 265 #[ZE Z6 n] w λe w'=>e=.returned (ZB (control n))/\w'=w:=by
 go_enter Tryz.func265,Tryz.ntmps265;go_wp2
 all_goals (go_ret;exact ⟨ret_bool (by simp [control]<;>omega),rfl⟩)
theorem text_any (n:Int) (w:World):Calls Mm 320 #[ZE Z6 n] w λe w'=>e=.returned (ZB (textual n))/\w'=w:=by
 go_enter Tryz.func320,Tryz.ntmps320
 go_wp2_with (first
  |(go_at_call 264;refine (visible_any _ _).mono ?_;rintro e w' ⟨rfl,rfl⟩)
  |(go_at_call 217;refine (blank_any _ _).mono ?_;rintro e w' ⟨rfl,rfl⟩))
 all_goals (go_ret;exact ⟨ret_bool (by simp [textual, *]),rfl⟩)
theorem token_any (n:Int) (w:World) (h0:0<=n) (h1:n<=255):Calls Mm 319 #[ZE Z6 n] w λe w'=>e=.returned (ZB (token n))/\w'=w:=by
 go_enter Tryz.func319,Tryz.ntmps319
 go_wp2_with (first
  |(go_at_call 328;refine (letter_any _ _).mono ?_;rintro e w' ⟨rfl,rfl⟩)
  |(go_at_call 291;refine (digit_any _ _).mono ?_;rintro e w' ⟨rfl,rfl⟩)
  |(go_at_call 329;refine (Tryz.strings_IndexByte _ _ _).mono ?_;rintro e w' ⟨rfl,rfl⟩))
 all_goals (go_ret;exact ⟨ret_bool (by simp [token,index_marks, *]),rfl⟩)
theorem hex_any (n:Int) (w:World) (h0:0<=n) (h1:n<=255):Calls Mm 314 #[ZE Z6 n] w λe w'=>e=.returned (Z8 #[ZE Z7 (hexVal n),ZB (isHex n)])/\w'=w:=by
 by_cases hd:digit n=true
 ·have hb:48<=n/\n<=57:=by simpa [digit] using hd
  obtain ⟨hb0,hb1⟩:=hb;go_enter Tryz.func314,Tryz.ntmps314
  go_wp2_with (go_at_call 291;refine (digit_any _ _).mono ?_;rintro e w' ⟨rfl,rfl⟩)
  all_goals (go_ret2;exact ⟨by simp [hexVal,isHex,hd],rfl⟩)
 ·have hd':digit n=false:=by simpa using hd
  go_enter Tryz.func314,Tryz.ntmps314
  go_wp2_with (go_at_call 291;refine (digit_any _ _).mono ?_;rintro e w' ⟨rfl,rfl⟩)
  all_goals (go_ret2;exact ⟨by simp [hexVal,isHex, *]<;>omega,rfl⟩)
theorem stands_any (n:Int) (s:ByteArray) (w:World) (hs:s.size<=maxLen):Calls Mm 194 #[ZE Z6 n,ZD s] w λe w'=>e=.returned (ZB (stands s.data.toList n))/\w'=w:=by
 unfold maxLen at hs;go_enter Tryz.func194,Tryz.ntmps194;go_wp2
 go_loop [5] (λi=>∃k:Nat,k<=s.size/\i=ZE Z7 k/\Hid (stands (s.data.toList.take k) n=false)) (λi=>s.size-(intOf i).toNat)
 case atStart=>exact ⟨0,Gz _,rfl,rfl⟩
 case round=>
  obtain ⟨k,hk,rfl,hno⟩:=hrel;rcases Gp k s.size with hlt | hge
  ·have hsn:=take_snoc s k hlt;have HS:=Dl hsn;clear hsn;go_wp2
   ·go_ret;refine ⟨ret_bool ?_,rfl⟩;have hx:((s[k].toNat:Int)==n)=true:=by assumption
    have hm:s[k]∈s.data.toList:=by
     have:=HS.out
     exact Ft (i:=k+1) (by rw [this];simp)
    simp only [true_iff,stands,List.any_eq_true];exact ⟨_,hm,hx⟩
   ·go_round
    case rel=>
     refine ⟨k+1,ZZ,ZT,?_⟩;have hx:((s[k].toNat:Int)==n)=false:=ZS;have:=hno.out;refine Dl ?_;rw [HS.out]
     simp_all [stands]
    case measure=>simp [intOf];omega
  ·go_wp2;go_ret;have:=hno.out;rw [take_all s k ZZ] at this;exact ⟨by rw [this];rfl,rfl⟩
theorem rdigit_any (n:Int) (w:World):Calls Mm 198 #[ZE Z6 n] w λe w'=>e=.returned (ZB (digit n))/\w'=w:=by
 go_enter Tryz.func198,Tryz.ntmps198;go_wp2
 all_goals (go_ret;exact ⟨ret_bool (by simp [digit]<;>omega),rfl⟩)
theorem rletter_any (n:Int) (w:World):Calls Mm 218 #[ZE Z6 n] w λe w'=>e=.returned (ZB (letter n))/\w'=w:=by
 go_enter Tryz.func218,Tryz.ntmps218;go_wp2
 all_goals (go_ret;exact ⟨ret_bool (by simp [letter]<;>omega),rfl⟩)
theorem rvisible_any (n:Int) (w:World):Calls Mm 197 #[ZE Z6 n] w λe w'=>e=.returned (ZB (visible n))/\w'=w:=by
 go_enter Tryz.func197,Tryz.ntmps197;go_wp2
 all_goals (go_ret;exact ⟨ret_bool (by simp [visible]<;>omega),rfl⟩)
theorem rblank_any (n:Int) (w:World):Calls Mm 136 #[ZE Z6 n] w λe w'=>e=.returned (ZB (blank n))/\w'=w:=by
 go_enter Tryz.func136,Tryz.ntmps136;go_wp2
 all_goals (go_ret;exact ⟨ret_bool (by simp [blank]<;>omega),rfl⟩)
theorem rcontrol_any (n:Int) (w:World):Calls Mm 229 #[ZE Z6 n] w λe w'=>e=.returned (ZB (control n))/\w'=w:=by
 go_enter Tryz.func229,Tryz.ntmps229;go_wp2
 all_goals (go_ret;exact ⟨ret_bool (by simp [control]<;>omega),rfl⟩)
theorem rtext_any (n:Int) (w:World):Calls Mm 199 #[ZE Z6 n] w λe w'=>e=.returned (ZB (textual n))/\w'=w:=by
 go_enter Tryz.func199,Tryz.ntmps199
 go_wp2_with (first
  |(go_at_call 197;refine (rvisible_any _ _).mono ?_;rintro e w' ⟨rfl,rfl⟩)
  |(go_at_call 136;refine (rblank_any _ _).mono ?_;rintro e w' ⟨rfl,rfl⟩))
 all_goals (go_ret;exact ⟨ret_bool (by simp [textual, *]),rfl⟩)
theorem rtoken_any (n:Int) (w:World):Calls Mm 196 #[ZE Z6 n] w λe w'=>e=.returned (ZB (token n))/\w'=w:=by
 have hsz:(ByteArray.mk #[33,35,36,37,38,39,42,43,45,46,94,95,96,124,126]).size<=maxLen:=ZX;go_enter Tryz.func196,Tryz.ntmps196
 go_wp2_with (first
  |(go_at_call 218;refine (rletter_any _ _).mono ?_;rintro e w' ⟨rfl,rfl⟩)
  |(go_at_call 198;refine (rdigit_any _ _).mono ?_;rintro e w' ⟨rfl,rfl⟩)
  |(go_at_call 194;refine (stands_any _ _ _ ZS).mono ?_;rintro e w' ⟨rfl,rfl⟩))
 all_goals (go_ret;exact ⟨ret_bool (by simp [token,marks, *]),rfl⟩)
theorem rhex_any (n:Int) (w:World) (h0:0<=n) (h1:n<=255):Calls Mm 195 #[ZE Z6 n] w λe w'=>e=.returned (Z8 #[ZE Z7 (hexVal n),ZB (isHex n)])/\w'=w:=by
 by_cases hd:digit n=true
 ·have hb:48<=n/\n<=57:=by simpa [digit] using hd
  obtain ⟨hb0,hb1⟩:=hb;go_enter Tryz.func195,Tryz.ntmps195
  go_wp2_with (go_at_call 198;refine (rdigit_any _ _).mono ?_;rintro e w' ⟨rfl,rfl⟩)
  all_goals (go_ret2;exact ⟨by simp [hexVal,isHex,hd],rfl⟩)
 ·have hd':digit n=false:=by simpa using hd
  go_enter Tryz.func195,Tryz.ntmps195
  go_wp2_with (go_at_call 198;refine (rdigit_any _ _).mono ?_;rintro e w' ⟨rfl,rfl⟩)
  all_goals (go_ret2;exact ⟨by simp [hexVal,isHex, *]<;>omega,rfl⟩)
theorem ofKind_any (n k:Int) (w:World) (h0:0<=n) (h1:n<=255):Calls Mm 303 #[ZE Z6 n,ZE Z7 k] w λe w'=>e=.returned (ZB (ofKind n k))/\w'=w:=by
 go_enter Tryz.func303,Tryz.ntmps303
 go_wp2_with (first
  |(go_at_call 319;refine (token_any _ _ ZS ZS).mono ?_;rintro e w' ⟨rfl,rfl⟩)
  |(go_at_call 264;refine (visible_any _ _).mono ?_;rintro e w' ⟨rfl,rfl⟩)
  |(go_at_call 217;refine (blank_any _ _).mono ?_;rintro e w' ⟨rfl,rfl⟩)
  |(go_at_call 291;refine (digit_any _ _).mono ?_;rintro e w' ⟨rfl,rfl⟩)
  |(go_at_call 314;refine (hex_any _ _ ZS ZS).mono ?_;rintro e w' ⟨rfl,rfl⟩)
  |(go_at_call 320;refine (text_any _ _).mono ?_;rintro e w' ⟨rfl,rfl⟩))
 all_goals (go_ret;exact ⟨ret_bool (by simp_all [ofKind]),rfl⟩)
theorem rofKind_any (n k:Int) (w:World) (h0:0<=n) (h1:n<=255):Calls Mm 170 #[ZE Z6 n,ZE Z7 k] w λe w'=>e=.returned (ZB (ofKind n k))/\w'=w:=by
 go_enter Tryz.func170,Tryz.ntmps170
 go_wp2_with (first
  |(go_at_call 196;refine (rtoken_any _ _).mono ?_;rintro e w' ⟨rfl,rfl⟩)
  |(go_at_call 197;refine (rvisible_any _ _).mono ?_;rintro e w' ⟨rfl,rfl⟩)
  |(go_at_call 136;refine (rblank_any _ _).mono ?_;rintro e w' ⟨rfl,rfl⟩)
  |(go_at_call 198;refine (rdigit_any _ _).mono ?_;rintro e w' ⟨rfl,rfl⟩)
  |(go_at_call 195;refine (rhex_any _ _ ZS ZS).mono ?_;rintro e w' ⟨rfl,rfl⟩)
  |(go_at_call 199;refine (rtext_any _ _).mono ?_;rintro e w' ⟨rfl,rfl⟩))
 all_goals (go_ret;exact ⟨ret_bool (by simp_all [ofKind]),rfl⟩)
theorem oneOf_any (n:Int) (a:Option Addr) (len cap:Nat) (ks:List Int) (w:World) (h0:0<=n) (h1:n<=255) (hk:Ints w a len ks) (hl:len<=maxLen) :
 Calls Mm 286 #[ZE Z6 n,.slice a len cap] w λe w'=>e=.returned (ZB (oneOf ks n))/\w'=w:=by
 unfold maxLen at hl;have hlen:=hk.1;have HK:=Dl hk;clear hk;have HL:=Dl hlen;clear hlen;go_enter Tryz.func286,Tryz.ntmps286;go_wp2
 go_loop [9] (λi=>∃k:Nat,k<=len/\i=ZE Z7 k/\Hid (oneOf (ks.take k) n=false)) (λi=>len-(intOf i).toNat)
 case atStart=>exact ⟨0,Gz _,rfl,rfl⟩
 case round=>
  obtain ⟨k,hk,rfl,hno⟩:=hrel;rcases Gp k len with hlt | hge
  ·obtain ⟨b,off,rfl,_,hc⟩:=HK.out.2 ZZ;have hck:=hc k hlt;have HS:=Dl (ints_snoc ks k (by rw [HL.out];exact hlt));clear hc
   go_wp2_with (go_at_call 303;refine (ofKind_any _ _ _ ZS ZS).mono ?_;rintro e w' ⟨rfl,rfl⟩)
   ·go_ret;refine ⟨ret_bool ?_,rfl⟩;have hx:ofKind n (ks[k]?.getD 0)=true:=by assumption
    simp only [true_iff,oneOf,List.any_eq_true];exact ⟨_,Ft (i:=k+1) (by rw [HS.out];simp),hx⟩
   ·go_round
    case rel=>
     refine ⟨k+1,ZZ,ZT,Dl ?_⟩;have hx:ofKind n (ks[k]?.getD 0)=false:=ZS;have:=hno.out;rw [HS.out]
     simp_all [oneOf]
    case measure=>simp [intOf];omega
  ·go_wp2;go_ret;have:=hno.out;rw [FF (by rw [HL.out];exact hge)] at this;exact ⟨by rw [this];rfl,rfl⟩
theorem all_any (s:ByteArray) (a:Option Addr) (len cap:Nat) (ks:List Int) (w:World) (hs:s.size<=maxLen) (hk:Ints w a len ks) (hl:len<=maxLen) :
 Calls Mm 263 #[ZD s,.slice a len cap] w λe w'=>e=.returned (ZB (allOf ks s.data.toList))/\w'=w:=by
 unfold maxLen at hs;have HK:=Dl hk;clear hk;have HM:=Dl hl;clear hl;go_enter Tryz.func263,Tryz.ntmps263;go_wp2
 go_loop [8] (λi=>∃k:Nat,k<=s.size/\i=ZE Z7 k/\Hid (allOf ks (s.data.toList.take k)=true)) (λi=>s.size-(intOf i).toNat)
 case atStart=>exact ⟨0,Gz _,rfl,rfl⟩
 case round=>
  obtain ⟨k,hk,rfl,hyes⟩:=hrel;rcases Gp k s.size with hlt | hge
  ·have HS:=Dl (take_snoc s k hlt);have hb:=byte_lt s[k];have hb0:(0:Int)<=(s[k].toNat:Int):=by omega
   go_wp2_with (go_at_call 286;refine (oneOf_any _ _ _ _ ks _ ZS ZS HK.out HM.out).mono ?_;rintro e w' ⟨rfl,rfl⟩)
   ·go_ret;refine ⟨ret_bool ?_,rfl⟩;have hx:(!oneOf ks (s[k].toNat:Int))=true:=by assumption
    simp only [AT,false_iff,allOf,D5];intro hall;have:=hall _ (byte_mem s k hlt);simp [this] at hx
   ·go_round
    case rel=>
     refine ⟨k+1,ZZ,ZT,Dl ?_⟩;have hx:(!oneOf ks (s[k].toNat:Int))=false:=ZS;have:=hyes.out;rw [HS.out]
     simp_all [allOf]
    case measure=>simp [intOf];omega
  ·go_wp2;go_ret;have:=hyes.out;rw [take_all s k hge] at this;exact ⟨by rw [this];rfl,rfl⟩
theorem XXBnX {P:Prop} (h:P:=by
 go_wp2;go_roundw
 case rel=>
  refine ⟨q+1,_,ZZ,ZT,rfl,Dl ?_,Dl ?_⟩
  ·have:=hok.out;rw [HQ.out]
   simp_all [oneOf]
  ·obtain ⟨m,hm⟩:=hwi.out;exact ⟨m+nq,by rw [hm,NR]⟩
 case measure=>simp [intOf];omega):P:=h
theorem rall_any (s:ByteArray) (a:Option Addr) (len cap:Nat) (ks:List Int) (w:World) (hs:s.size<=maxLen) (hk:Ints w a len ks) (hl:len<=maxLen) :
 Calls Mm 137 #[ZD s,.slice a len cap] w λe w'=>e=.returned (ZB (allOf ks s.data.toList))/\∃m,w'=w.drewN m:=by
 unfold maxLen at hs hl;have HK:=Dl hk;have HL:=Dl hk.1;clear hk;go_enter Tryz.func137,Tryz.ntmps137;go_wp2
 go_loopw [5] (λi wr=>∃k:Nat,k<=s.size/\i=ZE Z7 k/\Hid (allOf ks (s.data.toList.take k)=true)/\Hid (∃m,wr=w.drewN m)) (λi _=>s.size-(intOf i).toNat)
 case atStart=>exact ⟨0,Gz _,rfl,rfl,0,rfl⟩
 case round=>
  obtain ⟨k,hk,rfl,hyes,hw⟩:=hrel;obtain ⟨wo,rfl⟩:∃wo:World,wo=wr:=⟨_,rfl⟩;rcases Gp k s.size with hlt | hge
  ·have HS:=Dl (take_snoc s k hlt);have hb:=byte_lt s[k];have hb0:(0:Int)<=(s[k].toNat:Int):=by omega
   go_wp2
   go_loopw [6,7] (λok j wr=>∃(q:Nat) (b:Bool),q<=len/\j=ZE Z7 q/\ok=ZB b/\Hid (b=oneOf (ks.take q) (s[k].toNat:Int))/\Hid (∃m,wr=wo.drewN m)) (λ_ j _=>len-(intOf j).toNat)
   case atStart=>exact ⟨0,false,Gz _,rfl,rfl,rfl,0,rfl⟩
   case round=>
    obtain ⟨q,b,hq,rfl,rfl,hok,hwi⟩:=hrel;rcases Gp q len with hltq | hgeq
    ·have hI:Ints wr a len ks:=by
      obtain ⟨m1,rfl⟩:=hw.out;obtain ⟨m,rfl⟩:=hwi.out;exact HK.out
     obtain ⟨bl,off,rfl,_,hc⟩:=hI.2 ZZ;have hck:=hc q hltq;have HQ:=Dl (ints_snoc ks q (by rw [HL.out];exact hltq));clear hc hI;cases b
     ·go_wp2;go_quiet ((go_at_call 170;exact Bu (rofKind_any _ _ _ ZS ZS)));exact XXBnX
     ·go_wp2;go_quiet (fail);exact XXBnX
    ·have HE:Hid (oneOf (ks.take q) (s[k].toNat:Int)=oneOf ks (s[k].toNat:Int)):=by
      rw [FF (by rw [HL.out];exact hgeq)];exact Dl rfl
     cases b
     ·go_wp2;go_ret;refine ⟨ret_bool ?_,?_⟩
      ·have h1:=hok.out;have h2:=HE.out;simp only [AT,false_iff,allOf,D5];intro hall;have:=hall _ (byte_mem s k hlt);rw [←h2,←h1] at this;cases this
      ·obtain ⟨m,hm⟩:=hwi.out;obtain ⟨m1,hm1⟩:=hw.out;exact ⟨m1+m,by rw [hm,hm1,NR]⟩
     ·go_wp2;go_roundw
      case rel=>
       refine ⟨k+1,ZZ,ZT,Dl ?_,Dl ?_⟩
       ·have h0:=hyes.out;have h1:=hok.out;have h2:=HE.out;rw [HS.out]
        simp_all [allOf]
       ·obtain ⟨m,hm⟩:=hwi.out;obtain ⟨m1,hm1⟩:=hw.out;exact ⟨m1+m,by rw [hm,hm1,NR]⟩
      case measure=>simp [intOf];omega
  ·go_wp2;go_ret;have:=hyes.out;rw [take_all s k hge] at this;exact ⟨by rw [this];rfl,hw.out⟩
end
end Oct
open _root_.Array renaming getD_eq_getD_getElem?→Am
open _root_.Bool renaming or_eq_true→Bc
open _root_.Go.Act renaming eval→Aa
open _root_.Go.Builtin renaming zeroCells→Bl
open _root_.Go.Lib renaming toList_data→Dv,wpList_append_own_string→Dz
open _root_.Go.Proofs.Tryz renaming underlying46→Nq
open _root_.Go.RowKit.Below renaming alloc→AB,refl→AE
open _root_.Go.World renaming ownsRow_nil→NY
open _root_.List renaming append_assoc→D7,drop_eq_nil_of_le→DS,getElem?_cons_succ→Ep,getElem?_cons_zero→Er,getElem?_toArray→E6,getElem_mem→EB,length_append→EO,length_take→Fc,map_append→Ff,mem_append→Fj,range→Fy,setIfInBounds_toArray→F4,set_append_right→F5,set_cons_succ→F6,set_cons_zero→F7
open _root_.Nat renaming le_trans→Gl
open _root_.Option renaming getD_some→GW,map_some→GY
open _root_.UInt8 renaming toNat_inj→NI
open App renaming wpList_append_list→Ai
open Base renaming below_drewN→Az,below_step→A6,some_undef→A8
open Oct renaming blank→GC
open Tree renaming assign→Jq,change→Jr,done→Js,grow→Ju,put1→Jw,quiet→Jx
theorem ZP {P:Prop} (h:P:=by unfold maxLen;omega):P:=h
theorem XXc2a {P:Prop} (h:P:=by rw [len];exact Gi _):P:=h
namespace Txt
open Base Oct
theorem byte_info:(Mm.info? 5).map (λi=>(i.zero,i.size,i.bytes))=some (some (ZE Z6 0),1,1):=ZY
theorem text_info:(Mm.info? 9).map (λi=>(i.zero,i.size,i.bytes))=some (some (ZD Bp),1,16):=ZY
def mix (l:List UInt8) (k:Nat):List UInt8:=low (l.take k)++l.drop k
def bcells (l:List UInt8):List Value:=l.map λb=>Value.int .u8 b.toNat
theorem mix_zero (l:List UInt8):mix l 0=l:=by simp [mix,low]
theorem mix_all (l:List UInt8) (k:Nat) (h:l.length<=k):mix l k=low l:=by unfold mix;rw [FF h,DS h,D8]
theorem mix_length (l:List UInt8) (k:Nat):(mix l k).length=l.length:=by unfold mix low;simp;omega
theorem mix_at (l:List UInt8) (k:Nat) (h:k<l.length):(bcells (mix l k))[k]?=some (ZE Z6 (l[k].toNat:Int)):=by
 unfold bcells mix low;rw [Ew,List.getElem?_append_right ZQ];have:k-(List.map lowB (List.take k l)).length=0:=ZQ;rw [this,List.getElem?_drop,Nat.add_zero,Et h];rfl
theorem mix_set (l:List UInt8) (k:Nat) (h:k<l.length):(bcells (mix l k)).set k (ZE Z6 (lowN (l[k].toNat:Int)))=bcells (mix l (k+1)):=by
 unfold bcells mix low;rw [Ff,Ff,F5 _ _ ZQ,FG h,DR h];have:k-(List.map (λb:UInt8=>Value.int IntKind.u8 b.toNat) (List.map lowB (List.take k l))).length=0:=ZQ;rw [this,Fg,F7,Ff,Ff,D7];simp [lowB_toNat]
section
theorem lowN_any (n:Int) (w:World) (h0:0<=n) (h1:n<=255):Calls Mm 175 #[ZE Z6 n] w λe w'=>e=.returned (ZE Z6 (lowN n))/\w'=w:=by
 by_cases h:65<=n/\n<=90
 ·obtain ⟨a,b⟩:=h;have e1:IntKind.u8.wrap (n-65)=n-65:=by rw [IntKind.wrap_u8];omega
  have e2:IntKind.u8.wrap (n-65+97)=n+32:=by rw [IntKind.wrap_u8];omega
  go_enter Tryz.func175,Tryz.ntmps175;go_wp2;go_ret;exact ⟨by simp only [lowN,a,b,and_self,if_true];rw [←e2,←e1];rfl,rfl⟩
 ·have hr:lowN n=n:=by unfold lowN;rw [ZO h]
  rcases Int.lt_or_le n 65 with a | a
  ·go_enter Tryz.func175,Tryz.ntmps175;go_wp2;go_ret;first | exact ⟨rfl,rfl⟩ | exact ⟨by rw [hr];rfl,rfl⟩
  ·have b:90<n:=by omega
   go_enter Tryz.func175,Tryz.ntmps175;go_wp2;go_ret;first | exact ⟨rfl,rfl⟩ | exact ⟨by rw [hr];rfl,rfl⟩
theorem lower_any (s:ByteArray) (w:World) (hs:s.size<=1099511627776):Calls Mm 144 #[ZD s] w λe w'=>e=.returned (ZD (lower s))/\Below w.heap.size w w':=by
 obtain ⟨i0,hi,hz0,hz1,hz2⟩:=info_parts byte_info;have G1:=Dl hi;have G2:=Dl hz0;have G3:=Dl hz1;have G4:=Dl hz2;clear hi hz0 hz1 hz2;rcases Gg s.size with h0 | hp
 ·have hls:lower s=Bp:=by
   apply ba_ext;have:s.data.toList= []:=ET.1 (by rw [len];exact h0);rw [lower_list,this];rfl
  have hconv:∀w:World,(convert 22 9 (.slice none 0 0)).run Mm w=.ok (.string Bp) w:=by intro w;rw [run_convert_bytes_string w 22 9 5 none 0 0 MZ Nr Ns];rfl
  go_enter Tryz.func144,Tryz.ntmps144
  go_wp2_with (at_builtin;refine Dz _ rfl _ _ 22 9 rfl w.heap.size 5 i0 MZ Ns G1.out G2.out G3.out G4.out _ 0 [] rfl (NY _ _ _ _) s rfl ZP ZZ ZW ?_;intro v' w1 hown hgr hnil;obtain rfl:=hnil.2 ⟨rfl,h0⟩;clear hnil hown)
  have hb:=Dl ((AE w.heap.size w).grown hgr (Gi _) (by intro k hk;cases hk))
  go_loopw [10] (λi wr=>i=ZE Z7 0/\wr=w1) (λ_ _=>0)
  case atStart=>exact ⟨rfl,rfl⟩
  case round=>obtain ⟨rfl,rfl⟩:=hrel;go_wp2;go_ret;exact ⟨by rw [hls];rfl,hb.out⟩
 ·go_enter Tryz.func144,Tryz.ntmps144
  go_wp2_with (at_builtin;refine Dz _ rfl _ _ 22 9 rfl w.heap.size 5 i0 MZ Ns G1.out G2.out G3.out G4.out _ 0 [] rfl (NY _ _ _ _) s rfl ZP ZZ ZW ?_;intro v' w1 hown hgr hnil;clear hnil;rw [Gy,Fw] at hown;obtain ⟨g,cap,rfl,hg0,hg1⟩:=hown.form hp)
  have hb:=Dl ((AE w.heap.size w).grown hgr (Gi _) (by intro k hk;cases hk));have hown':=Dl (show w1.ownsRow w.heap.size 5 1 (ZC (some ⟨g,0,none⟩) s.size cap) s.size (bcells (mix s.data.toList 0)) by rw [mix_zero];exact hown);clear hown hgr
  go_loopw [10] (λi wr=>∃k:Nat,k<=s.size/\i=ZE Z7 k/\Hid (wr.ownsRow w.heap.size 5 1 (ZC (some ⟨g,0,none⟩) s.size cap) s.size (bcells (mix s.data.toList k)))/\Hid (Below w.heap.size w wr)) (λi _=>s.size-(intOf i).toNat)
  case atStart=>exact ⟨0,Gz _,rfl,hown',hb⟩
  case round=>
   obtain ⟨k,hk,rfl,hown,hbr⟩:=hrel;rcases Gp k s.size with hlt | hge
   ·have hll:k<s.data.toList.length:=by rw [len];exact hlt
    have hcell:wr.cell? ⟨g,k,none⟩=some (ZE Z6 (s.data.toList[k].toNat:Int)):=by rw [hown.out.cellAt k ZZ];exact mix_at _ _ hll
    have hfz:=hown.out.frozenAt k;have hst:=hown.out.stored k (ZE Z6 (lowN (s.data.toList[k].toNat:Int)));rw [mix_set _ _ hll] at hst;have HS:=Dl hst;have hx0:=byte_lt s.data.toList[k];have hx1:0<=(s.data.toList[k].toNat:Int):=ZZ;generalize (s.data.toList[k].toNat:Int)=x at *;have hc:=Dl (λw=>lowN_any x w hx1 hx0);clear hst;go_wp2_with (go_at_call 175;with_reducible refine (hc.out _).mono ?_;rintro e w2 ⟨rfl,rfl⟩);go_roundw
    case rel=>exact ⟨k+1,ZZ,ZT,Dl HS.out.1,Dl (hbr.out.setCell hg0 _)⟩
    case measure=>simp [intOf];omega
   ·obtain rfl:k=s.size:=by omega
    have hconv:=run_convert_bytes_back (P:=Mm) wr 22 9 5 ⟨g,0,none⟩ cap (low s.data.toList) MZ Nr Ns (λj hj=>by
     have h1:=hown.out.cellAt j (by simp [low] at hj;omega);rw [mix_all _ _ (by rw [len];omega)] at h1;have e:(⟨g,0,none⟩:Addr).add j=⟨g,j,none⟩:=by unfold Ac;by_cases h:j=0<;>simp [h]
     rw [e,h1];simp [bcells,Et hj])
    have hl:(low s.data.toList).length=s.size:=by rw [low,EV,len]
    rw [hl] at hconv;go_wp2;go_ret;exact ⟨rfl,hbr.out⟩
theorem same_any (a b:ByteArray) (w:World) (ha:a.size<=maxLen):Calls Mm 145 #[ZD a,ZD b] w λe w'=>e=.returned (ZB (same a b))/\Below w.heap.size w w':=by
 unfold maxLen at ha;by_cases hl:a.size=b.size
 ·have hq:∀x (w:World),0<=x->x<=255->Hid (Calls Mm 175 #[ZE Z6 x] w λe w'=>e=.returned (ZE Z6 (lowN x))/\w'=w):=λx w h0 h1=>Dl (lowN_any x w h0 h1);go_enter Tryz.func145,Tryz.ntmps145;go_wp2
  go_loopw [13] (λi wr=>∃k:Nat,k<=a.size/\i=ZE Z7 k/\Hid (low (a.data.toList.take k)=low (b.data.toList.take k))/\Hid (Below w.heap.size w wr)) (λi _=>a.size-(intOf i).toNat)
  case atStart=>exact ⟨0,Gz _,rfl,Dl rfl,Dl (AE _ _)⟩
  case round=>
   obtain ⟨k,hk,rfl,hsm,hbr⟩:=hrel;rcases Gp k a.size with hlt | hge
   ·have hltb:k<b.size:=by omega
    have ta:=Dl (take_snoc a k hlt)
    have tb:=Dl (take_snoc b k hltb)
    have hca:=λw=>hq (a[k].toNat:Int) w ZZ (byte_lt _);have hcb:=λw=>hq (b[k].toNat:Int) w ZZ (byte_lt _);have la:=lowB_toNat a[k];have lb:=lowB_toNat b[k];have hna:k<a.data.toList.length:=by rw [len];exact hlt
    by_cases he:lowB a[k]=lowB b[k]
    ·have hxy:lowN (a[k].toNat:Int)=lowN (b[k].toNat:Int):=by rw [←la,←lb,he]
     have HE:=Dl he;clear he;have h1:=Dl hca;have h2:=Dl hcb;clear hca hcb hq;have i1:(k:Int)<(a.size:Int):=ZZ;have i2:(k:Int)<(b.size:Int):=ZZ;go_wp2_with fail;go_quiet ((first |(go_at_call 175;with_reducible exact Bu (h1.out _).out) |(go_at_call 175;with_reducible exact Bu (h2.out _).out)));rename_i nq;have hb':=Dl (Az hbr.out nq);go_wp2;go_roundw
     case rel=>refine ⟨k+1,ZZ,ZT,Dl ?_,hb'⟩;rw [ta.out,tb.out,low,low,Ff,Ff];have e1:=hsm.out;unfold low at e1;rw [e1];simp [HE.out]
     case measure=>simp [intOf];omega
    ·have hxy:¬lowN (a[k].toNat:Int)=lowN (b[k].toNat:Int):=λe=>he (by
      rw [←la,←lb] at e;exact NI.1 ZZ)
     have hf:same a b=false:=by
      refine Bool.eq_false_iff.2 λhs=>he ?_;have e1:=ZH (λl=>l[k]?) (ZI.1 hs);have hnb:k<b.data.toList.length:=by rw [len];exact hltb
      simp only [low,Ew,Et hna,Et hnb,GY,GZ.injEq] at e1;exact e1
     have HE:=Dl he;clear he la lb;have h1:=Dl hca;have h2:=Dl hcb;clear hca hcb hq;have i1:(k:Int)<(a.size:Int):=ZZ;have i2:(k:Int)<(b.size:Int):=ZZ;go_wp2_with fail;go_quiet ((first |(go_at_call 175;with_reducible exact Bu (h1.out _).out) |(go_at_call 175;with_reducible exact Bu (h2.out _).out)));rename_i nq;have hb':=Dl (Az hbr.out nq);go_wp2;go_ret;exact ⟨by rw [hf];rfl,hb'.out⟩
   ·obtain rfl:k=a.size:=by omega
    go_wp2;go_ret;refine ⟨?_,hbr.out⟩;have e1:=hsm.out;rw [take_all a _ (Gi _),take_all b _ ZZ] at e1;have:same a b=true:=ZI.2 e1;rw [this];rfl
 ·have hf:same a b=false:=Bool.eq_false_iff.2 λhs=>hl (same_sizes hs);have hl':¬(a.size:Int)=(b.size:Int):=by omega
  go_enter Tryz.func145,Tryz.ntmps145;go_wp2;go_ret;exact ⟨by rw [hf];rfl,AE _ _⟩
theorem blank_is (x:UInt8):GC (x.toNat:Int)=blank x:=by
 rw [AR];simp only [GC,blank,Bc,ZJ,ZI];constructor
 ·rintro (h | h)
  ·exact Or.inl (NI.1 (by show x.toNat=32;omega))
  ·exact Or.inr (NI.1 (by show x.toNat=9;omega))
 ·rintro (rfl | rfl)<;>decide
theorem strip_any (g:Nat) (lb:Array Value) (eg:∀args w,(callFunc g args).run Mm w=.ok (.enter g args) w) (p:UInt8->Bool) (s:ByteArray) (w:World) (hs:s.size<=maxLen)
 (hp:∀x:UInt8,Calls Mm g (#[ZE Z6 x.toNat]++lb) w λe w'=>e=.returned (ZB (p x))/\w'=w) :
 Calls Mm 216 #[ZD s,.func (.func g) #[] lb] w λe w'=>e=.returned (ZD (trimB p s))/\w'=w:=by
 unfold maxLen at hs;have HP:=Dl hp;clear hp;go_enter Tryz.func216,Tryz.ntmps216;go_wp2
 go_loop [5] (λi=>∃k:Nat,k<=s.size/\i=ZE Z7 k/\Hid (∀x∈s.data.toList.take k,p x=true)) (λi=>s.size-(intOf i).toNat)
 case atStart=>exact ⟨0,Gz _,rfl,Dl ZW⟩
 case round=>
  obtain ⟨k,hk,rfl,hpre⟩:=hrel;by_cases hgo:∃h:k<s.size,p s[k]=true
  ·obtain ⟨hlt,hq⟩:=hgo;have hcall:=HP.out s[k];rw [hq] at hcall;have HC:=Dl hcall;have ta:=Dl (take_snoc s k hlt);have HQ:=Dl hq;clear hcall hq;have i1:(k:Int)<(s.size:Int):=ZZ;go_wp2_with (go_at_fn g;with_reducible refine HC.out.mono ?_;rintro e w' ⟨rfl,rfl⟩);go_round
   case rel=>
    refine ⟨k+1,ZZ,ZT,Dl ?_⟩;rw [ta.out];intro x hx;rcases Fj.1 hx with hx | hx
    ·exact hpre.out x hx
    ·obtain rfl:x=s[k]:=by simpa using hx
     exact HQ.out
   case measure=>simp [intOf];omega
  ·have hstop:=Dl (show k<s.size->∃h:k<s.size,p s[k]=false from λh=>⟨h,by
    cases hq:p s[k] with
    | false=>rfl
    | true=>exact ZG ⟨h,hq⟩ hgo⟩)
   clear hgo;rcases Gp k s.size with hlt | hge
   all_goals (first
    |(have i1:(k:Int)<(s.size:Int):=by omega
      have hcall:=HP.out s[k];obtain ⟨_,hq⟩:=hstop.out hlt;rw [hq] at hcall;have HC:=Dl hcall;clear hcall hq
      (go_wp2_with (go_at_fn g;with_reducible refine HC.out.mono ?_;rintro e w' ⟨rfl,rfl⟩)))
    |(have i1:¬(k:Int)<(s.size:Int):=by omega
      go_wp2;clear i1))
   all_goals
    go_loop [6] (λi=>∃m:Nat,k<=m/\m<=s.size/\i=ZE Z7 m/\Hid (∀x∈s.data.toList.drop m,p x=true)) (λi=>(intOf i).toNat)
    case atStart=>exact ⟨s.size,hk,Gi _,rfl,Dl (by
     intro x hx;rw [DS XXc2a] at hx
     cases hx)⟩
    case round=>
     obtain ⟨m,hkm,hm,rfl,hpost⟩:=hrel;rcases Gp k m with hlm | hgm
     ·first
      |(exfalso;omega)
      |(
       have i0:(k:Int)<(m:Int):=ZZ;have i1:((m-1:Nat):Int)=(m:Int)-1:=ZZ;have i2:m-1<s.size:=ZZ;have i3:(m:Int)-1<(s.size:Int):=ZZ;have i4:0<=(m:Int)-1:=ZZ;have i5:IntKind.i64.wrap ((m:Int)-1)=(m:Int)-1:=wrap_in _ ZZ ZZ;have i6:((m:Int)-1).toNat=m-1:=ZZ;cases hq:p s[m-1] with
       | true=>
         have hcall:=HP.out s[m-1];rw [hq] at hcall;have HC:=Dl hcall;have HQ:=Dl hq;clear hcall hq;go_wp2_with (go_at_fn g;with_reducible refine HC.out.mono ?_;rintro e w' ⟨rfl,rfl⟩);go_round
         case rel=>
          refine ⟨m-1,ZZ,ZZ,by rw [i1],Dl ?_⟩;intro x hx;rw [DR (by rw [len];exact i2),show m-1+1=m by omega] at hx;rcases Fk.1 hx with rfl | hx
          ·exact HQ.out
          ·exact hpost.out x hx
         case measure=>simp [intOf];omega
       | false=>
         have hcall:=HP.out s[m-1];rw [hq] at hcall;have HC:=Dl hcall;have HQ:=Dl hq;clear hcall hq
         have hcut:=trim_cut p s k m hkm hm hpre.out hpost.out (λh=>⟨hstop.out ZZ,i2,HQ.out⟩);go_wp2_with (go_at_fn g;with_reducible refine HC.out.mono ?_;rintro e w' ⟨rfl,rfl⟩);go_ret;exact ⟨by rw [←hcut];rfl,rfl⟩)
     ·obtain rfl:k=m:=by omega
      have hcut:=trim_cut p s k k hkm hm hpre.out hpost.out (λh=>ZG h ZZ);have i1:¬(k:Int)<(k:Int):=ZZ;have e0:s.extract k k=Bp:=by apply ba_ext;rw [Di];simp
      rw [e0] at hcut;go_wp2;go_ret;exact ⟨by rw [←hcut];rfl,rfl⟩
theorem trim_any (s:ByteArray) (w:World) (hs:s.size<=maxLen):Calls Mm 192 #[ZD s] w λe w'=>e=.returned (ZD (trim s))/\w'=w:=by
 have eg:∀args w,(callFunc 217 args).run Mm w=.ok (.enter 217 args) w:=enters_of Tryz.func217 ZY rfl;have h:=Dl (strip_any 217 #[] eg blank s w hs (λx=>(Oct.blank_any (x.toNat:Int) w).mono (by rintro e w' ⟨rfl,rfl⟩;exact ⟨by rw [blank_is],rfl⟩)));go_enter Tryz.func192,Tryz.ntmps192;go_wp2_with (go_at_call 216;with_reducible refine h.out.mono ?_;rintro e w' ⟨rfl,rfl⟩);go_ret;exact ⟨rfl,rfl⟩
end
end Txt
namespace Txt
open Base Oct
def isIn (set:ByteArray) (x:UInt8):Bool:=set.data.toList.contains x
def trimOf (s set:ByteArray):ByteArray:=trimB (isIn set) s
def marks (l:List UInt8):List Value:=(Fy 256).map λj=>Value.bool (l.any λb=>b.toNat==j)
theorem marks_length (l:List UInt8):(marks l).length=256:=by rw [marks,EV,List.length_range]
theorem marks_none (l:List UInt8) (j:Nat) (h:¬j<256):(marks l)[j]?=none:=List.getElem?_eq_none (by rw [marks_length];omega)
theorem marks_some (l:List UInt8) (j:Nat) (h:j<256):(marks l)[j]?=some (ZB (l.any λb=>b.toNat==j)):=by unfold marks;rw [Ew,List.getElem?_range h];rfl
theorem marks_nil (n:Nat) (hn:n=256):(As n (Value.bool false)).toList=marks []:=by
 rw [Array.toList_replicate];apply List.ext_getElem?;intro j;by_cases h:j<256
 ·rw [marks_some _ _ h,List.getElem?_replicate,ZN ZZ];rfl
 ·rw [marks_none _ _ h,List.getElem?_replicate,ZO ZZ]
theorem marks_at (l:List UInt8) (x:UInt8):(marks l)[x.toNat]?=some (ZB (l.contains x)):=by
 rw [marks_some _ _ x.toNat_lt];simp only [GZ.injEq,Value.bool.injEq];rw [AR,List.any_eq_true,List.contains_iff_exists_mem_beq];constructor
 ·rintro ⟨b,hb,e⟩;exact ⟨b,hb,by rw [ZI] at e ⊢;exact (NI.1 e).symm⟩
 ·rintro ⟨b,hb,e⟩;rw [ZI] at e;subst e;exact ⟨x,hb,ZW⟩
theorem marks_set (l:List UInt8) (x:UInt8):(marks l).set x.toNat (ZB true)=marks (l ++ [x]):=by
 apply List.ext_getElem?;intro j;rw [List.getElem?_set];have hx:=x.toNat_lt;by_cases h:x.toNat=j
 ·subst h;rw [ZN rfl,ZN (by rw [marks_length];exact hx),marks_some _ _ hx];simp
 ·rw [ZO h];by_cases hj:j<256
  ·rw [marks_some _ _ hj,marks_some _ _ hj];have:(x.toNat==j)=false:=by simpa using h
   simp [this]
  ·rw [marks_none _ _ hj,marks_none _ _ hj]
theorem zero_marks (w:World):(zeroValue 292).run Mm w=.ok (Z9 (As 256 (ZB false))) w:=ZY
section
theorem marks_any (x:UInt8) (B:Nat) (set:List UInt8) (w:World) (hc:w.cell? ⟨B,x.toNat,none⟩=some (ZB (set.contains x))) :
 Calls Mm 331 #[ZE Z6 x.toNat,ZA (some ⟨B,0,none⟩)] w λe w'=>e=.returned (ZB (set.contains x))/\w'=w:=by
 have hx:=x.toNat_lt;have i1:(x.toNat:Int)<256:=ZZ;generalize set.contains x=r at *;generalize x.toNat=n at *;go_enter Tryz.func331,Tryz.ntmps331;go_wp2;go_ret;exact ⟨rfl,rfl⟩
theorem trimOf_any (s set:ByteArray) (w:World) (hs:s.size<=maxLen) (ht:set.size<=maxLen):Calls Mm 326 #[ZD s,ZD set] w λe w'=>e=.returned (ZD (trimOf s set))/\Below w.heap.size w w':=by
 have hm:=hs;have ht':=ht;unfold maxLen at ht';have HM:=Dl hm;clear hs hm ht;go_enter Tryz.func326,Tryz.ntmps326;have eg:∀args w,(callFunc 331 args).run Mm w=.ok (.enter 331 args) w:=enters_of Tryz.func331 ZY rfl;have hz:=zero_marks;go_wp2;have hown:(w.alloc (.cells (As 256 (ZB false)) 292)).ownsRow w.heap.size 292 1 (ZC (some ⟨w.heap.size,0,none⟩) 256 256) 256 (marks (set.data.toList.take 0)):=by
  have:=World.ownsRow_lit (base:=w.heap.size) (e:=292) (size:=1) w (As 256 (ZB false)) 256 (Gi _) ZX (by rw [Array.size_replicate])
  rwa [marks_nil 256 rfl] at this
 have HO:=Dl hown;have hb:=Dl (show Below w.heap.size w (w.alloc (.cells (As 256 (ZB false)) 292)) from (AE _ _).alloc (Gi _) _);clear hown hz;generalize w.alloc (.cells (As 256 (ZB false)) 292)=W at *;generalize hg:w.heap.size=g at *;have HG:=Dl hg;clear hg
 go_loopw [9] (λi wr=>∃k:Nat,k<=set.size/\i=ZE Z7 k/\Hid (wr.ownsRow g 292 1 (ZC (some ⟨g,0,none⟩) 256 256) 256 (marks (set.data.toList.take k)))/\Hid (Below g w wr)) (λi _=>set.size-(intOf i).toNat)
 case atStart=>exact ⟨0,Gz _,rfl,HO,hb⟩
 case round=>
  obtain ⟨k,hk,rfl,hown,hbr⟩:=hrel;rcases Gp k set.size with hlt | hge
  ·have hx:=set[k].toNat_lt;have i1:(set[k].toNat:Int)<256:=by omega
   have hcell:=hown.out.cellAt set[k].toNat ZZ;rw [marks_at] at hcell;have hfz:=hown.out.frozenAt set[k].toNat;have hst:=hown.out.stored set[k].toNat (ZB true);rw [marks_set,←take_snoc set k hlt] at hst;have HS:=Dl hst;clear hst;go_wp2;go_roundw
   case rel=>exact ⟨k+1,ZZ,ZT,Dl HS.out.1,Dl (hbr.out.setCell (Gi _) _)⟩
   case measure=>simp [intOf];omega
  ·obtain rfl:k=set.size:=by omega
   have hown':=hown.out;rw [take_all set _ (Gi _)] at hown';have HC:=Dl (λx:UInt8=>(hown'.cellAt x.toNat (by have:=x.toNat_lt;omega)).trans (marks_at _ x));clear hown';have hs:=Dl (strip_any 331 #[ZA (some ⟨g,0,none⟩)] eg (isIn set) s wr HM.out (λx=>marks_any x g _ wr (HC.out x)));clear eg;go_wp2_with (go_at_call 216;with_reducible refine hs.out.mono ?_;rintro e w' ⟨rfl,rfl⟩);go_ret;exact ⟨rfl,by rw [HG.out];exact hbr.out⟩
end
end Txt
namespace Txt
open Base Oct
theorem field_info:(Mm.info? 126).map (λi=>(i.zero,i.size,i.bytes))=some (some (Z9 #[ZD Bp,ZD Bp]),2,32):=ZY
def room (vs:List ByteArray):Nat:=(vs.map λv=>v.size+1).sum
theorem partsOf_le (v:ByteArray):(partsOf v).length<=v.size+1:=by unfold partsOf;rw [EV];have:=parts_le 44 v.data.toList;rwa [len] at this
theorem list_le:∀vs:List ByteArray,(list vs).length<=room vs
 | []=>by simp [list,room]
 | v::vs=>by
   have h1:=partsOf_le v;have h2:=list_le vs;simp only [list,room,List.flatMap_cons,EO,Fg,List.sum_cons] at *;omega
theorem room_mem:∀(vs:List ByteArray) (v:ByteArray),v∈vs->v.size+1<=room vs
 | u::vs,v,h=>by
   rw [room,Fg,List.sum_cons];rcases Fk.1 h with rfl | h
   ·omega
   ·have:=room_mem vs v h;rw [room] at this;omega
theorem len_room:∀vs:List ByteArray,vs.length<=room vs
 | []=>Gz _
 | v::vs=>by have:=len_room vs;rw [room] at *;rw [Fg,List.sum_cons,EP];omega
theorem partsOf_map (x:ByteArray):partsOf x=((parts 44 x.data.toList).map ba).map trim:=by rw [partsOf,List.map_map];rfl
theorem list_take_le (vs:List ByteArray) (k:Nat):(list (vs.take k)).length<=(list vs).length:=by
 conv=>rhs;rw [←FD k vs]
 unfold list;rw [List.flatMap_append,EO];omega
theorem list_snoc (vs:List ByteArray) (k:Nat) (h:k<vs.length):list (vs.take (k+1))=list (vs.take k)++partsOf (vs[k]?.getD Bp):=by rw [strs_snoc vs k h];unfold list;simp
section
theorem split_at (c:UInt8) (s:ByteArray) (w:World) (hs:s.size<4294967281) :
 Calls Mm 191 #[ZD s,ZD ⟨#[c]⟩] w λe w'=>∃n k,e=.returned (ZC (some ⟨w.heap.size,0,none⟩) n k)/\n=(parts c s.data.toList).length/\Strs w' (some ⟨w.heap.size,0,none⟩) n ((parts c s.data.toList).map ba)/\w.heap.size<w'.heap.size/\Below w.heap.size w w':=by
 have hle:=Lib.countB_le ⟨#[c]⟩ (Gi 1) s.size s (Gi _);have hlen:=Lib.splitB_all ⟨#[c]⟩ (Gi 1) 0 _ s rfl
 have ct:=Any.strings_genSplit_core Tryz.lays221 text_info s ⟨#[c]⟩ 0 (-1) (Lib.countB s ⟨#[c]⟩+1) w hs (Gi 1) (Gz _)
  (λx cs hx=>(Tryz.strings_Index_one x c _).mono λe w' ⟨he,hw⟩=>⟨by rw [he];congr 2;exact (Lib.index_one _ _).symm,hw⟩)
  ((Tryz.strings_Count_one s c w).mono λe w' ⟨he,hw⟩=>⟨by rw [he];congr 3;exact (Lib.count_one _ _).symm,hw⟩)
  ZX ZX (by rw [ZN ZX];omega)
 rw [Nat.add_sub_cancel,hlen] at ct;have e2:Lib.cellsOf (Lib.splitB ⟨#[c]⟩ 0 (Lib.countB s ⟨#[c]⟩) s) (Lib.countB s ⟨#[c]⟩+1)=((Lib.splitB ⟨#[c]⟩ 0 (Lib.countB s ⟨#[c]⟩) s).map Value.string).toArray:=by rw [←hlen];exact Lib.cellsOf_full _
 rw [e2,splitB_parts c _ s rfl,countB_parts] at ct
 have HC:=Dl ((show Calls Mm 215 #[ZD s,ZD ⟨#[c]⟩,ZE Z7 0,ZE Z7 (-1)] w _ from ct).mono (R':=λe w'=>∃n k,e=.returned (ZC (some ⟨w.heap.size,0,none⟩) n k)/\n=(parts c s.data.toList).length/\Strs w' (some ⟨w.heap.size,0,none⟩) n ((parts c s.data.toList).map ba)/\w.heap.size<w'.heap.size/\Below w.heap.size w w') (by rintro e w' ⟨rfl,rfl⟩;exact ⟨_,_,rfl,rfl,Strs.made w _ rfl _ _ _ (by rw [EV]),ZW,(AE _ _).alloc (Gi _) _⟩));clear ct e2 hle hlen;go_enter Tryz.func191,Tryz.ntmps191;go_wp2_with (go_at_call 215;with_reducible refine HC.out.mono ?_;rintro e w' ⟨n,k,rfl,rfl,hS,hg,hb⟩);go_ret;exact ⟨_,_,rfl,rfl,hS,hg,hb⟩
theorem split_any (s:ByteArray) (w:World) (hs:s.size<4294967281) :
 Calls Mm 191 #[ZD s,ZD ⟨#[44]⟩] w λe w'=>∃n c,e=.returned (ZC (some ⟨w.heap.size,0,none⟩) n c)/\n=(parts 44 s.data.toList).length/\Strs w' (some ⟨w.heap.size,0,none⟩) n ((parts 44 s.data.toList).map ba)/\w.heap.size<w'.heap.size/\Below w.heap.size w w':=split_at 44 s w hs
theorem XXOmL {P:Prop} (h:P:=by
 intro v' w' hown' hgr _ hloc;have hown2:w'.ownsRow w.heap.size 9 1 v' (L.length+(j+1)) ((L++(P.map trim).take (j+1)).map Value.string):=by rw [HS1.out];simpa [D7,Nat.add_assoc] using hown'
 have H2:=Dl hown2
 have H3:=Dl ((hbq.out.alloc hbq.out.size _).grown hgr (by have:=hbq.out.size;simp;omega) (own_base hown.out))
 have H4:=Dl ((hSq.out.below ((AE _ _).alloc (Gi _) _)).grown hgr (λe=>hne.out _ e rfl))
 have H5:=Dl (show∀g,v'.ownBlock=some g->g≠B from λg hg=>by
  rcases hloc with h | h
  ·exact hne.out g (h ▸ hg)
  ·rw [h] at hg;cases hg;simp;omega)
 have H6:w1.heap.size<=w'.heap.size:=by have:=hgr.size;simp at this;omega
 clear hown' hgr hown2 hloc;go_wp2;go_roundw
 case rel=>exact ⟨j+1,ZZ,ZT,H6,H2,H3,H5,H4⟩
 case measure=>simp [intOf];omega):P:=h
theorem XX1YI {P:Prop} (h:P:=by
 obtain rfl:j=n1:=ZZ;have hown2:=hown.out;rw [FF (by rw [EV];omega),←hpm.out] at hown2;have H2:Hid (wr.ownsRow w.heap.size 9 1 u3 (L++partsOf x).length ((L++partsOf x).map Value.string)):=Dl (by rw [EO,hpl];rw [hn1] at hown2;exact hown2);rw [←hsn.out] at H2;clear hown hown2;go_wp2;go_roundw
 case rel=>exact ⟨k+1,ZZ,ZT,H2,hbq⟩
 case measure=>simp [intOf];omega):P:=h
theorem XXL2M {P:Prop} (h:P:=by
 obtain rfl:k=n:=ZZ;have hown1:=hown.out;rw [FF (by rw [HL.out];omega)] at hown1;have H1:=Dl hown1;clear hown1 hown;go_wp2;go_ret
 exact ⟨_,rfl,H1.out,hbr.out⟩):P:=h
theorem XX3G6 {P:Prop} (h:P:=by
 have:j<P.length:=ZZ;rw [Et this];have:=hps.out _ (EB this);show P[j].size<=_
 unfold maxLen;omega):P:=h
theorem list_own (a:Option Addr) (n cap:Nat) (vs:List ByteArray) (w:World) (hv:Strs w a n vs) (hr:room vs<=1000000000) :
 Calls Mm 163 #[.slice a n cap] w λe w'=>∃v,e=.returned v/\w'.ownsRow w.heap.size 9 1 v (list vs).length ((list vs).map Value.string)/\Below w.heap.size w w':=by
 have hle:=list_le vs;have hnr:=len_room vs;rw [hv.1] at hnr;have HV:=Dl hv;have HL:=Dl hv.1;clear hv;obtain ⟨i0,hi,hz0,hz1,hz2⟩:=info_parts text_info;have G1:=Dl hi;have G2:=Dl hz0;have G3:=Dl hz1;have G4:=Dl hz2;clear hi hz0 hz1 hz2;go_enter Tryz.func163,Tryz.ntmps163;go_wp2
 go_loopw [3,10] (λv i wr=>∃k:Nat,k<=n/\i=ZE Z7 k/\Hid (wr.ownsRow w.heap.size 9 1 v (list (vs.take k)).length ((list (vs.take k)).map Value.string))/\Hid (Below w.heap.size w wr)) (λ_ i _=>n-(intOf i).toNat)
 case atStart=>exact ⟨0,Gz _,rfl,Dl ⟨rfl,.inl ⟨rfl,rfl⟩⟩,Dl (AE _ _)⟩
 case round=>
  obtain ⟨k,hk,rfl,hown,hbr⟩:=hrel;rcases Gp k n with hlt | hge
  ·obtain ⟨bl,off,rfl,_,hc⟩:=(HV.out.below hbr.out).2 ZZ;have hck:=hc k hlt
   have hsn:=Dl (list_snoc vs k (by rw [HL.out];exact hlt));have hle1:=list_take_le vs (k+1);rw [hsn.out,EO] at hle1;have hsz:(vs[k]?.getD Bp).size<4294967281:=by
    have:k<vs.length:=by rw [HL.out];exact hlt
    rw [Et this];have h2:(vs[k].size+1)<=room vs:=by exact room_mem vs _ (EB _)
    show vs[k].size < _;omega
   clear hc;generalize vs[k]?.getD Bp=x at *
   have HP:=Dl (split_any x wr hsz);have hpm:=Dl (partsOf_map x);have hpl:(partsOf x).length=((parts 44 x.data.toList).map ba).length:=by rw [hpm.out,EV]
   have hp0:((parts 44 x.data.toList).map ba).length=(parts 44 x.data.toList).length:=EV _;rw [←hp0] at HP
   have hps:=Dl (show∀y∈(parts 44 x.data.toList).map ba,y.size<4294967281 from λy hy=>by obtain ⟨l,hl,rfl⟩:=List.mem_map.1 hy;have:=parts_size 44 _ l hl;rw [len] at this;rw [ba_size];omega);generalize (parts 44 x.data.toList).map ba=P at *;clear hp0;generalize list (vs.take k)=L at *
   go_wp2_with (go_at_call 191;with_reducible refine HP.out.mono ?_;rintro e w1 ⟨n1,c1,rfl,hn1,hS,hg1,hb1⟩)
   have hB1:=Dl (A6 hbr.out hb1);have hown1:=Dl (own_below hown.out hb1);have hS':=Dl hS;have hne:=Dl (show∀g,u3.ownBlock=some g->g≠wr.heap.size from λg hg=>by have:=(hown.out.lt g hg).2;omega);generalize wr.heap.size=B at *;clear hS hb1 HP hown hbr
   go_loopw [3,17] (λv i wq=>∃j:Nat,j<=n1/\i=ZE Z7 j/\w1.heap.size<=wq.heap.size/\Hid (wq.ownsRow w.heap.size 9 1 v (L.length+j) ((L++(P.map trim).take j).map Value.string))/\Hid (Below w.heap.size w wq)/\Hid (∀g,v.ownBlock=some g->g≠B)/\Hid (Strs wq (some ⟨B,0,none⟩) n1 P)) (λ_ i _=>n1-(intOf i).toNat)
   case atStart=>exact ⟨0,Gz _,rfl,Gi _,by rw [List.take_zero,D8];exact hown1,hB1,hne,hS'⟩
   case round=>
    obtain ⟨j,hj,rfl,hsz,hown,hbq,hne,hSq⟩:=hrel;rcases Gp j n1 with hlj | hgj
    ·obtain ⟨bs,os,e,hbs,hc⟩:=hSq.out.2 ZZ;obtain ⟨rfl,rfl⟩:B=bs/\0=os:=by simpa using e
     have hcj:=hc j hlj;rw [Gy] at hcj;have HS1:=Dl (map_snoc trim Bp P j ZZ);clear hc e;have hys:(P[j]?.getD Bp).size<=maxLen:=by exact XX3G6
     generalize P[j]?.getD Bp=y at *;have HT:=Dl (λw=>trim_any y w hys);clear hys
     go_wp2_with (first
      |(go_at_call 192;with_reducible refine Cm (HT.out _) ?_)
      |(at_builtin;(refine wpList_append_own_at _ rfl _ _ 124 rfl w.heap.size 9 i0 (.string Bp) 1 16 MV G1.out G2.out G3.out G4.out rfl ZX _ _ _ rfl (hown.out.alloc _) ⟨wr.heap.size,0,none⟩ 1 1 [.string (trim y)] rfl rfl ?c1 ?c2 ?c3 ?c4 ?c5 ?_)))
     case c1=>exact news_one wr _ _
     case c2=>intro u hu;obtain rfl:u=ZD (trim y):=by simpa using hu
              rfl
     case c3=>unfold maxLen;omega
     case c4=>omega
     case c5=>have:=hbq.out.size;simp;omega
     exact XXOmL
    ·exact XX1YI
  ·exact XXL2M
theorem list_any (a:Option Addr) (n cap:Nat) (vs:List ByteArray) (w:World) (hv:Strs w a n vs) (hr:room vs<=1000000000) :
 Calls Mm 163 #[.slice a n cap] w λe w'=>∃b m c,e=.returned (.slice b m c)/\m=(list vs).length/\Strs w' b m (list vs)/\Below w.heap.size w w':=
 (list_own a n cap vs w hv hr).mono (by
   rintro e w' ⟨v,rfl,ho,hb⟩;obtain ⟨A,c,rfl,hA⟩:=Strs.of_own ho;exact ⟨A,_,c,rfl,rfl,hA,hb⟩)
end
end Txt
theorem XXzUO {P:Prop} (h:P:=by
 rw [FG hx,FG hy,h];rw [Et hx,Et hy] at e
 congr 2):P:=h
namespace Txt
open Base Oct
theorem ba_beq (a b:ByteArray):(a.toList==b.toList)=decide (a=b):=by rw [Dv,Dv,AR,beq_iff_eq,decide_eq_true_eq];exact ⟨ba_ext,λh=>by rw [h]⟩
theorem toList_iff (a b:ByteArray):a.toList=b.toList↔a=b:=by rw [Dv,Dv];exact ⟨ba_ext,λh=>by rw [h]⟩
theorem take_eq_snoc {α:Type} (d:α) (xs ys:List α) (k:Nat) (hx:k<xs.length) (hy:k<ys.length) (h:xs.take k=ys.take k) (e:xs[k]?.getD d=ys[k]?.getD d):xs.take (k+1)=ys.take (k+1):=by exact XXzUO
theorem ne_of_at {α:Type} (d:α) (xs ys:List α) (k:Nat) (e:¬xs[k]?.getD d=ys[k]?.getD d):xs≠ys:=λh=>e (by rw [h])
theorem neq_field (x y:Fld) (w:World):(binOp .neq 126 (Z9 #[ZD x.1,ZD x.2]) (Z9 #[ZD y.1,ZD y.2])).run Mm w=.ok (ZB (!decide (x=y))) w:=by
 have u9:=Ns;have a9:=KL;have z9:=ME;have hS:Mm.underlying 126=some (.struct (Mm.fieldsOf 126)):=ZY;have hp:Mm.stoodInHeld 126=false:=ZY;obtain ⟨x1,x2⟩:=x;obtain ⟨y1,y2⟩:=y;rw [run_neq_struct,show (10000:Nat)=9999+1 from rfl,run_equalIn_agg w 9999 126 _ _ hS hp];simp only [Program.fieldsOf,Tryz.underlying126];go_simp;by_cases h1:x1=y1<;>by_cases h2:x2=y2<;>simp [h1,h2,toList_iff]
theorem guard_field (op:BinOp) (a b:Operand) (x y:Fld) (w:World):(eqGuard op 126 a b (Z9 #[ZD x.1,ZD x.2]) (Z9 #[ZD y.1,ZD y.2])).run Mm w=.ok () w:=
 run_eqGuard_agg w op 126 a b _ _ ZY
section
theorem XXTy8 {P:Prop} (h:P:=by
 obtain ⟨k,q,hk,rfl,rfl,hsm⟩:=hrel;rcases Gp k n with hlt | hge
 ·obtain ⟨b1,o1,rfl,_,hc⟩:=HX.out.2 ZZ;obtain ⟨hc0,hc1⟩:=hc k hlt;clear hc;obtain ⟨b2,o2,rfl,_,hd⟩:=HY.out.2 ZZ;obtain ⟨hd0,hd1⟩:=hd k hlt;clear hd;have i1:(k:Int)<(n:Int):=ZZ
  have hnq:=neq_field (xs[k]?.getD dflt) (ys[k]?.getD dflt);have hgd:=λop a b=>guard_field op a b (xs[k]?.getD dflt) (ys[k]?.getD dflt);by_cases he:xs[k]?.getD dflt=ys[k]?.getD dflt
  ·have hT:=Dl (take_eq_snoc dflt xs ys k (by rw [HLX.out];exact hlt) (by rw [HLY.out];exact hlt) hsm.out he);rw [he,ZK rfl] at hnq;rw [he] at hgd hc0 hc1;clear he;generalize (ys[k]?.getD dflt)=y at *;go_wp2_with fail;go_quiet (fail);rename_i nq;go_wp2;go_roundw
   case rel=>first | exact ⟨k+1,q+nq,ZZ,ZT,(NR _ _ _).symm ▸ rfl,hT⟩ | exact ⟨k+1,q+nq,ZZ,ZT,by rw [NR],hT⟩ | exact ⟨k+1,q+nq,ZZ,ZT,rfl,hT⟩
   case measure=>simp [intOf];omega
  ·rw [ZL he] at hnq;have hF:=Dl (ne_of_at dflt xs ys k he);clear he;generalize (xs[k]?.getD dflt)=x at *;generalize (ys[k]?.getD dflt)=y at *;go_wp2_with fail;go_quiet (fail);rename_i nq;go_wp2;go_ret;refine ⟨by rw [ZL hF.out];rfl,q+nq,?_⟩;first | rfl | rw [NR]
 ·obtain rfl:k=n:=by omega
  go_wp2;go_ret;have e:=hsm.out;rw [FF (by rw [HLX.out];exact Gi _),FF (by rw [HLY.out];exact Gi _)] at e
  refine ⟨by rw [ZK e];rfl,q,rfl⟩):P:=h
theorem equal_any (a:Option Addr) (n cap:Nat) (xs:List Fld) (b:Option Addr) (m cap2:Nat) (ys:List Fld) (w:World) (hx:Flds w a n xs) (hy:Flds w b m ys) (hn:n<=1000000000) (hm:m<=1000000000) :
 Calls Mm 201 #[.slice a n cap,.slice b m cap2] w λe w'=>e=.returned (ZB (decide (xs=ys)))/\∃q,w'=w.drewN q:=by
 have HX:=Dl hx;have HY:=Dl hy;have HLX:=Dl hx.1;have HLY:=Dl hy.1;clear hx hy;by_cases hl:n=m
 ·subst hl;go_enter Tryz.func201,Tryz.ntmps201;go_wp2
  go_loopw [13] (λi wr=>∃k q:Nat,k<=n/\i=ZE Z7 k/\wr=w.drewN q/\Hid (xs.take k=ys.take k)) (λi _=>n-(intOf i).toNat)
  case atStart=>exact ⟨0,0,Gz _,rfl,rfl,Dl rfl⟩
  case round=>exact XXTy8
 ·have hne:xs≠ys:=λh=>hl (by rw [←HLX.out,←HLY.out,h]);have hl':¬(n:Int)=(m:Int):=by omega
  have HN:=Dl hne;clear hne;go_enter Tryz.func201,Tryz.ntmps201;go_wp2;go_ret;exact ⟨by rw [ZL HN.out];rfl,0,rfl⟩
theorem rfields_any (a:Option Addr) (n cap:Nat) (xs:List Fld) (b:Option Addr) (m cap2:Nat) (ys:List Fld) (w:World) (hx:Flds w a n xs) (hy:Flds w b m ys) (hn:n<=1000000000) (hm:m<=1000000000) :
 Calls Mm 56 #[.slice a n cap,.slice b m cap2] w λe w'=>e=.returned (ZB (decide (xs=ys)))/\∃q,w'=w.drewN q:=by
 have HX:=Dl hx;have HY:=Dl hy;have HLX:=Dl hx.1;have HLY:=Dl hy.1;clear hx hy;by_cases hl:n=m
 ·subst hl;go_enter Tryz.func56,Tryz.ntmps56;go_wp2
  go_loopw [5] (λi wr=>∃k q:Nat,k<=n/\i=ZE Z7 k/\wr=w.drewN q/\Hid (xs.take k=ys.take k)) (λi _=>n-(intOf i).toNat)
  case atStart=>exact ⟨0,0,Gz _,rfl,rfl,Dl rfl⟩
  case round=>exact XXTy8
 ·have hne:xs≠ys:=λh=>hl (by rw [←HLX.out,←HLY.out,h]);have hl':¬(n:Int)=(m:Int):=by omega
  have HN:=Dl hne;clear hne;go_enter Tryz.func56,Tryz.ntmps56;go_wp2;go_ret;exact ⟨by rw [ZL HN.out];rfl,0,rfl⟩
theorem fields_any (a:Option Addr) (n cap:Nat) (xs:List Fld) (b:Option Addr) (m cap2:Nat) (ys:List Fld) (w:World) (hx:Flds w a n xs) (hy:Flds w b m ys) (hn:n<=1000000000) (hm:m<=1000000000) :
 Calls Mm 178 #[.slice a n cap,.slice b m cap2] w λe w'=>e=.returned (ZB (decide (xs=ys)))/\∃q,w'=w.drewN q:=by
 have h:=Dl (equal_any a n cap xs b m cap2 ys w hx hy hn hm);clear hx hy;generalize decide (xs=ys)=r at *;go_enter Tryz.func178,Tryz.ntmps178;go_wp2_with (go_at_call 201;with_reducible refine h.out.mono ?_;rintro e w2 ⟨rfl,q,rfl⟩);go_ret;exact ⟨rfl,q,rfl⟩
end
end Txt
theorem XXuDV {P:Prop} (h:P:=by
 go_roundw
 case rel=>exact ⟨k+1,ZZ,ZT,H2,H3⟩
 case measure=>simp [intOf];omega):P:=h
namespace Txt
open Base Oct
theorem find_snoc (fs:List Fld) (name:ByteArray) (k:Nat) (h:k<fs.length):find (fs.take (k+1)) name=find (fs.take k) name++(if same (fs[k]?.getD dflt).1 name=true then [(fs[k]?.getD dflt).2] else []):=by
 rw [flds_snoc fs k h];unfold find;rw [List.filter_append,Ff]
 congr 1
 generalize fs[k]?.getD dflt=f;by_cases hs:same f.1 name=true<;>simp [hs]
theorem find_le (fs:List Fld) (name:ByteArray):(find fs name).length<=fs.length:=by unfold find;rw [EV];exact List.length_filter_le _ _
section
theorem XXLIl {P:Prop} (h:P:=by
 intro v' w' hown' hgr _
 have H2:Hid (w'.ownsRow w.heap.size 9 1 v' (find (fs.take (k+1)) name).length ((find (fs.take (k+1)) name).map Value.string)):=Dl (by rw [hsn.out];simpa using hown');have H3:=Dl (((A6 hbr.out hb0.out).alloc (by have:=hbr.out.size;have:=hb0.out.size;omega) _).grown hgr (by have:=hbr.out.size;have:=hb0.out.size;simp;omega) (own_base hown.out));clear hown' hgr hown hown0;go_wp2;go_roundw
 case rel=>exact ⟨k+1,ZZ,ZT,H2,H3⟩
 case measure=>simp [intOf];omega):P:=h
theorem XXR68 {P:Prop} (h:P:=by
 obtain rfl:k=n:=ZZ;have hown1:=hown.out;rw [FF (by rw [HL.out];omega)] at hown1;obtain ⟨A,c,rfl,hA⟩:=Strs.of_own hown1;have HA:=Dl hA;clear hown1 hA hown;go_wp2;go_ret
 exact ⟨A,_,c,rfl,rfl,HA.out,hbr.out⟩):P:=h
theorem find_any (a:Option Addr) (n cap:Nat) (fs:List Fld) (name:ByteArray) (w:World) (hv:Flds w a n fs) (hn:n<=1000000000) (hs:∀f∈fs,f.1.size<=maxLen) :
 Calls Mm 99 #[.slice a n cap,ZD name] w λe w'=>∃b m c,e=.returned (.slice b m c)/\m=(find fs name).length/\Strs w' b m (find fs name)/\Below w.heap.size w w':=by
 have HV:=Dl hv;have HL:=Dl hv.1;have HS:=Dl hs;clear hv hs;obtain ⟨i0,hi,hz0,hz1,hz2⟩:=info_parts text_info;have G1:=Dl hi;have G2:=Dl hz0;have G3:=Dl hz1;have G4:=Dl hz2;clear hi hz0 hz1 hz2;go_enter Tryz.func99,Tryz.ntmps99;go_wp2
 go_loopw [5,10] (λv i wr=>∃k:Nat,k<=n/\i=ZE Z7 k/\Hid (wr.ownsRow w.heap.size 9 1 v (find (fs.take k) name).length ((find (fs.take k) name).map Value.string))/\Hid (Below w.heap.size w wr)) (λ_ i _=>n-(intOf i).toNat)
 case atStart=>exact ⟨0,Gz _,rfl,Dl ⟨rfl,.inl ⟨rfl,rfl⟩⟩,Dl (AE _ _)⟩
 case round=>
  obtain ⟨k,hk,rfl,hown,hbr⟩:=hrel;rcases Gp k n with hlt | hge
  ·obtain ⟨bl,off,rfl,hbl,hc⟩:=(HV.out.below hbr.out).2 ZZ;obtain ⟨hc0,hc1⟩:=hc k hlt;have hsn:=Dl (find_snoc fs name k (by rw [HL.out];exact hlt));have hfl:=find_le (fs.take k) name;rw [Fc] at hfl;have hsz:(fs[k]?.getD dflt).1.size<=maxLen:=by
    have:k<fs.length:=by rw [HL.out];exact hlt
    rw [Et this]
    exact HS.out _ (EB _)
   clear hc;generalize fs[k]?.getD dflt=f at *;generalize hL:find (fs.take k) name=L at *;obtain ⟨f0,f1⟩:=f;simp only at hc0 hc1 hsz hsn;have HC:=Dl (λw=>same_any f0 name w hsz);clear hsz hL;cases hq:same f0 name with
   | false=>
     rw [hq] at HC hsn;rw [ZO ZX,D8] at hsn;clear hq;go_wp2_with (go_at_call 145;with_reducible refine (HC.out _).mono ?_;rintro e w2 ⟨rfl,hb2⟩);have hb0:Below wr.heap.size wr w2:=A6 ((AE _ _).alloc (Gi _) _) hb2
     have H2:Hid (w2.ownsRow w.heap.size 9 1 u5 (find (fs.take (k+1)) name).length ((find (fs.take (k+1)) name).map Value.string)):=Dl (by rw [hsn.out];exact own_below hown.out hb0);have H3:=Dl (A6 hbr.out hb0);clear hown hb2 hb0;exact XXuDV
   | true=>
     rw [hq] at HC hsn;rw [ZN rfl] at hsn;clear hq
     go_wp2_with (first
      |(go_at_call 145;with_reducible refine (HC.out _).mono ?_;rintro e w2 ⟨rfl,hb2⟩
        have hf1:=(hb2.cell (p:=⟨wr.heap.size,1,none⟩) ZW).trans (show _=some (ZD f1) by simp)
        have hb0:=Dl (show Below wr.heap.size wr w2 from A6 ((AE _ _).alloc (Gi _) _) hb2)
        have hown0:=Dl (own_below hown.out hb0.out))
      |(at_builtin;refine wpList_append_own _ rfl _ _ 124 rfl w.heap.size 9 i0 (.string Bp) 1 16 MV G1.out G2.out G3.out G4.out rfl ZX _ _ _ rfl (hown0.out.alloc _) ⟨w2.heap.size,0,none⟩ 1 1 [.string f1] rfl rfl ?c1 ?c2 ?c3 ?c4 ?c5 ?_))
     case c1=>exact news_one w2 _ _
     case c2=>intro u hu;obtain rfl:u=ZD f1:=by simpa using hu
              rfl
     case c3=>unfold maxLen;omega
     case c4=>omega
     case c5=>have:=hbr.out.size;have:=hb0.out.size;simp;omega
     exact XXLIl
  ·exact XXR68
end
end Txt
theorem ZV {P:Prop} (h:P:=by rfl):P:=h
namespace Txt
open Base Oct Go.Maps
def keyIn (s:ByteArray):Lit:=.string (lower s).data.toList
def gone (ss:List ByteArray):DataW Unit:=setOf (.agg []) (ss.map keyIn)
theorem has_gone (ss:List ByteArray) (s:ByteArray):Maps.has (gone ss) (keyIn s)=one ss s:=by unfold gone;rw [has_setOf _ _ _ (λy hy=>by obtain ⟨_,_,rfl⟩:=List.mem_map.1 hy;trivial),List.any_map];rfl
theorem gone_snoc (ss:List ByteArray) (k:Nat) (h:k<ss.length):gone (ss.take (k+1))=(gone (ss.take k)).put (keyIn (ss[k]?.getD Bp)) (.agg []):=by unfold gone;rw [strs_snoc ss k h,Ff,List.map_singleton,setOf_snoc]
theorem law_text:Keyed Mm 9:=string_keyed Ns
theorem zero_unit (w:World):(zeroValue 162).run Mm w=.ok (Z9 #[]) w:=ZY
theorem key_text (s:ByteArray) (h:s.size<=maxLen):keyOf Mm 9 (.string (lower s))=some (keyIn s):=Go.WideMaps.keyOf_string_mk Ns (by rw [lower_size];exact h)
section
theorem smallNames_any (a:Option Addr) (n cap:Nat) (ss:List ByteArray) (w:World) (hv:Strs w a n ss) (hn:n<=1000000000) (hs:∀s∈ss,s.size<=1000000000) :
 Calls Mm 141 #[.slice a n cap] w λe w'=>e=.returned (.map (some w.heap.size))/\w'.ownsMap Mm 9 unitElem w.heap.size n (gone ss)/\Below w.heap.size w w':=by
 have HV:=Dl hv;have HL:=Dl hv.1;have HS:=Dl hs;clear hv hs;have hmm:=@run_makeMap Mm;go_enter Tryz.func141,Tryz.ntmps141;go_wp2;clear hmm
 go_loopw [9] (λi wr=>∃k:Nat,k<=n/\i=ZE Z7 k/\Hid (wr.ownsMap Mm 9 unitElem w.heap.size k (gone (ss.take k)))/\Hid (Below w.heap.size w wr)) (λi _=>n-(intOf i).toNat)
 case atStart=>exact ⟨0,Gz _,rfl,Dl (World.ownsMap_made _ _ _ _),Dl ((AE _ _).alloc (Gi _) _)⟩
 case round=>
  obtain ⟨k,hk,rfl,hown,hbr⟩:=hrel;rcases Gp k n with hlt | hge
  ·obtain ⟨bl,off,rfl,hbl,hc⟩:=(HV.out.below hbr.out).2 ZZ;have hck:=hc k hlt;have hkl:k<ss.length:=by rw [HL.out];exact hlt
   have hgs:=Dl (gone_snoc ss k hkl);have hsz:(ss[k]?.getD Bp).size<=1000000000:=by
    rw [Et hkl]
    exact HS.out _ (EB _)
   clear hc hkl;generalize ss[k]?.getD Bp=x at *
   have HC:=Dl (λw=>lower_any x w ZZ)
   have hkey:=Dl (key_text x ZP)
   go_wp2_with (first
    |(go_at_call 144;with_reducible refine (HC.out _).mono ?_;rintro e w2 ⟨rfl,hb2⟩)
    |(at_mapUpdate;refine wpList_mapUpdate_own _ rfl _ _ _ 159 rfl 9 162 law_text Tryz.underlying159 (unitElem (H:=Unit)) w.heap.size k _ rfl (hown.out.kept (grown_of_below hb2) ZW) ZP _ _ _ rfl rfl hkey.out _ [] unitElem_mk ?_;intro w3 hown3 hgrow3))
   have H1:Hid (w3.ownsMap Mm 9 unitElem w.heap.size (k+1) (gone (ss.take (k+1)))):=Dl (by rw [hgs.out];exact hown3);have H2:=Dl ((A6 hbr.out hb2).grown hgrow3 (by have:=hbr.out.size;have:=hb2.size;omega) (λj hj=>by cases hj;exact Gi _));clear hown hown3 hgrow3 hb2;go_roundw
   case rel=>exact ⟨k+1,ZZ,ZT,H1,H2⟩
   case measure=>simp [intOf];omega
  ·obtain rfl:k=n:=by omega
   have hown1:=hown.out;rw [FF (by rw [HL.out];omega)] at hown1;have HO:=Dl hown1;clear hown hown1;go_wp2;go_ret;exact ⟨rfl,HO.out,hbr.out⟩
attribute [local go_sem] A8
theorem gone_any (f0 f1:ByteArray) (G B n:Nat) (D:DataW Unit) (w:World) (hc:w.cell? ⟨G,0,none⟩=some (.map (some B))) (hm:w.ownsMap Mm 9 unitElem B n D) (hs:f0.size<=1000000000) :
 Calls Mm 143 #[Z9 #[ZD f0,ZD f1],ZA (some ⟨G,0,none⟩)] w λe w'=>e=.returned (ZB (Maps.has D (keyIn f0)))/\Below w.heap.size w w':=by
 have hG:G<w.heap.size:=by
  rcases Gp G w.heap.size with h | h
  ·exact h
  ·simp [World.cell?,Ao h] at hc
 have HM:=Dl hm;have HCell:=Dl hc;clear hm hc
 have HC:=Dl (λw=>lower_any f0 w ZZ);have hkey:=Dl (key_text f0 ZP);generalize hr:Maps.has D (keyIn f0)=r;have HR:=Dl hr;clear hr;go_enter Tryz.func143,Tryz.ntmps143;go_wp2_with fail;have hf0:(w.alloc (.cells #[.string f0,.string f1] 126)).cell? ⟨w.heap.size,0,none⟩=some (.string f0):=ZW;have hg0:(w.alloc (.cells #[.string f0,.string f1] 126)).cell? ⟨G,0,none⟩=some (.map (some B)):=Lib.cell?_alloc_some _ HCell.out;have hm0:=Dl (HM.out.alloc (.cells #[.string f0,.string f1] 126));have hW:Below w.heap.size w (w.alloc (.cells #[.string f0,.string f1] 126)):=(AE _ _).alloc (Gi _) _;have hgg:w.heap.size<(w.alloc (.cells #[.string f0,.string f1] 126)).heap.size:=ZW;have hGG:G<(w.alloc (.cells #[.string f0,.string f1] 126)).heap.size:=ZQ;generalize w.alloc (.cells #[.string f0,.string f1] 126)=W at *;generalize hgw:w.heap.size=g at *;refine Tree.region (.quiet 0 (.quiet 1 (.quiet 2 (.two 3 (.quiet 4 (.quiet 5 (.quiet 6 (.quiet 7 (.act 8 (.act 9 (.quiet 10 .done))))))) 8 (.act 3 (.quiet 4 (.quiet 5 (.quiet 6 (.quiet 7 (.act 9 (.quiet 10 .done))))))))))) (λw'=>Below W.heap.size W w') ZY ZY (λ_ _ d _ _ h=>by cases d<;>exact h) (Az (AE _ _) 1) ?_;simp only [Ju,Jw,Er,Ep];have hlook:∀w',Below W.heap.size W w'->(Instr.lookup 159 (.map (some B)) (.string (lower f0)) true).run Mm w'=.ok (.tuple #[.agg #[],.bool r]) w':=λw' hS=>by obtain ⟨v,ps,hrun,hv⟩:=(hm0.out.kept (grown_of_below hS) ZW).look_ok law_text Tryz.underlying159 (zero_unit _) unitElem_mk hkey.out;obtain ⟨rfl,_⟩:=unitElem_inv hv;rw [HR.out] at hrun;exact hrun
 repeat' (first
  |(refine Tree.both ?_ ?_)
  |(refine Tree.skip ZV ?_;simp only [Ab,F4,F7,F6])
  |(refine Tree.skip_act ZV ?_;simp only [Ab,F4,F7,F6])
  |(refine Tree.move _ ZV ZV ?_;simp only [Ab,Aa,Am,E6,Er,Ep,GW,F4,F7,F6])
  |(refine Jq _ ZV ZV ?_;simp only [Ab,Aa,Am,E6,Er,Ep,GW,F4,F7,F6])
  |(refine Jx ZV ?_ ?_ ?_;rotate_left 1;(·(intro w' hS;have q0:=(hS.cell (p:=⟨g,0,none⟩) hgg).trans hf0;have q1:=(hS.cell (p:=⟨G,0,none⟩) hGG).trans hg0;have q2:=hlook w' hS;go_simp;with_reducible rfl));simp only [Ab,F4,F7,F6])
  |(refine Jr ZV (λK hK=>?_);go_simp;first
     |(refine hK _ _ ?_ ?_;(·repeat (first | exact AE _ _ | assumption | refine AB ?_ (by first | exact Gi _ | exact Below.size ZS |(simp;done)) _ | with_reducible refine Az ?_ _ | refine A6 ?_ ZS));clear hK K)
     |((with_reducible refine (HC.out _).mono ?_);rintro e w2 ⟨rfl,hb2⟩
       have hbx:Below W.heap.size W w2:=by (repeat (first | exact AE _ _ | assumption | refine AB ?_ (by first | exact Gi _ |(simp;done)) _ | with_reducible refine Az ?_ _ | refine A6 ?_ ZS))))
  |(dsimp only;refine hK _ _ ?_ ?_;assumption;clear hK K))
 all_goals
  refine Js ?_;go_wp2;go_ret;first
   | exact ⟨rfl,hgw ▸ hW.trans (Below.mono (hbx.alloc hbx.size _) (hgw ▸ hW.size))⟩
   | exact ⟨rfl,hgw ▸ hW.trans (Below.mono hbx (hgw ▸ hW.size))⟩
end
end Txt
namespace Txt
open Base Oct Go.Maps
section
variable {w:World} {base size g n cap:Nat} {e:TypeId} {xs:List Value} {v:Value}
theorem own_cut (h:w.ownsRow base e size (ZC (some ⟨g,0,none⟩) n cap) n xs) (k:Nat) (hk:k<=n):w.ownsRow base e size (ZC (some ⟨g,0,none⟩) k cap) k (xs.take (k*size)):=by
 have hle:k*size<=n*size:=Nat.mul_le_mul_right _ hk;rcases h.2 with ⟨h',_⟩ | ⟨g',cap',cur,h',hb,hg,hnc,hcm,hcs,htake⟩
 ·cases h'
 ·simp only [Value.slice.injEq,GZ.injEq,Addr.mk.injEq,and_true,true_and] at h';obtain ⟨rfl,rfl⟩:=h';exact ⟨by rw [Fc,h.1];omega,.inr ⟨g,cap,cur,rfl,hb,hg,ZZ,hcm,hcs,by rw [←htake,List.take_take,Nat.min_eq_left hle]⟩⟩
theorem own_sets:∀(vs:List Value) (o:Nat) (w:World),n*size<=o->w.ownsRow base e size (ZC (some ⟨g,0,none⟩) n cap) n xs->(w.setCells g o vs).ownsRow base e size (ZC (some ⟨g,0,none⟩) n cap) n xs
 | [],_,_,_,h=>h
 | u::r,o,w,ho,h=>by
   have h1:=(h.stored o u).1;rw [List.set_eq_of_length_le (by rw [h.1];exact ho)] at h1;exact own_sets r (o+1) _ ZZ h1
theorem own_lower (h:w.ownsRow base e size v n xs) {base':Nat} (hb:base'<=base):w.ownsRow base' e size v n xs:=by refine ⟨h.1,h.2.imp_right ?_⟩;rintro ⟨g,cap,cur,e1,h1,h2⟩;exact ⟨g,cap,cur,e1,Gl hb h1,h2⟩
end
theorem cells_take (R:List Fld) (k:Nat):(cells R).take (k*2)=cells (R.take k):=by
 rcases Nat.le_total k R.length with h | h
 ·conv=>lhs;rw [←FD k R,cells_append]
  rw [List.take_left' (by rw [cells_length,Fc];omega)]
 ·rw [FF (by rw [cells_length];omega),FF h]
def Asks (g:Nat) (lb:Array Value) (p:Fld->Bool) (fs:List Fld) (w0:World):Prop:=
 ∀(W:World) (x:Fld),x∈fs->Below w0.heap.size w0 W->Calls Mm g (#[Z9 #[ZD x.1,ZD x.2]]++lb) W λe w'=>e=.returned (ZB (p x))/\Below W.heap.size W w'
theorem clear_rows (w:World) (b I n cap:Nat) (hn:0<n) (hc:∀j,j<n*2->(w.cell? ⟨b,I*2+j,none⟩).isSome=true) (hf:∀j,j<n*2->w.frozen? ⟨b,I*2+j,none⟩=false) :
 ∃vs,∀ty,(Builtin.clear_ #[46] ty #[ZC (some ⟨b,I*2,none⟩) n cap]).run Mm w=.ok (Z8 #[]) (w.setCells b (I*2) vs):=by
 have hz:∀w,(zeroValue 126).run Mm w=.ok (Z9 #[ZD Bp,ZD Bp]) w:=λw=>by kernel_rfl
 have hzc:(Value.agg #[ZD Bp,ZD Bp]).cells= #[ZD Bp,ZD Bp]:=rfl;refine ⟨(Bl #[ZD Bp,ZD Bp] n).toList,λty=>?_⟩;have hl:(Bl #[ZD Bp,ZD Bp] n).toList.length=n*2:=by simp [Bl]
 have hst:=run_storeCells_cells (P:=Mm) b (I*2) (Bl #[ZD Bp,ZD Bp] n).toList 0 w (by rw [hl];simpa using hc) (by rw [hl];simpa using hf) (by
  intro v hv;simp only [Bl,Array.toList_map,List.mem_map] at hv;obtain ⟨i,_,rfl⟩:=hv;have:i%2=0∨i%2=1:=ZZ;rcases this with h | h<;>simp [h,Value.oneCell'])
 simp only [Nat.add_zero] at hst;obtain ⟨m,rfl⟩:∃m,n=m+1:=⟨n-1,ZZ⟩;simp [Builtin.clear_,run_underlying Nq,hz,hzc,hst]
theorem cells_set (R:List Fld) (i:Nat) (f:Fld) (h:i<R.length):((cells R).set (i*2) (ZD f.1)).set (i*2+1) (ZD f.2)=cells (R.set i f):=by
 have e:R=R.take i++R[i]::R.drop (i+1):=by conv=>lhs;rw [←FD i R,DR h]
 have hl:(cells (R.take i)).length=i*2:=by rw [cells_length,Fc];omega
 have e1:cells R=cells (R.take i)++(ZD R[i].1 :: ZD R[i].2::cells (R.drop (i+1))):=by
  conv=>lhs;rw [e,cells_append]
  rfl
 have e2:cells (R.set i f)=cells (R.take i)++(ZD f.1 :: ZD f.2::cells (R.drop (i+1))):=by rw [List.set_eq_take_append_cons_drop,ZN h,cells_append];rfl
 rw [e1,e2,F5 _ _ ZZ,F5 _ _ ZZ,hl];rw [show i*2-i*2=0 by omega,show i*2+1-i*2=1 by omega];rfl
section
theorem indexFunc_any (g:Nat) (lb:Array Value) (eg:∀args w,(callFunc g args).run Mm w=.ok (.enter g args) w) (p:Fld->Bool) (a:Option Addr) (n cap:Nat) (fs:List Fld) (w0 w:World)
 (hp:Asks g lb p fs w0) (hv:Flds w a n fs) (hn:n<=1000000000) (hb0:Below w0.heap.size w0 w) :
 Calls Mm 174 #[.slice a n cap,.func (.func g) #[] lb] w λe w'=>(∃r:Int,e=.returned (ZE Z7 r)/\((r= -1/\∀x∈fs,p x=false)∨∃i:Nat,r=i/\i<n/\(∀x∈fs.take i,p x=false)/\p (fs[i]?.getD dflt)=true))/\Below w.heap.size w w':=by
 have HV:=Dl hv;have HL:=Dl hv.1;have HP:=Dl hp;have HB0:=Dl hb0;clear hv hp hb0;go_enter Tryz.func174,Tryz.ntmps174;go_wp2
 go_loopw [8] (λi wr=>∃k:Nat,k<=n/\i=ZE Z7 k/\Hid (∀x∈fs.take k,p x=false)/\Hid (Below w.heap.size w wr)) (λi _=>n-(intOf i).toNat)
 case atStart=>exact ⟨0,Gz _,rfl,Dl ZW,Dl (AE _ _)⟩
 case round=>
  obtain ⟨k,hk,rfl,hno,hbr⟩:=hrel;rcases Gp k n with hlt | hge
  ·obtain ⟨bl,off,rfl,hbl,hc⟩:=(HV.out.below hbr.out).2 ZZ;obtain ⟨hc0,hc1⟩:=hc k hlt;have hkl:k<fs.length:=by rw [HL.out];exact hlt
   have hsn:=Dl (flds_snoc fs k hkl);have hmem:fs[k]?.getD dflt∈fs:=by rw [Et hkl];exact EB _
   have HC:=Dl (λW hW=>HP.out W _ hmem hW);clear hc hkl hmem;generalize hf:fs[k]?.getD dflt=f at *;have HF:=Dl hf;clear hf;obtain ⟨f0,f1⟩:=f;simp only at hc0 hc1;have hbw:=Dl (A6 HB0.out (hbr.out.mono (Gi _)));cases hq:p (f0,f1) with
   | true=>
     rw [hq] at HC;have HQ:=Dl hq;clear hq;go_wp2_with (go_at_fn g;with_reducible refine (HC.out _ ?_).mono ?_;(repeat (first | exact hbw.out | with_reducible refine Az ?_ _));rintro e w2 ⟨rfl,hb2⟩);go_ret;exact ⟨⟨k,rfl,.inr ⟨k,rfl,hlt,hno.out,by rw [HF.out];exact HQ.out⟩⟩,A6 hbr.out hb2⟩
   | false=>
     rw [hq] at HC;have HQ:=Dl hq;clear hq;go_wp2_with (go_at_fn g;with_reducible refine (HC.out _ ?_).mono ?_;(repeat (first | exact hbw.out | with_reducible refine Az ?_ _));rintro e w2 ⟨rfl,hb2⟩);go_roundw
     case rel=>
      refine ⟨k+1,ZZ,ZT,Dl ?_,Dl (A6 hbr.out hb2)⟩;rw [hsn.out];intro x hx;rcases Fj.1 hx with hx | hx
      ·exact hno.out x hx
      ·obtain rfl:x=(f0,f1):=by simpa using hx
       exact HQ.out
     case measure=>simp [intOf];omega
  ·obtain rfl:k=n:=by omega
   have hno':=hno.out;rw [FF (by rw [HL.out];omega)] at hno';have HN:=Dl hno';clear hno';go_wp2;go_ret;exact ⟨⟨-1,rfl,.inl ⟨rfl,HN.out⟩⟩,hbr.out⟩
theorem deleteFunc_nil (g:Nat) (lb:Array Value) (eg:∀args w,(callFunc g args).run Mm w=.ok (.enter g args) w) (p:Fld->Bool) (w0 w:World) (hp:Asks g lb p [] w0) (hb0:Below w0.heap.size w0 w) :
 Calls Mm 142 #[ZC none 0 0,.func (.func g) #[] lb] w λe w'=>e=.returned (ZC none 0 0)/\Below w.heap.size w w':=by
 have HI:=Dl ((indexFunc_any g lb eg p none 0 0 [] w0 w hp (Flds.nil _ _) ZZ hb0).mono (R':=λe w'=>e=.returned (ZE Z7 (-1))/\Below w.heap.size w w') (by
  rintro e w' ⟨⟨r,rfl,(⟨rfl,_⟩ | ⟨i,_,hi,_⟩)⟩,hb⟩
  ·exact ⟨rfl,hb⟩
  ·omega))
 clear hp hb0 eg;go_enter Tryz.func142,Tryz.ntmps142;go_wp2_with (go_at_call 174;with_reducible refine HI.out.mono ?_;rintro e w2 ⟨rfl,hb2⟩);go_ret;exact ⟨rfl,hb2⟩
theorem filter_snoc (p:Fld->Bool) (fs:List Fld) (j:Nat) (h:j<fs.length):(fs.take (j+1)).filter (λf=>!p f)=(fs.take j).filter (λf=>!p f)++(if p (fs[j]?.getD dflt)=true then [] else [fs[j]?.getD dflt]):=by
 rw [flds_snoc fs j h,List.filter_append]
 congr 1
 generalize fs[j]?.getD dflt=f;by_cases hs:p f=true<;>simp [hs]
theorem deleteFunc_any (g:Nat) (lb:Array Value) (eg:∀args w,(callFunc g args).run Mm w=.ok (.enter g args) w) (p:Fld->Bool) (r n cap:Nat) (fs:List Fld) (w0 w:World)
 (hp:Asks g lb p fs w0) (hv:w.ownsRow w0.heap.size 126 2 (ZC (some ⟨r,0,none⟩) n cap) n (cells fs)) (h0:0<n) (hn:n<=1000000000) (hb0:Below w0.heap.size w0 w) :
 Calls Mm 142 #[ZC (some ⟨r,0,none⟩) n cap,.func (.func g) #[] lb] w λe w'=>∃m,e=.returned (ZC (some ⟨r,0,none⟩) m cap)/\m=(fs.filter λf=>!p f).length/\Flds w' (some ⟨r,0,none⟩) m (fs.filter λf=>!p f)/\Below w0.heap.size w0 w'/\w'.ownsRow w0.heap.size 126 2 (ZC (some ⟨r,0,none⟩) m cap) m (cells (fs.filter λf=>!p f)):=by
 have hl:fs.length=n:=by have:=hv.1;rw [cells_length] at this;omega
 obtain ⟨hr0,hr1⟩:=hv.lt r rfl;have hcap:n<=cap:=by
  rcases hv.2 with ⟨h,_⟩ | ⟨_,c,_,h,_,_,hh,_⟩
  ·cases h
  ·cases h;exact hh
 have hF:Flds w (some ⟨r,0,none⟩) n fs:=Flds.of_cells hl hr1 λj hj=>hv.cellAt j hj;have HI:=Dl (indexFunc_any g lb eg p (some ⟨r,0,none⟩) n cap fs w0 w hp hF hn hb0);have HV:=Dl hv;have HL:=Dl hl;have HP:=Dl hp;have HB0:=Dl hb0;clear hv hl hp hb0 hF;go_enter Tryz.func142,Tryz.ntmps142
 go_wp2_with (go_at_call 174;with_reducible refine HI.out.mono ?_;rintro e w1 ⟨⟨x,rfl,hx⟩,hb1⟩)
 ·have hxe:(x == -1)=true:=by assumption
  rcases hx with ⟨rfl,hall⟩ | ⟨i,rfl,_,_,_⟩
  ·have hff:fs.filter (λf=>!p f)=fs:=List.filter_eq_self.2 λf hf=>by rw [hall f hf];rfl
   go_ret;have ho:=own_below HV.out hb1;refine ⟨n,rfl,by rw [hff,HL.out],?_,A6 HB0.out hb1,by rw [hff];exact ho⟩;rw [hff];exact Flds.of_cells HL.out (ho.lt r rfl).2 λj hj=>ho.cellAt j hj
  ·exact ZG (ZI.1 hxe) ZZ
 ·have hxe:(x == -1)=false:=by assumption
  rcases hx with ⟨rfl,_⟩ | ⟨I0,rfl,hI0,hno,hyes⟩
  ·cases hxe
  have hB1:=Dl (A6 HB0.out hb1)
  have hO1:=Dl (own_below HV.out hb1)
  have hI1:=Dl (show (fs.take (I0+1)).filter (λf=>!p f)=fs.take I0 from by rw [filter_snoc p fs I0 (by rw [HL.out];exact hI0),ZN hyes,D8];exact List.filter_eq_self.2 λf hf=>by rw [hno f hf];rfl);clear hb1 hno hyes hxe HI;have e1:wrap64 ((I0:Int)+1)=(I0:Int)+1:=by unfold wrap64;omega
  have e3:((I0:Int) == -1)=false:=ZM.2 ZZ;rw [e3];go_wp2;rw [e1];clear e1 e3
  go_loopw [5,6] (λi j wr=>∃(I J:Nat) (R:List Fld),i=ZE Z7 I/\j=ZE Z7 J/\J<=n/\I<J/\Hid (R.length=n)/\Hid (R.take I=(fs.take J).filter (λf=>!p f))/\Hid (R.drop J=fs.drop J)/\
   Hid (wr.ownsRow w0.heap.size 126 2 (ZC (some ⟨r,0,none⟩) n cap) n (cells R))/\Hid (Below w0.heap.size w0 wr)) (λ_ j _=>n-(intOf j).toNat)
  case atStart=>exact ⟨I0,I0+1,fs,rfl,by first | rfl | go_num | simp,ZZ,ZZ,HL,Dl hI1.out.symm,Dl rfl,hO1,hB1⟩
  case round=>
   obtain ⟨I,J,R,rfl,rfl,hJ,hIJ,hRl,hRI,hRJ,hO,hB⟩:=hrel;rcases Gp J n with hlt | hge
   ·have hRJl:J<R.length:=by rw [hRl.out];exact hlt
    have hfl:J<fs.length:=by rw [HL.out];exact hlt
    obtain ⟨q0,q1⟩:=cells_at R J hRJl;have hc0:=(hO.out.cellAt (J*2) ZZ).trans q0;have hc1:=(hO.out.cellAt (J*2+1) ZZ).trans q1;have hRf:R[J]?.getD dflt=fs[J]?.getD dflt:=by have:=ZH (λl=>l[0]?) hRJ.out;simp only [List.getElem?_drop,Nat.add_zero] at this;rw [this]
    rw [hRf] at hc0 hc1;have hmem:fs[J]?.getD dflt∈fs:=by rw [Et hfl];exact EB _
    have HC:=Dl (λW hW=>HP.out W _ hmem hW);have hsn:=Dl (filter_snoc p fs J hfl);have hdr:R.drop (J+1)=fs.drop (J+1):=by rw [←List.drop_drop,←List.drop_drop,hRJ.out]
    have HDR:=Dl hdr;have hj0:(J:Int)<(n:Int):=ZZ;clear q0 q1 hRf hmem hdr hRJl hfl;generalize hf:fs[J]?.getD dflt=f at *;clear hf;obtain ⟨f0,f1⟩:=f;simp only at hc0 hc1;have e2:IntKind.i64.wrap ((J:Int)+1)=(J:Int)+1:=wrap_in _ ZZ ZZ;have hrw:r<wr.heap.size:=(hO.out.lt r rfl).2;cases hq:p (f0,f1) with
    | true=>
      rw [hq] at HC hsn;rw [ZN rfl,D8] at hsn;clear hq;go_wp2_with (go_at_fn g;with_reducible refine (HC.out _ ?_).mono ?_;(repeat (first | exact hB.out | with_reducible refine Az ?_ _ | refine AB ?_ hB.out.size _));rintro e w2 ⟨rfl,hb2⟩);have hb3:Below wr.heap.size wr w2:=A6 ((AE _ _).alloc (Gi _) _) hb2
      have H1:=Dl (own_below hO.out hb3);have H2:=Dl (A6 hB.out hb3);clear hb2 hb3;go_roundw
      case rel=>
       have H3:Hid (R.take I=(fs.take (J+1)).filter (λf=>!p f)):=Dl (by rw [hsn.out];exact hRI.out);first
        | exact ⟨I,J+1,R,rfl,ZT,ZZ,ZZ,hRl,H3,HDR,H1,H2⟩
        |((repeat apply Exists.intro);refine ⟨?_,ZV⟩;exact ⟨I,J+1,R,rfl,ZT,ZZ,ZZ,hRl,H3,HDR,H1,H2⟩)
      case measure=>simp [intOf];omega
    | false=>
      rw [hq] at HC hsn;rw [ZO ZX] at hsn;clear hq
      go_wp2_with (go_at_fn g;with_reducible refine (HC.out _ ?_).mono ?_;(repeat (first | exact hB.out | with_reducible refine Az ?_ _ | refine AB ?_ hB.out.size _));rintro e w2 ⟨rfl,hb2⟩
                   have hb3:Below wr.heap.size wr w2:=A6 ((AE _ _).alloc (Gi _) _) hb2
                   have H1:=Dl (own_below hO.out hb3)
                   have H2:=Dl (A6 hB.out hb3)
                   have hf0:=(hb2.cell (p:=⟨wr.heap.size,0,none⟩) ZW).trans (show _=some (ZD f0) by simp);have hf1:=(hb2.cell (p:=⟨wr.heap.size,1,none⟩) ZW).trans (show _=some (ZD f1) by simp);have hRI':I<R.length:=by rw [hRl.out];omega
                   obtain ⟨q0,q1⟩:=cells_at R I hRI';have hs0:=(H1.out.cellAt (I*2) ZZ).trans q0;have hs1:=(H1.out.cellAt (I*2+1) ZZ).trans q1
                   have hz0:=H1.out.frozenAt (I*2);have hz1:=H1.out.frozenAt (I*2+1);have hi0:(I:Int)<(n:Int):=ZZ;clear q0 q1 hb2 hb3)
      have hst0:=(H1.out.stored (I*2) (ZD f0)).1;have hst1:=(hst0.stored (I*2+1) (ZD f1)).1;rw [cells_set R I (f0,f1) hRI'] at hst1;have H3:=Dl hst1
      have H4:=Dl ((H2.out.setCell (p:=⟨r,I*2,none⟩) hr0 (ZD f0)).setCell (p:=⟨r,I*2+1,none⟩) hr0 (ZD f1))
      have H5:Hid ((R.set I (f0,f1)).length=n):=Dl (by rw [List.length_set];exact hRl.out)
      have H6:Hid ((R.set I (f0,f1)).take (I+1)=(fs.take (J+1)).filter (λf=>!p f)):=Dl (by rw [hsn.out,←hRI.out,FG (by rw [List.length_set];exact hRI'),List.getElem_set_self,List.take_set_of_le (Gi _)]);have H7:Hid ((R.set I (f0,f1)).drop (J+1)=fs.drop (J+1)):=Dl (by rw [List.drop_set_of_lt ZZ];exact HDR.out);clear hst0 hst1;go_roundw
      case rel=>
       first
        | exact ⟨I+1,J+1,R.set I (f0,f1),rfl,ZT,ZZ,ZZ,H5,H6,H7,H3,H4⟩
        |((repeat apply Exists.intro);refine ⟨?_,ZV⟩;exact ⟨I+1,J+1,R.set I (f0,f1),ZT,ZT,ZZ,ZZ,H5,H6,H7,H3,H4⟩)
      case measure=>simp [intOf];omega
   ·obtain rfl:J=n:=by omega
    have hIn:I<R.length:=by rw [hRl.out];exact hIJ
    have hlen:(fs.filter λf=>!p f).length=I:=by have h1:=hRI.out;rw [FF (l:=fs) (by rw [HL.out];exact Gi _)] at h1;rw [←h1,Fc];omega
    have hkey:R.take I=fs.filter λf=>!p f:=by rw [hRI.out,FF (by rw [HL.out];exact Gi _)]
    have hlt':=(hO.out.lt r rfl).2;obtain ⟨vs,hcl⟩:=clear_rows wr r I (J-I) (cap-I) ZZ
     (λj hj=>by rw [hO.out.cellAt (I*2+j) ZZ,Et (by rw [cells_length,hRl.out];omega)];rfl) (λj _=>hO.out.frozenAt _)
    have HF:Hid (Flds (wr.setCells r (I*2) vs) (some ⟨r,0,none⟩) I (fs.filter λf=>!p f)):=Dl (by
     refine Flds.of_cells hlen (Gn hlt' (Go.below_setCells (Gi _) _ _ _ (AE _ _)).size) λj hj=>?_;rw [World.cell?_setCells_out _ _ _ _ _ (λ_ _=>Or.inl (by show j<I*2;omega)),hO.out.cellAt j ZZ,←hkey]
     conv=>lhs;rw [←FD I R,cells_append]
     rw [List.getElem?_append_left (by rw [cells_length,Fc];omega)])
    have HB:Hid (Below w0.heap.size w0 (wr.setCells r (I*2) vs)):=Dl (Go.below_setCells hr0 _ _ _ hB.out)
    have HOW:Hid ((wr.setCells r (I*2) vs).ownsRow w0.heap.size 126 2 (ZC (some ⟨r,0,none⟩) I cap) I (cells (fs.filter λf=>!p f))):=Dl (by have h1:=own_cut hO.out I ZZ;rw [cells_take,hkey] at h1;exact own_sets vs (I*2) wr (Gi _) h1);have HLN:=Dl hlen;have i1:(I:Int)<=(J:Int):=ZZ;have i2:(J:Int)<=(cap:Int):=ZZ;have i3:(I:Int)<=(cap:Int):=ZZ;clear hlen hkey hIn;go_wp2;go_ret;exact ⟨I,rfl,HLN.out.symm,HF.out,HB.out,HOW.out⟩
theorem cells_here {w:World} {a:Option Addr} {n:Nat} {fs:List Fld} (h:Flds w a n fs) (hn:0<n):∃b off,a=some ⟨b,off,none⟩/\∀j u,(cells fs)[j]?=some u->w.cell? ⟨b,off+j,none⟩=some u:=by
 obtain ⟨b,off,e,_,hc⟩:=h.2 hn;refine ⟨b,off,e,λj u hj=>?_⟩;have hlt:j<fs.length*2:=by
  rw [←cells_length];rcases Gp j (cells fs).length with h | h
  ·exact h
  ·rw [List.getElem?_eq_none h] at hj;cases hj
 have hk:j/2<n:=by have:=h.1;omega
 obtain ⟨c0,c1⟩:=hc (j/2) hk;obtain ⟨d0,d1⟩:=cells_at fs (j/2) (by have:=h.1;omega);rcases (by omega:j=j/2*2∨j=j/2*2+1) with e | e
 ·rw [←e] at c0 d0;rw [d0] at hj;rw [c0];exact hj
 ·rw [show off+j/2*2+1=off+j by omega] at c1;rw [←e] at d1;rw [d1] at hj;rw [c1];exact hj
theorem cells_one (fs:List Fld):∀u∈cells fs,u.oneCell'=true:=by intro u hu;simp only [cells,List.mem_flatMap,Fk,Fx,or_false] at hu;obtain ⟨f,_,rfl | rfl⟩:=hu<;>rfl
theorem without_own (a:Option Addr) (n cap:Nat) (fs:List Fld) (b:Option Addr) (m cap2:Nat) (names:List ByteArray) (w:World) (hv:Flds w a n fs) (hu:Strs w b m names) (hn:n<=1000000000) (hm:m<=1000000000)
 (hs:∀f∈fs,f.1.size<=1000000000) (ht:∀s∈names,s.size<=1000000000) :
 Calls Mm 98 #[.slice a n cap,.slice b m cap2] w λe w'=>∃d k c,e=.returned (.slice d k c)/\k=(without fs names).length/\Flds w' d k (without fs names)/\Below w.heap.size w w'/\w'.ownsRow w.heap.size 126 2 (.slice d k c) k (cells (without fs names)):=by
 have eg:∀args w,(callFunc 143 args).run Mm w=.ok (.enter 143 args) w:=enters_of Tryz.func143 ZY rfl;have HN:=Dl (smallNames_any b m cap2 names w hu hm ht);have HV:=Dl hv;have HL:=Dl hv.1;have HS:=Dl hs;clear hv hu hs ht;obtain ⟨i0,hi,hz0,hz1,hz2⟩:=info_parts field_info;have G1:=Dl hi;have G2:=Dl hz0;have G3:=Dl hz1;have G4:=Dl hz2;clear hi hz0 hz1 hz2;have hnl:(cells fs).length=n*2:=by rw [cells_length,HL.out]
 have HNL:=Dl hnl;clear hnl;have key:∀w2:World,Hid (∀G B:Nat,w2.cell? ⟨G,0,none⟩=some (.map (some B))->w2.ownsMap Mm 9 unitElem B m (gone names)->Asks 143 #[ZA (some ⟨G,0,none⟩)] (λf=>one names f.1) fs w2):=by
  intro w2;refine Dl λG B hc hmap W x hx hb=>?_;have hG:G<w2.heap.size:=by
   rcases Gp G w2.heap.size with h | h
   ·exact h
   ·simp [World.cell?,Ao h] at hc
  have:=gone_any x.1 x.2 G B m (gone names) W ((hb.cell (p:=⟨G,0,none⟩) hG).trans hc) (hmap.kept (grown_of_below hb) ZW) (HS.out x hx);rw [has_gone] at this;exact this
 go_enter Tryz.func98,Tryz.ntmps98
 go_wp2_with (first
  |(go_at_call 141;with_reducible refine HN.out.mono ?_;rintro e w1 ⟨rfl,hm1,hb1⟩
    have hc2:(w1.alloc (.cells #[.map (some w.heap.size)] 159)).cell? ⟨w1.heap.size,0,none⟩=some (.map (some w.heap.size)):=ZW
    have HA:=Dl ((key (w1.alloc (.cells #[.map (some w.heap.size)] 159))).out w1.heap.size w.heap.size hc2 (hm1.alloc _));have HB:=Dl (show Below w.heap.size w (w1.alloc (.cells #[.map (some w.heap.size)] 159)) from hb1.alloc hb1.size _);clear hm1 hb1 hc2)
  |(at_builtin;refine Ai _ rfl _ _ 46 rfl (w1.alloc (.cells #[.map (some w.heap.size)] 159)).heap.size 126 i0 (.agg #[.string Bp,.string Bp]) 2 32 Nq G1.out G2.out G3.out G4.out rfl ZX _ 0 [] rfl (NY _ _ _ _) a n cap (cells fs) rfl HNL.out (cells_here (HV.out.below HB.out)) (cells_one fs) ZP ZZ ZW ?_))
 intro v' w3 hown hgr hnil _;have hsz:(w1.alloc (.cells #[.map (some w.heap.size)] 159)).heap.size=w1.heap.size+1:=ZW;have hb3:Below (w1.alloc (.cells #[.map (some w.heap.size)] 159)).heap.size (w1.alloc (.cells #[.map (some w.heap.size)] 159)) w3:=(AE _ _).grown hgr (Gi _) (by intro k hk;cases hk);rw [←hsz] at hown;have hbw:Below w.heap.size w w3:=HB.out.trans (hb3.mono HB.out.size);clear key hgr hsz;rcases Gg n with h0 | hp
 ·obtain rfl:=hnil.2 h0
  obtain rfl:fs= []:=ET.1 (by rw [HL.out];exact h0);have HD:=Dl (deleteFunc_nil 143 #[ZA (some ⟨w1.heap.size,0,none⟩)] eg (λf=>one names f.1) _ w3 HA.out hb3);have HBW:=Dl hbw;clear eg hnil hown hb3 hbw HA HB;go_wp2_with (go_at_call 142;with_reducible refine HD.out.mono ?_;rintro e w4 ⟨rfl,hb4⟩);go_ret;exact ⟨none,0,0,rfl,rfl,Flds.nil _ _,A6 HBW.out hb4,NY _ _ _ _⟩
 ·obtain ⟨r,c,rfl,_,_⟩:=hown.form hp
  have HD:=Dl ((deleteFunc_any 143 #[ZA (some ⟨w1.heap.size,0,none⟩)] eg (λf=>one names f.1) r n c fs _ w3 HA.out hown hp hn hb3).mono
   (R':=λe w'=>∃d k c,e=.returned (.slice d k c)/\k=(without fs names).length/\Flds w' d k (without fs names)/\Below w.heap.size w w'/\w'.ownsRow w.heap.size 126 2 (.slice d k c) k (cells (without fs names))) (by
     rintro e w' ⟨k,rfl,hk,hF,hb,ho⟩;exact ⟨_,k,_,rfl,hk,hF,HB.out.trans (hb.mono HB.out.size),own_lower ho HB.out.size⟩))
  clear eg hnil hown hb3 hbw HA HB;go_wp2_with (go_at_call 142;with_reducible refine HD.out.mono ?_;rintro e w4 ⟨d,k,c4,rfl,rfl,hF,hb4,ho4⟩);go_ret;exact ⟨d,_,c4,rfl,rfl,hF,hb4,ho4⟩
end
end Txt
open _root_.Bool renaming or_false→Be,true_and→Bg
open _root_.ByteArray renaming data_append→Bo,size_extract→Bs
open _root_.Go.ByteArray renaming toList_eq→C3
open _root_.Int renaming mul_nonneg→CC,tdiv_eq_ediv_of_nonneg→CG
open _root_.List renaming eq_nil_of_length_eq_zero→DX,replicate→Fz
open Base.Ints renaming one→CO
namespace Num
open Base Oct
def dig (c:UInt8):Int:=hexVal (c.toNat:Int)
def digitOf (base:Int) (c:UInt8):Bool:=isHex (c.toNat:Int)&&decide (dig c<base)
def grow (base most:Int):Int->List UInt8->Option Int
 | n,[]=>some n
 | n,c::r=>if most<dig c∨(most-dig c)/base<n then none else grow base most (n*base+dig c) r
def ofGrow:Option Int->Int × Int
 | some n=>(n,0)
 | none=>(0,23)
def readOf (base most:Int) (l:List UInt8):Int × Int:=
 if (l.isEmpty || !l.all (digitOf base))=true then (0,22) else ofGrow (grow base (max most 0) 0 l)
def value (base:Int):Int->List UInt8->Int
 | n,[]=>n
 | n,c::r=>value base (n*base+dig c) r
def tab:List UInt8:= [48,49,50,51,52,53,54,55,56,57,97,98,99,100,101,102]
def sign (n:Nat):UInt8:=tab[n]?.getD 0
def spell (b n:Nat):List UInt8:=if _h:n<b∨b<2 then [sign n] else spell b (n/b) ++ [sign (n%b)]
 termination_by n
 decreasing_by exact Nat.div_lt_self ZZ ZZ
theorem dig_tab:∀k:Fin 256,0<=hexVal (k.val:Int)/\hexVal (k.val:Int)<=15:=ZR
theorem dig_nonneg (c:UInt8):0<=dig c:=(dig_tab ⟨c.toNat,c.toNat_lt⟩).1
theorem dig_le (c:UInt8):dig c<=15:=(dig_tab ⟨c.toNat,c.toNat_lt⟩).2
theorem dec_tab:∀k:Fin 256,oneOf [4] (k.val:Int)=(isHex (k.val:Int)&&decide (hexVal (k.val:Int)<10)):=ZR
theorem hex_tab:∀k:Fin 256,oneOf [5] (k.val:Int)=(isHex (k.val:Int)&&decide (hexVal (k.val:Int)<16)):=ZR
theorem all_dec (l:List UInt8):allOf [4] l=l.all (digitOf 10):=by unfold allOf;congr 1;funext c;exact dec_tab ⟨c.toNat,c.toNat_lt⟩
theorem all_hex (l:List UInt8):allOf [5] l=l.all (digitOf 16):=by unfold allOf;congr 1;funext c;exact hex_tab ⟨c.toNat,c.toNat_lt⟩
theorem dig_nought:dig 48=0:=ZR
section
variable {base most:Int}
theorem grow_app (n:Int) (l m:List UInt8):grow base most n (l++m)=(grow base most n l).bind λk=>grow base most k m:=by
 induction l generalizing n with
 | nil=>rfl
 | cons c r ih=>
   simp only [DC,grow];split
   ·rfl
   ·exact ih _
theorem grow_noughts (hb:0<base) (hm:0<=most) (l:List UInt8):grow base most 0 (Dw l 48)=grow base most 0 l:=by
 unfold Dw
 induction l with
 | nil=>rfl
 | cons c r ih=>
   simp only [List.dropWhile];by_cases h:c=48
   ·subst h;have h0:¬(most<0∨(most-0)/base<0):=by
     intro h;rcases h with h | h
     ·omega
     ·have:=Int.ediv_nonneg (a:=most-0) (b:=base) ZZ ZZ;omega
    simp only [grow,dig_nought,ZO h0,beq_self_eq_true];simpa using ih
   ·have h':(c==48)=false:=by simpa using h
    simp only [h']
theorem value_ge (hb:1<=base) (l:List UInt8):∀n,0<=n->n<=value base n l:=by
 induction l with
 | nil=>intro n _;exact Int.le_refl _
 | cons c r ih=>
   intro n hn;have hd:=dig_nonneg c;have h1:n*1<=n*base:=Int.mul_le_mul_of_nonneg_left hb hn
   exact Int.le_trans ZZ (ih (n*base+dig c) ZZ)
theorem room (hb:1<=base) (n d:Int) (hn:0<=n):(most<d∨(most-d)/base<n)↔most<n*base+d:=by
 have hm:0<=n*base:=CC hn ZZ;constructor
 ·rintro (h | h)
  ·omega
  ·have:=(Int.ediv_lt_iff_lt_mul (by omega:0<base)).1 h;omega
 ·intro h;by_cases h1:most<d
  ·exact .inl h1
  ·exact .inr ((Int.ediv_lt_iff_lt_mul (by omega:0<base)).2 ZZ)
theorem grow_eq (hb:1<=base) (l:List UInt8):∀n,0<=n->n<=most->grow base most n l=if value base n l<=most then some (value base n l) else none:=by
 induction l with
 | nil=>intro n _ h;simp [grow,value,h]
 | cons c r ih=>
   intro n hn hle;have hd:=dig_nonneg c;have hm:0<=n*base:=CC hn ZZ;simp only [grow,value];by_cases h:most<n*base+dig c
   ·rw [ZN ((room hb n _ hn).2 h)];have:=value_ge hb r (n*base+dig c) ZZ;exact (ZO (λhx=>by omega)).symm
   ·rw [ZO (λhx=>h ((room hb n _ hn).1 hx))];exact ih _ ZZ ZZ
theorem value_app (n:Int) (l m:List UInt8):value base n (l++m)=value base (value base n l) m:=by
 induction l generalizing n with
 | nil=>rfl
 | cons c r ih=>exact ih _
theorem value_noughts (k:Nat) (l:List UInt8):value base 0 (Fz k 48++l)=value base 0 l:=by
 induction k with
 | zero=>rfl
 | succ k ih=>rw [List.replicate_succ,DC,value,dig_nought];simpa using ih
end
section
theorem sign_dig:∀k:Fin 16,dig (sign k.val)=(k.val:Int):=ZR
theorem sign_hex:∀k:Fin 16,isHex ((sign k.val).toNat:Int)=true:=ZR
variable {b:Nat} (h2:2<=b) (h16:b<=16)
theorem spell_lt {n:Nat} (h:n<b):spell b n= [sign n]:=by rw [spell,dif_pos (.inl h)]
include h2
theorem spell_ge {n:Nat} (h:b<=n):spell b n=spell b (n/b) ++ [sign (n%b)]:=by rw [spell,dif_neg ZZ]
theorem spell_ne (n:Nat):spell b n≠ []:=by
 by_cases h:n<b
 ·rw [spell_lt h];simp
 ·rw [spell_ge h2 ZZ];simp
theorem div_less {n:Nat} (h:b<=n):n/b<n:=Nat.div_lt_self ZZ ZZ
theorem spell_len (k:Nat):∀n,n<2^k->1<=k->(spell b n).length<=k:=by
 induction k with
 | zero=>intro n _ h;omega
 | succ k ih=>
   intro n hn _;by_cases h:n<b
   ·rw [spell_lt h];simp
   ·rw [spell_ge h2 ZZ,EO];have hq:n/b<=n/2:=Nat.div_le_div_left h2 ZZ;have hk:1<=k:=by
     rcases Gg k with rfl | hk
     ·omega
     ·exact hk
    have:=ih (n/b) (by rw [Nat.pow_succ] at hn;omega) hk;simp;omega
include h16
theorem spell_all (n:Nat):(spell b n).all (digitOf b)=true:=by
 induction n using Nat.strongRecOn with
 | ind n ih=>
   have one:∀m,m<b->digitOf b (sign m)=true:=by intro m hm;have e1:=sign_dig ⟨m,ZZ⟩;have e2:=sign_hex ⟨m,ZZ⟩;simp only at e1 e2;simp only [digitOf,e1,e2,Bg,ZJ];omega
   by_cases h:n<b
   ·rw [spell_lt h];simp [one n h]
   ·rw [spell_ge h2 ZZ,List.all_append,ih _ (div_less h2 ZZ)];simp [one (n%b) (Nat.mod_lt _ ZZ)]
theorem spell_value (n:Nat):value b 0 (spell b n)=n:=by
 induction n using Nat.strongRecOn with
 | ind n ih=>
   by_cases h:n<b
   ·rw [spell_lt h];have e1:=sign_dig ⟨n,ZZ⟩;simp only at e1;simp [value,e1]
   ·rw [spell_ge h2 ZZ,value_app,ih _ (div_less h2 ZZ)];have hm:n%b<b:=Nat.mod_lt _ ZZ;have e1:=sign_dig ⟨n%b,ZZ⟩;simp only at e1;simp only [value,e1];have:=Nat.div_add_mod n b;rw [Nat.mul_comm] at this
    exact_mod_cast this
theorem read_spell (n k:Nat) (most:Int) (hm:0<=most):readOf b most (Fz k 48++spell b n)=if (n:Int)<=most then ((n:Int),0) else (0,23):=by
 have hne:(Fz k 48++spell b n).isEmpty=false:=by rw [List.isEmpty_eq_false_iff];simp [spell_ne h2 n]
 have h48:digitOf b 48=true:=by
  have:isHex (((48:UInt8).toNat:Nat):Int)=true:=ZR;simp only [digitOf,this,dig_nought,Bg,ZJ];omega
 have hall:(Fz k 48++spell b n).all (digitOf b)=true:=by rw [List.all_append,spell_all h2 h16,List.all_replicate];simp [h48]
 unfold readOf;rw [hne,hall];simp only [Bool.not_true,Be,AT,if_false];rw [grow_eq ZZ _ 0 (Int.le_refl _) ZZ,value_noughts,spell_value h2 h16,Int.max_eq_left hm];split<;>rfl
end
end Num
theorem XXaec {P:Prop} (h:P:=by rcases hb with ⟨rfl,rfl⟩ | ⟨rfl,rfl⟩<;>omega):P:=h
namespace Num
open Base Oct
def str (l:List UInt8):ByteArray:=⟨l.toArray⟩
theorem str_app (l m:List UInt8):str (l++m)=str l++str m:=by apply ByteArray.ext;rw [Bo];simp [str]
theorem str_size (l:List UInt8):(str l).size=l.length:=by simp [str,ByteArray.size]
theorem signs:∀k:Fin 16,(ByteArray.mk #[48,49,50,51,52,53,54,55,56,57,97,98,99,100,101,102]).extract k.val (k.val+1)=str [sign k.val]:=ZR
section
theorem spell_any (b:Nat) (B:Int) (hb:b=10/\B=10∨b=16/\B=16) (k:Nat):∀(n:Int) (w:World),0<=n->n<9223372036854775808->n.toNat<k->Calls Mm 173 #[ZE Z7 n,ZE Z7 B] w λe w'=>e=.returned (ZD (str (spell b n.toNat)))/\∃m,w'=w.drewN m:=by
 induction k with
 | zero=>intro n w _ _ h;omega
 | succ k ih=>
   intro n w hn0 hn hk;have h2:2<=b:=ZZ;by_cases h:n<B
   ·have e1:=signs ⟨n.toNat,ZZ⟩;have e2:n.toNat+1=(n+1).toNat:=by omega
    simp only [e2] at e1;clear e2;rcases hb with ⟨rfl,rfl⟩ | ⟨rfl,rfl⟩;all_goals
     rw [spell_lt ZZ];go_enter Tryz.func173,Tryz.ntmps173;go_wp2_with fail;go_ret;exact ⟨rfl,0,rfl⟩
   ·rw [spell_ge h2 ZZ];have l1:=spell_len h2 64 (n.toNat/b) (by have:=div_less h2 (by omega:b<=n.toNat);omega) ZZ
    have h3:=Dl (ih (n/B));have h4:=Dl (ih (n%B));have hi:B<=n:=ZZ;have c1:(n/B).toNat=n.toNat/b:=by rcases hb with ⟨rfl,rfl⟩ | ⟨rfl,rfl⟩<;>omega
    have c2:(n%B).toNat=n.toNat%b:=by rcases hb with ⟨rfl,rfl⟩ | ⟨rfl,rfl⟩<;>omega
    have w1:IntKind.i64.wrap (n/B)=n/B:=wrap_in _ XXaec XXaec;have w2:IntKind.i64.wrap (n%B)=n%B:=wrap_in _ XXaec XXaec;have w3:(n.tdiv B)=n/B:=CG ZZ;have w4:(n.tmod B)=n%B:=Int.tmod_eq_emod_of_nonneg ZZ;have hs:spell b (n%B).toNat= [sign (n%B).toNat]:=spell_lt XXaec;rw [←c1,←c2];rw [←c1] at l1;have z1:(str (spell b (n/B).toNat)).size<=64:=by rw [str_size];exact l1
    have z2:(str [sign (n%B).toNat]).size=1:=rfl;have z3:¬9223372036854775807<(str (spell b (n/B).toNat)).size+(str [sign (n%B).toNat]).size:=ZZ;have hj:str (spell b (n/B).toNat ++ [sign (n%B).toNat])=str (spell b (n/B).toNat)++str [sign (n%B).toNat]:=str_app _ _;rw [hj]
    have h3':Hid (∀w,Calls Mm 173 #[ZE Z7 (n/B),ZE Z7 B] w λe w'=>e=.returned (ZD (str (spell b (n/B).toNat)))/\∃m,w'=w.drewN m):=Dl (λw=>h3.out w XXaec XXaec XXaec);have h4':Hid (∀w,Calls Mm 173 #[ZE Z7 (n%B),ZE Z7 B] w λe w'=>e=.returned (ZD (str [sign (n%B).toNat]))/\∃m,w'=w.drewN m):=Dl (λw=>by rw [←hs];exact h4.out w XXaec XXaec XXaec);generalize str (spell b (n/B).toNat)=A at *;generalize str [sign (n%B).toNat]=D at *;clear ih h h2 h3 h4 l1 hs hj c1 c2;rcases hb with ⟨rfl,rfl⟩ | ⟨rfl,rfl⟩;all_goals
     go_enter Tryz.func173,Tryz.ntmps173;go_wp2_with fail;go_quiet ((first |(go_at_call 173;with_reducible exact Calls.quiet_of (h3'.out _)) |(go_at_call 173;with_reducible exact Calls.quiet_of (h4'.out _))));go_wp2_with fail;go_ret;exact ⟨rfl,_,rfl⟩
theorem XXl4u {P:Prop} (h:P:=by
 rcases hb with ⟨rfl,rfl⟩ | ⟨rfl,rfl⟩;all_goals
  go_enter Tryz.func149,Tryz.ntmps149;go_wp2_with fail;go_ret
  exact ⟨rfl,0,rfl⟩):P:=h
theorem rspell_any (b:Nat) (B:Int) (hb:b=10/\B=10∨b=16/\B=16) (k:Nat):∀(n:Int) (w:World), -9223372036854775808<=n->n<9223372036854775808->n.toNat<k->Calls Mm 149 #[ZE Z7 n,ZE Z7 B] w λe w'=>e=.returned (ZD (str (spell b n.toNat)))/\∃m,w'=w.drewN m:=by
 induction k with
 | zero=>intro n w _ _ h;omega
 | succ k ih=>
   intro n w hn0 hn hk;have h2:2<=b:=ZZ;by_cases h:n<B
   ·rw [spell_lt ZZ];by_cases hz:0<=n
    ·have e1:=signs ⟨n.toNat,ZZ⟩;have e2:n.toNat+1=(n+1).toNat:=by omega
     have mx:max n 0=n:=ZZ;simp only [e2] at e1;clear e2;exact XXl4u
    ·have mx:max n 0=0:=by omega
     have e1:(ByteArray.mk #[48,49,50,51,52,53,54,55,56,57,97,98,99,100,101,102]).extract 0 1=str [sign 0]:=ZR;have e3:n.toNat=0:=ZZ;rw [e3];exact XXl4u
   ·rw [spell_ge h2 ZZ];have l1:=spell_len h2 64 (n.toNat/b) (by have:=div_less h2 (by omega:b<=n.toNat);omega) ZZ
    have h3:=Dl (ih (n/B));have h4:=Dl (ih (n%B));have hi:B<=n:=ZZ;have c1:(n/B).toNat=n.toNat/b:=by rcases hb with ⟨rfl,rfl⟩ | ⟨rfl,rfl⟩<;>omega
    have c2:(n%B).toNat=n.toNat%b:=by rcases hb with ⟨rfl,rfl⟩ | ⟨rfl,rfl⟩<;>omega
    have w1:IntKind.i64.wrap (n/B)=n/B:=wrap_in _ XXaec XXaec;have w2:IntKind.i64.wrap (n%B)=n%B:=wrap_in _ XXaec XXaec;have w3:(n.tdiv B)=n/B:=CG ZZ;have w4:(n.tmod B)=n%B:=Int.tmod_eq_emod_of_nonneg ZZ;have hs:spell b (n%B).toNat= [sign (n%B).toNat]:=spell_lt XXaec;rw [←c1,←c2];rw [←c1] at l1;have z1:(str (spell b (n/B).toNat)).size<=64:=by rw [str_size];exact l1
    have z2:(str [sign (n%B).toNat]).size=1:=rfl;have z3:¬9223372036854775807<(str (spell b (n/B).toNat)).size+(str [sign (n%B).toNat]).size:=ZZ;have hj:str (spell b (n/B).toNat ++ [sign (n%B).toNat])=str (spell b (n/B).toNat)++str [sign (n%B).toNat]:=str_app _ _;rw [hj]
    have h3':Hid (∀w,Calls Mm 149 #[ZE Z7 (n/B),ZE Z7 B] w λe w'=>e=.returned (ZD (str (spell b (n/B).toNat)))/\∃m,w'=w.drewN m):=Dl (λw=>h3.out w XXaec XXaec XXaec);have h4':Hid (∀w,Calls Mm 149 #[ZE Z7 (n%B),ZE Z7 B] w λe w'=>e=.returned (ZD (str [sign (n%B).toNat]))/\∃m,w'=w.drewN m):=Dl (λw=>by rw [←hs];exact h4.out w XXaec XXaec XXaec);generalize str (spell b (n/B).toNat)=A at *;generalize str [sign (n%B).toNat]=D at *;clear ih h h2 h3 h4 l1 hs hj c1 c2;rcases hb with ⟨rfl,rfl⟩ | ⟨rfl,rfl⟩;all_goals
     go_enter Tryz.func149,Tryz.ntmps149;go_wp2_with fail;go_quiet ((first |(go_at_call 149;with_reducible exact Calls.quiet_of (h3'.out _)) |(go_at_call 149;with_reducible exact Calls.quiet_of (h4'.out _))));go_wp2_with fail;go_ret;exact ⟨rfl,_,rfl⟩
end
end Num
theorem XXdKB {P:Prop} (h:P:=by
 go_wp2_with fail;go_ret2
 exact ⟨rfl,AE _ _⟩):P:=h
theorem XXkPs {P:Prop} (h:P:=by exact ⟨rfl,(AE _ _).alloc (Gi _) _⟩):P:=h
namespace Num
open Base Oct
theorem cut_one (s:ByteArray) (h:0<s.size):s.data.toList=s[0]::(s.extract 1 s.size).data.toList:=by
 have e:(s.extract 1 s.size).data.toList=s.data.toList.drop 1:=by rw [ByteArray.data_extract];simp only [Array.toList_extract,List.extract];rw [FF ZW]
 rw [e];cases s with
 | mk a=>cases a with
   | mk l=>cases l with
     | nil=>exact ZG h ZX
     | cons c r=>rfl
section
theorem add_any (B:Int) (hB:B=10∨B=16) (most:Int) (hm:0<=most) (hM:most<=9223372036854775807) (k:Nat):∀(n:Int) (s:ByteArray) (w:World),s.size<k->0<=n->n<=most->
 Calls Mm 299 #[ZE Z7 n,ZD s,ZE Z7 B,ZE Z7 most] w λe w'=>e=.returned (Z8 #[ZE Z7 (ofGrow (grow B most n s.data.toList)).1,ZE Z7 (ofGrow (grow B most n s.data.toList)).2])/\w'=w:=by
 induction k with
 | zero=>intro n s w h _ _;omega
 | succ k ih=>
   intro n s w hs hn hle;by_cases h:s.size=0
   ·have e0:s.data.toList= []:=by
     apply DX;simpa using h
    have e1:s.toList= []:=by rw [C3,e0]
    rw [e0];clear ih;go_enter Tryz.func299,Tryz.ntmps299;go_wp2_with fail;go_ret2;exact ⟨rfl,rfl⟩
   ·have hp:0<s.size:=by omega
    have hne:s.toList.isEmpty=false:=by rw [C3,cut_one s hp];rfl
    have b1:=byte_lt s[0];have b0:(0:Int)<=(s[0].toNat:Int):=ZZ;obtain ⟨d,hd⟩:∃d,d=dig s[0]:=⟨_,rfl⟩;have hx:Hid (∀w,Calls Mm 314 #[ZE Z6 (s[0].toNat:Int)] w λe w'=>e=.returned (Z8 #[ZE Z7 d,ZB (isHex (s[0].toNat:Int))])/\w'=w):=Dl (λw=>by rw [hd];exact hex_any _ w b0 b1);have d0:0<=d:=by rw [hd];exact dig_nonneg _
    have d1:d<=15:=by rw [hd];exact dig_le _
    have hcut:=cut_one s hp;have hz:(s.extract 1 s.size).size<k:=by rw [Bs];omega
    rw [hcut];simp only [grow];rw [←hd];have IH:=Dl (ih (n*B+d) (s.extract 1 s.size));clear ih hcut hd;by_cases hA:most<d
    ·rw [ZN (.inl hA)];go_enter Tryz.func299,Tryz.ntmps299;go_wp2_with (go_at_call 314;with_reducible refine (hx.out _).mono ?_;rintro e w' ⟨rfl,rfl⟩);go_ret2;exact ⟨rfl,rfl⟩
    ·have hA':d<=most:=by omega
     have w1:IntKind.i64.wrap (most-d)=most-d:=wrap_in _ ZZ ZZ;have w1':wrap64 (most-d)=most-d:=by unfold wrap64;omega
     have w2:(most-d).tdiv B=(most-d)/B:=CG ZZ;have w3:IntKind.i64.wrap ((most-d)/B)=(most-d)/B:=wrap_in _ (by rcases hB with rfl | rfl<;>omega) (by rcases hB with rfl | rfl<;>omega);have w3':wrap64 ((most-d)/B)=(most-d)/B:=by rw [←w3,IntKind.wrap_i64];unfold wrap64;rcases hB with rfl | rfl<;>omega
     have hB0:¬B=0:=ZZ;by_cases hC:(most-d)/B<n
     ·rw [ZN (.inr hC)];rcases hB with rfl | rfl;all_goals
       go_enter Tryz.func299,Tryz.ntmps299;go_wp2_with (go_at_call 314;with_reducible refine (hx.out _).mono ?_;rintro e w' ⟨rfl,rfl⟩);go_ret2;exact ⟨rfl,rfl⟩
     ·rw [ZO ZZ];have hmul:n*B+d<=most:=by
       have:=room (base:=B) (most:=most) ZZ n d hn;omega
      have hnb:0<=n*B:=CC hn ZZ;have IH':=Dl (λw=>IH.out w hz ZZ hmul);clear IH;generalize ofGrow (grow B most (n*B+d) (s.extract 1 s.size).data.toList)=R at IH' ⊢;rcases hB with rfl | rfl;all_goals
       go_enter Tryz.func299,Tryz.ntmps299
       go_wp2_with (first
        |(go_at_call 314;with_reducible refine (hx.out _).mono ?_;rintro e w' ⟨rfl,rfl⟩)
        |(go_at_call 299;with_reducible refine (IH'.out _).mono ?_;rintro e w' ⟨rfl,rfl⟩))
       go_ret2;exact ⟨rfl,rfl⟩
theorem read_any (B K:Int) (hB:B=10/\K=4∨B=16/\K=5) (most:Int) (hM:most<=9223372036854775807) (s:ByteArray) (w:World) (hs:s.size<=maxLen) :
 Calls Mm 276 #[ZD s,ZE Z7 K,ZE Z7 B,ZE Z7 most] w λe w'=>e=.returned (Z8 #[ZE Z7 (readOf B most s.data.toList).1,ZE Z7 (readOf B most s.data.toList).2])/\Below w.heap.size w w':=by
 have hk:allOf [K] s.data.toList=s.data.toList.all (digitOf B):=by
  rcases hB with ⟨rfl,rfl⟩ | ⟨rfl,rfl⟩
  ·exact all_dec _
  ·exact all_hex _
 have hB':B=10∨B=16:=ZZ;by_cases h:s.data.toList= []
 ·have e1:s.toList= []:=by rw [C3,h]
  rw [h];clear hk;go_enter Tryz.func276,Tryz.ntmps276;exact XXdKB
 ·have hne:s.toList.isEmpty=false:=by rw [C3];simpa using h
  have hne':s.data.toList.isEmpty=false:=by simpa using h
  unfold readOf;rw [hne'];cases ha:s.data.toList.all (digitOf B) with
  | false=>
    rw [ha] at hk;have HK:=Dl hk;clear hk ha hne' h;go_enter Tryz.func276,Tryz.ntmps276;go_wp2_with (go_at_call 263;(with_reducible refine (all_any _ _ 1 1 [K] _ ?_ ?_ ?_).mono ?_);assumption;(exact CO _ _ ZW _ _);decide;rw [HK.out];rintro e w' ⟨rfl,rfl⟩);go_ret2;exact XXkPs
  | true=>
    rw [ha] at hk;have HK:=Dl hk;have hm0:0<=max most 0:=ZZ;have hg:=grow_noughts (base:=B) (most:=max most 0) ZZ hm0 s.data.toList;have hadd:=Dl (add_any B hB' (max most 0) hm0 ZZ ((str (Dw s.data.toList 48)).size+1) 0 (str (Dw s.data.toList 48)));have hd:(str (Dw s.data.toList 48)).data.toList=Dw s.data.toList 48:=rfl
    have hadd':Hid (∀w,Calls Mm 299 #[ZE Z7 0,ZD (str (Dw s.data.toList 48)),ZE Z7 B,ZE Z7 (max most 0)] w λe w'=>e=.returned (Z8 #[ZE Z7 (ofGrow (grow B (max most 0) 0 s.data.toList)).1,ZE Z7 (ofGrow (grow B (max most 0) 0 s.data.toList)).2])/\w'=w):=Dl (λw=>by
     have:=hadd.out w ZZ ZZ hm0
     rwa [hd,hg] at this)
    have htr:Hid (∀w,Calls Mm 300 #[ZD s,ZD ⟨#[48]⟩] w λe w'=>e=.returned (ZD (str (Dw s.data.toList 48)))/\w'=w):=Dl (λw=>Tryz.strings_TrimLeft_one s 48 ZX w);clear hadd hd hg hk ha hne' h;simp only [Bool.not_true,Be,AT,if_false];generalize str (Dw s.data.toList 48)=T at hadd' htr;generalize ofGrow (grow B (max most 0) 0 s.data.toList)=R at hadd' ⊢;generalize hmx:max most 0=M at *;go_enter Tryz.func276,Tryz.ntmps276
    go_wp2_with (first
     |(go_at_call 263;(with_reducible refine (all_any _ _ 1 1 [K] _ ?_ ?_ ?_).mono ?_);assumption;(exact CO _ _ ZW _ _);decide;rw [HK.out];rintro e w' ⟨rfl,rfl⟩)
     |(go_at_call 300;with_reducible refine (htr.out _).mono ?_;rintro e w' ⟨rfl,rfl⟩)
     |(go_at_call 299;with_reducible refine (hadd'.out _).mono ?_;rintro e w' ⟨rfl,rfl⟩))
    go_ret2;exact XXkPs
theorem dec_any (most:Int) (hM:most<=9223372036854775807) (s:ByteArray) (w:World) (hs:s.size<=maxLen) :
 Calls Mm 297 #[ZD s,ZE Z7 most] w λe w'=>e=.returned (Z8 #[ZE Z7 (readOf 10 most s.data.toList).1,ZE Z7 (readOf 10 most s.data.toList).2])/\Below w.heap.size w w':=by
 have h:=Dl (λw=>read_any 10 4 ZZ most hM s w hs);generalize readOf 10 most s.data.toList=R at h ⊢;go_enter Tryz.func297,Tryz.ntmps297;go_wp2_with (go_at_call 276;with_reducible refine (h.out _).mono ?_;rintro e w1 ⟨rfl,hb⟩);go_ret2;exact ⟨rfl,hb⟩
theorem hexN_any (most:Int) (hM:most<=9223372036854775807) (s:ByteArray) (w:World) (hs:s.size<=maxLen) :
 Calls Mm 250 #[ZD s,ZE Z7 most] w λe w'=>e=.returned (Z8 #[ZE Z7 (readOf 16 most s.data.toList).1,ZE Z7 (readOf 16 most s.data.toList).2])/\Below w.heap.size w w':=by
 have h:=Dl (λw=>read_any 16 5 ZZ most hM s w hs);generalize readOf 16 most s.data.toList=R at h ⊢;go_enter Tryz.func250,Tryz.ntmps250;go_wp2_with (go_at_call 276;with_reducible refine (h.out _).mono ?_;rintro e w1 ⟨rfl,hb⟩);go_ret2;exact ⟨rfl,hb⟩
theorem XXLX8 {P:Prop} (h:P:=by
 go_wp2_with (go_at_call 173;with_reducible refine (h.out _).mono ?_;rintro e w1 ⟨rfl,m,rfl⟩);go_ret
 exact ⟨rfl,m,rfl⟩):P:=h
theorem put_any (n:Int) (w:World) (h1:n<=9223372036854775807):Calls Mm 147 #[ZE Z7 n] w λe w'=>e=.returned (ZD (str (spell 10 n.toNat)))/\∃m,w'=w.drewN m:=by
 have h:=Dl (λw=>spell_any 10 10 ZZ (n.toNat+1) (max n 0) w ZZ ZZ ZZ);have e0:(max n 0).toNat=n.toNat:=ZZ;rw [e0] at h;generalize hm:max n 0=M at h;go_enter Tryz.func147,Tryz.ntmps147;exact XXLX8
theorem putHex_any (n:Int) (w:World) (h1:n<=9223372036854775807):Calls Mm 139 #[ZE Z7 n] w λe w'=>e=.returned (ZD (str (spell 16 n.toNat)))/\∃m,w'=w.drewN m:=by
 have h:=Dl (λw=>spell_any 16 16 ZZ (n.toNat+1) (max n 0) w ZZ ZZ ZZ);have e0:(max n 0).toNat=n.toNat:=ZZ;rw [e0] at h;generalize hm:max n 0=M at h;go_enter Tryz.func139,Tryz.ntmps139;exact XXLX8
theorem XXMKr {P:Prop} (h:P:=by
 go_wp2_with (go_at_call 149;with_reducible refine (h.out _).mono ?_;rintro e w1 ⟨rfl,m,rfl⟩);go_ret
 exact ⟨rfl,m,rfl⟩):P:=h
theorem rput_any (n:Int) (w:World) (h0: -9223372036854775808<=n) (h1:n<=9223372036854775807):Calls Mm 103 #[ZE Z7 n] w λe w'=>e=.returned (ZD (str (spell 10 n.toNat)))/\∃m,w'=w.drewN m:=by have h:=Dl (λw=>rspell_any 10 10 ZZ (n.toNat+1) n w h0 ZZ ZZ);go_enter Tryz.func103,Tryz.ntmps103;exact XXMKr
theorem rputHex_any (n:Int) (w:World) (h0: -9223372036854775808<=n) (h1:n<=9223372036854775807):Calls Mm 140 #[ZE Z7 n] w λe w'=>e=.returned (ZD (str (spell 16 n.toNat)))/\∃m,w'=w.drewN m:=by have h:=Dl (λw=>rspell_any 16 16 ZZ (n.toNat+1) n w h0 ZZ ZZ);go_enter Tryz.func140,Tryz.ntmps140;exact XXMKr
end
end Num
namespace Num
open Base Oct
theorem grow_snoc (base most n:Int) (l:List UInt8) (c:UInt8):grow base most n (l ++ [c])=(grow base most n l).bind λk=>if most<dig c∨(most-dig c)/base<k then none else some (k*base+dig c):=by rw [grow_app];rfl
def Far (B M:Int) (l:List UInt8) (n:Int) (over:Bool):Prop:=l.all (digitOf B)=true/\0<=n/\n<=M/\grow B M 0 l=if over=true then none else some n
section
theorem rnumber_any (B:Int) (hB:B=10∨B=16) (most:Int) (hM:most<=9223372036854775807) (s:ByteArray) (w:World) (hs:s.size<=maxLen) :
 Calls Mm 255 #[ZD s,ZE Z7 B,ZE Z7 most] w λe w'=>e=.returned (Z8 #[ZE Z7 (readOf B most s.data.toList).1,ZE Z7 (readOf B most s.data.toList).2])/\w'=w:=by
 unfold maxLen at hs;by_cases h:s.data.toList= []
 ·have e1:s.toList= []:=by rw [C3,h]
  rw [h];go_enter Tryz.func255,Tryz.ntmps255;go_wp2_with fail;go_ret2;exact ⟨rfl,rfl⟩
 ·have hne:s.toList.isEmpty=false:=by rw [C3];simpa using h
  have hne':s.data.toList.isEmpty=false:=by simpa using h
  have hp:0<s.size:=by
   rcases Gg s.size with h0 | h0
   ·exact ZG (DX (by simpa using h0)) h
   ·exact h0
  have hR:readOf B most s.data.toList=if (!s.data.toList.all (digitOf B))=true then (0,22) else ofGrow (grow B (max most 0) 0 s.data.toList):=by unfold readOf;rw [hne'];rfl
  clear hne' h;have hm0:0<=max most 0:=ZZ;have hm1:max most 0<=9223372036854775807:=ZZ;generalize hmx:max most 0=M at *;obtain ⟨R,hRR⟩:∃R,R=readOf B most s.data.toList:=⟨_,rfl⟩;rw [←hRR] at hR ⊢;clear hRR;have HR:=Dl hR;clear hR;go_enter Tryz.func255,Tryz.ntmps255;go_wp2_with fail
  go_loop [8,9,10] (λx o i=>∃(k:Nat) (n:Int) (over:Bool),k<=s.size/\x=ZE Z7 n/\o=ZB over/\i=ZE Z7 k/\Hid (Far B M (s.data.toList.take k) n over)) (λ_ _ i=>s.size-(intOf i).toNat)
  case atStart=>exact ⟨0,0,false,Gz _,rfl,rfl,rfl,Dl ⟨rfl,Int.le_refl _,hm0,rfl⟩⟩
  case round=>
   obtain ⟨k,n,over,hk,rfl,rfl,rfl,hfar⟩:=hrel;rcases Gp k s.size with hlt | hge
   ·have HS:=Dl (take_snoc s k hlt);have b1:=byte_lt s[k];have b0:(0:Int)<=(s[k].toNat:Int):=by omega
    obtain ⟨d,hd⟩:∃d,d=dig s[k]:=⟨_,rfl⟩;obtain ⟨x,hx⟩:∃x,x=isHex (s[k].toNat:Int):=⟨_,rfl⟩;have hxd:Hid (∀w,Calls Mm 195 #[ZE Z6 (s[k].toNat:Int)] w λe w'=>e=.returned (Z8 #[ZE Z7 d,ZB x])/\w'=w):=Dl (λw=>by rw [hd,hx];exact rhex_any _ w b0 b1);have d0:0<=d:=by rw [hd];exact dig_nonneg _
    have d1:d<=15:=by rw [hd];exact dig_le _
    have hdig:digitOf B s[k]=(x&&decide (d<B)):=by rw [hd,hx];rfl
    have n0:=hfar.out.2.1;have n1:=hfar.out.2.2.1;have HD:=Dl hd;have HG:=Dl hdig;have HM:Hid (s[k]∈s.data.toList):=Dl (byte_mem s k hlt);clear hd hx hdig
    have bad:Hid (∀_:(x&&decide (d<B))=false,R=(0,22)):=Dl (λhb=>by
     have hf:s.data.toList.all (digitOf B)=false:=by rw [Bool.eq_false_iff];intro ha;rw [D5] at ha;have:=ha _ HM.out;rw [HG.out,hb] at this;cases this
     rw [HR.out,hf];rfl)
    cases x with
    | false=>
      go_wp2_with (go_at_call 195;with_reducible refine (hxd.out _).mono ?_;rintro e w' ⟨rfl,rfl⟩);go_ret2;rw [bad.out rfl];exact ⟨rfl,rfl⟩
    | true=>
      by_cases hdB:d<B
      ·have step:Hid (∀n' o',(over=false->¬(M<d∨(M-d)/B<n)->n'=n*B+d/\o'=false)->(over=true∨(M<d∨(M-d)/B<n)->n'=n/\o'=true)->Far B M (s.data.toList.take (k+1)) n' o'):=Dl (λn' o' h1 h2=>by
        obtain ⟨f1,f2,f3,f4⟩:=hfar.out;have hall:(s.data.toList.take (k+1)).all (digitOf B)=true:=by rw [HS.out,List.all_append,f1];simp [HG.out,hdB]
        cases over with
        | true=>
          obtain ⟨rfl,rfl⟩:=h2 (.inl rfl);refine ⟨hall,f2,f3,?_⟩;rw [HS.out,grow_snoc,f4];rfl
        | false=>
          by_cases hc:M<d∨(M-d)/B<n
          ·obtain ⟨rfl,rfl⟩:=h2 (.inr hc);refine ⟨hall,f2,f3,?_⟩;rw [HS.out,grow_snoc,f4,←HD.out];simp [hc]
          ·obtain ⟨rfl,rfl⟩:=h1 rfl hc;have hmul:n*B+d<=M:=by
            have:=room (base:=B) (most:=M) ZZ n d f2;omega
           have hnb:0<=n*B:=CC f2 ZZ;refine ⟨hall,ZZ,hmul,?_⟩;rw [HS.out,grow_snoc,f4,←HD.out];simp [hc])
       have hdB':(decide (d≥B))=false:=ZQ;cases over with
       | true=>
         go_wp2_with (go_at_call 195;with_reducible refine (hxd.out _).mono ?_;rintro e w' ⟨rfl,rfl⟩);go_round
         case rel=>exact ⟨k+1,n,true,ZZ,rfl,rfl,ZT,Dl (step.out _ _ (λh=>by cases h) (λ_=>⟨rfl,rfl⟩))⟩
         case measure=>simp [intOf];omega
       | false=>
         by_cases hA:M<d
         ·obtain ⟨q,hq⟩:∃q,q=(M-d).tdiv B:=⟨_,rfl⟩;have w1:IntKind.i64.wrap (M-d)=M-d:=wrap_in _ ZZ ZZ;have w1':wrap64 (M-d)=M-d:=by unfold wrap64;omega
          have q1: -15<=q/\q<=0:=by
           have e:(M-d).tdiv B= -((d-M).tdiv B):=by rw [←Int.neg_tdiv];congr 1;omega
           have e2:(d-M).tdiv B=(d-M)/B:=CG ZZ;rw [e,e2] at hq;rcases hB with rfl | rfl<;>omega
          have w3:IntKind.i64.wrap q=q:=wrap_in _ ZZ ZZ;have w3':wrap64 q=q:=by unfold wrap64;omega
          have w2:=hq.symm;clear hq;have hB0:¬B=0:=ZZ;go_wp2_with (go_at_call 195;with_reducible refine (hxd.out _).mono ?_;rintro e w' ⟨rfl,rfl⟩);all_goals
           go_round
           case rel=>exact ⟨k+1,n,true,ZZ,rfl,rfl,ZT,Dl (step.out _ _ (λ_ h=>ZG (Or.inl hA) h) (λ_=>⟨rfl,rfl⟩))⟩
           case measure=>simp [intOf];omega
         ·have w1:IntKind.i64.wrap (M-d)=M-d:=wrap_in _ ZZ ZZ;have w1':wrap64 (M-d)=M-d:=by unfold wrap64;omega
          have w2:(M-d).tdiv B=(M-d)/B:=CG ZZ;have w3:IntKind.i64.wrap ((M-d)/B)=(M-d)/B:=wrap_in _ (by rcases hB with rfl | rfl<;>omega) (by rcases hB with rfl | rfl<;>omega);have w3':wrap64 ((M-d)/B)=(M-d)/B:=by rw [←w3,IntKind.wrap_i64];unfold wrap64;rcases hB with rfl | rfl<;>omega
          have hB0:¬B=0:=ZZ;by_cases hC:(M-d)/B<n
          ·go_wp2_with (go_at_call 195;with_reducible refine (hxd.out _).mono ?_;rintro e w' ⟨rfl,rfl⟩);go_round
           case rel=>exact ⟨k+1,n,true,ZZ,rfl,rfl,ZT,Dl (step.out _ _ (λ_ h=>ZG (Or.inr hC) h) (λ_=>⟨rfl,rfl⟩))⟩
           case measure=>simp [intOf];omega
          ·have hmul:n*B+d<=M:=by
            have:=room (base:=B) (most:=M) ZZ n d n0;omega
           have hnb:0<=n*B:=CC n0 ZZ;have m1:IntKind.i64.wrap (n*B)=n*B:=wrap_in _ ZZ ZZ;have m2:IntKind.i64.wrap (n*B+d)=n*B+d:=wrap_in _ ZZ ZZ;go_wp2_with (go_at_call 195;with_reducible refine (hxd.out _).mono ?_;rintro e w' ⟨rfl,rfl⟩);go_round
           case rel=>exact ⟨k+1,n*B+d,false,ZZ,ZT,rfl,ZT,Dl (step.out _ _ (λ_ _=>⟨rfl,rfl⟩) (λh=>by rcases h with h | h;cases h;omega))⟩
           case measure=>simp [intOf];omega
      ·have hdB':B<=d:=by omega
       go_wp2_with (go_at_call 195;with_reducible refine (hxd.out _).mono ?_;rintro e w' ⟨rfl,rfl⟩);go_ret2;rw [bad.out (by simp [hdB])];exact ⟨rfl,rfl⟩
   ·have fin:Hid (R=ofGrow (if over=true then none else some n)):=Dl (by
     obtain ⟨f1,_,_,f4⟩:=hfar.out;rw [take_all s k hge] at f1 f4;rw [HR.out,f1,f4];rfl)
    cases over with
    | true=>
      go_wp2_with fail;go_ret2;rw [fin.out];exact ⟨rfl,rfl⟩
    | false=>
      go_wp2_with fail;go_ret2;rw [fin.out];exact ⟨rfl,rfl⟩
end
end Num
namespace Num
open Base Oct
section
theorem rdec_any (most:Int) (hM:most<=9223372036854775807) (s:ByteArray) (w:World) (hs:s.size<=maxLen) :
 Calls Mm 252 #[ZD s,ZE Z7 most] w λe w'=>e=.returned (Z8 #[ZE Z7 (readOf 10 most s.data.toList).1,ZE Z7 (readOf 10 most s.data.toList).2])/\w'=w:=by
 have h:=Dl (λw=>rnumber_any 10 ZZ most hM s w hs);generalize readOf 10 most s.data.toList=R at h ⊢;go_enter Tryz.func252,Tryz.ntmps252;go_wp2_with (go_at_call 255;with_reducible refine (h.out _).mono ?_;rintro e w1 ⟨rfl,rfl⟩);go_ret2;exact ⟨rfl,rfl⟩
theorem rhexN_any (most:Int) (hM:most<=9223372036854775807) (s:ByteArray) (w:World) (hs:s.size<=maxLen) :
 Calls Mm 236 #[ZD s,ZE Z7 most] w λe w'=>e=.returned (Z8 #[ZE Z7 (readOf 16 most s.data.toList).1,ZE Z7 (readOf 16 most s.data.toList).2])/\w'=w:=by
 have h:=Dl (λw=>rnumber_any 16 ZZ most hM s w hs);generalize readOf 16 most s.data.toList=R at h ⊢;go_enter Tryz.func236,Tryz.ntmps236;go_wp2_with (go_at_call 255;with_reducible refine (h.out _).mono ?_;rintro e w1 ⟨rfl,rfl⟩);go_ret2;exact ⟨rfl,rfl⟩
end
end Num
theorem XXf66 {P:Prop} (h:P:=by rw [Di];simp [ba]):P:=h
theorem XXabb {P:Prop} (h:P:=by rw [Di,FF (by rw [ER,len];omega)];rfl):P:=h
namespace Tgt
open Base Txt
def cutAt (c:UInt8):List UInt8->List UInt8 × List UInt8 × Bool
 | []=>([],[],false)
 | b::l=>if b=c then ([],l,true) else (b::(cutAt c l).1,(cutAt c l).2.1,(cutAt c l).2.2)
theorem cutAt_none (c:UInt8):∀l:List UInt8,c∉l->cutAt c l=(l,[],false)
 | [],_=>rfl
 | b::l,h=>by
   simp only [Fk,not_or] at h;rw [cutAt,ZO (λe=>h.1 e.symm),cutAt_none c l h.2]
theorem cutAt_app (c:UInt8):∀(a r:List UInt8),c∉a->cutAt c (a++c::r)=(a,r,true)
 | [],r,_=>by rw [Fw,cutAt,ZN rfl]
 | b::a,r,h=>by
   simp only [Fk,not_or] at h;rw [DC,cutAt,ZO (λe=>h.1 e.symm),cutAt_app c a r h.2]
theorem cut_cases (c:UInt8):∀l:List UInt8,c∉l∨∃a r,l=a++c::r/\c∉a
 | []=>.inl ZW
 | b::l=>by
   by_cases h:b=c
   ·exact .inr ⟨[],l,by rw [h];rfl,ZW⟩
   ·rcases cut_cases c l with h1 | ⟨a,r,h1,h2⟩
    ·exact .inl (by simp only [Fk,not_or];exact ⟨λe=>h e.symm,h1⟩)
    ·exact .inr ⟨b::a,r,by rw [h1];rfl,by simp only [Fk,not_or];exact ⟨λe=>h e.symm,h2⟩⟩
theorem cutAt_le (c:UInt8) (l:List UInt8):(cutAt c l).1.length<=l.length/\(cutAt c l).2.1.length<=l.length:=by
 rcases cut_cases c l with h | ⟨a,r,rfl,h⟩
 ·rw [cutAt_none c l h];simp
 ·rw [cutAt_app c a r h];simp;omega
theorem idx_cut (c:UInt8) (l:List UInt8):(Dn l c= -1/\cutAt c l=(l,[],false))∨∃i:Nat,i<l.length/\Dn l c=(i:Int)/\cutAt c l=(l.take i,l.drop (i+1),true):=by
 by_cases h:Dn l c= -1
 ·refine .inl ⟨h,cutAt_none c l λhm=>?_⟩;obtain ⟨k,hk,e⟩:=EC hm
  exact Lib.indexByte_none h k (by rw [Et hk,e])
 ·have h0:=Lib.indexByte_ge l c;obtain ⟨i,hi⟩:∃i:Nat,Dn l c=i:=⟨(Dn l c).toNat,ZZ⟩;obtain ⟨g1,g2⟩:=Lib.indexByte_some hi;have hlt:i<l.length:=by
   rcases Gp i l.length with h | h
   ·exact h
   ·rw [List.getElem?_eq_none h] at g1;cases g1
  have hc:l[i]=c:=by rw [Et hlt] at g1;exact GZ.inj g1
  refine .inr ⟨i,hlt,hi,?_⟩;have e1:l=l.take i++c::l.drop (i+1):=by conv=>lhs;rw [←FD i l,DR hlt,hc]
  have hno:c∉l.take i:=λhm=>by exact XXws0
  conv=>lhs;rw [e1]
  exact cutAt_app c _ _ hno
section
set_option maxRecDepth 1000000
theorem cutLite_any (s:ByteArray) (c:UInt8) (w:World) (hs:s.size<=1000000000) :
 Calls Mm 298 #[ZD s,ZD ⟨#[c]⟩] w λe w'=>e=.returned (Z8 #[ZD (ba (cutAt c s.data.toList).1),ZD (ba (cutAt c s.data.toList).2.1),ZB (cutAt c s.data.toList).2.2])/\∃n,w'=w.drewN n:=by
 have HI:=Dl (λw=>Tryz.stringslite_Index_one s c w);rcases idx_cut c s.data.toList with ⟨h1,h2⟩ | ⟨i,h0,h1,h2⟩
 ·rw [h1] at HI;rw [h2];clear h1 h2;go_enter Tryz.func298,Tryz.ntmps298;go_wp2_with (go_at_call 259;with_reducible refine Cm (HI.out _) ?_);go_ret3;exact ⟨rfl,0,rfl⟩
 ·rw [h1] at HI;rw [h2];rw [len] at h0;have c0:(0:Int)<=(i:Int):=by omega
  have c1:(i:Int)<=(s.size:Int):=ZZ;have c2:IntKind.i64.wrap ((i:Int)+1)=((i+1:Nat):Int):=by rw [wrap_in _ ZZ ZZ];omega
  have c3:((i+1:Nat):Int)<=(s.size:Int):=ZZ;have e1:s.extract 0 i=ba (s.data.toList.take i):=ba_ext XXf66;have e2:s.extract (i+1) s.size=ba (s.data.toList.drop (i+1)):=ba_ext XXabb;simp only;rw [←e1,←e2];clear h1 h2 e1 e2;go_enter Tryz.func298,Tryz.ntmps298
  go_wp2_with (go_at_call 259;with_reducible refine Cm (HI.out _) ?_);go_quiet (fail);rename_i nq;go_wp2;go_ret3;exact ⟨rfl,nq,rfl⟩
theorem cut_any (s:ByteArray) (c:UInt8) (w:World) (hs:s.size<=1000000000) :
 Calls Mm 271 #[ZD s,ZD ⟨#[c]⟩] w λe w'=>e=.returned (Z8 #[ZD (ba (cutAt c s.data.toList).1),ZD (ba (cutAt c s.data.toList).2.1),ZB (cutAt c s.data.toList).2.2])/\∃n,w'=w.drewN n:=by
 have HI:=Dl (λw=>cutLite_any s c w hs);generalize cutAt c s.data.toList=r at *;go_enter Tryz.func271,Tryz.ntmps271;go_wp2_with (go_at_call 298;with_reducible refine (HI.out _).mono ?_;rintro e w1 ⟨rfl,n,hw⟩;rw [hw];clear hw);go_ret3;exact ⟨rfl,n,rfl⟩
end
end Tgt
open _root_.Bool renaming false_and→AS,false_or→AV,true_or→Bh
open _root_.Go.Lib renaming contains_iff_indexByte→Dd,decodeN→Dg
open _root_.Go.Proofs.Tryz renaming func266→Kl,ntmps266→LW,results209→Mq
open _root_.Go.Utf8 renaming decode→NJ,encode→NK
open _root_.List renaming contains_cons→DE
open _root_.Nat renaming le_of_lt→Gh
open Oct renaming digit→GF,letter→GI
open Sched renaming change→I9,quiet→IC
namespace Tgt
open Base Oct Num Txt
def nameMarks:List UInt8:= [45,46,95,126]
def pathMarks:List UInt8:= [45,46,95,126,33,36,38,39,40,41,42,43,44,59,61,58,64,47]
def queryMarks:List UInt8:= [45,46,95,126,33,36,38,39,40,41,42,43,44,59,61,58,64,47,63]
def plainB (ms:List UInt8) (c:UInt8):Bool:=GI (c.toNat:Int)||GF (c.toNat:Int)||ms.contains c
def hexB (c:UInt8):Bool:=Oct.isHex (c.toNat:Int)
theorem hex_plain_tab:∀k:Fin 256,hexB (NG k.val)=true->plainB [] (NG k.val)=true/\NG k.val≠37:=ZR
theorem hex_plain (ms:List UInt8) (c:UInt8) (h:hexB c=true):plainB ms c=true/\c≠37:=by
 have e:NG c.toNat=c:=ZW;have:=hex_plain_tab ⟨c.toNat,c.toNat_lt⟩;simp only [e] at this;obtain ⟨h1,h2⟩:=this h;refine ⟨?_,h2⟩;simp only [plainB,List.contains_nil,Be] at h1;simp only [plainB,h1,Bh]
def okAt (ms:List UInt8) (c:UInt8):List UInt8->Bool
 | a::b :: _=>if c=37 then hexB a&&hexB b else plainB ms c
 | _=>plainB ms c
def written (ms:List UInt8):List UInt8->Bool
 | []=>true
 | c::r=>okAt ms c r&&written ms r
theorem okAt_plain (ms:List UInt8) (c:UInt8) (r:List UInt8) (h:c≠37):okAt ms c r=plainB ms c:=by
 unfold okAt;split
 ·rw [ZO h]
 ·rfl
theorem no_pct {ms:List UInt8} (h:ms.contains 37=false):plainB ms 37=false:=by simp only [plainB,h,Be];decide
theorem written_plain {ms:List UInt8} (hm:ms.contains 37=false) (c:UInt8) (r:List UInt8) (h:plainB ms c=true):written ms (c::r)=written ms r:=by
 have hc:c≠37:=λe=>by rw [e,no_pct hm] at h;cases h
 rw [written,okAt_plain ms c r hc,h,Bg]
theorem written_pct {ms:List UInt8} (a b:UInt8) (r:List UInt8):written ms (37::a::b::r)=((hexB a&&hexB b)&&written ms r):=by
 rw [written,okAt,ZN rfl];cases ha:hexB a with
 | false=>rfl
 | true=>
   cases hb:hexB b with
   | false=>rfl
   | true=>
     rw [written,written,okAt_plain ms a _ (hex_plain ms a ha).2,okAt_plain ms b _ (hex_plain ms b hb).2,(hex_plain ms a ha).1,(hex_plain ms b hb).1];rfl
theorem written_not {ms:List UInt8} (c:UInt8) (r:List UInt8) (h:plainB ms c=false) (hc:c≠37∨r.length<2):written ms (c::r)=false:=by
 rw [written];have:okAt ms c r=false:=by
  rcases hc with hc | hc
  ·rw [okAt_plain ms c r hc];exact h
  ·match r,hc with
   | [],_=>exact h
   | [a],_=>exact h
 rw [this];rfl
def nameOk (l:List UInt8):Bool:=!l.isEmpty&&(decide (l.length<=255)&&l.all (plainB nameMarks))
def portOk (l:List UInt8):Bool:=decide (l.length<=5)&&decide ((readOf 10 65535 l).2=0)
def hostB (l:List UInt8):Bool:=nameOk (cutAt 58 l).1&&(!(cutAt 58 l).2.2||portOk (cutAt 58 l).2.1)
def pathB (l:List UInt8):Bool:=decide (l.head?=some 47)&&written pathMarks l
def queryB (l:List UInt8):Bool:=written queryMarks l
theorem port_no_colon {l:List UInt8} (h:portOk l=true):(58:UInt8)∉l:=by
 intro hm;simp only [portOk,AM,ZJ] at h;have hall:l.all (digitOf 10)=false:=by rw [List.all_eq_false];exact ⟨58,hm,ZR⟩
 rw [readOf,hall] at h;simp at h
structure Tg where
 form:Nat
 host:List UInt8
 path:List UInt8
 query:List UInt8
 asked:Bool
deriving DecidableEq
def none':Tg:=⟨0,[],[],[],false⟩
def ended (c:UInt8):Bool:=c==47||c==63
def http:List UInt8:= [104,116,116,112,58,47,47]
def origin (l:List UInt8):Option Tg:=if (pathB (cutAt 63 l).1&&queryB (cutAt 63 l).2.1)=true then some ⟨1,[],(cutAt 63 l).1,(cutAt 63 l).2.1,(cutAt 63 l).2.2⟩ else none
def slashed (l:List UInt8):List UInt8:=if l.head?=some 47 then l else 47::l
def hostOf (l:List UInt8):List UInt8:=l.takeWhile λc=>!ended c
def restOf (l:List UInt8):List UInt8:=l.dropWhile λc=>!ended c
def absolute (l:List UInt8):Option Tg:=
 match origin (slashed (restOf l)) with
 | none=>none
 | some t=>if hostB (hostOf l)=true then some ⟨2,hostOf l,t.path,t.query,t.asked⟩ else none
def authority (l:List UInt8):Option Tg:=if (l.contains 58&&hostB l)=true then some ⟨3,l,[],[],false⟩ else none
def connect:List UInt8:= [67,79,78,78,69,67,84]
def options:List UInt8:= [79,80,84,73,79,78,83]
def schemed (l:List UInt8):Bool:=decide (7<=l.length)&&(low (l.take 7)==low http)
def parse (m l:List UInt8):Option Tg:=
 if m=connect then authority l
 else if m=options/\l= [42] then some ⟨4,[],[],[],false⟩
 else if l.head?=some 47 then origin l
 else if schemed l=true then absolute (l.drop 7)
 else none
def putPath (t:Tg):List UInt8:=if t.asked=true then t.path++63::t.query else t.path
def put (t:Tg):List UInt8:=
 if t.form=1 then putPath t
 else if t.form=2 then http++(t.host++putPath t)
 else if t.form=3 then t.host
 else if t.form=4 then [42]
 else []
theorem putPath_origin {l:List UInt8} {t:Tg} (h:origin l=some t):putPath t=l/\t.form=1/\t.host= []:=by
 unfold origin at h;split at h
 ·obtain rfl:=GZ.inj h;refine ⟨?_,rfl,rfl⟩;unfold putPath;rcases cut_cases 63 l with h1 | ⟨a,r,rfl,h1⟩
  ·simp only [cutAt_none 63 l h1];rfl
  ·simp only [cutAt_app 63 a r h1];rfl
 ·cases h
theorem host_cut (p:UInt8->Bool) (h r:List UInt8) (c:UInt8) (hh:∀x∈h,p x=true) (hc:p c=false):(h++c::r).takeWhile p=h/\(h++c::r).dropWhile p=c::r:=by
 induction h with
 | nil=>simp [hc]
 | cons x h ih=>
   obtain ⟨i1,i2⟩:=ih λy hy=>hh y (by simp [hy]);have hx:=hh x ZW;simp only [DC,List.takeWhile_cons,DM,hx,if_true];exact ⟨by rw [i1],i2⟩
end Tgt
namespace Tgt
open Base Oct Num Txt
def ends2:ByteArray:=⟨#[47,63]⟩
theorem encode_two (r:Nat) (h1:128<=r) (h2:r<2048):∃a b:UInt8,NK (r:Int)=⟨#[a,b]⟩/\128<=b.toNat:=by
 have hv:Utf8.valid (r:Int)=true:=by rw [validRune_eq];simp only [validRune,ZJ];omega
 refine ⟨NG (0xC0+r/64),NG (0x80+r%64),?_,?_⟩
 ·unfold NK;have e:((r:Int)).toNat=r:=by omega
  simp only [hv,if_true,e];rw [ZO ZZ,ZN ZZ]
 ·rw [UInt8.toNat_ofNat_of_lt' (by show _<256;omega)];omega
theorem encode_more (r:Nat) (h2:2048<=r):3<=(NK (r:Int)).size/\(NK (r:Int)).size<=4:=by
 have e:((r:Int)).toNat=r:=ZZ;unfold NK;simp only [e];split
 ·rw [ZO ZZ,ZO ZZ];split
  ·exact ⟨by show 3<=3;omega,by show 3<=4;omega⟩
  ·exact ⟨by show 3<=4;omega,by show 4<=4;omega⟩
 ·rw [ZO ZX,ZO ZX,ZN ZX];exact ⟨by show 3<=3;omega,by show 3<=4;omega⟩
section
theorem indexRune_err (w:World):Calls Mm 322 #[ZD ⟨#[47,63]⟩,.int .i32 65533] w λe w'=>e=.returned (ZE Z7 (-1))/\Below w.heap.size w w':=by
 go_enter K6,Tryz.ntmps322;go_wp2
 go_loopg [5,6] 2 (λg _ _ wx=>∃i:Nat,i+g=2/\wx=w.iter ⟨#[47,63]⟩ i)
 case atStart=>exact ⟨0,rfl,rfl⟩
 case round=>
  obtain ⟨i,hig,rfl⟩:=hrel;cases gk with
  | zero=>
    obtain rfl:i=2:=ZZ;have hnx:=λty=>run_next_end (P:=Mm) w ⟨#[47,63]⟩ 2 ty ZX;go_wp2;go_ret;exact XXkPs
  | succ g=>
    rcases (by omega:i=0∨i=1) with rfl | rfl
    ·have hnx:=λty=>run_next_ascii (P:=Mm) w ⟨#[47,63]⟩ 0 ty ZX ZX;rw [show ((ByteArray.mk #[47,63])[0]'(by decide)).toNat=47 from rfl] at hnx;go_wp2;go_roundg g
     case measure=>omega
     case rel=>exact ⟨1,ZZ,rfl⟩
    ·have hnx:=λty=>run_next_ascii (P:=Mm) w ⟨#[47,63]⟩ 1 ty ZX ZX;rw [show ((ByteArray.mk #[47,63])[1]'(by decide)).toNat=63 from rfl] at hnx;go_wp2;go_roundg g
     case measure=>omega
     case rel=>exact ⟨2,ZZ,rfl⟩
theorem XXW2P {P:Prop} (h:P:=by
 go_wp2_with fail;rw [Exit.noGoto_ret];show bodyPost Mm Tryz.f322 (λe w'=>e=.returned (ZE Z7 (-1))/\Below wr.heap.size wr w') Exit.ret _ _;go_ret;first
  |exact ⟨rfl,Az hbq.out _⟩
  |exact ⟨rfl,AE _ _⟩):P:=h
theorem indexRune_high (r:Nat) (w:World) (h1:128<=r) (hv:Lib.validRune (r:Int)=true) :
 Calls Mm 322 #[ZD ⟨#[47,63]⟩,.int .i32 (r:Int)] w λe w'=>e=.returned (ZE Z7 (-1))/\Below w.heap.size w w':=by
 by_cases he:r=65533
 ·subst he;exact indexRune_err w
 have t1:¬(r:Int)<128:=ZZ;have t2:((r:Int)==65533)=false:=ZM.2 ZZ;rcases Gp r 2048 with hr | hr
 ·obtain ⟨a,b,hE,hb⟩:=encode_two r h1 hr;have t3:((63:Int) !=(b.toNat:Int))=true:=bne_iff_ne.2 ZZ;clear hr;have hcv:∀w,(convert 21 9 (.int .i32 (r:Int))).run Mm w=.ok (.string ⟨#[a,b]⟩) w:=λw=>by rw [run_convert_int_string w 21 9 .i32 (r:Int) (by rw [MY];rfl) Ns,hE]
  have m2:IntKind.i64.wrap 2=2:=ZX;have e0:(2:Int)<=((ByteArray.mk #[47,63]).size:Int):=ZX;have hib:=Dl (λw=>(Tryz.strings_IndexByte Bp (b.toNat:Int) w).mono (R:=λe w'=>e=.returned (ZE Z7 (-1))/\w'=w) λ_ _ h=>h);have e1:∀h,((ByteArray.mk #[47,63])[1]'h).toNat=63:=λ_=>rfl;have e2:∀h,((ByteArray.mk #[a,b])[1]'h)=b:=λ_=>rfl;go_enter K6,Tryz.ntmps322;go_wp2_with (go_at_call 330;with_reducible refine (Tryz.utf8_ValidRune _ _).mono ?_;rintro e w1 ⟨rfl,hw⟩;rw [hw,hv];clear hw);go_step3;go_wp2
  go_loopw [9,10] (λi f wr=>i=ZE Z7 1/\f=ZE Z7 0/\wr=w) (λ_ _ _=>1)
  case atStart=>exact ⟨rfl,rfl,rfl⟩
  case round=>
   obtain ⟨rfl,rfl,rfl⟩:=hrel;go_wp2_with fail;go_step3;go_wp2_with fail;go_quiet (fail);rename_i nq;have hbq:=Dl (show Below wr.heap.size wr (wr.drewN nq) from Az (AE _ _) nq);generalize wr.drewN nq=wq at *;go_wp2_with fail;go_quiet ((go_at_call 329;exact Bu (hib.out _)));rename_i nq2;exact XXW2P
 ·obtain ⟨hz1,hz2⟩:=encode_more r hr;generalize hE:NK (r:Int)=E at *;have hcv:∀w,(convert 21 9 (.int .i32 (r:Int))).run Mm w=.ok (ZD E) w:=λw=>by
   rw [run_convert_int_string w 21 9 .i32 (r:Int) (by rw [MY];rfl) Ns,hE]
  clear hE;obtain ⟨n,hn⟩:∃n:Nat,E.size=n+1:=⟨E.size-1,ZZ⟩;have m1:IntKind.i64.wrap ((E.size:Int)-1)=(n:Int):=by rw [wrap_in _ ZZ ZZ];omega
  have hn2:n=2∨n=3:=ZZ;clear hn hz1 hz2 hr;rcases hn2 with rfl | rfl
  ·go_enter K6,Tryz.ntmps322;go_wp2_with (go_at_call 330;with_reducible refine (Tryz.utf8_ValidRune _ _).mono ?_;rintro e w1 ⟨rfl,hw⟩;rw [hw,hv];clear hw);go_step3;go_wp2
   go_loopw [9,10] (λi f wr=>i=ZE Z7 2/\wr=w) (λ_ _ _=>1)
   case atStart=>exact ⟨rfl,rfl⟩
   case round=>obtain ⟨rfl,rfl⟩:=hrel;exact XXW2P
  ·go_enter K6,Tryz.ntmps322;go_wp2_with (go_at_call 330;with_reducible refine (Tryz.utf8_ValidRune _ _).mono ?_;rintro e w1 ⟨rfl,hw⟩;rw [hw,hv];clear hw);go_step3;go_wp2
   go_loopw [9,10] (λi f wr=>i=ZE Z7 3/\wr=w) (λ_ _ _=>1)
   case atStart=>exact ⟨rfl,rfl⟩
   case round=>obtain ⟨rfl,rfl⟩:=hrel;exact XXW2P
end
end Tgt
namespace Tgt
open Base Oct Num Txt
theorem idx_split:∀l:List UInt8,(Dm l [47,63]= -1/\hostOf l=l/\restOf l= [])∨∃i:Nat,i<l.length/\Dm l [47,63]=(i:Int)/\hostOf l=l.take i/\restOf l=l.drop i
 | []=>.inl ⟨rfl,rfl,rfl⟩
 | b::l=>by
   have hb: [47,63].contains b=ended b:=by rw [DE,DE,List.contains_nil,Be];rfl
   have e:Dm (b::l) [47,63]=if [47,63].contains b then 0 else if Dm l [47,63] == -1 then -1 else Dm l [47,63]+1:=rfl
   have e1:hostOf (b::l)=if (!ended b)=true then b::hostOf l else []:=by unfold hostOf;rw [List.takeWhile_cons]
   have e2:restOf (b::l)=if (!ended b)=true then restOf l else b::l:=by unfold restOf;rw [DM]
   rw [e,e1,e2,hb];cases ended b with
   | true=>exact .inr ⟨0,ZW,rfl,rfl,rfl⟩
   | false=>
     simp only [Bool.not_false,if_true,AT,if_false];rcases idx_split l with ⟨h1,h2,h3⟩ | ⟨i,h0,h1,h2,h3⟩
     ·exact .inl ⟨by rw [h1];rfl,by rw [h2],h3⟩
     ·refine .inr ⟨i+1,ZQ,?_,by rw [h2];rfl,by rw [h3];rfl⟩;rw [h1,ZO ZW];omega
theorem decodeN_tail (n b0 b1 b2 b3:Nat) (hn:1<=n):1<=(Dg n b0 b1 b2 b3).2/\(Dg n b0 b1 b2 b3).2<=n/\(Dg n b0 b1 b2 b3).2<=4/\(1<(Dg n b0 b1 b2 b3).2->128<=b1)/\(2<(Dg n b0 b1 b2 b3).2->128<=b2)/\(3<(Dg n b0 b1 b2 b3).2->128<=b3):=by
 unfold Dg
 repeat' split
 all_goals (simp only;omega)
theorem get_lt (s:ByteArray) (k:Nat) (h:k<s.size):s.get! k=s[k]:=by simp [ByteArray.get!,getElem!_pos,h];rfl
theorem rune_high (s:ByteArray) (pos k:Nat) (h:pos<s.size) (h0:128<=(s[pos]'h).toNat) (h1:pos<=k) (h2:k<pos+(NJ s pos).2):∃hk:k<s.size,128<=(s[k]'hk).toNat:=by
 rw [Lib.decode_at] at h2;obtain ⟨_,a2,a3,a4,a5,a6⟩:=decodeN_tail (s.size-pos) (s.get! pos).toNat (s.get! (pos+1)).toNat (s.get! (pos+2)).toNat (s.get! (pos+3)).toNat ZZ;have hk:k<s.size:=ZZ;refine ⟨hk,?_⟩;rw [←get_lt s k hk];rcases (by omega:k=pos∨k=pos+1∨k=pos+2∨k=pos+3) with rfl | rfl | rfl | rfl
 ·rw [get_lt s _ h];exact h0
 ·exact a4 ZZ
 ·exact a5 ZZ
 ·exact a6 ZZ
theorem rune_valid_at (s:ByteArray) (pos:Nat):Lib.validRune ((NJ s pos).1:Int)=true:=by have h:=Lib.decodeN_valid (s.size-pos) (s.get! pos).toNat (s.get! (pos+1)).toNat (s.get! (pos+2)).toNat (s.get! (pos+3)).toNat (UInt8.toNat_lt _);rw [←Lib.decode_at] at h;simp only [Lib.validRune,decide_eq_true_eq];omega
theorem next_at {P:Program} (w:World) (g:Nat) (s:ByteArray) (pos:Nat) (ty:TypeId) (h:pos<s.size) (hg:w.heap[g]?=some (.stringIter s pos)) :
 (Instr.next (ZA (some ⟨g,0,none⟩)) true ty).run P w=.ok (Z8 #[ZB true,ZE Z7 pos,.int .i32 (NJ s pos).1]) {w with heap:=w.heap.setIfInBounds g (.stringIter s (pos+(NJ s pos).2))}:=by
 have hgl:g<w.heap.size:=by
  rcases Gp g w.heap.size with h | h
  ·exact h
  ·rw [Ao h] at hg;cases hg
 simp [Instr.next,getObj,setObj,Sem.run_bind,Sem.run,hg,Result.andThen,h,goInt]
theorem next_last {P:Program} (w:World) (g:Nat) (s:ByteArray) (pos:Nat) (ty:TypeId) (h:¬pos<s.size) (hg:w.heap[g]?=some (.stringIter s pos)) :
 (Instr.next (ZA (some ⟨g,0,none⟩)) true ty).run P w=.ok (Z8 #[ZB false]) w:=by
 simp [Instr.next,getObj,Sem.run,hg,h]
theorem below_iter {B:Nat} {w0 w:World} (h:Below B w0 w) (g:Nat) (hg:B<=g) (o:Obj):Below B w0 {w with heap:=w.heap.setIfInBounds g o}:=by
 refine ⟨h.os,h.tape,h.output,?_,λk hk=>?_⟩
 ·simpa using h.size
 ·rw [Array.getElem?_setIfInBounds_ne ZZ];exact h.block k hk
theorem next_world {P:Program} (w0 w:World) (g:Nat) (s:ByteArray) (pos:Nat) (h:pos<s.size) (hg:w.heap[g]?=some (.stringIter s pos)) (hb:Below g w0 w) :
 ∃W,(∀ty,(Instr.next (ZA (some ⟨g,0,none⟩)) true ty).run P w=.ok (Z8 #[ZB true,ZE Z7 pos,.int .i32 (NJ s pos).1]) W)/\W.heap[g]?=some (.stringIter s (pos+(NJ s pos).2))/\g<W.heap.size/\Below g w0 W:=by
 have hgl:g<w.heap.size:=by
  rcases Gp g w.heap.size with h | h
  ·exact h
  ·rw [Ao h] at hg;cases hg
 exact ⟨_,λty=>next_at w g s pos ty h hg,by simp [hgl],by simpa using hgl,below_iter hb g (Gi _) _⟩
section
set_option maxRecDepth 1000000
theorem indexAny_short (s:ByteArray) (w:World) (h8:s.size<=8) :
 Calls Mm 308 #[ZD s,ZD ⟨#[47,63]⟩] w λe w'=>e=.returned (ZE Z7 (Dm s.data.toList [47,63]))/\Below w.heap.size w w':=by
 have h8z:decide ((8:Int)<(s.size:Int))=false:=ZL ZZ;have HSh:=Dl (λw=>Tryz.strings_shouldUseASCIISet (s.size:Int) w);rw [h8z] at HSh;clear h8z;go_enter Tryz.func308,Tryz.ntmps308
 go_wp2_with (go_at_call 323;with_reducible refine Cm (HSh.out _) ?_)
 have hgw:=Dl (Gi w.heap.size)
 go_loopg [9,10] s.size (λg _ _ wx=>∃i:Nat,s.size<=i+g/\i<=s.size/\wx.heap[w.heap.size]?=some (.stringIter s i)/\Hid (Below w.heap.size w wx)/\Hid (Lib.NoAny s.data.toList [47,63] i))
 case atStart=>exact ⟨0,ZZ,ZZ,World.iter_heap w s 0,Dl ((AE _ _).alloc (Gi _) _),Dl (Lib.NoAny.zero _ _)⟩
 case round=>
  obtain ⟨i,hig,hile,hwx,hb,hno⟩:=hrel;rcases Gp i s.size with hi | hi
  ·obtain ⟨gn,rfl⟩:∃gn,gk=gn+1:=⟨gk-1,ZZ⟩;obtain ⟨W,hnx,hWg,hWl,hbW⟩:=next_world (P:=Mm) w wr w.heap.size s i hi hwx hb.out;have HB:=Dl hbW;have HWl:=Dl hWl;clear hwx hb hbW hWl;by_cases hx:(s[i]'hi).toNat<128
   ·rw [decode_ascii s i hi hx] at hnx hWg;simp only at hnx hWg;have Hx:=Dl (Lib.data_getElem? s i hi);generalize s[i]'hi=x at *;have hR:=Dl (λw=>Tryz.strings_IndexRune_ascii ⟨#[47,63]⟩ (x.toNat:Int) w ZZ ZZ);have hcon:=Dd [47,63] x;have hback:((x.toNat:Int)).toNat.toUInt8=x:=ZW;rw [hback] at hR;have hR2:Hid (∀w,Calls Mm 322 #[ZD ⟨#[47,63]⟩,.int .i32 (x.toNat:Int)] w λe w'=>e=.returned (ZE Z7 (Dn [47,63] x))/\w'=w):=hR;clear hR hback;have HWg:=Dl hWg;clear hWg;generalize hix:Dn [47,63] x=ix at *;clear hix;cases hin:List.contains [47,63] x with
    | false=>
      rw [hin] at hcon;have hlt:¬((0:Int)<=ix):=of_decide_eq_false hcon.symm;have HN:=Dl (hno.out.succ Hx.out hin);clear hcon hin hno;go_wp2_with (go_at_call 322;with_reducible refine Cm (hR2.out _) ?_);go_roundg gn
      case measure=>omega
      case rel=>exact ⟨i+1,ZZ,ZZ,HWg.out,HB,HN⟩
    | true=>
      rw [hin] at hcon;have hge:(0:Int)<=ix:=of_decide_eq_true hcon.symm;have HN:=Dl (Lib.indexAny_hit hno.out Hx.out hin);clear hcon hin hno;go_wp2_with (go_at_call 322;with_reducible refine Cm (hR2.out _) ?_);go_ret;exact ⟨by rw [HN.out];rfl,HB.out⟩
   ·have hhi:=decode_high s i hi ZZ
    have HN:Hid (Lib.NoAny s.data.toList [47,63] (i+(NJ s i).2)):=Dl (by
     intro j b hj hjb;rcases Gp j i with hlt | hge
     ·exact hno.out j b hlt hjb
     ·obtain ⟨hk,h128⟩:=rune_high s i j hi ZZ hge hj;rw [Lib.data_getElem? s j hk] at hjb;obtain rfl:=GZ.inj hjb;generalize s[j]=c at *;rw [DE,DE,List.contains_nil];have n1:c≠47:=λe=>by rw [e] at h128;revert h128;decide
      have n2:c≠63:=λe=>by rw [e] at h128;revert h128;decide
      simp [n1,n2])
    have hv:=rune_valid_at s i;have hwid:i+(NJ s i).2<=s.size:=by have:=decodeN_tail (s.size-i) (s.get! i).toNat (s.get! (i+1)).toNat (s.get! (i+2)).toNat (s.get! (i+3)).toNat ZZ;rw [←Lib.decode_at] at this;omega
    have HWg:=Dl hWg;clear hWg;obtain ⟨hr1,hr2⟩:=hhi;generalize (NJ s i).1=r at *;generalize (NJ s i).2=k at *;have hR2:=Dl (λw=>indexRune_high r w hr1 hv);clear hv hr1 hx hno;go_wp2_with (go_at_call 322;with_reducible refine (hR2.out _).mono ?_;rintro e w2 ⟨rfl,hb2⟩);go_roundg gn
    case measure=>omega
    case rel=>exact ⟨i+k,ZZ,ZZ,(hb2.block _ HWl.out).trans HWg.out,Dl (HB.out.trans (hb2.mono (by have:=HWl.out;omega))),HN⟩
  ·obtain rfl:i=s.size:=by omega
   have hnx:=λty=>next_last (P:=Mm) wr w.heap.size s s.size ty ZZ hwx;have HN:=Dl (Lib.indexAny_none (by rw [len];exact hno.out));clear hwx hno;go_wp2;go_ret;exact ⟨by rw [HN.out];rfl,hb.out⟩
theorem zero_256 (w:World):(zeroValue 293).run Mm w=.ok (Z9 (As 256 (ZB false))) w:=ZY
theorem indexAny_any (s:ByteArray) (w:World) (hs:s.size<=1000000000) :
 Calls Mm 308 #[ZD s,ZD ⟨#[47,63]⟩] w λe w'=>e=.returned (ZE Z7 (Dm s.data.toList [47,63]))/\Below w.heap.size w w':=by
 rcases Gp 8 s.size with h | h
 ·refine (Tryz.strings_IndexAny_long zero_256 s ⟨#[47,63]⟩ w ZX h ZZ ZX ?_).mono ?_
  ·intro j b hb
   match j with
   | 0=>obtain rfl:b=47:=by simpa using hb.symm
        decide
   | 1=>obtain rfl:b=63:=by simpa using hb.symm
        decide
   | j+2=>simp at hb
  ·rintro e w' ⟨rfl,rfl⟩;exact ⟨rfl,((AE _ _).alloc (Gi _) _).alloc ZW _⟩
 ·exact indexAny_short s w h
end
end Tgt
theorem XXa22 {P:Prop} (h:P:=by rw [ER,len];omega):P:=h
theorem XXbde {P:Prop} (h:P:=by rw [ba_size];omega):P:=h
namespace Tgt
open Base Oct Num Txt
theorem size_cons {s:ByteArray} {c:UInt8} {r:List UInt8} (h:s.data.toList=c::r):s.size=r.length+1:=by rw [←len,h];rfl
theorem empty_of {s:ByteArray} (h:s.data.toList= []):s.toList.isEmpty=true:=by rw [Dv,h];rfl
theorem full_of {s:ByteArray} {c:UInt8} {r:List UInt8} (h:s.data.toList=c::r):s.toList.isEmpty=false:=by rw [Dv,h];rfl
theorem ba_list (l:List UInt8):(ba l).data.toList=l:=rfl
theorem ba_size (l:List UInt8):(ba l).size=l.length:=len_mk l
theorem at_zero {s:ByteArray} {c:UInt8} {r:List UInt8} (h:s.data.toList=c::r) (h0:0<s.size):s[0]=c:=by have:=Lib.data_getElem? s 0 h0;rw [h] at this;exact (GZ.inj this).symm
theorem drop_ext (s:ByteArray) (k:Nat):(s.extract k s.size).data.toList=s.data.toList.drop k:=by rw [Di,FF XXa22]
section
attribute [local go_sem] A8
theorem plain_any (c:UInt8) (ms:ByteArray) (w:World):Calls Mm 325 #[ZE Z6 c.toNat,ZD ms] w λe w'=>e=.returned (ZB (plainB ms.data.toList c))/\w'=w:=by
 have HD:=Dl (λw=>Oct.digit_any (c.toNat:Int) w)
 have HI:=Dl (λw=>Tryz.strings_IndexByte ms (c.toNat:Int) w);have hcon:=Dl (Dd ms.data.toList c);have hback:((c.toNat:Int)).toNat.toUInt8=c:=ZW;rw [hback] at HI;clear hback;have hP:=Dl (show plainB ms.data.toList c=(GI (c.toNat:Int)||GF (c.toNat:Int)||ms.data.toList.contains c) from rfl);rw [hcon.out] at hP;clear hcon;generalize Dn ms.data.toList c=ix at *;generalize plainB ms.data.toList c=r at *;generalize (c.toNat:Int)=n at *;go_enter Tryz.func325,Tryz.ntmps325
 go_wp2_with (first
  |(go_at_call 291;with_reducible refine Cm (HD.out _) ?_)
  |(go_at_call 329;with_reducible refine Cm (HI.out _) ?_))
 all_goals (go_ret;exact ⟨ret_bool (by rw [hP.out];simp [GI, *]<;>omega),rfl⟩)
theorem isName_any (s:ByteArray) (w:World) (hs:s.size<=1000000000):Calls Mm 309 #[ZD s] w λe w'=>e=.returned (ZB (s.data.toList.all (plainB nameMarks)))/\w'=w:=by
 obtain ⟨A,hA⟩:∃A,s.data.toList.all (plainB nameMarks)=A:=⟨_,rfl⟩;rw [hA];have HA:=Dl hA;clear hA;go_enter Tryz.func309,Tryz.ntmps309;go_wp2
 go_loop [3,6] (λ_ i=>∃k:Nat,k<=s.size/\i=ZE Z7 k/\Hid ((s.data.toList.take k).all (plainB nameMarks)=true)) (λ_ i=>s.size-(intOf i).toNat)
 case atStart=>exact ⟨0,Gz _,rfl,rfl⟩
 case round=>
  obtain ⟨k,hk,rfl,hno⟩:=hrel;rcases Gp k s.size with hlt | hge
  ·have HS:=Dl (take_snoc s k hlt)
   have HM:=Dl (byte_mem s k hlt);have HP:=Dl (λw=>plain_any s[k] ⟨#[45,46,95,126]⟩ w);rw [show (ByteArray.mk #[45,46,95,126]).data.toList=nameMarks from rfl] at HP;cases hq:plainB nameMarks s[k] with
   | true=>
     rw [hq] at HP;go_wp2_with (go_at_call 325;with_reducible refine Cm (HP.out _) ?_);go_round
     case rel=>exact ⟨k+1,ZZ,ZT,Dl (by rw [HS.out,List.all_append,hno.out];simp [hq])⟩
     case measure=>simp [intOf];omega
   | false=>
     rw [hq] at HP;go_wp2_with (go_at_call 325;with_reducible refine Cm (HP.out _) ?_);go_ret;exact ⟨by rw [←HA.out,List.all_eq_false.2 ⟨s[k],HM.out,by rw [hq];decide⟩];rfl,rfl⟩
  ·obtain rfl:k=s.size:=by omega
   have hno1:=hno.out;rw [take_all s _ (Gi _)] at hno1;have HN:=Dl (HA.out.symm.trans hno1);clear hno hno1;go_wp2;go_ret;exact ⟨by rw [HN.out];rfl,rfl⟩
theorem hex_all (a b:UInt8):allOf [5] [a,b]=(hexB a&&hexB b):=by simp [allOf,oneOf,ofKind,hexB]
theorem XXc25 {P:Prop} (h:P:=by
 clear hw hl hq x1;go_wp2_with (go_at_call 325;with_reducible refine Cm (HP3.out _) ?_);go_ret
 exact ⟨by rw [←HW.out];rfl,hb.out⟩):P:=h
theorem isWritten_any (s ms:ByteArray) (w:World) (hm:ms.data.toList.contains 37=false) :
 Calls Mm 321 #[ZD s,ZD ms] w λe w'=>e=.returned (ZB (written ms.data.toList s.data.toList))/\Below w.heap.size w w':=by
 have HM:=Dl hm;clear hm;obtain ⟨A,hA⟩:∃A,written ms.data.toList s.data.toList=A:=⟨_,rfl⟩;rw [hA];have HA:=Dl hA;clear hA;go_enter Tryz.func321,Tryz.ntmps321;go_wp2
 go_loopw [0] (λv wr=>∃S:ByteArray,v=ZD S/\S.size<=s.size/\Hid (written ms.data.toList S.data.toList=A)/\Hid (Below w.heap.size w wr)) (λv _=>match v with | ZD S=>S.size | _=>0)
 case atStart=>exact ⟨s,rfl,Gi _,HA,Dl (AE _ _)⟩
 case round=>
  obtain ⟨S,rfl,hS,hw,hb⟩:=hrel;cases hl:S.data.toList with
  | nil=>
    have he:=empty_of hl;rw [hl] at hw;have HW:=Dl (show true=A from hw.out);clear hl hw;go_wp2;go_ret;exact ⟨by rw [←HW.out];rfl,hb.out⟩
  | cons c r=>
    have he:=full_of hl;have hz:=size_cons hl;have h0:(0:Int)<(S.size:Int):=ZZ;have h1:(1:Int)<=(S.size:Int):=ZZ;have e0:∀h,S[0]'h=c:=λh=>at_zero hl h;have HP:=Dl (λw=>plain_any c ms w);rw [hl] at hw;have x1:=drop_ext S 1;rw [hl,List.drop_succ_cons,List.drop_zero] at x1;cases hq:plainB ms.data.toList c with
    | true=>
      rw [hq] at HP
      have HW:=Dl (show written ms.data.toList (S.extract 1 S.size).data.toList=A by rw [x1,←hw.out,written_plain HM.out c r hq]);have hz1:=Dl (show (S.extract 1 S.size).size+1=S.size by rw [←len,x1,hz]);clear hw hl hq x1 hz;go_wp2_with (go_at_call 325;with_reducible refine Cm (HP.out _) ?_);go_roundw
      case rel=>exact ⟨_,rfl,by have:=hz1.out;omega,HW,hb⟩
      case measure=>have:=hz1.out;simp only;omega
    | false=>
      rw [hq] at HP;by_cases hc:c=37
      ·subst hc;have HP3:Hid (∀w,Calls Mm 325 #[ZE Z6 37,ZD ms] w λe w'=>e=.returned (ZB false)/\w'=w):=HP;clear HP;rcases r with _ | ⟨a,_ | ⟨b,r'⟩⟩
       ·have t2:¬(2:Int)<(S.size:Int):=by simp at hz;omega
        clear hz;have HW:=Dl ((written_not (ms:=ms.data.toList) 37 [] hq (.inr ZX)).symm.trans hw.out);exact XXc25
       ·have t2:¬(2:Int)<(S.size:Int):=by simp at hz;omega
        clear hz;have HW:=Dl ((written_not (ms:=ms.data.toList) 37 [a] hq (.inr ZW)).symm.trans hw.out);exact XXc25
       ·simp only [EP] at hz;have t2:(2:Int)<(S.size:Int):=by omega
        have t3:(3:Int)<=(S.size:Int):=ZZ;have x3:=drop_ext S 3;rw [hl] at x3;simp only [List.drop_succ_cons,List.drop_zero] at x3;have x2:(S.extract 1 3).data.toList= [a,b]:=by rw [Di,hl];rfl
        have hsz2:(S.extract 1 3).size<=maxLen:=by rw [←len,x2];unfold maxLen;simp
        have HA5:=Dl (λ(w:World) (g:Nat) hk=>Oct.all_any (S.extract 1 3) (some ⟨g,0,none⟩) 1 1 [5] w hsz2 hk ZX);rw [x2,hex_all] at HA5;rw [written_pct] at hw;have hz3:=Dl (show (S.extract 3 S.size).size+3=S.size by rw [←len,x3];omega);clear hz;cases hab:(hexB a&&hexB b) with
        | true=>
          rw [hab] at HA5 hw;rw [Bg,←x3] at hw;clear hl hq x1 hsz2 x2 x3
          go_wp2_with (first
           |(go_at_call 325;with_reducible refine Cm (HP3.out _) ?_)
           |(go_at_call 263;with_reducible refine (HA5.out _ _ ?_).mono ?_;exact CO _ _ rfl _ _;rintro e w1 ⟨rfl,hw⟩;rw [hw];clear hw))
          go_roundw
          case rel=>exact ⟨_,rfl,by have:=hz3.out;omega,hw,Dl (hb.out.alloc hb.out.size _)⟩
          case measure=>have:=hz3.out;simp only;omega
        | false=>
          rw [hab] at HA5 hw;rw [AS] at hw;clear hl hq x1 hsz2 x2 x3
          go_wp2_with (first
           |(go_at_call 325;with_reducible refine Cm (HP3.out _) ?_)
           |(go_at_call 263;with_reducible refine (HA5.out _ _ ?_).mono ?_;exact CO _ _ rfl _ _;rintro e w1 ⟨rfl,hw⟩;rw [hw];clear hw))
          go_ret;exact ⟨by rw [←hw.out];rfl,hb.out.alloc hb.out.size _⟩
      ·have t1:((c.toNat:Int)==37)=false:=ZM.2 λe=>hc (NI.1 (by show c.toNat=37;omega));have HW:=Dl ((written_not (ms:=ms.data.toList) c r hq (.inl hc)).symm.trans hw.out);clear hw hl hq x1 hz;go_wp2_with (go_at_call 325;with_reducible refine Cm (HP.out _) ?_);go_ret;exact ⟨by rw [←HW.out];rfl,hb.out⟩
theorem XX8BV {P:Prop} (h:P:=by
 go_enter Tryz.func310,Tryz.ntmps310;go_wp2_with (go_at_call 297;with_reducible refine (HD.out _).mono ?_;rintro e w1 ⟨rfl,hb⟩);go_ret
 exact ⟨rfl,hb⟩):P:=h
theorem isPort_any (s:ByteArray) (w:World) (hs:s.size<=1000000000):Calls Mm 310 #[ZD s] w λe w'=>e=.returned (ZB (portOk s.data.toList))/\Below w.heap.size w w':=by
 have HD:=Dl (λw=>Num.dec_any 65535 ZX s w ZP);have hP:portOk s.data.toList=(decide (s.size<=5)&&decide ((readOf 10 65535 s.data.toList).2=0)):=by unfold portOk;rw [len]
 rw [hP];clear hP;generalize (readOf 10 65535 s.data.toList).2=e at *;generalize (readOf 10 65535 s.data.toList).1=n at *;by_cases h5:s.size<=5
 ·rw [ZK h5,Bg];have t1:(s.size:Int)<=5:=by omega
  by_cases he:e=0
  ·subst he;exact XX8BV
  ·have t2:(e==0)=false:=ZM.2 he;rw [ZL he];clear he;exact XX8BV
 ·rw [ZL h5,AS];have t1:¬(s.size:Int)<=5:=by omega
  exact XX8BV
theorem XX0S0 {P:Prop} (h:P:=by
 go_enter Tryz.func293,Tryz.ntmps293
 go_wp2_with (first
  |(go_at_call 271;with_reducible refine (HC.out _).mono ?_;rintro e w1 ⟨rfl,m,hw⟩;rw [hw];clear hw)
  |(go_at_call 309;with_reducible refine Cm (HN.out _) ?_))
 go_ret
 exact ⟨rfl,Az (AE _ _) _⟩):P:=h
theorem XXhyJ {P:Prop} (h:P:=by
 generalize ba p=PP at *;go_enter Tryz.func293,Tryz.ntmps293;go_wp2_with (go_at_call 271;with_reducible refine (HC.out _).mono ?_;rintro e w1 ⟨rfl,m,hw⟩;rw [hw];clear hw);go_ret
 exact ⟨rfl,Az (AE _ _) _⟩):P:=h
theorem host_any (s:ByteArray) (w:World) (hs:s.size<=1000000000):Calls Mm 293 #[ZD s] w λe w'=>e=.returned (ZB (hostB s.data.toList))/\Below w.heap.size w w':=by
 have HC:=Dl (λw=>cut_any s 58 w hs);obtain ⟨hl1,hl2⟩:=cutAt_le 58 s.data.toList;rw [len] at hl1 hl2;have hH:hostB s.data.toList=(nameOk (cutAt 58 s.data.toList).1&&(!(cutAt 58 s.data.toList).2.2||portOk (cutAt 58 s.data.toList).2.1)):=rfl;rw [hH];clear hH;generalize (cutAt 58 s.data.toList).1=n at *;generalize (cutAt 58 s.data.toList).2.1=p at *;generalize (cutAt 58 s.data.toList).2.2=b at *
 have HN:=Dl (λw=>isName_any (ba n) w XXbde);have HP:=Dl (λw=>isPort_any (ba p) w XXbde);rw [ba_list] at HN HP;have hsz:=ba_size n;clear hl1 hl2;cases n with
 | nil=>
   have hE:(ba []).toList.isEmpty=true:=empty_of rfl;clear hsz;have e:nameOk []=false:=rfl;rw [e,AS];clear e;generalize ba []=N at *;exact XXhyJ
 | cons c r=>
   have hE:(ba (c::r)).toList.isEmpty=false:=by rw [Dv];rfl
   have e:nameOk (c::r)=(decide ((c::r).length<=255)&&(c::r).all (plainB nameMarks)):=rfl;rw [e];clear e;by_cases hn:(c::r).length<=255
   ·rw [ZK hn,Bg];have t1:((ba (c::r)).size:Int)<=255:=by omega
    clear hsz hn;generalize (c::r).all (plainB nameMarks)=q at *;generalize ba (c::r)=N at *;generalize ba p=PP at *;generalize portOk p=pk at *;cases q with
    | false=>
      rw [AS];exact XX0S0
    | true=>
      rw [Bg];cases b with
      | false=>
        exact XX0S0
      | true=>
        rw [Bool.not_true,AV];go_enter Tryz.func293,Tryz.ntmps293
        go_wp2_with (first
         |(go_at_call 271;with_reducible refine (HC.out _).mono ?_;rintro e w1 ⟨rfl,m,hw⟩;rw [hw];clear hw)
         |(go_at_call 309;with_reducible refine Cm (HN.out _) ?_)
         |(go_at_call 310;with_reducible refine (HP.out _).mono ?_;rintro e w2 ⟨rfl,hb⟩))
        go_ret;exact ⟨rfl,A6 (Az (AE _ _) _) hb⟩
   ·rw [ZL hn,AS,AS];have t1:¬((ba (c::r)).size:Int)<=255:=by omega
    clear hsz hn;generalize ba (c::r)=N at *;exact XXhyJ
theorem prefix_slash (l:List UInt8):Lib.hasPrefix l [47]=decide (l.head?=some 47):=by
 cases l with
 | nil=>rfl
 | cons c r=>
   have:Lib.hasPrefix (c::r) [47]=(47==c):=by simp [Lib.hasPrefix,List.isPrefixOf]
   rw [this,List.head?_cons];by_cases h:c=47
   ·subst h;rfl
   ·rw [ZL (λe=>h (GZ.inj e)),ZM];exact λe=>h e.symm
theorem slash_any (s:ByteArray) (w:World):Calls Mm 288 #[ZD s,ZD ⟨#[47]⟩] w λe w'=>e=.returned (ZB (decide (s.data.toList.head?=some 47)))/\w'=w:=by have h:=Tryz.strings_HasPrefix s ⟨#[47]⟩ w;rw [show (ByteArray.mk #[47]).data.toList= [47] from rfl,prefix_slash] at h;exact h
theorem path_any (s:ByteArray) (w:World):Calls Mm 306 #[ZD s] w λe w'=>e=.returned (ZB (pathB s.data.toList))/\Below w.heap.size w w':=by
 have HS:=Dl (λw=>slash_any s w);have HW:=Dl (λw=>isWritten_any s ⟨#[45,46,95,126,33,36,38,39,40,41,42,43,44,59,61,58,64,47]⟩ w ZX);rw [show (ByteArray.mk #[45,46,95,126,33,36,38,39,40,41,42,43,44,59,61,58,64,47]).data.toList=pathMarks from rfl] at HW;unfold pathB;generalize written pathMarks s.data.toList=q at *;generalize decide (s.data.toList.head?=some 47)=h at *;cases h with
 | false=>
   go_enter Tryz.func306,Tryz.ntmps306;go_wp2_with (go_at_call 288;with_reducible refine Cm (HS.out _) ?_);go_ret;exact ⟨rfl,AE _ _⟩
 | true=>
   go_enter Tryz.func306,Tryz.ntmps306
   go_wp2_with (first
    |(go_at_call 288;with_reducible refine Cm (HS.out _) ?_)
    |(go_at_call 321;with_reducible refine (HW.out _).mono ?_;rintro e w1 ⟨rfl,hb⟩))
   go_ret;exact ⟨by rw [Bg];rfl,hb⟩
theorem query_any (s:ByteArray) (w:World):Calls Mm 307 #[ZD s] w λe w'=>e=.returned (ZB (queryB s.data.toList))/\Below w.heap.size w w':=by
 have HW:=Dl (λw=>isWritten_any s ⟨#[45,46,95,126,33,36,38,39,40,41,42,43,44,59,61,58,64,47,63]⟩ w ZX);rw [show (ByteArray.mk #[45,46,95,126,33,36,38,39,40,41,42,43,44,59,61,58,64,47,63]).data.toList=queryMarks from rfl] at HW;unfold queryB;generalize written queryMarks s.data.toList=q at *;go_enter Tryz.func307,Tryz.ntmps307;go_wp2_with (go_at_call 321;with_reducible refine (HW.out _).mono ?_;rintro e w1 ⟨rfl,hb⟩);go_ret;exact ⟨rfl,hb⟩
end
end Tgt
namespace Tgt
open Base Oct Num Txt
abbrev tv (f:Int) (h p q:ByteArray) (a:Bool):Value:=Z9 #[ZE Z7 f,ZD h,ZD p,ZD q,ZB a]
abbrev E0:ByteArray:=⟨#[]⟩
def ans:Option Tg->Value
 | none=>.tuple #[tv 0 E0 E0 E0 false,.int .i64 400]
 | some t=>.tuple #[tv t.form (ba t.host) (ba t.path) (ba t.query) t.asked,.int .i64 0]
structure Tgb (w:World) (g:Nat) (f:Int) (h p q:ByteArray) (a:Bool):Prop where
 c0:w.cell? ⟨g,0,none⟩=some (ZE Z7 f)
 c1:w.cell? ⟨g,1,none⟩=some (ZD h)
 c2:w.cell? ⟨g,2,none⟩=some (ZD p)
 c3:w.cell? ⟨g,3,none⟩=some (ZD q)
 c4:w.cell? ⟨g,4,none⟩=some (ZB a)
 z0:w.frozen? ⟨g,0,none⟩=false
 z1:w.frozen? ⟨g,1,none⟩=false
 z2:w.frozen? ⟨g,2,none⟩=false
 z3:w.frozen? ⟨g,3,none⟩=false
 z4:w.frozen? ⟨g,4,none⟩=false
theorem Tgb.below {w w':World} {g:Nat} {f:Int} {h p q:ByteArray} {a:Bool} (H:Tgb w g f h p q a) (hg:g<w.heap.size) (hb:Below w.heap.size w w'):Tgb w' g f h p q a:=
 ⟨(hb.cell (p:=⟨g,0,none⟩) hg).trans H.c0,(hb.cell (p:=⟨g,1,none⟩) hg).trans H.c1,(hb.cell (p:=⟨g,2,none⟩) hg).trans H.c2,(hb.cell (p:=⟨g,3,none⟩) hg).trans H.c3,(hb.cell (p:=⟨g,4,none⟩) hg).trans H.c4,
  (hb.frozen (p:=⟨g,0,none⟩) hg).trans H.z0,(hb.frozen (p:=⟨g,1,none⟩) hg).trans H.z1,(hb.frozen (p:=⟨g,2,none⟩) hg).trans H.z2,(hb.frozen (p:=⟨g,3,none⟩) hg).trans H.z3,(hb.frozen (p:=⟨g,4,none⟩) hg).trans H.z4⟩
theorem Tgb.new (w:World) (t:TypeId) (f:Int) (h p q:ByteArray) (a:Bool):Tgb (w.alloc (.cells #[ZE Z7 f,ZD h,ZD p,ZD q,ZB a] t)) w.heap.size f h p q a:=by
 have hh:=heap_alloc_new w (.cells #[ZE Z7 f,ZD h,ZD p,ZD q,ZB a] t);have c:∀k v,(#[Value.int .i64 f,ZD h,ZD p,ZD q,ZB a]:Array Value)[k]?=some v->(w.alloc (.cells #[ZE Z7 f,ZD h,ZD p,ZD q,ZB a] t)).cell? ⟨w.heap.size,k,none⟩=some v:=
  λk v e=>(cell_of_row (w.alloc _) w.heap.size k _ t (0,0) hh).trans e
 have z:∀k,(w.alloc (.cells #[ZE Z7 f,ZD h,ZD p,ZD q,ZB a] t)).frozen? ⟨w.heap.size,k,none⟩=false:=λk=>by unfold World.frozen?;simp only [hh];simp
 exact ⟨c 0 _ rfl,c 1 _ rfl,c 2 _ rfl,c 3 _ rfl,c 4 _ rfl,z 0,z 1,z 2,z 3,z 4⟩
theorem Tgb.put {B:Nat} {w0 w:World} {g:Nat} {f:Int} {h p q:ByteArray} {a:Bool} (H:Tgb w g f h p q a) (hb:Below B w0 w) (hg:B<=g) (f':Int) (h' p' q':ByteArray) (a':Bool) :
 ∃W,((((w.setCell ⟨g,0,none⟩ (ZE Z7 f')).setCell ⟨g,1,none⟩ (ZD h')).setCell ⟨g,2,none⟩ (ZD p')).setCell ⟨g,3,none⟩ (ZD q')).setCell ⟨g,4,none⟩ (ZB a')=W/\Tgb W g f' h' p' q' a'/\Below B w0 W:=by
 obtain ⟨c0,c1,c2,c3,c4,z0,z1,z2,z3,z4⟩:=H;refine ⟨_,rfl,⟨?_,?_,?_,?_,?_,?_,?_,?_,?_,?_⟩,((((hb.setCell hg _).setCell hg _).setCell hg _).setCell hg _).setCell hg _⟩;all_goals go_simp
theorem Tgb.other {w:World} {g:Nat} {f:Int} {h p q:ByteArray} {a:Bool} (H:Tgb w g f h p q a) (g' o:Nat) (v:Value) (n2:¬g'=g):Tgb (w.setCell ⟨g',o,none⟩ v) g f h p q a:=by obtain ⟨c0,c1,c2,c3,c4,z0,z1,z2,z3,z4⟩:=H;refine ⟨?_,?_,?_,?_,?_,?_,?_,?_,?_,?_⟩;all_goals go_simp
section
attribute [local go_sem] A8
theorem colon_any (s:ByteArray) (w:World):Calls Mm 304 #[ZD s,ZD ⟨#[58]⟩] w λe w'=>e=.returned (ZB (s.data.toList.contains 58))/\w'=w:=by have h:=Tryz.strings_Contains_one s 58 w;rw [←Dd] at h;exact h
theorem XXoUb {P:Prop} (h:P:=by
 obtain ⟨W,hW,⟨d0,d1,d2,d3,d4,_,_,_,_,_⟩,hbW⟩:=Tgb.put ⟨c0,c1,c2,c3,c4,z0,z1,z2,z3,z4⟩ HB.out (Gi _) 0 E0 E0 E0 false;rw [hW];first
  |exact ZF (v:=.tuple #[tv 0 E0 E0 E0 false,.int .i64 400]) (by (simp [results,Tryz.results287,go_sem,d0,d1,d2,d3,d4]);first|done|fail) rfl ⟨rfl,hbW⟩
  |exact ZF (v:=.tuple #[tv 0 E0 E0 E0 false,.int .i64 400]) (by (simp [results,Tryz.results289,go_sem,d0,d1,d2,d3,d4]);first|done|fail) rfl ⟨rfl,hbW⟩
  |exact ZF (v:=.tuple #[tv 0 E0 E0 E0 false,.int .i64 400]) (by (simp [results,Tryz.results290,go_sem,d0,d1,d2,d3,d4]);first|done|fail) rfl ⟨rfl,hbW⟩
  |exact ZF (v:=.tuple #[tv 0 E0 E0 E0 false,.int .i64 400]) (by (simp [results,Mq,go_sem,d0,d1,d2,d3,d4]);first|done|fail) rfl ⟨rfl,hbW⟩):P:=h
theorem XXTgp {P:Prop} (h:P:=by
 obtain ⟨W,hW,⟨d0,d1,d2,d3,d4,_,_,_,_,_⟩,hbW⟩:=Tgb.put ⟨c0,c1,c2,c3,c4,z0,z1,z2,z3,z4⟩ HB.out (Gi _) 3 s E0 E0 false;rw [hW];first
  |exact ZF (v:=.tuple #[tv 3 s E0 E0 false,.int .i64 0]) (by (simp [results,Tryz.results287,go_sem,d0,d1,d2,d3,d4]);first|done|fail) rfl ⟨rfl,hbW⟩
  |exact ZF (v:=.tuple #[tv 3 s E0 E0 false,.int .i64 0]) (by (simp [results,Mq,go_sem,d0,d1,d2,d3,d4]);first|done|fail) rfl ⟨rfl,hbW⟩):P:=h
theorem authority_any (s:ByteArray) (w:World) (hs:s.size<=1000000000):Calls Mm 287 #[ZD s] w λe w'=>e=.returned (ans (authority s.data.toList))/\Below w.heap.size w w':=by
 have HC:=Dl (λw=>colon_any s w);have HH:=Dl (λw=>host_any s w hs);have hba:ba s.data.toList=s:=rfl;obtain ⟨R,hR⟩:∃R,authority s.data.toList=R:=⟨_,rfl⟩;rw [hR];unfold authority at hR;generalize s.data.toList.contains 58=b at *;generalize hostB s.data.toList=h at *;have hc:=Tgb.new w 209 0 E0 E0 E0 false;have hW:Below w.heap.size w (w.alloc (.cells #[ZE Z7 0,ZD E0,ZD E0,ZD E0,ZB false] 209)):=(AE _ _).alloc (Gi _) _;have hgg:w.heap.size<(w.alloc (.cells #[ZE Z7 0,ZD E0,ZD E0,ZD E0,ZB false] 209)).heap.size:=ZW;cases b with
 | false=>
   obtain rfl:none=R:=hR;clear hba hc hW hgg;go_enter Tryz.func287,Tryz.ntmps287;go_wp2_with (go_at_call 304;with_reducible refine Cm (HC.out _) ?_);exact ZF (v:=Z8 #[tv _ _ _ _ _,ZE Z7 400]) (by simp [results,Tryz.results287,go_sem]) rfl ⟨rfl,(AE _ _).alloc (Gi _) _⟩
 | true=>
   have HCC:=Dl hc;have HWW:=Dl hW;have HG:=Dl hgg;clear hc hW hgg;cases h with
   | false=>
     obtain rfl:none=R:=hR;clear hba;go_enter Tryz.func287,Tryz.ntmps287
     go_wp2_with (first
      |(go_at_call 304;with_reducible refine Cm (HC.out _) ?_)
      |(go_at_call 293;with_reducible refine (HH.out _).mono ?_;rintro e w2 ⟨rfl,hb⟩
        obtain ⟨c0,c1,c2,c3,c4,z0,z1,z2,z3,z4⟩:=HCC.out.below HG.out hb;have HB:=Dl (A6 HWW.out hb);clear hb))
     exact XXoUb
   | true=>
     obtain rfl:some ⟨3,s.data.toList,[],[],false⟩=R:=hR;rw [ans,hba,show ba []=E0 from rfl];clear hba;go_enter Tryz.func287,Tryz.ntmps287
     go_wp2_with (first
      |(go_at_call 304;with_reducible refine Cm (HC.out _) ?_)
      |(go_at_call 293;with_reducible refine (HH.out _).mono ?_;rintro e w2 ⟨rfl,hb⟩
        obtain ⟨c0,c1,c2,c3,c4,z0,z1,z2,z3,z4⟩:=HCC.out.below HG.out hb;have HB:=Dl (A6 HWW.out hb);clear hb))
     exact XXTgp
theorem origin_any (s:ByteArray) (w:World) (hs:s.size<=1000000000):Calls Mm 289 #[ZD s] w λe w'=>e=.returned (ans (origin s.data.toList))/\Below w.heap.size w w':=by
 have HC:=Dl (λw=>cut_any s 63 w hs);obtain ⟨R,hR⟩:∃R,origin s.data.toList=R:=⟨_,rfl⟩;rw [hR];unfold origin at hR;generalize (cutAt 63 s.data.toList).1=p at *;generalize (cutAt 63 s.data.toList).2.1=q at *;generalize (cutAt 63 s.data.toList).2.2=b at *
 have HP:=Dl (λw=>path_any (ba p) w);have HQ:=Dl (λw=>query_any (ba q) w);rw [ba_list] at HP HQ;generalize pathB p=pk at *;generalize queryB q=qk at *
 have HCC:=Dl (Tgb.new w 209 0 E0 E0 E0 false)
 have HWW:=Dl (show Below w.heap.size w (w.alloc (.cells #[ZE Z7 0,ZD E0,ZD E0,ZD E0,ZB false] 209)) from (AE _ _).alloc (Gi _) _);have HG:=Dl (show w.heap.size<(w.alloc (.cells #[ZE Z7 0,ZD E0,ZD E0,ZD E0,ZB false] 209)).heap.size by simp);cases pk with
 | false=>
   obtain rfl:none=R:=hR;rw [ans];generalize ba p=PP at *;generalize ba q=QQ at *;go_enter Tryz.func289,Tryz.ntmps289
   go_wp2_with (first
    |(go_at_call 271;with_reducible refine (HC.out _).mono ?_;rintro e w1 ⟨rfl,m,hw⟩;rw [hw];clear hw)
    |(go_at_call 306;with_reducible refine (HP.out _).mono ?_;rintro e w2 ⟨rfl,hb⟩
      have hb':=A6 (Az (AE _ _) m) hb;obtain ⟨c0,c1,c2,c3,c4,z0,z1,z2,z3,z4⟩:=HCC.out.below HG.out hb';have HB:=Dl (A6 HWW.out hb');clear hb hb'))
   exact XXoUb
 | true=>
   cases qk with
   | false=>
     obtain rfl:none=R:=hR;rw [ans];generalize ba p=PP at *;generalize ba q=QQ at *;go_enter Tryz.func289,Tryz.ntmps289
     go_wp2_with (first
      |(go_at_call 271;with_reducible refine (HC.out _).mono ?_;rintro e w1 ⟨rfl,m,hw⟩;rw [hw];clear hw)
      |(go_at_call 306;with_reducible refine (HP.out _).mono ?_;rintro e w2 ⟨rfl,hb⟩
        have hb':=A6 (Az (AE _ _) m) hb;clear hb)
      |(go_at_call 307;with_reducible refine (HQ.out _).mono ?_;rintro e w3 ⟨rfl,hb3⟩
        have hb'':=A6 hb' hb3;obtain ⟨c0,c1,c2,c3,c4,z0,z1,z2,z3,z4⟩:=HCC.out.below HG.out hb'';have HB:=Dl (A6 HWW.out hb'');clear hb' hb'' hb3))
     exact XXoUb
   | true=>
     obtain rfl:some ⟨1,[],p,q,b⟩=R:=hR;rw [ans,show ba []=E0 from rfl];generalize ba p=PP at *;generalize ba q=QQ at *;go_enter Tryz.func289,Tryz.ntmps289
     go_wp2_with (first
      |(go_at_call 271;with_reducible refine (HC.out _).mono ?_;rintro e w1 ⟨rfl,m,hw⟩;rw [hw];clear hw)
      |(go_at_call 306;with_reducible refine (HP.out _).mono ?_;rintro e w2 ⟨rfl,hb⟩
        have hb':=A6 (Az (AE _ _) m) hb;clear hb)
      |(go_at_call 307;with_reducible refine (HQ.out _).mono ?_;rintro e w3 ⟨rfl,hb3⟩
        have hb'':=A6 hb' hb3;obtain ⟨c0,c1,c2,c3,c4,z0,z1,z2,z3,z4⟩:=HCC.out.below HG.out hb'';have HB:=Dl (A6 HWW.out hb'');clear hb' hb'' hb3))
     obtain ⟨W,hW,⟨d0,d1,d2,d3,d4,_,_,_,_,_⟩,hbW⟩:=Tgb.put ⟨c0,c1,c2,c3,c4,z0,z1,z2,z3,z4⟩ HB.out (Gi _) 1 E0 PP QQ b;rw [hW];exact ZF (v:=Z8 #[tv 1 E0 PP QQ b,ZE Z7 0]) (by simp [results,Tryz.results289,go_sem,d0,d1,d2,d3,d4]) rfl ⟨rfl,hbW⟩
end
end Tgt
theorem XX6dd {P:Prop} (h:P:=by simp [results,Tryz.results266,go_sem,d0,d1,d2,d3,d4]):P:=h
namespace Tgt
open Base Oct Num Txt
theorem hostOf_le (l:List UInt8):(hostOf l).length<=l.length:=(List.takeWhile_sublist _).length_le
theorem restOf_le (l:List UInt8):(restOf l).length<=l.length:=(List.dropWhile_sublist _).length_le
theorem slashed_le (l:List UInt8):(slashed l).length<=l.length+1:=by unfold slashed;split<;>simp
section
attribute [local go_sem] A8
theorem absolute_any (s:ByteArray) (w:World) (hs:s.size<=900000000):Calls Mm 290 #[ZD s] w λe w'=>e=.returned (ans (absolute s.data.toList))/\Below w.heap.size w w':=by
 have HI:=Dl (λw=>indexAny_any s w ZZ);obtain ⟨R,hR⟩:∃R,absolute s.data.toList=R:=⟨_,rfl⟩;rw [hR];unfold absolute at hR;have hl1:=hostOf_le s.data.toList;have hl2:=restOf_le s.data.toList;have hl3:=slashed_le (restOf s.data.toList);rw [len] at hl1 hl2;have hsp:=idx_split s.data.toList;rw [len] at hsp;have e1:∀i:Nat,i<=s.size->s.extract 0 i=ba (s.data.toList.take i):=λi _=>ba_ext XXf66;have e2:∀i:Nat,s.extract i s.size=ba (s.data.toList.drop i):=λi=>ba_ext (by rw [drop_ext];rfl);have e3:s=ba s.data.toList:=rfl;generalize hostOf s.data.toList=ho at *;generalize restOf s.data.toList=re at *;generalize Dm s.data.toList [47,63]=ix at *;have HSP:=Dl hsp;clear hsp;have E1:=Dl e1;have E2:=Dl e2;have E3:=Dl e3;clear e1 e2 e3
 have HO:=Dl (λ(w:World)=>origin_any (ba (slashed re)) w XXbde)
 have HH:=Dl (λ(w:World)=>host_any (ba ho) w XXbde);have HS:=Dl (λ(w:World)=>slash_any (ba re) w);rw [ba_list] at HO HH HS;have hrz:(ba re).size<=1000000000:=by rw [ba_size];omega
 have hv:¬9223372036854775807<1+(ba re).size:=ZZ;have hSl:slashed re=if re.head?=some 47 then re else 47::re:=rfl
 have hbaS:∀l:List UInt8,(⟨#[47]⟩:ByteArray)++ba l=ba (47::l):=λl=>ba_ext (by simp [ba]);have HBA:=Dl hbaS;clear hbaS hrz hl1 hl2 hl3
 have HCC:=Dl (Tgb.new w 209 0 E0 E0 E0 false)
 have HWW:=Dl (show Below w.heap.size w (w.alloc (.cells #[ZE Z7 0,ZD E0,ZD E0,ZD E0,ZB false] 209)) from (AE _ _).alloc (Gi _) _);have HG:=Dl (show w.heap.size<(w.alloc (.cells #[ZE Z7 0,ZD E0,ZD E0,ZD E0,ZB false] 209)).heap.size by simp);generalize hSS:slashed re=sl at *;have HSl:=Dl hSl;clear hSl hSS;go_enter Tryz.func290,Tryz.ntmps290
 go_upto_if 13 with (go_at_call 308;with_reducible refine (HI.out _).mono ?_;rintro e w1 ⟨rfl,hb⟩)
 have HT1:=Dl (HCC.out.below HG.out hb)
 have HB1:=Dl (A6 HWW.out hb);have HG1:=Dl (Gn HG.out hb.size);clear hb HCC HWW HG HI
 go_cut [4,5] from 12 (λh r wx=>h=ZD (ba ho)/\r=ZD (ba re)/\Hid (∃n,wx=w1.drewN n))
 case first=>
  rcases HSP.out with ⟨rfl,h2,h3⟩ | ⟨i,h0,rfl,h2,h3⟩
  ·have H2:=Dl h2;have H3:=Dl h3;clear h2 h3;go_wp2_with fail;go_meet
   case rel=>exact ⟨by rw [H2.out];rfl,by rw [H3.out];rfl,Dl ⟨0,rfl⟩⟩
  ·have H2:=Dl h2;have H3:=Dl h3;have c0:(0:Int)<=(i:Int):=by omega
   have c1:(i:Int)<=(s.size:Int):=ZZ;have hi:=Dl (Gh h0);clear h2 h3 h0;go_wp2_with fail;go_quiet (fail);rename_i nq;go_wp2_with fail;go_meet
   case rel=>exact ⟨by rw [H2.out,E1.out i hi.out],by rw [H3.out,E2.out i],Dl ⟨nq,rfl⟩⟩
 case rest=>
  obtain ⟨rfl,rfl,hwc⟩:=hcut;have HT2:Hid (Tgb wc w.heap.size 0 E0 E0 E0 false):=by
   obtain ⟨n,hn⟩:=hwc.out
   exact Dl (hn ▸ HT1.out.below HG1.out (Az (AE _ _) n))
  have HB2:Hid (Below w.heap.size w wc):=by
   obtain ⟨n,hn⟩:=hwc.out
   exact Dl (hn ▸ Az HB1.out n)
  have HG2:Hid (w.heap.size<wc.heap.size):=by
   obtain ⟨n,hn⟩:=hwc.out
   exact Dl (hn ▸ HG1.out)
  clear hwc HT1 HB1 HG1
  go_upto_if 22 with (go_at_call 288;with_reducible refine Cm (HS.out _) ?_)
  go_cut [5] from 12 (λr wx=>r=ZD (ba sl)/\wx=wc)
  case first=>
   by_cases hd:re.head?=some 47
   ·have H1:=Dl (HSl.out.trans (ZN hd));rw [ZK hd];clear hd;go_wp2_with fail;go_meet
    case rel=>exact ⟨by rw [H1.out],rfl⟩
   ·have H1:=Dl (HSl.out.trans (ZO hd));rw [ZL hd];clear hd;go_wp2_with fail;go_meet
    case rel=>exact ⟨by rw [H1.out,HBA.out],rfl⟩
  case rest=>
   obtain ⟨rfl,rfl⟩:=hcut;clear HS HBA HSl HSP E1 E2 E3 hv;generalize ba sl=SL at *;cases hor:origin sl with
   | none=>
     rw [hor] at HO hR;obtain rfl:none=R:=hR;have HO2:Hid (∀w,Calls Mm 289 #[ZD SL] w λe w'=>e=.returned (Z8 #[tv 0 E0 E0 E0 false,ZE Z7 400])/\Below w.heap.size w w'):=HO;clear HO hor
     go_upto_if 36 with (go_at_call 289;with_reducible refine (HO2.out _).mono ?_;rintro e w2 ⟨rfl,hb⟩)
     have hb3:Below wc.heap.size wc (w2.alloc (.cells #[ZE Z7 0,ZD E0,ZD E0,ZD E0,ZB false] 209)):=hb.alloc hb.size _;generalize w2.alloc (.cells #[ZE Z7 0,ZD E0,ZD E0,ZD E0,ZB false] 209)=W3 at *;obtain ⟨c0,c1,c2,c3,c4,z0,z1,z2,z3,z4⟩:=HT2.out.below HG2.out hb3;have HB:=Dl (A6 HB2.out hb3);clear hb hb3 HT2 HB2 HG2;go_wp2_with fail;exact XXoUb
   | some u=>
     obtain ⟨_,f1,f2⟩:=putPath_origin hor;rw [hor] at HO hR;obtain ⟨uf,uh,up,uq,ua⟩:=u;simp only at f1 f2;subst f1 f2;have HO2:Hid (∀w,Calls Mm 289 #[ZD SL] w λe w'=>e=.returned (Z8 #[tv 1 E0 (ba up) (ba uq) ua,ZE Z7 0])/\Below w.heap.size w w'):=HO;clear HO hor;simp only at hR;cases hh:hostB ho with
     | false=>
       rw [hh] at HH hR;obtain rfl:none=R:=hR
       go_upto_if 36 with (first
        |(go_at_call 289;with_reducible refine (HO2.out _).mono ?_;rintro e w2 ⟨rfl,hb⟩
          have hb3:Below wc.heap.size wc (w2.alloc (.cells #[ZE Z7 1,ZD E0,ZD (ba up),ZD (ba uq),ZB ua] 209)):=hb.alloc hb.size _;clear hb)
        |(go_at_call 293;with_reducible refine (HH.out _).mono ?_;rintro e w4 ⟨rfl,hb4⟩))
       have hb':=A6 hb3 hb4;obtain ⟨c0,c1,c2,c3,c4,z0,z1,z2,z3,z4⟩:=HT2.out.below HG2.out hb';have HB:=Dl (A6 HB2.out hb');clear hb3 hb4 hb' HT2 HB2 HG2;go_wp2_with fail;exact XXoUb
     | true=>
       rw [hh] at HH hR;obtain rfl:some ⟨2,ho,up,uq,ua⟩=R:=hR
       go_upto_if 36 with (first
        |(go_at_call 289;with_reducible refine (HO2.out _).mono ?_;rintro e w2 ⟨rfl,hb⟩
          have hb3:Below wc.heap.size wc (w2.alloc (.cells #[ZE Z7 1,ZD E0,ZD (ba up),ZD (ba uq),ZB ua] 209)):=hb.alloc hb.size _
          have HT5:=Dl (Tgb.new w2 209 1 E0 (ba up) (ba uq) ua);have HG5:=Dl (show w2.heap.size<(w2.alloc (.cells #[ZE Z7 1,ZD E0,ZD (ba up),ZD (ba uq),ZB ua] 209)).heap.size by simp);have hne:w.heap.size<w2.heap.size:=Gn HG2.out hb.size;clear hb)
        |(go_at_call 293;with_reducible refine (HH.out _).mono ?_;rintro e w4 ⟨rfl,hb4⟩))
       have hb':=A6 hb3 hb4;obtain ⟨c0,c1,c2,c3,c4,z0,z1,z2,z3,z4⟩:=HT2.out.below HG2.out hb';obtain ⟨a0,a1,a2,a3,a4,y0,y1,y2,y3,y4⟩:=HT5.out.below HG5.out hb4;have HB:=Dl (A6 HB2.out hb');clear hb3 hb4 hb' HT2 HB2 HG2 HT5 HG5;have n1:¬w.heap.size=w2.heap.size:=ZZ;have n2:¬w2.heap.size=w.heap.size:=ZZ;generalize w2.heap.size=g7 at *;go_wp2_with fail;have hB5:=(HB.out.setCell (p:=⟨g7,0,none⟩) (Gh hne) (ZE Z7 2)).setCell (p:=⟨g7,1,none⟩) (Gh hne) (ZD (ba ho));obtain ⟨W,hW,⟨d0,d1,d2,d3,d4,_,_,_,_,_⟩,hbW⟩:=Tgb.put (((Tgb.mk c0 c1 c2 c3 c4 z0 z1 z2 z3 z4).other g7 0 (ZE Z7 2) n2).other g7 1 (ZD (ba ho)) n2) hB5 (Gi _) 2 (ba ho) (ba up) (ba uq) ua;rw [hW];exact ZF (v:=Z8 #[tv 2 (ba ho) (ba up) (ba uq) ua,ZE Z7 0]) (by simp [results,Tryz.results290,go_sem,d0,d1,d2,d3,d4]) rfl ⟨rfl,hbW⟩
theorem toList_ba (m:ByteArray) (l:List UInt8):(m.toList==l)=decide (m.data.toList=l):=by rw [Dv,AR,beq_iff_eq,decide_eq_true_eq]
theorem eq_facts (m:ByteArray) (l:List UInt8) (b:Bool) (h:decide (m.data.toList=l)=b):(m.toList==l)=b/\(m.toList==(ByteArray.mk l.toArray).toList)=b:=by have h1:=toList_ba m l;rw [h] at h1;exact ⟨h1,by rw [show (ByteArray.mk l.toArray).toList=l from Dv _];exact h1⟩
theorem ans_form (R:Option Tg):∃(f:Int) (h p q:ByteArray) (a:Bool) (e:Int),ans R=Z8 #[tv f h p q a,ZE Z7 e]:=by
 cases R with
 | none=>exact ⟨_,_,_,_,_,_,rfl⟩
 | some t=>exact ⟨_,_,_,_,_,_,rfl⟩
theorem XXkkv {P:Prop} (h:P:=by
 by_cases h1:m.data.toList=options
 ·obtain ⟨t3,t4⟩:=eq_facts m [79,80,84,73,79,78,83] true (ZK h1);obtain ⟨t5,t6⟩:=eq_facts s [42] false (ZL λe=>ho ⟨h1,e⟩);exact .inr ⟨t3,t4,t5,t6⟩
 ·obtain ⟨t3,t4⟩:=eq_facts m [79,80,84,73,79,78,83] false (ZL h1)
  exact .inl ⟨t3,t4⟩):P:=h
theorem parse_any (m s:ByteArray) (w:World) (hs:s.size<=900000000):Calls Mm 266 #[ZD m,ZD s] w λe w'=>e=.returned (ans (parse m.data.toList s.data.toList))/\Below w.heap.size w w':=by
 have HCC:=Dl (Tgb.new w 209 0 E0 E0 E0 false)
 have HWW:=Dl (show Below w.heap.size w (w.alloc (.cells #[ZE Z7 0,ZD E0,ZD E0,ZD E0,ZB false] 209)) from (AE _ _).alloc (Gi _) _);have HG:=Dl (show w.heap.size<(w.alloc (.cells #[ZE Z7 0,ZD E0,ZD E0,ZD E0,ZB false] 209)).heap.size by simp);by_cases hm:m.data.toList=connect
 ·have HA:=Dl (λw=>authority_any s w ZZ);rw [parse,ZN hm];obtain ⟨t1,t2⟩:=eq_facts m [67,79,78,78,69,67,84] true (ZK hm);clear hm;obtain ⟨f,h,p,q,a,en,hE⟩:=ans_form (authority s.data.toList);rw [hE] at HA ⊢;clear hE;go_enter Kl,LW
  go_wp2_with (go_at_call 287;with_reducible refine (HA.out _).mono ?_;rintro e w2 ⟨rfl,hb⟩
               obtain ⟨c0,c1,c2,c3,c4,z0,z1,z2,z3,z4⟩:=HCC.out.below HG.out hb;have HB:=Dl (A6 HWW.out hb);clear hb)
  obtain ⟨W,hW,⟨d0,d1,d2,d3,d4,_,_,_,_,_⟩,hbW⟩:=Tgb.put ⟨c0,c1,c2,c3,c4,z0,z1,z2,z3,z4⟩ HB.out (Gi _) f h p q a;rw [hW];exact ZF (v:=Z8 #[tv f h p q a,ZE Z7 en]) XX6dd rfl ⟨rfl,hbW⟩
 ·obtain ⟨t1,t2⟩:=eq_facts m [67,79,78,78,69,67,84] false (ZL hm);rw [parse,ZO hm];clear hm;by_cases ho:m.data.toList=options/\s.data.toList= [42]
  ·obtain ⟨t3,t4⟩:=eq_facts m [79,80,84,73,79,78,83] true (ZK ho.1);obtain ⟨t5,t6⟩:=eq_facts s [42] true (ZK ho.2);rw [ZN ho];clear ho HCC HWW HG;go_enter Kl,LW;go_wp2_with fail;exact ZF (v:=Z8 #[tv 4 E0 E0 E0 false,ZE Z7 0]) (by simp [results,Tryz.results266,go_sem]) rfl ⟨rfl,(AE _ _).alloc (Gi _) _⟩
  ·rw [ZO ho];have hno:((m.toList == [79,80,84,73,79,78,83])=false/\(m.toList==(ByteArray.mk #[79,80,84,73,79,78,83]).toList)=false)∨((m.toList == [79,80,84,73,79,78,83])=true/\(m.toList==(ByteArray.mk #[79,80,84,73,79,78,83]).toList)=true/\(s.toList == [42])=false/\(s.toList==(ByteArray.mk #[42]).toList)=false):=by
    exact XXkkv
   clear ho;have HS:=Dl (λw=>slash_any s w);by_cases hd:s.data.toList.head?=some 47
   ·rw [ZK hd] at HS;rw [ZN hd];clear hd
    have HO:=Dl (λw=>origin_any s w ZZ);obtain ⟨f,h,p,q,a,en,hE⟩:=ans_form (origin s.data.toList);rw [hE] at HO ⊢;clear hE;rcases hno with ⟨t3,t4⟩ | ⟨t3,t4,t5,t6⟩;all_goals
     go_enter Kl,LW
     go_wp2_with (first
      |(go_at_call 288;with_reducible refine Cm (HS.out _) ?_)
      |(go_at_call 289;with_reducible refine (HO.out _).mono ?_;rintro e w2 ⟨rfl,hb⟩
        obtain ⟨c0,c1,c2,c3,c4,z0,z1,z2,z3,z4⟩:=HCC.out.below HG.out hb;have HB:=Dl (A6 HWW.out hb);clear hb))
     obtain ⟨W,hW,⟨d0,d1,d2,d3,d4,_,_,_,_,_⟩,hbW⟩:=Tgb.put ⟨c0,c1,c2,c3,c4,z0,z1,z2,z3,z4⟩ HB.out (Gi _) f h p q a;rw [hW];exact ZF (v:=Z8 #[tv f h p q a,ZE Z7 en]) XX6dd rfl ⟨rfl,hbW⟩
   ·rw [ZL hd] at HS;rw [ZO hd];clear hd;by_cases h7:7<=s.size
    ·have q7:(7:Int)<=(s.size:Int):=by omega
     have x1:(s.extract 0 7).data.toList=s.data.toList.take 7:=by rw [Di];simp
     have hx1:(s.extract 0 7).size<=maxLen:=by rw [←len,x1,Fc];unfold maxLen;omega
     have HM:=Dl (λw=>Txt.same_any (s.extract 0 7) ⟨#[104,116,116,112,58,47,47]⟩ w hx1);have hsm:same (s.extract 0 7) ⟨#[104,116,116,112,58,47,47]⟩=schemed s.data.toList:=by unfold same schemed;rw [x1,len,ZK h7];rfl
     rw [hsm] at HM;clear x1 hx1 hsm h7;cases hsc:schemed s.data.toList with
     | true=>
       rw [hsc] at HM;rw [ZN rfl];have x2:=drop_ext s 7;have HO:=Dl (λw=>absolute_any (s.extract 7 s.size) w (by rw [←len,x2,ER,len];omega));rw [x2] at HO;obtain ⟨f,h,p,q,a,en,hE⟩:=ans_form (absolute (s.data.toList.drop 7));rw [hE] at HO ⊢;clear hE x2 hsc;rcases hno with ⟨t3,t4⟩ | ⟨t3,t4,t5,t6⟩;all_goals
        go_enter Kl,LW
        go_wp2_with (first
         |(go_at_call 288;with_reducible refine Cm (HS.out _) ?_)
         |(go_at_call 145;with_reducible refine (HM.out _).mono ?_;rintro e w2 ⟨rfl,hb⟩)
         |(go_at_call 290;with_reducible refine (HO.out _).mono ?_;rintro e w3 ⟨rfl,hb3⟩
           have hb':=A6 hb hb3;obtain ⟨c0,c1,c2,c3,c4,z0,z1,z2,z3,z4⟩:=HCC.out.below HG.out hb';have HB:=Dl (A6 HWW.out hb');clear hb hb3 hb'))
        obtain ⟨W,hW,⟨d0,d1,d2,d3,d4,_,_,_,_,_⟩,hbW⟩:=Tgb.put ⟨c0,c1,c2,c3,c4,z0,z1,z2,z3,z4⟩ HB.out (Gi _) f h p q a;rw [hW];exact ZF (v:=Z8 #[tv f h p q a,ZE Z7 en]) XX6dd rfl ⟨rfl,hbW⟩
     | false=>
       rw [hsc] at HM;rw [ZO ZX];clear hsc;rcases hno with ⟨t3,t4⟩ | ⟨t3,t4,t5,t6⟩;all_goals
        go_enter Kl,LW
        go_wp2_with (first
         |(go_at_call 288;with_reducible refine Cm (HS.out _) ?_)
         |(go_at_call 145;with_reducible refine (HM.out _).mono ?_;rintro e w2 ⟨rfl,hb⟩
           obtain ⟨c0,c1,c2,c3,c4,z0,z1,z2,z3,z4⟩:=HCC.out.below HG.out hb;have HB:=Dl (A6 HWW.out hb);clear hb))
        obtain ⟨W,hW,⟨d0,d1,d2,d3,d4,_,_,_,_,_⟩,hbW⟩:=Tgb.put ⟨c0,c1,c2,c3,c4,z0,z1,z2,z3,z4⟩ HB.out (Gi _) 0 E0 E0 E0 false;rw [hW];exact ZF (v:=Z8 #[tv 0 E0 E0 E0 false,ZE Z7 400]) XX6dd rfl ⟨rfl,hbW⟩
    ·have q7:¬(7:Int)<=(s.size:Int):=by omega
     have hsc:schemed s.data.toList=false:=by unfold schemed;rw [len,ZL h7,AS]
     rw [hsc,ZO ZX];clear hsc h7 HCC HWW HG;rcases hno with ⟨t3,t4⟩ | ⟨t3,t4,t5,t6⟩;all_goals
      go_enter Kl,LW;go_wp2_with (go_at_call 288;with_reducible refine Cm (HS.out _) ?_);exact ZF (v:=Z8 #[tv 0 E0 E0 E0 false,ZE Z7 400]) (by simp [results,Tryz.results266,go_sem]) rfl ⟨rfl,(AE _ _).alloc (Gi _) _⟩
end
end Tgt
namespace Bnd
open Base
def mid (lo n hi:Int):Int:=if lo<(if n > hi then hi else n) then (if n > hi then hi else n) else lo
def inside (n lo hi:Int):Bool:=decide (lo<=n)&&decide (n<=hi)
theorem mid_iff (lo n hi:Int) (h:lo<=hi):(n=mid lo n hi)↔inside n lo hi=true:=by
 unfold mid inside;simp only [AM,ZJ];constructor
 ·intro e;split at e<;> (try split at e)<;>omega
 ·intro e;split<;> (try split)<;>omega
abbrev bnd (x0 x1 x2 x3 x4 x5 x6 x7:Int) (c d:Bool):Value:=Z9 #[ZE Z7 x0,ZE Z7 x1,ZE Z7 x2,ZE Z7 x3,ZE Z7 x4,ZE Z7 x5,ZE Z7 x6,ZE Z7 x7,ZB c,ZB d]
def right (x0 x1 x2 x3 x4 x5 x6 x7:Int):Bool:=
 inside x0 64 4096&&(inside x1 4 100&&(inside x2 256 65536&&(inside x3 16 1048576&&(inside x4 0 256&&(inside x5 0 100&&(inside x6 1 16&&inside x7 1 1000))))))
structure At (w:World) (g:Nat) (x0 x1 x2 x3 x4 x5 x6 x7:Int) (c d:Bool):Prop where
 q0:w.cell? ⟨g,0,none⟩=some (ZE Z7 x0)
 q1:w.cell? ⟨g,1,none⟩=some (ZE Z7 x1)
 q2:w.cell? ⟨g,2,none⟩=some (ZE Z7 x2)
 q3:w.cell? ⟨g,3,none⟩=some (ZE Z7 x3)
 q4:w.cell? ⟨g,4,none⟩=some (ZE Z7 x4)
 q5:w.cell? ⟨g,5,none⟩=some (ZE Z7 x5)
 q6:w.cell? ⟨g,6,none⟩=some (ZE Z7 x6)
 q7:w.cell? ⟨g,7,none⟩=some (ZE Z7 x7)
 q8:w.cell? ⟨g,8,none⟩=some (ZB c)
 q9:w.cell? ⟨g,9,none⟩=some (ZB d)
section
variable {w w':World} {g:Nat} {x0 x1 x2 x3 x4 x5 x6 x7:Int} {c d:Bool}
theorem At.below (h:At w g x0 x1 x2 x3 x4 x5 x6 x7 c d) (hg:g<w.heap.size) (hb:Below w.heap.size w w'):At w' g x0 x1 x2 x3 x4 x5 x6 x7 c d:=
 ⟨(hb.cell (p:=⟨g,0,none⟩) hg).trans h.q0,(hb.cell (p:=⟨g,1,none⟩) hg).trans h.q1,(hb.cell (p:=⟨g,2,none⟩) hg).trans h.q2,(hb.cell (p:=⟨g,3,none⟩) hg).trans h.q3,(hb.cell (p:=⟨g,4,none⟩) hg).trans h.q4,
  (hb.cell (p:=⟨g,5,none⟩) hg).trans h.q5,(hb.cell (p:=⟨g,6,none⟩) hg).trans h.q6,(hb.cell (p:=⟨g,7,none⟩) hg).trans h.q7,(hb.cell (p:=⟨g,8,none⟩) hg).trans h.q8,(hb.cell (p:=⟨g,9,none⟩) hg).trans h.q9⟩
theorem At.new (w:World) (t:TypeId) (x0 x1 x2 x3 x4 x5 x6 x7:Int) (c d:Bool):At (w.alloc (.cells #[ZE Z7 x0,ZE Z7 x1,ZE Z7 x2,ZE Z7 x3,ZE Z7 x4,ZE Z7 x5,ZE Z7 x6,ZE Z7 x7,ZB c,ZB d] t)) w.heap.size x0 x1 x2 x3 x4 x5 x6 x7 c d:=by
 have h:∀k v,(#[Value.int .i64 x0,ZE Z7 x1,ZE Z7 x2,ZE Z7 x3,ZE Z7 x4,ZE Z7 x5,ZE Z7 x6,ZE Z7 x7,ZB c,ZB d]:Array Value)[k]?=some v->(w.alloc (.cells #[ZE Z7 x0,ZE Z7 x1,ZE Z7 x2,ZE Z7 x3,ZE Z7 x4,ZE Z7 x5,ZE Z7 x6,ZE Z7 x7,ZB c,ZB d] t)).cell? ⟨w.heap.size,k,none⟩=some v:=
  λk v h=>(cell_of_row (w.alloc _) w.heap.size k _ t (0,0) (heap_alloc_new w _)).trans h
 exact ⟨h 0 _ rfl,h 1 _ rfl,h 2 _ rfl,h 3 _ rfl,h 4 _ rfl,h 5 _ rfl,h 6 _ rfl,h 7 _ rfl,h 8 _ rfl,h 9 _ rfl⟩
end
section
theorem between_any (lo n hi:Int) (w:World):Calls Mm 152 #[ZE Z7 lo,ZE Z7 n,ZE Z7 hi] w λe w'=>e=.returned (ZE Z7 (mid lo n hi))/\w'=w:=by
 go_enter Tryz.func152,Tryz.ntmps152;go_wp2;all_goals
  go_ret;exact ⟨ret_int (by unfold mid;(repeat' split)<;>omega),rfl⟩
theorem rwithin_any (n lo hi:Int) (w:World):Calls Mm 87 #[ZE Z7 n,ZE Z7 lo,ZE Z7 hi] w λe w'=>e=.returned (ZB (inside n lo hi))/\w'=w:=by
 rcases Int.lt_or_le n lo with h | h
 ·go_enter Tryz.func87,Tryz.ntmps87;go_wp2;go_ret;exact ⟨ret_bool (by simp only [inside,ZL (Int.not_le.2 h),AS]),rfl⟩
 ·go_enter Tryz.func87,Tryz.ntmps87;go_wp2;go_ret;exact ⟨ret_bool (by simp only [inside,ZK h,Bg]),rfl⟩
theorem rusual_any (w:World):Calls Mm 47 #[] w λe w'=>e=.returned (bnd 1024 32 8192 65536 32 8 4 20 true true)/\Below w.heap.size w w':=by go_enter Tryz.func47,Tryz.ntmps47;go_wp2;exact bodyPost_ret (v:=bnd _ _ _ _ _ _ _ _ _ _) (by simp [results,Tryz.results47,go_sem]) rfl ⟨rfl,(AE _ _).alloc (Gi _) _⟩
theorem rwide_any (w:World):Calls Mm 41 #[] w λe w'=>e=.returned (bnd 4096 100 65536 1048576 256 100 16 1000 true true)/\Below w.heap.size w w':=by go_enter Tryz.func41,Tryz.ntmps41;go_wp2;exact bodyPost_ret (v:=bnd _ _ _ _ _ _ _ _ _ _) (by simp [results,Tryz.results41,go_sem]) rfl ⟨rfl,(AE _ _).alloc (Gi _) _⟩
theorem within_any (x0 x1 x2 x3 x4 x5 x6 x7:Int) (c d:Bool) (w:World):Calls Mm 111 #[bnd x0 x1 x2 x3 x4 x5 x6 x7 c d] w
 λe w'=>e=.returned (bnd (mid 64 x0 4096) (mid 4 x1 100) (mid 256 x2 65536) (mid 16 x3 1048576) (mid 0 x4 256) (mid 0 x5 100) (mid 1 x6 16) (mid 1 x7 1000) c d)/\Below w.heap.size w w':=by
 go_enter Tryz.func111,Tryz.ntmps111;go_wp2_with (go_at_call 152;with_reducible refine Cm (between_any _ _ _ _) ?_);exact ZF (v:=bnd _ _ _ _ _ _ _ _ _ _) (by simp [results,Tryz.results111,go_sem]) rfl ⟨rfl,((AE _ _).alloc (Gi _) _).alloc ZW _⟩
theorem right_any (x0 x1 x2 x3 x4 x5 x6 x7:Int) (c d:Bool) (w:World):Calls Mm 67 #[bnd x0 x1 x2 x3 x4 x5 x6 x7 c d] w
 λe w'=>e=.returned (ZB (right x0 x1 x2 x3 x4 x5 x6 x7))/\Below w.heap.size w w':=by
 go_enter Tryz.func67,Tryz.ntmps67;go_wp2_with fail;have hc:=At.new w 29 x0 x1 x2 x3 x4 x5 x6 x7 c d;have hW:Below w.heap.size w (w.alloc (.cells #[ZE Z7 x0,ZE Z7 x1,ZE Z7 x2,ZE Z7 x3,ZE Z7 x4,ZE Z7 x5,ZE Z7 x6,ZE Z7 x7,ZB c,ZB d] 29)):=(AE _ _).alloc (Gi _) _;have hgg:w.heap.size<(w.alloc (.cells #[ZE Z7 x0,ZE Z7 x1,ZE Z7 x2,ZE Z7 x3,ZE Z7 x4,ZE Z7 x5,ZE Z7 x6,ZE Z7 x7,ZB c,ZB d] 29)).heap.size:=ZW;generalize w.alloc (.cells #[ZE Z7 x0,ZE Z7 x1,ZE Z7 x2,ZE Z7 x3,ZE Z7 x4,ZE Z7 x5,ZE Z7 x6,ZE Z7 x7,ZB c,ZB d] 29)=W at *;generalize hgw:w.heap.size=g at *;refine Sched.region [(0,false),(1,false),(2,true),(3,false),(4,false)] (λw'=>Below W.heap.size W w') ZY ZY (λ_ _ d _ _ h=>by cases d<;>exact h) (Az (AE _ _) 1) ?_;simp only [Sched.picked,List.filterMap_cons,List.filterMap_nil,Er,Ep,GY]
 iterate 2
  refine IC ZV ?_ ?_ ?_
  rotate_left 1
  ·intro w' hS;obtain ⟨q0,q1,q2,q3,q4,q5,q6,q7,q8,q9⟩:=hc.below hgg hS;clear hS;go_simp;with_reducible rfl
  simp only [Ab,F4,F7,F6]
 refine I9 ZV (λK hK=>?_);go_simp;with_reducible refine (within_any _ _ _ _ _ _ _ _ _ _ _).mono ?_
 rintro e w1 ⟨rfl,hb⟩;dsimp only;have hb1:Below W.heap.size W w1:=(Az (AE _ _) 1).trans hb;refine hK _ _ hb1 ?_;clear hK K;refine IC ZV (ZB (right x0 x1 x2 x3 x4 x5 x6 x7)) ?_ ?_
 ·intro w' hS;go_simp;simp only [mid_iff 64 x0 4096 ZX,mid_iff 4 x1 100 ZX,mid_iff 256 x2 65536 ZX,mid_iff 16 x3 1048576 ZX,mid_iff 0 x4 256 ZX,mid_iff 0 x5 100 ZX,mid_iff 1 x6 16 ZX,mid_iff 1 x7 1000 ZX];unfold right;cases inside x0 64 4096;·rfl
  cases inside x1 4 100;·rfl
  cases inside x2 256 65536;·rfl
  cases inside x3 16 1048576;·rfl
  cases inside x4 0 256;·rfl
  cases inside x5 0 100;·rfl
  cases inside x6 1 16;·rfl
  cases inside x7 1 1000<;>rfl
 simp only [Ab,F4,F7,F6];refine Sched.assign _ ZV ZV ?_;simp only [Ab,Aa,Am,E6,Er,Ep,GW,F4,F7,F6];refine Sched.done ?_;go_wp2;go_ret;subst hgw;exact ⟨rfl,hW.trans (Below.mono hb1 hW.size)⟩
attribute [local go_sem] A8
theorem rright_any (x0 x1 x2 x3 x4 x5 x6 x7:Int) (c d:Bool) (w:World):Calls Mm 43 #[bnd x0 x1 x2 x3 x4 x5 x6 x7 c d] w
 λe w'=>e=.returned (ZB (right x0 x1 x2 x3 x4 x5 x6 x7))/\Below w.heap.size w w':=by
 have H0:=Dl (rwithin_any x0 64 4096);have H1:=Dl (rwithin_any x1 4 100);have H2:=Dl (rwithin_any x2 256 65536);have H3:=Dl (rwithin_any x3 16 1048576);have H4:=Dl (rwithin_any x4 0 256);have H5:=Dl (rwithin_any x5 0 100);have H6:=Dl (rwithin_any x6 1 16);have H7:=Dl (rwithin_any x7 1 1000);unfold right;generalize inside x0 64 4096=b0 at *;generalize inside x1 4 100=b1 at *;generalize inside x2 256 65536=b2 at *;generalize inside x3 16 1048576=b3 at *;generalize inside x4 0 256=b4 at *;generalize inside x5 0 100=b5 at *;generalize inside x6 1 16=b6 at *;generalize inside x7 1 1000=b7 at *;cases b0;rotate_left 1;cases b1;rotate_left 1;cases b2;rotate_left 1;cases b3;rotate_left 1;cases b4;rotate_left 1;cases b5;rotate_left 1;cases b6;all_goals
  go_enter Tryz.func43,Tryz.ntmps43
  go_wp2_with (go_at_call 87;first
   |(with_reducible refine Cm (H0.out _) ?_)
   |(with_reducible refine Cm (H1.out _) ?_)
   |(with_reducible refine Cm (H2.out _) ?_)
   |(with_reducible refine Cm (H3.out _) ?_)
   |(with_reducible refine Cm (H4.out _) ?_)
   |(with_reducible refine Cm (H5.out _) ?_)
   |(with_reducible refine Cm (H6.out _) ?_)
   |(with_reducible refine Cm (H7.out _) ?_))
  go_ret;exact ⟨rfl,(AE _ _).alloc (Gi _) _⟩
end
end Bnd
namespace Qk
open Base
def known (c:Int):Bool:=decide (0<=c)&&decide (c<30)
def bitOf (c:Int):Nat:=if known c then 2^c.toNat else 0
def has (p:Nat) (c:Int):Bool:=known c&&p.testBit c.toNat
def ofL (zs:List Int):Nat:=zs.foldl (λp c=>p ||| bitOf c) 0
def upTo (p n:Nat):List Int:=((Fy n).filter λc=>p.testBit c).map λc:Nat=>(c:Int)
def names:List (List UInt8):=
 [[101,109,112,116,121],
  [98,97,114,101,108,102],
  [98,97,114,101,99,114],
  [98,108,97,110,107,115],
  [109,105,110,111,114],
  [97,110,121,99,97,115,101],
  [110,111,118,101,114,115,105,111,110],
  [115,112,97,99,101,115],
  [99,111,110,116,114,111,108,115],
  [99,111,108,111,110,115,112,97,99,101],
  [110,97,109,101,98,121,116,101,115],
  [110,111,99,111,108,111,110],
  [110,111,110,97,109,101],
  [102,111,108,100],
  [118,97,108,117,101,98,121,116,101,115],
  [110,111,104,111,115,116],
  [109,97,110,121,104,111,115,116,115],
  [116,101,98,108,97,110,107,115],
  [116,101,108,105,115,116],
  [116,101,105,103,110,111,114,101],
  [116,101,111,108,100],
  [116,101,119,105,110,115],
  [99,108,119,105,110,115],
  [99,108,112,108,117,115],
  [99,108,99,111,109,109,97],
  [99,108,102,105,114,115,116],
  [99,108,108,97,115,116],
  [99,104,117,110,107,104,101,120],
  [99,104,117,110,107,98,108,97,110,107,115],
  [99,104,117,110,107,101,110,100]]
def nm (k:Nat):ByteArray:=⟨(names[k]?.getD []).toArray⟩
def nameOf (c:Int):ByteArray:=if known c then nm c.toNat else Bp
def findOf (s:ByteArray):Option Nat:=names.findIdx? λn=>n==s.data.toList
def needs (c:Int) (p:Nat) (ch old:Bool):Bool:=
 if c=6 then old else if c=17 then has p 14 else if c=18∨c=21∨c=27∨c=28∨c=29 then ch
 else if c=20 then old&&(ch||has p 19||has p 22 && !has p 21) else if c=22 then !has p 21 else if c=26 then !has p 25 else known c
theorem known_iff (c:Int):known c=true↔0<=c/\c<30:=by simp [known]
theorem bitOf_lt (c:Int):bitOf c<2^30:=by
 unfold bitOf;split
 ·rename_i h;have:=(known_iff c).1 h;exact Nat.pow_lt_pow_right ZX ZZ
 ·decide
theorem and_bitOf (p:Nat) (c:Int):(p &&& bitOf c≠0)↔has p c=true:=by
 unfold bitOf has;by_cases h:known c=true
 ·simp only [h,if_true,Bg];constructor
  ·intro h1;cases hb:p.testBit c.toNat with
   | true=>rfl
   | false=>
     exfalso;apply h1;apply Nat.eq_of_testBit_eq;intro i;rw [Nat.testBit_and,Nat.testBit_two_pow,Nat.zero_testBit];by_cases hi:c.toNat=i
     ·subst hi;simp [hb]
     ·simp [hi]
  ·intro h1 h2;have:=ZH (·.testBit c.toNat) h2;simp [Nat.testBit_and,h1] at this
 ·simp [h]
end Qk
namespace Qk
open Base
theorem shl_one (c:Int) (h0:0<=c) (h1:c<30):(2:Int)^c.toNat%4294967296=((2^c.toNat:Nat):Int):=by
 have h:(2:Nat)^c.toNat<2^30:=Nat.pow_lt_pow_right ZX ZZ;have h2:(((2:Nat)^c.toNat:Nat):Int)=(2:Int)^c.toNat:=by rw [Int.natCast_pow];rfl
 rw [←h2];clear h2;generalize (2:Nat)^c.toNat=q at *;omega
theorem shr_bit (p:Nat) (hp:p<4294967296) (n:Nat):(bits BinOp.and IntKind.u32 ((p:Int)/2^n) 1==1)=true↔p.testBit n=true:=by
 have h:((p:Int)/2^n)=((p/2^n:Nat):Int):=by rw [Int.natCast_ediv,Int.natCast_pow];rfl
 have h1:p/2^n<4294967296:=Nat.lt_of_le_of_lt (Nat.div_le_self _ _) hp;rw [h,show (1:Int)=((1:Nat):Int) from rfl,u32_and_nat _ 1 h1 ZX,Nat.testBit_eq_decide_div_mod_eq,Nat.and_one_is_mod,ZI,ZJ];omega
section
theorem known_any (c:Int) (w:World):Calls Mm 128 #[ZE Z7 c] w λe w'=>e=.returned (ZB (known c))/\w'=w:=by
 rcases Int.lt_or_le c 0 with h | h
 ·go_enter Tryz.func128,Tryz.ntmps128;go_wp2;go_ret;exact ⟨ret_bool (by simp [known];omega),rfl⟩
 ·go_enter Tryz.func128,Tryz.ntmps128;go_wp2;go_ret;exact ⟨ret_bool (by simp [known];omega),rfl⟩
theorem XXFUW {P:Prop} (h:P:=by
 go_enter Tryz.func125,Tryz.ntmps125;go_wp2_with (go_at_call 128;with_reducible refine Cm (H.out _) ?_);go_ret;first
  |exact ⟨ret_int (by (simp [bitOf,hk]);first|done|fail),rfl⟩
  |exact ⟨ret_int (by (simp only [bitOf,hk,if_true];exact shl_one c h0 h1);first|done|fail),rfl⟩):P:=h
theorem bit_any (c:Int) (w:World):Calls Mm 125 #[ZE Z7 c] w λe w'=>e=.returned (ZE Z5 (bitOf c:Nat))/\w'=w:=by
 have H:=Dl (known_any c);have K:=Dl (known_iff c);generalize hk:known c=k at *;cases k
 ·exact XXFUW
 ·obtain ⟨h0,h1⟩:=K.out.1 rfl;exact XXFUW
theorem has_any (p:Nat) (hp:p<4294967296) (c:Int) (w:World):Calls Mm 84 #[ZE Z5 p,ZE Z7 c] w λe w'=>e=.returned (ZB (has p c))/\w'=w:=by
 have H:=Dl (bit_any c);have K:=Dl (and_bitOf p c);have hb:=bitOf_lt c;generalize bitOf c=q at *;go_enter Tryz.func84,Tryz.ntmps84;go_wp2_with (go_at_call 125;with_reducible refine Cm (H.out _) ?_);go_ret;exact ⟨ret_bool (by rw [u32_and_nat p q hp ZZ,←K.out];simp),rfl⟩
theorem rhas_any (p:Nat) (hp:p<4294967296) (c:Int) (w:World):Calls Mm 44 #[ZE Z5 p,ZE Z7 c] w λe w'=>e=.returned (ZB (has p c))/\w'=w:=by
 have K:=Dl (known_iff c);rcases Int.lt_or_le c 0 with h | h
 ·go_enter Tryz.func44,Tryz.ntmps44;go_wp2;go_ret;exact ⟨ret_bool (by simp [has,known];omega),rfl⟩
 ·rcases Int.lt_or_le c 30 with h3 | h3
  ·go_enter Tryz.func44,Tryz.ntmps44;go_wp2;go_ret;exact ⟨ret_bool ((shr_bit p hp c.toNat).trans (by simp [has,known,h,h3])),rfl⟩
  ·go_enter Tryz.func44,Tryz.ntmps44;go_wp2;go_ret;exact ⟨ret_bool (by simp [has,known];omega),rfl⟩
theorem right_any (p:Nat) (hp:p<4294967296) (w:World):Calls Mm 66 #[ZE Z5 p] w λe w'=>e=.returned (ZB (decide (p<1073741824)))/\w'=w:=by go_enter Tryz.func66,Tryz.ntmps66;go_wp2;go_ret;exact ⟨ret_bool (by rw [beq_iff_eq,decide_eq_true_eq];omega),rfl⟩
theorem rright_any (p:Nat) (hp:p<4294967296) (w:World):Calls Mm 69 #[ZE Z5 p] w λe w'=>e=.returned (ZB (decide (p<1073741824)))/\w'=w:=by go_enter Tryz.func69,Tryz.ntmps69;go_wp2;go_ret;exact ⟨ret_bool (by rw [decide_eq_true_eq,decide_eq_true_eq];omega),rfl⟩
abbrev NamesAt (w:World) (g:Nat):Prop:=g<w.heap.size/\∀k,k<30->w.cell? ⟨g,k,none⟩=some (ZD (nm k))
attribute [local go_sem] A8
end
end Qk
end Go.Proofs.YtdfabddnpgjepaaGreatDoor
