import Derived.Test.YtimoakmcelocfaaGreatProg
import Derived.WalkKit
import Derived.WalkSpells
import Derived.WalkLawsBesides
import Derived.Lib.Hide
import Derived.Deep.Draws
import Derived.OrdersHeld
import Derived.Deep.RegionHeld
import Derived.BigRegion
import Derived.Maps.AppendAt
import Derived.Laws.Append
import Derived.Lib.Strings
import Derived.LaidLaws
import Derived.OpenShut
import Derived.ChangeArms
import Derived.ChangeKeysEq
import Derived.Test.YtimoakmcelocfaaGreatRows
import Derived.ProofKit
import Derived.ShutString
import Derived.ChangeOld
import Derived.Below
import Derived.SizedLaws
import Derived.Laws.BitsAllLaws
import Derived.Laws.ShiftsVarLaws
import Derived.ChangeSame
import Derived.Lib.Split
import Derived.Lib.SplitLaws
import Derived.Lib.IndexBytes
import Derived.Deep.AppendLies
import Derived.Laws.IdiomStrings
import Derived.Laws.BytesString
import Derived.Shelf.Strings.Builder1
import Derived.Shelf.Strings.BuilderF
import Derived.Shelf.Strings.BuilderK
import Derived.Shelf.Strings.BuilderCap
import Derived.Deep.QuietTactic
import Derived.BigQuiet
import Derived.Lib.Bytealg
import Derived.Lib.TrimByte
import Derived.WalkMore
import Derived.Lib.CutLaws
import Derived.Lib.AppendStr
import Derived.Laws.OwnMore
import Derived.Shelf.Abstract
import Derived.Shelf.Strings.Split
import Derived.Lib.IndexAny
import Derived.Lib.QuoteLoop
import Derived.Lib.RuneCount
import Derived.Laws.RangeAny
import Derived.Laws.Runes
import Derived.Deep.LoopGhost
import Derived.Deep.CutBlock
import Derived.Deep.DeepCutAuto
import Derived.Lib.FieldsP
import Derived.Lib.SlicesS
import Derived.Deep.RegionWith
import Derived.Deep.CutRange
import Derived.Laws.BytesArg
import Derived.Shelf.Bytes.SlSmallAll
import Derived.OneCell
import Derived.RegionTactic
import Derived.Lib.FrozenHead
import Derived.Lib.Builder
import Derived.Laws.Tables
import Derived.Laws.Rows
import Derived.Laws.CopyOwn
import Derived.Great.Walk
import Derived.LoopN
import Derived.Lib.UnsafeStr
theorem Go.Proofs.YtimoakmcelocfaaGreat.qA.{u} {α:Type u} {xs:Array α} {i:Nat} {d:α}:xs.getD i d=xs[i]?.getD d:=Array.getD_eq_getD_getElem?
theorem Go.Proofs.YtimoakmcelocfaaGreat.qT.{u} {α:Type u} (l:List α) {i:Nat}:l.toArray[i]?=l[i]?:=List.getElem?_toArray
theorem Go.Proofs.YtimoakmcelocfaaGreat.qS.{u} {α:Type u} {a:α} {l:List α} {i:Nat}:(a::l)[i+1]?=l[i]?:=List.getElem?_cons_succ
theorem Go.Proofs.YtimoakmcelocfaaGreat.qZ.{u} {α:Type u} {a:α} {l:List α}:(a::l)[0]?=some a:=List.getElem?_cons_zero
theorem Go.Proofs.YtimoakmcelocfaaGreat.qO.{u} {α:Type u} {a b:α}:(some a).getD b=a:=Option.getD_some
theorem Go.Proofs.YtimoakmcelocfaaGreat.qI.{u} {α:Type u} {l:List α} {i:Nat} {a:α}:l.toArray.setIfInBounds i a=(l.set i a).toArray:=List.setIfInBounds_toArray ..
theorem Go.Proofs.YtimoakmcelocfaaGreat.qY.{u} {α:Type u} {x:α} {xs:List α} {a:α}:(x::xs).set 0 a=a::xs:=List.set_cons_zero
theorem Go.Proofs.YtimoakmcelocfaaGreat.qX.{u} {α:Type u} {x:α} {xs:List α} {n:Nat} {a:α}:(x::xs).set (n+1) a=x::xs.set n a:=List.set_cons_succ
namespace Go.Proofs.YtimoakmcelocfaaGreat.Base
open Go.RowKit
def Ints (w:World) (a:Option Addr) (n:Nat) (zs:List Int):Prop:=
 zs.length=n∧(0<n→∃b off,a=some ⟨b,off,none⟩∧b<w.heap.size∧∀k,k<n→w.cell? ⟨b,off+k,none⟩=some (.int .i64 (zs[k]?.getD 0)))
theorem Ints.nil (w:World) (a:Option Addr):Ints w a 0 []:=⟨rfl,fun h=>absurd h (by omega)⟩
theorem Ints.below {w w':World} {a:Option Addr} {n:Nat} {zs:List Int} (h:Ints w a n zs) (hb:Below w.heap.size w w'):Ints w' a n zs:=by refine ⟨h.1,fun hn=>?_⟩;obtain ⟨b,off,e,hlt,hc⟩:=h.2 hn;exact ⟨b,off,e,Nat.lt_of_lt_of_le hlt hb.size,fun k hk=>(hb.cell (p:=⟨b,off+k,none⟩) hlt).trans (hc k hk)⟩
theorem Ints.new (w:World) (cs:Array Value) (t:TypeId) (zs:List Int) (n:Nat) (hn:zs.length=n) (h:∀k,k<n→cs[k]?=some (.int .i64 (zs[k]?.getD 0))) :
 Ints (w.alloc (.cells cs t)) (some ⟨w.heap.size,0,none⟩) n zs:=by
 refine ⟨hn,fun _=>⟨w.heap.size,0,rfl,by simp,fun k hk=>?_⟩⟩;rw [Nat.zero_add]
 exact (cell_of_row (w.alloc (.cells cs t)) w.heap.size k cs t (0,0) (heap_alloc_new w _)).trans (h k hk)
theorem Ints.one (w:World) (g:Nat) (hg:g=w.heap.size) (x:Int) (t:TypeId):Ints (w.alloc (.cells #[.int .i64 x] t)) (some ⟨g,0,none⟩) 1 [x]:=by
 subst hg;refine Ints.new w _ t [x] 1 rfl ?_;intro k hk;obtain rfl:k=0:=by omega
 rfl
theorem Ints.two (w:World) (g:Nat) (hg:g=w.heap.size) (x y:Int) (t:TypeId):Ints (w.alloc (.cells #[.int .i64 x,.int .i64 y] t)) (some ⟨g,0,none⟩) 2 [x,y]:=by subst hg;refine Ints.new w _ t [x,y] 2 rfl ?_;intro k hk;rcases (by omega:k=0∨k=1) with rfl | rfl<;>rfl
theorem Ints.of_own {w:World} {base:Nat} {e:TypeId} {v:Value} {n:Nat} {zs:List Int} (h:w.ownsRow base e 1 v n (zs.map (Value.int .i64))):∃A c,v=.slice A n c∧Ints w A n zs:=by
 have hl:zs.length=n:=by simpa using h.1
 rcases h.2 with ⟨rfl,rfl⟩ | ⟨g,cap,cur,rfl,_,hh,_,_,_,ht⟩
 ·exact ⟨none,0,rfl,hl,fun h=>absurd h (by omega)⟩
 ·refine ⟨_,_,rfl,hl,fun _=>⟨g,0,rfl,?_,fun k hk=>?_⟩⟩
  ·rcases Nat.lt_or_ge g w.heap.size with hlt | hge
   ·exact hlt
   ·rw [Array.getElem?_eq_none hge] at hh;cases hh
  ·rw [Nat.zero_add,cell_of_row w g k cur e (0,0) hh];have h1:(zs.map (Value.int .i64))[k]?=some (.int .i64 (zs[k]?.getD 0)):=by
    rw [List.getElem?_map,List.getElem?_eq_getElem (by omega)];rfl
   rw [←ht,List.getElem?_take_of_lt (by omega)] at h1;simpa using h1
theorem own_base {w:World} {base:Nat} {e:TypeId} {size:Nat} {v:Value} {n:Nat} {xs:List Value} (h:w.ownsRow base e size v n xs) (g:Nat) (hg:v.ownBlock=some g):base≤g:=by
 rcases h.2 with ⟨rfl,_⟩ | ⟨g',_,_,rfl,hb,_⟩
 ·simp [Value.ownBlock] at hg
 ·simp [Value.ownBlock] at hg;omega
theorem news_one (w:World) (v:Value) (t:TypeId):∀(j:Nat) (u:Value),[v][j]?=some u→(w.alloc (.cells #[v] t)).cell? (Addr.add ⟨w.heap.size,0,none⟩ j)=some u:=by
 intro j u hu;have hj:j=0:=by
  rcases Nat.eq_zero_or_pos j with h | h
  ·exact h
  ·rw [List.getElem?_eq_none (by simp;omega)] at hu;cases hu
 subst hj;have:v=u:=by simpa using hu
 subst this
 exact (cell_of_row (w.alloc (.cells #[v] t)) w.heap.size 0 #[v] t (0,0) (heap_alloc_new w _))
theorem some_undef:(some undef:Option Value)=some (.tuple #[]):=rfl
theorem below_drewN {B:Nat} {a w:World} (h:Below B a w) (n:Nat):Below B a (w.drewN n):=⟨h.os,h.tape,h.output,h.size,h.block⟩
theorem ret_bool {a b:Bool} (h:a=true↔b=true):Ending.returned (.bool a)=.returned (.bool b):=by rw [Bool.eq_iff_iff.2 h]
theorem ret_int {k:IntKind} {a b:Int} (h:a=b):Ending.returned (.int k a)=.returned (.int k b):=by rw [h]
theorem take_snoc (s:ByteArray) (k:Nat) (h:k<s.size):s.data.toList.take (k+1)=s.data.toList.take k ++ [s[k]]:=by rw [List.take_succ_eq_append_getElem (by simpa using h)];rfl
theorem take_all (s:ByteArray) (k:Nat) (h:s.size≤k):s.data.toList.take k=s.data.toList:=List.take_of_length_le (by simpa using h)
theorem byte_lt (b:UInt8):(b.toNat:Int)≤255:=by have:=b.toNat_lt;omega
theorem byte_mem (s:ByteArray) (k:Nat) (h:k<s.size):s[k]∈s.data.toList:=by
 have:=take_snoc s k h
 exact List.mem_of_mem_take (i:=k+1) (by rw [this];simp)
theorem ints_snoc (zs:List Int) (k:Nat) (h:k<zs.length):zs.take (k+1)=zs.take k ++ [zs[k]?.getD 0]:=by rw [List.take_succ_eq_append_getElem h,List.getElem?_eq_getElem h];rfl
theorem below_step {a b c:World} (h1:Below a.heap.size a b) (h2:Below b.heap.size b c):Below a.heap.size a c:=h1.trans (h2.mono h1.size)
def Nums (kd:IntKind) (w:World) (a:Option Addr) (n:Nat) (zs:List Int):Prop:=
 zs.length=n∧(0<n→∃b off,a=some ⟨b,off,none⟩∧b<w.heap.size∧∀k,k<n→w.cell? ⟨b,off+k,none⟩=some (.int kd (zs[k]?.getD 0)))
theorem Nums.nil (kd:IntKind) (w:World) (a:Option Addr):Nums kd w a 0 []:=⟨rfl,fun h=>absurd h (by omega)⟩
theorem Nums.below {kd:IntKind} {w w':World} {a:Option Addr} {n:Nat} {zs:List Int} (h:Nums kd w a n zs) (hb:Below w.heap.size w w'):Nums kd w' a n zs:=by refine ⟨h.1,fun hn=>?_⟩;obtain ⟨b,off,e,hlt,hc⟩:=h.2 hn;exact ⟨b,off,e,Nat.lt_of_lt_of_le hlt hb.size,fun k hk=>(hb.cell (p:=⟨b,off+k,none⟩) hlt).trans (hc k hk)⟩
theorem wrap_in (x:Int) (h0: -9223372036854775808≤x) (h1:x≤9223372036854775807):IntKind.i64.wrap x=x:=by rw [IntKind.wrap_i64];omega
end Go.Proofs.YtimoakmcelocfaaGreat.Base
namespace Go.Proofs.YtimoakmcelocfaaGreat.Sched
open Go.RowKit
def fits (ops:Array Oper):List (Nat × Bool)→Array Bool→Bool
 | [],listed=>(Region.ready .any ops listed).isEmpty
 |(k,act)::ks,listed=>(if act then Region.ready .any ops listed == [k] else (Region.ready .any ops listed).contains k&&Region.free .any ops listed k)&&fits ops ks (listed.setIfInBounds k true)
def walk (P:Program) (ops:Array Oper) (Q:Exit→Act→World→Prop) (S:World→Prop):List (Bool × Oper)→Act→World→Prop
 | [],a,w=>Q .normal a w
 |(act,o)::rest,a,w=>
  if Region.wanted o (yielded ops a.tmps)=true then
   (if act=true then o.wp P a w (fun a' w'=>S w'∧walk P ops Q S rest a' w') Q
    else∃v,(∀w',S w'→(execOp a.eval o).run P w'=.ok (.value v) w')∧walk P ops Q S rest (a.put o.dst v) w)
  else walk P ops Q S rest (a.put o.dst undef) w
def picked (l:List Oper) (ks:List (Nat × Bool)):List (Bool × Oper):=ks.filterMap fun k=>(l[k.1]?).map fun o=>(k.2,o)
section
variable {P:Program} {l:List Oper} {Q:Exit→Act→World→Prop} {S:World→Prop}
theorem held_of_walk (hs:Region.noSelect l.toArray=true) (hQ:∀c a d v w,Q (.panic c) (Act.put a d v) w→Q (.panic c) a w):∀(ks:List (Nat × Bool)) (listed:Array Bool) (a:Act) (w:World),
 (∀k∈ks,k.1<l.length)→fits l.toArray ks listed=true→S w→walk P l.toArray Q S (picked l ks) a w→wpAnyH P .any l.toArray Q S ks.length listed a w
 | [],listed,a,w,_,hf,_,h=>wpAnyH_done (by simpa [fits] using hf) (by simpa [walk,picked] using h) _
 |(k,act)::ks,listed,a,w,hb,hf,hS,h=>by
  have hk:k<l.length:=hb (k,act) (by simp)
  have hb':∀x∈ks,x.1<l.length:=fun x hx=>hb x (by simp [hx]);have ho:l.toArray[k]?=some l[k]:=by simp [hk]
  have hp:picked l ((k,act)::ks)=(act,l[k])::picked l ks:=by simp [picked,hk]
  rw [hp] at h;simp only [fits,Bool.and_eq_true] at hf;obtain ⟨h1,h2⟩:=hf;simp only [walk] at h;cases act with
  | true=>
    simp only [if_true] at h h1;have hr:Region.ready .any l.toArray listed= [k]:=by simpa using h1
    refine wpAnyH_all hr (by simp) ?_;intro i hi;obtain rfl:i=k:=by simpa using hi
    unfold wpOp;simp only [ho];by_cases hw:Region.wanted l[i] (yielded l.toArray a.tmps)=true
    ·simp only [hw,if_true] at h ⊢
     exact .inl (Oper.wp_mono (fun a' w' h'=>⟨h'.1,held_of_walk hs hQ ks _ a' w' hb' h2 h'.1 h'.2⟩) h)
    ·simp only [hw] at h ⊢;exact ⟨hS,held_of_walk hs hQ ks _ _ _ hb' h2 hS h⟩
  | false=>
    simp only [Bool.false_eq_true,if_false,Bool.and_eq_true] at h h1;by_cases hw:Region.wanted l[k] (yielded l.toArray a.tmps)=true
    ·simp only [hw,if_true] at h;obtain ⟨v,hv,h⟩:=h
     exact wpAnyH_take ho hs h1.2 h1.1 (fun c a w=>hQ c a _ _ w) (.inl ⟨hw,hv⟩) hS (held_of_walk hs hQ ks _ _ _ hb' h2 hS h)
    ·simp only [hw] at h
     exact wpAnyH_take ho hs h1.2 h1.1 (fun c a w=>hQ c a _ _ w) (.inr ⟨by simpa using hw,rfl⟩) hS (held_of_walk hs hQ ks _ _ _ hb' h2 hS h)
def good (l:List Oper) (ks:List (Nat × Bool)):Bool:=Region.noSelect l.toArray&&(decide (ks.length=l.length)&&(ks.all (fun k=>decide (k.1<l.length))&&fits l.toArray ks (Array.replicate l.length false)))
structure Step (P:Program) (ops:Array Oper) (Q:Exit→Act→World→Prop) (S:World→Prop) (l:List (Bool × Oper)) (a:Act) (w:World):Prop where
 out:walk P ops Q S l a w
theorem region (ks:List (Nat × Bool)) {id:Nat} {a:Act} {w:World} (S:World→Prop) (hm:P.follows .mixedOrders=true) (hg:good l ks=true)
 (hQ:∀c a d v w,Q (.panic c) (Act.put a d v) w→Q (.panic c) a w) (hS:S (w.drewN 1)) (h:Step P l.toArray Q S (picked l ks) a (w.drewN 1)):(Code.region id l.toArray true).wp P Q a w:=by
 simp only [good,Bool.and_eq_true,List.all_eq_true,decide_eq_true_eq] at hg;obtain ⟨g0,g1,g2,g3⟩:=hg;refine wp_region_held (S:=S) hm ?_;have:=held_of_walk g0 hQ ks _ a _ g2 g3 hS h.out;rw [g1] at this;simpa [World.drewN] using this
variable {ops:Array Oper} {o:Oper} {rest:List (Bool × Oper)} {a:Act} {w:World} {act:Bool}
theorem skip (hw:Region.wanted o (yielded ops a.tmps)=false) (h:Step P ops Q S rest (a.put o.dst undef) w):Step P ops Q S ((act,o)::rest) a w:=
 ⟨by simp only [walk,hw,Bool.false_eq_true,if_false];exact h.out⟩
theorem quiet (hw:Region.wanted o (yielded ops a.tmps)=true) (v:Value) (hv:∀w',S w'→(execOp a.eval o).run P w'=.ok (.value v) w') (h:Step P ops Q S rest (a.put o.dst v) w):Step P ops Q S ((false,o)::rest) a w:=
 ⟨by simp only [walk,hw,if_true,Bool.false_eq_true,if_false];exact ⟨v,hv,h.out⟩⟩
theorem move (x:Operand) (hop:o.op=.move x) (hw:Region.wanted o (yielded ops a.tmps)=true) (h:Step P ops Q S rest (a.put o.dst (a.eval x)) w):Step P ops Q S ((false,o)::rest) a w:=
 quiet hw _ (fun w' _=>BigFrame.run_move x hop w') h
theorem assign (x:Operand) (hop:o.op=.assign x) (hw:Region.wanted o (yielded ops a.tmps)=true) (h:Step P ops Q S rest (a.put o.dst (a.eval x)) w):Step P ops Q S ((false,o)::rest) a w:=
 quiet hw _ (fun w' _=>BigFrame.run_assign x hop w') h
theorem change (hw:Region.wanted o (yielded ops a.tmps)=true) (h:∀K:Act→World→Prop,(∀a' w',S w'→Step P ops Q S rest a' w'→K a' w')→o.wp P a w K Q):Step P ops Q S ((true,o)::rest) a w:=by refine ⟨?_⟩;simp only [walk,hw,if_true];exact h _ fun a' w' h1 h2=>⟨h1,h2.out⟩
theorem done (h:Q .normal a w):Step P ops Q S [] a w:=⟨h⟩
end
end Go.Proofs.YtimoakmcelocfaaGreat.Sched
namespace Go.Proofs.YtimoakmcelocfaaGreat.Tree
open Go.RowKit
inductive Plan where
 | done:Plan
 | quiet (k:Nat) (t:Plan):Plan
 | act (k:Nat) (t:Plan):Plan
 | two (k:Nat) (t:Plan) (j:Nat) (s:Plan):Plan
inductive Way where
 | done:Way
 | stuck:Way
 | quiet (o:Oper) (t:Way):Way
 | act (o:Oper) (t:Way):Way
 | two (t:Way) (s:Way):Way
def put1 (f:Oper→Way):Option Oper→Way
 | some o=>f o
 | none=>.stuck
def grow (l:List Oper):Plan→Way
 | .done=>.done
 | .quiet k t=>put1 (fun o=>.quiet o (grow l t)) l[k]?
 | .act k t=>put1 (fun o=>.act o (grow l t)) l[k]?
 | .two k t j s=>.two (put1 (fun o=>.act o (grow l t)) l[k]?) (put1 (fun o=>.act o (grow l s)) l[j]?)
def fits (ops:Array Oper):Plan→Nat→Array Bool→Bool
 | .done,_,listed=>(Region.ready .any ops listed).isEmpty
 | .quiet k t,n+1,listed=>(Region.ready .any ops listed).contains k&&Region.free .any ops listed k&&fits ops t n (listed.setIfInBounds k true)
 | .act k t,n+1,listed=>Region.ready .any ops listed == [k]&&fits ops t n (listed.setIfInBounds k true)
 | .two k t j s,n+1,listed=>Region.ready .any ops listed == [k,j]&&fits ops t n (listed.setIfInBounds k true)&&fits ops s n (listed.setIfInBounds j true)
 | _,0,_=>false
def walk (P:Program) (ops:Array Oper) (Q:Exit→Act→World→Prop) (S:World→Prop):Way→Act→World→Prop
 | .done,a,w=>Q .normal a w
 | .stuck,_,_=>False
 | .quiet o t,a,w=>
   if Region.wanted o (yielded ops a.tmps)=true then∃v,(∀w',S w'→(execOp a.eval o).run P w'=.ok (.value v) w')∧walk P ops Q S t (a.put o.dst v) w
   else walk P ops Q S t (a.put o.dst undef) w
 | .act o t,a,w=>if Region.wanted o (yielded ops a.tmps)=true then o.wp P a w (fun a' w'=>S w'∧walk P ops Q S t a' w') Q else walk P ops Q S t (a.put o.dst undef) w
 | .two t s,a,w=>walk P ops Q S t a w∧walk P ops Q S s a w
section
variable {P:Program} {l:List Oper} {Q:Exit→Act→World→Prop} {S:World→Prop}
theorem step_act {n k:Nat} {listed:Array Bool} {a:Act} {w:World} {t:Plan} (hS:S w)
 (ih:∀(a:Act) (w:World),S w→walk P l.toArray Q S (grow l t) a w→wpAnyH P .any l.toArray Q S n (listed.setIfInBounds k true) a w)
 (h:walk P l.toArray Q S (put1 (fun o=>.act o (grow l t)) l[k]?) a w):wpOp P l.toArray Q k (fun a' w'=>S w'∧wpAnyH P .any l.toArray Q S n (listed.setIfInBounds k true) a' w') a w:=by
 cases hk:l[k]? with
 | none=>rw [hk] at h;exact h.elim
 | some o=>
   rw [hk] at h;have ho:l.toArray[k]?=some o:=by simpa using hk
   unfold wpOp;simp only [ho];simp only [put1,walk] at h;by_cases hw:Region.wanted o (yielded l.toArray a.tmps)=true
   ·simp only [hw,if_true] at h ⊢
    exact .inl (Oper.wp_mono (fun a' w' h'=>⟨h'.1,ih a' w' h'.1 h'.2⟩) h)
   ·simp only [hw] at h ⊢;exact ⟨hS,ih _ _ hS h⟩
theorem held_of_walk (hs:Region.noSelect l.toArray=true) (hQ:∀c a d v w,Q (.panic c) (Act.put a d v) w→Q (.panic c) a w):∀(p:Plan) (n:Nat) (listed:Array Bool) (a:Act) (w:World),
 fits l.toArray p n listed=true→S w→walk P l.toArray Q S (grow l p) a w→wpAnyH P .any l.toArray Q S n listed a w
 | .done,n,listed,a,w,hf,_,h=>wpAnyH_done (by simpa [fits] using hf) (by simpa [walk,grow] using h) _
 | .quiet k t,0,listed,a,w,hf,_,_=>by simp [fits] at hf
 | .act k t,0,listed,a,w,hf,_,_=>by simp [fits] at hf
 | .two k t j s,0,listed,a,w,hf,_,_=>by simp [fits] at hf
 | .quiet k t,n+1,listed,a,w,hf,hS,h=>by
   simp only [fits,Bool.and_eq_true] at hf;obtain ⟨h1,h2⟩:=hf;cases hk:l[k]? with
   | none=>rw [grow,hk] at h;exact h.elim
   | some o=>
     rw [grow,hk] at h;have ho:l.toArray[k]?=some o:=by simpa using hk
     simp only [put1,walk] at h;by_cases hw:Region.wanted o (yielded l.toArray a.tmps)=true
     ·simp only [hw,if_true] at h;obtain ⟨v,hv,h⟩:=h
      exact wpAnyH_take ho hs h1.2 h1.1 (fun c a w=>hQ c a _ _ w) (.inl ⟨hw,hv⟩) hS (held_of_walk hs hQ t n _ _ _ h2 hS h)
     ·simp only [hw] at h
      exact wpAnyH_take ho hs h1.2 h1.1 (fun c a w=>hQ c a _ _ w) (.inr ⟨by simpa using hw,rfl⟩) hS (held_of_walk hs hQ t n _ _ _ h2 hS h)
 | .act k t,n+1,listed,a,w,hf,hS,h=>by
   simp only [fits,Bool.and_eq_true] at hf;obtain ⟨h1,h2⟩:=hf;have hr:Region.ready .any l.toArray listed= [k]:=by simpa using h1
   refine wpAnyH_all hr (by simp) ?_;intro i hi;obtain rfl:i=k:=by simpa using hi
   exact step_act hS (fun a w hS h=>held_of_walk hs hQ t n _ a w h2 hS h) h
 | .two k t j s,n+1,listed,a,w,hf,hS,h=>by
   simp only [fits,Bool.and_eq_true] at hf;obtain ⟨⟨h1,h2⟩,h3⟩:=hf;have hr:Region.ready .any l.toArray listed= [k,j]:=by simpa using h1
   simp only [grow,walk] at h;refine wpAnyH_all hr (by simp) ?_;intro i hi;simp only [List.mem_cons,List.not_mem_nil,or_false] at hi;rcases hi with rfl | rfl
   ·exact step_act hS (fun a w hS h=>held_of_walk hs hQ t n _ a w h2 hS h) h.1
   ·exact step_act hS (fun a w hS h=>held_of_walk hs hQ s n _ a w h3 hS h) h.2
def good (l:List Oper) (p:Plan):Bool:=Region.noSelect l.toArray&&fits l.toArray p l.length (Array.replicate l.length false)
structure Step (P:Program) (ops:Array Oper) (Q:Exit→Act→World→Prop) (S:World→Prop) (t:Way) (a:Act) (w:World):Prop where
 out:walk P ops Q S t a w
theorem region (p:Plan) {id:Nat} {a:Act} {w:World} (S:World→Prop) (hm:P.follows .mixedOrders=true) (hg:good l p=true)
 (hQ:∀c a d v w,Q (.panic c) (Act.put a d v) w→Q (.panic c) a w) (hS:S (w.drewN 1)) (h:Step P l.toArray Q S (grow l p) a (w.drewN 1)):(Code.region id l.toArray true).wp P Q a w:=by
 simp only [good,Bool.and_eq_true] at hg;refine wp_region_held (S:=S) hm ?_;have:=held_of_walk hg.1 hQ p _ _ a _ hg.2 hS h.out;simpa [World.drewN] using this
variable {ops:Array Oper} {o:Oper} {t s:Way} {a:Act} {w:World}
theorem quiet (hw:Region.wanted o (yielded ops a.tmps)=true) (v:Value) (hv:∀w',S w'→(execOp a.eval o).run P w'=.ok (.value v) w') (h:Step P ops Q S t (a.put o.dst v) w):Step P ops Q S (.quiet o t) a w:=by exact ⟨by simp only [walk,hw,if_true];exact ⟨v,hv,h.out⟩⟩
theorem assign (x:Operand) (hop:o.op=.assign x) (hw:Region.wanted o (yielded ops a.tmps)=true) (h:Step P ops Q S t (a.put o.dst (a.eval x)) w):Step P ops Q S (.quiet o t) a w:=
 quiet hw _ (fun w' _=>BigFrame.run_assign x hop w') h
theorem change (hw:Region.wanted o (yielded ops a.tmps)=true) (h:∀K:Act→World→Prop,(∀a' w',S w'→Step P ops Q S t a' w'→K a' w')→o.wp P a w K Q):Step P ops Q S (.act o t) a w:=by refine ⟨?_⟩;simp only [walk,hw,if_true];exact h _ fun a' w' h1 h2=>⟨h1,h2.out⟩
theorem both (h1:Step P ops Q S t a w) (h2:Step P ops Q S s a w):Step P ops Q S (.two t s) a w:=⟨⟨h1.out,h2.out⟩⟩
theorem done (h:Q .normal a w):Step P ops Q S .done a w:=⟨h⟩
end
end Go.Proofs.YtimoakmcelocfaaGreat.Tree
namespace Go.Proofs.YtimoakmcelocfaaGreat.App
open Go.RowKit
variable {P:Program}
theorem run_append_zero (w:World) (t ty e:TypeId) (i:TypeInfo) (ht:P.underlying t=some (.slice e)) (hi:P.info? e=some i) (b:Option Addr) (n cap:Nat) (h:n≤cap) (a:Option Addr) (c:Nat) :
 (Builtin.append_ #[t,t] ty #[.slice b n cap,.slice a 0 c]).run P w=.ok (.slice b n cap) w:=by
 have hb:∀x:Addr,(storeCells x []).run P w=.ok () w:=fun x=>rfl;have hl:∀x:Addr,(loadCells x 0).run P w=.ok #[] w:=fun x=>rfl;cases b<;>cases a<;>simp [Builtin.append_,run_underlying ht,sizeOf,typeInfo,hi,Builtin.lenOf,Builtin.firstCells,h,hb,hl]
theorem run_append_list (w:World) (t ty:TypeId)
 (base:Nat) (e:TypeId) (i:TypeInfo) (z:Value) (size bytes:Nat) (ht:P.underlying t=some (.slice e)) (hi:P.info? e=some i) (hz:i.zero=some z)
 (hsize:i.size=size) (hby:i.bytes=bytes) (hzs:z.cells.size=size) (hsz:0<size)
 (v:Value) (n:Nat) (xs:List Value) (hown:w.ownsRow base e size v n xs)
 (xa:Option Addr) (m c:Nat) (news:List Value) (hl:news.length=m*size)
 (hnews:0<m→∃b off,xa=some ⟨b,off,none⟩∧∀j u,news[j]?=some u→w.cell? ⟨b,off+j,none⟩=some u) (h1:∀u∈news,u.oneCell'=true)
 (h63:n+m≤maxLen) (hbytes:(n+m)*bytes≤140737488355328) (hbase:base≤w.heap.size) :
 ∃v' w',(Builtin.append_ #[t,t] ty #[v,.slice xa m c]).run P w=.ok v' w'∧w'.ownsRow base e size v' (n+m) (xs++news)∧w.grownBy w' v.ownBlock∧(v'.ownBlock=v.ownBlock∨v'.ownBlock=some w.heap.size):=by
 rcases Nat.eq_zero_or_pos m with h0 | hp
 ·subst h0;obtain rfl:news= []:=by simpa using hl
  obtain ⟨b,cap,hv,hcap⟩:∃b cap,v=.slice b n cap∧n≤cap:=by
   rcases hown.2 with ⟨rfl,rfl⟩ | ⟨g,cap,cur,rfl,_,_,hc,_⟩
   ·exact ⟨none,0,rfl,Nat.le_refl _⟩
   ·exact ⟨_,cap,rfl,hc⟩
  have hr:=run_append_zero (P:=P) w t ty e i ht hi b n cap hcap xa c;rw [←hv] at hr;exact ⟨v,w,hr,by rw [Nat.add_zero,List.append_nil];exact hown,⟨rfl,rfl,rfl,Nat.le_refl _,fun _ _ _=>rfl⟩,.inl rfl⟩
 ·obtain ⟨b,off,rfl,hc⟩:=hnews hp
  obtain ⟨v',w',hr,h2,h3,_,h5⟩:=run_append_own_at (P:=P) w base t ty e i z size bytes ht hi hz hsize hby hzs hsz v n xs hown ⟨b,off,none⟩ m c news hl (fun j u hj=>by
   have e2:Addr.add ⟨b,off,none⟩ j=⟨b,off+j,none⟩:=by unfold Addr.add;by_cases h:j=0<;>simp [h]
   rw [e2];exact hc j u hj) h1 h63 hbytes hbase
  exact ⟨v',w',hr,h2,h3,h5⟩
theorem wpList_append_list (w:World) {ops:Array Oper} {rest:List Oper} {o:Oper} {a:Act} {Q:Exit→Act→World→Prop} (hgd:o.guard=none) (s x:Operand) (t:TypeId)
 (ho:o.op=.call {callee:=.builtin .append,args:=#[s,x],argTypes:=#[t,t]})
 (base:Nat) (e:TypeId) (i:TypeInfo) (z:Value) (size bytes:Nat) (ht:P.underlying t=some (.slice e)) (hi:P.info? e=some i) (hz:i.zero=some z)
 (hsize:i.size=size) (hby:i.bytes=bytes) (hzs:z.cells.size=size) (hsz:0<size)
 (v:Value) (n:Nat) (xs:List Value) (hs:a.eval s=v) (hown:w.ownsRow base e size v n xs)
 (xa:Option Addr) (m c:Nat) (news:List Value) (hx:a.eval x=.slice xa m c) (hl:news.length=m*size)
 (hnews:0<m→∃b off,xa=some ⟨b,off,none⟩∧∀j u,news[j]?=some u→w.cell? ⟨b,off+j,none⟩=some u) (h1:∀u∈news,u.oneCell'=true)
 (h63:n+m≤maxLen) (hbytes:(n+m)*bytes≤140737488355328) (hbase:base≤w.heap.size)
 (h:∀v' w',w'.ownsRow base e size v' (n+m) (xs++news)→w.grownBy w' v.ownBlock→(v'=.slice none 0 0↔v=.slice none 0 0∧m=0)→(v'.ownBlock=v.ownBlock∨v'.ownBlock=some w.heap.size)→wpList P ops Q rest (a.put o.dst v') w') :
 wpList P ops Q (o::rest) a w:=by
 rcases Nat.eq_zero_or_pos m with h0 | hp
 ·subst h0;obtain rfl:news= []:=by simpa using hl
  refine wpList_plain hgd fun K hK=>?_;obtain ⟨b,cap,hv,hcap⟩:∃b cap,v=.slice b n cap∧n≤cap:=by
   rcases hown.2 with ⟨rfl,rfl⟩ | ⟨g,cap,cur,rfl,_,_,hc,_⟩
   ·exact ⟨none,0,rfl,Nat.le_refl _⟩
   ·exact ⟨_,cap,rfl,hc⟩
  have hr:=run_append_zero (P:=P) w t o.type e i ht hi b n cap hcap xa c;rw [←hv] at hr;unfold Oper.wp execOp;simp only [ho,resolve,invoke,builtin,Sem.run_bind,Sem.run_pure,Result.andThen_ok,List.map_toArray,List.map_cons,List.map_nil,hs,hx,hr]
  exact hK _ _ (h v w (by rw [Nat.add_zero,List.append_nil];exact hown) ⟨rfl,rfl,rfl,Nat.le_refl _,fun _ _ _=>rfl⟩ (by simp) (.inl rfl))
 ·obtain ⟨b,off,rfl,hc⟩:=hnews hp
  exact wpList_append_own_at w hgd s x t ho base e i z size bytes ht hi hz hsize hby hzs hsz v n xs hs hown ⟨b,off,none⟩ m c news hx hl (fun j u hj=>by
   have e2:Addr.add ⟨b,off,none⟩ j=⟨b,off+j,none⟩:=by unfold Addr.add;by_cases h:j=0<;>simp [h]
   rw [e2];exact hc j u hj) h1 h63 hbytes hbase h
theorem wpList_append_run {w:World} {ops:Array Oper} {rest:List Oper} {o:Oper} {a:Act} {Q:Exit→Act→World→Prop} (hw:Region.wanted o (yielded ops a.tmps)=true) (s x:Operand) (t:TypeId)
 (ho:o.op=.call {callee:=.builtin .append,args:=#[s,x],argTypes:=#[t,t]}) (v u:Value) (hs:a.eval s=v) (hx:a.eval x=u) (v':Value) (w':World)
 (hr:(Builtin.append_ #[t,t] o.type #[v,u]).run P w=.ok v' w') (h:wpList P ops Q rest (a.put o.dst v') w'):wpList P ops Q (o::rest) a w:=by
 unfold wpList;rw [if_pos hw];left;unfold Oper.wp execOp;simp only [ho,resolve,invoke,builtin,Sem.run_bind,Sem.run_pure,Result.andThen_ok,List.map_toArray,List.map_cons,List.map_nil,hs,hx,hr];exact h
end Go.Proofs.YtimoakmcelocfaaGreat.App
namespace Go.Proofs.YtimoakmcelocfaaGreat.Ls
open Go.RowKit Base
theorem take_eq_snoc {α:Type} (d:α) (xs ys:List α) (k:Nat) (hx:k<xs.length) (hy:k<ys.length) (h:xs.take k=ys.take k) (e:xs[k]?.getD d=ys[k]?.getD d):xs.take (k+1)=ys.take (k+1):=by
 rw [List.take_succ_eq_append_getElem hx,List.take_succ_eq_append_getElem hy,h];rw [List.getElem?_eq_getElem hx,List.getElem?_eq_getElem hy] at e
 congr 2
theorem ne_of_at {α:Type} (d:α) (xs ys:List α) (k:Nat) (e:¬xs[k]?.getD d=ys[k]?.getD d):xs≠ys:=fun h=>e (by rw [h])
end Go.Proofs.YtimoakmcelocfaaGreat.Ls
namespace Go.Proofs.YtimoakmcelocfaaGreat.Table
open Go.RowKit Base
end Go.Proofs.YtimoakmcelocfaaGreat.Table
namespace Go.Proofs.YtimoakmcelocfaaGreat.Frame
open Go.ChangeShapes Go.WideShapes Go.ChangeAt Go.RowKit
open Go.ChangeMaps (open_string shut_string)
theorem own:ownKnob Tryz.prog.godebug=none:=by kernel_rfl
theorem laidOut:laidOutB Tryz.prog=true:=by kernel_rfl
section
variable {H:Type} {enc:TypeId × Value→H} {P:Program}
theorem trodAll_below (hl:laidOutB P=true) {W W':World} (hb:Below W.heap.size W W'):∀(ts:List TypeId) (vs:List Value) (ds:List (DataW H)) (ps:List MemPlace),
 ts.all (fun t=>P.readableRec t&&decide (t<P.types.size))=true→DataW.TrodAll enc P W 0 (fun _=>true) true ts vs ds ps→(∀x∈ps,x.block<W.heap.size)→
 DataW.TrodAll enc P W' 0 (fun b=>decide (b<W.heap.size)) true ts vs ds ps
 | [],vs,ds,ps,_,h,_=>by
   obtain ⟨rfl,rfl,rfl⟩:=trodAll_nil h;exact trodAll_mk0
 | t::ts,vs,ds,ps,hr,h,hlt=>by
   obtain ⟨v,vs',d,ds',p,q,rfl,rfl,rfl,h1,h2⟩:=trodAll_cons h;simp only [List.all_cons,Bool.and_eq_true,decide_eq_true_eq] at hr
   exact trodAll_cons_mk (Below.trod hl hr.1.1 hr.1.2 h1 hb (fun x hx=>hlt x (by simp [hx]))) (trodAll_below hl hb ts vs' ds' q (by simpa using hr.2) h2 (fun x hx=>hlt x (by simp [hx])))
theorem law_post {f:Func} {s:ChangeSpec} {bt:TypeId} {W W':World} {args:Array Value} {ds gs:List (DataW H)} {before:List MemPlace}
 (hl:laidOutB P=true) (hv:s.vars= []) (hread:f.params.toList.all (fun t=>P.readableRec t&&decide (t<P.types.size))=true) (hres:f.resultTypes= #[bt]) (hbt:P.underlying bt=some .bool)
 (hspec:s.fn H ds={results:= [.lit (.bool true)],args:=ds})
 (hW:DataW.Whole enc P f.params.toList s.vars false W args.toList ds gs before) (hb:Below W.heap.size W W'):s.post enc P f false true false false W args (.bool true) W':=by
 have hW0:=hW;have hlt:=fun p hp=>hW.lt p hp;obtain ⟨p,q,hA,hV,hpq,_,_⟩:=hW;rw [hv] at hV;obtain ⟨rfl,rfl⟩:=trodVars_none hV;have hp:before=p:=by simpa using hpq
 subst hp;refine ⟨ds,[],before,[],before,[],hW0,?_,?_,?_,hb.frame _,fun h=>by cases h⟩
 ·simp only [List.append_nil,hspec,hres]
  exact trodAll_mk1 (shut_bool hbt _)
 ·simp only [List.append_nil,hspec];exact trodAll_below hl hb _ _ _ _ hread hA hlt
 ·simp only [List.append_nil,hspec,hv];first | rfl | exact ⟨rfl,rfl⟩
end
end Go.Proofs.YtimoakmcelocfaaGreat.Frame
namespace Go.Proofs.YtimoakmcelocfaaGreat.Frame
open Go.ChangeShapes Go.WideShapes Go.ChangeAt Go.RowKit
section
variable {P:Program} {w:World} {r:Reach} {base:Nat}
theorem flat_cells {t:TypeId} {fs:Array Field} {ts:List TypeId} {v:Value} (ht:P.underlying t=some (.struct fs)) (hts:P.cellTypes P.depth t=some ts) (hn:P.cellsOf t=ts.length) (h:Value.okWide P w r base t v) :
 ∃cs:Array Value,v=.agg cs∧cs.size=ts.length∧∀(i:Nat) (x:Value) (u:TypeId),cs[i]?=some x→ts[i]?=some u→Cell.okWide P w r base u x:=by
 simp only [Value.okWide,ht] at h;obtain ⟨cs,h1,h2,ts',h3,_,h4⟩:=h;rw [hts] at h3;obtain rfl:=Option.some.inj h3;refine ⟨cs,h1,h2.trans hn,fun i x u hx hu=>?_⟩;obtain ⟨u',hu',hc⟩:=h4 i x hx;have hi:i<ts.length:=by
  rcases Nat.lt_or_ge i ts.length with h | h
  ·exact h
  ·rw [List.getElem?_eq_none h] at hu;cases hu
 rw [Nat.mod_eq_of_lt hi,hu] at hu';obtain rfl:=Option.some.inj hu';exact hc
theorem cell_int {u:TypeId} {k:IntKind} {x:Value} (hu:P.underlying u=some (.int k)) (h:Cell.okWide P w r base u x):∃n,x=.int k n∧k.has n:=by simp only [Cell.okWide,hu] at h;cases x<;>simp_all [Cell.ok]
theorem cell_bool {u:TypeId} {x:Value} (hu:P.underlying u=some .bool) (h:Cell.okWide P w r base u x):∃b,x=.bool b:=by simp only [Cell.okWide,hu] at h;cases x<;>simp_all [Cell.ok]
end
end Go.Proofs.YtimoakmcelocfaaGreat.Frame
namespace Go.Proofs.YtimoakmcelocfaaGreat.Bnd
open Go.RowKit Base
def mid (lo n hi:Int):Int:=if lo<(if n > hi then hi else n) then (if n > hi then hi else n) else lo
def inside (n lo hi:Int):Bool:=decide (lo≤n)&&decide (n≤hi)
theorem mid_iff (lo n hi:Int) (h:lo≤hi):(n=mid lo n hi)↔inside n lo hi=true:=by
 unfold mid inside;simp only [Bool.and_eq_true,decide_eq_true_eq];constructor
 ·intro e;split at e<;> (try split at e)<;>omega
 ·intro e;split<;> (try split)<;>omega
abbrev bnd (x0 x1 x2 x3 x4 x5 x6 x7:Int) (c d:Bool):Value:=.agg #[.int .i64 x0,.int .i64 x1,.int .i64 x2,.int .i64 x3,.int .i64 x4,.int .i64 x5,.int .i64 x6,.int .i64 x7,.bool c,.bool d]
def right (x0 x1 x2 x3 x4 x5 x6 x7:Int):Bool:=
 inside x0 64 4096&&(inside x1 4 100&&(inside x2 256 65536&&(inside x3 16 1048576&&(inside x4 0 256&&(inside x5 0 100&&(inside x6 1 16&&inside x7 1 1000))))))
structure At (w:World) (g:Nat) (x0 x1 x2 x3 x4 x5 x6 x7:Int) (c d:Bool):Prop where
 q0:w.cell? ⟨g,0,none⟩=some (.int .i64 x0)
 q1:w.cell? ⟨g,1,none⟩=some (.int .i64 x1)
 q2:w.cell? ⟨g,2,none⟩=some (.int .i64 x2)
 q3:w.cell? ⟨g,3,none⟩=some (.int .i64 x3)
 q4:w.cell? ⟨g,4,none⟩=some (.int .i64 x4)
 q5:w.cell? ⟨g,5,none⟩=some (.int .i64 x5)
 q6:w.cell? ⟨g,6,none⟩=some (.int .i64 x6)
 q7:w.cell? ⟨g,7,none⟩=some (.int .i64 x7)
 q8:w.cell? ⟨g,8,none⟩=some (.bool c)
 q9:w.cell? ⟨g,9,none⟩=some (.bool d)
section
variable {w w':World} {g:Nat} {x0 x1 x2 x3 x4 x5 x6 x7:Int} {c d:Bool}
theorem At.below (h:At w g x0 x1 x2 x3 x4 x5 x6 x7 c d) (hg:g<w.heap.size) (hb:Below w.heap.size w w'):At w' g x0 x1 x2 x3 x4 x5 x6 x7 c d:=
 ⟨(hb.cell (p:=⟨g,0,none⟩) hg).trans h.q0,(hb.cell (p:=⟨g,1,none⟩) hg).trans h.q1,(hb.cell (p:=⟨g,2,none⟩) hg).trans h.q2,(hb.cell (p:=⟨g,3,none⟩) hg).trans h.q3,(hb.cell (p:=⟨g,4,none⟩) hg).trans h.q4,
  (hb.cell (p:=⟨g,5,none⟩) hg).trans h.q5,(hb.cell (p:=⟨g,6,none⟩) hg).trans h.q6,(hb.cell (p:=⟨g,7,none⟩) hg).trans h.q7,(hb.cell (p:=⟨g,8,none⟩) hg).trans h.q8,(hb.cell (p:=⟨g,9,none⟩) hg).trans h.q9⟩
theorem At.new (w:World) (t:TypeId) (x0 x1 x2 x3 x4 x5 x6 x7:Int) (c d:Bool):At (w.alloc (.cells #[.int .i64 x0,.int .i64 x1,.int .i64 x2,.int .i64 x3,.int .i64 x4,.int .i64 x5,.int .i64 x6,.int .i64 x7,.bool c,.bool d] t)) w.heap.size x0 x1 x2 x3 x4 x5 x6 x7 c d:=by
 have h:∀k v,(#[Value.int .i64 x0,.int .i64 x1,.int .i64 x2,.int .i64 x3,.int .i64 x4,.int .i64 x5,.int .i64 x6,.int .i64 x7,.bool c,.bool d]:Array Value)[k]?=some v→(w.alloc (.cells #[.int .i64 x0,.int .i64 x1,.int .i64 x2,.int .i64 x3,.int .i64 x4,.int .i64 x5,.int .i64 x6,.int .i64 x7,.bool c,.bool d] t)).cell? ⟨w.heap.size,k,none⟩=some v:=
  fun k v h=>(cell_of_row (w.alloc _) w.heap.size k _ t (0,0) (heap_alloc_new w _)).trans h
 exact ⟨h 0 _ rfl,h 1 _ rfl,h 2 _ rfl,h 3 _ rfl,h 4 _ rfl,h 5 _ rfl,h 6 _ rfl,h 7 _ rfl,h 8 _ rfl,h 9 _ rfl⟩
end
section code
set_option maxHeartbeats 1000000
theorem between_any (lo n hi:Int) (w:World):Calls Tryz.prog 74 #[.int .i64 lo,.int .i64 n,.int .i64 hi] w fun e w'=>e=.returned (.int .i64 (mid lo n hi))∧w'=w:=by
 go_enter Tryz.func74,Tryz.ntmps74;go_wp2;all_goals
  go_ret;exact ⟨ret_int (by unfold mid;(repeat' split)<;>omega),rfl⟩
theorem rwithin_any (n lo hi:Int) (w:World):Calls Tryz.prog 33 #[.int .i64 n,.int .i64 lo,.int .i64 hi] w fun e w'=>e=.returned (.bool (inside n lo hi))∧w'=w:=by
 rcases Int.lt_or_le n lo with h | h
 ·go_enter Tryz.func33,Tryz.ntmps33;go_wp2;go_ret;exact ⟨ret_bool (by simp only [inside,decide_eq_false (Int.not_le.2 h),Bool.false_and]),rfl⟩
 ·go_enter Tryz.func33,Tryz.ntmps33;go_wp2;go_ret;exact ⟨ret_bool (by simp only [inside,decide_eq_true h,Bool.true_and]),rfl⟩
theorem rusual_any (w:World):Calls Tryz.prog 24 #[] w fun e w'=>e=.returned (bnd 1024 32 8192 65536 32 8 4 20 true true)∧Below w.heap.size w w':=by go_enter Tryz.func24,Tryz.ntmps24;go_wp2;exact bodyPost_ret (v:=bnd _ _ _ _ _ _ _ _ _ _) (by simp [results,Tryz.results24,go_sem]) rfl ⟨rfl,(Below.refl _ _).alloc (Nat.le_refl _) _⟩
theorem rusual_exact (w:World):Calls Tryz.prog 24 #[] w fun e w'=>e=.returned (bnd 1024 32 8192 65536 32 8 4 20 true true)
 ∧w'=w.alloc (.cells #[.int .i64 1024,.int .i64 32,.int .i64 8192,.int .i64 65536,.int .i64 32,.int .i64 8,.int .i64 4,.int .i64 20,.bool true,.bool true] 24):=by
 go_enter Tryz.func24,Tryz.ntmps24;go_wp2;exact bodyPost_ret (v:=bnd _ _ _ _ _ _ _ _ _ _) (by simp [results,Tryz.results24,go_sem]) rfl ⟨rfl,rfl⟩
theorem within_any (x0 x1 x2 x3 x4 x5 x6 x7:Int) (c d:Bool) (w:World):Calls Tryz.prog 59 #[bnd x0 x1 x2 x3 x4 x5 x6 x7 c d] w
 fun e w'=>e=.returned (bnd (mid 64 x0 4096) (mid 4 x1 100) (mid 256 x2 65536) (mid 16 x3 1048576) (mid 0 x4 256) (mid 0 x5 100) (mid 1 x6 16) (mid 1 x7 1000) c d)∧Below w.heap.size w w':=by
 go_enter Tryz.func59,Tryz.ntmps59
 go_wp2_with (go_at_call 74;with_reducible refine (between_any _ _ _ _).mono ?_;rintro e w1 ⟨rfl,hw⟩;rw [hw];clear hw);exact bodyPost_ret (v:=bnd _ _ _ _ _ _ _ _ _ _) (by simp [results,Tryz.results59,go_sem]) rfl ⟨rfl,((Below.refl _ _).alloc (Nat.le_refl _) _).alloc (by simp) _⟩
theorem right_any (x0 x1 x2 x3 x4 x5 x6 x7:Int) (c d:Bool) (w:World):Calls Tryz.prog 41 #[bnd x0 x1 x2 x3 x4 x5 x6 x7 c d] w
 fun e w'=>e=.returned (.bool (right x0 x1 x2 x3 x4 x5 x6 x7))∧Below w.heap.size w w':=by
 go_enter Tryz.func41,Tryz.ntmps41;go_wp2_with fail;have hc:=At.new w 24 x0 x1 x2 x3 x4 x5 x6 x7 c d;have hW:Below w.heap.size w (w.alloc (.cells #[.int .i64 x0,.int .i64 x1,.int .i64 x2,.int .i64 x3,.int .i64 x4,.int .i64 x5,.int .i64 x6,.int .i64 x7,.bool c,.bool d] 24)):=(Below.refl _ _).alloc (Nat.le_refl _) _;have hgg:w.heap.size<(w.alloc (.cells #[.int .i64 x0,.int .i64 x1,.int .i64 x2,.int .i64 x3,.int .i64 x4,.int .i64 x5,.int .i64 x6,.int .i64 x7,.bool c,.bool d] 24)).heap.size:=by simp
 generalize w.alloc (.cells #[.int .i64 x0,.int .i64 x1,.int .i64 x2,.int .i64 x3,.int .i64 x4,.int .i64 x5,.int .i64 x6,.int .i64 x7,.bool c,.bool d] 24)=W at *;generalize hgw:w.heap.size=g at *;refine Sched.region [(0,false),(1,false),(2,true),(3,false),(4,false)] (fun w'=>Below W.heap.size W w') (by kernel_rfl) (by kernel_rfl) (fun _ _ d _ _ h=>by cases d<;>exact h) (Base.below_drewN (Below.refl _ _) 1) ?_;simp only [Sched.picked,List.filterMap_cons,List.filterMap_nil,qZ,qS,Option.map_some]
 iterate 2
  refine Sched.quiet (by rfl) ?_ ?_ ?_
  rotate_left 1
  ·intro w' hS;obtain ⟨q0,q1,q2,q3,q4,q5,q6,q7,q8,q9⟩:=hc.below hgg hS;clear hS;go_simp;with_reducible rfl
  simp only [Act.put,qI,qY,qX]
 refine Sched.change (by rfl) (fun K hK=>?_);go_simp;with_reducible refine (within_any _ _ _ _ _ _ _ _ _ _ _).mono ?_
 rintro e w1 ⟨rfl,hb⟩;dsimp only;have hb1:Below W.heap.size W w1:=(Base.below_drewN (Below.refl _ _) 1).trans hb;refine hK _ _ hb1 ?_;clear hK K;refine Sched.quiet (by rfl) (.bool (right x0 x1 x2 x3 x4 x5 x6 x7)) ?_ ?_
 ·intro w' hS;go_simp;simp only [mid_iff 64 x0 4096 (by decide),mid_iff 4 x1 100 (by decide),mid_iff 256 x2 65536 (by decide),mid_iff 16 x3 1048576 (by decide),mid_iff 0 x4 256 (by decide),mid_iff 0 x5 100 (by decide),mid_iff 1 x6 16 (by decide),mid_iff 1 x7 1000 (by decide)];unfold right;cases inside x0 64 4096;·rfl
  cases inside x1 4 100;·rfl
  cases inside x2 256 65536;·rfl
  cases inside x3 16 1048576;·rfl
  cases inside x4 0 256;·rfl
  cases inside x5 0 100;·rfl
  cases inside x6 1 16;·rfl
  cases inside x7 1 1000<;>rfl
 simp only [Act.put,qI,qY,qX];refine Sched.assign _ (by rfl) (by rfl) ?_;simp only [Act.put,Act.eval,qA,qT,qZ,qS,qO,qI,qY,qX];refine Sched.done ?_;go_wp2;go_ret;subst hgw;exact ⟨rfl,hW.trans (Below.mono hb1 hW.size)⟩
attribute [local go_sem] Base.some_undef
theorem rright_any (x0 x1 x2 x3 x4 x5 x6 x7:Int) (c d:Bool) (w:World):Calls Tryz.prog 16 #[bnd x0 x1 x2 x3 x4 x5 x6 x7 c d] w
 fun e w'=>e=.returned (.bool (right x0 x1 x2 x3 x4 x5 x6 x7))∧Below w.heap.size w w':=by
 have H0:=Lib.hid (rwithin_any x0 64 4096);have H1:=Lib.hid (rwithin_any x1 4 100);have H2:=Lib.hid (rwithin_any x2 256 65536);have H3:=Lib.hid (rwithin_any x3 16 1048576)
 have H4:=Lib.hid (rwithin_any x4 0 256);have H5:=Lib.hid (rwithin_any x5 0 100);have H6:=Lib.hid (rwithin_any x6 1 16);have H7:=Lib.hid (rwithin_any x7 1 1000);unfold right;generalize inside x0 64 4096=b0 at *;generalize inside x1 4 100=b1 at *;generalize inside x2 256 65536=b2 at *;generalize inside x3 16 1048576=b3 at *;generalize inside x4 0 256=b4 at *;generalize inside x5 0 100=b5 at *;generalize inside x6 1 16=b6 at *;generalize inside x7 1 1000=b7 at *;cases b0;rotate_left 1;cases b1;rotate_left 1;cases b2;rotate_left 1;cases b3;rotate_left 1;cases b4;rotate_left 1;cases b5;rotate_left 1;cases b6;all_goals
  go_enter Tryz.func16,Tryz.ntmps16
  go_wp2_with (go_at_call 33;first
   |(with_reducible refine (H0.out _).mono ?_;rintro e w1 ⟨rfl,hw⟩;rw [hw];clear hw)
   |(with_reducible refine (H1.out _).mono ?_;rintro e w1 ⟨rfl,hw⟩;rw [hw];clear hw)
   |(with_reducible refine (H2.out _).mono ?_;rintro e w1 ⟨rfl,hw⟩;rw [hw];clear hw)
   |(with_reducible refine (H3.out _).mono ?_;rintro e w1 ⟨rfl,hw⟩;rw [hw];clear hw)
   |(with_reducible refine (H4.out _).mono ?_;rintro e w1 ⟨rfl,hw⟩;rw [hw];clear hw)
   |(with_reducible refine (H5.out _).mono ?_;rintro e w1 ⟨rfl,hw⟩;rw [hw];clear hw)
   |(with_reducible refine (H6.out _).mono ?_;rintro e w1 ⟨rfl,hw⟩;rw [hw];clear hw)
   |(with_reducible refine (H7.out _).mono ?_;rintro e w1 ⟨rfl,hw⟩;rw [hw];clear hw))
  go_ret;exact ⟨rfl,(Below.refl _ _).alloc (Nat.le_refl _) _⟩
end code
end Go.Proofs.YtimoakmcelocfaaGreat.Bnd
namespace Go.Proofs.YtimoakmcelocfaaGreat.Qk
open Go.RowKit Base
def known (c:Int):Bool:=decide (0≤c)&&decide (c<30)
def bitOf (c:Int):Nat:=if known c then 2^c.toNat else 0
def has (p:Nat) (c:Int):Bool:=known c&&p.testBit c.toNat
def ofL (zs:List Int):Nat:=zs.foldl (fun p c=>p ||| bitOf c) 0
def upTo (p n:Nat):List Int:=((List.range n).filter fun c=>p.testBit c).map fun c:Nat=>(c:Int)
def names:List (List UInt8):=
 [[101,109,112,116,121],
  [98,97,114,101,108,102],
  [98,97,114,101,99,114],
  [98,108,97,110,107,115],
  [109,105,110,111,114],
  [97,110,121,99,97,115,101],
  [110,111,118,101,114,115,105,111,110],
  [115,112,97,99,101,115],
  [99,111,110,116,114,111,108,115],
  [99,111,108,111,110,115,112,97,99,101],
  [110,97,109,101,98,121,116,101,115],
  [110,111,99,111,108,111,110],
  [110,111,110,97,109,101],
  [102,111,108,100],
  [118,97,108,117,101,98,121,116,101,115],
  [110,111,104,111,115,116],
  [109,97,110,121,104,111,115,116,115],
  [116,101,98,108,97,110,107,115],
  [116,101,108,105,115,116],
  [116,101,105,103,110,111,114,101],
  [116,101,111,108,100],
  [116,101,119,105,110,115],
  [99,108,119,105,110,115],
  [99,108,112,108,117,115],
  [99,108,99,111,109,109,97],
  [99,108,102,105,114,115,116],
  [99,108,108,97,115,116],
  [99,104,117,110,107,104,101,120],
  [99,104,117,110,107,98,108,97,110,107,115],
  [99,104,117,110,107,101,110,100]]
def nm (k:Nat):ByteArray:=⟨(names[k]?.getD []).toArray⟩
def nameOf (c:Int):ByteArray:=if known c then nm c.toNat else ByteArray.empty
def findOf (s:ByteArray):Option Nat:=names.findIdx? fun n=>n==s.data.toList
def needs (c:Int) (p:Nat) (ch old:Bool):Bool:=
 if c=6 then old else if c=17 then has p 14 else if c=18∨c=21∨c=27∨c=28∨c=29 then ch
 else if c=20 then old&&(ch||has p 19||has p 22 && !has p 21) else if c=22 then !has p 21 else if c=26 then !has p 25 else known c
theorem known_iff (c:Int):known c=true↔0≤c∧c<30:=by simp [known]
theorem bitOf_lt (c:Int):bitOf c<2^30:=by
 unfold bitOf;split
 ·rename_i h;have:=(known_iff c).1 h
  exact Nat.pow_lt_pow_right (by decide) (by omega)
 ·decide
theorem and_bitOf (p:Nat) (c:Int):(p &&& bitOf c≠0)↔has p c=true:=by
 unfold bitOf has;by_cases h:known c=true
 ·simp only [h,if_true,Bool.true_and];constructor
  ·intro h1;cases hb:p.testBit c.toNat with
   | true=>rfl
   | false=>
     exfalso;apply h1;apply Nat.eq_of_testBit_eq;intro i;rw [Nat.testBit_and,Nat.testBit_two_pow,Nat.zero_testBit];by_cases hi:c.toNat=i
     ·subst hi;simp [hb]
     ·simp [hi]
  ·intro h1 h2;have:=congrArg (·.testBit c.toNat) h2;simp [Nat.testBit_and,h1] at this
 ·simp [h]
theorem ofL_snoc (zs:List Int) (c:Int):ofL (zs ++ [c])=ofL zs ||| bitOf c:=by simp [ofL]
theorem or_lt30 {a b:Nat} (ha:a<2^30) (hb:b<2^30):a ||| b<2^30:=Nat.or_lt_two_pow ha hb
theorem foldl_or (zs:List Int):∀a:Nat,zs.foldl (fun p c=>p ||| bitOf c) a=a ||| zs.foldl (fun p c=>p ||| bitOf c) 0:=by
 induction zs with
 | nil=>intro a;simp
 | cons z zs ih=>intro a;simp only [List.foldl_cons,Nat.zero_or];rw [ih (a ||| bitOf z),ih (bitOf z),Nat.or_assoc]
theorem ofL_append (a b:List Int):ofL (a++b)=ofL a ||| ofL b:=by unfold ofL;rw [List.foldl_append,foldl_or]
theorem ofL_lt (zs:List Int):ofL zs<2^30:=by
 induction zs with
 | nil=>decide
 | cons z zs ih=>rw [show z::zs= [z]++zs from rfl,ofL_append];exact or_lt30 (by simpa [ofL] using bitOf_lt z) ih
theorem upTo_succ (p n:Nat):upTo p (n+1)=upTo p n++if p.testBit n then [(n:Int)] else []:=by
 unfold upTo;rw [List.range_succ,List.filter_append,List.map_append]
 congr 1
 by_cases h:p.testBit n<;>simp [h]
theorem upTo_le (p n:Nat):(upTo p n).length≤n:=by
 unfold upTo;rw [List.length_map]
 exact Nat.le_trans (List.length_filter_le _ _) (by simp)
end Go.Proofs.YtimoakmcelocfaaGreat.Qk
namespace Go.Proofs.YtimoakmcelocfaaGreat.Qk
open Go.RowKit Base
theorem shl_one (c:Int) (h0:0≤c) (h1:c<30):(2:Int)^c.toNat%4294967296=((2^c.toNat:Nat):Int):=by
 have h:(2:Nat)^c.toNat<2^30:=Nat.pow_lt_pow_right (by decide) (by omega);have h2:(((2:Nat)^c.toNat:Nat):Int)=(2:Int)^c.toNat:=by rw [Int.natCast_pow];rfl
 rw [←h2];clear h2;generalize (2:Nat)^c.toNat=q at *;omega
theorem shr_bit (p:Nat) (hp:p<4294967296) (n:Nat):(bits BinOp.and IntKind.u32 ((p:Int)/2^n) 1==1)=true↔p.testBit n=true:=by
 have h:((p:Int)/2^n)=((p/2^n:Nat):Int):=by rw [Int.natCast_ediv,Int.natCast_pow];rfl
 have h1:p/2^n<4294967296:=Nat.lt_of_le_of_lt (Nat.div_le_self _ _) hp;rw [h,show (1:Int)=((1:Nat):Int) from rfl,u32_and_nat _ 1 h1 (by decide),Nat.testBit_eq_decide_div_mod_eq,Nat.and_one_is_mod,beq_iff_eq,decide_eq_true_eq];omega
section code
set_option maxHeartbeats 1000000
theorem known_any (c:Int) (w:World):Calls Tryz.prog 46 #[.int .i64 c] w fun e w'=>e=.returned (.bool (known c))∧w'=w:=by
 rcases Int.lt_or_le c 0 with h | h
 ·go_enter Tryz.func46,Tryz.ntmps46;go_wp2;go_ret;exact ⟨ret_bool (by simp [known];omega),rfl⟩
 ·go_enter Tryz.func46,Tryz.ntmps46;go_wp2;go_ret;exact ⟨ret_bool (by simp [known];omega),rfl⟩
theorem bit_any (c:Int) (w:World):Calls Tryz.prog 47 #[.int .i64 c] w fun e w'=>e=.returned (.int .u32 (bitOf c:Nat))∧w'=w:=by
 have H:=Lib.hid (known_any c)
 have K:=Lib.hid (known_iff c);generalize hk:known c=k at *;cases k
 ·go_enter Tryz.func47,Tryz.ntmps47
  go_wp2_with (go_at_call 46;with_reducible refine (H.out _).mono ?_;rintro e w1 ⟨rfl,hw⟩;rw [hw];clear hw);go_ret;exact ⟨ret_int (by simp [bitOf,hk]),rfl⟩
 ·obtain ⟨h0,h1⟩:=K.out.1 rfl;go_enter Tryz.func47,Tryz.ntmps47
  go_wp2_with (go_at_call 46;with_reducible refine (H.out _).mono ?_;rintro e w1 ⟨rfl,hw⟩;rw [hw];clear hw);go_ret;exact ⟨ret_int (by simp only [bitOf,hk,if_true];exact shl_one c h0 h1),rfl⟩
theorem has_any (p:Nat) (hp:p<4294967296) (c:Int) (w:World):Calls Tryz.prog 42 #[.int .u32 p,.int .i64 c] w fun e w'=>e=.returned (.bool (has p c))∧w'=w:=by
 have H:=Lib.hid (bit_any c)
 have K:=Lib.hid (and_bitOf p c);have hb:=bitOf_lt c;generalize bitOf c=q at *;go_enter Tryz.func42,Tryz.ntmps42
 go_wp2_with (go_at_call 47;with_reducible refine (H.out _).mono ?_;rintro e w1 ⟨rfl,hw⟩;rw [hw];clear hw);go_ret;exact ⟨ret_bool (by rw [u32_and_nat p q hp (by omega),←K.out];simp),rfl⟩
theorem rhas_any (p:Nat) (hp:p<4294967296) (c:Int) (w:World):Calls Tryz.prog 39 #[.int .u32 p,.int .i64 c] w fun e w'=>e=.returned (.bool (has p c))∧w'=w:=by
 have K:=Lib.hid (known_iff c);rcases Int.lt_or_le c 0 with h | h
 ·go_enter Tryz.func39,Tryz.ntmps39;go_wp2;go_ret;exact ⟨ret_bool (by simp [has,known];omega),rfl⟩
 ·rcases Int.lt_or_le c 30 with h3 | h3
  ·go_enter Tryz.func39,Tryz.ntmps39;go_wp2;go_ret;exact ⟨ret_bool ((shr_bit p hp c.toNat).trans (by simp [has,known,h,h3])),rfl⟩
  ·go_enter Tryz.func39,Tryz.ntmps39;go_wp2;go_ret;exact ⟨ret_bool (by simp [has,known];omega),rfl⟩
theorem right_any (p:Nat) (hp:p<4294967296) (w:World):Calls Tryz.prog 40 #[.int .u32 p] w fun e w'=>e=.returned (.bool (decide (p<1073741824)))∧w'=w:=by go_enter Tryz.func40,Tryz.ntmps40;go_wp2;go_ret;exact ⟨ret_bool (by rw [beq_iff_eq,decide_eq_true_eq];omega),rfl⟩
theorem rright_any (p:Nat) (hp:p<4294967296) (w:World):Calls Tryz.prog 17 #[.int .u32 p] w fun e w'=>e=.returned (.bool (decide (p<1073741824)))∧w'=w:=by go_enter Tryz.func17,Tryz.ntmps17;go_wp2;go_ret;exact ⟨ret_bool (by rw [decide_eq_true_eq,decide_eq_true_eq];omega),rfl⟩
abbrev NamesAt (w:World) (g:Nat):Prop:=g<w.heap.size∧∀k,k<30→w.cell? ⟨g,k,none⟩=some (.string (nm k))
theorem win_any (p:Nat) (hp:p<4294967296) (w:World):Calls Tryz.prog 45 #[.int .u32 p] w fun e w'=>e=.returned (.bool (!has p 21))∧w'=w:=by
 have H:=Lib.hid (has_any p hp 21);generalize has p 21=b at *;go_enter Tryz.func45,Tryz.ntmps45
 go_wp2_with (go_at_call 42;with_reducible refine (H.out _).mono ?_;rintro e w1 ⟨rfl,hw⟩;rw [hw];clear hw);go_ret;exact ⟨rfl,rfl⟩
attribute [local go_sem] Base.some_undef
theorem coding_any (p:Nat) (hp:p<4294967296) (x0 x1 x2 x3 x4 x5 x6 x7:Int) (c d:Bool) (w:World):Calls Tryz.prog 44 #[.int .u32 p,Bnd.bnd x0 x1 x2 x3 x4 x5 x6 x7 c d] w
 fun e w'=>e=.returned (.bool (c||has p 19||has p 22 && !has p 21))∧Below w.heap.size w w':=by
 have H1:=Lib.hid (has_any p hp 19);have H2:=Lib.hid (has_any p hp 22);have H3:=Lib.hid (win_any p hp);generalize has p 19=a1 at *;generalize has p 22=a2 at *;generalize has p 21=a3 at *;cases c;cases a1;cases a2;cases a3;all_goals
  go_enter Tryz.func44,Tryz.ntmps44
  go_wp2_with (first
   |(go_at_call 42;first
    |(with_reducible refine (H1.out _).mono ?_;rintro e w1 ⟨rfl,hw⟩;rw [hw];clear hw)
    |(with_reducible refine (H2.out _).mono ?_;rintro e w1 ⟨rfl,hw⟩;rw [hw];clear hw))
   |(go_at_call 45;with_reducible refine (H3.out _).mono ?_;rintro e w1 ⟨rfl,hw⟩;rw [hw];clear hw))
  go_ret;exact ⟨rfl,(Below.refl _ _).alloc (Nat.le_refl _) _⟩
theorem needs_any (c:Int) (p:Nat) (hp:p<4294967296) (x0 x1 x2 x3 x4 x5 x6 x7:Int) (ch old:Bool) (w:World):Calls Tryz.prog 31 #[.int .i64 c,.int .u32 p,Bnd.bnd x0 x1 x2 x3 x4 x5 x6 x7 ch old] w
 fun e w'=>e=.returned (.bool (needs c p ch old))∧Below w.heap.size w w':=by
 have H1:=Lib.hid (has_any p hp 14);have H2:=Lib.hid (has_any p hp 25);have H3:=Lib.hid (win_any p hp);have H4:=Lib.hid (known_any c)
 have H5:=Lib.hid (coding_any p hp x0 x1 x2 x3 x4 x5 x6 x7 ch old);rcases (by omega:c=6∨c=17∨c=18∨c=21∨c=27∨c=28∨c=29∨c=20∨c=22∨c=26∨(c≠6∧c≠17∧c≠18∧c≠21∧c≠27∧c≠28∧c≠29∧c≠20∧c≠22∧c≠26)) with rfl | rfl | rfl | rfl | rfl | rfl | rfl | rfl | rfl | rfl | ⟨n0,n1,n2,n3,n4,n5,n6,n7,n8,n9⟩
 case inr.inr.inr.inr.inr.inr.inr.inl=>
  cases old;all_goals
   go_enter Tryz.func31,Tryz.ntmps31
   go_wp2_with (go_at_call 44;with_reducible refine (H5.out _).mono ?_;rintro e w1 ⟨rfl,hb⟩);go_ret;first | exact ⟨by simp [needs],(Below.refl _ _).alloc (Nat.le_refl _) _⟩ | exact ⟨by simp [needs],Base.below_step ((Below.refl _ _).alloc (Nat.le_refl _) _) hb⟩
 all_goals
  go_enter Tryz.func31,Tryz.ntmps31
  go_wp2_with (first
   |(go_at_call 42;first
    |(with_reducible refine (H1.out _).mono ?_;rintro e w1 ⟨rfl,hw⟩;rw [hw];clear hw)
    |(with_reducible refine (H2.out _).mono ?_;rintro e w1 ⟨rfl,hw⟩;rw [hw];clear hw))
   |(go_at_call 45;with_reducible refine (H3.out _).mono ?_;rintro e w1 ⟨rfl,hw⟩;rw [hw];clear hw)
   |(go_at_call 46;with_reducible refine (H4.out _).mono ?_;rintro e w1 ⟨rfl,hw⟩;rw [hw];clear hw))
  go_ret;exact ⟨by simp [needs, *],(Below.refl _ _).alloc (Nat.le_refl _) _⟩
end code
end Go.Proofs.YtimoakmcelocfaaGreat.Qk
namespace Go.Proofs.YtimoakmcelocfaaGreat.Qk
open Go.RowKit Base
theorem int_info:(Tryz.prog.info? 3).map (fun i=>(i.zero,i.size,i.bytes))=some (some (.int .i64 0),1,8):=by kernel_rfl
section code
set_option maxHeartbeats 1000000
attribute [local go_sem] Base.some_undef
theorem rneeds_any (c:Int) (p:Nat) (hp:p<4294967296) (x0 x1 x2 x3 x4 x5 x6 x7:Int) (ch old:Bool) (w:World):Calls Tryz.prog 27 #[.int .i64 c,.int .u32 p,Bnd.bnd x0 x1 x2 x3 x4 x5 x6 x7 ch old] w
 fun e w'=>e=.returned (.bool (needs c p ch old))∧Below w.heap.size w w':=by
 have H1:=Lib.hid (rhas_any p hp 14);have H2:=Lib.hid (rhas_any p hp 25);have H3:=Lib.hid (rhas_any p hp 21);have H4:=Lib.hid (rhas_any p hp 19);have H5:=Lib.hid (rhas_any p hp 22);by_cases hc:c≠6∧c≠17∧c≠18∧c≠21∧c≠27∧c≠28∧c≠29∧c≠20∧c≠22∧c≠26
 ·obtain ⟨n0,n1,n2,n3,n4,n5,n6,n7,n8,n9⟩:=hc;have hq:needs c p ch old=known c:=by simp [needs,n0,n1,n2,n3,n4,n5,n6,n7,n8,n9]
  rw [hq];clear hq;rcases Int.lt_or_le c 0 with h | h
  ·go_enter Tryz.func27,Tryz.ntmps27;go_wp2;go_ret;exact ⟨ret_bool (by simp [known];omega),(Below.refl _ _).alloc (Nat.le_refl _) _⟩
  ·go_enter Tryz.func27,Tryz.ntmps27;go_wp2;go_ret;exact ⟨ret_bool (by simp [known];omega),(Below.refl _ _).alloc (Nat.le_refl _) _⟩
 unfold needs;generalize has p 14=a1 at *;generalize has p 25=a2 at *;generalize has p 21=a3 at *;generalize has p 19=a4 at *;generalize has p 22=a5 at *;rcases (by omega:c=6∨c=17∨c=18∨c=21∨c=27∨c=28∨c=29∨c=22∨c=26∨c=20) with rfl | rfl | rfl | rfl | rfl | rfl | rfl | rfl | rfl | rfl
 case inr.inr.inr.inr.inr.inr.inr.inr.inr=>
  cases old;rotate_left 1;cases ch;cases a4;cases a5;rotate_left 1;cases a3;all_goals
   go_enter Tryz.func27,Tryz.ntmps27
   go_wp2_with (go_at_call 39;first
    |(with_reducible refine (H3.out _).mono ?_;rintro e w1 ⟨rfl,hw⟩;rw [hw];clear hw)
    |(with_reducible refine (H4.out _).mono ?_;rintro e w1 ⟨rfl,hw⟩;rw [hw];clear hw)
    |(with_reducible refine (H5.out _).mono ?_;rintro e w1 ⟨rfl,hw⟩;rw [hw];clear hw))
   go_ret;exact ⟨rfl,(Below.refl _ _).alloc (Nat.le_refl _) _⟩
 all_goals
  go_enter Tryz.func27,Tryz.ntmps27
  go_wp2_with (go_at_call 39;first
   |(with_reducible refine (H1.out _).mono ?_;rintro e w1 ⟨rfl,hw⟩;rw [hw];clear hw)
   |(with_reducible refine (H2.out _).mono ?_;rintro e w1 ⟨rfl,hw⟩;rw [hw];clear hw)
   |(with_reducible refine (H3.out _).mono ?_;rintro e w1 ⟨rfl,hw⟩;rw [hw];clear hw))
  go_ret;exact ⟨rfl,(Below.refl _ _).alloc (Nat.le_refl _) _⟩
theorem of_any (a:Option Addr) (n cap:Nat) (zs:List Int) (w:World) (hv:Ints w a n zs) (hn:n≤maxLen):Calls Tryz.prog 32 #[.slice a n cap] w fun e w'=>e=.returned (.int .u32 (ofL zs:Nat))∧w'=w:=by
 have HV:=Lib.hid hv;have HL:=Lib.hid hv.1;clear hv;unfold maxLen at hn;go_enter Tryz.func32,Tryz.ntmps32;go_wp2
 go_loopw [3,8] (fun v i wr=>∃k:Nat,k≤n∧i=.int .i64 k∧v=.int .u32 (ofL (zs.take k):Nat)∧wr=w) (fun _ i _=>n-(intOf i).toNat)
 case atStart=>exact ⟨0,Nat.zero_le _,rfl,rfl,rfl⟩
 case round=>
  obtain ⟨k,hk,rfl,rfl,hwr⟩:=hrel;subst hwr;rcases Nat.lt_or_ge k n with hlt | hge
  ·obtain ⟨bl,off,rfl,_,hc⟩:=HV.out.2 (by omega);have hck:=hc k hlt;clear hc
   have HS:=Lib.hid (show (ofL (zs.take (k+1)):Int)=bits .or .u32 (ofL (zs.take k):Nat) (bitOf (zs[k]?.getD 0):Nat) from by rw [ints_snoc zs k (by rw [HL.out];exact hlt),ofL_snoc,u32_or_nat _ _ (Nat.lt_trans (ofL_lt _) (by decide)) (Nat.lt_trans (bitOf_lt _) (by decide))])
   have HB:=Lib.hid (bit_any (zs[k]?.getD 0));generalize zs[k]?.getD 0=z at *;generalize bitOf z=B at *;generalize ofL (zs.take k)=O at *
   go_wp2_with (go_at_call 47;with_reducible refine (HB.out _).mono ?_;rintro e w1 ⟨rfl,hw⟩;rw [hw];clear hw);go_roundw
   case rel=>exact ⟨k+1,by omega,by go_num,by rw [HS.out],by first | rfl | trivial⟩
   case measure=>simp [intOf];omega
  ·obtain rfl:k=n:=by omega
   go_wp2;go_ret;exact ⟨by rw [List.take_of_length_le (by rw [HL.out];omega)];rfl,rfl⟩
theorem rof_any (a:Option Addr) (n cap:Nat) (zs:List Int) (w:World) (hv:Ints w a n zs) (hn:n≤maxLen):Calls Tryz.prog 25 #[.slice a n cap] w fun e w'=>e=.returned (.int .u32 (ofL zs:Nat))∧w'=w:=by
 have HV:=Lib.hid hv;have HL:=Lib.hid hv.1;clear hv;unfold maxLen at hn;go_enter Tryz.func25,Tryz.ntmps25;go_wp2
 go_loopw [3,4] (fun v i wr=>∃k:Nat,k≤n∧i=.int .i64 k∧v=.int .u32 (ofL (zs.take k):Nat)∧wr=w) (fun _ i _=>n-(intOf i).toNat)
 case atStart=>exact ⟨0,Nat.zero_le _,rfl,rfl,rfl⟩
 case round=>
  obtain ⟨k,hk,rfl,rfl,hwr⟩:=hrel;subst hwr;rcases Nat.lt_or_ge k n with hlt | hge
  ·obtain ⟨bl,off,rfl,_,hc⟩:=HV.out.2 (by omega);have hck:=hc k hlt;clear hc
   have HS:=Lib.hid (show (ofL (zs.take (k+1)):Int)=bits .or .u32 (ofL (zs.take k):Nat) (bitOf (zs[k]?.getD 0):Nat) from by rw [ints_snoc zs k (by rw [HL.out];exact hlt),ofL_snoc,u32_or_nat _ _ (Nat.lt_trans (ofL_lt _) (by decide)) (Nat.lt_trans (bitOf_lt _) (by decide))])
   have HT:=Lib.hid (show (ofL (zs.take (k+1)):Nat)=ofL (zs.take k) ||| bitOf (zs[k]?.getD 0) from by rw [ints_snoc zs k (by rw [HL.out];exact hlt),ofL_snoc]);generalize zs[k]?.getD 0=z at *;generalize ofL (zs.take k)=O at *;rcases (by omega:z<0∨(0≤z∧30≤z)∨(0≤z∧z<30)) with h | ⟨h,h1⟩ | ⟨h,h1⟩
   ·have hb:bitOf z=0:=by rw [bitOf,if_neg (by simp [known];omega)]
    rw [hb,Nat.or_zero] at HT;clear hb;go_wp2;go_roundw
    case rel=>exact ⟨k+1,by omega,by go_num,by rw [HT.out],by first | rfl | trivial⟩
    case measure=>simp [intOf];omega
   ·have hb:bitOf z=0:=by rw [bitOf,if_neg (by simp [known];omega)]
    rw [hb,Nat.or_zero] at HT;clear hb;go_wp2;go_roundw
    case rel=>exact ⟨k+1,by omega,by go_num,by rw [HT.out],by first | rfl | trivial⟩
    case measure=>simp [intOf];omega
   ·have hb:bitOf z=2^z.toNat:=by rw [bitOf,if_pos (by simp [known];omega)]
    have hs:=Lib.hid (shl_one z h h1);rw [hb] at HS;clear hb;go_wp2;go_roundw
    case rel=>exact ⟨k+1,by omega,by go_num,by rw [HS.out,hs.out],by first | rfl | trivial⟩
    case measure=>simp [intOf];omega
  ·obtain rfl:k=n:=by omega
   go_wp2;go_ret;exact ⟨by rw [List.take_of_length_le (by rw [HL.out];omega)];rfl,rfl⟩
theorem list_any (p:Nat) (hp:p<4294967296) (w:World):Calls Tryz.prog 30 #[.int .u32 p] w
 fun e w'=>∃v,e=.returned v∧w'.ownsRow w.heap.size 3 1 v (upTo p 30).length ((upTo p 30).map (Value.int .i64))∧Below w.heap.size w w':=by
 obtain ⟨i0,hi,hz0,hz1,hz2⟩:=info_parts int_info;have G1:=Lib.hid hi;have G2:=Lib.hid hz0;have G3:=Lib.hid hz1;have G4:=Lib.hid hz2;clear hi hz0 hz1 hz2;go_enter Tryz.func30,Tryz.ntmps30;go_wp2
 go_loopw [3,5] (fun v i wr=>∃k:Nat,k≤30∧i=.int .i64 k∧Hid (wr.ownsRow w.heap.size 3 1 v (upTo p k).length ((upTo p k).map (Value.int .i64)))∧Hid (Below w.heap.size w wr)) (fun _ i _=>30-(intOf i).toNat)
 case atStart=>exact ⟨0,Nat.zero_le _,rfl,Lib.hid ⟨rfl,.inl ⟨rfl,rfl⟩⟩,Lib.hid (Below.refl _ _)⟩
 case round=>
  obtain ⟨k,hk,rfl,hown,hbr⟩:=hrel;rcases Nat.lt_or_ge k 30 with hlt | hge
  ·have hk30:(k:Int)<30:=by omega
   have HS:=Lib.hid (upTo_succ p k);have HL:=upTo_le p k;have hq:has p k=p.testBit k:=by rw [has,show known (k:Int)=true from by simp [known];omega,Bool.true_and,Int.toNat_natCast]
   have HC:=Lib.hid (has_any p hp k);rw [hq] at HC;clear hq;generalize upTo p k=L at *;cases hb:p.testBit k with
   | false=>
     rw [hb] at HC;rw [hb,if_neg (by decide),List.append_nil] at HS;clear hb
     go_wp2_with (go_at_call 42;with_reducible refine (HC.out _).mono ?_;rintro e w1 ⟨rfl,hw⟩;rw [hw];clear hw);go_roundw
     case rel=>exact ⟨k+1,by omega,by go_num,by rw [HS.out];exact hown,hbr⟩
     case measure=>simp [intOf];omega
   | true=>
     rw [hb] at HC;rw [hb,if_pos rfl] at HS;clear hb
     go_wp2_with (first
      |(go_at_call 42;with_reducible refine (HC.out _).mono ?_;rintro e w1 ⟨rfl,hw⟩;rw [hw];clear hw)
      |(at_builtin;refine wpList_append_own _ rfl _ _ 32 rfl w.heap.size 3 i0 (.int .i64 0) 1 8 Tryz.underlying32 G1.out G2.out G3.out G4.out rfl (by decide) _ _ _ rfl (hown.out.alloc _) ⟨wr.heap.size,0,none⟩ 1 1 [.int .i64 (k:Int)] rfl rfl ?c1 ?c2 ?c3 ?c4 ?c5 ?_))
     case c1=>exact news_one wr _ _
     case c2=>intro u hu;obtain rfl:u=.int .i64 (k:Int):=by simpa using hu
              rfl
     case c3=>unfold maxLen;omega
     case c4=>omega
     case c5=>have:=hbr.out.size;simp;omega
     intro v' w' hown' hgr _
     have H2:Hid (w'.ownsRow w.heap.size 3 1 v' (upTo p (k+1)).length ((upTo p (k+1)).map (Value.int .i64))):=Lib.hid (by rw [HS.out];simpa using hown')
     have H3:Hid (Below w.heap.size w w'):=Lib.hid ((hbr.out.alloc hbr.out.size _).grown hgr (by have:=hbr.out.size;simp;omega) (own_base hown.out));clear hown' hgr hown;go_wp2;go_roundw
     case rel=>exact ⟨k+1,by omega,by go_num,H2,H3⟩
     case measure=>simp [intOf];omega
  ·obtain rfl:k=30:=by omega
   go_wp2;go_ret;exact ⟨_,rfl,hown.out,hbr.out⟩
theorem rlist_any (p:Nat) (hp:p<4294967296) (w:World):Calls Tryz.prog 26 #[.int .u32 p] w
 fun e w'=>∃v,e=.returned v∧w'.ownsRow w.heap.size 3 1 v (upTo p 30).length ((upTo p 30).map (Value.int .i64))∧Below w.heap.size w w':=by
 obtain ⟨i0,hi,hz0,hz1,hz2⟩:=info_parts int_info;have G1:=Lib.hid hi;have G2:=Lib.hid hz0;have G3:=Lib.hid hz1;have G4:=Lib.hid hz2;clear hi hz0 hz1 hz2;go_enter Tryz.func26,Tryz.ntmps26;go_wp2
 go_loopw [3,4] (fun v i wr=>∃k:Nat,k≤30∧i=.int .i64 k∧Hid (wr.ownsRow w.heap.size 3 1 v (upTo p k).length ((upTo p k).map (Value.int .i64)))∧Hid (Below w.heap.size w wr)) (fun _ i _=>30-(intOf i).toNat)
 case atStart=>exact ⟨0,Nat.zero_le _,rfl,Lib.hid ⟨rfl,.inl ⟨rfl,rfl⟩⟩,Lib.hid (Below.refl _ _)⟩
 case round=>
  obtain ⟨k,hk,rfl,hown,hbr⟩:=hrel;rcases Nat.lt_or_ge k 30 with hlt | hge
  ·have hk30:(k:Int)<30:=by omega
   have HS:=Lib.hid (upTo_succ p k);have HL:=upTo_le p k;have hq:has p k=p.testBit k:=by rw [has,show known (k:Int)=true from by simp [known];omega,Bool.true_and,Int.toNat_natCast]
   have HC:=Lib.hid (rhas_any p hp k);rw [hq] at HC;clear hq;generalize upTo p k=L at *;cases hb:p.testBit k with
   | false=>
     rw [hb] at HC;rw [hb,if_neg (by decide),List.append_nil] at HS;clear hb
     go_wp2_with (go_at_call 39;with_reducible refine (HC.out _).mono ?_;rintro e w1 ⟨rfl,hw⟩;rw [hw];clear hw);go_roundw
     case rel=>exact ⟨k+1,by omega,by go_num,by rw [HS.out];exact hown,hbr⟩
     case measure=>simp [intOf];omega
   | true=>
     rw [hb] at HC;rw [hb,if_pos rfl] at HS;clear hb
     go_wp2_with (first
      |(go_at_call 39;with_reducible refine (HC.out _).mono ?_;rintro e w1 ⟨rfl,hw⟩;rw [hw];clear hw)
      |(at_builtin;refine wpList_append_own _ rfl _ _ 32 rfl w.heap.size 3 i0 (.int .i64 0) 1 8 Tryz.underlying32 G1.out G2.out G3.out G4.out rfl (by decide) _ _ _ rfl (hown.out.alloc _) ⟨wr.heap.size,0,none⟩ 1 1 [.int .i64 (k:Int)] rfl rfl ?c1 ?c2 ?c3 ?c4 ?c5 ?_))
     case c1=>exact news_one wr _ _
     case c2=>intro u hu;obtain rfl:u=.int .i64 (k:Int):=by simpa using hu
              rfl
     case c3=>unfold maxLen;omega
     case c4=>omega
     case c5=>have:=hbr.out.size;simp;omega
     intro v' w' hown' hgr _
     have H2:Hid (w'.ownsRow w.heap.size 3 1 v' (upTo p (k+1)).length ((upTo p (k+1)).map (Value.int .i64))):=Lib.hid (by rw [HS.out];simpa using hown')
     have H3:Hid (Below w.heap.size w w'):=Lib.hid ((hbr.out.alloc hbr.out.size _).grown hgr (by have:=hbr.out.size;simp;omega) (own_base hown.out));clear hown' hgr hown;go_wp2;go_roundw
     case rel=>exact ⟨k+1,by omega,by go_num,H2,H3⟩
     case measure=>simp [intOf];omega
  ·obtain rfl:k=30:=by omega
   go_wp2;go_ret;exact ⟨_,rfl,hown.out,hbr.out⟩
end code
end Go.Proofs.YtimoakmcelocfaaGreat.Qk
namespace Go.Proofs.YtimoakmcelocfaaGreat.Seat
open Go.RowKit Base Qk
def seatP (a k:Nat):Nat:=
 if k%4=0 then ofL [((k/4%30:Nat):Int)] else if k%4=1 then ofL [((k/4%30:Nat):Int),((a%30:Nat):Int)]
 else if k%4=2 then a%1073741824 &&& (a%1073741824)/128 &&& (a%1073741824)/8192 else a%1073741824
theorem seatP_lt (a k:Nat):seatP a k<2^30:=by
 have h:a%1073741824<2^30:=Nat.mod_lt _ (by decide);unfold seatP;split
 ·exact ofL_lt _
 ·split
  ·exact ofL_lt _
  ·split
   ·exact Nat.lt_of_le_of_lt (Nat.le_trans Nat.and_le_left Nat.and_le_left) h
   ·exact h
theorem mask30 (a:Nat) (ha:a<4294967296):bits .and .u32 (a:Int) 1073741823=((a%1073741824:Nat):Int):=by
 rw [show (1073741823:Int)=((1073741823:Nat):Int) from rfl,u32_and_nat a _ ha (by decide)]
 exact congrArg _ (Nat.and_two_pow_sub_one_eq_mod a 30)
def seatB (k:Nat):Value:=
 Bnd.bnd (if k%6=1 then 64 else if k%6=3 then 80 else 1024) (if k%6=1 then 4 else 32) (if k%6=1 then 256 else 8192) (if k%6=2 then 16 else if k%6=3 then 40 else 65536)
  (if k%6=2 then 0 else 32) (if k%6=2 then 0 else 8) ((k/32%4:Nat)+1:Int) 20 (!decide (k%8=7)) (!decide (12<k%16))
section code
set_option maxHeartbeats 1000000
theorem profile_any (a k:Nat) (ha:a<4294967296) (hk:k<256) (w:World):Calls Tryz.prog 7 #[.int .u32 a,.int .u8 k] w fun e w'=>e=.returned (.int .u32 (seatP a k:Nat))∧Below w.heap.size w w':=by
 have HM:=Lib.hid (mask30 a ha);rcases (by omega:k%4=0∨k%4=1∨k%4=2∨k%4=3) with h | h | h | h
 ·have hr:(k:Int)%4=0:=by omega
  have hs:seatP a k=ofL [((k/4%30:Nat):Int)]:=by rw [seatP,if_pos h]
  rw [hs];go_enter Tryz.func7,Tryz.ntmps7
  go_wp2_with (go_at_call 25;with_reducible refine (rof_any _ _ _ _ _ (Ints.one _ _ rfl _ _) (by decide)).mono ?_;rintro e w1 ⟨rfl,hw⟩;rw [hw];clear hw);go_ret;exact ⟨rfl,(Below.refl _ _).alloc (Nat.le_refl _) _⟩
 ·have hr:(k:Int)%4=1:=by omega
  have hs:seatP a k=ofL [((k/4%30:Nat):Int),((a%30:Nat):Int)]:=by rw [seatP,if_neg (by omega),if_pos h]
  rw [hs];go_enter Tryz.func7,Tryz.ntmps7
  go_wp2_with (go_at_call 25;with_reducible refine (rof_any _ _ _ _ _ (Ints.two _ _ rfl _ _ _) (by decide)).mono ?_;rintro e w1 ⟨rfl,hw⟩;rw [hw];clear hw);go_ret;exact ⟨rfl,(Below.refl _ _).alloc (Nat.le_refl _) _⟩
 ·have hr:(k:Int)%4=2:=by omega
  have hs:seatP a k=a%1073741824 &&& (a%1073741824)/128 &&& (a%1073741824)/8192:=by rw [seatP,if_neg (by omega),if_neg (by omega),if_pos h]
  rw [hs];have hm:=HM.out
  have hp:a%1073741824<1073741824:=Nat.mod_lt _ (by decide);generalize a%1073741824=p at *;go_enter Tryz.func7,Tryz.ntmps7;go_wp2;go_ret;refine ⟨ret_int ?_,Below.refl _ _⟩;have e1:(p:Int)/128=((p/128:Nat):Int):=by omega
  have e2:(p:Int)/8192=((p/8192:Nat):Int):=by omega
  rw [e1,e2,u32_and_nat p _ (by omega) (by omega),u32_and_nat _ _ (Nat.lt_of_le_of_lt Nat.and_le_left (by omega)) (by omega)]
 ·have hr:(k:Int)%4=3:=by omega
  have hs:seatP a k=a%1073741824:=by rw [seatP,if_neg (by omega),if_neg (by omega),if_neg (by omega)]
  rw [hs];have hm:=HM.out;go_enter Tryz.func7,Tryz.ntmps7;go_wp2;go_ret;exact ⟨rfl,Below.refl _ _⟩
set_option maxHeartbeats 16000000 in
theorem bounds_any (k:Nat) (hk:k<256) (w:World):Calls Tryz.prog 9 #[.int .u8 k] w fun e w'=>e=.returned (seatB k)∧Below w.heap.size w w':=by
 have H:=Lib.hid (Bnd.rusual_exact);have HB:seatB k=seatB k:=rfl
 conv at HB=>rhs;unfold seatB
 have HW:((k/32%4:Nat)+1:Int)=(k:Int)/32%4+1:=by omega
 rw [HW] at HB;clear HW;generalize seatB k=B at *;rcases (by omega:k%6=1∨k%6=2∨k%6=3∨(k%6≠1∧k%6≠2∧k%6≠3)) with h | h | h | ⟨h,h',h''⟩<;>rcases (by omega:k%8=7∨k%8≠7) with h8 | h8<;>rcases (by omega:12<k%16∨k%16≤12) with h16 | h16
 all_goals try (exfalso;omega)
 all_goals
  simp [*,Nat.not_lt.2] at HB
  replace HB:=Lib.hid HB
  go_enter Tryz.func9,Tryz.ntmps9
  go_wp2_with (go_at_call 24;with_reducible refine (H.out _).mono ?_;rintro e w1 ⟨rfl,hw⟩;rw [hw];clear hw);rw [HB.out];refine bodyPost_ret ?_ rfl ⟨rfl,(((Below.refl _ _).alloc (Nat.le_refl _) _).alloc (by simp) _).alloc (by simp;omega) _⟩;simp [results,Tryz.results9,go_sem]
end code
end Go.Proofs.YtimoakmcelocfaaGreat.Seat
namespace Go.Proofs.YtimoakmcelocfaaGreat.Txt
open Go.RowKit Base
def lowN (n:Int):Int:=if 65≤n∧n≤90 then n+32 else n
def lowB (b:UInt8):UInt8:=if 65≤b.toNat∧b.toNat≤90 then b+32 else b
theorem lowB_toNat (b:UInt8):((lowB b).toNat:Int)=lowN b.toNat:=by
 unfold lowB lowN;by_cases h:65≤b.toNat∧b.toNat≤90
 ·rw [if_pos h,if_pos (by omega),UInt8.toNat_add];have:(32:UInt8).toNat=32:=rfl;omega
 ·rw [if_neg h,if_neg (by omega)]
theorem len (s:ByteArray):s.data.toList.length=s.size:=by simp
theorem len_mk (l:List UInt8):(ByteArray.mk l.toArray).size=l.length:=by rw [←len]
def low (l:List UInt8):List UInt8:=l.map lowB
def lower (s:ByteArray):ByteArray:=⟨(low s.data.toList).toArray⟩
theorem lower_list (s:ByteArray):(lower s).data.toList=low s.data.toList:=rfl
def same (a b:ByteArray):Bool:=low a.data.toList==low b.data.toList
theorem ba_ext {a b:ByteArray} (h:a.data.toList=b.data.toList):a=b:=by cases a;cases b;simp at h;rw [h]
theorem same_iff (a b:ByteArray):same a b=true↔lower a=lower b:=by unfold same;rw [beq_iff_eq];exact ⟨fun h=>ba_ext (by rw [lower_list,lower_list,h]),fun h=>by rw [←lower_list,←lower_list,h]⟩
def trimL (p:UInt8→Bool) (l:List UInt8):List UInt8:=((l.dropWhile p).reverse.dropWhile p).reverse
def trimB (p:UInt8→Bool) (s:ByteArray):ByteArray:=⟨(trimL p s.data.toList).toArray⟩
theorem trimB_list (p:UInt8→Bool) (s:ByteArray):(trimB p s).data.toList=trimL p s.data.toList:=rfl
theorem dropWhile_all {p:UInt8→Bool}:∀{l r:List UInt8},(∀x∈l,p x=true)→(l++r).dropWhile p=r.dropWhile p
 | [],_,_=>rfl
 | x::l,r,h=>by
   rw [List.cons_append,List.dropWhile_cons,if_pos (h x (by simp))]
   exact dropWhile_all fun y hy=>h y (by simp [hy])
theorem dropWhile_stop {p:UInt8→Bool} {x:UInt8} {l:List UInt8} (h:p x=false):(x::l).dropWhile p=x::l:=by rw [List.dropWhile_cons,if_neg (by simp [h])]
theorem trimL_mid (p:UInt8→Bool) (A M B:List UInt8) (hA:∀x∈A,p x=true) (hB:∀x∈B,p x=true) (hM:M= []∨((∃x r,M=x::r∧p x=false)∧∃x r,M=r ++ [x]∧p x=false)) :
 trimL p (A++(M++B))=M:=by
 unfold trimL;rw [dropWhile_all hA];rcases hM with rfl | ⟨⟨x,r,hx,px⟩,y,t,hy,py⟩
 ·rw [List.nil_append,←List.append_nil B,dropWhile_all hB];rfl
 ·have e1:(M++B).dropWhile p=M++B:=by rw [hx,List.cons_append];exact dropWhile_stop px
  rw [e1,List.reverse_append,dropWhile_all (by intro z hz;exact hB z (by simpa using hz))];have e2:M.reverse.dropWhile p=M.reverse:=by rw [hy,List.reverse_append,List.reverse_singleton,List.singleton_append];exact dropWhile_stop py
  rw [e2,List.reverse_reverse]
def parts (c:UInt8):List UInt8→List (List UInt8)
 | []=> [[]]
 | b::l=>if b=c then []::parts c l else match parts c l with
   | []=> [[b]]
   | p::ps=>(b::p)::ps
theorem parts_none (c:UInt8):∀l:List UInt8,c∉l→parts c l= [l]
 | [],_=>rfl
 | b::l,h=>by
   simp only [List.mem_cons,not_or] at h;rw [parts,if_neg (fun e=>h.1 e.symm),parts_none c l h.2]
theorem parts_cut (c:UInt8):∀(a r:List UInt8),c∉a→parts c (a++c::r)=a::parts c r
 | [],r,_=>by rw [List.nil_append,parts,if_pos rfl]
 | b::a,r,h=>by
   simp only [List.mem_cons,not_or] at h;rw [List.cons_append,parts,if_neg (fun e=>h.1 e.symm),parts_cut c a r h.2]
theorem parts_length (c:UInt8):∀l:List UInt8,(parts c l).length=l.count c+1
 | []=>rfl
 | b::l=>by
   rw [parts];have ih:=parts_length c l;by_cases h:b=c
   ·subst h;rw [if_pos rfl,List.length_cons,ih,List.count_cons_self]
   ·rw [if_neg h,List.count_cons_of_ne h];cases hp:parts c l with
    | nil=>rw [hp] at ih;simp at ih
    | cons p ps=>rw [hp] at ih;simpa using ih
theorem parts_le (c:UInt8) (l:List UInt8):(parts c l).length≤l.length+1:=by rw [parts_length];have:=List.count_le_length (a:=c) (l:=l);omega
theorem parts_size (c:UInt8):∀l:List UInt8,∀p∈parts c l,p.length≤l.length
 | [],p,h=>by simp [parts] at h;subst h;simp
 | b::l,p,h=>by
   rw [parts] at h;have ih:=parts_size c l;split at h
   ·rcases List.mem_cons.1 h with rfl | h
    ·simp
    ·have:=ih p h;simp;omega
   ·cases hp:parts c l with
    | nil=>rw [hp] at h;simp at h;subst h;simp
    | cons q qs=>
      rw [hp] at h ih;rcases List.mem_cons.1 h with rfl | h
      ·have:=ih q (by simp);simp;omega
      ·have:=ih p (by simp [h]);simp;omega
def ba (l:List UInt8):ByteArray:=⟨l.toArray⟩
theorem ba_size (l:List UInt8):(ba l).size=l.length:=len_mk l
def blank (b:UInt8):Bool:=b==32||b==9
def trim (s:ByteArray):ByteArray:=trimB blank s
def partsOf (s:ByteArray):List ByteArray:=(parts 44 s.data.toList).map fun l=>trim (ba l)
def list (vs:List ByteArray):List ByteArray:=vs.flatMap partsOf
abbrev Fld:=ByteArray × ByteArray
def find (l:List Fld) (name:ByteArray):List ByteArray:=(l.filter fun f=>same f.1 name).map (·.2)
def one (names:List ByteArray) (s:ByteArray):Bool:=names.any fun n=>same n s
def without (l:List Fld) (names:List ByteArray):List Fld:=l.filter fun f=>!one names f.1
theorem dropWhile_le (p:UInt8→Bool) (l:List UInt8):(l.dropWhile p).length≤l.length:=(List.dropWhile_sublist p).length_le
theorem trimL_length (p:UInt8→Bool) (l:List UInt8):(trimL p l).length≤l.length:=by unfold trimL;have h1:=dropWhile_le p l;have h2:=dropWhile_le p (l.dropWhile p).reverse;simp only [List.length_reverse] at h2 ⊢;omega
theorem trim_size (p:UInt8→Bool) (s:ByteArray):(trimB p s).size≤s.size:=by
 have:=trimL_length p s.data.toList
 rwa [trimB,len_mk,←len]
def Strs (w:World) (a:Option Addr) (n:Nat) (ss:List ByteArray):Prop:=
 ss.length=n∧(0<n→∃b off,a=some ⟨b,off,none⟩∧b<w.heap.size∧∀k,k<n→w.cell? ⟨b,off+k,none⟩=some (.string (ss[k]?.getD ByteArray.empty)))
theorem Strs.nil (w:World) (a:Option Addr):Strs w a 0 []:=⟨rfl,fun h=>absurd h (by omega)⟩
theorem Strs.below {w w':World} {a:Option Addr} {n:Nat} {ss:List ByteArray} (h:Strs w a n ss) (hb:Below w.heap.size w w'):Strs w' a n ss:=by refine ⟨h.1,fun hn=>?_⟩;obtain ⟨b,off,e,hlt,hc⟩:=h.2 hn;exact ⟨b,off,e,Nat.lt_of_lt_of_le hlt hb.size,fun k hk=>(hb.cell (p:=⟨b,off+k,none⟩) hlt).trans (hc k hk)⟩
theorem Strs.of_own {w:World} {base:Nat} {e:TypeId} {v:Value} {n:Nat} {ss:List ByteArray} (h:w.ownsRow base e 1 v n (ss.map Value.string)):∃A c,v=.slice A n c∧Strs w A n ss:=by
 have hl:ss.length=n:=by simpa using h.1
 rcases h.2 with ⟨rfl,rfl⟩ | ⟨g,cap,cur,rfl,_,hh,_,_,_,ht⟩
 ·exact ⟨none,0,rfl,hl,fun h=>absurd h (by omega)⟩
 ·refine ⟨_,_,rfl,hl,fun _=>⟨g,0,rfl,?_,fun k hk=>?_⟩⟩
  ·rcases Nat.lt_or_ge g w.heap.size with hlt | hge
   ·exact hlt
   ·rw [Array.getElem?_eq_none hge] at hh;cases hh
  ·rw [Nat.zero_add,cell_of_row w g k cur e (0,0) hh];have h1:(ss.map Value.string)[k]?=some (.string (ss[k]?.getD ByteArray.empty)):=by
    rw [List.getElem?_map,List.getElem?_eq_getElem (by omega)];rfl
   rw [←ht,List.getElem?_take_of_lt (by omega)] at h1;simpa using h1
theorem Strs.grown {w w':World} {b off n:Nat} {ss:List ByteArray} (h:Strs w (some ⟨b,off,none⟩) n ss) {row:Option Nat} (hg:w.grownBy w' row) (hne:row≠some b):Strs w' (some ⟨b,off,none⟩) n ss:=by
 refine ⟨h.1,fun hn=>?_⟩;obtain ⟨b',off',e,hlt,hc⟩:=h.2 hn;obtain ⟨rfl,rfl⟩:b=b'∧off=off':=by simpa using e
 exact ⟨b,off,rfl,Nat.lt_of_lt_of_le hlt hg.size,fun k hk=>hg.cell (hc k hk) (fun e=>hne e.symm)⟩
theorem strs_snoc (ss:List ByteArray) (k:Nat) (h:k<ss.length):ss.take (k+1)=ss.take k ++ [ss[k]?.getD ByteArray.empty]:=by rw [List.take_succ_eq_append_getElem h,List.getElem?_eq_getElem h];rfl
theorem grown_of_below {w w':World} (hb:Below w.heap.size w w'):w.grownBy w' none:=⟨hb.os,hb.tape,hb.output,hb.size,fun k hk _=>hb.block k hk⟩
theorem own_below {w w':World} {base:Nat} {e:TypeId} {size:Nat} {v:Value} {n:Nat} {xs:List Value} (h:w.ownsRow base e size v n xs) (hb:Below w.heap.size w w'):w'.ownsRow base e size v n xs:=
 h.kept (grown_of_below hb) (Classical.em _)
theorem map_snoc {α β:Type} (f:α→β) (d:α) (l:List α) (j:Nat) (h:j<l.length):(l.map f).take (j+1)=(l.map f).take j ++ [f (l[j]?.getD d)]:=by rw [List.take_succ_eq_append_getElem (by rw [List.length_map];exact h),List.getElem_map,List.getElem?_eq_getElem h];rfl
def cells (fs:List Fld):List Value:=fs.flatMap fun f=> [.string f.1,.string f.2]
theorem cells_length:∀fs:List Fld,(cells fs).length=fs.length*2
 | []=>rfl
 | f::fs=>by simp [cells] at *;have:=cells_length fs;simp [cells] at this;omega
theorem cells_append (fs gs:List Fld):cells (fs++gs)=cells fs++cells gs:=by simp [cells]
def dflt:Fld:=(ByteArray.empty,ByteArray.empty)
theorem cells_at:∀(fs:List Fld) (k:Nat),k<fs.length→(cells fs)[k*2]?=some (.string (fs[k]?.getD dflt).1)∧(cells fs)[k*2+1]?=some (.string (fs[k]?.getD dflt).2)
 | [],k,h=>by simp at h
 | f::fs,0,_=>by simp [cells]
 | f::fs,k+1,h=>by
   have:=cells_at fs k (by simpa using h);have e:cells (f::fs)=.string f.1 :: .string f.2::cells fs:=by simp [cells]
   rw [e,show (k+1)*2=k*2+2 by omega,show k*2+2+1=(k*2+1)+2 by omega];simpa using this
def Flds (w:World) (a:Option Addr) (n:Nat) (fs:List Fld):Prop:=
 fs.length=n∧(0<n→∃b off,a=some ⟨b,off,none⟩∧b<w.heap.size∧∀k,k<n→w.cell? ⟨b,off+k*2,none⟩=some (.string (fs[k]?.getD dflt).1)∧w.cell? ⟨b,off+k*2+1,none⟩=some (.string (fs[k]?.getD dflt).2))
theorem Flds.below {w w':World} {a:Option Addr} {n:Nat} {fs:List Fld} (h:Flds w a n fs) (hb:Below w.heap.size w w'):Flds w' a n fs:=by refine ⟨h.1,fun hn=>?_⟩;obtain ⟨b,off,e,hlt,hc⟩:=h.2 hn;exact ⟨b,off,e,Nat.lt_of_lt_of_le hlt hb.size,fun k hk=>⟨(hb.cell (p:=⟨b,off+k*2,none⟩) hlt).trans (hc k hk).1,(hb.cell (p:=⟨b,off+k*2+1,none⟩) hlt).trans (hc k hk).2⟩⟩
theorem Flds.of_cells {w:World} {b:Nat} {fs:List Fld} {n:Nat} (hn:fs.length=n) (hb:b<w.heap.size) (h:∀j,j<n*2→w.cell? ⟨b,j,none⟩=(cells fs)[j]?):Flds w (some ⟨b,0,none⟩) n fs:=by
 refine ⟨hn,fun _=>⟨b,0,rfl,hb,fun k hk=>?_⟩⟩
 have:=cells_at fs k (by omega);rw [Nat.zero_add,h (k*2) (by omega),h (k*2+1) (by omega)];exact this
theorem Flds.of_own {w:World} {base:Nat} {e:TypeId} {v:Value} {n:Nat} {fs:List Fld} (h:w.ownsRow base e 2 v n (cells fs)):∃A c,v=.slice A n c∧Flds w A n fs:=by
 have hl:fs.length=n:=by have:=h.1;rw [cells_length] at this;omega
 rcases Nat.eq_zero_or_pos n with h0 | hp
 ·subst h0;rcases h.2 with ⟨rfl,_⟩ | ⟨g,cap,cur,rfl,_⟩
  ·exact ⟨none,0,rfl,hl,fun h=>absurd h (by omega)⟩
  ·exact ⟨_,_,rfl,hl,fun h=>absurd h (by omega)⟩
 ·obtain ⟨g,cap,rfl,_,hg⟩:=h.form hp;exact ⟨_,_,rfl,Flds.of_cells hl hg fun j hj=>h.cellAt j hj⟩
theorem flds_snoc (fs:List Fld) (k:Nat) (h:k<fs.length):fs.take (k+1)=fs.take k ++ [fs[k]?.getD dflt]:=by rw [List.take_succ_eq_append_getElem h,List.getElem?_eq_getElem h];rfl
end Go.Proofs.YtimoakmcelocfaaGreat.Txt
namespace Go.Proofs.YtimoakmcelocfaaGreat.Txt
open Go.RowKit Base
def nums (bs:List UInt8):List Int:=bs.map fun b=>(b.toNat:Int)
theorem nums_at (bs:List UInt8) (k:Nat) (h:k<bs.length):(nums bs)[k]?.getD 0=(bs[k].toNat:Int):=by rw [nums,List.getElem?_map,List.getElem?_eq_getElem h];rfl
theorem conv_str (w:World) (a:Option Addr) (n cap:Nat) (bs:List UInt8) (h:Nums .u8 w a n (nums bs)):(convert 34 9 (.slice a n cap)).run Tryz.prog w=.ok (.string (ba bs)) w:=by
 have hl:bs.length=n:=by have:=h.1;rwa [nums,List.length_map] at this
 have key:∀b off,(∀k,k<n→w.cell? ⟨b,off+k,none⟩=some (.int .u8 ((nums bs)[k]?.getD 0)))→(convert 34 9 (.slice (some ⟨b,off,none⟩) n cap)).run Tryz.prog w=.ok (.string (ba bs)) w:=by
  intro b off hc
  have:=run_convert_bytes_back (P:=Tryz.prog) w 34 9 5 ⟨b,off,none⟩ cap bs Tryz.underlying34 Tryz.underlying5 Tryz.underlying9 (fun j hj=>by
   have e:(⟨b,off,none⟩:Addr).add j=⟨b,off+j,none⟩:=by unfold Addr.add;by_cases h:j=0<;>simp [h]
   rw [e,hc j (by omega),nums_at bs j hj])
  rw [hl] at this;exact this
 rcases Nat.eq_zero_or_pos n with h0 | hp
 ·subst h0;obtain rfl:bs= []:=List.length_eq_zero_iff.1 hl;cases a with
  | none=>rw [run_convert_bytes_string w 34 9 5 none 0 cap Tryz.underlying34 Tryz.underlying5 Tryz.underlying9];rfl
  | some x=>
    exact run_convert_bytes_back (P:=Tryz.prog) w 34 9 5 x cap [] Tryz.underlying34 Tryz.underlying5 Tryz.underlying9 (fun j hj=>by simp at hj)
 ·obtain ⟨b,off,rfl,_,hc⟩:=h.2 hp;exact key b off hc
def Lines (w:World) (a:Option Addr) (n:Nat) (ls:List (List UInt8)):Prop:=
 ls.length=n∧(0<n→∃b off,a=some ⟨b,off,none⟩∧b<w.heap.size∧∀k,k<n→∃ak ck,w.cell? ⟨b,off+k,none⟩=some (.slice ak (ls[k]?.getD []).length ck)∧Nums .u8 w ak (ls[k]?.getD []).length (nums (ls[k]?.getD [])))
end Go.Proofs.YtimoakmcelocfaaGreat.Txt
