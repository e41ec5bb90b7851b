import Derived.Test.YtimoakmcelocfaaGreatProg
import Derived.WalkKit
import Derived.WalkSpells
import Derived.WalkLawsBesides
import Derived.Lib.Hide
import Derived.Deep.Draws
import Derived.OrdersHeld
import Derived.Deep.RegionHeld
import Derived.BigRegion
import Derived.Maps.AppendAt
import Derived.Laws.Append
import Derived.Lib.Strings
import Derived.LaidLaws
import Derived.OpenShut
import Derived.ChangeArms
import Derived.ChangeKeysEq
import Derived.Test.YtimoakmcelocfaaGreatRows
import Derived.ProofKit
import Derived.ShutString
import Derived.ChangeOld
import Derived.Below
import Derived.SizedLaws
import Derived.Laws.BitsAllLaws
import Derived.Laws.ShiftsVarLaws
import Derived.ChangeSame
import Derived.Lib.Split
import Derived.Lib.SplitLaws
import Derived.Lib.IndexBytes
import Derived.Deep.AppendLies
import Derived.Laws.IdiomStrings
import Derived.Laws.BytesString
import Derived.Shelf.Strings.Builder1
import Derived.Shelf.Strings.BuilderF
import Derived.Shelf.Strings.BuilderK
import Derived.Shelf.Strings.BuilderCap
import Derived.Deep.QuietTactic
import Derived.BigQuiet
import Derived.Lib.Bytealg
import Derived.Lib.TrimByte
import Derived.WalkMore
import Derived.Lib.CutLaws
import Derived.Lib.AppendStr
import Derived.Laws.OwnMore
import Derived.Shelf.Abstract
import Derived.Shelf.Strings.Split
import Derived.Lib.IndexAny
import Derived.Lib.QuoteLoop
import Derived.Lib.RuneCount
import Derived.Laws.RangeAny
import Derived.Laws.Runes
import Derived.Deep.LoopGhost
import Derived.Deep.CutBlock
import Derived.Deep.DeepCutAuto
import Derived.Lib.FieldsP
import Derived.Lib.SlicesS
import Derived.Deep.RegionWith
import Derived.Deep.CutRange
import Derived.Laws.BytesArg
import Derived.Shelf.Bytes.SlSmallAll
import Derived.OneCell
import Derived.RegionTactic
import Derived.Lib.FrozenHead
import Derived.Lib.Builder
import Derived.Laws.Tables
import Derived.Laws.Rows
import Derived.Laws.CopyOwn
import Derived.Great.Walk
import Derived.LoopN
import Derived.Lib.UnsafeStr
namespace Go.Proofs.YtimoakmcelocfaaGreat.Base
open Go.RowKit
def Ints (w:World) (a:Option Addr) (n:Nat) (zs:List Int):Prop:=
 zs.length=n∧(0<n→∃b off,a=some ⟨b,off,none⟩∧b<w.heap.size∧∀k,k<n→w.cell? ⟨b,off+k,none⟩=some (.int .i64 (zs[k]?.getD 0)))
theorem Ints.nil (w:World) (a:Option Addr):Ints w a 0 []:=⟨rfl,fun h=>absurd h (by omega)⟩
theorem Ints.new (w:World) (cs:Array Value) (t:TypeId) (zs:List Int) (n:Nat) (hn:zs.length=n) (h:∀k,k<n→cs[k]?=some (.int .i64 (zs[k]?.getD 0))) :
 Ints (w.alloc (.cells cs t)) (some ⟨w.heap.size,0,none⟩) n zs:=by
 refine ⟨hn,fun _=>⟨w.heap.size,0,rfl,by simp,fun k hk=>?_⟩⟩;rw [Nat.zero_add]
 exact (cell_of_row (w.alloc (.cells cs t)) w.heap.size k cs t (0,0) (heap_alloc_new w _)).trans (h k hk)
theorem Ints.one (w:World) (g:Nat) (hg:g=w.heap.size) (x:Int) (t:TypeId):Ints (w.alloc (.cells #[.int .i64 x] t)) (some ⟨g,0,none⟩) 1 [x]:=by
 subst hg;refine Ints.new w _ t [x] 1 rfl ?_;intro k hk;obtain rfl:k=0:=by omega
 rfl
theorem Ints.of_own {w:World} {base:Nat} {e:TypeId} {v:Value} {n:Nat} {zs:List Int} (h:w.ownsRow base e 1 v n (zs.map (Value.int .i64))):∃A c,v=.slice A n c∧Ints w A n zs:=by
 have hl:zs.length=n:=by simpa using h.1
 rcases h.2 with ⟨rfl,rfl⟩ | ⟨g,cap,cur,rfl,_,hh,_,_,_,ht⟩
 ·exact ⟨none,0,rfl,hl,fun h=>absurd h (by omega)⟩
 ·refine ⟨_,_,rfl,hl,fun _=>⟨g,0,rfl,?_,fun k hk=>?_⟩⟩
  ·rcases Nat.lt_or_ge g w.heap.size with hlt | hge
   ·exact hlt
   ·rw [Array.getElem?_eq_none hge] at hh;cases hh
  ·rw [Nat.zero_add,cell_of_row w g k cur e (0,0) hh];have h1:(zs.map (Value.int .i64))[k]?=some (.int .i64 (zs[k]?.getD 0)):=by
    rw [List.getElem?_map,List.getElem?_eq_getElem (by omega)];rfl
   rw [←ht,List.getElem?_take_of_lt (by omega)] at h1;simpa using h1
theorem own_base {w:World} {base:Nat} {e:TypeId} {size:Nat} {v:Value} {n:Nat} {xs:List Value} (h:w.ownsRow base e size v n xs) (g:Nat) (hg:v.ownBlock=some g):base≤g:=by
 rcases h.2 with ⟨rfl,_⟩ | ⟨g',_,_,rfl,hb,_⟩
 ·simp [Value.ownBlock] at hg
 ·simp [Value.ownBlock] at hg;omega
theorem news_one (w:World) (v:Value) (t:TypeId):∀(j:Nat) (u:Value),[v][j]?=some u→(w.alloc (.cells #[v] t)).cell? (Addr.add ⟨w.heap.size,0,none⟩ j)=some u:=by
 intro j u hu;have hj:j=0:=by
  rcases Nat.eq_zero_or_pos j with h | h
  ·exact h
  ·rw [List.getElem?_eq_none (by simp;omega)] at hu;cases hu
 subst hj;have:v=u:=by simpa using hu
 subst this
 exact (cell_of_row (w.alloc (.cells #[v] t)) w.heap.size 0 #[v] t (0,0) (heap_alloc_new w _))
theorem some_undef:(some undef:Option Value)=some (.tuple #[]):=rfl
theorem below_drewN {B:Nat} {a w:World} (h:Below B a w) (n:Nat):Below B a (w.drewN n):=⟨h.os,h.tape,h.output,h.size,h.block⟩
theorem ret_bool {a b:Bool} (h:a=true↔b=true):Ending.returned (.bool a)=.returned (.bool b):=by rw [Bool.eq_iff_iff.2 h]
theorem ret_int {k:IntKind} {a b:Int} (h:a=b):Ending.returned (.int k a)=.returned (.int k b):=by rw [h]
theorem take_snoc (s:ByteArray) (k:Nat) (h:k<s.size):s.data.toList.take (k+1)=s.data.toList.take k ++ [s[k]]:=by rw [List.take_succ_eq_append_getElem (by simpa using h)];rfl
theorem take_all (s:ByteArray) (k:Nat) (h:s.size≤k):s.data.toList.take k=s.data.toList:=List.take_of_length_le (by simpa using h)
theorem byte_lt (b:UInt8):(b.toNat:Int)≤255:=by have:=b.toNat_lt;omega
theorem byte_mem (s:ByteArray) (k:Nat) (h:k<s.size):s[k]∈s.data.toList:=by
 have:=take_snoc s k h
 exact List.mem_of_mem_take (i:=k+1) (by rw [this];simp)
theorem ints_snoc (zs:List Int) (k:Nat) (h:k<zs.length):zs.take (k+1)=zs.take k ++ [zs[k]?.getD 0]:=by rw [List.take_succ_eq_append_getElem h,List.getElem?_eq_getElem h];rfl
theorem below_step {a b c:World} (h1:Below a.heap.size a b) (h2:Below b.heap.size b c):Below a.heap.size a c:=h1.trans (h2.mono h1.size)
def Nums (kd:IntKind) (w:World) (a:Option Addr) (n:Nat) (zs:List Int):Prop:=
 zs.length=n∧(0<n→∃b off,a=some ⟨b,off,none⟩∧b<w.heap.size∧∀k,k<n→w.cell? ⟨b,off+k,none⟩=some (.int kd (zs[k]?.getD 0)))
theorem Nums.nil (kd:IntKind) (w:World) (a:Option Addr):Nums kd w a 0 []:=⟨rfl,fun h=>absurd h (by omega)⟩
theorem Nums.below {kd:IntKind} {w w':World} {a:Option Addr} {n:Nat} {zs:List Int} (h:Nums kd w a n zs) (hb:Below w.heap.size w w'):Nums kd w' a n zs:=by refine ⟨h.1,fun hn=>?_⟩;obtain ⟨b,off,e,hlt,hc⟩:=h.2 hn;exact ⟨b,off,e,Nat.lt_of_lt_of_le hlt hb.size,fun k hk=>(hb.cell (p:=⟨b,off+k,none⟩) hlt).trans (hc k hk)⟩
theorem wrap_in (x:Int) (h0: -9223372036854775808≤x) (h1:x≤9223372036854775807):IntKind.i64.wrap x=x:=by rw [IntKind.wrap_i64];omega
end Go.Proofs.YtimoakmcelocfaaGreat.Base
namespace Go.Proofs.YtimoakmcelocfaaGreat.Sched
open Go.RowKit
def fits (ops:Array Oper):List (Nat × Bool)→Array Bool→Bool
 | [],listed=>(Region.ready .any ops listed).isEmpty
 |(k,act)::ks,listed=>(if act then Region.ready .any ops listed == [k] else (Region.ready .any ops listed).contains k&&Region.free .any ops listed k)&&fits ops ks (listed.setIfInBounds k true)
def walk (P:Program) (ops:Array Oper) (Q:Exit→Act→World→Prop) (S:World→Prop):List (Bool × Oper)→Act→World→Prop
 | [],a,w=>Q .normal a w
 |(act,o)::rest,a,w=>
  if Region.wanted o (yielded ops a.tmps)=true then
   (if act=true then o.wp P a w (fun a' w'=>S w'∧walk P ops Q S rest a' w') Q
    else∃v,(∀w',S w'→(execOp a.eval o).run P w'=.ok (.value v) w')∧walk P ops Q S rest (a.put o.dst v) w)
  else walk P ops Q S rest (a.put o.dst undef) w
def picked (l:List Oper) (ks:List (Nat × Bool)):List (Bool × Oper):=ks.filterMap fun k=>(l[k.1]?).map fun o=>(k.2,o)
section
variable {P:Program} {l:List Oper} {Q:Exit→Act→World→Prop} {S:World→Prop}
theorem held_of_walk (hs:Region.noSelect l.toArray=true) (hQ:∀c a d v w,Q (.panic c) (Act.put a d v) w→Q (.panic c) a w):∀(ks:List (Nat × Bool)) (listed:Array Bool) (a:Act) (w:World),
 (∀k∈ks,k.1<l.length)→fits l.toArray ks listed=true→S w→walk P l.toArray Q S (picked l ks) a w→wpAnyH P .any l.toArray Q S ks.length listed a w
 | [],listed,a,w,_,hf,_,h=>wpAnyH_done (by simpa [fits] using hf) (by simpa [walk,picked] using h) _
 |(k,act)::ks,listed,a,w,hb,hf,hS,h=>by
  have hk:k<l.length:=hb (k,act) (by simp)
  have hb':∀x∈ks,x.1<l.length:=fun x hx=>hb x (by simp [hx]);have ho:l.toArray[k]?=some l[k]:=by simp [hk]
  have hp:picked l ((k,act)::ks)=(act,l[k])::picked l ks:=by simp [picked,hk]
  rw [hp] at h;simp only [fits,Bool.and_eq_true] at hf;obtain ⟨h1,h2⟩:=hf;simp only [walk] at h;cases act with
  | true=>
    simp only [if_true] at h h1;have hr:Region.ready .any l.toArray listed= [k]:=by simpa using h1
    refine wpAnyH_all hr (by simp) ?_;intro i hi;obtain rfl:i=k:=by simpa using hi
    unfold wpOp;simp only [ho];by_cases hw:Region.wanted l[i] (yielded l.toArray a.tmps)=true
    ·simp only [hw,if_true] at h ⊢
     exact .inl (Oper.wp_mono (fun a' w' h'=>⟨h'.1,held_of_walk hs hQ ks _ a' w' hb' h2 h'.1 h'.2⟩) h)
    ·simp only [hw] at h ⊢;exact ⟨hS,held_of_walk hs hQ ks _ _ _ hb' h2 hS h⟩
  | false=>
    simp only [Bool.false_eq_true,if_false,Bool.and_eq_true] at h h1;by_cases hw:Region.wanted l[k] (yielded l.toArray a.tmps)=true
    ·simp only [hw,if_true] at h;obtain ⟨v,hv,h⟩:=h
     exact wpAnyH_take ho hs h1.2 h1.1 (fun c a w=>hQ c a _ _ w) (.inl ⟨hw,hv⟩) hS (held_of_walk hs hQ ks _ _ _ hb' h2 hS h)
    ·simp only [hw] at h
     exact wpAnyH_take ho hs h1.2 h1.1 (fun c a w=>hQ c a _ _ w) (.inr ⟨by simpa using hw,rfl⟩) hS (held_of_walk hs hQ ks _ _ _ hb' h2 hS h)
def good (l:List Oper) (ks:List (Nat × Bool)):Bool:=Region.noSelect l.toArray&&(decide (ks.length=l.length)&&(ks.all (fun k=>decide (k.1<l.length))&&fits l.toArray ks (Array.replicate l.length false)))
structure Step (P:Program) (ops:Array Oper) (Q:Exit→Act→World→Prop) (S:World→Prop) (l:List (Bool × Oper)) (a:Act) (w:World):Prop where
 out:walk P ops Q S l a w
theorem region (ks:List (Nat × Bool)) {id:Nat} {a:Act} {w:World} (S:World→Prop) (hm:P.follows .mixedOrders=true) (hg:good l ks=true)
 (hQ:∀c a d v w,Q (.panic c) (Act.put a d v) w→Q (.panic c) a w) (hS:S (w.drewN 1)) (h:Step P l.toArray Q S (picked l ks) a (w.drewN 1)):(Code.region id l.toArray true).wp P Q a w:=by
 simp only [good,Bool.and_eq_true,List.all_eq_true,decide_eq_true_eq] at hg;obtain ⟨g0,g1,g2,g3⟩:=hg;refine wp_region_held (S:=S) hm ?_;have:=held_of_walk g0 hQ ks _ a _ g2 g3 hS h.out;rw [g1] at this;simpa [World.drewN] using this
variable {ops:Array Oper} {o:Oper} {rest:List (Bool × Oper)} {a:Act} {w:World} {act:Bool}
theorem skip (hw:Region.wanted o (yielded ops a.tmps)=false) (h:Step P ops Q S rest (a.put o.dst undef) w):Step P ops Q S ((act,o)::rest) a w:=
 ⟨by simp only [walk,hw,Bool.false_eq_true,if_false];exact h.out⟩
theorem quiet (hw:Region.wanted o (yielded ops a.tmps)=true) (v:Value) (hv:∀w',S w'→(execOp a.eval o).run P w'=.ok (.value v) w') (h:Step P ops Q S rest (a.put o.dst v) w):Step P ops Q S ((false,o)::rest) a w:=
 ⟨by simp only [walk,hw,if_true,Bool.false_eq_true,if_false];exact ⟨v,hv,h.out⟩⟩
theorem move (x:Operand) (hop:o.op=.move x) (hw:Region.wanted o (yielded ops a.tmps)=true) (h:Step P ops Q S rest (a.put o.dst (a.eval x)) w):Step P ops Q S ((false,o)::rest) a w:=
 quiet hw _ (fun w' _=>BigFrame.run_move x hop w') h
theorem assign (x:Operand) (hop:o.op=.assign x) (hw:Region.wanted o (yielded ops a.tmps)=true) (h:Step P ops Q S rest (a.put o.dst (a.eval x)) w):Step P ops Q S ((false,o)::rest) a w:=
 quiet hw _ (fun w' _=>BigFrame.run_assign x hop w') h
theorem change (hw:Region.wanted o (yielded ops a.tmps)=true) (h:∀K:Act→World→Prop,(∀a' w',S w'→Step P ops Q S rest a' w'→K a' w')→o.wp P a w K Q):Step P ops Q S ((true,o)::rest) a w:=by refine ⟨?_⟩;simp only [walk,hw,if_true];exact h _ fun a' w' h1 h2=>⟨h1,h2.out⟩
theorem done (h:Q .normal a w):Step P ops Q S [] a w:=⟨h⟩
end
end Go.Proofs.YtimoakmcelocfaaGreat.Sched
namespace Go.Proofs.YtimoakmcelocfaaGreat.Tree
open Go.RowKit
inductive Plan where
 | done:Plan
 | quiet (k:Nat) (t:Plan):Plan
 | act (k:Nat) (t:Plan):Plan
 | two (k:Nat) (t:Plan) (j:Nat) (s:Plan):Plan
inductive Way where
 | done:Way
 | stuck:Way
 | quiet (o:Oper) (t:Way):Way
 | act (o:Oper) (t:Way):Way
 | two (t:Way) (s:Way):Way
def put1 (f:Oper→Way):Option Oper→Way
 | some o=>f o
 | none=>.stuck
def grow (l:List Oper):Plan→Way
 | .done=>.done
 | .quiet k t=>put1 (fun o=>.quiet o (grow l t)) l[k]?
 | .act k t=>put1 (fun o=>.act o (grow l t)) l[k]?
 | .two k t j s=>.two (put1 (fun o=>.act o (grow l t)) l[k]?) (put1 (fun o=>.act o (grow l s)) l[j]?)
def fits (ops:Array Oper):Plan→Nat→Array Bool→Bool
 | .done,_,listed=>(Region.ready .any ops listed).isEmpty
 | .quiet k t,n+1,listed=>(Region.ready .any ops listed).contains k&&Region.free .any ops listed k&&fits ops t n (listed.setIfInBounds k true)
 | .act k t,n+1,listed=>Region.ready .any ops listed == [k]&&fits ops t n (listed.setIfInBounds k true)
 | .two k t j s,n+1,listed=>Region.ready .any ops listed == [k,j]&&fits ops t n (listed.setIfInBounds k true)&&fits ops s n (listed.setIfInBounds j true)
 | _,0,_=>false
def walk (P:Program) (ops:Array Oper) (Q:Exit→Act→World→Prop) (S:World→Prop):Way→Act→World→Prop
 | .done,a,w=>Q .normal a w
 | .stuck,_,_=>False
 | .quiet o t,a,w=>
   if Region.wanted o (yielded ops a.tmps)=true then∃v,(∀w',S w'→(execOp a.eval o).run P w'=.ok (.value v) w')∧walk P ops Q S t (a.put o.dst v) w
   else walk P ops Q S t (a.put o.dst undef) w
 | .act o t,a,w=>if Region.wanted o (yielded ops a.tmps)=true then o.wp P a w (fun a' w'=>S w'∧walk P ops Q S t a' w') Q else walk P ops Q S t (a.put o.dst undef) w
 | .two t s,a,w=>walk P ops Q S t a w∧walk P ops Q S s a w
section
variable {P:Program} {l:List Oper} {Q:Exit→Act→World→Prop} {S:World→Prop}
theorem step_act {n k:Nat} {listed:Array Bool} {a:Act} {w:World} {t:Plan} (hS:S w)
 (ih:∀(a:Act) (w:World),S w→walk P l.toArray Q S (grow l t) a w→wpAnyH P .any l.toArray Q S n (listed.setIfInBounds k true) a w)
 (h:walk P l.toArray Q S (put1 (fun o=>.act o (grow l t)) l[k]?) a w):wpOp P l.toArray Q k (fun a' w'=>S w'∧wpAnyH P .any l.toArray Q S n (listed.setIfInBounds k true) a' w') a w:=by
 cases hk:l[k]? with
 | none=>rw [hk] at h;exact h.elim
 | some o=>
   rw [hk] at h;have ho:l.toArray[k]?=some o:=by simpa using hk
   unfold wpOp;simp only [ho];simp only [put1,walk] at h;by_cases hw:Region.wanted o (yielded l.toArray a.tmps)=true
   ·simp only [hw,if_true] at h ⊢
    exact .inl (Oper.wp_mono (fun a' w' h'=>⟨h'.1,ih a' w' h'.1 h'.2⟩) h)
   ·simp only [hw] at h ⊢;exact ⟨hS,ih _ _ hS h⟩
theorem held_of_walk (hs:Region.noSelect l.toArray=true) (hQ:∀c a d v w,Q (.panic c) (Act.put a d v) w→Q (.panic c) a w):∀(p:Plan) (n:Nat) (listed:Array Bool) (a:Act) (w:World),
 fits l.toArray p n listed=true→S w→walk P l.toArray Q S (grow l p) a w→wpAnyH P .any l.toArray Q S n listed a w
 | .done,n,listed,a,w,hf,_,h=>wpAnyH_done (by simpa [fits] using hf) (by simpa [walk,grow] using h) _
 | .quiet k t,0,listed,a,w,hf,_,_=>by simp [fits] at hf
 | .act k t,0,listed,a,w,hf,_,_=>by simp [fits] at hf
 | .two k t j s,0,listed,a,w,hf,_,_=>by simp [fits] at hf
 | .quiet k t,n+1,listed,a,w,hf,hS,h=>by
   simp only [fits,Bool.and_eq_true] at hf;obtain ⟨h1,h2⟩:=hf;cases hk:l[k]? with
   | none=>rw [grow,hk] at h;exact h.elim
   | some o=>
     rw [grow,hk] at h;have ho:l.toArray[k]?=some o:=by simpa using hk
     simp only [put1,walk] at h;by_cases hw:Region.wanted o (yielded l.toArray a.tmps)=true
     ·simp only [hw,if_true] at h;obtain ⟨v,hv,h⟩:=h
      exact wpAnyH_take ho hs h1.2 h1.1 (fun c a w=>hQ c a _ _ w) (.inl ⟨hw,hv⟩) hS (held_of_walk hs hQ t n _ _ _ h2 hS h)
     ·simp only [hw] at h
      exact wpAnyH_take ho hs h1.2 h1.1 (fun c a w=>hQ c a _ _ w) (.inr ⟨by simpa using hw,rfl⟩) hS (held_of_walk hs hQ t n _ _ _ h2 hS h)
 | .act k t,n+1,listed,a,w,hf,hS,h=>by
   simp only [fits,Bool.and_eq_true] at hf;obtain ⟨h1,h2⟩:=hf;have hr:Region.ready .any l.toArray listed= [k]:=by simpa using h1
   refine wpAnyH_all hr (by simp) ?_;intro i hi;obtain rfl:i=k:=by simpa using hi
   exact step_act hS (fun a w hS h=>held_of_walk hs hQ t n _ a w h2 hS h) h
 | .two k t j s,n+1,listed,a,w,hf,hS,h=>by
   simp only [fits,Bool.and_eq_true] at hf;obtain ⟨⟨h1,h2⟩,h3⟩:=hf;have hr:Region.ready .any l.toArray listed= [k,j]:=by simpa using h1
   simp only [grow,walk] at h;refine wpAnyH_all hr (by simp) ?_;intro i hi;simp only [List.mem_cons,List.not_mem_nil,or_false] at hi;rcases hi with rfl | rfl
   ·exact step_act hS (fun a w hS h=>held_of_walk hs hQ t n _ a w h2 hS h) h.1
   ·exact step_act hS (fun a w hS h=>held_of_walk hs hQ s n _ a w h3 hS h) h.2
def good (l:List Oper) (p:Plan):Bool:=Region.noSelect l.toArray&&fits l.toArray p l.length (Array.replicate l.length false)
structure Step (P:Program) (ops:Array Oper) (Q:Exit→Act→World→Prop) (S:World→Prop) (t:Way) (a:Act) (w:World):Prop where
 out:walk P ops Q S t a w
theorem region (p:Plan) {id:Nat} {a:Act} {w:World} (S:World→Prop) (hm:P.follows .mixedOrders=true) (hg:good l p=true)
 (hQ:∀c a d v w,Q (.panic c) (Act.put a d v) w→Q (.panic c) a w) (hS:S (w.drewN 1)) (h:Step P l.toArray Q S (grow l p) a (w.drewN 1)):(Code.region id l.toArray true).wp P Q a w:=by
 simp only [good,Bool.and_eq_true] at hg;refine wp_region_held (S:=S) hm ?_;have:=held_of_walk hg.1 hQ p _ _ a _ hg.2 hS h.out;simpa [World.drewN] using this
variable {ops:Array Oper} {o:Oper} {t s:Way} {a:Act} {w:World}
theorem quiet (hw:Region.wanted o (yielded ops a.tmps)=true) (v:Value) (hv:∀w',S w'→(execOp a.eval o).run P w'=.ok (.value v) w') (h:Step P ops Q S t (a.put o.dst v) w):Step P ops Q S (.quiet o t) a w:=by exact ⟨by simp only [walk,hw,if_true];exact ⟨v,hv,h.out⟩⟩
theorem assign (x:Operand) (hop:o.op=.assign x) (hw:Region.wanted o (yielded ops a.tmps)=true) (h:Step P ops Q S t (a.put o.dst (a.eval x)) w):Step P ops Q S (.quiet o t) a w:=
 quiet hw _ (fun w' _=>BigFrame.run_assign x hop w') h
theorem change (hw:Region.wanted o (yielded ops a.tmps)=true) (h:∀K:Act→World→Prop,(∀a' w',S w'→Step P ops Q S t a' w'→K a' w')→o.wp P a w K Q):Step P ops Q S (.act o t) a w:=by refine ⟨?_⟩;simp only [walk,hw,if_true];exact h _ fun a' w' h1 h2=>⟨h1,h2.out⟩
theorem both (h1:Step P ops Q S t a w) (h2:Step P ops Q S s a w):Step P ops Q S (.two t s) a w:=⟨⟨h1.out,h2.out⟩⟩
theorem done (h:Q .normal a w):Step P ops Q S .done a w:=⟨h⟩
end
end Go.Proofs.YtimoakmcelocfaaGreat.Tree
namespace Go.Proofs.YtimoakmcelocfaaGreat.App
open Go.RowKit
variable {P:Program}
theorem run_append_zero (w:World) (t ty e:TypeId) (i:TypeInfo) (ht:P.underlying t=some (.slice e)) (hi:P.info? e=some i) (b:Option Addr) (n cap:Nat) (h:n≤cap) (a:Option Addr) (c:Nat) :
 (Builtin.append_ #[t,t] ty #[.slice b n cap,.slice a 0 c]).run P w=.ok (.slice b n cap) w:=by
 have hb:∀x:Addr,(storeCells x []).run P w=.ok () w:=fun x=>rfl;have hl:∀x:Addr,(loadCells x 0).run P w=.ok #[] w:=fun x=>rfl;cases b<;>cases a<;>simp [Builtin.append_,run_underlying ht,sizeOf,typeInfo,hi,Builtin.lenOf,Builtin.firstCells,h,hb,hl]
theorem run_append_list (w:World) (t ty:TypeId)
 (base:Nat) (e:TypeId) (i:TypeInfo) (z:Value) (size bytes:Nat) (ht:P.underlying t=some (.slice e)) (hi:P.info? e=some i) (hz:i.zero=some z)
 (hsize:i.size=size) (hby:i.bytes=bytes) (hzs:z.cells.size=size) (hsz:0<size)
 (v:Value) (n:Nat) (xs:List Value) (hown:w.ownsRow base e size v n xs)
 (xa:Option Addr) (m c:Nat) (news:List Value) (hl:news.length=m*size)
 (hnews:0<m→∃b off,xa=some ⟨b,off,none⟩∧∀j u,news[j]?=some u→w.cell? ⟨b,off+j,none⟩=some u) (h1:∀u∈news,u.oneCell'=true)
 (h63:n+m≤maxLen) (hbytes:(n+m)*bytes≤140737488355328) (hbase:base≤w.heap.size) :
 ∃v' w',(Builtin.append_ #[t,t] ty #[v,.slice xa m c]).run P w=.ok v' w'∧w'.ownsRow base e size v' (n+m) (xs++news)∧w.grownBy w' v.ownBlock∧(v'.ownBlock=v.ownBlock∨v'.ownBlock=some w.heap.size):=by
 rcases Nat.eq_zero_or_pos m with h0 | hp
 ·subst h0;obtain rfl:news= []:=by simpa using hl
  obtain ⟨b,cap,hv,hcap⟩:∃b cap,v=.slice b n cap∧n≤cap:=by
   rcases hown.2 with ⟨rfl,rfl⟩ | ⟨g,cap,cur,rfl,_,_,hc,_⟩
   ·exact ⟨none,0,rfl,Nat.le_refl _⟩
   ·exact ⟨_,cap,rfl,hc⟩
  have hr:=run_append_zero (P:=P) w t ty e i ht hi b n cap hcap xa c;rw [←hv] at hr;exact ⟨v,w,hr,by rw [Nat.add_zero,List.append_nil];exact hown,⟨rfl,rfl,rfl,Nat.le_refl _,fun _ _ _=>rfl⟩,.inl rfl⟩
 ·obtain ⟨b,off,rfl,hc⟩:=hnews hp
  obtain ⟨v',w',hr,h2,h3,_,h5⟩:=run_append_own_at (P:=P) w base t ty e i z size bytes ht hi hz hsize hby hzs hsz v n xs hown ⟨b,off,none⟩ m c news hl (fun j u hj=>by
   have e2:Addr.add ⟨b,off,none⟩ j=⟨b,off+j,none⟩:=by unfold Addr.add;by_cases h:j=0<;>simp [h]
   rw [e2];exact hc j u hj) h1 h63 hbytes hbase
  exact ⟨v',w',hr,h2,h3,h5⟩
theorem wpList_append_list (w:World) {ops:Array Oper} {rest:List Oper} {o:Oper} {a:Act} {Q:Exit→Act→World→Prop} (hgd:o.guard=none) (s x:Operand) (t:TypeId)
 (ho:o.op=.call {callee:=.builtin .append,args:=#[s,x],argTypes:=#[t,t]})
 (base:Nat) (e:TypeId) (i:TypeInfo) (z:Value) (size bytes:Nat) (ht:P.underlying t=some (.slice e)) (hi:P.info? e=some i) (hz:i.zero=some z)
 (hsize:i.size=size) (hby:i.bytes=bytes) (hzs:z.cells.size=size) (hsz:0<size)
 (v:Value) (n:Nat) (xs:List Value) (hs:a.eval s=v) (hown:w.ownsRow base e size v n xs)
 (xa:Option Addr) (m c:Nat) (news:List Value) (hx:a.eval x=.slice xa m c) (hl:news.length=m*size)
 (hnews:0<m→∃b off,xa=some ⟨b,off,none⟩∧∀j u,news[j]?=some u→w.cell? ⟨b,off+j,none⟩=some u) (h1:∀u∈news,u.oneCell'=true)
 (h63:n+m≤maxLen) (hbytes:(n+m)*bytes≤140737488355328) (hbase:base≤w.heap.size)
 (h:∀v' w',w'.ownsRow base e size v' (n+m) (xs++news)→w.grownBy w' v.ownBlock→(v'=.slice none 0 0↔v=.slice none 0 0∧m=0)→(v'.ownBlock=v.ownBlock∨v'.ownBlock=some w.heap.size)→wpList P ops Q rest (a.put o.dst v') w') :
 wpList P ops Q (o::rest) a w:=by
 rcases Nat.eq_zero_or_pos m with h0 | hp
 ·subst h0;obtain rfl:news= []:=by simpa using hl
  refine wpList_plain hgd fun K hK=>?_;obtain ⟨b,cap,hv,hcap⟩:∃b cap,v=.slice b n cap∧n≤cap:=by
   rcases hown.2 with ⟨rfl,rfl⟩ | ⟨g,cap,cur,rfl,_,_,hc,_⟩
   ·exact ⟨none,0,rfl,Nat.le_refl _⟩
   ·exact ⟨_,cap,rfl,hc⟩
  have hr:=run_append_zero (P:=P) w t o.type e i ht hi b n cap hcap xa c;rw [←hv] at hr;unfold Oper.wp execOp;simp only [ho,resolve,invoke,builtin,Sem.run_bind,Sem.run_pure,Result.andThen_ok,List.map_toArray,List.map_cons,List.map_nil,hs,hx,hr]
  exact hK _ _ (h v w (by rw [Nat.add_zero,List.append_nil];exact hown) ⟨rfl,rfl,rfl,Nat.le_refl _,fun _ _ _=>rfl⟩ (by simp) (.inl rfl))
 ·obtain ⟨b,off,rfl,hc⟩:=hnews hp
  exact wpList_append_own_at w hgd s x t ho base e i z size bytes ht hi hz hsize hby hzs hsz v n xs hs hown ⟨b,off,none⟩ m c news hx hl (fun j u hj=>by
   have e2:Addr.add ⟨b,off,none⟩ j=⟨b,off+j,none⟩:=by unfold Addr.add;by_cases h:j=0<;>simp [h]
   rw [e2];exact hc j u hj) h1 h63 hbytes hbase h
theorem wpList_append_run {w:World} {ops:Array Oper} {rest:List Oper} {o:Oper} {a:Act} {Q:Exit→Act→World→Prop} (hw:Region.wanted o (yielded ops a.tmps)=true) (s x:Operand) (t:TypeId)
 (ho:o.op=.call {callee:=.builtin .append,args:=#[s,x],argTypes:=#[t,t]}) (v u:Value) (hs:a.eval s=v) (hx:a.eval x=u) (v':Value) (w':World)
 (hr:(Builtin.append_ #[t,t] o.type #[v,u]).run P w=.ok v' w') (h:wpList P ops Q rest (a.put o.dst v') w'):wpList P ops Q (o::rest) a w:=by
 unfold wpList;rw [if_pos hw];left;unfold Oper.wp execOp;simp only [ho,resolve,invoke,builtin,Sem.run_bind,Sem.run_pure,Result.andThen_ok,List.map_toArray,List.map_cons,List.map_nil,hs,hx,hr];exact h
end Go.Proofs.YtimoakmcelocfaaGreat.App
namespace Go.Proofs.YtimoakmcelocfaaGreat.Ls
open Go.RowKit Base
end Go.Proofs.YtimoakmcelocfaaGreat.Ls
namespace Go.Proofs.YtimoakmcelocfaaGreat.Table
open Go.RowKit Base
end Go.Proofs.YtimoakmcelocfaaGreat.Table
namespace Go.Proofs.YtimoakmcelocfaaGreat.Frame
open Go.ChangeShapes Go.WideShapes Go.ChangeAt Go.RowKit
open Go.ChangeMaps (open_string shut_string)
theorem own:ownKnob Tryz.prog.godebug=none:=by kernel_rfl
theorem laidOut:laidOutB Tryz.prog=true:=by kernel_rfl
section
variable {H:Type} {enc:TypeId × Value→H} {P:Program}
theorem trodAll_below (hl:laidOutB P=true) {W W':World} (hb:Below W.heap.size W W'):∀(ts:List TypeId) (vs:List Value) (ds:List (DataW H)) (ps:List MemPlace),
 ts.all (fun t=>P.readableRec t&&decide (t<P.types.size))=true→DataW.TrodAll enc P W 0 (fun _=>true) true ts vs ds ps→(∀x∈ps,x.block<W.heap.size)→
 DataW.TrodAll enc P W' 0 (fun b=>decide (b<W.heap.size)) true ts vs ds ps
 | [],vs,ds,ps,_,h,_=>by
   obtain ⟨rfl,rfl,rfl⟩:=trodAll_nil h;exact trodAll_mk0
 | t::ts,vs,ds,ps,hr,h,hlt=>by
   obtain ⟨v,vs',d,ds',p,q,rfl,rfl,rfl,h1,h2⟩:=trodAll_cons h;simp only [List.all_cons,Bool.and_eq_true,decide_eq_true_eq] at hr
   exact trodAll_cons_mk (Below.trod hl hr.1.1 hr.1.2 h1 hb (fun x hx=>hlt x (by simp [hx]))) (trodAll_below hl hb ts vs' ds' q (by simpa using hr.2) h2 (fun x hx=>hlt x (by simp [hx])))
theorem law_post {f:Func} {s:ChangeSpec} {bt:TypeId} {W W':World} {args:Array Value} {ds gs:List (DataW H)} {before:List MemPlace}
 (hl:laidOutB P=true) (hv:s.vars= []) (hread:f.params.toList.all (fun t=>P.readableRec t&&decide (t<P.types.size))=true) (hres:f.resultTypes= #[bt]) (hbt:P.underlying bt=some .bool)
 (hspec:s.fn H ds={results:= [.lit (.bool true)],args:=ds})
 (hW:DataW.Whole enc P f.params.toList s.vars false W args.toList ds gs before) (hb:Below W.heap.size W W'):s.post enc P f false true false false W args (.bool true) W':=by
 have hW0:=hW;have hlt:=fun p hp=>hW.lt p hp;obtain ⟨p,q,hA,hV,hpq,_,_⟩:=hW;rw [hv] at hV;obtain ⟨rfl,rfl⟩:=trodVars_none hV;have hp:before=p:=by simpa using hpq
 subst hp;refine ⟨ds,[],before,[],before,[],hW0,?_,?_,?_,hb.frame _,fun h=>by cases h⟩
 ·simp only [List.append_nil,hspec,hres]
  exact trodAll_mk1 (shut_bool hbt _)
 ·simp only [List.append_nil,hspec];exact trodAll_below hl hb _ _ _ _ hread hA hlt
 ·simp only [List.append_nil,hspec,hv];first | rfl | exact ⟨rfl,rfl⟩
end
end Go.Proofs.YtimoakmcelocfaaGreat.Frame
namespace Go.Proofs.YtimoakmcelocfaaGreat.Bnd
open Go.RowKit Base
def mid (lo n hi:Int):Int:=if lo<(if n > hi then hi else n) then (if n > hi then hi else n) else lo
def inside (n lo hi:Int):Bool:=decide (lo≤n)&&decide (n≤hi)
theorem mid_iff (lo n hi:Int) (h:lo≤hi):(n=mid lo n hi)↔inside n lo hi=true:=by
 unfold mid inside;simp only [Bool.and_eq_true,decide_eq_true_eq];constructor
 ·intro e;split at e<;> (try split at e)<;>omega
 ·intro e;split<;> (try split)<;>omega
abbrev bnd (x0 x1 x2 x3 x4 x5 x6 x7:Int) (c d:Bool):Value:=.agg #[.int .i64 x0,.int .i64 x1,.int .i64 x2,.int .i64 x3,.int .i64 x4,.int .i64 x5,.int .i64 x6,.int .i64 x7,.bool c,.bool d]
def right (x0 x1 x2 x3 x4 x5 x6 x7:Int):Bool:=
 inside x0 64 4096&&(inside x1 4 100&&(inside x2 256 65536&&(inside x3 16 1048576&&(inside x4 0 256&&(inside x5 0 100&&(inside x6 1 16&&inside x7 1 1000))))))
structure At (w:World) (g:Nat) (x0 x1 x2 x3 x4 x5 x6 x7:Int) (c d:Bool):Prop where
 q0:w.cell? ⟨g,0,none⟩=some (.int .i64 x0)
 q1:w.cell? ⟨g,1,none⟩=some (.int .i64 x1)
 q2:w.cell? ⟨g,2,none⟩=some (.int .i64 x2)
 q3:w.cell? ⟨g,3,none⟩=some (.int .i64 x3)
 q4:w.cell? ⟨g,4,none⟩=some (.int .i64 x4)
 q5:w.cell? ⟨g,5,none⟩=some (.int .i64 x5)
 q6:w.cell? ⟨g,6,none⟩=some (.int .i64 x6)
 q7:w.cell? ⟨g,7,none⟩=some (.int .i64 x7)
 q8:w.cell? ⟨g,8,none⟩=some (.bool c)
 q9:w.cell? ⟨g,9,none⟩=some (.bool d)
section
variable {w w':World} {g:Nat} {x0 x1 x2 x3 x4 x5 x6 x7:Int} {c d:Bool}
theorem At.below (h:At w g x0 x1 x2 x3 x4 x5 x6 x7 c d) (hg:g<w.heap.size) (hb:Below w.heap.size w w'):At w' g x0 x1 x2 x3 x4 x5 x6 x7 c d:=
 ⟨(hb.cell (p:=⟨g,0,none⟩) hg).trans h.q0,(hb.cell (p:=⟨g,1,none⟩) hg).trans h.q1,(hb.cell (p:=⟨g,2,none⟩) hg).trans h.q2,(hb.cell (p:=⟨g,3,none⟩) hg).trans h.q3,(hb.cell (p:=⟨g,4,none⟩) hg).trans h.q4,
  (hb.cell (p:=⟨g,5,none⟩) hg).trans h.q5,(hb.cell (p:=⟨g,6,none⟩) hg).trans h.q6,(hb.cell (p:=⟨g,7,none⟩) hg).trans h.q7,(hb.cell (p:=⟨g,8,none⟩) hg).trans h.q8,(hb.cell (p:=⟨g,9,none⟩) hg).trans h.q9⟩
theorem At.new (w:World) (t:TypeId) (x0 x1 x2 x3 x4 x5 x6 x7:Int) (c d:Bool):At (w.alloc (.cells #[.int .i64 x0,.int .i64 x1,.int .i64 x2,.int .i64 x3,.int .i64 x4,.int .i64 x5,.int .i64 x6,.int .i64 x7,.bool c,.bool d] t)) w.heap.size x0 x1 x2 x3 x4 x5 x6 x7 c d:=by
 have h:∀k v,(#[Value.int .i64 x0,.int .i64 x1,.int .i64 x2,.int .i64 x3,.int .i64 x4,.int .i64 x5,.int .i64 x6,.int .i64 x7,.bool c,.bool d]:Array Value)[k]?=some v→(w.alloc (.cells #[.int .i64 x0,.int .i64 x1,.int .i64 x2,.int .i64 x3,.int .i64 x4,.int .i64 x5,.int .i64 x6,.int .i64 x7,.bool c,.bool d] t)).cell? ⟨w.heap.size,k,none⟩=some v:=
  fun k v h=>(cell_of_row (w.alloc _) w.heap.size k _ t (0,0) (heap_alloc_new w _)).trans h
 exact ⟨h 0 _ rfl,h 1 _ rfl,h 2 _ rfl,h 3 _ rfl,h 4 _ rfl,h 5 _ rfl,h 6 _ rfl,h 7 _ rfl,h 8 _ rfl,h 9 _ rfl⟩
end
section code
set_option maxHeartbeats 1000000
theorem between_any (lo n hi:Int) (w:World):Calls Tryz.prog 74 #[.int .i64 lo,.int .i64 n,.int .i64 hi] w fun e w'=>e=.returned (.int .i64 (mid lo n hi))∧w'=w:=by
 go_enter Tryz.func74,Tryz.ntmps74;go_wp2;all_goals
  go_ret;exact ⟨ret_int (by unfold mid;(repeat' split)<;>omega),rfl⟩
theorem rwithin_any (n lo hi:Int) (w:World):Calls Tryz.prog 33 #[.int .i64 n,.int .i64 lo,.int .i64 hi] w fun e w'=>e=.returned (.bool (inside n lo hi))∧w'=w:=by
 rcases Int.lt_or_le n lo with h | h
 ·go_enter Tryz.func33,Tryz.ntmps33;go_wp2;go_ret;exact ⟨ret_bool (by simp only [inside,decide_eq_false (Int.not_le.2 h),Bool.false_and]),rfl⟩
 ·go_enter Tryz.func33,Tryz.ntmps33;go_wp2;go_ret;exact ⟨ret_bool (by simp only [inside,decide_eq_true h,Bool.true_and]),rfl⟩
theorem rusual_any (w:World):Calls Tryz.prog 24 #[] w fun e w'=>e=.returned (bnd 1024 32 8192 65536 32 8 4 20 true true)∧Below w.heap.size w w':=by go_enter Tryz.func24,Tryz.ntmps24;go_wp2;exact bodyPost_ret (v:=bnd _ _ _ _ _ _ _ _ _ _) (by simp [results,Tryz.results24,go_sem]) rfl ⟨rfl,(Below.refl _ _).alloc (Nat.le_refl _) _⟩
theorem rusual_exact (w:World):Calls Tryz.prog 24 #[] w fun e w'=>e=.returned (bnd 1024 32 8192 65536 32 8 4 20 true true)
 ∧w'=w.alloc (.cells #[.int .i64 1024,.int .i64 32,.int .i64 8192,.int .i64 65536,.int .i64 32,.int .i64 8,.int .i64 4,.int .i64 20,.bool true,.bool true] 24):=by
 go_enter Tryz.func24,Tryz.ntmps24;go_wp2;exact bodyPost_ret (v:=bnd _ _ _ _ _ _ _ _ _ _) (by simp [results,Tryz.results24,go_sem]) rfl ⟨rfl,rfl⟩
theorem within_any (x0 x1 x2 x3 x4 x5 x6 x7:Int) (c d:Bool) (w:World):Calls Tryz.prog 59 #[bnd x0 x1 x2 x3 x4 x5 x6 x7 c d] w
 fun e w'=>e=.returned (bnd (mid 64 x0 4096) (mid 4 x1 100) (mid 256 x2 65536) (mid 16 x3 1048576) (mid 0 x4 256) (mid 0 x5 100) (mid 1 x6 16) (mid 1 x7 1000) c d)∧Below w.heap.size w w':=by
 go_enter Tryz.func59,Tryz.ntmps59
 go_wp2_with (go_at_call 74;with_reducible refine (between_any _ _ _ _).mono ?_;rintro e w1 ⟨rfl,hw⟩;rw [hw];clear hw);exact bodyPost_ret (v:=bnd _ _ _ _ _ _ _ _ _ _) (by simp [results,Tryz.results59,go_sem]) rfl ⟨rfl,((Below.refl _ _).alloc (Nat.le_refl _) _).alloc (by simp) _⟩
theorem right_any (x0 x1 x2 x3 x4 x5 x6 x7:Int) (c d:Bool) (w:World):Calls Tryz.prog 41 #[bnd x0 x1 x2 x3 x4 x5 x6 x7 c d] w
 fun e w'=>e=.returned (.bool (right x0 x1 x2 x3 x4 x5 x6 x7))∧Below w.heap.size w w':=by
 go_enter Tryz.func41,Tryz.ntmps41;go_wp2_with fail;have hc:=At.new w 24 x0 x1 x2 x3 x4 x5 x6 x7 c d;have hW:Below w.heap.size w (w.alloc (.cells #[.int .i64 x0,.int .i64 x1,.int .i64 x2,.int .i64 x3,.int .i64 x4,.int .i64 x5,.int .i64 x6,.int .i64 x7,.bool c,.bool d] 24)):=(Below.refl _ _).alloc (Nat.le_refl _) _;have hgg:w.heap.size<(w.alloc (.cells #[.int .i64 x0,.int .i64 x1,.int .i64 x2,.int .i64 x3,.int .i64 x4,.int .i64 x5,.int .i64 x6,.int .i64 x7,.bool c,.bool d] 24)).heap.size:=by simp
 generalize w.alloc (.cells #[.int .i64 x0,.int .i64 x1,.int .i64 x2,.int .i64 x3,.int .i64 x4,.int .i64 x5,.int .i64 x6,.int .i64 x7,.bool c,.bool d] 24)=W at *;generalize hgw:w.heap.size=g at *;refine Sched.region [(0,false),(1,false),(2,true),(3,false),(4,false)] (fun w'=>Below W.heap.size W w') (by kernel_rfl) (by kernel_rfl) (fun _ _ d _ _ h=>by cases d<;>exact h) (Base.below_drewN (Below.refl _ _) 1) ?_;simp only [Sched.picked,List.filterMap_cons,List.filterMap_nil,List.getElem?_cons_zero,List.getElem?_cons_succ,Option.map_some]
 iterate 2
  refine Sched.quiet (by rfl) ?_ ?_ ?_
  rotate_left 1
  ·intro w' hS;obtain ⟨q0,q1,q2,q3,q4,q5,q6,q7,q8,q9⟩:=hc.below hgg hS;clear hS;go_simp;with_reducible rfl
  simp only [Act.put,List.setIfInBounds_toArray,List.set_cons_zero,List.set_cons_succ]
 refine Sched.change (by rfl) (fun K hK=>?_);go_simp;with_reducible refine (within_any _ _ _ _ _ _ _ _ _ _ _).mono ?_
 rintro e w1 ⟨rfl,hb⟩;dsimp only;have hb1:Below W.heap.size W w1:=(Base.below_drewN (Below.refl _ _) 1).trans hb;refine hK _ _ hb1 ?_;clear hK K;refine Sched.quiet (by rfl) (.bool (right x0 x1 x2 x3 x4 x5 x6 x7)) ?_ ?_
 ·intro w' hS;go_simp;simp only [mid_iff 64 x0 4096 (by decide),mid_iff 4 x1 100 (by decide),mid_iff 256 x2 65536 (by decide),mid_iff 16 x3 1048576 (by decide),mid_iff 0 x4 256 (by decide),mid_iff 0 x5 100 (by decide),mid_iff 1 x6 16 (by decide),mid_iff 1 x7 1000 (by decide)];unfold right;cases inside x0 64 4096;·rfl
  cases inside x1 4 100;·rfl
  cases inside x2 256 65536;·rfl
  cases inside x3 16 1048576;·rfl
  cases inside x4 0 256;·rfl
  cases inside x5 0 100;·rfl
  cases inside x6 1 16;·rfl
  cases inside x7 1 1000<;>rfl
 simp only [Act.put,List.setIfInBounds_toArray,List.set_cons_zero,List.set_cons_succ];refine Sched.assign _ (by rfl) (by rfl) ?_;simp only [Act.put,Act.eval,Array.getD_eq_getD_getElem?,List.getElem?_toArray,List.getElem?_cons_zero,List.getElem?_cons_succ,Option.getD_some,List.setIfInBounds_toArray,List.set_cons_zero,List.set_cons_succ];refine Sched.done ?_;go_wp2;go_ret;subst hgw;exact ⟨rfl,hW.trans (Below.mono hb1 hW.size)⟩
attribute [local go_sem] Base.some_undef
theorem rright_any (x0 x1 x2 x3 x4 x5 x6 x7:Int) (c d:Bool) (w:World):Calls Tryz.prog 16 #[bnd x0 x1 x2 x3 x4 x5 x6 x7 c d] w
 fun e w'=>e=.returned (.bool (right x0 x1 x2 x3 x4 x5 x6 x7))∧Below w.heap.size w w':=by
 have H0:=Lib.hid (rwithin_any x0 64 4096);have H1:=Lib.hid (rwithin_any x1 4 100);have H2:=Lib.hid (rwithin_any x2 256 65536);have H3:=Lib.hid (rwithin_any x3 16 1048576)
 have H4:=Lib.hid (rwithin_any x4 0 256);have H5:=Lib.hid (rwithin_any x5 0 100);have H6:=Lib.hid (rwithin_any x6 1 16);have H7:=Lib.hid (rwithin_any x7 1 1000);unfold right;generalize inside x0 64 4096=b0 at *;generalize inside x1 4 100=b1 at *;generalize inside x2 256 65536=b2 at *;generalize inside x3 16 1048576=b3 at *;generalize inside x4 0 256=b4 at *;generalize inside x5 0 100=b5 at *;generalize inside x6 1 16=b6 at *;generalize inside x7 1 1000=b7 at *;cases b0;rotate_left 1;cases b1;rotate_left 1;cases b2;rotate_left 1;cases b3;rotate_left 1;cases b4;rotate_left 1;cases b5;rotate_left 1;cases b6;all_goals
  go_enter Tryz.func16,Tryz.ntmps16
  go_wp2_with (go_at_call 33;first
   |(with_reducible refine (H0.out _).mono ?_;rintro e w1 ⟨rfl,hw⟩;rw [hw];clear hw)
   |(with_reducible refine (H1.out _).mono ?_;rintro e w1 ⟨rfl,hw⟩;rw [hw];clear hw)
   |(with_reducible refine (H2.out _).mono ?_;rintro e w1 ⟨rfl,hw⟩;rw [hw];clear hw)
   |(with_reducible refine (H3.out _).mono ?_;rintro e w1 ⟨rfl,hw⟩;rw [hw];clear hw)
   |(with_reducible refine (H4.out _).mono ?_;rintro e w1 ⟨rfl,hw⟩;rw [hw];clear hw)
   |(with_reducible refine (H5.out _).mono ?_;rintro e w1 ⟨rfl,hw⟩;rw [hw];clear hw)
   |(with_reducible refine (H6.out _).mono ?_;rintro e w1 ⟨rfl,hw⟩;rw [hw];clear hw)
   |(with_reducible refine (H7.out _).mono ?_;rintro e w1 ⟨rfl,hw⟩;rw [hw];clear hw))
  go_ret;exact ⟨rfl,(Below.refl _ _).alloc (Nat.le_refl _) _⟩
end code
end Go.Proofs.YtimoakmcelocfaaGreat.Bnd
namespace Go.Proofs.YtimoakmcelocfaaGreat.Qk
open Go.RowKit Base
def known (c:Int):Bool:=decide (0≤c)&&decide (c<30)
def bitOf (c:Int):Nat:=if known c then 2^c.toNat else 0
def has (p:Nat) (c:Int):Bool:=known c&&p.testBit c.toNat
def ofL (zs:List Int):Nat:=zs.foldl (fun p c=>p ||| bitOf c) 0
def upTo (p n:Nat):List Int:=((List.range n).filter fun c=>p.testBit c).map fun c:Nat=>(c:Int)
def names:List (List UInt8):=
 [[101,109,112,116,121],
  [98,97,114,101,108,102],
  [98,97,114,101,99,114],
  [98,108,97,110,107,115],
  [109,105,110,111,114],
  [97,110,121,99,97,115,101],
  [110,111,118,101,114,115,105,111,110],
  [115,112,97,99,101,115],
  [99,111,110,116,114,111,108,115],
  [99,111,108,111,110,115,112,97,99,101],
  [110,97,109,101,98,121,116,101,115],
  [110,111,99,111,108,111,110],
  [110,111,110,97,109,101],
  [102,111,108,100],
  [118,97,108,117,101,98,121,116,101,115],
  [110,111,104,111,115,116],
  [109,97,110,121,104,111,115,116,115],
  [116,101,98,108,97,110,107,115],
  [116,101,108,105,115,116],
  [116,101,105,103,110,111,114,101],
  [116,101,111,108,100],
  [116,101,119,105,110,115],
  [99,108,119,105,110,115],
  [99,108,112,108,117,115],
  [99,108,99,111,109,109,97],
  [99,108,102,105,114,115,116],
  [99,108,108,97,115,116],
  [99,104,117,110,107,104,101,120],
  [99,104,117,110,107,98,108,97,110,107,115],
  [99,104,117,110,107,101,110,100]]
def nm (k:Nat):ByteArray:=⟨(names[k]?.getD []).toArray⟩
def nameOf (c:Int):ByteArray:=if known c then nm c.toNat else ByteArray.empty
def findOf (s:ByteArray):Option Nat:=names.findIdx? fun n=>n==s.data.toList
def needs (c:Int) (p:Nat) (ch old:Bool):Bool:=
 if c=6 then old else if c=17 then has p 14 else if c=18∨c=21∨c=27∨c=28∨c=29 then ch
 else if c=20 then old&&(ch||has p 19||has p 22 && !has p 21) else if c=22 then !has p 21 else if c=26 then !has p 25 else known c
theorem known_iff (c:Int):known c=true↔0≤c∧c<30:=by simp [known]
theorem bitOf_lt (c:Int):bitOf c<2^30:=by
 unfold bitOf;split
 ·rename_i h;have:=(known_iff c).1 h
  exact Nat.pow_lt_pow_right (by decide) (by omega)
 ·decide
theorem and_bitOf (p:Nat) (c:Int):(p &&& bitOf c≠0)↔has p c=true:=by
 unfold bitOf has;by_cases h:known c=true
 ·simp only [h,if_true,Bool.true_and];constructor
  ·intro h1;cases hb:p.testBit c.toNat with
   | true=>rfl
   | false=>
     exfalso;apply h1;apply Nat.eq_of_testBit_eq;intro i;rw [Nat.testBit_and,Nat.testBit_two_pow,Nat.zero_testBit];by_cases hi:c.toNat=i
     ·subst hi;simp [hb]
     ·simp [hi]
  ·intro h1 h2;have:=congrArg (·.testBit c.toNat) h2;simp [Nat.testBit_and,h1] at this
 ·simp [h]
theorem ofL_snoc (zs:List Int) (c:Int):ofL (zs ++ [c])=ofL zs ||| bitOf c:=by simp [ofL]
theorem or_lt30 {a b:Nat} (ha:a<2^30) (hb:b<2^30):a ||| b<2^30:=Nat.or_lt_two_pow ha hb
theorem foldl_or (zs:List Int):∀a:Nat,zs.foldl (fun p c=>p ||| bitOf c) a=a ||| zs.foldl (fun p c=>p ||| bitOf c) 0:=by
 induction zs with
 | nil=>intro a;simp
 | cons z zs ih=>intro a;simp only [List.foldl_cons,Nat.zero_or];rw [ih (a ||| bitOf z),ih (bitOf z),Nat.or_assoc]
theorem ofL_append (a b:List Int):ofL (a++b)=ofL a ||| ofL b:=by unfold ofL;rw [List.foldl_append,foldl_or]
theorem ofL_lt (zs:List Int):ofL zs<2^30:=by
 induction zs with
 | nil=>decide
 | cons z zs ih=>rw [show z::zs= [z]++zs from rfl,ofL_append];exact or_lt30 (by simpa [ofL] using bitOf_lt z) ih
theorem upTo_succ (p n:Nat):upTo p (n+1)=upTo p n++if p.testBit n then [(n:Int)] else []:=by
 unfold upTo;rw [List.range_succ,List.filter_append,List.map_append]
 congr 1
 by_cases h:p.testBit n<;>simp [h]
theorem upTo_le (p n:Nat):(upTo p n).length≤n:=by
 unfold upTo;rw [List.length_map]
 exact Nat.le_trans (List.length_filter_le _ _) (by simp)
end Go.Proofs.YtimoakmcelocfaaGreat.Qk
namespace Go.Proofs.YtimoakmcelocfaaGreat.Qk
open Go.RowKit Base
theorem shl_one (c:Int) (h0:0≤c) (h1:c<30):(2:Int)^c.toNat%4294967296=((2^c.toNat:Nat):Int):=by
 have h:(2:Nat)^c.toNat<2^30:=Nat.pow_lt_pow_right (by decide) (by omega);have h2:(((2:Nat)^c.toNat:Nat):Int)=(2:Int)^c.toNat:=by rw [Int.natCast_pow];rfl
 rw [←h2];clear h2;generalize (2:Nat)^c.toNat=q at *;omega
theorem shr_bit (p:Nat) (hp:p<4294967296) (n:Nat):(bits BinOp.and IntKind.u32 ((p:Int)/2^n) 1==1)=true↔p.testBit n=true:=by
 have h:((p:Int)/2^n)=((p/2^n:Nat):Int):=by rw [Int.natCast_ediv,Int.natCast_pow];rfl
 have h1:p/2^n<4294967296:=Nat.lt_of_le_of_lt (Nat.div_le_self _ _) hp;rw [h,show (1:Int)=((1:Nat):Int) from rfl,u32_and_nat _ 1 h1 (by decide),Nat.testBit_eq_decide_div_mod_eq,Nat.and_one_is_mod,beq_iff_eq,decide_eq_true_eq];omega
section code
set_option maxHeartbeats 1000000
theorem known_any (c:Int) (w:World):Calls Tryz.prog 46 #[.int .i64 c] w fun e w'=>e=.returned (.bool (known c))∧w'=w:=by
 rcases Int.lt_or_le c 0 with h | h
 ·go_enter Tryz.func46,Tryz.ntmps46;go_wp2;go_ret;exact ⟨ret_bool (by simp [known];omega),rfl⟩
 ·go_enter Tryz.func46,Tryz.ntmps46;go_wp2;go_ret;exact ⟨ret_bool (by simp [known];omega),rfl⟩
theorem bit_any (c:Int) (w:World):Calls Tryz.prog 47 #[.int .i64 c] w fun e w'=>e=.returned (.int .u32 (bitOf c:Nat))∧w'=w:=by
 have H:=Lib.hid (known_any c)
 have K:=Lib.hid (known_iff c);generalize hk:known c=k at *;cases k
 ·go_enter Tryz.func47,Tryz.ntmps47
  go_wp2_with (go_at_call 46;with_reducible refine (H.out _).mono ?_;rintro e w1 ⟨rfl,hw⟩;rw [hw];clear hw);go_ret;exact ⟨ret_int (by simp [bitOf,hk]),rfl⟩
 ·obtain ⟨h0,h1⟩:=K.out.1 rfl;go_enter Tryz.func47,Tryz.ntmps47
  go_wp2_with (go_at_call 46;with_reducible refine (H.out _).mono ?_;rintro e w1 ⟨rfl,hw⟩;rw [hw];clear hw);go_ret;exact ⟨ret_int (by simp only [bitOf,hk,if_true];exact shl_one c h0 h1),rfl⟩
theorem has_any (p:Nat) (hp:p<4294967296) (c:Int) (w:World):Calls Tryz.prog 42 #[.int .u32 p,.int .i64 c] w fun e w'=>e=.returned (.bool (has p c))∧w'=w:=by
 have H:=Lib.hid (bit_any c)
 have K:=Lib.hid (and_bitOf p c);have hb:=bitOf_lt c;generalize bitOf c=q at *;go_enter Tryz.func42,Tryz.ntmps42
 go_wp2_with (go_at_call 47;with_reducible refine (H.out _).mono ?_;rintro e w1 ⟨rfl,hw⟩;rw [hw];clear hw);go_ret;exact ⟨ret_bool (by rw [u32_and_nat p q hp (by omega),←K.out];simp),rfl⟩
theorem rhas_any (p:Nat) (hp:p<4294967296) (c:Int) (w:World):Calls Tryz.prog 39 #[.int .u32 p,.int .i64 c] w fun e w'=>e=.returned (.bool (has p c))∧w'=w:=by
 have K:=Lib.hid (known_iff c);rcases Int.lt_or_le c 0 with h | h
 ·go_enter Tryz.func39,Tryz.ntmps39;go_wp2;go_ret;exact ⟨ret_bool (by simp [has,known];omega),rfl⟩
 ·rcases Int.lt_or_le c 30 with h3 | h3
  ·go_enter Tryz.func39,Tryz.ntmps39;go_wp2;go_ret;exact ⟨ret_bool ((shr_bit p hp c.toNat).trans (by simp [has,known,h,h3])),rfl⟩
  ·go_enter Tryz.func39,Tryz.ntmps39;go_wp2;go_ret;exact ⟨ret_bool (by simp [has,known];omega),rfl⟩
theorem right_any (p:Nat) (hp:p<4294967296) (w:World):Calls Tryz.prog 40 #[.int .u32 p] w fun e w'=>e=.returned (.bool (decide (p<1073741824)))∧w'=w:=by go_enter Tryz.func40,Tryz.ntmps40;go_wp2;go_ret;exact ⟨ret_bool (by rw [beq_iff_eq,decide_eq_true_eq];omega),rfl⟩
theorem rright_any (p:Nat) (hp:p<4294967296) (w:World):Calls Tryz.prog 17 #[.int .u32 p] w fun e w'=>e=.returned (.bool (decide (p<1073741824)))∧w'=w:=by go_enter Tryz.func17,Tryz.ntmps17;go_wp2;go_ret;exact ⟨ret_bool (by rw [decide_eq_true_eq,decide_eq_true_eq];omega),rfl⟩
abbrev NamesAt (w:World) (g:Nat):Prop:=g<w.heap.size∧∀k,k<30→w.cell? ⟨g,k,none⟩=some (.string (nm k))
theorem win_any (p:Nat) (hp:p<4294967296) (w:World):Calls Tryz.prog 45 #[.int .u32 p] w fun e w'=>e=.returned (.bool (!has p 21))∧w'=w:=by
 have H:=Lib.hid (has_any p hp 21);generalize has p 21=b at *;go_enter Tryz.func45,Tryz.ntmps45
 go_wp2_with (go_at_call 42;with_reducible refine (H.out _).mono ?_;rintro e w1 ⟨rfl,hw⟩;rw [hw];clear hw);go_ret;exact ⟨rfl,rfl⟩
attribute [local go_sem] Base.some_undef
theorem coding_any (p:Nat) (hp:p<4294967296) (x0 x1 x2 x3 x4 x5 x6 x7:Int) (c d:Bool) (w:World):Calls Tryz.prog 44 #[.int .u32 p,Bnd.bnd x0 x1 x2 x3 x4 x5 x6 x7 c d] w
 fun e w'=>e=.returned (.bool (c||has p 19||has p 22 && !has p 21))∧Below w.heap.size w w':=by
 have H1:=Lib.hid (has_any p hp 19);have H2:=Lib.hid (has_any p hp 22);have H3:=Lib.hid (win_any p hp);generalize has p 19=a1 at *;generalize has p 22=a2 at *;generalize has p 21=a3 at *;cases c;cases a1;cases a2;cases a3;all_goals
  go_enter Tryz.func44,Tryz.ntmps44
  go_wp2_with (first
   |(go_at_call 42;first
    |(with_reducible refine (H1.out _).mono ?_;rintro e w1 ⟨rfl,hw⟩;rw [hw];clear hw)
    |(with_reducible refine (H2.out _).mono ?_;rintro e w1 ⟨rfl,hw⟩;rw [hw];clear hw))
   |(go_at_call 45;with_reducible refine (H3.out _).mono ?_;rintro e w1 ⟨rfl,hw⟩;rw [hw];clear hw))
  go_ret;exact ⟨rfl,(Below.refl _ _).alloc (Nat.le_refl _) _⟩
theorem needs_any (c:Int) (p:Nat) (hp:p<4294967296) (x0 x1 x2 x3 x4 x5 x6 x7:Int) (ch old:Bool) (w:World):Calls Tryz.prog 31 #[.int .i64 c,.int .u32 p,Bnd.bnd x0 x1 x2 x3 x4 x5 x6 x7 ch old] w
 fun e w'=>e=.returned (.bool (needs c p ch old))∧Below w.heap.size w w':=by
 have H1:=Lib.hid (has_any p hp 14);have H2:=Lib.hid (has_any p hp 25);have H3:=Lib.hid (win_any p hp);have H4:=Lib.hid (known_any c)
 have H5:=Lib.hid (coding_any p hp x0 x1 x2 x3 x4 x5 x6 x7 ch old);rcases (by omega:c=6∨c=17∨c=18∨c=21∨c=27∨c=28∨c=29∨c=20∨c=22∨c=26∨(c≠6∧c≠17∧c≠18∧c≠21∧c≠27∧c≠28∧c≠29∧c≠20∧c≠22∧c≠26)) with rfl | rfl | rfl | rfl | rfl | rfl | rfl | rfl | rfl | rfl | ⟨n0,n1,n2,n3,n4,n5,n6,n7,n8,n9⟩
 case inr.inr.inr.inr.inr.inr.inr.inl=>
  cases old;all_goals
   go_enter Tryz.func31,Tryz.ntmps31
   go_wp2_with (go_at_call 44;with_reducible refine (H5.out _).mono ?_;rintro e w1 ⟨rfl,hb⟩);go_ret;first | exact ⟨by simp [needs],(Below.refl _ _).alloc (Nat.le_refl _) _⟩ | exact ⟨by simp [needs],Base.below_step ((Below.refl _ _).alloc (Nat.le_refl _) _) hb⟩
 all_goals
  go_enter Tryz.func31,Tryz.ntmps31
  go_wp2_with (first
   |(go_at_call 42;first
    |(with_reducible refine (H1.out _).mono ?_;rintro e w1 ⟨rfl,hw⟩;rw [hw];clear hw)
    |(with_reducible refine (H2.out _).mono ?_;rintro e w1 ⟨rfl,hw⟩;rw [hw];clear hw))
   |(go_at_call 45;with_reducible refine (H3.out _).mono ?_;rintro e w1 ⟨rfl,hw⟩;rw [hw];clear hw)
   |(go_at_call 46;with_reducible refine (H4.out _).mono ?_;rintro e w1 ⟨rfl,hw⟩;rw [hw];clear hw))
  go_ret;exact ⟨by simp [needs, *],(Below.refl _ _).alloc (Nat.le_refl _) _⟩
end code
end Go.Proofs.YtimoakmcelocfaaGreat.Qk
namespace Go.Proofs.YtimoakmcelocfaaGreat.Qk
open Go.RowKit Base
theorem int_info:(Tryz.prog.info? 3).map (fun i=>(i.zero,i.size,i.bytes))=some (some (.int .i64 0),1,8):=by kernel_rfl
section code
set_option maxHeartbeats 1000000
attribute [local go_sem] Base.some_undef
theorem rof_any (a:Option Addr) (n cap:Nat) (zs:List Int) (w:World) (hv:Ints w a n zs) (hn:n≤maxLen):Calls Tryz.prog 25 #[.slice a n cap] w fun e w'=>e=.returned (.int .u32 (ofL zs:Nat))∧w'=w:=by
 have HV:=Lib.hid hv;have HL:=Lib.hid hv.1;clear hv;unfold maxLen at hn;go_enter Tryz.func25,Tryz.ntmps25;go_wp2
 go_loopw [3,4] (fun v i wr=>∃k:Nat,k≤n∧i=.int .i64 k∧v=.int .u32 (ofL (zs.take k):Nat)∧wr=w) (fun _ i _=>n-(intOf i).toNat)
 case atStart=>exact ⟨0,Nat.zero_le _,rfl,rfl,rfl⟩
 case round=>
  obtain ⟨k,hk,rfl,rfl,hwr⟩:=hrel;subst hwr;rcases Nat.lt_or_ge k n with hlt | hge
  ·obtain ⟨bl,off,rfl,_,hc⟩:=HV.out.2 (by omega);have hck:=hc k hlt;clear hc
   have HS:=Lib.hid (show (ofL (zs.take (k+1)):Int)=bits .or .u32 (ofL (zs.take k):Nat) (bitOf (zs[k]?.getD 0):Nat) from by rw [ints_snoc zs k (by rw [HL.out];exact hlt),ofL_snoc,u32_or_nat _ _ (Nat.lt_trans (ofL_lt _) (by decide)) (Nat.lt_trans (bitOf_lt _) (by decide))])
   have HT:=Lib.hid (show (ofL (zs.take (k+1)):Nat)=ofL (zs.take k) ||| bitOf (zs[k]?.getD 0) from by rw [ints_snoc zs k (by rw [HL.out];exact hlt),ofL_snoc]);generalize zs[k]?.getD 0=z at *;generalize ofL (zs.take k)=O at *;rcases (by omega:z<0∨(0≤z∧30≤z)∨(0≤z∧z<30)) with h | ⟨h,h1⟩ | ⟨h,h1⟩
   ·have hb:bitOf z=0:=by rw [bitOf,if_neg (by simp [known];omega)]
    rw [hb,Nat.or_zero] at HT;clear hb;go_wp2;go_roundw
    case rel=>exact ⟨k+1,by omega,by go_num,by rw [HT.out],by first | rfl | trivial⟩
    case measure=>simp [intOf];omega
   ·have hb:bitOf z=0:=by rw [bitOf,if_neg (by simp [known];omega)]
    rw [hb,Nat.or_zero] at HT;clear hb;go_wp2;go_roundw
    case rel=>exact ⟨k+1,by omega,by go_num,by rw [HT.out],by first | rfl | trivial⟩
    case measure=>simp [intOf];omega
   ·have hb:bitOf z=2^z.toNat:=by rw [bitOf,if_pos (by simp [known];omega)]
    have hs:=Lib.hid (shl_one z h h1);rw [hb] at HS;clear hb;go_wp2;go_roundw
    case rel=>exact ⟨k+1,by omega,by go_num,by rw [HS.out,hs.out],by first | rfl | trivial⟩
    case measure=>simp [intOf];omega
  ·obtain rfl:k=n:=by omega
   go_wp2;go_ret;exact ⟨by rw [List.take_of_length_le (by rw [HL.out];omega)];rfl,rfl⟩
theorem list_any (p:Nat) (hp:p<4294967296) (w:World):Calls Tryz.prog 30 #[.int .u32 p] w
 fun e w'=>∃v,e=.returned v∧w'.ownsRow w.heap.size 3 1 v (upTo p 30).length ((upTo p 30).map (Value.int .i64))∧Below w.heap.size w w':=by
 obtain ⟨i0,hi,hz0,hz1,hz2⟩:=info_parts int_info;have G1:=Lib.hid hi;have G2:=Lib.hid hz0;have G3:=Lib.hid hz1;have G4:=Lib.hid hz2;clear hi hz0 hz1 hz2;go_enter Tryz.func30,Tryz.ntmps30;go_wp2
 go_loopw [3,5] (fun v i wr=>∃k:Nat,k≤30∧i=.int .i64 k∧Hid (wr.ownsRow w.heap.size 3 1 v (upTo p k).length ((upTo p k).map (Value.int .i64)))∧Hid (Below w.heap.size w wr)) (fun _ i _=>30-(intOf i).toNat)
 case atStart=>exact ⟨0,Nat.zero_le _,rfl,Lib.hid ⟨rfl,.inl ⟨rfl,rfl⟩⟩,Lib.hid (Below.refl _ _)⟩
 case round=>
  obtain ⟨k,hk,rfl,hown,hbr⟩:=hrel;rcases Nat.lt_or_ge k 30 with hlt | hge
  ·have hk30:(k:Int)<30:=by omega
   have HS:=Lib.hid (upTo_succ p k);have HL:=upTo_le p k;have hq:has p k=p.testBit k:=by rw [has,show known (k:Int)=true from by simp [known];omega,Bool.true_and,Int.toNat_natCast]
   have HC:=Lib.hid (has_any p hp k);rw [hq] at HC;clear hq;generalize upTo p k=L at *;cases hb:p.testBit k with
   | false=>
     rw [hb] at HC;rw [hb,if_neg (by decide),List.append_nil] at HS;clear hb
     go_wp2_with (go_at_call 42;with_reducible refine (HC.out _).mono ?_;rintro e w1 ⟨rfl,hw⟩;rw [hw];clear hw);go_roundw
     case rel=>exact ⟨k+1,by omega,by go_num,by rw [HS.out];exact hown,hbr⟩
     case measure=>simp [intOf];omega
   | true=>
     rw [hb] at HC;rw [hb,if_pos rfl] at HS;clear hb
     go_wp2_with (first
      |(go_at_call 42;with_reducible refine (HC.out _).mono ?_;rintro e w1 ⟨rfl,hw⟩;rw [hw];clear hw)
      |(at_builtin;refine wpList_append_own _ rfl _ _ 32 rfl w.heap.size 3 i0 (.int .i64 0) 1 8 Tryz.underlying32 G1.out G2.out G3.out G4.out rfl (by decide) _ _ _ rfl (hown.out.alloc _) ⟨wr.heap.size,0,none⟩ 1 1 [.int .i64 (k:Int)] rfl rfl ?c1 ?c2 ?c3 ?c4 ?c5 ?_))
     case c1=>exact news_one wr _ _
     case c2=>intro u hu;obtain rfl:u=.int .i64 (k:Int):=by simpa using hu
              rfl
     case c3=>unfold maxLen;omega
     case c4=>omega
     case c5=>have:=hbr.out.size;simp;omega
     intro v' w' hown' hgr _
     have H2:Hid (w'.ownsRow w.heap.size 3 1 v' (upTo p (k+1)).length ((upTo p (k+1)).map (Value.int .i64))):=Lib.hid (by rw [HS.out];simpa using hown')
     have H3:Hid (Below w.heap.size w w'):=Lib.hid ((hbr.out.alloc hbr.out.size _).grown hgr (by have:=hbr.out.size;simp;omega) (own_base hown.out));clear hown' hgr hown;go_wp2;go_roundw
     case rel=>exact ⟨k+1,by omega,by go_num,H2,H3⟩
     case measure=>simp [intOf];omega
  ·obtain rfl:k=30:=by omega
   go_wp2;go_ret;exact ⟨_,rfl,hown.out,hbr.out⟩
end code
end Go.Proofs.YtimoakmcelocfaaGreat.Qk
namespace Go.Proofs.YtimoakmcelocfaaGreat.Seat
open Go.RowKit Base Qk
def seatP (a k:Nat):Nat:=
 if k%4=0 then ofL [((k/4%30:Nat):Int)] else if k%4=1 then ofL [((k/4%30:Nat):Int),((a%30:Nat):Int)]
 else if k%4=2 then a%1073741824 &&& (a%1073741824)/128 &&& (a%1073741824)/8192 else a%1073741824
def seatB (k:Nat):Value:=
 Bnd.bnd (if k%6=1 then 64 else if k%6=3 then 80 else 1024) (if k%6=1 then 4 else 32) (if k%6=1 then 256 else 8192) (if k%6=2 then 16 else if k%6=3 then 40 else 65536)
  (if k%6=2 then 0 else 32) (if k%6=2 then 0 else 8) ((k/32%4:Nat)+1:Int) 20 (!decide (k%8=7)) (!decide (12<k%16))
section code
set_option maxHeartbeats 1000000
set_option maxHeartbeats 16000000 in
theorem bounds_any (k:Nat) (hk:k<256) (w:World):Calls Tryz.prog 9 #[.int .u8 k] w fun e w'=>e=.returned (seatB k)∧Below w.heap.size w w':=by
 have H:=Lib.hid (Bnd.rusual_exact);have HB:seatB k=seatB k:=rfl
 conv at HB=>rhs;unfold seatB
 have HW:((k/32%4:Nat)+1:Int)=(k:Int)/32%4+1:=by omega
 rw [HW] at HB;clear HW;generalize seatB k=B at *;rcases (by omega:k%6=1∨k%6=2∨k%6=3∨(k%6≠1∧k%6≠2∧k%6≠3)) with h | h | h | ⟨h,h',h''⟩<;>rcases (by omega:k%8=7∨k%8≠7) with h8 | h8<;>rcases (by omega:12<k%16∨k%16≤12) with h16 | h16
 all_goals try (exfalso;omega)
 all_goals
  simp [*,Nat.not_lt.2] at HB
  replace HB:=Lib.hid HB
  go_enter Tryz.func9,Tryz.ntmps9
  go_wp2_with (go_at_call 24;with_reducible refine (H.out _).mono ?_;rintro e w1 ⟨rfl,hw⟩;rw [hw];clear hw);rw [HB.out];refine bodyPost_ret ?_ rfl ⟨rfl,(((Below.refl _ _).alloc (Nat.le_refl _) _).alloc (by simp) _).alloc (by simp;omega) _⟩;simp [results,Tryz.results9,go_sem]
end code
end Go.Proofs.YtimoakmcelocfaaGreat.Seat
namespace Go.Proofs.YtimoakmcelocfaaGreat.Txt
open Go.RowKit Base
def lowN (n:Int):Int:=if 65≤n∧n≤90 then n+32 else n
def lowB (b:UInt8):UInt8:=if 65≤b.toNat∧b.toNat≤90 then b+32 else b
theorem lowB_toNat (b:UInt8):((lowB b).toNat:Int)=lowN b.toNat:=by
 unfold lowB lowN;by_cases h:65≤b.toNat∧b.toNat≤90
 ·rw [if_pos h,if_pos (by omega),UInt8.toNat_add];have:(32:UInt8).toNat=32:=rfl;omega
 ·rw [if_neg h,if_neg (by omega)]
theorem len (s:ByteArray):s.data.toList.length=s.size:=by simp
theorem len_mk (l:List UInt8):(ByteArray.mk l.toArray).size=l.length:=by rw [←len]
def low (l:List UInt8):List UInt8:=l.map lowB
def lower (s:ByteArray):ByteArray:=⟨(low s.data.toList).toArray⟩
theorem lower_list (s:ByteArray):(lower s).data.toList=low s.data.toList:=rfl
def same (a b:ByteArray):Bool:=low a.data.toList==low b.data.toList
theorem ba_ext {a b:ByteArray} (h:a.data.toList=b.data.toList):a=b:=by cases a;cases b;simp at h;rw [h]
theorem same_iff (a b:ByteArray):same a b=true↔lower a=lower b:=by unfold same;rw [beq_iff_eq];exact ⟨fun h=>ba_ext (by rw [lower_list,lower_list,h]),fun h=>by rw [←lower_list,←lower_list,h]⟩
def trimL (p:UInt8→Bool) (l:List UInt8):List UInt8:=((l.dropWhile p).reverse.dropWhile p).reverse
def trimB (p:UInt8→Bool) (s:ByteArray):ByteArray:=⟨(trimL p s.data.toList).toArray⟩
theorem trimB_list (p:UInt8→Bool) (s:ByteArray):(trimB p s).data.toList=trimL p s.data.toList:=rfl
theorem dropWhile_all {p:UInt8→Bool}:∀{l r:List UInt8},(∀x∈l,p x=true)→(l++r).dropWhile p=r.dropWhile p
 | [],_,_=>rfl
 | x::l,r,h=>by
   rw [List.cons_append,List.dropWhile_cons,if_pos (h x (by simp))]
   exact dropWhile_all fun y hy=>h y (by simp [hy])
theorem dropWhile_stop {p:UInt8→Bool} {x:UInt8} {l:List UInt8} (h:p x=false):(x::l).dropWhile p=x::l:=by rw [List.dropWhile_cons,if_neg (by simp [h])]
theorem trimL_mid (p:UInt8→Bool) (A M B:List UInt8) (hA:∀x∈A,p x=true) (hB:∀x∈B,p x=true) (hM:M= []∨((∃x r,M=x::r∧p x=false)∧∃x r,M=r ++ [x]∧p x=false)) :
 trimL p (A++(M++B))=M:=by
 unfold trimL;rw [dropWhile_all hA];rcases hM with rfl | ⟨⟨x,r,hx,px⟩,y,t,hy,py⟩
 ·rw [List.nil_append,←List.append_nil B,dropWhile_all hB];rfl
 ·have e1:(M++B).dropWhile p=M++B:=by rw [hx,List.cons_append];exact dropWhile_stop px
  rw [e1,List.reverse_append,dropWhile_all (by intro z hz;exact hB z (by simpa using hz))];have e2:M.reverse.dropWhile p=M.reverse:=by rw [hy,List.reverse_append,List.reverse_singleton,List.singleton_append];exact dropWhile_stop py
  rw [e2,List.reverse_reverse]
def parts (c:UInt8):List UInt8→List (List UInt8)
 | []=> [[]]
 | b::l=>if b=c then []::parts c l else match parts c l with
   | []=> [[b]]
   | p::ps=>(b::p)::ps
theorem parts_none (c:UInt8):∀l:List UInt8,c∉l→parts c l= [l]
 | [],_=>rfl
 | b::l,h=>by
   simp only [List.mem_cons,not_or] at h;rw [parts,if_neg (fun e=>h.1 e.symm),parts_none c l h.2]
theorem parts_cut (c:UInt8):∀(a r:List UInt8),c∉a→parts c (a++c::r)=a::parts c r
 | [],r,_=>by rw [List.nil_append,parts,if_pos rfl]
 | b::a,r,h=>by
   simp only [List.mem_cons,not_or] at h;rw [List.cons_append,parts,if_neg (fun e=>h.1 e.symm),parts_cut c a r h.2]
theorem parts_length (c:UInt8):∀l:List UInt8,(parts c l).length=l.count c+1
 | []=>rfl
 | b::l=>by
   rw [parts];have ih:=parts_length c l;by_cases h:b=c
   ·subst h;rw [if_pos rfl,List.length_cons,ih,List.count_cons_self]
   ·rw [if_neg h,List.count_cons_of_ne h];cases hp:parts c l with
    | nil=>rw [hp] at ih;simp at ih
    | cons p ps=>rw [hp] at ih;simpa using ih
theorem parts_le (c:UInt8) (l:List UInt8):(parts c l).length≤l.length+1:=by rw [parts_length];have:=List.count_le_length (a:=c) (l:=l);omega
theorem parts_size (c:UInt8):∀l:List UInt8,∀p∈parts c l,p.length≤l.length
 | [],p,h=>by simp [parts] at h;subst h;simp
 | b::l,p,h=>by
   rw [parts] at h;have ih:=parts_size c l;split at h
   ·rcases List.mem_cons.1 h with rfl | h
    ·simp
    ·have:=ih p h;simp;omega
   ·cases hp:parts c l with
    | nil=>rw [hp] at h;simp at h;subst h;simp
    | cons q qs=>
      rw [hp] at h ih;rcases List.mem_cons.1 h with rfl | h
      ·have:=ih q (by simp);simp;omega
      ·have:=ih p (by simp [h]);simp;omega
def ba (l:List UInt8):ByteArray:=⟨l.toArray⟩
theorem ba_size (l:List UInt8):(ba l).size=l.length:=len_mk l
def blank (b:UInt8):Bool:=b==32||b==9
def trim (s:ByteArray):ByteArray:=trimB blank s
def partsOf (s:ByteArray):List ByteArray:=(parts 44 s.data.toList).map fun l=>trim (ba l)
def list (vs:List ByteArray):List ByteArray:=vs.flatMap partsOf
abbrev Fld:=ByteArray × ByteArray
def find (l:List Fld) (name:ByteArray):List ByteArray:=(l.filter fun f=>same f.1 name).map (·.2)
def one (names:List ByteArray) (s:ByteArray):Bool:=names.any fun n=>same n s
def without (l:List Fld) (names:List ByteArray):List Fld:=l.filter fun f=>!one names f.1
theorem dropWhile_le (p:UInt8→Bool) (l:List UInt8):(l.dropWhile p).length≤l.length:=(List.dropWhile_sublist p).length_le
theorem trimL_length (p:UInt8→Bool) (l:List UInt8):(trimL p l).length≤l.length:=by unfold trimL;have h1:=dropWhile_le p l;have h2:=dropWhile_le p (l.dropWhile p).reverse;simp only [List.length_reverse] at h2 ⊢;omega
theorem trim_size (p:UInt8→Bool) (s:ByteArray):(trimB p s).size≤s.size:=by
 have:=trimL_length p s.data.toList
 rwa [trimB,len_mk,←len]
def Strs (w:World) (a:Option Addr) (n:Nat) (ss:List ByteArray):Prop:=
 ss.length=n∧(0<n→∃b off,a=some ⟨b,off,none⟩∧b<w.heap.size∧∀k,k<n→w.cell? ⟨b,off+k,none⟩=some (.string (ss[k]?.getD ByteArray.empty)))
theorem Strs.nil (w:World) (a:Option Addr):Strs w a 0 []:=⟨rfl,fun h=>absurd h (by omega)⟩
theorem Strs.below {w w':World} {a:Option Addr} {n:Nat} {ss:List ByteArray} (h:Strs w a n ss) (hb:Below w.heap.size w w'):Strs w' a n ss:=by refine ⟨h.1,fun hn=>?_⟩;obtain ⟨b,off,e,hlt,hc⟩:=h.2 hn;exact ⟨b,off,e,Nat.lt_of_lt_of_le hlt hb.size,fun k hk=>(hb.cell (p:=⟨b,off+k,none⟩) hlt).trans (hc k hk)⟩
theorem Strs.of_own {w:World} {base:Nat} {e:TypeId} {v:Value} {n:Nat} {ss:List ByteArray} (h:w.ownsRow base e 1 v n (ss.map Value.string)):∃A c,v=.slice A n c∧Strs w A n ss:=by
 have hl:ss.length=n:=by simpa using h.1
 rcases h.2 with ⟨rfl,rfl⟩ | ⟨g,cap,cur,rfl,_,hh,_,_,_,ht⟩
 ·exact ⟨none,0,rfl,hl,fun h=>absurd h (by omega)⟩
 ·refine ⟨_,_,rfl,hl,fun _=>⟨g,0,rfl,?_,fun k hk=>?_⟩⟩
  ·rcases Nat.lt_or_ge g w.heap.size with hlt | hge
   ·exact hlt
   ·rw [Array.getElem?_eq_none hge] at hh;cases hh
  ·rw [Nat.zero_add,cell_of_row w g k cur e (0,0) hh];have h1:(ss.map Value.string)[k]?=some (.string (ss[k]?.getD ByteArray.empty)):=by
    rw [List.getElem?_map,List.getElem?_eq_getElem (by omega)];rfl
   rw [←ht,List.getElem?_take_of_lt (by omega)] at h1;simpa using h1
theorem Strs.grown {w w':World} {b off n:Nat} {ss:List ByteArray} (h:Strs w (some ⟨b,off,none⟩) n ss) {row:Option Nat} (hg:w.grownBy w' row) (hne:row≠some b):Strs w' (some ⟨b,off,none⟩) n ss:=by
 refine ⟨h.1,fun hn=>?_⟩;obtain ⟨b',off',e,hlt,hc⟩:=h.2 hn;obtain ⟨rfl,rfl⟩:b=b'∧off=off':=by simpa using e
 exact ⟨b,off,rfl,Nat.lt_of_lt_of_le hlt hg.size,fun k hk=>hg.cell (hc k hk) (fun e=>hne e.symm)⟩
theorem strs_snoc (ss:List ByteArray) (k:Nat) (h:k<ss.length):ss.take (k+1)=ss.take k ++ [ss[k]?.getD ByteArray.empty]:=by rw [List.take_succ_eq_append_getElem h,List.getElem?_eq_getElem h];rfl
theorem grown_of_below {w w':World} (hb:Below w.heap.size w w'):w.grownBy w' none:=⟨hb.os,hb.tape,hb.output,hb.size,fun k hk _=>hb.block k hk⟩
theorem own_below {w w':World} {base:Nat} {e:TypeId} {size:Nat} {v:Value} {n:Nat} {xs:List Value} (h:w.ownsRow base e size v n xs) (hb:Below w.heap.size w w'):w'.ownsRow base e size v n xs:=
 h.kept (grown_of_below hb) (Classical.em _)
theorem map_snoc {α β:Type} (f:α→β) (d:α) (l:List α) (j:Nat) (h:j<l.length):(l.map f).take (j+1)=(l.map f).take j ++ [f (l[j]?.getD d)]:=by rw [List.take_succ_eq_append_getElem (by rw [List.length_map];exact h),List.getElem_map,List.getElem?_eq_getElem h];rfl
def cells (fs:List Fld):List Value:=fs.flatMap fun f=> [.string f.1,.string f.2]
theorem cells_length:∀fs:List Fld,(cells fs).length=fs.length*2
 | []=>rfl
 | f::fs=>by simp [cells] at *;have:=cells_length fs;simp [cells] at this;omega
theorem cells_append (fs gs:List Fld):cells (fs++gs)=cells fs++cells gs:=by simp [cells]
def dflt:Fld:=(ByteArray.empty,ByteArray.empty)
theorem cells_at:∀(fs:List Fld) (k:Nat),k<fs.length→(cells fs)[k*2]?=some (.string (fs[k]?.getD dflt).1)∧(cells fs)[k*2+1]?=some (.string (fs[k]?.getD dflt).2)
 | [],k,h=>by simp at h
 | f::fs,0,_=>by simp [cells]
 | f::fs,k+1,h=>by
   have:=cells_at fs k (by simpa using h);have e:cells (f::fs)=.string f.1 :: .string f.2::cells fs:=by simp [cells]
   rw [e,show (k+1)*2=k*2+2 by omega,show k*2+2+1=(k*2+1)+2 by omega];simpa using this
def Flds (w:World) (a:Option Addr) (n:Nat) (fs:List Fld):Prop:=
 fs.length=n∧(0<n→∃b off,a=some ⟨b,off,none⟩∧b<w.heap.size∧∀k,k<n→w.cell? ⟨b,off+k*2,none⟩=some (.string (fs[k]?.getD dflt).1)∧w.cell? ⟨b,off+k*2+1,none⟩=some (.string (fs[k]?.getD dflt).2))
theorem Flds.below {w w':World} {a:Option Addr} {n:Nat} {fs:List Fld} (h:Flds w a n fs) (hb:Below w.heap.size w w'):Flds w' a n fs:=by refine ⟨h.1,fun hn=>?_⟩;obtain ⟨b,off,e,hlt,hc⟩:=h.2 hn;exact ⟨b,off,e,Nat.lt_of_lt_of_le hlt hb.size,fun k hk=>⟨(hb.cell (p:=⟨b,off+k*2,none⟩) hlt).trans (hc k hk).1,(hb.cell (p:=⟨b,off+k*2+1,none⟩) hlt).trans (hc k hk).2⟩⟩
theorem Flds.of_cells {w:World} {b:Nat} {fs:List Fld} {n:Nat} (hn:fs.length=n) (hb:b<w.heap.size) (h:∀j,j<n*2→w.cell? ⟨b,j,none⟩=(cells fs)[j]?):Flds w (some ⟨b,0,none⟩) n fs:=by
 refine ⟨hn,fun _=>⟨b,0,rfl,hb,fun k hk=>?_⟩⟩
 have:=cells_at fs k (by omega);rw [Nat.zero_add,h (k*2) (by omega),h (k*2+1) (by omega)];exact this
theorem Flds.of_own {w:World} {base:Nat} {e:TypeId} {v:Value} {n:Nat} {fs:List Fld} (h:w.ownsRow base e 2 v n (cells fs)):∃A c,v=.slice A n c∧Flds w A n fs:=by
 have hl:fs.length=n:=by have:=h.1;rw [cells_length] at this;omega
 rcases Nat.eq_zero_or_pos n with h0 | hp
 ·subst h0;rcases h.2 with ⟨rfl,_⟩ | ⟨g,cap,cur,rfl,_⟩
  ·exact ⟨none,0,rfl,hl,fun h=>absurd h (by omega)⟩
  ·exact ⟨_,_,rfl,hl,fun h=>absurd h (by omega)⟩
 ·obtain ⟨g,cap,rfl,_,hg⟩:=h.form hp;exact ⟨_,_,rfl,Flds.of_cells hl hg fun j hj=>h.cellAt j hj⟩
theorem flds_snoc (fs:List Fld) (k:Nat) (h:k<fs.length):fs.take (k+1)=fs.take k ++ [fs[k]?.getD dflt]:=by rw [List.take_succ_eq_append_getElem h,List.getElem?_eq_getElem h];rfl
end Go.Proofs.YtimoakmcelocfaaGreat.Txt
namespace Go.Proofs.YtimoakmcelocfaaGreat.Txt
open Go.RowKit Base
def nums (bs:List UInt8):List Int:=bs.map fun b=>(b.toNat:Int)
theorem bytes_of:∀zs:List Int,(∀n∈zs,0≤n∧n≤255)→∃bs,zs=nums bs
 | [],_=>⟨[],rfl⟩
 | z::zs,h=>by
   obtain ⟨bs,e⟩:=bytes_of zs fun n hn=>h n (by simp [hn])
   obtain ⟨h0,h1⟩:=h z (by simp);refine ⟨UInt8.ofNat z.toNat::bs,?_⟩;rw [nums,List.map_cons,e]
   congr 1
   rw [UInt8.toNat_ofNat_of_lt' (by show z.toNat<256;omega)];omega
theorem nums_at (bs:List UInt8) (k:Nat) (h:k<bs.length):(nums bs)[k]?.getD 0=(bs[k].toNat:Int):=by rw [nums,List.getElem?_map,List.getElem?_eq_getElem h];rfl
theorem conv_str (w:World) (a:Option Addr) (n cap:Nat) (bs:List UInt8) (h:Nums .u8 w a n (nums bs)):(convert 34 9 (.slice a n cap)).run Tryz.prog w=.ok (.string (ba bs)) w:=by
 have hl:bs.length=n:=by have:=h.1;rwa [nums,List.length_map] at this
 have key:∀b off,(∀k,k<n→w.cell? ⟨b,off+k,none⟩=some (.int .u8 ((nums bs)[k]?.getD 0)))→(convert 34 9 (.slice (some ⟨b,off,none⟩) n cap)).run Tryz.prog w=.ok (.string (ba bs)) w:=by
  intro b off hc
  have:=run_convert_bytes_back (P:=Tryz.prog) w 34 9 5 ⟨b,off,none⟩ cap bs Tryz.underlying34 Tryz.underlying5 Tryz.underlying9 (fun j hj=>by
   have e:(⟨b,off,none⟩:Addr).add j=⟨b,off+j,none⟩:=by unfold Addr.add;by_cases h:j=0<;>simp [h]
   rw [e,hc j (by omega),nums_at bs j hj])
  rw [hl] at this;exact this
 rcases Nat.eq_zero_or_pos n with h0 | hp
 ·subst h0;obtain rfl:bs= []:=List.length_eq_zero_iff.1 hl;cases a with
  | none=>rw [run_convert_bytes_string w 34 9 5 none 0 cap Tryz.underlying34 Tryz.underlying5 Tryz.underlying9];rfl
  | some x=>
    exact run_convert_bytes_back (P:=Tryz.prog) w 34 9 5 x cap [] Tryz.underlying34 Tryz.underlying5 Tryz.underlying9 (fun j hj=>by simp at hj)
 ·obtain ⟨b,off,rfl,_,hc⟩:=h.2 hp;exact key b off hc
def Lines (w:World) (a:Option Addr) (n:Nat) (ls:List (List UInt8)):Prop:=
 ls.length=n∧(0<n→∃b off,a=some ⟨b,off,none⟩∧b<w.heap.size∧∀k,k<n→∃ak ck,w.cell? ⟨b,off+k,none⟩=some (.slice ak (ls[k]?.getD []).length ck)∧Nums .u8 w ak (ls[k]?.getD []).length (nums (ls[k]?.getD [])))
end Go.Proofs.YtimoakmcelocfaaGreat.Txt
namespace Go.Proofs
open Go.Shelf
def Tryz.lays169_ren:Go.Shelf.Ren:=⟨fun | 169=>85 | n=>n,fun | 70=>114 | 9=>9 | 0=>0 | 72=>116 | 37=>34 | 127=>141 | 3=>3 | 5=>5 | n=>n,fun | n=>n⟩
theorem Tryz.lays169:Go.Proofs.Lays.n169 Tryz.prog Tryz.lays169_ren:={
 mixed:=by kernel_rfl
 f169:=Tryz.func85.trans (congrArg some (by kernel_rfl))
 t0:=Tryz.underlying0
 a0:=Tryz.isAgg0
 z0:=Tryz.sizeOf0
 v0:=Tryz.zeroValue0
 t3:=Tryz.underlying3
 a3:=Tryz.isAgg3
 z3:=Tryz.sizeOf3
 v3:=Tryz.zeroValue3
 t9:=Tryz.underlying9
 a9:=Tryz.isAgg9
 z9:=Tryz.sizeOf9
 v9:=Tryz.zeroValue9
 t37:=Tryz.underlying34
 a37:=Tryz.isAgg34
 z37:=Tryz.sizeOf34
 v37:=Tryz.zeroValue34
 t70:=Tryz.underlying114
 a70:=Tryz.isAgg114
 z70:=Tryz.sizeOf114
 v70:=Tryz.zeroValue114
 t72:=Tryz.underlying116
 a72:=Tryz.isAgg116
 z72:=Tryz.sizeOf116
 v72:=Tryz.zeroValue116
 t127:=Tryz.underlying141
 a127:=Tryz.isAgg141
 z127:=Tryz.sizeOf141
 v127:=Tryz.zeroValue141}
theorem Tryz.Builder_Extra_169:Builder.Extra Tryz.prog Tryz.lays169_ren:={
 sizeBuilder:=by kernel_rfl
 liesBuilder:=by kernel_rfl
 t5:=Tryz.underlying5
 a5:=Tryz.isAgg5
 z5:=Tryz.sizeOf5
 v5:=Tryz.zeroValue5
 infoByte:=by kernel_rfl
 cellsByte:=by kernel_rfl
 sizeByte:=by kernel_rfl
 neB5:=by decide}
open Go.RowKit in
theorem Tryz.Builder_String_any_f (B b:Nat) (l:List UInt8) (w:World) (h:Lib.IsBuilderF 116 5 B b (Lib.byteCells l) w) (hBw:B≤w.heap.size) :
 Calls Tryz.prog 85 #[.pointer (some ⟨b,0,none⟩)] w fun e w'=>e=.returned (.string ⟨l.toArray⟩)∧(Lib.IsBuilderF 116 5 B b (Lib.byteCells l) w'∧Below B w w'):=Any.Builder_String_any_f Tryz.lays169 Tryz.Builder_Extra_169 B b l w h hBw
end Go.Proofs
namespace Go.Proofs.YtimoakmcelocfaaGreat.Oct
open Go.RowKit Base
def digit (n:Int):Bool:=decide (48≤n)&&decide (n≤57)
def letter (n:Int):Bool:=(decide (97≤n)&&decide (n≤122))|| (decide (65≤n)&&decide (n≤90))
def visible (n:Int):Bool:=decide (33≤n)&&decide (n≤126)
def blank (n:Int):Bool:=decide (n=32)||decide (n=9)
def control (n:Int):Bool:=decide (n<32)||decide (n=127)
def textual (n:Int):Bool:=visible n||blank n||decide (128≤n)
def marks:List UInt8:= [33,35,36,37,38,39,42,43,45,46,94,95,96,124,126]
def stands (l:List UInt8) (n:Int):Bool:=l.any fun b=>(b.toNat:Int)==n
def token (n:Int):Bool:=letter n||digit n||stands marks n
def isHex (n:Int):Bool:=digit n|| (decide (97≤n)&&decide (n≤102))|| (decide (65≤n)&&decide (n≤70))
def hexVal (n:Int):Int:=if digit n=true then n-48 else if 97≤n∧n≤102 then n-87 else if 65≤n∧n≤70 then n-55 else 0
def ofKind (n k:Int):Bool:=if k=1 then token n else if k=2 then visible n else if k=3 then blank n else if k=4 then digit n else if k=5 then isHex n else if k=6 then textual n else false
def oneOf (ks:List Int) (n:Int):Bool:=ks.any fun k=>ofKind n k
def allOf (ks:List Int) (l:List UInt8):Bool:=l.all fun b=>oneOf ks b.toNat
section code
set_option maxHeartbeats 400000
theorem stands_any (n:Int) (s:ByteArray) (w:World) (hs:s.size≤maxLen):Calls Tryz.prog 126 #[.int .u8 n,.string s] w fun e w'=>e=.returned (.bool (stands s.data.toList n))∧w'=w:=by
 unfold maxLen at hs;go_enter Tryz.func126,Tryz.ntmps126;go_wp2
 go_loop [5] (fun i=>∃k:Nat,k≤s.size∧i=.int .i64 k∧Hid (stands (s.data.toList.take k) n=false)) (fun i=>s.size-(intOf i).toNat)
 case atStart=>exact ⟨0,Nat.zero_le _,rfl,rfl⟩
 case round=>
  obtain ⟨k,hk,rfl,hno⟩:=hrel;rcases Nat.lt_or_ge k s.size with hlt | hge
  ·have hsn:=take_snoc s k hlt;have HS:=Lib.hid hsn;clear hsn;go_wp2
   ·go_ret;refine ⟨ret_bool ?_,rfl⟩;have hx:((s[k].toNat:Int)==n)=true:=by assumption
    have hm:s[k]∈s.data.toList:=by
     have:=HS.out
     exact List.mem_of_mem_take (i:=k+1) (by rw [this];simp)
    simp only [true_iff,stands,List.any_eq_true];exact ⟨_,hm,hx⟩
   ·go_round
    case rel=>
     refine ⟨k+1,by omega,by go_num,?_⟩;have hx:((s[k].toNat:Int)==n)=false:=by assumption
     have:=hno.out;refine Lib.hid ?_;rw [HS.out]
     simp_all [stands]
    case measure=>simp [intOf];omega
  ·go_wp2;go_ret;have:=hno.out;rw [take_all s k (by omega)] at this;exact ⟨by rw [this];rfl,rfl⟩
theorem rdigit_any (n:Int) (w:World):Calls Tryz.prog 106 #[.int .u8 n] w fun e w'=>e=.returned (.bool (digit n))∧w'=w:=by
 go_enter Tryz.func106,Tryz.ntmps106;go_wp2
 all_goals (go_ret;exact ⟨ret_bool (by simp [digit]<;>omega),rfl⟩)
theorem rletter_any (n:Int) (w:World):Calls Tryz.prog 118 #[.int .u8 n] w fun e w'=>e=.returned (.bool (letter n))∧w'=w:=by
 go_enter Tryz.func118,Tryz.ntmps118;go_wp2
 all_goals (go_ret;exact ⟨ret_bool (by simp [letter]<;>omega),rfl⟩)
theorem rvisible_any (n:Int) (w:World):Calls Tryz.prog 99 #[.int .u8 n] w fun e w'=>e=.returned (.bool (visible n))∧w'=w:=by
 go_enter Tryz.func99,Tryz.ntmps99;go_wp2
 all_goals (go_ret;exact ⟨ret_bool (by simp [visible]<;>omega),rfl⟩)
theorem rblank_any (n:Int) (w:World):Calls Tryz.prog 100 #[.int .u8 n] w fun e w'=>e=.returned (.bool (blank n))∧w'=w:=by
 go_enter Tryz.func100,Tryz.ntmps100;go_wp2
 all_goals (go_ret;exact ⟨ret_bool (by simp [blank]<;>omega),rfl⟩)
theorem rcontrol_any (n:Int) (w:World):Calls Tryz.prog 101 #[.int .u8 n] w fun e w'=>e=.returned (.bool (control n))∧w'=w:=by
 go_enter Tryz.func101,Tryz.ntmps101;go_wp2
 all_goals (go_ret;exact ⟨ret_bool (by simp [control]<;>omega),rfl⟩)
theorem rtext_any (n:Int) (w:World):Calls Tryz.prog 116 #[.int .u8 n] w fun e w'=>e=.returned (.bool (textual n))∧w'=w:=by
 go_enter Tryz.func116,Tryz.ntmps116
 go_wp2_with (first
  |(go_at_call 99;refine (rvisible_any _ _).mono ?_;rintro e w' ⟨rfl,rfl⟩)
  |(go_at_call 100;refine (rblank_any _ _).mono ?_;rintro e w' ⟨rfl,rfl⟩))
 all_goals (go_ret;exact ⟨ret_bool (by simp [textual, *]),rfl⟩)
theorem rtoken_any (n:Int) (w:World):Calls Tryz.prog 115 #[.int .u8 n] w fun e w'=>e=.returned (.bool (token n))∧w'=w:=by
 have hsz:(ByteArray.mk #[33,35,36,37,38,39,42,43,45,46,94,95,96,124,126]).size≤maxLen:=by decide
 go_enter Tryz.func115,Tryz.ntmps115
 go_wp2_with (first
  |(go_at_call 118;refine (rletter_any _ _).mono ?_;rintro e w' ⟨rfl,rfl⟩)
  |(go_at_call 106;refine (rdigit_any _ _).mono ?_;rintro e w' ⟨rfl,rfl⟩)
  |(go_at_call 126;refine (stands_any _ _ _ (by assumption)).mono ?_;rintro e w' ⟨rfl,rfl⟩))
 all_goals (go_ret;exact ⟨ret_bool (by simp [token,marks, *]),rfl⟩)
theorem rhex_any (n:Int) (w:World) (h0:0≤n) (h1:n≤255):Calls Tryz.prog 114 #[.int .u8 n] w fun e w'=>e=.returned (.tuple #[.int .i64 (hexVal n),.bool (isHex n)])∧w'=w:=by
 by_cases hd:digit n=true
 ·have hb:48≤n∧n≤57:=by simpa [digit] using hd
  obtain ⟨hb0,hb1⟩:=hb;go_enter Tryz.func114,Tryz.ntmps114
  go_wp2_with (go_at_call 106;refine (rdigit_any _ _).mono ?_;rintro e w' ⟨rfl,rfl⟩)
  all_goals (go_ret2;exact ⟨by simp [hexVal,isHex,hd],rfl⟩)
 ·have hd':digit n=false:=by simpa using hd
  go_enter Tryz.func114,Tryz.ntmps114
  go_wp2_with (go_at_call 106;refine (rdigit_any _ _).mono ?_;rintro e w' ⟨rfl,rfl⟩)
  all_goals (go_ret2;exact ⟨by simp [hexVal,isHex, *]<;>omega,rfl⟩)
theorem rofKind_any (n k:Int) (w:World) (h0:0≤n) (h1:n≤255):Calls Tryz.prog 98 #[.int .u8 n,.int .i64 k] w fun e w'=>e=.returned (.bool (ofKind n k))∧w'=w:=by
 go_enter Tryz.func98,Tryz.ntmps98
 go_wp2_with (first
  |(go_at_call 115;refine (rtoken_any _ _).mono ?_;rintro e w' ⟨rfl,rfl⟩)
  |(go_at_call 99;refine (rvisible_any _ _).mono ?_;rintro e w' ⟨rfl,rfl⟩)
  |(go_at_call 100;refine (rblank_any _ _).mono ?_;rintro e w' ⟨rfl,rfl⟩)
  |(go_at_call 106;refine (rdigit_any _ _).mono ?_;rintro e w' ⟨rfl,rfl⟩)
  |(go_at_call 114;refine (rhex_any _ _ (by assumption) (by assumption)).mono ?_;rintro e w' ⟨rfl,rfl⟩)
  |(go_at_call 116;refine (rtext_any _ _).mono ?_;rintro e w' ⟨rfl,rfl⟩))
 all_goals (go_ret;exact ⟨ret_bool (by simp_all [ofKind]),rfl⟩)
theorem rall_any (s:ByteArray) (a:Option Addr) (len cap:Nat) (ks:List Int) (w:World) (hs:s.size≤maxLen) (hk:Ints w a len ks) (hl:len≤maxLen) :
 Calls Tryz.prog 87 #[.string s,.slice a len cap] w fun e w'=>e=.returned (.bool (allOf ks s.data.toList))∧∃m,w'=w.drewN m:=by
 unfold maxLen at hs hl;have HK:=Lib.hid hk;have HL:=Lib.hid hk.1;clear hk;go_enter Tryz.func87,Tryz.ntmps87;go_wp2
 go_loopw [5] (fun i wr=>∃k:Nat,k≤s.size∧i=.int .i64 k∧Hid (allOf ks (s.data.toList.take k)=true)∧Hid (∃m,wr=w.drewN m)) (fun i _=>s.size-(intOf i).toNat)
 case atStart=>exact ⟨0,Nat.zero_le _,rfl,rfl,0,rfl⟩
 case round=>
  obtain ⟨k,hk,rfl,hyes,hw⟩:=hrel;obtain ⟨wo,rfl⟩:∃wo:World,wo=wr:=⟨_,rfl⟩;rcases Nat.lt_or_ge k s.size with hlt | hge
  ·have HS:=Lib.hid (take_snoc s k hlt);have hb:=byte_lt s[k];have hb0:(0:Int)≤(s[k].toNat:Int):=by omega
   go_wp2
   go_loopw [6,7] (fun ok j wr=>∃(q:Nat) (b:Bool),q≤len∧j=.int .i64 q∧ok=.bool b∧Hid (b=oneOf (ks.take q) (s[k].toNat:Int))∧Hid (∃m,wr=wo.drewN m)) (fun _ j _=>len-(intOf j).toNat)
   case atStart=>exact ⟨0,false,Nat.zero_le _,rfl,rfl,rfl,0,rfl⟩
   case round=>
    obtain ⟨q,b,hq,rfl,rfl,hok,hwi⟩:=hrel;rcases Nat.lt_or_ge q len with hltq | hgeq
    ·have hI:Ints wr a len ks:=by
      obtain ⟨m1,rfl⟩:=hw.out;obtain ⟨m,rfl⟩:=hwi.out;exact HK.out
     obtain ⟨bl,off,rfl,_,hc⟩:=hI.2 (by omega);have hck:=hc q hltq
     have HQ:=Lib.hid (ints_snoc ks q (by rw [HL.out];exact hltq));clear hc hI;cases b
     ·go_wp2
      go_quiet ((go_at_call 98;exact Calls.quiet_of_same (rofKind_any _ _ _ (by assumption) (by assumption))));go_wp2;go_roundw
      case rel=>
       refine ⟨q+1,_,by omega,by go_num,rfl,Lib.hid ?_,Lib.hid ?_⟩
       ·have:=hok.out;rw [HQ.out]
        simp_all [oneOf]
       ·obtain ⟨m,hm⟩:=hwi.out;exact ⟨m+nq,by rw [hm,World.drewN_drewN]⟩
      case measure=>simp [intOf];omega
     ·go_wp2
      go_quiet (fail);go_wp2;go_roundw
      case rel=>
       refine ⟨q+1,_,by omega,by go_num,rfl,Lib.hid ?_,Lib.hid ?_⟩
       ·have:=hok.out;rw [HQ.out]
        simp_all [oneOf]
       ·obtain ⟨m,hm⟩:=hwi.out;exact ⟨m+nq,by rw [hm,World.drewN_drewN]⟩
      case measure=>simp [intOf];omega
    ·have HE:Hid (oneOf (ks.take q) (s[k].toNat:Int)=oneOf ks (s[k].toNat:Int)):=by
      rw [List.take_of_length_le (by rw [HL.out];exact hgeq)];exact Lib.hid rfl
     cases b
     ·go_wp2;go_ret;refine ⟨ret_bool ?_,?_⟩
      ·have h1:=hok.out;have h2:=HE.out;simp only [Bool.false_eq_true,false_iff,allOf,List.all_eq_true];intro hall
       have:=hall _ (byte_mem s k hlt);rw [←h2,←h1] at this;cases this
      ·obtain ⟨m,hm⟩:=hwi.out;obtain ⟨m1,hm1⟩:=hw.out;exact ⟨m1+m,by rw [hm,hm1,World.drewN_drewN]⟩
     ·go_wp2;go_roundw
      case rel=>
       refine ⟨k+1,by omega,by go_num,Lib.hid ?_,Lib.hid ?_⟩
       ·have h0:=hyes.out;have h1:=hok.out;have h2:=HE.out;rw [HS.out]
        simp_all [allOf]
       ·obtain ⟨m,hm⟩:=hwi.out;obtain ⟨m1,hm1⟩:=hw.out;exact ⟨m1+m,by rw [hm,hm1,World.drewN_drewN]⟩
      case measure=>simp [intOf];omega
  ·go_wp2;go_ret;have:=hyes.out;rw [take_all s k hge] at this;exact ⟨by rw [this];rfl,hw.out⟩
end code
end Go.Proofs.YtimoakmcelocfaaGreat.Oct
namespace Go.Proofs.YtimoakmcelocfaaGreat.Num
open Base Oct
def dig (c:UInt8):Int:=hexVal (c.toNat:Int)
def digitOf (base:Int) (c:UInt8):Bool:=isHex (c.toNat:Int)&&decide (dig c<base)
def grow (base most:Int):Int→List UInt8→Option Int
 | n,[]=>some n
 | n,c::r=>if most<dig c∨(most-dig c)/base<n then none else grow base most (n*base+dig c) r
def ofGrow:Option Int→Int × Int
 | some n=>(n,0)
 | none=>(0,23)
def readOf (base most:Int) (l:List UInt8):Int × Int:=
 if (l.isEmpty || !l.all (digitOf base))=true then (0,22) else ofGrow (grow base (max most 0) 0 l)
def value (base:Int):Int→List UInt8→Int
 | n,[]=>n
 | n,c::r=>value base (n*base+dig c) r
def tab:List UInt8:= [48,49,50,51,52,53,54,55,56,57,97,98,99,100,101,102]
def sign (n:Nat):UInt8:=tab[n]?.getD 0
def spell (b n:Nat):List UInt8:=if _h:n<b∨b<2 then [sign n] else spell b (n/b) ++ [sign (n%b)]
 termination_by n
 decreasing_by exact Nat.div_lt_self (by omega) (by omega)
theorem dig_tab:∀k:Fin 256,0≤hexVal (k.val:Int)∧hexVal (k.val:Int)≤15:=by decide +kernel
theorem dig_nonneg (c:UInt8):0≤dig c:=(dig_tab ⟨c.toNat,c.toNat_lt⟩).1
theorem dig_le (c:UInt8):dig c≤15:=(dig_tab ⟨c.toNat,c.toNat_lt⟩).2
section
variable {base most:Int}
theorem grow_app (n:Int) (l m:List UInt8):grow base most n (l++m)=(grow base most n l).bind fun k=>grow base most k m:=by
 induction l generalizing n with
 | nil=>rfl
 | cons c r ih=>
   simp only [List.cons_append,grow];split
   ·rfl
   ·exact ih _
theorem room (hb:1≤base) (n d:Int) (hn:0≤n):(most<d∨(most-d)/base<n)↔most<n*base+d:=by
 have hm:0≤n*base:=Int.mul_nonneg hn (by omega);constructor
 ·rintro (h | h)
  ·omega
  ·have:=(Int.ediv_lt_iff_lt_mul (by omega:0<base)).1 h;omega
 ·intro h;by_cases h1:most<d
  ·exact .inl h1
  ·exact .inr ((Int.ediv_lt_iff_lt_mul (by omega:0<base)).2 (by omega))
end
section
variable {b:Nat} (h2:2≤b) (h16:b≤16)
theorem spell_lt {n:Nat} (h:n<b):spell b n= [sign n]:=by rw [spell,dif_pos (.inl h)]
include h2
theorem spell_ge {n:Nat} (h:b≤n):spell b n=spell b (n/b) ++ [sign (n%b)]:=by rw [spell,dif_neg (by omega)]
theorem div_less {n:Nat} (h:b≤n):n/b<n:=Nat.div_lt_self (by omega) (by omega)
theorem spell_len (k:Nat):∀n,n<2^k→1≤k→(spell b n).length≤k:=by
 induction k with
 | zero=>intro n _ h;omega
 | succ k ih=>
   intro n hn _;by_cases h:n<b
   ·rw [spell_lt h];simp
   ·rw [spell_ge h2 (by omega),List.length_append]
    have hq:n/b≤n/2:=Nat.div_le_div_left h2 (by omega);have hk:1≤k:=by
     rcases Nat.eq_zero_or_pos k with rfl | hk
     ·omega
     ·exact hk
    have:=ih (n/b) (by rw [Nat.pow_succ] at hn;omega) hk;simp;omega
include h16
end
end Go.Proofs.YtimoakmcelocfaaGreat.Num
namespace Go.Proofs.YtimoakmcelocfaaGreat.Num
open Go.RowKit Base Oct
def str (l:List UInt8):ByteArray:=⟨l.toArray⟩
theorem str_app (l m:List UInt8):str (l++m)=str l++str m:=by apply ByteArray.ext;rw [ByteArray.data_append];simp [str]
theorem str_size (l:List UInt8):(str l).size=l.length:=by simp [str,ByteArray.size]
theorem signs:∀k:Fin 16,(ByteArray.mk #[48,49,50,51,52,53,54,55,56,57,97,98,99,100,101,102]).extract k.val (k.val+1)=str [sign k.val]:=by decide +kernel
section code
set_option maxHeartbeats 800000
theorem rspell_any (b:Nat) (B:Int) (hb:b=10∧B=10∨b=16∧B=16) (k:Nat):∀(n:Int) (w:World), -9223372036854775808≤n→n<9223372036854775808→n.toNat<k→Calls Tryz.prog 77 #[.int .i64 n,.int .i64 B] w fun e w'=>e=.returned (.string (str (spell b n.toNat)))∧∃m,w'=w.drewN m:=by
 induction k with
 | zero=>intro n w _ _ h;omega
 | succ k ih=>
   intro n w hn0 hn hk;have h2:2≤b:=by omega
   by_cases h:n<B
   ·rw [spell_lt (by omega)];by_cases hz:0≤n
    ·have e1:=signs ⟨n.toNat,by omega⟩;have e2:n.toNat+1=(n+1).toNat:=by omega
     have mx:max n 0=n:=by omega
     simp only [e2] at e1;clear e2;rcases hb with ⟨rfl,rfl⟩ | ⟨rfl,rfl⟩;all_goals
      go_enter Tryz.func77,Tryz.ntmps77;go_wp2_with fail;go_ret;exact ⟨rfl,0,rfl⟩
    ·have mx:max n 0=0:=by omega
     have e1:(ByteArray.mk #[48,49,50,51,52,53,54,55,56,57,97,98,99,100,101,102]).extract 0 1=str [sign 0]:=by decide +kernel
     have e3:n.toNat=0:=by omega
     rw [e3];rcases hb with ⟨rfl,rfl⟩ | ⟨rfl,rfl⟩;all_goals
      go_enter Tryz.func77,Tryz.ntmps77;go_wp2_with fail;go_ret;exact ⟨rfl,0,rfl⟩
   ·rw [spell_ge h2 (by omega)]
    have l1:=spell_len h2 64 (n.toNat/b) (by have:=div_less h2 (by omega:b≤n.toNat);omega) (by omega)
    have h3:=Lib.hid (ih (n/B))
    have h4:=Lib.hid (ih (n%B));have hi:B≤n:=by omega
    have c1:(n/B).toNat=n.toNat/b:=by rcases hb with ⟨rfl,rfl⟩ | ⟨rfl,rfl⟩<;>omega
    have c2:(n%B).toNat=n.toNat%b:=by rcases hb with ⟨rfl,rfl⟩ | ⟨rfl,rfl⟩<;>omega
    have w1:IntKind.i64.wrap (n/B)=n/B:=wrap_in _ (by rcases hb with ⟨rfl,rfl⟩ | ⟨rfl,rfl⟩<;>omega) (by rcases hb with ⟨rfl,rfl⟩ | ⟨rfl,rfl⟩<;>omega)
    have w2:IntKind.i64.wrap (n%B)=n%B:=wrap_in _ (by rcases hb with ⟨rfl,rfl⟩ | ⟨rfl,rfl⟩<;>omega) (by rcases hb with ⟨rfl,rfl⟩ | ⟨rfl,rfl⟩<;>omega)
    have w3:(n.tdiv B)=n/B:=Int.tdiv_eq_ediv_of_nonneg (by omega)
    have w4:(n.tmod B)=n%B:=Int.tmod_eq_emod_of_nonneg (by omega)
    have hs:spell b (n%B).toNat= [sign (n%B).toNat]:=spell_lt (by rcases hb with ⟨rfl,rfl⟩ | ⟨rfl,rfl⟩<;>omega);rw [←c1,←c2];rw [←c1] at l1;have z1:(str (spell b (n/B).toNat)).size≤64:=by rw [str_size];exact l1
    have z2:(str [sign (n%B).toNat]).size=1:=rfl;have z3:¬9223372036854775807<(str (spell b (n/B).toNat)).size+(str [sign (n%B).toNat]).size:=by omega
    have hj:str (spell b (n/B).toNat ++ [sign (n%B).toNat])=str (spell b (n/B).toNat)++str [sign (n%B).toNat]:=str_app _ _;rw [hj]
    have h3':Hid (∀w,Calls Tryz.prog 77 #[.int .i64 (n/B),.int .i64 B] w fun e w'=>e=.returned (.string (str (spell b (n/B).toNat)))∧∃m,w'=w.drewN m):=Lib.hid (fun w=>h3.out w (by rcases hb with ⟨rfl,rfl⟩ | ⟨rfl,rfl⟩<;>omega) (by rcases hb with ⟨rfl,rfl⟩ | ⟨rfl,rfl⟩<;>omega) (by rcases hb with ⟨rfl,rfl⟩ | ⟨rfl,rfl⟩<;>omega))
    have h4':Hid (∀w,Calls Tryz.prog 77 #[.int .i64 (n%B),.int .i64 B] w fun e w'=>e=.returned (.string (str [sign (n%B).toNat]))∧∃m,w'=w.drewN m):=Lib.hid (fun w=>by rw [←hs];exact h4.out w (by rcases hb with ⟨rfl,rfl⟩ | ⟨rfl,rfl⟩<;>omega) (by rcases hb with ⟨rfl,rfl⟩ | ⟨rfl,rfl⟩<;>omega) (by rcases hb with ⟨rfl,rfl⟩ | ⟨rfl,rfl⟩<;>omega));generalize str (spell b (n/B).toNat)=A at *;generalize str [sign (n%B).toNat]=D at *;clear ih h h2 h3 h4 l1 hs hj c1 c2;rcases hb with ⟨rfl,rfl⟩ | ⟨rfl,rfl⟩;all_goals
     go_enter Tryz.func77,Tryz.ntmps77;go_wp2_with fail
     go_quiet ((first |(go_at_call 77;with_reducible exact Calls.quiet_of (h3'.out _)) |(go_at_call 77;with_reducible exact Calls.quiet_of (h4'.out _))));go_wp2_with fail;go_ret;exact ⟨rfl,_,rfl⟩
end code
end Go.Proofs.YtimoakmcelocfaaGreat.Num
namespace Go.Proofs.YtimoakmcelocfaaGreat.Num
open Go.RowKit Base Oct
section code
set_option maxHeartbeats 800000
theorem rput_any (n:Int) (w:World) (h0: -9223372036854775808≤n) (h1:n≤9223372036854775807):Calls Tryz.prog 67 #[.int .i64 n] w fun e w'=>e=.returned (.string (str (spell 10 n.toNat)))∧∃m,w'=w.drewN m:=by
 have h:=Lib.hid (fun w=>rspell_any 10 10 (by omega) (n.toNat+1) n w h0 (by omega) (by omega));go_enter Tryz.func67,Tryz.ntmps67
 go_wp2_with (go_at_call 77;with_reducible refine (h.out _).mono ?_;rintro e w1 ⟨rfl,m,rfl⟩);go_ret;exact ⟨rfl,m,rfl⟩
theorem rputHex_any (n:Int) (w:World) (h0: -9223372036854775808≤n) (h1:n≤9223372036854775807):Calls Tryz.prog 68 #[.int .i64 n] w fun e w'=>e=.returned (.string (str (spell 16 n.toNat)))∧∃m,w'=w.drewN m:=by
 have h:=Lib.hid (fun w=>rspell_any 16 16 (by omega) (n.toNat+1) n w h0 (by omega) (by omega));go_enter Tryz.func68,Tryz.ntmps68
 go_wp2_with (go_at_call 77;with_reducible refine (h.out _).mono ?_;rintro e w1 ⟨rfl,m,rfl⟩);go_ret;exact ⟨rfl,m,rfl⟩
end code
end Go.Proofs.YtimoakmcelocfaaGreat.Num
namespace Go.Proofs.YtimoakmcelocfaaGreat.Num
open Go.RowKit Base Oct
theorem grow_snoc (base most n:Int) (l:List UInt8) (c:UInt8):grow base most n (l ++ [c])=(grow base most n l).bind fun k=>if most<dig c∨(most-dig c)/base<k then none else some (k*base+dig c):=by rw [grow_app];rfl
def Far (B M:Int) (l:List UInt8) (n:Int) (over:Bool):Prop:=l.all (digitOf B)=true∧0≤n∧n≤M∧grow B M 0 l=if over=true then none else some n
section code
set_option maxHeartbeats 1000000
theorem rnumber_any (B:Int) (hB:B=10∨B=16) (most:Int) (hM:most≤9223372036854775807) (s:ByteArray) (w:World) (hs:s.size≤maxLen) :
 Calls Tryz.prog 125 #[.string s,.int .i64 B,.int .i64 most] w fun e w'=>e=.returned (.tuple #[.int .i64 (readOf B most s.data.toList).1,.int .i64 (readOf B most s.data.toList).2])∧w'=w:=by
 unfold maxLen at hs;by_cases h:s.data.toList= []
 ·have e1:s.toList= []:=by rw [Go.ByteArray.toList_eq,h]
  rw [h];go_enter Tryz.func125,Tryz.ntmps125;go_wp2_with fail;go_ret2;exact ⟨rfl,rfl⟩
 ·have hne:s.toList.isEmpty=false:=by rw [Go.ByteArray.toList_eq];simpa using h
  have hne':s.data.toList.isEmpty=false:=by simpa using h
  have hp:0<s.size:=by
   rcases Nat.eq_zero_or_pos s.size with h0 | h0
   ·exact absurd (List.eq_nil_of_length_eq_zero (by simpa using h0)) h
   ·exact h0
  have hR:readOf B most s.data.toList=if (!s.data.toList.all (digitOf B))=true then (0,22) else ofGrow (grow B (max most 0) 0 s.data.toList):=by unfold readOf;rw [hne'];rfl
  clear hne' h;have hm0:0≤max most 0:=by omega
  have hm1:max most 0≤9223372036854775807:=by omega
  generalize hmx:max most 0=M at *;obtain ⟨R,hRR⟩:∃R,R=readOf B most s.data.toList:=⟨_,rfl⟩;rw [←hRR] at hR ⊢;clear hRR;have HR:=Lib.hid hR;clear hR;go_enter Tryz.func125,Tryz.ntmps125;go_wp2_with fail
  go_loop [8,9,10] (fun x o i=>∃(k:Nat) (n:Int) (over:Bool),k≤s.size∧x=.int .i64 n∧o=.bool over∧i=.int .i64 k∧Hid (Far B M (s.data.toList.take k) n over)) (fun _ _ i=>s.size-(intOf i).toNat)
  case atStart=>exact ⟨0,0,false,Nat.zero_le _,rfl,rfl,rfl,Lib.hid ⟨rfl,Int.le_refl _,hm0,rfl⟩⟩
  case round=>
   obtain ⟨k,n,over,hk,rfl,rfl,rfl,hfar⟩:=hrel;rcases Nat.lt_or_ge k s.size with hlt | hge
   ·have HS:=Lib.hid (take_snoc s k hlt);have b1:=byte_lt s[k];have b0:(0:Int)≤(s[k].toNat:Int):=by omega
    obtain ⟨d,hd⟩:∃d,d=dig s[k]:=⟨_,rfl⟩;obtain ⟨x,hx⟩:∃x,x=isHex (s[k].toNat:Int):=⟨_,rfl⟩
    have hxd:Hid (∀w,Calls Tryz.prog 114 #[.int .u8 (s[k].toNat:Int)] w fun e w'=>e=.returned (.tuple #[.int .i64 d,.bool x])∧w'=w):=Lib.hid (fun w=>by rw [hd,hx];exact rhex_any _ w b0 b1);have d0:0≤d:=by rw [hd];exact dig_nonneg _
    have d1:d≤15:=by rw [hd];exact dig_le _
    have hdig:digitOf B s[k]=(x&&decide (d<B)):=by rw [hd,hx];rfl
    have n0:=hfar.out.2.1;have n1:=hfar.out.2.2.1;have HD:=Lib.hid hd;have HG:=Lib.hid hdig
    have HM:Hid (s[k]∈s.data.toList):=Lib.hid (byte_mem s k hlt);clear hd hx hdig
    have bad:Hid (∀_:(x&&decide (d<B))=false,R=(0,22)):=Lib.hid (fun hb=>by
     have hf:s.data.toList.all (digitOf B)=false:=by rw [Bool.eq_false_iff];intro ha;rw [List.all_eq_true] at ha;have:=ha _ HM.out;rw [HG.out,hb] at this;cases this
     rw [HR.out,hf];rfl)
    cases x with
    | false=>
      go_wp2_with (go_at_call 114;with_reducible refine (hxd.out _).mono ?_;rintro e w' ⟨rfl,rfl⟩);go_ret2;rw [bad.out rfl];exact ⟨rfl,rfl⟩
    | true=>
      by_cases hdB:d<B
      ·have step:Hid (∀n' o',(over=false→¬(M<d∨(M-d)/B<n)→n'=n*B+d∧o'=false)→(over=true∨(M<d∨(M-d)/B<n)→n'=n∧o'=true)→Far B M (s.data.toList.take (k+1)) n' o'):=Lib.hid (fun n' o' h1 h2=>by
        obtain ⟨f1,f2,f3,f4⟩:=hfar.out;have hall:(s.data.toList.take (k+1)).all (digitOf B)=true:=by rw [HS.out,List.all_append,f1];simp [HG.out,hdB]
        cases over with
        | true=>
          obtain ⟨rfl,rfl⟩:=h2 (.inl rfl);refine ⟨hall,f2,f3,?_⟩;rw [HS.out,grow_snoc,f4];rfl
        | false=>
          by_cases hc:M<d∨(M-d)/B<n
          ·obtain ⟨rfl,rfl⟩:=h2 (.inr hc);refine ⟨hall,f2,f3,?_⟩;rw [HS.out,grow_snoc,f4,←HD.out];simp [hc]
          ·obtain ⟨rfl,rfl⟩:=h1 rfl hc;have hmul:n*B+d≤M:=by
            have:=room (base:=B) (most:=M) (by omega) n d f2;omega
           have hnb:0≤n*B:=Int.mul_nonneg f2 (by omega);refine ⟨hall,by omega,hmul,?_⟩;rw [HS.out,grow_snoc,f4,←HD.out];simp [hc])
       have hdB':(decide (d≥B))=false:=by simp;omega
       cases over with
       | true=>
         go_wp2_with (go_at_call 114;with_reducible refine (hxd.out _).mono ?_;rintro e w' ⟨rfl,rfl⟩);go_round
         case rel=>exact ⟨k+1,n,true,by omega,rfl,rfl,by go_num,Lib.hid (step.out _ _ (fun h=>by cases h) (fun _=>⟨rfl,rfl⟩))⟩
         case measure=>simp [intOf];omega
       | false=>
         by_cases hA:M<d
         ·obtain ⟨q,hq⟩:∃q,q=(M-d).tdiv B:=⟨_,rfl⟩
          have w1:IntKind.i64.wrap (M-d)=M-d:=wrap_in _ (by omega) (by omega);have w1':wrap64 (M-d)=M-d:=by unfold wrap64;omega
          have q1: -15≤q∧q≤0:=by
           have e:(M-d).tdiv B= -((d-M).tdiv B):=by rw [←Int.neg_tdiv];congr 1;omega
           have e2:(d-M).tdiv B=(d-M)/B:=Int.tdiv_eq_ediv_of_nonneg (by omega);rw [e,e2] at hq;rcases hB with rfl | rfl<;>omega
          have w3:IntKind.i64.wrap q=q:=wrap_in _ (by omega) (by omega);have w3':wrap64 q=q:=by unfold wrap64;omega
          have w2:=hq.symm;clear hq;have hB0:¬B=0:=by omega
          go_wp2_with (go_at_call 114;with_reducible refine (hxd.out _).mono ?_;rintro e w' ⟨rfl,rfl⟩);all_goals
           go_round
           case rel=>exact ⟨k+1,n,true,by omega,rfl,rfl,by go_num,Lib.hid (step.out _ _ (fun _ h=>absurd (Or.inl hA) h) (fun _=>⟨rfl,rfl⟩))⟩
           case measure=>simp [intOf];omega
         ·have w1:IntKind.i64.wrap (M-d)=M-d:=wrap_in _ (by omega) (by omega);have w1':wrap64 (M-d)=M-d:=by unfold wrap64;omega
          have w2:(M-d).tdiv B=(M-d)/B:=Int.tdiv_eq_ediv_of_nonneg (by omega)
          have w3:IntKind.i64.wrap ((M-d)/B)=(M-d)/B:=wrap_in _ (by rcases hB with rfl | rfl<;>omega) (by rcases hB with rfl | rfl<;>omega);have w3':wrap64 ((M-d)/B)=(M-d)/B:=by rw [←w3,IntKind.wrap_i64];unfold wrap64;rcases hB with rfl | rfl<;>omega
          have hB0:¬B=0:=by omega
          by_cases hC:(M-d)/B<n
          ·go_wp2_with (go_at_call 114;with_reducible refine (hxd.out _).mono ?_;rintro e w' ⟨rfl,rfl⟩);go_round
           case rel=>exact ⟨k+1,n,true,by omega,rfl,rfl,by go_num,Lib.hid (step.out _ _ (fun _ h=>absurd (Or.inr hC) h) (fun _=>⟨rfl,rfl⟩))⟩
           case measure=>simp [intOf];omega
          ·have hmul:n*B+d≤M:=by
            have:=room (base:=B) (most:=M) (by omega) n d n0;omega
           have hnb:0≤n*B:=Int.mul_nonneg n0 (by omega)
           have m1:IntKind.i64.wrap (n*B)=n*B:=wrap_in _ (by omega) (by omega)
           have m2:IntKind.i64.wrap (n*B+d)=n*B+d:=wrap_in _ (by omega) (by omega)
           go_wp2_with (go_at_call 114;with_reducible refine (hxd.out _).mono ?_;rintro e w' ⟨rfl,rfl⟩);go_round
           case rel=>exact ⟨k+1,n*B+d,false,by omega,by go_num,rfl,by go_num,Lib.hid (step.out _ _ (fun _ _=>⟨rfl,rfl⟩) (fun h=>by rcases h with h | h;cases h;omega))⟩
           case measure=>simp [intOf];omega
      ·have hdB':B≤d:=by omega
       go_wp2_with (go_at_call 114;with_reducible refine (hxd.out _).mono ?_;rintro e w' ⟨rfl,rfl⟩);go_ret2;rw [bad.out (by simp [hdB])];exact ⟨rfl,rfl⟩
   ·have fin:Hid (R=ofGrow (if over=true then none else some n)):=Lib.hid (by
     obtain ⟨f1,_,_,f4⟩:=hfar.out;rw [take_all s k hge] at f1 f4;rw [HR.out,f1,f4];rfl)
    cases over with
    | true=>
      go_wp2_with fail;go_ret2;rw [fin.out];exact ⟨rfl,rfl⟩
    | false=>
      go_wp2_with fail;go_ret2;rw [fin.out];exact ⟨rfl,rfl⟩
end code
end Go.Proofs.YtimoakmcelocfaaGreat.Num
namespace Go.Proofs.YtimoakmcelocfaaGreat.Num
open Go.RowKit Base Oct
section code
set_option maxHeartbeats 1000000
theorem rdec_any (most:Int) (hM:most≤9223372036854775807) (s:ByteArray) (w:World) (hs:s.size≤maxLen) :
 Calls Tryz.prog 119 #[.string s,.int .i64 most] w fun e w'=>e=.returned (.tuple #[.int .i64 (readOf 10 most s.data.toList).1,.int .i64 (readOf 10 most s.data.toList).2])∧w'=w:=by
 have h:=Lib.hid (fun w=>rnumber_any 10 (by omega) most hM s w hs);generalize readOf 10 most s.data.toList=R at h ⊢;go_enter Tryz.func119,Tryz.ntmps119
 go_wp2_with (go_at_call 125;with_reducible refine (h.out _).mono ?_;rintro e w1 ⟨rfl,rfl⟩);go_ret2;exact ⟨rfl,rfl⟩
theorem rhexN_any (most:Int) (hM:most≤9223372036854775807) (s:ByteArray) (w:World) (hs:s.size≤maxLen) :
 Calls Tryz.prog 112 #[.string s,.int .i64 most] w fun e w'=>e=.returned (.tuple #[.int .i64 (readOf 16 most s.data.toList).1,.int .i64 (readOf 16 most s.data.toList).2])∧w'=w:=by
 have h:=Lib.hid (fun w=>rnumber_any 16 (by omega) most hM s w hs);generalize readOf 16 most s.data.toList=R at h ⊢;go_enter Tryz.func112,Tryz.ntmps112
 go_wp2_with (go_at_call 125;with_reducible refine (h.out _).mono ?_;rintro e w1 ⟨rfl,rfl⟩);go_ret2;exact ⟨rfl,rfl⟩
end code
end Go.Proofs.YtimoakmcelocfaaGreat.Num
namespace Go.Proofs.YtimoakmcelocfaaGreat.Tgt
open Go.RowKit Base Txt
def cutAt (c:UInt8):List UInt8→List UInt8 × List UInt8 × Bool
 | []=>([],[],false)
 | b::l=>if b=c then ([],l,true) else (b::(cutAt c l).1,(cutAt c l).2.1,(cutAt c l).2.2)
theorem cutAt_none (c:UInt8):∀l:List UInt8,c∉l→cutAt c l=(l,[],false)
 | [],_=>rfl
 | b::l,h=>by
   simp only [List.mem_cons,not_or] at h;rw [cutAt,if_neg (fun e=>h.1 e.symm),cutAt_none c l h.2]
theorem cutAt_app (c:UInt8):∀(a r:List UInt8),c∉a→cutAt c (a++c::r)=(a,r,true)
 | [],r,_=>by rw [List.nil_append,cutAt,if_pos rfl]
 | b::a,r,h=>by
   simp only [List.mem_cons,not_or] at h;rw [List.cons_append,cutAt,if_neg (fun e=>h.1 e.symm),cutAt_app c a r h.2]
theorem cut_cases (c:UInt8):∀l:List UInt8,c∉l∨∃a r,l=a++c::r∧c∉a
 | []=>.inl (by simp)
 | b::l=>by
   by_cases h:b=c
   ·exact .inr ⟨[],l,by rw [h];rfl,by simp⟩
   ·rcases cut_cases c l with h1 | ⟨a,r,h1,h2⟩
    ·exact .inl (by simp only [List.mem_cons,not_or];exact ⟨fun e=>h e.symm,h1⟩)
    ·exact .inr ⟨b::a,r,by rw [h1];rfl,by simp only [List.mem_cons,not_or];exact ⟨fun e=>h e.symm,h2⟩⟩
theorem cutAt_le (c:UInt8) (l:List UInt8):(cutAt c l).1.length≤l.length∧(cutAt c l).2.1.length≤l.length:=by
 rcases cut_cases c l with h | ⟨a,r,rfl,h⟩
 ·rw [cutAt_none c l h];simp
 ·rw [cutAt_app c a r h];simp;omega
section code
set_option maxHeartbeats 8000000
set_option maxRecDepth 1000000
end code
end Go.Proofs.YtimoakmcelocfaaGreat.Tgt
namespace Go.Proofs.YtimoakmcelocfaaGreat.Txt
open Go.RowKit Base Oct
theorem byte_info:(Tryz.prog.info? 5).map (fun i=>(i.zero,i.size,i.bytes))=some (some (.int .u8 0),1,1):=by kernel_rfl
theorem text_info:(Tryz.prog.info? 9).map (fun i=>(i.zero,i.size,i.bytes))=some (some (.string ByteArray.empty),1,16):=by kernel_rfl
def mix (l:List UInt8) (k:Nat):List UInt8:=low (l.take k)++l.drop k
def bcells (l:List UInt8):List Value:=l.map fun b=>Value.int .u8 b.toNat
theorem mix_zero (l:List UInt8):mix l 0=l:=by simp [mix,low]
theorem mix_all (l:List UInt8) (k:Nat) (h:l.length≤k):mix l k=low l:=by unfold mix;rw [List.take_of_length_le h,List.drop_eq_nil_of_le h,List.append_nil]
theorem mix_length (l:List UInt8) (k:Nat):(mix l k).length=l.length:=by unfold mix low;simp;omega
section code
set_option maxHeartbeats 1000000
theorem blank_is (x:UInt8):Oct.blank (x.toNat:Int)=blank x:=by
 rw [Bool.eq_iff_iff];simp only [Oct.blank,blank,Bool.or_eq_true,decide_eq_true_eq,beq_iff_eq];constructor
 ·rintro (h | h)
  ·exact Or.inl (UInt8.toNat_inj.1 (by show x.toNat=32;omega))
  ·exact Or.inr (UInt8.toNat_inj.1 (by show x.toNat=9;omega))
 ·rintro (rfl | rfl)<;>decide
end code
end Go.Proofs.YtimoakmcelocfaaGreat.Txt
namespace Go.Proofs.YtimoakmcelocfaaGreat.Txt
open Go.RowKit Base Oct
def isIn (set:ByteArray) (x:UInt8):Bool:=set.data.toList.contains x
def trimOf (s set:ByteArray):ByteArray:=trimB (isIn set) s
def marks (l:List UInt8):List Value:=(List.range 256).map fun j=>Value.bool (l.any fun b=>b.toNat==j)
section code
set_option maxHeartbeats 1000000
end code
end Go.Proofs.YtimoakmcelocfaaGreat.Txt
namespace Go.Proofs.YtimoakmcelocfaaGreat.Txt
open Go.RowKit Base Oct
theorem field_info:(Tryz.prog.info? 106).map (fun i=>(i.zero,i.size,i.bytes))=some (some (.agg #[.string ByteArray.empty,.string ByteArray.empty]),2,32):=by kernel_rfl
def room (vs:List ByteArray):Nat:=(vs.map fun v=>v.size+1).sum
theorem partsOf_le (v:ByteArray):(partsOf v).length≤v.size+1:=by unfold partsOf;rw [List.length_map];have:=parts_le 44 v.data.toList;rwa [len] at this
theorem list_le:∀vs:List ByteArray,(list vs).length≤room vs
 | []=>by simp [list,room]
 | v::vs=>by
   have h1:=partsOf_le v;have h2:=list_le vs;simp only [list,room,List.flatMap_cons,List.length_append,List.map_cons,List.sum_cons] at *;omega
theorem room_mem:∀(vs:List ByteArray) (v:ByteArray),v∈vs→v.size+1≤room vs
 | u::vs,v,h=>by
   rw [room,List.map_cons,List.sum_cons];rcases List.mem_cons.1 h with rfl | h
   ·omega
   ·have:=room_mem vs v h;rw [room] at this;omega
theorem len_room:∀vs:List ByteArray,vs.length≤room vs
 | []=>Nat.zero_le _
 | v::vs=>by have:=len_room vs;rw [room] at *;rw [List.map_cons,List.sum_cons,List.length_cons];omega
theorem partsOf_map (x:ByteArray):partsOf x=((parts 44 x.data.toList).map ba).map trim:=by rw [partsOf,List.map_map];rfl
theorem list_take_le (vs:List ByteArray) (k:Nat):(list (vs.take k)).length≤(list vs).length:=by
 conv=>rhs;rw [←List.take_append_drop k vs]
 unfold list;rw [List.flatMap_append,List.length_append];omega
theorem list_snoc (vs:List ByteArray) (k:Nat) (h:k<vs.length):list (vs.take (k+1))=list (vs.take k)++partsOf (vs[k]?.getD ByteArray.empty):=by rw [strs_snoc vs k h];unfold list;simp
section code
set_option maxHeartbeats 1000000
set_option maxRecDepth 10000
end code
end Go.Proofs.YtimoakmcelocfaaGreat.Txt
namespace Go.Proofs.YtimoakmcelocfaaGreat.Txt
open Go.RowKit Base Oct
theorem ba_beq (a b:ByteArray):(a.toList==b.toList)=decide (a=b):=by rw [Lib.toList_data,Lib.toList_data,Bool.eq_iff_iff,beq_iff_eq,decide_eq_true_eq];exact ⟨ba_ext,fun h=>by rw [h]⟩
theorem toList_iff (a b:ByteArray):a.toList=b.toList↔a=b:=by rw [Lib.toList_data,Lib.toList_data];exact ⟨ba_ext,fun h=>by rw [h]⟩
theorem take_eq_snoc {α:Type} (d:α) (xs ys:List α) (k:Nat) (hx:k<xs.length) (hy:k<ys.length) (h:xs.take k=ys.take k) (e:xs[k]?.getD d=ys[k]?.getD d):xs.take (k+1)=ys.take (k+1):=by
 rw [List.take_succ_eq_append_getElem hx,List.take_succ_eq_append_getElem hy,h];rw [List.getElem?_eq_getElem hx,List.getElem?_eq_getElem hy] at e
 congr 2
theorem ne_of_at {α:Type} (d:α) (xs ys:List α) (k:Nat) (e:¬xs[k]?.getD d=ys[k]?.getD d):xs≠ys:=fun h=>e (by rw [h])
theorem neq_field (x y:Fld) (w:World):(binOp .neq 106 (.agg #[.string x.1,.string x.2]) (.agg #[.string y.1,.string y.2])).run Tryz.prog w=.ok (.bool (!decide (x=y))) w:=by
 have u9:=Tryz.underlying9;have a9:=Tryz.isAgg9;have z9:=Tryz.sizeOf9;have hS:Tryz.prog.underlying 106=some (.struct (Tryz.prog.fieldsOf 106)):=by kernel_rfl
 have hp:Tryz.prog.stoodInHeld 106=false:=by kernel_rfl
 obtain ⟨x1,x2⟩:=x;obtain ⟨y1,y2⟩:=y;rw [run_neq_struct,show (10000:Nat)=9999+1 from rfl,run_equalIn_agg w 9999 106 _ _ hS hp];simp only [Program.fieldsOf,Tryz.underlying106];go_simp;by_cases h1:x1=y1<;>by_cases h2:x2=y2<;>simp [h1,h2,toList_iff]
theorem guard_field (op:BinOp) (a b:Operand) (x y:Fld) (w:World):(eqGuard op 106 a b (.agg #[.string x.1,.string x.2]) (.agg #[.string y.1,.string y.2])).run Tryz.prog w=.ok () w:=
 run_eqGuard_agg w op 106 a b _ _ (by kernel_rfl)
section code
set_option maxHeartbeats 1000000
theorem rfields_any (a:Option Addr) (n cap:Nat) (xs:List Fld) (b:Option Addr) (m cap2:Nat) (ys:List Fld) (w:World) (hx:Flds w a n xs) (hy:Flds w b m ys) (hn:n≤1000000000) (hm:m≤1000000000) :
 Calls Tryz.prog 58 #[.slice a n cap,.slice b m cap2] w fun e w'=>e=.returned (.bool (decide (xs=ys)))∧∃q,w'=w.drewN q:=by
 have HX:=Lib.hid hx;have HY:=Lib.hid hy;have HLX:=Lib.hid hx.1;have HLY:=Lib.hid hy.1;clear hx hy;by_cases hl:n=m
 ·subst hl;go_enter Tryz.func58,Tryz.ntmps58;go_wp2
  go_loopw [5] (fun i wr=>∃k q:Nat,k≤n∧i=.int .i64 k∧wr=w.drewN q∧Hid (xs.take k=ys.take k)) (fun i _=>n-(intOf i).toNat)
  case atStart=>exact ⟨0,0,Nat.zero_le _,rfl,rfl,Lib.hid rfl⟩
  case round=>
   obtain ⟨k,q,hk,rfl,rfl,hsm⟩:=hrel;rcases Nat.lt_or_ge k n with hlt | hge
   ·obtain ⟨b1,o1,rfl,_,hc⟩:=HX.out.2 (by omega);obtain ⟨hc0,hc1⟩:=hc k hlt;clear hc
    obtain ⟨b2,o2,rfl,_,hd⟩:=HY.out.2 (by omega);obtain ⟨hd0,hd1⟩:=hd k hlt;clear hd;have i1:(k:Int)<(n:Int):=by omega
    have hnq:=neq_field (xs[k]?.getD dflt) (ys[k]?.getD dflt)
    have hgd:=fun op a b=>guard_field op a b (xs[k]?.getD dflt) (ys[k]?.getD dflt);by_cases he:xs[k]?.getD dflt=ys[k]?.getD dflt
    ·have hT:=Lib.hid (take_eq_snoc dflt xs ys k (by rw [HLX.out];exact hlt) (by rw [HLY.out];exact hlt) hsm.out he);rw [he,decide_eq_true rfl] at hnq;rw [he] at hgd hc0 hc1;clear he;generalize (ys[k]?.getD dflt)=y at *;go_wp2_with fail
     go_quiet (fail);rename_i nq;go_wp2;go_roundw
     case rel=>first | exact ⟨k+1,q+nq,by omega,by go_num,(World.drewN_drewN _ _ _).symm ▸ rfl,hT⟩ | exact ⟨k+1,q+nq,by omega,by go_num,by rw [World.drewN_drewN],hT⟩ | exact ⟨k+1,q+nq,by omega,by go_num,rfl,hT⟩
     case measure=>simp [intOf];omega
    ·rw [decide_eq_false he] at hnq
     have hF:=Lib.hid (ne_of_at dflt xs ys k he);clear he;generalize (xs[k]?.getD dflt)=x at *;generalize (ys[k]?.getD dflt)=y at *;go_wp2_with fail
     go_quiet (fail);rename_i nq;go_wp2;go_ret;refine ⟨by rw [decide_eq_false hF.out];rfl,q+nq,?_⟩;first | rfl | rw [World.drewN_drewN]
   ·obtain rfl:k=n:=by omega
    go_wp2;go_ret;have e:=hsm.out;rw [List.take_of_length_le (by rw [HLX.out];exact Nat.le_refl _),List.take_of_length_le (by rw [HLY.out];exact Nat.le_refl _)] at e;refine ⟨by rw [decide_eq_true e];rfl,q,rfl⟩
 ·have hne:xs≠ys:=fun h=>hl (by rw [←HLX.out,←HLY.out,h]);have hl':¬(n:Int)=(m:Int):=by omega
  have HN:=Lib.hid hne;clear hne;go_enter Tryz.func58,Tryz.ntmps58;go_wp2;go_ret;exact ⟨by rw [decide_eq_false HN.out];rfl,0,rfl⟩
end code
end Go.Proofs.YtimoakmcelocfaaGreat.Txt
namespace Go.Proofs.YtimoakmcelocfaaGreat.Tgt
open Go.RowKit Base Oct Num Txt
def nameMarks:List UInt8:= [45,46,95,126]
def pathMarks:List UInt8:= [45,46,95,126,33,36,38,39,40,41,42,43,44,59,61,58,64,47]
def queryMarks:List UInt8:= [45,46,95,126,33,36,38,39,40,41,42,43,44,59,61,58,64,47,63]
def plainB (ms:List UInt8) (c:UInt8):Bool:=Oct.letter (c.toNat:Int)||Oct.digit (c.toNat:Int)||ms.contains c
def hexB (c:UInt8):Bool:=Oct.isHex (c.toNat:Int)
def okAt (ms:List UInt8) (c:UInt8):List UInt8→Bool
 | a::b :: _=>if c=37 then hexB a&&hexB b else plainB ms c
 | _=>plainB ms c
def written (ms:List UInt8):List UInt8→Bool
 | []=>true
 | c::r=>okAt ms c r&&written ms r
theorem okAt_plain (ms:List UInt8) (c:UInt8) (r:List UInt8) (h:c≠37):okAt ms c r=plainB ms c:=by
 unfold okAt;split
 ·rw [if_neg h]
 ·rfl
def nameOk (l:List UInt8):Bool:=!l.isEmpty&&(decide (l.length≤255)&&l.all (plainB nameMarks))
def portOk (l:List UInt8):Bool:=decide (l.length≤5)&&decide ((readOf 10 65535 l).2=0)
def hostB (l:List UInt8):Bool:=nameOk (cutAt 58 l).1&&(!(cutAt 58 l).2.2||portOk (cutAt 58 l).2.1)
def pathB (l:List UInt8):Bool:=decide (l.head?=some 47)&&written pathMarks l
def queryB (l:List UInt8):Bool:=written queryMarks l
theorem port_no_colon {l:List UInt8} (h:portOk l=true):(58:UInt8)∉l:=by
 intro hm;simp only [portOk,Bool.and_eq_true,decide_eq_true_eq] at h;have hall:l.all (digitOf 10)=false:=by rw [List.all_eq_false];exact ⟨58,hm,by decide +kernel⟩
 rw [readOf,hall] at h;simp at h
structure Tg where
 form:Nat
 host:List UInt8
 path:List UInt8
 query:List UInt8
 asked:Bool
deriving DecidableEq
def none':Tg:=⟨0,[],[],[],false⟩
def ended (c:UInt8):Bool:=c==47||c==63
def http:List UInt8:= [104,116,116,112,58,47,47]
def origin (l:List UInt8):Option Tg:=if (pathB (cutAt 63 l).1&&queryB (cutAt 63 l).2.1)=true then some ⟨1,[],(cutAt 63 l).1,(cutAt 63 l).2.1,(cutAt 63 l).2.2⟩ else none
def slashed (l:List UInt8):List UInt8:=if l.head?=some 47 then l else 47::l
def hostOf (l:List UInt8):List UInt8:=l.takeWhile fun c=>!ended c
def restOf (l:List UInt8):List UInt8:=l.dropWhile fun c=>!ended c
def absolute (l:List UInt8):Option Tg:=
 match origin (slashed (restOf l)) with
 | none=>none
 | some t=>if hostB (hostOf l)=true then some ⟨2,hostOf l,t.path,t.query,t.asked⟩ else none
def authority (l:List UInt8):Option Tg:=if (l.contains 58&&hostB l)=true then some ⟨3,l,[],[],false⟩ else none
def connect:List UInt8:= [67,79,78,78,69,67,84]
def options:List UInt8:= [79,80,84,73,79,78,83]
def schemed (l:List UInt8):Bool:=decide (7≤l.length)&&(low (l.take 7)==low http)
def parse (m l:List UInt8):Option Tg:=
 if m=connect then authority l
 else if m=options∧l= [42] then some ⟨4,[],[],[],false⟩
 else if l.head?=some 47 then origin l
 else if schemed l=true then absolute (l.drop 7)
 else none
def putPath (t:Tg):List UInt8:=if t.asked=true then t.path++63::t.query else t.path
def put (t:Tg):List UInt8:=
 if t.form=1 then putPath t
 else if t.form=2 then http++(t.host++putPath t)
 else if t.form=3 then t.host
 else if t.form=4 then [42]
 else []
theorem putPath_origin {l:List UInt8} {t:Tg} (h:origin l=some t):putPath t=l∧t.form=1∧t.host= []:=by
 unfold origin at h;split at h
 ·obtain rfl:=Option.some.inj h;refine ⟨?_,rfl,rfl⟩;unfold putPath;rcases cut_cases 63 l with h1 | ⟨a,r,rfl,h1⟩
  ·simp only [cutAt_none 63 l h1];rfl
  ·simp only [cutAt_app 63 a r h1];rfl
 ·cases h
theorem host_cut (p:UInt8→Bool) (h r:List UInt8) (c:UInt8) (hh:∀x∈h,p x=true) (hc:p c=false):(h++c::r).takeWhile p=h∧(h++c::r).dropWhile p=c::r:=by
 induction h with
 | nil=>simp [hc]
 | cons x h ih=>
   obtain ⟨i1,i2⟩:=ih fun y hy=>hh y (by simp [hy])
   have hx:=hh x (by simp);simp only [List.cons_append,List.takeWhile_cons,List.dropWhile_cons,hx,if_true];exact ⟨by rw [i1],i2⟩
end Go.Proofs.YtimoakmcelocfaaGreat.Tgt
namespace Go.Proofs.YtimoakmcelocfaaGreat.Tgt
open Go.RowKit Base Oct Num Txt
def ends2:ByteArray:=⟨#[47,63]⟩
section code
set_option maxHeartbeats 2000000
set_option maxRecDepth 100000
end code
end Go.Proofs.YtimoakmcelocfaaGreat.Tgt
namespace Go.Proofs.YtimoakmcelocfaaGreat.Tgt
open Go.RowKit Base Oct Num Txt
section code
set_option maxHeartbeats 8000000
set_option maxRecDepth 1000000
end code
end Go.Proofs.YtimoakmcelocfaaGreat.Tgt
namespace Go.Proofs.YtimoakmcelocfaaGreat.Tgt
open Go.RowKit Base Oct Num Txt
theorem size_cons {s:ByteArray} {c:UInt8} {r:List UInt8} (h:s.data.toList=c::r):s.size=r.length+1:=by rw [←len,h];rfl
theorem empty_of {s:ByteArray} (h:s.data.toList= []):s.toList.isEmpty=true:=by rw [Lib.toList_data,h];rfl
theorem full_of {s:ByteArray} {c:UInt8} {r:List UInt8} (h:s.data.toList=c::r):s.toList.isEmpty=false:=by rw [Lib.toList_data,h];rfl
theorem ba_list (l:List UInt8):(ba l).data.toList=l:=rfl
theorem ba_size (l:List UInt8):(ba l).size=l.length:=len_mk l
theorem at_zero {s:ByteArray} {c:UInt8} {r:List UInt8} (h:s.data.toList=c::r) (h0:0<s.size):s[0]=c:=by have:=Lib.data_getElem? s 0 h0;rw [h] at this;exact (Option.some.inj this).symm
theorem drop_ext (s:ByteArray) (k:Nat):(s.extract k s.size).data.toList=s.data.toList.drop k:=by rw [Lib.extract_data,List.take_of_length_le (by rw [List.length_drop,len];omega)]
section code
set_option maxHeartbeats 1000000
attribute [local go_sem] Base.some_undef
end code
end Go.Proofs.YtimoakmcelocfaaGreat.Tgt
namespace Go.Proofs.YtimoakmcelocfaaGreat.Tgt
open Go.RowKit Base Oct Num Txt
abbrev tv (f:Int) (h p q:ByteArray) (a:Bool):Value:=.agg #[.int .i64 f,.string h,.string p,.string q,.bool a]
abbrev E0:ByteArray:=⟨#[]⟩
def ans:Option Tg→Value
 | none=>.tuple #[tv 0 E0 E0 E0 false,.int .i64 400]
 | some t=>.tuple #[tv t.form (ba t.host) (ba t.path) (ba t.query) t.asked,.int .i64 0]
structure Tgb (w:World) (g:Nat) (f:Int) (h p q:ByteArray) (a:Bool):Prop where
 c0:w.cell? ⟨g,0,none⟩=some (.int .i64 f)
 c1:w.cell? ⟨g,1,none⟩=some (.string h)
 c2:w.cell? ⟨g,2,none⟩=some (.string p)
 c3:w.cell? ⟨g,3,none⟩=some (.string q)
 c4:w.cell? ⟨g,4,none⟩=some (.bool a)
 z0:w.frozen? ⟨g,0,none⟩=false
 z1:w.frozen? ⟨g,1,none⟩=false
 z2:w.frozen? ⟨g,2,none⟩=false
 z3:w.frozen? ⟨g,3,none⟩=false
 z4:w.frozen? ⟨g,4,none⟩=false
theorem Tgb.below {w w':World} {g:Nat} {f:Int} {h p q:ByteArray} {a:Bool} (H:Tgb w g f h p q a) (hg:g<w.heap.size) (hb:Below w.heap.size w w'):Tgb w' g f h p q a:=
 ⟨(hb.cell (p:=⟨g,0,none⟩) hg).trans H.c0,(hb.cell (p:=⟨g,1,none⟩) hg).trans H.c1,(hb.cell (p:=⟨g,2,none⟩) hg).trans H.c2,(hb.cell (p:=⟨g,3,none⟩) hg).trans H.c3,(hb.cell (p:=⟨g,4,none⟩) hg).trans H.c4,
  (hb.frozen (p:=⟨g,0,none⟩) hg).trans H.z0,(hb.frozen (p:=⟨g,1,none⟩) hg).trans H.z1,(hb.frozen (p:=⟨g,2,none⟩) hg).trans H.z2,(hb.frozen (p:=⟨g,3,none⟩) hg).trans H.z3,(hb.frozen (p:=⟨g,4,none⟩) hg).trans H.z4⟩
theorem Tgb.new (w:World) (t:TypeId) (f:Int) (h p q:ByteArray) (a:Bool):Tgb (w.alloc (.cells #[.int .i64 f,.string h,.string p,.string q,.bool a] t)) w.heap.size f h p q a:=by
 have hh:=heap_alloc_new w (.cells #[.int .i64 f,.string h,.string p,.string q,.bool a] t);have c:∀k v,(#[Value.int .i64 f,.string h,.string p,.string q,.bool a]:Array Value)[k]?=some v→(w.alloc (.cells #[.int .i64 f,.string h,.string p,.string q,.bool a] t)).cell? ⟨w.heap.size,k,none⟩=some v:=
  fun k v e=>(cell_of_row (w.alloc _) w.heap.size k _ t (0,0) hh).trans e
 have z:∀k,(w.alloc (.cells #[.int .i64 f,.string h,.string p,.string q,.bool a] t)).frozen? ⟨w.heap.size,k,none⟩=false:=fun k=>by unfold World.frozen?;simp only [hh];simp
 exact ⟨c 0 _ rfl,c 1 _ rfl,c 2 _ rfl,c 3 _ rfl,c 4 _ rfl,z 0,z 1,z 2,z 3,z 4⟩
theorem Tgb.put {B:Nat} {w0 w:World} {g:Nat} {f:Int} {h p q:ByteArray} {a:Bool} (H:Tgb w g f h p q a) (hb:Below B w0 w) (hg:B≤g) (f':Int) (h' p' q':ByteArray) (a':Bool) :
 ∃W,((((w.setCell ⟨g,0,none⟩ (.int .i64 f')).setCell ⟨g,1,none⟩ (.string h')).setCell ⟨g,2,none⟩ (.string p')).setCell ⟨g,3,none⟩ (.string q')).setCell ⟨g,4,none⟩ (.bool a')=W∧Tgb W g f' h' p' q' a'∧Below B w0 W:=by
 obtain ⟨c0,c1,c2,c3,c4,z0,z1,z2,z3,z4⟩:=H;refine ⟨_,rfl,⟨?_,?_,?_,?_,?_,?_,?_,?_,?_,?_⟩,((((hb.setCell hg _).setCell hg _).setCell hg _).setCell hg _).setCell hg _⟩;all_goals go_simp
theorem Tgb.other {w:World} {g:Nat} {f:Int} {h p q:ByteArray} {a:Bool} (H:Tgb w g f h p q a) (g' o:Nat) (v:Value) (n2:¬g'=g):Tgb (w.setCell ⟨g',o,none⟩ v) g f h p q a:=by obtain ⟨c0,c1,c2,c3,c4,z0,z1,z2,z3,z4⟩:=H;refine ⟨?_,?_,?_,?_,?_,?_,?_,?_,?_,?_⟩;all_goals go_simp
section code
set_option maxHeartbeats 1000000
attribute [local go_sem] Base.some_undef
end code
end Go.Proofs.YtimoakmcelocfaaGreat.Tgt
namespace Go.Proofs.YtimoakmcelocfaaGreat.Tgt
open Go.RowKit Base Oct Num Txt
theorem hostOf_le (l:List UInt8):(hostOf l).length≤l.length:=(List.takeWhile_sublist _).length_le
theorem restOf_le (l:List UInt8):(restOf l).length≤l.length:=(List.dropWhile_sublist _).length_le
theorem slashed_le (l:List UInt8):(slashed l).length≤l.length+1:=by unfold slashed;split<;>simp
section code
set_option maxHeartbeats 1000000
attribute [local go_sem] Base.some_undef
theorem toList_ba (m:ByteArray) (l:List UInt8):(m.toList==l)=decide (m.data.toList=l):=by rw [Lib.toList_data,Bool.eq_iff_iff,beq_iff_eq,decide_eq_true_eq]
theorem eq_facts (m:ByteArray) (l:List UInt8) (b:Bool) (h:decide (m.data.toList=l)=b):(m.toList==l)=b∧(m.toList==(ByteArray.mk l.toArray).toList)=b:=by have h1:=toList_ba m l;rw [h] at h1;exact ⟨h1,by rw [show (ByteArray.mk l.toArray).toList=l from Lib.toList_data _];exact h1⟩
end code
end Go.Proofs.YtimoakmcelocfaaGreat.Tgt
namespace Go.Proofs.YtimoakmcelocfaaGreat.Rq
open Go.RowKit Base Txt
def ext (l:List UInt8) (x:Nat × Nat):List UInt8:=(l.take x.2).drop x.1
theorem ext_length (l:List UInt8) (x:Nat × Nat) (h:x.2≤l.length):(ext l x).length=x.2-x.1:=by unfold ext;rw [List.length_drop,List.length_take,Nat.min_eq_left h]
theorem ext_at (l:List UInt8) (x:Nat × Nat) (k:Nat) (hk:k<(ext l x).length):∃h:x.1+k<l.length,(ext l x)[k]=l[x.1+k]:=by
 have h1:x.1+k<l.length:=by unfold ext at hk;rw [List.length_drop,List.length_take] at hk;omega
 refine ⟨h1,?_⟩;simp only [ext,List.getElem_drop,List.getElem_take]
theorem ext_ba (s:ByteArray) (a b:Nat):ba (ext s.data.toList (a,b))=s.extract a b:=by apply ba_ext;rw [Lib.extract_data,ext];show (s.data.toList.take b).drop a= _;rw [List.drop_take]
theorem ext_mid (A M B:List UInt8):ext (A++(M++B)) (A.length,A.length+M.length)=M:=by unfold ext;rw [←List.append_assoc,List.take_append_of_le_length (by simp),List.take_of_length_le (by simp),List.drop_left]
theorem ext_split (l:List UInt8) (a b:Nat) (hab:a≤b):l=l.take a++(ext l (a,b)++l.drop b):=by
 have e1:l.drop b=(l.drop a).drop (b-a):=by rw [List.drop_drop];congr 1;omega
 have e2:ext l (a,b)=(l.drop a).take (b-a):=by unfold ext;rw [List.drop_take]
 rw [e1,e2,List.take_append_drop,List.take_append_drop]
theorem trim_ext (p:UInt8→Bool) (l:List UInt8) (a b:Nat) (hab:a<b) (hb:b≤l.length) (h1:∀j (h:j<l.length),j<a→p l[j]=true) (h2:∀j (h:j<l.length),b≤j→p l[j]=true)
 (h3:∀h:a<l.length,p l[a]=false) (h4:∀h:b-1<l.length,p l[b-1]=false):trimL p l=ext l (a,b):=by
 conv=>lhs;rw [ext_split l a b (by omega)]
 have hlen:=ext_length l (a,b) hb;have hlen':(ext l (a,b)).length=b-a:=hlen
 refine trimL_mid p _ _ _ ?_ ?_ (.inr ⟨?_,?_⟩)
 ·intro x hx;obtain ⟨k,hk,rfl⟩:=List.getElem_of_mem hx;rw [List.length_take] at hk;rw [List.getElem_take]
  exact h1 k (by omega) (by omega)
 ·intro x hx;obtain ⟨k,hk,rfl⟩:=List.getElem_of_mem hx;rw [List.length_drop] at hk;rw [List.getElem_drop]
  exact h2 _ (by omega) (by omega)
 ·refine ⟨l[a]'(by omega),(ext l (a,b)).drop 1,?_,h3 (by omega)⟩
  have:=List.drop_eq_getElem_cons (l:=ext l (a,b)) (i:=0) (by omega);rw [List.drop_zero] at this;rw [this]
  obtain ⟨q,e⟩:=ext_at l (a,b) 0 (by omega);rw [e];rfl
 ·refine ⟨l[b-1]'(by omega),(ext l (a,b)).take (b-a-1),?_,h4 (by omega)⟩
  have e3:=List.take_succ_eq_append_getElem (l:=ext l (a,b)) (i:=b-a-1) (by omega);rw [List.take_of_length_le (by omega)] at e3
  obtain ⟨q,e⟩:=ext_at l (a,b) (b-a-1) (by omega);have e5:l[(a,b).1+(b-a-1)]=l[b-1]'(by omega):=by congr 1;show a+(b-a-1)=b-1;omega
  rw [e,e5] at e3;exact e3
def pcs (p:UInt8→Bool) (strict:Bool):List UInt8→Nat→Nat→Option (List (Nat × Nat))
 | [],i,a=>if i=a then (if strict=true then none else some []) else some [(a,i)]
 | x::t,i,a=>if p x=true then (if i=a then (if strict=true then none else pcs p strict t (i+1) (i+1)) else (pcs p strict t (i+1) (i+1)).map ((a,i) :: ·)) else pcs p strict t (i+1) a
def sepB (bl:Bool) (x:UInt8):Bool:=x==32|| (bl&&x==9)
theorem sepB_true:sepB true=Txt.blank:=by funext x;simp [sepB,Txt.blank]
def spans (bl:Bool) (l:List UInt8):Option (List (Nat × Nat)):=pcs (sepB bl) (!bl) l 0 0
theorem pcs_congr {p q:UInt8→Bool} {st:Bool}:∀(t:List UInt8) (i a:Nat),(∀x∈t,p x=q x)→pcs p st t i a=pcs q st t i a
 | [],_,_,_=>rfl
 | x::t,i,a,h=>by
   have h1:=h x (by simp)
   have h2:=fun i a=>pcs_congr (p:=p) (q:=q) (st:=st) t i a fun y hy=>h y (by simp [hy]);simp only [pcs,h1,h2]
theorem pcs_loose {p:UInt8→Bool}:∀(t:List UInt8) (i a:Nat) (sp:List (Nat × Nat)),pcs p true t i a=some sp→pcs p false t i a=some sp
 | [],i,a,sp,h=>by
   simp only [pcs] at h ⊢;split at h
   ·cases h
   ·rename_i hi;rw [if_neg hi];exact h
 | x::t,i,a,sp,h=>by
   simp only [pcs] at h ⊢;split at h
   ·rename_i hp;rw [if_pos hp];split at h
    ·cases h
    ·rename_i hi;rw [if_neg hi];cases hq:pcs p true t (i+1) (i+1) with
     | none=>rw [hq] at h;cases h
     | some r=>
       rw [hq] at h;rw [pcs_loose t _ _ r hq];exact h
   ·rename_i hp;rw [if_neg hp];exact pcs_loose t _ _ sp h
theorem pcs_some {p:UInt8→Bool}:∀(t:List UInt8) (i a:Nat),∃sp,pcs p false t i a=some sp
 | [],i,a=>by
   simp only [pcs];by_cases h:i=a
   ·exact ⟨[],by rw [if_pos h];rfl⟩
   ·exact ⟨[(a,i)],by rw [if_neg h]⟩
 | x::t,i,a=>by
   obtain ⟨r1,h1⟩:=pcs_some (p:=p) t (i+1) (i+1);obtain ⟨r2,h2⟩:=pcs_some (p:=p) t (i+1) a;simp only [pcs,h1,h2];by_cases hp:p x=true
   ·by_cases h:i=a
    ·exact ⟨r1,by rw [if_pos hp,if_pos h];rfl⟩
    ·exact ⟨(a,i)::r1,by rw [if_pos hp,if_neg h];rfl⟩
   ·exact ⟨r2,by rw [if_neg hp]⟩
def Cov (p:UInt8→Bool) (l:List UInt8):Nat→List (Nat × Nat)→Prop
 | o,[]=>∀j (h:j<l.length),o≤j→p l[j]=true
 | o,x::r=>o≤x.1∧x.1<x.2∧x.2≤l.length∧(∀j (h:j<l.length),o≤j→j<x.1→p l[j]=true)∧(∀j (h:j<l.length),x.1≤j→j<x.2→p l[j]=false)∧(∀h:x.2<l.length,p l[x.2]=true)∧Cov p l x.2 r
def Tight (n:Nat):Nat→List (Nat × Nat)→Prop
 | _,[]=>False
 | o,[x]=>x.1=o∧x.2=n
 | o,x::y::r=>x.1=o∧Tight n (x.2+1) (y::r)
theorem Cov.from {p:UInt8→Bool} {l:List UInt8}:∀{o o':Nat} {sp:List (Nat × Nat)},o'≤o→(∀j (h:j<l.length),o'≤j→j<o→p l[j]=true)→Cov p l o sp→Cov p l o' sp
 | o,o',[],_,hg,hc=>fun j h hj=>by
   rcases Nat.lt_or_ge j o with h1 | h1
   ·exact hg j h hj h1
   ·exact hc j h h1
 | o,o',x::r,ho,hg,⟨h1,h2,h3,h4,h5,h6,h7⟩=>⟨by omega,h2,h3,fun j h hj hx=>by
    rcases Nat.lt_or_ge j o with h8 | h8
    ·exact hg j h hj h8
    ·exact h4 j h h8 hx,h5,h6,h7⟩
theorem pcs_cov {p:UInt8→Bool} {st:Bool} {l:List UInt8}:∀(t:List UInt8) (i a:Nat) (sp:List (Nat × Nat)),l.drop i=t→i≤l.length→a≤i→(∀j (h:j<l.length),a≤j→j<i→p l[j]=false)→pcs p st t i a=some sp→
 Cov p l a sp∧(st=true→Tight l.length a sp)
 | [],i,a,sp,hd,hi,ha,hw,h=>by
   have hil:i=l.length:=by have:=congrArg List.length hd;rw [List.length_drop] at this;simp at this;omega
   simp only [pcs] at h;by_cases hia:i=a
   ·rw [if_pos hia] at h;cases st with
    | true=>simp at h
    | false=>
      simp at h;subst h;refine ⟨fun j hj hj2=>by omega,fun h=>by cases h⟩
   ·rw [if_neg hia] at h;cases h;exact ⟨⟨Nat.le_refl _,by show a<i;omega,by show i≤_;omega,fun j _ h1 h2=>by exact absurd h2 (by show¬j<a;omega),fun j h h1 h2=>hw j h h1 h2,fun h=>by exact absurd h (by show¬i < _;omega),fun j h hj=>by exact absurd hj (by show¬i≤j;omega)⟩,fun _=>⟨rfl,hil⟩⟩
 | x::t,i,a,sp,hd,hi,ha,hw,h=>by
   have hil:i<l.length:=by have:=congrArg List.length hd;rw [List.length_drop] at this;simp at this;omega
   have hdc:=List.drop_eq_getElem_cons hil;rw [hd] at hdc;have hx:l[i]=x:=(List.cons.inj hdc).1.symm;have ht:l.drop (i+1)=t:=(List.cons.inj hdc).2.symm;have hxi:p x=true→∀j (hj:j<l.length),i≤j→j<i+1→p l[j]=true:=fun hp j hj h1 h2=>by
    obtain rfl:j=i:=by omega
    rw [hx];exact hp
   simp only [pcs] at h;by_cases hp:p x=true
   ·rw [if_pos hp] at h;by_cases hia:i=a
    ·rw [if_pos hia] at h;cases st with
     | true=>simp at h
     | false=>
       simp only [Bool.false_eq_true,if_false] at h;have ih:=pcs_cov t (i+1) (i+1) sp ht (by omega) (by omega) (fun j _ h1 h2=>by omega) h;exact ⟨ih.1.from (by omega) (fun j hj h1 h2=>hxi hp j hj (by omega) h2),fun h=>by cases h⟩
    ·rw [if_neg hia] at h;cases hq:pcs p st t (i+1) (i+1) with
     | none=>rw [hq] at h;cases h
     | some r=>
       rw [hq] at h;simp only [Option.map_some,Option.some.injEq] at h;subst h;have ih:=pcs_cov t (i+1) (i+1) r ht (by omega) (by omega) (fun j _ h1 h2=>by omega) hq
       have hc:=ih.1.from (o':=i) (by omega) (hxi hp);refine ⟨⟨Nat.le_refl _,by show a<i;omega,by show i≤_;omega,fun j _ h1 h2=>by exact absurd h2 (by show¬j<a;omega),fun j h h1 h2=>hw j h h1 h2,fun _=>by show p l[i]=true;rw [hx];exact hp,hc⟩,fun hs=>?_⟩;have h2:=ih.2 hs;cases r with
       | nil=>exact absurd h2 (by simp [Tight])
       | cons y r=>exact ⟨rfl,h2⟩
   ·rw [if_neg hp] at h;refine pcs_cov t (i+1) a sp ht (by omega) (by omega) (fun j hj h1 h2=>?_) h;rcases Nat.lt_or_ge j i with h3 | h3
    ·exact hw j hj h1 h3
    ·obtain rfl:j=i:=by omega
     rw [hx];simpa using hp
theorem Cov.at {p:UInt8→Bool} {l:List UInt8}:∀{o:Nat} {sp:List (Nat × Nat)},Cov p l o sp→∀k (hk:k<sp.length),o≤sp[k].1∧sp[k].1<sp[k].2∧sp[k].2≤l.length∧∀j (h:j<l.length),sp[k].1≤j→j<sp[k].2→p l[j]=false
 | o,x::r,⟨h1,h2,h3,h4,h5,h6,h7⟩,0,_=>⟨h1,h2,h3,h5⟩
 | o,x::r,⟨h1,h2,h3,h4,h5,h6,h7⟩,k+1,hk=>by
   have:=h7.at k (by simpa using hk);simp only [List.getElem_cons_succ];exact ⟨by omega,this.2⟩
theorem Cov.gap {p:UInt8→Bool} {l:List UInt8}:∀{o:Nat} {sp:List (Nat × Nat)},Cov p l o sp→∀k (hk:k+1<sp.length),sp[k].2<sp[k+1].1∧∀j (h:j<l.length),sp[k].2≤j→j<sp[k+1].1→p l[j]=true
 | o,x::y::r,⟨h1,h2,h3,h4,h5,h6,h7⟩,0,_=>by
   obtain ⟨g1,g2,g3,g4,g5,_,_⟩:=h7;simp only [List.getElem_cons_zero,List.getElem_cons_succ];refine ⟨?_,g4⟩;rcases Nat.lt_or_ge x.2 y.1 with h | h
   ·exact h
   ·have e:x.2=y.1:=by omega
    have f1:=h6 (by omega)
    have f2:=g5 x.2 (by omega) (by omega) (by omega);rw [f1] at f2;cases f2
 | o,x::r,⟨h1,h2,h3,h4,h5,h6,h7⟩,k+1,hk=>by
   simp only [List.getElem_cons_succ]
   exact h7.gap k (by simpa using hk)
 | o,[x],_,0,hk=>by simp at hk
theorem Cov.first {p:UInt8→Bool} {l:List UInt8} {o:Nat} {sp:List (Nat × Nat)} (h:Cov p l o sp) (h0:0<sp.length):∀j (h:j<l.length),o≤j→j<sp[0].1→p l[j]=true:=by
 cases sp with
 | nil=>simp at h0
 | cons x r=>exact h.2.2.2.1
theorem Cov.last {p:UInt8→Bool} {l:List UInt8}:∀{o:Nat} {sp:List (Nat × Nat)},Cov p l o sp→∀(h0:0<sp.length),∀j (h:j<l.length),(sp[sp.length-1]'(by omega)).2≤j→p l[j]=true
 | o,[x],⟨_,_,_,_,_,_,h7⟩,_,j,h,hj=>h7 j h hj
 | o,x::y::r,⟨_,_,_,_,_,_,h7⟩,_,j,h,hj=>by
   refine h7.last (by simp) j h ?_;simpa using hj
theorem Tight.at {n:Nat}:∀{o:Nat} {sp:List (Nat × Nat)},Tight n o sp→∃h:0<sp.length,sp[0].1=o∧(∀k (hk:k+1<sp.length),sp[k+1].1=sp[k].2+1)∧(sp[sp.length-1]'(by omega)).2=n
 | o,[x],⟨h1,h2⟩=>⟨by simp,h1,fun k hk=>by simp at hk,h2⟩
 | o,x::y::r,⟨h1,h2⟩=>by
   obtain ⟨g0,g1,g2,g3⟩:=h2.at;refine ⟨by simp,h1,fun k hk=>?_,by simpa using g3⟩;cases k with
   | zero=>simpa using g1
   | succ k=>have:=g2 k (by simpa using hk);exact this
theorem spans_cov {bl:Bool} {l:List UInt8} {sp:List (Nat × Nat)} (h:spans bl l=some sp):Cov (sepB bl) l 0 sp∧(bl=false→Tight l.length 0 sp):=by have:=pcs_cov (l:=l) l 0 0 sp rfl (Nat.zero_le _) (Nat.le_refl _) (fun j _ _ h=>by omega) h;exact ⟨this.1,fun hb=>this.2 (by rw [hb];rfl)⟩
theorem parts_pcs (c:UInt8) (p:UInt8→Bool) (hp:∀x,p x=true↔x=c):∀(t pre u:List UInt8),(∀x∈u,x≠c)→
 (pcs p true t (pre.length+u.length) pre.length=none∧ []∈parts c (u++t))∨∃sp,pcs p true t (pre.length+u.length) pre.length=some sp∧parts c (u++t)=sp.map (ext (pre++(u++t)))∧ []∉parts c (u++t)
 | [],pre,u,hu=>by
   have hn:c∉u:=fun h=>hu c h rfl;rw [List.append_nil,parts_none c u hn];simp only [pcs];by_cases h:u= []
   ·subst h;left;exact ⟨by simp,by simp⟩
   ·right;have hl:0<u.length:=List.length_pos_iff.2 h;refine ⟨[(pre.length,pre.length+u.length)],by rw [if_neg (by omega)],?_,by simp;exact fun e=>h e⟩;have:=ext_mid pre u [];rw [List.append_nil] at this;simp [this]
 | x::t,pre,u,hu=>by
   simp only [pcs];have hn:c∉u:=fun h=>hu c h rfl;by_cases hx:x=c
   ·subst hx;rw [if_pos ((hp x).2 rfl),parts_cut x u t hn];by_cases h:u= []
    ·subst h;left;exact ⟨by simp,by simp⟩
    ·have hl:0<u.length:=List.length_pos_iff.2 h;rw [if_neg (by omega)]
     have ih:=parts_pcs x p hp t (pre++(u ++ [x])) [] (by simp);have e1:(pre++(u ++ [x])).length=pre.length+u.length+1:=by simp;omega
     rw [List.length_nil,Nat.add_zero,List.nil_append,e1] at ih;rcases ih with ⟨h1,h2⟩ | ⟨sp,h1,h2,h3⟩
     ·left;exact ⟨by rw [h1];rfl,by simp [h2]⟩
     ·right;refine ⟨_,by rw [h1];rfl,?_,by simp [h3];exact fun e=>h e⟩;rw [List.map_cons,ext_mid pre u (x::t),h2]
      congr 2
      simp
   ·rw [if_neg (fun h=>hx ((hp x).1 h))]
    have ih:=parts_pcs c p hp t pre (u ++ [x]) (by
     intro y hy;rcases List.mem_append.1 hy with h | h
     ·exact hu y h
     ·rw [List.mem_singleton.1 h];exact hx)
    have e1:(u ++ [x])++t=u++x::t:=by simp
    rw [e1,List.length_append,List.length_singleton,←Nat.add_assoc] at ih;exact ih
def words (bl:Bool) (l:List UInt8):List (List UInt8):=if bl=true then ((spans true l).getD []).map (ext l) else parts 32 l
theorem words_spans (bl:Bool) (l:List UInt8):(spans bl l=none∧ []∈words bl l)∨∃sp,spans bl l=some sp∧words bl l=sp.map (ext l)∧ []∉words bl l:=by
 cases bl with
 | false=>
   have:=parts_pcs 32 (sepB false) (by intro x;simp [sepB]) l [] [] (by simp);simpa [words,spans] using this
 | true=>
   right;obtain ⟨sp,h⟩:=pcs_some (p:=sepB true) l 0 0;have hs:spans true l=some sp:=h;refine ⟨sp,hs,by simp [words,hs],?_⟩;rw [words,if_pos rfl,hs,Option.getD_some];intro hm;obtain ⟨x,hx,he⟩:=List.mem_map.1 hm;obtain ⟨k,hk,rfl⟩:=List.getElem_of_mem hx;obtain ⟨_,h2,h3,_⟩:=(spans_cov hs).1.at k hk;have:=ext_length l sp[k] h3;rw [he] at this;simp at this;omega
end Go.Proofs.YtimoakmcelocfaaGreat.Rq
namespace Go.Proofs.YtimoakmcelocfaaGreat.Rq
open Go.RowKit Base Txt
theorem ext_ext (l:List UInt8) (a b c d:Nat) (h:a+d≤b):ext (ext l (a,b)) (c,d)=ext l (a+c,a+d):=by unfold ext;dsimp only;rw [List.take_drop,List.drop_drop,List.take_take,Nat.min_eq_left (by omega)]
theorem Cov.mono {p:UInt8→Bool} {l:List UInt8} {o:Nat} {sp:List (Nat × Nat)} (h:Cov p l o sp):∀(k d:Nat) (hk:k+d<sp.length),(sp[k]'(by omega)).2≤sp[k+d].2
 | k,0,hk=>Nat.le_refl _
 | k,d+1,hk=>by
   have h1:=h.mono k d (by omega);have h2:=(h.gap (k+d) (by omega)).1;have h3:=(h.at (k+d+1) (by omega)).2.1;have e:sp[k+(d+1)]=sp[k+d+1]:=rfl;rw [e];omega
def between (bl:Bool) (l first last:List UInt8):List UInt8:=
 if bl=true then trimL Txt.blank (ext (trimL Txt.blank l) (first.length,(trimL Txt.blank l).length-last.length)) else ext l (first.length+1,l.length-last.length-1)
def fits (bl:Bool) (l first last:List UInt8):Prop:=
 if bl=true then first.length+last.length≤(trimL Txt.blank l).length else first.length+last.length+2≤l.length
theorem mid_core {bl:Bool} {l:List UInt8} {x0 x1 x2 x3:Nat × Nat} (a1:x0.1<x0.2) (a2:x0.2≤l.length) (a3:∀j (h:j<l.length),x0.1≤j→j<x0.2→sepB bl l[j]=false)
 (b1:x1.1<x1.2) (b3:∀j (h:j<l.length),x1.1≤j→j<x1.2→sepB bl l[j]=false) (c1:x2.1<x2.2) (c3:∀j (h:j<l.length),x2.1≤j→j<x2.2→sepB bl l[j]=false)
 (d1:x3.1<x3.2) (d2:x3.2≤l.length) (d3:∀j (h:j<l.length),x3.1≤j→j<x3.2→sepB bl l[j]=false) (e0:x0.2<x1.1) (e1:∀j (h:j<l.length),x0.2≤j→j<x1.1→sepB bl l[j]=true)
 (f0:x2.2<x3.1) (f1:∀j (h:j<l.length),x2.2≤j→j<x3.1→sepB bl l[j]=true) (g0:x1.2≤x2.2) (g1:∀j (h:j<l.length),j<x0.1→sepB bl l[j]=true) (g2:∀j (h:j<l.length),x3.2≤j→sepB bl l[j]=true)
 (t0:bl=false→x0.1=0∧x1.1=x0.2+1∧x3.1=x2.2+1∧x3.2=l.length) :
 between bl l (ext l x0) (ext l x3)=ext l (x1.1,x2.2)∧fits bl l (ext l x0) (ext l x3)∧x1.1<x2.2∧x2.2≤l.length:=by
 have l0:=ext_length l x0 a2;have l3:=ext_length l x3 d2;cases bl with
 | false=>
   obtain ⟨t1,t2,t3,t4⟩:=t0 rfl;simp only [between,fits,Bool.false_eq_true,if_false];rw [l0,l3];exact ⟨by congr 2<;>omega,by omega,by omega,by omega⟩
 | true=>
   have hs:trimL Txt.blank l=ext l (x0.1,x3.2):=by
    rw [←sepB_true]
    exact trim_ext _ l x0.1 x3.2 (by omega) (by omega) (fun j h hj=>g1 j h hj) (fun j h hj=>g2 j h hj) (fun h=>a3 x0.1 h (Nat.le_refl _) a1) (fun h=>d3 _ h (by omega) (by omega))
   have ls:=ext_length l (x0.1,x3.2) (by show x3.2≤_;omega);have ls':(ext l (x0.1,x3.2)).length=x3.2-x0.1:=ls;simp only [between,fits,if_true];rw [hs,l0,l3,ls'];have e2:ext (ext l (x0.1,x3.2)) (x0.2-x0.1,x3.2-x0.1-(x3.2-x3.1))=ext l (x0.2,x3.1):=by
    rw [ext_ext l _ _ _ _ (by omega)]
    congr 2<;>omega
   rw [e2]
   have lm:=ext_length l (x0.2,x3.1) (by show x3.1≤_;omega);have lm':(ext l (x0.2,x3.1)).length=x3.1-x0.2:=lm;have key:trimL Txt.blank (ext l (x0.2,x3.1))=ext (ext l (x0.2,x3.1)) (x1.1-x0.2,x2.2-x0.2):=by
    rw [←sepB_true];refine trim_ext _ _ _ _ (by omega) (by omega) ?_ ?_ ?_ ?_
    ·intro j h hj;obtain ⟨q,e⟩:=ext_at l _ j h
     rw [e];exact e1 _ q (by show x0.2≤x0.2+j;omega) (by show x0.2+j < _;omega)
    ·intro j h hj;obtain ⟨q,e⟩:=ext_at l _ j h
     rw [e];exact f1 _ q (by show _≤x0.2+j;omega) (by show x0.2+j < _;omega)
    ·intro h;obtain ⟨q,e⟩:=ext_at l _ _ h
     rw [e];exact b3 _ q (by show _≤x0.2+ _;omega) (by show x0.2+ _ < _;omega)
    ·intro h;obtain ⟨q,e⟩:=ext_at l _ _ h
     rw [e];exact c3 _ q (by show _≤x0.2+ _;omega) (by show x0.2+ _ < _;omega)
   rw [key,ext_ext l _ _ _ _ (by omega)];exact ⟨by congr 2<;>omega,by omega,by omega,by omega⟩
theorem between_mid {bl:Bool} {l:List UInt8} {sp:List (Nat × Nat)} (h:spans bl l=some sp) (h3:3≤sp.length) :
 between bl l (ext l sp[0]) (ext l sp[sp.length-1])=ext l (sp[1].1,sp[sp.length-2].2)∧fits bl l (ext l sp[0]) (ext l sp[sp.length-1])∧sp[1].1<sp[sp.length-2].2∧sp[sp.length-2].2≤l.length:=by
 obtain ⟨hc,ht⟩:=spans_cov h;obtain ⟨n,hn⟩:∃n,sp.length=n+3:=⟨sp.length-3,by omega⟩
 obtain ⟨a0,a1,a2,a3⟩:=hc.at 0 (by omega)
 obtain ⟨b0,b1,b2,b3⟩:=hc.at 1 (by omega)
 obtain ⟨c0,c1,c2,c3⟩:=hc.at (sp.length-2) (by omega)
 obtain ⟨d0,d1,d2,d3⟩:=hc.at (sp.length-1) (by omega)
 obtain ⟨e0,e1⟩:=hc.gap 0 (by omega)
 obtain ⟨f0,f1⟩:=hc.gap (sp.length-2) (by omega)
 have g0:=hc.mono 1 (sp.length-3) (by omega);have i1:∀h,sp[sp.length-2+1]'h=sp[sp.length-1]:=fun _=>by congr 1;omega
 have i2:∀h,sp[1+(sp.length-3)]'h=sp[sp.length-2]:=fun _=>by congr 1;omega
 simp only [i1] at f0 f1;rw [i2] at g0;refine mid_core a1 a2 a3 b1 b3 c1 c3 d1 d2 d3 e0 e1 f0 f1 g0 (fun j h hj=>hc.first (by omega) j h (Nat.zero_le _) hj) (hc.last (by omega)) fun hb=>?_;obtain ⟨_,q1,q2,q3⟩:=(ht hb).at
 have q4:=q2 (sp.length-2) (by omega);rw [i1] at q4;exact ⟨q1,q2 0 (by omega),q4,q3⟩
structure Cl where
 bl:Bool
 mi:Bool
 an:Bool
 nv:Bool
 sp:Bool
 co:Bool
def clOf (p:Nat):Cl:=⟨Qk.has p 3,Qk.has p 4,Qk.has p 5,Qk.has p 6,Qk.has p 7,Qk.has p 8⟩
def http1:List UInt8:= [72,84,84,80,47,49,46]
def knownV (c:Cl) (v:List UInt8):Bool:=decide (v.length=8)&&(Oct.digit ((v.getD 7 0).toNat:Int)&&(v.take 7==http1|| (c.an&&low (v.take 7)==low http1)))
def verL (c:Cl) (v:List UInt8):Option Nat:=
 if v= [] then some 0 else if knownV c v=true then (if v.getD 7 0=48 then some 0 else if (v.getD 7 0==49||c.mi)=true then some 1 else none) else none
def letsT (c:Cl) (x:UInt8):Bool:=Oct.visible (x.toNat:Int)|| (c.sp&&Oct.blank (x.toNat:Int)||c.co&&Oct.control (x.toNat:Int))
def tgtB (c:Cl) (t:List UInt8):Bool:=t.all (letsT c)
def tgtOk (c:Cl) (m t:List UInt8):Bool:=tgtB c t&&(c.sp||c.co|| (Tgt.parse m t).isSome)
def methOk (m:List UInt8):Bool:=decide (m.length≤32)&&Oct.allOf [1] m
def pick (c:Cl) (l:List UInt8):Option (List UInt8 × List UInt8 × List UInt8):=
 match spans c.bl l with
 | none=>none
 | some sp=>if (sp.length==3|| (decide (3<sp.length)&&c.sp))=true then some (ext l (sp.getD 0 (0,0)),ext l ((sp.getD 1 (0,0)).1,(sp.getD (sp.length-2) (0,0)).2),ext l (sp.getD (sp.length-1) (0,0)))
   else if (sp.length==2&&c.nv)=true then some (ext l (sp.getD 0 (0,0)),ext l (sp.getD 1 (0,0)),[]) else none
def badR:List UInt8 × List UInt8 × Nat × Nat:=([],[],0,400)
def verR:List UInt8 × List UInt8 × Nat × Nat:=([],[],0,505)
def request (c:Cl) (old:Bool) (l:List UInt8):List UInt8 × List UInt8 × Nat × Nat:=
 match pick c l with
 | none=>badR
 | some (m,t,v)=>if (methOk m&&tgtOk c m t)=true then
    match verL c v with
    | none=>verR
    | some k=>if (k==0 && !old)=true then verR else (m,t,k,0)
   else badR
theorem spans_pos {bl:Bool} {l:List UInt8} {sp:List (Nat × Nat)} (h:spans bl l=some sp) (k:Nat) (hk:k<sp.length):0<(ext l sp[k]).length∧(ext l sp[k]).length≤l.length:=by obtain ⟨_,h2,h3,_⟩:=(spans_cov h).1.at k hk;rw [ext_length l _ h3];omega
theorem getD_at (sp:List (Nat × Nat)) (k:Nat) (h:k<sp.length):sp.getD k (0,0)=sp[k]:=by simp [List.getD,List.getElem?_eq_getElem h]
theorem pick_some {c:Cl} {l m t v:List UInt8} (h:pick c l=some (m,t,v)):0<m.length∧m.length≤l.length∧0<t.length∧t.length≤l.length∧v.length≤l.length:=by
 unfold pick at h;cases hs:spans c.bl l with
 | none=>rw [hs] at h;cases h
 | some sp=>
   rw [hs] at h;dsimp only at h;split at h
   ·rename_i h3;have hn:3≤sp.length:=by
     simp only [Bool.or_eq_true,beq_iff_eq,Bool.and_eq_true,decide_eq_true_eq] at h3;omega
    rw [getD_at sp 0 (by omega),getD_at sp 1 (by omega),getD_at sp _ (by omega),getD_at sp _ (by omega)] at h;obtain ⟨_,_,q1,q2⟩:=between_mid hs hn
    have p0:=spans_pos hs 0 (by omega)
    have p1:=spans_pos hs (sp.length-1) (by omega);have p2:=ext_length l (sp[1].1,sp[sp.length-2].2) q2;simp only [Option.some.injEq,Prod.mk.injEq] at h;obtain ⟨rfl,rfl,rfl⟩:=h;have p3:(ext l (sp[1].1,sp[sp.length-2].2)).length=sp[sp.length-2].2-sp[1].1:=p2;exact ⟨p0.1,p0.2,by omega,by omega,p1.2⟩
   ·split at h
    ·rename_i h2;have hn:sp.length=2:=by
      simp only [Bool.and_eq_true,beq_iff_eq] at h2;exact h2.1
     rw [getD_at sp 0 (by omega),getD_at sp 1 (by omega)] at h
     have p0:=spans_pos hs 0 (by omega)
     have p1:=spans_pos hs 1 (by omega);simp only [Option.some.injEq,Prod.mk.injEq] at h;obtain ⟨rfl,rfl,rfl⟩:=h;exact ⟨p0.1,p0.2,p1.1,p1.2,by simp⟩
    ·cases h
end Go.Proofs.YtimoakmcelocfaaGreat.Rq
namespace Go.Proofs.YtimoakmcelocfaaGreat.Rq
open Go.RowKit Base Txt
theorem first_no (s:ByteArray) (h:0<s.size):s.toList.isEmpty=false:=by
 have e:s.toList=s.data.toList:=Lib.toList_data s;rw [e,List.isEmpty_eq_false_iff];intro h0;have:s.size=0:=by rw [←len,h0];rfl
 omega
theorem len8 (s:ByteArray) (h:s.size=8):(s.data.toList.getD 7 0)=s[7]∧(s.extract 0 7).data.toList=s.data.toList.take 7:=by refine ⟨?_,by rw [Lib.extract_data];simp⟩;rw [List.getD,List.getElem?_eq_getElem (by rw [len];omega),Option.getD_some];rfl
theorem eq_facts (m:ByteArray) (l:List UInt8) (b:Bool) (h:decide (m.data.toList=l)=b):(m.toList==l)=b∧(m.toList==(ByteArray.mk l.toArray).toList)=b:=by
 have h1:(m.toList==l)=b:=by rw [←h,Lib.toList_data,Bool.eq_iff_iff,beq_iff_eq,decide_eq_true_eq]
 exact ⟨h1,by rw [show (ByteArray.mk l.toArray).toList=l from Lib.toList_data _];exact h1⟩
section code
set_option maxHeartbeats 1000000
attribute [local go_sem] Base.some_undef
end code
end Go.Proofs.YtimoakmcelocfaaGreat.Rq
namespace Go.Proofs.YtimoakmcelocfaaGreat.Rq
open Go.RowKit Base Txt
def runeP (r:Nat):Bool:=decide (r<128)&&Oct.blank (r:Int)
section code
set_option maxHeartbeats 1000000
attribute [local go_sem] Base.some_undef
end code
end Go.Proofs.YtimoakmcelocfaaGreat.Rq
namespace Go.Proofs.YtimoakmcelocfaaGreat.Rq
open Go.RowKit Base Txt
theorem pcs_le {p:UInt8→Bool} {st:Bool}:∀(t:List UInt8) (i a:Nat) (sp:List (Nat × Nat)),pcs p st t i a=some sp→sp.length≤t.length+1
 | [],i,a,sp,h=>by
   simp only [pcs] at h;split at h
   ·split at h
    ·cases h
    ·cases h;simp
   ·cases h;simp
 | x::t,i,a,sp,h=>by
   simp only [pcs] at h;split at h
   ·split at h
    ·split at h
     ·cases h
     ·have:=pcs_le t _ _ sp h;simp;omega
    ·cases hq:pcs p st t (i+1) (i+1) with
     | none=>rw [hq] at h;cases h
     | some r=>
       rw [hq] at h;cases h;have:=pcs_le t _ _ r hq;simp;omega
   ·have:=pcs_le t _ _ sp h;simp;omega
def pv:Option (List UInt8 × List UInt8 × List UInt8)→Value
 | none=>.tuple #[.string ⟨#[]⟩,.string ⟨#[]⟩,.string ⟨#[]⟩,.bool false]
 | some (m,t,v)=>.tuple #[.string (ba m),.string (ba t),.string (ba v),.bool true]
section code
set_option maxHeartbeats 1000000
attribute [local go_sem] Base.some_undef
end code
end Go.Proofs.YtimoakmcelocfaaGreat.Rq
namespace Go.Proofs.YtimoakmcelocfaaGreat.Rq
open Go.RowKit Base Txt
theorem verL_01 {c:Cl} {v:List UInt8} {k:Nat} (h:verL c v=some k):k=0∨k=1:=by
 unfold verL at h;split at h
 ·cases h;exact .inl rfl
 ·split at h
  ·split at h
   ·cases h;exact .inl rfl
   ·split at h
    ·cases h;exact .inr rfl
    ·cases h
  ·cases h
theorem all_take (q:UInt8→Bool) (l:List UInt8) (k:Nat) (h:k<l.length) (h1:(l.take k).all q=true) (h2:q l[k]=true):(l.take (k+1)).all q=true:=by rw [List.take_succ_eq_append_getElem h,List.all_append,h1];simp [h2]
theorem all_not (q:UInt8→Bool) (l:List UInt8) (k:Nat) (h:k<l.length) (h2:q l[k]=false):l.all q=false:=by rw [List.all_eq_false];exact ⟨l[k],List.getElem_mem h,by rw [h2];decide⟩
def rv (r:List UInt8 × List UInt8 × Nat × Nat):Value:=.tuple #[.string (ba r.1),.string (ba r.2.1),.int .i64 (r.2.2.1:Nat),.int .i64 (r.2.2.2:Nat)]
section code
set_option maxHeartbeats 1000000
attribute [local go_sem] Base.some_undef
def lineOf (m t:ByteArray):ByteArray:=((((m ++⟨#[32]⟩)++t) ++⟨#[32]⟩) ++⟨#[72,84,84,80,47,49,46]⟩) ++⟨#[49]⟩
end code
end Go.Proofs.YtimoakmcelocfaaGreat.Rq
namespace Go.Proofs.YtimoakmcelocfaaGreat.Rq
open Go.RowKit Base Txt
def c0:Cl:=⟨false,false,false,false,false,false⟩
theorem clOf_zero:clOf 0=c0:=by simp only [clOf,c0,Cl.mk.injEq];decide
theorem join3 {l a b d:List UInt8} (h:parts 32 l= [a,b,d]):l=a++32::(b++32::d):=by
 have key:∀l:List UInt8,∀x r,parts 32 l=x::r→(r= []∧l=x)∨∃t,l=x++32::t∧parts 32 t=r:=by
  intro l
  induction l with
  | nil=>intro x r h;rw [parts] at h;cases h;exact .inl ⟨rfl,rfl⟩
  | cons c l ih=>
    intro x r h;rw [parts] at h;by_cases hc:c=32
    ·rw [if_pos hc] at h;cases h;exact .inr ⟨l,by rw [hc];rfl,rfl⟩
    ·rw [if_neg hc] at h;cases hp:parts 32 l with
     | nil=>have:=parts_length 32 l;rw [hp] at this;simp at this
     | cons y s=>
       rw [hp] at h;simp only [List.cons.injEq] at h;obtain ⟨h1,h2⟩:=h;rcases ih y s hp with ⟨g1,g2⟩ | ⟨t,g1,g2⟩
       ·exact .inl ⟨by rw [←h2,g1],by rw [←h1,g2]⟩
       ·exact .inr ⟨t,by rw [←h1,g1];rfl,by rw [g2,h2]⟩
 rcases key l a [b,d] h with ⟨h1,_⟩ | ⟨t,h1,h2⟩
 ·cases h1
 ·rcases key t b [d] h2 with ⟨g1,_⟩ | ⟨u,g1,g2⟩
  ·cases g1
  ·rcases key u d [] g2 with ⟨_,k2⟩ | ⟨v,k1,k2⟩
   ·rw [h1,g1,k2]
   ·have:=parts_length 32 v;rw [k2] at this;simp at this
theorem pick_c0 {l m t v:List UInt8} (h:pick c0 l=some (m,t,v)):(∃sp,spans false l=some sp∧sp.length=3∧m=ext l (sp.getD 0 (0,0))∧t=ext l ((sp.getD 1 (0,0)).1,(sp.getD 1 (0,0)).2)∧v=ext l (sp.getD 2 (0,0)))∧l=m++32::(t++32::v):=by
 unfold pick at h;cases hs:spans c0.bl l with
 | none=>rw [hs] at h;cases h
 | some sp=>
   have hs':spans false l=some sp:=hs;rw [hs] at h;dsimp only at h;have h3:sp.length=3:=by
    by_cases hc:(sp.length==3|| (decide (3<sp.length)&&c0.sp))=true
    ·simpa [c0] using hc
    ·rw [if_neg hc,if_neg (by simp [c0])] at h;cases h
   rw [if_pos (by rw [h3];rfl),h3] at h;simp only [Option.some.injEq,Prod.mk.injEq] at h;obtain ⟨rfl,rfl,rfl⟩:=h;refine ⟨⟨sp,hs',h3,rfl,rfl,rfl⟩,?_⟩;have hw:words false l=sp.map (ext l):=by
    rcases words_spans false l with ⟨g,_⟩ | ⟨sp',g1,g2,_⟩
    ·rw [g] at hs';cases hs'
    ·rw [g1] at hs';cases hs';exact g2
   match sp,h3 with
   | [x,y,z],_=>exact join3 hw
theorem token_table:∀k:Fin 256,Oct.oneOf [1] (k.val:Int)=true→k.val≠9:=by decide +kernel
theorem token_tab (x:UInt8) (h:Oct.oneOf [1] (x.toNat:Int)=true):x≠9:=fun e=>by have:=token_table ⟨x.toNat,x.toNat_lt⟩ h;rw [e] at this;exact this rfl
theorem visible_tab (x:UInt8) (h:letsT c0 x=true):x≠9:=fun e=>by rw [e] at h;revert h;decide
theorem lets_all (c:Cl) (x:UInt8) (h:letsT c0 x=true):letsT c x=true:=by
 have:Oct.visible (x.toNat:Int)=true:=by simpa [letsT,c0] using h
 unfold letsT;rw [this];rfl
theorem known_shape {v:List UInt8} (h:knownV c0 v=true):∃d:UInt8,v=http1 ++ [d]∧Oct.digit (d.toNat:Int)=true∧v.getD 7 0=d:=by
 simp only [knownV,Bool.and_eq_true,decide_eq_true_eq,Bool.or_eq_true,beq_iff_eq,c0,Bool.false_and,Bool.false_eq_true,or_false] at h;obtain ⟨h1,h2,h3⟩:=h
 match v,h1 with
 | [a0,a1,a2,a3,a4,a5,a6,d],_=>
   refine ⟨d,?_,h2,rfl⟩;have e: [a0,a1,a2,a3,a4,a5,a6]=http1:=h3;rw [←e];rfl
theorem extends_all {old:Bool} {l m t:List UInt8} {k:Nat} (h:request c0 old l=(m,t,k,0)):(∀c,request c old l=(m,t,k,0))∧(k=1→l=m++32::(t ++ [32,72,84,84,80,47,49,46,49])):=by
 unfold request at h;cases hp:pick c0 l with
 | none=>rw [hp] at h;simp [badR] at h
 | some x=>
   obtain ⟨m',t',v⟩:=x;rw [hp] at h;dsimp only at h;by_cases hok:(methOk m'&&tgtOk c0 m' t')=true
   ·rw [if_pos hok] at h;cases hv:verL c0 v with
    | none=>rw [hv] at h;simp [verR] at h
    | some j=>
      rw [hv] at h;dsimp only at h;by_cases ho:(j==0 && !old)=true
      ·rw [if_pos ho] at h;simp [verR] at h
      ·rw [if_neg ho] at h;simp only [Prod.mk.injEq,and_true] at h;obtain ⟨rfl,rfl,rfl⟩:=h;obtain ⟨⟨sp,hs,h3,e1,e2,e3⟩,hl⟩:=pick_c0 hp
       have hz:=(pick_some hp);simp only [Bool.and_eq_true] at hok;obtain ⟨hm,ht⟩:=hok;have ht':=ht;unfold tgtOk at ht';simp only [Bool.and_eq_true,c0,Bool.or_self,Bool.false_or] at ht';obtain ⟨ht1,ht2⟩:=ht';have hvne:v≠ []:=by
        intro e
        have hc:=(spans_cov hs).1.at 2 (by omega);have hlen:=ext_length l (sp[2]'(by omega)) hc.2.2.1;rw [getD_at sp 2 (by omega)] at e3;rw [←e3,e] at hlen;have:=hc.2.1;simp at hlen;omega
       have hkn:knownV c0 v=true:=by
        unfold verL at hv;rw [if_neg hvne] at hv;by_cases q:knownV c0 v=true
        ·exact q
        ·rw [if_neg q] at hv;cases hv
       obtain ⟨d,hvd,hdig,h7⟩:=known_shape hkn;have hall:∀x∈l,x≠9:=by
        intro x hx;rw [hl] at hx;simp only [List.mem_append,List.mem_cons] at hx;rcases hx with hx | rfl | hx | rfl | hx
        ·refine token_tab x ?_;unfold methOk Oct.allOf at hm;simp only [Bool.and_eq_true,List.all_eq_true] at hm;exact hm.2 x hx
        ·decide
        ·refine visible_tab x ?_;unfold tgtB at ht1;rw [List.all_eq_true] at ht1;exact ht1 x hx
        ·decide
        ·rw [hvd] at hx;rcases List.mem_append.1 hx with hx | hx
         ·intro e;rw [e] at hx;revert hx;decide
         ·intro e;rw [List.mem_singleton.1 hx] at e;rw [e] at hdig;revert hdig;decide
       have hsp:∀bl,spans bl l=some sp:=by
        intro bl;cases bl with
        | false=>exact hs
        | true=>
          have h1:pcs (sepB false) true l 0 0=some sp:=hs;have h2:=pcs_loose l 0 0 sp h1
          have h3:pcs (sepB false) false l 0 0=pcs (sepB true) false l 0 0:=pcs_congr l 0 0 (fun x hx=>by have:=hall x hx;simp [sepB,this])
          rw [h3] at h2;exact h2
       refine ⟨fun c=>?_,fun hk=>?_⟩
       ·have hpc:pick c l=some (m',t',v):=by
         unfold pick;rw [hsp c.bl];dsimp only;rw [if_pos (by rw [h3];rfl),h3,e1,e2,e3]
        have htc:tgtOk c m' t'=true:=by
         unfold tgtOk;rw [ht2,Bool.or_true,Bool.and_true];unfold tgtB at ht1 ⊢;rw [List.all_eq_true] at ht1 ⊢
         exact fun x hx=>lets_all c x (ht1 x hx)
        have hkc:knownV c v=true:=by unfold knownV at hkn ⊢;simp only [Bool.and_eq_true,Bool.or_eq_true,c0,Bool.false_eq_true,false_and,or_false] at hkn ⊢;exact ⟨hkn.1,hkn.2.1,.inl hkn.2.2⟩
        have hvc:verL c v=some j:=by
         unfold verL at hv ⊢;rw [if_neg hvne,if_pos hkn] at hv;rw [if_neg hvne,if_pos hkc];by_cases q:v.getD 7 0=48
         ·rw [if_pos q] at hv ⊢;exact hv
         ·rw [if_neg q] at hv ⊢;by_cases q2:(v.getD 7 0==49)=true
          ·rw [q2,Bool.true_or,if_pos rfl] at hv ⊢;exact hv
          ·rw [if_neg (by simp [c0];simpa using q2)] at hv;cases hv
        unfold request;rw [hpc];dsimp only;rw [hm,htc,if_pos (by rfl),hvc];dsimp only;rw [if_neg ho]
       ·subst hk;rw [hl];have hd:d=49:=by
         unfold verL at hv;rw [if_neg hvne,if_pos hkn,h7] at hv;by_cases q:d=48
         ·rw [if_pos q] at hv;simp at hv
         ·rw [if_neg q] at hv;by_cases q2:(d==49||c0.mi)=true
          ·simpa [c0] using q2
          ·rw [if_neg q2] at hv;cases hv
        rw [hvd,hd];simp [http1]
   ·rw [if_neg hok] at h;simp [badR] at h
def tailA:List UInt8:= [47,97,32,72,84,84,80,47,49,46,49]
end Go.Proofs.YtimoakmcelocfaaGreat.Rq
namespace Go.Proofs.YtimoakmcelocfaaGreat.Fd
open Go.RowKit Base Txt Tgt
structure Cl where
 sp:Bool
 nb:Bool
 nc:Bool
 nn:Bool
 vb:Bool
def clOf (p:Nat):Cl:=⟨Qk.has p 9,Qk.has p 10,Qk.has p 11,Qk.has p 12,Qk.has p 14⟩
def c0:Cl:=⟨false,false,false,false,false⟩
theorem clOf_zero:clOf 0=c0:=by simp only [clOf,c0,Cl.mk.injEq];decide
def trimEnd (l:List UInt8):List UInt8:=(l.reverse.dropWhile Txt.blank).reverse
abbrev Ans:=Option (Option (List UInt8 × List UInt8))
def out (b:Bool):Ans:=if b=true then some none else none
def nameL (c:Cl) (n:List UInt8):List UInt8:=if c.sp=true then trimEnd n else n
def goodN (c:Cl) (n:List UInt8):Bool:=c.nb||Oct.allOf [1] n
def goodV (c:Cl) (v:List UInt8):Bool:=c.vb||Oct.allOf [6] v
def read (c:Cl) (n v:List UInt8):Ans:=if n= [] then out c.nn else if (goodN c n&&goodV c v)=true then some (some (n,v)) else none
def parse (c:Cl) (l:List UInt8):Ans:=if (cutAt 58 l).2.2=true then read c (nameL c (cutAt 58 l).1) (trimL Txt.blank (cutAt 58 l).2.1) else out c.nc
def goes (p:Nat) (l:List UInt8):Bool:=Qk.has p 13&&(!l.isEmpty&&Txt.blank (l.headD 0))
def right (n v:List UInt8):Bool:=!n.isEmpty&&(Oct.allOf [1] n&&(Oct.allOf [6] v&&decide (trimL Txt.blank v=v)))
def line (f:Fld):List UInt8:=f.1.data.toList++58::32::(f.2.data.toList ++ [13,10])
def put (fs:List Fld):List UInt8:=fs.flatMap line
theorem trimEnd_le (l:List UInt8):(trimEnd l).length≤l.length:=by unfold trimEnd;have:=dropWhile_le Txt.blank l.reverse;simpa using this
theorem nameL_le (c:Cl) (l:List UInt8):(nameL c l).length≤l.length:=by
 unfold nameL;split
 ·exact trimEnd_le l
 ·exact Nat.le_refl _
theorem trimEnd_snoc (l:List UInt8) (x:UInt8) (h:Txt.blank x=true):trimEnd (l ++ [x])=trimEnd l:=by unfold trimEnd;rw [List.reverse_append,List.reverse_singleton,List.singleton_append,List.dropWhile_cons,if_pos h]
theorem trimEnd_stop (l:List UInt8) (x:UInt8) (h:Txt.blank x=false):trimEnd (l ++ [x])=l ++ [x]:=by unfold trimEnd;rw [List.reverse_append,List.reverse_singleton,List.singleton_append,dropWhile_stop h];simp
theorem token_tab:∀k:Fin 256,Oct.oneOf [1] (k.val:Int)=true→k.val≠58∧k.val≠13∧k.val≠10∧Txt.blank (UInt8.ofNat k.val)=false:=by decide +kernel
theorem token_of {x:UInt8} (h:Oct.oneOf [1] (x.toNat:Int)=true):x≠58∧x≠13∧x≠10∧Txt.blank x=false:=by
 obtain ⟨a,b,c,d⟩:=token_tab ⟨x.toNat,x.toNat_lt⟩ h;refine ⟨?_,?_,?_,by simpa using d⟩
 ·rintro rfl;exact a rfl
 ·rintro rfl;exact b rfl
 ·rintro rfl;exact c rfl
theorem all_of {ks:List Int} {l:List UInt8} (h:Oct.allOf ks l=true):∀x∈l,Oct.oneOf ks (x.toNat:Int)=true:=by simpa [Oct.allOf,List.all_eq_true] using h
theorem trimEnd_token {n:List UInt8} (h:Oct.allOf [1] n=true):trimEnd n=n:=by
 rcases List.eq_nil_or_concat n with rfl | ⟨m,x,rfl⟩
 ·rfl
 ·rw [List.concat_eq_append] at *;exact trimEnd_stop m x (token_of (all_of h x (by simp))).2.2.2
theorem nameL_token (c:Cl) {n:List UInt8} (h:Oct.allOf [1] n=true):nameL c n=n:=by
 unfold nameL;split
 ·exact trimEnd_token h
 ·rfl
theorem right_iff {n v:List UInt8}:right n v=true↔n≠ []∧Oct.allOf [1] n=true∧Oct.allOf [6] v=true∧trimL Txt.blank v=v:=by cases n<;>simp [right]
theorem parse_strict {l n v:List UInt8} (h:parse c0 l=some (some (n,v))):(cutAt 58 l).2.2=true∧(cutAt 58 l).1=n∧trimL Txt.blank (cutAt 58 l).2.1=v∧n≠ []∧Oct.allOf [1] n=true∧Oct.allOf [6] v=true:=by
 unfold parse at h;split at h
 ·rename_i h1;rw [show nameL c0 (cutAt 58 l).1=(cutAt 58 l).1 from rfl] at h;unfold read at h;split at h
  ·exact absurd h (by simp [out,c0])
  ·rename_i h2;split at h
   ·rename_i h3;obtain ⟨rfl,rfl⟩:(cutAt 58 l).1=n∧trimL Txt.blank (cutAt 58 l).2.1=v:=by simpa using h
    have h4:Oct.allOf [1] (cutAt 58 l).1=true∧Oct.allOf [6] (trimL Txt.blank (cutAt 58 l).2.1)=true:=by simpa [goodN,goodV,c0] using h3
    exact ⟨h1,rfl,rfl,h2,h4.1,h4.2⟩
   ·exact absurd h (by simp)
 ·exact absurd h (by simp [out,c0])
theorem parse_zero (l:List UInt8):parse c0 l=none∨∃n v,parse c0 l=some (some (n,v)):=by
 rcases h:parse c0 l with _ | _ | ⟨n,v⟩
 ·exact .inl rfl
 ·exfalso;unfold parse at h;split at h
  ·unfold read at h;split at h
   ·simp [out,c0] at h
   ·split at h<;>simp at h
  ·simp [out,c0] at h
 ·exact .inr ⟨n,v,rfl⟩
theorem dropWhile_head (p:UInt8→Bool):∀l:List UInt8,l.dropWhile p= []∨∃x r,l.dropWhile p=x::r∧p x=false
 | []=>.inl rfl
 | x::l=>by
   rw [List.dropWhile_cons];split
   ·exact dropWhile_head p l
   ·rename_i hx;exact .inr ⟨x,l,rfl,by simpa using hx⟩
theorem dropWhile_idem (p:UInt8→Bool) (l:List UInt8):(l.dropWhile p).dropWhile p=l.dropWhile p:=by
 rcases dropWhile_head p l with h | ⟨x,r,h,hx⟩
 ·rw [h];rfl
 ·rw [h,dropWhile_stop hx]
theorem trimL_ahead (p:UInt8→Bool) (l:List UInt8):(trimL p l).dropWhile p=trimL p l:=by
 have key:∀m:List UInt8,m.dropWhile p=m→((m.reverse.dropWhile p).reverse).dropWhile p=(m.reverse.dropWhile p).reverse:=by
  intro m hm;rcases dropWhile_head p m.reverse with h | ⟨x,r,h,hx⟩
  ·rw [h];rfl
  ·cases m with
   | nil=>simp at h
   | cons y t=>
     have hy:p y=false:=by
      by_cases hp:p y=true
      ·exfalso;rw [List.dropWhile_cons,if_pos hp] at hm;have h1:=dropWhile_le p t;rw [hm] at h1;simp at h1;omega
      ·simpa using hp
     have hs:(x::r) <:+(y::t).reverse:=by rw [←h];exact List.dropWhile_suffix p
     have hpre:(x::r).reverse <+:(y::t):=by have:=List.reverse_prefix.2 hs;simpa using this
     rw [h];obtain ⟨z,hz⟩:=hpre;cases hrev:(x::r).reverse with
     | nil=>simp at hrev
     | cons a b=>
       rw [hrev,List.cons_append] at hz;have:a=y:=by injection hz
       subst this;exact dropWhile_stop hy
 exact key _ (dropWhile_idem p l)
theorem trimL_idem (p:UInt8→Bool) (l:List UInt8):trimL p (trimL p l)=trimL p l:=by show (((trimL p l).dropWhile p).reverse.dropWhile p).reverse=trimL p l;rw [trimL_ahead];unfold trimL;rw [List.reverse_reverse,dropWhile_idem]
theorem parse_all {l n v:List UInt8} (h:parse c0 l=some (some (n,v))):(∀c,parse c l=some (some (n,v)))∧right n v=true:=by
 obtain ⟨h1,h2,h3,h4,h5,h6⟩:=parse_strict h;refine ⟨fun c=>?_,?_⟩
 ·unfold parse;rw [if_pos h1,h2,h3,nameL_token c h5];unfold read;rw [if_neg h4,if_pos (by simp [goodN,goodV,h5,h6])]
 ·rw [right_iff];exact ⟨h4,h5,h6,by rw [←h3];exact trimL_idem _ _⟩
theorem parse_le {c:Cl} {l n v:List UInt8} (h:parse c l=some (some (n,v))):n.length≤l.length∧v.length≤l.length:=by
 have hc:=cutAt_le 58 l;unfold parse at h;split at h
 ·unfold read at h;split at h
  ·unfold out at h;split at h<;>simp at h
  ·split at h
   ·obtain ⟨rfl,rfl⟩:nameL c (cutAt 58 l).1=n∧trimL Txt.blank (cutAt 58 l).2.1=v:=by simpa using h
    exact ⟨Nat.le_trans (nameL_le _ _) hc.1,Nat.le_trans (trimL_length _ _) hc.2⟩
   ·simp at h
 ·unfold out at h;split at h<;>simp at h
abbrev E0:ByteArray:=⟨#[]⟩
abbrev fv (n v:ByteArray):Value:=.agg #[.string n,.string v]
def rv:Ans→Value
 | none=>.tuple #[fv E0 E0,.bool false,.int .i64 400]
 | some none=>.tuple #[fv E0 E0,.bool false,.int .i64 0]
 | some (some (n,v))=>.tuple #[fv (ba n) (ba v),.bool true,.int .i64 0]
def rn:Ans→ByteArray
 | some (some (n,_))=>ba n
 | _=>E0
def rvl:Ans→ByteArray
 | some (some (_,v))=>ba v
 | _=>E0
def rok:Ans→Bool
 | some (some _)=>true
 | _=>false
def rerr:Ans→Int
 | none=>400
 | _=>0
end Go.Proofs.YtimoakmcelocfaaGreat.Fd
namespace Go.Proofs.YtimoakmcelocfaaGreat.Fd
open Go.RowKit Base Txt Tgt
theorem first_no (s:ByteArray) (h:0<s.size):s.toList.isEmpty=false:=by
 have e:s.toList=s.data.toList:=Lib.toList_data s;rw [e,List.isEmpty_eq_false_iff];intro h0;have:s.size=0:=by rw [←len,h0];rfl
 omega
theorem ba_pos {n:List UInt8} (h:n≠ []):0<(ba n).size:=by rw [Txt.ba_size];exact List.length_pos_iff.2 h
structure Fb (w:World) (g:Nat) (n v:ByteArray):Prop where
 c0:w.cell? ⟨g,0,none⟩=some (.string n)
 c1:w.cell? ⟨g,1,none⟩=some (.string v)
 z0:w.frozen? ⟨g,0,none⟩=false
 z1:w.frozen? ⟨g,1,none⟩=false
theorem Fb.below {w w':World} {g:Nat} {n v:ByteArray} (H:Fb w g n v) (hg:g<w.heap.size) (hb:Below w.heap.size w w'):Fb w' g n v:=
 ⟨(hb.cell (p:=⟨g,0,none⟩) hg).trans H.c0,(hb.cell (p:=⟨g,1,none⟩) hg).trans H.c1,(hb.frozen (p:=⟨g,0,none⟩) hg).trans H.z0,(hb.frozen (p:=⟨g,1,none⟩) hg).trans H.z1⟩
theorem Fb.new (w:World) (t:TypeId) (n v:ByteArray):Fb (w.alloc (.cells #[.string n,.string v] t)) w.heap.size n v:=by
 have hh:=heap_alloc_new w (.cells #[.string n,.string v] t);have c:∀k u,(#[Value.string n,.string v]:Array Value)[k]?=some u→(w.alloc (.cells #[.string n,.string v] t)).cell? ⟨w.heap.size,k,none⟩=some u:=
  fun k u e=>(cell_of_row (w.alloc _) w.heap.size k _ t (0,0) hh).trans e
 have z:∀k,(w.alloc (.cells #[.string n,.string v] t)).frozen? ⟨w.heap.size,k,none⟩=false:=fun k=>by unfold World.frozen?;simp only [hh];simp
 exact ⟨c 0 _ rfl,c 1 _ rfl,z 0,z 1⟩
theorem Fb.put {B:Nat} {w0 w:World} {g:Nat} {n v:ByteArray} (H:Fb w g n v) (hb:Below B w0 w) (hg:B≤g) (n' v':ByteArray) :
 ∃W,(w.setCell ⟨g,0,none⟩ (.string n')).setCell ⟨g,1,none⟩ (.string v')=W∧Fb W g n' v'∧Below B w0 W:=by
 obtain ⟨c0,c1,z0,z1⟩:=H;refine ⟨_,rfl,⟨?_,?_,?_,?_⟩,(hb.setCell hg _).setCell hg _⟩;all_goals go_simp
theorem Fb.other {w:World} {g:Nat} {n v:ByteArray} (H:Fb w g n v) (g' o:Nat) (u:Value) (n2:¬g'=g):Fb (w.setCell ⟨g',o,none⟩ u) g n v:=by obtain ⟨c0,c1,z0,z1⟩:=H;refine ⟨?_,?_,?_,?_⟩;all_goals go_simp
structure Keep (w0:World) (n v:ByteArray) (w:World):Prop where
 f:Fb w w0.heap.size n v
 g:w0.heap.size<w.heap.size
 b:Below w0.heap.size w0 w
theorem Keep.new (w:World) (t:TypeId) (n v:ByteArray):Keep w n v (w.alloc (.cells #[.string n,.string v] t)):=
 ⟨Fb.new w t n v,by simp,(Below.refl _ _).alloc (Nat.le_refl _) _⟩
theorem Keep.step {w0 w w':World} {n v:ByteArray} (h:Keep w0 n v w) (hb:Below w.heap.size w w'):Keep w0 n v w':=
 ⟨h.f.below h.g hb,Nat.lt_of_lt_of_le h.g hb.size,Base.below_step h.b hb⟩
structure Two (w0:World) (n v:ByteArray) (t:Nat) (N V:ByteArray) (w:World):Prop where
 k:Keep w0 n v w
 f:Fb w t N V
 ne:¬t=w0.heap.size
 lt:t<w.heap.size
 ge:w0.heap.size≤t
theorem Two.new {w0 w:World} {n v:ByteArray} (h:Keep w0 n v w) (ty:TypeId) (N V:ByteArray):Two w0 n v w.heap.size N V (w.alloc (.cells #[.string N,.string V] ty)):=
 ⟨h.step ((Below.refl _ _).alloc (Nat.le_refl _) _),Fb.new w ty N V,by have:=h.g;omega,by simp,by have:=h.g;omega⟩
theorem Two.step {w0 w w':World} {n v N V:ByteArray} {t:Nat} (h:Two w0 n v t N V w) (hb:Below w.heap.size w w'):Two w0 n v t N V w':=
 ⟨h.k.step hb,h.f.below h.lt hb,h.ne,Nat.lt_of_lt_of_le h.lt hb.size,h.ge⟩
theorem Two.drew {w0 w:World} {n v N V:ByteArray} {t:Nat} (h:Two w0 n v t N V w) (m:Nat):Two w0 n v t N V (w.drewN m):=h.step (Base.below_drewN (Below.refl _ _) m)
section code
set_option maxHeartbeats 4000000
set_option maxRecDepth 100000
attribute [local go_sem] Base.some_undef
end code
end Go.Proofs.YtimoakmcelocfaaGreat.Fd
namespace Go.Proofs.YtimoakmcelocfaaGreat.Fd
open Go.RowKit Base Txt Tgt
section code
set_option maxHeartbeats 4000000
set_option maxRecDepth 100000
attribute [local go_sem] Base.some_undef
end code
end Go.Proofs.YtimoakmcelocfaaGreat.Fd
namespace Go.Proofs.YtimoakmcelocfaaGreat.Fd
open Go.RowKit Base Txt Tgt
def joined (v s:List UInt8):List UInt8:=v++32::trimL Txt.blank s
section code
set_option maxHeartbeats 4000000
set_option maxRecDepth 100000
attribute [local go_sem] Base.some_undef
end code
end Go.Proofs.YtimoakmcelocfaaGreat.Fd
namespace Go.Proofs.YtimoakmcelocfaaGreat.Fd
open Go.RowKit Base Txt Tgt
section code
set_option maxHeartbeats 4000000
set_option maxRecDepth 100000
attribute [local go_sem] Base.some_undef
end code
end Go.Proofs.YtimoakmcelocfaaGreat.Fd
namespace Go.Proofs.YtimoakmcelocfaaGreat.Txt
open Go.RowKit Base Oct
theorem find_snoc (fs:List Fld) (name:ByteArray) (k:Nat) (h:k<fs.length):find (fs.take (k+1)) name=find (fs.take k) name++(if same (fs[k]?.getD dflt).1 name=true then [(fs[k]?.getD dflt).2] else []):=by
 rw [flds_snoc fs k h];unfold find;rw [List.filter_append,List.map_append]
 congr 1
 generalize fs[k]?.getD dflt=f;by_cases hs:same f.1 name=true<;>simp [hs]
theorem find_le (fs:List Fld) (name:ByteArray):(find fs name).length≤fs.length:=by unfold find;rw [List.length_map];exact List.length_filter_le _ _
section code
set_option maxHeartbeats 1000000
end code
end Go.Proofs.YtimoakmcelocfaaGreat.Txt
namespace Go.Proofs.YtimoakmcelocfaaGreat.Frm
open Go.RowKit Base Txt
abbrev hostN:ByteArray:=⟨#[72,111,115,116]⟩
abbrev teN:ByteArray:=⟨#[84,114,97,110,115,102,101,114,45,69,110,99,111,100,105,110,103]⟩
abbrev clN:ByteArray:=⟨#[67,111,110,116,101,110,116,45,76,101,110,103,116,104]⟩
abbrev chunked:ByteArray:=⟨#[99,104,117,110,107,101,100]⟩
abbrev blanksOf:ByteArray:=⟨#[11,12,32,9]⟩
def hostsV (nh mh:Bool) (minor:Int) (h:List ByteArray):Int:=
 if ((decide (minor=1)&&(decide (h.length=0) && !nh))|| (decide (1<h.length) && !mh))=true then 400
 else if (h.all fun v=>Tgt.hostB v.data.toList)=true then 0 else 400
def isC (tb:Bool) (v:ByteArray):Bool:=same (if tb=true then trimOf v blanksOf else v) chunked
def onlyLast:List Bool→Bool
 | []=>false
 | [b]=>b
 | b::c::r=>!b&&onlyLast (c::r)
def coding (tb tl:Bool) (vs:List ByteArray):Bool:=onlyLast ((list vs).map (isC tb))&&(decide ((list vs).length=1)||tl)
def alikeL (l:List ByteArray):Bool:=l.all fun v=>decide (v=l.headD ByteArray.empty)
def counts (lc lf ll:Bool) (l:List ByteArray):Option ByteArray:=
 if (decide (l.length=1)|| ((lc&&alikeL l)||lf))=true then some (l.headD ByteArray.empty)
 else if ll=true then some (l.getLastD ByteArray.empty) else none
def unplus (lp:Bool) (s:ByteArray):ByteArray:=if (lp&&decide (s.data.toList.head?=some 43))=true then ba (s.data.toList.drop 1) else s
def numV (r:Int × Int):Int × Int:=if r.2=22 then (0,400) else if r.2=23 then (0,413) else (r.1,0)
def lengthV (lp lc lf ll:Bool) (most:Int) (vs:List ByteArray):Int × Int:=
 if vs= [] then (0,0) else
 match counts lc lf ll (if lc=true then list vs else vs) with
 | none=>(0,400)
 | some s=>numV (Num.readOf 10 most (unplus lp s).data.toList)
def winsV (td ti tw lw:Bool) (minor:Int) (nte ncl:Nat) (cod:Bool):Bool × Int:=
 if nte=0 then (false,0)
 else if (decide (minor=0) && !td)=true then (false,400)
 else if cod=false then (false,if ti=true then 0 else 501)
 else if (decide (0<ncl) && !tw)=true then (false,if lw=true then 0 else 400)
 else (true,0)
def fixedV (r:Int × Int):Int × Int × Int:=if r.2=0 then (1,r.1,0) else (0,0,r.2)
def bodyV (hs:Int) (ch:Bool) (wins:Bool × Int) (len:Int × Int):Int × Int × Int:=
 if hs≠0 then (0,0,hs) else if wins.2≠0 then (0,0,wins.2)
 else if wins.1=true then (if ch=true then (2,0,0) else (0,0,501)) else fixedV len
structure Cl where
 nh:Bool
 mh:Bool
 tb:Bool
 tl:Bool
 ti:Bool
 td:Bool
 tw:Bool
 lw:Bool
 lp:Bool
 lc:Bool
 lf:Bool
 ll:Bool
def clOf (p:Nat):Cl:=⟨Qk.has p 15,Qk.has p 16,Qk.has p 17,Qk.has p 18,Qk.has p 19,Qk.has p 20,Qk.has p 21,Qk.has p 22,Qk.has p 23,Qk.has p 24,Qk.has p 25,Qk.has p 26⟩
def decideV (c:Cl) (ch:Bool) (body minor:Int) (fs:List Fld):Int × Int × Int:=
 bodyV (hostsV c.nh c.mh minor (find fs hostN)) ch (winsV c.td c.ti c.tw c.lw minor (find fs teN).length (find fs clN).length (coding c.tb c.tl (find fs teN)))
  (lengthV c.lp c.lc c.lf c.ll body (find fs clN))
theorem only_count:∀bs:List Bool,(decide (bs.countP id=1)&&bs.getLastD false)=onlyLast bs
 | []=>rfl
 | [b]=>by cases b<;>rfl
 | b::c::r=>by
   have ih:=only_count (c::r);have hl:(b::c::r).getLastD false=(c::r).getLastD false:=by rw [List.getLastD_cons,List.getLastD_cons,List.getLastD_cons]
   rw [hl];cases b with
   | false=>
     rw [List.countP_cons_of_neg (by decide),ih];rfl
   | true=>
     rw [List.countP_cons_of_pos (by rfl)];show _=false;by_cases h:(c::r).countP id=0
     ·have h0:=List.countP_eq_zero.1 h;have hm:(c::r).getLastD false=false:=by
       rw [List.getLastD_eq_getLast?,List.getLast?_eq_some_getLast (List.cons_ne_nil c r)]
       have:=h0 _ (List.getLast_mem (List.cons_ne_nil c r));simpa using this
      rw [hm,Bool.and_false]
     ·rw [decide_eq_false (by omega),Bool.false_and]
theorem list_mem_size (vs:List ByteArray) (x:ByteArray) (hx:x∈list vs):x.size≤room vs:=by
 unfold list at hx;obtain ⟨v,hv,hx⟩:=List.mem_flatMap.1 hx;unfold partsOf at hx;obtain ⟨l,hl,rfl⟩:=List.mem_map.1 hx
 have h1:=trim_size Txt.blank (ba l);have h2:=parts_size 44 v.data.toList l hl;have h3:=room_mem vs v hv;rw [ba_size] at h1;rw [len] at h2;show (trimB Txt.blank (ba l)).size≤_;omega
theorem list_ne_nil (vs:List ByteArray) (h:vs≠ []):0<(list vs).length:=by
 cases vs with
 | nil=>exact absurd rfl h
 | cons v r=>
   have:(list (v::r)).length=(partsOf v).length+(list r).length:=by simp [list]
   have h2:0<(partsOf v).length:=by unfold partsOf;rw [List.length_map,parts_length];omega
   omega
theorem lower_chunked (x:ByteArray):decide (lower x=chunked)=same x chunked:=by
 have h:=same_iff x chunked;rw [show lower chunked=chunked by decide +kernel] at h;cases hs:same x chunked with
 | true=>exact decide_eq_true (h.1 hs)
 | false=>exact decide_eq_false fun e=>by rw [h.2 e] at hs;cases hs
theorem find_sizes (fs:List Fld) (name:ByteArray) (B:Nat) (h:∀f∈fs,f.2.size≤B):∀v∈find fs name,v.size≤B:=by intro v hv;unfold find at hv;obtain ⟨f,hf,rfl⟩:=List.mem_map.1 hv;exact h f (List.mem_filter.1 hf).1
theorem room_le:∀(vs:List ByteArray) (B:Nat),(∀v∈vs,v.size≤B)→room vs≤vs.length*(B+1)
 | [],_,_=>Nat.zero_le _
 | v::r,B,h=>by
   have ih:=room_le r B fun x hx=>h x (List.mem_cons_of_mem _ hx)
   have h1:=h v (List.mem_cons_self ..);have:room (v::r)=v.size+1+room r:=by simp [room]
   rw [this,List.length_cons,Nat.succ_mul];omega
end Go.Proofs.YtimoakmcelocfaaGreat.Frm
namespace Go.Proofs.YtimoakmcelocfaaGreat.Frm
open Go.RowKit Base Txt
structure Gb (w:World) (g:Nat) (k l:Int):Prop where
 c0:w.cell? ⟨g,0,none⟩=some (.int .i64 k)
 c1:w.cell? ⟨g,1,none⟩=some (.int .i64 l)
 z0:w.frozen? ⟨g,0,none⟩=false
 z1:w.frozen? ⟨g,1,none⟩=false
theorem Gb.new (w:World) (t:TypeId) (k l:Int):Gb (w.alloc (.cells #[.int .i64 k,.int .i64 l] t)) w.heap.size k l:=by
 have hh:=heap_alloc_new w (.cells #[.int .i64 k,.int .i64 l] t);have c:∀j u,(#[Value.int .i64 k,.int .i64 l]:Array Value)[j]?=some u→(w.alloc (.cells #[.int .i64 k,.int .i64 l] t)).cell? ⟨w.heap.size,j,none⟩=some u:=
  fun j u e=>(cell_of_row (w.alloc _) w.heap.size j _ t (0,0) hh).trans e
 have z:∀j,(w.alloc (.cells #[.int .i64 k,.int .i64 l] t)).frozen? ⟨w.heap.size,j,none⟩=false:=fun j=>by unfold World.frozen?;simp only [hh];simp
 exact ⟨c 0 _ rfl,c 1 _ rfl,z 0,z 1⟩
theorem Gb.below {w w':World} {g:Nat} {k l:Int} (h:Gb w g k l) (hg:g<w.heap.size) (hb:Below w.heap.size w w'):Gb w' g k l:=
 ⟨(hb.cell (p:=⟨g,0,none⟩) hg).trans h.c0,(hb.cell (p:=⟨g,1,none⟩) hg).trans h.c1,(hb.frozen (p:=⟨g,0,none⟩) hg).trans h.z0,(hb.frozen (p:=⟨g,1,none⟩) hg).trans h.z1⟩
theorem Gb.put {B:Nat} {w0 w:World} {g:Nat} {k l:Int} (H:Gb w g k l) (hb:Below B w0 w) (hg:B≤g) (k' l':Int) :
 ∃W,(w.setCell ⟨g,0,none⟩ (.int .i64 k')).setCell ⟨g,1,none⟩ (.int .i64 l')=W∧Gb W g k' l'∧Below B w0 W:=by
 obtain ⟨c0,c1,z0,z1⟩:=H;refine ⟨_,rfl,⟨?_,?_,?_,?_⟩,(hb.setCell hg _).setCell hg _⟩;all_goals go_simp
abbrev fr (k l:Int):Value:=.agg #[.int .i64 k,.int .i64 l]
section code
set_option maxHeartbeats 2000000
attribute [local go_sem] Base.some_undef
end code
end Go.Proofs.YtimoakmcelocfaaGreat.Frm
namespace Go.Proofs.YtimoakmcelocfaaGreat.Frm
open Go.RowKit Base Txt
theorem take_all_snoc {α:Type} (P:α→Bool) (d:α) (l:List α) (k:Nat) (h:k<l.length):(l.take (k+1)).all P=((l.take k).all P&&P (l[k]?.getD d)):=by rw [List.take_succ_eq_append_getElem h,List.all_append,List.getElem?_eq_getElem h];simp
theorem all_of_miss {α:Type} (P:α→Bool) (d:α) (l:List α) (k:Nat) (h:k<l.length) (hp:P (l[k]?.getD d)=false):l.all P=false:=by rw [List.getElem?_eq_getElem h] at hp;exact List.all_eq_false.2 ⟨_,List.getElem_mem h,by simpa using hp⟩
theorem hosts_none (nh mh:Bool):hostsV nh mh 1 []=if nh=true then 0 else 400:=by cases nh<;>cases mh<;>rfl
theorem hosts_loop (nh mh:Bool) (minor:Int) (h:List ByteArray) (h1:¬(minor=1∧h.length=0)) (h2:h.length≤1∨mh=true):hostsV nh mh minor h=if (h.all fun v=>Tgt.hostB v.data.toList)=true then 0 else 400:=by
 unfold hostsV;rw [if_neg];simp only [Bool.or_eq_true,Bool.and_eq_true,decide_eq_true_eq,Bool.not_eq_true']
 rintro (⟨a,b,_⟩ | ⟨a,b⟩)
 ·exact h1 ⟨a,b⟩
 ·rcases h2 with h2 | h2
  ·omega
  ·rw [h2] at b;cases b
theorem hosts_many (nh:Bool) (minor:Int) (h:List ByteArray) (h2:1<h.length):hostsV nh false minor h=400:=by unfold hostsV;rw [if_pos];rw [decide_eq_true h2];simp
theorem counts_mem (lc lf ll:Bool) (l:List ByteArray) (s:ByteArray) (h:counts lc lf ll l=some s) (hl:l≠ []):s∈l:=by
 unfold counts at h;have hd:l.headD ByteArray.empty∈l:=by
  cases l with
  | nil=>exact absurd rfl hl
  | cons x r=>exact List.mem_cons_self ..
 have hz:l.getLastD ByteArray.empty∈l:=by rw [List.getLastD_eq_getLast?,List.getLast?_eq_some_getLast hl];exact List.getLast_mem hl
 split at h
 ·cases h;exact hd
 ·split at h
  ·cases h;exact hz
  ·cases h
def ansC:Option ByteArray→Value
 | none=>.tuple #[.string ByteArray.empty,.bool false]
 | some s=>.tuple #[.string s,.bool true]
theorem unplus_size (lp:Bool) (s:ByteArray):(unplus lp s).size≤s.size:=by
 unfold unplus;split
 ·rw [ba_size,List.length_drop,len];omega
 ·exact Nat.le_refl _
section code
set_option maxHeartbeats 4000000
set_option maxRecDepth 10000
attribute [local go_sem] Base.some_undef
end code
end Go.Proofs.YtimoakmcelocfaaGreat.Frm
namespace Go.Proofs.YtimoakmcelocfaaGreat.Frm
open Go.RowKit Base Txt
theorem strs_ends {w:World} {a:Option Addr} {K:Nat} {l:List ByteArray} (h:Strs w a (K+1) l) :
 ∃bl off,a=some ⟨bl,off,none⟩∧w.cell? ⟨bl,off,none⟩=some (.string (l.headD ByteArray.empty))∧w.cell? ⟨bl,off+K,none⟩=some (.string (l.getLastD ByteArray.empty)):=by
 obtain ⟨bl,off,rfl,_,hc⟩:=h.2 (by omega)
 have h0:=hc 0 (by omega)
 have hK:=hc K (by omega);rw [Nat.add_zero] at h0;have hl:=h.1;refine ⟨bl,off,rfl,?_,?_⟩
 ·rw [h0];cases l<;>rfl
 ·rw [hK,List.getLastD_eq_getLast?,List.getLast?_eq_getElem?,hl];rfl
structure Kp (w0:World) (ch:Bool) (body:Int) (w:World):Prop where
 q3:w.cell? ⟨w0.heap.size,3,none⟩=some (.int .i64 body)
 q8:w.cell? ⟨w0.heap.size,8,none⟩=some (.bool ch)
 f:Gb w (w0.heap.size+1) 0 0
 lt:w0.heap.size+1<w.heap.size
 b:Below w0.heap.size w0 w
theorem Kp.new (w:World) (t t2:TypeId) (x0 x1 x2 x3 x4 x5 x6 x7:Int) (c d:Bool) :
 Kp w c x3 ((w.alloc (.cells #[.int .i64 x0,.int .i64 x1,.int .i64 x2,.int .i64 x3,.int .i64 x4,.int .i64 x5,.int .i64 x6,.int .i64 x7,.bool c,.bool d] t)).alloc (.cells #[.int .i64 0,.int .i64 0] t2)):=by
 have hA:=Bnd.At.new w t x0 x1 x2 x3 x4 x5 x6 x7 c d;have hb:Below (w.alloc (.cells #[.int .i64 x0,.int .i64 x1,.int .i64 x2,.int .i64 x3,.int .i64 x4,.int .i64 x5,.int .i64 x6,.int .i64 x7,.bool c,.bool d] t)).heap.size _ _:=
  (Below.refl _ _).alloc (Nat.le_refl _) (.cells #[.int .i64 0,.int .i64 0] t2)
 have hB:=hA.below (by simp) hb;have hG:=Gb.new (w.alloc (.cells #[.int .i64 x0,.int .i64 x1,.int .i64 x2,.int .i64 x3,.int .i64 x4,.int .i64 x5,.int .i64 x6,.int .i64 x7,.bool c,.bool d] t)) t2 0 0;rw [show (w.alloc (.cells #[.int .i64 x0,.int .i64 x1,.int .i64 x2,.int .i64 x3,.int .i64 x4,.int .i64 x5,.int .i64 x6,.int .i64 x7,.bool c,.bool d] t)).heap.size=w.heap.size+1 by simp] at hG;exact ⟨hB.q3,hB.q8,hG,by simp,((Below.refl _ _).alloc (Nat.le_refl _) _).alloc (by simp) _⟩
theorem Kp.step {w0 w w':World} {ch:Bool} {body:Int} (h:Kp w0 ch body w) (hb:Below w.heap.size w w'):Kp w0 ch body w':=
 ⟨(hb.cell (p:=⟨w0.heap.size,3,none⟩) (by have:=h.lt;simp;omega)).trans h.q3,(hb.cell (p:=⟨w0.heap.size,8,none⟩) (by have:=h.lt;simp;omega)).trans h.q8,
  h.f.below h.lt hb,Nat.lt_of_lt_of_le h.lt hb.size,Base.below_step h.b hb⟩
section code
set_option maxHeartbeats 4000000
set_option maxRecDepth 10000
attribute [local go_sem] Base.some_undef
end code
end Go.Proofs.YtimoakmcelocfaaGreat.Frm
namespace Go.Proofs.YtimoakmcelocfaaGreat.Frm
open Go.RowKit Base Txt
section code
set_option maxHeartbeats 4000000
set_option maxRecDepth 10000
attribute [local go_sem] Base.some_undef
end code
end Go.Proofs.YtimoakmcelocfaaGreat.Frm
namespace Go.Proofs.YtimoakmcelocfaaGreat.Chk
open Go.RowKit Base Txt
def extL (l:List UInt8):List UInt8:=if (Tgt.cutAt 59 l).2.2=true then 59::(Tgt.cutAt 59 l).2.1 else []
def marked (l:List UInt8):Bool:=decide (2≤l.length)&&same (ba (l.take 2)) ⟨#[48,120]⟩
def bare (l:List UInt8):List UInt8:=if marked l=true then l.drop 2 else l
def pieceL (hex blanks:Bool) (z:List UInt8):List UInt8:=if hex=true then bare (if blanks=true then trimL Txt.blank z else z) else (if blanks=true then trimL Txt.blank z else z)
def sizeL (hex blanks:Bool) (l:List UInt8):List UInt8:=pieceL hex blanks (Tgt.cutAt 59 l).1
def numV (r:Int × Int):Int × Int:=if r.2=22 then (0,400) else if r.2=23 then (0,413) else (r.1,0)
def isx (ext:Int) (l:List UInt8):Bool:=l.isEmpty|| (decide ((l.length:Int)≤ext)&&Oct.allOf [6] l)
def sizeV (hex blanks:Bool) (ext body:Int) (l:List UInt8):Int × Int:=
 if isx ext (extL l)=true then numV (Num.readOf 16 body (sizeL hex blanks l)) else (0,400)
def chunkL (c:List UInt8):List UInt8:=if c= [] then [] else Num.spell 16 c.length ++ [13,10]++c ++ [13,10]
def putL (cs:List (List UInt8)):List UInt8:=cs.flatMap chunkL ++ [48,13,10]
theorem ext_split (l:List UInt8):l=(Tgt.cutAt 59 l).1++extL l:=by
 unfold extL;rcases Tgt.cut_cases 59 l with h | ⟨a,r,h,hn⟩
 ·rw [Tgt.cutAt_none 59 l h];simp
 ·rw [h,Tgt.cutAt_app 59 a r hn];simp
theorem ext_le (l:List UInt8):(extL l).length≤l.length∧(Tgt.cutAt 59 l).1.length≤l.length:=by have h:=congrArg List.length (ext_split l);rw [List.length_append] at h;omega
theorem isx_eq (ext:Int) (h:0≤ext) (l:List UInt8):isx ext l= !(decide (ext<(l.length:Int)) || !Oct.allOf [6] l):=by
 unfold isx;cases l with
 | nil=>simp [Oct.allOf,h]
 | cons a t=>
   rw [List.isEmpty_cons,Bool.false_or,Bool.not_or,Bool.not_not]
   congr 1
   rw [Bool.eq_iff_iff];simp
theorem trimL_le (p:UInt8→Bool) (l:List UInt8):(trimL p l).length≤l.length:=by unfold trimL;rw [List.length_reverse];have h1:=(List.dropWhile_sublist p (l:=(l.dropWhile p).reverse)).length_le;have h2:=(List.dropWhile_sublist p (l:=l)).length_le;rw [List.length_reverse] at h1;omega
theorem bare_le (l:List UInt8):(bare l).length≤l.length:=by
 unfold bare;split
 ·rw [List.length_drop];omega
 ·exact Nat.le_refl _
theorem piece_le (hex blanks:Bool) (l:List UInt8):(pieceL hex blanks l).length≤l.length:=by
 have h1:=trimL_le Txt.blank l
 have h2:=bare_le (trimL Txt.blank l);have h3:=bare_le l;cases hex<;>cases blanks<;>simp only [pieceL,if_true,if_false,Bool.false_eq_true]<;>omega
structure BB (x0 x1 x2 x3 x4 x5 x6 x7:Int) (ch od:Bool) (w0:World) (g:Nat) (w:World):Prop where
 f:Bnd.At w g x0 x1 x2 x3 x4 x5 x6 x7 ch od
 lt:g<w.heap.size
 b:Below w0.heap.size w0 w
section
variable {x0 x1 x2 x3 x4 x5 x6 x7:Int} {ch od:Bool} {w0 w w':World} {g:Nat}
theorem BB.new (hb:Below w0.heap.size w0 w) (t:TypeId) (x0 x1 x2 x3 x4 x5 x6 x7:Int) (ch od:Bool) :
 BB x0 x1 x2 x3 x4 x5 x6 x7 ch od w0 w.heap.size (w.alloc (.cells #[.int .i64 x0,.int .i64 x1,.int .i64 x2,.int .i64 x3,.int .i64 x4,.int .i64 x5,.int .i64 x6,.int .i64 x7,.bool ch,.bool od] t)):=
 ⟨Bnd.At.new w t x0 x1 x2 x3 x4 x5 x6 x7 ch od,by simp,hb.alloc hb.size _⟩
theorem BB.step (h:BB x0 x1 x2 x3 x4 x5 x6 x7 ch od w0 g w) (hb:Below w.heap.size w w'):BB x0 x1 x2 x3 x4 x5 x6 x7 ch od w0 g w':=
 ⟨h.f.below h.lt hb,Nat.lt_of_lt_of_le h.lt hb.size,Base.below_step h.b hb⟩
theorem BB.alloc (h:BB x0 x1 x2 x3 x4 x5 x6 x7 ch od w0 g w) (o:Obj):BB x0 x1 x2 x3 x4 x5 x6 x7 ch od w0 g (w.alloc o):=h.step ((Below.refl _ _).alloc (Nat.le_refl _) _)
theorem BB.drew (h:BB x0 x1 x2 x3 x4 x5 x6 x7 ch od w0 g w) (m:Nat):BB x0 x1 x2 x3 x4 x5 x6 x7 ch od w0 g (w.drewN m):=h.step (Base.below_drewN (Below.refl _ _) m)
end
end Go.Proofs.YtimoakmcelocfaaGreat.Chk
namespace Go.Proofs.YtimoakmcelocfaaGreat.Chk
open Go.RowKit Base Txt
section code
set_option maxHeartbeats 8000000
set_option maxRecDepth 100000
attribute [local go_sem] Base.some_undef
end code
end Go.Proofs.YtimoakmcelocfaaGreat.Chk
namespace Go.Proofs.YtimoakmcelocfaaGreat.Chk
open Go.RowKit Base Txt
abbrev byteV (c:UInt8):Value:=.int .u8 (c.toNat:Int)
def vals (l:List UInt8):List Value:=l.map byteV
def bodyL (ls:List (List UInt8)) (k:Nat):List UInt8:=(ls.take k).flatMap chunkL
section code
set_option maxHeartbeats 8000000
set_option maxRecDepth 100000
attribute [local go_sem] Base.some_undef
end code
end Go.Proofs.YtimoakmcelocfaaGreat.Chk
namespace Go.Proofs.YtimoakmcelocfaaGreat.Ln
open Go.RowKit Base
def ended (x:Int):Bool:=x==1||x==2
def failed (x:Int):Bool:=x==3||x==4
theorem f0:failed 0=false:=rfl
theorem f1:failed 1=false:=rfl
theorem f2:failed 2=false:=rfl
theorem f3:failed 3=true:=rfl
theorem f4:failed 4=true:=rfl
theorem d0:ended 0=false:=rfl
theorem d1:ended 1=true:=rfl
theorem d2:ended 2=true:=rfl
theorem d3:ended 3=false:=rfl
theorem d4:ended 4=false:=rfl
structure M where
 lf:Bool
 cr:Bool
 most:Nat
 buf:List UInt8
 last:Int
 pend:Bool
structure M.Ok (m:M):Prop where
 last:m.last=0∨m.last=1∨m.last=2∨m.last=3∨m.last=4
 most:m.most≤4096
 len:m.buf.length≤m.most
 pend:m.pend=true→m.last=0
def M.line (m:M):List UInt8:=if ended m.last then m.buf else []
def M.len (m:M):Nat:=if ended m.last then 0 else m.buf.length
def M.clear (m:M):M:={m with buf:=if ended m.last then [] else m.buf}
def M.next (m:M) (c:UInt8):Int:=
 if failed m.last then 3 else if m.pend then (if c=10 then 1 else if m.cr then 2 else 3) else if c=10 then (if m.lf then 1 else 3) else if c=13 then 0 else if m.buf.length=m.most then 4 else 0
def M.keeps (m:M) (c:UInt8):Bool:=if failed m.last then false else if m.pend then false else if c=10 then false else if c=13 then false else if m.buf.length=m.most then false else true
def M.told (m:M) (c:UInt8):M:={m with buf:=m.buf++(if m.keeps c then [c] else [])}
def M.byte (m:M) (c:UInt8):M:={m.clear.told c with last:=m.clear.next c,pend:=m.clear.next c==0&&c==13}
theorem M.Ok.clear {m:M} (h:m.Ok):m.clear.Ok:=by
 obtain ⟨h1,h2,h3,h4⟩:=h;refine ⟨h1,h2,?_,h4⟩;show (if ended m.last then [] else m.buf).length≤m.most;split
 ·exact Nat.zero_le _
 ·exact h3
theorem M.next_is (m:M) (c:UInt8):m.next c=0∨m.next c=1∨m.next c=2∨m.next c=3∨m.next c=4:=by
 unfold M.next
 repeat' split
 all_goals simp
theorem M.Ok.told {m:M} (h:m.Ok) (c:UInt8):(m.told c).buf.length≤m.most:=by
 have h3:=h.len;show (m.buf++(if m.keeps c then [c] else [])).length≤m.most;by_cases hk:m.keeps c=true
 ·rw [if_pos hk,List.length_append];unfold M.keeps at hk
  repeat' split at hk
  all_goals first |(exact absurd hk (by decide)) |(rw [List.length_singleton];omega)
 ·rw [if_neg hk,List.append_nil];exact h3
theorem M.Ok.byte {m:M} (h:m.Ok) (c:UInt8):(m.byte c).Ok:=by refine ⟨M.next_is _ c,h.most,h.clear.told c,fun hp=>?_⟩;have:(m.clear.next c==0&&c==13)=true:=hp;simp only [Bool.and_eq_true,beq_iff_eq] at this;exact this.1
def M.new (lf cr:Bool) (most:Nat):M:=⟨lf,cr,most,[],0,false⟩
theorem M.new_ok (lf cr:Bool) (most:Nat) (h:most≤4096):(M.new lf cr most).Ok:=⟨.inl rfl,h,Nat.zero_le _,fun h=>by cases h⟩
structure R where
 lf:Bool
 cr:Bool
 most:Nat
 B:List UInt8
 CR:Bool
 L:List UInt8
 over:Bool
 dead:Bool
def R.start (q:R):R:={q with L:= [],over:=false}
def R.fin (q:R):R:={q with L:=q.B,B:= [],CR:=false,over:=true}
def R.die (q:R):R:={q with dead:=true}
def R.how (q:R) (c:UInt8):Int:=
 if q.dead then 3 else if q.CR&&c==10 then 1 else if q.CR&&q.cr then 2 else if q.CR then 3 else if c==10&&q.lf then 1 else if c==10 then 3 else if c==13 then 0 else if q.most≤q.B.length then 4 else 0
def R.byte (q:R) (c:UInt8):R:=
 if q.dead then q else if q.CR&&c==10 then q.start.fin else if q.CR&&q.cr then q.start.fin else if q.CR then q.start.die else if c==10&&q.lf then q.start.fin else if c==10 then q.start.die
 else if c==13 then {q.start with CR:=true} else if q.most≤q.B.length then q.start.die else {q.start with B:=q.B ++ [c]}
def R.new (lf cr:Bool) (most:Nat):R:=⟨lf,cr,most,[],false,[],false,false⟩
structure Rel (m:M) (q:R):Prop where
 lf:q.lf=m.lf
 cr:q.cr=m.cr
 most:q.most=m.most
 dead:q.dead=failed m.last
 L:q.L=m.line
 CR:failed m.last=false→q.CR=m.pend
 B:failed m.last=false→q.B=if ended m.last then [] else m.buf
theorem step_how {m:M} {q:R} (h:Rel m q) (hm:m.Ok) (c:UInt8):q.how c=m.clear.next c:=by
 obtain ⟨lf,cr,most,B,CR,L,over,dead⟩:=q;obtain ⟨h1,h2,h3,h4,h5,h6,h7⟩:=h;have hl:=hm.clear.len;simp only at h1 h2 h3 h4 h5 h6 h7;subst h1 h2 h3;unfold R.how M.next;simp only;have e1:m.clear.last=m.last:=rfl;have e2:m.clear.pend=m.pend:=rfl;have e3:m.clear.cr=m.cr:=rfl;have e4:m.clear.lf=m.lf:=rfl;have e5:m.clear.most=m.most:=rfl;rw [e1,e2,e3,e4,e5];rw [e5] at hl;cases hf:failed m.last with
 | true=>rw [h4,hf];simp
 | false=>
   have h8:B=m.clear.buf:=h7 hf;have h9:=h6 hf;subst h8 h9;rw [h4,hf];by_cases c10:c=10
   ·subst c10;cases m.pend<;>cases m.lf<;>cases m.cr<;>simp
   ·by_cases c13:c=13
    ·subst c13;cases m.pend<;>cases m.lf<;>cases m.cr<;>simp
    ·by_cases hq:m.clear.buf.length=m.most
     ·cases m.pend<;>cases m.cr<;>simp [c10,c13,hq]
     ·have:¬m.most≤m.clear.buf.length:=by omega
      cases m.pend<;>cases m.cr<;>simp [c10,c13,hq,this]
theorem step_rel {m:M} {q:R} (h:Rel m q) (hm:m.Ok) (c:UInt8):Rel (m.byte c) (q.byte c):=by
 obtain ⟨lf,cr,most,B,CR,L,over,dead⟩:=q;obtain ⟨h1,h2,h3,h4,h5,h6,h7⟩:=h;have hl:=hm.clear.len;have hp:=hm.pend;simp only at h1 h2 h3 h4 h5 h6 h7;subst h1 h2 h3 h5 h4;have e1:m.clear.last=m.last:=rfl;have e2:m.clear.pend=m.pend:=rfl;have e3:m.clear.cr=m.cr:=rfl;have e4:m.clear.lf=m.lf:=rfl;have e5:m.clear.most=m.most:=rfl;have e6:(m.byte c).last=m.clear.next c:=rfl;have e7:(m.byte c).buf=m.clear.buf++(if m.clear.keeps c then [c] else []):=rfl;have e8:(m.byte c).pend=(m.clear.next c==0&&c==13):=rfl;have e9:(m.byte c).lf=m.lf:=rfl;have e10:(m.byte c).cr=m.cr:=rfl;have e11:(m.byte c).most=m.most:=rfl;rw [e5] at hl;have key:∀(q':R),q'.lf=m.lf→q'.cr=m.cr→q'.most=m.most→q'.dead=failed (m.clear.next c)→(q'.L=if ended (m.clear.next c) then m.clear.buf++(if m.clear.keeps c then [c] else []) else [])→
  (failed (m.clear.next c)=false→q'.CR=(m.clear.next c==0&&c==13))→(failed (m.clear.next c)=false→q'.B=if ended (m.clear.next c) then [] else m.clear.buf++(if m.clear.keeps c then [c] else []))→Rel (m.byte c) q':=by
  intro q' a1 a2 a3 a4 a5 a6 a7;refine ⟨a1,a2,a3,by rw [e6];exact a4,?_,by rw [e6,e8];exact a6,by rw [e6,e7];exact a7⟩;rw [a5,M.line,e6,e7]
 unfold R.byte;simp only;cases hf:failed m.last with
 | true=>
   rw [if_pos rfl];have en:m.clear.next c=3:=by unfold M.next;rw [e1,hf,if_pos rfl]
   refine key _ rfl rfl rfl ?_ ?_ ?_ ?_
   ·rw [en];rfl
   ·rw [en];show m.line= _;have:ended m.last=false:=by
     unfold failed at hf;unfold ended;rcases hm.last with e | e | e | e | e<;>rw [e] at hf ⊢<;>first | rfl | cases hf
    rw [M.line,this];rfl
   ·rw [en];intro h;cases h
   ·rw [en];intro h;cases h
 | false=>
   have h8:B=m.clear.buf:=h7 hf;have h9:=h6 hf;subst h8 h9;rw [if_neg (by decide)];by_cases c10:c=10
   ·subst c10;cases hpe:m.pend<;>cases hlf:m.lf<;>cases hcr:m.cr<;>refine key _ ?_ ?_ ?_ ?_ ?_ ?_ ?_<;>simp [M.next,M.keeps,R.fin,R.die,R.start,e1,e2,e4,hf,hpe,hlf,hcr,f1,f3,d1,d3]<;>try rfl
   ·by_cases c13:c=13
    ·subst c13;cases hpe:m.pend<;>cases hlf:m.lf<;>cases hcr:m.cr<;>refine key _ ?_ ?_ ?_ ?_ ?_ ?_ ?_<;>simp [M.next,M.keeps,R.fin,R.die,R.start,e1,e2,e3,hf,hpe,hlf,hcr,f0,f2,f3,d0,d2,d3]<;>try rfl
    ·by_cases hq:m.clear.buf.length=m.most
     ·cases hpe:m.pend<;>cases hcr:m.cr<;>refine key _ ?_ ?_ ?_ ?_ ?_ ?_ ?_<;>simp [M.next,M.keeps,R.fin,R.die,R.start,e1,e2,e3,e5,hf,hpe,hcr,f2,f3,f4,d2,d3,d4,c10,c13,hq]<;>try rfl
     ·have:¬m.most≤m.clear.buf.length:=by omega
      cases hpe:m.pend<;>cases hcr:m.cr<;>refine key _ ?_ ?_ ?_ ?_ ?_ ?_ ?_<;>simp [M.next,M.keeps,R.fin,R.die,R.start,e1,e2,e3,e5,hf,hpe,hcr,f0,f2,f3,d0,d2,d3,c10,c13,hq,this]<;>try rfl
end Go.Proofs.YtimoakmcelocfaaGreat.Ln
namespace Go.Proofs.YtimoakmcelocfaaGreat.Ln
open Go.RowKit Base
section memory
variable {w w' w'':World} {g k B:Nat} {cs:Array Value} {ty:TypeId} {o o':Option Nat}
theorem row_lt (h:w.heap[g]?=some (.cells cs ty (0,0))):g<w.heap.size:=(Array.getElem?_eq_some_iff.1 h).1
theorem row_cell (h:w.heap[g]?=some (.cells cs ty (0,0))) {v:Value} (hk:cs[k]?=some v):w.cell? ⟨g,k,none⟩=some v:=(cell_of_row w g k cs ty (0,0) h).trans hk
theorem row_frozen (h:w.heap[g]?=some (.cells cs ty (0,0))) (k:Nat):w.frozen? ⟨g,k,none⟩=false:=by simp [World.frozen?,h]
theorem row_set (h:w.heap[g]?=some (.cells cs ty (0,0))) (k:Nat) (v:Value):(w.setCell ⟨g,k,none⟩ v).heap[g]?=some (.cells (cs.setIfInBounds k v) ty (0,0)):=by simp [World.setCell,Array.getElem?_modify,h]
structure Kept (g:Nat) (o:Option Nat) (w w':World):Prop where
 os:w'.os=w.os
 tape:w'.tape=w.tape
 output:w'.output=w.output
 size:w.heap.size≤w'.heap.size
 block:∀k,k<w.heap.size→k≠g→some k≠o→w'.heap[k]?=w.heap[k]?
theorem Kept.refl (g:Nat) (o:Option Nat) (w:World):Kept g o w w:=⟨rfl,rfl,rfl,Nat.le_refl _,fun _ _ _ _=>rfl⟩
def Moved (w:World) (o o':Option Nat):Prop:=o'=o∨o'=none∨∃k,o'=some k∧w.heap.size≤k
theorem Moved.refl (w:World) (o:Option Nat):Moved w o o:=.inl rfl
theorem Kept.trans (h:Kept g o w w') (h':Kept g o' w' w'') (hm:Moved w o o'):Kept g o w w'':=by
 refine ⟨h'.os.trans h.os,h'.tape.trans h.tape,h'.output.trans h.output,Nat.le_trans h.size h'.size,fun k hk h1 h2=>?_⟩
 refine (h'.block k (Nat.lt_of_lt_of_le hk h.size) h1 ?_).trans (h.block k hk h1 h2);rcases hm with rfl | rfl | ⟨j,rfl,hj⟩
 ·exact h2
 ·exact fun e=>by cases e
 ·intro e;have:k=j:=by simpa using e
  omega
theorem Kept.set (g:Nat) (o:Option Nat) (w:World) (k:Nat) (v:Value):Kept g o w (w.setCell ⟨g,k,none⟩ v):=⟨rfl,rfl,rfl,by simp,fun j _ h1 _=>Below.heap_setCell _ _ _ _ h1⟩
theorem Kept.grown (hg:w.grownBy w' o) (g:Nat):Kept g o w w':=⟨hg.os,hg.tape,hg.output,hg.size,fun k hk _ h2=>hg.block k hk h2⟩
theorem Kept.of_below (hb:Below w.heap.size w w') (g:Nat) (o:Option Nat):Kept g o w w':=⟨hb.os,hb.tape,hb.output,hb.size,fun k hk _ _=>hb.block k hk⟩
theorem Kept.own (h:Kept g o w w') {e:TypeId} {size:Nat} {v:Value} {n:Nat} {xs:List Value} (hv:w.ownsRow B e size v n xs) (h1:v.ownBlock≠some g) (h2:v.ownBlock=none∨v.ownBlock≠o):w'.ownsRow B e size v n xs:=by
 refine ⟨hv.1,?_⟩;rcases hv.2 with hn | ⟨b,cap,cur,rfl,hb,hgg,rest⟩
 ·exact .inl hn
 ·refine .inr ⟨b,cap,cur,rfl,hb,?_,rest⟩;rw [h.block b (row_lt hgg) (by simpa [Value.ownBlock] using h1) (by simpa [Value.ownBlock] using h2)];exact hgg
theorem own_set {e:TypeId} {size:Nat} {v:Value} {n:Nat} {xs:List Value} (hv:w.ownsRow B e size v n xs) (h1:v.ownBlock≠some g) (k:Nat) (u:Value):(w.setCell ⟨g,k,none⟩ u).ownsRow B e size v n xs:=
 (Kept.set g none w k u).own hv h1 (by cases v.ownBlock<;>simp)
theorem own_slice {e:TypeId} {size:Nat} {v:Value} {n:Nat} {xs:List Value} (hv:w.ownsRow B e size v n xs):∃b cap,v=.slice b n cap∧n≤cap∧cap≤maxLen∧(b=none∧n=0∧cap=0∨∃j,b=some ⟨j,0,none⟩):=by
 rcases hv.2 with ⟨rfl,rfl⟩ | ⟨b',cap',cur,rfl,hb,hg,hn,hc,hs,ht⟩
 ·exact ⟨none,0,rfl,Nat.le_refl _,Nat.zero_le _,.inl ⟨rfl,rfl,rfl⟩⟩
 ·exact ⟨_,cap',rfl,hn,hc,.inr ⟨b',rfl⟩⟩
end memory
def vals (l:List UInt8):List Value:=l.map fun b=>.int .u8 (b.toNat:Int)
theorem vals_app (a b:List UInt8):vals (a++b)=vals a++vals b:=List.map_append
abbrev ptr (g:Nat):Value:=.pointer (some ⟨g,0,none⟩)
abbrev byteV (c:UInt8):Value:=.int .u8 (c.toNat:Int)
abbrev ba (l:List UInt8):ByteArray:=⟨l.toArray⟩
abbrev cellsOf (m:M) (v:Value):Array Value:=#[.bool m.lf,.bool m.cr,.int .i64 (m.most:Int),v,.int .i64 m.last,.bool m.pend]
theorem conv_own {w:World} {B:Nat} {v:Value} {l:List UInt8} (h:w.ownsRow B 5 1 v l.length (vals l)):(convert 34 9 v).run Tryz.prog w=.ok (.string (ba l)) w:=by
 rcases h.2 with ⟨rfl,hn⟩ | ⟨b,cap,cur,rfl,hb,hg,_,_,_,ht⟩
 ·obtain rfl:l= []:=List.length_eq_zero_iff.1 hn;exact run_convert_bytes_nil w _ 5 Tryz.underlying34 Tryz.underlying5 0 0 _ Tryz.underlying9
 ·refine run_convert_bytes_back (P:=Tryz.prog) w 34 9 5 ⟨b,0,none⟩ cap l Tryz.underlying34 Tryz.underlying5 Tryz.underlying9 (fun j hj=>?_);refine h.cells (g:=b) rfl j _ ?_;rw [vals,List.getElem?_map,List.getElem?_eq_getElem hj];rfl
section code
set_option maxHeartbeats 1000000
set_option maxRecDepth 20000
attribute [local go_sem] Base.some_undef
variable {w:World} {g B:Nat} {m:M} {v:Value}
theorem ne10 {c:UInt8} (h:¬c=10):((c.toNat:Int)==10)=false:=by refine beq_eq_false_iff_ne.2 fun e=>h (UInt8.toNat_inj.1 ?_);show c.toNat=10;omega
theorem ne13 {c:UInt8} (h:¬c=13):((c.toNat:Int)==13)=false:=by refine beq_eq_false_iff_ne.2 fun e=>h (UInt8.toNat_inj.1 ?_);show c.toNat=13;omega
end code
end Go.Proofs.YtimoakmcelocfaaGreat.Ln
namespace Go.Proofs.YtimoakmcelocfaaGreat.Ln
open Go.RowKit Base
def mid (x:Int):Nat:=(min (max x 0) 4096).toNat
theorem mid_le (x:Int):mid x≤4096:=by unfold mid;omega
theorem mid_b (x:Int):((mid x:Nat):Int)=min (max x 0) 4096:=by unfold mid;omega
abbrev M.of (p:Nat) (most:Int):M:=M.new (Qk.has p 1) (Qk.has p 2) (mid most)
theorem byte_info:(Tryz.prog.info? 5).map (fun i=>(i.zero,i.size,i.bytes))=some (some (.int .u8 0),1,1):=by kernel_rfl
section code
set_option maxHeartbeats 2000000
set_option maxRecDepth 40000
attribute [local go_sem] Base.some_undef
end code
end Go.Proofs.YtimoakmcelocfaaGreat.Ln
namespace Go.Proofs.YtimoakmcelocfaaGreat.Ln
open Go.RowKit Base
abbrev rcells (p:Nat) (q:R) (v:Value):Array Value:=#[.int .u32 (p:Int),.int .i64 (q.most:Int),v,.bool q.CR,.string (ba q.L),.bool q.over,.bool q.dead]
structure Rr (w:World) (B g:Nat) (v:Value) (p:Nat) (q:R):Prop where
 row:w.heap[g]?=some (.cells (rcells p q v) 101 (0,0))
 own:w.ownsRow B 5 1 v q.B.length (vals q.B)
 ge:B≤g
 ne:v.ownBlock≠some g
theorem seven {w:World} {g:Nat} {v:Value} {p:Nat} {q:R} (h:w.heap[g]?=some (.cells (rcells p q v) 101 (0,0))) :
 w.cell? ⟨g,0,none⟩=some (.int .u32 (p:Int))∧w.cell? ⟨g,1,none⟩=some (.int .i64 (q.most:Int))∧w.cell? ⟨g,2,none⟩=some v∧w.cell? ⟨g,3,none⟩=some (.bool q.CR)∧w.cell? ⟨g,4,none⟩=some (.string (ba q.L))∧w.cell? ⟨g,5,none⟩=some (.bool q.over)∧w.cell? ⟨g,6,none⟩=some (.bool q.dead):=
 ⟨row_cell h rfl,row_cell h rfl,row_cell h rfl,row_cell h rfl,row_cell h rfl,row_cell h rfl,row_cell h rfl⟩
theorem start_rr {w:World} {B g:Nat} {v:Value} {p:Nat} {q:R} (h:Rr w B g v p q):Rr ((w.setCell ⟨g,4,none⟩ (.string ⟨#[]⟩)).setCell ⟨g,5,none⟩ (.bool false)) B g v p q.start:=
 ⟨(row_set (row_set h.row 4 _) 5 _).trans rfl,own_set (own_set h.own h.ne 4 _) h.ne 5 _,h.ge,h.ne⟩
theorem start_kept (w:World) (g:Nat) (o:Option Nat):Kept g o w ((w.setCell ⟨g,4,none⟩ (.string ⟨#[]⟩)).setCell ⟨g,5,none⟩ (.bool false)):=(Kept.set g o w 4 _).trans (Kept.set g o _ 5 _) (Moved.refl _ _)
theorem die_rr {w:World} {B g:Nat} {v:Value} {p:Nat} {q:R} (h:Rr w B g v p q):Rr (w.setCell ⟨g,6,none⟩ (.bool true)) B g v p q.die:=
 ⟨(row_set h.row 6 _).trans rfl,own_set h.own h.ne 6 _,h.ge,h.ne⟩
theorem cr_rr {w:World} {B g:Nat} {v:Value} {p:Nat} {q:R} (h:Rr w B g v p q):Rr (w.setCell ⟨g,3,none⟩ (.bool true)) B g v p {q with CR:=true}:=
 ⟨(row_set h.row 3 _).trans rfl,own_set h.own h.ne 3 _,h.ge,h.ne⟩
theorem fin_rr {w:World} {B g:Nat} {v:Value} {p:Nat} {q:R} (h:Rr w B g v p q) :
 Rr ((((w.setCell ⟨g,4,none⟩ (.string (ba q.B))).setCell ⟨g,2,none⟩ (.slice none 0 0)).setCell ⟨g,3,none⟩ (.bool false)).setCell ⟨g,5,none⟩ (.bool true)) B g (.slice none 0 0) p q.fin:=
 ⟨(row_set (row_set (row_set (row_set h.row 4 _) 2 _) 3 _) 5 _).trans rfl,⟨rfl,.inl ⟨rfl,rfl⟩⟩,h.ge,fun e=>by cases e⟩
theorem fin_kept (w:World) (g:Nat) (o:Option Nat) (s:Value):Kept g o w ((((w.setCell ⟨g,4,none⟩ s).setCell ⟨g,2,none⟩ (.slice none 0 0)).setCell ⟨g,3,none⟩ (.bool false)).setCell ⟨g,5,none⟩ (.bool true)):=
 (((Kept.set g o w 4 _).trans (Kept.set g o _ 2 _) (Moved.refl _ _)).trans (Kept.set g o _ 3 _) (Moved.refl _ _)).trans (Kept.set g o _ 5 _) (Moved.refl _ _)
section code
set_option maxHeartbeats 2000000
set_option maxRecDepth 40000
attribute [local go_sem] Base.some_undef
theorem rnew_any (p:Nat) (most:Int) (w:World):Calls Tryz.prog 55 #[.int .u32 p,.int .i64 most] w
 fun e w'=>e=.returned (ptr w.heap.size)∧w'=w.alloc (.cells (rcells p (R.new (Qk.has p 1) (Qk.has p 2) (mid most)) (.slice none 0 0)) 101):=by
 have HM:=Lib.hid (mid_b most);go_enter Tryz.func55,Tryz.ntmps55;go_wp2;go_ret;refine ⟨rfl,?_⟩;simp only [R.new,rcells,HM.out]
theorem rdie_any (x:Int) (w:World) (B g:Nat) (v:Value) (p:Nat) (q:R) (h:Rr w B g v p q):Calls Tryz.prog 79 #[ptr g,.int .i64 x] w fun e w'=>e=.returned (.int .i64 x)∧Rr w' B g v p q.die∧∀o,Kept g o w w':=by have HD:=Lib.hid (die_rr h);obtain ⟨q0,q1,q2,q3,q4,q5,q6⟩:=seven h.row;have z6:=row_frozen h.row 6;clear q0 q1 q2 q3 q4 q5 h;go_enter Tryz.func79,Tryz.ntmps79;go_wp2;go_ret;exact ⟨rfl,HD.out,fun o=>Kept.set g o w 6 _⟩
theorem rend_any (x:Int) (w:World) (B g:Nat) (v:Value) (p:Nat) (q:R) (h:Rr w B g v p q):Calls Tryz.prog 78 #[ptr g,.int .i64 x] w fun e w'=>e=.returned (.int .i64 x)∧Rr w' B g (.slice none 0 0) p q.fin∧∀o,Kept g o w w':=by have HD:=Lib.hid (fin_rr h);have hcv:=conv_own h.own;obtain ⟨q0,q1,q2,q3,q4,q5,q6⟩:=seven h.row;have z2:=row_frozen h.row 2;have z3:=row_frozen h.row 3;have z4:=row_frozen h.row 4;have z5:=row_frozen h.row 5;obtain ⟨b,cap,rfl,_⟩:=own_slice h.own;clear q0 q1 q6 h;go_enter Tryz.func78,Tryz.ntmps78;go_wp2;go_ret;exact ⟨rfl,HD.out,fun o=>fin_kept w g o _⟩
end code
end Go.Proofs.YtimoakmcelocfaaGreat.Ln
namespace Go.Proofs.YtimoakmcelocfaaGreat.Ln
open Go.RowKit Base
section code
set_option maxHeartbeats 4000000
set_option maxRecDepth 40000
attribute [local go_sem] Base.some_undef
theorem rbyte_any (c:UInt8) (q:R) (hq:q.most≤4096) (p:Nat) (hp:p<4294967296) (h1:q.lf=Qk.has p 1) (h2:q.cr=Qk.has p 2) (w:World) (B g:Nat) (v:Value) (h:Rr w B g v p q) :
 Calls Tryz.prog 70 #[ptr g,byteV c] w fun e w'=>∃v',e=.returned (.int .i64 (q.how c))∧Rr w' B g v' p (q.byte c)∧Kept g v.ownBlock w w'∧Moved w v.ownBlock v'.ownBlock:=by
 have HR:=Lib.hid h
 have HS:=Lib.hid (start_rr h)
 have HSK:=Lib.hid (start_kept w g v.ownBlock)
 have HEN:=Lib.hid (fun x=>rend_any x _ B g v p q.start HS.out)
 have HDI:=Lib.hid (fun x=>rdie_any x _ B g v p q.start HS.out)
 have HL:=Lib.hid (fun w=>Qk.rhas_any p hp 1 w);have HC:=Lib.hid (fun w=>Qk.rhas_any p hp 2 w);obtain ⟨q0,q1,q2,q3,q4,q5,q6⟩:=seven h.row;have z2:=row_frozen h.row 2;have z3:=row_frozen h.row 3;have z4:=row_frozen h.row 4;have z5:=row_frozen h.row 5;clear h;have HH:q.how c=q.how c:=rfl
 conv at HH=>rhs;unfold R.how
 have HB:q.byte c=q.byte c:=rfl
 conv at HB=>rhs;unfold R.byte
 generalize hd:q.dead=d at *;cases d with
 | true=>
   rw [if_pos rfl] at HH HB;rw [HH,HB];clear HH HB;go_enter Tryz.func70,Tryz.ntmps70;go_wp2;go_ret;exact ⟨v,rfl,HR.out,Kept.refl _ _ _,Moved.refl _ _⟩
 | false=>
   rw [if_neg (by decide)] at HH HB;rw [←h1] at HL;rw [←h2] at HC;clear h1 h2;generalize hCR:q.CR=CR at *;have hc:(c=10∧((c.toNat:Int)==10)=true∧(c==10)=true)∨(¬c=10∧((c.toNat:Int)==10)=false∧(c==10)=false):=by
    by_cases e:c=10
    ·subst e;exact .inl ⟨rfl,rfl,rfl⟩
    ·exact .inr ⟨e,ne10 e,beq_eq_false_iff_ne.2 e⟩
   obtain ⟨b,cap,rfl,hcap,hcm,hbb⟩:=own_slice HR.out.own;cases CR with
   | true=>
     rcases hc with ⟨hc0,hc1,hc2⟩ | ⟨hc0,hc1,hc2⟩
     ·rw [hc2] at HH HB;simp only [Bool.and_self,if_true] at HH HB;rw [HH,HB];clear HH HB hc0 hc2;go_enter Tryz.func70,Tryz.ntmps70
      go_wp2_with (go_at_call 78;with_reducible refine (HEN.out _).mono ?_;rintro e w2 ⟨rfl,hD,hK⟩);go_ret;exact ⟨_,rfl,hD,HSK.out.trans (hK _) (Moved.refl _ _),.inr (.inl rfl)⟩
     ·generalize q.cr=cr at *;rw [hc2] at HH HB;cases cr;all_goals
       simp only [Bool.and_false,Bool.false_eq_true,if_true,if_false] at HH HB;rw [HH,HB];clear HH HB hc0 hc2;go_enter Tryz.func70,Tryz.ntmps70
       go_wp2_with (first
        |(go_at_call 78;with_reducible refine (HEN.out _).mono ?_;rintro e w2 ⟨rfl,hD,hK⟩)
        |(go_at_call 79;with_reducible refine (HDI.out _).mono ?_;rintro e w2 ⟨rfl,hD,hK⟩)
        |(go_at_call 39;with_reducible refine (HC.out _).mono ?_;rintro e w3 ⟨rfl,hw⟩;rw [hw];clear hw))
       go_ret;first
        | exact ⟨_,rfl,hD,HSK.out.trans (hK _) (Moved.refl _ _),.inr (.inl rfl)⟩
        | exact ⟨_,rfl,hD,HSK.out.trans (hK _) (Moved.refl _ _),Moved.refl _ _⟩
        | exact ⟨rfl,_,hD,HSK.out.trans (hK _) (Moved.refl _ _),.inr (.inl rfl)⟩
        | exact ⟨rfl,_,hD,HSK.out.trans (hK _) (Moved.refl _ _),Moved.refl _ _⟩
   | false=>
     simp only [Bool.false_and,Bool.false_eq_true,if_false] at HH HB;rcases hc with ⟨hc0,hc1,hc2⟩ | ⟨hc0,hc1,hc2⟩
     ·generalize q.lf=lf at *;rw [hc2] at HH HB;cases lf;all_goals
       simp only [Bool.and_false,Bool.false_eq_true,if_true,if_false] at HH HB;rw [HH,HB];clear HH HB hc0 hc2;go_enter Tryz.func70,Tryz.ntmps70
       go_wp2_with (first
        |(go_at_call 78;with_reducible refine (HEN.out _).mono ?_;rintro e w2 ⟨rfl,hD,hK⟩)
        |(go_at_call 79;with_reducible refine (HDI.out _).mono ?_;rintro e w2 ⟨rfl,hD,hK⟩)
        |(go_at_call 39;with_reducible refine (HL.out _).mono ?_;rintro e w3 ⟨rfl,hw⟩;rw [hw];clear hw))
       go_ret;first
        | exact ⟨_,rfl,hD,HSK.out.trans (hK _) (Moved.refl _ _),.inr (.inl rfl)⟩
        | exact ⟨_,rfl,hD,HSK.out.trans (hK _) (Moved.refl _ _),Moved.refl _ _⟩
        | exact ⟨rfl,_,hD,HSK.out.trans (hK _) (Moved.refl _ _),.inr (.inl rfl)⟩
        | exact ⟨rfl,_,hD,HSK.out.trans (hK _) (Moved.refl _ _),Moved.refl _ _⟩
     ·rw [hc2] at HH HB;simp only [Bool.false_and,Bool.false_eq_true,if_false] at HH HB;by_cases h13:c=13
      ·have e13:((c.toNat:Int)==13)=true:=by rw [h13];rfl
       have e13':(c==13)=true:=by rw [h13];rfl
       rw [e13'] at HH HB;simp only [if_true] at HH HB
       have HX:=Lib.hid (cr_rr HS.out)
       have HXK:=Lib.hid (Kept.set g (Value.slice b q.B.length cap).ownBlock ((w.setCell ⟨g,4,none⟩ (.string ⟨#[]⟩)).setCell ⟨g,5,none⟩ (.bool false)) 3 (.bool true));rw [HH,HB];clear HH HB hc0 hc2 h13 e13';go_enter Tryz.func70,Tryz.ntmps70;go_wp2;go_ret;exact ⟨_,rfl,HX.out,HSK.out.trans HXK.out (Moved.refl _ _),Moved.refl _ _⟩
      ·have e13:=ne13 h13;have e13':(c==13)=false:=beq_eq_false_iff_ne.2 h13;rw [e13'] at HH HB;simp only [Bool.false_eq_true,if_false] at HH HB;by_cases hl:q.most≤q.B.length
       ·rw [if_pos hl] at HH HB;rw [HH,HB];have eL:(q.most:Int)≤(q.B.length:Int):=by omega
        clear HH HB hc0 hc2 h13 e13' hl;go_enter Tryz.func70,Tryz.ntmps70;go_wp2
        go_quiet (fail);rename_i nq
        have HDI2:=Lib.hid (fun x=>rdie_any x (((w.setCell ⟨g,4,none⟩ (.string ⟨#[]⟩)).setCell ⟨g,5,none⟩ (.bool false)).drewN nq) B g _ p q.start ⟨HS.out.row,HS.out.own,HS.out.ge,HS.out.ne⟩)
        go_wp2_with (go_at_call 79;with_reducible refine (HDI2.out _).mono ?_;rintro e w2 ⟨rfl,hD,hK⟩);go_ret;exact ⟨_,rfl,hD,(HSK.out.trans (Kept.of_below (Base.below_drewN (Below.refl _ _) nq) g _) (Moved.refl _ _)).trans (hK _) (Moved.refl _ _),Moved.refl _ _⟩
       ·rw [if_neg hl] at HH HB;rw [HH,HB];have eL:¬(q.most:Int)≤(q.B.length:Int):=by omega
        clear HH HB hc0 hc2 h13 e13' hl;obtain ⟨i0,hi,hz0,hz1,hz2⟩:=info_parts byte_info;have G1:=Lib.hid hi;have G2:=Lib.hid hz0;have G3:=Lib.hid hz1;have G4:=Lib.hid hz2;clear hi hz0 hz1 hz2;go_enter Tryz.func70,Tryz.ntmps70;go_wp2
        go_quiet (fail);rename_i nq
        have HK1:Hid (Kept g (Value.slice b q.B.length cap).ownBlock w (((w.setCell ⟨g,4,none⟩ (.string ⟨#[]⟩)).setCell ⟨g,5,none⟩ (.bool false)).drewN nq)):=Lib.hid (HSK.out.trans (Kept.of_below (Base.below_drewN (Below.refl _ _) nq) g _) (Moved.refl _ _));have HR1:Hid (Rr (((w.setCell ⟨g,4,none⟩ (.string ⟨#[]⟩)).setCell ⟨g,5,none⟩ (.bool false)).drewN nq) B g (.slice b q.B.length cap) p q.start):=Lib.hid ⟨HS.out.row,HS.out.own,HS.out.ge,HS.out.ne⟩;generalize ((w.setCell ⟨g,4,none⟩ (.string ⟨#[]⟩)).setCell ⟨g,5,none⟩ (.bool false)).drewN nq=w1 at *;have hg0:=row_lt HR.out.row;have hs0:=HK1.out.size;clear q0 q1 q2 q3 q4 q5 q6 z2 z3 z4 z5 HEN HDI HL HC HS HSK;obtain ⟨q0,q1,q2,q3,q4,q5,q6⟩:=seven HR1.out.row;clear q0 q1 q3 q4 q5 q6
        go_wp2_with (at_builtin;(refine wpList_append_own_at _ rfl _ _ 34 rfl B 5 i0 (.int .u8 0) 1 1 Tryz.underlying34 G1.out G2.out G3.out G4.out rfl (by decide) _ _ _ rfl (HR1.out.own.alloc _) ⟨w1.heap.size,0,none⟩ 1 1 [byteV c] rfl rfl ?c1 ?c2 ?c3 ?c4 ?c5 ?_))
        case c1=>exact fun j u hu=>by have:=news_one w1 (byteV c) 5 j u hu;simpa using this
        case c2=>intro u hu;obtain rfl:u=byteV c:=by simpa using hu
                 rfl
        case c3=>show q.B.length+1≤maxLen;unfold maxLen;omega
        case c4=>show (q.B.length+1)*1≤_;omega
        case c5=>have:=row_lt HR1.out.row;have:=HR1.out.ge;simp;omega
        intro v0 w2 hown hgr _ hmv
        replace hown:w2.ownsRow B 5 1 v0 (q.B.length+1) (vals q.B ++ [byteV c]):=hown
        obtain ⟨b2,cap2,hv2,_,_,_⟩:=own_slice hown;obtain ⟨v',hv'⟩:∃v',v'=Value.slice b2 (q.B.length+1) cap2:=⟨_,rfl⟩;rw [hv2] at hown hmv ⊢;rw [←hv'] at hown hmv;have hg1:=row_lt HR1.out.row;have hr2:w2.heap[g]?=some (.cells (rcells p q.start (.slice b q.B.length cap)) 101 (0,0)):=
         (hgr.block g (by simp;omega) (fun e=>HR1.out.ne e.symm)).trans ((Below.heap_alloc w1 _ g hg1).trans HR1.out.row)
        have HD:Hid (Rr (w2.setCell ⟨g,2,none⟩ v') B g v' p {q.start with B:=q.B ++ [c]}):=Lib.hid (by
         have ne':v'.ownBlock≠some g:=by
          rcases hmv with e | e
          ·rw [e];exact HR1.out.ne
          ·rw [e];intro h;simp at h;omega
         refine ⟨(row_set hr2 2 v').trans rfl,own_set ?_ ne' 2 v',HR1.out.ge,ne'⟩;rw [vals_app,List.length_append];exact hown)
        have HKK:Hid (Kept g (Value.slice b q.B.length cap).ownBlock w (w2.setCell ⟨g,2,none⟩ v')):=Lib.hid (
         ((HK1.out.trans (Kept.of_below ((Below.refl _ _).alloc (Nat.le_refl _) _) g _) (Moved.refl _ _)).trans (Kept.grown hgr g) (Moved.refl _ _)).trans (Kept.set g _ w2 2 v') (Moved.refl _ _))
        have HMV:Hid (Moved w (Value.slice b q.B.length cap).ownBlock v'.ownBlock):=Lib.hid (by
         rcases hmv with e | e
         ·exact .inl e
         ·refine .inr (.inr ⟨_,e,?_⟩)
          first | omega |(simp;omega))
        have q3:=(seven hr2).2.2.1;have z3:=row_frozen hr2 2;clear hown hgr hmv hr2 hv2;subst hv';go_wp2;go_ret;first | exact ⟨_,rfl,HD.out,HKK.out,HMV.out⟩ | exact ⟨rfl,_,HD.out,HKK.out,HMV.out⟩
end code
end Go.Proofs.YtimoakmcelocfaaGreat.Ln
namespace Go.Proofs.YtimoakmcelocfaaGreat.Ln
open Go.RowKit Base
section
variable {w w':World} {B g g' p:Nat} {m m':M} {q:R}
end
section code
variable {w:World} {B g g' p:Nat} {m m':M} {q:R}
end code
end Go.Proofs.YtimoakmcelocfaaGreat.Ln
namespace Go.Proofs.YtimoakmcelocfaaGreat.Ln
open Go.RowKit Base
abbrev k0:M:=⟨false,false,5,[],0,false⟩
abbrev k6:M:=⟨true,true,5,[],0,false⟩
section code
set_option maxHeartbeats 4000000
set_option maxRecDepth 40000
attribute [local go_sem] Base.some_undef
end code
end Go.Proofs.YtimoakmcelocfaaGreat.Ln
namespace Go.Proofs.YtimoakmcelocfaaGreat.Rec
open Go.RowKit Base Txt
theorem wrap64_in (x:Int) (h0: -9223372036854775808≤x) (h1:x≤9223372036854775807):wrap64 x=x:=by unfold wrap64;omega
theorem wraps (x:Int) (h: -9223372036854775808≤x∧x≤9223372036854775807):IntKind.i64.wrap x=x∧wrap64 x=x:=⟨wrap_in x h.1 h.2,wrap64_in x h.1 h.2⟩
structure R where
 m:ByteArray
 x:ByteArray
 k:Int
 fs:List Fld
 ch:Bool
 body:List UInt8
 ts:List Fld
def same (a b:R):Bool:=decide (a.m=b.m)&&(decide (a.x=b.x)&&(decide (a.k=b.k)&&(decide (a.fs=b.fs)&&(decide (a.ch=b.ch)&&(decide (a.body=b.body)&&decide (a.ts=b.ts))))))
def all:List R→List R→Bool
 | [],[]=>true
 | a::l,b::r=>same a b&&all l r
 | _,_=>false
def weigh (l:List Fld):Nat:=(l.map fun f=>f.1.size+f.2.size).sum
def size (r:R):Nat:=r.m.size+r.x.size+weigh r.fs+weigh r.ts+r.body.length
abbrev connN:ByteArray:=⟨#[67,111,110,110,101,99,116,105,111,110]⟩
abbrev closeW:ByteArray:=⟨#[99,108,111,115,101]⟩
abbrev keepW:ByteArray:=⟨#[107,101,101,112,45,97,108,105,118,101]⟩
abbrev expectN:ByteArray:=⟨#[69,120,112,101,99,116]⟩
abbrev contW:ByteArray:=⟨#[49,48,48,45,99,111,110,116,105,110,117,101]⟩
def closes (r:R):Bool:=one (list (find r.fs connN)) closeW|| (decide (r.k=0) && !one (list (find r.fs connN)) keepW)
def expects (r:R):Bool:=decide (r.k=1)&&one (list (find r.fs expectN)) contW
theorem same_iff (a b:R):same a b=true↔a=b:=by obtain ⟨m,x,k,fs,ch,body,ts⟩:=a;obtain ⟨m',x',k',fs',ch',body',ts'⟩:=b;simp only [same,Bool.and_eq_true,decide_eq_true_eq,R.mk.injEq]
def Reads (w:World) (V:Value) (r:R):Prop:=
 ∃(fa:Option Addr) (fc:Nat) (ba:Option Addr) (bc:Nat) (ta:Option Addr) (tc:Nat),
  V=.agg #[.string r.m,.string r.x,.int .i64 r.k,.slice fa r.fs.length fc,.bool r.ch,.slice ba r.body.length bc,.slice ta r.ts.length tc]∧
  Flds w fa r.fs.length r.fs∧Nums .u8 w ba r.body.length (nums r.body)∧Flds w ta r.ts.length r.ts
theorem Reads.below {w w':World} {V:Value} {r:R} (h:Reads w V r) (hb:Below w.heap.size w w'):Reads w' V r:=by obtain ⟨fa,fc,ba,bc,ta,tc,e,h1,h2,h3⟩:=h;exact ⟨fa,fc,ba,bc,ta,tc,e,h1.below hb,h2.below hb,h3.below hb⟩
structure Fit (r:R):Prop where
 m:r.m.size≤1000000000
 x:r.x.size≤1000000000
 fs:r.fs.length≤500
 f:∀f∈r.fs,f.1.size≤1000000∧f.2.size≤1000000
 body:r.body.length≤1000000000
 ts:r.ts.length≤500
 t:∀f∈r.ts,f.1.size≤1000000∧f.2.size≤1000000
structure Bk (w:World) (g:Nat) (vs:List Value):Prop where
 c:∀(k:Nat) (v:Value),vs[k]?=some v→w.cell? ⟨g,k,none⟩=some v
 z:∀k,k<vs.length→w.frozen? ⟨g,k,none⟩=false
 lt:g<w.heap.size
section
variable {w w':World} {g:Nat} {vs:List Value}
theorem Bk.below (h:Bk w g vs) (hb:Below w.heap.size w w'):Bk w' g vs:=
 ⟨fun k v hv=>(hb.cell (p:=⟨g,k,none⟩) h.lt).trans (h.c k v hv),fun k hk=>(hb.frozen (p:=⟨g,k,none⟩) h.lt).trans (h.z k hk),Nat.lt_of_lt_of_le h.lt hb.size⟩
theorem Bk.alloc (h:Bk w g vs) (o:Obj):Bk (w.alloc o) g vs:=h.below ((Below.refl _ _).alloc (Nat.le_refl _) _)
theorem Bk.new (w:World) (g:Nat) (hg:g=w.heap.size) (t:TypeId) (vs:List Value):Bk (w.alloc (.cells vs.toArray t)) g vs:=by
 subst hg
 have hh:=heap_alloc_new w (.cells vs.toArray t);refine ⟨fun k v hv=>(cell_of_row (w.alloc _) w.heap.size k _ t (0,0) hh).trans (by simpa using hv),fun k _=>?_,by simp⟩;unfold World.frozen?;simp only [hh];simp
theorem Bk.set (h:Bk w g vs) (k:Nat) (v:Value) (hk:k<vs.length):Bk (w.setCell ⟨g,k,none⟩ v) g (vs.set k v):=by
 have h1:=List.getElem?_eq_getElem hk;have hk1:=h.c k vs[k] h1;have hz1:=h.z k hk;refine ⟨fun j u hu=>?_,fun j hj=>?_,by have:=h.lt;simpa using this⟩
 ·by_cases e:k=j
  ·subst e;rw [List.getElem?_set_self hk] at hu;obtain rfl:v=u:=Option.some.inj hu;go_simp
  ·rw [List.getElem?_set_ne e] at hu;have hj1:=h.c j u hu;have e':¬j=k:=fun x=>e x.symm;go_simp
 ·rw [List.length_set] at hj;have hz2:=h.z j hj;go_simp
end
end Go.Proofs.YtimoakmcelocfaaGreat.Rec
namespace Go.Proofs.YtimoakmcelocfaaGreat.Par
open Go.RowKit Base Txt
structure Bd where
 x0:Int
 x1:Int
 x2:Int
 x3:Int
 x4:Int
 x5:Int
 x6:Int
 x7:Int
 ch:Bool
 od:Bool
def Bd.right (b:Bd):Bool:=Bnd.right b.x0 b.x1 b.x2 b.x3 b.x4 b.x5 b.x6 b.x7
structure S where
 st:Nat
 rd:Ln.R
 r:Rec.R
 lines:Nat
 head:Nat
 left:Nat
 fresh:Bool
 clean:Bool
 e:Nat
 out:List Rec.R
abbrev E0:ByteArray:=⟨#[]⟩
def zero:Rec.R:=⟨E0,E0,0,[],false,[],[]⟩
def nl (p:Nat) (most:Int):Ln.R:=Ln.R.new (Qk.has p 1) (Qk.has p 2) (Ln.mid most)
def headed (st:Nat):Bool:=st==0||st==1||st==6
def bodied (st:Nat):Bool:=st==2||st==4
def joinF (f:Fld) (ln:List UInt8):Fld:=(f.1,ba (Fd.joined f.2.data.toList ln))
def fieldV (p lines:Nat) (l:List Fld) (ln:List UInt8) (most:Int):Nat ⊕ List Fld:=
 if most<((lines+1:Nat):Int) then .inl 431
 else if (Fd.goes p ln && !l.isEmpty)=true then .inr (l.dropLast ++ [joinF (l.getLast?.getD dflt) ln])
 else match Fd.parse (Fd.clOf p) ln with
  | none=>.inl 400
  | some none=>.inr l
  | some (some (n,v))=>.inr (l ++ [(ba n,ba v)])
section
variable (p:Nat) (b:Bd)
def S.fail (s:S) (e:Nat):S:={s with e:=e,clean:=false,r:=zero}
def S.next (s:S):S:={s with r:=zero,st:=0,lines:=0,head:=0,fresh:=false,clean:=true,rd:=nl p b.x0}
def S.whole (s:S):S:=S.next p b {s with out:=s.out ++ [s.r]}
def S.over (s:S):S:=
 let d:=Frm.decideV (Frm.clOf p) b.ch b.x3 s.r.k s.r.fs
 if d.2.2≠0 then s.fail d.2.2.toNat
 else if d.1=2 then {s with r:={s.r with ch:=true},st:=3,fresh:=true,rd:=nl p b.x0}
 else if d.2.1=0 then s.whole p b
 else {s with st:=2,left:=d.2.1.toNat,fresh:=true}
def S.chunk (s:S) (ln:List UInt8):S:=
 let z:=Chk.sizeV (Qk.has p 27) (Qk.has p 28) b.x4 b.x3 ln
 if z.2≠0 then s.fail z.2.toNat
 else if z.1=0 then {s with st:=6,lines:=0,rd:=nl p b.x0}
 else if b.x3-(s.r.body.length:Int)<z.1 then s.fail 413
 else {s with st:=4,left:=z.1.toNat}
def S.first (s:S) (ln:List UInt8):S:=
 if ln= [] then (if Qk.has p 0=true then {s with clean:=true} else s.fail 400)
 else
  let q:=Rq.request (Rq.clOf p) b.od ln
  if q.2.2.2≠0 then s.fail q.2.2.2 else {s with r:={s.r with m:=ba q.1,x:=ba q.2.1,k:=(q.2.2.1:Int)},st:=1}
def S.fields (s:S) (ln:List UInt8):S:=
 if ln= [] then s.over p b
 else match fieldV p s.lines s.r.fs ln b.x1 with
  | .inl e=>S.fail {s with lines:=s.lines+1} e
  | .inr l=>{s with lines:=s.lines+1,r:={s.r with fs:=l}}
def S.trail (s:S) (ln:List UInt8):S:=
 if ln= [] then s.whole p b
 else match fieldV p s.lines s.r.ts ln b.x5 with
  | .inl e=>S.fail {s with lines:=s.lines+1} e
  | .inr l=>{s with lines:=s.lines+1,r:={s.r with ts:=l}}
def S.ended (s:S) (ln:List UInt8):S:=
 match s.st with
 | 0=>s.first p b ln
 | 1=>s.fields p b ln
 | 3=>s.chunk p b ln
 | 5=>{s with st:=3,rd:=nl p b.x0}
 | 6=>s.trail p b ln
 | _=>s
def S.bodyB (s:S) (c:UInt8):S:=
 let s1:={s with r:={s.r with body:=s.r.body ++ [c]},left:=s.left-1}
 if 1<s.left then s1 else if s.st=2 then s1.whole p b else {s1 with st:=5,rd:=nl p 0}
def longE (st:Nat):Nat:=if st=0 then 414 else if headed st=true then 431 else 400
def S.plain (s:S) (c:UInt8):S:=
 let s0:={s with fresh:=false}
 if bodied s.st=true then s0.bodyB p b c
 else
  let s1:={s0 with rd:=s.rd.byte c}
  if s.rd.how c=3 then s1.fail 400
  else if s.rd.how c=4 then s1.fail (longE s.st)
  else if s.rd.how c=0 then s1
  else s1.ended p b (s.rd.byte c).L
def S.count (f:S→S) (s:S):S:=
 if s.e≠0 then s
 else if headed s.st=true then (if b.x2<((s.head+1:Nat):Int) then S.fail {s with head:=s.head+1} 431 else f {s with head:=s.head+1,clean:=false})
 else f {s with clean:=false}
def S.again (s:S) (c:UInt8) (was:Nat):S:=
 if (s.st==0 && !(was==0))=true then s.count b (fun s=>s.plain p b c)
 else
  let s1:={s with clean:=false}
  if (!headed was&&s.st==6)=true then s1.count b (fun s=>s.plain p b c) else s1.plain p b c
def S.byte1 (s:S) (c:UInt8):S:=
 let s0:={s with fresh:=false}
 if bodied s.st=true then s0.bodyB p b c
 else
  let s1:={s0 with rd:=s.rd.byte c}
  if s.rd.how c=3 then s1.fail 400
  else if s.rd.how c=4 then (if (s.st==5&&Qk.has p 29)=true then S.plain p b {s1 with st:=3,rd:=nl p b.x0} c else s1.fail (longE s.st))
  else if s.rd.how c=0 then s1
  else if s.rd.how c=2 then (if (s1.ended p b (s.rd.byte c).L).e=0 then S.again p b (s1.ended p b (s.rd.byte c).L) c s.st else s1.ended p b (s.rd.byte c).L)
  else s1.ended p b (s.rd.byte c).L
def S.byte (s:S) (c:UInt8):S:=s.count b (fun s=>s.byte1 p b c)
def S.feed (s:S) (cs:List UInt8):S:=cs.foldl (S.byte p b) s
def S.new:S:=if (b.right&&decide (p<1073741824))=true then ⟨0,nl p b.x0,zero,0,0,0,false,true,0,[]⟩ else ⟨0,nl p b.x0,zero,0,0,0,false,false,20,[]⟩
def S.waits (s:S):Bool:=decide (s.e=0)&&(s.fresh&&Rec.expects s.r)
def S.held (s:S):Nat:=if s.e=0 then Rec.size s.r+(if bodied s.st=true then 0 else s.rd.B.length) else 0
def S.read (cs:List UInt8):S:=S.feed p b (S.new p b) cs
end
theorem S.feed_app (p:Nat) (b:Bd) (s:S) (xs ys:List UInt8):s.feed p b (xs++ys)=(s.feed p b xs).feed p b ys:=List.foldl_append
theorem S.count_dead {b:Bd} {f:S→S} {s:S} (h:s.e≠0):s.count b f=s:=by unfold S.count;rw [if_pos h]
theorem S.byte_dead {p:Nat} {b:Bd} {s:S} (h:s.e≠0) (c:UInt8):s.byte p b c=s:=S.count_dead h
end Go.Proofs.YtimoakmcelocfaaGreat.Par
