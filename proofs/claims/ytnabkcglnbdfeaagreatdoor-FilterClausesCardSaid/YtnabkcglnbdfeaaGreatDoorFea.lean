import Derived.Test.YtnabkcglnbdfeaaGreatDoorProg
import Derived.WalkKit
import Derived.WalkSpells
import Derived.WalkLawsBesides
import Derived.Lib.Hide
import Derived.Deep.Draws
import Derived.OrdersHeld
import Derived.Deep.RegionHeld
import Derived.BigRegion
import Derived.Maps.AppendAt
import Derived.Laws.Append
import Derived.Lib.Strings
import Derived.LaidLaws
import Derived.OpenShut
import Derived.ChangeArms
import Derived.ChangeKeysEq
import Derived.Test.YtnabkcglnbdfeaaGreatDoorRows
import Derived.ProofKit
import Derived.ShutString
import Derived.ChangeOld
import Derived.Below
import Derived.SizedLaws
import Derived.Lib.Split
import Derived.Lib.SplitLaws
import Derived.Lib.IndexBytes
import Derived.Deep.AppendLies
import Derived.Laws.IdiomStrings
import Derived.Laws.BytesString
import Derived.Shelf.Strings.Builder1
import Derived.Shelf.Strings.Trim
import Derived.Shelf.Small.Utf8
import Derived.Shelf.Small.Strs
import Derived.Shelf.Strings.BuilderF
import Derived.Shelf.Strings.BuilderK
import Derived.Shelf.Strings.Search1
import Derived.Shelf.Strings.Search2
import Derived.Shelf.Strings.Search3
import Derived.Shelf.Strings.Cut
import Derived.Shelf.Strings.Count
import Derived.Shelf.LaysM
import Derived.Shelf.Strings.Shaped
import Derived.Shelf.Strings.Prefix
import Derived.Shelf.Strings.Split
import Derived.Shelf.Strings.SplitShaped
import Derived.Shelf.Unicode.Decode
import Derived.Shelf.Strings.Runes
import Derived.Shelf.Strings.RuneCount
import Derived.Shelf.Strings.IndexAny
import Derived.Shelf.Strings.AsciiSet
import Derived.Shelf.Strings.IndexAnyAll
import Derived.Shelf.Strings.Explode
import Derived.Shelf.Unicode.DecodeSlow
import Derived.Shelf.Unicode.DecodeAny
import Derived.Shelf.Strings.FieldsFuncAny
import Derived.Shelf.Slices.Turned
import Derived.Shelf.Bytes.SlEqualAll
import Derived.Shelf.Bytes.Small
import Derived.Deep.QuietTactic
import Derived.BigQuiet
import Derived.Lib.Bytealg
import Derived.Lib.TrimByte
import Derived.WalkMore
import Derived.Lib.CutLaws
import Derived.Lib.AppendStr
import Derived.Laws.OwnMore
import Derived.Shelf.Abstract
import Derived.Lib.IndexAny
import Derived.Lib.QuoteLoop
import Derived.Lib.RuneCount
import Derived.Laws.RangeAny
import Derived.Laws.Runes
import Derived.Deep.LoopGhost
import Derived.Deep.CutBlock
import Derived.Deep.DeepCutAuto
import Derived.Laws.BitsAllLaws
import Derived.Laws.ShiftsVarLaws
import Derived.Lib.FieldsP
import Derived.Lib.SlicesS
import Derived.ChangeSame
import Derived.Deep.RegionWith
import Derived.Deep.CutRange
import Derived.Laws.BytesArg
import Derived.Shelf.Bytes.SlSmallAll
import Derived.OneCell
import Derived.Great.Walk
import Derived.LoopN
import Derived.Lib.SlBytesConst
import Derived.Maps.OwnSet
import Derived.SliceStrings
import Derived.Lib.SliceRun
import Derived.Lib.LazyBuf
import Derived.Lib.FrozenHead
import Derived.Lib.Builder
import Derived.Lib.UnsafeStr
import Derived.Deep.AppendSrc
import Derived.Deep.OwnRows
import Derived.Laws.IdiomCopy
import Derived.Lib.EndianMore
import Derived.RegionTactic
namespace Go.Proofs.YtnabkcglnbdfeaaGreatDoor.Base
open Go.RowKit
def Ints (w:World) (a:Option Addr) (n:Nat) (zs:List Int):Prop:=
 zs.length=n∧(0<n→∃b off,a=some ⟨b,off,none⟩∧b<w.heap.size∧∀k,k<n→w.cell? ⟨b,off+k,none⟩=some (.int .i64 (zs[k]?.getD 0)))
theorem Ints.new (w:World) (cs:Array Value) (t:TypeId) (zs:List Int) (n:Nat) (hn:zs.length=n) (h:∀k,k<n→cs[k]?=some (.int .i64 (zs[k]?.getD 0))) :
 Ints (w.alloc (.cells cs t)) (some ⟨w.heap.size,0,none⟩) n zs:=by
 refine ⟨hn,fun _=>⟨w.heap.size,0,rfl,by simp,fun k hk=>?_⟩⟩;rw [Nat.zero_add]
 exact (cell_of_row (w.alloc (.cells cs t)) w.heap.size k cs t (0,0) (heap_alloc_new w _)).trans (h k hk)
theorem Ints.one (w:World) (g:Nat) (hg:g=w.heap.size) (x:Int) (t:TypeId):Ints (w.alloc (.cells #[.int .i64 x] t)) (some ⟨g,0,none⟩) 1 [x]:=by
 subst hg;refine Ints.new w _ t [x] 1 rfl ?_;intro k hk;obtain rfl:k=0:=by omega
 rfl
theorem own_base {w:World} {base:Nat} {e:TypeId} {size:Nat} {v:Value} {n:Nat} {xs:List Value} (h:w.ownsRow base e size v n xs) (g:Nat) (hg:v.ownBlock=some g):base≤g:=by
 rcases h.2 with ⟨rfl,_⟩ | ⟨g',_,_,rfl,hb,_⟩
 ·simp [Value.ownBlock] at hg
 ·simp [Value.ownBlock] at hg;omega
theorem news_one (w:World) (v:Value) (t:TypeId):∀(j:Nat) (u:Value),[v][j]?=some u→(w.alloc (.cells #[v] t)).cell? (Addr.add ⟨w.heap.size,0,none⟩ j)=some u:=by
 intro j u hu;have hj:j=0:=by
  rcases Nat.eq_zero_or_pos j with h | h
  ·exact h
  ·rw [List.getElem?_eq_none (by simp;omega)] at hu;cases hu
 subst hj;have:v=u:=by simpa using hu
 subst this
 exact (cell_of_row (w.alloc (.cells #[v] t)) w.heap.size 0 #[v] t (0,0) (heap_alloc_new w _))
theorem some_undef:(some undef:Option Value)=some (.tuple #[]):=rfl
theorem below_drewN {B:Nat} {a w:World} (h:Below B a w) (n:Nat):Below B a (w.drewN n):=⟨h.os,h.tape,h.output,h.size,h.block⟩
theorem ret_bool {a b:Bool} (h:a=true↔b=true):Ending.returned (.bool a)=.returned (.bool b):=by rw [Bool.eq_iff_iff.2 h]
theorem ret_int {k:IntKind} {a b:Int} (h:a=b):Ending.returned (.int k a)=.returned (.int k b):=by rw [h]
theorem take_snoc (s:ByteArray) (k:Nat) (h:k<s.size):s.data.toList.take (k+1)=s.data.toList.take k ++ [s[k]]:=by rw [List.take_succ_eq_append_getElem (by simpa using h)];rfl
theorem take_all (s:ByteArray) (k:Nat) (h:s.size≤k):s.data.toList.take k=s.data.toList:=List.take_of_length_le (by simpa using h)
theorem byte_lt (b:UInt8):(b.toNat:Int)≤255:=by have:=b.toNat_lt;omega
theorem byte_mem (s:ByteArray) (k:Nat) (h:k<s.size):s[k]∈s.data.toList:=by
 have:=take_snoc s k h
 exact List.mem_of_mem_take (i:=k+1) (by rw [this];simp)
theorem ints_snoc (zs:List Int) (k:Nat) (h:k<zs.length):zs.take (k+1)=zs.take k ++ [zs[k]?.getD 0]:=by rw [List.take_succ_eq_append_getElem h,List.getElem?_eq_getElem h];rfl
theorem below_step {a b c:World} (h1:Below a.heap.size a b) (h2:Below b.heap.size b c):Below a.heap.size a c:=h1.trans (h2.mono h1.size)
def Nums (kd:IntKind) (w:World) (a:Option Addr) (n:Nat) (zs:List Int):Prop:=
 zs.length=n∧(0<n→∃b off,a=some ⟨b,off,none⟩∧b<w.heap.size∧∀k,k<n→w.cell? ⟨b,off+k,none⟩=some (.int kd (zs[k]?.getD 0)))
theorem Nums.nil (kd:IntKind) (w:World) (a:Option Addr):Nums kd w a 0 []:=⟨rfl,fun h=>absurd h (by omega)⟩
theorem Nums.below {kd:IntKind} {w w':World} {a:Option Addr} {n:Nat} {zs:List Int} (h:Nums kd w a n zs) (hb:Below w.heap.size w w'):Nums kd w' a n zs:=by refine ⟨h.1,fun hn=>?_⟩;obtain ⟨b,off,e,hlt,hc⟩:=h.2 hn;exact ⟨b,off,e,Nat.lt_of_lt_of_le hlt hb.size,fun k hk=>(hb.cell (p:=⟨b,off+k,none⟩) hlt).trans (hc k hk)⟩
theorem wrap_in (x:Int) (h0: -9223372036854775808≤x) (h1:x≤9223372036854775807):IntKind.i64.wrap x=x:=by rw [IntKind.wrap_i64];omega
end Go.Proofs.YtnabkcglnbdfeaaGreatDoor.Base
namespace Go.Proofs.YtnabkcglnbdfeaaGreatDoor.Sched
open Go.RowKit
def fits (ops:Array Oper):List (Nat × Bool)→Array Bool→Bool
 | [],listed=>(Region.ready .any ops listed).isEmpty
 |(k,act)::ks,listed=>(if act then Region.ready .any ops listed == [k] else (Region.ready .any ops listed).contains k&&Region.free .any ops listed k)&&fits ops ks (listed.setIfInBounds k true)
def walk (P:Program) (ops:Array Oper) (Q:Exit→Act→World→Prop) (S:World→Prop):List (Bool × Oper)→Act→World→Prop
 | [],a,w=>Q .normal a w
 |(act,o)::rest,a,w=>
  if Region.wanted o (yielded ops a.tmps)=true then
   (if act=true then o.wp P a w (fun a' w'=>S w'∧walk P ops Q S rest a' w') Q
    else∃v,(∀w',S w'→(execOp a.eval o).run P w'=.ok (.value v) w')∧walk P ops Q S rest (a.put o.dst v) w)
  else walk P ops Q S rest (a.put o.dst undef) w
def picked (l:List Oper) (ks:List (Nat × Bool)):List (Bool × Oper):=ks.filterMap fun k=>(l[k.1]?).map fun o=>(k.2,o)
section
variable {P:Program} {l:List Oper} {Q:Exit→Act→World→Prop} {S:World→Prop}
theorem held_of_walk (hs:Region.noSelect l.toArray=true) (hQ:∀c a d v w,Q (.panic c) (Act.put a d v) w→Q (.panic c) a w):∀(ks:List (Nat × Bool)) (listed:Array Bool) (a:Act) (w:World),
 (∀k∈ks,k.1<l.length)→fits l.toArray ks listed=true→S w→walk P l.toArray Q S (picked l ks) a w→wpAnyH P .any l.toArray Q S ks.length listed a w
 | [],listed,a,w,_,hf,_,h=>wpAnyH_done (by simpa [fits] using hf) (by simpa [walk,picked] using h) _
 |(k,act)::ks,listed,a,w,hb,hf,hS,h=>by
  have hk:k<l.length:=hb (k,act) (by simp)
  have hb':∀x∈ks,x.1<l.length:=fun x hx=>hb x (by simp [hx]);have ho:l.toArray[k]?=some l[k]:=by simp [hk]
  have hp:picked l ((k,act)::ks)=(act,l[k])::picked l ks:=by simp [picked,hk]
  rw [hp] at h;simp only [fits,Bool.and_eq_true] at hf;obtain ⟨h1,h2⟩:=hf;simp only [walk] at h;cases act with
  | true=>
    simp only [if_true] at h h1;have hr:Region.ready .any l.toArray listed= [k]:=by simpa using h1
    refine wpAnyH_all hr (by simp) ?_;intro i hi;obtain rfl:i=k:=by simpa using hi
    unfold wpOp;simp only [ho];by_cases hw:Region.wanted l[i] (yielded l.toArray a.tmps)=true
    ·simp only [hw,if_true] at h ⊢
     exact .inl (Oper.wp_mono (fun a' w' h'=>⟨h'.1,held_of_walk hs hQ ks _ a' w' hb' h2 h'.1 h'.2⟩) h)
    ·simp only [hw] at h ⊢;exact ⟨hS,held_of_walk hs hQ ks _ _ _ hb' h2 hS h⟩
  | false=>
    simp only [Bool.false_eq_true,if_false,Bool.and_eq_true] at h h1;by_cases hw:Region.wanted l[k] (yielded l.toArray a.tmps)=true
    ·simp only [hw,if_true] at h;obtain ⟨v,hv,h⟩:=h
     exact wpAnyH_take ho hs h1.2 h1.1 (fun c a w=>hQ c a _ _ w) (.inl ⟨hw,hv⟩) hS (held_of_walk hs hQ ks _ _ _ hb' h2 hS h)
    ·simp only [hw] at h
     exact wpAnyH_take ho hs h1.2 h1.1 (fun c a w=>hQ c a _ _ w) (.inr ⟨by simpa using hw,rfl⟩) hS (held_of_walk hs hQ ks _ _ _ hb' h2 hS h)
def good (l:List Oper) (ks:List (Nat × Bool)):Bool:=Region.noSelect l.toArray&&(decide (ks.length=l.length)&&(ks.all (fun k=>decide (k.1<l.length))&&fits l.toArray ks (Array.replicate l.length false)))
structure Step (P:Program) (ops:Array Oper) (Q:Exit→Act→World→Prop) (S:World→Prop) (l:List (Bool × Oper)) (a:Act) (w:World):Prop where
 out:walk P ops Q S l a w
theorem region (ks:List (Nat × Bool)) {id:Nat} {a:Act} {w:World} (S:World→Prop) (hm:P.follows .mixedOrders=true) (hg:good l ks=true)
 (hQ:∀c a d v w,Q (.panic c) (Act.put a d v) w→Q (.panic c) a w) (hS:S (w.drewN 1)) (h:Step P l.toArray Q S (picked l ks) a (w.drewN 1)):(Code.region id l.toArray true).wp P Q a w:=by
 simp only [good,Bool.and_eq_true,List.all_eq_true,decide_eq_true_eq] at hg;obtain ⟨g0,g1,g2,g3⟩:=hg;refine wp_region_held (S:=S) hm ?_;have:=held_of_walk g0 hQ ks _ a _ g2 g3 hS h.out;rw [g1] at this;simpa [World.drewN] using this
variable {ops:Array Oper} {o:Oper} {rest:List (Bool × Oper)} {a:Act} {w:World} {act:Bool}
theorem quiet (hw:Region.wanted o (yielded ops a.tmps)=true) (v:Value) (hv:∀w',S w'→(execOp a.eval o).run P w'=.ok (.value v) w') (h:Step P ops Q S rest (a.put o.dst v) w):Step P ops Q S ((false,o)::rest) a w:=
 ⟨by simp only [walk,hw,if_true,Bool.false_eq_true,if_false];exact ⟨v,hv,h.out⟩⟩
theorem assign (x:Operand) (hop:o.op=.assign x) (hw:Region.wanted o (yielded ops a.tmps)=true) (h:Step P ops Q S rest (a.put o.dst (a.eval x)) w):Step P ops Q S ((false,o)::rest) a w:=
 quiet hw _ (fun w' _=>BigFrame.run_assign x hop w') h
theorem change (hw:Region.wanted o (yielded ops a.tmps)=true) (h:∀K:Act→World→Prop,(∀a' w',S w'→Step P ops Q S rest a' w'→K a' w')→o.wp P a w K Q):Step P ops Q S ((true,o)::rest) a w:=by refine ⟨?_⟩;simp only [walk,hw,if_true];exact h _ fun a' w' h1 h2=>⟨h1,h2.out⟩
theorem done (h:Q .normal a w):Step P ops Q S [] a w:=⟨h⟩
end
end Go.Proofs.YtnabkcglnbdfeaaGreatDoor.Sched
namespace Go.Proofs.YtnabkcglnbdfeaaGreatDoor.Tree
open Go.RowKit
inductive Plan where
 | done:Plan
 | quiet (k:Nat) (t:Plan):Plan
 | act (k:Nat) (t:Plan):Plan
 | two (k:Nat) (t:Plan) (j:Nat) (s:Plan):Plan
inductive Way where
 | done:Way
 | stuck:Way
 | quiet (o:Oper) (t:Way):Way
 | act (o:Oper) (t:Way):Way
 | two (t:Way) (s:Way):Way
def put1 (f:Oper→Way):Option Oper→Way
 | some o=>f o
 | none=>.stuck
def grow (l:List Oper):Plan→Way
 | .done=>.done
 | .quiet k t=>put1 (fun o=>.quiet o (grow l t)) l[k]?
 | .act k t=>put1 (fun o=>.act o (grow l t)) l[k]?
 | .two k t j s=>.two (put1 (fun o=>.act o (grow l t)) l[k]?) (put1 (fun o=>.act o (grow l s)) l[j]?)
def fits (ops:Array Oper):Plan→Nat→Array Bool→Bool
 | .done,_,listed=>(Region.ready .any ops listed).isEmpty
 | .quiet k t,n+1,listed=>(Region.ready .any ops listed).contains k&&Region.free .any ops listed k&&fits ops t n (listed.setIfInBounds k true)
 | .act k t,n+1,listed=>Region.ready .any ops listed == [k]&&fits ops t n (listed.setIfInBounds k true)
 | .two k t j s,n+1,listed=>Region.ready .any ops listed == [k,j]&&fits ops t n (listed.setIfInBounds k true)&&fits ops s n (listed.setIfInBounds j true)
 | _,0,_=>false
def walk (P:Program) (ops:Array Oper) (Q:Exit→Act→World→Prop) (S:World→Prop):Way→Act→World→Prop
 | .done,a,w=>Q .normal a w
 | .stuck,_,_=>False
 | .quiet o t,a,w=>
   if Region.wanted o (yielded ops a.tmps)=true then∃v,(∀w',S w'→(execOp a.eval o).run P w'=.ok (.value v) w')∧walk P ops Q S t (a.put o.dst v) w
   else walk P ops Q S t (a.put o.dst undef) w
 | .act o t,a,w=>if Region.wanted o (yielded ops a.tmps)=true then o.wp P a w (fun a' w'=>S w'∧walk P ops Q S t a' w') Q else walk P ops Q S t (a.put o.dst undef) w
 | .two t s,a,w=>walk P ops Q S t a w∧walk P ops Q S s a w
section
variable {P:Program} {l:List Oper} {Q:Exit→Act→World→Prop} {S:World→Prop}
theorem step_act {n k:Nat} {listed:Array Bool} {a:Act} {w:World} {t:Plan} (hS:S w)
 (ih:∀(a:Act) (w:World),S w→walk P l.toArray Q S (grow l t) a w→wpAnyH P .any l.toArray Q S n (listed.setIfInBounds k true) a w)
 (h:walk P l.toArray Q S (put1 (fun o=>.act o (grow l t)) l[k]?) a w):wpOp P l.toArray Q k (fun a' w'=>S w'∧wpAnyH P .any l.toArray Q S n (listed.setIfInBounds k true) a' w') a w:=by
 cases hk:l[k]? with
 | none=>rw [hk] at h;exact h.elim
 | some o=>
   rw [hk] at h;have ho:l.toArray[k]?=some o:=by simpa using hk
   unfold wpOp;simp only [ho];simp only [put1,walk] at h;by_cases hw:Region.wanted o (yielded l.toArray a.tmps)=true
   ·simp only [hw,if_true] at h ⊢
    exact .inl (Oper.wp_mono (fun a' w' h'=>⟨h'.1,ih a' w' h'.1 h'.2⟩) h)
   ·simp only [hw] at h ⊢;exact ⟨hS,ih _ _ hS h⟩
theorem held_of_walk (hs:Region.noSelect l.toArray=true) (hQ:∀c a d v w,Q (.panic c) (Act.put a d v) w→Q (.panic c) a w):∀(p:Plan) (n:Nat) (listed:Array Bool) (a:Act) (w:World),
 fits l.toArray p n listed=true→S w→walk P l.toArray Q S (grow l p) a w→wpAnyH P .any l.toArray Q S n listed a w
 | .done,n,listed,a,w,hf,_,h=>wpAnyH_done (by simpa [fits] using hf) (by simpa [walk,grow] using h) _
 | .quiet k t,0,listed,a,w,hf,_,_=>by simp [fits] at hf
 | .act k t,0,listed,a,w,hf,_,_=>by simp [fits] at hf
 | .two k t j s,0,listed,a,w,hf,_,_=>by simp [fits] at hf
 | .quiet k t,n+1,listed,a,w,hf,hS,h=>by
   simp only [fits,Bool.and_eq_true] at hf;obtain ⟨h1,h2⟩:=hf;cases hk:l[k]? with
   | none=>rw [grow,hk] at h;exact h.elim
   | some o=>
     rw [grow,hk] at h;have ho:l.toArray[k]?=some o:=by simpa using hk
     simp only [put1,walk] at h;by_cases hw:Region.wanted o (yielded l.toArray a.tmps)=true
     ·simp only [hw,if_true] at h;obtain ⟨v,hv,h⟩:=h
      exact wpAnyH_take ho hs h1.2 h1.1 (fun c a w=>hQ c a _ _ w) (.inl ⟨hw,hv⟩) hS (held_of_walk hs hQ t n _ _ _ h2 hS h)
     ·simp only [hw] at h
      exact wpAnyH_take ho hs h1.2 h1.1 (fun c a w=>hQ c a _ _ w) (.inr ⟨by simpa using hw,rfl⟩) hS (held_of_walk hs hQ t n _ _ _ h2 hS h)
 | .act k t,n+1,listed,a,w,hf,hS,h=>by
   simp only [fits,Bool.and_eq_true] at hf;obtain ⟨h1,h2⟩:=hf;have hr:Region.ready .any l.toArray listed= [k]:=by simpa using h1
   refine wpAnyH_all hr (by simp) ?_;intro i hi;obtain rfl:i=k:=by simpa using hi
   exact step_act hS (fun a w hS h=>held_of_walk hs hQ t n _ a w h2 hS h) h
 | .two k t j s,n+1,listed,a,w,hf,hS,h=>by
   simp only [fits,Bool.and_eq_true] at hf;obtain ⟨⟨h1,h2⟩,h3⟩:=hf;have hr:Region.ready .any l.toArray listed= [k,j]:=by simpa using h1
   simp only [grow,walk] at h;refine wpAnyH_all hr (by simp) ?_;intro i hi;simp only [List.mem_cons,List.not_mem_nil,or_false] at hi;rcases hi with rfl | rfl
   ·exact step_act hS (fun a w hS h=>held_of_walk hs hQ t n _ a w h2 hS h) h.1
   ·exact step_act hS (fun a w hS h=>held_of_walk hs hQ s n _ a w h3 hS h) h.2
def good (l:List Oper) (p:Plan):Bool:=Region.noSelect l.toArray&&fits l.toArray p l.length (Array.replicate l.length false)
structure Step (P:Program) (ops:Array Oper) (Q:Exit→Act→World→Prop) (S:World→Prop) (t:Way) (a:Act) (w:World):Prop where
 out:walk P ops Q S t a w
variable {ops:Array Oper} {o:Oper} {t s:Way} {a:Act} {w:World}
theorem quiet (hw:Region.wanted o (yielded ops a.tmps)=true) (v:Value) (hv:∀w',S w'→(execOp a.eval o).run P w'=.ok (.value v) w') (h:Step P ops Q S t (a.put o.dst v) w):Step P ops Q S (.quiet o t) a w:=by exact ⟨by simp only [walk,hw,if_true];exact ⟨v,hv,h.out⟩⟩
theorem assign (x:Operand) (hop:o.op=.assign x) (hw:Region.wanted o (yielded ops a.tmps)=true) (h:Step P ops Q S t (a.put o.dst (a.eval x)) w):Step P ops Q S (.quiet o t) a w:=
 quiet hw _ (fun w' _=>BigFrame.run_assign x hop w') h
theorem change (hw:Region.wanted o (yielded ops a.tmps)=true) (h:∀K:Act→World→Prop,(∀a' w',S w'→Step P ops Q S t a' w'→K a' w')→o.wp P a w K Q):Step P ops Q S (.act o t) a w:=by refine ⟨?_⟩;simp only [walk,hw,if_true];exact h _ fun a' w' h1 h2=>⟨h1,h2.out⟩
theorem done (h:Q .normal a w):Step P ops Q S .done a w:=⟨h⟩
end
end Go.Proofs.YtnabkcglnbdfeaaGreatDoor.Tree
namespace Go.Proofs.YtnabkcglnbdfeaaGreatDoor.App
open Go.RowKit
variable {P:Program}
theorem run_append_zero (w:World) (t ty e:TypeId) (i:TypeInfo) (ht:P.underlying t=some (.slice e)) (hi:P.info? e=some i) (b:Option Addr) (n cap:Nat) (h:n≤cap) (a:Option Addr) (c:Nat) :
 (Builtin.append_ #[t,t] ty #[.slice b n cap,.slice a 0 c]).run P w=.ok (.slice b n cap) w:=by
 have hb:∀x:Addr,(storeCells x []).run P w=.ok () w:=fun x=>rfl;have hl:∀x:Addr,(loadCells x 0).run P w=.ok #[] w:=fun x=>rfl;cases b<;>cases a<;>simp [Builtin.append_,run_underlying ht,sizeOf,typeInfo,hi,Builtin.lenOf,Builtin.firstCells,h,hb,hl]
theorem run_append_list (w:World) (t ty:TypeId)
 (base:Nat) (e:TypeId) (i:TypeInfo) (z:Value) (size bytes:Nat) (ht:P.underlying t=some (.slice e)) (hi:P.info? e=some i) (hz:i.zero=some z)
 (hsize:i.size=size) (hby:i.bytes=bytes) (hzs:z.cells.size=size) (hsz:0<size)
 (v:Value) (n:Nat) (xs:List Value) (hown:w.ownsRow base e size v n xs)
 (xa:Option Addr) (m c:Nat) (news:List Value) (hl:news.length=m*size)
 (hnews:0<m→∃b off,xa=some ⟨b,off,none⟩∧∀j u,news[j]?=some u→w.cell? ⟨b,off+j,none⟩=some u) (h1:∀u∈news,u.oneCell'=true)
 (h63:n+m≤maxLen) (hbytes:(n+m)*bytes≤140737488355328) (hbase:base≤w.heap.size) :
 ∃v' w',(Builtin.append_ #[t,t] ty #[v,.slice xa m c]).run P w=.ok v' w'∧w'.ownsRow base e size v' (n+m) (xs++news)∧w.grownBy w' v.ownBlock∧(v'.ownBlock=v.ownBlock∨v'.ownBlock=some w.heap.size):=by
 rcases Nat.eq_zero_or_pos m with h0 | hp
 ·subst h0;obtain rfl:news= []:=by simpa using hl
  obtain ⟨b,cap,hv,hcap⟩:∃b cap,v=.slice b n cap∧n≤cap:=by
   rcases hown.2 with ⟨rfl,rfl⟩ | ⟨g,cap,cur,rfl,_,_,hc,_⟩
   ·exact ⟨none,0,rfl,Nat.le_refl _⟩
   ·exact ⟨_,cap,rfl,hc⟩
  have hr:=run_append_zero (P:=P) w t ty e i ht hi b n cap hcap xa c;rw [←hv] at hr;exact ⟨v,w,hr,by rw [Nat.add_zero,List.append_nil];exact hown,⟨rfl,rfl,rfl,Nat.le_refl _,fun _ _ _=>rfl⟩,.inl rfl⟩
 ·obtain ⟨b,off,rfl,hc⟩:=hnews hp
  obtain ⟨v',w',hr,h2,h3,_,h5⟩:=run_append_own_at (P:=P) w base t ty e i z size bytes ht hi hz hsize hby hzs hsz v n xs hown ⟨b,off,none⟩ m c news hl (fun j u hj=>by
   have e2:Addr.add ⟨b,off,none⟩ j=⟨b,off+j,none⟩:=by unfold Addr.add;by_cases h:j=0<;>simp [h]
   rw [e2];exact hc j u hj) h1 h63 hbytes hbase
  exact ⟨v',w',hr,h2,h3,h5⟩
theorem wpList_append_list (w:World) {ops:Array Oper} {rest:List Oper} {o:Oper} {a:Act} {Q:Exit→Act→World→Prop} (hgd:o.guard=none) (s x:Operand) (t:TypeId)
 (ho:o.op=.call {callee:=.builtin .append,args:=#[s,x],argTypes:=#[t,t]})
 (base:Nat) (e:TypeId) (i:TypeInfo) (z:Value) (size bytes:Nat) (ht:P.underlying t=some (.slice e)) (hi:P.info? e=some i) (hz:i.zero=some z)
 (hsize:i.size=size) (hby:i.bytes=bytes) (hzs:z.cells.size=size) (hsz:0<size)
 (v:Value) (n:Nat) (xs:List Value) (hs:a.eval s=v) (hown:w.ownsRow base e size v n xs)
 (xa:Option Addr) (m c:Nat) (news:List Value) (hx:a.eval x=.slice xa m c) (hl:news.length=m*size)
 (hnews:0<m→∃b off,xa=some ⟨b,off,none⟩∧∀j u,news[j]?=some u→w.cell? ⟨b,off+j,none⟩=some u) (h1:∀u∈news,u.oneCell'=true)
 (h63:n+m≤maxLen) (hbytes:(n+m)*bytes≤140737488355328) (hbase:base≤w.heap.size)
 (h:∀v' w',w'.ownsRow base e size v' (n+m) (xs++news)→w.grownBy w' v.ownBlock→(v'=.slice none 0 0↔v=.slice none 0 0∧m=0)→(v'.ownBlock=v.ownBlock∨v'.ownBlock=some w.heap.size)→wpList P ops Q rest (a.put o.dst v') w') :
 wpList P ops Q (o::rest) a w:=by
 rcases Nat.eq_zero_or_pos m with h0 | hp
 ·subst h0;obtain rfl:news= []:=by simpa using hl
  refine wpList_plain hgd fun K hK=>?_;obtain ⟨b,cap,hv,hcap⟩:∃b cap,v=.slice b n cap∧n≤cap:=by
   rcases hown.2 with ⟨rfl,rfl⟩ | ⟨g,cap,cur,rfl,_,_,hc,_⟩
   ·exact ⟨none,0,rfl,Nat.le_refl _⟩
   ·exact ⟨_,cap,rfl,hc⟩
  have hr:=run_append_zero (P:=P) w t o.type e i ht hi b n cap hcap xa c;rw [←hv] at hr;unfold Oper.wp execOp;simp only [ho,resolve,invoke,builtin,Sem.run_bind,Sem.run_pure,Result.andThen_ok,List.map_toArray,List.map_cons,List.map_nil,hs,hx,hr]
  exact hK _ _ (h v w (by rw [Nat.add_zero,List.append_nil];exact hown) ⟨rfl,rfl,rfl,Nat.le_refl _,fun _ _ _=>rfl⟩ (by simp) (.inl rfl))
 ·obtain ⟨b,off,rfl,hc⟩:=hnews hp
  exact wpList_append_own_at w hgd s x t ho base e i z size bytes ht hi hz hsize hby hzs hsz v n xs hs hown ⟨b,off,none⟩ m c news hx hl (fun j u hj=>by
   have e2:Addr.add ⟨b,off,none⟩ j=⟨b,off+j,none⟩:=by unfold Addr.add;by_cases h:j=0<;>simp [h]
   rw [e2];exact hc j u hj) h1 h63 hbytes hbase h
theorem wpList_append_run {w:World} {ops:Array Oper} {rest:List Oper} {o:Oper} {a:Act} {Q:Exit→Act→World→Prop} (hw:Region.wanted o (yielded ops a.tmps)=true) (s x:Operand) (t:TypeId)
 (ho:o.op=.call {callee:=.builtin .append,args:=#[s,x],argTypes:=#[t,t]}) (v u:Value) (hs:a.eval s=v) (hx:a.eval x=u) (v':Value) (w':World)
 (hr:(Builtin.append_ #[t,t] o.type #[v,u]).run P w=.ok v' w') (h:wpList P ops Q rest (a.put o.dst v') w'):wpList P ops Q (o::rest) a w:=by
 unfold wpList;rw [if_pos hw];left;unfold Oper.wp execOp;simp only [ho,resolve,invoke,builtin,Sem.run_bind,Sem.run_pure,Result.andThen_ok,List.map_toArray,List.map_cons,List.map_nil,hs,hx,hr];exact h
end Go.Proofs.YtnabkcglnbdfeaaGreatDoor.App
namespace Go.Proofs.YtnabkcglnbdfeaaGreatDoor.Ls
open Go.RowKit Base
theorem grown_of_below {w w':World} (hb:Below w.heap.size w w'):w.grownBy w' none:=⟨hb.os,hb.tape,hb.output,hb.size,fun k hk _=>hb.block k hk⟩
theorem own_below {w w':World} {base:Nat} {e:TypeId} {size:Nat} {v:Value} {n:Nat} {xs:List Value} (h:w.ownsRow base e size v n xs) (hb:Below w.heap.size w w'):w'.ownsRow base e size v n xs:=
 h.kept (grown_of_below hb) (Classical.em _)
end Go.Proofs.YtnabkcglnbdfeaaGreatDoor.Ls
namespace Go.Proofs.YtnabkcglnbdfeaaGreatDoor.Table
open Go.RowKit Base
end Go.Proofs.YtnabkcglnbdfeaaGreatDoor.Table
namespace Go.Proofs.YtnabkcglnbdfeaaGreatDoor.Frame
open Go.ChangeShapes Go.WideShapes Go.ChangeAt Go.RowKit
open Go.ChangeMaps (open_string shut_string)
theorem own:ownKnob Tryz.prog.godebug=none:=by kernel_rfl
theorem laidOut:laidOutB Tryz.prog=true:=by kernel_rfl
section
variable {H:Type} {enc:TypeId × Value→H} {P:Program}
theorem trodAll_below (hl:laidOutB P=true) {W W':World} (hb:Below W.heap.size W W'):∀(ts:List TypeId) (vs:List Value) (ds:List (DataW H)) (ps:List MemPlace),
 ts.all (fun t=>P.readableRec t&&decide (t<P.types.size))=true→DataW.TrodAll enc P W 0 (fun _=>true) true ts vs ds ps→(∀x∈ps,x.block<W.heap.size)→
 DataW.TrodAll enc P W' 0 (fun b=>decide (b<W.heap.size)) true ts vs ds ps
 | [],vs,ds,ps,_,h,_=>by
   obtain ⟨rfl,rfl,rfl⟩:=trodAll_nil h;exact trodAll_mk0
 | t::ts,vs,ds,ps,hr,h,hlt=>by
   obtain ⟨v,vs',d,ds',p,q,rfl,rfl,rfl,h1,h2⟩:=trodAll_cons h;simp only [List.all_cons,Bool.and_eq_true,decide_eq_true_eq] at hr
   exact trodAll_cons_mk (Below.trod hl hr.1.1 hr.1.2 h1 hb (fun x hx=>hlt x (by simp [hx]))) (trodAll_below hl hb ts vs' ds' q (by simpa using hr.2) h2 (fun x hx=>hlt x (by simp [hx])))
theorem law_post {f:Func} {s:ChangeSpec} {bt:TypeId} {W W':World} {args:Array Value} {ds gs:List (DataW H)} {before:List MemPlace}
 (hl:laidOutB P=true) (hv:s.vars= []) (hread:f.params.toList.all (fun t=>P.readableRec t&&decide (t<P.types.size))=true) (hres:f.resultTypes= #[bt]) (hbt:P.underlying bt=some .bool)
 (hspec:s.fn H ds={results:= [.lit (.bool true)],args:=ds})
 (hW:DataW.Whole enc P f.params.toList s.vars false W args.toList ds gs before) (hb:Below W.heap.size W W'):s.post enc P f false true false false W args (.bool true) W':=by
 have hW0:=hW;have hlt:=fun p hp=>hW.lt p hp;obtain ⟨p,q,hA,hV,hpq,_,_⟩:=hW;rw [hv] at hV;obtain ⟨rfl,rfl⟩:=trodVars_none hV;have hp:before=p:=by simpa using hpq
 subst hp;refine ⟨ds,[],before,[],before,[],hW0,?_,?_,?_,hb.frame _,fun h=>by cases h⟩
 ·simp only [List.append_nil,hspec,hres]
  exact trodAll_mk1 (shut_bool hbt _)
 ·simp only [List.append_nil,hspec];exact trodAll_below hl hb _ _ _ _ hread hA hlt
 ·simp only [List.append_nil,hspec,hv];first | rfl | exact ⟨rfl,rfl⟩
theorem open_num_slice {kd:IntKind} {t e:TypeId} {W:World} {v:Value} {d:DataW H} {ps:List MemPlace} (ht:P.underlying t=some (.slice e)) (he:P.underlying e=some (.int kd)) (hc:P.cellsOf e=1) {base:Nat}
 (hok:Value.okWide P W .any base t v) (h:DataW.Trod enc P W 0 (fun _=>true) true t v d ps) :
 ∃a len cap zs,v=.slice a len cap∧Base.Nums kd W a len zs∧len≤maxLen∧cap≤maxLen∧len≤cap∧∀n∈zs,(Lit.int kd n).wf=true:=by
 obtain ⟨a,len,cap,rfl⟩:=okWide_slice ht hok;obtain ⟨fuel,hf⟩:=h;rcases open_ints ht he hc hf with ⟨hcs,_⟩ | ⟨x,l,c,zs,hcs,_,hl,hm,hz,hx,hcell,hwz⟩
 ·simp [Value.cells] at hcs;obtain ⟨rfl,rfl,rfl⟩:=hcs;exact ⟨none,0,0,[],rfl,Base.Nums.nil _ _ _,by decide,by decide,Nat.le_refl _,by simp⟩
 ·simp [Value.cells] at hcs;obtain ⟨rfl,rfl,rfl⟩:=hcs;simp at hz;refine ⟨some x,len,cap,zs.take len,rfl,⟨by simp;omega,fun h0=>?_⟩,by omega,hm,hl,fun n hn=>hwz n (List.mem_of_mem_take hn)⟩;obtain ⟨b,off,spot⟩:=x
  have c0:=hcell 0 (by omega);have hspot:spot=none:=by simpa [Addr.add] using World.cell?_spot c0
  subst hspot;refine ⟨b,off,rfl,?_,fun k hk=>?_⟩
  ·rcases Nat.lt_or_ge b W.heap.size with hb | hb
   ·exact hb
   ·exfalso;have:W.heap[b]?=none:=Array.getElem?_eq_none hb;simp [World.cell?,Addr.add,this] at c0
  ·have:=hcell k (by omega);rw [List.getElem?_take_of_lt hk];have e2:Addr.add ⟨b,off,none⟩ k=⟨b,off+k,none⟩:=by
    unfold Addr.add;by_cases h:k=0<;>simp [h]
   rw [e2] at this;simpa using this
end
end Go.Proofs.YtnabkcglnbdfeaaGreatDoor.Frame
namespace Go.Proofs.YtnabkcglnbdfeaaGreatDoor.Txt
open Go.RowKit Base
def lowN (n:Int):Int:=if 65≤n∧n≤90 then n+32 else n
def lowB (b:UInt8):UInt8:=if 65≤b.toNat∧b.toNat≤90 then b+32 else b
theorem lowB_toNat (b:UInt8):((lowB b).toNat:Int)=lowN b.toNat:=by
 unfold lowB lowN;by_cases h:65≤b.toNat∧b.toNat≤90
 ·rw [if_pos h,if_pos (by omega),UInt8.toNat_add];have:(32:UInt8).toNat=32:=rfl;omega
 ·rw [if_neg h,if_neg (by omega)]
theorem len (s:ByteArray):s.data.toList.length=s.size:=by simp
theorem len_mk (l:List UInt8):(ByteArray.mk l.toArray).size=l.length:=by rw [←len]
def low (l:List UInt8):List UInt8:=l.map lowB
def lower (s:ByteArray):ByteArray:=⟨(low s.data.toList).toArray⟩
theorem lower_list (s:ByteArray):(lower s).data.toList=low s.data.toList:=rfl
def same (a b:ByteArray):Bool:=low a.data.toList==low b.data.toList
theorem ba_ext {a b:ByteArray} (h:a.data.toList=b.data.toList):a=b:=by cases a;cases b;simp at h;rw [h]
theorem same_iff (a b:ByteArray):same a b=true↔lower a=lower b:=by unfold same;rw [beq_iff_eq];exact ⟨fun h=>ba_ext (by rw [lower_list,lower_list,h]),fun h=>by rw [←lower_list,←lower_list,h]⟩
theorem same_sizes {a b:ByteArray} (h:same a b=true):a.size=b.size:=by
 have:=congrArg List.length (beq_iff_eq.1 h)
 rwa [low,low,List.length_map,List.length_map,len,len] at this
theorem same_comm (a b:ByteArray):same a b=same b a:=by rw [Bool.eq_iff_iff,same_iff,same_iff];exact eq_comm
def trimL (p:UInt8→Bool) (l:List UInt8):List UInt8:=((l.dropWhile p).reverse.dropWhile p).reverse
def trimB (p:UInt8→Bool) (s:ByteArray):ByteArray:=⟨(trimL p s.data.toList).toArray⟩
theorem trimB_list (p:UInt8→Bool) (s:ByteArray):(trimB p s).data.toList=trimL p s.data.toList:=rfl
theorem dropWhile_all {p:UInt8→Bool}:∀{l r:List UInt8},(∀x∈l,p x=true)→(l++r).dropWhile p=r.dropWhile p
 | [],_,_=>rfl
 | x::l,r,h=>by
   rw [List.cons_append,List.dropWhile_cons,if_pos (h x (by simp))]
   exact dropWhile_all fun y hy=>h y (by simp [hy])
theorem dropWhile_stop {p:UInt8→Bool} {x:UInt8} {l:List UInt8} (h:p x=false):(x::l).dropWhile p=x::l:=by rw [List.dropWhile_cons,if_neg (by simp [h])]
theorem trimL_mid (p:UInt8→Bool) (A M B:List UInt8) (hA:∀x∈A,p x=true) (hB:∀x∈B,p x=true) (hM:M= []∨((∃x r,M=x::r∧p x=false)∧∃x r,M=r ++ [x]∧p x=false)) :
 trimL p (A++(M++B))=M:=by
 unfold trimL;rw [dropWhile_all hA];rcases hM with rfl | ⟨⟨x,r,hx,px⟩,y,t,hy,py⟩
 ·rw [List.nil_append,←List.append_nil B,dropWhile_all hB];rfl
 ·have e1:(M++B).dropWhile p=M++B:=by rw [hx,List.cons_append];exact dropWhile_stop px
  rw [e1,List.reverse_append,dropWhile_all (by intro z hz;exact hB z (by simpa using hz))];have e2:M.reverse.dropWhile p=M.reverse:=by rw [hy,List.reverse_append,List.reverse_singleton,List.singleton_append];exact dropWhile_stop py
  rw [e2,List.reverse_reverse]
theorem trim_cut (p:UInt8→Bool) (s:ByteArray) (a b:Nat) (hab:a≤b) (hb:b≤s.size) (h1:∀x∈s.data.toList.take a,p x=true) (h2:∀x∈s.data.toList.drop b,p x=true)
 (h3:a<b→(∃h:a<s.size,p s[a]=false)∧∃h:b-1<s.size,p s[b-1]=false):s.extract a b=trimB p s:=by
 apply ba_ext;rw [trimB_list,Lib.extract_data];generalize hl:s.data.toList=l at *;have hsz:s.size=l.length:=by rw [←hl,len]
 have e:l=l.take a++((l.drop a).take (b-a)++l.drop b):=by
  have e1:l.drop b=(l.drop a).drop (b-a):=by rw [List.drop_drop];congr 1;omega
  rw [e1,List.take_append_drop,List.take_append_drop]
 have key:=trimL_mid p (l.take a) ((l.drop a).take (b-a)) (l.drop b) h1 h2 (by
  rcases Nat.lt_or_ge a b with hlt | hge
  ·obtain ⟨⟨ha,p1⟩,hb',p2⟩:=h3 hlt;have g1:s[a]=l[a]'(by omega):=by subst hl;rfl
   have g2:s[b-1]=l[b-1]'(by omega):=by subst hl;rfl
   right;refine ⟨⟨l[a]'(by omega),(l.drop (a+1)).take (b-a-1),?_,by rw [←g1];exact p1⟩,⟨l[b-1]'(by omega),(l.drop a).take (b-a-1),?_,by rw [←g2];exact p2⟩⟩
   ·rw [List.drop_eq_getElem_cons (by omega)];obtain ⟨d,hd⟩:∃d,b-a=d+1:=⟨b-a-1,by omega⟩;rw [hd];rfl
   ·have:(b-a-1)<(l.drop a).length:=by simp;omega
    have e3:=List.take_succ_eq_append_getElem this;rw [show b-a=b-a-1+1 by omega,e3]
    congr 2
    rw [List.getElem_drop]
    congr 1
    omega
  ·left;rw [show b-a=0 by omega];rfl)
 rw [←e] at key;exact key.symm
def parts (c:UInt8):List UInt8→List (List UInt8)
 | []=> [[]]
 | b::l=>if b=c then []::parts c l else match parts c l with
   | []=> [[b]]
   | p::ps=>(b::p)::ps
theorem parts_none (c:UInt8):∀l:List UInt8,c∉l→parts c l= [l]
 | [],_=>rfl
 | b::l,h=>by
   simp only [List.mem_cons,not_or] at h;rw [parts,if_neg (fun e=>h.1 e.symm),parts_none c l h.2]
theorem parts_cut (c:UInt8):∀(a r:List UInt8),c∉a→parts c (a++c::r)=a::parts c r
 | [],r,_=>by rw [List.nil_append,parts,if_pos rfl]
 | b::a,r,h=>by
   simp only [List.mem_cons,not_or] at h;rw [List.cons_append,parts,if_neg (fun e=>h.1 e.symm),parts_cut c a r h.2]
theorem parts_length (c:UInt8):∀l:List UInt8,(parts c l).length=l.count c+1
 | []=>rfl
 | b::l=>by
   rw [parts];have ih:=parts_length c l;by_cases h:b=c
   ·subst h;rw [if_pos rfl,List.length_cons,ih,List.count_cons_self]
   ·rw [if_neg h,List.count_cons_of_ne h];cases hp:parts c l with
    | nil=>rw [hp] at ih;simp at ih
    | cons p ps=>rw [hp] at ih;simpa using ih
theorem parts_le (c:UInt8) (l:List UInt8):(parts c l).length≤l.length+1:=by rw [parts_length];have:=List.count_le_length (a:=c) (l:=l);omega
theorem parts_size (c:UInt8):∀l:List UInt8,∀p∈parts c l,p.length≤l.length
 | [],p,h=>by simp [parts] at h;subst h;simp
 | b::l,p,h=>by
   rw [parts] at h;have ih:=parts_size c l;split at h
   ·rcases List.mem_cons.1 h with rfl | h
    ·simp
    ·have:=ih p h;simp;omega
   ·cases hp:parts c l with
    | nil=>rw [hp] at h;simp at h;subst h;simp
    | cons q qs=>
      rw [hp] at h ih;rcases List.mem_cons.1 h with rfl | h
      ·have:=ih q (by simp);simp;omega
      ·have:=ih p (by simp [h]);simp;omega
def ba (l:List UInt8):ByteArray:=⟨l.toArray⟩
theorem ba_size (l:List UInt8):(ba l).size=l.length:=len_mk l
theorem splitB_parts (c:UInt8):∀(k:Nat) (s:ByteArray),Lib.countB s ⟨#[c]⟩=k→Lib.splitB ⟨#[c]⟩ 0 k s=(parts c s.data.toList).map ba:=by
 have hsz:(ByteArray.mk #[c]).size=1:=rfl;have hix:∀s:ByteArray,Lib.indexB s ⟨#[c]⟩=Lib.indexByte s.data.toList c:=fun s=>Lib.index_one _ _
 have miss:∀s:ByteArray,Lib.indexByte s.data.toList c= -1→parts c s.data.toList= [s.data.toList]:=fun s h=>parts_none c _ (fun hm=>by
  obtain ⟨k,hk,e⟩:=List.getElem_of_mem hm
  exact Lib.indexByte_none h k (by rw [List.getElem?_eq_getElem hk,e]))
 intro k
 induction k with
 | zero=>
   intro s h;rw [Lib.splitB_zero];by_cases hi:Lib.indexByte s.data.toList c= -1
   ·rw [miss s hi];rfl
   ·have:=Lib.indexByte_ge s.data.toList c;obtain ⟨i,hi'⟩:∃i:Nat,Lib.indexByte s.data.toList c=i:=⟨(Lib.indexByte s.data.toList c).toNat,by omega⟩
    have:=Lib.countB_hit s ⟨#[c]⟩ i (by rw [hsz];decide) (by rw [hix,hi']);omega
 | succ k ih=>
   intro s h;by_cases hi:Lib.indexByte s.data.toList c= -1
   ·have:=Lib.countB_miss s ⟨#[c]⟩ (by rw [hix,hi]);omega
   ·have h0:=Lib.indexByte_ge s.data.toList c;obtain ⟨i,hi'⟩:∃i:Nat,Lib.indexByte s.data.toList c=i:=⟨(Lib.indexByte s.data.toList c).toNat,by omega⟩
    have h1:=Lib.countB_hit s ⟨#[c]⟩ i (by rw [hsz];decide) (by rw [hix,hi']);rw [Lib.splitB_hit _ _ _ _ i (by rw [hix,hi']),ih _ (by omega),hsz];obtain ⟨g1,g2⟩:=Lib.indexByte_some hi';have hlt:i<s.data.toList.length:=by
     rcases Nat.lt_or_ge i s.data.toList.length with h | h
     ·exact h
     ·rw [List.getElem?_eq_none h] at g1;cases g1
    have e1:s.data.toList=s.data.toList.take i++c::s.data.toList.drop (i+1):=by
     have hc:s.data.toList[i]=c:=by rw [List.getElem?_eq_getElem hlt] at g1;exact Option.some.inj g1
     conv=>lhs;rw [←List.take_append_drop i s.data.toList,List.drop_eq_getElem_cons hlt,hc]
    have hno:c∉s.data.toList.take i:=fun hm=>by
     obtain ⟨k,hk,e⟩:=List.getElem_of_mem hm;have hk':k<i:=by simp at hk;omega
     exact g2 k hk' (by rw [List.getElem?_eq_getElem (by omega)];rw [List.getElem_take] at e;rw [e])
    have e2:parts c s.data.toList=s.data.toList.take i::parts c (s.data.toList.drop (i+1)):=by
     conv=>lhs;rw [e1]
     exact parts_cut c _ _ hno
    rw [e2,List.map_cons]
    congr 1
    ·apply ba_ext;rw [Lib.extract_data];simp [ba]
    ·congr 2
     rw [Lib.extract_data];rw [List.take_of_length_le];rw [List.length_drop,len];omega
theorem countB_parts (c:UInt8) (s:ByteArray):Lib.countB s ⟨#[c]⟩+1=(parts c s.data.toList).length:=by have h:=congrArg List.length (splitB_parts c _ s rfl);rw [Lib.splitB_all _ (show 1≤(ByteArray.mk #[c]).size from Nat.le_refl 1) 0 _ s rfl,List.length_map] at h;exact h
def blank (b:UInt8):Bool:=b==32||b==9
def trim (s:ByteArray):ByteArray:=trimB blank s
def partsOf (s:ByteArray):List ByteArray:=(parts 44 s.data.toList).map fun l=>trim (ba l)
def list (vs:List ByteArray):List ByteArray:=vs.flatMap partsOf
abbrev Fld:=ByteArray × ByteArray
def find (l:List Fld) (name:ByteArray):List ByteArray:=(l.filter fun f=>same f.1 name).map (·.2)
def one (names:List ByteArray) (s:ByteArray):Bool:=names.any fun n=>same n s
def without (l:List Fld) (names:List ByteArray):List Fld:=l.filter fun f=>!one names f.1
theorem dropWhile_le (p:UInt8→Bool) (l:List UInt8):(l.dropWhile p).length≤l.length:=(List.dropWhile_sublist p).length_le
theorem trimL_length (p:UInt8→Bool) (l:List UInt8):(trimL p l).length≤l.length:=by unfold trimL;have h1:=dropWhile_le p l;have h2:=dropWhile_le p (l.dropWhile p).reverse;simp only [List.length_reverse] at h2 ⊢;omega
theorem trim_size (p:UInt8→Bool) (s:ByteArray):(trimB p s).size≤s.size:=by
 have:=trimL_length p s.data.toList
 rwa [trimB,len_mk,←len]
def Strs (w:World) (a:Option Addr) (n:Nat) (ss:List ByteArray):Prop:=
 ss.length=n∧(0<n→∃b off,a=some ⟨b,off,none⟩∧b<w.heap.size∧∀k,k<n→w.cell? ⟨b,off+k,none⟩=some (.string (ss[k]?.getD ByteArray.empty)))
theorem Strs.below {w w':World} {a:Option Addr} {n:Nat} {ss:List ByteArray} (h:Strs w a n ss) (hb:Below w.heap.size w w'):Strs w' a n ss:=by refine ⟨h.1,fun hn=>?_⟩;obtain ⟨b,off,e,hlt,hc⟩:=h.2 hn;exact ⟨b,off,e,Nat.lt_of_lt_of_le hlt hb.size,fun k hk=>(hb.cell (p:=⟨b,off+k,none⟩) hlt).trans (hc k hk)⟩
theorem Strs.new (w:World) (cs:Array Value) (t:TypeId) (ss:List ByteArray) (n:Nat) (hn:ss.length=n) (h:∀k,k<n→cs[k]?=some (.string (ss[k]?.getD ByteArray.empty))) :
 Strs (w.alloc (.cells cs t)) (some ⟨w.heap.size,0,none⟩) n ss:=by
 refine ⟨hn,fun _=>⟨w.heap.size,0,rfl,by simp,fun k hk=>?_⟩⟩;rw [Nat.zero_add]
 exact (cell_of_row (w.alloc (.cells cs t)) w.heap.size k cs t (0,0) (heap_alloc_new w _)).trans (h k hk)
theorem Strs.made (w:World) (g:Nat) (hg:g=w.heap.size) (t:TypeId) (ss:List ByteArray) (n:Nat) (hn:ss.length=n):Strs (w.alloc (.cells ((ss.map Value.string).toArray) t)) (some ⟨g,0,none⟩) n ss:=by subst hg;refine Strs.new w _ t ss n hn fun k hk=>?_;simp [List.getElem?_map,List.getElem?_eq_getElem (show k<ss.length by omega)]
theorem Strs.two (w:World) (g:Nat) (hg:g=w.heap.size) (t:TypeId) (x y:ByteArray):Strs (w.alloc (.cells #[.string x,.string y] t)) (some ⟨g,0,none⟩) 2 [x,y]:=Strs.made w g hg t [x,y] 2 rfl
theorem Strs.of_own {w:World} {base:Nat} {e:TypeId} {v:Value} {n:Nat} {ss:List ByteArray} (h:w.ownsRow base e 1 v n (ss.map Value.string)):∃A c,v=.slice A n c∧Strs w A n ss:=by
 have hl:ss.length=n:=by simpa using h.1
 rcases h.2 with ⟨rfl,rfl⟩ | ⟨g,cap,cur,rfl,_,hh,_,_,_,ht⟩
 ·exact ⟨none,0,rfl,hl,fun h=>absurd h (by omega)⟩
 ·refine ⟨_,_,rfl,hl,fun _=>⟨g,0,rfl,?_,fun k hk=>?_⟩⟩
  ·rcases Nat.lt_or_ge g w.heap.size with hlt | hge
   ·exact hlt
   ·rw [Array.getElem?_eq_none hge] at hh;cases hh
  ·rw [Nat.zero_add,cell_of_row w g k cur e (0,0) hh];have h1:(ss.map Value.string)[k]?=some (.string (ss[k]?.getD ByteArray.empty)):=by
    rw [List.getElem?_map,List.getElem?_eq_getElem (by omega)];rfl
   rw [←ht,List.getElem?_take_of_lt (by omega)] at h1;simpa using h1
theorem Strs.grown {w w':World} {b off n:Nat} {ss:List ByteArray} (h:Strs w (some ⟨b,off,none⟩) n ss) {row:Option Nat} (hg:w.grownBy w' row) (hne:row≠some b):Strs w' (some ⟨b,off,none⟩) n ss:=by
 refine ⟨h.1,fun hn=>?_⟩;obtain ⟨b',off',e,hlt,hc⟩:=h.2 hn;obtain ⟨rfl,rfl⟩:b=b'∧off=off':=by simpa using e
 exact ⟨b,off,rfl,Nat.lt_of_lt_of_le hlt hg.size,fun k hk=>hg.cell (hc k hk) (fun e=>hne e.symm)⟩
theorem strs_snoc (ss:List ByteArray) (k:Nat) (h:k<ss.length):ss.take (k+1)=ss.take k ++ [ss[k]?.getD ByteArray.empty]:=by rw [List.take_succ_eq_append_getElem h,List.getElem?_eq_getElem h];rfl
theorem grown_of_below {w w':World} (hb:Below w.heap.size w w'):w.grownBy w' none:=⟨hb.os,hb.tape,hb.output,hb.size,fun k hk _=>hb.block k hk⟩
theorem own_below {w w':World} {base:Nat} {e:TypeId} {size:Nat} {v:Value} {n:Nat} {xs:List Value} (h:w.ownsRow base e size v n xs) (hb:Below w.heap.size w w'):w'.ownsRow base e size v n xs:=
 h.kept (grown_of_below hb) (Classical.em _)
theorem map_snoc {α β:Type} (f:α→β) (d:α) (l:List α) (j:Nat) (h:j<l.length):(l.map f).take (j+1)=(l.map f).take j ++ [f (l[j]?.getD d)]:=by rw [List.take_succ_eq_append_getElem (by rw [List.length_map];exact h),List.getElem_map,List.getElem?_eq_getElem h];rfl
def cells (fs:List Fld):List Value:=fs.flatMap fun f=> [.string f.1,.string f.2]
theorem cells_length:∀fs:List Fld,(cells fs).length=fs.length*2
 | []=>rfl
 | f::fs=>by simp [cells] at *;have:=cells_length fs;simp [cells] at this;omega
theorem cells_snoc (fs:List Fld) (f:Fld):cells (fs ++ [f])=cells fs ++ [.string f.1,.string f.2]:=by simp [cells]
theorem cells_append (fs gs:List Fld):cells (fs++gs)=cells fs++cells gs:=by simp [cells]
def dflt:Fld:=(ByteArray.empty,ByteArray.empty)
theorem cells_at:∀(fs:List Fld) (k:Nat),k<fs.length→(cells fs)[k*2]?=some (.string (fs[k]?.getD dflt).1)∧(cells fs)[k*2+1]?=some (.string (fs[k]?.getD dflt).2)
 | [],k,h=>by simp at h
 | f::fs,0,_=>by simp [cells]
 | f::fs,k+1,h=>by
   have:=cells_at fs k (by simpa using h);have e:cells (f::fs)=.string f.1 :: .string f.2::cells fs:=by simp [cells]
   rw [e,show (k+1)*2=k*2+2 by omega,show k*2+2+1=(k*2+1)+2 by omega];simpa using this
def Flds (w:World) (a:Option Addr) (n:Nat) (fs:List Fld):Prop:=
 fs.length=n∧(0<n→∃b off,a=some ⟨b,off,none⟩∧b<w.heap.size∧∀k,k<n→w.cell? ⟨b,off+k*2,none⟩=some (.string (fs[k]?.getD dflt).1)∧w.cell? ⟨b,off+k*2+1,none⟩=some (.string (fs[k]?.getD dflt).2))
theorem Flds.nil (w:World) (a:Option Addr):Flds w a 0 []:=⟨rfl,fun h=>absurd h (by omega)⟩
theorem Flds.below {w w':World} {a:Option Addr} {n:Nat} {fs:List Fld} (h:Flds w a n fs) (hb:Below w.heap.size w w'):Flds w' a n fs:=by refine ⟨h.1,fun hn=>?_⟩;obtain ⟨b,off,e,hlt,hc⟩:=h.2 hn;exact ⟨b,off,e,Nat.lt_of_lt_of_le hlt hb.size,fun k hk=>⟨(hb.cell (p:=⟨b,off+k*2,none⟩) hlt).trans (hc k hk).1,(hb.cell (p:=⟨b,off+k*2+1,none⟩) hlt).trans (hc k hk).2⟩⟩
theorem Flds.of_cells {w:World} {b:Nat} {fs:List Fld} {n:Nat} (hn:fs.length=n) (hb:b<w.heap.size) (h:∀j,j<n*2→w.cell? ⟨b,j,none⟩=(cells fs)[j]?):Flds w (some ⟨b,0,none⟩) n fs:=by
 refine ⟨hn,fun _=>⟨b,0,rfl,hb,fun k hk=>?_⟩⟩
 have:=cells_at fs k (by omega);rw [Nat.zero_add,h (k*2) (by omega),h (k*2+1) (by omega)];exact this
theorem Flds.of_own {w:World} {base:Nat} {e:TypeId} {v:Value} {n:Nat} {fs:List Fld} (h:w.ownsRow base e 2 v n (cells fs)):∃A c,v=.slice A n c∧Flds w A n fs:=by
 have hl:fs.length=n:=by have:=h.1;rw [cells_length] at this;omega
 rcases Nat.eq_zero_or_pos n with h0 | hp
 ·subst h0;rcases h.2 with ⟨rfl,_⟩ | ⟨g,cap,cur,rfl,_⟩
  ·exact ⟨none,0,rfl,hl,fun h=>absurd h (by omega)⟩
  ·exact ⟨_,_,rfl,hl,fun h=>absurd h (by omega)⟩
 ·obtain ⟨g,cap,rfl,_,hg⟩:=h.form hp;exact ⟨_,_,rfl,Flds.of_cells hl hg fun j hj=>h.cellAt j hj⟩
theorem flds_snoc (fs:List Fld) (k:Nat) (h:k<fs.length):fs.take (k+1)=fs.take k ++ [fs[k]?.getD dflt]:=by rw [List.take_succ_eq_append_getElem h,List.getElem?_eq_getElem h];rfl
end Go.Proofs.YtnabkcglnbdfeaaGreatDoor.Txt
namespace Go.Proofs.YtnabkcglnbdfeaaGreatDoor.Txt
open Go.RowKit Base
def nums (bs:List UInt8):List Int:=bs.map fun b=>(b.toNat:Int)
theorem nums_at (bs:List UInt8) (k:Nat) (h:k<bs.length):(nums bs)[k]?.getD 0=(bs[k].toNat:Int):=by rw [nums,List.getElem?_map,List.getElem?_eq_getElem h];rfl
theorem conv_str (w:World) (a:Option Addr) (n cap:Nat) (bs:List UInt8) (h:Nums .u8 w a n (nums bs)):(convert 22 9 (.slice a n cap)).run Tryz.prog w=.ok (.string (ba bs)) w:=by
 have hl:bs.length=n:=by have:=h.1;rwa [nums,List.length_map] at this
 have key:∀b off,(∀k,k<n→w.cell? ⟨b,off+k,none⟩=some (.int .u8 ((nums bs)[k]?.getD 0)))→(convert 22 9 (.slice (some ⟨b,off,none⟩) n cap)).run Tryz.prog w=.ok (.string (ba bs)) w:=by
  intro b off hc
  have:=run_convert_bytes_back (P:=Tryz.prog) w 22 9 5 ⟨b,off,none⟩ cap bs Tryz.underlying22 Tryz.underlying5 Tryz.underlying9 (fun j hj=>by
   have e:(⟨b,off,none⟩:Addr).add j=⟨b,off+j,none⟩:=by unfold Addr.add;by_cases h:j=0<;>simp [h]
   rw [e,hc j (by omega),nums_at bs j hj])
  rw [hl] at this;exact this
 rcases Nat.eq_zero_or_pos n with h0 | hp
 ·subst h0;obtain rfl:bs= []:=List.length_eq_zero_iff.1 hl;cases a with
  | none=>rw [run_convert_bytes_string w 22 9 5 none 0 cap Tryz.underlying22 Tryz.underlying5 Tryz.underlying9];rfl
  | some x=>
    exact run_convert_bytes_back (P:=Tryz.prog) w 22 9 5 x cap [] Tryz.underlying22 Tryz.underlying5 Tryz.underlying9 (fun j hj=>by simp at hj)
 ·obtain ⟨b,off,rfl,_,hc⟩:=h.2 hp;exact key b off hc
def Lines (w:World) (a:Option Addr) (n:Nat) (ls:List (List UInt8)):Prop:=
 ls.length=n∧(0<n→∃b off,a=some ⟨b,off,none⟩∧b<w.heap.size∧∀k,k<n→∃ak ck,w.cell? ⟨b,off+k,none⟩=some (.slice ak (ls[k]?.getD []).length ck)∧Nums .u8 w ak (ls[k]?.getD []).length (nums (ls[k]?.getD [])))
end Go.Proofs.YtnabkcglnbdfeaaGreatDoor.Txt
namespace Go.Proofs
open Go.Shelf
def Tryz.lays169_ren:Go.Shelf.Ren:=⟨fun | 169=>175 | n=>n,fun | 70=>181 | 9=>9 | 0=>0 | 72=>183 | 37=>22 | 127=>207 | 3=>3 | 5=>5 | n=>n,fun | n=>n⟩
def Tryz.lays231_ren:Go.Shelf.Ren:=⟨fun | 231=>318 | n=>n,fun | 9=>9 | 5=>5 | 3=>3 | 4=>4 | n=>n,fun | n=>n⟩
def Tryz.lays161_ren:Go.Shelf.Ren:=⟨fun | 161=>303 | 231=>318 | 227=>319 | 233=>320 | 235=>321 | 228=>327 | 197=>260 | 151=>330 | 260=>281 | 152=>325 | 137=>332 | 119=>333 | 224=>284 | 225=>283 | 217=>282 | 266=>304 | n=>n,fun | 9=>9 | 4=>4 | 3=>3 | 5=>5 | 117=>297 | 116=>296 | 0=>0 | 124=>300 | 105=>258 | 21=>21 | 119=>284 | 46=>108 | 139=>287 | 138=>286 | n=>n,fun | 3=>1 | 4=>2 | n=>n⟩
theorem Tryz.lays161:Go.Proofs.Lays.n161 Tryz.prog Tryz.lays161_ren:={
 mixed:=by kernel_rfl
 f119:=Tryz.func333.trans (congrArg some (by kernel_rfl))
 f137:=Tryz.func332.trans (congrArg some (by kernel_rfl))
 f151:=Tryz.func330.trans (congrArg some (by kernel_rfl))
 f152:=Tryz.func325.trans (congrArg some (by kernel_rfl))
 f161:=Tryz.func303.trans (congrArg some (by kernel_rfl))
 f197:=Tryz.func260.trans (congrArg some (by kernel_rfl))
 f217:=Tryz.func282.trans (congrArg some (by kernel_rfl))
 f224:=Tryz.func284.trans (congrArg some (by kernel_rfl))
 f225:=Tryz.func283.trans (congrArg some (by kernel_rfl))
 f227:=Tryz.func319.trans (congrArg some (by kernel_rfl))
 f228:=Tryz.func327.trans (congrArg some (by kernel_rfl))
 f231:=Tryz.func318.trans (congrArg some (by kernel_rfl))
 f233:=Tryz.func320.trans (congrArg some (by kernel_rfl))
 f235:=Tryz.func321.trans (congrArg some (by kernel_rfl))
 f260:=Tryz.func281.trans (congrArg some (by kernel_rfl))
 f266:=Tryz.func304.trans (congrArg some (by kernel_rfl))
 t0:=Tryz.underlying0
 a0:=Tryz.isAgg0
 z0:=Tryz.sizeOf0
 v0:=Tryz.zeroValue0
 t3:=Tryz.underlying3
 a3:=Tryz.isAgg3
 z3:=Tryz.sizeOf3
 v3:=Tryz.zeroValue3
 t4:=Tryz.underlying4
 a4:=Tryz.isAgg4
 z4:=Tryz.sizeOf4
 v4:=Tryz.zeroValue4
 t5:=Tryz.underlying5
 a5:=Tryz.isAgg5
 z5:=Tryz.sizeOf5
 v5:=Tryz.zeroValue5
 t9:=Tryz.underlying9
 a9:=Tryz.isAgg9
 z9:=Tryz.sizeOf9
 v9:=Tryz.zeroValue9
 t21:=Tryz.underlying21
 a21:=Tryz.isAgg21
 z21:=Tryz.sizeOf21
 v21:=Tryz.zeroValue21
 t46:=Tryz.underlying108
 a46:=Tryz.isAgg108
 z46:=Tryz.sizeOf108
 v46:=Tryz.zeroValue108
 t105:=Tryz.underlying258
 a105:=Tryz.isAgg258
 z105:=Tryz.sizeOf258
 v105:=Tryz.zeroValue258
 t116:=Tryz.underlying296
 a116:=Tryz.isAgg296
 z116:=Tryz.sizeOf296
 t117:=Tryz.underlying297
 a117:=Tryz.isAgg297
 z117:=Tryz.sizeOf297
 v117:=Tryz.zeroValue297
 t119:=Tryz.underlying284
 a119:=Tryz.isAgg284
 z119:=Tryz.sizeOf284
 t124:=Tryz.underlying300
 a124:=Tryz.isAgg300
 z124:=Tryz.sizeOf300
 v124:=Tryz.zeroValue300
 t138:=Tryz.underlying286
 a138:=Tryz.isAgg286
 z138:=Tryz.sizeOf286
 v138:=Tryz.zeroValue286
 t139:=Tryz.underlying287
 a139:=Tryz.isAgg287
 z139:=Tryz.sizeOf287
 v139:=Tryz.zeroValue287
 g3:=by kernel_rfl
 g4:=by kernel_rfl}
open Go.RowKit in
theorem Tryz.strings_TrimLeft_one (s:ByteArray) (c:UInt8) (hc:c.toNat<128) (w:World) :
 Calls Tryz.prog 303 #[.string s,.string ⟨#[c]⟩] w fun e w'=>e=.returned (.string ⟨(Lib.trimLeftB s.data.toList c).toArray⟩)∧w'=w:=Any.strings_TrimLeft_one Tryz.lays161 s c hc w
def Tryz.lays119_ren:Go.Shelf.Ren:=⟨fun | 119=>333 | n=>n,fun | 21=>21 | 4=>4 | n=>n,fun | n=>n⟩
theorem Tryz.lays119:Go.Proofs.Lays.n119 Tryz.prog Tryz.lays119_ren:={
 mixed:=by kernel_rfl
 f119:=Tryz.func333.trans (congrArg some (by kernel_rfl))
 t4:=Tryz.underlying4
 a4:=Tryz.isAgg4
 z4:=Tryz.sizeOf4
 v4:=Tryz.zeroValue4
 t21:=Tryz.underlying21
 a21:=Tryz.isAgg21
 z21:=Tryz.sizeOf21
 v21:=Tryz.zeroValue21}
theorem Tryz.utf8_ValidRune (r:Int) (w:World) :
 Calls Tryz.prog 333 #[.int .i32 r] w fun e w'=>e=.returned (.bool (Lib.validRune r))∧w'=w:=Any.utf8_ValidRune Tryz.lays119 r w
def Tryz.lays137_ren:Go.Shelf.Ren:=⟨fun | 137=>332 | 217=>282 | 266=>304 | n=>n,fun | 9=>9 | 5=>5 | 3=>3 | n=>n,fun | n=>n⟩
theorem Tryz.lays137:Go.Proofs.Lays.n137 Tryz.prog Tryz.lays137_ren:={
 mixed:=by kernel_rfl
 f137:=Tryz.func332.trans (congrArg some (by kernel_rfl))
 f217:=Tryz.func282.trans (congrArg some (by kernel_rfl))
 f266:=Tryz.func304.trans (congrArg some (by kernel_rfl))
 t3:=Tryz.underlying3
 a3:=Tryz.isAgg3
 z3:=Tryz.sizeOf3
 v3:=Tryz.zeroValue3
 t5:=Tryz.underlying5
 a5:=Tryz.isAgg5
 z5:=Tryz.sizeOf5
 v5:=Tryz.zeroValue5
 t9:=Tryz.underlying9
 a9:=Tryz.isAgg9
 z9:=Tryz.sizeOf9
 v9:=Tryz.zeroValue9}
open Go.RowKit in
theorem Tryz.strings_IndexByte (s:ByteArray) (c:Int) (w:World) :
 Calls Tryz.prog 332 #[.string s,.int .u8 c] w fun e w'=>e=.returned (.int .i64 (Lib.indexByte s.data.toList c.toNat.toUInt8))∧w'=w:=Any.strings_IndexByte Tryz.lays137 s c w
def Tryz.lays217_ren:Go.Shelf.Ren:=⟨fun | 217=>282 | 266=>304 | n=>n,fun | 9=>9 | 5=>5 | 3=>3 | n=>n,fun | n=>n⟩
def Tryz.lays224_ren:Go.Shelf.Ren:=⟨fun | 224=>284 | n=>n,fun | 3=>3 | n=>n,fun | n=>n⟩
def Tryz.lays314_ren:Go.Shelf.Ren:=⟨fun | 314=>305 | n=>n,fun | 9=>9 | 51=>23 | 3=>3 | 4=>4 | 5=>5 | 46=>108 | n=>n,fun | n=>n⟩
def Tryz.lays267_ren:Go.Shelf.Ren:=⟨fun | 267=>285 | 314=>305 | n=>n,fun | 9=>9 | 3=>3 | 146=>288 | 51=>23 | 4=>4 | 5=>5 | 46=>108 | n=>n,fun | n=>n⟩
def Tryz.lays219_ren:Go.Shelf.Ren:=⟨fun | 219=>262 | 217=>282 | 225=>283 | 224=>284 | 267=>285 | 266=>304 | 314=>305 | n=>n,fun | 9=>9 | 3=>3 | 4=>4 | 5=>5 | 46=>108 | 146=>288 | 51=>23 | n=>n,fun | 1=>0 | n=>n⟩
theorem Tryz.lays219:Go.Proofs.Lays.n219 Tryz.prog Tryz.lays219_ren:={
 mixed:=by kernel_rfl
 f217:=Tryz.func282.trans (congrArg some (by kernel_rfl))
 f219:=Tryz.func262.trans (congrArg some (by kernel_rfl))
 f224:=Tryz.func284.trans (congrArg some (by kernel_rfl))
 f225:=Tryz.func283.trans (congrArg some (by kernel_rfl))
 f266:=Tryz.func304.trans (congrArg some (by kernel_rfl))
 f267:=Tryz.func285.trans (congrArg some (by kernel_rfl))
 f314:=Tryz.func305.trans (congrArg some (by kernel_rfl))
 t3:=Tryz.underlying3
 a3:=Tryz.isAgg3
 z3:=Tryz.sizeOf3
 v3:=Tryz.zeroValue3
 t4:=Tryz.underlying4
 a4:=Tryz.isAgg4
 z4:=Tryz.sizeOf4
 v4:=Tryz.zeroValue4
 t5:=Tryz.underlying5
 a5:=Tryz.isAgg5
 z5:=Tryz.sizeOf5
 v5:=Tryz.zeroValue5
 t9:=Tryz.underlying9
 a9:=Tryz.isAgg9
 z9:=Tryz.sizeOf9
 v9:=Tryz.zeroValue9
 t46:=Tryz.underlying108
 a46:=Tryz.isAgg108
 z46:=Tryz.sizeOf108
 v46:=Tryz.zeroValue108
 t51:=Tryz.underlying23
 a51:=Tryz.isAgg23
 z51:=Tryz.sizeOf23
 v51:=Tryz.zeroValue23
 t146:=Tryz.underlying288
 a146:=Tryz.isAgg288
 z146:=Tryz.sizeOf288
 v146:=Tryz.zeroValue288
 g1:=by kernel_rfl}
open Go.RowKit Go.Lib in
theorem Tryz.stringslite_Index_one (s:ByteArray) (c:UInt8) (w:World) :
 Calls Tryz.prog 262 #[.string s,.string ⟨#[c]⟩] w fun e w'=>e=.returned (.int .i64 (Lib.indexByte s.data.toList c))∧w'=w:=Any.stringslite_Index_one Tryz.lays219 s c w
def Tryz.lays143_ren:Go.Shelf.Ren:=⟨fun | 143=>242 | 219=>262 | 217=>282 | 225=>283 | 224=>284 | 267=>285 | 266=>304 | 314=>305 | n=>n,fun | 9=>9 | 3=>3 | 4=>4 | 5=>5 | 46=>108 | 146=>288 | 51=>23 | n=>n,fun | 1=>0 | n=>n⟩
theorem Tryz.lays143:Go.Proofs.Lays.n143 Tryz.prog Tryz.lays143_ren:={
 mixed:=by kernel_rfl
 f143:=Tryz.func242.trans (congrArg some (by kernel_rfl))
 f217:=Tryz.func282.trans (congrArg some (by kernel_rfl))
 f219:=Tryz.func262.trans (congrArg some (by kernel_rfl))
 f224:=Tryz.func284.trans (congrArg some (by kernel_rfl))
 f225:=Tryz.func283.trans (congrArg some (by kernel_rfl))
 f266:=Tryz.func304.trans (congrArg some (by kernel_rfl))
 f267:=Tryz.func285.trans (congrArg some (by kernel_rfl))
 f314:=Tryz.func305.trans (congrArg some (by kernel_rfl))
 t3:=Tryz.underlying3
 a3:=Tryz.isAgg3
 z3:=Tryz.sizeOf3
 v3:=Tryz.zeroValue3
 t4:=Tryz.underlying4
 a4:=Tryz.isAgg4
 z4:=Tryz.sizeOf4
 v4:=Tryz.zeroValue4
 t5:=Tryz.underlying5
 a5:=Tryz.isAgg5
 z5:=Tryz.sizeOf5
 v5:=Tryz.zeroValue5
 t9:=Tryz.underlying9
 a9:=Tryz.isAgg9
 z9:=Tryz.sizeOf9
 v9:=Tryz.zeroValue9
 t46:=Tryz.underlying108
 a46:=Tryz.isAgg108
 z46:=Tryz.sizeOf108
 v46:=Tryz.zeroValue108
 t51:=Tryz.underlying23
 a51:=Tryz.isAgg23
 z51:=Tryz.sizeOf23
 v51:=Tryz.zeroValue23
 t146:=Tryz.underlying288
 a146:=Tryz.isAgg288
 z146:=Tryz.sizeOf288
 v146:=Tryz.zeroValue288
 g1:=by kernel_rfl}
open Go.RowKit Go.Lib in
theorem Tryz.strings_Index_one (s:ByteArray) (c:UInt8) (w:World) :
 Calls Tryz.prog 242 #[.string s,.string ⟨#[c]⟩] w fun e w'=>e=.returned (.int .i64 (Lib.indexByte s.data.toList c))∧w'=w:=Any.strings_Index_one Tryz.lays143 s c w
def Tryz.lays144_ren:Go.Shelf.Ren:=⟨fun | 144=>307 | 143=>242 | 219=>262 | 217=>282 | 225=>283 | 224=>284 | 267=>285 | 266=>304 | 314=>305 | n=>n,fun | 9=>9 | 4=>4 | 3=>3 | 5=>5 | 46=>108 | 146=>288 | 51=>23 | n=>n,fun | 1=>0 | n=>n⟩
theorem Tryz.lays144:Go.Proofs.Lays.n144 Tryz.prog Tryz.lays144_ren:={
 mixed:=by kernel_rfl
 f143:=Tryz.func242.trans (congrArg some (by kernel_rfl))
 f144:=Tryz.func307.trans (congrArg some (by kernel_rfl))
 f217:=Tryz.func282.trans (congrArg some (by kernel_rfl))
 f219:=Tryz.func262.trans (congrArg some (by kernel_rfl))
 f224:=Tryz.func284.trans (congrArg some (by kernel_rfl))
 f225:=Tryz.func283.trans (congrArg some (by kernel_rfl))
 f266:=Tryz.func304.trans (congrArg some (by kernel_rfl))
 f267:=Tryz.func285.trans (congrArg some (by kernel_rfl))
 f314:=Tryz.func305.trans (congrArg some (by kernel_rfl))
 t3:=Tryz.underlying3
 a3:=Tryz.isAgg3
 z3:=Tryz.sizeOf3
 v3:=Tryz.zeroValue3
 t4:=Tryz.underlying4
 a4:=Tryz.isAgg4
 z4:=Tryz.sizeOf4
 v4:=Tryz.zeroValue4
 t5:=Tryz.underlying5
 a5:=Tryz.isAgg5
 z5:=Tryz.sizeOf5
 v5:=Tryz.zeroValue5
 t9:=Tryz.underlying9
 a9:=Tryz.isAgg9
 z9:=Tryz.sizeOf9
 v9:=Tryz.zeroValue9
 t46:=Tryz.underlying108
 a46:=Tryz.isAgg108
 z46:=Tryz.sizeOf108
 v46:=Tryz.zeroValue108
 t51:=Tryz.underlying23
 a51:=Tryz.isAgg23
 z51:=Tryz.sizeOf23
 v51:=Tryz.zeroValue23
 t146:=Tryz.underlying288
 a146:=Tryz.isAgg288
 z146:=Tryz.sizeOf288
 v146:=Tryz.zeroValue288
 g1:=by kernel_rfl}
open Go.RowKit Go.Lib in
theorem Tryz.strings_Contains_one (s:ByteArray) (c:UInt8) (w:World) :
 Calls Tryz.prog 307 #[.string s,.string ⟨#[c]⟩] w fun e w'=>e=.returned (.bool (decide (0≤Lib.indexByte s.data.toList c)))∧w'=w:=Any.strings_Contains_one Tryz.lays144 s c w
def Tryz.lays220_ren:Go.Shelf.Ren:=⟨fun | 220=>301 | 219=>262 | 217=>282 | 225=>283 | 224=>284 | 267=>285 | 266=>304 | 314=>305 | n=>n,fun | 9=>9 | 4=>4 | 3=>3 | 5=>5 | 46=>108 | 146=>288 | 51=>23 | n=>n,fun | 1=>0 | n=>n⟩
def Tryz.lays145_ren:Go.Shelf.Ren:=⟨fun | 145=>274 | 220=>301 | 219=>262 | 217=>282 | 225=>283 | 224=>284 | 267=>285 | 266=>304 | 314=>305 | n=>n,fun | 9=>9 | 4=>4 | 59=>271 | 3=>3 | 5=>5 | 46=>108 | 146=>288 | 51=>23 | n=>n,fun | 1=>0 | n=>n⟩
def Tryz.lays138_ren:Go.Shelf.Ren:=⟨fun | 138=>241 | 195=>259 | 218=>261 | 143=>242 | 219=>262 | 217=>282 | 225=>283 | 224=>284 | 267=>285 | 266=>304 | 314=>305 | n=>n,fun | 9=>9 | 3=>3 | 4=>4 | 5=>5 | 0=>0 | 46=>108 | 146=>288 | 51=>23 | n=>n,fun | 1=>0 | n=>n⟩
theorem Tryz.lays138:Go.Proofs.Lays.n138 Tryz.prog Tryz.lays138_ren:={
 mixed:=by kernel_rfl
 f138:=Tryz.func241.trans (congrArg some (by kernel_rfl))
 f143:=Tryz.func242.trans (congrArg some (by kernel_rfl))
 f195:=Tryz.func259.trans (congrArg some (by kernel_rfl))
 f217:=Tryz.func282.trans (congrArg some (by kernel_rfl))
 f218:=Tryz.func261.trans (congrArg some (by kernel_rfl))
 f219:=Tryz.func262.trans (congrArg some (by kernel_rfl))
 f224:=Tryz.func284.trans (congrArg some (by kernel_rfl))
 f225:=Tryz.func283.trans (congrArg some (by kernel_rfl))
 f266:=Tryz.func304.trans (congrArg some (by kernel_rfl))
 f267:=Tryz.func285.trans (congrArg some (by kernel_rfl))
 f314:=Tryz.func305.trans (congrArg some (by kernel_rfl))
 t0:=Tryz.underlying0
 a0:=Tryz.isAgg0
 z0:=Tryz.sizeOf0
 v0:=Tryz.zeroValue0
 t3:=Tryz.underlying3
 a3:=Tryz.isAgg3
 z3:=Tryz.sizeOf3
 v3:=Tryz.zeroValue3
 t4:=Tryz.underlying4
 a4:=Tryz.isAgg4
 z4:=Tryz.sizeOf4
 v4:=Tryz.zeroValue4
 t5:=Tryz.underlying5
 a5:=Tryz.isAgg5
 z5:=Tryz.sizeOf5
 v5:=Tryz.zeroValue5
 t9:=Tryz.underlying9
 a9:=Tryz.isAgg9
 z9:=Tryz.sizeOf9
 v9:=Tryz.zeroValue9
 t46:=Tryz.underlying108
 a46:=Tryz.isAgg108
 z46:=Tryz.sizeOf108
 v46:=Tryz.zeroValue108
 t51:=Tryz.underlying23
 a51:=Tryz.isAgg23
 z51:=Tryz.sizeOf23
 v51:=Tryz.zeroValue23
 t146:=Tryz.underlying288
 a146:=Tryz.isAgg288
 z146:=Tryz.sizeOf288
 v146:=Tryz.zeroValue288
 g1:=by kernel_rfl}
open Go.RowKit Go.Lib in
theorem Tryz.strings_Count_one (s:ByteArray) (c:UInt8) (w:World) :
 Calls Tryz.prog 241 #[.string s,.string ⟨#[c]⟩] w fun e w'=>e=.returned (.int .i64 (Lib.countByte s.data.toList c))∧w'=w:=Any.strings_Count_one Tryz.lays138 s c w
def Tryz.laysM219_ren:Go.Shelf.Ren:=⟨fun | 219=>262 | 217=>282 | 225=>283 | 224=>284 | 267=>285 | 266=>304 | 314=>305 | n=>n,fun | 9=>9 | 3=>3 | 4=>4 | 5=>5 | 46=>108 | 146=>288 | 51=>23 | n=>n,fun | 1=>0 | n=>n⟩
def Tryz.laysM143_ren:Go.Shelf.Ren:=⟨fun | 143=>242 | 219=>262 | 217=>282 | 225=>283 | 224=>284 | 267=>285 | 266=>304 | 314=>305 | n=>n,fun | 9=>9 | 3=>3 | 4=>4 | 5=>5 | 46=>108 | 146=>288 | 51=>23 | n=>n,fun | 1=>0 | n=>n⟩
def Tryz.laysM144_ren:Go.Shelf.Ren:=⟨fun | 144=>307 | 143=>242 | 219=>262 | 217=>282 | 225=>283 | 224=>284 | 267=>285 | 266=>304 | 314=>305 | n=>n,fun | 9=>9 | 4=>4 | 3=>3 | 5=>5 | 46=>108 | 146=>288 | 51=>23 | n=>n,fun | 1=>0 | n=>n⟩
def Tryz.laysM220_ren:Go.Shelf.Ren:=⟨fun | 220=>301 | 219=>262 | 217=>282 | 225=>283 | 224=>284 | 267=>285 | 266=>304 | 314=>305 | n=>n,fun | 9=>9 | 4=>4 | 3=>3 | 5=>5 | 46=>108 | 146=>288 | 51=>23 | n=>n,fun | 1=>0 | n=>n⟩
def Tryz.laysM145_ren:Go.Shelf.Ren:=⟨fun | 145=>274 | 220=>301 | 219=>262 | 217=>282 | 225=>283 | 224=>284 | 267=>285 | 266=>304 | 314=>305 | n=>n,fun | 9=>9 | 4=>4 | 59=>271 | 3=>3 | 5=>5 | 46=>108 | 146=>288 | 51=>23 | n=>n,fun | 1=>0 | n=>n⟩
def Tryz.laysM138_ren:Go.Shelf.Ren:=⟨fun | 138=>241 | 195=>259 | 218=>261 | 143=>242 | 219=>262 | 217=>282 | 225=>283 | 224=>284 | 267=>285 | 266=>304 | 314=>305 | n=>n,fun | 9=>9 | 3=>3 | 4=>4 | 5=>5 | 0=>0 | 46=>108 | 146=>288 | 51=>23 | n=>n,fun | 1=>0 | n=>n⟩
def Tryz.lays206_ren:Go.Shelf.Ren:=⟨fun | 206=>308 | n=>n,fun | 9=>9 | 4=>4 | 3=>3 | n=>n,fun | n=>n⟩
def Tryz.lays99_ren:Go.Shelf.Ren:=⟨fun | 99=>291 | 206=>308 | n=>n,fun | 9=>9 | 4=>4 | 3=>3 | n=>n,fun | n=>n⟩
theorem Tryz.lays99:Go.Proofs.Lays.n99 Tryz.prog Tryz.lays99_ren:={
 mixed:=by kernel_rfl
 f99:=Tryz.func291.trans (congrArg some (by kernel_rfl))
 f206:=Tryz.func308.trans (congrArg some (by kernel_rfl))
 t3:=Tryz.underlying3
 a3:=Tryz.isAgg3
 z3:=Tryz.sizeOf3
 v3:=Tryz.zeroValue3
 t4:=Tryz.underlying4
 a4:=Tryz.isAgg4
 z4:=Tryz.sizeOf4
 v4:=Tryz.zeroValue4
 t9:=Tryz.underlying9
 a9:=Tryz.isAgg9
 z9:=Tryz.sizeOf9
 v9:=Tryz.zeroValue9}
open Go.RowKit Go.Lib in
theorem Tryz.strings_HasPrefix (s p:ByteArray) (w:World) :
 Calls Tryz.prog 291 #[.string s,.string p] w fun e w'=>e=.returned (.bool (Lib.hasPrefix s.data.toList p.data.toList))∧w'=w:=Any.strings_HasPrefix Tryz.lays99 s p w
def Tryz.lays208_ren:Go.Shelf.Ren:=⟨fun | 208=>316 | 206=>308 | n=>n,fun | 9=>9 | 4=>4 | 3=>3 | n=>n,fun | n=>n⟩
def Tryz.lays101_ren:Go.Shelf.Ren:=⟨fun | 101=>299 | 208=>316 | 206=>308 | n=>n,fun | 9=>9 | 4=>4 | 3=>3 | n=>n,fun | n=>n⟩
theorem Tryz.lays101:Go.Proofs.Lays.n101 Tryz.prog Tryz.lays101_ren:={
 mixed:=by kernel_rfl
 f101:=Tryz.func299.trans (congrArg some (by kernel_rfl))
 f206:=Tryz.func308.trans (congrArg some (by kernel_rfl))
 f208:=Tryz.func316.trans (congrArg some (by kernel_rfl))
 t3:=Tryz.underlying3
 a3:=Tryz.isAgg3
 z3:=Tryz.sizeOf3
 v3:=Tryz.zeroValue3
 t4:=Tryz.underlying4
 a4:=Tryz.isAgg4
 z4:=Tryz.sizeOf4
 v4:=Tryz.zeroValue4
 t9:=Tryz.underlying9
 a9:=Tryz.isAgg9
 z9:=Tryz.sizeOf9
 v9:=Tryz.zeroValue9}
open Go.RowKit Go.Lib in
theorem Tryz.strings_TrimPrefix (s p:ByteArray) (w:World) :
 Calls Tryz.prog 299 #[.string s,.string p] w fun e w'=>e=.returned (.string ⟨(Lib.trimPrefix s.data.toList p.data.toList).toArray⟩)∧w'=w:=Any.strings_TrimPrefix Tryz.lays101 s p w
def Tryz.lays221_ren:Go.Shelf.Ren:=⟨fun | 221=>218 | 268=>240 | 138=>241 | 143=>242 | 195=>259 | 197=>260 | 218=>261 | 219=>262 | 260=>281 | 217=>282 | 225=>283 | 224=>284 | 267=>285 | 266=>304 | 314=>305 | n=>n,fun | 9=>9 | 3=>3 | 31=>87 | 4=>4 | 0=>0 | 105=>258 | 21=>21 | 5=>5 | 46=>108 | 119=>284 | 139=>287 | 138=>286 | 146=>288 | 51=>23 | n=>n,fun | 1=>0 | 3=>1 | 4=>2 | n=>n⟩
theorem Tryz.lays221:Go.Proofs.Lays.n221 Tryz.prog Tryz.lays221_ren:={
 mixed:=by kernel_rfl
 f138:=Tryz.func241.trans (congrArg some (by kernel_rfl))
 f143:=Tryz.func242.trans (congrArg some (by kernel_rfl))
 f195:=Tryz.func259.trans (congrArg some (by kernel_rfl))
 f197:=Tryz.func260.trans (congrArg some (by kernel_rfl))
 f217:=Tryz.func282.trans (congrArg some (by kernel_rfl))
 f218:=Tryz.func261.trans (congrArg some (by kernel_rfl))
 f219:=Tryz.func262.trans (congrArg some (by kernel_rfl))
 f221:=Tryz.func218.trans (congrArg some (by kernel_rfl))
 f224:=Tryz.func284.trans (congrArg some (by kernel_rfl))
 f225:=Tryz.func283.trans (congrArg some (by kernel_rfl))
 f260:=Tryz.func281.trans (congrArg some (by kernel_rfl))
 f266:=Tryz.func304.trans (congrArg some (by kernel_rfl))
 f267:=Tryz.func285.trans (congrArg some (by kernel_rfl))
 f268:=Tryz.func240.trans (congrArg some (by kernel_rfl))
 f314:=Tryz.func305.trans (congrArg some (by kernel_rfl))
 t0:=Tryz.underlying0
 a0:=Tryz.isAgg0
 z0:=Tryz.sizeOf0
 v0:=Tryz.zeroValue0
 t3:=Tryz.underlying3
 a3:=Tryz.isAgg3
 z3:=Tryz.sizeOf3
 v3:=Tryz.zeroValue3
 t4:=Tryz.underlying4
 a4:=Tryz.isAgg4
 z4:=Tryz.sizeOf4
 v4:=Tryz.zeroValue4
 t5:=Tryz.underlying5
 a5:=Tryz.isAgg5
 z5:=Tryz.sizeOf5
 v5:=Tryz.zeroValue5
 t9:=Tryz.underlying9
 a9:=Tryz.isAgg9
 z9:=Tryz.sizeOf9
 v9:=Tryz.zeroValue9
 t21:=Tryz.underlying21
 a21:=Tryz.isAgg21
 z21:=Tryz.sizeOf21
 v21:=Tryz.zeroValue21
 t31:=Tryz.underlying87
 a31:=Tryz.isAgg87
 z31:=Tryz.sizeOf87
 v31:=Tryz.zeroValue87
 t46:=Tryz.underlying108
 a46:=Tryz.isAgg108
 z46:=Tryz.sizeOf108
 v46:=Tryz.zeroValue108
 t51:=Tryz.underlying23
 a51:=Tryz.isAgg23
 z51:=Tryz.sizeOf23
 v51:=Tryz.zeroValue23
 t105:=Tryz.underlying258
 a105:=Tryz.isAgg258
 z105:=Tryz.sizeOf258
 v105:=Tryz.zeroValue258
 t119:=Tryz.underlying284
 a119:=Tryz.isAgg284
 z119:=Tryz.sizeOf284
 t138:=Tryz.underlying286
 a138:=Tryz.isAgg286
 z138:=Tryz.sizeOf286
 v138:=Tryz.zeroValue286
 t139:=Tryz.underlying287
 a139:=Tryz.isAgg287
 z139:=Tryz.sizeOf287
 v139:=Tryz.zeroValue287
 t146:=Tryz.underlying288
 a146:=Tryz.isAgg288
 z146:=Tryz.sizeOf288
 v146:=Tryz.zeroValue288
 g1:=by kernel_rfl
 g3:=by kernel_rfl
 g4:=by kernel_rfl}
def Tryz.lays146_ren:Go.Shelf.Ren:=⟨fun | 146=>194 | 221=>218 | 268=>240 | 138=>241 | 143=>242 | 195=>259 | 197=>260 | 218=>261 | 219=>262 | 260=>281 | 217=>282 | 225=>283 | 224=>284 | 267=>285 | 266=>304 | 314=>305 | n=>n,fun | 9=>9 | 31=>87 | 3=>3 | 4=>4 | 0=>0 | 105=>258 | 21=>21 | 5=>5 | 46=>108 | 119=>284 | 139=>287 | 138=>286 | 146=>288 | 51=>23 | n=>n,fun | 1=>0 | 3=>1 | 4=>2 | n=>n⟩
def Tryz.laysM146_ren:Go.Shelf.Ren:=⟨fun | 146=>194 | 221=>218 | 268=>240 | 138=>241 | 143=>242 | 195=>259 | 197=>260 | 218=>261 | 219=>262 | 260=>281 | 217=>282 | 225=>283 | 224=>284 | 267=>285 | 266=>304 | 314=>305 | n=>n,fun | 9=>9 | 31=>87 | 3=>3 | 4=>4 | 0=>0 | 105=>258 | 21=>21 | 5=>5 | 46=>108 | 119=>284 | 139=>287 | 138=>286 | 146=>288 | 51=>23 | n=>n,fun | 1=>0 | 3=>1 | 4=>2 | n=>n⟩
def Tryz.lays197_ren:Go.Shelf.Ren:=⟨fun | 197=>260 | 260=>281 | n=>n,fun | 9=>9 | 21=>21 | 3=>3 | 4=>4 | 5=>5 | 105=>258 | 119=>284 | 0=>0 | 46=>108 | 139=>287 | 138=>286 | n=>n,fun | 3=>1 | 4=>2 | n=>n⟩
def Tryz.lays152_ren:Go.Shelf.Ren:=⟨fun | 152=>325 | 137=>332 | 119=>333 | 224=>284 | 225=>283 | 217=>282 | 266=>304 | n=>n,fun | 9=>9 | 21=>21 | 3=>3 | 4=>4 | 5=>5 | 0=>0 | 46=>108 | n=>n,fun | n=>n⟩
theorem Tryz.lays152:Go.Proofs.Lays.n152 Tryz.prog Tryz.lays152_ren:={
 mixed:=by kernel_rfl
 f119:=Tryz.func333.trans (congrArg some (by kernel_rfl))
 f137:=Tryz.func332.trans (congrArg some (by kernel_rfl))
 f152:=Tryz.func325.trans (congrArg some (by kernel_rfl))
 f217:=Tryz.func282.trans (congrArg some (by kernel_rfl))
 f224:=Tryz.func284.trans (congrArg some (by kernel_rfl))
 f225:=Tryz.func283.trans (congrArg some (by kernel_rfl))
 f266:=Tryz.func304.trans (congrArg some (by kernel_rfl))
 t0:=Tryz.underlying0
 a0:=Tryz.isAgg0
 z0:=Tryz.sizeOf0
 v0:=Tryz.zeroValue0
 t3:=Tryz.underlying3
 a3:=Tryz.isAgg3
 z3:=Tryz.sizeOf3
 v3:=Tryz.zeroValue3
 t4:=Tryz.underlying4
 a4:=Tryz.isAgg4
 z4:=Tryz.sizeOf4
 v4:=Tryz.zeroValue4
 t5:=Tryz.underlying5
 a5:=Tryz.isAgg5
 z5:=Tryz.sizeOf5
 v5:=Tryz.zeroValue5
 t9:=Tryz.underlying9
 a9:=Tryz.isAgg9
 z9:=Tryz.sizeOf9
 v9:=Tryz.zeroValue9
 t21:=Tryz.underlying21
 a21:=Tryz.isAgg21
 z21:=Tryz.sizeOf21
 v21:=Tryz.zeroValue21
 t46:=Tryz.underlying108
 a46:=Tryz.isAgg108
 z46:=Tryz.sizeOf108
 v46:=Tryz.zeroValue108}
open Go.RowKit Go.Lib in
theorem Tryz.strings_IndexRune_ascii (s:ByteArray) (r:Int) (w:World) (h0:0≤r) (h1:r<128) :
 Calls Tryz.prog 325 #[.string s,.int .i32 r] w fun e w'=>e=.returned (.int .i64 (Lib.indexByte s.data.toList r.toNat.toUInt8))∧w'=w:=Any.strings_IndexRune_ascii Tryz.lays152 s r w h0 h1
def Tryz.lays151_ren:Go.Shelf.Ren:=⟨fun | 151=>330 | 152=>325 | 137=>332 | 119=>333 | 224=>284 | 225=>283 | 217=>282 | 266=>304 | n=>n,fun | 9=>9 | 21=>21 | 4=>4 | 3=>3 | 5=>5 | 0=>0 | 46=>108 | n=>n,fun | n=>n⟩
def Tryz.lays195_ren:Go.Shelf.Ren:=⟨fun | 195=>259 | n=>n,fun | 9=>9 | 3=>3 | 0=>0 | 4=>4 | n=>n,fun | n=>n⟩
def Tryz.lays226_ren:Go.Shelf.Ren:=⟨fun | 226=>326 | n=>n,fun | 3=>3 | 4=>4 | n=>n,fun | n=>n⟩
theorem Tryz.lays226:Go.Proofs.Lays.n226 Tryz.prog Tryz.lays226_ren:={
 mixed:=by kernel_rfl
 f226:=Tryz.func326.trans (congrArg some (by kernel_rfl))
 t3:=Tryz.underlying3
 a3:=Tryz.isAgg3
 z3:=Tryz.sizeOf3
 v3:=Tryz.zeroValue3
 t4:=Tryz.underlying4
 a4:=Tryz.isAgg4
 z4:=Tryz.sizeOf4
 v4:=Tryz.zeroValue4}
open Go.RowKit Go.Lib in
theorem Tryz.strings_shouldUseASCIISet (n:Int) (w:World) :
 Calls Tryz.prog 326 #[.int .i64 n] w fun e w'=>e=.returned (.bool (decide (8<n)))∧w'=w:=Any.strings_shouldUseASCIISet Tryz.lays226 n w
def Tryz.lays153_ren:Go.Shelf.Ren:=⟨fun | 153=>311 | 152=>325 | 226=>326 | 227=>319 | 228=>327 | 137=>332 | 119=>333 | 224=>284 | 225=>283 | 217=>282 | 266=>304 | n=>n,fun | 9=>9 | 3=>3 | 4=>4 | 5=>5 | 21=>21 | 117=>297 | 116=>296 | 0=>0 | 46=>108 | 124=>300 | n=>n,fun | n=>n⟩
theorem Tryz.lays153:Go.Proofs.Lays.n153 Tryz.prog Tryz.lays153_ren:={
 mixed:=by kernel_rfl
 f119:=Tryz.func333.trans (congrArg some (by kernel_rfl))
 f137:=Tryz.func332.trans (congrArg some (by kernel_rfl))
 f152:=Tryz.func325.trans (congrArg some (by kernel_rfl))
 f153:=Tryz.func311.trans (congrArg some (by kernel_rfl))
 f217:=Tryz.func282.trans (congrArg some (by kernel_rfl))
 f224:=Tryz.func284.trans (congrArg some (by kernel_rfl))
 f225:=Tryz.func283.trans (congrArg some (by kernel_rfl))
 f226:=Tryz.func326.trans (congrArg some (by kernel_rfl))
 f227:=Tryz.func319.trans (congrArg some (by kernel_rfl))
 f228:=Tryz.func327.trans (congrArg some (by kernel_rfl))
 f266:=Tryz.func304.trans (congrArg some (by kernel_rfl))
 t0:=Tryz.underlying0
 a0:=Tryz.isAgg0
 z0:=Tryz.sizeOf0
 v0:=Tryz.zeroValue0
 t3:=Tryz.underlying3
 a3:=Tryz.isAgg3
 z3:=Tryz.sizeOf3
 v3:=Tryz.zeroValue3
 t4:=Tryz.underlying4
 a4:=Tryz.isAgg4
 z4:=Tryz.sizeOf4
 v4:=Tryz.zeroValue4
 t5:=Tryz.underlying5
 a5:=Tryz.isAgg5
 z5:=Tryz.sizeOf5
 v5:=Tryz.zeroValue5
 t9:=Tryz.underlying9
 a9:=Tryz.isAgg9
 z9:=Tryz.sizeOf9
 v9:=Tryz.zeroValue9
 t21:=Tryz.underlying21
 a21:=Tryz.isAgg21
 z21:=Tryz.sizeOf21
 v21:=Tryz.zeroValue21
 t46:=Tryz.underlying108
 a46:=Tryz.isAgg108
 z46:=Tryz.sizeOf108
 v46:=Tryz.zeroValue108
 t116:=Tryz.underlying296
 a116:=Tryz.isAgg296
 z116:=Tryz.sizeOf296
 t117:=Tryz.underlying297
 a117:=Tryz.isAgg297
 z117:=Tryz.sizeOf297
 v117:=Tryz.zeroValue297
 t124:=Tryz.underlying300
 a124:=Tryz.isAgg300
 z124:=Tryz.sizeOf300
 v124:=Tryz.zeroValue300}
def Tryz.lays227_ren:Go.Shelf.Ren:=⟨fun | 227=>319 | n=>n,fun | 9=>9 | 116=>296 | 4=>4 | 0=>0 | 3=>3 | 5=>5 | n=>n,fun | n=>n⟩
def Tryz.lays228_ren:Go.Shelf.Ren:=⟨fun | 228=>327 | n=>n,fun | 124=>300 | 5=>5 | 4=>4 | 0=>0 | 116=>296 | n=>n,fun | n=>n⟩
open Go.RowKit Go.Lib in
theorem Tryz.strings_IndexAny_long (hv116:∀w,(zeroValue 296).run Tryz.prog w=.ok (.agg (Array.replicate 256 (.bool false))) w) (s chars:ByteArray) (w:World) (h2:2≤chars.size) (h8:8<s.size) (hs:s.size<4294967281) (hcs:chars.size<4294967281) (hascii:∀(j:Nat) b,chars.data.toList[j]?=some b→b.toNat<128) :
 Calls Tryz.prog 311 #[.string s,.string chars] w fun e w'=>e=.returned (.int .i64 (Lib.indexAny s.data.toList chars.data.toList))∧w'=((w.alloc (.cells (Lib.setCells chars.data.toList) 296)).alloc (.cells (Lib.setCells chars.data.toList) 296)):=Any.strings_IndexAny_long Tryz.lays153 hv116 (by kernel_rfl) s chars w h2 h8 hs hcs hascii
def Tryz.lays268_ren:Go.Shelf.Ren:=⟨fun | 268=>240 | 195=>259 | 197=>260 | 260=>281 | n=>n,fun | 9=>9 | 3=>3 | 31=>87 | 4=>4 | 105=>258 | 21=>21 | 0=>0 | 5=>5 | 119=>284 | 46=>108 | 139=>287 | 138=>286 | n=>n,fun | 3=>1 | 4=>2 | n=>n⟩
def Tryz.lays260_ren:Go.Shelf.Ren:=⟨fun | 260=>281 | n=>n,fun | 9=>9 | 21=>21 | 3=>3 | 4=>4 | 5=>5 | 119=>284 | 0=>0 | 46=>108 | 139=>287 | 138=>286 | n=>n,fun | 3=>1 | 4=>2 | n=>n⟩
def Tryz.lays229_ren:Go.Shelf.Ren:=⟨fun | 229=>286 | n=>n,fun | 9=>9 | 40=>276 | 31=>87 | 152=>290 | 3=>3 | 0=>0 | 4=>4 | 21=>21 | 154=>292 | n=>n,fun | n=>n⟩
theorem Tryz.lays229:Go.Proofs.Lays.n229 Tryz.prog Tryz.lays229_ren:={
 mixed:=by kernel_rfl
 f229:=Tryz.func286.trans (congrArg some (by kernel_rfl))
 t0:=Tryz.underlying0
 a0:=Tryz.isAgg0
 z0:=Tryz.sizeOf0
 v0:=Tryz.zeroValue0
 t3:=Tryz.underlying3
 a3:=Tryz.isAgg3
 z3:=Tryz.sizeOf3
 v3:=Tryz.zeroValue3
 t4:=Tryz.underlying4
 a4:=Tryz.isAgg4
 z4:=Tryz.sizeOf4
 v4:=Tryz.zeroValue4
 t9:=Tryz.underlying9
 a9:=Tryz.isAgg9
 z9:=Tryz.sizeOf9
 v9:=Tryz.zeroValue9
 t21:=Tryz.underlying21
 a21:=Tryz.isAgg21
 z21:=Tryz.sizeOf21
 v21:=Tryz.zeroValue21
 t31:=Tryz.underlying87
 a31:=Tryz.isAgg87
 z31:=Tryz.sizeOf87
 v31:=Tryz.zeroValue87
 t40:=Tryz.underlying276
 a40:=Tryz.isAgg276
 z40:=Tryz.sizeOf276
 v40:=Tryz.zeroValue276
 t152:=Tryz.underlying290
 a152:=Tryz.isAgg290
 z152:=Tryz.sizeOf290
 v152:=Tryz.zeroValue290
 t154:=Tryz.underlying292
 a154:=Tryz.isAgg292
 z154:=Tryz.sizeOf292
 v154:=Tryz.zeroValue292}
open Go.RowKit Go.Lib in
theorem Tryz.strings_FieldsFunc_runes (g:Nat) (lb:Array Value) (eg:∀args w,(callFunc g args).run Tryz.prog w=.ok (.enter g args) w) (p:Nat→Bool) (s:ByteArray) (w:World) (hs:s.size≤4294967296) (hp:PredAtRunes Tryz.prog g lb p w) :
 Calls Tryz.prog 286 #[.string s,.func (.func g) #[] lb] w fun e w'=>∃A,e=.returned (.slice (some ⟨A,0,none⟩) (Lib.goFieldsP p s).length (Lib.goFieldsP p s).length)∧w.heap.size≤A∧
  w'.ownsRow w.heap.size 9 1 (.slice (some ⟨A,0,none⟩) (Lib.goFieldsP p s).length (Lib.goFieldsP p s).length) (Lib.goFieldsP p s).length ((Lib.goFieldsP p s).map Value.string)∧Below w.heap.size w w':=Any.strings_FieldsFunc_runes Tryz.lays229 g lb eg p s w hs hp (by kernel_rfl) (by kernel_rfl)
def Tryz.lays109_ren:Go.Shelf.Ren:=⟨fun | 109=>288 | n=>n,fun | 31=>87 | 9=>9 | 3=>3 | 0=>0 | 4=>4 | n=>n,fun | n=>n⟩
def Tryz.lays110_ren:Go.Shelf.Ren:=⟨fun | 110=>264 | 109=>288 | n=>n,fun | 31=>87 | 9=>9 | 4=>4 | 3=>3 | 0=>0 | n=>n,fun | n=>n⟩
theorem Tryz.lays110:Go.Proofs.Lays.n110 Tryz.prog Tryz.lays110_ren:={
 mixed:=by kernel_rfl
 f109:=Tryz.func288.trans (congrArg some (by kernel_rfl))
 f110:=Tryz.func264.trans (congrArg some (by kernel_rfl))
 t0:=Tryz.underlying0
 a0:=Tryz.isAgg0
 z0:=Tryz.sizeOf0
 v0:=Tryz.zeroValue0
 t3:=Tryz.underlying3
 a3:=Tryz.isAgg3
 z3:=Tryz.sizeOf3
 v3:=Tryz.zeroValue3
 t4:=Tryz.underlying4
 a4:=Tryz.isAgg4
 z4:=Tryz.sizeOf4
 v4:=Tryz.zeroValue4
 t9:=Tryz.underlying9
 a9:=Tryz.isAgg9
 z9:=Tryz.sizeOf9
 v9:=Tryz.zeroValue9
 t31:=Tryz.underlying87
 a31:=Tryz.isAgg87
 z31:=Tryz.sizeOf87
 v31:=Tryz.zeroValue87}
open Go.Lib in
theorem Tryz.slices_Contains_string (b off n c:Nat) (zs:List ByteArray) (x:ByteArray) (w:World) (hz:n≤zs.length) (hbig:n≤9223372036854775807) (hc:∀j,j<zs.length→w.cell? ⟨b,off+j,none⟩=some (.string (zs.getD j ByteArray.empty))) :
 Calls Tryz.prog 264 #[.slice (some ⟨b,off,none⟩) n c,.string x] w fun e w'=>e=.returned (.bool (Lib.containsS (zs.take n) x))∧w'=w:=Any.slices_Contains_string Tryz.lays110 b off n c zs x w hz hbig hc
open Go.Lib in
theorem Tryz.slices_Contains_string_empty (a:Option Addr) (c:Nat) (x:ByteArray) (w:World) :
 Calls Tryz.prog 264 #[.slice a 0 c,.string x] w fun e w'=>e=.returned (.bool false)∧w'=w:=Any.slices_Contains_string_empty Tryz.lays110 a c x w
def Tryz.laysnb115_ren:Go.Shelf.Ren:=⟨fun | 115=>182 | n=>n,fun | 37=>22 | 4=>4 | 9=>9 | 5=>5 | n=>n,fun | n=>n⟩
def Tryz.lays115_ren:Go.Shelf.Ren:=⟨fun | 115=>182 | n=>n,fun | 37=>22 | 4=>4 | 9=>9 | 5=>5 | n=>n,fun | n=>n⟩
end Go.Proofs
