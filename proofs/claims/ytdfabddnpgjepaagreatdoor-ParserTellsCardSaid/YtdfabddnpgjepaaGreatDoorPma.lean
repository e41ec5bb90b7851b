import Derived.Test.YtdfabddnpgjepaaGreatDoorProg
import Derived.WalkKit
import Derived.WalkSpells
import Derived.WalkLawsBesides
import Derived.Lib.Hide
import Derived.Deep.Draws
import Derived.OrdersHeld
import Derived.Deep.RegionHeld
import Derived.BigRegion
import Derived.Maps.AppendAt
import Derived.Laws.Append
import Derived.Lib.Strings
import Derived.LaidLaws
import Derived.OpenShut
import Derived.ChangeArms
import Derived.ChangeKeysEq
import Derived.Test.YtdfabddnpgjepaaGreatDoorRows
import Derived.ProofKit
import Derived.ShutString
import Derived.ChangeOld
import Derived.Below
import Derived.SizedLaws
import Derived.Lib.Split
import Derived.Lib.SplitLaws
import Derived.Lib.IndexBytes
import Derived.Deep.AppendLies
import Derived.Laws.IdiomStrings
import Derived.Laws.BytesString
import Derived.Shelf.Strings.Builder1
import Derived.Shelf.Strings.Trim
import Derived.Shelf.Small.Utf8
import Derived.Shelf.Small.Strs
import Derived.Shelf.Strings.BuilderF
import Derived.Shelf.Strings.BuilderK
import Derived.Shelf.Strings.Search1
import Derived.Shelf.Strings.Search2
import Derived.Shelf.Strings.Search3
import Derived.Shelf.Strings.Cut
import Derived.Shelf.Strings.Count
import Derived.Shelf.LaysM
import Derived.Shelf.Strings.Shaped
import Derived.Shelf.Strings.Prefix
import Derived.Shelf.Strings.Split
import Derived.Shelf.Strings.SplitShaped
import Derived.Shelf.Unicode.Decode
import Derived.Shelf.Strings.Runes
import Derived.Shelf.Strings.RuneCount
import Derived.Shelf.Strings.IndexAny
import Derived.Shelf.Strings.AsciiSet
import Derived.Shelf.Strings.IndexAnyAll
import Derived.Shelf.Strings.Explode
import Derived.Shelf.Unicode.DecodeSlow
import Derived.Shelf.Unicode.DecodeAny
import Derived.Shelf.Strings.FieldsFuncAny
import Derived.Shelf.Slices.Turned
import Derived.Shelf.Bytes.SlEqualAll
import Derived.Shelf.Bytes.Small
import Derived.Deep.QuietTactic
import Derived.BigQuiet
import Derived.Lib.Bytealg
import Derived.Lib.TrimByte
import Derived.WalkMore
import Derived.Lib.CutLaws
import Derived.Lib.AppendStr
import Derived.Laws.OwnMore
import Derived.Shelf.Abstract
import Derived.Lib.IndexAny
import Derived.Lib.QuoteLoop
import Derived.Lib.RuneCount
import Derived.Laws.RangeAny
import Derived.Laws.Runes
import Derived.Deep.LoopGhost
import Derived.Deep.CutBlock
import Derived.Deep.DeepCutAuto
import Derived.Laws.BitsAllLaws
import Derived.Laws.ShiftsVarLaws
import Derived.Lib.FieldsP
import Derived.Lib.SlicesS
import Derived.ChangeSame
import Derived.Deep.RegionWith
import Derived.Deep.CutRange
import Derived.Laws.BytesArg
import Derived.Shelf.Bytes.SlSmallAll
import Derived.OneCell
import Derived.Great.Walk
import Derived.LoopN
import Derived.Lib.SlBytesConst
import Derived.RegionTactic
import Derived.Lib.FrozenHead
import Derived.Lib.Builder
import Derived.Lib.UnsafeStr
theorem Go.Proofs.YtdfabddnpgjepaaGreatDoor.Cm {P:Go.Program} {f:Go.FuncId} {a:Array Go.Value} {w:Go.World} {E:Go.Ending} {Q:Go.Ending->Go.World->Prop} (h:Go.Calls P f a w λe w'=>e=E/\w'=w) (k:Q E w):Go.Calls P f a w Q:=h.mono λ_ _ h=>by obtain ⟨rfl,rfl⟩:=h;exact k
set_option linter.unusedSimpArgs false
open Array renaming getD_eq_getD_getElem?→Ag,replicate→Aj
open Bool renaming and_eq_true→Ao,eq_iff_iff→Au,false_and→Av,false_eq_true→Aw,or_eq_true→Az,true_and→A5
open ByteArray renaming empty→A8
open Go.Act renaming put→Ab
open Go.ByteArray renaming toList_eq→Bf
open Go.Lib renaming extract_data→Bu,hid→Bx,indexByte→B4,toList_data→B9
open Go.Proofs.Tryz renaming prog→EW,underlying22→F0,underlying5→F7,underlying9→F8
open Go.Region renaming ready→DG,wanted→DH
open Go.RowKit.Below renaming refl→An
open Go.Shelf renaming Ren→Bg
open Go.Utf8 renaming decode→FO
open List renaming append_nil→BH,drop_eq_getElem_cons→BQ,eq_nil_of_length_eq_zero→BT,getElem?_cons_succ→BY,getElem?_cons_zero→BZ,getElem?_eq_getElem→Ca,getElem?_map→Cd,getElem?_toArray→Cg,getElem_mem→Ci,length_append→Cr,length_drop→Cu,length_map→Cw,length_take→C0,mem_append→C3,mem_cons→C6,not_mem_nil→CD,range→CE,setIfInBounds_toArray→CH,set_cons_succ→CJ,set_cons_zero→CK,take_of_length_le→CN,take_succ_eq_append_getElem→CO
open Nat renaming eq_zero_or_pos→CZ,le_of_lt→Da,le_refl→Db,lt_of_lt_of_le→Df,lt_or_ge→Dg,zero_add→Di,zero_le→Dj
open Option renaming getD_some→Ds,some→Du
open UInt8 renaming toNat_inj→FM
open Go.Value renaming int→ZZ,string→ZY,slice→ZX,bool→ZW,pointer→ZV,agg→ZU,tuple→ZT
open Go.IntKind renaming i64→ZS,u8→ZR,u32→ZQ
namespace Go.Proofs.YtdfabddnpgjepaaGreatDoor.Base
open Go.RowKit
def Ints (w:World) (a:Option Addr) (n:Nat) (zs:List Int):Prop:=
 zs.length=n/\(0<n->∃b off,a=some ⟨b,off,none⟩/\b<w.heap.size/\∀k,k<n->w.cell? ⟨b,off+k,none⟩=some (ZZ ZS (zs[k]?.getD 0)))
theorem Ints.new (w:World) (cs:Array Value) (t:TypeId) (zs:List Int) (n:Nat) (hn:zs.length=n) (h:∀k,k<n->cs[k]?=some (ZZ ZS (zs[k]?.getD 0))) :
 Ints (w.alloc (.cells cs t)) (some ⟨w.heap.size,0,none⟩) n zs:=by
 refine ⟨hn,λ_=>⟨w.heap.size,0,rfl,by simp,λk hk=>?_⟩⟩;rw [Di]
 exact (cell_of_row (w.alloc (.cells cs t)) w.heap.size k cs t (0,0) (heap_alloc_new w _)).trans (h k hk)
theorem Ints.one (w:World) (g:Nat) (hg:g=w.heap.size) (x:Int) (t:TypeId):Ints (w.alloc (.cells #[ZZ ZS x] t)) (some ⟨g,0,none⟩) 1 [x]:=by
 subst hg;refine Ints.new w _ t [x] 1 rfl ?_;intro k hk;obtain rfl:k=0:=by omega
 rfl
theorem Ints.two (w:World) (g:Nat) (hg:g=w.heap.size) (x y:Int) (t:TypeId):Ints (w.alloc (.cells #[ZZ ZS x,ZZ ZS y] t)) (some ⟨g,0,none⟩) 2 [x,y]:=by subst hg;refine Ints.new w _ t [x,y] 2 rfl ?_;intro k hk;rcases (by omega:k=0∨k=1) with rfl | rfl<;>rfl
theorem own_base {w:World} {base:Nat} {e:TypeId} {size:Nat} {v:Value} {n:Nat} {xs:List Value} (h:w.ownsRow base e size v n xs) (g:Nat) (hg:v.ownBlock=some g):base<=g:=by
 rcases h.2 with ⟨rfl,_⟩ | ⟨g',_,_,rfl,hb,_⟩
 ·simp [Value.ownBlock] at hg
 ·simp [Value.ownBlock] at hg;omega
theorem news_one (w:World) (v:Value) (t:TypeId):∀(j:Nat) (u:Value),[v][j]?=some u->(w.alloc (.cells #[v] t)).cell? (Addr.add ⟨w.heap.size,0,none⟩ j)=some u:=by
 intro j u hu;have hj:j=0:=by
  rcases CZ j with h | h
  ·exact h
  ·rw [List.getElem?_eq_none (by simp;omega)] at hu;cases hu
 subst hj;have:v=u:=by simpa using hu
 subst this
 exact (cell_of_row (w.alloc (.cells #[v] t)) w.heap.size 0 #[v] t (0,0) (heap_alloc_new w _))
theorem some_undef:(some undef:Option Value)=some (ZT #[]):=rfl
theorem below_drewN {B:Nat} {a w:World} (h:Below B a w) (n:Nat):Below B a (w.drewN n):=⟨h.os,h.tape,h.output,h.size,h.block⟩
theorem ret_bool {a b:Bool} (h:a=true↔b=true):Ending.returned (ZW a)=.returned (ZW b):=by rw [Au.2 h]
theorem ret_int {k:IntKind} {a b:Int} (h:a=b):Ending.returned (.int k a)=.returned (.int k b):=by rw [h]
theorem take_snoc (s:ByteArray) (k:Nat) (h:k<s.size):s.data.toList.take (k+1)=s.data.toList.take k ++ [s[k]]:=by rw [CO (by simpa using h)];rfl
theorem take_all (s:ByteArray) (k:Nat) (h:s.size<=k):s.data.toList.take k=s.data.toList:=CN (by simpa using h)
theorem byte_lt (b:UInt8):(b.toNat:Int)<=255:=by have:=b.toNat_lt;omega
theorem byte_mem (s:ByteArray) (k:Nat) (h:k<s.size):s[k]∈s.data.toList:=by
 have:=take_snoc s k h
 exact List.mem_of_mem_take (i:=k+1) (by rw [this];simp)
theorem _root_.Go.Proofs.YtdfabddnpgjepaaGreatDoor.XX9Py {P:Prop} (h:P:=by rw [CO h,Ca h];rfl):P:=h
theorem ints_snoc (zs:List Int) (k:Nat) (h:k<zs.length):zs.take (k+1)=zs.take k ++ [zs[k]?.getD 0]:=by exact XX9Py
theorem below_step {a b c:World} (h1:Below a.heap.size a b) (h2:Below b.heap.size b c):Below a.heap.size a c:=h1.trans (h2.mono h1.size)
def Nums (kd:IntKind) (w:World) (a:Option Addr) (n:Nat) (zs:List Int):Prop:=
 zs.length=n/\(0<n->∃b off,a=some ⟨b,off,none⟩/\b<w.heap.size/\∀k,k<n->w.cell? ⟨b,off+k,none⟩=some (.int kd (zs[k]?.getD 0)))
theorem Nums.nil (kd:IntKind) (w:World) (a:Option Addr):Nums kd w a 0 []:=⟨rfl,λh=>absurd h (by omega)⟩
theorem _root_.Go.Proofs.YtdfabddnpgjepaaGreatDoor.XXsyZ {P:Prop} (h:P:=by
 refine ⟨h.1,λhn=>?_⟩;obtain ⟨b,off,e,hlt,hc⟩:=h.2 hn;first
  |exact ⟨b,off,e,Df hlt hb.size,λk hk=>(hb.cell (p:=⟨b,off+k,none⟩) hlt).trans (hc k hk)⟩
  |exact ⟨b,off,e,Df hlt hb.size,λk hk=>⟨(hb.cell (p:=⟨b,off+k*2,none⟩) hlt).trans (hc k hk).1,(hb.cell (p:=⟨b,off+k*2+1,none⟩) hlt).trans (hc k hk).2⟩⟩
  |exact ⟨b,off,e,Df hlt hb.size,λk hk=>(hc k hk).below hlt hb⟩):P:=h
theorem Nums.below {kd:IntKind} {w w':World} {a:Option Addr} {n:Nat} {zs:List Int} (h:Nums kd w a n zs) (hb:Below w.heap.size w w'):Nums kd w' a n zs:=by exact XXsyZ
theorem wrap_in (x:Int) (h0: -9223372036854775808<=x) (h1:x<=9223372036854775807):IntKind.i64.wrap x=x:=by rw [IntKind.wrap_i64];omega
end Go.Proofs.YtdfabddnpgjepaaGreatDoor.Base
namespace Go.Proofs.YtdfabddnpgjepaaGreatDoor.Sched
open Go.RowKit
def fits (ops:Array Oper):List (Nat × Bool)->Array Bool->Bool
 | [],listed=>(DG .any ops listed).isEmpty
 |(k,act)::ks,listed=>(if act then DG .any ops listed == [k] else (DG .any ops listed).contains k&&Region.free .any ops listed k)&&fits ops ks (listed.setIfInBounds k true)
def walk (P:Program) (ops:Array Oper) (Q:Exit->Act->World->Prop) (S:World->Prop):List (Bool × Oper)->Act->World->Prop
 | [],a,w=>Q .normal a w
 |(act,o)::rest,a,w=>
  if DH o (yielded ops a.tmps)=true then
   (if act=true then o.wp P a w (λa' w'=>S w'/\walk P ops Q S rest a' w') Q
    else∃v,(∀w',S w'->(execOp a.eval o).run P w'=.ok (.value v) w')/\walk P ops Q S rest (a.put o.dst v) w)
  else walk P ops Q S rest (a.put o.dst undef) w
def picked (l:List Oper) (ks:List (Nat × Bool)):List (Bool × Oper):=ks.filterMap λk=>(l[k.1]?).map λo=>(k.2,o)
section
variable {P:Program} {l:List Oper} {Q:Exit->Act->World->Prop} {S:World->Prop}
theorem held_of_walk (hs:Region.noSelect l.toArray=true) (hQ:∀c a d v w,Q (.panic c) (Ab a d v) w->Q (.panic c) a w):∀(ks:List (Nat × Bool)) (listed:Array Bool) (a:Act) (w:World),
 (∀k∈ks,k.1<l.length)->fits l.toArray ks listed=true->S w->walk P l.toArray Q S (picked l ks) a w->wpAnyH P .any l.toArray Q S ks.length listed a w
 | [],listed,a,w,_,hf,_,h=>wpAnyH_done (by simpa [fits] using hf) (by simpa [walk,picked] using h) _
 |(k,act)::ks,listed,a,w,hb,hf,hS,h=>by
  have hk:k<l.length:=hb (k,act) (by simp)
  have hb':∀x∈ks,x.1<l.length:=λx hx=>hb x (by simp [hx]);have ho:l.toArray[k]?=some l[k]:=by simp [hk]
  have hp:picked l ((k,act)::ks)=(act,l[k])::picked l ks:=by simp [picked,hk]
  rw [hp] at h;simp only [fits,Ao] at hf;obtain ⟨h1,h2⟩:=hf;simp only [walk] at h;cases act with
  | true=>
    simp only [if_true] at h h1;have hr:DG .any l.toArray listed= [k]:=by simpa using h1
    refine wpAnyH_all hr (by simp) ?_;intro i hi;obtain rfl:i=k:=by simpa using hi
    unfold wpOp;simp only [ho];by_cases hw:DH l[i] (yielded l.toArray a.tmps)=true
    ·simp only [hw,if_true] at h ⊢
     exact .inl (Oper.wp_mono (λa' w' h'=>⟨h'.1,held_of_walk hs hQ ks _ a' w' hb' h2 h'.1 h'.2⟩) h)
    ·simp only [hw] at h ⊢;exact ⟨hS,held_of_walk hs hQ ks _ _ _ hb' h2 hS h⟩
  | false=>
    simp only [Aw,if_false,Ao] at h h1;by_cases hw:DH l[k] (yielded l.toArray a.tmps)=true
    ·simp only [hw,if_true] at h;obtain ⟨v,hv,h⟩:=h
     exact wpAnyH_take ho hs h1.2 h1.1 (λc a w=>hQ c a _ _ w) (.inl ⟨hw,hv⟩) hS (held_of_walk hs hQ ks _ _ _ hb' h2 hS h)
    ·simp only [hw] at h
     exact wpAnyH_take ho hs h1.2 h1.1 (λc a w=>hQ c a _ _ w) (.inr ⟨by simpa using hw,rfl⟩) hS (held_of_walk hs hQ ks _ _ _ hb' h2 hS h)
def good (l:List Oper) (ks:List (Nat × Bool)):Bool:=Region.noSelect l.toArray&&(decide (ks.length=l.length)&&(ks.all (λk=>decide (k.1<l.length))&&fits l.toArray ks (Aj l.length false)))
structure Step (P:Program) (ops:Array Oper) (Q:Exit->Act->World->Prop) (S:World->Prop) (l:List (Bool × Oper)) (a:Act) (w:World):Prop where
 out:walk P ops Q S l a w
theorem region (ks:List (Nat × Bool)) {id:Nat} {a:Act} {w:World} (S:World->Prop) (hm:P.follows .mixedOrders=true) (hg:good l ks=true)
 (hQ:∀c a d v w,Q (.panic c) (Ab a d v) w->Q (.panic c) a w) (hS:S (w.drewN 1)) (h:Step P l.toArray Q S (picked l ks) a (w.drewN 1)):(Code.region id l.toArray true).wp P Q a w:=by
 simp only [good,Ao,List.all_eq_true,decide_eq_true_eq] at hg;obtain ⟨g0,g1,g2,g3⟩:=hg;refine wp_region_held (S:=S) hm ?_;have:=held_of_walk g0 hQ ks _ a _ g2 g3 hS h.out;rw [g1] at this;simpa [World.drewN] using this
variable {ops:Array Oper} {o:Oper} {rest:List (Bool × Oper)} {a:Act} {w:World} {act:Bool}
theorem skip (hw:DH o (yielded ops a.tmps)=false) (h:Step P ops Q S rest (a.put o.dst undef) w):Step P ops Q S ((act,o)::rest) a w:=
 ⟨by simp only [walk,hw,Aw,if_false];exact h.out⟩
theorem quiet (hw:DH o (yielded ops a.tmps)=true) (v:Value) (hv:∀w',S w'->(execOp a.eval o).run P w'=.ok (.value v) w') (h:Step P ops Q S rest (a.put o.dst v) w):Step P ops Q S ((false,o)::rest) a w:=
 ⟨by simp only [walk,hw,if_true,Aw,if_false];exact ⟨v,hv,h.out⟩⟩
theorem move (x:Operand) (hop:o.op=.move x) (hw:DH o (yielded ops a.tmps)=true) (h:Step P ops Q S rest (a.put o.dst (a.eval x)) w):Step P ops Q S ((false,o)::rest) a w:=
 quiet hw _ (λw' _=>BigFrame.run_move x hop w') h
theorem assign (x:Operand) (hop:o.op=.assign x) (hw:DH o (yielded ops a.tmps)=true) (h:Step P ops Q S rest (a.put o.dst (a.eval x)) w):Step P ops Q S ((false,o)::rest) a w:=
 quiet hw _ (λw' _=>BigFrame.run_assign x hop w') h
theorem change (hw:DH o (yielded ops a.tmps)=true) (h:∀K:Act->World->Prop,(∀a' w',S w'->Step P ops Q S rest a' w'->K a' w')->o.wp P a w K Q):Step P ops Q S ((true,o)::rest) a w:=by refine ⟨?_⟩;simp only [walk,hw,if_true];exact h _ λa' w' h1 h2=>⟨h1,h2.out⟩
theorem done (h:Q .normal a w):Step P ops Q S [] a w:=⟨h⟩
end
end Go.Proofs.YtdfabddnpgjepaaGreatDoor.Sched
namespace Go.Proofs.YtdfabddnpgjepaaGreatDoor.Tree
open Go.RowKit
inductive Plan where
 | done:Plan
 | quiet (k:Nat) (t:Plan):Plan
 | act (k:Nat) (t:Plan):Plan
 | two (k:Nat) (t:Plan) (j:Nat) (s:Plan):Plan
inductive Way where
 | done:Way
 | stuck:Way
 | quiet (o:Oper) (t:Way):Way
 | act (o:Oper) (t:Way):Way
 | two (t:Way) (s:Way):Way
def put1 (f:Oper->Way):Option Oper->Way
 | some o=>f o
 | none=>.stuck
def grow (l:List Oper):Plan->Way
 | .done=>.done
 | .quiet k t=>put1 (λo=>.quiet o (grow l t)) l[k]?
 | .act k t=>put1 (λo=>.act o (grow l t)) l[k]?
 | .two k t j s=>.two (put1 (λo=>.act o (grow l t)) l[k]?) (put1 (λo=>.act o (grow l s)) l[j]?)
def fits (ops:Array Oper):Plan->Nat->Array Bool->Bool
 | .done,_,listed=>(DG .any ops listed).isEmpty
 | .quiet k t,n+1,listed=>(DG .any ops listed).contains k&&Region.free .any ops listed k&&fits ops t n (listed.setIfInBounds k true)
 | .act k t,n+1,listed=>DG .any ops listed == [k]&&fits ops t n (listed.setIfInBounds k true)
 | .two k t j s,n+1,listed=>DG .any ops listed == [k,j]&&fits ops t n (listed.setIfInBounds k true)&&fits ops s n (listed.setIfInBounds j true)
 | _,0,_=>false
def walk (P:Program) (ops:Array Oper) (Q:Exit->Act->World->Prop) (S:World->Prop):Way->Act->World->Prop
 | .done,a,w=>Q .normal a w
 | .stuck,_,_=>False
 | .quiet o t,a,w=>
   if DH o (yielded ops a.tmps)=true then∃v,(∀w',S w'->(execOp a.eval o).run P w'=.ok (.value v) w')/\walk P ops Q S t (a.put o.dst v) w
   else walk P ops Q S t (a.put o.dst undef) w
 | .act o t,a,w=>if DH o (yielded ops a.tmps)=true then o.wp P a w (λa' w'=>S w'/\walk P ops Q S t a' w') Q else walk P ops Q S t (a.put o.dst undef) w
 | .two t s,a,w=>walk P ops Q S t a w/\walk P ops Q S s a w
section
variable {P:Program} {l:List Oper} {Q:Exit->Act->World->Prop} {S:World->Prop}
theorem step_act {n k:Nat} {listed:Array Bool} {a:Act} {w:World} {t:Plan} (hS:S w)
 (ih:∀(a:Act) (w:World),S w->walk P l.toArray Q S (grow l t) a w->wpAnyH P .any l.toArray Q S n (listed.setIfInBounds k true) a w)
 (h:walk P l.toArray Q S (put1 (λo=>.act o (grow l t)) l[k]?) a w):wpOp P l.toArray Q k (λa' w'=>S w'/\wpAnyH P .any l.toArray Q S n (listed.setIfInBounds k true) a' w') a w:=by
 cases hk:l[k]? with
 | none=>rw [hk] at h;exact h.elim
 | some o=>
   rw [hk] at h;have ho:l.toArray[k]?=some o:=by simpa using hk
   unfold wpOp;simp only [ho];simp only [put1,walk] at h;by_cases hw:DH o (yielded l.toArray a.tmps)=true
   ·simp only [hw,if_true] at h ⊢
    exact .inl (Oper.wp_mono (λa' w' h'=>⟨h'.1,ih a' w' h'.1 h'.2⟩) h)
   ·simp only [hw] at h ⊢;exact ⟨hS,ih _ _ hS h⟩
theorem held_of_walk (hs:Region.noSelect l.toArray=true) (hQ:∀c a d v w,Q (.panic c) (Ab a d v) w->Q (.panic c) a w):∀(p:Plan) (n:Nat) (listed:Array Bool) (a:Act) (w:World),
 fits l.toArray p n listed=true->S w->walk P l.toArray Q S (grow l p) a w->wpAnyH P .any l.toArray Q S n listed a w
 | .done,n,listed,a,w,hf,_,h=>wpAnyH_done (by simpa [fits] using hf) (by simpa [walk,grow] using h) _
 | .quiet k t,0,listed,a,w,hf,_,_=>by simp [fits] at hf
 | .act k t,0,listed,a,w,hf,_,_=>by simp [fits] at hf
 | .two k t j s,0,listed,a,w,hf,_,_=>by simp [fits] at hf
 | .quiet k t,n+1,listed,a,w,hf,hS,h=>by
   simp only [fits,Ao] at hf;obtain ⟨h1,h2⟩:=hf;cases hk:l[k]? with
   | none=>rw [grow,hk] at h;exact h.elim
   | some o=>
     rw [grow,hk] at h;have ho:l.toArray[k]?=some o:=by simpa using hk
     simp only [put1,walk] at h;by_cases hw:DH o (yielded l.toArray a.tmps)=true
     ·simp only [hw,if_true] at h;obtain ⟨v,hv,h⟩:=h
      exact wpAnyH_take ho hs h1.2 h1.1 (λc a w=>hQ c a _ _ w) (.inl ⟨hw,hv⟩) hS (held_of_walk hs hQ t n _ _ _ h2 hS h)
     ·simp only [hw] at h
      exact wpAnyH_take ho hs h1.2 h1.1 (λc a w=>hQ c a _ _ w) (.inr ⟨by simpa using hw,rfl⟩) hS (held_of_walk hs hQ t n _ _ _ h2 hS h)
 | .act k t,n+1,listed,a,w,hf,hS,h=>by
   simp only [fits,Ao] at hf;obtain ⟨h1,h2⟩:=hf;have hr:DG .any l.toArray listed= [k]:=by simpa using h1
   refine wpAnyH_all hr (by simp) ?_;intro i hi;obtain rfl:i=k:=by simpa using hi
   exact step_act hS (λa w hS h=>held_of_walk hs hQ t n _ a w h2 hS h) h
 | .two k t j s,n+1,listed,a,w,hf,hS,h=>by
   simp only [fits,Ao] at hf;obtain ⟨⟨h1,h2⟩,h3⟩:=hf;have hr:DG .any l.toArray listed= [k,j]:=by simpa using h1
   simp only [grow,walk] at h;refine wpAnyH_all hr (by simp) ?_;intro i hi;simp only [C6,CD,or_false] at hi;rcases hi with rfl | rfl
   ·exact step_act hS (λa w hS h=>held_of_walk hs hQ t n _ a w h2 hS h) h.1
   ·exact step_act hS (λa w hS h=>held_of_walk hs hQ s n _ a w h3 hS h) h.2
def good (l:List Oper) (p:Plan):Bool:=Region.noSelect l.toArray&&fits l.toArray p l.length (Aj l.length false)
structure Step (P:Program) (ops:Array Oper) (Q:Exit->Act->World->Prop) (S:World->Prop) (t:Way) (a:Act) (w:World):Prop where
 out:walk P ops Q S t a w
theorem region (p:Plan) {id:Nat} {a:Act} {w:World} (S:World->Prop) (hm:P.follows .mixedOrders=true) (hg:good l p=true)
 (hQ:∀c a d v w,Q (.panic c) (Ab a d v) w->Q (.panic c) a w) (hS:S (w.drewN 1)) (h:Step P l.toArray Q S (grow l p) a (w.drewN 1)):(Code.region id l.toArray true).wp P Q a w:=by
 simp only [good,Ao] at hg;refine wp_region_held (S:=S) hm ?_;have:=held_of_walk hg.1 hQ p _ _ a _ hg.2 hS h.out;simpa [World.drewN] using this
variable {ops:Array Oper} {o:Oper} {t s:Way} {a:Act} {w:World}
theorem quiet (hw:DH o (yielded ops a.tmps)=true) (v:Value) (hv:∀w',S w'->(execOp a.eval o).run P w'=.ok (.value v) w') (h:Step P ops Q S t (a.put o.dst v) w):Step P ops Q S (.quiet o t) a w:=by exact ⟨by simp only [walk,hw,if_true];exact ⟨v,hv,h.out⟩⟩
theorem assign (x:Operand) (hop:o.op=.assign x) (hw:DH o (yielded ops a.tmps)=true) (h:Step P ops Q S t (a.put o.dst (a.eval x)) w):Step P ops Q S (.quiet o t) a w:=
 quiet hw _ (λw' _=>BigFrame.run_assign x hop w') h
theorem change (hw:DH o (yielded ops a.tmps)=true) (h:∀K:Act->World->Prop,(∀a' w',S w'->Step P ops Q S t a' w'->K a' w')->o.wp P a w K Q):Step P ops Q S (.act o t) a w:=by refine ⟨?_⟩;simp only [walk,hw,if_true];exact h _ λa' w' h1 h2=>⟨h1,h2.out⟩
theorem both (h1:Step P ops Q S t a w) (h2:Step P ops Q S s a w):Step P ops Q S (.two t s) a w:=⟨⟨h1.out,h2.out⟩⟩
theorem done (h:Q .normal a w):Step P ops Q S .done a w:=⟨h⟩
end
end Go.Proofs.YtdfabddnpgjepaaGreatDoor.Tree
namespace Go.Proofs.YtdfabddnpgjepaaGreatDoor.App
open Go.RowKit
variable {P:Program}
theorem run_append_zero (w:World) (t ty e:TypeId) (i:TypeInfo) (ht:P.underlying t=some (.slice e)) (hi:P.info? e=some i) (b:Option Addr) (n cap:Nat) (h:n<=cap) (a:Option Addr) (c:Nat) :
 (Builtin.append_ #[t,t] ty #[.slice b n cap,.slice a 0 c]).run P w=.ok (.slice b n cap) w:=by
 have hb:∀x:Addr,(storeCells x []).run P w=.ok () w:=λx=>rfl;have hl:∀x:Addr,(loadCells x 0).run P w=.ok #[] w:=λx=>rfl;cases b<;>cases a<;>simp [Builtin.append_,run_underlying ht,sizeOf,typeInfo,hi,Builtin.lenOf,Builtin.firstCells,h,hb,hl]
theorem XXxqp {P:Prop} (h:P:=by
 rcases hown.2 with ⟨rfl,rfl⟩ | ⟨g,cap,cur,rfl,_,_,hc,_⟩
 ·exact ⟨none,0,rfl,Db _⟩
 ·exact ⟨_,cap,rfl,hc⟩):P:=h
theorem run_append_list (w:World) (t ty:TypeId)
 (base:Nat) (e:TypeId) (i:TypeInfo) (z:Value) (size bytes:Nat) (ht:P.underlying t=some (.slice e)) (hi:P.info? e=some i) (hz:i.zero=some z)
 (hsize:i.size=size) (hby:i.bytes=bytes) (hzs:z.cells.size=size) (hsz:0<size)
 (v:Value) (n:Nat) (xs:List Value) (hown:w.ownsRow base e size v n xs)
 (xa:Option Addr) (m c:Nat) (news:List Value) (hl:news.length=m*size)
 (hnews:0<m->∃b off,xa=some ⟨b,off,none⟩/\∀j u,news[j]?=some u->w.cell? ⟨b,off+j,none⟩=some u) (h1:∀u∈news,u.oneCell'=true)
 (h63:n+m<=maxLen) (hbytes:(n+m)*bytes<=140737488355328) (hbase:base<=w.heap.size) :
 ∃v' w',(Builtin.append_ #[t,t] ty #[v,.slice xa m c]).run P w=.ok v' w'/\w'.ownsRow base e size v' (n+m) (xs++news)/\w.grownBy w' v.ownBlock/\(v'.ownBlock=v.ownBlock∨v'.ownBlock=some w.heap.size):=by
 rcases CZ m with h0 | hp
 ·subst h0;obtain rfl:news= []:=by simpa using hl
  obtain ⟨b,cap,hv,hcap⟩:∃b cap,v=.slice b n cap/\n<=cap:=by exact XXxqp
  have hr:=run_append_zero (P:=P) w t ty e i ht hi b n cap hcap xa c;rw [←hv] at hr;exact ⟨v,w,hr,by rw [Nat.add_zero,BH];exact hown,⟨rfl,rfl,rfl,Db _,λ_ _ _=>rfl⟩,.inl rfl⟩
 ·obtain ⟨b,off,rfl,hc⟩:=hnews hp
  obtain ⟨v',w',hr,h2,h3,_,h5⟩:=run_append_own_at (P:=P) w base t ty e i z size bytes ht hi hz hsize hby hzs hsz v n xs hown ⟨b,off,none⟩ m c news hl (λj u hj=>by
   have e2:Addr.add ⟨b,off,none⟩ j=⟨b,off+j,none⟩:=by unfold Addr.add;by_cases h:j=0<;>simp [h]
   rw [e2];exact hc j u hj) h1 h63 hbytes hbase
  exact ⟨v',w',hr,h2,h3,h5⟩
theorem wpList_append_list (w:World) {ops:Array Oper} {rest:List Oper} {o:Oper} {a:Act} {Q:Exit->Act->World->Prop} (hgd:o.guard=none) (s x:Operand) (t:TypeId)
 (ho:o.op=.call {callee:=.builtin .append,args:=#[s,x],argTypes:=#[t,t]})
 (base:Nat) (e:TypeId) (i:TypeInfo) (z:Value) (size bytes:Nat) (ht:P.underlying t=some (.slice e)) (hi:P.info? e=some i) (hz:i.zero=some z)
 (hsize:i.size=size) (hby:i.bytes=bytes) (hzs:z.cells.size=size) (hsz:0<size)
 (v:Value) (n:Nat) (xs:List Value) (hs:a.eval s=v) (hown:w.ownsRow base e size v n xs)
 (xa:Option Addr) (m c:Nat) (news:List Value) (hx:a.eval x=.slice xa m c) (hl:news.length=m*size)
 (hnews:0<m->∃b off,xa=some ⟨b,off,none⟩/\∀j u,news[j]?=some u->w.cell? ⟨b,off+j,none⟩=some u) (h1:∀u∈news,u.oneCell'=true)
 (h63:n+m<=maxLen) (hbytes:(n+m)*bytes<=140737488355328) (hbase:base<=w.heap.size)
 (h:∀v' w',w'.ownsRow base e size v' (n+m) (xs++news)->w.grownBy w' v.ownBlock->(v'=ZX none 0 0↔v=ZX none 0 0/\m=0)->(v'.ownBlock=v.ownBlock∨v'.ownBlock=some w.heap.size)->wpList P ops Q rest (a.put o.dst v') w') :
 wpList P ops Q (o::rest) a w:=by
 rcases CZ m with h0 | hp
 ·subst h0;obtain rfl:news= []:=by simpa using hl
  refine wpList_plain hgd λK hK=>?_;obtain ⟨b,cap,hv,hcap⟩:∃b cap,v=.slice b n cap/\n<=cap:=by exact XXxqp
  have hr:=run_append_zero (P:=P) w t o.type e i ht hi b n cap hcap xa c;rw [←hv] at hr;unfold Oper.wp execOp;simp only [ho,resolve,invoke,builtin,Sem.run_bind,Sem.run_pure,Result.andThen_ok,List.map_toArray,List.map_cons,List.map_nil,hs,hx,hr]
  exact hK _ _ (h v w (by rw [Nat.add_zero,BH];exact hown) ⟨rfl,rfl,rfl,Db _,λ_ _ _=>rfl⟩ (by simp) (.inl rfl))
 ·obtain ⟨b,off,rfl,hc⟩:=hnews hp
  exact wpList_append_own_at w hgd s x t ho base e i z size bytes ht hi hz hsize hby hzs hsz v n xs hs hown ⟨b,off,none⟩ m c news hx hl (λj u hj=>by
   have e2:Addr.add ⟨b,off,none⟩ j=⟨b,off+j,none⟩:=by unfold Addr.add;by_cases h:j=0<;>simp [h]
   rw [e2];exact hc j u hj) h1 h63 hbytes hbase h
end Go.Proofs.YtdfabddnpgjepaaGreatDoor.App
namespace Go.Proofs.YtdfabddnpgjepaaGreatDoor.Ls
open Go.RowKit Base
end Go.Proofs.YtdfabddnpgjepaaGreatDoor.Ls
namespace Go.Proofs.YtdfabddnpgjepaaGreatDoor.Table
open Go.RowKit Base
end Go.Proofs.YtdfabddnpgjepaaGreatDoor.Table
namespace Go.Proofs.YtdfabddnpgjepaaGreatDoor.Frame
open Go.ChangeShapes Go.WideShapes Go.ChangeAt Go.RowKit
open Go.ChangeMaps (open_string shut_string)
theorem own:ownKnob EW.godebug=none:=by kernel_rfl
theorem laidOut:laidOutB EW=true:=by kernel_rfl
section
variable {H:Type} {enc:TypeId × Value->H} {P:Program}
theorem trodAll_below (hl:laidOutB P=true) {W W':World} (hb:Below W.heap.size W W'):∀(ts:List TypeId) (vs:List Value) (ds:List (DataW H)) (ps:List MemPlace),
 ts.all (λt=>P.readableRec t&&decide (t<P.types.size))=true->DataW.TrodAll enc P W 0 (λ_=>true) true ts vs ds ps->(∀x∈ps,x.block<W.heap.size)->
 DataW.TrodAll enc P W' 0 (λb=>decide (b<W.heap.size)) true ts vs ds ps
 | [],vs,ds,ps,_,h,_=>by
   obtain ⟨rfl,rfl,rfl⟩:=trodAll_nil h;exact trodAll_mk0
 | t::ts,vs,ds,ps,hr,h,hlt=>by
   obtain ⟨v,vs',d,ds',p,q,rfl,rfl,rfl,h1,h2⟩:=trodAll_cons h;simp only [List.all_cons,Ao,decide_eq_true_eq] at hr
   exact trodAll_cons_mk (Below.trod hl hr.1.1 hr.1.2 h1 hb (λx hx=>hlt x (by simp [hx]))) (trodAll_below hl hb ts vs' ds' q (by simpa using hr.2) h2 (λx hx=>hlt x (by simp [hx])))
theorem law_post {f:Func} {s:ChangeSpec} {bt:TypeId} {W W':World} {args:Array Value} {ds gs:List (DataW H)} {before:List MemPlace}
 (hl:laidOutB P=true) (hv:s.vars= []) (hread:f.params.toList.all (λt=>P.readableRec t&&decide (t<P.types.size))=true) (hres:f.resultTypes= #[bt]) (hbt:P.underlying bt=some .bool)
 (hspec:s.fn H ds={results:= [.lit (.bool true)],args:=ds})
 (hW:DataW.Whole enc P f.params.toList s.vars false W args.toList ds gs before) (hb:Below W.heap.size W W'):s.post enc P f false true false false W args (.bool true) W':=by
 have hW0:=hW;have hlt:=λp hp=>hW.lt p hp;obtain ⟨p,q,hA,hV,hpq,_,_⟩:=hW;rw [hv] at hV;obtain ⟨rfl,rfl⟩:=trodVars_none hV;have hp:before=p:=by simpa using hpq
 subst hp;refine ⟨ds,[],before,[],before,[],hW0,?_,?_,?_,hb.frame _,λh=>by cases h⟩
 ·simp only [BH,hspec,hres]
  exact trodAll_mk1 (shut_bool hbt _)
 ·simp only [BH,hspec];exact trodAll_below hl hb _ _ _ _ hread hA hlt
 ·simp only [BH,hspec,hv];first | rfl | exact ⟨rfl,rfl⟩
theorem open_num_slice {kd:IntKind} {t e:TypeId} {W:World} {v:Value} {d:DataW H} {ps:List MemPlace} (ht:P.underlying t=some (.slice e)) (he:P.underlying e=some (.int kd)) (hc:P.cellsOf e=1) {base:Nat}
 (hok:Value.okWide P W .any base t v) (h:DataW.Trod enc P W 0 (λ_=>true) true t v d ps) :
 ∃a len cap zs,v=.slice a len cap/\Base.Nums kd W a len zs/\len<=maxLen/\cap<=maxLen/\len<=cap/\∀n∈zs,(Lit.int kd n).wf=true:=by
 obtain ⟨a,len,cap,rfl⟩:=okWide_slice ht hok;obtain ⟨fuel,hf⟩:=h;rcases open_ints ht he hc hf with ⟨hcs,_⟩ | ⟨x,l,c,zs,hcs,_,hl,hm,hz,hx,hcell,hwz⟩
 ·simp [Value.cells] at hcs;obtain ⟨rfl,rfl,rfl⟩:=hcs;exact ⟨none,0,0,[],rfl,Base.Nums.nil _ _ _,by decide,by decide,Db _,by simp⟩
 ·simp [Value.cells] at hcs;obtain ⟨rfl,rfl,rfl⟩:=hcs;simp at hz;refine ⟨some x,len,cap,zs.take len,rfl,⟨by simp;omega,λh0=>?_⟩,by omega,hm,hl,λn hn=>hwz n (List.mem_of_mem_take hn)⟩;obtain ⟨b,off,spot⟩:=x
  have c0:=hcell 0 (by omega);have hspot:spot=none:=by simpa [Addr.add] using World.cell?_spot c0
  subst hspot;refine ⟨b,off,rfl,?_,λk hk=>?_⟩
  ·rcases Dg b W.heap.size with hb | hb
   ·exact hb
   ·exfalso;have:W.heap[b]?=none:=Array.getElem?_eq_none hb;simp [World.cell?,Addr.add,this] at c0
  ·have:=hcell k (by omega);rw [List.getElem?_take_of_lt hk];have e2:Addr.add ⟨b,off,none⟩ k=⟨b,off+k,none⟩:=by
    unfold Addr.add;by_cases h:k=0<;>simp [h]
   rw [e2] at this;simpa using this
end
end Go.Proofs.YtdfabddnpgjepaaGreatDoor.Frame
namespace Go.Proofs.YtdfabddnpgjepaaGreatDoor.Txt
open Go.RowKit Base
def lowN (n:Int):Int:=if 65<=n/\n<=90 then n+32 else n
def lowB (b:UInt8):UInt8:=if 65<=b.toNat/\b.toNat<=90 then b+32 else b
theorem lowB_toNat (b:UInt8):((lowB b).toNat:Int)=lowN b.toNat:=by
 unfold lowB lowN;by_cases h:65<=b.toNat/\b.toNat<=90
 ·rw [if_pos h,if_pos (by omega),UInt8.toNat_add];have:(32:UInt8).toNat=32:=rfl;omega
 ·rw [if_neg h,if_neg (by omega)]
theorem len (s:ByteArray):s.data.toList.length=s.size:=by simp
theorem len_mk (l:List UInt8):(ByteArray.mk l.toArray).size=l.length:=by rw [←len]
def low (l:List UInt8):List UInt8:=l.map lowB
def lower (s:ByteArray):ByteArray:=⟨(low s.data.toList).toArray⟩
theorem lower_list (s:ByteArray):(lower s).data.toList=low s.data.toList:=rfl
def same (a b:ByteArray):Bool:=low a.data.toList==low b.data.toList
theorem ba_ext {a b:ByteArray} (h:a.data.toList=b.data.toList):a=b:=by cases a;cases b;simp at h;rw [h]
theorem same_iff (a b:ByteArray):same a b=true↔lower a=lower b:=by unfold same;rw [beq_iff_eq];exact ⟨λh=>ba_ext (by rw [lower_list,lower_list,h]),λh=>by rw [←lower_list,←lower_list,h]⟩
theorem same_sizes {a b:ByteArray} (h:same a b=true):a.size=b.size:=by
 have:=congrArg List.length (beq_iff_eq.1 h)
 rwa [low,low,Cw,Cw,len,len] at this
def trimL (p:UInt8->Bool) (l:List UInt8):List UInt8:=((l.dropWhile p).reverse.dropWhile p).reverse
def trimB (p:UInt8->Bool) (s:ByteArray):ByteArray:=⟨(trimL p s.data.toList).toArray⟩
theorem trimB_list (p:UInt8->Bool) (s:ByteArray):(trimB p s).data.toList=trimL p s.data.toList:=rfl
theorem dropWhile_all {p:UInt8->Bool}:∀{l r:List UInt8},(∀x∈l,p x=true)->(l++r).dropWhile p=r.dropWhile p
 | [],_,_=>rfl
 | x::l,r,h=>by
   rw [List.cons_append,List.dropWhile_cons,if_pos (h x (by simp))]
   exact dropWhile_all λy hy=>h y (by simp [hy])
theorem dropWhile_stop {p:UInt8->Bool} {x:UInt8} {l:List UInt8} (h:p x=false):(x::l).dropWhile p=x::l:=by rw [List.dropWhile_cons,if_neg (by simp [h])]
theorem trimL_mid (p:UInt8->Bool) (A M B:List UInt8) (hA:∀x∈A,p x=true) (hB:∀x∈B,p x=true) (hM:M= []∨((∃x r,M=x::r/\p x=false)/\∃x r,M=r ++ [x]/\p x=false)) :
 trimL p (A++(M++B))=M:=by
 unfold trimL;rw [dropWhile_all hA];rcases hM with rfl | ⟨⟨x,r,hx,px⟩,y,t,hy,py⟩
 ·rw [List.nil_append,←BH B,dropWhile_all hB];rfl
 ·have e1:(M++B).dropWhile p=M++B:=by rw [hx,List.cons_append];exact dropWhile_stop px
  rw [e1,List.reverse_append,dropWhile_all (by intro z hz;exact hB z (by simpa using hz))];have e2:M.reverse.dropWhile p=M.reverse:=by rw [hy,List.reverse_append,List.reverse_singleton,List.singleton_append];exact dropWhile_stop py
  rw [e2,List.reverse_reverse]
theorem trim_cut (p:UInt8->Bool) (s:ByteArray) (a b:Nat) (hab:a<=b) (hb:b<=s.size) (h1:∀x∈s.data.toList.take a,p x=true) (h2:∀x∈s.data.toList.drop b,p x=true)
 (h3:a<b->(∃h:a<s.size,p s[a]=false)/\∃h:b-1<s.size,p s[b-1]=false):s.extract a b=trimB p s:=by
 apply ba_ext;rw [trimB_list,Bu];generalize hl:s.data.toList=l at *;have hsz:s.size=l.length:=by rw [←hl,len]
 have e:l=l.take a++((l.drop a).take (b-a)++l.drop b):=by
  have e1:l.drop b=(l.drop a).drop (b-a):=by rw [List.drop_drop];congr 1;omega
  rw [e1,List.take_append_drop,List.take_append_drop]
 have key:=trimL_mid p (l.take a) ((l.drop a).take (b-a)) (l.drop b) h1 h2 (by
  rcases Dg a b with hlt | hge
  ·obtain ⟨⟨ha,p1⟩,hb',p2⟩:=h3 hlt;have g1:s[a]=l[a]'(by omega):=by subst hl;rfl
   have g2:s[b-1]=l[b-1]'(by omega):=by subst hl;rfl
   right;refine ⟨⟨l[a]'(by omega),(l.drop (a+1)).take (b-a-1),?_,by rw [←g1];exact p1⟩,⟨l[b-1]'(by omega),(l.drop a).take (b-a-1),?_,by rw [←g2];exact p2⟩⟩
   ·rw [BQ (by omega)];obtain ⟨d,hd⟩:∃d,b-a=d+1:=⟨b-a-1,by omega⟩;rw [hd];rfl
   ·have:(b-a-1)<(l.drop a).length:=by simp;omega
    have e3:=CO this;rw [show b-a=b-a-1+1 by omega,e3]
    congr 2
    rw [List.getElem_drop]
    congr 1
    omega
  ·left;rw [show b-a=0 by omega];rfl)
 rw [←e] at key;exact key.symm
def parts (c:UInt8):List UInt8->List (List UInt8)
 | []=> [[]]
 | b::l=>if b=c then []::parts c l else match parts c l with
   | []=> [[b]]
   | p::ps=>(b::p)::ps
theorem parts_none (c:UInt8):∀l:List UInt8,c∉l->parts c l= [l]
 | [],_=>rfl
 | b::l,h=>by
   simp only [C6,not_or] at h;rw [parts,if_neg (λe=>h.1 e.symm),parts_none c l h.2]
theorem parts_cut (c:UInt8):∀(a r:List UInt8),c∉a->parts c (a++c::r)=a::parts c r
 | [],r,_=>by rw [List.nil_append,parts,if_pos rfl]
 | b::a,r,h=>by
   simp only [C6,not_or] at h;rw [List.cons_append,parts,if_neg (λe=>h.1 e.symm),parts_cut c a r h.2]
theorem parts_length (c:UInt8):∀l:List UInt8,(parts c l).length=l.count c+1
 | []=>rfl
 | b::l=>by
   rw [parts];have ih:=parts_length c l;by_cases h:b=c
   ·subst h;rw [if_pos rfl,List.length_cons,ih,List.count_cons_self]
   ·rw [if_neg h,List.count_cons_of_ne h];cases hp:parts c l with
    | nil=>rw [hp] at ih;simp at ih
    | cons p ps=>rw [hp] at ih;simpa using ih
theorem parts_le (c:UInt8) (l:List UInt8):(parts c l).length<=l.length+1:=by rw [parts_length];have:=List.count_le_length (a:=c) (l:=l);omega
theorem parts_size (c:UInt8):∀l:List UInt8,∀p∈parts c l,p.length<=l.length
 | [],p,h=>by simp [parts] at h;subst h;simp
 | b::l,p,h=>by
   rw [parts] at h;have ih:=parts_size c l;split at h
   ·rcases C6.1 h with rfl | h
    ·simp
    ·have:=ih p h;simp;omega
   ·cases hp:parts c l with
    | nil=>rw [hp] at h;simp at h;subst h;simp
    | cons q qs=>
      rw [hp] at h ih;rcases C6.1 h with rfl | h
      ·have:=ih q (by simp);simp;omega
      ·have:=ih p (by simp [h]);simp;omega
def ba (l:List UInt8):ByteArray:=⟨l.toArray⟩
theorem ba_size (l:List UInt8):(ba l).size=l.length:=len_mk l
theorem _root_.Go.Proofs.YtdfabddnpgjepaaGreatDoor.XXws0 {P:Prop} (h:P:=by
 obtain ⟨k,hk,e⟩:=List.getElem_of_mem hm;have hk':k<i:=by simp at hk;omega
 exact g2 k hk' (by rw [Ca (by omega)];rw [List.getElem_take] at e;rw [e])):P:=h
theorem splitB_parts (c:UInt8):∀(k:Nat) (s:ByteArray),Lib.countB s ⟨#[c]⟩=k->Lib.splitB ⟨#[c]⟩ 0 k s=(parts c s.data.toList).map ba:=by
 have hsz:(ByteArray.mk #[c]).size=1:=rfl;have hix:∀s:ByteArray,Lib.indexB s ⟨#[c]⟩=B4 s.data.toList c:=λs=>Lib.index_one _ _
 have miss:∀s:ByteArray,B4 s.data.toList c= -1->parts c s.data.toList= [s.data.toList]:=λs h=>parts_none c _ (λhm=>by
  obtain ⟨k,hk,e⟩:=List.getElem_of_mem hm
  exact Lib.indexByte_none h k (by rw [Ca hk,e]))
 intro k
 induction k with
 | zero=>
   intro s h;rw [Lib.splitB_zero];by_cases hi:B4 s.data.toList c= -1
   ·rw [miss s hi];rfl
   ·have:=Lib.indexByte_ge s.data.toList c;obtain ⟨i,hi'⟩:∃i:Nat,B4 s.data.toList c=i:=⟨(B4 s.data.toList c).toNat,by omega⟩
    have:=Lib.countB_hit s ⟨#[c]⟩ i (by rw [hsz];decide) (by rw [hix,hi']);omega
 | succ k ih=>
   intro s h;by_cases hi:B4 s.data.toList c= -1
   ·have:=Lib.countB_miss s ⟨#[c]⟩ (by rw [hix,hi]);omega
   ·have h0:=Lib.indexByte_ge s.data.toList c;obtain ⟨i,hi'⟩:∃i:Nat,B4 s.data.toList c=i:=⟨(B4 s.data.toList c).toNat,by omega⟩
    have h1:=Lib.countB_hit s ⟨#[c]⟩ i (by rw [hsz];decide) (by rw [hix,hi']);rw [Lib.splitB_hit _ _ _ _ i (by rw [hix,hi']),ih _ (by omega),hsz];obtain ⟨g1,g2⟩:=Lib.indexByte_some hi';have hlt:i<s.data.toList.length:=by
     rcases Dg i s.data.toList.length with h | h
     ·exact h
     ·rw [List.getElem?_eq_none h] at g1;cases g1
    have e1:s.data.toList=s.data.toList.take i++c::s.data.toList.drop (i+1):=by
     have hc:s.data.toList[i]=c:=by rw [Ca hlt] at g1;exact Du.inj g1
     conv=>lhs;rw [←List.take_append_drop i s.data.toList,BQ hlt,hc]
    have hno:c∉s.data.toList.take i:=λhm=>by exact XXws0
    have e2:parts c s.data.toList=s.data.toList.take i::parts c (s.data.toList.drop (i+1)):=by
     conv=>lhs;rw [e1]
     exact parts_cut c _ _ hno
    rw [e2,List.map_cons]
    congr 1
    ·apply ba_ext;rw [Bu];simp [ba]
    ·congr 2
     rw [Bu];rw [CN];rw [Cu,len];omega
theorem countB_parts (c:UInt8) (s:ByteArray):Lib.countB s ⟨#[c]⟩+1=(parts c s.data.toList).length:=by have h:=congrArg List.length (splitB_parts c _ s rfl);rw [Lib.splitB_all _ (show 1<=(ByteArray.mk #[c]).size from Db 1) 0 _ s rfl,Cw] at h;exact h
def blank (b:UInt8):Bool:=b==32||b==9
def trim (s:ByteArray):ByteArray:=trimB blank s
def partsOf (s:ByteArray):List ByteArray:=(parts 44 s.data.toList).map λl=>trim (ba l)
def list (vs:List ByteArray):List ByteArray:=vs.flatMap partsOf
abbrev Fld:=ByteArray × ByteArray
def find (l:List Fld) (name:ByteArray):List ByteArray:=(l.filter λf=>same f.1 name).map (·.2)
def one (names:List ByteArray) (s:ByteArray):Bool:=names.any λn=>same n s
def without (l:List Fld) (names:List ByteArray):List Fld:=l.filter λf=>!one names f.1
theorem dropWhile_le (p:UInt8->Bool) (l:List UInt8):(l.dropWhile p).length<=l.length:=(List.dropWhile_sublist p).length_le
theorem trimL_length (p:UInt8->Bool) (l:List UInt8):(trimL p l).length<=l.length:=by unfold trimL;have h1:=dropWhile_le p l;have h2:=dropWhile_le p (l.dropWhile p).reverse;simp only [List.length_reverse] at h2 ⊢;omega
theorem trim_size (p:UInt8->Bool) (s:ByteArray):(trimB p s).size<=s.size:=by
 have:=trimL_length p s.data.toList
 rwa [trimB,len_mk,←len]
def Strs (w:World) (a:Option Addr) (n:Nat) (ss:List ByteArray):Prop:=
 ss.length=n/\(0<n->∃b off,a=some ⟨b,off,none⟩/\b<w.heap.size/\∀k,k<n->w.cell? ⟨b,off+k,none⟩=some (ZY (ss[k]?.getD A8)))
theorem Strs.below {w w':World} {a:Option Addr} {n:Nat} {ss:List ByteArray} (h:Strs w a n ss) (hb:Below w.heap.size w w'):Strs w' a n ss:=by exact XXsyZ
theorem Strs.new (w:World) (cs:Array Value) (t:TypeId) (ss:List ByteArray) (n:Nat) (hn:ss.length=n) (h:∀k,k<n->cs[k]?=some (ZY (ss[k]?.getD A8))) :
 Strs (w.alloc (.cells cs t)) (some ⟨w.heap.size,0,none⟩) n ss:=by
 refine ⟨hn,λ_=>⟨w.heap.size,0,rfl,by simp,λk hk=>?_⟩⟩;rw [Di]
 exact (cell_of_row (w.alloc (.cells cs t)) w.heap.size k cs t (0,0) (heap_alloc_new w _)).trans (h k hk)
theorem Strs.made (w:World) (g:Nat) (hg:g=w.heap.size) (t:TypeId) (ss:List ByteArray) (n:Nat) (hn:ss.length=n):Strs (w.alloc (.cells ((ss.map Value.string).toArray) t)) (some ⟨g,0,none⟩) n ss:=by subst hg;refine Strs.new w _ t ss n hn λk hk=>?_;simp [Cd,Ca (show k<ss.length by omega)]
theorem _root_.Go.Proofs.YtdfabddnpgjepaaGreatDoor.XX100 {P:Prop} (h:P:=by
 have h1:(ss.map Value.string)[k]?=some (ZY (ss[k]?.getD A8)):=by rw [Cd,Ca (by omega)];rfl
 rw [←ht,List.getElem?_take_of_lt (by omega)] at h1
 simpa using h1):P:=h
theorem _root_.Go.Proofs.YtdfabddnpgjepaaGreatDoor.XXPZ2 {P:Prop} (h:P:=by
 rcases Dg g w.heap.size with hlt | hge
 ·exact hlt
 ·rw [Array.getElem?_eq_none hge] at hh;cases hh):P:=h
theorem Strs.of_own {w:World} {base:Nat} {e:TypeId} {v:Value} {n:Nat} {ss:List ByteArray} (h:w.ownsRow base e 1 v n (ss.map Value.string)):∃A c,v=.slice A n c/\Strs w A n ss:=by
 have hl:ss.length=n:=by simpa using h.1
 rcases h.2 with ⟨rfl,rfl⟩ | ⟨g,cap,cur,rfl,_,hh,_,_,_,ht⟩
 ·exact ⟨none,0,rfl,hl,λh=>absurd h (by omega)⟩
 ·refine ⟨_,_,rfl,hl,λ_=>⟨g,0,rfl,?_,λk hk=>?_⟩⟩
  ·exact XXPZ2
  ·rw [Di,cell_of_row w g k cur e (0,0) hh];exact XX100
theorem Strs.grown {w w':World} {b off n:Nat} {ss:List ByteArray} (h:Strs w (some ⟨b,off,none⟩) n ss) {row:Option Nat} (hg:w.grownBy w' row) (hne:row≠some b):Strs w' (some ⟨b,off,none⟩) n ss:=by
 refine ⟨h.1,λhn=>?_⟩;obtain ⟨b',off',e,hlt,hc⟩:=h.2 hn;obtain ⟨rfl,rfl⟩:b=b'/\off=off':=by simpa using e
 exact ⟨b,off,rfl,Df hlt hg.size,λk hk=>hg.cell (hc k hk) (λe=>hne e.symm)⟩
theorem strs_snoc (ss:List ByteArray) (k:Nat) (h:k<ss.length):ss.take (k+1)=ss.take k ++ [ss[k]?.getD A8]:=by exact XX9Py
theorem grown_of_below {w w':World} (hb:Below w.heap.size w w'):w.grownBy w' none:=⟨hb.os,hb.tape,hb.output,hb.size,λk hk _=>hb.block k hk⟩
theorem own_below {w w':World} {base:Nat} {e:TypeId} {size:Nat} {v:Value} {n:Nat} {xs:List Value} (h:w.ownsRow base e size v n xs) (hb:Below w.heap.size w w'):w'.ownsRow base e size v n xs:=
 h.kept (grown_of_below hb) (Classical.em _)
theorem map_snoc {α β:Type} (f:α->β) (d:α) (l:List α) (j:Nat) (h:j<l.length):(l.map f).take (j+1)=(l.map f).take j ++ [f (l[j]?.getD d)]:=by rw [CO (by rw [Cw];exact h),List.getElem_map,Ca h];rfl
def cells (fs:List Fld):List Value:=fs.flatMap λf=> [ZY f.1,ZY f.2]
theorem cells_length:∀fs:List Fld,(cells fs).length=fs.length*2
 | []=>rfl
 | f::fs=>by simp [cells] at *;have:=cells_length fs;simp [cells] at this;omega
theorem cells_append (fs gs:List Fld):cells (fs++gs)=cells fs++cells gs:=by simp [cells]
def dflt:Fld:=(A8,A8)
theorem cells_at:∀(fs:List Fld) (k:Nat),k<fs.length->(cells fs)[k*2]?=some (ZY (fs[k]?.getD dflt).1)/\(cells fs)[k*2+1]?=some (ZY (fs[k]?.getD dflt).2)
 | [],k,h=>by simp at h
 | f::fs,0,_=>by simp [cells]
 | f::fs,k+1,h=>by
   have:=cells_at fs k (by simpa using h);have e:cells (f::fs)=ZY f.1 :: ZY f.2::cells fs:=by simp [cells]
   rw [e,show (k+1)*2=k*2+2 by omega,show k*2+2+1=(k*2+1)+2 by omega];simpa using this
def Flds (w:World) (a:Option Addr) (n:Nat) (fs:List Fld):Prop:=
 fs.length=n/\(0<n->∃b off,a=some ⟨b,off,none⟩/\b<w.heap.size/\∀k,k<n->w.cell? ⟨b,off+k*2,none⟩=some (ZY (fs[k]?.getD dflt).1)/\w.cell? ⟨b,off+k*2+1,none⟩=some (ZY (fs[k]?.getD dflt).2))
theorem Flds.below {w w':World} {a:Option Addr} {n:Nat} {fs:List Fld} (h:Flds w a n fs) (hb:Below w.heap.size w w'):Flds w' a n fs:=by exact XXsyZ
theorem Flds.of_cells {w:World} {b:Nat} {fs:List Fld} {n:Nat} (hn:fs.length=n) (hb:b<w.heap.size) (h:∀j,j<n*2->w.cell? ⟨b,j,none⟩=(cells fs)[j]?):Flds w (some ⟨b,0,none⟩) n fs:=by
 refine ⟨hn,λ_=>⟨b,0,rfl,hb,λk hk=>?_⟩⟩
 have:=cells_at fs k (by omega);rw [Di,h (k*2) (by omega),h (k*2+1) (by omega)];exact this
theorem Flds.of_own {w:World} {base:Nat} {e:TypeId} {v:Value} {n:Nat} {fs:List Fld} (h:w.ownsRow base e 2 v n (cells fs)):∃A c,v=.slice A n c/\Flds w A n fs:=by
 have hl:fs.length=n:=by have:=h.1;rw [cells_length] at this;omega
 rcases CZ n with h0 | hp
 ·subst h0;rcases h.2 with ⟨rfl,_⟩ | ⟨g,cap,cur,rfl,_⟩
  ·exact ⟨none,0,rfl,hl,λh=>absurd h (by omega)⟩
  ·exact ⟨_,_,rfl,hl,λh=>absurd h (by omega)⟩
 ·obtain ⟨g,cap,rfl,_,hg⟩:=h.form hp;exact ⟨_,_,rfl,Flds.of_cells hl hg λj hj=>h.cellAt j hj⟩
theorem flds_snoc (fs:List Fld) (k:Nat) (h:k<fs.length):fs.take (k+1)=fs.take k ++ [fs[k]?.getD dflt]:=by exact XX9Py
end Go.Proofs.YtdfabddnpgjepaaGreatDoor.Txt
namespace Go.Proofs.YtdfabddnpgjepaaGreatDoor.Txt
open Go.RowKit Base
def nums (bs:List UInt8):List Int:=bs.map λb=>(b.toNat:Int)
theorem bytes_of:∀zs:List Int,(∀n∈zs,0<=n/\n<=255)->∃bs,zs=nums bs
 | [],_=>⟨[],rfl⟩
 | z::zs,h=>by
   obtain ⟨bs,e⟩:=bytes_of zs λn hn=>h n (by simp [hn])
   obtain ⟨h0,h1⟩:=h z (by simp);refine ⟨UInt8.ofNat z.toNat::bs,?_⟩;rw [nums,List.map_cons,e]
   congr 1
   rw [UInt8.toNat_ofNat_of_lt' (by show z.toNat<256;omega)];omega
theorem nums_at (bs:List UInt8) (k:Nat) (h:k<bs.length):(nums bs)[k]?.getD 0=(bs[k].toNat:Int):=by rw [nums,Cd,Ca h];rfl
theorem conv_str (w:World) (a:Option Addr) (n cap:Nat) (bs:List UInt8) (h:Nums .u8 w a n (nums bs)):(convert 22 9 (.slice a n cap)).run EW w=.ok (ZY (ba bs)) w:=by
 have hl:bs.length=n:=by have:=h.1;rwa [nums,Cw] at this
 have key:∀b off,(∀k,k<n->w.cell? ⟨b,off+k,none⟩=some (ZZ ZR ((nums bs)[k]?.getD 0)))->(convert 22 9 (ZX (some ⟨b,off,none⟩) n cap)).run EW w=.ok (ZY (ba bs)) w:=by
  intro b off hc
  have:=run_convert_bytes_back (P:=EW) w 22 9 5 ⟨b,off,none⟩ cap bs F0 F7 F8 (λj hj=>by
   have e:(⟨b,off,none⟩:Addr).add j=⟨b,off+j,none⟩:=by unfold Addr.add;by_cases h:j=0<;>simp [h]
   rw [e,hc j (by omega),nums_at bs j hj])
  rw [hl] at this;exact this
 rcases CZ n with h0 | hp
 ·subst h0;obtain rfl:bs= []:=List.length_eq_zero_iff.1 hl;cases a with
  | none=>rw [run_convert_bytes_string w 22 9 5 none 0 cap F0 F7 F8];rfl
  | some x=>
    exact run_convert_bytes_back (P:=EW) w 22 9 5 x cap [] F0 F7 F8 (λj hj=>by simp at hj)
 ·obtain ⟨b,off,rfl,_,hc⟩:=h.2 hp;exact key b off hc
def Lines (w:World) (a:Option Addr) (n:Nat) (ls:List (List UInt8)):Prop:=
 ls.length=n/\(0<n->∃b off,a=some ⟨b,off,none⟩/\b<w.heap.size/\∀k,k<n->∃ak ck,w.cell? ⟨b,off+k,none⟩=some (.slice ak (ls[k]?.getD []).length ck)/\Nums .u8 w ak (ls[k]?.getD []).length (nums (ls[k]?.getD [])))
end Go.Proofs.YtdfabddnpgjepaaGreatDoor.Txt
namespace Go.Proofs
open Go.Shelf
def Tryz.lays169_ren:Bg:=⟨fun | 169=>172 | n=>n,fun | 70=>178 | 9=>9 | 0=>0 | 72=>180 | 37=>22 | 127=>204 | 3=>3 | 5=>5 | n=>n,fun | n=>n⟩
def Tryz.lays231_ren:Bg:=⟨fun | 231=>315 | n=>n,fun | 9=>9 | 5=>5 | 3=>3 | 4=>4 | n=>n,fun | n=>n⟩
def Tryz.lays161_ren:Bg:=⟨fun | 161=>300 | 231=>315 | 227=>316 | 233=>317 | 235=>318 | 228=>324 | 197=>257 | 151=>327 | 260=>278 | 152=>322 | 137=>329 | 119=>330 | 224=>281 | 225=>280 | 217=>279 | 266=>301 | n=>n,fun | 9=>9 | 4=>4 | 3=>3 | 5=>5 | 117=>294 | 116=>293 | 0=>0 | 124=>297 | 105=>255 | 21=>21 | 119=>281 | 46=>102 | 139=>284 | 138=>283 | n=>n,fun | 3=>1 | 4=>2 | n=>n⟩
theorem Tryz.lays161:Go.Proofs.Lays.n161 EW Tryz.lays161_ren:={
 mixed:=by kernel_rfl
 f119:=Tryz.func330.trans (congrArg some (by kernel_rfl))
 f137:=Tryz.func329.trans (congrArg some (by kernel_rfl))
 f151:=Tryz.func327.trans (congrArg some (by kernel_rfl))
 f152:=Tryz.func322.trans (congrArg some (by kernel_rfl))
 f161:=Tryz.func300.trans (congrArg some (by kernel_rfl))
 f197:=Tryz.func257.trans (congrArg some (by kernel_rfl))
 f217:=Tryz.func279.trans (congrArg some (by kernel_rfl))
 f224:=Tryz.func281.trans (congrArg some (by kernel_rfl))
 f225:=Tryz.func280.trans (congrArg some (by kernel_rfl))
 f227:=Tryz.func316.trans (congrArg some (by kernel_rfl))
 f228:=Tryz.func324.trans (congrArg some (by kernel_rfl))
 f231:=Tryz.func315.trans (congrArg some (by kernel_rfl))
 f233:=Tryz.func317.trans (congrArg some (by kernel_rfl))
 f235:=Tryz.func318.trans (congrArg some (by kernel_rfl))
 f260:=Tryz.func278.trans (congrArg some (by kernel_rfl))
 f266:=Tryz.func301.trans (congrArg some (by kernel_rfl))
 t0:=Tryz.underlying0
 a0:=Tryz.isAgg0
 z0:=Tryz.sizeOf0
 v0:=Tryz.zeroValue0
 t3:=Tryz.underlying3
 a3:=Tryz.isAgg3
 z3:=Tryz.sizeOf3
 v3:=Tryz.zeroValue3
 t4:=Tryz.underlying4
 a4:=Tryz.isAgg4
 z4:=Tryz.sizeOf4
 v4:=Tryz.zeroValue4
 t5:=F7
 a5:=Tryz.isAgg5
 z5:=Tryz.sizeOf5
 v5:=Tryz.zeroValue5
 t9:=F8
 a9:=Tryz.isAgg9
 z9:=Tryz.sizeOf9
 v9:=Tryz.zeroValue9
 t21:=Tryz.underlying21
 a21:=Tryz.isAgg21
 z21:=Tryz.sizeOf21
 v21:=Tryz.zeroValue21
 t46:=Tryz.underlying102
 a46:=Tryz.isAgg102
 z46:=Tryz.sizeOf102
 v46:=Tryz.zeroValue102
 t105:=Tryz.underlying255
 a105:=Tryz.isAgg255
 z105:=Tryz.sizeOf255
 v105:=Tryz.zeroValue255
 t116:=Tryz.underlying293
 a116:=Tryz.isAgg293
 z116:=Tryz.sizeOf293
 t117:=Tryz.underlying294
 a117:=Tryz.isAgg294
 z117:=Tryz.sizeOf294
 v117:=Tryz.zeroValue294
 t119:=Tryz.underlying281
 a119:=Tryz.isAgg281
 z119:=Tryz.sizeOf281
 t124:=Tryz.underlying297
 a124:=Tryz.isAgg297
 z124:=Tryz.sizeOf297
 v124:=Tryz.zeroValue297
 t138:=Tryz.underlying283
 a138:=Tryz.isAgg283
 z138:=Tryz.sizeOf283
 v138:=Tryz.zeroValue283
 t139:=Tryz.underlying284
 a139:=Tryz.isAgg284
 z139:=Tryz.sizeOf284
 v139:=Tryz.zeroValue284
 g3:=by kernel_rfl
 g4:=by kernel_rfl}
open Go.RowKit in
theorem Tryz.strings_TrimLeft_one (s:ByteArray) (c:UInt8) (hc:c.toNat<128) (w:World) :
 Calls EW 300 #[ZY s,ZY ⟨#[c]⟩] w λe w'=>e=.returned (ZY ⟨(Lib.trimLeftB s.data.toList c).toArray⟩)/\w'=w:=Any.strings_TrimLeft_one Tryz.lays161 s c hc w
def Tryz.lays119_ren:Bg:=⟨fun | 119=>330 | n=>n,fun | 21=>21 | 4=>4 | n=>n,fun | n=>n⟩
theorem Tryz.lays119:Go.Proofs.Lays.n119 EW Tryz.lays119_ren:={
 mixed:=by kernel_rfl
 f119:=Tryz.func330.trans (congrArg some (by kernel_rfl))
 t4:=Tryz.underlying4
 a4:=Tryz.isAgg4
 z4:=Tryz.sizeOf4
 v4:=Tryz.zeroValue4
 t21:=Tryz.underlying21
 a21:=Tryz.isAgg21
 z21:=Tryz.sizeOf21
 v21:=Tryz.zeroValue21}
theorem Tryz.utf8_ValidRune (r:Int) (w:World) :
 Calls EW 330 #[.int .i32 r] w λe w'=>e=.returned (ZW (Lib.validRune r))/\w'=w:=Any.utf8_ValidRune Tryz.lays119 r w
def Tryz.lays137_ren:Bg:=⟨fun | 137=>329 | 217=>279 | 266=>301 | n=>n,fun | 9=>9 | 5=>5 | 3=>3 | n=>n,fun | n=>n⟩
theorem Tryz.lays137:Go.Proofs.Lays.n137 EW Tryz.lays137_ren:={
 mixed:=by kernel_rfl
 f137:=Tryz.func329.trans (congrArg some (by kernel_rfl))
 f217:=Tryz.func279.trans (congrArg some (by kernel_rfl))
 f266:=Tryz.func301.trans (congrArg some (by kernel_rfl))
 t3:=Tryz.underlying3
 a3:=Tryz.isAgg3
 z3:=Tryz.sizeOf3
 v3:=Tryz.zeroValue3
 t5:=F7
 a5:=Tryz.isAgg5
 z5:=Tryz.sizeOf5
 v5:=Tryz.zeroValue5
 t9:=F8
 a9:=Tryz.isAgg9
 z9:=Tryz.sizeOf9
 v9:=Tryz.zeroValue9}
open Go.RowKit in
theorem Tryz.strings_IndexByte (s:ByteArray) (c:Int) (w:World) :
 Calls EW 329 #[ZY s,ZZ ZR c] w λe w'=>e=.returned (ZZ ZS (B4 s.data.toList c.toNat.toUInt8))/\w'=w:=Any.strings_IndexByte Tryz.lays137 s c w
def Tryz.lays217_ren:Bg:=⟨fun | 217=>279 | 266=>301 | n=>n,fun | 9=>9 | 5=>5 | 3=>3 | n=>n,fun | n=>n⟩
def Tryz.lays224_ren:Bg:=⟨fun | 224=>281 | n=>n,fun | 3=>3 | n=>n,fun | n=>n⟩
def Tryz.lays314_ren:Bg:=⟨fun | 314=>302 | n=>n,fun | 9=>9 | 51=>23 | 3=>3 | 4=>4 | 5=>5 | 46=>102 | n=>n,fun | n=>n⟩
def Tryz.lays267_ren:Bg:=⟨fun | 267=>282 | 314=>302 | n=>n,fun | 9=>9 | 3=>3 | 146=>285 | 51=>23 | 4=>4 | 5=>5 | 46=>102 | n=>n,fun | n=>n⟩
def Tryz.lays219_ren:Bg:=⟨fun | 219=>259 | 217=>279 | 225=>280 | 224=>281 | 267=>282 | 266=>301 | 314=>302 | n=>n,fun | 9=>9 | 3=>3 | 4=>4 | 5=>5 | 46=>102 | 146=>285 | 51=>23 | n=>n,fun | 1=>0 | n=>n⟩
theorem Tryz.lays219:Go.Proofs.Lays.n219 EW Tryz.lays219_ren:={
 mixed:=by kernel_rfl
 f217:=Tryz.func279.trans (congrArg some (by kernel_rfl))
 f219:=Tryz.func259.trans (congrArg some (by kernel_rfl))
 f224:=Tryz.func281.trans (congrArg some (by kernel_rfl))
 f225:=Tryz.func280.trans (congrArg some (by kernel_rfl))
 f266:=Tryz.func301.trans (congrArg some (by kernel_rfl))
 f267:=Tryz.func282.trans (congrArg some (by kernel_rfl))
 f314:=Tryz.func302.trans (congrArg some (by kernel_rfl))
 t3:=Tryz.underlying3
 a3:=Tryz.isAgg3
 z3:=Tryz.sizeOf3
 v3:=Tryz.zeroValue3
 t4:=Tryz.underlying4
 a4:=Tryz.isAgg4
 z4:=Tryz.sizeOf4
 v4:=Tryz.zeroValue4
 t5:=F7
 a5:=Tryz.isAgg5
 z5:=Tryz.sizeOf5
 v5:=Tryz.zeroValue5
 t9:=F8
 a9:=Tryz.isAgg9
 z9:=Tryz.sizeOf9
 v9:=Tryz.zeroValue9
 t46:=Tryz.underlying102
 a46:=Tryz.isAgg102
 z46:=Tryz.sizeOf102
 v46:=Tryz.zeroValue102
 t51:=Tryz.underlying23
 a51:=Tryz.isAgg23
 z51:=Tryz.sizeOf23
 v51:=Tryz.zeroValue23
 t146:=Tryz.underlying285
 a146:=Tryz.isAgg285
 z146:=Tryz.sizeOf285
 v146:=Tryz.zeroValue285
 g1:=by kernel_rfl}
open Go.RowKit Go.Lib in
theorem Tryz.stringslite_Index_one (s:ByteArray) (c:UInt8) (w:World) :
 Calls EW 259 #[ZY s,ZY ⟨#[c]⟩] w λe w'=>e=.returned (ZZ ZS (B4 s.data.toList c))/\w'=w:=Any.stringslite_Index_one Tryz.lays219 s c w
def Tryz.lays143_ren:Bg:=⟨fun | 143=>239 | 219=>259 | 217=>279 | 225=>280 | 224=>281 | 267=>282 | 266=>301 | 314=>302 | n=>n,fun | 9=>9 | 3=>3 | 4=>4 | 5=>5 | 46=>102 | 146=>285 | 51=>23 | n=>n,fun | 1=>0 | n=>n⟩
theorem Tryz.lays143:Go.Proofs.Lays.n143 EW Tryz.lays143_ren:={
 mixed:=by kernel_rfl
 f143:=Tryz.func239.trans (congrArg some (by kernel_rfl))
 f217:=Tryz.func279.trans (congrArg some (by kernel_rfl))
 f219:=Tryz.func259.trans (congrArg some (by kernel_rfl))
 f224:=Tryz.func281.trans (congrArg some (by kernel_rfl))
 f225:=Tryz.func280.trans (congrArg some (by kernel_rfl))
 f266:=Tryz.func301.trans (congrArg some (by kernel_rfl))
 f267:=Tryz.func282.trans (congrArg some (by kernel_rfl))
 f314:=Tryz.func302.trans (congrArg some (by kernel_rfl))
 t3:=Tryz.underlying3
 a3:=Tryz.isAgg3
 z3:=Tryz.sizeOf3
 v3:=Tryz.zeroValue3
 t4:=Tryz.underlying4
 a4:=Tryz.isAgg4
 z4:=Tryz.sizeOf4
 v4:=Tryz.zeroValue4
 t5:=F7
 a5:=Tryz.isAgg5
 z5:=Tryz.sizeOf5
 v5:=Tryz.zeroValue5
 t9:=F8
 a9:=Tryz.isAgg9
 z9:=Tryz.sizeOf9
 v9:=Tryz.zeroValue9
 t46:=Tryz.underlying102
 a46:=Tryz.isAgg102
 z46:=Tryz.sizeOf102
 v46:=Tryz.zeroValue102
 t51:=Tryz.underlying23
 a51:=Tryz.isAgg23
 z51:=Tryz.sizeOf23
 v51:=Tryz.zeroValue23
 t146:=Tryz.underlying285
 a146:=Tryz.isAgg285
 z146:=Tryz.sizeOf285
 v146:=Tryz.zeroValue285
 g1:=by kernel_rfl}
open Go.RowKit Go.Lib in
theorem Tryz.strings_Index_one (s:ByteArray) (c:UInt8) (w:World) :
 Calls EW 239 #[ZY s,ZY ⟨#[c]⟩] w λe w'=>e=.returned (ZZ ZS (B4 s.data.toList c))/\w'=w:=Any.strings_Index_one Tryz.lays143 s c w
def Tryz.lays144_ren:Bg:=⟨fun | 144=>304 | 143=>239 | 219=>259 | 217=>279 | 225=>280 | 224=>281 | 267=>282 | 266=>301 | 314=>302 | n=>n,fun | 9=>9 | 4=>4 | 3=>3 | 5=>5 | 46=>102 | 146=>285 | 51=>23 | n=>n,fun | 1=>0 | n=>n⟩
theorem Tryz.lays144:Go.Proofs.Lays.n144 EW Tryz.lays144_ren:={
 mixed:=by kernel_rfl
 f143:=Tryz.func239.trans (congrArg some (by kernel_rfl))
 f144:=Tryz.func304.trans (congrArg some (by kernel_rfl))
 f217:=Tryz.func279.trans (congrArg some (by kernel_rfl))
 f219:=Tryz.func259.trans (congrArg some (by kernel_rfl))
 f224:=Tryz.func281.trans (congrArg some (by kernel_rfl))
 f225:=Tryz.func280.trans (congrArg some (by kernel_rfl))
 f266:=Tryz.func301.trans (congrArg some (by kernel_rfl))
 f267:=Tryz.func282.trans (congrArg some (by kernel_rfl))
 f314:=Tryz.func302.trans (congrArg some (by kernel_rfl))
 t3:=Tryz.underlying3
 a3:=Tryz.isAgg3
 z3:=Tryz.sizeOf3
 v3:=Tryz.zeroValue3
 t4:=Tryz.underlying4
 a4:=Tryz.isAgg4
 z4:=Tryz.sizeOf4
 v4:=Tryz.zeroValue4
 t5:=F7
 a5:=Tryz.isAgg5
 z5:=Tryz.sizeOf5
 v5:=Tryz.zeroValue5
 t9:=F8
 a9:=Tryz.isAgg9
 z9:=Tryz.sizeOf9
 v9:=Tryz.zeroValue9
 t46:=Tryz.underlying102
 a46:=Tryz.isAgg102
 z46:=Tryz.sizeOf102
 v46:=Tryz.zeroValue102
 t51:=Tryz.underlying23
 a51:=Tryz.isAgg23
 z51:=Tryz.sizeOf23
 v51:=Tryz.zeroValue23
 t146:=Tryz.underlying285
 a146:=Tryz.isAgg285
 z146:=Tryz.sizeOf285
 v146:=Tryz.zeroValue285
 g1:=by kernel_rfl}
open Go.RowKit Go.Lib in
theorem Tryz.strings_Contains_one (s:ByteArray) (c:UInt8) (w:World) :
 Calls EW 304 #[ZY s,ZY ⟨#[c]⟩] w λe w'=>e=.returned (ZW (decide (0<=B4 s.data.toList c)))/\w'=w:=Any.strings_Contains_one Tryz.lays144 s c w
def Tryz.lays220_ren:Bg:=⟨fun | 220=>298 | 219=>259 | 217=>279 | 225=>280 | 224=>281 | 267=>282 | 266=>301 | 314=>302 | n=>n,fun | 9=>9 | 4=>4 | 3=>3 | 5=>5 | 46=>102 | 146=>285 | 51=>23 | n=>n,fun | 1=>0 | n=>n⟩
def Tryz.lays145_ren:Bg:=⟨fun | 145=>271 | 220=>298 | 219=>259 | 217=>279 | 225=>280 | 224=>281 | 267=>282 | 266=>301 | 314=>302 | n=>n,fun | 9=>9 | 4=>4 | 59=>268 | 3=>3 | 5=>5 | 46=>102 | 146=>285 | 51=>23 | n=>n,fun | 1=>0 | n=>n⟩
def Tryz.lays138_ren:Bg:=⟨fun | 138=>238 | 195=>256 | 218=>258 | 143=>239 | 219=>259 | 217=>279 | 225=>280 | 224=>281 | 267=>282 | 266=>301 | 314=>302 | n=>n,fun | 9=>9 | 3=>3 | 4=>4 | 5=>5 | 0=>0 | 46=>102 | 146=>285 | 51=>23 | n=>n,fun | 1=>0 | n=>n⟩
theorem Tryz.lays138:Go.Proofs.Lays.n138 EW Tryz.lays138_ren:={
 mixed:=by kernel_rfl
 f138:=Tryz.func238.trans (congrArg some (by kernel_rfl))
 f143:=Tryz.func239.trans (congrArg some (by kernel_rfl))
 f195:=Tryz.func256.trans (congrArg some (by kernel_rfl))
 f217:=Tryz.func279.trans (congrArg some (by kernel_rfl))
 f218:=Tryz.func258.trans (congrArg some (by kernel_rfl))
 f219:=Tryz.func259.trans (congrArg some (by kernel_rfl))
 f224:=Tryz.func281.trans (congrArg some (by kernel_rfl))
 f225:=Tryz.func280.trans (congrArg some (by kernel_rfl))
 f266:=Tryz.func301.trans (congrArg some (by kernel_rfl))
 f267:=Tryz.func282.trans (congrArg some (by kernel_rfl))
 f314:=Tryz.func302.trans (congrArg some (by kernel_rfl))
 t0:=Tryz.underlying0
 a0:=Tryz.isAgg0
 z0:=Tryz.sizeOf0
 v0:=Tryz.zeroValue0
 t3:=Tryz.underlying3
 a3:=Tryz.isAgg3
 z3:=Tryz.sizeOf3
 v3:=Tryz.zeroValue3
 t4:=Tryz.underlying4
 a4:=Tryz.isAgg4
 z4:=Tryz.sizeOf4
 v4:=Tryz.zeroValue4
 t5:=F7
 a5:=Tryz.isAgg5
 z5:=Tryz.sizeOf5
 v5:=Tryz.zeroValue5
 t9:=F8
 a9:=Tryz.isAgg9
 z9:=Tryz.sizeOf9
 v9:=Tryz.zeroValue9
 t46:=Tryz.underlying102
 a46:=Tryz.isAgg102
 z46:=Tryz.sizeOf102
 v46:=Tryz.zeroValue102
 t51:=Tryz.underlying23
 a51:=Tryz.isAgg23
 z51:=Tryz.sizeOf23
 v51:=Tryz.zeroValue23
 t146:=Tryz.underlying285
 a146:=Tryz.isAgg285
 z146:=Tryz.sizeOf285
 v146:=Tryz.zeroValue285
 g1:=by kernel_rfl}
open Go.RowKit Go.Lib in
theorem Tryz.strings_Count_one (s:ByteArray) (c:UInt8) (w:World) :
 Calls EW 238 #[ZY s,ZY ⟨#[c]⟩] w λe w'=>e=.returned (ZZ ZS (Lib.countByte s.data.toList c))/\w'=w:=Any.strings_Count_one Tryz.lays138 s c w
def Tryz.laysM219_ren:Bg:=⟨fun | 219=>259 | 217=>279 | 225=>280 | 224=>281 | 267=>282 | 266=>301 | 314=>302 | n=>n,fun | 9=>9 | 3=>3 | 4=>4 | 5=>5 | 46=>102 | 146=>285 | 51=>23 | n=>n,fun | 1=>0 | n=>n⟩
def Tryz.laysM143_ren:Bg:=⟨fun | 143=>239 | 219=>259 | 217=>279 | 225=>280 | 224=>281 | 267=>282 | 266=>301 | 314=>302 | n=>n,fun | 9=>9 | 3=>3 | 4=>4 | 5=>5 | 46=>102 | 146=>285 | 51=>23 | n=>n,fun | 1=>0 | n=>n⟩
def Tryz.laysM144_ren:Bg:=⟨fun | 144=>304 | 143=>239 | 219=>259 | 217=>279 | 225=>280 | 224=>281 | 267=>282 | 266=>301 | 314=>302 | n=>n,fun | 9=>9 | 4=>4 | 3=>3 | 5=>5 | 46=>102 | 146=>285 | 51=>23 | n=>n,fun | 1=>0 | n=>n⟩
def Tryz.laysM220_ren:Bg:=⟨fun | 220=>298 | 219=>259 | 217=>279 | 225=>280 | 224=>281 | 267=>282 | 266=>301 | 314=>302 | n=>n,fun | 9=>9 | 4=>4 | 3=>3 | 5=>5 | 46=>102 | 146=>285 | 51=>23 | n=>n,fun | 1=>0 | n=>n⟩
def Tryz.laysM145_ren:Bg:=⟨fun | 145=>271 | 220=>298 | 219=>259 | 217=>279 | 225=>280 | 224=>281 | 267=>282 | 266=>301 | 314=>302 | n=>n,fun | 9=>9 | 4=>4 | 59=>268 | 3=>3 | 5=>5 | 46=>102 | 146=>285 | 51=>23 | n=>n,fun | 1=>0 | n=>n⟩
def Tryz.laysM138_ren:Bg:=⟨fun | 138=>238 | 195=>256 | 218=>258 | 143=>239 | 219=>259 | 217=>279 | 225=>280 | 224=>281 | 267=>282 | 266=>301 | 314=>302 | n=>n,fun | 9=>9 | 3=>3 | 4=>4 | 5=>5 | 0=>0 | 46=>102 | 146=>285 | 51=>23 | n=>n,fun | 1=>0 | n=>n⟩
def Tryz.lays206_ren:Bg:=⟨fun | 206=>305 | n=>n,fun | 9=>9 | 4=>4 | 3=>3 | n=>n,fun | n=>n⟩
def Tryz.lays99_ren:Bg:=⟨fun | 99=>288 | 206=>305 | n=>n,fun | 9=>9 | 4=>4 | 3=>3 | n=>n,fun | n=>n⟩
theorem Tryz.lays99:Go.Proofs.Lays.n99 EW Tryz.lays99_ren:={
 mixed:=by kernel_rfl
 f99:=Tryz.func288.trans (congrArg some (by kernel_rfl))
 f206:=Tryz.func305.trans (congrArg some (by kernel_rfl))
 t3:=Tryz.underlying3
 a3:=Tryz.isAgg3
 z3:=Tryz.sizeOf3
 v3:=Tryz.zeroValue3
 t4:=Tryz.underlying4
 a4:=Tryz.isAgg4
 z4:=Tryz.sizeOf4
 v4:=Tryz.zeroValue4
 t9:=F8
 a9:=Tryz.isAgg9
 z9:=Tryz.sizeOf9
 v9:=Tryz.zeroValue9}
open Go.RowKit Go.Lib in
theorem Tryz.strings_HasPrefix (s p:ByteArray) (w:World) :
 Calls EW 288 #[ZY s,ZY p] w λe w'=>e=.returned (ZW (Lib.hasPrefix s.data.toList p.data.toList))/\w'=w:=Any.strings_HasPrefix Tryz.lays99 s p w
def Tryz.lays208_ren:Bg:=⟨fun | 208=>313 | 206=>305 | n=>n,fun | 9=>9 | 4=>4 | 3=>3 | n=>n,fun | n=>n⟩
def Tryz.lays101_ren:Bg:=⟨fun | 101=>296 | 208=>313 | 206=>305 | n=>n,fun | 9=>9 | 4=>4 | 3=>3 | n=>n,fun | n=>n⟩
theorem Tryz.lays101:Go.Proofs.Lays.n101 EW Tryz.lays101_ren:={
 mixed:=by kernel_rfl
 f101:=Tryz.func296.trans (congrArg some (by kernel_rfl))
 f206:=Tryz.func305.trans (congrArg some (by kernel_rfl))
 f208:=Tryz.func313.trans (congrArg some (by kernel_rfl))
 t3:=Tryz.underlying3
 a3:=Tryz.isAgg3
 z3:=Tryz.sizeOf3
 v3:=Tryz.zeroValue3
 t4:=Tryz.underlying4
 a4:=Tryz.isAgg4
 z4:=Tryz.sizeOf4
 v4:=Tryz.zeroValue4
 t9:=F8
 a9:=Tryz.isAgg9
 z9:=Tryz.sizeOf9
 v9:=Tryz.zeroValue9}
open Go.RowKit Go.Lib in
theorem Tryz.strings_TrimPrefix (s p:ByteArray) (w:World) :
 Calls EW 296 #[ZY s,ZY p] w λe w'=>e=.returned (ZY ⟨(Lib.trimPrefix s.data.toList p.data.toList).toArray⟩)/\w'=w:=Any.strings_TrimPrefix Tryz.lays101 s p w
def Tryz.lays221_ren:Bg:=⟨fun | 221=>215 | 268=>237 | 138=>238 | 143=>239 | 195=>256 | 197=>257 | 218=>258 | 219=>259 | 260=>278 | 217=>279 | 225=>280 | 224=>281 | 267=>282 | 266=>301 | 314=>302 | n=>n,fun | 9=>9 | 3=>3 | 31=>124 | 4=>4 | 0=>0 | 105=>255 | 21=>21 | 5=>5 | 46=>102 | 119=>281 | 139=>284 | 138=>283 | 146=>285 | 51=>23 | n=>n,fun | 1=>0 | 3=>1 | 4=>2 | n=>n⟩
theorem Tryz.lays221:Go.Proofs.Lays.n221 EW Tryz.lays221_ren:={
 mixed:=by kernel_rfl
 f138:=Tryz.func238.trans (congrArg some (by kernel_rfl))
 f143:=Tryz.func239.trans (congrArg some (by kernel_rfl))
 f195:=Tryz.func256.trans (congrArg some (by kernel_rfl))
 f197:=Tryz.func257.trans (congrArg some (by kernel_rfl))
 f217:=Tryz.func279.trans (congrArg some (by kernel_rfl))
 f218:=Tryz.func258.trans (congrArg some (by kernel_rfl))
 f219:=Tryz.func259.trans (congrArg some (by kernel_rfl))
 f221:=Tryz.func215.trans (congrArg some (by kernel_rfl))
 f224:=Tryz.func281.trans (congrArg some (by kernel_rfl))
 f225:=Tryz.func280.trans (congrArg some (by kernel_rfl))
 f260:=Tryz.func278.trans (congrArg some (by kernel_rfl))
 f266:=Tryz.func301.trans (congrArg some (by kernel_rfl))
 f267:=Tryz.func282.trans (congrArg some (by kernel_rfl))
 f268:=Tryz.func237.trans (congrArg some (by kernel_rfl))
 f314:=Tryz.func302.trans (congrArg some (by kernel_rfl))
 t0:=Tryz.underlying0
 a0:=Tryz.isAgg0
 z0:=Tryz.sizeOf0
 v0:=Tryz.zeroValue0
 t3:=Tryz.underlying3
 a3:=Tryz.isAgg3
 z3:=Tryz.sizeOf3
 v3:=Tryz.zeroValue3
 t4:=Tryz.underlying4
 a4:=Tryz.isAgg4
 z4:=Tryz.sizeOf4
 v4:=Tryz.zeroValue4
 t5:=F7
 a5:=Tryz.isAgg5
 z5:=Tryz.sizeOf5
 v5:=Tryz.zeroValue5
 t9:=F8
 a9:=Tryz.isAgg9
 z9:=Tryz.sizeOf9
 v9:=Tryz.zeroValue9
 t21:=Tryz.underlying21
 a21:=Tryz.isAgg21
 z21:=Tryz.sizeOf21
 v21:=Tryz.zeroValue21
 t31:=Tryz.underlying124
 a31:=Tryz.isAgg124
 z31:=Tryz.sizeOf124
 v31:=Tryz.zeroValue124
 t46:=Tryz.underlying102
 a46:=Tryz.isAgg102
 z46:=Tryz.sizeOf102
 v46:=Tryz.zeroValue102
 t51:=Tryz.underlying23
 a51:=Tryz.isAgg23
 z51:=Tryz.sizeOf23
 v51:=Tryz.zeroValue23
 t105:=Tryz.underlying255
 a105:=Tryz.isAgg255
 z105:=Tryz.sizeOf255
 v105:=Tryz.zeroValue255
 t119:=Tryz.underlying281
 a119:=Tryz.isAgg281
 z119:=Tryz.sizeOf281
 t138:=Tryz.underlying283
 a138:=Tryz.isAgg283
 z138:=Tryz.sizeOf283
 v138:=Tryz.zeroValue283
 t139:=Tryz.underlying284
 a139:=Tryz.isAgg284
 z139:=Tryz.sizeOf284
 v139:=Tryz.zeroValue284
 t146:=Tryz.underlying285
 a146:=Tryz.isAgg285
 z146:=Tryz.sizeOf285
 v146:=Tryz.zeroValue285
 g1:=by kernel_rfl
 g3:=by kernel_rfl
 g4:=by kernel_rfl}
def Tryz.lays146_ren:Bg:=⟨fun | 146=>191 | 221=>215 | 268=>237 | 138=>238 | 143=>239 | 195=>256 | 197=>257 | 218=>258 | 219=>259 | 260=>278 | 217=>279 | 225=>280 | 224=>281 | 267=>282 | 266=>301 | 314=>302 | n=>n,fun | 9=>9 | 31=>124 | 3=>3 | 4=>4 | 0=>0 | 105=>255 | 21=>21 | 5=>5 | 46=>102 | 119=>281 | 139=>284 | 138=>283 | 146=>285 | 51=>23 | n=>n,fun | 1=>0 | 3=>1 | 4=>2 | n=>n⟩
def Tryz.laysM146_ren:Bg:=⟨fun | 146=>191 | 221=>215 | 268=>237 | 138=>238 | 143=>239 | 195=>256 | 197=>257 | 218=>258 | 219=>259 | 260=>278 | 217=>279 | 225=>280 | 224=>281 | 267=>282 | 266=>301 | 314=>302 | n=>n,fun | 9=>9 | 31=>124 | 3=>3 | 4=>4 | 0=>0 | 105=>255 | 21=>21 | 5=>5 | 46=>102 | 119=>281 | 139=>284 | 138=>283 | 146=>285 | 51=>23 | n=>n,fun | 1=>0 | 3=>1 | 4=>2 | n=>n⟩
def Tryz.lays197_ren:Bg:=⟨fun | 197=>257 | 260=>278 | n=>n,fun | 9=>9 | 21=>21 | 3=>3 | 4=>4 | 5=>5 | 105=>255 | 119=>281 | 0=>0 | 46=>102 | 139=>284 | 138=>283 | n=>n,fun | 3=>1 | 4=>2 | n=>n⟩
def Tryz.lays152_ren:Bg:=⟨fun | 152=>322 | 137=>329 | 119=>330 | 224=>281 | 225=>280 | 217=>279 | 266=>301 | n=>n,fun | 9=>9 | 21=>21 | 3=>3 | 4=>4 | 5=>5 | 0=>0 | 46=>102 | n=>n,fun | n=>n⟩
theorem Tryz.lays152:Go.Proofs.Lays.n152 EW Tryz.lays152_ren:={
 mixed:=by kernel_rfl
 f119:=Tryz.func330.trans (congrArg some (by kernel_rfl))
 f137:=Tryz.func329.trans (congrArg some (by kernel_rfl))
 f152:=Tryz.func322.trans (congrArg some (by kernel_rfl))
 f217:=Tryz.func279.trans (congrArg some (by kernel_rfl))
 f224:=Tryz.func281.trans (congrArg some (by kernel_rfl))
 f225:=Tryz.func280.trans (congrArg some (by kernel_rfl))
 f266:=Tryz.func301.trans (congrArg some (by kernel_rfl))
 t0:=Tryz.underlying0
 a0:=Tryz.isAgg0
 z0:=Tryz.sizeOf0
 v0:=Tryz.zeroValue0
 t3:=Tryz.underlying3
 a3:=Tryz.isAgg3
 z3:=Tryz.sizeOf3
 v3:=Tryz.zeroValue3
 t4:=Tryz.underlying4
 a4:=Tryz.isAgg4
 z4:=Tryz.sizeOf4
 v4:=Tryz.zeroValue4
 t5:=F7
 a5:=Tryz.isAgg5
 z5:=Tryz.sizeOf5
 v5:=Tryz.zeroValue5
 t9:=F8
 a9:=Tryz.isAgg9
 z9:=Tryz.sizeOf9
 v9:=Tryz.zeroValue9
 t21:=Tryz.underlying21
 a21:=Tryz.isAgg21
 z21:=Tryz.sizeOf21
 v21:=Tryz.zeroValue21
 t46:=Tryz.underlying102
 a46:=Tryz.isAgg102
 z46:=Tryz.sizeOf102
 v46:=Tryz.zeroValue102}
open Go.RowKit Go.Lib in
theorem Tryz.strings_IndexRune_ascii (s:ByteArray) (r:Int) (w:World) (h0:0<=r) (h1:r<128) :
 Calls EW 322 #[ZY s,.int .i32 r] w λe w'=>e=.returned (ZZ ZS (B4 s.data.toList r.toNat.toUInt8))/\w'=w:=Any.strings_IndexRune_ascii Tryz.lays152 s r w h0 h1
def Tryz.lays151_ren:Bg:=⟨fun | 151=>327 | 152=>322 | 137=>329 | 119=>330 | 224=>281 | 225=>280 | 217=>279 | 266=>301 | n=>n,fun | 9=>9 | 21=>21 | 4=>4 | 3=>3 | 5=>5 | 0=>0 | 46=>102 | n=>n,fun | n=>n⟩
def Tryz.lays195_ren:Bg:=⟨fun | 195=>256 | n=>n,fun | 9=>9 | 3=>3 | 0=>0 | 4=>4 | n=>n,fun | n=>n⟩
def Tryz.lays226_ren:Bg:=⟨fun | 226=>323 | n=>n,fun | 3=>3 | 4=>4 | n=>n,fun | n=>n⟩
theorem Tryz.lays226:Go.Proofs.Lays.n226 EW Tryz.lays226_ren:={
 mixed:=by kernel_rfl
 f226:=Tryz.func323.trans (congrArg some (by kernel_rfl))
 t3:=Tryz.underlying3
 a3:=Tryz.isAgg3
 z3:=Tryz.sizeOf3
 v3:=Tryz.zeroValue3
 t4:=Tryz.underlying4
 a4:=Tryz.isAgg4
 z4:=Tryz.sizeOf4
 v4:=Tryz.zeroValue4}
open Go.RowKit Go.Lib in
theorem Tryz.strings_shouldUseASCIISet (n:Int) (w:World) :
 Calls EW 323 #[ZZ ZS n] w λe w'=>e=.returned (ZW (decide (8<n)))/\w'=w:=Any.strings_shouldUseASCIISet Tryz.lays226 n w
def Tryz.lays153_ren:Bg:=⟨fun | 153=>308 | 152=>322 | 226=>323 | 227=>316 | 228=>324 | 137=>329 | 119=>330 | 224=>281 | 225=>280 | 217=>279 | 266=>301 | n=>n,fun | 9=>9 | 3=>3 | 4=>4 | 5=>5 | 21=>21 | 117=>294 | 116=>293 | 0=>0 | 46=>102 | 124=>297 | n=>n,fun | n=>n⟩
theorem Tryz.lays153:Go.Proofs.Lays.n153 EW Tryz.lays153_ren:={
 mixed:=by kernel_rfl
 f119:=Tryz.func330.trans (congrArg some (by kernel_rfl))
 f137:=Tryz.func329.trans (congrArg some (by kernel_rfl))
 f152:=Tryz.func322.trans (congrArg some (by kernel_rfl))
 f153:=Tryz.func308.trans (congrArg some (by kernel_rfl))
 f217:=Tryz.func279.trans (congrArg some (by kernel_rfl))
 f224:=Tryz.func281.trans (congrArg some (by kernel_rfl))
 f225:=Tryz.func280.trans (congrArg some (by kernel_rfl))
 f226:=Tryz.func323.trans (congrArg some (by kernel_rfl))
 f227:=Tryz.func316.trans (congrArg some (by kernel_rfl))
 f228:=Tryz.func324.trans (congrArg some (by kernel_rfl))
 f266:=Tryz.func301.trans (congrArg some (by kernel_rfl))
 t0:=Tryz.underlying0
 a0:=Tryz.isAgg0
 z0:=Tryz.sizeOf0
 v0:=Tryz.zeroValue0
 t3:=Tryz.underlying3
 a3:=Tryz.isAgg3
 z3:=Tryz.sizeOf3
 v3:=Tryz.zeroValue3
 t4:=Tryz.underlying4
 a4:=Tryz.isAgg4
 z4:=Tryz.sizeOf4
 v4:=Tryz.zeroValue4
 t5:=F7
 a5:=Tryz.isAgg5
 z5:=Tryz.sizeOf5
 v5:=Tryz.zeroValue5
 t9:=F8
 a9:=Tryz.isAgg9
 z9:=Tryz.sizeOf9
 v9:=Tryz.zeroValue9
 t21:=Tryz.underlying21
 a21:=Tryz.isAgg21
 z21:=Tryz.sizeOf21
 v21:=Tryz.zeroValue21
 t46:=Tryz.underlying102
 a46:=Tryz.isAgg102
 z46:=Tryz.sizeOf102
 v46:=Tryz.zeroValue102
 t116:=Tryz.underlying293
 a116:=Tryz.isAgg293
 z116:=Tryz.sizeOf293
 t117:=Tryz.underlying294
 a117:=Tryz.isAgg294
 z117:=Tryz.sizeOf294
 v117:=Tryz.zeroValue294
 t124:=Tryz.underlying297
 a124:=Tryz.isAgg297
 z124:=Tryz.sizeOf297
 v124:=Tryz.zeroValue297}
def Tryz.lays227_ren:Bg:=⟨fun | 227=>316 | n=>n,fun | 9=>9 | 116=>293 | 4=>4 | 0=>0 | 3=>3 | 5=>5 | n=>n,fun | n=>n⟩
def Tryz.lays228_ren:Bg:=⟨fun | 228=>324 | n=>n,fun | 124=>297 | 5=>5 | 4=>4 | 0=>0 | 116=>293 | n=>n,fun | n=>n⟩
open Go.RowKit Go.Lib in
theorem Tryz.strings_IndexAny_long (hv116:∀w,(zeroValue 293).run EW w=.ok (ZU (Aj 256 (ZW false))) w) (s chars:ByteArray) (w:World) (h2:2<=chars.size) (h8:8<s.size) (hs:s.size<4294967281) (hcs:chars.size<4294967281) (hascii:∀(j:Nat) b,chars.data.toList[j]?=some b->b.toNat<128) :
 Calls EW 308 #[ZY s,ZY chars] w λe w'=>e=.returned (ZZ ZS (Lib.indexAny s.data.toList chars.data.toList))/\w'=((w.alloc (.cells (Lib.setCells chars.data.toList) 293)).alloc (.cells (Lib.setCells chars.data.toList) 293)):=Any.strings_IndexAny_long Tryz.lays153 hv116 (by kernel_rfl) s chars w h2 h8 hs hcs hascii
def Tryz.lays268_ren:Bg:=⟨fun | 268=>237 | 195=>256 | 197=>257 | 260=>278 | n=>n,fun | 9=>9 | 3=>3 | 31=>124 | 4=>4 | 105=>255 | 21=>21 | 0=>0 | 5=>5 | 119=>281 | 46=>102 | 139=>284 | 138=>283 | n=>n,fun | 3=>1 | 4=>2 | n=>n⟩
def Tryz.lays260_ren:Bg:=⟨fun | 260=>278 | n=>n,fun | 9=>9 | 21=>21 | 3=>3 | 4=>4 | 5=>5 | 119=>281 | 0=>0 | 46=>102 | 139=>284 | 138=>283 | n=>n,fun | 3=>1 | 4=>2 | n=>n⟩
def Tryz.lays229_ren:Bg:=⟨fun | 229=>283 | n=>n,fun | 9=>9 | 40=>273 | 31=>124 | 152=>287 | 3=>3 | 0=>0 | 4=>4 | 21=>21 | 154=>289 | n=>n,fun | n=>n⟩
theorem Tryz.lays229:Go.Proofs.Lays.n229 EW Tryz.lays229_ren:={
 mixed:=by kernel_rfl
 f229:=Tryz.func283.trans (congrArg some (by kernel_rfl))
 t0:=Tryz.underlying0
 a0:=Tryz.isAgg0
 z0:=Tryz.sizeOf0
 v0:=Tryz.zeroValue0
 t3:=Tryz.underlying3
 a3:=Tryz.isAgg3
 z3:=Tryz.sizeOf3
 v3:=Tryz.zeroValue3
 t4:=Tryz.underlying4
 a4:=Tryz.isAgg4
 z4:=Tryz.sizeOf4
 v4:=Tryz.zeroValue4
 t9:=F8
 a9:=Tryz.isAgg9
 z9:=Tryz.sizeOf9
 v9:=Tryz.zeroValue9
 t21:=Tryz.underlying21
 a21:=Tryz.isAgg21
 z21:=Tryz.sizeOf21
 v21:=Tryz.zeroValue21
 t31:=Tryz.underlying124
 a31:=Tryz.isAgg124
 z31:=Tryz.sizeOf124
 v31:=Tryz.zeroValue124
 t40:=Tryz.underlying273
 a40:=Tryz.isAgg273
 z40:=Tryz.sizeOf273
 v40:=Tryz.zeroValue273
 t152:=Tryz.underlying287
 a152:=Tryz.isAgg287
 z152:=Tryz.sizeOf287
 v152:=Tryz.zeroValue287
 t154:=Tryz.underlying289
 a154:=Tryz.isAgg289
 z154:=Tryz.sizeOf289
 v154:=Tryz.zeroValue289}
open Go.RowKit Go.Lib in
theorem Tryz.strings_FieldsFunc_runes (g:Nat) (lb:Array Value) (eg:∀args w,(callFunc g args).run EW w=.ok (.enter g args) w) (p:Nat->Bool) (s:ByteArray) (w:World) (hs:s.size<=4294967296) (hp:PredAtRunes EW g lb p w) :
 Calls EW 283 #[ZY s,.func (.func g) #[] lb] w λe w'=>∃A,e=.returned (ZX (some ⟨A,0,none⟩) (Lib.goFieldsP p s).length (Lib.goFieldsP p s).length)/\w.heap.size<=A/\
  w'.ownsRow w.heap.size 9 1 (ZX (some ⟨A,0,none⟩) (Lib.goFieldsP p s).length (Lib.goFieldsP p s).length) (Lib.goFieldsP p s).length ((Lib.goFieldsP p s).map Value.string)/\Below w.heap.size w w':=Any.strings_FieldsFunc_runes Tryz.lays229 g lb eg p s w hs hp (by kernel_rfl) (by kernel_rfl)
def Tryz.lays109_ren:Bg:=⟨fun | 109=>285 | n=>n,fun | 31=>124 | 9=>9 | 3=>3 | 0=>0 | 4=>4 | n=>n,fun | n=>n⟩
def Tryz.lays110_ren:Bg:=⟨fun | 110=>261 | 109=>285 | n=>n,fun | 31=>124 | 9=>9 | 4=>4 | 3=>3 | 0=>0 | n=>n,fun | n=>n⟩
theorem Tryz.lays110:Go.Proofs.Lays.n110 EW Tryz.lays110_ren:={
 mixed:=by kernel_rfl
 f109:=Tryz.func285.trans (congrArg some (by kernel_rfl))
 f110:=Tryz.func261.trans (congrArg some (by kernel_rfl))
 t0:=Tryz.underlying0
 a0:=Tryz.isAgg0
 z0:=Tryz.sizeOf0
 v0:=Tryz.zeroValue0
 t3:=Tryz.underlying3
 a3:=Tryz.isAgg3
 z3:=Tryz.sizeOf3
 v3:=Tryz.zeroValue3
 t4:=Tryz.underlying4
 a4:=Tryz.isAgg4
 z4:=Tryz.sizeOf4
 v4:=Tryz.zeroValue4
 t9:=F8
 a9:=Tryz.isAgg9
 z9:=Tryz.sizeOf9
 v9:=Tryz.zeroValue9
 t31:=Tryz.underlying124
 a31:=Tryz.isAgg124
 z31:=Tryz.sizeOf124
 v31:=Tryz.zeroValue124}
open Go.Lib in
theorem Tryz.slices_Contains_string (b off n c:Nat) (zs:List ByteArray) (x:ByteArray) (w:World) (hz:n<=zs.length) (hbig:n<=9223372036854775807) (hc:∀j,j<zs.length->w.cell? ⟨b,off+j,none⟩=some (ZY (zs.getD j A8))) :
 Calls EW 261 #[ZX (some ⟨b,off,none⟩) n c,ZY x] w λe w'=>e=.returned (ZW (Lib.containsS (zs.take n) x))/\w'=w:=Any.slices_Contains_string Tryz.lays110 b off n c zs x w hz hbig hc
open Go.Lib in
theorem Tryz.slices_Contains_string_empty (a:Option Addr) (c:Nat) (x:ByteArray) (w:World) :
 Calls EW 261 #[.slice a 0 c,ZY x] w λe w'=>e=.returned (ZW false)/\w'=w:=Any.slices_Contains_string_empty Tryz.lays110 a c x w
def Tryz.laysnb115_ren:Bg:=⟨fun | 115=>179 | n=>n,fun | 37=>22 | 4=>4 | 9=>9 | 5=>5 | n=>n,fun | n=>n⟩
def Tryz.lays115_ren:Bg:=⟨fun | 115=>179 | n=>n,fun | 37=>22 | 4=>4 | 9=>9 | 5=>5 | n=>n,fun | n=>n⟩
end Go.Proofs
namespace Go.Proofs.YtdfabddnpgjepaaGreatDoor.Oct
open Go.RowKit Base
def digit (n:Int):Bool:=decide (48<=n)&&decide (n<=57)
def letter (n:Int):Bool:=(decide (97<=n)&&decide (n<=122))|| (decide (65<=n)&&decide (n<=90))
def visible (n:Int):Bool:=decide (33<=n)&&decide (n<=126)
def blank (n:Int):Bool:=decide (n=32)||decide (n=9)
def control (n:Int):Bool:=decide (n<32)||decide (n=127)
def textual (n:Int):Bool:=visible n||blank n||decide (128<=n)
def marks:List UInt8:= [33,35,36,37,38,39,42,43,45,46,94,95,96,124,126]
def stands (l:List UInt8) (n:Int):Bool:=l.any λb=>(b.toNat:Int)==n
def token (n:Int):Bool:=letter n||digit n||stands marks n
def isHex (n:Int):Bool:=digit n|| (decide (97<=n)&&decide (n<=102))|| (decide (65<=n)&&decide (n<=70))
def hexVal (n:Int):Int:=if digit n=true then n-48 else if 97<=n/\n<=102 then n-87 else if 65<=n/\n<=70 then n-55 else 0
def ofKind (n k:Int):Bool:=if k=1 then token n else if k=2 then visible n else if k=3 then blank n else if k=4 then digit n else if k=5 then isHex n else if k=6 then textual n else false
def oneOf (ks:List Int) (n:Int):Bool:=ks.any λk=>ofKind n k
def allOf (ks:List Int) (l:List UInt8):Bool:=l.all λb=>oneOf ks b.toNat
theorem marks_index:∀k:Fin 256,decide (0<=B4 marks (UInt8.ofNat k.val))=stands marks (k.val:Int):=by decide +kernel
theorem index_marks (n:Int) (h0:0<=n) (h1:n<=255):(0<=B4 [33,35,36,37,38,39,42,43,45,46,94,95,96,124,126] (UInt8.ofNat n.toNat))↔stands marks n=true:=by
 have h:=marks_index ⟨n.toNat,by omega⟩;have e:((n.toNat:Nat):Int)=n:=by omega
 simp only [e] at h;rw [←h,decide_eq_true_iff];rfl
section
set_option maxHeartbeats 400000
theorem digit_any (n:Int) (w:World):Calls EW 291 #[ZZ ZR n] w λe w'=>e=.returned (ZW (digit n))/\w'=w:=by
 go_enter Tryz.func291,Tryz.ntmps291;go_wp2
 all_goals (go_ret;exact ⟨ret_bool (by simp [digit]<;>omega),rfl⟩)
theorem letter_any (n:Int) (w:World):Calls EW 328 #[ZZ ZR n] w λe w'=>e=.returned (ZW (letter n))/\w'=w:=by
 go_enter Tryz.func328,Tryz.ntmps328;go_wp2
 all_goals (go_ret;exact ⟨ret_bool (by simp [letter]<;>omega),rfl⟩)
theorem visible_any (n:Int) (w:World):Calls EW 264 #[ZZ ZR n] w λe w'=>e=.returned (ZW (visible n))/\w'=w:=by
 go_enter Tryz.func264,Tryz.ntmps264;go_wp2
 all_goals (go_ret;exact ⟨ret_bool (by simp [visible]<;>omega),rfl⟩)
theorem blank_any (n:Int) (w:World):Calls EW 217 #[ZZ ZR n] w λe w'=>e=.returned (ZW (blank n))/\w'=w:=by
 go_enter Tryz.func217,Tryz.ntmps217;go_wp2
 all_goals (go_ret;exact ⟨ret_bool (by simp [blank]<;>omega),rfl⟩)
theorem control_any (n:Int) (w:World):Calls EW 265 #[ZZ ZR n] w λe w'=>e=.returned (ZW (control n))/\w'=w:=by
 go_enter Tryz.func265,Tryz.ntmps265;go_wp2
 all_goals (go_ret;exact ⟨ret_bool (by simp [control]<;>omega),rfl⟩)
theorem text_any (n:Int) (w:World):Calls EW 320 #[ZZ ZR n] w λe w'=>e=.returned (ZW (textual n))/\w'=w:=by
 go_enter Tryz.func320,Tryz.ntmps320
 go_wp2_with (first
  |(go_at_call 264;refine (visible_any _ _).mono ?_;rintro e w' ⟨rfl,rfl⟩)
  |(go_at_call 217;refine (blank_any _ _).mono ?_;rintro e w' ⟨rfl,rfl⟩))
 all_goals (go_ret;exact ⟨ret_bool (by simp [textual, *]),rfl⟩)
theorem token_any (n:Int) (w:World) (h0:0<=n) (h1:n<=255):Calls EW 319 #[ZZ ZR n] w λe w'=>e=.returned (ZW (token n))/\w'=w:=by
 go_enter Tryz.func319,Tryz.ntmps319
 go_wp2_with (first
  |(go_at_call 328;refine (letter_any _ _).mono ?_;rintro e w' ⟨rfl,rfl⟩)
  |(go_at_call 291;refine (digit_any _ _).mono ?_;rintro e w' ⟨rfl,rfl⟩)
  |(go_at_call 329;refine (Tryz.strings_IndexByte _ _ _).mono ?_;rintro e w' ⟨rfl,rfl⟩))
 all_goals (go_ret;exact ⟨ret_bool (by simp [token,index_marks, *]),rfl⟩)
theorem hex_any (n:Int) (w:World) (h0:0<=n) (h1:n<=255):Calls EW 314 #[ZZ ZR n] w λe w'=>e=.returned (ZT #[ZZ ZS (hexVal n),ZW (isHex n)])/\w'=w:=by
 by_cases hd:digit n=true
 ·have hb:48<=n/\n<=57:=by simpa [digit] using hd
  obtain ⟨hb0,hb1⟩:=hb;go_enter Tryz.func314,Tryz.ntmps314
  go_wp2_with (go_at_call 291;refine (digit_any _ _).mono ?_;rintro e w' ⟨rfl,rfl⟩)
  all_goals (go_ret2;exact ⟨by simp [hexVal,isHex,hd],rfl⟩)
 ·have hd':digit n=false:=by simpa using hd
  go_enter Tryz.func314,Tryz.ntmps314
  go_wp2_with (go_at_call 291;refine (digit_any _ _).mono ?_;rintro e w' ⟨rfl,rfl⟩)
  all_goals (go_ret2;exact ⟨by simp [hexVal,isHex, *]<;>omega,rfl⟩)
theorem stands_any (n:Int) (s:ByteArray) (w:World) (hs:s.size<=maxLen):Calls EW 194 #[ZZ ZR n,ZY s] w λe w'=>e=.returned (ZW (stands s.data.toList n))/\w'=w:=by
 unfold maxLen at hs;go_enter Tryz.func194,Tryz.ntmps194;go_wp2
 go_loop [5] (λi=>∃k:Nat,k<=s.size/\i=ZZ ZS k/\Hid (stands (s.data.toList.take k) n=false)) (λi=>s.size-(intOf i).toNat)
 case atStart=>exact ⟨0,Dj _,rfl,rfl⟩
 case round=>
  obtain ⟨k,hk,rfl,hno⟩:=hrel;rcases Dg k s.size with hlt | hge
  ·have hsn:=take_snoc s k hlt;have HS:=Bx hsn;clear hsn;go_wp2
   ·go_ret;refine ⟨ret_bool ?_,rfl⟩;have hx:((s[k].toNat:Int)==n)=true:=by assumption
    have hm:s[k]∈s.data.toList:=by
     have:=HS.out
     exact List.mem_of_mem_take (i:=k+1) (by rw [this];simp)
    simp only [true_iff,stands,List.any_eq_true];exact ⟨_,hm,hx⟩
   ·go_round
    case rel=>
     refine ⟨k+1,by omega,by go_num,?_⟩;have hx:((s[k].toNat:Int)==n)=false:=by assumption
     have:=hno.out;refine Bx ?_;rw [HS.out]
     simp_all [stands]
    case measure=>simp [intOf];omega
  ·go_wp2;go_ret;have:=hno.out;rw [take_all s k (by omega)] at this;exact ⟨by rw [this];rfl,rfl⟩
theorem rdigit_any (n:Int) (w:World):Calls EW 198 #[ZZ ZR n] w λe w'=>e=.returned (ZW (digit n))/\w'=w:=by
 go_enter Tryz.func198,Tryz.ntmps198;go_wp2
 all_goals (go_ret;exact ⟨ret_bool (by simp [digit]<;>omega),rfl⟩)
theorem rletter_any (n:Int) (w:World):Calls EW 218 #[ZZ ZR n] w λe w'=>e=.returned (ZW (letter n))/\w'=w:=by
 go_enter Tryz.func218,Tryz.ntmps218;go_wp2
 all_goals (go_ret;exact ⟨ret_bool (by simp [letter]<;>omega),rfl⟩)
theorem rvisible_any (n:Int) (w:World):Calls EW 197 #[ZZ ZR n] w λe w'=>e=.returned (ZW (visible n))/\w'=w:=by
 go_enter Tryz.func197,Tryz.ntmps197;go_wp2
 all_goals (go_ret;exact ⟨ret_bool (by simp [visible]<;>omega),rfl⟩)
theorem rblank_any (n:Int) (w:World):Calls EW 136 #[ZZ ZR n] w λe w'=>e=.returned (ZW (blank n))/\w'=w:=by
 go_enter Tryz.func136,Tryz.ntmps136;go_wp2
 all_goals (go_ret;exact ⟨ret_bool (by simp [blank]<;>omega),rfl⟩)
theorem rcontrol_any (n:Int) (w:World):Calls EW 229 #[ZZ ZR n] w λe w'=>e=.returned (ZW (control n))/\w'=w:=by
 go_enter Tryz.func229,Tryz.ntmps229;go_wp2
 all_goals (go_ret;exact ⟨ret_bool (by simp [control]<;>omega),rfl⟩)
theorem rtext_any (n:Int) (w:World):Calls EW 199 #[ZZ ZR n] w λe w'=>e=.returned (ZW (textual n))/\w'=w:=by
 go_enter Tryz.func199,Tryz.ntmps199
 go_wp2_with (first
  |(go_at_call 197;refine (rvisible_any _ _).mono ?_;rintro e w' ⟨rfl,rfl⟩)
  |(go_at_call 136;refine (rblank_any _ _).mono ?_;rintro e w' ⟨rfl,rfl⟩))
 all_goals (go_ret;exact ⟨ret_bool (by simp [textual, *]),rfl⟩)
theorem rtoken_any (n:Int) (w:World):Calls EW 196 #[ZZ ZR n] w λe w'=>e=.returned (ZW (token n))/\w'=w:=by
 have hsz:(ByteArray.mk #[33,35,36,37,38,39,42,43,45,46,94,95,96,124,126]).size<=maxLen:=by decide
 go_enter Tryz.func196,Tryz.ntmps196
 go_wp2_with (first
  |(go_at_call 218;refine (rletter_any _ _).mono ?_;rintro e w' ⟨rfl,rfl⟩)
  |(go_at_call 198;refine (rdigit_any _ _).mono ?_;rintro e w' ⟨rfl,rfl⟩)
  |(go_at_call 194;refine (stands_any _ _ _ (by assumption)).mono ?_;rintro e w' ⟨rfl,rfl⟩))
 all_goals (go_ret;exact ⟨ret_bool (by simp [token,marks, *]),rfl⟩)
theorem rhex_any (n:Int) (w:World) (h0:0<=n) (h1:n<=255):Calls EW 195 #[ZZ ZR n] w λe w'=>e=.returned (ZT #[ZZ ZS (hexVal n),ZW (isHex n)])/\w'=w:=by
 by_cases hd:digit n=true
 ·have hb:48<=n/\n<=57:=by simpa [digit] using hd
  obtain ⟨hb0,hb1⟩:=hb;go_enter Tryz.func195,Tryz.ntmps195
  go_wp2_with (go_at_call 198;refine (rdigit_any _ _).mono ?_;rintro e w' ⟨rfl,rfl⟩)
  all_goals (go_ret2;exact ⟨by simp [hexVal,isHex,hd],rfl⟩)
 ·have hd':digit n=false:=by simpa using hd
  go_enter Tryz.func195,Tryz.ntmps195
  go_wp2_with (go_at_call 198;refine (rdigit_any _ _).mono ?_;rintro e w' ⟨rfl,rfl⟩)
  all_goals (go_ret2;exact ⟨by simp [hexVal,isHex, *]<;>omega,rfl⟩)
theorem ofKind_any (n k:Int) (w:World) (h0:0<=n) (h1:n<=255):Calls EW 303 #[ZZ ZR n,ZZ ZS k] w λe w'=>e=.returned (ZW (ofKind n k))/\w'=w:=by
 go_enter Tryz.func303,Tryz.ntmps303
 go_wp2_with (first
  |(go_at_call 319;refine (token_any _ _ (by assumption) (by assumption)).mono ?_;rintro e w' ⟨rfl,rfl⟩)
  |(go_at_call 264;refine (visible_any _ _).mono ?_;rintro e w' ⟨rfl,rfl⟩)
  |(go_at_call 217;refine (blank_any _ _).mono ?_;rintro e w' ⟨rfl,rfl⟩)
  |(go_at_call 291;refine (digit_any _ _).mono ?_;rintro e w' ⟨rfl,rfl⟩)
  |(go_at_call 314;refine (hex_any _ _ (by assumption) (by assumption)).mono ?_;rintro e w' ⟨rfl,rfl⟩)
  |(go_at_call 320;refine (text_any _ _).mono ?_;rintro e w' ⟨rfl,rfl⟩))
 all_goals (go_ret;exact ⟨ret_bool (by simp_all [ofKind]),rfl⟩)
theorem rofKind_any (n k:Int) (w:World) (h0:0<=n) (h1:n<=255):Calls EW 170 #[ZZ ZR n,ZZ ZS k] w λe w'=>e=.returned (ZW (ofKind n k))/\w'=w:=by
 go_enter Tryz.func170,Tryz.ntmps170
 go_wp2_with (first
  |(go_at_call 196;refine (rtoken_any _ _).mono ?_;rintro e w' ⟨rfl,rfl⟩)
  |(go_at_call 197;refine (rvisible_any _ _).mono ?_;rintro e w' ⟨rfl,rfl⟩)
  |(go_at_call 136;refine (rblank_any _ _).mono ?_;rintro e w' ⟨rfl,rfl⟩)
  |(go_at_call 198;refine (rdigit_any _ _).mono ?_;rintro e w' ⟨rfl,rfl⟩)
  |(go_at_call 195;refine (rhex_any _ _ (by assumption) (by assumption)).mono ?_;rintro e w' ⟨rfl,rfl⟩)
  |(go_at_call 199;refine (rtext_any _ _).mono ?_;rintro e w' ⟨rfl,rfl⟩))
 all_goals (go_ret;exact ⟨ret_bool (by simp_all [ofKind]),rfl⟩)
theorem oneOf_any (n:Int) (a:Option Addr) (len cap:Nat) (ks:List Int) (w:World) (h0:0<=n) (h1:n<=255) (hk:Ints w a len ks) (hl:len<=maxLen) :
 Calls EW 286 #[ZZ ZR n,.slice a len cap] w λe w'=>e=.returned (ZW (oneOf ks n))/\w'=w:=by
 unfold maxLen at hl;have hlen:=hk.1;have HK:=Bx hk;clear hk;have HL:=Bx hlen;clear hlen;go_enter Tryz.func286,Tryz.ntmps286;go_wp2
 go_loop [9] (λi=>∃k:Nat,k<=len/\i=ZZ ZS k/\Hid (oneOf (ks.take k) n=false)) (λi=>len-(intOf i).toNat)
 case atStart=>exact ⟨0,Dj _,rfl,rfl⟩
 case round=>
  obtain ⟨k,hk,rfl,hno⟩:=hrel;rcases Dg k len with hlt | hge
  ·obtain ⟨b,off,rfl,_,hc⟩:=HK.out.2 (by omega);have hck:=hc k hlt
   have HS:=Bx (ints_snoc ks k (by rw [HL.out];exact hlt));clear hc
   go_wp2_with (go_at_call 303;refine (ofKind_any _ _ _ (by assumption) (by assumption)).mono ?_;rintro e w' ⟨rfl,rfl⟩)
   ·go_ret;refine ⟨ret_bool ?_,rfl⟩;have hx:ofKind n (ks[k]?.getD 0)=true:=by assumption
    simp only [true_iff,oneOf,List.any_eq_true];exact ⟨_,List.mem_of_mem_take (i:=k+1) (by rw [HS.out];simp),hx⟩
   ·go_round
    case rel=>
     refine ⟨k+1,by omega,by go_num,Bx ?_⟩;have hx:ofKind n (ks[k]?.getD 0)=false:=by assumption
     have:=hno.out;rw [HS.out]
     simp_all [oneOf]
    case measure=>simp [intOf];omega
  ·go_wp2;go_ret;have:=hno.out;rw [CN (by rw [HL.out];exact hge)] at this;exact ⟨by rw [this];rfl,rfl⟩
theorem all_any (s:ByteArray) (a:Option Addr) (len cap:Nat) (ks:List Int) (w:World) (hs:s.size<=maxLen) (hk:Ints w a len ks) (hl:len<=maxLen) :
 Calls EW 263 #[ZY s,.slice a len cap] w λe w'=>e=.returned (ZW (allOf ks s.data.toList))/\w'=w:=by
 unfold maxLen at hs;have HK:=Bx hk;clear hk;have HM:=Bx hl;clear hl;go_enter Tryz.func263,Tryz.ntmps263;go_wp2
 go_loop [8] (λi=>∃k:Nat,k<=s.size/\i=ZZ ZS k/\Hid (allOf ks (s.data.toList.take k)=true)) (λi=>s.size-(intOf i).toNat)
 case atStart=>exact ⟨0,Dj _,rfl,rfl⟩
 case round=>
  obtain ⟨k,hk,rfl,hyes⟩:=hrel;rcases Dg k s.size with hlt | hge
  ·have HS:=Bx (take_snoc s k hlt);have hb:=byte_lt s[k];have hb0:(0:Int)<=(s[k].toNat:Int):=by omega
   go_wp2_with (go_at_call 286;refine (oneOf_any _ _ _ _ ks _ (by assumption) (by assumption) HK.out HM.out).mono ?_;rintro e w' ⟨rfl,rfl⟩)
   ·go_ret;refine ⟨ret_bool ?_,rfl⟩;have hx:(!oneOf ks (s[k].toNat:Int))=true:=by assumption
    simp only [Aw,false_iff,allOf,List.all_eq_true];intro hall
    have:=hall _ (byte_mem s k hlt);simp [this] at hx
   ·go_round
    case rel=>
     refine ⟨k+1,by omega,by go_num,Bx ?_⟩;have hx:(!oneOf ks (s[k].toNat:Int))=false:=by assumption
     have:=hyes.out;rw [HS.out]
     simp_all [allOf]
    case measure=>simp [intOf];omega
  ·go_wp2;go_ret;have:=hyes.out;rw [take_all s k hge] at this;exact ⟨by rw [this];rfl,rfl⟩
theorem XXBnX {P:Prop} (h:P:=by
 go_wp2;go_roundw
 case rel=>
  refine ⟨q+1,_,by omega,by go_num,rfl,Bx ?_,Bx ?_⟩
  ·have:=hok.out;rw [HQ.out]
   simp_all [oneOf]
  ·obtain ⟨m,hm⟩:=hwi.out;exact ⟨m+nq,by rw [hm,World.drewN_drewN]⟩
 case measure=>simp [intOf];omega):P:=h
theorem rall_any (s:ByteArray) (a:Option Addr) (len cap:Nat) (ks:List Int) (w:World) (hs:s.size<=maxLen) (hk:Ints w a len ks) (hl:len<=maxLen) :
 Calls EW 137 #[ZY s,.slice a len cap] w λe w'=>e=.returned (ZW (allOf ks s.data.toList))/\∃m,w'=w.drewN m:=by
 unfold maxLen at hs hl;have HK:=Bx hk;have HL:=Bx hk.1;clear hk;go_enter Tryz.func137,Tryz.ntmps137;go_wp2
 go_loopw [5] (λi wr=>∃k:Nat,k<=s.size/\i=ZZ ZS k/\Hid (allOf ks (s.data.toList.take k)=true)/\Hid (∃m,wr=w.drewN m)) (λi _=>s.size-(intOf i).toNat)
 case atStart=>exact ⟨0,Dj _,rfl,rfl,0,rfl⟩
 case round=>
  obtain ⟨k,hk,rfl,hyes,hw⟩:=hrel;obtain ⟨wo,rfl⟩:∃wo:World,wo=wr:=⟨_,rfl⟩;rcases Dg k s.size with hlt | hge
  ·have HS:=Bx (take_snoc s k hlt);have hb:=byte_lt s[k];have hb0:(0:Int)<=(s[k].toNat:Int):=by omega
   go_wp2
   go_loopw [6,7] (λok j wr=>∃(q:Nat) (b:Bool),q<=len/\j=ZZ ZS q/\ok=ZW b/\Hid (b=oneOf (ks.take q) (s[k].toNat:Int))/\Hid (∃m,wr=wo.drewN m)) (λ_ j _=>len-(intOf j).toNat)
   case atStart=>exact ⟨0,false,Dj _,rfl,rfl,rfl,0,rfl⟩
   case round=>
    obtain ⟨q,b,hq,rfl,rfl,hok,hwi⟩:=hrel;rcases Dg q len with hltq | hgeq
    ·have hI:Ints wr a len ks:=by
      obtain ⟨m1,rfl⟩:=hw.out;obtain ⟨m,rfl⟩:=hwi.out;exact HK.out
     obtain ⟨bl,off,rfl,_,hc⟩:=hI.2 (by omega);have hck:=hc q hltq
     have HQ:=Bx (ints_snoc ks q (by rw [HL.out];exact hltq));clear hc hI;cases b
     ·go_wp2
      go_quiet ((go_at_call 170;exact Calls.quiet_of_same (rofKind_any _ _ _ (by assumption) (by assumption))));exact XXBnX
     ·go_wp2
      go_quiet (fail);exact XXBnX
    ·have HE:Hid (oneOf (ks.take q) (s[k].toNat:Int)=oneOf ks (s[k].toNat:Int)):=by
      rw [CN (by rw [HL.out];exact hgeq)];exact Bx rfl
     cases b
     ·go_wp2;go_ret;refine ⟨ret_bool ?_,?_⟩
      ·have h1:=hok.out;have h2:=HE.out;simp only [Aw,false_iff,allOf,List.all_eq_true];intro hall
       have:=hall _ (byte_mem s k hlt);rw [←h2,←h1] at this;cases this
      ·obtain ⟨m,hm⟩:=hwi.out;obtain ⟨m1,hm1⟩:=hw.out;exact ⟨m1+m,by rw [hm,hm1,World.drewN_drewN]⟩
     ·go_wp2;go_roundw
      case rel=>
       refine ⟨k+1,by omega,by go_num,Bx ?_,Bx ?_⟩
       ·have h0:=hyes.out;have h1:=hok.out;have h2:=HE.out;rw [HS.out]
        simp_all [allOf]
       ·obtain ⟨m,hm⟩:=hwi.out;obtain ⟨m1,hm1⟩:=hw.out;exact ⟨m1+m,by rw [hm,hm1,World.drewN_drewN]⟩
      case measure=>simp [intOf];omega
  ·go_wp2;go_ret;have:=hyes.out;rw [take_all s k hge] at this;exact ⟨by rw [this];rfl,hw.out⟩
end
end Go.Proofs.YtdfabddnpgjepaaGreatDoor.Oct
namespace Go.Proofs.YtdfabddnpgjepaaGreatDoor.Num
open Base Oct
def dig (c:UInt8):Int:=hexVal (c.toNat:Int)
def digitOf (base:Int) (c:UInt8):Bool:=isHex (c.toNat:Int)&&decide (dig c<base)
def grow (base most:Int):Int->List UInt8->Option Int
 | n,[]=>some n
 | n,c::r=>if most<dig c∨(most-dig c)/base<n then none else grow base most (n*base+dig c) r
def ofGrow:Option Int->Int × Int
 | some n=>(n,0)
 | none=>(0,23)
def readOf (base most:Int) (l:List UInt8):Int × Int:=
 if (l.isEmpty || !l.all (digitOf base))=true then (0,22) else ofGrow (grow base (max most 0) 0 l)
def value (base:Int):Int->List UInt8->Int
 | n,[]=>n
 | n,c::r=>value base (n*base+dig c) r
def tab:List UInt8:= [48,49,50,51,52,53,54,55,56,57,97,98,99,100,101,102]
def sign (n:Nat):UInt8:=tab[n]?.getD 0
def spell (b n:Nat):List UInt8:=if _h:n<b∨b<2 then [sign n] else spell b (n/b) ++ [sign (n%b)]
 termination_by n
 decreasing_by exact Nat.div_lt_self (by omega) (by omega)
theorem dig_tab:∀k:Fin 256,0<=hexVal (k.val:Int)/\hexVal (k.val:Int)<=15:=by decide +kernel
theorem dig_nonneg (c:UInt8):0<=dig c:=(dig_tab ⟨c.toNat,c.toNat_lt⟩).1
theorem dig_le (c:UInt8):dig c<=15:=(dig_tab ⟨c.toNat,c.toNat_lt⟩).2
theorem dec_tab:∀k:Fin 256,oneOf [4] (k.val:Int)=(isHex (k.val:Int)&&decide (hexVal (k.val:Int)<10)):=by decide +kernel
theorem hex_tab:∀k:Fin 256,oneOf [5] (k.val:Int)=(isHex (k.val:Int)&&decide (hexVal (k.val:Int)<16)):=by decide +kernel
theorem all_dec (l:List UInt8):allOf [4] l=l.all (digitOf 10):=by unfold allOf;congr 1;funext c;exact dec_tab ⟨c.toNat,c.toNat_lt⟩
theorem all_hex (l:List UInt8):allOf [5] l=l.all (digitOf 16):=by unfold allOf;congr 1;funext c;exact hex_tab ⟨c.toNat,c.toNat_lt⟩
theorem dig_nought:dig 48=0:=by decide +kernel
section
variable {base most:Int}
theorem grow_app (n:Int) (l m:List UInt8):grow base most n (l++m)=(grow base most n l).bind λk=>grow base most k m:=by
 induction l generalizing n with
 | nil=>rfl
 | cons c r ih=>
   simp only [List.cons_append,grow];split
   ·rfl
   ·exact ih _
theorem grow_noughts (hb:0<base) (hm:0<=most) (l:List UInt8):grow base most 0 (Lib.trimLeftB l 48)=grow base most 0 l:=by
 unfold Lib.trimLeftB
 induction l with
 | nil=>rfl
 | cons c r ih=>
   simp only [List.dropWhile];by_cases h:c=48
   ·subst h;have h0:¬(most<0∨(most-0)/base<0):=by
     intro h;rcases h with h | h
     ·omega
     ·have:=Int.ediv_nonneg (a:=most-0) (b:=base) (by omega) (by omega);omega
    simp only [grow,dig_nought,if_neg h0,beq_self_eq_true];simpa using ih
   ·have h':(c==48)=false:=by simpa using h
    simp only [h']
theorem room (hb:1<=base) (n d:Int) (hn:0<=n):(most<d∨(most-d)/base<n)↔most<n*base+d:=by
 have hm:0<=n*base:=Int.mul_nonneg hn (by omega);constructor
 ·rintro (h | h)
  ·omega
  ·have:=(Int.ediv_lt_iff_lt_mul (by omega:0<base)).1 h;omega
 ·intro h;by_cases h1:most<d
  ·exact .inl h1
  ·exact .inr ((Int.ediv_lt_iff_lt_mul (by omega:0<base)).2 (by omega))
end
section
variable {b:Nat} (h2:2<=b) (h16:b<=16)
theorem spell_lt {n:Nat} (h:n<b):spell b n= [sign n]:=by rw [spell,dif_pos (.inl h)]
include h2
theorem spell_ge {n:Nat} (h:b<=n):spell b n=spell b (n/b) ++ [sign (n%b)]:=by rw [spell,dif_neg (by omega)]
theorem div_less {n:Nat} (h:b<=n):n/b<n:=Nat.div_lt_self (by omega) (by omega)
theorem spell_len (k:Nat):∀n,n<2^k->1<=k->(spell b n).length<=k:=by
 induction k with
 | zero=>intro n _ h;omega
 | succ k ih=>
   intro n hn _;by_cases h:n<b
   ·rw [spell_lt h];simp
   ·rw [spell_ge h2 (by omega),Cr]
    have hq:n/b<=n/2:=Nat.div_le_div_left h2 (by omega);have hk:1<=k:=by
     rcases CZ k with rfl | hk
     ·omega
     ·exact hk
    have:=ih (n/b) (by rw [Nat.pow_succ] at hn;omega) hk;simp;omega
include h16
end
end Go.Proofs.YtdfabddnpgjepaaGreatDoor.Num
namespace Go.Proofs.YtdfabddnpgjepaaGreatDoor.Num
open Go.RowKit Base Oct
def str (l:List UInt8):ByteArray:=⟨l.toArray⟩
theorem str_app (l m:List UInt8):str (l++m)=str l++str m:=by apply ByteArray.ext;rw [ByteArray.data_append];simp [str]
theorem str_size (l:List UInt8):(str l).size=l.length:=by simp [str,ByteArray.size]
theorem signs:∀k:Fin 16,(ByteArray.mk #[48,49,50,51,52,53,54,55,56,57,97,98,99,100,101,102]).extract k.val (k.val+1)=str [sign k.val]:=by decide +kernel
section
set_option maxHeartbeats 800000
theorem XXl4u {P:Prop} (h:P:=by
 rcases hb with ⟨rfl,rfl⟩ | ⟨rfl,rfl⟩;all_goals
  go_enter Tryz.func149,Tryz.ntmps149;go_wp2_with fail;go_ret
  exact ⟨rfl,0,rfl⟩):P:=h
theorem rspell_any (b:Nat) (B:Int) (hb:b=10/\B=10∨b=16/\B=16) (k:Nat):∀(n:Int) (w:World), -9223372036854775808<=n->n<9223372036854775808->n.toNat<k->Calls EW 149 #[ZZ ZS n,ZZ ZS B] w λe w'=>e=.returned (ZY (str (spell b n.toNat)))/\∃m,w'=w.drewN m:=by
 induction k with
 | zero=>intro n w _ _ h;omega
 | succ k ih=>
   intro n w hn0 hn hk;have h2:2<=b:=by omega
   by_cases h:n<B
   ·rw [spell_lt (by omega)];by_cases hz:0<=n
    ·have e1:=signs ⟨n.toNat,by omega⟩;have e2:n.toNat+1=(n+1).toNat:=by omega
     have mx:max n 0=n:=by omega
     simp only [e2] at e1;clear e2;exact XXl4u
    ·have mx:max n 0=0:=by omega
     have e1:(ByteArray.mk #[48,49,50,51,52,53,54,55,56,57,97,98,99,100,101,102]).extract 0 1=str [sign 0]:=by decide +kernel
     have e3:n.toNat=0:=by omega
     rw [e3];exact XXl4u
   ·rw [spell_ge h2 (by omega)]
    have l1:=spell_len h2 64 (n.toNat/b) (by have:=div_less h2 (by omega:b<=n.toNat);omega) (by omega)
    have h3:=Bx (ih (n/B))
    have h4:=Bx (ih (n%B));have hi:B<=n:=by omega
    have c1:(n/B).toNat=n.toNat/b:=by rcases hb with ⟨rfl,rfl⟩ | ⟨rfl,rfl⟩<;>omega
    have c2:(n%B).toNat=n.toNat%b:=by rcases hb with ⟨rfl,rfl⟩ | ⟨rfl,rfl⟩<;>omega
    have w1:IntKind.i64.wrap (n/B)=n/B:=wrap_in _ (by rcases hb with ⟨rfl,rfl⟩ | ⟨rfl,rfl⟩<;>omega) (by rcases hb with ⟨rfl,rfl⟩ | ⟨rfl,rfl⟩<;>omega)
    have w2:IntKind.i64.wrap (n%B)=n%B:=wrap_in _ (by rcases hb with ⟨rfl,rfl⟩ | ⟨rfl,rfl⟩<;>omega) (by rcases hb with ⟨rfl,rfl⟩ | ⟨rfl,rfl⟩<;>omega)
    have w3:(n.tdiv B)=n/B:=Int.tdiv_eq_ediv_of_nonneg (by omega)
    have w4:(n.tmod B)=n%B:=Int.tmod_eq_emod_of_nonneg (by omega)
    have hs:spell b (n%B).toNat= [sign (n%B).toNat]:=spell_lt (by rcases hb with ⟨rfl,rfl⟩ | ⟨rfl,rfl⟩<;>omega);rw [←c1,←c2];rw [←c1] at l1;have z1:(str (spell b (n/B).toNat)).size<=64:=by rw [str_size];exact l1
    have z2:(str [sign (n%B).toNat]).size=1:=rfl;have z3:¬9223372036854775807<(str (spell b (n/B).toNat)).size+(str [sign (n%B).toNat]).size:=by omega
    have hj:str (spell b (n/B).toNat ++ [sign (n%B).toNat])=str (spell b (n/B).toNat)++str [sign (n%B).toNat]:=str_app _ _;rw [hj]
    have h3':Hid (∀w,Calls EW 149 #[ZZ ZS (n/B),ZZ ZS B] w λe w'=>e=.returned (ZY (str (spell b (n/B).toNat)))/\∃m,w'=w.drewN m):=Bx (λw=>h3.out w (by rcases hb with ⟨rfl,rfl⟩ | ⟨rfl,rfl⟩<;>omega) (by rcases hb with ⟨rfl,rfl⟩ | ⟨rfl,rfl⟩<;>omega) (by rcases hb with ⟨rfl,rfl⟩ | ⟨rfl,rfl⟩<;>omega))
    have h4':Hid (∀w,Calls EW 149 #[ZZ ZS (n%B),ZZ ZS B] w λe w'=>e=.returned (ZY (str [sign (n%B).toNat]))/\∃m,w'=w.drewN m):=Bx (λw=>by rw [←hs];exact h4.out w (by rcases hb with ⟨rfl,rfl⟩ | ⟨rfl,rfl⟩<;>omega) (by rcases hb with ⟨rfl,rfl⟩ | ⟨rfl,rfl⟩<;>omega) (by rcases hb with ⟨rfl,rfl⟩ | ⟨rfl,rfl⟩<;>omega));generalize str (spell b (n/B).toNat)=A at *;generalize str [sign (n%B).toNat]=D at *;clear ih h h2 h3 h4 l1 hs hj c1 c2;rcases hb with ⟨rfl,rfl⟩ | ⟨rfl,rfl⟩;all_goals
     go_enter Tryz.func149,Tryz.ntmps149;go_wp2_with fail
     go_quiet ((first |(go_at_call 149;with_reducible exact Calls.quiet_of (h3'.out _)) |(go_at_call 149;with_reducible exact Calls.quiet_of (h4'.out _))));go_wp2_with fail;go_ret;exact ⟨rfl,_,rfl⟩
end
end Go.Proofs.YtdfabddnpgjepaaGreatDoor.Num
namespace Go.Proofs.YtdfabddnpgjepaaGreatDoor.Num
open Go.RowKit Base Oct
theorem cut_one (s:ByteArray) (h:0<s.size):s.data.toList=s[0]::(s.extract 1 s.size).data.toList:=by
 have e:(s.extract 1 s.size).data.toList=s.data.toList.drop 1:=by rw [ByteArray.data_extract];simp only [Array.toList_extract,List.extract];rw [CN (by simp)]
 rw [e];cases s with
 | mk a=>cases a with
   | mk l=>cases l with
     | nil=>exact absurd h (by decide)
     | cons c r=>rfl
section
set_option maxHeartbeats 800000
theorem add_any (B:Int) (hB:B=10∨B=16) (most:Int) (hm:0<=most) (hM:most<=9223372036854775807) (k:Nat):∀(n:Int) (s:ByteArray) (w:World),s.size<k->0<=n->n<=most->
 Calls EW 299 #[ZZ ZS n,ZY s,ZZ ZS B,ZZ ZS most] w λe w'=>e=.returned (ZT #[ZZ ZS (ofGrow (grow B most n s.data.toList)).1,ZZ ZS (ofGrow (grow B most n s.data.toList)).2])/\w'=w:=by
 induction k with
 | zero=>intro n s w h _ _;omega
 | succ k ih=>
   intro n s w hs hn hle;by_cases h:s.size=0
   ·have e0:s.data.toList= []:=by
     apply BT;simpa using h
    have e1:s.toList= []:=by rw [Bf,e0]
    rw [e0];clear ih;go_enter Tryz.func299,Tryz.ntmps299;go_wp2_with fail;go_ret2;exact ⟨rfl,rfl⟩
   ·have hp:0<s.size:=by omega
    have hne:s.toList.isEmpty=false:=by rw [Bf,cut_one s hp];rfl
    have b1:=byte_lt s[0];have b0:(0:Int)<=(s[0].toNat:Int):=by omega
    obtain ⟨d,hd⟩:∃d,d=dig s[0]:=⟨_,rfl⟩
    have hx:Hid (∀w,Calls EW 314 #[ZZ ZR (s[0].toNat:Int)] w λe w'=>e=.returned (ZT #[ZZ ZS d,ZW (isHex (s[0].toNat:Int))])/\w'=w):=Bx (λw=>by rw [hd];exact hex_any _ w b0 b1);have d0:0<=d:=by rw [hd];exact dig_nonneg _
    have d1:d<=15:=by rw [hd];exact dig_le _
    have hcut:=cut_one s hp;have hz:(s.extract 1 s.size).size<k:=by rw [ByteArray.size_extract];omega
    rw [hcut];simp only [grow];rw [←hd]
    have IH:=Bx (ih (n*B+d) (s.extract 1 s.size));clear ih hcut hd;by_cases hA:most<d
    ·rw [if_pos (.inl hA)];go_enter Tryz.func299,Tryz.ntmps299
     go_wp2_with (go_at_call 314;with_reducible refine (hx.out _).mono ?_;rintro e w' ⟨rfl,rfl⟩);go_ret2;exact ⟨rfl,rfl⟩
    ·have hA':d<=most:=by omega
     have w1:IntKind.i64.wrap (most-d)=most-d:=wrap_in _ (by omega) (by omega);have w1':wrap64 (most-d)=most-d:=by unfold wrap64;omega
     have w2:(most-d).tdiv B=(most-d)/B:=Int.tdiv_eq_ediv_of_nonneg (by omega)
     have w3:IntKind.i64.wrap ((most-d)/B)=(most-d)/B:=wrap_in _ (by rcases hB with rfl | rfl<;>omega) (by rcases hB with rfl | rfl<;>omega);have w3':wrap64 ((most-d)/B)=(most-d)/B:=by rw [←w3,IntKind.wrap_i64];unfold wrap64;rcases hB with rfl | rfl<;>omega
     have hB0:¬B=0:=by omega
     by_cases hC:(most-d)/B<n
     ·rw [if_pos (.inr hC)];rcases hB with rfl | rfl;all_goals
       go_enter Tryz.func299,Tryz.ntmps299
       go_wp2_with (go_at_call 314;with_reducible refine (hx.out _).mono ?_;rintro e w' ⟨rfl,rfl⟩);go_ret2;exact ⟨rfl,rfl⟩
     ·rw [if_neg (by omega)];have hmul:n*B+d<=most:=by
       have:=room (base:=B) (most:=most) (by omega) n d hn;omega
      have hnb:0<=n*B:=Int.mul_nonneg hn (by omega)
      have IH':=Bx (λw=>IH.out w hz (by omega) hmul);clear IH;generalize ofGrow (grow B most (n*B+d) (s.extract 1 s.size).data.toList)=R at IH' ⊢;rcases hB with rfl | rfl;all_goals
       go_enter Tryz.func299,Tryz.ntmps299
       go_wp2_with (first
        |(go_at_call 314;with_reducible refine (hx.out _).mono ?_;rintro e w' ⟨rfl,rfl⟩)
        |(go_at_call 299;with_reducible refine (IH'.out _).mono ?_;rintro e w' ⟨rfl,rfl⟩))
       go_ret2;exact ⟨rfl,rfl⟩
theorem _root_.Go.Proofs.YtdfabddnpgjepaaGreatDoor.XXkPs {P:Prop} (h:P:=by exact ⟨rfl,(An _ _).alloc (Db _) _⟩):P:=h
theorem _root_.Go.Proofs.YtdfabddnpgjepaaGreatDoor.XXdKB {P:Prop} (h:P:=by
 go_wp2_with fail;go_ret2
 exact ⟨rfl,An _ _⟩):P:=h
theorem read_any (B K:Int) (hB:B=10/\K=4∨B=16/\K=5) (most:Int) (hM:most<=9223372036854775807) (s:ByteArray) (w:World) (hs:s.size<=maxLen) :
 Calls EW 276 #[ZY s,ZZ ZS K,ZZ ZS B,ZZ ZS most] w λe w'=>e=.returned (ZT #[ZZ ZS (readOf B most s.data.toList).1,ZZ ZS (readOf B most s.data.toList).2])/\Below w.heap.size w w':=by
 have hk:allOf [K] s.data.toList=s.data.toList.all (digitOf B):=by
  rcases hB with ⟨rfl,rfl⟩ | ⟨rfl,rfl⟩
  ·exact all_dec _
  ·exact all_hex _
 have hB':B=10∨B=16:=by omega
 by_cases h:s.data.toList= []
 ·have e1:s.toList= []:=by rw [Bf,h]
  rw [h];clear hk;go_enter Tryz.func276,Tryz.ntmps276;exact XXdKB
 ·have hne:s.toList.isEmpty=false:=by rw [Bf];simpa using h
  have hne':s.data.toList.isEmpty=false:=by simpa using h
  unfold readOf;rw [hne'];cases ha:s.data.toList.all (digitOf B) with
  | false=>
    rw [ha] at hk;have HK:=Bx hk;clear hk ha hne' h;go_enter Tryz.func276,Tryz.ntmps276
    go_wp2_with (go_at_call 263;(with_reducible refine (all_any _ _ 1 1 [K] _ ?_ ?_ ?_).mono ?_);assumption;(exact Ints.one _ _ (by simp) _ _);decide;rw [HK.out];rintro e w' ⟨rfl,rfl⟩);go_ret2;exact XXkPs
  | true=>
    rw [ha] at hk;have HK:=Bx hk;have hm0:0<=max most 0:=by omega
    have hg:=grow_noughts (base:=B) (most:=max most 0) (by omega) hm0 s.data.toList
    have hadd:=Bx (add_any B hB' (max most 0) hm0 (by omega) ((str (Lib.trimLeftB s.data.toList 48)).size+1) 0 (str (Lib.trimLeftB s.data.toList 48)));have hd:(str (Lib.trimLeftB s.data.toList 48)).data.toList=Lib.trimLeftB s.data.toList 48:=rfl
    have hadd':Hid (∀w,Calls EW 299 #[ZZ ZS 0,ZY (str (Lib.trimLeftB s.data.toList 48)),ZZ ZS B,ZZ ZS (max most 0)] w λe w'=>e=.returned (ZT #[ZZ ZS (ofGrow (grow B (max most 0) 0 s.data.toList)).1,ZZ ZS (ofGrow (grow B (max most 0) 0 s.data.toList)).2])/\w'=w):=Bx (λw=>by
     have:=hadd.out w (by omega) (by omega) hm0
     rwa [hd,hg] at this)
    have htr:Hid (∀w,Calls EW 300 #[ZY s,ZY ⟨#[48]⟩] w λe w'=>e=.returned (ZY (str (Lib.trimLeftB s.data.toList 48)))/\w'=w):=Bx (λw=>Tryz.strings_TrimLeft_one s 48 (by decide) w);clear hadd hd hg hk ha hne' h;simp only [Bool.not_true,Bool.or_false,Aw,if_false];generalize str (Lib.trimLeftB s.data.toList 48)=T at hadd' htr;generalize ofGrow (grow B (max most 0) 0 s.data.toList)=R at hadd' ⊢;generalize hmx:max most 0=M at *;go_enter Tryz.func276,Tryz.ntmps276
    go_wp2_with (first
     |(go_at_call 263;(with_reducible refine (all_any _ _ 1 1 [K] _ ?_ ?_ ?_).mono ?_);assumption;(exact Ints.one _ _ (by simp) _ _);decide;rw [HK.out];rintro e w' ⟨rfl,rfl⟩)
     |(go_at_call 300;with_reducible refine (htr.out _).mono ?_;rintro e w' ⟨rfl,rfl⟩)
     |(go_at_call 299;with_reducible refine (hadd'.out _).mono ?_;rintro e w' ⟨rfl,rfl⟩))
    go_ret2;exact XXkPs
theorem dec_any (most:Int) (hM:most<=9223372036854775807) (s:ByteArray) (w:World) (hs:s.size<=maxLen) :
 Calls EW 297 #[ZY s,ZZ ZS most] w λe w'=>e=.returned (ZT #[ZZ ZS (readOf 10 most s.data.toList).1,ZZ ZS (readOf 10 most s.data.toList).2])/\Below w.heap.size w w':=by
 have h:=Bx (λw=>read_any 10 4 (by omega) most hM s w hs);generalize readOf 10 most s.data.toList=R at h ⊢;go_enter Tryz.func297,Tryz.ntmps297
 go_wp2_with (go_at_call 276;with_reducible refine (h.out _).mono ?_;rintro e w1 ⟨rfl,hb⟩);go_ret2;exact ⟨rfl,hb⟩
theorem hexN_any (most:Int) (hM:most<=9223372036854775807) (s:ByteArray) (w:World) (hs:s.size<=maxLen) :
 Calls EW 250 #[ZY s,ZZ ZS most] w λe w'=>e=.returned (ZT #[ZZ ZS (readOf 16 most s.data.toList).1,ZZ ZS (readOf 16 most s.data.toList).2])/\Below w.heap.size w w':=by
 have h:=Bx (λw=>read_any 16 5 (by omega) most hM s w hs);generalize readOf 16 most s.data.toList=R at h ⊢;go_enter Tryz.func250,Tryz.ntmps250
 go_wp2_with (go_at_call 276;with_reducible refine (h.out _).mono ?_;rintro e w1 ⟨rfl,hb⟩);go_ret2;exact ⟨rfl,hb⟩
theorem XXMKr {P:Prop} (h:P:=by
 go_wp2_with (go_at_call 149;with_reducible refine (h.out _).mono ?_;rintro e w1 ⟨rfl,m,rfl⟩);go_ret
 exact ⟨rfl,m,rfl⟩):P:=h
theorem rput_any (n:Int) (w:World) (h0: -9223372036854775808<=n) (h1:n<=9223372036854775807):Calls EW 103 #[ZZ ZS n] w λe w'=>e=.returned (ZY (str (spell 10 n.toNat)))/\∃m,w'=w.drewN m:=by have h:=Bx (λw=>rspell_any 10 10 (by omega) (n.toNat+1) n w h0 (by omega) (by omega));go_enter Tryz.func103,Tryz.ntmps103;exact XXMKr
theorem rputHex_any (n:Int) (w:World) (h0: -9223372036854775808<=n) (h1:n<=9223372036854775807):Calls EW 140 #[ZZ ZS n] w λe w'=>e=.returned (ZY (str (spell 16 n.toNat)))/\∃m,w'=w.drewN m:=by have h:=Bx (λw=>rspell_any 16 16 (by omega) (n.toNat+1) n w h0 (by omega) (by omega));go_enter Tryz.func140,Tryz.ntmps140;exact XXMKr
end
end Go.Proofs.YtdfabddnpgjepaaGreatDoor.Num
namespace Go.Proofs.YtdfabddnpgjepaaGreatDoor.Num
open Go.RowKit Base Oct
theorem grow_snoc (base most n:Int) (l:List UInt8) (c:UInt8):grow base most n (l ++ [c])=(grow base most n l).bind λk=>if most<dig c∨(most-dig c)/base<k then none else some (k*base+dig c):=by rw [grow_app];rfl
def Far (B M:Int) (l:List UInt8) (n:Int) (over:Bool):Prop:=l.all (digitOf B)=true/\0<=n/\n<=M/\grow B M 0 l=if over=true then none else some n
section
set_option maxHeartbeats 1000000
theorem rnumber_any (B:Int) (hB:B=10∨B=16) (most:Int) (hM:most<=9223372036854775807) (s:ByteArray) (w:World) (hs:s.size<=maxLen) :
 Calls EW 255 #[ZY s,ZZ ZS B,ZZ ZS most] w λe w'=>e=.returned (ZT #[ZZ ZS (readOf B most s.data.toList).1,ZZ ZS (readOf B most s.data.toList).2])/\w'=w:=by
 unfold maxLen at hs;by_cases h:s.data.toList= []
 ·have e1:s.toList= []:=by rw [Bf,h]
  rw [h];go_enter Tryz.func255,Tryz.ntmps255;go_wp2_with fail;go_ret2;exact ⟨rfl,rfl⟩
 ·have hne:s.toList.isEmpty=false:=by rw [Bf];simpa using h
  have hne':s.data.toList.isEmpty=false:=by simpa using h
  have hp:0<s.size:=by
   rcases CZ s.size with h0 | h0
   ·exact absurd (BT (by simpa using h0)) h
   ·exact h0
  have hR:readOf B most s.data.toList=if (!s.data.toList.all (digitOf B))=true then (0,22) else ofGrow (grow B (max most 0) 0 s.data.toList):=by unfold readOf;rw [hne'];rfl
  clear hne' h;have hm0:0<=max most 0:=by omega
  have hm1:max most 0<=9223372036854775807:=by omega
  generalize hmx:max most 0=M at *;obtain ⟨R,hRR⟩:∃R,R=readOf B most s.data.toList:=⟨_,rfl⟩;rw [←hRR] at hR ⊢;clear hRR;have HR:=Bx hR;clear hR;go_enter Tryz.func255,Tryz.ntmps255;go_wp2_with fail
  go_loop [8,9,10] (λx o i=>∃(k:Nat) (n:Int) (over:Bool),k<=s.size/\x=ZZ ZS n/\o=ZW over/\i=ZZ ZS k/\Hid (Far B M (s.data.toList.take k) n over)) (λ_ _ i=>s.size-(intOf i).toNat)
  case atStart=>exact ⟨0,0,false,Dj _,rfl,rfl,rfl,Bx ⟨rfl,Int.le_refl _,hm0,rfl⟩⟩
  case round=>
   obtain ⟨k,n,over,hk,rfl,rfl,rfl,hfar⟩:=hrel;rcases Dg k s.size with hlt | hge
   ·have HS:=Bx (take_snoc s k hlt);have b1:=byte_lt s[k];have b0:(0:Int)<=(s[k].toNat:Int):=by omega
    obtain ⟨d,hd⟩:∃d,d=dig s[k]:=⟨_,rfl⟩;obtain ⟨x,hx⟩:∃x,x=isHex (s[k].toNat:Int):=⟨_,rfl⟩
    have hxd:Hid (∀w,Calls EW 195 #[ZZ ZR (s[k].toNat:Int)] w λe w'=>e=.returned (ZT #[ZZ ZS d,ZW x])/\w'=w):=Bx (λw=>by rw [hd,hx];exact rhex_any _ w b0 b1);have d0:0<=d:=by rw [hd];exact dig_nonneg _
    have d1:d<=15:=by rw [hd];exact dig_le _
    have hdig:digitOf B s[k]=(x&&decide (d<B)):=by rw [hd,hx];rfl
    have n0:=hfar.out.2.1;have n1:=hfar.out.2.2.1;have HD:=Bx hd;have HG:=Bx hdig
    have HM:Hid (s[k]∈s.data.toList):=Bx (byte_mem s k hlt);clear hd hx hdig
    have bad:Hid (∀_:(x&&decide (d<B))=false,R=(0,22)):=Bx (λhb=>by
     have hf:s.data.toList.all (digitOf B)=false:=by rw [Bool.eq_false_iff];intro ha;rw [List.all_eq_true] at ha;have:=ha _ HM.out;rw [HG.out,hb] at this;cases this
     rw [HR.out,hf];rfl)
    cases x with
    | false=>
      go_wp2_with (go_at_call 195;with_reducible refine (hxd.out _).mono ?_;rintro e w' ⟨rfl,rfl⟩);go_ret2;rw [bad.out rfl];exact ⟨rfl,rfl⟩
    | true=>
      by_cases hdB:d<B
      ·have step:Hid (∀n' o',(over=false->¬(M<d∨(M-d)/B<n)->n'=n*B+d/\o'=false)->(over=true∨(M<d∨(M-d)/B<n)->n'=n/\o'=true)->Far B M (s.data.toList.take (k+1)) n' o'):=Bx (λn' o' h1 h2=>by
        obtain ⟨f1,f2,f3,f4⟩:=hfar.out;have hall:(s.data.toList.take (k+1)).all (digitOf B)=true:=by rw [HS.out,List.all_append,f1];simp [HG.out,hdB]
        cases over with
        | true=>
          obtain ⟨rfl,rfl⟩:=h2 (.inl rfl);refine ⟨hall,f2,f3,?_⟩;rw [HS.out,grow_snoc,f4];rfl
        | false=>
          by_cases hc:M<d∨(M-d)/B<n
          ·obtain ⟨rfl,rfl⟩:=h2 (.inr hc);refine ⟨hall,f2,f3,?_⟩;rw [HS.out,grow_snoc,f4,←HD.out];simp [hc]
          ·obtain ⟨rfl,rfl⟩:=h1 rfl hc;have hmul:n*B+d<=M:=by
            have:=room (base:=B) (most:=M) (by omega) n d f2;omega
           have hnb:0<=n*B:=Int.mul_nonneg f2 (by omega);refine ⟨hall,by omega,hmul,?_⟩;rw [HS.out,grow_snoc,f4,←HD.out];simp [hc])
       have hdB':(decide (d≥B))=false:=by simp;omega
       cases over with
       | true=>
         go_wp2_with (go_at_call 195;with_reducible refine (hxd.out _).mono ?_;rintro e w' ⟨rfl,rfl⟩);go_round
         case rel=>exact ⟨k+1,n,true,by omega,rfl,rfl,by go_num,Bx (step.out _ _ (λh=>by cases h) (λ_=>⟨rfl,rfl⟩))⟩
         case measure=>simp [intOf];omega
       | false=>
         by_cases hA:M<d
         ·obtain ⟨q,hq⟩:∃q,q=(M-d).tdiv B:=⟨_,rfl⟩
          have w1:IntKind.i64.wrap (M-d)=M-d:=wrap_in _ (by omega) (by omega);have w1':wrap64 (M-d)=M-d:=by unfold wrap64;omega
          have q1: -15<=q/\q<=0:=by
           have e:(M-d).tdiv B= -((d-M).tdiv B):=by rw [←Int.neg_tdiv];congr 1;omega
           have e2:(d-M).tdiv B=(d-M)/B:=Int.tdiv_eq_ediv_of_nonneg (by omega);rw [e,e2] at hq;rcases hB with rfl | rfl<;>omega
          have w3:IntKind.i64.wrap q=q:=wrap_in _ (by omega) (by omega);have w3':wrap64 q=q:=by unfold wrap64;omega
          have w2:=hq.symm;clear hq;have hB0:¬B=0:=by omega
          go_wp2_with (go_at_call 195;with_reducible refine (hxd.out _).mono ?_;rintro e w' ⟨rfl,rfl⟩);all_goals
           go_round
           case rel=>exact ⟨k+1,n,true,by omega,rfl,rfl,by go_num,Bx (step.out _ _ (λ_ h=>absurd (Or.inl hA) h) (λ_=>⟨rfl,rfl⟩))⟩
           case measure=>simp [intOf];omega
         ·have w1:IntKind.i64.wrap (M-d)=M-d:=wrap_in _ (by omega) (by omega);have w1':wrap64 (M-d)=M-d:=by unfold wrap64;omega
          have w2:(M-d).tdiv B=(M-d)/B:=Int.tdiv_eq_ediv_of_nonneg (by omega)
          have w3:IntKind.i64.wrap ((M-d)/B)=(M-d)/B:=wrap_in _ (by rcases hB with rfl | rfl<;>omega) (by rcases hB with rfl | rfl<;>omega);have w3':wrap64 ((M-d)/B)=(M-d)/B:=by rw [←w3,IntKind.wrap_i64];unfold wrap64;rcases hB with rfl | rfl<;>omega
          have hB0:¬B=0:=by omega
          by_cases hC:(M-d)/B<n
          ·go_wp2_with (go_at_call 195;with_reducible refine (hxd.out _).mono ?_;rintro e w' ⟨rfl,rfl⟩);go_round
           case rel=>exact ⟨k+1,n,true,by omega,rfl,rfl,by go_num,Bx (step.out _ _ (λ_ h=>absurd (Or.inr hC) h) (λ_=>⟨rfl,rfl⟩))⟩
           case measure=>simp [intOf];omega
          ·have hmul:n*B+d<=M:=by
            have:=room (base:=B) (most:=M) (by omega) n d n0;omega
           have hnb:0<=n*B:=Int.mul_nonneg n0 (by omega)
           have m1:IntKind.i64.wrap (n*B)=n*B:=wrap_in _ (by omega) (by omega)
           have m2:IntKind.i64.wrap (n*B+d)=n*B+d:=wrap_in _ (by omega) (by omega)
           go_wp2_with (go_at_call 195;with_reducible refine (hxd.out _).mono ?_;rintro e w' ⟨rfl,rfl⟩);go_round
           case rel=>exact ⟨k+1,n*B+d,false,by omega,by go_num,rfl,by go_num,Bx (step.out _ _ (λ_ _=>⟨rfl,rfl⟩) (λh=>by rcases h with h | h;cases h;omega))⟩
           case measure=>simp [intOf];omega
      ·have hdB':B<=d:=by omega
       go_wp2_with (go_at_call 195;with_reducible refine (hxd.out _).mono ?_;rintro e w' ⟨rfl,rfl⟩);go_ret2;rw [bad.out (by simp [hdB])];exact ⟨rfl,rfl⟩
   ·have fin:Hid (R=ofGrow (if over=true then none else some n)):=Bx (by
     obtain ⟨f1,_,_,f4⟩:=hfar.out;rw [take_all s k hge] at f1 f4;rw [HR.out,f1,f4];rfl)
    cases over with
    | true=>
      go_wp2_with fail;go_ret2;rw [fin.out];exact ⟨rfl,rfl⟩
    | false=>
      go_wp2_with fail;go_ret2;rw [fin.out];exact ⟨rfl,rfl⟩
end
end Go.Proofs.YtdfabddnpgjepaaGreatDoor.Num
namespace Go.Proofs.YtdfabddnpgjepaaGreatDoor.Num
open Go.RowKit Base Oct
section
set_option maxHeartbeats 1000000
theorem rdec_any (most:Int) (hM:most<=9223372036854775807) (s:ByteArray) (w:World) (hs:s.size<=maxLen) :
 Calls EW 252 #[ZY s,ZZ ZS most] w λe w'=>e=.returned (ZT #[ZZ ZS (readOf 10 most s.data.toList).1,ZZ ZS (readOf 10 most s.data.toList).2])/\w'=w:=by
 have h:=Bx (λw=>rnumber_any 10 (by omega) most hM s w hs);generalize readOf 10 most s.data.toList=R at h ⊢;go_enter Tryz.func252,Tryz.ntmps252
 go_wp2_with (go_at_call 255;with_reducible refine (h.out _).mono ?_;rintro e w1 ⟨rfl,rfl⟩);go_ret2;exact ⟨rfl,rfl⟩
theorem rhexN_any (most:Int) (hM:most<=9223372036854775807) (s:ByteArray) (w:World) (hs:s.size<=maxLen) :
 Calls EW 236 #[ZY s,ZZ ZS most] w λe w'=>e=.returned (ZT #[ZZ ZS (readOf 16 most s.data.toList).1,ZZ ZS (readOf 16 most s.data.toList).2])/\w'=w:=by
 have h:=Bx (λw=>rnumber_any 16 (by omega) most hM s w hs);generalize readOf 16 most s.data.toList=R at h ⊢;go_enter Tryz.func236,Tryz.ntmps236
 go_wp2_with (go_at_call 255;with_reducible refine (h.out _).mono ?_;rintro e w1 ⟨rfl,rfl⟩);go_ret2;exact ⟨rfl,rfl⟩
end
end Go.Proofs.YtdfabddnpgjepaaGreatDoor.Num
namespace Go.Proofs.YtdfabddnpgjepaaGreatDoor.Tgt
open Go.RowKit Base Txt
def cutAt (c:UInt8):List UInt8->List UInt8 × List UInt8 × Bool
 | []=>([],[],false)
 | b::l=>if b=c then ([],l,true) else (b::(cutAt c l).1,(cutAt c l).2.1,(cutAt c l).2.2)
theorem cutAt_none (c:UInt8):∀l:List UInt8,c∉l->cutAt c l=(l,[],false)
 | [],_=>rfl
 | b::l,h=>by
   simp only [C6,not_or] at h;rw [cutAt,if_neg (λe=>h.1 e.symm),cutAt_none c l h.2]
theorem cutAt_app (c:UInt8):∀(a r:List UInt8),c∉a->cutAt c (a++c::r)=(a,r,true)
 | [],r,_=>by rw [List.nil_append,cutAt,if_pos rfl]
 | b::a,r,h=>by
   simp only [C6,not_or] at h;rw [List.cons_append,cutAt,if_neg (λe=>h.1 e.symm),cutAt_app c a r h.2]
theorem cut_cases (c:UInt8):∀l:List UInt8,c∉l∨∃a r,l=a++c::r/\c∉a
 | []=>.inl (by simp)
 | b::l=>by
   by_cases h:b=c
   ·exact .inr ⟨[],l,by rw [h];rfl,by simp⟩
   ·rcases cut_cases c l with h1 | ⟨a,r,h1,h2⟩
    ·exact .inl (by simp only [C6,not_or];exact ⟨λe=>h e.symm,h1⟩)
    ·exact .inr ⟨b::a,r,by rw [h1];rfl,by simp only [C6,not_or];exact ⟨λe=>h e.symm,h2⟩⟩
theorem cutAt_le (c:UInt8) (l:List UInt8):(cutAt c l).1.length<=l.length/\(cutAt c l).2.1.length<=l.length:=by
 rcases cut_cases c l with h | ⟨a,r,rfl,h⟩
 ·rw [cutAt_none c l h];simp
 ·rw [cutAt_app c a r h];simp;omega
theorem idx_cut (c:UInt8) (l:List UInt8):(B4 l c= -1/\cutAt c l=(l,[],false))∨∃i:Nat,i<l.length/\B4 l c=(i:Int)/\cutAt c l=(l.take i,l.drop (i+1),true):=by
 by_cases h:B4 l c= -1
 ·refine .inl ⟨h,cutAt_none c l λhm=>?_⟩;obtain ⟨k,hk,e⟩:=List.getElem_of_mem hm
  exact Lib.indexByte_none h k (by rw [Ca hk,e])
 ·have h0:=Lib.indexByte_ge l c;obtain ⟨i,hi⟩:∃i:Nat,B4 l c=i:=⟨(B4 l c).toNat,by omega⟩;obtain ⟨g1,g2⟩:=Lib.indexByte_some hi;have hlt:i<l.length:=by
   rcases Dg i l.length with h | h
   ·exact h
   ·rw [List.getElem?_eq_none h] at g1;cases g1
  have hc:l[i]=c:=by rw [Ca hlt] at g1;exact Du.inj g1
  refine .inr ⟨i,hlt,hi,?_⟩;have e1:l=l.take i++c::l.drop (i+1):=by conv=>lhs;rw [←List.take_append_drop i l,BQ hlt,hc]
  have hno:c∉l.take i:=λhm=>by exact XXws0
  conv=>lhs;rw [e1]
  exact cutAt_app c _ _ hno
section
set_option maxHeartbeats 8000000
set_option maxRecDepth 1000000
theorem cutLite_any (s:ByteArray) (c:UInt8) (w:World) (hs:s.size<=1000000000) :
 Calls EW 298 #[ZY s,ZY ⟨#[c]⟩] w λe w'=>e=.returned (ZT #[ZY (ba (cutAt c s.data.toList).1),ZY (ba (cutAt c s.data.toList).2.1),ZW (cutAt c s.data.toList).2.2])/\∃n,w'=w.drewN n:=by
 have HI:=Bx (λw=>Tryz.stringslite_Index_one s c w);rcases idx_cut c s.data.toList with ⟨h1,h2⟩ | ⟨i,h0,h1,h2⟩
 ·rw [h1] at HI;rw [h2];clear h1 h2;go_enter Tryz.func298,Tryz.ntmps298
  go_wp2_with (go_at_call 259;with_reducible refine Cm (HI.out _) ?_);go_ret3;exact ⟨rfl,0,rfl⟩
 ·rw [h1] at HI;rw [h2];rw [len] at h0;have c0:(0:Int)<=(i:Int):=by omega
  have c1:(i:Int)<=(s.size:Int):=by omega
  have c2:IntKind.i64.wrap ((i:Int)+1)=((i+1:Nat):Int):=by rw [wrap_in _ (by omega) (by omega)];omega
  have c3:((i+1:Nat):Int)<=(s.size:Int):=by omega
  have e1:s.extract 0 i=ba (s.data.toList.take i):=ba_ext (by rw [Bu];simp [ba])
  have e2:s.extract (i+1) s.size=ba (s.data.toList.drop (i+1)):=ba_ext (by rw [Bu,CN (by rw [Cu,len];omega)];rfl);simp only;rw [←e1,←e2];clear h1 h2 e1 e2;go_enter Tryz.func298,Tryz.ntmps298
  go_wp2_with (go_at_call 259;with_reducible refine Cm (HI.out _) ?_)
  go_quiet (fail);rename_i nq;go_wp2;go_ret3;exact ⟨rfl,nq,rfl⟩
theorem cut_any (s:ByteArray) (c:UInt8) (w:World) (hs:s.size<=1000000000) :
 Calls EW 271 #[ZY s,ZY ⟨#[c]⟩] w λe w'=>e=.returned (ZT #[ZY (ba (cutAt c s.data.toList).1),ZY (ba (cutAt c s.data.toList).2.1),ZW (cutAt c s.data.toList).2.2])/\∃n,w'=w.drewN n:=by
 have HI:=Bx (λw=>cutLite_any s c w hs);generalize cutAt c s.data.toList=r at *;go_enter Tryz.func271,Tryz.ntmps271
 go_wp2_with (go_at_call 298;with_reducible refine (HI.out _).mono ?_;rintro e w1 ⟨rfl,n,hw⟩;rw [hw];clear hw);go_ret3;exact ⟨rfl,n,rfl⟩
end
end Go.Proofs.YtdfabddnpgjepaaGreatDoor.Tgt
namespace Go.Proofs.YtdfabddnpgjepaaGreatDoor.Txt
open Go.RowKit Base Oct
theorem byte_info:(EW.info? 5).map (λi=>(i.zero,i.size,i.bytes))=some (some (ZZ ZR 0),1,1):=by kernel_rfl
theorem text_info:(EW.info? 9).map (λi=>(i.zero,i.size,i.bytes))=some (some (ZY A8),1,16):=by kernel_rfl
def mix (l:List UInt8) (k:Nat):List UInt8:=low (l.take k)++l.drop k
def bcells (l:List UInt8):List Value:=l.map λb=>Value.int .u8 b.toNat
theorem mix_zero (l:List UInt8):mix l 0=l:=by simp [mix,low]
theorem mix_all (l:List UInt8) (k:Nat) (h:l.length<=k):mix l k=low l:=by unfold mix;rw [CN h,List.drop_eq_nil_of_le h,BH]
theorem mix_length (l:List UInt8) (k:Nat):(mix l k).length=l.length:=by unfold mix low;simp;omega
section
set_option maxHeartbeats 1000000
theorem lowN_any (n:Int) (w:World) (h0:0<=n) (h1:n<=255):Calls EW 175 #[ZZ ZR n] w λe w'=>e=.returned (ZZ ZR (lowN n))/\w'=w:=by
 by_cases h:65<=n/\n<=90
 ·obtain ⟨a,b⟩:=h;have e1:IntKind.u8.wrap (n-65)=n-65:=by rw [IntKind.wrap_u8];omega
  have e2:IntKind.u8.wrap (n-65+97)=n+32:=by rw [IntKind.wrap_u8];omega
  go_enter Tryz.func175,Tryz.ntmps175;go_wp2;go_ret;exact ⟨by simp only [lowN,a,b,and_self,if_true];rw [←e2,←e1];rfl,rfl⟩
 ·have hr:lowN n=n:=by unfold lowN;rw [if_neg h]
  rcases Int.lt_or_le n 65 with a | a
  ·go_enter Tryz.func175,Tryz.ntmps175;go_wp2;go_ret;first | exact ⟨rfl,rfl⟩ | exact ⟨by rw [hr];rfl,rfl⟩
  ·have b:90<n:=by omega
   go_enter Tryz.func175,Tryz.ntmps175;go_wp2;go_ret;first | exact ⟨rfl,rfl⟩ | exact ⟨by rw [hr];rfl,rfl⟩
theorem same_any (a b:ByteArray) (w:World) (ha:a.size<=maxLen):Calls EW 145 #[ZY a,ZY b] w λe w'=>e=.returned (ZW (same a b))/\Below w.heap.size w w':=by
 unfold maxLen at ha;by_cases hl:a.size=b.size
 ·have hq:∀x (w:World),0<=x->x<=255->Hid (Calls EW 175 #[ZZ ZR x] w λe w'=>e=.returned (ZZ ZR (lowN x))/\w'=w):=λx w h0 h1=>Bx (lowN_any x w h0 h1);go_enter Tryz.func145,Tryz.ntmps145;go_wp2
  go_loopw [13] (λi wr=>∃k:Nat,k<=a.size/\i=ZZ ZS k/\Hid (low (a.data.toList.take k)=low (b.data.toList.take k))/\Hid (Below w.heap.size w wr)) (λi _=>a.size-(intOf i).toNat)
  case atStart=>exact ⟨0,Dj _,rfl,Bx rfl,Bx (An _ _)⟩
  case round=>
   obtain ⟨k,hk,rfl,hsm,hbr⟩:=hrel;rcases Dg k a.size with hlt | hge
   ·have hltb:k<b.size:=by omega
    have ta:=Bx (take_snoc a k hlt)
    have tb:=Bx (take_snoc b k hltb)
    have hca:=λw=>hq (a[k].toNat:Int) w (by omega) (byte_lt _)
    have hcb:=λw=>hq (b[k].toNat:Int) w (by omega) (byte_lt _);have la:=lowB_toNat a[k];have lb:=lowB_toNat b[k];have hna:k<a.data.toList.length:=by rw [len];exact hlt
    by_cases he:lowB a[k]=lowB b[k]
    ·have hxy:lowN (a[k].toNat:Int)=lowN (b[k].toNat:Int):=by rw [←la,←lb,he]
     have HE:=Bx he;clear he;have h1:=Bx hca;have h2:=Bx hcb;clear hca hcb hq;have i1:(k:Int)<(a.size:Int):=by omega
     have i2:(k:Int)<(b.size:Int):=by omega
     go_wp2_with fail
     go_quiet ((first |(go_at_call 175;with_reducible exact Calls.quiet_of_same (h1.out _).out) |(go_at_call 175;with_reducible exact Calls.quiet_of_same (h2.out _).out)));rename_i nq
     have hb':=Bx (Base.below_drewN hbr.out nq);go_wp2;go_roundw
     case rel=>refine ⟨k+1,by omega,by go_num,Bx ?_,hb'⟩;rw [ta.out,tb.out,low,low,List.map_append,List.map_append];have e1:=hsm.out;unfold low at e1;rw [e1];simp [HE.out]
     case measure=>simp [intOf];omega
    ·have hxy:¬lowN (a[k].toNat:Int)=lowN (b[k].toNat:Int):=λe=>he (by
      rw [←la,←lb] at e
      exact FM.1 (by omega))
     have hf:same a b=false:=by
      refine Bool.eq_false_iff.2 λhs=>he ?_
      have e1:=congrArg (λl=>l[k]?) (beq_iff_eq.1 hs);have hnb:k<b.data.toList.length:=by rw [len];exact hltb
      simp only [low,Cd,Ca hna,Ca hnb,Option.map_some,Du.injEq] at e1;exact e1
     have HE:=Bx he;clear he la lb;have h1:=Bx hca;have h2:=Bx hcb;clear hca hcb hq;have i1:(k:Int)<(a.size:Int):=by omega
     have i2:(k:Int)<(b.size:Int):=by omega
     go_wp2_with fail
     go_quiet ((first |(go_at_call 175;with_reducible exact Calls.quiet_of_same (h1.out _).out) |(go_at_call 175;with_reducible exact Calls.quiet_of_same (h2.out _).out)));rename_i nq
     have hb':=Bx (Base.below_drewN hbr.out nq);go_wp2;go_ret;exact ⟨by rw [hf];rfl,hb'.out⟩
   ·obtain rfl:k=a.size:=by omega
    go_wp2;go_ret;refine ⟨?_,hbr.out⟩;have e1:=hsm.out;rw [take_all a _ (Db _),take_all b _ (by omega)] at e1;have:same a b=true:=beq_iff_eq.2 e1;rw [this];rfl
 ·have hf:same a b=false:=Bool.eq_false_iff.2 λhs=>hl (same_sizes hs);have hl':¬(a.size:Int)=(b.size:Int):=by omega
  go_enter Tryz.func145,Tryz.ntmps145;go_wp2;go_ret;exact ⟨by rw [hf];rfl,An _ _⟩
theorem blank_is (x:UInt8):Oct.blank (x.toNat:Int)=blank x:=by
 rw [Au];simp only [Oct.blank,blank,Az,decide_eq_true_eq,beq_iff_eq];constructor
 ·rintro (h | h)
  ·exact Or.inl (FM.1 (by show x.toNat=32;omega))
  ·exact Or.inr (FM.1 (by show x.toNat=9;omega))
 ·rintro (rfl | rfl)<;>decide
set_option maxRecDepth 10000 in
theorem strip_any (g:Nat) (lb:Array Value) (eg:∀args w,(callFunc g args).run EW w=.ok (.enter g args) w) (p:UInt8->Bool) (s:ByteArray) (w:World) (hs:s.size<=maxLen)
 (hp:∀x:UInt8,Calls EW g (#[ZZ ZR x.toNat]++lb) w λe w'=>e=.returned (ZW (p x))/\w'=w) :
 Calls EW 216 #[ZY s,.func (.func g) #[] lb] w λe w'=>e=.returned (ZY (trimB p s))/\w'=w:=by
 unfold maxLen at hs;have HP:=Bx hp;clear hp;go_enter Tryz.func216,Tryz.ntmps216;go_wp2
 go_loop [5] (λi=>∃k:Nat,k<=s.size/\i=ZZ ZS k/\Hid (∀x∈s.data.toList.take k,p x=true)) (λi=>s.size-(intOf i).toNat)
 case atStart=>exact ⟨0,Dj _,rfl,Bx (by simp)⟩
 case round=>
  obtain ⟨k,hk,rfl,hpre⟩:=hrel;by_cases hgo:∃h:k<s.size,p s[k]=true
  ·obtain ⟨hlt,hq⟩:=hgo;have hcall:=HP.out s[k];rw [hq] at hcall;have HC:=Bx hcall
   have ta:=Bx (take_snoc s k hlt);have HQ:=Bx hq;clear hcall hq;have i1:(k:Int)<(s.size:Int):=by omega
   go_wp2_with (go_at_fn g;with_reducible refine HC.out.mono ?_;rintro e w' ⟨rfl,rfl⟩);go_round
   case rel=>
    refine ⟨k+1,by omega,by go_num,Bx ?_⟩;rw [ta.out];intro x hx;rcases C3.1 hx with hx | hx
    ·exact hpre.out x hx
    ·obtain rfl:x=s[k]:=by simpa using hx
     exact HQ.out
   case measure=>simp [intOf];omega
  ·have hstop:=Bx (show k<s.size->∃h:k<s.size,p s[k]=false from λh=>⟨h,by
    cases hq:p s[k] with
    | false=>rfl
    | true=>exact absurd ⟨h,hq⟩ hgo⟩)
   clear hgo;rcases Dg k s.size with hlt | hge
   all_goals (first
    |(have i1:(k:Int)<(s.size:Int):=by omega
      have hcall:=HP.out s[k];obtain ⟨_,hq⟩:=hstop.out hlt;rw [hq] at hcall;have HC:=Bx hcall;clear hcall hq
      (go_wp2_with (go_at_fn g;with_reducible refine HC.out.mono ?_;rintro e w' ⟨rfl,rfl⟩)))
    |(have i1:¬(k:Int)<(s.size:Int):=by omega
      go_wp2;clear i1))
   all_goals
    go_loop [6] (λi=>∃m:Nat,k<=m/\m<=s.size/\i=ZZ ZS m/\Hid (∀x∈s.data.toList.drop m,p x=true)) (λi=>(intOf i).toNat)
    case atStart=>exact ⟨s.size,hk,Db _,rfl,Bx (by
     intro x hx;rw [List.drop_eq_nil_of_le (by rw [len];exact Db _)] at hx
     cases hx)⟩
    case round=>
     obtain ⟨m,hkm,hm,rfl,hpost⟩:=hrel;rcases Dg k m with hlm | hgm
     ·first
      |(exfalso;omega)
      |(
       have i0:(k:Int)<(m:Int):=by omega
       have i1:((m-1:Nat):Int)=(m:Int)-1:=by omega
       have i2:m-1<s.size:=by omega
       have i3:(m:Int)-1<(s.size:Int):=by omega
       have i4:0<=(m:Int)-1:=by omega
       have i5:IntKind.i64.wrap ((m:Int)-1)=(m:Int)-1:=wrap_in _ (by omega) (by omega);have i6:((m:Int)-1).toNat=m-1:=by omega
       cases hq:p s[m-1] with
       | true=>
         have hcall:=HP.out s[m-1];rw [hq] at hcall;have HC:=Bx hcall;have HQ:=Bx hq;clear hcall hq
         go_wp2_with (go_at_fn g;with_reducible refine HC.out.mono ?_;rintro e w' ⟨rfl,rfl⟩);go_round
         case rel=>
          refine ⟨m-1,by omega,by omega,by rw [i1],Bx ?_⟩;intro x hx;rw [BQ (by rw [len];exact i2),show m-1+1=m by omega] at hx;rcases C6.1 hx with rfl | hx
          ·exact HQ.out
          ·exact hpost.out x hx
         case measure=>simp [intOf];omega
       | false=>
         have hcall:=HP.out s[m-1];rw [hq] at hcall;have HC:=Bx hcall;have HQ:=Bx hq;clear hcall hq
         have hcut:=trim_cut p s k m hkm hm hpre.out hpost.out (λh=>⟨hstop.out (by omega),i2,HQ.out⟩)
         go_wp2_with (go_at_fn g;with_reducible refine HC.out.mono ?_;rintro e w' ⟨rfl,rfl⟩);go_ret;exact ⟨by rw [←hcut];rfl,rfl⟩)
     ·obtain rfl:k=m:=by omega
      have hcut:=trim_cut p s k k hkm hm hpre.out hpost.out (λh=>absurd h (by omega));have i1:¬(k:Int)<(k:Int):=by omega
      have e0:s.extract k k=A8:=by apply ba_ext;rw [Bu];simp
      rw [e0] at hcut;go_wp2;go_ret;exact ⟨by rw [←hcut];rfl,rfl⟩
theorem trim_any (s:ByteArray) (w:World) (hs:s.size<=maxLen):Calls EW 192 #[ZY s] w λe w'=>e=.returned (ZY (trim s))/\w'=w:=by
 have eg:∀args w,(callFunc 217 args).run EW w=.ok (.enter 217 args) w:=enters_of Tryz.func217 (by kernel_rfl) rfl
 have h:=Bx (strip_any 217 #[] eg blank s w hs (λx=>(Oct.blank_any (x.toNat:Int) w).mono (by rintro e w' ⟨rfl,rfl⟩;exact ⟨by rw [blank_is],rfl⟩)));go_enter Tryz.func192,Tryz.ntmps192
 go_wp2_with (go_at_call 216;with_reducible refine h.out.mono ?_;rintro e w' ⟨rfl,rfl⟩);go_ret;exact ⟨rfl,rfl⟩
end
end Go.Proofs.YtdfabddnpgjepaaGreatDoor.Txt
namespace Go.Proofs.YtdfabddnpgjepaaGreatDoor.Txt
open Go.RowKit Base Oct
def isIn (set:ByteArray) (x:UInt8):Bool:=set.data.toList.contains x
def trimOf (s set:ByteArray):ByteArray:=trimB (isIn set) s
def marks (l:List UInt8):List Value:=(CE 256).map λj=>Value.bool (l.any λb=>b.toNat==j)
theorem marks_length (l:List UInt8):(marks l).length=256:=by rw [marks,Cw,List.length_range]
theorem marks_none (l:List UInt8) (j:Nat) (h:¬j<256):(marks l)[j]?=none:=List.getElem?_eq_none (by rw [marks_length];omega)
theorem marks_some (l:List UInt8) (j:Nat) (h:j<256):(marks l)[j]?=some (ZW (l.any λb=>b.toNat==j)):=by unfold marks;rw [Cd,List.getElem?_range h];rfl
theorem marks_nil (n:Nat) (hn:n=256):(Aj n (Value.bool false)).toList=marks []:=by
 rw [Array.toList_replicate];apply List.ext_getElem?;intro j;by_cases h:j<256
 ·rw [marks_some _ _ h,List.getElem?_replicate,if_pos (by omega)];rfl
 ·rw [marks_none _ _ h,List.getElem?_replicate,if_neg (by omega)]
theorem marks_at (l:List UInt8) (x:UInt8):(marks l)[x.toNat]?=some (ZW (l.contains x)):=by
 rw [marks_some _ _ x.toNat_lt];simp only [Du.injEq,Value.bool.injEq];rw [Au,List.any_eq_true,List.contains_iff_exists_mem_beq];constructor
 ·rintro ⟨b,hb,e⟩;exact ⟨b,hb,by rw [beq_iff_eq] at e ⊢;exact (FM.1 e).symm⟩
 ·rintro ⟨b,hb,e⟩;rw [beq_iff_eq] at e;subst e;exact ⟨x,hb,by simp⟩
theorem marks_set (l:List UInt8) (x:UInt8):(marks l).set x.toNat (ZW true)=marks (l ++ [x]):=by
 apply List.ext_getElem?;intro j;rw [List.getElem?_set];have hx:=x.toNat_lt;by_cases h:x.toNat=j
 ·subst h;rw [if_pos rfl,if_pos (by rw [marks_length];exact hx),marks_some _ _ hx];simp
 ·rw [if_neg h];by_cases hj:j<256
  ·rw [marks_some _ _ hj,marks_some _ _ hj];have:(x.toNat==j)=false:=by simpa using h
   simp [this]
  ·rw [marks_none _ _ hj,marks_none _ _ hj]
theorem zero_marks (w:World):(zeroValue 292).run EW w=.ok (ZU (Aj 256 (ZW false))) w:=by kernel_rfl
section
set_option maxHeartbeats 1000000
theorem marks_any (x:UInt8) (B:Nat) (set:List UInt8) (w:World) (hc:w.cell? ⟨B,x.toNat,none⟩=some (ZW (set.contains x))) :
 Calls EW 331 #[ZZ ZR x.toNat,ZV (some ⟨B,0,none⟩)] w λe w'=>e=.returned (ZW (set.contains x))/\w'=w:=by
 have hx:=x.toNat_lt;have i1:(x.toNat:Int)<256:=by omega
 generalize set.contains x=r at *;generalize x.toNat=n at *;go_enter Tryz.func331,Tryz.ntmps331;go_wp2;go_ret;exact ⟨rfl,rfl⟩
set_option maxRecDepth 10000 in
theorem trimOf_any (s set:ByteArray) (w:World) (hs:s.size<=maxLen) (ht:set.size<=maxLen):Calls EW 326 #[ZY s,ZY set] w λe w'=>e=.returned (ZY (trimOf s set))/\Below w.heap.size w w':=by
 have hm:=hs;have ht':=ht;unfold maxLen at ht';have HM:=Bx hm;clear hs hm ht;go_enter Tryz.func326,Tryz.ntmps326;have eg:∀args w,(callFunc 331 args).run EW w=.ok (.enter 331 args) w:=enters_of Tryz.func331 (by kernel_rfl) rfl;have hz:=zero_marks;go_wp2;have hown:(w.alloc (.cells (Aj 256 (ZW false)) 292)).ownsRow w.heap.size 292 1 (ZX (some ⟨w.heap.size,0,none⟩) 256 256) 256 (marks (set.data.toList.take 0)):=by
  have:=World.ownsRow_lit (base:=w.heap.size) (e:=292) (size:=1) w (Aj 256 (ZW false)) 256 (Db _) (by decide) (by rw [Array.size_replicate])
  rwa [marks_nil 256 rfl] at this
 have HO:=Bx hown
 have hb:=Bx (show Below w.heap.size w (w.alloc (.cells (Aj 256 (ZW false)) 292)) from (An _ _).alloc (Db _) _);clear hown hz;generalize w.alloc (.cells (Aj 256 (ZW false)) 292)=W at *;generalize hg:w.heap.size=g at *;have HG:=Bx hg;clear hg
 go_loopw [9] (λi wr=>∃k:Nat,k<=set.size/\i=ZZ ZS k/\Hid (wr.ownsRow g 292 1 (ZX (some ⟨g,0,none⟩) 256 256) 256 (marks (set.data.toList.take k)))/\Hid (Below g w wr)) (λi _=>set.size-(intOf i).toNat)
 case atStart=>exact ⟨0,Dj _,rfl,HO,hb⟩
 case round=>
  obtain ⟨k,hk,rfl,hown,hbr⟩:=hrel;rcases Dg k set.size with hlt | hge
  ·have hx:=set[k].toNat_lt;have i1:(set[k].toNat:Int)<256:=by omega
   have hcell:=hown.out.cellAt set[k].toNat (by omega);rw [marks_at] at hcell;have hfz:=hown.out.frozenAt set[k].toNat
   have hst:=hown.out.stored set[k].toNat (ZW true);rw [marks_set,←take_snoc set k hlt] at hst;have HS:=Bx hst;clear hst;go_wp2;go_roundw
   case rel=>exact ⟨k+1,by omega,by go_num,Bx HS.out.1,Bx (hbr.out.setCell (Db _) _)⟩
   case measure=>simp [intOf];omega
  ·obtain rfl:k=set.size:=by omega
   have hown':=hown.out;rw [take_all set _ (Db _)] at hown'
   have HC:=Bx (λx:UInt8=>(hown'.cellAt x.toNat (by have:=x.toNat_lt;omega)).trans (marks_at _ x));clear hown'
   have hs:=Bx (strip_any 331 #[ZV (some ⟨g,0,none⟩)] eg (isIn set) s wr HM.out (λx=>marks_any x g _ wr (HC.out x)));clear eg
   go_wp2_with (go_at_call 216;with_reducible refine hs.out.mono ?_;rintro e w' ⟨rfl,rfl⟩);go_ret;exact ⟨rfl,by rw [HG.out];exact hbr.out⟩
end
end Go.Proofs.YtdfabddnpgjepaaGreatDoor.Txt
namespace Go.Proofs.YtdfabddnpgjepaaGreatDoor.Txt
open Go.RowKit Base Oct
theorem field_info:(EW.info? 126).map (λi=>(i.zero,i.size,i.bytes))=some (some (ZU #[ZY A8,ZY A8]),2,32):=by kernel_rfl
def room (vs:List ByteArray):Nat:=(vs.map λv=>v.size+1).sum
theorem partsOf_le (v:ByteArray):(partsOf v).length<=v.size+1:=by unfold partsOf;rw [Cw];have:=parts_le 44 v.data.toList;rwa [len] at this
theorem list_le:∀vs:List ByteArray,(list vs).length<=room vs
 | []=>by simp [list,room]
 | v::vs=>by
   have h1:=partsOf_le v;have h2:=list_le vs;simp only [list,room,List.flatMap_cons,Cr,List.map_cons,List.sum_cons] at *;omega
theorem room_mem:∀(vs:List ByteArray) (v:ByteArray),v∈vs->v.size+1<=room vs
 | u::vs,v,h=>by
   rw [room,List.map_cons,List.sum_cons];rcases C6.1 h with rfl | h
   ·omega
   ·have:=room_mem vs v h;rw [room] at this;omega
theorem len_room:∀vs:List ByteArray,vs.length<=room vs
 | []=>Dj _
 | v::vs=>by have:=len_room vs;rw [room] at *;rw [List.map_cons,List.sum_cons,List.length_cons];omega
theorem partsOf_map (x:ByteArray):partsOf x=((parts 44 x.data.toList).map ba).map trim:=by rw [partsOf,List.map_map];rfl
theorem list_take_le (vs:List ByteArray) (k:Nat):(list (vs.take k)).length<=(list vs).length:=by
 conv=>rhs;rw [←List.take_append_drop k vs]
 unfold list;rw [List.flatMap_append,Cr];omega
theorem list_snoc (vs:List ByteArray) (k:Nat) (h:k<vs.length):list (vs.take (k+1))=list (vs.take k)++partsOf (vs[k]?.getD A8):=by rw [strs_snoc vs k h];unfold list;simp
section
set_option maxHeartbeats 1000000
set_option maxRecDepth 10000
theorem split_at (c:UInt8) (s:ByteArray) (w:World) (hs:s.size<4294967281) :
 Calls EW 191 #[ZY s,ZY ⟨#[c]⟩] w λe w'=>∃n k,e=.returned (ZX (some ⟨w.heap.size,0,none⟩) n k)/\n=(parts c s.data.toList).length/\Strs w' (some ⟨w.heap.size,0,none⟩) n ((parts c s.data.toList).map ba)/\w.heap.size<w'.heap.size/\Below w.heap.size w w':=by
 have hle:=Lib.countB_le ⟨#[c]⟩ (Db 1) s.size s (Db _);have hlen:=Lib.splitB_all ⟨#[c]⟩ (Db 1) 0 _ s rfl
 have ct:=Any.strings_genSplit_core Tryz.lays221 text_info s ⟨#[c]⟩ 0 (-1) (Lib.countB s ⟨#[c]⟩+1) w hs (Db 1) (Dj _)
  (λx cs hx=>(Tryz.strings_Index_one x c _).mono λe w' ⟨he,hw⟩=>⟨by rw [he];congr 2;exact (Lib.index_one _ _).symm,hw⟩)
  ((Tryz.strings_Count_one s c w).mono λe w' ⟨he,hw⟩=>⟨by rw [he];congr 3;exact (Lib.count_one _ _).symm,hw⟩)
  (by decide) (by decide) (by rw [if_pos (by decide)];omega)
 rw [Nat.add_sub_cancel,hlen] at ct;have e2:Lib.cellsOf (Lib.splitB ⟨#[c]⟩ 0 (Lib.countB s ⟨#[c]⟩) s) (Lib.countB s ⟨#[c]⟩+1)=((Lib.splitB ⟨#[c]⟩ 0 (Lib.countB s ⟨#[c]⟩) s).map Value.string).toArray:=by rw [←hlen];exact Lib.cellsOf_full _
 rw [e2,splitB_parts c _ s rfl,countB_parts] at ct
 have HC:=Bx ((show Calls EW 215 #[ZY s,ZY ⟨#[c]⟩,ZZ ZS 0,ZZ ZS (-1)] w _ from ct).mono (R':=λe w'=>∃n k,e=.returned (ZX (some ⟨w.heap.size,0,none⟩) n k)/\n=(parts c s.data.toList).length/\Strs w' (some ⟨w.heap.size,0,none⟩) n ((parts c s.data.toList).map ba)/\w.heap.size<w'.heap.size/\Below w.heap.size w w') (by rintro e w' ⟨rfl,rfl⟩;exact ⟨_,_,rfl,rfl,Strs.made w _ rfl _ _ _ (by rw [Cw]),by simp,(An _ _).alloc (Db _) _⟩))
 clear ct e2 hle hlen;go_enter Tryz.func191,Tryz.ntmps191
 go_wp2_with (go_at_call 215;with_reducible refine HC.out.mono ?_;rintro e w' ⟨n,k,rfl,rfl,hS,hg,hb⟩);go_ret;exact ⟨_,_,rfl,rfl,hS,hg,hb⟩
theorem split_any (s:ByteArray) (w:World) (hs:s.size<4294967281) :
 Calls EW 191 #[ZY s,ZY ⟨#[44]⟩] w λe w'=>∃n c,e=.returned (ZX (some ⟨w.heap.size,0,none⟩) n c)/\n=(parts 44 s.data.toList).length/\Strs w' (some ⟨w.heap.size,0,none⟩) n ((parts 44 s.data.toList).map ba)/\w.heap.size<w'.heap.size/\Below w.heap.size w w':=split_at 44 s w hs
theorem XXOmL {P:Prop} (h:P:=by
 intro v' w' hown' hgr _ hloc;have hown2:w'.ownsRow w.heap.size 9 1 v' (L.length+(j+1)) ((L++(P.map trim).take (j+1)).map Value.string):=by rw [HS1.out];simpa [List.append_assoc,Nat.add_assoc] using hown'
 have H2:=Bx hown2
 have H3:=Bx ((hbq.out.alloc hbq.out.size _).grown hgr (by have:=hbq.out.size;simp;omega) (own_base hown.out))
 have H4:=Bx ((hSq.out.below ((An _ _).alloc (Db _) _)).grown hgr (λe=>hne.out _ e rfl))
 have H5:=Bx (show∀g,v'.ownBlock=some g->g≠B from λg hg=>by
  rcases hloc with h | h
  ·exact hne.out g (h ▸ hg)
  ·rw [h] at hg;cases hg;simp;omega)
 have H6:w1.heap.size<=w'.heap.size:=by have:=hgr.size;simp at this;omega
 clear hown' hgr hown2 hloc;go_wp2;go_roundw
 case rel=>exact ⟨j+1,by omega,by go_num,H6,H2,H3,H5,H4⟩
 case measure=>simp [intOf];omega):P:=h
theorem XX1YI {P:Prop} (h:P:=by
 obtain rfl:j=n1:=by omega
 have hown2:=hown.out;rw [CN (by rw [Cw];omega),←hpm.out] at hown2
 have H2:Hid (wr.ownsRow w.heap.size 9 1 u3 (L++partsOf x).length ((L++partsOf x).map Value.string)):=Bx (by rw [Cr,hpl];rw [hn1] at hown2;exact hown2);rw [←hsn.out] at H2;clear hown hown2;go_wp2;go_roundw
 case rel=>exact ⟨k+1,by omega,by go_num,H2,hbq⟩
 case measure=>simp [intOf];omega):P:=h
theorem XXL2M {P:Prop} (h:P:=by
 obtain rfl:k=n:=by omega
 have hown1:=hown.out;rw [CN (by rw [HL.out];omega)] at hown1;have H1:=Bx hown1;clear hown1 hown;go_wp2;go_ret
 exact ⟨_,rfl,H1.out,hbr.out⟩):P:=h
theorem XX3G6 {P:Prop} (h:P:=by
 have:j<P.length:=by omega
 rw [Ca this]
 have:=hps.out _ (Ci this);show P[j].size<=_
 unfold maxLen;omega):P:=h
theorem list_own (a:Option Addr) (n cap:Nat) (vs:List ByteArray) (w:World) (hv:Strs w a n vs) (hr:room vs<=1000000000) :
 Calls EW 163 #[.slice a n cap] w λe w'=>∃v,e=.returned v/\w'.ownsRow w.heap.size 9 1 v (list vs).length ((list vs).map Value.string)/\Below w.heap.size w w':=by
 have hle:=list_le vs;have hnr:=len_room vs;rw [hv.1] at hnr;have HV:=Bx hv;have HL:=Bx hv.1;clear hv;obtain ⟨i0,hi,hz0,hz1,hz2⟩:=info_parts text_info;have G1:=Bx hi;have G2:=Bx hz0;have G3:=Bx hz1;have G4:=Bx hz2;clear hi hz0 hz1 hz2;go_enter Tryz.func163,Tryz.ntmps163;go_wp2
 go_loopw [3,10] (λv i wr=>∃k:Nat,k<=n/\i=ZZ ZS k/\Hid (wr.ownsRow w.heap.size 9 1 v (list (vs.take k)).length ((list (vs.take k)).map Value.string))/\Hid (Below w.heap.size w wr)) (λ_ i _=>n-(intOf i).toNat)
 case atStart=>exact ⟨0,Dj _,rfl,Bx ⟨rfl,.inl ⟨rfl,rfl⟩⟩,Bx (An _ _)⟩
 case round=>
  obtain ⟨k,hk,rfl,hown,hbr⟩:=hrel;rcases Dg k n with hlt | hge
  ·obtain ⟨bl,off,rfl,_,hc⟩:=(HV.out.below hbr.out).2 (by omega);have hck:=hc k hlt
   have hsn:=Bx (list_snoc vs k (by rw [HL.out];exact hlt))
   have hle1:=list_take_le vs (k+1);rw [hsn.out,Cr] at hle1;have hsz:(vs[k]?.getD A8).size<4294967281:=by
    have:k<vs.length:=by rw [HL.out];exact hlt
    rw [Ca this];have h2:(vs[k].size+1)<=room vs:=by exact room_mem vs _ (Ci _)
    show vs[k].size < _;omega
   clear hc;generalize vs[k]?.getD A8=x at *
   have HP:=Bx (split_any x wr hsz)
   have hpm:=Bx (partsOf_map x);have hpl:(partsOf x).length=((parts 44 x.data.toList).map ba).length:=by rw [hpm.out,Cw]
   have hp0:((parts 44 x.data.toList).map ba).length=(parts 44 x.data.toList).length:=Cw _;rw [←hp0] at HP
   have hps:=Bx (show∀y∈(parts 44 x.data.toList).map ba,y.size<4294967281 from λy hy=>by obtain ⟨l,hl,rfl⟩:=List.mem_map.1 hy;have:=parts_size 44 _ l hl;rw [len] at this;rw [ba_size];omega)
   generalize (parts 44 x.data.toList).map ba=P at *;clear hp0;generalize list (vs.take k)=L at *
   go_wp2_with (go_at_call 191;with_reducible refine HP.out.mono ?_;rintro e w1 ⟨n1,c1,rfl,hn1,hS,hg1,hb1⟩)
   have hB1:=Bx (Base.below_step hbr.out hb1)
   have hown1:=Bx (own_below hown.out hb1);have hS':=Bx hS
   have hne:=Bx (show∀g,u3.ownBlock=some g->g≠wr.heap.size from λg hg=>by have:=(hown.out.lt g hg).2;omega);generalize wr.heap.size=B at *;clear hS hb1 HP hown hbr
   go_loopw [3,17] (λv i wq=>∃j:Nat,j<=n1/\i=ZZ ZS j/\w1.heap.size<=wq.heap.size/\Hid (wq.ownsRow w.heap.size 9 1 v (L.length+j) ((L++(P.map trim).take j).map Value.string))/\Hid (Below w.heap.size w wq)/\Hid (∀g,v.ownBlock=some g->g≠B)/\Hid (Strs wq (some ⟨B,0,none⟩) n1 P)) (λ_ i _=>n1-(intOf i).toNat)
   case atStart=>exact ⟨0,Dj _,rfl,Db _,by rw [List.take_zero,BH];exact hown1,hB1,hne,hS'⟩
   case round=>
    obtain ⟨j,hj,rfl,hsz,hown,hbq,hne,hSq⟩:=hrel;rcases Dg j n1 with hlj | hgj
    ·obtain ⟨bs,os,e,hbs,hc⟩:=hSq.out.2 (by omega);obtain ⟨rfl,rfl⟩:B=bs/\0=os:=by simpa using e
     have hcj:=hc j hlj;rw [Di] at hcj
     have HS1:=Bx (map_snoc trim A8 P j (by omega));clear hc e;have hys:(P[j]?.getD A8).size<=maxLen:=by exact XX3G6
     generalize P[j]?.getD A8=y at *
     have HT:=Bx (λw=>trim_any y w hys);clear hys
     go_wp2_with (first
      |(go_at_call 192;with_reducible refine Cm (HT.out _) ?_)
      |(at_builtin;(refine wpList_append_own_at _ rfl _ _ 124 rfl w.heap.size 9 i0 (.string A8) 1 16 Tryz.underlying124 G1.out G2.out G3.out G4.out rfl (by decide) _ _ _ rfl (hown.out.alloc _) ⟨wr.heap.size,0,none⟩ 1 1 [.string (trim y)] rfl rfl ?c1 ?c2 ?c3 ?c4 ?c5 ?_)))
     case c1=>exact news_one wr _ _
     case c2=>intro u hu;obtain rfl:u=ZY (trim y):=by simpa using hu
              rfl
     case c3=>unfold maxLen;omega
     case c4=>omega
     case c5=>have:=hbq.out.size;simp;omega
     exact XXOmL
    ·exact XX1YI
  ·exact XXL2M
theorem list_any (a:Option Addr) (n cap:Nat) (vs:List ByteArray) (w:World) (hv:Strs w a n vs) (hr:room vs<=1000000000) :
 Calls EW 163 #[.slice a n cap] w λe w'=>∃b m c,e=.returned (.slice b m c)/\m=(list vs).length/\Strs w' b m (list vs)/\Below w.heap.size w w':=
 (list_own a n cap vs w hv hr).mono (by
   rintro e w' ⟨v,rfl,ho,hb⟩;obtain ⟨A,c,rfl,hA⟩:=Strs.of_own ho;exact ⟨A,_,c,rfl,rfl,hA,hb⟩)
end
end Go.Proofs.YtdfabddnpgjepaaGreatDoor.Txt
namespace Go.Proofs.YtdfabddnpgjepaaGreatDoor.Txt
open Go.RowKit Base Oct
theorem ba_beq (a b:ByteArray):(a.toList==b.toList)=decide (a=b):=by rw [B9,B9,Au,beq_iff_eq,decide_eq_true_eq];exact ⟨ba_ext,λh=>by rw [h]⟩
theorem toList_iff (a b:ByteArray):a.toList=b.toList↔a=b:=by rw [B9,B9];exact ⟨ba_ext,λh=>by rw [h]⟩
theorem _root_.Go.Proofs.YtdfabddnpgjepaaGreatDoor.XXzUO {P:Prop} (h:P:=by
 rw [CO hx,CO hy,h];rw [Ca hx,Ca hy] at e
 congr 2):P:=h
theorem take_eq_snoc {α:Type} (d:α) (xs ys:List α) (k:Nat) (hx:k<xs.length) (hy:k<ys.length) (h:xs.take k=ys.take k) (e:xs[k]?.getD d=ys[k]?.getD d):xs.take (k+1)=ys.take (k+1):=by exact XXzUO
theorem ne_of_at {α:Type} (d:α) (xs ys:List α) (k:Nat) (e:¬xs[k]?.getD d=ys[k]?.getD d):xs≠ys:=λh=>e (by rw [h])
theorem neq_field (x y:Fld) (w:World):(binOp .neq 126 (ZU #[ZY x.1,ZY x.2]) (ZU #[ZY y.1,ZY y.2])).run EW w=.ok (ZW (!decide (x=y))) w:=by
 have u9:=F8;have a9:=Tryz.isAgg9;have z9:=Tryz.sizeOf9;have hS:EW.underlying 126=some (.struct (EW.fieldsOf 126)):=by kernel_rfl
 have hp:EW.stoodInHeld 126=false:=by kernel_rfl
 obtain ⟨x1,x2⟩:=x;obtain ⟨y1,y2⟩:=y;rw [run_neq_struct,show (10000:Nat)=9999+1 from rfl,run_equalIn_agg w 9999 126 _ _ hS hp];simp only [Program.fieldsOf,Tryz.underlying126];go_simp;by_cases h1:x1=y1<;>by_cases h2:x2=y2<;>simp [h1,h2,toList_iff]
theorem guard_field (op:BinOp) (a b:Operand) (x y:Fld) (w:World):(eqGuard op 126 a b (ZU #[ZY x.1,ZY x.2]) (ZU #[ZY y.1,ZY y.2])).run EW w=.ok () w:=
 run_eqGuard_agg w op 126 a b _ _ (by kernel_rfl)
section
set_option maxHeartbeats 1000000
theorem rfields_any (a:Option Addr) (n cap:Nat) (xs:List Fld) (b:Option Addr) (m cap2:Nat) (ys:List Fld) (w:World) (hx:Flds w a n xs) (hy:Flds w b m ys) (hn:n<=1000000000) (hm:m<=1000000000) :
 Calls EW 56 #[.slice a n cap,.slice b m cap2] w λe w'=>e=.returned (ZW (decide (xs=ys)))/\∃q,w'=w.drewN q:=by
 have HX:=Bx hx;have HY:=Bx hy;have HLX:=Bx hx.1;have HLY:=Bx hy.1;clear hx hy;by_cases hl:n=m
 ·subst hl;go_enter Tryz.func56,Tryz.ntmps56;go_wp2
  go_loopw [5] (λi wr=>∃k q:Nat,k<=n/\i=ZZ ZS k/\wr=w.drewN q/\Hid (xs.take k=ys.take k)) (λi _=>n-(intOf i).toNat)
  case atStart=>exact ⟨0,0,Dj _,rfl,rfl,Bx rfl⟩
  case round=>
   obtain ⟨k,q,hk,rfl,rfl,hsm⟩:=hrel;rcases Dg k n with hlt | hge
   ·obtain ⟨b1,o1,rfl,_,hc⟩:=HX.out.2 (by omega);obtain ⟨hc0,hc1⟩:=hc k hlt;clear hc
    obtain ⟨b2,o2,rfl,_,hd⟩:=HY.out.2 (by omega);obtain ⟨hd0,hd1⟩:=hd k hlt;clear hd;have i1:(k:Int)<(n:Int):=by omega
    have hnq:=neq_field (xs[k]?.getD dflt) (ys[k]?.getD dflt)
    have hgd:=λop a b=>guard_field op a b (xs[k]?.getD dflt) (ys[k]?.getD dflt);by_cases he:xs[k]?.getD dflt=ys[k]?.getD dflt
    ·have hT:=Bx (take_eq_snoc dflt xs ys k (by rw [HLX.out];exact hlt) (by rw [HLY.out];exact hlt) hsm.out he);rw [he,decide_eq_true rfl] at hnq;rw [he] at hgd hc0 hc1;clear he;generalize (ys[k]?.getD dflt)=y at *;go_wp2_with fail
     go_quiet (fail);rename_i nq;go_wp2;go_roundw
     case rel=>first | exact ⟨k+1,q+nq,by omega,by go_num,(World.drewN_drewN _ _ _).symm ▸ rfl,hT⟩ | exact ⟨k+1,q+nq,by omega,by go_num,by rw [World.drewN_drewN],hT⟩ | exact ⟨k+1,q+nq,by omega,by go_num,rfl,hT⟩
     case measure=>simp [intOf];omega
    ·rw [decide_eq_false he] at hnq
     have hF:=Bx (ne_of_at dflt xs ys k he);clear he;generalize (xs[k]?.getD dflt)=x at *;generalize (ys[k]?.getD dflt)=y at *;go_wp2_with fail
     go_quiet (fail);rename_i nq;go_wp2;go_ret;refine ⟨by rw [decide_eq_false hF.out];rfl,q+nq,?_⟩;first | rfl | rw [World.drewN_drewN]
   ·obtain rfl:k=n:=by omega
    go_wp2;go_ret;have e:=hsm.out;rw [CN (by rw [HLX.out];exact Db _),CN (by rw [HLY.out];exact Db _)] at e;refine ⟨by rw [decide_eq_true e];rfl,q,rfl⟩
 ·have hne:xs≠ys:=λh=>hl (by rw [←HLX.out,←HLY.out,h]);have hl':¬(n:Int)=(m:Int):=by omega
  have HN:=Bx hne;clear hne;go_enter Tryz.func56,Tryz.ntmps56;go_wp2;go_ret;exact ⟨by rw [decide_eq_false HN.out];rfl,0,rfl⟩
end
end Go.Proofs.YtdfabddnpgjepaaGreatDoor.Txt
namespace Go.Proofs.YtdfabddnpgjepaaGreatDoor.Tgt
open Go.RowKit Base Oct Num Txt
def nameMarks:List UInt8:= [45,46,95,126]
def pathMarks:List UInt8:= [45,46,95,126,33,36,38,39,40,41,42,43,44,59,61,58,64,47]
def queryMarks:List UInt8:= [45,46,95,126,33,36,38,39,40,41,42,43,44,59,61,58,64,47,63]
def plainB (ms:List UInt8) (c:UInt8):Bool:=Oct.letter (c.toNat:Int)||Oct.digit (c.toNat:Int)||ms.contains c
def hexB (c:UInt8):Bool:=Oct.isHex (c.toNat:Int)
theorem hex_plain_tab:∀k:Fin 256,hexB (UInt8.ofNat k.val)=true->plainB [] (UInt8.ofNat k.val)=true/\UInt8.ofNat k.val≠37:=by decide +kernel
theorem hex_plain (ms:List UInt8) (c:UInt8) (h:hexB c=true):plainB ms c=true/\c≠37:=by
 have e:UInt8.ofNat c.toNat=c:=by simp
 have:=hex_plain_tab ⟨c.toNat,c.toNat_lt⟩;simp only [e] at this;obtain ⟨h1,h2⟩:=this h;refine ⟨?_,h2⟩;simp only [plainB,List.contains_nil,Bool.or_false] at h1;simp only [plainB,h1,Bool.true_or]
def okAt (ms:List UInt8) (c:UInt8):List UInt8->Bool
 | a::b :: _=>if c=37 then hexB a&&hexB b else plainB ms c
 | _=>plainB ms c
def written (ms:List UInt8):List UInt8->Bool
 | []=>true
 | c::r=>okAt ms c r&&written ms r
theorem okAt_plain (ms:List UInt8) (c:UInt8) (r:List UInt8) (h:c≠37):okAt ms c r=plainB ms c:=by
 unfold okAt;split
 ·rw [if_neg h]
 ·rfl
theorem no_pct {ms:List UInt8} (h:ms.contains 37=false):plainB ms 37=false:=by simp only [plainB,h,Bool.or_false];decide
theorem written_plain {ms:List UInt8} (hm:ms.contains 37=false) (c:UInt8) (r:List UInt8) (h:plainB ms c=true):written ms (c::r)=written ms r:=by
 have hc:c≠37:=λe=>by rw [e,no_pct hm] at h;cases h
 rw [written,okAt_plain ms c r hc,h,A5]
theorem written_pct {ms:List UInt8} (a b:UInt8) (r:List UInt8):written ms (37::a::b::r)=((hexB a&&hexB b)&&written ms r):=by
 rw [written,okAt,if_pos rfl];cases ha:hexB a with
 | false=>rfl
 | true=>
   cases hb:hexB b with
   | false=>rfl
   | true=>
     rw [written,written,okAt_plain ms a _ (hex_plain ms a ha).2,okAt_plain ms b _ (hex_plain ms b hb).2,(hex_plain ms a ha).1,(hex_plain ms b hb).1];rfl
theorem written_not {ms:List UInt8} (c:UInt8) (r:List UInt8) (h:plainB ms c=false) (hc:c≠37∨r.length<2):written ms (c::r)=false:=by
 rw [written];have:okAt ms c r=false:=by
  rcases hc with hc | hc
  ·rw [okAt_plain ms c r hc];exact h
  ·match r,hc with
   | [],_=>exact h
   | [a],_=>exact h
 rw [this];rfl
def nameOk (l:List UInt8):Bool:=!l.isEmpty&&(decide (l.length<=255)&&l.all (plainB nameMarks))
def portOk (l:List UInt8):Bool:=decide (l.length<=5)&&decide ((readOf 10 65535 l).2=0)
def hostB (l:List UInt8):Bool:=nameOk (cutAt 58 l).1&&(!(cutAt 58 l).2.2||portOk (cutAt 58 l).2.1)
def pathB (l:List UInt8):Bool:=decide (l.head?=some 47)&&written pathMarks l
def queryB (l:List UInt8):Bool:=written queryMarks l
theorem port_no_colon {l:List UInt8} (h:portOk l=true):(58:UInt8)∉l:=by
 intro hm;simp only [portOk,Ao,decide_eq_true_eq] at h;have hall:l.all (digitOf 10)=false:=by rw [List.all_eq_false];exact ⟨58,hm,by decide +kernel⟩
 rw [readOf,hall] at h;simp at h
structure Tg where
 form:Nat
 host:List UInt8
 path:List UInt8
 query:List UInt8
 asked:Bool
deriving DecidableEq
def none':Tg:=⟨0,[],[],[],false⟩
def ended (c:UInt8):Bool:=c==47||c==63
def http:List UInt8:= [104,116,116,112,58,47,47]
def origin (l:List UInt8):Option Tg:=if (pathB (cutAt 63 l).1&&queryB (cutAt 63 l).2.1)=true then some ⟨1,[],(cutAt 63 l).1,(cutAt 63 l).2.1,(cutAt 63 l).2.2⟩ else none
def slashed (l:List UInt8):List UInt8:=if l.head?=some 47 then l else 47::l
def hostOf (l:List UInt8):List UInt8:=l.takeWhile λc=>!ended c
def restOf (l:List UInt8):List UInt8:=l.dropWhile λc=>!ended c
def absolute (l:List UInt8):Option Tg:=
 match origin (slashed (restOf l)) with
 | none=>none
 | some t=>if hostB (hostOf l)=true then some ⟨2,hostOf l,t.path,t.query,t.asked⟩ else none
def authority (l:List UInt8):Option Tg:=if (l.contains 58&&hostB l)=true then some ⟨3,l,[],[],false⟩ else none
def connect:List UInt8:= [67,79,78,78,69,67,84]
def options:List UInt8:= [79,80,84,73,79,78,83]
def schemed (l:List UInt8):Bool:=decide (7<=l.length)&&(low (l.take 7)==low http)
def parse (m l:List UInt8):Option Tg:=
 if m=connect then authority l
 else if m=options/\l= [42] then some ⟨4,[],[],[],false⟩
 else if l.head?=some 47 then origin l
 else if schemed l=true then absolute (l.drop 7)
 else none
def putPath (t:Tg):List UInt8:=if t.asked=true then t.path++63::t.query else t.path
def put (t:Tg):List UInt8:=
 if t.form=1 then putPath t
 else if t.form=2 then http++(t.host++putPath t)
 else if t.form=3 then t.host
 else if t.form=4 then [42]
 else []
theorem putPath_origin {l:List UInt8} {t:Tg} (h:origin l=some t):putPath t=l/\t.form=1/\t.host= []:=by
 unfold origin at h;split at h
 ·obtain rfl:=Du.inj h;refine ⟨?_,rfl,rfl⟩;unfold putPath;rcases cut_cases 63 l with h1 | ⟨a,r,rfl,h1⟩
  ·simp only [cutAt_none 63 l h1];rfl
  ·simp only [cutAt_app 63 a r h1];rfl
 ·cases h
theorem host_cut (p:UInt8->Bool) (h r:List UInt8) (c:UInt8) (hh:∀x∈h,p x=true) (hc:p c=false):(h++c::r).takeWhile p=h/\(h++c::r).dropWhile p=c::r:=by
 induction h with
 | nil=>simp [hc]
 | cons x h ih=>
   obtain ⟨i1,i2⟩:=ih λy hy=>hh y (by simp [hy])
   have hx:=hh x (by simp);simp only [List.cons_append,List.takeWhile_cons,List.dropWhile_cons,hx,if_true];exact ⟨by rw [i1],i2⟩
end Go.Proofs.YtdfabddnpgjepaaGreatDoor.Tgt
namespace Go.Proofs.YtdfabddnpgjepaaGreatDoor.Tgt
open Go.RowKit Base Oct Num Txt
def ends2:ByteArray:=⟨#[47,63]⟩
theorem encode_two (r:Nat) (h1:128<=r) (h2:r<2048):∃a b:UInt8,Utf8.encode (r:Int)=⟨#[a,b]⟩/\128<=b.toNat:=by
 have hv:Utf8.valid (r:Int)=true:=by rw [validRune_eq];simp only [validRune,decide_eq_true_eq];omega
 refine ⟨UInt8.ofNat (0xC0+r/64),UInt8.ofNat (0x80+r%64),?_,?_⟩
 ·unfold Utf8.encode;have e:((r:Int)).toNat=r:=by omega
  simp only [hv,if_true,e];rw [if_neg (by omega),if_pos (by omega)]
 ·rw [UInt8.toNat_ofNat_of_lt' (by show _<256;omega)];omega
theorem encode_more (r:Nat) (h2:2048<=r):3<=(Utf8.encode (r:Int)).size/\(Utf8.encode (r:Int)).size<=4:=by
 have e:((r:Int)).toNat=r:=by omega
 unfold Utf8.encode;simp only [e];split
 ·rw [if_neg (by omega),if_neg (by omega)];split
  ·exact ⟨by show 3<=3;omega,by show 3<=4;omega⟩
  ·exact ⟨by show 3<=4;omega,by show 4<=4;omega⟩
 ·rw [if_neg (by decide),if_neg (by decide),if_pos (by decide)];exact ⟨by show 3<=3;omega,by show 3<=4;omega⟩
section
set_option maxHeartbeats 2000000
set_option maxRecDepth 100000
theorem indexRune_err (w:World):Calls EW 322 #[ZY ⟨#[47,63]⟩,.int .i32 65533] w λe w'=>e=.returned (ZZ ZS (-1))/\Below w.heap.size w w':=by
 go_enter Tryz.func322,Tryz.ntmps322;go_wp2
 go_loopg [5,6] 2 (λg _ _ wx=>∃i:Nat,i+g=2/\wx=w.iter ⟨#[47,63]⟩ i)
 case atStart=>exact ⟨0,rfl,rfl⟩
 case round=>
  obtain ⟨i,hig,rfl⟩:=hrel;cases gk with
  | zero=>
    obtain rfl:i=2:=by omega
    have hnx:=λty=>run_next_end (P:=EW) w ⟨#[47,63]⟩ 2 ty (by decide);go_wp2;go_ret;exact XXkPs
  | succ g=>
    rcases (by omega:i=0∨i=1) with rfl | rfl
    ·have hnx:=λty=>run_next_ascii (P:=EW) w ⟨#[47,63]⟩ 0 ty (by decide) (by decide);rw [show ((ByteArray.mk #[47,63])[0]'(by decide)).toNat=47 from rfl] at hnx;go_wp2;go_roundg g
     case measure=>omega
     case rel=>exact ⟨1,by omega,rfl⟩
    ·have hnx:=λty=>run_next_ascii (P:=EW) w ⟨#[47,63]⟩ 1 ty (by decide) (by decide);rw [show ((ByteArray.mk #[47,63])[1]'(by decide)).toNat=63 from rfl] at hnx;go_wp2;go_roundg g
     case measure=>omega
     case rel=>exact ⟨2,by omega,rfl⟩
theorem XXW2P {P:Prop} (h:P:=by
 go_wp2_with fail;rw [Exit.noGoto_ret];show bodyPost EW Tryz.f322 (λe w'=>e=.returned (ZZ ZS (-1))/\Below wr.heap.size wr w') Exit.ret _ _;go_ret;first
  |exact ⟨rfl,Base.below_drewN hbq.out _⟩
  |exact ⟨rfl,An _ _⟩):P:=h
theorem indexRune_high (r:Nat) (w:World) (h1:128<=r) (hv:Lib.validRune (r:Int)=true) :
 Calls EW 322 #[ZY ⟨#[47,63]⟩,.int .i32 (r:Int)] w λe w'=>e=.returned (ZZ ZS (-1))/\Below w.heap.size w w':=by
 by_cases he:r=65533
 ·subst he;exact indexRune_err w
 have t1:¬(r:Int)<128:=by omega
 have t2:((r:Int)==65533)=false:=beq_eq_false_iff_ne.2 (by omega);rcases Dg r 2048 with hr | hr
 ·obtain ⟨a,b,hE,hb⟩:=encode_two r h1 hr
  have t3:((63:Int) !=(b.toNat:Int))=true:=bne_iff_ne.2 (by omega);clear hr;have hcv:∀w,(convert 21 9 (.int .i32 (r:Int))).run EW w=.ok (.string ⟨#[a,b]⟩) w:=λw=>by rw [run_convert_int_string w 21 9 .i32 (r:Int) (by rw [Tryz.underlying21];rfl) F8,hE]
  have m2:IntKind.i64.wrap 2=2:=by decide
  have e0:(2:Int)<=((ByteArray.mk #[47,63]).size:Int):=by decide
  have hib:=Bx (λw=>(Tryz.strings_IndexByte A8 (b.toNat:Int) w).mono (R:=λe w'=>e=.returned (ZZ ZS (-1))/\w'=w) λ_ _ h=>h);have e1:∀h,((ByteArray.mk #[47,63])[1]'h).toNat=63:=λ_=>rfl;have e2:∀h,((ByteArray.mk #[a,b])[1]'h)=b:=λ_=>rfl;go_enter Tryz.func322,Tryz.ntmps322
  go_wp2_with (go_at_call 330;with_reducible refine (Tryz.utf8_ValidRune _ _).mono ?_;rintro e w1 ⟨rfl,hw⟩;rw [hw,hv];clear hw);go_step3;go_wp2
  go_loopw [9,10] (λi f wr=>i=ZZ ZS 1/\f=ZZ ZS 0/\wr=w) (λ_ _ _=>1)
  case atStart=>exact ⟨rfl,rfl,rfl⟩
  case round=>
   obtain ⟨rfl,rfl,rfl⟩:=hrel;go_wp2_with fail;go_step3;go_wp2_with fail
   go_quiet (fail);rename_i nq
   have hbq:=Bx (show Below wr.heap.size wr (wr.drewN nq) from Base.below_drewN (An _ _) nq);generalize wr.drewN nq=wq at *;go_wp2_with fail
   go_quiet ((go_at_call 329;exact Calls.quiet_of_same (hib.out _)));rename_i nq2;exact XXW2P
 ·obtain ⟨hz1,hz2⟩:=encode_more r hr;generalize hE:Utf8.encode (r:Int)=E at *;have hcv:∀w,(convert 21 9 (.int .i32 (r:Int))).run EW w=.ok (ZY E) w:=λw=>by
   rw [run_convert_int_string w 21 9 .i32 (r:Int) (by rw [Tryz.underlying21];rfl) F8,hE]
  clear hE;obtain ⟨n,hn⟩:∃n:Nat,E.size=n+1:=⟨E.size-1,by omega⟩;have m1:IntKind.i64.wrap ((E.size:Int)-1)=(n:Int):=by rw [wrap_in _ (by omega) (by omega)];omega
  have hn2:n=2∨n=3:=by omega
  clear hn hz1 hz2 hr;rcases hn2 with rfl | rfl
  ·go_enter Tryz.func322,Tryz.ntmps322
   go_wp2_with (go_at_call 330;with_reducible refine (Tryz.utf8_ValidRune _ _).mono ?_;rintro e w1 ⟨rfl,hw⟩;rw [hw,hv];clear hw);go_step3;go_wp2
   go_loopw [9,10] (λi f wr=>i=ZZ ZS 2/\wr=w) (λ_ _ _=>1)
   case atStart=>exact ⟨rfl,rfl⟩
   case round=>obtain ⟨rfl,rfl⟩:=hrel;exact XXW2P
  ·go_enter Tryz.func322,Tryz.ntmps322
   go_wp2_with (go_at_call 330;with_reducible refine (Tryz.utf8_ValidRune _ _).mono ?_;rintro e w1 ⟨rfl,hw⟩;rw [hw,hv];clear hw);go_step3;go_wp2
   go_loopw [9,10] (λi f wr=>i=ZZ ZS 3/\wr=w) (λ_ _ _=>1)
   case atStart=>exact ⟨rfl,rfl⟩
   case round=>obtain ⟨rfl,rfl⟩:=hrel;exact XXW2P
end
end Go.Proofs.YtdfabddnpgjepaaGreatDoor.Tgt
namespace Go.Proofs.YtdfabddnpgjepaaGreatDoor.Tgt
open Go.RowKit Base Oct Num Txt
theorem idx_split:∀l:List UInt8,(Lib.indexAny l [47,63]= -1/\hostOf l=l/\restOf l= [])∨∃i:Nat,i<l.length/\Lib.indexAny l [47,63]=(i:Int)/\hostOf l=l.take i/\restOf l=l.drop i
 | []=>.inl ⟨rfl,rfl,rfl⟩
 | b::l=>by
   have hb: [47,63].contains b=ended b:=by rw [List.contains_cons,List.contains_cons,List.contains_nil,Bool.or_false];rfl
   have e:Lib.indexAny (b::l) [47,63]=if [47,63].contains b then 0 else if Lib.indexAny l [47,63] == -1 then -1 else Lib.indexAny l [47,63]+1:=rfl
   have e1:hostOf (b::l)=if (!ended b)=true then b::hostOf l else []:=by unfold hostOf;rw [List.takeWhile_cons]
   have e2:restOf (b::l)=if (!ended b)=true then restOf l else b::l:=by unfold restOf;rw [List.dropWhile_cons]
   rw [e,e1,e2,hb];cases ended b with
   | true=>exact .inr ⟨0,by simp,rfl,rfl,rfl⟩
   | false=>
     simp only [Bool.not_false,if_true,Aw,if_false];rcases idx_split l with ⟨h1,h2,h3⟩ | ⟨i,h0,h1,h2,h3⟩
     ·exact .inl ⟨by rw [h1];rfl,by rw [h2],h3⟩
     ·refine .inr ⟨i+1,by simp;omega,?_,by rw [h2];rfl,by rw [h3];rfl⟩;rw [h1,if_neg (by simp)];omega
theorem decodeN_tail (n b0 b1 b2 b3:Nat) (hn:1<=n):1<=(Lib.decodeN n b0 b1 b2 b3).2/\(Lib.decodeN n b0 b1 b2 b3).2<=n/\(Lib.decodeN n b0 b1 b2 b3).2<=4/\(1<(Lib.decodeN n b0 b1 b2 b3).2->128<=b1)/\(2<(Lib.decodeN n b0 b1 b2 b3).2->128<=b2)/\(3<(Lib.decodeN n b0 b1 b2 b3).2->128<=b3):=by
 unfold Lib.decodeN
 repeat' split
 all_goals (simp only;omega)
theorem get_lt (s:ByteArray) (k:Nat) (h:k<s.size):s.get! k=s[k]:=by simp [ByteArray.get!,getElem!_pos,h];rfl
theorem rune_high (s:ByteArray) (pos k:Nat) (h:pos<s.size) (h0:128<=(s[pos]'h).toNat) (h1:pos<=k) (h2:k<pos+(FO s pos).2):∃hk:k<s.size,128<=(s[k]'hk).toNat:=by
 rw [Lib.decode_at] at h2
 obtain ⟨_,a2,a3,a4,a5,a6⟩:=decodeN_tail (s.size-pos) (s.get! pos).toNat (s.get! (pos+1)).toNat (s.get! (pos+2)).toNat (s.get! (pos+3)).toNat (by omega);have hk:k<s.size:=by omega
 refine ⟨hk,?_⟩;rw [←get_lt s k hk];rcases (by omega:k=pos∨k=pos+1∨k=pos+2∨k=pos+3) with rfl | rfl | rfl | rfl
 ·rw [get_lt s _ h];exact h0
 ·exact a4 (by omega)
 ·exact a5 (by omega)
 ·exact a6 (by omega)
theorem rune_valid_at (s:ByteArray) (pos:Nat):Lib.validRune ((FO s pos).1:Int)=true:=by have h:=Lib.decodeN_valid (s.size-pos) (s.get! pos).toNat (s.get! (pos+1)).toNat (s.get! (pos+2)).toNat (s.get! (pos+3)).toNat (UInt8.toNat_lt _);rw [←Lib.decode_at] at h;simp only [Lib.validRune,decide_eq_true_eq];omega
theorem next_at {P:Program} (w:World) (g:Nat) (s:ByteArray) (pos:Nat) (ty:TypeId) (h:pos<s.size) (hg:w.heap[g]?=some (.stringIter s pos)) :
 (Instr.next (ZV (some ⟨g,0,none⟩)) true ty).run P w=.ok (ZT #[ZW true,ZZ ZS pos,.int .i32 (FO s pos).1]) {w with heap:=w.heap.setIfInBounds g (.stringIter s (pos+(FO s pos).2))}:=by
 have hgl:g<w.heap.size:=by
  rcases Dg g w.heap.size with h | h
  ·exact h
  ·rw [Array.getElem?_eq_none h] at hg;cases hg
 simp [Instr.next,getObj,setObj,Sem.run_bind,Sem.run,hg,Result.andThen,h,goInt]
theorem next_last {P:Program} (w:World) (g:Nat) (s:ByteArray) (pos:Nat) (ty:TypeId) (h:¬pos<s.size) (hg:w.heap[g]?=some (.stringIter s pos)) :
 (Instr.next (ZV (some ⟨g,0,none⟩)) true ty).run P w=.ok (ZT #[ZW false]) w:=by
 simp [Instr.next,getObj,Sem.run,hg,h]
theorem below_iter {B:Nat} {w0 w:World} (h:Below B w0 w) (g:Nat) (hg:B<=g) (o:Obj):Below B w0 {w with heap:=w.heap.setIfInBounds g o}:=by
 refine ⟨h.os,h.tape,h.output,?_,λk hk=>?_⟩
 ·simpa using h.size
 ·rw [Array.getElem?_setIfInBounds_ne (by omega)];exact h.block k hk
theorem next_world {P:Program} (w0 w:World) (g:Nat) (s:ByteArray) (pos:Nat) (h:pos<s.size) (hg:w.heap[g]?=some (.stringIter s pos)) (hb:Below g w0 w) :
 ∃W,(∀ty,(Instr.next (ZV (some ⟨g,0,none⟩)) true ty).run P w=.ok (ZT #[ZW true,ZZ ZS pos,.int .i32 (FO s pos).1]) W)/\W.heap[g]?=some (.stringIter s (pos+(FO s pos).2))/\g<W.heap.size/\Below g w0 W:=by
 have hgl:g<w.heap.size:=by
  rcases Dg g w.heap.size with h | h
  ·exact h
  ·rw [Array.getElem?_eq_none h] at hg;cases hg
 exact ⟨_,λty=>next_at w g s pos ty h hg,by simp [hgl],by simpa using hgl,below_iter hb g (Db _) _⟩
section
set_option maxHeartbeats 8000000
set_option maxRecDepth 1000000
theorem indexAny_short (s:ByteArray) (w:World) (h8:s.size<=8) :
 Calls EW 308 #[ZY s,ZY ⟨#[47,63]⟩] w λe w'=>e=.returned (ZZ ZS (Lib.indexAny s.data.toList [47,63]))/\Below w.heap.size w w':=by
 have h8z:decide ((8:Int)<(s.size:Int))=false:=decide_eq_false (by omega)
 have HSh:=Bx (λw=>Tryz.strings_shouldUseASCIISet (s.size:Int) w);rw [h8z] at HSh;clear h8z;go_enter Tryz.func308,Tryz.ntmps308
 go_wp2_with (go_at_call 323;with_reducible refine Cm (HSh.out _) ?_)
 have hgw:=Bx (Db w.heap.size)
 go_loopg [9,10] s.size (λg _ _ wx=>∃i:Nat,s.size<=i+g/\i<=s.size/\wx.heap[w.heap.size]?=some (.stringIter s i)/\Hid (Below w.heap.size w wx)/\Hid (Lib.NoAny s.data.toList [47,63] i))
 case atStart=>exact ⟨0,by omega,by omega,World.iter_heap w s 0,Bx ((An _ _).alloc (Db _) _),Bx (Lib.NoAny.zero _ _)⟩
 case round=>
  obtain ⟨i,hig,hile,hwx,hb,hno⟩:=hrel;rcases Dg i s.size with hi | hi
  ·obtain ⟨gn,rfl⟩:∃gn,gk=gn+1:=⟨gk-1,by omega⟩;obtain ⟨W,hnx,hWg,hWl,hbW⟩:=next_world (P:=EW) w wr w.heap.size s i hi hwx hb.out;have HB:=Bx hbW;have HWl:=Bx hWl;clear hwx hb hbW hWl;by_cases hx:(s[i]'hi).toNat<128
   ·rw [decode_ascii s i hi hx] at hnx hWg;simp only at hnx hWg
    have Hx:=Bx (Lib.data_getElem? s i hi);generalize s[i]'hi=x at *
    have hR:=Bx (λw=>Tryz.strings_IndexRune_ascii ⟨#[47,63]⟩ (x.toNat:Int) w (by omega) (by omega));have hcon:=Lib.contains_iff_indexByte [47,63] x;have hback:((x.toNat:Int)).toNat.toUInt8=x:=by simp
    rw [hback] at hR;have hR2:Hid (∀w,Calls EW 322 #[ZY ⟨#[47,63]⟩,.int .i32 (x.toNat:Int)] w λe w'=>e=.returned (ZZ ZS (B4 [47,63] x))/\w'=w):=hR;clear hR hback;have HWg:=Bx hWg;clear hWg;generalize hix:B4 [47,63] x=ix at *;clear hix;cases hin:List.contains [47,63] x with
    | false=>
      rw [hin] at hcon;have hlt:¬((0:Int)<=ix):=of_decide_eq_false hcon.symm
      have HN:=Bx (hno.out.succ Hx.out hin);clear hcon hin hno
      go_wp2_with (go_at_call 322;with_reducible refine Cm (hR2.out _) ?_);go_roundg gn
      case measure=>omega
      case rel=>exact ⟨i+1,by omega,by omega,HWg.out,HB,HN⟩
    | true=>
      rw [hin] at hcon;have hge:(0:Int)<=ix:=of_decide_eq_true hcon.symm
      have HN:=Bx (Lib.indexAny_hit hno.out Hx.out hin);clear hcon hin hno
      go_wp2_with (go_at_call 322;with_reducible refine Cm (hR2.out _) ?_);go_ret;exact ⟨by rw [HN.out];rfl,HB.out⟩
   ·have hhi:=decode_high s i hi (by omega)
    have HN:Hid (Lib.NoAny s.data.toList [47,63] (i+(FO s i).2)):=Bx (by
     intro j b hj hjb;rcases Dg j i with hlt | hge
     ·exact hno.out j b hlt hjb
     ·obtain ⟨hk,h128⟩:=rune_high s i j hi (by omega) hge hj;rw [Lib.data_getElem? s j hk] at hjb;obtain rfl:=Du.inj hjb;generalize s[j]=c at *;rw [List.contains_cons,List.contains_cons,List.contains_nil];have n1:c≠47:=λe=>by rw [e] at h128;revert h128;decide
      have n2:c≠63:=λe=>by rw [e] at h128;revert h128;decide
      simp [n1,n2])
    have hv:=rune_valid_at s i;have hwid:i+(FO s i).2<=s.size:=by have:=decodeN_tail (s.size-i) (s.get! i).toNat (s.get! (i+1)).toNat (s.get! (i+2)).toNat (s.get! (i+3)).toNat (by omega);rw [←Lib.decode_at] at this;omega
    have HWg:=Bx hWg;clear hWg;obtain ⟨hr1,hr2⟩:=hhi;generalize (FO s i).1=r at *;generalize (FO s i).2=k at *
    have hR2:=Bx (λw=>indexRune_high r w hr1 hv);clear hv hr1 hx hno
    go_wp2_with (go_at_call 322;with_reducible refine (hR2.out _).mono ?_;rintro e w2 ⟨rfl,hb2⟩);go_roundg gn
    case measure=>omega
    case rel=>exact ⟨i+k,by omega,by omega,(hb2.block _ HWl.out).trans HWg.out,Bx (HB.out.trans (hb2.mono (by have:=HWl.out;omega))),HN⟩
  ·obtain rfl:i=s.size:=by omega
   have hnx:=λty=>next_last (P:=EW) wr w.heap.size s s.size ty (by omega) hwx
   have HN:=Bx (Lib.indexAny_none (by rw [len];exact hno.out));clear hwx hno;go_wp2;go_ret;exact ⟨by rw [HN.out];rfl,hb.out⟩
theorem zero_256 (w:World):(zeroValue 293).run EW w=.ok (ZU (Aj 256 (ZW false))) w:=by kernel_rfl
theorem indexAny_any (s:ByteArray) (w:World) (hs:s.size<=1000000000) :
 Calls EW 308 #[ZY s,ZY ⟨#[47,63]⟩] w λe w'=>e=.returned (ZZ ZS (Lib.indexAny s.data.toList [47,63]))/\Below w.heap.size w w':=by
 rcases Dg 8 s.size with h | h
 ·refine (Tryz.strings_IndexAny_long zero_256 s ⟨#[47,63]⟩ w (by decide) h (by omega) (by decide) ?_).mono ?_
  ·intro j b hb
   match j with
   | 0=>obtain rfl:b=47:=by simpa using hb.symm
        decide
   | 1=>obtain rfl:b=63:=by simpa using hb.symm
        decide
   | j+2=>simp at hb
  ·rintro e w' ⟨rfl,rfl⟩;exact ⟨rfl,((An _ _).alloc (Db _) _).alloc (by simp) _⟩
 ·exact indexAny_short s w h
end
end Go.Proofs.YtdfabddnpgjepaaGreatDoor.Tgt
namespace Go.Proofs.YtdfabddnpgjepaaGreatDoor.Tgt
open Go.RowKit Base Oct Num Txt
theorem size_cons {s:ByteArray} {c:UInt8} {r:List UInt8} (h:s.data.toList=c::r):s.size=r.length+1:=by rw [←len,h];rfl
theorem empty_of {s:ByteArray} (h:s.data.toList= []):s.toList.isEmpty=true:=by rw [B9,h];rfl
theorem full_of {s:ByteArray} {c:UInt8} {r:List UInt8} (h:s.data.toList=c::r):s.toList.isEmpty=false:=by rw [B9,h];rfl
theorem ba_list (l:List UInt8):(ba l).data.toList=l:=rfl
theorem ba_size (l:List UInt8):(ba l).size=l.length:=len_mk l
theorem at_zero {s:ByteArray} {c:UInt8} {r:List UInt8} (h:s.data.toList=c::r) (h0:0<s.size):s[0]=c:=by have:=Lib.data_getElem? s 0 h0;rw [h] at this;exact (Du.inj this).symm
theorem drop_ext (s:ByteArray) (k:Nat):(s.extract k s.size).data.toList=s.data.toList.drop k:=by rw [Bu,CN (by rw [Cu,len];omega)]
section
set_option maxHeartbeats 1000000
attribute [local go_sem] Base.some_undef
theorem plain_any (c:UInt8) (ms:ByteArray) (w:World):Calls EW 325 #[ZZ ZR c.toNat,ZY ms] w λe w'=>e=.returned (ZW (plainB ms.data.toList c))/\w'=w:=by
 have HD:=Bx (λw=>Oct.digit_any (c.toNat:Int) w)
 have HI:=Bx (λw=>Tryz.strings_IndexByte ms (c.toNat:Int) w)
 have hcon:=Bx (Lib.contains_iff_indexByte ms.data.toList c);have hback:((c.toNat:Int)).toNat.toUInt8=c:=by simp
 rw [hback] at HI;clear hback
 have hP:=Bx (show plainB ms.data.toList c=(Oct.letter (c.toNat:Int)||Oct.digit (c.toNat:Int)||ms.data.toList.contains c) from rfl);rw [hcon.out] at hP;clear hcon;generalize B4 ms.data.toList c=ix at *;generalize plainB ms.data.toList c=r at *;generalize (c.toNat:Int)=n at *;go_enter Tryz.func325,Tryz.ntmps325
 go_wp2_with (first
  |(go_at_call 291;with_reducible refine Cm (HD.out _) ?_)
  |(go_at_call 329;with_reducible refine Cm (HI.out _) ?_))
 all_goals (go_ret;exact ⟨ret_bool (by rw [hP.out];simp [Oct.letter, *]<;>omega),rfl⟩)
theorem isName_any (s:ByteArray) (w:World) (hs:s.size<=1000000000):Calls EW 309 #[ZY s] w λe w'=>e=.returned (ZW (s.data.toList.all (plainB nameMarks)))/\w'=w:=by
 obtain ⟨A,hA⟩:∃A,s.data.toList.all (plainB nameMarks)=A:=⟨_,rfl⟩;rw [hA];have HA:=Bx hA;clear hA;go_enter Tryz.func309,Tryz.ntmps309;go_wp2
 go_loop [3,6] (λ_ i=>∃k:Nat,k<=s.size/\i=ZZ ZS k/\Hid ((s.data.toList.take k).all (plainB nameMarks)=true)) (λ_ i=>s.size-(intOf i).toNat)
 case atStart=>exact ⟨0,Dj _,rfl,rfl⟩
 case round=>
  obtain ⟨k,hk,rfl,hno⟩:=hrel;rcases Dg k s.size with hlt | hge
  ·have HS:=Bx (take_snoc s k hlt)
   have HM:=Bx (byte_mem s k hlt)
   have HP:=Bx (λw=>plain_any s[k] ⟨#[45,46,95,126]⟩ w);rw [show (ByteArray.mk #[45,46,95,126]).data.toList=nameMarks from rfl] at HP;cases hq:plainB nameMarks s[k] with
   | true=>
     rw [hq] at HP
     go_wp2_with (go_at_call 325;with_reducible refine Cm (HP.out _) ?_);go_round
     case rel=>exact ⟨k+1,by omega,by go_num,Bx (by rw [HS.out,List.all_append,hno.out];simp [hq])⟩
     case measure=>simp [intOf];omega
   | false=>
     rw [hq] at HP
     go_wp2_with (go_at_call 325;with_reducible refine Cm (HP.out _) ?_);go_ret;exact ⟨by rw [←HA.out,List.all_eq_false.2 ⟨s[k],HM.out,by rw [hq];decide⟩];rfl,rfl⟩
  ·obtain rfl:k=s.size:=by omega
   have hno1:=hno.out;rw [take_all s _ (Db _)] at hno1
   have HN:=Bx (HA.out.symm.trans hno1);clear hno hno1;go_wp2;go_ret;exact ⟨by rw [HN.out];rfl,rfl⟩
theorem hex_all (a b:UInt8):allOf [5] [a,b]=(hexB a&&hexB b):=by simp [allOf,oneOf,ofKind,hexB]
theorem XXc25 {P:Prop} (h:P:=by
 clear hw hl hq x1
 go_wp2_with (go_at_call 325;with_reducible refine Cm (HP3.out _) ?_);go_ret
 exact ⟨by rw [←HW.out];rfl,hb.out⟩):P:=h
theorem isWritten_any (s ms:ByteArray) (w:World) (hm:ms.data.toList.contains 37=false) :
 Calls EW 321 #[ZY s,ZY ms] w λe w'=>e=.returned (ZW (written ms.data.toList s.data.toList))/\Below w.heap.size w w':=by
 have HM:=Bx hm;clear hm;obtain ⟨A,hA⟩:∃A,written ms.data.toList s.data.toList=A:=⟨_,rfl⟩;rw [hA];have HA:=Bx hA;clear hA;go_enter Tryz.func321,Tryz.ntmps321;go_wp2
 go_loopw [0] (λv wr=>∃S:ByteArray,v=ZY S/\S.size<=s.size/\Hid (written ms.data.toList S.data.toList=A)/\Hid (Below w.heap.size w wr)) (λv _=>match v with | ZY S=>S.size | _=>0)
 case atStart=>exact ⟨s,rfl,Db _,HA,Bx (An _ _)⟩
 case round=>
  obtain ⟨S,rfl,hS,hw,hb⟩:=hrel;cases hl:S.data.toList with
  | nil=>
    have he:=empty_of hl;rw [hl] at hw
    have HW:=Bx (show true=A from hw.out);clear hl hw;go_wp2;go_ret;exact ⟨by rw [←HW.out];rfl,hb.out⟩
  | cons c r=>
    have he:=full_of hl;have hz:=size_cons hl;have h0:(0:Int)<(S.size:Int):=by omega
    have h1:(1:Int)<=(S.size:Int):=by omega
    have e0:∀h,S[0]'h=c:=λh=>at_zero hl h
    have HP:=Bx (λw=>plain_any c ms w);rw [hl] at hw;have x1:=drop_ext S 1;rw [hl,List.drop_succ_cons,List.drop_zero] at x1;cases hq:plainB ms.data.toList c with
    | true=>
      rw [hq] at HP
      have HW:=Bx (show written ms.data.toList (S.extract 1 S.size).data.toList=A by rw [x1,←hw.out,written_plain HM.out c r hq])
      have hz1:=Bx (show (S.extract 1 S.size).size+1=S.size by rw [←len,x1,hz]);clear hw hl hq x1 hz
      go_wp2_with (go_at_call 325;with_reducible refine Cm (HP.out _) ?_);go_roundw
      case rel=>exact ⟨_,rfl,by have:=hz1.out;omega,HW,hb⟩
      case measure=>have:=hz1.out;simp only;omega
    | false=>
      rw [hq] at HP;by_cases hc:c=37
      ·subst hc;have HP3:Hid (∀w,Calls EW 325 #[ZZ ZR 37,ZY ms] w λe w'=>e=.returned (ZW false)/\w'=w):=HP;clear HP;rcases r with _ | ⟨a,_ | ⟨b,r'⟩⟩
       ·have t2:¬(2:Int)<(S.size:Int):=by simp at hz;omega
        clear hz
        have HW:=Bx ((written_not (ms:=ms.data.toList) 37 [] hq (.inr (by decide))).symm.trans hw.out);exact XXc25
       ·have t2:¬(2:Int)<(S.size:Int):=by simp at hz;omega
        clear hz
        have HW:=Bx ((written_not (ms:=ms.data.toList) 37 [a] hq (.inr (by simp))).symm.trans hw.out);exact XXc25
       ·simp only [List.length_cons] at hz;have t2:(2:Int)<(S.size:Int):=by omega
        have t3:(3:Int)<=(S.size:Int):=by omega
        have x3:=drop_ext S 3;rw [hl] at x3;simp only [List.drop_succ_cons,List.drop_zero] at x3;have x2:(S.extract 1 3).data.toList= [a,b]:=by rw [Bu,hl];rfl
        have hsz2:(S.extract 1 3).size<=maxLen:=by rw [←len,x2];unfold maxLen;simp
        have HA5:=Bx (λ(w:World) (g:Nat) hk=>Oct.all_any (S.extract 1 3) (some ⟨g,0,none⟩) 1 1 [5] w hsz2 hk (by decide));rw [x2,hex_all] at HA5;rw [written_pct] at hw
        have hz3:=Bx (show (S.extract 3 S.size).size+3=S.size by rw [←len,x3];omega);clear hz;cases hab:(hexB a&&hexB b) with
        | true=>
          rw [hab] at HA5 hw;rw [A5,←x3] at hw;clear hl hq x1 hsz2 x2 x3
          go_wp2_with (first
           |(go_at_call 325;with_reducible refine Cm (HP3.out _) ?_)
           |(go_at_call 263;with_reducible refine (HA5.out _ _ ?_).mono ?_;exact Ints.one _ _ rfl _ _;rintro e w1 ⟨rfl,hw⟩;rw [hw];clear hw))
          go_roundw
          case rel=>exact ⟨_,rfl,by have:=hz3.out;omega,hw,Bx (hb.out.alloc hb.out.size _)⟩
          case measure=>have:=hz3.out;simp only;omega
        | false=>
          rw [hab] at HA5 hw;rw [Av] at hw;clear hl hq x1 hsz2 x2 x3
          go_wp2_with (first
           |(go_at_call 325;with_reducible refine Cm (HP3.out _) ?_)
           |(go_at_call 263;with_reducible refine (HA5.out _ _ ?_).mono ?_;exact Ints.one _ _ rfl _ _;rintro e w1 ⟨rfl,hw⟩;rw [hw];clear hw))
          go_ret;exact ⟨by rw [←hw.out];rfl,hb.out.alloc hb.out.size _⟩
      ·have t1:((c.toNat:Int)==37)=false:=beq_eq_false_iff_ne.2 λe=>hc (FM.1 (by show c.toNat=37;omega))
       have HW:=Bx ((written_not (ms:=ms.data.toList) c r hq (.inl hc)).symm.trans hw.out);clear hw hl hq x1 hz
       go_wp2_with (go_at_call 325;with_reducible refine Cm (HP.out _) ?_);go_ret;exact ⟨by rw [←HW.out];rfl,hb.out⟩
theorem XX8BV {P:Prop} (h:P:=by
 go_enter Tryz.func310,Tryz.ntmps310
 go_wp2_with (go_at_call 297;with_reducible refine (HD.out _).mono ?_;rintro e w1 ⟨rfl,hb⟩);go_ret
 exact ⟨rfl,hb⟩):P:=h
theorem isPort_any (s:ByteArray) (w:World) (hs:s.size<=1000000000):Calls EW 310 #[ZY s] w λe w'=>e=.returned (ZW (portOk s.data.toList))/\Below w.heap.size w w':=by
 have HD:=Bx (λw=>Num.dec_any 65535 (by decide) s w (by unfold maxLen;omega));have hP:portOk s.data.toList=(decide (s.size<=5)&&decide ((readOf 10 65535 s.data.toList).2=0)):=by unfold portOk;rw [len]
 rw [hP];clear hP;generalize (readOf 10 65535 s.data.toList).2=e at *;generalize (readOf 10 65535 s.data.toList).1=n at *;by_cases h5:s.size<=5
 ·rw [decide_eq_true h5,A5];have t1:(s.size:Int)<=5:=by omega
  by_cases he:e=0
  ·subst he;exact XX8BV
  ·have t2:(e==0)=false:=beq_eq_false_iff_ne.2 he;rw [decide_eq_false he];clear he;exact XX8BV
 ·rw [decide_eq_false h5,Av];have t1:¬(s.size:Int)<=5:=by omega
  exact XX8BV
theorem XX0S0 {P:Prop} (h:P:=by
 go_enter Tryz.func293,Tryz.ntmps293
 go_wp2_with (first
  |(go_at_call 271;with_reducible refine (HC.out _).mono ?_;rintro e w1 ⟨rfl,m,hw⟩;rw [hw];clear hw)
  |(go_at_call 309;with_reducible refine Cm (HN.out _) ?_))
 go_ret
 exact ⟨rfl,Base.below_drewN (An _ _) _⟩):P:=h
theorem XXhyJ {P:Prop} (h:P:=by
 generalize ba p=PP at *;go_enter Tryz.func293,Tryz.ntmps293
 go_wp2_with (go_at_call 271;with_reducible refine (HC.out _).mono ?_;rintro e w1 ⟨rfl,m,hw⟩;rw [hw];clear hw);go_ret
 exact ⟨rfl,Base.below_drewN (An _ _) _⟩):P:=h
theorem host_any (s:ByteArray) (w:World) (hs:s.size<=1000000000):Calls EW 293 #[ZY s] w λe w'=>e=.returned (ZW (hostB s.data.toList))/\Below w.heap.size w w':=by
 have HC:=Bx (λw=>cut_any s 58 w hs);obtain ⟨hl1,hl2⟩:=cutAt_le 58 s.data.toList;rw [len] at hl1 hl2;have hH:hostB s.data.toList=(nameOk (cutAt 58 s.data.toList).1&&(!(cutAt 58 s.data.toList).2.2||portOk (cutAt 58 s.data.toList).2.1)):=rfl;rw [hH];clear hH;generalize (cutAt 58 s.data.toList).1=n at *;generalize (cutAt 58 s.data.toList).2.1=p at *;generalize (cutAt 58 s.data.toList).2.2=b at *
 have HN:=Bx (λw=>isName_any (ba n) w (by rw [ba_size];omega))
 have HP:=Bx (λw=>isPort_any (ba p) w (by rw [ba_size];omega));rw [ba_list] at HN HP;have hsz:=ba_size n;clear hl1 hl2;cases n with
 | nil=>
   have hE:(ba []).toList.isEmpty=true:=empty_of rfl;clear hsz;have e:nameOk []=false:=rfl;rw [e,Av];clear e;generalize ba []=N at *;exact XXhyJ
 | cons c r=>
   have hE:(ba (c::r)).toList.isEmpty=false:=by rw [B9];rfl
   have e:nameOk (c::r)=(decide ((c::r).length<=255)&&(c::r).all (plainB nameMarks)):=rfl;rw [e];clear e;by_cases hn:(c::r).length<=255
   ·rw [decide_eq_true hn,A5];have t1:((ba (c::r)).size:Int)<=255:=by omega
    clear hsz hn;generalize (c::r).all (plainB nameMarks)=q at *;generalize ba (c::r)=N at *;generalize ba p=PP at *;generalize portOk p=pk at *;cases q with
    | false=>
      rw [Av];exact XX0S0
    | true=>
      rw [A5];cases b with
      | false=>
        exact XX0S0
      | true=>
        rw [Bool.not_true,Bool.false_or];go_enter Tryz.func293,Tryz.ntmps293
        go_wp2_with (first
         |(go_at_call 271;with_reducible refine (HC.out _).mono ?_;rintro e w1 ⟨rfl,m,hw⟩;rw [hw];clear hw)
         |(go_at_call 309;with_reducible refine Cm (HN.out _) ?_)
         |(go_at_call 310;with_reducible refine (HP.out _).mono ?_;rintro e w2 ⟨rfl,hb⟩))
        go_ret;exact ⟨rfl,Base.below_step (Base.below_drewN (An _ _) _) hb⟩
   ·rw [decide_eq_false hn,Av,Av];have t1:¬((ba (c::r)).size:Int)<=255:=by omega
    clear hsz hn;generalize ba (c::r)=N at *;exact XXhyJ
theorem prefix_slash (l:List UInt8):Lib.hasPrefix l [47]=decide (l.head?=some 47):=by
 cases l with
 | nil=>rfl
 | cons c r=>
   have:Lib.hasPrefix (c::r) [47]=(47==c):=by simp [Lib.hasPrefix,List.isPrefixOf]
   rw [this,List.head?_cons];by_cases h:c=47
   ·subst h;rfl
   ·rw [decide_eq_false (λe=>h (Du.inj e)),beq_eq_false_iff_ne];exact λe=>h e.symm
theorem slash_any (s:ByteArray) (w:World):Calls EW 288 #[ZY s,ZY ⟨#[47]⟩] w λe w'=>e=.returned (ZW (decide (s.data.toList.head?=some 47)))/\w'=w:=by have h:=Tryz.strings_HasPrefix s ⟨#[47]⟩ w;rw [show (ByteArray.mk #[47]).data.toList= [47] from rfl,prefix_slash] at h;exact h
theorem path_any (s:ByteArray) (w:World):Calls EW 306 #[ZY s] w λe w'=>e=.returned (ZW (pathB s.data.toList))/\Below w.heap.size w w':=by
 have HS:=Bx (λw=>slash_any s w)
 have HW:=Bx (λw=>isWritten_any s ⟨#[45,46,95,126,33,36,38,39,40,41,42,43,44,59,61,58,64,47]⟩ w (by decide));rw [show (ByteArray.mk #[45,46,95,126,33,36,38,39,40,41,42,43,44,59,61,58,64,47]).data.toList=pathMarks from rfl] at HW;unfold pathB;generalize written pathMarks s.data.toList=q at *;generalize decide (s.data.toList.head?=some 47)=h at *;cases h with
 | false=>
   go_enter Tryz.func306,Tryz.ntmps306
   go_wp2_with (go_at_call 288;with_reducible refine Cm (HS.out _) ?_);go_ret;exact ⟨rfl,An _ _⟩
 | true=>
   go_enter Tryz.func306,Tryz.ntmps306
   go_wp2_with (first
    |(go_at_call 288;with_reducible refine Cm (HS.out _) ?_)
    |(go_at_call 321;with_reducible refine (HW.out _).mono ?_;rintro e w1 ⟨rfl,hb⟩))
   go_ret;exact ⟨by rw [A5];rfl,hb⟩
theorem query_any (s:ByteArray) (w:World):Calls EW 307 #[ZY s] w λe w'=>e=.returned (ZW (queryB s.data.toList))/\Below w.heap.size w w':=by
 have HW:=Bx (λw=>isWritten_any s ⟨#[45,46,95,126,33,36,38,39,40,41,42,43,44,59,61,58,64,47,63]⟩ w (by decide));rw [show (ByteArray.mk #[45,46,95,126,33,36,38,39,40,41,42,43,44,59,61,58,64,47,63]).data.toList=queryMarks from rfl] at HW;unfold queryB;generalize written queryMarks s.data.toList=q at *;go_enter Tryz.func307,Tryz.ntmps307
 go_wp2_with (go_at_call 321;with_reducible refine (HW.out _).mono ?_;rintro e w1 ⟨rfl,hb⟩);go_ret;exact ⟨rfl,hb⟩
end
end Go.Proofs.YtdfabddnpgjepaaGreatDoor.Tgt
namespace Go.Proofs.YtdfabddnpgjepaaGreatDoor.Tgt
open Go.RowKit Base Oct Num Txt
abbrev tv (f:Int) (h p q:ByteArray) (a:Bool):Value:=ZU #[ZZ ZS f,ZY h,ZY p,ZY q,ZW a]
abbrev E0:ByteArray:=⟨#[]⟩
def ans:Option Tg->Value
 | none=>.tuple #[tv 0 E0 E0 E0 false,.int .i64 400]
 | some t=>.tuple #[tv t.form (ba t.host) (ba t.path) (ba t.query) t.asked,.int .i64 0]
structure Tgb (w:World) (g:Nat) (f:Int) (h p q:ByteArray) (a:Bool):Prop where
 c0:w.cell? ⟨g,0,none⟩=some (ZZ ZS f)
 c1:w.cell? ⟨g,1,none⟩=some (ZY h)
 c2:w.cell? ⟨g,2,none⟩=some (ZY p)
 c3:w.cell? ⟨g,3,none⟩=some (ZY q)
 c4:w.cell? ⟨g,4,none⟩=some (ZW a)
 z0:w.frozen? ⟨g,0,none⟩=false
 z1:w.frozen? ⟨g,1,none⟩=false
 z2:w.frozen? ⟨g,2,none⟩=false
 z3:w.frozen? ⟨g,3,none⟩=false
 z4:w.frozen? ⟨g,4,none⟩=false
theorem Tgb.below {w w':World} {g:Nat} {f:Int} {h p q:ByteArray} {a:Bool} (H:Tgb w g f h p q a) (hg:g<w.heap.size) (hb:Below w.heap.size w w'):Tgb w' g f h p q a:=
 ⟨(hb.cell (p:=⟨g,0,none⟩) hg).trans H.c0,(hb.cell (p:=⟨g,1,none⟩) hg).trans H.c1,(hb.cell (p:=⟨g,2,none⟩) hg).trans H.c2,(hb.cell (p:=⟨g,3,none⟩) hg).trans H.c3,(hb.cell (p:=⟨g,4,none⟩) hg).trans H.c4,
  (hb.frozen (p:=⟨g,0,none⟩) hg).trans H.z0,(hb.frozen (p:=⟨g,1,none⟩) hg).trans H.z1,(hb.frozen (p:=⟨g,2,none⟩) hg).trans H.z2,(hb.frozen (p:=⟨g,3,none⟩) hg).trans H.z3,(hb.frozen (p:=⟨g,4,none⟩) hg).trans H.z4⟩
theorem Tgb.new (w:World) (t:TypeId) (f:Int) (h p q:ByteArray) (a:Bool):Tgb (w.alloc (.cells #[ZZ ZS f,ZY h,ZY p,ZY q,ZW a] t)) w.heap.size f h p q a:=by
 have hh:=heap_alloc_new w (.cells #[ZZ ZS f,ZY h,ZY p,ZY q,ZW a] t);have c:∀k v,(#[Value.int .i64 f,ZY h,ZY p,ZY q,ZW a]:Array Value)[k]?=some v->(w.alloc (.cells #[ZZ ZS f,ZY h,ZY p,ZY q,ZW a] t)).cell? ⟨w.heap.size,k,none⟩=some v:=
  λk v e=>(cell_of_row (w.alloc _) w.heap.size k _ t (0,0) hh).trans e
 have z:∀k,(w.alloc (.cells #[ZZ ZS f,ZY h,ZY p,ZY q,ZW a] t)).frozen? ⟨w.heap.size,k,none⟩=false:=λk=>by unfold World.frozen?;simp only [hh];simp
 exact ⟨c 0 _ rfl,c 1 _ rfl,c 2 _ rfl,c 3 _ rfl,c 4 _ rfl,z 0,z 1,z 2,z 3,z 4⟩
theorem Tgb.put {B:Nat} {w0 w:World} {g:Nat} {f:Int} {h p q:ByteArray} {a:Bool} (H:Tgb w g f h p q a) (hb:Below B w0 w) (hg:B<=g) (f':Int) (h' p' q':ByteArray) (a':Bool) :
 ∃W,((((w.setCell ⟨g,0,none⟩ (ZZ ZS f')).setCell ⟨g,1,none⟩ (ZY h')).setCell ⟨g,2,none⟩ (ZY p')).setCell ⟨g,3,none⟩ (ZY q')).setCell ⟨g,4,none⟩ (ZW a')=W/\Tgb W g f' h' p' q' a'/\Below B w0 W:=by
 obtain ⟨c0,c1,c2,c3,c4,z0,z1,z2,z3,z4⟩:=H;refine ⟨_,rfl,⟨?_,?_,?_,?_,?_,?_,?_,?_,?_,?_⟩,((((hb.setCell hg _).setCell hg _).setCell hg _).setCell hg _).setCell hg _⟩;all_goals go_simp
theorem Tgb.other {w:World} {g:Nat} {f:Int} {h p q:ByteArray} {a:Bool} (H:Tgb w g f h p q a) (g' o:Nat) (v:Value) (n2:¬g'=g):Tgb (w.setCell ⟨g',o,none⟩ v) g f h p q a:=by obtain ⟨c0,c1,c2,c3,c4,z0,z1,z2,z3,z4⟩:=H;refine ⟨?_,?_,?_,?_,?_,?_,?_,?_,?_,?_⟩;all_goals go_simp
section
set_option maxHeartbeats 1000000
attribute [local go_sem] Base.some_undef
theorem colon_any (s:ByteArray) (w:World):Calls EW 304 #[ZY s,ZY ⟨#[58]⟩] w λe w'=>e=.returned (ZW (s.data.toList.contains 58))/\w'=w:=by have h:=Tryz.strings_Contains_one s 58 w;rw [←Lib.contains_iff_indexByte] at h;exact h
theorem XXoUb {P:Prop} (h:P:=by
 obtain ⟨W,hW,⟨d0,d1,d2,d3,d4,_,_,_,_,_⟩,hbW⟩:=Tgb.put ⟨c0,c1,c2,c3,c4,z0,z1,z2,z3,z4⟩ HB.out (Db _) 0 E0 E0 E0 false;rw [hW];first
  |exact bodyPost_ret (v:=.tuple #[tv 0 E0 E0 E0 false,.int .i64 400]) (by (simp [results,Tryz.results287,go_sem,d0,d1,d2,d3,d4]);first|done|fail) rfl ⟨rfl,hbW⟩
  |exact bodyPost_ret (v:=.tuple #[tv 0 E0 E0 E0 false,.int .i64 400]) (by (simp [results,Tryz.results289,go_sem,d0,d1,d2,d3,d4]);first|done|fail) rfl ⟨rfl,hbW⟩
  |exact bodyPost_ret (v:=.tuple #[tv 0 E0 E0 E0 false,.int .i64 400]) (by (simp [results,Tryz.results290,go_sem,d0,d1,d2,d3,d4]);first|done|fail) rfl ⟨rfl,hbW⟩
  |exact bodyPost_ret (v:=.tuple #[tv 0 E0 E0 E0 false,.int .i64 400]) (by (simp [results,Tryz.results209,go_sem,d0,d1,d2,d3,d4]);first|done|fail) rfl ⟨rfl,hbW⟩):P:=h
theorem XXTgp {P:Prop} (h:P:=by
 obtain ⟨W,hW,⟨d0,d1,d2,d3,d4,_,_,_,_,_⟩,hbW⟩:=Tgb.put ⟨c0,c1,c2,c3,c4,z0,z1,z2,z3,z4⟩ HB.out (Db _) 3 s E0 E0 false;rw [hW];first
  |exact bodyPost_ret (v:=.tuple #[tv 3 s E0 E0 false,.int .i64 0]) (by (simp [results,Tryz.results287,go_sem,d0,d1,d2,d3,d4]);first|done|fail) rfl ⟨rfl,hbW⟩
  |exact bodyPost_ret (v:=.tuple #[tv 3 s E0 E0 false,.int .i64 0]) (by (simp [results,Tryz.results209,go_sem,d0,d1,d2,d3,d4]);first|done|fail) rfl ⟨rfl,hbW⟩):P:=h
theorem authority_any (s:ByteArray) (w:World) (hs:s.size<=1000000000):Calls EW 287 #[ZY s] w λe w'=>e=.returned (ans (authority s.data.toList))/\Below w.heap.size w w':=by
 have HC:=Bx (λw=>colon_any s w)
 have HH:=Bx (λw=>host_any s w hs);have hba:ba s.data.toList=s:=rfl;obtain ⟨R,hR⟩:∃R,authority s.data.toList=R:=⟨_,rfl⟩;rw [hR];unfold authority at hR;generalize s.data.toList.contains 58=b at *;generalize hostB s.data.toList=h at *;have hc:=Tgb.new w 209 0 E0 E0 E0 false;have hW:Below w.heap.size w (w.alloc (.cells #[ZZ ZS 0,ZY E0,ZY E0,ZY E0,ZW false] 209)):=(An _ _).alloc (Db _) _;have hgg:w.heap.size<(w.alloc (.cells #[ZZ ZS 0,ZY E0,ZY E0,ZY E0,ZW false] 209)).heap.size:=by simp
 cases b with
 | false=>
   obtain rfl:none=R:=hR;clear hba hc hW hgg;go_enter Tryz.func287,Tryz.ntmps287
   go_wp2_with (go_at_call 304;with_reducible refine Cm (HC.out _) ?_);exact bodyPost_ret (v:=ZT #[tv _ _ _ _ _,ZZ ZS 400]) (by simp [results,Tryz.results287,go_sem]) rfl ⟨rfl,(An _ _).alloc (Db _) _⟩
 | true=>
   have HCC:=Bx hc;have HWW:=Bx hW;have HG:=Bx hgg;clear hc hW hgg;cases h with
   | false=>
     obtain rfl:none=R:=hR;clear hba;go_enter Tryz.func287,Tryz.ntmps287
     go_wp2_with (first
      |(go_at_call 304;with_reducible refine Cm (HC.out _) ?_)
      |(go_at_call 293;with_reducible refine (HH.out _).mono ?_;rintro e w2 ⟨rfl,hb⟩
        obtain ⟨c0,c1,c2,c3,c4,z0,z1,z2,z3,z4⟩:=HCC.out.below HG.out hb
        have HB:=Bx (Base.below_step HWW.out hb);clear hb))
     exact XXoUb
   | true=>
     obtain rfl:some ⟨3,s.data.toList,[],[],false⟩=R:=hR;rw [ans,hba,show ba []=E0 from rfl];clear hba;go_enter Tryz.func287,Tryz.ntmps287
     go_wp2_with (first
      |(go_at_call 304;with_reducible refine Cm (HC.out _) ?_)
      |(go_at_call 293;with_reducible refine (HH.out _).mono ?_;rintro e w2 ⟨rfl,hb⟩
        obtain ⟨c0,c1,c2,c3,c4,z0,z1,z2,z3,z4⟩:=HCC.out.below HG.out hb
        have HB:=Bx (Base.below_step HWW.out hb);clear hb))
     exact XXTgp
theorem origin_any (s:ByteArray) (w:World) (hs:s.size<=1000000000):Calls EW 289 #[ZY s] w λe w'=>e=.returned (ans (origin s.data.toList))/\Below w.heap.size w w':=by
 have HC:=Bx (λw=>cut_any s 63 w hs);obtain ⟨R,hR⟩:∃R,origin s.data.toList=R:=⟨_,rfl⟩;rw [hR];unfold origin at hR;generalize (cutAt 63 s.data.toList).1=p at *;generalize (cutAt 63 s.data.toList).2.1=q at *;generalize (cutAt 63 s.data.toList).2.2=b at *
 have HP:=Bx (λw=>path_any (ba p) w)
 have HQ:=Bx (λw=>query_any (ba q) w);rw [ba_list] at HP HQ;generalize pathB p=pk at *;generalize queryB q=qk at *
 have HCC:=Bx (Tgb.new w 209 0 E0 E0 E0 false)
 have HWW:=Bx (show Below w.heap.size w (w.alloc (.cells #[ZZ ZS 0,ZY E0,ZY E0,ZY E0,ZW false] 209)) from (An _ _).alloc (Db _) _)
 have HG:=Bx (show w.heap.size<(w.alloc (.cells #[ZZ ZS 0,ZY E0,ZY E0,ZY E0,ZW false] 209)).heap.size by simp);cases pk with
 | false=>
   obtain rfl:none=R:=hR;rw [ans];generalize ba p=PP at *;generalize ba q=QQ at *;go_enter Tryz.func289,Tryz.ntmps289
   go_wp2_with (first
    |(go_at_call 271;with_reducible refine (HC.out _).mono ?_;rintro e w1 ⟨rfl,m,hw⟩;rw [hw];clear hw)
    |(go_at_call 306;with_reducible refine (HP.out _).mono ?_;rintro e w2 ⟨rfl,hb⟩
      have hb':=Base.below_step (Base.below_drewN (An _ _) m) hb;obtain ⟨c0,c1,c2,c3,c4,z0,z1,z2,z3,z4⟩:=HCC.out.below HG.out hb'
      have HB:=Bx (Base.below_step HWW.out hb');clear hb hb'))
   exact XXoUb
 | true=>
   cases qk with
   | false=>
     obtain rfl:none=R:=hR;rw [ans];generalize ba p=PP at *;generalize ba q=QQ at *;go_enter Tryz.func289,Tryz.ntmps289
     go_wp2_with (first
      |(go_at_call 271;with_reducible refine (HC.out _).mono ?_;rintro e w1 ⟨rfl,m,hw⟩;rw [hw];clear hw)
      |(go_at_call 306;with_reducible refine (HP.out _).mono ?_;rintro e w2 ⟨rfl,hb⟩
        have hb':=Base.below_step (Base.below_drewN (An _ _) m) hb;clear hb)
      |(go_at_call 307;with_reducible refine (HQ.out _).mono ?_;rintro e w3 ⟨rfl,hb3⟩
        have hb'':=Base.below_step hb' hb3;obtain ⟨c0,c1,c2,c3,c4,z0,z1,z2,z3,z4⟩:=HCC.out.below HG.out hb''
        have HB:=Bx (Base.below_step HWW.out hb'');clear hb' hb'' hb3))
     exact XXoUb
   | true=>
     obtain rfl:some ⟨1,[],p,q,b⟩=R:=hR;rw [ans,show ba []=E0 from rfl];generalize ba p=PP at *;generalize ba q=QQ at *;go_enter Tryz.func289,Tryz.ntmps289
     go_wp2_with (first
      |(go_at_call 271;with_reducible refine (HC.out _).mono ?_;rintro e w1 ⟨rfl,m,hw⟩;rw [hw];clear hw)
      |(go_at_call 306;with_reducible refine (HP.out _).mono ?_;rintro e w2 ⟨rfl,hb⟩
        have hb':=Base.below_step (Base.below_drewN (An _ _) m) hb;clear hb)
      |(go_at_call 307;with_reducible refine (HQ.out _).mono ?_;rintro e w3 ⟨rfl,hb3⟩
        have hb'':=Base.below_step hb' hb3;obtain ⟨c0,c1,c2,c3,c4,z0,z1,z2,z3,z4⟩:=HCC.out.below HG.out hb''
        have HB:=Bx (Base.below_step HWW.out hb'');clear hb' hb'' hb3))
     obtain ⟨W,hW,⟨d0,d1,d2,d3,d4,_,_,_,_,_⟩,hbW⟩:=Tgb.put ⟨c0,c1,c2,c3,c4,z0,z1,z2,z3,z4⟩ HB.out (Db _) 1 E0 PP QQ b;rw [hW];exact bodyPost_ret (v:=ZT #[tv 1 E0 PP QQ b,ZZ ZS 0]) (by simp [results,Tryz.results289,go_sem,d0,d1,d2,d3,d4]) rfl ⟨rfl,hbW⟩
end
end Go.Proofs.YtdfabddnpgjepaaGreatDoor.Tgt
namespace Go.Proofs.YtdfabddnpgjepaaGreatDoor.Tgt
open Go.RowKit Base Oct Num Txt
theorem hostOf_le (l:List UInt8):(hostOf l).length<=l.length:=(List.takeWhile_sublist _).length_le
theorem restOf_le (l:List UInt8):(restOf l).length<=l.length:=(List.dropWhile_sublist _).length_le
theorem slashed_le (l:List UInt8):(slashed l).length<=l.length+1:=by unfold slashed;split<;>simp
section
set_option maxHeartbeats 1000000
attribute [local go_sem] Base.some_undef
theorem absolute_any (s:ByteArray) (w:World) (hs:s.size<=900000000):Calls EW 290 #[ZY s] w λe w'=>e=.returned (ans (absolute s.data.toList))/\Below w.heap.size w w':=by
 have HI:=Bx (λw=>indexAny_any s w (by omega));obtain ⟨R,hR⟩:∃R,absolute s.data.toList=R:=⟨_,rfl⟩;rw [hR];unfold absolute at hR;have hl1:=hostOf_le s.data.toList;have hl2:=restOf_le s.data.toList
 have hl3:=slashed_le (restOf s.data.toList);rw [len] at hl1 hl2;have hsp:=idx_split s.data.toList;rw [len] at hsp
 have e1:∀i:Nat,i<=s.size->s.extract 0 i=ba (s.data.toList.take i):=λi _=>ba_ext (by rw [Bu];simp [ba])
 have e2:∀i:Nat,s.extract i s.size=ba (s.data.toList.drop i):=λi=>ba_ext (by rw [drop_ext];rfl);have e3:s=ba s.data.toList:=rfl;generalize hostOf s.data.toList=ho at *;generalize restOf s.data.toList=re at *;generalize Lib.indexAny s.data.toList [47,63]=ix at *;have HSP:=Bx hsp;clear hsp;have E1:=Bx e1;have E2:=Bx e2;have E3:=Bx e3;clear e1 e2 e3
 have HO:=Bx (λ(w:World)=>origin_any (ba (slashed re)) w (by rw [ba_size];omega))
 have HH:=Bx (λ(w:World)=>host_any (ba ho) w (by rw [ba_size];omega))
 have HS:=Bx (λ(w:World)=>slash_any (ba re) w);rw [ba_list] at HO HH HS;have hrz:(ba re).size<=1000000000:=by rw [ba_size];omega
 have hv:¬9223372036854775807<1+(ba re).size:=by omega
 have hSl:slashed re=if re.head?=some 47 then re else 47::re:=rfl
 have hbaS:∀l:List UInt8,(⟨#[47]⟩:ByteArray)++ba l=ba (47::l):=λl=>ba_ext (by simp [ba]);have HBA:=Bx hbaS;clear hbaS hrz hl1 hl2 hl3
 have HCC:=Bx (Tgb.new w 209 0 E0 E0 E0 false)
 have HWW:=Bx (show Below w.heap.size w (w.alloc (.cells #[ZZ ZS 0,ZY E0,ZY E0,ZY E0,ZW false] 209)) from (An _ _).alloc (Db _) _)
 have HG:=Bx (show w.heap.size<(w.alloc (.cells #[ZZ ZS 0,ZY E0,ZY E0,ZY E0,ZW false] 209)).heap.size by simp);generalize hSS:slashed re=sl at *;have HSl:=Bx hSl;clear hSl hSS;go_enter Tryz.func290,Tryz.ntmps290
 go_upto_if 13 with (go_at_call 308;with_reducible refine (HI.out _).mono ?_;rintro e w1 ⟨rfl,hb⟩)
 have HT1:=Bx (HCC.out.below HG.out hb)
 have HB1:=Bx (Base.below_step HWW.out hb)
 have HG1:=Bx (Df HG.out hb.size);clear hb HCC HWW HG HI
 go_cut [4,5] from 12 (λh r wx=>h=ZY (ba ho)/\r=ZY (ba re)/\Hid (∃n,wx=w1.drewN n))
 case first=>
  rcases HSP.out with ⟨rfl,h2,h3⟩ | ⟨i,h0,rfl,h2,h3⟩
  ·have H2:=Bx h2;have H3:=Bx h3;clear h2 h3;go_wp2_with fail;go_meet
   case rel=>exact ⟨by rw [H2.out];rfl,by rw [H3.out];rfl,Bx ⟨0,rfl⟩⟩
  ·have H2:=Bx h2;have H3:=Bx h3;have c0:(0:Int)<=(i:Int):=by omega
   have c1:(i:Int)<=(s.size:Int):=by omega
   have hi:=Bx (Da h0);clear h2 h3 h0;go_wp2_with fail
   go_quiet (fail);rename_i nq;go_wp2_with fail;go_meet
   case rel=>exact ⟨by rw [H2.out,E1.out i hi.out],by rw [H3.out,E2.out i],Bx ⟨nq,rfl⟩⟩
 case rest=>
  obtain ⟨rfl,rfl,hwc⟩:=hcut;have HT2:Hid (Tgb wc w.heap.size 0 E0 E0 E0 false):=by
   obtain ⟨n,hn⟩:=hwc.out
   exact Bx (hn ▸ HT1.out.below HG1.out (Base.below_drewN (An _ _) n))
  have HB2:Hid (Below w.heap.size w wc):=by
   obtain ⟨n,hn⟩:=hwc.out
   exact Bx (hn ▸ Base.below_drewN HB1.out n)
  have HG2:Hid (w.heap.size<wc.heap.size):=by
   obtain ⟨n,hn⟩:=hwc.out
   exact Bx (hn ▸ HG1.out)
  clear hwc HT1 HB1 HG1
  go_upto_if 22 with (go_at_call 288;with_reducible refine Cm (HS.out _) ?_)
  go_cut [5] from 12 (λr wx=>r=ZY (ba sl)/\wx=wc)
  case first=>
   by_cases hd:re.head?=some 47
   ·have H1:=Bx (HSl.out.trans (if_pos hd));rw [decide_eq_true hd];clear hd;go_wp2_with fail;go_meet
    case rel=>exact ⟨by rw [H1.out],rfl⟩
   ·have H1:=Bx (HSl.out.trans (if_neg hd));rw [decide_eq_false hd];clear hd;go_wp2_with fail;go_meet
    case rel=>exact ⟨by rw [H1.out,HBA.out],rfl⟩
  case rest=>
   obtain ⟨rfl,rfl⟩:=hcut;clear HS HBA HSl HSP E1 E2 E3 hv;generalize ba sl=SL at *;cases hor:origin sl with
   | none=>
     rw [hor] at HO hR;obtain rfl:none=R:=hR;have HO2:Hid (∀w,Calls EW 289 #[ZY SL] w λe w'=>e=.returned (ZT #[tv 0 E0 E0 E0 false,ZZ ZS 400])/\Below w.heap.size w w'):=HO;clear HO hor
     go_upto_if 36 with (go_at_call 289;with_reducible refine (HO2.out _).mono ?_;rintro e w2 ⟨rfl,hb⟩)
     have hb3:Below wc.heap.size wc (w2.alloc (.cells #[ZZ ZS 0,ZY E0,ZY E0,ZY E0,ZW false] 209)):=hb.alloc hb.size _;generalize w2.alloc (.cells #[ZZ ZS 0,ZY E0,ZY E0,ZY E0,ZW false] 209)=W3 at *;obtain ⟨c0,c1,c2,c3,c4,z0,z1,z2,z3,z4⟩:=HT2.out.below HG2.out hb3
     have HB:=Bx (Base.below_step HB2.out hb3);clear hb hb3 HT2 HB2 HG2;go_wp2_with fail;exact XXoUb
   | some u=>
     obtain ⟨_,f1,f2⟩:=putPath_origin hor;rw [hor] at HO hR;obtain ⟨uf,uh,up,uq,ua⟩:=u;simp only at f1 f2;subst f1 f2;have HO2:Hid (∀w,Calls EW 289 #[ZY SL] w λe w'=>e=.returned (ZT #[tv 1 E0 (ba up) (ba uq) ua,ZZ ZS 0])/\Below w.heap.size w w'):=HO;clear HO hor;simp only at hR;cases hh:hostB ho with
     | false=>
       rw [hh] at HH hR;obtain rfl:none=R:=hR
       go_upto_if 36 with (first
        |(go_at_call 289;with_reducible refine (HO2.out _).mono ?_;rintro e w2 ⟨rfl,hb⟩
          have hb3:Below wc.heap.size wc (w2.alloc (.cells #[ZZ ZS 1,ZY E0,ZY (ba up),ZY (ba uq),ZW ua] 209)):=hb.alloc hb.size _;clear hb)
        |(go_at_call 293;with_reducible refine (HH.out _).mono ?_;rintro e w4 ⟨rfl,hb4⟩))
       have hb':=Base.below_step hb3 hb4;obtain ⟨c0,c1,c2,c3,c4,z0,z1,z2,z3,z4⟩:=HT2.out.below HG2.out hb'
       have HB:=Bx (Base.below_step HB2.out hb');clear hb3 hb4 hb' HT2 HB2 HG2;go_wp2_with fail;exact XXoUb
     | true=>
       rw [hh] at HH hR;obtain rfl:some ⟨2,ho,up,uq,ua⟩=R:=hR
       go_upto_if 36 with (first
        |(go_at_call 289;with_reducible refine (HO2.out _).mono ?_;rintro e w2 ⟨rfl,hb⟩
          have hb3:Below wc.heap.size wc (w2.alloc (.cells #[ZZ ZS 1,ZY E0,ZY (ba up),ZY (ba uq),ZW ua] 209)):=hb.alloc hb.size _
          have HT5:=Bx (Tgb.new w2 209 1 E0 (ba up) (ba uq) ua)
          have HG5:=Bx (show w2.heap.size<(w2.alloc (.cells #[ZZ ZS 1,ZY E0,ZY (ba up),ZY (ba uq),ZW ua] 209)).heap.size by simp);have hne:w.heap.size<w2.heap.size:=Df HG2.out hb.size;clear hb)
        |(go_at_call 293;with_reducible refine (HH.out _).mono ?_;rintro e w4 ⟨rfl,hb4⟩))
       have hb':=Base.below_step hb3 hb4;obtain ⟨c0,c1,c2,c3,c4,z0,z1,z2,z3,z4⟩:=HT2.out.below HG2.out hb';obtain ⟨a0,a1,a2,a3,a4,y0,y1,y2,y3,y4⟩:=HT5.out.below HG5.out hb4
       have HB:=Bx (Base.below_step HB2.out hb');clear hb3 hb4 hb' HT2 HB2 HG2 HT5 HG5;have n1:¬w.heap.size=w2.heap.size:=by omega
       have n2:¬w2.heap.size=w.heap.size:=by omega
       generalize w2.heap.size=g7 at *;go_wp2_with fail
       have hB5:=(HB.out.setCell (p:=⟨g7,0,none⟩) (Da hne) (ZZ ZS 2)).setCell (p:=⟨g7,1,none⟩) (Da hne) (ZY (ba ho));obtain ⟨W,hW,⟨d0,d1,d2,d3,d4,_,_,_,_,_⟩,hbW⟩:=Tgb.put (((Tgb.mk c0 c1 c2 c3 c4 z0 z1 z2 z3 z4).other g7 0 (ZZ ZS 2) n2).other g7 1 (ZY (ba ho)) n2) hB5 (Db _) 2 (ba ho) (ba up) (ba uq) ua;rw [hW];exact bodyPost_ret (v:=ZT #[tv 2 (ba ho) (ba up) (ba uq) ua,ZZ ZS 0]) (by simp [results,Tryz.results290,go_sem,d0,d1,d2,d3,d4]) rfl ⟨rfl,hbW⟩
theorem toList_ba (m:ByteArray) (l:List UInt8):(m.toList==l)=decide (m.data.toList=l):=by rw [B9,Au,beq_iff_eq,decide_eq_true_eq]
theorem eq_facts (m:ByteArray) (l:List UInt8) (b:Bool) (h:decide (m.data.toList=l)=b):(m.toList==l)=b/\(m.toList==(ByteArray.mk l.toArray).toList)=b:=by have h1:=toList_ba m l;rw [h] at h1;exact ⟨h1,by rw [show (ByteArray.mk l.toArray).toList=l from B9 _];exact h1⟩
theorem ans_form (R:Option Tg):∃(f:Int) (h p q:ByteArray) (a:Bool) (e:Int),ans R=ZT #[tv f h p q a,ZZ ZS e]:=by
 cases R with
 | none=>exact ⟨_,_,_,_,_,_,rfl⟩
 | some t=>exact ⟨_,_,_,_,_,_,rfl⟩
theorem XXkkv {P:Prop} (h:P:=by
 by_cases h1:m.data.toList=options
 ·obtain ⟨t3,t4⟩:=eq_facts m [79,80,84,73,79,78,83] true (decide_eq_true h1)
  obtain ⟨t5,t6⟩:=eq_facts s [42] false (decide_eq_false λe=>ho ⟨h1,e⟩);exact .inr ⟨t3,t4,t5,t6⟩
 ·obtain ⟨t3,t4⟩:=eq_facts m [79,80,84,73,79,78,83] false (decide_eq_false h1)
  exact .inl ⟨t3,t4⟩):P:=h
theorem parse_any (m s:ByteArray) (w:World) (hs:s.size<=900000000):Calls EW 266 #[ZY m,ZY s] w λe w'=>e=.returned (ans (parse m.data.toList s.data.toList))/\Below w.heap.size w w':=by
 have HCC:=Bx (Tgb.new w 209 0 E0 E0 E0 false)
 have HWW:=Bx (show Below w.heap.size w (w.alloc (.cells #[ZZ ZS 0,ZY E0,ZY E0,ZY E0,ZW false] 209)) from (An _ _).alloc (Db _) _)
 have HG:=Bx (show w.heap.size<(w.alloc (.cells #[ZZ ZS 0,ZY E0,ZY E0,ZY E0,ZW false] 209)).heap.size by simp);by_cases hm:m.data.toList=connect
 ·have HA:=Bx (λw=>authority_any s w (by omega));rw [parse,if_pos hm]
  obtain ⟨t1,t2⟩:=eq_facts m [67,79,78,78,69,67,84] true (decide_eq_true hm);clear hm
  obtain ⟨f,h,p,q,a,en,hE⟩:=ans_form (authority s.data.toList);rw [hE] at HA ⊢;clear hE;go_enter Tryz.func266,Tryz.ntmps266
  go_wp2_with (go_at_call 287;with_reducible refine (HA.out _).mono ?_;rintro e w2 ⟨rfl,hb⟩
               obtain ⟨c0,c1,c2,c3,c4,z0,z1,z2,z3,z4⟩:=HCC.out.below HG.out hb
               have HB:=Bx (Base.below_step HWW.out hb);clear hb)
  obtain ⟨W,hW,⟨d0,d1,d2,d3,d4,_,_,_,_,_⟩,hbW⟩:=Tgb.put ⟨c0,c1,c2,c3,c4,z0,z1,z2,z3,z4⟩ HB.out (Db _) f h p q a;rw [hW];exact bodyPost_ret (v:=ZT #[tv f h p q a,ZZ ZS en]) (by simp [results,Tryz.results266,go_sem,d0,d1,d2,d3,d4]) rfl ⟨rfl,hbW⟩
 ·obtain ⟨t1,t2⟩:=eq_facts m [67,79,78,78,69,67,84] false (decide_eq_false hm);rw [parse,if_neg hm];clear hm;by_cases ho:m.data.toList=options/\s.data.toList= [42]
  ·obtain ⟨t3,t4⟩:=eq_facts m [79,80,84,73,79,78,83] true (decide_eq_true ho.1)
   obtain ⟨t5,t6⟩:=eq_facts s [42] true (decide_eq_true ho.2);rw [if_pos ho];clear ho HCC HWW HG;go_enter Tryz.func266,Tryz.ntmps266;go_wp2_with fail;exact bodyPost_ret (v:=ZT #[tv 4 E0 E0 E0 false,ZZ ZS 0]) (by simp [results,Tryz.results266,go_sem]) rfl ⟨rfl,(An _ _).alloc (Db _) _⟩
  ·rw [if_neg ho];have hno:((m.toList == [79,80,84,73,79,78,83])=false/\(m.toList==(ByteArray.mk #[79,80,84,73,79,78,83]).toList)=false)∨((m.toList == [79,80,84,73,79,78,83])=true/\(m.toList==(ByteArray.mk #[79,80,84,73,79,78,83]).toList)=true/\(s.toList == [42])=false/\(s.toList==(ByteArray.mk #[42]).toList)=false):=by
    exact XXkkv
   clear ho
   have HS:=Bx (λw=>slash_any s w);by_cases hd:s.data.toList.head?=some 47
   ·rw [decide_eq_true hd] at HS;rw [if_pos hd];clear hd
    have HO:=Bx (λw=>origin_any s w (by omega))
    obtain ⟨f,h,p,q,a,en,hE⟩:=ans_form (origin s.data.toList);rw [hE] at HO ⊢;clear hE;rcases hno with ⟨t3,t4⟩ | ⟨t3,t4,t5,t6⟩;all_goals
     go_enter Tryz.func266,Tryz.ntmps266
     go_wp2_with (first
      |(go_at_call 288;with_reducible refine Cm (HS.out _) ?_)
      |(go_at_call 289;with_reducible refine (HO.out _).mono ?_;rintro e w2 ⟨rfl,hb⟩
        obtain ⟨c0,c1,c2,c3,c4,z0,z1,z2,z3,z4⟩:=HCC.out.below HG.out hb
        have HB:=Bx (Base.below_step HWW.out hb);clear hb))
     obtain ⟨W,hW,⟨d0,d1,d2,d3,d4,_,_,_,_,_⟩,hbW⟩:=Tgb.put ⟨c0,c1,c2,c3,c4,z0,z1,z2,z3,z4⟩ HB.out (Db _) f h p q a;rw [hW];exact bodyPost_ret (v:=ZT #[tv f h p q a,ZZ ZS en]) (by simp [results,Tryz.results266,go_sem,d0,d1,d2,d3,d4]) rfl ⟨rfl,hbW⟩
   ·rw [decide_eq_false hd] at HS;rw [if_neg hd];clear hd;by_cases h7:7<=s.size
    ·have q7:(7:Int)<=(s.size:Int):=by omega
     have x1:(s.extract 0 7).data.toList=s.data.toList.take 7:=by rw [Bu];simp
     have hx1:(s.extract 0 7).size<=maxLen:=by rw [←len,x1,C0];unfold maxLen;omega
     have HM:=Bx (λw=>Txt.same_any (s.extract 0 7) ⟨#[104,116,116,112,58,47,47]⟩ w hx1);have hsm:same (s.extract 0 7) ⟨#[104,116,116,112,58,47,47]⟩=schemed s.data.toList:=by unfold same schemed;rw [x1,len,decide_eq_true h7];rfl
     rw [hsm] at HM;clear x1 hx1 hsm h7;cases hsc:schemed s.data.toList with
     | true=>
       rw [hsc] at HM;rw [if_pos rfl];have x2:=drop_ext s 7
       have HO:=Bx (λw=>absolute_any (s.extract 7 s.size) w (by rw [←len,x2,Cu,len];omega));rw [x2] at HO
       obtain ⟨f,h,p,q,a,en,hE⟩:=ans_form (absolute (s.data.toList.drop 7));rw [hE] at HO ⊢;clear hE x2 hsc;rcases hno with ⟨t3,t4⟩ | ⟨t3,t4,t5,t6⟩;all_goals
        go_enter Tryz.func266,Tryz.ntmps266
        go_wp2_with (first
         |(go_at_call 288;with_reducible refine Cm (HS.out _) ?_)
         |(go_at_call 145;with_reducible refine (HM.out _).mono ?_;rintro e w2 ⟨rfl,hb⟩)
         |(go_at_call 290;with_reducible refine (HO.out _).mono ?_;rintro e w3 ⟨rfl,hb3⟩
           have hb':=Base.below_step hb hb3;obtain ⟨c0,c1,c2,c3,c4,z0,z1,z2,z3,z4⟩:=HCC.out.below HG.out hb'
           have HB:=Bx (Base.below_step HWW.out hb');clear hb hb3 hb'))
        obtain ⟨W,hW,⟨d0,d1,d2,d3,d4,_,_,_,_,_⟩,hbW⟩:=Tgb.put ⟨c0,c1,c2,c3,c4,z0,z1,z2,z3,z4⟩ HB.out (Db _) f h p q a;rw [hW];exact bodyPost_ret (v:=ZT #[tv f h p q a,ZZ ZS en]) (by simp [results,Tryz.results266,go_sem,d0,d1,d2,d3,d4]) rfl ⟨rfl,hbW⟩
     | false=>
       rw [hsc] at HM;rw [if_neg (by decide)];clear hsc;rcases hno with ⟨t3,t4⟩ | ⟨t3,t4,t5,t6⟩;all_goals
        go_enter Tryz.func266,Tryz.ntmps266
        go_wp2_with (first
         |(go_at_call 288;with_reducible refine Cm (HS.out _) ?_)
         |(go_at_call 145;with_reducible refine (HM.out _).mono ?_;rintro e w2 ⟨rfl,hb⟩
           obtain ⟨c0,c1,c2,c3,c4,z0,z1,z2,z3,z4⟩:=HCC.out.below HG.out hb
           have HB:=Bx (Base.below_step HWW.out hb);clear hb))
        obtain ⟨W,hW,⟨d0,d1,d2,d3,d4,_,_,_,_,_⟩,hbW⟩:=Tgb.put ⟨c0,c1,c2,c3,c4,z0,z1,z2,z3,z4⟩ HB.out (Db _) 0 E0 E0 E0 false;rw [hW];exact bodyPost_ret (v:=ZT #[tv 0 E0 E0 E0 false,ZZ ZS 400]) (by simp [results,Tryz.results266,go_sem,d0,d1,d2,d3,d4]) rfl ⟨rfl,hbW⟩
    ·have q7:¬(7:Int)<=(s.size:Int):=by omega
     have hsc:schemed s.data.toList=false:=by unfold schemed;rw [len,decide_eq_false h7,Av]
     rw [hsc,if_neg (by decide)];clear hsc h7 HCC HWW HG;rcases hno with ⟨t3,t4⟩ | ⟨t3,t4,t5,t6⟩;all_goals
      go_enter Tryz.func266,Tryz.ntmps266
      go_wp2_with (go_at_call 288;with_reducible refine Cm (HS.out _) ?_);exact bodyPost_ret (v:=ZT #[tv 0 E0 E0 E0 false,ZZ ZS 400]) (by simp [results,Tryz.results266,go_sem]) rfl ⟨rfl,(An _ _).alloc (Db _) _⟩
end
end Go.Proofs.YtdfabddnpgjepaaGreatDoor.Tgt
namespace Go.Proofs.YtdfabddnpgjepaaGreatDoor.Bnd
open Go.RowKit Base
def mid (lo n hi:Int):Int:=if lo<(if n > hi then hi else n) then (if n > hi then hi else n) else lo
def inside (n lo hi:Int):Bool:=decide (lo<=n)&&decide (n<=hi)
theorem mid_iff (lo n hi:Int) (h:lo<=hi):(n=mid lo n hi)↔inside n lo hi=true:=by
 unfold mid inside;simp only [Ao,decide_eq_true_eq];constructor
 ·intro e;split at e<;> (try split at e)<;>omega
 ·intro e;split<;> (try split)<;>omega
abbrev bnd (x0 x1 x2 x3 x4 x5 x6 x7:Int) (c d:Bool):Value:=ZU #[ZZ ZS x0,ZZ ZS x1,ZZ ZS x2,ZZ ZS x3,ZZ ZS x4,ZZ ZS x5,ZZ ZS x6,ZZ ZS x7,ZW c,ZW d]
def right (x0 x1 x2 x3 x4 x5 x6 x7:Int):Bool:=
 inside x0 64 4096&&(inside x1 4 100&&(inside x2 256 65536&&(inside x3 16 1048576&&(inside x4 0 256&&(inside x5 0 100&&(inside x6 1 16&&inside x7 1 1000))))))
structure At (w:World) (g:Nat) (x0 x1 x2 x3 x4 x5 x6 x7:Int) (c d:Bool):Prop where
 q0:w.cell? ⟨g,0,none⟩=some (ZZ ZS x0)
 q1:w.cell? ⟨g,1,none⟩=some (ZZ ZS x1)
 q2:w.cell? ⟨g,2,none⟩=some (ZZ ZS x2)
 q3:w.cell? ⟨g,3,none⟩=some (ZZ ZS x3)
 q4:w.cell? ⟨g,4,none⟩=some (ZZ ZS x4)
 q5:w.cell? ⟨g,5,none⟩=some (ZZ ZS x5)
 q6:w.cell? ⟨g,6,none⟩=some (ZZ ZS x6)
 q7:w.cell? ⟨g,7,none⟩=some (ZZ ZS x7)
 q8:w.cell? ⟨g,8,none⟩=some (ZW c)
 q9:w.cell? ⟨g,9,none⟩=some (ZW d)
section
variable {w w':World} {g:Nat} {x0 x1 x2 x3 x4 x5 x6 x7:Int} {c d:Bool}
theorem At.below (h:At w g x0 x1 x2 x3 x4 x5 x6 x7 c d) (hg:g<w.heap.size) (hb:Below w.heap.size w w'):At w' g x0 x1 x2 x3 x4 x5 x6 x7 c d:=
 ⟨(hb.cell (p:=⟨g,0,none⟩) hg).trans h.q0,(hb.cell (p:=⟨g,1,none⟩) hg).trans h.q1,(hb.cell (p:=⟨g,2,none⟩) hg).trans h.q2,(hb.cell (p:=⟨g,3,none⟩) hg).trans h.q3,(hb.cell (p:=⟨g,4,none⟩) hg).trans h.q4,
  (hb.cell (p:=⟨g,5,none⟩) hg).trans h.q5,(hb.cell (p:=⟨g,6,none⟩) hg).trans h.q6,(hb.cell (p:=⟨g,7,none⟩) hg).trans h.q7,(hb.cell (p:=⟨g,8,none⟩) hg).trans h.q8,(hb.cell (p:=⟨g,9,none⟩) hg).trans h.q9⟩
theorem At.new (w:World) (t:TypeId) (x0 x1 x2 x3 x4 x5 x6 x7:Int) (c d:Bool):At (w.alloc (.cells #[ZZ ZS x0,ZZ ZS x1,ZZ ZS x2,ZZ ZS x3,ZZ ZS x4,ZZ ZS x5,ZZ ZS x6,ZZ ZS x7,ZW c,ZW d] t)) w.heap.size x0 x1 x2 x3 x4 x5 x6 x7 c d:=by
 have h:∀k v,(#[Value.int .i64 x0,ZZ ZS x1,ZZ ZS x2,ZZ ZS x3,ZZ ZS x4,ZZ ZS x5,ZZ ZS x6,ZZ ZS x7,ZW c,ZW d]:Array Value)[k]?=some v->(w.alloc (.cells #[ZZ ZS x0,ZZ ZS x1,ZZ ZS x2,ZZ ZS x3,ZZ ZS x4,ZZ ZS x5,ZZ ZS x6,ZZ ZS x7,ZW c,ZW d] t)).cell? ⟨w.heap.size,k,none⟩=some v:=
  λk v h=>(cell_of_row (w.alloc _) w.heap.size k _ t (0,0) (heap_alloc_new w _)).trans h
 exact ⟨h 0 _ rfl,h 1 _ rfl,h 2 _ rfl,h 3 _ rfl,h 4 _ rfl,h 5 _ rfl,h 6 _ rfl,h 7 _ rfl,h 8 _ rfl,h 9 _ rfl⟩
end
section
set_option maxHeartbeats 1000000
theorem between_any (lo n hi:Int) (w:World):Calls EW 152 #[ZZ ZS lo,ZZ ZS n,ZZ ZS hi] w λe w'=>e=.returned (ZZ ZS (mid lo n hi))/\w'=w:=by
 go_enter Tryz.func152,Tryz.ntmps152;go_wp2;all_goals
  go_ret;exact ⟨ret_int (by unfold mid;(repeat' split)<;>omega),rfl⟩
theorem rwithin_any (n lo hi:Int) (w:World):Calls EW 87 #[ZZ ZS n,ZZ ZS lo,ZZ ZS hi] w λe w'=>e=.returned (ZW (inside n lo hi))/\w'=w:=by
 rcases Int.lt_or_le n lo with h | h
 ·go_enter Tryz.func87,Tryz.ntmps87;go_wp2;go_ret;exact ⟨ret_bool (by simp only [inside,decide_eq_false (Int.not_le.2 h),Av]),rfl⟩
 ·go_enter Tryz.func87,Tryz.ntmps87;go_wp2;go_ret;exact ⟨ret_bool (by simp only [inside,decide_eq_true h,A5]),rfl⟩
theorem rusual_any (w:World):Calls EW 47 #[] w λe w'=>e=.returned (bnd 1024 32 8192 65536 32 8 4 20 true true)/\Below w.heap.size w w':=by go_enter Tryz.func47,Tryz.ntmps47;go_wp2;exact bodyPost_ret (v:=bnd _ _ _ _ _ _ _ _ _ _) (by simp [results,Tryz.results47,go_sem]) rfl ⟨rfl,(An _ _).alloc (Db _) _⟩
theorem rusual_exact (w:World):Calls EW 47 #[] w λe w'=>e=.returned (bnd 1024 32 8192 65536 32 8 4 20 true true)
 /\w'=w.alloc (.cells #[ZZ ZS 1024,ZZ ZS 32,ZZ ZS 8192,ZZ ZS 65536,ZZ ZS 32,ZZ ZS 8,ZZ ZS 4,ZZ ZS 20,ZW true,ZW true] 29):=by
 go_enter Tryz.func47,Tryz.ntmps47;go_wp2;exact bodyPost_ret (v:=bnd _ _ _ _ _ _ _ _ _ _) (by simp [results,Tryz.results47,go_sem]) rfl ⟨rfl,rfl⟩
theorem within_any (x0 x1 x2 x3 x4 x5 x6 x7:Int) (c d:Bool) (w:World):Calls EW 111 #[bnd x0 x1 x2 x3 x4 x5 x6 x7 c d] w
 λe w'=>e=.returned (bnd (mid 64 x0 4096) (mid 4 x1 100) (mid 256 x2 65536) (mid 16 x3 1048576) (mid 0 x4 256) (mid 0 x5 100) (mid 1 x6 16) (mid 1 x7 1000) c d)/\Below w.heap.size w w':=by
 go_enter Tryz.func111,Tryz.ntmps111
 go_wp2_with (go_at_call 152;with_reducible refine Cm (between_any _ _ _ _) ?_);exact bodyPost_ret (v:=bnd _ _ _ _ _ _ _ _ _ _) (by simp [results,Tryz.results111,go_sem]) rfl ⟨rfl,((An _ _).alloc (Db _) _).alloc (by simp) _⟩
theorem right_any (x0 x1 x2 x3 x4 x5 x6 x7:Int) (c d:Bool) (w:World):Calls EW 67 #[bnd x0 x1 x2 x3 x4 x5 x6 x7 c d] w
 λe w'=>e=.returned (ZW (right x0 x1 x2 x3 x4 x5 x6 x7))/\Below w.heap.size w w':=by
 go_enter Tryz.func67,Tryz.ntmps67;go_wp2_with fail;have hc:=At.new w 29 x0 x1 x2 x3 x4 x5 x6 x7 c d;have hW:Below w.heap.size w (w.alloc (.cells #[ZZ ZS x0,ZZ ZS x1,ZZ ZS x2,ZZ ZS x3,ZZ ZS x4,ZZ ZS x5,ZZ ZS x6,ZZ ZS x7,ZW c,ZW d] 29)):=(An _ _).alloc (Db _) _;have hgg:w.heap.size<(w.alloc (.cells #[ZZ ZS x0,ZZ ZS x1,ZZ ZS x2,ZZ ZS x3,ZZ ZS x4,ZZ ZS x5,ZZ ZS x6,ZZ ZS x7,ZW c,ZW d] 29)).heap.size:=by simp
 generalize w.alloc (.cells #[ZZ ZS x0,ZZ ZS x1,ZZ ZS x2,ZZ ZS x3,ZZ ZS x4,ZZ ZS x5,ZZ ZS x6,ZZ ZS x7,ZW c,ZW d] 29)=W at *;generalize hgw:w.heap.size=g at *;refine Sched.region [(0,false),(1,false),(2,true),(3,false),(4,false)] (λw'=>Below W.heap.size W w') (by kernel_rfl) (by kernel_rfl) (λ_ _ d _ _ h=>by cases d<;>exact h) (Base.below_drewN (An _ _) 1) ?_;simp only [Sched.picked,List.filterMap_cons,List.filterMap_nil,BZ,BY,Option.map_some]
 iterate 2
  refine Sched.quiet (by rfl) ?_ ?_ ?_
  rotate_left 1
  ·intro w' hS;obtain ⟨q0,q1,q2,q3,q4,q5,q6,q7,q8,q9⟩:=hc.below hgg hS;clear hS;go_simp;with_reducible rfl
  simp only [Ab,CH,CK,CJ]
 refine Sched.change (by rfl) (λK hK=>?_);go_simp;with_reducible refine (within_any _ _ _ _ _ _ _ _ _ _ _).mono ?_
 rintro e w1 ⟨rfl,hb⟩;dsimp only;have hb1:Below W.heap.size W w1:=(Base.below_drewN (An _ _) 1).trans hb;refine hK _ _ hb1 ?_;clear hK K;refine Sched.quiet (by rfl) (ZW (right x0 x1 x2 x3 x4 x5 x6 x7)) ?_ ?_
 ·intro w' hS;go_simp;simp only [mid_iff 64 x0 4096 (by decide),mid_iff 4 x1 100 (by decide),mid_iff 256 x2 65536 (by decide),mid_iff 16 x3 1048576 (by decide),mid_iff 0 x4 256 (by decide),mid_iff 0 x5 100 (by decide),mid_iff 1 x6 16 (by decide),mid_iff 1 x7 1000 (by decide)];unfold right;cases inside x0 64 4096;·rfl
  cases inside x1 4 100;·rfl
  cases inside x2 256 65536;·rfl
  cases inside x3 16 1048576;·rfl
  cases inside x4 0 256;·rfl
  cases inside x5 0 100;·rfl
  cases inside x6 1 16;·rfl
  cases inside x7 1 1000<;>rfl
 simp only [Ab,CH,CK,CJ];refine Sched.assign _ (by rfl) (by rfl) ?_;simp only [Ab,Act.eval,Ag,Cg,BZ,BY,Ds,CH,CK,CJ];refine Sched.done ?_;go_wp2;go_ret;subst hgw;exact ⟨rfl,hW.trans (Below.mono hb1 hW.size)⟩
attribute [local go_sem] Base.some_undef
theorem rright_any (x0 x1 x2 x3 x4 x5 x6 x7:Int) (c d:Bool) (w:World):Calls EW 43 #[bnd x0 x1 x2 x3 x4 x5 x6 x7 c d] w
 λe w'=>e=.returned (ZW (right x0 x1 x2 x3 x4 x5 x6 x7))/\Below w.heap.size w w':=by
 have H0:=Bx (rwithin_any x0 64 4096);have H1:=Bx (rwithin_any x1 4 100);have H2:=Bx (rwithin_any x2 256 65536);have H3:=Bx (rwithin_any x3 16 1048576)
 have H4:=Bx (rwithin_any x4 0 256);have H5:=Bx (rwithin_any x5 0 100);have H6:=Bx (rwithin_any x6 1 16);have H7:=Bx (rwithin_any x7 1 1000);unfold right;generalize inside x0 64 4096=b0 at *;generalize inside x1 4 100=b1 at *;generalize inside x2 256 65536=b2 at *;generalize inside x3 16 1048576=b3 at *;generalize inside x4 0 256=b4 at *;generalize inside x5 0 100=b5 at *;generalize inside x6 1 16=b6 at *;generalize inside x7 1 1000=b7 at *;cases b0;rotate_left 1;cases b1;rotate_left 1;cases b2;rotate_left 1;cases b3;rotate_left 1;cases b4;rotate_left 1;cases b5;rotate_left 1;cases b6;all_goals
  go_enter Tryz.func43,Tryz.ntmps43
  go_wp2_with (go_at_call 87;first
   |(with_reducible refine Cm (H0.out _) ?_)
   |(with_reducible refine Cm (H1.out _) ?_)
   |(with_reducible refine Cm (H2.out _) ?_)
   |(with_reducible refine Cm (H3.out _) ?_)
   |(with_reducible refine Cm (H4.out _) ?_)
   |(with_reducible refine Cm (H5.out _) ?_)
   |(with_reducible refine Cm (H6.out _) ?_)
   |(with_reducible refine Cm (H7.out _) ?_))
  go_ret;exact ⟨rfl,(An _ _).alloc (Db _) _⟩
end
end Go.Proofs.YtdfabddnpgjepaaGreatDoor.Bnd
namespace Go.Proofs.YtdfabddnpgjepaaGreatDoor.Qk
open Go.RowKit Base
def known (c:Int):Bool:=decide (0<=c)&&decide (c<30)
def bitOf (c:Int):Nat:=if known c then 2^c.toNat else 0
def has (p:Nat) (c:Int):Bool:=known c&&p.testBit c.toNat
def ofL (zs:List Int):Nat:=zs.foldl (λp c=>p ||| bitOf c) 0
def upTo (p n:Nat):List Int:=((CE n).filter λc=>p.testBit c).map λc:Nat=>(c:Int)
def names:List (List UInt8):=
 [[101,109,112,116,121],
  [98,97,114,101,108,102],
  [98,97,114,101,99,114],
  [98,108,97,110,107,115],
  [109,105,110,111,114],
  [97,110,121,99,97,115,101],
  [110,111,118,101,114,115,105,111,110],
  [115,112,97,99,101,115],
  [99,111,110,116,114,111,108,115],
  [99,111,108,111,110,115,112,97,99,101],
  [110,97,109,101,98,121,116,101,115],
  [110,111,99,111,108,111,110],
  [110,111,110,97,109,101],
  [102,111,108,100],
  [118,97,108,117,101,98,121,116,101,115],
  [110,111,104,111,115,116],
  [109,97,110,121,104,111,115,116,115],
  [116,101,98,108,97,110,107,115],
  [116,101,108,105,115,116],
  [116,101,105,103,110,111,114,101],
  [116,101,111,108,100],
  [116,101,119,105,110,115],
  [99,108,119,105,110,115],
  [99,108,112,108,117,115],
  [99,108,99,111,109,109,97],
  [99,108,102,105,114,115,116],
  [99,108,108,97,115,116],
  [99,104,117,110,107,104,101,120],
  [99,104,117,110,107,98,108,97,110,107,115],
  [99,104,117,110,107,101,110,100]]
def nm (k:Nat):ByteArray:=⟨(names[k]?.getD []).toArray⟩
def nameOf (c:Int):ByteArray:=if known c then nm c.toNat else A8
def findOf (s:ByteArray):Option Nat:=names.findIdx? λn=>n==s.data.toList
def needs (c:Int) (p:Nat) (ch old:Bool):Bool:=
 if c=6 then old else if c=17 then has p 14 else if c=18∨c=21∨c=27∨c=28∨c=29 then ch
 else if c=20 then old&&(ch||has p 19||has p 22 && !has p 21) else if c=22 then !has p 21 else if c=26 then !has p 25 else known c
theorem known_iff (c:Int):known c=true↔0<=c/\c<30:=by simp [known]
theorem bitOf_lt (c:Int):bitOf c<2^30:=by
 unfold bitOf;split
 ·rename_i h;have:=(known_iff c).1 h
  exact Nat.pow_lt_pow_right (by decide) (by omega)
 ·decide
theorem and_bitOf (p:Nat) (c:Int):(p &&& bitOf c≠0)↔has p c=true:=by
 unfold bitOf has;by_cases h:known c=true
 ·simp only [h,if_true,A5];constructor
  ·intro h1;cases hb:p.testBit c.toNat with
   | true=>rfl
   | false=>
     exfalso;apply h1;apply Nat.eq_of_testBit_eq;intro i;rw [Nat.testBit_and,Nat.testBit_two_pow,Nat.zero_testBit];by_cases hi:c.toNat=i
     ·subst hi;simp [hb]
     ·simp [hi]
  ·intro h1 h2;have:=congrArg (·.testBit c.toNat) h2;simp [Nat.testBit_and,h1] at this
 ·simp [h]
theorem ofL_snoc (zs:List Int) (c:Int):ofL (zs ++ [c])=ofL zs ||| bitOf c:=by simp [ofL]
theorem or_lt30 {a b:Nat} (ha:a<2^30) (hb:b<2^30):a ||| b<2^30:=Nat.or_lt_two_pow ha hb
theorem foldl_or (zs:List Int):∀a:Nat,zs.foldl (λp c=>p ||| bitOf c) a=a ||| zs.foldl (λp c=>p ||| bitOf c) 0:=by
 induction zs with
 | nil=>intro a;simp
 | cons z zs ih=>intro a;simp only [List.foldl_cons,Nat.zero_or];rw [ih (a ||| bitOf z),ih (bitOf z),Nat.or_assoc]
theorem ofL_append (a b:List Int):ofL (a++b)=ofL a ||| ofL b:=by unfold ofL;rw [List.foldl_append,foldl_or]
theorem ofL_lt (zs:List Int):ofL zs<2^30:=by
 induction zs with
 | nil=>decide
 | cons z zs ih=>rw [show z::zs= [z]++zs from rfl,ofL_append];exact or_lt30 (by simpa [ofL] using bitOf_lt z) ih
end Go.Proofs.YtdfabddnpgjepaaGreatDoor.Qk
namespace Go.Proofs.YtdfabddnpgjepaaGreatDoor.Qk
open Go.RowKit Base
theorem shl_one (c:Int) (h0:0<=c) (h1:c<30):(2:Int)^c.toNat%4294967296=((2^c.toNat:Nat):Int):=by
 have h:(2:Nat)^c.toNat<2^30:=Nat.pow_lt_pow_right (by decide) (by omega);have h2:(((2:Nat)^c.toNat:Nat):Int)=(2:Int)^c.toNat:=by rw [Int.natCast_pow];rfl
 rw [←h2];clear h2;generalize (2:Nat)^c.toNat=q at *;omega
theorem shr_bit (p:Nat) (hp:p<4294967296) (n:Nat):(bits BinOp.and IntKind.u32 ((p:Int)/2^n) 1==1)=true↔p.testBit n=true:=by
 have h:((p:Int)/2^n)=((p/2^n:Nat):Int):=by rw [Int.natCast_ediv,Int.natCast_pow];rfl
 have h1:p/2^n<4294967296:=Nat.lt_of_le_of_lt (Nat.div_le_self _ _) hp;rw [h,show (1:Int)=((1:Nat):Int) from rfl,u32_and_nat _ 1 h1 (by decide),Nat.testBit_eq_decide_div_mod_eq,Nat.and_one_is_mod,beq_iff_eq,decide_eq_true_eq];omega
section
set_option maxHeartbeats 1000000
theorem known_any (c:Int) (w:World):Calls EW 128 #[ZZ ZS c] w λe w'=>e=.returned (ZW (known c))/\w'=w:=by
 rcases Int.lt_or_le c 0 with h | h
 ·go_enter Tryz.func128,Tryz.ntmps128;go_wp2;go_ret;exact ⟨ret_bool (by simp [known];omega),rfl⟩
 ·go_enter Tryz.func128,Tryz.ntmps128;go_wp2;go_ret;exact ⟨ret_bool (by simp [known];omega),rfl⟩
theorem XXFUW {P:Prop} (h:P:=by
 go_enter Tryz.func125,Tryz.ntmps125
 go_wp2_with (go_at_call 128;with_reducible refine Cm (H.out _) ?_);go_ret;first
  |exact ⟨ret_int (by (simp [bitOf,hk]);first|done|fail),rfl⟩
  |exact ⟨ret_int (by (simp only [bitOf,hk,if_true];exact shl_one c h0 h1);first|done|fail),rfl⟩):P:=h
theorem bit_any (c:Int) (w:World):Calls EW 125 #[ZZ ZS c] w λe w'=>e=.returned (ZZ ZQ (bitOf c:Nat))/\w'=w:=by
 have H:=Bx (known_any c)
 have K:=Bx (known_iff c);generalize hk:known c=k at *;cases k
 ·exact XXFUW
 ·obtain ⟨h0,h1⟩:=K.out.1 rfl;exact XXFUW
theorem has_any (p:Nat) (hp:p<4294967296) (c:Int) (w:World):Calls EW 84 #[ZZ ZQ p,ZZ ZS c] w λe w'=>e=.returned (ZW (has p c))/\w'=w:=by
 have H:=Bx (bit_any c)
 have K:=Bx (and_bitOf p c);have hb:=bitOf_lt c;generalize bitOf c=q at *;go_enter Tryz.func84,Tryz.ntmps84
 go_wp2_with (go_at_call 125;with_reducible refine Cm (H.out _) ?_);go_ret;exact ⟨ret_bool (by rw [u32_and_nat p q hp (by omega),←K.out];simp),rfl⟩
theorem rhas_any (p:Nat) (hp:p<4294967296) (c:Int) (w:World):Calls EW 44 #[ZZ ZQ p,ZZ ZS c] w λe w'=>e=.returned (ZW (has p c))/\w'=w:=by
 have K:=Bx (known_iff c);rcases Int.lt_or_le c 0 with h | h
 ·go_enter Tryz.func44,Tryz.ntmps44;go_wp2;go_ret;exact ⟨ret_bool (by simp [has,known];omega),rfl⟩
 ·rcases Int.lt_or_le c 30 with h3 | h3
  ·go_enter Tryz.func44,Tryz.ntmps44;go_wp2;go_ret;exact ⟨ret_bool ((shr_bit p hp c.toNat).trans (by simp [has,known,h,h3])),rfl⟩
  ·go_enter Tryz.func44,Tryz.ntmps44;go_wp2;go_ret;exact ⟨ret_bool (by simp [has,known];omega),rfl⟩
theorem right_any (p:Nat) (hp:p<4294967296) (w:World):Calls EW 66 #[ZZ ZQ p] w λe w'=>e=.returned (ZW (decide (p<1073741824)))/\w'=w:=by go_enter Tryz.func66,Tryz.ntmps66;go_wp2;go_ret;exact ⟨ret_bool (by rw [beq_iff_eq,decide_eq_true_eq];omega),rfl⟩
theorem rright_any (p:Nat) (hp:p<4294967296) (w:World):Calls EW 69 #[ZZ ZQ p] w λe w'=>e=.returned (ZW (decide (p<1073741824)))/\w'=w:=by go_enter Tryz.func69,Tryz.ntmps69;go_wp2;go_ret;exact ⟨ret_bool (by rw [decide_eq_true_eq,decide_eq_true_eq];omega),rfl⟩
abbrev NamesAt (w:World) (g:Nat):Prop:=g<w.heap.size/\∀k,k<30->w.cell? ⟨g,k,none⟩=some (ZY (nm k))
attribute [local go_sem] Base.some_undef
end
end Go.Proofs.YtdfabddnpgjepaaGreatDoor.Qk
