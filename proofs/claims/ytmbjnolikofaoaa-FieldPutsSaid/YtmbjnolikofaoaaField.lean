/-
  Layer 9 (field): the contracts of package field: Parse, Goes, Join, Right, Put, at any line, any profile.
-/
import Derived.Test.YtmbjnolikofaoaaFieldWords
import Derived.Test.YtmbjnolikofaoaaText
import Derived.Test.YtmbjnolikofaoaaSeat
import Derived.WalkKit
import Derived.WalkMore
import Derived.Deep.QuietTactic
import Derived.BigQuiet
import Derived.Deep.RegionWith
namespace Go.Proofs.Ytmbjnolikofaoaa.Fd
open Go.RowKit Base Txt Tgt

theorem first_no (s : ByteArray) (h : 0 < s.size) : s.toList.isEmpty = false := by
  have e : s.toList = s.data.toList := Lib.toList_data s
  rw [e, List.isEmpty_eq_false_iff]
  intro h0
  have : s.size = 0 := by rw [← len, h0]; rfl
  omega
theorem ba_pos {n : List UInt8} (h : n ≠ []) : 0 < (ba n).size := by
  rw [ba_size]; exact List.length_pos_iff.2 h

/-- A block that the call made holds a field, and may be written. -/
structure Fb (w : World) (g : Nat) (n v : ByteArray) : Prop where
  c0 : w.cell? ⟨g, 0, none⟩ = some (.string n)
  c1 : w.cell? ⟨g, 1, none⟩ = some (.string v)
  z0 : w.frozen? ⟨g, 0, none⟩ = false
  z1 : w.frozen? ⟨g, 1, none⟩ = false
theorem Fb.below {w w' : World} {g : Nat} {n v : ByteArray} (H : Fb w g n v) (hg : g < w.heap.size) (hb : Below w.heap.size w w') : Fb w' g n v :=
  ⟨(hb.cell (p := ⟨g, 0, none⟩) hg).trans H.c0, (hb.cell (p := ⟨g, 1, none⟩) hg).trans H.c1, (hb.frozen (p := ⟨g, 0, none⟩) hg).trans H.z0, (hb.frozen (p := ⟨g, 1, none⟩) hg).trans H.z1⟩
theorem Fb.new (w : World) (t : TypeId) (n v : ByteArray) : Fb (w.alloc (.cells #[.string n, .string v] t)) w.heap.size n v := by
  have hh := heap_alloc_new w (.cells #[.string n, .string v] t)
  have c : ∀ k u, (#[Value.string n, .string v] : Array Value)[k]? = some u → (w.alloc (.cells #[.string n, .string v] t)).cell? ⟨w.heap.size, k, none⟩ = some u :=
    fun k u e => (cell_of_row (w.alloc _) w.heap.size k _ t (0, 0) hh).trans e
  have z : ∀ k, (w.alloc (.cells #[.string n, .string v] t)).frozen? ⟨w.heap.size, k, none⟩ = false := fun k => by unfold World.frozen?; simp only [hh]; simp
  exact ⟨c 0 _ rfl, c 1 _ rfl, z 0, z 1⟩
theorem Fb.put {B : Nat} {w0 w : World} {g : Nat} {n v : ByteArray} (H : Fb w g n v) (hb : Below B w0 w) (hg : B ≤ g) (n' v' : ByteArray) :
    ∃ W, (w.setCell ⟨g, 0, none⟩ (.string n')).setCell ⟨g, 1, none⟩ (.string v') = W ∧ Fb W g n' v' ∧ Below B w0 W := by
  obtain ⟨c0, c1, z0, z1⟩ := H
  refine ⟨_, rfl, ⟨?_, ?_, ?_, ?_⟩, (hb.setCell hg _).setCell hg _⟩
  all_goals go_simp
theorem Fb.other {w : World} {g : Nat} {n v : ByteArray} (H : Fb w g n v) (g' o : Nat) (u : Value) (n2 : ¬ g' = g) : Fb (w.setCell ⟨g', o, none⟩ u) g n v := by
  obtain ⟨c0, c1, z0, z1⟩ := H
  refine ⟨?_, ?_, ?_, ?_⟩
  all_goals go_simp
/-- The result's block, made first, carried through what the call does. -/
structure Keep (w0 : World) (n v : ByteArray) (w : World) : Prop where
  f : Fb w w0.heap.size n v
  g : w0.heap.size < w.heap.size
  b : Below w0.heap.size w0 w
theorem Keep.new (w : World) (t : TypeId) (n v : ByteArray) : Keep w n v (w.alloc (.cells #[.string n, .string v] t)) :=
  ⟨Fb.new w t n v, by simp, (Below.refl _ _).alloc (Nat.le_refl _) _⟩
theorem Keep.step {w0 w w' : World} {n v : ByteArray} (h : Keep w0 n v w) (hb : Below w.heap.size w w') : Keep w0 n v w' :=
  ⟨h.f.below h.g hb, Nat.lt_of_lt_of_le h.g hb.size, Base.below_step h.b hb⟩
theorem Keep.drew {w0 w : World} {n v : ByteArray} (h : Keep w0 n v w) (m : Nat) : Keep w0 n v (w.drewN m) := h.step (Base.below_drewN (Below.refl _ _) m)
/-- .. and a second field's block that the call made. -/
structure Two (w0 : World) (n v : ByteArray) (t : Nat) (N V : ByteArray) (w : World) : Prop where
  k : Keep w0 n v w
  f : Fb w t N V
  ne : ¬ t = w0.heap.size
  lt : t < w.heap.size
  ge : w0.heap.size ≤ t
theorem Two.new {w0 w : World} {n v : ByteArray} (h : Keep w0 n v w) (ty : TypeId) (N V : ByteArray) : Two w0 n v w.heap.size N V (w.alloc (.cells #[.string N, .string V] ty)) :=
  ⟨h.step ((Below.refl _ _).alloc (Nat.le_refl _) _), Fb.new w ty N V, by have := h.g; omega, by simp, by have := h.g; omega⟩
theorem Two.step {w0 w w' : World} {n v N V : ByteArray} {t : Nat} (h : Two w0 n v t N V w) (hb : Below w.heap.size w w') : Two w0 n v t N V w' :=
  ⟨h.k.step hb, h.f.below h.lt hb, h.ne, Nat.lt_of_lt_of_le h.lt hb.size, h.ge⟩
theorem Two.drew {w0 w : World} {n v N V : ByteArray} {t : Nat} (h : Two w0 n v t N V w) (m : Nat) : Two w0 n v t N V (w.drewN m) := h.step (Base.below_drewN (Below.refl _ _) m)
theorem Two.put {w0 w : World} {n v N V : ByteArray} {t : Nat} (h : Two w0 n v t N V w) (N' V' : ByteArray) : Two w0 n v t N' V' ((w.setCell ⟨t, 0, none⟩ (.string N')).setCell ⟨t, 1, none⟩ (.string V')) := by
  obtain ⟨W, hW, hf, hb⟩ := Fb.put h.f h.k.b h.ge N' V'
  have h1 := (h.k.f.other t 0 (.string N') h.ne).other t 1 (.string V') h.ne
  rw [hW] at h1 ⊢
  have hs : W.heap.size = w.heap.size := by rw [← hW]; simp
  exact ⟨⟨h1, by rw [hs]; exact h.k.g, hb⟩, hf, h.ne, by rw [hs]; exact h.lt, h.ge⟩

theorem eql_field (x y : Fld) (w : World) : (binOp .eql 25 (.agg #[.string x.1, .string x.2]) (.agg #[.string y.1, .string y.2])).run Try.prog w = .ok (.bool (decide (x = y))) w := by
  have u9 := Try.underlying9
  have a9 := Try.isAgg9
  have z9 := Try.sizeOf9
  have hS : Try.prog.underlying 25 = some (.struct (Try.prog.fieldsOf 25)) := by kernel_rfl
  have hp : Try.prog.stoodInHeld 25 = false := by kernel_rfl
  obtain ⟨x1, x2⟩ := x
  obtain ⟨y1, y2⟩ := y
  rw [run_eql_struct, show (10000 : Nat) = 9999 + 1 from rfl, run_equalIn_agg w 9999 25 _ _ hS hp]
  simp only [Program.fieldsOf, Try.underlying25]
  go_simp
  by_cases h1 : x1 = y1 <;> by_cases h2 : x2 = y2 <;> simp [h1, h2, Ls.toList_iff]
theorem neq_field (x y : Fld) (w : World) : (binOp .neq 25 (.agg #[.string x.1, .string x.2]) (.agg #[.string y.1, .string y.2])).run Try.prog w = .ok (.bool (decide (x ≠ y))) w := by
  have u9 := Try.underlying9
  have a9 := Try.isAgg9
  have z9 := Try.sizeOf9
  have hS : Try.prog.underlying 25 = some (.struct (Try.prog.fieldsOf 25)) := by kernel_rfl
  have hp : Try.prog.stoodInHeld 25 = false := by kernel_rfl
  obtain ⟨x1, x2⟩ := x
  obtain ⟨y1, y2⟩ := y
  rw [run_neq_struct, show (10000 : Nat) = 9999 + 1 from rfl, run_equalIn_agg w 9999 25 _ _ hS hp]
  simp only [Program.fieldsOf, Try.underlying25]
  go_simp
  by_cases h1 : x1 = y1 <;> by_cases h2 : x2 = y2 <;> simp [h1, h2, Ls.toList_iff]
theorem guard_field (op : BinOp) (a b : Operand) (x1 x2 y1 y2 : ByteArray) (w : World) : (eqGuard op 25 a b (fv x1 x2) (fv y1 y2)).run Try.prog w = .ok () w :=
  run_eqGuard_agg w op 25 a b _ _ (by kernel_rfl)

section code
set_option maxHeartbeats 4000000
set_option maxRecDepth 100000
attribute [local go_sem] Base.some_undef
theorem none_any (p : Nat) (hp : p < 4294967296) (c : Int) (w : World) : Calls Try.prog 25 #[.int .u32 (p : Nat), .int .i64 c] w fun e w' => e = .returned (rv (out (Qk.has p c))) ∧ Below w.heap.size w w' := by
  have HH := Lib.hid (fun w => Qk.has_any p hp c w)
  generalize Qk.has p c = b at *
  cases b
  all_goals
    go_enter Try.func25, Try.ntmps25
    go_wp2_with (go_at_call 26; with_reducible refine (HH.out _).mono ?_; rintro e w1 ⟨rfl, hw⟩; rw [hw]; clear hw)
  · exact bodyPost_ret (v := .tuple #[fv E0 E0, .bool false, .int .i64 400]) (by simp [results, Try.results25, go_sem]) rfl ⟨rfl, (Below.refl _ _).alloc (Nat.le_refl _) _⟩
  · exact bodyPost_ret (v := .tuple #[fv E0 E0, .bool false, .int .i64 0]) (by simp [results, Try.results25, go_sem]) rfl ⟨rfl, (Below.refl _ _).alloc (Nat.le_refl _) _⟩

theorem trimEnd_any (s : ByteArray) (w : World) (hs : s.size ≤ 1000000000) : Calls Try.prog 27 #[.string s] w fun e w' => e = .returned (.string (ba (trimEnd s.data.toList))) ∧ w' = w := by
  obtain ⟨R, hR⟩ : ∃ R, ba (trimEnd s.data.toList) = R := ⟨_, rfl⟩
  rw [hR]
  have HQ := Lib.hid (show R.data.toList = trimEnd s.data.toList by rw [← hR]; rfl)
  clear hR
  go_enter Try.func27, Try.ntmps27
  go_wp2
  go_loop [3] (fun i => ∃ k : Nat, k ≤ s.size ∧ i = .int .i64 k ∧ Hid (trimEnd (s.data.toList.take k) = trimEnd s.data.toList)) (fun i => (intOf i).toNat)
  case atStart => exact ⟨s.size, Nat.le_refl _, rfl, Lib.hid (by rw [take_all s _ (Nat.le_refl _)])⟩
  case round =>
    obtain ⟨k, hk, rfl, HR⟩ := hrel
    rcases k with _ | k
    · have E1 := Lib.hid (show ByteArray.empty = R from ba_ext (by rw [HQ.out, ← HR.out]; rfl))
      go_wp2
      go_ret
      exact ⟨by rw [← E1.out]; rfl, rfl⟩
    · have hlt : k < s.size := by omega
      have HS := Lib.hid (take_snoc s k hlt)
      have HB := Lib.hid (fun w => Oct.blank_any (s[k].toNat : Int) w)
      rw [blank_is] at HB
      have c1 : IntKind.i64.wrap (((k + 1 : Nat) : Int) - 1) = (k : Int) := by rw [wrap_in _ (by omega) (by omega)]; omega
      have c2 : (0 : Int) < ((k + 1 : Nat) : Int) := by omega
      cases hb : Txt.blank s[k] with
      | false =>
        rw [hb] at HB
        have E1 := Lib.hid (show s.extract 0 (k + 1) = R from ba_ext (by
          rw [HQ.out, ← HR.out, HS.out, trimEnd_stop _ _ hb, ← HS.out, Lib.extract_data]; rfl))
        clear hb
        go_wp2_with (go_at_call 34; with_reducible refine (HB.out _).mono ?_; rintro e w1 ⟨rfl, hw⟩; rw [hw]; clear hw)
        go_ret
        exact ⟨by rw [← E1.out]; rfl, rfl⟩
      | true =>
        rw [hb] at HB
        have HR' := Lib.hid (show trimEnd (s.data.toList.take k) = trimEnd s.data.toList by
          rw [← HR.out, HS.out, trimEnd_snoc _ _ hb])
        clear hb HR
        go_wp2_with (go_at_call 34; with_reducible refine (HB.out _).mono ?_; rintro e w1 ⟨rfl, hw⟩; rw [hw]; clear hw)
        go_round
        case rel => exact ⟨k, by omega, rfl, HR'⟩
        case measure => simp [intOf]

theorem isName_any (s : ByteArray) (p : Nat) (hp : p < 4294967296) (w : World) (hs : s.size ≤ maxLen) : Calls Try.prog 29 #[.string s, .int .u32 (p : Nat)] w fun e w' => e = .returned (.bool (goodN (clOf p) s.data.toList)) ∧ Below w.heap.size w w' := by
  have HH := Lib.hid (fun w => Qk.has_any p hp 10 w)
  have HA := Lib.hid (fun w a (hk : Ints w a 1 [1]) => Oct.all_any s a 1 1 [1] w hs hk (by decide))
  rw [show goodN (clOf p) s.data.toList = (Qk.has p 10 || Oct.allOf [1] s.data.toList) from rfl]
  generalize Qk.has p 10 = b at *
  generalize Oct.allOf [1] s.data.toList = r at *
  cases b
  all_goals
    go_enter Try.func29, Try.ntmps29
    go_wp2_with (first
      | (go_at_call 26; with_reducible refine (HH.out _).mono ?_; rintro e w1 ⟨rfl, hw⟩; rw [hw]; clear hw)
      | (go_at_call 42; with_reducible refine (HA.out _ _ (Ints.one _ _ rfl _ _)).mono ?_; rintro e w1 ⟨rfl, hw⟩; rw [hw]; clear hw))
    go_ret
  · exact ⟨by rfl, (Below.refl _ _).alloc (Nat.le_refl _) _⟩
  · exact ⟨by rfl, Below.refl _ _⟩
theorem isValue_any (s : ByteArray) (p : Nat) (hp : p < 4294967296) (w : World) (hs : s.size ≤ maxLen) : Calls Try.prog 30 #[.string s, .int .u32 (p : Nat)] w fun e w' => e = .returned (.bool (goodV (clOf p) s.data.toList)) ∧ Below w.heap.size w w' := by
  have HH := Lib.hid (fun w => Qk.has_any p hp 14 w)
  have HA := Lib.hid (fun w a (hk : Ints w a 1 [6]) => Oct.all_any s a 1 1 [6] w hs hk (by decide))
  rw [show goodV (clOf p) s.data.toList = (Qk.has p 14 || Oct.allOf [6] s.data.toList) from rfl]
  generalize Qk.has p 14 = b at *
  generalize Oct.allOf [6] s.data.toList = r at *
  cases b
  all_goals
    go_enter Try.func30, Try.ntmps30
    go_wp2_with (first
      | (go_at_call 26; with_reducible refine (HH.out _).mono ?_; rintro e w1 ⟨rfl, hw⟩; rw [hw]; clear hw)
      | (go_at_call 42; with_reducible refine (HA.out _ _ (Ints.one _ _ rfl _ _)).mono ?_; rintro e w1 ⟨rfl, hw⟩; rw [hw]; clear hw))
    go_ret
  · exact ⟨by rfl, (Below.refl _ _).alloc (Nat.le_refl _) _⟩
  · exact ⟨by rfl, Below.refl _ _⟩

theorem goes_any (s : ByteArray) (p : Nat) (hp : p < 4294967296) (w : World) : Calls Try.prog 15 #[.string s, .int .u32 (p : Nat)] w fun e w' => e = .returned (.bool (goes p s.data.toList)) ∧ w' = w := by
  have HH := Lib.hid (fun w => Qk.has_any p hp 13 w)
  unfold goes
  generalize Qk.has p 13 = b at *
  rcases Nat.eq_zero_or_pos s.size with h0 | h0
  · obtain rfl : s = E0 := ba_ext (List.length_eq_zero_iff.1 (by rw [len]; exact h0))
    cases b
    all_goals
      go_enter Try.func15, Try.ntmps15
      go_wp2_with (go_at_call 26; with_reducible refine (HH.out _).mono ?_; rintro e w1 ⟨rfl, hw⟩; rw [hw]; clear hw)
      go_ret
      exact ⟨by rfl, rfl⟩
  · have t0 := first_no s h0
    have HB := Lib.hid (fun w => Oct.blank_any (s[0].toNat : Int) w)
    rw [blank_is] at HB
    have e1 : (!s.data.toList.isEmpty && Txt.blank (s.data.toList.headD 0)) = Txt.blank s[0] := by
      have hl : s.data.toList = s[0] :: s.data.toList.drop 1 := by
        have hlen : 0 < s.data.toList.length := by rw [len]; exact h0
        rw [← List.drop_zero (l := s.data.toList), List.drop_eq_getElem_cons hlen]; rfl
      rw [hl]; rfl
    rw [e1]
    clear e1
    cases b
    all_goals
      go_enter Try.func15, Try.ntmps15
      go_wp2_with (first
        | (go_at_call 26; with_reducible refine (HH.out _).mono ?_; rintro e w1 ⟨rfl, hw⟩; rw [hw]; clear hw)
        | (go_at_call 34; with_reducible refine (HB.out _).mono ?_; rintro e w1 ⟨rfl, hw⟩; rw [hw]; clear hw))
      go_ret
      exact ⟨by rfl, rfl⟩
end code
end Go.Proofs.Ytmbjnolikofaoaa.Fd
