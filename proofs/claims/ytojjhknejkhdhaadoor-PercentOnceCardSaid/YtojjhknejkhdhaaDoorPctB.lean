/-
  Layer 19 (percent): Decode, Segments, Dots and Norm: what they answer, of every text up to a great size.
-/
import Derived.Test.YtojjhknejkhdhaaDoorPct
import Derived.Laws.OwnMore
namespace Go.Proofs.YtojjhknejkhdhaaDoor.Pct
open Go.RowKit Base Txt

def segsB (s : ByteArray) : List ByteArray := (segs s.data.toList).map ba
def listL (ss : List ByteArray) : List (List UInt8) := ss.map fun s => s.data.toList
def dotsB (ss : List ByteArray) : List ByteArray := (dots (listL ss)).map ba
def joinB (ss : List ByteArray) : ByteArray := ba (join (listL ss))
theorem listL_map (L : List (List UInt8)) : listL (L.map ba) = L := by
  unfold listL; rw [List.map_map]; conv => rhs; rw [← List.map_id L]
  rfl
theorem slash_yes (r : List UInt8) : Lib.hasPrefix (47 :: r) [47] = true := by simp [Lib.hasPrefix, List.isPrefixOf]
theorem slash_no {l : List UInt8} (h : ¬ ∃ r, l = 47 :: r) : Lib.hasPrefix l [47] = false := by
  cases l with
  | nil => rfl
  | cons c r =>
    have e : Lib.hasPrefix (c :: r) [47] = (47 == c) := by simp [Lib.hasPrefix, List.isPrefixOf]
    rw [e, beq_eq_false_iff_ne]
    intro e; exact h ⟨r, by rw [← e]⟩
theorem trim_slash (r : List UInt8) : Lib.trimPrefix (47 :: r) [47] = r := by
  simp [Lib.trimPrefix, Lib.hasPrefix, List.isPrefixOf]
theorem segs_none {l : List UInt8} (h : ¬ ∃ r, l = 47 :: r) : segs l = [] := by
  cases l with
  | nil => rfl
  | cons c r =>
    show (if c = 47 then parts 47 r else []) = []
    rw [if_neg]
    intro e; exact h ⟨r, by rw [e]⟩
theorem segs_len (l : List UInt8) : (segs l).length ≤ l.length + 1 := by
  unfold segs
  split
  · split
    · rename_i r _; have := parts_le 47 r; simp; omega
    · simp
  · simp
theorem trod_snoc (A : List (List UInt8)) (x : List UInt8) : trod (A ++ [x]) = step (trod A) x := by simp [trod]
theorem step_len (l : List (List UInt8)) (x : List UInt8) : (step l x).length ≤ l.length + 1 := by
  unfold step; split
  · split
    · simp; omega
    · omega
  · simp
theorem trod_len : ∀ (L l : List (List UInt8)), (L.foldl step l).length ≤ l.length + L.length
  | [], l => by simp
  | x :: L, l => by
    have h1 := trod_len L (step l x)
    have h2 := step_len l x
    simp only [List.foldl_cons, List.length_cons]
    omega
theorem dots_len (L : List (List UInt8)) : (dots L).length ≤ L.length + 1 := by
  have := trod_len L []
  unfold dots trod
  split
  · simp at this ⊢; omega
  · simp at this ⊢; omega
theorem listL_take (ss : List ByteArray) (k : Nat) (h : k < ss.length) : listL (ss.take (k + 1)) = listL (ss.take k) ++ [(ss[k]?.getD ByteArray.empty).data.toList] := by
  unfold listL; rw [strs_snoc ss k h, List.map_append]; rfl
theorem join_snoc (L : List (List UInt8)) (x : List UInt8) : join (L ++ [x]) = join L ++ ([47] ++ x) := by simp [join]
theorem join_take (ss : List ByteArray) (k : Nat) : (join (listL (ss.take k))).length ≤ (join (listL ss)).length := by
  have h : listL ss = listL (ss.take k) ++ listL (ss.drop k) := by unfold listL; rw [← List.map_append, List.take_append_drop]
  rw [h]; simp [join]
/-- A slice without its last element is the call's own row, too. -/
theorem own_less {w : World} {base : Nat} {e : TypeId} {a : Option Addr} {n m cap : Nat} {xs : List Value} (h : w.ownsRow base e 1 (.slice a n cap) m xs) (hm : 0 < m) :
    n = m ∧ m ≤ cap ∧ (∃ g, a = some ⟨g, 0, none⟩) ∧ w.ownsRow base e 1 (.slice a (m - 1) cap) (m - 1) xs.dropLast := by
  have hl : xs.length = m := by simpa using h.1
  rcases h.2 with ⟨_, hn⟩ | ⟨g, cap', cur, hv, hb, hh, hnc, hcm, hcs, ht⟩
  · omega
  · cases hv
    refine ⟨rfl, hnc, ⟨g, rfl⟩, by simp; omega, .inr ⟨g, cap, cur, rfl, hb, hh, by omega, hcm, hcs, ?_⟩⟩
    rw [← ht, Nat.mul_one, Nat.mul_one, List.dropLast_eq_take, List.take_take]
    congr 1
    rw [List.length_take, Array.length_toList]
    omega
theorem eq_up (s : ByteArray) : decide (s = ⟨#[46, 46]⟩) = (s.data.toList == [46, 46]) := by
  rw [Bool.eq_iff_iff, decide_eq_true_iff, beq_iff_eq]
  exact ⟨fun e => by rw [e], fun e => Txt.ba_ext e⟩

section code
set_option maxHeartbeats 4000000
set_option maxRecDepth 100000
attribute [local go_sem] Base.some_undef
theorem decode_any (s : ByteArray) (w : World) (hs : s.size ≤ 1000000000) :
    Calls Tryd.prog 11 #[.string s] w fun e w' => e = .returned (ans (repl plain s.data.toList)) ∧ Below w.heap.size w w' := by
  have HR := Lib.hid (replace_any 27 (fun args w => by kernel_rfl) plain plain_any (fun c => by simp [plain]) s w hs)
  cases hq : repl plain s.data.toList with
  | none =>
    rw [hq] at HR
    unfold ans at HR ⊢
    clear hq
    go_enter Tryd.func11, Tryd.ntmps11
    go_wp2_with (go_at_call 19; with_reducible refine HR.out.mono ?_; rintro e w1 ⟨rfl, hb⟩)
    go_ret2
    exact ⟨rfl, hb⟩
  | some l =>
    rw [hq] at HR
    unfold ans at HR ⊢
    clear hq
    go_enter Tryd.func11, Tryd.ntmps11
    go_wp2_with (go_at_call 19; with_reducible refine HR.out.mono ?_; rintro e w1 ⟨rfl, hb⟩)
    go_ret2
    exact ⟨rfl, hb⟩
theorem segments_any (s : ByteArray) (w : World) (hs : s.size ≤ 1000000000) :
    Calls Tryd.prog 14 #[.string s] w fun e w' => ∃ a n c, e = .returned (.slice a n c) ∧ n = (segsB s).length ∧ Strs w' a n (segsB s) ∧ Below w.heap.size w w' := by
  have HC := Lib.hid (fun w => Tryd.strings_CutPrefix s ⟨#[47]⟩ w)
  by_cases hr : ∃ r, s.data.toList = 47 :: r
  · obtain ⟨r, hr⟩ := hr
    have e1 : Lib.hasPrefix s.data.toList [47] = true := by rw [hr]; exact slash_yes r
    have e2 : (⟨(Lib.trimPrefix s.data.toList [47]).toArray⟩ : ByteArray) = ba r := by rw [hr, trim_slash]; rfl
    simp only [e1, e2] at HC
    have HS := Lib.hid (fun w => split_at 47 (ba r) w (by have := congrArg List.length hr; rw [len] at this; simp at this; rw [ba_size]; omega))
    have e3 : segsB s = (parts 47 (ba r).data.toList).map ba := by unfold segsB; rw [hr, segs_cons]; rfl
    rw [e3]
    clear e1 e2 e3 hr
    generalize (parts 47 (ba r).data.toList) = P at *
    go_enter Tryd.func14, Tryd.ntmps14
    go_wp2_with (first
      | (go_at_call 28; with_reducible refine (HC.out _).mono ?_; rintro e w1 ⟨rfl, hw⟩; rw [hw]; clear hw)
      | (go_at_call 29; with_reducible refine (HS.out _).mono ?_; rintro e w1 ⟨n, c, rfl, hn, hS, hg, hb⟩))
    go_ret
    exact ⟨_, _, _, rfl, (List.length_map _).symm, hn ▸ hS, hb⟩
  · have e1 : Lib.hasPrefix s.data.toList [47] = false := slash_no hr
    simp only [e1] at HC
    have e3 : segsB s = [] := by unfold segsB; rw [segs_none hr]; rfl
    rw [e3]
    clear e1 e3 hr
    go_enter Tryd.func14, Tryd.ntmps14
    go_wp2_with (first
      | (go_at_call 28; with_reducible refine (HC.out _).mono ?_; rintro e w1 ⟨rfl, hw⟩; rw [hw]; clear hw))
    go_ret
    exact ⟨_, _, _, rfl, rfl, Strs.nil _ _, Below.refl _ _⟩
theorem join_any (a : Option Addr) (n cap : Nat) (ss : List ByteArray) (w : World) (hv : Strs w a n ss) (hn : n ≤ 1000000000) (hz : (join (listL ss)).length ≤ 100000000000) :
    Calls Tryd.prog 21 #[.slice a n cap] w fun e w' => e = .returned (.string (joinB ss)) ∧ Below w.heap.size w w' := by
  have HV := Lib.hid hv
  have HL := Lib.hid hv.1
  have HZ := Lib.hid hz
  clear hv hz
  have HW := Lib.hid (fun (bs : List Value) (s : ByteArray) (wz : World) h hl hw => Bld.write_any w.heap.size w.heap.size bs s wz h hl hw)
  obtain ⟨R, hR⟩ : ∃ R, joinB ss = R := ⟨_, rfl⟩
  rw [hR]
  have HR := Lib.hid hR
  clear hR
  go_enter Tryd.func21, Tryd.ntmps21
  go_wp2
  go_loopw [8] (fun i wr => ∃ k : Nat, k ≤ n ∧ i = .int .i64 k ∧ Hid (Lib.IsBuilderF Bld.T Bld.E w.heap.size w.heap.size (Lib.byteCells (join (listL (ss.take k)))) wr) ∧ Hid (Below w.heap.size w wr)) (fun i _ => n - (intOf i).toNat)
  case atStart => exact ⟨0, Nat.zero_le _, rfl, Lib.hid (isB_fresh w), Lib.hid ((Below.refl _ _).alloc (Nat.le_refl _) _)⟩
  case round =>
    obtain ⟨k, hk, rfl, HB, hbr⟩ := hrel
    rcases Nat.lt_or_ge k n with hlt | hge
    · obtain ⟨bl, off, rfl, hbl, hc⟩ := (HV.out.below hbr.out).2 (by omega)
      have hc0 := hc k hlt
      have hkl : k < ss.length := by rw [HL.out]; exact hlt
      have hsn : join (listL (ss.take (k + 1))) = join (listL (ss.take k)) ++ ([47] ++ (ss[k]?.getD ByteArray.empty).data.toList) := by rw [listL_take ss k hkl, join_snoc]
      have hle := join_take ss (k + 1)
      rw [hsn] at hle
      simp only [List.length_append, List.length_cons, List.length_nil] at hle
      rw [len] at hle
      have hz := HZ.out
      clear hc hkl
      generalize ss[k]?.getD ByteArray.empty = f at *
      have hcells : Lib.byteCells (join (listL (ss.take k))) ++ Lib.strCells ⟨#[47]⟩ ++ Lib.strCells f = Lib.byteCells (join (listL (ss.take (k + 1)))) := by
        rw [hsn, Lib.strCells_eq, Lib.strCells_eq, Lib.byteCells_append, Lib.byteCells_append, List.append_assoc]
      have HCl := Lib.hid hcells
      have hlen1 := Lib.hid (show (Lib.byteCells (join (listL (ss.take k)))).length + (⟨#[47]⟩ : ByteArray).size ≤ 140737488355328 by rw [Lib.byteCells_length]; show _ + 1 ≤ _; omega)
      have hlen2 := Lib.hid (show (Lib.byteCells (join (listL (ss.take k))) ++ Lib.strCells ⟨#[47]⟩).length + f.size ≤ 140737488355328 by
        rw [List.length_append, Lib.byteCells_length, Lib.strCells_length]; show _ + 1 + _ ≤ _; omega)
      clear hcells hle hz hsn
      have hBw : w.heap.size ≤ wr.heap.size := hbr.out.size
      have W1 := Lib.hid (HW.out _ _ _ HB.out hlen1.out hBw)
      have W2 := Lib.hid (fun w => HW.out (Lib.byteCells (join (listL (ss.take k))) ++ Lib.strCells ⟨#[47]⟩) f w)
      clear hlen1
      generalize Lib.byteCells (join (listL (ss.take k))) ++ Lib.strCells ⟨#[47]⟩ = C1 at *
      clear HB
      go_wp2_with (first
        | (go_at_call 37; with_reducible refine (W2.out _ g1.out hlen2.out hB1).mono ?_; rintro e w3 ⟨rfl, hat, hb2⟩
           have G2 := Lib.hid hat
           have G3 := Lib.hid (gb1.out.trans hb2)
           clear hat hb2)
        | (go_at_call 37; with_reducible refine W1.out.mono ?_; rintro e w2 ⟨rfl, hat, hb2⟩
           have g1 : Hid (Lib.IsBuilderF Bld.T Bld.E w.heap.size w.heap.size C1 w2) := Lib.hid (.inr hat)
           have hB1 : w.heap.size ≤ w2.heap.size := Nat.le_trans hBw hb2.size
           have gb1 := Lib.hid (hbr.out.trans hb2)
           clear hat hb2))
      have H2 : Hid (Lib.IsBuilderF Bld.T Bld.E w.heap.size w.heap.size (Lib.byteCells (join (listL (ss.take (k + 1))))) w3) := Lib.hid (by rw [← HCl.out]; exact .inr G2.out)
      clear HCl
      go_roundw
      case rel => exact ⟨k + 1, by omega, by go_num, H2, G3⟩
      case measure => simp [intOf]; omega
    · obtain rfl : k = n := by omega
      have hput : ss.take k = ss := List.take_of_length_le (by rw [HL.out]; exact Nat.le_refl _)
      rw [hput] at HB
      have HS := Lib.hid (Tryd.Builder_String_any_f w.heap.size w.heap.size (join (listL ss)) wr HB.out hbr.out.size)
      clear HB hput
      go_wp2_with (go_at_call 35; with_reducible refine HS.out.mono ?_; rintro e w2 ⟨rfl, hx, hb2⟩)
      go_ret
      exact ⟨by rw [← HR.out]; rfl, hbr.out.trans hb2⟩
end code
end Go.Proofs.YtojjhknejkhdhaaDoor.Pct
