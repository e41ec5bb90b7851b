/-
  Layer 19 (percent): what package percent's functions answer, of every text up to a great size: bytes behind a percent, segments, dots, one way to write.
-/
import Derived.Test.YtojjhknejkhdhaaDoorPctW
import Derived.Test.YtojjhknejkhdhaaDoorText
import Derived.Test.YtojjhknejkhdhaaDoorBuild
import Derived.Lib.UnsafeStr
import Derived.Lib.AppendStr
namespace Go.Proofs.YtojjhknejkhdhaaDoor.Pct
open Go.RowKit Base Txt

theorem isB_alloc {T E : TypeId} {B b : Nat} {bs : List Value} {w : World} (h : Lib.IsBuilderF T E B b bs w) (o : Obj) : Lib.IsBuilderF T E B b bs (w.alloc o) :=
  h.elim (fun x => .inl (x.alloc o)) (fun x => .inr (x.alloc o))
theorem isB_fresh (w : World) : Lib.IsBuilderF Bld.T Bld.E w.heap.size w.heap.size [] (w.alloc (.cells #[.pointer none, .slice none 0 0] Bld.T)) :=
  .inl ⟨Nat.le_refl _, .slice none 0 0, heap_alloc_new w _, World.ownsRowF_nil _ _ _ _, by simp [Value.ownBlock]⟩
theorem bytes_one (l : List UInt8) (c : UInt8) : Lib.byteCells (l ++ [c]) = Lib.byteCells l ++ [.int .u8 (c.toNat : Int)] := by simp [Lib.byteCells]
theorem hv_tab : ∀ k : Fin 256, 0 ≤ Oct.hexVal (k.val : Int) ∧ Oct.hexVal (k.val : Int) ≤ 15 := by decide +kernel
theorem hv_le (c : UInt8) : hv c < 16 ∧ Oct.hexVal (c.toNat : Int) = ((hv c : Nat) : Int) := by
  have := hv_tab ⟨c.toNat, c.toNat_lt⟩
  unfold hv
  simp only at this
  omega
theorem pair_tab : ∀ a b : Fin 16, bits .or .i64 ((a.val : Int) * 16) (b.val : Int) % 256 = (((UInt8.ofNat (16 * a.val + b.val)).toNat : Nat) : Int) := by decide +kernel
theorem marks_tab : ∀ k : Fin 256, decide (0 ≤ Lib.indexByte [45, 46, 95, 126] (UInt8.ofNat k.val)) = Oct.stands [45, 46, 95, 126] (k.val : Int) := by decide +kernel
theorem index_bare (n : Int) (h0 : 0 ≤ n) (h1 : n ≤ 255) : (0 ≤ Lib.indexByte [45, 46, 95, 126] (UInt8.ofNat n.toNat)) ↔ Oct.stands [45, 46, 95, 126] n = true := by
  have h := marks_tab ⟨n.toNat, by omega⟩
  simp only at h
  rw [show ((n.toNat : Nat) : Int) = n by omega] at h
  rw [← h, decide_eq_true_iff]
def bareN (n : Int) : Bool := Oct.letter n || Oct.digit n || Oct.stands [45, 46, 95, 126] n
theorem bareN_eq (c : UInt8) : bareN (c.toNat : Int) = bare c := rfl
def digitsB : ByteArray := ⟨#[48, 49, 50, 51, 52, 53, 54, 55, 56, 57, 65, 66, 67, 68, 69, 70]⟩
theorem up_tab : ∀ k : Fin 16, digitsB.data.toList[k.val]?.getD 0 = up k.val := by decide +kernel
/-- A function that writes for each byte what p says. -/
def Puts (g : Nat) (p : UInt8 → List UInt8) : Prop := ∀ (B b : Nat) (l : List UInt8) (c : UInt8) (w : World), Lib.IsBuilderF Bld.T Bld.E B b (Lib.byteCells l) w → l.length ≤ 1000000000 → B ≤ w.heap.size →
  Calls Tryd.prog g #[.pointer (some ⟨b, 0, none⟩), .int .u8 (c.toNat : Int)] w fun e w' => e = .returned (.tuple #[]) ∧ Lib.IsBuilderF Bld.T Bld.E B b (Lib.byteCells (l ++ p c)) w' ∧ Below B w w'
def ans : Option (List UInt8) → Value
  | some l => .tuple #[.string (ba l), .bool true]
  | none => .tuple #[.string ⟨#[]⟩, .bool false]

section code
set_option maxHeartbeats 4000000
set_option maxRecDepth 100000
attribute [local go_sem] Base.some_undef
theorem byte_any (B b : Nat) (l : List UInt8) (c : UInt8) (w : World) (h : Lib.IsBuilderF Bld.T Bld.E B b (Lib.byteCells l) w) (hlen : l.length ≤ 100000000000) (hBw : B ≤ w.heap.size) :
    Calls Tryd.prog 33 #[.pointer (some ⟨b, 0, none⟩), .int .u8 (c.toNat : Int)] w fun e w' => e = .returned .nilIface ∧ Lib.IsBuilderF Bld.T Bld.E B b (Lib.byteCells (l ++ [c])) w' ∧ Below B w w' := by
  obtain ⟨i0, hi, hz0, hz1, hz2⟩ := info_parts Bld.infoB
  have HC := Lib.hid (Bld.check_any B b _ w h)
  have hbl : (Lib.byteCells l).length ≤ 100000000000 := by rw [Lib.byteCells_length]; exact hlen
  have HBC := Lib.hid (bytes_one l c)
  clear hlen
  generalize Lib.byteCells l = bs at *
  clear h
  generalize (c.toNat : Int) = n at *
  go_enter Tryd.func33, Tryd.ntmps33
  go_wp2_with (go_at_call 41; with_reducible refine HC.out.mono ?_)
  rintro e w1 ⟨rfl, h1⟩
  obtain ⟨⟨hB, v, hbk, hown, hne⟩, hb1⟩ := h1
  have c0 : w1.cell? ⟨b, 0, none⟩ = some (.pointer (some ⟨b, 0, none⟩)) := by rw [Lib.cell_of_heap hbk]; rfl
  have c1 : w1.cell? ⟨b, 1, none⟩ = some v := by rw [Lib.cell_of_heap hbk]; rfl
  go_wp2_with (at_builtin; refine wpList_append_ownF _ rfl _ _ 22 rfl B 5 i0 (.int .u8 0) 1 1 Tryd.underlying22 hi hz0 hz1 hz2 rfl (by decide) _ _ _ rfl (hown.alloc _) ⟨w1.heap.size, 0, none⟩ 1 1 [.int .u8 n] rfl rfl ?c1 ?c2 ?c3 ?c4 ?c5 ?_)
  case c1 => exact news_one w1 _ _
  case c2 => intro u hu; simp at hu; subst hu; rfl
  case c3 => unfold maxLen; omega
  case c4 => omega
  case c5 => have := hb1.size; simp; omega
  intro v' w2 hown' hgrow _
  have hlt : b < w1.heap.size := by
    rcases Nat.lt_or_ge b w1.heap.size with h' | h'
    · exact h'
    · simp [Array.getElem?_eq_none h'] at hbk
  have hb2 : w2.heap[b]? = some (.cells #[.pointer (some ⟨b, 0, none⟩), v] Bld.T (0, 0)) := by
    rw [hgrow.block b (by simp; omega) (fun e => hne e.symm), Lib.alloc_old w1 _ b hlt]
    exact hbk
  have d0 : w2.cell? ⟨b, 0, none⟩ = some (.pointer (some ⟨b, 0, none⟩)) := by rw [Lib.cell_of_heap hb2]; rfl
  have d1 : w2.cell? ⟨b, 1, none⟩ = some v := by rw [Lib.cell_of_heap hb2]; rfl
  have f1 : w2.frozen? ⟨b, 1, none⟩ = false := Lib.frozen_of_heap hb2 1
  obtain ⟨g, cap, rfl⟩ : ∃ g cap, v' = .slice (some ⟨g, 0, none⟩) (bs.length + 1) cap := by
    rcases hown'.2 with ⟨_, h0⟩ | ⟨g, cap, cur, fz, hv, _⟩
    · omega
    · exact ⟨g, cap, hv⟩
  go_wp2
  go_ret
  refine ⟨rfl, .inr ?_, ?_⟩
  · rw [HBC.out]; exact Lib.BuilderAtF.put (T := Bld.T) (e := Bld.E) hB hb2 (bs' := bs ++ [.int .u8 n]) (by simpa using hown') (by decide)
  · exact ((hb1.alloc (by have := hb1.size; omega) _).grown hgrow (by have := hb1.size; simp; omega) (fun k hk => (hown.lt k hk).1)).setCell (p := ⟨b, 1, none⟩) hB _

theorem pletter_any (n : Int) (w : World) : Calls Tryd.prog 43 #[.int .u8 n] w fun e w' => e = .returned (.bool (Oct.letter n)) ∧ w' = w := by
  go_enter Tryd.func43, Tryd.ntmps43
  go_wp2
  all_goals (go_ret; exact ⟨ret_bool (by simp [Oct.letter] <;> omega), rfl⟩)
theorem bare_any (n : Int) (w : World) (h0 : 0 ≤ n) (h1 : n ≤ 255) : Calls Tryd.prog 36 #[.int .u8 n] w fun e w' => e = .returned (.bool (bareN n)) ∧ w' = w := by
  go_enter Tryd.func36, Tryd.ntmps36
  go_wp2_with (first
    | (go_at_call 43; refine (pletter_any _ _).mono ?_; rintro e w' ⟨rfl, rfl⟩)
    | (go_at_call 44; refine (Oct.digit_any _ _).mono ?_; rintro e w' ⟨rfl, rfl⟩)
    | (go_at_call 45; refine (Tryd.strings_IndexByte _ _ _).mono ?_; rintro e w' ⟨rfl, rfl⟩))
  all_goals (go_ret; exact ⟨ret_bool (by simp [bareN, index_bare, *]), rfl⟩)
theorem plain_any : Puts 27 plain := by
  intro B b l c w h hl hB
  have HC := Lib.hid (byte_any B b l c w h (by omega) hB)
  clear h
  go_enter Tryd.func27, Tryd.ntmps27
  go_wp2_with (go_at_call 33; with_reducible refine HC.out.mono ?_; rintro e w1 ⟨rfl, h1, hb1⟩)
  go_end0
  exact ⟨rfl, h1, hb1⟩
theorem spell_any : Puts 20 spell := by
  intro B b l c w h hl hB
  have HB := Lib.hid (fun w => bare_any (c.toNat : Int) w (by omega) (byte_lt c))
  rw [bareN_eq] at HB
  cases hb : bare c with
  | true =>
    rw [hb] at HB
    rw [show spell c = [c] by simp [spell, hb]]
    have HC := Lib.hid (byte_any B b l c w h (by omega) hB)
    clear h hb
    generalize (c.toNat : Int) = n at *
    go_enter Tryd.func20, Tryd.ntmps20
    go_wp2_with (first
      | (go_at_call 36; with_reducible refine (HB.out _).mono ?_; rintro e w1 ⟨rfl, hw⟩; rw [hw]; clear hw)
      | (go_at_call 33; with_reducible refine HC.out.mono ?_; rintro e w1 ⟨rfl, h1, hb1⟩))
    exact bodyPost_ret (v := .tuple #[]) (by simp [results, Tryd.results20, go_sem]) rfl ⟨rfl, h1, hb1⟩
  | false =>
    rw [hb] at HB
    have hcl := c.toNat_lt
    obtain ⟨d1, hd1⟩ : ∃ d, up (c.toNat / 16) = d := ⟨_, rfl⟩
    obtain ⟨d2, hd2⟩ : ∃ d, up (c.toNat % 16) = d := ⟨_, rfl⟩
    rw [show spell c = [37, d1, d2] by simp [spell, hb, hd1, hd2]]
    have HC := Lib.hid (fun (l : List UInt8) (x : UInt8) (w : World) h hl hB => byte_any B b l x w h hl hB)
    have e1 : ∀ hh, (⟨#[48, 49, 50, 51, 52, 53, 54, 55, 56, 57, 65, 66, 67, 68, 69, 70]⟩ : ByteArray)[c.toNat / 16]'hh = d1 := by
      intro hh
      have := up_tab ⟨c.toNat / 16, by omega⟩
      rw [List.getElem?_eq_getElem (show c.toNat / 16 < digitsB.data.toList.length by show _ < 16; omega)] at this
      rw [← hd1]; exact this
    have e2 : ∀ hh, (⟨#[48, 49, 50, 51, 52, 53, 54, 55, 56, 57, 65, 66, 67, 68, 69, 70]⟩ : ByteArray)[c.toNat % 16]'hh = d2 := by
      intro hh
      have := up_tab ⟨c.toNat % 16, by omega⟩
      rw [List.getElem?_eq_getElem (show c.toNat % 16 < digitsB.data.toList.length by show _ < 16; omega)] at this
      rw [← hd2]; exact this
    have b1 : IntKind.u8.wrap ((c.toNat : Int) / 16) = ((c.toNat / 16 : Nat) : Int) := by rw [IntKind.wrap_u8]; omega
    have H1 : Hid (Calls Tryd.prog 33 #[.pointer (some ⟨b, 0, none⟩), .int .u8 37] w fun e w' => e = .returned .nilIface ∧ Lib.IsBuilderF Bld.T Bld.E B b (Lib.byteCells (l ++ [37])) w' ∧ Below B w w') := Lib.hid (HC.out l 37 w h (by omega) hB)
    have H2 := Lib.hid (fun w => HC.out (l ++ [37]) d1 w)
    have H3 := Lib.hid (fun w => HC.out (l ++ [37] ++ [d1]) d2 w)
    have HL1 := Lib.hid (show (l ++ [37]).length ≤ 100000000000 by simp; omega)
    have HL2 := Lib.hid (show (l ++ [37] ++ [d1]).length ≤ 100000000000 by simp; omega)
    clear HC h hd1 hd2 hl
    go_enter Tryd.func20, Tryd.ntmps20
    go_wp2_with (first
      | (go_at_call 36; with_reducible refine (HB.out _).mono ?_; rintro e w1 ⟨rfl, hw⟩; rw [hw]; clear hw)
      | (go_at_call 33; with_reducible refine (H3.out _ g2.out HL2.out hB2).mono ?_; rintro e w3 ⟨rfl, h3, hb3⟩
         have g3 := Lib.hid h3
         have gb3 := Lib.hid hb3
         clear h3 hb3)
      | (go_at_call 33; with_reducible refine (H2.out _ g1.out HL1.out hB1).mono ?_; rintro e w2 ⟨rfl, h2, hb2⟩
         have g2 := Lib.hid h2
         have hB2 : B ≤ w2.heap.size := Nat.le_trans hB1 hb2.size
         have gb2 := Lib.hid hb2
         clear h2 hb2)
      | (go_at_call 33; with_reducible refine H1.out.mono ?_; rintro e w1 ⟨rfl, h1, hb1⟩
         have g1 := Lib.hid h1
         have hB1 : B ≤ w1.heap.size := Nat.le_trans hB hb1.size
         have gb1 := Lib.hid hb1
         clear h1 hb1))
    go_end0
    refine ⟨rfl, ?_, (gb1.out.trans gb2.out).trans gb3.out⟩
    simpa using g3.out
theorem pair_no (s : ByteArray) (w : World) (h : s.size < 2 ∨ ∃ a b r, s.data.toList = a :: b :: r ∧ (hx a && hx b) = false) :
    Calls Tryd.prog 34 #[.string s] w fun e w' => e = .returned (.tuple #[.int .u8 0, .bool false]) ∧ w' = w := by
  rcases h with h | ⟨a, b, r, hl, hh⟩
  · have h1 : (s.size : Int) < 2 := by omega
    go_enter Tryd.func34, Tryd.ntmps34
    go_wp2
    go_ret2
    exact ⟨rfl, rfl⟩
  · have hs : s.size = r.length + 2 := by rw [← len, hl]; simp
    have h1 : ¬ (s.size : Int) < 2 := by omega
    have e0 : ∀ hh, s[0]'hh = a := fun hh => by
      have : s.data.toList[0]? = some a := by rw [hl]; rfl
      rw [List.getElem?_eq_getElem (by rw [hl]; simp)] at this
      exact Option.some.inj this
    have e1 : ∀ hh, s[1]'hh = b := fun hh => by
      have : s.data.toList[1]? = some b := by rw [hl]; rfl
      rw [List.getElem?_eq_getElem (by rw [hl]; simp)] at this
      exact Option.some.inj this
    have HA := Lib.hid (fun w => Oct.hex_any (a.toNat : Int) w (by omega) (byte_lt a))
    have HB := Lib.hid (fun w => Oct.hex_any (b.toNat : Int) w (by omega) (byte_lt b))
    have hA : Oct.isHex (a.toNat : Int) = hx a := rfl
    have hB : Oct.isHex (b.toNat : Int) = hx b := rfl
    rw [hA] at HA
    rw [hB] at HB
    have l0 : 0 < s.size := by omega
    have l1 : 1 < s.size := by omega
    clear hl hA hB
    generalize Oct.hexVal (a.toNat : Int) = va at *
    generalize Oct.hexVal (b.toNat : Int) = vb at *
    cases ha : hx a
    · rw [ha] at HA
      go_enter Tryd.func34, Tryd.ntmps34
      go_wp2_with (first
        | (go_at_call 42; with_reducible refine (HA.out _).mono ?_; rintro e w1 ⟨rfl, hw⟩; rw [hw]; clear hw)
        | (go_at_call 42; with_reducible refine (HB.out _).mono ?_; rintro e w1 ⟨rfl, hw⟩; rw [hw]; clear hw))
      go_ret2
      exact ⟨rfl, rfl⟩
    · rw [ha, Bool.true_and] at hh
      rw [ha] at HA
      rw [hh] at HB
      go_enter Tryd.func34, Tryd.ntmps34
      go_wp2_with (first
        | (go_at_call 42; with_reducible refine (HA.out _).mono ?_; rintro e w1 ⟨rfl, hw⟩; rw [hw]; clear hw)
        | (go_at_call 42; with_reducible refine (HB.out _).mono ?_; rintro e w1 ⟨rfl, hw⟩; rw [hw]; clear hw))
      go_ret2
      exact ⟨rfl, rfl⟩
theorem pair_yes (s : ByteArray) (w : World) (a b : UInt8) (r : List UInt8) (hl : s.data.toList = a :: b :: r) (hh : (hx a && hx b) = true) :
    Calls Tryd.prog 34 #[.string s] w fun e w' => e = .returned (.tuple #[.int .u8 ((byte2 a b).toNat : Int), .bool true]) ∧ w' = w := by
  have hs : s.size = r.length + 2 := by rw [← len, hl]; simp
  have h1 : ¬ (s.size : Int) < 2 := by omega
  have e0 : ∀ hh, s[0]'hh = a := fun hh => by
    have : s.data.toList[0]? = some a := by rw [hl]; rfl
    rw [List.getElem?_eq_getElem (by rw [hl]; simp)] at this
    exact Option.some.inj this
  have e1 : ∀ hh, s[1]'hh = b := fun hh => by
    have : s.data.toList[1]? = some b := by rw [hl]; rfl
    rw [List.getElem?_eq_getElem (by rw [hl]; simp)] at this
    exact Option.some.inj this
  have HA := Lib.hid (fun w => Oct.hex_any (a.toNat : Int) w (by omega) (byte_lt a))
  have HB := Lib.hid (fun w => Oct.hex_any (b.toNat : Int) w (by omega) (byte_lt b))
  have hA : Oct.isHex (a.toNat : Int) = hx a := rfl
  have hB : Oct.isHex (b.toNat : Int) = hx b := rfl
  rw [Bool.and_eq_true] at hh
  rw [hA, hh.1, (hv_le a).2] at HA
  rw [hB, hh.2, (hv_le b).2] at HB
  have hp := pair_tab ⟨hv a, (hv_le a).1⟩ ⟨hv b, (hv_le b).1⟩
  simp only at hp
  have hq := (hv_le a).1
  have hr := (hv_le b).1
  have l0 : 0 < s.size := by omega
  have l1 : 1 < s.size := by omega
  rw [show byte2 a b = UInt8.ofNat (16 * hv a + hv b) from rfl, ← hp]
  generalize hX : bits .or .i64 ((hv a : Int) * 16) (hv b : Int) % 256 = X
  clear hl hA hB hh hp
  generalize hv a = va at *
  generalize hv b = vb at *
  go_enter Tryd.func34, Tryd.ntmps34
  go_wp2_with (first
    | (go_at_call 42; with_reducible refine (HA.out _).mono ?_; rintro e w1 ⟨rfl, hw⟩; rw [hw]; clear hw)
    | (go_at_call 42; with_reducible refine (HB.out _).mono ?_; rintro e w1 ⟨rfl, hw⟩; rw [hw]; clear hw))
  go_ret2
  exact ⟨by rw [← hX]; rfl, rfl⟩
theorem leads_any (s : ByteArray) (w : World) : Calls Tryd.prog 31 #[.string s] w fun e w' => e = .returned (.bool (lead s.data.toList)) ∧ w' = w := by
  have h1 : decide (s = ⟨#[46]⟩) = (s.data.toList == [46]) := by
    rw [Bool.eq_iff_iff, decide_eq_true_iff, beq_iff_eq]
    exact ⟨fun e => by rw [e], fun e => Txt.ba_ext e⟩
  have h2 : decide (s = ⟨#[46, 46]⟩) = (s.data.toList == [46, 46]) := by
    rw [Bool.eq_iff_iff, decide_eq_true_iff, beq_iff_eq]
    exact ⟨fun e => by rw [e], fun e => Txt.ba_ext e⟩
  have hR : lead s.data.toList = (decide (s = ⟨#[46]⟩) || decide (s = ⟨#[46, 46]⟩)) := by rw [h1, h2]; rfl
  rw [hR]
  clear hR h1 h2
  have t1 := Ls.toList_iff s ⟨#[46]⟩
  have t2 := Ls.toList_iff s ⟨#[46, 46]⟩
  rw [show (⟨#[46]⟩ : ByteArray).toList = [46] by decide +kernel] at t1
  rw [show (⟨#[46, 46]⟩ : ByteArray).toList = [46, 46] by decide +kernel] at t2
  by_cases c1 : s = ⟨#[46]⟩
  · subst c1
    go_enter Tryd.func31, Tryd.ntmps31
    go_wp2
    go_ret
    exact ⟨rfl, rfl⟩
  · have n1 : ¬ s.toList = [46] := fun e => c1 (t1.1 e)
    by_cases c2 : s = ⟨#[46, 46]⟩
    · subst c2
      go_enter Tryd.func31, Tryd.ntmps31
      go_wp2
      go_ret
      exact ⟨rfl, rfl⟩
    · have n2 : ¬ s.toList = [46, 46] := fun e => c2 (t2.1 e)
      rw [decide_eq_false c1, decide_eq_false c2]
      clear t1 t2
      go_enter Tryd.func31, Tryd.ntmps31
      go_wp2
      go_ret
      exact ⟨by simp [n1, n2], rfl⟩
theorem replace_any (g : Nat) (eg : ∀ args w, (callFunc g args).run Tryd.prog w = .ok (.enter g args) w) (p : UInt8 → List UInt8) (hp : Puts g p) (hp3 : ∀ c, (p c).length ≤ 3) (s : ByteArray) (w : World) (hs : s.size ≤ 1000000000) :
    Calls Tryd.prog 19 #[.string s, .func (.func g) #[] #[]] w fun e w' => e = .returned (ans (repl p s.data.toList)) ∧ Below w.heap.size w w' := by
  have HP := Lib.hid hp
  have HP3 := Lib.hid hp3
  clear hp hp3
  obtain ⟨R, hR⟩ : ∃ R, repl p s.data.toList = R := ⟨_, rfl⟩
  rw [hR]
  have HR := Lib.hid hR
  clear hR
  go_enter Tryd.func19, Tryd.ntmps19
  go_wp2
  go_loopw [7] (fun i wr => ∃ (k : Nat) (out : List UInt8), k ≤ s.size ∧ i = .int .i64 k ∧ out.length ≤ k ∧ Hid ((repl p (s.data.toList.drop k)).map (out ++ ·) = R) ∧ Hid (Lib.IsBuilderF Bld.T Bld.E w.heap.size w.heap.size (Lib.byteCells out) wr) ∧ Hid (Below w.heap.size w wr)) (fun i _ => s.size - (intOf i).toNat)
  case atStart => exact ⟨0, [], Nat.zero_le _, rfl, Nat.zero_le _, Lib.hid (by rw [List.drop_zero, ← HR.out]; simp), Lib.hid (isB_fresh w), Lib.hid ((Below.refl _ _).alloc (Nat.le_refl _) _)⟩
  case round =>
    obtain ⟨k, out, hk, rfl, hol, hrep, HB, hbr⟩ := hrel
    have hBw : w.heap.size ≤ wr.heap.size := hbr.out.size
    rcases Nat.lt_or_ge k s.size with hlt | hge
    · have hkl : k < s.data.toList.length := by rw [len]; exact hlt
      obtain ⟨c, hc⟩ : ∃ c, s[k] = c := ⟨_, rfl⟩
      have e0 : ∀ hh, s[k]'hh = c := fun _ => hc
      have hdr : s.data.toList.drop k = c :: s.data.toList.drop (k + 1) := by
        rw [List.drop_eq_getElem_cons hkl, ← hc]; rfl
      by_cases h37 : c = 37
      · subst h37
        have hxl : (s.extract (k + 1) s.size).data.toList = s.data.toList.drop (k + 1) := by
          rw [Lib.extract_data]; exact List.take_of_length_le (by rw [List.length_drop, len]; omega)
        have hxs : (s.extract (k + 1) s.size).size = s.size - (k + 1) := by rw [← len, hxl, List.length_drop, len]
        have c2 : IntKind.i64.wrap ((k : Int) + 1) = ((k + 1 : Nat) : Int) := by rw [wrap_in _ (by omega) (by omega)]; omega
        have c3 : ((k + 1 : Nat) : Int) ≤ (s.size : Int) := by omega
        rw [hdr] at hrep
        by_cases hgood : ∃ a b r, s.data.toList.drop (k + 1) = a :: b :: r ∧ (hx a && hx b) = true
        · obtain ⟨a, b, r, hl, hh⟩ := hgood
          have hlen := congrArg List.length hl
          rw [List.length_drop, len] at hlen
          simp only [List.length_cons] at hlen
          have hQ := Lib.hid (fun w => pair_yes (s.extract (k + 1) s.size) w a b r (hxl.trans hl) hh)
          have hd3 : s.data.toList.drop (k + 2 + 1) = r := by
            rw [show k + 2 + 1 = (k + 1) + 2 by omega, ← List.drop_drop, hl]; rfl
          rw [hl, repl_two p a b r hh, ← hd3] at hrep
          generalize byte2 a b = d at *
          have HW : Hid (Calls Tryd.prog g #[.pointer (some ⟨w.heap.size, 0, none⟩), .int .u8 (d.toNat : Int)] wr fun e w' => e = .returned (.tuple #[]) ∧ Lib.IsBuilderF Bld.T Bld.E w.heap.size w.heap.size (Lib.byteCells (out ++ p d)) w' ∧ Below w.heap.size wr w') := Lib.hid (HP.out w.heap.size w.heap.size out d wr HB.out (by omega) hBw)
          have H3 := HP3.out d
          have HR2 : Hid ((repl p (s.data.toList.drop (k + 2 + 1))).map ((out ++ p d) ++ ·) = R) := Lib.hid (by rw [← hrep.out, Option.map_map]; congr 1; funext z; simp)
          clear hdr hrep hc HB hl hh hxl hxs hd3
          go_wp2_with (first
            | (go_at_call 34; with_reducible refine (hQ.out _).mono ?_; rintro e w1 ⟨rfl, hw⟩; rw [hw]; clear hw)
            | (go_at_fn g; with_reducible refine HW.out.mono ?_; rintro e w2 ⟨rfl, hat, hb2⟩
               have G2 := Lib.hid hat
               have G3 := Lib.hid (hbr.out.trans hb2)
               clear hat hb2))
          go_roundw
          case rel => exact ⟨k + 2 + 1, out ++ p d, by omega, by go_num, by simp; omega, HR2, G2, G3⟩
          case measure => simp [intOf]; omega
        · have hbad : (s.extract (k + 1) s.size).size < 2 ∨ ∃ a b r, (s.extract (k + 1) s.size).data.toList = a :: b :: r ∧ (hx a && hx b) = false := by
            rw [hxs, hxl]
            cases hl : s.data.toList.drop (k + 1) with
            | nil => left; have := congrArg List.length hl; rw [List.length_drop, len] at this; simp at this; omega
            | cons a l => cases l with
              | nil => left; have := congrArg List.length hl; rw [List.length_drop, len] at this; simp at this; omega
              | cons b r =>
                right
                refine ⟨a, b, r, rfl, ?_⟩
                cases hh : (hx a && hx b)
                · rfl
                · exact absurd ⟨a, b, r, hl, hh⟩ hgood
          have hnone : repl p (37 :: s.data.toList.drop (k + 1)) = none := by
            rw [← hxl]
            rcases hbad with h2 | ⟨a, b, r, hl, hh⟩
            · rw [← len] at h2
              match (s.extract (k + 1) s.size).data.toList, h2 with
              | [], _ => exact repl_last p
              | [a], _ => exact repl_one p a
            · rw [hl]; exact repl_bad p a b r hh
          have hQ := Lib.hid (fun w => pair_no (s.extract (k + 1) s.size) w hbad)
          have hRn := hrep.out
          rw [hnone] at hRn
          have HN := Lib.hid hRn
          clear hdr hrep hc HB hgood hxl hxs hbad hnone hRn
          go_wp2_with (first
            | (go_at_call 34; with_reducible refine (hQ.out _).mono ?_; rintro e w1 ⟨rfl, hw⟩; rw [hw]; clear hw))
          go_ret2
          exact ⟨by rw [← HN.out]; rfl, hbr.out⟩
      · rw [hdr, repl_other p c _ h37] at hrep
        have hne : ¬ (c.toNat : Int) = 37 := by
          intro e; exact h37 (UInt8.toNat_inj.1 (by show c.toNat = 37; omega))
        have HC := Lib.hid (byte_any w.heap.size w.heap.size out c wr HB.out (by omega) hBw)
        have HR2 : Hid ((repl p (s.data.toList.drop (k + 1))).map ((out ++ [c]) ++ ·) = R) := Lib.hid (by rw [← hrep.out, Option.map_map]; congr 1; funext z; simp)
        clear hdr hrep h37 hc HB
        go_wp2_with (go_at_call 33; with_reducible refine HC.out.mono ?_; rintro e w2 ⟨rfl, hat, hb2⟩)
        have H2 := Lib.hid hat
        have H3 := Lib.hid (hbr.out.trans hb2)
        clear hat hb2
        go_roundw
        case rel => exact ⟨k + 1, out ++ [c], by omega, by go_num, by simp; omega, HR2, H2, H3⟩
        case measure => simp [intOf]; omega
    · obtain rfl : k = s.size := by omega
      have hrep2 := hrep.out
      rw [List.drop_of_length_le (by rw [len]; exact Nat.le_refl _), repl_nil, Option.map_some, List.append_nil] at hrep2
      have HQ := Lib.hid hrep2
      have HS := Lib.hid (Tryd.Builder_String_any_f w.heap.size w.heap.size out wr HB.out hbr.out.size)
      clear HB hrep2 hrep
      go_wp2_with (go_at_call 35; with_reducible refine HS.out.mono ?_; rintro e w2 ⟨rfl, hx, hb2⟩)
      go_ret2
      exact ⟨by rw [← HQ.out]; rfl, hbr.out.trans hb2⟩
end code
end Go.Proofs.YtojjhknejkhdhaaDoor.Pct
