/-
  Layer 11 (chunk): what the plain words say of a size that is a number's digits: with marks and blanks around it, with an extension behind it. No program is spoken of.
-/
import Derived.Test.YtonedklnjkjcgaaDoorChkPut
namespace Go.Proofs.YtonedklnjkjcgaaDoor.Chk
open Go.RowKit Base Txt

theorem hex_tab : ∀ k : Fin 256, Num.digitOf 16 (UInt8.ofNat k.val) = true → UInt8.ofNat k.val ≠ 59 ∧ Txt.blank (UInt8.ofNat k.val) = false ∧ lowB (UInt8.ofNat k.val) ≠ 120 ∧ UInt8.ofNat k.val ≠ 32 := by decide +kernel
theorem hex_props (c : UInt8) (h : Num.digitOf 16 c = true) : c ≠ 59 ∧ Txt.blank c = false ∧ lowB c ≠ 120 ∧ c ≠ 32 := by
  have := hex_tab ⟨c.toNat, c.toNat_lt⟩
  simp only [UInt8.ofNat_toNat] at this
  exact this h
theorem hexes (n : Nat) : ∀ c ∈ Num.spell 16 n, Num.digitOf 16 c = true := by
  have h := Num.spell_all (b := 16) (by decide) (by decide) n
  exact fun c hc => List.all_eq_true.1 h c hc
theorem read_hex (n : Nat) (h : n ≤ 65536) : Num.readOf 16 65536 (Num.spell 16 n) = ((n : Int), 0) := by
  have := Num.read_spell (b := 16) (by decide) (by decide) n 0 65536 (by decide)
  rw [if_pos (by omega)] at this
  exact this
/-- What holds a byte that is no digit is no number. -/
theorem read_not (body : Int) (l : List UInt8) (h : l = [] ∨ ∃ c ∈ l, Num.digitOf 16 c = false) : Num.readOf 16 body l = (0, 22) := by
  unfold Num.readOf
  rw [if_pos]
  rcases h with rfl | ⟨c, hc, hd⟩
  · rfl
  · rw [Bool.or_eq_true]
    right
    rw [Bool.not_eq_true', List.all_eq_false]
    exact ⟨c, hc, by rw [hd]; decide⟩
theorem size_at_ext (hex blanks : Bool) (ext body : Int) (z t : List UInt8) (hz : (59 : UInt8) ∉ z) (ht : t = [] ∨ ∃ e, t = 59 :: e) :
    sizeV hex blanks ext body (z ++ t) = if isx ext t = true then numV (Num.readOf 16 body (pieceL hex blanks z)) else (0, 400) := by
  have h : extL (z ++ t) = t ∧ (Tgt.cutAt 59 (z ++ t)).1 = z := by
    unfold extL
    rcases ht with rfl | ⟨e, rfl⟩
    · rw [List.append_nil, Tgt.cutAt_none 59 z hz]; exact ⟨rfl, rfl⟩
    · rw [Tgt.cutAt_app 59 z e hz]; exact ⟨rfl, rfl⟩
  unfold sizeV sizeL
  rw [h.1, h.2]
theorem ab_text : isx 32 [59, 97, 61, 98] = true ∧ isx 32 [] = true := by decide +kernel
/-- The extension that the law writes, or none. -/
def tailL (b : Bool) : List UInt8 := if b = true then [59, 97, 61, 98] else []
theorem size_tail (hex blanks b : Bool) (z : List UInt8) (hz : (59 : UInt8) ∉ z) : sizeV hex blanks 32 65536 (z ++ tailL b) = numV (Num.readOf 16 65536 (pieceL hex blanks z)) := by
  rw [size_at_ext hex blanks 32 65536 z (tailL b) hz (by cases b; exact .inl rfl; exact .inr ⟨_, rfl⟩), if_pos]
  cases b
  · exact ab_text.2
  · exact ab_text.1
theorem hex_ends (n : Nat) : (∃ x r, Num.spell 16 n = x :: r ∧ Txt.blank x = false) ∧ ∃ x r, Num.spell 16 n = r ++ [x] ∧ Txt.blank x = false := by
  have hp := hexes n
  have hne := Num.spell_ne (b := 16) (by decide) n
  generalize Num.spell 16 n = H at *
  refine ⟨?_, H.getLast hne, H.dropLast, (List.dropLast_concat_getLast hne).symm, (hex_props _ (hp _ (List.getLast_mem hne))).2.1⟩
  match H, hne, hp with
  | x :: r, _, hp => exact ⟨x, r, rfl, (hex_props x (hp x (by simp))).2.1⟩
theorem trim_self (M : List UInt8) (h : (∃ x r, M = x :: r ∧ Txt.blank x = false) ∧ ∃ x r, M = r ++ [x] ∧ Txt.blank x = false) : trimL Txt.blank M = M := by
  have := trimL_mid Txt.blank [] M [] (by simp) (by simp) (.inr h)
  simpa using this
theorem bare_hex (n : Nat) : bare (Num.spell 16 n) = Num.spell 16 n := by
  have hp := hexes n
  generalize Num.spell 16 n = H at *
  unfold bare
  rw [if_neg]
  unfold marked
  match H, hp with
  | [], _ => decide
  | [a], _ => simp
  | a :: b :: r, hp =>
    have hb := (hex_props b (hp b (by simp))).2.2.1
    intro h
    rw [Bool.and_eq_true] at h
    have h2 : [lowB a, lowB b] = [48, 120] := beq_iff_eq.1 h.2
    injection h2 with _ h3
    injection h3 with h4 _
    exact hb h4
theorem bare_mark (m : UInt8) (hm : m = 120 ∨ m = 88) (H : List UInt8) : bare (48 :: m :: H) = H := by
  have h : marked (48 :: m :: H) = true := by
    unfold marked
    have h2 : same (ba ((48 :: m :: H).take 2)) ⟨#[48, 120]⟩ = true := by
      show same (ba [48, m]) ⟨#[48, 120]⟩ = true
      rcases hm with rfl | rfl <;> decide +kernel
    rw [h2, Bool.and_true]
    exact decide_eq_true (by simp)
  unfold bare
  rw [if_pos h]; rfl
theorem mark_val (n : Nat) (hn : n ≤ 65536) (m : UInt8) (hm : m = 120 ∨ m = 88) (blanks e : Bool) :
    sizeV false blanks 32 65536 ((48 :: m :: Num.spell 16 n) ++ tailL e) = (0, 400) ∧ sizeV true blanks 32 65536 ((48 :: m :: Num.spell 16 n) ++ tailL e) = ((n : Int), 0) := by
  have hp := hexes n
  have hz : (59 : UInt8) ∉ 48 :: m :: Num.spell 16 n := by
    intro h
    rcases List.mem_cons.1 h with h | h
    · exact absurd h (by decide)
    · rcases List.mem_cons.1 h with h | h
      · rcases hm with rfl | rfl <;> exact absurd h (by decide)
      · exact (hex_props 59 (hp 59 h)).1 rfl
  have ht : trimL Txt.blank (48 :: m :: Num.spell 16 n) = 48 :: m :: Num.spell 16 n := by
    refine trim_self _ ⟨⟨48, _, rfl, by decide⟩, ?_⟩
    obtain ⟨_, x, r, h, hx⟩ := hex_ends n
    exact ⟨x, 48 :: m :: r, by rw [h]; rfl, hx⟩
  have hmd : Num.digitOf 16 m = false := by rcases hm with rfl | rfl <;> decide +kernel
  rw [size_tail false blanks e _ hz, size_tail true blanks e _ hz]
  have p1 : pieceL false blanks (48 :: m :: Num.spell 16 n) = 48 :: m :: Num.spell 16 n := by
    cases blanks
    · rfl
    · show trimL Txt.blank _ = _; exact ht
  have p2 : pieceL true blanks (48 :: m :: Num.spell 16 n) = Num.spell 16 n := by
    cases blanks
    · show bare _ = _; exact bare_mark m hm _
    · show bare (trimL Txt.blank _) = _; rw [ht]; exact bare_mark m hm _
  rw [p1, p2, read_hex n hn, read_not 65536 _ (.inr ⟨m, by simp, hmd⟩)]
  exact ⟨rfl, rfl⟩
theorem drop_two (Y : List UInt8) (h : Y ≠ []) : (Y ++ [32]).drop 2 = [] ∨ (32 : UInt8) ∈ (Y ++ [32]).drop 2 := by
  match Y, h with
  | [a], _ => exact .inl rfl
  | a :: b :: r, _ => exact .inr (by simp)
theorem blank_val (n : Nat) (hn : n ≤ 65536) (A B : List UInt8) (hA : ∀ x ∈ A, Txt.blank x = true) (hB : ∀ x ∈ B, Txt.blank x = true) (hex e : Bool) :
    sizeV hex false 32 65536 ((A ++ (Num.spell 16 n ++ (B ++ [32]))) ++ tailL e) = (0, 400) ∧ sizeV hex true 32 65536 ((A ++ (Num.spell 16 n ++ (B ++ [32]))) ++ tailL e) = ((n : Int), 0) := by
  have hp := hexes n
  have h59 : Txt.blank 59 = false := by decide
  have hz : (59 : UInt8) ∉ A ++ (Num.spell 16 n ++ (B ++ [32])) := by
    intro h
    rcases List.mem_append.1 h with h | h
    · rw [hA _ h] at h59; cases h59
    · rcases List.mem_append.1 h with h | h
      · exact (hex_props 59 (hp 59 h)).1 rfl
      · rcases List.mem_append.1 h with h | h
        · rw [hB _ h] at h59; cases h59
        · exact absurd h (by decide)
  have ht : trimL Txt.blank (A ++ (Num.spell 16 n ++ (B ++ [32]))) = Num.spell 16 n := by
    refine trimL_mid Txt.blank A _ _ hA (fun x hx => ?_) (.inr (hex_ends n))
    rcases List.mem_append.1 hx with h | h
    · exact hB x h
    · obtain rfl : x = 32 := by simpa using h
      decide
  rw [size_tail hex false e _ hz, size_tail hex true e _ hz]
  have p2 : pieceL hex true (A ++ (Num.spell 16 n ++ (B ++ [32]))) = Num.spell 16 n := by
    cases hex
    · show trimL Txt.blank _ = _; exact ht
    · show bare (trimL Txt.blank _) = _; rw [ht]; exact bare_hex n
  have eY : A ++ (Num.spell 16 n ++ (B ++ [32])) = (A ++ (Num.spell 16 n ++ B)) ++ [32] := by simp only [List.append_assoc]
  have hY : A ++ (Num.spell 16 n ++ B) ≠ [] := by
    have := Num.spell_ne (b := 16) (by decide) n
    intro h
    rw [List.append_eq_nil_iff, List.append_eq_nil_iff] at h
    exact this h.2.1
  have h32 : Num.digitOf 16 32 = false := by decide +kernel
  have p1 : Num.readOf 16 65536 (pieceL hex false (A ++ (Num.spell 16 n ++ (B ++ [32])))) = (0, 22) := by
    rw [eY]
    cases hex
    · exact read_not _ _ (.inr ⟨32, by show 32 ∈ _ ++ [32]; simp, h32⟩)
    · show Num.readOf 16 65536 (bare ((A ++ (Num.spell 16 n ++ B)) ++ [32])) = _
      unfold bare
      split
      · rcases drop_two _ hY with h | h
        · exact read_not _ _ (.inl h)
        · exact read_not _ _ (.inr ⟨32, h, h32⟩)
      · exact read_not _ _ (.inr ⟨32, by simp, h32⟩)
  rw [p1, p2, read_hex n hn]
  exact ⟨rfl, rfl⟩
end Go.Proofs.YtonedklnjkjcgaaDoor.Chk
