/-
  Layer 13 (parser), in plain words: what the readings of a line, of a head may be: numbers within their bounds, errors that are known, texts no longer than the line. No program is spoken of.
-/
import Derived.Test.YtibnobdbmojjhaaGreatDoorParWords
namespace Go.Proofs.YtibnobdbmojjhaaGreatDoor.Par
open Go.RowKit Base Txt

theorem grow_facts {base most : Int} (hb : 1 ≤ base) (hm : 0 ≤ most) : ∀ (l : List UInt8) (n k : Int), 0 ≤ n → n ≤ most → Num.grow base most n l = some k → 0 ≤ k ∧ k ≤ most
  | [], n, k, h0, h1, h => by
    simp only [Num.grow, Option.some.injEq] at h
    omega
  | c :: r, n, k, h0, h1, h => by
    unfold Num.grow at h
    by_cases hc : most < Num.dig c ∨ (most - Num.dig c) / base < n
    · rw [if_pos hc] at h; cases h
    · rw [if_neg hc] at h
      have hd := Num.dig_nonneg c
      have h2 : n ≤ (most - Num.dig c) / base := by omega
      have h3 : n * base ≤ most - Num.dig c := by
        have := Int.mul_le_mul_of_nonneg_right h2 (by omega : 0 ≤ base)
        have h4 := Int.ediv_mul_le (most - Num.dig c) (by omega : base ≠ 0)
        omega
      have h5 : 0 ≤ n * base := Int.mul_nonneg h0 (by omega)
      exact grow_facts hb hm r _ k (by omega) (by omega) h
/-- A number that is read is none below 0 and within its most; the errors are two. -/
theorem read_facts (base most : Int) (hb : 1 ≤ base) (l : List UInt8) : ((Num.readOf base most l).2 = 0 ∧ 0 ≤ (Num.readOf base most l).1 ∧ (Num.readOf base most l).1 ≤ max most 0) ∨ (Num.readOf base most l).2 = 22 ∨ (Num.readOf base most l).2 = 23 := by
  unfold Num.readOf
  split
  · exact .inr (.inl rfl)
  · cases h : Num.grow base (max most 0) 0 l with
    | none => exact .inr (.inr rfl)
    | some k =>
      have := grow_facts hb (by omega) l 0 k (by omega) (by omega) h
      exact .inl ⟨rfl, this.1, this.2⟩
theorem chunk_facts (hex blanks : Bool) (ext body : Int) (l : List UInt8) : ((Chk.sizeV hex blanks ext body l).2 = 0 ∧ 0 ≤ (Chk.sizeV hex blanks ext body l).1 ∧ (Chk.sizeV hex blanks ext body l).1 ≤ max body 0) ∨ (Chk.sizeV hex blanks ext body l).2 = 400 ∨ (Chk.sizeV hex blanks ext body l).2 = 413 := by
  unfold Chk.sizeV
  split
  · rcases read_facts 16 body (by decide) (Chk.sizeL hex blanks l) with ⟨h0, h1, h2⟩ | h | h
    · unfold Chk.numV
      rw [h0, if_neg (by decide), if_neg (by decide)]
      exact .inl ⟨rfl, h1, h2⟩
    · unfold Chk.numV
      rw [h, if_pos rfl]; exact .inr (.inl rfl)
    · unfold Chk.numV
      rw [h, if_neg (by decide), if_pos rfl]; exact .inr (.inr rfl)
  · exact .inr (.inl rfl)
theorem length_facts (lp lc lf ll : Bool) (most : Int) (vs : List ByteArray) : ((Frm.lengthV lp lc lf ll most vs).2 = 0 ∧ 0 ≤ (Frm.lengthV lp lc lf ll most vs).1 ∧ (Frm.lengthV lp lc lf ll most vs).1 ≤ max most 0) ∨ (Frm.lengthV lp lc lf ll most vs).2 = 400 ∨ (Frm.lengthV lp lc lf ll most vs).2 = 413 := by
  unfold Frm.lengthV
  split
  · exact .inl ⟨rfl, by decide, by show (0 : Int) ≤ _; omega⟩
  · split
    · exact .inr (.inl rfl)
    · rename_i s _
      rcases read_facts 10 most (by decide) (Frm.unplus lp s).data.toList with ⟨h0, h1, h2⟩ | h | h
      · unfold Frm.numV
        rw [h0, if_neg (by decide), if_neg (by decide)]
        exact .inl ⟨rfl, h1, h2⟩
      · unfold Frm.numV
        rw [h, if_pos rfl]; exact .inr (.inl rfl)
      · unfold Frm.numV
        rw [h, if_neg (by decide), if_pos rfl]; exact .inr (.inr rfl)
/-- A framing: chunks, a length within its most, or an error. -/
theorem decide_facts (c : Frm.Cl) (ch : Bool) (body minor : Int) (fs : List Fld) :
    Frm.decideV c ch body minor fs = (2, 0, 0) ∨ (∃ n : Nat, (n : Int) ≤ max body 0 ∧ Frm.decideV c ch body minor fs = (1, (n : Int), 0)) ∨ ∃ e : Nat, (e = 400 ∨ e = 413 ∨ e = 501) ∧ Frm.decideV c ch body minor fs = (0, 0, (e : Int)) := by
  unfold Frm.decideV Frm.bodyV
  have hh : Frm.hostsV c.nh c.mh minor (find fs Frm.hostN) = 0 ∨ Frm.hostsV c.nh c.mh minor (find fs Frm.hostN) = 400 := by
    unfold Frm.hostsV
    split
    · exact .inr rfl
    · split
      · exact .inl rfl
      · exact .inr rfl
  rcases hh with h | h
  · rw [h, if_neg (by decide)]
    obtain ⟨W, hW⟩ : ∃ W, Frm.winsV c.td c.ti c.tw c.lw minor (find fs Frm.teN).length (find fs Frm.clN).length (Frm.coding c.tb c.tl (find fs Frm.teN)) = W := ⟨_, rfl⟩
    have hw : W.2 = 0 ∨ W.2 = 400 ∨ W.2 = 501 := by
      rw [← hW]
      unfold Frm.winsV
      repeat' split
      all_goals simp
    rw [hW]
    rcases hw with w | w | w
    · rw [w, if_neg (by decide)]
      split
      · split
        · exact .inl rfl
        · exact .inr (.inr ⟨501, by simp, rfl⟩)
      · rcases length_facts c.lp c.lc c.lf c.ll body (find fs Frm.clN) with ⟨h0, h1, h2⟩ | h0 | h0
        · refine .inr (.inl ⟨(Frm.lengthV c.lp c.lc c.lf c.ll body (find fs Frm.clN)).1.toNat, by omega, ?_⟩)
          unfold Frm.fixedV
          rw [h0, if_pos rfl, Int.toNat_of_nonneg h1]
        · refine .inr (.inr ⟨400, by simp, ?_⟩)
          unfold Frm.fixedV
          rw [h0, if_neg (by decide)]; rfl
        · refine .inr (.inr ⟨413, by simp, ?_⟩)
          unfold Frm.fixedV
          rw [h0, if_neg (by decide)]; rfl
    · rw [w, if_pos (by decide)]; exact .inr (.inr ⟨400, by simp, rfl⟩)
    · rw [w, if_pos (by decide)]; exact .inr (.inr ⟨501, by simp, rfl⟩)
  · rw [h, if_pos (by decide)]; exact .inr (.inr ⟨400, by simp, rfl⟩)
/-- A request's first line: an error, or texts no longer than the line. -/
theorem request_facts (c : Rq.Cl) (old : Bool) (l : List UInt8) : ((Rq.request c old l).2.2.2 = 0 ∧ (Rq.request c old l).1.length ≤ l.length ∧ (Rq.request c old l).2.1.length ≤ l.length ∧ (Rq.request c old l).2.2.1 ≤ 1) ∨ (Rq.request c old l).2.2.2 = 400 ∨ (Rq.request c old l).2.2.2 = 505 := by
  unfold Rq.request
  split
  · exact .inr (.inl rfl)
  · rename_i m t v hp
    split
    · split
      · exact .inr (.inr rfl)
      · rename_i k hk
        split
        · exact .inr (.inr rfl)
        · obtain ⟨-, h1, -, h2, -⟩ := Rq.pick_some hp
          refine .inl ⟨rfl, h1, h2, ?_⟩
          show k ≤ 1
          unfold Rq.verL at hk
          repeat' split at hk
          all_goals first | (cases hk; omega) | cases hk
    · exact .inr (.inl rfl)
end Go.Proofs.YtibnobdbmojjhaaGreatDoor.Par
