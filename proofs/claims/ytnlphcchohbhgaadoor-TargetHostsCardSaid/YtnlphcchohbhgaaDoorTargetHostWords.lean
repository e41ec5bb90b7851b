/-
  Layer 7 (target), in plain words: which names and which ports may be.
-/
import Derived.Test.YtnlphcchohbhgaaDoorTargetWords
import Derived.Test.YtnlphcchohbhgaaDoorTextBase
namespace Go.Proofs.YtnlphcchohbhgaaDoor.Tgt
open Go.RowKit Base Oct Num Txt

def signs13 : List UInt8 := [97, 122, 45, 46, 95, 126, 48, 57, 65, 90, 47, 64, 33]
def signAt (r : Nat) : UInt8 := signs13[r]?.getD 0
def nameOf (bs : List UInt8) : List UInt8 := bs.map fun b => signAt (b.toNat % 13)
def goodOf (bs : List UInt8) : Bool := bs.all fun b => decide (b.toNat % 13 < 10)
theorem sign_tab : ∀ r : Fin 13, plainB nameMarks (signAt r.val) = decide (r.val < 10) ∧ signAt r.val ≠ 58 := by decide +kernel
theorem name_good : ∀ bs : List UInt8, (nameOf bs).all (plainB nameMarks) = goodOf bs
  | [] => rfl
  | b :: r => by
    have e1 : nameOf (b :: r) = signAt (b.toNat % 13) :: nameOf r := rfl
    have e2 : goodOf (b :: r) = (decide (b.toNat % 13 < 10) && goodOf r) := rfl
    rw [e1, e2, List.all_cons, name_good r, (sign_tab ⟨b.toNat % 13, Nat.mod_lt _ (by decide)⟩).1]
theorem name_no_colon (bs : List UInt8) : (58 : UInt8) ∉ nameOf bs := by
  intro h
  obtain ⟨b, _, e⟩ := List.mem_map.1 h
  exact (sign_tab ⟨b.toNat % 13, Nat.mod_lt _ (by decide)⟩).2 e
theorem name_ok (bs : List UInt8) (hl : bs.length ≤ 30) : nameOk (nameOf bs) = (decide (0 < bs.length) && goodOf bs) := by
  unfold nameOk
  rw [name_good, decide_eq_true (by rw [nameOf, List.length_map]; omega), Bool.true_and]
  congr 1
  cases bs with
  | nil => rfl
  | cons _ _ => simp [nameOf]
theorem host_name (bs : List UInt8) (hl : bs.length ≤ 30) : hostB (nameOf bs) = (decide (0 < bs.length) && goodOf bs) := by
  unfold hostB
  rw [cutAt_none 58 _ (name_no_colon bs)]
  simp only [Bool.not_false, Bool.true_or, Bool.and_true]
  exact name_ok bs hl
theorem host_port (bs p : List UInt8) (hl : bs.length ≤ 30) : hostB (nameOf bs ++ 58 :: p) = ((decide (0 < bs.length) && goodOf bs) && portOk p) := by
  unfold hostB
  rw [cutAt_app 58 _ p (name_no_colon bs)]
  simp only [Bool.not_true, Bool.false_or]
  rw [name_ok bs hl]
theorem host_no_port (bs : List UInt8) (hl : bs.length ≤ 30) : hostB (nameOf bs ++ [58]) = false := by
  rw [host_port bs [] hl, show portOk [] = false from rfl, Bool.and_false]
theorem host_no_name (p : List UInt8) : hostB (58 :: p) = false := rfl
theorem host_long (m : Nat) (h : 1 ≤ m) : hostB (List.replicate m 97) = decide (m ≤ 255) := by
  unfold hostB
  have hno : (58 : UInt8) ∉ List.replicate m (97 : UInt8) := by
    intro h
    have := List.eq_of_mem_replicate h
    revert this; decide
  rw [cutAt_none 58 _ hno]
  simp only [Bool.not_false, Bool.true_or, Bool.and_true]
  unfold nameOk
  obtain ⟨k, rfl⟩ : ∃ k, m = k + 1 := ⟨m - 1, by omega⟩
  have ha : (List.replicate (k + 1) (97 : UInt8)).all (plainB nameMarks) = true := by
    rw [List.all_eq_true]
    intro x hx
    rw [List.eq_of_mem_replicate hx]; decide +kernel
  rw [ha, List.length_replicate, Bool.and_true, List.replicate_succ]
  rfl
theorem port_ok (N z : Nat) : portOk (List.replicate z 48 ++ spell 10 N) = (decide ((List.replicate z 48 ++ spell 10 N).length ≤ 5) && decide (N ≤ 65535)) := by
  have h := read_spell (b := 10) (by decide) (by decide) N z 65535 (by decide)
  unfold portOk
  have h' : readOf 10 65535 (List.replicate z 48 ++ spell 10 N) = if (N : Int) ≤ 65535 then ((N : Int), 0) else (0, 23) := h
  rw [h']
  congr 1
  by_cases hN : N ≤ 65535
  · rw [if_pos (by omega), decide_eq_true hN]; rfl
  · rw [if_neg (by omega), decide_eq_false hN]; rfl
theorem nameOf_snoc (bs : List UInt8) (k : Nat) (h : k < bs.length) : nameOf (bs.take (k + 1)) = nameOf (bs.take k) ++ [signAt (bs[k].toNat % 13)] := by
  unfold nameOf
  rw [List.take_succ_eq_append_getElem h, List.map_append, List.map_singleton]
theorem goodOf_snoc (bs : List UInt8) (k : Nat) (h : k < bs.length) : goodOf (bs.take (k + 1)) = (goodOf (bs.take k) && decide (bs[k].toNat % 13 < 10)) := by
  unfold goodOf
  rw [List.take_succ_eq_append_getElem h, List.all_append, List.all_cons, List.all_nil, Bool.and_true]
theorem one_conv (w : World) (x : UInt8) : (convert 22 9 (.slice (some ⟨w.heap.size, 0, none⟩) 1 1)).run Tryd.prog (w.alloc (.cells #[.int .u8 x.toNat] 5)) = .ok (.string ⟨#[x]⟩) (w.alloc (.cells #[.int .u8 x.toNat] 5)) := by
  refine conv_str (w.alloc _) (some ⟨w.heap.size, 0, none⟩) 1 1 [x] ⟨rfl, fun _ => ⟨w.heap.size, 0, rfl, by simp, fun k hk => ?_⟩⟩
  obtain rfl : k = 0 := by omega
  exact cell_of_row (w.alloc (.cells #[.int .u8 x.toNat] 5)) w.heap.size 0 #[.int .u8 x.toNat] 5 (0, 0) (heap_alloc_new w _)
end Go.Proofs.YtnlphcchohbhgaaDoor.Tgt
