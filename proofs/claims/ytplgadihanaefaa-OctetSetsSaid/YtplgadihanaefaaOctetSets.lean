/-
  Layer 1 (octet): the walk of OctetSets: it returns true, and writes nothing that was there. A byte is of one of eight classes; each is walked alone.
-/
import Derived.Test.YtplgadihanaefaaOctetLaws
namespace Go.Proofs.Ytplgadihanaefaa.OctL
open Go.RowKit Base Oct

attribute [local go_sem] Base.some_undef

section code
set_option maxHeartbeats 20000000
theorem classes : ∀ k : Fin 256, (digit k.val, isHex k.val, token k.val, visible k.val, Oct.blank k.val, Oct.control k.val, textual k.val, (k.val : Int) == 9, (k.val : Int) == 32) ∈
    [(true, true, true, true, false, false, true, false, false), (false, true, true, true, false, false, true, false, false), (false, false, true, true, false, false, true, false, false),
     (false, false, false, true, false, false, true, false, false), (false, false, false, false, false, false, true, false, false), (false, false, false, false, false, true, false, false, false),
     (false, false, false, false, true, true, true, true, false), (false, false, false, false, true, false, true, false, true)] := by decide +kernel
theorem sets_walk (n : Int) (w : World) (h0 : 0 ≤ n) (h1 : n ≤ 255) : Calls Try.prog 5 #[.int .u8 n] w fun e w' => e = .returned (.bool true) ∧ Below w.heap.size w w' := by
  have hc := classes ⟨n.toNat, by omega⟩
  have e : ((n.toNat : Nat) : Int) = n := by omega
  simp only [e, List.mem_cons, List.not_mem_nil, or_false, Prod.mk.injEq] at hc
  clear e
  rcases hc with ⟨c1, c2, c3, c4, c5, c6, c7, c8, c9⟩ | ⟨c1, c2, c3, c4, c5, c6, c7, c8, c9⟩ | ⟨c1, c2, c3, c4, c5, c6, c7, c8, c9⟩ | ⟨c1, c2, c3, c4, c5, c6, c7, c8, c9⟩ | ⟨c1, c2, c3, c4, c5, c6, c7, c8, c9⟩ | ⟨c1, c2, c3, c4, c5, c6, c7, c8, c9⟩ | ⟨c1, c2, c3, c4, c5, c6, c7, c8, c9⟩ | ⟨c1, c2, c3, c4, c5, c6, c7, c8, c9⟩
  all_goals
    go_enter Try.func5, Try.ntmps5
    go_wp2_with (first
      | (go_at_call 7; refine (known_any _).mono ?_; rintro e w1 ⟨rfl, hb⟩)
      | (go_at_call 8; refine (hex_any _ _ (by assumption) (by assumption)).mono ?_; rintro e w' ⟨rfl, rfl⟩)
      | (go_at_call 10; refine (token_any _ _ (by assumption) (by assumption)).mono ?_; rintro e w' ⟨rfl, rfl⟩)
      | (go_at_call 12; refine (visible_any _ _).mono ?_; rintro e w' ⟨rfl, rfl⟩)
      | (go_at_call 14; refine (blank_any _ _).mono ?_; rintro e w' ⟨rfl, rfl⟩)
      | (go_at_call 16; refine (control_any _ _).mono ?_; rintro e w' ⟨rfl, rfl⟩)
      | (go_at_call 18; refine (digit_any _ _).mono ?_; rintro e w' ⟨rfl, rfl⟩)
      | (go_at_call 20; refine (text_any _ _).mono ?_; rintro e w' ⟨rfl, rfl⟩))
    go_ret
    exact ⟨rfl, hb⟩
end code
end Go.Proofs.Ytplgadihanaefaa.OctL
