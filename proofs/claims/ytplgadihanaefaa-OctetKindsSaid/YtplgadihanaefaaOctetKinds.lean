/-
  Layer 1 (octet): the walk of OctetKinds: it returns true, and writes nothing that was there.
-/
import Derived.Test.YtplgadihanaefaaOctetLaws
import Derived.Maps.AppendAt
namespace Go.Proofs.Ytplgadihanaefaa.OctL
open Go.RowKit Base Oct

theorem int_info : (Try.prog.info? 3).map (fun i => (i.zero, i.size, i.bytes)) = some (some (.int .i64 0), 1, 8) := by kernel_rfl
/-- The number k of kinds, its low three bits. -/
def low (x : Int) : Int := bits .and .i64 x 7

/-- The five texts that are asked of. -/
def texts (s : ByteArray) : Nat → ByteArray
  | 0 => s | 1 => ⟨#[97, 90, 48, 57]⟩ | 2 => ⟨#[32, 9]⟩ | 3 => ⟨#[33, 120, 126]⟩ | _ => ⟨#[128, 255, 32, 97]⟩
theorem texts_size (s : ByteArray) (hs : s.size ≤ maxLen) : ∀ k, (texts s k).size ≤ maxLen
  | 0 => hs | 1 => by simp only [texts]; decide | 2 => by simp only [texts]; decide | 3 => by simp only [texts]; decide | _ + 4 => by simp only [texts]; decide
theorem texts_cell (s : ByteArray) (w : World) (t : TypeId) (k : Nat) (hk : k < 5) :
    (w.alloc (.cells #[.string s, .string ⟨#[97, 90, 48, 57]⟩, .string ⟨#[32, 9]⟩, .string ⟨#[33, 120, 126]⟩, .string ⟨#[128, 255, 32, 97]⟩] t)).cell? ⟨w.heap.size, k, none⟩ = some (.string (texts s k)) := by
  rw [cell_of_row (w.alloc _) w.heap.size k _ t (0, 0) (heap_alloc_new w _)]
  rcases (by omega : k = 0 ∨ k = 1 ∨ k = 2 ∨ k = 3 ∨ k = 4) with rfl | rfl | rfl | rfl | rfl <;> rfl

section code
set_option maxHeartbeats 1000000
theorem kinds_walk (s : ByteArray) (a : Option Addr) (len cap : Nat) (ks : List Int) (k8 : Int) (w : World) (hs : s.size ≤ maxLen) (hk : Ints w a len ks) (hl : len ≤ maxLen) (h0 : 0 ≤ k8) (h1 : k8 ≤ 255) :
    Calls Try.prog 4 #[.string s, .slice a len cap, .int .u8 k8] w fun e w' => e = .returned (.bool true) ∧ Below w.heap.size w w' := by
  have hs' := hs
  have hl' := hl
  unfold maxLen at hs' hl'
  have HK := Lib.hid hk
  have HL := Lib.hid hk.1
  have HM := Lib.hid hl
  have HS := Lib.hid hs
  clear hk hl hs
  obtain ⟨i0, hi, hz0, hz1, hz2⟩ := info_parts int_info
  have G1 := Lib.hid hi; have G2 := Lib.hid hz0; have G3 := Lib.hid hz1; have G4 := Lib.hid hz2
  clear hi hz0 hz1 hz2
  rcases Nat.lt_or_ge 60 s.size with hbig | hsm
  · go_enter Try.func4, Try.ntmps4
    go_wp2_with (go_at_call 7; refine (known_any _).mono ?_; rintro e w1 ⟨rfl, hb⟩)
    go_ret
    exact ⟨rfl, hb⟩
  rcases Nat.lt_or_ge 8 len with hbig | hsl
  · go_enter Try.func4, Try.ntmps4
    go_wp2_with (go_at_call 7; refine (known_any _).mono ?_; rintro e w1 ⟨rfl, hb⟩)
    go_ret
    exact ⟨rfl, hb⟩
  go_enter Try.func4, Try.ntmps4
  go_wp2_with (go_at_call 7; refine (known_any _).mono ?_; rintro e w1 ⟨rfl, hb⟩)
  have hI := Lib.hid (HK.out.below hb)
  clear HK
  go_loopw [7, 8] (fun v i wr => ∃ k : Nat, k ≤ len ∧ i = .int .i64 k ∧ Hid (wr.ownsRow w1.heap.size 3 1 v k (((ks.take k).map low).map (Value.int .i64))) ∧ Hid (Below w1.heap.size w1 wr)) (fun _ i _ => len - (intOf i).toNat)
  case atStart => exact ⟨0, Nat.zero_le _, rfl, Lib.hid ⟨rfl, .inl ⟨rfl, rfl⟩⟩, Lib.hid (Below.refl _ _)⟩
  case round =>
    obtain ⟨k, hk, rfl, hown, hbr⟩ := hrel
    rcases Nat.lt_or_ge k len with hlt | hge
    · obtain ⟨bl, off, rfl, _, hc⟩ := (hI.out.below hbr.out).2 (by omega)
      have hck := hc k hlt
      have HS1 := Lib.hid (ints_snoc ks k (by rw [HL.out]; exact hlt))
      clear hc
      go_wp2_with (at_builtin; refine wpList_append_own _ rfl _ _ 26 rfl w1.heap.size 3 i0 (.int .i64 0) 1 8 Try.underlying26 G1.out G2.out G3.out G4.out rfl (by decide) _ _ _ rfl (hown.out.alloc _) ⟨wr.heap.size, 0, none⟩ 1 1 [.int .i64 (low (ks[k]?.getD 0))] rfl rfl ?c1 ?c2 ?c3 ?c4 ?c5 ?_)
      case c1 => exact news_one wr _ _
      case c2 => intro u hu; obtain rfl : u = .int .i64 (low (ks[k]?.getD 0)) := by simpa using hu
                 rfl
      case c3 => unfold maxLen; omega
      case c4 => omega
      case c5 => have := hbr.out.size; simp; omega
      intro v' w' hown' hgr _
      have hown2 : w'.ownsRow w1.heap.size 3 1 v' (k + 1) (((ks.take (k + 1)).map low).map (Value.int .i64)) := by
        rw [HS1.out]; simpa using hown'
      have H2 := Lib.hid hown2
      have hb2 : Below w1.heap.size w1 w' := (hbr.out.alloc hbr.out.size _).grown hgr (by have := hbr.out.size; simp; omega) (own_base hown.out)
      have H3 := Lib.hid hb2
      clear hown' hgr hown2 hb2
      go_wp2
      go_roundw
      case rel => exact ⟨k + 1, by omega, by go_num, H2, H3⟩
      case measure => simp [intOf]; omega
    · obtain rfl : k = len := by omega
      have hown1 := hown.out
      rw [List.take_of_length_le (by rw [HL.out]; omega)] at hown1
      obtain ⟨A, c, rfl, hA⟩ := Ints.of_own hown1
      have HA := Lib.hid hA
      clear hown1 hA hown
      go_wp2
      have hcell := texts_cell s wr 9
      have hbase : Below w1.heap.size w1 (wr.alloc (.cells #[.string s, .string ⟨#[97, 90, 48, 57]⟩, .string ⟨#[32, 9]⟩, .string ⟨#[33, 120, 126]⟩, .string ⟨#[128, 255, 32, 97]⟩] 9)) := hbr.out.alloc hbr.out.size _
      have hg : wr.heap.size < (wr.alloc (.cells #[.string s, .string ⟨#[97, 90, 48, 57]⟩, .string ⟨#[32, 9]⟩, .string ⟨#[33, 120, 126]⟩, .string ⟨#[128, 255, 32, 97]⟩] 9)).heap.size := by simp
      have hA2 : Ints (wr.alloc (.cells #[.string s, .string ⟨#[97, 90, 48, 57]⟩, .string ⟨#[32, 9]⟩, .string ⟨#[33, 120, 126]⟩, .string ⟨#[128, 255, 32, 97]⟩] 9)) A k (ks.map low) := HA.out.below ((Below.refl _ _).alloc (Nat.le_refl _) _)
      generalize wr.alloc (.cells #[.string s, .string ⟨#[97, 90, 48, 57]⟩, .string ⟨#[32, 9]⟩, .string ⟨#[33, 120, 126]⟩, .string ⟨#[128, 255, 32, 97]⟩] 9) = W at *
      generalize wr.heap.size = g at *
      have HC := Lib.hid hcell; have HB := Lib.hid hbase; have HI := Lib.hid (hI.out.below hbase); have HT := Lib.hid (texts_size s HS.out); have HA' := Lib.hid hA2
      clear hcell hbase hA2 HA hbr
      go_loopw [38] (fun i wq => ∃ q : Nat, q ≤ 5 ∧ i = .int .i64 q ∧ Hid (Below W.heap.size W wq)) (fun i _ => 5 - (intOf i).toNat)
      case atStart => exact ⟨0, Nat.zero_le _, rfl, Lib.hid (Below.refl _ _)⟩
      case round =>
        obtain ⟨q, hq, rfl, hbq⟩ := hrel
        rcases Nat.lt_or_ge q 5 with hlt | hge
        · have hcq := (hbq.out.cell (p := ⟨g, q, none⟩) hg).trans (HC.out q hlt)
          have hk0 : 0 ≤ k8 % 8 := by omega
          go_wp2_with (first
            | (go_at_call 22; (with_reducible refine (all_any _ a k cap ks _ ?_ ?_ ?_).mono ?_); (exact HT.out q); (exact HI.out.below (by repeat (first | exact hbq.out | refine Base.below_drewN ?_ _ | refine Below.alloc ?_ (by have := hbq.out.size; simp <;> omega) _))); (first | exact HM.out | decide); rintro e w' ⟨rfl, rfl⟩)
            | (go_at_call 22; (with_reducible refine (all_any _ A k c (ks.map low) _ ?_ ?_ ?_).mono ?_); (exact HT.out q); (exact HA'.out.below (by repeat (first | exact hbq.out | refine Base.below_drewN ?_ _ | refine Below.alloc ?_ (by have := hbq.out.size; simp <;> omega) _))); (first | exact HM.out | decide); rintro e w' ⟨rfl, rfl⟩)
            | (go_at_call 22; (with_reducible refine (all_any _ _ 1 1 [k8 % 8] _ ?_ ?_ ?_).mono ?_); (exact HT.out q); (exact Ints.one _ _ (by simp) _ _); (first | exact HM.out | decide); rintro e w' ⟨rfl, rfl⟩)
            | (go_at_call 23; (with_reducible refine (rall_any _ a k cap ks _ ?_ ?_ ?_).mono ?_); (exact HT.out q); (exact HI.out.below (by repeat (first | exact hbq.out | refine Base.below_drewN ?_ _ | refine Below.alloc ?_ (by have := hbq.out.size; simp <;> omega) _))); (first | exact HM.out | decide); rintro e w' ⟨rfl, m, rfl⟩)
            | (go_at_call 23; (with_reducible refine (rall_any _ A k c (ks.map low) _ ?_ ?_ ?_).mono ?_); (exact HT.out q); (exact HA'.out.below (by repeat (first | exact hbq.out | refine Base.below_drewN ?_ _ | refine Below.alloc ?_ (by have := hbq.out.size; simp <;> omega) _))); (first | exact HM.out | decide); rintro e w' ⟨rfl, m, rfl⟩)
            | (go_at_call 23; (with_reducible refine (rall_any _ _ 1 1 [k8 % 8] _ ?_ ?_ ?_).mono ?_); (exact HT.out q); (exact Ints.one _ _ (by simp) _ _); (first | exact HM.out | decide); rintro e w' ⟨rfl, m, rfl⟩))
          go_roundw
          case rel => exact ⟨q + 1, by omega, by go_num, Lib.hid (by repeat (first | exact hbq.out | refine Base.below_drewN ?_ _ | refine Below.alloc ?_ (by have := hbq.out.size; simp <;> omega) _))⟩
          case measure => simp [intOf]; omega
        · have e1 : allOf [] [] = true := rfl
          have e2 : allOf (ks.map low) [] = true := rfl
          go_wp2_with (first
            | (go_at_call 22; (with_reducible refine (all_any _ A k c (ks.map low) _ ?_ ?_ ?_).mono ?_); decide; (exact HA'.out.below hbq.out); (exact HM.out); rintro e w' ⟨rfl, rfl⟩)
            | (go_at_call 22; (with_reducible refine (all_any _ none 0 0 [] _ ?_ ?_ ?_).mono ?_); decide; (exact Ints.nil _ _); decide; rintro e w' ⟨rfl, rfl⟩))
          go_ret
          exact ⟨rfl, hb.trans ((HB.out.trans (hbq.out.mono HB.out.size)).mono hb.size)⟩
end code
end Go.Proofs.Ytplgadihanaefaa.OctL
