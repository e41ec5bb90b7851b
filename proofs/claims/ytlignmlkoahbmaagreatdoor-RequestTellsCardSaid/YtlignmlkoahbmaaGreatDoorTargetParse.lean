/-
  Layer 7 (target): what package target's Parse answers, of every method and text up to a great size.
-/
import Derived.Test.YtlignmlkoahbmaaGreatDoorTarget
namespace Go.Proofs.YtlignmlkoahbmaaGreatDoor.Tgt
open Go.RowKit Base Oct Num Txt

/-- A target as a value. -/
abbrev tv (f : Int) (h p q : ByteArray) (a : Bool) : Value := .agg #[.int .i64 f, .string h, .string p, .string q, .bool a]
abbrev E0 : ByteArray := ⟨#[]⟩
/-- What a reading answers: a target and no error, or none and the error. -/
def ans : Option Tg → Value
  | none => .tuple #[tv 0 E0 E0 E0 false, .int .i64 400]
  | some t => .tuple #[tv t.form (ba t.host) (ba t.path) (ba t.query) t.asked, .int .i64 0]

/-- A block that the call made holds a target, and may be written. -/
structure Tgb (w : World) (g : Nat) (f : Int) (h p q : ByteArray) (a : Bool) : Prop where
  c0 : w.cell? ⟨g, 0, none⟩ = some (.int .i64 f)
  c1 : w.cell? ⟨g, 1, none⟩ = some (.string h)
  c2 : w.cell? ⟨g, 2, none⟩ = some (.string p)
  c3 : w.cell? ⟨g, 3, none⟩ = some (.string q)
  c4 : w.cell? ⟨g, 4, none⟩ = some (.bool a)
  z0 : w.frozen? ⟨g, 0, none⟩ = false
  z1 : w.frozen? ⟨g, 1, none⟩ = false
  z2 : w.frozen? ⟨g, 2, none⟩ = false
  z3 : w.frozen? ⟨g, 3, none⟩ = false
  z4 : w.frozen? ⟨g, 4, none⟩ = false
theorem Tgb.below {w w' : World} {g : Nat} {f : Int} {h p q : ByteArray} {a : Bool} (H : Tgb w g f h p q a) (hg : g < w.heap.size) (hb : Below w.heap.size w w') : Tgb w' g f h p q a :=
  ⟨(hb.cell (p := ⟨g, 0, none⟩) hg).trans H.c0, (hb.cell (p := ⟨g, 1, none⟩) hg).trans H.c1, (hb.cell (p := ⟨g, 2, none⟩) hg).trans H.c2, (hb.cell (p := ⟨g, 3, none⟩) hg).trans H.c3, (hb.cell (p := ⟨g, 4, none⟩) hg).trans H.c4,
   (hb.frozen (p := ⟨g, 0, none⟩) hg).trans H.z0, (hb.frozen (p := ⟨g, 1, none⟩) hg).trans H.z1, (hb.frozen (p := ⟨g, 2, none⟩) hg).trans H.z2, (hb.frozen (p := ⟨g, 3, none⟩) hg).trans H.z3, (hb.frozen (p := ⟨g, 4, none⟩) hg).trans H.z4⟩
theorem Tgb.new (w : World) (t : TypeId) (f : Int) (h p q : ByteArray) (a : Bool) : Tgb (w.alloc (.cells #[.int .i64 f, .string h, .string p, .string q, .bool a] t)) w.heap.size f h p q a := by
  have hh := heap_alloc_new w (.cells #[.int .i64 f, .string h, .string p, .string q, .bool a] t)
  have c : ∀ k v, (#[Value.int .i64 f, .string h, .string p, .string q, .bool a] : Array Value)[k]? = some v → (w.alloc (.cells #[.int .i64 f, .string h, .string p, .string q, .bool a] t)).cell? ⟨w.heap.size, k, none⟩ = some v :=
    fun k v e => (cell_of_row (w.alloc _) w.heap.size k _ t (0, 0) hh).trans e
  have z : ∀ k, (w.alloc (.cells #[.int .i64 f, .string h, .string p, .string q, .bool a] t)).frozen? ⟨w.heap.size, k, none⟩ = false := fun k => by unfold World.frozen?; simp only [hh]; simp
  exact ⟨c 0 _ rfl, c 1 _ rfl, c 2 _ rfl, c 3 _ rfl, c 4 _ rfl, z 0, z 1, z 2, z 3, z 4⟩
theorem Tgb.put {B : Nat} {w0 w : World} {g : Nat} {f : Int} {h p q : ByteArray} {a : Bool} (H : Tgb w g f h p q a) (hb : Below B w0 w) (hg : B ≤ g) (f' : Int) (h' p' q' : ByteArray) (a' : Bool) :
    ∃ W, ((((w.setCell ⟨g, 0, none⟩ (.int .i64 f')).setCell ⟨g, 1, none⟩ (.string h')).setCell ⟨g, 2, none⟩ (.string p')).setCell ⟨g, 3, none⟩ (.string q')).setCell ⟨g, 4, none⟩ (.bool a') = W ∧ Tgb W g f' h' p' q' a' ∧ Below B w0 W := by
  obtain ⟨c0, c1, c2, c3, c4, z0, z1, z2, z3, z4⟩ := H
  refine ⟨_, rfl, ⟨?_, ?_, ?_, ?_, ?_, ?_, ?_, ?_, ?_, ?_⟩, ((((hb.setCell hg _).setCell hg _).setCell hg _).setCell hg _).setCell hg _⟩
  all_goals go_simp
theorem Tgb.other {w : World} {g : Nat} {f : Int} {h p q : ByteArray} {a : Bool} (H : Tgb w g f h p q a) (g' o : Nat) (v : Value) (n2 : ¬ g' = g) : Tgb (w.setCell ⟨g', o, none⟩ v) g f h p q a := by
  obtain ⟨c0, c1, c2, c3, c4, z0, z1, z2, z3, z4⟩ := H
  refine ⟨?_, ?_, ?_, ?_, ?_, ?_, ?_, ?_, ?_, ?_⟩
  all_goals go_simp
section code
set_option maxHeartbeats 1000000
attribute [local go_sem] Base.some_undef
theorem colon_any (s : ByteArray) (w : World) : Calls Tryz.prog 71 #[.string s, .string ⟨#[58]⟩] w fun e w' => e = .returned (.bool (s.data.toList.contains 58)) ∧ w' = w := by
  have h := Tryz.strings_Contains_one s 58 w
  rw [← Lib.contains_iff_indexByte] at h
  exact h
theorem authority_any (s : ByteArray) (w : World) (hs : s.size ≤ 1000000000) : Calls Tryz.prog 52 #[.string s] w fun e w' => e = .returned (ans (authority s.data.toList)) ∧ Below w.heap.size w w' := by
  have HC := Lib.hid (fun w => colon_any s w)
  have HH := Lib.hid (fun w => host_any s w hs)
  have hba : ba s.data.toList = s := rfl
  obtain ⟨R, hR⟩ : ∃ R, authority s.data.toList = R := ⟨_, rfl⟩
  rw [hR]
  unfold authority at hR
  generalize s.data.toList.contains 58 = b at *
  generalize hostB s.data.toList = h at *
  have hc := Tgb.new w 57 0 E0 E0 E0 false
  have hW : Below w.heap.size w (w.alloc (.cells #[.int .i64 0, .string E0, .string E0, .string E0, .bool false] 57)) := (Below.refl _ _).alloc (Nat.le_refl _) _
  have hgg : w.heap.size < (w.alloc (.cells #[.int .i64 0, .string E0, .string E0, .string E0, .bool false] 57)).heap.size := by simp
  cases b with
  | false =>
    obtain rfl : none = R := hR
    clear hba hc hW hgg
    go_enter Tryz.func52, Tryz.ntmps52
    go_wp2_with (go_at_call 71; with_reducible refine (HC.out _).mono ?_; rintro e w1 ⟨rfl, hw⟩; rw [hw]; clear hw)
    exact bodyPost_ret (v := .tuple #[tv _ _ _ _ _, .int .i64 400]) (by simp [results, Tryz.results52, go_sem]) rfl ⟨rfl, (Below.refl _ _).alloc (Nat.le_refl _) _⟩
  | true =>
    have HCC := Lib.hid hc; have HWW := Lib.hid hW; have HG := Lib.hid hgg
    clear hc hW hgg
    cases h with
    | false =>
      obtain rfl : none = R := hR
      clear hba
      go_enter Tryz.func52, Tryz.ntmps52
      go_wp2_with (first
        | (go_at_call 71; with_reducible refine (HC.out _).mono ?_; rintro e w1 ⟨rfl, hw⟩; rw [hw]; clear hw)
        | (go_at_call 72; with_reducible refine (HH.out _).mono ?_; rintro e w2 ⟨rfl, hb⟩
           obtain ⟨c0, c1, c2, c3, c4, z0, z1, z2, z3, z4⟩ := HCC.out.below HG.out hb
           have HB := Lib.hid (Base.below_step HWW.out hb)
           clear hb))
      obtain ⟨W, hW, ⟨d0, d1, d2, d3, d4, _, _, _, _, _⟩, hbW⟩ := Tgb.put ⟨c0, c1, c2, c3, c4, z0, z1, z2, z3, z4⟩ HB.out (Nat.le_refl _) 0 E0 E0 E0 false
      rw [hW]
      exact bodyPost_ret (v := .tuple #[tv 0 E0 E0 E0 false, .int .i64 400]) (by simp [results, Tryz.results52, go_sem, d0, d1, d2, d3, d4]) rfl ⟨rfl, hbW⟩
    | true =>
      obtain rfl : some ⟨3, s.data.toList, [], [], false⟩ = R := hR
      rw [ans, hba, show ba [] = E0 from rfl]
      clear hba
      go_enter Tryz.func52, Tryz.ntmps52
      go_wp2_with (first
        | (go_at_call 71; with_reducible refine (HC.out _).mono ?_; rintro e w1 ⟨rfl, hw⟩; rw [hw]; clear hw)
        | (go_at_call 72; with_reducible refine (HH.out _).mono ?_; rintro e w2 ⟨rfl, hb⟩
           obtain ⟨c0, c1, c2, c3, c4, z0, z1, z2, z3, z4⟩ := HCC.out.below HG.out hb
           have HB := Lib.hid (Base.below_step HWW.out hb)
           clear hb))
      obtain ⟨W, hW, ⟨d0, d1, d2, d3, d4, _, _, _, _, _⟩, hbW⟩ := Tgb.put ⟨c0, c1, c2, c3, c4, z0, z1, z2, z3, z4⟩ HB.out (Nat.le_refl _) 3 s E0 E0 false
      rw [hW]
      exact bodyPost_ret (v := .tuple #[tv 3 s E0 E0 false, .int .i64 0]) (by simp [results, Tryz.results52, go_sem, d0, d1, d2, d3, d4]) rfl ⟨rfl, hbW⟩

theorem origin_any (s : ByteArray) (w : World) (hs : s.size ≤ 1000000000) : Calls Tryz.prog 54 #[.string s] w fun e w' => e = .returned (ans (origin s.data.toList)) ∧ Below w.heap.size w w' := by
  have HC := Lib.hid (fun w => cut_any s 63 w hs)
  obtain ⟨R, hR⟩ : ∃ R, origin s.data.toList = R := ⟨_, rfl⟩
  rw [hR]
  unfold origin at hR
  generalize (cutAt 63 s.data.toList).1 = p at *
  generalize (cutAt 63 s.data.toList).2.1 = q at *
  generalize (cutAt 63 s.data.toList).2.2 = b at *
  have HP := Lib.hid (fun w => path_any (ba p) w)
  have HQ := Lib.hid (fun w => query_any (ba q) w)
  rw [ba_list] at HP HQ
  generalize pathB p = pk at *
  generalize queryB q = qk at *
  have HCC := Lib.hid (Tgb.new w 57 0 E0 E0 E0 false)
  have HWW := Lib.hid (show Below w.heap.size w (w.alloc (.cells #[.int .i64 0, .string E0, .string E0, .string E0, .bool false] 57)) from (Below.refl _ _).alloc (Nat.le_refl _) _)
  have HG := Lib.hid (show w.heap.size < (w.alloc (.cells #[.int .i64 0, .string E0, .string E0, .string E0, .bool false] 57)).heap.size by simp)
  cases pk with
  | false =>
    obtain rfl : none = R := hR
    rw [ans]
    generalize ba p = PP at *
    generalize ba q = QQ at *
    go_enter Tryz.func54, Tryz.ntmps54
    go_wp2_with (first
      | (go_at_call 74; with_reducible refine (HC.out _).mono ?_; rintro e w1 ⟨rfl, m, hw⟩; rw [hw]; clear hw)
      | (go_at_call 75; with_reducible refine (HP.out _).mono ?_; rintro e w2 ⟨rfl, hb⟩
         have hb' := Base.below_step (Base.below_drewN (Below.refl _ _) m) hb
         obtain ⟨c0, c1, c2, c3, c4, z0, z1, z2, z3, z4⟩ := HCC.out.below HG.out hb'
         have HB := Lib.hid (Base.below_step HWW.out hb')
         clear hb hb'))
    obtain ⟨W, hW, ⟨d0, d1, d2, d3, d4, _, _, _, _, _⟩, hbW⟩ := Tgb.put ⟨c0, c1, c2, c3, c4, z0, z1, z2, z3, z4⟩ HB.out (Nat.le_refl _) 0 E0 E0 E0 false
    rw [hW]
    exact bodyPost_ret (v := .tuple #[tv 0 E0 E0 E0 false, .int .i64 400]) (by simp [results, Tryz.results54, go_sem, d0, d1, d2, d3, d4]) rfl ⟨rfl, hbW⟩
  | true =>
    cases qk with
    | false =>
      obtain rfl : none = R := hR
      rw [ans]
      generalize ba p = PP at *
      generalize ba q = QQ at *
      go_enter Tryz.func54, Tryz.ntmps54
      go_wp2_with (first
        | (go_at_call 74; with_reducible refine (HC.out _).mono ?_; rintro e w1 ⟨rfl, m, hw⟩; rw [hw]; clear hw)
        | (go_at_call 75; with_reducible refine (HP.out _).mono ?_; rintro e w2 ⟨rfl, hb⟩
           have hb' := Base.below_step (Base.below_drewN (Below.refl _ _) m) hb
           clear hb)
        | (go_at_call 76; with_reducible refine (HQ.out _).mono ?_; rintro e w3 ⟨rfl, hb3⟩
           have hb'' := Base.below_step hb' hb3
           obtain ⟨c0, c1, c2, c3, c4, z0, z1, z2, z3, z4⟩ := HCC.out.below HG.out hb''
           have HB := Lib.hid (Base.below_step HWW.out hb'')
           clear hb' hb'' hb3))
      obtain ⟨W, hW, ⟨d0, d1, d2, d3, d4, _, _, _, _, _⟩, hbW⟩ := Tgb.put ⟨c0, c1, c2, c3, c4, z0, z1, z2, z3, z4⟩ HB.out (Nat.le_refl _) 0 E0 E0 E0 false
      rw [hW]
      exact bodyPost_ret (v := .tuple #[tv 0 E0 E0 E0 false, .int .i64 400]) (by simp [results, Tryz.results54, go_sem, d0, d1, d2, d3, d4]) rfl ⟨rfl, hbW⟩
    | true =>
      obtain rfl : some ⟨1, [], p, q, b⟩ = R := hR
      rw [ans, show ba [] = E0 from rfl]
      generalize ba p = PP at *
      generalize ba q = QQ at *
      go_enter Tryz.func54, Tryz.ntmps54
      go_wp2_with (first
        | (go_at_call 74; with_reducible refine (HC.out _).mono ?_; rintro e w1 ⟨rfl, m, hw⟩; rw [hw]; clear hw)
        | (go_at_call 75; with_reducible refine (HP.out _).mono ?_; rintro e w2 ⟨rfl, hb⟩
           have hb' := Base.below_step (Base.below_drewN (Below.refl _ _) m) hb
           clear hb)
        | (go_at_call 76; with_reducible refine (HQ.out _).mono ?_; rintro e w3 ⟨rfl, hb3⟩
           have hb'' := Base.below_step hb' hb3
           obtain ⟨c0, c1, c2, c3, c4, z0, z1, z2, z3, z4⟩ := HCC.out.below HG.out hb''
           have HB := Lib.hid (Base.below_step HWW.out hb'')
           clear hb' hb'' hb3))
      obtain ⟨W, hW, ⟨d0, d1, d2, d3, d4, _, _, _, _, _⟩, hbW⟩ := Tgb.put ⟨c0, c1, c2, c3, c4, z0, z1, z2, z3, z4⟩ HB.out (Nat.le_refl _) 1 E0 PP QQ b
      rw [hW]
      exact bodyPost_ret (v := .tuple #[tv 1 E0 PP QQ b, .int .i64 0]) (by simp [results, Tryz.results54, go_sem, d0, d1, d2, d3, d4]) rfl ⟨rfl, hbW⟩
end code
end Go.Proofs.YtlignmlkoahbmaaGreatDoor.Tgt
