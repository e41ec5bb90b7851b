/-
  Layer 7 (target): the walk of TargetTells: it returns true, and writes nothing that was there.
-/
import Derived.Test.YtnlphcchohbhgaaDoorTargetBack
import Derived.Test.YtnlphcchohbhgaaDoorTargetRef3
import Derived.Test.YtnlphcchohbhgaaDoorSched
namespace Go.Proofs.YtnlphcchohbhgaaDoor.Tgt
open Go.RowKit Base Oct Num Txt

/-- The parts of an answer, which are no longer than the text but for a byte. -/
theorem ans_parts (m l : List UInt8) : ∃ (f : Int) (h p q : ByteArray) (a : Bool) (e : Int), ans (parse m l) = .tuple #[tv f h p q a, .int .i64 e] ∧ h.size ≤ l.length + 1 ∧ p.size ≤ l.length + 1 ∧ q.size ≤ l.length + 1 := by
  cases hp : parse m l with
  | none => exact ⟨0, E0, E0, E0, false, 400, rfl, Nat.zero_le _, Nat.zero_le _, Nat.zero_le _⟩
  | some t =>
    obtain ⟨h1, h2, h3⟩ := parse_le hp
    exact ⟨t.form, ba t.host, ba t.path, ba t.query, t.asked, 0, rfl, by rw [ba_size]; exact h1, by rw [ba_size]; exact h2, by rw [ba_size]; exact h3⟩

section code
set_option maxHeartbeats 2000000
attribute [local go_sem] Base.some_undef
set_option maxRecDepth 10000 in
theorem targetTells_any (s : ByteArray) (a : Option Addr) (n cap : Nat) (bs : List UInt8) (m : ByteArray) (k : Int) (w : World) (hv : Nums .u8 w a n (nums bs)) (hn : n ≤ maxLen) (hs : s.size ≤ 140737488351232) (hm : m.size ≤ 140737488351232) (hk : 0 ≤ k ∧ k ≤ 255) :
    Calls Tryd.prog 3 #[.string s, .slice a n cap, .string m, .int .u8 k] w fun e w' => e = .returned (.bool true) ∧ Below w.heap.size w w' := by
  unfold maxLen at hn
  have HV := Lib.hid hv
  have hl : bs.length = n := by have := hv.1; rwa [nums, List.length_map] at this
  clear hv
  rcases Nat.lt_or_ge 80 s.size with c1 | c1
  · go_enter Tryd.func3, Tryd.ntmps3
    go_wp2_with (go_at_call 7; with_reducible refine (known_any _).mono ?_; rintro e w1 ⟨rfl, hb⟩)
    go_ret
    exact ⟨rfl, hb⟩
  rcases Nat.lt_or_ge 10 n with c2 | c2
  · go_enter Tryd.func3, Tryd.ntmps3
    go_wp2_with (go_at_call 7; with_reducible refine (known_any _).mono ?_; rintro e w1 ⟨rfl, hb⟩)
    go_ret
    exact ⟨rfl, hb⟩
  rcases Nat.lt_or_ge 20 m.size with c3 | c3
  · go_enter Tryd.func3, Tryd.ntmps3
    go_wp2_with (go_at_call 7; with_reducible refine (known_any _).mono ?_; rintro e w1 ⟨rfl, hb⟩)
    go_ret
    exact ⟨rfl, hb⟩
  have hsl := someL_le bs
  have hsz : (ba (someL bs)).size ≤ 70 := by rw [ba_size]; omega
  have HL := Lib.hid hl
  clear hl hsl
  have HS := Lib.hid (fun w' hb' => some_any a n cap bs w' (HV.out.below (w' := w') hb') (by omega))
  generalize ba (someL bs) = S at *
  have v1 : ¬ 9223372036854775807 < 1 + S.size := by omega
  have v2 : ¬ 9223372036854775807 < 7 + S.size := by omega
  have v3 : ¬ 9223372036854775807 < 6 + S.size := by omega
  go_enter Tryd.func3, Tryd.ntmps3
  go_upto_region 6 with (first
    | (go_at_call 7; with_reducible refine (known_any _).mono ?_; rintro e w1 ⟨rfl, hb⟩; have hc := hb; clear hb)
    | (go_at_call 8; with_reducible refine (HS.out _ hc).mono ?_; rintro e w2 ⟨rfl, hb⟩; replace hc := Base.below_step hc hb; clear hb))
  have hX := Lib.hid (show ∀ x ∈ [s, S, ({ data := #[47] } : ByteArray) ++ S, ({ data := #[104, 116, 116, 112, 58, 47, 47] } : ByteArray) ++ S, ({ data := #[104, 46, 111, 114, 103, 58] } : ByteArray) ++ S], x.size ≤ 1000 by
    intro x hx
    simp only [List.mem_cons, List.not_mem_nil, or_false] at hx
    rcases hx with rfl | rfl | rfl | rfl | rfl
    · omega
    · omega
    · rw [ByteArray.size_append, show (ByteArray.mk #[47]).size = 1 from rfl]; omega
    · rw [ByteArray.size_append, show (ByteArray.mk #[104, 116, 116, 112, 58, 47, 47]).size = 7 from rfl]; omega
    · rw [ByteArray.size_append, show (ByteArray.mk #[104, 46, 111, 114, 103, 58]).size = 6 from rfl]; omega)
  have hst : Hid (∀ k, k < 5 → (w2.alloc (.cells #[.string s, .string S, .string ({ data := #[47] } ++ S), .string ({ data := #[104, 116, 116, 112, 58, 47, 47] } ++ S), .string ({ data := #[104, 46, 111, 114, 103, 58] } ++ S)] 9)).cell? ⟨w2.heap.size, k, none⟩ = some (.string ([s, S, ({ data := #[47] } : ByteArray) ++ S, ({ data := #[104, 116, 116, 112, 58, 47, 47] } : ByteArray) ++ S, ({ data := #[104, 46, 111, 114, 103, 58] } : ByteArray) ++ S][k]?.getD ByteArray.empty))) := Lib.hid fun k hk => strs_cell w2 9 [s, S, ({ data := #[47] } : ByteArray) ++ S, ({ data := #[104, 116, 116, 112, 58, 47, 47] } : ByteArray) ++ S, ({ data := #[104, 46, 111, 114, 103, 58] } : ByteArray) ++ S] k hk
  have HB2 := Lib.hid (hc.alloc hc.size (.cells #[.string s, .string S, .string ({ data := #[47] } ++ S), .string ({ data := #[104, 116, 116, 112, 58, 47, 47] } ++ S), .string ({ data := #[104, 46, 111, 114, 103, 58] } ++ S)] 9))
  have hg : w2.heap.size < (w2.alloc (.cells #[.string s, .string S, .string ({ data := #[47] } ++ S), .string ({ data := #[104, 116, 116, 112, 58, 47, 47] } ++ S), .string ({ data := #[104, 46, 111, 114, 103, 58] } ++ S)] 9)).heap.size := by simp
  clear hc HS
  generalize w2.alloc (.cells #[.string s, .string S, .string ({ data := #[47] } ++ S), .string ({ data := #[104, 116, 116, 112, 58, 47, 47] } ++ S), .string ({ data := #[104, 46, 111, 114, 103, 58] } ++ S)] 9) = W at *
  generalize w2.heap.size = g at *
  go_loopw [47] (fun i wq => ∃ q : Nat, q ≤ 5 ∧ i = .int .i64 q ∧ Hid (Below W.heap.size W wq)) (fun i _ => 5 - (intOf i).toNat)
  case atStart => exact ⟨0, Nat.zero_le _, rfl, Lib.hid (Below.refl _ _)⟩
  case round =>
    obtain ⟨q, hq, rfl, hbq⟩ := hrel
    rcases Nat.lt_or_ge q 5 with hlt | hge
    · have hcq := (hbq.out.cell (p := ⟨g, q, none⟩) hg).trans (hst.out q hlt)
      have hxz := hX.out _ (mem_at [s, S, ({ data := #[47] } : ByteArray) ++ S, ({ data := #[104, 116, 116, 112, 58, 47, 47] } : ByteArray) ++ S, ({ data := #[104, 46, 111, 114, 103, 58] } : ByteArray) ++ S] q hlt)
      have hq5 : (q : Int) < 5 := by omega
      generalize [s, S, ({ data := #[47] } : ByteArray) ++ S, ({ data := #[104, 116, 116, 112, 58, 47, 47] } : ByteArray) ++ S, ({ data := #[104, 46, 111, 114, 103, 58] } : ByteArray) ++ S][q]?.getD ByteArray.empty = x at *
      have hym : Hid (∀ k, k < 4 → (wr.alloc (.cells #[.string m, .string ⟨#[71, 69, 84]⟩, .string ⟨#[67, 79, 78, 78, 69, 67, 84]⟩, .string ⟨#[79, 80, 84, 73, 79, 78, 83]⟩] 9)).cell? ⟨wr.heap.size, k, none⟩ = some (.string ([m, (⟨#[71, 69, 84]⟩ : ByteArray), ⟨#[67, 79, 78, 78, 69, 67, 84]⟩, ⟨#[79, 80, 84, 73, 79, 78, 83]⟩][k]?.getD ByteArray.empty))) := Lib.hid fun k hk => strs_cell wr 9 [m, (⟨#[71, 69, 84]⟩ : ByteArray), ⟨#[67, 79, 78, 78, 69, 67, 84]⟩, ⟨#[79, 80, 84, 73, 79, 78, 83]⟩] k hk
      have HB3 := Lib.hid (hbq.out.alloc hbq.out.size (.cells #[.string m, .string ⟨#[71, 69, 84]⟩, .string ⟨#[67, 79, 78, 78, 69, 67, 84]⟩, .string ⟨#[79, 80, 84, 73, 79, 78, 83]⟩] 9))
      have hgy : wr.heap.size < (wr.alloc (.cells #[.string m, .string ⟨#[71, 69, 84]⟩, .string ⟨#[67, 79, 78, 78, 69, 67, 84]⟩, .string ⟨#[79, 80, 84, 73, 79, 78, 83]⟩] 9)).heap.size := by simp
      go_upto_region 9 with fail
      clear hcq
      generalize wr.alloc (.cells #[.string m, .string ⟨#[71, 69, 84]⟩, .string ⟨#[67, 79, 78, 78, 69, 67, 84]⟩, .string ⟨#[79, 80, 84, 73, 79, 78, 83]⟩] 9) = W3 at *
      generalize wr.heap.size = gy at *
      go_loopw [54] (fun i wq => ∃ r : Nat, r ≤ 4 ∧ i = .int .i64 r ∧ Hid (Below W3.heap.size W3 wq)) (fun i _ => 4 - (intOf i).toNat)
      case atStart => exact ⟨0, Nat.zero_le _, rfl, Lib.hid (Below.refl _ _)⟩
      case round =>
        obtain ⟨r, hr, rfl, hbr⟩ := hrel
        rcases Nat.lt_or_ge r 4 with hlr | hgr
        · have hcr := (hbr.out.cell (p := ⟨gy, r, none⟩) hgy).trans (hym.out r hlr)
          have hr4 : (r : Int) < 4 := by omega
          generalize [m, (⟨#[71, 69, 84]⟩ : ByteArray), ⟨#[67, 79, 78, 78, 69, 67, 84]⟩, ⟨#[79, 80, 84, 73, 79, 78, 83]⟩][r]?.getD ByteArray.empty = y at *
          have C1 := Lib.hid (fun w => parse_any y x w (by omega))
          have C2 := Lib.hid (fun w => rtarget_any y x w (by omega))
          obtain ⟨f, h, p, q2, ta, en, hE, z1, z2, z3⟩ := ans_parts y.data.toList x.data.toList
          rw [len] at z1 z2 z3
          rw [hE] at C1 C2
          clear hE
          have CP := Lib.hid (fun w => put_any f h p q2 ta w (by omega) (by omega) (by omega))
          have CR := Lib.hid (fun w => rput_any f h p q2 ta w (by omega) (by omega) (by omega))
          generalize putV f h p q2 ta = PV at *
          have hnq := neq_tgt f h p q2 ta
          have hgd := fun op x y => guard_tgt op x y f f h p q2 h p q2 ta ta
          clear z1 z2 z3
          have hc := hbr.out
          go_upto_region 13 with (first
            | (go_at_call 9; with_reducible refine (C1.out _).mono ?_; rintro e w3 ⟨rfl, hb⟩
               have T13 := Lib.hid (Tgb.new w3 27 f h p q2 ta)
               have S13 := Lib.hid (show w3.heap.size < (w3.alloc (.cells #[.int .i64 f, .string h, .string p, .string q2, .bool ta] 27)).heap.size by simp)
               replace hc := Base.below_step hc (hb.alloc hb.size (.cells #[.int .i64 f, .string h, .string p, .string q2, .bool ta] 27))
               clear hb)
            | (go_at_call 10; with_reducible refine (C2.out _).mono ?_; rintro e w5 ⟨rfl, hb⟩
               have hb' := hb.alloc hb.size (.cells #[.int .i64 f, .string h, .string p, .string q2, .bool ta] 27)
               replace T13 := Lib.hid (T13.out.below S13.out hb')
               replace S13 := Lib.hid (Nat.lt_of_lt_of_le S13.out hb'.size)
               replace hc := Base.below_step hc hb'
               clear hb hb'))
          clear hcr
          have T15 := Lib.hid (Tgb.new w5 27 f h p q2 ta)
          have S15 := Lib.hid (show w5.heap.size < (w5.alloc (.cells #[.int .i64 f, .string h, .string p, .string q2, .bool ta] 27)).heap.size by simp)
          generalize w5.alloc (.cells #[.int .i64 f, .string h, .string p, .string q2, .bool ta] 27) = W5 at *
          refine Sched.region [(0, false), (1, false), (2, false), (3, false), (4, false), (5, false), (6, false), (7, false), (8, false), (9, false), (11, false), (10, true), (12, true), (13, false), (14, false)] (fun w' => Tgb w' w3.heap.size f h p q2 ta ∧ Tgb w' w5.heap.size f h p q2 ta) (by kernel_rfl) (by kernel_rfl) (fun _ _ d _ _ h => by cases d <;> exact h) ⟨T13.out.below S13.out (Base.below_drewN (Below.refl _ _) 1), T15.out.below S15.out (Base.below_drewN (Below.refl _ _) 1)⟩ ?_
          replace T13 := Lib.hid (T13.out.below S13.out (Base.below_drewN (Below.refl _ _) 1))
          replace T15 := Lib.hid (T15.out.below S15.out (Base.below_drewN (Below.refl _ _) 1))
          replace hc := Base.below_drewN hc 1
          have S13' : Hid (w3.heap.size < (World.drewN W5 1).heap.size) := S13
          have S15' : Hid (w5.heap.size < (World.drewN W5 1).heap.size) := S15
          clear S13 S15
          generalize World.drewN W5 1 = W6 at *
          simp only [Sched.picked, List.filterMap_cons, List.filterMap_nil, List.getElem?_cons_zero, List.getElem?_cons_succ, Option.map_some]
          iterate 11
            refine Sched.quiet (by rfl) ?_ ?_ ?_
            rotate_left 1
            · intro w' hS
              obtain ⟨⟨c0, c1, c2, c3, c4, _, _, _, _, _⟩, e0, e1, e2, e3, e4, _, _, _, _, _⟩ := hS
              go_simp
              with_reducible rfl
            simp only [Act.put, List.setIfInBounds_toArray, List.set_cons_zero, List.set_cons_succ]

          refine Sched.change (by rfl) (fun K hK => ?_)
          go_simp
          with_reducible refine (CP.out _).mono ?_
          rintro e w7 ⟨rfl, hb⟩
          dsimp only
          replace T13 := Lib.hid (T13.out.below S13'.out hb)
          replace T15 := Lib.hid (T15.out.below S15'.out hb)
          replace S13' := Lib.hid (Nat.lt_of_lt_of_le S13'.out hb.size)
          replace S15' := Lib.hid (Nat.lt_of_lt_of_le S15'.out hb.size)
          replace hc := Base.below_step hc hb
          clear hb
          refine hK _ _ ⟨T13.out, T15.out⟩ ?_
          clear hK K
          refine Sched.change (by rfl) (fun K hK => ?_)
          go_simp
          with_reducible refine (CR.out _).mono ?_
          rintro e w8 ⟨rfl, hb⟩
          dsimp only
          replace T13 := Lib.hid (T13.out.below S13'.out hb)
          replace T15 := Lib.hid (T15.out.below S15'.out hb)
          replace hc := Base.below_step hc hb
          clear hb
          refine hK _ _ ⟨T13.out, T15.out⟩ ?_
          clear hK K
          iterate 2
            refine Sched.quiet (by rfl) ?_ ?_ ?_
            rotate_left 1
            · intro w' hS
              clear hS
              go_simp
              with_reducible rfl
            simp only [Act.put, List.setIfInBounds_toArray, List.set_cons_zero, List.set_cons_succ]

          refine Sched.done ?_
          clear T13 T15 S13' S15'

          go_wp2_with fail
          go_roundw
          case rel => exact ⟨r + 1, by omega, by go_num, Lib.hid hc⟩
          case measure => simp [intOf]; omega
        · have hr4 : ¬ (r : Int) < 4 := by omega
          have hc := Base.below_step HB3.out hbr.out
          have D1 := Lib.hid (fun w => host_any x w (by omega))
          have D2 := Lib.hid (fun w => rhost_any x w (by omega))
          have D3 := Lib.hid (fun w => path_any x w)
          have D4 := Lib.hid (fun w => rpath_any x w (by omega))
          have D5 := Lib.hid (fun w => query_any x w)
          have D6 := Lib.hid (fun w => rquery_any x w (by omega))
          generalize hostB x.data.toList = y1 at *
          generalize pathB x.data.toList = y2 at *
          generalize queryB x.data.toList = y3 at *
          clear hbr hym hgy
          go_wp2_with (first
            | (go_at_call 13; with_reducible refine (D1.out _).mono ?_; rintro e w3 ⟨rfl, hb⟩; replace hc := Base.below_step hc hb; clear hb)
            | (go_at_call 14; with_reducible refine (D2.out _).mono ?_; rintro e w3 ⟨rfl, hb⟩; replace hc := Base.below_step hc hb; clear hb)
            | (go_at_call 15; with_reducible refine (D3.out _).mono ?_; rintro e w3 ⟨rfl, hb⟩; replace hc := Base.below_step hc hb; clear hb)
            | (go_at_call 16; with_reducible refine (D4.out _).mono ?_; rintro e w3 ⟨rfl, hw⟩; rw [hw]; clear hw)
            | (go_at_call 17; with_reducible refine (D5.out _).mono ?_; rintro e w3 ⟨rfl, hb⟩; replace hc := Base.below_step hc hb; clear hb)
            | (go_at_call 18; with_reducible refine (D6.out _).mono ?_; rintro e w3 ⟨rfl, hw⟩; rw [hw]; clear hw))
          go_roundw
          case rel => exact ⟨q + 1, by omega, by go_num, Lib.hid hc⟩
          case measure => simp [intOf]; omega
    · have hq5 : ¬ (q : Int) < 5 := by omega
      obtain ⟨F, hF0, hF1, hFe⟩ : ∃ F : Int, 0 ≤ F ∧ F < 6 ∧ k.tmod 6 = F := ⟨k % 6, by omega, by omega, by rw [Int.tmod_eq_emod_of_nonneg hk.1]⟩
      have hwr : wrap64 F = F := by unfold wrap64; omega
      clear hF0 hF1
      rcases Int.lt_or_le 100 k with hk1 | hk1
      · have hk2 : (100 : Int) < k := hk1
        have hcT := Lib.hid (Tgb.new wr 27 F s m s true)
        have hcS := Lib.hid (show wr.heap.size < (wr.alloc (.cells #[.int .i64 F, .string s, .string m, .string s, .bool true] 27)).heap.size by simp)
        have hcB := Lib.hid ((Base.below_step HB2.out hbq.out).alloc (Base.below_step HB2.out hbq.out).size (.cells #[.int .i64 F, .string s, .string m, .string s, .bool true] 27))
        have CP := Lib.hid (fun w => put_any F s m s true w (by omega) (by omega) (by omega))
        have CR := Lib.hid (fun w => rput_any F s m s true w (by omega) (by omega) (by omega))
        generalize putV F s m s true = PV at *
        clear hbq hst hg hX
        go_wp2_with fail
        generalize wr.alloc (.cells #[.int .i64 F, .string s, .string m, .string s, .bool true] 27) = W5 at *
        refine Sched.region [(0, false), (2, false), (1, true), (3, true), (4, false), (5, false)] (fun w' => Tgb w' wr.heap.size F s m s true) (by kernel_rfl) (by kernel_rfl) (fun _ _ d _ _ h => by cases d <;> exact h) (hcT.out.below hcS.out (Base.below_drewN (Below.refl _ _) 1)) ?_
        replace hcT := Lib.hid (hcT.out.below hcS.out (Base.below_drewN (Below.refl _ _) 1))
        replace hcB := Lib.hid (Base.below_drewN hcB.out 1)
        have hcS' : Hid (wr.heap.size < (World.drewN W5 1).heap.size) := hcS
        clear hcS
        generalize World.drewN W5 1 = W6 at *
        simp only [Sched.picked, List.filterMap_cons, List.filterMap_nil, List.getElem?_cons_zero, List.getElem?_cons_succ, Option.map_some]
        iterate 2
          refine Sched.quiet (by rfl) ?_ ?_ ?_
          rotate_left 1
          · intro w' hS
            obtain ⟨c0, c1, c2, c3, c4, _, _, _, _, _⟩ := hS
            go_simp
            with_reducible rfl
          simp only [Act.put, List.setIfInBounds_toArray, List.set_cons_zero, List.set_cons_succ]

        refine Sched.change (by rfl) (fun K hK => ?_)
        go_simp
        with_reducible refine (CP.out _).mono ?_
        rintro e w7 ⟨rfl, hb⟩
        dsimp only
        replace hcT := Lib.hid (hcT.out.below hcS'.out hb)
        replace hcS' := Lib.hid (Nat.lt_of_lt_of_le hcS'.out hb.size)
        replace hcB := Lib.hid (Base.below_step hcB.out hb)
        clear hb
        refine hK _ _ hcT.out ?_
        clear hK K
        refine Sched.change (by rfl) (fun K hK => ?_)
        go_simp
        with_reducible refine (CR.out _).mono ?_
        rintro e w8 ⟨rfl, hb⟩
        dsimp only
        replace hcT := Lib.hid (hcT.out.below hcS'.out hb)
        replace hcB := Lib.hid (Base.below_step hcB.out hb)
        clear hb
        refine hK _ _ hcT.out ?_
        clear hK K
        refine Sched.quiet (by rfl) ?_ ?_ ?_
        rotate_left 1
        · intro w' hS
          clear hS
          go_simp
          with_reducible rfl
        simp only [Act.put, List.setIfInBounds_toArray, List.set_cons_zero, List.set_cons_succ]
        refine Sched.assign _ (by rfl) (by rfl) ?_
        simp only [Act.put, Act.eval, Array.getD_eq_getD_getElem?, List.getElem?_toArray, List.getElem?_cons_zero, List.getElem?_cons_succ, Option.getD_some, List.setIfInBounds_toArray, List.set_cons_zero, List.set_cons_succ]
        refine Sched.done ?_
        go_wp2
        go_ret
        exact ⟨rfl, hcB.out⟩

      · have hk2 : ¬ (100 : Int) < k := by omega
        have hcT := Lib.hid (Tgb.new wr 27 F s m s false)
        have hcS := Lib.hid (show wr.heap.size < (wr.alloc (.cells #[.int .i64 F, .string s, .string m, .string s, .bool false] 27)).heap.size by simp)
        have hcB := Lib.hid ((Base.below_step HB2.out hbq.out).alloc (Base.below_step HB2.out hbq.out).size (.cells #[.int .i64 F, .string s, .string m, .string s, .bool false] 27))
        have CP := Lib.hid (fun w => put_any F s m s false w (by omega) (by omega) (by omega))
        have CR := Lib.hid (fun w => rput_any F s m s false w (by omega) (by omega) (by omega))
        generalize putV F s m s false = PV at *
        clear hbq hst hg hX
        go_wp2_with fail
        generalize wr.alloc (.cells #[.int .i64 F, .string s, .string m, .string s, .bool false] 27) = W5 at *
        refine Sched.region [(0, false), (2, false), (1, true), (3, true), (4, false), (5, false)] (fun w' => Tgb w' wr.heap.size F s m s false) (by kernel_rfl) (by kernel_rfl) (fun _ _ d _ _ h => by cases d <;> exact h) (hcT.out.below hcS.out (Base.below_drewN (Below.refl _ _) 1)) ?_
        replace hcT := Lib.hid (hcT.out.below hcS.out (Base.below_drewN (Below.refl _ _) 1))
        replace hcB := Lib.hid (Base.below_drewN hcB.out 1)
        have hcS' : Hid (wr.heap.size < (World.drewN W5 1).heap.size) := hcS
        clear hcS
        generalize World.drewN W5 1 = W6 at *
        simp only [Sched.picked, List.filterMap_cons, List.filterMap_nil, List.getElem?_cons_zero, List.getElem?_cons_succ, Option.map_some]
        iterate 2
          refine Sched.quiet (by rfl) ?_ ?_ ?_
          rotate_left 1
          · intro w' hS
            obtain ⟨c0, c1, c2, c3, c4, _, _, _, _, _⟩ := hS
            go_simp
            with_reducible rfl
          simp only [Act.put, List.setIfInBounds_toArray, List.set_cons_zero, List.set_cons_succ]

        refine Sched.change (by rfl) (fun K hK => ?_)
        go_simp
        with_reducible refine (CP.out _).mono ?_
        rintro e w7 ⟨rfl, hb⟩
        dsimp only
        replace hcT := Lib.hid (hcT.out.below hcS'.out hb)
        replace hcS' := Lib.hid (Nat.lt_of_lt_of_le hcS'.out hb.size)
        replace hcB := Lib.hid (Base.below_step hcB.out hb)
        clear hb
        refine hK _ _ hcT.out ?_
        clear hK K
        refine Sched.change (by rfl) (fun K hK => ?_)
        go_simp
        with_reducible refine (CR.out _).mono ?_
        rintro e w8 ⟨rfl, hb⟩
        dsimp only
        replace hcT := Lib.hid (hcT.out.below hcS'.out hb)
        replace hcB := Lib.hid (Base.below_step hcB.out hb)
        clear hb
        refine hK _ _ hcT.out ?_
        clear hK K
        refine Sched.quiet (by rfl) ?_ ?_ ?_
        rotate_left 1
        · intro w' hS
          clear hS
          go_simp
          with_reducible rfl
        simp only [Act.put, List.setIfInBounds_toArray, List.set_cons_zero, List.set_cons_succ]
        refine Sched.assign _ (by rfl) (by rfl) ?_
        simp only [Act.put, Act.eval, Array.getD_eq_getD_getElem?, List.getElem?_toArray, List.getElem?_cons_zero, List.getElem?_cons_succ, Option.getD_some, List.setIfInBounds_toArray, List.set_cons_zero, List.set_cons_succ]
        refine Sched.done ?_
        go_wp2
        go_ret
        exact ⟨rfl, hcB.out⟩

end code
end Go.Proofs.YtnlphcchohbhgaaDoor.Tgt
