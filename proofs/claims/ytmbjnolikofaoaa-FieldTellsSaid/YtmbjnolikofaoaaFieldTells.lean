/-
  Layer 9 (field): the walk of FieldTells: it returns true, and writes nothing that was there. (Its last region is printed by tools/gen_ftells.py.)
-/
import Derived.Test.YtmbjnolikofaoaaFieldKnown
import Derived.Test.YtmbjnolikofaoaaFieldSome
import Derived.Test.YtmbjnolikofaoaaFieldRParse
import Derived.Test.YtmbjnolikofaoaaFieldRRight
import Derived.Test.YtmbjnolikofaoaaHelpFields
import Derived.Test.YtmbjnolikofaoaaSeat
namespace Go.Proofs.Ytmbjnolikofaoaa.Fd
open Go.RowKit Base Txt Tgt

theorem nats_at (w : World) (t : TypeId) (qs : List Nat) (k : Nat) (hk : k < qs.length) : (w.alloc (.cells ((qs.map fun q : Nat => Value.int .u32 (q : Int)).toArray) t)).cell? ⟨w.heap.size, k, none⟩ = some (.int .u32 ((qs[k]?.getD 0 : Nat) : Int)) := by
  rw [cell_of_row (w.alloc _) w.heap.size k _ t (0, 0) (heap_alloc_new w _)]
  simp [List.getElem?_eq_getElem hk]
theorem Flds.two (w : World) (t : TypeId) (n v : ByteArray) : Flds (w.alloc (.cells #[.string n, .string v, .string n, .string v] t)) (some ⟨w.heap.size, 0, none⟩) 2 [(n, v), (n, v)] := by
  have hh := heap_alloc_new w (.cells #[.string n, .string v, .string n, .string v] t)
  have c : ∀ k u, (#[Value.string n, .string v, .string n, .string v] : Array Value)[k]? = some u → (w.alloc (.cells #[.string n, .string v, .string n, .string v] t)).cell? ⟨w.heap.size, k, none⟩ = some u :=
    fun k u e => (cell_of_row (w.alloc _) w.heap.size k _ t (0, 0) hh).trans e
  refine ⟨rfl, fun _ => ⟨w.heap.size, 0, rfl, by simp, fun k hk => ?_⟩⟩
  rcases (by omega : k = 0 ∨ k = 1) with rfl | rfl
  · exact ⟨c 0 _ rfl, c 1 _ rfl⟩
  · exact ⟨c 2 _ rfl, c 3 _ rfl⟩

section code
set_option maxHeartbeats 8000000
set_option maxRecDepth 100000
attribute [local go_sem] Base.some_undef
theorem fieldTells_any (s : ByteArray) (la : Option Addr) (n cap : Nat) (bs : List UInt8) (a k x y : Nat) (rN rV : ByteArray) (w : World) (hs : s.size ≤ 140737488351232) (hv : Nums .u8 w la n (nums bs)) (hn : n ≤ maxLen) (ha : a < 4294967296) (hk : k < 256) (hx : x < 256) (hy : y < 256) (hrn : rN.size ≤ 140737488351232) (hrv : rV.size ≤ 140737488351232) :
    Calls Try.prog 3 #[.string s, .slice la n cap, .int .u32 a, .int .u8 k, .int .u8 x, .int .u8 y, fv rN rV] w fun e w' => e = .returned (.bool true) ∧ Below w.heap.size w w' := by
  unfold maxLen at hn
  have HV := Lib.hid hv
  clear hv
  have HA0 := Lib.hid (At1.new (Below.refl w.heap.size w) 25 rN rV)
  rcases Nat.lt_or_ge 80 s.size with c0 | c0
  · have d0 : (80 : Int) < (s.size : Int) := by omega
    go_enter Try.func3, Try.ntmps3
    go_wp2_with (go_at_call 7; with_reducible refine (known_any _).mono ?_; rintro e w1 ⟨rfl, hb⟩)
    go_ret
    exact ⟨rfl, (HA0.out.step hb).b⟩
  have d0 : ¬ (80 : Int) < (s.size : Int) := by omega
  rcases Nat.lt_or_ge 12 n with c1 | c1
  · have d1 : (12 : Int) < (n : Int) := by omega
    go_enter Try.func3, Try.ntmps3
    go_wp2_with (go_at_call 7; with_reducible refine (known_any _).mono ?_; rintro e w1 ⟨rfl, hb⟩)
    go_ret
    exact ⟨rfl, (HA0.out.step hb).b⟩
  have d1 : ¬ (12 : Int) < (n : Int) := by omega
  have HFl := Lib.hid (fun w' a' (hf : Flds w' a' 1 [(rN, rV)]) => Hp.fields_any a' 1 1 [(rN, rV)] w' hf (by decide) (by
    intro f hf'
    obtain rfl : f = (rN, rV) := by simpa using hf'
    exact ⟨hrn, hrv⟩))
  have hF := Hp.fieldsOk_at (fs := [(rN, rV)])
  generalize Hp.fieldsOk [(rN, rV)] = ok at *
  cases ok with
  | false =>
    clear hF
    go_enter Try.func3, Try.ntmps3
    go_wp2_with (first
      | (go_at_call 8; (with_reducible refine (HFl.out _ _ (Flds.one _ _ _ _ _ rfl)).mono ?_); rintro e w2 ⟨rfl, m, hw⟩
         replace HA0 := Lib.hid ((HA0.out.alloc (.cells #[.string rN, .string rV] 25)).step (Base.below_drewN (Below.refl _ _) m))
         rw [← hw] at HA0
         clear hw)
      | (go_at_call 7; (with_reducible refine (known_any _).mono ?_); rintro e w1 ⟨rfl, hb⟩
         replace HA0 := Lib.hid (HA0.out.step hb)
         obtain ⟨⟨q0, q1, q2, q3⟩, hqa, hqb, hqc⟩ := HA0.out
         clear hqa hqb hqc hb))
    go_ret
    exact ⟨rfl, HA0.out.b⟩
  | true =>
  obtain ⟨_, hF2⟩ := hF rfl
  have hsm : rN.size + rV.size ≤ 120 := hF2 _ (List.mem_singleton.2 rfl)
  clear hF hF2 hrn hrv
  have HS := Lib.hid (fun w' hb' => some_any la n cap bs w' (HV.out.below (w' := w') hb') (by omega))
  have HPr := Lib.hid (fun w => Seat.profile_any a k ha hk w)
  have hp1 := Seat.seatP_lt a k
  generalize Seat.seatP a k = P1 at *
  have HL := Lib.hid (fun w => field_any x y hx hy w)
  have hm := Seat.mask30 a ha
  have hp : a % 1073741824 < 4294967296 := by omega
  obtain ⟨P2, hpp⟩ : ∃ p, a % 1073741824 = p := ⟨_, rfl⟩
  rw [hpp] at hm hp
  have HO2 := Lib.hid (fun w b (hi : Ints w b 2 [9, 12]) => Qk.rof_any b 2 2 [9, 12] w hi (by decide))
  have HO1 := Lib.hid (fun w b (hi : Ints w b 1 [10]) => Qk.rof_any b 1 1 [10] w hi (by decide))
  have hp3 := Qk.ofL_lt [9, 12]
  have hp4 := Qk.ofL_lt [10]
  generalize Qk.ofL [9, 12] = P3 at *
  generalize Qk.ofL [10] = P4 at *
  have HQ : Hid (∀ j, j < 5 → ([0, P1, P2, P3, P4][j]?.getD 0) < 4294967296) := Lib.hid fun j hj => by
    rcases (by omega : j = 0 ∨ j = 1 ∨ j = 2 ∨ j = 3 ∨ j = 4) with rfl | rfl | rfl | rfl | rfl
    · show 0 < 4294967296; decide
    · show P1 < 4294967296; omega
    · exact hp
    · show P3 < 4294967296; omega
    · show P4 < 4294967296; omega
  have T1 := Lib.hid (fun w => right_any rN rV w (by omega))
  have T2 := Lib.hid (fun w => rright_any rN rV w (by omega) (by omega))
  have hpz : (put [(rN, rV), (rN, rV)]).length ≤ 1000000000 := by
    show (line (rN, rV) ++ (line (rN, rV) ++ [])).length ≤ _
    rw [List.length_append, List.length_append, line_length]; simp; omega
  have T3 := Lib.hid (fun a' w' (hf : Flds w' a' 2 [(rN, rV), (rN, rV)]) => put_any a' 2 2 _ w' hf (by decide) (Nat.le_trans hpz (by decide)))
  have T4 : Hid (∀ a' w', Flds w' a' 2 [(rN, rV), (rN, rV)] → Calls Try.prog 22 #[.slice a' 2 2] w' fun e w'' => e = .returned (.string (ba (put [(rN, rV), (rN, rV)]))) ∧ Below w'.heap.size w' w'') := Lib.hid fun a' w' hf => (rput_any a' 2 2 _ w' hf (by decide) (Nat.le_trans hpz (by decide))).mono (by
    rintro e w'' ⟨rfl, m, hw⟩
    exact ⟨rfl, by rw [hw]; exact Base.below_drewN (Below.refl _ _) m⟩)
  generalize ba (put [(rN, rV), (rN, rV)]) = PT at *
  clear hpp ha hk hx hy hp hp1 hp3 hp4 hs hpz
  go_enter Try.func3, Try.ntmps3
  go_upto_region 7 with (first
    | (go_at_call 11; (with_reducible refine (HL.out _).mono ?_); rintro e w5 ⟨⟨L, rfl, hLs⟩, hb⟩
       replace HA0 := Lib.hid (HA0.out.step hb)
       clear hb)
    | (go_at_call 10; (with_reducible refine (HS.out _ HA0.out.b).mono ?_); rintro e w4 ⟨⟨S, rfl, hSs⟩, hb⟩
       replace HA0 := Lib.hid (HA0.out.step hb)
       clear hb)
    | (go_at_call 9; (with_reducible refine (HPr.out _).mono ?_); rintro e w3 ⟨rfl, hb⟩
       replace HA0 := Lib.hid (HA0.out.step hb)
       clear hb)
    | (go_at_call 8; (with_reducible refine (HFl.out _ _ (Flds.one _ _ _ _ _ rfl)).mono ?_); rintro e w2 ⟨rfl, m, hw⟩
       replace HA0 := Lib.hid ((HA0.out.alloc (.cells #[.string rN, .string rV] 25)).step (Base.below_drewN (Below.refl _ _) m))
       rw [← hw] at HA0
       clear hw q0 q1 q2 q3)
    | (go_at_call 7; (with_reducible refine (known_any _).mono ?_); rintro e w1 ⟨rfl, hb⟩
       replace HA0 := Lib.hid (HA0.out.step hb)
       obtain ⟨⟨q0, q1, q2, q3⟩, hqa, hqb, hqc⟩ := HA0.out
       clear hqa hqb hqc hb))
  have hst : Hid (∀ j, j < 3 → (w5.alloc (.cells #[.string s, .string S, .string L] 9)).cell? ⟨w5.heap.size, j, none⟩ = some (.string ([s, S, L][j]?.getD ByteArray.empty))) := Lib.hid fun j hj => strs_at w5 9 [s, S, L] j hj
  have hX : Hid (∀ j, j < 3 → ([s, S, L][j]?.getD ByteArray.empty).size ≤ 1000) := Lib.hid fun j hj => by
    rcases (by omega : j = 0 ∨ j = 1 ∨ j = 2) with rfl | rfl | rfl
    · show s.size ≤ 1000; omega
    · show S.size ≤ 1000; omega
    · show L.size ≤ 1000; omega
  have HA := Lib.hid (HA0.out.alloc (.cells #[.string s, .string S, .string L] 9))
  have hg : w5.heap.size < (w5.alloc (.cells #[.string s, .string S, .string L] 9)).heap.size := by simp
  clear HL HPr HS HFl HV HA0 hSs hLs
  generalize w5.alloc (.cells #[.string s, .string S, .string L] 9) = W at *
  generalize w5.heap.size = g at *
  generalize hg0 : w.heap.size = g0 at HA
  go_loopw [53] (fun i wq => ∃ q : Nat, q ≤ 3 ∧ i = .int .i64 q ∧ Hid (Below W.heap.size W wq)) (fun i _ => 3 - (intOf i).toNat)
  case atStart => exact ⟨0, Nat.zero_le _, rfl, Lib.hid (Below.refl _ _)⟩
  case round =>
    obtain ⟨q, hq, rfl, hbq⟩ := hrel
    rcases Nat.lt_or_ge q 3 with hlt | hge
    · have hcq := (hbq.out.cell (p := ⟨g, q, none⟩) hg).trans (hst.out q hlt)
      have hsx := hX.out q hlt
      have hq5 : (q : Int) < 3 := by omega
      generalize [s, S, L][q]?.getD ByteArray.empty = X at *
      have J1 := Lib.hid (fun w => join_any rN rV X w (by omega) (by omega))
      have J2 := Lib.hid (fun w => rjoin_any rN rV X w (by omega) (by omega))
      generalize ba (joined rV.data.toList X.data.toList) = JJ at *
      go_upto_region 10 with (first
        | (go_at_call 12; (with_reducible refine (HO2.out _ _ (Ints.two _ _ rfl _ _ _)).mono ?_); rintro e w8 ⟨rfl, hw⟩; rw [hw]; clear hw)
        | (go_at_call 12; (with_reducible refine (HO1.out _ _ (Ints.one _ _ ?_ _ _)).mono ?_); (· simp); rintro e w8 ⟨rfl, hw⟩; rw [hw]; clear hw))
      have hsz9 : ((wr.alloc (.cells #[.int .i64 9, .int .i64 12] 3)).alloc (.cells #[.int .i64 10] 3)).heap.size = wr.heap.size + 1 + 1 := by simp
      have hps : Hid (∀ j, j < 5 → (((wr.alloc (.cells #[.int .i64 9, .int .i64 12] 3)).alloc (.cells #[.int .i64 10] 3)).alloc (.cells #[.int .u32 0, .int .u32 (P1 : Nat), .int .u32 (P2 : Nat), .int .u32 (P3 : Nat), .int .u32 (P4 : Nat)] 29)).cell? ⟨wr.heap.size + 1 + 1, j, none⟩ = some (.int .u32 (([0, P1, P2, P3, P4][j]?.getD 0 : Nat) : Int))) := Lib.hid fun j hj => by
        have h := nats_at ((wr.alloc (.cells #[.int .i64 9, .int .i64 12] 3)).alloc (.cells #[.int .i64 10] 3)) 29 [0, P1, P2, P3, P4] j hj
        rw [hsz9] at h; exact h
      have hgp : wr.heap.size + 1 + 1 < (((wr.alloc (.cells #[.int .i64 9, .int .i64 12] 3)).alloc (.cells #[.int .i64 10] 3)).alloc (.cells #[.int .u32 0, .int .u32 (P1 : Nat), .int .u32 (P2 : Nat), .int .u32 (P3 : Nat), .int .u32 (P4 : Nat)] 29)).heap.size := by simp
      have HBJ := Lib.hid (((hbq.out.alloc hbq.out.size (.cells #[.int .i64 9, .int .i64 12] 3)).alloc (by have := hbq.out.size; simp; omega) (.cells #[.int .i64 10] 3)).alloc (by have := hbq.out.size; simp; omega) (.cells #[.int .u32 0, .int .u32 (P1 : Nat), .int .u32 (P2 : Nat), .int .u32 (P3 : Nat), .int .u32 (P4 : Nat)] 29))
      clear hbq hcq hsz9
      generalize (((wr.alloc (.cells #[.int .i64 9, .int .i64 12] 3)).alloc (.cells #[.int .i64 10] 3)).alloc (.cells #[.int .u32 0, .int .u32 (P1 : Nat), .int .u32 (P2 : Nat), .int .u32 (P3 : Nat), .int .u32 (P4 : Nat)] 29)) = W10 at *
      generalize wr.heap.size + 1 + 1 = gp at *
      go_loopw [66] (fun i wq => ∃ r : Nat, r ≤ 5 ∧ i = .int .i64 r ∧ Hid (Below W10.heap.size W10 wq)) (fun i _ => 5 - (intOf i).toNat)
      case atStart => exact ⟨0, Nat.zero_le _, rfl, Lib.hid (Below.refl _ _)⟩
      case round =>
        obtain ⟨r, hr, rfl, hbr⟩ := hrel
        rcases Nat.lt_or_ge r 5 with hlr | hgr
        · have hcr := (hbr.out.cell (p := ⟨gp, r, none⟩) hgp).trans (hps.out r hlr)
          have hpr := HQ.out r hlr
          have hr4 : (r : Int) < 5 := by omega
          generalize [0, P1, P2, P3, P4][r]?.getD 0 = Q at *
          have C1 := Lib.hid (fun w => parse_any X Q hpr w (by omega))
          have C2 := Lib.hid (fun w => rparse_any X Q hpr w (by omega))
          have C3 := Lib.hid (fun w => goes_any X Q hpr w)
          have C4 := Lib.hid (fun w => rgoes_any X Q hpr w)
          rw [rv_form] at C1 C2
          generalize goes Q X.data.toList = G at *
          generalize rn (parse (clOf Q) X.data.toList) = N at *
          generalize rvl (parse (clOf Q) X.data.toList) = V at *
          generalize rok (parse (clOf Q) X.data.toList) = O at *
          generalize rerr (parse (clOf Q) X.data.toList) = Z at *
          clear hpr
          cases O <;> cases G
          all_goals
            go_wp2_with (first
              | (go_at_call 15; (with_reducible refine (C3.out _).mono ?_); rintro e w13 ⟨rfl, hw⟩; rw [hw]; clear hw)
              | (go_at_call 16; (with_reducible refine (C4.out _).mono ?_); rintro e w13 ⟨rfl, hw⟩; rw [hw]; clear hw)
              | (go_at_call 13; (with_reducible refine (C1.out _).mono ?_); rintro e w11 ⟨rfl, hb⟩
                 replace hbr := Lib.hid (Base.below_step hbr.out hb)
                 have AF := Lib.hid (At1.new hbr.out 25 N V)
                 clear hb)
              | (go_at_call 14; (with_reducible refine (C2.out _).mono ?_); rintro e w12 ⟨rfl, hb⟩
                 replace AF := Lib.hid (AF.out.step hb)
                 have q0 := fun o => (AF.out.old o).1
                 have q1 := fun o => (AF.out.old o).2
                 clear hb))
            go_roundw
            case rel => exact ⟨r + 1, by omega, by go_num, Lib.hid (AF.out.alloc _).b⟩
            case measure => simp [intOf]; omega
        · have hr4 : ¬ (r : Int) < 5 := by omega
          have hbq2 := Lib.hid (Base.below_drewN (Base.below_step HBJ.out hbr.out) 1)
          replace HA := Lib.hid (HA.out.step hbq2.out)
          clear hbr hps
          go_wp2_with fail
          refine Sched.region [(0, false), (1, false), (3, false), (4, false), (2, true), (5, true), (6, false)] (fun w' => At1 w g0 rN rV w') (by kernel_rfl) (by kernel_rfl) (fun _ _ d _ _ h => by cases d <;> exact h) HA.out ?_
          generalize World.drewN wr 1 = W17 at *
          simp only [Sched.picked, List.filterMap_cons, List.filterMap_nil, List.getElem?_cons_zero, List.getElem?_cons_succ, Option.map_some]
          iterate 4
            refine Sched.quiet (by rfl) ?_ ?_ ?_
            rotate_left 1
            · intro w' hS
              obtain ⟨⟨q0, q1, q2, q3⟩, _, _, _⟩ := hS
              go_simp
              with_reducible rfl
            simp only [Act.put, List.setIfInBounds_toArray, List.set_cons_zero, List.set_cons_succ]

          refine Sched.change (by rfl) (fun K hK => ?_)
          go_simp
          (with_reducible refine (J1.out _).mono ?_)
          rintro e w2 ⟨rfl, hb⟩
          dsimp only
          replace HA := Lib.hid (HA.out.step hb)
          replace hbq2 := Lib.hid (Base.below_step hbq2.out hb)
          refine hK _ _ HA.out ?_
          clear hK K hb
          refine Sched.change (by rfl) (fun K hK => ?_)
          go_simp
          (with_reducible refine (J2.out _).mono ?_)
          rintro e w3 ⟨rfl, hb⟩
          dsimp only
          replace HA := Lib.hid (HA.out.step hb)
          replace hbq2 := Lib.hid (Base.below_step hbq2.out hb)
          refine hK _ _ HA.out ?_
          clear hK K hb
          refine Sched.quiet (by rfl) ?_ ?_ ?_
          rotate_left 1
          · intro w' hS
            clear hS
            go_simp
            with_reducible rfl
          simp only [Act.put, List.setIfInBounds_toArray, List.set_cons_zero, List.set_cons_succ]
          refine Sched.done ?_
          go_wp2_with fail
          go_roundw
          case rel => exact ⟨q + 1, by omega, by go_num, hbq2⟩
          case measure => simp [intOf]; omega
    · have hq5 : ¬ (q : Int) < 3 := by omega
      replace HA := Lib.hid (HA.out.step (Base.below_drewN hbq.out 1))
      clear hbq hst hX
      go_wp2_with fail
      refine Tree.region (.quiet 0 (.quiet 2 (.act 1 (.act 3 (.quiet 4 (.quiet 5 (.quiet 6 (.quiet 7 (.quiet 10 (.quiet 11 (.two 8 (.two 9 (.act 12 (.act 13 (.quiet 14 (.quiet 15 (.quiet 16 (.done)))))) 12 (.act 9 (.act 13 (.quiet 14 (.quiet 15 (.quiet 16 (.done))))))) 12 (.act 8 (.act 9 (.act 13 (.quiet 14 (.quiet 15 (.quiet 16 (.done)))))))))))))))))) (fun w' => At1 w g0 rN rV w') (by kernel_rfl) (by kernel_rfl) (fun _ _ d _ _ h => by cases d <;> exact h) HA.out ?_
      simp only [Tree.grow, Tree.put1, List.getElem?_cons_zero, List.getElem?_cons_succ]
      generalize World.drewN wr 1 = W20 at *
      refine Tree.quiet (by rfl) ?_ ?_ ?_
      rotate_left 1
      · intro w' hS
        obtain ⟨⟨q0, q1, q2, q3⟩, _, _, _⟩ := hS
        go_simp
        with_reducible rfl
      simp only [Act.put, List.setIfInBounds_toArray, List.set_cons_zero, List.set_cons_succ]
      refine Tree.quiet (by rfl) ?_ ?_ ?_
      rotate_left 1
      · intro w' hS
        obtain ⟨⟨q0, q1, q2, q3⟩, _, _, _⟩ := hS
        go_simp
        with_reducible rfl
      simp only [Act.put, List.setIfInBounds_toArray, List.set_cons_zero, List.set_cons_succ]
      refine Tree.change (by rfl) (fun K hK => ?_)
      go_simp
      (with_reducible refine (T1.out _).mono ?_)
      rintro e w2 ⟨rfl, hb⟩
      dsimp only
      replace HA := Lib.hid (HA.out.step hb)
      refine hK _ _ HA.out ?_
      clear hK K hb
      refine Tree.change (by rfl) (fun K hK => ?_)
      go_simp
      (with_reducible refine (T2.out _).mono ?_)
      rintro e w2 ⟨rfl, hb⟩
      dsimp only
      replace HA := Lib.hid (HA.out.step hb)
      refine hK _ _ HA.out ?_
      clear hK K hb
      generalize right rN.data.toList rV.data.toList = RR at *
      refine Tree.quiet (by rfl) ?_ ?_ ?_
      rotate_left 1
      · intro w' hS
        obtain ⟨⟨q0, q1, q2, q3⟩, _, _, _⟩ := hS
        go_simp
        with_reducible rfl
      simp only [Act.put, List.setIfInBounds_toArray, List.set_cons_zero, List.set_cons_succ]
      refine Tree.quiet (by rfl) ?_ ?_ ?_
      rotate_left 1
      · intro w' hS
        obtain ⟨⟨q0, q1, q2, q3⟩, _, _, _⟩ := hS
        go_simp
        with_reducible rfl
      simp only [Act.put, List.setIfInBounds_toArray, List.set_cons_zero, List.set_cons_succ]
      refine Tree.quiet (by rfl) ?_ ?_ ?_
      rotate_left 1
      · intro w' hS
        obtain ⟨⟨q0, q1, q2, q3⟩, _, _, _⟩ := hS
        go_simp
        with_reducible rfl
      simp only [Act.put, List.setIfInBounds_toArray, List.set_cons_zero, List.set_cons_succ]
      refine Tree.quiet (by rfl) ?_ ?_ ?_
      rotate_left 1
      · intro w' hS
        obtain ⟨⟨q0, q1, q2, q3⟩, _, _, _⟩ := hS
        go_simp
        with_reducible rfl
      simp only [Act.put, List.setIfInBounds_toArray, List.set_cons_zero, List.set_cons_succ]
      refine Tree.quiet (by rfl) ?_ ?_ ?_
      rotate_left 1
      · intro w' hS
        obtain ⟨⟨q0, q1, q2, q3⟩, _, _, _⟩ := hS
        go_simp
        with_reducible rfl
      simp only [Act.put, List.setIfInBounds_toArray, List.set_cons_zero, List.set_cons_succ]
      refine Tree.quiet (by rfl) ?_ ?_ ?_
      rotate_left 1
      · intro w' hS
        obtain ⟨⟨q0, q1, q2, q3⟩, _, _, _⟩ := hS
        go_simp
        with_reducible rfl
      simp only [Act.put, List.setIfInBounds_toArray, List.set_cons_zero, List.set_cons_succ]
      refine Tree.both ?_ ?_
      · refine Tree.change (by rfl) (fun K hK => ?_)
        go_simp
        have F1 := Lib.hid (Flds.two w2 25 rN rV)
        replace HA := Lib.hid (HA.out.alloc (.cells #[.string rN, .string rV, .string rN, .string rV] 25))
        refine hK _ _ HA.out ?_
        clear hK K
        generalize w2.alloc (.cells #[.string rN, .string rV, .string rN, .string rV] 25) = Wx0 at *
        refine Tree.both ?_ ?_
        · refine Tree.change (by rfl) (fun K hK => ?_)
          go_simp
          (with_reducible refine (T3.out _ _ F1.out).mono ?_)
          rintro e w5 ⟨rfl, hb⟩
          dsimp only
          replace HA := Lib.hid (HA.out.step hb)
          refine hK _ _ HA.out ?_
          clear hK K hb
          refine Tree.change (by rfl) (fun K hK => ?_)
          go_simp
          have F2 := Lib.hid (Flds.two w5 25 rN rV)
          replace HA := Lib.hid (HA.out.alloc (.cells #[.string rN, .string rV, .string rN, .string rV] 25))
          refine hK _ _ HA.out ?_
          clear hK K
          generalize w5.alloc (.cells #[.string rN, .string rV, .string rN, .string rV] 25) = Wx1 at *
          refine Tree.change (by rfl) (fun K hK => ?_)
          go_simp
          (with_reducible refine (T4.out _ _ F2.out).mono ?_)
          rintro e w6 ⟨rfl, hb⟩
          dsimp only
          replace HA := Lib.hid (HA.out.step hb)
          refine hK _ _ HA.out ?_
          clear hK K hb
          refine Tree.quiet (by rfl) ?_ ?_ ?_
          rotate_left 1
          · intro w' hS
            obtain ⟨⟨q0, q1, q2, q3⟩, _, _, _⟩ := hS
            go_simp
            with_reducible rfl
          simp only [Act.put, List.setIfInBounds_toArray, List.set_cons_zero, List.set_cons_succ]
          refine Tree.quiet (by rfl) ?_ ?_ ?_
          rotate_left 1
          · intro w' hS
            obtain ⟨⟨q0, q1, q2, q3⟩, _, _, _⟩ := hS
            go_simp
            with_reducible rfl
          simp only [Act.put, List.setIfInBounds_toArray, List.set_cons_zero, List.set_cons_succ]
          refine Tree.quiet (by rfl) ?_ ?_ ?_
          rotate_left 1
          · intro w' hS
            obtain ⟨⟨q0, q1, q2, q3⟩, _, _, _⟩ := hS
            go_simp
            with_reducible rfl
          simp only [Act.put, List.setIfInBounds_toArray, List.set_cons_zero, List.set_cons_succ]
          refine Tree.done ?_
          have hbk := HA.out.b
          go_wp2
          go_ret
          exact ⟨by rfl, hbk⟩
        · refine Tree.change (by rfl) (fun K hK => ?_)
          go_simp
          replace F1 := Lib.hid (F1.out.below ((Below.refl _ _).alloc (Nat.le_refl _) (.cells #[.string rN, .string rV, .string rN, .string rV] 25)))
          have F2 := Lib.hid (Flds.two Wx0 25 rN rV)
          replace HA := Lib.hid (HA.out.alloc (.cells #[.string rN, .string rV, .string rN, .string rV] 25))
          refine hK _ _ HA.out ?_
          clear hK K
          generalize Wx0.alloc (.cells #[.string rN, .string rV, .string rN, .string rV] 25) = Wx1 at *
          refine Tree.change (by rfl) (fun K hK => ?_)
          go_simp
          (with_reducible refine (T3.out _ _ F1.out).mono ?_)
          rintro e w5 ⟨rfl, hb⟩
          dsimp only
          replace HA := Lib.hid (HA.out.step hb)
          replace F2 := Lib.hid (F2.out.below hb)
          refine hK _ _ HA.out ?_
          clear hK K hb
          refine Tree.change (by rfl) (fun K hK => ?_)
          go_simp
          (with_reducible refine (T4.out _ _ F2.out).mono ?_)
          rintro e w6 ⟨rfl, hb⟩
          dsimp only
          replace HA := Lib.hid (HA.out.step hb)
          refine hK _ _ HA.out ?_
          clear hK K hb
          refine Tree.quiet (by rfl) ?_ ?_ ?_
          rotate_left 1
          · intro w' hS
            obtain ⟨⟨q0, q1, q2, q3⟩, _, _, _⟩ := hS
            go_simp
            with_reducible rfl
          simp only [Act.put, List.setIfInBounds_toArray, List.set_cons_zero, List.set_cons_succ]
          refine Tree.quiet (by rfl) ?_ ?_ ?_
          rotate_left 1
          · intro w' hS
            obtain ⟨⟨q0, q1, q2, q3⟩, _, _, _⟩ := hS
            go_simp
            with_reducible rfl
          simp only [Act.put, List.setIfInBounds_toArray, List.set_cons_zero, List.set_cons_succ]
          refine Tree.quiet (by rfl) ?_ ?_ ?_
          rotate_left 1
          · intro w' hS
            obtain ⟨⟨q0, q1, q2, q3⟩, _, _, _⟩ := hS
            go_simp
            with_reducible rfl
          simp only [Act.put, List.setIfInBounds_toArray, List.set_cons_zero, List.set_cons_succ]
          refine Tree.done ?_
          have hbk := HA.out.b
          go_wp2
          go_ret
          exact ⟨by rfl, hbk⟩
      · refine Tree.change (by rfl) (fun K hK => ?_)
        go_simp
        have F2 := Lib.hid (Flds.two w2 25 rN rV)
        replace HA := Lib.hid (HA.out.alloc (.cells #[.string rN, .string rV, .string rN, .string rV] 25))
        refine hK _ _ HA.out ?_
        clear hK K
        generalize w2.alloc (.cells #[.string rN, .string rV, .string rN, .string rV] 25) = Wx0 at *
        refine Tree.change (by rfl) (fun K hK => ?_)
        go_simp
        replace F2 := Lib.hid (F2.out.below ((Below.refl _ _).alloc (Nat.le_refl _) (.cells #[.string rN, .string rV, .string rN, .string rV] 25)))
        have F1 := Lib.hid (Flds.two Wx0 25 rN rV)
        replace HA := Lib.hid (HA.out.alloc (.cells #[.string rN, .string rV, .string rN, .string rV] 25))
        refine hK _ _ HA.out ?_
        clear hK K
        generalize Wx0.alloc (.cells #[.string rN, .string rV, .string rN, .string rV] 25) = Wx1 at *
        refine Tree.change (by rfl) (fun K hK => ?_)
        go_simp
        (with_reducible refine (T3.out _ _ F1.out).mono ?_)
        rintro e w5 ⟨rfl, hb⟩
        dsimp only
        replace HA := Lib.hid (HA.out.step hb)
        replace F2 := Lib.hid (F2.out.below hb)
        refine hK _ _ HA.out ?_
        clear hK K hb
        refine Tree.change (by rfl) (fun K hK => ?_)
        go_simp
        (with_reducible refine (T4.out _ _ F2.out).mono ?_)
        rintro e w6 ⟨rfl, hb⟩
        dsimp only
        replace HA := Lib.hid (HA.out.step hb)
        refine hK _ _ HA.out ?_
        clear hK K hb
        refine Tree.quiet (by rfl) ?_ ?_ ?_
        rotate_left 1
        · intro w' hS
          obtain ⟨⟨q0, q1, q2, q3⟩, _, _, _⟩ := hS
          go_simp
          with_reducible rfl
        simp only [Act.put, List.setIfInBounds_toArray, List.set_cons_zero, List.set_cons_succ]
        refine Tree.quiet (by rfl) ?_ ?_ ?_
        rotate_left 1
        · intro w' hS
          obtain ⟨⟨q0, q1, q2, q3⟩, _, _, _⟩ := hS
          go_simp
          with_reducible rfl
        simp only [Act.put, List.setIfInBounds_toArray, List.set_cons_zero, List.set_cons_succ]
        refine Tree.quiet (by rfl) ?_ ?_ ?_
        rotate_left 1
        · intro w' hS
          obtain ⟨⟨q0, q1, q2, q3⟩, _, _, _⟩ := hS
          go_simp
          with_reducible rfl
        simp only [Act.put, List.setIfInBounds_toArray, List.set_cons_zero, List.set_cons_succ]
        refine Tree.done ?_
        have hbk := HA.out.b
        go_wp2
        go_ret
        exact ⟨by rfl, hbk⟩
end code
end Go.Proofs.Ytmbjnolikofaoaa.Fd
