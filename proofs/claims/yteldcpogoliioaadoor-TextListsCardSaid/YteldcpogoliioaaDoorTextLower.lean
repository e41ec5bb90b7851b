/-
  Layer 3 (text): the walk of TextLower: it returns true, and writes nothing that was there.
-/
import Derived.Test.YteldcpogoliioaaDoorTextKnown
import Derived.Test.YteldcpogoliioaaDoorAppend
namespace Go.Proofs.YteldcpogoliioaaDoor.Txt
open Go.RowKit Base Oct

def nums (bs : List UInt8) : List Int := bs.map fun b => (b.toNat : Int)
theorem bytes_of : ∀ zs : List Int, (∀ n ∈ zs, 0 ≤ n ∧ n ≤ 255) → ∃ bs, zs = nums bs
  | [], _ => ⟨[], rfl⟩
  | z :: zs, h => by
    obtain ⟨bs, e⟩ := bytes_of zs fun n hn => h n (by simp [hn])
    obtain ⟨h0, h1⟩ := h z (by simp)
    refine ⟨UInt8.ofNat z.toNat :: bs, ?_⟩
    rw [nums, List.map_cons, e]
    congr 1
    rw [UInt8.toNat_ofNat_of_lt' (by show z.toNat < 256; omega)]; omega
theorem nums_at (bs : List UInt8) (k : Nat) (h : k < bs.length) : (nums bs)[k]?.getD 0 = (bs[k].toNat : Int) := by
  rw [nums, List.getElem?_map, List.getElem?_eq_getElem h]; rfl
theorem conv_str (w : World) (a : Option Addr) (n cap : Nat) (bs : List UInt8) (h : Nums .u8 w a n (nums bs)) : (convert 32 9 (.slice a n cap)).run Tryd.prog w = .ok (.string (ba bs)) w := by
  have hl : bs.length = n := by have := h.1; rwa [nums, List.length_map] at this
  have key : ∀ b off, (∀ k, k < n → w.cell? ⟨b, off + k, none⟩ = some (.int .u8 ((nums bs)[k]?.getD 0))) → (convert 32 9 (.slice (some ⟨b, off, none⟩) n cap)).run Tryd.prog w = .ok (.string (ba bs)) w := by
    intro b off hc
    have := run_convert_bytes_back (P := Tryd.prog) w 32 9 5 ⟨b, off, none⟩ cap bs Tryd.underlying32 Tryd.underlying5 Tryd.underlying9 (fun j hj => by
      have e : (⟨b, off, none⟩ : Addr).add j = ⟨b, off + j, none⟩ := by unfold Addr.add; by_cases h : j = 0 <;> simp [h]
      rw [e, hc j (by omega), nums_at bs j hj])
    rw [hl] at this
    exact this
  rcases Nat.eq_zero_or_pos n with h0 | hp
  · subst h0
    obtain rfl : bs = [] := List.length_eq_zero_iff.1 hl
    cases a with
    | none => rw [run_convert_bytes_string w 32 9 5 none 0 cap Tryd.underlying32 Tryd.underlying5 Tryd.underlying9]; rfl
    | some x =>
      exact run_convert_bytes_back (P := Tryd.prog) w 32 9 5 x cap [] Tryd.underlying32 Tryd.underlying5 Tryd.underlying9 (fun j hj => by simp at hj)
  · obtain ⟨b, off, rfl, _, hc⟩ := h.2 hp
    exact key b off hc
theorem flip_low : ∀ k : Fin 256, (lowB (UInt8.ofNat k.val ^^^ 32) = lowB (UInt8.ofNat k.val)) ↔ (97 ≤ (UInt8.ofNat k.val ||| 32).toNat ∧ (UInt8.ofNat k.val ||| 32).toNat ≤ 122) := by decide +kernel
theorem flip_lowB (b : UInt8) : (lowB (b ^^^ 32) = lowB b) ↔ (97 ≤ (b ||| 32).toNat ∧ (b ||| 32).toNat ≤ 122) := by
  have h := flip_low ⟨b.toNat, b.toNat_lt⟩
  simpa using h
theorem xor_is : ∀ k : Fin 256, bits .xor .u8 (k.val : Int) 32 = ((UInt8.ofNat k.val ^^^ 32).toNat : Int) := by decide +kernel
theorem or_is : ∀ k : Fin 256, bits .or .u8 (k.val : Int) 32 = ((UInt8.ofNat k.val ||| 32).toNat : Int) := by decide +kernel
theorem xor_byte (b : UInt8) : bits .xor .u8 (b.toNat : Int) 32 = ((b ^^^ 32).toNat : Int) := by
  have h := xor_is ⟨b.toNat, b.toNat_lt⟩
  simpa using h
theorem or_byte (b : UInt8) : bits .or .u8 (b.toNat : Int) 32 = ((b ||| 32).toNat : Int) := by
  have h := or_is ⟨b.toNat, b.toNat_lt⟩
  simpa using h
theorem same_flip (bs : List UInt8) (q : Nat) (h : q < bs.length) : same (ba bs) (ba (bs.set q (bs[q] ^^^ 32))) = (decide (97 ≤ (bs[q] ||| 32).toNat) && decide ((bs[q] ||| 32).toNat ≤ 122)) := by
  rw [Bool.eq_iff_iff, Bool.and_eq_true, decide_eq_true_eq, decide_eq_true_eq, ← flip_lowB]
  unfold same
  rw [beq_iff_eq]
  show low bs = low (bs.set q (bs[q] ^^^ 32)) ↔ _
  rw [low, low, List.map_set]
  constructor
  · intro e
    have := congrArg (fun l => l[q]?) e
    simp only [List.getElem?_map, List.getElem?_eq_getElem h, Option.map_some, List.getElem?_set_self (show q < (bs.map lowB).length by rw [List.length_map]; exact h), Option.some.injEq] at this
    exact this.symm
  · intro e
    rw [e]
    apply List.ext_getElem?
    intro j
    by_cases hj : q = j
    · subst hj
      rw [List.getElem?_set_self (by rw [List.length_map]; exact h), List.getElem?_map, List.getElem?_eq_getElem h]; rfl
    · rw [List.getElem?_set_ne hj]
theorem lower_at (s : ByteArray) (k : Nat) (h : k < s.size) (h' : k < (lower s).size) : ((lower s)[k].toNat : Int) = lowN (s[k].toNat : Int) := by
  have e : (lower s)[k] = lowB s[k] := by
    show (lower s).data.toList[k]'(by rw [len]; exact h') = _
    have : (lower s).data.toList = low s.data.toList := rfl
    simp only [this, low, List.getElem_map]
    rfl
  rw [e, lowB_toNat]

section code
set_option maxHeartbeats 2000000
attribute [local go_sem] Base.some_undef
set_option maxRecDepth 10000 in
theorem lower_walk (a : Option Addr) (n cap : Nat) (bs : List UInt8) (at8 : Int) (w : World) (hz : Nums .u8 w a n (nums bs)) (hl : n ≤ maxLen) (h0 : 0 ≤ at8) (h1 : at8 ≤ 255) :
    Calls Tryd.prog 5 #[.slice a n cap, .int .u8 at8] w fun e w' => e = .returned (.bool true) ∧ Below w.heap.size w w' := by
  unfold maxLen at hl
  have HZ := Lib.hid hz
  have HL := Lib.hid (show bs.length = n by have := hz.1; rwa [nums, List.length_map] at this)
  clear hz
  rcases Nat.lt_or_ge 80 n with hbig | hsm
  · go_enter Tryd.func5, Tryd.ntmps5
    go_wp2_with (go_at_call 7; with_reducible refine (known_any _).mono ?_; rintro e w1 ⟨rfl, hb⟩)
    go_ret
    exact ⟨rfl, hb⟩
  have HC := Lib.hid (fun w' hb => conv_str w' a n cap bs (HZ.out.below hb))
  have hS : (ba bs).size = n := by rw [ba_size, HL.out]
  have hLow := Lib.hid (fun w => lower_any (ba bs) w (by omega))
  have hLow2 := Lib.hid (fun w => (lower_any (lower (ba bs)) w (by rw [lower_size]; omega)))
  have hidem : lower (lower (ba bs)) = lower (ba bs) := ba_ext (by rw [lower_list, lower_list, low_low])
  rw [hidem] at hLow2
  have hLs : (lower (ba bs)).size = n := by rw [lower_size]; exact hS
  have hLat := Lib.hid (fun k h h' => lower_at (ba bs) k h h')
  have hSame := Lib.hid (fun (t : ByteArray) w => same_any (ba bs) t w (by unfold maxLen; omega))
  have hflip := Lib.hid (fun q h => same_flip bs q h)
  clear hidem
  generalize lower (ba bs) = L at *
  generalize ba bs = S at *
  go_enter Tryd.func5, Tryd.ntmps5
  go_wp2_with (first
    | (go_at_call 7; with_reducible refine (known_any _).mono ?_; rintro e w1 ⟨rfl, hb⟩
       have hcv := HC.out w1 hb)
    | (go_at_call 9; with_reducible refine (hLow.out _).mono ?_; rintro e w2 ⟨rfl, hb2⟩)
    | (go_at_call 9; with_reducible refine (hLow2.out _).mono ?_; rintro e w3 ⟨rfl, hb3⟩))
  have hb23 := Lib.hid (Base.below_step hb (Base.below_step hb2 hb3))
  clear HC hLow hLow2 hcv hb hb2 hb3
  obtain ⟨i0, hi, hz0, hz1, hz2⟩ := info_parts byte_info
  have G1 := Lib.hid hi; have G2 := Lib.hid hz0; have G3 := Lib.hid hz1; have G4 := Lib.hid hz2
  clear hi hz0 hz1 hz2
  go_loop [7] (fun i => ∃ k : Nat, k ≤ n ∧ i = .int .i64 k) (fun i => n - (intOf i).toNat)
  case atStart => exact ⟨0, Nat.zero_le _, rfl⟩
  case round =>
    obtain ⟨k, hk, rfl⟩ := hrel
    rcases Nat.lt_or_ge k n with hlt | hge
    · have t1 : k < S.size := by omega
      have t2 : k < L.size := by omega
      have t3 : (k : Int) < (S.size : Int) := by omega
      have t4 : (k : Int) < (L.size : Int) := by omega
      have hx := hLat.out k t1 t2
      have hx0 : 0 ≤ (S[k].toNat : Int) := by omega
      have hx1 := byte_lt S[k]
      rcases (by omega : (65 ≤ (S[k].toNat : Int) ∧ (S[k].toNat : Int) ≤ 90) ∨ (S[k].toNat : Int) < 65 ∨ (65 ≤ (S[k].toNat : Int) ∧ 90 < (S[k].toNat : Int))) with ⟨y0, y1⟩ | y0 | ⟨y0, y1⟩
      · have e2 : IntKind.u8.wrap ((S[k].toNat : Int) + 32) = (S[k].toNat : Int) + 32 := by rw [IntKind.wrap_u8]; omega
        have e3 : ((L[k].toNat : Int) != (S[k].toNat : Int) + 32) = false := by rw [hx, lowN, if_pos ⟨y0, y1⟩]; exact bne_self_eq_false _
        have e4 : (L[k].toNat : Int) = (S[k].toNat : Int) + 32 := by rw [hx, lowN, if_pos ⟨y0, y1⟩]
        clear hx
        go_wp2
        go_round
        case rel => exact ⟨k + 1, by omega, by go_num⟩
        case measure => simp [intOf]; omega
      · have e4 : (L[k].toNat : Int) = (S[k].toNat : Int) := by rw [hx, lowN, if_neg (by omega)]
        clear hx
        go_wp2
        go_round
        case rel => exact ⟨k + 1, by omega, by go_num⟩
        case measure => simp [intOf]; omega
      · have e4 : (L[k].toNat : Int) = (S[k].toNat : Int) := by rw [hx, lowN, if_neg (by omega)]
        clear hx
        go_wp2
        go_round
        case rel => exact ⟨k + 1, by omega, by go_num⟩
        case measure => simp [intOf]; omega
    · obtain rfl : k = n := by omega
      have t3 : ¬ (k : Int) < (S.size : Int) := by omega
      rcases Nat.eq_zero_or_pos k with hz | hp
      · subst hz
        go_wp2
        go_ret
        exact ⟨rfl, hb23.out⟩
      · obtain ⟨q, hq, eq⟩ : ∃ q : Nat, q < k ∧ at8.tmod (k : Int) = (q : Int) := by
          have hk0 : (0 : Int) < (k : Int) := by omega
          have hm0 := Int.emod_nonneg at8 (show (k : Int) ≠ 0 by omega)
          have hm1 := Int.emod_lt_of_pos at8 hk0
          exact ⟨(at8 % (k : Int)).toNat, by omega, by rw [Int.tmod_eq_emod_of_nonneg h0]; omega⟩
        have hqb : q < bs.length := by rw [HL.out]; exact hq
        obtain ⟨b0, off, rfl, hb0, hc⟩ := (HZ.out.below hb23.out).2 hp
        have hnews : 0 < k → ∃ b o, some (⟨b0, off, none⟩ : Addr) = some ⟨b, o, none⟩ ∧ ∀ j u, (bcells bs)[j]? = some u → w3.cell? ⟨b, o + j, none⟩ = some u := fun _ => ⟨b0, off, rfl, fun j u hj => by
          have hjl : j < bs.length := by
            rcases Nat.lt_or_ge j bs.length with h | h
            · exact h
            · rw [bcells, List.getElem?_eq_none (by rw [List.length_map]; exact h)] at hj; cases hj
          rw [hc j (by rw [← HL.out]; exact hjl), nums_at bs j hjl]
          rw [bcells, List.getElem?_map, List.getElem?_eq_getElem hjl] at hj
          exact hj⟩
        have hone : ∀ u ∈ bcells bs, u.oneCell' = true := by
          intro u hu
          obtain ⟨b, _, rfl⟩ := List.mem_map.1 hu
          rfl
        have hbl : (bcells bs).length = k * 1 := by rw [bcells, List.length_map, HL.out]; omega
        have hcq := hc q hq
        rw [nums_at bs q hqb] at hcq
        have hfl := hflip.out q hqb
        have hxor := xor_byte bs[q]
        have hor := or_byte bs[q]
        have HN := Lib.hid hnews; have HO := Lib.hid hone; have HBL := Lib.hid hbl
        have hset : (bcells bs).set q (.int .u8 ((bs[q] ^^^ 32).toNat : Int)) = bcells (bs.set q (bs[q] ^^^ 32)) := by rw [bcells, bcells, List.map_set]
        have hget : (bcells bs)[q]? = some (.int .u8 (bs[q].toNat : Int)) := by rw [bcells, List.getElem?_map, List.getElem?_eq_getElem hqb]; rfl
        have HS := Lib.hid hset
        have HG := Lib.hid hget
        clear hnews hone hbl hc hset hget hflip
        have hxs : (bs.set q (bs[q] ^^^ 32)).length = k := by rw [List.length_set, HL.out]
        have HX := Lib.hid hxs
        have hB0 : 0 ≤ (bs[q].toNat : Int) := by omega
        have hB1 := byte_lt bs[q]
        clear hxs
        generalize hX : bs.set q (bs[q] ^^^ 32) = X at *
        generalize hY : ((bs[q] ^^^ 32).toNat : Int) = Y at *
        generalize hC : (bs[q] ||| 32).toNat = C at *
        generalize (bs[q].toNat : Int) = B at *
        clear hX hY hC
        have kz : ¬ (k : Int) = 0 := by omega
        have kq : (q : Int) < (k : Int) := by omega
        rcases (by omega : (97 ≤ C ∧ C ≤ 122) ∨ C < 97 ∨ (97 ≤ C ∧ 122 < C)) with ⟨z0, z1⟩ | z0 | ⟨z0, z1⟩
        all_goals
          first
          | rw [decide_eq_true z0, decide_eq_true z1] at hfl
          | rw [decide_eq_false (by omega)] at hfl
          | rw [decide_eq_true z0, decide_eq_false (by omega)] at hfl
        all_goals
          simp only [Bool.and_self, Bool.false_and, Bool.and_false] at hfl
          have HSM := Lib.hid (fun w => hSame.out (ba X) w)
          rw [hfl] at HSM
          clear hfl hSame
          go_wp2_with (first
            | (at_builtin; refine App.wpList_append_list _ rfl _ _ 32 rfl w3.heap.size 5 i0 (.int .u8 0) 1 1 Tryd.underlying32 G1.out G2.out G3.out G4.out rfl (by decide) _ 0 [] rfl (World.ownsRow_nil _ _ _ _) _ k cap (bcells bs) rfl HBL.out HN.out HO.out (by unfold maxLen; omega) (by omega) (Nat.le_refl _) ?_
               intro v' w4 hown4 hgr4 hnil4 hloc4
               rw [Nat.zero_add, List.nil_append] at hown4
               obtain ⟨g, cg, rfl, hg0, hg1⟩ := hown4.form hp
               have hb4 := Lib.hid ((Below.refl w3.heap.size w3).grown hgr4 (Nat.le_refl _) (by intro k hk; cases hk))
               have hcell4 := (hown4.cellAt q (by omega)).trans HG.out
               have hfz4 := hown4.frozenAt q
               have hst := (hown4.stored q (.int .u8 Y)).1
               rw [HS.out] at hst
               have hc5 : (w4.setCell ⟨g, q, none⟩ (.int .u8 Y)).cell? ⟨b0, off + q, none⟩ = some (.int .u8 B) := by
                 rw [World.cell?_setCell_other _ _ _ _ (by simp <;> omega)]
                 exact (hb4.out.cell (p := ⟨b0, off + q, none⟩) hb0).trans hcq
               have hcv5 := run_convert_bytes_back (P := Tryd.prog) (w4.setCell ⟨g, q, none⟩ (.int .u8 Y)) 32 9 5 ⟨g, 0, none⟩ cg X Tryd.underlying32 Tryd.underlying5 Tryd.underlying9 (fun j hj => by
                 have h1 := hst.cellAt j (by have := HX.out; omega)
                 have e : (⟨g, 0, none⟩ : Addr).add j = ⟨g, j, none⟩ := by unfold Addr.add; by_cases h : j = 0 <;> simp [h]
                 rw [e, h1]
                 simp [bcells, List.getElem?_eq_getElem hj])
               rw [HX.out] at hcv5
               have hcv6 : (convert 32 9 (.slice (some ⟨g, 0, none⟩) k cg)).run Tryd.prog (w4.setCell ⟨g, q, none⟩ (.int .u8 Y)) = .ok (.string (ba X)) (w4.setCell ⟨g, q, none⟩ (.int .u8 Y)) := hcv5
               clear hcv5 hst hown4 hgr4 hnil4 hloc4)
            | (go_at_call 11; with_reducible refine (HSM.out _).mono ?_; rintro e w6 ⟨rfl, hb6⟩))
          go_ret
          have hfin : Below w.heap.size w w6 := Base.below_step ((Base.below_step hb23.out hb4.out).setCell (p := ⟨g, q, none⟩) (Nat.le_trans hb23.out.size hg0) (.int .u8 Y)) hb6
          first
            | exact ⟨rfl, hfin⟩
            | exact ⟨congrArg (fun b => Ending.returned (Value.bool b)) (decide_eq_true (show (C : Int) ≤ 122 by omega)), hfin⟩
            | exact ⟨congrArg (fun b => Ending.returned (Value.bool (!b))) (decide_eq_false (show ¬ (C : Int) ≤ 122 by omega)), hfin⟩

theorem lower_law (a : Option Addr) (n cap : Nat) (zs : List Int) (at8 : Int) (w : World) (hz : Nums .u8 w a n zs) (hl : n ≤ maxLen) (hb : ∀ n ∈ zs, 0 ≤ n ∧ n ≤ 255) (h0 : 0 ≤ at8) (h1 : at8 ≤ 255) :
    Calls Tryd.prog 5 #[.slice a n cap, .int .u8 at8] w fun e w' => e = .returned (.bool true) ∧ Below w.heap.size w w' := by
  obtain ⟨bs, rfl⟩ := bytes_of zs hb
  exact lower_walk a n cap bs at8 w hz hl h0 h1
end code
end Go.Proofs.YteldcpogoliioaaDoor.Txt
