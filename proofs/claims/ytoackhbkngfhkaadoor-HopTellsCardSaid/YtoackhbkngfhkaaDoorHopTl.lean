/-
  Layer 18 (hop): the law on what goes on to the next one: HopTells. (Printed by tools/gen_hop.py.)
-/
import Derived.Test.YtoackhbkngfhkaaDoorHopKn
import Derived.Test.YtoackhbkngfhkaaDoorRecWords
import Derived.Test.YtoackhbkngfhkaaDoorEach
namespace Go.Proofs.YtoackhbkngfhkaaDoor.Hop
open Go.RowKit Base Txt Oct

section run
variable {P : Program} {o : Oper}
theorem exec_append {ev : Operand → Value} {w w' : World} {v u v' : Value} (s x : Operand) (t : TypeId) (ho : o.op = .call { callee := .builtin .append, args := #[s, x], argTypes := #[t, t] }) (hs : ev s = v) (hx : ev x = u)
    (hr : (Builtin.append_ #[t, t] o.type #[v, u]).run P w = .ok v' w') : (execOp ev o).run P w = .ok (.value v') w' := by
  unfold execOp
  simp only [ho, resolve, invoke, builtin, Sem.run_bind, Sem.run_pure, Result.andThen_ok, List.map_toArray, List.map_cons, List.map_nil, hs, hx, hr]
theorem oper_append {a : Act} {w w' : World} {K : Act → World → Prop} {Q : Exit → Act → World → Prop} {v u v' : Value} (s x : Operand) (t : TypeId) (ho : o.op = .call { callee := .builtin .append, args := #[s, x], argTypes := #[t, t] }) (hs : a.eval s = v) (hx : a.eval x = u)
    (hr : (Builtin.append_ #[t, t] o.type #[v, u]).run P w = .ok v' w') (h : K (a.put o.dst v') w') : o.wp P a w K Q := by
  unfold Oper.wp
  rw [exec_append s x t ho hs hx hr, Oper.upon_value]
  exact h
end run
theorem own_slice {w : World} {B : Nat} {e : TypeId} {size : Nat} {v : Value} {n : Nat} {xs : List Value} (hv : w.ownsRow B e size v n xs) : ∃ b cap, v = .slice b n cap := by
  rcases hv.2 with ⟨rfl, rfl⟩ | ⟨b', cap', cur, rfl, hb, hg, hn, hc, hs, ht⟩
  · exact ⟨none, 0, rfl⟩
  · exact ⟨_, cap', rfl⟩
/-- A text out of a table, and a default. -/
def atV (l : List Value) (q : Nat) : ByteArray := match l[q]? with | some (.string x) => x | _ => ByteArray.empty
def madeF (a : ByteArray) (b : Nat) : Fld := (atV [.string ⟨#[67, 111, 110, 110, 101, 99, 116, 105, 111, 110]⟩, .string ⟨#[88]⟩, .string ⟨#[72, 111, 115, 116]⟩, .string ⟨#[85, 112, 103, 114, 97, 100, 101]⟩, .string ⟨#[107, 101, 101, 112, 45, 97, 108, 105, 118, 101]⟩, .string ⟨#[65]⟩, .string ⟨#[67, 111, 110, 116, 101, 110, 116, 45, 76, 101, 110, 103, 116, 104]⟩, .string ⟨#[84, 114, 97, 105, 108, 101, 114]⟩, .string a] (b % 9), atV [.string ⟨#[120]⟩, .string ⟨#[97, 44, 32, 99, 108, 111, 115, 101]⟩, .string ⟨#[99, 111, 110, 116, 101, 110, 116, 45, 108, 101, 110, 103, 116, 104, 44, 32, 72, 79, 83, 84]⟩, .string ⟨#[49]⟩, .string ⟨#[]⟩, .string a] (b / 9 % 6))
def mades (a : ByteArray) (bs : List UInt8) : List Fld := bs.map fun b => madeF a b.toNat
theorem mades_snoc (a : ByteArray) (bs : List UInt8) (k : Nat) (h : k < bs.length) : mades a (bs.take (k + 1)) = mades a (bs.take k) ++ [madeF a bs[k].toNat] := by
  unfold mades
  rw [List.take_succ_eq_append_getElem h, List.map_append]; rfl
theorem made_size (a : ByteArray) (ha : a.size ≤ 40) (b : Nat) : (madeF a b).1.size ≤ 120 ∧ (madeF a b).2.size ≤ 120 := by
  unfold madeF
  have h9 := Nat.mod_lt b (show 0 < 9 by decide)
  have h6 := Nat.mod_lt (b / 9) (show 0 < 6 by decide)
  generalize b % 9 = q9 at *
  generalize b / 9 % 6 = q6 at *
  constructor
  · match q9, h9 with
    | 0, _ => show ByteArray.size ⟨#[67, 111, 110, 110, 101, 99, 116, 105, 111, 110]⟩ ≤ 120; decide
    | 1, _ => show ByteArray.size ⟨#[88]⟩ ≤ 120; decide
    | 2, _ => show ByteArray.size ⟨#[72, 111, 115, 116]⟩ ≤ 120; decide
    | 3, _ => show ByteArray.size ⟨#[85, 112, 103, 114, 97, 100, 101]⟩ ≤ 120; decide
    | 4, _ => show ByteArray.size ⟨#[107, 101, 101, 112, 45, 97, 108, 105, 118, 101]⟩ ≤ 120; decide
    | 5, _ => show ByteArray.size ⟨#[65]⟩ ≤ 120; decide
    | 6, _ => show ByteArray.size ⟨#[67, 111, 110, 116, 101, 110, 116, 45, 76, 101, 110, 103, 116, 104]⟩ ≤ 120; decide
    | 7, _ => show ByteArray.size ⟨#[84, 114, 97, 105, 108, 101, 114]⟩ ≤ 120; decide
    | 8, _ => show a.size ≤ 120; omega
  · match q6, h6 with
    | 0, _ => show ByteArray.size ⟨#[120]⟩ ≤ 120; decide
    | 1, _ => show ByteArray.size ⟨#[97, 44, 32, 99, 108, 111, 115, 101]⟩ ≤ 120; decide
    | 2, _ => show ByteArray.size ⟨#[99, 111, 110, 116, 101, 110, 116, 45, 108, 101, 110, 103, 116, 104, 44, 32, 72, 79, 83, 84]⟩ ≤ 120; decide
    | 3, _ => show ByteArray.size ⟨#[49]⟩ ≤ 120; decide
    | 4, _ => show ByteArray.size ⟨#[]⟩ ≤ 120; decide
    | 5, _ => show a.size ≤ 120; omega
theorem same_self (s : ByteArray) : same s s = true := by simp [same]
theorem find_strip (fs : List Fld) : find (strip fs) conN = [] := by
  unfold find strip without
  rw [List.filter_filter]
  have : (fs.filter fun a => same a.1 conN && !one (namesOf fs) a.1) = [] := by
    apply List.filter_eq_nil_iff.2
    intro f _
    by_cases h : same f.1 conN = true
    · have : one (namesOf fs) f.1 = true := by
        unfold one namesOf
        rw [List.any_append]
        have : (names.any fun n => same n f.1) = true := by
          rw [List.any_eq_true]
          exact ⟨conN, by simp [names, conN], by rw [same_comm]; exact h⟩
        rw [this]; rfl
      simp [h, this]
    · simp [h]
  rw [this]; rfl
theorem strip_strip (fs : List Fld) : strip (strip fs) = strip fs := by
  have h : namesOf (strip fs) = names := by unfold namesOf; rw [find_strip]; simp [list]
  show without (strip fs) (namesOf (strip fs)) = strip fs
  rw [h]
  unfold without
  apply List.filter_eq_self.2
  intro f hf
  have := (List.mem_filter.1 hf).2
  unfold one namesOf at this
  rw [List.any_append, Bool.not_or, Bool.and_eq_true] at this
  exact this.1

section code
set_option maxHeartbeats 8000000
set_option maxRecDepth 100000
attribute [local go_sem] Base.some_undef
theorem hopTells_law (la : Option Addr) (n0 cap0 : Nat) (fs : List Fld) (lb : Option Addr) (ln cap1 : Nat) (zs : List Int) (a b : ByteArray) (w : World) (hv : Flds w la n0 fs) (hn : n0 ≤ maxLen) (hz : ∀ f ∈ fs, f.1.size ≤ 140737488351232 ∧ f.2.size ≤ 140737488351232)
    (hv1 : Nums .u8 w lb ln zs) (hlc : ln ≤ cap1) (hw : ∀ x ∈ zs, (Lit.int .u8 x).wf = true) :
    Calls Tryd.prog 3 #[.slice la n0 cap0, .slice lb ln cap1, .string a, .string b] w fun e w' => e = .returned (.bool true) ∧ Below w.heap.size w w' := by
  obtain ⟨bs, rfl⟩ := bytes_of zs fun x hx => bounds_u8 (hw x hx)
  have hlb : bs.length = ln := by have := hv1.1; unfold nums at this; rw [List.length_map] at this; exact this
  clear hw
  have HV := Lib.hid hv
  have HFO := Lib.hid (fun (w' : World) (h : Below w.heap.size w w') => Hp.fields_any la n0 cap0 fs w' (hv.below h) hn hz)
  clear hz
  by_cases hf : Hp.fieldsOk fs = true
  rotate_left
  · rw [Bool.not_eq_true] at hf
    rw [hf] at HFO
    clear hv hn hf hv1
    go_enter Tryd.func3, Tryd.ntmps3
    go_wp2_with (first
      | (go_at_call 7; with_reducible refine (HFO.out _ HB1.out).mono ?_; rintro e w2 ⟨rfl, m, rfl⟩)
      | (go_at_call 6; with_reducible refine (known_any _).mono ?_; rintro e w1 ⟨rfl, hb1⟩
         have HB1 := Lib.hid hb1
         clear hb1))
    go_ret
    exact ⟨rfl, Base.below_drewN HB1.out m⟩
  have hok := Hp.fieldsOk_at hf
  rw [hf] at HFO
  have HFS := Lib.hid hok.2
  rw [hv.1] at hok
  have hn20 := hok.1
  clear hn hf hok
  by_cases h16 : 16 < ln
  · have t1 : (16 : Int) < (ln : Int) := by omega
    clear hv h16 hv1
    go_enter Tryd.func3, Tryd.ntmps3
    go_wp2_with (first
      | (go_at_call 7; with_reducible refine (HFO.out _ HB1.out).mono ?_; rintro e w2 ⟨rfl, m, rfl⟩)
      | (go_at_call 6; with_reducible refine (known_any _).mono ?_; rintro e w1 ⟨rfl, hb1⟩
         have HB1 := Lib.hid hb1
         clear hb1))
    go_ret
    exact ⟨rfl, Base.below_drewN HB1.out m⟩
  have t1 : ¬ (16 : Int) < (ln : Int) := by omega
  by_cases ha : 40 < a.size
  · have t2 : (40 : Int) < (a.size : Int) := by omega
    clear hv h16 ha hv1
    go_enter Tryd.func3, Tryd.ntmps3
    go_wp2_with (first
      | (go_at_call 7; with_reducible refine (HFO.out _ HB1.out).mono ?_; rintro e w2 ⟨rfl, m, rfl⟩)
      | (go_at_call 6; with_reducible refine (known_any _).mono ?_; rintro e w1 ⟨rfl, hb1⟩
         have HB1 := Lib.hid hb1
         clear hb1))
    go_ret
    exact ⟨rfl, Base.below_drewN HB1.out m⟩
  have t2 : ¬ (40 : Int) < (a.size : Int) := by omega
  by_cases hbz : 40 < b.size
  · have t3 : (40 : Int) < (b.size : Int) := by omega
    clear hv h16 ha hbz hv1
    go_enter Tryd.func3, Tryd.ntmps3
    go_wp2_with (first
      | (go_at_call 7; with_reducible refine (HFO.out _ HB1.out).mono ?_; rintro e w2 ⟨rfl, m, rfl⟩)
      | (go_at_call 6; with_reducible refine (known_any _).mono ?_; rintro e w1 ⟨rfl, hb1⟩
         have HB1 := Lib.hid hb1
         clear hb1))
    go_ret
    exact ⟨rfl, Base.below_drewN HB1.out m⟩
  have t3 : ¬ (40 : Int) < (b.size : Int) := by omega
  have HV1 := Lib.hid hv1
  have HLB := Lib.hid hlb
  have HLC := Lib.hid (show (cells fs).length = n0 * 2 by rw [cells_length, hv.1])
  have HFL := Lib.hid hv.1
  have h16' : ln ≤ 16 := by omega
  have HA := Lib.hid (show a.size ≤ 40 by omega)
  have HBZ := Lib.hid (show b.size ≤ 40 by omega)
  clear hv hv1 hlb h16 ha hbz
  obtain ⟨i0, hi, hz0, hz1, hz2⟩ := info_parts field_info
  have G1 := Lib.hid hi; have G2 := Lib.hid hz0; have G3 := Lib.hid hz1; have G4 := Lib.hid hz2
  clear hi hz0 hz1 hz2
  go_enter Tryd.func3, Tryd.ntmps3
  go_wp2_with (first
    | (at_builtin; refine App.wpList_append_list _ rfl _ _ 22 rfl w.heap.size 28 i0 (.agg #[.string ByteArray.empty, .string ByteArray.empty]) 2 32 Tryd.underlying22 G1.out G2.out G3.out G4.out rfl (by decide) _ 0 [] rfl (World.ownsRow_nil _ _ _ _) la n0 cap0 (cells fs) rfl HLC.out (cells_here (HV.out.below HB2.out)) (cells_one fs) (by unfold maxLen; omega) (by omega) HB2.out.size ?_
       intro v3 w3 ho3 hg3 _ _
       have HB3 := Lib.hid (HB2.out.grown hg3 HB2.out.size (by intro k hk; cases hk))
       rw [Nat.zero_add, List.nil_append] at ho3
       have HO3 := Lib.hid ho3
       clear ho3 hg3)
    | (go_at_call 7; with_reducible refine (HFO.out _ HB1.out).mono ?_; rintro e w2 ⟨rfl, m, rfl⟩
       have HB2 := Lib.hid (Base.below_drewN HB1.out m))
    | (go_at_call 6; with_reducible refine (known_any _).mono ?_; rintro e w1 ⟨rfl, hb1⟩
       have HB1 := Lib.hid hb1
       clear hb1))
  clear t1 t2 t3 HFO
  go_loopw [9, 10] (fun v i wr => ∃ k : Nat, k ≤ ln ∧ i = .int .i64 k ∧ Hid (wr.ownsRow w.heap.size 28 2 v (n0 + k) (cells (fs ++ mades a (bs.take k)))) ∧ Hid (Below w.heap.size w wr)) (fun _ i _ => ln - (intOf i).toNat)
  case atStart => exact ⟨0, Nat.zero_le _, rfl, Lib.hid (by rw [show mades a (bs.take 0) = [] from rfl, List.append_nil]; exact HO3.out), HB3⟩
  case round =>
    obtain ⟨k, hk, rfl, HO, HB⟩ := hrel
    obtain ⟨bx, cx, rfl⟩ := own_slice HO.out
    rcases Nat.lt_or_ge k ln with hlt | hge
    · have hkl : k < bs.length := by rw [HLB.out]; exact hlt
      obtain ⟨bl, off, rfl, hbl, hc⟩ := HV1.out.2 (by omega)
      have hck := hc k hlt
      rw [nums_at bs k hkl] at hck
      have hsn := mades_snoc a bs k hkl
      have hx9 : bs[k].toNat < 256 := bs[k].toNat_lt
      generalize bs[k].toNat = xn at *
      have HCQ := Lib.hid ((HB.out.cell (p := ⟨bl, off + k, none⟩) hbl).trans hck)
      have HBL := Lib.hid (Nat.lt_of_lt_of_le hbl HB.out.size)
      have T1 := Lib.hid (show (k : Int) < (ln : Int) by omega)
      unfold madeF at hsn
      obtain ⟨q9, e9⟩ : ∃ r, xn % 9 = r := ⟨_, rfl⟩
      obtain ⟨d9, f9⟩ : ∃ r, xn / 9 = r := ⟨_, rfl⟩
      obtain ⟨q6, e6⟩ : ∃ r, d9 % 6 = r := ⟨_, rfl⟩
      rw [e9, f9, e6] at hsn
      have hq9 : q9 < 9 := by omega
      have hq6 : q6 < 6 := by omega
      have Rq9 := Lib.hid (show Int.tmod ((xn : Nat) : Int) 9 = (q9 : Int) by rw [Int.tmod_eq_emod_of_nonneg (by omega)]; omega)
      have Rd9 := Lib.hid (show Int.tdiv ((xn : Nat) : Int) 9 = (d9 : Int) ∧ (d9 : Int) % 256 = (d9 : Int) by rw [Int.tdiv_eq_ediv_of_nonneg (by omega)]; omega)
      have Rq6 := Lib.hid (show Int.tmod ((d9 : Nat) : Int) 6 = (q6 : Int) by rw [Int.tmod_eq_emod_of_nonneg (by omega)]; omega)
      obtain ⟨X, hX, hsX⟩ : ∃ X : ByteArray, ([.string ⟨#[67, 111, 110, 110, 101, 99, 116, 105, 111, 110]⟩, .string ⟨#[88]⟩, .string ⟨#[72, 111, 115, 116]⟩, .string ⟨#[85, 112, 103, 114, 97, 100, 101]⟩, .string ⟨#[107, 101, 101, 112, 45, 97, 108, 105, 118, 101]⟩, .string ⟨#[65]⟩, .string ⟨#[67, 111, 110, 116, 101, 110, 116, 45, 76, 101, 110, 103, 116, 104]⟩, .string ⟨#[84, 114, 97, 105, 108, 101, 114]⟩, .string a] : List Value)[q9]? = some (.string X) ∧ X.size ≤ 40 := by
        match q9, hq9 with
        | 0, _ => exact ⟨_, rfl, by decide⟩
        | 1, _ => exact ⟨_, rfl, by decide⟩
        | 2, _ => exact ⟨_, rfl, by decide⟩
        | 3, _ => exact ⟨_, rfl, by decide⟩
        | 4, _ => exact ⟨_, rfl, by decide⟩
        | 5, _ => exact ⟨_, rfl, by decide⟩
        | 6, _ => exact ⟨_, rfl, by decide⟩
        | 7, _ => exact ⟨_, rfl, by decide⟩
        | 8, _ => exact ⟨a, rfl, HA.out⟩
      obtain ⟨Y, hY, hsY⟩ : ∃ Y : ByteArray, ([.string ⟨#[120]⟩, .string ⟨#[97, 44, 32, 99, 108, 111, 115, 101]⟩, .string ⟨#[99, 111, 110, 116, 101, 110, 116, 45, 108, 101, 110, 103, 116, 104, 44, 32, 72, 79, 83, 84]⟩, .string ⟨#[49]⟩, .string ⟨#[]⟩, .string a] : List Value)[q6]? = some (.string Y) ∧ Y.size ≤ 40 := by
        match q6, hq6 with
        | 0, _ => exact ⟨_, rfl, by decide⟩
        | 1, _ => exact ⟨_, rfl, by decide⟩
        | 2, _ => exact ⟨_, rfl, by decide⟩
        | 3, _ => exact ⟨_, rfl, by decide⟩
        | 4, _ => exact ⟨_, rfl, by decide⟩
        | 5, _ => exact ⟨a, rfl, HA.out⟩
      unfold atV at hsn
      rw [hX, hY] at hsn
      have HSN := Lib.hid (show mades a (bs.take (k + 1)) = mades a (bs.take k) ++ [(X, Y)] from hsn)
      have HX := Lib.hid hX; have HY := Lib.hid hY
      have Hq9 := Lib.hid (show q9 < 9 ∧ (q9 : Int) < 9 from ⟨hq9, by omega⟩); have Hq6 := Lib.hid (show q6 < 6 ∧ (q6 : Int) < 6 from ⟨hq6, by omega⟩)
      have t1 : (k : Int) < (ln : Int) := T1.out
      clear hx9 hc hck hsn e9 f9 e6 hq9 hq6 hX hY hsX hsY hkl hlc hbl
      go_upto_region 9 with fail
      clear t1
      refine Each.region 22 [40, 41, 42, 43, 44, 45, 46, 47, 48, 49, 50, 51, 52, 53, 54, 55, 56, 57, 58, 59, 60, 61]
          [fun v _ => v = .slice bx (n0 + k) cx,
            fun v _ => v = .string a,
            fun v w => ∃ g, v = .slice (some ⟨g, 0, none⟩) 9 9 ∧ Rec.Bk w g [.string ⟨#[67, 111, 110, 110, 101, 99, 116, 105, 111, 110]⟩, .string ⟨#[88]⟩, .string ⟨#[72, 111, 115, 116]⟩, .string ⟨#[85, 112, 103, 114, 97, 100, 101]⟩, .string ⟨#[107, 101, 101, 112, 45, 97, 108, 105, 118, 101]⟩, .string ⟨#[65]⟩, .string ⟨#[67, 111, 110, 116, 101, 110, 116, 45, 76, 101, 110, 103, 116, 104]⟩, .string ⟨#[84, 114, 97, 105, 108, 101, 114]⟩, .string a],
            fun v _ => v = .slice (some ⟨bl, off, none⟩) ln cap1,
            fun v _ => v = .int .i64 (k : Int),
            fun v _ => v = .pointer (some ⟨bl, off + k, none⟩),
            fun v _ => v = .int .u8 ((xn : Nat) : Int),
            fun v _ => v = .int .u8 ((q9 : Nat) : Int),
            fun v w => ∃ g, v = .pointer (some ⟨g, q9, none⟩) ∧ Rec.Bk w g [.string ⟨#[67, 111, 110, 110, 101, 99, 116, 105, 111, 110]⟩, .string ⟨#[88]⟩, .string ⟨#[72, 111, 115, 116]⟩, .string ⟨#[85, 112, 103, 114, 97, 100, 101]⟩, .string ⟨#[107, 101, 101, 112, 45, 97, 108, 105, 118, 101]⟩, .string ⟨#[65]⟩, .string ⟨#[67, 111, 110, 116, 101, 110, 116, 45, 76, 101, 110, 103, 116, 104]⟩, .string ⟨#[84, 114, 97, 105, 108, 101, 114]⟩, .string a],
            fun v _ => v = .string X,
            fun v _ => v = .string a,
            fun v w => ∃ g, v = .slice (some ⟨g, 0, none⟩) 6 6 ∧ Rec.Bk w g [.string ⟨#[120]⟩, .string ⟨#[97, 44, 32, 99, 108, 111, 115, 101]⟩, .string ⟨#[99, 111, 110, 116, 101, 110, 116, 45, 108, 101, 110, 103, 116, 104, 44, 32, 72, 79, 83, 84]⟩, .string ⟨#[49]⟩, .string ⟨#[]⟩, .string a],
            fun v _ => v = .slice (some ⟨bl, off, none⟩) ln cap1,
            fun v _ => v = .int .i64 (k : Int),
            fun v _ => v = .pointer (some ⟨bl, off + k, none⟩),
            fun v _ => v = .int .u8 ((xn : Nat) : Int),
            fun v _ => v = .int .u8 ((d9 : Nat) : Int),
            fun v _ => v = .int .u8 ((q6 : Nat) : Int),
            fun v w => ∃ g, v = .pointer (some ⟨g, q6, none⟩) ∧ Rec.Bk w g [.string ⟨#[120]⟩, .string ⟨#[97, 44, 32, 99, 108, 111, 115, 101]⟩, .string ⟨#[99, 111, 110, 116, 101, 110, 116, 45, 108, 101, 110, 103, 116, 104, 44, 32, 72, 79, 83, 84]⟩, .string ⟨#[49]⟩, .string ⟨#[]⟩, .string a],
            fun v _ => v = .string Y,
            fun v _ => v = .agg #[.string X, .string Y],
            fun v w => ∃ g, v = .slice (some ⟨g, 0, none⟩) 1 1 ∧ Rec.Bk w g [.string X, .string Y]]
          (.act 22 (.quiet 23 .done)) (by kernel_rfl) (by kernel_rfl) (by kernel_rfl) (by kernel_rfl) (fun _ _ d _ _ h => by cases d <;> exact h) (by rfl) (by rfl)
          ⟨Each.Lasts.eq _, Each.Lasts.eq _, ((fun _ _ _ hb h => by obtain ⟨g, rfl, hB⟩ := h; exact ⟨g, rfl, hB.below hb⟩)), Each.Lasts.eq _, Each.Lasts.eq _, Each.Lasts.eq _, Each.Lasts.eq _, Each.Lasts.eq _, ((fun _ _ _ hb h => by obtain ⟨g, rfl, hB⟩ := h; exact ⟨g, rfl, hB.below hb⟩)), Each.Lasts.eq _, Each.Lasts.eq _, ((fun _ _ _ hb h => by obtain ⟨g, rfl, hB⟩ := h; exact ⟨g, rfl, hB.below hb⟩)), Each.Lasts.eq _, Each.Lasts.eq _, Each.Lasts.eq _, Each.Lasts.eq _, Each.Lasts.eq _, Each.Lasts.eq _, ((fun _ _ _ hb h => by obtain ⟨g, rfl, hB⟩ := h; exact ⟨g, rfl, hB.below hb⟩)), Each.Lasts.eq _, Each.Lasts.eq _, ((fun _ _ _ hb h => by obtain ⟨g, rfl, hB⟩ := h; exact ⟨g, rfl, hB.below hb⟩)), trivial⟩ ?_ ?_
      · refine ⟨?_, ?_, ?_, ?_, ?_, ?_, ?_, ?_, ?_, ?_, ?_, ?_, ?_, ?_, ?_, ?_, ?_, ?_, ?_, ?_, ?_, ?_, trivial⟩
        · refine Each.fine rfl (fun ev w1 hR hb hh => ?_)
          clear hh
          have e9 := hR.old 9 rfl
          simp only [Array.getD_eq_getD_getElem?, List.getElem?_toArray, List.getElem?_cons_succ, List.getElem?_cons_zero, Option.getD_some] at e9
          refine Each.Goes.same ?_
          go_simp
          try with_reducible rfl
        · refine Each.fine rfl (fun ev w1 hR hb hh => ?_)
          clear hh
          have e2 := hR.old 2 rfl
          simp only [Array.getD_eq_getD_getElem?, List.getElem?_toArray, List.getElem?_cons_succ, List.getElem?_cons_zero, Option.getD_some] at e2
          refine Each.Goes.same ?_
          go_simp
          try with_reducible rfl
        · refine Each.fine rfl (fun ev w1 hR hb hh => ?_)
          have e41 : (ev (.tmp 41) = .string a) := hh.at 0
          clear hh
          have ec := hR.const
          exact Each.Goes.value (.slice (some ⟨w1.heap.size, 0, none⟩) 9 9) (w1.alloc (.cells #[.string ⟨#[67, 111, 110, 110, 101, 99, 116, 105, 111, 110]⟩, .string ⟨#[88]⟩, .string ⟨#[72, 111, 115, 116]⟩, .string ⟨#[85, 112, 103, 114, 97, 100, 101]⟩, .string ⟨#[107, 101, 101, 112, 45, 97, 108, 105, 118, 101]⟩, .string ⟨#[65]⟩, .string ⟨#[67, 111, 110, 116, 101, 110, 116, 45, 76, 101, 110, 103, 116, 104]⟩, .string ⟨#[84, 114, 97, 105, 108, 101, 114]⟩, .string a] 9)) (by go_simp) ((Below.refl _ _).alloc (Nat.le_refl _) _) ⟨_, rfl, Rec.Bk.new w1 _ rfl 9 [.string ⟨#[67, 111, 110, 110, 101, 99, 116, 105, 111, 110]⟩, .string ⟨#[88]⟩, .string ⟨#[72, 111, 115, 116]⟩, .string ⟨#[85, 112, 103, 114, 97, 100, 101]⟩, .string ⟨#[107, 101, 101, 112, 45, 97, 108, 105, 118, 101]⟩, .string ⟨#[65]⟩, .string ⟨#[67, 111, 110, 116, 101, 110, 116, 45, 76, 101, 110, 103, 116, 104]⟩, .string ⟨#[84, 114, 97, 105, 108, 101, 114]⟩, .string a]⟩
        · refine Each.fine rfl (fun ev w1 hR hb hh => ?_)
          clear hh
          have e1 := hR.old 1 rfl
          simp only [Array.getD_eq_getD_getElem?, List.getElem?_toArray, List.getElem?_cons_succ, List.getElem?_cons_zero, Option.getD_some] at e1
          refine Each.Goes.same ?_
          go_simp
          try with_reducible rfl
        · refine Each.fine rfl (fun ev w1 hR hb hh => ?_)
          clear hh
          have e10 := hR.old 10 rfl
          simp only [Array.getD_eq_getD_getElem?, List.getElem?_toArray, List.getElem?_cons_succ, List.getElem?_cons_zero, Option.getD_some] at e10
          refine Each.Goes.same ?_
          go_simp
          try with_reducible rfl
        · refine Each.fine rfl (fun ev w1 hR hb hh => ?_)
          have e43 : (ev (.tmp 43) = .slice (some ⟨bl, off, none⟩) ln cap1) := hh.at 0
          have e44 : (ev (.tmp 44) = .int .i64 (k : Int)) := hh.at 1
          clear hh
          have h01 : (0 : Int) ≤ (k : Int) := by omega
          have t1 := T1.out
          refine Each.Goes.same ?_
          go_simp
          all_goals (try with_reducible rfl)
        · refine Each.fine rfl (fun ev w1 hR hb hh => ?_)
          have e45 : (ev (.tmp 45) = .pointer (some ⟨bl, off + k, none⟩)) := hh.at 0
          clear hh
          have qc := (hb.cell (p := ⟨bl, off + k, none⟩) HBL.out).trans HCQ.out
          refine Each.Goes.same ?_
          go_simp
          try with_reducible rfl
        · refine Each.fine rfl (fun ev w1 hR hb hh => ?_)
          have e46 : (ev (.tmp 46) = .int .u8 ((xn : Nat) : Int)) := hh.at 0
          clear hh
          have ec := hR.const
          have g1 := Rq9.out
          refine Each.Goes.same ?_
          go_simp
          try with_reducible rfl
        · refine Each.fine rfl (fun ev w1 hR hb hh => ?_)
          have e42 : ((fun v w => ∃ g, v = .slice (some ⟨g, 0, none⟩) 9 9 ∧ Rec.Bk w g [.string ⟨#[67, 111, 110, 110, 101, 99, 116, 105, 111, 110]⟩, .string ⟨#[88]⟩, .string ⟨#[72, 111, 115, 116]⟩, .string ⟨#[85, 112, 103, 114, 97, 100, 101]⟩, .string ⟨#[107, 101, 101, 112, 45, 97, 108, 105, 118, 101]⟩, .string ⟨#[65]⟩, .string ⟨#[67, 111, 110, 116, 101, 110, 116, 45, 76, 101, 110, 103, 116, 104]⟩, .string ⟨#[84, 114, 97, 105, 108, 101, 114]⟩, .string a]) (ev (.tmp 42)) w1) := hh.at 0
          have e47 : (ev (.tmp 47) = .int .u8 ((q9 : Nat) : Int)) := hh.at 1
          clear hh
          obtain ⟨ga, ea, hB⟩ := e42
          have hi1 := Hq9.out.1; have hi2 := Hq9.out.2; have hi3 : (0 : Int) ≤ (q9 : Int) := by omega
          exact Each.Goes.value (.pointer (some ⟨ga, q9, none⟩)) w1 (by go_simp) (Below.refl _ _) ⟨ga, rfl, hB⟩
        · refine Each.fine rfl (fun ev w1 hR hb hh => ?_)
          have e48 : ((fun v w => ∃ g, v = .pointer (some ⟨g, q9, none⟩) ∧ Rec.Bk w g [.string ⟨#[67, 111, 110, 110, 101, 99, 116, 105, 111, 110]⟩, .string ⟨#[88]⟩, .string ⟨#[72, 111, 115, 116]⟩, .string ⟨#[85, 112, 103, 114, 97, 100, 101]⟩, .string ⟨#[107, 101, 101, 112, 45, 97, 108, 105, 118, 101]⟩, .string ⟨#[65]⟩, .string ⟨#[67, 111, 110, 116, 101, 110, 116, 45, 76, 101, 110, 103, 116, 104]⟩, .string ⟨#[84, 114, 97, 105, 108, 101, 114]⟩, .string a]) (ev (.tmp 48)) w1) := hh.at 0
          clear hh
          obtain ⟨ga, ea, hB⟩ := e48
          have q0 := hB.c q9 _ HX.out
          refine Each.Goes.same ?_
          go_simp
          try with_reducible rfl
        · refine Each.fine rfl (fun ev w1 hR hb hh => ?_)
          clear hh
          have e2 := hR.old 2 rfl
          simp only [Array.getD_eq_getD_getElem?, List.getElem?_toArray, List.getElem?_cons_succ, List.getElem?_cons_zero, Option.getD_some] at e2
          refine Each.Goes.same ?_
          go_simp
          try with_reducible rfl
        · refine Each.fine rfl (fun ev w1 hR hb hh => ?_)
          have e50 : (ev (.tmp 50) = .string a) := hh.at 0
          clear hh
          have ec := hR.const
          exact Each.Goes.value (.slice (some ⟨w1.heap.size, 0, none⟩) 6 6) (w1.alloc (.cells #[.string ⟨#[120]⟩, .string ⟨#[97, 44, 32, 99, 108, 111, 115, 101]⟩, .string ⟨#[99, 111, 110, 116, 101, 110, 116, 45, 108, 101, 110, 103, 116, 104, 44, 32, 72, 79, 83, 84]⟩, .string ⟨#[49]⟩, .string ⟨#[]⟩, .string a] 9)) (by go_simp) ((Below.refl _ _).alloc (Nat.le_refl _) _) ⟨_, rfl, Rec.Bk.new w1 _ rfl 9 [.string ⟨#[120]⟩, .string ⟨#[97, 44, 32, 99, 108, 111, 115, 101]⟩, .string ⟨#[99, 111, 110, 116, 101, 110, 116, 45, 108, 101, 110, 103, 116, 104, 44, 32, 72, 79, 83, 84]⟩, .string ⟨#[49]⟩, .string ⟨#[]⟩, .string a]⟩
        · refine Each.fine rfl (fun ev w1 hR hb hh => ?_)
          clear hh
          have e1 := hR.old 1 rfl
          simp only [Array.getD_eq_getD_getElem?, List.getElem?_toArray, List.getElem?_cons_succ, List.getElem?_cons_zero, Option.getD_some] at e1
          refine Each.Goes.same ?_
          go_simp
          try with_reducible rfl
        · refine Each.fine rfl (fun ev w1 hR hb hh => ?_)
          clear hh
          have e10 := hR.old 10 rfl
          simp only [Array.getD_eq_getD_getElem?, List.getElem?_toArray, List.getElem?_cons_succ, List.getElem?_cons_zero, Option.getD_some] at e10
          refine Each.Goes.same ?_
          go_simp
          try with_reducible rfl
        · refine Each.fine rfl (fun ev w1 hR hb hh => ?_)
          have e52 : (ev (.tmp 52) = .slice (some ⟨bl, off, none⟩) ln cap1) := hh.at 0
          have e53 : (ev (.tmp 53) = .int .i64 (k : Int)) := hh.at 1
          clear hh
          have h01 : (0 : Int) ≤ (k : Int) := by omega
          have t1 := T1.out
          refine Each.Goes.same ?_
          go_simp
          all_goals (try with_reducible rfl)
        · refine Each.fine rfl (fun ev w1 hR hb hh => ?_)
          have e54 : (ev (.tmp 54) = .pointer (some ⟨bl, off + k, none⟩)) := hh.at 0
          clear hh
          have qc := (hb.cell (p := ⟨bl, off + k, none⟩) HBL.out).trans HCQ.out
          refine Each.Goes.same ?_
          go_simp
          try with_reducible rfl
        · refine Each.fine rfl (fun ev w1 hR hb hh => ?_)
          have e55 : (ev (.tmp 55) = .int .u8 ((xn : Nat) : Int)) := hh.at 0
          clear hh
          have ec := hR.const
          obtain ⟨g1, g2⟩ := Rd9.out
          refine Each.Goes.same ?_
          go_simp
          rw [IntKind.wrap_u8]
          exact g2
        · refine Each.fine rfl (fun ev w1 hR hb hh => ?_)
          have e56 : (ev (.tmp 56) = .int .u8 ((d9 : Nat) : Int)) := hh.at 0
          clear hh
          have ec := hR.const
          have g1 := Rq6.out
          refine Each.Goes.same ?_
          go_simp
          try with_reducible rfl
        · refine Each.fine rfl (fun ev w1 hR hb hh => ?_)
          have e51 : ((fun v w => ∃ g, v = .slice (some ⟨g, 0, none⟩) 6 6 ∧ Rec.Bk w g [.string ⟨#[120]⟩, .string ⟨#[97, 44, 32, 99, 108, 111, 115, 101]⟩, .string ⟨#[99, 111, 110, 116, 101, 110, 116, 45, 108, 101, 110, 103, 116, 104, 44, 32, 72, 79, 83, 84]⟩, .string ⟨#[49]⟩, .string ⟨#[]⟩, .string a]) (ev (.tmp 51)) w1) := hh.at 0
          have e57 : (ev (.tmp 57) = .int .u8 ((q6 : Nat) : Int)) := hh.at 1
          clear hh
          obtain ⟨ga, ea, hB⟩ := e51
          have hi1 := Hq6.out.1; have hi2 := Hq6.out.2; have hi3 : (0 : Int) ≤ (q6 : Int) := by omega
          exact Each.Goes.value (.pointer (some ⟨ga, q6, none⟩)) w1 (by go_simp) (Below.refl _ _) ⟨ga, rfl, hB⟩
        · refine Each.fine rfl (fun ev w1 hR hb hh => ?_)
          have e58 : ((fun v w => ∃ g, v = .pointer (some ⟨g, q6, none⟩) ∧ Rec.Bk w g [.string ⟨#[120]⟩, .string ⟨#[97, 44, 32, 99, 108, 111, 115, 101]⟩, .string ⟨#[99, 111, 110, 116, 101, 110, 116, 45, 108, 101, 110, 103, 116, 104, 44, 32, 72, 79, 83, 84]⟩, .string ⟨#[49]⟩, .string ⟨#[]⟩, .string a]) (ev (.tmp 58)) w1) := hh.at 0
          clear hh
          obtain ⟨ga, ea, hB⟩ := e58
          have q0 := hB.c q6 _ HY.out
          refine Each.Goes.same ?_
          go_simp
          try with_reducible rfl
        · refine Each.fine rfl (fun ev w1 hR hb hh => ?_)
          have e49 : (ev (.tmp 49) = .string X) := hh.at 0
          have e59 : (ev (.tmp 59) = .string Y) := hh.at 1
          clear hh
          refine Each.Goes.same ?_
          go_simp
          try with_reducible rfl
        · refine Each.fine rfl (fun ev w1 hR hb hh => ?_)
          have e60 : (ev (.tmp 60) = .agg #[.string X, .string Y]) := hh.at 0
          clear hh
          exact Each.Goes.value (.slice (some ⟨w1.heap.size, 0, none⟩) 1 1) (w1.alloc (.cells #[.string X, .string Y] 28)) (by go_simp) ((Below.refl _ _).alloc (Nat.le_refl _) _) ⟨_, rfl, Rec.Bk.new w1 _ rfl 28 [.string X, .string Y]⟩
      intro g1 w2 hb hf
      have z40 : (g1 40 = .slice bx (n0 + k) cx) := hf.at 0
      have z61 : ((fun v w => ∃ g, v = .slice (some ⟨g, 0, none⟩) 1 1 ∧ Rec.Bk w g [.string X, .string Y]) (g1 61) w2) := hf.at 21
      clear hf
      simp only [Each.putg, Act.put, List.setIfInBounds_toArray, List.set_cons_zero, List.set_cons_succ]
      obtain ⟨gl, el, hBl⟩ := z61
      rw [z40, el]
      simp only [Tree.grow, Tree.put1, List.getElem?_cons_zero, List.getElem?_cons_succ]
      obtain ⟨v', w3, hrun, ho, hgr, -⟩ := App.run_append_list w2 22 22 w.heap.size 28 i0 (.agg #[.string ByteArray.empty, .string ByteArray.empty]) 2 32 Tryd.underlying22 G1.out G2.out G3.out G4.out rfl (by decide) (.slice bx (n0 + k) cx) (n0 + k) _ (own_below HO.out hb) (some ⟨gl, 0, none⟩) 1 1 [.string X, .string Y] rfl (fun _ => ⟨gl, 0, rfl, fun j u hu => by rw [Nat.zero_add]; exact hBl.c j u hu⟩) (by intro u hu; rcases (by simpa using hu : u = .string X ∨ u = .string Y) with rfl | rfl <;> rfl) (by unfold maxLen; omega) (by omega) (Nat.le_trans HB.out.size hb.size)
      have HO3 : Hid (w3.ownsRow w.heap.size 28 2 v' (n0 + (k + 1)) (cells (fs ++ mades a (bs.take (k + 1))))) := Lib.hid (by rw [HSN.out, ← List.append_assoc, cells_append]; exact ho)
      have HB3 := Lib.hid ((Base.below_step HB.out hb).grown hgr (Nat.le_trans HB.out.size hb.size) (fun q e => (World.ownsRow.lt HO.out q e).1))
      refine Tree.change (by rfl) (fun K hK => ?_)
      refine oper_append _ _ _ rfl (by rfl) (by rfl) hrun ?_
      refine hK _ _ trivial ?_
      clear hK K hrun hgr ho hb hBl
      refine Tree.assign _ (by rfl) (by rfl) ?_
      simp only [Act.put, Act.eval, Array.getD_eq_getD_getElem?, List.getElem?_toArray, List.getElem?_cons_zero, List.getElem?_cons_succ, Option.getD_some, List.setIfInBounds_toArray, List.set_cons_zero, List.set_cons_succ]
      refine Tree.done ?_
      have e1 : wrap64 ((k : Int) + 1) = (k : Int) + 1 := by unfold wrap64; omega
      go_wp2_with fail
      clear e1
      go_roundw
      case rel => exact ⟨k + 1, by omega, by go_num, HO3, HB3⟩
      case measure => simp [intOf]; omega
    · obtain rfl : k = ln := by omega
      have hO := HO.out
      rw [List.take_of_length_le (by rw [HLB.out]; exact Nat.le_refl _)] at hO
      have hsz : ∀ f ∈ fs ++ mades a bs, f.1.size ≤ 120 ∧ f.2.size ≤ 120 := by
        intro f hf
        rcases List.mem_append.1 hf with h | h
        · have := HFS.out f h; omega
        · unfold mades at h
          obtain ⟨c, _, rfl⟩ := List.mem_map.1 h
          exact made_size a HA.out _
      obtain ⟨N, hN⟩ : ∃ N, n0 + k = N := ⟨_, rfl⟩
      obtain ⟨X, hX⟩ : ∃ X, fs ++ mades a bs = X := ⟨_, rfl⟩
      rw [hN, hX] at hO
      rw [hX] at hsz
      rw [hN]
      obtain ⟨aX, cX, eX, hXf⟩ := Flds.of_own hO
      simp only [Value.slice.injEq, true_and] at eX
      obtain ⟨rfl, rfl⟩ := eX
      have hN36 : N ≤ 36 := by omega
      have hXl := hXf.1
      have hr : room (find X conN) ≤ 900000000 := by
        have := room_find X conN 120 (fun f hf => (hsz f hf).2)
        have : X.length * 121 ≤ 36 * 121 := Nat.mul_le_mul_right _ (by omega)
        omega
      have hr2 : room (find (strip X) conN) ≤ 900000000 := by rw [find_strip]; decide
      have hSl := strip_le X
      have HST := Lib.hid (fun (w' : World) (b : Option Addr) (c : Nat) (h : Flds w' b N X) => (strip_any b N c X w' h (by omega) (fun f hf => by have := (hsz f hf).1; omega) hr).mono (R' := fun e w2 => ∃ d c, e = .returned (.slice d (strip X).length c) ∧ Flds w2 d (strip X).length (strip X) ∧ Below w'.heap.size w' w2) (by rintro e w2 ⟨d, c, h1, h2, h3, -⟩; exact ⟨d, c, h1, h2, h3⟩))
      have HRST := Lib.hid (fun (w' : World) (b : Option Addr) (c : Nat) (h : Flds w' b N X) => (rstrip_any b N c X w' h (by omega) (fun f hf => by have := (hsz f hf).1; omega) hr).mono (R' := fun e w2 => ∃ d c, e = .returned (.slice d (strip X).length c) ∧ Flds w2 d (strip X).length (strip X) ∧ Below w'.heap.size w' w2) (by rintro e w2 ⟨d, c, h1, h2, h3, -⟩; exact ⟨d, c, h1, h2, h3⟩))
      have HST2 := Lib.hid (fun (w' : World) (b : Option Addr) (c : Nat) (h : Flds w' b (strip X).length (strip X)) => (strip_any b _ c (strip X) w' h (by omega) (fun f hf => by have := (hsz f (strip_mem hf)).1; omega) hr2).mono (R' := fun e w2 => ∃ d c, e = .returned (.slice d (strip X).length c) ∧ Flds w2 d (strip X).length (strip X) ∧ Below w'.heap.size w' w2) (by rintro e w2 ⟨d, c, h1, h2, h3, -⟩; rw [strip_strip] at h1 h2; exact ⟨d, c, h1, h2, h3⟩))
      have HVI := Lib.hid (fun (w' : World) (b : Option Addr) (c : Nat) (h : Flds w' b N X) => (via_any b N c X a w' h (by omega) (by have := HA.out; omega)).mono (R' := fun e w2 => ∃ d c, e = .returned (.slice d (N + 1) c) ∧ Flds w2 d (N + 1) (via X a) ∧ Below w'.heap.size w' w2) (by rintro e w2 ⟨d, c, h1, h2, h3, -⟩; exact ⟨d, c, h1, h2, h3⟩))
      have HRVI := Lib.hid (fun (w' : World) (b : Option Addr) (c : Nat) (h : Flds w' b N X) => rvia_any b N c X a w' h (by omega) (by have := HA.out; omega))
      have HFR := Lib.hid (fun (w' : World) (b2 : Option Addr) (c : Nat) (h : Flds w' b2 N X) => (from_any b2 N c X b w' h (by omega)).mono (R' := fun e w2 => ∃ d c, e = .returned (.slice d (N + 1) c) ∧ Flds w2 d (N + 1) (fro X b) ∧ Below w'.heap.size w' w2) (by rintro e w2 ⟨d, c, h1, h2, h3, -⟩; exact ⟨d, c, h1, h2, h3⟩))
      have HRFR := Lib.hid (fun (w' : World) (b2 : Option Addr) (c : Nat) (h : Flds w' b2 N X) => rfrom_any b2 N c X b w' h (by omega))
      have HEQ : Hid (∀ (w' : World) (d : Option Addr) (c : Nat) (d2 : Option Addr) (c2 n : Nat) (Z : List Fld), Flds w' d n Z → Flds w' d2 n Z → n ≤ 100 → Calls Tryd.prog 9 #[.slice d n c, .slice d2 n c2] w' fun e w2 => e = .returned (.bool true) ∧ ∃ q, w2 = w'.drewN q) := Lib.hid fun w' d c d2 c2 n Z h1 h2 h3 => by
        have := rfields_any d n c Z d2 n c2 Z w' h1 h2 (by omega) (by omega)
        rwa [decide_eq_true rfl] at this
      have HES : Hid (∀ (w' : World) (d : Option Addr) (c : Nat) (d2 : Option Addr) (c2 : Nat), Strs w' d 9 names → Strs w' d2 9 names → Calls Tryd.prog 15 #[.slice d 9 c, .slice d2 9 c2] w' fun e w2 => e = .returned (.bool true) ∧ ∃ q, w2 = w'.drewN q) := Lib.hid fun w' d c d2 c2 h1 h2 => by
        have := rstrings_any d 9 c names d2 9 c2 names w' h1 h2 (by decide) (by decide)
        rwa [decide_eq_true rfl] at this
      have HXz := Lib.hid hXf
      have HBz := HB
      have hS36 : (strip X).length ≤ 36 := by omega
      have t1 : ¬ (k : Int) < (k : Int) := by omega
      clear hXf hO HO hX hsz hr hr2 hSl hXl HFS
      generalize strip X = S at *
      generalize via X a = VX at *
      generalize fro X b = FX at *
      go_wp2_with (first
        | (go_at_call 9; with_reducible refine (HEQ.out _ _ _ _ _ _ _ HFm.out HSm.out (by omega)).mono ?_; rintro e wn ⟨rfl, mn, rfl⟩
           have HBn := Lib.hid (Base.below_drewN HBm.out mn))
        | (go_at_call 8; with_reducible refine (HST2.out _ _ _ HSl.out).mono ?_; rintro e wm ⟨dm, cm, rfl, hFm, hbm⟩
           have HFm := Lib.hid hFm
           have HSm := Lib.hid (HSl.out.below hbm); have HBm := Lib.hid (Base.below_step HBl.out hbm)
           clear hFm hbm)
        | (go_at_call 15; with_reducible refine (HES.out _ _ _ _ _ HJk.out HKk.out).mono ?_; rintro e wl ⟨rfl, ml, rfl⟩
           have hbl9 := Base.below_drewN (Below.refl wk.heap.size wk) ml
           have HBl := Lib.hid (Base.below_step HBk.out hbl9); have HSl := Lib.hid (HSk.out.below hbl9)
           clear hbl9)
        | (go_at_call 17; with_reducible refine (rnames_any _).mono ?_; rintro e wk ⟨rfl, hk2, hbk, -⟩
           obtain ⟨ak, ck, ek, hSk⟩ := Strs.of_own hk2
           have HKk := Lib.hid hSk
           have HJk := Lib.hid (HJj.out.below hbk); have HBk := Lib.hid (Base.below_step HBj.out hbk); have HSk := Lib.hid (HSj.out.below hbk)
           simp only [Value.slice.injEq, true_and] at ek
           obtain ⟨rfl, rfl⟩ := ek
           clear hk2 hbk hSk)
        | (go_at_call 16; with_reducible refine (names_any _).mono ?_; rintro e wj ⟨rfl, hj, hbj, -⟩
           obtain ⟨aj, cj, ej, hSj⟩ := Strs.of_own hj
           have HBj := Lib.hid (Base.below_step HBi.out hbj); have HSj := Lib.hid (HSi.out.below hbj)
           simp only [Value.slice.injEq, true_and] at ej
           obtain ⟨rfl, rfl⟩ := ej
           have HJj : Hid (Strs wj (some ⟨wh.heap.size, 0, none⟩) 9 names) := Lib.hid hSj
           clear hj hbj hSj)
        | (go_at_call 9; with_reducible refine (HEQ.out _ _ _ _ _ _ _ HGh.out HFh.out (by omega)).mono ?_; rintro e wi ⟨rfl, mi, rfl⟩
           have hbi := Base.below_drewN (Below.refl wh.heap.size wh) mi
           have HXi := Lib.hid (HXh.out.below hbi); have HBi := Lib.hid (Base.below_step HBh.out hbi); have HSi := Lib.hid (HSh.out.below hbi)
           clear hbi)
        | (go_at_call 14; with_reducible refine (HRFR.out _ _ _ HXg.out).mono ?_; rintro e wh ⟨dh, ch, rfl, hFh, hbh⟩
           have HFh := Lib.hid hFh
           have HXh := Lib.hid (HXg.out.below hbh); have HBh := Lib.hid (Base.below_step HBg.out hbh); have HSh := Lib.hid (HSg.out.below hbh)
           have HGh := Lib.hid (HFg.out.below hbh)
           clear hFh hbh)
        | (go_at_call 13; with_reducible refine (HFR.out _ _ _ HXf.out).mono ?_; rintro e wg ⟨dg, cg, rfl, hFg, hbg⟩
           have HFg := Lib.hid hFg
           have HXg := Lib.hid (HXf.out.below hbg); have HBg := Lib.hid (Base.below_step HBf.out hbg); have HSg := Lib.hid (HSf.out.below hbg)
           clear hFg hbg)
        | (go_at_call 9; with_reducible refine (HEQ.out _ _ _ _ _ _ _ HGe.out HFe.out (by omega)).mono ?_; rintro e wf ⟨rfl, mf, rfl⟩
           have hbf := Base.below_drewN (Below.refl we.heap.size we) mf
           have HXf := Lib.hid (HXe.out.below hbf); have HBf := Lib.hid (Base.below_step HBe.out hbf); have HSf := Lib.hid (HSe.out.below hbf)
           clear hbf)
        | (go_at_call 12; with_reducible refine (HRVI.out _ _ _ HXd.out).mono ?_; rintro e we ⟨de, ce, rfl, hFe, hbe⟩
           have HFe := Lib.hid hFe
           have HXe := Lib.hid (HXd.out.below hbe); have HBe := Lib.hid (Base.below_step HBd.out hbe); have HSe := Lib.hid (HSd.out.below hbe)
           have HGe := Lib.hid (HFd.out.below hbe)
           clear hFe hbe)
        | (go_at_call 11; with_reducible refine (HVI.out _ _ _ HXc.out).mono ?_; rintro e wd ⟨dd, cd, rfl, hFd, hbd⟩
           have HFd := Lib.hid hFd
           have HXd := Lib.hid (HXc.out.below hbd); have HBd := Lib.hid (Base.below_step HBc.out hbd); have HSd := Lib.hid (HSc.out.below hbd)
           clear hFd hbd)
        | (go_at_call 9; with_reducible refine (HEQ.out _ _ _ _ _ _ _ HSb.out HFb.out (by omega)).mono ?_; rintro e wc ⟨rfl, mc, rfl⟩
           have hbc := Base.below_drewN (Below.refl wb.heap.size wb) mc
           have HXc := Lib.hid (HXb.out.below hbc); have HBc := Lib.hid (Base.below_step HBb.out hbc); have HSc := Lib.hid (HSb.out.below hbc)
           clear hbc)
        | (go_at_call 10; with_reducible refine (HRST.out _ _ _ HXa.out).mono ?_; rintro e wb ⟨db, cb, rfl, hFb, hbb⟩
           have HFb := Lib.hid hFb
           have HXb := Lib.hid (HXa.out.below hbb); have HBb := Lib.hid (Base.below_step HBa.out hbb); have HSb := Lib.hid (HSa.out.below hbb)
           clear hFb hbb)
        | (go_at_call 8; with_reducible refine (HST.out _ _ _ HXz.out).mono ?_; rintro e wa ⟨da, ca, rfl, hFa, hba⟩
           have HSa := Lib.hid hFa
           have HXa := Lib.hid (HXz.out.below hba); have HBa := Lib.hid (Base.below_step HBz.out hba)
           clear hFa hba))
      go_ret
      exact ⟨rfl, HBn.out⟩
end code
end Go.Proofs.YtoackhbkngfhkaaDoor.Hop
