/-
  The statement on records (RecordTells): whether records are alike, how long they are, and what they want. (Its drawn regions are printed by tools/gen_tells.py.)
-/
import Derived.Test.YtechehbegiinpaaDoorRecNeat
import Derived.Test.YtechehbegiinpaaDoorRecKnown
import Derived.Test.YtechehbegiinpaaDoorRecCopy
namespace Go.Proofs.YtechehbegiinpaaDoor.Rec
open Go.RowKit Base Txt

section run
variable {P : Program} {o : Oper}
/-- An append, run as an operation. -/
theorem exec_append {ev : Operand → Value} {w w' : World} {v u v' : Value} (s x : Operand) (t : TypeId) (ho : o.op = .call { callee := .builtin .append, args := #[s, x], argTypes := #[t, t] }) (hs : ev s = v) (hx : ev x = u)
    (hr : (Builtin.append_ #[t, t] o.type #[v, u]).run P w = .ok v' w') : (execOp ev o).run P w = .ok (.value v') w' := by
  unfold execOp
  simp only [ho, resolve, invoke, builtin, Sem.run_bind, Sem.run_pure, Result.andThen_ok, List.map_toArray, List.map_cons, List.map_nil, hs, hx, hr]
theorem oper_append {a : Act} {w w' : World} {K : Act → World → Prop} {Q : Exit → Act → World → Prop} {v u v' : Value} (s x : Operand) (t : TypeId) (ho : o.op = .call { callee := .builtin .append, args := #[s, x], argTypes := #[t, t] }) (hs : a.eval s = v) (hx : a.eval x = u)
    (hr : (Builtin.append_ #[t, t] o.type #[v, u]).run P w = .ok v' w') (h : K (a.put o.dst v') w') : o.wp P a w K Q := by
  unfold Oper.wp
  rw [exec_append s x t ho hs hx hr, Oper.upon_value]
  exact h
end run
theorem Recs.two {w : World} {g : Nat} {c1 c2 : Array Value} {r1 r2 : R} (hB : Bk w g (c1.toList ++ c2.toList)) (h1 : Reads w (.agg c1) r1) (h2 : Reads w (.agg c2) r2) : Recs w (some ⟨g, 0, none⟩) 2 [r1, r2] :=
  Recs.lit [(c1, r1), (c2, r2)] (by simpa using hB) (by
    intro p hp
    rcases (by simpa using hp : p = (c1, r1) ∨ p = (c2, r2)) with rfl | rfl
    · exact h1
    · exact h2)
theorem Recs.four {w : World} {g : Nat} {c1 c2 c3 c4 : Array Value} {r1 r2 r3 r4 : R} (hB : Bk w g (c1.toList ++ (c2.toList ++ (c3.toList ++ c4.toList)))) (h1 : Reads w (.agg c1) r1) (h2 : Reads w (.agg c2) r2) (h3 : Reads w (.agg c3) r3) (h4 : Reads w (.agg c4) r4) :
    Recs w (some ⟨g, 0, none⟩) 4 [r1, r2, r3, r4] :=
  Recs.lit [(c1, r1), (c2, r2), (c3, r3), (c4, r4)] (by simpa using hB) (by
    intro p hp
    rcases (by simpa using hp : p = (c1, r1) ∨ p = (c2, r2) ∨ p = (c3, r3) ∨ p = (c4, r4)) with rfl | rfl | rfl | rfl
    · exact h1
    · exact h2
    · exact h3
    · exact h4)
theorem Recs.first {w : World} {g : Nat} {r1 r2 : R} (h : Recs w (some ⟨g, 0, none⟩) 2 [r1, r2]) : Recs w (some ⟨g, 0, none⟩) 1 [r1] := by
  refine ⟨rfl, fun _ => ?_⟩
  obtain ⟨b, off, e, hlt, hc⟩ := h.2 (by decide)
  refine ⟨b, off, e, hlt, fun k hk => ?_⟩
  obtain rfl : k = 0 := by omega
  exact hc 0 (by decide)
theorem Reads.parts {w : World} {fa : Option Addr} {fc : Nat} {ba : Option Addr} {bc : Nat} {ta : Option Addr} {tc : Nat} {r : R} (h : Reads w (.agg #[.string r.m, .string r.x, .int .i64 r.k, .slice fa r.fs.length fc, .bool r.ch, .slice ba r.body.length bc, .slice ta r.ts.length tc]) r) :
    Flds w fa r.fs.length r.fs ∧ Nums .u8 w ba r.body.length (nums r.body) ∧ Flds w ta r.ts.length r.ts := by
  obtain ⟨fa', fc', ba', bc', ta', tc', e, h1, h2, h3⟩ := h
  simp only [Value.agg.injEq, Array.mk.injEq, List.cons.injEq, Value.slice.injEq, and_true, true_and] at e
  obtain ⟨⟨rfl, rfl⟩, ⟨rfl, rfl⟩, rfl, rfl⟩ := e
  exact ⟨h1, h2, h3⟩
theorem Reads.of {w : World} {fa : Option Addr} {fc : Nat} {ba : Option Addr} {bc : Nat} {ta : Option Addr} {tc : Nat} {r : R} (h1 : Flds w fa r.fs.length r.fs) (h2 : Nums .u8 w ba r.body.length (nums r.body)) (h3 : Flds w ta r.ts.length r.ts) :
    Reads w (.agg #[.string r.m, .string r.x, .int .i64 r.k, .slice fa r.fs.length fc, .bool r.ch, .slice ba r.body.length bc, .slice ta r.ts.length tc]) r := ⟨_, _, _, _, _, _, rfl, h1, h2, h3⟩
theorem bent_small_fit (q : Nat) (s : ByteArray) (r : R) (h : Small r) (hs : s.size ≤ 1000) : Fit (bent q s r) := bent_fit q s r h hs

section code
set_option maxHeartbeats 8000000
set_option maxRecDepth 20000
attribute [local go_sem] Base.some_undef
theorem recordTells_law (V : Value) (raw : R) (a1 : Option Addr) (l1 c1 : Nat) (n1 : List Int) (a2 : Int) (a3 : ByteArray) (a4 : Bool) (W : World) (h0 : Reads W V raw) (hc : Came raw) (i1 : Nums .u8 W a1 l1 n1) (b2 : 0 ≤ a2 ∧ a2 ≤ 255) :
    Calls Tryd.prog 3 #[V, .slice a1 l1 c1, .int .u8 a2, .string a3, .bool a4] W fun e w' => e = .returned (.bool true) ∧ Below W.heap.size W w' := by
  have HK := Lib.hid (fun w => known_any w)
  have HRw := Lib.hid h0
  have HOK := Lib.hid (fun w2 (h : Reads w2 V raw) => recordOk_any V raw w2 h hc)
  obtain ⟨far, fcr, bar, bcr, tar, tcr, rfl, -, -, -⟩ := h0
  have HB0 := Lib.hid ((Below.refl W.heap.size W).alloc (Nat.le_refl _) (.cells #[.string raw.m, .string raw.x, .int .i64 raw.k, .slice far raw.fs.length fcr, .bool raw.ch, .slice bar raw.body.length bcr, .slice tar raw.ts.length tcr] 25))
  have HKr0 := Lib.hid (Bk.new W W.heap.size rfl 25 [.string raw.m, .string raw.x, .int .i64 raw.k, .slice far raw.fs.length fcr, .bool raw.ch, .slice bar raw.body.length bcr, .slice tar raw.ts.length tcr])
  have HB2 := Lib.hid b2
  clear hc b2
  rcases (by cases recordOk raw <;> simp : recordOk raw = false ∨ recordOk raw = true) with hok | hok
  · rw [hok] at HOK
    clear i1
    go_enter Tryd.func3, Tryd.ntmps3
    go_wp2_with (first
      | (go_at_call 7; with_reducible refine (HOK.out _ (HRw.out.below HB1.out)).mono ?_; rintro e w3 ⟨rfl, hb3⟩
         have HB3 := Lib.hid (Base.below_step HB1.out hb3)
         clear hb3)
      | (go_at_call 6; with_reducible refine (HK.out _).mono ?_; rintro e w1 ⟨rfl, hb1⟩
         have HB1 := Lib.hid (Base.below_step HB0.out hb1); have HKr1 := Lib.hid (HKr0.out.below hb1)
         have q0 := HKr1.out.c 0 _ rfl; have q1 := HKr1.out.c 1 _ rfl; have q2 := HKr1.out.c 2 _ rfl; have q3 := HKr1.out.c 3 _ rfl; have q4 := HKr1.out.c 4 _ rfl; have q5 := HKr1.out.c 5 _ rfl; have q6 := HKr1.out.c 6 _ rfl
         clear hb1))
    go_ret
    exact ⟨rfl, HB3.out⟩
  · have HSw := Lib.hid (recordOk_small raw hok)
    rw [hok] at HOK
    rcases Nat.lt_or_ge 12 l1 with hl | hl
    · have t0 : (12 : Int) < (l1 : Int) := by omega
      clear i1 hl
      go_enter Tryd.func3, Tryd.ntmps3
      go_wp2_with (first
        | (go_at_call 7; with_reducible refine (HOK.out _ (HRw.out.below HB1.out)).mono ?_; rintro e w3 ⟨rfl, hb3⟩
           have HB3 := Lib.hid (Base.below_step HB1.out hb3)
           clear hb3)
        | (go_at_call 6; with_reducible refine (HK.out _).mono ?_; rintro e w1 ⟨rfl, hb1⟩
           have HB1 := Lib.hid (Base.below_step HB0.out hb1); have HKr1 := Lib.hid (HKr0.out.below hb1)
           have q0 := HKr1.out.c 0 _ rfl; have q1 := HKr1.out.c 1 _ rfl; have q2 := HKr1.out.c 2 _ rfl; have q3 := HKr1.out.c 3 _ rfl; have q4 := HKr1.out.c 4 _ rfl; have q5 := HKr1.out.c 5 _ rfl; have q6 := HKr1.out.c 6 _ rfl
           clear hb1))
      go_ret
      exact ⟨rfl, HB3.out⟩
    · have t0 : ¬ (12 : Int) < (l1 : Int) := by omega
      clear hl
      rcases Nat.lt_or_ge 40 a3.size with hs | hs
      · have t1 : (40 : Int) < (a3.size : Int) := by omega
        clear i1 hs
        go_enter Tryd.func3, Tryd.ntmps3
        go_wp2_with (first
          | (go_at_call 7; with_reducible refine (HOK.out _ (HRw.out.below HB1.out)).mono ?_; rintro e w3 ⟨rfl, hb3⟩
             have HB3 := Lib.hid (Base.below_step HB1.out hb3)
             clear hb3)
          | (go_at_call 6; with_reducible refine (HK.out _).mono ?_; rintro e w1 ⟨rfl, hb1⟩
             have HB1 := Lib.hid (Base.below_step HB0.out hb1); have HKr1 := Lib.hid (HKr0.out.below hb1)
             have q0 := HKr1.out.c 0 _ rfl; have q1 := HKr1.out.c 1 _ rfl; have q2 := HKr1.out.c 2 _ rfl; have q3 := HKr1.out.c 3 _ rfl; have q4 := HKr1.out.c 4 _ rfl; have q5 := HKr1.out.c 5 _ rfl; have q6 := HKr1.out.c 6 _ rfl
             clear hb1))
        go_ret
        exact ⟨rfl, HB3.out⟩
      · have t1 : ¬ (40 : Int) < (a3.size : Int) := by omega
        have HS := Lib.hid hs
        have HN := Lib.hid (fun w2 (hb : Below W.heap.size W w2) => neat_any a1 l1 c1 n1 w2 (i1.below hb))
        clear i1 hs
        go_enter Tryd.func3, Tryd.ntmps3
        go_upto_region 6 with (first
          | (go_at_call 8; with_reducible refine (HN.out _ HB3.out).mono ?_; rintro e w4 ⟨V', r0, rfl, hR, hk, hs, hl0, hl3, hb4⟩
             have HR4 := Lib.hid hR
             obtain ⟨fax, fcx, bax, bcx, tax, tcx, rfl, -, -, -⟩ := hR
             have HB4 := Lib.hid (Base.below_step HB3.out hb4); have HS0 := Lib.hid hs; have HL3 := Lib.hid hl3
             have HKr := Lib.hid (HKr3.out.below hb4)
             clear hk hs hl0 hl3 hb4 q0 q1 q2 q3 q4 q5 q6)
          | (go_at_call 7; with_reducible refine (HOK.out _ (HRw.out.below HB1.out)).mono ?_; rintro e w3 ⟨rfl, hb3⟩
             have HB3 := Lib.hid (Base.below_step HB1.out hb3); have HKr3 := Lib.hid (HKr1.out.below hb3)
             clear hb3)
          | (go_at_call 6; with_reducible refine (HK.out _).mono ?_; rintro e w1 ⟨rfl, hb1⟩
             have HB1 := Lib.hid (Base.below_step HB0.out hb1); have HKr1 := Lib.hid (HKr0.out.below hb1)
             have q0 := HKr1.out.c 0 _ rfl; have q1 := HKr1.out.c 1 _ rfl; have q2 := HKr1.out.c 2 _ rfl; have q3 := HKr1.out.c 3 _ rfl; have q4 := HKr1.out.c 4 _ rfl; have q5 := HKr1.out.c 5 _ rfl; have q6 := HKr1.out.c 6 _ rfl
             clear hb1))
        clear t0 t1 HB1 HB3 HKr0 HKr1 HKr3 HB0 HN HOK
        have HRx := Lib.hid HR4.out
        have HKx := Lib.hid (Bk.new w4 w4.heap.size rfl 25 [.string r0.m, .string r0.x, .int .i64 r0.k, .slice fax r0.fs.length fcx, .bool r0.ch, .slice bax r0.body.length bcx, .slice tax r0.ts.length tcx])
        have HB5 := Lib.hid (HB4.out.alloc HB4.out.size (.cells #[.string r0.m, .string r0.x, .int .i64 r0.k, .slice fax r0.fs.length fcx, .bool r0.ch, .slice bax r0.body.length bcx, .slice tax r0.ts.length tcx] 25))
        have HB4x := Lib.hid ((Below.refl w4.heap.size w4).alloc (Nat.le_refl _) (.cells #[.string r0.m, .string r0.x, .int .i64 r0.k, .slice fax r0.fs.length fcx, .bool r0.ch, .slice bax r0.body.length bcx, .slice tax r0.ts.length tcx] 25))
        have HKr5 := Lib.hid (HKr.out.alloc (.cells #[.string r0.m, .string r0.x, .int .i64 r0.k, .slice fax r0.fs.length fcx, .bool r0.ch, .slice bax r0.body.length bcx, .slice tax r0.ts.length tcx] 25))
        have HGE := Lib.hid (show W.heap.size < w4.heap.size from HKr.out.lt)
        clear HKr
        generalize w4.alloc (.cells #[.string r0.m, .string r0.x, .int .i64 r0.k, .slice fax r0.fs.length fcx, .bool r0.ch, .slice bax r0.body.length bcx, .slice tax r0.ts.length tcx] 25) = Wx at *
        obtain ⟨gx, hgx⟩ : ∃ gx, w4.heap.size = gx := ⟨_, rfl⟩
        have HGX := Lib.hid hgx
        rw [hgx] at HKx HB4x HGE ⊢
        clear hgx
        go_upto_if 33 with fail
        go_cut [] from 34 to 35 (fun wx => ∃ k0 : Int, Hid (Bk wx gx [.string r0.m, .string r0.x, .int .i64 k0, .slice fax r0.fs.length fcx, .bool r0.ch, .slice bax r0.body.length bcx, .slice tax r0.ts.length tcx]) ∧ Hid (Below W.heap.size W wx) ∧ Hid (Below gx w4 wx) ∧ Hid (Bk wx W.heap.size [.string raw.m, .string raw.x, .int .i64 raw.k, .slice far raw.fs.length fcr, .bool raw.ch, .slice bar raw.body.length bcr, .slice tar raw.ts.length tcr]))
        case first =>
          have y2 := HKx.out.c 2 _ rfl; have z2 := HKx.out.z 2 (by simp)
          cases a4
          · go_wp2_with fail
            go_meet
            case rel => exact ⟨r0.k, HKx, HB5, HB4x, HKr5⟩
          · go_wp2_with fail
            go_meet
            case rel => exact ⟨0, Lib.hid (HKx.out.set 2 (.int .i64 0) (by simp)), Lib.hid (HB5.out.setCell (show W.heap.size ≤ gx by have := HGE.out; omega) _), Lib.hid (HB4x.out.setCell (Nat.le_refl _) _), Lib.hid (HKr5.out.other gx 2 (.int .i64 0) (by have := HGE.out; omega))⟩
        case rest =>
        obtain ⟨k0, HKy, HBy, HB4y, HKry⟩ := hcut
        clear HKx HB5 HB4x HKr5
        obtain ⟨q3, hq3, rq3, rq3'⟩ := rem_at a2 HB2.out.1 3 (by decide)
        obtain ⟨X, hX, hsX⟩ : ∃ X : ByteArray, ([.string ⟨#[67, 111, 110, 110, 101, 99, 116, 105, 111, 110]⟩, .string ⟨#[101, 120, 112, 101, 99, 116]⟩, .string ⟨#[65]⟩] : List Value)[q3]? = some (.string X) ∧ X.size ≤ 100 := by
          match q3, hq3 with
          | 0, _ => exact ⟨_, rfl, by decide⟩
          | 1, _ => exact ⟨_, rfl, by decide⟩
          | 2, _ => exact ⟨_, rfl, by decide⟩
        obtain ⟨d3, hd3, hd3'⟩ : ∃ d : Nat, Int.tdiv a2 3 = (d : Int) ∧ a2 / 3 = (d : Int) := ⟨(a2 / 3).toNat, by have := HB2.out.1; rw [Int.tdiv_eq_ediv_of_nonneg this]; omega, by have := HB2.out.1; omega⟩
        obtain ⟨q6, hq6, rq6, rq6'⟩ := rem_at (d3 : Int) (by omega) 6 (by decide)
        obtain ⟨Y, hY, hsY⟩ : ∃ Y : ByteArray, ([.string ⟨#[99, 108, 111, 115, 101]⟩, .string ⟨#[107, 101, 101, 112, 45, 97, 108, 105, 118, 101, 44, 32, 120]⟩, .string ⟨#[67, 108, 111, 115, 101, 32, 44, 121]⟩, .string ⟨#[49, 48, 48, 45, 99, 111, 110, 116, 105, 110, 117, 101]⟩, .string ⟨#[49, 48, 48, 45, 67, 79, 78, 84, 73, 78, 85, 69, 44, 32, 122]⟩, .string a3] : List Value)[q6]? = some (.string Y) ∧ Y.size ≤ 100 := by
          match q6, hq6 with
          | 0, _ => exact ⟨_, rfl, by decide⟩
          | 1, _ => exact ⟨_, rfl, by decide⟩
          | 2, _ => exact ⟨_, rfl, by decide⟩
          | 3, _ => exact ⟨_, rfl, by decide⟩
          | 4, _ => exact ⟨_, rfl, by decide⟩
          | 5, _ => exact ⟨a3, rfl, by have := HS.out; omega⟩
        have Hq3 := Lib.hid (show q3 < 3 ∧ (q3 : Int) < 3 from ⟨hq3, by omega⟩); have Hq6 := Lib.hid (show q6 < 6 ∧ (q6 : Int) < 6 from ⟨hq6, by omega⟩)
        have HX := Lib.hid hX; have HY := Lib.hid hY
        have R3 := Lib.hid (show Int.tmod a2 3 = (q3 : Int) ∧ a2 % 3 = (q3 : Int) from ⟨rq3, rq3'⟩); have R4 := Lib.hid (show Int.tdiv a2 3 = (d3 : Int) ∧ a2 / 3 = (d3 : Int) from ⟨hd3, hd3'⟩); have R4b := Lib.hid (show IntKind.u8.wrap (d3 : Int) = (d3 : Int) by rw [IntKind.wrap_u8]; have := HB2.out; omega); have R6 := Lib.hid (show Int.tmod (d3 : Int) 6 = (q6 : Int) ∧ (d3 : Int) % 6 = (q6 : Int) from ⟨rq6, rq6'⟩)
        clear hq3 rq3 rq3' hX hd3 hd3' hq6 rq6 rq6' hY
        obtain ⟨iF, hi, hz0, hz1, hz2⟩ := info_parts field_info
        have I1 := Lib.hid hi; have I2 := Lib.hid hz0; have I3 := Lib.hid hz1; have I4 := Lib.hid hz2
        clear hi hz0 hz1 hz2
        have HKq := Lib.hid (HKy.out.drew 1)
        have HFq : Hid (Flds (wc.drewN 1) fax r0.fs.length r0.fs) := Lib.hid (by
          have hb : Below w4.heap.size w4 (wc.drewN 1) := by rw [HGX.out]; exact Base.below_drewN HB4y.out 1
          exact HR4.out.parts.1.below hb)
        have REL := Lib.hid (show ∀ (w3 : World) (b9 : Option Addr) (c9 : Nat), Below wc.heap.size wc w3 → w3.ownsRow wc.heap.size 31 2 (.slice b9 (r0.fs.length + 1) c9) (r0.fs.length + 1) (cells r0.fs ++ [.string X, .string Y]) →
            ∃ (x2 : R) (fa2 : Option Addr) (fc2 : Nat) (ba2 : Option Addr) (bc2 : Nat) (ta2 : Option Addr) (tc2 : Nat), Hid (Bk (w3.setCell ⟨gx, 3, none⟩ (.slice b9 (r0.fs.length + 1) c9)) gx [.string x2.m, .string x2.x, .int .i64 x2.k, .slice fa2 x2.fs.length fc2, .bool x2.ch, .slice ba2 x2.body.length bc2, .slice ta2 x2.ts.length tc2]) ∧ Hid (Reads (w3.setCell ⟨gx, 3, none⟩ (.slice b9 (r0.fs.length + 1) c9)) (.agg #[.string x2.m, .string x2.x, .int .i64 x2.k, .slice fa2 x2.fs.length fc2, .bool x2.ch, .slice ba2 x2.body.length bc2, .slice ta2 x2.ts.length tc2]) x2) ∧ Hid (Small x2) ∧
              Hid (Below W.heap.size W (w3.setCell ⟨gx, 3, none⟩ (.slice b9 (r0.fs.length + 1) c9))) ∧ Hid (Bk (w3.setCell ⟨gx, 3, none⟩ (.slice b9 (r0.fs.length + 1) c9)) W.heap.size [.string raw.m, .string raw.x, .int .i64 raw.k, .slice far raw.fs.length fcr, .bool raw.ch, .slice bar raw.body.length bcr, .slice tar raw.ts.length tcr]) from fun w3 b9 c9 hb3 ho => by
          have HX3 := HKy.out.below hb3
          have HO3 : w3.ownsRow wc.heap.size 31 2 (.slice b9 (r0.fs.length + 1) c9) (r0.fs.length + 1) (cells (r0.fs ++ [(X, Y)])) := by rw [cells_append]; exact ho
          have HK9 := HX3.set 3 (.slice b9 (r0.fs.length + 1) c9) (by simp)
          have HB9 : Below W.heap.size W (w3.setCell ⟨gx, 3, none⟩ (.slice b9 (r0.fs.length + 1) c9)) := (Base.below_step HBy.out hb3).setCell (show W.heap.size ≤ gx by have := HGE.out; omega) _
          have HB49 : Below gx w4 (w3.setCell ⟨gx, 3, none⟩ (.slice b9 (r0.fs.length + 1) c9)) := (HB4y.out.trans (hb3.mono (show gx ≤ wc.heap.size from Nat.le_of_lt HKy.out.lt))).setCell (Nat.le_refl _) _
          have HO9 := ownsRow_setCell_other (a := ⟨gx, 3, none⟩) HO3 (fun e => by have h1 := (World.ownsRow.lt HO3 _ e).1; have h2 := HKy.out.lt; simp only at h1; omega) (.slice b9 (r0.fs.length + 1) c9)
          have HKr9 := (HKry.out.below hb3).other gx 3 (.slice b9 (r0.fs.length + 1) c9) (by have := HGE.out; omega)
          clear HX3 HO3 hb3 ho
          generalize w3.setCell ⟨gx, 3, none⟩ (.slice b9 (r0.fs.length + 1) c9) = W9 at *
          have hl : (r0.fs ++ [(X, Y)]).length = r0.fs.length + 1 := by simp
          have hb49 : Below w4.heap.size w4 W9 := by rw [HGX.out]; exact HB49
          refine ⟨⟨r0.m, r0.x, k0, r0.fs ++ [(X, Y)], r0.ch, r0.body, r0.ts⟩, b9, c9, bax, bcx, tax, tcx, Lib.hid ?_, Lib.hid ?_, Lib.hid ?_, Lib.hid HB9, Lib.hid HKr9⟩
          · show Bk W9 gx [.string r0.m, .string r0.x, .int .i64 k0, .slice b9 (r0.fs ++ [(X, Y)]).length c9, .bool r0.ch, .slice bax r0.body.length bcx, .slice tax r0.ts.length tcx]
            rw [hl]; exact HK9
          · obtain ⟨A, c, e, h⟩ := Flds.of_own HO9
            simp only [Value.slice.injEq, true_and] at e
            obtain ⟨rfl, rfl⟩ := e
            refine Reads.of ?_ (HR4.out.parts.2.1.below hb49) (HR4.out.parts.2.2.below hb49)
            show Flds W9 _ (r0.fs ++ [(X, Y)]).length (r0.fs ++ [(X, Y)])
            rw [hl]; exact h
          · have hS := HS0.out
            refine ⟨hS.m, hS.x, ?_, fun f hf => ?_, hS.body, hS.ts, hS.t⟩
            · show (r0.fs ++ [(X, Y)]).length ≤ 100
              rw [hl]; have := HL3.out; omega
            · rcases List.mem_append.1 hf with h | h
              · exact hS.f f h
              · obtain rfl : f = (X, Y) := (by simpa using h)
                exact ⟨show X.size ≤ 1000 by omega, show Y.size ≤ 1000 by omega⟩)
        go_upto_region 8 with fail
        go_cut [] from 35 to 53 (fun wx => ∃ (x2 : R) (fa2 : Option Addr) (fc2 : Nat) (ba2 : Option Addr) (bc2 : Nat) (ta2 : Option Addr) (tc2 : Nat), Hid (Bk wx gx [.string x2.m, .string x2.x, .int .i64 x2.k, .slice fa2 x2.fs.length fc2, .bool x2.ch, .slice ba2 x2.body.length bc2, .slice ta2 x2.ts.length tc2]) ∧ Hid (Reads wx (.agg #[.string x2.m, .string x2.x, .int .i64 x2.k, .slice fa2 x2.fs.length fc2, .bool x2.ch, .slice ba2 x2.body.length bc2, .slice ta2 x2.ts.length tc2]) x2) ∧ Hid (Small x2) ∧ Hid (Below W.heap.size W wx) ∧ Hid (Bk wx W.heap.size [.string raw.m, .string raw.x, .int .i64 raw.k, .slice far raw.fs.length fcr, .bool raw.ch, .slice bar raw.body.length bcr, .slice tar raw.ts.length tcr]))
        case first =>
          refine Each.region 17 [35, 36, 37, 38, 39, 40, 41, 42, 43, 44, 45, 46, 47, 48, 49, 50, 51]
              [fun v _ => v = .pointer (some ⟨gx, 3, none⟩),
                fun v _ => v = .slice fax r0.fs.length fcx,
                fun v w => World.ownsRow w wc.heap.size 31 2 v r0.fs.length (cells r0.fs),
                fun v w => ∃ g, v = .slice (some ⟨g, 0, none⟩) 3 3 ∧ Bk w g [.string ⟨#[67, 111, 110, 110, 101, 99, 116, 105, 111, 110]⟩, .string ⟨#[101, 120, 112, 101, 99, 116]⟩, .string ⟨#[65]⟩],
                fun v _ => v = .int .u8 a2,
                fun v _ => v = .int .u8 (q3 : Int),
                fun v w => ∃ g, v = .pointer (some ⟨g, q3, none⟩) ∧ Bk w g [.string ⟨#[67, 111, 110, 110, 101, 99, 116, 105, 111, 110]⟩, .string ⟨#[101, 120, 112, 101, 99, 116]⟩, .string ⟨#[65]⟩],
                fun v _ => v = .string X,
                fun v _ => v = .string a3,
                fun v w => ∃ g, v = .slice (some ⟨g, 0, none⟩) 6 6 ∧ Bk w g [.string ⟨#[99, 108, 111, 115, 101]⟩, .string ⟨#[107, 101, 101, 112, 45, 97, 108, 105, 118, 101, 44, 32, 120]⟩, .string ⟨#[67, 108, 111, 115, 101, 32, 44, 121]⟩, .string ⟨#[49, 48, 48, 45, 99, 111, 110, 116, 105, 110, 117, 101]⟩, .string ⟨#[49, 48, 48, 45, 67, 79, 78, 84, 73, 78, 85, 69, 44, 32, 122]⟩, .string a3],
                fun v _ => v = .int .u8 a2,
                fun v _ => v = .int .u8 (d3 : Int),
                fun v _ => v = .int .u8 (q6 : Int),
                fun v w => ∃ g, v = .pointer (some ⟨g, q6, none⟩) ∧ Bk w g [.string ⟨#[99, 108, 111, 115, 101]⟩, .string ⟨#[107, 101, 101, 112, 45, 97, 108, 105, 118, 101, 44, 32, 120]⟩, .string ⟨#[67, 108, 111, 115, 101, 32, 44, 121]⟩, .string ⟨#[49, 48, 48, 45, 99, 111, 110, 116, 105, 110, 117, 101]⟩, .string ⟨#[49, 48, 48, 45, 67, 79, 78, 84, 73, 78, 85, 69, 44, 32, 122]⟩, .string a3],
                fun v _ => v = .string Y,
                fun v _ => v = .agg #[.string X, .string Y],
                fun v w => ∃ g, v = .slice (some ⟨g, 0, none⟩) 1 1 ∧ Bk w g [.string X, .string Y]]
              (.act 17 (.quiet 18 (.act 19 .done))) (by kernel_rfl) (by kernel_rfl) (by kernel_rfl) (by kernel_rfl) (fun _ _ d _ _ h => by cases d <;> exact h) (by rfl) (by rfl)
              ⟨Each.Lasts.eq _, Each.Lasts.eq _, ((fun _ _ _ hb h => own_below h hb)), ((fun _ _ _ hb h => by obtain ⟨g, rfl, hB⟩ := h; exact ⟨g, rfl, hB.below hb⟩)), Each.Lasts.eq _, Each.Lasts.eq _, ((fun _ _ _ hb h => by obtain ⟨g, rfl, hB⟩ := h; exact ⟨g, rfl, hB.below hb⟩)), Each.Lasts.eq _, Each.Lasts.eq _, ((fun _ _ _ hb h => by obtain ⟨g, rfl, hB⟩ := h; exact ⟨g, rfl, hB.below hb⟩)), Each.Lasts.eq _, Each.Lasts.eq _, Each.Lasts.eq _, ((fun _ _ _ hb h => by obtain ⟨g, rfl, hB⟩ := h; exact ⟨g, rfl, hB.below hb⟩)), Each.Lasts.eq _, Each.Lasts.eq _, ((fun _ _ _ hb h => by obtain ⟨g, rfl, hB⟩ := h; exact ⟨g, rfl, hB.below hb⟩)), trivial⟩ ?_ ?_
          · refine ⟨?_, ?_, ?_, ?_, ?_, ?_, ?_, ?_, ?_, ?_, ?_, ?_, ?_, ?_, ?_, ?_, ?_, trivial⟩
            · refine Each.fine rfl (fun ev w1 hR hb hh => ?_)
              clear hh
              have e11 := hR.old 11 rfl
              simp only [Array.getD_eq_getD_getElem?, List.getElem?_toArray, List.getElem?_cons_succ, List.getElem?_cons_zero, Option.getD_some] at e11
              refine Each.Goes.same ?_
              go_simp
              try with_reducible rfl
            · refine Each.fine rfl (fun ev w1 hR hb hh => ?_)
              have e35 : (ev (.tmp 35) = .pointer (some ⟨gx, 3, none⟩)) := hh.at 0
              clear hh
              have q3 := (HKq.out.below hb).c 3 _ rfl
              refine Each.Goes.same ?_
              go_simp
              try with_reducible rfl
            · refine Each.fine rfl (fun ev w1 hR hb hh => ?_)
              have e36 : (ev (.tmp 36) = .slice fax r0.fs.length fcx) := hh.at 0
              clear hh
              have ec := hR.const
              obtain ⟨v', w', hrun, ho, hgr, _⟩ := App.run_append_list w1 22 22 wc.heap.size 31 iF (.agg #[.string ByteArray.empty, .string ByteArray.empty]) 2 32 Tryd.underlying22 I1.out I2.out I3.out I4.out rfl (by decide) (.slice none 0 0) 0 [] (World.ownsRow_nil _ _ _ _) fax r0.fs.length fcx (cells r0.fs) (cells_length _) (cells_lie (HFq.out.below hb)) (cells_all_one _) (by have := HL3.out; unfold maxLen; omega) (by have := HL3.out; omega) (show wc.heap.size ≤ w1.heap.size from hb.size)
              rw [Nat.zero_add, List.nil_append] at ho
              exact Each.Goes.value v' w' (exec_append _ _ _ rfl (ec _) e36 hrun) (below_of_grown hgr) ho
            · refine Each.fine rfl (fun ev w1 hR hb hh => ?_)
              clear hh
              have ec := hR.const
              exact Each.Goes.value (.slice (some ⟨w1.heap.size, 0, none⟩) 3 3) (w1.alloc (.cells #[.string ⟨#[67, 111, 110, 110, 101, 99, 116, 105, 111, 110]⟩, .string ⟨#[101, 120, 112, 101, 99, 116]⟩, .string ⟨#[65]⟩] 9)) (by go_simp) ((Below.refl _ _).alloc (Nat.le_refl _) _) ⟨_, rfl, Bk.new w1 _ rfl 9 [.string ⟨#[67, 111, 110, 110, 101, 99, 116, 105, 111, 110]⟩, .string ⟨#[101, 120, 112, 101, 99, 116]⟩, .string ⟨#[65]⟩]⟩
            · refine Each.fine rfl (fun ev w1 hR hb hh => ?_)
              clear hh
              have e2 := hR.old 2 rfl
              simp only [Array.getD_eq_getD_getElem?, List.getElem?_toArray, List.getElem?_cons_succ, List.getElem?_cons_zero, Option.getD_some] at e2
              refine Each.Goes.same ?_
              go_simp
              try with_reducible rfl
            · refine Each.fine rfl (fun ev w1 hR hb hh => ?_)
              have e39 : (ev (.tmp 39) = .int .u8 a2) := hh.at 0
              clear hh
              have ec := hR.const
              have r1 := R3.out.1; have r2 := R3.out.2
              refine Each.Goes.same ?_
              go_simp
              try with_reducible rfl
            · refine Each.fine rfl (fun ev w1 hR hb hh => ?_)
              have e38 : ((fun v w => ∃ g, v = .slice (some ⟨g, 0, none⟩) 3 3 ∧ Bk w g [.string ⟨#[67, 111, 110, 110, 101, 99, 116, 105, 111, 110]⟩, .string ⟨#[101, 120, 112, 101, 99, 116]⟩, .string ⟨#[65]⟩]) (ev (.tmp 38)) w1) := hh.at 0
              have e40 : (ev (.tmp 40) = .int .u8 (q3 : Int)) := hh.at 1
              clear hh
              obtain ⟨ga, ea, hB⟩ := e38
              have hi1 := Hq3.out.1; have hi2 := Hq3.out.2
              exact Each.Goes.value (.pointer (some ⟨ga, q3, none⟩)) w1 (by go_simp) (Below.refl _ _) ⟨ga, rfl, hB⟩
            · refine Each.fine rfl (fun ev w1 hR hb hh => ?_)
              have e41 : ((fun v w => ∃ g, v = .pointer (some ⟨g, q3, none⟩) ∧ Bk w g [.string ⟨#[67, 111, 110, 110, 101, 99, 116, 105, 111, 110]⟩, .string ⟨#[101, 120, 112, 101, 99, 116]⟩, .string ⟨#[65]⟩]) (ev (.tmp 41)) w1) := hh.at 0
              clear hh
              obtain ⟨ga, ea, hB⟩ := e41
              have q0 := hB.c q3 _ HX.out
              refine Each.Goes.same ?_
              go_simp
              try with_reducible rfl
            · refine Each.fine rfl (fun ev w1 hR hb hh => ?_)
              clear hh
              have e3 := hR.old 3 rfl
              simp only [Array.getD_eq_getD_getElem?, List.getElem?_toArray, List.getElem?_cons_succ, List.getElem?_cons_zero, Option.getD_some] at e3
              refine Each.Goes.same ?_
              go_simp
              try with_reducible rfl
            · refine Each.fine rfl (fun ev w1 hR hb hh => ?_)
              have e43 : (ev (.tmp 43) = .string a3) := hh.at 0
              clear hh
              have ec := hR.const
              exact Each.Goes.value (.slice (some ⟨w1.heap.size, 0, none⟩) 6 6) (w1.alloc (.cells #[.string ⟨#[99, 108, 111, 115, 101]⟩, .string ⟨#[107, 101, 101, 112, 45, 97, 108, 105, 118, 101, 44, 32, 120]⟩, .string ⟨#[67, 108, 111, 115, 101, 32, 44, 121]⟩, .string ⟨#[49, 48, 48, 45, 99, 111, 110, 116, 105, 110, 117, 101]⟩, .string ⟨#[49, 48, 48, 45, 67, 79, 78, 84, 73, 78, 85, 69, 44, 32, 122]⟩, .string a3] 9)) (by go_simp) ((Below.refl _ _).alloc (Nat.le_refl _) _) ⟨_, rfl, Bk.new w1 _ rfl 9 [.string ⟨#[99, 108, 111, 115, 101]⟩, .string ⟨#[107, 101, 101, 112, 45, 97, 108, 105, 118, 101, 44, 32, 120]⟩, .string ⟨#[67, 108, 111, 115, 101, 32, 44, 121]⟩, .string ⟨#[49, 48, 48, 45, 99, 111, 110, 116, 105, 110, 117, 101]⟩, .string ⟨#[49, 48, 48, 45, 67, 79, 78, 84, 73, 78, 85, 69, 44, 32, 122]⟩, .string a3]⟩
            · refine Each.fine rfl (fun ev w1 hR hb hh => ?_)
              clear hh
              have e2 := hR.old 2 rfl
              simp only [Array.getD_eq_getD_getElem?, List.getElem?_toArray, List.getElem?_cons_succ, List.getElem?_cons_zero, Option.getD_some] at e2
              refine Each.Goes.same ?_
              go_simp
              try with_reducible rfl
            · refine Each.fine rfl (fun ev w1 hR hb hh => ?_)
              have e45 : (ev (.tmp 45) = .int .u8 a2) := hh.at 0
              clear hh
              have ec := hR.const
              have r1 := R4.out.1; have r2 := R4.out.2; have r3 := R4b.out
              refine Each.Goes.same ?_
              go_simp
              try with_reducible rfl
            · refine Each.fine rfl (fun ev w1 hR hb hh => ?_)
              have e46 : (ev (.tmp 46) = .int .u8 (d3 : Int)) := hh.at 0
              clear hh
              have ec := hR.const
              have r1 := R6.out.1; have r2 := R6.out.2
              refine Each.Goes.same ?_
              go_simp
              try with_reducible rfl
            · refine Each.fine rfl (fun ev w1 hR hb hh => ?_)
              have e44 : ((fun v w => ∃ g, v = .slice (some ⟨g, 0, none⟩) 6 6 ∧ Bk w g [.string ⟨#[99, 108, 111, 115, 101]⟩, .string ⟨#[107, 101, 101, 112, 45, 97, 108, 105, 118, 101, 44, 32, 120]⟩, .string ⟨#[67, 108, 111, 115, 101, 32, 44, 121]⟩, .string ⟨#[49, 48, 48, 45, 99, 111, 110, 116, 105, 110, 117, 101]⟩, .string ⟨#[49, 48, 48, 45, 67, 79, 78, 84, 73, 78, 85, 69, 44, 32, 122]⟩, .string a3]) (ev (.tmp 44)) w1) := hh.at 0
              have e47 : (ev (.tmp 47) = .int .u8 (q6 : Int)) := hh.at 1
              clear hh
              obtain ⟨ga, ea, hB⟩ := e44
              have hi1 := Hq6.out.1; have hi2 := Hq6.out.2
              exact Each.Goes.value (.pointer (some ⟨ga, q6, none⟩)) w1 (by go_simp) (Below.refl _ _) ⟨ga, rfl, hB⟩
            · refine Each.fine rfl (fun ev w1 hR hb hh => ?_)
              have e48 : ((fun v w => ∃ g, v = .pointer (some ⟨g, q6, none⟩) ∧ Bk w g [.string ⟨#[99, 108, 111, 115, 101]⟩, .string ⟨#[107, 101, 101, 112, 45, 97, 108, 105, 118, 101, 44, 32, 120]⟩, .string ⟨#[67, 108, 111, 115, 101, 32, 44, 121]⟩, .string ⟨#[49, 48, 48, 45, 99, 111, 110, 116, 105, 110, 117, 101]⟩, .string ⟨#[49, 48, 48, 45, 67, 79, 78, 84, 73, 78, 85, 69, 44, 32, 122]⟩, .string a3]) (ev (.tmp 48)) w1) := hh.at 0
              clear hh
              obtain ⟨ga, ea, hB⟩ := e48
              have q0 := hB.c q6 _ HY.out
              refine Each.Goes.same ?_
              go_simp
              try with_reducible rfl
            · refine Each.fine rfl (fun ev w1 hR hb hh => ?_)
              have e42 : (ev (.tmp 42) = .string X) := hh.at 0
              have e49 : (ev (.tmp 49) = .string Y) := hh.at 1
              clear hh
              refine Each.Goes.same ?_
              go_simp
              try with_reducible rfl
            · refine Each.fine rfl (fun ev w1 hR hb hh => ?_)
              have e50 : (ev (.tmp 50) = .agg #[.string X, .string Y]) := hh.at 0
              clear hh
              exact Each.Goes.value (.slice (some ⟨w1.heap.size, 0, none⟩) 1 1) (w1.alloc (.cells #[.string X, .string Y] 31)) (by go_simp) ((Below.refl _ _).alloc (Nat.le_refl _) _) ⟨_, rfl, Bk.new w1 _ rfl 31 [.string X, .string Y]⟩
          intro g1 w2 hb hf
          have z37 : ((fun v w => World.ownsRow w wc.heap.size 31 2 v r0.fs.length (cells r0.fs)) (g1 37) w2) := hf.at 2
          have z51 : ((fun v w => ∃ g, v = .slice (some ⟨g, 0, none⟩) 1 1 ∧ Bk w g [.string X, .string Y]) (g1 51) w2) := hf.at 16
          clear hf
          simp only [Each.putg, Act.put, List.setIfInBounds_toArray, List.set_cons_zero, List.set_cons_succ]
          obtain ⟨gl, el, hBl⟩ := z51
          obtain ⟨bo, co, eo⟩ := own_slice z37
          rw [el, eo]
          rw [eo] at z37
          simp only [Tree.grow, Tree.put1, List.getElem?_cons_zero, List.getElem?_cons_succ]
          obtain ⟨v', w3, hrun, ho, hgr, _⟩ := App.run_append_list w2 22 22 wc.heap.size 31 iF (.agg #[.string ByteArray.empty, .string ByteArray.empty]) 2 32 Tryd.underlying22 I1.out I2.out I3.out I4.out rfl (by decide) (.slice bo r0.fs.length co) r0.fs.length (cells r0.fs) z37 (some ⟨gl, 0, none⟩) 1 1 [.string X, .string Y] rfl (fun _ => ⟨gl, 0, rfl, fun j u hu => by rw [Nat.zero_add]; exact hBl.c j u hu⟩) (by intro u hu; rcases (by simpa using hu : u = .string X ∨ u = .string Y) with rfl | rfl <;> rfl) (by have := HL3.out; unfold maxLen; omega) (by have := HL3.out; omega) hb.size
          obtain ⟨b9, c9, rfl⟩ := own_slice ho
          have HB3 := Lib.hid (hb.grown hgr hb.size (fun q e => (World.ownsRow.lt z37 q e).1))
          have HO3 := Lib.hid ho
          refine Tree.change (by rfl) (fun K hK => ?_)
          refine oper_append _ _ _ rfl (by rfl) (by rfl) hrun ?_
          refine hK _ _ trivial ?_
          simp only [Act.put, List.setIfInBounds_toArray, List.set_cons_zero, List.set_cons_succ]
          clear hK K hrun hgr ho
          refine Tree.quiet (by rfl) (.pointer (some ⟨gx, 3, none⟩)) (fun _ _ => by go_simp) ?_
          simp only [Act.put, List.setIfInBounds_toArray, List.set_cons_zero, List.set_cons_succ]
          have q3 := (HKy.out.below HB3.out).c 3 _ rfl; have z3 := (HKy.out.below HB3.out).z 3 (by simp)
          refine Tree.change (by rfl) (fun K hK => ?_)
          go_simp
          refine hK _ _ trivial ?_
          clear hK K q3 z3
          refine Tree.done ?_
          go_wp2_with fail
          go_meet
          case rel => exact REL.out w3 b9 c9 HB3.out HO3.out
        case rest =>
        obtain ⟨x2, fa2, fc2, ba2, bc2, ta2, tc2, HK2, HR2, HS2, HB9, HKr9⟩ := hcut
        clear REL HKy HBy HB4y HKry HR4 HRx HS0 HL3 HX HY R3 R4 R4b R6 Hq3 Hq6 hsX hsY I1 I2 I3 I4 HGX HB4 HKq HFq
        obtain ⟨W9, hW9⟩ : ∃ x, x = wc := ⟨_, rfl⟩
        subst hW9
        have HRw9 := Lib.hid (show Reads (W9.drewN 1) (.agg #[.string raw.m, .string raw.x, .int .i64 raw.k, .slice far raw.fs.length fcr, .bool raw.ch, .slice bar raw.body.length bcr, .slice tar raw.ts.length tcr]) raw from HRw.out.below (Base.below_drewN HB9.out 1))
        have HRx9 := Lib.hid (HR2.out.below (Base.below_drewN (Below.refl _ _) 1))
        have HKrd := Lib.hid (HKr9.out.drew 1); have HKxd := Lib.hid (HK2.out.drew 1)
        have HBn := Lib.hid (fun w2 (h : Reads w2 (.agg #[.string x2.m, .string x2.x, .int .i64 x2.k, .slice fa2 x2.fs.length fc2, .bool x2.ch, .slice ba2 x2.body.length bc2, .slice ta2 x2.ts.length tc2]) x2) => bent_any _ x2 a2 a3 w2 h HS2.out HB2.out.1)
        have HBk := Lib.hid (fun w2 (h : Reads w2 (.agg #[.string x2.m, .string x2.x, .int .i64 x2.k, .slice fa2 x2.fs.length fc2, .bool x2.ch, .slice ba2 x2.body.length bc2, .slice ta2 x2.ts.length tc2]) x2) => bent_any _ x2 3 ⟨#[107, 101, 101, 112, 45, 97, 108, 105, 118, 101]⟩ w2 h HS2.out (by decide))
        have HF1 := Lib.hid (bent_fit (a2.toNat % 7) a3 x2 HS2.out (by have := HS.out; omega))
        have HF3 := Lib.hid (bent_fit ((3 : Int).toNat % 7) ⟨#[107, 101, 101, 112, 45, 97, 108, 105, 118, 101]⟩ x2 HS2.out (by decide))
        have HN1 := Lib.hid (bent_ne (a2.toNat % 7) a3 x2)
        obtain ⟨b1, hb1⟩ : ∃ b1, bent (a2.toNat % 7) a3 x2 = b1 := ⟨_, rfl⟩
        obtain ⟨b3, hb3⟩ : ∃ b3, bent ((3 : Int).toNat % 7) ⟨#[107, 101, 101, 112, 45, 97, 108, 105, 118, 101]⟩ x2 = b3 := ⟨_, rfl⟩
        rw [hb1] at HBn HF1 HN1
        rw [hb3] at HBk HF3
        clear hb1 hb3
        go_upto_region 9 with fail
        refine Each.region_all 11 [54, 55, 56, 57, 58, 59, 60, 61, 62, 63, 64]
            [fun v _ => v = .agg #[.string raw.m, .string raw.x, .int .i64 raw.k, .slice far raw.fs.length fcr, .bool raw.ch, .slice bar raw.body.length bcr, .slice tar raw.ts.length tcr],
              fun v _ => v = .agg #[.string x2.m, .string x2.x, .int .i64 x2.k, .slice fa2 x2.fs.length fc2, .bool x2.ch, .slice ba2 x2.body.length bc2, .slice ta2 x2.ts.length tc2],
              fun v _ => v = .agg #[.string x2.m, .string x2.x, .int .i64 x2.k, .slice fa2 x2.fs.length fc2, .bool x2.ch, .slice ba2 x2.body.length bc2, .slice ta2 x2.ts.length tc2],
              fun v _ => v = .int .u8 a2,
              fun v _ => v = .string a3,
              fun v w => Reads w v (b1),
              fun v _ => v = .agg #[.string x2.m, .string x2.x, .int .i64 x2.k, .slice fa2 x2.fs.length fc2, .bool x2.ch, .slice ba2 x2.body.length bc2, .slice ta2 x2.ts.length tc2],
              fun v w => Reads w v (b3),
              fun v w => ∃ g, v = .slice (some ⟨g, 0, none⟩) 4 4 ∧ Recs w (some ⟨g, 0, none⟩) 4 [raw, x2, b1, b3],
              fun v _ => v = .int .i64 4,
              fun v _ => v = .int .i64 0]
             (by kernel_rfl) (by kernel_rfl) (by kernel_rfl) (by kernel_rfl) (fun _ _ d _ _ h => by cases d <;> exact h) (by rfl) (by rfl)
            ⟨Each.Lasts.eq _, Each.Lasts.eq _, Each.Lasts.eq _, Each.Lasts.eq _, Each.Lasts.eq _, ((fun _ _ _ hb h => h.below hb)), Each.Lasts.eq _, ((fun _ _ _ hb h => h.below hb)), ((fun _ _ _ hb h => by obtain ⟨g, rfl, hB⟩ := h; exact ⟨g, rfl, hB.below hb⟩)), Each.Lasts.eq _, Each.Lasts.eq _, trivial⟩ ?_ ?_
        · refine ⟨?_, ?_, ?_, ?_, ?_, ?_, ?_, ?_, ?_, ?_, ?_, trivial⟩
          · refine Each.fine rfl (fun ev w1 hR hb hh => ?_)
            clear hh
            have e5 := hR.old 5 rfl
            simp only [Array.getD_eq_getD_getElem?, List.getElem?_toArray, List.getElem?_cons_succ, List.getElem?_cons_zero, Option.getD_some] at e5
            have q0 := (HKrd.out.below hb).c 0 _ rfl
            have q1 := (HKrd.out.below hb).c 1 _ rfl
            have q2 := (HKrd.out.below hb).c 2 _ rfl
            have q3 := (HKrd.out.below hb).c 3 _ rfl
            have q4 := (HKrd.out.below hb).c 4 _ rfl
            have q5 := (HKrd.out.below hb).c 5 _ rfl
            have q6 := (HKrd.out.below hb).c 6 _ rfl
            refine Each.Goes.same ?_
            go_simp
            try with_reducible rfl
          · refine Each.fine rfl (fun ev w1 hR hb hh => ?_)
            clear hh
            have e11 := hR.old 11 rfl
            simp only [Array.getD_eq_getD_getElem?, List.getElem?_toArray, List.getElem?_cons_succ, List.getElem?_cons_zero, Option.getD_some] at e11
            have q0 := (HKxd.out.below hb).c 0 _ rfl
            have q1 := (HKxd.out.below hb).c 1 _ rfl
            have q2 := (HKxd.out.below hb).c 2 _ rfl
            have q3 := (HKxd.out.below hb).c 3 _ rfl
            have q4 := (HKxd.out.below hb).c 4 _ rfl
            have q5 := (HKxd.out.below hb).c 5 _ rfl
            have q6 := (HKxd.out.below hb).c 6 _ rfl
            refine Each.Goes.same ?_
            go_simp
            try with_reducible rfl
          · refine Each.fine rfl (fun ev w1 hR hb hh => ?_)
            clear hh
            have e11 := hR.old 11 rfl
            simp only [Array.getD_eq_getD_getElem?, List.getElem?_toArray, List.getElem?_cons_succ, List.getElem?_cons_zero, Option.getD_some] at e11
            have q0 := (HKxd.out.below hb).c 0 _ rfl
            have q1 := (HKxd.out.below hb).c 1 _ rfl
            have q2 := (HKxd.out.below hb).c 2 _ rfl
            have q3 := (HKxd.out.below hb).c 3 _ rfl
            have q4 := (HKxd.out.below hb).c 4 _ rfl
            have q5 := (HKxd.out.below hb).c 5 _ rfl
            have q6 := (HKxd.out.below hb).c 6 _ rfl
            refine Each.Goes.same ?_
            go_simp
            try with_reducible rfl
          · refine Each.fine rfl (fun ev w1 hR hb hh => ?_)
            clear hh
            have e2 := hR.old 2 rfl
            simp only [Array.getD_eq_getD_getElem?, List.getElem?_toArray, List.getElem?_cons_succ, List.getElem?_cons_zero, Option.getD_some] at e2
            refine Each.Goes.same ?_
            go_simp
            try with_reducible rfl
          · refine Each.fine rfl (fun ev w1 hR hb hh => ?_)
            clear hh
            have e3 := hR.old 3 rfl
            simp only [Array.getD_eq_getD_getElem?, List.getElem?_toArray, List.getElem?_cons_succ, List.getElem?_cons_zero, Option.getD_some] at e3
            refine Each.Goes.same ?_
            go_simp
            try with_reducible rfl
          · refine Each.fine rfl (fun ev w1 hR hb hh => ?_)
            have e56 : (ev (.tmp 56) = .agg #[.string x2.m, .string x2.x, .int .i64 x2.k, .slice fa2 x2.fs.length fc2, .bool x2.ch, .slice ba2 x2.body.length bc2, .slice ta2 x2.ts.length tc2]) := hh.at 0
            have e57 : (ev (.tmp 57) = .int .u8 a2) := hh.at 1
            have e58 : (ev (.tmp 58) = .string a3) := hh.at 2
            clear hh
            have ef := hR.func
            refine Each.Goes.enter 9 #[.agg #[.string x2.m, .string x2.x, .int .i64 x2.k, .slice fa2 x2.fs.length fc2, .bool x2.ch, .slice ba2 x2.body.length bc2, .slice ta2 x2.ts.length tc2], .int .u8 a2, .string a3] (by go_simp) ((HBn.out w1 (HRx9.out.below hb)).mono ?_)
            rintro e w2 ⟨V', rfl, hR, hb2⟩
            exact ⟨_, rfl, hb2, hR⟩
          · refine Each.fine rfl (fun ev w1 hR hb hh => ?_)
            clear hh
            have e11 := hR.old 11 rfl
            simp only [Array.getD_eq_getD_getElem?, List.getElem?_toArray, List.getElem?_cons_succ, List.getElem?_cons_zero, Option.getD_some] at e11
            have q0 := (HKxd.out.below hb).c 0 _ rfl
            have q1 := (HKxd.out.below hb).c 1 _ rfl
            have q2 := (HKxd.out.below hb).c 2 _ rfl
            have q3 := (HKxd.out.below hb).c 3 _ rfl
            have q4 := (HKxd.out.below hb).c 4 _ rfl
            have q5 := (HKxd.out.below hb).c 5 _ rfl
            have q6 := (HKxd.out.below hb).c 6 _ rfl
            refine Each.Goes.same ?_
            go_simp
            try with_reducible rfl
          · refine Each.fine rfl (fun ev w1 hR hb hh => ?_)
            have e60 : (ev (.tmp 60) = .agg #[.string x2.m, .string x2.x, .int .i64 x2.k, .slice fa2 x2.fs.length fc2, .bool x2.ch, .slice ba2 x2.body.length bc2, .slice ta2 x2.ts.length tc2]) := hh.at 0
            clear hh
            have ec := hR.const
            have ef := hR.func
            have ec := hR.const
            refine Each.Goes.enter 9 #[.agg #[.string x2.m, .string x2.x, .int .i64 x2.k, .slice fa2 x2.fs.length fc2, .bool x2.ch, .slice ba2 x2.body.length bc2, .slice ta2 x2.ts.length tc2], .int .u8 3, .string ⟨#[107, 101, 101, 112, 45, 97, 108, 105, 118, 101]⟩] (by go_simp) ((HBk.out w1 (HRx9.out.below hb)).mono ?_)
            rintro e w2 ⟨V', rfl, hR, hb2⟩
            exact ⟨_, rfl, hb2, hR⟩
          · refine Each.fine rfl (fun ev w1 hR hb hh => ?_)
            have e54 : (ev (.tmp 54) = .agg #[.string raw.m, .string raw.x, .int .i64 raw.k, .slice far raw.fs.length fcr, .bool raw.ch, .slice bar raw.body.length bcr, .slice tar raw.ts.length tcr]) := hh.at 0
            have e55 : (ev (.tmp 55) = .agg #[.string x2.m, .string x2.x, .int .i64 x2.k, .slice fa2 x2.fs.length fc2, .bool x2.ch, .slice ba2 x2.body.length bc2, .slice ta2 x2.ts.length tc2]) := hh.at 1
            have e59 : ((fun v w => Reads w v (b1)) (ev (.tmp 59)) w1) := hh.at 2
            have e61 : ((fun v w => Reads w v (b3)) (ev (.tmp 61)) w1) := hh.at 3
            clear hh
            obtain ⟨fap, fcp, bap, bcp, tap, tcp, eap, -⟩ := id e59
            obtain ⟨faq, fcq, baq, bcq, taq, tcq, eaq, -⟩ := id e61
            have hba : Below w1.heap.size w1 (w1.alloc (.cells #[.string raw.m, .string raw.x, .int .i64 raw.k, .slice far raw.fs.length fcr, .bool raw.ch, .slice bar raw.body.length bcr, .slice tar raw.ts.length tcr, .string x2.m, .string x2.x, .int .i64 x2.k, .slice fa2 x2.fs.length fc2, .bool x2.ch, .slice ba2 x2.body.length bc2, .slice ta2 x2.ts.length tc2, .string b1.m, .string b1.x, .int .i64 b1.k, .slice fap b1.fs.length fcp, .bool b1.ch, .slice bap b1.body.length bcp, .slice tap b1.ts.length tcp, .string b3.m, .string b3.x, .int .i64 b3.k, .slice faq b3.fs.length fcq, .bool b3.ch, .slice baq b3.body.length bcq, .slice taq b3.ts.length tcq] 25)) := (Below.refl _ _).alloc (Nat.le_refl _) _
            rw [eap] at e59; rw [eaq] at e61
            exact Each.Goes.value (.slice (some ⟨w1.heap.size, 0, none⟩) 4 4) (w1.alloc (.cells #[.string raw.m, .string raw.x, .int .i64 raw.k, .slice far raw.fs.length fcr, .bool raw.ch, .slice bar raw.body.length bcr, .slice tar raw.ts.length tcr, .string x2.m, .string x2.x, .int .i64 x2.k, .slice fa2 x2.fs.length fc2, .bool x2.ch, .slice ba2 x2.body.length bc2, .slice ta2 x2.ts.length tc2, .string b1.m, .string b1.x, .int .i64 b1.k, .slice fap b1.fs.length fcp, .bool b1.ch, .slice bap b1.body.length bcp, .slice tap b1.ts.length tcp, .string b3.m, .string b3.x, .int .i64 b3.k, .slice faq b3.fs.length fcq, .bool b3.ch, .slice baq b3.body.length bcq, .slice taq b3.ts.length tcq] 25)) (by go_simp) hba ⟨_, rfl, Recs.four (c1 := #[.string raw.m, .string raw.x, .int .i64 raw.k, .slice far raw.fs.length fcr, .bool raw.ch, .slice bar raw.body.length bcr, .slice tar raw.ts.length tcr]) (c2 := #[.string x2.m, .string x2.x, .int .i64 x2.k, .slice fa2 x2.fs.length fc2, .bool x2.ch, .slice ba2 x2.body.length bc2, .slice ta2 x2.ts.length tc2]) (c3 := #[.string b1.m, .string b1.x, .int .i64 b1.k, .slice fap b1.fs.length fcp, .bool b1.ch, .slice bap b1.body.length bcp, .slice tap b1.ts.length tcp]) (c4 := #[.string b3.m, .string b3.x, .int .i64 b3.k, .slice faq b3.fs.length fcq, .bool b3.ch, .slice baq b3.body.length bcq, .slice taq b3.ts.length tcq]) (Bk.new w1 _ rfl 25 [.string raw.m, .string raw.x, .int .i64 raw.k, .slice far raw.fs.length fcr, .bool raw.ch, .slice bar raw.body.length bcr, .slice tar raw.ts.length tcr, .string x2.m, .string x2.x, .int .i64 x2.k, .slice fa2 x2.fs.length fc2, .bool x2.ch, .slice ba2 x2.body.length bc2, .slice ta2 x2.ts.length tc2, .string b1.m, .string b1.x, .int .i64 b1.k, .slice fap b1.fs.length fcp, .bool b1.ch, .slice bap b1.body.length bcp, .slice tap b1.ts.length tcp, .string b3.m, .string b3.x, .int .i64 b3.k, .slice faq b3.fs.length fcq, .bool b3.ch, .slice baq b3.body.length bcq, .slice taq b3.ts.length tcq]) ((HRw9.out.below hb).below hba) ((HRx9.out.below hb).below hba) (e59.below hba) (e61.below hba)⟩
          · refine Each.fine rfl (fun ev w1 hR hb hh => ?_)
            have e62 : ((fun v w => ∃ g, v = .slice (some ⟨g, 0, none⟩) 4 4 ∧ Recs w (some ⟨g, 0, none⟩) 4 [raw, x2, b1, b3]) (ev (.tmp 62)) w1) := hh.at 0
            clear hh
            obtain ⟨g, ea, hr⟩ := e62
            refine Each.Goes.same ?_
            go_simp
            try with_reducible rfl
          · refine Each.fine rfl (fun ev w1 hR hb hh => ?_)
            clear hh
            have ec := hR.const
            refine Each.Goes.same ?_
            go_simp
            try with_reducible rfl
        intro g1 w2 hb hf
        have z62 : ((fun v w => ∃ g, v = .slice (some ⟨g, 0, none⟩) 4 4 ∧ Recs w (some ⟨g, 0, none⟩) 4 [raw, x2, b1, b3]) (g1 62) w2) := hf.at 8
        have z63 : (g1 63 = .int .i64 4) := hf.at 9
        have z64 : (g1 64 = .int .i64 0) := hf.at 10
        clear hf
        simp only [Each.putg, Act.put, List.setIfInBounds_toArray, List.set_cons_zero, List.set_cons_succ]
        rw [z63]
        rw [z64]
        obtain ⟨g4, ea4, hr4⟩ := z62
        rw [ea4]
        have HBa := Lib.hid (Base.below_step HB9.out hb)
        have HKra := Lib.hid (HKr9.out.below hb); have HKxa := Lib.hid (HK2.out.below hb); have HRxa := Lib.hid (HR2.out.below hb); have HRra := Lib.hid (HRw.out.below HBa.out)
        have HR4a := Lib.hid hr4
        have HFx := Lib.hid HS2.out.fit; have HFr := Lib.hid HSw.out.fit
        have HFs := Lib.hid (show ∀ r ∈ [raw, x2, b1, b3], Fit r from fun r hr => by
          rcases (by simpa using hr : r = raw ∨ r = x2 ∨ r = b1 ∨ r = b3) with rfl | rfl | rfl | rfl
          · exact HFr.out
          · exact HFx.out
          · exact HF1.out
          · exact HF3.out)
        clear hr4 ea4 hb HKrd HKxd HRx9 HRw9 HK2 HR2 HB9 HKr9 HBk HF3
        go_wp2_with fail
        go_loopw [64] (fun i wr => ∃ k : Nat, k ≤ 4 ∧ i = .int .i64 k ∧ Hid (Below w2.heap.size w2 wr)) (fun i _ => 4 - (intOf i).toNat)
        case atStart => exact ⟨0, Nat.zero_le _, rfl, Lib.hid (Below.refl _ _)⟩
        case round =>
          obtain ⟨k, hk, rfl, hbr⟩ := hrel
          rcases Nat.lt_or_ge k 4 with hlt | hge
          · obtain ⟨y, fay, fcy, bay, bcy, tay, tcy, hfy, ⟨c0, c1', c2, c3, c4, c5, c6⟩, hry⟩ : ∃ (y : R) (fay : Option Addr) (fcy : Nat) (bay : Option Addr) (bcy : Nat) (tay : Option Addr) (tcy : Nat), Fit y ∧
                (wr.cell? ⟨g4, k * 7, none⟩ = some (.string y.m) ∧ wr.cell? ⟨g4, k * 7 + 1, none⟩ = some (.string y.x) ∧ wr.cell? ⟨g4, k * 7 + 2, none⟩ = some (.int .i64 y.k) ∧ wr.cell? ⟨g4, k * 7 + 3, none⟩ = some (.slice fay y.fs.length fcy) ∧
                 wr.cell? ⟨g4, k * 7 + 4, none⟩ = some (.bool y.ch) ∧ wr.cell? ⟨g4, k * 7 + 5, none⟩ = some (.slice bay y.body.length bcy) ∧ wr.cell? ⟨g4, k * 7 + 6, none⟩ = some (.slice tay y.ts.length tcy)) ∧ Reads wr (.agg #[.string y.m, .string y.x, .int .i64 y.k, .slice fay y.fs.length fcy, .bool y.ch, .slice bay y.body.length bcy, .slice tay y.ts.length tcy]) y := by
              obtain ⟨bq, off, e, _, hc⟩ := (HR4a.out.below hbr.out).2 (by decide)
              obtain ⟨rfl, rfl⟩ : g4 = bq ∧ 0 = off := by simpa using e
              obtain ⟨fa, fc, ba, bc, ta, tc, hcs, hr⟩ := hc k hlt
              rw [Nat.zero_add] at hcs
              exact ⟨_, fa, fc, ba, bc, ta, tc, fit_at HFs.out k hlt, hcs, hr⟩
            have HFy := Lib.hid hfy
            have HRy := Lib.hid (hry.below ((Below.refl wr.heap.size wr).alloc (Nat.le_refl _) (.cells #[.string y.m, .string y.x, .int .i64 y.k, .slice fay y.fs.length fcy, .bool y.ch, .slice bay y.body.length bcy, .slice tay y.ts.length tcy] 25)))
            have HKy := Lib.hid (Bk.new wr wr.heap.size rfl 25 [.string y.m, .string y.x, .int .i64 y.k, .slice fay y.fs.length fcy, .bool y.ch, .slice bay y.body.length bcy, .slice tay y.ts.length tcy])
            have HBb := Lib.hid (hbr.out.alloc hbr.out.size (.cells #[.string y.m, .string y.x, .int .i64 y.k, .slice fay y.fs.length fcy, .bool y.ch, .slice bay y.body.length bcy, .slice tay y.ts.length tcy] 25))
            have HI := Lib.hid hlt
            have i1 : (k : Int) < 4 := by omega
            clear hfy hry hk hlt
            go_upto_region 12 with fail
            clear c0 c1' c2 c3 c4 c5 c6 i1
            generalize wr.alloc (.cells #[.string y.m, .string y.x, .int .i64 y.k, .slice fay y.fs.length fcy, .bool y.ch, .slice bay y.body.length bcy, .slice tay y.ts.length tcy] 25) = Wy at *
            generalize wr.heap.size = gy at *
            have HBd := Lib.hid (show Below w2.heap.size w2 (Wy.drewN 1) from Base.below_drewN HBb.out 1)
            have HRyd := Lib.hid (HRy.out.below (Base.below_drewN (Below.refl _ _) 1)); have HRxd := Lib.hid (HRxa.out.below HBd.out)
            have HKyd := Lib.hid (HKy.out.drew 1); have HKxd := Lib.hid (HKxa.out.below HBd.out)
            have HSm := Lib.hid (fun w2 (h1 : Reads w2 (.agg #[.string y.m, .string y.x, .int .i64 y.k, .slice fay y.fs.length fcy, .bool y.ch, .slice bay y.body.length bcy, .slice tay y.ts.length tcy]) y) (h2 : Reads w2 (.agg #[.string x2.m, .string x2.x, .int .i64 x2.k, .slice fa2 x2.fs.length fc2, .bool x2.ch, .slice ba2 x2.body.length bc2, .slice ta2 x2.ts.length tc2]) x2) => same_any _ _ y x2 w2 h1 h2 HFy.out HFx.out)
            have HSr := Lib.hid (fun w2 (h1 : Reads w2 (.agg #[.string y.m, .string y.x, .int .i64 y.k, .slice fay y.fs.length fcy, .bool y.ch, .slice bay y.body.length bcy, .slice tay y.ts.length tcy]) y) (h2 : Reads w2 (.agg #[.string x2.m, .string x2.x, .int .i64 x2.k, .slice fa2 x2.fs.length fc2, .bool x2.ch, .slice ba2 x2.body.length bc2, .slice ta2 x2.ts.length tc2]) x2) => rsame_any _ _ y x2 w2 h1 h2 HFy.out HFx.out)
            have HZm := Lib.hid (fun w2 (h1 : Reads w2 (.agg #[.string y.m, .string y.x, .int .i64 y.k, .slice fay y.fs.length fcy, .bool y.ch, .slice bay y.body.length bcy, .slice tay y.ts.length tcy]) y) => size_any _ y w2 h1 HFy.out)
            have HZr := Lib.hid (fun w2 (h1 : Reads w2 (.agg #[.string y.m, .string y.x, .int .i64 y.k, .slice fay y.fs.length fcy, .bool y.ch, .slice bay y.body.length bcy, .slice tay y.ts.length tcy]) y) => rsize_any _ y w2 h1 HFy.out)
            have HCm := Lib.hid (fun w2 (h1 : Reads w2 (.agg #[.string y.m, .string y.x, .int .i64 y.k, .slice fay y.fs.length fcy, .bool y.ch, .slice bay y.body.length bcy, .slice tay y.ts.length tcy]) y) => closes_any _ y w2 h1 HFy.out)
            have HCr := Lib.hid (fun w2 (h1 : Reads w2 (.agg #[.string y.m, .string y.x, .int .i64 y.k, .slice fay y.fs.length fcy, .bool y.ch, .slice bay y.body.length bcy, .slice tay y.ts.length tcy]) y) => rcloses_any _ y w2 h1 HFy.out)
            have HEm := Lib.hid (fun w2 (h1 : Reads w2 (.agg #[.string y.m, .string y.x, .int .i64 y.k, .slice fay y.fs.length fcy, .bool y.ch, .slice bay y.body.length bcy, .slice tay y.ts.length tcy]) y) => expects_any _ y w2 h1 HFy.out)
            have HEr := Lib.hid (fun w2 (h1 : Reads w2 (.agg #[.string y.m, .string y.x, .int .i64 y.k, .slice fay y.fs.length fcy, .bool y.ch, .slice bay y.body.length bcy, .slice tay y.ts.length tcy]) y) => rexpects_any _ y w2 h1 HFy.out)
            have HCy := Lib.hid (fun w2 (h1 : Reads w2 (.agg #[.string y.m, .string y.x, .int .i64 y.k, .slice fay y.fs.length fcy, .bool y.ch, .slice bay y.body.length bcy, .slice tay y.ts.length tcy]) y) => copy_any _ y w2 h1 HFy.out)
            have HSs := Lib.hid (fun (V : Value) w2 (h1 : Reads w2 V y) (h2 : Reads w2 (.agg #[.string y.m, .string y.x, .int .i64 y.k, .slice fay y.fs.length fcy, .bool y.ch, .slice bay y.body.length bcy, .slice tay y.ts.length tcy]) y) => rsame_any V _ y y w2 h1 h2 HFy.out HFy.out)
            rw [same_self] at HSs
            obtain ⟨sm, hsm⟩ : ∃ sm, same y x2 = sm := ⟨_, rfl⟩
            rw [hsm] at HSm HSr
            obtain ⟨cl, hcl⟩ : ∃ cl, closes y = cl := ⟨_, rfl⟩
            rw [hcl] at HCm HCr
            obtain ⟨ex, hex⟩ : ∃ ex, expects y = ex := ⟨_, rfl⟩
            rw [hex] at HEm HEr
            obtain ⟨sz, hsz⟩ : ∃ sz, size y = sz := ⟨_, rfl⟩
            rw [hsz] at HZm HZr
            clear hsm hcl hex hsz
            refine Each.region_all 35 [68, 69, 70, 71, 72, 73, 74, 75, 76, 77, 78, 79, 80, 81, 82, 83, 84, 85, 86, 87, 88, 89, 90, 91, 92, 93, 94, 95, 96, 97, 98, 99, 100, 101, 102]
                [fun v _ => v = .agg #[.string y.m, .string y.x, .int .i64 y.k, .slice fay y.fs.length fcy, .bool y.ch, .slice bay y.body.length bcy, .slice tay y.ts.length tcy],
                  fun v _ => v = .agg #[.string x2.m, .string x2.x, .int .i64 x2.k, .slice fa2 x2.fs.length fc2, .bool x2.ch, .slice ba2 x2.body.length bc2, .slice ta2 x2.ts.length tc2],
                  fun v _ => v = .bool sm,
                  fun v _ => v = .agg #[.string y.m, .string y.x, .int .i64 y.k, .slice fay y.fs.length fcy, .bool y.ch, .slice bay y.body.length bcy, .slice tay y.ts.length tcy],
                  fun v _ => v = .agg #[.string x2.m, .string x2.x, .int .i64 x2.k, .slice fa2 x2.fs.length fc2, .bool x2.ch, .slice ba2 x2.body.length bc2, .slice ta2 x2.ts.length tc2],
                  fun v _ => v = .bool sm,
                  fun v _ => v = .bool false,
                  fun v _ => v = .bool false,
                  Each.When (false) false (fun v _ => v = .agg #[.string y.m, .string y.x, .int .i64 y.k, .slice fay y.fs.length fcy, .bool y.ch, .slice bay y.body.length bcy, .slice tay y.ts.length tcy]),
                  Each.When (false) false (fun v _ => v = .int .i64 ((sz : Nat) : Int)),
                  Each.When (false) false (fun v _ => v = .agg #[.string y.m, .string y.x, .int .i64 y.k, .slice fay y.fs.length fcy, .bool y.ch, .slice bay y.body.length bcy, .slice tay y.ts.length tcy]),
                  Each.When (false) false (fun v _ => v = .int .i64 ((sz : Nat) : Int)),
                  Each.When (false) false (fun v _ => v = .bool false),
                  fun v _ => v = .bool ((false && true)),
                  fun v _ => v = .bool ((false && true)),
                  Each.When ((false && true)) false (fun v _ => v = .agg #[.string y.m, .string y.x, .int .i64 y.k, .slice fay y.fs.length fcy, .bool y.ch, .slice bay y.body.length bcy, .slice tay y.ts.length tcy]),
                  Each.When ((false && true)) false (fun v _ => v = .bool cl),
                  Each.When ((false && true)) false (fun v _ => v = .agg #[.string y.m, .string y.x, .int .i64 y.k, .slice fay y.fs.length fcy, .bool y.ch, .slice bay y.body.length bcy, .slice tay y.ts.length tcy]),
                  Each.When ((false && true)) false (fun v _ => v = .bool cl),
                  Each.When ((false && true)) false (fun v _ => v = .bool false),
                  fun v _ => v = .bool (((false && true) && true)),
                  fun v _ => v = .bool (((false && true) && true)),
                  Each.When (((false && true) && true)) false (fun v _ => v = .agg #[.string y.m, .string y.x, .int .i64 y.k, .slice fay y.fs.length fcy, .bool y.ch, .slice bay y.body.length bcy, .slice tay y.ts.length tcy]),
                  Each.When (((false && true) && true)) false (fun v _ => v = .bool ex),
                  Each.When (((false && true) && true)) false (fun v _ => v = .agg #[.string y.m, .string y.x, .int .i64 y.k, .slice fay y.fs.length fcy, .bool y.ch, .slice bay y.body.length bcy, .slice tay y.ts.length tcy]),
                  Each.When (((false && true) && true)) false (fun v _ => v = .bool ex),
                  Each.When (((false && true) && true)) false (fun v _ => v = .bool false),
                  fun v _ => v = .bool ((((false && true) && true) && true)),
                  fun v _ => v = .bool ((((false && true) && true) && true)),
                  Each.When ((((false && true) && true) && true)) false (fun v _ => v = .agg #[.string y.m, .string y.x, .int .i64 y.k, .slice fay y.fs.length fcy, .bool y.ch, .slice bay y.body.length bcy, .slice tay y.ts.length tcy]),
                  Each.When ((((false && true) && true) && true)) false (fun v w => Reads w v (y)),
                  Each.When ((((false && true) && true) && true)) false (fun v _ => v = .agg #[.string y.m, .string y.x, .int .i64 y.k, .slice fay y.fs.length fcy, .bool y.ch, .slice bay y.body.length bcy, .slice tay y.ts.length tcy]),
                  Each.When ((((false && true) && true) && true)) false (fun v _ => v = .bool true),
                  Each.When ((((false && true) && true) && true)) false (fun v _ => v = .bool false),
                  fun v _ => v = .bool (((((false && true) && true) && true) && true))]
                 (by kernel_rfl) (by kernel_rfl) (by kernel_rfl) (by kernel_rfl) (fun _ _ d _ _ h => by cases d <;> exact h) (by rfl) (by rfl)
                ⟨Each.Lasts.eq _, Each.Lasts.eq _, Each.Lasts.eq _, Each.Lasts.eq _, Each.Lasts.eq _, Each.Lasts.eq _, Each.Lasts.eq _, Each.Lasts.eq _, Each.Lasts.when (Each.Lasts.eq _), Each.Lasts.when (Each.Lasts.eq _), Each.Lasts.when (Each.Lasts.eq _), Each.Lasts.when (Each.Lasts.eq _), Each.Lasts.when (Each.Lasts.eq _), Each.Lasts.eq _, Each.Lasts.eq _, Each.Lasts.when (Each.Lasts.eq _), Each.Lasts.when (Each.Lasts.eq _), Each.Lasts.when (Each.Lasts.eq _), Each.Lasts.when (Each.Lasts.eq _), Each.Lasts.when (Each.Lasts.eq _), Each.Lasts.eq _, Each.Lasts.eq _, Each.Lasts.when (Each.Lasts.eq _), Each.Lasts.when (Each.Lasts.eq _), Each.Lasts.when (Each.Lasts.eq _), Each.Lasts.when (Each.Lasts.eq _), Each.Lasts.when (Each.Lasts.eq _), Each.Lasts.eq _, Each.Lasts.eq _, Each.Lasts.when (Each.Lasts.eq _), Each.Lasts.when ((fun _ _ _ hb h => h.below hb)), Each.Lasts.when (Each.Lasts.eq _), Each.Lasts.when (Each.Lasts.eq _), Each.Lasts.when (Each.Lasts.eq _), Each.Lasts.eq _, trivial⟩ ?_ ?_
            · refine ⟨?_, ?_, ?_, ?_, ?_, ?_, ?_, ?_, ?_, ?_, ?_, ?_, ?_, ?_, ?_, ?_, ?_, ?_, ?_, ?_, ?_, ?_, ?_, ?_, ?_, ?_, ?_, ?_, ?_, ?_, ?_, ?_, ?_, ?_, ?_, trivial⟩
              · refine Each.fine rfl (fun ev w1 hR hb hh => ?_)
                clear hh
                have e13 := hR.old 13 rfl
                simp only [Array.getD_eq_getD_getElem?, List.getElem?_toArray, List.getElem?_cons_succ, List.getElem?_cons_zero, Option.getD_some] at e13
                have q0 := (HKyd.out.below hb).c 0 _ rfl
                have q1 := (HKyd.out.below hb).c 1 _ rfl
                have q2 := (HKyd.out.below hb).c 2 _ rfl
                have q3 := (HKyd.out.below hb).c 3 _ rfl
                have q4 := (HKyd.out.below hb).c 4 _ rfl
                have q5 := (HKyd.out.below hb).c 5 _ rfl
                have q6 := (HKyd.out.below hb).c 6 _ rfl
                refine Each.Goes.same ?_
                go_simp
                try with_reducible rfl
              · refine Each.fine rfl (fun ev w1 hR hb hh => ?_)
                clear hh
                have e11 := hR.old 11 rfl
                simp only [Array.getD_eq_getD_getElem?, List.getElem?_toArray, List.getElem?_cons_succ, List.getElem?_cons_zero, Option.getD_some] at e11
                have q0 := (HKxd.out.below hb).c 0 _ rfl
                have q1 := (HKxd.out.below hb).c 1 _ rfl
                have q2 := (HKxd.out.below hb).c 2 _ rfl
                have q3 := (HKxd.out.below hb).c 3 _ rfl
                have q4 := (HKxd.out.below hb).c 4 _ rfl
                have q5 := (HKxd.out.below hb).c 5 _ rfl
                have q6 := (HKxd.out.below hb).c 6 _ rfl
                refine Each.Goes.same ?_
                go_simp
                try with_reducible rfl
              · refine Each.fine rfl (fun ev w1 hR hb hh => ?_)
                have e68 : (ev (.tmp 68) = .agg #[.string y.m, .string y.x, .int .i64 y.k, .slice fay y.fs.length fcy, .bool y.ch, .slice bay y.body.length bcy, .slice tay y.ts.length tcy]) := hh.at 0
                have e69 : (ev (.tmp 69) = .agg #[.string x2.m, .string x2.x, .int .i64 x2.k, .slice fa2 x2.fs.length fc2, .bool x2.ch, .slice ba2 x2.body.length bc2, .slice ta2 x2.ts.length tc2]) := hh.at 1
                clear hh
                have ef := hR.func
                refine Each.Goes.enter 10 #[.agg #[.string y.m, .string y.x, .int .i64 y.k, .slice fay y.fs.length fcy, .bool y.ch, .slice bay y.body.length bcy, .slice tay y.ts.length tcy], .agg #[.string x2.m, .string x2.x, .int .i64 x2.k, .slice fa2 x2.fs.length fc2, .bool x2.ch, .slice ba2 x2.body.length bc2, .slice ta2 x2.ts.length tc2]] (by go_simp) ((HSm.out w1 (HRyd.out.below hb) (HRxd.out.below hb)).mono ?_)
                rintro e w2 ⟨rfl, hb2⟩
                exact ⟨_, rfl, hb2, rfl⟩
              · refine Each.fine rfl (fun ev w1 hR hb hh => ?_)
                clear hh
                have e13 := hR.old 13 rfl
                simp only [Array.getD_eq_getD_getElem?, List.getElem?_toArray, List.getElem?_cons_succ, List.getElem?_cons_zero, Option.getD_some] at e13
                have q0 := (HKyd.out.below hb).c 0 _ rfl
                have q1 := (HKyd.out.below hb).c 1 _ rfl
                have q2 := (HKyd.out.below hb).c 2 _ rfl
                have q3 := (HKyd.out.below hb).c 3 _ rfl
                have q4 := (HKyd.out.below hb).c 4 _ rfl
                have q5 := (HKyd.out.below hb).c 5 _ rfl
                have q6 := (HKyd.out.below hb).c 6 _ rfl
                refine Each.Goes.same ?_
                go_simp
                try with_reducible rfl
              · refine Each.fine rfl (fun ev w1 hR hb hh => ?_)
                clear hh
                have e11 := hR.old 11 rfl
                simp only [Array.getD_eq_getD_getElem?, List.getElem?_toArray, List.getElem?_cons_succ, List.getElem?_cons_zero, Option.getD_some] at e11
                have q0 := (HKxd.out.below hb).c 0 _ rfl
                have q1 := (HKxd.out.below hb).c 1 _ rfl
                have q2 := (HKxd.out.below hb).c 2 _ rfl
                have q3 := (HKxd.out.below hb).c 3 _ rfl
                have q4 := (HKxd.out.below hb).c 4 _ rfl
                have q5 := (HKxd.out.below hb).c 5 _ rfl
                have q6 := (HKxd.out.below hb).c 6 _ rfl
                refine Each.Goes.same ?_
                go_simp
                try with_reducible rfl
              · refine Each.fine rfl (fun ev w1 hR hb hh => ?_)
                have e71 : (ev (.tmp 71) = .agg #[.string y.m, .string y.x, .int .i64 y.k, .slice fay y.fs.length fcy, .bool y.ch, .slice bay y.body.length bcy, .slice tay y.ts.length tcy]) := hh.at 0
                have e72 : (ev (.tmp 72) = .agg #[.string x2.m, .string x2.x, .int .i64 x2.k, .slice fa2 x2.fs.length fc2, .bool x2.ch, .slice ba2 x2.body.length bc2, .slice ta2 x2.ts.length tc2]) := hh.at 1
                clear hh
                have ef := hR.func
                refine Each.Goes.enter 11 #[.agg #[.string y.m, .string y.x, .int .i64 y.k, .slice fay y.fs.length fcy, .bool y.ch, .slice bay y.body.length bcy, .slice tay y.ts.length tcy], .agg #[.string x2.m, .string x2.x, .int .i64 x2.k, .slice fa2 x2.fs.length fc2, .bool x2.ch, .slice ba2 x2.body.length bc2, .slice ta2 x2.ts.length tc2]] (by go_simp) ((HSr.out w1 (HRyd.out.below hb) (HRxd.out.below hb)).mono ?_)
                rintro e w2 ⟨rfl, hb2⟩
                exact ⟨_, rfl, hb2, rfl⟩
              · refine Each.fine rfl (fun ev w1 hR hb hh => ?_)
                have e70 : (ev (.tmp 70) = .bool sm) := hh.at 0
                have e73 : (ev (.tmp 73) = .bool sm) := hh.at 1
                clear hh
                refine Each.Goes.same ?_
                cases sm <;> (go_simp <;> try with_reducible rfl)
              · refine Each.fine rfl (fun ev w1 hR hb hh => ?_)
                have e74 : (ev (.tmp 74) = .bool false) := hh.at 0
                clear hh
                refine Each.Goes.same ?_
                go_simp
                try with_reducible rfl
              · refine Each.fine_when 7 75 rfl rfl (fun ev w1 hh => ?_) (fun hg ev w1 hR hb hh => ?_)
                · exact hh.at 0
                · clear hh
                  have e13 := hR.old 13 rfl
                  simp only [Array.getD_eq_getD_getElem?, List.getElem?_toArray, List.getElem?_cons_succ, List.getElem?_cons_zero, Option.getD_some] at e13
                  have q0 := (HKyd.out.below hb).c 0 _ rfl
                  have q1 := (HKyd.out.below hb).c 1 _ rfl
                  have q2 := (HKyd.out.below hb).c 2 _ rfl
                  have q3 := (HKyd.out.below hb).c 3 _ rfl
                  have q4 := (HKyd.out.below hb).c 4 _ rfl
                  have q5 := (HKyd.out.below hb).c 5 _ rfl
                  have q6 := (HKyd.out.below hb).c 6 _ rfl
                  refine Each.Goes.same ?_
                  go_simp
                  try with_reducible rfl
              · refine Each.fine_when 7 75 rfl rfl (fun ev w1 hh => ?_) (fun hg ev w1 hR hb hh => ?_)
                · exact hh.at 1
                · have e76 := (show ((false) = false → ev (.tmp 76) = .agg #[.string y.m, .string y.x, .int .i64 y.k, .slice fay y.fs.length fcy, .bool y.ch, .slice bay y.body.length bcy, .slice tay y.ts.length tcy]) from hh.at 0) hg
                  clear hh
                  have ef := hR.func
                  refine Each.Goes.enter 12 #[.agg #[.string y.m, .string y.x, .int .i64 y.k, .slice fay y.fs.length fcy, .bool y.ch, .slice bay y.body.length bcy, .slice tay y.ts.length tcy]] (by go_simp) ((HZm.out w1 (HRyd.out.below hb)).mono ?_)
                  rintro e w2 ⟨rfl, hb2⟩
                  exact ⟨_, rfl, hb2, rfl⟩
              · refine Each.fine_when 7 75 rfl rfl (fun ev w1 hh => ?_) (fun hg ev w1 hR hb hh => ?_)
                · exact hh.at 0
                · clear hh
                  have e13 := hR.old 13 rfl
                  simp only [Array.getD_eq_getD_getElem?, List.getElem?_toArray, List.getElem?_cons_succ, List.getElem?_cons_zero, Option.getD_some] at e13
                  have q0 := (HKyd.out.below hb).c 0 _ rfl
                  have q1 := (HKyd.out.below hb).c 1 _ rfl
                  have q2 := (HKyd.out.below hb).c 2 _ rfl
                  have q3 := (HKyd.out.below hb).c 3 _ rfl
                  have q4 := (HKyd.out.below hb).c 4 _ rfl
                  have q5 := (HKyd.out.below hb).c 5 _ rfl
                  have q6 := (HKyd.out.below hb).c 6 _ rfl
                  refine Each.Goes.same ?_
                  go_simp
                  try with_reducible rfl
              · refine Each.fine_when 7 75 rfl rfl (fun ev w1 hh => ?_) (fun hg ev w1 hR hb hh => ?_)
                · exact hh.at 2
                · have e78 := (show ((false) = false → ev (.tmp 78) = .agg #[.string y.m, .string y.x, .int .i64 y.k, .slice fay y.fs.length fcy, .bool y.ch, .slice bay y.body.length bcy, .slice tay y.ts.length tcy]) from hh.at 0) hg
                  clear hh
                  have ef := hR.func
                  refine Each.Goes.enter 13 #[.agg #[.string y.m, .string y.x, .int .i64 y.k, .slice fay y.fs.length fcy, .bool y.ch, .slice bay y.body.length bcy, .slice tay y.ts.length tcy]] (by go_simp) ((HZr.out w1 (HRyd.out.below hb)).mono ?_)
                  rintro e w2 ⟨rfl, hb2⟩
                  exact ⟨_, rfl, hb2, rfl⟩
              · refine Each.fine_when 7 75 rfl rfl (fun ev w1 hh => ?_) (fun hg ev w1 hR hb hh => ?_)
                · exact hh.at 2
                · have e77 := (show ((false) = false → ev (.tmp 77) = .int .i64 ((sz : Nat) : Int)) from hh.at 0) hg
                  have e79 := (show ((false) = false → ev (.tmp 79) = .int .i64 ((sz : Nat) : Int)) from hh.at 1) hg
                  clear hh
                  refine Each.Goes.same ?_
                  go_simp
                  try with_reducible rfl
              · refine Each.fine rfl (fun ev w1 hR hb hh => ?_)
                have e75 : (ev (.tmp 75) = .bool false) := hh.at 0
                have h80 : ((false) = false → ev (.tmp 80) = .bool false) := hh.at 1
                clear hh
                have ec := hR.const
                refine Each.Goes.same ?_
                have e80 := h80 rfl
                go_simp
                try with_reducible rfl
              · refine Each.fine rfl (fun ev w1 hR hb hh => ?_)
                have e81 : (ev (.tmp 81) = .bool ((false && true))) := hh.at 0
                clear hh
                refine Each.Goes.same ?_
                go_simp
                try with_reducible rfl
              · refine Each.fine_when 14 82 rfl rfl (fun ev w1 hh => ?_) (fun hg ev w1 hR hb hh => ?_)
                · exact hh.at 0
                · clear hh
                  have e13 := hR.old 13 rfl
                  simp only [Array.getD_eq_getD_getElem?, List.getElem?_toArray, List.getElem?_cons_succ, List.getElem?_cons_zero, Option.getD_some] at e13
                  have q0 := (HKyd.out.below hb).c 0 _ rfl
                  have q1 := (HKyd.out.below hb).c 1 _ rfl
                  have q2 := (HKyd.out.below hb).c 2 _ rfl
                  have q3 := (HKyd.out.below hb).c 3 _ rfl
                  have q4 := (HKyd.out.below hb).c 4 _ rfl
                  have q5 := (HKyd.out.below hb).c 5 _ rfl
                  have q6 := (HKyd.out.below hb).c 6 _ rfl
                  refine Each.Goes.same ?_
                  go_simp
                  try with_reducible rfl
              · refine Each.fine_when 14 82 rfl rfl (fun ev w1 hh => ?_) (fun hg ev w1 hR hb hh => ?_)
                · exact hh.at 1
                · have e83 := (show (((false && true)) = false → ev (.tmp 83) = .agg #[.string y.m, .string y.x, .int .i64 y.k, .slice fay y.fs.length fcy, .bool y.ch, .slice bay y.body.length bcy, .slice tay y.ts.length tcy]) from hh.at 0) hg
                  clear hh
                  have ef := hR.func
                  refine Each.Goes.enter 14 #[.agg #[.string y.m, .string y.x, .int .i64 y.k, .slice fay y.fs.length fcy, .bool y.ch, .slice bay y.body.length bcy, .slice tay y.ts.length tcy]] (by go_simp) ((HCm.out w1 (HRyd.out.below hb)).mono ?_)
                  rintro e w2 ⟨rfl, hb2⟩
                  exact ⟨_, rfl, hb2, rfl⟩
              · refine Each.fine_when 14 82 rfl rfl (fun ev w1 hh => ?_) (fun hg ev w1 hR hb hh => ?_)
                · exact hh.at 0
                · clear hh
                  have e13 := hR.old 13 rfl
                  simp only [Array.getD_eq_getD_getElem?, List.getElem?_toArray, List.getElem?_cons_succ, List.getElem?_cons_zero, Option.getD_some] at e13
                  have q0 := (HKyd.out.below hb).c 0 _ rfl
                  have q1 := (HKyd.out.below hb).c 1 _ rfl
                  have q2 := (HKyd.out.below hb).c 2 _ rfl
                  have q3 := (HKyd.out.below hb).c 3 _ rfl
                  have q4 := (HKyd.out.below hb).c 4 _ rfl
                  have q5 := (HKyd.out.below hb).c 5 _ rfl
                  have q6 := (HKyd.out.below hb).c 6 _ rfl
                  refine Each.Goes.same ?_
                  go_simp
                  try with_reducible rfl
              · refine Each.fine_when 14 82 rfl rfl (fun ev w1 hh => ?_) (fun hg ev w1 hR hb hh => ?_)
                · exact hh.at 2
                · have e85 := (show (((false && true)) = false → ev (.tmp 85) = .agg #[.string y.m, .string y.x, .int .i64 y.k, .slice fay y.fs.length fcy, .bool y.ch, .slice bay y.body.length bcy, .slice tay y.ts.length tcy]) from hh.at 0) hg
                  clear hh
                  have ef := hR.func
                  refine Each.Goes.enter 15 #[.agg #[.string y.m, .string y.x, .int .i64 y.k, .slice fay y.fs.length fcy, .bool y.ch, .slice bay y.body.length bcy, .slice tay y.ts.length tcy]] (by go_simp) ((HCr.out w1 (HRyd.out.below hb)).mono ?_)
                  rintro e w2 ⟨rfl, hb2⟩
                  exact ⟨_, rfl, hb2, rfl⟩
              · refine Each.fine_when 14 82 rfl rfl (fun ev w1 hh => ?_) (fun hg ev w1 hR hb hh => ?_)
                · exact hh.at 2
                · have e84 := (show (((false && true)) = false → ev (.tmp 84) = .bool cl) from hh.at 0) hg
                  have e86 := (show (((false && true)) = false → ev (.tmp 86) = .bool cl) from hh.at 1) hg
                  clear hh
                  refine Each.Goes.same ?_
                  cases cl <;> (go_simp <;> try with_reducible rfl)
              · refine Each.fine rfl (fun ev w1 hR hb hh => ?_)
                have e82 : (ev (.tmp 82) = .bool ((false && true))) := hh.at 0
                have h87 : (((false && true)) = false → ev (.tmp 87) = .bool false) := hh.at 1
                clear hh
                have ec := hR.const
                refine Each.Goes.same ?_
                rcases Bool.eq_false_or_eq_true ((false && true)) with hx | hx
                · rw [hx] at e82 ⊢
                  go_simp
                  try with_reducible rfl
                · rw [hx] at e82 ⊢
                  have e87 := h87 hx
                  go_simp
                  try with_reducible rfl
              · refine Each.fine rfl (fun ev w1 hR hb hh => ?_)
                have e88 : (ev (.tmp 88) = .bool (((false && true) && true))) := hh.at 0
                clear hh
                refine Each.Goes.same ?_
                go_simp
                try with_reducible rfl
              · refine Each.fine_when 21 89 rfl rfl (fun ev w1 hh => ?_) (fun hg ev w1 hR hb hh => ?_)
                · exact hh.at 0
                · clear hh
                  have e13 := hR.old 13 rfl
                  simp only [Array.getD_eq_getD_getElem?, List.getElem?_toArray, List.getElem?_cons_succ, List.getElem?_cons_zero, Option.getD_some] at e13
                  have q0 := (HKyd.out.below hb).c 0 _ rfl
                  have q1 := (HKyd.out.below hb).c 1 _ rfl
                  have q2 := (HKyd.out.below hb).c 2 _ rfl
                  have q3 := (HKyd.out.below hb).c 3 _ rfl
                  have q4 := (HKyd.out.below hb).c 4 _ rfl
                  have q5 := (HKyd.out.below hb).c 5 _ rfl
                  have q6 := (HKyd.out.below hb).c 6 _ rfl
                  refine Each.Goes.same ?_
                  go_simp
                  try with_reducible rfl
              · refine Each.fine_when 21 89 rfl rfl (fun ev w1 hh => ?_) (fun hg ev w1 hR hb hh => ?_)
                · exact hh.at 1
                · have e90 := (show ((((false && true) && true)) = false → ev (.tmp 90) = .agg #[.string y.m, .string y.x, .int .i64 y.k, .slice fay y.fs.length fcy, .bool y.ch, .slice bay y.body.length bcy, .slice tay y.ts.length tcy]) from hh.at 0) hg
                  clear hh
                  have ef := hR.func
                  refine Each.Goes.enter 16 #[.agg #[.string y.m, .string y.x, .int .i64 y.k, .slice fay y.fs.length fcy, .bool y.ch, .slice bay y.body.length bcy, .slice tay y.ts.length tcy]] (by go_simp) ((HEm.out w1 (HRyd.out.below hb)).mono ?_)
                  rintro e w2 ⟨rfl, hb2⟩
                  exact ⟨_, rfl, hb2, rfl⟩
              · refine Each.fine_when 21 89 rfl rfl (fun ev w1 hh => ?_) (fun hg ev w1 hR hb hh => ?_)
                · exact hh.at 0
                · clear hh
                  have e13 := hR.old 13 rfl
                  simp only [Array.getD_eq_getD_getElem?, List.getElem?_toArray, List.getElem?_cons_succ, List.getElem?_cons_zero, Option.getD_some] at e13
                  have q0 := (HKyd.out.below hb).c 0 _ rfl
                  have q1 := (HKyd.out.below hb).c 1 _ rfl
                  have q2 := (HKyd.out.below hb).c 2 _ rfl
                  have q3 := (HKyd.out.below hb).c 3 _ rfl
                  have q4 := (HKyd.out.below hb).c 4 _ rfl
                  have q5 := (HKyd.out.below hb).c 5 _ rfl
                  have q6 := (HKyd.out.below hb).c 6 _ rfl
                  refine Each.Goes.same ?_
                  go_simp
                  try with_reducible rfl
              · refine Each.fine_when 21 89 rfl rfl (fun ev w1 hh => ?_) (fun hg ev w1 hR hb hh => ?_)
                · exact hh.at 2
                · have e92 := (show ((((false && true) && true)) = false → ev (.tmp 92) = .agg #[.string y.m, .string y.x, .int .i64 y.k, .slice fay y.fs.length fcy, .bool y.ch, .slice bay y.body.length bcy, .slice tay y.ts.length tcy]) from hh.at 0) hg
                  clear hh
                  have ef := hR.func
                  refine Each.Goes.enter 17 #[.agg #[.string y.m, .string y.x, .int .i64 y.k, .slice fay y.fs.length fcy, .bool y.ch, .slice bay y.body.length bcy, .slice tay y.ts.length tcy]] (by go_simp) ((HEr.out w1 (HRyd.out.below hb)).mono ?_)
                  rintro e w2 ⟨rfl, hb2⟩
                  exact ⟨_, rfl, hb2, rfl⟩
              · refine Each.fine_when 21 89 rfl rfl (fun ev w1 hh => ?_) (fun hg ev w1 hR hb hh => ?_)
                · exact hh.at 2
                · have e91 := (show ((((false && true) && true)) = false → ev (.tmp 91) = .bool ex) from hh.at 0) hg
                  have e93 := (show ((((false && true) && true)) = false → ev (.tmp 93) = .bool ex) from hh.at 1) hg
                  clear hh
                  refine Each.Goes.same ?_
                  cases ex <;> (go_simp <;> try with_reducible rfl)
              · refine Each.fine rfl (fun ev w1 hR hb hh => ?_)
                have e89 : (ev (.tmp 89) = .bool (((false && true) && true))) := hh.at 0
                have h94 : ((((false && true) && true)) = false → ev (.tmp 94) = .bool false) := hh.at 1
                clear hh
                have ec := hR.const
                refine Each.Goes.same ?_
                rcases Bool.eq_false_or_eq_true (((false && true) && true)) with hx | hx
                · rw [hx] at e89 ⊢
                  go_simp
                  try with_reducible rfl
                · rw [hx] at e89 ⊢
                  have e94 := h94 hx
                  go_simp
                  try with_reducible rfl
              · refine Each.fine rfl (fun ev w1 hR hb hh => ?_)
                have e95 : (ev (.tmp 95) = .bool ((((false && true) && true) && true))) := hh.at 0
                clear hh
                refine Each.Goes.same ?_
                go_simp
                try with_reducible rfl
              · refine Each.fine_when 28 96 rfl rfl (fun ev w1 hh => ?_) (fun hg ev w1 hR hb hh => ?_)
                · exact hh.at 0
                · clear hh
                  have e13 := hR.old 13 rfl
                  simp only [Array.getD_eq_getD_getElem?, List.getElem?_toArray, List.getElem?_cons_succ, List.getElem?_cons_zero, Option.getD_some] at e13
                  have q0 := (HKyd.out.below hb).c 0 _ rfl
                  have q1 := (HKyd.out.below hb).c 1 _ rfl
                  have q2 := (HKyd.out.below hb).c 2 _ rfl
                  have q3 := (HKyd.out.below hb).c 3 _ rfl
                  have q4 := (HKyd.out.below hb).c 4 _ rfl
                  have q5 := (HKyd.out.below hb).c 5 _ rfl
                  have q6 := (HKyd.out.below hb).c 6 _ rfl
                  refine Each.Goes.same ?_
                  go_simp
                  try with_reducible rfl
              · refine Each.fine_when 28 96 rfl rfl (fun ev w1 hh => ?_) (fun hg ev w1 hR hb hh => ?_)
                · exact hh.at 1
                · have e97 := (show (((((false && true) && true) && true)) = false → ev (.tmp 97) = .agg #[.string y.m, .string y.x, .int .i64 y.k, .slice fay y.fs.length fcy, .bool y.ch, .slice bay y.body.length bcy, .slice tay y.ts.length tcy]) from hh.at 0) hg
                  clear hh
                  have ef := hR.func
                  refine Each.Goes.enter 18 #[.agg #[.string y.m, .string y.x, .int .i64 y.k, .slice fay y.fs.length fcy, .bool y.ch, .slice bay y.body.length bcy, .slice tay y.ts.length tcy]] (by go_simp) ((HCy.out w1 (HRyd.out.below hb)).mono ?_)
                  rintro e w2 ⟨fa', fc', ba', bc', ta', tc', rfl, ho, hb2⟩
                  exact ⟨_, rfl, hb2, ho.reads⟩
              · refine Each.fine_when 28 96 rfl rfl (fun ev w1 hh => ?_) (fun hg ev w1 hR hb hh => ?_)
                · exact hh.at 0
                · clear hh
                  have e13 := hR.old 13 rfl
                  simp only [Array.getD_eq_getD_getElem?, List.getElem?_toArray, List.getElem?_cons_succ, List.getElem?_cons_zero, Option.getD_some] at e13
                  have q0 := (HKyd.out.below hb).c 0 _ rfl
                  have q1 := (HKyd.out.below hb).c 1 _ rfl
                  have q2 := (HKyd.out.below hb).c 2 _ rfl
                  have q3 := (HKyd.out.below hb).c 3 _ rfl
                  have q4 := (HKyd.out.below hb).c 4 _ rfl
                  have q5 := (HKyd.out.below hb).c 5 _ rfl
                  have q6 := (HKyd.out.below hb).c 6 _ rfl
                  refine Each.Goes.same ?_
                  go_simp
                  try with_reducible rfl
              · refine Each.fine_when 28 96 rfl rfl (fun ev w1 hh => ?_) (fun hg ev w1 hR hb hh => ?_)
                · exact hh.at 3
                · have e98 := (show (((((false && true) && true) && true)) = false → (fun v w => Reads w v (y)) (ev (.tmp 98)) w1) from hh.at 0) hg
                  have e99 := (show (((((false && true) && true) && true)) = false → ev (.tmp 99) = .agg #[.string y.m, .string y.x, .int .i64 y.k, .slice fay y.fs.length fcy, .bool y.ch, .slice bay y.body.length bcy, .slice tay y.ts.length tcy]) from hh.at 1) hg
                  clear hh
                  have ef := hR.func
                  obtain ⟨faz, fcz, baz, bcz, taz, tcz, eaz, -⟩ := id e98
                  rw [eaz] at e98
                  refine Each.Goes.enter 11 #[.agg #[.string y.m, .string y.x, .int .i64 y.k, .slice faz y.fs.length fcz, .bool y.ch, .slice baz y.body.length bcz, .slice taz y.ts.length tcz], .agg #[.string y.m, .string y.x, .int .i64 y.k, .slice fay y.fs.length fcy, .bool y.ch, .slice bay y.body.length bcy, .slice tay y.ts.length tcy]] (by go_simp) ((HSs.out _ w1 e98 (HRyd.out.below hb)).mono ?_)
                  rintro e w2 ⟨rfl, hb2⟩
                  exact ⟨_, rfl, hb2, rfl⟩
              · refine Each.fine_when 28 96 rfl rfl (fun ev w1 hh => ?_) (fun hg ev w1 hR hb hh => ?_)
                · exact hh.at 1
                · have e100 := (show (((((false && true) && true) && true)) = false → ev (.tmp 100) = .bool true) from hh.at 0) hg
                  clear hh
                  refine Each.Goes.same ?_
                  go_simp
                  try with_reducible rfl
              · refine Each.fine rfl (fun ev w1 hR hb hh => ?_)
                have e96 : (ev (.tmp 96) = .bool ((((false && true) && true) && true))) := hh.at 0
                have h101 : (((((false && true) && true) && true)) = false → ev (.tmp 101) = .bool false) := hh.at 1
                clear hh
                have ec := hR.const
                refine Each.Goes.same ?_
                rcases Bool.eq_false_or_eq_true ((((false && true) && true) && true)) with hx | hx
                · rw [hx] at e96 ⊢
                  go_simp
                  try with_reducible rfl
                · rw [hx] at e96 ⊢
                  have e101 := h101 hx
                  go_simp
                  try with_reducible rfl
            intro g1 w7 hb hf
            have z102 : (g1 102 = .bool (((((false && true) && true) && true) && true))) := hf.at 34
            clear hf
            simp only [Each.putg, Act.put, List.setIfInBounds_toArray, List.set_cons_zero, List.set_cons_succ]
            rw [z102]
            have HBe := Lib.hid (HBb.out.trans (hb.mono (show w2.heap.size ≤ Wy.heap.size from HBb.out.size)))
            clear HBd HRyd HRxd HKyd HKxd HSm HSr HZm HZr HCm HCr HEm HEr HCy HSs HRy HKy HFy hb
            have hkk := HI.out
            go_wp2_with fail
            go_roundw
            case rel => exact ⟨k + 1, by have := HI.out; omega, by go_num, HBe⟩
            case measure => have := HI.out; simp [intOf]; omega
          · obtain rfl : k = 4 := by omega
            clear hk hge HR4a HFs
            have HBw := Lib.hid (show Below W.heap.size W (wr.drewN 1) from Base.below_drewN (Base.below_step HBa.out hbr.out) 1)
            have HBd := Lib.hid (show Below w2.heap.size w2 (wr.drewN 1) from Base.below_drewN hbr.out 1)
            have HRrd := Lib.hid (HRra.out.below HBd.out); have HRxd := Lib.hid (HRxa.out.below HBd.out)
            have HKrd := Lib.hid (HKra.out.below HBd.out); have HKxd := Lib.hid (HKxa.out.below HBd.out)
            have HBc := Lib.hid (fun w2 (h : Reads w2 (.agg #[.string raw.m, .string raw.x, .int .i64 raw.k, .slice far raw.fs.length fcr, .bool raw.ch, .slice bar raw.body.length bcr, .slice tar raw.ts.length tcr]) raw) => bent_any _ raw a2 a3 w2 h HSw.out HB2.out.1)
            have HFc := Lib.hid (bent_fit (a2.toNat % 7) a3 raw HSw.out (by have := HS.out; omega))
            obtain ⟨c1', hc1⟩ : ∃ c1', bent (a2.toNat % 7) a3 raw = c1' := ⟨_, rfl⟩
            rw [hc1] at HBc HFc
            clear hc1
            go_upto_region 15 with fail
            refine Each.region_all 11 [104, 105, 106, 107, 108, 109, 110, 111, 112, 14, 15]
                [fun v _ => v = .agg #[.string x2.m, .string x2.x, .int .i64 x2.k, .slice fa2 x2.fs.length fc2, .bool x2.ch, .slice ba2 x2.body.length bc2, .slice ta2 x2.ts.length tc2],
                  fun v _ => v = .agg #[.string raw.m, .string raw.x, .int .i64 raw.k, .slice far raw.fs.length fcr, .bool raw.ch, .slice bar raw.body.length bcr, .slice tar raw.ts.length tcr],
                  fun v w => ∃ g, v = .slice (some ⟨g, 0, none⟩) 2 2 ∧ Recs w (some ⟨g, 0, none⟩) 2 [x2, raw],
                  fun v _ => v = .agg #[.string x2.m, .string x2.x, .int .i64 x2.k, .slice fa2 x2.fs.length fc2, .bool x2.ch, .slice ba2 x2.body.length bc2, .slice ta2 x2.ts.length tc2],
                  fun v _ => v = .agg #[.string raw.m, .string raw.x, .int .i64 raw.k, .slice far raw.fs.length fcr, .bool raw.ch, .slice bar raw.body.length bcr, .slice tar raw.ts.length tcr],
                  fun v _ => v = .int .u8 a2,
                  fun v _ => v = .string a3,
                  fun v w => Reads w v (c1'),
                  fun v w => ∃ g, v = .slice (some ⟨g, 0, none⟩) 2 2 ∧ Recs w (some ⟨g, 0, none⟩) 2 [x2, c1'],
                  fun v w => ∃ g, v = .slice (some ⟨g, 0, none⟩) 2 2 ∧ Recs w (some ⟨g, 0, none⟩) 2 [x2, raw],
                  fun v w => ∃ g, v = .slice (some ⟨g, 0, none⟩) 2 2 ∧ Recs w (some ⟨g, 0, none⟩) 2 [x2, c1']]
                 (by kernel_rfl) (by kernel_rfl) (by kernel_rfl) (by kernel_rfl) (fun _ _ d _ _ h => by cases d <;> exact h) (by rfl) (by rfl)
                ⟨Each.Lasts.eq _, Each.Lasts.eq _, ((fun _ _ _ hb h => by obtain ⟨g, rfl, hB⟩ := h; exact ⟨g, rfl, hB.below hb⟩)), Each.Lasts.eq _, Each.Lasts.eq _, Each.Lasts.eq _, Each.Lasts.eq _, ((fun _ _ _ hb h => h.below hb)), ((fun _ _ _ hb h => by obtain ⟨g, rfl, hB⟩ := h; exact ⟨g, rfl, hB.below hb⟩)), ((fun _ _ _ hb h => by obtain ⟨g, rfl, hB⟩ := h; exact ⟨g, rfl, hB.below hb⟩)), ((fun _ _ _ hb h => by obtain ⟨g, rfl, hB⟩ := h; exact ⟨g, rfl, hB.below hb⟩)), trivial⟩ ?_ ?_
            · refine ⟨?_, ?_, ?_, ?_, ?_, ?_, ?_, ?_, ?_, ?_, ?_, trivial⟩
              · refine Each.fine rfl (fun ev w1 hR hb hh => ?_)
                clear hh
                have e11 := hR.old 11 rfl
                simp only [Array.getD_eq_getD_getElem?, List.getElem?_toArray, List.getElem?_cons_succ, List.getElem?_cons_zero, Option.getD_some] at e11
                have q0 := (HKxd.out.below hb).c 0 _ rfl
                have q1 := (HKxd.out.below hb).c 1 _ rfl
                have q2 := (HKxd.out.below hb).c 2 _ rfl
                have q3 := (HKxd.out.below hb).c 3 _ rfl
                have q4 := (HKxd.out.below hb).c 4 _ rfl
                have q5 := (HKxd.out.below hb).c 5 _ rfl
                have q6 := (HKxd.out.below hb).c 6 _ rfl
                refine Each.Goes.same ?_
                go_simp
                try with_reducible rfl
              · refine Each.fine rfl (fun ev w1 hR hb hh => ?_)
                clear hh
                have e5 := hR.old 5 rfl
                simp only [Array.getD_eq_getD_getElem?, List.getElem?_toArray, List.getElem?_cons_succ, List.getElem?_cons_zero, Option.getD_some] at e5
                have q0 := (HKrd.out.below hb).c 0 _ rfl
                have q1 := (HKrd.out.below hb).c 1 _ rfl
                have q2 := (HKrd.out.below hb).c 2 _ rfl
                have q3 := (HKrd.out.below hb).c 3 _ rfl
                have q4 := (HKrd.out.below hb).c 4 _ rfl
                have q5 := (HKrd.out.below hb).c 5 _ rfl
                have q6 := (HKrd.out.below hb).c 6 _ rfl
                refine Each.Goes.same ?_
                go_simp
                try with_reducible rfl
              · refine Each.fine rfl (fun ev w1 hR hb hh => ?_)
                have e104 : (ev (.tmp 104) = .agg #[.string x2.m, .string x2.x, .int .i64 x2.k, .slice fa2 x2.fs.length fc2, .bool x2.ch, .slice ba2 x2.body.length bc2, .slice ta2 x2.ts.length tc2]) := hh.at 0
                have e105 : (ev (.tmp 105) = .agg #[.string raw.m, .string raw.x, .int .i64 raw.k, .slice far raw.fs.length fcr, .bool raw.ch, .slice bar raw.body.length bcr, .slice tar raw.ts.length tcr]) := hh.at 1
                clear hh
                have hba : Below w1.heap.size w1 (w1.alloc (.cells #[.string x2.m, .string x2.x, .int .i64 x2.k, .slice fa2 x2.fs.length fc2, .bool x2.ch, .slice ba2 x2.body.length bc2, .slice ta2 x2.ts.length tc2, .string raw.m, .string raw.x, .int .i64 raw.k, .slice far raw.fs.length fcr, .bool raw.ch, .slice bar raw.body.length bcr, .slice tar raw.ts.length tcr] 25)) := (Below.refl _ _).alloc (Nat.le_refl _) _
                exact Each.Goes.value (.slice (some ⟨w1.heap.size, 0, none⟩) 2 2) (w1.alloc (.cells #[.string x2.m, .string x2.x, .int .i64 x2.k, .slice fa2 x2.fs.length fc2, .bool x2.ch, .slice ba2 x2.body.length bc2, .slice ta2 x2.ts.length tc2, .string raw.m, .string raw.x, .int .i64 raw.k, .slice far raw.fs.length fcr, .bool raw.ch, .slice bar raw.body.length bcr, .slice tar raw.ts.length tcr] 25)) (by go_simp) hba ⟨_, rfl, Recs.two (c1 := #[.string x2.m, .string x2.x, .int .i64 x2.k, .slice fa2 x2.fs.length fc2, .bool x2.ch, .slice ba2 x2.body.length bc2, .slice ta2 x2.ts.length tc2]) (c2 := #[.string raw.m, .string raw.x, .int .i64 raw.k, .slice far raw.fs.length fcr, .bool raw.ch, .slice bar raw.body.length bcr, .slice tar raw.ts.length tcr]) (Bk.new w1 _ rfl 25 [.string x2.m, .string x2.x, .int .i64 x2.k, .slice fa2 x2.fs.length fc2, .bool x2.ch, .slice ba2 x2.body.length bc2, .slice ta2 x2.ts.length tc2, .string raw.m, .string raw.x, .int .i64 raw.k, .slice far raw.fs.length fcr, .bool raw.ch, .slice bar raw.body.length bcr, .slice tar raw.ts.length tcr]) ((HRxd.out.below hb).below hba) ((HRrd.out.below hb).below hba)⟩
              · refine Each.fine rfl (fun ev w1 hR hb hh => ?_)
                clear hh
                have e11 := hR.old 11 rfl
                simp only [Array.getD_eq_getD_getElem?, List.getElem?_toArray, List.getElem?_cons_succ, List.getElem?_cons_zero, Option.getD_some] at e11
                have q0 := (HKxd.out.below hb).c 0 _ rfl
                have q1 := (HKxd.out.below hb).c 1 _ rfl
                have q2 := (HKxd.out.below hb).c 2 _ rfl
                have q3 := (HKxd.out.below hb).c 3 _ rfl
                have q4 := (HKxd.out.below hb).c 4 _ rfl
                have q5 := (HKxd.out.below hb).c 5 _ rfl
                have q6 := (HKxd.out.below hb).c 6 _ rfl
                refine Each.Goes.same ?_
                go_simp
                try with_reducible rfl
              · refine Each.fine rfl (fun ev w1 hR hb hh => ?_)
                clear hh
                have e5 := hR.old 5 rfl
                simp only [Array.getD_eq_getD_getElem?, List.getElem?_toArray, List.getElem?_cons_succ, List.getElem?_cons_zero, Option.getD_some] at e5
                have q0 := (HKrd.out.below hb).c 0 _ rfl
                have q1 := (HKrd.out.below hb).c 1 _ rfl
                have q2 := (HKrd.out.below hb).c 2 _ rfl
                have q3 := (HKrd.out.below hb).c 3 _ rfl
                have q4 := (HKrd.out.below hb).c 4 _ rfl
                have q5 := (HKrd.out.below hb).c 5 _ rfl
                have q6 := (HKrd.out.below hb).c 6 _ rfl
                refine Each.Goes.same ?_
                go_simp
                try with_reducible rfl
              · refine Each.fine rfl (fun ev w1 hR hb hh => ?_)
                clear hh
                have e2 := hR.old 2 rfl
                simp only [Array.getD_eq_getD_getElem?, List.getElem?_toArray, List.getElem?_cons_succ, List.getElem?_cons_zero, Option.getD_some] at e2
                refine Each.Goes.same ?_
                go_simp
                try with_reducible rfl
              · refine Each.fine rfl (fun ev w1 hR hb hh => ?_)
                clear hh
                have e3 := hR.old 3 rfl
                simp only [Array.getD_eq_getD_getElem?, List.getElem?_toArray, List.getElem?_cons_succ, List.getElem?_cons_zero, Option.getD_some] at e3
                refine Each.Goes.same ?_
                go_simp
                try with_reducible rfl
              · refine Each.fine rfl (fun ev w1 hR hb hh => ?_)
                have e108 : (ev (.tmp 108) = .agg #[.string raw.m, .string raw.x, .int .i64 raw.k, .slice far raw.fs.length fcr, .bool raw.ch, .slice bar raw.body.length bcr, .slice tar raw.ts.length tcr]) := hh.at 0
                have e109 : (ev (.tmp 109) = .int .u8 a2) := hh.at 1
                have e110 : (ev (.tmp 110) = .string a3) := hh.at 2
                clear hh
                have ef := hR.func
                refine Each.Goes.enter 9 #[.agg #[.string raw.m, .string raw.x, .int .i64 raw.k, .slice far raw.fs.length fcr, .bool raw.ch, .slice bar raw.body.length bcr, .slice tar raw.ts.length tcr], .int .u8 a2, .string a3] (by go_simp) ((HBc.out w1 (HRrd.out.below hb)).mono ?_)
                rintro e w2 ⟨V', rfl, hR, hb2⟩
                exact ⟨_, rfl, hb2, hR⟩
              · refine Each.fine rfl (fun ev w1 hR hb hh => ?_)
                have e107 : (ev (.tmp 107) = .agg #[.string x2.m, .string x2.x, .int .i64 x2.k, .slice fa2 x2.fs.length fc2, .bool x2.ch, .slice ba2 x2.body.length bc2, .slice ta2 x2.ts.length tc2]) := hh.at 0
                have e111 : ((fun v w => Reads w v (c1')) (ev (.tmp 111)) w1) := hh.at 1
                clear hh
                obtain ⟨fap, fcp, bap, bcp, tap, tcp, eap, -⟩ := id e111
                rw [eap] at e111
                have hba : Below w1.heap.size w1 (w1.alloc (.cells #[.string x2.m, .string x2.x, .int .i64 x2.k, .slice fa2 x2.fs.length fc2, .bool x2.ch, .slice ba2 x2.body.length bc2, .slice ta2 x2.ts.length tc2, .string c1'.m, .string c1'.x, .int .i64 c1'.k, .slice fap c1'.fs.length fcp, .bool c1'.ch, .slice bap c1'.body.length bcp, .slice tap c1'.ts.length tcp] 25)) := (Below.refl _ _).alloc (Nat.le_refl _) _
                exact Each.Goes.value (.slice (some ⟨w1.heap.size, 0, none⟩) 2 2) (w1.alloc (.cells #[.string x2.m, .string x2.x, .int .i64 x2.k, .slice fa2 x2.fs.length fc2, .bool x2.ch, .slice ba2 x2.body.length bc2, .slice ta2 x2.ts.length tc2, .string c1'.m, .string c1'.x, .int .i64 c1'.k, .slice fap c1'.fs.length fcp, .bool c1'.ch, .slice bap c1'.body.length bcp, .slice tap c1'.ts.length tcp] 25)) (by go_simp) hba ⟨_, rfl, Recs.two (c1 := #[.string x2.m, .string x2.x, .int .i64 x2.k, .slice fa2 x2.fs.length fc2, .bool x2.ch, .slice ba2 x2.body.length bc2, .slice ta2 x2.ts.length tc2]) (c2 := #[.string c1'.m, .string c1'.x, .int .i64 c1'.k, .slice fap c1'.fs.length fcp, .bool c1'.ch, .slice bap c1'.body.length bcp, .slice tap c1'.ts.length tcp]) (Bk.new w1 _ rfl 25 [.string x2.m, .string x2.x, .int .i64 x2.k, .slice fa2 x2.fs.length fc2, .bool x2.ch, .slice ba2 x2.body.length bc2, .slice ta2 x2.ts.length tc2, .string c1'.m, .string c1'.x, .int .i64 c1'.k, .slice fap c1'.fs.length fcp, .bool c1'.ch, .slice bap c1'.body.length bcp, .slice tap c1'.ts.length tcp]) ((HRxd.out.below hb).below hba) (e111.below hba)⟩
              · refine Each.fine rfl (fun ev w1 hR hb hh => ?_)
                have e106 : ((fun v w => ∃ g, v = .slice (some ⟨g, 0, none⟩) 2 2 ∧ Recs w (some ⟨g, 0, none⟩) 2 [x2, raw]) (ev (.tmp 106)) w1) := hh.at 0
                clear hh
                refine Each.Goes.value (ev (.tmp 106)) w1 ?_ (Below.refl _ _) e106
                go_simp
              · refine Each.fine rfl (fun ev w1 hR hb hh => ?_)
                have e112 : ((fun v w => ∃ g, v = .slice (some ⟨g, 0, none⟩) 2 2 ∧ Recs w (some ⟨g, 0, none⟩) 2 [x2, c1']) (ev (.tmp 112)) w1) := hh.at 0
                clear hh
                refine Each.Goes.value (ev (.tmp 112)) w1 ?_ (Below.refl _ _) e112
                go_simp
            intro g1 w5 hb hf
            have z106 : ((fun v w => ∃ g, v = .slice (some ⟨g, 0, none⟩) 2 2 ∧ Recs w (some ⟨g, 0, none⟩) 2 [x2, raw]) (g1 106) w5) := hf.at 2
            have z112 : ((fun v w => ∃ g, v = .slice (some ⟨g, 0, none⟩) 2 2 ∧ Recs w (some ⟨g, 0, none⟩) 2 [x2, c1']) (g1 112) w5) := hf.at 8
            have z14 : ((fun v w => ∃ g, v = .slice (some ⟨g, 0, none⟩) 2 2 ∧ Recs w (some ⟨g, 0, none⟩) 2 [x2, raw]) (g1 14) w5) := hf.at 9
            have z15 : ((fun v w => ∃ g, v = .slice (some ⟨g, 0, none⟩) 2 2 ∧ Recs w (some ⟨g, 0, none⟩) 2 [x2, c1']) (g1 15) w5) := hf.at 10
            clear hf
            simp only [Each.putg, Act.put, List.setIfInBounds_toArray, List.set_cons_zero, List.set_cons_succ]
            obtain ⟨ga, ea, hra⟩ := z14
            obtain ⟨gb, eb, hrb⟩ := z15
            obtain ⟨gc, ec, -⟩ := z106
            obtain ⟨gd, ed, -⟩ := z112
            rw [ea, eb, ec, ed]
            have HBf := Lib.hid (Base.below_step (Base.below_step HBa.out hbr.out) hb)
            have HBx := Lib.hid (show Below w2.heap.size w2 w5 from hbr.out.trans (hb.mono (show w2.heap.size ≤ wr.heap.size from hbr.out.size)))
            have HKxe := Lib.hid ((HKxa.out.below HBx.out).drew 1); have HRxe := Lib.hid ((HRxa.out.below HBx.out).below (Base.below_drewN (Below.refl _ _) 1))
            have HRA := Lib.hid (hra.below (Base.below_drewN (Below.refl w5.heap.size w5) 1)); have HRB := Lib.hid (hrb.below (Base.below_drewN (Below.refl w5.heap.size w5) 1))
            have HFA := Lib.hid (show ∀ r ∈ [x2, raw], Fit r from fun r hr => by
              rcases (by simpa using hr : r = x2 ∨ r = raw) with rfl | rfl
              · exact HFx.out
              · exact HFr.out)
            have HFB := Lib.hid (show ∀ r ∈ [x2, c1'], Fit r from fun r hr => by
              rcases (by simpa using hr : r = x2 ∨ r = c1') with rfl | rfl
              · exact HFx.out
              · exact HFc.out)
            have HF1' := Lib.hid (show ∀ r ∈ [x2], Fit r from fun r hr => by
              obtain rfl : r = x2 := by simpa using hr
              exact HFx.out)
            have HAB := Lib.hid (fun w (h1 : Recs w (some ⟨ga, 0, none⟩) 2 [x2, raw]) (h2 : Recs w (some ⟨gb, 0, none⟩) 2 [x2, c1']) => all_any _ 2 2 _ _ 2 2 _ w h1 h2 (by decide) (by decide) HFA.out HFB.out)
            have HABr := Lib.hid (fun w (h1 : Recs w (some ⟨ga, 0, none⟩) 2 [x2, raw]) (h2 : Recs w (some ⟨gb, 0, none⟩) 2 [x2, c1']) => rall_any _ 2 2 _ _ 2 2 _ w h1 h2 (by decide) (by decide) HFA.out HFB.out)
            have HAA := Lib.hid (fun w (h1 : Recs w (some ⟨ga, 0, none⟩) 2 [x2, raw]) => all_any _ 2 2 _ _ 2 2 _ w h1 h1 (by decide) (by decide) HFA.out HFA.out)
            have HA1 := Lib.hid (fun w (h1 : Recs w (some ⟨ga, 0, none⟩) 2 [x2, raw]) (h2 : Recs w (some ⟨ga, 0, none⟩) 1 [x2]) => all_any _ 2 2 _ _ 1 2 _ w h1 h2 (by decide) (by decide) HFA.out HF1'.out)
            rw [all_self] at HAA
            rw [all_len _ _ (by simp)] at HA1
            obtain ⟨al, hal⟩ : ∃ al, all [x2, raw] [x2, c1'] = al := ⟨_, rfl⟩
            rw [hal] at HAB HABr
            have HSn := Lib.hid (fun (V : Value) w (h1 : Reads w (.agg #[.string x2.m, .string x2.x, .int .i64 x2.k, .slice fa2 x2.fs.length fc2, .bool x2.ch, .slice ba2 x2.body.length bc2, .slice ta2 x2.ts.length tc2]) x2) (h2 : Reads w V b1) => same_any _ V x2 b1 w h1 h2 HFx.out HF1.out)
            rw [HN1.out] at HSn
            clear hal hb hra hrb ea eb ec ed
            go_upto_region 16 with fail
            refine Each.region 28 [113, 114, 115, 116, 117, 118, 119, 120, 121, 122, 123, 124, 125, 126, 127, 128, 129, 130, 131, 132, 133, 134, 135, 136, 137, 138, 139, 140]
                [fun v _ => v = .slice (some ⟨ga, 0, none⟩) 2 2,
                  fun v _ => v = .slice (some ⟨gb, 0, none⟩) 2 2,
                  fun v _ => v = .bool al,
                  fun v _ => v = .slice (some ⟨ga, 0, none⟩) 2 2,
                  fun v _ => v = .slice (some ⟨gb, 0, none⟩) 2 2,
                  fun v _ => v = .bool al,
                  fun v _ => v = .bool true,
                  fun v _ => v = .bool true,
                  Each.When (true) true (fun v _ => v = .slice (some ⟨ga, 0, none⟩) 2 2),
                  Each.When (true) true (fun v _ => v = .slice (some ⟨ga, 0, none⟩) 2 2),
                  Each.When (true) true (fun v _ => v = .bool true),
                  fun v _ => v = .bool true,
                  fun v _ => v = .bool true,
                  Each.When (true) true (fun v _ => v = .slice (some ⟨ga, 0, none⟩) 2 2),
                  Each.When (true) true (fun v _ => v = .slice (some ⟨ga, 0, none⟩) 2 2),
                  Each.When (true) true (fun v _ => v = .slice (some ⟨ga, 0, none⟩) 1 2),
                  Each.When (true) true (fun v _ => v = .bool false),
                  Each.When (true) true (fun v _ => v = .bool true),
                  fun v _ => v = .bool true,
                  fun v _ => v = .bool true,
                  Each.When (true) true (fun v _ => v = .agg #[.string x2.m, .string x2.x, .int .i64 x2.k, .slice fa2 x2.fs.length fc2, .bool x2.ch, .slice ba2 x2.body.length bc2, .slice ta2 x2.ts.length tc2]),
                  Each.When (true) true (fun v _ => v = .agg #[.string x2.m, .string x2.x, .int .i64 x2.k, .slice fa2 x2.fs.length fc2, .bool x2.ch, .slice ba2 x2.body.length bc2, .slice ta2 x2.ts.length tc2]),
                  Each.When (true) true (fun v _ => v = .int .u8 a2),
                  Each.When (true) true (fun v _ => v = .string a3),
                  Each.When (true) true (fun v w => Reads w v (b1)),
                  Each.When (true) true (fun v _ => v = .bool false),
                  Each.When (true) true (fun v _ => v = .bool true),
                  fun v _ => v = .bool true]
                (.quiet 28 .done) (by kernel_rfl) (by kernel_rfl) (by kernel_rfl) (by kernel_rfl) (fun _ _ d _ _ h => by cases d <;> exact h) (by rfl) (by rfl)
                ⟨Each.Lasts.eq _, Each.Lasts.eq _, Each.Lasts.eq _, Each.Lasts.eq _, Each.Lasts.eq _, Each.Lasts.eq _, Each.Lasts.eq _, Each.Lasts.eq _, Each.Lasts.when (Each.Lasts.eq _), Each.Lasts.when (Each.Lasts.eq _), Each.Lasts.when (Each.Lasts.eq _), Each.Lasts.eq _, Each.Lasts.eq _, Each.Lasts.when (Each.Lasts.eq _), Each.Lasts.when (Each.Lasts.eq _), Each.Lasts.when (Each.Lasts.eq _), Each.Lasts.when (Each.Lasts.eq _), Each.Lasts.when (Each.Lasts.eq _), Each.Lasts.eq _, Each.Lasts.eq _, Each.Lasts.when (Each.Lasts.eq _), Each.Lasts.when (Each.Lasts.eq _), Each.Lasts.when (Each.Lasts.eq _), Each.Lasts.when (Each.Lasts.eq _), Each.Lasts.when ((fun _ _ _ hb h => h.below hb)), Each.Lasts.when (Each.Lasts.eq _), Each.Lasts.when (Each.Lasts.eq _), Each.Lasts.eq _, trivial⟩ ?_ ?_
            · refine ⟨?_, ?_, ?_, ?_, ?_, ?_, ?_, ?_, ?_, ?_, ?_, ?_, ?_, ?_, ?_, ?_, ?_, ?_, ?_, ?_, ?_, ?_, ?_, ?_, ?_, ?_, ?_, ?_, trivial⟩
              · refine Each.fine rfl (fun ev w1 hR hb hh => ?_)
                clear hh
                have e14 := hR.old 14 rfl
                simp only [Array.getD_eq_getD_getElem?, List.getElem?_toArray, List.getElem?_cons_succ, List.getElem?_cons_zero, Option.getD_some] at e14
                refine Each.Goes.same ?_
                go_simp
                try with_reducible rfl
              · refine Each.fine rfl (fun ev w1 hR hb hh => ?_)
                clear hh
                have e15 := hR.old 15 rfl
                simp only [Array.getD_eq_getD_getElem?, List.getElem?_toArray, List.getElem?_cons_succ, List.getElem?_cons_zero, Option.getD_some] at e15
                refine Each.Goes.same ?_
                go_simp
                try with_reducible rfl
              · refine Each.fine rfl (fun ev w1 hR hb hh => ?_)
                have e113 : (ev (.tmp 113) = .slice (some ⟨ga, 0, none⟩) 2 2) := hh.at 0
                have e114 : (ev (.tmp 114) = .slice (some ⟨gb, 0, none⟩) 2 2) := hh.at 1
                clear hh
                have ef := hR.func
                refine Each.Goes.enter 19 #[.slice (some ⟨ga, 0, none⟩) 2 2, .slice (some ⟨gb, 0, none⟩) 2 2] (by go_simp) ((HAB.out w1 (HRA.out.below hb) (HRB.out.below hb)).mono ?_)
                rintro e w2 ⟨rfl, hb2⟩
                exact ⟨_, rfl, hb2, rfl⟩
              · refine Each.fine rfl (fun ev w1 hR hb hh => ?_)
                clear hh
                have e14 := hR.old 14 rfl
                simp only [Array.getD_eq_getD_getElem?, List.getElem?_toArray, List.getElem?_cons_succ, List.getElem?_cons_zero, Option.getD_some] at e14
                refine Each.Goes.same ?_
                go_simp
                try with_reducible rfl
              · refine Each.fine rfl (fun ev w1 hR hb hh => ?_)
                clear hh
                have e15 := hR.old 15 rfl
                simp only [Array.getD_eq_getD_getElem?, List.getElem?_toArray, List.getElem?_cons_succ, List.getElem?_cons_zero, Option.getD_some] at e15
                refine Each.Goes.same ?_
                go_simp
                try with_reducible rfl
              · refine Each.fine rfl (fun ev w1 hR hb hh => ?_)
                have e116 : (ev (.tmp 116) = .slice (some ⟨ga, 0, none⟩) 2 2) := hh.at 0
                have e117 : (ev (.tmp 117) = .slice (some ⟨gb, 0, none⟩) 2 2) := hh.at 1
                clear hh
                have ef := hR.func
                refine Each.Goes.enter 20 #[.slice (some ⟨ga, 0, none⟩) 2 2, .slice (some ⟨gb, 0, none⟩) 2 2] (by go_simp) ((HABr.out w1 (HRA.out.below hb) (HRB.out.below hb)).mono ?_)
                rintro e w2 ⟨rfl, hb2⟩
                exact ⟨_, rfl, hb2, rfl⟩
              · refine Each.fine rfl (fun ev w1 hR hb hh => ?_)
                have e115 : (ev (.tmp 115) = .bool al) := hh.at 0
                have e118 : (ev (.tmp 118) = .bool al) := hh.at 1
                clear hh
                refine Each.Goes.same ?_
                cases al <;> (go_simp <;> try with_reducible rfl)
              · refine Each.fine rfl (fun ev w1 hR hb hh => ?_)
                have e119 : (ev (.tmp 119) = .bool true) := hh.at 0
                clear hh
                refine Each.Goes.same ?_
                go_simp
                try with_reducible rfl
              · refine Each.fine_when 7 120 rfl rfl (fun ev w1 hh => ?_) (fun hg ev w1 hR hb hh => ?_)
                · exact hh.at 0
                · clear hh
                  have e14 := hR.old 14 rfl
                  simp only [Array.getD_eq_getD_getElem?, List.getElem?_toArray, List.getElem?_cons_succ, List.getElem?_cons_zero, Option.getD_some] at e14
                  refine Each.Goes.same ?_
                  go_simp
                  try with_reducible rfl
              · refine Each.fine_when 7 120 rfl rfl (fun ev w1 hh => ?_) (fun hg ev w1 hR hb hh => ?_)
                · exact hh.at 0
                · clear hh
                  have e14 := hR.old 14 rfl
                  simp only [Array.getD_eq_getD_getElem?, List.getElem?_toArray, List.getElem?_cons_succ, List.getElem?_cons_zero, Option.getD_some] at e14
                  refine Each.Goes.same ?_
                  go_simp
                  try with_reducible rfl
              · refine Each.fine_when 7 120 rfl rfl (fun ev w1 hh => ?_) (fun hg ev w1 hR hb hh => ?_)
                · exact hh.at 2
                · have e121 := (show ((true) = true → ev (.tmp 121) = .slice (some ⟨ga, 0, none⟩) 2 2) from hh.at 0) hg
                  have e122 := (show ((true) = true → ev (.tmp 122) = .slice (some ⟨ga, 0, none⟩) 2 2) from hh.at 1) hg
                  clear hh
                  have ef := hR.func
                  refine Each.Goes.enter 19 #[.slice (some ⟨ga, 0, none⟩) 2 2, .slice (some ⟨ga, 0, none⟩) 2 2] (by go_simp) ((HAA.out w1 (HRA.out.below hb)).mono ?_)
                  rintro e w2 ⟨rfl, hb2⟩
                  exact ⟨_, rfl, hb2, rfl⟩
              · refine Each.fine rfl (fun ev w1 hR hb hh => ?_)
                have e120 : (ev (.tmp 120) = .bool true) := hh.at 0
                have h123 : ((true) = true → ev (.tmp 123) = .bool true) := hh.at 1
                clear hh
                have ec := hR.const
                refine Each.Goes.same ?_
                have e123 := h123 rfl
                go_simp
                try with_reducible rfl
              · refine Each.fine rfl (fun ev w1 hR hb hh => ?_)
                have e124 : (ev (.tmp 124) = .bool true) := hh.at 0
                clear hh
                refine Each.Goes.same ?_
                go_simp
                try with_reducible rfl
              · refine Each.fine_when 12 125 rfl rfl (fun ev w1 hh => ?_) (fun hg ev w1 hR hb hh => ?_)
                · exact hh.at 0
                · clear hh
                  have e14 := hR.old 14 rfl
                  simp only [Array.getD_eq_getD_getElem?, List.getElem?_toArray, List.getElem?_cons_succ, List.getElem?_cons_zero, Option.getD_some] at e14
                  refine Each.Goes.same ?_
                  go_simp
                  try with_reducible rfl
              · refine Each.fine_when 12 125 rfl rfl (fun ev w1 hh => ?_) (fun hg ev w1 hR hb hh => ?_)
                · exact hh.at 0
                · clear hh
                  have e14 := hR.old 14 rfl
                  simp only [Array.getD_eq_getD_getElem?, List.getElem?_toArray, List.getElem?_cons_succ, List.getElem?_cons_zero, Option.getD_some] at e14
                  refine Each.Goes.same ?_
                  go_simp
                  try with_reducible rfl
              · refine Each.fine_when 12 125 rfl rfl (fun ev w1 hh => ?_) (fun hg ev w1 hR hb hh => ?_)
                · exact hh.at 1
                · have e127 := (show ((true) = true → ev (.tmp 127) = .slice (some ⟨ga, 0, none⟩) 2 2) from hh.at 0) hg
                  clear hh
                  have ec := hR.const
                  refine Each.Goes.same ?_
                  go_simp
                  try with_reducible rfl
              · refine Each.fine_when 12 125 rfl rfl (fun ev w1 hh => ?_) (fun hg ev w1 hR hb hh => ?_)
                · exact hh.at 2
                · have e126 := (show ((true) = true → ev (.tmp 126) = .slice (some ⟨ga, 0, none⟩) 2 2) from hh.at 0) hg
                  have e128 := (show ((true) = true → ev (.tmp 128) = .slice (some ⟨ga, 0, none⟩) 1 2) from hh.at 1) hg
                  clear hh
                  have ef := hR.func
                  refine Each.Goes.enter 19 #[.slice (some ⟨ga, 0, none⟩) 2 2, .slice (some ⟨ga, 0, none⟩) 1 2] (by go_simp) ((HA1.out w1 (HRA.out.below hb) (Recs.first (HRA.out.below hb))).mono ?_)
                  rintro e w2 ⟨rfl, hb2⟩
                  exact ⟨_, rfl, hb2, rfl⟩
              · refine Each.fine_when 12 125 rfl rfl (fun ev w1 hh => ?_) (fun hg ev w1 hR hb hh => ?_)
                · exact hh.at 1
                · have e129 := (show ((true) = true → ev (.tmp 129) = .bool false) from hh.at 0) hg
                  clear hh
                  refine Each.Goes.same ?_
                  go_simp
                  try with_reducible rfl
              · refine Each.fine rfl (fun ev w1 hR hb hh => ?_)
                have e125 : (ev (.tmp 125) = .bool true) := hh.at 0
                have h130 : ((true) = true → ev (.tmp 130) = .bool true) := hh.at 1
                clear hh
                have ec := hR.const
                refine Each.Goes.same ?_
                have e130 := h130 rfl
                go_simp
                try with_reducible rfl
              · refine Each.fine rfl (fun ev w1 hR hb hh => ?_)
                have e131 : (ev (.tmp 131) = .bool true) := hh.at 0
                clear hh
                refine Each.Goes.same ?_
                go_simp
                try with_reducible rfl
              · refine Each.fine_when 19 132 rfl rfl (fun ev w1 hh => ?_) (fun hg ev w1 hR hb hh => ?_)
                · exact hh.at 0
                · clear hh
                  have e11 := hR.old 11 rfl
                  simp only [Array.getD_eq_getD_getElem?, List.getElem?_toArray, List.getElem?_cons_succ, List.getElem?_cons_zero, Option.getD_some] at e11
                  have q0 := (HKxe.out.below hb).c 0 _ rfl
                  have q1 := (HKxe.out.below hb).c 1 _ rfl
                  have q2 := (HKxe.out.below hb).c 2 _ rfl
                  have q3 := (HKxe.out.below hb).c 3 _ rfl
                  have q4 := (HKxe.out.below hb).c 4 _ rfl
                  have q5 := (HKxe.out.below hb).c 5 _ rfl
                  have q6 := (HKxe.out.below hb).c 6 _ rfl
                  refine Each.Goes.same ?_
                  go_simp
                  try with_reducible rfl
              · refine Each.fine_when 19 132 rfl rfl (fun ev w1 hh => ?_) (fun hg ev w1 hR hb hh => ?_)
                · exact hh.at 0
                · clear hh
                  have e11 := hR.old 11 rfl
                  simp only [Array.getD_eq_getD_getElem?, List.getElem?_toArray, List.getElem?_cons_succ, List.getElem?_cons_zero, Option.getD_some] at e11
                  have q0 := (HKxe.out.below hb).c 0 _ rfl
                  have q1 := (HKxe.out.below hb).c 1 _ rfl
                  have q2 := (HKxe.out.below hb).c 2 _ rfl
                  have q3 := (HKxe.out.below hb).c 3 _ rfl
                  have q4 := (HKxe.out.below hb).c 4 _ rfl
                  have q5 := (HKxe.out.below hb).c 5 _ rfl
                  have q6 := (HKxe.out.below hb).c 6 _ rfl
                  refine Each.Goes.same ?_
                  go_simp
                  try with_reducible rfl
              · refine Each.fine_when 19 132 rfl rfl (fun ev w1 hh => ?_) (fun hg ev w1 hR hb hh => ?_)
                · exact hh.at 0
                · clear hh
                  have e2 := hR.old 2 rfl
                  simp only [Array.getD_eq_getD_getElem?, List.getElem?_toArray, List.getElem?_cons_succ, List.getElem?_cons_zero, Option.getD_some] at e2
                  refine Each.Goes.same ?_
                  go_simp
                  try with_reducible rfl
              · refine Each.fine_when 19 132 rfl rfl (fun ev w1 hh => ?_) (fun hg ev w1 hR hb hh => ?_)
                · exact hh.at 0
                · clear hh
                  have e3 := hR.old 3 rfl
                  simp only [Array.getD_eq_getD_getElem?, List.getElem?_toArray, List.getElem?_cons_succ, List.getElem?_cons_zero, Option.getD_some] at e3
                  refine Each.Goes.same ?_
                  go_simp
                  try with_reducible rfl
              · refine Each.fine_when 19 132 rfl rfl (fun ev w1 hh => ?_) (fun hg ev w1 hR hb hh => ?_)
                · exact hh.at 3
                · have e134 := (show ((true) = true → ev (.tmp 134) = .agg #[.string x2.m, .string x2.x, .int .i64 x2.k, .slice fa2 x2.fs.length fc2, .bool x2.ch, .slice ba2 x2.body.length bc2, .slice ta2 x2.ts.length tc2]) from hh.at 0) hg
                  have e135 := (show ((true) = true → ev (.tmp 135) = .int .u8 a2) from hh.at 1) hg
                  have e136 := (show ((true) = true → ev (.tmp 136) = .string a3) from hh.at 2) hg
                  clear hh
                  have ef := hR.func
                  refine Each.Goes.enter 9 #[.agg #[.string x2.m, .string x2.x, .int .i64 x2.k, .slice fa2 x2.fs.length fc2, .bool x2.ch, .slice ba2 x2.body.length bc2, .slice ta2 x2.ts.length tc2], .int .u8 a2, .string a3] (by go_simp) ((HBn.out w1 (HRxe.out.below hb)).mono ?_)
                  rintro e w2 ⟨V', rfl, hR, hb2⟩
                  exact ⟨_, rfl, hb2, hR⟩
              · refine Each.fine_when 19 132 rfl rfl (fun ev w1 hh => ?_) (fun hg ev w1 hR hb hh => ?_)
                · exact hh.at 3
                · have e133 := (show ((true) = true → ev (.tmp 133) = .agg #[.string x2.m, .string x2.x, .int .i64 x2.k, .slice fa2 x2.fs.length fc2, .bool x2.ch, .slice ba2 x2.body.length bc2, .slice ta2 x2.ts.length tc2]) from hh.at 0) hg
                  have e137 := (show ((true) = true → (fun v w => Reads w v (b1)) (ev (.tmp 137)) w1) from hh.at 1) hg
                  clear hh
                  have ef := hR.func
                  obtain ⟨fap, fcp, bap, bcp, tap, tcp, eap, -⟩ := id e137
                  rw [eap] at e137
                  refine Each.Goes.enter 10 #[.agg #[.string x2.m, .string x2.x, .int .i64 x2.k, .slice fa2 x2.fs.length fc2, .bool x2.ch, .slice ba2 x2.body.length bc2, .slice ta2 x2.ts.length tc2], .agg #[.string b1.m, .string b1.x, .int .i64 b1.k, .slice fap b1.fs.length fcp, .bool b1.ch, .slice bap b1.body.length bcp, .slice tap b1.ts.length tcp]] (by go_simp) ((HSn.out _ w1 (HRxe.out.below hb) e137).mono ?_)
                  rintro e w2 ⟨rfl, hb2⟩
                  exact ⟨_, rfl, hb2, rfl⟩
              · refine Each.fine_when 19 132 rfl rfl (fun ev w1 hh => ?_) (fun hg ev w1 hR hb hh => ?_)
                · exact hh.at 1
                · have e138 := (show ((true) = true → ev (.tmp 138) = .bool false) from hh.at 0) hg
                  clear hh
                  refine Each.Goes.same ?_
                  go_simp
                  try with_reducible rfl
              · refine Each.fine rfl (fun ev w1 hR hb hh => ?_)
                have e132 : (ev (.tmp 132) = .bool true) := hh.at 0
                have h139 : ((true) = true → ev (.tmp 139) = .bool true) := hh.at 1
                clear hh
                have ec := hR.const
                refine Each.Goes.same ?_
                have e139 := h139 rfl
                go_simp
                try with_reducible rfl
            intro g1 w2 hb hf
            have z140 : (g1 140 = .bool true) := hf.at 27
            clear hf
            simp only [Each.putg, Act.put, List.setIfInBounds_toArray, List.set_cons_zero, List.set_cons_succ]
            rw [z140]
            simp only [Tree.grow, Tree.put1, List.getElem?_cons_zero, List.getElem?_cons_succ]
            refine Tree.assign _ (by rfl) (by rfl) ?_
            simp only [Act.put, Act.eval, Array.getD_eq_getD_getElem?, List.getElem?_toArray, List.getElem?_cons_zero, List.getElem?_cons_succ, Option.getD_some, List.setIfInBounds_toArray, List.set_cons_zero, List.set_cons_succ]
            refine Tree.done ?_
            have HBg := Lib.hid (Base.below_step HBf.out hb)
            clear hb
            go_wp2
            go_ret
            exact ⟨rfl, HBg.out⟩

end code
end Go.Proofs.YtechehbegiinpaaDoor.Rec
