/-
  The laws' help bent: a record of which one thing is another one: it reads as said, in seven ways. (Printed by tools/gen_bent.py.)
-/
import Derived.Test.YtechehbegiinpaaDoorRecSeat
namespace Go.Proofs.YtechehbegiinpaaDoor.Rec
open Go.RowKit Base Txt

theorem Bk.grown {w w' : World} {g : Nat} {vs : List Value} {row : Option Nat} (h : Bk w g vs) (hg : w.grownBy w' row) (hne : some g ≠ row) : Bk w' g vs := by
  have hb := hg.block g h.lt hne
  refine ⟨fun k v hv => ?_, fun k hk => ?_, Nat.lt_of_lt_of_le h.lt hg.size⟩
  · have := h.c k v hv
    unfold World.cell? at this ⊢
    simp only [hb]
    exact this
  · have := h.z k hk
    unfold World.frozen? at this ⊢
    simp only [hb]
    exact this
theorem lit_lie (w : World) (g : Nat) (hg : g = w.heap.size) (t : TypeId) (vs : List Value) (n : Nat) : 0 < n → ∃ b off, (some ⟨g, 0, none⟩ : Option Addr) = some ⟨b, off, none⟩ ∧ ∀ j u, vs[j]? = some u → (w.alloc (.cells vs.toArray t)).cell? ⟨b, off + j, none⟩ = some u := by
  intro _
  exact ⟨g, 0, rfl, fun j u hu => by rw [Nat.zero_add]; exact (Bk.new w g hg t vs).c j u hu⟩

section code
set_option maxHeartbeats 2000000
set_option maxRecDepth 10000
theorem bent0_any (V : Value) (r : R) (a : Int) (s : ByteArray) (w : World) (h : Reads w V r) (hf : Small r) (ha : Int.tmod a 7 = 0) : Calls Tryd.prog 9 #[V, .int .u8 a, .string s] w fun e w' =>
    ∃ V', e = .returned V' ∧ Reads w' V' (bent 0 s r) ∧ Below w.heap.size w w' := by
  have HF := Lib.hid hf
  obtain ⟨fa, fc, ba, bc, ta, tc, rfl, h1, h2, h3⟩ := h
  have H1 := Lib.hid h1; have H2 := Lib.hid h2; have H3 := Lib.hid h3
  clear h1 h2 h3 hf
  have HB0 := Lib.hid (((Below.refl _ _).alloc (Nat.le_refl _) (.cells #[.string r.m, .string r.x, .int .i64 r.k, .slice fa r.fs.length fc, .bool r.ch, .slice ba r.body.length bc, .slice ta r.ts.length tc] 25)).alloc (by simp) (.cells #[.string ⟨#[]⟩, .string ⟨#[]⟩, .int .i64 0, .slice none 0 0, .bool false, .slice none 0 0, .slice none 0 0] 25) : Below w.heap.size w _)
  have HA0 := Lib.hid ((Bk.new w w.heap.size rfl 25 [.string r.m, .string r.x, .int .i64 r.k, .slice fa r.fs.length fc, .bool r.ch, .slice ba r.body.length bc, .slice ta r.ts.length tc]).alloc (.cells #[.string ⟨#[]⟩, .string ⟨#[]⟩, .int .i64 0, .slice none 0 0, .bool false, .slice none 0 0, .slice none 0 0] 25))
  have HZ0 := Lib.hid (Bk.new (w.alloc (.cells #[.string r.m, .string r.x, .int .i64 r.k, .slice fa r.fs.length fc, .bool r.ch, .slice ba r.body.length bc, .slice ta r.ts.length tc] 25)) (w.heap.size + 1) (by simp) 25 [.string ⟨#[]⟩, .string ⟨#[]⟩, .int .i64 0, .slice none 0 0, .bool false, .slice none 0 0, .slice none 0 0])
  go_enter Tryd.func9, Tryd.ntmps9
  go_upto_region 1 with fail
  generalize (w.alloc (.cells #[.string r.m, .string r.x, .int .i64 r.k, .slice fa r.fs.length fc, .bool r.ch, .slice ba r.body.length bc, .slice ta r.ts.length tc] 25)).alloc (.cells #[.string ⟨#[]⟩, .string ⟨#[]⟩, .int .i64 0, .slice none 0 0, .bool false, .slice none 0 0, .slice none 0 0] 25) = W at *
  have q0 := HA0.out.c 0 _ rfl
  have z0 := HA0.out.z 0 (by simp)
  have s1 : ¬ 9223372036854775807 < r.m.size + (ByteArray.mk #[88]).size := by have := HF.out.m; have : (ByteArray.mk #[88]).size = 1 := rfl; omega
  have s2 : ¬ 9223372036854775807 < r.m.size + 1 := by have := HF.out.m; omega
  go_upto_region 15 with fail
  clear q0 z0
  have HA1 := Lib.hid (HA0.out.set 0 (.string (r.m ++ ⟨#[88]⟩)) (by simp))
  have HZ1 := Lib.hid (HZ0.out.other w.heap.size 0 (.string (r.m ++ ⟨#[88]⟩)) (by omega))
  have HB1 := Lib.hid (show Below w.heap.size w (W.setCell ⟨w.heap.size, 0, none⟩ (.string (r.m ++ ⟨#[88]⟩))) from HB0.out.setCell (Nat.le_refl _) _)
  generalize W.setCell ⟨w.heap.size, 0, none⟩ (.string (r.m ++ ⟨#[88]⟩)) = W1 at *
  have q0 := HA1.out.c 0 _ rfl; have q1 := HA1.out.c 1 _ rfl; have q2 := HA1.out.c 2 _ rfl; have q3 := HA1.out.c 3 _ rfl; have q4 := HA1.out.c 4 _ rfl; have q5 := HA1.out.c 5 _ rfl; have q6 := HA1.out.c 6 _ rfl
  have p0 := HZ1.out.z 0 (by simp); have y0 := HZ1.out.c 0 _ rfl; have p1 := HZ1.out.z 1 (by simp); have y1 := HZ1.out.c 1 _ rfl; have p2 := HZ1.out.z 2 (by simp); have y2 := HZ1.out.c 2 _ rfl; have p3 := HZ1.out.z 3 (by simp); have y3 := HZ1.out.c 3 _ rfl; have p4 := HZ1.out.z 4 (by simp); have y4 := HZ1.out.c 4 _ rfl; have p5 := HZ1.out.z 5 (by simp); have y5 := HZ1.out.c 5 _ rfl; have p6 := HZ1.out.z 6 (by simp); have y6 := HZ1.out.c 6 _ rfl
  go_wp2_with fail
  obtain ⟨X, hX, hBX, hbX, hsX, hoX, -⟩ := put7 HZ1.out (by simp) HB1.out (Nat.le_succ _) (.string (r.m ++ ⟨#[88]⟩)) (.string r.x) (.int .i64 r.k) (.slice fa r.fs.length fc) (.bool r.ch) (.slice ba r.body.length bc) (.slice ta r.ts.length tc)
  rw [hX]
  have d0 := hBX.c 0 _ rfl; have d1 := hBX.c 1 _ rfl; have d2 := hBX.c 2 _ rfl; have d3 := hBX.c 3 _ rfl; have d4 := hBX.c 4 _ rfl; have d5 := hBX.c 5 _ rfl; have d6 := hBX.c 6 _ rfl
  refine bodyPost_ret (v := .agg #[.string (r.m ++ ⟨#[88]⟩), .string r.x, .int .i64 r.k, .slice fa r.fs.length fc, .bool r.ch, .slice ba r.body.length bc, .slice ta r.ts.length tc]) (by simp [results, Tryd.results9, go_sem, d0, d1, d2, d3, d4, d5, d6]) rfl ⟨_, rfl, ?_, hbX⟩
  exact ⟨_, _, _, _, _, _, rfl, H1.out.below hbX, H2.out.below hbX, H3.out.below hbX⟩
theorem bent1_any (V : Value) (r : R) (a : Int) (s : ByteArray) (w : World) (h : Reads w V r) (hf : Small r) (ha : Int.tmod a 7 = 1) : Calls Tryd.prog 9 #[V, .int .u8 a, .string s] w fun e w' =>
    ∃ V', e = .returned V' ∧ Reads w' V' (bent 1 s r) ∧ Below w.heap.size w w' := by
  have HF := Lib.hid hf
  obtain ⟨fa, fc, ba, bc, ta, tc, rfl, h1, h2, h3⟩ := h
  have H1 := Lib.hid h1; have H2 := Lib.hid h2; have H3 := Lib.hid h3
  clear h1 h2 h3 hf
  have HB0 := Lib.hid (((Below.refl _ _).alloc (Nat.le_refl _) (.cells #[.string r.m, .string r.x, .int .i64 r.k, .slice fa r.fs.length fc, .bool r.ch, .slice ba r.body.length bc, .slice ta r.ts.length tc] 25)).alloc (by simp) (.cells #[.string ⟨#[]⟩, .string ⟨#[]⟩, .int .i64 0, .slice none 0 0, .bool false, .slice none 0 0, .slice none 0 0] 25) : Below w.heap.size w _)
  have HA0 := Lib.hid ((Bk.new w w.heap.size rfl 25 [.string r.m, .string r.x, .int .i64 r.k, .slice fa r.fs.length fc, .bool r.ch, .slice ba r.body.length bc, .slice ta r.ts.length tc]).alloc (.cells #[.string ⟨#[]⟩, .string ⟨#[]⟩, .int .i64 0, .slice none 0 0, .bool false, .slice none 0 0, .slice none 0 0] 25))
  have HZ0 := Lib.hid (Bk.new (w.alloc (.cells #[.string r.m, .string r.x, .int .i64 r.k, .slice fa r.fs.length fc, .bool r.ch, .slice ba r.body.length bc, .slice ta r.ts.length tc] 25)) (w.heap.size + 1) (by simp) 25 [.string ⟨#[]⟩, .string ⟨#[]⟩, .int .i64 0, .slice none 0 0, .bool false, .slice none 0 0, .slice none 0 0])
  go_enter Tryd.func9, Tryd.ntmps9
  go_upto_region 1 with fail
  generalize (w.alloc (.cells #[.string r.m, .string r.x, .int .i64 r.k, .slice fa r.fs.length fc, .bool r.ch, .slice ba r.body.length bc, .slice ta r.ts.length tc] 25)).alloc (.cells #[.string ⟨#[]⟩, .string ⟨#[]⟩, .int .i64 0, .slice none 0 0, .bool false, .slice none 0 0, .slice none 0 0] 25) = W at *
  have q0 := HA0.out.c 1 _ rfl
  have z0 := HA0.out.z 1 (by simp)
  have s1 : ¬ 9223372036854775807 < r.x.size + (ByteArray.mk #[120]).size := by have := HF.out.x; have : (ByteArray.mk #[120]).size = 1 := rfl; omega
  have s2 : ¬ 9223372036854775807 < r.x.size + 1 := by have := HF.out.x; omega
  go_upto_region 15 with fail
  clear q0 z0
  have HA1 := Lib.hid (HA0.out.set 1 (.string (r.x ++ ⟨#[120]⟩)) (by simp))
  have HZ1 := Lib.hid (HZ0.out.other w.heap.size 1 (.string (r.x ++ ⟨#[120]⟩)) (by omega))
  have HB1 := Lib.hid (show Below w.heap.size w (W.setCell ⟨w.heap.size, 1, none⟩ (.string (r.x ++ ⟨#[120]⟩))) from HB0.out.setCell (Nat.le_refl _) _)
  generalize W.setCell ⟨w.heap.size, 1, none⟩ (.string (r.x ++ ⟨#[120]⟩)) = W1 at *
  have q0 := HA1.out.c 0 _ rfl; have q1 := HA1.out.c 1 _ rfl; have q2 := HA1.out.c 2 _ rfl; have q3 := HA1.out.c 3 _ rfl; have q4 := HA1.out.c 4 _ rfl; have q5 := HA1.out.c 5 _ rfl; have q6 := HA1.out.c 6 _ rfl
  have p0 := HZ1.out.z 0 (by simp); have y0 := HZ1.out.c 0 _ rfl; have p1 := HZ1.out.z 1 (by simp); have y1 := HZ1.out.c 1 _ rfl; have p2 := HZ1.out.z 2 (by simp); have y2 := HZ1.out.c 2 _ rfl; have p3 := HZ1.out.z 3 (by simp); have y3 := HZ1.out.c 3 _ rfl; have p4 := HZ1.out.z 4 (by simp); have y4 := HZ1.out.c 4 _ rfl; have p5 := HZ1.out.z 5 (by simp); have y5 := HZ1.out.c 5 _ rfl; have p6 := HZ1.out.z 6 (by simp); have y6 := HZ1.out.c 6 _ rfl
  go_wp2_with fail
  obtain ⟨X, hX, hBX, hbX, hsX, hoX, -⟩ := put7 HZ1.out (by simp) HB1.out (Nat.le_succ _) (.string r.m) (.string (r.x ++ ⟨#[120]⟩)) (.int .i64 r.k) (.slice fa r.fs.length fc) (.bool r.ch) (.slice ba r.body.length bc) (.slice ta r.ts.length tc)
  rw [hX]
  have d0 := hBX.c 0 _ rfl; have d1 := hBX.c 1 _ rfl; have d2 := hBX.c 2 _ rfl; have d3 := hBX.c 3 _ rfl; have d4 := hBX.c 4 _ rfl; have d5 := hBX.c 5 _ rfl; have d6 := hBX.c 6 _ rfl
  refine bodyPost_ret (v := .agg #[.string r.m, .string (r.x ++ ⟨#[120]⟩), .int .i64 r.k, .slice fa r.fs.length fc, .bool r.ch, .slice ba r.body.length bc, .slice ta r.ts.length tc]) (by simp [results, Tryd.results9, go_sem, d0, d1, d2, d3, d4, d5, d6]) rfl ⟨_, rfl, ?_, hbX⟩
  exact ⟨_, _, _, _, _, _, rfl, H1.out.below hbX, H2.out.below hbX, H3.out.below hbX⟩
theorem bent2_any (V : Value) (r : R) (a : Int) (s : ByteArray) (w : World) (h : Reads w V r) (hf : Small r) (ha : Int.tmod a 7 = 2) : Calls Tryd.prog 9 #[V, .int .u8 a, .string s] w fun e w' =>
    ∃ V', e = .returned V' ∧ Reads w' V' (bent 2 s r) ∧ Below w.heap.size w w' := by
  have HF := Lib.hid hf
  obtain ⟨fa, fc, ba, bc, ta, tc, rfl, h1, h2, h3⟩ := h
  have H1 := Lib.hid h1; have H2 := Lib.hid h2; have H3 := Lib.hid h3
  clear h1 h2 h3 hf
  have HB0 := Lib.hid (((Below.refl _ _).alloc (Nat.le_refl _) (.cells #[.string r.m, .string r.x, .int .i64 r.k, .slice fa r.fs.length fc, .bool r.ch, .slice ba r.body.length bc, .slice ta r.ts.length tc] 25)).alloc (by simp) (.cells #[.string ⟨#[]⟩, .string ⟨#[]⟩, .int .i64 0, .slice none 0 0, .bool false, .slice none 0 0, .slice none 0 0] 25) : Below w.heap.size w _)
  have HA0 := Lib.hid ((Bk.new w w.heap.size rfl 25 [.string r.m, .string r.x, .int .i64 r.k, .slice fa r.fs.length fc, .bool r.ch, .slice ba r.body.length bc, .slice ta r.ts.length tc]).alloc (.cells #[.string ⟨#[]⟩, .string ⟨#[]⟩, .int .i64 0, .slice none 0 0, .bool false, .slice none 0 0, .slice none 0 0] 25))
  have HZ0 := Lib.hid (Bk.new (w.alloc (.cells #[.string r.m, .string r.x, .int .i64 r.k, .slice fa r.fs.length fc, .bool r.ch, .slice ba r.body.length bc, .slice ta r.ts.length tc] 25)) (w.heap.size + 1) (by simp) 25 [.string ⟨#[]⟩, .string ⟨#[]⟩, .int .i64 0, .slice none 0 0, .bool false, .slice none 0 0, .slice none 0 0])
  go_enter Tryd.func9, Tryd.ntmps9
  go_upto_region 1 with fail
  generalize (w.alloc (.cells #[.string r.m, .string r.x, .int .i64 r.k, .slice fa r.fs.length fc, .bool r.ch, .slice ba r.body.length bc, .slice ta r.ts.length tc] 25)).alloc (.cells #[.string ⟨#[]⟩, .string ⟨#[]⟩, .int .i64 0, .slice none 0 0, .bool false, .slice none 0 0, .slice none 0 0] 25) = W at *
  have q0 := HA0.out.c 2 _ rfl
  have z0 := HA0.out.z 2 (by simp)
  go_upto_region 15 with fail
  clear q0 z0
  have HA1 := Lib.hid (HA0.out.set 2 (.int .i64 (wrap64 (1 - r.k))) (by simp))
  have HZ1 := Lib.hid (HZ0.out.other w.heap.size 2 (.int .i64 (wrap64 (1 - r.k))) (by omega))
  have HB1 := Lib.hid (show Below w.heap.size w (W.setCell ⟨w.heap.size, 2, none⟩ (.int .i64 (wrap64 (1 - r.k)))) from HB0.out.setCell (Nat.le_refl _) _)
  generalize W.setCell ⟨w.heap.size, 2, none⟩ (.int .i64 (wrap64 (1 - r.k))) = W1 at *
  have q0 := HA1.out.c 0 _ rfl; have q1 := HA1.out.c 1 _ rfl; have q2 := HA1.out.c 2 _ rfl; have q3 := HA1.out.c 3 _ rfl; have q4 := HA1.out.c 4 _ rfl; have q5 := HA1.out.c 5 _ rfl; have q6 := HA1.out.c 6 _ rfl
  have p0 := HZ1.out.z 0 (by simp); have y0 := HZ1.out.c 0 _ rfl; have p1 := HZ1.out.z 1 (by simp); have y1 := HZ1.out.c 1 _ rfl; have p2 := HZ1.out.z 2 (by simp); have y2 := HZ1.out.c 2 _ rfl; have p3 := HZ1.out.z 3 (by simp); have y3 := HZ1.out.c 3 _ rfl; have p4 := HZ1.out.z 4 (by simp); have y4 := HZ1.out.c 4 _ rfl; have p5 := HZ1.out.z 5 (by simp); have y5 := HZ1.out.c 5 _ rfl; have p6 := HZ1.out.z 6 (by simp); have y6 := HZ1.out.c 6 _ rfl
  go_wp2_with fail
  obtain ⟨X, hX, hBX, hbX, hsX, hoX, -⟩ := put7 HZ1.out (by simp) HB1.out (Nat.le_succ _) (.string r.m) (.string r.x) (.int .i64 (wrap64 (1 - r.k))) (.slice fa r.fs.length fc) (.bool r.ch) (.slice ba r.body.length bc) (.slice ta r.ts.length tc)
  rw [hX]
  have d0 := hBX.c 0 _ rfl; have d1 := hBX.c 1 _ rfl; have d2 := hBX.c 2 _ rfl; have d3 := hBX.c 3 _ rfl; have d4 := hBX.c 4 _ rfl; have d5 := hBX.c 5 _ rfl; have d6 := hBX.c 6 _ rfl
  refine bodyPost_ret (v := .agg #[.string r.m, .string r.x, .int .i64 (wrap64 (1 - r.k)), .slice fa r.fs.length fc, .bool r.ch, .slice ba r.body.length bc, .slice ta r.ts.length tc]) (by simp [results, Tryd.results9, go_sem, d0, d1, d2, d3, d4, d5, d6]) rfl ⟨_, rfl, ?_, hbX⟩
  exact ⟨_, _, _, _, _, _, rfl, H1.out.below hbX, H2.out.below hbX, H3.out.below hbX⟩
theorem bent4_any (V : Value) (r : R) (a : Int) (s : ByteArray) (w : World) (h : Reads w V r) (hf : Small r) (ha : Int.tmod a 7 = 4) : Calls Tryd.prog 9 #[V, .int .u8 a, .string s] w fun e w' =>
    ∃ V', e = .returned V' ∧ Reads w' V' (bent 4 s r) ∧ Below w.heap.size w w' := by
  have HF := Lib.hid hf
  obtain ⟨fa, fc, ba, bc, ta, tc, rfl, h1, h2, h3⟩ := h
  have H1 := Lib.hid h1; have H2 := Lib.hid h2; have H3 := Lib.hid h3
  clear h1 h2 h3 hf
  have HB0 := Lib.hid (((Below.refl _ _).alloc (Nat.le_refl _) (.cells #[.string r.m, .string r.x, .int .i64 r.k, .slice fa r.fs.length fc, .bool r.ch, .slice ba r.body.length bc, .slice ta r.ts.length tc] 25)).alloc (by simp) (.cells #[.string ⟨#[]⟩, .string ⟨#[]⟩, .int .i64 0, .slice none 0 0, .bool false, .slice none 0 0, .slice none 0 0] 25) : Below w.heap.size w _)
  have HA0 := Lib.hid ((Bk.new w w.heap.size rfl 25 [.string r.m, .string r.x, .int .i64 r.k, .slice fa r.fs.length fc, .bool r.ch, .slice ba r.body.length bc, .slice ta r.ts.length tc]).alloc (.cells #[.string ⟨#[]⟩, .string ⟨#[]⟩, .int .i64 0, .slice none 0 0, .bool false, .slice none 0 0, .slice none 0 0] 25))
  have HZ0 := Lib.hid (Bk.new (w.alloc (.cells #[.string r.m, .string r.x, .int .i64 r.k, .slice fa r.fs.length fc, .bool r.ch, .slice ba r.body.length bc, .slice ta r.ts.length tc] 25)) (w.heap.size + 1) (by simp) 25 [.string ⟨#[]⟩, .string ⟨#[]⟩, .int .i64 0, .slice none 0 0, .bool false, .slice none 0 0, .slice none 0 0])
  go_enter Tryd.func9, Tryd.ntmps9
  go_upto_region 1 with fail
  generalize (w.alloc (.cells #[.string r.m, .string r.x, .int .i64 r.k, .slice fa r.fs.length fc, .bool r.ch, .slice ba r.body.length bc, .slice ta r.ts.length tc] 25)).alloc (.cells #[.string ⟨#[]⟩, .string ⟨#[]⟩, .int .i64 0, .slice none 0 0, .bool false, .slice none 0 0, .slice none 0 0] 25) = W at *
  have q0 := HA0.out.c 4 _ rfl
  have z0 := HA0.out.z 4 (by simp)
  go_upto_region 15 with fail
  clear q0 z0
  have HA1 := Lib.hid (HA0.out.set 4 (.bool (!r.ch)) (by simp))
  have HZ1 := Lib.hid (HZ0.out.other w.heap.size 4 (.bool (!r.ch)) (by omega))
  have HB1 := Lib.hid (show Below w.heap.size w (W.setCell ⟨w.heap.size, 4, none⟩ (.bool (!r.ch))) from HB0.out.setCell (Nat.le_refl _) _)
  generalize W.setCell ⟨w.heap.size, 4, none⟩ (.bool (!r.ch)) = W1 at *
  have q0 := HA1.out.c 0 _ rfl; have q1 := HA1.out.c 1 _ rfl; have q2 := HA1.out.c 2 _ rfl; have q3 := HA1.out.c 3 _ rfl; have q4 := HA1.out.c 4 _ rfl; have q5 := HA1.out.c 5 _ rfl; have q6 := HA1.out.c 6 _ rfl
  have p0 := HZ1.out.z 0 (by simp); have y0 := HZ1.out.c 0 _ rfl; have p1 := HZ1.out.z 1 (by simp); have y1 := HZ1.out.c 1 _ rfl; have p2 := HZ1.out.z 2 (by simp); have y2 := HZ1.out.c 2 _ rfl; have p3 := HZ1.out.z 3 (by simp); have y3 := HZ1.out.c 3 _ rfl; have p4 := HZ1.out.z 4 (by simp); have y4 := HZ1.out.c 4 _ rfl; have p5 := HZ1.out.z 5 (by simp); have y5 := HZ1.out.c 5 _ rfl; have p6 := HZ1.out.z 6 (by simp); have y6 := HZ1.out.c 6 _ rfl
  go_wp2_with fail
  obtain ⟨X, hX, hBX, hbX, hsX, hoX, -⟩ := put7 HZ1.out (by simp) HB1.out (Nat.le_succ _) (.string r.m) (.string r.x) (.int .i64 r.k) (.slice fa r.fs.length fc) (.bool (!r.ch)) (.slice ba r.body.length bc) (.slice ta r.ts.length tc)
  rw [hX]
  have d0 := hBX.c 0 _ rfl; have d1 := hBX.c 1 _ rfl; have d2 := hBX.c 2 _ rfl; have d3 := hBX.c 3 _ rfl; have d4 := hBX.c 4 _ rfl; have d5 := hBX.c 5 _ rfl; have d6 := hBX.c 6 _ rfl
  refine bodyPost_ret (v := .agg #[.string r.m, .string r.x, .int .i64 r.k, .slice fa r.fs.length fc, .bool (!r.ch), .slice ba r.body.length bc, .slice ta r.ts.length tc]) (by simp [results, Tryd.results9, go_sem, d0, d1, d2, d3, d4, d5, d6]) rfl ⟨_, rfl, ?_, hbX⟩
  exact ⟨_, _, _, _, _, _, rfl, H1.out.below hbX, H2.out.below hbX, H3.out.below hbX⟩
theorem bent3_any (V : Value) (r : R) (a : Int) (s : ByteArray) (w : World) (h : Reads w V r) (hf : Small r) (ha : Int.tmod a 7 = 3) : Calls Tryd.prog 9 #[V, .int .u8 a, .string s] w fun e w' =>
    ∃ V', e = .returned V' ∧ Reads w' V' (bent 3 s r) ∧ Below w.heap.size w w' := by
  have HF := Lib.hid hf
  obtain ⟨fa, fc, ba, bc, ta, tc, rfl, h1, h2, h3⟩ := h
  have H1 := Lib.hid h1; have H2 := Lib.hid h2; have H3 := Lib.hid h3
  clear h1 h2 h3 hf
  have HB0 := Lib.hid (((Below.refl _ _).alloc (Nat.le_refl _) (.cells #[.string r.m, .string r.x, .int .i64 r.k, .slice fa r.fs.length fc, .bool r.ch, .slice ba r.body.length bc, .slice ta r.ts.length tc] 25)).alloc (by simp) (.cells #[.string ⟨#[]⟩, .string ⟨#[]⟩, .int .i64 0, .slice none 0 0, .bool false, .slice none 0 0, .slice none 0 0] 25) : Below w.heap.size w _)
  have HA0 := Lib.hid ((Bk.new w w.heap.size rfl 25 [.string r.m, .string r.x, .int .i64 r.k, .slice fa r.fs.length fc, .bool r.ch, .slice ba r.body.length bc, .slice ta r.ts.length tc]).alloc (.cells #[.string ⟨#[]⟩, .string ⟨#[]⟩, .int .i64 0, .slice none 0 0, .bool false, .slice none 0 0, .slice none 0 0] 25))
  have HZ0 := Lib.hid (Bk.new (w.alloc (.cells #[.string r.m, .string r.x, .int .i64 r.k, .slice fa r.fs.length fc, .bool r.ch, .slice ba r.body.length bc, .slice ta r.ts.length tc] 25)) (w.heap.size + 1) (by simp) 25 [.string ⟨#[]⟩, .string ⟨#[]⟩, .int .i64 0, .slice none 0 0, .bool false, .slice none 0 0, .slice none 0 0])
  go_enter Tryd.func9, Tryd.ntmps9
  go_upto_region 1 with fail
  generalize (w.alloc (.cells #[.string r.m, .string r.x, .int .i64 r.k, .slice fa r.fs.length fc, .bool r.ch, .slice ba r.body.length bc, .slice ta r.ts.length tc] 25)).alloc (.cells #[.string ⟨#[]⟩, .string ⟨#[]⟩, .int .i64 0, .slice none 0 0, .bool false, .slice none 0 0, .slice none 0 0] 25) = W at *
  obtain ⟨i0, hi, hz0, hz1, hz2⟩ := info_parts field_info
  have G1 := Lib.hid hi; have G2 := Lib.hid hz0; have G3 := Lib.hid hz1; have G4 := Lib.hid hz2
  clear hi hz0 hz1 hz2
  have q0 := HA0.out.c 3 _ rfl
  have z0 := HA0.out.z 3 (by simp)
  go_upto_region 15 with (first
    | (at_builtin; refine App.wpList_append_list _ rfl _ _ 22 rfl w.heap.size 31 i0 (.agg #[.string ByteArray.empty, .string ByteArray.empty]) 2 32 Tryd.underlying22 G1.out G2.out G3.out G4.out rfl (by decide) _ r.fs.length (cells r.fs) rfl (HO1.out.alloc (.cells #[.string connN, .string s] 31)) (some ⟨w1.heap.size, 0, none⟩) 1 1 [.string connN, .string s] rfl rfl (lit_lie w1 w1.heap.size rfl 31 [.string connN, .string s] 1) (by intro u hu; rcases (by simpa using hu : u = .string connN ∨ u = .string s) with rfl | rfl <;> rfl) (by have := HF.out.fs; unfold maxLen; omega) (by have := HF.out.fs; omega) (by have := HB1.out.size; simp; omega) ?_
       intro v2 w2 hO2 hgr2 _ hor2
       obtain ⟨b2, c2, rfl⟩ := own_slice hO2
       have HO2 := Lib.hid hO2
       have HA2 := Lib.hid ((HA1.out.alloc (.cells #[.string connN, .string s] 31)).grown hgr2 (fun e => by have := HR1.out _ e.symm; omega))
       have HZ2 := Lib.hid ((HZ1.out.alloc (.cells #[.string connN, .string s] 31)).grown hgr2 (fun e => by have := HR1.out _ e.symm; omega))
       have HB2 := Lib.hid ((HB1.out.alloc HB1.out.size (.cells #[.string connN, .string s] 31)).grown hgr2 (by have := HB1.out.size; simp; omega) (fun j e => by have := HR1.out _ e; omega))
       have HR2 := Lib.hid (show ∀ g, (Value.slice b2 (r.fs.length + 1) c2).ownBlock = some g → w.heap.size + 1 < g from fun g e => by
         have := HZ1.out.lt
         rcases hor2 with h | h
         · rw [h] at e; exact HR1.out g e
         · rw [h] at e; cases e; simp; omega)
       have q := HA2.out.c 3 _ rfl; have z := HA2.out.z 3 (by simp)
       clear hO2 hgr2 hor2 q0 z0)
    | (at_builtin; refine App.wpList_append_list _ rfl _ _ 22 rfl w.heap.size 31 i0 (.agg #[.string ByteArray.empty, .string ByteArray.empty]) 2 32 Tryd.underlying22 G1.out G2.out G3.out G4.out rfl (by decide) _ 0 [] rfl (World.ownsRow_nil _ _ _ _) fa r.fs.length fc (cells r.fs) rfl (cells_length _) (cells_lie (H1.out.below HB0.out)) (cells_all_one _) (by have := HF.out.fs; unfold maxLen; omega) (by have := HF.out.fs; omega) HB0.out.size ?_
       intro v1 w1 hO1 hgr1 _ hor1
       replace hor1 : v1.ownBlock = none ∨ v1.ownBlock = some W.heap.size := hor1
       have hb1 : Below W.heap.size W w1 := below_of_grown hgr1
       rw [Nat.zero_add, List.nil_append] at hO1
       obtain ⟨b1, c1, rfl⟩ := own_slice hO1
       have HO1 := Lib.hid hO1
       have HA1 := Lib.hid (HA0.out.below hb1); have HZ1 := Lib.hid (HZ0.out.below hb1); have HB1 := Lib.hid (Base.below_step HB0.out hb1)
       have HR1 := Lib.hid (show ∀ g, (Value.slice b1 r.fs.length c1).ownBlock = some g → w.heap.size + 1 < g from fun g e => by
         have := HZ0.out.lt
         rcases hor1 with h | h
         · rw [h] at e; cases e
         · rw [h] at e; cases e; omega)
       clear hO1 hgr1 hor1 hb1))
  clear q z
  have HA3 := Lib.hid (HA2.out.set 3 (.slice b2 (r.fs.length + 1) c2) (by simp))
  have HZ3 := Lib.hid (HZ2.out.other w.heap.size 3 (.slice b2 (r.fs.length + 1) c2) (by omega))
  have HB3 := Lib.hid (show Below w.heap.size w (w2.setCell ⟨w.heap.size, 3, none⟩ (.slice b2 (r.fs.length + 1) c2)) from HB2.out.setCell (Nat.le_refl _) _)
  have HO3 := Lib.hid (ownsRow_setCell_other HO2.out (a := ⟨w.heap.size, 3, none⟩) (fun e => by have := HR2.out _ e; simp only at this; omega) (.slice b2 (r.fs.length + 1) c2))
  generalize w2.setCell ⟨w.heap.size, 3, none⟩ (.slice b2 (r.fs.length + 1) c2) = W1 at *
  have q0 := HA3.out.c 0 _ rfl; have q1 := HA3.out.c 1 _ rfl; have q2 := HA3.out.c 2 _ rfl; have q3 := HA3.out.c 3 _ rfl; have q4 := HA3.out.c 4 _ rfl; have q5 := HA3.out.c 5 _ rfl; have q6 := HA3.out.c 6 _ rfl
  have p0 := HZ3.out.z 0 (by simp); have y0 := HZ3.out.c 0 _ rfl; have p1 := HZ3.out.z 1 (by simp); have y1 := HZ3.out.c 1 _ rfl; have p2 := HZ3.out.z 2 (by simp); have y2 := HZ3.out.c 2 _ rfl; have p3 := HZ3.out.z 3 (by simp); have y3 := HZ3.out.c 3 _ rfl; have p4 := HZ3.out.z 4 (by simp); have y4 := HZ3.out.c 4 _ rfl; have p5 := HZ3.out.z 5 (by simp); have y5 := HZ3.out.c 5 _ rfl; have p6 := HZ3.out.z 6 (by simp); have y6 := HZ3.out.c 6 _ rfl
  go_wp2_with fail
  obtain ⟨X, hX, hBX, hbX, hsX, hoX, -⟩ := put7 HZ3.out (by simp) HB3.out (Nat.le_succ _) (.string r.m) (.string r.x) (.int .i64 r.k) (.slice b2 (r.fs.length + 1) c2) (.bool r.ch) (.slice ba r.body.length bc) (.slice ta r.ts.length tc)
  rw [hX]
  have d0 := hBX.c 0 _ rfl; have d1 := hBX.c 1 _ rfl; have d2 := hBX.c 2 _ rfl; have d3 := hBX.c 3 _ rfl; have d4 := hBX.c 4 _ rfl; have d5 := hBX.c 5 _ rfl; have d6 := hBX.c 6 _ rfl
  refine bodyPost_ret (v := .agg #[.string r.m, .string r.x, .int .i64 r.k, .slice b2 (r.fs.length + 1) c2, .bool r.ch, .slice ba r.body.length bc, .slice ta r.ts.length tc]) (by simp [results, Tryd.results9, go_sem, d0, d1, d2, d3, d4, d5, d6]) rfl ⟨_, rfl, ?_, hbX⟩
  have hrow := hoX _ _ _ _ _ _ HO3.out (fun e => by have := HR2.out _ e; omega)
  have hrow2 : X.ownsRow w.heap.size 31 2 (.slice b2 (r.fs.length + 1) c2) (r.fs.length + 1) (cells (r.fs ++ [(connN, s)])) := by
    rw [cells_append]; exact hrow
  obtain ⟨A9, c9, e9, h9⟩ := Flds.of_own hrow2
  simp only [Value.slice.injEq, true_and] at e9
  obtain ⟨rfl, rfl⟩ := e9
  have hl : (r.fs ++ [(connN, s)]).length = r.fs.length + 1 := by simp
  exact ⟨_, _, _, _, _, _, (by show _ = Value.agg #[.string r.m, .string r.x, .int .i64 r.k, .slice b2 (r.fs ++ [(connN, s)]).length c2, .bool r.ch, .slice ba r.body.length bc, .slice ta r.ts.length tc]; rw [hl]), (by show Flds X _ (r.fs ++ [(connN, s)]).length _; rw [hl]; exact h9), H2.out.below hbX, H3.out.below hbX⟩
theorem bent5_any (V : Value) (r : R) (a : Int) (s : ByteArray) (w : World) (h : Reads w V r) (hf : Small r) (ha : Int.tmod a 7 = 5) : Calls Tryd.prog 9 #[V, .int .u8 a, .string s] w fun e w' =>
    ∃ V', e = .returned V' ∧ Reads w' V' (bent 5 s r) ∧ Below w.heap.size w w' := by
  have HF := Lib.hid hf
  obtain ⟨fa, fc, ba, bc, ta, tc, rfl, h1, h2, h3⟩ := h
  have H1 := Lib.hid h1; have H2 := Lib.hid h2; have H3 := Lib.hid h3
  clear h1 h2 h3 hf
  have HB0 := Lib.hid (((Below.refl _ _).alloc (Nat.le_refl _) (.cells #[.string r.m, .string r.x, .int .i64 r.k, .slice fa r.fs.length fc, .bool r.ch, .slice ba r.body.length bc, .slice ta r.ts.length tc] 25)).alloc (by simp) (.cells #[.string ⟨#[]⟩, .string ⟨#[]⟩, .int .i64 0, .slice none 0 0, .bool false, .slice none 0 0, .slice none 0 0] 25) : Below w.heap.size w _)
  have HA0 := Lib.hid ((Bk.new w w.heap.size rfl 25 [.string r.m, .string r.x, .int .i64 r.k, .slice fa r.fs.length fc, .bool r.ch, .slice ba r.body.length bc, .slice ta r.ts.length tc]).alloc (.cells #[.string ⟨#[]⟩, .string ⟨#[]⟩, .int .i64 0, .slice none 0 0, .bool false, .slice none 0 0, .slice none 0 0] 25))
  have HZ0 := Lib.hid (Bk.new (w.alloc (.cells #[.string r.m, .string r.x, .int .i64 r.k, .slice fa r.fs.length fc, .bool r.ch, .slice ba r.body.length bc, .slice ta r.ts.length tc] 25)) (w.heap.size + 1) (by simp) 25 [.string ⟨#[]⟩, .string ⟨#[]⟩, .int .i64 0, .slice none 0 0, .bool false, .slice none 0 0, .slice none 0 0])
  go_enter Tryd.func9, Tryd.ntmps9
  go_upto_region 1 with fail
  generalize (w.alloc (.cells #[.string r.m, .string r.x, .int .i64 r.k, .slice fa r.fs.length fc, .bool r.ch, .slice ba r.body.length bc, .slice ta r.ts.length tc] 25)).alloc (.cells #[.string ⟨#[]⟩, .string ⟨#[]⟩, .int .i64 0, .slice none 0 0, .bool false, .slice none 0 0, .slice none 0 0] 25) = W at *
  obtain ⟨i0, hi, hz0, hz1, hz2⟩ := info_parts byte_info
  have G1 := Lib.hid hi; have G2 := Lib.hid hz0; have G3 := Lib.hid hz1; have G4 := Lib.hid hz2
  clear hi hz0 hz1 hz2
  have q0 := HA0.out.c 5 _ rfl
  have z0 := HA0.out.z 5 (by simp)
  go_upto_region 15 with (first
    | (at_builtin; refine App.wpList_append_list _ rfl _ _ 23 rfl w.heap.size 5 i0 (.int .u8 0) 1 1 Tryd.underlying23 G1.out G2.out G3.out G4.out rfl (by decide) _ r.body.length (vals r.body) rfl (HO1.out.alloc (.cells #[.int .u8 120] 5)) (some ⟨w1.heap.size, 0, none⟩) 1 1 [.int .u8 120] rfl rfl (lit_lie w1 w1.heap.size rfl 5 [.int .u8 120] 1) (by intro u hu; obtain rfl : u = .int .u8 120 := (by simpa using hu); rfl) (by have := HF.out.body; unfold maxLen; omega) (by have := HF.out.body; omega) (by have := HB1.out.size; simp; omega) ?_
       intro v2 w2 hO2 hgr2 _ hor2
       obtain ⟨b2, c2, rfl⟩ := own_slice hO2
       have HO2 := Lib.hid hO2
       have HA2 := Lib.hid ((HA1.out.alloc (.cells #[.int .u8 120] 5)).grown hgr2 (fun e => by have := HR1.out _ e.symm; omega))
       have HZ2 := Lib.hid ((HZ1.out.alloc (.cells #[.int .u8 120] 5)).grown hgr2 (fun e => by have := HR1.out _ e.symm; omega))
       have HB2 := Lib.hid ((HB1.out.alloc HB1.out.size (.cells #[.int .u8 120] 5)).grown hgr2 (by have := HB1.out.size; simp; omega) (fun j e => by have := HR1.out _ e; omega))
       have HR2 := Lib.hid (show ∀ g, (Value.slice b2 (r.body.length + 1) c2).ownBlock = some g → w.heap.size + 1 < g from fun g e => by
         have := HZ1.out.lt
         rcases hor2 with h | h
         · rw [h] at e; exact HR1.out g e
         · rw [h] at e; cases e; simp; omega)
       have q := HA2.out.c 5 _ rfl; have z := HA2.out.z 5 (by simp)
       clear hO2 hgr2 hor2 q0 z0)
    | (at_builtin; refine App.wpList_append_list _ rfl _ _ 23 rfl w.heap.size 5 i0 (.int .u8 0) 1 1 Tryd.underlying23 G1.out G2.out G3.out G4.out rfl (by decide) _ 0 [] rfl (World.ownsRow_nil _ _ _ _) ba r.body.length bc (vals r.body) rfl (by rw [vals_length, Nat.mul_one]) (vals_lie (H2.out.below HB0.out)) (vals_one _) (by have := HF.out.body; unfold maxLen; omega) (by have := HF.out.body; omega) HB0.out.size ?_
       intro v1 w1 hO1 hgr1 _ hor1
       replace hor1 : v1.ownBlock = none ∨ v1.ownBlock = some W.heap.size := hor1
       have hb1 : Below W.heap.size W w1 := below_of_grown hgr1
       rw [Nat.zero_add, List.nil_append] at hO1
       obtain ⟨b1, c1, rfl⟩ := own_slice hO1
       have HO1 := Lib.hid hO1
       have HA1 := Lib.hid (HA0.out.below hb1); have HZ1 := Lib.hid (HZ0.out.below hb1); have HB1 := Lib.hid (Base.below_step HB0.out hb1)
       have HR1 := Lib.hid (show ∀ g, (Value.slice b1 r.body.length c1).ownBlock = some g → w.heap.size + 1 < g from fun g e => by
         have := HZ0.out.lt
         rcases hor1 with h | h
         · rw [h] at e; cases e
         · rw [h] at e; cases e; omega)
       clear hO1 hgr1 hor1 hb1))
  clear q z
  have HA3 := Lib.hid (HA2.out.set 5 (.slice b2 (r.body.length + 1) c2) (by simp))
  have HZ3 := Lib.hid (HZ2.out.other w.heap.size 5 (.slice b2 (r.body.length + 1) c2) (by omega))
  have HB3 := Lib.hid (show Below w.heap.size w (w2.setCell ⟨w.heap.size, 5, none⟩ (.slice b2 (r.body.length + 1) c2)) from HB2.out.setCell (Nat.le_refl _) _)
  have HO3 := Lib.hid (ownsRow_setCell_other HO2.out (a := ⟨w.heap.size, 5, none⟩) (fun e => by have := HR2.out _ e; simp only at this; omega) (.slice b2 (r.body.length + 1) c2))
  generalize w2.setCell ⟨w.heap.size, 5, none⟩ (.slice b2 (r.body.length + 1) c2) = W1 at *
  have q0 := HA3.out.c 0 _ rfl; have q1 := HA3.out.c 1 _ rfl; have q2 := HA3.out.c 2 _ rfl; have q3 := HA3.out.c 3 _ rfl; have q4 := HA3.out.c 4 _ rfl; have q5 := HA3.out.c 5 _ rfl; have q6 := HA3.out.c 6 _ rfl
  have p0 := HZ3.out.z 0 (by simp); have y0 := HZ3.out.c 0 _ rfl; have p1 := HZ3.out.z 1 (by simp); have y1 := HZ3.out.c 1 _ rfl; have p2 := HZ3.out.z 2 (by simp); have y2 := HZ3.out.c 2 _ rfl; have p3 := HZ3.out.z 3 (by simp); have y3 := HZ3.out.c 3 _ rfl; have p4 := HZ3.out.z 4 (by simp); have y4 := HZ3.out.c 4 _ rfl; have p5 := HZ3.out.z 5 (by simp); have y5 := HZ3.out.c 5 _ rfl; have p6 := HZ3.out.z 6 (by simp); have y6 := HZ3.out.c 6 _ rfl
  go_wp2_with fail
  obtain ⟨X, hX, hBX, hbX, hsX, hoX, -⟩ := put7 HZ3.out (by simp) HB3.out (Nat.le_succ _) (.string r.m) (.string r.x) (.int .i64 r.k) (.slice fa r.fs.length fc) (.bool r.ch) (.slice b2 (r.body.length + 1) c2) (.slice ta r.ts.length tc)
  rw [hX]
  have d0 := hBX.c 0 _ rfl; have d1 := hBX.c 1 _ rfl; have d2 := hBX.c 2 _ rfl; have d3 := hBX.c 3 _ rfl; have d4 := hBX.c 4 _ rfl; have d5 := hBX.c 5 _ rfl; have d6 := hBX.c 6 _ rfl
  refine bodyPost_ret (v := .agg #[.string r.m, .string r.x, .int .i64 r.k, .slice fa r.fs.length fc, .bool r.ch, .slice b2 (r.body.length + 1) c2, .slice ta r.ts.length tc]) (by simp [results, Tryd.results9, go_sem, d0, d1, d2, d3, d4, d5, d6]) rfl ⟨_, rfl, ?_, hbX⟩
  have hrow := hoX _ _ _ _ _ _ HO3.out (fun e => by have := HR2.out _ e; omega)
  have hrow2 : X.ownsRow w.heap.size 5 1 (.slice b2 (r.body.length + 1) c2) (r.body.length + 1) (vals (r.body ++ [(120 : UInt8)])) := by
    rw [vals_app]; exact hrow
  obtain ⟨A9, c9, e9, h9⟩ := nums_of_own hrow2
  simp only [Value.slice.injEq, true_and] at e9
  obtain ⟨rfl, rfl⟩ := e9
  have hl : (r.body ++ [(120 : UInt8)]).length = r.body.length + 1 := by simp
  exact ⟨_, _, _, _, _, _, (by show _ = Value.agg #[.string r.m, .string r.x, .int .i64 r.k, .slice fa r.fs.length fc, .bool r.ch, .slice b2 (r.body ++ [(120 : UInt8)]).length c2, .slice ta r.ts.length tc]; rw [hl]), H1.out.below hbX, (by show Nums .u8 X _ (r.body ++ [(120 : UInt8)]).length _; rw [hl]; exact h9), H3.out.below hbX⟩
theorem bent6_any (V : Value) (r : R) (a : Int) (s : ByteArray) (w : World) (h : Reads w V r) (hf : Small r) (ha : Int.tmod a 7 = 6) : Calls Tryd.prog 9 #[V, .int .u8 a, .string s] w fun e w' =>
    ∃ V', e = .returned V' ∧ Reads w' V' (bent 6 s r) ∧ Below w.heap.size w w' := by
  have HF := Lib.hid hf
  obtain ⟨fa, fc, ba, bc, ta, tc, rfl, h1, h2, h3⟩ := h
  have H1 := Lib.hid h1; have H2 := Lib.hid h2; have H3 := Lib.hid h3
  clear h1 h2 h3 hf
  have HB0 := Lib.hid (((Below.refl _ _).alloc (Nat.le_refl _) (.cells #[.string r.m, .string r.x, .int .i64 r.k, .slice fa r.fs.length fc, .bool r.ch, .slice ba r.body.length bc, .slice ta r.ts.length tc] 25)).alloc (by simp) (.cells #[.string ⟨#[]⟩, .string ⟨#[]⟩, .int .i64 0, .slice none 0 0, .bool false, .slice none 0 0, .slice none 0 0] 25) : Below w.heap.size w _)
  have HA0 := Lib.hid ((Bk.new w w.heap.size rfl 25 [.string r.m, .string r.x, .int .i64 r.k, .slice fa r.fs.length fc, .bool r.ch, .slice ba r.body.length bc, .slice ta r.ts.length tc]).alloc (.cells #[.string ⟨#[]⟩, .string ⟨#[]⟩, .int .i64 0, .slice none 0 0, .bool false, .slice none 0 0, .slice none 0 0] 25))
  have HZ0 := Lib.hid (Bk.new (w.alloc (.cells #[.string r.m, .string r.x, .int .i64 r.k, .slice fa r.fs.length fc, .bool r.ch, .slice ba r.body.length bc, .slice ta r.ts.length tc] 25)) (w.heap.size + 1) (by simp) 25 [.string ⟨#[]⟩, .string ⟨#[]⟩, .int .i64 0, .slice none 0 0, .bool false, .slice none 0 0, .slice none 0 0])
  go_enter Tryd.func9, Tryd.ntmps9
  go_upto_region 1 with fail
  generalize (w.alloc (.cells #[.string r.m, .string r.x, .int .i64 r.k, .slice fa r.fs.length fc, .bool r.ch, .slice ba r.body.length bc, .slice ta r.ts.length tc] 25)).alloc (.cells #[.string ⟨#[]⟩, .string ⟨#[]⟩, .int .i64 0, .slice none 0 0, .bool false, .slice none 0 0, .slice none 0 0] 25) = W at *
  obtain ⟨i0, hi, hz0, hz1, hz2⟩ := info_parts field_info
  have G1 := Lib.hid hi; have G2 := Lib.hid hz0; have G3 := Lib.hid hz1; have G4 := Lib.hid hz2
  clear hi hz0 hz1 hz2
  have q0 := HA0.out.c 6 _ rfl
  have z0 := HA0.out.z 6 (by simp)
  go_upto_region 15 with (first
    | (at_builtin; refine App.wpList_append_list _ rfl _ _ 22 rfl w.heap.size 31 i0 (.agg #[.string ByteArray.empty, .string ByteArray.empty]) 2 32 Tryd.underlying22 G1.out G2.out G3.out G4.out rfl (by decide) _ r.ts.length (cells r.ts) rfl (HO1.out.alloc (.cells #[.string ⟨#[90]⟩, .string ⟨#[]⟩] 31)) (some ⟨w1.heap.size, 0, none⟩) 1 1 [.string ⟨#[90]⟩, .string ⟨#[]⟩] rfl rfl (lit_lie w1 w1.heap.size rfl 31 [.string ⟨#[90]⟩, .string ⟨#[]⟩] 1) (by intro u hu; rcases (by simpa using hu : u = .string ⟨#[90]⟩ ∨ u = .string ⟨#[]⟩) with rfl | rfl <;> rfl) (by have := HF.out.ts; unfold maxLen; omega) (by have := HF.out.ts; omega) (by have := HB1.out.size; simp; omega) ?_
       intro v2 w2 hO2 hgr2 _ hor2
       obtain ⟨b2, c2, rfl⟩ := own_slice hO2
       have HO2 := Lib.hid hO2
       have HA2 := Lib.hid ((HA1.out.alloc (.cells #[.string ⟨#[90]⟩, .string ⟨#[]⟩] 31)).grown hgr2 (fun e => by have := HR1.out _ e.symm; omega))
       have HZ2 := Lib.hid ((HZ1.out.alloc (.cells #[.string ⟨#[90]⟩, .string ⟨#[]⟩] 31)).grown hgr2 (fun e => by have := HR1.out _ e.symm; omega))
       have HB2 := Lib.hid ((HB1.out.alloc HB1.out.size (.cells #[.string ⟨#[90]⟩, .string ⟨#[]⟩] 31)).grown hgr2 (by have := HB1.out.size; simp; omega) (fun j e => by have := HR1.out _ e; omega))
       have HR2 := Lib.hid (show ∀ g, (Value.slice b2 (r.ts.length + 1) c2).ownBlock = some g → w.heap.size + 1 < g from fun g e => by
         have := HZ1.out.lt
         rcases hor2 with h | h
         · rw [h] at e; exact HR1.out g e
         · rw [h] at e; cases e; simp; omega)
       have q := HA2.out.c 6 _ rfl; have z := HA2.out.z 6 (by simp)
       clear hO2 hgr2 hor2 q0 z0)
    | (at_builtin; refine App.wpList_append_list _ rfl _ _ 22 rfl w.heap.size 31 i0 (.agg #[.string ByteArray.empty, .string ByteArray.empty]) 2 32 Tryd.underlying22 G1.out G2.out G3.out G4.out rfl (by decide) _ 0 [] rfl (World.ownsRow_nil _ _ _ _) ta r.ts.length tc (cells r.ts) rfl (cells_length _) (cells_lie (H3.out.below HB0.out)) (cells_all_one _) (by have := HF.out.ts; unfold maxLen; omega) (by have := HF.out.ts; omega) HB0.out.size ?_
       intro v1 w1 hO1 hgr1 _ hor1
       replace hor1 : v1.ownBlock = none ∨ v1.ownBlock = some W.heap.size := hor1
       have hb1 : Below W.heap.size W w1 := below_of_grown hgr1
       rw [Nat.zero_add, List.nil_append] at hO1
       obtain ⟨b1, c1, rfl⟩ := own_slice hO1
       have HO1 := Lib.hid hO1
       have HA1 := Lib.hid (HA0.out.below hb1); have HZ1 := Lib.hid (HZ0.out.below hb1); have HB1 := Lib.hid (Base.below_step HB0.out hb1)
       have HR1 := Lib.hid (show ∀ g, (Value.slice b1 r.ts.length c1).ownBlock = some g → w.heap.size + 1 < g from fun g e => by
         have := HZ0.out.lt
         rcases hor1 with h | h
         · rw [h] at e; cases e
         · rw [h] at e; cases e; omega)
       clear hO1 hgr1 hor1 hb1))
  clear q z
  have HA3 := Lib.hid (HA2.out.set 6 (.slice b2 (r.ts.length + 1) c2) (by simp))
  have HZ3 := Lib.hid (HZ2.out.other w.heap.size 6 (.slice b2 (r.ts.length + 1) c2) (by omega))
  have HB3 := Lib.hid (show Below w.heap.size w (w2.setCell ⟨w.heap.size, 6, none⟩ (.slice b2 (r.ts.length + 1) c2)) from HB2.out.setCell (Nat.le_refl _) _)
  have HO3 := Lib.hid (ownsRow_setCell_other HO2.out (a := ⟨w.heap.size, 6, none⟩) (fun e => by have := HR2.out _ e; simp only at this; omega) (.slice b2 (r.ts.length + 1) c2))
  generalize w2.setCell ⟨w.heap.size, 6, none⟩ (.slice b2 (r.ts.length + 1) c2) = W1 at *
  have q0 := HA3.out.c 0 _ rfl; have q1 := HA3.out.c 1 _ rfl; have q2 := HA3.out.c 2 _ rfl; have q3 := HA3.out.c 3 _ rfl; have q4 := HA3.out.c 4 _ rfl; have q5 := HA3.out.c 5 _ rfl; have q6 := HA3.out.c 6 _ rfl
  have p0 := HZ3.out.z 0 (by simp); have y0 := HZ3.out.c 0 _ rfl; have p1 := HZ3.out.z 1 (by simp); have y1 := HZ3.out.c 1 _ rfl; have p2 := HZ3.out.z 2 (by simp); have y2 := HZ3.out.c 2 _ rfl; have p3 := HZ3.out.z 3 (by simp); have y3 := HZ3.out.c 3 _ rfl; have p4 := HZ3.out.z 4 (by simp); have y4 := HZ3.out.c 4 _ rfl; have p5 := HZ3.out.z 5 (by simp); have y5 := HZ3.out.c 5 _ rfl; have p6 := HZ3.out.z 6 (by simp); have y6 := HZ3.out.c 6 _ rfl
  go_wp2_with fail
  obtain ⟨X, hX, hBX, hbX, hsX, hoX, -⟩ := put7 HZ3.out (by simp) HB3.out (Nat.le_succ _) (.string r.m) (.string r.x) (.int .i64 r.k) (.slice fa r.fs.length fc) (.bool r.ch) (.slice ba r.body.length bc) (.slice b2 (r.ts.length + 1) c2)
  rw [hX]
  have d0 := hBX.c 0 _ rfl; have d1 := hBX.c 1 _ rfl; have d2 := hBX.c 2 _ rfl; have d3 := hBX.c 3 _ rfl; have d4 := hBX.c 4 _ rfl; have d5 := hBX.c 5 _ rfl; have d6 := hBX.c 6 _ rfl
  refine bodyPost_ret (v := .agg #[.string r.m, .string r.x, .int .i64 r.k, .slice fa r.fs.length fc, .bool r.ch, .slice ba r.body.length bc, .slice b2 (r.ts.length + 1) c2]) (by simp [results, Tryd.results9, go_sem, d0, d1, d2, d3, d4, d5, d6]) rfl ⟨_, rfl, ?_, hbX⟩
  have hrow := hoX _ _ _ _ _ _ HO3.out (fun e => by have := HR2.out _ e; omega)
  have hrow2 : X.ownsRow w.heap.size 31 2 (.slice b2 (r.ts.length + 1) c2) (r.ts.length + 1) (cells (r.ts ++ [((⟨#[90]⟩ : ByteArray), (⟨#[]⟩ : ByteArray))])) := by
    rw [cells_append]; exact hrow
  obtain ⟨A9, c9, e9, h9⟩ := Flds.of_own hrow2
  simp only [Value.slice.injEq, true_and] at e9
  obtain ⟨rfl, rfl⟩ := e9
  have hl : (r.ts ++ [((⟨#[90]⟩ : ByteArray), (⟨#[]⟩ : ByteArray))]).length = r.ts.length + 1 := by simp
  exact ⟨_, _, _, _, _, _, (by show _ = Value.agg #[.string r.m, .string r.x, .int .i64 r.k, .slice fa r.fs.length fc, .bool r.ch, .slice ba r.body.length bc, .slice b2 (r.ts ++ [((⟨#[90]⟩ : ByteArray), (⟨#[]⟩ : ByteArray))]).length c2]; rw [hl]), H1.out.below hbX, H2.out.below hbX, (by show Flds X _ (r.ts ++ [((⟨#[90]⟩ : ByteArray), (⟨#[]⟩ : ByteArray))]).length _; rw [hl]; exact h9)⟩
theorem bent_any (V : Value) (r : R) (a : Int) (s : ByteArray) (w : World) (h : Reads w V r) (hf : Small r) (h0 : 0 ≤ a) : Calls Tryd.prog 9 #[V, .int .u8 a, .string s] w fun e w' =>
    ∃ V', e = .returned V' ∧ Reads w' V' (bent (a.toNat % 7) s r) ∧ Below w.heap.size w w' := by
  have e : Int.tmod a 7 = ((a.toNat % 7 : Nat) : Int) := by
    rw [Int.tmod_eq_emod_of_nonneg h0]; omega
  have hlt : a.toNat % 7 < 7 := Nat.mod_lt _ (by decide)
  generalize a.toNat % 7 = q at *
  rcases (by omega : q = 0 ∨ q = 1 ∨ q = 2 ∨ q = 3 ∨ q = 4 ∨ q = 5 ∨ q = 6) with rfl | rfl | rfl | rfl | rfl | rfl | rfl
  · exact bent0_any V r a s w h hf e
  · exact bent1_any V r a s w h hf e
  · exact bent2_any V r a s w h hf e
  · exact bent3_any V r a s w h hf e
  · exact bent4_any V r a s w h hf e
  · exact bent5_any V r a s w h hf e
  · exact bent6_any V r a s w h hf e
end code
end Go.Proofs.YtechehbegiinpaaDoor.Rec
