/-
  Layer 9 (field): the contracts of package field's Put and of the document's: a line of each field, in order.
-/
import Derived.Test.YtmbjnolikofaoaaField
import Derived.Test.YtmbjnolikofaoaaBuild
import Derived.Lib.UnsafeStr
import Derived.Lib.AppendStr
namespace Go.Proofs.Ytmbjnolikofaoaa.Fd
open Go.RowKit Base Txt Tgt

abbrev lineB (f : Fld) : ByteArray := ((f.1 ++ ⟨#[58, 32]⟩) ++ f.2) ++ ⟨#[13, 10]⟩
theorem lineB_list (f : Fld) : (lineB f).data.toList = line f := by
  simp [lineB, line, ByteArray.data_append]
theorem lineB_size (f : Fld) : (lineB f).size = f.1.size + f.2.size + 4 := by
  rw [← len, lineB_list, line_length]
theorem put_take (fs : List Fld) (k : Nat) : (put (fs.take k)).length ≤ (put fs).length := by
  conv => rhs; rw [← List.take_append_drop k fs, put_append, List.length_append]
  omega
theorem put_take_line (fs : List Fld) (k : Nat) (h : k < fs.length) : (put (fs.take k)).length + (line (fs[k]?.getD dflt)).length ≤ (put fs).length := by
  rw [← List.length_append, ← put_snoc fs k h]
  exact put_take fs (k + 1)
theorem isB_alloc {T E : TypeId} {B b : Nat} {bs : List Value} {w : World} (h : Lib.IsBuilderF T E B b bs w) (o : Obj) : Lib.IsBuilderF T E B b bs (w.alloc o) :=
  h.elim (fun x => .inl (x.alloc o)) (fun x => .inr (x.alloc o))
theorem isB_fresh (w : World) : Lib.IsBuilderF Bld.T Bld.E w.heap.size w.heap.size [] (w.alloc (.cells #[.pointer none, .slice none 0 0] Bld.T)) :=
  .inl ⟨Nat.le_refl _, .slice none 0 0, heap_alloc_new w _, World.ownsRowF_nil _ _ _ _, by simp [Value.ownBlock]⟩

section code
set_option maxHeartbeats 4000000
set_option maxRecDepth 100000
attribute [local go_sem] Base.some_undef
theorem put_any (a : Option Addr) (n cap : Nat) (fs : List Fld) (w : World) (hv : Flds w a n fs) (hn : n ≤ 1000000000) (hz : (put fs).length ≤ 1000000000000) :
    Calls Try.prog 21 #[.slice a n cap] w fun e w' => e = .returned (.string (ba (put fs))) ∧ Below w.heap.size w w' := by
  have HV := Lib.hid hv
  have HL := Lib.hid hv.1
  have HZ := Lib.hid hz
  clear hv hz
  have HW := Lib.hid (fun (bs : List Value) (s : ByteArray) (wz : World) h hl hw => Bld.write_any w.heap.size w.heap.size bs s wz h hl hw)
  obtain ⟨R, hR⟩ : ∃ R, ba (put fs) = R := ⟨_, rfl⟩
  rw [hR]
  have HR := Lib.hid hR
  clear hR
  go_enter Try.func21, Try.ntmps21
  go_wp2
  go_loopw [8] (fun i wr => ∃ k : Nat, k ≤ n ∧ i = .int .i64 k ∧ Hid (Lib.IsBuilderF Bld.T Bld.E w.heap.size w.heap.size (Lib.byteCells (put (fs.take k))) wr) ∧ Hid (Below w.heap.size w wr)) (fun i _ => n - (intOf i).toNat)
  case atStart => exact ⟨0, Nat.zero_le _, rfl, Lib.hid (isB_fresh w), Lib.hid ((Below.refl _ _).alloc (Nat.le_refl _) _)⟩
  case round =>
    obtain ⟨k, hk, rfl, HB, hbr⟩ := hrel
    rcases Nat.lt_or_ge k n with hlt | hge
    · obtain ⟨bl, off, rfl, hbl, hc⟩ := (HV.out.below hbr.out).2 (by omega)
      obtain ⟨hc0, hc1⟩ := hc k hlt
      have hkl : k < fs.length := by rw [HL.out]; exact hlt
      have hsn := Lib.hid (put_snoc fs k hkl)
      have hle := put_take_line fs k hkl
      have hz := HZ.out
      clear hc
      generalize fs[k]?.getD dflt = f at *
      rw [line_length] at hle
      have hlen := Lib.hid (show (Lib.byteCells (put (fs.take k))).length + (lineB f).size ≤ 140737488355328 by rw [Lib.byteCells_length, lineB_size]; omega)
      have v1 : ¬ 9223372036854775807 < f.1.size + 2 := by omega
      have v2 : ¬ 9223372036854775807 < f.1.size + 2 + f.2.size := by omega
      have v3 : ¬ 9223372036854775807 < f.1.size + 2 + f.2.size + 2 := by omega
      have hcells : Lib.byteCells (put (fs.take k)) ++ Lib.strCells (lineB f) = Lib.byteCells (put (fs.take (k + 1))) := by
        rw [Lib.strCells_eq, lineB_list, ← Lib.byteCells_append, ← hsn.out]
      have HCl := Lib.hid hcells
      clear hcells hle hz hsn hkl
      obtain ⟨f0, f1⟩ := f
      simp only at hc0 hc1 v1 v2 v3
      have hBw : w.heap.size ≤ wr.heap.size := hbr.out.size
      go_wp2_with (go_at_call 36; with_reducible refine (HW.out _ _ _ (isB_alloc HB.out _) hlen.out ?hbw).mono ?_)
      case hbw => simp; omega
      rintro e w2 ⟨rfl, hat, hb2⟩
      have H2 : Hid (Lib.IsBuilderF Bld.T Bld.E w.heap.size w.heap.size (Lib.byteCells (put (fs.take (k + 1)))) w2) := Lib.hid (by rw [← HCl.out]; exact .inr hat)
      have H3 : Hid (Below w.heap.size w w2) := Lib.hid ((hbr.out.alloc hBw _).trans hb2)
      clear hat hb2 HB hbr HCl hlen
      go_wp2
      go_roundw
      case rel => exact ⟨k + 1, by omega, by go_num, H2, H3⟩
      case measure => simp [intOf]; omega
    · obtain rfl : k = n := by omega
      have hput : fs.take k = fs := List.take_of_length_le (by rw [HL.out]; exact Nat.le_refl _)
      rw [hput] at HB
      have HS := Lib.hid (Try.Builder_String_any_f w.heap.size w.heap.size (put fs) wr HB.out hbr.out.size)
      clear HB hput
      go_wp2_with (go_at_call 37; with_reducible refine HS.out.mono ?_; rintro e w2 ⟨rfl, hx, hb2⟩)
      go_ret
      exact ⟨by rw [← HR.out]; rfl, hbr.out.trans hb2⟩
end code
end Go.Proofs.Ytmbjnolikofaoaa.Fd
