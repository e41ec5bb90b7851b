/-
  Layer 13 (parser): what the laws share: literal bytes, records that were told.
-/
import Derived.Test.YtibnobdbmojjhaaGreatDoorPgRead
import Derived.Test.YtibnobdbmojjhaaGreatDoorBytes
namespace Go.Proofs.YtibnobdbmojjhaaGreatDoor.Pg
open Go.RowKit Base Txt Mem Par

abbrev usual : Bd := ⟨1024, 32, 8192, 65536, 32, 8, 4, 20, true, true⟩
abbrev bdV (b : Bd) : Value := .agg #[.int .i64 b.x0, .int .i64 b.x1, .int .i64 b.x2, .int .i64 b.x3, .int .i64 b.x4, .int .i64 b.x5, .int .i64 b.x6, .int .i64 b.x7, .bool b.ch, .bool b.od]
/-- A record at a place of a block. -/
def RecAt (w : World) (bk j : Nat) (r : Rec.R) : Prop := ∃ fa fc ba bc ta tc, Flds w fa r.fs.length r.fs ∧ Nums .u8 w ba r.body.length (r.body.map fun c => (c.toNat : Int)) ∧ Flds w ta r.ts.length r.ts ∧
  w.cell? ⟨bk, j, none⟩ = some (.string r.m) ∧ w.cell? ⟨bk, j + 1, none⟩ = some (.string r.x) ∧ w.cell? ⟨bk, j + 2, none⟩ = some (.int .i64 r.k) ∧ w.cell? ⟨bk, j + 3, none⟩ = some (.slice fa r.fs.length fc) ∧
  w.cell? ⟨bk, j + 4, none⟩ = some (.bool r.ch) ∧ w.cell? ⟨bk, j + 5, none⟩ = some (.slice ba r.body.length bc) ∧ w.cell? ⟨bk, j + 6, none⟩ = some (.slice ta r.ts.length tc)
/-- A slice of records. -/
def Said (w : World) (o : Value) (out : List Rec.R) : Prop := ∃ a c, o = .slice a out.length c ∧ (0 < out.length → ∃ bk, a = some ⟨bk, 0, none⟩ ∧ bk < w.heap.size ∧ ∀ k (hk : k < out.length), RecAt w bk (k * 7) out[k])
theorem Told.said {L : List (Option Nat)} {B : Nat} {w : World} {o : Value} {out : List Rec.R} (h : Told L B w o out) : Said w o out := h.at
theorem RecAt.below {w w' : World} {bk j : Nat} {r : Rec.R} (h : RecAt w bk j r) (hlt : bk < w.heap.size) (hb : Below w.heap.size w w') : RecAt w' bk j r := by
  obtain ⟨fa, fc, ba, bc, ta, tc, f1, f2, f3, c0, c1, c2, c3, c4, c5, c6⟩ := h
  exact ⟨fa, fc, ba, bc, ta, tc, f1.below hb, f2.below hb, f3.below hb, (hb.cell (p := ⟨bk, j, none⟩) hlt).trans c0, (hb.cell (p := ⟨bk, j + 1, none⟩) hlt).trans c1, (hb.cell (p := ⟨bk, j + 2, none⟩) hlt).trans c2, (hb.cell (p := ⟨bk, j + 3, none⟩) hlt).trans c3, (hb.cell (p := ⟨bk, j + 4, none⟩) hlt).trans c4, (hb.cell (p := ⟨bk, j + 5, none⟩) hlt).trans c5, (hb.cell (p := ⟨bk, j + 6, none⟩) hlt).trans c6⟩
theorem Said.below {w w' : World} {o : Value} {out : List Rec.R} (h : Said w o out) (hb : Below w.heap.size w w') : Said w' o out := by
  obtain ⟨a, c, e, hc⟩ := h
  refine ⟨a, c, e, fun h0 => ?_⟩
  obtain ⟨bk, e1, hlt, h1⟩ := hc h0
  exact ⟨bk, e1, Nat.lt_of_lt_of_le hlt hb.size, fun k hk => (h1 k hk).below hlt hb⟩
abbrev bytesV (l : List UInt8) : Array Value := (l.map fun c => Value.int .u8 (c.toNat : Int)).toArray
/-- Bytes written out, in a block that was made last. -/
theorem Bts.lit {L : List (Option Nat)} {w : World} (hin : In w L) (l : List UInt8) (V : Array Value) (hV : V = bytesV l) (ty : TypeId) (fr : Nat × Nat) : Bts L (w.alloc (.cells V ty fr)) (some ⟨w.heap.size, 0, none⟩) l := by
  subst hV
  refine ⟨⟨by simp, fun h0 => ⟨w.heap.size, 0, rfl, by simp, fun k hk => ?_⟩⟩, fun ad e => ?_⟩
  · rw [Nat.zero_add, cell_of_row _ _ k _ ty fr (heap_alloc_new _ _)]
    simp [bytesV, hk]
  · obtain rfl : ad = ⟨w.heap.size, 0, none⟩ := by simpa using e.symm
    exact ⟨fun hm => by have : w.heap.size < w.heap.size := hin _ hm; omega, by simp⟩
theorem Bts.alloc {L : List (Option Nat)} {w : World} {a : Option Addr} {l : List UInt8} (h : Bts L w a l) (o : Obj) : Bts L (w.alloc o) a l := h.step (Step.of_below ((Below.refl _ _).alloc (Nat.le_refl _) _))
/-- Bytes of a text. -/
theorem Bts.conv {L : List (Option Nat)} {w W : World} (hin : In w L) (s : ByteArray) (hb : By.Bytes W w.heap.size s.data.toList) (hlt : w.heap.size < W.heap.size) : Bts L W (some ⟨w.heap.size, 0, none⟩) s.data.toList := by
  refine ⟨⟨by simp, fun h0 => ⟨w.heap.size, 0, rfl, hlt, fun k hk => ?_⟩⟩, fun ad e => ?_⟩
  · rw [Nat.zero_add, (hb k hk).1, List.getElem?_map, List.getElem?_eq_getElem hk]
    rfl
  · obtain rfl : ad = ⟨w.heap.size, 0, none⟩ := by simpa using e.symm
    exact ⟨fun hm => by have : w.heap.size < w.heap.size := hin _ hm; omega, hlt⟩
theorem Parts.two {L : List (Option Nat)} {w : World} {a a' : Option Addr} {c c' : Nat} {l l' : List UInt8} (h : Bts L w a l) (h' : Bts L w a' l') (hin : In w L) (ty : TypeId) : Parts L (w.alloc (.cells #[.slice a l.length c, .slice a' l'.length c'] ty)) (some ⟨w.heap.size, 0, none⟩) [l, l'] := by
  have hb : Below w.heap.size w (w.alloc (.cells #[.slice a l.length c, .slice a' l'.length c'] ty)) := (Below.refl _ _).alloc (Nat.le_refl _) _
  refine ⟨fun _ => ⟨w.heap.size, 0, rfl, by simp, fun hm => by have := hin _ hm; omega, fun k hk => ?_⟩⟩
  have hk : k < 2 := hk
  have hr := fun j => cell_of_row (w.alloc (.cells #[.slice a l.length c, .slice a' l'.length c'] ty)) w.heap.size j _ ty (0, 0) (heap_alloc_new w _)
  rcases (by omega : k = 0 ∨ k = 1) with rfl | rfl
  · exact ⟨a, c, (hr 0).trans rfl, h.step (Step.of_below hb)⟩
  · exact ⟨a', c', (hr 1).trans rfl, h'.step (Step.of_below hb)⟩
theorem in_alloc {L : List (Option Nat)} {w : World} (h : In w L) (o : Obj) : In (w.alloc o) L := h.mono (by simp)
theorem in_nil (w : World) : In w [] := fun k hk => by cases hk
/-- A reading of bytes that are known. -/
theorem read_said {p : Nat} (hp : p < 4294967296) (b : Bd) (w : World) (a : Option Addr) (c : Nat) (l : List UInt8) (hl : Bts [] w a l) (hn : l.length ≤ 400000000) (e : Nat) (cl : Bool) (out : List Rec.R) (he : (Q.read p b l).err = e) (hc : (Q.read p b l).clean = cl) (ho : (Q.read p b l).out = out) : Calls Tryz.prog 32 #[.int .u32 (p : Int), bdV b, .slice a l.length c] w fun r w' =>
    ∃ o, r = .returned (.tuple #[o, .int .i64 (e : Int), .bool cl]) ∧ Said w' o out ∧ Below w.heap.size w w' := by
  refine (read_any (b := b) hp w a c l hl hn).mono ?_
  rintro r w' ⟨o, L, B0, rfl, hT, hb⟩
  rw [he, hc]
  rw [ho] at hT
  exact ⟨o, rfl, hT.said, hb⟩
end Go.Proofs.YtibnobdbmojjhaaGreatDoor.Pg
