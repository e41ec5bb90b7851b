/-
  Layer 7 (target), in plain words: a path of pieces that may be, with a query that may be, is read as it, in each form.
-/
import Derived.Test.YtnlphcchohbhgaaDoorTargetBack
namespace Go.Proofs.YtnlphcchohbhgaaDoor.Tgt
open Go.RowKit Base Oct Num Txt

def six : List ByteArray := [(⟨#[97]⟩ : ByteArray), ⟨#[98, 47]⟩, ⟨#[37, 52, 49]⟩, ⟨#[46]⟩, ⟨#[120, 61, 49]⟩, ⟨#[58]⟩]
def methsF : List ByteArray := [(⟨#[71, 69, 84]⟩ : ByteArray), ⟨#[80, 79, 83, 84]⟩, ⟨#[79, 80, 84, 73, 79, 78, 83]⟩, ⟨#[72, 69, 65, 68]⟩]
def formP (r : Nat) : List UInt8 := (six[r]?.getD ByteArray.empty).data.toList
def formL (bs : List UInt8) : List UInt8 := bs.flatMap fun b => formP (b.toNat % 6)
theorem form_ok : ∀ r : Fin 6, written pathMarks (formP r.val) = true ∧ (formP r.val).length ≤ 3 := by decide +kernel
theorem formL_snoc (bs : List UInt8) (k : Nat) (h : k < bs.length) : formL (bs.take (k + 1)) = formL (bs.take k) ++ formP (bs[k].toNat % 6) := by
  unfold formL
  rw [List.take_succ_eq_append_getElem h, List.flatMap_append, List.flatMap_singleton]
theorem formL_ok : ∀ bs : List UInt8, written pathMarks (formL bs) = true
  | [] => rfl
  | b :: r => by
    have e : formL (b :: r) = formP (b.toNat % 6) ++ formL r := rfl
    rw [e]
    exact written_app (by decide) _ _ (form_ok ⟨b.toNat % 6, Nat.mod_lt _ (by decide)⟩).1 (formL_ok r)
def hostF : List UInt8 := [104, 46, 111, 114, 103, 58, 56]
theorem meths_ok : ∀ M ∈ methsF, M.data.toList ≠ connect ∧ parse M.data.toList hostF = none ∧ parse M.data.toList [42] = (if M.data.toList = options then some ⟨4, [], [], [], false⟩ else none) ∧ M.size ≤ 7 := by decide +kernel
theorem connect_host : parse connect hostF = some ⟨3, hostF, [], [], false⟩ := by decide +kernel

variable {l q : List UInt8} {a : Bool}
/-- The path and the query, by one question mark or none. -/
def whole (l q : List UInt8) (a : Bool) : List UInt8 := if a = true then l ++ 63 :: q else l
theorem whole_put (f : Nat) (h : List UInt8) : putPath ⟨f, h, l, q, a⟩ = whole l q a := rfl
theorem whole_origin (hl : written pathMarks l = true) (hd : ∃ r, l = 47 :: r) (hq : queryB q = true) (ha : a = false → q = []) : origin (whole l q a) = some ⟨1, [], l, q, a⟩ := by
  have hno : (63 : UInt8) ∉ l := written_no 63 (by decide +kernel) (by decide) l hl
  have hp : pathB l = true := by
    obtain ⟨r, rfl⟩ := hd
    unfold pathB
    rw [hl]; rfl
  unfold origin whole
  cases a with
  | true => rw [if_pos rfl, cutAt_app 63 l q hno]; simp only [hp, hq, Bool.and_self, if_true]
  | false =>
    have e : (if false = true then l ++ 63 :: q else l) = l := rfl
    rw [e, cutAt_none 63 l hno]
    obtain rfl := ha rfl
    simp only [hp, hq, Bool.and_self, if_true]
theorem whole_head (hd : ∃ r, l = 47 :: r) : ∃ r, whole l q a = 47 :: r := by
  obtain ⟨r, rfl⟩ := hd
  unfold whole
  cases a with
  | true => exact ⟨r ++ 63 :: q, rfl⟩
  | false => exact ⟨r, rfl⟩
theorem whole_parse {m : List UInt8} (hm : m ≠ connect) (hl : written pathMarks l = true) (hd : ∃ r, l = 47 :: r) (hq : queryB q = true) (ha : a = false → q = []) : parse m (whole l q a) = some ⟨1, [], l, q, a⟩ := by
  obtain ⟨r, hr⟩ := whole_head (q := q) (a := a) hd
  rw [parse, if_neg hm, if_neg (by rintro ⟨_, h⟩; rw [hr] at h; simp at h), if_pos (by rw [hr]; rfl), whole_origin hl hd hq ha]
theorem whole_absolute {m : List UInt8} (hm : m ≠ connect) (hl : written pathMarks l = true) (hd : ∃ r, l = 47 :: r) (hq : queryB q = true) (ha : a = false → q = []) : parse m (http ++ (hostF ++ whole l q a)) = some ⟨2, hostF, l, q, a⟩ := by
  obtain ⟨r, hr⟩ := whole_head (q := q) (a := a) hd
  obtain ⟨c1, c2⟩ := host_cut (fun c => !ended c) hostF r 47 (by decide) (by decide)
  have d1 : hostOf (hostF ++ whole l q a) = hostF := by rw [hr]; exact c1
  have d2 : restOf (hostF ++ whole l q a) = whole l q a := by rw [hr]; exact c2
  have d3 : slashed (whole l q a) = whole l q a := by rw [hr]; rfl
  rw [parse, if_neg hm, if_neg (by rintro ⟨_, h⟩; simp [http] at h), if_neg (by simp [http]), if_pos (schemed_http _), drop_http, absolute, d1, d2, d3, whole_origin hl hd hq ha]
  simp only
  rw [if_pos (by decide +kernel)]
theorem whole_connect (hd : ∃ r, l = 47 :: r) : parse connect (whole l q a) = none := by
  obtain ⟨r, hr⟩ := whole_head (q := q) (a := a) hd
  rw [parse, if_pos rfl, authority, hr]
  have : hostB (47 :: r) = false := by
    unfold hostB
    have e : (cutAt 58 (47 :: r)).1 = 47 :: (cutAt 58 r).1 := rfl
    have en : nameOk (47 :: (cutAt 58 r).1) = false := by
      unfold nameOk
      rw [List.all_cons, show plainB nameMarks 47 = false by decide +kernel, Bool.false_and, Bool.and_false, Bool.and_false]
    rw [e, en, Bool.false_and]
  rw [this, Bool.and_false]; rfl
end Go.Proofs.YtnlphcchohbhgaaDoor.Tgt
