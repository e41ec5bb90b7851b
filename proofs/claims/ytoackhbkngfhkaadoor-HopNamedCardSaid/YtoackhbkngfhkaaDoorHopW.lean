/-
  Layer 18 (hop): plain words: which fields go no further, and what is added behind. No program is spoken of.
-/
import Derived.Test.YtoackhbkngfhkaaDoorText
namespace Go.Proofs.YtoackhbkngfhkaaDoor.Hop
open Go.RowKit Base Txt

def conN : ByteArray := ⟨#[67, 111, 110, 110, 101, 99, 116, 105, 111, 110]⟩
def hostN : ByteArray := ⟨#[72, 111, 115, 116]⟩
def clN : ByteArray := ⟨#[67, 111, 110, 116, 101, 110, 116, 45, 76, 101, 110, 103, 116, 104]⟩
def viaN : ByteArray := ⟨#[86, 105, 97]⟩
def fromN : ByteArray := ⟨#[88, 45, 70, 111, 114, 119, 97, 114, 100, 101, 100, 45, 70, 111, 114]⟩
def verB : ByteArray := ⟨#[49, 46, 49, 32]⟩
def names : List ByteArray := [⟨#[67, 111, 110, 110, 101, 99, 116, 105, 111, 110]⟩, ⟨#[75, 101, 101, 112, 45, 65, 108, 105, 118, 101]⟩,
  ⟨#[80, 114, 111, 120, 121, 45, 65, 117, 116, 104, 101, 110, 116, 105, 99, 97, 116, 101]⟩, ⟨#[80, 114, 111, 120, 121, 45, 65, 117, 116, 104, 111, 114, 105, 122, 97, 116, 105, 111, 110]⟩,
  ⟨#[80, 114, 111, 120, 121, 45, 67, 111, 110, 110, 101, 99, 116, 105, 111, 110]⟩, ⟨#[84, 69]⟩, ⟨#[84, 114, 97, 105, 108, 101, 114]⟩,
  ⟨#[84, 114, 97, 110, 115, 102, 101, 114, 45, 69, 110, 99, 111, 100, 105, 110, 103]⟩, ⟨#[85, 112, 103, 114, 97, 100, 101]⟩]
/-- A name that no Connection can have taken out. -/
def stays (s : ByteArray) : Bool := same s hostN || same s clN
/-- The names that a list of fields says are for one hop. -/
def namesOf (fs : List Fld) : List ByteArray := names ++ (list (find fs conN)).filter fun s => !stays s
def strip (fs : List Fld) : List Fld := without fs (namesOf fs)
def via (fs : List Fld) (name : ByteArray) : List Fld := fs ++ [(viaN, verB ++ name)]
def fro (fs : List Fld) (ip : ByteArray) : List Fld := fs ++ [(fromN, ip)]

theorem names_size : ∀ s ∈ names, s.size ≤ 1000000000 := by decide
theorem list_size (vs : List ByteArray) (s : ByteArray) (h : s ∈ list vs) : s.size ≤ room vs := by
  unfold list at h
  obtain ⟨v, hv, hs⟩ := List.mem_flatMap.1 h
  unfold partsOf at hs
  obtain ⟨l, hl, rfl⟩ := List.mem_map.1 hs
  have h1 := parts_size 44 _ l hl
  rw [len] at h1
  have h2 := trim_size Txt.blank (ba l)
  rw [ba_size] at h2
  have h3 := room_mem vs v hv
  exact Nat.le_trans h2 (by omega)
theorem namesOf_size (fs : List Fld) (hr : room (find fs conN) ≤ 900000000) : ∀ s ∈ namesOf fs, s.size ≤ 1000000000 := by
  intro s hs
  rcases List.mem_append.1 hs with h | h
  · exact names_size s h
  · have := list_size _ s (List.mem_filter.1 h).1
    omega
theorem namesOf_len (fs : List Fld) : (namesOf fs).length ≤ 9 + room (find fs conN) := by
  unfold namesOf
  rw [List.length_append]
  have h1 := List.length_filter_le (fun s => !stays s) (list (find fs conN))
  have h2 := list_le (find fs conN)
  have : names.length = 9 := rfl
  omega
/-- How great a list of a Connection's values may be, by the fields' sizes. -/
theorem room_find (fs : List Fld) (name : ByteArray) (m : Nat) (h : ∀ f ∈ fs, f.2.size ≤ m) : room (find fs name) ≤ fs.length * (m + 1) := by
  induction fs with
  | nil => exact Nat.zero_le _
  | cons f fs ih =>
    have h1 := ih fun g hg => h g (by simp [hg])
    have h2 := h f (by simp)
    unfold find room at h1 ⊢
    rw [List.length_cons, Nat.succ_mul, List.filter_cons]
    split
    · rw [List.map_cons, List.map_cons, List.sum_cons]; omega
    · omega
theorem strip_le (fs : List Fld) : (strip fs).length ≤ fs.length := List.length_filter_le _ _
theorem strip_mem {fs : List Fld} {f : Fld} (h : f ∈ strip fs) : f ∈ fs := (List.mem_filter.1 h).1
end Go.Proofs.YtoackhbkngfhkaaDoor.Hop
