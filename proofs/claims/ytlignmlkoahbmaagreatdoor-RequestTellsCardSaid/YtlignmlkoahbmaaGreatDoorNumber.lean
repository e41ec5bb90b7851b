/-
  Layer 2 (number): what each function of package number answers, and the same of the document's own package. No condition but those that the signs bear.
-/
import Derived.Test.YtlignmlkoahbmaaGreatDoorNumWords
namespace Go.Proofs.YtlignmlkoahbmaaGreatDoor.Num
open Go.RowKit Base Oct

def str (l : List UInt8) : ByteArray := ⟨l.toArray⟩
theorem str_app (l m : List UInt8) : str (l ++ m) = str l ++ str m := by
  apply ByteArray.ext
  rw [ByteArray.data_append]
  simp [str]
theorem str_size (l : List UInt8) : (str l).size = l.length := by simp [str, ByteArray.size]
theorem str_data (s : ByteArray) : str s.data.toList = s := rfl
theorem signs : ∀ k : Fin 16, (ByteArray.mk #[48, 49, 50, 51, 52, 53, 54, 55, 56, 57, 97, 98, 99, 100, 101, 102]).extract k.val (k.val + 1) = str [sign k.val] := by decide +kernel

section code
set_option maxHeartbeats 800000
end code
end Go.Proofs.YtlignmlkoahbmaaGreatDoor.Num
