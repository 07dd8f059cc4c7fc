/-
  Contract of style.Plain.
-/
import Derived.Test.YtgbhfhdhmkmpcaaYA
namespace Go.Proofs.Ytgbhfhdhmkmpcaa.Style
open Go.RowKit
set_option linter.unusedVariables false
set_option linter.unusedSimpArgs false

/-- A text of these bytes. -/
def bs (l : List UInt8) : ByteArray := ⟨l.toArray⟩
theorem bs_size (l : List UInt8) : (bs l).size = l.length := List.size_toArray
theorem bs_of (s : ByteArray) : bs s.data.toList = s := by
  cases s
  simp [bs]
theorem bs_toList (l : List UInt8) : (bs l).toList = l := by rw [ByteArray.toList_eq]; rfl
theorem bs_app (a b : List UInt8) : bs a ++ bs b = bs (a ++ b) := by
  apply ByteArray.ext
  simp [bs]
theorem bs_at (s : List UInt8) (j : Nat) (h : j < (bs s).size) : (bs s)[j] = s.getD j 0 := by
  have h' : j < s.length := by rwa [bs_size] at h
  rw [List.getD_eq_getElem?_getD, List.getElem?_eq_getElem h']
  simp [bs, ByteArray.getElem_eq_getElem_data]

end Go.Proofs.Ytgbhfhdhmkmpcaa.Style
