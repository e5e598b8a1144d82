/- Slices of bytes turned into texts. -/
import Derived.Test.YtcekcoekbgdkaaaGen
namespace Go.Proofs.Ytcekcoekbgdkaaa
open Go.RowKit

theorem A22 : Try.prog.underlying 25 = some (.slice 5) := by kernel_rfl
/-- Bytes that are read become a text of the same bytes. -/
theorem convert_bytes {w : World} {p : Option Addr} {n c : Nat} {B : List Nat} (h : Bytes w p n c B) (hB : B ≠ []) : (convert 25 9 (.slice p n c)).run Try.prog w = .ok (.string (strOfNums (B.map Int.ofNat))) w := by
  obtain ⟨g, o, rfl, hx⟩ := h.ne hB
  exact run_convert_bytes_arg (P := Try.prog) w 25 5 A22 U5 g o n c (B.map Int.ofNat) (by rw [List.length_map]; exact h.size.symm) (fun i hi => by
    have hi2 : i < B.length := by have := h.size; omega
    rw [hx i hi2]
    simp [List.getD_eq_getElem?_getD, hi2]) 9 A9
theorem convert_tx {w : World} {p : Option Addr} {n c : Nat} {B : List Nat} (h : Tx w p n c B) : (convert 25 9 (.slice p n c)).run Try.prog w = .ok (.string (strOf B)) w := by
  by_cases hB : B = []
  · subst hB
    obtain rfl : n = 0 := h.size
    rw [run_convert_bytes_string w _ _ _ _ _ _ A22 U5 A9]
    cases p with
    | none => rfl
    | some x => exact rfl
  · exact convert_bytes h.bytes hB
end Go.Proofs.Ytcekcoekbgdkaaa
