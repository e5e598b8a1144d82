/- Plain lemmas on lists of natural numbers: bytes. No program is named here. -/
import Derived.Laws.BitsAllLaws
namespace Go.Proofs.Ytcekcoekbgdkaaa.Sm
def allB (l : List Nat) : Prop := ∀ x ∈ l, x < 256
theorem getD_lt {l : List Nat} {m : Nat} (h : ∀ x ∈ l, x < m) (hm : 0 < m) (i : Nat) : l.getD i 0 < m := by
  rw [List.getD_eq_getElem?_getD]
  cases hh : l[i]? with
  | none => simpa using hm
  | some x => simpa using h x (List.mem_of_getElem? hh)
theorem allB_drop {l : List Nat} (h : allB l) (n : Nat) : allB (l.drop n) := fun x hx => h x (List.mem_of_mem_drop hx)
theorem getD_take (B : List Nat) (n i : Nat) (h : i < n) : (B.take n).getD i 0 = B.getD i 0 := by
  simp [List.getD_eq_getElem?_getD, List.getElem?_take_of_lt h]
theorem getD_drop (B : List Nat) (n i : Nat) : (B.drop n).getD i 0 = B.getD (n + i) 0 := by
  simp [List.getD_eq_getElem?_getD]
theorem getD_app_left (A B : List Nat) (i : Nat) (h : i < A.length) : (A ++ B).getD i 0 = A.getD i 0 := by
  rw [List.getD_eq_getElem?_getD, List.getD_eq_getElem?_getD, List.getElem?_append_left h]
theorem getD_app_right (A B : List Nat) (i : Nat) : (A ++ B).getD (A.length + i) 0 = B.getD i 0 := by
  rw [List.getD_eq_getElem?_getD, List.getD_eq_getElem?_getD, List.getElem?_append_right (by omega), Nat.add_sub_cancel_left]
end Go.Proofs.Ytcekcoekbgdkaaa.Sm
