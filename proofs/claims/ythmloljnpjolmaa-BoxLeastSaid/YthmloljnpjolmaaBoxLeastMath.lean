/- Plain arithmetic: no point of a box has a lesser key than the nearest one. -/
import Derived.Test.YthmloljnpjolmaaBoxMath
namespace Go.Proofs.Ythmloljnpjolmaa

/-- The numbers of the point of a box that has the least key. -/
def nearAt (kd cl : Int) (A R S : List Int) (i : Nat) : Int :=
  if kd = 2 then (if (i : Int) = cl then S.getD i 0 else R.getD i 0)
  else if kd = 3 then (if i = 0 then R.getD 0 0 else min (max (A.getD (i - 1) 0) (R.getD i 0)) (S.getD i 0))
  else R.getD i 0
theorem drop_getD (P : List Int) (k : Nat) : (P.drop 1).getD k 0 = P.getD (k + 1) 0 := by
  simp [List.getD_eq_getElem?_getD, List.getElem?_drop, Nat.add_comm]
theorem apart_near {a r s p : Int} (h1 : r ≤ p) (h2 : p ≤ s) : apart (min (max a r) s) a ≤ apart p a := by
  unfold apart
  split <;> split <;> omega
theorem near_least {kd cl : Int} {A R S P N : List Int} {an n : Nat} (ho : ordP kd cl an n) (hN : ∀ i, i < n → N.getD i 0 = nearAt kd cl A R S i)
    (h1 : les R P n = true) (h2 : les P S n = true) : keyI kd cl A N an n ≤ keyI kd cl A P an n := by
  have h1 := (les_iff R P n).1 h1
  have h2 := (les_iff P S n).1 h2
  have ho' := ho
  unfold ordP at ho'
  unfold keyI
  rw [if_pos ho, if_pos ho]
  by_cases h3 : kd = 3
  · rw [if_pos h3, if_pos h3]
    unfold btw
    split
    · refine tot_mono _ _ _ fun k hk => ?_
      rw [drop_getD, drop_getD, hN (k + 1) (by omega)]
      unfold nearAt
      rw [if_neg (by omega), if_pos h3, if_neg (by omega), Nat.add_sub_cancel]
      exact apart_near (h1 (k + 1) (by omega)) (h2 (k + 1) (by omega))
    · omega
  · rw [if_neg h3, if_neg h3]
    have hcl : cl.toNat < n := by omega
    have e1 := hN cl.toNat hcl
    have l1 := h1 cl.toNat hcl
    have l2 := h2 cl.toNat hcl
    unfold nearAt at e1
    by_cases h4 : kd = 2
    · rw [if_pos h4, if_pos (by omega)] at e1
      rw [if_pos h4, if_pos h4]
      omega
    · rw [if_neg h4, if_neg h3] at e1
      rw [if_neg h4, if_neg h4]
      omega
end Go.Proofs.Ythmloljnpjolmaa
