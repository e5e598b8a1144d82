/- Plain arithmetic of orders: no Go in sight. -/
import Derived.Test.YthmloljnpjolmaaBoxRefE
namespace Go.Proofs.Ythmloljnpjolmaa

theorem ahead_irrefl (kd cl : Int) (A P : List Int) (an n : Nat) : ¬ aheadP kd cl A P P an n n := by
  unfold aheadP
  rintro ⟨-, -, -, h | ⟨-, h⟩⟩ <;> omega
theorem ahead_asymm {kd cl : Int} {A P Q : List Int} {an n m : Nat} (h : aheadP kd cl A P Q an n m) : ¬ aheadP kd cl A Q P an m n := by
  unfold aheadP at h ⊢
  obtain ⟨-, -, -, h⟩ := h
  rintro ⟨-, -, -, h'⟩
  omega
theorem ahead_total {kd cl : Int} {A P Q : List Int} {an n : Nat} (ho : ordP kd cl an n) (hid : P.getD 0 0 ≠ Q.getD 0 0) : aheadP kd cl A P Q an n n ∨ aheadP kd cl A Q P an n n := by
  unfold aheadP
  by_cases h : keyI kd cl A P an n < keyI kd cl A Q an n ∨ keyI kd cl A P an n = keyI kd cl A Q an n ∧ P.getD 0 0 < Q.getD 0 0
  · exact Or.inl ⟨ho, ho, rfl, h⟩
  · exact Or.inr ⟨ho, ho, rfl, by omega⟩
theorem ahead_trans {kd cl : Int} {A P Q R : List Int} {an n m k : Nat} (h : aheadP kd cl A P Q an n m) (h' : aheadP kd cl A Q R an m k) : aheadP kd cl A P R an n k := by
  unfold aheadP at h h' ⊢
  obtain ⟨h1, h2, rfl, h3⟩ := h
  obtain ⟨h4, h5, rfl, h6⟩ := h'
  exact ⟨h1, h2, rfl, by omega⟩
end Go.Proofs.Ythmloljnpjolmaa
