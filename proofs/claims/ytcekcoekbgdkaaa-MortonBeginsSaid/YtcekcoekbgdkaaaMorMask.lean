/- Plain: a code whose bits are put one by one, number by number. No program is named here. -/
import Derived.Test.YtcekcoekbgdkaaaMorMath
namespace Go.Proofs.Ytcekcoekbgdkaaa.Mm
/-- The code's bits of the first k numbers, and the first l bits of the next one. -/
def msk (R : List Int) (k l : Nat) : Nat → Nat := fun t => if t % R.length < k ∨ (t % R.length = k ∧ t / R.length < l) then cbit R t else 0
theorem msk_lt (R : List Int) (k l t : Nat) : msk R k l t < 2 := by
  unfold msk; split
  · exact cbit_lt R t
  · omega
theorem bin_zero : ∀ n, bin (fun _ => 0) n = 0
  | 0 => rfl
  | n + 1 => by rw [bin_succ, bin_zero n]
theorem msk_zero (R : List Int) (n : Nat) : bytesOf (msk R 0 0) n = List.replicate n 0 := by
  have e : msk R 0 0 = fun _ => 0 := by
    funext t; unfold msk
    generalize t / R.length = q
    rw [if_neg (by omega)]
  rw [e]
  apply List.ext_getElem (by rw [bytesOf_length, List.length_replicate])
  intro i h1 h2
  rw [List.getElem_replicate]
  simp only [bytesOf, List.getElem_map]
  exact bin_zero 8
theorem msk_free {R : List Int} {k l : Nat} (hk : k < R.length) : msk R k l (l * R.length + k) = 0 := by
  obtain ⟨a, b⟩ := mul_place (l := l) hk
  unfold msk
  rw [a, b, if_neg (by omega)]
theorem msk_step {R : List Int} {k l : Nat} (hk : k < R.length) (t : Nat) : msk R k (l + 1) t = upd (msk R k l) (l * R.length + k) (cbit R (l * R.length + k)) t := by
  obtain ⟨a, b⟩ := mul_place (l := l) hk
  unfold upd
  by_cases h : t = l * R.length + k
  · subst h
    rw [if_pos rfl]
    unfold msk
    rw [a, b, if_pos (by omega)]
  · rw [if_neg h]
    unfold msk
    have h2 : ¬ (t % R.length = k ∧ t / R.length = l) := by
      rintro ⟨e1, e2⟩
      have := Nat.div_add_mod t R.length
      rw [e1, e2, Nat.mul_comm] at this
      exact h this.symm
    by_cases c : t % R.length < k ∨ (t % R.length = k ∧ t / R.length < l)
    · rw [if_pos c, if_pos (by omega)]
    · rw [if_neg c, if_neg (by omega)]
theorem msk_put {R : List Int} {k l : Nat} (hk : k < R.length) (hl : l < 64) :
    (bytesOf (msk R k l) (8 * R.length)).set ((l * R.length + k) / 8) ((bytesOf (msk R k l) (8 * R.length)).getD ((l * R.length + k) / 8) 0 ||| Cm.z64 (R.getD k 0) / 2 ^ (63 - l) % 2 * 2 ^ (7 - (l * R.length + k) % 8)) = bytesOf (msk R k (l + 1)) (8 * R.length) := by
  have hp := place_lt hk hl
  rw [← cbit_at R l k hk, ← bytesOf_upd (msk_lt R k l) _ _ _ (by omega) (msk_free hk) (cbit_lt R _)]
  exact bytesOf_congr _ fun i _ => (msk_step hk i).symm
theorem msk_row (R : List Int) (k : Nat) : bytesOf (msk R k 64) (8 * R.length) = bytesOf (msk R (k + 1) 0) (8 * R.length) := by
  apply bytesOf_congr
  intro t ht
  have := div_lt (i := t) (d := R.length) (m := 64) (by omega)
  unfold msk
  generalize t / R.length = q at *
  by_cases c : t % R.length ≤ k
  · rw [if_pos (by omega), if_pos (by omega)]
  · rw [if_neg (by omega), if_neg (by omega)]
theorem msk_end (R : List Int) : bytesOf (msk R R.length 0) (8 * R.length) = code R := by
  apply bytesOf_congr
  intro t ht
  have : t % R.length < R.length := Nat.mod_lt _ (by omega)
  unfold msk
  rw [if_pos (Or.inl this)]
end Go.Proofs.Ytcekcoekbgdkaaa.Mm
