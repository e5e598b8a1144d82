/- Plain: which of two points stands ahead, by the highest bit in which two numbers are unlike. No program is named here. -/
import Derived.Test.YtcekcoekbgdkaaaMorMath
import Derived.Lib.BitFns
namespace Go.Proofs.Ytcekcoekbgdkaaa.Mm
open Go.Lib

theorem bitLenAux_lt : ∀ (f x : Nat), x < 2 ^ f → x < 2 ^ bitLenAux f x
  | 0, x, h => h
  | f + 1, x, h => by
    unfold bitLenAux
    by_cases c : x = 0
    · rw [if_pos c, c]; decide
    · rw [if_neg c, Nat.add_comm, Nat.pow_succ]
      rw [Nat.pow_succ] at h
      have := bitLenAux_lt f (x / 2) (by omega)
      omega
theorem bitLen_lt (x : Nat) (h : x < 2 ^ 64) : x < 2 ^ bitLen x := bitLenAux_lt 64 x h
theorem xor_div (a b m : Nat) : (a ^^^ b) / 2 ^ m = 0 ↔ a / 2 ^ m = b / 2 ^ m := by
  rw [← Nat.shiftRight_eq_div_pow, ← Nat.shiftRight_eq_div_pow, ← Nat.shiftRight_eq_div_pow, Nat.shiftRight_xor_distrib]
  constructor
  · intro h
    have e : (a >>> m ^^^ b >>> m) ^^^ b >>> m = 0 ^^^ b >>> m := by rw [h]
    rw [Nat.xor_assoc, Nat.xor_self, Nat.xor_zero, Nat.zero_xor] at e
    exact e
  · intro h
    rw [h, Nat.xor_self]
/-- How high the highest unlike bit of two numbers is: 64 for the first one, 0 where they are the same. -/
def top (a b : Nat) : Nat := bitLen (a ^^^ b)
theorem top_le {a b m : Nat} (ha : a < 2 ^ 64) (hb : b < 2 ^ 64) (hm : m ≤ 64) : top a b ≤ m ↔ a / 2 ^ m = b / 2 ^ m := by
  have hx : a ^^^ b < 2 ^ 64 := Nat.xor_lt_two_pow ha hb
  unfold top
  rw [← xor_div]
  constructor
  · intro h
    exact Nat.div_eq_of_lt (Nat.lt_of_lt_of_le (bitLen_lt _ hx) (Nat.pow_le_pow_right (by omega) h))
  · intro h
    exact bitLen_le _ m hm (by
      have := Nat.lt_mul_div_succ (a ^^^ b) (Nat.two_pow_pos m)
      rw [h] at this
      omega)
theorem top_max {a b : Nat} (ha : a < 2 ^ 64) (hb : b < 2 ^ 64) : top a b ≤ 64 := (top_le ha hb (Nat.le_refl _)).2 (by rw [Nat.div_eq_of_lt ha, Nat.div_eq_of_lt hb])
def zt (P Q : List Int) (k : Nat) : Nat := top (Cm.z64 (P.getD k 0)) (Cm.z64 (Q.getD k 0))
/-- The highest place so far, and which one stands ahead by it. -/
def ahd (P Q : List Int) : Nat → Nat × Bool
  | 0 => (0, false)
  | k + 1 => if (ahd P Q k).1 < zt P Q k then (zt P Q k, decide (P.getD k 0 < Q.getD k 0)) else ahd P Q k
theorem ahd_succ (P Q : List Int) (k : Nat) : ahd P Q (k + 1) = if (ahd P Q k).1 < zt P Q k then (zt P Q k, decide (P.getD k 0 < Q.getD k 0)) else ahd P Q k := rfl
theorem ahd_spec (P Q : List Int) : ∀ k, (∀ i, i < k → zt P Q i ≤ (ahd P Q k).1) ∧ (((ahd P Q k) = (0, false)) ∨ ∃ j, j < k ∧ zt P Q j = (ahd P Q k).1 ∧ 0 < zt P Q j ∧ (∀ i, i < j → zt P Q i < zt P Q j) ∧ (ahd P Q k).2 = decide (P.getD j 0 < Q.getD j 0))
  | 0 => ⟨fun i hi => by omega, Or.inl rfl⟩
  | k + 1 => by
    obtain ⟨h1, h2⟩ := ahd_spec P Q k
    rw [ahd_succ]
    by_cases c : (ahd P Q k).1 < zt P Q k
    · rw [if_pos c]
      refine ⟨fun i hi => ?_, Or.inr ⟨k, by omega, rfl, by omega, fun i hi => Nat.lt_of_le_of_lt (h1 i hi) c, rfl⟩⟩
      by_cases e : i = k
      · subst e; exact Nat.le_refl _
      · exact Nat.le_of_lt (Nat.lt_of_le_of_lt (h1 i (by omega)) c)
    · rw [if_neg c]
      refine ⟨fun i hi => ?_, h2.imp id ?_⟩
      · by_cases e : i = k
        · subst e; omega
        · exact h1 i (by omega)
      · rintro ⟨j, a, b⟩
        exact ⟨j, by omega, b⟩
/-- Of two codes the one stands ahead that has 0 where they are first unlike. -/
theorem cmp_first {f h : Nat → Nat} (hf : ∀ i, f i < 2) (hh : ∀ i, h i < 2) (n t : Nat) (ht : t < 8 * n) (he : ∀ i, i < t → f i = h i) (hl : f t < h t) : Cm.cmpL (bytesOf f n) (bytesOf h n) < 0 := by
  have hj : t / 8 < n := by omega
  have e1 : (bytesOf f n).take (t / 8) = (bytesOf h n).take (t / 8) := by
    apply List.ext_getElem (by simp [bytesOf_length])
    intro i h1 h2
    rw [List.length_take, bytesOf_length] at h1
    simp only [List.getElem_take, bytesOf, List.getElem_map, List.getElem_range]
    exact bin_congr 8 fun k hk => he _ (by omega)
  have d1 : (bytesOf f n).drop (t / 8) = bin (fun k => f (8 * (t / 8) + k)) 8 :: (bytesOf f n).drop (t / 8 + 1) := by
    rw [List.drop_eq_getElem_cons (by rw [bytesOf_length]; exact hj)]
    simp [bytesOf]
  have d2 : (bytesOf h n).drop (t / 8) = bin (fun k => h (8 * (t / 8) + k)) 8 :: (bytesOf h n).drop (t / 8 + 1) := by
    rw [List.drop_eq_getElem_cons (by rw [bytesOf_length]; exact hj)]
    simp [bytesOf]
  have hb := bin_lex (f := fun k => f (8 * (t / 8) + k)) (h := fun k => h (8 * (t / 8) + k)) (fun k => hf _) (fun k => hh _) (r := t % 8) (fun i hi => he _ (by omega)) (by
    show f (8 * (t / 8) + t % 8) < h (8 * (t / 8) + t % 8)
    rw [Nat.div_add_mod]
    exact hl) 8 (by omega)
  rw [Cm.cmpL_at e1, d1, d2, Cm.cmpL_cons, if_pos hb]
  decide
theorem pow_split {a m s : Nat} (h : m ≤ s) : a / 2 ^ s = a / 2 ^ m / 2 ^ (s - m) := by
  rw [Nat.div_div_eq_div_mul, ← Nat.pow_add, show m + (s - m) = s from by omega]
/-- Two numbers whose codes are first unlike at bit m - 1. -/
theorem bit_way {a b m : Nat} (h1 : a / 2 ^ (m + 1) = b / 2 ^ (m + 1)) (h2 : ¬ a / 2 ^ m = b / 2 ^ m) : (a < b ↔ a / 2 ^ m % 2 < b / 2 ^ m % 2) ∧ a / 2 ^ m % 2 ≠ b / 2 ^ m % 2 := by
  rw [Nat.pow_succ, ← Nat.div_div_eq_div_mul, ← Nat.div_div_eq_div_mul] at h1
  have hp := Nat.two_pow_pos m
  refine ⟨⟨fun h => ?_, fun h => ?_⟩, by omega⟩
  · have := Nat.div_le_div_right (c := 2 ^ m) (Nat.le_of_lt h)
    omega
  · apply Classical.byContradiction
    intro c
    have := Nat.div_le_div_right (c := 2 ^ m) (Nat.le_of_not_lt c)
    omega
/-- Where the highest unlike bit is that of the number j, the codes are first unlike there. -/
theorem ahd_way {P Q : List Int} (hP : inI P) (hQ : inI Q) (hl : P.length = Q.length) {j m : Nat} (hj : j < P.length) (hm : zt P Q j = m + 1) (ha : ∀ i, i < P.length → zt P Q i ≤ m + 1) (hb : ∀ i, i < j → zt P Q i < m + 1) :
    (∀ t, t < (63 - m) * P.length + j → cbit P t = cbit Q t) ∧ ((P.getD j 0 < Q.getD j 0) ↔ cbit P ((63 - m) * P.length + j) < cbit Q ((63 - m) * P.length + j)) ∧ cbit P ((63 - m) * P.length + j) ≠ cbit Q ((63 - m) * P.length + j) ∧ (63 - m) * P.length + j < 64 * P.length := by
  have m64 : m + 1 ≤ 64 := by rw [← hm]; exact top_max (z64_in hP j).1 (z64_in hQ j).1
  have hpl := place_lt (l := 63 - m) (m := 64) hj (by omega)
  have d1 := (top_le (z64_in hP j).1 (z64_in hQ j).1 m64).1 (ha j hj)
  have d2 : ¬ Cm.z64 (P.getD j 0) / 2 ^ m = Cm.z64 (Q.getD j 0) / 2 ^ m := fun e => by
    have := (top_le (z64_in hP j).1 (z64_in hQ j).1 (by omega)).2 e
    have h3 : zt P Q j ≤ m := this
    omega
  have w := bit_way d1 d2
  have c1 := cbit_at P (63 - m) j hj
  have c2 := cbit_at Q (63 - m) j (by omega)
  rw [← hl] at c2
  rw [show 63 - (63 - m) = m from by omega] at c1 c2
  refine ⟨fun t ht => ?_, ?_, ?_, hpl⟩
  · have hk : t % P.length < P.length := Nat.mod_lt _ (by omega)
    have e : t / P.length * P.length + t % P.length = t := by
      have := Nat.div_add_mod t P.length
      rw [Nat.mul_comm] at this
      exact this
    have g1 := cbit_at P (t / P.length) (t % P.length) hk
    have g2 := cbit_at Q (t / P.length) (t % P.length) (by omega)
    rw [← hl] at g2
    rw [e] at g1 g2
    rw [g1, g2]
    have hlev : t / P.length ≤ 63 - m := by
      have : t < (63 - m + 1) * P.length := by rw [Nat.add_mul]; omega
      have := div_lt this
      omega
    have eqs : Cm.z64 (P.getD (t % P.length) 0) / 2 ^ (63 - t / P.length) = Cm.z64 (Q.getD (t % P.length) 0) / 2 ^ (63 - t / P.length) := by
      by_cases c : t / P.length = 63 - m
      · have hkj : t % P.length < j := by
          rw [c] at e
          omega
        have := (top_le (m := m) (z64_in hP (t % P.length)).1 (z64_in hQ (t % P.length)).1 (by omega)).1 (by have : zt P Q (t % P.length) < m + 1 := hb _ hkj; unfold zt at this; omega)
        rw [c, show 63 - (63 - m) = m from by omega]
        exact this
      · have := (top_le (m := m + 1) (z64_in hP (t % P.length)).1 (z64_in hQ (t % P.length)).1 m64).1 (ha _ hk)
        rw [pow_split (m := m + 1) (by omega), pow_split (a := Cm.z64 (Q.getD _ 0)) (m := m + 1) (s := 63 - t / P.length) (by omega), this]
    rw [eqs]
  · rw [c1, c2, ← w.1]
    have e1 := (z64_in hP j).2
    have e2 := (z64_in hQ j).2
    omega
  · rw [c1, c2]
    exact w.2
theorem same_of_top {P Q : List Int} (hP : inI P) (hQ : inI Q) (hl : P.length = Q.length) (h : ∀ i, i < P.length → zt P Q i = 0) : P = Q := by
  apply ext_getI hl
  intro i hi
  have := (top_le (m := 0) (z64_in hP i).1 (z64_in hQ i).1 (by omega)).1 (by have := h i hi; unfold zt at this; omega)
  rw [Nat.pow_zero, Nat.div_one, Nat.div_one] at this
  have e1 := (z64_in hP i).2
  have e2 := (z64_in hQ i).2
  omega
/-- Ahead is as the codes stand. -/
theorem ahd_code {P Q : List Int} (hP : inI P) (hQ : inI Q) (hl : P.length = Q.length) : (ahd P Q P.length).2 = decide (Cm.cmpL (code P) (code Q) < 0) := by
  obtain ⟨h1, h2⟩ := ahd_spec P Q P.length
  rcases h2 with h2 | ⟨j, hj, e1, e2, e3, e4⟩
  · have hz : ∀ i, i < P.length → zt P Q i = 0 := fun i hi => by
      have := h1 i hi
      rw [h2] at this
      simp at this
      omega
    have := same_of_top hP hQ hl hz
    subst this
    rw [h2, (Cm.cmpL_zero (code P) (code P)).2 rfl]
    rfl
  · obtain ⟨m, hm⟩ : ∃ m, zt P Q j = m + 1 := ⟨zt P Q j - 1, by omega⟩
    obtain ⟨w1, w2, w3, w4⟩ := ahd_way hP hQ hl hj hm (fun i hi => by rw [← hm, e1]; exact h1 i hi) (fun i hi => by rw [← hm]; exact e3 i hi)
    rw [e4]
    unfold code
    rw [← hl]
    by_cases c : P.getD j 0 < Q.getD j 0
    · rw [decide_eq_true c, decide_eq_true (cmp_first (cbit_lt P) (cbit_lt Q) _ _ (by omega) w1 (w2.1 c))]
    · have c2 : cbit Q ((63 - m) * P.length + j) < cbit P ((63 - m) * P.length + j) := by
        have : ¬ cbit P ((63 - m) * P.length + j) < cbit Q ((63 - m) * P.length + j) := fun h => c (w2.2 h)
        omega
      have := cmp_first (cbit_lt Q) (cbit_lt P) (8 * P.length) _ (by omega) (fun i hi => (w1 i hi).symm) c2
      rw [Cm.cmpL_neg] at this
      rw [decide_eq_false c, decide_eq_false (by omega)]
/-- Where no number is greater the code doesn't stand behind. -/
theorem code_mono {P Q : List Int} (hP : inI P) (hQ : inI Q) (hl : P.length = Q.length) (h : ∀ i, i < P.length → P.getD i 0 ≤ Q.getD i 0) : Cm.cmpL (code P) (code Q) ≤ 0 := by
  obtain ⟨h1, h2⟩ := ahd_spec P Q P.length
  rcases h2 with h2 | ⟨j, hj, e1, e2, e3, e4⟩
  · have hz : ∀ i, i < P.length → zt P Q i = 0 := fun i hi => by
      have := h1 i hi
      rw [h2] at this
      simp at this
      omega
    have := same_of_top hP hQ hl hz
    subst this
    rw [(Cm.cmpL_zero (code P) (code P)).2 rfl]
    decide
  · obtain ⟨m, hm⟩ : ∃ m, zt P Q j = m + 1 := ⟨zt P Q j - 1, by omega⟩
    obtain ⟨w1, w2, w3, w4⟩ := ahd_way hP hQ hl hj hm (fun i hi => by rw [← hm, e1]; exact h1 i hi) (fun i hi => by rw [← hm]; exact e3 i hi)
    have hne : P.getD j 0 ≠ Q.getD j 0 := fun e => by
      have : zt P Q j = top (Cm.z64 (Q.getD j 0)) (Cm.z64 (Q.getD j 0)) := by unfold zt; rw [e]
      have h0 : top (Cm.z64 (Q.getD j 0)) (Cm.z64 (Q.getD j 0)) ≤ 0 := (top_le (z64_in hQ j).1 (z64_in hQ j).1 (by omega)).2 rfl
      omega
    have := h j hj
    unfold code
    rw [← hl]
    have := cmp_first (cbit_lt P) (cbit_lt Q) (8 * P.length) _ (by omega) w1 (w2.1 (by omega))
    omega
/-- Codes are the same just if the points are. -/
theorem code_same {P Q : List Int} (hP : inI P) (hQ : inI Q) (hl : P.length = Q.length) : Cm.cmpL (code P) (code Q) = 0 ↔ P = Q := by
  rw [Cm.cmpL_zero]
  constructor
  · intro h
    rw [← point_code hP, ← point_code hQ, h, hl]
  · rintro rfl; rfl
end Go.Proofs.Ytcekcoekbgdkaaa.Mm
