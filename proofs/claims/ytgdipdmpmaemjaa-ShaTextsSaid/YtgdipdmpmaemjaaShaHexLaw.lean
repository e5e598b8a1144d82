/- The walk of ShaHex. -/
import Derived.Test.YtgdipdmpmaemjaaShaFrom
namespace Go.Proofs.Ytgdipdmpmaemjaa
open Go.RowKit

theorem hexd_isHex {n : Nat} (h : n < 16) : isHex (hexd n) = true := by
  unfold isHex hexd
  split <;> simp <;> omega
theorem hv_hexd {n : Nat} (h : n < 16) : hv (hexd n) = n := by
  unfold hv hexd
  split
  · rw [if_pos (by omega)]; omega
  · rw [if_neg (by omega), if_pos (by omega)]; omega
theorem hexd_hv {c : Nat} (h : isHex c = true) : hexd (hv c) = c := by
  unfold isHex at h
  simp only [Bool.or_eq_true, decide_eq_true_eq] at h
  unfold hv hexd
  rcases h with h | h
  · rw [if_pos h, if_pos (by omega)]; omega
  · have e : ¬ (48 ≤ c ∧ c ≤ 57) := by omega
    rw [if_neg e, if_pos h, if_neg (by omega)]; omega
theorem hexs_get (d : List Nat) (i : Nat) (h : i < d.length) : (hexs d).getD (2 * i) 0 = hexd (d.getD i 0 / 16) ∧ (hexs d).getD (2 * i + 1) 0 = hexd (d.getD i 0 % 16) := by
  induction d generalizing i with
  | nil => simp at h
  | cons b d ih =>
    have e : hexs (b :: d) = hexd (b / 16) :: hexd (b % 16) :: hexs d := rfl
    cases i with
    | zero => rw [e]; exact ⟨rfl, rfl⟩
    | succ i =>
      have := ih i (by simpa using h)
      rw [e, show 2 * (i + 1) = 2 * i + 1 + 1 from by omega]
      simpa using this
theorem good_hexs {d : List Nat} (h : d.length = 32) (hd : Sm.allB d) : good (hexs d) = true := by
  refine good_of (by rw [hexs_length, h]) (fun j hj => ?_)
  have hb := Sm.getD_lt hd (by omega) (j / 2)
  obtain ⟨h1, h2⟩ := hexs_get d (j / 2) (by omega)
  rcases Nat.mod_two_eq_zero_or_one j with h0 | h0
  · rw [show j = 2 * (j / 2) from by omega, h1]; exact hexd_isHex (by omega)
  · rw [show j = 2 * (j / 2) + 1 from by omega, h2]; exact hexd_isHex (by omega)
theorem bytesH_hexs {d : List Nat} (h : d.length = 32) (hd : Sm.allB d) (k : Nat) (hk : k ≤ 32) : bytesH (hexs d) k = d.take k := by
  induction k with
  | zero => rfl
  | succ k ih =>
    have hb := Sm.getD_lt hd (by omega) k
    obtain ⟨h1, h2⟩ := hexs_get d k (by omega)
    rw [bytesH, ih (by omega), h1, h2, hv_hexd (by omega), hv_hexd (by omega)]
    rw [List.take_succ_eq_append_getElem (by omega)]
    congr 2
    rw [List.getD_eq_getElem?_getD, List.getElem?_eq_getElem (by omega)]
    show (d[k] / 16) * 16 + d[k] % 16 = d[k]
    omega
theorem fromH_hexs {d : List Nat} (h : d.length = 32) (hd : Sm.allB d) : fromH (hexs d) = d := by
  unfold fromH
  rw [if_pos (good_hexs h hd), bytesH_hexs h hd 32 (by omega), List.take_of_length_le (by omega)]
theorem bytesH_get (T : List Nat) (k i : Nat) (h : i < k) : (bytesH T k).getD i 0 = hv (T.getD (2 * i) 0) * 16 + hv (T.getD (2 * i + 1) 0) := by
  induction k with
  | zero => omega
  | succ k ih =>
    rw [bytesH]
    by_cases hk : i < k
    · rw [Sm.getD_app_left _ _ _ (by rw [bytesH_length]; exact hk)]; exact ih hk
    · obtain rfl : i = k := by omega
      have := Sm.getD_app_right (bytesH T i) [hv (T.getD (2 * i) 0) * 16 + hv (T.getD (2 * i + 1) 0)] 0
      rw [bytesH_length, Nat.add_zero] at this
      exact this
theorem good_len {T : List Nat} (h : good T = true) : T.length = 64 := by
  unfold good at h
  simp only [Bool.and_eq_true, decide_eq_true_eq] at h
  exact h.1
theorem good_get {T : List Nat} (h : good T = true) (j : Nat) (hj : j < 64) : isHex (T.getD j 0) = true := by
  have hl := good_len h
  unfold good at h
  simp only [Bool.and_eq_true, decide_eq_true_eq, List.all_eq_true] at h
  rw [List.getD_eq_getElem?_getD, List.getElem?_eq_getElem (by omega)]
  exact h.2 _ (List.getElem_mem _)
theorem hexs_fromH {T : List Nat} (h : good T = true) : hexs (fromH T) = T := by
  have hl := good_len h
  unfold fromH
  rw [if_pos h]
  apply List.ext_getElem
  · rw [hexs_length, bytesH_length, hl]
  · intro j h1 h2
    have e1 : ∀ {l : List Nat} (hj : j < l.length), l[j] = l.getD j 0 := fun hj => by rw [List.getD_eq_getElem?_getD, List.getElem?_eq_getElem hj]; rfl
    rw [e1 h1, e1 h2]
    obtain ⟨a1, a2⟩ := hexs_get (bytesH T 32) (j / 2) (by rw [bytesH_length]; omega)
    have b := bytesH_get T 32 (j / 2) (by omega)
    have v1 := hv_lt (T.getD (2 * (j / 2)) 0)
    have v2 := hv_lt (T.getD (2 * (j / 2) + 1) 0)
    rcases Nat.mod_two_eq_zero_or_one j with h0 | h0
    · rw [show j = 2 * (j / 2) from by omega, a1, b, show ∀ x y, y < 16 → (x * 16 + y) / 16 = x from fun x y hy => by omega]
      · exact hexd_hv (good_get h _ (by omega))
      · exact v2
    · rw [show j = 2 * (j / 2) + 1 from by omega, a2, b, show ∀ x y, y < 16 → (x * 16 + y) % 16 = y from fun x y hy => by omega]
      · exact hexd_hv (good_get h _ (by omega))
      · exact v2
theorem fromH_ok (T : List Nat) : Sm.allB (fromH T) := by
  unfold fromH
  split
  · have : ∀ k, Sm.allB (bytesH T k) := fun k => by
      induction k with
      | zero => intro x hx; simp [bytesH] at hx
      | succ k ih =>
        intro x hx
        rw [bytesH, List.mem_append, List.mem_singleton] at hx
        rcases hx with hx | rfl
        · exact ih x hx
        · have := hv_lt (T.getD (2 * k) 0)
          have := hv_lt (T.getD (2 * k + 1) 0)
          omega
    exact this 32
  · exact zeros_ok 32
end Go.Proofs.Ytgdipdmpmaemjaa
