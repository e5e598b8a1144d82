/- The nearest point of a box: plain arithmetic; a row of a call's own that is copied and written. -/
import Derived.Test.YthmloljnpjolmaaBoxLeastFn
import Derived.Test.YthmloljnpjolmaaBoxLeastMath
import Derived.Lib.MinMax
import Derived.Laws.OwnMore
namespace Go.Proofs.Ythmloljnpjolmaa
open Go.RowKit

theorem I2n : (Try.prog.info? 2).map (fun i => (i.zero, i.size, i.bytes)) = some (some (.int .i64 0), 1, 8) := by kernel_rfl
theorem URn : Try.prog.underlying 23 = some (.slice 2) := by kernel_rfl
def ivs (R : List Int) : List Value := R.map fun x => .int .i64 x
theorem ivs_length (R : List Int) : (ivs R).length = R.length := List.length_map ..
theorem ivs_get (R : List Int) (i : Nat) (h : i < R.length) : (ivs R)[i]? = some (.int .i64 (R.getD i 0)) := by
  simp [ivs, List.getD_eq_getElem?_getD, h]
theorem ivs_set (R : List Int) (k : Nat) (x : Int) : ivs (R.set k x) = (ivs R).set k (.int .i64 x) := by simp [ivs, List.map_set]
theorem ivs_one (R : List Int) : ∀ u ∈ ivs R, u.oneCell' = true := by
  intro u hu
  simp only [ivs, List.mem_map] at hu
  obtain ⟨x, _, rfl⟩ := hu
  rfl
theorem set_getD (R : List Int) (k i : Nat) (x : Int) (hk : k < R.length) : (R.set k x).getD i 0 = if i = k then x else R.getD i 0 := by
  simp only [List.getD_eq_getElem?_getD, List.getElem?_set]
  by_cases h : k = i
  · subst h; simp [hk]
  · rw [if_neg h, if_neg (Ne.symm h)]
/-- A row of a call's own, above a height. -/
def OwnRow (w : World) (base g n c : Nat) (N : List Int) : Prop := w.ownsRow base 2 1 (.slice (some ⟨g, 0, none⟩) n c) n (ivs N)
theorem own_form {w : World} {base n : Nat} {v : Value} {N : List Int} (h : w.ownsRow base 2 1 v n (ivs N)) (hn : 1 ≤ n) : ∃ g c, v = .slice (some ⟨g, 0, none⟩) n c ∧ OwnRow w base g n c N ∧ base ≤ g := by
  rcases h.2 with ⟨_, h0⟩ | ⟨g, cap, cur, hv, hb, r⟩
  · omega
  · exact ⟨g, cap, hv, by unfold OwnRow; rw [← hv]; exact h, hb⟩
theorem OwnRow.ints {w : World} {base g n c : Nat} {N : List Int} (h : OwnRow w base g n c N) (hN : ∀ x ∈ N, -9223372036854775808 ≤ x ∧ x ≤ 9223372036854775807) : Ints w (some ⟨g, 0, none⟩) n c N := by
  have hl : n = N.length := by have := h.1; rw [ivs_length, Nat.mul_one] at this; exact this.symm
  rcases h.2 with ⟨h1, _⟩ | ⟨g', cap, cur, hv, hb, hg, hle, hm, hs, ht⟩
  · simp at h1
  · obtain ⟨rfl, rfl⟩ : g = g' ∧ c = cap := by simpa using hv
    refine ⟨hl, hle, hN, Or.inr ⟨g, 0, rfl, fun i hi => ?_⟩⟩
    have := World.ownsRow.cellAt h i (by omega)
    rw [Nat.zero_add, this, ivs_get N i hi]
theorem OwnRow.length {w : World} {base g n c : Nat} {N : List Int} (h : OwnRow w base g n c N) : n = N.length := by have := h.1; rw [ivs_length, Nat.mul_one] at this; exact this.symm
theorem OwnRow.later {w w' : World} {base g n c : Nat} {N : List Int} (h : OwnRow w base g n c N) (hb : Below w.heap.size w w') : OwnRow w' base g n c N := by
  obtain ⟨h1, h2⟩ := h
  refine ⟨h1, h2.imp id ?_⟩
  rintro ⟨g, cap, cur, hv, hg, hh, r⟩
  exact ⟨g, cap, cur, hv, hg, (hb.block _ (Array.getElem?_eq_some_iff.1 hh).1).trans hh, r⟩
theorem OwnRow.set {w : World} {base g n c : Nat} {N : List Int} (h : OwnRow w base g n c N) (k : Nat) (x : Int) : OwnRow (w.setCell ⟨g, k, none⟩ (.int .i64 x)) base g n c (N.set k x) := by
  unfold OwnRow
  rw [ivs_set]
  exact (World.ownsRow.stored h k _).1
theorem own_empty (w : World) : (w.alloc (.cells #[] 2)).ownsRow w.heap.size 2 1 (.slice (some ⟨w.heap.size, 0, none⟩) 0 0) 0 [] :=
  ⟨rfl, Or.inr ⟨w.heap.size, 0, #[], rfl, Nat.le_refl _, heap_alloc_new w _, Nat.le_refl _, by unfold maxLen; omega, rfl, rfl⟩⟩
theorem Ints.news {w : World} {g o n c : Nat} {R : List Int} (h : Ints w (some ⟨g, o, none⟩) n c R) : ∀ j u, (ivs R)[j]? = some u → w.cell? ((⟨g, o, none⟩ : Addr).add j) = some u := fun j u hu => by
  have hj : j < R.length := by have := (List.getElem?_eq_some_iff.1 hu).1; simpa [ivs] using this
  rw [ivs_get _ _ hj] at hu
  rcases h.at' with h0 | ⟨g', o', hp, hx⟩
  · rw [h0] at hj; simp at hj
  · simp only [Option.some.injEq, Addr.mk.injEq, and_true] at hp
    obtain ⟨rfl, rfl⟩ := hp
    rw [Addr.add_mid, hx j hj, hu]
/-- How far the nearest point is told, when its first k numbers are. -/
def nearK (kd cl : Int) (A R S : List Int) (k i : Nat) : Int := if kd = 3 then (if i < k then nearAt kd cl A R S i else R.getD i 0) else nearAt kd cl A R S i
theorem near_ok {kd cl : Int} {A R S : List Int} (hA : ∀ x ∈ A, -9223372036854775808 ≤ x ∧ x ≤ 9223372036854775807) (hR : ∀ x ∈ R, -9223372036854775808 ≤ x ∧ x ≤ 9223372036854775807) (hS : ∀ x ∈ S, -9223372036854775808 ≤ x ∧ x ≤ 9223372036854775807) (i : Nat) :
    -9223372036854775808 ≤ nearAt kd cl A R S i ∧ nearAt kd cl A R S i ≤ 9223372036854775807 := by
  have h1 := getD_ok hA (i - 1)
  have h2 := getD_ok hR i
  have h3 := getD_ok hS i
  have h4 := getD_ok hR 0
  unfold nearAt
  repeat' split
  all_goals omega
theorem ok_of_getD {N : List Int} (h : ∀ i, i < N.length → -9223372036854775808 ≤ N.getD i 0 ∧ N.getD i 0 ≤ 9223372036854775807) : ∀ x ∈ N, -9223372036854775808 ≤ x ∧ x ≤ 9223372036854775807 := by
  intro x hx
  obtain ⟨i, hi, rfl⟩ := List.getElem_of_mem hx
  have := h i hi
  simpa [List.getD_eq_getElem?_getD, hi] using this
theorem gap_near' (a r s : Int) (h : r ≤ s) : gap a r s = apart (min (max a r) s) a := by
  unfold gap apart
  repeat' split
  all_goals omega
/-- The nearest point has the least key. -/
theorem near_key {kd cl : Int} {A R S N : List Int} {an n : Nat} (ho : ordP kd cl an n) (hN : ∀ i, i < n → N.getD i 0 = nearAt kd cl A R S i) (hRS : les R S n = true) : keyI kd cl A N an n = leastI kd cl A R S an n := by
  have hRS := (les_iff R S n).1 hRS
  have ho' := ho
  unfold ordP at ho'
  unfold keyI leastI
  rw [if_pos ho]
  by_cases h3 : kd = 3
  · rw [if_pos h3, if_pos h3]
    have hd : an = n - 1 ∧ 1 ≤ an ∧ an ≤ 8 := by omega
    obtain ⟨rfl, e1, e2⟩ := hd
    unfold tbx btw
    rw [if_pos (show okP (n - 1) (n - 1) ∧ n - 1 = n - 1 from ⟨⟨e1, e2, rfl⟩, rfl⟩), if_pos (show okP (n - 1) (n - 1) from ⟨e1, e2, rfl⟩)]
    refine tot_congr' _ _ _ fun k hk => ?_
    rw [drop_getD, drop_getD, drop_getD, hN (k + 1) (by omega), gap_near' _ _ _ (hRS (k + 1) (by omega))]
    unfold nearAt
    rw [if_neg (by omega), if_pos h3, if_neg (by omega), Nat.add_sub_cancel]
  · rw [if_neg h3, if_neg h3]
    have hcl : cl.toNat < n := by omega
    have e1 := hN cl.toNat hcl
    unfold nearAt at e1
    by_cases h4 : kd = 2
    · rw [if_pos h4, if_pos (by omega)] at e1
      rw [if_pos h4, if_pos h4, e1]
    · rw [if_neg h4, if_neg h3] at e1
      rw [if_neg h4, if_neg h4, e1]
end Go.Proofs.Ythmloljnpjolmaa
