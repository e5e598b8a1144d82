/- Plain lemmas for ShaTexts: a preimage tells its tag and texts. -/
import Derived.Test.YtgdipdmpmaemjaaShaRefPre
import Derived.Test.YtgdipdmpmaemjaaShaHexLaw
namespace Go.Proofs.Ytgdipdmpmaemjaa
open Go.RowKit

theorem bigs_last (n : Nat) (h : n < 256) : (Sm.bigs n).getD 7 0 = n := by
  show Sm.big n 7 = n
  unfold Sm.big
  simp
  omega
theorem bigs_len (n : Nat) : (Sm.bigs n).length = 8 := rfl
theorem part_inj {t u R S : List Nat} (ht : t.length < 256) (hu : u.length < 256) (h : part t ++ R = part u ++ S) : t = u ∧ R = S := by
  unfold part at h
  rw [List.append_assoc, List.append_assoc] at h
  obtain ⟨h1, h2⟩ := List.append_inj h (by rw [bigs_len, bigs_len])
  have hl : t.length = u.length := by
    have := congrArg (fun l => List.getD l 7 0) h1
    simp only [bigs_last _ ht, bigs_last _ hu] at this
    exact this
  exact List.append_inj h2 hl
theorem flat_inj : ∀ (L M : List (List Nat)), (∀ t ∈ L, t.length < 256) → (∀ t ∈ M, t.length < 256) → L.flatMap part = M.flatMap part → L = M
  | [], [], _, _, _ => rfl
  | [], u :: M, _, _, h => by
    have := congrArg List.length h
    simp only [List.flatMap_nil, List.flatMap_cons, List.length_append, part_length, List.length_nil] at this
    omega
  | t :: L, [], _, _, h => by
    have := congrArg List.length h
    simp only [List.flatMap_nil, List.flatMap_cons, List.length_append, part_length, List.length_nil] at this
    omega
  | t :: L, u :: M, h1, h2, h => by
    rw [List.flatMap_cons, List.flatMap_cons] at h
    obtain ⟨e1, e2⟩ := part_inj (h1 t (by simp)) (h2 u (by simp)) h
    rw [e1, flat_inj L M (fun x hx => h1 x (by simp [hx])) (fun x hx => h2 x (by simp [hx])) e2]
theorem pre_inj {a b : Nat} {L M : List (List Nat)} (h1 : ∀ t ∈ L, t.length < 256) (h2 : ∀ t ∈ M, t.length < 256) : pre a L = pre b M ↔ a = b ∧ L = M := by
  constructor
  · intro h
    unfold pre at h
    obtain ⟨e1, e2⟩ := List.cons.inj h
    exact ⟨e1, flat_inj L M h1 h2 e2⟩
  · rintro ⟨rfl, rfl⟩
    rfl
/-- The texts are alike as far as k. -/
def alike (a b : Nat) (L M : List (List Nat)) (k : Nat) : Bool := decide (a = b) && decide (L.length = M.length) && decide (L.take k = M.take k)
theorem alike_zero (a b : Nat) (L M : List (List Nat)) : alike a b L M 0 = (decide (a = b) && decide (L.length = M.length)) := by unfold alike; simp
theorem alike_all (a b : Nat) (L M : List (List Nat)) : alike a b L M L.length = decide (a = b ∧ L = M) := by
  unfold alike
  rw [List.take_length]
  by_cases h1 : a = b <;> by_cases h2 : L = M
  · subst h2; simp [h1]
  · have h3 : ¬ (L.length = M.length ∧ L = M.take L.length) := fun ⟨h4, h5⟩ => h2 (by rw [h4, List.take_length] at h5; exact h5)
    rw [decide_eq_false (p := a = b ∧ L = M) (fun h => h2 h.2), decide_eq_true h1, Bool.true_and]
    simpa [Classical.not_and_iff_not_or_not, Classical.or_iff_not_imp_left] using h3
  · simp [h1]
  · simp [h1]
theorem alike_step (a b : Nat) (L M : List (List Nat)) (k : Nat) (hk : k < L.length) (hm : L.length = M.length) : alike a b L M (k + 1) = (alike a b L M k && decide (L.getD k [] = M.getD k [])) := by
  unfold alike
  rw [take_succ_getD L k hk, take_succ_getD M k (by omega)]
  have e : decide (L.take k ++ [L.getD k []] = M.take k ++ [M.getD k []]) = (decide (L.take k = M.take k) && decide (L.getD k [] = M.getD k [])) := by
    rw [← Bool.decide_and]
    apply decide_eq_decide.2
    constructor
    · intro h
      obtain ⟨e1, e2⟩ := List.append_inj' h rfl
      exact ⟨e1, by simpa using e2⟩
    · rintro ⟨e1, e2⟩
      rw [e1, e2]
  rw [e, Bool.and_assoc, Bool.and_assoc, Bool.and_assoc]
end Go.Proofs.Ytgdipdmpmaemjaa
