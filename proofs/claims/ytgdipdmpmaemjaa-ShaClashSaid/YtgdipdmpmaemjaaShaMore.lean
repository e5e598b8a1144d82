/- More plain mathematics of SHA-256: blocks of a text that goes on. -/
import Derived.Test.YtgdipdmpmaemjaaShaMath
namespace Go.Proofs.Ytgdipdmpmaemjaa.Sm
theorem word_congr {X Y : List Nat} (h : ∀ i, i < 64 → X.getD i 0 = Y.getD i 0) (i : Nat) (hi : i < 16) : word X i = word Y i := by
  unfold word
  rw [h _ (by omega), h _ (by omega), h _ (by omega), h _ (by omega)]
theorem words_congr {X Y : List Nat} (h : ∀ i, i < 64 → X.getD i 0 = Y.getD i 0) (n : Nat) (hn : n ≤ 16) : words X n = words Y n := by
  induction n with
  | zero => rfl
  | succ n ih => rw [words, words, ih (by omega), word_congr h n (by omega)]
theorem sched_congr {X Y : List Nat} (h : ∀ i, i < 64 → X.getD i 0 = Y.getD i 0) : sched X = sched Y := by
  unfold sched
  rw [words_congr h 16 (by omega)]
/-- Only the bytes of the full blocks count. -/
theorem blocks_congr {X Y : List Nat} (v : V8) (n : Nat) (h : ∀ i, i < 64 * n → X.getD i 0 = Y.getD i 0) : blocks X v n = blocks Y v n := by
  induction n with
  | zero => rfl
  | succ n ih =>
    rw [blocks, blocks, ih (fun i hi => h i (by omega))]
    rw [sched_congr (X := X.drop (64 * n)) (Y := Y.drop (64 * n)) (fun i hi => by rw [getD_drop, getD_drop]; exact h _ (by omega))]
theorem blocks_take (B : List Nat) (v : V8) (n F : Nat) (h : 64 * n ≤ F) : blocks (B.take F) v n = blocks B v n :=
  blocks_congr v n fun i hi => getD_take B F i (by omega)
theorem blocks_app (T B : List Nat) (v : V8) (n : Nat) (h : 64 * n ≤ T.length) : blocks (T ++ B) v n = blocks T v n :=
  blocks_congr v n fun i hi => getD_app_left T B i (by omega)
theorem blocks_add (T B : List Nat) (v : V8) (q n : Nat) (h : T.length = 64 * q) : blocks (T ++ B) v (q + n) = blocks B (blocks T v q) n := by
  induction n with
  | zero => exact blocks_app T B v q (by omega)
  | succ n ih =>
    rw [show q + (n + 1) = (q + n) + 1 from rfl, blocks, ih, blocks]
    rw [show (T ++ B).drop (64 * (q + n)) = B.drop (64 * n) from by
      rw [show 64 * (q + n) = T.length + 64 * n from by omega, List.drop_append, List.drop_eq_nil_of_le (by omega)]
      simp]
end Go.Proofs.Ytgdipdmpmaemjaa.Sm
