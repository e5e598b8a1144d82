/- The contract of sha.roundWords: the 64 words of the rounds. -/
import Derived.Test.YtgdipdmpmaemjaaShaRot
namespace Go.Proofs.Ytgdipdmpmaemjaa
open Go.RowKit
theorem ks_one : (u32s Sm.ks).all (·.oneCell') = true := by kernel_rfl
set_option maxRecDepth 100000 in
set_option maxHeartbeats 1000000 in
theorem roundWords_any (w : World) :
    Calls Try.prog 31 #[] w fun e w' => e = .returned (.agg (u32s Sm.ks)) ∧ Below w.heap.size w w' := by
  go_enter Try.func31, Try.ntmps31
  go_wp2_with (refine wpList_store_row (by rfl) 62 _ _ (by rfl) w.heap.size (u32s Sm.ks) (by rfl) (by as_aux_lemma => kernel_rfl) _ _ (heap_alloc_new w _) S62 (by rfl) ks_one ?_; rw [setRow_alloc])
  exact ret_row 0 (by kernel_rfl) w.heap.size _ _ A62 S62 rfl (heap_alloc_new w _) rfl ⟨rfl, (Below.refl _ _).alloc (Nat.le_refl _) _⟩
end Go.Proofs.Ytgdipdmpmaemjaa
