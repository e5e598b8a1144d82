/- The contract of indentureref01.Sum, and what the law ShaSums does. -/
import Derived.Test.YtgdipdmpmaemjaaShaRefWith
import Derived.Test.YtgdipdmpmaemjaaShaAlive
namespace Go.Proofs.Ytgdipdmpmaemjaa
open Go.RowKit

set_option maxRecDepth 100000 in
set_option maxHeartbeats 1000000 in
theorem refsum_any (T : List Nat) (p : Option Addr) (n c : Nat) (w : World) (hT : Tx w p n c T) (hl : T.length < 1000000) :
    Calls Try.prog 10 #[.slice p n c] w fun e w' => e = .returned (.agg (u8s (Sm.sum T))) ∧ Below w.heap.size w w' := by
  have hz := (zero_of_info Z25).1
  have HT := Lib.hid hT
  clear hT
  go_enter Try.func10, Try.ntmps10
  go_wp2_with fail
  have hb0 : Below w.heap.size w (w.alloc (.cells (u8s (zeros 32)) 25)) := (Below.refl _ _).alloc (Nat.le_refl _) _
  have hg0 := heap_alloc_new w (.cells (u8s (zeros 32)) 25)
  generalize hW0 : w.alloc (.cells (u8s (zeros 32)) 25) = W0 at hb0 hg0 ⊢
  have HT0 := Lib.hid (HT.out.later hb0)
  have HB0 := Lib.hid hb0
  have HG0 := Lib.hid hg0
  clear hW0 hb0 hg0 HT hz
  refine (words_any W0).mono ?_
  rintro _ w1 ⟨rfl, rfl⟩
  have hb1 : Below W0.heap.size W0 (W0.alloc (.cells (u32s Sm.ks) 31)) := (Below.refl _ _).alloc (Nat.le_refl _) _
  have hg1 := heap_alloc_new W0 (.cells (u32s Sm.ks) 31)
  obtain ⟨w1, hw1⟩ : ∃ w1, w1 = W0.alloc (.cells (u32s Sm.ks) 31) := ⟨_, rfl⟩
  rw [← hw1] at hb1 hg1 ⊢
  have HT1 := Lib.hid (HT0.out.later hb1)
  have HB1 := Lib.hid (HB0.out.trans (hb1.mono HB0.out.size))
  have HG1 := Lib.hid ((hb1.block _ (Array.getElem?_eq_some_iff.1 HG0.out).1).trans HG0.out)
  have HK1 := Lib.hid hg1
  clear hw1 hb1 hg1 HT0
  go_wp2_with fail
  refine (with_any T p n c W0.heap.size w1 HT1.out hl HK1.out).mono ?_
  rintro _ w2 ⟨rfl, hb2⟩
  have HB2 := Lib.hid (HB1.out.trans (hb2.mono HB1.out.size))
  have HG2 := Lib.hid ((hb2.block _ (Array.getElem?_eq_some_iff.1 HG1.out).1).trans HG1.out)
  clear hb2 HT1 HK1
  go_wp2_with (refine wpList_store_row (by rfl) 25 _ _ (by rfl) w.heap.size (u8s (Sm.sum T)) (by rfl) (by rfl) _ _ HG2.out (by exact S25) (by rfl) (u8s_one _) ?_)
  refine ret_row 2 (by kernel_rfl) w.heap.size _ _ A25 S25 rfl (setRow_heap _ _ _ _ _ _ HG2.out) rfl ⟨rfl, ?_⟩
  exact Below.setRow HB2.out (Nat.le_refl _) _
set_option maxRecDepth 100000 in
set_option maxHeartbeats 1000000 in
theorem sums_any (T : List Nat) (p : Option Addr) (n c : Nat) (w : World) (hT : Tx w p n c T) (hl : n ≤ 9223372036854775807) :
    Calls Try.prog 3 #[.slice p n c] w fun e w' => e = .returned (.bool true) ∧ Below w.heap.size w w' := by
  have HT := Lib.hid hT
  have HN := Lib.hid hT.size
  clear hT
  go_enter Try.func3, Try.ntmps3
  go_wp2_with fail
  refine (alive_any w).mono ?_
  rintro _ w0 ⟨rfl, hb0⟩
  have HT0 := Lib.hid (HT.out.later hb0)
  have HB0 := Lib.hid hb0
  clear hb0 HT
  by_cases h : 1000 < n
  · have b1 : (1000 : Int) < n := by omega
    go_wp2_with fail
    go_ret
    exact ⟨rfl, HB0.out⟩
  have b1 : ¬ (1000 : Int) < n := by omega
  have hT1 : T.length < 1000000 := by rw [← HN.out]; omega
  go_wp2_with fail
  refine (sum_any T p n c w0 HT0.out.bytes (by omega)).mono ?_
  rintro _ w1 ⟨rfl, hb1⟩
  have HT1 := Lib.hid (HT0.out.later hb1)
  have HB1 := Lib.hid (HB0.out.trans (hb1.mono HB0.out.size))
  clear hb1 HT0 HB0
  go_wp2_with fail
  refine (refsum_any T p n c w1 HT1.out hT1).mono ?_
  rintro _ w2 ⟨rfl, hb2⟩
  have HB2 := Lib.hid (HB1.out.trans (hb2.mono HB1.out.size))
  have hq : ∀ w', (binOp .eql 25 (.agg (u8s (Sm.sum T))) (.agg (u8s (Sm.sum T)))).run Try.prog w' = .ok (.bool true) w' := fun w' => by
    rw [digest_eql _ _ rfl rfl]; simp
  clear hb2 HT1 HB1
  go_wp2_with fail
  go_ret
  exact ⟨rfl, HB2.out⟩
end Go.Proofs.Ytgdipdmpmaemjaa
