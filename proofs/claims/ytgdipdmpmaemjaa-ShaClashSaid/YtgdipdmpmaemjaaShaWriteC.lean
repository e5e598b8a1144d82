/- The contract of State.Write: a block is begun, and stays so. -/
import Derived.Test.YtgdipdmpmaemjaaShaWrite
namespace Go.Proofs.Ytgdipdmpmaemjaa
open Go.RowKit

set_option maxRecDepth 100000 in
set_option maxHeartbeats 1000000 in
theorem write_c (T B : List Nat) (g : Nat) (p : Option Addr) (len cap : Nat) (w : World) (r : Nat) (hr : T.length % 64 = r) (hr0 : 0 < r) (hs : r + len < 64) (v : Sm.V8) (bl : List Nat) (hh : Held T v bl)
    (hg : w.heap[g]? = some (.cells (stL v bl T.length).toArray 36 (0, 0)))
    (hB : Bytes w p len cap B) (hn : B ≠ [] → ∀ a, p = some a → a.block ≠ g) (hl : (T ++ B).length < 1152921504606846976) :
    Calls Try.prog 12 #[.pointer (some ⟨g, 0, none⟩), .slice p len cap] w fun e w' => e = .returned (.tuple #[]) ∧ StateAt w' g (T ++ B) ∧ w.grownBy w' (some g) := by
  have hL0 : ((T.length : Int) == 0) = false := by
    have : T ≠ [] := by rintro rfl; simp at hr; omega
    have := List.length_pos_iff.2 this
    simp; omega
  have hT : T ≠ [] := by rintro rfl; simp at hr; omega
  have hL1 : (T.length : Int) % 64 = (r : Int) := by omega
  have hcl : w.cell? ⟨g, 72, none⟩ = some (.int .u64 (T.length : Nat)) := st_len hg hh.size
  have hfl : w.frozen? ⟨g, 72, none⟩ = false := frozen_of_row w g _ _ _ hg
  have hsl := st_set_len hg hh.size (T.length + len)
  obtain ⟨N, hN⟩ : ∃ N, N = T.length := ⟨_, rfl⟩
  rw [← hN] at hcl hL0 hL1 hsl
  have hlen := hB.size
  have hb1 : N + len < 1152921504606846976 := by simp at hl; omega
  have HLT0 := Lib.hid (show (T ++ B).length = N + len from by simp; omega)
  have h0 : (0 : Int) < r ∧ (r : Int) < 64 := by omega
  have HBB := Lib.hid (hB.grown (grown_setCell w g 72 (.int .u64 ((N + len : Nat) : Int))) hn)
  have HH := Lib.hid hh
  have HSL := Lib.hid hsl
  have HR := Lib.hid hr
  have HT := Lib.hid hT
  have HN := Lib.hid hN
  have HLen := Lib.hid hlen
  clear hg hh hB hN hlen hsl hr hT
  have hlt : (r : Int) + len < 64 := by omega
  have hbs := block_slice g r (by omega)
  rcases HBB.out.at' with hc | ⟨gb, ob, hp, hx⟩
  · subst hc
    cases p with
    | none =>
      obtain rfl : len = 0 := by have := HBB.out.le; omega
      have hB0 : B = [] := List.length_eq_zero_iff.1 HLen.out.symm
      have hcp := run_copy_none (P := Try.prog) (w.setCell ⟨g, 72, none⟩ (.int .u64 (N : Int))) 22 22 3 5 (some ⟨g, 8 + r, none⟩) none (64 - r) (64 - r) 0 0 A22 E5 (Nat.zero_min _)
      have HB0 := Lib.hid hB0
      clear hB0
      go_enter Try.func12, Try.ntmps12
      go_wp2_with fail
      (try simp only [Exit.inBlock, Exit.then])
      refine bodyPost_ret (results_none rfl _ _ _) rfl ?_
      have hT2 : T ++ B = T := by rw [HB0.out, List.append_nil]
      refine ⟨rfl, ?_, grown_setCell _ _ _ _⟩
      rw [hT2]
      refine ⟨v, bl, HH.out, ?_⟩
      rw [← HN.out]
      exact HSL.out
    | some x =>
      obtain rfl : len = 0 := by have := HBB.out.le; omega
      have hB0 : B = [] := List.length_eq_zero_iff.1 HLen.out.symm
      have hcp := run_copy_none (P := Try.prog) (w.setCell ⟨g, 72, none⟩ (.int .u64 (N : Int))) 22 22 3 5 (some ⟨g, 8 + r, none⟩) (some x) (64 - r) (64 - r) 0 0 A22 E5 (Nat.zero_min _)
      have HB0 := Lib.hid hB0
      clear hB0
      go_enter Try.func12, Try.ntmps12
      go_wp2_with fail
      (try simp only [Exit.inBlock, Exit.then])
      refine bodyPost_ret (results_none rfl _ _ _) rfl ?_
      have hT2 : T ++ B = T := by rw [HB0.out, List.append_nil]
      refine ⟨rfl, ?_, grown_setCell _ _ _ _⟩
      rw [hT2]
      refine ⟨v, bl, HH.out, ?_⟩
      rw [← HN.out]
      exact HSL.out
  · subst hp
    clear hx
    have hcp := st_copy_in HSL.out HH.out.size HBB.out r len (by omega) (Nat.min_eq_left (by omega)).symm
    rw [show B.take len = B from List.take_of_length_le (by have := HLen.out; omega)] at hcp
    rw [show ((N + len : Nat) : Int) = (N : Int) + (len : Int) from by omega] at hcp
    go_enter Try.func12, Try.ntmps12
    go_wp2_with fail
    (try simp only [Exit.inBlock, Exit.then])
    refine bodyPost_ret (results_none rfl _ _ _) rfl ?_
    rw [show (N : Int) + (len : Int) = ((N + len : Nat) : Int) from by omega]
    have hrow := st_set_block HSL.out HH.out.size r B (by have := HLen.out; omega)
    refine ⟨rfl, ⟨v, _, HH.out.small HR.out hr0 (by have := HLen.out; omega) HBB.out.ok hl, ?_⟩, grown_setCells (grown_setCell _ _ _ _) _ _⟩
    rw [HLT0.out]
    exact hrow
end Go.Proofs.Ytgdipdmpmaemjaa
