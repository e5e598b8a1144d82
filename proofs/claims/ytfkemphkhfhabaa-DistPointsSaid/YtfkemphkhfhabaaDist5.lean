/- dist.Sum, dist.Between, dist.ToBox: their functions of a side, and they themselves. -/
import Derived.Test.YtfkemphkhfhabaaDist4
namespace Go.Proofs.Ytfkemphkhfhabaa
open Go.RowKit

/-- A slice whose words are known. -/
structure Words (w : World) (p : Option Addr) (n c : Nat) (R : List Int) : Prop where
  size : n = R.length
  le : n ≤ c
  ok : ∀ x ∈ R, 0 ≤ x ∧ x < 18446744073709551616
  at' : R = [] ∨ ∃ g o, p = some ⟨g, o, none⟩ ∧ ∀ i, i < R.length → w.cell? ⟨g, o + i, none⟩ = some (.int .u64 (R.getD i 0))
theorem Words.later {w w' : World} {p : Option Addr} {n c : Nat} {R : List Int} (h : Words w p n c R) (hb : Below w.heap.size w w') : Words w' p n c R :=
  ⟨h.size, h.le, h.ok, h.at'.imp id fun ⟨g, o, hp, hx⟩ => ⟨g, o, hp, fun i hi => (hb.cell (p := ⟨g, o + i, none⟩) (block_lt_of_cell (hx i hi))).trans (hx i hi)⟩⟩
theorem Words.get {w : World} {p : Option Addr} {n c : Nat} {R : List Int} (h : Words w p n c R) (k : Nat) (hk : k < n) : 0 ≤ R.getD k 0 ∧ R.getD k 0 < 18446744073709551616 := by
  have hk' : k < R.length := by rw [← h.size]; exact hk
  rw [List.getD_eq_getElem?_getD, List.getElem?_eq_getElem hk']
  exact h.ok _ (List.getElem_mem hk')
theorem Words.cell {w : World} {p : Option Addr} {n c : Nat} {R : List Int} (h : Words w p n c R) (k : Nat) (hk : k < n) : ∃ g o, p = some ⟨g, o, none⟩ ∧ w.cell? ⟨g, o + k, none⟩ = some (.int .u64 (R.getD k 0)) := by
  have hk' : k < R.length := by rw [← h.size]; exact hk
  rcases h.at' with h0 | ⟨g, o, hp, hx⟩
  · rw [h0] at hk'; exact absurd hk' (by simp)
  · exact ⟨g, o, hp, hx k hk'⟩
theorem Ints.cell {w : World} {p : Option Addr} {n c : Nat} {R : List Int} (h : Ints w p n c R) (k : Nat) (hk : k < n) : ∃ g o, p = some ⟨g, o, none⟩ ∧ w.cell? ⟨g, o + k, none⟩ = some (.int .i64 (R.getD k 0)) := by
  have hk' : k < R.length := by rw [← h.size]; exact hk
  rcases h.at' with h0 | ⟨g, o, hp, hx⟩
  · rw [h0] at hk'; exact absurd hk' (by simp)
  · exact ⟨g, o, hp, hx k hk'⟩
set_option maxRecDepth 100000 in
theorem sumside (B : Nat) (p : Option Addr) (n c : Nat) (R : List Int) (k : Nat) (hk : k < n) (w : World) (hB : w.cell? ⟨B, 0, none⟩ = some (.slice p n c)) (h : Words w p n c R) :
    Calls Try.prog 25 #[.int .i64 k, .pointer (some ⟨B, 0, none⟩)] w fun e w' => e = .returned (.int .u64 (R.getD k 0)) ∧ w' = w := by
  obtain ⟨g, o, rfl, hc⟩ := h.cell k hk
  clear h
  generalize R.getD k 0 = x at *
  have b1 : (0 : Int) ≤ k ∧ (k : Int) < n := by omega
  go_enter Try.func25, Try.ntmps25
  go_wp2_with fail
  go_ret
  exact ⟨rfl, rfl⟩
set_option maxRecDepth 100000 in
theorem betweenside (B C : Nat) (p q : Option Addr) (n c m d : Nat) (R S : List Int) (k : Nat) (hk : k < n) (hm : k < m) (w : World) (hB : w.cell? ⟨B, 0, none⟩ = some (.slice p n c)) (hC : w.cell? ⟨C, 0, none⟩ = some (.slice q m d))
    (h : Ints w p n c R) (h2 : Ints w q m d S) :
    Calls Try.prog 28 #[.int .i64 k, .pointer (some ⟨B, 0, none⟩), .pointer (some ⟨C, 0, none⟩)] w fun e w' => e = .returned (.int .u64 (apart (R.getD k 0) (S.getD k 0))) ∧ ∃ j, w' = w.drewN j := by
  obtain ⟨g, o, rfl, hc⟩ := h.cell k hk
  obtain ⟨g2, o2, rfl, hc2⟩ := h2.cell k hm
  have hx := h.get k hk
  have hy := h2.get k hm
  clear h h2
  generalize R.getD k 0 = x at *
  generalize S.getD k 0 = y at *
  have b1 : (0 : Int) ≤ k ∧ (k : Int) < n := by omega
  have b2 : (0 : Int) ≤ k ∧ (k : Int) < m := by omega
  go_enter Try.func28, Try.ntmps28
  go_wp2_with fail
  go_quiet ((go_at_call 12; exact Calls.quiet_of_same (apart_any _ _ hx hy _)))
  go_wp2_with fail
  go_ret
  exact ⟨rfl, _, rfl⟩
/-- A box's corners: two slices. -/
def BoxAt (w : World) (B : Nat) (p : Option Addr) (n c : Nat) (q : Option Addr) (m d : Nat) : Prop := w.cell? ⟨B, 0, none⟩ = some (.slice p n c) ∧ w.cell? ⟨B, 1, none⟩ = some (.slice q m d)
set_option maxRecDepth 100000 in
theorem toboxside (B C : Nat) (p q r : Option Addr) (n c m d l e : Nat) (R S T : List Int) (k : Nat) (hk : k < n) (hm : k < m) (hl : k < l) (w : World) (hB : w.cell? ⟨B, 0, none⟩ = some (.slice p n c)) (hC : BoxAt w C q m d r l e)
    (h : Ints w p n c R) (h2 : Ints w q m d S) (h3 : Ints w r l e T) :
    Calls Try.prog 29 #[.int .i64 k, .pointer (some ⟨B, 0, none⟩), .pointer (some ⟨C, 0, none⟩)] w fun e w' => e = .returned (.int .u64 (gap (R.getD k 0) (S.getD k 0) (T.getD k 0))) ∧ ∃ j, w' = w.drewN j := by
  obtain ⟨hC0, hC1⟩ := hC
  obtain ⟨g, o, rfl, hc⟩ := h.cell k hk
  obtain ⟨g2, o2, rfl, hc2⟩ := h2.cell k hm
  obtain ⟨g3, o3, rfl, hc3⟩ := h3.cell k hl
  have hx := h.get k hk
  have hy := h2.get k hm
  have hz := h3.get k hl
  clear h h2 h3
  generalize R.getD k 0 = x at *
  generalize S.getD k 0 = y at *
  generalize T.getD k 0 = z at *
  have b1 : (0 : Int) ≤ k ∧ (k : Int) < n := by omega
  have b2 : (0 : Int) ≤ k ∧ (k : Int) < m := by omega
  have b3 : (0 : Int) ≤ k ∧ (k : Int) < l := by omega
  go_enter Try.func29, Try.ntmps29
  go_wp2_with fail
  go_quiet ((go_at_call 14; exact Calls.quiet_of_same (gap_any _ _ _ hx hy hz _)))
  go_wp2_with fail
  go_ret
  exact ⟨rfl, _, rfl⟩
end Go.Proofs.Ytfkemphkhfhabaa
