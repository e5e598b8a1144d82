/- dist.ToBox's function of a side. -/
import Derived.Test.YthmloljnpjolmaaDist1B
import Derived.Test.YthmloljnpjolmaaDist5
namespace Go.Proofs.Ythmloljnpjolmaa
open Go.RowKit

/-- A box's corners: two slices. -/
def BoxAt (w : World) (B : Nat) (p : Option Addr) (n c : Nat) (q : Option Addr) (m d : Nat) : Prop := w.cell? ⟨B, 0, none⟩ = some (.slice p n c) ∧ w.cell? ⟨B, 1, none⟩ = some (.slice q m d)
set_option maxRecDepth 100000 in
theorem toboxside (B C : Nat) (p q r : Option Addr) (n c m d l e : Nat) (R S T : List Int) (k : Nat) (hk : k < n) (hm : k < m) (hl : k < l) (w : World) (hB : w.cell? ⟨B, 0, none⟩ = some (.slice p n c)) (hC : BoxAt w C q m d r l e)
    (h : Ints w p n c R) (h2 : Ints w q m d S) (h3 : Ints w r l e T) :
    Calls Try.prog 62 #[.int .i64 k, .pointer (some ⟨B, 0, none⟩), .pointer (some ⟨C, 0, none⟩)] w fun e w' => e = .returned (.int .u64 (gap (R.getD k 0) (S.getD k 0) (T.getD k 0))) ∧ ∃ j, w' = w.drewN j := by
  obtain ⟨hC0, hC1⟩ := hC
  obtain ⟨g, o, rfl, hc⟩ := h.cell k hk
  obtain ⟨g2, o2, rfl, hc2⟩ := h2.cell k hm
  obtain ⟨g3, o3, rfl, hc3⟩ := h3.cell k hl
  have hx := h.get k hk
  have hy := h2.get k hm
  have hz := h3.get k hl
  clear h h2 h3
  generalize R.getD k 0 = x at *
  generalize S.getD k 0 = y at *
  generalize T.getD k 0 = z at *
  have b1 : (0 : Int) ≤ k ∧ (k : Int) < n := by omega
  have b2 : (0 : Int) ≤ k ∧ (k : Int) < m := by omega
  have b3 : (0 : Int) ≤ k ∧ (k : Int) < l := by omega
  go_enter Try.func62, Try.ntmps62
  go_wp2_with fail
  go_quiet ((go_at_call 63; exact Calls.quiet_of_same (gap_any _ _ _ hx hy hz _)))
  go_wp2_with fail
  go_ret
  exact ⟨rfl, _, rfl⟩
end Go.Proofs.Ythmloljnpjolmaa
