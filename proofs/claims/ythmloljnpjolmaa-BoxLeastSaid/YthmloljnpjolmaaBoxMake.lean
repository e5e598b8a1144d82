/- box's functions of a side that tell two numbers; box.Whole, box.Of, box.Cut; box.Hull of boxes that are right. -/
import Derived.Test.YthmloljnpjolmaaBoxBuild
import Derived.Test.YthmloljnpjolmaaBoxMeets
import Derived.Lib.MinMax
namespace Go.Proofs.Ythmloljnpjolmaa
open Go.RowKit

set_option maxRecDepth 100000 in
theorem wholeside (k : Nat) (w : World) :
    Calls Try.prog 32 #[.int .i64 k] w fun e w' => e = .returned (.tuple #[.int .i64 (-9223372036854775808), .int .i64 9223372036854775807]) ∧ ∃ j, w' = w.drewN j := by
  go_enter Try.func32, Try.ntmps32
  go_wp2_with fail
  go_ret2
  exact ⟨rfl, 0, rfl⟩
set_option maxRecDepth 100000 in
set_option maxHeartbeats 1000000 in
theorem ofside (B : Nat) (p : Option Addr) (n c : Nat) (R : List Int) (k : Nat) (hk : k < n) (w : World) (hB : w.cell? ⟨B, 0, none⟩ = some (.slice p n c)) (h : Ints w p n c R) :
    Calls Try.prog 36 #[.int .i64 k, .pointer (some ⟨B, 0, none⟩)] w fun e w' => e = .returned (.tuple #[.int .i64 (R.getD k 0), .int .i64 (R.getD k 0)]) ∧ ∃ j, w' = w.drewN j := by
  obtain ⟨g1, o1, rfl, hc1⟩ := h.cell k hk
  clear h
  generalize R.getD k 0 = xR at *
  have b1 : (0 : Int) ≤ k ∧ (k : Int) < n := by omega
  go_enter Try.func36, Try.ntmps36
  go_wp2_with fail
  go_quiet (fail)
  go_wp2_with fail
  go_ret2
  exact ⟨rfl, _, rfl⟩
set_option maxRecDepth 100000 in
set_option maxHeartbeats 1000000 in
theorem cutside (B C : Nat) (p q r s : Option Addr) (n c e f g : Nat) (R S T U : List Int) (k : Nat) (hk : k < n) (w : World) (hB : BoxAt w B p n c q n e) (hC : BoxAt w C r n f s n g) (h1 : Ints w p n c R) (h2 : Ints w q n e S) (h3 : Ints w r n f T) (h4 : Ints w s n g U) :
    Calls Try.prog 49 #[.int .i64 k, .pointer (some ⟨B, 0, none⟩), .pointer (some ⟨C, 0, none⟩)] w fun e w' => e = .returned (.tuple #[.int .i64 (max (R.getD k 0) (T.getD k 0)), .int .i64 (min (S.getD k 0) (U.getD k 0))]) ∧ ∃ j, w' = w.drewN j := by
  obtain ⟨hB0, hB1⟩ := hB
  obtain ⟨hC0, hC1⟩ := hC
  obtain ⟨g1, o1, rfl, hc1⟩ := h1.cell k hk
  obtain ⟨g2, o2, rfl, hc2⟩ := h2.cell k hk
  obtain ⟨g3, o3, rfl, hc3⟩ := h3.cell k hk
  obtain ⟨g4, o4, rfl, hc4⟩ := h4.cell k hk
  clear h1 h2 h3 h4
  generalize R.getD k 0 = xR at *
  generalize S.getD k 0 = xS at *
  generalize T.getD k 0 = xT at *
  generalize U.getD k 0 = xU at *
  have b1 : (0 : Int) ≤ k ∧ (k : Int) < n := by omega
  go_enter Try.func49, Try.ntmps49
  go_wp2_with fail
  go_quiet (fail)
  go_wp2_with fail
  go_ret2
  exact ⟨rfl, _, rfl⟩
set_option maxRecDepth 100000 in
set_option maxHeartbeats 1000000 in
theorem hullside (B C : Nat) (p q r s : Option Addr) (n c e f g : Nat) (R S T U : List Int) (k : Nat) (hk : k < n) (w : World) (hB : BoxAt w B p n c q n e) (hC : BoxAt w C r n f s n g) (h1 : Ints w p n c R) (h2 : Ints w q n e S) (h3 : Ints w r n f T) (h4 : Ints w s n g U) :
    Calls Try.prog 50 #[.int .i64 k, .pointer (some ⟨B, 0, none⟩), .pointer (some ⟨C, 0, none⟩)] w fun e w' => e = .returned (.tuple #[.int .i64 (min (R.getD k 0) (T.getD k 0)), .int .i64 (max (S.getD k 0) (U.getD k 0))]) ∧ ∃ j, w' = w.drewN j := by
  obtain ⟨hB0, hB1⟩ := hB
  obtain ⟨hC0, hC1⟩ := hC
  obtain ⟨g1, o1, rfl, hc1⟩ := h1.cell k hk
  obtain ⟨g2, o2, rfl, hc2⟩ := h2.cell k hk
  obtain ⟨g3, o3, rfl, hc3⟩ := h3.cell k hk
  obtain ⟨g4, o4, rfl, hc4⟩ := h4.cell k hk
  clear h1 h2 h3 h4
  generalize R.getD k 0 = xR at *
  generalize S.getD k 0 = xS at *
  generalize T.getD k 0 = xT at *
  generalize U.getD k 0 = xU at *
  have b1 : (0 : Int) ≤ k ∧ (k : Int) < n := by omega
  go_enter Try.func50, Try.ntmps50
  go_wp2_with fail
  go_quiet (fail)
  go_wp2_with fail
  go_ret2
  exact ⟨rfl, _, rfl⟩
end Go.Proofs.Ythmloljnpjolmaa
