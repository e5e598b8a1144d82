/- indentureref02.Same of like rows; the reader's contract for a row that is there. -/
import Derived.Test.YtlkclbhgbkcplaaCodBackD
namespace Go.Proofs.Ytlkclbhgbkcplaa
open Go.RowKit

theorem Ints.cell {w : World} {p : Option Addr} {n c : Nat} {R : List Int} (h : Ints w p n c R) (k : Nat) (hk : k < n) : ∃ g o, p = some ⟨g, o, none⟩ ∧ w.cell? ⟨g, o + k, none⟩ = some (.int .i64 (R.getD k 0)) := by
  have hk' : k < R.length := by rw [← h.size]; exact hk
  rcases h.at' with h0 | ⟨g, o, hp, hx⟩
  · rw [h0] at hk'; exact absurd hk' (by simp)
  · exact ⟨g, o, hp, hx k hk'⟩
def SameRel (W : World) (n : Nat) (i : Value) (wr : World) : Prop := ∃ k j : Nat, k ≤ n ∧ i = .int .i64 k ∧ wr = W.drewN j
set_option maxRecDepth 100000 in
set_option maxHeartbeats 1000000 in
theorem same_any (p q : Option Addr) (n c d : Nat) (R : List Int) (w : World) (h1 : Ints w p n c R) (h2 : Ints w q n d R) (hn : n ≤ 255) :
    Calls Try.prog 29 #[.slice p n c, .slice q n d] w fun e w' => e = .returned (.bool true) ∧ ∃ j, w' = w.drewN j := by
  have H1 := Lib.hid h1
  have H2 := Lib.hid h2
  clear h1 h2
  go_enter Try.func29, Try.ntmps29
  go_wp2_with fail
  go_loopw [5] (fun i wr => SameRel w n i wr) (fun i _ => n - (intOf i).toNat)
  case atStart => exact ⟨0, 0, by omega, rfl, rfl⟩
  case round =>
    obtain ⟨k, j, hk, rfl, rfl⟩ := hrel
    by_cases hlt : k < n
    · obtain ⟨gx, o, rfl, hcx⟩ := H1.out.cell k hlt
      obtain ⟨gy, o2, rfl, hcy⟩ := H2.out.cell k hlt
      have i1 : (0 : Int) ≤ k ∧ (k : Int) < n := by omega
      generalize R.getD k 0 = x at *
      go_upto_region 6 with fail
      go_quiet (fail)
      go_wp2_with fail
      go_roundw
      case rel => exact ⟨k + 1, j + nq, by omega, by go_num, rfl⟩
      case measure => simp [intOf]; omega
    · obtain rfl : k = n := by omega
      go_wp2_with fail
      go_ret
      exact ⟨rfl, j, rfl⟩
end Go.Proofs.Ytlkclbhgbkcplaa
