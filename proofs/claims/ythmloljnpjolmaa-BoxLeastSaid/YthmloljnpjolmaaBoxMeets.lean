/- box.Meets. -/
import Derived.Test.YthmloljnpjolmaaBoxPair
namespace Go.Proofs.Ythmloljnpjolmaa
open Go.RowKit

set_option maxRecDepth 100000 in
set_option maxHeartbeats 1000000 in
theorem meetsside (B C : Nat) (p q r s : Option Addr) (n c e f g : Nat) (R S T U : List Int) (k : Nat) (hk : k < n) (w : World) (hB : BoxAt w B p n c q n e) (hC : BoxAt w C r n f s n g) (h1 : Ints w p n c R) (h2 : Ints w q n e S) (h3 : Ints w r n f T) (h4 : Ints w s n g U) :
    Calls Try.prog 59 #[.int .i64 k, .pointer (some ⟨B, 0, none⟩), .pointer (some ⟨C, 0, none⟩)] w fun e w' => e = .returned (.bool (decide (R.getD k 0 ≤ U.getD k 0) && decide (T.getD k 0 ≤ S.getD k 0))) ∧ ∃ j, w' = w.drewN j := by
  obtain ⟨hB0, hB1⟩ := hB
  obtain ⟨hC0, hC1⟩ := hC
  obtain ⟨g1, o1, rfl, hc1⟩ := h1.cell k hk
  obtain ⟨g2, o2, rfl, hc2⟩ := h2.cell k hk
  obtain ⟨g3, o3, rfl, hc3⟩ := h3.cell k hk
  obtain ⟨g4, o4, rfl, hc4⟩ := h4.cell k hk
  clear h1 h2 h3 h4
  generalize R.getD k 0 = xR at *
  generalize S.getD k 0 = xS at *
  generalize T.getD k 0 = xT at *
  generalize U.getD k 0 = xU at *
  have b1 : (0 : Int) ≤ k ∧ (k : Int) < n := by omega
  by_cases hg : xR ≤ xU
  · rw [decide_eq_true hg]
    go_enter Try.func59, Try.ntmps59
    go_wp2_with fail
    go_quiet (fail)
    go_wp2_with fail
    go_ret
    exact ⟨rfl, _, rfl⟩
  · rw [decide_eq_false hg]
    have hd : decide (xR ≤ xU) = false := decide_eq_false hg
    go_enter Try.func59, Try.ntmps59
    go_wp2_with fail
    go_quiet (fail)
    go_wp2_with fail
    go_ret
    exact ⟨rfl, _, rfl⟩
set_option maxRecDepth 100000 in
set_option maxHeartbeats 1000000 in
theorem meets_any (p q r s : Option Addr) (n c m e k f l g : Nat) (R S T U : List Int) (w : World) (h1 : Ints w p n c R) (h2 : Ints w q m e S) (h3 : Ints w r k f T) (h4 : Ints w s l g U) :
    Calls Try.prog 48 #[.agg #[.slice p n c, .slice q m e], .agg #[.slice r k f, .slice s l g]] w fun e w' => e = .returned (.bool (meetsB R S T U n m k l)) ∧ Below w.heap.size w w' := by
  go_enter Try.func48, Try.ntmps48
  go_upto_region 1 with fail
  obtain ⟨w2, hw2⟩ : ∃ w2, w2 = (w.alloc (.cells #[.slice p n c, .slice q m e] 25)).alloc (.cells #[.slice r k f, .slice s l g] 25) := ⟨_, rfl⟩
  have HF := Lib.hid (four_of h1 h2 h3 h4 hw2)
  rw [← hw2]
  clear hw2 h1 h2 h3 h4
  have b := HF.out.ba
  obtain ⟨b0, b1⟩ := b
  have b := HF.out.bb
  obtain ⟨b2, b3⟩ := b
  go_wp2_with fail
  refine (pair_any p q r s n c m e k f l g R S T U w2 HF.out.i1 HF.out.i2 HF.out.i3 HF.out.i4).mono ?_
  rintro _ w3 ⟨rfl, hb3⟩
  have HG := Lib.hid (HF.out.later hb3)
  clear hb3 HF b0 b1 b2 b3
  have b := HG.out.ba
  obtain ⟨b0, b1⟩ := b
  cases hr : pairB R S T U n m k l with
  | false =>
    have HR := Lib.hid (show meetsB R S T U n m k l = false by unfold meetsB; rw [hr]; rfl)
    clear hr
    go_wp2_with fail
    go_ret
    exact ⟨congrArg (fun b => Ending.returned (.bool b)) HR.out.symm, HG.out.below⟩
  | true =>
    have HR := Lib.hid (show meetsB R S T U n m k l = (les R U n && les T S n) by unfold meetsB; rw [hr]; rfl)
    obtain ⟨hd1, hd2, rfl, rfl, rfl⟩ := pairB_dims hr
    have HE := Lib.hid (each_any l (by omega) (fun k => decide (R.getD k 0 ≤ U.getD k 0) && decide (T.getD k 0 ≤ S.getD k 0)) 59 #[.pointer (some ⟨w.heap.size, 0, none⟩), .pointer (some ⟨w.heap.size + 1, 0, none⟩)] (enter_side Try.func59 (by kernel_rfl) rfl) w3 (fun k w' hk hb => meetsside w.heap.size (w.heap.size + 1) p q r s l c e f g R S T U k hk w' (HG.out.later hb).ba (HG.out.later hb).bb (HG.out.later hb).i1 (HG.out.later hb).i2 (HG.out.later hb).i3 (HG.out.later hb).i4))
    rw [alls_and, alls_les, alls_les] at HE
    clear hr hd1 hd2
    go_wp2_with fail
    refine HE.out.mono ?_
    rintro _ w4 ⟨rfl, j, hw4⟩
    have HB := Lib.hid (show Below w.heap.size w w4 by rw [hw4]; exact Below.drewN HG.out.below _)
    clear hw4
    go_wp2_with fail
    go_ret
    exact ⟨congrArg (fun b => Ending.returned (.bool b)) HR.out.symm, HB.out⟩
end Go.Proofs.Ythmloljnpjolmaa
