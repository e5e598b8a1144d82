/- BoxOrder, walked. -/
import Derived.Test.YthmloljnpjolmaaBoxKeys
import Derived.Test.YthmloljnpjolmaaBoxMath
namespace Go.Proofs.Ythmloljnpjolmaa
open Go.RowKit

/-- What the last two tests of BoxOrder come to. -/
structure OrdSays (a b c x : Bool) (i j : Int) : Prop where
  one : ¬ (a = true ∧ b = true)
  some : i ≠ j → a = true ∨ b = true
  on : a = true → c = true → x = true
theorem ord_says {kd cl : Int} {A P Q R : List Int} {an n : Nat} (ho : ordP kd cl an n) :
    OrdSays (decide (aheadP kd cl A P Q an n n)) (decide (aheadP kd cl A Q P an n n)) (decide (aheadP kd cl A Q R an n n)) (decide (aheadP kd cl A P R an n n)) (P.getD 0 0) (Q.getD 0 0) := by
  refine ⟨?_, ?_, ?_⟩ <;> simp only [decide_eq_true_eq]
  · rintro ⟨h1, h2⟩
    exact ahead_asymm h1 h2
  · exact fun h => ahead_total ho h
  · exact fun h1 h2 => ahead_trans h1 h2
set_option maxRecDepth 100000 in
set_option maxHeartbeats 4000000 in
theorem border_any (kd cl : Int) (q p r s : Option Addr) (an ac n c m e k f : Nat) (A P Q R : List Int) (w : World) (hA : Ints w q an ac A) (hP : Ints w p n c P) (hQ : Ints w r m e Q) (hR : Ints w s k f R) :
    Calls Try.prog 5 #[.agg #[.int .u8 kd, .int .i64 cl, .slice q an ac], .slice p n c, .slice r m e, .slice s k f] w fun e w' => e = .returned (.bool true) ∧ Below w.heap.size w w' := by
  obtain ⟨w1, hw1⟩ : ∃ w1, w1 = w.alloc (.cells #[.int .u8 kd, .int .i64 cl, .slice q an ac] 34) := ⟨_, rfl⟩
  have ho := ord_in (kd := kd) (cl := cl) hA
  go_enter Try.func5, Try.ntmps5
  go_upto_region 1 with fail
  rw [← hw1] at ho ⊢
  clear hw1
  have O1 := Lib.hid ho
  have P1 := Lib.hid (hP.later ho.below)
  have Q1 := Lib.hid (hQ.later ho.below)
  have R1 := Lib.hid (hR.later ho.below)
  clear ho hA hP hQ hR
  have HL := Lib.hid (alive4_any w1)
  go_wp2_with ((go_at_call 8; (with_reducible refine HL.out.mono ?_)))
  rintro _ w2 ⟨rfl, hb2⟩
  have O2 := Lib.hid (O1.out.later hb2)
  have P2 := Lib.hid (P1.out.later hb2)
  have Q2 := Lib.hid (Q1.out.later hb2)
  have R2 := Lib.hid (R1.out.later hb2)
  clear hb2 O1 P1 Q1 R1 HL
  clear w1
  obtain ⟨x0, x1, x2⟩ := O2.out.cells
  have HK := Lib.hid (refordright_any kd cl n q an ac w2)
  go_wp2_with ((go_at_call 18; (with_reducible refine HK.out.mono ?_)))
  rintro _ w3 ⟨rfl, hb3⟩
  have O3 := Lib.hid (O2.out.later hb3)
  have P3 := Lib.hid (P2.out.later hb3)
  have Q3 := Lib.hid (Q2.out.later hb3)
  have R3 := Lib.hid (R2.out.later hb3)
  clear hb3 O2 P2 Q2 R2 HK x0 x1 x2
  clear w2
  by_cases ho : ordP kd cl an n
  case neg =>
    rw [decide_eq_false ho]
    clear ho
    go_wp2_with fail
    go_ret
    exact ⟨rfl, O3.out.below⟩
  rw [decide_eq_true ho]
  by_cases hm : (m : Int) = n
  case neg =>
    have q1 : ((m : Int) != n) = true := by simpa using hm
    clear ho hm
    go_wp2_with fail
    go_ret
    exact ⟨rfl, O3.out.below⟩
  by_cases hk : (k : Int) = n
  case neg =>
    have q1 : ((k : Int) != n) = true := by simpa using hk
    obtain rfl : m = n := by omega
    clear ho hk hm
    go_wp2_with fail
    go_ret
    exact ⟨rfl, O3.out.below⟩
  obtain rfl : m = n := by omega
  obtain rfl : k = m := by omega
  have hn1 : 0 < k := by unfold ordP at ho; omega
  obtain ⟨gp, op, rfl, hpx⟩ := P3.out.cell 0 hn1
  obtain ⟨gr, or', rfl, hqx⟩ := Q3.out.cell 0 hn1
  rw [Nat.add_zero] at hpx hqx
  have hsays := ord_says (A := A) (P := P) (Q := Q) (R := R) ho
  have hself := decide_eq_false (ahead_irrefl kd cl A P an k)
  have h1 := fun w' (hb : Below w3.heap.size w3 w') => ahead_any kd cl q (some ⟨gp, op, none⟩) (some ⟨gr, or', none⟩) an ac k c k e A P Q w' (O3.out.i.later hb) (P3.out.later hb) (Q3.out.later hb)
  have h2 := fun w' (hb : Below w3.heap.size w3 w') => ahead_any kd cl q (some ⟨gr, or', none⟩) (some ⟨gp, op, none⟩) an ac k e k c A Q P w' (O3.out.i.later hb) (Q3.out.later hb) (P3.out.later hb)
  have h3 := fun w' (hb : Below w3.heap.size w3 w') => ahead_any kd cl q (some ⟨gr, or', none⟩) s an ac k e k f A Q R w' (O3.out.i.later hb) (Q3.out.later hb) (R3.out.later hb)
  have h4 := fun w' (hb : Below w3.heap.size w3 w') => ahead_any kd cl q (some ⟨gp, op, none⟩) (some ⟨gp, op, none⟩) an ac k c k c A P P w' (O3.out.i.later hb) (P3.out.later hb) (P3.out.later hb)
  have h5 := fun w' (hb : Below w3.heap.size w3 w') => ahead_any kd cl q (some ⟨gp, op, none⟩) s an ac k c k f A P R w' (O3.out.i.later hb) (P3.out.later hb) (R3.out.later hb)
  rw [hself] at h4
  generalize decide (aheadP kd cl A P Q an k k) = ba at *
  generalize decide (aheadP kd cl A Q P an k k) = bb at *
  generalize decide (aheadP kd cl A Q R an k k) = bc at *
  generalize decide (aheadP kd cl A P R an k k) = bd at *
  generalize P.getD 0 0 = i at *
  generalize Q.getD 0 0 = j at *
  have HS := Lib.hid hsays
  have H1 := Lib.hid (show ∀ w', Below w3.heap.size w3 w' → Calls Try.prog 19 #[.agg #[.int .u8 kd, .int .i64 cl, .slice q an ac], .slice (some ⟨gp, op, none⟩) k c, .slice (some ⟨gr, or', none⟩) k e] w' fun e w'' => e = .returned (.bool ba) ∧ Below w3.heap.size w3 w'' from fun w' hb => (h1 w' hb).mono fun e w'' h => ⟨h.1, hb.trans (h.2.mono hb.size)⟩)
  have H2 := Lib.hid (show ∀ w', Below w3.heap.size w3 w' → Calls Try.prog 19 #[.agg #[.int .u8 kd, .int .i64 cl, .slice q an ac], .slice (some ⟨gr, or', none⟩) k e, .slice (some ⟨gp, op, none⟩) k c] w' fun e w'' => e = .returned (.bool bb) ∧ Below w3.heap.size w3 w'' from fun w' hb => (h2 w' hb).mono fun e w'' h => ⟨h.1, hb.trans (h.2.mono hb.size)⟩)
  have H3 := Lib.hid (show ∀ w', Below w3.heap.size w3 w' → Calls Try.prog 19 #[.agg #[.int .u8 kd, .int .i64 cl, .slice q an ac], .slice (some ⟨gr, or', none⟩) k e, .slice s k f] w' fun e w'' => e = .returned (.bool bc) ∧ Below w3.heap.size w3 w'' from fun w' hb => (h3 w' hb).mono fun e w'' h => ⟨h.1, hb.trans (h.2.mono hb.size)⟩)
  have H4 := Lib.hid (show ∀ w', Below w3.heap.size w3 w' → Calls Try.prog 19 #[.agg #[.int .u8 kd, .int .i64 cl, .slice q an ac], .slice (some ⟨gp, op, none⟩) k c, .slice (some ⟨gp, op, none⟩) k c] w' fun e w'' => e = .returned (.bool false) ∧ Below w3.heap.size w3 w'' from fun w' hb => (h4 w' hb).mono fun e w'' h => ⟨h.1, hb.trans (h.2.mono hb.size)⟩)
  have H5 := Lib.hid (show ∀ w', Below w3.heap.size w3 w' → Calls Try.prog 19 #[.agg #[.int .u8 kd, .int .i64 cl, .slice q an ac], .slice (some ⟨gp, op, none⟩) k c, .slice s k f] w' fun e w'' => e = .returned (.bool bd) ∧ Below w3.heap.size w3 w'' from fun w' hb => (h5 w' hb).mono fun e w'' h => ⟨h.1, hb.trans (h.2.mono hb.size)⟩)
  have HF := Lib.hid (show ∀ w', Below w3.heap.size w3 w' → (Below w3.heap.size w3 w' ∧ w'.cell? ⟨w.heap.size, 0, none⟩ = some (.int .u8 kd) ∧ w'.cell? ⟨w.heap.size, 1, none⟩ = some (.int .i64 cl) ∧ w'.cell? ⟨w.heap.size, 2, none⟩ = some (.slice q an ac) ∧ w'.cell? ⟨gp, op, none⟩ = some (.int .i64 i) ∧ w'.cell? ⟨gr, or', none⟩ = some (.int .i64 j)) from fun w' hb =>
    ⟨hb, (O3.out.later hb).cells.1, (O3.out.later hb).cells.2.1, (O3.out.later hb).cells.2.2, (hb.cell (p := ⟨gp, op, none⟩) (block_lt_of_cell hpx)).trans hpx, (hb.cell (p := ⟨gr, or', none⟩) (block_lt_of_cell hqx)).trans hqx⟩)
  have q1 : ((k : Int) != k) = false := by simp
  clear ho hm hk hpx hqx hsays hself h1 h2 h3 h4 h5
  go_upto_region 5 with fail
  go_region_held3 (fun w' => Below w3.heap.size w3 w' ∧ w'.cell? ⟨w.heap.size, 0, none⟩ = some (.int .u8 kd) ∧ w'.cell? ⟨w.heap.size, 1, none⟩ = some (.int .i64 cl) ∧ w'.cell? ⟨w.heap.size, 2, none⟩ = some (.slice q an ac) ∧ w'.cell? ⟨gp, op, none⟩ = some (.int .i64 i) ∧ w'.cell? ⟨gr, or', none⟩ = some (.int .i64 j)) (first | assumption | exact HF.out _ (Below.drew (Below.refl _ _)) | exact HF.out _ (Below.refl _ _)) ((first
    | (go_at_call 19; (with_reducible refine (H1.out _ ?hx1).mono ?_); (case hx1 => first | assumption | exact (Below.refl _ _).drew | exact Below.refl _ _); rintro _ w5 ⟨rfl, hb5⟩; have k5 := HF.out _ hb5)
    | (go_at_call 19; (with_reducible refine (H2.out _ ?hx2).mono ?_); (case hx2 => first | assumption | exact (Below.refl _ _).drew | exact Below.refl _ _); rintro _ w6 ⟨rfl, hb6⟩; have k6 := HF.out _ hb6)
    | (go_at_call 19; (with_reducible refine (H3.out _ ?hx3).mono ?_); (case hx3 => first | assumption | exact (Below.refl _ _).drew | exact Below.refl _ _); rintro _ w7 ⟨rfl, hb7⟩; have k7 := HF.out _ hb7)))
  have B7 := Lib.hid hb7
  clear hb7 hb6 hb5 k5 k6 k7
  obtain ⟨-, x0, x1, x2, y0, y1⟩ := HF.out _ B7.out
  by_cases hij : i = j
  · have q2 : (i != j) = false := by simpa using hij
    cases ba with
    | true =>
      cases bb with
      | true => exact absurd ⟨rfl, rfl⟩ HS.out.one
      | false =>
        clear hij
        go_upto_region 6 with fail
        go_still_tail 25, (by kernel_rfl)
        go_wp2_with ((go_at_call 19; (with_reducible refine (H4.out _ ?hx4).mono ?_); (case hx4 => first | exact B7.out.drew | exact B7.out | exact Below.drewN B7.out _)))
        rintro _ w8 ⟨rfl, hb8⟩
        obtain ⟨-, x0, x1, x2, -, -⟩ := HF.out _ hb8
        have B8 := Lib.hid hb8
        clear hb8
        cases bc with
        | false =>
          go_wp2_with fail
          go_ret
          exact ⟨rfl, O3.out.below.trans (B8.out.mono O3.out.below.size)⟩
        | true =>
          obtain rfl : bd = true := HS.out.on rfl rfl
          go_wp2_with ((go_at_call 19; (with_reducible refine (H5.out _ ?hx5).mono ?_); (case hx5 => exact B8.out); rintro _ w9 ⟨rfl, hb9⟩))
          go_ret
          exact ⟨rfl, O3.out.below.trans (hb9.mono O3.out.below.size)⟩
    | false =>
      cases bb with
      | true =>
        clear hij
        go_upto_region 6 with fail
        go_still_tail 25, (by kernel_rfl)
        go_wp2_with ((go_at_call 19; (with_reducible refine (H4.out _ ?hx4).mono ?_); (case hx4 => first | exact B7.out.drew | exact B7.out | exact Below.drewN B7.out _)))
        rintro _ w8 ⟨rfl, hb8⟩
        obtain ⟨-, x0, x1, x2, -, -⟩ := HF.out _ hb8
        have B8 := Lib.hid hb8
        clear hb8
        go_wp2_with fail
        go_ret
        exact ⟨rfl, O3.out.below.trans (B8.out.mono O3.out.below.size)⟩
      | false =>
        clear hij
        go_upto_region 6 with fail
        go_still_tail 25, (by kernel_rfl)
        go_wp2_with ((go_at_call 19; (with_reducible refine (H4.out _ ?hx4).mono ?_); (case hx4 => first | exact B7.out.drew | exact B7.out | exact Below.drewN B7.out _)))
        rintro _ w8 ⟨rfl, hb8⟩
        obtain ⟨-, x0, x1, x2, -, -⟩ := HF.out _ hb8
        have B8 := Lib.hid hb8
        clear hb8
        go_wp2_with fail
        go_ret
        exact ⟨rfl, O3.out.below.trans (B8.out.mono O3.out.below.size)⟩
  · have q2 : (i != j) = true := by simpa using hij
    cases ba with
    | true =>
      cases bb with
      | true => exact absurd ⟨rfl, rfl⟩ HS.out.one
      | false =>
        clear hij
        go_upto_region 6 with fail
        go_still_tail 25, (by kernel_rfl)
        go_wp2_with ((go_at_call 19; (with_reducible refine (H4.out _ ?hx4).mono ?_); (case hx4 => first | exact B7.out.drew | exact B7.out | exact Below.drewN B7.out _)))
        rintro _ w8 ⟨rfl, hb8⟩
        obtain ⟨-, x0, x1, x2, -, -⟩ := HF.out _ hb8
        have B8 := Lib.hid hb8
        clear hb8
        cases bc with
        | false =>
          go_wp2_with fail
          go_ret
          exact ⟨rfl, O3.out.below.trans (B8.out.mono O3.out.below.size)⟩
        | true =>
          obtain rfl : bd = true := HS.out.on rfl rfl
          go_wp2_with ((go_at_call 19; (with_reducible refine (H5.out _ ?hx5).mono ?_); (case hx5 => exact B8.out); rintro _ w9 ⟨rfl, hb9⟩))
          go_ret
          exact ⟨rfl, O3.out.below.trans (hb9.mono O3.out.below.size)⟩
    | false =>
      cases bb with
      | true =>
        clear hij
        go_upto_region 6 with fail
        go_still_tail 25, (by kernel_rfl)
        go_wp2_with ((go_at_call 19; (with_reducible refine (H4.out _ ?hx4).mono ?_); (case hx4 => first | exact B7.out.drew | exact B7.out | exact Below.drewN B7.out _)))
        rintro _ w8 ⟨rfl, hb8⟩
        obtain ⟨-, x0, x1, x2, -, -⟩ := HF.out _ hb8
        have B8 := Lib.hid hb8
        clear hb8
        go_wp2_with fail
        go_ret
        exact ⟨rfl, O3.out.below.trans (B8.out.mono O3.out.below.size)⟩
      | false =>
        rcases HS.out.some hij with h | h <;> cases h
end Go.Proofs.Ythmloljnpjolmaa
