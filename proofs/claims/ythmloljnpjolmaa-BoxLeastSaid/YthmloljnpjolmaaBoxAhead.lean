/- box.Ahead. -/
import Derived.Test.YthmloljnpjolmaaBoxPlace
namespace Go.Proofs.Ythmloljnpjolmaa
open Go.RowKit

theorem dcmp_cases {a b c d : Int} (hb : 0 ≤ b ∧ b < 18446744073709551616) (hd : 0 ≤ d ∧ d < 18446744073709551616) :
    (dcmp a b c d = 0 ∧ a * 18446744073709551616 + b = c * 18446744073709551616 + d) ∨ (dcmp a b c d = -1 ∧ a * 18446744073709551616 + b < c * 18446744073709551616 + d) ∨ (dcmp a b c d = 1 ∧ c * 18446744073709551616 + d < a * 18446744073709551616 + b) := by
  unfold dcmp
  split
  · rename_i h
    obtain ⟨rfl, rfl⟩ := h
    exact Or.inl ⟨rfl, rfl⟩
  · split
    · exact Or.inr (Or.inl ⟨rfl, by omega⟩)
    · exact Or.inr (Or.inr ⟨rfl, by omega⟩)
/-- A place is ahead, if its key is less, or the same and its id less. -/
theorem pcmp_neg {a b i c d j K M : Int} (hK : K = a * 18446744073709551616 + b) (hM : M = c * 18446744073709551616 + d) (hb : 0 ≤ b ∧ b < 18446744073709551616) (hd : 0 ≤ d ∧ d < 18446744073709551616) :
    pcmp a b i c d j < 0 ↔ K < M ∨ K = M ∧ i < j := by
  unfold pcmp
  rcases dcmp_cases (a := a) (b := b) (c := c) (d := d) hb hd with ⟨h, h2⟩ | ⟨h, h2⟩ | ⟨h, h2⟩
  · rw [h, if_pos rfl]
    unfold icmp
    split
    · omega
    · split <;> omega
  · rw [h, if_neg (by omega)]; omega
  · rw [h, if_neg (by omega)]; omega
set_option maxRecDepth 100000 in
set_option maxHeartbeats 4000000 in
theorem ahead_any (kd cl : Int) (q p r : Option Addr) (an ac n c m e : Nat) (A P Q : List Int) (w : World) (hA : Ints w q an ac A) (hP : Ints w p n c P) (hQ : Ints w r m e Q) :
    Calls Try.prog 19 #[.agg #[.int .u8 kd, .int .i64 cl, .slice q an ac], .slice p n c, .slice r m e] w fun e w' => e = .returned (.bool (decide (aheadP kd cl A P Q an n m))) ∧ Below w.heap.size w w' := by
  have hb : Below w.heap.size w (w.alloc (.cells #[.int .u8 kd, .int .i64 cl, .slice q an ac] 34)) := (Below.refl _ _).alloc (Nat.le_refl _) _
  have hs : w.heap.size < (w.alloc (.cells #[.int .u8 kd, .int .i64 cl, .slice q an ac] 34)).heap.size := by simp
  obtain ⟨e0, e1, e2⟩ := three_alloc w (.int .u8 kd) (.int .i64 cl) (.slice q an ac) 34
  have HA := Lib.hid (hA.later hb)
  have HP := Lib.hid (hP.later hb)
  have HQ := Lib.hid (hQ.later hb)
  have HB := Lib.hid hb
  have HK1 := Lib.hid (key_bound kd cl A P an n hA.ok hP.ok)
  have HK2 := Lib.hid (key_bound kd cl A Q an m hA.ok hQ.ok)
  clear hA hP hQ hb
  go_enter Try.func19, Try.ntmps19
  go_upto_region 1 with fail
  generalize w.alloc (.cells #[.int .u8 kd, .int .i64 cl, .slice q an ac] 34) = w1 at *
  go_wp2_with fail
  refine (ordright_any kd cl n q an ac w1).mono ?_
  rintro _ w2 ⟨rfl, hb2⟩
  have f0 := (hb2.cell (p := ⟨w.heap.size, 0, none⟩) hs).trans e0
  have f1 := (hb2.cell (p := ⟨w.heap.size, 1, none⟩) hs).trans e1
  have f2 := (hb2.cell (p := ⟨w.heap.size, 2, none⟩) hs).trans e2
  have GA := Lib.hid (HA.out.later hb2)
  have GP := Lib.hid (HP.out.later hb2)
  have GQ := Lib.hid (HQ.out.later hb2)
  have GB := Lib.hid (HB.out.trans (hb2.mono HB.out.size))
  have hs2 := Nat.lt_of_lt_of_le hs hb2.size
  have HS2 := Lib.hid hs2
  clear hb2 e0 e1 e2 HA HP HQ HB hs hs2
  by_cases ho : ordP kd cl an n
  case neg =>
    rw [decide_eq_false ho]
    have HN := Lib.hid (show ¬ aheadP kd cl A P Q an n m from fun h => ho h.1)
    clear ho
    go_wp2_with fail
    go_ret
    exact ⟨ret_ndec HN.out, GB.out⟩
  rw [decide_eq_true ho]
  by_cases hm : (m : Int) = n
  case neg =>
    have q1 : ((n : Int) != m) = true := by simp only [bne_iff_ne, ne_eq]; omega
    have HN := Lib.hid (show ¬ aheadP kd cl A P Q an n m from fun h => hm (by have := h.2.2.1; omega))
    clear ho hm
    go_wp2_with fail
    go_ret
    exact ⟨ret_ndec HN.out, GB.out⟩
  obtain rfl : m = n := by omega
  obtain ⟨a1, b1, hd1, hk1, hb1, hb1'⟩ := dV_parts _ HK1.out
  obtain ⟨a2, b2, hd2, hk2, hb2, hb2'⟩ := dV_parts _ HK2.out
  have hp1 := fun w' (hb : Below w2.heap.size w2 w') => placeof_any kd cl q p p an ac m c c A P P w' (GA.out.later hb) (GP.out.later hb) (GP.out.later hb) ho
  have hp2 := fun w' (hb : Below w2.heap.size w2 w') => placeof_any kd cl q r r an ac m e e A Q Q w' (GA.out.later hb) (GQ.out.later hb) (GQ.out.later hb) ho
  rw [least_key ho, plV_parts _ hd1] at hp1
  rw [least_key ho, plV_parts _ hd2] at hp2
  have HR := Lib.hid (show pcmp a1 b1 (P.getD 0 0) a2 b2 (Q.getD 0 0) < 0 ↔ aheadP kd cl A P Q an m m from by
    rw [pcmp_neg hk1 hk2 ⟨hb1, hb1'⟩ ⟨hb2, hb2'⟩]
    exact ⟨fun h => ⟨ho, ho, rfl, h⟩, fun h => h.2.2.2⟩)
  have hcm := fun w' => compare_any a1 b1 (P.getD 0 0) a2 b2 (Q.getD 0 0) w'
  generalize P.getD 0 0 = i at *
  generalize Q.getD 0 0 = j at *
  obtain ⟨z, hz⟩ : ∃ z, z = pcmp a1 b1 i a2 b2 j := ⟨_, rfl⟩
  rw [← hz] at HR hcm
  have HC := Lib.hid (show ∀ w', Below w2.heap.size w2 w' → Calls Try.prog 42 #[.agg #[.int .u64 a1, .int .u64 b1, .int .i64 i], .agg #[.int .u64 a2, .int .u64 b2, .int .i64 j]] w' fun e w'' => e = .returned (.int .i64 z) ∧ Below w2.heap.size w2 w'' from fun w' hb => (hcm w').mono fun e w'' h => ⟨h.1, hb.trans (h.2.mono hb.size)⟩)
  have H1 := Lib.hid (show ∀ w', Below w2.heap.size w2 w' → Calls Try.prog 41 #[.agg #[.int .u8 kd, .int .i64 cl, .slice q an ac], .slice p m c, .slice p m c] w' fun e w'' => e = .returned (.agg #[.int .u64 a1, .int .u64 b1, .int .i64 i]) ∧ Below w2.heap.size w2 w'' from fun w' hb => (hp1 w' hb).mono fun e w'' h => ⟨h.1, hb.trans (h.2.mono hb.size)⟩)
  have H2 := Lib.hid (show ∀ w', Below w2.heap.size w2 w' → Calls Try.prog 41 #[.agg #[.int .u8 kd, .int .i64 cl, .slice q an ac], .slice r m e, .slice r m e] w' fun e w'' => e = .returned (.agg #[.int .u64 a2, .int .u64 b2, .int .i64 j]) ∧ Below w2.heap.size w2 w'' from fun w' hb => (hp2 w' hb).mono fun e w'' h => ⟨h.1, hb.trans (h.2.mono hb.size)⟩)
  have HF := Lib.hid (show ∀ w', Below w2.heap.size w2 w' → (Below w2.heap.size w2 w' ∧ w'.cell? ⟨w.heap.size, 0, none⟩ = some (.int .u8 kd) ∧ w'.cell? ⟨w.heap.size, 1, none⟩ = some (.int .i64 cl) ∧ w'.cell? ⟨w.heap.size, 2, none⟩ = some (.slice q an ac)) from fun w' hb => ⟨hb, (hb.cell (p := ⟨w.heap.size, 0, none⟩) HS2.out).trans f0, (hb.cell (p := ⟨w.heap.size, 1, none⟩) HS2.out).trans f1, (hb.cell (p := ⟨w.heap.size, 2, none⟩) HS2.out).trans f2⟩)
  have q1 : ((m : Int) != m) = false := by simp
  clear ho hm hz hcm hp1 hp2 hd1 hd2 hk1 hk2 hb1 hb1' hb2 hb2' HK1 HK2
  go_upto_region 3 with fail
  go_region_held3 (fun w' => Below w2.heap.size w2 w' ∧ w'.cell? ⟨w.heap.size, 0, none⟩ = some (.int .u8 kd) ∧ w'.cell? ⟨w.heap.size, 1, none⟩ = some (.int .i64 cl) ∧ w'.cell? ⟨w.heap.size, 2, none⟩ = some (.slice q an ac)) (first | assumption | exact HF.out _ (Below.drew (Below.refl _ _)) | exact HF.out _ (Below.refl _ _)) ((first
    | (go_at_call 41; (with_reducible refine (H1.out _ ?hx1).mono ?_); (case hx1 => first | assumption | exact (Below.refl _ _).drew | exact Below.refl _ _); rintro _ w5 ⟨rfl, hb5⟩; have k5 := HF.out _ hb5)
    | (go_at_call 41; (with_reducible refine (H2.out _ ?hx2).mono ?_); (case hx2 => first | assumption | exact (Below.refl _ _).drew | exact Below.refl _ _); rintro _ w6 ⟨rfl, hb6⟩; have k6 := HF.out _ hb6)
    | (go_at_call 42; (with_reducible refine (HC.out _ ?hx3).mono ?_); (case hx3 => first | assumption | exact (Below.refl _ _).drew | exact Below.refl _ _); rintro _ w7 ⟨rfl, hb7⟩; have k7 := HF.out _ hb7)))
  all_goals
    go_wp2_with fail
    go_ret
    exact ⟨ret_decB (by rw [decide_eq_true_eq]; exact HR.out), GB.out.trans (hb7.mono GB.out.size)⟩
end Go.Proofs.Ythmloljnpjolmaa
