/- indentureref04.Key. -/
import Derived.Test.YthmloljnpjolmaaBoxRefC
import Derived.Test.YthmloljnpjolmaaDist12
namespace Go.Proofs.Ythmloljnpjolmaa
open Go.RowKit

/-- The key of a row in an order, as one number. -/
def keyI (kd cl : Int) (A P : List Int) (an n : Nat) : Int :=
  if ordP kd cl an n then (if kd = 3 then btw (P.drop 1) A (n - 1) an else if kd = 2 then 9223372036854775807 - P.getD cl.toNat 0 else P.getD cl.toNat 0 + 9223372036854775808) else 0
theorem Ints.tail {w : World} {p : Option Addr} {n c : Nat} {R : List Int} (h : Ints w p n c R) (hn : 1 ≤ n) : ∃ g o, p = some ⟨g, o, none⟩ ∧ Ints w (some ⟨g, o + 1, none⟩) (n - 1) (c - 1) (R.drop 1) := by
  have hs := h.size
  have hl := h.le
  obtain ⟨g, o, hp, hx⟩ := h.cell 0 (by omega)
  refine ⟨g, o, hp, by rw [List.length_drop, hs], by omega, fun x hx => h.ok x (List.mem_of_mem_drop hx), ?_⟩
  rcases h.at' with h0 | ⟨g', o', hp', hc⟩
  · rw [h0] at hs; simp at hs; omega
  · rw [hp] at hp'
    simp only [Option.some.injEq, Addr.mk.injEq] at hp'
    obtain ⟨rfl, rfl, _⟩ := hp'
    refine Or.inr ⟨g, o + 1, rfl, fun i hi => ?_⟩
    rw [List.length_drop] at hi
    have := hc (i + 1) (by omega)
    rw [show o + 1 + i = o + (i + 1) from by omega, this]
    simp [List.getD_eq_getElem?_getD, Nat.add_comm]
theorem dV_small (x : Int) (h : 0 ≤ x ∧ x < 18446744073709551616) : dV x = .agg #[.int .u64 0, .int .u64 x] := by
  unfold dV
  rw [show x / 18446744073709551616 = 0 from by omega, show x % 18446744073709551616 = x from by omega]
  rfl
set_option maxRecDepth 100000 in
set_option maxHeartbeats 4000000 in
theorem refkey_any (kd cl : Int) (q p : Option Addr) (an ac n c : Nat) (A P : List Int) (w : World) (hA : Ints w q an ac A) (hP : Ints w p n c P) :
    Calls Try.prog 16 #[.agg #[.int .u8 kd, .int .i64 cl, .slice q an ac], .slice p n c] w fun e w' => e = .returned (.tuple #[dV (keyI kd cl A P an n), .bool (decide (ordP kd cl an n))]) ∧ Below w.heap.size w w' := by
  have hb : Below w.heap.size w (w.alloc (.cells #[.int .u8 kd, .int .i64 cl, .slice q an ac] 34)) := (Below.refl _ _).alloc (Nat.le_refl _) _
  have hs : (w.alloc (.cells #[.int .u8 kd, .int .i64 cl, .slice q an ac] 34)).heap.size = w.heap.size + 1 := by simp
  obtain ⟨e0, e1, e2⟩ := three_alloc w (.int .u8 kd) (.int .i64 cl) (.slice q an ac) 34
  have hA1 := hA.later hb
  have hP1 := hP.later hb
  clear hA hP
  obtain ⟨hi, lo, hd⟩ := dV_two (keyI kd cl A P an n)
  rw [hd]
  have HD := Lib.hid hd
  clear hd
  go_enter Try.func16, Try.ntmps16
  go_upto_region 1 with fail
  generalize w.alloc (.cells #[.int .u8 kd, .int .i64 cl, .slice q an ac] 34) = w1 at *
  have t2 := zero_two w1
  have hb2 : Below w1.heap.size w1 (w1.alloc (.cells #[.int .u64 0, .int .u64 0] 37)) := (Below.refl _ _).alloc (Nat.le_refl _) _
  generalize w1.alloc (.cells #[.int .u64 0, .int .u64 0] 37) = w2 at *
  have hlt : ∀ k, (⟨w.heap.size, k, none⟩ : Addr).block < w1.heap.size := fun k => by show w.heap.size < _; omega
  have d0 := (hb2.cell (hlt 0)).trans e0
  have d1 := (hb2.cell (hlt 1)).trans e1
  have d2 := (hb2.cell (hlt 2)).trans e2
  have hA2 := hA1.later hb2
  have hP2 := hP1.later hb2
  have B2 := hb.trans (hb2.mono (by omega))
  have hs2 : w.heap.size + 1 < w2.heap.size := by have := t2.lt; omega
  rw [hs] at t2
  clear hb hb2 hlt hA1 hP1 hs e0 e1 e2
  clear w1
  have HA := Lib.hid hA2
  have HP := Lib.hid hP2
  have HB := Lib.hid B2
  have HT := Lib.hid t2
  have HS := Lib.hid hs2
  clear hA2 hP2 B2 t2 hs2
  go_wp2_with fail
  refine (refordright_any kd cl n q an ac w2).mono ?_
  rintro _ w3 ⟨rfl, hb3⟩
  have hlt : ∀ k, (⟨w.heap.size, k, none⟩ : Addr).block < w2.heap.size := fun k => by have := HS.out; show w.heap.size < _; omega
  have f0 := (hb3.cell (hlt 0)).trans d0
  have f1 := (hb3.cell (hlt 1)).trans d1
  have f2 := (hb3.cell (hlt 2)).trans d2
  have GA := Lib.hid (HA.out.later hb3)
  have GP := Lib.hid (HP.out.later hb3)
  have GT := Lib.hid (HT.out.later hb3 HS.out)
  have GB := Lib.hid (HB.out.trans (hb3.mono HB.out.size))
  have GS := Lib.hid (Nat.lt_of_lt_of_le HS.out hb3.size)
  clear hlt hb3 d0 d1 d2 HA HP HB HT HS
  obtain ⟨y0, y1, z0, z1⟩ := GT.out.facts
  by_cases ho : ordP kd cl an n
  case neg =>
    have hk : keyI kd cl A P an n = 0 := by unfold keyI; rw [if_neg ho]
    rw [hk] at HD
    obtain ⟨rfl, rfl⟩ : (0 : Int) = hi ∧ (0 : Int) = lo := by have := HD.out; simpa [dV] using this
    have HO := Lib.hid (decide_eq_false ho)
    rw [HO.out]
    clear ho hk
    go_wp2_with fail
    exact ret_two2 4 5 rfl (w.heap.size + 1) _ _ (.bool false) rfl rfl (GT.out.set _ _) ⟨congrArg (fun b => Ending.returned (.tuple #[.agg #[.int .u64 0, .int .u64 0], .bool b])) HO.out.symm, Two.below GB.out (by omega) _ _⟩
  have HO := Lib.hid (decide_eq_true ho)
  rw [HO.out]
  by_cases h3 : kd = 3
  case pos =>
    subst h3
    have hk : keyI 3 cl A P an n = btw (P.drop 1) A (n - 1) an := by unfold keyI; rw [if_pos ho, if_pos rfl]
    rw [hk] at HD
    have hdim : 1 < n ∧ n ≤ 8 ∧ okP (n - 1) an := by unfold okP; unfold ordP at ho; omega
    obtain ⟨dm1, dm2, d3⟩ := hdim
    obtain ⟨g, o, rfl, ht⟩ := GP.out.tail (by omega)
    have hc := fun w' (hb : Below w3.heap.size w3 w') => refbetween_any _ q (n - 1) (c - 1) an ac _ A w' (ht.later hb) (GA.out.later hb)
    rw [decide_eq_true d3, HD.out] at hc
    have HC := Lib.hid hc
    have hle := GP.out.le
    have n1 : (1 : Int) ≤ n := by omega
    have c1 : ¬ c = 1 := by omega
    clear hk ho d3 hc ht hle
    go_upto_region 4 with fail
    go_region_law (go_simp; go_at_call 40; refine (HC.out _ (by first | exact Below.refl _ _ | exact (Below.refl _ _).drew)).mono ?_; rintro e w4 ⟨rfl, hb4⟩; have Y1 := Lib.hid (show Two w4 (w.heap.size + 1) (.int .u64 0) (.int .u64 0) from (hb4.block _ GT.out.lt).trans GT.out); have Y3 := Lib.hid (GB.out.trans ((below_of (w := w3) hb4 rfl rfl rfl rfl).mono GB.out.size)); clear hb4; obtain ⟨y0, y1, y2, y3⟩ := Y1.out.facts)
    all_goals
      go_wp2_with fail
      exact ret_two2 4 5 rfl (w.heap.size + 1) _ _ (.bool true) rfl rfl (Y1.out.set _ _) ⟨congrArg (fun b => Ending.returned (.tuple #[.agg #[.int .u64 hi, .int .u64 lo], .bool b])) HO.out.symm, Two.below Y3.out (by omega) _ _⟩
  obtain ⟨j, rfl⟩ : ∃ j : Nat, cl = j := ⟨cl.toNat, by unfold ordP at ho; omega⟩
  have hj : j < n := by unfold ordP at ho; omega
  obtain ⟨g, o, rfl, hx⟩ := GP.out.cell j hj
  have hxb := GP.out.get j hj
  have i1 : (0 : Int) ≤ j ∧ (j : Int) < n := by omega
  by_cases h2 : kd = 2
  case pos =>
    subst h2
    have hk : keyI 2 j A P an n = 9223372036854775807 - P.getD j 0 := by unfold keyI; rw [if_pos ho, if_neg h3, if_pos rfl, Int.toNat_natCast]
    rw [hk] at HD
    generalize P.getD j 0 = x at *
    have hd := HD.out
    rw [dV_small _ (by omega)] at hd
    have e1 : (0 : Int) = hi ∧ 9223372036854775807 - x = lo := by simpa using hd
    obtain ⟨rfl, hlo⟩ := e1
    have q3 : ((2 : Int) == 3) = false := rfl
    have hw : IntKind.u64.wrap (18446744073709551615 - IntKind.u64.wrap (IntKind.u64.wrap x + 9223372036854775808)) = lo := by
      show (18446744073709551615 - (x % 18446744073709551616 + 9223372036854775808) % 18446744073709551616) % 18446744073709551616 = lo
      omega
    have HW := Lib.hid hw
    clear hk hd h3 ho hw
    go_wp2_with fail
    rw [HW.out]
    exact ret_two2 4 5 rfl (w.heap.size + 1) _ _ (.bool true) rfl rfl (GT.out.set _ _) ⟨congrArg (fun b => Ending.returned (.tuple #[.agg #[.int .u64 0, .int .u64 lo], .bool b])) HO.out.symm, Two.below GB.out (by omega) _ _⟩
  case neg =>
    have hk : keyI kd j A P an n = P.getD j 0 + 9223372036854775808 := by unfold keyI; rw [if_pos ho, if_neg h3, if_neg h2, Int.toNat_natCast]
    rw [hk] at HD
    generalize P.getD j 0 = x at *
    have hd := HD.out
    rw [dV_small _ (by omega)] at hd
    have e1 : (0 : Int) = hi ∧ x + 9223372036854775808 = lo := by simpa using hd
    obtain ⟨rfl, hlo⟩ := e1
    have q3 : (kd == 3) = false := by simpa using h3
    have q2 : (kd == 2) = false := by simpa using h2
    have hw : IntKind.u64.wrap (IntKind.u64.wrap x + 9223372036854775808) = lo := by
      show (x % 18446744073709551616 + 9223372036854775808) % 18446744073709551616 = lo
      omega
    have HW := Lib.hid hw
    clear hk hd ho hw
    go_wp2_with fail
    rw [HW.out]
    exact ret_two2 4 5 rfl (w.heap.size + 1) _ _ (.bool true) rfl rfl (GT.out.set _ _) ⟨congrArg (fun b => Ending.returned (.tuple #[.agg #[.int .u64 0, .int .u64 lo], .bool b])) HO.out.symm, Two.below GB.out (by omega) _ _⟩
end Go.Proofs.Ythmloljnpjolmaa
