/- box.leastKey, box.placeOf, box.place's compare. -/
import Derived.Test.YthmloljnpjolmaaBoxOrd
import Derived.Test.YthmloljnpjolmaaBoxRefE
import Derived.Test.YthmloljnpjolmaaDist6B
namespace Go.Proofs.Ythmloljnpjolmaa
open Go.RowKit

/-- The least key of the rows from one to another one, side by side. -/
def leastI (kd cl : Int) (A P Q : List Int) (an n : Nat) : Int :=
  if kd = 3 then tbx A (P.drop 1) (Q.drop 1) an (n - 1) (n - 1) else if kd = 2 then 9223372036854775807 - Q.getD cl.toNat 0 else P.getD cl.toNat 0 + 9223372036854775808
theorem gap_point (x p : Int) : gap x p p = apart p x := by
  unfold gap apart
  repeat' split
  all_goals omega
theorem tot_congr' (f g : Nat → Int) : ∀ n, (∀ k, k < n → f k = g k) → tot f n = tot g n
  | 0, _ => rfl
  | n + 1, h => by
    show tot f n + f n = tot g n + g n
    rw [tot_congr' f g n (fun k hk => h k (by omega)), h n (by omega)]
theorem least_key {kd cl : Int} {A P : List Int} {an n : Nat} (ho : ordP kd cl an n) : leastI kd cl A P P an n = keyI kd cl A P an n := by
  unfold leastI keyI
  rw [if_pos ho]
  split
  · have h : an = n - 1 ∧ 1 ≤ an ∧ an ≤ 8 := by unfold ordP at ho; omega
    obtain ⟨rfl, h1, h2⟩ := h
    unfold tbx btw
    rw [if_pos (show okP (n - 1) (n - 1) ∧ n - 1 = n - 1 from ⟨⟨h1, h2, rfl⟩, rfl⟩), if_pos (show okP (n - 1) (n - 1) from ⟨h1, h2, rfl⟩)]
    exact tot_congr' _ _ _ fun k _ => gap_point _ _
  · rfl
theorem two_fresh (w : World) (a b : Value) : Two (w.alloc (.cells #[a, b] 37)) w.heap.size a b := heap_alloc_new w _
set_option maxRecDepth 100000 in
set_option maxHeartbeats 4000000 in
theorem leastkey_any (kd cl : Int) (q p r : Option Addr) (an ac n c e : Nat) (A P Q : List Int) (w : World) (hA : Ints w q an ac A) (hP : Ints w p n c P) (hQ : Ints w r n e Q) (ho : ordP kd cl an n) :
    Calls Try.prog 39 #[.agg #[.int .u8 kd, .int .i64 cl, .slice q an ac], .slice p n c, .slice r n e] w fun e w' => e = .returned (dV (leastI kd cl A P Q an n)) ∧ Below w.heap.size w w' := by
  have hb : Below w.heap.size w (w.alloc (.cells #[.int .u8 kd, .int .i64 cl, .slice q an ac] 34)) := (Below.refl _ _).alloc (Nat.le_refl _) _
  have hs : (w.alloc (.cells #[.int .u8 kd, .int .i64 cl, .slice q an ac] 34)).heap.size = w.heap.size + 1 := by simp
  obtain ⟨e0, e1, e2⟩ := three_alloc w (.int .u8 kd) (.int .i64 cl) (.slice q an ac) 34
  have hA1 := hA.later hb
  have hP1 := hP.later hb
  have hQ1 := hQ.later hb
  clear hA hP hQ
  obtain ⟨hi, lo, hd⟩ := dV_two (leastI kd cl A P Q an n)
  rw [hd]
  have HD := Lib.hid hd
  clear hd
  go_enter Try.func39, Try.ntmps39
  go_upto_region 1 with fail
  generalize w.alloc (.cells #[.int .u8 kd, .int .i64 cl, .slice q an ac] 34) = w1 at *
  have t2 := zero_two w1
  have hb2 : Below w1.heap.size w1 (w1.alloc (.cells #[.int .u64 0, .int .u64 0] 37)) := (Below.refl _ _).alloc (Nat.le_refl _) _
  generalize w1.alloc (.cells #[.int .u64 0, .int .u64 0] 37) = w2 at *
  have hlt : ∀ k, (⟨w.heap.size, k, none⟩ : Addr).block < w1.heap.size := fun k => by show w.heap.size < _; omega
  have d0 := (hb2.cell (hlt 0)).trans e0
  have d1 := (hb2.cell (hlt 1)).trans e1
  have d2 := (hb2.cell (hlt 2)).trans e2
  have HA := Lib.hid (hA1.later hb2)
  have HP := Lib.hid (hP1.later hb2)
  have HQ := Lib.hid (hQ1.later hb2)
  have HB := Lib.hid (hb.trans (hb2.mono (by omega)))
  have HS := Lib.hid (show w.heap.size + 1 < w2.heap.size from by have := t2.lt; omega)
  rw [hs] at t2
  have HT := Lib.hid t2
  clear hb hb2 hlt hA1 hP1 hQ1 hs e0 e1 e2 t2
  clear w1
  obtain ⟨y0, y1, z0, z1⟩ := HT.out.facts
  by_cases h3 : kd = 3
  case pos =>
    subst h3
    have hk : leastI 3 cl A P Q an n = tbx A (P.drop 1) (Q.drop 1) an (n - 1) (n - 1) := by unfold leastI; rw [if_pos rfl]
    rw [hk] at HD
    have hdim : 1 < n ∧ n ≤ 8 ∧ an = n - 1 := by unfold ordP at ho; omega
    obtain ⟨dm1, dm2, d3⟩ := hdim
    obtain ⟨g, o, rfl, ht⟩ := HP.out.tail (by omega)
    obtain ⟨g', o', rfl, ht'⟩ := HQ.out.tail (by omega)
    have hE : tbxE an (n - 1) (n - 1) = 0 := by unfold tbxE; rw [if_pos (show okP an (n - 1) ∧ an = n - 1 from ⟨⟨by omega, by omega, d3⟩, d3⟩)]
    have hc := fun w' (hb : Below w2.heap.size w2 w') => tobox_any q _ _ an ac (n - 1) (c - 1) (n - 1) (e - 1) A _ _ w' (HA.out.later hb) (ht.later hb) (ht'.later hb)
    rw [hE, HD.out] at hc
    have HC := Lib.hid hc
    have hle := HP.out.le
    have hle' := HQ.out.le
    have n1 : (1 : Int) ≤ n := by omega
    have c1 : ¬ c = 1 := by omega
    have c2 : ¬ e = 1 := by omega
    have HST := Lib.hid (show ∀ w' w'' : World, (Below w2.heap.size w2 w' ∧ Two w' (w.heap.size + 1) (.int .u64 0) (.int .u64 0)) → Below w'.heap.size w' w'' → (Below w2.heap.size w2 w'' ∧ Two w'' (w.heap.size + 1) (.int .u64 0) (.int .u64 0)) from fun w' w'' h hb => ⟨h.1.trans (hb.mono h.1.size), h.2.later hb h.2.lt⟩)
    have d4 := (((Below.refl w2.heap.size w2).alloc (Nat.le_refl _) (.cells #[.int .u64 0, .int .u64 0] 37)).cell (p := ⟨w.heap.size, 2, none⟩) (by have := HS.out; show w.heap.size < _; omega)).trans d2
    clear hk ho d3 hc ht ht' hle hle' hE dm1 dm2
    go_upto_region 8 with fail
    go_cut [7] (fun s7 wx => ∃ gd : Nat, s7 = .pointer (some ⟨gd, 0, none⟩) ∧ Two wx gd (.int .u64 hi) (.int .u64 lo) ∧ gd ≠ w.heap.size + 1 ∧ Two wx (w.heap.size + 1) (.int .u64 0) (.int .u64 0) ∧ Below w2.heap.size w2 wx)
    case first =>
      go_region_law (go_simp; first
        | (go_at_call 53; refine (HC.out _ (Below.refl _ _).drew).mono ?_; rintro e w4 ⟨rfl, hb4⟩)
        | (go_at_call 53; refine (HC.out _ ((Below.refl _ _).alloc (Nat.le_refl _) _).drew).mono ?_; rintro e w4 ⟨rfl, hb4⟩; have tb : Two w4 w2.heap.size (.int .u64 0) (.int .u64 0) := Two.later (w := (w2.alloc (.cells #[.int .u64 0, .int .u64 0] 37)).drew) (zero_two w2) hb4 (by simp); have TB := Lib.hid tb; obtain ⟨u0, u1, u2, u3⟩ := tb.facts; clear tb))
      all_goals
        go_wp2_with fail
        go_meet
      · have t4 : Two w4 (w.heap.size + 1) (.int .u64 0) (.int .u64 0) := Two.later (w := w2.drew) HT.out hb4 HT.out.lt
        exact ⟨w4.heap.size, rfl, two_fresh _ _ _, Nat.ne_of_gt t4.lt, t4.later ((Below.refl w4.heap.size w4).alloc (Nat.le_refl _) _) t4.lt, ((Below.refl _ _).drew.trans hb4).alloc (by have := hb4.size; simpa using this) _⟩
      all_goals
        have hba : Below w2.heap.size w2 (w2.alloc (.cells #[.int .u64 0, .int .u64 0] 37)).drew := ((Below.refl _ _).alloc (Nat.le_refl _) _).drew
        have hbw : Below w2.heap.size w2 w4 := hba.trans (hb4.mono hba.size)
        have t4 : Two w4 (w.heap.size + 1) (.int .u64 0) (.int .u64 0) := HT.out.later hbw HT.out.lt
        have hne : w2.heap.size ≠ w.heap.size + 1 := Nat.ne_of_gt HT.out.lt
        exact ⟨w2.heap.size, rfl, TB.out.set _ _, hne, t4.other (Ne.symm hne) _ _, Two.below hbw (Nat.le_refl _) _ _⟩
    case rest =>
      obtain ⟨gd, rfl, g1, gne, g2, g3⟩ := hcut
      obtain ⟨wx, hwx⟩ : ∃ w3, w3 = wc := ⟨_, rfl⟩
      rw [← hwx] at g1 g2 g3 ⊢
      clear hwx
      have G2 := Lib.hid g2
      have G3 := Lib.hid (HB.out.trans (g3.mono HB.out.size))
      obtain ⟨y0, y1, z0, z1⟩ := g2.facts
      obtain ⟨x0, x1, _, _⟩ := g1.facts
      clear g1 g2 g3 d4 d0 d1 d2
      go_wp2_with fail
      exact ret_two 6 rfl (w.heap.size + 1) _ _ rfl (G2.out.set _ _) ⟨rfl, Two.below G3.out (by omega) _ _⟩
  obtain ⟨j, rfl⟩ : ∃ j : Nat, cl = j := ⟨cl.toNat, by unfold ordP at ho; omega⟩
  have hj : j < n := by unfold ordP at ho; omega
  obtain ⟨g, o, rfl, hx⟩ := HP.out.cell j hj
  obtain ⟨g', o', rfl, hy⟩ := HQ.out.cell j hj
  have hxb := HP.out.get j hj
  have hyb := HQ.out.get j hj
  have i1 : (0 : Int) ≤ j ∧ (j : Int) < n := by omega
  have q3 : (kd == 3) = false := by simpa using h3
  by_cases h2 : kd = 2
  case pos =>
    subst h2
    have hk : leastI 2 j A P Q an n = 9223372036854775807 - Q.getD j 0 := by unfold leastI; rw [if_neg h3, if_pos rfl, Int.toNat_natCast]
    rw [hk] at HD
    generalize Q.getD j 0 = y at *
    have hd := HD.out
    rw [dV_small _ (by omega)] at hd
    have e1 : (0 : Int) = hi ∧ 9223372036854775807 - y = lo := by simpa using hd
    obtain ⟨rfl, hlo⟩ := e1
    have ha := apart_any y 9223372036854775807 hyb (by omega)
    rw [show apart y 9223372036854775807 = lo by unfold apart; split <;> omega] at ha
    have HA2 := Lib.hid ha
    clear hk hd h3 ho ha hlo
    go_wp2_with ((go_at_call 52; refine (HA2.out _).mono ?_; rintro e w' ⟨rfl, rfl⟩))
    exact ret_two 6 rfl (w.heap.size + 1) _ _ rfl (HT.out.set _ _) ⟨rfl, Two.below HB.out (by omega) _ _⟩
  case neg =>
    have hk : leastI kd j A P Q an n = P.getD j 0 + 9223372036854775808 := by unfold leastI; rw [if_neg h3, if_neg h2, Int.toNat_natCast]
    rw [hk] at HD
    generalize P.getD j 0 = x at *
    have hd := HD.out
    rw [dV_small _ (by omega)] at hd
    have e1 : (0 : Int) = hi ∧ x + 9223372036854775808 = lo := by simpa using hd
    obtain ⟨rfl, hlo⟩ := e1
    have ha := apart_any x (-9223372036854775808) hxb (by omega)
    rw [show apart x (-9223372036854775808) = lo by unfold apart; split <;> omega] at ha
    have HA2 := Lib.hid ha
    have q2 : (kd == 2) = false := by simpa using h2
    have hcase : kd = 0 ∨ kd = 1 := by unfold ordP at ho; omega
    clear hk hd ho ha hlo
    rcases hcase with rfl | rfl
    · clear h3 h2 q2 q3
      go_wp2_with ((go_at_call 52; refine (HA2.out _).mono ?_; rintro e w' ⟨rfl, rfl⟩))
      exact ret_two 6 rfl (w.heap.size + 1) _ _ rfl (HT.out.set _ _) ⟨rfl, Two.below HB.out (by omega) _ _⟩
    · clear h3 h2 q2 q3
      go_wp2_with ((go_at_call 52; refine (HA2.out _).mono ?_; rintro e w' ⟨rfl, rfl⟩))
      exact ret_two 6 rfl (w.heap.size + 1) _ _ rfl (HT.out.set _ _) ⟨rfl, Two.below HB.out (by omega) _ _⟩
end Go.Proofs.Ythmloljnpjolmaa
