/- dist.tenth, dist.turn. -/
import Derived.Test.YtfkemphkhfhabaaDist7
import Derived.BigRegion
namespace Go.Proofs.Ytfkemphkhfhabaa
open Go.RowKit

theorem div_any (hi lo : Int) (hh : 0 ≤ hi ∧ hi < 10) (hl : 0 ≤ lo ∧ lo < 18446744073709551616) (w : World) :
    Calls Try.prog 32 #[.int .u64 hi, .int .u64 lo, .int .u64 10] w fun e w' => e = .returned (.tuple #[.int .u64 ((hi * 18446744073709551616 + lo) / 10), .int .u64 ((hi * 18446744073709551616 + lo) % 10)]) ∧ ∃ j, w' = w.drewN j := by
  by_cases h : hi = 0
  · subst h
    rw [show (0 : Int) * 18446744073709551616 + lo = lo from by omega]
    exact div0_any lo hl w
  · exact div10_any hi lo ⟨by omega, hh.2⟩ hl w
theorem tenth_all (n : Int) (h0 : 0 ≤ n) (h1 : n < 340282366920938463463374607431768211456) :
    n / 18446744073709551616 % 18446744073709551616 / 10 = n / 10 / 18446744073709551616 % 18446744073709551616 ∧
    (n / 18446744073709551616 % 18446744073709551616 % 10 * 18446744073709551616 + n % 18446744073709551616) / 10 = n / 10 % 18446744073709551616 ∧
    (n / 18446744073709551616 % 18446744073709551616 % 10 * 18446744073709551616 + n % 18446744073709551616) % 10 = n % 10 := by
  obtain ⟨h, hh⟩ : ∃ h, h = n / 18446744073709551616 := ⟨_, rfl⟩
  obtain ⟨l, hl⟩ : ∃ l, l = n % 18446744073709551616 := ⟨_, rfl⟩
  have hb : 0 ≤ h ∧ h < 18446744073709551616 := by omega
  have lb : 0 ≤ l ∧ l < 18446744073709551616 := by omega
  have hn : n = h * 18446744073709551616 + l := by omega
  rw [← hh, ← hl]
  clear hh hl h0 h1
  subst hn
  rw [show h % 18446744073709551616 = h from by omega]
  obtain ⟨q, hq⟩ : ∃ q, q = h / 10 := ⟨_, rfl⟩
  obtain ⟨r, hr⟩ : ∃ r, r = h % 10 := ⟨_, rfl⟩
  have qr : h = 10 * q + r ∧ 0 ≤ r ∧ r < 10 ∧ 0 ≤ q ∧ q < 18446744073709551616 := by omega
  rw [← hq, ← hr]
  clear hq hr
  obtain ⟨p, hp⟩ : ∃ p, p = (r * 18446744073709551616 + l) / 10 := ⟨_, rfl⟩
  obtain ⟨s, hs⟩ : ∃ s, s = (r * 18446744073709551616 + l) % 10 := ⟨_, rfl⟩
  have ps : r * 18446744073709551616 + l = 10 * p + s ∧ 0 ≤ s ∧ s < 10 ∧ 0 ≤ p ∧ p < 18446744073709551616 := by omega
  rw [← hp, ← hs]
  clear hp hs
  have e : (h * 18446744073709551616 + l) / 10 = q * 18446744073709551616 + p := by omega
  rw [e]
  clear e
  have e2 : (q * 18446744073709551616 + p) / 18446744073709551616 = q := by
    rw [Int.add_comm, Int.add_mul_ediv_right _ _ (by decide), Int.ediv_eq_zero_of_lt ps.2.2.2.1 ps.2.2.2.2, Int.zero_add]
  have e3 : (q * 18446744073709551616 + p) % 18446744073709551616 = p := by
    rw [Int.add_comm, Int.add_mul_emod_self_right, Int.emod_eq_of_lt ps.2.2.2.1 ps.2.2.2.2]
  rw [e2, e3]
  refine ⟨by omega, rfl, by omega⟩
set_option maxRecDepth 100000 in
theorem tenth_any (n : Int) (h0 : 0 ≤ n) (h1 : n < 340282366920938463463374607431768211456) (w : World) :
    Calls Try.prog 30 #[dV n] w fun e w' => e = .returned (.tuple #[dV (n / 10), .int .u64 (n % 10)]) ∧ Below w.heap.size w w' := by
  obtain ⟨e1, e2, e3⟩ := tenth_all n h0 h1
  have l0 : 0 ≤ n % 18446744073709551616 := by omega
  have l1 : n % 18446744073709551616 < 18446744073709551616 := by omega
  have l2 : 0 ≤ n / 18446744073709551616 % 18446744073709551616 := by omega
  have l3 : n / 18446744073709551616 % 18446744073709551616 < 18446744073709551616 := by omega
  unfold dV
  rw [← e1, ← e2, ← e3]
  generalize n / 18446744073709551616 % 18446744073709551616 = hi at *
  generalize n % 18446744073709551616 = lo at *
  clear e1 e2 e3 h0 h1
  have d1 := fun w => div0_any hi ⟨l2, l3⟩ w
  have d2 := fun w => div_any (hi % 10) lo ⟨by omega, by omega⟩ ⟨l0, l1⟩ w
  obtain ⟨q, hq⟩ : ∃ q, q = hi / 10 := ⟨_, rfl⟩
  obtain ⟨r, hr⟩ : ∃ r, r = hi % 10 := ⟨_, rfl⟩
  rw [← hq]
  rw [← hr]
  rw [← hq, ← hr] at d1
  rw [← hr] at d2
  obtain ⟨p, hp⟩ : ∃ p, p = (r * 18446744073709551616 + lo) / 10 := ⟨_, rfl⟩
  obtain ⟨s, hs⟩ : ∃ s, s = (r * 18446744073709551616 + lo) % 10 := ⟨_, rfl⟩
  rw [← hp, ← hs]
  rw [← hp, ← hs] at d2
  have D1 := Lib.hid d1
  have D2 := Lib.hid d2
  clear hq hr hp hs d1 d2 l0 l1 l2 l3
  go_enter Try.func30, Try.ntmps30
  go_upto_region 1 with fail
  have B1 : Below w.heap.size w (w.alloc (.cells #[.int .u64 hi, .int .u64 lo] 25)) := (Below.refl _ _).alloc (Nat.le_refl _) _
  have c1 : Two (w.alloc (.cells #[.int .u64 hi, .int .u64 lo] 25)) w.heap.size (.int .u64 hi) (.int .u64 lo) := heap_alloc_new w _
  have s1 : (w.alloc (.cells #[.int .u64 hi, .int .u64 lo] 25)).heap.size = w.heap.size + 1 := by simp
  generalize w.alloc (.cells #[.int .u64 hi, .int .u64 lo] 25) = w1 at *
  have t2 := zero_two w1
  have B2 : Below w1.heap.size w1 (w1.alloc (.cells #[.int .u64 0, .int .u64 0] 25)) := (Below.refl _ _).alloc (Nat.le_refl _) _
  generalize w1.alloc (.cells #[.int .u64 0, .int .u64 0] 25) = w2 at *
  rw [s1] at t2
  have T1 := Lib.hid (show Two w2 w.heap.size (.int .u64 hi) (.int .u64 lo) from c1.later B2 (by omega))
  have T2 := Lib.hid t2
  have B := Lib.hid (B1.trans (B2.mono (by omega)))
  clear B1 B2 c1 t2 s1
  obtain ⟨y0, y1, y2, y3⟩ := T1.out.facts
  go_wp2_with fail
  refine (D1.out _).mono ?_
  rintro e w3 ⟨rfl, j, rfl⟩
  clear y0 y1 y2 y3
  have T3 := Lib.hid (show Two (w2.drewN j) w.heap.size (.int .u64 hi) (.int .u64 lo) from T1.out)
  obtain ⟨y0, y1, y2, y3⟩ := T3.out.facts
  have T4 := Lib.hid (show Two (w2.drewN j) (w.heap.size + 1) (.int .u64 0) (.int .u64 0) from T2.out)
  have B4 := Lib.hid (Below.drewN B.out j)
  generalize w2.drewN j = w3 at *
  go_wp2_with fail
  refine (D2.out _).mono ?_
  rintro e w4 ⟨rfl, j', rfl⟩
  clear y0 y1 y2 y3
  have T5 := Lib.hid (show Two (w3.drewN j') (w.heap.size + 1) (.int .u64 0) (.int .u64 0) from T4.out)
  have B5 := Lib.hid (Below.drewN B4.out j')
  generalize w3.drewN j' = w4 at *
  obtain ⟨y0, y1, y2, y3⟩ := T5.out.facts
  go_wp2_with fail
  exact ret_two2 2 3 rfl (w.heap.size + 1) _ _ (.int .u64 s) rfl rfl (T5.out.set _ _) ⟨rfl, Two.below B5.out (by omega) _ _⟩
/-- Bytes in a block that may have room behind them. -/
def At (w : World) (g : Nat) (n : Nat) (f : Nat → Nat) (C : Array Value) : Prop := w.heap[g]? = some (.cells C 5 (0, 0)) ∧ n ≤ C.size ∧ ∀ i, i < n → C[i]? = some (.int .u8 (f i : Nat))
theorem At.set {w : World} {g n : Nat} {f : Nat → Nat} {C : Array Value} (h : At w g n f C) (k x : Nat) : At (w.setCell ⟨g, k, none⟩ (.int .u8 (x : Nat))) g n (fun i => if i = k then x else f i) (C.setIfInBounds k (.int .u8 (x : Nat))) := by
  obtain ⟨h1, h2, h3⟩ := h
  refine ⟨heap_setCell_same w g k _ _ _ h1, by simpa using h2, fun i hi => ?_⟩
  rw [Array.getElem?_setIfInBounds]
  by_cases e : k = i
  · subst e
    rw [if_pos rfl, if_pos (by omega)]
    simp
  · rw [if_neg e, h3 i hi]
    simp [Ne.symm e]
theorem At.cell {w : World} {g n : Nat} {f : Nat → Nat} {C : Array Value} (h : At w g n f C) (k : Nat) (hk : k < n) : w.cell? ⟨g, k, none⟩ = some (.int .u8 (f k : Nat)) := by
  rw [cell_of_row w g k _ _ _ h.1]; exact h.2.2 k hk
theorem At.free {w : World} {g n : Nat} {f : Nat → Nat} {C : Array Value} (h : At w g n f C) (k : Nat) : w.frozen? ⟨g, k, none⟩ = false := frozen_of_row w g _ _ _ h.1
theorem At.same {w w' : World} {g n : Nat} {f f' : Nat → Nat} {C : Array Value} (h : At w g n f C) (e : w'.heap = w.heap) (hf : ∀ i, i < n → f i = f' i) : At w' g n f' C :=
  ⟨by rw [e]; exact h.1, h.2.1, fun i hi => by rw [h.2.2 i hi, hf i hi]⟩
def swp (n k : Nat) (f : Nat → Nat) (i : Nat) : Nat := if i < k ∨ n - k ≤ i then f (n - 1 - i) else f i
def TurnRel (w : World) (g n : Nat) (f : Nat → Nat) (i : Value) (wr : World) : Prop :=
  ∃ (k : Nat) (C : Array Value), k ≤ n / 2 ∧ i = .int .i64 k ∧ At wr g n (swp n k f) C ∧ w.grownBy wr (some g)
set_option maxRecDepth 100000 in
theorem turn_any (g n c : Nat) (hn : 1 ≤ n) (hm : n < 9223372036854775807) (f : Nat → Nat) (C : Array Value) (w : World) (h : At w g n f C) :
    Calls Try.prog 31 #[.slice (some ⟨g, 0, none⟩) n c] w fun e w' => e = .returned (.tuple #[]) ∧ (∃ C', At w' g n (fun i => f (n - 1 - i)) C') ∧ w.grownBy w' (some g) := by
  have H := Lib.hid h
  clear h
  go_enter Try.func31, Try.ntmps31
  obtain ⟨z, hz⟩ : ∃ z : Nat, (n : Int) - 1 = z := ⟨n - 1, by omega⟩
  obtain ⟨hf, hhf⟩ : ∃ hf : Nat, (n : Int) / 2 = hf := ⟨n / 2, by omega⟩
  go_wp2_with fail
  have HZ := Lib.hid hz
  have HHF := Lib.hid hhf
  clear hz hhf
  go_loopw [10] (fun i wr => TurnRel w g n f i wr) (fun i _ => hf - (intOf i).toNat)
  case atStart => exact ⟨0, C, by omega, rfl, ⟨H.out.1, H.out.2.1, fun i hi => by rw [H.out.2.2 i hi]; unfold swp; rw [if_neg (by omega)]⟩, World.grownBy.refl _ _⟩
  case round =>
    obtain ⟨k, D, hk, rfl, h1, h2⟩ := hrel
    have H1 := Lib.hid h1
    have H2 := Lib.hid h2
    clear h1 h2
    by_cases hlt : k < hf
    · have hkn : k < n - 1 - k := by have := HHF.out; omega
      obtain ⟨j, hj⟩ : ∃ j : Nat, (z : Int) - k = j := ⟨z - k, by have := HZ.out; omega⟩
      have hjz : j = n - 1 - k := by have := HZ.out; omega
      have b1 : (0 : Int) ≤ k ∧ (k : Int) < n := by omega
      obtain ⟨x, hx⟩ : ∃ x : Nat, x = swp n k f k := ⟨_, rfl⟩
      obtain ⟨y, hy⟩ : ∃ y : Nat, y = swp n k f j := ⟨_, rfl⟩
      have hkj : k ≠ j := by omega
      have c0 : wr.cell? ⟨g, k, none⟩ = some (.int .u8 (x : Nat)) := by rw [hx]; exact H1.out.cell k (by omega)
      have c1 : wr.cell? ⟨g, j, none⟩ = some (.int .u8 (y : Nat)) := by rw [hy]; exact H1.out.cell j (by omega)
      have d0 := H1.out.free k
      have d1 := H1.out.free j
      have S1 := H1.out.set k y
      have c2 : (wr.setCell ⟨g, k, none⟩ (.int .u8 (y : Nat))).drew.cell? ⟨g, j, none⟩ = some (.int .u8 (y : Nat)) := by
        have := S1.cell j (by omega)
        rw [if_neg (Ne.symm hkj), ← hy] at this
        exact this
      have d2 : (wr.setCell ⟨g, k, none⟩ (.int .u8 (y : Nat))).drew.frozen? ⟨g, j, none⟩ = false := S1.free j
      have hS := S1.set j x
      have HS := Lib.hid hS
      have HG := Lib.hid (grown_twice H2.out (grown_twice (grown_setCell wr g k (.int .u8 (y : Nat))) (grown_setCell _ g j (.int .u8 (x : Nat)))))
      clear S1 hS
      have b2 : (0 : Int) ≤ j ∧ (j : Int) < n := by omega
      have HJ := Lib.hid hjz
      have HX := Lib.hid hx
      have HY := Lib.hid hy
      have HK := Lib.hid hkn
      clear hjz hx hy hkn
      go_wp2_with fail
      go_region
      go_wp2_with fail
      go_roundw
      case rel =>
        refine ⟨k + 1, _, by have := HHF.out; omega, by go_num, HS.out.same rfl fun i hi => ?_, ⟨HG.out.os, HG.out.tape, HG.out.output, HG.out.size, HG.out.block⟩⟩
        have e1 : x = f k := by rw [HX.out]; unfold swp; rw [if_neg (by have := HK.out; omega)]
        have e2 : y = f j := by rw [HY.out]; unfold swp; rw [if_neg (by have := HK.out; have := HJ.out; omega)]
        have hJ := HJ.out
        have hK := HK.out
        rw [e1, e2]
        unfold swp
        by_cases q1 : i = j
        · rw [if_pos q1, if_pos (by omega), q1, hJ]
          congr 1
          omega
        · rw [if_neg q1]
          by_cases q2 : i = k
          · rw [if_pos q2, if_pos (by omega), q2, hJ]
          · rw [if_neg q2]
            by_cases q3 : i < k ∨ n - k ≤ i
            · rw [if_pos q3, if_pos (by omega)]
            · rw [if_neg q3, if_neg (by omega)]
      case measure => simp [intOf]; omega
    · obtain rfl : k = hf := by have := HHF.out; omega
      go_wp2_with fail
      go_end0
      refine ⟨rfl, ⟨D, H1.out.same rfl fun i hi => ?_⟩, H2.out⟩
      have := HHF.out
      unfold swp
      by_cases q : i < k ∨ n - k ≤ i
      · rw [if_pos q]
      · rw [if_neg q]
        congr 1
        omega
end Go.Proofs.Ytfkemphkhfhabaa
