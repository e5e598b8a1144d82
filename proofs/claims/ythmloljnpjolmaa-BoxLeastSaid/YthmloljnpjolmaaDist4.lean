/- dist.points, dist.together over whatever function of the sides. -/
import Derived.Test.YthmloljnpjolmaaDist3
namespace Go.Proofs.Ythmloljnpjolmaa
open Go.RowKit

set_option maxRecDepth 100000 in
theorem points_any (p q : Option Addr) (n c m d : Nat) (w : World) :
    Calls Try.prog 60 #[.slice p n c, .slice q m d] w fun e w' => e = .returned (.bool (decide (1 ≤ n ∧ n ≤ 8 ∧ n = m))) ∧ w' = w := by
  by_cases h1 : 1 ≤ n
  · have g1 : (1 : Int) ≤ n := by omega
    by_cases h2 : n ≤ 8
    · have g2 : (n : Int) ≤ 8 := by omega
      by_cases h3 : n = m
      · subst h3
        go_enter Try.func60, Try.ntmps60
        go_wp2_with fail
        go_ret
        refine ⟨?_, rfl⟩
        simp [h1, h2]
        done
      · have g3 : ((n : Int) == m) = false := by simp; omega
        go_enter Try.func60, Try.ntmps60
        go_wp2_with fail
        go_ret
        refine ⟨?_, rfl⟩
        simp [h3]
        done
    · have g2 : ¬ (n : Int) ≤ 8 := by omega
      go_enter Try.func60, Try.ntmps60
      go_wp2_with fail
      go_ret
      refine ⟨?_, rfl⟩
      simp [h2]
      done
  · have g1 : ¬ (1 : Int) ≤ n := by omega
    go_enter Try.func60, Try.ntmps60
    go_wp2_with fail
    go_ret
    refine ⟨?_, rfl⟩
    simp [h1]
    done
/-- The sides, all together. -/
def tot (f : Nat → Int) : Nat → Int
  | 0 => 0
  | k + 1 => tot f k + f k
/-- A block of two cells. -/
def Two (w : World) (g : Nat) (a b : Value) : Prop := w.heap[g]? = some (.cells #[a, b] 37 (0, 0))
theorem Two.facts {w : World} {g : Nat} {a b : Value} (h : Two w g a b) : w.cell? ⟨g, 0, none⟩ = some a ∧ w.cell? ⟨g, 1, none⟩ = some b ∧ w.frozen? ⟨g, 0, none⟩ = false ∧ w.frozen? ⟨g, 1, none⟩ = false :=
  ⟨cell_of_row w g 0 _ _ _ h, cell_of_row w g 1 _ _ _ h, frozen_of_row w g 0 _ _ h, frozen_of_row w g 1 _ _ h⟩
theorem Two.set {w : World} {g : Nat} {a b : Value} (h : Two w g a b) (x y : Value) : Two ((w.setCell ⟨g, 0, none⟩ x).setCell ⟨g, 1, none⟩ y) g x y :=
  heap_setCell_same _ g 1 _ _ y (heap_setCell_same w g 0 _ _ x h)
theorem Two.other {w : World} {g k : Nat} {a b : Value} (h : Two w g a b) (hk : g ≠ k) (x y : Value) : Two ((w.setCell ⟨k, 0, none⟩ x).setCell ⟨k, 1, none⟩ y) g a b := by
  unfold Two at h ⊢
  rw [heap_setCell_other _ _ _ _ (by exact hk), heap_setCell_other _ _ _ _ (by exact hk)]
  exact h
theorem Two.lt {w : World} {g : Nat} {a b : Value} (h : Two w g a b) : g < w.heap.size := (Array.getElem?_eq_some_iff.1 h).1
theorem Two.later {w w' : World} {g : Nat} {a b : Value} (h : Two w g a b) {n : Nat} (hb : Below n w w') (hn : g < n) : Two w' g a b := (hb.block _ hn).trans h
theorem Two.below {B : Nat} {a w : World} (h : Below B a w) {g : Nat} (hg : B ≤ g) (x y : Value) : Below B a ((w.setCell ⟨g, 0, none⟩ x).setCell ⟨g, 1, none⟩ y) := (h.setCell (p := ⟨g, 0, none⟩) hg x).setCell (p := ⟨g, 1, none⟩) hg y
theorem dV_two (n : Int) : ∃ hi lo : Int, dV n = .agg #[.int .u64 hi, .int .u64 lo] := ⟨_, _, rfl⟩
theorem ret_two {fn : Func} {P : Ending → World → Prop} (p : Tmp) (hr : fn.results = #[.cell p 37]) {tmps : Array Value} {w : World} (g : Nat) (a b : Value)
    (hp : tmps.getD p undef = .pointer (some ⟨g, 0, none⟩)) (hg : Two w g a b) (h : P (.returned (.agg #[a, b])) w) : bodyPost Try.prog fn P .ret ⟨tmps, []⟩ w := by
  obtain ⟨r0, r1, _, _⟩ := hg.facts
  refine bodyPost_ret (a := ⟨tmps, []⟩) (v := .agg #[a, b]) ?_ rfl h
  have hp' : tmps[p]?.getD undef = .pointer (some ⟨g, 0, none⟩) := by simpa using hp
  simp [results, hr, hp', go_sem, r0, r1]
theorem tot_succ (f : Nat → Int) (k : Nat) : tot f (k + 1) = tot f k + f k := rfl
/-- What the function of a side tells, and that it turns nothing. -/
def Side (w : World) (n : Nat) (f : Nat → Int) (F : Nat) (cap : Array Value) : Prop :=
  ∀ (k : Nat) (w' : World), k < n → Below w.heap.size w w' → Calls Try.prog F (#[.int .i64 k] ++ cap) w' fun e w'' => e = .returned (.int .u64 (f k)) ∧ ∃ j, w'' = w'.drewN j
def TogRel (w : World) (f : Nat → Int) (n : Nat) (i : Value) (wr : World) : Prop :=
  ∃ (k : Nat) (hi lo : Int), k ≤ n ∧ i = .int .i64 k ∧ dV (tot f k) = .agg #[.int .u64 hi, .int .u64 lo] ∧ Two wr (w.heap.size + 1) (.int .u64 hi) (.int .u64 lo) ∧ Two wr w.heap.size (.int .u64 0) (.int .u64 0) ∧ Below w.heap.size w wr
set_option maxRecDepth 100000 in
set_option maxHeartbeats 1000000 in
theorem together_any (n : Nat) (hn : n < 9223372036854775807) (f : Nat → Int) (hf : ∀ k, k < n → 0 ≤ f k ∧ f k < 18446744073709551616) (F : Nat) (cap : Array Value) (hF : ∀ args w, (callFunc F args).run Try.prog w = .ok (.enter F args) w) (w : World) (hs : Side w n f F cap) :
    Calls Try.prog 61 #[.int .i64 n, .func (.func F) #[] cap] w fun e w' => e = .returned (dV (tot f n)) ∧ Below w.heap.size w w' := by
  have HS := Lib.hid hs
  have HF := Lib.hid hf
  clear hs hf
  go_enter Try.func61, Try.ntmps61
  go_wp2_with fail
  go_loopw [8] (fun i wr => TogRel w f n i wr) (fun i _ => n - (intOf i).toNat)
  case atStart =>
    refine ⟨0, 0, 0, by omega, rfl, rfl, ?_, ?_, ((Below.refl _ _).alloc (Nat.le_refl _) _).alloc (by simp) _⟩
    · have := heap_alloc_new (w.alloc (.cells #[.int .u64 0, .int .u64 0] 37)) (.cells #[.int .u64 0, .int .u64 0] 37)
      rw [show (w.alloc (.cells #[.int .u64 0, .int .u64 0] 37)).heap.size = w.heap.size + 1 from by simp] at this
      exact this
    · exact (((Below.refl _ _).alloc (Nat.le_refl _) _).block _ (by simp)).trans (heap_alloc_new w _)
  case round =>
    obtain ⟨k, hi, lo, hk, rfl, hd, h1, h2, h3⟩ := hrel
    have H1 := Lib.hid h1
    have H2 := Lib.hid h2
    have H3 := Lib.hid h3
    have HD := Lib.hid hd
    by_cases hlt : k < n
    · obtain ⟨hi2, lo2, hd2⟩ := dV_two (tot f (k + 1))
      have HD2 := Lib.hid hd2
      have A := fun w => add_any (tot f k) (f k) (HF.out k hlt) w
      have S := fun w' => HS.out k w' hlt
      rw [← tot_succ, hd2, hd] at A
      generalize f k = x at A S
      have HA := Lib.hid A
      have HSS := Lib.hid S
      obtain ⟨c0, c1, z0, z1⟩ := h1.facts
      clear h1 h2 h3 hd hd2 A S
      go_wp2_with fail
      go_region_law (go_simp; first
        | (go_at_call 67; refine (HA.out _).mono ?_; rintro e w4 ⟨rfl, hb4⟩; have Y1 := Lib.hid (show Two w4 (w.heap.size + 1) (.int .u64 hi) (.int .u64 lo) from (hb4.block _ H1.out.lt).trans H1.out); have Y2 := Lib.hid (show Two w4 w.heap.size (.int .u64 0) (.int .u64 0) from (hb4.block _ H2.out.lt).trans H2.out); have Y3 := Lib.hid (H3.out.trans ((below_of (w := wr) hb4 rfl rfl rfl rfl).mono H3.out.size)); clear hb4; obtain ⟨y0, y1, y2, y3⟩ := Y1.out.facts)
        | (refine (HSS.out _ (by first | exact H3.out | exact H3.out.drew)).mono ?_; rintro e w'' ⟨rfl, j, rfl⟩; (try have cj0 : (wr.drew.drewN j).cell? ⟨w.heap.size + 1, 0, none⟩ = some (.int .u64 hi) := c0); (try have cj1 : (wr.drew.drewN j).cell? ⟨w.heap.size + 1, 1, none⟩ = some (.int .u64 lo) := c1)))
      all_goals
        have t1 := Two.set Y1.out (.int .u64 hi2) (.int .u64 lo2)
        have t2 := Two.other Y2.out (k := w.heap.size + 1) (by omega) (.int .u64 hi2) (.int .u64 lo2)
        have t3 := Two.below (g := w.heap.size + 1) Y3.out (by omega) (.int .u64 hi2) (.int .u64 lo2)
        generalize (w4.setCell ⟨w.heap.size + 1, 0, none⟩ (.int .u64 hi2)).setCell ⟨w.heap.size + 1, 1, none⟩ (.int .u64 lo2) = W5 at *
        have T1 := Lib.hid t1
        have T2 := Lib.hid t2
        have T3 := Lib.hid t3
        clear t1 t2 t3 y0 y1 y2 y3 c0 c1 z0 z1 Y1 Y2 Y3
        go_wp2_with fail
        go_roundw
        case rel => exact ⟨k + 1, hi2, lo2, by omega, by go_num, HD2.out, T1.out, T2.out, T3.out⟩
        case measure => simp [intOf]; omega
    · obtain rfl : k = n := by omega
      obtain ⟨c0, c1, _, _⟩ := h1.facts
      obtain ⟨_, _, z0, z1⟩ := h2.facts
      clear h1 h2 h3 hd
      go_wp2_with fail
      have t1 := Two.set H2.out (.int .u64 hi) (.int .u64 lo)
      have t3 := Two.below (g := w.heap.size) H3.out (Nat.le_refl _) (.int .u64 hi) (.int .u64 lo)
      generalize (wr.setCell ⟨w.heap.size, 0, none⟩ (.int .u64 hi)).setCell ⟨w.heap.size, 1, none⟩ (.int .u64 lo) = W5 at *
      rw [HD.out]
      exact ret_two 4 rfl w.heap.size _ _ rfl t1 ⟨rfl, t3⟩
end Go.Proofs.Ythmloljnpjolmaa
