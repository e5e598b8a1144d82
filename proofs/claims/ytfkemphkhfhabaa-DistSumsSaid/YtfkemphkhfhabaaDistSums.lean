/- DistSums, walked. -/
import Derived.Test.YtfkemphkhfhabaaDist14
namespace Go.Proofs.Ytfkemphkhfhabaa
open Go.RowKit

/-- Two distances lie in two blocks. -/
structure XY (w : World) (a b c d : Int) (w' : World) : Prop where
  x : Two w' w.heap.size (.int .u64 a) (.int .u64 b)
  y : Two w' (w.heap.size + 1) (.int .u64 c) (.int .u64 d)
  low : Below w.heap.size w w'
theorem XY.later {w w' w'' : World} {a b c d : Int} (h : XY w a b c d w') (hb : Below w'.heap.size w' w'') : XY w a b c d w'' := ⟨h.x.later hb h.x.lt, h.y.later hb h.y.lt, h.low.trans (hb.mono h.low.size)⟩
def way1 (a b c d : Int) : Int := if a < c ∨ a = c ∧ b < d then -1 else 0
def way2 (a b c d : Int) : Int := if c < a ∨ c = a ∧ d < b then 1 else way1 a b c d
theorem way2_eq (a b c d : Int) : dcmp a b c d = way2 a b c d := by
  unfold dcmp way2 way1
  by_cases h1 : a = c ∧ b = d
  · rw [if_pos h1, if_neg (by omega), if_neg (by omega)]
  · rw [if_neg h1]
    by_cases h2 : a < c ∨ a = c ∧ b < d
    · rw [if_pos h2, if_neg (by omega), if_pos h2]
    · rw [if_neg h2, if_pos (by omega)]
theorem Words.old {w : World} {p : Option Addr} {n c : Nat} {R : List Int} (h : Words w p n c R) : ∀ x, p = some x → n ≠ 0 → x.block < w.heap.size := fun x hp hn => by
  obtain ⟨g, o, hq, hx⟩ := h.cell 0 (by omega)
  rw [hp] at hq
  cases hq
  exact block_lt_of_cell hx
structure SF (w : World) (x1 x0 y1 y0 : Int) (p : Option Addr) (n c : Nat) (R : List Int) (g : Nat) (s1 s0 : Int) (w' : World) : Prop where
  xy : XY w x1 x0 y1 y0 w'
  sum : Two w' g (.int .u64 s1) (.int .u64 s0)
  words : Words w' p n c R
  old : ∀ x, p = some x → n ≠ 0 → x.block < w.heap.size
theorem SF.later {w w' w'' : World} {x1 x0 y1 y0 : Int} {p : Option Addr} {n c : Nat} {R : List Int} {g : Nat} {s1 s0 : Int} (h : SF w x1 x0 y1 y0 p n c R g s1 s0 w') (hb : Below w'.heap.size w' w'') : SF w x1 x0 y1 y0 p n c R g s1 s0 w'' :=
  ⟨h.xy.later hb, h.sum.later hb h.sum.lt, h.words.later hb, h.old⟩
theorem SF.store {w w' : World} {x1 x0 y1 y0 : Int} {p : Option Addr} {n c : Nat} {R : List Int} {g : Nat} {s1 s0 : Int} {g' : Nat} (h : SF w x1 x0 y1 y0 p n c R g s1 s0 w') (hg : w.heap.size + 1 < g ∧ g < g') (a b : Value) : SF w x1 x0 y1 y0 p n c R g s1 s0 ((w'.setCell ⟨g', 0, none⟩ a).setCell ⟨g', 1, none⟩ b) :=
  ⟨⟨h.xy.x.other (by omega) a b, h.xy.y.other (by omega) a b, Two.below h.xy.low (by omega) a b⟩, h.sum.other (by omega) a b,
    ⟨h.words.size, h.words.le, h.words.ok, h.words.at'.imp id fun ⟨k, o, hk, hx⟩ => ⟨k, o, hk, fun i hi => by
      have := hx i hi
      have hb := h.old _ hk (by rw [h.words.size]; omega)
      rw [World.cell?_of_block (w := w') (w' := (w'.setCell ⟨g', 0, none⟩ a).setCell ⟨g', 1, none⟩ b) (a := ⟨k, o + i, none⟩) (by rw [heap_setCell_other _ _ _ _ (by show k ≠ g'; simp only at hb; omega), heap_setCell_other _ _ _ _ (by show k ≠ g'; simp only at hb; omega)])]
      exact this⟩⟩, h.old⟩
/-- All that the last statement reads. -/
structure RS (w : World) (x1 x0 y1 y0 : Int) (p : Option Addr) (n c : Nat) (R : List Int) (g g' : Nat) (hi lo : Int) (w' : World) : Prop where
  sf : SF w x1 x0 y1 y0 p n c R g hi lo w'
  two : Two w' g' (.int .u64 hi) (.int .u64 lo)
theorem RS.later {w w' w'' : World} {x1 x0 y1 y0 : Int} {p : Option Addr} {n c : Nat} {R : List Int} {g g' : Nat} {hi lo : Int} (h : RS w x1 x0 y1 y0 p n c R g g' hi lo w') (hb : Below w'.heap.size w' w'') : RS w x1 x0 y1 y0 p n c R g g' hi lo w'' :=
  ⟨h.sf.later hb, h.two.later hb h.two.lt⟩
theorem RS.conj {w w' : World} {x1 x0 y1 y0 : Int} {p : Option Addr} {n c : Nat} {R : List Int} {g g' : Nat} {hi lo : Int} (h : RS w x1 x0 y1 y0 p n c R g g' hi lo w') :
    w'.cell? ⟨w.heap.size, 0, none⟩ = some (.int .u64 x1) ∧ w'.cell? ⟨w.heap.size, 1, none⟩ = some (.int .u64 x0) ∧ w'.cell? ⟨w.heap.size + 1, 0, none⟩ = some (.int .u64 y1) ∧ w'.cell? ⟨w.heap.size + 1, 1, none⟩ = some (.int .u64 y0) ∧ w'.cell? ⟨g, 0, none⟩ = some (.int .u64 hi) ∧ w'.cell? ⟨g, 1, none⟩ = some (.int .u64 lo) ∧ w'.cell? ⟨g', 0, none⟩ = some (.int .u64 hi) ∧ w'.cell? ⟨g', 1, none⟩ = some (.int .u64 lo) ∧ RS w x1 x0 y1 y0 p n c R g g' hi lo w' :=
  ⟨h.sf.xy.x.facts.1, h.sf.xy.x.facts.2.1, h.sf.xy.y.facts.1, h.sf.xy.y.facts.2.1, h.sf.sum.facts.1, h.sf.sum.facts.2.1, h.two.facts.1, h.two.facts.2.1, h⟩
theorem RS.of {w w' : World} {x1 x0 y1 y0 : Int} {p : Option Addr} {n c : Nat} {R : List Int} {g g' : Nat} {hi lo : Int}
    (h : w'.cell? ⟨w.heap.size, 0, none⟩ = some (.int .u64 x1) ∧ w'.cell? ⟨w.heap.size, 1, none⟩ = some (.int .u64 x0) ∧ w'.cell? ⟨w.heap.size + 1, 0, none⟩ = some (.int .u64 y1) ∧ w'.cell? ⟨w.heap.size + 1, 1, none⟩ = some (.int .u64 y0) ∧ w'.cell? ⟨g, 0, none⟩ = some (.int .u64 hi) ∧ w'.cell? ⟨g, 1, none⟩ = some (.int .u64 lo) ∧ w'.cell? ⟨g', 0, none⟩ = some (.int .u64 hi) ∧ w'.cell? ⟨g', 1, none⟩ = some (.int .u64 lo) ∧ RS w x1 x0 y1 y0 p n c R g g' hi lo w') : RS w x1 x0 y1 y0 p n c R g g' hi lo w' := h.2.2.2.2.2.2.2.2
theorem refsum_rs {w w' : World} {x1 x0 y1 y0 : Int} {p : Option Addr} {n c : Nat} {R : List Int} {g g' : Nat} {hi lo : Int} (hd : dV (tot (fun k => R.getD k 0) n) = .agg #[.int .u64 hi, .int .u64 lo]) (hn : n < 9223372036854775807)
    (h : RS w x1 x0 y1 y0 p n c R g g' hi lo w') : Calls Try.prog 16 #[.slice p n c] w' fun e w'' => e = .returned (.agg #[.int .u64 hi, .int .u64 lo]) ∧ RS w x1 x0 y1 y0 p n c R g g' hi lo w'' := by
  have := refsum_any p n c R w' h.sf.words hn
  rw [hd] at this
  exact this.mono fun e w'' ⟨h1, h2⟩ => ⟨h1, h.later h2⟩
def AgRel (w : World) (x1 x0 y1 y0 : Int) (p : Option Addr) (n c : Nat) (R : List Int) (g : Nat) (s1 s0 : Int) (g' : Nat) (i : Value) (wr : World) : Prop :=
  ∃ (k : Nat) (hi lo : Int), k ≤ n ∧ i = .int .i64 k ∧ dV (tot (fun k => R.getD k 0) k) = .agg #[.int .u64 hi, .int .u64 lo] ∧ Two wr g' (.int .u64 hi) (.int .u64 lo) ∧ SF w x1 x0 y1 y0 p n c R g s1 s0 wr
set_option maxRecDepth 100000 in
set_option maxHeartbeats 2000000 in
theorem sums_any (a b c : Int) (ha : -9223372036854775808 ≤ a ∧ a ≤ 9223372036854775807) (hb : -9223372036854775808 ≤ b ∧ b ≤ 9223372036854775807) (hc : -9223372036854775808 ≤ c ∧ c ≤ 9223372036854775807)
    (p : Option Addr) (n cp : Nat) (R : List Int) (x y : Nat) (w : World) (h : Words w p n cp R) (hn : n ≤ 9223372036854775807) :
    Calls Try.prog 3 #[.int .i64 a, .int .i64 b, .int .i64 c, .slice p n cp, dV x, dV y] w fun e w' => e = .returned (.bool true) ∧ Below w.heap.size w w' := by
  have H := Lib.hid h
  clear h
  obtain ⟨x1, x0, hx⟩ := dV_two (x : Nat)
  obtain ⟨y1, y0, hy⟩ := dV_two (y : Nat)
  rw [hx, hy]
  clear hx hy
  go_enter Try.func3, Try.ntmps3
  go_upto_region 1 with fail
  have t1 : Two (w.alloc (.cells #[.int .u64 x1, .int .u64 x0] 25)) w.heap.size (.int .u64 x1) (.int .u64 x0) := heap_alloc_new w _
  have hb1 : Below w.heap.size w (w.alloc (.cells #[.int .u64 x1, .int .u64 x0] 25)) := (Below.refl _ _).alloc (Nat.le_refl _) _
  have s1 : (w.alloc (.cells #[.int .u64 x1, .int .u64 x0] 25)).heap.size = w.heap.size + 1 := by simp
  generalize w.alloc (.cells #[.int .u64 x1, .int .u64 x0] 25) = w1 at *
  have t2 : Two (w1.alloc (.cells #[.int .u64 y1, .int .u64 y0] 25)) w1.heap.size (.int .u64 y1) (.int .u64 y0) := heap_alloc_new w1 _
  rw [s1] at t2
  have hb2 : Below w1.heap.size w1 (w1.alloc (.cells #[.int .u64 y1, .int .u64 y0] 25)) := (Below.refl _ _).alloc (Nat.le_refl _) _
  have hxy : XY w x1 x0 y1 y0 (w1.alloc (.cells #[.int .u64 y1, .int .u64 y0] 25)) := ⟨t1.later hb2 (by omega), t2, hb1.trans (hb2.mono (by omega))⟩
  generalize w1.alloc (.cells #[.int .u64 y1, .int .u64 y0] 25) = w2 at *
  have XY2 := Lib.hid hxy
  clear t1 t2 hb1 hb2 s1 hxy
  go_wp2_with fail
  refine (alive_any w2).mono ?_
  rintro e w3 ⟨rfl, hb3⟩
  have XY3 := Lib.hid (XY2.out.later hb3)
  clear hb3 XY2
  by_cases h1000 : 1000 < n
  · have g1 : (1000 : Int) < n := by omega
    go_wp2_with fail
    go_ret
    exact ⟨rfl, XY3.out.low⟩
  · have g1 : ¬ (1000 : Int) < n := by omega
    obtain ⟨c0, c1, _, _⟩ := XY3.out.x.facts
    obtain ⟨d0, d1, _, _⟩ := XY3.out.y.facts
    have L1 := fun w => less_any x1 x0 y1 y0 w
    have L2 := fun w => less_any y1 y0 x1 x0 w
    obtain ⟨B1, hB1⟩ : ∃ B, B = decide (x1 < y1 ∨ x1 = y1 ∧ x0 < y0) := ⟨_, rfl⟩
    obtain ⟨B2, hB2⟩ : ∃ B, B = decide (y1 < x1 ∨ y1 = x1 ∧ y0 < x0) := ⟨_, rfl⟩
    rw [← hB1] at L1
    rw [← hB2] at L2
    have HB1 := Lib.hid hB1
    have HB2 := Lib.hid hB2
    have HL1 := Lib.hid L1
    have HL2 := Lib.hid L2
    clear hB1 hB2 L1 L2
    go_upto_if 24 with (go_at_call 9; refine (HL1.out _).mono ?_; rintro e w4 ⟨rfl, hb4⟩; have XY4 := Lib.hid (XY3.out.later hb4); clear hb4)
    clear c0 c1 d0 d1
    go_cut [13] (fun s wx => s = .int .i64 (way1 x1 x0 y1 y0) ∧ wx = w4)
    case first =>
      cases B1 with
      | true =>
        have e : way1 x1 x0 y1 y0 = -1 := by unfold way1; rw [if_pos (of_decide_eq_true HB1.out.symm)]
        have E := Lib.hid e
        clear e
        go_wp2_with fail
        go_meet
        exact ⟨by rw [E.out], rfl⟩
      | false =>
        have e : way1 x1 x0 y1 y0 = 0 := by unfold way1; rw [if_neg (of_decide_eq_false HB1.out.symm)]
        have E := Lib.hid e
        clear e
        go_wp2_with fail
        go_meet
        exact ⟨by rw [E.out], rfl⟩
    case rest =>
      obtain ⟨rfl, rfl⟩ := hcut
      obtain ⟨v1, hv1⟩ : ∃ v, v = way1 x1 x0 y1 y0 := ⟨_, rfl⟩
      rw [← hv1]
      have HV1 := Lib.hid hv1
      clear hv1
      obtain ⟨c0, c1, _, _⟩ := XY4.out.x.facts
      obtain ⟨d0, d1, _, _⟩ := XY4.out.y.facts
      go_upto_if 27 with (go_at_call 9; refine (HL2.out _).mono ?_; rintro e w5 ⟨rfl, hb5⟩; have XY5 := Lib.hid (XY4.out.later hb5); clear hb5)
      clear c0 c1 d0 d1
      go_cut [13] (fun s wx => s = .int .i64 (dcmp x1 x0 y1 y0) ∧ wx = w5)
      case first =>
        have e := way2_eq x1 x0 y1 y0
        cases B2 with
        | true =>
          have e2 : way2 x1 x0 y1 y0 = 1 := by unfold way2; rw [if_pos (of_decide_eq_true HB2.out.symm)]
          have E := Lib.hid (e.trans e2)
          clear e e2
          go_wp2_with fail
          go_meet
          exact ⟨by rw [E.out], rfl⟩
        | false =>
          have e2 : way2 x1 x0 y1 y0 = way1 x1 x0 y1 y0 := by unfold way2; rw [if_neg (of_decide_eq_false HB2.out.symm)]
          have E := Lib.hid ((e.trans e2).trans HV1.out.symm)
          clear e e2
          go_wp2_with fail
          go_meet
          exact ⟨by rw [E.out], rfl⟩
      case rest =>
        obtain ⟨rfl, rfl⟩ := hcut
        have CM := fun w => cmp_any x1 x0 y1 y0 w
        obtain ⟨v2, hv2⟩ : ∃ v, v = dcmp x1 x0 y1 y0 := ⟨_, rfl⟩
        rw [← hv2] at CM ⊢
        have HCM := Lib.hid CM
        clear CM hv2
        go_wp2_with fail
        have hW5 := H.out.later XY5.out.low
        have W5 := Lib.hid hW5
        refine (sum_any p n cp R wc hW5 (by omega)).mono ?_
        rintro e w6 ⟨rfl, hb6⟩
        obtain ⟨s1, s0, hsd⟩ := dV_two (tot (fun k => R.getD k 0) n)
        rw [hsd]
        have HSD := Lib.hid hsd
        have XY6 := Lib.hid (XY5.out.later hb6)
        have W6 := Lib.hid (hW5.later hb6)
        clear hsd hb6 hW5 W5 XY5
        go_upto_region 11 with fail
        have t7 : Two (w6.alloc (.cells #[.int .u64 s1, .int .u64 s0] 25)) w6.heap.size (.int .u64 s1) (.int .u64 s0) := heap_alloc_new w6 _
        have hb7 : Below w6.heap.size w6 (w6.alloc (.cells #[.int .u64 s1, .int .u64 s0] 25)) := (Below.refl _ _).alloc (Nat.le_refl _) _
        have z7 : (w6.alloc (.cells #[.int .u64 s1, .int .u64 s0] 25)).heap.size = w6.heap.size + 1 := by simp
        generalize w6.alloc (.cells #[.int .u64 s1, .int .u64 s0] 25) = w7 at *
        go_upto_region 12 with fail
        have t8 := zero_two w7
        have hb8 : Below w7.heap.size w7 (w7.alloc (.cells #[.int .u64 0, .int .u64 0] 25)) := (Below.refl _ _).alloc (Nat.le_refl _) _
        generalize w7.alloc (.cells #[.int .u64 0, .int .u64 0] 25) = w8 at *
        have hlt6 : w.heap.size + 1 < w6.heap.size := XY6.out.y.lt
        obtain ⟨g14, hg14⟩ : ∃ g, g = w6.heap.size := ⟨_, rfl⟩
        obtain ⟨g15, hg15⟩ : ∃ g, g = w6.heap.size + 1 := ⟨_, rfl⟩
        have hG : w.heap.size + 1 < g14 ∧ g14 < g15 := by omega
        have SF8 := Lib.hid (show SF w x1 x0 y1 y0 p n cp R g14 s1 s0 w8 from ⟨(XY6.out.later hb7).later hb8, by rw [hg14]; exact t7.later hb8 (by omega), (W6.out.later hb7).later hb8, H.out.old⟩)
        have T8 := Lib.hid (show Two w8 g15 (.int .u64 0) (.int .u64 0) from by rw [hg15, ← z7]; exact t8)
        rw [← hg15, ← hg14]
        have HG := Lib.hid hG
        clear t7 hb7 z7 t8 hb8 hlt6 hg14 hg15 hG XY6 W6
        go_wp2_with fail
        go_loopw [16] (fun i wr => AgRel w x1 x0 y1 y0 p n cp R g14 s1 s0 g15 i wr) (fun i _ => n - (intOf i).toNat)
        case atStart => exact ⟨0, 0, 0, by omega, rfl, rfl, T8.out, SF8.out⟩
        case round =>
          obtain ⟨k, hi, lo, hk, rfl, hd, h1, h2⟩ := hrel
          have H1 := Lib.hid h1
          have H2 := Lib.hid h2
          have HDK := Lib.hid hd
          by_cases hlt : k < n
          · obtain ⟨hi2, lo2, hd2⟩ := dV_two (tot (fun k => R.getD k 0) (k + 1))
            have HD2 := Lib.hid hd2
            have A := fun w => add_any (tot (fun k => R.getD k 0) k) (R.getD k 0) (H2.out.words.get k hlt) w
            rw [show tot (fun k => R.getD k 0) k + R.getD k 0 = tot (fun k => R.getD k 0) (k + 1) from rfl, hd2, hd] at A
            obtain ⟨gx, o, rfl, hcx⟩ := H2.out.words.cell k hlt
            generalize R.getD k 0 = xk at A hcx
            have HA := Lib.hid A
            have b1 : (0 : Int) ≤ k ∧ (k : Int) < n := by omega
            obtain ⟨c0, c1, z0, z1⟩ := h1.facts
            clear h1 h2 hd hd2 A T8 SF8
            go_wp2_with fail
            go_region_law (go_simp; go_at_call 11; refine (HA.out _).mono ?_; rintro e w4 ⟨rfl, hb4⟩; have Y1 := Lib.hid (show Two w4 g15 (.int .u64 hi) (.int .u64 lo) from (hb4.block _ H1.out.lt).trans H1.out); have Y2 := Lib.hid (SF.later H2.out (below_of (w := wr) hb4 rfl rfl rfl rfl)); clear hb4; obtain ⟨y0, y1, y2, y3⟩ := Y1.out.facts)
            all_goals
              have T1 := Lib.hid (Two.set Y1.out (.int .u64 hi2) (.int .u64 lo2))
              have T2 := Lib.hid (SF.store Y2.out HG.out (.int .u64 hi2) (.int .u64 lo2))
              generalize (w4.setCell ⟨g15, 0, none⟩ (.int .u64 hi2)).setCell ⟨g15, 1, none⟩ (.int .u64 lo2) = W5 at *
              clear y0 y1 y2 y3 c0 c1 z0 z1 Y1 Y2 hcx
              go_wp2_with fail
              go_roundw
              case rel => exact ⟨k + 1, hi2, lo2, by omega, by go_num, HD2.out, T1.out, T2.out⟩
              case measure => simp [intOf]; omega
          · obtain rfl : k = n := by omega
            have hss : (hi, lo) = (s1, s0) := by
              have := HSD.out
              rw [hd] at this
              simpa using this
            obtain ⟨rfl, rfl⟩ : hi = s1 ∧ lo = s0 := by simpa using hss
            have ap := fun w => apart_any a b ha hb w
            have rap := fun w => refapart_any a b ha hb w
            have gp := fun w => gap_any a b c ha hb hc w
            have rgp := fun w => refgap_any a b c ha hb hc w
            generalize apart a b = z1 at *
            generalize gap a b c = z2 at *
            have q1 : ∀ w', (binOp .eql 25 (.agg #[.int .u64 hi, .int .u64 lo]) (.agg #[.int .u64 hi, .int .u64 lo])).run Try.prog w' = .ok (.bool true) w' := fun w' => by
              have := dist_eql hi lo hi lo w'
              simpa using this
            have hR : RS w x1 x0 y1 y0 p k cp R g14 g15 hi lo wr := ⟨h2, h1⟩
            have HR := Lib.hid hR
            have HAP := Lib.hid ap
            have HRAP := Lib.hid rap
            have HGP := Lib.hid gp
            have HRGP := Lib.hid rgp
            have RSM := Lib.hid (fun w' (hw : RS w x1 x0 y1 y0 p k cp R g14 g15 hi lo w') => refsum_rs HDK.out (by omega) hw)
            clear h1 h2 hd hss ap rap gp rgp hR T8 SF8
            go_upto_region 16 with fail
            go_region_held3 (fun w' => w'.cell? ⟨w.heap.size, 0, none⟩ = some (.int .u64 x1) ∧ w'.cell? ⟨w.heap.size, 1, none⟩ = some (.int .u64 x0) ∧ w'.cell? ⟨w.heap.size + 1, 0, none⟩ = some (.int .u64 y1) ∧ w'.cell? ⟨w.heap.size + 1, 1, none⟩ = some (.int .u64 y0) ∧ w'.cell? ⟨g14, 0, none⟩ = some (.int .u64 hi) ∧ w'.cell? ⟨g14, 1, none⟩ = some (.int .u64 lo) ∧ w'.cell? ⟨g15, 0, none⟩ = some (.int .u64 hi) ∧ w'.cell? ⟨g15, 1, none⟩ = some (.int .u64 lo) ∧ RS w x1 x0 y1 y0 p k cp R g14 g15 hi lo w') (first | assumption | exact RS.conj HR.out | exact RS.conj (HR.out.later (Below.drew (Below.refl _ _)))) ((first
              | (go_at_call 12; refine (HAP.out _).mono ?_; rintro _ w5 ⟨rfl, rfl⟩)
              | (go_at_call 13; refine (HRAP.out _).mono ?_; rintro _ w5 ⟨rfl, rfl⟩)
              | (go_at_call 14; refine (HGP.out _).mono ?_; rintro _ w5 ⟨rfl, rfl⟩)
              | (go_at_call 15; refine (HRGP.out _).mono ?_; rintro _ w5 ⟨rfl, rfl⟩)
              | (go_at_call 16; refine (RSM.out _ (RS.of (by assumption))).mono ?_; rintro _ w5 ⟨rfl, hrs5⟩; have hcs5 := RS.conj hrs5)
              | (go_at_call 17; refine (HCM.out _).mono ?_; rintro _ w5 ⟨rfl, hb5⟩; have hcs5 := RS.conj (RS.later (RS.of (by assumption)) hb5))))
            all_goals
              go_wp2_with fail
              go_ret
              exact ⟨rfl, (RS.of hcs5).sf.xy.low⟩
end Go.Proofs.Ytfkemphkhfhabaa
