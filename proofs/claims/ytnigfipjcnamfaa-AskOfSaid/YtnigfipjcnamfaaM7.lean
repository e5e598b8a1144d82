/- AkAlive, BoxRefHas, AkROf, AkRRight, BoxPair, BoxHoldsMath, BoxMeets, AkKIn, AkOpenFn, AkTwo, AkCut, BoxMake, BoxHullR, BoxCut, AkCutAll, AkROpen. -/
import Derived.Test.YtnigfipjcnamfaaM6
import Derived.BigRegion
import Derived.Laws.OwnMore
import Derived.BigQuiet
import Derived.Lib.MinMax
/- indenturelaw14.alive: the chapter's examples stand. -/
namespace Go.Proofs.Ytnigfipjcnamfaa.Ak
open Go.RowKit

theorem of_ex {R S A : List Int} {n m : Nat} {kd cl : Int} {an : Nat} {lim : Int} {cnt : Bool} {L : List Rw} {w w' : World} {e : Ending} (h : OfPost R S n m kd cl A an lim cnt L w e w') (hr : rightQ R S n m kd cl an lim cnt n = true) (hn : ∀ t ∈ L, t.n = n) (l : List (List Int)) (hl : nums L = l) :
    ∃ q c M, e = .returned (.tuple #[.agg #[.slice q (List.length M) c, .int .i64 (ansC R S cnt l)], .int .i64 0]) ∧ RowsIn w' q M.length c M ∧ nums M = ansR R S kd cl A an lim cnt l ∧ Below w.heap.size w w' := by
  unfold OfPost at h
  rw [if_pos ⟨hr, hn⟩, hl] at h
  exact h
set_option maxRecDepth 100000 in
set_option maxHeartbeats 4000000 in
theorem alive_any (w : World) :
    Calls Try.prog 5 #[] w fun e w' => e = .returned (.bool true) ∧ Below w.heap.size w w' := by
  go_enter Try.func5, Try.ntmps5
  go_upto_region 2 with fail
  obtain ⟨w1, hw1⟩ : ∃ w1, w1 = ((((w.alloc (.cells #[.int .i64 1, .int .i64 5] 2)).alloc (.cells #[.int .i64 2, .int .i64 3] 2)).alloc (.cells #[.int .i64 3, .int .i64 9] 2)).alloc (.cells #[.slice (some ⟨w.heap.size, 0, none⟩) 2 2, .slice (some ⟨w.heap.size + 1, 0, none⟩) 2 2, .slice (some ⟨w.heap.size + 1 + 1, 0, none⟩) 2 2] 23)) := ⟨_, rfl⟩
  obtain ⟨hl1, B1⟩ := list3 w 1 5 2 3 3 9 (by omega) (by omega) (by omega) (by omega) (by omega) (by omega) w1 hw1
  rw [← hw1]
  clear hw1
  obtain ⟨L, hL⟩ : ∃ L, L = [row2 w.heap.size 1 5, row2 (w.heap.size + 1) 2 3, row2 (w.heap.size + 1 + 1) 3 9] := ⟨_, rfl⟩
  rw [← hL] at hl1
  have HNL := Lib.hid (show nums L = ex3 from by rw [hL]; rfl)
  have HN2 := Lib.hid (show ∀ t ∈ L, t.n = 2 from fun t ht => by
    rw [hL] at ht
    simp only [List.mem_cons, List.not_mem_nil, or_false] at ht
    rcases ht with rfl | rfl | rfl <;> rfl)
  clear hL
  generalize w.heap.size + 1 + 1 + 1 = gl at *
  have HL1 := Lib.hid hl1
  have HB1 := Lib.hid B1
  clear hl1 B1
  go_upto_region 3 with fail
  obtain ⟨w2, hw2⟩ : ∃ w2, w2 = ((w1.alloc (.cells #[.int .i64 (-9223372036854775808), .int .i64 (-9223372036854775808)] 2)).alloc (.cells #[.int .i64 9223372036854775807, .int .i64 9223372036854775807] 2)).alloc (.cells #[.slice (some ⟨w1.heap.size, 0, none⟩) 2 2, .slice (some ⟨w1.heap.size + 1, 0, none⟩) 2 2] 25) := ⟨_, rfl⟩
  obtain ⟨h2, B2⟩ := litbox w1 (-9223372036854775808) (-9223372036854775808) 9223372036854775807 9223372036854775807 (by omega) (by omega) (by omega) (by omega) w2 hw2
  rw [← hw2]
  clear hw2
  have HX2 := Lib.hid (show BoxIn w2 (w1.heap.size + 1 + 1) _ _ 2 2 2 2 lo2 hi2 from ⟨h2.2.2, h2.1, h2.2.1⟩)
  have HL2 := Lib.hid (HL1.out.later B2)
  have HB2 := Lib.hid (HB1.out.trans (B2.mono HB1.out.size))
  clear h2 B2 HL1 HB1
  generalize w1.heap.size + 1 + 1 = gx at *
  generalize w1.heap.size + 1 = gh at *
  generalize w1.heap.size = go at *
  clear w1
  obtain ⟨x0, x1, -, -⟩ := HX2.out.bx.facts
  have H1 := Lib.hid (of_any (some ⟨gl, 0, none⟩) _ _ none 3 3 2 2 2 2 0 0 L lo2 hi2 [] 2 1 2 false w2 HL2.out HX2.out.i1 HX2.out.i2 (nil_ints w2) (by omega) (by omega))
  go_wp2_with fail
  refine H1.out.mono ?_
  intro e3 w3 hp3
  obtain ⟨q3, c3, M3, rfl, hm3, hn3, hb3⟩ := of_ex hp3 ex_r1 HN2.out ex3 HNL.out
  rw [ex_a1] at hn3
  rw [show ansC lo2 hi2 false ex3 = 0 from rfl]
  have HX3 := Lib.hid (HX2.out.later hb3)
  have HL3 := Lib.hid (HL2.out.later hb3)
  have HB3 := Lib.hid (HB2.out.trans (hb3.mono HB2.out.size))
  have HM3 := Lib.hid hm3
  have HN3 := Lib.hid hn3
  clear hp3 hm3 hn3 hb3 HX2 HL2 HB2 H1 x0 x1
  clear w2
  go_upto_region 4 with fail
  have b4 : Below w3.heap.size w3 (w3.alloc (.cells #[.slice q3 M3.length c3, .int .i64 (0 : Nat)] 34)) := (Below.refl _ _).alloc (Nat.le_refl _) _
  have a4 := ans_new w3 (.slice q3 M3.length c3) (.int .i64 (0 : Nat))
  generalize w3.alloc (.cells #[.slice q3 M3.length c3, .int .i64 (0 : Nat)] 34) = w4 at *
  obtain ⟨g1, hg1⟩ : ∃ g1, g1 = w3.heap.size := ⟨_, rfl⟩
  rw [← hg1] at a4 ⊢
  have HX4 := Lib.hid (HX3.out.later b4)
  have HL4 := Lib.hid (HL3.out.later b4)
  have HB4 := Lib.hid (HB3.out.trans (b4.mono HB3.out.size))
  have HM4 := Lib.hid (HM3.out.later b4)
  have HA4 := Lib.hid a4
  clear b4 a4 HX3 HL3 HB3 HM3 hg1
  clear w3
  have L5 := Lib.hid (lits w4 1 4 3 9 (by omega) (by omega) (by omega) (by omega) _ rfl)
  have H5 := Lib.hid (of_any (some ⟨gl, 0, none⟩) _ _ none 3 3 2 2 2 2 0 0 L [1, 4] [3, 9] [] 0 0 0 true _ (HL4.out.later L5.out.2.2.1) L5.out.1 L5.out.2.1 (nil_ints _) (by omega) (by omega))
  go_wp2_with ((go_at_call 8; (with_reducible refine H5.out.mono ?_)))
  intro e5 w5 hp5
  obtain ⟨q5, c5, M5, rfl, hm5, hn5, hb5⟩ := of_ex hp5 ex_r2 HN2.out ex3 HNL.out
  rw [ex_c2]
  have hb5' : Below w4.heap.size w4 w5 := L5.out.2.2.1.trans (hb5.mono L5.out.2.2.1.size)
  have HX5 := Lib.hid (HX4.out.later hb5')
  have HL5 := Lib.hid (HL4.out.later hb5')
  have HB5 := Lib.hid (HB4.out.trans (hb5'.mono HB4.out.size))
  have HM5 := Lib.hid (HM4.out.later hb5')
  have HA5 := Lib.hid (HA4.out.later hb5')
  clear hp5 hm5 hn5 hb5 hb5' HX4 HL4 HB4 HM4 HA4 H5 L5
  generalize w4.heap.size + 1 = ga at *
  generalize w4.heap.size = gb at *
  clear w4
  go_upto_region 5 with fail
  have b6 : Below w5.heap.size w5 (w5.alloc (.cells #[.slice q5 M5.length c5, .int .i64 (2 : Nat)] 34)) := (Below.refl _ _).alloc (Nat.le_refl _) _
  have a6 := ans_new w5 (.slice q5 M5.length c5) (.int .i64 (2 : Nat))
  generalize w5.alloc (.cells #[.slice q5 M5.length c5, .int .i64 (2 : Nat)] 34) = w6 at *
  obtain ⟨g2, hg2⟩ : ∃ g2, g2 = w5.heap.size := ⟨_, rfl⟩
  rw [← hg2] at a6 ⊢
  have HX6 := Lib.hid (HX5.out.later b6)
  have HL6 := Lib.hid (HL5.out.later b6)
  have HB6 := Lib.hid (HB5.out.trans (b6.mono HB5.out.size))
  have HM6 := Lib.hid (HM5.out.later b6)
  have HA6 := Lib.hid (HA5.out.later b6)
  have HC6 := Lib.hid a6
  clear b6 a6 HX5 HL5 HB5 HM5 HA5 hg2
  clear w5
  obtain ⟨x0, x1, -, -⟩ := HX6.out.bx.facts
  have b7 : Below w6.heap.size w6 (w6.alloc (.cells #[.int .i64 4] 2)) := (Below.refl _ _).alloc (Nat.le_refl _) _
  have B7 := Lib.hid b7
  have H7 := Lib.hid (of_any (some ⟨gl, 0, none⟩) _ _ _ 3 3 2 2 2 2 1 1 L lo2 hi2 [4] 3 0 1 false _ (HL6.out.later b7) (HX6.out.i1.later b7) (HX6.out.i2.later b7) (lit1 w6 4 (by omega)) (by omega) (by omega))
  clear b7
  go_wp2_with ((go_at_call 8; (with_reducible refine H7.out.mono ?_)))
  intro e8 w8 hp8
  obtain ⟨q8, c8, M8, rfl, hm8, hn8, hb8⟩ := of_ex hp8 ex_r3 HN2.out ex3 HNL.out
  rw [ex_a3] at hn8
  rw [show ansC lo2 hi2 false ex3 = 0 from rfl]
  have hb8' : Below w6.heap.size w6 w8 := B7.out.trans (hb8.mono B7.out.size)
  have HB8 := Lib.hid (HB6.out.trans (hb8'.mono HB6.out.size))
  have HM8 := Lib.hid (HM6.out.later hb8')
  have HA8 := Lib.hid (HA6.out.later hb8')
  have HC8 := Lib.hid (HC6.out.later hb8')
  have HK8 := Lib.hid hm8
  have HN8 := Lib.hid hn8
  clear hp8 hm8 hn8 hb8 hb8' HX6 HL6 HB6 HM6 HA6 HC6 H7 B7 x0 x1
  generalize w6.heap.size = gc at *
  clear w6
  go_upto_region 6 with fail
  have b9 : Below w8.heap.size w8 (w8.alloc (.cells #[.slice q8 M8.length c8, .int .i64 (0 : Nat)] 34)) := (Below.refl _ _).alloc (Nat.le_refl _) _
  have a9 := ans_new w8 (.slice q8 M8.length c8) (.int .i64 (0 : Nat))
  generalize w8.alloc (.cells #[.slice q8 M8.length c8, .int .i64 (0 : Nat)] 34) = w9 at *
  obtain ⟨g3, hg3⟩ : ∃ g3, g3 = w8.heap.size := ⟨_, rfl⟩
  rw [← hg3] at a9 ⊢
  have HB9 := Lib.hid (HB8.out.trans (b9.mono HB8.out.size))
  have HM9 := Lib.hid (HM8.out.later b9)
  have HA9 := Lib.hid (HA8.out.later b9)
  have HC9 := Lib.hid (HC8.out.later b9)
  have HK9 := Lib.hid (HK8.out.later b9)
  have HD9 := Lib.hid a9
  clear b9 a9 HB8 HM8 HA8 HC8 HK8 hg3
  clear w8
  obtain ⟨x0, x1, -, -⟩ := HA9.out.facts
  obtain ⟨x2, x3, -, -⟩ := HC9.out.facts
  obtain ⟨x4, x5, -, -⟩ := HD9.out.facts
  have L10 := Lib.hid (list2 w9 3 9 1 5 (by omega) (by omega) (by omega) (by omega))
  have H10 := Lib.hid (samerows_any q3 _ _ c3 _ _ M3 _ _ (HM9.out.later L10.out.2) L10.out.1 (by have := congrArg List.length HN3.out; rw [nums_length] at this; rw [this]; decide))
  rw [show decide (nums M3 = nums [row2 w9.heap.size 3 9, row2 (w9.heap.size + 1) 1 5]) = true from decide_eq_true HN3.out] at H10
  go_wp2_with ((go_at_call 17; (with_reducible refine H10.out.mono ?_)))
  rintro _ w11 ⟨rfl, j11, hw11⟩
  have hb11 : Below w9.heap.size w9 w11 := by rw [hw11]; exact Below.drewN L10.out.2 _
  have HB11 := Lib.hid (HB9.out.trans (hb11.mono HB9.out.size))
  have HC11 := Lib.hid (HC9.out.later hb11)
  have HD11 := Lib.hid (HD9.out.later hb11)
  have HK11 := Lib.hid (HK9.out.later hb11)
  clear hb11 hw11 HB9 HC9 HD9 HK9 HA9 HM9 H10 L10 x0 x1 x2 x3 x4 x5
  generalize w9.heap.size + 1 + 1 = gd at *
  generalize w9.heap.size + 1 = ge at *
  generalize w9.heap.size = gf at *
  clear w9
  obtain ⟨x2, x3, -, -⟩ := HC11.out.facts
  obtain ⟨x4, x5, -, -⟩ := HD11.out.facts
  have L12 := Lib.hid (list1 w11 1 5 (by omega) (by omega))
  have H12 := Lib.hid (samerows_any q8 _ _ c8 _ _ M8 _ _ (HK11.out.later L12.out.2) L12.out.1 (by have := congrArg List.length HN8.out; rw [nums_length] at this; rw [this]; decide))
  rw [show decide (nums M8 = nums [row2 w11.heap.size 1 5]) = true from decide_eq_true HN8.out] at H12
  go_wp2_with ((go_at_call 17; (with_reducible refine H12.out.mono ?_)))
  rintro _ w13 ⟨rfl, j13, hw13⟩
  have hb13 : Below w11.heap.size w11 w13 := by rw [hw13]; exact Below.drewN L12.out.2 _
  have HB13 := Lib.hid (HB11.out.trans (hb13.mono HB11.out.size))
  clear hb13 hw13
  go_wp2_with fail
  go_ret
  exact ⟨rfl, HB13.out⟩
end Go.Proofs.Ytnigfipjcnamfaa.Ak

/- indentureref04.Has. -/
namespace Go.Proofs.Ytnigfipjcnamfaa
open Go.RowKit

def HasRel (w1 : World) (R S P : List Int) (n : Nat) (i : Value) (wr : World) : Prop := ∃ k j : Nat, k ≤ n ∧ i = .int .i64 k ∧ les R P k = true ∧ les P S k = true ∧ wr = w1.drewN j
set_option maxRecDepth 100000 in
set_option maxHeartbeats 1000000 in
theorem refhas_any (p q s : Option Addr) (n c m e l f : Nat) (R S P : List Int) (w : World) (h : Ints w p n c R) (h2 : Ints w q m e S) (h3 : Ints w s l f P) :
    Calls Try.prog 15 #[.agg #[.slice p n c, .slice q m e], .slice s l f] w fun e w' => e = .returned (.bool (hasB R S P n m l)) ∧ Below w.heap.size w w' := by
  have hb : Below w.heap.size w (w.alloc (.cells #[.slice p n c, .slice q m e] 25)) := (Below.refl _ _).alloc (Nat.le_refl _) _
  obtain ⟨e0, e1⟩ := pair_alloc w (.slice p n c) (.slice q m e) 25
  have H1 := Lib.hid (h.later hb)
  have H2 := Lib.hid (h2.later hb)
  have H3 := Lib.hid (h3.later hb)
  have HB := Lib.hid hb
  clear h h2 h3 hb
  go_enter Try.func15, Try.ntmps15
  go_upto_region 1 with fail
  have hs0 : w.heap.size < (w.alloc (.cells #[.slice p n c, .slice q m e] 25)).heap.size := by simp
  generalize w.alloc (.cells #[.slice p n c, .slice q m e] 25) = w0 at *
  have HS0 := Lib.hid hs0
  clear hs0
  go_wp2_with fail
  refine (refright_any p q n c m e R S l w0 H1.out H2.out).mono ?_
  rintro _ w1 ⟨rfl, hb1⟩
  have f0 := (hb1.cell (p := ⟨w.heap.size, 0, none⟩) HS0.out).trans e0
  have f1 := (hb1.cell (p := ⟨w.heap.size, 1, none⟩) HS0.out).trans e1
  have G1 := Lib.hid (H1.out.later hb1)
  have G2 := Lib.hid (H2.out.later hb1)
  have G3 := Lib.hid (H3.out.later hb1)
  have B1 := Lib.hid (HB.out.trans (hb1.mono HB.out.size))
  clear hb1 e0 e1 H1 H2 H3 HB HS0
  by_cases hr : rightB R S n m l = true
  case neg =>
    have hr0 : rightB R S n m l = false := by simpa using hr
    have HH := Lib.hid (hasB_not (P := P) hr0)
    rw [hr0]
    clear hr hr0
    go_wp2_with fail
    go_ret
    exact ⟨congrArg (fun b => Ending.returned (.bool b)) HH.out.symm, B1.out⟩
  obtain ⟨d1, d2, d3, d4⟩ := rightB_dims hr
  have HH := Lib.hid (hasB_right (P := P) hr)
  rw [hr]
  obtain rfl : n = l := by omega
  obtain rfl : m = n := by omega
  clear hr d3 d4
  go_wp2_with fail
  go_loopw [5] (fun i wr => HasRel w1 R S P m i wr) (fun i _ => m - (intOf i).toNat)
  case atStart => exact ⟨0, 0, by omega, rfl, rfl, rfl, rfl⟩
  case round =>
    obtain ⟨k, j, hk, rfl, hl1, hl2, rfl⟩ := hrel
    have HL1 := Lib.hid hl1
    have HL2 := Lib.hid hl2
    clear hl1 hl2
    by_cases hlt : k < m
    · obtain ⟨gx, o, rfl, hcx⟩ := G1.out.cell k hlt
      obtain ⟨gy, o2, rfl, hcy⟩ := G2.out.cell k hlt
      obtain ⟨gz, o3, rfl, hcz⟩ := G3.out.cell k hlt
      have i1 : (0 : Int) ≤ k ∧ (k : Int) < m := by omega
      have s1 : les R P (k + 1) = (les R P k && decide (R.getD k 0 ≤ P.getD k 0)) := rfl
      have s2 : les P S (k + 1) = (les P S k && decide (P.getD k 0 ≤ S.getD k 0)) := rfl
      have HS1 := Lib.hid s1
      have HS2 := Lib.hid s2
      have HF1 := Lib.hid (fun h => les_false (R := R) (S := P) hlt h)
      have HF2 := Lib.hid (fun h => les_false (R := P) (S := S) hlt h)
      clear s1 s2
      generalize R.getD k 0 = x at *
      generalize S.getD k 0 = y at *
      generalize P.getD k 0 = z at *
      by_cases hzx : z < x
      · have HZ := Lib.hid (HF1.out (by omega))
        go_upto_region 6 with fail
        go_quiet (fail)
        go_wp2_with fail
        go_ret
        exact ⟨congrArg (fun b => Ending.returned (.bool b)) (by rw [HH.out, HZ.out]; rfl), Below.drewN B1.out _⟩
      · by_cases hyz : y < z
        · have HZ := Lib.hid (HF2.out (by omega))
          go_upto_region 6 with fail
          go_quiet (fail)
          go_wp2_with fail
          go_ret
          exact ⟨congrArg (fun b => Ending.returned (.bool b)) (by rw [HH.out, HZ.out, Bool.and_false]), Below.drewN B1.out _⟩
        · go_upto_region 6 with fail
          go_quiet (fail)
          go_wp2_with fail
          go_roundw
          case rel => exact ⟨k + 1, j + nq, by omega, by go_num, by rw [HS1.out, HL1.out, decide_eq_true (by omega)]; rfl, by rw [HS2.out, HL2.out, decide_eq_true (by omega)]; rfl, rfl⟩
          case measure => simp [intOf]; omega
    · obtain rfl : k = m := by omega
      go_wp2_with fail
      go_ret
      exact ⟨congrArg (fun b => Ending.returned (.bool b)) (by rw [HH.out, HL1.out, HL2.out]; rfl), Below.drewN B1.out _⟩
end Go.Proofs.Ytnigfipjcnamfaa

/- indentureref14.Of. gen_ak.py writes it. -/
namespace Go.Proofs.Ytnigfipjcnamfaa.Ak
open Go.RowKit

/-- The answer's store leaves rows that lie elsewhere. -/
theorem rows_kept {w0 w : World} {g n c : Nat} {q : Option Addr} {M : List Rw} (h : RowsIn w q n c M) (ha : AnsAt w g (.slice none 0 0) (.int .i64 0)) (hok : ∀ t ∈ M, t.Ok w0) (hpos : ∀ t ∈ M, 0 < t.n) (hb : Below w0.heap.size w0 w) (hg : w0.heap.size ≤ g) (x y : Value) : RowsIn ((w.setCell ⟨g, 0, none⟩ x).setCell ⟨g, 1, none⟩ y) q n c M := by
  refine ⟨h.size, h.le, fun t ht => (hok t ht).later (ans_below hb hg x y), ?_⟩
  by_cases hM : M = []
  · exact Or.inl hM
  · rcases h.at' with h0 | ⟨b, o, hp, hx⟩
    · exact absurd h0 hM
    · refine Or.inr ⟨b, o, hp, fun i hi => ?_⟩
      have hne : b ≠ g := fun e => by
        subst e
        have h0 : 0 < M.length := List.length_pos_iff.2 hM
        have h1 := hx 0 h0
        rw [cell_of_row w b (o + 0) _ _ _ ha] at h1
        have hm : M.getD 0 default ∈ M := by
          rw [List.getD_eq_getElem?_getD, List.getElem?_eq_getElem h0]
          exact List.getElem_mem h0
        have hp := hpos _ hm
        generalize M.getD 0 default = t0 at *
        match o, h1 with
        | 0, h1 =>
          simp [Rw.val] at h1
          obtain ⟨-, h2, -⟩ := h1
          omega
        | 1, h1 => simp [Rw.val] at h1
        | k + 2, h1 => simp at h1
      rw [World.cell?_setCell_other _ _ _ _ (fun e => hne (congrArg Addr.block e).symm), World.cell?_setCell_other _ _ _ _ (fun e => hne (congrArg Addr.block e).symm)]
      exact hx i hi
def RofRel (w3 : World) (R S : List Int) (N : Nat) (L : List Rw) (v i : Value) (wr : World) : Prop :=
  ∃ k : Nat, k ≤ N ∧ i = .int .i64 k ∧ wr.ownsRow w3.heap.size 23 1 v ((L.take k).filter fun t => keepB R S t.R).length (rvs ((L.take k).filter fun t => keepB R S t.R)) ∧ Below w3.heap.size w3 wr
/-- What the document's Of tells. -/
def ROfPost (R S : List Int) (kd cl : Int) (A : List Int) (an : Nat) (lim : Int) (cnt : Bool) (L : List Rw) (w : World) (e : Ending) (w' : World) : Prop :=
  ∃ q c M, e = .returned (.agg #[.slice q (List.length M) c, .int .i64 (ansC R S cnt (nums L))]) ∧ RowsIn w' q M.length c M ∧ nums M = ansR R S kd cl A an lim cnt (nums L) ∧ Below w.heap.size w w'
theorem take_filter_next {R S : List Int} {L : List Rw} {k : Nat} (h : k < L.length) : ((L.take (k + 1)).filter fun t => keepB R S t.R) = ((L.take k).filter fun t => keepB R S t.R) ++ (if keepB R S (L.getD k default).R = true then [L.getD k default] else []) := by
  rw [take_nextR L k h, List.filter_append]
  congr 1
  split
  · rw [List.filter_cons_of_pos (by assumption)]; rfl
  · rw [List.filter_cons_of_neg (by assumption)]; rfl
theorem rsort_good {kd cl : Int} {q p : Option Addr} {an ac c n : Nat} {A : List Int} {L : List Rw} {w : World} (hA : Ints w q an ac A) (hL : RowsIn w p L.length c L) (hn : L.length ≤ 100) (hg : ∀ t ∈ L, ordP kd cl an t.n ∧ t.n = n) :
    Calls Try.prog 28 #[.agg #[.int .u8 kd, .int .i64 cl, .slice q an ac], .slice p L.length c] w fun e w' => ∃ q' c' M, e = .returned (.slice q' L.length c') ∧ RowsIn w' q' L.length c' M ∧ nums M = sortN kd cl A an (nums L) ∧ (∀ t ∈ M, t ∈ L) ∧ Below w.heap.size w w' := by
  have hm : ∀ k, k < L.length → L.getD k default ∈ L := fun k hk => by
    rw [List.getD_eq_getElem?_getD, List.getElem?_eq_getElem hk]
    exact List.getElem_mem hk
  have hgr : ∀ k, k < L.length → goodRow kd cl an L k := fun k hk => ⟨(hg _ (hm k hk)).1, (hg _ (hm k hk)).2.trans (hg _ (hm 0 (by omega))).2.symm⟩
  refine (refsort_any kd cl q p an ac L.length c A L w hA hL hn).mono ?_
  rintro e w' hp
  unfold RSortPost at hp
  rw [if_pos hgr] at hp
  obtain ⟨q', c', rfl, hr, hb⟩ := hp
  refine ⟨q', c', _, rfl, hr, sortN_rows kd cl A an L (rows_len hL), fun t ht => ?_, hb⟩
  simp only [rowsOf, List.mem_map] at ht
  obtain ⟨j, hj, rfl⟩ := ht
  exact hm j (St.refS_mem hj)
set_option maxRecDepth 100000 in
set_option maxHeartbeats 4000000 in
theorem rof_any (pl p q a : Option Addr) (N cp n c m e an ac : Nat) (L : List Rw) (R S A : List Int) (kd cl lim : Int) (cnt : Bool) (w : World) (hL : RowsIn w pl N cp L) (hR : Ints w p n c R) (hS : Ints w q m e S) (hA : Ints w a an ac A) (hN : N ≤ 100) (hgood : rightQ R S n m kd cl an lim cnt n = true ∧ ∀ t ∈ L, t.n = n) :
    Calls Try.prog 10 #[.slice pl N cp, .agg #[.slice p n c, .slice q m e, .int .u8 kd, .int .i64 cl, .slice a an ac, .int .i64 lim, .bool cnt]] w (ROfPost R S kd cl A an lim cnt L w) := by
  obtain ⟨i23, hi, hi0, hi1, hi2⟩ := info_parts I23x
  have HI0 := Lib.hid hi
  have HI1 := Lib.hid hi0
  have HI2 := Lib.hid hi1
  have HI3 := Lib.hid hi2
  clear hi hi0 hi1 hi2
  have HG := Lib.hid hgood
  have HLW := Lib.hid hL
  clear hgood
  have hq := q_in (kd := kd) (cl := cl) (lim := lim) (cnt := cnt) hR hS hA
  obtain ⟨g, hg⟩ : ∃ g, g = w.heap.size := ⟨_, rfl⟩
  go_enter Try.func10, Try.ntmps10
  go_upto_region 1 with fail
  have s1 : (w.alloc (.cells #[.slice p n c, .slice q m e, .int .u8 kd, .int .i64 cl, .slice a an ac, .int .i64 lim, .bool cnt] 29)).heap.size = w.heap.size + 1 := by simp
  generalize w.alloc (.cells #[.slice p n c, .slice q m e, .int .u8 kd, .int .i64 cl, .slice a an ac, .int .i64 lim, .bool cnt] 29) = w1 at *
  have b2 : Below w1.heap.size w1 (w1.alloc (.cells #[.slice none 0 0, .int .i64 0] 34)) := (Below.refl _ _).alloc (Nat.le_refl _) _
  have a2 := ans_new w1 (.slice none 0 0) (.int .i64 0)
  generalize w1.alloc (.cells #[.slice none 0 0, .int .i64 0] 34) = w3 at *
  have hq2 := hq.later b2
  rw [s1] at a2
  have hgw : w.heap.size ≤ g := by rw [hg]; exact Nat.le_refl _
  rw [← hg] at hq2 a2 ⊢
  have HQ := Lib.hid hq2
  have HA := Lib.hid a2
  clear hq b2 s1 hR hS hA hL hq2 a2 hg w1
  go_wp2_with fail
  go_loopw [5, 6] (fun v i wr => RofRel w3 R S N L v i wr) (fun _ i _ => N - (intOf i).toNat)
  case atStart => exact ⟨0, by omega, rfl, World.ownsRow_nil w3 _ _ _, Below.refl _ _⟩
  case round =>
    obtain ⟨k, hk, rfl, ho, hb⟩ := hrel
    have HQR := Lib.hid (HQ.out.later hb)
    have HLR := Lib.hid (HLW.out.later HQR.out.below)
    have HB := Lib.hid hb
    have HO := Lib.hid ho
    clear ho hb
    by_cases hlt : k < N
    · obtain ⟨gL, oL, rfl, hck, hok⟩ := HLR.out.cell k hlt
      have hlen : k < L.length := by rw [← HLR.out.size]; exact hlt
      have hlm : L.getD k default ∈ L := by
        rw [List.getD_eq_getElem?_getD, List.getElem?_eq_getElem hlen]
        exact List.getElem_mem hlen
      have HTN := Lib.hid (take_filter_next (R := R) (S := S) hlen)
      have hkb : hasB R S (L.getD k default).R n m (L.getD k default).n = keepB R S (L.getD k default).R := by
        unfold keepB
        rw [HQR.out.lo.size, HQR.out.hi.size, hok.ints.size]
      have hfl : ((L.take k).filter fun t => keepB R S t.R).length ≤ k := Nat.le_trans (List.length_filter_le _ _) (by rw [List.length_take]; omega)
      have HFL := Lib.hid hfl
      have i1 : (0 : Int) ≤ k ∧ (k : Int) < N := by omega
      obtain ⟨FK, hFK⟩ : ∃ FK, FK = (L.take k).filter fun t => keepB R S t.R := ⟨_, rfl⟩
      rw [← hFK] at HO HTN HFL
      clear hlm hlen hfl hFK
      generalize L.getD k default = t at *
      obtain ⟨tp, tn, tc, tR⟩ := t
      unfold Rw.val at hck
      simp only at hck hkb HTN
      obtain ⟨x0, x1, -⟩ := HQR.out.cells
      have HF := Lib.hid (show ∀ w', Below wr.heap.size wr w' → (w'.cell? ⟨g, 0, none⟩ = some (.slice p n c) ∧ w'.cell? ⟨g, 1, none⟩ = some (.slice q m e) ∧ w'.cell? ⟨gL, oL + k, none⟩ = some (.slice tp tn tc)) from fun w' hb => ⟨(hb.cell (p := ⟨g, 0, none⟩) (block_lt_of_cell x0)).trans x0, (hb.cell (p := ⟨g, 1, none⟩) (block_lt_of_cell x1)).trans x1, (hb.cell (p := ⟨gL, oL + k, none⟩) (block_lt_of_cell hck)).trans hck⟩)
      have H := Lib.hid (show ∀ w', Below wr.heap.size wr w' → Calls Try.prog 15 #[.agg #[.slice p n c, .slice q m e], .slice tp tn tc] w' fun e w'' => e = .returned (.bool (keepB R S tR)) ∧ Below wr.heap.size wr w'' from fun w' hb => (refhas_any p q tp n c m e tn tc R S tR w' (HQR.out.lo.later hb) (HQR.out.hi.later hb) (hok.ints.later hb)).mono fun e w'' h => ⟨by rw [← hkb]; exact h.1, hb.trans (h.2.mono hb.size)⟩)
      clear hok hkb x0 x1
      generalize keepB R S tR = kb at *
      go_upto_region 5 with fail
      refine wp_region_held_drew (S := fun w' => Below wr.heap.size wr w') (by kernel_rfl) (Below.refl _ _).drew (fun hHeld => ?_)
      refine wpAnyH_take (i := 0) (oi := ⟨some 14, .fieldAddr 29 (.tmp 3) 0, _, _, _, _⟩) (v := ?_) rfl (by kernel_rfl) (by kernel_rfl) (by kernel_rfl) (fun _ _ _ h => h) (Or.inl ⟨by rfl, ?_⟩) (by assumption) ?_
      rotate_left
      · intro w' hSw
        obtain ⟨y0, y1, yk⟩ := HF.out _ hSw
        go_simp
        try with_reducible rfl
      try simp only [Act.put, List.setIfInBounds_toArray, List.set_cons_zero, List.set_cons_succ]
      refine wpAnyH_take (i := 2) (oi := ⟨some 16, .move (.tmp 0), _, _, _, _⟩) (v := ?_) rfl (by kernel_rfl) (by kernel_rfl) (by kernel_rfl) (fun _ _ _ h => h) (Or.inl ⟨by rfl, ?_⟩) (by assumption) ?_
      rotate_left
      · intro w' hSw
        obtain ⟨y0, y1, yk⟩ := HF.out _ hSw
        go_simp
        try with_reducible rfl
      try simp only [Act.put, List.setIfInBounds_toArray, List.set_cons_zero, List.set_cons_succ]
      refine wpAnyH_take (i := 3) (oi := ⟨some 17, .move (.tmp 6), _, _, _, _⟩) (v := ?_) rfl (by kernel_rfl) (by kernel_rfl) (by kernel_rfl) (fun _ _ _ h => h) (Or.inl ⟨by rfl, ?_⟩) (by assumption) ?_
      rotate_left
      · intro w' hSw
        obtain ⟨y0, y1, yk⟩ := HF.out _ hSw
        go_simp
        try with_reducible rfl
      try simp only [Act.put, List.setIfInBounds_toArray, List.set_cons_zero, List.set_cons_succ]
      refine wpAnyH_take (i := 1) (oi := ⟨some 15, .load 25 (.tmp 14), _, _, _, _⟩) (v := ?_) rfl (by kernel_rfl) (by kernel_rfl) (by kernel_rfl) (fun _ _ _ h => h) (Or.inl ⟨by rfl, ?_⟩) (by assumption) ?_
      rotate_left
      · intro w' hSw
        obtain ⟨y0, y1, yk⟩ := HF.out _ hSw
        go_simp
        try with_reducible rfl
      try simp only [Act.put, List.setIfInBounds_toArray, List.set_cons_zero, List.set_cons_succ]
      refine wpAnyH_take (i := 4) (oi := ⟨some 18, .indexAddr 30 (.tmp 16) (.tmp 17), _, _, _, _⟩) (v := ?_) rfl (by kernel_rfl) (by kernel_rfl) (by kernel_rfl) (fun _ _ _ h => h) (Or.inl ⟨by rfl, ?_⟩) (by assumption) ?_
      rotate_left
      · intro w' hSw
        obtain ⟨y0, y1, yk⟩ := HF.out _ hSw
        go_simp
        try with_reducible rfl
      try simp only [Act.put, List.setIfInBounds_toArray, List.set_cons_zero, List.set_cons_succ]
      refine wpAnyH_take (i := 5) (oi := ⟨some 19, .load 23 (.tmp 18), _, _, _, _⟩) (v := ?_) rfl (by kernel_rfl) (by kernel_rfl) (by kernel_rfl) (fun _ _ _ h => h) (Or.inl ⟨by rfl, ?_⟩) (by assumption) ?_
      rotate_left
      · intro w' hSw
        obtain ⟨y0, y1, yk⟩ := HF.out _ hSw
        go_simp
        try with_reducible rfl
      try simp only [Act.put, List.setIfInBounds_toArray, List.set_cons_zero, List.set_cons_succ]
      refine wpAnyH_ready (rs := [6]) (by kernel_rfl) (by simp) ?_
      refine AllReadyH.cons (o := ⟨some 20, .call ⟨.value (.func 15), #[.tmp 15, .tmp 19], #[25, 23]⟩, _, _, _, _⟩) rfl (fun K hK => ?_) AllReadyH.nil
      go_simp
      refine (H.out _ hHeld).mono ?_
      rintro _ w5 ⟨rfl, hb5⟩
      try go_wp2_with fail
      refine hK.out _ _ hb5 (fun hHeld => ?_)
      clear hK K
      try simp only [Act.put, List.setIfInBounds_toArray, List.set_cons_zero, List.set_cons_succ]
      refine wpAnyH_done (by kernel_rfl) ?_ _
      obtain ⟨y0, y1, yk⟩ := HF.out _ hHeld
      have hbh := hHeld
      clear HF H
      have HB5 := Lib.hid (HB.out.trans (hbh.mono HB.out.size))
      have HS5 := Lib.hid HB.out.size
      have HO5 := Lib.hid (ownsR_later HO.out hbh)
      clear hHeld hbh
      cases kb with
      | false =>
        have HE := Lib.hid (show ((L.take (k + 1)).filter fun t => keepB R S t.R) = FK from by rw [HTN.out, if_neg (by simp), List.append_nil])
        go_wp2_with fail
        go_roundw
        case rel => exact ⟨k + 1, by omega, by go_num, by rw [HE.out]; exact HO5.out, HB5.out⟩
        case measure => simp [intOf]; omega
      | true =>
        have HE := Lib.hid (show ((L.take (k + 1)).filter fun t => keepB R S t.R) = FK ++ [⟨tp, tn, tc, tR⟩] from by rw [HTN.out, if_pos rfl])
        have hfl := HFL.out
        go_wp2_with (at_builtin; refine wpList_append_own_at _ (by rfl) (.tmp 21) (.tmp 26) 30 (by rfl) w3.heap.size 23 i23 (.slice none 0 0) 1 24 U52 HI0.out HI1.out HI2.out HI3.out (by rfl) (by decide) _ FK.length _ (by rfl) (HO5.out.alloc _) ⟨w5.heap.size, 0, none⟩ 1 1 (rvs [⟨tp, tn, tc, tR⟩]) (by rfl) (by rfl) (rv_new rfl w5) (rvs_one _) (by unfold maxLen; omega) (by omega) (by have h1 := HB5.out.size; simp; omega) ?_; intro v28 w28 hown28 hgrow28 _ hat28; have O28 := Lib.hid hown28; have G28 := Lib.hid hgrow28; clear hown28 hgrow28 hat28)
        have hb28 : Below w3.heap.size w3 w28 := (HB5.out.alloc HB5.out.size _).grown G28.out (by have h1 := HB5.out.size; simp; omega) (fun i hi => ((HO5.out.alloc (.cells #[.slice tp tn tc] 23)).lt i hi).1)
        have ho28 : w28.ownsRow w3.heap.size 23 1 v28 (FK ++ [(⟨tp, tn, tc, tR⟩ : Rw)]).length (rvs (FK ++ [(⟨tp, tn, tc, tR⟩ : Rw)])) := by rw [rvs_append, List.length_append]; exact O28.out
        have HO28 := Lib.hid ho28
        have HB28 := Lib.hid hb28
        clear ho28 hb28
        go_roundw
        case rel => exact ⟨k + 1, by omega, by go_num, by rw [HE.out]; exact HO28.out, HB28.out⟩
        case measure => simp [intOf]; omega
    · obtain rfl : k = N := by omega
      have hLF : ((L.take k).filter fun t => keepB R S t.R) = L.filter fun t => keepB R S t.R := by rw [List.take_of_length_le (by rw [← HLR.out.size]; exact Nat.le_refl _)]
      have ho := HO.out
      rw [hLF] at ho
      obtain ⟨LF, hLF2⟩ : ∃ LF, LF = L.filter fun t => keepB R S t.R := ⟨_, rfl⟩
      rw [← hLF2] at ho
      have HMEM := Lib.hid (show ∀ t ∈ LF, t ∈ L from fun t ht => (List.mem_filter.1 (hLF2 ▸ ht)).1)
      have HNF := Lib.hid (show nums LF = (nums L).filter (keepB R S) from by rw [hLF2]; exact nums_filter _ L)
      have hlf : LF.length ≤ 100 := by
        rw [hLF2]
        exact Nat.le_trans (List.length_filter_le _ _) (by rw [← HLR.out.size]; exact hN)
      obtain ⟨qO, cO, rfl, hin⟩ := rowsIn_of_rvs ho (fun t ht => HLR.out.each t (HMEM.out t ht))
      have HIN := Lib.hid hin
      have HAR0 := Lib.hid (HA.out.later HB.out)
      clear ho hLF hLF2 hin HO HA
      obtain ⟨x0, x1, x2, x3, x4, x5, x6⟩ := HQR.out.cells
      obtain ⟨y0, y1, z0, z1⟩ := HAR0.out.facts
      cases cnt with
      | true =>
        have HAC := Lib.hid (show ansC R S true (nums L) = LF.length from by unfold ansC; rw [if_pos rfl, ← HNF.out, nums_length])
        go_wp2_with fail
        refine ret_ans 4 rfl (g + 1) _ _ rfl (HAR0.out.set _ _) ?_
        unfold ROfPost
        rw [HAC.out]
        exact ⟨none, 0, [], rfl, ⟨rfl, Nat.zero_le _, fun t h => absurd h (by simp), Or.inl rfl⟩, rfl, ans_below HQR.out.below (by omega) _ _⟩
      | false =>
        obtain ⟨hg1, hg2⟩ := HG.out
        have hord := rightQ_ord hg1
        have hpos := (rightB_dims (rightQ_box hg1)).1
        have HSO := Lib.hid (rsort_good (kd := kd) (cl := cl) (n := n) HQR.out.at' HIN.out hlf (fun t ht => ⟨by rw [hg2 t (HMEM.out t ht)]; exact hord.1, hg2 t (HMEM.out t ht)⟩))
        have HAC := Lib.hid (show ansC R S false (nums L) = 0 from rfl)
        have HARR := Lib.hid (show ansR R S kd cl A an lim false (nums L) = cutL lim (sortN kd cl A an (nums LF)) from by unfold ansR; rw [if_neg (by simp), HNF.out])
        have HTP := Lib.hid (show ∀ t ∈ LF, t.Ok w ∧ 0 < t.n from fun t ht => ⟨HLW.out.each t (HMEM.out t ht), by rw [hg2 t (HMEM.out t ht)]; omega⟩)
        obtain ⟨-, hl1, hl2⟩ := hord
        clear hg1 hg2 hpos
        go_wp2_with fail
        refine HSO.out.mono ?_
        rintro _ w8 ⟨q8, c8, M, rfl, hl8, hn8, hm8, hb8⟩
        have HQ8 := Lib.hid (HQR.out.later hb8)
        have HA8 := Lib.hid (HAR0.out.later hb8)
        have HL8 := Lib.hid hl8
        have HN8 := Lib.hid hn8
        have HM8 := Lib.hid (show ∀ t ∈ M, t.Ok w ∧ 0 < t.n from fun t ht => HTP.out t (hm8 t ht))
        have hlm : LF.length = M.length := hl8.size
        rw [hlm] at HL8 hlf ⊢
        clear hl8 hn8 hm8 hb8 hlm HSO x0 x1 x2 x3 x4 x5 x6 y0 y1 z0 z1
        obtain ⟨x0, x1, x2, x3, x4, x5, x6⟩ := HQ8.out.cells
        obtain ⟨y0, y1, z0, z1⟩ := HA8.out.facts
        have hle8 := HL8.out.le
        by_cases hlim : lim = -1
        · have HCU := Lib.hid (show nums M = ansR R S kd cl A an lim false (nums L) from by rw [HARR.out, HN8.out]; unfold cutL; rw [if_pos hlim])
          have q1 : ¬ 0 ≤ lim := by omega
          clear hlim
          go_wp2_with fail
          refine ret_ans 4 rfl (g + 1) _ _ rfl (HA8.out.set _ _) ?_
          unfold ROfPost
          rw [HAC.out]
          exact ⟨q8, c8, M, rfl, rows_kept HL8.out HA8.out (fun t ht => (HM8.out t ht).1) (fun t ht => (HM8.out t ht).2) HQ8.out.below (by omega) _ _, HCU.out, ans_below HQ8.out.below (by omega) _ _⟩
        · obtain ⟨j, rfl⟩ : ∃ j : Nat, lim = j := ⟨lim.toNat, by omega⟩
          have hcu : ∀ k, k = min j M.length → nums (M.take k) = ansR R S kd cl A an j false (nums L) := fun k hk => by
            rw [HARR.out, ← HN8.out, nums_take]
            unfold cutL
            rw [if_neg hlim, hk, Int.toNat_natCast, ← nums_length M, List.take_eq_take_min, List.take_eq_take_min (i := j)]
            congr 1
            omega
          have HCU := Lib.hid hcu
          have q1 : (0 : Int) ≤ j := by omega
          clear hlim hl1 hl2 hcu
          by_cases hjm : j < M.length
          · have HF := Lib.hid (rowsIn_take HL8.out j (by omega))
            have HLJ := Lib.hid (show (M.take j).length = j by rw [List.length_take]; omega)
            have e0 : (j : Int) < (M.length : Int) := by omega
            have e2 : (j : Int) ≤ (c8 : Int) := by omega
            have e3 : j ≤ c8 := by omega
            go_wp2_with fail
            refine ret_ans 4 rfl (g + 1) _ _ rfl (HA8.out.set _ _) ?_
            unfold ROfPost
            rw [HAC.out]
            exact ⟨q8, c8, M.take j, by rw [HLJ.out]; rfl, by rw [HLJ.out]; exact rows_kept HF.out HA8.out (fun t ht => (HM8.out t (List.mem_of_mem_take ht)).1) (fun t ht => (HM8.out t (List.mem_of_mem_take ht)).2) HQ8.out.below (by omega) _ _, HCU.out j (by omega), ans_below HQ8.out.below (by omega) _ _⟩
          · have HCM := Lib.hid (show nums M = ansR R S kd cl A an j false (nums L) from by
              have := HCU.out M.length (by omega)
              rwa [List.take_of_length_le (Nat.le_refl _)] at this)
            have e0 : ¬ (j : Int) < (M.length : Int) := by omega
            clear HCU
            go_wp2_with fail
            refine ret_ans 4 rfl (g + 1) _ _ rfl (HA8.out.set _ _) ?_
            unfold ROfPost
            rw [HAC.out]
            exact ⟨q8, c8, M, rfl, rows_kept HL8.out HA8.out (fun t ht => (HM8.out t ht).1) (fun t ht => (HM8.out t ht).2) HQ8.out.below (by omega) _ _, HCM.out, ans_below HQ8.out.below (by omega) _ _⟩
end Go.Proofs.Ytnigfipjcnamfaa.Ak

/- indentureref14.Right. -/
namespace Go.Proofs.Ytnigfipjcnamfaa.Ak
open Go.RowKit

set_option maxRecDepth 100000 in
set_option maxHeartbeats 1000000 in
theorem rright_any (p q a : Option Addr) (n c m e an ac : Nat) (R S A : List Int) (kd cl lim : Int) (cnt : Bool) (d : Int) (w : World) (hR : Ints w p n c R) (hS : Ints w q m e S) (hA : Ints w a an ac A) :
    Calls Try.prog 7 #[.agg #[.slice p n c, .slice q m e, .int .u8 kd, .int .i64 cl, .slice a an ac, .int .i64 lim, .bool cnt], .int .i64 d] w fun e w' => e = .returned (.bool (rightQ R S n m kd cl an lim cnt d)) ∧ Below w.heap.size w w' := by
  have hq := q_in (kd := kd) (cl := cl) (lim := lim) (cnt := cnt) hR hS hA
  obtain ⟨g, hg⟩ : ∃ g, g = w.heap.size := ⟨_, rfl⟩
  go_enter Try.func7, Try.ntmps7
  go_upto_region 1 with fail
  rw [← hg] at hq ⊢
  generalize w.alloc (.cells #[.slice p n c, .slice q m e, .int .u8 kd, .int .i64 cl, .slice a an ac, .int .i64 lim, .bool cnt] 29) = w1 at *
  have HQ := Lib.hid hq
  clear hR hS hA hq hg
  obtain ⟨x0, x1, -⟩ := HQ.out.cells
  go_wp2_with fail
  refine (refright_any p q n c m e R S d w1 HQ.out.lo HQ.out.hi).mono ?_
  rintro _ w2 ⟨rfl, hb2⟩
  have HQ2 := Lib.hid (HQ.out.later hb2)
  clear hb2 HQ x0 x1
  obtain ⟨-, -, x2, x3, x4, x5, x6⟩ := HQ2.out.cells
  cases hr : rightB R S n m d with
  | false =>
    have HV := Lib.hid (show rightQ R S n m kd cl an lim cnt d = false from by unfold rightQ; rw [hr, Bool.false_and])
    clear hr
    go_wp2_with fail
    go_ret
    exact ⟨congrArg (fun b => Ending.returned (.bool b)) HV.out.symm, HQ2.out.below⟩
  | true =>
    have HV := Lib.hid (show rightQ R S n m kd cl an lim cnt d = if cnt = true then decide (kd = 0 ∧ cl = 0 ∧ (an : Int) = 0 ∧ lim = 0) else decide (ordP kd cl an d) && decide (-1 ≤ lim ∧ lim ≤ 1000) from by unfold rightQ; rw [hr, Bool.true_and])
    clear hr
    cases cnt with
    | true =>
      have HV2 := Lib.hid (HV.out.trans (if_pos rfl))
      clear HV
      by_cases h4 : lim = 0
      · subst h4
        by_cases h1 : kd = 0
        · subst h1
          by_cases h2 : cl = 0
          · subst h2
            by_cases h3 : (an : Int) = 0
            · have q3 : ((an : Int) == 0) = true := by simpa using h3
              have HE := Lib.hid (HV2.out.trans (decide_eq_true ⟨rfl, rfl, h3, rfl⟩))
              clear h3
              go_wp2_with fail
              go_ret
              exact ⟨congrArg (fun b => Ending.returned (.bool b)) HE.out.symm, HQ2.out.below⟩
            · have q3 : ((an : Int) == 0) = false := by simpa using h3
              have HE := Lib.hid (HV2.out.trans (decide_eq_false (fun h => h3 h.2.2.1)))
              clear h3
              go_wp2_with fail
              go_ret
              exact ⟨congrArg (fun b => Ending.returned (.bool b)) HE.out.symm, HQ2.out.below⟩
          · have q2 : (cl == 0) = false := by simpa using h2
            have HE := Lib.hid (HV2.out.trans (decide_eq_false (fun h => h2 h.2.1)))
            clear h2
            go_wp2_with fail
            go_ret
            exact ⟨congrArg (fun b => Ending.returned (.bool b)) HE.out.symm, HQ2.out.below⟩
        · have q1 : (kd == 0) = false := by simpa using h1
          have HE := Lib.hid (HV2.out.trans (decide_eq_false (fun h => h1 h.1)))
          clear h1
          go_wp2_with fail
          go_ret
          exact ⟨congrArg (fun b => Ending.returned (.bool b)) HE.out.symm, HQ2.out.below⟩
      · have q4 : (lim == 0) = false := by simpa using h4
        have HE := Lib.hid (HV2.out.trans (decide_eq_false (fun h => h4 h.2.2.2)))
        clear h4
        go_wp2_with fail
        go_ret
        exact ⟨congrArg (fun b => Ending.returned (.bool b)) HE.out.symm, HQ2.out.below⟩
    | false =>
      have HV2 := Lib.hid (HV.out.trans (if_neg (by simp)))
      clear HV
      go_wp2_with fail
      refine (refordright_any kd cl d a an ac w2).mono ?_
      rintro _ w3 ⟨rfl, hb3⟩
      have HQ3 := Lib.hid (HQ2.out.later hb3)
      clear hb3 HQ2 x2 x3 x4 x5 x6
      obtain ⟨-, -, x2, x3, x4, x5, x6⟩ := HQ3.out.cells
      by_cases ho : ordP kd cl an d
      · have HO := decide_eq_true ho
        rw [HO] at HV2 ⊢
        clear HO ho
        by_cases h1 : -1 ≤ lim
        · have HE := Lib.hid (HV2.out.trans (show (true && decide (-1 ≤ lim ∧ lim ≤ 1000)) = decide (lim ≤ 1000) by rw [Bool.true_and]; exact decide_eq_decide.2 ⟨fun h => h.2, fun h => ⟨h1, h⟩⟩))
          go_wp2_with fail
          go_ret
          exact ⟨congrArg (fun b => Ending.returned (.bool b)) HE.out.symm, HQ3.out.below⟩
        · have HE := Lib.hid (HV2.out.trans (show (true && decide (-1 ≤ lim ∧ lim ≤ 1000)) = false by rw [Bool.true_and]; exact decide_eq_false fun h => h1 h.1))
          go_wp2_with fail
          go_ret
          exact ⟨congrArg (fun b => Ending.returned (.bool b)) HE.out.symm, HQ3.out.below⟩
      · have HO := decide_eq_false ho
        rw [HO] at HV2 ⊢
        have HE := Lib.hid (HV2.out.trans (Bool.false_and _))
        clear HO ho
        go_wp2_with fail
        go_ret
        exact ⟨congrArg (fun b => Ending.returned (.bool b)) HE.out.symm, HQ3.out.below⟩
end Go.Proofs.Ytnigfipjcnamfaa.Ak

/- box.Holds, plainly and in memory; box.Meets plainly. -/
namespace Go.Proofs.Ytnigfipjcnamfaa
open Go.RowKit

/-- Whether a box holds another one. -/
def holdsB (R S T U : List Int) (n m k l : Nat) : Bool := pairB R S T U n m k l && (les R T n && les U S n)
/-- Whether a point is in both boxes. -/
def meetsB (R S T U : List Int) (n m k l : Nat) : Bool := pairB R S T U n m k l && (les R U n && les T S n)
set_option maxRecDepth 100000 in
set_option maxHeartbeats 1000000 in
theorem holdsside (B C : Nat) (p q r s : Option Addr) (n c e f g : Nat) (R S T U : List Int) (k : Nat) (hk : k < n) (w : World) (hB : BoxAt w B p n c q n e) (hC : BoxAt w C r n f s n g) (h1 : Ints w p n c R) (h2 : Ints w q n e S) (h3 : Ints w r n f T) (h4 : Ints w s n g U) :
    Calls Try.prog 49 #[.int .i64 k, .pointer (some ⟨B, 0, none⟩), .pointer (some ⟨C, 0, none⟩)] w fun e w' => e = .returned (.bool (decide (R.getD k 0 ≤ T.getD k 0) && decide (U.getD k 0 ≤ S.getD k 0))) ∧ ∃ j, w' = w.drewN j := by
  obtain ⟨hB0, hB1⟩ := hB
  obtain ⟨hC0, hC1⟩ := hC
  obtain ⟨g1, o1, rfl, hc1⟩ := h1.cell k hk
  obtain ⟨g2, o2, rfl, hc2⟩ := h2.cell k hk
  obtain ⟨g3, o3, rfl, hc3⟩ := h3.cell k hk
  obtain ⟨g4, o4, rfl, hc4⟩ := h4.cell k hk
  clear h1 h2 h3 h4
  generalize R.getD k 0 = xR at *
  generalize S.getD k 0 = xS at *
  generalize T.getD k 0 = xT at *
  generalize U.getD k 0 = xU at *
  have b1 : (0 : Int) ≤ k ∧ (k : Int) < n := by omega
  by_cases hg : xR ≤ xT
  · rw [decide_eq_true hg]
    go_enter Try.func49, Try.ntmps49
    go_wp2_with fail
    go_quiet (fail)
    go_wp2_with fail
    go_ret
    exact ⟨rfl, _, rfl⟩
  · rw [decide_eq_false hg]
    have hd : decide (xR ≤ xT) = false := decide_eq_false hg
    go_enter Try.func49, Try.ntmps49
    go_wp2_with fail
    go_quiet (fail)
    go_wp2_with fail
    go_ret
    exact ⟨rfl, _, rfl⟩
set_option maxRecDepth 100000 in
set_option maxHeartbeats 1000000 in
theorem holds_any (p q r s : Option Addr) (n c m e k f l g : Nat) (R S T U : List Int) (w : World) (h1 : Ints w p n c R) (h2 : Ints w q m e S) (h3 : Ints w r k f T) (h4 : Ints w s l g U) :
    Calls Try.prog 30 #[.agg #[.slice p n c, .slice q m e], .agg #[.slice r k f, .slice s l g]] w fun e w' => e = .returned (.bool (holdsB R S T U n m k l)) ∧ Below w.heap.size w w' := by
  go_enter Try.func30, Try.ntmps30
  go_upto_region 1 with fail
  obtain ⟨w2, hw2⟩ : ∃ w2, w2 = (w.alloc (.cells #[.slice p n c, .slice q m e] 25)).alloc (.cells #[.slice r k f, .slice s l g] 25) := ⟨_, rfl⟩
  have HF := Lib.hid (four_of h1 h2 h3 h4 hw2)
  rw [← hw2]
  clear hw2 h1 h2 h3 h4
  have b := HF.out.ba
  obtain ⟨b0, b1⟩ := b
  have b := HF.out.bb
  obtain ⟨b2, b3⟩ := b
  go_wp2_with fail
  refine (pair_any p q r s n c m e k f l g R S T U w2 HF.out.i1 HF.out.i2 HF.out.i3 HF.out.i4).mono ?_
  rintro _ w3 ⟨rfl, hb3⟩
  have HG := Lib.hid (HF.out.later hb3)
  clear hb3 HF b0 b1 b2 b3
  have b := HG.out.ba
  obtain ⟨b0, b1⟩ := b
  cases hr : pairB R S T U n m k l with
  | false =>
    have HR := Lib.hid (show holdsB R S T U n m k l = false by unfold holdsB; rw [hr]; rfl)
    clear hr
    go_wp2_with fail
    go_ret
    exact ⟨congrArg (fun b => Ending.returned (.bool b)) HR.out.symm, HG.out.below⟩
  | true =>
    have HR := Lib.hid (show holdsB R S T U n m k l = (les R T n && les U S n) by unfold holdsB; rw [hr]; rfl)
    obtain ⟨hd1, hd2, rfl, rfl, rfl⟩ := pairB_dims hr
    have HE := Lib.hid (each_any l (by omega) (fun k => decide (R.getD k 0 ≤ T.getD k 0) && decide (U.getD k 0 ≤ S.getD k 0)) 49 #[.pointer (some ⟨w.heap.size, 0, none⟩), .pointer (some ⟨w.heap.size + 1, 0, none⟩)] (enter_side Try.func49 (by kernel_rfl) rfl) w3 (fun k w' hk hb => holdsside w.heap.size (w.heap.size + 1) p q r s l c e f g R S T U k hk w' (HG.out.later hb).ba (HG.out.later hb).bb (HG.out.later hb).i1 (HG.out.later hb).i2 (HG.out.later hb).i3 (HG.out.later hb).i4))
    rw [alls_and, alls_les, alls_les] at HE
    clear hr hd1 hd2
    go_wp2_with fail
    refine HE.out.mono ?_
    rintro _ w4 ⟨rfl, j, hw4⟩
    have HB := Lib.hid (show Below w.heap.size w w4 by rw [hw4]; exact Below.drewN HG.out.below _)
    clear hw4
    go_wp2_with fail
    go_ret
    exact ⟨congrArg (fun b => Ending.returned (.bool b)) HR.out.symm, HB.out⟩
end Go.Proofs.Ytnigfipjcnamfaa

/- Plain: a box holds another one, if it has its corners. -/
namespace Go.Proofs.Ytnigfipjcnamfaa
open Go.RowKit

theorem les_refl (R : List Int) (n : Nat) : les R R n = true := (les_iff R R n).2 fun _ _ => Int.le_refl _
theorem les_trans {R S T : List Int} {n : Nat} (h : les R S n = true) (h' : les S T n = true) : les R T n = true := (les_iff R T n).2 fun k hk => Int.le_trans ((les_iff R S n).1 h k hk) ((les_iff S T n).1 h' k hk)
/-- What BoxHolds wants: the other box and both its corners are in. -/
theorem holds_want (R S T U : List Int) (n m k l : Nat) : (rightB R S n m n && (rightB T U k l n && (hasB R S T n m k && hasB R S U n m l))) = holdsB R S T U n m k l := by
  unfold holdsB pairB
  cases h1 : rightB R S n m n with
  | false => rfl
  | true =>
    cases h2 : rightB T U k l n with
    | false => rfl
    | true =>
      have d1 := rightB_dims h1
      have d2 := rightB_dims h2
      obtain rfl : k = n := by omega
      obtain rfl : l = k := by omega
      rw [hasB_right h1, hasB_right h1]
      have h3 : les T U l = true := by rw [rightB_les (by omega)] at h2; exact h2
      simp only [Bool.true_and]
      rw [Bool.eq_iff_iff]
      simp only [Bool.and_eq_true]
      exact ⟨fun h => ⟨h.1.1, h.2.2⟩, fun h => ⟨⟨h.1, les_trans h3 h.2⟩, les_trans h.1 h3, h.2⟩⟩
end Go.Proofs.Ytnigfipjcnamfaa

/- box.Meets. -/
namespace Go.Proofs.Ytnigfipjcnamfaa
open Go.RowKit

set_option maxRecDepth 100000 in
set_option maxHeartbeats 1000000 in
theorem meetsside (B C : Nat) (p q r s : Option Addr) (n c e f g : Nat) (R S T U : List Int) (k : Nat) (hk : k < n) (w : World) (hB : BoxAt w B p n c q n e) (hC : BoxAt w C r n f s n g) (h1 : Ints w p n c R) (h2 : Ints w q n e S) (h3 : Ints w r n f T) (h4 : Ints w s n g U) :
    Calls Try.prog 48 #[.int .i64 k, .pointer (some ⟨B, 0, none⟩), .pointer (some ⟨C, 0, none⟩)] w fun e w' => e = .returned (.bool (decide (R.getD k 0 ≤ U.getD k 0) && decide (T.getD k 0 ≤ S.getD k 0))) ∧ ∃ j, w' = w.drewN j := by
  obtain ⟨hB0, hB1⟩ := hB
  obtain ⟨hC0, hC1⟩ := hC
  obtain ⟨g1, o1, rfl, hc1⟩ := h1.cell k hk
  obtain ⟨g2, o2, rfl, hc2⟩ := h2.cell k hk
  obtain ⟨g3, o3, rfl, hc3⟩ := h3.cell k hk
  obtain ⟨g4, o4, rfl, hc4⟩ := h4.cell k hk
  clear h1 h2 h3 h4
  generalize R.getD k 0 = xR at *
  generalize S.getD k 0 = xS at *
  generalize T.getD k 0 = xT at *
  generalize U.getD k 0 = xU at *
  have b1 : (0 : Int) ≤ k ∧ (k : Int) < n := by omega
  by_cases hg : xR ≤ xU
  · rw [decide_eq_true hg]
    go_enter Try.func48, Try.ntmps48
    go_wp2_with fail
    go_quiet (fail)
    go_wp2_with fail
    go_ret
    exact ⟨rfl, _, rfl⟩
  · rw [decide_eq_false hg]
    have hd : decide (xR ≤ xU) = false := decide_eq_false hg
    go_enter Try.func48, Try.ntmps48
    go_wp2_with fail
    go_quiet (fail)
    go_wp2_with fail
    go_ret
    exact ⟨rfl, _, rfl⟩
set_option maxRecDepth 100000 in
set_option maxHeartbeats 1000000 in
theorem meets_any (p q r s : Option Addr) (n c m e k f l g : Nat) (R S T U : List Int) (w : World) (h1 : Ints w p n c R) (h2 : Ints w q m e S) (h3 : Ints w r k f T) (h4 : Ints w s l g U) :
    Calls Try.prog 29 #[.agg #[.slice p n c, .slice q m e], .agg #[.slice r k f, .slice s l g]] w fun e w' => e = .returned (.bool (meetsB R S T U n m k l)) ∧ Below w.heap.size w w' := by
  go_enter Try.func29, Try.ntmps29
  go_upto_region 1 with fail
  obtain ⟨w2, hw2⟩ : ∃ w2, w2 = (w.alloc (.cells #[.slice p n c, .slice q m e] 25)).alloc (.cells #[.slice r k f, .slice s l g] 25) := ⟨_, rfl⟩
  have HF := Lib.hid (four_of h1 h2 h3 h4 hw2)
  rw [← hw2]
  clear hw2 h1 h2 h3 h4
  have b := HF.out.ba
  obtain ⟨b0, b1⟩ := b
  have b := HF.out.bb
  obtain ⟨b2, b3⟩ := b
  go_wp2_with fail
  refine (pair_any p q r s n c m e k f l g R S T U w2 HF.out.i1 HF.out.i2 HF.out.i3 HF.out.i4).mono ?_
  rintro _ w3 ⟨rfl, hb3⟩
  have HG := Lib.hid (HF.out.later hb3)
  clear hb3 HF b0 b1 b2 b3
  have b := HG.out.ba
  obtain ⟨b0, b1⟩ := b
  cases hr : pairB R S T U n m k l with
  | false =>
    have HR := Lib.hid (show meetsB R S T U n m k l = false by unfold meetsB; rw [hr]; rfl)
    clear hr
    go_wp2_with fail
    go_ret
    exact ⟨congrArg (fun b => Ending.returned (.bool b)) HR.out.symm, HG.out.below⟩
  | true =>
    have HR := Lib.hid (show meetsB R S T U n m k l = (les R U n && les T S n) by unfold meetsB; rw [hr]; rfl)
    obtain ⟨hd1, hd2, rfl, rfl, rfl⟩ := pairB_dims hr
    have HE := Lib.hid (each_any l (by omega) (fun k => decide (R.getD k 0 ≤ U.getD k 0) && decide (T.getD k 0 ≤ S.getD k 0)) 48 #[.pointer (some ⟨w.heap.size, 0, none⟩), .pointer (some ⟨w.heap.size + 1, 0, none⟩)] (enter_side Try.func48 (by kernel_rfl) rfl) w3 (fun k w' hk hb => meetsside w.heap.size (w.heap.size + 1) p q r s l c e f g R S T U k hk w' (HG.out.later hb).ba (HG.out.later hb).bb (HG.out.later hb).i1 (HG.out.later hb).i2 (HG.out.later hb).i3 (HG.out.later hb).i4))
    rw [alls_and, alls_les, alls_les] at HE
    clear hr hd1 hd2
    go_wp2_with fail
    refine HE.out.mono ?_
    rintro _ w4 ⟨rfl, j, hw4⟩
    have HB := Lib.hid (show Below w.heap.size w w4 by rw [hw4]; exact Below.drewN HG.out.below _)
    clear hw4
    go_wp2_with fail
    go_ret
    exact ⟨congrArg (fun b => Ending.returned (.bool b)) HR.out.symm, HB.out⟩
end Go.Proofs.Ytnigfipjcnamfaa

/- A kid that lies boxed; whether a tree is open to a query, plainly. -/
namespace Go.Proofs.Ytnigfipjcnamfaa.Ak
open Go.RowKit

/-- A kid's cells, as far as they are asked. -/
structure KOk (K : Array Value) (p : Option Addr) (n c : Nat) (q : Option Addr) (m e : Nat) (lv : Int) (a : Option Addr) (an ac : Nat) : Prop where
  size : K.size = 37
  c32 : K[32]? = some (.slice p n c)
  c33 : K[33]? = some (.slice q m e)
  c34 : K[34]? = some (.int .i64 lv)
  c36 : K[36]? = some (.slice a an ac)
theorem kok_of {D : List Value} (hD : D.length = 32) (p : Option Addr) (n c : Nat) (q : Option Addr) (m e : Nat) (lv sz : Int) (a : Option Addr) (an ac : Nat) : KOk (D ++ ([.slice p n c, .slice q m e, .int .i64 lv, .int .i64 sz, .slice a an ac] : List Value)).toArray p n c q m e lv a an ac := by
  refine ⟨by simp [hD], ?_, ?_, ?_, ?_⟩ <;> rw [List.getElem?_toArray, List.getElem?_append_right (by omega), hD] <;> rfl
structure KIn (w0 w : World) (g : Nat) (K : Array Value) (p : Option Addr) (n c : Nat) (T : List Int) (q : Option Addr) (m e : Nat) (U : List Int) (lv : Int) (a : Option Addr) (an ac : Nat) : Prop where
  row : w.heap[g]? = some (.cells K 44 (0, 0))
  ok : KOk K p n c q m e lv a an ac
  lo : Ints w p n c T
  hi : Ints w q m e U
  below : Below w0.heap.size w0 w
section
variable {w0 w w' : World} {g : Nat} {K : Array Value} {p : Option Addr} {n c : Nat} {T : List Int} {q : Option Addr} {m e : Nat} {U : List Int} {lv : Int} {a : Option Addr} {an ac : Nat}
theorem KIn.lt (h : KIn w0 w g K p n c T q m e U lv a an ac) : g < w.heap.size := (Array.getElem?_eq_some_iff.1 h.row).1
theorem KIn.later (h : KIn w0 w g K p n c T q m e U lv a an ac) (hb : Below w.heap.size w w') : KIn w0 w' g K p n c T q m e U lv a an ac :=
  ⟨(hb.block _ h.lt).trans h.row, h.ok, h.lo.later hb, h.hi.later hb, h.below.trans (hb.mono h.below.size)⟩
theorem KIn.cells (h : KIn w0 w g K p n c T q m e U lv a an ac) : w.cell? ⟨g, 32, none⟩ = some (.slice p n c) ∧ w.cell? ⟨g, 33, none⟩ = some (.slice q m e) ∧ w.cell? ⟨g, 34, none⟩ = some (.int .i64 lv) ∧ w.cell? ⟨g, 36, none⟩ = some (.slice a an ac) :=
  ⟨(cell_of_row w g 32 _ _ _ h.row).trans h.ok.c32, (cell_of_row w g 33 _ _ _ h.row).trans h.ok.c33, (cell_of_row w g 34 _ _ _ h.row).trans h.ok.c34, (cell_of_row w g 36 _ _ _ h.row).trans h.ok.c36⟩
theorem k_in (hK : KOk K p n c q m e lv a an ac) (hT : Ints w p n c T) (hU : Ints w q m e U) : KIn w (w.alloc (.cells K 44)) w.heap.size K p n c T q m e U lv a an ac := by
  have hb : Below w.heap.size w (w.alloc (.cells K 44)) := (Below.refl _ _).alloc (Nat.le_refl _) _
  exact ⟨heap_alloc_new w _, hK, hT.later hb, hU.later hb, hb⟩
end
theorem UKid : ∃ fs, Try.prog.underlying 44 = some (.struct fs) := by
  have hd : (match Try.prog.underlying 44 with | some (.struct _) => true | _ => false) = true := by kernel_rfl
  generalize Try.prog.underlying 44 = x at hd
  cases x with
  | none => cases hd
  | some d => cases d <;> first | exact ⟨_, rfl⟩ | cases hd
theorem SKid : (Try.prog.info? 44).map (·.size) = some 37 := by kernel_rfl
theorem op_load_kid {ρ : Operand → Value} {o : Oper} {x : Operand} {w : World} {g : Nat} {K : Array Value} (ho : o.op = .load 44 x) (hx : ρ x = .pointer (some ⟨g, 0, none⟩)) (hs : K.size = 37) (h : w.heap[g]? = some (.cells K 44 (0, 0))) : (execOp ρ o).run Try.prog w = .ok (.value (.agg K)) w := by
  obtain ⟨fs, hu⟩ := UKid
  unfold execOp
  simp only [ho, hx, Instr.loadAt, Instr.sureAddr, Sem.run_bind, Sem.run_pure, Result.andThen_ok, run_loadVar_row _ g _ 44 K (0, 0) (.struct fs) h hu rfl (by rw [hs]; exact SKid)]
/-- Whether a tree is open to a query. -/
def openB (lv lim : Int) (cnt : Bool) (R S T U : List Int) (n m k l : Nat) : Bool :=
  if lv = 0 then false else if meetsB T U R S k l n m = true then (if cnt = true then !holdsB R S T U n m k l else decide (lim ≠ 0)) else false
/-- Whether boxes meet, side by side. -/
def meetP (R S T U : List Int) : Prop := ∀ k, k < R.length → max (R.getD k 0) (T.getD k 0) ≤ min (S.getD k 0) (U.getD k 0)
theorem meets_left {R S T U : List Int} {n m k l : Nat} (h : rightB R S n m n = false) : meetsB T U R S k l n m = false := by
  unfold meetsB pairB
  cases h2 : rightB R S n m k with
  | false => rw [Bool.and_false, Bool.false_and]
  | true =>
    have d := rightB_dims h2
    obtain rfl : k = n := by omega
    rw [h] at h2
    cases h2
theorem meets_right {R S T U : List Int} {n m k l : Nat} (h : rightB T U k l n = false) : meetsB T U R S k l n m = false := by
  unfold meetsB pairB
  cases h2 : rightB T U k l k with
  | false => rw [Bool.false_and, Bool.false_and]
  | true =>
    cases h3 : rightB R S n m k with
    | false => rw [Bool.and_false, Bool.false_and]
    | true =>
      have d := rightB_dims h3
      obtain rfl : n = k := by omega
      rw [h] at h2
      cases h2
theorem meets_iff {R S T U : List Int} {n m k l : Nat} (h1 : rightB R S n m n = true) (h2 : rightB T U k l n = true) (hn : n = R.length) : meetsB T U R S k l n m = true ↔ meetP R S T U := by
  have d1 := rightB_dims h1
  have d2 := rightB_dims h2
  obtain rfl : k = n := by omega
  unfold meetsB pairB meetP
  have l1 : les R S k = true := by
    unfold rightB at h1
    exact (Bool.and_eq_true_iff.1 h1).2
  have l2 : les T U k = true := by
    unfold rightB at h2
    exact (Bool.and_eq_true_iff.1 h2).2
  rw [h1, h2, Bool.true_and, Bool.true_and, Bool.and_eq_true_iff, ← hn, les_iff, les_iff]
  rw [les_iff] at l1 l2
  constructor
  · rintro ⟨a, b⟩ i hi
    have := a i hi
    have := b i hi
    have := l1 i hi
    have := l2 i hi
    omega
  · intro h
    refine ⟨fun i hi => ?_, fun i hi => ?_⟩ <;> (have := h i hi; omega)
end Go.Proofs.Ytnigfipjcnamfaa.Ak

/- ask.Open. -/
namespace Go.Proofs.Ytnigfipjcnamfaa.Ak
open Go.RowKit

/-- A query and a kid that lie boxed, one behind the other. -/
theorem two_in {w : World} {p : Option Addr} {n c : Nat} {R : List Int} {q : Option Addr} {m e : Nat} {S : List Int} {kd cl : Int} {a : Option Addr} {an ac : Nat} {A : List Int} {lim : Int} {cnt : Bool} {K : Array Value} {s : Option Addr} {k f : Nat} {T : List Int} {t : Option Addr} {l h : Nat} {U : List Int} {lv : Int} {x : Option Addr} {xn xc : Nat}
    (hR : Ints w p n c R) (hS : Ints w q m e S) (hA : Ints w a an ac A) (hK : KOk K s k f t l h lv x xn xc) (hT : Ints w s k f T) (hU : Ints w t l h U) : ∀ w2, w2 = (w.alloc (.cells #[.slice p n c, .slice q m e, .int .u8 kd, .int .i64 cl, .slice a an ac, .int .i64 lim, .bool cnt] 29)).alloc (.cells K 44) →
    QIn w w2 w.heap.size p n c R q m e S kd cl a an ac A lim cnt ∧ KIn w w2 (w.heap.size + 1) K s k f T t l h U lv x xn xc ∧ w2.heap.size = w.heap.size + 1 + 1 := by
  rintro w2 rfl
  have h1 := q_in (kd := kd) (cl := cl) (lim := lim) (cnt := cnt) hR hS hA
  have s1 : (w.alloc (.cells #[.slice p n c, .slice q m e, .int .u8 kd, .int .i64 cl, .slice a an ac, .int .i64 lim, .bool cnt] 29)).heap.size = w.heap.size + 1 := by simp
  generalize w.alloc (.cells #[.slice p n c, .slice q m e, .int .u8 kd, .int .i64 cl, .slice a an ac, .int .i64 lim, .bool cnt] 29) = w1 at *
  have h2 := k_in hK (hT.later h1.below) (hU.later h1.below)
  have s2 : (w1.alloc (.cells K 44)).heap.size = w1.heap.size + 1 := by simp
  have h3 := h1.later h2.below
  rw [s1] at h2 s2
  exact ⟨h3, ⟨h2.row, h2.ok, h2.lo, h2.hi, h3.below⟩, s2⟩
set_option maxRecDepth 100000 in
set_option maxHeartbeats 2000000 in
theorem open_any (p q a s t x : Option Addr) (n c m e an ac k f l h xn xc : Nat) (R S A T U : List Int) (kd cl lim lv : Int) (cnt : Bool) (K : Array Value) (w : World) (hR : Ints w p n c R) (hS : Ints w q m e S) (hA : Ints w a an ac A) (hK : KOk K s k f t l h lv x xn xc) (hT : Ints w s k f T) (hU : Ints w t l h U) :
    Calls Try.prog 12 #[.agg #[.slice p n c, .slice q m e, .int .u8 kd, .int .i64 cl, .slice a an ac, .int .i64 lim, .bool cnt], .agg K] w fun e w' => e = .returned (.bool (openB lv lim cnt R S T U n m k l)) ∧ Below w.heap.size w w' := by
  obtain ⟨w2, hw2⟩ : ∃ w2, w2 = (w.alloc (.cells #[.slice p n c, .slice q m e, .int .u8 kd, .int .i64 cl, .slice a an ac, .int .i64 lim, .bool cnt] 29)).alloc (.cells K 44) := ⟨_, rfl⟩
  obtain ⟨hq, hk, -⟩ := two_in (kd := kd) (cl := cl) (lim := lim) (cnt := cnt) hR hS hA hK hT hU w2 hw2
  obtain ⟨g, hg⟩ : ∃ g, g = w.heap.size := ⟨_, rfl⟩
  go_enter Try.func12, Try.ntmps12
  go_upto_region 1 with fail
  rw [← hw2]
  rw [← hg] at hq hk ⊢
  clear hw2 hg hR hS hA hT hU
  have HQ := Lib.hid hq
  have HK := Lib.hid hk
  clear hq hk
  obtain ⟨x0, x1, -, -, -, x5, x6⟩ := HQ.out.cells
  obtain ⟨y0, y1, y2, -⟩ := HK.out.cells
  by_cases hlv : lv = 0
  · have HV := Lib.hid (show openB lv lim cnt R S T U n m k l = false from by unfold openB; rw [if_pos hlv])
    have q1 : (lv == 0) = true := by simpa using hlv
    clear hlv
    go_wp2_with fail
    go_ret
    exact ⟨congrArg (fun b => Ending.returned (.bool b)) HV.out.symm, HQ.out.below⟩
  have HV := Lib.hid (show openB lv lim cnt R S T U n m k l = if meetsB T U R S k l n m = true then (if cnt = true then !holdsB R S T U n m k l else decide (lim ≠ 0)) else false from by unfold openB; rw [if_neg hlv])
  have q1 : (lv == 0) = false := by simpa using hlv
  clear hlv
  go_wp2_with fail
  refine (meets_any s t p q k f l h n c m e T U R S w2 HK.out.lo HK.out.hi HQ.out.lo HQ.out.hi).mono ?_
  rintro _ w3 ⟨rfl, hb3⟩
  have HQ3 := Lib.hid (HQ.out.later hb3)
  have HK3 := Lib.hid (HK.out.later hb3)
  clear hb3 HQ HK x0 x1 x5 x6 y0 y1 y2
  obtain ⟨x0, x1, -, -, -, x5, x6⟩ := HQ3.out.cells
  obtain ⟨y0, y1, y2, -⟩ := HK3.out.cells
  cases hm : meetsB T U R S k l n m with
  | false =>
    rw [hm, if_neg (by simp)] at HV
    clear hm
    go_wp2_with fail
    go_ret
    exact ⟨congrArg (fun b => Ending.returned (.bool b)) HV.out.symm, HQ3.out.below⟩
  | true =>
    rw [hm, if_pos rfl] at HV
    clear hm
    cases cnt with
    | true =>
      rw [if_pos rfl] at HV
      go_wp2_with fail
      refine (holds_any p q s t n c m e k f l h R S T U w3 HQ3.out.lo HQ3.out.hi HK3.out.lo HK3.out.hi).mono ?_
      rintro _ w4 ⟨rfl, hb4⟩
      have hb := HQ3.out.below.trans (hb4.mono HQ3.out.below.size)
      go_wp2_with fail
      go_ret
      exact ⟨congrArg (fun b => Ending.returned (.bool b)) HV.out.symm, hb⟩
    | false =>
      rw [if_neg (by simp)] at HV
      go_wp2_with fail
      go_ret
      exact ⟨congrArg (fun b => Ending.returned (.bool b)) ((show (!decide (lim = 0)) = decide (lim ≠ 0) by simp).trans HV.out.symm), HQ3.out.below⟩
end Go.Proofs.Ytnigfipjcnamfaa.Ak

/- A box whose two rows grow, one number each in turn. -/
namespace Go.Proofs.Ytnigfipjcnamfaa.Ak
open Go.RowKit

theorem owns_keep {w w' : World} {base : Nat} {e : TypeId} {v : Value} {n : Nat} {xs : List Value} (h : w.ownsRow base e 1 v n xs) (hk : ∀ g, v.ownBlock = some g → w'.heap[g]? = w.heap[g]?) : w'.ownsRow base e 1 v n xs := by
  obtain ⟨h1, h2⟩ := h
  refine ⟨h1, h2.imp id ?_⟩
  rintro ⟨g, cap, cur, rfl, hg, hh, r⟩
  exact ⟨g, cap, cur, rfl, hg, (hk g rfl).trans hh, r⟩
structure TwoR (w0 w : World) (gb : Nat) (u v : Value) (nu nv : Nat) (A B : List Int) : Prop where
  row : w.heap[gb]? = some (.cells #[u, v] 25 (0, 0))
  own1 : w.ownsRow (gb + 1) 2 1 u nu (ivs A)
  own2 : w.ownsRow (gb + 1) 2 1 v nv (ivs B)
  apart : ∀ g, u.ownBlock = some g → v.ownBlock ≠ some g
  low : Below w0.heap.size w0 w
  ge : w0.heap.size ≤ gb
theorem TwoR.lt {w0 w : World} {gb : Nat} {u v : Value} {nu nv : Nat} {A B : List Int} (h : TwoR w0 w gb u v nu nv A B) : gb < w.heap.size := (Array.getElem?_eq_some_iff.1 h.row).1
theorem TwoR.facts {w0 w : World} {gb : Nat} {u v : Value} {nu nv : Nat} {A B : List Int} (h : TwoR w0 w gb u v nu nv A B) : w.cell? ⟨gb, 0, none⟩ = some u ∧ w.cell? ⟨gb, 1, none⟩ = some v ∧ w.frozen? ⟨gb, 0, none⟩ = false ∧ w.frozen? ⟨gb, 1, none⟩ = false :=
  ⟨cell_of_row w gb 0 _ _ _ h.row, cell_of_row w gb 1 _ _ _ h.row, frozen_of_row w gb _ _ _ h.row, frozen_of_row w gb _ _ _ h.row⟩
theorem TwoR.start (w0 w : World) (hb : Below w0.heap.size w0 w) : TwoR w0 (w.alloc (.cells #[.slice none 0 0, .slice none 0 0] 25)) w.heap.size (.slice none 0 0) (.slice none 0 0) 0 0 [] [] :=
  ⟨heap_alloc_new w _, World.ownsRow_nil _ _ _ _, World.ownsRow_nil _ _ _ _, fun g h => by simp [Value.ownBlock] at h, hb.alloc hb.size _, hb.size⟩
theorem TwoR.later {w0 w w' : World} {gb : Nat} {u v : Value} {nu nv : Nat} {A B : List Int} (h : TwoR w0 w gb u v nu nv A B) (hb : Below w.heap.size w w') : TwoR w0 w' gb u v nu nv A B :=
  ⟨(hb.block _ h.lt).trans h.row, owns_keep h.own1 (fun g hg => hb.block g (h.own1.lt g hg).2), owns_keep h.own2 (fun g hg => hb.block g (h.own2.lt g hg).2), h.apart, h.low.trans (hb.mono h.low.size), h.ge⟩
theorem TwoR.left {w0 w w2 : World} {O : Obj} {gb : Nat} {u v u' : Value} {nu nv : Nat} {A B : List Int} {x : Int} (h : TwoR w0 w gb u v nu nv A B) (ho : w2.ownsRow (gb + 1) 2 1 u' (nu + 1) (ivs A ++ ivs [x])) (hg : (w.alloc O).grownBy w2 u.ownBlock) (ht : u'.ownBlock = u.ownBlock ∨ u'.ownBlock = some (w.alloc O).heap.size) :
    (w2.cell? ⟨gb, 0, none⟩ = some u ∧ w2.frozen? ⟨gb, 0, none⟩ = false) ∧ TwoR w0 (w2.setCell ⟨gb, 0, none⟩ u') gb u' v (nu + 1) nv (A ++ [x]) B := by
  have hal : Below w.heap.size w (w.alloc O) := (Below.refl _ _).alloc (Nat.le_refl _) _
  have hs : (w.alloc O).heap.size = w.heap.size + 1 := by simp
  have hlt := h.lt
  have hu : ∀ g, u.ownBlock = some g → gb + 1 ≤ g ∧ g < w.heap.size := fun g e => h.own1.lt g e
  have hv : ∀ g, v.ownBlock = some g → gb + 1 ≤ g ∧ g < w.heap.size := fun g e => h.own2.lt g e
  have kr : w2.heap[gb]? = w.heap[gb]? := (hg.block gb (by omega) (fun e => by have := hu gb e.symm; omega)).trans (hal.block gb hlt)
  have row2 := kr.trans h.row
  have kv : ∀ g, v.ownBlock = some g → (w2.setCell ⟨gb, 0, none⟩ u').heap[g]? = w.heap[g]? := fun g e => by
    have := hv g e
    rw [heap_setCell_other _ _ _ _ (by show g ≠ gb; omega), hg.block g (by omega) (fun e2 => h.apart g e2.symm e), hal.block g (by omega)]
  refine ⟨⟨cell_of_row w2 gb 0 _ _ _ row2, frozen_of_row w2 gb _ _ _ row2⟩, heap_setCell_same w2 gb 0 _ _ u' row2, ?_, owns_keep h.own2 kv, fun g e e2 => ?_, ((h.low.alloc h.low.size O).grown hg (by have := h.low.size; omega) (fun g e => by have := (hu g e).1; have := h.ge; omega)).setCell h.ge _, h.ge⟩
  · rw [show ivs (A ++ [x]) = ivs A ++ ivs [x] from by simp [ivs]]
    exact owns_keep ho fun g e => heap_setCell_other _ _ _ _ (by show g ≠ gb; have := (ho.lt g e).1; omega)
  · have := hv g e2
    rcases ht with t | t
    · exact h.apart g (by rw [← t]; exact e) e2
    · rw [t] at e
      simp only [Option.some.injEq] at e
      omega
theorem TwoR.right {w0 w w2 : World} {O : Obj} {gb : Nat} {u v v' : Value} {nu nv : Nat} {A B : List Int} {x : Int} (h : TwoR w0 w gb u v nu nv A B) (ho : w2.ownsRow (gb + 1) 2 1 v' (nv + 1) (ivs B ++ ivs [x])) (hg : (w.alloc O).grownBy w2 v.ownBlock) (ht : v'.ownBlock = v.ownBlock ∨ v'.ownBlock = some (w.alloc O).heap.size) :
    (w2.cell? ⟨gb, 1, none⟩ = some v ∧ w2.frozen? ⟨gb, 1, none⟩ = false) ∧ TwoR w0 (w2.setCell ⟨gb, 1, none⟩ v') gb u v' nu (nv + 1) A (B ++ [x]) := by
  have hal : Below w.heap.size w (w.alloc O) := (Below.refl _ _).alloc (Nat.le_refl _) _
  have hs : (w.alloc O).heap.size = w.heap.size + 1 := by simp
  have hlt := h.lt
  have hu : ∀ g, u.ownBlock = some g → gb + 1 ≤ g ∧ g < w.heap.size := fun g e => h.own1.lt g e
  have hv : ∀ g, v.ownBlock = some g → gb + 1 ≤ g ∧ g < w.heap.size := fun g e => h.own2.lt g e
  have kr : w2.heap[gb]? = w.heap[gb]? := (hg.block gb (by omega) (fun e => by have := hv gb e.symm; omega)).trans (hal.block gb hlt)
  have row2 := kr.trans h.row
  have ku : ∀ g, u.ownBlock = some g → (w2.setCell ⟨gb, 1, none⟩ v').heap[g]? = w.heap[g]? := fun g e => by
    have := hu g e
    rw [heap_setCell_other _ _ _ _ (by show g ≠ gb; omega), hg.block g (by omega) (fun e2 => h.apart g e e2.symm), hal.block g (by omega)]
  refine ⟨⟨cell_of_row w2 gb 1 _ _ _ row2, frozen_of_row w2 gb _ _ _ row2⟩, heap_setCell_same w2 gb 1 _ _ v' row2, owns_keep h.own1 ku, ?_, fun g e e2 => ?_, ((h.low.alloc h.low.size O).grown hg (by have := h.low.size; omega) (fun g e => by have := (hv g e).1; have := h.ge; omega)).setCell h.ge _, h.ge⟩
  · rw [show ivs (B ++ [x]) = ivs B ++ ivs [x] from by simp [ivs]]
    exact owns_keep ho fun g e => heap_setCell_other _ _ _ _ (by show g ≠ gb; have := (ho.lt g e).1; omega)
  · have := hu g e
    rcases ht with t | t
    · exact h.apart g e (by rw [← t]; exact e2)
    · rw [t] at e2
      simp only [Option.some.injEq] at e2
      omega
theorem zret_box2 {fn : Func} {P : Ending → World → Prop} (p u : Tmp) (hr : fn.results = #[.cell p 25, .tmp u]) {tmps : Array Value} {w : World} (g : Nat) (a b x : Value)
    (hp : tmps.getD p undef = .pointer (some ⟨g, 0, none⟩)) (hu : tmps.getD u undef = x) (r0 : w.cell? ⟨g, 0, none⟩ = some a) (r1 : w.cell? ⟨g, 1, none⟩ = some b) (h : P (.returned (.tuple #[.agg #[a, b], x])) w) : bodyPost Try.prog fn P .ret ⟨tmps, []⟩ w := by
  refine bodyPost_ret (a := ⟨tmps, []⟩) (v := .tuple #[.agg #[a, b], x]) ?_ rfl h
  have hp' : tmps[p]?.getD undef = .pointer (some ⟨g, 0, none⟩) := by simpa using hp
  have hu' : tmps[u]?.getD undef = x := by simpa using hu
  simp [results, hr, hp', hu', go_sem, r0, r1]
theorem TwoR.aside {w00 w0 w : World} {gb : Nat} {u v : Value} {nu nv : Nat} {A B : List Int} (h : TwoR w0 w gb u v nu nv A B) (hb : Below w00.heap.size w00 w0) (x o : Nat) (z : Value) (hx : w00.heap.size ≤ x) (hx2 : x < gb) : TwoR w00 (w.setCell ⟨x, o, none⟩ z) gb u v nu nv A B :=
  ⟨(heap_setCell_other _ _ _ _ (by show gb ≠ x; omega)).trans h.row,
   owns_keep h.own1 (fun g e => heap_setCell_other _ _ _ _ (by show g ≠ x; have := (h.own1.lt g e).1; omega)),
   owns_keep h.own2 (fun g e => heap_setCell_other _ _ _ _ (by show g ≠ x; have := (h.own2.lt g e).1; omega)),
   h.apart, (hb.trans (h.low.mono hb.size)).setCell hx _, Nat.le_trans hb.size h.ge⟩
theorem ownv_form {w : World} {base n : Nat} {e : TypeId} {v : Value} {xs : List Value} (h : w.ownsRow base e 1 v n xs) : ∃ q c, v = .slice q n c := by
  rcases h.2 with ⟨rfl, h0⟩ | ⟨g, cap, cur, rfl, hb, hg, hle, hm, hs, ht⟩
  · subst h0
    exact ⟨none, 0, rfl⟩
  · exact ⟨_, cap, rfl⟩
theorem new_of_set (w : World) (p : Addr) (v : Value) (O : Array Value) (t : TypeId) : ((w.setCell p v).alloc (.cells O t (0, 0))).heap[w.heap.size]? = some (.cells O t (0, 0)) := by
  have h := heap_alloc_new (w.setCell p v) (.cells O t (0, 0))
  rwa [show (w.setCell p v).heap.size = w.heap.size from by simp] at h
theorem ivs_cells {w : World} {g : Nat} {L : List Int} {t : TypeId} (hg : w.heap[g]? = some (.cells (i64s L) t (0, 0))) : ∀ j u, (ivs L)[j]? = some u → w.cell? ((⟨g, 0, none⟩ : Addr).add j) = some u := fun j u hu => by
  rw [Addr.add_mid, Nat.zero_add, cell_of_row w g j _ _ _ hg, ← Array.getElem?_toList]
  exact hu
end Go.Proofs.Ytnigfipjcnamfaa.Ak

/- indentureref04.Cut: whether boxes meet (which box it tells is not said here). -/
namespace Go.Proofs.Ytnigfipjcnamfaa.Ak
open Go.RowKit

/-- Two boxes' corners in memory: their cells in two blocks, and a third block for what is told. -/
structure CH (w : World) (g : Nat) (p q s t : Option Addr) (c e f l d : Nat) (R S T U : List Int) : Prop where
  a : w.heap[g]? = some (.cells #[.slice p d c, .slice q d e] 25 (0, 0))
  b : w.heap[g + 1]? = some (.cells #[.slice s d f, .slice t d l] 25 (0, 0))
  r : w.heap[g + 2]? = some (.cells #[.slice none 0 0, .slice none 0 0] 25 (0, 0))
  i1 : Ints w p d c R
  i2 : Ints w q d e S
  i3 : Ints w s d f T
  i4 : Ints w t d l U
theorem CH.later {w w' : World} {g : Nat} {p q s t : Option Addr} {c e f l d : Nat} {R S T U : List Int} (h : CH w g p q s t c e f l d R S T U) (hb : Below w.heap.size w w') : CH w' g p q s t c e f l d R S T U :=
  ⟨(hb.block _ (Array.getElem?_eq_some_iff.1 h.a).1).trans h.a, (hb.block _ (Array.getElem?_eq_some_iff.1 h.b).1).trans h.b, (hb.block _ (Array.getElem?_eq_some_iff.1 h.r).1).trans h.r, h.i1.later hb, h.i2.later hb, h.i3.later hb, h.i4.later hb⟩
theorem CH.cells {w : World} {g : Nat} {p q s t : Option Addr} {c e f l d : Nat} {R S T U : List Int} (h : CH w g p q s t c e f l d R S T U) :
    w.cell? ⟨g, 0, none⟩ = some (.slice p d c) ∧ w.cell? ⟨g, 1, none⟩ = some (.slice q d e) ∧ w.cell? ⟨g + 1, 0, none⟩ = some (.slice s d f) ∧ w.cell? ⟨g + 1, 1, none⟩ = some (.slice t d l) ∧
    w.cell? ⟨g + 2, 0, none⟩ = some (.slice none 0 0) ∧ w.cell? ⟨g + 2, 1, none⟩ = some (.slice none 0 0) ∧ w.frozen? ⟨g + 2, 0, none⟩ = false ∧ w.frozen? ⟨g + 2, 1, none⟩ = false :=
  ⟨cell_of_row w g 0 _ _ _ h.a, cell_of_row w g 1 _ _ _ h.a, cell_of_row w (g + 1) 0 _ _ _ h.b, cell_of_row w (g + 1) 1 _ _ _ h.b, cell_of_row w (g + 2) 0 _ _ _ h.r, cell_of_row w (g + 2) 1 _ _ _ h.r, frozen_of_row w (g + 2) _ _ _ h.r, frozen_of_row w (g + 2) _ _ _ h.r⟩
theorem ch_start {w : World} {p q s t : Option Addr} {c e f l d : Nat} {R S T U : List Int} (h1 : Ints w p d c R) (h2 : Ints w q d e S) (h3 : Ints w s d f T) (h4 : Ints w t d l U) :
    CH (((w.alloc (.cells #[.slice p d c, .slice q d e] 25)).alloc (.cells #[.slice s d f, .slice t d l] 25)).alloc (.cells #[.slice none 0 0, .slice none 0 0] 25)) w.heap.size p q s t c e f l d R S T U ∧
    Below w.heap.size w (((w.alloc (.cells #[.slice p d c, .slice q d e] 25)).alloc (.cells #[.slice s d f, .slice t d l] 25)).alloc (.cells #[.slice none 0 0, .slice none 0 0] 25)) ∧
    (((w.alloc (.cells #[.slice p d c, .slice q d e] 25)).alloc (.cells #[.slice s d f, .slice t d l] 25)).alloc (.cells #[.slice none 0 0, .slice none 0 0] 25)).heap.size = w.heap.size + 3 := by
  have a0 := heap_alloc_new w (.cells #[.slice p d c, .slice q d e] 25 (0, 0))
  have b1 : Below w.heap.size w (w.alloc (.cells #[.slice p d c, .slice q d e] 25)) := (Below.refl _ _).alloc (Nat.le_refl _) _
  have s1 : (w.alloc (.cells #[.slice p d c, .slice q d e] 25)).heap.size = w.heap.size + 1 := by simp
  generalize w.alloc (.cells #[.slice p d c, .slice q d e] 25) = w1 at *
  have a1 := heap_alloc_new w1 (.cells #[.slice s d f, .slice t d l] 25 (0, 0))
  have b2 : Below w1.heap.size w1 (w1.alloc (.cells #[.slice s d f, .slice t d l] 25)) := (Below.refl _ _).alloc (Nat.le_refl _) _
  have s2 : (w1.alloc (.cells #[.slice s d f, .slice t d l] 25)).heap.size = w1.heap.size + 1 := by simp
  generalize w1.alloc (.cells #[.slice s d f, .slice t d l] 25) = w2 at *
  have a2 := heap_alloc_new w2 (.cells #[.slice none 0 0, .slice none 0 0] 25 (0, 0))
  have b3 : Below w2.heap.size w2 (w2.alloc (.cells #[.slice none 0 0, .slice none 0 0] 25)) := (Below.refl _ _).alloc (Nat.le_refl _) _
  have s3 : (w2.alloc (.cells #[.slice none 0 0, .slice none 0 0] 25)).heap.size = w2.heap.size + 1 := by simp
  generalize w2.alloc (.cells #[.slice none 0 0, .slice none 0 0] 25) = w3 at *
  have b23 := b2.trans (b3.mono (by omega))
  have b13 := b1.trans (b23.mono (by omega))
  rw [s1] at a1
  rw [s2, s1] at a2
  refine ⟨⟨(b23.block _ (by omega)).trans a0, (b3.block _ (by omega)).trans a1, a2, h1.later b13, h2.later b13, h3.later b13, h4.later b13⟩, b13, by omega⟩
def cks (R T : List Int) (f : Int → Int → Int) (k : Nat) : List Int := (List.range k).map fun i => f (R.getD i 0) (T.getD i 0)
theorem cks_succ (R T : List Int) (f : Int → Int → Int) (k : Nat) : cks R T f (k + 1) = cks R T f k ++ [f (R.getD k 0) (T.getD k 0)] := by simp [cks, List.range_succ]
/-- What Cut tells. -/
def RCutPost (w : World) (R S T U : List Int) (e : Ending) (w' : World) : Prop := ∃ (ok : Bool) (p1 p2 : Option Addr) (n1 c1 n2 c2 : Nat), e = .returned (.tuple #[.agg #[.slice p1 n1 c1, .slice p2 n2 c2], .bool ok]) ∧ Below w.heap.size w w' ∧ (ok = true ↔ meetP R S T U)
def RCut (w2 : World) (gb d : Nat) (R S T U : List Int) (i : Value) (wr : World) : Prop := ∃ (k : Nat) (p1 p2 : Option Addr) (c1 c2 : Nat), k ≤ d ∧ i = .int .i64 k ∧ (∀ j, j < k → max (R.getD j 0) (T.getD j 0) ≤ min (S.getD j 0) (U.getD j 0)) ∧ TwoR w2 wr gb (.slice p1 k c1) (.slice p2 k c2) k k (cks R T max k) (cks S U min k)
theorem slice_two {w0 w : World} {gb : Nat} {u v : Value} {nu nv : Nat} {A B : List Int} (h : TwoR w0 w gb u v nu nv A B) : ∃ p c q e, u = .slice p nu c ∧ v = .slice q nv e := by
  obtain ⟨p, c, hp⟩ := ownv_form h.own1
  obtain ⟨q, e, hq⟩ := ownv_form h.own2
  exact ⟨p, c, q, e, hp, hq⟩
set_option maxRecDepth 100000 in
set_option maxHeartbeats 4000000 in
theorem rcut_any (p q s t : Option Addr) (c e f l d : Nat) (R S T U : List Int) (w : World) (h1 : Ints w p d c R) (h2 : Ints w q d e S) (h3 : Ints w s d f T) (h4 : Ints w t d l U) (r1 : rightB R S d d d = true) (r2 : rightB T U d d d = true) :
    Calls Try.prog 31 #[.agg #[.slice p d c, .slice q d e], .agg #[.slice s d f, .slice t d l]] w (RCutPost w R S T U) := by
  have hd8 : d ≤ 8 := by
    unfold rightB at r1
    rw [Bool.and_eq_true, decide_eq_true_eq] at r1
    omega
  obtain ⟨i2, hi, hi0, hi1, hi2⟩ := info_parts I2n
  have HI := Lib.hid hi
  have HI0 := Lib.hid hi0
  have HI1 := Lib.hid hi1
  have HI2 := Lib.hid hi2
  clear hi hi0 hi1 hi2
  have HR1 := Lib.hid r1
  have HR2 := Lib.hid r2
  clear r1 r2
  go_enter Try.func31, Try.ntmps31
  go_upto_region 1 with fail
  obtain ⟨hch, hbw, hsz⟩ := ch_start h1 h2 h3 h4
  generalize (((w.alloc (.cells #[.slice p d c, .slice q d e] 25)).alloc (.cells #[.slice s d f, .slice t d l] 25)).alloc (.cells #[.slice none 0 0, .slice none 0 0] 25)) = w1 at *
  obtain ⟨a0, a1, b0, b1, z0, z1, z2, z3⟩ := hch.cells
  have HC := Lib.hid hch
  have HB := Lib.hid hbw
  have HZ := Lib.hid hsz
  have e1 := Lib.hid h1.size
  have e2 := Lib.hid h2.size
  have e3 := Lib.hid h3.size
  have e4 := Lib.hid h4.size
  clear hch hbw hsz h1 h2 h3 h4
  go_wp2_with fail
  refine (refright_any p q d c d e R S d w1 HC.out.i1 HC.out.i2).mono ?_
  rintro _ w2 ⟨rfl, hb2⟩
  rw [HR1.out]
  have HC2 := Lib.hid (HC.out.later hb2)
  have HB2 := Lib.hid (HB.out.trans (hb2.mono HB.out.size))
  clear hb2 a0 a1 b0 b1 z0 z1 z2 z3 HC HB HR1
  obtain ⟨a0, a1, b0, b1, z0, z1, z2, z3⟩ := HC2.out.cells
  go_wp2_with fail
  refine (refright_any s t d f d l T U d w2 HC2.out.i3 HC2.out.i4).mono ?_
  rintro _ w3 ⟨rfl, hb3⟩
  rw [HR2.out]
  have HC3 := Lib.hid (HC2.out.later hb3)
  have HB3 := Lib.hid (HB2.out.trans (hb3.mono HB2.out.size))
  clear hb3 a0 a1 b0 b1 z0 z1 z2 z3 HC2 HB2 HR2
  obtain ⟨a0, a1, b0, b1, z0, z1, z2, z3⟩ := HC3.out.cells
  have HT0 := Lib.hid (TwoR.start w3 w3 (Below.refl _ _))
  go_upto_region 4 with fail
  clear a0 a1 b0 b1 z0 z1 z2 z3
  obtain ⟨gb, hgb⟩ : ∃ gb, gb = w3.heap.size := ⟨_, rfl⟩
  rw [← hgb] at HT0
  rw [← hgb]
  have HGB := Lib.hid hgb
  have HLT := Lib.hid (show w.heap.size + 2 < gb from by rw [hgb]; exact (Array.getElem?_eq_some_iff.1 HC3.out.r).1)
  clear hgb
  have hch := HC3.out.later ((Below.refl _ _).alloc (Nat.le_refl _) (.cells #[.slice none 0 0, .slice none 0 0] 25))
  generalize w3.alloc (.cells #[.slice none 0 0, .slice none 0 0] 25) = w4 at *
  have HC4 := Lib.hid hch
  clear hch
  go_wp2_with fail
  go_loopw [7] (fun i wr => RCut w3 gb d R S T U i wr) (fun i _ => d - (intOf i).toNat)
  case atStart => exact ⟨0, none, none, 0, 0, by omega, rfl, fun j hj => by omega, HT0.out⟩
  case round =>
    obtain ⟨k, p1, p2, c1, c2, hk, rfl, hle, ht⟩ := hrel
    have HT := Lib.hid ht
    have HLE := Lib.hid hle
    have HC5 := Lib.hid (HC3.out.later HT.out.low)
    clear ht hle HC4
    obtain ⟨a0, a1, b0, b1, z0, z1, z2, z3⟩ := HC5.out.cells
    by_cases hlt : k < d
    · obtain ⟨x1, o1, rfl, k1⟩ := HC5.out.i1.cell k hlt
      obtain ⟨x2, o2, rfl, k2⟩ := HC5.out.i2.cell k hlt
      obtain ⟨x3, o3, rfl, k3⟩ := HC5.out.i3.cell k hlt
      obtain ⟨x4, o4, rfl, k4⟩ := HC5.out.i4.cell k hlt
      have i1 : (0 : Int) ≤ k ∧ (k : Int) < d := by omega
      have HS := Lib.hid (cks_succ R T max k)
      have HS2 := Lib.hid (cks_succ S U min k)
      have HN := Lib.hid (show ¬ max (R.getD k 0) (T.getD k 0) ≤ min (S.getD k 0) (U.getD k 0) → ¬ meetP R S T U from fun h h2 => h (h2 k (by rw [← e1.out]; exact hlt)))
      have HQ := Lib.hid (show max (R.getD k 0) (T.getD k 0) ≤ min (S.getD k 0) (U.getD k 0) → (∀ j, j = k → max (R.getD j 0) (T.getD j 0) ≤ min (S.getD j 0) (U.getD j 0)) from fun h j e => by rw [e]; exact h)
      generalize R.getD k 0 = x at *
      generalize S.getD k 0 = y at *
      generalize T.getD k 0 = z at *
      generalize U.getD k 0 = v at *
      go_upto_region 7 with fail
      go_quiet (fail)
      have hbd : Below wr.heap.size wr (wr.drewN nq) := Below.drewN (Below.refl _ _) nq
      have ht := HT.out.later hbd
      have hc := HC5.out.later hbd
      have k1 := (hbd.cell (p := ⟨x1, o1 + k, none⟩) (block_lt_of_cell k1)).trans k1
      have k2 := (hbd.cell (p := ⟨x2, o2 + k, none⟩) (block_lt_of_cell k2)).trans k2
      have k3 := (hbd.cell (p := ⟨x3, o3 + k, none⟩) (block_lt_of_cell k3)).trans k3
      have k4 := (hbd.cell (p := ⟨x4, o4 + k, none⟩) (block_lt_of_cell k4)).trans k4
      clear hbd a0 a1 b0 b1 z0 z1 z2 z3 HT HC5
      generalize wr.drewN nq = wd at *
      have HT := Lib.hid ht
      have HC5 := Lib.hid hc
      obtain ⟨cu, cv, cf, cg⟩ := HT.out.facts
      obtain ⟨a0, a1, b0, b1, z0, z1, z2, z3⟩ := HC5.out.cells
      have hlt1 := HT.out.lt
      clear ht hc
      by_cases g1 : x < z
      · by_cases g2 : v < y
        · by_cases hg : v < z
          · have HNM := Lib.hid (HN.out (by omega))
            go_wp2_with fail
            have hr1 := heap_setCell_same wd (w.heap.size + 2) 0 _ _ (.slice none 0 0) HC5.out.r
            have hr2 := heap_setCell_same _ (w.heap.size + 2) 1 _ _ (.slice none 0 0) hr1
            refine zret_box2 4 5 rfl (w.heap.size + 2) (.slice none 0 0) (.slice none 0 0) (.bool false) (by rfl) (by rfl) (cell_of_row _ (w.heap.size + 2) 0 _ _ _ hr2) (cell_of_row _ (w.heap.size + 2) 1 _ _ _ hr2) ?_
            have e0 := HT.out.aside HB3.out (w.heap.size + 2) 0 (.slice none 0 0) (by omega) HLT.out
            have e5 := e0.aside (Below.refl _ _) (w.heap.size + 2) 1 (.slice none 0 0) (by omega) HLT.out
            exact ⟨false, _, _, _, _, _, _, rfl, e5.low, ⟨fun h => by simp at h, fun h => absurd h HNM.out⟩⟩
          · have HJ := Lib.hid (HQ.out (by omega))
            go_wp2_with (first | (at_builtin; refine wpList_append_own_at _ (by rfl) (.tmp 71) (.tmp 73) 23 (by rfl) (gb + 1) 2 i2 (.int .i64 0) 1 8 URn HI.out HI0.out HI1.out HI2.out (by rfl) (by decide) _ k _ (by rfl) (HT.out.own1.alloc _) ⟨wd.heap.size, 0, none⟩ 1 1 (ivs [z]) (by rfl) (by rfl) (ivs_cells (L := [z]) (heap_alloc_new wd _)) (ivs_one _) (by unfold maxLen; omega) (by omega) (by simp; omega) ?_; intro v4 w5 hown4 hgrow4 _ hat4; obtain ⟨q4, c4, rfl⟩ := ownv_form hown4; have HN4 := Lib.hid (new_of_set w5 ⟨gb, 0, none⟩ (.slice q4 (k + 1) c4) (i64s [v]) 2); obtain ⟨⟨ca1, cb1⟩, ht4⟩ := TwoR.left HT.out hown4 hgrow4 hat4; obtain ⟨-, cv4, -, cg4⟩ := ht4.facts; have hlt4 := ht4.lt; have HT4 := Lib.hid ht4; clear hown4 hgrow4 hat4 ht4) | (at_builtin; refine wpList_append_own_at _ (by rfl) (.tmp 77) (.tmp 79) 23 (by rfl) (gb + 1) 2 i2 (.int .i64 0) 1 8 URn HI.out HI0.out HI1.out HI2.out (by rfl) (by decide) _ k _ (by rfl) (HT4.out.own2.alloc _) ⟨w5.heap.size, 0, none⟩ 1 1 (ivs [v]) (by rfl) (by rfl) (ivs_cells (L := [v]) HN4.out) (ivs_one _) (by unfold maxLen; omega) (by omega) (by have h := hlt4; simp at h; simp; omega) ?_; intro v5 w6 hown5 hgrow5 _ hat5; obtain ⟨q5, c5, rfl⟩ := ownv_form hown5; obtain ⟨⟨ca5, cb5⟩, ht5⟩ := TwoR.right HT4.out hown5 hgrow5 hat5; have HT5 := Lib.hid ht5; clear hown5 hgrow5 hat5 ht5))
            have ht5 := HT5.out
            have m1 : z = max x z := by omega
            have m2 : v = min y v := by omega
            rw [m1, m2, ← HS.out, ← HS2.out] at ht5
            have HE := Lib.hid ht5
            clear ht5
            go_roundw
            case rel => exact ⟨k + 1, _, _, _, _, by omega, by go_num, fun j hj => by
                by_cases e : j = k
                · exact HJ.out j e
                · exact HLE.out j (by omega), HE.out⟩
            case measure => simp [intOf]; omega
        · by_cases hg : y < z
          · have HNM := Lib.hid (HN.out (by omega))
            go_wp2_with fail
            have hr1 := heap_setCell_same wd (w.heap.size + 2) 0 _ _ (.slice none 0 0) HC5.out.r
            have hr2 := heap_setCell_same _ (w.heap.size + 2) 1 _ _ (.slice none 0 0) hr1
            refine zret_box2 4 5 rfl (w.heap.size + 2) (.slice none 0 0) (.slice none 0 0) (.bool false) (by rfl) (by rfl) (cell_of_row _ (w.heap.size + 2) 0 _ _ _ hr2) (cell_of_row _ (w.heap.size + 2) 1 _ _ _ hr2) ?_
            have e0 := HT.out.aside HB3.out (w.heap.size + 2) 0 (.slice none 0 0) (by omega) HLT.out
            have e5 := e0.aside (Below.refl _ _) (w.heap.size + 2) 1 (.slice none 0 0) (by omega) HLT.out
            exact ⟨false, _, _, _, _, _, _, rfl, e5.low, ⟨fun h => by simp at h, fun h => absurd h HNM.out⟩⟩
          · have HJ := Lib.hid (HQ.out (by omega))
            go_wp2_with (first | (at_builtin; refine wpList_append_own_at _ (by rfl) (.tmp 71) (.tmp 73) 23 (by rfl) (gb + 1) 2 i2 (.int .i64 0) 1 8 URn HI.out HI0.out HI1.out HI2.out (by rfl) (by decide) _ k _ (by rfl) (HT.out.own1.alloc _) ⟨wd.heap.size, 0, none⟩ 1 1 (ivs [z]) (by rfl) (by rfl) (ivs_cells (L := [z]) (heap_alloc_new wd _)) (ivs_one _) (by unfold maxLen; omega) (by omega) (by simp; omega) ?_; intro v4 w5 hown4 hgrow4 _ hat4; obtain ⟨q4, c4, rfl⟩ := ownv_form hown4; have HN4 := Lib.hid (new_of_set w5 ⟨gb, 0, none⟩ (.slice q4 (k + 1) c4) (i64s [y]) 2); obtain ⟨⟨ca1, cb1⟩, ht4⟩ := TwoR.left HT.out hown4 hgrow4 hat4; obtain ⟨-, cv4, -, cg4⟩ := ht4.facts; have hlt4 := ht4.lt; have HT4 := Lib.hid ht4; clear hown4 hgrow4 hat4 ht4) | (at_builtin; refine wpList_append_own_at _ (by rfl) (.tmp 77) (.tmp 79) 23 (by rfl) (gb + 1) 2 i2 (.int .i64 0) 1 8 URn HI.out HI0.out HI1.out HI2.out (by rfl) (by decide) _ k _ (by rfl) (HT4.out.own2.alloc _) ⟨w5.heap.size, 0, none⟩ 1 1 (ivs [y]) (by rfl) (by rfl) (ivs_cells (L := [y]) HN4.out) (ivs_one _) (by unfold maxLen; omega) (by omega) (by have h := hlt4; simp at h; simp; omega) ?_; intro v5 w6 hown5 hgrow5 _ hat5; obtain ⟨q5, c5, rfl⟩ := ownv_form hown5; obtain ⟨⟨ca5, cb5⟩, ht5⟩ := TwoR.right HT4.out hown5 hgrow5 hat5; have HT5 := Lib.hid ht5; clear hown5 hgrow5 hat5 ht5))
            have ht5 := HT5.out
            have m1 : z = max x z := by omega
            have m2 : y = min y v := by omega
            rw [m1, m2, ← HS.out, ← HS2.out] at ht5
            have HE := Lib.hid ht5
            clear ht5
            go_roundw
            case rel => exact ⟨k + 1, _, _, _, _, by omega, by go_num, fun j hj => by
                by_cases e : j = k
                · exact HJ.out j e
                · exact HLE.out j (by omega), HE.out⟩
            case measure => simp [intOf]; omega
      · by_cases g2 : v < y
        · by_cases hg : v < x
          · have HNM := Lib.hid (HN.out (by omega))
            go_wp2_with fail
            have hr1 := heap_setCell_same wd (w.heap.size + 2) 0 _ _ (.slice none 0 0) HC5.out.r
            have hr2 := heap_setCell_same _ (w.heap.size + 2) 1 _ _ (.slice none 0 0) hr1
            refine zret_box2 4 5 rfl (w.heap.size + 2) (.slice none 0 0) (.slice none 0 0) (.bool false) (by rfl) (by rfl) (cell_of_row _ (w.heap.size + 2) 0 _ _ _ hr2) (cell_of_row _ (w.heap.size + 2) 1 _ _ _ hr2) ?_
            have e0 := HT.out.aside HB3.out (w.heap.size + 2) 0 (.slice none 0 0) (by omega) HLT.out
            have e5 := e0.aside (Below.refl _ _) (w.heap.size + 2) 1 (.slice none 0 0) (by omega) HLT.out
            exact ⟨false, _, _, _, _, _, _, rfl, e5.low, ⟨fun h => by simp at h, fun h => absurd h HNM.out⟩⟩
          · have HJ := Lib.hid (HQ.out (by omega))
            go_wp2_with (first | (at_builtin; refine wpList_append_own_at _ (by rfl) (.tmp 71) (.tmp 73) 23 (by rfl) (gb + 1) 2 i2 (.int .i64 0) 1 8 URn HI.out HI0.out HI1.out HI2.out (by rfl) (by decide) _ k _ (by rfl) (HT.out.own1.alloc _) ⟨wd.heap.size, 0, none⟩ 1 1 (ivs [x]) (by rfl) (by rfl) (ivs_cells (L := [x]) (heap_alloc_new wd _)) (ivs_one _) (by unfold maxLen; omega) (by omega) (by simp; omega) ?_; intro v4 w5 hown4 hgrow4 _ hat4; obtain ⟨q4, c4, rfl⟩ := ownv_form hown4; have HN4 := Lib.hid (new_of_set w5 ⟨gb, 0, none⟩ (.slice q4 (k + 1) c4) (i64s [v]) 2); obtain ⟨⟨ca1, cb1⟩, ht4⟩ := TwoR.left HT.out hown4 hgrow4 hat4; obtain ⟨-, cv4, -, cg4⟩ := ht4.facts; have hlt4 := ht4.lt; have HT4 := Lib.hid ht4; clear hown4 hgrow4 hat4 ht4) | (at_builtin; refine wpList_append_own_at _ (by rfl) (.tmp 77) (.tmp 79) 23 (by rfl) (gb + 1) 2 i2 (.int .i64 0) 1 8 URn HI.out HI0.out HI1.out HI2.out (by rfl) (by decide) _ k _ (by rfl) (HT4.out.own2.alloc _) ⟨w5.heap.size, 0, none⟩ 1 1 (ivs [v]) (by rfl) (by rfl) (ivs_cells (L := [v]) HN4.out) (ivs_one _) (by unfold maxLen; omega) (by omega) (by have h := hlt4; simp at h; simp; omega) ?_; intro v5 w6 hown5 hgrow5 _ hat5; obtain ⟨q5, c5, rfl⟩ := ownv_form hown5; obtain ⟨⟨ca5, cb5⟩, ht5⟩ := TwoR.right HT4.out hown5 hgrow5 hat5; have HT5 := Lib.hid ht5; clear hown5 hgrow5 hat5 ht5))
            have ht5 := HT5.out
            have m1 : x = max x z := by omega
            have m2 : v = min y v := by omega
            rw [m1, m2, ← HS.out, ← HS2.out] at ht5
            have HE := Lib.hid ht5
            clear ht5
            go_roundw
            case rel => exact ⟨k + 1, _, _, _, _, by omega, by go_num, fun j hj => by
                by_cases e : j = k
                · exact HJ.out j e
                · exact HLE.out j (by omega), HE.out⟩
            case measure => simp [intOf]; omega
        · by_cases hg : y < x
          · have HNM := Lib.hid (HN.out (by omega))
            go_wp2_with fail
            have hr1 := heap_setCell_same wd (w.heap.size + 2) 0 _ _ (.slice none 0 0) HC5.out.r
            have hr2 := heap_setCell_same _ (w.heap.size + 2) 1 _ _ (.slice none 0 0) hr1
            refine zret_box2 4 5 rfl (w.heap.size + 2) (.slice none 0 0) (.slice none 0 0) (.bool false) (by rfl) (by rfl) (cell_of_row _ (w.heap.size + 2) 0 _ _ _ hr2) (cell_of_row _ (w.heap.size + 2) 1 _ _ _ hr2) ?_
            have e0 := HT.out.aside HB3.out (w.heap.size + 2) 0 (.slice none 0 0) (by omega) HLT.out
            have e5 := e0.aside (Below.refl _ _) (w.heap.size + 2) 1 (.slice none 0 0) (by omega) HLT.out
            exact ⟨false, _, _, _, _, _, _, rfl, e5.low, ⟨fun h => by simp at h, fun h => absurd h HNM.out⟩⟩
          · have HJ := Lib.hid (HQ.out (by omega))
            go_wp2_with (first | (at_builtin; refine wpList_append_own_at _ (by rfl) (.tmp 71) (.tmp 73) 23 (by rfl) (gb + 1) 2 i2 (.int .i64 0) 1 8 URn HI.out HI0.out HI1.out HI2.out (by rfl) (by decide) _ k _ (by rfl) (HT.out.own1.alloc _) ⟨wd.heap.size, 0, none⟩ 1 1 (ivs [x]) (by rfl) (by rfl) (ivs_cells (L := [x]) (heap_alloc_new wd _)) (ivs_one _) (by unfold maxLen; omega) (by omega) (by simp; omega) ?_; intro v4 w5 hown4 hgrow4 _ hat4; obtain ⟨q4, c4, rfl⟩ := ownv_form hown4; have HN4 := Lib.hid (new_of_set w5 ⟨gb, 0, none⟩ (.slice q4 (k + 1) c4) (i64s [y]) 2); obtain ⟨⟨ca1, cb1⟩, ht4⟩ := TwoR.left HT.out hown4 hgrow4 hat4; obtain ⟨-, cv4, -, cg4⟩ := ht4.facts; have hlt4 := ht4.lt; have HT4 := Lib.hid ht4; clear hown4 hgrow4 hat4 ht4) | (at_builtin; refine wpList_append_own_at _ (by rfl) (.tmp 77) (.tmp 79) 23 (by rfl) (gb + 1) 2 i2 (.int .i64 0) 1 8 URn HI.out HI0.out HI1.out HI2.out (by rfl) (by decide) _ k _ (by rfl) (HT4.out.own2.alloc _) ⟨w5.heap.size, 0, none⟩ 1 1 (ivs [y]) (by rfl) (by rfl) (ivs_cells (L := [y]) HN4.out) (ivs_one _) (by unfold maxLen; omega) (by omega) (by have h := hlt4; simp at h; simp; omega) ?_; intro v5 w6 hown5 hgrow5 _ hat5; obtain ⟨q5, c5, rfl⟩ := ownv_form hown5; obtain ⟨⟨ca5, cb5⟩, ht5⟩ := TwoR.right HT4.out hown5 hgrow5 hat5; have HT5 := Lib.hid ht5; clear hown5 hgrow5 hat5 ht5))
            have ht5 := HT5.out
            have m1 : x = max x z := by omega
            have m2 : y = min y v := by omega
            rw [m1, m2, ← HS.out, ← HS2.out] at ht5
            have HE := Lib.hid ht5
            clear ht5
            go_roundw
            case rel => exact ⟨k + 1, _, _, _, _, by omega, by go_num, fun j hj => by
                by_cases e : j = k
                · exact HJ.out j e
                · exact HLE.out j (by omega), HE.out⟩
            case measure => simp [intOf]; omega
    · obtain rfl : k = d := by omega
      have HM := Lib.hid (show meetP R S T U from fun j hj => HLE.out j (by rw [e1.out]; exact hj))
      obtain ⟨cu, cv, cf, cg⟩ := HT.out.facts
      go_wp2_with fail
      have hr1 := heap_setCell_same wr (w.heap.size + 2) 0 _ _ (.slice p1 k c1) HC5.out.r
      have hr2 := heap_setCell_same _ (w.heap.size + 2) 1 _ _ (.slice p2 k c2) hr1
      refine zret_box2 4 5 rfl (w.heap.size + 2) (.slice p1 k c1) (.slice p2 k c2) (.bool true) (by rfl) (by rfl) (cell_of_row _ (w.heap.size + 2) 0 _ _ _ hr2) (cell_of_row _ (w.heap.size + 2) 1 _ _ _ hr2) ?_
      have e0 := HT.out.aside HB3.out (w.heap.size + 2) 0 (.slice p1 k c1) (by omega) HLT.out
      have e5 := e0.aside (Below.refl _ _) (w.heap.size + 2) 1 (.slice p2 k c2) (by omega) HLT.out
      exact ⟨true, _, _, _, _, _, _, rfl, e5.low, ⟨fun _ => HM.out, fun _ => rfl⟩⟩
end Go.Proofs.Ytnigfipjcnamfaa.Ak

/- box's functions of a side that tell two numbers: Whole's, Cut's. -/
namespace Go.Proofs.Ytnigfipjcnamfaa
open Go.RowKit

set_option maxRecDepth 100000 in
set_option maxHeartbeats 1000000 in
theorem cutside (B C : Nat) (p q r s : Option Addr) (n c e f g : Nat) (R S T U : List Int) (k : Nat) (hk : k < n) (w : World) (hB : BoxAt w B p n c q n e) (hC : BoxAt w C r n f s n g) (h1 : Ints w p n c R) (h2 : Ints w q n e S) (h3 : Ints w r n f T) (h4 : Ints w s n g U) :
    Calls Try.prog 51 #[.int .i64 k, .pointer (some ⟨B, 0, none⟩), .pointer (some ⟨C, 0, none⟩)] w fun e w' => e = .returned (.tuple #[.int .i64 (max (R.getD k 0) (T.getD k 0)), .int .i64 (min (S.getD k 0) (U.getD k 0))]) ∧ ∃ j, w' = w.drewN j := by
  obtain ⟨hB0, hB1⟩ := hB
  obtain ⟨hC0, hC1⟩ := hC
  obtain ⟨g1, o1, rfl, hc1⟩ := h1.cell k hk
  obtain ⟨g2, o2, rfl, hc2⟩ := h2.cell k hk
  obtain ⟨g3, o3, rfl, hc3⟩ := h3.cell k hk
  obtain ⟨g4, o4, rfl, hc4⟩ := h4.cell k hk
  clear h1 h2 h3 h4
  generalize R.getD k 0 = xR at *
  generalize S.getD k 0 = xS at *
  generalize T.getD k 0 = xT at *
  generalize U.getD k 0 = xU at *
  have b1 : (0 : Int) ≤ k ∧ (k : Int) < n := by omega
  go_enter Try.func51, Try.ntmps51
  go_wp2_with fail
  go_quiet (fail)
  go_wp2_with fail
  go_ret2
  exact ⟨rfl, _, rfl⟩
end Go.Proofs.Ytnigfipjcnamfaa

/- box.Hull of boxes that are right. -/
namespace Go.Proofs.Ytnigfipjcnamfaa
open Go.RowKit

theorem max_ok {x y : Int} (hx : -9223372036854775808 ≤ x ∧ x ≤ 9223372036854775807) (hy : -9223372036854775808 ≤ y ∧ y ≤ 9223372036854775807) : -9223372036854775808 ≤ max x y ∧ max x y ≤ 9223372036854775807 := by omega
theorem min_ok {x y : Int} (hx : -9223372036854775808 ≤ x ∧ x ≤ 9223372036854775807) (hy : -9223372036854775808 ≤ y ∧ y ≤ 9223372036854775807) : -9223372036854775808 ≤ min x y ∧ min x y ≤ 9223372036854775807 := by omega
theorem four_bx {w w2 : World} {p q r s : Option Addr} {n c m e k f l g : Nat} {R S T U : List Int} (h1 : Ints w p n c R) (h2 : Ints w q m e S) (h3 : Ints w r k f T) (h4 : Ints w s l g U)
    (h : w2 = (((w.alloc (.cells #[.slice p n c, .slice q m e] 25)).alloc (.cells #[.slice r k f, .slice s l g] 25)).alloc (.cells #[.slice none 0 0, .slice none 0 0] 25))) :
    Four w w2 w.heap.size (w.heap.size + 1) p q r s n c m e k f l g R S T U ∧ Bx w2 (w.heap.size + 2) (.slice none 0 0) (.slice none 0 0) := by
  subst h
  have hF := four_of h1 h2 h3 h4 rfl
  have hs : ((w.alloc (.cells #[.slice p n c, .slice q m e] 25)).alloc (.cells #[.slice r k f, .slice s l g] 25)).heap.size = w.heap.size + 2 := (box_two w _ _ _ _ _ rfl).2.2
  generalize (w.alloc (.cells #[.slice p n c, .slice q m e] 25)).alloc (.cells #[.slice r k f, .slice s l g] 25) = w1 at *
  have hx := Bx.fresh w1 (.slice none 0 0) (.slice none 0 0)
  rw [hs] at hx
  exact ⟨hF.later ((Below.refl _ _).alloc (Nat.le_refl _) _), hx⟩
end Go.Proofs.Ytnigfipjcnamfaa

/- box.Cut. -/
namespace Go.Proofs.Ytnigfipjcnamfaa
open Go.RowKit

theorem meetsB_dims {R S T U : List Int} {n m k l : Nat} (h : meetsB R S T U n m k l = true) : 1 ≤ n ∧ n ≤ 8 ∧ m = n ∧ k = n ∧ l = n := by
  unfold meetsB at h
  rw [Bool.and_eq_true] at h
  exact pairB_dims h.1
/-- What Cut tells. -/
def CutPost (w : World) (R S T U : List Int) (n m k l : Nat) (e : Ending) (w' : World) : Prop :=
  if meetsB R S T U n m k l = true then ∃ v, e = .returned (.tuple #[v, .bool true]) ∧ MadeBox w (fun i => max (R.getD i 0) (T.getD i 0)) (fun i => min (S.getD i 0) (U.getD i 0)) n v w'
  else e = .returned (.tuple #[.agg #[.slice none 0 0, .slice none 0 0], .bool false]) ∧ Below w.heap.size w w'
theorem ret_box2 {fn : Func} {P : Ending → World → Prop} (p u : Tmp) (hr : fn.results = #[.cell p 25, .tmp u]) {tmps : Array Value} {w : World} (g : Nat) (a b x : Value)
    (hp : tmps.getD p undef = .pointer (some ⟨g, 0, none⟩)) (hu : tmps.getD u undef = x) (hg : Bx w g a b) (h : P (.returned (.tuple #[.agg #[a, b], x])) w) : bodyPost Try.prog fn P .ret ⟨tmps, []⟩ w := by
  obtain ⟨r0, r1, _, _⟩ := hg.facts
  refine bodyPost_ret (a := ⟨tmps, []⟩) (v := .tuple #[.agg #[a, b], x]) ?_ rfl h
  have hp' : tmps[p]?.getD undef = .pointer (some ⟨g, 0, none⟩) := by simpa using hp
  have hu' : tmps[u]?.getD undef = x := by simpa using hu
  simp [results, hr, hp', hu', go_sem, r0, r1]
set_option maxRecDepth 100000 in
set_option maxHeartbeats 1000000 in
theorem cut_any (p q r s : Option Addr) (n c m e k f l g : Nat) (R S T U : List Int) (w : World) (h1 : Ints w p n c R) (h2 : Ints w q m e S) (h3 : Ints w r k f T) (h4 : Ints w s l g U) :
    Calls Try.prog 32 #[.agg #[.slice p n c, .slice q m e], .agg #[.slice r k f, .slice s l g]] w (CutPost w R S T U n m k l) := by
  go_enter Try.func32, Try.ntmps32
  go_upto_region 1 with fail
  obtain ⟨w2, hw2⟩ : ∃ w2, w2 = (((w.alloc (.cells #[.slice p n c, .slice q m e] 25)).alloc (.cells #[.slice r k f, .slice s l g] 25)).alloc (.cells #[.slice none 0 0, .slice none 0 0] 25)) := ⟨_, rfl⟩
  have HF := Lib.hid (four_bx h1 h2 h3 h4 hw2).1
  have HX := Lib.hid (four_bx h1 h2 h3 h4 hw2).2
  rw [← hw2]
  clear hw2 h1 h2 h3 h4
  have b := HF.out.ba
  obtain ⟨b0, b1⟩ := b
  have b := HF.out.bb
  obtain ⟨b2, b3⟩ := b
  go_wp2_with fail
  refine (meets_any p q r s n c m e k f l g R S T U w2 HF.out.i1 HF.out.i2 HF.out.i3 HF.out.i4).mono ?_
  rintro _ w3 ⟨rfl, hb3⟩
  have HG := Lib.hid (HF.out.later hb3)
  have HY := Lib.hid (HX.out.later hb3)
  clear hb3 HF HX b0 b1 b2 b3
  have b := HG.out.ba
  obtain ⟨b0, b1⟩ := b
  obtain ⟨c0, c1, c2, c3⟩ := HY.out.facts
  cases hr : meetsB R S T U n m k l with
  | false =>
    have HR := Lib.hid (show ¬ meetsB R S T U n m k l = true by rw [hr]; simp)
    clear hr
    go_wp2_with fail
    exact ret_box2 4 5 rfl (w.heap.size + 2) _ _ (.bool false) rfl rfl (HY.out.set _ _) (by
      show CutPost _ _ _ _ _ _ _ _ _ _ _
      unfold CutPost
      rw [if_neg HR.out]
      exact ⟨rfl, (HG.out.below.setCell (p := ⟨w.heap.size + 2, 0, none⟩) (by show w.heap.size ≤ w.heap.size + 2; omega) _).setCell (p := ⟨w.heap.size + 2, 1, none⟩) (by show w.heap.size ≤ w.heap.size + 2; omega) _⟩)
  | true =>
    have HR := Lib.hid hr
    obtain ⟨hd1, hd2, rfl, rfl, rfl⟩ := meetsB_dims hr
    have HE := Lib.hid (build_any l hd1 hd2 (fun i => max (R.getD i 0) (T.getD i 0)) (fun i => min (S.getD i 0) (U.getD i 0)) 51 #[.pointer (some ⟨w.heap.size, 0, none⟩), .pointer (some ⟨w.heap.size + 1, 0, none⟩)] (enter_side Try.func51 (by kernel_rfl) rfl) w3 (fun k w' hk hb => cutside w.heap.size (w.heap.size + 1) p q r s l c e f g R S T U k hk w' (HG.out.later hb).ba (HG.out.later hb).bb (HG.out.later hb).i1 (HG.out.later hb).i2 (HG.out.later hb).i3 (HG.out.later hb).i4))
    clear hr hd1 hd2
    go_wp2_with fail
    refine HE.out.mono ?_
    rintro _ w4 ⟨g1, g2, rfl, h1, h2, l1, l2, ne, hb⟩
    obtain ⟨d0, d1, d2, d3⟩ := (HY.out.later hb).facts
    have HL := Lib.hid (box_laid HY.out (show w.heap.size ≤ w.heap.size + 2 by omega) HG.out.below hb h1 h2 l1 l2 (fun _ hk => max_ok (HG.out.i1.get _ hk) (HG.out.i3.get _ hk)) (fun _ hk => min_ok (HG.out.i2.get _ hk) (HG.out.i4.get _ hk)))
    clear h1 h2 l1 l2 ne hb b0 b1 c0 c1 c2 c3
    go_wp2_with fail
    generalize (w4.setCell ⟨w.heap.size + 2, 0, none⟩ (.slice (some ⟨g1, 0, none⟩) l l)).setCell ⟨w.heap.size + 2, 1, none⟩ (.slice (some ⟨g2, 0, none⟩) l l) = w9 at *
    exact ret_box2 4 5 rfl (w.heap.size + 2) _ _ (.bool true) rfl rfl HL.out.1 (by
      show CutPost _ _ _ _ _ _ _ _ _ _ _
      unfold CutPost
      rw [if_pos HR.out]
      exact ⟨_, rfl, HL.out.2⟩)
end Go.Proofs.Ytnigfipjcnamfaa

/- indentureref04.Cut of any boxes. -/
namespace Go.Proofs.Ytnigfipjcnamfaa.Ak
open Go.RowKit

/-- Whether boxes meet, and some box. -/
def CutAll (w : World) (b : Bool) (e : Ending) (w' : World) : Prop := ∃ (p1 p2 : Option Addr) (n1 c1 n2 c2 : Nat), e = .returned (.tuple #[.agg #[.slice p1 n1 c1, .slice p2 n2 c2], .bool b]) ∧ Below w.heap.size w w'
set_option maxRecDepth 100000 in
set_option maxHeartbeats 2000000 in
theorem cut_all (p q s t : Option Addr) (n c m e k f l h : Nat) (R S T U : List Int) (w : World) (h1 : Ints w p n c R) (h2 : Ints w q m e S) (h3 : Ints w s k f T) (h4 : Ints w t l h U) :
    Calls Try.prog 31 #[.agg #[.slice p n c, .slice q m e], .agg #[.slice s k f, .slice t l h]] w (CutAll w (meetsB T U R S k l n m)) := by
  by_cases hr : rightB R S n m n = true ∧ rightB T U k l n = true
  · have d1 := rightB_dims hr.1
    have d2 := rightB_dims hr.2
    obtain rfl : m = n := by omega
    obtain rfl : k = m := by omega
    obtain rfl : l = k := by omega
    refine (rcut_any p q s t c e f h l R S T U w h1 h2 h3 h4 hr.1 hr.2).mono ?_
    rintro _ w' ⟨ok, p1, p2, n1, c1, n2, c2, rfl, hb, hok⟩
    have : ok = meetsB T U R S l l l l := by rw [Bool.eq_iff_iff, hok, meets_iff hr.1 hr.2 h1.size]
    subst this
    exact ⟨p1, p2, n1, c1, n2, c2, rfl, hb⟩
  · have hm : meetsB T U R S k l n m = false := by
      cases e1 : rightB R S n m n with
      | false => exact meets_left e1
      | true =>
        cases e2 : rightB T U k l n with
        | false => exact meets_right e2
        | true => exact absurd ⟨e1, e2⟩ hr
    rw [hm]
    clear hm
    obtain ⟨g, hg⟩ : ∃ g, g = w.heap.size := ⟨_, rfl⟩
    have b1 : Below w.heap.size w (w.alloc (.cells #[.slice p n c, .slice q m e] 25)) := (Below.refl _ _).alloc (Nat.le_refl _) _
    have s1 : (w.alloc (.cells #[.slice p n c, .slice q m e] 25)).heap.size = w.heap.size + 1 := by simp
    have a1 := Bx.fresh w (.slice p n c) (.slice q m e)
    go_enter Try.func31, Try.ntmps31
    go_upto_region 1 with fail
    generalize w.alloc (.cells #[.slice p n c, .slice q m e] 25) = w1 at *
    have b2 : Below w1.heap.size w1 (w1.alloc (.cells #[.slice s k f, .slice t l h] 25)) := (Below.refl _ _).alloc (Nat.le_refl _) _
    have s2 : (w1.alloc (.cells #[.slice s k f, .slice t l h] 25)).heap.size = w1.heap.size + 1 := by simp
    have a2 := Bx.fresh w1 (.slice s k f) (.slice t l h)
    generalize w1.alloc (.cells #[.slice s k f, .slice t l h] 25) = w2 at *
    have b3 : Below w2.heap.size w2 (w2.alloc (.cells #[.slice none 0 0, .slice none 0 0] 25)) := (Below.refl _ _).alloc (Nat.le_refl _) _
    have a3 := Bx.fresh w2 (.slice none 0 0) (.slice none 0 0)
    generalize w2.alloc (.cells #[.slice none 0 0, .slice none 0 0] 25) = w3 at *
    have b23 := b2.trans (b3.mono b2.size)
    have b13 := b1.trans (b23.mono b1.size)
    rw [s2, s1] at a3
    rw [s1] at a2
    have A1 := Lib.hid ((a1.later b2).later b3)
    have A2 := Lib.hid (a2.later b3)
    have A3 := Lib.hid a3
    have H1 := Lib.hid (h1.later b13)
    have H2 := Lib.hid (h2.later b13)
    have H3 := Lib.hid (h3.later b13)
    have H4 := Lib.hid (h4.later b13)
    have HB := Lib.hid b13
    clear b1 b2 b3 b23 b13 a1 a2 a3 s1 s2 h1 h2 h3 h4
    clear w1 w2
    rw [← hg] at A1 A2 A3 ⊢
    have hgw : w.heap.size ≤ g := by omega
    clear hg
    obtain ⟨x0, x1, -, -⟩ := A1.out.facts
    obtain ⟨x2, x3, -, -⟩ := A2.out.facts
    go_wp2_with fail
    refine (refright_any p q n c m e R S n w3 H1.out H2.out).mono ?_
    rintro _ w4 ⟨rfl, hb4⟩
    have B1 := Lib.hid (A1.out.later hb4)
    have B2 := Lib.hid (A2.out.later hb4)
    have B3 := Lib.hid (A3.out.later hb4)
    have K3 := Lib.hid (H3.out.later hb4)
    have K4 := Lib.hid (H4.out.later hb4)
    have HB4 := Lib.hid (HB.out.trans (hb4.mono HB.out.size))
    clear hb4 A1 A2 A3 H1 H2 H3 H4 HB x0 x1 x2 x3
    obtain ⟨x0, x1, -, -⟩ := B1.out.facts
    obtain ⟨x2, x3, -, -⟩ := B2.out.facts
    obtain ⟨y0, y1, z0, z1⟩ := B3.out.facts
    cases e1 : rightB R S n m n with
    | false =>
      clear hr e1
      go_wp2_with fail
      exact ret_box2 4 5 rfl (g + 1 + 1) _ _ (.bool false) rfl rfl (B3.out.set _ _) ⟨none, none, 0, 0, 0, 0, rfl, (HB4.out.setCell (p := ⟨g + 1 + 1, 0, none⟩) (show w.heap.size ≤ g + 1 + 1 by omega) _).setCell (p := ⟨g + 1 + 1, 1, none⟩) (show w.heap.size ≤ g + 1 + 1 by omega) _⟩
    | true =>
      have e2 : rightB T U k l n = false := by
        cases e2 : rightB T U k l n with
        | false => rfl
        | true => exact absurd ⟨e1, e2⟩ hr
      have E2 := Lib.hid e2
      clear hr e1 e2
      go_wp2_with fail
      refine (refright_any s t k f l h T U n w4 K3.out K4.out).mono ?_
      rintro _ w5 ⟨rfl, hb5⟩
      rw [E2.out]
      have C3 := Lib.hid (B3.out.later hb5)
      have HB5 := Lib.hid (HB4.out.trans (hb5.mono HB4.out.size))
      clear hb5 B1 B2 B3 K3 K4 HB4 x0 x1 x2 x3 y0 y1 z0 z1
      obtain ⟨y0, y1, z0, z1⟩ := C3.out.facts
      go_wp2_with fail
      exact ret_box2 4 5 rfl (g + 1 + 1) _ _ (.bool false) rfl rfl (C3.out.set _ _) ⟨none, none, 0, 0, 0, 0, rfl, (HB5.out.setCell (p := ⟨g + 1 + 1, 0, none⟩) (show w.heap.size ≤ g + 1 + 1 by omega) _).setCell (p := ⟨g + 1 + 1, 1, none⟩) (show w.heap.size ≤ g + 1 + 1 by omega) _⟩
end Go.Proofs.Ytnigfipjcnamfaa.Ak

/- indentureref14.Open. -/
namespace Go.Proofs.Ytnigfipjcnamfaa.Ak
open Go.RowKit

theorem open_want {R S T U : List Int} {n m k l : Nat} (h : meetsB T U R S k l n m = true) : (!hasB R S T n m k || !hasB R S U n m l) = !holdsB R S T U n m k l := by
  have hp : pairB T U R S k l n m = true := by
    unfold meetsB at h
    exact (Bool.and_eq_true_iff.1 h).1
  obtain ⟨d1, d2, d3, d4, d5⟩ := pairB_dims hp
  unfold pairB at hp
  obtain ⟨h1, h2⟩ := Bool.and_eq_true_iff.1 hp
  subst d3
  subst d4
  subst d5
  rw [← holds_want, h1, h2]
  simp
set_option maxRecDepth 100000 in
set_option maxHeartbeats 2000000 in
theorem ropen_any (p q a s t x : Option Addr) (n c m e an ac k f l h xn xc : Nat) (R S A T U : List Int) (kd cl lim lv : Int) (cnt : Bool) (K : Array Value) (w : World) (hR : Ints w p n c R) (hS : Ints w q m e S) (hA : Ints w a an ac A) (hK : KOk K s k f t l h lv x xn xc) (hT : Ints w s k f T) (hU : Ints w t l h U) :
    Calls Try.prog 13 #[.agg #[.slice p n c, .slice q m e, .int .u8 kd, .int .i64 cl, .slice a an ac, .int .i64 lim, .bool cnt], .agg K] w fun e w' => e = .returned (.bool (openB lv lim cnt R S T U n m k l)) ∧ Below w.heap.size w w' := by
  obtain ⟨w2, hw2⟩ : ∃ w2, w2 = (w.alloc (.cells #[.slice p n c, .slice q m e, .int .u8 kd, .int .i64 cl, .slice a an ac, .int .i64 lim, .bool cnt] 29)).alloc (.cells K 44) := ⟨_, rfl⟩
  obtain ⟨hq, hk, -⟩ := two_in (kd := kd) (cl := cl) (lim := lim) (cnt := cnt) hR hS hA hK hT hU w2 hw2
  obtain ⟨g, hg⟩ : ∃ g, g = w.heap.size := ⟨_, rfl⟩
  go_enter Try.func13, Try.ntmps13
  go_upto_region 1 with fail
  rw [← hw2]
  rw [← hg] at hq hk ⊢
  clear hw2 hg hR hS hA hT hU
  have HQ := Lib.hid hq
  have HK := Lib.hid hk
  clear hq hk
  obtain ⟨x0, x1, -, -, -, x5, x6⟩ := HQ.out.cells
  obtain ⟨y0, y1, y2, -⟩ := HK.out.cells
  go_wp2_with fail
  refine (cut_all p q s t n c m e k f l h R S T U w2 HQ.out.lo HQ.out.hi HK.out.lo HK.out.hi).mono ?_
  rintro _ w3 ⟨p1, p2, n1, c1, n2, c2, rfl, hb3⟩
  have HQ3 := Lib.hid (HQ.out.later hb3)
  have HK3 := Lib.hid (HK.out.later hb3)
  clear hb3 HQ HK x0 x1 x5 x6 y0 y1 y2
  go_upto_region 2 with fail
  have b4 : Below w3.heap.size w3 (w3.alloc (.cells #[.slice p1 n1 c1, .slice p2 n2 c2] 25)) := (Below.refl _ _).alloc (Nat.le_refl _) _
  generalize w3.alloc (.cells #[.slice p1 n1 c1, .slice p2 n2 c2] 25) = w4 at *
  have HQ4 := Lib.hid (HQ3.out.later b4)
  have HK4 := Lib.hid (HK3.out.later b4)
  clear b4 HQ3 HK3
  obtain ⟨x0, x1, -, -, -, x5, x6⟩ := HQ4.out.cells
  obtain ⟨y0, y1, y2, -⟩ := HK4.out.cells
  by_cases hlv : lv = 0
  · have HV := Lib.hid (show openB lv lim cnt R S T U n m k l = false from by unfold openB; rw [if_pos hlv])
    have q1 : (lv == 0) = true := by simpa using hlv
    clear hlv
    go_wp2_with fail
    go_ret
    exact ⟨congrArg (fun b => Ending.returned (.bool b)) HV.out.symm, HQ4.out.below⟩
  have HV := Lib.hid (show openB lv lim cnt R S T U n m k l = if meetsB T U R S k l n m = true then (if cnt = true then !holdsB R S T U n m k l else decide (lim ≠ 0)) else false from by unfold openB; rw [if_neg hlv])
  have q1 : (lv == 0) = false := by simpa using hlv
  clear hlv
  cases hm : meetsB T U R S k l n m with
  | false =>
    rw [hm, if_neg (by simp)] at HV
    clear hm
    go_wp2_with fail
    go_ret
    exact ⟨congrArg (fun b => Ending.returned (.bool b)) HV.out.symm, HQ4.out.below⟩
  | true =>
    have HW := Lib.hid (open_want hm)
    rw [hm, if_pos rfl] at HV
    clear hm
    cases cnt with
    | true =>
      rw [if_pos rfl, ← HW.out] at HV
      go_wp2_with fail
      refine (refhas_any p q s n c m e k f R S T w4 HQ4.out.lo HQ4.out.hi HK4.out.lo).mono ?_
      rintro _ w5 ⟨rfl, hb5⟩
      have HQ5 := Lib.hid (HQ4.out.later hb5)
      have HK5 := Lib.hid (HK4.out.later hb5)
      clear hb5 HQ4 HK4 HW x0 x1 x5 x6 y0 y1 y2
      obtain ⟨x0, x1, -, -, -, x5, x6⟩ := HQ5.out.cells
      obtain ⟨y0, y1, y2, -⟩ := HK5.out.cells
      cases hh : hasB R S T n m k with
      | false =>
        rw [hh] at HV
        clear hh
        go_wp2_with fail
        go_ret
        exact ⟨congrArg (fun b => Ending.returned (.bool b)) HV.out.symm, HQ5.out.below⟩
      | true =>
        rw [hh] at HV
        clear hh
        go_wp2_with fail
        refine (refhas_any p q t n c m e l h R S U w5 HQ5.out.lo HQ5.out.hi HK5.out.hi).mono ?_
        rintro _ w6 ⟨rfl, hb6⟩
        have hb := HQ5.out.below.trans (hb6.mono HQ5.out.below.size)
        go_wp2_with fail
        go_ret
        exact ⟨congrArg (fun b => Ending.returned (.bool b)) HV.out.symm, hb⟩
    | false =>
      rw [if_neg (by simp)] at HV
      go_wp2_with fail
      go_ret
      exact ⟨congrArg (fun b => Ending.returned (.bool b)) ((show (!decide (lim = 0)) = decide (lim ≠ 0) by simp).trans HV.out.symm), HQ4.out.below⟩
end Go.Proofs.Ytnigfipjcnamfaa.Ak
