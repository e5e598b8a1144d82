/- box.placeOf, box.place's compare; box.Key. -/
import Derived.Test.YthmloljnpjolmaaBoxLeastKey
namespace Go.Proofs.Ythmloljnpjolmaa
open Go.RowKit

/-- A place in an order. -/
def plV (K id : Int) : Value := .agg #[.int .u64 (K / 18446744073709551616 % 18446744073709551616), .int .u64 (K % 18446744073709551616), .int .i64 id]
theorem plV_parts {K hi lo : Int} (id : Int) (h : dV K = .agg #[.int .u64 hi, .int .u64 lo]) : plV K id = .agg #[.int .u64 hi, .int .u64 lo, .int .i64 id] := by
  unfold dV at h
  simp only [Value.agg.injEq, Array.mk.injEq, List.cons.injEq, Value.int.injEq, true_and, and_true] at h
  unfold plV
  rw [h.1, h.2]
/-- A block that holds a place. -/
def Tri (w : World) (g : Nat) (a b c : Value) : Prop := w.heap[g]? = some (.cells #[a, b, c] 66 (0, 0))
theorem Tri.facts {w : World} {g : Nat} {a b c : Value} (h : Tri w g a b c) : w.cell? ⟨g, 0, none⟩ = some a ∧ w.cell? ⟨g, 1, none⟩ = some b ∧ w.cell? ⟨g, 2, none⟩ = some c ∧ w.frozen? ⟨g, 0, none⟩ = false ∧ w.frozen? ⟨g, 1, none⟩ = false ∧ w.frozen? ⟨g, 2, none⟩ = false :=
  ⟨cell_of_row w g 0 _ _ _ h, cell_of_row w g 1 _ _ _ h, cell_of_row w g 2 _ _ _ h, frozen_of_row w g 0 _ _ h, frozen_of_row w g 1 _ _ h, frozen_of_row w g 2 _ _ h⟩
theorem Tri.set {w : World} {g : Nat} {a b c : Value} (h : Tri w g a b c) (x y z : Value) : Tri (((w.setCell ⟨g, 0, none⟩ x).setCell ⟨g, 1, none⟩ y).setCell ⟨g, 2, none⟩ z) g x y z :=
  heap_setCell_same _ g 2 _ _ z (heap_setCell_same _ g 1 _ _ y (heap_setCell_same w g 0 _ _ x h))
theorem Tri.lt {w : World} {g : Nat} {a b c : Value} (h : Tri w g a b c) : g < w.heap.size := (Array.getElem?_eq_some_iff.1 h).1
theorem Tri.later {w w' : World} {g : Nat} {a b c : Value} (h : Tri w g a b c) (hb : Below w.heap.size w w') : Tri w' g a b c := (hb.block _ h.lt).trans h
theorem Tri.fresh (w : World) (a b c : Value) : Tri (w.alloc (.cells #[a, b, c] 66)) w.heap.size a b c := heap_alloc_new w _
theorem Tri.below {B : Nat} {a w : World} (h : Below B a w) {g : Nat} (hg : B ≤ g) (x y z : Value) : Below B a (((w.setCell ⟨g, 0, none⟩ x).setCell ⟨g, 1, none⟩ y).setCell ⟨g, 2, none⟩ z) := ((h.setCell (p := ⟨g, 0, none⟩) hg x).setCell (p := ⟨g, 1, none⟩) hg y).setCell (p := ⟨g, 2, none⟩) hg z
theorem ret_tri {fn : Func} {P : Ending → World → Prop} (p : Tmp) (hr : fn.results = #[.cell p 66]) {tmps : Array Value} {w : World} (g : Nat) (a b c : Value)
    (hp : tmps.getD p undef = .pointer (some ⟨g, 0, none⟩)) (hg : Tri w g a b c) (h : P (.returned (.agg #[a, b, c])) w) : bodyPost Try.prog fn P .ret ⟨tmps, []⟩ w := by
  obtain ⟨r0, r1, r2, _, _⟩ := hg.facts
  refine bodyPost_ret (a := ⟨tmps, []⟩) (v := .agg #[a, b, c]) ?_ rfl h
  have hp' : tmps[p]?.getD undef = .pointer (some ⟨g, 0, none⟩) := by simpa using hp
  simp [results, hr, hp', go_sem, r0, r1, r2]
set_option maxRecDepth 100000 in
set_option maxHeartbeats 4000000 in
theorem placeof_any (kd cl : Int) (q p r : Option Addr) (an ac n c e : Nat) (A P Q : List Int) (w : World) (hA : Ints w q an ac A) (hP : Ints w p n c P) (hQ : Ints w r n e Q) (ho : ordP kd cl an n) :
    Calls Try.prog 41 #[.agg #[.int .u8 kd, .int .i64 cl, .slice q an ac], .slice p n c, .slice r n e] w fun e w' => e = .returned (plV (leastI kd cl A P Q an n) (P.getD 0 0)) ∧ Below w.heap.size w w' := by
  have hn1 : 1 ≤ n := by unfold ordP at ho; omega
  have hb : Below w.heap.size w (w.alloc (.cells #[.int .u8 kd, .int .i64 cl, .slice q an ac] 34)) := (Below.refl _ _).alloc (Nat.le_refl _) _
  have hs : (w.alloc (.cells #[.int .u8 kd, .int .i64 cl, .slice q an ac] 34)).heap.size = w.heap.size + 1 := by simp
  obtain ⟨e0, e1, e2⟩ := three_alloc w (.int .u8 kd) (.int .i64 cl) (.slice q an ac) 34
  have hA1 := hA.later hb
  have hP1 := hP.later hb
  have hQ1 := hQ.later hb
  clear hA hP hQ
  obtain ⟨hi, lo, hd⟩ := dV_two (leastI kd cl A P Q an n)
  rw [plV_parts _ hd]
  have HD := Lib.hid hd
  clear hd
  go_enter Try.func41, Try.ntmps41
  go_upto_region 1 with fail
  generalize w.alloc (.cells #[.int .u8 kd, .int .i64 cl, .slice q an ac] 34) = w1 at *
  have t2 := Tri.fresh w1 (.int .u64 0) (.int .u64 0) (.int .i64 0)
  have hb2 : Below w1.heap.size w1 (w1.alloc (.cells #[.int .u64 0, .int .u64 0, .int .i64 0] 66)) := (Below.refl _ _).alloc (Nat.le_refl _) _
  generalize w1.alloc (.cells #[.int .u64 0, .int .u64 0, .int .i64 0] 66) = w2 at *
  have hlt : ∀ k, (⟨w.heap.size, k, none⟩ : Addr).block < w1.heap.size := fun k => by show w.heap.size < _; omega
  have d0 := (hb2.cell (hlt 0)).trans e0
  have d1 := (hb2.cell (hlt 1)).trans e1
  have d2 := (hb2.cell (hlt 2)).trans e2
  have HA := Lib.hid (hA1.later hb2)
  have HP := Lib.hid (hP1.later hb2)
  have HQ := Lib.hid (hQ1.later hb2)
  have HB := Lib.hid (hb.trans (hb2.mono (by omega)))
  rw [hs] at t2
  have HT := Lib.hid t2
  clear hb hb2 hlt hA1 hP1 hQ1 hs e0 e1 e2 t2
  clear w1
  have hc := fun w' (hb : Below w2.heap.size w2 w') => leastkey_any kd cl q p r an ac n c e A P Q w' (HA.out.later hb) (HP.out.later hb) (HQ.out.later hb) ho
  rw [HD.out] at hc
  have HC := Lib.hid hc
  obtain ⟨g, o, rfl, hx⟩ := HP.out.cell 0 hn1
  rw [Nat.add_zero] at hx
  obtain ⟨x, hxx⟩ : ∃ x, x = P.getD 0 0 := ⟨_, rfl⟩
  rw [← hxx] at hx
  have HX := Lib.hid hxx
  clear hxx
  have i1 : 0 < n := by omega
  obtain ⟨y0, y1, y2, z0, z1, z2⟩ := HT.out.facts
  clear ho hc hn1
  go_region_law (go_simp; go_at_call 39; refine (HC.out _ (by first | exact Below.refl _ _ | exact (Below.refl _ _).drew)).mono ?_; rintro e w4 ⟨rfl, hb4⟩; have hb4 : Below w2.heap.size w2 w4 := (by first | exact hb4 | exact Below.trans (Below.drew (Below.refl _ _)) hb4); have hx4 := (hb4.cell (p := ⟨g, o, none⟩) (block_lt_of_cell hx)).trans hx; have T4 := Lib.hid (HT.out.later hb4); have B4 := Lib.hid (HB.out.trans (hb4.mono HB.out.size)); obtain ⟨u0, u1, u2, v0, v1, v2⟩ := T4.out.facts; clear hb4)
  all_goals
    go_wp2_with fail
    exact ret_tri 6 rfl (w.heap.size + 1) _ _ _ rfl (T4.out.set _ _ _) ⟨by rw [HX.out], Tri.below B4.out (by omega) _ _ _⟩
/-- Which of two places is ahead. -/
def pcmp (a b i c d j : Int) : Int := if dcmp a b c d = 0 then icmp i j else dcmp a b c d
set_option maxRecDepth 100000 in
set_option maxHeartbeats 1000000 in
theorem compare_any (a b i c d j : Int) (w : World) :
    Calls Try.prog 42 #[.agg #[.int .u64 a, .int .u64 b, .int .i64 i], .agg #[.int .u64 c, .int .u64 d, .int .i64 j]] w fun e w' => e = .returned (.int .i64 (pcmp a b i c d j)) ∧ Below w.heap.size w w' := by
  have t1 := Tri.fresh w (.int .u64 a) (.int .u64 b) (.int .i64 i)
  have hb1 : Below w.heap.size w (w.alloc (.cells #[.int .u64 a, .int .u64 b, .int .i64 i] 66)) := (Below.refl _ _).alloc (Nat.le_refl _) _
  have hs : (w.alloc (.cells #[.int .u64 a, .int .u64 b, .int .i64 i] 66)).heap.size = w.heap.size + 1 := by simp
  go_enter Try.func42, Try.ntmps42
  go_upto_region 1 with fail
  generalize w.alloc (.cells #[.int .u64 a, .int .u64 b, .int .i64 i] 66) = w1 at *
  have t2 := Tri.fresh w1 (.int .u64 c) (.int .u64 d) (.int .i64 j)
  have hb2 : Below w1.heap.size w1 (w1.alloc (.cells #[.int .u64 c, .int .u64 d, .int .i64 j] 66)) := (Below.refl _ _).alloc (Nat.le_refl _) _
  rw [hs] at t2
  generalize w1.alloc (.cells #[.int .u64 c, .int .u64 d, .int .i64 j] 66) = w2 at *
  have T1 := Lib.hid (t1.later hb2)
  have T2 := Lib.hid t2
  have HB := Lib.hid (hb1.trans (hb2.mono (by omega)))
  clear t1 hb1 hs t2 hb2
  clear w1
  obtain ⟨x0, x1, x2, _⟩ := T1.out.facts
  obtain ⟨y0, y1, y2, _⟩ := T2.out.facts
  obtain ⟨z, hz⟩ : ∃ z, z = dcmp a b c d := ⟨_, rfl⟩
  have hc := cmp_any a b c d w2
  have HP := Lib.hid (show pcmp a b i c d j = if z = 0 then icmp i j else z by rw [hz]; rfl)
  rw [← hz] at hc
  have HC := Lib.hid hc
  clear hc hz
  go_wp2_with fail
  refine HC.out.mono ?_
  rintro e w3 ⟨rfl, hb3⟩
  have U1 := Lib.hid (T1.out.later hb3)
  have U2 := Lib.hid (T2.out.later hb3)
  have B3 := Lib.hid (HB.out.trans (hb3.mono HB.out.size))
  clear x0 x1 x2 y0 y1 y2 hb3
  obtain ⟨x0, x1, x2, _⟩ := U1.out.facts
  obtain ⟨y0, y1, y2, _⟩ := U2.out.facts
  by_cases h0 : z = 0
  · have HR := Lib.hid (show pcmp a b i c d j = icmp i j by rw [HP.out, if_pos h0])
    subst h0
    have HK := Lib.hid (compare64_any i j)
    go_wp2_with ((go_at_call 57; refine (HK.out _).mono ?_; rintro _ w' ⟨rfl, rfl⟩))
    go_ret
    exact ⟨congrArg (fun b => Ending.returned (.int .i64 b)) HR.out.symm, B3.out⟩
  · have HR := Lib.hid (show pcmp a b i c d j = z by rw [HP.out, if_neg h0])
    have q : (z != 0) = true := by simpa using h0
    clear h0
    go_wp2_with fail
    go_ret
    exact ⟨congrArg (fun b => Ending.returned (.int .i64 b)) HR.out.symm, B3.out⟩
/-- The error that says whether something is. -/
def errOf (b : Bool) : Int := if b then 0 else 1
set_option maxRecDepth 100000 in
set_option maxHeartbeats 4000000 in
theorem key_any (kd cl : Int) (q p : Option Addr) (an ac n c : Nat) (A P : List Int) (w : World) (hA : Ints w q an ac A) (hP : Ints w p n c P) :
    Calls Try.prog 15 #[.agg #[.int .u8 kd, .int .i64 cl, .slice q an ac], .slice p n c] w fun e w' => e = .returned (.tuple #[dV (keyI kd cl A P an n), .int .i64 (errOf (decide (ordP kd cl an n)))]) ∧ Below w.heap.size w w' := by
  have hb : Below w.heap.size w (w.alloc (.cells #[.int .u8 kd, .int .i64 cl, .slice q an ac] 34)) := (Below.refl _ _).alloc (Nat.le_refl _) _
  have hs : (w.alloc (.cells #[.int .u8 kd, .int .i64 cl, .slice q an ac] 34)).heap.size = w.heap.size + 1 := by simp
  obtain ⟨e0, e1, e2⟩ := three_alloc w (.int .u8 kd) (.int .i64 cl) (.slice q an ac) 34
  have hA1 := hA.later hb
  have hP1 := hP.later hb
  clear hA hP
  obtain ⟨hi, lo, hd⟩ := dV_two (keyI kd cl A P an n)
  rw [hd]
  have HD := Lib.hid hd
  clear hd
  go_enter Try.func15, Try.ntmps15
  go_upto_region 1 with fail
  generalize w.alloc (.cells #[.int .u8 kd, .int .i64 cl, .slice q an ac] 34) = w1 at *
  have t2 := zero_two w1
  have hb2 : Below w1.heap.size w1 (w1.alloc (.cells #[.int .u64 0, .int .u64 0] 37)) := (Below.refl _ _).alloc (Nat.le_refl _) _
  generalize w1.alloc (.cells #[.int .u64 0, .int .u64 0] 37) = w2 at *
  have hlt : ∀ k, (⟨w.heap.size, k, none⟩ : Addr).block < w1.heap.size := fun k => by show w.heap.size < _; omega
  have d0 := (hb2.cell (hlt 0)).trans e0
  have d1 := (hb2.cell (hlt 1)).trans e1
  have d2 := (hb2.cell (hlt 2)).trans e2
  have HA := Lib.hid (hA1.later hb2)
  have HP := Lib.hid (hP1.later hb2)
  have HB := Lib.hid (hb.trans (hb2.mono (by omega)))
  have HS := Lib.hid (show w.heap.size + 1 < w2.heap.size from by have := t2.lt; omega)
  rw [hs] at t2
  have HT := Lib.hid t2
  clear hb hb2 hlt hA1 hP1 hs e0 e1 e2 t2
  clear w1
  go_wp2_with fail
  refine (ordright_any kd cl n q an ac w2).mono ?_
  rintro _ w3 ⟨rfl, hb3⟩
  have hlt : ∀ k, (⟨w.heap.size, k, none⟩ : Addr).block < w2.heap.size := fun k => by have := HS.out; show w.heap.size < _; omega
  have f0 := (hb3.cell (hlt 0)).trans d0
  have f1 := (hb3.cell (hlt 1)).trans d1
  have f2 := (hb3.cell (hlt 2)).trans d2
  have GA := Lib.hid (HA.out.later hb3)
  have GP := Lib.hid (HP.out.later hb3)
  have GT := Lib.hid (HT.out.later hb3 HT.out.lt)
  have GB := Lib.hid (HB.out.trans (hb3.mono HB.out.size))
  clear hlt hb3 d0 d1 d2 HA HP HB HT HS
  obtain ⟨y0, y1, z0, z1⟩ := GT.out.facts
  by_cases ho : ordP kd cl an n
  case neg =>
    have hk : keyI kd cl A P an n = 0 := by unfold keyI; rw [if_neg ho]
    rw [hk] at HD
    obtain ⟨rfl, rfl⟩ : (0 : Int) = hi ∧ (0 : Int) = lo := by have := HD.out; simpa [dV] using this
    have HO := Lib.hid (decide_eq_false ho)
    have HO2 := Lib.hid (show errOf (decide (ordP kd cl an n)) = 1 by rw [decide_eq_false ho]; rfl)
    rw [HO.out]
    clear ho hk
    go_wp2_with fail
    exact ret_two2 4 5 rfl (w.heap.size + 1) _ _ (.int .i64 1) rfl rfl (GT.out.set _ _) ⟨by rw [HO2.out], Two.below GB.out (by omega) _ _⟩
  case pos =>
    have HO := Lib.hid (decide_eq_true ho)
    have HO2 := Lib.hid (show errOf (decide (ordP kd cl an n)) = 0 by rw [decide_eq_true ho]; rfl)
    have hc := leastkey_any kd cl q p p an ac n c c A P P w3 GA.out GP.out GP.out ho
    rw [least_key ho, HD.out] at hc
    have HC := Lib.hid hc
    rw [HO.out]
    clear ho hc
    go_wp2_with fail
    refine HC.out.mono ?_
    rintro _ w4 ⟨rfl, hb4⟩
    have KT := Lib.hid (GT.out.later hb4 GT.out.lt)
    have KB := Lib.hid (GB.out.trans (hb4.mono GB.out.size))
    clear y0 y1 z0 z1 f0 f1 f2 hb4
    obtain ⟨y0, y1, z0, z1⟩ := KT.out.facts
    go_wp2_with fail
    exact ret_two2 4 5 rfl (w.heap.size + 1) _ _ (.int .i64 0) rfl rfl (KT.out.set _ _) ⟨by rw [HO2.out], Two.below KB.out (by omega) _ _⟩
end Go.Proofs.Ythmloljnpjolmaa
