/- box.pair; box.Meets, box.Holds, box.Has. -/
import Derived.Test.YthmloljnpjolmaaBoxEach
namespace Go.Proofs.Ythmloljnpjolmaa
open Go.RowKit

/-- Whether both boxes are right, and of as many dimensions. -/
def pairB (R S T U : List Int) (n m k l : Nat) : Bool := rightB R S n m n && rightB T U k l n
theorem pairB_dims {R S T U : List Int} {n m k l : Nat} (h : pairB R S T U n m k l = true) : 1 ≤ n ∧ n ≤ 8 ∧ m = n ∧ k = n ∧ l = n := by
  unfold pairB at h
  rw [Bool.and_eq_true] at h
  have h1 := rightB_dims h.1
  have h2 := rightB_dims h.2
  omega
theorem box_two (w : World) (v u v2 u2 : Value) : ∀ w2, w2 = (w.alloc (.cells #[v, u] 25)).alloc (.cells #[v2, u2] 25) →
    (w2.cell? ⟨w.heap.size, 0, none⟩ = some v ∧ w2.cell? ⟨w.heap.size, 1, none⟩ = some u ∧ w2.cell? ⟨w.heap.size + 1, 0, none⟩ = some v2 ∧ w2.cell? ⟨w.heap.size + 1, 1, none⟩ = some u2) ∧ Below w.heap.size w w2 ∧ w2.heap.size = w.heap.size + 2 := by
  rintro w2 rfl
  obtain ⟨a0, a1⟩ := pair_alloc w v u 25
  have hs : (w.alloc (.cells #[v, u] 25)).heap.size = w.heap.size + 1 := by simp
  have hb1 : Below w.heap.size w (w.alloc (.cells #[v, u] 25)) := (Below.refl _ _).alloc (Nat.le_refl _) _
  generalize w.alloc (.cells #[v, u] 25) = w1 at *
  obtain ⟨b0, b1⟩ := pair_alloc w1 v2 u2 25
  have hb2 : Below w1.heap.size w1 (w1.alloc (.cells #[v2, u2] 25)) := (Below.refl _ _).alloc (Nat.le_refl _) _
  rw [hs] at b0 b1
  exact ⟨⟨(hb2.cell (p := ⟨w.heap.size, 0, none⟩) (by show w.heap.size < _; omega)).trans a0, (hb2.cell (p := ⟨w.heap.size, 1, none⟩) (by show w.heap.size < _; omega)).trans a1, b0, b1⟩, hb1.trans (hb2.mono (by omega)), by simp; omega⟩
/-- Two boxes that lie boxed, and their corners. -/
structure Four (w0 w : World) (a b : Nat) (p q r s : Option Addr) (n c m e k f l g : Nat) (R S T U : List Int) : Prop where
  ba : BoxAt w a p n c q m e
  bb : BoxAt w b r k f s l g
  la : a < w.heap.size
  lb : b < w.heap.size
  i1 : Ints w p n c R
  i2 : Ints w q m e S
  i3 : Ints w r k f T
  i4 : Ints w s l g U
  below : Below w0.heap.size w0 w
theorem Four.later {w0 w w' : World} {a b : Nat} {p q r s : Option Addr} {n c m e k f l g : Nat} {R S T U : List Int} (h : Four w0 w a b p q r s n c m e k f l g R S T U) (hb : Below w.heap.size w w') : Four w0 w' a b p q r s n c m e k f l g R S T U :=
  ⟨⟨(hb.cell (p := ⟨a, 0, none⟩) h.la).trans h.ba.1, (hb.cell (p := ⟨a, 1, none⟩) h.la).trans h.ba.2⟩, ⟨(hb.cell (p := ⟨b, 0, none⟩) h.lb).trans h.bb.1, (hb.cell (p := ⟨b, 1, none⟩) h.lb).trans h.bb.2⟩, Nat.lt_of_lt_of_le h.la hb.size, Nat.lt_of_lt_of_le h.lb hb.size,
    h.i1.later hb, h.i2.later hb, h.i3.later hb, h.i4.later hb, h.below.trans (hb.mono h.below.size)⟩
theorem four_of {w w2 : World} {p q r s : Option Addr} {n c m e k f l g : Nat} {R S T U : List Int} (h1 : Ints w p n c R) (h2 : Ints w q m e S) (h3 : Ints w r k f T) (h4 : Ints w s l g U)
    (h : w2 = (w.alloc (.cells #[.slice p n c, .slice q m e] 25)).alloc (.cells #[.slice r k f, .slice s l g] 25)) : Four w w2 w.heap.size (w.heap.size + 1) p q r s n c m e k f l g R S T U := by
  obtain ⟨⟨a0, a1, a2, a3⟩, hb, hs⟩ := box_two w _ _ _ _ w2 h
  exact ⟨⟨a0, a1⟩, ⟨a2, a3⟩, by omega, by omega, h1.later hb, h2.later hb, h3.later hb, h4.later hb, hb⟩
set_option maxRecDepth 100000 in
set_option maxHeartbeats 1000000 in
theorem pair_any (p q r s : Option Addr) (n c m e k f l g : Nat) (R S T U : List Int) (w : World) (h1 : Ints w p n c R) (h2 : Ints w q m e S) (h3 : Ints w r k f T) (h4 : Ints w s l g U) :
    Calls Try.prog 33 #[.agg #[.slice p n c, .slice q m e], .agg #[.slice r k f, .slice s l g]] w fun e w' => e = .returned (.bool (pairB R S T U n m k l)) ∧ Below w.heap.size w w' := by
  go_enter Try.func33, Try.ntmps33
  go_upto_region 1 with fail
  obtain ⟨w2, hw2⟩ : ∃ w2, w2 = (w.alloc (.cells #[.slice p n c, .slice q m e] 25)).alloc (.cells #[.slice r k f, .slice s l g] 25) := ⟨_, rfl⟩
  have HF := Lib.hid (four_of h1 h2 h3 h4 hw2)
  rw [← hw2]
  clear hw2 h1 h2 h3 h4
  have b := HF.out.ba
  obtain ⟨b0, b1⟩ := b
  have b := HF.out.bb
  obtain ⟨b2, b3⟩ := b
  go_wp2_with fail
  refine (right_any p q n c m e R S n w2 HF.out.i1 HF.out.i2).mono ?_
  rintro _ w3 ⟨rfl, hb3⟩
  have HG := Lib.hid (HF.out.later hb3)
  clear hb3 HF b0 b1 b2 b3
  have b := HG.out.ba
  obtain ⟨b0, b1⟩ := b
  have b := HG.out.bb
  obtain ⟨b2, b3⟩ := b
  cases hr : rightB R S n m n with
  | false =>
    have HR := Lib.hid (show pairB R S T U n m k l = false by unfold pairB; rw [hr]; rfl)
    clear hr
    go_wp2_with fail
    go_ret
    exact ⟨congrArg (fun b => Ending.returned (.bool b)) HR.out.symm, HG.out.below⟩
  | true =>
    have HR := Lib.hid (show pairB R S T U n m k l = rightB T U k l n by unfold pairB; rw [hr]; rfl)
    clear hr
    go_wp2_with fail
    refine (right_any r s k f l g T U n w3 HG.out.i3 HG.out.i4).mono ?_
    rintro _ w4 ⟨rfl, hb4⟩
    have HB := Lib.hid (HG.out.below.trans (hb4.mono HG.out.below.size))
    clear hb4
    go_wp2_with fail
    go_ret
    exact ⟨congrArg (fun b => Ending.returned (.bool b)) HR.out.symm, HB.out⟩
/-- Whether a box holds another one. -/
def holdsB (R S T U : List Int) (n m k l : Nat) : Bool := pairB R S T U n m k l && (les R T n && les U S n)
/-- Whether a point is in both boxes. -/
def meetsB (R S T U : List Int) (n m k l : Nat) : Bool := pairB R S T U n m k l && (les R U n && les T S n)
set_option maxRecDepth 100000 in
set_option maxHeartbeats 1000000 in
theorem holdsside (B C : Nat) (p q r s : Option Addr) (n c e f g : Nat) (R S T U : List Int) (k : Nat) (hk : k < n) (w : World) (hB : BoxAt w B p n c q n e) (hC : BoxAt w C r n f s n g) (h1 : Ints w p n c R) (h2 : Ints w q n e S) (h3 : Ints w r n f T) (h4 : Ints w s n g U) :
    Calls Try.prog 35 #[.int .i64 k, .pointer (some ⟨B, 0, none⟩), .pointer (some ⟨C, 0, none⟩)] w fun e w' => e = .returned (.bool (decide (R.getD k 0 ≤ T.getD k 0) && decide (U.getD k 0 ≤ S.getD k 0))) ∧ ∃ j, w' = w.drewN j := by
  obtain ⟨hB0, hB1⟩ := hB
  obtain ⟨hC0, hC1⟩ := hC
  obtain ⟨g1, o1, rfl, hc1⟩ := h1.cell k hk
  obtain ⟨g2, o2, rfl, hc2⟩ := h2.cell k hk
  obtain ⟨g3, o3, rfl, hc3⟩ := h3.cell k hk
  obtain ⟨g4, o4, rfl, hc4⟩ := h4.cell k hk
  clear h1 h2 h3 h4
  generalize R.getD k 0 = xR at *
  generalize S.getD k 0 = xS at *
  generalize T.getD k 0 = xT at *
  generalize U.getD k 0 = xU at *
  have b1 : (0 : Int) ≤ k ∧ (k : Int) < n := by omega
  by_cases hg : xR ≤ xT
  · rw [decide_eq_true hg]
    go_enter Try.func35, Try.ntmps35
    go_wp2_with fail
    go_quiet (fail)
    go_wp2_with fail
    go_ret
    exact ⟨rfl, _, rfl⟩
  · rw [decide_eq_false hg]
    have hd : decide (xR ≤ xT) = false := decide_eq_false hg
    go_enter Try.func35, Try.ntmps35
    go_wp2_with fail
    go_quiet (fail)
    go_wp2_with fail
    go_ret
    exact ⟨rfl, _, rfl⟩
set_option maxRecDepth 100000 in
set_option maxHeartbeats 1000000 in
theorem holds_any (p q r s : Option Addr) (n c m e k f l g : Nat) (R S T U : List Int) (w : World) (h1 : Ints w p n c R) (h2 : Ints w q m e S) (h3 : Ints w r k f T) (h4 : Ints w s l g U) :
    Calls Try.prog 12 #[.agg #[.slice p n c, .slice q m e], .agg #[.slice r k f, .slice s l g]] w fun e w' => e = .returned (.bool (holdsB R S T U n m k l)) ∧ Below w.heap.size w w' := by
  go_enter Try.func12, Try.ntmps12
  go_upto_region 1 with fail
  obtain ⟨w2, hw2⟩ : ∃ w2, w2 = (w.alloc (.cells #[.slice p n c, .slice q m e] 25)).alloc (.cells #[.slice r k f, .slice s l g] 25) := ⟨_, rfl⟩
  have HF := Lib.hid (four_of h1 h2 h3 h4 hw2)
  rw [← hw2]
  clear hw2 h1 h2 h3 h4
  have b := HF.out.ba
  obtain ⟨b0, b1⟩ := b
  have b := HF.out.bb
  obtain ⟨b2, b3⟩ := b
  go_wp2_with fail
  refine (pair_any p q r s n c m e k f l g R S T U w2 HF.out.i1 HF.out.i2 HF.out.i3 HF.out.i4).mono ?_
  rintro _ w3 ⟨rfl, hb3⟩
  have HG := Lib.hid (HF.out.later hb3)
  clear hb3 HF b0 b1 b2 b3
  have b := HG.out.ba
  obtain ⟨b0, b1⟩ := b
  cases hr : pairB R S T U n m k l with
  | false =>
    have HR := Lib.hid (show holdsB R S T U n m k l = false by unfold holdsB; rw [hr]; rfl)
    clear hr
    go_wp2_with fail
    go_ret
    exact ⟨congrArg (fun b => Ending.returned (.bool b)) HR.out.symm, HG.out.below⟩
  | true =>
    have HR := Lib.hid (show holdsB R S T U n m k l = (les R T n && les U S n) by unfold holdsB; rw [hr]; rfl)
    obtain ⟨hd1, hd2, rfl, rfl, rfl⟩ := pairB_dims hr
    have HE := Lib.hid (each_any l (by omega) (fun k => decide (R.getD k 0 ≤ T.getD k 0) && decide (U.getD k 0 ≤ S.getD k 0)) 35 #[.pointer (some ⟨w.heap.size, 0, none⟩), .pointer (some ⟨w.heap.size + 1, 0, none⟩)] (enter_side Try.func35 (by kernel_rfl) rfl) w3 (fun k w' hk hb => holdsside w.heap.size (w.heap.size + 1) p q r s l c e f g R S T U k hk w' (HG.out.later hb).ba (HG.out.later hb).bb (HG.out.later hb).i1 (HG.out.later hb).i2 (HG.out.later hb).i3 (HG.out.later hb).i4))
    rw [alls_and, alls_les, alls_les] at HE
    clear hr hd1 hd2
    go_wp2_with fail
    refine HE.out.mono ?_
    rintro _ w4 ⟨rfl, j, hw4⟩
    have HB := Lib.hid (show Below w.heap.size w w4 by rw [hw4]; exact Below.drewN HG.out.below _)
    clear hw4
    go_wp2_with fail
    go_ret
    exact ⟨congrArg (fun b => Ending.returned (.bool b)) HR.out.symm, HB.out⟩
end Go.Proofs.Ythmloljnpjolmaa
