/- box.OrderRight; cmp.Compare of two numbers. -/
import Derived.Test.YthmloljnpjolmaaBoxRefC
import Derived.Test.YthmloljnpjolmaaBoxEach
namespace Go.Proofs.Ythmloljnpjolmaa
open Go.RowKit

theorem ret_decB {p : Prop} [Decidable p] {b : Bool} (h : b = true ↔ p) : Ending.returned (.bool b) = Ending.returned (.bool (decide p)) := by
  congr 2
  rw [Bool.eq_iff_iff, h, decide_eq_true_eq]
set_option maxRecDepth 100000 in
set_option maxHeartbeats 4000000 in
theorem ordright_any (kd cl d : Int) (p : Option Addr) (an c : Nat) (w : World) :
    Calls Try.prog 17 #[.agg #[.int .u8 kd, .int .i64 cl, .slice p an c], .int .i64 d] w fun e w' => e = .returned (.bool (decide (ordP kd cl an d))) ∧ Below w.heap.size w w' := by
  have hb : Below w.heap.size w (w.alloc (.cells #[.int .u8 kd, .int .i64 cl, .slice p an c] 34)) := (Below.refl _ _).alloc (Nat.le_refl _) _
  obtain ⟨e0, e1, e2⟩ := three_alloc w (.int .u8 kd) (.int .i64 cl) (.slice p an c) 34
  have HB := Lib.hid hb
  clear hb
  have hD := dimensions_any d
  by_cases hd : 1 ≤ d ∧ d ≤ 8
  case neg =>
    rw [decide_eq_false hd] at hD
    have HD := Lib.hid hD
    have HN := Lib.hid (show ¬ ordP kd cl an d from fun h => hd h.1)
    clear hD hd
    go_enter Try.func17, Try.ntmps17
    go_wp2_with ((go_at_call 30; refine (HD.out _).mono ?_; rintro _ w' ⟨rfl, rfl⟩))
    go_ret
    exact ⟨ret_ndec HN.out, HB.out⟩
  rw [decide_eq_true hd] at hD
  have HD := Lib.hid hD
  clear hD
  obtain ⟨hd1, hd2⟩ := hd
  by_cases k0 : kd = 0
  case pos =>
    subst k0
    by_cases c0 : cl = 0
    case pos =>
      subst c0
      by_cases a0 : (an : Int) = 0
      case pos =>
        have qa0 : ((an : Int) == 0) = true := by simpa using a0
        go_enter Try.func17, Try.ntmps17
        go_wp2_with ((go_at_call 30; refine (HD.out _).mono ?_; rintro _ w' ⟨rfl, rfl⟩))
        go_ret
        exact ⟨ret_dec (by unfold ordP; omega), HB.out⟩
      case neg =>
        have qa0 : ((an : Int) == 0) = false := by simpa using a0
        go_enter Try.func17, Try.ntmps17
        go_wp2_with ((go_at_call 30; refine (HD.out _).mono ?_; rintro _ w' ⟨rfl, rfl⟩))
        go_ret
        first | exact ⟨ret_ndec (by unfold ordP; omega), HB.out⟩ | exact ⟨ret_decB (by rw [decide_eq_true_eq]; unfold ordP; omega), HB.out⟩
    case neg =>
      have qc0 : (cl == 0) = false := by simpa using c0
      go_enter Try.func17, Try.ntmps17
      go_wp2_with ((go_at_call 30; refine (HD.out _).mono ?_; rintro _ w' ⟨rfl, rfl⟩))
      go_ret
      first | exact ⟨ret_ndec (by unfold ordP; omega), HB.out⟩ | exact ⟨ret_decB (by rw [decide_eq_true_eq]; unfold ordP; omega), HB.out⟩
  by_cases k1 : kd = 1
  case pos =>
    subst k1
    by_cases c0 : 1 ≤ cl
    case pos =>
      by_cases c1 : cl < d
      case pos =>
        by_cases a0 : (an : Int) = 0
        case pos =>
          have qa0 : ((an : Int) == 0) = true := by simpa using a0
          go_enter Try.func17, Try.ntmps17
          go_wp2_with ((go_at_call 30; refine (HD.out _).mono ?_; rintro _ w' ⟨rfl, rfl⟩))
          go_ret
          exact ⟨ret_dec (by unfold ordP; omega), HB.out⟩
        case neg =>
          have qa0 : ((an : Int) == 0) = false := by simpa using a0
          go_enter Try.func17, Try.ntmps17
          go_wp2_with ((go_at_call 30; refine (HD.out _).mono ?_; rintro _ w' ⟨rfl, rfl⟩))
          go_ret
          first | exact ⟨ret_ndec (by unfold ordP; omega), HB.out⟩ | exact ⟨ret_decB (by rw [decide_eq_true_eq]; unfold ordP; omega), HB.out⟩
      case neg =>
        go_enter Try.func17, Try.ntmps17
        go_wp2_with ((go_at_call 30; refine (HD.out _).mono ?_; rintro _ w' ⟨rfl, rfl⟩))
        go_ret
        first | exact ⟨ret_ndec (by unfold ordP; omega), HB.out⟩ | exact ⟨ret_decB (by rw [decide_eq_true_eq]; unfold ordP; omega), HB.out⟩
    case neg =>
      go_enter Try.func17, Try.ntmps17
      go_wp2_with ((go_at_call 30; refine (HD.out _).mono ?_; rintro _ w' ⟨rfl, rfl⟩))
      go_ret
      first | exact ⟨ret_ndec (by unfold ordP; omega), HB.out⟩ | exact ⟨ret_decB (by rw [decide_eq_true_eq]; unfold ordP; omega), HB.out⟩
  by_cases k2 : kd = 2
  case pos =>
    subst k2
    by_cases c0 : 0 ≤ cl
    case pos =>
      by_cases c1 : cl < d
      case pos =>
        by_cases a0 : (an : Int) = 0
        case pos =>
          have qa0 : ((an : Int) == 0) = true := by simpa using a0
          go_enter Try.func17, Try.ntmps17
          go_wp2_with ((go_at_call 30; refine (HD.out _).mono ?_; rintro _ w' ⟨rfl, rfl⟩))
          go_ret
          exact ⟨ret_dec (by unfold ordP; omega), HB.out⟩
        case neg =>
          have qa0 : ((an : Int) == 0) = false := by simpa using a0
          go_enter Try.func17, Try.ntmps17
          go_wp2_with ((go_at_call 30; refine (HD.out _).mono ?_; rintro _ w' ⟨rfl, rfl⟩))
          go_ret
          first | exact ⟨ret_ndec (by unfold ordP; omega), HB.out⟩ | exact ⟨ret_decB (by rw [decide_eq_true_eq]; unfold ordP; omega), HB.out⟩
      case neg =>
        go_enter Try.func17, Try.ntmps17
        go_wp2_with ((go_at_call 30; refine (HD.out _).mono ?_; rintro _ w' ⟨rfl, rfl⟩))
        go_ret
        first | exact ⟨ret_ndec (by unfold ordP; omega), HB.out⟩ | exact ⟨ret_decB (by rw [decide_eq_true_eq]; unfold ordP; omega), HB.out⟩
    case neg =>
      go_enter Try.func17, Try.ntmps17
      go_wp2_with ((go_at_call 30; refine (HD.out _).mono ?_; rintro _ w' ⟨rfl, rfl⟩))
      go_ret
      first | exact ⟨ret_ndec (by unfold ordP; omega), HB.out⟩ | exact ⟨ret_decB (by rw [decide_eq_true_eq]; unfold ordP; omega), HB.out⟩
  by_cases k3 : kd = 3
  case pos =>
    subst k3
    by_cases c0 : cl = 0
    case pos =>
      subst c0
      by_cases a0 : (an : Int) = d - 1
      case pos =>
        have qa0 : ((an : Int) == d - 1) = true := by simpa using a0
        by_cases d1 : 2 ≤ d
        case pos =>
          go_enter Try.func17, Try.ntmps17
          go_wp2_with ((go_at_call 30; refine (HD.out _).mono ?_; rintro _ w' ⟨rfl, rfl⟩))
          go_ret
          exact ⟨ret_dec (by unfold ordP; omega), HB.out⟩
        case neg =>
          go_enter Try.func17, Try.ntmps17
          go_wp2_with ((go_at_call 30; refine (HD.out _).mono ?_; rintro _ w' ⟨rfl, rfl⟩))
          go_ret
          first | exact ⟨ret_ndec (by unfold ordP; omega), HB.out⟩ | exact ⟨ret_decB (by rw [decide_eq_true_eq]; unfold ordP; omega), HB.out⟩
      case neg =>
        have qa0 : ((an : Int) == d - 1) = false := by simpa using a0
        go_enter Try.func17, Try.ntmps17
        go_wp2_with ((go_at_call 30; refine (HD.out _).mono ?_; rintro _ w' ⟨rfl, rfl⟩))
        go_ret
        first | exact ⟨ret_ndec (by unfold ordP; omega), HB.out⟩ | exact ⟨ret_decB (by rw [decide_eq_true_eq]; unfold ordP; omega), HB.out⟩
    case neg =>
      have qc0 : (cl == 0) = false := by simpa using c0
      go_enter Try.func17, Try.ntmps17
      go_wp2_with ((go_at_call 30; refine (HD.out _).mono ?_; rintro _ w' ⟨rfl, rfl⟩))
      go_ret
      first | exact ⟨ret_ndec (by unfold ordP; omega), HB.out⟩ | exact ⟨ret_decB (by rw [decide_eq_true_eq]; unfold ordP; omega), HB.out⟩
  have qk0 : (kd == 0) = false := by simpa using k0
  have qk1 : (kd == 1) = false := by simpa using k1
  have qk2 : (kd == 2) = false := by simpa using k2
  have qk3 : (kd == 3) = false := by simpa using k3
  go_enter Try.func17, Try.ntmps17
  go_wp2_with ((go_at_call 30; refine (HD.out _).mono ?_; rintro _ w' ⟨rfl, rfl⟩))
  go_ret
  first | exact ⟨ret_ndec (by unfold ordP; omega), HB.out⟩ | exact ⟨ret_decB (by rw [decide_eq_true_eq]; unfold ordP; omega), HB.out⟩
/-- Which of two numbers is less. -/
def icmp (x y : Int) : Int := if x < y then -1 else if y < x then 1 else 0
set_option maxRecDepth 100000 in
theorem compare64_any (x y : Int) (w : World) :
    Calls Try.prog 57 #[.int .i64 x, .int .i64 y] w fun e w' => e = .returned (.int .i64 (icmp x y)) ∧ w = w' := by
  have hN : ∀ z w, Calls Try.prog 64 #[.int .i64 z] w fun e w' => e = .returned (.bool false) ∧ w = w' := fun z w => by
    have q : (z != z) = false := by simp
    go_enter Try.func64, Try.ntmps64
    go_wp2_with fail
    go_ret
    exact ⟨rfl, rfl⟩
  have HN := Lib.hid hN
  clear hN
  by_cases h1 : x < y
  · have HE := Lib.hid (show icmp x y = -1 by unfold icmp; rw [if_pos h1])
    go_enter Try.func57, Try.ntmps57
    go_wp2_with ((go_at_call 64; refine (HN.out _ _).mono ?_; rintro _ w' ⟨rfl, rfl⟩))
    go_ret
    exact ⟨by rw [HE.out]; rfl, rfl⟩
  · by_cases h2 : y < x
    · have HE := Lib.hid (show icmp x y = 1 by unfold icmp; rw [if_neg h1, if_pos h2])
      go_enter Try.func57, Try.ntmps57
      go_wp2_with ((go_at_call 64; refine (HN.out _ _).mono ?_; rintro _ w' ⟨rfl, rfl⟩))
      go_ret
      exact ⟨by rw [HE.out]; rfl, rfl⟩
    · have HE := Lib.hid (show icmp x y = 0 by unfold icmp; rw [if_neg h1, if_neg h2])
      go_enter Try.func57, Try.ntmps57
      go_wp2_with ((go_at_call 64; refine (HN.out _ _).mono ?_; rintro _ w' ⟨rfl, rfl⟩))
      go_ret
      exact ⟨by rw [HE.out]; rfl, rfl⟩
end Go.Proofs.Ythmloljnpjolmaa
