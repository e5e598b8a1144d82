/- indentureref04.OrderRight. -/
import Derived.Test.YthmloljnpjolmaaBoxRefB
namespace Go.Proofs.Ythmloljnpjolmaa
open Go.RowKit

/-- Whether an order (its kind, its column, how many numbers its point has) is right for so many dimensions. -/
def ordP (kd cl : Int) (an : Nat) (d : Int) : Prop :=
  (1 ≤ d ∧ d ≤ 8) ∧ ((kd = 0 ∧ cl = 0 ∧ (an : Int) = 0) ∨ (kd = 1 ∧ 0 < cl ∧ cl ≤ d - 1 ∧ (an : Int) = 0) ∨ (kd = 2 ∧ 0 ≤ cl ∧ cl ≤ d - 1 ∧ (an : Int) = 0) ∨ (kd = 3 ∧ cl = 0 ∧ 1 < d ∧ (an : Int) = d - 1))
instance (kd cl : Int) (an : Nat) (d : Int) : Decidable (ordP kd cl an d) := by unfold ordP; infer_instance
theorem three_alloc (w : World) (v u x : Value) (t : TypeId) : (w.alloc (.cells #[v, u, x] t)).cell? ⟨w.heap.size, 0, none⟩ = some v ∧ (w.alloc (.cells #[v, u, x] t)).cell? ⟨w.heap.size, 1, none⟩ = some u ∧ (w.alloc (.cells #[v, u, x] t)).cell? ⟨w.heap.size, 2, none⟩ = some x :=
  ⟨cell_of_row _ _ 0 _ t (0, 0) (heap_alloc_new w _), cell_of_row _ _ 1 _ t (0, 0) (heap_alloc_new w _), cell_of_row _ _ 2 _ t (0, 0) (heap_alloc_new w _)⟩
set_option maxRecDepth 100000 in
set_option maxHeartbeats 4000000 in
theorem refordright_any (kd cl d : Int) (p : Option Addr) (an c : Nat) (w : World) :
    Calls Try.prog 18 #[.agg #[.int .u8 kd, .int .i64 cl, .slice p an c], .int .i64 d] w fun e w' => e = .returned (.bool (decide (ordP kd cl an d))) ∧ Below w.heap.size w w' := by
  have hb : Below w.heap.size w (w.alloc (.cells #[.int .u8 kd, .int .i64 cl, .slice p an c] 34)) := (Below.refl _ _).alloc (Nat.le_refl _) _
  obtain ⟨e0, e1, e2⟩ := three_alloc w (.int .u8 kd) (.int .i64 cl) (.slice p an c) 34
  have HB := Lib.hid hb
  clear hb
  by_cases hd1 : d < 1
  case pos =>
    go_enter Try.func18, Try.ntmps18
    go_wp2_with fail
    go_ret
    exact ⟨ret_ndec (by unfold ordP; omega), HB.out⟩
  by_cases hd2 : 8 < d
  case pos =>
    go_enter Try.func18, Try.ntmps18
    go_wp2_with fail
    go_ret
    exact ⟨ret_ndec (by unfold ordP; omega), HB.out⟩
  by_cases k0 : kd = 0
  case pos =>
    subst k0
    by_cases c0 : cl = 0
    case pos =>
      subst c0
      by_cases a0 : (an : Int) = 0
      case pos =>
        have qa0 : ((an : Int) == 0) = true := by simpa using a0
        go_enter Try.func18, Try.ntmps18
        go_wp2_with fail
        go_ret
        exact ⟨ret_dec (by unfold ordP; omega), HB.out⟩
      case neg =>
        have qa0 : ((an : Int) == 0) = false := by simpa using a0
        go_enter Try.func18, Try.ntmps18
        go_wp2_with fail
        go_ret
        exact ⟨ret_ndec (by unfold ordP; omega), HB.out⟩
    case neg =>
      have qc0 : (cl == 0) = false := by simpa using c0
      go_enter Try.func18, Try.ntmps18
      go_wp2_with fail
      go_ret
      exact ⟨ret_ndec (by unfold ordP; omega), HB.out⟩
  by_cases k1 : kd = 1
  case pos =>
    subst k1
    by_cases c0 : 0 < cl
    case pos =>
      by_cases c1 : cl ≤ d - 1
      case pos =>
        by_cases a0 : (an : Int) = 0
        case pos =>
          have qa0 : ((an : Int) == 0) = true := by simpa using a0
          go_enter Try.func18, Try.ntmps18
          go_wp2_with fail
          go_ret
          exact ⟨ret_dec (by unfold ordP; omega), HB.out⟩
        case neg =>
          have qa0 : ((an : Int) == 0) = false := by simpa using a0
          go_enter Try.func18, Try.ntmps18
          go_wp2_with fail
          go_ret
          exact ⟨ret_ndec (by unfold ordP; omega), HB.out⟩
      case neg =>
        go_enter Try.func18, Try.ntmps18
        go_wp2_with fail
        go_ret
        exact ⟨ret_ndec (by unfold ordP; omega), HB.out⟩
    case neg =>
      by_cases c2 : cl = 0
      case pos =>
        subst c2
        go_enter Try.func18, Try.ntmps18
        go_wp2_with fail
        go_ret
        exact ⟨ret_ndec (by unfold ordP; omega), HB.out⟩
      case neg =>
        have qc2 : (cl == 0) = false := by simpa using c2
        go_enter Try.func18, Try.ntmps18
        go_wp2_with fail
        go_ret
        exact ⟨ret_ndec (by unfold ordP; omega), HB.out⟩
  by_cases k2 : kd = 2
  case pos =>
    subst k2
    by_cases c0 : 0 < cl
    case pos =>
      by_cases c1 : cl ≤ d - 1
      case pos =>
        by_cases a0 : (an : Int) = 0
        case pos =>
          have qa0 : ((an : Int) == 0) = true := by simpa using a0
          go_enter Try.func18, Try.ntmps18
          go_wp2_with fail
          go_ret
          exact ⟨ret_dec (by unfold ordP; omega), HB.out⟩
        case neg =>
          have qa0 : ((an : Int) == 0) = false := by simpa using a0
          go_enter Try.func18, Try.ntmps18
          go_wp2_with fail
          go_ret
          exact ⟨ret_ndec (by unfold ordP; omega), HB.out⟩
      case neg =>
        go_enter Try.func18, Try.ntmps18
        go_wp2_with fail
        go_ret
        exact ⟨ret_ndec (by unfold ordP; omega), HB.out⟩
    case neg =>
      by_cases c2 : cl = 0
      case pos =>
        subst c2
        have c1 : (0 : Int) ≤ d - 1 := by omega
        by_cases a0 : (an : Int) = 0
        case pos =>
          have qa0 : ((an : Int) == 0) = true := by simpa using a0
          go_enter Try.func18, Try.ntmps18
          go_wp2_with fail
          go_ret
          exact ⟨ret_dec (by unfold ordP; omega), HB.out⟩
        case neg =>
          have qa0 : ((an : Int) == 0) = false := by simpa using a0
          go_enter Try.func18, Try.ntmps18
          go_wp2_with fail
          go_ret
          exact ⟨ret_ndec (by unfold ordP; omega), HB.out⟩
      case neg =>
        have qc2 : (cl == 0) = false := by simpa using c2
        go_enter Try.func18, Try.ntmps18
        go_wp2_with fail
        go_ret
        exact ⟨ret_ndec (by unfold ordP; omega), HB.out⟩
  by_cases k3 : kd = 3
  case pos =>
    subst k3
    by_cases c0 : cl = 0
    case pos =>
      subst c0
      by_cases d1 : 1 < d
      case pos =>
        by_cases a0 : (an : Int) = d - 1
        case pos =>
          have qa0 : ((an : Int) == d - 1) = true := by simpa using a0
          go_enter Try.func18, Try.ntmps18
          go_wp2_with fail
          go_ret
          exact ⟨ret_dec (by unfold ordP; omega), HB.out⟩
        case neg =>
          have qa0 : ((an : Int) == d - 1) = false := by simpa using a0
          go_enter Try.func18, Try.ntmps18
          go_wp2_with fail
          go_ret
          exact ⟨ret_ndec (by unfold ordP; omega), HB.out⟩
      case neg =>
        go_enter Try.func18, Try.ntmps18
        go_wp2_with fail
        go_ret
        exact ⟨ret_ndec (by unfold ordP; omega), HB.out⟩
    case neg =>
      have qc0 : (cl == 0) = false := by simpa using c0
      go_enter Try.func18, Try.ntmps18
      go_wp2_with fail
      go_ret
      exact ⟨ret_ndec (by unfold ordP; omega), HB.out⟩
  have qk0 : (kd == 0) = false := by simpa using k0
  have qk1 : (kd == 1) = false := by simpa using k1
  have qk2 : (kd == 2) = false := by simpa using k2
  have qk3 : (kd == 3) = false := by simpa using k3
  go_enter Try.func18, Try.ntmps18
  go_wp2_with fail
  go_ret
  exact ⟨ret_ndec (by unfold ordP; omega), HB.out⟩
end Go.Proofs.Ythmloljnpjolmaa
