/- The contract of codec.Cmp. -/
import Derived.Test.YtbjidmocibjbnaaCodAlive
namespace Go.Proofs.Ytbjidmocibjbnaa
open Go.RowKit

def sgn (x y : Int) : Int := if x < y then -1 else if y < x then 1 else 0
set_option maxHeartbeats 1000000 in
theorem cmpb_any (x y : Nat) (w : World) :
    Calls Try.prog 43 #[.int .u8 x, .int .u8 y] w fun e w' => e = .returned (.int .i64 (sgn x y)) ∧ w' = w := by
  unfold sgn
  by_cases h1 : (x : Int) < y
  · rw [if_pos h1]
    have h1d : decide ((x : Int) < y) = true := decide_eq_true h1
    go_enter Try.func43, Try.ntmps43
    go_wp2
    go_ret
    exact ⟨rfl, rfl⟩
  · rw [if_neg h1]
    have h1d : decide ((x : Int) < y) = false := decide_eq_false h1
    by_cases h2 : (y : Int) < x
    · rw [if_pos h2]
      have h2d : decide ((y : Int) < x) = true := decide_eq_true h2
      go_enter Try.func43, Try.ntmps43
      go_wp2
      go_ret
      exact ⟨rfl, rfl⟩
    · rw [if_neg h2]
      have h2d : decide ((y : Int) < x) = false := decide_eq_false h2
      go_enter Try.func43, Try.ntmps43
      go_wp2
      go_ret
      exact ⟨rfl, rfl⟩
set_option maxHeartbeats 1000000 in
theorem cmpi_any (x y : Nat) (w : World) :
    Calls Try.prog 44 #[.int .i64 x, .int .i64 y] w fun e w' => e = .returned (.int .i64 (sgn x y)) ∧ w' = w := by
  unfold sgn
  by_cases h1 : (x : Int) < y
  · rw [if_pos h1]
    have h1d : decide ((x : Int) < y) = true := decide_eq_true h1
    go_enter Try.func44, Try.ntmps44
    go_wp2
    go_ret
    exact ⟨rfl, rfl⟩
  · rw [if_neg h1]
    have h1d : decide ((x : Int) < y) = false := decide_eq_false h1
    by_cases h2 : (y : Int) < x
    · rw [if_pos h2]
      have h2d : decide ((y : Int) < x) = true := decide_eq_true h2
      go_enter Try.func44, Try.ntmps44
      go_wp2
      go_ret
      exact ⟨rfl, rfl⟩
    · rw [if_neg h2]
      have h2d : decide ((y : Int) < x) = false := decide_eq_false h2
      go_enter Try.func44, Try.ntmps44
      go_wp2
      go_ret
      exact ⟨rfl, rfl⟩
theorem drop_cons (A : List Nat) (k : Nat) (h : k < A.length) : A.drop k = A.getD k 0 :: A.drop (k + 1) := by
  rw [List.drop_eq_getElem_cons h, List.getD_eq_getElem?_getD, List.getElem?_eq_getElem h]; rfl
theorem cmp_unlike {A B : List Nat} {k : Nat} (h : A.take k = B.take k) (h1 : k < A.length) (h2 : k < B.length) (hne : A.getD k 0 ≠ B.getD k 0) : Cm.cmpL A B = sgn (A.getD k 0 : Nat) (B.getD k 0 : Nat) := by
  rw [Cm.cmpL_at h, drop_cons A k h1, drop_cons B k h2, Cm.cmpL_cons]
  unfold sgn
  by_cases h3 : A.getD k 0 < B.getD k 0
  · rw [if_pos h3, if_pos (by omega)]
  · have g1 : ¬ ((A.getD k 0 : Nat) : Int) < (B.getD k 0 : Nat) := by omega
    have g2 : B.getD k 0 < A.getD k 0 := by omega
    have g3 : ((B.getD k 0 : Nat) : Int) < (A.getD k 0 : Nat) := by omega
    rw [if_neg h3, if_pos g2, if_neg g1, if_pos g3]
theorem cmp_ends {A B : List Nat} {k : Nat} (h : A.take k = B.take k) (hk : k = min A.length B.length) : Cm.cmpL A B = sgn (A.length : Nat) (B.length : Nat) := by
  rw [Cm.cmpL_at h, Cm.cmpL_lens _ _ (by
    rcases Nat.le_total A.length B.length with h1 | h1
    · exact Or.inl (List.drop_eq_nil_of_le (by omega))
    · exact Or.inr (List.drop_eq_nil_of_le (by omega)))]
  rw [List.length_drop, List.length_drop]
  unfold sgn
  by_cases h1 : A.length < B.length
  · rw [if_pos (show A.length - k < B.length - k from by omega), if_pos (show (A.length : Int) < (B.length : Int) from by omega)]
  · rw [if_neg (show ¬ A.length - k < B.length - k from by omega), if_neg (show ¬ (A.length : Int) < (B.length : Int) from by omega)]
    by_cases h2 : B.length < A.length
    · rw [if_pos (show B.length - k < A.length - k from by omega), if_pos (show (B.length : Int) < (A.length : Int) from by omega)]
    · rw [if_neg (show ¬ B.length - k < A.length - k from by omega), if_neg (show ¬ (B.length : Int) < (A.length : Int) from by omega)]
/-- A callee that leaves the world alone, called behind draws. -/
theorem calls_drawn {f : FuncId} {args : Array Value} {w : World} {a n : Nat} {v : Value} (h : Calls Try.prog f args (w.drewN (a + n)) fun e w' => e = .returned v ∧ w' = w.drewN (a + n)) :
    Calls Try.prog f args (w.drewN (a + n)) fun e w' => e = .returned v ∧ ∃ m, w' = w.drewN (a + m) := by
  refine h.mono fun e w' hw => ⟨hw.1, n, hw.2⟩
def CRel (w : World) (A B : List Nat) (n : Nat) (i : Value) (wr : World) : Prop := ∃ (k d : Nat), k ≤ n ∧ i = .int .i64 k ∧ A.take k = B.take k ∧ wr = w.drewN d
set_option maxRecDepth 100000 in
set_option maxHeartbeats 1000000 in
theorem cmp_any (A B : List Nat) (p q : Option Addr) (n1 c1 n2 c2 : Nat) (w : World) (hA : Tx w p n1 c1 A) (hB : Tx w q n2 c2 B) (hl1 : n1 < 1099511627776) (hl2 : n2 < 1099511627776) :
    Calls Try.prog 32 #[.slice p n1 c1, .slice q n2 c2] w fun e w' => e = .returned (.int .i64 (Cm.cmpL A B)) ∧ Below w.heap.size w w' := by
  have HA := Lib.hid hA
  have HB := Lib.hid hB
  have N1 := Lib.hid hA.size
  have N2 := Lib.hid hB.size
  have hmin : ((min n1 n2 : Nat) : Int) = min (n1 : Int) (n2 : Int) := by omega
  have HM := Lib.hid hmin
  clear hA hB hmin
  go_enter Try.func32, Try.ntmps32
  go_wp2_with fail
  go_loopw [11] (fun i wr => CRel w A B (min n1 n2) i wr) (fun i _ => min n1 n2 - (intOf i).toNat)
  case atStart => exact ⟨0, 0, by omega, rfl, rfl, rfl⟩
  case round =>
    obtain ⟨k, d, hk, rfl, ht, rfl⟩ := hrel
    have HT := Lib.hid ht
    clear ht
    by_cases hlt : k < min n1 n2
    · have e1 : (k : Int) < n1 := by omega
      have e2 : (k : Int) < n2 := by omega
      have e3 : (k : Int) < min (n1 : Int) n2 := by omega
      obtain ⟨g1, o1, hp, hx1⟩ := HA.out.bytes.ne (by intro e; have := N1.out; rw [e] at this; simp at this; omega)
      obtain ⟨g2, o2, hq, hx2⟩ := HB.out.bytes.ne (by intro e; have := N2.out; rw [e] at this; simp at this; omega)
      subst hp
      subst hq
      have a1 := hx1 k (by have := N1.out; omega)
      have a2 := hx2 k (by have := N2.out; omega)
      have l1 := HA.out.le
      have l2 := HB.out.le
      have ht : A.take k = B.take k := HT.out
      have hun := fun h => cmp_unlike ht (by have := N1.out; omega) (by have := N2.out; omega) h
      have hst : A.getD k 0 = B.getD k 0 → A.take (k + 1) = B.take (k + 1) := fun h => by
        rw [take_snoc A k (by have := N1.out; omega), take_snoc B k (by have := N2.out; omega), h, ht]
      have HU := Lib.hid hun
      have HS := Lib.hid hst
      clear hx1 hx2 ht hun hst
      generalize A.getD k 0 = x at *
      generalize B.getD k 0 = y at *
      by_cases hxy : x = y
      · subst hxy
        go_wp2_with fail
        go_quiet (fail)
        go_wp2_with fail
        go_roundw
        case rel => exact ⟨k + 1, _, by omega, by go_num, HS.out (by trivial), rfl⟩
        case measure => simp [intOf]; omega
      · have b1 : ((x : Int) != (y : Int)) = true := by simp; omega
        have HXY := Lib.hid hxy
        clear hxy
        go_wp2_with fail
        go_quiet (fail)
        go_wp2_with fail
        go_quiet ((go_at_call 43; exact calls_drawn (cmpb_any _ _ _)))
        go_wp2_with fail
        go_ret
        exact ⟨by rw [HU.out HXY.out]; rfl, Below.drewN (Below.drewN (Below.drewN (Below.refl _ _) _) _) _⟩
    · obtain hk2 : k = min n1 n2 := by omega
      have e3 : ¬ ((k : Int) < min (n1 : Int) n2) := by omega
      have he := cmp_ends HT.out (by rw [hk2, N1.out, N2.out])
      rw [← N1.out, ← N2.out] at he
      have HE := Lib.hid he
      clear he hk2 hlt
      go_wp2_with fail
      refine (cmpi_any n1 n2 _).mono ?_
      rintro e w' ⟨rfl, rfl⟩
      go_wp2_with fail
      go_ret
      exact ⟨by rw [HE.out]; rfl, Below.drewN (Below.refl _ _) _⟩
end Go.Proofs.Ytbjidmocibjbnaa
