/- The walk of MortonNext. -/
import Derived.Test.YtcekcoekbgdkaaaMorNextFn
import Derived.Test.YtcekcoekbgdkaaaMorAlive
namespace Go.Proofs.Ytcekcoekbgdkaaa
open Go.RowKit

/-- Whether the first k bytes are 255. -/
def alB (B : List Nat) : Nat → Bool
  | 0 => true
  | k + 1 => alB B k && decide (B.getD k 0 = 255)
theorem alB_succ (B : List Nat) (k : Nat) : alB B (k + 1) = (alB B k && decide (B.getD k 0 = 255)) := rfl
theorem alB_iff (B : List Nat) : ∀ k, alB B k = true ↔ ∀ t, t < k → B.getD t 0 = 255
  | 0 => by simp [alB]
  | k + 1 => by
    rw [alB_succ, Bool.and_eq_true, decide_eq_true_eq, alB_iff B k]
    constructor
    · rintro ⟨h1, h2⟩ t ht
      by_cases c : t = k
      · rw [c]; exact h2
      · exact h1 t (by omega)
    · intro h
      exact ⟨fun t ht => h t (by omega), h k (by omega)⟩
def AlRel (B : List Nat) (n : Nat) (a i : Value) : Prop := ∃ k : Nat, k ≤ n ∧ i = .int .i64 k ∧ a = .bool (alB B k)
set_option maxRecDepth 100000 in
set_option maxHeartbeats 4000000 in
theorem mnext_any (B C : List Nat) (p q : Option Addr) (n c m d : Nat) (w : World) (hB : Tx w p n c B) (hC : Tx w q m d C) (hn : n ≤ 9223372036854775807) (hm : m ≤ 9223372036854775807) :
    Calls Try.prog 7 #[.slice p n c, .slice q m d] w fun e w' => e = .returned (.bool true) ∧ Below w.heap.size w w' := by
  have HB := Lib.hid hB
  have HC := Lib.hid hC
  have SB := Lib.hid hB.size
  have SC := Lib.hid hC.size
  clear hB hC
  go_enter Try.func7, Try.ntmps7
  go_wp2_with fail
  refine (alive_any w).mono ?_
  rintro _ w1 ⟨rfl, hb1⟩
  have B1 := Lib.hid hb1
  clear hb1
  by_cases h1 : 200 < n
  · have b1 : (200 : Int) < n := by omega
    go_wp2_with fail
    go_ret
    exact ⟨rfl, B1.out⟩
  by_cases h2 : 200 < m
  · have b1 : ¬ (200 : Int) < n := by omega
    have b2 : (200 : Int) < m := by omega
    go_wp2_with fail
    go_ret
    exact ⟨rfl, B1.out⟩
  have b1 : ¬ (200 : Int) < n := by omega
  have b2 : ¬ (200 : Int) < m := by omega
  have HB1 := Lib.hid (HB.out.later B1.out)
  have HC1 := Lib.hid (HC.out.later B1.out)
  have hcv := convert_tx HB1.out
  go_wp2_with fail
  clear hcv
  refine (next_any B p n c w1 HB1.out (by omega)).mono ?_
  rintro e w2 hp
  unfold NextPost at hp
  have hb2 : Below w1.heap.size w1 w2 := by
    rcases hp with ⟨_, _, h⟩ | ⟨_, _, _, _, _, _, _, h⟩
    · exact h
    · exact h
  have HB2 := Lib.hid (HB1.out.later hb2)
  have HC2 := Lib.hid (HC1.out.later hb2)
  have BB2 := Lib.hid (B1.out.trans (hb2.mono B1.out.size))
  clear hb2
  obtain ⟨N, ok, q2, n2, c2, rfl, hcase⟩ : ∃ N ok q2 n2 c2, e = .returned (.tuple #[.slice q2 n2 c2, .bool ok]) ∧ ((all255 B ∧ ok = false ∧ n2 = 0) ∨ (¬ all255 B ∧ ok = true ∧ n2 = n ∧ Bytes w2 q2 n2 c2 N ∧ Cm.val N = Cm.val B + 1)) := by
    rcases hp with ⟨a1, a2, _⟩ | ⟨a1, q2, c2, N, a2, a3, a4, _⟩
    · exact ⟨[], false, none, 0, 0, a2, Or.inl ⟨a1, rfl, rfl⟩⟩
    · exact ⟨N, true, q2, n, c2, a2, Or.inr ⟨a1, rfl, rfl, a3, a4⟩⟩
  have HCASE := Lib.hid hcase
  clear hp hcase
  go_wp2_with fail
  go_loop [8, 9] (fun a i => AlRel B n a i) (fun _ i => n - (intOf i).toNat)
  case atStart => exact ⟨0, by omega, rfl, rfl⟩
  case round =>
    obtain ⟨k, hk, rfl, rfl⟩ := hrel
    by_cases hlt : k < n
    · obtain ⟨g, o, rfl, hx⟩ := HB2.out.bytes.ne (by intro e; have := SB.out; rw [e] at this; simp at this; omega)
      have hc := hx k (by have := SB.out; omega)
      have i1 : (0 : Int) ≤ k ∧ (k : Int) < n := by omega
      have HS := Lib.hid (alB_succ B k)
      have hxb := Sm.getD_lt HB2.out.ok (by omega) k
      clear hx
      generalize alB B k = a at *
      generalize B.getD k 0 = x at *
      cases a with
      | false =>
        go_wp2_with fail
        go_round
        case rel => exact ⟨k + 1, by omega, by go_num, by rw [HS.out]; rfl⟩
        case measure => simp [intOf]; omega
      | true =>
        by_cases hx : x = 255
        · subst hx
          go_wp2_with fail
          go_round
          case rel => exact ⟨k + 1, by omega, by go_num, by rw [HS.out]; rfl⟩
          case measure => simp [intOf]; omega
        · have e1 : ((x : Int) == 255) = false := by simp; omega
          have HX := Lib.hid hx
          clear hx
          go_wp2_with fail
          go_round
          case rel => exact ⟨k + 1, by omega, by go_num, by rw [HS.out, decide_eq_false HX.out]; rfl⟩
          case measure => simp [intOf]; omega
    · obtain rfl : k = n := by omega
      have hal : alB B k = true ↔ all255 B := by rw [alB_iff, SB.out]; rfl
      rcases HCASE.out with ⟨a1, a2, a3⟩ | ⟨a1, a2, a3, a4, a5⟩
      · subst a2
        subst a3
        rw [hal.2 a1]
        clear hal a1
        go_wp2_with fail
        go_ret
        exact ⟨rfl, BB2.out⟩
      · subst a2
        subst a3
        have hf : alB B n2 = false := by
          rw [← Bool.not_eq_true]
          exact fun h => a1 (hal.1 h)
        rw [hf]
        have HN := Lib.hid a4
        have HV := Lib.hid a5
        have hcl : Cm.cmpL B N < 0 := (Cm.cmp_val B N (by rw [← SB.out, a4.size]) HB2.out.ok a4.ok).2 (by omega)
        have hd : decide (Cm.cmpL B N < 0) = true := decide_eq_true hcl
        have HD := Lib.hid hd
        have hcv := convert_tx HB2.out
        clear hal hf a1 a4 a5 hcl hd
        go_wp2_with fail
        refine (less_any B N p q2 n2 c c2 w2 HB2.out HN.out.tx).mono ?_
        rintro e w' ⟨rfl, rfl⟩
        rw [HD.out]
        by_cases hmn : (m : Int) = n2
        · obtain rfl : m = n2 := by omega
          go_wp2_with fail
          clear hcv
          refine (less_any B C p q m c d w' HB2.out HC2.out).mono ?_
          rintro e w4 ⟨rfl, rfl⟩
          by_cases hbc : Cm.cmpL B C < 0
          · rw [decide_eq_true hbc]
            have hv := (Cm.cmp_val B C (by rw [← SB.out, SC.out]) HB2.out.ok HC2.out.ok).1 hbc
            have hnb : ¬ Cm.cmpL C N < 0 := fun h => by
              have := (Cm.cmp_val C N (by rw [← SC.out, HN.out.size]) HC2.out.ok HN.out.ok).1 h
              have := HV.out
              omega
            have HNB := Lib.hid (decide_eq_false hnb)
            clear hbc hv hnb
            go_wp2_with fail
            refine (less_any C N q q2 m d c2 w4 HC2.out HN.out.tx).mono ?_
            rintro e w5 ⟨rfl, rfl⟩
            rw [HNB.out]
            go_wp2_with fail
            go_ret
            exact ⟨rfl, BB2.out⟩
          · rw [decide_eq_false hbc]
            clear hbc
            go_wp2_with fail
            go_ret
            exact ⟨rfl, BB2.out⟩
        · go_wp2_with fail
          go_ret
          exact ⟨rfl, BB2.out⟩
end Go.Proofs.Ytcekcoekbgdkaaa
