/- box.dimensions; box.each over whatever function of the sides. -/
import Derived.Test.YthmloljnpjolmaaBoxRefB
import Derived.Test.YthmloljnpjolmaaDist5B
namespace Go.Proofs.Ythmloljnpjolmaa
open Go.RowKit

set_option maxRecDepth 100000 in
theorem dimensions_any (d : Int) (w : World) :
    Calls Try.prog 30 #[.int .i64 d] w fun e w' => e = .returned (.bool (decide (1 ≤ d ∧ d ≤ 8))) ∧ w = w' := by
  by_cases h1 : 1 ≤ d
  · by_cases h2 : d ≤ 8
    · go_enter Try.func30, Try.ntmps30
      go_wp2_with fail
      go_ret
      exact ⟨ret_dec ⟨h1, h2⟩, rfl⟩
    · go_enter Try.func30, Try.ntmps30
      go_wp2_with fail
      go_ret
      exact ⟨ret_ndec (by omega), rfl⟩
  · go_enter Try.func30, Try.ntmps30
    go_wp2_with fail
    go_ret
    exact ⟨congrArg (fun b => Ending.returned (.bool b)) (by rw [decide_eq_false (show ¬ 1 ≤ d by omega)]; rfl), rfl⟩
/-- Whether all of the first so many hold. -/
def alls (f : Nat → Bool) : Nat → Bool
  | 0 => true
  | k + 1 => alls f k && f k
theorem alls_iff (f : Nat → Bool) : ∀ n, alls f n = true ↔ ∀ k, k < n → f k = true
  | 0 => ⟨fun _ k hk => by omega, fun _ => rfl⟩
  | n + 1 => by
    show (alls f n && f n) = true ↔ _
    rw [Bool.and_eq_true, alls_iff f n]
    constructor
    · rintro ⟨h1, h2⟩ k hk
      by_cases hkn : k = n
      · rw [hkn]; exact h2
      · exact h1 k (by omega)
    · intro h
      exact ⟨fun k hk => h k (by omega), h n (by omega)⟩
theorem alls_false {f : Nat → Bool} {k n : Nat} (hk : k < n) (h : f k = false) : alls f n = false := by
  cases e : alls f n with
  | false => rfl
  | true => rw [(alls_iff f n).1 e k hk] at h; cases h
theorem alls_les (R S : List Int) : ∀ n, alls (fun k => decide (R.getD k 0 ≤ S.getD k 0)) n = les R S n
  | 0 => rfl
  | n + 1 => by
    show (alls _ n && _) = (les R S n && _)
    rw [alls_les R S n]
theorem alls_and (f g : Nat → Bool) : ∀ n, alls (fun k => f k && g k) n = (alls f n && alls g n)
  | 0 => rfl
  | n + 1 => by
    show (alls _ n && (f n && g n)) = ((alls f n && f n) && (alls g n && g n))
    rw [alls_and f g n]
    cases alls f n <;> cases alls g n <;> cases f n <;> cases g n <;> rfl
/-- What the function of a side tells, and that it turns nothing. -/
def Asks (w : World) (n : Nat) (f : Nat → Bool) (F : Nat) (cap : Array Value) : Prop :=
  ∀ (k : Nat) (w' : World), k < n → Below w.heap.size w w' → Calls Try.prog F (#[.int .i64 k] ++ cap) w' fun e w'' => e = .returned (.bool (f k)) ∧ ∃ j, w'' = w'.drewN j
def EachRel (w : World) (f : Nat → Bool) (n : Nat) (i : Value) (wr : World) : Prop := ∃ k j : Nat, k ≤ n ∧ i = .int .i64 k ∧ alls f k = true ∧ wr = w.drewN j
set_option maxRecDepth 100000 in
set_option maxHeartbeats 1000000 in
theorem each_any (n : Nat) (hn : n < 9223372036854775807) (f : Nat → Bool) (F : Nat) (cap : Array Value) (hF : ∀ args w, (callFunc F args).run Try.prog w = .ok (.enter F args) w) (w : World) (hs : Asks w n f F cap) :
    Calls Try.prog 34 #[.int .i64 n, .func (.func F) #[] cap] w fun e w' => e = .returned (.bool (alls f n)) ∧ ∃ j, w' = w.drewN j := by
  have HS := Lib.hid hs
  clear hs
  go_enter Try.func34, Try.ntmps34
  go_wp2_with fail
  go_loopw [7] (fun i wr => EachRel w f n i wr) (fun i _ => n - (intOf i).toNat)
  case atStart => exact ⟨0, 0, by omega, rfl, rfl, rfl⟩
  case round =>
    obtain ⟨k, j, hk, rfl, hal, rfl⟩ := hrel
    have HA := Lib.hid hal
    clear hal
    by_cases hlt : k < n
    · have hc := HS.out k (w.drewN j) hlt (Below.drewN (Below.refl _ _) j)
      cases hfk : f k with
      | false =>
        rw [hfk] at hc
        have HC := Lib.hid hc
        have HX := Lib.hid (alls_false hlt hfk)
        clear hc hfk
        go_wp2_with (refine HC.out.mono ?_; rintro e w'' ⟨rfl, j2, rfl⟩)
        go_ret
        exact ⟨congrArg (fun b => Ending.returned (.bool b)) HX.out.symm, j + j2, rfl⟩
      | true =>
        rw [hfk] at hc
        have HC := Lib.hid hc
        have HX := Lib.hid (show alls f (k + 1) = true by show (alls f k && f k) = true; rw [HA.out, hfk]; rfl)
        clear hc hfk
        go_wp2_with (refine HC.out.mono ?_; rintro e w'' ⟨rfl, j2, rfl⟩)
        go_roundw
        case rel => exact ⟨k + 1, j + j2, by omega, by go_num, HX.out, rfl⟩
        case measure => simp [intOf]; omega
    · obtain rfl : k = n := by omega
      go_wp2_with fail
      go_ret
      exact ⟨congrArg (fun b => Ending.returned (.bool b)) HA.out.symm, j, rfl⟩
set_option maxRecDepth 100000 in
set_option maxHeartbeats 1000000 in
theorem rightside (B : Nat) (p q : Option Addr) (n c m e : Nat) (R S : List Int) (k : Nat) (hk : k < n) (hm : k < m) (w : World) (hB : BoxAt w B p n c q m e) (h : Ints w p n c R) (h2 : Ints w q m e S) :
    Calls Try.prog 51 #[.int .i64 k, .pointer (some ⟨B, 0, none⟩)] w fun e w' => e = .returned (.bool (decide (R.getD k 0 ≤ S.getD k 0))) ∧ ∃ j, w' = w.drewN j := by
  obtain ⟨hB0, hB1⟩ := hB
  obtain ⟨g, o, rfl, hc⟩ := h.cell k hk
  obtain ⟨g2, o2, rfl, hc2⟩ := h2.cell k hm
  clear h h2
  generalize R.getD k 0 = x at *
  generalize S.getD k 0 = y at *
  have b1 : (0 : Int) ≤ k ∧ (k : Int) < n := by omega
  have b2 : (0 : Int) ≤ k ∧ (k : Int) < m := by omega
  go_enter Try.func51, Try.ntmps51
  go_wp2_with fail
  go_quiet (fail)
  go_wp2_with fail
  go_ret
  exact ⟨rfl, _, rfl⟩
set_option maxRecDepth 100000 in
set_option maxHeartbeats 1000000 in
theorem right_any (p q : Option Addr) (n c m e : Nat) (R S : List Int) (d : Int) (w : World) (h : Ints w p n c R) (h2 : Ints w q m e S) :
    Calls Try.prog 37 #[.agg #[.slice p n c, .slice q m e], .int .i64 d] w fun e w' => e = .returned (.bool (rightB R S n m d)) ∧ Below w.heap.size w w' := by
  have hb : Below w.heap.size w (w.alloc (.cells #[.slice p n c, .slice q m e] 25)) := (Below.refl _ _).alloc (Nat.le_refl _) _
  obtain ⟨e0, e1⟩ := pair_alloc w (.slice p n c) (.slice q m e) 25
  have H1 := Lib.hid (h.later hb)
  have H2 := Lib.hid (h2.later hb)
  have HB := Lib.hid hb
  clear h h2 hb
  have hD := dimensions_any d
  by_cases hd : 1 ≤ d ∧ d ≤ 8
  case neg =>
    rw [decide_eq_false hd] at hD
    have HD := Lib.hid hD
    rw [rightB_not (by omega)]
    clear hD hd
    go_enter Try.func37, Try.ntmps37
    go_wp2_with ((go_at_call 30; refine (HD.out _).mono ?_; rintro _ w' ⟨rfl, rfl⟩))
    go_ret
    exact ⟨rfl, HB.out⟩
  rw [decide_eq_true hd] at hD
  have HD := Lib.hid hD
  clear hD
  by_cases hn : (n : Int) = d
  case neg =>
    rw [rightB_not (fun h => hn h.2.2.1)]
    have q1 : ((n : Int) == d) = false := by simpa using hn
    clear hd hn
    go_enter Try.func37, Try.ntmps37
    go_wp2_with ((go_at_call 30; refine (HD.out _).mono ?_; rintro _ w' ⟨rfl, rfl⟩))
    go_ret
    exact ⟨rfl, HB.out⟩
  subst hn
  by_cases hm : (m : Int) = n
  case neg =>
    rw [rightB_not (fun h => hm h.2.2.2)]
    have q1 : ((m : Int) == n) = false := by simpa using hm
    clear hd hm
    go_enter Try.func37, Try.ntmps37
    go_wp2_with ((go_at_call 30; refine (HD.out _).mono ?_; rintro _ w' ⟨rfl, rfl⟩))
    go_ret
    exact ⟨rfl, HB.out⟩
  obtain rfl : m = n := by omega
  rw [rightB_les (by omega)]
  have hn8 : m < 9223372036854775807 := by omega
  clear hm hd
  go_enter Try.func37, Try.ntmps37
  go_upto_region 1 with fail
  have hs0 : w.heap.size < (w.alloc (.cells #[.slice p m c, .slice q m e] 25)).heap.size := by simp
  generalize w.alloc (.cells #[.slice p m c, .slice q m e] 25) = w0 at *
  have HE := Lib.hid (each_any m hn8 (fun k => decide (R.getD k 0 ≤ S.getD k 0)) 51 #[.pointer (some ⟨w.heap.size, 0, none⟩)] (enter_side Try.func51 (by kernel_rfl) rfl) w0 (fun k w' hk hb => rightside w.heap.size p q m c m e R S k hk hk w' ⟨(hb.cell (p := ⟨w.heap.size, 0, none⟩) hs0).trans e0, (hb.cell (p := ⟨w.heap.size, 1, none⟩) hs0).trans e1⟩ (H1.out.later hb) (H2.out.later hb)))
  rw [alls_les] at HE
  go_wp2_with (first | (go_at_call 30; refine (HD.out _).mono ?_; rintro _ w' ⟨rfl, rfl⟩) | (go_at_call 34; refine HE.out.mono ?_; rintro _ w' ⟨rfl, j, rfl⟩))
  go_ret
  exact ⟨rfl, Below.drewN HB.out _⟩
end Go.Proofs.Ythmloljnpjolmaa
