/- indentureref04.Ahead. -/
import Derived.Test.YthmloljnpjolmaaBoxRefD
namespace Go.Proofs.Ythmloljnpjolmaa
open Go.RowKit

theorem dV_parts (K : Int) (h : 0 ≤ K ∧ K < 340282366920938463463374607431768211456) : ∃ hi lo : Int, dV K = .agg #[.int .u64 hi, .int .u64 lo] ∧ K = hi * 18446744073709551616 + lo ∧ 0 ≤ lo ∧ lo < 18446744073709551616 := by
  refine ⟨K / 18446744073709551616 % 18446744073709551616, K % 18446744073709551616, rfl, ?_, ?_, ?_⟩ <;> omega
theorem getD_ok {R : List Int} (h : ∀ x ∈ R, -9223372036854775808 ≤ x ∧ x ≤ 9223372036854775807) (k : Nat) : -9223372036854775808 ≤ R.getD k 0 ∧ R.getD k 0 ≤ 9223372036854775807 := by
  rw [List.getD_eq_getElem?_getD]
  by_cases hk : k < R.length
  · rw [List.getElem?_eq_getElem hk]
    exact h _ (List.getElem_mem hk)
  · rw [List.getElem?_eq_none (by omega)]
    simp
theorem key_bound (kd cl : Int) (A P : List Int) (an n : Nat) (hA : ∀ x ∈ A, -9223372036854775808 ≤ x ∧ x ≤ 9223372036854775807) (hP : ∀ x ∈ P, -9223372036854775808 ≤ x ∧ x ≤ 9223372036854775807) :
    0 ≤ keyI kd cl A P an n ∧ keyI kd cl A P an n < 340282366920938463463374607431768211456 := by
  have hc := getD_ok hP cl.toNat
  unfold keyI
  split
  · split
    · unfold btw
      split
      · rename_i hok
        have hap : ∀ k, k < n - 1 → 0 ≤ apart ((P.drop 1).getD k 0) (A.getD k 0) ∧ apart ((P.drop 1).getD k 0) (A.getD k 0) < 18446744073709551616 := fun k _ =>
          apart_word (getD_ok (fun x hx => hP x (List.mem_of_mem_drop hx)) k) (getD_ok hA k)
        have h1 := tot_nonneg _ (n - 1) (fun k hk => (hap k hk).1)
        have h2 := tot_lt _ (n - 1) (fun k hk => (hap k hk).2)
        have h3 : n - 1 ≤ 8 := hok.2.1
        omega
      · omega
    · split <;> omega
  · omega
/-- Whether a row is ahead of another one. -/
def aheadP (kd cl : Int) (A P Q : List Int) (an n m : Nat) : Prop :=
  ordP kd cl an n ∧ ordP kd cl an m ∧ n = m ∧ (keyI kd cl A P an n < keyI kd cl A Q an m ∨ keyI kd cl A P an n = keyI kd cl A Q an m ∧ P.getD 0 0 < Q.getD 0 0)
instance (kd cl : Int) (A P Q : List Int) (an n m : Nat) : Decidable (aheadP kd cl A P Q an n m) := by unfold aheadP; infer_instance
set_option maxRecDepth 100000 in
set_option maxHeartbeats 4000000 in
theorem refahead_any (kd cl : Int) (q p r : Option Addr) (an ac n c m e : Nat) (A P Q : List Int) (w : World) (hA : Ints w q an ac A) (hP : Ints w p n c P) (hQ : Ints w r m e Q) :
    Calls Try.prog 20 #[.agg #[.int .u8 kd, .int .i64 cl, .slice q an ac], .slice p n c, .slice r m e] w fun e w' => e = .returned (.bool (decide (aheadP kd cl A P Q an n m))) ∧ Below w.heap.size w w' := by
  have hb : Below w.heap.size w (w.alloc (.cells #[.int .u8 kd, .int .i64 cl, .slice q an ac] 34)) := (Below.refl _ _).alloc (Nat.le_refl _) _
  have hs : w.heap.size < (w.alloc (.cells #[.int .u8 kd, .int .i64 cl, .slice q an ac] 34)).heap.size := by simp
  obtain ⟨e0, e1, e2⟩ := three_alloc w (.int .u8 kd) (.int .i64 cl) (.slice q an ac) 34
  have hA1 := hA.later hb
  have hP1 := hP.later hb
  have hQ1 := hQ.later hb
  clear hA hP hQ
  obtain ⟨a1, b1, hd1, hk1, hb1, hb1'⟩ := dV_parts _ (key_bound kd cl A P an n hA1.ok hP1.ok)
  obtain ⟨a2, b2, hd2, hk2, hb2, hb2'⟩ := dV_parts _ (key_bound kd cl A Q an m hA1.ok hQ1.ok)
  have HD1 := Lib.hid hd1
  have HD2 := Lib.hid hd2
  clear hd1 hd2
  go_enter Try.func20, Try.ntmps20
  go_upto_region 1 with fail
  generalize w.alloc (.cells #[.int .u8 kd, .int .i64 cl, .slice q an ac] 34) = w1 at *
  have HA := Lib.hid hA1
  have HP := Lib.hid hP1
  have HQ := Lib.hid hQ1
  have HB := Lib.hid hb
  have HS := Lib.hid hs
  clear hA1 hP1 hQ1 hb hs
  have HK := Lib.hid (And.intro hk1 hk2)
  clear hk1 hk2
  go_wp2_with fail
  refine (refkey_any kd cl q p an ac n c A P w1 HA.out HP.out).mono ?_
  rintro _ w2 ⟨rfl, hb2⟩
  have hlt : ∀ k, (⟨w.heap.size, k, none⟩ : Addr).block < w1.heap.size := fun k => HS.out
  have f0 := (hb2.cell (hlt 0)).trans e0
  have f1 := (hb2.cell (hlt 1)).trans e1
  have f2 := (hb2.cell (hlt 2)).trans e2
  have GA := Lib.hid (HA.out.later hb2)
  have GP := Lib.hid (HP.out.later hb2)
  have GQ := Lib.hid (HQ.out.later hb2)
  have GB := Lib.hid (HB.out.trans (hb2.mono HB.out.size))
  have GS := Lib.hid (Nat.lt_of_lt_of_le HS.out hb2.size)
  clear hlt hb2 e0 e1 e2 HA HP HQ HB HS
  clear w1
  rw [HD1.out]
  have z := zero_two w2
  obtain ⟨y0, y1, z0, z1⟩ := z.facts
  go_upto_region 2 with fail
  clear z y0 y1 z0 z1
  have t3 : Two (w2.alloc (.cells #[.int .u64 a1, .int .u64 b1] 37)) w2.heap.size (.int .u64 a1) (.int .u64 b1) := heap_alloc_new w2 _
  have hb3 : Below w2.heap.size w2 (w2.alloc (.cells #[.int .u64 a1, .int .u64 b1] 37)) := (Below.refl _ _).alloc (Nat.le_refl _) _
  generalize w2.alloc (.cells #[.int .u64 a1, .int .u64 b1] 37) = w3 at *
  have d0 := (hb3.cell (p := ⟨w.heap.size, 0, none⟩) GS.out).trans f0
  have d1 := (hb3.cell (p := ⟨w.heap.size, 1, none⟩) GS.out).trans f1
  have d2 := (hb3.cell (p := ⟨w.heap.size, 2, none⟩) GS.out).trans f2
  have KA := Lib.hid (GA.out.later hb3)
  have KP := Lib.hid (GP.out.later hb3)
  have KQ := Lib.hid (GQ.out.later hb3)
  have KB := Lib.hid (GB.out.trans (hb3.mono GB.out.size))
  have KT := Lib.hid t3
  clear hb3 f0 f1 f2 GA GP GQ GB GS t3
  generalize w2.heap.size = g7 at *
  go_wp2_with fail
  refine (refkey_any kd cl q r an ac m e A Q w3 KA.out KQ.out).mono ?_
  rintro _ w4 ⟨rfl, hb4⟩
  have MP := Lib.hid (KP.out.later hb4)
  have MQ := Lib.hid (KQ.out.later hb4)
  have MB := Lib.hid (KB.out.trans (hb4.mono KB.out.size))
  have MT := Lib.hid (KT.out.later hb4 KT.out.lt)
  clear hb4 d0 d1 d2 KA KP KQ KB KT
  rw [HD2.out]
  have z := zero_two w4
  obtain ⟨y0, y1, z0, z1⟩ := z.facts
  go_upto_region 3 with fail
  clear z y0 y1 z0 z1
  have t5 : Two (w4.alloc (.cells #[.int .u64 a2, .int .u64 b2] 37)) w4.heap.size (.int .u64 a2) (.int .u64 b2) := heap_alloc_new w4 _
  have hb5 : Below w4.heap.size w4 (w4.alloc (.cells #[.int .u64 a2, .int .u64 b2] 37)) := (Below.refl _ _).alloc (Nat.le_refl _) _
  generalize w4.alloc (.cells #[.int .u64 a2, .int .u64 b2] 37) = w5 at *
  have NP := Lib.hid (MP.out.later hb5)
  have NQ := Lib.hid (MQ.out.later hb5)
  have NB := Lib.hid (MB.out.trans (hb5.mono MB.out.size))
  have NT := Lib.hid (MT.out.later hb5 MT.out.lt)
  have NU := Lib.hid t5
  clear hb5 MP MQ MB MT t5
  generalize w4.heap.size = g9 at *
  clear w4
  obtain ⟨y0, y1, -, -⟩ := NT.out.facts
  obtain ⟨z0, z1, -, -⟩ := NU.out.facts
  by_cases ho : ordP kd cl an n
  case neg =>
    have HN := Lib.hid (show ¬ aheadP kd cl A P Q an n m from fun h => ho h.1)
    rw [decide_eq_false ho]
    clear ho
    go_wp2_with fail
    go_ret
    exact ⟨ret_ndec HN.out, NB.out⟩
  by_cases ho2 : ordP kd cl an m
  case neg =>
    have HN := Lib.hid (show ¬ aheadP kd cl A P Q an n m from fun h => ho2 h.2.1)
    rw [decide_eq_true ho, decide_eq_false ho2]
    clear ho ho2
    go_wp2_with fail
    go_ret
    exact ⟨ret_ndec HN.out, NB.out⟩
  rw [decide_eq_true ho, decide_eq_true ho2]
  by_cases hnm : (n : Int) = m
  case neg =>
    have HN := Lib.hid (show ¬ aheadP kd cl A P Q an n m from fun h => hnm (by rw [h.2.2.1]))
    have q1 : ((n : Int) == m) = false := by simpa using hnm
    have q2 : ((n : Int) != m) = true := by simpa using hnm
    clear ho ho2
    go_wp2_with fail
    go_ret
    exact ⟨ret_ndec HN.out, NB.out⟩
  obtain rfl : m = n := by omega
  have hnn : 1 ≤ m := by unfold ordP at ho; omega
  have hap : aheadP kd cl A P Q an m m ↔ (a1 < a2 ∨ a1 = a2 ∧ b1 < b2) ∨ (a1 = a2 ∧ b1 = b2) ∧ P.getD 0 0 < Q.getD 0 0 := by
    unfold aheadP
    rw [HK.out.1, HK.out.2]
    constructor
    · rintro ⟨-, -, -, h | ⟨h, h'⟩⟩
      · exact Or.inl (by omega)
      · exact Or.inr ⟨by omega, h'⟩
    · rintro (h | ⟨h, h'⟩)
      · exact ⟨ho, ho2, rfl, Or.inl (by omega)⟩
      · exact ⟨ho, ho2, rfl, Or.inr ⟨by omega, h'⟩⟩
  have HAP := Lib.hid hap
  clear hap ho ho2 hnm HK hb1 hb1' hb2 hb2'
  obtain ⟨gp, op, rfl, hp0⟩ := NP.out.cell 0 (by omega)
  obtain ⟨gq, oq, rfl, hq0⟩ := NQ.out.cell 0 (by omega)
  have i1 : (0 : Int) < m := by omega
  rw [Nat.add_zero] at hp0 hq0
  generalize P.getD 0 0 = x at *
  generalize Q.getD 0 0 = y at *
  by_cases heq : a1 = a2 ∧ b1 = b2
  case pos =>
    have hne : ∀ w', (binOp .neq 37 (.agg #[.int .u64 a1, .int .u64 b1]) (.agg #[.int .u64 a2, .int .u64 b2])).run Try.prog w' = .ok (.bool false) w' := fun w' => by
      rw [dist_neq, decide_eq_true heq]
      rfl
    have HR := Lib.hid (show decide (x < y) = decide (aheadP kd cl A P Q an m m) from decide_eq_decide.2 ⟨fun h => HAP.out.2 (Or.inr ⟨heq, h⟩), fun h => by
      rcases HAP.out.1 h with h | ⟨_, h⟩
      · omega
      · exact h⟩)
    clear heq
    go_upto_region 7 with fail
    go_quiet (fail)
    go_wp2_with fail
    go_ret
    exact ⟨congrArg (fun b => Ending.returned (.bool b)) HR.out, Below.drewN NB.out _⟩
  case neg =>
    have hne : ∀ w', (binOp .neq 37 (.agg #[.int .u64 a1, .int .u64 b1]) (.agg #[.int .u64 a2, .int .u64 b2])).run Try.prog w' = .ok (.bool true) w' := fun w' => by
      rw [dist_neq, decide_eq_false heq]
      rfl
    have HR := Lib.hid (show decide (a1 < a2 ∨ a1 = a2 ∧ b1 < b2) = decide (aheadP kd cl A P Q an m m) from decide_eq_decide.2 ⟨fun h => HAP.out.2 (Or.inl h), fun h => by
      rcases HAP.out.1 h with h | ⟨h, _⟩
      · exact h
      · exact absurd h heq⟩)
    clear heq
    go_wp2_with fail
    refine (less_any a1 b1 a2 b2 w5).mono ?_
    rintro _ w6 ⟨rfl, hb6⟩
    have B6 := Lib.hid (NB.out.trans (hb6.mono NB.out.size))
    clear hb6
    go_wp2_with fail
    go_ret
    exact ⟨congrArg (fun b => Ending.returned (.bool b)) (Eq.trans (by simp) HR.out), B6.out⟩
end Go.Proofs.Ythmloljnpjolmaa
