/- BoxRefE, Dist6B, BoxLeastKey, BoxPlace, BoxStable. -/
import Derived.Test.YtddeomdmccnfbaaMg3
import Derived.Sort.LotA
/- indentureref04.Ahead. -/
namespace Go.Proofs.Ytddeomdmccnfbaa
open Go.RowKit

theorem dV_parts (K : Int) (h : 0 ≤ K ∧ K < 340282366920938463463374607431768211456) : ∃ hi lo : Int, dV K = .agg #[.int .u64 hi, .int .u64 lo] ∧ K = hi * 18446744073709551616 + lo ∧ 0 ≤ lo ∧ lo < 18446744073709551616 := by
  refine ⟨K / 18446744073709551616 % 18446744073709551616, K % 18446744073709551616, rfl, ?_, ?_, ?_⟩ <;> omega
theorem getD_ok {R : List Int} (h : ∀ x ∈ R, -9223372036854775808 ≤ x ∧ x ≤ 9223372036854775807) (k : Nat) : -9223372036854775808 ≤ R.getD k 0 ∧ R.getD k 0 ≤ 9223372036854775807 := by
  rw [List.getD_eq_getElem?_getD]
  by_cases hk : k < R.length
  · rw [List.getElem?_eq_getElem hk]
    exact h _ (List.getElem_mem hk)
  · rw [List.getElem?_eq_none (by omega)]
    simp
theorem key_bound (kd cl : Int) (A P : List Int) (an n : Nat) (hA : ∀ x ∈ A, -9223372036854775808 ≤ x ∧ x ≤ 9223372036854775807) (hP : ∀ x ∈ P, -9223372036854775808 ≤ x ∧ x ≤ 9223372036854775807) :
    0 ≤ keyI kd cl A P an n ∧ keyI kd cl A P an n < 340282366920938463463374607431768211456 := by
  have hc := getD_ok hP cl.toNat
  unfold keyI
  split
  · split
    · unfold btw
      split
      · rename_i hok
        have hap : ∀ k, k < n - 1 → 0 ≤ apart ((P.drop 1).getD k 0) (A.getD k 0) ∧ apart ((P.drop 1).getD k 0) (A.getD k 0) < 18446744073709551616 := fun k _ =>
          apart_word (getD_ok (fun x hx => hP x (List.mem_of_mem_drop hx)) k) (getD_ok hA k)
        have h1 := tot_nonneg _ (n - 1) (fun k hk => (hap k hk).1)
        have h2 := tot_lt _ (n - 1) (fun k hk => (hap k hk).2)
        have h3 : n - 1 ≤ 8 := hok.2.1
        omega
      · omega
    · split <;> omega
  · omega
/-- Whether a row is ahead of another one. -/
def aheadP (kd cl : Int) (A P Q : List Int) (an n m : Nat) : Prop :=
  ordP kd cl an n ∧ ordP kd cl an m ∧ n = m ∧ (keyI kd cl A P an n < keyI kd cl A Q an m ∨ keyI kd cl A P an n = keyI kd cl A Q an m ∧ P.getD 0 0 < Q.getD 0 0)
instance (kd cl : Int) (A P Q : List Int) (an n m : Nat) : Decidable (aheadP kd cl A P Q an n m) := by unfold aheadP; infer_instance
set_option maxRecDepth 100000 in
set_option maxHeartbeats 4000000 in
theorem refahead_any (kd cl : Int) (q p r : Option Addr) (an ac n c m e : Nat) (A P Q : List Int) (w : World) (hA : Ints w q an ac A) (hP : Ints w p n c P) (hQ : Ints w r m e Q) :
    Calls Try.prog 20 #[.agg #[.int .u8 kd, .int .i64 cl, .slice q an ac], .slice p n c, .slice r m e] w fun e w' => e = .returned (.bool (decide (aheadP kd cl A P Q an n m))) ∧ Below w.heap.size w w' := by
  have hb : Below w.heap.size w (w.alloc (.cells #[.int .u8 kd, .int .i64 cl, .slice q an ac] 34)) := (Below.refl _ _).alloc (Nat.le_refl _) _
  have hs : w.heap.size < (w.alloc (.cells #[.int .u8 kd, .int .i64 cl, .slice q an ac] 34)).heap.size := by simp
  obtain ⟨e0, e1, e2⟩ := three_alloc w (.int .u8 kd) (.int .i64 cl) (.slice q an ac) 34
  have hA1 := hA.later hb
  have hP1 := hP.later hb
  have hQ1 := hQ.later hb
  clear hA hP hQ
  obtain ⟨a1, b1, hd1, hk1, hb1, hb1'⟩ := dV_parts _ (key_bound kd cl A P an n hA1.ok hP1.ok)
  obtain ⟨a2, b2, hd2, hk2, hb2, hb2'⟩ := dV_parts _ (key_bound kd cl A Q an m hA1.ok hQ1.ok)
  have HD1 := Lib.hid hd1
  have HD2 := Lib.hid hd2
  clear hd1 hd2
  go_enter Try.func20, Try.ntmps20
  go_upto_region 1 with fail
  generalize w.alloc (.cells #[.int .u8 kd, .int .i64 cl, .slice q an ac] 34) = w1 at *
  have HA := Lib.hid hA1
  have HP := Lib.hid hP1
  have HQ := Lib.hid hQ1
  have HB := Lib.hid hb
  have HS := Lib.hid hs
  clear hA1 hP1 hQ1 hb hs
  have HK := Lib.hid (And.intro hk1 hk2)
  clear hk1 hk2
  go_wp2_with fail
  refine (refkey_any kd cl q p an ac n c A P w1 HA.out HP.out).mono ?_
  rintro _ w2 ⟨rfl, hb2⟩
  have hlt : ∀ k, (⟨w.heap.size, k, none⟩ : Addr).block < w1.heap.size := fun k => HS.out
  have f0 := (hb2.cell (hlt 0)).trans e0
  have f1 := (hb2.cell (hlt 1)).trans e1
  have f2 := (hb2.cell (hlt 2)).trans e2
  have GA := Lib.hid (HA.out.later hb2)
  have GP := Lib.hid (HP.out.later hb2)
  have GQ := Lib.hid (HQ.out.later hb2)
  have GB := Lib.hid (HB.out.trans (hb2.mono HB.out.size))
  have GS := Lib.hid (Nat.lt_of_lt_of_le HS.out hb2.size)
  clear hlt hb2 e0 e1 e2 HA HP HQ HB HS
  clear w1
  rw [HD1.out]
  have z := zero_two w2
  obtain ⟨y0, y1, z0, z1⟩ := z.facts
  go_upto_region 2 with fail
  clear z y0 y1 z0 z1
  have t3 : Two (w2.alloc (.cells #[.int .u64 a1, .int .u64 b1] 37)) w2.heap.size (.int .u64 a1) (.int .u64 b1) := heap_alloc_new w2 _
  have hb3 : Below w2.heap.size w2 (w2.alloc (.cells #[.int .u64 a1, .int .u64 b1] 37)) := (Below.refl _ _).alloc (Nat.le_refl _) _
  generalize w2.alloc (.cells #[.int .u64 a1, .int .u64 b1] 37) = w3 at *
  have d0 := (hb3.cell (p := ⟨w.heap.size, 0, none⟩) GS.out).trans f0
  have d1 := (hb3.cell (p := ⟨w.heap.size, 1, none⟩) GS.out).trans f1
  have d2 := (hb3.cell (p := ⟨w.heap.size, 2, none⟩) GS.out).trans f2
  have KA := Lib.hid (GA.out.later hb3)
  have KP := Lib.hid (GP.out.later hb3)
  have KQ := Lib.hid (GQ.out.later hb3)
  have KB := Lib.hid (GB.out.trans (hb3.mono GB.out.size))
  have KT := Lib.hid t3
  clear hb3 f0 f1 f2 GA GP GQ GB GS t3
  generalize w2.heap.size = g7 at *
  go_wp2_with fail
  refine (refkey_any kd cl q r an ac m e A Q w3 KA.out KQ.out).mono ?_
  rintro _ w4 ⟨rfl, hb4⟩
  have MP := Lib.hid (KP.out.later hb4)
  have MQ := Lib.hid (KQ.out.later hb4)
  have MB := Lib.hid (KB.out.trans (hb4.mono KB.out.size))
  have MT := Lib.hid (KT.out.later hb4 KT.out.lt)
  clear hb4 d0 d1 d2 KA KP KQ KB KT
  rw [HD2.out]
  have z := zero_two w4
  obtain ⟨y0, y1, z0, z1⟩ := z.facts
  go_upto_region 3 with fail
  clear z y0 y1 z0 z1
  have t5 : Two (w4.alloc (.cells #[.int .u64 a2, .int .u64 b2] 37)) w4.heap.size (.int .u64 a2) (.int .u64 b2) := heap_alloc_new w4 _
  have hb5 : Below w4.heap.size w4 (w4.alloc (.cells #[.int .u64 a2, .int .u64 b2] 37)) := (Below.refl _ _).alloc (Nat.le_refl _) _
  generalize w4.alloc (.cells #[.int .u64 a2, .int .u64 b2] 37) = w5 at *
  have NP := Lib.hid (MP.out.later hb5)
  have NQ := Lib.hid (MQ.out.later hb5)
  have NB := Lib.hid (MB.out.trans (hb5.mono MB.out.size))
  have NT := Lib.hid (MT.out.later hb5 MT.out.lt)
  have NU := Lib.hid t5
  clear hb5 MP MQ MB MT t5
  generalize w4.heap.size = g9 at *
  clear w4
  obtain ⟨y0, y1, -, -⟩ := NT.out.facts
  obtain ⟨z0, z1, -, -⟩ := NU.out.facts
  by_cases ho : ordP kd cl an n
  case neg =>
    have HN := Lib.hid (show ¬ aheadP kd cl A P Q an n m from fun h => ho h.1)
    rw [decide_eq_false ho]
    clear ho
    go_wp2_with fail
    go_ret
    exact ⟨ret_ndec HN.out, NB.out⟩
  by_cases ho2 : ordP kd cl an m
  case neg =>
    have HN := Lib.hid (show ¬ aheadP kd cl A P Q an n m from fun h => ho2 h.2.1)
    rw [decide_eq_true ho, decide_eq_false ho2]
    clear ho ho2
    go_wp2_with fail
    go_ret
    exact ⟨ret_ndec HN.out, NB.out⟩
  rw [decide_eq_true ho, decide_eq_true ho2]
  by_cases hnm : (n : Int) = m
  case neg =>
    have HN := Lib.hid (show ¬ aheadP kd cl A P Q an n m from fun h => hnm (by rw [h.2.2.1]))
    have q1 : ((n : Int) == m) = false := by simpa using hnm
    have q2 : ((n : Int) != m) = true := by simpa using hnm
    clear ho ho2
    go_wp2_with fail
    go_ret
    exact ⟨ret_ndec HN.out, NB.out⟩
  obtain rfl : m = n := by omega
  have hnn : 1 ≤ m := by unfold ordP at ho; omega
  have hap : aheadP kd cl A P Q an m m ↔ (a1 < a2 ∨ a1 = a2 ∧ b1 < b2) ∨ (a1 = a2 ∧ b1 = b2) ∧ P.getD 0 0 < Q.getD 0 0 := by
    unfold aheadP
    rw [HK.out.1, HK.out.2]
    constructor
    · rintro ⟨-, -, -, h | ⟨h, h'⟩⟩
      · exact Or.inl (by omega)
      · exact Or.inr ⟨by omega, h'⟩
    · rintro (h | ⟨h, h'⟩)
      · exact ⟨ho, ho2, rfl, Or.inl (by omega)⟩
      · exact ⟨ho, ho2, rfl, Or.inr ⟨by omega, h'⟩⟩
  have HAP := Lib.hid hap
  clear hap ho ho2 hnm HK hb1 hb1' hb2 hb2'
  obtain ⟨gp, op, rfl, hp0⟩ := NP.out.cell 0 (by omega)
  obtain ⟨gq, oq, rfl, hq0⟩ := NQ.out.cell 0 (by omega)
  have i1 : (0 : Int) < m := by omega
  rw [Nat.add_zero] at hp0 hq0
  generalize P.getD 0 0 = x at *
  generalize Q.getD 0 0 = y at *
  by_cases heq : a1 = a2 ∧ b1 = b2
  case pos =>
    have hne : ∀ w', (binOp .neq 37 (.agg #[.int .u64 a1, .int .u64 b1]) (.agg #[.int .u64 a2, .int .u64 b2])).run Try.prog w' = .ok (.bool false) w' := fun w' => by
      rw [dist_neq, decide_eq_true heq]
      rfl
    have HR := Lib.hid (show decide (x < y) = decide (aheadP kd cl A P Q an m m) from decide_eq_decide.2 ⟨fun h => HAP.out.2 (Or.inr ⟨heq, h⟩), fun h => by
      rcases HAP.out.1 h with h | ⟨_, h⟩
      · omega
      · exact h⟩)
    clear heq
    go_upto_region 7 with fail
    go_quiet (fail)
    go_wp2_with fail
    go_ret
    exact ⟨congrArg (fun b => Ending.returned (.bool b)) HR.out, Below.drewN NB.out _⟩
  case neg =>
    have hne : ∀ w', (binOp .neq 37 (.agg #[.int .u64 a1, .int .u64 b1]) (.agg #[.int .u64 a2, .int .u64 b2])).run Try.prog w' = .ok (.bool true) w' := fun w' => by
      rw [dist_neq, decide_eq_false heq]
      rfl
    have HR := Lib.hid (show decide (a1 < a2 ∨ a1 = a2 ∧ b1 < b2) = decide (aheadP kd cl A P Q an m m) from decide_eq_decide.2 ⟨fun h => HAP.out.2 (Or.inl h), fun h => by
      rcases HAP.out.1 h with h | ⟨h, _⟩
      · exact h
      · exact absurd h heq⟩)
    clear heq
    go_wp2_with fail
    refine (less_any a1 b1 a2 b2 w5).mono ?_
    rintro _ w6 ⟨rfl, hb6⟩
    have B6 := Lib.hid (NB.out.trans (hb6.mono NB.out.size))
    clear hb6
    go_wp2_with fail
    go_ret
    exact ⟨congrArg (fun b => Ending.returned (.bool b)) (Eq.trans (by simp) HR.out), B6.out⟩
end Go.Proofs.Ytddeomdmccnfbaa

/- dist.ToBox. -/
namespace Go.Proofs.Ytddeomdmccnfbaa
open Go.RowKit

def tbx (R S T : List Int) (n m l : Nat) : Int := if okP n m ∧ n = l then tot (fun k => gap (R.getD k 0) (S.getD k 0) (T.getD k 0)) n else 0
def tbxE (n m l : Nat) : Int := if okP n m ∧ n = l then 0 else 1
theorem boxed2 (w : World) (v u : Value) (t : TypeId) : (w.alloc (.cells #[v, u] t)).cell? ⟨w.heap.size, 0, none⟩ = some v := cell_of_row _ _ 0 _ t (0, 0) (heap_alloc_new w _)
theorem boxed3 (w : World) (v u : Value) (t : TypeId) : (w.alloc (.cells #[v, u] t)).cell? ⟨w.heap.size, 1, none⟩ = some u := cell_of_row _ _ 1 _ t (0, 0) (heap_alloc_new w _)
set_option maxRecDepth 100000 in
set_option maxHeartbeats 1000000 in
theorem tobox_any (p q r : Option Addr) (n c m d l f : Nat) (R S T : List Int) (w : World) (h : Ints w p n c R) (h2 : Ints w q m d S) (h3 : Ints w r l f T) :
    Calls Try.prog 53 #[.slice p n c, .agg #[.slice q m d, .slice r l f]] w fun e w' => e = .returned (.tuple #[dV (tbx R S T n m l), .int .i64 (tbxE n m l)]) ∧ Below w.heap.size w w' := by
  have H := Lib.hid h
  have H2 := Lib.hid h2
  have H3 := Lib.hid h3
  clear h h2 h3
  obtain ⟨hi, lo, hd⟩ := dV_two (tbx R S T n m l)
  rw [hd]
  have HD := Lib.hid hd
  clear hd
  go_enter Try.func53, Try.ntmps53
  go_wp2_with fail
  have B1 : Below w.heap.size w (w.alloc (.cells #[.slice p n c] 23)) := (Below.refl _ _).alloc (Nat.le_refl _) _
  have c1 := boxed w (.slice p n c) 23
  have s1 : (w.alloc (.cells #[.slice p n c] 23)).heap.size = w.heap.size + 1 := by simp
  generalize w.alloc (.cells #[.slice p n c] 23) = w1 at *
  have B2 : Below w1.heap.size w1 (w1.alloc (.cells #[.slice q m d, .slice r l f] 25)) := (Below.refl _ _).alloc (Nat.le_refl _) _
  have c2 := boxed2 w1 (.slice q m d) (.slice r l f) 25
  have c3 := boxed3 w1 (.slice q m d) (.slice r l f) 25
  have s2 : (w1.alloc (.cells #[.slice q m d, .slice r l f] 25)).heap.size = w.heap.size + 1 + 1 := by simp; omega
  generalize w1.alloc (.cells #[.slice q m d, .slice r l f] 25) = w2 at *
  have t3 := zero_two w2
  have B3 : Below w2.heap.size w2 (w2.alloc (.cells #[.int .u64 0, .int .u64 0] 37)) := (Below.refl _ _).alloc (Nat.le_refl _) _
  have s3 : (w2.alloc (.cells #[.int .u64 0, .int .u64 0] 37)).heap.size = w.heap.size + 3 := by simp; omega
  generalize w2.alloc (.cells #[.int .u64 0, .int .u64 0] 37) = w3 at *
  rw [s1] at c2 c3
  rw [s2] at t3
  replace c1 := (B2.cell (p := ⟨w.heap.size, 0, none⟩) (by show w.heap.size < _; omega)).trans c1
  replace c1 := (B3.cell (p := ⟨w.heap.size, 0, none⟩) (by show w.heap.size < _; omega)).trans c1
  replace c2 := (B3.cell (p := ⟨w.heap.size + 1, 0, none⟩) (by show w.heap.size + 1 < _; omega)).trans c2
  replace c3 := (B3.cell (p := ⟨w.heap.size + 1, 1, none⟩) (by show w.heap.size + 1 < _; omega)).trans c3
  have BB := Lib.hid (B1.trans ((B2.trans (B3.mono (by omega))).mono (by omega)))
  clear B1 B2 B3 s1 s2
  refine (points_any p q n c m d w3).mono ?_
  rintro e w3 ⟨rfl, rfl⟩
  by_cases hok : okP n m ∧ n = l
  · have hE : tbxE n m l = 0 := by unfold tbxE; rw [if_pos hok]
    have hB : tbx R S T n m l = tot (fun k => gap (R.getD k 0) (S.getD k 0) (T.getD k 0)) n := by unfold tbx; rw [if_pos hok]
    rw [hB] at HD
    rw [show decide (1 ≤ n ∧ n ≤ 8 ∧ n = m) = true from decide_eq_true hok.1]
    obtain ⟨⟨k1, k2, rfl⟩, rfl⟩ := hok
    have HE := Lib.hid hE
    clear hE hB
    go_wp2_with fail
    refine (points_any p r n c n f w3).mono ?_
    rintro e w3 ⟨rfl, rfl⟩
    rw [show decide (1 ≤ n ∧ n ≤ 8 ∧ n = n) = true from decide_eq_true ⟨k1, k2, rfl⟩]
    go_wp2_with fail
    refine (together_any n (by omega) (fun k => gap (R.getD k 0) (S.getD k 0) (T.getD k 0)) (fun k hk => gap_word (H.out.get k hk) (H2.out.get k hk) (H3.out.get k hk)) 62 #[.pointer (some ⟨w.heap.size, 0, none⟩), .pointer (some ⟨w.heap.size + 1, 0, none⟩)] (enter_side Try.func62 (by kernel_rfl) rfl) w3 ?_).mono ?_
    · intro k w' hk hb
      have hc : w'.cell? ⟨w.heap.size, 0, none⟩ = some (.slice p n c) := (hb.cell (p := ⟨w.heap.size, 0, none⟩) (by show w.heap.size < _; omega)).trans c1
      have hc2 : w'.cell? ⟨w.heap.size + 1, 0, none⟩ = some (.slice q n d) := (hb.cell (p := ⟨w.heap.size + 1, 0, none⟩) (by show w.heap.size + 1 < _; omega)).trans c2
      have hc3 : w'.cell? ⟨w.heap.size + 1, 1, none⟩ = some (.slice r n f) := (hb.cell (p := ⟨w.heap.size + 1, 1, none⟩) (by show w.heap.size + 1 < _; omega)).trans c3
      have hbb : Below w.heap.size w w' := BB.out.trans (hb.mono (by omega))
      exact toboxside w.heap.size (w.heap.size + 1) p q r n c n d n f R S T k hk hk hk w' hc ⟨hc2, hc3⟩ (H.out.later hbb) (H2.out.later hbb) (H3.out.later hbb)
    · rintro e w4 ⟨rfl, hb3⟩
      rw [HD.out]
      replace t3 := t3.later hb3 (by omega)
      have B3 := Lib.hid (BB.out.trans (hb3.mono (by omega)))
      obtain ⟨y0, y1, y2, y3⟩ := t3.facts
      have T3 := Lib.hid t3
      clear t3 c1 c2 c3 hb3 s3 BB
      go_wp2_with fail
      exact ret_two2 4 5 rfl (w.heap.size + 1 + 1) _ _ (.int .i64 0) rfl rfl (T3.out.set _ _) ⟨by rw [HE.out], Two.below B3.out (by omega) _ _⟩
  · have hE : tbxE n m l = 1 := by unfold tbxE; rw [if_neg hok]
    have hB : tbx R S T n m l = 0 := by unfold tbx; rw [if_neg hok]
    rw [hB] at HD
    obtain ⟨rfl, rfl⟩ : (0 : Int) = hi ∧ (0 : Int) = lo := by have := HD.out; simpa [dV] using this
    obtain ⟨y0, y1, y2, y3⟩ := t3.facts
    have T3 := Lib.hid t3
    have HE := Lib.hid hE
    clear t3 hE hB
    by_cases hp : okP n m
    · rw [show decide (1 ≤ n ∧ n ≤ 8 ∧ n = m) = true from decide_eq_true hp]
      go_wp2_with fail
      refine (points_any p r n c l f w3).mono ?_
      rintro e w3 ⟨rfl, rfl⟩
      rw [show decide (1 ≤ n ∧ n ≤ 8 ∧ n = l) = false from decide_eq_false fun h => hok ⟨hp, h.2.2⟩]
      clear c1 c2 c3 s3 hok hp
      go_wp2_with fail
      exact ret_two2 4 5 rfl (w.heap.size + 1 + 1) _ _ (.int .i64 1) rfl rfl (T3.out.set _ _) ⟨by rw [HE.out], Two.below BB.out (by omega) _ _⟩
    · rw [show decide (1 ≤ n ∧ n ≤ 8 ∧ n = m) = false from decide_eq_false hp]
      clear c1 c2 c3 s3 hok hp
      go_wp2_with fail
      exact ret_two2 4 5 rfl (w.heap.size + 1 + 1) _ _ (.int .i64 1) rfl rfl (T3.out.set _ _) ⟨by rw [HE.out], Two.below BB.out (by omega) _ _⟩
end Go.Proofs.Ytddeomdmccnfbaa

/- box.leastKey, box.placeOf, box.place's compare. -/
namespace Go.Proofs.Ytddeomdmccnfbaa
open Go.RowKit

/-- The least key of the rows from one to another one, side by side. -/
def leastI (kd cl : Int) (A P Q : List Int) (an n : Nat) : Int :=
  if kd = 3 then tbx A (P.drop 1) (Q.drop 1) an (n - 1) (n - 1) else if kd = 2 then 9223372036854775807 - Q.getD cl.toNat 0 else P.getD cl.toNat 0 + 9223372036854775808
theorem gap_point (x p : Int) : gap x p p = apart p x := by
  unfold gap apart
  repeat' split
  all_goals omega
theorem tot_congr' (f g : Nat → Int) : ∀ n, (∀ k, k < n → f k = g k) → tot f n = tot g n
  | 0, _ => rfl
  | n + 1, h => by
    show tot f n + f n = tot g n + g n
    rw [tot_congr' f g n (fun k hk => h k (by omega)), h n (by omega)]
theorem least_key {kd cl : Int} {A P : List Int} {an n : Nat} (ho : ordP kd cl an n) : leastI kd cl A P P an n = keyI kd cl A P an n := by
  unfold leastI keyI
  rw [if_pos ho]
  split
  · have h : an = n - 1 ∧ 1 ≤ an ∧ an ≤ 8 := by unfold ordP at ho; omega
    obtain ⟨rfl, h1, h2⟩ := h
    unfold tbx btw
    rw [if_pos (show okP (n - 1) (n - 1) ∧ n - 1 = n - 1 from ⟨⟨h1, h2, rfl⟩, rfl⟩), if_pos (show okP (n - 1) (n - 1) from ⟨h1, h2, rfl⟩)]
    exact tot_congr' _ _ _ fun k _ => gap_point _ _
  · rfl
theorem two_fresh (w : World) (a b : Value) : Two (w.alloc (.cells #[a, b] 37)) w.heap.size a b := heap_alloc_new w _
set_option maxRecDepth 100000 in
set_option maxHeartbeats 4000000 in
theorem leastkey_any (kd cl : Int) (q p r : Option Addr) (an ac n c e : Nat) (A P Q : List Int) (w : World) (hA : Ints w q an ac A) (hP : Ints w p n c P) (hQ : Ints w r n e Q) (ho : ordP kd cl an n) :
    Calls Try.prog 39 #[.agg #[.int .u8 kd, .int .i64 cl, .slice q an ac], .slice p n c, .slice r n e] w fun e w' => e = .returned (dV (leastI kd cl A P Q an n)) ∧ Below w.heap.size w w' := by
  have hb : Below w.heap.size w (w.alloc (.cells #[.int .u8 kd, .int .i64 cl, .slice q an ac] 34)) := (Below.refl _ _).alloc (Nat.le_refl _) _
  have hs : (w.alloc (.cells #[.int .u8 kd, .int .i64 cl, .slice q an ac] 34)).heap.size = w.heap.size + 1 := by simp
  obtain ⟨e0, e1, e2⟩ := three_alloc w (.int .u8 kd) (.int .i64 cl) (.slice q an ac) 34
  have hA1 := hA.later hb
  have hP1 := hP.later hb
  have hQ1 := hQ.later hb
  clear hA hP hQ
  obtain ⟨hi, lo, hd⟩ := dV_two (leastI kd cl A P Q an n)
  rw [hd]
  have HD := Lib.hid hd
  clear hd
  go_enter Try.func39, Try.ntmps39
  go_upto_region 1 with fail
  generalize w.alloc (.cells #[.int .u8 kd, .int .i64 cl, .slice q an ac] 34) = w1 at *
  have t2 := zero_two w1
  have hb2 : Below w1.heap.size w1 (w1.alloc (.cells #[.int .u64 0, .int .u64 0] 37)) := (Below.refl _ _).alloc (Nat.le_refl _) _
  generalize w1.alloc (.cells #[.int .u64 0, .int .u64 0] 37) = w2 at *
  have hlt : ∀ k, (⟨w.heap.size, k, none⟩ : Addr).block < w1.heap.size := fun k => by show w.heap.size < _; omega
  have d0 := (hb2.cell (hlt 0)).trans e0
  have d1 := (hb2.cell (hlt 1)).trans e1
  have d2 := (hb2.cell (hlt 2)).trans e2
  have HA := Lib.hid (hA1.later hb2)
  have HP := Lib.hid (hP1.later hb2)
  have HQ := Lib.hid (hQ1.later hb2)
  have HB := Lib.hid (hb.trans (hb2.mono (by omega)))
  have HS := Lib.hid (show w.heap.size + 1 < w2.heap.size from by have := t2.lt; omega)
  rw [hs] at t2
  have HT := Lib.hid t2
  clear hb hb2 hlt hA1 hP1 hQ1 hs e0 e1 e2 t2
  clear w1
  obtain ⟨y0, y1, z0, z1⟩ := HT.out.facts
  by_cases h3 : kd = 3
  case pos =>
    subst h3
    have hk : leastI 3 cl A P Q an n = tbx A (P.drop 1) (Q.drop 1) an (n - 1) (n - 1) := by unfold leastI; rw [if_pos rfl]
    rw [hk] at HD
    have hdim : 1 < n ∧ n ≤ 8 ∧ an = n - 1 := by unfold ordP at ho; omega
    obtain ⟨dm1, dm2, d3⟩ := hdim
    obtain ⟨g, o, rfl, ht⟩ := HP.out.tail (by omega)
    obtain ⟨g', o', rfl, ht'⟩ := HQ.out.tail (by omega)
    have hE : tbxE an (n - 1) (n - 1) = 0 := by unfold tbxE; rw [if_pos (show okP an (n - 1) ∧ an = n - 1 from ⟨⟨by omega, by omega, d3⟩, d3⟩)]
    have hc := fun w' (hb : Below w2.heap.size w2 w') => tobox_any q _ _ an ac (n - 1) (c - 1) (n - 1) (e - 1) A _ _ w' (HA.out.later hb) (ht.later hb) (ht'.later hb)
    rw [hE, HD.out] at hc
    have HC := Lib.hid hc
    have hle := HP.out.le
    have hle' := HQ.out.le
    have n1 : (1 : Int) ≤ n := by omega
    have c1 : ¬ c = 1 := by omega
    have c2 : ¬ e = 1 := by omega
    have HST := Lib.hid (show ∀ w' w'' : World, (Below w2.heap.size w2 w' ∧ Two w' (w.heap.size + 1) (.int .u64 0) (.int .u64 0)) → Below w'.heap.size w' w'' → (Below w2.heap.size w2 w'' ∧ Two w'' (w.heap.size + 1) (.int .u64 0) (.int .u64 0)) from fun w' w'' h hb => ⟨h.1.trans (hb.mono h.1.size), h.2.later hb h.2.lt⟩)
    have d4 := (((Below.refl w2.heap.size w2).alloc (Nat.le_refl _) (.cells #[.int .u64 0, .int .u64 0] 37)).cell (p := ⟨w.heap.size, 2, none⟩) (by have := HS.out; show w.heap.size < _; omega)).trans d2
    clear hk ho d3 hc ht ht' hle hle' hE dm1 dm2
    go_upto_region 8 with fail
    go_cut [7] (fun s7 wx => ∃ gd : Nat, s7 = .pointer (some ⟨gd, 0, none⟩) ∧ Two wx gd (.int .u64 hi) (.int .u64 lo) ∧ gd ≠ w.heap.size + 1 ∧ Two wx (w.heap.size + 1) (.int .u64 0) (.int .u64 0) ∧ Below w2.heap.size w2 wx)
    case first =>
      go_region_law (go_simp; first
        | (go_at_call 53; refine (HC.out _ (Below.refl _ _).drew).mono ?_; rintro e w4 ⟨rfl, hb4⟩)
        | (go_at_call 53; refine (HC.out _ ((Below.refl _ _).alloc (Nat.le_refl _) _).drew).mono ?_; rintro e w4 ⟨rfl, hb4⟩; have tb : Two w4 w2.heap.size (.int .u64 0) (.int .u64 0) := Two.later (w := (w2.alloc (.cells #[.int .u64 0, .int .u64 0] 37)).drew) (zero_two w2) hb4 (by simp); have TB := Lib.hid tb; obtain ⟨u0, u1, u2, u3⟩ := tb.facts; clear tb))
      all_goals
        go_wp2_with fail
        go_meet
      · have t4 : Two w4 (w.heap.size + 1) (.int .u64 0) (.int .u64 0) := Two.later (w := w2.drew) HT.out hb4 HT.out.lt
        exact ⟨w4.heap.size, rfl, two_fresh _ _ _, Nat.ne_of_gt t4.lt, t4.later ((Below.refl w4.heap.size w4).alloc (Nat.le_refl _) _) t4.lt, ((Below.refl _ _).drew.trans hb4).alloc (by have := hb4.size; simpa using this) _⟩
      all_goals
        have hba : Below w2.heap.size w2 (w2.alloc (.cells #[.int .u64 0, .int .u64 0] 37)).drew := ((Below.refl _ _).alloc (Nat.le_refl _) _).drew
        have hbw : Below w2.heap.size w2 w4 := hba.trans (hb4.mono hba.size)
        have t4 : Two w4 (w.heap.size + 1) (.int .u64 0) (.int .u64 0) := HT.out.later hbw HT.out.lt
        have hne : w2.heap.size ≠ w.heap.size + 1 := Nat.ne_of_gt HT.out.lt
        exact ⟨w2.heap.size, rfl, TB.out.set _ _, hne, t4.other (Ne.symm hne) _ _, Two.below hbw (Nat.le_refl _) _ _⟩
    case rest =>
      obtain ⟨gd, rfl, g1, gne, g2, g3⟩ := hcut
      obtain ⟨wx, hwx⟩ : ∃ w3, w3 = wc := ⟨_, rfl⟩
      rw [← hwx] at g1 g2 g3 ⊢
      clear hwx
      have G2 := Lib.hid g2
      have G3 := Lib.hid (HB.out.trans (g3.mono HB.out.size))
      obtain ⟨y0, y1, z0, z1⟩ := g2.facts
      obtain ⟨x0, x1, _, _⟩ := g1.facts
      clear g1 g2 g3 d4 d0 d1 d2
      go_wp2_with fail
      exact ret_two 6 rfl (w.heap.size + 1) _ _ rfl (G2.out.set _ _) ⟨rfl, Two.below G3.out (by omega) _ _⟩
  obtain ⟨j, rfl⟩ : ∃ j : Nat, cl = j := ⟨cl.toNat, by unfold ordP at ho; omega⟩
  have hj : j < n := by unfold ordP at ho; omega
  obtain ⟨g, o, rfl, hx⟩ := HP.out.cell j hj
  obtain ⟨g', o', rfl, hy⟩ := HQ.out.cell j hj
  have hxb := HP.out.get j hj
  have hyb := HQ.out.get j hj
  have i1 : (0 : Int) ≤ j ∧ (j : Int) < n := by omega
  have q3 : (kd == 3) = false := by simpa using h3
  by_cases h2 : kd = 2
  case pos =>
    subst h2
    have hk : leastI 2 j A P Q an n = 9223372036854775807 - Q.getD j 0 := by unfold leastI; rw [if_neg h3, if_pos rfl, Int.toNat_natCast]
    rw [hk] at HD
    generalize Q.getD j 0 = y at *
    have hd := HD.out
    rw [dV_small _ (by omega)] at hd
    have e1 : (0 : Int) = hi ∧ 9223372036854775807 - y = lo := by simpa using hd
    obtain ⟨rfl, hlo⟩ := e1
    have ha := apart_any y 9223372036854775807 hyb (by omega)
    rw [show apart y 9223372036854775807 = lo by unfold apart; split <;> omega] at ha
    have HA2 := Lib.hid ha
    clear hk hd h3 ho ha hlo
    go_wp2_with ((go_at_call 52; refine (HA2.out _).mono ?_; rintro e w' ⟨rfl, rfl⟩))
    exact ret_two 6 rfl (w.heap.size + 1) _ _ rfl (HT.out.set _ _) ⟨rfl, Two.below HB.out (by omega) _ _⟩
  case neg =>
    have hk : leastI kd j A P Q an n = P.getD j 0 + 9223372036854775808 := by unfold leastI; rw [if_neg h3, if_neg h2, Int.toNat_natCast]
    rw [hk] at HD
    generalize P.getD j 0 = x at *
    have hd := HD.out
    rw [dV_small _ (by omega)] at hd
    have e1 : (0 : Int) = hi ∧ x + 9223372036854775808 = lo := by simpa using hd
    obtain ⟨rfl, hlo⟩ := e1
    have ha := apart_any x (-9223372036854775808) hxb (by omega)
    rw [show apart x (-9223372036854775808) = lo by unfold apart; split <;> omega] at ha
    have HA2 := Lib.hid ha
    have q2 : (kd == 2) = false := by simpa using h2
    have hcase : kd = 0 ∨ kd = 1 := by unfold ordP at ho; omega
    clear hk hd ho ha hlo
    rcases hcase with rfl | rfl
    · clear h3 h2 q2 q3
      go_wp2_with ((go_at_call 52; refine (HA2.out _).mono ?_; rintro e w' ⟨rfl, rfl⟩))
      exact ret_two 6 rfl (w.heap.size + 1) _ _ rfl (HT.out.set _ _) ⟨rfl, Two.below HB.out (by omega) _ _⟩
    · clear h3 h2 q2 q3
      go_wp2_with ((go_at_call 52; refine (HA2.out _).mono ?_; rintro e w' ⟨rfl, rfl⟩))
      exact ret_two 6 rfl (w.heap.size + 1) _ _ rfl (HT.out.set _ _) ⟨rfl, Two.below HB.out (by omega) _ _⟩
end Go.Proofs.Ytddeomdmccnfbaa

/- box.placeOf, box.place's compare; box.Key. -/
namespace Go.Proofs.Ytddeomdmccnfbaa
open Go.RowKit

/-- A place in an order. -/
def plV (K id : Int) : Value := .agg #[.int .u64 (K / 18446744073709551616 % 18446744073709551616), .int .u64 (K % 18446744073709551616), .int .i64 id]
theorem plV_parts {K hi lo : Int} (id : Int) (h : dV K = .agg #[.int .u64 hi, .int .u64 lo]) : plV K id = .agg #[.int .u64 hi, .int .u64 lo, .int .i64 id] := by
  unfold dV at h
  simp only [Value.agg.injEq, Array.mk.injEq, List.cons.injEq, Value.int.injEq, true_and, and_true] at h
  unfold plV
  rw [h.1, h.2]
/-- A block that holds a place. -/
def Tri (w : World) (g : Nat) (a b c : Value) : Prop := w.heap[g]? = some (.cells #[a, b, c] 66 (0, 0))
theorem Tri.facts {w : World} {g : Nat} {a b c : Value} (h : Tri w g a b c) : w.cell? ⟨g, 0, none⟩ = some a ∧ w.cell? ⟨g, 1, none⟩ = some b ∧ w.cell? ⟨g, 2, none⟩ = some c ∧ w.frozen? ⟨g, 0, none⟩ = false ∧ w.frozen? ⟨g, 1, none⟩ = false ∧ w.frozen? ⟨g, 2, none⟩ = false :=
  ⟨cell_of_row w g 0 _ _ _ h, cell_of_row w g 1 _ _ _ h, cell_of_row w g 2 _ _ _ h, frozen_of_row w g 0 _ _ h, frozen_of_row w g 1 _ _ h, frozen_of_row w g 2 _ _ h⟩
theorem Tri.set {w : World} {g : Nat} {a b c : Value} (h : Tri w g a b c) (x y z : Value) : Tri (((w.setCell ⟨g, 0, none⟩ x).setCell ⟨g, 1, none⟩ y).setCell ⟨g, 2, none⟩ z) g x y z :=
  heap_setCell_same _ g 2 _ _ z (heap_setCell_same _ g 1 _ _ y (heap_setCell_same w g 0 _ _ x h))
theorem Tri.lt {w : World} {g : Nat} {a b c : Value} (h : Tri w g a b c) : g < w.heap.size := (Array.getElem?_eq_some_iff.1 h).1
theorem Tri.later {w w' : World} {g : Nat} {a b c : Value} (h : Tri w g a b c) (hb : Below w.heap.size w w') : Tri w' g a b c := (hb.block _ h.lt).trans h
theorem Tri.fresh (w : World) (a b c : Value) : Tri (w.alloc (.cells #[a, b, c] 66)) w.heap.size a b c := heap_alloc_new w _
theorem Tri.below {B : Nat} {a w : World} (h : Below B a w) {g : Nat} (hg : B ≤ g) (x y z : Value) : Below B a (((w.setCell ⟨g, 0, none⟩ x).setCell ⟨g, 1, none⟩ y).setCell ⟨g, 2, none⟩ z) := ((h.setCell (p := ⟨g, 0, none⟩) hg x).setCell (p := ⟨g, 1, none⟩) hg y).setCell (p := ⟨g, 2, none⟩) hg z
theorem ret_tri {fn : Func} {P : Ending → World → Prop} (p : Tmp) (hr : fn.results = #[.cell p 66]) {tmps : Array Value} {w : World} (g : Nat) (a b c : Value)
    (hp : tmps.getD p undef = .pointer (some ⟨g, 0, none⟩)) (hg : Tri w g a b c) (h : P (.returned (.agg #[a, b, c])) w) : bodyPost Try.prog fn P .ret ⟨tmps, []⟩ w := by
  obtain ⟨r0, r1, r2, _, _⟩ := hg.facts
  refine bodyPost_ret (a := ⟨tmps, []⟩) (v := .agg #[a, b, c]) ?_ rfl h
  have hp' : tmps[p]?.getD undef = .pointer (some ⟨g, 0, none⟩) := by simpa using hp
  simp [results, hr, hp', go_sem, r0, r1, r2]
set_option maxRecDepth 100000 in
set_option maxHeartbeats 4000000 in
theorem placeof_any (kd cl : Int) (q p r : Option Addr) (an ac n c e : Nat) (A P Q : List Int) (w : World) (hA : Ints w q an ac A) (hP : Ints w p n c P) (hQ : Ints w r n e Q) (ho : ordP kd cl an n) :
    Calls Try.prog 41 #[.agg #[.int .u8 kd, .int .i64 cl, .slice q an ac], .slice p n c, .slice r n e] w fun e w' => e = .returned (plV (leastI kd cl A P Q an n) (P.getD 0 0)) ∧ Below w.heap.size w w' := by
  have hn1 : 1 ≤ n := by unfold ordP at ho; omega
  have hb : Below w.heap.size w (w.alloc (.cells #[.int .u8 kd, .int .i64 cl, .slice q an ac] 34)) := (Below.refl _ _).alloc (Nat.le_refl _) _
  have hs : (w.alloc (.cells #[.int .u8 kd, .int .i64 cl, .slice q an ac] 34)).heap.size = w.heap.size + 1 := by simp
  obtain ⟨e0, e1, e2⟩ := three_alloc w (.int .u8 kd) (.int .i64 cl) (.slice q an ac) 34
  have hA1 := hA.later hb
  have hP1 := hP.later hb
  have hQ1 := hQ.later hb
  clear hA hP hQ
  obtain ⟨hi, lo, hd⟩ := dV_two (leastI kd cl A P Q an n)
  rw [plV_parts _ hd]
  have HD := Lib.hid hd
  clear hd
  go_enter Try.func41, Try.ntmps41
  go_upto_region 1 with fail
  generalize w.alloc (.cells #[.int .u8 kd, .int .i64 cl, .slice q an ac] 34) = w1 at *
  have t2 := Tri.fresh w1 (.int .u64 0) (.int .u64 0) (.int .i64 0)
  have hb2 : Below w1.heap.size w1 (w1.alloc (.cells #[.int .u64 0, .int .u64 0, .int .i64 0] 66)) := (Below.refl _ _).alloc (Nat.le_refl _) _
  generalize w1.alloc (.cells #[.int .u64 0, .int .u64 0, .int .i64 0] 66) = w2 at *
  have hlt : ∀ k, (⟨w.heap.size, k, none⟩ : Addr).block < w1.heap.size := fun k => by show w.heap.size < _; omega
  have d0 := (hb2.cell (hlt 0)).trans e0
  have d1 := (hb2.cell (hlt 1)).trans e1
  have d2 := (hb2.cell (hlt 2)).trans e2
  have HA := Lib.hid (hA1.later hb2)
  have HP := Lib.hid (hP1.later hb2)
  have HQ := Lib.hid (hQ1.later hb2)
  have HB := Lib.hid (hb.trans (hb2.mono (by omega)))
  rw [hs] at t2
  have HT := Lib.hid t2
  clear hb hb2 hlt hA1 hP1 hQ1 hs e0 e1 e2 t2
  clear w1
  have hc := fun w' (hb : Below w2.heap.size w2 w') => leastkey_any kd cl q p r an ac n c e A P Q w' (HA.out.later hb) (HP.out.later hb) (HQ.out.later hb) ho
  rw [HD.out] at hc
  have HC := Lib.hid hc
  obtain ⟨g, o, rfl, hx⟩ := HP.out.cell 0 hn1
  rw [Nat.add_zero] at hx
  obtain ⟨x, hxx⟩ : ∃ x, x = P.getD 0 0 := ⟨_, rfl⟩
  rw [← hxx] at hx
  have HX := Lib.hid hxx
  clear hxx
  have i1 : 0 < n := by omega
  obtain ⟨y0, y1, y2, z0, z1, z2⟩ := HT.out.facts
  clear ho hc hn1
  go_region_law (go_simp; go_at_call 39; refine (HC.out _ (by first | exact Below.refl _ _ | exact (Below.refl _ _).drew)).mono ?_; rintro e w4 ⟨rfl, hb4⟩; have hb4 : Below w2.heap.size w2 w4 := (by first | exact hb4 | exact Below.trans (Below.drew (Below.refl _ _)) hb4); have hx4 := (hb4.cell (p := ⟨g, o, none⟩) (block_lt_of_cell hx)).trans hx; have T4 := Lib.hid (HT.out.later hb4); have B4 := Lib.hid (HB.out.trans (hb4.mono HB.out.size)); obtain ⟨u0, u1, u2, v0, v1, v2⟩ := T4.out.facts; clear hb4)
  all_goals
    go_wp2_with fail
    exact ret_tri 6 rfl (w.heap.size + 1) _ _ _ rfl (T4.out.set _ _ _) ⟨by rw [HX.out], Tri.below B4.out (by omega) _ _ _⟩
/-- Which of two places is ahead. -/
def pcmp (a b i c d j : Int) : Int := if dcmp a b c d = 0 then icmp i j else dcmp a b c d
set_option maxRecDepth 100000 in
set_option maxHeartbeats 1000000 in
theorem compare_any (a b i c d j : Int) (w : World) :
    Calls Try.prog 42 #[.agg #[.int .u64 a, .int .u64 b, .int .i64 i], .agg #[.int .u64 c, .int .u64 d, .int .i64 j]] w fun e w' => e = .returned (.int .i64 (pcmp a b i c d j)) ∧ Below w.heap.size w w' := by
  have t1 := Tri.fresh w (.int .u64 a) (.int .u64 b) (.int .i64 i)
  have hb1 : Below w.heap.size w (w.alloc (.cells #[.int .u64 a, .int .u64 b, .int .i64 i] 66)) := (Below.refl _ _).alloc (Nat.le_refl _) _
  have hs : (w.alloc (.cells #[.int .u64 a, .int .u64 b, .int .i64 i] 66)).heap.size = w.heap.size + 1 := by simp
  go_enter Try.func42, Try.ntmps42
  go_upto_region 1 with fail
  generalize w.alloc (.cells #[.int .u64 a, .int .u64 b, .int .i64 i] 66) = w1 at *
  have t2 := Tri.fresh w1 (.int .u64 c) (.int .u64 d) (.int .i64 j)
  have hb2 : Below w1.heap.size w1 (w1.alloc (.cells #[.int .u64 c, .int .u64 d, .int .i64 j] 66)) := (Below.refl _ _).alloc (Nat.le_refl _) _
  rw [hs] at t2
  generalize w1.alloc (.cells #[.int .u64 c, .int .u64 d, .int .i64 j] 66) = w2 at *
  have T1 := Lib.hid (t1.later hb2)
  have T2 := Lib.hid t2
  have HB := Lib.hid (hb1.trans (hb2.mono (by omega)))
  clear t1 hb1 hs t2 hb2
  clear w1
  obtain ⟨x0, x1, x2, _⟩ := T1.out.facts
  obtain ⟨y0, y1, y2, _⟩ := T2.out.facts
  obtain ⟨z, hz⟩ : ∃ z, z = dcmp a b c d := ⟨_, rfl⟩
  have hc := cmp_any a b c d w2
  have HP := Lib.hid (show pcmp a b i c d j = if z = 0 then icmp i j else z by rw [hz]; rfl)
  rw [← hz] at hc
  have HC := Lib.hid hc
  clear hc hz
  go_wp2_with fail
  refine HC.out.mono ?_
  rintro e w3 ⟨rfl, hb3⟩
  have U1 := Lib.hid (T1.out.later hb3)
  have U2 := Lib.hid (T2.out.later hb3)
  have B3 := Lib.hid (HB.out.trans (hb3.mono HB.out.size))
  clear x0 x1 x2 y0 y1 y2 hb3
  obtain ⟨x0, x1, x2, _⟩ := U1.out.facts
  obtain ⟨y0, y1, y2, _⟩ := U2.out.facts
  by_cases h0 : z = 0
  · have HR := Lib.hid (show pcmp a b i c d j = icmp i j by rw [HP.out, if_pos h0])
    subst h0
    have HK := Lib.hid (compare64_any i j)
    go_wp2_with ((go_at_call 57; refine (HK.out _).mono ?_; rintro _ w' ⟨rfl, rfl⟩))
    go_ret
    exact ⟨congrArg (fun b => Ending.returned (.int .i64 b)) HR.out.symm, B3.out⟩
  · have HR := Lib.hid (show pcmp a b i c d j = z by rw [HP.out, if_neg h0])
    have q : (z != 0) = true := by simpa using h0
    clear h0
    go_wp2_with fail
    go_ret
    exact ⟨congrArg (fun b => Ending.returned (.int .i64 b)) HR.out.symm, B3.out⟩
/-- The error that says whether something is. -/
def errOf (b : Bool) : Int := if b then 0 else 1
set_option maxRecDepth 100000 in
set_option maxHeartbeats 4000000 in
theorem key_any (kd cl : Int) (q p : Option Addr) (an ac n c : Nat) (A P : List Int) (w : World) (hA : Ints w q an ac A) (hP : Ints w p n c P) :
    Calls Try.prog 15 #[.agg #[.int .u8 kd, .int .i64 cl, .slice q an ac], .slice p n c] w fun e w' => e = .returned (.tuple #[dV (keyI kd cl A P an n), .int .i64 (errOf (decide (ordP kd cl an n)))]) ∧ Below w.heap.size w w' := by
  have hb : Below w.heap.size w (w.alloc (.cells #[.int .u8 kd, .int .i64 cl, .slice q an ac] 34)) := (Below.refl _ _).alloc (Nat.le_refl _) _
  have hs : (w.alloc (.cells #[.int .u8 kd, .int .i64 cl, .slice q an ac] 34)).heap.size = w.heap.size + 1 := by simp
  obtain ⟨e0, e1, e2⟩ := three_alloc w (.int .u8 kd) (.int .i64 cl) (.slice q an ac) 34
  have hA1 := hA.later hb
  have hP1 := hP.later hb
  clear hA hP
  obtain ⟨hi, lo, hd⟩ := dV_two (keyI kd cl A P an n)
  rw [hd]
  have HD := Lib.hid hd
  clear hd
  go_enter Try.func15, Try.ntmps15
  go_upto_region 1 with fail
  generalize w.alloc (.cells #[.int .u8 kd, .int .i64 cl, .slice q an ac] 34) = w1 at *
  have t2 := zero_two w1
  have hb2 : Below w1.heap.size w1 (w1.alloc (.cells #[.int .u64 0, .int .u64 0] 37)) := (Below.refl _ _).alloc (Nat.le_refl _) _
  generalize w1.alloc (.cells #[.int .u64 0, .int .u64 0] 37) = w2 at *
  have hlt : ∀ k, (⟨w.heap.size, k, none⟩ : Addr).block < w1.heap.size := fun k => by show w.heap.size < _; omega
  have d0 := (hb2.cell (hlt 0)).trans e0
  have d1 := (hb2.cell (hlt 1)).trans e1
  have d2 := (hb2.cell (hlt 2)).trans e2
  have HA := Lib.hid (hA1.later hb2)
  have HP := Lib.hid (hP1.later hb2)
  have HB := Lib.hid (hb.trans (hb2.mono (by omega)))
  have HS := Lib.hid (show w.heap.size + 1 < w2.heap.size from by have := t2.lt; omega)
  rw [hs] at t2
  have HT := Lib.hid t2
  clear hb hb2 hlt hA1 hP1 hs e0 e1 e2 t2
  clear w1
  go_wp2_with fail
  refine (ordright_any kd cl n q an ac w2).mono ?_
  rintro _ w3 ⟨rfl, hb3⟩
  have hlt : ∀ k, (⟨w.heap.size, k, none⟩ : Addr).block < w2.heap.size := fun k => by have := HS.out; show w.heap.size < _; omega
  have f0 := (hb3.cell (hlt 0)).trans d0
  have f1 := (hb3.cell (hlt 1)).trans d1
  have f2 := (hb3.cell (hlt 2)).trans d2
  have GA := Lib.hid (HA.out.later hb3)
  have GP := Lib.hid (HP.out.later hb3)
  have GT := Lib.hid (HT.out.later hb3 HT.out.lt)
  have GB := Lib.hid (HB.out.trans (hb3.mono HB.out.size))
  clear hlt hb3 d0 d1 d2 HA HP HB HT HS
  obtain ⟨y0, y1, z0, z1⟩ := GT.out.facts
  by_cases ho : ordP kd cl an n
  case neg =>
    have hk : keyI kd cl A P an n = 0 := by unfold keyI; rw [if_neg ho]
    rw [hk] at HD
    obtain ⟨rfl, rfl⟩ : (0 : Int) = hi ∧ (0 : Int) = lo := by have := HD.out; simpa [dV] using this
    have HO := Lib.hid (decide_eq_false ho)
    have HO2 := Lib.hid (show errOf (decide (ordP kd cl an n)) = 1 by rw [decide_eq_false ho]; rfl)
    rw [HO.out]
    clear ho hk
    go_wp2_with fail
    exact ret_two2 4 5 rfl (w.heap.size + 1) _ _ (.int .i64 1) rfl rfl (GT.out.set _ _) ⟨by rw [HO2.out], Two.below GB.out (by omega) _ _⟩
  case pos =>
    have HO := Lib.hid (decide_eq_true ho)
    have HO2 := Lib.hid (show errOf (decide (ordP kd cl an n)) = 0 by rw [decide_eq_true ho]; rfl)
    have hc := leastkey_any kd cl q p p an ac n c c A P P w3 GA.out GP.out GP.out ho
    rw [least_key ho, HD.out] at hc
    have HC := Lib.hid hc
    rw [HO.out]
    clear ho hc
    go_wp2_with fail
    refine HC.out.mono ?_
    rintro _ w4 ⟨rfl, hb4⟩
    have KT := Lib.hid (GT.out.later hb4 GT.out.lt)
    have KB := Lib.hid (GB.out.trans (hb4.mono GB.out.size))
    clear y0 y1 z0 z1 f0 f1 f2 hb4
    obtain ⟨y0, y1, z0, z1⟩ := KT.out.facts
    go_wp2_with fail
    exact ret_two2 4 5 rfl (w.heap.size + 1) _ _ (.int .i64 0) rfl rfl (KT.out.set _ _) ⟨by rw [HO2.out], Two.below KB.out (by omega) _ _⟩
end Go.Proofs.Ytddeomdmccnfbaa

/- Plain lists: Go's stable sort, as functions over an array and a 'less'. No program is named here. -/
namespace Go.Proofs.Ytddeomdmccnfbaa.St
open Go.Sort
variable {α : Type} [Inhabited α]

theorem geq (d : Array α) {x y : Nat} (h : x = y) : d[x]! = d[y]! := by rw [h]
/-- Two ranges exchanged, number by number. -/
def swpR (d : Array α) (p q : Nat) : Nat → Array α
  | 0 => d
  | n + 1 => swp (swpR d p q n) (p + n) (q + n)
theorem swpR_size (d : Array α) (p q : Nat) : ∀ n, (swpR d p q n).size = d.size
  | 0 => rfl
  | n + 1 => by rw [swpR, swp_size, swpR_size d p q n]
theorem swpR_get (d : Array α) (p q : Nat) : ∀ n, p + n ≤ q → q + n ≤ d.size → ∀ k, (swpR d p q n)[k]! = if p ≤ k ∧ k < p + n then d[q + (k - p)]! else if q ≤ k ∧ k < q + n then d[p + (k - q)]! else d[k]!
  | 0, _, _, k => by
    rw [swpR, if_neg (by omega), if_neg (by omega)]
  | n + 1, h1, h2, k => by
    have ih := swpR_get d p q n (by omega) (by omega)
    rw [swpR, swp_get _ (by rw [swpR_size]; omega) (by rw [swpR_size]; omega), ih, ih, ih]
    by_cases hq : k = q + n
    · rw [if_pos hq, if_neg (by omega), if_neg (by omega), if_neg (by omega), if_pos (by omega)]
      exact geq d (by omega)
    · rw [if_neg hq]
      by_cases hp : k = p + n
      · rw [if_pos hp, if_neg (by omega), if_neg (by omega), if_pos (by omega)]
        exact geq d (by omega)
      · rw [if_neg hp]
        by_cases c1 : p ≤ k ∧ k < p + n
        · rw [if_pos c1, if_pos (by omega)]
        · rw [if_neg c1, if_neg (show ¬ (p ≤ k ∧ k < p + (n + 1)) by omega)]
          by_cases c2 : q ≤ k ∧ k < q + n
          · rw [if_pos c2, if_pos (show q ≤ k ∧ k < q + (n + 1) by omega)]
          · rw [if_neg c2, if_neg (show ¬ (q ≤ k ∧ k < q + (n + 1)) by omega)]
/-- Two blocks side by side, i and j long, that meet at m, exchanged. -/
def rot (m : Nat) : Nat → Nat → Nat → Array α → Array α
  | 0, _, _, d => d
  | f + 1, i, j, d => if i = j then swpR d (m - i) m i else if j < i then rot m f (i - j) j (swpR d (m - i) m j) else rot m f i (j - i) (swpR d (m - i) (m + j - i) i)
theorem rot_size (m : Nat) : ∀ f i j (d : Array α), (rot m f i j d).size = d.size
  | 0, _, _, _ => rfl
  | f + 1, i, j, d => by
    rw [rot]
    split
    · exact swpR_size _ _ _ _
    · split
      · rw [rot_size m f, swpR_size]
      · rw [rot_size m f, swpR_size]
theorem rot_get (m : Nat) : ∀ f i j (d : Array α), 1 ≤ i → 1 ≤ j → i + j ≤ f → i ≤ m → m + j ≤ d.size → ∀ k, (rot m f i j d)[k]! = if k < m - i ∨ m + j ≤ k then d[k]! else if k < m - i + j then d[k + i]! else d[k - j]!
  | 0, i, j, d, h1, h2, h3, _, _, k => by omega
  | f + 1, i, j, d, h1, h2, h3, h4, h5, k => by
    rw [rot]
    by_cases he : i = j
    · rw [if_pos he, swpR_get _ _ _ _ (by omega) (by omega)]
      by_cases c : k < m - i ∨ m + j ≤ k
      · rw [if_pos c, if_neg (by omega), if_neg (by omega)]
      · rw [if_neg c]
        by_cases c2 : k < m - i + j
        · rw [if_pos c2, if_pos (by omega)]
          exact geq d (by omega)
        · rw [if_neg c2, if_neg (by omega), if_pos (by omega)]
          exact geq d (by omega)
    · rw [if_neg he]
      by_cases hj : j < i
      · rw [if_pos hj, rot_get m f (i - j) j _ (by omega) h2 (by omega) (by omega) (by rw [swpR_size]; exact h5)]
        have g := swpR_get d (m - i) m j (by omega) (by omega)
        by_cases c : k < m - (i - j) ∨ m + j ≤ k
        · rw [if_pos c, g]
          by_cases c2 : k < m - i ∨ m + j ≤ k
          · rw [if_pos c2, if_neg (by omega), if_neg (by omega)]
          · rw [if_neg c2, if_pos (by omega), if_pos (by omega)]
            exact geq d (by omega)
        · rw [if_neg c, if_neg (show ¬ (k < m - i ∨ m + j ≤ k) by omega), if_neg (show ¬ k < m - i + j by omega)]
          by_cases c2 : k < m - (i - j) + j
          · rw [if_pos c2, g]
            by_cases c3 : k + (i - j) < m
            · rw [if_neg (by omega), if_neg (by omega)]
              exact geq d (by omega)
            · rw [if_neg (by omega), if_pos (by omega)]
              exact geq d (by omega)
          · rw [if_neg c2, g, if_neg (by omega), if_neg (by omega)]
      · rw [if_neg hj, rot_get m f i (j - i) _ h1 (by omega) (by omega) h4 (by rw [swpR_size]; omega)]
        have g := swpR_get d (m - i) (m + j - i) i (by omega) (by omega)
        by_cases c : k < m - i ∨ m + (j - i) ≤ k
        · rw [if_pos c, g]
          by_cases c2 : k < m - i ∨ m + j ≤ k
          · rw [if_pos c2, if_neg (by omega), if_neg (by omega)]
          · rw [if_neg c2, if_neg (show ¬ k < m - i + j by omega), if_neg (by omega), if_pos (by omega)]
            exact geq d (by omega)
        · rw [if_neg c, if_neg (show ¬ (k < m - i ∨ m + j ≤ k) by omega)]
          by_cases c2 : k < m - i + (j - i)
          · rw [if_pos c2, g, if_pos (show k < m - i + j by omega), if_neg (by omega), if_neg (by omega)]
          · rw [if_neg c2, g, if_pos (show k < m - i + j by omega), if_pos (by omega)]
            exact geq d (by omega)
/-- The first place, from lo on, before which 'yes' was met, and at which 'no' was: by halving. -/
def bs (f : Nat → Bool) : Nat → Nat → Nat → Nat
  | 0, lo, _ => lo
  | n + 1, lo, hi => if lo < hi then (if f ((lo + hi) / 2) then bs f n ((lo + hi) / 2 + 1) hi else bs f n lo ((lo + hi) / 2)) else lo
theorem bs_spec (f : Nat → Bool) (L H : Nat) : ∀ n lo hi, hi - lo ≤ n → L ≤ lo → lo ≤ hi → hi ≤ H → (lo = L ∨ f (lo - 1) = true) → (hi = H ∨ f hi = false) →
    L ≤ bs f n lo hi ∧ bs f n lo hi ≤ H ∧ (bs f n lo hi = L ∨ f (bs f n lo hi - 1) = true) ∧ (bs f n lo hi = H ∨ f (bs f n lo hi) = false)
  | 0, lo, hi, h, h1, h2, h3, h4, h5 => by
    obtain rfl : lo = hi := by omega
    exact ⟨h1, h3, h4, h5⟩
  | n + 1, lo, hi, h, h1, h2, h3, h4, h5 => by
    rw [bs]
    by_cases hl : lo < hi
    · rw [if_pos hl]
      cases hf : f ((lo + hi) / 2) with
      | true =>
        rw [if_pos rfl]
        exact bs_spec f L H n _ _ (by omega) (by omega) (by omega) h3 (Or.inr (by rw [Nat.add_sub_cancel]; exact hf)) h5
      | false =>
        rw [if_neg (by simp)]
        exact bs_spec f L H n _ _ (by omega) h1 (by omega) (by omega) h4 (Or.inr hf)
    · rw [if_neg hl]
      obtain rfl : lo = hi := by omega
      exact ⟨h1, h3, h4, h5⟩
/-! ### Permutations of a part, places told -/
theorem rot_perm (m : Nat) : ∀ f i j (d : Array α) (a b : Nat), 1 ≤ i → 1 ≤ j → i + j ≤ f → i ≤ m → m + j ≤ b → a ≤ m - i → b ≤ d.size → PermIn a b d (rot m f i j d)
  | 0, i, j, d, a, b, h1, h2, h3, _, _, _, _ => by omega
  | f + 1, i, j, d, a, b, h1, h2, h3, h4, h5, h6, h7 => by
    have hsw : ∀ (p q n : Nat) (d : Array α), a ≤ p → p + n ≤ q → q + n ≤ b → b ≤ d.size → PermIn a b d (swpR d p q n) := by
      intro p q n
      induction n with
      | zero => intro d _ _ _ _; exact permIn_refl d a b
      | succ n ih =>
        intro d h1 h2 h3 h4
        exact permIn_trans _ _ _ a b (ih d h1 (by omega) (by omega) h4) (swp_permIn _ a b _ _ (by omega) (by omega) (by omega) (by omega) (by rw [swpR_size]; exact h4))
    rw [rot]
    split
    · exact hsw _ _ _ _ (by omega) (by omega) (by omega) h7
    · split
      · exact permIn_trans _ _ _ a b (hsw _ _ _ _ (by omega) (by omega) (by omega) h7) (rot_perm m f (i - j) j _ a b (by omega) h2 (by omega) (by omega) h5 (by omega) (by rw [swpR_size]; exact h7))
      · exact permIn_trans _ _ _ a b (hsw _ _ _ _ (by omega) (by omega) (by omega) h7) (rot_perm m f i (j - i) _ a b h1 (by omega) (by omega) h4 (by omega) h6 (by rw [swpR_size]; exact h7))
section
variable (lt : α → α → Bool)
/-- What lies at a goes up to ahead of i. -/
def up (a : Nat) : Nat → Array α → Array α
  | 0, d => d
  | n + 1, d => swp (up a n d) (a + n) (a + n + 1)
/-- What lies at m goes down to i: n steps. -/
def down (m : Nat) : Nat → Array α → Array α
  | 0, d => d
  | n + 1, d => swp (down m n d) (m - n) (m - n - 1)
theorem up_size (a : Nat) : ∀ n (d : Array α), (up a n d).size = d.size
  | 0, _ => rfl
  | n + 1, d => by rw [up, swp_size, up_size a n d]
theorem down_size (m : Nat) : ∀ n (d : Array α), (down m n d).size = d.size
  | 0, _ => rfl
  | n + 1, d => by rw [down, swp_size, down_size m n d]
theorem up_get (a : Nat) : ∀ n (d : Array α), a + n < d.size → ∀ k, (up a n d)[k]! = if k < a ∨ a + n < k then d[k]! else if k < a + n then d[k + 1]! else d[a]!
  | 0, d, h, k => by
    rw [up]
    by_cases c : k < a ∨ a + 0 < k
    · rw [if_pos c]
    · rw [if_neg c, if_neg (by omega)]
      exact geq d (by omega)
  | n + 1, d, h, k => by
    have ih := up_get a n d (by omega)
    rw [up, swp_get _ (by rw [up_size]; omega) (by rw [up_size]; omega), ih, ih, ih]
    by_cases c1 : k = a + n + 1
    · rw [if_pos c1, if_neg (show ¬ (a + n < a ∨ a + n < a + n) by omega), if_neg (show ¬ a + n < a + n by omega), if_neg (show ¬ (k < a ∨ a + (n + 1) < k) by omega), if_neg (show ¬ k < a + (n + 1) by omega)]
    · rw [if_neg c1]
      by_cases c2 : k = a + n
      · rw [if_pos c2, if_pos (show a + n + 1 < a ∨ a + n < a + n + 1 by omega), if_neg (show ¬ (k < a ∨ a + (n + 1) < k) by omega), if_pos (show k < a + (n + 1) by omega)]
        exact geq d (by omega)
      · rw [if_neg c2]
        by_cases c3 : k < a ∨ a + n < k
        · rw [if_pos c3, if_pos (show k < a ∨ a + (n + 1) < k by omega)]
        · rw [if_neg c3, if_neg (show ¬ (k < a ∨ a + (n + 1) < k) by omega), if_pos (show k < a + n by omega), if_pos (show k < a + (n + 1) by omega)]
theorem down_get (m : Nat) : ∀ n (d : Array α), n ≤ m → m < d.size → ∀ k, (down m n d)[k]! = if k < m - n ∨ m < k then d[k]! else if m - n < k then d[k - 1]! else d[m]!
  | 0, d, h, _, k => by
    rw [down]
    by_cases c : k < m - 0 ∨ m < k
    · rw [if_pos c]
    · rw [if_neg c, if_neg (by omega)]
      exact geq d (by omega)
  | n + 1, d, h, h2, k => by
    have ih := down_get m n d (by omega) h2
    rw [down, swp_get _ (by rw [down_size]; omega) (by rw [down_size]; omega), ih, ih, ih]
    by_cases c1 : k = m - n - 1
    · rw [if_pos c1, if_neg (show ¬ (m - n < m - n ∨ m < m - n) by omega), if_neg (show ¬ m - n < m - n by omega), if_neg (show ¬ (k < m - (n + 1) ∨ m < k) by omega), if_neg (show ¬ m - (n + 1) < k by omega)]
    · rw [if_neg c1]
      by_cases c2 : k = m - n
      · rw [if_pos c2, if_pos (show m - n - 1 < m - n ∨ m < m - n - 1 by omega), if_neg (show ¬ (k < m - (n + 1) ∨ m < k) by omega), if_pos (show m - (n + 1) < k by omega)]
        exact geq d (by omega)
      · rw [if_neg c2]
        by_cases c3 : k < m - n ∨ m < k
        · rw [if_pos c3, if_pos (show k < m - (n + 1) ∨ m < k by omega)]
        · rw [if_neg c3, if_neg (show ¬ (k < m - (n + 1) ∨ m < k) by omega), if_pos (show m - n < k by omega), if_pos (show m - (n + 1) < k by omega)]
theorem up_perm (a0 b0 a : Nat) (ha : a0 ≤ a) : ∀ n (d : Array α), a + n < b0 → b0 ≤ d.size → PermIn a0 b0 d (up a n d)
  | 0, d, _, _ => permIn_refl d a0 b0
  | n + 1, d, h, hb => permIn_trans _ _ _ a0 b0 (up_perm a0 b0 a ha n d (by omega) hb) (swp_permIn _ a0 b0 _ _ (by omega) (by omega) (by omega) (by omega) (by rw [up_size]; exact hb))
theorem down_perm (a0 b0 m : Nat) (hm : m < b0) : ∀ n (d : Array α), a0 + n ≤ m → b0 ≤ d.size → PermIn a0 b0 d (down m n d)
  | 0, d, _, _ => permIn_refl d a0 b0
  | n + 1, d, h, hb => permIn_trans _ _ _ a0 b0 (down_perm a0 b0 m hm n d (by omega) hb) (swp_permIn _ a0 b0 _ _ (by omega) (by omega) (by omega) (by omega) (by rw [down_size]; exact hb))
end
end Go.Proofs.Ytddeomdmccnfbaa.St
