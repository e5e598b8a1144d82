/- The walk of CodecOrder. -/
import Derived.Test.YtbjidmocibjbnaaCodCmp
namespace Go.Proofs.Ytbjidmocibjbnaa
open Go.RowKit

theorem less_cmp : ∀ (A B : List Nat), Sm.allB A → Sm.allB B → Op.bytesLess (A.map UInt8.ofNat) (B.map UInt8.ofNat) = decide (Cm.cmpL A B < 0)
  | [], [], _, _ => by simp [Op.bytesLess, Cm.cmpL]
  | [], _ :: _, _, _ => by simp [Op.bytesLess, Cm.cmpL]
  | _ :: _, [], _, _ => by simp [Op.bytesLess, Cm.cmpL]
  | x :: A, y :: B, hA, hB => by
    have hx := hA x (by simp)
    have hy := hB y (by simp)
    have ih := less_cmp A B (fun z hz => hA z (by simp [hz])) (fun z hz => hB z (by simp [hz]))
    rw [List.map_cons, List.map_cons, Op.bytesLess, ih, Cm.cmpL_cons]
    have e1 : (decide (UInt8.ofNat x < UInt8.ofNat y)) = decide (x < y) := by
      rw [decide_eq_decide, UInt8.lt_iff_toNat_lt, UInt8.toNat_ofNat', UInt8.toNat_ofNat', Nat.mod_eq_of_lt (by omega), Nat.mod_eq_of_lt (by omega)]
    have e2 : (UInt8.ofNat x == UInt8.ofNat y) = decide (x = y) := by
      rw [Bool.eq_iff_iff, beq_iff_eq, decide_eq_true_iff]
      constructor
      · intro h
        have := congrArg UInt8.toNat h
        rw [UInt8.toNat_ofNat', UInt8.toNat_ofNat', Nat.mod_eq_of_lt (by omega), Nat.mod_eq_of_lt (by omega)] at this
        exact this
      · rintro rfl; rfl
    rw [e1, e2]
    by_cases h1 : x < y
    · rw [if_pos h1]; simp [h1]
    · by_cases h2 : y < x
      · rw [if_neg h1, if_pos h2]
        have h3 : ¬ x = y := by omega
        simp [h1, h3]
      · rw [if_neg h1, if_neg h2]
        have h3 : x = y := by omega
        simp [h3]
theorem strOf_list {A : List Nat} : (strOf A).toList = A.map UInt8.ofNat := by
  rw [ByteArray.toList_eq]
  simp [strOf, strOfNums, Function.comp_def]
theorem str_less {A B : List Nat} (hA : Sm.allB A) (hB : Sm.allB B) : Op.bytesLess (strOf A).toList (strOf B).toList = decide (Cm.cmpL A B < 0) := by
  rw [strOf_list, strOf_list, less_cmp A B hA hB]
theorem sgn_cases {A B : List Nat} : (Cm.cmpL A B < 0 ∧ Cm.cmpL A B = -1) ∨ (Cm.cmpL A B = 0 ∧ A = B) ∨ (0 < Cm.cmpL A B ∧ Cm.cmpL A B = 1) := by
  rcases Cm.cmpL_range A B with h | h | h
  · exact Or.inl ⟨by omega, h⟩
  · exact Or.inr (Or.inl ⟨h, (Cm.cmpL_zero A B).1 h⟩)
  · exact Or.inr (Or.inr ⟨by omega, h⟩)
theorem way_cases {n m : Int} (h1 : -9223372036854775808 ≤ n) (h2 : n ≤ 9223372036854775807) (k1 : -9223372036854775808 ≤ m) (k2 : m ≤ 9223372036854775807) :
    (Cm.cmpL (Cm.num n) (Cm.num m) = -1 ∧ decide (n < m) = true ∧ decide (m < n) = false) ∨ (Cm.cmpL (Cm.num n) (Cm.num m) = 0 ∧ decide (n < m) = false ∧ decide (m < n) = false) ∨ (Cm.cmpL (Cm.num n) (Cm.num m) = 1 ∧ decide (n < m) = false ∧ decide (m < n) = true) := by
  have a := Cm.num_order h1 h2 k1 k2
  have b := Cm.num_order k1 k2 h1 h2
  rw [Cm.cmpL_neg] at b
  rcases Cm.cmpL_range (Cm.num n) (Cm.num m) with h | h | h
  · have c1 := a.1 (by omega)
    exact Or.inl ⟨h, decide_eq_true c1, decide_eq_false (by omega)⟩
  · exact Or.inr (Or.inl ⟨h, decide_eq_false (fun hh => by have := a.2 hh; omega), decide_eq_false (fun hh => by have := b.2 hh; omega)⟩)
  · have c1 := b.1 (by omega)
    exact Or.inr (Or.inr ⟨h, decide_eq_false (by omega), decide_eq_true c1⟩)
theorem WS.other {w w' : World} {base g1 g2 : Nat} {v1 v1' v2 : Value} {s2 : St} (h2 : WS w base g2 v2 s2) (hs : WStep w w' g1 v1 v1') (hg : g2 ≠ g1) (hv : v1.ownBlock ≠ some g2) (ho : v2.ownBlock ≠ some g1) (hvv : ∀ k, v2.ownBlock = some k → v1.ownBlock ≠ some k) : WS w' base g2 v2 s2 := by
  refine ⟨(hs.block g2 h2.lt hg hv).trans h2.row, ?_, h2.ok, h2.nil⟩
  obtain ⟨o1, o2⟩ := h2.own
  refine ⟨o1, o2.imp id ?_⟩
  rintro ⟨g, cap, cur, rfl, hg', hh, r⟩
  refine ⟨g, cap, cur, rfl, hg', ?_, r⟩
  rw [hs.block g (Array.getElem?_eq_some_iff.1 hh).1 (fun e => ho (by rw [e]; rfl)) (hvv g rfl)]
  exact hh
set_option maxRecDepth 100000 in
set_option maxHeartbeats 2000000 in
theorem order_any (A B : List Nat) (p q : Option Addr) (n1 c1 n2 c2 : Nat) (n m : Int) (w : World) (hA : Tx w p n1 c1 A) (hB : Tx w q n2 c2 B)
    (x1 : -9223372036854775808 ≤ n) (x2 : n ≤ 9223372036854775807) (y1 : -9223372036854775808 ≤ m) (y2 : m ≤ 9223372036854775807) (hl1 : n1 ≤ 9223372036854775807) (hl2 : n2 ≤ 9223372036854775807) :
    Calls Try.prog 5 #[.slice p n1 c1, .slice q n2 c2, .int .i64 n, .int .i64 m] w fun e w' => e = .returned (.bool true) ∧ Below w.heap.size w w' := by
  have HA := Lib.hid hA
  have HB := Lib.hid hB
  have N1 := Lib.hid hA.size
  have N2 := Lib.hid hB.size
  have OA := Lib.hid hA.ok
  have OB := Lib.hid hB.ok
  clear hA hB
  go_enter Try.func5, Try.ntmps5
  go_wp2_with fail
  refine (alive_any w).mono ?_
  rintro _ w1 ⟨rfl, hb1⟩
  have B1 := Lib.hid hb1
  clear hb1
  by_cases h1 : 300 < n1
  · have b1 : (300 : Int) < n1 := by omega
    go_wp2_with fail
    go_ret
    exact ⟨rfl, B1.out⟩
  by_cases h2 : 300 < n2
  · have b1 : ¬ (300 : Int) < n1 := by omega
    have b2 : (300 : Int) < n2 := by omega
    go_wp2_with fail
    go_ret
    exact ⟨rfl, B1.out⟩
  have b1 : ¬ (300 : Int) < n1 := by omega
  have b2 : ¬ (300 : Int) < n2 := by omega
  have HA1 := Lib.hid (HA.out.later B1.out)
  have HB1 := Lib.hid (HB.out.later B1.out)
  have hcv1 := convert_tx HA1.out
  have hcv2 := convert_tx HB1.out
  have hls := str_less OA.out OB.out
  have heq := str_eq OA.out OB.out
  obtain ⟨r, hr⟩ : ∃ r, r = Cm.cmpL A B := ⟨_, rfl⟩
  have hr2 : Cm.cmpL B A = -r := by rw [hr, Cm.cmpL_neg]
  have hz : (A = B) ↔ r = 0 := by rw [hr]; exact (Cm.cmpL_zero A B).symm
  have hrr : r = -1 ∨ r = 0 ∨ r = 1 := by rw [hr]; exact Cm.cmpL_range A B
  rw [← hr] at hls
  have hdz : decide (A = B) = decide (r = 0) := decide_eq_decide.2 hz
  rw [hdz] at heq
  have HR := Lib.hid hr
  have HR2 := Lib.hid hr2
  clear hr hr2 hz hdz
  generalize strOf A = sa at *
  generalize strOf B = sb at *
  have hh : (r = -1 ∧ Op.bytesLess sa.toList sb.toList = true ∧ (sa.toList == sb.toList) = false) ∨ (r = 0 ∧ Op.bytesLess sa.toList sb.toList = false ∧ (sa.toList == sb.toList) = true) ∨ (r = 1 ∧ Op.bytesLess sa.toList sb.toList = false ∧ (sa.toList == sb.toList) = false) := by
    rcases hrr with rfl | rfl | rfl
    · exact Or.inl ⟨rfl, hls.trans rfl, heq.trans rfl⟩
    · exact Or.inr (Or.inl ⟨rfl, hls.trans rfl, heq.trans rfl⟩)
    · exact Or.inr (Or.inr ⟨rfl, hls.trans rfl, heq.trans rfl⟩)
  clear hls heq hrr
  rcases hh with ⟨hr0, l1, l2⟩ | ⟨hr0, l1, l2⟩ | ⟨hr0, l1, l2⟩
  all_goals
    subst hr0
    go_wp2_with (refine wpList_build (by rfl) 28 _ (by rfl) (by as_aux_lemma => kernel_rfl) ?_)
    rw [w_built, Option.getD_some]
    have hsz1 := B1.out.size
    have s1 : WS ((w1.alloc (.cells #[.slice none 0 0, .int .i64 0] 28)).alloc (.cells #[.slice none 0 0, .int .i64 0] 28)) w.heap.size w1.heap.size (.slice none 0 0) ⟨[], 0⟩ := (ws_new w1 w.heap.size).later ((Below.refl _ _).alloc (Nat.le_refl _) _)
    have s2 : WS ((w1.alloc (.cells #[.slice none 0 0, .int .i64 0] 28)).alloc (.cells #[.slice none 0 0, .int .i64 0] 28)) w.heap.size (w1.heap.size + 1) (.slice none 0 0) ⟨[], 0⟩ := by
      have := ws_new (w1.alloc (.cells #[.slice none 0 0, .int .i64 0] 28)) w.heap.size
      rw [show (w1.alloc (.cells #[.slice none 0 0, .int .i64 0] 28)).heap.size = w1.heap.size + 1 from by simp] at this
      exact this
    have b2 : Below w1.heap.size w1 ((w1.alloc (.cells #[.slice none 0 0, .int .i64 0] 28)).alloc (.cells #[.slice none 0 0, .int .i64 0] 28)) := ((Below.refl _ _).alloc (Nat.le_refl _) _).alloc (by simp) _
    have z2 : ((w1.alloc (.cells #[.slice none 0 0, .int .i64 0] 28)).alloc (.cells #[.slice none 0 0, .int .i64 0] 28)).heap.size = w1.heap.size + 2 := by simp
    generalize (w1.alloc (.cells #[.slice none 0 0, .int .i64 0] 28)).alloc (.cells #[.slice none 0 0, .int .i64 0] 28) = w2 at *
    obtain ⟨ga, hga⟩ : ∃ ga, ga = w1.heap.size := ⟨_, rfl⟩
    have S2 := Lib.hid s2
    have BB2 := Lib.hid b2
    have Z2 := Lib.hid z2
    have HSZ := Lib.hid hsz1
    refine (num_any ⟨[], 0⟩ n x1 x2 w.heap.size w1.heap.size _ _ s1 (by simp) (by omega)).mono ?_
    rintro e w3 hp
    obtain ⟨rfl, v3, h3, k3⟩ := hp
    have S1b := Lib.hid h3
    have S2b := Lib.hid (S2.out.other k3 (by omega) (by simp [Value.ownBlock]) (by simp [Value.ownBlock]) (by simp [Value.ownBlock]))
    have V3 := Lib.hid (show ∀ k, v3.ownBlock = some k → w1.heap.size + 2 ≤ k from fun k hk => by
      rcases k3.own k hk with h | h
      · simp [Value.ownBlock] at h
      · rw [Z2.out] at h; exact h)
    have BB3 := Lib.hid (BB2.out.trans (k3.below (Nat.le_refl _) (fun k hk => by simp [Value.ownBlock] at hk) (by rw [Z2.out]; omega)))
    clear h3 k3 s1 s2 b2 z2 hsz1 hga
    go_wp2_with fail
    refine (num_any ⟨[], 0⟩ m y1 y2 w.heap.size (w1.heap.size + 1) _ _ S2b.out (by simp) (Nat.le_trans HSZ.out BB3.out.size)).mono ?_
    rintro e w4 hp
    obtain ⟨rfl, v4, h4, k4⟩ := hp
    have S2c := Lib.hid h4
    have S1c := Lib.hid (S1b.out.other k4 (by omega) (by simp [Value.ownBlock]) (fun e => by have := V3.out _ e; omega) (by simp [Value.ownBlock]))
    have BB4 := Lib.hid (BB3.out.trans (k4.below (by omega) (fun k hk => by simp [Value.ownBlock] at hk) BB3.out.size))
    clear h4 k4
    go_wp2_with fail
    refine (wbytes_any _ w.heap.size w1.heap.size v3 _ S1c.out (by rw [show (St.mk [] 0).put (Cm.num n) = ⟨Cm.num n, 0⟩ from rfl, Cm.num_length]; omega)).mono ?_
    rintro e w5 hp
    obtain ⟨q5, c5, rfl, ho5, hb5⟩ := hp
    have T5 := Lib.hid (tx_of_owns ho5 S1c.out.ok)
    have S2d := Lib.hid (S2c.out.later hb5)
    have BB5 := Lib.hid (BB4.out.trans (hb5.mono BB4.out.size))
    clear ho5 hb5
    go_wp2_with fail
    refine (wbytes_any _ w.heap.size (w1.heap.size + 1) v4 _ S2d.out (by rw [show (St.mk [] 0).put (Cm.num m) = ⟨Cm.num m, 0⟩ from rfl, Cm.num_length]; omega)).mono ?_
    rintro e w6 hp
    obtain ⟨q6, c6, rfl, ho6, hb6⟩ := hp
    have T6 := Lib.hid (tx_of_owns ho6 S2d.out.ok)
    have T5b := Lib.hid (T5.out.later hb6)
    have BB6 := Lib.hid (BB5.out.trans (hb6.mono BB5.out.size))
    clear ho6 hb6
    go_wp2_with fail
    refine (cmp_any (Cm.num n) (Cm.num m) q5 q6 _ c5 _ c6 _ T5b.out T6.out (by rw [show (St.mk [] 0).put (Cm.num n) = ⟨Cm.num n, 0⟩ from rfl, Cm.num_length]; omega) (by rw [show (St.mk [] 0).put (Cm.num m) = ⟨Cm.num m, 0⟩ from rfl, Cm.num_length]; omega)).mono ?_
    rintro e w7 ⟨rfl, hb7⟩
    have BB7 := Lib.hid (BB6.out.trans (hb7.mono BB6.out.size))
    clear hb7
    have hway := way_cases x1 x2 y1 y2
    generalize Cm.cmpL (Cm.num n) (Cm.num m) = way at *
    rcases hway with ⟨hwy, hd1, hd2⟩ | ⟨hwy, hd1, hd2⟩ | ⟨hwy, hd1, hd2⟩
    all_goals
      subst hwy
      go_wp2_with fail
      refine (cmp_any A B p q _ c1 _ c2 _ (HA1.out.later BB7.out) (HB1.out.later BB7.out) (by omega) (by omega)).mono ?_
      rintro e w8 ⟨rfl, hb8⟩
      rw [← HR.out]
      have BB8 := Lib.hid (BB7.out.trans (hb8.mono BB7.out.size))
      clear hb8
      go_wp2_with fail
      refine (cmp_any B A q p _ c2 _ c1 _ (HB1.out.later BB8.out) (HA1.out.later BB8.out) (by omega) (by omega)).mono ?_
      rintro e w9 ⟨rfl, hb9⟩
      rw [HR2.out]
      have BB9 := Lib.hid (BB8.out.trans (hb9.mono BB8.out.size))
      clear hb9
      go_wp2_with fail
      go_ret
      exact ⟨rfl, B1.out.trans (BB9.out.mono B1.out.size)⟩
end Go.Proofs.Ytbjidmocibjbnaa
