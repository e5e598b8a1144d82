/- Proved: whatever box and two rows it is handed, the Go function indenturelaw06.ZrangeSplits returns true (a box's parts are the document's: each of its points is in just one, and those of the lower one stand ahead; whether it is a block is the document's, too), and each argument reads afterwards as it read before. Conditions: none beyond the given row's own. -/
import Derived.Test.YtbhpmigblkaihaaM7
/- The law ZrangeSplits. gen_lsplits.py writes it. -/
namespace Go.Proofs.Ytbhpmigblkaihaa.Zr
open Go.RowKit Go.Proofs.Ytbhpmigblkaihaa.Mo Zm Mm

/-- What is told of a box's parts. -/
def SPp (w0 : World) (ok : Bool) (A B C D : List Int) (e : Ending) (w' : World) : Prop := ∃ (p1 : Option Addr) (c1 : Nat) (p2 : Option Addr) (c2 : Nat) (p3 : Option Addr) (c3 : Nat) (p4 : Option Addr) (c4 : Nat),
  e = .returned (.tuple #[.agg #[.slice p1 A.length c1, .slice p2 B.length c2], .agg #[.slice p3 C.length c3, .slice p4 D.length c4], .bool ok]) ∧ Ints w' p1 A.length c1 A ∧ Ints w' p2 B.length c2 B ∧ Ints w' p3 C.length c3 C ∧ Ints w' p4 D.length c4 D ∧ Below w0.heap.size w0 w'
theorem no_ints (w : World) : Ints w none 0 0 [] := ⟨rfl, Nat.le_refl _, fun x hx => by simp at hx, Or.inl rfl⟩
theorem spp_bad {w w' : World} {e : Ending} (h : e = .returned (.tuple #[.agg #[.slice none 0 0, .slice none 0 0], .agg #[.slice none 0 0, .slice none 0 0], .bool false]) ∧ Below w.heap.size w w') : SPp w false [] [] [] [] e w' :=
  ⟨none, 0, none, 0, none, 0, none, 0, h.1, no_ints _, no_ints _, no_ints _, no_ints _, h.2⟩
theorem split_told {L H : List Int} (_hL : inI L) (_hH : inI H) (_hl : H.length = L.length) : ∃ ok A B C D, (ok = true → ∃ n, n < 64 * L.length ∧ (∀ i, i < n → cbit L i = cbit H i) ∧ cbit L n ≠ cbit H n ∧ A = pLo L L n ∧ B = pHi L H L n ∧ C = pLo L H n ∧ D = pHi L H H n) ∧ (ok = false → A = [] ∧ B = [] ∧ C = [] ∧ D = []) ∧
    ∀ w e w', SplitPost w L H e w' → SPp w ok A B C D e w' := by
  rcases first_unlike (cbit L) (cbit H) (64 * L.length) with h | ⟨k, hk, hs, hne⟩
  · refine ⟨false, [], [], [], [], (fun h => by cases h), fun _ => ⟨rfl, rfl, rfl, rfl⟩, ?_⟩
    rintro w e w' ⟨ok, p1, p2, p3, p4, n1, c1, n2, c2, n3, c3, n4, c4, rfl, hb, hno, hok⟩
    cases ok with
    | true =>
      obtain ⟨n, hn, ha, hne, -⟩ := hok rfl
      exact (hne (h n hn)).elim
    | false =>
      obtain ⟨-, ⟨rfl, rfl, rfl⟩, ⟨rfl, rfl, rfl⟩, ⟨rfl, rfl, rfl⟩, rfl, rfl, rfl⟩ := hno rfl
      exact spp_bad ⟨rfl, hb⟩
  · refine ⟨true, _, _, _, _, fun _ => ⟨k, hk, hs, hne, rfl, rfl, rfl, rfl⟩, (fun h => by cases h), ?_⟩
    rintro w e w' ⟨ok, p1, p2, p3, p4, n1, c1, n2, c2, n3, c3, n4, c4, rfl, hb, hno, hok⟩
    cases ok with
    | false => exact (hne ((hno rfl).1 k hk)).elim
    | true =>
      obtain ⟨n, hn, ha, hne2, i1, i2, i3, i4, -⟩ := hok rfl
      obtain rfl := unique_first hs hne ha hne2
      obtain rfl := i1.size
      obtain rfl := i2.size
      obtain rfl := i3.size
      obtain rfl := i4.size
      exact ⟨p1, c1, p2, c2, p3, c3, p4, c4, rfl, i1, i2, i3, i4, hb⟩
/-- Which of a box's parts has a point. -/
theorem halves_has {L H A B C D P : List Int} {k d l : Nat} (h : Halves L H A B C D k) (b : BX L H) (lL : L.length = d) (hP : inI P) (lP : l = P.length) :
    hasB L H P d d l = (hasB A B P d d l || hasB C D P d d l) ∧ (hasB A B P d d l && hasB C D P d d l) = false := by
  by_cases e : l = d
  · subst e
    have rL : rightB L H l l l = true := by have := b.right; rw [lL] at this; exact this
    have rA : rightB A B l l l = true := by have := h.b1.right; rw [h.l1, lL] at this; exact this
    have rC : rightB C D l l l = true := by have := h.b2.right; rw [h.l2, lL] at this; exact this
    have i0 := hasB_in (Q := P) lL lP.symm rL
    have i1 := hasB_in (Q := P) (h.l1.trans lL) lP.symm rA
    have i2 := hasB_in (Q := P) (h.l2.trans lL) lP.symm rC
    have j1 := h.in1 P hP (by omega)
    have j2 := h.in2 P hP (by omega)
    have hc := cbit_lt P k
    constructor
    · rw [Bool.eq_iff_iff, Bool.or_eq_true, i0, i1, i2, j1, j2]
      constructor
      · intro hb
        by_cases c : cbit P k = 0
        · exact Or.inl ⟨hb, c⟩
        · exact Or.inr ⟨hb, by omega⟩
      · rintro (h | h) <;> exact h.1
    · cases e1 : hasB A B P l l l with
      | false => rfl
      | true =>
        cases e2 : hasB C D P l l l with
        | false => rfl
        | true =>
          have a := (j1.1 (i1.1 e1)).2
          have b := (j2.1 (i2.1 e2)).2
          omega
  · have key : ∀ {X Y : List Int}, hasB X Y P d d l = false := fun {X Y} => by
      unfold hasB
      rw [rightB_not (fun h => e (by omega)), Bool.false_and]
    rw [key, key, key]
    exact ⟨rfl, rfl⟩
theorem has_dims {X Y P : List Int} {n m l : Nat} (h : hasB X Y P n m l = true) : 1 ≤ l ∧ l ≤ 8 ∧ n = l ∧ m = l := by
  unfold hasB at h
  rw [Bool.and_eq_true] at h
  have := rightB_dims h.1
  omega
theorem lsplit {w2 : World} {g : Nat} {p q : Option Addr} {n c m e : Nat} {R S : List Int} (HI : BI w2 g p q n c m e R S) : ∃ ok A B C D, (ok = true → ∃ k, BX R S ∧ m = n ∧ Halves R S A B C D k ∧ (A.length = n ∧ B.length = n ∧ C.length = n ∧ D.length = n)) ∧ (A.length ≤ 8 ∧ B.length ≤ 8 ∧ C.length ≤ 8 ∧ D.length ≤ 8) ∧
    (∀ w', Below w2.heap.size w2 w' → Calls Try.prog 17 #[.agg #[.slice p n c, .slice q m e]] w' (SPp w' ok A B C D)) ∧ (∀ w', Below w2.heap.size w2 w' → Calls Try.prog 18 #[.agg #[.slice p n c, .slice q m e]] w' (SPp w' ok A B C D)) := by
  cases hr : rightB R S n m n with
  | false =>
    exact ⟨false, [], [], [], [], (fun h => by cases h), by simp, fun w' hb => (zsplit_bad R S p q n c m e w' (HI.later hb).i1 (HI.later hb).i2 hr).mono fun _ _ h => spp_bad h,
      fun w' hb => (rsplit_bad R S p q n c m e w' (HI.later hb).i1 (HI.later hb).i2 hr).mono fun _ _ h => spp_bad h⟩
  | true =>
    obtain ⟨d1, d8, -, d4⟩ := rightB_dims hr
    obtain rfl : m = n := by omega
    have bx : BX R S := ⟨HI.i1.ok, HI.i2.ok, by rw [← HI.i1.size, ← HI.i2.size], by rw [← HI.i1.size]; exact hr⟩
    obtain ⟨ok, A, B, C, D, h1, h2, h3⟩ := split_told HI.i1.ok HI.i2.ok bx.len
    have hlen : ok = true → A.length = m ∧ B.length = m ∧ C.length = m ∧ D.length = m := fun h => by
      obtain ⟨k, -, -, -, rfl, rfl, rfl, rfl⟩ := h1 h
      simp only [pLo_length, pHi_length, ← HI.i1.size, and_self]
    refine ⟨ok, A, B, C, D, fun h => ?_, ?_, fun w' hb => (zsplit_any R S p q m c e w' (HI.later hb).i1 (HI.later hb).i2 hr).mono fun _ _ h => h3 _ _ _ h, fun w' hb => (rsplit_any R S p q m c e w' (HI.later hb).i1 (HI.later hb).i2 hr).mono fun _ _ h => h3 _ _ _ h⟩
    · have hl := hlen h
      obtain ⟨k, hk, ha, hne, rfl, rfl, rfl, rfl⟩ := h1 h
      exact ⟨k, bx, rfl, halves_of bx hk ha hne, hl⟩
    · cases ok with
      | false =>
        obtain ⟨rfl, rfl, rfl, rfl⟩ := h2 rfl
        simp
      | true =>
        have := hlen rfl
        omega
theorem two_boxes {w : World} {p1 p2 p3 p4 : Option Addr} {n1 c1 n2 c2 n3 c3 n4 c4 : Nat} {A B C D : List Int} (i1 : Ints w p1 n1 c1 A) (i2 : Ints w p2 n2 c2 B) (i3 : Ints w p3 n3 c3 C) (i4 : Ints w p4 n4 c4 D) :
    ∀ w', w' = (w.alloc (.cells #[.slice p1 n1 c1, .slice p2 n2 c2] 26)).alloc (.cells #[.slice p3 n3 c3, .slice p4 n4 c4] 26) → BI w' w.heap.size p1 p2 n1 c1 n2 c2 A B ∧ BI w' (w.heap.size + 1) p3 p4 n3 c3 n4 c4 C D ∧ Below w.heap.size w w' := by
  rintro w' rfl
  have r1 := heap_alloc_new w (.cells #[.slice p1 n1 c1, .slice p2 n2 c2] 26 (0, 0))
  have b1 : Below w.heap.size w (w.alloc (.cells #[.slice p1 n1 c1, .slice p2 n2 c2] 26)) := (Below.refl _ _).alloc (Nat.le_refl _) _
  have z1 : (w.alloc (.cells #[.slice p1 n1 c1, .slice p2 n2 c2] 26)).heap.size = w.heap.size + 1 := by simp
  generalize w.alloc (.cells #[.slice p1 n1 c1, .slice p2 n2 c2] 26) = wm at *
  have r2 := heap_alloc_new wm (.cells #[.slice p3 n3 c3, .slice p4 n4 c4] 26 (0, 0))
  have b2 : Below wm.heap.size wm (wm.alloc (.cells #[.slice p3 n3 c3, .slice p4 n4 c4] 26)) := (Below.refl _ _).alloc (Nat.le_refl _) _
  generalize wm.alloc (.cells #[.slice p3 n3 c3, .slice p4 n4 c4] 26) = w4 at *
  rw [z1] at r2
  have b12 := b1.trans (b2.mono b1.size)
  exact ⟨⟨(b2.block _ (by omega)).trans r1, i1.later b12, i2.later b12⟩, ⟨r2, i3.later b12, i4.later b12⟩, b12⟩
theorem lsame {w0 w : World} (hW : Below w0.heap.size w0 w) {p q r s : Option Addr} {n m c e f g : Nat} {R S : List Int} (hn : n ≤ 8) (hm : m ≤ 8) (h1 : Ints w p n c R) (h2 : Ints w q m e S) (h3 : Ints w r n f R) (h4 : Ints w s m g S) :
    Calls Try.prog 19 #[.agg #[.slice p n c, .slice q m e], .agg #[.slice r n f, .slice s m g]] w fun e w' => e = .returned (.bool true) ∧ Below w0.heap.size w0 w' := by
  have := refsame_any p q r s n c m e n f m g R S R S w h1 h2 h3 h4 (by omega) (by omega)
  rw [decide_eq_true ⟨rfl, rfl⟩] at this
  exact this.mono fun e w' h => ⟨h.1, hW.trans (h.2.mono hW.size)⟩
set_option maxRecDepth 100000 in
set_option maxHeartbeats 4000000 in
theorem zlsplits_any (R S P Q : List Int) (p q s r : Option Addr) (n c m e l f k h : Nat) (w : World) (hR : Ints w p n c R) (hS : Ints w q m e S) (hP : Ints w s l f P) (hQ : Ints w r k h Q) (hn : n ≤ 9223372036854775807) (hl : l ≤ 9223372036854775807) (_hk : k ≤ 9223372036854775807) :
    Calls Try.prog 5 #[.agg #[.slice p n c, .slice q m e], .slice s l f, .slice r k h] w fun e w' => e = .returned (.bool true) ∧ Below w.heap.size w w' := by
  obtain ⟨w1, hw1⟩ : ∃ w1, w1 = w.alloc (.cells #[.slice p n c, .slice q m e] 26) := ⟨_, rfl⟩
  obtain ⟨hbi, hb1⟩ := lbox hR hS hw1
  have HP1 := Lib.hid (hP.later hb1)
  have HQ1 := Lib.hid (hQ.later hb1)
  go_enter Try.func5, Try.ntmps5
  go_upto_region 1 with fail
  rw [← hw1]
  have HBI := Lib.hid hbi
  have HB1 := Lib.hid hb1
  clear hw1 hbi hb1 hR hS hP hQ
  go_wp2_with fail
  refine (zalive_any w1).mono ?_
  rintro _ w2 ⟨rfl, hb2⟩
  have HI2 := Lib.hid (HBI.out.later hb2)
  have HP2 := Lib.hid (HP1.out.later hb2)
  have HQ2 := Lib.hid (HQ1.out.later hb2)
  have HB2 := Lib.hid (HB1.out.trans (hb2.mono HB1.out.size))
  clear hb2 HBI HP1 HQ1 HB1
  obtain ⟨a0, a1⟩ := HI2.out.cells
  by_cases h8 : 8 < n
  · have b2 : (8 : Int) < n := by omega
    go_wp2_with fail
    go_ret
    exact ⟨rfl, HB2.out⟩
  have b2 : ¬ (8 : Int) < n := by omega
  obtain ⟨ok, A, B, C, D, hok, hlen, hs1, hs2⟩ := lsplit HI2.out
  have HOK := Lib.hid hok
  have HLEN := Lib.hid hlen
  have K1 := Lib.hid hs1
  have K2 := Lib.hid hs2
  clear hok hlen hs1 hs2 h8
  go_wp2_with fail
  refine (K1.out w2 (Below.refl _ _)).mono ?_
  rintro _ w3 ⟨p1, c1, p2, c2, p3, c3, p4, c4, rfl, i1, i2, i3, i4, hb3⟩
  obtain ⟨nA, hA⟩ : ∃ x, x = A.length := ⟨_, rfl⟩
  obtain ⟨nB, hB⟩ : ∃ x, x = B.length := ⟨_, rfl⟩
  obtain ⟨nC, hC⟩ : ∃ x, x = C.length := ⟨_, rfl⟩
  obtain ⟨nD, hD⟩ : ∃ x, x = D.length := ⟨_, rfl⟩
  rw [← hA] at i1 ⊢
  rw [← hB] at i2 ⊢
  rw [← hC] at i3 ⊢
  rw [← hD] at i4 ⊢
  have NA := Lib.hid hA
  have NB := Lib.hid hB
  have NC := Lib.hid hC
  have ND := Lib.hid hD
  have B3 := Lib.hid hb3
  have J := Lib.hid (two_boxes i1 i2 i3 i4 _ rfl)
  clear hA hB hC hD i1 i2 i3 i4 hb3 a0 a1
  go_upto_region 6 with fail
  obtain ⟨w4, hw4⟩ : ∃ w4, w4 = (w3.alloc (.cells #[.slice p1 nA c1, .slice p2 nB c2] 26)).alloc (.cells #[.slice p3 nC c3, .slice p4 nD c4] 26) := ⟨_, rfl⟩
  have J4 := J.out
  rw [← hw4] at J4 ⊢
  obtain ⟨hX, hY, hb4⟩ := J4
  have HX := Lib.hid hX
  have HY := Lib.hid hY
  have B4 := Lib.hid (B3.out.trans (hb4.mono B3.out.size))
  clear hX hY hb4 J hw4
  generalize w3.heap.size + 1 = gy at *
  generalize w3.heap.size = gx at *
  obtain ⟨a0, a1⟩ := (HI2.out.later B4.out).cells
  go_wp2_with fail
  refine (K2.out w4 B4.out).mono ?_
  rintro _ w5 ⟨r1, d1, r2, d2, r3, d3, r4, d4, rfl, i1, i2, i3, i4, hb5⟩
  rw [← NA.out] at i1 ⊢
  rw [← NB.out] at i2 ⊢
  rw [← NC.out] at i3 ⊢
  rw [← ND.out] at i4 ⊢
  have B5 := Lib.hid hb5
  have J := Lib.hid (two_boxes i1 i2 i3 i4 _ rfl)
  clear i1 i2 i3 i4 hb5 a0 a1
  go_upto_region 7 with fail
  obtain ⟨w6, hw6⟩ : ∃ w6, w6 = (w5.alloc (.cells #[.slice r1 nA d1, .slice r2 nB d2] 26)).alloc (.cells #[.slice r3 nC d3, .slice r4 nD d4] 26) := ⟨_, rfl⟩
  have J6 := J.out
  rw [← hw6] at J6 ⊢
  obtain ⟨hU, hV, hb6⟩ := J6
  have HU := Lib.hid hU
  have HV := Lib.hid hV
  have B46 := Lib.hid (B5.out.trans (hb6.mono B5.out.size))
  clear hU hV hb6 J hw6
  generalize w5.heap.size + 1 = gv at *
  generalize w5.heap.size = gu at *
  have BB := Lib.hid (HB2.out.trans ((B4.out.trans (B46.out.mono B4.out.size)).mono HB2.out.size))
  have HG := Lib.hid (show ∀ w', Below w6.heap.size w6 w' → BI w' w.heap.size p q n c m e R S ∧ BI w' gx p1 p2 nA c1 nB c2 A B ∧ BI w' gy p3 p4 nC c3 nD c4 C D ∧ BI w' gu r1 r2 nA d1 nB d2 A B ∧ BI w' gv r3 r4 nC d3 nD d4 C D from fun w' hb => by
    have h46 := B46.out.trans (hb.mono B46.out.size)
    exact ⟨HI2.out.later (B4.out.trans (h46.mono B4.out.size)), HX.out.later h46, HY.out.later h46, HU.out.later hb, HV.out.later hb⟩)
  have HPQ := Lib.hid (show ∀ w', Below w6.heap.size w6 w' → Ints w' s l f P ∧ Ints w' r k h Q from fun w' hb => by
    have h26 := B4.out.trans ((B46.out.trans (hb.mono B46.out.size)).mono B4.out.size)
    exact ⟨HP2.out.later h26, HQ2.out.later h26⟩)
  have LA := Lib.hid (show nA ≤ 8 ∧ nB ≤ 8 ∧ nC ≤ 8 ∧ nD ≤ 8 by rw [NA.out, NB.out, NC.out, ND.out]; exact HLEN.out)
  obtain ⟨x, hx⟩ : ∃ x, x = blockB R S n m := ⟨_, rfl⟩
  have okx : (ok != ok) = false := by cases ok <;> rfl
  have xx : (x != x) = false := by cases x <;> rfl
  refine wp_region_held_drew (S := fun w' => Below w6.heap.size w6 w') (by kernel_rfl) (Below.refl _ _).drew (fun hHeld => ?_)
  refine wpAnyH_take (i := 0) (oi := ⟨some 32, .move (.tmp 9), _, _, _, _⟩) (v := ?_) rfl (by kernel_rfl) (by kernel_rfl) (by kernel_rfl) (fun _ _ _ h => h) (Or.inl ⟨by rfl, ?_⟩) (by assumption) ?_
  rotate_left
  · intro w' hSw
    go_simp
    try with_reducible rfl
  try simp only [Act.put, List.setIfInBounds_toArray, List.set_cons_zero, List.set_cons_succ]
  refine wpAnyH_take (i := 1) (oi := ⟨some 33, .move (.tmp 12), _, _, _, _⟩) (v := ?_) rfl (by kernel_rfl) (by kernel_rfl) (by kernel_rfl) (fun _ _ _ h => h) (Or.inl ⟨by rfl, ?_⟩) (by assumption) ?_
  rotate_left
  · intro w' hSw
    go_simp
    try with_reducible rfl
  try simp only [Act.put, List.setIfInBounds_toArray, List.set_cons_zero, List.set_cons_succ]
  refine wpAnyH_take (i := 2) (oi := ⟨some 34, .binOp .neq 4 (.tmp 32) (.tmp 33) 4, _, _, _, _⟩) (v := ?_) rfl (by kernel_rfl) (by kernel_rfl) (by kernel_rfl) (fun _ _ _ h => h) (Or.inl ⟨by rfl, ?_⟩) (by assumption) ?_
  rotate_left
  · intro w' hSw
    go_simp
    try with_reducible rfl
  try simp only [Act.put, List.setIfInBounds_toArray, List.set_cons_zero, List.set_cons_succ]
  refine wpAnyH_take (i := 3) (oi := ⟨some 35, .move (.tmp 34), _, _, _, _⟩) (v := ?_) rfl (by kernel_rfl) (by kernel_rfl) (by kernel_rfl) (fun _ _ _ h => h) (Or.inl ⟨by rfl, ?_⟩) (by assumption) ?_
  rotate_left
  · intro w' hSw
    go_simp
    try with_reducible rfl
  try simp only [Act.put, List.setIfInBounds_toArray, List.set_cons_zero, List.set_cons_succ]
  refine wpAnyH_take (i := 4) (oi := ⟨some 36, .load 26 (.tmp 7), _, _, _, _⟩) (v := ?_) rfl (by kernel_rfl) (by kernel_rfl) (by kernel_rfl) (fun _ _ _ h => h) (Or.inl ⟨by rfl, ?_⟩) (by assumption) ?_
  rotate_left
  · intro w' hSw
    obtain ⟨a0, a1⟩ := (HG.out _ hSw).2.1.cells
    go_simp
    try with_reducible rfl
  try simp only [Act.put, List.setIfInBounds_toArray, List.set_cons_zero, List.set_cons_succ]
  refine wpAnyH_take (i := 5) (oi := ⟨some 37, .load 26 (.tmp 10), _, _, _, _⟩) (v := ?_) rfl (by kernel_rfl) (by kernel_rfl) (by kernel_rfl) (fun _ _ _ h => h) (Or.inl ⟨by rfl, ?_⟩) (by assumption) ?_
  rotate_left
  · intro w' hSw
    obtain ⟨a0, a1⟩ := (HG.out _ hSw).2.2.2.1.cells
    go_simp
    try with_reducible rfl
  try simp only [Act.put, List.setIfInBounds_toArray, List.set_cons_zero, List.set_cons_succ]
  refine wpAnyH_ready (rs := [6]) (by kernel_rfl) (by simp) ?_
  refine AllReadyH.cons (o := ⟨some 38, .call ⟨.value (.func 19), #[.tmp 36, .tmp 37], #[26, 26]⟩, _, _, _, _⟩) rfl (fun K hK => ?_) AllReadyH.nil
  go_simp
  with_reducible refine (lsame (w0 := w6) hHeld LA.out.1 LA.out.2.1 (HG.out _ hHeld).2.1.i1 (HG.out _ hHeld).2.1.i2 (HG.out _ hHeld).2.2.2.1.i1 (HG.out _ hHeld).2.2.2.1.i2).mono ?_
  rintro _ w38 ⟨rfl, hS38⟩
  try go_wp2_with fail
  refine hK.out _ _ hS38 (fun hHeld => ?_)
  clear hK K
  try simp only [Act.put, List.setIfInBounds_toArray, List.set_cons_zero, List.set_cons_succ]
  refine wpAnyH_take (i := 7) (oi := ⟨some 39, .unOp .not 4 (.tmp 38), _, _, _, _⟩) (v := ?_) rfl (by kernel_rfl) (by kernel_rfl) (by kernel_rfl) (fun _ _ _ h => h) (Or.inl ⟨by rfl, ?_⟩) (by assumption) ?_
  rotate_left
  · intro w' hSw
    go_simp
    try with_reducible rfl
  try simp only [Act.put, List.setIfInBounds_toArray, List.set_cons_zero, List.set_cons_succ]
  refine wpAnyH_take (i := 8) (oi := ⟨some 40, .pick (.tmp 35) (.const (.bool true)) (.tmp 39), _, _, _, _⟩) (v := ?_) rfl (by kernel_rfl) (by kernel_rfl) (by kernel_rfl) (fun _ _ _ h => h) (Or.inl ⟨by rfl, ?_⟩) (by assumption) ?_
  rotate_left
  · intro w' hSw
    go_simp
    try with_reducible rfl
  try simp only [Act.put, List.setIfInBounds_toArray, List.set_cons_zero, List.set_cons_succ]
  refine wpAnyH_take (i := 9) (oi := ⟨some 41, .move (.tmp 40), _, _, _, _⟩) (v := ?_) rfl (by kernel_rfl) (by kernel_rfl) (by kernel_rfl) (fun _ _ _ h => h) (Or.inl ⟨by rfl, ?_⟩) (by assumption) ?_
  rotate_left
  · intro w' hSw
    go_simp
    try with_reducible rfl
  try simp only [Act.put, List.setIfInBounds_toArray, List.set_cons_zero, List.set_cons_succ]
  refine wpAnyH_take (i := 10) (oi := ⟨some 42, .load 26 (.tmp 8), _, _, _, _⟩) (v := ?_) rfl (by kernel_rfl) (by kernel_rfl) (by kernel_rfl) (fun _ _ _ h => h) (Or.inl ⟨by rfl, ?_⟩) (by assumption) ?_
  rotate_left
  · intro w' hSw
    obtain ⟨a0, a1⟩ := (HG.out _ hSw).2.2.1.cells
    go_simp
    try with_reducible rfl
  try simp only [Act.put, List.setIfInBounds_toArray, List.set_cons_zero, List.set_cons_succ]
  refine wpAnyH_take (i := 11) (oi := ⟨some 43, .load 26 (.tmp 11), _, _, _, _⟩) (v := ?_) rfl (by kernel_rfl) (by kernel_rfl) (by kernel_rfl) (fun _ _ _ h => h) (Or.inl ⟨by rfl, ?_⟩) (by assumption) ?_
  rotate_left
  · intro w' hSw
    obtain ⟨a0, a1⟩ := (HG.out _ hSw).2.2.2.2.cells
    go_simp
    try with_reducible rfl
  try simp only [Act.put, List.setIfInBounds_toArray, List.set_cons_zero, List.set_cons_succ]
  refine wpAnyH_ready (rs := [12]) (by kernel_rfl) (by simp) ?_
  refine AllReadyH.cons (o := ⟨some 44, .call ⟨.value (.func 19), #[.tmp 42, .tmp 43], #[26, 26]⟩, _, _, _, _⟩) rfl (fun K hK => ?_) AllReadyH.nil
  go_simp
  with_reducible refine (lsame (w0 := w6) hHeld LA.out.2.2.1 LA.out.2.2.2 (HG.out _ hHeld).2.2.1.i1 (HG.out _ hHeld).2.2.1.i2 (HG.out _ hHeld).2.2.2.2.i1 (HG.out _ hHeld).2.2.2.2.i2).mono ?_
  rintro _ w44 ⟨rfl, hS44⟩
  try go_wp2_with fail
  refine hK.out _ _ hS44 (fun hHeld => ?_)
  clear hK K
  try simp only [Act.put, List.setIfInBounds_toArray, List.set_cons_zero, List.set_cons_succ]
  refine wpAnyH_take (i := 13) (oi := ⟨some 45, .unOp .not 4 (.tmp 44), _, _, _, _⟩) (v := ?_) rfl (by kernel_rfl) (by kernel_rfl) (by kernel_rfl) (fun _ _ _ h => h) (Or.inl ⟨by rfl, ?_⟩) (by assumption) ?_
  rotate_left
  · intro w' hSw
    go_simp
    try with_reducible rfl
  try simp only [Act.put, List.setIfInBounds_toArray, List.set_cons_zero, List.set_cons_succ]
  refine wpAnyH_take (i := 14) (oi := ⟨some 46, .pick (.tmp 41) (.const (.bool true)) (.tmp 45), _, _, _, _⟩) (v := ?_) rfl (by kernel_rfl) (by kernel_rfl) (by kernel_rfl) (fun _ _ _ h => h) (Or.inl ⟨by rfl, ?_⟩) (by assumption) ?_
  rotate_left
  · intro w' hSw
    go_simp
    try with_reducible rfl
  try simp only [Act.put, List.setIfInBounds_toArray, List.set_cons_zero, List.set_cons_succ]
  refine wpAnyH_take (i := 15) (oi := ⟨some 47, .move (.tmp 46), _, _, _, _⟩) (v := ?_) rfl (by kernel_rfl) (by kernel_rfl) (by kernel_rfl) (fun _ _ _ h => h) (Or.inl ⟨by rfl, ?_⟩) (by assumption) ?_
  rotate_left
  · intro w' hSw
    go_simp
    try with_reducible rfl
  try simp only [Act.put, List.setIfInBounds_toArray, List.set_cons_zero, List.set_cons_succ]
  refine wpAnyH_take (i := 16) (oi := ⟨some 48, .load 26 (.tmp 3), _, _, _, _⟩) (v := ?_) rfl (by kernel_rfl) (by kernel_rfl) (by kernel_rfl) (fun _ _ _ h => h) (Or.inl ⟨by rfl, ?_⟩) (by assumption) ?_
  rotate_left
  · intro w' hSw
    obtain ⟨a0, a1⟩ := (HG.out _ hSw).1.cells
    go_simp
    try with_reducible rfl
  try simp only [Act.put, List.setIfInBounds_toArray, List.set_cons_zero, List.set_cons_succ]
  refine wpAnyH_take (i := 18) (oi := ⟨some 50, .load 26 (.tmp 3), _, _, _, _⟩) (v := ?_) rfl (by kernel_rfl) (by kernel_rfl) (by kernel_rfl) (fun _ _ _ h => h) (Or.inl ⟨by rfl, ?_⟩) (by assumption) ?_
  rotate_left
  · intro w' hSw
    obtain ⟨a0, a1⟩ := (HG.out _ hSw).1.cells
    go_simp
    try with_reducible rfl
  try simp only [Act.put, List.setIfInBounds_toArray, List.set_cons_zero, List.set_cons_succ]
  refine wpAnyH_ready (rs := [17]) (by kernel_rfl) (by simp) ?_
  refine AllReadyH.cons (o := ⟨some 49, .call ⟨.value (.func 20), #[.tmp 48], #[26]⟩, _, _, _, _⟩) rfl (fun K hK => ?_) AllReadyH.nil
  go_simp
  with_reducible refine (lblock (w0 := w6) hHeld (HG.out _ hHeld).1.i1 (HG.out _ hHeld).1.i2).mono ?_
  rintro _ w49 ⟨rfl, hS49⟩
  rw [← hx]
  try go_wp2_with fail
  refine hK.out _ _ hS49 (fun hHeld => ?_)
  clear hK K
  try simp only [Act.put, List.setIfInBounds_toArray, List.set_cons_zero, List.set_cons_succ]
  refine wpAnyH_ready (rs := [19]) (by kernel_rfl) (by simp) ?_
  refine AllReadyH.cons (o := ⟨some 51, .call ⟨.value (.func 21), #[.tmp 50], #[26]⟩, _, _, _, _⟩) rfl (fun K hK => ?_) AllReadyH.nil
  go_simp
  with_reducible refine (lrblock (w0 := w6) hHeld (HG.out _ hHeld).1.i1 (HG.out _ hHeld).1.i2).mono ?_
  rintro _ w51 ⟨rfl, hS51⟩
  rw [← hx]
  try go_wp2_with fail
  refine hK.out _ _ hS51 (fun hHeld => ?_)
  clear hK K
  try simp only [Act.put, List.setIfInBounds_toArray, List.set_cons_zero, List.set_cons_succ]
  refine wpAnyH_take (i := 20) (oi := ⟨some 52, .binOp .neq 4 (.tmp 49) (.tmp 51) 4, _, _, _, _⟩) (v := ?_) rfl (by kernel_rfl) (by kernel_rfl) (by kernel_rfl) (fun _ _ _ h => h) (Or.inl ⟨by rfl, ?_⟩) (by assumption) ?_
  rotate_left
  · intro w' hSw
    go_simp
    try with_reducible rfl
  try simp only [Act.put, List.setIfInBounds_toArray, List.set_cons_zero, List.set_cons_succ]
  refine wpAnyH_take (i := 21) (oi := ⟨some 53, .pick (.tmp 47) (.const (.bool true)) (.tmp 52), _, _, _, _⟩) (v := ?_) rfl (by kernel_rfl) (by kernel_rfl) (by kernel_rfl) (fun _ _ _ h => h) (Or.inl ⟨by rfl, ?_⟩) (by assumption) ?_
  rotate_left
  · intro w' hSw
    go_simp
    try with_reducible rfl
  try simp only [Act.put, List.setIfInBounds_toArray, List.set_cons_zero, List.set_cons_succ]
  refine wpAnyH_done (by kernel_rfl) ?_ _
  have HBZ := Lib.hid hS51
  clear hHeld hS38 hS44 hS49 hS51 okx xx hx
  cases ok with
  | false =>
    go_wp2_with fail
    go_ret
    exact ⟨rfl, BB.out.trans (HBZ.out.mono BB.out.size)⟩
  | true =>
    obtain ⟨kk, hbx, hmn, hhv, lA, lB, lC, lD⟩ := HOK.out rfl
    obtain rfl : m = n := hmn
    obtain rfl : nA = m := NA.out.trans lA
    obtain rfl : nB = nA := NB.out.trans lB
    obtain rfl : nC = nB := NC.out.trans lC
    obtain rfl : nD = nC := ND.out.trans lD
    have hpq := HPQ.out w51 HBZ.out
    have hhp := halves_has hhv hbx (HI2.out.i1.size.symm) hpq.1.ok hpq.1.size
    have HHV := Lib.hid hhv
    have HBX := Lib.hid hbx
    have HHP := Lib.hid hhp
    clear hbx hhv lA lB lC lD hpq hhp
    have HG2 := Lib.hid (show ∀ w', Below w51.heap.size w51 w' → _ from fun w' hb => HG.out w' (HBZ.out.trans (hb.mono HBZ.out.size)))
    have HPQ2 := Lib.hid (show ∀ w', Below w51.heap.size w51 w' → _ from fun w' hb => HPQ.out w' (HBZ.out.trans (hb.mono HBZ.out.size)))
    have BB2 := Lib.hid (BB.out.trans (HBZ.out.mono BB.out.size))
    have z0 := Below.refl w51.heap.size w51
    obtain ⟨a0, a1⟩ := (HG2.out _ z0).1.cells
    obtain ⟨x0, x1⟩ := (HG2.out _ z0).2.1.cells
    obtain ⟨y0, y1⟩ := (HG2.out _ z0).2.2.1.cells
    clear z0
    go_wp2_with fail
    refine (lhas (Below.refl w51.heap.size w51) (HG2.out _ (Below.refl _ _)).2.1.i1 (HG2.out _ (Below.refl _ _)).2.1.i2 (HPQ2.out _ (Below.refl _ _)).1).mono ?_
    rintro _ w7 ⟨rfl, hb7⟩
    have B7 := Lib.hid hb7
    clear hb7 a0 a1 x0 x1 y0 y1
    obtain ⟨a0, a1⟩ := (HG2.out _ B7.out).1.cells
    go_wp2_with fail
    refine (lhas (w0 := w51) B7.out (HG2.out _ B7.out).1.i1 (HG2.out _ B7.out).1.i2 (HPQ2.out _ B7.out).1).mono ?_
    rintro _ w8 ⟨rfl, hb8⟩
    have B8 := Lib.hid hb8
    rw [HHP.out.1]
    clear hb8 a0 a1
    obtain ⟨a0, a1⟩ := (HG2.out _ B8.out).1.cells
    obtain ⟨y0, y1⟩ := (HG2.out _ B8.out).2.2.1.cells
    have hboth := HHP.out.2
    cases e1 : hasB A B P nD nD l with
    | true =>
      cases e2 : hasB C D P nD nD l with
      | true =>
        rw [e1, e2] at hboth
        cases hboth
      | false =>
        have E1 := Lib.hid e1
        have E2 := Lib.hid e2
        clear e1 e2 hboth
        go_wp2_with fail
        refine (lhas (w0 := w51) B8.out (HG2.out _ B8.out).2.2.1.i1 (HG2.out _ B8.out).2.2.1.i2 (HPQ2.out _ B8.out).1).mono ?_
        rintro _ w9 ⟨rfl, hb9⟩
        rw [E2.out]
        have B9 := Lib.hid hb9
        clear hb9 a0 a1 y0 y1
        obtain ⟨y0, y1⟩ := (HG2.out _ B9.out).2.2.1.cells
        go_wp2_with fail
        refine (lhas (w0 := w51) B9.out (HG2.out _ B9.out).2.2.1.i1 (HG2.out _ B9.out).2.2.1.i2 (HPQ2.out _ B9.out).2).mono ?_
        rintro _ w10 ⟨rfl, hb10⟩
        have B10 := Lib.hid hb10
        clear hb10 y0 y1
        cases e3 : hasB C D Q nD nD k with
        | false =>
          clear e3
          go_wp2_with fail
          go_ret
          exact ⟨rfl, BB2.out.trans (B10.out.mono BB2.out.size)⟩
        | true =>
          obtain ⟨l1, l8, lnl, -⟩ := has_dims E1.out
          obtain ⟨k1, k8, lnk, -⟩ := has_dims e3
          subst lnl
          obtain rfl : k = nD := lnk.symm
          have pq := HPQ2.out _ B10.out
          have rA : rightB A B k k k = true := by have := HHV.out.b1.right; rw [HHV.out.l1, ← HI2.out.i1.size] at this; exact this
          have rC : rightB C D k k k = true := by have := HHV.out.b2.right; rw [HHV.out.l2, ← HI2.out.i1.size] at this; exact this
          have q1 := (hasB_in (HHV.out.l1.trans HI2.out.i1.size.symm) pq.1.size.symm rA).1 E1.out
          have q2 := (hasB_in (HHV.out.l2.trans HI2.out.i1.size.symm) pq.2.size.symm rC).1 e3
          have hord := HHV.out.order P Q pq.1.ok pq.2.ok (pq.1.size.symm.trans HI2.out.i1.size) (pq.2.size.symm.trans HI2.out.i1.size) q1 q2
          have HORD := Lib.hid hord
          clear pq rA rC q1 q2 hord e3
          go_wp2_with fail
          refine (lcode (w0 := w51) B10.out (HPQ2.out _ B10.out).1 (by omega)).mono ?_
          rintro _ w11 ⟨q11, c11, rfl, hq11, hb11⟩
          have Q11 := Lib.hid hq11
          have B11 := Lib.hid hb11
          clear hq11 hb11
          go_wp2_with fail
          refine (lcode (w0 := w11) (Below.refl _ _) (HPQ2.out _ B11.out).2 (by omega)).mono ?_
          rintro _ w12 ⟨q12, c12, rfl, hq12, hb12⟩
          have Q12 := Lib.hid hq12
          have R11 := Lib.hid (Q11.out.later hb12 Q11.out.lt)
          have B12 := Lib.hid (B11.out.trans (hb12.mono B11.out.size))
          clear hq12 hb12
          go_wp2_with fail
          refine (lless (w0 := w51) B12.out R11.out Q12.out).mono ?_
          rintro _ w13 ⟨rfl, hb13⟩
          rw [decide_eq_true HORD.out]
          have B13 := Lib.hid hb13
          clear hb13
          go_wp2_with fail
          go_ret
          exact ⟨rfl, BB2.out.trans (B13.out.mono BB2.out.size)⟩
    | false =>
      have E1 := Lib.hid e1
      clear e1 hboth
      go_wp2_with fail
      refine (lhas (w0 := w51) B8.out (HG2.out _ B8.out).2.2.1.i1 (HG2.out _ B8.out).2.2.1.i2 (HPQ2.out _ B8.out).1).mono ?_
      rintro _ w9 ⟨rfl, hb9⟩
      have B9 := Lib.hid hb9
      clear hb9 a0 a1 y0 y1
      cases e2 : hasB C D P nD nD l with
      | true =>
        clear e2
        go_wp2_with fail
        go_ret
        exact ⟨rfl, BB2.out.trans (B9.out.mono BB2.out.size)⟩
      | false =>
        clear e2
        go_wp2_with fail
        go_ret
        exact ⟨rfl, BB2.out.trans (B9.out.mono BB2.out.size)⟩
end Go.Proofs.Ytbhpmigblkaihaa.Zr

/- Proved: whatever box and two rows it is handed, the Go function indenturelaw06.ZrangeSplits returns true (a box's parts are the document's: each of its points is in just one, and those of the lower one stand ahead; whether it is a block is the document's, too), and each argument reads afterwards as it read before. Conditions: none beyond the given row's own. -/
namespace Go.Proofs.Ytbhpmigblkaihaa
open Go.ChangeShapes Go.WideShapes Go.ChangeAt Go.RowKit Go.Deep

set_option maxRecDepth 100000 in
theorem zlsplits_lifted (os : Os) (started : os.Started) (H : Type) (enc : TypeId × Value → H) :
    ReturnsInHanded {} Try.checked os 5 .any (Rows.zrangeSplitsSpec.pre6 enc Try.prog Try.f5 Rows.zrangeSplitsRow.domain false) (Rows.zrangeSplitsSpec.post enc Try.prog Try.f5 false true false false) := by
  refine returnsInHanded_of_change (C := Try.checked) gen_own started (by kernel_rfl) Try.func5
    (ChangeSpec.witness6 (enc := enc) (C := Try.checked) false ⟨#[], #[.agg #[.slice none 0 0, .slice none 0 0], .slice none 0 0, .slice none 0 0], []⟩ 8 (by kernel_rfl) (by kernel_rfl) (by kernel_rfl) (by kernel_rfl)) ?_
  intro W base args ds gs before hval0 hW _ _
  have hval : ∀ (j : Nat) t v, Try.f5.params[j]? = some t → args[j]? = some v → Value.okWide Try.prog W .any base t v := hval0
  have hW' := hW
  obtain ⟨p, q, hA0, hV, rfl, _, _⟩ := hW
  have hA : DataW.TrodAll enc Try.prog W 0 (fun _ => true) true Try.f5.params.toList args.toList ds p := hA0
  rw [Try.params5] at hA hval
  obtain ⟨v0, vs0, d0, ds0, p0, q0, hargs, rfl, rfl, h0, r0⟩ := trodAll_cons hA
  obtain ⟨v1, vs1, d1, ds1, p1, q1, rfl, rfl, rfl, h1, r1⟩ := trodAll_cons r0
  obtain ⟨v2, vs2, d2, ds2, p2, q2, rfl, rfl, rfl, h2, r2⟩ := trodAll_cons r1
  obtain ⟨rfl, rfl, rfl⟩ := trodAll_nil r2
  obtain rfl : args = #[v0, v1, v2] := by cases args; simp_all
  obtain ⟨rfl, rfl⟩ := trodVars_none hV
  obtain ⟨a0, len0, cap0, R0, b0, ben0, bap0, S0, rfl, hR0, hS0, hm0, hn0⟩ := open_box (hval 0 26 v0 rfl rfl) h0
  obtain ⟨a1, len1, cap1, R1, rfl, hR1, hl1⟩ := open_row (hval 1 24 v1 rfl rfl) h1
  obtain ⟨a2, len2, cap2, R2, rfl, hR2, hl2⟩ := open_row (hval 2 24 v2 rfl rfl) h2
  have k0 := h0
  have k1 := h1
  have k2 := h2
  have lt0 : ∀ x ∈ p0, x.block < W.heap.size := by obtain ⟨m, hm⟩ := k0; exact DataW.trod_lt m _ _ _ hm
  have lt1 : ∀ x ∈ p1, x.block < W.heap.size := by obtain ⟨m, hm⟩ := k1; exact DataW.trod_lt m _ _ _ hm
  have lt2 : ∀ x ∈ p2, x.block < W.heap.size := by obtain ⟨m, hm⟩ := k2; exact DataW.trod_lt m _ _ _ hm
  clear hA0 hval0
  refine (Zr.zlsplits_any R0 S0 R1 R2 a0 b0 a1 a2 len0 cap0 ben0 bap0 len1 cap1 len2 cap2 W hR0 hS0 hR1 hR2 hm0 hl1 hl2).mono fun e W' ⟨he, bel⟩ => ?_
  subst he
  exact ⟨_, rfl, _, _, _, [], _, [], hW', trodAll_mk1 (shut_bool Try.underlying4 _),
    (trodAll_cons_mk (Below.trod gen_laidOut (by kernel_rfl) (of_decide_eq_true (by kernel_rfl)) k0 bel lt0) (trodAll_cons_mk (Below.trod gen_laidOut (by kernel_rfl) (of_decide_eq_true (by kernel_rfl)) k1 bel lt1) (trodAll_cons_mk (Below.trod gen_laidOut (by kernel_rfl) (of_decide_eq_true (by kernel_rfl)) k2 bel lt2) trodAll_mk0))), rfl, bel.frame _, fun h => by cases h⟩
theorem zlsplits_holds : Rows.ZrangeSplitsSaid :=
  OpenClaim.holds_of_wide 5 Try.f5 rfl rfl rfl rfl rfl rfl rfl ⟨rfl, rfl, rfl, rfl, rfl⟩ rfl rfl rfl rfl rfl (by kernel_rfl) Try.func5 (by kernel_rfl)
    (of_decide_eq_true (by kernel_rfl)) (by unfold Func.isWrapper; first | (rw [if_pos (by decide +kernel)]; kernel_rfl) | (rw [if_neg (by decide +kernel)]; exact ⟨rfl, rfl⟩))
    (fun os started H enc _ => zlsplits_lifted os started H enc)
end Go.Proofs.Ytbhpmigblkaihaa
