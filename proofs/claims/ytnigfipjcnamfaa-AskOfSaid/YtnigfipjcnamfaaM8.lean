/- BoxMath, BoxLeastMath, BoxBounds, BoxBeyond, BoxNearKey, AkPast. -/
import Derived.Test.YtnigfipjcnamfaaM7
/- Plain arithmetic of orders: no Go in sight. -/
namespace Go.Proofs.Ytnigfipjcnamfaa

theorem ahead_irrefl (kd cl : Int) (A P : List Int) (an n : Nat) : ¬ aheadP kd cl A P P an n n := by
  unfold aheadP
  rintro ⟨-, -, -, h | ⟨-, h⟩⟩ <;> omega
theorem ahead_asymm {kd cl : Int} {A P Q : List Int} {an n m : Nat} (h : aheadP kd cl A P Q an n m) : ¬ aheadP kd cl A Q P an m n := by
  unfold aheadP at h ⊢
  obtain ⟨-, -, -, h⟩ := h
  rintro ⟨-, -, -, h'⟩
  omega
theorem ahead_total {kd cl : Int} {A P Q : List Int} {an n : Nat} (ho : ordP kd cl an n) (hid : P.getD 0 0 ≠ Q.getD 0 0) : aheadP kd cl A P Q an n n ∨ aheadP kd cl A Q P an n n := by
  unfold aheadP
  by_cases h : keyI kd cl A P an n < keyI kd cl A Q an n ∨ keyI kd cl A P an n = keyI kd cl A Q an n ∧ P.getD 0 0 < Q.getD 0 0
  · exact Or.inl ⟨ho, ho, rfl, h⟩
  · exact Or.inr ⟨ho, ho, rfl, by omega⟩
theorem ahead_trans {kd cl : Int} {A P Q R : List Int} {an n m k : Nat} (h : aheadP kd cl A P Q an n m) (h' : aheadP kd cl A Q R an m k) : aheadP kd cl A P R an n k := by
  unfold aheadP at h h' ⊢
  obtain ⟨h1, h2, rfl, h3⟩ := h
  obtain ⟨h4, h5, rfl, h6⟩ := h'
  exact ⟨h1, h2, rfl, by omega⟩
end Go.Proofs.Ytnigfipjcnamfaa

/- Plain arithmetic: no point of a box has a lesser key than the nearest one. -/
namespace Go.Proofs.Ytnigfipjcnamfaa

/-- The numbers of the point of a box that has the least key. -/
def nearAt (kd cl : Int) (A R S : List Int) (i : Nat) : Int :=
  if kd = 2 then (if (i : Int) = cl then S.getD i 0 else R.getD i 0)
  else if kd = 3 then (if i = 0 then R.getD 0 0 else min (max (A.getD (i - 1) 0) (R.getD i 0)) (S.getD i 0))
  else R.getD i 0
theorem drop_getD (P : List Int) (k : Nat) : (P.drop 1).getD k 0 = P.getD (k + 1) 0 := by
  simp [List.getD_eq_getElem?_getD, List.getElem?_drop, Nat.add_comm]
theorem apart_near {a r s p : Int} (h1 : r ≤ p) (h2 : p ≤ s) : apart (min (max a r) s) a ≤ apart p a := by
  unfold apart
  split <;> split <;> omega
theorem near_least {kd cl : Int} {A R S P N : List Int} {an n : Nat} (ho : ordP kd cl an n) (hN : ∀ i, i < n → N.getD i 0 = nearAt kd cl A R S i)
    (h1 : les R P n = true) (h2 : les P S n = true) : keyI kd cl A N an n ≤ keyI kd cl A P an n := by
  have h1 := (les_iff R P n).1 h1
  have h2 := (les_iff P S n).1 h2
  have ho' := ho
  unfold ordP at ho'
  unfold keyI
  rw [if_pos ho, if_pos ho]
  by_cases h3 : kd = 3
  · rw [if_pos h3, if_pos h3]
    unfold btw
    split
    · refine tot_mono _ _ _ fun k hk => ?_
      rw [drop_getD, drop_getD, hN (k + 1) (by omega)]
      unfold nearAt
      rw [if_neg (by omega), if_pos h3, if_neg (by omega), Nat.add_sub_cancel]
      exact apart_near (h1 (k + 1) (by omega)) (h2 (k + 1) (by omega))
    · omega
  · rw [if_neg h3, if_neg h3]
    have hcl : cl.toNat < n := by omega
    have e1 := hN cl.toNat hcl
    have l1 := h1 cl.toNat hcl
    have l2 := h2 cl.toNat hcl
    unfold nearAt at e1
    by_cases h4 : kd = 2
    · rw [if_pos h4, if_pos (by omega)] at e1
      rw [if_pos h4, if_pos h4]
      omega
    · rw [if_neg h4, if_neg h3] at e1
      rw [if_neg h4, if_neg h4]
      omega
end Go.Proofs.Ytnigfipjcnamfaa

/- box.bounds. -/
namespace Go.Proofs.Ytnigfipjcnamfaa
open Go.RowKit


/-- Whether a box is right, and the order for its dimensions. -/
def boundsB (kd cl : Int) (R S : List Int) (an n m : Nat) : Bool := rightB R S n m n && decide (ordP kd cl an n)
theorem boundsB_ord {kd cl : Int} {R S : List Int} {an n m : Nat} (h : boundsB kd cl R S an n m = true) : rightB R S n m n = true ∧ ordP kd cl an n := by
  unfold boundsB at h
  rw [Bool.and_eq_true, decide_eq_true_eq] at h
  exact h
/-- An order and a box that lie boxed. -/
structure OB (w0 w : World) (a b : Nat) (kd cl : Int) (q : Option Addr) (an ac : Nat) (A : List Int) (p r : Option Addr) (n c m e : Nat) (R S : List Int) : Prop where
  o : OrdIn w0 w a kd cl q an ac A
  b : BoxIn w b p r n c m e R S
theorem OB.later {w0 w w' : World} {a b : Nat} {kd cl : Int} {q : Option Addr} {an ac : Nat} {A : List Int} {p r : Option Addr} {n c m e : Nat} {R S : List Int} (h : OB w0 w a b kd cl q an ac A p r n c m e R S) (hb : Below w.heap.size w w') : OB w0 w' a b kd cl q an ac A p r n c m e R S :=
  ⟨h.o.later hb, h.b.later hb⟩
theorem ob_of {w : World} {kd cl : Int} {q : Option Addr} {an ac : Nat} {A : List Int} {p r : Option Addr} {n c m e : Nat} {R S : List Int} (hA : Ints w q an ac A) (hR : Ints w p n c R) (hS : Ints w r m e S) :
    ∀ w2, w2 = (w.alloc (.cells #[.int .u8 kd, .int .i64 cl, .slice q an ac] 27)).alloc (.cells #[.slice p n c, .slice r m e] 25) →
    OB w w2 w.heap.size (w.heap.size + 1) kd cl q an ac A p r n c m e R S ∧ w2.heap.size = w.heap.size + 1 + 1 := by
  rintro w2 rfl
  have ho := ord_in (kd := kd) (cl := cl) hA
  have hs : (w.alloc (.cells #[.int .u8 kd, .int .i64 cl, .slice q an ac] 27)).heap.size = w.heap.size + 1 := by simp
  generalize w.alloc (.cells #[.int .u8 kd, .int .i64 cl, .slice q an ac] 27) = w1 at *
  have hb2 : Below w1.heap.size w1 (w1.alloc (.cells #[.slice p n c, .slice r m e] 25)) := (Below.refl _ _).alloc (Nat.le_refl _) _
  have hx := Bx.fresh w1 (.slice p n c) (.slice r m e)
  rw [hs] at hx
  exact ⟨⟨ho.later hb2, hx, (hR.later ho.below).later hb2, (hS.later ho.below).later hb2⟩, by simp; omega⟩
set_option maxRecDepth 100000 in
set_option maxHeartbeats 4000000 in
theorem bounds_any (kd cl : Int) (q p r : Option Addr) (an ac n c m e : Nat) (A R S : List Int) (w : World) (hA : Ints w q an ac A) (hR : Ints w p n c R) (hS : Ints w r m e S) :
    Calls Try.prog 52 #[.agg #[.int .u8 kd, .int .i64 cl, .slice q an ac], .agg #[.slice p n c, .slice r m e]] w fun e w' => e = .returned (.bool (boundsB kd cl R S an n m)) ∧ Below w.heap.size w w' := by
  go_enter Try.func52, Try.ntmps52
  go_upto_region 1 with fail
  obtain ⟨w2, hw2⟩ : ∃ w2, w2 = (w.alloc (.cells #[.int .u8 kd, .int .i64 cl, .slice q an ac] 27)).alloc (.cells #[.slice p n c, .slice r m e] 25) := ⟨_, rfl⟩
  have HF := Lib.hid (ob_of hA hR hS w2 hw2).1
  rw [← hw2]
  clear hw2 hA hR hS
  obtain ⟨b0, b1, -, -⟩ := HF.out.b.bx.facts
  go_wp2_with fail
  refine (right_any p r n c m e R S n w2 HF.out.b.i1 HF.out.b.i2).mono ?_
  rintro _ w3 ⟨rfl, hb3⟩
  have HG := Lib.hid (HF.out.later hb3)
  clear hb3 HF b0 b1
  obtain ⟨b0, b1, -, -⟩ := HG.out.b.bx.facts
  obtain ⟨x0, x1, x2⟩ := HG.out.o.cells
  cases hr : rightB R S n m n with
  | false =>
    have HR := Lib.hid (show boundsB kd cl R S an n m = false by unfold boundsB; rw [hr]; rfl)
    clear hr
    go_wp2_with fail
    go_ret
    exact ⟨congrArg (fun b => Ending.returned (.bool b)) HR.out.symm, HG.out.o.below⟩
  | true =>
    have HR := Lib.hid (show boundsB kd cl R S an n m = decide (ordP kd cl an n) by unfold boundsB; rw [hr]; rfl)
    clear hr
    go_wp2_with fail
    refine (ordright_any kd cl n q an ac w3).mono ?_
    rintro _ w4 ⟨rfl, hb4⟩
    have HB := Lib.hid (HG.out.o.below.trans (hb4.mono HG.out.o.below.size))
    clear hb4
    go_wp2_with fail
    go_ret
    exact ⟨congrArg (fun b => Ending.returned (.bool b)) HR.out.symm, HB.out⟩
end Go.Proofs.Ytnigfipjcnamfaa

/- box.Beyond. -/
namespace Go.Proofs.Ytnigfipjcnamfaa
open Go.RowKit

/-- Whether all rows of a box are surely behind a row. -/
def beyP (kd cl : Int) (A R S P : List Int) (an n m l : Nat) : Prop :=
  boundsB kd cl R S an n m = true ∧ l = n ∧ (keyI kd cl A P an n < leastI kd cl A R S an n ∨ keyI kd cl A P an n = leastI kd cl A R S an n ∧ P.getD 0 0 < R.getD 0 0)
instance (kd cl : Int) (A R S P : List Int) (an n m l : Nat) : Decidable (beyP kd cl A R S P an n m l) := by unfold beyP; infer_instance
theorem least_bound (kd cl : Int) (A R S : List Int) (an n : Nat) (hA : ∀ x ∈ A, -9223372036854775808 ≤ x ∧ x ≤ 9223372036854775807) (hR : ∀ x ∈ R, -9223372036854775808 ≤ x ∧ x ≤ 9223372036854775807) (hS : ∀ x ∈ S, -9223372036854775808 ≤ x ∧ x ≤ 9223372036854775807) :
    0 ≤ leastI kd cl A R S an n ∧ leastI kd cl A R S an n < 340282366920938463463374607431768211456 := by
  have hc := getD_ok hR cl.toNat
  have hc2 := getD_ok hS cl.toNat
  unfold leastI
  split
  · unfold tbx
    split
    · rename_i hok
      have hap : ∀ k, k < an → 0 ≤ gap (A.getD k 0) ((R.drop 1).getD k 0) ((S.drop 1).getD k 0) ∧ gap (A.getD k 0) ((R.drop 1).getD k 0) ((S.drop 1).getD k 0) < 18446744073709551616 := fun k _ =>
        gap_word (getD_ok hA k) (getD_ok (fun x hx => hR x (List.mem_of_mem_drop hx)) k) (getD_ok (fun x hx => hS x (List.mem_of_mem_drop hx)) k)
      have h1 := tot_nonneg _ an (fun k hk => (hap k hk).1)
      have h2 := tot_lt _ an (fun k hk => (hap k hk).2)
      have h3 : an ≤ 8 := hok.1.2.1
      omega
    · omega
  · split <;> omega
set_option maxRecDepth 100000 in
set_option maxHeartbeats 4000000 in
theorem beyond_any (kd cl : Int) (q p r s : Option Addr) (an ac n c m e l f : Nat) (A R S P : List Int) (w : World) (hA : Ints w q an ac A) (hR : Ints w p n c R) (hS : Ints w r m e S) (hP : Ints w s l f P) :
    Calls Try.prog 33 #[.agg #[.int .u8 kd, .int .i64 cl, .slice q an ac], .agg #[.slice p n c, .slice r m e], .slice s l f] w fun e w' => e = .returned (.bool (decide (beyP kd cl A R S P an n m l))) ∧ Below w.heap.size w w' := by
  have HK1 := Lib.hid (key_bound kd cl A P an n hA.ok hP.ok)
  have HK2 := Lib.hid (least_bound kd cl A R S an n hA.ok hR.ok hS.ok)
  go_enter Try.func33, Try.ntmps33
  go_upto_region 1 with fail
  obtain ⟨w1, hw1⟩ : ∃ w2, w2 = (w.alloc (.cells #[.int .u8 kd, .int .i64 cl, .slice q an ac] 27)).alloc (.cells #[.slice p n c, .slice r m e] 25) := ⟨_, rfl⟩
  obtain ⟨hF, hsz⟩ := ob_of hA hR hS w1 hw1
  rw [← hw1]
  have HP := Lib.hid (hP.later hF.o.below)
  have HF := Lib.hid hF
  clear hw1 hA hR hS hF hsz hP
  obtain ⟨b0, b1, -, -⟩ := HF.out.b.bx.facts
  obtain ⟨x0, x1, x2⟩ := HF.out.o.cells
  go_wp2_with fail
  refine (bounds_any kd cl q p r an ac n c m e A R S w1 HF.out.o.i HF.out.b.i1 HF.out.b.i2).mono ?_
  rintro _ w2 ⟨rfl, hb2⟩
  have HG := Lib.hid (HF.out.later hb2)
  have GP := Lib.hid (HP.out.later hb2)
  clear hb2 HF HP b0 b1 x0 x1 x2
  clear w1
  obtain ⟨b0, b1, -, -⟩ := HG.out.b.bx.facts
  obtain ⟨x0, x1, x2⟩ := HG.out.o.cells
  cases hr : boundsB kd cl R S an n m with
  | false =>
    have HN := Lib.hid (show ¬ beyP kd cl A R S P an n m l from fun h => absurd h.1 (by rw [hr]; simp))
    clear hr
    go_wp2_with fail
    go_ret
    exact ⟨ret_ndec HN.out, HG.out.o.below⟩
  | true =>
  by_cases hl : (l : Int) = n
  case neg =>
    have q1 : ((l : Int) != n) = true := by simpa using hl
    have HN := Lib.hid (show ¬ beyP kd cl A R S P an n m l from fun h => hl (by have := h.2.1; omega))
    clear hr hl
    go_wp2_with fail
    go_ret
    exact ⟨ret_ndec HN.out, HG.out.o.below⟩
  obtain rfl : l = n := by omega
  obtain ⟨hr1, ho⟩ := boundsB_ord hr
  obtain ⟨d1, d2, d3, d4⟩ := rightB_dims hr1
  obtain rfl : m = l := by omega
  obtain ⟨a1, c1, hd1, hk1, hb1, hb1'⟩ := dV_parts _ HK1.out
  obtain ⟨a2, c2, hd2, hk2, hb2, hb2'⟩ := dV_parts _ HK2.out
  have hp1 := fun w' (hb : Below w2.heap.size w2 w') => placeof_any kd cl q s s an ac m f f A P P w' (HG.out.o.i.later hb) (GP.out.later hb) (GP.out.later hb) ho
  have hp2 := fun w' (hb : Below w2.heap.size w2 w') => placeof_any kd cl q p r an ac m c e A R S w' (HG.out.o.i.later hb) (HG.out.b.i1.later hb) (HG.out.b.i2.later hb) ho
  rw [least_key ho, plV_parts _ hd1] at hp1
  rw [plV_parts _ hd2] at hp2
  have HR := Lib.hid (show pcmp a1 c1 (P.getD 0 0) a2 c2 (R.getD 0 0) < 0 ↔ beyP kd cl A R S P an m m m from by
    rw [pcmp_neg hk1 hk2 ⟨hb1, hb1'⟩ ⟨hb2, hb2'⟩]
    exact ⟨fun h => ⟨hr, rfl, h⟩, fun h => h.2.2⟩)
  have hcm := fun w' => compare_any a1 c1 (P.getD 0 0) a2 c2 (R.getD 0 0) w'
  generalize P.getD 0 0 = i at *
  generalize R.getD 0 0 = j at *
  obtain ⟨z, hz⟩ : ∃ z, z = pcmp a1 c1 i a2 c2 j := ⟨_, rfl⟩
  rw [← hz] at HR hcm
  have HC := Lib.hid (show ∀ w', Below w2.heap.size w2 w' → Calls Try.prog 45 #[.agg #[.int .u64 a1, .int .u64 c1, .int .i64 i], .agg #[.int .u64 a2, .int .u64 c2, .int .i64 j]] w' fun e w'' => e = .returned (.int .i64 z) ∧ Below w2.heap.size w2 w'' from fun w' hb => (hcm w').mono fun e w'' h => ⟨h.1, hb.trans (h.2.mono hb.size)⟩)
  have H1 := Lib.hid (show ∀ w', Below w2.heap.size w2 w' → Calls Try.prog 42 #[.agg #[.int .u8 kd, .int .i64 cl, .slice q an ac], .slice s m f, .slice s m f] w' fun e w'' => e = .returned (.agg #[.int .u64 a1, .int .u64 c1, .int .i64 i]) ∧ Below w2.heap.size w2 w'' from fun w' hb => (hp1 w' hb).mono fun e w'' h => ⟨h.1, hb.trans (h.2.mono hb.size)⟩)
  have H2 := Lib.hid (show ∀ w', Below w2.heap.size w2 w' → Calls Try.prog 42 #[.agg #[.int .u8 kd, .int .i64 cl, .slice q an ac], .slice p m c, .slice r m e] w' fun e w'' => e = .returned (.agg #[.int .u64 a2, .int .u64 c2, .int .i64 j]) ∧ Below w2.heap.size w2 w'' from fun w' hb => (hp2 w' hb).mono fun e w'' h => ⟨h.1, hb.trans (h.2.mono hb.size)⟩)
  have HF := Lib.hid (show ∀ w', Below w2.heap.size w2 w' → (Below w2.heap.size w2 w' ∧ w'.cell? ⟨w.heap.size, 0, none⟩ = some (.int .u8 kd) ∧ w'.cell? ⟨w.heap.size, 1, none⟩ = some (.int .i64 cl) ∧ w'.cell? ⟨w.heap.size, 2, none⟩ = some (.slice q an ac) ∧ w'.cell? ⟨w.heap.size + 1, 0, none⟩ = some (.slice p m c) ∧ w'.cell? ⟨w.heap.size + 1, 1, none⟩ = some (.slice r m e)) from fun w' hb => ⟨hb, (HG.out.later hb).o.cells.1, (HG.out.later hb).o.cells.2.1, (HG.out.later hb).o.cells.2.2, (HG.out.later hb).b.bx.facts.1, (HG.out.later hb).b.bx.facts.2.1⟩)
  have q1 : ((m : Int) != m) = false := by simp
  clear ho hl hr hr1 hz hcm hp1 hp2 hd1 hd2 hk1 hk2 hb1 hb1' hb2 hb2' HK1 HK2 d1 d2 d3 d4
  go_upto_region 3 with fail
  go_region_held3 (fun w' => Below w2.heap.size w2 w' ∧ w'.cell? ⟨w.heap.size, 0, none⟩ = some (.int .u8 kd) ∧ w'.cell? ⟨w.heap.size, 1, none⟩ = some (.int .i64 cl) ∧ w'.cell? ⟨w.heap.size, 2, none⟩ = some (.slice q an ac) ∧ w'.cell? ⟨w.heap.size + 1, 0, none⟩ = some (.slice p m c) ∧ w'.cell? ⟨w.heap.size + 1, 1, none⟩ = some (.slice r m e)) (first | assumption | exact HF.out _ (Below.drew (Below.refl _ _)) | exact HF.out _ (Below.refl _ _)) ((first
    | (go_at_call 42; (with_reducible refine (H1.out _ ?hx1).mono ?_); (case hx1 => first | assumption | exact (Below.refl _ _).drew | exact Below.refl _ _); rintro _ w5 ⟨rfl, hb5⟩; have k5 := HF.out _ hb5)
    | (go_at_call 42; (with_reducible refine (H2.out _ ?hx2).mono ?_); (case hx2 => first | assumption | exact (Below.refl _ _).drew | exact Below.refl _ _); rintro _ w6 ⟨rfl, hb6⟩; have k6 := HF.out _ hb6)
    | (go_at_call 45; (with_reducible refine (HC.out _ ?hx3).mono ?_); (case hx3 => first | assumption | exact (Below.refl _ _).drew | exact Below.refl _ _); rintro _ w7 ⟨rfl, hb7⟩; have k7 := HF.out _ hb7)))
  all_goals
    go_wp2_with fail
    go_ret
    exact ⟨ret_decB (by rw [decide_eq_true_eq]; exact HR.out), HG.out.o.below.trans (hb7.mono HG.out.o.below.size)⟩
end Go.Proofs.Ytnigfipjcnamfaa

/- Plain: the nearest point has the least key. -/
namespace Go.Proofs.Ytnigfipjcnamfaa
open Go.RowKit

theorem gap_near' (a r s : Int) (h : r ≤ s) : gap a r s = apart (min (max a r) s) a := by
  unfold gap apart
  repeat' split
  all_goals omega
/-- The nearest point has the least key. -/
theorem near_key {kd cl : Int} {A R S N : List Int} {an n : Nat} (ho : ordP kd cl an n) (hN : ∀ i, i < n → N.getD i 0 = nearAt kd cl A R S i) (hRS : les R S n = true) : keyI kd cl A N an n = leastI kd cl A R S an n := by
  have hRS := (les_iff R S n).1 hRS
  have ho' := ho
  unfold ordP at ho'
  unfold keyI leastI
  rw [if_pos ho]
  by_cases h3 : kd = 3
  · rw [if_pos h3, if_pos h3]
    have hd : an = n - 1 ∧ 1 ≤ an ∧ an ≤ 8 := by omega
    obtain ⟨rfl, e1, e2⟩ := hd
    unfold tbx btw
    rw [if_pos (show okP (n - 1) (n - 1) ∧ n - 1 = n - 1 from ⟨⟨e1, e2, rfl⟩, rfl⟩), if_pos (show okP (n - 1) (n - 1) from ⟨e1, e2, rfl⟩)]
    refine tot_congr' _ _ _ fun k hk => ?_
    rw [drop_getD, drop_getD, drop_getD, hN (k + 1) (by omega), gap_near' _ _ _ (hRS (k + 1) (by omega))]
    unfold nearAt
    rw [if_neg (by omega), if_pos h3, if_neg (by omega), Nat.add_sub_cancel]
  · rw [if_neg h3, if_neg h3]
    have hcl : cl.toNat < n := by omega
    have e1 := hN cl.toNat hcl
    unfold nearAt at e1
    by_cases h4 : kd = 2
    · rw [if_pos h4, if_pos (by omega)] at e1
      rw [if_pos h4, if_pos h4, e1]
    · rw [if_neg h4, if_neg h3] at e1
      rw [if_neg h4, if_neg h4, e1]
theorem beyond_is_ahead {kd cl : Int} {A R S P Q : List Int} {an n m : Nat} (ho : ordP kd cl an n) (hb : beyP kd cl A R S P an n m n) (hK : leastI kd cl A R S an n ≤ keyI kd cl A Q an n) (h0 : R.getD 0 0 ≤ Q.getD 0 0) : aheadP kd cl A P Q an n n := by
  obtain ⟨_, _, h⟩ := hb
  refine ⟨ho, ho, rfl, ?_⟩
  omega
end Go.Proofs.Ytnigfipjcnamfaa

/- ask.Past, and what it says. -/
namespace Go.Proofs.Ytnigfipjcnamfaa.Ak
open Go.RowKit

abbrev cutLo (R T : List Int) (n : Nat) : List Int := part (fun i => max (R.getD i 0) (T.getD i 0)) n n
abbrev cutHi (S U : List Int) (n : Nat) : List Int := part (fun i => min (S.getD i 0) (U.getD i 0)) n n
/-- Whether all that two boxes have is beyond a row. -/
def pastB (kd cl : Int) (A R S T U P : List Int) (an n m k l lp : Nat) : Bool :=
  if meetsB R S T U n m k l = true then decide (beyP kd cl A (cutLo R T n) (cutHi S U n) P an n n lp) else false
theorem bey_none (kd cl : Int) (A P : List Int) (an lp : Nat) : decide (beyP kd cl A [] [] P an 0 0 lp) = false := by
  refine decide_eq_false fun h => ?_
  have h1 := boundsB_ord h.1
  have := (rightB_dims h1.1).1
  omega
/-- A row that stands beyond what two boxes have is ahead of each point of both. -/
theorem past_ahead {kd cl : Int} {A R S T U P Q : List Int} {an n m k l lp lq : Nat} (h : pastB kd cl A R S T U P an n m k l lp = true) (h1 : hasB R S Q n m lq = true) (h2 : hasB T U Q k l lq = true) : ¬ aheadP kd cl A Q P an lq lp := by
  unfold pastB at h
  by_cases hm : meetsB R S T U n m k l = true
  case neg => rw [if_neg hm] at h; cases h
  rw [if_pos hm] at h
  have hb := of_decide_eq_true h
  obtain ⟨hr, ho⟩ := boundsB_ord hb.1
  have hlp := hb.2.1
  have r1 : rightB R S n m lq = true := by
    unfold hasB at h1
    exact (Bool.and_eq_true_iff.1 h1).1
  have r2 : rightB T U k l lq = true := by
    unfold hasB at h2
    exact (Bool.and_eq_true_iff.1 h2).1
  rw [hasB_right r1, Bool.and_eq_true_iff] at h1
  rw [hasB_right r2, Bool.and_eq_true_iff] at h2
  have d1 := rightB_dims r1
  obtain rfl : lq = n := by omega
  subst hlp
  have g1 : ∀ i, i < lp → (cutLo R T lp).getD i 0 = max (R.getD i 0) (T.getD i 0) := fun i hi => by rw [part_get _ _ _ _ hi, if_pos hi]
  have g2 : ∀ i, i < lp → (cutHi S U lp).getD i 0 = min (S.getD i 0) (U.getD i 0) := fun i hi => by rw [part_get _ _ _ _ hi, if_pos hi]
  obtain ⟨a1, a2⟩ := h1
  obtain ⟨a3, a4⟩ := h2
  rw [les_iff] at a1 a2 a3 a4
  have e1 : les (cutLo R T lp) Q lp = true := (les_iff _ _ _).2 fun i hi => by
    rw [g1 i hi]
    have := a1 i hi
    have := a3 i hi
    omega
  have e2 : les Q (cutHi S U lp) lp = true := (les_iff _ _ _).2 fun i hi => by
    rw [g2 i hi]
    have := a2 i hi
    have := a4 i hi
    omega
  have e3 : les (cutLo R T lp) (cutHi S U lp) lp = true := (les_iff _ _ _).2 fun i hi => Int.le_trans ((les_iff _ _ _).1 e1 i hi) ((les_iff _ _ _).1 e2 i hi)
  have hN : ∀ i, i < lp → (part (fun i => nearAt kd cl A (cutLo R T lp) (cutHi S U lp) i) lp lp).getD i 0 = nearAt kd cl A (cutLo R T lp) (cutHi S U lp) i := fun i hi => by rw [part_get _ _ _ _ hi, if_pos hi]
  have hle : leastI kd cl A (cutLo R T lp) (cutHi S U lp) an lp ≤ keyI kd cl A Q an lp := by
    rw [← near_key ho hN e3]
    exact near_least ho hN e1 e2
  have hah := beyond_is_ahead ho hb hle ((les_iff _ _ _).1 e1 0 (by omega))
  intro hq
  have x1 := hah.2.2.2
  have x2 := hq.2.2.2
  omega
set_option maxRecDepth 100000 in
set_option maxHeartbeats 2000000 in
theorem past_any (p q a s t x r : Option Addr) (n c m e an ac k f l h xn xc lp rc : Nat) (R S A T U P : List Int) (kd cl lim lv : Int) (cnt : Bool) (K : Array Value) (w : World) (hR : Ints w p n c R) (hS : Ints w q m e S) (hA : Ints w a an ac A) (hK : KOk K s k f t l h lv x xn xc) (hT : Ints w s k f T) (hU : Ints w t l h U) (hP : Ints w r lp rc P) :
    Calls Try.prog 14 #[.agg #[.slice p n c, .slice q m e, .int .u8 kd, .int .i64 cl, .slice a an ac, .int .i64 lim, .bool cnt], .agg K, .slice r lp rc] w fun e w' => e = .returned (.bool (pastB kd cl A R S T U P an n m k l lp)) ∧ Below w.heap.size w w' := by
  obtain ⟨w2, hw2⟩ : ∃ w2, w2 = (w.alloc (.cells #[.slice p n c, .slice q m e, .int .u8 kd, .int .i64 cl, .slice a an ac, .int .i64 lim, .bool cnt] 29)).alloc (.cells K 44) := ⟨_, rfl⟩
  obtain ⟨hq, hk, -⟩ := two_in (kd := kd) (cl := cl) (lim := lim) (cnt := cnt) hR hS hA hK hT hU w2 hw2
  obtain ⟨g, hg⟩ : ∃ g, g = w.heap.size := ⟨_, rfl⟩
  go_enter Try.func14, Try.ntmps14
  go_upto_region 1 with fail
  rw [← hw2]
  have HP := Lib.hid (hP.later hq.below)
  rw [← hg] at hq hk ⊢
  clear hw2 hg hR hS hA hT hU hP
  have HQ := Lib.hid hq
  have HK := Lib.hid hk
  clear hq hk
  obtain ⟨x0, x1, -, -, -, -, -⟩ := HQ.out.cells
  obtain ⟨y0, y1, -, -⟩ := HK.out.cells
  go_wp2_with fail
  refine (cut_any p q s t n c m e k f l h R S T U w2 HQ.out.lo HQ.out.hi HK.out.lo HK.out.hi).mono ?_
  intro e3 w3 hc
  unfold CutPost at hc
  by_cases hm : meetsB R S T U n m k l = true
  · rw [if_pos hm] at hc
    obtain ⟨v, rfl, g1, g2, rfl, hi1, hi2, hb3⟩ := hc
    have HV := Lib.hid (show pastB kd cl A R S T U P an n m k l lp = decide (beyP kd cl A (cutLo R T n) (cutHi S U n) P an n n lp) from by unfold pastB; rw [if_pos hm])
    have HQ3 := Lib.hid (HQ.out.later hb3)
    have HP3 := Lib.hid (HP.out.later hb3)
    have HI1 := Lib.hid hi1
    have HI2 := Lib.hid hi2
    clear hb3 HQ HK HP x0 x1 y0 y1 hi1 hi2 hm
    go_upto_region 2 with fail
    have b4 : Below w3.heap.size w3 (w3.alloc (.cells #[.slice (some ⟨g1, 0, none⟩) n n, .slice (some ⟨g2, 0, none⟩) n n] 25)) := (Below.refl _ _).alloc (Nat.le_refl _) _
    have a4 := Bx.fresh w3 (.slice (some ⟨g1, 0, none⟩) n n) (.slice (some ⟨g2, 0, none⟩) n n)
    generalize w3.alloc (.cells #[.slice (some ⟨g1, 0, none⟩) n n, .slice (some ⟨g2, 0, none⟩) n n] 25) = w4 at *
    have HQ4 := Lib.hid (HQ3.out.later b4)
    have HBY := Lib.hid (beyond_any kd cl a _ _ r an ac n n n n lp rc A (cutLo R T n) (cutHi S U n) P w4 HQ4.out.at' (HI1.out.later b4) (HI2.out.later b4) (HP3.out.later b4))
    obtain ⟨-, -, x2, x3, x4, -, -⟩ := HQ4.out.cells
    obtain ⟨y0, y1, -, -⟩ := a4.facts
    clear b4 a4 HQ3 HP3 HI1 HI2
    go_wp2_with fail
    refine HBY.out.mono ?_
    rintro _ w5 ⟨rfl, hb5⟩
    have hb := HQ4.out.below.trans (hb5.mono HQ4.out.below.size)
    go_wp2_with fail
    go_ret
    exact ⟨congrArg (fun b => Ending.returned (.bool b)) HV.out.symm, hb⟩
  · rw [if_neg hm] at hc
    obtain ⟨rfl, hb3⟩ := hc
    have HV := Lib.hid (show pastB kd cl A R S T U P an n m k l lp = decide (beyP kd cl A [] [] P an 0 0 lp) from by unfold pastB; rw [if_neg hm, bey_none])
    have HQ3 := Lib.hid (HQ.out.later hb3)
    have HP3 := Lib.hid (HP.out.later hb3)
    clear hb3 HQ HK HP x0 x1 y0 y1 hm
    go_upto_region 2 with fail
    have b4 : Below w3.heap.size w3 (w3.alloc (.cells #[.slice none 0 0, .slice none 0 0] 25)) := (Below.refl _ _).alloc (Nat.le_refl _) _
    have a4 := Bx.fresh w3 (.slice none 0 0) (.slice none 0 0)
    generalize w3.alloc (.cells #[.slice none 0 0, .slice none 0 0] 25) = w4 at *
    have HQ4 := Lib.hid (HQ3.out.later b4)
    have HBY := Lib.hid (beyond_any kd cl a none none r an ac 0 0 0 0 lp rc A [] [] P w4 HQ4.out.at' (nil_ints w4) (nil_ints w4) (HP3.out.later b4))
    obtain ⟨-, -, x2, x3, x4, -, -⟩ := HQ4.out.cells
    obtain ⟨y0, y1, -, -⟩ := a4.facts
    clear b4 a4 HQ3 HP3
    go_wp2_with fail
    refine HBY.out.mono ?_
    rintro _ w5 ⟨rfl, hb5⟩
    have hb := HQ4.out.below.trans (hb5.mono HQ4.out.below.size)
    go_wp2_with fail
    go_ret
    exact ⟨congrArg (fun b => Ending.returned (.bool b)) HV.out.symm, hb⟩
end Go.Proofs.Ytnigfipjcnamfaa.Ak
