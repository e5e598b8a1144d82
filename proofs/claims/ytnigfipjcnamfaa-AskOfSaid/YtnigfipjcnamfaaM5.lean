/- BoxRefSort, BoxSortsA, AkPlain, AkIndex. -/
import Derived.Test.YtnigfipjcnamfaaM4
import Derived.Lib.SliceRun
/- indentureref04.Sort. -/
namespace Go.Proofs.Ytnigfipjcnamfaa
open Go.RowKit

/-- Headers of rows, by their places. -/
def hv (LR : List Rw) (l : List Nat) : List Value := l.map fun j => (LR.getD j default).val
theorem hv_append (LR : List Rw) (a b : List Nat) : hv LR (a ++ b) = hv LR a ++ hv LR b := by simp [hv]
theorem hv_length (LR : List Rw) (l : List Nat) : (hv LR l).length = l.length := by simp [hv]
theorem hv_one (LR : List Rw) (l : List Nat) : ∀ u ∈ hv LR l, u.oneCell' = true := by
  intro u hu
  simp only [hv, List.mem_map] at hu
  obtain ⟨x, _, rfl⟩ := hu
  rfl
def rowsOf (LR : List Rw) (l : List Nat) : List Rw := l.map fun j => LR.getD j default
theorem rowsOf_get (LR : List Rw) (l : List Nat) (i : Nat) (h : i < l.length) : (rowsOf LR l).getD i default = LR.getD (l.getD i 0) default := by
  simp [rowsOf, List.getD_eq_getElem?_getD, h]
theorem rows_of_owns {w : World} {base n : Nat} {v : Value} {LR : List Rw} {l : List Nat} (h : w.ownsRow base 23 1 v n (hv LR l)) (hok : ∀ j ∈ l, (LR.getD j default).Ok w) : ∃ q c, v = .slice q n c ∧ RowsIn w q n c (rowsOf LR l) := by
  have hl : n = l.length := by have := h.1; rw [hv_length, Nat.mul_one] at this; exact this.symm
  have hl2 : n = (rowsOf LR l).length := by rw [hl]; simp [rowsOf]
  have hok2 : ∀ t ∈ rowsOf LR l, t.Ok w := fun t ht => by
    simp only [rowsOf, List.mem_map] at ht
    obtain ⟨j, hj, rfl⟩ := ht
    exact hok j hj
  rcases h.2 with ⟨rfl, h0⟩ | ⟨g, cap, cur, rfl, hb, hg, hle, hm, hs, ht⟩
  · subst h0
    exact ⟨none, 0, rfl, hl2, Nat.le_refl _, hok2, Or.inl (List.length_eq_zero_iff.1 hl2.symm)⟩
  · refine ⟨_, cap, rfl, hl2, hle, hok2, Or.inr ⟨g, 0, rfl, fun i hi => ?_⟩⟩
    have hi' : i < l.length := by rw [← hl, hl2]; exact hi
    rw [Nat.zero_add, cell_of_row w g i cur _ _ hg, rowsOf_get LR l i hi']
    have e : (cur.toList.take (n * 1))[i]? = (hv LR l)[i]? := by rw [ht]
    rw [List.getElem?_take_of_lt (by omega)] at e
    simp [hv, List.getElem?_eq_getElem hi'] at e
    rw [e]
    simp [List.getD_eq_getElem?_getD, List.getElem?_eq_getElem hi']
/-- Whether a row is ahead of another one, by their places. -/
def ahB (kd cl : Int) (A : List Int) (an : Nat) (LR : List Rw) (i j : Nat) : Bool := decide (aheadP kd cl A (LR.getD i default).R (LR.getD j default).R an (LR.getD i default).n (LR.getD j default).n)
theorem getD_Ok {w : World} {p : Option Addr} {n c : Nat} {LR : List Rw} (h : RowsIn w p n c LR) (i : Nat) (hi : i < n) : (LR.getD i default).Ok w := by
  obtain ⟨_, _, _, _, h2⟩ := h.cell i hi
  exact h2
/-- The program's order is that one. -/
theorem ahB_elt {kd cl : Int} {A : List Int} {an n c : Nat} {p : Option Addr} {LR : List Rw} {w : World} (hA : ∀ x ∈ A, -9223372036854775808 ≤ x ∧ x ≤ 9223372036854775807) (hL : RowsIn w p n c LR) (i j : Nat) (hi : i < n) (hj : j < n) (gi : goodRow kd cl an LR i) (gj : goodRow kd cl an LR j) : ahB kd cl A an LR i j = elt (elsOf kd cl A an LR) i j := by
  have oi := getD_Ok hL i hi
  have oj := getD_Ok hL j hj
  have ki := key_bound kd cl A (LR.getD i default).R an (LR.getD i default).n hA oi.ints.ok
  have kj := key_bound kd cl A (LR.getD j default).R an (LR.getD j default).n hA oj.ints.ok
  rw [Bool.eq_iff_iff, elt_true, elsOf_getD kd cl A an LR i (by rw [← hL.size]; exact hi), elsOf_getD kd cl A an LR j (by rw [← hL.size]; exact hj)]
  unfold ahB elOf
  rw [decide_eq_true_iff]
  unfold aheadP
  simp only
  have e : (LR.getD i default).n = (LR.getD j default).n := gi.2.trans gj.2.symm
  have pi := gi.1
  have pj := gj.1
  generalize keyI kd cl A (LR.getD i default).R an (LR.getD i default).n = x at *
  generalize keyI kd cl A (LR.getD j default).R an (LR.getD j default).n = y at *
  generalize (LR.getD i default).R.getD 0 0 = u at *
  generalize (LR.getD j default).R.getD 0 0 = v at *
  constructor
  · rintro ⟨-, -, -, h⟩
    omega
  · intro h
    exact ⟨pi, pj, e, by omega⟩
theorem hv_new {LR : List Rw} {m : Nat} {tp : Option Addr} {tn tc : Nat} {tR : List Int} {w : World} (h : (LR.getD m default).val = Rw.val ⟨tp, tn, tc, tR⟩) : ∀ j u, (hv LR [m])[j]? = some u → (w.alloc (.cells #[.slice tp tn tc] 23)).cell? ((⟨w.heap.size, 0, none⟩ : Addr).add j) = some u := fun j u hu => by
  have hj : j = 0 := by have := (List.getElem?_eq_some_iff.1 hu).1; simp [hv] at this; omega
  subst hj
  simp [hv, -List.getD_eq_getElem?_getD] at hu
  rw [h] at hu
  rw [Addr.add_mid, ← hu]
  exact cell_of_row _ _ 0 _ _ (0, 0) (heap_alloc_new w _)
theorem hv_tail {w : World} {g o n c : Nat} {LR : List Rw} {l : List Nat} (h : RowsIn w (some ⟨g, o, none⟩) n c (rowsOf LR l)) (j : Nat) : ∀ i u, (hv LR (l.drop j))[i]? = some u → w.cell? ((⟨g, o + j, none⟩ : Addr).add i) = some u := fun i u hu => by
  have hi : i < (l.drop j).length := by have := (List.getElem?_eq_some_iff.1 hu).1; rw [hv_length] at this; exact this
  rw [List.length_drop] at hi
  rcases h.at' with h0 | ⟨g', o', hp, hx⟩
  · have := congrArg List.length h0
    simp [rowsOf] at this
    rw [this] at hi
    simp at hi
  · simp only [Option.some.injEq, Addr.mk.injEq, and_true] at hp
    obtain ⟨rfl, rfl⟩ := hp
    have := hx (j + i) (by simp [rowsOf]; omega)
    rw [rowsOf_get LR l _ (by omega)] at this
    rw [Addr.add_mid, Nat.add_assoc, this]
    have h2 : j + i < l.length := by omega
    simp [hv, List.getElem?_drop, h2, -List.getD_eq_getElem?_getD] at hu
    have e : l.getD (j + i) 0 = l[j + i] := by simp [List.getD_eq_getElem?_getD, h2]
    rw [← hu, e]
theorem ownsR_later {w w' : World} {base : Nat} {v : Value} {n : Nat} {xs : List Value} (h : w.ownsRow base 23 1 v n xs) (hb : Below w.heap.size w w') : w'.ownsRow base 23 1 v n xs := by
  obtain ⟨h1, h2⟩ := h
  refine ⟨h1, h2.imp id ?_⟩
  rintro ⟨g, cap, cur, hv, hg, hh, r⟩
  exact ⟨g, cap, cur, hv, hg, (hb.block _ (Array.getElem?_eq_some_iff.1 hh).1).trans hh, r⟩
theorem ownsR_base {w : World} {b b' : Nat} {v : Value} {n : Nat} {xs : List Value} (h : w.ownsRow b 23 1 v n xs) (hb : b' ≤ b) : w.ownsRow b' 23 1 v n xs :=
  ⟨h.1, h.2.imp id fun ⟨g, cap, cur, hv, hl, r⟩ => ⟨g, cap, cur, hv, Nat.le_trans hb hl, r⟩⟩
theorem take_snocN (l : List Nat) (j : Nat) (h : j < l.length) : l.take j ++ [l.getD j 0] = l.take (j + 1) := by
  rw [List.take_succ_eq_append_getElem h, List.getD_eq_getElem?_getD, List.getElem?_eq_getElem h]; rfl
theorem I23x : (Try.prog.info? 23).map (fun i => (i.zero, i.size, i.bytes)) = some (some (.slice none 0 0), 1, 24) := by kernel_rfl
def RS1 (kd cl : Int) (an n : Nat) (LR : List Rw) (w1 : World) (i : Value) (wr : World) : Prop := ∃ k : Nat, k ≤ n ∧ i = .int .i64 k ∧ (∀ j, j < k → goodRow kd cl an LR j) ∧ Below w1.heap.size w1 wr
def RS2 (kd cl : Int) (A : List Int) (an n : Nat) (LR : List Rw) (w1 : World) (v i : Value) (wr : World) : Prop := ∃ k : Nat, k ≤ n ∧ i = .int .i64 k ∧ wr.ownsRow w1.heap.size 23 1 v k (hv LR (St.refS (ahB kd cl A an LR) k)) ∧ (k = 0 → v = .slice none 0 0) ∧ Below w1.heap.size w1 wr
def RS3 (kd cl : Int) (A : List Int) (an : Nat) (LR : List Rw) (w1 : World) (i : Nat) (l : List Nat) (v k : Value) (wr : World) : Prop := ∃ j : Nat, j ≤ l.length ∧ k = .int .i64 j ∧ wr.ownsRow w1.heap.size 23 1 v j (hv LR (l.take j)) ∧ (∀ t, t < j → ahB kd cl A an LR i (l.getD t 0) = false) ∧ Below w1.heap.size w1 wr
theorem rfl_refS {lt : Nat → Nat → Bool} {l : List Nat} {m : Nat} (h : l = St.refS lt m) : St.refS lt (m + 1) = St.ins lt m l := by rw [h]; rfl
theorem rs2_next {kd cl : Int} {A : List Int} {an n m j x : Nat} {LR : List Rw} {w1 w2 w' : World} {v : Value} {l : List Nat} (hl : l.length = m) (hj : j ≤ l.length) (hi : St.refS (ahB kd cl A an LR) (m + 1) = l.take j ++ m :: l.drop j)
    (ho : w'.ownsRow w2.heap.size 23 1 v x (hv LR (l.take j ++ [m] ++ l.drop j))) (hx : x = m + 1) (hm : m < n) (hb : Below w2.heap.size w2 w') (hb1 : Below w1.heap.size w1 w2) : RS2 kd cl A an n LR w1 v (.int .i64 ((m : Int) + 1)) w' := by
  subst hx
  refine ⟨m + 1, by omega, by go_num, ?_, fun h => by omega, hb1.trans (hb.mono hb1.size)⟩
  rw [hi]
  rw [List.append_assoc, List.singleton_append] at ho
  exact ownsR_base ho hb1.size
def RSortPost (kd cl : Int) (A : List Int) (an n : Nat) (LR : List Rw) (w : World) (e : Ending) (w' : World) : Prop :=
  if ∀ k, k < n → goodRow kd cl an LR k then ∃ q c, e = .returned (.slice q n c) ∧ RowsIn w' q n c (rowsOf LR (St.refS (ahB kd cl A an LR) n)) ∧ Below w.heap.size w w'
  else e = .returned (.slice none 0 0) ∧ Below w.heap.size w w'
theorem rsort_bad {kd cl : Int} {A : List Int} {an n : Nat} {LR : List Rw} {w w' : World} (k : Nat) (hk : k < n) (h : ¬ goodRow kd cl an LR k) (hb : Below w.heap.size w w') : RSortPost kd cl A an n LR w (.returned (.slice none 0 0)) w' := by
  unfold RSortPost
  rw [if_neg (fun h' => h (h' k hk))]
  exact ⟨rfl, hb⟩
set_option maxRecDepth 100000 in
set_option maxHeartbeats 4000000 in
theorem refsort_any (kd cl : Int) (q p : Option Addr) (an ac n c : Nat) (A : List Int) (LR : List Rw) (w : World) (hA : Ints w q an ac A) (hL : RowsIn w p n c LR) (hn : n ≤ 100) :
    Calls Try.prog 28 #[.agg #[.int .u8 kd, .int .i64 cl, .slice q an ac], .slice p n c] w (RSortPost kd cl A an n LR w) := by
  obtain ⟨i23, hi, hi0, hi1, hi2⟩ := info_parts I23x
  have HI := Lib.hid hi
  have HI0 := Lib.hid hi0
  have HI1 := Lib.hid hi1
  have HI2 := Lib.hid hi2
  clear hi hi0 hi1 hi2
  have ho := ord_in (kd := kd) (cl := cl) hA
  obtain ⟨w1, hw1⟩ : ∃ w1, w1 = w.alloc (.cells #[.int .u8 kd, .int .i64 cl, .slice q an ac] 27) := ⟨_, rfl⟩
  go_enter Try.func28, Try.ntmps28
  go_upto_region 1 with fail
  rw [← hw1] at ho ⊢
  have O1 := Lib.hid ho
  have L1 := Lib.hid (hL.later ho.below)
  clear ho hA hL hw1
  go_wp2_with fail
  go_loopw [6] (fun i wr => RS1 kd cl an n LR w1 i wr) (fun i _ => n - (intOf i).toNat)
  case atStart => exact ⟨0, by omega, rfl, fun j hj => by omega, Below.refl _ _⟩
  case round =>
    obtain ⟨k, hk, rfl, hgood, hbw⟩ := hrel
    have HGD := Lib.hid hgood
    have HBW := Lib.hid hbw
    have O3 := Lib.hid (O1.out.later hbw)
    have L3 := Lib.hid (L1.out.later hbw)
    clear hgood hbw
    by_cases hlt : k < n
    · obtain ⟨gL, oL, rfl, hck, hok⟩ := L3.out.cell k hlt
      obtain ⟨gL', oL', hgL, hc0, hok0⟩ := L3.out.cell 0 (by omega)
      simp only [Option.some.injEq, Addr.mk.injEq, and_true] at hgL
      obtain ⟨rfl, rfl⟩ := hgL
      rw [Nat.add_zero] at hc0
      have i1 : (0 : Int) ≤ k ∧ (k : Int) < n := by omega
      have i0 : 0 < n := by omega
      obtain ⟨t, ht⟩ : ∃ t, t = LR.getD k default := ⟨_, rfl⟩
      obtain ⟨t0, ht0⟩ : ∃ t, t = LR.getD 0 default := ⟨_, rfl⟩
      have hgoodk : goodRow kd cl an LR k ↔ ordP kd cl an t.n ∧ t.n = t0.n := by unfold goodRow; rw [← ht, ← ht0]
      rw [← ht] at hck hok
      rw [← ht0] at hc0 hok0
      have HGK := Lib.hid hgoodk
      obtain ⟨tp, tn, tc, tR⟩ := t
      obtain ⟨sp, sn, sc, sR⟩ := t0
      unfold Rw.val at hck hc0
      simp only at hck hc0
      obtain ⟨x0, x1, x2⟩ := O3.out.cells
      clear hok hok0 hgoodk ht ht0
      have hF : ∀ w', Below wr.heap.size wr w' → (w'.cell? ⟨w.heap.size, 0, none⟩ = some (.int .u8 kd) ∧ w'.cell? ⟨w.heap.size, 1, none⟩ = some (.int .i64 cl) ∧ w'.cell? ⟨w.heap.size, 2, none⟩ = some (.slice q an ac) ∧ w'.cell? ⟨gL, oL + k, none⟩ = some (.slice tp tn tc) ∧ w'.cell? ⟨gL, oL, none⟩ = some (.slice sp sn sc)) := fun w' hb => ⟨(hb.cell (p := ⟨w.heap.size, 0, none⟩) (block_lt_of_cell x0)).trans x0, (hb.cell (p := ⟨w.heap.size, 1, none⟩) (block_lt_of_cell x1)).trans x1, (hb.cell (p := ⟨w.heap.size, 2, none⟩) (block_lt_of_cell x2)).trans x2, (hb.cell (p := ⟨gL, oL + k, none⟩) (block_lt_of_cell hck)).trans hck, (hb.cell (p := ⟨gL, oL, none⟩) (block_lt_of_cell hc0)).trans hc0⟩
      have HF := Lib.hid hF
      have H := Lib.hid (show ∀ w', Below wr.heap.size wr w' → Calls Try.prog 20 #[.agg #[.int .u8 kd, .int .i64 cl, .slice q an ac], .int .i64 tn] w' fun e w'' => e = .returned (.bool (decide (ordP kd cl an tn))) ∧ Below wr.heap.size wr w'' from fun w' hb => (refordright_any kd cl tn q an ac w').mono fun e w'' h => ⟨h.1, hb.trans (h.2.mono hb.size)⟩)
      clear hF x0 x1 x2 hck hc0
      go_upto_region 5 with fail
      by_cases hP : ordP kd cl an tn
      · have hc := H.out
        rw [decide_eq_true hP] at hc
        have HC := Lib.hid hc
        have HP := Lib.hid hP
        clear hc hP H
        by_cases hs : (tn : Int) = sn
        · have q1 : ((tn : Int) != sn) = false := by simpa using hs
          have HSN := Lib.hid hs
          clear hs
          refine wp_region_held_drew (S := fun w' => Below wr.heap.size wr w') (by kernel_rfl) (Below.refl _ _).drew (fun hHeld => ?_)
          refine wpAnyH_take (i := 0) (oi := ⟨some 16, .load 27 (.tmp 2), _, _, _, _⟩) (v := ?_) rfl (by kernel_rfl) (by kernel_rfl) (by kernel_rfl) (fun _ _ _ h => h) (Or.inl ⟨by rfl, ?_⟩) (by assumption) ?_
          rotate_left
          · intro w' hSw
            obtain ⟨y0, y1, y2, yk, yc⟩ := HF.out _ hSw
            go_simp
            try with_reducible rfl
          try simp only [Act.put, List.setIfInBounds_toArray, List.set_cons_zero, List.set_cons_succ]
          refine wpAnyH_take (i := 1) (oi := ⟨some 17, .move (.tmp 1), _, _, _, _⟩) (v := ?_) rfl (by kernel_rfl) (by kernel_rfl) (by kernel_rfl) (fun _ _ _ h => h) (Or.inl ⟨by rfl, ?_⟩) (by assumption) ?_
          rotate_left
          · intro w' hSw
            obtain ⟨y0, y1, y2, yk, yc⟩ := HF.out _ hSw
            go_simp
            try with_reducible rfl
          try simp only [Act.put, List.setIfInBounds_toArray, List.set_cons_zero, List.set_cons_succ]
          refine wpAnyH_take (i := 2) (oi := ⟨some 18, .move (.tmp 6), _, _, _, _⟩) (v := ?_) rfl (by kernel_rfl) (by kernel_rfl) (by kernel_rfl) (fun _ _ _ h => h) (Or.inl ⟨by rfl, ?_⟩) (by assumption) ?_
          rotate_left
          · intro w' hSw
            obtain ⟨y0, y1, y2, yk, yc⟩ := HF.out _ hSw
            go_simp
            try with_reducible rfl
          try simp only [Act.put, List.setIfInBounds_toArray, List.set_cons_zero, List.set_cons_succ]
          refine wpAnyH_take (i := 3) (oi := ⟨some 19, .indexAddr 30 (.tmp 17) (.tmp 18), _, _, _, _⟩) (v := ?_) rfl (by kernel_rfl) (by kernel_rfl) (by kernel_rfl) (fun _ _ _ h => h) (Or.inl ⟨by rfl, ?_⟩) (by assumption) ?_
          rotate_left
          · intro w' hSw
            obtain ⟨y0, y1, y2, yk, yc⟩ := HF.out _ hSw
            go_simp
            try with_reducible rfl
          try simp only [Act.put, List.setIfInBounds_toArray, List.set_cons_zero, List.set_cons_succ]
          refine wpAnyH_take (i := 4) (oi := ⟨some 20, .load 23 (.tmp 19), _, _, _, _⟩) (v := ?_) rfl (by kernel_rfl) (by kernel_rfl) (by kernel_rfl) (fun _ _ _ h => h) (Or.inl ⟨by rfl, ?_⟩) (by assumption) ?_
          rotate_left
          · intro w' hSw
            obtain ⟨y0, y1, y2, yk, yc⟩ := HF.out _ hSw
            go_simp
            try with_reducible rfl
          try simp only [Act.put, List.setIfInBounds_toArray, List.set_cons_zero, List.set_cons_succ]
          refine wpAnyH_take (i := 5) (oi := ⟨some 21, .call ⟨.builtin .len, #[.tmp 20], #[23]⟩, _, _, _, _⟩) (v := ?_) rfl (by kernel_rfl) (by kernel_rfl) (by kernel_rfl) (fun _ _ _ h => h) (Or.inl ⟨by rfl, ?_⟩) (by assumption) ?_
          rotate_left
          · intro w' hSw
            obtain ⟨y0, y1, y2, yk, yc⟩ := HF.out _ hSw
            go_simp
            try with_reducible rfl
          try simp only [Act.put, List.setIfInBounds_toArray, List.set_cons_zero, List.set_cons_succ]
          refine wpAnyH_ready (rs := [6]) (by kernel_rfl) (by simp) ?_
          refine AllReadyH.cons (o := ⟨some 22, .call ⟨.value (.func 20), #[.tmp 16, .tmp 21], #[27, 3]⟩, _, _, _, _⟩) rfl (fun K hK => ?_) AllReadyH.nil
          go_simp
          refine (HC.out _ hHeld).mono ?_
          rintro _ w5 ⟨rfl, hb5⟩
          try go_wp2_with fail
          refine hK.out _ _ hb5 (fun hHeld => ?_)
          clear hK K
          try simp only [Act.put, List.setIfInBounds_toArray, List.set_cons_zero, List.set_cons_succ]
          refine wpAnyH_take (i := 7) (oi := ⟨some 23, .unOp .not 4 (.tmp 22), _, _, _, _⟩) (v := ?_) rfl (by kernel_rfl) (by kernel_rfl) (by kernel_rfl) (fun _ _ _ h => h) (Or.inl ⟨by rfl, ?_⟩) (by assumption) ?_
          rotate_left
          · intro w' hSw
            obtain ⟨y0, y1, y2, yk, yc⟩ := HF.out _ hSw
            go_simp
            try with_reducible rfl
          try simp only [Act.put, List.setIfInBounds_toArray, List.set_cons_zero, List.set_cons_succ]
          refine wpAnyH_take (i := 8) (oi := ⟨some 24, .move (.tmp 23), _, _, _, _⟩) (v := ?_) rfl (by kernel_rfl) (by kernel_rfl) (by kernel_rfl) (fun _ _ _ h => h) (Or.inl ⟨by rfl, ?_⟩) (by assumption) ?_
          rotate_left
          · intro w' hSw
            obtain ⟨y0, y1, y2, yk, yc⟩ := HF.out _ hSw
            go_simp
            try with_reducible rfl
          try simp only [Act.put, List.setIfInBounds_toArray, List.set_cons_zero, List.set_cons_succ]
          refine wpAnyH_take (i := 9) (oi := ⟨some 25, .move (.tmp 1), _, _, _, _⟩) (v := ?_) rfl (by kernel_rfl) (by kernel_rfl) (by kernel_rfl) (fun _ _ _ h => h) (Or.inl ⟨by rfl, ?_⟩) (by assumption) ?_
          rotate_left
          · intro w' hSw
            obtain ⟨y0, y1, y2, yk, yc⟩ := HF.out _ hSw
            go_simp
            try with_reducible rfl
          try simp only [Act.put, List.setIfInBounds_toArray, List.set_cons_zero, List.set_cons_succ]
          refine wpAnyH_take (i := 10) (oi := ⟨some 26, .move (.tmp 6), _, _, _, _⟩) (v := ?_) rfl (by kernel_rfl) (by kernel_rfl) (by kernel_rfl) (fun _ _ _ h => h) (Or.inl ⟨by rfl, ?_⟩) (by assumption) ?_
          rotate_left
          · intro w' hSw
            obtain ⟨y0, y1, y2, yk, yc⟩ := HF.out _ hSw
            go_simp
            try with_reducible rfl
          try simp only [Act.put, List.setIfInBounds_toArray, List.set_cons_zero, List.set_cons_succ]
          refine wpAnyH_take (i := 14) (oi := ⟨some 30, .move (.tmp 1), _, _, _, _⟩) (v := ?_) rfl (by kernel_rfl) (by kernel_rfl) (by kernel_rfl) (fun _ _ _ h => h) (Or.inl ⟨by rfl, ?_⟩) (by assumption) ?_
          rotate_left
          · intro w' hSw
            obtain ⟨y0, y1, y2, yk, yc⟩ := HF.out _ hSw
            go_simp
            try with_reducible rfl
          try simp only [Act.put, List.setIfInBounds_toArray, List.set_cons_zero, List.set_cons_succ]
          refine wpAnyH_take (i := 11) (oi := ⟨some 27, .indexAddr 30 (.tmp 25) (.tmp 26), _, _, _, _⟩) (v := ?_) rfl (by kernel_rfl) (by kernel_rfl) (by kernel_rfl) (fun _ _ _ h => h) (Or.inl ⟨by rfl, ?_⟩) (by assumption) ?_
          rotate_left
          · intro w' hSw
            obtain ⟨y0, y1, y2, yk, yc⟩ := HF.out _ hSw
            go_simp
            try with_reducible rfl
          try simp only [Act.put, List.setIfInBounds_toArray, List.set_cons_zero, List.set_cons_succ]
          refine wpAnyH_take (i := 15) (oi := ⟨some 31, .indexAddr 30 (.tmp 30) (.const (.int .i64 0)), _, _, _, _⟩) (v := ?_) rfl (by kernel_rfl) (by kernel_rfl) (by kernel_rfl) (fun _ _ _ h => h) (Or.inl ⟨by rfl, ?_⟩) (by assumption) ?_
          rotate_left
          · intro w' hSw
            obtain ⟨y0, y1, y2, yk, yc⟩ := HF.out _ hSw
            go_simp
            try with_reducible rfl
          try simp only [Act.put, List.setIfInBounds_toArray, List.set_cons_zero, List.set_cons_succ]
          refine wpAnyH_take (i := 12) (oi := ⟨some 28, .load 23 (.tmp 27), _, _, _, _⟩) (v := ?_) rfl (by kernel_rfl) (by kernel_rfl) (by kernel_rfl) (fun _ _ _ h => h) (Or.inl ⟨by rfl, ?_⟩) (by assumption) ?_
          rotate_left
          · intro w' hSw
            obtain ⟨y0, y1, y2, yk, yc⟩ := HF.out _ hSw
            go_simp
            try with_reducible rfl
          try simp only [Act.put, List.setIfInBounds_toArray, List.set_cons_zero, List.set_cons_succ]
          refine wpAnyH_take (i := 16) (oi := ⟨some 32, .load 23 (.tmp 31), _, _, _, _⟩) (v := ?_) rfl (by kernel_rfl) (by kernel_rfl) (by kernel_rfl) (fun _ _ _ h => h) (Or.inl ⟨by rfl, ?_⟩) (by assumption) ?_
          rotate_left
          · intro w' hSw
            obtain ⟨y0, y1, y2, yk, yc⟩ := HF.out _ hSw
            go_simp
            try with_reducible rfl
          try simp only [Act.put, List.setIfInBounds_toArray, List.set_cons_zero, List.set_cons_succ]
          refine wpAnyH_take (i := 13) (oi := ⟨some 29, .call ⟨.builtin .len, #[.tmp 28], #[23]⟩, _, _, _, _⟩) (v := ?_) rfl (by kernel_rfl) (by kernel_rfl) (by kernel_rfl) (fun _ _ _ h => h) (Or.inl ⟨by rfl, ?_⟩) (by assumption) ?_
          rotate_left
          · intro w' hSw
            obtain ⟨y0, y1, y2, yk, yc⟩ := HF.out _ hSw
            go_simp
            try with_reducible rfl
          try simp only [Act.put, List.setIfInBounds_toArray, List.set_cons_zero, List.set_cons_succ]
          refine wpAnyH_take (i := 17) (oi := ⟨some 33, .call ⟨.builtin .len, #[.tmp 32], #[23]⟩, _, _, _, _⟩) (v := ?_) rfl (by kernel_rfl) (by kernel_rfl) (by kernel_rfl) (fun _ _ _ h => h) (Or.inl ⟨by rfl, ?_⟩) (by assumption) ?_
          rotate_left
          · intro w' hSw
            obtain ⟨y0, y1, y2, yk, yc⟩ := HF.out _ hSw
            go_simp
            try with_reducible rfl
          try simp only [Act.put, List.setIfInBounds_toArray, List.set_cons_zero, List.set_cons_succ]
          refine wpAnyH_take (i := 18) (oi := ⟨some 34, .binOp .neq 3 (.tmp 29) (.tmp 33) 3, _, _, _, _⟩) (v := ?_) rfl (by kernel_rfl) (by kernel_rfl) (by kernel_rfl) (fun _ _ _ h => h) (Or.inl ⟨by rfl, ?_⟩) (by assumption) ?_
          rotate_left
          · intro w' hSw
            obtain ⟨y0, y1, y2, yk, yc⟩ := HF.out _ hSw
            go_simp
            try with_reducible rfl
          try simp only [Act.put, List.setIfInBounds_toArray, List.set_cons_zero, List.set_cons_succ]
          refine wpAnyH_take (i := 19) (oi := ⟨some 35, .pick (.tmp 24) (.const (.bool true)) (.tmp 34), _, _, _, _⟩) (v := ?_) rfl (by kernel_rfl) (by kernel_rfl) (by kernel_rfl) (fun _ _ _ h => h) (Or.inl ⟨by rfl, ?_⟩) (by assumption) ?_
          rotate_left
          · intro w' hSw
            obtain ⟨y0, y1, y2, yk, yc⟩ := HF.out _ hSw
            go_simp
            try with_reducible rfl
          try simp only [Act.put, List.setIfInBounds_toArray, List.set_cons_zero, List.set_cons_succ]
          refine wpAnyH_done (by kernel_rfl) ?_ _
          have B5 := Lib.hid hb5
          clear hb5 q1
          go_wp2_with fail
          go_roundw
          case rel => exact ⟨k + 1, by omega, by go_num, fun j hj => by
            by_cases h : j = k
            · subst h; exact (HGK.out).2 ⟨HP.out, by exact_mod_cast HSN.out⟩
            · exact HGD.out j (by omega), HBW.out.trans (B5.out.mono HBW.out.size)⟩
          case measure => simp [intOf]; omega
        · have q1 : ((tn : Int) != sn) = true := by simpa using hs
          have HSN := Lib.hid hs
          clear hs
          refine wp_region_held_drew (S := fun w' => Below wr.heap.size wr w') (by kernel_rfl) (Below.refl _ _).drew (fun hHeld => ?_)
          refine wpAnyH_take (i := 0) (oi := ⟨some 16, .load 27 (.tmp 2), _, _, _, _⟩) (v := ?_) rfl (by kernel_rfl) (by kernel_rfl) (by kernel_rfl) (fun _ _ _ h => h) (Or.inl ⟨by rfl, ?_⟩) (by assumption) ?_
          rotate_left
          · intro w' hSw
            obtain ⟨y0, y1, y2, yk, yc⟩ := HF.out _ hSw
            go_simp
            try with_reducible rfl
          try simp only [Act.put, List.setIfInBounds_toArray, List.set_cons_zero, List.set_cons_succ]
          refine wpAnyH_take (i := 1) (oi := ⟨some 17, .move (.tmp 1), _, _, _, _⟩) (v := ?_) rfl (by kernel_rfl) (by kernel_rfl) (by kernel_rfl) (fun _ _ _ h => h) (Or.inl ⟨by rfl, ?_⟩) (by assumption) ?_
          rotate_left
          · intro w' hSw
            obtain ⟨y0, y1, y2, yk, yc⟩ := HF.out _ hSw
            go_simp
            try with_reducible rfl
          try simp only [Act.put, List.setIfInBounds_toArray, List.set_cons_zero, List.set_cons_succ]
          refine wpAnyH_take (i := 2) (oi := ⟨some 18, .move (.tmp 6), _, _, _, _⟩) (v := ?_) rfl (by kernel_rfl) (by kernel_rfl) (by kernel_rfl) (fun _ _ _ h => h) (Or.inl ⟨by rfl, ?_⟩) (by assumption) ?_
          rotate_left
          · intro w' hSw
            obtain ⟨y0, y1, y2, yk, yc⟩ := HF.out _ hSw
            go_simp
            try with_reducible rfl
          try simp only [Act.put, List.setIfInBounds_toArray, List.set_cons_zero, List.set_cons_succ]
          refine wpAnyH_take (i := 3) (oi := ⟨some 19, .indexAddr 30 (.tmp 17) (.tmp 18), _, _, _, _⟩) (v := ?_) rfl (by kernel_rfl) (by kernel_rfl) (by kernel_rfl) (fun _ _ _ h => h) (Or.inl ⟨by rfl, ?_⟩) (by assumption) ?_
          rotate_left
          · intro w' hSw
            obtain ⟨y0, y1, y2, yk, yc⟩ := HF.out _ hSw
            go_simp
            try with_reducible rfl
          try simp only [Act.put, List.setIfInBounds_toArray, List.set_cons_zero, List.set_cons_succ]
          refine wpAnyH_take (i := 4) (oi := ⟨some 20, .load 23 (.tmp 19), _, _, _, _⟩) (v := ?_) rfl (by kernel_rfl) (by kernel_rfl) (by kernel_rfl) (fun _ _ _ h => h) (Or.inl ⟨by rfl, ?_⟩) (by assumption) ?_
          rotate_left
          · intro w' hSw
            obtain ⟨y0, y1, y2, yk, yc⟩ := HF.out _ hSw
            go_simp
            try with_reducible rfl
          try simp only [Act.put, List.setIfInBounds_toArray, List.set_cons_zero, List.set_cons_succ]
          refine wpAnyH_take (i := 5) (oi := ⟨some 21, .call ⟨.builtin .len, #[.tmp 20], #[23]⟩, _, _, _, _⟩) (v := ?_) rfl (by kernel_rfl) (by kernel_rfl) (by kernel_rfl) (fun _ _ _ h => h) (Or.inl ⟨by rfl, ?_⟩) (by assumption) ?_
          rotate_left
          · intro w' hSw
            obtain ⟨y0, y1, y2, yk, yc⟩ := HF.out _ hSw
            go_simp
            try with_reducible rfl
          try simp only [Act.put, List.setIfInBounds_toArray, List.set_cons_zero, List.set_cons_succ]
          refine wpAnyH_ready (rs := [6]) (by kernel_rfl) (by simp) ?_
          refine AllReadyH.cons (o := ⟨some 22, .call ⟨.value (.func 20), #[.tmp 16, .tmp 21], #[27, 3]⟩, _, _, _, _⟩) rfl (fun K hK => ?_) AllReadyH.nil
          go_simp
          refine (HC.out _ hHeld).mono ?_
          rintro _ w5 ⟨rfl, hb5⟩
          try go_wp2_with fail
          refine hK.out _ _ hb5 (fun hHeld => ?_)
          clear hK K
          try simp only [Act.put, List.setIfInBounds_toArray, List.set_cons_zero, List.set_cons_succ]
          refine wpAnyH_take (i := 7) (oi := ⟨some 23, .unOp .not 4 (.tmp 22), _, _, _, _⟩) (v := ?_) rfl (by kernel_rfl) (by kernel_rfl) (by kernel_rfl) (fun _ _ _ h => h) (Or.inl ⟨by rfl, ?_⟩) (by assumption) ?_
          rotate_left
          · intro w' hSw
            obtain ⟨y0, y1, y2, yk, yc⟩ := HF.out _ hSw
            go_simp
            try with_reducible rfl
          try simp only [Act.put, List.setIfInBounds_toArray, List.set_cons_zero, List.set_cons_succ]
          refine wpAnyH_take (i := 8) (oi := ⟨some 24, .move (.tmp 23), _, _, _, _⟩) (v := ?_) rfl (by kernel_rfl) (by kernel_rfl) (by kernel_rfl) (fun _ _ _ h => h) (Or.inl ⟨by rfl, ?_⟩) (by assumption) ?_
          rotate_left
          · intro w' hSw
            obtain ⟨y0, y1, y2, yk, yc⟩ := HF.out _ hSw
            go_simp
            try with_reducible rfl
          try simp only [Act.put, List.setIfInBounds_toArray, List.set_cons_zero, List.set_cons_succ]
          refine wpAnyH_take (i := 9) (oi := ⟨some 25, .move (.tmp 1), _, _, _, _⟩) (v := ?_) rfl (by kernel_rfl) (by kernel_rfl) (by kernel_rfl) (fun _ _ _ h => h) (Or.inl ⟨by rfl, ?_⟩) (by assumption) ?_
          rotate_left
          · intro w' hSw
            obtain ⟨y0, y1, y2, yk, yc⟩ := HF.out _ hSw
            go_simp
            try with_reducible rfl
          try simp only [Act.put, List.setIfInBounds_toArray, List.set_cons_zero, List.set_cons_succ]
          refine wpAnyH_take (i := 10) (oi := ⟨some 26, .move (.tmp 6), _, _, _, _⟩) (v := ?_) rfl (by kernel_rfl) (by kernel_rfl) (by kernel_rfl) (fun _ _ _ h => h) (Or.inl ⟨by rfl, ?_⟩) (by assumption) ?_
          rotate_left
          · intro w' hSw
            obtain ⟨y0, y1, y2, yk, yc⟩ := HF.out _ hSw
            go_simp
            try with_reducible rfl
          try simp only [Act.put, List.setIfInBounds_toArray, List.set_cons_zero, List.set_cons_succ]
          refine wpAnyH_take (i := 14) (oi := ⟨some 30, .move (.tmp 1), _, _, _, _⟩) (v := ?_) rfl (by kernel_rfl) (by kernel_rfl) (by kernel_rfl) (fun _ _ _ h => h) (Or.inl ⟨by rfl, ?_⟩) (by assumption) ?_
          rotate_left
          · intro w' hSw
            obtain ⟨y0, y1, y2, yk, yc⟩ := HF.out _ hSw
            go_simp
            try with_reducible rfl
          try simp only [Act.put, List.setIfInBounds_toArray, List.set_cons_zero, List.set_cons_succ]
          refine wpAnyH_take (i := 11) (oi := ⟨some 27, .indexAddr 30 (.tmp 25) (.tmp 26), _, _, _, _⟩) (v := ?_) rfl (by kernel_rfl) (by kernel_rfl) (by kernel_rfl) (fun _ _ _ h => h) (Or.inl ⟨by rfl, ?_⟩) (by assumption) ?_
          rotate_left
          · intro w' hSw
            obtain ⟨y0, y1, y2, yk, yc⟩ := HF.out _ hSw
            go_simp
            try with_reducible rfl
          try simp only [Act.put, List.setIfInBounds_toArray, List.set_cons_zero, List.set_cons_succ]
          refine wpAnyH_take (i := 15) (oi := ⟨some 31, .indexAddr 30 (.tmp 30) (.const (.int .i64 0)), _, _, _, _⟩) (v := ?_) rfl (by kernel_rfl) (by kernel_rfl) (by kernel_rfl) (fun _ _ _ h => h) (Or.inl ⟨by rfl, ?_⟩) (by assumption) ?_
          rotate_left
          · intro w' hSw
            obtain ⟨y0, y1, y2, yk, yc⟩ := HF.out _ hSw
            go_simp
            try with_reducible rfl
          try simp only [Act.put, List.setIfInBounds_toArray, List.set_cons_zero, List.set_cons_succ]
          refine wpAnyH_take (i := 12) (oi := ⟨some 28, .load 23 (.tmp 27), _, _, _, _⟩) (v := ?_) rfl (by kernel_rfl) (by kernel_rfl) (by kernel_rfl) (fun _ _ _ h => h) (Or.inl ⟨by rfl, ?_⟩) (by assumption) ?_
          rotate_left
          · intro w' hSw
            obtain ⟨y0, y1, y2, yk, yc⟩ := HF.out _ hSw
            go_simp
            try with_reducible rfl
          try simp only [Act.put, List.setIfInBounds_toArray, List.set_cons_zero, List.set_cons_succ]
          refine wpAnyH_take (i := 16) (oi := ⟨some 32, .load 23 (.tmp 31), _, _, _, _⟩) (v := ?_) rfl (by kernel_rfl) (by kernel_rfl) (by kernel_rfl) (fun _ _ _ h => h) (Or.inl ⟨by rfl, ?_⟩) (by assumption) ?_
          rotate_left
          · intro w' hSw
            obtain ⟨y0, y1, y2, yk, yc⟩ := HF.out _ hSw
            go_simp
            try with_reducible rfl
          try simp only [Act.put, List.setIfInBounds_toArray, List.set_cons_zero, List.set_cons_succ]
          refine wpAnyH_take (i := 13) (oi := ⟨some 29, .call ⟨.builtin .len, #[.tmp 28], #[23]⟩, _, _, _, _⟩) (v := ?_) rfl (by kernel_rfl) (by kernel_rfl) (by kernel_rfl) (fun _ _ _ h => h) (Or.inl ⟨by rfl, ?_⟩) (by assumption) ?_
          rotate_left
          · intro w' hSw
            obtain ⟨y0, y1, y2, yk, yc⟩ := HF.out _ hSw
            go_simp
            try with_reducible rfl
          try simp only [Act.put, List.setIfInBounds_toArray, List.set_cons_zero, List.set_cons_succ]
          refine wpAnyH_take (i := 17) (oi := ⟨some 33, .call ⟨.builtin .len, #[.tmp 32], #[23]⟩, _, _, _, _⟩) (v := ?_) rfl (by kernel_rfl) (by kernel_rfl) (by kernel_rfl) (fun _ _ _ h => h) (Or.inl ⟨by rfl, ?_⟩) (by assumption) ?_
          rotate_left
          · intro w' hSw
            obtain ⟨y0, y1, y2, yk, yc⟩ := HF.out _ hSw
            go_simp
            try with_reducible rfl
          try simp only [Act.put, List.setIfInBounds_toArray, List.set_cons_zero, List.set_cons_succ]
          refine wpAnyH_take (i := 18) (oi := ⟨some 34, .binOp .neq 3 (.tmp 29) (.tmp 33) 3, _, _, _, _⟩) (v := ?_) rfl (by kernel_rfl) (by kernel_rfl) (by kernel_rfl) (fun _ _ _ h => h) (Or.inl ⟨by rfl, ?_⟩) (by assumption) ?_
          rotate_left
          · intro w' hSw
            obtain ⟨y0, y1, y2, yk, yc⟩ := HF.out _ hSw
            go_simp
            try with_reducible rfl
          try simp only [Act.put, List.setIfInBounds_toArray, List.set_cons_zero, List.set_cons_succ]
          refine wpAnyH_take (i := 19) (oi := ⟨some 35, .pick (.tmp 24) (.const (.bool true)) (.tmp 34), _, _, _, _⟩) (v := ?_) rfl (by kernel_rfl) (by kernel_rfl) (by kernel_rfl) (fun _ _ _ h => h) (Or.inl ⟨by rfl, ?_⟩) (by assumption) ?_
          rotate_left
          · intro w' hSw
            obtain ⟨y0, y1, y2, yk, yc⟩ := HF.out _ hSw
            go_simp
            try with_reducible rfl
          try simp only [Act.put, List.setIfInBounds_toArray, List.set_cons_zero, List.set_cons_succ]
          refine wpAnyH_done (by kernel_rfl) ?_ _
          have B5 := Lib.hid hb5
          clear hb5 q1
          go_wp2_with fail
          go_ret
          exact rsort_bad k hlt (fun h => HSN.out (by exact_mod_cast ((HGK.out).1 h).2)) (O3.out.below.trans (B5.out.mono O3.out.below.size))
      · have hc := H.out
        rw [decide_eq_false hP] at hc
        have HC := Lib.hid hc
        have HP := Lib.hid hP
        clear hc hP H
        refine wp_region_held_drew (S := fun w' => Below wr.heap.size wr w') (by kernel_rfl) (Below.refl _ _).drew (fun hHeld => ?_)
        refine wpAnyH_take (i := 0) (oi := ⟨some 16, .load 27 (.tmp 2), _, _, _, _⟩) (v := ?_) rfl (by kernel_rfl) (by kernel_rfl) (by kernel_rfl) (fun _ _ _ h => h) (Or.inl ⟨by rfl, ?_⟩) (by assumption) ?_
        rotate_left
        · intro w' hSw
          obtain ⟨y0, y1, y2, yk, yc⟩ := HF.out _ hSw
          go_simp
          try with_reducible rfl
        try simp only [Act.put, List.setIfInBounds_toArray, List.set_cons_zero, List.set_cons_succ]
        refine wpAnyH_take (i := 1) (oi := ⟨some 17, .move (.tmp 1), _, _, _, _⟩) (v := ?_) rfl (by kernel_rfl) (by kernel_rfl) (by kernel_rfl) (fun _ _ _ h => h) (Or.inl ⟨by rfl, ?_⟩) (by assumption) ?_
        rotate_left
        · intro w' hSw
          obtain ⟨y0, y1, y2, yk, yc⟩ := HF.out _ hSw
          go_simp
          try with_reducible rfl
        try simp only [Act.put, List.setIfInBounds_toArray, List.set_cons_zero, List.set_cons_succ]
        refine wpAnyH_take (i := 2) (oi := ⟨some 18, .move (.tmp 6), _, _, _, _⟩) (v := ?_) rfl (by kernel_rfl) (by kernel_rfl) (by kernel_rfl) (fun _ _ _ h => h) (Or.inl ⟨by rfl, ?_⟩) (by assumption) ?_
        rotate_left
        · intro w' hSw
          obtain ⟨y0, y1, y2, yk, yc⟩ := HF.out _ hSw
          go_simp
          try with_reducible rfl
        try simp only [Act.put, List.setIfInBounds_toArray, List.set_cons_zero, List.set_cons_succ]
        refine wpAnyH_take (i := 3) (oi := ⟨some 19, .indexAddr 30 (.tmp 17) (.tmp 18), _, _, _, _⟩) (v := ?_) rfl (by kernel_rfl) (by kernel_rfl) (by kernel_rfl) (fun _ _ _ h => h) (Or.inl ⟨by rfl, ?_⟩) (by assumption) ?_
        rotate_left
        · intro w' hSw
          obtain ⟨y0, y1, y2, yk, yc⟩ := HF.out _ hSw
          go_simp
          try with_reducible rfl
        try simp only [Act.put, List.setIfInBounds_toArray, List.set_cons_zero, List.set_cons_succ]
        refine wpAnyH_take (i := 4) (oi := ⟨some 20, .load 23 (.tmp 19), _, _, _, _⟩) (v := ?_) rfl (by kernel_rfl) (by kernel_rfl) (by kernel_rfl) (fun _ _ _ h => h) (Or.inl ⟨by rfl, ?_⟩) (by assumption) ?_
        rotate_left
        · intro w' hSw
          obtain ⟨y0, y1, y2, yk, yc⟩ := HF.out _ hSw
          go_simp
          try with_reducible rfl
        try simp only [Act.put, List.setIfInBounds_toArray, List.set_cons_zero, List.set_cons_succ]
        refine wpAnyH_take (i := 5) (oi := ⟨some 21, .call ⟨.builtin .len, #[.tmp 20], #[23]⟩, _, _, _, _⟩) (v := ?_) rfl (by kernel_rfl) (by kernel_rfl) (by kernel_rfl) (fun _ _ _ h => h) (Or.inl ⟨by rfl, ?_⟩) (by assumption) ?_
        rotate_left
        · intro w' hSw
          obtain ⟨y0, y1, y2, yk, yc⟩ := HF.out _ hSw
          go_simp
          try with_reducible rfl
        try simp only [Act.put, List.setIfInBounds_toArray, List.set_cons_zero, List.set_cons_succ]
        refine wpAnyH_ready (rs := [6]) (by kernel_rfl) (by simp) ?_
        refine AllReadyH.cons (o := ⟨some 22, .call ⟨.value (.func 20), #[.tmp 16, .tmp 21], #[27, 3]⟩, _, _, _, _⟩) rfl (fun K hK => ?_) AllReadyH.nil
        go_simp
        refine (HC.out _ hHeld).mono ?_
        rintro _ w5 ⟨rfl, hb5⟩
        try go_wp2_with fail
        refine hK.out _ _ hb5 (fun hHeld => ?_)
        clear hK K
        try simp only [Act.put, List.setIfInBounds_toArray, List.set_cons_zero, List.set_cons_succ]
        refine wpAnyH_take (i := 7) (oi := ⟨some 23, .unOp .not 4 (.tmp 22), _, _, _, _⟩) (v := ?_) rfl (by kernel_rfl) (by kernel_rfl) (by kernel_rfl) (fun _ _ _ h => h) (Or.inl ⟨by rfl, ?_⟩) (by assumption) ?_
        rotate_left
        · intro w' hSw
          obtain ⟨y0, y1, y2, yk, yc⟩ := HF.out _ hSw
          go_simp
          try with_reducible rfl
        try simp only [Act.put, List.setIfInBounds_toArray, List.set_cons_zero, List.set_cons_succ]
        refine wpAnyH_take (i := 8) (oi := ⟨some 24, .move (.tmp 23), _, _, _, _⟩) (v := ?_) rfl (by kernel_rfl) (by kernel_rfl) (by kernel_rfl) (fun _ _ _ h => h) (Or.inl ⟨by rfl, ?_⟩) (by assumption) ?_
        rotate_left
        · intro w' hSw
          obtain ⟨y0, y1, y2, yk, yc⟩ := HF.out _ hSw
          go_simp
          try with_reducible rfl
        try simp only [Act.put, List.setIfInBounds_toArray, List.set_cons_zero, List.set_cons_succ]
        refine wpAnyH_take (i := 9) (oi := ⟨some 25, .move (.tmp 1), _, _, _, _⟩) (v := undef) rfl (by kernel_rfl) (by kernel_rfl) (by kernel_rfl) (fun _ _ _ h => h) (Or.inr ⟨by rfl, rfl⟩) (by assumption) ?_
        try simp only [Act.put, List.setIfInBounds_toArray, List.set_cons_zero, List.set_cons_succ]
        refine wpAnyH_take (i := 10) (oi := ⟨some 26, .move (.tmp 6), _, _, _, _⟩) (v := undef) rfl (by kernel_rfl) (by kernel_rfl) (by kernel_rfl) (fun _ _ _ h => h) (Or.inr ⟨by rfl, rfl⟩) (by assumption) ?_
        try simp only [Act.put, List.setIfInBounds_toArray, List.set_cons_zero, List.set_cons_succ]
        refine wpAnyH_take (i := 14) (oi := ⟨some 30, .move (.tmp 1), _, _, _, _⟩) (v := undef) rfl (by kernel_rfl) (by kernel_rfl) (by kernel_rfl) (fun _ _ _ h => h) (Or.inr ⟨by rfl, rfl⟩) (by assumption) ?_
        try simp only [Act.put, List.setIfInBounds_toArray, List.set_cons_zero, List.set_cons_succ]
        refine wpAnyH_take (i := 11) (oi := ⟨some 27, .indexAddr 30 (.tmp 25) (.tmp 26), _, _, _, _⟩) (v := undef) rfl (by kernel_rfl) (by kernel_rfl) (by kernel_rfl) (fun _ _ _ h => h) (Or.inr ⟨by rfl, rfl⟩) (by assumption) ?_
        try simp only [Act.put, List.setIfInBounds_toArray, List.set_cons_zero, List.set_cons_succ]
        refine wpAnyH_take (i := 15) (oi := ⟨some 31, .indexAddr 30 (.tmp 30) (.const (.int .i64 0)), _, _, _, _⟩) (v := undef) rfl (by kernel_rfl) (by kernel_rfl) (by kernel_rfl) (fun _ _ _ h => h) (Or.inr ⟨by rfl, rfl⟩) (by assumption) ?_
        try simp only [Act.put, List.setIfInBounds_toArray, List.set_cons_zero, List.set_cons_succ]
        refine wpAnyH_take (i := 12) (oi := ⟨some 28, .load 23 (.tmp 27), _, _, _, _⟩) (v := undef) rfl (by kernel_rfl) (by kernel_rfl) (by kernel_rfl) (fun _ _ _ h => h) (Or.inr ⟨by rfl, rfl⟩) (by assumption) ?_
        try simp only [Act.put, List.setIfInBounds_toArray, List.set_cons_zero, List.set_cons_succ]
        refine wpAnyH_take (i := 16) (oi := ⟨some 32, .load 23 (.tmp 31), _, _, _, _⟩) (v := undef) rfl (by kernel_rfl) (by kernel_rfl) (by kernel_rfl) (fun _ _ _ h => h) (Or.inr ⟨by rfl, rfl⟩) (by assumption) ?_
        try simp only [Act.put, List.setIfInBounds_toArray, List.set_cons_zero, List.set_cons_succ]
        refine wpAnyH_take (i := 13) (oi := ⟨some 29, .call ⟨.builtin .len, #[.tmp 28], #[23]⟩, _, _, _, _⟩) (v := undef) rfl (by kernel_rfl) (by kernel_rfl) (by kernel_rfl) (fun _ _ _ h => h) (Or.inr ⟨by rfl, rfl⟩) (by assumption) ?_
        try simp only [Act.put, List.setIfInBounds_toArray, List.set_cons_zero, List.set_cons_succ]
        refine wpAnyH_take (i := 17) (oi := ⟨some 33, .call ⟨.builtin .len, #[.tmp 32], #[23]⟩, _, _, _, _⟩) (v := undef) rfl (by kernel_rfl) (by kernel_rfl) (by kernel_rfl) (fun _ _ _ h => h) (Or.inr ⟨by rfl, rfl⟩) (by assumption) ?_
        try simp only [Act.put, List.setIfInBounds_toArray, List.set_cons_zero, List.set_cons_succ]
        refine wpAnyH_take (i := 18) (oi := ⟨some 34, .binOp .neq 3 (.tmp 29) (.tmp 33) 3, _, _, _, _⟩) (v := undef) rfl (by kernel_rfl) (by kernel_rfl) (by kernel_rfl) (fun _ _ _ h => h) (Or.inr ⟨by rfl, rfl⟩) (by assumption) ?_
        try simp only [Act.put, List.setIfInBounds_toArray, List.set_cons_zero, List.set_cons_succ]
        refine wpAnyH_take (i := 19) (oi := ⟨some 35, .pick (.tmp 24) (.const (.bool true)) (.tmp 34), _, _, _, _⟩) (v := ?_) rfl (by kernel_rfl) (by kernel_rfl) (by kernel_rfl) (fun _ _ _ h => h) (Or.inl ⟨by rfl, ?_⟩) (by assumption) ?_
        rotate_left
        · intro w' hSw
          obtain ⟨y0, y1, y2, yk, yc⟩ := HF.out _ hSw
          go_simp
          try with_reducible rfl
        try simp only [Act.put, List.setIfInBounds_toArray, List.set_cons_zero, List.set_cons_succ]
        refine wpAnyH_done (by kernel_rfl) ?_ _
        have B5 := Lib.hid hb5
        clear hb5
        go_wp2_with fail
        go_ret
        exact rsort_bad k hlt (fun h => HP.out ((HGK.out).1 h).1) (O3.out.below.trans (B5.out.mono O3.out.below.size))
    · obtain rfl : k = n := by omega
      have HALL := Lib.hid (show ∀ j, j < k → goodRow kd cl an LR j from HGD.out)
      go_wp2_with fail
      go_loopw [5, 7] (fun v i wr => RS2 kd cl A an k LR w1 v i wr) (fun _ i _ => k - (intOf i).toNat)
      case atStart => exact ⟨0, by omega, rfl, World.ownsRow_nil wr _ _ _, fun _ => rfl, HBW.out⟩
      case round =>
        obtain ⟨m, hm, rfl, ho, hz, hb⟩ := hrel
        obtain ⟨w2, hw2⟩ : ∃ w2, w2 = wr := ⟨_, rfl⟩
        subst hw2
        have HOUT := Lib.hid ho
        have HZ := Lib.hid hz
        have HBW2 := Lib.hid hb
        have O2 := Lib.hid (O1.out.later hb)
        have L2 := Lib.hid (L1.out.later hb)
        clear ho hz hb O3 L3 HBW
        by_cases hlt : m < k
        · obtain ⟨l, hl⟩ : ∃ l, l = St.refS (ahB kd cl A an LR) m := ⟨_, rfl⟩
          have hll : l.length = m := by rw [hl, St.refS_length]
          have hmem : ∀ j ∈ l, j < k := fun j hj => by rw [hl] at hj; have := St.refS_mem hj; omega
          have ho := HOUT.out
          rw [← hl] at ho
          obtain ⟨q2, c2, rfl, hrows⟩ := rows_of_owns ho (fun j hj => getD_Ok L2.out j (hmem j hj))
          have HR2 := Lib.hid hrows
          have HLEN := Lib.hid hll
          have HMEM := Lib.hid hmem
          have HLL := Lib.hid hl
          obtain ⟨gL, oL, rfl, hcm, hokm⟩ := L2.out.cell m hlt
          obtain ⟨t, ht⟩ : ∃ t, t = LR.getD m default := ⟨_, rfl⟩
          rw [← ht] at hcm hokm
          have HTM0 := Lib.hid ht
          have HTM := Lib.hid (show (LR.getD m default).val = t.val by rw [ht])
          obtain ⟨tp, tn, tc, tR⟩ := t
          unfold Rw.val at hcm
          simp only at hcm
          have HCL := Lib.hid hcm
          have HOKM := Lib.hid hokm
          have i1 : (0 : Int) ≤ m ∧ (m : Int) < k := by omega
          have hc2 := hrows.le
          clear ho hll hmem hl ht hcm hokm hrows HOUT
          go_wp2_with fail
          go_loopw [8, 9] (fun v j wr => RS3 kd cl A an LR w2 m l v j wr) (fun _ j _ => m - (intOf j).toNat)
          case atStart => exact ⟨0, by omega, rfl, World.ownsRow_nil w2 _ _ _, fun t ht => by omega, Below.refl _ _⟩
          case round =>
            obtain ⟨j, hj, rfl, ho2, hnot, hb2⟩ := hrel
            have HJ := Lib.hid hj
            have NX := Lib.hid ho2
            have HNOT := Lib.hid hnot
            have B6 := Lib.hid hb2
            have hjm : j ≤ m := by rw [← HLEN.out]; exact hj
            clear ho2 hnot hb2 hj
            by_cases hjl : j < m
            · obtain ⟨gO, oO, rfl, hcj, hokj⟩ := HR2.out.cell j hjl
              rw [rowsOf_get LR l j (by rw [HLEN.out]; exact hjl)] at hcj hokj
              obtain ⟨u, hu⟩ : ∃ u, u = LR.getD (l.getD j 0) default := ⟨_, rfl⟩
              rw [← hu] at hcj hokj
              have hah : ahB kd cl A an LR m (l.getD j 0) = decide (aheadP kd cl A tR u.R an tn u.n) := by unfold ahB; rw [← hu, ← HTM0.out]
              have HU := Lib.hid (show (LR.getD (l.getD j 0) default).val = u.val by rw [hu])
              obtain ⟨up, un, uc, uR⟩ := u
              unfold Rw.val at hcj
              simp only at hcj hah
              have OX := Lib.hid (O2.out.later B6.out)
              obtain ⟨x0, x1, x2⟩ := OX.out.cells
              have hck := (B6.out.cell (p := ⟨gL, oL + m, none⟩) (block_lt_of_cell HCL.out)).trans HCL.out
              have hc0 := (B6.out.cell (p := ⟨gO, oO + j, none⟩) (block_lt_of_cell hcj)).trans hcj
              have hF : ∀ w', Below wr.heap.size wr w' → (w'.cell? ⟨w.heap.size, 0, none⟩ = some (.int .u8 kd) ∧ w'.cell? ⟨w.heap.size, 1, none⟩ = some (.int .i64 cl) ∧ w'.cell? ⟨w.heap.size, 2, none⟩ = some (.slice q an ac) ∧ w'.cell? ⟨gL, oL + m, none⟩ = some (.slice tp tn tc) ∧ w'.cell? ⟨gO, oO + j, none⟩ = some (.slice up un uc)) := fun w' hb => ⟨(hb.cell (p := ⟨w.heap.size, 0, none⟩) (block_lt_of_cell x0)).trans x0, (hb.cell (p := ⟨w.heap.size, 1, none⟩) (block_lt_of_cell x1)).trans x1, (hb.cell (p := ⟨w.heap.size, 2, none⟩) (block_lt_of_cell x2)).trans x2, (hb.cell (p := ⟨gL, oL + m, none⟩) (block_lt_of_cell hck)).trans hck, (hb.cell (p := ⟨gO, oO + j, none⟩) (block_lt_of_cell hc0)).trans hc0⟩
              have HF := Lib.hid hF
              have h1 := HOKM.out.ints.later B6.out
              have h2 := hokj.ints.later B6.out
              have H := Lib.hid (show ∀ w', Below wr.heap.size wr w' → Calls Try.prog 16 #[.agg #[.int .u8 kd, .int .i64 cl, .slice q an ac], .slice tp tn tc, .slice up un uc] w' fun e w'' => e = .returned (.bool (ahB kd cl A an LR m (l.getD j 0))) ∧ Below wr.heap.size wr w'' from fun w' hb => (refahead_any kd cl q tp up an ac tn tc un uc A tR uR w' (OX.out.i.later hb) (h1.later hb) (h2.later hb)).mono fun e w'' h => ⟨by rw [hah]; exact h.1, hb.trans (h.2.mono hb.size)⟩)
              have HAH := Lib.hid (show ahB kd cl A an LR m (l.getD j 0) = ahB kd cl A an LR m (l.getD j 0) from rfl)
              have HCJ := Lib.hid hcj
              have j1 : (0 : Int) ≤ j ∧ (j : Int) < m := by omega
              have j2 : (j : Int) < m := by omega
              clear hF x0 x1 x2 hck hc0 h1 h2 hokj hah hu hcj
              go_upto_region 12 with fail
              cases hbv : ahB kd cl A an LR m (l.getD j 0) with
              | true =>
                have hc := H.out
                rw [hbv] at hc
                have HC := Lib.hid hc
                have HBV := Lib.hid hbv
                clear hc hbv H
                refine wp_region_held_drew (S := fun w' => Below wr.heap.size wr w') (by kernel_rfl) (Below.refl _ _).drew (fun hHeld => ?_)
                refine wpAnyH_take (i := 0) (oi := ⟨some 42, .move (.tmp 9), _, _, _, _⟩) (v := ?_) rfl (by kernel_rfl) (by kernel_rfl) (by kernel_rfl) (fun _ _ _ h => h) (Or.inl ⟨by rfl, ?_⟩) (by assumption) ?_
                rotate_left
                · intro w' hSw
                  obtain ⟨y0, y1, y2, yk, yc⟩ := HF.out _ hSw
                  go_simp
                  try with_reducible rfl
                try simp only [Act.put, List.setIfInBounds_toArray, List.set_cons_zero, List.set_cons_succ]
                refine wpAnyH_take (i := 1) (oi := ⟨some 43, .move (.tmp 5), _, _, _, _⟩) (v := ?_) rfl (by kernel_rfl) (by kernel_rfl) (by kernel_rfl) (fun _ _ _ h => h) (Or.inl ⟨by rfl, ?_⟩) (by assumption) ?_
                rotate_left
                · intro w' hSw
                  obtain ⟨y0, y1, y2, yk, yc⟩ := HF.out _ hSw
                  go_simp
                  try with_reducible rfl
                try simp only [Act.put, List.setIfInBounds_toArray, List.set_cons_zero, List.set_cons_succ]
                refine wpAnyH_take (i := 2) (oi := ⟨some 44, .call ⟨.builtin .len, #[.tmp 43], #[30]⟩, _, _, _, _⟩) (v := ?_) rfl (by kernel_rfl) (by kernel_rfl) (by kernel_rfl) (fun _ _ _ h => h) (Or.inl ⟨by rfl, ?_⟩) (by assumption) ?_
                rotate_left
                · intro w' hSw
                  obtain ⟨y0, y1, y2, yk, yc⟩ := HF.out _ hSw
                  go_simp
                  try with_reducible rfl
                try simp only [Act.put, List.setIfInBounds_toArray, List.set_cons_zero, List.set_cons_succ]
                refine wpAnyH_take (i := 3) (oi := ⟨some 45, .binOp .lss 3 (.tmp 42) (.tmp 44) 3, _, _, _, _⟩) (v := ?_) rfl (by kernel_rfl) (by kernel_rfl) (by kernel_rfl) (fun _ _ _ h => h) (Or.inl ⟨by rfl, ?_⟩) (by assumption) ?_
                rotate_left
                · intro w' hSw
                  obtain ⟨y0, y1, y2, yk, yc⟩ := HF.out _ hSw
                  go_simp
                  try with_reducible rfl
                try simp only [Act.put, List.setIfInBounds_toArray, List.set_cons_zero, List.set_cons_succ]
                refine wpAnyH_take (i := 4) (oi := ⟨some 46, .move (.tmp 45), _, _, _, _⟩) (v := ?_) rfl (by kernel_rfl) (by kernel_rfl) (by kernel_rfl) (fun _ _ _ h => h) (Or.inl ⟨by rfl, ?_⟩) (by assumption) ?_
                rotate_left
                · intro w' hSw
                  obtain ⟨y0, y1, y2, yk, yc⟩ := HF.out _ hSw
                  go_simp
                  try with_reducible rfl
                try simp only [Act.put, List.setIfInBounds_toArray, List.set_cons_zero, List.set_cons_succ]
                refine wpAnyH_take (i := 5) (oi := ⟨some 47, .load 27 (.tmp 2), _, _, _, _⟩) (v := ?_) rfl (by kernel_rfl) (by kernel_rfl) (by kernel_rfl) (fun _ _ _ h => h) (Or.inl ⟨by rfl, ?_⟩) (by assumption) ?_
                rotate_left
                · intro w' hSw
                  obtain ⟨y0, y1, y2, yk, yc⟩ := HF.out _ hSw
                  go_simp
                  try with_reducible rfl
                try simp only [Act.put, List.setIfInBounds_toArray, List.set_cons_zero, List.set_cons_succ]
                refine wpAnyH_take (i := 6) (oi := ⟨some 48, .move (.tmp 1), _, _, _, _⟩) (v := ?_) rfl (by kernel_rfl) (by kernel_rfl) (by kernel_rfl) (fun _ _ _ h => h) (Or.inl ⟨by rfl, ?_⟩) (by assumption) ?_
                rotate_left
                · intro w' hSw
                  obtain ⟨y0, y1, y2, yk, yc⟩ := HF.out _ hSw
                  go_simp
                  try with_reducible rfl
                try simp only [Act.put, List.setIfInBounds_toArray, List.set_cons_zero, List.set_cons_succ]
                refine wpAnyH_take (i := 7) (oi := ⟨some 49, .move (.tmp 7), _, _, _, _⟩) (v := ?_) rfl (by kernel_rfl) (by kernel_rfl) (by kernel_rfl) (fun _ _ _ h => h) (Or.inl ⟨by rfl, ?_⟩) (by assumption) ?_
                rotate_left
                · intro w' hSw
                  obtain ⟨y0, y1, y2, yk, yc⟩ := HF.out _ hSw
                  go_simp
                  try with_reducible rfl
                try simp only [Act.put, List.setIfInBounds_toArray, List.set_cons_zero, List.set_cons_succ]
                refine wpAnyH_take (i := 10) (oi := ⟨some 52, .move (.tmp 5), _, _, _, _⟩) (v := ?_) rfl (by kernel_rfl) (by kernel_rfl) (by kernel_rfl) (fun _ _ _ h => h) (Or.inl ⟨by rfl, ?_⟩) (by assumption) ?_
                rotate_left
                · intro w' hSw
                  obtain ⟨y0, y1, y2, yk, yc⟩ := HF.out _ hSw
                  go_simp
                  try with_reducible rfl
                try simp only [Act.put, List.setIfInBounds_toArray, List.set_cons_zero, List.set_cons_succ]
                refine wpAnyH_take (i := 11) (oi := ⟨some 53, .move (.tmp 9), _, _, _, _⟩) (v := ?_) rfl (by kernel_rfl) (by kernel_rfl) (by kernel_rfl) (fun _ _ _ h => h) (Or.inl ⟨by rfl, ?_⟩) (by assumption) ?_
                rotate_left
                · intro w' hSw
                  obtain ⟨y0, y1, y2, yk, yc⟩ := HF.out _ hSw
                  go_simp
                  try with_reducible rfl
                try simp only [Act.put, List.setIfInBounds_toArray, List.set_cons_zero, List.set_cons_succ]
                refine wpAnyH_take (i := 8) (oi := ⟨some 50, .indexAddr 30 (.tmp 48) (.tmp 49), _, _, _, _⟩) (v := ?_) rfl (by kernel_rfl) (by kernel_rfl) (by kernel_rfl) (fun _ _ _ h => h) (Or.inl ⟨by rfl, ?_⟩) (by assumption) ?_
                rotate_left
                · intro w' hSw
                  obtain ⟨y0, y1, y2, yk, yc⟩ := HF.out _ hSw
                  go_simp
                  try with_reducible rfl
                try simp only [Act.put, List.setIfInBounds_toArray, List.set_cons_zero, List.set_cons_succ]
                refine wpAnyH_take (i := 12) (oi := ⟨some 54, .indexAddr 30 (.tmp 52) (.tmp 53), _, _, _, _⟩) (v := ?_) rfl (by kernel_rfl) (by kernel_rfl) (by kernel_rfl) (fun _ _ _ h => h) (Or.inl ⟨by rfl, ?_⟩) (by assumption) ?_
                rotate_left
                · intro w' hSw
                  obtain ⟨y0, y1, y2, yk, yc⟩ := HF.out _ hSw
                  go_simp
                  try with_reducible rfl
                try simp only [Act.put, List.setIfInBounds_toArray, List.set_cons_zero, List.set_cons_succ]
                refine wpAnyH_take (i := 9) (oi := ⟨some 51, .load 23 (.tmp 50), _, _, _, _⟩) (v := ?_) rfl (by kernel_rfl) (by kernel_rfl) (by kernel_rfl) (fun _ _ _ h => h) (Or.inl ⟨by rfl, ?_⟩) (by assumption) ?_
                rotate_left
                · intro w' hSw
                  obtain ⟨y0, y1, y2, yk, yc⟩ := HF.out _ hSw
                  go_simp
                  try with_reducible rfl
                try simp only [Act.put, List.setIfInBounds_toArray, List.set_cons_zero, List.set_cons_succ]
                refine wpAnyH_take (i := 13) (oi := ⟨some 55, .load 23 (.tmp 54), _, _, _, _⟩) (v := ?_) rfl (by kernel_rfl) (by kernel_rfl) (by kernel_rfl) (fun _ _ _ h => h) (Or.inl ⟨by rfl, ?_⟩) (by assumption) ?_
                rotate_left
                · intro w' hSw
                  obtain ⟨y0, y1, y2, yk, yc⟩ := HF.out _ hSw
                  go_simp
                  try with_reducible rfl
                try simp only [Act.put, List.setIfInBounds_toArray, List.set_cons_zero, List.set_cons_succ]
                refine wpAnyH_ready (rs := [14]) (by kernel_rfl) (by simp) ?_
                refine AllReadyH.cons (o := ⟨some 56, .call ⟨.value (.func 16), #[.tmp 47, .tmp 51, .tmp 55], #[27, 23, 23]⟩, _, _, _, _⟩) rfl (fun K hK => ?_) AllReadyH.nil
                go_simp
                refine (HC.out _ hHeld).mono ?_
                rintro _ w5 ⟨rfl, hb5⟩
                try go_wp2_with fail
                refine hK.out _ _ hb5 (fun hHeld => ?_)
                clear hK K
                try simp only [Act.put, List.setIfInBounds_toArray, List.set_cons_zero, List.set_cons_succ]
                refine wpAnyH_take (i := 15) (oi := ⟨some 57, .unOp .not 4 (.tmp 56), _, _, _, _⟩) (v := ?_) rfl (by kernel_rfl) (by kernel_rfl) (by kernel_rfl) (fun _ _ _ h => h) (Or.inl ⟨by rfl, ?_⟩) (by assumption) ?_
                rotate_left
                · intro w' hSw
                  obtain ⟨y0, y1, y2, yk, yc⟩ := HF.out _ hSw
                  go_simp
                  try with_reducible rfl
                try simp only [Act.put, List.setIfInBounds_toArray, List.set_cons_zero, List.set_cons_succ]
                refine wpAnyH_take (i := 16) (oi := ⟨some 58, .pick (.tmp 46) (.tmp 57) (.const (.bool false)), _, _, _, _⟩) (v := ?_) rfl (by kernel_rfl) (by kernel_rfl) (by kernel_rfl) (fun _ _ _ h => h) (Or.inl ⟨by rfl, ?_⟩) (by assumption) ?_
                rotate_left
                · intro w' hSw
                  obtain ⟨y0, y1, y2, yk, yc⟩ := HF.out _ hSw
                  go_simp
                  try with_reducible rfl
                try simp only [Act.put, List.setIfInBounds_toArray, List.set_cons_zero, List.set_cons_succ]
                refine wpAnyH_done (by kernel_rfl) ?_ _
                have HINS := Lib.hid (St.ins_at (lt := ahB kd cl A an LR) m l j HJ.out HNOT.out (Or.inr HBV.out))
                rw [← rfl_refS HLL.out] at HINS
                obtain ⟨w6, hw6⟩ : ∃ w6, w6 = w5 := ⟨_, rfl⟩
                subst hw6
                have nx6 := ownsR_later NX.out hb5
                have b6 := B6.out.trans (hb5.mono B6.out.size)
                clear hHeld hb5 NX B6
                have NX := Lib.hid nx6
                have B6 := Lib.hid b6
                have HDL := Lib.hid (show (hv LR (l.drop j)).length = (m - j) * 1 by rw [hv_length, List.length_drop, HLEN.out, Nat.mul_one])
                have HSRC := Lib.hid (fun (w' : World) (hb : Below w2.heap.size w2 w') => hv_tail (HR2.out.later hb) j)
                have cj : ¬ c2 = j := by omega
                clear nx6 b6 j1
                have hcL : w6.cell? ⟨gL, oL + m, none⟩ = some (.slice tp tn tc) := (B6.out.cell (p := ⟨gL, oL + m, none⟩) (block_lt_of_cell HCL.out)).trans HCL.out
                skip
                have hbs := B6.out.size
                have HBS := Lib.hid hbs
                clear hbs
                go_upto_region 16 with (at_builtin; refine wpList_append_own _ (by rfl) (.tmp 68) (.tmp 73) 30 (by rfl) w2.heap.size 23 i23 (.slice none 0 0) 1 24 U52 HI.out HI0.out HI1.out HI2.out (by rfl) (by decide) _ j _ (by rfl) (NX.out.alloc _) ⟨w6.heap.size, 0, none⟩ 1 1 (hv LR [m]) (by rfl) (by rfl) (hv_new HTM.out) (hv_one _ _) (by unfold maxLen; omega) (by omega) (by have := HBS.out; simp; omega) ?_; intro v7 w7 hown7 hgrow7 _)
                have hb7 : Below w2.heap.size w2 w7 := (B6.out.alloc B6.out.size _).grown hgrow7 (by have := HBS.out; simp; omega) (fun i hi => ((NX.out.alloc (.cells #[.slice tp tn tc] 23)).lt i hi).1)
                rw [← hv_append] at hown7
                have NX7 := Lib.hid hown7
                have B7 := Lib.hid hb7
                clear hown7 hgrow7 hb7 hcL NX
                have HSZ7 := Lib.hid B7.out.size
                go_wp2_with (at_builtin; refine wpList_append_own _ (by rfl) (.tmp 75) (.tmp 78) 30 (by rfl) w2.heap.size 23 i23 (.slice none 0 0) 1 24 U52 HI.out HI0.out HI1.out HI2.out (by rfl) (by decide) _ (j + 1) _ (by rfl) NX7.out ⟨gO, oO + j, none⟩ _ _ (hv LR (l.drop j)) (by rfl) HDL.out (HSRC.out _ B7.out) (hv_one _ _) (by unfold maxLen; omega) (by omega) HSZ7.out ?_; intro v8 w8 hown8 hgrow8 _)
                have hb8 : Below w2.heap.size w2 w8 := B7.out.grown hgrow8 HSZ7.out (fun i hi => (NX7.out.lt i hi).1)
                rw [← hv_append] at hown8
                have HE := Lib.hid hown8
                have BE := Lib.hid hb8
                clear hown8 hgrow8 hb8
                go_roundw
                case rel => exact rs2_next HLEN.out HJ.out HINS.out HE.out (by omega) hlt BE.out HBW2.out
                case measure => simp [intOf]; omega
              | false =>
                have hc := H.out
                rw [hbv] at hc
                have HC := Lib.hid hc
                have HBV := Lib.hid hbv
                clear hc hbv H
                refine wp_region_held_drew (S := fun w' => Below wr.heap.size wr w') (by kernel_rfl) (Below.refl _ _).drew (fun hHeld => ?_)
                refine wpAnyH_take (i := 0) (oi := ⟨some 42, .move (.tmp 9), _, _, _, _⟩) (v := ?_) rfl (by kernel_rfl) (by kernel_rfl) (by kernel_rfl) (fun _ _ _ h => h) (Or.inl ⟨by rfl, ?_⟩) (by assumption) ?_
                rotate_left
                · intro w' hSw
                  obtain ⟨y0, y1, y2, yk, yc⟩ := HF.out _ hSw
                  go_simp
                  try with_reducible rfl
                try simp only [Act.put, List.setIfInBounds_toArray, List.set_cons_zero, List.set_cons_succ]
                refine wpAnyH_take (i := 1) (oi := ⟨some 43, .move (.tmp 5), _, _, _, _⟩) (v := ?_) rfl (by kernel_rfl) (by kernel_rfl) (by kernel_rfl) (fun _ _ _ h => h) (Or.inl ⟨by rfl, ?_⟩) (by assumption) ?_
                rotate_left
                · intro w' hSw
                  obtain ⟨y0, y1, y2, yk, yc⟩ := HF.out _ hSw
                  go_simp
                  try with_reducible rfl
                try simp only [Act.put, List.setIfInBounds_toArray, List.set_cons_zero, List.set_cons_succ]
                refine wpAnyH_take (i := 2) (oi := ⟨some 44, .call ⟨.builtin .len, #[.tmp 43], #[30]⟩, _, _, _, _⟩) (v := ?_) rfl (by kernel_rfl) (by kernel_rfl) (by kernel_rfl) (fun _ _ _ h => h) (Or.inl ⟨by rfl, ?_⟩) (by assumption) ?_
                rotate_left
                · intro w' hSw
                  obtain ⟨y0, y1, y2, yk, yc⟩ := HF.out _ hSw
                  go_simp
                  try with_reducible rfl
                try simp only [Act.put, List.setIfInBounds_toArray, List.set_cons_zero, List.set_cons_succ]
                refine wpAnyH_take (i := 3) (oi := ⟨some 45, .binOp .lss 3 (.tmp 42) (.tmp 44) 3, _, _, _, _⟩) (v := ?_) rfl (by kernel_rfl) (by kernel_rfl) (by kernel_rfl) (fun _ _ _ h => h) (Or.inl ⟨by rfl, ?_⟩) (by assumption) ?_
                rotate_left
                · intro w' hSw
                  obtain ⟨y0, y1, y2, yk, yc⟩ := HF.out _ hSw
                  go_simp
                  try with_reducible rfl
                try simp only [Act.put, List.setIfInBounds_toArray, List.set_cons_zero, List.set_cons_succ]
                refine wpAnyH_take (i := 4) (oi := ⟨some 46, .move (.tmp 45), _, _, _, _⟩) (v := ?_) rfl (by kernel_rfl) (by kernel_rfl) (by kernel_rfl) (fun _ _ _ h => h) (Or.inl ⟨by rfl, ?_⟩) (by assumption) ?_
                rotate_left
                · intro w' hSw
                  obtain ⟨y0, y1, y2, yk, yc⟩ := HF.out _ hSw
                  go_simp
                  try with_reducible rfl
                try simp only [Act.put, List.setIfInBounds_toArray, List.set_cons_zero, List.set_cons_succ]
                refine wpAnyH_take (i := 5) (oi := ⟨some 47, .load 27 (.tmp 2), _, _, _, _⟩) (v := ?_) rfl (by kernel_rfl) (by kernel_rfl) (by kernel_rfl) (fun _ _ _ h => h) (Or.inl ⟨by rfl, ?_⟩) (by assumption) ?_
                rotate_left
                · intro w' hSw
                  obtain ⟨y0, y1, y2, yk, yc⟩ := HF.out _ hSw
                  go_simp
                  try with_reducible rfl
                try simp only [Act.put, List.setIfInBounds_toArray, List.set_cons_zero, List.set_cons_succ]
                refine wpAnyH_take (i := 6) (oi := ⟨some 48, .move (.tmp 1), _, _, _, _⟩) (v := ?_) rfl (by kernel_rfl) (by kernel_rfl) (by kernel_rfl) (fun _ _ _ h => h) (Or.inl ⟨by rfl, ?_⟩) (by assumption) ?_
                rotate_left
                · intro w' hSw
                  obtain ⟨y0, y1, y2, yk, yc⟩ := HF.out _ hSw
                  go_simp
                  try with_reducible rfl
                try simp only [Act.put, List.setIfInBounds_toArray, List.set_cons_zero, List.set_cons_succ]
                refine wpAnyH_take (i := 7) (oi := ⟨some 49, .move (.tmp 7), _, _, _, _⟩) (v := ?_) rfl (by kernel_rfl) (by kernel_rfl) (by kernel_rfl) (fun _ _ _ h => h) (Or.inl ⟨by rfl, ?_⟩) (by assumption) ?_
                rotate_left
                · intro w' hSw
                  obtain ⟨y0, y1, y2, yk, yc⟩ := HF.out _ hSw
                  go_simp
                  try with_reducible rfl
                try simp only [Act.put, List.setIfInBounds_toArray, List.set_cons_zero, List.set_cons_succ]
                refine wpAnyH_take (i := 10) (oi := ⟨some 52, .move (.tmp 5), _, _, _, _⟩) (v := ?_) rfl (by kernel_rfl) (by kernel_rfl) (by kernel_rfl) (fun _ _ _ h => h) (Or.inl ⟨by rfl, ?_⟩) (by assumption) ?_
                rotate_left
                · intro w' hSw
                  obtain ⟨y0, y1, y2, yk, yc⟩ := HF.out _ hSw
                  go_simp
                  try with_reducible rfl
                try simp only [Act.put, List.setIfInBounds_toArray, List.set_cons_zero, List.set_cons_succ]
                refine wpAnyH_take (i := 11) (oi := ⟨some 53, .move (.tmp 9), _, _, _, _⟩) (v := ?_) rfl (by kernel_rfl) (by kernel_rfl) (by kernel_rfl) (fun _ _ _ h => h) (Or.inl ⟨by rfl, ?_⟩) (by assumption) ?_
                rotate_left
                · intro w' hSw
                  obtain ⟨y0, y1, y2, yk, yc⟩ := HF.out _ hSw
                  go_simp
                  try with_reducible rfl
                try simp only [Act.put, List.setIfInBounds_toArray, List.set_cons_zero, List.set_cons_succ]
                refine wpAnyH_take (i := 8) (oi := ⟨some 50, .indexAddr 30 (.tmp 48) (.tmp 49), _, _, _, _⟩) (v := ?_) rfl (by kernel_rfl) (by kernel_rfl) (by kernel_rfl) (fun _ _ _ h => h) (Or.inl ⟨by rfl, ?_⟩) (by assumption) ?_
                rotate_left
                · intro w' hSw
                  obtain ⟨y0, y1, y2, yk, yc⟩ := HF.out _ hSw
                  go_simp
                  try with_reducible rfl
                try simp only [Act.put, List.setIfInBounds_toArray, List.set_cons_zero, List.set_cons_succ]
                refine wpAnyH_take (i := 12) (oi := ⟨some 54, .indexAddr 30 (.tmp 52) (.tmp 53), _, _, _, _⟩) (v := ?_) rfl (by kernel_rfl) (by kernel_rfl) (by kernel_rfl) (fun _ _ _ h => h) (Or.inl ⟨by rfl, ?_⟩) (by assumption) ?_
                rotate_left
                · intro w' hSw
                  obtain ⟨y0, y1, y2, yk, yc⟩ := HF.out _ hSw
                  go_simp
                  try with_reducible rfl
                try simp only [Act.put, List.setIfInBounds_toArray, List.set_cons_zero, List.set_cons_succ]
                refine wpAnyH_take (i := 9) (oi := ⟨some 51, .load 23 (.tmp 50), _, _, _, _⟩) (v := ?_) rfl (by kernel_rfl) (by kernel_rfl) (by kernel_rfl) (fun _ _ _ h => h) (Or.inl ⟨by rfl, ?_⟩) (by assumption) ?_
                rotate_left
                · intro w' hSw
                  obtain ⟨y0, y1, y2, yk, yc⟩ := HF.out _ hSw
                  go_simp
                  try with_reducible rfl
                try simp only [Act.put, List.setIfInBounds_toArray, List.set_cons_zero, List.set_cons_succ]
                refine wpAnyH_take (i := 13) (oi := ⟨some 55, .load 23 (.tmp 54), _, _, _, _⟩) (v := ?_) rfl (by kernel_rfl) (by kernel_rfl) (by kernel_rfl) (fun _ _ _ h => h) (Or.inl ⟨by rfl, ?_⟩) (by assumption) ?_
                rotate_left
                · intro w' hSw
                  obtain ⟨y0, y1, y2, yk, yc⟩ := HF.out _ hSw
                  go_simp
                  try with_reducible rfl
                try simp only [Act.put, List.setIfInBounds_toArray, List.set_cons_zero, List.set_cons_succ]
                refine wpAnyH_ready (rs := [14]) (by kernel_rfl) (by simp) ?_
                refine AllReadyH.cons (o := ⟨some 56, .call ⟨.value (.func 16), #[.tmp 47, .tmp 51, .tmp 55], #[27, 23, 23]⟩, _, _, _, _⟩) rfl (fun K hK => ?_) AllReadyH.nil
                go_simp
                refine (HC.out _ hHeld).mono ?_
                rintro _ w5 ⟨rfl, hb5⟩
                try go_wp2_with fail
                refine hK.out _ _ hb5 (fun hHeld => ?_)
                clear hK K
                try simp only [Act.put, List.setIfInBounds_toArray, List.set_cons_zero, List.set_cons_succ]
                refine wpAnyH_take (i := 15) (oi := ⟨some 57, .unOp .not 4 (.tmp 56), _, _, _, _⟩) (v := ?_) rfl (by kernel_rfl) (by kernel_rfl) (by kernel_rfl) (fun _ _ _ h => h) (Or.inl ⟨by rfl, ?_⟩) (by assumption) ?_
                rotate_left
                · intro w' hSw
                  obtain ⟨y0, y1, y2, yk, yc⟩ := HF.out _ hSw
                  go_simp
                  try with_reducible rfl
                try simp only [Act.put, List.setIfInBounds_toArray, List.set_cons_zero, List.set_cons_succ]
                refine wpAnyH_take (i := 16) (oi := ⟨some 58, .pick (.tmp 46) (.tmp 57) (.const (.bool false)), _, _, _, _⟩) (v := ?_) rfl (by kernel_rfl) (by kernel_rfl) (by kernel_rfl) (fun _ _ _ h => h) (Or.inl ⟨by rfl, ?_⟩) (by assumption) ?_
                rotate_left
                · intro w' hSw
                  obtain ⟨y0, y1, y2, yk, yc⟩ := HF.out _ hSw
                  go_simp
                  try with_reducible rfl
                try simp only [Act.put, List.setIfInBounds_toArray, List.set_cons_zero, List.set_cons_succ]
                refine wpAnyH_done (by kernel_rfl) ?_ _
                obtain ⟨w6, hw6⟩ : ∃ w6, w6 = w5 := ⟨_, rfl⟩
                subst hw6
                obtain ⟨-, -, -, -, yc⟩ := HF.out _ hb5
                have nx6 := ownsR_later NX.out hb5
                have b6 := B6.out.trans (hb5.mono B6.out.size)
                clear hHeld hb5 NX B6 HF
                have NX := Lib.hid nx6
                have B6 := Lib.hid b6
                have hbs := b6.size
                have HBS := Lib.hid hbs
                clear nx6 b6 hbs
                go_wp2_with (at_builtin; refine wpList_append_own _ (by rfl) (.tmp 59) (.tmp 64) 30 (by rfl) w2.heap.size 23 i23 (.slice none 0 0) 1 24 U52 HI.out HI0.out HI1.out HI2.out (by rfl) (by decide) _ j _ (by rfl) (NX.out.alloc _) ⟨w6.heap.size, 0, none⟩ 1 1 (hv LR [l.getD j 0]) (by rfl) (by rfl) (hv_new HU.out) (hv_one _ _) (by unfold maxLen; omega) (by omega) (by have := HBS.out; simp; omega) ?_; intro v7 w7 hown7 hgrow7 _)
                have hb7 : Below w2.heap.size w2 w7 := (B6.out.alloc B6.out.size _).grown hgrow7 (by have := HBS.out; simp; omega) (fun i hi => ((NX.out.alloc (.cells #[.slice up un uc] 23)).lt i hi).1)
                rw [← hv_append, take_snocN l j (by rw [HLEN.out]; exact hjl)] at hown7
                have NX7 := Lib.hid hown7
                have B7 := Lib.hid hb7
                clear hown7 hgrow7 hb7 yc
                go_wp2_with fail
                go_roundw
                case rel => exact ⟨j + 1, by rw [HLEN.out]; omega, by go_num, NX7.out, fun t ht => by
                  by_cases h : t = j
                  · rw [h]; exact HBV.out
                  · exact HNOT.out t (by omega), B7.out⟩
                case measure => simp [intOf]; omega
            · obtain rfl : j = m := by omega
              have HDR := Lib.hid (show l.drop j = [] from List.drop_eq_nil_of_le (by rw [HLEN.out]; exact Nat.le_refl _))
              have HINS0 := Lib.hid (St.ins_at (lt := ahB kd cl A an LR) j l j HJ.out HNOT.out (Or.inl HLEN.out.symm))
              have HINS := Lib.hid ((rfl_refS HLL.out).trans HINS0.out)
              obtain ⟨w3, hw3⟩ : ∃ w3, w3 = wr := ⟨_, rfl⟩
              subst hw3
              have jj : ¬ (j : Int) < j := by omega
              go_upto_region 12 with fail
              refine wp_region_held_drew (S := fun w' => Below w3.heap.size w3 w') (by kernel_rfl) (Below.refl _ _).drew (fun hHeld => ?_)
              refine wpAnyH_take (i := 0) (oi := ⟨some 42, .move (.tmp 9), _, _, _, _⟩) (v := ?_) rfl (by kernel_rfl) (by kernel_rfl) (by kernel_rfl) (fun _ _ _ h => h) (Or.inl ⟨by rfl, ?_⟩) (by assumption) ?_
              rotate_left
              · intro w' hSw
                go_simp
                try with_reducible rfl
              try simp only [Act.put, List.setIfInBounds_toArray, List.set_cons_zero, List.set_cons_succ]
              refine wpAnyH_take (i := 1) (oi := ⟨some 43, .move (.tmp 5), _, _, _, _⟩) (v := ?_) rfl (by kernel_rfl) (by kernel_rfl) (by kernel_rfl) (fun _ _ _ h => h) (Or.inl ⟨by rfl, ?_⟩) (by assumption) ?_
              rotate_left
              · intro w' hSw
                go_simp
                try with_reducible rfl
              try simp only [Act.put, List.setIfInBounds_toArray, List.set_cons_zero, List.set_cons_succ]
              refine wpAnyH_take (i := 2) (oi := ⟨some 44, .call ⟨.builtin .len, #[.tmp 43], #[30]⟩, _, _, _, _⟩) (v := ?_) rfl (by kernel_rfl) (by kernel_rfl) (by kernel_rfl) (fun _ _ _ h => h) (Or.inl ⟨by rfl, ?_⟩) (by assumption) ?_
              rotate_left
              · intro w' hSw
                go_simp
                try with_reducible rfl
              try simp only [Act.put, List.setIfInBounds_toArray, List.set_cons_zero, List.set_cons_succ]
              refine wpAnyH_take (i := 3) (oi := ⟨some 45, .binOp .lss 3 (.tmp 42) (.tmp 44) 3, _, _, _, _⟩) (v := ?_) rfl (by kernel_rfl) (by kernel_rfl) (by kernel_rfl) (fun _ _ _ h => h) (Or.inl ⟨by rfl, ?_⟩) (by assumption) ?_
              rotate_left
              · intro w' hSw
                go_simp
                try with_reducible rfl
              try simp only [Act.put, List.setIfInBounds_toArray, List.set_cons_zero, List.set_cons_succ]
              refine wpAnyH_take (i := 4) (oi := ⟨some 46, .move (.tmp 45), _, _, _, _⟩) (v := ?_) rfl (by kernel_rfl) (by kernel_rfl) (by kernel_rfl) (fun _ _ _ h => h) (Or.inl ⟨by rfl, ?_⟩) (by assumption) ?_
              rotate_left
              · intro w' hSw
                go_simp
                try with_reducible rfl
              try simp only [Act.put, List.setIfInBounds_toArray, List.set_cons_zero, List.set_cons_succ]
              refine wpAnyH_take (i := 5) (oi := ⟨some 47, .load 27 (.tmp 2), _, _, _, _⟩) (v := undef) rfl (by kernel_rfl) (by kernel_rfl) (by kernel_rfl) (fun _ _ _ h => h) (Or.inr ⟨by rfl, rfl⟩) (by assumption) ?_
              try simp only [Act.put, List.setIfInBounds_toArray, List.set_cons_zero, List.set_cons_succ]
              refine wpAnyH_take (i := 6) (oi := ⟨some 48, .move (.tmp 1), _, _, _, _⟩) (v := undef) rfl (by kernel_rfl) (by kernel_rfl) (by kernel_rfl) (fun _ _ _ h => h) (Or.inr ⟨by rfl, rfl⟩) (by assumption) ?_
              try simp only [Act.put, List.setIfInBounds_toArray, List.set_cons_zero, List.set_cons_succ]
              refine wpAnyH_take (i := 7) (oi := ⟨some 49, .move (.tmp 7), _, _, _, _⟩) (v := undef) rfl (by kernel_rfl) (by kernel_rfl) (by kernel_rfl) (fun _ _ _ h => h) (Or.inr ⟨by rfl, rfl⟩) (by assumption) ?_
              try simp only [Act.put, List.setIfInBounds_toArray, List.set_cons_zero, List.set_cons_succ]
              refine wpAnyH_take (i := 10) (oi := ⟨some 52, .move (.tmp 5), _, _, _, _⟩) (v := undef) rfl (by kernel_rfl) (by kernel_rfl) (by kernel_rfl) (fun _ _ _ h => h) (Or.inr ⟨by rfl, rfl⟩) (by assumption) ?_
              try simp only [Act.put, List.setIfInBounds_toArray, List.set_cons_zero, List.set_cons_succ]
              refine wpAnyH_take (i := 11) (oi := ⟨some 53, .move (.tmp 9), _, _, _, _⟩) (v := undef) rfl (by kernel_rfl) (by kernel_rfl) (by kernel_rfl) (fun _ _ _ h => h) (Or.inr ⟨by rfl, rfl⟩) (by assumption) ?_
              try simp only [Act.put, List.setIfInBounds_toArray, List.set_cons_zero, List.set_cons_succ]
              refine wpAnyH_take (i := 8) (oi := ⟨some 50, .indexAddr 30 (.tmp 48) (.tmp 49), _, _, _, _⟩) (v := undef) rfl (by kernel_rfl) (by kernel_rfl) (by kernel_rfl) (fun _ _ _ h => h) (Or.inr ⟨by rfl, rfl⟩) (by assumption) ?_
              try simp only [Act.put, List.setIfInBounds_toArray, List.set_cons_zero, List.set_cons_succ]
              refine wpAnyH_take (i := 12) (oi := ⟨some 54, .indexAddr 30 (.tmp 52) (.tmp 53), _, _, _, _⟩) (v := undef) rfl (by kernel_rfl) (by kernel_rfl) (by kernel_rfl) (fun _ _ _ h => h) (Or.inr ⟨by rfl, rfl⟩) (by assumption) ?_
              try simp only [Act.put, List.setIfInBounds_toArray, List.set_cons_zero, List.set_cons_succ]
              refine wpAnyH_take (i := 9) (oi := ⟨some 51, .load 23 (.tmp 50), _, _, _, _⟩) (v := undef) rfl (by kernel_rfl) (by kernel_rfl) (by kernel_rfl) (fun _ _ _ h => h) (Or.inr ⟨by rfl, rfl⟩) (by assumption) ?_
              try simp only [Act.put, List.setIfInBounds_toArray, List.set_cons_zero, List.set_cons_succ]
              refine wpAnyH_take (i := 13) (oi := ⟨some 55, .load 23 (.tmp 54), _, _, _, _⟩) (v := undef) rfl (by kernel_rfl) (by kernel_rfl) (by kernel_rfl) (fun _ _ _ h => h) (Or.inr ⟨by rfl, rfl⟩) (by assumption) ?_
              try simp only [Act.put, List.setIfInBounds_toArray, List.set_cons_zero, List.set_cons_succ]
              refine wpAnyH_take (i := 14) (oi := ⟨some 56, .call ⟨.value (.func 16), #[.tmp 47, .tmp 51, .tmp 55], #[27, 23, 23]⟩, _, _, _, _⟩) (v := undef) rfl (by kernel_rfl) (by kernel_rfl) (by kernel_rfl) (fun _ _ _ h => h) (Or.inr ⟨by rfl, rfl⟩) (by assumption) ?_
              try simp only [Act.put, List.setIfInBounds_toArray, List.set_cons_zero, List.set_cons_succ]
              refine wpAnyH_take (i := 15) (oi := ⟨some 57, .unOp .not 4 (.tmp 56), _, _, _, _⟩) (v := undef) rfl (by kernel_rfl) (by kernel_rfl) (by kernel_rfl) (fun _ _ _ h => h) (Or.inr ⟨by rfl, rfl⟩) (by assumption) ?_
              try simp only [Act.put, List.setIfInBounds_toArray, List.set_cons_zero, List.set_cons_succ]
              refine wpAnyH_take (i := 16) (oi := ⟨some 58, .pick (.tmp 46) (.tmp 57) (.const (.bool false)), _, _, _, _⟩) (v := ?_) rfl (by kernel_rfl) (by kernel_rfl) (by kernel_rfl) (fun _ _ _ h => h) (Or.inl ⟨by rfl, ?_⟩) (by assumption) ?_
              rotate_left
              · intro w' hSw
                go_simp
                try with_reducible rfl
              try simp only [Act.put, List.setIfInBounds_toArray, List.set_cons_zero, List.set_cons_succ]
              refine wpAnyH_done (by kernel_rfl) ?_ _
              obtain ⟨w6, hw6⟩ : ∃ w6, w6 = w3.drew := ⟨_, rfl⟩
              have nx6 := ownsR_later NX.out (w' := w6) (by rw [hw6]; exact (Below.refl _ _).drew)
              have b6 := B6.out.trans (c := w6) (by rw [hw6]; exact ((Below.refl _ _).drew).mono B6.out.size)
              rw [← hw6]
              clear hHeld NX B6 hw6 jj
              have NX := Lib.hid nx6
              have B6 := Lib.hid b6
              clear nx6 b6
              rcases Nat.eq_zero_or_pos j with h0 | h0
              · have hq := HZ.out h0
                simp only [Value.slice.injEq] at hq
                obtain ⟨rfl, -, rfl⟩ := hq
                subst h0
                have hcL : w6.cell? ⟨gL, oL + 0, none⟩ = some (.slice tp tn tc) := (B6.out.cell (p := ⟨gL, oL + 0, none⟩) (block_lt_of_cell HCL.out)).trans HCL.out
                rw [Nat.add_zero] at hcL
                have hbs := B6.out.size
                have HBS := Lib.hid hbs
                clear hbs
                go_upto_region 16 with (at_builtin; refine wpList_append_own _ (by rfl) (.tmp 68) (.tmp 73) 30 (by rfl) w2.heap.size 23 i23 (.slice none 0 0) 1 24 U52 HI.out HI0.out HI1.out HI2.out (by rfl) (by decide) _ 0 _ (by rfl) (NX.out.alloc _) ⟨w6.heap.size, 0, none⟩ 1 1 (hv LR [0]) (by rfl) (by rfl) (hv_new HTM.out) (hv_one _ _) (by unfold maxLen; omega) (by omega) (by have := HBS.out; simp; omega) ?_; intro v7 w7 hown7 hgrow7 _)
                have hb7 : Below w2.heap.size w2 w7 := (B6.out.alloc B6.out.size _).grown hgrow7 (by have := HBS.out; simp; omega) (fun i hi => ((NX.out.alloc (.cells #[.slice tp tn tc] 23)).lt i hi).1)
                rw [← hv_append] at hown7
                have NX7 := Lib.hid hown7
                have B7 := Lib.hid hb7
                clear hown7 hgrow7 hb7 hcL NX
                go_wp2_with (at_builtin; refine wpList_append_own_none (by rfl) (.tmp 75) (.tmp 78) 30 (by rfl) w2.heap.size 23 i23 1 U52 HI.out _ (0 + 1) _ (by rfl) NX7.out (by rfl) ?_)
                have he := NX7.out
                rw [show l.take 0 ++ [0] = l.take 0 ++ [0] ++ l.drop 0 from by rw [HDR.out, List.append_nil]] at he
                have HE := Lib.hid he
                clear he
                have BE := Lib.hid B7.out
                go_roundw
                case rel => exact rs2_next HLEN.out HJ.out HINS.out HE.out (by omega) hlt BE.out HBW2.out
                case measure => simp [intOf]; omega
              · obtain ⟨gO, oO, rfl, -, -⟩ := HR2.out.cell 0 h0
                have HDL := Lib.hid (show (hv LR (l.drop j)).length = 0 * 1 by rw [HDR.out]; rfl)
                by_cases cj : c2 = j
                · obtain rfl : j = c2 := cj.symm
                  have hcL : w6.cell? ⟨gL, oL + j, none⟩ = some (.slice tp tn tc) := (B6.out.cell (p := ⟨gL, oL + j, none⟩) (block_lt_of_cell HCL.out)).trans HCL.out
                  skip
                  have hbs := B6.out.size
                  have HBS := Lib.hid hbs
                  clear hbs
                  go_upto_region 16 with (at_builtin; refine wpList_append_own _ (by rfl) (.tmp 68) (.tmp 73) 30 (by rfl) w2.heap.size 23 i23 (.slice none 0 0) 1 24 U52 HI.out HI0.out HI1.out HI2.out (by rfl) (by decide) _ j _ (by rfl) (NX.out.alloc _) ⟨w6.heap.size, 0, none⟩ 1 1 (hv LR [j]) (by rfl) (by rfl) (hv_new HTM.out) (hv_one _ _) (by unfold maxLen; omega) (by omega) (by have := HBS.out; simp; omega) ?_; intro v7 w7 hown7 hgrow7 _)
                  have hb7 : Below w2.heap.size w2 w7 := (B6.out.alloc B6.out.size _).grown hgrow7 (by have := HBS.out; simp; omega) (fun i hi => ((NX.out.alloc (.cells #[.slice tp tn tc] 23)).lt i hi).1)
                  rw [← hv_append] at hown7
                  have NX7 := Lib.hid hown7
                  have B7 := Lib.hid hb7
                  clear hown7 hgrow7 hb7 hcL NX
                  have HSZ7 := Lib.hid B7.out.size
                  go_wp2_with (at_builtin; refine wpList_append_own _ (by rfl) (.tmp 75) (.tmp 78) 30 (by rfl) w2.heap.size 23 i23 (.slice none 0 0) 1 24 U52 HI.out HI0.out HI1.out HI2.out (by rfl) (by decide) _ (j + 1) _ (by rfl) NX7.out ⟨gO, oO, none⟩ _ _ (hv LR (l.drop j)) (by rfl) HDL.out (by rw [HDR.out]; intro i u hu; simp [hv] at hu) (hv_one _ _) (by unfold maxLen; omega) (by omega) HSZ7.out ?_; intro v8 w8 hown8 hgrow8 _)
                  have hb8 : Below w2.heap.size w2 w8 := B7.out.grown hgrow8 HSZ7.out (fun i hi => (NX7.out.lt i hi).1)
                  rw [← hv_append] at hown8
                  have HE := Lib.hid hown8
                  have BE := Lib.hid hb8
                  clear hown8 hgrow8 hb8
                  go_roundw
                  case rel => exact rs2_next HLEN.out HJ.out HINS.out HE.out (by omega) hlt BE.out HBW2.out
                  case measure => simp [intOf]; omega
                · skip
                  have hcL : w6.cell? ⟨gL, oL + j, none⟩ = some (.slice tp tn tc) := (B6.out.cell (p := ⟨gL, oL + j, none⟩) (block_lt_of_cell HCL.out)).trans HCL.out
                  skip
                  have hbs := B6.out.size
                  have HBS := Lib.hid hbs
                  clear hbs
                  go_upto_region 16 with (at_builtin; refine wpList_append_own _ (by rfl) (.tmp 68) (.tmp 73) 30 (by rfl) w2.heap.size 23 i23 (.slice none 0 0) 1 24 U52 HI.out HI0.out HI1.out HI2.out (by rfl) (by decide) _ j _ (by rfl) (NX.out.alloc _) ⟨w6.heap.size, 0, none⟩ 1 1 (hv LR [j]) (by rfl) (by rfl) (hv_new HTM.out) (hv_one _ _) (by unfold maxLen; omega) (by omega) (by have := HBS.out; simp; omega) ?_; intro v7 w7 hown7 hgrow7 _)
                  have hb7 : Below w2.heap.size w2 w7 := (B6.out.alloc B6.out.size _).grown hgrow7 (by have := HBS.out; simp; omega) (fun i hi => ((NX.out.alloc (.cells #[.slice tp tn tc] 23)).lt i hi).1)
                  rw [← hv_append] at hown7
                  have NX7 := Lib.hid hown7
                  have B7 := Lib.hid hb7
                  clear hown7 hgrow7 hb7 hcL NX
                  have HSZ7 := Lib.hid B7.out.size
                  go_wp2_with (at_builtin; refine wpList_append_own _ (by rfl) (.tmp 75) (.tmp 78) 30 (by rfl) w2.heap.size 23 i23 (.slice none 0 0) 1 24 U52 HI.out HI0.out HI1.out HI2.out (by rfl) (by decide) _ (j + 1) _ (by rfl) NX7.out ⟨gO, oO + j, none⟩ _ _ (hv LR (l.drop j)) (by rfl) HDL.out (by rw [HDR.out]; intro i u hu; simp [hv] at hu) (hv_one _ _) (by unfold maxLen; omega) (by omega) HSZ7.out ?_; intro v8 w8 hown8 hgrow8 _)
                  have hb8 : Below w2.heap.size w2 w8 := B7.out.grown hgrow8 HSZ7.out (fun i hi => (NX7.out.lt i hi).1)
                  rw [← hv_append] at hown8
                  have HE := Lib.hid hown8
                  have BE := Lib.hid hb8
                  clear hown8 hgrow8 hb8
                  go_roundw
                  case rel => exact rs2_next HLEN.out HJ.out HINS.out HE.out (by omega) hlt BE.out HBW2.out
                  case measure => simp [intOf]; omega
        · obtain rfl : m = k := by omega
          obtain ⟨q2, c2, rfl, hrows⟩ := rows_of_owns HOUT.out (fun j hj => getD_Ok L2.out j (St.refS_mem hj))
          have HR2 := Lib.hid hrows
          clear hrows
          go_wp2_with fail
          go_ret
          unfold RSortPost
          rw [if_pos HALL.out]
          exact ⟨q2, c2, rfl, HR2.out, O1.out.below.trans (HBW2.out.mono O1.out.below.size)⟩
end Go.Proofs.Ytnigfipjcnamfaa

/- For BoxSorts: rows that are copied, sorted, written over. -/
namespace Go.Proofs.Ytnigfipjcnamfaa
open Go.RowKit

/-- A row whose header is known. -/
def rwOf (R : List Int) : Value → Rw
  | .slice p n c => ⟨p, n, c, R⟩
  | _ => default
theorem ints_of_own {w : World} {base n : Nat} {v : Value} {R : List Int} (h : w.ownsRow base 2 1 v n (ivs R)) (hR : ∀ x ∈ R, -9223372036854775808 ≤ x ∧ x ≤ 9223372036854775807) : ∃ q c, v = .slice q n c ∧ Ints w q n c R := by
  have hl : n = R.length := by have := h.1; rw [ivs_length, Nat.mul_one] at this; exact this.symm
  rcases h.2 with ⟨rfl, h0⟩ | ⟨g, cap, cur, rfl, hb, hg, hle, hm, hs, ht⟩
  · subst h0
    exact ⟨none, 0, rfl, hl, Nat.le_refl _, hR, Or.inl (List.length_eq_zero_iff.1 hl.symm)⟩
  · refine ⟨_, cap, rfl, hl, hle, hR, Or.inr ⟨g, 0, rfl, fun i hi => ?_⟩⟩
    have := World.ownsRow.cellAt h i (by omega)
    rw [Nat.zero_add, this, ivs_get R i hi]
theorem own_ge {w : World} {base n c : Nat} {v : Value} {q : Option Addr} {R : List Int} (h : w.ownsRow base 2 1 v n (ivs R)) (hv : v = .slice q n c) : R ≠ [] → ∀ g o, q = some ⟨g, o, none⟩ → base ≤ g := by
  intro _ g o hq
  subst hv
  subst hq
  rcases h.2 with ⟨h1, _⟩ | ⟨g', cap, cur, h1, hb, _⟩
  · simp at h1
  · simp at h1
    omega
/-- Headers of rows. -/
def rvs (M : List Rw) : List Value := M.map Rw.val
theorem rvs_one (M : List Rw) : ∀ u ∈ rvs M, u.oneCell' = true := by
  intro u hu
  simp only [rvs, List.mem_map] at hu
  obtain ⟨x, _, rfl⟩ := hu
  rfl
theorem rvs_append (M N : List Rw) : rvs (M ++ N) = rvs M ++ rvs N := by simp [rvs]
theorem rowsIn_of_rvs {w : World} {base n : Nat} {v : Value} {M : List Rw} (h : w.ownsRow base 23 1 v n (rvs M)) (hok : ∀ t ∈ M, t.Ok w) : ∃ q c, v = .slice q n c ∧ RowsIn w q n c M := by
  have hl : n = M.length := by have := h.1; rw [rvs, List.length_map, Nat.mul_one] at this; exact this.symm
  rcases h.2 with ⟨rfl, h0⟩ | ⟨g, cap, cur, rfl, hb, hg, hle, hm, hs, ht⟩
  · subst h0
    exact ⟨none, 0, rfl, hl, Nat.le_refl _, hok, Or.inl (List.length_eq_zero_iff.1 hl.symm)⟩
  · refine ⟨_, cap, rfl, hl, hle, hok, Or.inr ⟨g, 0, rfl, fun i hi => ?_⟩⟩
    rw [Nat.zero_add, cell_of_row w g i cur _ _ hg]
    have e : (cur.toList.take (n * 1))[i]? = (rvs M)[i]? := by rw [ht]
    rw [List.getElem?_take_of_lt (by omega)] at e
    simp [rvs, List.getElem?_eq_getElem hi] at e
    rw [e]
    simp [List.getD_eq_getElem?_getD, List.getElem?_eq_getElem hi]
theorem rv_new {t : Rw} {q : Option Addr} {n c : Nat} {R : List Int} (ht : t = ⟨q, n, c, R⟩) (w : World) : ∀ j u, (rvs [t])[j]? = some u → (w.alloc (.cells #[.slice q n c] 23)).cell? ((⟨w.heap.size, 0, none⟩ : Addr).add j) = some u := fun j u hu => by
  subst ht
  have hj : j = 0 := by have := (List.getElem?_eq_some_iff.1 hu).1; simp [rvs] at this; omega
  subst hj
  simp [rvs, Rw.val] at hu
  rw [Addr.add_mid, ← hu]
  exact cell_of_row _ _ 0 _ _ (0, 0) (heap_alloc_new w _)
theorem rows_ok_later {w w' : World} {M : List Rw} (h : ∀ t ∈ M, t.Ok w) (hb : Below w.heap.size w w') : ∀ t ∈ M, t.Ok w' := fun t ht => (h t ht).later hb
theorem Ints.grownR {w w' : World} {p : Option Addr} {n c : Nat} {R : List Int} {r : Option Nat} (h : Ints w p n c R) (hg : w.grownBy w' r) (hne : R ≠ [] → ∀ g o, p = some ⟨g, o, none⟩ → r ≠ some g) : Ints w' p n c R := by
  refine ⟨h.size, h.le, h.ok, ?_⟩
  rcases h.at' with h0 | ⟨g, o, hp, hx⟩
  · exact Or.inl h0
  · refine Or.inr ⟨g, o, hp, fun i hi => ?_⟩
    have h1 := hx i hi
    have hb := hg.block g (block_lt_of_cell h1) (fun e => hne (by intro e0; rw [e0] at hi; simp at hi) g o hp e.symm)
    simp only [World.cell?] at h1 ⊢
    rw [hb]
    exact h1
/-- A list's headers lie apart from a row's numbers. -/
def ApartR (v : Value) (t : Rw) : Prop := t.R ≠ [] → ∀ g o, t.p = some ⟨g, o, none⟩ → v.ownBlock ≠ some g
theorem Ints.lt {w : World} {p : Option Addr} {n c : Nat} {R : List Int} (h : Ints w p n c R) (hR : R ≠ []) {g o : Nat} (hp : p = some ⟨g, o, none⟩) : g < w.heap.size := by
  rcases h.at' with h0 | ⟨g', o', hp', hx⟩
  · exact absurd h0 hR
  · rw [hp] at hp'
    simp only [Option.some.injEq, Addr.mk.injEq, and_true] at hp'
    obtain ⟨rfl, rfl⟩ := hp'
    exact block_lt_of_cell (hx 0 (List.length_pos_iff.2 hR))
/-- One row more in a list of a call's own. -/
theorem own_more {wr W1 w28 : World} {base : Nat} {v v28 : Value} {M : List Rw} {t : Rw} {k : Nat} {O : Obj} (ho : wr.ownsRow base 23 1 v k (rvs M)) (hok : ∀ t ∈ M, t.Ok wr) (hap : ∀ t ∈ M, ApartR v t)
    (hb1 : Below wr.heap.size wr W1) (ht : t.Ok W1) (htn : t.R ≠ [] → ∀ g o, t.p = some ⟨g, o, none⟩ → wr.heap.size ≤ g) (hg : (W1.alloc O).grownBy w28 v.ownBlock) (hv : v28.ownBlock = v.ownBlock ∨ v28.ownBlock = some (W1.alloc O).heap.size) :
    (∀ u ∈ M ++ [t], u.Ok w28) ∧ (∀ u ∈ M ++ [t], ApartR v28 u) := by
  have hal : Below W1.heap.size W1 (W1.alloc O) := (Below.refl _ _).alloc (Nat.le_refl _) _
  have hlt : ∀ g, v.ownBlock = some g → g < wr.heap.size := fun g hg => (ho.lt g hg).2
  have key : ∀ u ∈ M ++ [t], u.Ok (W1.alloc O) ∧ ApartR v u := fun u hu => by
    rcases List.mem_append.1 hu with h | h
    · exact ⟨((hok u h).later hb1).later hal, hap u h⟩
    · simp at h
      subst h
      exact ⟨ht.later hal, fun hR g o hp e => by have := htn hR g o hp; have := hlt g e; omega⟩
  refine ⟨fun u hu => ⟨(key u hu).1.ints.grownR hg (key u hu).2, (key u hu).1.top⟩, fun u hu hR g o hp => ?_⟩
  rcases hv with e | e
  · rw [e]; exact (key u hu).2 hR g o hp
  · rw [e]
    have := (key u hu).1.ints.lt hR hp
    intro e2
    simp at e2
    simp at this
    omega
/-- What Sort tells, as a list of rows. -/
def sRows (v : Nat → Value) (f : Nat → List Int) (n : Nat) : List Rw := (List.range n).map fun i => rwOf (f i) (v i)
theorem sRows_in {w : World} {gs n : Nat} {v : Nat → Value} {f : Nat → List Int} (h : OwnRows w gs n v f n) (hf : ∀ i, i < n → ∀ x ∈ f i, -9223372036854775808 ≤ x ∧ x ≤ 9223372036854775807) (hn : ∀ i, i < n → (f i).length ≤ 1000) : RowsIn w (some ⟨gs, 0, none⟩) n n (sRows v f n) := by
  refine ⟨by simp [sRows], Nat.le_refl _, fun t ht => ?_, Or.inr ⟨gs, 0, rfl, fun i hi => ?_⟩⟩
  · simp only [sRows, List.mem_map, List.mem_range] at ht
    obtain ⟨i, hi, rfl⟩ := ht
    obtain ⟨g, c, m, h1, h2, h3⟩ := h.rows i hi
    rw [h1]
    have := h2.length
    have := hn i hi
    exact ⟨h2.ints (hf i hi), by show m ≤ _; omega⟩
  · have hi' : i < n := by simpa [sRows] using hi
    obtain ⟨g, c, m, h1, -, -⟩ := h.rows i hi'
    rw [Nat.zero_add, cell_of_row w gs i _ _ _ h.heads, heads_get v n i hi']
    simp [sRows, hi', h1, rwOf, Rw.val]
theorem sRows_nums {w : World} {gs n : Nat} {v : Nat → Value} {f : Nat → List Int} (h : OwnRows w gs n v f n) : nums (sRows v f n) = (List.range n).map f := by
  unfold nums sRows
  rw [List.map_map]
  apply List.map_congr_left
  intro i hi
  obtain ⟨g, c, m, h1, -, -⟩ := h.rows i (by simpa using hi)
  simp [h1, rwOf]
theorem toList_range (d : Array Nat) (n : Nat) (h : d.size = n) (F : Nat → List Int) : (List.range n).map (fun i => F d[i]!) = d.toList.map F := by
  subst h
  apply List.ext_getElem (by simp)
  intro i h1 h2
  have hi : i < d.size := by simpa using h1
  simp [hi]
/-- Both sorts tell the same rows. -/
theorem sorts_alike {kd cl : Int} {A : List Int} {an n c : Nat} {p : Option Addr} {LR : List Rw} {w : World} (hA : ∀ x ∈ A, -9223372036854775808 ≤ x ∧ x ≤ 9223372036854775807) (hL : RowsIn w p n c LR) (hg : ∀ k, k < n → goodRow kd cl an LR k) :
    (List.range n).map (ordRows kd cl A an n LR) = nums (rowsOf LR (St.refS (ahB kd cl A an LR) n)) := by
  have e : St.refS (ahB kd cl A an LR) n = St.refS (elt (elsOf kd cl A an LR)) n := St.refS_congr n fun i j hi hj => ahB_elt hA hL i j hi hj (hg i hi) (hg j hj)
  rw [e, ← St.stable_refS (elt_swo _) n]
  have hsz : (St.stable (elt (elsOf kd cl A an LR)) n (Array.range n)).size = n := by rw [(elt_stable (elsOf kd cl A an LR) n).1.1]; simp
  unfold ordRows nums rowsOf
  rw [toList_range _ n hsz (fun j => (LR.getD j default).R), List.map_map]
  rfl
/-- What stays of Sort's rows while they are written over. -/
def Wk (w : World) (gs n : Nat) (v : Nat → Value) : Prop := w.heap[gs]? = some (.cells (heads v n) 23 (0, 0)) ∧ ∀ i, i < n → ∃ g c m x, v i = .slice (some ⟨g, 0, none⟩) m c ∧ gs + 1 ≤ g ∧ 1 ≤ m ∧ w.cell? ⟨g, 0, none⟩ = some (.int .i64 x) ∧ w.frozen? ⟨g, 0, none⟩ = false
theorem wk_of {w : World} {gs n : Nat} {v : Nat → Value} {f : Nat → List Int} (h : OwnRows w gs n v f n) : Wk w gs n v := by
  refine ⟨h.heads, fun i hi => ?_⟩
  obtain ⟨g, c, m, h1, h2, h3⟩ := h.rows i hi
  have hc := World.ownsRow.cellAt h2 0 (by omega)
  have hl := h2.length
  rw [ivs_get (f i) 0 (by omega)] at hc
  rcases h2.2 with ⟨h4, _⟩ | ⟨g', cap, cur, hv, hb, hg, _⟩
  · simp at h4
  · obtain ⟨rfl, rfl⟩ : g = g' ∧ c = cap := by simpa using hv
    exact ⟨g, c, m, _, h1, hb, h3, hc, frozen_of_row w g _ _ _ hg⟩
theorem Wk.put {w : World} {gs n : Nat} {v : Nat → Value} (h : Wk w gs n v) {g : Nat} (hg : gs + 1 ≤ g) (y : Int) (hc : ∃ x, w.cell? ⟨g, 0, none⟩ = some (.int .i64 x)) : Wk (w.setCell ⟨g, 0, none⟩ (.int .i64 y)) gs n v := by
  refine ⟨by rw [heap_setCell_other _ _ _ _ (by show gs ≠ g; omega)]; exact h.1, fun i hi => ?_⟩
  obtain ⟨g2, c, m, x, h1, h2, h3, h4, h5⟩ := h.2 i hi
  by_cases e : g2 = g
  · subst e
    exact ⟨g2, c, m, y, h1, h2, h3, World.cell?_setCell_same _ _ _ h4, by rw [World.frozen?_setCell]; exact h5⟩
  · exact ⟨g2, c, m, x, h1, h2, h3, (World.cell?_setCell_far w ⟨g, 0, none⟩ ⟨g2, 0, none⟩ _ (fun h => e h.symm)).trans h4, by rw [World.frozen?_setCell]; exact h5⟩
theorem Wk.later {w w' : World} {gs n : Nat} {v : Nat → Value} (h : Wk w gs n v) (hb : Below w.heap.size w w') : Wk w' gs n v :=
  ⟨(hb.block _ (Array.getElem?_eq_some_iff.1 h.1).1).trans h.1, fun i hi => by
    obtain ⟨g, c, m, x, h1, h2, h3, h4, h5⟩ := h.2 i hi
    exact ⟨g, c, m, x, h1, h2, h3, (hb.cell (p := ⟨g, 0, none⟩) (block_lt_of_cell h4)).trans h4, (hb.frozen (p := ⟨g, 0, none⟩) (block_lt_of_cell h4)).trans h5⟩⟩
end Go.Proofs.Ytnigfipjcnamfaa

/- Plain: what ask.Of tells, over lists of numbers. -/
namespace Go.Proofs.Ytnigfipjcnamfaa.Ak
open Go.RowKit

/-- Rows in order. -/
def sortN (kd cl : Int) (A : List Int) (an : Nat) (l : List (List Int)) : List (List Int) :=
  (St.refS (fun i j => decide (aheadP kd cl A (l.getD i []) (l.getD j []) an (l.getD i []).length (l.getD j []).length)) l.length).map fun j => l.getD j []
theorem nums_getD (L : List Rw) (i : Nat) (hi : i < L.length) : (nums L).getD i [] = (L.getD i default).R := by
  simp [nums, List.getD_eq_getElem?_getD, hi]
theorem sortN_rows (kd cl : Int) (A : List Int) (an : Nat) (L : List Rw) (h : ∀ t ∈ L, t.n = t.R.length) : nums (rowsOf L (St.refS (ahB kd cl A an L) L.length)) = sortN kd cl A an (nums L) := by
  have hl : (nums L).length = L.length := by simp [nums]
  have hm : ∀ i, i < L.length → (L.getD i default).n = (L.getD i default).R.length := fun i hi => by
    rw [List.getD_eq_getElem?_getD, List.getElem?_eq_getElem hi]
    exact h _ (List.getElem_mem hi)
  have e : St.refS (fun i j => decide (aheadP kd cl A ((nums L).getD i []) ((nums L).getD j []) an ((nums L).getD i []).length ((nums L).getD j []).length)) L.length = St.refS (ahB kd cl A an L) L.length :=
    St.refS_congr L.length fun i j hi hj => by
      show decide (aheadP kd cl A ((nums L).getD i []) ((nums L).getD j []) an ((nums L).getD i []).length ((nums L).getD j []).length) = decide (aheadP kd cl A (L.getD i default).R (L.getD j default).R an (L.getD i default).n (L.getD j default).n)
      rw [nums_getD L i hi, nums_getD L j hj, hm i hi, hm j hj]
  unfold sortN
  rw [hl, e]
  show ((St.refS (ahB kd cl A an L) L.length).map fun j => L.getD j default).map Rw.R = _
  rw [List.map_map]
  apply List.map_congr_left
  intro j hj
  exact (nums_getD L j (St.refS_mem hj)).symm
/-- The first ones, or all. -/
def cutL (lim : Int) (l : List (List Int)) : List (List Int) := if lim = -1 then l else l.take lim.toNat
def keepB (R S : List Int) (P : List Int) : Bool := hasB R S P R.length S.length P.length
/-- The rows, and the number, that Of tells of a query that may be. -/
def ansR (R S : List Int) (kd cl : Int) (A : List Int) (an : Nat) (lim : Int) (cnt : Bool) (l : List (List Int)) : List (List Int) :=
  if cnt = true then [] else cutL lim (sortN kd cl A an (l.filter (keepB R S)))
def ansC (R S : List Int) (cnt : Bool) (l : List (List Int)) : Nat := if cnt = true then (l.filter (keepB R S)).length else 0
theorem nums_filter (f : List Int → Bool) : ∀ L : List Rw, nums (L.filter fun t => f t.R) = (nums L).filter f
  | [] => rfl
  | t :: L => by
    have h := nums_filter f L
    unfold nums at h ⊢
    by_cases ht : f t.R = true
    · rw [List.filter_cons_of_pos (by exact ht), List.map_cons, List.map_cons, List.filter_cons_of_pos ht, h]
    · rw [List.filter_cons_of_neg (by exact ht), List.map_cons, List.filter_cons_of_neg ht, h]
theorem nums_take (L : List Rw) (k : Nat) : nums (L.take k) = (nums L).take k := by simp [nums]
theorem nums_length (L : List Rw) : (nums L).length = L.length := by simp [nums]
/-- A part of rows that lie. -/
theorem rowsIn_take {w : World} {p : Option Addr} {n c : Nat} {L : List Rw} (h : RowsIn w p n c L) (k : Nat) (hk : k ≤ n) : RowsIn w p k c (L.take k) := by
  have hs := h.size
  have hle := h.le
  refine ⟨by rw [List.length_take]; omega, by omega, fun t ht => h.each t (List.mem_of_mem_take ht), ?_⟩
  rcases h.at' with h0 | ⟨g, o, hp, hx⟩
  · exact Or.inl (by rw [h0]; exact List.take_nil)
  · refine Or.inr ⟨g, o, hp, fun i hi => ?_⟩
    rw [List.length_take] at hi
    rw [hx i (by omega), List.getD_eq_getElem?_getD, List.getD_eq_getElem?_getD, List.getElem?_take_of_lt (by omega)]
theorem rows_len {w : World} {p : Option Addr} {n c : Nat} {L : List Rw} (h : RowsIn w p n c L) : ∀ t ∈ L, t.n = t.R.length := fun t ht => (h.each t ht).ints.size
end Go.Proofs.Ytnigfipjcnamfaa.Ak

/- slices.IndexFunc, ContainsFunc and Clone of rows. -/
namespace Go.Proofs.Ytnigfipjcnamfaa.Ak
open Go.RowKit

/-- What is asked of a function of rows, from a world on. -/
def AskR (w : World) (L : List Rw) (f : Rw → Bool) (F : Nat) (cap : Array Value) : Prop := ∀ r ∈ L, ∀ w', Below w.heap.size w w' → Calls Try.prog F (#[r.val] ++ cap) w' fun e w'' => e = .returned (.bool (f r)) ∧ Below w'.heap.size w' w''
theorem AskR.later {w w2 : World} {L : List Rw} {f : Rw → Bool} {F : Nat} {cap : Array Value} (h : AskR w L f F cap) (hb : Below w.heap.size w w2) : AskR w2 L f F cap := fun r hr w' hw => h r hr w' (hb.trans (hw.mono hb.size))
def IxRel (w : World) (L : List Rw) (f : Rw → Bool) (n : Nat) (i : Value) (wr : World) : Prop := ∃ k : Nat, k ≤ n ∧ i = .int .i64 k ∧ (∀ j, j < k → f (L.getD j default) = false) ∧ Below w.heap.size w wr
/-- The first one that the function holds of. -/
def IxPost (w : World) (L : List Rw) (f : Rw → Bool) (e : Ending) (w' : World) : Prop := ∃ i : Int, e = .returned (.int .i64 i) ∧ ((∃ k : Nat, i = k ∧ k < L.length ∧ f (L.getD k default) = true ∧ ∀ j, j < k → f (L.getD j default) = false) ∨ (i = -1 ∧ ∀ r ∈ L, f r = false)) ∧ Below w.heap.size w w'
set_option maxRecDepth 100000 in
set_option maxHeartbeats 1000000 in
theorem index_any (p : Option Addr) (n c : Nat) (L : List Rw) (f : Rw → Bool) (F : Nat) (cap : Array Value) (hF : ∀ args w, (callFunc F args).run Try.prog w = .ok (.enter F args) w) (w : World) (hL : RowsIn w p n c L) (hn : n ≤ 1000000000) (hs : AskR w L f F cap) :
    Calls Try.prog 40 #[.slice p n c, .func (.func F) #[] cap] w (IxPost w L f) := by
  have HS := Lib.hid hs
  have HL := Lib.hid hL
  have HN := Lib.hid hL.size
  clear hs hL
  go_enter Try.func40, Try.ntmps40
  go_wp2_with fail
  go_loopw [5, 8] (fun _ i wr => IxRel w L f n i wr) (fun _ i _ => n - (intOf i).toNat)
  case atStart => exact ⟨0, by omega, rfl, (fun j hj => by omega), Below.refl _ _⟩
  case round =>
    obtain ⟨k, hk, rfl, hal, hb⟩ := hrel
    have HA := Lib.hid hal
    have HB := Lib.hid hb
    clear hal hb
    by_cases hlt : k < n
    · obtain ⟨g, o, rfl, c1, hok⟩ := (HL.out.later HB.out).cell k hlt
      have i1 : (0 : Int) ≤ k ∧ (k : Int) < n := by omega
      have hlen : k < L.length := by rw [← HN.out]; exact hlt
      have hmem : L.getD k default ∈ L := by
        rw [List.getD_eq_getElem?_getD, List.getElem?_eq_getElem hlen]
        exact List.getElem_mem hlen
      have hc := HS.out _ hmem wr HB.out
      have HX := Lib.hid (show f (L.getD k default) = false → ∀ j, j < k + 1 → f (L.getD j default) = false from fun h j hj => by
        rcases Nat.lt_or_ge j k with h1 | h1
        · exact HA.out j h1
        · obtain rfl : j = k := by omega
          exact h)
      have HR := Lib.hid (show f (L.getD k default) = true → ∃ k' : Nat, (k : Int) = k' ∧ k' < L.length ∧ f (L.getD k' default) = true ∧ ∀ j, j < k' → f (L.getD j default) = false from fun h => ⟨k, rfl, hlen, h, HA.out⟩)
      clear hok hmem hlen
      generalize L.getD k default = r at *
      simp only [Rw.val] at c1
      unfold Rw.val at hc
      cases hfk : f r with
      | true =>
        rw [hfk] at hc
        have HC := Lib.hid hc
        have HR2 := Lib.hid (HR.out hfk)
        clear hc hfk HX HR
        go_wp2_with (refine HC.out.mono ?_; rintro e w'' ⟨rfl, b2⟩; have HB2 := Lib.hid (HB.out.trans (b2.mono HB.out.size)); clear b2)
        go_ret
        exact ⟨k, rfl, Or.inl HR2.out, HB2.out⟩
      | false =>
        rw [hfk] at hc
        have HC := Lib.hid hc
        have HX2 := Lib.hid (HX.out hfk)
        clear hc hfk HX HR
        go_wp2_with (refine HC.out.mono ?_; rintro e w'' ⟨rfl, b2⟩; have HB2 := Lib.hid (HB.out.trans (b2.mono HB.out.size)); clear b2)
        go_roundw
        case rel => exact ⟨k + 1, by omega, by go_num, HX2.out, HB2.out⟩
        case measure => simp [intOf]; omega
    · obtain rfl : n = k := by omega
      have HW := Lib.hid (show ∀ r ∈ L, f r = false from fun r hr => by
        obtain ⟨j, hj, rfl⟩ := List.getElem_of_mem hr
        have := HA.out j (by rw [HN.out]; exact hj)
        rwa [List.getD_eq_getElem?_getD, List.getElem?_eq_getElem hj] at this)
      go_wp2_with fail
      go_ret
      exact ⟨-1, rfl, Or.inr ⟨rfl, HW.out⟩, HB.out⟩
set_option maxRecDepth 100000 in
set_option maxHeartbeats 1000000 in
theorem contains_any (p : Option Addr) (n c : Nat) (L : List Rw) (f : Rw → Bool) (F : Nat) (cap : Array Value) (hF : ∀ args w, (callFunc F args).run Try.prog w = .ok (.enter F args) w) (w : World) (hL : RowsIn w p n c L) (hn : n ≤ 1000000000) (hs : AskR w L f F cap) :
    Calls Try.prog 22 #[.slice p n c, .func (.func F) #[] cap] w fun e w' => e = .returned (.bool (L.any f)) ∧ Below w.heap.size w w' := by
  have HI := Lib.hid (index_any p n c L f F cap hF w hL hn hs)
  clear hL hs hF
  obtain ⟨b, hb⟩ : ∃ b, L.any f = b := ⟨_, rfl⟩
  rw [hb]
  have HBB := Lib.hid hb
  clear hb
  cases b with
  | true =>
    have HT := Lib.hid (show ∀ i : Int, ((∃ k : Nat, i = k ∧ k < L.length ∧ f (L.getD k default) = true ∧ ∀ j, j < k → f (L.getD j default) = false) ∨ (i = -1 ∧ ∀ r ∈ L, f r = false)) → 0 ≤ i from fun i h => by
      rcases h with ⟨k, rfl, -⟩ | h
      · omega
      · obtain ⟨r, hr, hf⟩ := List.any_eq_true.1 HBB.out
        rw [h.2 r hr] at hf
        cases hf)
    go_enter Try.func22, Try.ntmps22
    go_wp2_with (go_at_call 40; refine HI.out.mono ?_; rintro _ w2 ⟨i, rfl, hi, b2⟩; have hx := HT.out i hi; have HB2 := Lib.hid b2; clear hi b2)
    go_ret
    exact ⟨(by first | rfl | exact congrArg (fun b => Ending.returned (.bool b)) (decide_eq_true hx)), HB2.out⟩
  | false =>
    have HT := Lib.hid (show ∀ i : Int, ((∃ k : Nat, i = k ∧ k < L.length ∧ f (L.getD k default) = true ∧ ∀ j, j < k → f (L.getD j default) = false) ∨ (i = -1 ∧ ∀ r ∈ L, f r = false)) → ¬ 0 ≤ i from fun i h => by
      rcases h with ⟨k, rfl, hk, hf, -⟩ | h
      · have hm : L.getD k default ∈ L := by
          rw [List.getD_eq_getElem?_getD, List.getElem?_eq_getElem hk]
          exact List.getElem_mem hk
        have := List.any_eq_true.2 ⟨_, hm, hf⟩
        rw [HBB.out] at this
        cases this
      · omega)
    go_enter Try.func22, Try.ntmps22
    go_wp2_with (go_at_call 40; refine HI.out.mono ?_; rintro _ w2 ⟨i, rfl, hi, b2⟩; have hx := HT.out i hi; have HB2 := Lib.hid b2; clear hi b2)
    go_ret
    exact ⟨(by first | rfl | exact congrArg (fun b => Ending.returned (.bool b)) (decide_eq_false (by omega))), HB2.out⟩
end Go.Proofs.Ytnigfipjcnamfaa.Ak
