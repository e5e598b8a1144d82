/- BoxSortGo, BoxTie, BoxTieAll, BoxSorted, BoxRefIns. -/
import Derived.Test.YtnigfipjcnamfaaM3
import Derived.Sort.LotA
/- box.Sort. -/
namespace Go.Proofs.Ytnigfipjcnamfaa
open Go.RowKit

/-- A row with its place in an order. -/
def elOf (kd cl : Int) (A : List Int) (an : Nat) (t : Rw) : El :=
  ⟨keyI kd cl A t.R an t.n / 18446744073709551616 % 18446744073709551616, keyI kd cl A t.R an t.n % 18446744073709551616, t.R.getD 0 0, t.p, t.n, t.c, t.R⟩
def elsOf (kd cl : Int) (A : List Int) (an : Nat) (LR : List Rw) : List El := LR.map (elOf kd cl A an)
theorem elsOf_getD (kd cl : Int) (A : List Int) (an : Nat) (LR : List Rw) (k : Nat) (h : k < LR.length) : (elsOf kd cl A an LR).getD k default = elOf kd cl A an (LR.getD k default) := by
  simp [elsOf, List.getD_eq_getElem?_getD, h]
/-- Whether the order is right for all rows, and all have as many numbers. -/
def goodRow (kd cl : Int) (an : Nat) (LR : List Rw) (k : Nat) : Prop := ordP kd cl an (LR.getD k default).n ∧ (LR.getD k default).n = (LR.getD 0 default).n
instance (kd cl : Int) (an : Nat) (LR : List Rw) (k : Nat) : Decidable (goodRow kd cl an LR k) := by unfold goodRow; infer_instance
theorem made_els (n : Nat) (f : Nat → El) (hf : ∀ i, f i = default) : madeCells #[.int .u64 0, .int .u64 0, .int .i64 0, .slice none 0 0] (n * 4) = flatE f n := by
  apply Array.ext
  · simp [size_madeCells, flatE]; omega
  · intro i h1 h2
    have h3 : i < 4 * n := by rw [flatE_size] at h2; exact h2
    have e : (flatE f n)[i]? = some ((f (i / 4)).cell (i % 4)) := flatE_get f n i h3
    rw [Array.getElem?_eq_getElem h2] at e
    rw [Option.some.inj e, hf]
    simp only [madeCells, Array.getElem_ofFn]
    have : i % 4 = 0 ∨ i % 4 = 1 ∨ i % 4 = 2 ∨ i % 4 = 3 := by omega
    rcases this with h | h | h | h <;> simp [h] <;> rfl
theorem I72 : (Try.prog.info? 77).map (fun i => (i.zero, i.size, i.bytes)) = some (some (.agg #[.int .u64 0, .int .u64 0, .int .i64 0, .slice none 0 0]), 4, 48) := by kernel_rfl
theorem U70 : Try.prog.underlying 72 = some (.slice 77) := by kernel_rfl
theorem I23r : (Try.prog.info? 23).map (fun i => (i.zero, i.size, i.bytes)) = some (some (.slice none 0 0), 1, 24) := by kernel_rfl
theorem U52 : Try.prog.underlying 30 = some (.slice 23) := by kernel_rfl
theorem make_els (n : Nat) (hn : n ≤ 1000) (f : Nat → El) (hf : ∀ i, f i = default) (w : World) : (Instr.makeSlice 72 (.int .i64 n) (.int .i64 n)).run Try.prog w = .ok (.slice (some ⟨w.heap.size, 0, none⟩) n n) (w.alloc (.cells (flatE f n) 77)) := by
  obtain ⟨i2, hi, hi0, hi1, hi2⟩ := info_parts I72
  have := run_make (P := Try.prog) w 72 77 i2 _ U70 hi hi0 .i64 .i64 n n (by omega) (by omega) (by rw [hi2]; omega) (by omega)
  rw [this, hi1]
  simp only [Int.toNat_natCast, Value.cells, made_els n f hf]
/-- The first k elements. -/
def fillE (els : List El) (k : Nat) : Nat → El := fun j => if j < k then els.getD j default else default
/-- No row yet. -/
def noRow : Nat → Value := fun _ => .slice none 0 0
/-- The headers of a list of rows. -/
def heads (v : Nat → Value) (n : Nat) : Array Value := ((List.range n).map v).toArray
theorem heads_get (v : Nat → Value) (n i : Nat) (h : i < n) : (heads v n)[i]? = some (v i) := by simp [heads, h]
theorem heads_set (v : Nat → Value) (n k : Nat) (x : Value) : (heads v n).setIfInBounds k x = heads (fun i => if i = k then x else v i) n := by
  apply Array.ext'
  simp only [heads, Array.toList_setIfInBounds]
  apply List.ext_getElem (by simp)
  intro i h1 h2
  rw [List.getElem_set]
  by_cases hk : k = i
  · subst hk; simp
  · simp [hk, Ne.symm hk]
theorem made_heads (n : Nat) (v : Nat → Value) (hv : ∀ i, v i = .slice none 0 0) : madeCells #[.slice none 0 0] n = heads v n := by
  apply Array.ext
  · simp [size_madeCells, heads]
  · intro i h1 h2
    simp [madeCells, heads, hv, Nat.mod_one]
theorem make_heads (n : Nat) (hn : n ≤ 1000) (v : Nat → Value) (hv : ∀ i, v i = .slice none 0 0) (w : World) : (Instr.makeSlice 30 (.int .i64 n) (.int .i64 n)).run Try.prog w = .ok (.slice (some ⟨w.heap.size, 0, none⟩) n n) (w.alloc (.cells (heads v n) 23)) := by
  obtain ⟨i2, hi, hi0, hi1, hi2⟩ := info_parts I23r
  have := run_make (P := Try.prog) w 30 23 i2 _ U52 hi hi0 .i64 .i64 n n (by omega) (by omega) (by rw [hi2]; omega) (by omega)
  rw [this, hi1]
  simp only [Int.toNat_natCast, Value.cells, Nat.mul_one, made_heads n v hv]
/-- The list that Sort tells: rows of its own. -/
structure OwnRows (w : World) (gs n : Nat) (v : Nat → Value) (f : Nat → List Int) (k : Nat) : Prop where
  heads : w.heap[gs]? = some (.cells (heads v n) 23 (0, 0))
  rows : ∀ i, i < k → ∃ g c m, v i = .slice (some ⟨g, 0, none⟩) m c ∧ OwnRow w (gs + 1) g m c (f i) ∧ 1 ≤ m
theorem OwnRows.later {w w' : World} {gs n : Nat} {v : Nat → Value} {f : Nat → List Int} {k : Nat} (h : OwnRows w gs n v f k) (hb : Below w.heap.size w w') : OwnRows w' gs n v f k :=
  ⟨(hb.block _ (Array.getElem?_eq_some_iff.1 h.heads).1).trans h.heads, fun i hi => by
    obtain ⟨g, c, m, h1, h2, h3⟩ := h.rows i hi
    exact ⟨g, c, m, h1, h2.later hb, h3⟩⟩
theorem OwnRows.put {w : World} {gs n : Nat} {v : Nat → Value} {f : Nat → List Int} {k : Nat} (h : OwnRows w gs n v f k) {g c m : Nat} (hr : OwnRow w (gs + 1) g m c (f k)) (hm : 1 ≤ m) :
    OwnRows (w.setCell ⟨gs, k, none⟩ (.slice (some ⟨g, 0, none⟩) m c)) gs n (fun i => if i = k then .slice (some ⟨g, 0, none⟩) m c else v i) f (k + 1) := by
  refine ⟨?_, fun i hi => ?_⟩
  · rw [← heads_set]
    exact heap_setCell_same _ gs _ _ _ _ h.heads
  · by_cases hk : i = k
    · subst hk
      exact ⟨g, c, m, by simp, ownsRow_setCell_below hr (Nat.lt_succ_self _) _, hm⟩
    · obtain ⟨g1, c1, m1, h1, h2, h3⟩ := h.rows i (by omega)
      exact ⟨g1, c1, m1, by rw [if_neg hk]; exact h1, ownsRow_setCell_below h2 (Nat.lt_succ_self _) _, h3⟩
theorem OwnRow.base {w : World} {b b' g n c : Nat} {N : List Int} (h : OwnRow w b g n c N) (hb : b' ≤ b) : OwnRow w b' g n c N :=
  ⟨h.1, h.2.imp id fun ⟨g, cap, cur, hv, hl, r⟩ => ⟨g, cap, cur, hv, Nat.le_trans hb hl, r⟩⟩
def ordRows (kd cl : Int) (A : List Int) (an n : Nat) (LR : List Rw) : Nat → List Int := fun i => (LR.getD (St.stable (elt (elsOf kd cl A an LR)) n (Array.range n))[i]! default).R
def OutRel (kd cl : Int) (A : List Int) (an n : Nat) (LR : List Rw) (w5 : World) (gs : Nat) (i : Value) (wr : World) : Prop :=
  ∃ m v, m ≤ n ∧ i = .int .i64 m ∧ OwnRows wr gs n v (ordRows kd cl A an n LR) m ∧ Below w5.heap.size w5 wr
def SortPost (kd cl : Int) (A : List Int) (an n : Nat) (LR : List Rw) (w : World) (e : Ending) (w' : World) : Prop :=
  if ∀ k, k < n → goodRow kd cl an LR k then ∃ gs v, e = .returned (.slice (some ⟨gs, 0, none⟩) n n) ∧ w.heap.size ≤ gs ∧ OwnRows w' gs n v (ordRows kd cl A an n LR) n ∧ Below w.heap.size w w'
  else e = .returned (.slice none 0 0) ∧ Below w.heap.size w w'
theorem sort_bad {kd cl : Int} {A : List Int} {an n : Nat} {LR : List Rw} {w w' : World} (k : Nat) (hk : k < n) (h : ¬ goodRow kd cl an LR k) (hb : Below w.heap.size w w') : SortPost kd cl A an n LR w (.returned (.slice none 0 0)) w' := by
  unfold SortPost
  rw [if_neg (fun h' => h (h' k hk))]
  exact ⟨rfl, hb⟩
theorem fillE_put (els : List El) (k : Nat) (t : El) (ht : els.getD k default = t) (i : Nat) : upd (fillE els k) k t i = fillE els (k + 1) i := by
  unfold upd fillE
  by_cases h : i = k
  · rw [if_pos h, if_pos (by omega), h, ht]
  · rw [if_neg h]
    by_cases h2 : i < k
    · rw [if_pos h2, if_pos (by omega)]
    · rw [if_neg h2, if_neg (by omega)]
def FillRel (kd cl : Int) (A : List Int) (an n : Nat) (LR : List Rw) (w2 : World) (g : Nat) (i : Value) (wr : World) : Prop :=
  ∃ k, k ≤ n ∧ i = .int .i64 k ∧ RowE wr g (fillE (elsOf kd cl A an LR) k) n ∧ w2.grownBy wr (some g) ∧ ∀ j, j < k → goodRow kd cl an LR j
set_option maxRecDepth 100000 in
set_option maxHeartbeats 4000000 in
theorem sort_any (kd cl : Int) (q p : Option Addr) (an ac n c : Nat) (A : List Int) (LR : List Rw) (w : World) (hA : Ints w q an ac A) (hL : RowsIn w p n c LR) (hn : n ≤ 100) (hperm : ∀ m, m < n → (St.stable (elt (elsOf kd cl A an LR)) n (Array.range n))[m]! < n) :
    Calls Try.prog 27 #[.agg #[.int .u8 kd, .int .i64 cl, .slice q an ac], .slice p n c] w (SortPost kd cl A an n LR w) := by
  have M1 := make_els n (by omega) (fillE (elsOf kd cl A an LR) 0) (fun i => by simp [fillE])
  have ho := ord_in (kd := kd) (cl := cl) hA
  obtain ⟨w1, hw1⟩ : ∃ w1, w1 = w.alloc (.cells #[.int .u8 kd, .int .i64 cl, .slice q an ac] 27) := ⟨_, rfl⟩
  go_enter Try.func27, Try.ntmps27
  go_upto_region 1 with fail
  rw [← hw1] at ho ⊢
  have O1 := Lib.hid ho
  have L1 := Lib.hid (hL.later ho.below)
  clear ho hA hL hw1
  go_upto_region 2 with fail
  have r2 : RowE (w1.alloc (.cells (flatE (fillE (elsOf kd cl A an LR) 0) n) 77)) w1.heap.size _ n := heap_alloc_new w1 _
  have b2 : Below w1.heap.size w1 (w1.alloc (.cells (flatE (fillE (elsOf kd cl A an LR) 0) n) 77)) := (Below.refl _ _).alloc (Nat.le_refl _) _
  generalize w1.alloc (.cells (flatE (fillE (elsOf kd cl A an LR) 0) n) 77) = w2 at *
  have R2 := Lib.hid r2
  have B2 := Lib.hid b2
  clear r2 b2 M1
  obtain ⟨ge, hge⟩ : ∃ ge, ge = w1.heap.size := ⟨_, rfl⟩
  rw [← hge] at R2 ⊢
  have HGE := Lib.hid hge
  clear hge
  go_wp2_with fail
  go_loopw [16] (fun i wr => FillRel kd cl A an n LR w2 ge i wr) (fun i _ => n - (intOf i).toNat)
  case atStart => exact ⟨0, by omega, rfl, R2.out, ⟨rfl, rfl, rfl, Nat.le_refl _, fun _ _ _ => rfl⟩, fun j hj => by omega⟩
  case round =>
    obtain ⟨k, hk, rfl, hrow, hgr, hgood⟩ := hrel
    have HRW := Lib.hid hrow
    have HGR := Lib.hid hgr
    have HGD := Lib.hid hgood
    clear hrow hgr hgood R2
    have hb : Below w1.heap.size w1 wr := grown_below B2.out HGR.out (by rw [HGE.out]; exact Nat.le_refl _)
    have O3 := Lib.hid (O1.out.later hb)
    have L3 := Lib.hid (L1.out.later hb)
    clear hb
    by_cases hlt : k < n
    · obtain ⟨gL, oL, rfl, hck, hok⟩ := L3.out.cell k hlt
      obtain ⟨gL', oL', hgL, hc0, hok0⟩ := L3.out.cell 0 (by omega)
      simp only [Option.some.injEq, Addr.mk.injEq, and_true] at hgL
      obtain ⟨rfl, rfl⟩ := hgL
      rw [Nat.add_zero] at hc0
      have i1 : (0 : Int) ≤ k ∧ (k : Int) < n := by omega
      have i0 : 0 < n := by omega
      have hlen : k < LR.length := by rw [← L3.out.size]; exact hlt
      have hel := elsOf_getD kd cl A an LR k hlen
      obtain ⟨t, ht⟩ : ∃ t, t = LR.getD k default := ⟨_, rfl⟩
      obtain ⟨t0, ht0⟩ : ∃ t, t = LR.getD 0 default := ⟨_, rfl⟩
      have hgoodk : goodRow kd cl an LR k ↔ ordP kd cl an t.n ∧ t.n = t0.n := by unfold goodRow; rw [← ht, ← ht0]
      rw [← ht] at hck hok hel
      rw [← ht0] at hc0 hok0
      have OK := Lib.hid hok
      have HGK := Lib.hid hgoodk
      have HEL := Lib.hid hel
      obtain ⟨tp, tn, tc, tR⟩ := t
      obtain ⟨sp, sn, sc, sR⟩ := t0
      unfold Rw.val at hck hc0
      simp only at hck hc0
      obtain ⟨x0, x1, x2⟩ := O3.out.cells
      clear hok hok0 hel hgoodk ht ht0 hlen
      have hF : ∀ w', Below wr.heap.size wr w' → (Below wr.heap.size wr w' ∧ w'.cell? ⟨w.heap.size, 0, none⟩ = some (.int .u8 kd) ∧ w'.cell? ⟨w.heap.size, 1, none⟩ = some (.int .i64 cl) ∧ w'.cell? ⟨w.heap.size, 2, none⟩ = some (.slice q an ac) ∧ w'.cell? ⟨gL, oL, none⟩ = some (.slice sp sn sc)) := fun w' hb => ⟨hb, (hb.cell (p := ⟨w.heap.size, 0, none⟩) (block_lt_of_cell x0)).trans x0, (hb.cell (p := ⟨w.heap.size, 1, none⟩) (block_lt_of_cell x1)).trans x1, (hb.cell (p := ⟨w.heap.size, 2, none⟩) (block_lt_of_cell x2)).trans x2, (hb.cell (p := ⟨gL, oL, none⟩) (block_lt_of_cell hc0)).trans hc0⟩
      have HF := Lib.hid hF
      clear hF
      have H := Lib.hid (show ∀ w', Below wr.heap.size wr w' → Calls Try.prog 19 #[.agg #[.int .u8 kd, .int .i64 cl, .slice q an ac], .int .i64 tn] w' fun e w'' => e = .returned (.bool (decide (ordP kd cl an tn))) ∧ Below wr.heap.size wr w'' from fun w' hb => (ordright_any kd cl tn q an ac w').mono fun e w'' h => ⟨h.1, hb.trans (h.2.mono hb.size)⟩)
      go_wp2_with fail
      refine (H.out _ (Below.refl _ _)).mono ?_
      rintro _ w5 ⟨rfl, hb5⟩
      obtain ⟨-, y0, y1, y2, yc⟩ := HF.out _ hb5
      have B5 := Lib.hid hb5
      clear hb5 x0 x1 x2 hc0 HF H hck
      by_cases hP : ordP kd cl an tn
      · rw [decide_eq_true hP]
        have HP := Lib.hid hP
        clear hP
        by_cases hs : (tn : Int) = sn
        · have q1 : ((tn : Int) != sn) = false := by simpa using hs
          have HSN := Lib.hid hs
          clear hs
          go_wp2_with fail
          refine (placeof_any kd cl q tp tp an ac tn tc tc A tR tR w5 (O3.out.i.later B5.out) (OK.out.ints.later B5.out) (OK.out.ints.later B5.out) HP.out).mono ?_
          rintro _ w6 ⟨rfl, hb6⟩
          have HEL2 := HEL.out
          unfold elOf at HEL2
          rw [least_key HP.out]
          unfold plV
          have hr6 : RowE w6 ge (fillE (elsOf kd cl A an LR) k) n := ((B5.out.trans (hb6.mono B5.out.size)).block _ (Array.getElem?_eq_some_iff.1 HRW.out).1).trans HRW.out
          obtain ⟨el, hel⟩ : ∃ el, el = (elsOf kd cl A an LR).getD k default := ⟨_, rfl⟩
          rw [← hel] at HEL2
          have hput : RowE (putE w6 ge k el) ge (fillE (elsOf kd cl A an LR) (k + 1)) n := (hr6.put k el).congr fun i _ => fillE_put _ k el hel.symm i
          have hgr : w2.grownBy (putE w6 ge k el) (some ge) := grown_twice (grown_later HGR.out (B5.out.trans (hb6.mono B5.out.size))) (putE_grown _ _ _ _)
          obtain ⟨c0, c1, c2, c3, f0, f1, f2, f3⟩ := hr6.elem k hlt
          generalize fillE (elsOf kd cl A an LR) k k = old at c0 c1 c2 c3
          simp only at HEL2
          generalize keyI kd cl A tR an tn / 18446744073709551616 % 18446744073709551616 = hi at *
          generalize keyI kd cl A tR an tn % 18446744073709551616 = lo at *
          generalize tR.getD 0 0 = id at *
          obtain ⟨w7, hw7⟩ : ∃ w7, w7 = putE w6 ge k el := ⟨_, rfl⟩
          rw [← hw7] at hput hgr
          rw [HEL2] at hw7
          unfold putE at hw7
          simp only at hw7
          have HPUT := Lib.hid hput
          have HGR7 := Lib.hid hgr
          have HGD7 := Lib.hid (show ∀ j, j < k + 1 → goodRow kd cl an LR j from fun j hj => by
            by_cases h : j = k
            · subst h; exact (HGK.out).2 ⟨HP.out, by exact_mod_cast HSN.out⟩
            · exact HGD.out j (by omega))
          have HW7 := Lib.hid hw7
          clear hput hgr hr6 hel HEL2 HEL hw7 y0 y1 y2 yc q1 hb6 HGK HSN HP OK L1 L3 O1 O3 HRW HGR HGD
          go_wp2_with fail
          rw [← HW7.out]
          exact ⟨⟨k + 1, by omega, by go_num, HPUT.out, HGR7.out, HGD7.out⟩, by simp [intOf]; omega⟩
        · have q1 : ((tn : Int) != sn) = true := by simpa using hs
          have HSN := Lib.hid hs
          clear hs
          go_wp2_with fail
          go_ret
          exact sort_bad k hlt (fun h => HSN.out (by exact_mod_cast ((HGK.out).1 h).2)) (O3.out.below.trans (B5.out.mono O3.out.below.size))
      · rw [decide_eq_false hP]
        have HP := Lib.hid hP
        clear hP
        go_wp2_with fail
        go_ret
        exact sort_bad k hlt (fun h => HP.out ((HGK.out).1 h).1) (O3.out.below.trans (B5.out.mono O3.out.below.size))
    · obtain rfl : k = n := by omega
      have hs : SW (elsOf kd cl A an LR) w2 ge k (Array.range k) wr := ⟨HRW.out.congr fun i hi => by simp [fillE, hi], HGR.out, by simp⟩
      have HC := Lib.hid (sortstable_any (elsOf kd cl A an LR) w2 ge k k (by omega) (Array.range k) wr hs)
      clear hs HRW HGR O3 L3
      go_wp2_with fail
      refine HC.out.mono ?_
      rintro _ w5 ⟨rfl, hs5⟩
      have HS5 := Lib.hid hs5
      clear hs5 HC
      have M2 := make_heads k (by omega) noRow (fun _ => rfl) w5
      go_upto_region 11 with fail
      have hh : OwnRows (w5.alloc (.cells (heads noRow k) 23)) w5.heap.size k noRow (ordRows kd cl A an k LR) 0 := ⟨heap_alloc_new w5 _, fun i hi => by omega⟩
      have hb6 : Below w5.heap.size w5 (w5.alloc (.cells (heads noRow k) 23)) := (Below.refl _ _).alloc (Nat.le_refl _) _
      generalize w5.alloc (.cells (heads noRow k) 23) = w6 at *
      have H6 := Lib.hid hh
      have B6 := Lib.hid hb6
      clear hh hb6 M2
      obtain ⟨gs, hgs⟩ : ∃ gs, gs = w5.heap.size := ⟨_, rfl⟩
      rw [← hgs] at H6 ⊢
      have HGS := Lib.hid hgs
      clear hgs
      have b2 : Below w1.heap.size w1 w5 := grown_below B2.out HS5.out.grown (by rw [HGE.out]; exact Nat.le_refl _)
      have B15 := Lib.hid b2
      have B05 := Lib.hid (O1.out.below.trans (b2.mono O1.out.below.size))
      have L5 := Lib.hid (L1.out.later b2)
      clear b2 L1 O1 B2 HGE
      go_wp2_with fail
      go_loopw [52] (fun i wr => OutRel kd cl A an k LR w5 gs i wr) (fun i _ => k - (intOf i).toNat)
      case atStart => exact ⟨0, noRow, by omega, rfl, H6.out, B6.out⟩
      case round =>
        obtain ⟨m, v, hm, rfl, hrow, hb7⟩ := hrel
        have HRW := Lib.hid hrow
        have B7 := Lib.hid hb7
        clear hrow hb7 H6 B6
        by_cases hlt : m < k
        · obtain ⟨j, hj⟩ : ∃ j, j = (St.stable (elt (elsOf kd cl A an LR)) k (Array.range k))[m]! := ⟨_, rfl⟩
          have hjk : j < k := by rw [hj]; exact hperm m hlt
          have hs := HS5.out.later B7.out
          have ea : ElAt wr ge m ((elsOf kd cl A an LR).getD (St.stable (elt (elsOf kd cl A an LR)) k (Array.range k))[m]! default) := hs.row.elem m hlt
          rw [← hj, elsOf_getD kd cl A an LR j (by rw [← L5.out.size]; exact hjk)] at ea
          obtain ⟨_, _, -, -, hok⟩ := L5.out.cell j hjk
          have hg := (HGD.out j hjk).1
          have hf : ordRows kd cl A an k LR m = (LR.getD j default).R := by unfold ordRows; rw [← hj]
          have hor := hok.ints.later B7.out
          generalize LR.getD j default = t at *
          obtain ⟨tp, tn, tc, tR⟩ := t
          have hn8 : 1 ≤ tn ∧ tn ≤ 8 := by unfold ordP at hg; simp only at hg; omega
          unfold elOf at ea
          obtain ⟨c0, c1, c2, c3, -, -, -, -⟩ := ea
          simp only at c0 c1 c2 c3 hf hor
          generalize keyI kd cl A tR an tn / 18446744073709551616 % 18446744073709551616 = hi at *
          generalize keyI kd cl A tR an tn % 18446744073709551616 = lo at *
          generalize tR.getD 0 0 = id at *
          have OR := Lib.hid hor
          have HF := Lib.hid hf
          have HN8 := Lib.hid hn8
          have i1 : (0 : Int) ≤ m ∧ (m : Int) < k := by omega
          clear hs hok hg hf hor hj hjk hn8 hperm
          go_upto_region 14 with fail
          have hb8 : Below wr.heap.size wr (wr.alloc (.cells #[.int .u64 hi, .int .u64 lo, .int .i64 id, .slice tp tn tc] 77)) := (Below.refl _ _).alloc (Nat.le_refl _) _
          have c8 : (wr.alloc (.cells #[.int .u64 hi, .int .u64 lo, .int .i64 id, .slice tp tn tc] 77)).cell? ⟨wr.heap.size, 3, none⟩ = some (.slice tp tn tc) := (cell_of_row _ _ _ _ _ _ (heap_alloc_new wr _)).trans rfl
          generalize wr.alloc (.cells #[.int .u64 hi, .int .u64 lo, .int .i64 id, .slice tp tn tc] 77) = w8 at *
          have hgl : gs < wr.heap.size := (Array.getElem?_eq_some_iff.1 HRW.out.heads).1
          have R8 := Lib.hid (HRW.out.later hb8)
          have HC := Lib.hid (rowclone_any tp tn tc tR w8 (OR.out.later hb8) HN8.out.1 HN8.out.2)
          have HGL := Lib.hid (show gs + 1 ≤ w8.heap.size from Nat.lt_of_lt_of_le hgl hb8.size)
          have B8 := Lib.hid (B7.out.trans (hb8.mono B7.out.size))
          clear hgl hb8 c0 c1 c2 c3 HRW OR B7
          go_wp2_with fail
          refine HC.out.mono ?_
          rintro _ w9 ⟨g, cp, rfl, hown, -, hb9⟩
          have r9 := R8.out.later hb9
          have hput := r9.put (g := g) (c := cp) (m := tn) (by rw [HF.out]; exact OwnRow.base hown HGL.out) HN8.out.1
          have f9 : w9.frozen? ⟨gs, m, none⟩ = false := frozen_of_row w9 gs _ _ _ r9.heads
          have d9 : w9.cell? ⟨gs, m, none⟩ = some (v m) := (cell_of_row w9 gs _ _ _ _ r9.heads).trans (heads_get v k m hlt)
          have hb10 : Below w5.heap.size w5 (w9.setCell ⟨gs, m, none⟩ (.slice (some ⟨g, 0, none⟩) tn cp)) := grown_below (B8.out.trans (hb9.mono B8.out.size)) (grown_setCell w9 gs _ _) (by rw [HGS.out]; exact Nat.le_refl _)
          obtain ⟨w10, hw10⟩ : ∃ w10, w10 = w9.setCell ⟨gs, m, none⟩ (.slice (some ⟨g, 0, none⟩) tn cp) := ⟨_, rfl⟩
          rw [← hw10] at hput hb10
          have HPUT := Lib.hid hput
          have B10 := Lib.hid hb10
          have HW := Lib.hid hw10
          clear hput hb10 hw10 r9 hown hb9 R8 B8 HC HGL c8 HF HN8
          go_wp2_with fail
          rw [← HW.out]
          exact ⟨⟨m + 1, _, by omega, by go_num, HPUT.out, B10.out⟩, by simp [intOf]; omega⟩
        · obtain rfl : m = k := by omega
          go_wp2_with fail
          go_ret
          unfold SortPost
          rw [if_pos HGD.out]
          exact ⟨gs, v, rfl, by rw [HGS.out]; exact B05.out.size, HRW.out, B05.out.trans (B7.out.mono B05.out.size)⟩
end Go.Proofs.Ytnigfipjcnamfaa

/- A stable sort's order: ties are parted by the places at the start. Insertion sort of a rising part. -/
namespace Go.Proofs.Ytnigfipjcnamfaa.St
open Go.Sort

def tie (lt : Nat → Nat → Bool) (i j : Nat) : Bool := lt i j || (!lt j i && decide (i < j))
theorem tie_true {lt : Nat → Nat → Bool} {i j : Nat} : tie lt i j = true ↔ lt i j = true ∨ (lt j i = false ∧ i < j) := by simp [tie]
theorem tie_false {lt : Nat → Nat → Bool} {i j : Nat} : tie lt i j = false ↔ lt i j = false ∧ (lt j i = true ∨ j ≤ i) := by
  rw [← Bool.not_eq_true, tie_true]
  cases lt i j <;> cases lt j i <;> simp
theorem tie_swo {lt : Nat → Nat → Bool} (h : SWO lt) : SWO (tie lt) := by
  refine ⟨fun x => tie_false.2 ⟨h.irrefl x, Or.inr (Nat.le_refl _)⟩, fun x y z h1 h2 => ?_, fun x y z h1 h2 => ?_⟩
  · rw [tie_true] at h1 h2 ⊢
    rcases h1 with h1 | ⟨h1, h1'⟩ <;> rcases h2 with h2 | ⟨h2, h2'⟩
    · exact Or.inl (h.trans _ _ _ h1 h2)
    · by_cases c : lt x z = true
      · exact Or.inl c
      · rw [Bool.not_eq_true] at c
        rw [h.ntrans _ _ _ c h2] at h1
        exact absurd h1 (by simp)
    · by_cases c : lt x z = true
      · exact Or.inl c
      · rw [Bool.not_eq_true] at c
        rw [h.ntrans _ _ _ h1 c] at h2
        exact absurd h2 (by simp)
    · exact Or.inr ⟨h.ntrans _ _ _ h2 h1, by omega⟩
  · rw [tie_false] at h1 h2 ⊢
    refine ⟨h.ntrans _ _ _ h1.1 h2.1, ?_⟩
    by_cases c : lt z x = true
    · exact Or.inl c
    · rw [Bool.not_eq_true] at c
      have c1 := h.ntrans _ _ _ h2.1 c
      have c2 := h.ntrans _ _ _ c h1.1
      rw [c1] at h1
      rw [c2] at h2
      simp only [Bool.false_eq_true, false_or] at h1 h2
      exact Or.inr (Nat.le_trans h2.2 h1.2)
/-- No two are of one place. -/
theorem tie_eq {lt : Nat → Nat → Bool} (x y : Nat) (h1 : tie lt x y = false) (h2 : tie lt y x = false) : x = y := by
  rw [tie_false] at h1 h2
  rcases h1.2 with c | c
  · rw [h2.1] at c; exact absurd c (by simp)
  · rcases h2.2 with e | e
    · rw [h1.1] at e; exact absurd e (by simp)
    · omega
theorem tie_rising {lt : Nat → Nat → Bool} {i j : Nat} (h : j < i) : tie lt i j = lt i j := by
  unfold tie
  rw [decide_eq_false (by omega)]
  simp
theorem insInner_perm {lt : Nat → Nat → Bool} (a b : Nat) : ∀ (j : Nat) (d : Array Nat), a ≤ j → j < b → b ≤ d.size → PermIn a b d (insInner lt a j d)
  | 0, d, _, _, _ => by unfold insInner; exact permIn_refl d a b
  | j + 1, d, h1, h2, h3 => by
    unfold insInner
    split
    · rename_i hc
      simp only [Bool.and_eq_true, decide_eq_true_eq] at hc
      exact permIn_trans _ _ _ a b (swp_permIn d a b (j + 1) j h1 h2 (by omega) (by omega) h3) (insInner_perm a b j _ (by omega) (by omega) (by rw [swp_size]; exact h3))
    · exact permIn_refl d a b
theorem insInner_tie {lt : Nat → Nat → Bool} (a : Nat) : ∀ (j : Nat) (d : Array Nat), j < d.size → (∀ p, a ≤ p → p < j → d[p]! < d[j]!) → insInner lt a j d = insInner (tie lt) a j d
  | 0, d, _, _ => by unfold insInner; rfl
  | j + 1, d, h1, h2 => by
    unfold insInner
    by_cases c : j + 1 > a
    · rw [tie_rising (h2 j (by omega) (by omega)), insInner_tie a j (swp d (j + 1) j) (by rw [swp_size]; omega) ?_]
      intro p hp hpj
      rw [swp_get d h1 (by omega), swp_get d h1 (by omega), if_neg (by omega), if_neg (by omega), if_pos rfl]
      exact h2 p hp (by omega)
    · simp [c]
theorem insOuter_tie {lt : Nat → Nat → Bool} (a b : Nat) : ∀ (n i : Nat) (d : Array Nat), b - i = n → a ≤ i → b ≤ d.size → (∀ p q, a ≤ p → p < q → i ≤ q → q < b → d[p]! < d[q]!) → insOuter lt a b i d = insOuter (tie lt) a b i d
  | 0, i, d, h1, _, _, _ => by
    rw [insOuter, if_neg (by omega), insOuter, if_neg (by omega)]
  | n + 1, i, d, h1, h2, h3, h4 => by
    rw [insOuter, insOuter.eq_def (tie lt), if_pos (by omega), if_pos (by omega), insInner_tie a i d (by omega) (fun p hp hpi => h4 p i hp hpi (Nat.le_refl _) (by omega))]
    have hp := insInner_perm (lt := tie lt) a (i + 1) i d h2 (by omega) (by omega)
    refine insOuter_tie a b n (i + 1) _ (by omega) (by omega) (by rw [hp.1]; exact h3) fun p q h5 h6 h7 h8 => ?_
    rw [hp.2.1 q (Or.inr (by omega))]
    by_cases c : p < i + 1
    · exact permIn_all d _ a (i + 1) (fun x => x < d[q]!) (by omega) hp (fun k hk hk' => h4 k q hk (by omega) (by omega) h8) p h5 c
    · rw [hp.2.1 p (Or.inr (by omega))]
      exact h4 p q h5 h6 (by omega) h8
/-- A rising part is sorted by insertion as the order with parted ties asks. -/
theorem insertion_tie {lt : Nat → Nat → Bool} (hS : SWO lt) (d : Array Nat) (a b : Nat) (h1 : a ≤ b) (h2 : b ≤ d.size) (h3 : ∀ p q, a ≤ p → p < q → q < b → d[p]! < d[q]!) :
    PermIn a b d (insertionSort lt d a b) ∧ SortedIn (tie lt) a b (insertionSort lt d a b) := by
  have e : insertionSort lt d a b = insertionSort (tie lt) d a b := insOuter_tie a b _ (a + 1) d rfl (by omega) h2 fun p q h4 h5 h6 h7 => h3 p q h4 h5 h7
  rw [e]
  exact insertionSort_holds (tie_swo hS) d a b h1 h2
end Go.Proofs.Ytnigfipjcnamfaa.St

/- Go's stable sort tells the order with parted ties. -/
namespace Go.Proofs.Ytnigfipjcnamfaa.St
open Go.Sort

theorem blk_in {s x i : Nat} (h : x % s = 0) (h1 : x ≤ i) (h2 : i < x + s) : i / s = x / s := by
  have hs : 0 < s := by omega
  have e : x = s * (x / s) := by have := Nat.div_add_mod x s; omega
  apply Nat.div_eq_of_lt_le
  · rw [Nat.mul_comm]; omega
  · rw [Nat.succ_mul, Nat.mul_comm]; omega
theorem blk_lt {s x i j : Nat} (hs : 0 < s) (h : x % s = 0) (h1 : i < x) (h2 : x ≤ j) : i / s < j / s := by
  have e : x = s * (x / s) := by have := Nat.div_add_mod x s; omega
  have h3 : i / s < x / s := by
    rw [Nat.div_lt_iff_lt_mul hs, Nat.mul_comm]; omega
  exact Nat.lt_of_lt_of_le h3 (Nat.div_le_div_right h2)
theorem div_two {s i j : Nat} (h : i / (2 * s) < j / (2 * s)) : i / s < j / s := by
  rw [Nat.mul_comm, ← Nat.div_div_eq_div_mul, ← Nat.div_div_eq_div_mul] at h
  omega
theorem lt_of_div {s i j : Nat} (h : i / s < j / s) : i < j := by
  by_cases c : i < j
  · exact c
  · have := Nat.div_le_div_right (c := s) (Nat.le_of_not_lt c); omega
def Blks (lt : Nat → Nat → Bool) (s lo hi : Nat) (d : Array Nat) : Prop := ∀ i j, lo ≤ i → i < j → j < hi → i / s = j / s → tie lt d[j]! d[i]! = false
def Cross (s lo hi : Nat) (d : Array Nat) : Prop := ∀ i j, lo ≤ i → j < hi → i / s < j / s → d[i]! < d[j]!
theorem cross_perm {s n x y : Nat} {d d' : Array Nat} (h : Cross s 0 n d) (hp : PermIn x y d d') (hy : y ≤ n) (hn : d.size = n) (hb : ∀ k, x ≤ k → k < y → k / s = x / s) : Cross s 0 n d' := by
  intro i j _ hj hij
  by_cases ci : x ≤ i ∧ i < y
  · have ei := hb i ci.1 ci.2
    have cj : j < x ∨ y ≤ j := by
      by_cases c : x ≤ j ∧ j < y
      · have := hb j c.1 c.2; omega
      · omega
    rw [hp.2.1 j cj]
    exact permIn_all d d' x y (fun v => v < d[j]!) (by omega) hp (fun k hk hk' => h k j (Nat.zero_le _) hj (by rw [hb k hk hk', ← ei]; exact hij)) i ci.1 ci.2
  · rw [hp.2.1 i (by omega)]
    by_cases cj : x ≤ j ∧ j < y
    · have ej := hb j cj.1 cj.2
      exact permIn_all d d' x y (fun v => d[i]! < v) (by omega) hp (fun k hk hk' => h i k (Nat.zero_le _) (by omega) (by rw [hb k hk hk', ← ej]; exact hij)) j cj.1 cj.2
    · rw [hp.2.1 j (by omega)]
      exact h i j (Nat.zero_le _) hj hij
/-- One more block is sorted. -/
theorem blks_more {lt : Nat → Nat → Bool} {s x y : Nat} {d d' : Array Nat} (hs : 0 < s) (hx : x % s = 0) (hp : PermIn x y d d') (hb : Blks lt s 0 x d) (ho : SortedIn (tie lt) x y d') : Blks lt s 0 y d' := by
  intro i j _ hij hj he
  by_cases c : j < x
  · rw [hp.2.1 i (by omega), hp.2.1 j (by omega)]
    exact hb i j (Nat.zero_le _) hij c he
  · by_cases ci : i < x
    · have := blk_lt hs hx ci (Nat.le_of_not_lt c); omega
    · exact ho i j (by omega) hij hj
variable {lt : Nat → Nat → Bool} (hS : SWO lt)
include hS
theorem insB_spec (n : Nat) : ∀ (f x : Nat) (d : Array Nat), x % 20 = 0 → x ≤ n → n - x < f → d.size = n → Blks lt 20 0 x d → Cross 20 0 n d → (∀ p q, x ≤ p → p < q → q < n → d[p]! < d[q]!) →
    PermIn 0 n d (insB lt n f x d) ∧ Blks lt 20 0 n (insB lt n f x d) ∧ Cross 20 0 n (insB lt n f x d)
  | 0, x, d, _, _, h, _, _, _, _ => by omega
  | f + 1, x, d, h1, h2, h3, h4, h5, h6, h7 => by
    rw [insB]
    by_cases c : x + 20 ≤ n
    · rw [if_pos c]
      obtain ⟨hp, ho⟩ := insertion_tie hS d x (x + 20) (by omega) (by omega) fun p q a b e => h7 p q a b (by omega)
      have hb := blks_more (by omega) h1 hp h5 ho
      have hc := cross_perm h6 hp c h4 fun k a b => blk_in h1 a b
      generalize insertionSort lt d x (x + 20) = d' at *
      obtain ⟨r1, r2, r3⟩ := insB_spec n f (x + 20) d' (by omega) c (by omega) (by rw [hp.1]; exact h4) hb hc fun p q a b e => by
        rw [hp.2.1 p (Or.inr a), hp.2.1 q (Or.inr (by omega))]; exact h7 p q (by omega) b e
      exact ⟨permIn_trans _ _ _ 0 n (permIn_mono d d' x (x + 20) 0 n (Nat.zero_le _) c (by omega) hp) r1, r2, r3⟩
    · rw [if_neg c]
      obtain ⟨hp, ho⟩ := insertion_tie hS d x n h2 (by omega) fun p q a b e => h7 p q a b e
      exact ⟨permIn_mono d _ x n 0 n (Nat.zero_le _) (Nat.le_refl _) (by omega) hp, blks_more (by omega) h1 hp h5 ho, cross_perm h6 hp (Nat.le_refl _) h4 fun k a b => blk_in h1 a (by omega)⟩
theorem mergeP_spec (s n : Nat) (hs : 0 < s) : ∀ (f x : Nat) (d : Array Nat), x % (2 * s) = 0 → x ≤ n → n - x < f → d.size = n → Blks lt (2 * s) 0 x d → Blks lt s x n d → Cross s x n d → Cross (2 * s) 0 n d →
    PermIn 0 n d (mergeP lt s n f x d) ∧ Blks lt (2 * s) 0 n (mergeP lt s n f x d) ∧ Cross (2 * s) 0 n (mergeP lt s n f x d)
  | 0, x, d, _, _, h, _, _, _, _, _ => by omega
  | f + 1, x, d, h1, h2, h3, h4, h5, h6, h7, h8 => by
    have x1 : x % s = 0 := Nat.mod_eq_zero_of_dvd (Nat.dvd_trans ⟨2, Nat.mul_comm _ _⟩ (Nat.dvd_of_mod_eq_zero h1))
    have x2 : (x + s) % s = 0 := by rw [Nat.add_mod_right]; exact x1
    have key : ∀ b, x + s < b → b ≤ n → b ≤ x + 2 * s → PermIn x b d (symM lt n x (x + s) b d) ∧ SortedIn (tie lt) x b (symM lt n x (x + s) b d) := fun b b1 b2 b3 => by
      refine symM_spec (tie_swo hS) n x (x + s) b d (by omega) b1 (by omega) (by omega) ?_ ?_ ?_
      · exact fun i j a1 a2 a3 => h6 i j a1 a2 (by omega) ((blk_in x1 a1 (by omega)).trans (blk_in x1 (by omega) a3).symm)
      · exact fun i j a1 a2 a3 => h6 i j (by omega) a2 (by omega) ((blk_in x2 a1 (by omega)).trans (blk_in x2 (by omega) (by omega)).symm)
      · exact fun i j a1 a2 a3 a4 => (tie_rising (h7 i j a1 (by omega) (blk_lt hs x2 a2 a3))).symm
    rw [mergeP]
    by_cases c : x + 2 * s ≤ n
    · rw [if_pos c]
      obtain ⟨hp, ho⟩ := key (x + 2 * s) (by omega) c (Nat.le_refl _)
      have hb := blks_more (by omega) h1 hp h5 ho
      have hc := cross_perm h8 hp c h4 fun k a b => blk_in h1 a b
      generalize symM lt n x (x + s) (x + 2 * s) d = d' at *
      obtain ⟨r1, r2, r3⟩ := mergeP_spec s n hs f (x + 2 * s) d' (by rw [Nat.add_mod_right]; exact h1) c (by omega) (by rw [hp.1]; exact h4) hb
        (fun i j a1 a2 a3 a4 => by rw [hp.2.1 i (Or.inr a1), hp.2.1 j (Or.inr (by omega))]; exact h6 i j (by omega) a2 a3 a4)
        (fun i j a1 a2 a3 => by have := lt_of_div a3; rw [hp.2.1 i (Or.inr a1), hp.2.1 j (Or.inr (by omega))]; exact h7 i j (by omega) a2 a3) hc
      exact ⟨permIn_trans _ _ _ 0 n (permIn_mono d d' x (x + 2 * s) 0 n (Nat.zero_le _) c (by omega) hp) r1, r2, r3⟩
    · rw [if_neg c]
      by_cases c2 : x + s < n
      · rw [if_pos c2]
        obtain ⟨hp, ho⟩ := key n c2 (Nat.le_refl _) (by omega)
        exact ⟨permIn_mono d _ x n 0 n (Nat.zero_le _) (Nat.le_refl _) (by omega) hp, blks_more (by omega) h1 hp h5 ho, cross_perm h8 hp (Nat.le_refl _) h4 fun k a b => blk_in h1 a (by omega)⟩
      · rw [if_neg c2]
        exact ⟨permIn_refl d 0 n, blks_more (by omega) h1 (permIn_refl d x n) h5 fun i j a1 a2 a3 => h6 i j a1 a2 a3 ((blk_in x1 a1 (by omega)).trans (blk_in x1 (by omega) (by omega)).symm), h8⟩
theorem stab_spec (n : Nat) : ∀ (f s : Nat) (d : Array Nat), 0 < s → n < s + f → d.size = n → Blks lt s 0 n d → Cross s 0 n d →
    PermIn 0 n d (stab lt n f s d) ∧ SortedIn (tie lt) 0 n (stab lt n f s d)
  | 0, s, d, h1, h2, h3, h4, h5 => by
    rw [stab]
    exact ⟨permIn_refl d 0 n, fun i j a1 a2 a3 => h4 i j a1 a2 a3 (by rw [Nat.div_eq_of_lt (by omega), Nat.div_eq_of_lt (by omega)])⟩
  | f + 1, s, d, h1, h2, h3, h4, h5 => by
    rw [stab]
    by_cases c : s < n
    · rw [if_pos c]
      obtain ⟨q1, q2, q3⟩ := mergeP_spec hS s n h1 (n + 1) 0 d (Nat.zero_mod _) (Nat.zero_le _) (by omega) h3 (fun i j _ _ a _ => by omega) h4 h5 (fun i j a1 a2 a3 => h5 i j a1 a2 (div_two a3))
      generalize mergeP lt s n (n + 1) 0 d = d' at *
      obtain ⟨r1, r2⟩ := stab_spec n f (2 * s) d' (by omega) (by omega) (by rw [q1.1]; exact h3) q2 q3
      exact ⟨permIn_trans _ _ _ 0 n q1 r1, r2⟩
    · rw [if_neg c]
      exact ⟨permIn_refl d 0 n, fun i j a1 a2 a3 => h4 i j a1 a2 a3 (by rw [Nat.div_eq_of_lt (by omega), Nat.div_eq_of_lt (by omega)])⟩
theorem stable_spec (n : Nat) (d : Array Nat) (h : d.size = n) (hr : ∀ p q, p < q → q < n → d[p]! < d[q]!) : PermIn 0 n d (stable lt n d) ∧ SortedIn (tie lt) 0 n (stable lt n d) := by
  obtain ⟨q1, q2, q3⟩ := insB_spec hS n (n + 1) 0 d (Nat.zero_mod _) (Nat.zero_le _) (by omega) h (fun i j _ _ a _ => by omega) (fun i j _ a2 a3 => hr i j (lt_of_div a3) a2) (fun p q _ a b => hr p q a b)
  unfold stable
  generalize insB lt n (n + 1) 0 d = d' at *
  obtain ⟨r1, r2⟩ := stab_spec hS n (n + 1) 20 d' (by omega) (by omega) (by rw [q1.1]; exact h) q2 q3
  exact ⟨permIn_trans _ _ _ 0 n q1 r1, r2⟩
end Go.Proofs.Ytnigfipjcnamfaa.St

/- The places that box.Sort makes: an order, and a permutation. -/
namespace Go.Proofs.Ytnigfipjcnamfaa
open Go.RowKit Go.Sort

theorem elt_true (L : List El) (i j : Nat) : elt L i j = true ↔ (L.getD i default).hi < (L.getD j default).hi ∨ ((L.getD i default).hi = (L.getD j default).hi ∧ ((L.getD i default).lo < (L.getD j default).lo ∨ ((L.getD i default).lo = (L.getD j default).lo ∧ (L.getD i default).id < (L.getD j default).id))) := by
  unfold elt ecmp pcmp dcmp icmp
  rw [decide_eq_true_eq]
  generalize L.getD i default = x
  generalize L.getD j default = y
  repeat' split
  all_goals omega
theorem elt_swo (L : List El) : SWO (elt L) := by
  refine ⟨fun x => ?_, fun x y z h1 h2 => ?_, fun x y z h1 h2 => ?_⟩
  · rw [← Bool.not_eq_true, elt_true]
    omega
  · rw [elt_true] at *
    omega
  · rw [← Bool.not_eq_true, elt_true] at *
    omega
theorem range_at (n i : Nat) (h : i < n) : (Array.range n)[i]! = i := by simp [h]
theorem elt_stable (L : List El) (n : Nat) : PermIn 0 n (Array.range n) (St.stable (elt L) n (Array.range n)) ∧ SortedIn (St.tie (elt L)) 0 n (St.stable (elt L) n (Array.range n)) :=
  St.stable_spec (elt_swo L) n (Array.range n) (by simp) fun p q h1 h2 => by rw [range_at n p (by omega), range_at n q h2]; exact h1
/-- Every place is one of the n. -/
theorem elt_places (L : List El) (n m : Nat) (h : m < n) : (St.stable (elt L) n (Array.range n))[m]! < n :=
  permIn_all (Array.range n) _ 0 n (fun v => v < n) (by simp) (elt_stable L n).1 (fun k _ hk => by rw [range_at n k hk]; exact hk) m (Nat.zero_le _) h
end Go.Proofs.Ytnigfipjcnamfaa

/- Plain: insertion into a list, ahead of the first one that it is ahead of; it tells the order with parted ties, as Go's stable sort does. -/
namespace Go.Proofs.Ytnigfipjcnamfaa.St
open Go.Sort

def ins (lt : Nat → Nat → Bool) (i : Nat) : List Nat → List Nat
  | [] => [i]
  | j :: l => if lt i j = true then i :: j :: l else j :: ins lt i l
def refS (lt : Nat → Nat → Bool) : Nat → List Nat
  | 0 => []
  | k + 1 => ins lt k (refS lt k)
theorem ins_perm (lt : Nat → Nat → Bool) (i : Nat) : ∀ l, (ins lt i l).Perm (i :: l)
  | [] => List.Perm.refl _
  | j :: l => by
    unfold ins
    by_cases h : lt i j = true
    · rw [if_pos h]
    · rw [if_neg h]
      exact ((ins_perm lt i l).cons j).trans (List.Perm.swap i j l)
theorem refS_perm (lt : Nat → Nat → Bool) : ∀ n, (refS lt n).Perm (List.range n)
  | 0 => List.Perm.refl _
  | n + 1 => by
    rw [List.range_succ]
    exact (ins_perm lt n _).trans (((refS_perm lt n).cons n).trans (List.perm_append_singleton n (List.range n)).symm)
theorem refS_mem {lt : Nat → Nat → Bool} {n j : Nat} (h : j ∈ refS lt n) : j < n := by
  rw [(refS_perm lt n).mem_iff, List.mem_range] at h
  exact h
theorem refS_length (lt : Nat → Nat → Bool) (n : Nat) : (refS lt n).length = n := by
  rw [(refS_perm lt n).length_eq, List.length_range]
theorem ins_congr {lt lt' : Nat → Nat → Bool} (i : Nat) : ∀ l, (∀ j ∈ l, lt i j = lt' i j) → ins lt i l = ins lt' i l
  | [], _ => rfl
  | j :: l, h => by
    unfold ins
    rw [h j (by simp), ins_congr i l (fun j hj => h j (by simp [hj]))]
theorem refS_congr {lt lt' : Nat → Nat → Bool} : ∀ n, (∀ i j, i < n → j < n → lt i j = lt' i j) → refS lt n = refS lt' n
  | 0, _ => rfl
  | n + 1, h => by
    unfold refS
    rw [refS_congr n (fun i j hi hj => h i j (by omega) (by omega))]
    exact ins_congr n _ fun j hj => h n j (by omega) (by have := refS_mem hj; omega)
/-- Where it is put: behind those that it isn't ahead of. -/
theorem ins_at {lt : Nat → Nat → Bool} (i : Nat) : ∀ (l : List Nat) (k : Nat), k ≤ l.length → (∀ t, t < k → lt i (l.getD t 0) = false) → (k = l.length ∨ lt i (l.getD k 0) = true) → ins lt i l = l.take k ++ i :: l.drop k
  | [], k, hk, _, _ => by
    obtain rfl : k = 0 := by simpa using hk
    rfl
  | j :: l, 0, _, _, h2 => by
    have h3 : lt i j = true := by
      rcases h2 with h | h
      · simp at h
      · exact h
    unfold ins
    rw [if_pos h3]
    rfl
  | j :: l, k + 1, hk, h1, h2 => by
    have h3 : lt i j = false := h1 0 (by omega)
    unfold ins
    rw [if_neg (by rw [h3]; simp), ins_at i l k (by simpa using hk) (fun t ht => h1 (t + 1) (by omega)) (h2.imp (by simp) id)]
    rfl
variable {lt : Nat → Nat → Bool} (hS : SWO lt)
include hS
theorem ins_sorted (i : Nat) : ∀ l : List Nat, (∀ j ∈ l, j < i) → l.Pairwise (fun a b => tie lt b a = false) → (ins lt i l).Pairwise (fun a b => tie lt b a = false)
  | [], _, _ => by unfold ins; exact List.pairwise_singleton _ _
  | j :: l, hi, h => by
    have hT := tie_swo hS
    have hj := hi j (by simp)
    obtain ⟨h1, h2⟩ := List.pairwise_cons.1 h
    unfold ins
    by_cases c : lt i j = true
    · rw [if_pos c]
      have hij : tie lt j i = false := hT.asymmA (by rw [tie_true]; exact Or.inl c)
      refine List.pairwise_cons.2 ⟨fun b hb => ?_, h⟩
      rcases List.mem_cons.1 hb with rfl | hb
      · exact hij
      · exact hT.ntrans _ _ _ (h1 b hb) hij
    · rw [if_neg c]
      rw [Bool.not_eq_true] at c
      refine List.pairwise_cons.2 ⟨fun b hb => ?_, ins_sorted i l (fun b hb => hi b (by simp [hb])) h2⟩
      rw [(ins_perm lt i l).mem_iff] at hb
      rcases List.mem_cons.1 hb with rfl | hb
      · rw [tie_false]
        exact ⟨c, Or.inr (by omega)⟩
      · exact h1 b hb
theorem refS_sorted : ∀ n, (refS lt n).Pairwise (fun a b => tie lt b a = false)
  | 0 => List.Pairwise.nil
  | n + 1 => ins_sorted hS n _ (fun j hj => refS_mem hj) (refS_sorted n)
/-- The stable sort tells the same. -/
theorem stable_refS (n : Nat) : (stable lt n (Array.range n)).toList = refS lt n := by
  obtain ⟨hp, ho⟩ := stable_spec hS n (Array.range n) (by simp) fun p q h1 h2 => by
    have e : ∀ i, i < n → (Array.range n)[i]! = i := fun i h => by simp [h]
    rw [e p (by omega), e q h2]; exact h1
  have hsz : (stable lt n (Array.range n)).size = n := by rw [hp.1]; simp
  have hperm : (stable lt n (Array.range n)).toList.Perm (List.range n) := by
    have h := hp.2.2
    have e1 : (stable lt n (Array.range n)).extract 0 n = stable lt n (Array.range n) := by
      conv => lhs; rw [← hsz]
      rw [hsz]
      conv => lhs; arg 3; rw [← hsz]
      exact Array.extract_size
    have e2 : (Array.range n).extract 0 n = Array.range n := by
      conv => lhs; arg 3; rw [← Array.size_range (n := n)]
      exact Array.extract_size
    rw [e1, e2, Array.toList_range] at h
    exact h
  refine List.Perm.eq_of_pairwise (le := fun a b => tie lt b a = false) (fun a b _ _ h1 h2 => tie_eq a b h2 h1) ?_ (refS_sorted hS n) (hperm.trans (refS_perm lt n).symm)
  rw [List.pairwise_iff_getElem]
  intro i j hi hj hij
  have hi' : i < (stable lt n (Array.range n)).size := by simpa using hi
  have hj' : j < (stable lt n (Array.range n)).size := by simpa using hj
  have := ho i j (Nat.zero_le _) hij (by omega)
  rw [getElem!_pos _ j hj', getElem!_pos _ i hi'] at this
  simpa using this
end Go.Proofs.Ytnigfipjcnamfaa.St
