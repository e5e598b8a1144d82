/- Proved: whatever order and list of rows it is handed, the Go function indenturelaw04.BoxSorts returns true (rows sorted in any order are the document's; they are what was handed in, which stays as it was), and each argument reads afterwards as it read before. Conditions: none beyond the given row's own. -/
import Derived.Test.YtddeomdmccnfbaaMg11
/- For BoxSorts: rows that are copied, sorted, written over. -/
namespace Go.Proofs.Ytddeomdmccnfbaa
open Go.RowKit

/-- A row whose header is known. -/
def rwOf (R : List Int) : Value → Rw
  | .slice p n c => ⟨p, n, c, R⟩
  | _ => default
theorem ints_of_own {w : World} {base n : Nat} {v : Value} {R : List Int} (h : w.ownsRow base 2 1 v n (ivs R)) (hR : ∀ x ∈ R, -9223372036854775808 ≤ x ∧ x ≤ 9223372036854775807) : ∃ q c, v = .slice q n c ∧ Ints w q n c R := by
  have hl : n = R.length := by have := h.1; rw [ivs_length, Nat.mul_one] at this; exact this.symm
  rcases h.2 with ⟨rfl, h0⟩ | ⟨g, cap, cur, rfl, hb, hg, hle, hm, hs, ht⟩
  · subst h0
    exact ⟨none, 0, rfl, hl, Nat.le_refl _, hR, Or.inl (List.length_eq_zero_iff.1 hl.symm)⟩
  · refine ⟨_, cap, rfl, hl, hle, hR, Or.inr ⟨g, 0, rfl, fun i hi => ?_⟩⟩
    have := World.ownsRow.cellAt h i (by omega)
    rw [Nat.zero_add, this, ivs_get R i hi]
theorem own_ge {w : World} {base n c : Nat} {v : Value} {q : Option Addr} {R : List Int} (h : w.ownsRow base 2 1 v n (ivs R)) (hv : v = .slice q n c) : R ≠ [] → ∀ g o, q = some ⟨g, o, none⟩ → base ≤ g := by
  intro _ g o hq
  subst hv
  subst hq
  rcases h.2 with ⟨h1, _⟩ | ⟨g', cap, cur, h1, hb, _⟩
  · simp at h1
  · simp at h1
    omega
/-- Headers of rows. -/
def rvs (M : List Rw) : List Value := M.map Rw.val
theorem rvs_one (M : List Rw) : ∀ u ∈ rvs M, u.oneCell' = true := by
  intro u hu
  simp only [rvs, List.mem_map] at hu
  obtain ⟨x, _, rfl⟩ := hu
  rfl
theorem rvs_append (M N : List Rw) : rvs (M ++ N) = rvs M ++ rvs N := by simp [rvs]
theorem rowsIn_of_rvs {w : World} {base n : Nat} {v : Value} {M : List Rw} (h : w.ownsRow base 23 1 v n (rvs M)) (hok : ∀ t ∈ M, t.Ok w) : ∃ q c, v = .slice q n c ∧ RowsIn w q n c M := by
  have hl : n = M.length := by have := h.1; rw [rvs, List.length_map, Nat.mul_one] at this; exact this.symm
  rcases h.2 with ⟨rfl, h0⟩ | ⟨g, cap, cur, rfl, hb, hg, hle, hm, hs, ht⟩
  · subst h0
    exact ⟨none, 0, rfl, hl, Nat.le_refl _, hok, Or.inl (List.length_eq_zero_iff.1 hl.symm)⟩
  · refine ⟨_, cap, rfl, hl, hle, hok, Or.inr ⟨g, 0, rfl, fun i hi => ?_⟩⟩
    rw [Nat.zero_add, cell_of_row w g i cur _ _ hg]
    have e : (cur.toList.take (n * 1))[i]? = (rvs M)[i]? := by rw [ht]
    rw [List.getElem?_take_of_lt (by omega)] at e
    simp [rvs, List.getElem?_eq_getElem hi] at e
    rw [e]
    simp [List.getD_eq_getElem?_getD, List.getElem?_eq_getElem hi]
theorem rv_new {t : Rw} {q : Option Addr} {n c : Nat} {R : List Int} (ht : t = ⟨q, n, c, R⟩) (w : World) : ∀ j u, (rvs [t])[j]? = some u → (w.alloc (.cells #[.slice q n c] 23)).cell? ((⟨w.heap.size, 0, none⟩ : Addr).add j) = some u := fun j u hu => by
  subst ht
  have hj : j = 0 := by have := (List.getElem?_eq_some_iff.1 hu).1; simp [rvs] at this; omega
  subst hj
  simp [rvs, Rw.val] at hu
  rw [Addr.add_mid, ← hu]
  exact cell_of_row _ _ 0 _ _ (0, 0) (heap_alloc_new w _)
theorem rows_ok_later {w w' : World} {M : List Rw} (h : ∀ t ∈ M, t.Ok w) (hb : Below w.heap.size w w') : ∀ t ∈ M, t.Ok w' := fun t ht => (h t ht).later hb
theorem Ints.grownR {w w' : World} {p : Option Addr} {n c : Nat} {R : List Int} {r : Option Nat} (h : Ints w p n c R) (hg : w.grownBy w' r) (hne : R ≠ [] → ∀ g o, p = some ⟨g, o, none⟩ → r ≠ some g) : Ints w' p n c R := by
  refine ⟨h.size, h.le, h.ok, ?_⟩
  rcases h.at' with h0 | ⟨g, o, hp, hx⟩
  · exact Or.inl h0
  · refine Or.inr ⟨g, o, hp, fun i hi => ?_⟩
    have h1 := hx i hi
    have hb := hg.block g (block_lt_of_cell h1) (fun e => hne (by intro e0; rw [e0] at hi; simp at hi) g o hp e.symm)
    simp only [World.cell?] at h1 ⊢
    rw [hb]
    exact h1
/-- A list's headers lie apart from a row's numbers. -/
def ApartR (v : Value) (t : Rw) : Prop := t.R ≠ [] → ∀ g o, t.p = some ⟨g, o, none⟩ → v.ownBlock ≠ some g
theorem Ints.lt {w : World} {p : Option Addr} {n c : Nat} {R : List Int} (h : Ints w p n c R) (hR : R ≠ []) {g o : Nat} (hp : p = some ⟨g, o, none⟩) : g < w.heap.size := by
  rcases h.at' with h0 | ⟨g', o', hp', hx⟩
  · exact absurd h0 hR
  · rw [hp] at hp'
    simp only [Option.some.injEq, Addr.mk.injEq, and_true] at hp'
    obtain ⟨rfl, rfl⟩ := hp'
    exact block_lt_of_cell (hx 0 (List.length_pos_iff.2 hR))
/-- One row more in a list of a call's own. -/
theorem own_more {wr W1 w28 : World} {base : Nat} {v v28 : Value} {M : List Rw} {t : Rw} {k : Nat} {O : Obj} (ho : wr.ownsRow base 23 1 v k (rvs M)) (hok : ∀ t ∈ M, t.Ok wr) (hap : ∀ t ∈ M, ApartR v t)
    (hb1 : Below wr.heap.size wr W1) (ht : t.Ok W1) (htn : t.R ≠ [] → ∀ g o, t.p = some ⟨g, o, none⟩ → wr.heap.size ≤ g) (hg : (W1.alloc O).grownBy w28 v.ownBlock) (hv : v28.ownBlock = v.ownBlock ∨ v28.ownBlock = some (W1.alloc O).heap.size) :
    (∀ u ∈ M ++ [t], u.Ok w28) ∧ (∀ u ∈ M ++ [t], ApartR v28 u) := by
  have hal : Below W1.heap.size W1 (W1.alloc O) := (Below.refl _ _).alloc (Nat.le_refl _) _
  have hlt : ∀ g, v.ownBlock = some g → g < wr.heap.size := fun g hg => (ho.lt g hg).2
  have key : ∀ u ∈ M ++ [t], u.Ok (W1.alloc O) ∧ ApartR v u := fun u hu => by
    rcases List.mem_append.1 hu with h | h
    · exact ⟨((hok u h).later hb1).later hal, hap u h⟩
    · simp at h
      subst h
      exact ⟨ht.later hal, fun hR g o hp e => by have := htn hR g o hp; have := hlt g e; omega⟩
  refine ⟨fun u hu => ⟨(key u hu).1.ints.grownR hg (key u hu).2, (key u hu).1.top⟩, fun u hu hR g o hp => ?_⟩
  rcases hv with e | e
  · rw [e]; exact (key u hu).2 hR g o hp
  · rw [e]
    have := (key u hu).1.ints.lt hR hp
    intro e2
    simp at e2
    simp at this
    omega
/-- What Sort tells, as a list of rows. -/
def sRows (v : Nat → Value) (f : Nat → List Int) (n : Nat) : List Rw := (List.range n).map fun i => rwOf (f i) (v i)
theorem sRows_in {w : World} {gs n : Nat} {v : Nat → Value} {f : Nat → List Int} (h : OwnRows w gs n v f n) (hf : ∀ i, i < n → ∀ x ∈ f i, -9223372036854775808 ≤ x ∧ x ≤ 9223372036854775807) (hn : ∀ i, i < n → (f i).length ≤ 1000) : RowsIn w (some ⟨gs, 0, none⟩) n n (sRows v f n) := by
  refine ⟨by simp [sRows], Nat.le_refl _, fun t ht => ?_, Or.inr ⟨gs, 0, rfl, fun i hi => ?_⟩⟩
  · simp only [sRows, List.mem_map, List.mem_range] at ht
    obtain ⟨i, hi, rfl⟩ := ht
    obtain ⟨g, c, m, h1, h2, h3⟩ := h.rows i hi
    rw [h1]
    have := h2.length
    have := hn i hi
    exact ⟨h2.ints (hf i hi), by show m ≤ _; omega⟩
  · have hi' : i < n := by simpa [sRows] using hi
    obtain ⟨g, c, m, h1, -, -⟩ := h.rows i hi'
    rw [Nat.zero_add, cell_of_row w gs i _ _ _ h.heads, heads_get v n i hi']
    simp [sRows, hi', h1, rwOf, Rw.val]
theorem sRows_nums {w : World} {gs n : Nat} {v : Nat → Value} {f : Nat → List Int} (h : OwnRows w gs n v f n) : nums (sRows v f n) = (List.range n).map f := by
  unfold nums sRows
  rw [List.map_map]
  apply List.map_congr_left
  intro i hi
  obtain ⟨g, c, m, h1, -, -⟩ := h.rows i (by simpa using hi)
  simp [h1, rwOf]
theorem toList_range (d : Array Nat) (n : Nat) (h : d.size = n) (F : Nat → List Int) : (List.range n).map (fun i => F d[i]!) = d.toList.map F := by
  subst h
  apply List.ext_getElem (by simp)
  intro i h1 h2
  have hi : i < d.size := by simpa using h1
  simp [hi]
/-- Both sorts tell the same rows. -/
theorem sorts_alike {kd cl : Int} {A : List Int} {an n c : Nat} {p : Option Addr} {LR : List Rw} {w : World} (hA : ∀ x ∈ A, -9223372036854775808 ≤ x ∧ x ≤ 9223372036854775807) (hL : RowsIn w p n c LR) (hg : ∀ k, k < n → goodRow kd cl an LR k) :
    (List.range n).map (ordRows kd cl A an n LR) = nums (rowsOf LR (St.refS (ahB kd cl A an LR) n)) := by
  have e : St.refS (ahB kd cl A an LR) n = St.refS (elt (elsOf kd cl A an LR)) n := St.refS_congr n fun i j hi hj => ahB_elt hA hL i j hi hj (hg i hi) (hg j hj)
  rw [e, ← St.stable_refS (elt_swo _) n]
  have hsz : (St.stable (elt (elsOf kd cl A an LR)) n (Array.range n)).size = n := by rw [(elt_stable (elsOf kd cl A an LR) n).1.1]; simp
  unfold ordRows nums rowsOf
  rw [toList_range _ n hsz (fun j => (LR.getD j default).R), List.map_map]
  rfl
/-- What stays of Sort's rows while they are written over. -/
def Wk (w : World) (gs n : Nat) (v : Nat → Value) : Prop := w.heap[gs]? = some (.cells (heads v n) 23 (0, 0)) ∧ ∀ i, i < n → ∃ g c m x, v i = .slice (some ⟨g, 0, none⟩) m c ∧ gs + 1 ≤ g ∧ 1 ≤ m ∧ w.cell? ⟨g, 0, none⟩ = some (.int .i64 x) ∧ w.frozen? ⟨g, 0, none⟩ = false
theorem wk_of {w : World} {gs n : Nat} {v : Nat → Value} {f : Nat → List Int} (h : OwnRows w gs n v f n) : Wk w gs n v := by
  refine ⟨h.heads, fun i hi => ?_⟩
  obtain ⟨g, c, m, h1, h2, h3⟩ := h.rows i hi
  have hc := World.ownsRow.cellAt h2 0 (by omega)
  have hl := h2.length
  rw [ivs_get (f i) 0 (by omega)] at hc
  rcases h2.2 with ⟨h4, _⟩ | ⟨g', cap, cur, hv, hb, hg, _⟩
  · simp at h4
  · obtain ⟨rfl, rfl⟩ : g = g' ∧ c = cap := by simpa using hv
    exact ⟨g, c, m, _, h1, hb, h3, hc, frozen_of_row w g _ _ _ hg⟩
theorem Wk.put {w : World} {gs n : Nat} {v : Nat → Value} (h : Wk w gs n v) {g : Nat} (hg : gs + 1 ≤ g) (y : Int) (hc : ∃ x, w.cell? ⟨g, 0, none⟩ = some (.int .i64 x)) : Wk (w.setCell ⟨g, 0, none⟩ (.int .i64 y)) gs n v := by
  refine ⟨by rw [heap_setCell_other _ _ _ _ (by show gs ≠ g; omega)]; exact h.1, fun i hi => ?_⟩
  obtain ⟨g2, c, m, x, h1, h2, h3, h4, h5⟩ := h.2 i hi
  by_cases e : g2 = g
  · subst e
    exact ⟨g2, c, m, y, h1, h2, h3, World.cell?_setCell_same _ _ _ h4, by rw [World.frozen?_setCell]; exact h5⟩
  · exact ⟨g2, c, m, x, h1, h2, h3, (World.cell?_setCell_far w ⟨g, 0, none⟩ ⟨g2, 0, none⟩ _ (fun h => e h.symm)).trans h4, by rw [World.frozen?_setCell]; exact h5⟩
theorem Wk.later {w w' : World} {gs n : Nat} {v : Nat → Value} (h : Wk w gs n v) (hb : Below w.heap.size w w') : Wk w' gs n v :=
  ⟨(hb.block _ (Array.getElem?_eq_some_iff.1 h.1).1).trans h.1, fun i hi => by
    obtain ⟨g, c, m, x, h1, h2, h3, h4, h5⟩ := h.2 i hi
    exact ⟨g, c, m, x, h1, h2, h3, (hb.cell (p := ⟨g, 0, none⟩) (block_lt_of_cell h4)).trans h4, (hb.frozen (p := ⟨g, 0, none⟩) (block_lt_of_cell h4)).trans h5⟩⟩
end Go.Proofs.Ytddeomdmccnfbaa

/- The walk of BoxSorts. -/
namespace Go.Proofs.Ytddeomdmccnfbaa
open Go.RowKit

def OwnRel (LR : List Rw) (w2 : World) (n : Nat) (v i : Value) (wr : World) : Prop :=
  ∃ (k : Nat) (M : List Rw), k ≤ n ∧ i = .int .i64 k ∧ wr.ownsRow w2.heap.size 23 1 v k (rvs M) ∧ (∀ t ∈ M, t.Ok wr) ∧ (∀ t ∈ M, ApartR v t) ∧ nums M = nums (LR.take k) ∧ Below w2.heap.size w2 wr
def WkRel (w5 : World) (gs n : Nat) (v : Nat → Value) (i : Value) (wr : World) : Prop := ∃ k : Nat, k ≤ n ∧ i = .int .i64 k ∧ Wk wr gs n v ∧ Below w5.heap.size w5 wr
set_option maxRecDepth 100000 in
set_option maxHeartbeats 4000000 in
theorem bsorts_any (kd cl : Int) (q p : Option Addr) (an ac n c : Nat) (A : List Int) (LR : List Rw) (w : World) (hA : Ints w q an ac A) (hL : RowsIn w p n c LR) (hnil : ∀ t ∈ LR, (t.p = none → t.c = 0) ∧ t.c * 8 ≤ 140737488351232) (hn9 : n ≤ 9223372036854775807) :
    Calls Try.prog 7 #[.agg #[.int .u8 kd, .int .i64 cl, .slice q an ac], .slice p n c] w fun e w' => e = .returned (.bool true) ∧ Below w.heap.size w w' := by
  obtain ⟨i23, hi, hi0, hi1, hi2⟩ := info_parts I23x
  have HI := Lib.hid hi
  have HI0 := Lib.hid hi0
  have HI1 := Lib.hid hi1
  have HI2 := Lib.hid hi2
  obtain ⟨i2, hj, hj0, hj1, hj2⟩ := info_parts I2n
  have HJ := Lib.hid hj
  have HJ0 := Lib.hid hj0
  have HJ1 := Lib.hid hj1
  have HJ2 := Lib.hid hj2
  have HNIL := Lib.hid hnil
  clear hi hi0 hi1 hi2 hj hj0 hj1 hj2 hnil
  have ho := ord_in (kd := kd) (cl := cl) hA
  obtain ⟨w1, hw1⟩ : ∃ w1, w1 = w.alloc (.cells #[.int .u8 kd, .int .i64 cl, .slice q an ac] 34) := ⟨_, rfl⟩
  go_enter Try.func7, Try.ntmps7
  go_upto_region 1 with fail
  rw [← hw1] at ho ⊢
  have O1 := Lib.hid ho
  have L1 := Lib.hid (hL.later ho.below)
  clear ho hA hL hw1
  go_wp2_with fail
  refine (alive4_any w1).mono ?_
  rintro _ w2 ⟨rfl, hb2⟩
  have O2 := Lib.hid (O1.out.later hb2)
  have L2 := Lib.hid (L1.out.later hb2)
  clear hb2 O1 L1
  by_cases h100 : 100 < n
  · have b1 : (100 : Int) < n := by omega
    go_wp2_with fail
    go_ret
    exact ⟨rfl, O2.out.below⟩
  have b1 : ¬ (100 : Int) < n := by omega
  have n100 : n ≤ 100 := by omega
  clear h100
  go_wp2_with fail
  go_loopw [5, 6] (fun v i wr => OwnRel LR w2 n v i wr) (fun _ i _ => n - (intOf i).toNat)
  case atStart => exact ⟨0, [], by omega, rfl, World.ownsRow_nil w2 _ _ _, fun t ht => absurd ht (by simp), fun t ht => absurd ht (by simp), rfl, Below.refl _ _⟩
  case round =>
    obtain ⟨k, M, hk, rfl, ho, hok, hap, hnum, hb⟩ := hrel
    have HO := Lib.hid ho
    have HOK := Lib.hid hok
    have HAP := Lib.hid hap
    have HNUM := Lib.hid hnum
    have HB := Lib.hid hb
    have L3 := Lib.hid (L2.out.later hb)
    clear ho hok hap hnum hb
    by_cases hlt : k < n
    · obtain ⟨gL, oL, rfl, hck, hokk⟩ := L3.out.cell k hlt
      have hlen : k < LR.length := by rw [← L3.out.size]; exact hlt
      have hnt := nums_take_succ LR k hlen
      have hnk : ((LR.getD k default).p = none → (LR.getD k default).c = 0) ∧ (LR.getD k default).c * 8 ≤ 140737488351232 := HNIL.out _ (by
        rw [List.getD_eq_getElem?_getD, List.getElem?_eq_getElem hlen]
        exact List.getElem_mem hlen)
      obtain ⟨t, ht⟩ : ∃ t, t = LR.getD k default := ⟨_, rfl⟩
      rw [← ht] at hck hokk hnt hnk
      have HT := Lib.hid ht
      obtain ⟨tp, tn, tc, tR⟩ := t
      unfold Rw.val at hck
      simp only at hck hnt hnk
      have hint := hokk.ints
      simp only at hint
      have htop := hokk.top
      simp only at htop
      have HNT := Lib.hid hnt
      have i1 : (0 : Int) ≤ k ∧ (k : Int) < n := by omega
      have hal : Below wr.heap.size wr (wr.alloc (.cells #[] 2)) := (Below.refl _ _).alloc (Nat.le_refl _) _
      have HTOP := Lib.hid htop
      have HINT := Lib.hid hint
      have HBS := Lib.hid HB.out.size
      obtain ⟨hnk1, hnk2⟩ := hnk
      have hck2 : (wr.alloc (.cells #[] 2)).cell? ⟨gL, oL + k, none⟩ = some (.slice tp tn tc) := (hal.cell (p := ⟨gL, oL + k, none⟩) (block_lt_of_cell hck)).trans hck
      have hle := hint.le
      cases tp with
      | none =>
        obtain rfl : tc = 0 := hnk1 rfl
        obtain rfl : tn = 0 := by omega
        have hemp : tR = [] := List.length_eq_zero_iff.1 hint.size.symm
        have HOE := Lib.hid (own_empty wr)
        have HAL := Lib.hid hal
        have hint2 : Ints (wr.alloc (.cells #[] 2)) (some ⟨wr.heap.size, 0, none⟩) 0 0 tR := by rw [hemp]; exact ⟨rfl, Nat.le_refl _, fun x hx => absurd hx (by simp), Or.inl rfl⟩
        have HIN2 := Lib.hid hint2
        clear hal hint hnk1 hnk2 hint2 hemp hokk htop
        go_wp2_with (first | (at_builtin; refine wpList_append_own_none (by rfl) (.tmp 21) (.tmp 25) 23 (by rfl) wr.heap.size 2 i2 1 URn HJ.out _ 0 _ (by rfl) HOE.out (by rfl) ?_; obtain ⟨W1, hW1⟩ : ∃ W1, W1 = wr.alloc (.cells #[] 2) := ⟨_, rfl⟩; rw [← hW1]; have hA1 := HAL.out; have hI1 := HIN2.out; rw [← hW1] at hA1 hI1; have A1 := Lib.hid hA1; have I1 := Lib.hid hI1; clear hA1 hI1 hW1 hck2) | (at_builtin; refine wpList_append_own_at _ (by rfl) (.tmp 20) (.tmp 27) 52 (by rfl) w2.heap.size 23 i23 (.slice none 0 0) 1 24 U52 HI.out HI0.out HI1.out HI2.out (by rfl) (by decide) _ k _ (by rfl) ((ownsR_later HO.out A1.out).alloc _) ⟨W1.heap.size, 0, none⟩ 1 1 (rvs [⟨some ⟨wr.heap.size, 0, none⟩, 0, 0, tR⟩]) (by rfl) (by rfl) (rv_new rfl W1) (rvs_one _) (by unfold maxLen; omega) (by omega) (by have h1 := A1.out.size; have h2 := HBS.out; simp; omega) ?_; intro v28 w28 hown28 hgrow28 _ hat28; have O28 := Lib.hid hown28; have G28 := Lib.hid hgrow28; have T28 := Lib.hid hat28; clear hown28 hgrow28 hat28))
        obtain ⟨hk28, ha28⟩ := own_more (t := ⟨some ⟨wr.heap.size, 0, none⟩, 0, 0, tR⟩) HO.out HOK.out HAP.out A1.out ⟨I1.out, by show 0 ≤ _; omega⟩ (fun _ g o hp => by simp only [Option.some.injEq, Addr.mk.injEq] at hp; omega) G28.out T28.out
        have hb28 : Below w2.heap.size w2 w28 := ((HB.out.trans (A1.out.mono HBS.out)).alloc (HB.out.trans (A1.out.mono HBS.out)).size _).grown G28.out (by have h1 := A1.out.size; have h2 := HBS.out; simp; omega) (fun i hi => (((ownsR_later HO.out A1.out).alloc (.cells #[.slice (some ⟨wr.heap.size, 0, none⟩) (0) (0)] 23)).lt i hi).1)
        have ho28 : w28.ownsRow w2.heap.size 23 1 v28 (k + 1) (rvs (M ++ [⟨some ⟨wr.heap.size, 0, none⟩, 0, 0, tR⟩])) := by rw [rvs_append]; exact O28.out
        have HO28 := Lib.hid ho28
        have HK28 := Lib.hid hk28
        have HA28 := Lib.hid ha28
        have HB28 := Lib.hid hb28
        clear ho28 hk28 ha28 hb28
        go_roundw
        case rel => exact ⟨k + 1, M ++ [⟨some ⟨wr.heap.size, 0, none⟩, 0, 0, tR⟩], by omega, by go_num, HO28.out, HK28.out, HA28.out, by rw [HNT.out, ← HNUM.out]; simp [nums], HB28.out⟩
        case measure => simp [intOf]; omega
      | some x =>
        have HOE := Lib.hid (own_empty wr)
        have HAL := Lib.hid hal
        have hnews : ∀ j u, (ivs tR)[j]? = some u → (wr.alloc (.cells #[] 2)).cell? (x.add j) = some u := by
          rcases hint.at' with h0 | ⟨g', o', hp, -⟩
          · intro j u hu
            rw [h0] at hu
            simp [ivs] at hu
          · simp only [Option.some.injEq] at hp
            subst hp
            exact (hint.later hal).news
        have HNW := Lib.hid hnews
        have HRL := Lib.hid (show (ivs tR).length = tn * 1 by rw [ivs_length, ← hint.size, Nat.mul_one])
        clear hal hint hnk1 hokk htop hnews
        go_wp2_with (first | (at_builtin; refine wpList_append_own _ (by rfl) (.tmp 21) (.tmp 25) 23 (by rfl) wr.heap.size 2 i2 (.int .i64 0) 1 8 URn HJ.out HJ0.out HJ1.out HJ2.out (by rfl) (by decide) _ 0 [] (by rfl) HOE.out x tn tc (ivs tR) (by rfl) HRL.out HNW.out (ivs_one tR) (by unfold maxLen; omega) (by omega) (by simp) ?_; intro v26 W1 hown26 hgrow26 _; obtain ⟨q26, c26, hv26, hI1⟩ := ints_of_own (R := tR) (n := tn) (by have h := hown26; rw [Nat.zero_add, List.nil_append] at h; exact h) HINT.out.ok; have hq26 : tR ≠ [] → ∀ g o, q26 = some ⟨g, o, none⟩ → wr.heap.size ≤ g := own_ge (by have h := hown26; rw [Nat.zero_add, List.nil_append] at h; exact h) hv26; subst hv26; have hA1 : Below wr.heap.size wr W1 := HAL.out.grown hgrow26 (by simp) (fun k hk => by simp [Value.ownBlock] at hk; omega); have A1 := Lib.hid hA1; have I1 := Lib.hid hI1; have Q26 := Lib.hid hq26; clear hA1 hI1 hown26 hgrow26 hck2 hq26) | (at_builtin; refine wpList_append_own_at _ (by rfl) (.tmp 20) (.tmp 27) 52 (by rfl) w2.heap.size 23 i23 (.slice none 0 0) 1 24 U52 HI.out HI0.out HI1.out HI2.out (by rfl) (by decide) _ k _ (by rfl) ((ownsR_later HO.out A1.out).alloc _) ⟨W1.heap.size, 0, none⟩ 1 1 (rvs [⟨q26, tn, c26, tR⟩]) (by rfl) (by rfl) (rv_new rfl W1) (rvs_one _) (by unfold maxLen; omega) (by omega) (by have h1 := A1.out.size; have h2 := HBS.out; simp; omega) ?_; intro v28 w28 hown28 hgrow28 _ hat28; have O28 := Lib.hid hown28; have G28 := Lib.hid hgrow28; have T28 := Lib.hid hat28; clear hown28 hgrow28 hat28))
        obtain ⟨hk28, ha28⟩ := own_more (t := ⟨q26, tn, c26, tR⟩) HO.out HOK.out HAP.out A1.out ⟨I1.out, by show tn ≤ _; omega⟩ (Q26.out) G28.out T28.out
        have hb28 : Below w2.heap.size w2 w28 := ((HB.out.trans (A1.out.mono HBS.out)).alloc (HB.out.trans (A1.out.mono HBS.out)).size _).grown G28.out (by have h1 := A1.out.size; have h2 := HBS.out; simp; omega) (fun i hi => (((ownsR_later HO.out A1.out).alloc (.cells #[.slice (q26) (tn) (c26)] 23)).lt i hi).1)
        have ho28 : w28.ownsRow w2.heap.size 23 1 v28 (k + 1) (rvs (M ++ [⟨q26, tn, c26, tR⟩])) := by rw [rvs_append]; exact O28.out
        have HO28 := Lib.hid ho28
        have HK28 := Lib.hid hk28
        have HA28 := Lib.hid ha28
        have HB28 := Lib.hid hb28
        clear ho28 hk28 ha28 hb28
        go_roundw
        case rel => exact ⟨k + 1, M ++ [⟨q26, tn, c26, tR⟩], by omega, by go_num, HO28.out, HK28.out, HA28.out, by rw [HNT.out, ← HNUM.out]; simp [nums], HB28.out⟩
        case measure => simp [intOf]; omega
    · obtain rfl : k = n := by omega
      obtain ⟨qO, cO, rfl, hown⟩ := rowsIn_of_rvs HO.out HOK.out
      have hnum2 : nums M = nums LR := by
        have := HNUM.out
        rw [List.take_of_length_le (by rw [← L3.out.size]; exact Nat.le_refl _)] at this
        exact this
      have HNUM2 := Lib.hid hnum2
      have HOWN := Lib.hid hown
      have O3 := Lib.hid (O2.out.later HB.out)
      clear hnum2 hown HO HOK HAP HNUM
      obtain ⟨x0, x1, x2⟩ := O3.out.cells
      go_wp2_with fail
      refine (sort_any kd cl q p an ac k c A LR wr O3.out.i L3.out n100 (fun m hm => elt_places _ _ _ hm)).mono ?_
      rintro e w5 hp
      unfold SortPost at hp
      clear x0 x1 x2
      by_cases hg : ∀ j, j < k → goodRow kd cl an LR j
      · rw [if_pos hg] at hp
        obtain ⟨gs, v, rfl, hgs, hrows, hb5⟩ := hp
        have hst : ∀ i, i < k → (LR.getD (St.stable (elt (elsOf kd cl A an LR)) k (Array.range k))[i]! default).Ok wr ∧ ordP kd cl an (LR.getD (St.stable (elt (elsOf kd cl A an LR)) k (Array.range k))[i]! default).n := fun i hi => by
          have hp := elt_places (elsOf kd cl A an LR) k i hi
          exact ⟨getD_Ok L3.out _ hp, (hg _ hp).1⟩
        have hS := sRows_in hrows (fun i hi => (hst i hi).1.ints.ok) (fun i hi => by
          have h1 := (hst i hi).1.ints.size
          have h2 := (hst i hi).2.1.2
          unfold ordRows
          omega)
        have hSn := (sRows_nums hrows).trans (sorts_alike O3.out.i.ok L3.out hg)
        have HS5 := Lib.hid hS
        have HSN := Lib.hid hSn
        have HWK := Lib.hid (wk_of hrows)
        have HG := Lib.hid hg
        have HGS := Lib.hid hgs
        have HB5 := Lib.hid hb5
        have O5 := Lib.hid (O3.out.later hb5)
        have L5 := Lib.hid (L3.out.later hb5)
        have W5 := Lib.hid (HOWN.out.later hb5)
        clear hst hS hSn hrows hgs hb5 hg
        obtain ⟨x0, x1, x2⟩ := O5.out.cells
        go_wp2_with fail
        refine (refsort_any kd cl q p an ac k c A LR w5 O5.out.i L5.out n100).mono ?_
        rintro e w6 hp
        unfold RSortPost at hp
        rw [if_pos HG.out] at hp
        obtain ⟨q6, c6, rfl, hr6, hb6⟩ := hp
        have HR6 := Lib.hid hr6
        have HB6 := Lib.hid hb6
        have L6 := Lib.hid (L5.out.later hb6)
        have W6 := Lib.hid (W5.out.later hb6)
        have S6 := Lib.hid (HS5.out.later hb6)
        have K6 := Lib.hid (HWK.out.later hb6)
        clear hr6 hb6 x0 x1 x2
        go_wp2_with fail
        refine (samerows_any _ q6 k k k c6 _ _ w6 S6.out HR6.out (by omega)).mono ?_
        rintro _ w7 ⟨rfl, j7, hw7⟩
        rw [decide_eq_true HSN.out]
        have hb7 : Below w6.heap.size w6 w7 := by rw [hw7]; exact Below.drewN (Below.refl _ _) j7
        have L7 := Lib.hid (L6.out.later hb7)
        have W7 := Lib.hid (W6.out.later hb7)
        have K7 := Lib.hid (K6.out.later hb7)
        have HB7 := Lib.hid (HB5.out.trans ((HB6.out.trans (hb7.mono HB6.out.size)).mono HB5.out.size))
        clear hb7 hw7
        go_wp2_with fail
        refine (samerows_any qO p k cO k c M LR w7 W7.out L7.out (by omega)).mono ?_
        rintro _ w8 ⟨rfl, j8, hw8⟩
        rw [decide_eq_true HNUM2.out]
        have hb8 : Below w7.heap.size w7 w8 := by rw [hw8]; exact Below.drewN (Below.refl _ _) j8
        have L8 := Lib.hid (L7.out.later hb8)
        have W8 := Lib.hid (W7.out.later hb8)
        have K8 := Lib.hid (K7.out.later hb8)
        have HB8 := Lib.hid (HB7.out.trans (hb8.mono HB7.out.size))
        clear hb8 hw8
        go_wp2_with fail
        go_loopw [8] (fun i wr' => WkRel wr gs k v i wr') (fun i _ => k - (intOf i).toNat)
        case atStart => exact ⟨0, by omega, rfl, K8.out, HB8.out⟩
        case round =>
          obtain ⟨m, hm, rfl, hwk, hbw⟩ := hrel
          have KW := Lib.hid hwk
          have BW := Lib.hid hbw
          clear hwk hbw
          by_cases hlt2 : m < k
          · obtain ⟨g, cg, mg, x, hv, hgg, hmg, hcx, hfx⟩ := KW.out.2 m hlt2
            have hch := (cell_of_row _ gs m _ _ _ KW.out.1).trans (heads_get v k m hlt2)
            rw [hv] at hch
            have i1 : (0 : Int) ≤ m ∧ (m : Int) < k := by omega
            have m0 : 0 < mg := by omega
            have m1 : (0 : Int) < mg := by omega
            have hput := fun y => KW.out.put hgg y ⟨x, hcx⟩
            have HPUT := Lib.hid hput
            have HGG := Lib.hid hgg
            clear hput hv hgg
            go_wp2_with fail
            go_roundw
            case rel => exact ⟨m + 1, by omega, by go_num, HPUT.out _, grown_below BW.out (grown_setCell _ g _ _) (by have := HGG.out; have := HGS.out; omega)⟩
            case measure => simp [intOf]; omega
          · obtain rfl : m = k := by omega
            go_wp2_with fail
            refine (samerows_any qO p m cO m c M LR _ (HOWN.out.later BW.out) (L3.out.later BW.out) (by omega)).mono ?_
            rintro _ w9 ⟨rfl, j9, hw9⟩
            rw [decide_eq_true HNUM2.out]
            have hb9 := Below.drewN BW.out j9
            rw [← hw9] at hb9
            have HB9 := Lib.hid (O3.out.below.trans (hb9.mono O3.out.below.size))
            clear hb9 hw9
            go_wp2_with fail
            go_ret
            exact ⟨rfl, HB9.out⟩
      · rw [if_neg hg] at hp
        obtain ⟨rfl, hb5⟩ := hp
        have HG := Lib.hid hg
        have HB5 := Lib.hid hb5
        have O5 := Lib.hid (O3.out.later hb5)
        have L5 := Lib.hid (L3.out.later hb5)
        have W5 := Lib.hid (HOWN.out.later hb5)
        clear hb5 hg
        obtain ⟨x0, x1, x2⟩ := O5.out.cells
        go_wp2_with fail
        refine (refsort_any kd cl q p an ac k c A LR w5 O5.out.i L5.out n100).mono ?_
        rintro e w6 hp
        unfold RSortPost at hp
        rw [if_neg HG.out] at hp
        obtain ⟨rfl, hb6⟩ := hp
        have HB6 := Lib.hid hb6
        have L6 := Lib.hid (L5.out.later hb6)
        have W6 := Lib.hid (W5.out.later hb6)
        clear hb6 x0 x1 x2
        have hnl : ∀ w', RowsIn w' none 0 0 [] := fun w' => ⟨rfl, Nat.le_refl _, fun t ht => absurd ht (by simp), Or.inl rfl⟩
        have HNL := Lib.hid hnl
        clear hnl
        go_wp2_with fail
        refine (samerows_any none none 0 0 0 0 [] [] w6 (HNL.out _) (HNL.out _) (by omega)).mono ?_
        rintro _ w7 ⟨rfl, j7, hw7⟩
        rw [decide_eq_true (rfl : nums [] = nums [])]
        have hb7 : Below w6.heap.size w6 w7 := by rw [hw7]; exact Below.drewN (Below.refl _ _) j7
        have L7 := Lib.hid (L6.out.later hb7)
        have W7 := Lib.hid (W6.out.later hb7)
        have HB7 := Lib.hid (HB5.out.trans ((HB6.out.trans (hb7.mono HB6.out.size)).mono HB5.out.size))
        clear hb7 hw7
        go_wp2_with fail
        refine (samerows_any qO p k cO k c M LR w7 W7.out L7.out (by omega)).mono ?_
        rintro _ w8 ⟨rfl, j8, hw8⟩
        rw [decide_eq_true HNUM2.out]
        have hb8 : Below w7.heap.size w7 w8 := by rw [hw8]; exact Below.drewN (Below.refl _ _) j8
        have L8 := Lib.hid (L7.out.later hb8)
        have W8 := Lib.hid (W7.out.later hb8)
        have HB8 := Lib.hid (HB7.out.trans (hb8.mono HB7.out.size))
        clear hb8 hw8
        go_wp2_with fail
        go_loopw [8] (fun i wr' => i = .int .i64 0 ∧ wr' = w8) (fun _ _ => 0)
        case atStart => exact ⟨rfl, rfl⟩
        case round =>
          obtain ⟨rfl, rfl⟩ := hrel
          go_wp2_with fail
          refine (samerows_any qO p k cO k c M LR _ W8.out L8.out (by omega)).mono ?_
          rintro _ w9 ⟨rfl, j9, hw9⟩
          rw [decide_eq_true HNUM2.out]
          have hb9 := Below.drewN HB8.out j9
          rw [← hw9] at hb9
          have HB9 := Lib.hid (O3.out.below.trans (hb9.mono O3.out.below.size))
          clear hb9 hw9
          go_wp2_with fail
          go_ret
          exact ⟨rfl, HB9.out⟩
end Go.Proofs.Ytddeomdmccnfbaa

/- Proved: whatever order and list of rows it is handed, the Go function indenturelaw04.BoxSorts returns true (rows sorted in any order are the document's; they are what was handed in, which stays as it was), and each argument reads afterwards as it read before. Conditions: none beyond the given row's own. -/
namespace Go.Proofs.Ytddeomdmccnfbaa
open Go.ChangeShapes Go.WideShapes Go.ChangeAt Go.RowKit Go.Deep

set_option maxRecDepth 100000 in
theorem bsorts_lifted (os : Os) (started : os.Started) (H : Type) (enc : TypeId × Value → H) :
    ReturnsInHanded {} Try.checked os 7 .any (Rows.boxSortsSpec.pre6 enc Try.prog Try.f7 Rows.boxSortsRow.domain false) (Rows.boxSortsSpec.post enc Try.prog Try.f7 false true false false) := by
  refine returnsInHanded_of_change_sized (C := Try.checked) gen_own started (by kernel_rfl) Try.func7
    (ChangeSpec.witness6 (enc := enc) (C := Try.checked) false ⟨#[], #[.agg #[.int .u8 0, .int .i64 0, .slice none 0 0], .slice none 0 0], []⟩ 8 (by kernel_rfl) (by kernel_rfl) (by kernel_rfl) (by kernel_rfl)) ?_
  intro W base args ds gs before hval0 hW _ hsz0 _
  have hsz : (DataW.weightsEach Try.prog (Try.f7.params.toList ++ Rows.boxSortsSpec.plain.varTypes Try.prog) (ds ++ gs)).all (· ≤ reachBytes) = true := hsz0
  clear hsz0
  have hval : ∀ (j : Nat) t v, Try.f7.params[j]? = some t → args[j]? = some v → Value.okWide Try.prog W .any base t v := hval0
  have hW' := hW
  obtain ⟨p, q, hA0, hV, rfl, _, _⟩ := hW
  have hA : DataW.TrodAll enc Try.prog W 0 (fun _ => true) true Try.f7.params.toList args.toList ds p := hA0
  rw [Try.params7] at hA hval hsz
  obtain ⟨v0, vs0, d0, ds0, p0, q0, hargs, rfl, rfl, h0, r0⟩ := trodAll_cons hA
  obtain ⟨v1, vs1, d1, ds1, p1, q1, rfl, rfl, rfl, h1, r1⟩ := trodAll_cons r0
  obtain ⟨rfl, rfl, rfl⟩ := trodAll_nil r1
  obtain rfl : args = #[v0, v1] := by cases args; simp_all
  obtain ⟨rfl, rfl⟩ := trodVars_none hV
  obtain ⟨kd0, cl0, a0, len0, cap0, R0, rfl, hkd0, hcl0, hR0, hl0⟩ := open_order (hval 0 34 v0 rfl rfl) h0
  obtain ⟨a1, len1, cap1, rfl⟩ := okWide_slice Try.underlying52 (hval 1 52 v1 rfl rfl)
  have k0 := h0
  have k1 := h1
  have lt0 : ∀ x ∈ p0, x.block < W.heap.size := by obtain ⟨m, hm⟩ := k0; exact DataW.trod_lt m _ _ _ hm
  have lt1 : ∀ x ∈ p1, x.block < W.heap.size := by obtain ⟨m, hm⟩ := k1; exact DataW.trod_lt m _ _ _ hm
  obtain ⟨⟨L1, hL1, hN1⟩, hl1⟩ : (∃ L, RowsIn W a1 len1 cap1 L ∧ ∀ t ∈ L, (t.p = none → t.c = 0) ∧ t.c * 8 ≤ 140737488351232) ∧ len1 ≤ 9223372036854775807 := by
    obtain ⟨fuel, hf⟩ := h1
    exact open_rows2 (j := 1) hf hsz rfl rfl
  clear hA0 hval0
  refine (bsorts_any kd0 cl0 a0 a1 len0 cap0 len1 cap1 R0 L1 W hR0 hL1 hN1 hl1).mono fun e W' ⟨he, bel⟩ => ?_
  subst he
  exact ⟨_, rfl, _, _, _, [], _, [], hW', trodAll_mk1 (shut_bool Try.underlying4 _),
    (trodAll_cons_mk (Below.trod gen_laidOut (by kernel_rfl) (of_decide_eq_true (by kernel_rfl)) k0 bel lt0) (trodAll_cons_mk (Below.trod gen_laidOut (by kernel_rfl) (of_decide_eq_true (by kernel_rfl)) k1 bel lt1) trodAll_mk0)), rfl, bel.frame _, fun h => by cases h⟩
theorem bsorts_holds : Rows.BoxSortsSaid :=
  OpenClaim.holds_of_wide 7 Try.f7 rfl rfl rfl rfl rfl rfl rfl ⟨rfl, rfl, rfl, rfl, rfl⟩ rfl rfl rfl rfl rfl (by kernel_rfl) Try.func7 (by kernel_rfl)
    (of_decide_eq_true (by kernel_rfl)) (by unfold Func.isWrapper; first | (rw [if_pos (by decide +kernel)]; kernel_rfl) | (rw [if_neg (by decide +kernel)]; exact ⟨rfl, rfl⟩))
    (fun os started H enc _ => bsorts_lifted os started H enc)
end Go.Proofs.Ytddeomdmccnfbaa
