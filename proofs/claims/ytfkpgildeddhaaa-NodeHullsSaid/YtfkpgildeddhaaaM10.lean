/- NdSides, BoxRefHas. -/
import Derived.Test.YtfkpgildeddhaaaM9
/- A node's box holds all that it is of, and each of its sides is one of theirs, plainly. -/
namespace Go.Proofs.Ytfkpgildeddhaaa.Nd
open Go.RowKit

/-- A right box of so many numbers. -/
def Bx (d : Nat) (x : List Int × List Int) : Prop := rb x.1 x.2 = true ∧ x.1.length = d
theorem bx_iff {d : Nat} {x : List Int × List Int} : Bx d x ↔ 1 ≤ d ∧ d ≤ 8 ∧ x.1.length = d ∧ x.2.length = d ∧ ∀ i, i < d → x.1.getD i 0 ≤ x.2.getD i 0 := by
  unfold Bx rb rightB
  rw [Bool.and_eq_true, decide_eq_true_eq, les_iff]
  constructor
  · rintro ⟨⟨h1, h2⟩, h3⟩
    subst h3
    exact ⟨by omega, by omega, rfl, by omega, h2⟩
  · rintro ⟨h1, h2, h3, h4, h5⟩
    rw [h3, h4]
    exact ⟨⟨by omega, h5⟩, rfl⟩
theorem rb_nil : rb [] [] = false := rfl
/-- What a box is of boxes: the least one that holds them. -/
def Sides (d : Nat) (L : List (List Int × List Int)) (b : List Int × List Int) : Prop :=
  ((∀ x ∈ L, x = ([], [])) ∧ b = ([], [])) ∨
  (Bx d b ∧ (∀ x ∈ L, Bx d x → ∀ i, i < d → b.1.getD i 0 ≤ x.1.getD i 0 ∧ x.2.getD i 0 ≤ b.2.getD i 0) ∧ (∃ x ∈ L, Bx d x) ∧
   ∀ i, i < d → (∃ x ∈ L, Bx d x ∧ x.1.getD i 0 = b.1.getD i 0) ∧ ∃ x ∈ L, Bx d x ∧ x.2.getD i 0 = b.2.getD i 0)
theorem bx_nil {d : Nat} : ¬ Bx d ([], []) := fun h => by have := (bx_iff.1 h); simp at this; omega
theorem hull_nil_right {d : Nat} {b : List Int × List Int} (h : Bx d b) : hull b ([], []) = b := by
  unfold hull
  rw [if_pos ⟨h.1, rb_nil⟩]
theorem hull_nil_left {d : Nat} {b : List Int × List Int} (h : Bx d b) : hull ([], []) b = b := by
  unfold hull
  rw [if_neg (fun k => by have := k.1; rw [rb_nil] at this; cases this), if_pos ⟨h.1, rb_nil⟩]
theorem hull_nil : hull ([], []) ([], []) = ([], []) := rfl
theorem hull_two {d : Nat} {a b : List Int × List Int} (ha : Bx d a) (hb : Bx d b) : hull a b = (two min a.1 b.1 d, two max a.2 b.2 d) := by
  unfold hull
  rw [if_neg (fun k => by have := k.2; rw [hb.1] at this; cases this), if_neg (fun k => by have := k.2; rw [ha.1] at this; cases this), if_neg (fun k => by
    rcases k with k | k
    · rw [ha.1] at k; cases k
    · exact k (ha.2.trans hb.2.symm)), ha.2]
theorem bx_two {d : Nat} {a b : List Int × List Int} (ha : Bx d a) (_hb : Bx d b) : Bx d (two min a.1 b.1 d, two max a.2 b.2 d) := by
  have h1 := bx_iff.1 ha
  refine bx_iff.2 ⟨h1.1, h1.2.1, two_length _ _ _ _, two_length _ _ _ _, fun i hi => ?_⟩
  rw [two_getD _ _ _ _ _ hi, two_getD _ _ _ _ _ hi]
  have := h1.2.2.2.2 i hi
  omega
theorem sides_snoc {d : Nat} {L : List (List Int × List Int)} {b x : List Int × List Int} (h : Sides d L b) (hx : x = ([], []) ∨ Bx d x) : Sides d (L ++ [x]) (hull b x) := by
  rcases h with ⟨h1, rfl⟩ | ⟨h1, h2, h3, h4⟩
  · rcases hx with rfl | hx
    · refine Or.inl ⟨fun y hy => ?_, hull_nil⟩
      rcases List.mem_append.1 hy with hy | hy
      · exact h1 y hy
      · simpa using hy
    · rw [hull_nil_left hx]
      have hm : x ∈ L ++ [x] := by simp
      refine Or.inr ⟨hx, fun y hy hy2 i hi => ?_, ⟨x, hm, hx⟩, fun i hi => ⟨⟨x, hm, hx, rfl⟩, ⟨x, hm, hx, rfl⟩⟩⟩
      rcases List.mem_append.1 hy with hy | hy
      · exact absurd (h1 y hy ▸ hy2) bx_nil
      · obtain rfl : y = x := by simpa using hy
        exact ⟨Int.le_refl _, Int.le_refl _⟩
  · rcases hx with rfl | hx
    · rw [hull_nil_right h1]
      refine Or.inr ⟨h1, fun y hy hy2 i hi => ?_, ?_, fun i hi => ?_⟩
      · rcases List.mem_append.1 hy with hy | hy
        · exact h2 y hy hy2 i hi
        · obtain rfl : y = ([], []) := by simpa using hy
          exact absurd hy2 bx_nil
      · obtain ⟨y, hy, hy2⟩ := h3
        exact ⟨y, List.mem_append_left _ hy, hy2⟩
      · obtain ⟨⟨y, hy, hy2, e⟩, ⟨z, hz, hz2, e2⟩⟩ := h4 i hi
        exact ⟨⟨y, List.mem_append_left _ hy, hy2, e⟩, ⟨z, List.mem_append_left _ hz, hz2, e2⟩⟩
    · rw [hull_two h1 hx]
      have hm : x ∈ L ++ [x] := by simp
      refine Or.inr ⟨bx_two h1 hx, fun y hy hy2 i hi => ?_, ⟨x, hm, hx⟩, fun i hi => ?_⟩
      · show (two min b.1 x.1 d).getD i 0 ≤ _ ∧ _ ≤ (two max b.2 x.2 d).getD i 0
        rw [two_getD _ _ _ _ _ hi, two_getD _ _ _ _ _ hi]
        rcases List.mem_append.1 hy with hy | hy
        · have := h2 y hy hy2 i hi
          omega
        · obtain rfl : y = x := by simpa using hy
          omega
      · show (∃ y ∈ L ++ [x], Bx d y ∧ y.1.getD i 0 = (two min b.1 x.1 d).getD i 0) ∧ (∃ y ∈ L ++ [x], Bx d y ∧ y.2.getD i 0 = (two max b.2 x.2 d).getD i 0)
        rw [two_getD _ _ _ _ _ hi, two_getD _ _ _ _ _ hi]
        obtain ⟨⟨y, hy, hy2, e⟩, ⟨z, hz, hz2, e2⟩⟩ := h4 i hi
        constructor
        · by_cases hc : b.1.getD i 0 ≤ x.1.getD i 0
          · exact ⟨y, List.mem_append_left _ hy, hy2, by omega⟩
          · exact ⟨x, hm, hx, by omega⟩
        · by_cases hc : x.2.getD i 0 ≤ b.2.getD i 0
          · exact ⟨z, List.mem_append_left _ hz, hz2, by omega⟩
          · exact ⟨x, hm, hx, by omega⟩
theorem sides_fold {d : Nat} : ∀ (L M : List (List Int × List Int)) (b : List Int × List Int), Sides d M b → (∀ x ∈ L, x = ([], []) ∨ Bx d x) → Sides d (M ++ L) (L.foldl hull b)
  | [], M, b, h, _ => by rw [List.append_nil]; exact h
  | x :: L, M, b, h, hL => by
    have := sides_fold L (M ++ [x]) (hull b x) (sides_snoc h (hL x (by simp))) (fun y hy => hL y (by simp [hy]))
    rw [List.append_assoc] at this
    exact this
/-- The boxes that a node's box is of. -/
def PN.boxes (n : PN) : List (List Int × List Int) := (n.rows.filter PE.live).map (fun e => (e.row, e.row)) ++ n.kids.map fun k => (k.lo, k.hi)
theorem boxE_fold : ∀ (L : List PE) (b : List Int × List Int), L.foldl boxE b = ((L.filter PE.live).map fun e => (e.row, e.row)).foldl hull b
  | [], _ => rfl
  | e :: L, b => by
    rw [List.foldl_cons, boxE_fold L]
    cases he : e.live with
    | true => rw [List.filter_cons_of_pos he]; simp [boxE, he]
    | false => rw [List.filter_cons_of_neg (by simp [he])]; simp [boxE, he]
theorem boxes_fold (n : PN) : n.box = n.boxes.foldl hull ([], []) := by
  unfold PN.box PN.boxes boxR
  rw [List.foldl_append, ← boxE_fold, List.foldl_map]
  rfl
/-- Whether a side's number is one of the rows', of the kids'. -/
def mkE (A : List Int) (L : List PE) (i : Nat) : Bool := L.any fun e => e.live && (e.row.getD i 0 == A.getD i 0)
def mkK (f : PK → List Int) (A : List Int) (L : List PK) (i : Nat) : Bool := L.any fun k => !(k.live == 0) && ((f k).getD i 0 == A.getD i 0)
theorem right_split {n : PN} {d : Int} (h : n.right d = true) : 1 ≤ d ∧ d ≤ 8 ∧ (∀ e ∈ n.rows, (e.row.length : Int) = d) ∧ ∀ k ∈ n.kids, k.right d = true := by
  unfold PN.right at h
  split at h
  · cases h
  rename_i h1
  split at h
  · cases h
  rename_i h2
  split at h
  · cases h
  rename_i h3
  simp only [Bool.not_eq_false, List.all_eq_true] at h2 h3
  exact ⟨by omega, by omega, fun e he => by simpa [PE.long] using h2 e he, h3⟩
theorem kid_split {k : PK} {d : Nat} (h : k.right d = true) : 0 ≤ k.live ∧ (k.live = 0 → (k.lo, k.hi) = ([], [])) ∧ (k.live ≠ 0 → Bx d (k.lo, k.hi)) := by
  unfold PK.right at h
  split at h
  · rename_i e
    subst e
    exact ⟨Int.le_refl _, fun _ => rfl, fun h => absurd rfl h⟩
  split at h
  · cases h
  rename_i h1
  split at h
  · rename_i h2
    simp only [decide_eq_true_eq] at h
    exact ⟨by omega, fun _ => by rw [List.length_eq_zero_iff.1 (by omega : k.lo.length = 0), List.length_eq_zero_iff.1 (by omega : k.hi.length = 0)], fun h => absurd h2 h⟩
  · rename_i h2
    refine ⟨by omega, fun h => absurd h h2, fun _ => ?_⟩
    have hd := rightB_dims h
    have e : k.lo.length = d := by omega
    refine ⟨?_, e⟩
    show rightB k.lo k.hi k.lo.length k.hi.length k.lo.length = true
    rw [e] at h ⊢
    exact h
theorem sum_nn {α : Type} (f : α → Int) : ∀ L : List α, (∀ x ∈ L, 0 ≤ f x) → 0 ≤ (L.map f).sum
  | [], _ => by simp
  | y :: L, h => by
    have := h y (by simp)
    have := sum_nn f L fun x hx => h x (by simp [hx])
    rw [List.map_cons, List.sum_cons]
    omega
theorem sum_zero {α : Type} (f : α → Int) : ∀ L : List α, (∀ x ∈ L, 0 ≤ f x) → (L.map f).sum = 0 → ∀ x ∈ L, f x = 0
  | [], _, _ => by simp
  | y :: L, h, h0 => by
    have h1 := h y (by simp)
    have h2 : 0 ≤ (L.map f).sum := sum_nn f L fun x hx => h x (by simp [hx])
    rw [List.map_cons, List.sum_cons] at h0
    have h3 := sum_zero f L (fun x hx => h x (by simp [hx])) (by omega)
    intro x hx
    rcases List.mem_cons.1 hx with rfl | hx
    · omega
    · exact h3 x hx
/-- What the law asks of a node that may be. -/
theorem node_sides {n : PN} {d : Nat} (h : n.right d = true) :
    (n.live = 0 → n.box = ([], [])) ∧
    (n.live ≠ 0 → n.box.1.length = d ∧ n.box.2.length = d ∧ (∀ e ∈ n.rows, e.live = true → hasB n.box.1 n.box.2 e.row d d d = true) ∧
      (∀ k ∈ n.kids, k.live ≠ 0 → k.lo.length = d ∧ k.hi.length = d ∧ hasB n.box.1 n.box.2 k.lo d d d = true ∧ hasB n.box.1 n.box.2 k.hi d d d = true) ∧
      ∀ i, i < d → (mkE n.box.1 n.rows i || mkK PK.lo n.box.1 n.kids i) = true ∧ (mkE n.box.2 n.rows i || mkK PK.hi n.box.2 n.kids i) = true) := by
  obtain ⟨hd1, hd8, hr, hk⟩ := right_split h
  have hE : ∀ e ∈ n.rows, Bx d (e.row, e.row) := fun e he => by
    have hl : e.row.length = d := by have := hr e he; omega
    exact bx_iff.2 ⟨by omega, by omega, hl, hl, fun i _ => Int.le_refl _⟩
  have hall : ∀ x ∈ n.boxes, x = ([], []) ∨ Bx d x := fun x hx => by
    rcases List.mem_append.1 hx with hx | hx
    · obtain ⟨e, he, rfl⟩ := List.mem_map.1 hx
      exact Or.inr (hE e (List.mem_filter.1 he).1)
    · obtain ⟨k, hk', rfl⟩ := List.mem_map.1 hx
      have hks := kid_split (hk k hk')
      by_cases hl : k.live = 0
      · exact Or.inl (hks.2.1 hl)
      · exact Or.inr (hks.2.2 hl)
  have hs := sides_fold n.boxes [] ([], []) (d := d) (Or.inl ⟨(fun x hx => by cases hx), rfl⟩) hall
  rw [List.nil_append, ← boxes_fold] at hs
  have memE : ∀ e ∈ n.rows, e.live = true → (e.row, e.row) ∈ n.boxes := fun e he hl => List.mem_append_left _ (List.mem_map.2 ⟨e, List.mem_filter.2 ⟨he, hl⟩, rfl⟩)
  have memK : ∀ k ∈ n.kids, (k.lo, k.hi) ∈ n.boxes := fun k hk => List.mem_append_right _ (List.mem_map.2 ⟨k, hk, rfl⟩)
  have hnn : 0 ≤ liveR n.rows := (live_le n.rows).1
  have hkn : 0 ≤ (n.kids.map PK.live).sum := sum_nn PK.live n.kids fun k hk' => (kid_split (hk k hk')).1
  constructor
  · intro h0
    unfold PN.live at h0
    have hz := sum_zero PK.live n.kids (fun k hk' => (kid_split (hk k hk')).1) (by omega)
    have hz2 := sum_zero (fun e : PE => if e.live then (1 : Int) else 0) n.rows (fun e _ => by split <;> omega) (by unfold liveR at h0 hnn; omega)
    rcases hs with hs | hs
    · exact hs.2
    · obtain ⟨x, hx, hb⟩ := hs.2.2.1
      rcases List.mem_append.1 hx with hx | hx
      · obtain ⟨e, he, rfl⟩ := List.mem_map.1 hx
        have h1 := List.mem_filter.1 he
        have := hz2 e h1.1
        rw [if_pos h1.2] at this
        omega
      · obtain ⟨k, hk', rfl⟩ := List.mem_map.1 hx
        rw [(kid_split (hk k hk')).2.1 (hz k hk')] at hb
        exact absurd hb bx_nil
  · intro h0
    have hex : ∃ x ∈ n.boxes, Bx d x := by
      apply Classical.byContradiction
      intro hno
      apply h0
      unfold PN.live
      have z1 : liveR n.rows = 0 := by
        unfold liveR
        have : n.rows.map (fun e : PE => if e.live then (1 : Int) else 0) = n.rows.map fun _ => 0 := List.map_congr_left fun e he => by
          split
          · rename_i hl
            exact absurd ⟨_, memE e he hl, hE e he⟩ hno
          · rfl
        rw [this]
        induction n.rows with
        | nil => rfl
        | cons a l ih => rw [List.map_cons, List.sum_cons, ih]; rfl
      have z2 : (n.kids.map PK.live).sum = 0 := by
        have : n.kids.map PK.live = n.kids.map fun _ => (0 : Int) := List.map_congr_left fun k hk' => by
          apply Classical.byContradiction
          intro hl
          exact hno ⟨_, memK k hk', (kid_split (hk k hk')).2.2 hl⟩
        rw [this]
        induction n.kids with
        | nil => rfl
        | cons a l ih => rw [List.map_cons, List.sum_cons, ih]; rfl
      rw [z1, z2]
      rfl
    rcases hs with hs | ⟨hb, hin, -, hat⟩
    · obtain ⟨x, hx, hb⟩ := hex
      exact absurd (hs.1 x hx ▸ hb) bx_nil
    have hbi := bx_iff.1 hb
    have has : ∀ r : List Int, (∀ i, i < d → n.box.1.getD i 0 ≤ r.getD i 0 ∧ r.getD i 0 ≤ n.box.2.getD i 0) → hasB n.box.1 n.box.2 r d d d = true := fun r hr => by
      unfold hasB rightB
      rw [Bool.and_eq_true, Bool.and_eq_true, Bool.and_eq_true, decide_eq_true_eq, les_iff, les_iff, les_iff]
      exact ⟨⟨by omega, hbi.2.2.2.2⟩, fun i hi => (hr i hi).1, fun i hi => (hr i hi).2⟩
    refine ⟨hbi.2.2.1, hbi.2.2.2.1, fun e he hl => has _ fun i hi => hin _ (memE e he hl) (hE e he) i hi, fun k hk' hl => ?_, fun i hi => ?_⟩
    · have hbk := (kid_split (hk k hk')).2.2 hl
      have hbki := bx_iff.1 hbk
      have hh := hin _ (memK k hk') hbk
      refine ⟨hbki.2.2.1, hbki.2.2.2.1, has _ fun i hi => ⟨(hh i hi).1, ?_⟩, has _ fun i hi => ⟨?_, (hh i hi).2⟩⟩
      · exact Int.le_trans (hbki.2.2.2.2 i hi) (hh i hi).2
      · exact Int.le_trans (hh i hi).1 (hbki.2.2.2.2 i hi)
    · obtain ⟨⟨x, hx, hbx, e1⟩, ⟨y, hy, hby, e2⟩⟩ := hat i hi
      rw [Bool.or_eq_true, Bool.or_eq_true]
      constructor
      · rcases List.mem_append.1 hx with hx | hx
        · obtain ⟨e, he, rfl⟩ := List.mem_map.1 hx
          have h1 := List.mem_filter.1 he
          exact Or.inl (List.any_eq_true.2 ⟨e, h1.1, by rw [Bool.and_eq_true, beq_iff_eq]; exact ⟨h1.2, e1⟩⟩)
        · obtain ⟨k, hk', rfl⟩ := List.mem_map.1 hx
          refine Or.inr (List.any_eq_true.2 ⟨k, hk', ?_⟩)
          rw [Bool.and_eq_true, beq_iff_eq]
          refine ⟨?_, e1⟩
          by_cases hl : k.live = 0
          · rw [(kid_split (hk k hk')).2.1 hl] at hbx
            exact absurd hbx bx_nil
          · simp [hl]
      · rcases List.mem_append.1 hy with hy | hy
        · obtain ⟨e, he, rfl⟩ := List.mem_map.1 hy
          have h1 := List.mem_filter.1 he
          exact Or.inl (List.any_eq_true.2 ⟨e, h1.1, by rw [Bool.and_eq_true, beq_iff_eq]; exact ⟨h1.2, e2⟩⟩)
        · obtain ⟨k, hk', rfl⟩ := List.mem_map.1 hy
          refine Or.inr (List.any_eq_true.2 ⟨k, hk', ?_⟩)
          rw [Bool.and_eq_true, beq_iff_eq]
          refine ⟨?_, e2⟩
          by_cases hl : k.live = 0
          · rw [(kid_split (hk k hk')).2.1 hl] at hby
            exact absurd hby bx_nil
          · simp [hl]
end Go.Proofs.Ytfkpgildeddhaaa.Nd

/- indentureref04.Has. -/
namespace Go.Proofs.Ytfkpgildeddhaaa
open Go.RowKit

def HasRel (w1 : World) (R S P : List Int) (n : Nat) (i : Value) (wr : World) : Prop := ∃ k j : Nat, k ≤ n ∧ i = .int .i64 k ∧ les R P k = true ∧ les P S k = true ∧ wr = w1.drewN j
set_option maxRecDepth 100000 in
set_option maxHeartbeats 1000000 in
theorem refhas_any (p q s : Option Addr) (n c m e l f : Nat) (R S P : List Int) (w : World) (h : Ints w p n c R) (h2 : Ints w q m e S) (h3 : Ints w s l f P) :
    Calls Try.prog 7 #[.agg #[.slice p n c, .slice q m e], .slice s l f] w fun e w' => e = .returned (.bool (hasB R S P n m l)) ∧ Below w.heap.size w w' := by
  have hb : Below w.heap.size w (w.alloc (.cells #[.slice p n c, .slice q m e] 33)) := (Below.refl _ _).alloc (Nat.le_refl _) _
  obtain ⟨e0, e1⟩ := pair_alloc w (.slice p n c) (.slice q m e) 33
  have H1 := Lib.hid (h.later hb)
  have H2 := Lib.hid (h2.later hb)
  have H3 := Lib.hid (h3.later hb)
  have HB := Lib.hid hb
  clear h h2 h3 hb
  go_enter Try.func7, Try.ntmps7
  go_upto_region 1 with fail
  have hs0 : w.heap.size < (w.alloc (.cells #[.slice p n c, .slice q m e] 33)).heap.size := by simp
  generalize w.alloc (.cells #[.slice p n c, .slice q m e] 33) = w0 at *
  have HS0 := Lib.hid hs0
  clear hs0
  go_wp2_with fail
  refine (refright_any p q n c m e R S l w0 H1.out H2.out).mono ?_
  rintro _ w1 ⟨rfl, hb1⟩
  have f0 := (hb1.cell (p := ⟨w.heap.size, 0, none⟩) HS0.out).trans e0
  have f1 := (hb1.cell (p := ⟨w.heap.size, 1, none⟩) HS0.out).trans e1
  have G1 := Lib.hid (H1.out.later hb1)
  have G2 := Lib.hid (H2.out.later hb1)
  have G3 := Lib.hid (H3.out.later hb1)
  have B1 := Lib.hid (HB.out.trans (hb1.mono HB.out.size))
  clear hb1 e0 e1 H1 H2 H3 HB HS0
  by_cases hr : rightB R S n m l = true
  case neg =>
    have hr0 : rightB R S n m l = false := by simpa using hr
    have HH := Lib.hid (hasB_not (P := P) hr0)
    rw [hr0]
    clear hr hr0
    go_wp2_with fail
    go_ret
    exact ⟨congrArg (fun b => Ending.returned (.bool b)) HH.out.symm, B1.out⟩
  obtain ⟨d1, d2, d3, d4⟩ := rightB_dims hr
  have HH := Lib.hid (hasB_right (P := P) hr)
  rw [hr]
  obtain rfl : n = l := by omega
  obtain rfl : m = n := by omega
  clear hr d3 d4
  go_wp2_with fail
  go_loopw [5] (fun i wr => HasRel w1 R S P m i wr) (fun i _ => m - (intOf i).toNat)
  case atStart => exact ⟨0, 0, by omega, rfl, rfl, rfl, rfl⟩
  case round =>
    obtain ⟨k, j, hk, rfl, hl1, hl2, rfl⟩ := hrel
    have HL1 := Lib.hid hl1
    have HL2 := Lib.hid hl2
    clear hl1 hl2
    by_cases hlt : k < m
    · obtain ⟨gx, o, rfl, hcx⟩ := G1.out.cell k hlt
      obtain ⟨gy, o2, rfl, hcy⟩ := G2.out.cell k hlt
      obtain ⟨gz, o3, rfl, hcz⟩ := G3.out.cell k hlt
      have i1 : (0 : Int) ≤ k ∧ (k : Int) < m := by omega
      have s1 : les R P (k + 1) = (les R P k && decide (R.getD k 0 ≤ P.getD k 0)) := rfl
      have s2 : les P S (k + 1) = (les P S k && decide (P.getD k 0 ≤ S.getD k 0)) := rfl
      have HS1 := Lib.hid s1
      have HS2 := Lib.hid s2
      have HF1 := Lib.hid (fun h => les_false (R := R) (S := P) hlt h)
      have HF2 := Lib.hid (fun h => les_false (R := P) (S := S) hlt h)
      clear s1 s2
      generalize R.getD k 0 = x at *
      generalize S.getD k 0 = y at *
      generalize P.getD k 0 = z at *
      by_cases hzx : z < x
      · have HZ := Lib.hid (HF1.out (by omega))
        go_upto_region 6 with fail
        go_quiet (fail)
        go_wp2_with fail
        go_ret
        exact ⟨congrArg (fun b => Ending.returned (.bool b)) (by rw [HH.out, HZ.out]; rfl), Below.drewN B1.out _⟩
      · by_cases hyz : y < z
        · have HZ := Lib.hid (HF2.out (by omega))
          go_upto_region 6 with fail
          go_quiet (fail)
          go_wp2_with fail
          go_ret
          exact ⟨congrArg (fun b => Ending.returned (.bool b)) (by rw [HH.out, HZ.out, Bool.and_false]), Below.drewN B1.out _⟩
        · go_upto_region 6 with fail
          go_quiet (fail)
          go_wp2_with fail
          go_roundw
          case rel => exact ⟨k + 1, j + nq, by omega, by go_num, by rw [HS1.out, HL1.out, decide_eq_true (by omega)]; rfl, by rw [HS2.out, HL2.out, decide_eq_true (by omega)]; rfl, rfl⟩
          case measure => simp [intOf]; omega
    · obtain rfl : k = m := by omega
      go_wp2_with fail
      go_ret
      exact ⟨congrArg (fun b => Ending.returned (.bool b)) (by rw [HH.out, HL1.out, HL2.out]; rfl), Below.drewN B1.out _⟩
end Go.Proofs.Ytfkpgildeddhaaa
