/- NdHull, NdEmpty, CodRefN, CodRefRow, NdBytes, ShaRefPre. -/
import Derived.Test.YtfkpgildeddhaaaGreatM9
import Derived.Lib.MinMax
import Derived.Deep.CutBlock
import Derived.Laws.AppendOwn
/- indentureref04.Hull. gen_nd.py writes it. -/
namespace Go.Proofs.YtfkpgildeddhaaaGreat.Nd
open Go.RowKit Go.Proofs.YtfkpgildeddhaaaGreat.Mo Go.Proofs.YtfkpgildeddhaaaGreat.Zr

def HullRel (w2 : World) (gb d : Nat) (R S T U : List Int) (i : Value) (wr : World) : Prop := ∃ (j : Nat) (u v : Value), j ≤ d ∧ i = .int .i64 j ∧ TwoR w2 wr gb u v j j (two min R T j) (two max S U j)
/-- A row lies aside of a block. -/
def AwayP (X : Nat) (p : Option Addr) (R : List Int) : Prop := ∀ x, p = some x → R ≠ [] → x.block ≠ X
/-- Where the rows of what is told lie: in new memory, or where those of the two boxes lie. -/
def HullAway (w : World) (p q s t : Option Addr) (R S T U A B : List Int) (v : Value) : Prop :=
  ∃ a n c b m e, v = .agg #[.slice a n c, .slice b m e] ∧ ∀ X, X < w.heap.size → AwayP X p R → AwayP X q S → AwayP X s T → AwayP X t U → AwayP X a A ∧ AwayP X b B
set_option maxRecDepth 100000 in
set_option maxHeartbeats 4000000 in
theorem hull_any (p q s t : Option Addr) (n c m e k f l h : Nat) (R S T U : List Int) (w : World) (h1 : Ints w p n c R) (h2 : Ints w q m e S) (h3 : Ints w s k f T) (h4 : Ints w t l h U) :
    Calls Tryz.prog 46 #[.agg #[.slice p n c, .slice q m e], .agg #[.slice s k f, .slice t l h]] w fun e w' => ∃ v, e = .returned v ∧ BoxPost w (hull (R, S) (T, U)).1 (hull (R, S) (T, U)).2 v w' ∧ HullAway w p q s t R S T U (hull (R, S) (T, U)).1 (hull (R, S) (T, U)).2 v := by
  obtain ⟨i2, hi, hi0, hi1, hi2⟩ := info_parts I2h
  have HI := Lib.hid hi
  have HI0 := Lib.hid hi0
  have HI1 := Lib.hid hi1
  have HI2 := Lib.hid hi2
  clear hi hi0 hi1 hi2
  have hn := h1.size
  have hm := h2.size
  have hk := h3.size
  have hl := h4.size
  have hx : rightB R S n m n = rb R S := by rw [hn, hm]; rfl
  have hy : rightB T U k l k = rb T U := by rw [hk, hl]; rfl
  obtain ⟨F, hF⟩ : ∃ F, hull (R, S) (T, U) = F := ⟨_, rfl⟩
  have hF' := hF
  unfold hull at hF'
  simp only at hF'
  rw [hF]
  have HX := Lib.hid hx
  have HY := Lib.hid hy
  have HF := Lib.hid hF'
  have HL1 := Lib.hid (fun h => rb_len (R := R) (S := S) h)
  have HL2 := Lib.hid (fun h => rb_len (R := T) (S := U) h)
  generalize rb R S = x at *
  generalize rb T U = y at *
  have HN := Lib.hid hn
  have HM := Lib.hid hm
  have HK := Lib.hid hk
  have HLL := Lib.hid hl
  clear hx hy hF hF' hn hm hk hl
  go_enter Tryz.func46, Tryz.ntmps46
  go_upto_region 1 with fail
  obtain ⟨hch, hbw, hsz⟩ := bh_start h1 h2 h3 h4
  generalize (((w.alloc (.cells #[.slice p n c, .slice q m e] 41)).alloc (.cells #[.slice s k f, .slice t l h] 41)).alloc (.cells #[.slice none 0 0, .slice none 0 0] 41)) = w1 at *
  have HC := Lib.hid hch
  have HB := Lib.hid hbw
  have HZ := Lib.hid hsz
  have H1 := Lib.hid h1
  have H2 := Lib.hid h2
  have H3 := Lib.hid h3
  have H4 := Lib.hid h4
  clear hch hbw hsz h1 h2 h3 h4
  refine wp_region_held_drew (S := fun w' => BH w' w.heap.size p q s t n c m e k f l h R S T U) (by kernel_rfl) (HC.out.later (Below.refl _ _).drew) (fun hHeld => ?_)
  refine wpAnyH_take (i := 0) (oi := ⟨some 9, .load 41 (.tmp 2), _, _, _, _⟩) (v := ?_) rfl (by kernel_rfl) (by kernel_rfl) (by kernel_rfl) (fun _ _ _ h => h) (Or.inl ⟨by rfl, ?_⟩) (by assumption) ?_
  rotate_left
  · intro w' hSw
    have a0 := cell_of_row w' w.heap.size 0 _ _ _ hSw.a
    have a1 := cell_of_row w' w.heap.size 1 _ _ _ hSw.a
    go_simp
    try with_reducible rfl
  try simp only [Act.put, List.setIfInBounds_toArray, List.set_cons_zero, List.set_cons_succ]
  refine wpAnyH_take (i := 1) (oi := ⟨some 10, .fieldAddr 41 (.tmp 2) 0, _, _, _, _⟩) (v := ?_) rfl (by kernel_rfl) (by kernel_rfl) (by kernel_rfl) (fun _ _ _ h => h) (Or.inl ⟨by rfl, ?_⟩) (by assumption) ?_
  rotate_left
  · intro w' hSw
    go_simp
    try with_reducible rfl
  try simp only [Act.put, List.setIfInBounds_toArray, List.set_cons_zero, List.set_cons_succ]
  refine wpAnyH_take (i := 2) (oi := ⟨some 11, .load 39 (.tmp 10), _, _, _, _⟩) (v := ?_) rfl (by kernel_rfl) (by kernel_rfl) (by kernel_rfl) (fun _ _ _ h => h) (Or.inl ⟨by rfl, ?_⟩) (by assumption) ?_
  rotate_left
  · intro w' hSw
    have a0 := cell_of_row w' w.heap.size 0 _ _ _ hSw.a
    go_simp
    try with_reducible rfl
  try simp only [Act.put, List.setIfInBounds_toArray, List.set_cons_zero, List.set_cons_succ]
  refine wpAnyH_take (i := 3) (oi := ⟨some 12, .call ⟨.builtin .len, #[.tmp 11], #[39]⟩, _, _, _, _⟩) (v := ?_) rfl (by kernel_rfl) (by kernel_rfl) (by kernel_rfl) (fun _ _ _ h => h) (Or.inl ⟨by rfl, ?_⟩) (by assumption) ?_
  rotate_left
  · intro w' hSw
    go_simp
    try with_reducible rfl
  try simp only [Act.put, List.setIfInBounds_toArray, List.set_cons_zero, List.set_cons_succ]
  refine wpAnyH_take (i := 5) (oi := ⟨some 14, .load 41 (.tmp 3), _, _, _, _⟩) (v := ?_) rfl (by kernel_rfl) (by kernel_rfl) (by kernel_rfl) (fun _ _ _ h => h) (Or.inl ⟨by rfl, ?_⟩) (by assumption) ?_
  rotate_left
  · intro w' hSw
    have b0 := cell_of_row w' (w.heap.size + 1) 0 _ _ _ hSw.b
    have b1 := cell_of_row w' (w.heap.size + 1) 1 _ _ _ hSw.b
    go_simp
    try with_reducible rfl
  try simp only [Act.put, List.setIfInBounds_toArray, List.set_cons_zero, List.set_cons_succ]
  refine wpAnyH_take (i := 6) (oi := ⟨some 15, .fieldAddr 41 (.tmp 3) 0, _, _, _, _⟩) (v := ?_) rfl (by kernel_rfl) (by kernel_rfl) (by kernel_rfl) (fun _ _ _ h => h) (Or.inl ⟨by rfl, ?_⟩) (by assumption) ?_
  rotate_left
  · intro w' hSw
    go_simp
    try with_reducible rfl
  try simp only [Act.put, List.setIfInBounds_toArray, List.set_cons_zero, List.set_cons_succ]
  refine wpAnyH_take (i := 7) (oi := ⟨some 16, .load 39 (.tmp 15), _, _, _, _⟩) (v := ?_) rfl (by kernel_rfl) (by kernel_rfl) (by kernel_rfl) (fun _ _ _ h => h) (Or.inl ⟨by rfl, ?_⟩) (by assumption) ?_
  rotate_left
  · intro w' hSw
    have b0 := cell_of_row w' (w.heap.size + 1) 0 _ _ _ hSw.b
    go_simp
    try with_reducible rfl
  try simp only [Act.put, List.setIfInBounds_toArray, List.set_cons_zero, List.set_cons_succ]
  refine wpAnyH_take (i := 8) (oi := ⟨some 17, .call ⟨.builtin .len, #[.tmp 16], #[39]⟩, _, _, _, _⟩) (v := ?_) rfl (by kernel_rfl) (by kernel_rfl) (by kernel_rfl) (fun _ _ _ h => h) (Or.inl ⟨by rfl, ?_⟩) (by assumption) ?_
  rotate_left
  · intro w' hSw
    go_simp
    try with_reducible rfl
  try simp only [Act.put, List.setIfInBounds_toArray, List.set_cons_zero, List.set_cons_succ]
  refine wpAnyH_ready (rs := [4]) (by kernel_rfl) (by simp) ?_
  refine AllReadyH.cons (o := ⟨some 13, .call ⟨.value (.func 41), #[.tmp 9, .tmp 12], #[41, 3]⟩, _, _, _, _⟩) rfl (fun K hK => ?_) AllReadyH.nil
  go_simp
  refine (refright_any p q n c m e R S n _ hHeld.i1 hHeld.i2).mono ?_
  rintro _ w2 ⟨rfl, hb2⟩
  rw [HX.out]
  have h2 := hHeld.later hb2
  have HB2 := Lib.hid (HB.out.drew.trans (hb2.mono HB.out.size))
  try go_wp2_with fail
  refine hK.out _ _ h2 (fun hHeld => ?_)
  clear hK K
  try simp only [Act.put, List.setIfInBounds_toArray, List.set_cons_zero, List.set_cons_succ]
  refine wpAnyH_ready (rs := [9]) (by kernel_rfl) (by simp) ?_
  refine AllReadyH.cons (o := ⟨some 18, .call ⟨.value (.func 41), #[.tmp 14, .tmp 17], #[41, 3]⟩, _, _, _, _⟩) rfl (fun K hK => ?_) AllReadyH.nil
  go_simp
  refine (refright_any s t k f l h T U k _ hHeld.i3 hHeld.i4).mono ?_
  rintro _ w3 ⟨rfl, hb3⟩
  rw [HY.out]
  have h3 := hHeld.later hb3
  have HB3 := Lib.hid (HB2.out.trans (hb3.mono HB2.out.size))
  try go_wp2_with fail
  refine hK.out _ _ h3 (fun hHeld => ?_)
  clear hK K
  try simp only [Act.put, List.setIfInBounds_toArray, List.set_cons_zero, List.set_cons_succ]
  refine wpAnyH_take (i := 10) (oi := ⟨some 5, .assign (.tmp 13), _, _, _, _⟩) (v := ?_) rfl (by kernel_rfl) (by kernel_rfl) (by kernel_rfl) (fun _ _ _ h => h) (Or.inl ⟨by rfl, ?_⟩) (by assumption) ?_
  rotate_left
  · intro w' hSw
    go_simp
    try with_reducible rfl
  try simp only [Act.put, List.setIfInBounds_toArray, List.set_cons_zero, List.set_cons_succ]
  refine wpAnyH_take (i := 11) (oi := ⟨some 6, .assign (.tmp 18), _, _, _, _⟩) (v := ?_) rfl (by kernel_rfl) (by kernel_rfl) (by kernel_rfl) (fun _ _ _ h => h) (Or.inl ⟨by rfl, ?_⟩) (by assumption) ?_
  rotate_left
  · intro w' hSw
    go_simp
    try with_reducible rfl
  try simp only [Act.put, List.setIfInBounds_toArray, List.set_cons_zero, List.set_cons_succ]
  refine wpAnyH_done (by kernel_rfl) ?_ _
  have HC3 := Lib.hid hHeld
  clear hHeld h3 hb3 h2 hb2 HC HB
  obtain ⟨a0, a1, b0, b1, z0, z1, z2, z3⟩ := HC3.out.cells
  have hr := HC3.out.r
  cases x
  · cases y
    · have hF := HF.out
      rw [if_neg (by simp), if_neg (by simp), if_pos (Or.inl rfl)] at hF
      subst hF
      go_wp2_with fail
      have hr1 := heap_setCell_same w3 (w.heap.size + 2) 0 _ _ (.slice none 0 0) hr
      have hr2 := heap_setCell_same _ (w.heap.size + 2) 1 _ _ (.slice none 0 0) hr1
      refine zret_box 4 rfl (w.heap.size + 2) (.slice none 0 0) (.slice none 0 0) (by rfl) (cell_of_row _ (w.heap.size + 2) 0 _ _ _ hr2) (cell_of_row _ (w.heap.size + 2) 1 _ _ _ hr2) ⟨_, rfl, box_of ?_ ?_ ((HB3.out.setCell (by show w.heap.size ≤ w.heap.size + 2; omega) _).setCell (by show w.heap.size ≤ w.heap.size + 2; omega) _), ⟨_, _, _, _, _, _, rfl, fun _ _ _ _ _ _ => ⟨fun _ _ h => absurd rfl h, fun _ _ h => absurd rfl h⟩⟩⟩
      · exact ints_nil _ _ _
      · exact ints_nil _ _ _
    · have hF := HF.out
      rw [if_neg (by simp), if_pos (by simp)] at hF
      subst hF
      go_wp2_with fail
      have hr1 := heap_setCell_same w3 (w.heap.size + 2) 0 _ _ (.slice s k f) hr
      have hr2 := heap_setCell_same _ (w.heap.size + 2) 1 _ _ (.slice t l h) hr1
      refine zret_box 4 rfl (w.heap.size + 2) (.slice s k f) (.slice t l h) (by rfl) (cell_of_row _ (w.heap.size + 2) 0 _ _ _ hr2) (cell_of_row _ (w.heap.size + 2) 1 _ _ _ hr2) ⟨_, rfl, box_of ?_ ?_ ((HB3.out.setCell (by show w.heap.size ≤ w.heap.size + 2; omega) _).setCell (by show w.heap.size ≤ w.heap.size + 2; omega) _), ⟨_, _, _, _, _, _, rfl, fun _ _ _ _ h1 h2 => ⟨h1, h2⟩⟩⟩
      · exact H3.out
      · exact H4.out
  · cases y
    · have hF := HF.out
      rw [if_pos (by simp)] at hF
      subst hF
      go_wp2_with fail
      have hr1 := heap_setCell_same w3 (w.heap.size + 2) 0 _ _ (.slice p n c) hr
      have hr2 := heap_setCell_same _ (w.heap.size + 2) 1 _ _ (.slice q m e) hr1
      refine zret_box 4 rfl (w.heap.size + 2) (.slice p n c) (.slice q m e) (by rfl) (cell_of_row _ (w.heap.size + 2) 0 _ _ _ hr2) (cell_of_row _ (w.heap.size + 2) 1 _ _ _ hr2) ⟨_, rfl, box_of ?_ ?_ ((HB3.out.setCell (by show w.heap.size ≤ w.heap.size + 2; omega) _).setCell (by show w.heap.size ≤ w.heap.size + 2; omega) _), ⟨_, _, _, _, _, _, rfl, fun _ _ h1 h2 _ _ => ⟨h1, h2⟩⟩⟩
      · exact H1.out
      · exact H2.out
    · by_cases hnk : (n : Int) = k
      case neg =>
        have hF := HF.out
        rw [if_neg (by simp), if_neg (by simp), if_pos (Or.inr (by have := HN.out; have := HK.out; omega))] at hF
        subst hF
        have b9 : ((n : Int) != k) = true := by simp; omega
        go_wp2_with fail
        have hr1 := heap_setCell_same w3 (w.heap.size + 2) 0 _ _ (.slice none 0 0) hr
        have hr2 := heap_setCell_same _ (w.heap.size + 2) 1 _ _ (.slice none 0 0) hr1
        refine zret_box 4 rfl (w.heap.size + 2) (.slice none 0 0) (.slice none 0 0) (by rfl) (cell_of_row _ (w.heap.size + 2) 0 _ _ _ hr2) (cell_of_row _ (w.heap.size + 2) 1 _ _ _ hr2) ⟨_, rfl, box_of ?_ ?_ ((HB3.out.setCell (by show w.heap.size ≤ w.heap.size + 2; omega) _).setCell (by show w.heap.size ≤ w.heap.size + 2; omega) _), ⟨_, _, _, _, _, _, rfl, fun _ _ _ _ _ _ => ⟨fun _ _ h => absurd rfl h, fun _ _ h => absurd rfl h⟩⟩⟩
        · exact ints_nil _ _ _
        · exact ints_nil _ _ _
      obtain ⟨r1, r2, r3⟩ := HL1.out rfl
      obtain ⟨r4, r5, r6⟩ := HL2.out rfl
      obtain rfl : k = n := by omega
      obtain rfl : m = k := by have := HN.out; have := HM.out; omega
      obtain rfl : l = m := by have := HK.out; have := HLL.out; omega
      have hd8 : l ≤ 8 := by have := HN.out; omega
      have hF := HF.out
      rw [if_neg (by simp), if_neg (by simp), if_neg (by have := HN.out; have := HK.out; simp; omega), ← HN.out] at hF
      subst hF
      clear r1 r2 r3 r4 r5 r6 HF hnk
      have HT0 := Lib.hid (TwoR.start w3 w3 (Below.refl _ _))
      have b9 : ((l : Int) != l) = false := by simp
      go_upto_region 9 with fail
      clear a0 a1 b0 b1 z0 z1 z2 z3
      obtain ⟨gb, hgb⟩ : ∃ gb, gb = w3.heap.size := ⟨_, rfl⟩
      rw [← hgb] at HT0
      rw [← hgb]
      have HGB := Lib.hid hgb
      have HLT := Lib.hid (show w.heap.size + 2 < gb from by rw [hgb]; exact (Array.getElem?_eq_some_iff.1 HC3.out.r).1)
      clear hgb
      have hch := HC3.out.later ((Below.refl _ _).alloc (Nat.le_refl _) (.cells #[.slice none 0 0, .slice none 0 0] 41))
      generalize w3.alloc (.cells #[.slice none 0 0, .slice none 0 0] 41) = w4 at *
      have HC4 := Lib.hid hch
      clear hch
      go_wp2_with fail
      go_loopw [8] (fun i wr => HullRel w3 gb l R S T U i wr) (fun i _ => l - (intOf i).toNat)
      case atStart => exact ⟨0, _, _, by omega, rfl, HT0.out⟩
      case round =>
        obtain ⟨j, u, v, hj, rfl, ht⟩ := hrel
        have HT := Lib.hid ht
        have HC5 := Lib.hid (HC3.out.later HT.out.low)
        clear ht HC4
        obtain ⟨pu, cu0, rfl⟩ := ownh_form HT.out.own1
        obtain ⟨pv, cv0, rfl⟩ := ownh_form HT.out.own2
        obtain ⟨a0, a1, b0, b1, z0, z1, z2, z3⟩ := HC5.out.cells
        obtain ⟨cu, cv, cf, cg⟩ := HT.out.facts
        by_cases hlt : j < l
        · obtain ⟨x1, o1, rfl, k1⟩ := HC3.out.i1.cell j hlt
          obtain ⟨x2, o2, rfl, k2⟩ := HC3.out.i2.cell j hlt
          obtain ⟨x3, o3, rfl, k3⟩ := HC3.out.i3.cell j hlt
          obtain ⟨x4, o4, rfl, k4⟩ := HC3.out.i4.cell j hlt
          have i1 : (0 : Int) ≤ j ∧ (j : Int) < l := by omega
          have HS := Lib.hid (two_succ min R T j)
          have HS2 := Lib.hid (two_succ max S U j)
          generalize R.getD j 0 = x at *
          generalize S.getD j 0 = y at *
          generalize T.getD j 0 = z at *
          generalize U.getD j 0 = vv at *
          go_upto_region 12 with fail
          have HTD := Lib.hid (HT.out.later (Below.refl _ _).drew)
          go_cut [] from 50 to 65 (fun wx => ∃ ua, TwoR w3 wx gb ua (.slice pv j cv0) (j + 1) j (two min R T j ++ [min x z]) (two max S U j))
          case first =>
            refine wp_region_held_drew (S := fun w' => Below w3.heap.size w3 w') (by kernel_rfl) HTD.out.low (fun hHeld => ?_)
            refine wpAnyH_take (i := 0) (oi := ⟨some 50, .fieldAddr 41 (.tmp 7) 0, _, _, _, _⟩) (v := ?_) rfl (by kernel_rfl) (by kernel_rfl) (by kernel_rfl) (fun _ _ _ h => h) (Or.inl ⟨by rfl, ?_⟩) (by assumption) ?_
            rotate_left
            · intro w' hSw
              go_simp
              try with_reducible rfl
            try simp only [Act.put, List.setIfInBounds_toArray, List.set_cons_zero, List.set_cons_succ]
            refine wpAnyH_take (i := 2) (oi := ⟨some 52, .fieldAddr 41 (.tmp 2) 0, _, _, _, _⟩) (v := ?_) rfl (by kernel_rfl) (by kernel_rfl) (by kernel_rfl) (fun _ _ _ h => h) (Or.inl ⟨by rfl, ?_⟩) (by assumption) ?_
            rotate_left
            · intro w' hSw
              go_simp
              try with_reducible rfl
            try simp only [Act.put, List.setIfInBounds_toArray, List.set_cons_zero, List.set_cons_succ]
            refine wpAnyH_take (i := 3) (oi := ⟨some 53, .load 39 (.tmp 52), _, _, _, _⟩) (v := ?_) rfl (by kernel_rfl) (by kernel_rfl) (by kernel_rfl) (fun _ _ _ h => h) (Or.inl ⟨by rfl, ?_⟩) (by assumption) ?_
            rotate_left
            · intro w' hSw
              have a0 := cell_of_row w' w.heap.size 0 _ _ _ (HC3.out.later hSw).a
              go_simp
              try with_reducible rfl
            try simp only [Act.put, List.setIfInBounds_toArray, List.set_cons_zero, List.set_cons_succ]
            refine wpAnyH_take (i := 4) (oi := ⟨some 54, .move (.tmp 8), _, _, _, _⟩) (v := ?_) rfl (by kernel_rfl) (by kernel_rfl) (by kernel_rfl) (fun _ _ _ h => h) (Or.inl ⟨by rfl, ?_⟩) (by assumption) ?_
            rotate_left
            · intro w' hSw
              go_simp
              try with_reducible rfl
            try simp only [Act.put, List.setIfInBounds_toArray, List.set_cons_zero, List.set_cons_succ]
            refine wpAnyH_take (i := 5) (oi := ⟨some 55, .indexAddr 39 (.tmp 53) (.tmp 54), _, _, _, _⟩) (v := ?_) rfl (by kernel_rfl) (by kernel_rfl) (by kernel_rfl) (fun _ _ _ h => h) (Or.inl ⟨by rfl, ?_⟩) (by assumption) ?_
            rotate_left
            · intro w' hSw
              go_simp
              try with_reducible rfl
            try simp only [Act.put, List.setIfInBounds_toArray, List.set_cons_zero, List.set_cons_succ]
            refine wpAnyH_take (i := 6) (oi := ⟨some 56, .load 2 (.tmp 55), _, _, _, _⟩) (v := ?_) rfl (by kernel_rfl) (by kernel_rfl) (by kernel_rfl) (fun _ _ _ h => h) (Or.inl ⟨by rfl, ?_⟩) (by assumption) ?_
            rotate_left
            · intro w' hSw
              have k9 := (hSw.cell (block_lt_of_cell k1)).trans k1
              go_simp
              try with_reducible rfl
            try simp only [Act.put, List.setIfInBounds_toArray, List.set_cons_zero, List.set_cons_succ]
            refine wpAnyH_take (i := 7) (oi := ⟨some 57, .fieldAddr 41 (.tmp 3) 0, _, _, _, _⟩) (v := ?_) rfl (by kernel_rfl) (by kernel_rfl) (by kernel_rfl) (fun _ _ _ h => h) (Or.inl ⟨by rfl, ?_⟩) (by assumption) ?_
            rotate_left
            · intro w' hSw
              go_simp
              try with_reducible rfl
            try simp only [Act.put, List.setIfInBounds_toArray, List.set_cons_zero, List.set_cons_succ]
            refine wpAnyH_take (i := 8) (oi := ⟨some 58, .load 39 (.tmp 57), _, _, _, _⟩) (v := ?_) rfl (by kernel_rfl) (by kernel_rfl) (by kernel_rfl) (fun _ _ _ h => h) (Or.inl ⟨by rfl, ?_⟩) (by assumption) ?_
            rotate_left
            · intro w' hSw
              have b0 := cell_of_row w' (w.heap.size + 1) 0 _ _ _ (HC3.out.later hSw).b
              go_simp
              try with_reducible rfl
            try simp only [Act.put, List.setIfInBounds_toArray, List.set_cons_zero, List.set_cons_succ]
            refine wpAnyH_take (i := 9) (oi := ⟨some 59, .move (.tmp 8), _, _, _, _⟩) (v := ?_) rfl (by kernel_rfl) (by kernel_rfl) (by kernel_rfl) (fun _ _ _ h => h) (Or.inl ⟨by rfl, ?_⟩) (by assumption) ?_
            rotate_left
            · intro w' hSw
              go_simp
              try with_reducible rfl
            try simp only [Act.put, List.setIfInBounds_toArray, List.set_cons_zero, List.set_cons_succ]
            refine wpAnyH_take (i := 10) (oi := ⟨some 60, .indexAddr 39 (.tmp 58) (.tmp 59), _, _, _, _⟩) (v := ?_) rfl (by kernel_rfl) (by kernel_rfl) (by kernel_rfl) (fun _ _ _ h => h) (Or.inl ⟨by rfl, ?_⟩) (by assumption) ?_
            rotate_left
            · intro w' hSw
              go_simp
              try with_reducible rfl
            try simp only [Act.put, List.setIfInBounds_toArray, List.set_cons_zero, List.set_cons_succ]
            refine wpAnyH_take (i := 11) (oi := ⟨some 61, .load 2 (.tmp 60), _, _, _, _⟩) (v := ?_) rfl (by kernel_rfl) (by kernel_rfl) (by kernel_rfl) (fun _ _ _ h => h) (Or.inl ⟨by rfl, ?_⟩) (by assumption) ?_
            rotate_left
            · intro w' hSw
              have k9 := (hSw.cell (block_lt_of_cell k3)).trans k3
              go_simp
              try with_reducible rfl
            try simp only [Act.put, List.setIfInBounds_toArray, List.set_cons_zero, List.set_cons_succ]
            refine wpAnyH_take (i := 12) (oi := ⟨some 62, .call ⟨.builtin .min, #[.tmp 56, .tmp 61], #[2, 2]⟩, _, _, _, _⟩) (v := ?_) rfl (by kernel_rfl) (by kernel_rfl) (by kernel_rfl) (fun _ _ _ h => h) (Or.inl ⟨by rfl, ?_⟩) (by assumption) ?_
            rotate_left
            · intro w' hSw
              go_simp
              try with_reducible rfl
            try simp only [Act.put, List.setIfInBounds_toArray, List.set_cons_zero, List.set_cons_succ]
            refine wpAnyH_ready (rs := [1, 13]) (by kernel_rfl) (by simp) ?_
            refine AllReadyH.cons (o := ⟨some 51, .load 39 (.tmp 50), _, _, _, _⟩) rfl (fun K hK => ?_) (AllReadyH.cons (o := ⟨some 63, .buildSlice 39 1 #[(0, (.tmp 62))], _, _, _, _⟩) rfl (fun K hK => ?_) AllReadyH.nil)
            ·
              have cL : wr.drew.cell? ⟨gb, 0, none⟩ = some (.slice pu j cu0) := cu
              go_simp
              refine hK.out _ _ hHeld (fun hHeld => ?_)
              clear hK K
              try simp only [Act.put, List.setIfInBounds_toArray, List.set_cons_zero, List.set_cons_succ]
              refine wpAnyH_ready (rs := [13]) (by kernel_rfl) (by simp) ?_
              refine AllReadyH.cons (o := ⟨some 63, .buildSlice 39 1 #[(0, (.tmp 62))], _, _, _, _⟩) rfl (fun K hK => ?_) AllReadyH.nil
              go_simp
              have hbal : Below wr.heap.size wr ((wr.alloc (.cells #[.int .i64 (min x z)] 2)).drew) := ((Below.refl _ _).alloc (Nat.le_refl _) _).drew
              have hHeld : Below w3.heap.size w3 ((wr.alloc (.cells #[.int .i64 (min x z)] 2)).drew) := hHeld.alloc HT.out.low.size (.cells #[.int .i64 (min x z)] 2)
              try go_wp2_with fail
              refine hK.out _ _ hHeld (fun hHeld => ?_)
              clear hK K
              try simp only [Act.put, List.setIfInBounds_toArray, List.set_cons_zero, List.set_cons_succ]
              refine wpAnyH_ready (rs := [14]) (by kernel_rfl) (by simp) ?_
              refine AllReadyH.cons (o := ⟨some 64, .call ⟨.builtin .append, #[.tmp 51, .tmp 63], #[39, 39]⟩, _, _, _, _⟩) rfl (fun K hK => ?_) AllReadyH.nil
              refine wp_append_at (.tmp 51) (.tmp 63) 39 (by rfl) (gb + 1) 2 i2 (.int .i64 0) 1 8 URh HI.out HI0.out HI1.out HI2.out (by rfl) (by decide) _ j _ (by rfl) (show ((wr.alloc (.cells #[.int .i64 (min x z)] 2)).drew).ownsRow _ _ _ _ _ _ from HTD.out.own1.alloc _) ⟨wr.heap.size, 0, none⟩ 1 1 (ivals [min x z]) (by rfl) (by rfl) (ivals_cells (L := [min x z]) (heap_alloc_new wr.drew _)) (ivals_one _) (by unfold maxLen; omega) (by omega) (by have h9 := HT.out.lt; simp; omega) ?_
              intro v4 w4 hown4 hgrow4 hat4
              obtain ⟨q4, c4, rfl⟩ := ownh_form hown4
              obtain ⟨⟨ca, cb⟩, ht4⟩ := TwoR.left HTD.out hown4 hgrow4 hat4
              have HT4 := Lib.hid ht4
              have h4 : Below w3.heap.size w3 w4 := (HTD.out.low.alloc HTD.out.low.size _).grown hgrow4 (by have := HT.out.low.size; simp; omega) (fun g e => by have := (HTD.out.own1.lt g e).1; have := HT.out.ge; omega)
              clear hown4 hgrow4 hat4 ht4
              refine hK.out _ _ h4 (fun hHeld => ?_)
              clear hK K
              try simp only [Act.put, List.setIfInBounds_toArray, List.set_cons_zero, List.set_cons_succ]
              refine wpAnyH_take (i := 15) (oi := ⟨some 65, .fieldAddr 41 (.tmp 7) 0, _, _, _, _⟩) (v := ?_) rfl (by kernel_rfl) (by kernel_rfl) (by kernel_rfl) (fun _ _ _ h => h) (Or.inl ⟨by rfl, ?_⟩) (by assumption) ?_
              rotate_left
              · intro w' hSw
                go_simp
                try with_reducible rfl
              try simp only [Act.put, List.setIfInBounds_toArray, List.set_cons_zero, List.set_cons_succ]
              refine wpAnyH_ready (rs := [16]) (by kernel_rfl) (by simp) ?_
              refine AllReadyH.cons (o := ⟨none, .store 39 (.tmp 65) (.tmp 64), _, _, _, _⟩) rfl (fun K hK => ?_) AllReadyH.nil
              go_simp
              try go_wp2_with fail
              refine hK.out _ _ HT4.out.low (fun hHeld => ?_)
              clear hK K
              try simp only [Act.put, List.setIfInBounds_toArray, List.set_cons_zero, List.set_cons_succ]
              refine wpAnyH_done (by kernel_rfl) ?_ _
              try go_wp2_with fail
              go_meet
              exact ⟨_, HT4.out⟩
            ·
              go_simp
              have hbal : Below wr.heap.size wr ((wr.alloc (.cells #[.int .i64 (min x z)] 2)).drew) := ((Below.refl _ _).alloc (Nat.le_refl _) _).drew
              have hHeld : Below w3.heap.size w3 ((wr.alloc (.cells #[.int .i64 (min x z)] 2)).drew) := hHeld.alloc HT.out.low.size (.cells #[.int .i64 (min x z)] 2)
              try go_wp2_with fail
              refine hK.out _ _ hHeld (fun hHeld => ?_)
              clear hK K
              try simp only [Act.put, List.setIfInBounds_toArray, List.set_cons_zero, List.set_cons_succ]
              refine wpAnyH_ready (rs := [1]) (by kernel_rfl) (by simp) ?_
              refine AllReadyH.cons (o := ⟨some 51, .load 39 (.tmp 50), _, _, _, _⟩) rfl (fun K hK => ?_) AllReadyH.nil
              have cL : ((wr.alloc (.cells #[.int .i64 (min x z)] 2)).drew).cell? ⟨gb, 0, none⟩ = some (.slice pu j cu0) := (hbal.cell (block_lt_of_cell cu)).trans cu
              go_simp
              refine hK.out _ _ hHeld (fun hHeld => ?_)
              clear hK K
              try simp only [Act.put, List.setIfInBounds_toArray, List.set_cons_zero, List.set_cons_succ]
              refine wpAnyH_ready (rs := [14]) (by kernel_rfl) (by simp) ?_
              refine AllReadyH.cons (o := ⟨some 64, .call ⟨.builtin .append, #[.tmp 51, .tmp 63], #[39, 39]⟩, _, _, _, _⟩) rfl (fun K hK => ?_) AllReadyH.nil
              refine wp_append_at (.tmp 51) (.tmp 63) 39 (by rfl) (gb + 1) 2 i2 (.int .i64 0) 1 8 URh HI.out HI0.out HI1.out HI2.out (by rfl) (by decide) _ j _ (by rfl) (show ((wr.alloc (.cells #[.int .i64 (min x z)] 2)).drew).ownsRow _ _ _ _ _ _ from HTD.out.own1.alloc _) ⟨wr.heap.size, 0, none⟩ 1 1 (ivals [min x z]) (by rfl) (by rfl) (ivals_cells (L := [min x z]) (heap_alloc_new wr.drew _)) (ivals_one _) (by unfold maxLen; omega) (by omega) (by have h9 := HT.out.lt; simp; omega) ?_
              intro v4 w4 hown4 hgrow4 hat4
              obtain ⟨q4, c4, rfl⟩ := ownh_form hown4
              obtain ⟨⟨ca, cb⟩, ht4⟩ := TwoR.left HTD.out hown4 hgrow4 hat4
              have HT4 := Lib.hid ht4
              have h4 : Below w3.heap.size w3 w4 := (HTD.out.low.alloc HTD.out.low.size _).grown hgrow4 (by have := HT.out.low.size; simp; omega) (fun g e => by have := (HTD.out.own1.lt g e).1; have := HT.out.ge; omega)
              clear hown4 hgrow4 hat4 ht4
              refine hK.out _ _ h4 (fun hHeld => ?_)
              clear hK K
              try simp only [Act.put, List.setIfInBounds_toArray, List.set_cons_zero, List.set_cons_succ]
              refine wpAnyH_take (i := 15) (oi := ⟨some 65, .fieldAddr 41 (.tmp 7) 0, _, _, _, _⟩) (v := ?_) rfl (by kernel_rfl) (by kernel_rfl) (by kernel_rfl) (fun _ _ _ h => h) (Or.inl ⟨by rfl, ?_⟩) (by assumption) ?_
              rotate_left
              · intro w' hSw
                go_simp
                try with_reducible rfl
              try simp only [Act.put, List.setIfInBounds_toArray, List.set_cons_zero, List.set_cons_succ]
              refine wpAnyH_ready (rs := [16]) (by kernel_rfl) (by simp) ?_
              refine AllReadyH.cons (o := ⟨none, .store 39 (.tmp 65) (.tmp 64), _, _, _, _⟩) rfl (fun K hK => ?_) AllReadyH.nil
              go_simp
              try go_wp2_with fail
              refine hK.out _ _ HT4.out.low (fun hHeld => ?_)
              clear hK K
              try simp only [Act.put, List.setIfInBounds_toArray, List.set_cons_zero, List.set_cons_succ]
              refine wpAnyH_done (by kernel_rfl) ?_ _
              try go_wp2_with fail
              go_meet
              exact ⟨_, HT4.out⟩
          case rest =>
            obtain ⟨ua, ht⟩ := hcut
            rw [← HS.out] at ht
            obtain ⟨pa, ca0, rfl⟩ := ownh_form ht.own1
            have HTb := Lib.hid ht
            clear ht HT HTD HC5 a0 a1 b0 b1 z0 z1 z2 z3 cu cv cf cg
            generalize hwb : wc = wb at *
            clear hwb
            obtain ⟨cu, cv, cf, cg⟩ := HTb.out.facts
            have HTD := Lib.hid (HTb.out.later (Below.refl _ _).drew)
            go_upto_region 13 with fail
            refine wp_region_held_drew (S := fun w' => Below w3.heap.size w3 w') (by kernel_rfl) HTD.out.low (fun hHeld => ?_)
            refine wpAnyH_take (i := 0) (oi := ⟨some 66, .fieldAddr 41 (.tmp 7) 1, _, _, _, _⟩) (v := ?_) rfl (by kernel_rfl) (by kernel_rfl) (by kernel_rfl) (fun _ _ _ h => h) (Or.inl ⟨by rfl, ?_⟩) (by assumption) ?_
            rotate_left
            · intro w' hSw
              go_simp
              try with_reducible rfl
            try simp only [Act.put, List.setIfInBounds_toArray, List.set_cons_zero, List.set_cons_succ]
            refine wpAnyH_take (i := 2) (oi := ⟨some 68, .fieldAddr 41 (.tmp 2) 1, _, _, _, _⟩) (v := ?_) rfl (by kernel_rfl) (by kernel_rfl) (by kernel_rfl) (fun _ _ _ h => h) (Or.inl ⟨by rfl, ?_⟩) (by assumption) ?_
            rotate_left
            · intro w' hSw
              go_simp
              try with_reducible rfl
            try simp only [Act.put, List.setIfInBounds_toArray, List.set_cons_zero, List.set_cons_succ]
            refine wpAnyH_take (i := 3) (oi := ⟨some 69, .load 39 (.tmp 68), _, _, _, _⟩) (v := ?_) rfl (by kernel_rfl) (by kernel_rfl) (by kernel_rfl) (fun _ _ _ h => h) (Or.inl ⟨by rfl, ?_⟩) (by assumption) ?_
            rotate_left
            · intro w' hSw
              have a0 := cell_of_row w' w.heap.size 1 _ _ _ (HC3.out.later hSw).a
              go_simp
              try with_reducible rfl
            try simp only [Act.put, List.setIfInBounds_toArray, List.set_cons_zero, List.set_cons_succ]
            refine wpAnyH_take (i := 4) (oi := ⟨some 70, .move (.tmp 8), _, _, _, _⟩) (v := ?_) rfl (by kernel_rfl) (by kernel_rfl) (by kernel_rfl) (fun _ _ _ h => h) (Or.inl ⟨by rfl, ?_⟩) (by assumption) ?_
            rotate_left
            · intro w' hSw
              go_simp
              try with_reducible rfl
            try simp only [Act.put, List.setIfInBounds_toArray, List.set_cons_zero, List.set_cons_succ]
            refine wpAnyH_take (i := 5) (oi := ⟨some 71, .indexAddr 39 (.tmp 69) (.tmp 70), _, _, _, _⟩) (v := ?_) rfl (by kernel_rfl) (by kernel_rfl) (by kernel_rfl) (fun _ _ _ h => h) (Or.inl ⟨by rfl, ?_⟩) (by assumption) ?_
            rotate_left
            · intro w' hSw
              go_simp
              try with_reducible rfl
            try simp only [Act.put, List.setIfInBounds_toArray, List.set_cons_zero, List.set_cons_succ]
            refine wpAnyH_take (i := 6) (oi := ⟨some 72, .load 2 (.tmp 71), _, _, _, _⟩) (v := ?_) rfl (by kernel_rfl) (by kernel_rfl) (by kernel_rfl) (fun _ _ _ h => h) (Or.inl ⟨by rfl, ?_⟩) (by assumption) ?_
            rotate_left
            · intro w' hSw
              have k9 := (hSw.cell (block_lt_of_cell k2)).trans k2
              go_simp
              try with_reducible rfl
            try simp only [Act.put, List.setIfInBounds_toArray, List.set_cons_zero, List.set_cons_succ]
            refine wpAnyH_take (i := 7) (oi := ⟨some 73, .fieldAddr 41 (.tmp 3) 1, _, _, _, _⟩) (v := ?_) rfl (by kernel_rfl) (by kernel_rfl) (by kernel_rfl) (fun _ _ _ h => h) (Or.inl ⟨by rfl, ?_⟩) (by assumption) ?_
            rotate_left
            · intro w' hSw
              go_simp
              try with_reducible rfl
            try simp only [Act.put, List.setIfInBounds_toArray, List.set_cons_zero, List.set_cons_succ]
            refine wpAnyH_take (i := 8) (oi := ⟨some 74, .load 39 (.tmp 73), _, _, _, _⟩) (v := ?_) rfl (by kernel_rfl) (by kernel_rfl) (by kernel_rfl) (fun _ _ _ h => h) (Or.inl ⟨by rfl, ?_⟩) (by assumption) ?_
            rotate_left
            · intro w' hSw
              have b0 := cell_of_row w' (w.heap.size + 1) 1 _ _ _ (HC3.out.later hSw).b
              go_simp
              try with_reducible rfl
            try simp only [Act.put, List.setIfInBounds_toArray, List.set_cons_zero, List.set_cons_succ]
            refine wpAnyH_take (i := 9) (oi := ⟨some 75, .move (.tmp 8), _, _, _, _⟩) (v := ?_) rfl (by kernel_rfl) (by kernel_rfl) (by kernel_rfl) (fun _ _ _ h => h) (Or.inl ⟨by rfl, ?_⟩) (by assumption) ?_
            rotate_left
            · intro w' hSw
              go_simp
              try with_reducible rfl
            try simp only [Act.put, List.setIfInBounds_toArray, List.set_cons_zero, List.set_cons_succ]
            refine wpAnyH_take (i := 10) (oi := ⟨some 76, .indexAddr 39 (.tmp 74) (.tmp 75), _, _, _, _⟩) (v := ?_) rfl (by kernel_rfl) (by kernel_rfl) (by kernel_rfl) (fun _ _ _ h => h) (Or.inl ⟨by rfl, ?_⟩) (by assumption) ?_
            rotate_left
            · intro w' hSw
              go_simp
              try with_reducible rfl
            try simp only [Act.put, List.setIfInBounds_toArray, List.set_cons_zero, List.set_cons_succ]
            refine wpAnyH_take (i := 11) (oi := ⟨some 77, .load 2 (.tmp 76), _, _, _, _⟩) (v := ?_) rfl (by kernel_rfl) (by kernel_rfl) (by kernel_rfl) (fun _ _ _ h => h) (Or.inl ⟨by rfl, ?_⟩) (by assumption) ?_
            rotate_left
            · intro w' hSw
              have k9 := (hSw.cell (block_lt_of_cell k4)).trans k4
              go_simp
              try with_reducible rfl
            try simp only [Act.put, List.setIfInBounds_toArray, List.set_cons_zero, List.set_cons_succ]
            refine wpAnyH_take (i := 12) (oi := ⟨some 78, .call ⟨.builtin .max, #[.tmp 72, .tmp 77], #[2, 2]⟩, _, _, _, _⟩) (v := ?_) rfl (by kernel_rfl) (by kernel_rfl) (by kernel_rfl) (fun _ _ _ h => h) (Or.inl ⟨by rfl, ?_⟩) (by assumption) ?_
            rotate_left
            · intro w' hSw
              go_simp
              try with_reducible rfl
            try simp only [Act.put, List.setIfInBounds_toArray, List.set_cons_zero, List.set_cons_succ]
            refine wpAnyH_ready (rs := [1, 13]) (by kernel_rfl) (by simp) ?_
            refine AllReadyH.cons (o := ⟨some 67, .load 39 (.tmp 66), _, _, _, _⟩) rfl (fun K hK => ?_) (AllReadyH.cons (o := ⟨some 79, .buildSlice 39 1 #[(0, (.tmp 78))], _, _, _, _⟩) rfl (fun K hK => ?_) AllReadyH.nil)
            ·
              have cL : wb.drew.cell? ⟨gb, 1, none⟩ = some (.slice pv j cv0) := cv
              go_simp
              refine hK.out _ _ hHeld (fun hHeld => ?_)
              clear hK K
              try simp only [Act.put, List.setIfInBounds_toArray, List.set_cons_zero, List.set_cons_succ]
              refine wpAnyH_ready (rs := [13]) (by kernel_rfl) (by simp) ?_
              refine AllReadyH.cons (o := ⟨some 79, .buildSlice 39 1 #[(0, (.tmp 78))], _, _, _, _⟩) rfl (fun K hK => ?_) AllReadyH.nil
              go_simp
              have hbal : Below wb.heap.size wb ((wb.alloc (.cells #[.int .i64 (max y vv)] 2)).drew) := ((Below.refl _ _).alloc (Nat.le_refl _) _).drew
              have hHeld : Below w3.heap.size w3 ((wb.alloc (.cells #[.int .i64 (max y vv)] 2)).drew) := hHeld.alloc HTb.out.low.size (.cells #[.int .i64 (max y vv)] 2)
              try go_wp2_with fail
              refine hK.out _ _ hHeld (fun hHeld => ?_)
              clear hK K
              try simp only [Act.put, List.setIfInBounds_toArray, List.set_cons_zero, List.set_cons_succ]
              refine wpAnyH_ready (rs := [14]) (by kernel_rfl) (by simp) ?_
              refine AllReadyH.cons (o := ⟨some 80, .call ⟨.builtin .append, #[.tmp 67, .tmp 79], #[39, 39]⟩, _, _, _, _⟩) rfl (fun K hK => ?_) AllReadyH.nil
              refine wp_append_at (.tmp 67) (.tmp 79) 39 (by rfl) (gb + 1) 2 i2 (.int .i64 0) 1 8 URh HI.out HI0.out HI1.out HI2.out (by rfl) (by decide) _ j _ (by rfl) (show ((wb.alloc (.cells #[.int .i64 (max y vv)] 2)).drew).ownsRow _ _ _ _ _ _ from HTD.out.own2.alloc _) ⟨wb.heap.size, 0, none⟩ 1 1 (ivals [max y vv]) (by rfl) (by rfl) (ivals_cells (L := [max y vv]) (heap_alloc_new wb.drew _)) (ivals_one _) (by unfold maxLen; omega) (by omega) (by have h9 := HTb.out.lt; simp; omega) ?_
              intro v4 w4 hown4 hgrow4 hat4
              obtain ⟨q4, c4, rfl⟩ := ownh_form hown4
              obtain ⟨⟨ca, cb⟩, ht4⟩ := TwoR.right HTD.out hown4 hgrow4 hat4
              have HT4 := Lib.hid ht4
              have h4 : Below w3.heap.size w3 w4 := (HTD.out.low.alloc HTD.out.low.size _).grown hgrow4 (by have := HTb.out.low.size; simp; omega) (fun g e => by have := (HTD.out.own2.lt g e).1; have := HTb.out.ge; omega)
              clear hown4 hgrow4 hat4 ht4
              refine hK.out _ _ h4 (fun hHeld => ?_)
              clear hK K
              try simp only [Act.put, List.setIfInBounds_toArray, List.set_cons_zero, List.set_cons_succ]
              refine wpAnyH_take (i := 15) (oi := ⟨some 81, .fieldAddr 41 (.tmp 7) 1, _, _, _, _⟩) (v := ?_) rfl (by kernel_rfl) (by kernel_rfl) (by kernel_rfl) (fun _ _ _ h => h) (Or.inl ⟨by rfl, ?_⟩) (by assumption) ?_
              rotate_left
              · intro w' hSw
                go_simp
                try with_reducible rfl
              try simp only [Act.put, List.setIfInBounds_toArray, List.set_cons_zero, List.set_cons_succ]
              refine wpAnyH_ready (rs := [16]) (by kernel_rfl) (by simp) ?_
              refine AllReadyH.cons (o := ⟨none, .store 39 (.tmp 81) (.tmp 80), _, _, _, _⟩) rfl (fun K hK => ?_) AllReadyH.nil
              go_simp
              try go_wp2_with fail
              refine hK.out _ _ HT4.out.low (fun hHeld => ?_)
              clear hK K
              try simp only [Act.put, List.setIfInBounds_toArray, List.set_cons_zero, List.set_cons_succ]
              refine wpAnyH_done (by kernel_rfl) ?_ _
              have ht5 := HT4.out
              rw [← HS2.out] at ht5
              have HT5 := Lib.hid ht5
              clear ht5
              go_wp2_with fail
              go_roundw
              case rel => exact ⟨j + 1, _, _, by omega, by go_num, HT5.out⟩
              case measure => simp [intOf]; omega
            ·
              go_simp
              have hbal : Below wb.heap.size wb ((wb.alloc (.cells #[.int .i64 (max y vv)] 2)).drew) := ((Below.refl _ _).alloc (Nat.le_refl _) _).drew
              have hHeld : Below w3.heap.size w3 ((wb.alloc (.cells #[.int .i64 (max y vv)] 2)).drew) := hHeld.alloc HTb.out.low.size (.cells #[.int .i64 (max y vv)] 2)
              try go_wp2_with fail
              refine hK.out _ _ hHeld (fun hHeld => ?_)
              clear hK K
              try simp only [Act.put, List.setIfInBounds_toArray, List.set_cons_zero, List.set_cons_succ]
              refine wpAnyH_ready (rs := [1]) (by kernel_rfl) (by simp) ?_
              refine AllReadyH.cons (o := ⟨some 67, .load 39 (.tmp 66), _, _, _, _⟩) rfl (fun K hK => ?_) AllReadyH.nil
              have cL : ((wb.alloc (.cells #[.int .i64 (max y vv)] 2)).drew).cell? ⟨gb, 1, none⟩ = some (.slice pv j cv0) := (hbal.cell (block_lt_of_cell cv)).trans cv
              go_simp
              refine hK.out _ _ hHeld (fun hHeld => ?_)
              clear hK K
              try simp only [Act.put, List.setIfInBounds_toArray, List.set_cons_zero, List.set_cons_succ]
              refine wpAnyH_ready (rs := [14]) (by kernel_rfl) (by simp) ?_
              refine AllReadyH.cons (o := ⟨some 80, .call ⟨.builtin .append, #[.tmp 67, .tmp 79], #[39, 39]⟩, _, _, _, _⟩) rfl (fun K hK => ?_) AllReadyH.nil
              refine wp_append_at (.tmp 67) (.tmp 79) 39 (by rfl) (gb + 1) 2 i2 (.int .i64 0) 1 8 URh HI.out HI0.out HI1.out HI2.out (by rfl) (by decide) _ j _ (by rfl) (show ((wb.alloc (.cells #[.int .i64 (max y vv)] 2)).drew).ownsRow _ _ _ _ _ _ from HTD.out.own2.alloc _) ⟨wb.heap.size, 0, none⟩ 1 1 (ivals [max y vv]) (by rfl) (by rfl) (ivals_cells (L := [max y vv]) (heap_alloc_new wb.drew _)) (ivals_one _) (by unfold maxLen; omega) (by omega) (by have h9 := HTb.out.lt; simp; omega) ?_
              intro v4 w4 hown4 hgrow4 hat4
              obtain ⟨q4, c4, rfl⟩ := ownh_form hown4
              obtain ⟨⟨ca, cb⟩, ht4⟩ := TwoR.right HTD.out hown4 hgrow4 hat4
              have HT4 := Lib.hid ht4
              have h4 : Below w3.heap.size w3 w4 := (HTD.out.low.alloc HTD.out.low.size _).grown hgrow4 (by have := HTb.out.low.size; simp; omega) (fun g e => by have := (HTD.out.own2.lt g e).1; have := HTb.out.ge; omega)
              clear hown4 hgrow4 hat4 ht4
              refine hK.out _ _ h4 (fun hHeld => ?_)
              clear hK K
              try simp only [Act.put, List.setIfInBounds_toArray, List.set_cons_zero, List.set_cons_succ]
              refine wpAnyH_take (i := 15) (oi := ⟨some 81, .fieldAddr 41 (.tmp 7) 1, _, _, _, _⟩) (v := ?_) rfl (by kernel_rfl) (by kernel_rfl) (by kernel_rfl) (fun _ _ _ h => h) (Or.inl ⟨by rfl, ?_⟩) (by assumption) ?_
              rotate_left
              · intro w' hSw
                go_simp
                try with_reducible rfl
              try simp only [Act.put, List.setIfInBounds_toArray, List.set_cons_zero, List.set_cons_succ]
              refine wpAnyH_ready (rs := [16]) (by kernel_rfl) (by simp) ?_
              refine AllReadyH.cons (o := ⟨none, .store 39 (.tmp 81) (.tmp 80), _, _, _, _⟩) rfl (fun K hK => ?_) AllReadyH.nil
              go_simp
              try go_wp2_with fail
              refine hK.out _ _ HT4.out.low (fun hHeld => ?_)
              clear hK K
              try simp only [Act.put, List.setIfInBounds_toArray, List.set_cons_zero, List.set_cons_succ]
              refine wpAnyH_done (by kernel_rfl) ?_ _
              have ht5 := HT4.out
              rw [← HS2.out] at ht5
              have HT5 := Lib.hid ht5
              clear ht5
              go_wp2_with fail
              go_roundw
              case rel => exact ⟨j + 1, _, _, by omega, by go_num, HT5.out⟩
              case measure => simp [intOf]; omega
        · obtain rfl : j = l := by omega
          go_wp2_with fail
          have hr1 := heap_setCell_same wr (w.heap.size + 2) 0 _ _ (.slice pu j cu0) HC5.out.r
          have hr2 := heap_setCell_same _ (w.heap.size + 2) 1 _ _ (.slice pv j cv0) hr1
          have e0 := twoh_aside HT.out HB3.out (w.heap.size + 2) 0 (.slice pu j cu0) (by omega) HLT.out
          have e5 := twoh_aside e0 (Below.refl _ _) (w.heap.size + 2) 1 (.slice pv j cv0) (by omega) HLT.out
          refine zret_box 4 rfl (w.heap.size + 2) (.slice pu j cu0) (.slice pv j cv0) (by rfl) (cell_of_row _ (w.heap.size + 2) 0 _ _ _ hr2) (cell_of_row _ (w.heap.size + 2) 1 _ _ _ hr2) ⟨_, rfl, e5.done ?_ ?_, ⟨_, _, _, _, _, _, rfl, fun X hX _ _ _ _ => ⟨fun x hx _ e => by have h1 := (e5.own1.lt x.block (by rw [hx]; rfl)).1; have h2 := HLT.out; omega, fun x hx _ e => by have h1 := (e5.own2.lt x.block (by rw [hx]; rfl)).1; have h2 := HLT.out; omega⟩⟩⟩
          · exact two_ok (fun x y => by omega) (fun i hi => HC3.out.i1.get i hi) (fun i hi => HC3.out.i3.get i hi)
          · exact two_ok (fun x y => by omega) (fun i hi => HC3.out.i2.get i hi) (fun i hi => HC3.out.i4.get i hi)
end Go.Proofs.YtfkpgildeddhaaaGreat.Nd

/- indentureref10.Empty, KidRight. -/
namespace Go.Proofs.YtfkpgildeddhaaaGreat.Nd
open Go.RowKit

set_option maxRecDepth 100000 in
set_option maxHeartbeats 2000000 in
theorem rempty_any (a : Kd) (w : World) (ha : a.Ok w) :
    Calls Tryz.prog 16 #[.agg a.cells.toArray] w fun e w' => e = .returned (.bool (decide (a.pk = PK.none))) ∧ Below w.heap.size w w' := by
  have hb1 : Below w.heap.size w (w.alloc (.cells a.cells.toArray 43)) := (Below.refl _ _).alloc (Nat.le_refl _) _
  have r1 := heap_alloc_new w (.cells a.cells.toArray 43)
  obtain ⟨d, hd, hdr⟩ := UKd
  have HA := Lib.hid ha
  have HD := Lib.hid hd
  have HDR := Lib.hid hdr
  clear ha hd hdr
  go_enter Tryz.func16, Tryz.ntmps16
  go_upto_region 1 with fail
  generalize w.alloc (.cells a.cells.toArray 43) = W at *
  have R1 := Lib.hid (range_kd r1)
  have HOK := Lib.hid (HA.out.later hb1)
  have HL := Lib.hid (Kd.cells_length HA.out.len)
  have HB := Lib.hid hb1
  clear r1 hb1
  go_wp2_with (first
    | (refine wpList_load_mid (by rfl) 43 _ (by rfl) _ 0 (by rfl) a.cells d R1.out HD.out HDR.out (by rw [HL.out]; exact SKd) ?_)
    | (refine wpList_build (by rfl) (by rfl) kd0_built ?_)
    | (refine (rsame_any a kd0 W HOK.out (kd0_ok W)).mono ?_; rintro _ w5 ⟨rfl, b5⟩; rw [kd0_pk]))
  go_ret
  exact ⟨rfl, HB.out.trans (b5.mono HB.out.size)⟩
set_option maxRecDepth 100000 in
set_option maxHeartbeats 2000000 in
theorem rkid_any (a : Kd) (dm : Int) (w : World) (ha : a.Ok w) :
    Calls Tryz.prog 12 #[.agg a.cells.toArray, .int .i64 dm] w fun e w' => e = .returned (.bool (a.pk.right dm)) ∧ Below w.heap.size w w' := by
  have hb1 : Below w.heap.size w (w.alloc (.cells a.cells.toArray 43)) := (Below.refl _ _).alloc (Nat.le_refl _) _
  have r1 := heap_alloc_new w (.cells a.cells.toArray 43)
  obtain ⟨d, hd, hdr⟩ := UKd
  have hp : a.pk.right dm = if a.pk = PK.none then true else if a.size < 1 ∨ 1048576 < a.size ∨ a.live < 0 ∨ a.size < a.live then false else if a.live = 0 then decide (a.lo.n + a.hi.n = 0) else rightB a.lo.R a.hi.R a.lo.n a.hi.n dm := by
    rw [ha.lo.ints.size, ha.hi.ints.size]
    rfl
  obtain ⟨X, hX⟩ : ∃ X, a.pk.right dm = X := ⟨_, rfl⟩
  rw [hX] at hp
  rw [hX]
  have HX := Lib.hid hp
  have HA := Lib.hid ha
  have HD := Lib.hid hd
  have HDR := Lib.hid hdr
  clear ha hd hdr hp hX
  go_enter Tryz.func12, Tryz.ntmps12
  go_upto_region 1 with fail
  generalize w.alloc (.cells a.cells.toArray 43) = W at *
  have R1 := Lib.hid (range_kd r1)
  have KA := Lib.hid (kat_row r1 HA.out.len)
  have HOK := Lib.hid (HA.out.later hb1)
  have HL := Lib.hid (Kd.cells_length HA.out.len)
  have HB := Lib.hid hb1
  clear r1 hb1
  by_cases h0 : a.pk = PK.none
  · have hx := HX.out
    rw [if_pos h0] at hx
    subst hx
    have H0 := Lib.hid (decide_eq_true h0)
    clear h0
    go_wp2_with (first
      | (refine wpList_load_mid (by rfl) 43 _ (by rfl) _ 0 (by rfl) a.cells d R1.out HD.out HDR.out (by rw [HL.out]; exact SKd) ?_)
      | (refine (rempty_any a W HOK.out).mono ?_; rintro _ w5 ⟨rfl, b5⟩; rw [H0.out]))
    go_ret
    exact ⟨rfl, HB.out.trans (b5.mono HB.out.size)⟩
  have hx := HX.out
  rw [if_neg h0] at hx
  have HX2 := Lib.hid hx
  have H0 := Lib.hid (decide_eq_false h0)
  clear h0 hx HX
  go_upto_region 3 with (first
    | (refine wpList_load_mid (by rfl) 43 _ (by rfl) _ 0 (by rfl) a.cells d R1.out HD.out HDR.out (by rw [HL.out]; exact SKd) ?_)
    | (refine (rempty_any a W HOK.out).mono ?_; rintro _ w5 ⟨rfl, b5⟩; rw [H0.out]; have a2 := (b5.cell (block_lt_of_cell KA.out.live)).trans KA.out.live; have a3 := (b5.cell (block_lt_of_cell KA.out.size)).trans KA.out.size; have a4 := (b5.cell (block_lt_of_cell KA.out.lo)).trans KA.out.lo; have a5 := (b5.cell (block_lt_of_cell KA.out.hi)).trans KA.out.hi; have HB5 := Lib.hid (HB.out.trans (b5.mono HB.out.size)); have HK5 := Lib.hid (HOK.out.later b5); clear b5))
  simp only [Nat.zero_add, Rw.val] at a2 a3 a4 a5
  by_cases h1 : a.size < 1
  · have hx := HX2.out
    rw [if_pos (Or.inl h1)] at hx
    subst hx
    go_wp2_with fail
    go_ret
    exact ⟨rfl, HB5.out⟩
  by_cases h2 : 1048576 < a.size
  · have hx := HX2.out
    rw [if_pos (Or.inr (Or.inl h2))] at hx
    subst hx
    go_wp2_with fail
    go_ret
    exact ⟨rfl, HB5.out⟩
  by_cases h3 : a.live < 0
  · have hx := HX2.out
    rw [if_pos (Or.inr (Or.inr (Or.inl h3)))] at hx
    subst hx
    go_wp2_with fail
    go_ret
    exact ⟨rfl, HB5.out⟩
  by_cases h4 : a.size < a.live
  · have hx := HX2.out
    rw [if_pos (Or.inr (Or.inr (Or.inr h4)))] at hx
    subst hx
    go_wp2_with fail
    go_ret
    exact ⟨rfl, HB5.out⟩
  have hx := HX2.out
  rw [if_neg (by omega)] at hx
  by_cases h5 : a.live = 0
  · have h5b : (a.live == 0) = true := by simp [h5]
    rw [if_pos h5, ← len_sum HK5.out.lo.top HK5.out.hi.top] at hx
    subst hx
    have H5 := Lib.hid h5
    clear h5
    go_wp2_with fail
    go_ret
    exact ⟨rfl, HB5.out⟩
  · have h5b : (a.live == 0) = false := by simp [h5]
    rw [if_neg h5] at hx
    have HX5 := Lib.hid hx
    clear h5 hx HX2
    go_wp2_with (refine (refright_any _ _ _ _ _ _ _ _ dm w5 HK5.out.lo.ints HK5.out.hi.ints).mono ?_; rintro _ w6 ⟨rfl, b6⟩)
    go_ret
    refine ⟨?_, HB5.out.trans (b6.mono HB5.out.size)⟩
    rw [HX5.out]
    rfl
end Go.Proofs.YtfkpgildeddhaaaGreat.Nd

/- The contracts of indentureref02: Count, Num. -/
namespace Go.Proofs.YtfkpgildeddhaaaGreat
open Go.RowKit

/-- What a reference function tells: new bytes. -/
def RefPost (w : World) (B : List Nat) (e : Ending) (w' : World) : Prop := ∃ q c, e = .returned (.slice q B.length c) ∧ w'.ownsRow w.heap.size 5 1 (.slice q B.length c) B.length (vals B) ∧ Below w.heap.size w w'
set_option maxHeartbeats 1000000 in
theorem refcount_any (n : Nat) (hn : n < 9223372036854775808) (w : World) :
    Calls Tryz.prog 38 #[.int .i64 n] w (RefPost w (Cm.be n 3)) := by
  have h0 : (0 : Int) ≤ n := by omega
  go_enter Tryz.func38, Tryz.ntmps38
  go_wp2_with fail
  go_ret
  rw [be3]
  have e0 : (n : Int) / 65536 % 256 = ((n / 65536 % 256 : Nat) : Int) := by omega
  have e1 : (n : Int) / 256 % 256 = ((n / 256 % 256 : Nat) : Int) := by omega
  have e2 : (n : Int) % 256 = ((n % 256 : Nat) : Int) := by omega
  rw [e0, e1, e2]
  exact ⟨some ⟨w.heap.size, 0, none⟩, 3, rfl, owns_mk (L := [n / 65536 % 256, n / 256 % 256, n % 256]) (heap_alloc_new w _) rfl (Nat.le_refl _) (by unfold maxLen; decide) (Nat.le_refl _), (Below.refl _ _).alloc (Nat.le_refl _) _⟩
theorem make8 (w : World) : (Instr.makeSlice 22 (.int .i64 8) (.int .i64 8)).run Tryz.prog w = .ok (.slice (some ⟨w.heap.size, 0, none⟩) 8 8) (w.alloc (.cells (u8s (zeros 8)) 5)) := by kernel_rfl
def NumRel (w : World) (g z : Nat) (u i : Value) (wr : World) : Prop :=
  ∃ j : Nat, j ≤ 8 ∧ i = .int .i64 ((j : Int) - 1) ∧ u = .int .u64 (z / 256 ^ (8 - j) : Nat) ∧ wr.heap[g]? = some (.cells (u8s (zeros j ++ (Cm.be z 8).drop j)) 5 (0, 0)) ∧ Below w.heap.size w wr
set_option maxRecDepth 100000 in
set_option maxHeartbeats 1000000 in
theorem refnum_any (n : Int) (h1 : -9223372036854775808 ≤ n) (h2 : n ≤ 9223372036854775807) (w : World) :
    Calls Tryz.prog 63 #[.int .i64 n] w (RefPost w (Cm.num n)) := by
  have hz := num_int h1 h2
  have hzl := (Cm.z64_lt h1 h2).1
  have HZ := Lib.hid hz
  have mk := fun w => make8 w
  clear hz
  go_enter Tryz.func63, Tryz.ntmps63
  go_wp2_with fail
  rw [HZ.out]
  have hst : NumRel w w.heap.size (Cm.z64 n) (.int .u64 (Cm.z64 n : Nat)) (.int .i64 7) (w.alloc (.cells (u8s (zeros 8)) 5)) :=
    ⟨8, by omega, rfl, by simp, by rw [List.drop_eq_nil_of_le (by rw [Cm.be_length]; exact Nat.le_refl _), List.append_nil]; exact heap_alloc_new w _, (Below.refl _ _).alloc (Nat.le_refl _) _⟩
  have hnum : Cm.num n = Cm.be (Cm.z64 n) 8 := rfl
  have HNUM := Lib.hid hnum
  clear hnum
  generalize Cm.z64 n = z at *
  have HST := Lib.hid hst
  clear hst mk HZ
  go_loopw [3, 5] (fun u i wr => NumRel w w.heap.size z u i wr) (fun _ i _ => (intOf i + 1).toNat)
  case atStart => exact HST.out
  case round =>
    obtain ⟨j, hj, rfl, rfl, hr, hb⟩ := hrel
    have HR := Lib.hid hr
    have HB := Lib.hid hb
    clear hr hb HST
    by_cases h0 : j = 0
    · subst h0
      go_wp2_with fail
      go_ret
      have hr := HR.out
      rw [show zeros 0 ++ (Cm.be z 8).drop 0 = Cm.be z 8 from rfl] at hr
      have ho := owns_mk (base := w.heap.size) (n := 8) hr (Cm.be_length z 8) (Nat.le_refl _) (by unfold maxLen; decide) (Nat.le_refl _)
      rw [List.take_of_length_le (by rw [Cm.be_length]; exact Nat.le_refl _)] at ho
      rw [HNUM.out]
      refine ⟨some ⟨w.heap.size, 0, none⟩, 8, by rw [Cm.be_length]; rfl, ?_, HB.out⟩
      rw [Cm.be_length]
      exact ho
    · obtain ⟨m, rfl⟩ : ∃ m, j = m + 1 := ⟨j - 1, by omega⟩
      rw [show ((m + 1 : Nat) : Int) - 1 = (m : Int) from by omega]
      have hul : z / 256 ^ (8 - (m + 1)) < 18446744073709551616 := Nat.lt_of_le_of_lt (Nat.div_le_self _ _) hzl
      have hx : (Cm.be z 8).getD m 0 = z / 256 ^ (8 - (m + 1)) % 256 := by
        rw [Cm.be_get z 8 m (by omega), Cm.pow8]
        rw [show 8 - 1 - m = 8 - (m + 1) from by omega]
      have hd : (Cm.be z 8).drop m = z / 256 ^ (8 - (m + 1)) % 256 :: (Cm.be z 8).drop (m + 1) := by
        rw [← hx, List.drop_eq_getElem_cons (by rw [Cm.be_length]; omega), List.getD_eq_getElem?_getD, List.getElem?_eq_getElem (by rw [Cm.be_length]; omega)]
        rfl
      have hn : z / 256 ^ (8 - m) = z / 256 ^ (8 - (m + 1)) / 256 := by
        rw [Nat.div_div_eq_div_mul, ← Nat.pow_succ]
        congr 2
        omega
      generalize z / 256 ^ (8 - (m + 1)) = U at *
      have HD := Lib.hid hd
      have HN := Lib.hid hn
      clear hx hd hn h0
      have hm8 : (m : Int) < 8 := by omega
      have hst : wr.cell? ⟨w.heap.size, m, none⟩ = some (.int .u8 ((zeros (m + 1) ++ (Cm.be z 8).drop (m + 1)).getD m 0 : Nat)) := u8s_cell HR.out m (by simp [zeros]; omega)
      have hfr : wr.frozen? ⟨w.heap.size, m, none⟩ = false := frozen_of_row wr _ m _ _ HR.out
      go_wp2_with fail
      go_roundw
      case rel =>
        refine ⟨m, by omega, rfl, ?_, ?_, HB.out.setCell (Nat.le_refl _) _⟩
        · rw [HN.out]; exact congrArg (Value.int .u64) (by omega)
        · rw [show (U : Int) % 256 = ((U % 256 : Nat) : Int) from by omega, heap_setCell_same _ _ _ _ _ _ HR.out, HD.out]
          have e : zeros (m + 1) ++ (Cm.be z 8).drop (m + 1) = zeros m ++ 0 :: (Cm.be z 8).drop (m + 1) := by
            have : zeros (m + 1) = zeros m ++ [0] := by simp [zeros, List.replicate_succ']
            rw [this, List.append_assoc]
            rfl
          rw [e, u8s_set (zeros m) _ 0 _ m (by simp [zeros])]
      case measure => simp [intOf]
theorem own_tx {w : World} {base : Nat} {q : Option Addr} {c : Nat} {B : List Nat} (h : w.ownsRow base 5 1 (.slice q B.length c) B.length (vals B)) (hB : Sm.allB B) : Tx w q B.length c B := tx_of_owns h hB
end Go.Proofs.YtfkpgildeddhaaaGreat

/- The contracts of indentureref02: Row, Truth. -/
namespace Go.Proofs.YtfkpgildeddhaaaGreat
open Go.RowKit

def RowRel (w : World) (R : List Int) (v i : Value) (wr : World) : Prop :=
  ∃ k : Nat, k ≤ R.length ∧ i = .int .i64 k ∧ wr.ownsRow w.heap.size 5 1 v (1 + 8 * k) (vals (R.length % 256 :: nums (R.take k))) ∧ Below w.heap.size w wr
set_option maxRecDepth 100000 in
set_option maxHeartbeats 1000000 in
theorem refrow_any (R : List Int) (p : Option Addr) (n c : Nat) (w : World) (hR : Ints w p n c R) (hn : n < 1000000) :
    Calls Tryz.prog 37 #[.slice p n c] w (RefPost w (R.length % 256 :: nums R)) := by
  have HR := Lib.hid hR
  have HN := Lib.hid hR.size
  have HLE := Lib.hid hR.le
  obtain ⟨i5, hi, hi0, hi1, hi2⟩ := info_parts I5
  have HI := Lib.hid hi
  have HI0 := Lib.hid hi0
  have HI1 := Lib.hid hi1
  have HI2 := Lib.hid hi2
  have hw : IntKind.u8.wrap (n : Int) = ((n % 256 : Nat) : Int) := by rw [IntKind.wrap_u8]; omega
  clear hi hi0 hi1 hi2 hR
  go_enter Tryz.func37, Tryz.ntmps37
  go_wp2_with fail
  have hst : RowRel w R (.slice (some ⟨w.heap.size, 0, none⟩) 1 1) (.int .i64 0) (w.alloc (.cells #[.int .u8 ((n : Int) % 256)] 5)) := by
    rw [show (n : Int) % 256 = ((n % 256 : Nat) : Int) from by omega]
    exact ⟨0, by omega, rfl, by rw [← HN.out]; exact owns_mk (L := [n % 256]) (heap_alloc_new w _) rfl (Nat.le_refl _) (by unfold maxLen; omega) (Nat.le_refl _), (Below.refl _ _).alloc (Nat.le_refl _) _⟩
  have HST := Lib.hid hst
  clear hst hw
  go_loopw [3, 4] (fun v i wr => RowRel w R v i wr) (fun _ i _ => n - (intOf i).toNat)
  case atStart => exact HST.out
  case round =>
    obtain ⟨k, hk, rfl, ho, hb⟩ := hrel
    rw [← HN.out] at hk
    have HO := Lib.hid ho
    have HB := Lib.hid hb
    clear ho hb HST
    by_cases hlt : k < n
    · have hkR : k < R.length := by rw [← HN.out]; exact hlt
      have hx := HR.out.get k hlt
      rcases HR.out.at' with h0 | ⟨gx, o, hp, hc⟩
      · rw [h0] at hkR; exact absurd hkR (by simp)
      · subst hp
        have hc1 := hc k hkR
        have hcell : wr.cell? ⟨gx, o + k, none⟩ = some (.int .i64 (R.getD k 0)) := (HB.out.cell (p := ⟨gx, o + k, none⟩) (block_lt_of_cell hc1)).trans hc1
        obtain ⟨x, hxx⟩ : ∃ x, x = R.getD k 0 := ⟨_, rfl⟩
        rw [← hxx] at hcell hx
        have HXX := Lib.hid hxx
        have HX := Lib.hid hx
        clear hc hc1 hxx hx
        have hle := HLE.out
        go_wp2_with fail
        refine (refnum_any x HX.out.1 HX.out.2 wr).mono ?_
        rintro e w3 hp
        obtain ⟨q3, c3, rfl, h3, h4⟩ := hp
        rw [Cm.num_length] at h3 ⊢
        obtain ⟨y3, hy3⟩ := row_some h3 (by omega)
        rw [hy3] at h3 ⊢
        have H3 := Lib.hid h3
        have T3 := Lib.hid (show Tx w3 (some y3) 8 c3 (Cm.num x) from tx_of_owns h3 (Cm.num_ok x))
        have HO3 := Lib.hid (owns_later HO.out h4)
        have HB3 := Lib.hid (HB.out.trans (h4.mono HB.out.size))
        clear h3 h4 hy3
        go_wp2_with (at_builtin; refine wpList_append_own _ (by rfl) (.tmp 15) (.tmp 20) 22 (by rfl) w.heap.size 5 i5 (.int .u8 0) 1 1 A22 HI.out HI0.out HI1.out HI2.out (by rfl) (by decide) _ (1 + 8 * k) _ (by rfl) HO3.out y3 8 c3 (vals (Cm.num x)) (by rfl) (by rw [vals_length, Nat.mul_one, Cm.num_length]) (T3.out.cells) (vals_one _) (by unfold maxLen; omega) (by omega) HB3.out.size ?_; intro v4 w4 hown4 hgrow4 _; have HO4 := Lib.hid hown4; have HB4 := Lib.hid (HB3.out.grown hgrow4 HB3.out.size (fun i hi => (HO3.out.lt i hi).1)); clear hown4 hgrow4)
        go_wp2_with fail
        go_roundw
        case rel =>
          refine ⟨k + 1, by omega, by go_num, ?_, HB4.out⟩
          have ho := HO4.out
          rw [← vals_append, HXX.out, List.cons_append, ← nums_step R k hkR, show 1 + 8 * k + 8 = 1 + 8 * (k + 1) from by omega] at ho
          exact ho
        case measure => simp [intOf]; omega
    · obtain rfl : k = n := by omega
      go_wp2_with fail
      go_ret
      have ho := HO.out
      rw [List.take_of_length_le (by have := HN.out; omega)] at ho
      obtain ⟨q, d, rfl⟩ := slice_of_owns ho
      have e : 1 + 8 * k = (R.length % 256 :: nums R).length := by rw [List.length_cons, nums_length, HN.out]; omega
      rw [e] at ho
      exact ⟨q, d, congrArg (fun m => Ending.returned (.slice q m d)) e, ho, HB.out⟩
set_option maxRecDepth 100000 in
set_option maxHeartbeats 1000000 in
theorem reftruth_any (x : Bool) (w : World) :
    Calls Tryz.prog 36 #[.bool x] w (RefPost w [if x then 1 else 0]) := by
  cases x
  · go_enter Tryz.func36, Tryz.ntmps36
    go_wp2_with fail
    go_ret
    exact ⟨_, 1, rfl, owns_mk (L := [0]) (heap_alloc_new w _) rfl (Nat.le_refl _) (by unfold maxLen; omega) (Nat.le_refl _), (Below.refl _ _).alloc (Nat.le_refl _) _⟩
  · go_enter Tryz.func36, Tryz.ntmps36
    go_wp2_with fail
    go_ret
    exact ⟨_, 1, rfl, owns_mk (L := [1]) (heap_alloc_new w _) rfl (Nat.le_refl _) (by unfold maxLen; omega) (Nat.le_refl _), (Below.refl _ _).alloc (Nat.le_refl _) _⟩
end Go.Proofs.YtfkpgildeddhaaaGreat

/- indentureref10.Bytes: what a node's bytes are, plainly and in memory. -/
namespace Go.Proofs.YtfkpgildeddhaaaGreat.Nd
open Go.RowKit Go.Proofs.YtfkpgildeddhaaaGreat.Wl

def By2 (w1 : World) (K : List Kd) (H : List Nat) (v i : Value) (wr : World) : Prop := ∃ k N : Nat, k ≤ K.length ∧ i = .int .i64 k ∧ N ≤ 20103 + 1241 * k ∧ Out w1 wr v N (H ++ (K.take k).flatMap fun e => e.pk.bytes)
def By1 (w1 : World) (E : List En) (H : List Nat) (v i : Value) (wr : World) : Prop := ∃ k N : Nat, k ≤ E.length ∧ i = .int .i64 k ∧ N ≤ 2 + 402 * k ∧ Out w1 wr v N (H ++ (E.take k).flatMap fun e => e.pe.bytes)
set_option maxRecDepth 100000 in
set_option maxHeartbeats 8000000 in
theorem rbytes_any (kind : Nat) (hkd : kind < 256) (p : Option Addr) (n c : Nat) (q : Option Addr) (m f : Nat) (E : List En) (K : List Kd) (w : World) (hE : EntsIn w p n c E) (hK : KidsIn w q m f K) (hF : Few E K) (hL : ∀ k ∈ K, 0 ≤ k.live ∧ 0 ≤ k.size) :
    Calls Tryz.prog 9 #[.agg #[.int .u8 kind, .slice p n c, .slice q m f]] w (RefPost w (pnOf kind E K).bytes) := by
  obtain ⟨i5, hi, hi0, hi1, hi2⟩ := info_parts I5
  have HI := Lib.hid hi
  have HI0 := Lib.hid hi0
  have HI1 := Lib.hid hi1
  have HI2 := Lib.hid hi2
  clear hi hi0 hi1 hi2
  have hb1 : Below w.heap.size w (w.alloc (.cells #[.int .u8 kind, .slice p n c, .slice q m f] 27)) := (Below.refl _ _).alloc (Nat.le_refl _) _
  have hn := NodeAt.start w kind p n c q m f
  have hn50 : n ≤ 50 := by rw [hE.size]; exact hF.rows
  have hm50 : m ≤ 50 := by rw [hK.size]; exact hF.kids
  have HES := Lib.hid hE.size
  have HE := Lib.hid (hE.later hb1)
  have HK := Lib.hid (hK.later hb1)
  have HB := Lib.hid hb1
  have HN := Lib.hid hn
  have HF := Lib.hid hF
  have HL := Lib.hid hL
  clear hE hK hb1 hn hF hL
  have HKS := Lib.hid HK.out.size
  obtain ⟨du, hdu, hdr⟩ := UKd
  have HD := Lib.hid hdu
  have HDR := Lib.hid hdr
  have HZ := Lib.hid (zero_of_info kz)
  clear hdu hdr
  have e8 : IntKind.u8.wrap (n : Int) = (n : Nat) := by rw [IntKind.wrap_u8]; omega
  have e9 : IntKind.u8.wrap (m : Int) = (m : Nat) := by rw [IntKind.wrap_u8]; omega
  go_enter Tryz.func9, Tryz.ntmps9
  go_upto_region 1 with fail
  generalize w.alloc (.cells #[.int .u8 kind, .slice p n c, .slice q m f] 27) = w1 at *
  obtain ⟨t0, t1, t2⟩ := HN.out.cells
  have HO0 := Lib.hid (show Out w1 (w1.alloc (.cells #[.int .u8 kind, .int .u8 n] 5)) (.slice (some ⟨w1.heap.size, 0, Option.none⟩) 2 2) 2 [kind, n] from ⟨rfl, owns_mk (L := [kind, n]) (heap_alloc_new w1 _) rfl (Nat.le_refl _) (by unfold maxLen; omega) (Nat.le_refl _), (fun x hx => by simp at hx; omega), (Below.refl _ _).alloc (Nat.le_refl _) _⟩)
  go_upto_region 3 with fail
  generalize w1.alloc (.cells #[.int .u8 kind, .int .u8 n] 5) = w2 at *
  clear t0 t1 t2
  go_loopw [3, 4] (fun v i wr => By1 w1 E [kind, n] v i wr) (fun _ i _ => n - (intOf i).toNat)
  case atStart => exact ⟨0, 2, by omega, rfl, by omega, by simpa using HO0.out⟩
  case round =>
    obtain ⟨k, N, hk, rfl, hN, hout⟩ := hrel
    have HO := Lib.hid hout
    clear hout HO0
    obtain ⟨t0, t1, t2⟩ := (HN.out.later HO.out.low).cells
    obtain ⟨qv, cv, rfl⟩ := HO.out.form
    by_cases hlt : k < n
    · obtain ⟨g, o, rfl, c1, c2, hok⟩ := HE.out.get k hlt
      have i1 : (0 : Int) ≤ k ∧ (k : Int) < n := by omega
      have hlen : k < E.length := by rw [← HES.out]; exact hlt
      have HS := Lib.hid (flat_succ (fun e : En => e.pe.bytes) E k hlen)
      have h50 := HF.out.row _ (getD_mem E k hlen)
      have hok5 : (E.getD k default).row.R.length ≤ 50 := by rw [← hok.ints.size]; exact h50
      have HOK := Lib.hid hok
      clear hok
      generalize E.getD k default = e at *
      simp only [Rw.val] at c1
      have e2 := (HO.out.low.cell (block_lt_of_cell c2)).trans c2
      go_upto_region 6 with (first
        | (go_at_call 36; refine (reftruth_any e.live wr).mono ?_; rintro _ w4 ⟨q4, d4, rfl, o4, b4⟩; rw [show ([if e.live then 1 else 0] : List Nat).length = 1 from rfl] at o4; rw [show ([if e.live then 1 else 0] : List Nat).length = 1 from rfl]; have hok4 : Sm.allB [if e.live then 1 else 0] := (by intro x hx; simp at hx; subst hx; split <;> omega); have T4 := Lib.hid (tx_of_owns o4 hok4); obtain ⟨a4, rfl⟩ := some_of T4.out (by simp); have HO4 := Lib.hid (HO.out.later b4); have HOK4 := Lib.hid hok4; clear o4 b4 hok4)
        | (at_builtin; refine wpList_append_own _ (by rfl) (.tmp 21) (.tmp 28) 22 (by rfl) w1.heap.size 5 i5 (.int .u8 0) 1 1 A22 HI.out HI0.out HI1.out HI2.out (by rfl) (by decide) _ N _ (by rfl) HO4.out.own a4 1 d4 (vals [if e.live then 1 else 0]) (by rfl) (by rfl) T4.out.cells (vals_one _) (by unfold maxLen; omega) (by omega) HO4.out.low.size ?_; intro v5 w5 hown5 hgrow5 _; have HO5 := Lib.hid (HO4.out.put HOK4.out rfl hown5 hgrow5); clear hown5 hgrow5))
      clear t0 t1 t2 c2 e2 HO4 T4
      obtain ⟨t0, t1, t2⟩ := (HN.out.later HO5.out.low).cells
      have e1 := (HO5.out.low.cell (block_lt_of_cell c1)).trans c1
      have OKE := Lib.hid (HOK.out.later HO5.out.low)
      obtain ⟨P, hP⟩ : ∃ P, e.row.R.length % 256 :: Go.Proofs.YtfkpgildeddhaaaGreat.nums e.row.R = P := ⟨_, rfl⟩
      obtain ⟨ln, hln⟩ : ∃ ln, P.length = ln := ⟨_, rfl⟩
      have hlb : ln ≤ 401 := by rw [← hln, ← hP]; have := rowBs_length e.row.R; have := hok5; unfold rowBs at *; omega
      have HP := Lib.hid hP
      have HLN := Lib.hid hln
      have HPO := Lib.hid (show Sm.allB P from by rw [← hP]; exact rowBs_ok e.row.R)
      clear hP hln
      go_wp2_with (first
        | (go_at_call 37; refine (refrow_any e.row.R _ _ _ w5 OKE.out.ints (by omega)).mono ?_; rintro _ w6 ⟨q6, d6, rfl, o6, b6⟩; rw [HP.out, HLN.out] at o6; rw [HP.out, HLN.out]; have T6 := Lib.hid (tx_of_owns o6 HPO.out); obtain ⟨a6, rfl⟩ := some_of T6.out (by rw [← HP.out]; simp); have HO6 := Lib.hid (HO5.out.later b6); clear o6 b6)
        | (at_builtin; refine wpList_append_own _ (by rfl) (.tmp 30) (.tmp 37) 22 (by rfl) w1.heap.size 5 i5 (.int .u8 0) 1 1 A22 HI.out HI0.out HI1.out HI2.out (by rfl) (by decide) _ (N + 1) _ (by rfl) HO6.out.own a6 ln d6 (vals P) (by rfl) (by rw [vals_length, HLN.out, Nat.mul_one]) T6.out.cells (vals_one _) (by unfold maxLen; omega) (by omega) HO6.out.low.size ?_; intro v7 w7 hown7 hgrow7 _; have HO7 := Lib.hid (HO6.out.put HPO.out HLN.out hown7 hgrow7); clear hown7 hgrow7))
      go_roundw
      case rel =>
        refine ⟨k + 1, N + 1 + ln, by rw [← HES.out]; omega, by go_num, by omega, ?_⟩
        have h := HO7.out
        rw [← HP.out] at h
        have e0 : (([kind, n] ++ (E.take k).flatMap fun e => e.pe.bytes) ++ [if e.live then 1 else 0]) ++ (e.row.R.length % 256 :: Go.Proofs.YtfkpgildeddhaaaGreat.nums e.row.R) = [kind, n] ++ (E.take (k + 1)).flatMap fun e => e.pe.bytes := by
          rw [HS.out]
          cases hlv : e.live <;> simp [PE.bytes, En.pe, rowBs, hlv]
        rw [e0] at h
        exact h
      case measure => simp [intOf]; omega
    · obtain rfl : n = k := by have := HES.out; omega
      have e0 : E.take n = E := List.take_of_length_le (by rw [← HES.out]; exact Nat.le_refl _)
      rw [e0] at HO
      obtain ⟨HH, hHH⟩ : ∃ HH, ([kind, n] ++ E.flatMap fun e => e.pe.bytes) = HH := ⟨_, rfl⟩
      rw [hHH] at HO
      have HHH := Lib.hid hHH
      have hN2 : N ≤ 20102 := by omega
      clear hN hk hHH hlt
      have N8 := Lib.hid (show ∀ j u, (vals [m])[j]? = some u → (wr.alloc (.cells #[.int .u8 m] 5)).cell? ((⟨wr.heap.size, 0, none⟩ : Addr).add j) = some u from cells_of_row (L := [m]) (heap_alloc_new wr _))
      have HO8 := Lib.hid (HO.out.later (show Below wr.heap.size wr (wr.alloc (.cells #[.int .u8 m] 5)) from (Below.refl _ _).alloc (Nat.le_refl _) _))
      go_upto_region 8 with (at_builtin; refine wpList_append_own _ (by rfl) (.tmp 39) (.tmp 44) 22 (by rfl) w1.heap.size 5 i5 (.int .u8 0) 1 1 A22 HI.out HI0.out HI1.out HI2.out (by rfl) (by decide) _ N _ (by rfl) HO8.out.own ⟨wr.heap.size, 0, none⟩ 1 1 (vals [m]) (by rfl) (by rfl) N8.out (vals_one _) (by unfold maxLen; omega) (by omega) HO8.out.low.size ?_; intro v5 w5 hown5 hgrow5 _; have HO5 := Lib.hid (HO8.out.put (P := [m]) (by intro x hx; simp at hx; omega) rfl hown5 hgrow5); clear hown5 hgrow5)
      clear t0 t1 t2 N8 HO8
      obtain ⟨t0, t1, t2⟩ := (HN.out.later HO5.out.low).cells
      go_wp2_with fail
      go_loopw [3, 5] (fun v i wr => By2 w1 K (HH ++ [m]) v i wr) (fun _ i _ => m - (intOf i).toNat)
      case atStart => exact ⟨0, N + 1, by omega, rfl, by omega, by simpa using HO5.out⟩
      case round =>
        obtain ⟨z, N, hz, rfl, hN, hout⟩ := hrel
        have HO := Lib.hid hout
        clear hout HO5
        obtain ⟨t0, t1, t2⟩ := (HN.out.later HO.out.low).cells
        obtain ⟨qv, cv, rfl⟩ := HO.out.form
        by_cases hlt : z < m
        · obtain ⟨g, o, rfl, hrg, hok⟩ := HK.out.get z hlt
          have i1 : (0 : Int) ≤ z ∧ (z : Int) < m := by omega
          have hlen : z < K.length := by rw [← HKS.out]; exact hlt
          have HS := Lib.hid (flat_succ (fun e : Kd => e.pk.bytes) K z hlen)
          have hmem := getD_mem K z hlen
          have h50a := HF.out.lo _ hmem
          have h50b := HF.out.hi _ hmem
          have h50c := HF.out.key _ hmem
          obtain ⟨hl0, hl1⟩ := HL.out _ hmem
          clear hmem
          generalize K.getD z default = kd at *
          have hsa := hok.lo.ints.size
          have hsb := hok.hi.ints.size
          have hsc := hok.key.ints.size
          have HSA := Lib.hid (show kd.lo.R.length ≤ 50 from by omega)
          have HSB := Lib.hid (show kd.hi.R.length ≤ 50 from by omega)
          have HSC := Lib.hid (show kd.key.R.length ≤ 50 from by omega)
          have HA50 := Lib.hid h50a
          have HB50 := Lib.hid h50b
          have HC50 := Lib.hid h50c
          have HCL := Lib.hid (Kd.cells_length hok.len)
          have HSL := Lib.hid hok.len
          have HSO := Lib.hid hok.ok
          have HR := Lib.hid (range_later hrg HO.out.low)
          have HOK := Lib.hid hok
          obtain ⟨lv, hlv⟩ : ∃ lv : Nat, kd.live = lv := ⟨kd.live.toNat, by omega⟩
          obtain ⟨sv, hsv⟩ : ∃ sv : Nat, kd.size = sv := ⟨kd.size.toNat, by omega⟩
          have HLV := Lib.hid hlv
          have HSV := Lib.hid hsv
          have HL9 := Lib.hid (show lv < 9223372036854775808 from by have := hok.live.2; omega)
          have HS9 := Lib.hid (show sv < 9223372036854775808 from by have := hok.size.2; omega)
          clear hsa hsb hsc h50a h50b h50c hrg hok hlv hsv hl0 hl1
          have hz0 := HZ.out.1
          go_upto_region 12 with (first
            | (refine wpList_load_mid (by rfl) 43 _ (by rfl) g (o + z * 37) (by rfl) kd.cells du HR.out HD.out HDR.out (by rw [HCL.out]; exact SKd) ?_)
            | (refine wpList_store_row (by rfl) 43 (.tmp 6) (.tmp 57) (by rfl) wr.heap.size kd.cells.toArray (by rfl) (by rfl) _ _ (heap_alloc_new wr _) (by rw [List.size_toArray, HCL.out]; exact SKd) (by simp only [List.size_toArray, HCL.out, kd0_size]) (all_oneCell_toArray Kd.one) ?_; rw [setRow_alloc]))
          have hst := BySt.start (kd := kd) HO.out
          obtain ⟨gx, hgx⟩ : ∃ gx, gx = wr.heap.size := ⟨_, rfl⟩
          rw [← hgx] at hst ⊢
          generalize wr.alloc (.cells kd.cells.toArray 43) = wk at *
          have HB0 := Lib.hid hst
          clear t0 t1 t2 hst hz0 hgx
          obtain ⟨X, hX⟩ : ∃ X, (HH ++ [m]) ++ (K.take z).flatMap (fun e => e.pk.bytes) = X := ⟨_, rfl⟩
          rw [hX] at HB0
          have HX := Lib.hid hX
          clear hX
          have K0 := Lib.hid (kat_row HB0.out.row HSL.out)
          have hsl := fun w' => arr_slice gx w'
          go_upto_region 13 with (at_builtin; refine wpList_append_own_at _ (by rfl) (.tmp 58) (.tmp 60) 22 (by rfl) w1.heap.size 5 i5 (.int .u8 0) 1 1 A22 HI.out HI0.out HI1.out HI2.out (by rfl) (by decide) _ N _ (by rfl) HB0.out.out.own ⟨gx, 0, none⟩ 32 32 (vals kd.sum) (by rfl) (by rw [vals_length, HSL.out]) (fun j u hu => by have h9 := K0.out.sum j u hu; rw [Nat.zero_add] at h9; rw [Addr.add_mid, Nat.zero_add]; exact h9) (vals_one _) (by unfold maxLen; omega) (by omega) HB0.out.out.low.size ?_; intro v11 w11 hown5 hgrow5 _ hat5; have HB1 := Lib.hid (HB0.out.put HSO.out HSL.out hown5 hgrow5 hat5); clear hown5 hgrow5 hat5)
          clear hsl K0
          have k9 := (kat_row HB1.out.row HSL.out).live
          rw [Nat.zero_add, HLV.out] at k9
          have hne9 := Cm.be_length lv 3
          obtain ⟨P9, hP9⟩ : ∃ P9, Cm.be lv 3 = P9 := ⟨_, rfl⟩
          have HC9 := Lib.hid (refcount_any lv HL9.out w11)
          have HO9 := Lib.hid (Cm.be_ok lv 3)
          rw [hP9] at HC9 HO9 hne9
          have HP90 := Lib.hid hP9
          have HE9 := Lib.hid hne9
          clear hP9 hne9
          go_upto_region 14 with (first
            | (go_at_call 38; refine HC9.out.mono ?_; rintro _ w6 ⟨q6, d6, rfl, o6, b6⟩; rw [HE9.out] at o6; rw [HE9.out]; have T6 := Lib.hid (tx_of_owns o6 HO9.out); obtain ⟨a6, rfl⟩ := some_of T6.out (fun e => by have h8 := HE9.out; rw [e] at h8; simp at h8); have HB9 := Lib.hid (HB1.out.later b6); clear o6 b6)
            | (at_builtin; refine wpList_append_own_at _ (by rfl) (.tmp 62) (.tmp 65) 22 (by rfl) w1.heap.size 5 i5 (.int .u8 0) 1 1 A22 HI.out HI0.out HI1.out HI2.out (by rfl) (by decide) _ (N + 32) _ (by rfl) HB9.out.out.own a6 3 d6 (vals P9) (by rfl) (by rw [vals_length, HE9.out]) T6.out.cells (vals_one _) (by unfold maxLen; omega) (by omega) HB9.out.out.low.size ?_; intro v12 w12 hown5 hgrow5 _ hat5; have HB2 := Lib.hid (HB9.out.put HO9.out HE9.out hown5 hgrow5 hat5); clear hown5 hgrow5 hat5))
          clear k9 T6 HB9 HC9 HO9 HE9
          rw [← HP90.out] at HB2
          clear HP90
          have k9 := (kat_row HB2.out.row HSL.out).size
          rw [Nat.zero_add, HSV.out] at k9
          have hne9 := Cm.be_length sv 3
          obtain ⟨P9, hP9⟩ : ∃ P9, Cm.be sv 3 = P9 := ⟨_, rfl⟩
          have HC9 := Lib.hid (refcount_any sv HS9.out w12)
          have HO9 := Lib.hid (Cm.be_ok sv 3)
          rw [hP9] at HC9 HO9 hne9
          have HP91 := Lib.hid hP9
          have HE9 := Lib.hid hne9
          clear hP9 hne9
          go_upto_region 15 with (first
            | (go_at_call 38; refine HC9.out.mono ?_; rintro _ w6 ⟨q6, d6, rfl, o6, b6⟩; rw [HE9.out] at o6; rw [HE9.out]; have T6 := Lib.hid (tx_of_owns o6 HO9.out); obtain ⟨a6, rfl⟩ := some_of T6.out (fun e => by have h8 := HE9.out; rw [e] at h8; simp at h8); have HB9 := Lib.hid (HB2.out.later b6); clear o6 b6)
            | (at_builtin; refine wpList_append_own_at _ (by rfl) (.tmp 67) (.tmp 70) 22 (by rfl) w1.heap.size 5 i5 (.int .u8 0) 1 1 A22 HI.out HI0.out HI1.out HI2.out (by rfl) (by decide) _ (N + 32 + 3) _ (by rfl) HB9.out.out.own a6 3 d6 (vals P9) (by rfl) (by rw [vals_length, HE9.out]) T6.out.cells (vals_one _) (by unfold maxLen; omega) (by omega) HB9.out.out.low.size ?_; intro v13 w13 hown5 hgrow5 _ hat5; have HB3 := Lib.hid (HB9.out.put HO9.out HE9.out hown5 hgrow5 hat5); clear hown5 hgrow5 hat5))
          clear k9 T6 HB9 HC9 HO9 HE9
          rw [← HP91.out] at HB3
          clear HP91
          have k9 := (kat_row HB3.out.row HSL.out).lo
          rw [Nat.zero_add] at k9
          simp only [Rw.val] at k9
          have OK9 := Lib.hid (HOK.out.later HB3.out.out.low)
          obtain ⟨P9, hP9⟩ : ∃ P9, rowBs kd.lo.R = P9 := ⟨_, rfl⟩
          obtain ⟨la, hl9⟩ : ∃ la, P9.length = la := ⟨_, rfl⟩
          have hlb0 : la ≤ 401 := by rw [← hl9, ← hP9, rowBs_length]; have := HSA.out; omega
          have HC9 := Lib.hid (refrow_any kd.lo.R _ _ _ w13 OK9.out.lo.ints (by have := HA50.out; omega))
          have HO9 := Lib.hid (rowBs_ok kd.lo.R)
          have hne9 : P9 ≠ [] := by rw [← hP9]; simp [rowBs]
          rw [show kd.lo.R.length % 256 :: Go.Proofs.YtfkpgildeddhaaaGreat.nums kd.lo.R = P9 from hP9] at HC9
          rw [hP9] at HO9
          have HPA := Lib.hid hP9
          have HE9 := Lib.hid hl9
          have HNE9 := Lib.hid hne9
          clear hP9 hl9 hne9
          go_upto_region 16 with (first
            | (go_at_call 37; refine HC9.out.mono ?_; rintro _ w6 ⟨q6, d6, rfl, o6, b6⟩; rw [HE9.out] at o6; rw [HE9.out]; have T6 := Lib.hid (tx_of_owns o6 HO9.out); obtain ⟨a6, rfl⟩ := some_of T6.out HNE9.out; have HB9 := Lib.hid (HB3.out.later b6); clear o6 b6)
            | (at_builtin; refine wpList_append_own_at _ (by rfl) (.tmp 72) (.tmp 76) 22 (by rfl) w1.heap.size 5 i5 (.int .u8 0) 1 1 A22 HI.out HI0.out HI1.out HI2.out (by rfl) (by decide) _ (N + 32 + 3 + 3) _ (by rfl) HB9.out.out.own a6 la d6 (vals P9) (by rfl) (by rw [vals_length, HE9.out, Nat.mul_one]) T6.out.cells (vals_one _) (by unfold maxLen; omega) (by omega) HB9.out.out.low.size ?_; intro v14 w14 hown5 hgrow5 _ hat5; have HB4 := Lib.hid (HB9.out.put HO9.out HE9.out hown5 hgrow5 hat5); clear hown5 hgrow5 hat5))
          clear k9 T6 HB9 HC9 HO9 HNE9 OK9
          have k9 := (kat_row HB4.out.row HSL.out).hi
          rw [Nat.zero_add] at k9
          simp only [Rw.val] at k9
          have OK9 := Lib.hid (HOK.out.later HB4.out.out.low)
          obtain ⟨P9, hP9⟩ : ∃ P9, rowBs kd.hi.R = P9 := ⟨_, rfl⟩
          obtain ⟨lb, hl9⟩ : ∃ lb, P9.length = lb := ⟨_, rfl⟩
          have hlb1 : lb ≤ 401 := by rw [← hl9, ← hP9, rowBs_length]; have := HSB.out; omega
          have HC9 := Lib.hid (refrow_any kd.hi.R _ _ _ w14 OK9.out.hi.ints (by have := HB50.out; omega))
          have HO9 := Lib.hid (rowBs_ok kd.hi.R)
          have hne9 : P9 ≠ [] := by rw [← hP9]; simp [rowBs]
          rw [show kd.hi.R.length % 256 :: Go.Proofs.YtfkpgildeddhaaaGreat.nums kd.hi.R = P9 from hP9] at HC9
          rw [hP9] at HO9
          have HPB := Lib.hid hP9
          have HE9 := Lib.hid hl9
          have HNE9 := Lib.hid hne9
          clear hP9 hl9 hne9
          go_upto_region 17 with (first
            | (go_at_call 37; refine HC9.out.mono ?_; rintro _ w6 ⟨q6, d6, rfl, o6, b6⟩; rw [HE9.out] at o6; rw [HE9.out]; have T6 := Lib.hid (tx_of_owns o6 HO9.out); obtain ⟨a6, rfl⟩ := some_of T6.out HNE9.out; have HB9 := Lib.hid (HB4.out.later b6); clear o6 b6)
            | (at_builtin; refine wpList_append_own_at _ (by rfl) (.tmp 78) (.tmp 82) 22 (by rfl) w1.heap.size 5 i5 (.int .u8 0) 1 1 A22 HI.out HI0.out HI1.out HI2.out (by rfl) (by decide) _ (N + 32 + 3 + 3 + la) _ (by rfl) HB9.out.out.own a6 lb d6 (vals P9) (by rfl) (by rw [vals_length, HE9.out, Nat.mul_one]) T6.out.cells (vals_one _) (by unfold maxLen; omega) (by omega) HB9.out.out.low.size ?_; intro v15 w15 hown5 hgrow5 _ hat5; have HB5 := Lib.hid (HB9.out.put HO9.out HE9.out hown5 hgrow5 hat5); clear hown5 hgrow5 hat5))
          clear k9 T6 HB9 HC9 HO9 HNE9 OK9
          have k9 := (kat_row HB5.out.row HSL.out).key
          rw [Nat.zero_add] at k9
          simp only [Rw.val] at k9
          have OK9 := Lib.hid (HOK.out.later HB5.out.out.low)
          obtain ⟨P9, hP9⟩ : ∃ P9, rowBs kd.key.R = P9 := ⟨_, rfl⟩
          obtain ⟨lc, hl9⟩ : ∃ lc, P9.length = lc := ⟨_, rfl⟩
          have hlb2 : lc ≤ 401 := by rw [← hl9, ← hP9, rowBs_length]; have := HSC.out; omega
          have HC9 := Lib.hid (refrow_any kd.key.R _ _ _ w15 OK9.out.key.ints (by have := HC50.out; omega))
          have HO9 := Lib.hid (rowBs_ok kd.key.R)
          have hne9 : P9 ≠ [] := by rw [← hP9]; simp [rowBs]
          rw [show kd.key.R.length % 256 :: Go.Proofs.YtfkpgildeddhaaaGreat.nums kd.key.R = P9 from hP9] at HC9
          rw [hP9] at HO9
          have HPC := Lib.hid hP9
          have HE9 := Lib.hid hl9
          have HNE9 := Lib.hid hne9
          clear hP9 hl9 hne9
          go_wp2_with (first
            | (go_at_call 37; refine HC9.out.mono ?_; rintro _ w6 ⟨q6, d6, rfl, o6, b6⟩; rw [HE9.out] at o6; rw [HE9.out]; have T6 := Lib.hid (tx_of_owns o6 HO9.out); obtain ⟨a6, rfl⟩ := some_of T6.out HNE9.out; have HB9 := Lib.hid (HB5.out.later b6); clear o6 b6)
            | (at_builtin; refine wpList_append_own_at _ (by rfl) (.tmp 84) (.tmp 87) 22 (by rfl) w1.heap.size 5 i5 (.int .u8 0) 1 1 A22 HI.out HI0.out HI1.out HI2.out (by rfl) (by decide) _ (N + 32 + 3 + 3 + la + lb) _ (by rfl) HB9.out.out.own a6 lc d6 (vals P9) (by rfl) (by rw [vals_length, HE9.out, Nat.mul_one]) T6.out.cells (vals_one _) (by unfold maxLen; omega) (by omega) HB9.out.out.low.size ?_; intro v16 w16 hown5 hgrow5 _ hat5; have HB6 := Lib.hid (HB9.out.put HO9.out HE9.out hown5 hgrow5 hat5); clear hown5 hgrow5 hat5))
          clear k9 T6 HB9 HC9 HO9 HNE9 OK9
          go_roundw
          case rel =>
            refine ⟨z + 1, N + 32 + 3 + 3 + la + lb + lc, by rw [← HKS.out]; omega, by go_num, by omega, ?_⟩
            have h := HB6.out.out
            rw [← HPA.out, ← HPB.out, ← HPC.out, ← HX.out] at h
            rw [HS.out]
            have e0 : kd.pk.bytes = kd.sum ++ (Cm.be lv 3 ++ (Cm.be sv 3 ++ (rowBs kd.lo.R ++ (rowBs kd.hi.R ++ rowBs kd.key.R)))) := by
              show kd.sum ++ (Cm.be kd.live.toNat 3 ++ (Cm.be kd.size.toNat 3 ++ _)) = _
              rw [HLV.out, HSV.out]
              rfl
            rw [e0]
            simp only [List.append_assoc] at h ⊢
            exact h
          case measure => simp [intOf]; omega
        · obtain rfl : z = m := by have := HKS.out; omega
          have e0 : K.take z = K := List.take_of_length_le (by rw [← HKS.out]; exact Nat.le_refl _)
          rw [e0] at HO
          go_wp2_with fail
          go_ret
          have h := HO.out
          rw [← HHH.out] at h
          have e1 : ([kind, n] ++ E.flatMap fun e => e.pe.bytes) ++ [z] ++ K.flatMap (fun e => e.pk.bytes) = (pnOf kind E K).bytes := by
            have hn9 := HES.out
            have hm9 := HKS.out
            unfold PN.bytes pnOf
            simp only [List.length_map, List.flatMap_map]
            rw [← hn9, ← hm9, Nat.mod_eq_of_lt (show n < 256 by omega), Nat.mod_eq_of_lt (show z < 256 by omega)]
            simp
          rw [e1] at h
          obtain ⟨q9, c9, e9⟩ := h.form
          refine ⟨q9, c9, ?_, ?_, HB.out.trans (h.low.mono HB.out.size)⟩
          · rw [← h.len]; exact congrArg Ending.returned e9
          · have h8 := owns_base h.own HB.out.size
            rw [← h.len, ← e9]
            exact h8
end Go.Proofs.YtfkpgildeddhaaaGreat.Nd

/- The contract of indentureref01.Preimage. -/
namespace Go.Proofs.YtfkpgildeddhaaaGreat
open Go.RowKit

theorem big_at (n j : Nat) (hj : j < 8) : Sm.big n j = n / 2 ^ (56 - 8 * j) % 256 := by
  unfold Sm.big
  rw [show 8 * (7 - j) = 56 - 8 * j from by omega]
theorem bigs_step (n j : Nat) (hj : j < 8) : (Sm.bigs n).take (j + 1) = (Sm.bigs n).take j ++ [Sm.big n j] := by
  match j, hj with
  | 0, _ => rfl
  | 1, _ => rfl
  | 2, _ => rfl
  | 3, _ => rfl
  | 4, _ => rfl
  | 5, _ => rfl
  | 6, _ => rfl
  | 7, _ => rfl
def RefRel (w : World) (s : Nat) (P : List Nat) (n : Nat) (v i : Value) (wr : World) : Prop :=
  ∃ j : Nat, j ≤ 8 ∧ i = .int .i64 j ∧ wr.ownsRow w.heap.size 5 1 v (s + j) (vals (P ++ (Sm.bigs n).take j)) ∧ Below w.heap.size w wr
set_option maxRecDepth 100000 in
set_option maxHeartbeats 1000000 in
theorem refpre_any (tag : Nat) (_htag : tag < 256) (L : List (List Nat)) (p : Option Addr) (len cap : Nat) (w : World) (hL : Texts w p len cap L) (hl : tot L < 1099511627776) :
    Calls Tryz.prog 71 #[.int .u8 tag, .slice p len cap] w fun e w' => ∃ q n c, e = .returned (.slice q n c) ∧ w'.ownsRow w.heap.size 5 1 (.slice q n c) n (vals (pre tag L)) ∧ Below w.heap.size w w' := by
  have hsz := hL.size
  have hle := hL.le
  have hlen : len < 1099511627776 := by have := len_le_tot L; omega
  obtain ⟨i5, hi, hi0, hi1, hi2⟩ := info_parts I5
  have HI := Lib.hid hi
  have HI0 := Lib.hid hi0
  have HI1 := Lib.hid hi1
  have HI2 := Lib.hid hi2
  clear hi hi0 hi1 hi2
  have HL := Lib.hid hL
  have HSZ := Lib.hid hsz
  clear hL hsz
  go_enter Tryz.func71, Tryz.ntmps71
  go_wp2_with fail
  have hown : (w.alloc (.cells #[.int .u8 tag] 5)).ownsRow w.heap.size 5 1 (.slice (some ⟨w.heap.size, 0, none⟩) 1 1) 1 (vals ([tag].take 1)) := owns_mk (L := [tag]) (heap_alloc_new w _) rfl (Nat.le_refl _) (by unfold maxLen; omega) (Nat.le_refl _)
  have HO0 := Lib.hid hown
  have HB0 := Lib.hid (show Below w.heap.size w (w.alloc (.cells #[.int .u8 tag] 5)) from (Below.refl _ _).alloc (Nat.le_refl _) _)
  clear hown
  go_loopw [5, 6] (fun v i wr => PreRel w tag len L v i wr) (fun _ i _ => len - (intOf i).toNat)
  case atStart => exact ⟨0, by omega, rfl, HO0.out, HB0.out⟩
  case round =>
    obtain ⟨k, hk, rfl, ho, hb⟩ := hrel
    have HO := Lib.hid ho
    have HB := Lib.hid hb
    clear ho hb HO0 HB0
    by_cases hlt : k < len
    · obtain ⟨g, o, hp, hx⟩ := HL.out.at' (by intro e; have := HSZ.out; rw [e] at this; simp at this; omega)
      obtain ⟨q, n, c, h1, h2⟩ := hx k (by have := HSZ.out; omega)
      subst hp
      have e1 := tot_step L k (by have := HSZ.out; omega)
      have e2 := tot_take_le L (k + 1)
      have e3 : n = (L.getD k []).length := h2.size
      have hcell : wr.cell? ⟨g, o + k, none⟩ = some (.slice q n c) := (HB.out.cell (p := ⟨g, o + k, none⟩) (block_lt_of_cell h1)).trans h1
      have HC1 := Lib.hid h1
      have HT := Lib.hid h2
      obtain ⟨s, hs⟩ : ∃ s, s = tot (L.take k) := ⟨_, rfl⟩
      rw [← hs] at HO e1
      have hsn : s + 8 + n < 1099511627776 := by omega
      have HE3 := Lib.hid e3
      have HE1 := Lib.hid e1
      clear hx h1 h2 e1 e2 e3
      go_wp2_with fail
      go_loopw [5, 8] (fun v i wr' => RefRel w s (pre tag (L.take k)) n v i wr') (fun _ i _ => 8 - (intOf i).toNat)
      case atStart => exact ⟨0, by omega, rfl, by rw [List.take_zero, List.append_nil]; exact HO.out, HB.out⟩
      case round =>
        obtain ⟨j, hj, rfl, ho2, hb2⟩ := hrel
        have HO2 := Lib.hid ho2
        have HB2 := Lib.hid hb2
        clear ho2 hb2
        by_cases hj8 : j < 8
        · obtain ⟨y, hy⟩ : ∃ y, y = n / 2 ^ (56 - 8 * j) := ⟨_, rfl⟩
          have hsh : (n : Int) / 2 ^ (56 - 8 * j) = (y : Int) := by rw [hy, Int.natCast_ediv, Int.natCast_pow]; rfl
          have HYY := Lib.hid hy
          clear hy
          go_wp2_with (at_builtin; refine wpList_append_own _ (by rfl) (.tmp 27) (.tmp 36) 22 (by rfl) w.heap.size 5 i5 (.int .u8 0) 1 1 A22 HI.out HI0.out HI1.out HI2.out (by rfl) (by decide) _ (s + j) _ (by rfl) (HO2.out.alloc _) ⟨wr.heap.size, 0, none⟩ 1 1 (vals [y % 256]) (by rfl) (by rfl) (cells_of_row (L := [y % 256]) (heap_alloc_new wr _)) (vals_one _) (by unfold maxLen; omega) (by omega) (by have := HB2.out.size; simp; omega) ?_; intro v4 w4 hown4 hgrow4 _)
          have hb4 : Below w.heap.size w w4 := (HB2.out.alloc HB2.out.size _).grown hgrow4 (by have := HB2.out.size; simp; omega) (fun i hi => ((HO2.out.alloc (.cells (u8s [y % 256]) 5)).lt i hi).1)
          have e : w4.ownsRow w.heap.size 5 1 v4 (s + (j + 1)) (vals (pre tag (L.take k) ++ (Sm.bigs n).take (j + 1))) := by
            rw [bigs_step n j hj8, ← List.append_assoc, vals_append _ [Sm.big n j], big_at n j hj8, ← HYY.out]
            exact hown4
          have HE := Lib.hid e
          have HB4 := Lib.hid hb4
          clear hown4 hgrow4 e hb4
          go_wp2_with fail
          go_roundw
          case rel => exact ⟨j + 1, by omega, by go_num, HE.out, HB4.out⟩
          case measure => simp [intOf]; omega
        · obtain rfl : j = 8 := by omega
          have hcell2 : wr.cell? ⟨g, o + k, none⟩ = some (.slice q n c) := (HB2.out.cell (p := ⟨g, o + k, none⟩) (block_lt_of_cell HC1.out)).trans HC1.out
          have ho8 := HO2.out
          rw [show (Sm.bigs n).take 8 = Sm.bigs n from rfl] at ho8
          have HO8 := Lib.hid ho8
          clear ho8 hcell
          obtain ⟨tk, htk⟩ : ∃ tk, tk = L.getD k [] := ⟨_, rfl⟩
          rw [← htk] at HT HE3 HE1
          have HTK := Lib.hid htk
          clear htk
          rcases HT.out.at' with ⟨hq, hc⟩ | ⟨xt, hq, hxx⟩
          · subst hq
            subst hc
            obtain rfl : n = 0 := by have := HT.out.le; omega
            go_wp2_with (at_builtin; refine wpList_append_own_none (by rfl) (.tmp 38) (.tmp 42) 22 (by rfl) w.heap.size 5 i5 1 A22 HI.out _ (s + 8) _ (by rfl) HO8.out (by rfl) ?_)
            go_roundw
            case rel =>
              refine ⟨k + 1, by omega, by go_num, ?_, HB2.out⟩
              have e := HO8.out
              have hn0 : tk = [] := List.length_eq_zero_iff.1 HE3.out.symm
              rw [HE1.out, pre_step tag L k (by have := HSZ.out; omega), ← HTK.out, tpart, ← HE3.out, hn0, List.append_nil]
              exact e
            case measure => simp [intOf]; omega
          · subst hq
            clear hxx
            go_wp2_with (at_builtin; refine wpList_append_own _ (by rfl) (.tmp 38) (.tmp 42) 22 (by rfl) w.heap.size 5 i5 (.int .u8 0) 1 1 A22 HI.out HI0.out HI1.out HI2.out (by rfl) (by decide) _ (s + 8) _ (by rfl) HO8.out xt n c (vals tk) (by rfl) (by rw [vals_length, Nat.mul_one]; exact HT.out.size.symm) ((HT.out.later HB2.out).cells) (vals_one _) (by unfold maxLen; omega) (by omega) HB2.out.size ?_; intro v5 w5 hown5 hgrow5 _)
            have hb5 : Below w.heap.size w w5 := HB2.out.grown hgrow5 HB2.out.size (fun i hi => (HO8.out.lt i hi).1)
            rw [← vals_append] at hown5
            have HO5 := Lib.hid hown5
            have HB5 := Lib.hid hb5
            clear hown5 hgrow5 hb5
            go_wp2_with fail
            go_roundw
            case rel =>
              refine ⟨k + 1, by omega, by go_num, ?_, HB5.out⟩
              have e := HO5.out
              rw [HE1.out, pre_step tag L k (by have := HSZ.out; omega), ← HTK.out, tpart, ← HE3.out, ← List.append_assoc]
              rw [show s + (8 + n) = s + 8 + n from by omega]
              exact e
            case measure => simp [intOf]; omega
    · obtain rfl : len = k := by omega
      go_wp2_with fail
      go_ret
      have e := HO.out
      have h1 : 0 < tot (L.take len) := by simp only [tot, pre, List.length_cons]; omega
      obtain ⟨g, cp, rfl, _, _⟩ := e.form h1
      rw [List.take_of_length_le (by have := HSZ.out; omega)] at e ⊢
      exact ⟨_, _, _, rfl, e, HB.out⟩
end Go.Proofs.YtfkpgildeddhaaaGreat
