/- ZrSplit, ZrBlock, ZrRangesA, ZrRangesMath. -/
import Derived.Test.YtbhpmigblkaihaaM3
/- indentureref06.Split. gen_split.py writes it. -/
namespace Go.Proofs.Ytbhpmigblkaihaa.Zr
open Go.RowKit Go.Proofs.Ytbhpmigblkaihaa.Mo

/-- A box's part: the points of it whose codes begin as a corner's does, n bits and one more. -/
def pLo (L C : List Int) (n : Nat) : List Int := Zm.cutLo (Zm.rlo (Mm.cbit C) (n + 1) L.length) L
def pHi (L H C : List Int) (n : Nat) : List Int := Zm.cutHi (Zm.rhi (Mm.cbit C) (n + 1) L.length) H
/-- What Split tells of a right box. -/
def SplitPost (w : World) (L H : List Int) (e : Ending) (w' : World) : Prop := ∃ (ok : Bool) (p1 p2 p3 p4 : Option Addr) (n1 c1 n2 c2 n3 c3 n4 c4 : Nat),
  e = .returned (.tuple #[.agg #[.slice p1 n1 c1, .slice p2 n2 c2], .agg #[.slice p3 n3 c3, .slice p4 n4 c4], .bool ok]) ∧ Below w.heap.size w w' ∧
  (ok = false → (∀ i, i < 64 * L.length → Mm.cbit L i = Mm.cbit H i) ∧ (p1 = none ∧ n1 = 0 ∧ c1 = 0) ∧ (p2 = none ∧ n2 = 0 ∧ c2 = 0) ∧ (p3 = none ∧ n3 = 0 ∧ c3 = 0) ∧ (p4 = none ∧ n4 = 0 ∧ c4 = 0)) ∧
  (ok = true → ∃ n, n < 64 * L.length ∧ (∀ i, i < n → Mm.cbit L i = Mm.cbit H i) ∧ Mm.cbit L n ≠ Mm.cbit H n ∧ Ints w' p1 n1 c1 (pLo L L n) ∧ Ints w' p2 n2 c2 (pHi L H L n) ∧ Ints w' p3 n3 c3 (pLo L H n) ∧ Ints w' p4 n4 c4 (pHi L H H n) ∧ (∀ a, (p1 = some a ∨ p2 = some a ∨ p3 = some a ∨ p4 = some a) → w.heap.size ≤ a.block))
/-- The three blocks that Split lays: the box, and the two that it tells. -/
structure SH (w0 w : World) (g : Nat) (q1 q2 : Option Addr) (c1 c2 d m : Nat) (L H : List Int) : Prop where
  low : Below w0.heap.size w0 w
  a : w.heap[g]? = some (.cells #[.slice q1 d c1, .slice q2 m c2] 26 (0, 0))
  b : w.heap[g + 1]? = some (.cells #[.slice none 0 0, .slice none 0 0] 26 (0, 0))
  r : w.heap[g + 1 + 1]? = some (.cells #[.slice none 0 0, .slice none 0 0] 26 (0, 0))
  i1 : Ints w q1 d c1 L
  i2 : Ints w q2 m c2 H
theorem SH.later {w0 w w' : World} {g : Nat} {q1 q2 : Option Addr} {c1 c2 d m : Nat} {L H : List Int} (h : SH w0 w g q1 q2 c1 c2 d m L H) (hb : Below w.heap.size w w') : SH w0 w' g q1 q2 c1 c2 d m L H :=
  ⟨h.low.trans (hb.mono h.low.size), (hb.block _ (Array.getElem?_eq_some_iff.1 h.a).1).trans h.a, (hb.block _ (Array.getElem?_eq_some_iff.1 h.b).1).trans h.b, (hb.block _ (Array.getElem?_eq_some_iff.1 h.r).1).trans h.r, h.i1.later hb, h.i2.later hb⟩
theorem SH.cells {w0 w : World} {g : Nat} {q1 q2 : Option Addr} {c1 c2 d m : Nat} {L H : List Int} (h : SH w0 w g q1 q2 c1 c2 d m L H) : w.cell? ⟨g, 0, none⟩ = some (.slice q1 d c1) ∧ w.cell? ⟨g, 1, none⟩ = some (.slice q2 m c2) :=
  ⟨cell_of_row w g 0 _ _ _ h.a, cell_of_row w g 1 _ _ _ h.a⟩
theorem SH.outs {w0 w : World} {g : Nat} {q1 q2 : Option Addr} {c1 c2 d m : Nat} {L H : List Int} (h : SH w0 w g q1 q2 c1 c2 d m L H) :
    w.cell? ⟨g + 1, 0, none⟩ = some (.slice none 0 0) ∧ w.cell? ⟨g + 1, 1, none⟩ = some (.slice none 0 0) ∧ w.frozen? ⟨g + 1, 0, none⟩ = false ∧ w.frozen? ⟨g + 1, 1, none⟩ = false ∧
    w.cell? ⟨g + 1 + 1, 0, none⟩ = some (.slice none 0 0) ∧ w.cell? ⟨g + 1 + 1, 1, none⟩ = some (.slice none 0 0) ∧ w.frozen? ⟨g + 1 + 1, 0, none⟩ = false ∧ w.frozen? ⟨g + 1 + 1, 1, none⟩ = false :=
  ⟨cell_of_row w (g + 1) 0 _ _ _ h.b, cell_of_row w (g + 1) 1 _ _ _ h.b, frozen_of_row w (g + 1) _ _ _ h.b, frozen_of_row w (g + 1) _ _ _ h.b, cell_of_row w (g + 1 + 1) 0 _ _ _ h.r, cell_of_row w (g + 1 + 1) 1 _ _ _ h.r, frozen_of_row w (g + 1 + 1) _ _ _ h.r, frozen_of_row w (g + 1 + 1) _ _ _ h.r⟩
theorem sh_start {w : World} {q1 q2 : Option Addr} {c1 c2 d m : Nat} {L H : List Int} (h1 : Ints w q1 d c1 L) (h2 : Ints w q2 m c2 H) :
    SH w (((w.alloc (.cells #[.slice q1 d c1, .slice q2 m c2] 26)).alloc (.cells #[.slice none 0 0, .slice none 0 0] 26)).alloc (.cells #[.slice none 0 0, .slice none 0 0] 26)) w.heap.size q1 q2 c1 c2 d m L H := by
  have a0 := heap_alloc_new w (.cells #[.slice q1 d c1, .slice q2 m c2] 26 (0, 0))
  have b1 : Below w.heap.size w (w.alloc (.cells #[.slice q1 d c1, .slice q2 m c2] 26)) := (Below.refl _ _).alloc (Nat.le_refl _) _
  have s1 : (w.alloc (.cells #[.slice q1 d c1, .slice q2 m c2] 26)).heap.size = w.heap.size + 1 := by simp
  generalize w.alloc (.cells #[.slice q1 d c1, .slice q2 m c2] 26) = w1 at *
  have a1 := heap_alloc_new w1 (.cells #[.slice none 0 0, .slice none 0 0] 26 (0, 0))
  have b2 : Below w1.heap.size w1 (w1.alloc (.cells #[.slice none 0 0, .slice none 0 0] 26)) := (Below.refl _ _).alloc (Nat.le_refl _) _
  have s2 : (w1.alloc (.cells #[.slice none 0 0, .slice none 0 0] 26)).heap.size = w1.heap.size + 1 := by simp
  generalize w1.alloc (.cells #[.slice none 0 0, .slice none 0 0] 26) = w2 at *
  have a2 := heap_alloc_new w2 (.cells #[.slice none 0 0, .slice none 0 0] 26 (0, 0))
  have b3 : Below w2.heap.size w2 (w2.alloc (.cells #[.slice none 0 0, .slice none 0 0] 26)) := (Below.refl _ _).alloc (Nat.le_refl _) _
  generalize w2.alloc (.cells #[.slice none 0 0, .slice none 0 0] 26) = w3 at *
  have b23 := b2.trans (b3.mono (by omega))
  have b13 := b1.trans (b23.mono (by omega))
  rw [s1] at a1
  rw [s2, s1] at a2
  exact ⟨b13, (b23.block _ (by omega)).trans a0, (b3.block _ (by omega)).trans a1, a2, h1.later b13, h2.later b13⟩
theorem zret_box3 {fn : Func} {P : Ending → World → Prop} (p q u : Tmp) (hr : fn.results = #[.cell p 26, .cell q 26, .tmp u]) {tmps : Array Value} {w : World} (g k : Nat) (a b c d x : Value)
    (hp : tmps.getD p undef = .pointer (some ⟨g, 0, none⟩)) (hq : tmps.getD q undef = .pointer (some ⟨k, 0, none⟩)) (hu : tmps.getD u undef = x) (r0 : w.cell? ⟨g, 0, none⟩ = some a) (r1 : w.cell? ⟨g, 1, none⟩ = some b) (s0 : w.cell? ⟨k, 0, none⟩ = some c) (s1 : w.cell? ⟨k, 1, none⟩ = some d)
    (h : P (.returned (.tuple #[.agg #[a, b], .agg #[c, d], x])) w) : bodyPost Try.prog fn P .ret ⟨tmps, []⟩ w := by
  refine bodyPost_ret (a := ⟨tmps, []⟩) (v := .tuple #[.agg #[a, b], .agg #[c, d], x]) ?_ rfl h
  have hp' : tmps[p]?.getD undef = .pointer (some ⟨g, 0, none⟩) := by simpa using hp
  have hq' : tmps[q]?.getD undef = .pointer (some ⟨k, 0, none⟩) := by simpa using hq
  have hu' : tmps[u]?.getD undef = x := by simpa using hu
  simp [results, hr, hp', hq', hu', go_sem, r0, r1, s0, s1]
/-- The walk's own part keeps what Split holds: two stores into each of the blocks that it tells. -/
theorem SH.told {w0 w : World} {g : Nat} {q1 q2 : Option Addr} {c1 c2 d m : Nat} {L H : List Int} (h : SH w0 w g q1 q2 c1 c2 d m L H) (hg : g = w0.heap.size) (a b c e : Value) :
    ∃ w', w' = (((w.setCell ⟨g + 1, 0, none⟩ a).setCell ⟨g + 1, 1, none⟩ b).setCell ⟨g + 1 + 1, 0, none⟩ c).setCell ⟨g + 1 + 1, 1, none⟩ e ∧ Below w0.heap.size w0 w' ∧
      w'.cell? ⟨g + 1, 0, none⟩ = some a ∧ w'.cell? ⟨g + 1, 1, none⟩ = some b ∧ w'.cell? ⟨g + 1 + 1, 0, none⟩ = some c ∧ w'.cell? ⟨g + 1 + 1, 1, none⟩ = some e := by
  refine ⟨_, rfl, ?_, ?_⟩
  · exact (((h.low.setCell (by show w0.heap.size ≤ g + 1; omega) _).setCell (by show w0.heap.size ≤ g + 1; omega) _).setCell (by show w0.heap.size ≤ g + 1 + 1; omega) _).setCell (by show w0.heap.size ≤ g + 1 + 1; omega) _
  · have r1 := heap_setCell_same w (g + 1) 0 _ _ a h.b
    have r2 := heap_setCell_same _ (g + 1) 1 _ _ b r1
    have k1 : ((w.setCell ⟨g + 1, 0, none⟩ a).setCell ⟨g + 1, 1, none⟩ b).heap[g + 1 + 1]? = w.heap[g + 1 + 1]? := by
      rw [heap_setCell_other _ _ _ _ (by show g + 1 + 1 ≠ g + 1; omega), heap_setCell_other _ _ _ _ (by show g + 1 + 1 ≠ g + 1; omega)]
    have r3 := heap_setCell_same _ (g + 1 + 1) 0 _ _ c (k1.trans h.r)
    have r4 := heap_setCell_same _ (g + 1 + 1) 1 _ _ e r3
    have k2 := (show ((((w.setCell ⟨g + 1, 0, none⟩ a).setCell ⟨g + 1, 1, none⟩ b).setCell ⟨g + 1 + 1, 0, none⟩ c).setCell ⟨g + 1 + 1, 1, none⟩ e).heap[g + 1]? = ((w.setCell ⟨g + 1, 0, none⟩ a).setCell ⟨g + 1, 1, none⟩ b).heap[g + 1]? from by
      rw [heap_setCell_other _ _ _ _ (by show g + 1 ≠ g + 1 + 1; omega), heap_setCell_other _ _ _ _ (by show g + 1 ≠ g + 1 + 1; omega)]).trans r2
    exact ⟨cell_of_row _ (g + 1) 0 _ _ _ k2, cell_of_row _ (g + 1) 1 _ _ _ k2, cell_of_row _ (g + 1 + 1) 0 _ _ _ r4, cell_of_row _ (g + 1 + 1) 1 _ _ _ r4⟩
theorem ints_told {w : World} {p : Option Addr} {n c : Nat} {R : List Int} (h : Ints w p n c R) (x lo : Nat) (hlo : x + 1 + 1 < lo) (hp : ∀ a, p = some a → lo ≤ a.block) (a b k e : Value) : Ints ((((w.setCell ⟨x + 1, 0, none⟩ a).setCell ⟨x + 1, 1, none⟩ b).setCell ⟨x + 1 + 1, 0, none⟩ k).setCell ⟨x + 1 + 1, 1, none⟩ e) p n c R :=
  Zr.Ints.aside (Zr.Ints.aside (Zr.Ints.aside (Zr.Ints.aside h _ _ _ (fun y hy => by have := hp y hy; omega)) _ _ _ (fun y hy => by have := hp y hy; omega)) _ _ _ (fun y hy => by have := hp y hy; omega)) _ _ _ (fun y hy => by have := hp y hy; omega)
theorem part_meets {L H : List Int} {d k : Nat} (g8 : d ≤ 8) (lL : d = L.length) (lH : d = H.length) (hL : Mm.inI L) (hH : Mm.inI H) (hr : rightB L H d d d = true) (hk : k < 64 * d) (_he : ∀ i, i < k → Mm.cbit L i = Mm.cbit H i) :
    Zm.meets (Zm.rlo (Mm.cbit L) (k + 1) d) (Zm.rhi (Mm.cbit L) (k + 1) d) L H ∧ Zm.meets (Zm.rlo (Mm.cbit H) (k + 1) d) (Zm.rhi (Mm.cbit H) (k + 1) d) L H := by
  obtain ⟨d1, -, -, -⟩ := rightB_dims hr
  have hle := (les_iff _ _ _).1 (by rw [← rightB_les (n := d) ⟨by omega, g8⟩]; exact hr)
  have r1 := (Zm.region_iff (Mm.cbit_lt L) hL (n := k + 1) (by omega)).2 (fun i _ => rfl)
  have r2 := (Zm.region_iff (Mm.cbit_lt H) hH (n := k + 1) (by omega)).2 (fun i _ => rfl)
  rw [← lL] at r1
  rw [← lH] at r2
  exact ⟨Zm.meets_of (by rw [Zm.rlo_length]; exact lL.symm) r1 (fun i hi => ⟨Int.le_refl _, hle i (by omega)⟩), Zm.meets_of (by rw [Zm.rlo_length]; exact lH.symm) r2 (fun i hi => ⟨hle i (by omega), Int.le_refl _⟩)⟩
def RSpl (w2 : World) (L H : List Int) (d : Nat) (i : Value) (wr : World) : Prop := ∃ k j : Nat, k ≤ 64 * d ∧ i = .int .i64 k ∧ (∀ i, i < k → Mm.cbit L i = Mm.cbit H i) ∧ wr = w2.drewN j
set_option maxRecDepth 100000 in
set_option maxHeartbeats 4000000 in
theorem rsplit_any (L H : List Int) (q1 q2 : Option Addr) (d c1 c2 : Nat) (w : World) (h1 : Ints w q1 d c1 L) (h2 : Ints w q2 d c2 H) (hr : rightB L H d d d = true) :
    Calls Try.prog 18 #[.agg #[.slice q1 d c1, .slice q2 d c2]] w (SplitPost w L H) := by
  obtain ⟨hd1, hd8, -, -⟩ := rightB_dims hr
  have g1 : (1 : Nat) ≤ d := by omega
  have g8 : d ≤ 8 := by omega
  have HR := Lib.hid hr
  have LL := Lib.hid h1.size
  have LH := Lib.hid h2.size
  have hsh := sh_start h1 h2
  clear hr h1 h2
  go_enter Try.func18, Try.ntmps18
  go_upto_region 1 with fail
  generalize (((w.alloc (.cells #[.slice q1 d c1, .slice q2 d c2] 26)).alloc (.cells #[.slice none 0 0, .slice none 0 0] 26)).alloc (.cells #[.slice none 0 0, .slice none 0 0] 26)) = w1 at *
  have HF1 := Lib.hid hsh
  clear hsh
  obtain ⟨b0, b1⟩ := HF1.out.cells
  go_wp2_with fail
  refine (refright_any q1 q2 d c1 d c2 L H d w1 HF1.out.i1 HF1.out.i2).mono ?_
  rintro _ w2 ⟨rfl, hb2⟩
  rw [HR.out]
  have HF2 := Lib.hid (HF1.out.later hb2)
  clear hb2 b0 b1 HF1
  have HY := Lib.hid (show ∀ w', Below w2.heap.size w2 w' → w'.cell? ⟨w.heap.size, 0, none⟩ = some (.slice q1 d c1) ∧ w'.cell? ⟨w.heap.size, 1, none⟩ = some (.slice q2 d c2) from fun w' hb => (HF2.out.later hb).cells)
  have HB1 := Lib.hid (show ∀ w', Below w2.heap.size w2 w' → Calls Try.prog 32 #[.slice q1 d c1] w' fun e w'' => ∃ q c, e = .returned (.slice q (64 * d) c) ∧ Bytes w'' q (64 * d) c (bl L (64 * d)) ∧ Below w2.heap.size w2 w'' from fun w' hb => (bits_any L q1 d c1 w' (HF2.out.later hb).i1 g8).mono (by
    rintro e w'' ⟨v, rfl, ho, hb2⟩
    obtain ⟨q, c, rfl, hq⟩ := owns_form ho (bl_ok L _)
    exact ⟨q, c, rfl, hq, hb.trans (hb2.mono hb.size)⟩))
  have HB2 := Lib.hid (show ∀ w', Below w2.heap.size w2 w' → Calls Try.prog 32 #[.slice q2 d c2] w' fun e w'' => ∃ q c, e = .returned (.slice q (64 * d) c) ∧ Bytes w'' q (64 * d) c (bl H (64 * d)) ∧ Below w'.heap.size w' w'' from fun w' hb => (bits_any H q2 d c2 w' (HF2.out.later hb).i2 g8).mono (by
    rintro e w'' ⟨v, rfl, ho, hb2⟩
    obtain ⟨q, c, rfl, hq⟩ := owns_form ho (bl_ok H _)
    exact ⟨q, c, rfl, hq, hb2⟩))
  go_upto_region 4 with fail
  go_cut [6, 7] (fun s6 s7 wz => ∃ a5 b5 a6 b6, s6 = .slice a5 (64 * d) b5 ∧ s7 = .slice a6 (64 * d) b6 ∧ Bytes wz a5 (64 * d) b5 (bl L (64 * d)) ∧ Bytes wz a6 (64 * d) b6 (bl H (64 * d)) ∧ Below w2.heap.size w2 wz)
  case first =>
    refine wp_region_held_drew (S := fun w' => Below w2.heap.size w2 w') (by kernel_rfl) ⟨rfl, rfl, rfl, Nat.le_refl _, fun _ _ => rfl⟩ (fun hHeld => ?_)
    refine wpAnyH_take (i := 0) (oi := ⟨some 22, .fieldAddr 26 (.tmp 1) 0, _, _, _, _⟩) (v := ?_) rfl (by kernel_rfl) (by kernel_rfl) (by kernel_rfl) (fun _ _ _ h => h) (Or.inl ⟨by rfl, ?_⟩) (by assumption) ?_
    rotate_left
    · intro w' hSw
      obtain ⟨y0, y1⟩ := HY.out _ hSw
      go_simp
      try with_reducible rfl
    try simp only [Act.put, List.setIfInBounds_toArray, List.set_cons_zero, List.set_cons_succ]
    refine wpAnyH_take (i := 3) (oi := ⟨some 25, .fieldAddr 26 (.tmp 1) 1, _, _, _, _⟩) (v := ?_) rfl (by kernel_rfl) (by kernel_rfl) (by kernel_rfl) (fun _ _ _ h => h) (Or.inl ⟨by rfl, ?_⟩) (by assumption) ?_
    rotate_left
    · intro w' hSw
      obtain ⟨y0, y1⟩ := HY.out _ hSw
      go_simp
      try with_reducible rfl
    try simp only [Act.put, List.setIfInBounds_toArray, List.set_cons_zero, List.set_cons_succ]
    refine wpAnyH_take (i := 1) (oi := ⟨some 23, .load 24 (.tmp 22), _, _, _, _⟩) (v := ?_) rfl (by kernel_rfl) (by kernel_rfl) (by kernel_rfl) (fun _ _ _ h => h) (Or.inl ⟨by rfl, ?_⟩) (by assumption) ?_
    rotate_left
    · intro w' hSw
      obtain ⟨y0, y1⟩ := HY.out _ hSw
      go_simp
      try with_reducible rfl
    try simp only [Act.put, List.setIfInBounds_toArray, List.set_cons_zero, List.set_cons_succ]
    refine wpAnyH_take (i := 4) (oi := ⟨some 26, .load 24 (.tmp 25), _, _, _, _⟩) (v := ?_) rfl (by kernel_rfl) (by kernel_rfl) (by kernel_rfl) (fun _ _ _ h => h) (Or.inl ⟨by rfl, ?_⟩) (by assumption) ?_
    rotate_left
    · intro w' hSw
      obtain ⟨y0, y1⟩ := HY.out _ hSw
      go_simp
      try with_reducible rfl
    try simp only [Act.put, List.setIfInBounds_toArray, List.set_cons_zero, List.set_cons_succ]
    refine wpAnyH_ready (rs := [2]) (by kernel_rfl) (by simp) ?_
    refine AllReadyH.cons (o := ⟨some 24, .call ⟨.value (.func 32), #[.tmp 23], #[24]⟩, _, _, _, _⟩) rfl (fun K hK => ?_) AllReadyH.nil
    go_simp
    with_reducible refine (HB1.out _ ?hx1).mono ?_
    case hx1 => exact hHeld
    rintro _ w5 ⟨a5, b5, rfl, hl5, hs5⟩
    try go_wp2_with fail
    try go_wp2_with fail
    refine hK.out _ _ hs5 (fun hHeld => ?_)
    clear hK K
    try simp only [Act.put, List.setIfInBounds_toArray, List.set_cons_zero, List.set_cons_succ]
    refine wpAnyH_ready (rs := [5]) (by kernel_rfl) (by simp) ?_
    refine AllReadyH.cons (o := ⟨some 27, .call ⟨.value (.func 32), #[.tmp 26], #[24]⟩, _, _, _, _⟩) rfl (fun K hK => ?_) AllReadyH.nil
    go_simp
    with_reducible refine (HB2.out _ ?hx2).mono ?_
    case hx2 => exact hHeld
    rintro _ w6 ⟨a6, b6, rfl, hl6, hb6⟩
    have hs6 : Below w2.heap.size w2 w6 := hHeld.trans (hb6.mono hHeld.size)
    have hl5 := hl5.later hb6 hl5.lt
    try go_wp2_with fail
    try go_wp2_with fail
    refine hK.out _ _ hs6 (fun hHeld => ?_)
    clear hK K
    try simp only [Act.put, List.setIfInBounds_toArray, List.set_cons_zero, List.set_cons_succ]
    refine wpAnyH_take (i := 6) (oi := ⟨some 6, .assign (.tmp 24), _, _, _, _⟩) (v := ?_) rfl (by kernel_rfl) (by kernel_rfl) (by kernel_rfl) (fun _ _ _ h => h) (Or.inl ⟨by rfl, ?_⟩) (by assumption) ?_
    rotate_left
    · intro w' hSw
      obtain ⟨y0, y1⟩ := HY.out _ hSw
      go_simp
      try with_reducible rfl
    try simp only [Act.put, List.setIfInBounds_toArray, List.set_cons_zero, List.set_cons_succ]
    refine wpAnyH_take (i := 7) (oi := ⟨some 7, .assign (.tmp 27), _, _, _, _⟩) (v := ?_) rfl (by kernel_rfl) (by kernel_rfl) (by kernel_rfl) (fun _ _ _ h => h) (Or.inl ⟨by rfl, ?_⟩) (by assumption) ?_
    rotate_left
    · intro w' hSw
      obtain ⟨y0, y1⟩ := HY.out _ hSw
      go_simp
      try with_reducible rfl
    try simp only [Act.put, List.setIfInBounds_toArray, List.set_cons_zero, List.set_cons_succ]
    refine wpAnyH_done (by kernel_rfl) ?_ _
    go_wp2_with fail
    go_meet
    exact ⟨a5, b5, a6, b6, rfl, rfl, hl5, hl6, hs6⟩
  case rest =>
    obtain ⟨a5, b5, a6, b6, rfl, rfl, hl5, hl6, hbz⟩ := hcut
    obtain ⟨w3, hw3⟩ : ∃ w3, w3 = wc := ⟨_, rfl⟩
    rw [← hw3] at hl5 hl6 hbz ⊢
    clear hw3
    have M1 := Lib.hid hl5
    have M2 := Lib.hid hl6
    have HF3 := Lib.hid (HF2.out.later hbz)
    clear hl5 hl6 hbz HB1 HB2 HY HF2
    go_wp2_with fail
    go_loopw [8] (fun i wr => RSpl w3 L H d i wr) (fun i _ => 64 * d - (intOf i).toNat)
    case atStart => exact ⟨0, 0, by omega, rfl, fun i hi => by omega, rfl⟩
    case round =>
      obtain ⟨k, j, hk, rfl, hal, rfl⟩ := hrel
      have HAL := Lib.hid hal
      clear hal
      by_cases hlt : k < 64 * d
      · obtain ⟨ga, oa, rfl, hxa⟩ := M1.out.ne (by intro e; have := bl_length L (64 * d); rw [e] at this; simp at this; omega)
        obtain ⟨gb, ob, rfl, hxb⟩ := M2.out.ne (by intro e; have := bl_length H (64 * d); rw [e] at this; simp at this; omega)
        have ca := hxa k (by rw [bl_length]; exact hlt)
        have cb := hxb k (by rw [bl_length]; exact hlt)
        rw [bl_get _ _ _ hlt] at ca cb
        have i1 : (k : Int) < 64 * d := by omega
        have i2 : (k : Int) < ((64 * d : Nat) : Int) := by omega
        obtain ⟨x, hx⟩ : ∃ x, Mm.cbit L k = x := ⟨_, rfl⟩
        obtain ⟨y, hy⟩ : ∃ y, Mm.cbit H k = y := ⟨_, rfl⟩
        rw [hx] at ca
        rw [hy] at cb
        have HX := Lib.hid hx
        have HY := Lib.hid hy
        clear hx hy hxa hxb
        by_cases hxy : x = y
        · subst hxy
          go_upto_region 6 with fail
          go_quiet (fail)
          go_wp2_with fail
          go_roundw
          case rel => exact ⟨k + 1, j + nq, by omega, by go_num, fun i hi => by
            by_cases e : i = k
            · subst e; exact HX.out.trans HY.out.symm
            · exact HAL.out i (by omega), rfl⟩
          case measure => simp [intOf] <;> omega
        · have hne : ((x : Int) == (y : Int)) = false := by simp; omega
          go_upto_region 6 with fail
          go_quiet (fail)
          have hbd : Below w3.heap.size w3 (w3.drewN (j + nq)) := Below.drewN (Below.refl _ _) _
          have HF4 := Lib.hid (HF3.out.later hbd)
          have N1 := Lib.hid (M1.out.later hbd M1.out.lt)
          have N2 := Lib.hid (M2.out.later hbd M2.out.lt)
          clear hbd HF3 M1 M2 ca cb
          try simp only [World.drewN_drewN]
          generalize w3.drewN (j + nq) = w4 at *
          have hnk : ((k : Int) == 64 * (d : Int)) = false := by simp; omega
          have hnk2 : ¬ (k : Int) = 64 * (d : Int) := by omega
          have hwj : IntKind.i64.wrap ((k : Int) + 1) = (k : Int) + 1 := by
            rw [IntKind.wrap_i64]
            omega
          have HNE := Lib.hid (show Mm.cbit L k ≠ Mm.cbit H k from by rw [HX.out, HY.out]; exact hxy)
          clear HX HY hxy hne
          have HRG := Lib.hid (show ∀ w', Below w4.heap.size w4 w' → Calls Try.prog 30 #[.slice (some ⟨ga, oa, none⟩) (64 * d) b5, .int .i64 ((k : Int) + 1), .int .i64 d] w' fun e w'' => ∃ p5 a5 q5 b5, e = .returned (.agg #[.slice p5 d a5, .slice q5 d b5]) ∧ Ints w'' p5 d a5 (Zm.rlo (Mm.cbit L) (k + 1) d) ∧ Ints w'' q5 d b5 (Zm.rhi (Mm.cbit L) (k + 1) d) ∧ Below w'.heap.size w' w'' from fun w' hb => by
            have e1 : (k : Int) + 1 = ((k + 1 : Nat) : Int) := by omega
            rw [e1]
            have hg := rlo_congr (g := fB (bl L (64 * d))) (h := Mm.cbit L) (m := k + 1) (d := d) (fun i hi => bl_get L (64 * d) i (by omega))
            refine (region_any (bl L (64 * d)) (bl_two L _) (some ⟨ga, oa, none⟩) (64 * d) b5 (k + 1) d w' (N1.out.later hb N1.out.lt) (by omega) g8 (by omega)).mono ?_
            rintro e w'' ⟨v, rfl, p5, a5, q5, b5, rfl, h1, h2, h3⟩
            rw [Zm.rlo_length, hg.1] at h1
            rw [Zm.rhi_length, hg.2] at h2
            rw [Zm.rlo_length, Zm.rhi_length]
            exact ⟨p5, a5, q5, b5, rfl, h1, h2, h3⟩)
          have HCT := Lib.hid (show ∀ w' p5 a5 q5 b5, Below w4.heap.size w4 w' → Ints w' p5 d a5 (Zm.rlo (Mm.cbit L) (k + 1) d) → Ints w' q5 d b5 (Zm.rhi (Mm.cbit L) (k + 1) d) → Calls Try.prog 29 #[.agg #[.slice p5 d a5, .slice q5 d b5], .agg #[.slice q1 d c1, .slice q2 d c2]] w' (CutPost w' (Zm.rlo (Mm.cbit L) (k + 1) d) (Zm.rhi (Mm.cbit L) (k + 1) d) L H) from fun w' p5 a5 q5 b5 hb h1 h2 => rcut_any p5 q5 q1 q2 a5 b5 c1 c2 d _ _ L H w' h1 h2 (HF4.out.later hb).i1 (HF4.out.later hb).i2 (region_right (Mm.cbit_lt L) (k + 1) d g1 g8) HR.out)
          have HY := Lib.hid (show ∀ w', Below w4.heap.size w4 w' → w'.cell? ⟨w.heap.size, 0, none⟩ = some (.slice q1 d c1) ∧ w'.cell? ⟨w.heap.size, 1, none⟩ = some (.slice q2 d c2) from fun w' hb => (HF4.out.later hb).cells)
          go_upto_region 10 with fail
          go_cut [9, 10] (fun s9 s10 wz => ∃ (g : Nat) (p6 p7 : Option Addr) (n6 a6 n7 a7 : Nat) (ok : Bool), s9 = .pointer (some ⟨g, 0, none⟩) ∧ s10 = .bool ok ∧ wz.cell? ⟨g, 0, none⟩ = some (.slice p6 n6 a6) ∧ wz.cell? ⟨g, 1, none⟩ = some (.slice p7 n7 a7) ∧ Below w4.heap.size w4 wz ∧ w4.heap.size ≤ g ∧ (ok = true → Zm.meets (Zm.rlo (Mm.cbit L) (k + 1) d) (Zm.rhi (Mm.cbit L) (k + 1) d) L H ∧ Ints wz p6 n6 a6 (Zm.cutLo (Zm.rlo (Mm.cbit L) (k + 1) d) L) ∧ Ints wz p7 n7 a7 (Zm.cutHi (Zm.rhi (Mm.cbit L) (k + 1) d) H) ∧ (∀ a, p6 = some a → w4.heap.size ≤ a.block) ∧ (∀ a, p7 = some a → w4.heap.size ≤ a.block)) ∧ (ok = false → ¬ Zm.meets (Zm.rlo (Mm.cbit L) (k + 1) d) (Zm.rhi (Mm.cbit L) (k + 1) d) L H))
          case first =>
            refine wp_region_held_drew (S := fun w' => Below w4.heap.size w4 w') (by kernel_rfl) ⟨rfl, rfl, rfl, Nat.le_refl _, fun _ _ => rfl⟩ (fun hHeld => ?_)
            refine wpAnyH_take (i := 0) (oi := ⟨some 52, .move (.tmp 6), _, _, _, _⟩) (v := ?_) rfl (by kernel_rfl) (by kernel_rfl) (by kernel_rfl) (fun _ _ _ h => h) (Or.inl ⟨by rfl, ?_⟩) (by assumption) ?_
            rotate_left
            · intro w' hSw
              go_simp
              try with_reducible rfl
            try simp only [Act.put, List.setIfInBounds_toArray, List.set_cons_zero, List.set_cons_succ]
            refine wpAnyH_take (i := 1) (oi := ⟨some 53, .move (.tmp 8), _, _, _, _⟩) (v := ?_) rfl (by kernel_rfl) (by kernel_rfl) (by kernel_rfl) (fun _ _ _ h => h) (Or.inl ⟨by rfl, ?_⟩) (by assumption) ?_
            rotate_left
            · intro w' hSw
              go_simp
              try with_reducible rfl
            try simp only [Act.put, List.setIfInBounds_toArray, List.set_cons_zero, List.set_cons_succ]
            refine wpAnyH_take (i := 2) (oi := ⟨some 54, .binOp .add 3 (.tmp 53) (.const (.int .i64 1)) 3, _, _, _, _⟩) (v := ?_) rfl (by kernel_rfl) (by kernel_rfl) (by kernel_rfl) (fun _ _ _ h => h) (Or.inl ⟨by rfl, ?_⟩) (by assumption) ?_
            rotate_left
            · intro w' hSw
              go_simp
              try with_reducible rfl
            try simp only [Act.put, List.setIfInBounds_toArray, List.set_cons_zero, List.set_cons_succ]
            refine wpAnyH_take (i := 3) (oi := ⟨some 55, .move (.tmp 5), _, _, _, _⟩) (v := ?_) rfl (by kernel_rfl) (by kernel_rfl) (by kernel_rfl) (fun _ _ _ h => h) (Or.inl ⟨by rfl, ?_⟩) (by assumption) ?_
            rotate_left
            · intro w' hSw
              go_simp
              try with_reducible rfl
            try simp only [Act.put, List.setIfInBounds_toArray, List.set_cons_zero, List.set_cons_succ]
            refine wpAnyH_take (i := 5) (oi := ⟨some 57, .load 26 (.tmp 1), _, _, _, _⟩) (v := ?_) rfl (by kernel_rfl) (by kernel_rfl) (by kernel_rfl) (fun _ _ _ h => h) (Or.inl ⟨by rfl, ?_⟩) (by assumption) ?_
            rotate_left
            · intro w' hSw
              obtain ⟨y0, y1⟩ := HY.out _ hSw
              go_simp
              try with_reducible rfl
            try simp only [Act.put, List.setIfInBounds_toArray, List.set_cons_zero, List.set_cons_succ]
            refine wpAnyH_ready (rs := [4, 10]) (by kernel_rfl) (by simp) ?_
            refine AllReadyH.cons (o := ⟨some 56, .call ⟨.value (.func 30), #[.tmp 52, .tmp 54, .tmp 55], #[22, 3, 3]⟩, _, _, _, _⟩) rfl (fun K hK => ?_) (AllReadyH.cons (o := ⟨some 9, .alloc 26, _, _, _, _⟩) rfl (fun K hK => ?_) AllReadyH.nil)
            ·
              go_simp
              with_reducible refine (HRG.out _ ?hx79).mono ?_
              case hx79 => exact hHeld
              rintro _ w5 ⟨p5, a5, q5, b5, rfl, hl5, hh5, hb5⟩
              have hw5 : Below w4.heap.size w4 w5 := hHeld.trans (hb5.mono hHeld.size)
              try go_wp2_with fail
              refine hK.out _ _ hw5 (fun hHeld => ?_)
              clear hK K
              try simp only [Act.put, List.setIfInBounds_toArray, List.set_cons_zero, List.set_cons_succ]
              refine wpAnyH_ready (rs := [6, 10]) (by kernel_rfl) (by simp) ?_
              refine AllReadyH.cons (o := ⟨some 58, .call ⟨.value (.func 29), #[.tmp 56, .tmp 57], #[26, 26]⟩, _, _, _, _⟩) rfl (fun K hK => ?_) (AllReadyH.cons (o := ⟨some 9, .alloc 26, _, _, _, _⟩) rfl (fun K hK => ?_) AllReadyH.nil)
              ·
                go_simp
                with_reducible refine (HCT.out _ p5 a5 q5 b5 ?hx81 ?hy81 ?hz81).mono ?_
                case hx81 => exact hHeld
                case hy81 => exact hl5
                case hz81 => exact hh5
                rintro _ w6 ⟨ok, p6, p7, n6, a6, n7, a7, rfl, hb6, hy6, hn6⟩
                have hw6 : Below w4.heap.size w4 w6 := hHeld.trans (hb6.mono hHeld.size)
                try go_wp2_with fail
                refine hK.out _ _ hw6 (fun hHeld => ?_)
                clear hK K
                try simp only [Act.put, List.setIfInBounds_toArray, List.set_cons_zero, List.set_cons_succ]
                refine wpAnyH_take (i := 7) (oi := ⟨some 51, .move (.tmp 58), _, _, _, _⟩) (v := ?_) rfl (by kernel_rfl) (by kernel_rfl) (by kernel_rfl) (fun _ _ _ h => h) (Or.inl ⟨by rfl, ?_⟩) (by assumption) ?_
                rotate_left
                · intro w' hSw
                  go_simp
                  try with_reducible rfl
                try simp only [Act.put, List.setIfInBounds_toArray, List.set_cons_zero, List.set_cons_succ]
                refine wpAnyH_take (i := 8) (oi := ⟨some 59, .extract (.tmp 51) 0, _, _, _, _⟩) (v := ?_) rfl (by kernel_rfl) (by kernel_rfl) (by kernel_rfl) (fun _ _ _ h => h) (Or.inl ⟨by rfl, ?_⟩) (by assumption) ?_
                rotate_left
                · intro w' hSw
                  go_simp
                  try with_reducible rfl
                try simp only [Act.put, List.setIfInBounds_toArray, List.set_cons_zero, List.set_cons_succ]
                refine wpAnyH_take (i := 9) (oi := ⟨some 60, .extract (.tmp 51) 1, _, _, _, _⟩) (v := ?_) rfl (by kernel_rfl) (by kernel_rfl) (by kernel_rfl) (fun _ _ _ h => h) (Or.inl ⟨by rfl, ?_⟩) (by assumption) ?_
                rotate_left
                · intro w' hSw
                  go_simp
                  try with_reducible rfl
                try simp only [Act.put, List.setIfInBounds_toArray, List.set_cons_zero, List.set_cons_succ]
                refine wpAnyH_ready (rs := [10]) (by kernel_rfl) (by simp) ?_
                refine AllReadyH.cons (o := ⟨some 9, .alloc 26, _, _, _, _⟩) rfl (fun K hK => ?_) AllReadyH.nil
                go_simp
                try go_wp2_with fail
                refine hK.out _ _ (hHeld.alloc hHeld.size _) (fun hHeld => ?_)
                clear hK K
                try simp only [Act.put, List.setIfInBounds_toArray, List.set_cons_zero, List.set_cons_succ]
                have hrow : (w6.alloc (.cells #[.slice none 0 0, .slice none 0 0] 26)).heap[w6.heap.size]? = some (.cells #[.slice none 0 0, .slice none 0 0] 26 (0, 0)) := heap_alloc_new w6 _
                have hbA : Below w6.heap.size w6 (w6.alloc (.cells #[.slice none 0 0, .slice none 0 0] 26)) := (Below.refl _ _).alloc (Nat.le_refl _) _
                have hsA : (w6.alloc (.cells #[.slice none 0 0, .slice none 0 0] 26)).heap.size = w6.heap.size + 1 := by
                  show (w6.alloc (.cells #[.slice none 0 0, .slice none 0 0] 26)).heap.size = w6.heap.size + 1
                  simp
                have hgW : w4.heap.size ≤ w6.heap.size := by have := hw6.size; omega
                generalize (w6.alloc (.cells #[.slice none 0 0, .slice none 0 0] 26)) = wa at *
                have hc0 : wa.cell? ⟨w6.heap.size, 0, none⟩ = some (.slice none 0 0) := cell_of_row wa w6.heap.size 0 _ _ _ hrow
                have hc1 : wa.cell? ⟨w6.heap.size, 1, none⟩ = some (.slice none 0 0) := cell_of_row wa w6.heap.size 1 _ _ _ hrow
                have hf0 : wa.frozen? ⟨w6.heap.size, 0, none⟩ = false := frozen_of_row wa w6.heap.size _ _ _ hrow
                have hf1 : wa.frozen? ⟨w6.heap.size, 1, none⟩ = false := frozen_of_row wa w6.heap.size _ _ _ hrow
                refine wpAnyH_ready (rs := [11]) (by kernel_rfl) (by simp) ?_
                refine AllReadyH.cons (o := ⟨none, .store 26 (.tmp 9) (.tmp 59), _, _, _, _⟩) rfl (fun K hK => ?_) AllReadyH.nil
                go_simp
                try go_wp2_with fail
                refine hK.out _ _ ((hHeld.setCell hgW _).setCell hgW _) (fun hHeld => ?_)
                clear hK K
                try simp only [Act.put, List.setIfInBounds_toArray, List.set_cons_zero, List.set_cons_succ]
                refine wpAnyH_take (i := 12) (oi := ⟨some 10, .assign (.tmp 60), _, _, _, _⟩) (v := ?_) rfl (by kernel_rfl) (by kernel_rfl) (by kernel_rfl) (fun _ _ _ h => h) (Or.inl ⟨by rfl, ?_⟩) (by assumption) ?_
                rotate_left
                · intro w' hSw
                  go_simp
                  try with_reducible rfl
                try simp only [Act.put, List.setIfInBounds_toArray, List.set_cons_zero, List.set_cons_succ]
                refine wpAnyH_done (by kernel_rfl) ?_ _
                go_wp2_with fail
                go_meet
                have hr1 := heap_setCell_same wa w6.heap.size 0 _ _ (.slice p6 n6 a6) hrow
                have hr2 := heap_setCell_same _ w6.heap.size 1 _ _ (.slice p7 n7 a7) hr1
                refine ⟨w6.heap.size, p6, p7, n6, a6, n7, a7, ok, rfl, rfl, cell_of_row _ w6.heap.size 0 _ _ _ hr2, cell_of_row _ w6.heap.size 1 _ _ _ hr2, hHeld, hgW, fun h => ?_, hn6⟩
                obtain ⟨m1, m2, m3, m4, m5⟩ := hy6 h
                have hfin := (hbA.setCell (p := ⟨w6.heap.size, 0, none⟩) (Nat.le_refl _) (.slice p6 n6 a6)).setCell (p := ⟨w6.heap.size, 1, none⟩) (Nat.le_refl _) (.slice p7 n7 a7)
                exact ⟨m1, m2.later hfin, m3.later hfin, fun a e => by have := m4 a e; have := hw5.size; omega, fun a e => by have := m5 a e; have := hw5.size; omega⟩
              ·
                go_simp
                try go_wp2_with fail
                refine hK.out _ _ (hHeld.alloc hHeld.size _) (fun hHeld => ?_)
                clear hK K
                try simp only [Act.put, List.setIfInBounds_toArray, List.set_cons_zero, List.set_cons_succ]
                have hrow : (w5.alloc (.cells #[.slice none 0 0, .slice none 0 0] 26)).heap[w5.heap.size]? = some (.cells #[.slice none 0 0, .slice none 0 0] 26 (0, 0)) := heap_alloc_new w5 _
                have hbA : Below w5.heap.size w5 (w5.alloc (.cells #[.slice none 0 0, .slice none 0 0] 26)) := (Below.refl _ _).alloc (Nat.le_refl _) _
                have hsA : (w5.alloc (.cells #[.slice none 0 0, .slice none 0 0] 26)).heap.size = w5.heap.size + 1 := by
                  show (w5.alloc (.cells #[.slice none 0 0, .slice none 0 0] 26)).heap.size = w5.heap.size + 1
                  simp
                have hgW : w4.heap.size ≤ w5.heap.size := by have := hw5.size; omega
                have hl5 := hl5.later hbA
                have hh5 := hh5.later hbA
                generalize (w5.alloc (.cells #[.slice none 0 0, .slice none 0 0] 26)) = wa at *
                refine wpAnyH_ready (rs := [6]) (by kernel_rfl) (by simp) ?_
                refine AllReadyH.cons (o := ⟨some 58, .call ⟨.value (.func 29), #[.tmp 56, .tmp 57], #[26, 26]⟩, _, _, _, _⟩) rfl (fun K hK => ?_) AllReadyH.nil
                go_simp
                with_reducible refine (HCT.out _ p5 a5 q5 b5 ?hx81 ?hy81 ?hz81).mono ?_
                case hx81 => exact hHeld
                case hy81 => exact hl5
                case hz81 => exact hh5
                rintro _ w6 ⟨ok, p6, p7, n6, a6, n7, a7, rfl, hb6, hy6, hn6⟩
                have hw6 : Below w4.heap.size w4 w6 := hHeld.trans (hb6.mono hHeld.size)
                have hrow := (hb6.block _ (Array.getElem?_eq_some_iff.1 hrow).1).trans hrow
                have hlt5 := hb6.size
                try go_wp2_with fail
                refine hK.out _ _ hw6 (fun hHeld => ?_)
                clear hK K
                try simp only [Act.put, List.setIfInBounds_toArray, List.set_cons_zero, List.set_cons_succ]
                refine wpAnyH_take (i := 7) (oi := ⟨some 51, .move (.tmp 58), _, _, _, _⟩) (v := ?_) rfl (by kernel_rfl) (by kernel_rfl) (by kernel_rfl) (fun _ _ _ h => h) (Or.inl ⟨by rfl, ?_⟩) (by assumption) ?_
                rotate_left
                · intro w' hSw
                  go_simp
                  try with_reducible rfl
                try simp only [Act.put, List.setIfInBounds_toArray, List.set_cons_zero, List.set_cons_succ]
                refine wpAnyH_take (i := 8) (oi := ⟨some 59, .extract (.tmp 51) 0, _, _, _, _⟩) (v := ?_) rfl (by kernel_rfl) (by kernel_rfl) (by kernel_rfl) (fun _ _ _ h => h) (Or.inl ⟨by rfl, ?_⟩) (by assumption) ?_
                rotate_left
                · intro w' hSw
                  go_simp
                  try with_reducible rfl
                try simp only [Act.put, List.setIfInBounds_toArray, List.set_cons_zero, List.set_cons_succ]
                refine wpAnyH_take (i := 9) (oi := ⟨some 60, .extract (.tmp 51) 1, _, _, _, _⟩) (v := ?_) rfl (by kernel_rfl) (by kernel_rfl) (by kernel_rfl) (fun _ _ _ h => h) (Or.inl ⟨by rfl, ?_⟩) (by assumption) ?_
                rotate_left
                · intro w' hSw
                  go_simp
                  try with_reducible rfl
                try simp only [Act.put, List.setIfInBounds_toArray, List.set_cons_zero, List.set_cons_succ]
                have hc0 : w6.cell? ⟨w5.heap.size, 0, none⟩ = some (.slice none 0 0) := cell_of_row w6 w5.heap.size 0 _ _ _ hrow
                have hc1 : w6.cell? ⟨w5.heap.size, 1, none⟩ = some (.slice none 0 0) := cell_of_row w6 w5.heap.size 1 _ _ _ hrow
                have hf0 : w6.frozen? ⟨w5.heap.size, 0, none⟩ = false := frozen_of_row w6 w5.heap.size _ _ _ hrow
                have hf1 : w6.frozen? ⟨w5.heap.size, 1, none⟩ = false := frozen_of_row w6 w5.heap.size _ _ _ hrow
                refine wpAnyH_ready (rs := [11]) (by kernel_rfl) (by simp) ?_
                refine AllReadyH.cons (o := ⟨none, .store 26 (.tmp 9) (.tmp 59), _, _, _, _⟩) rfl (fun K hK => ?_) AllReadyH.nil
                go_simp
                try go_wp2_with fail
                refine hK.out _ _ ((hHeld.setCell hgW _).setCell hgW _) (fun hHeld => ?_)
                clear hK K
                try simp only [Act.put, List.setIfInBounds_toArray, List.set_cons_zero, List.set_cons_succ]
                refine wpAnyH_take (i := 12) (oi := ⟨some 10, .assign (.tmp 60), _, _, _, _⟩) (v := ?_) rfl (by kernel_rfl) (by kernel_rfl) (by kernel_rfl) (fun _ _ _ h => h) (Or.inl ⟨by rfl, ?_⟩) (by assumption) ?_
                rotate_left
                · intro w' hSw
                  go_simp
                  try with_reducible rfl
                try simp only [Act.put, List.setIfInBounds_toArray, List.set_cons_zero, List.set_cons_succ]
                refine wpAnyH_done (by kernel_rfl) ?_ _
                go_wp2_with fail
                go_meet
                have hr1 := heap_setCell_same w6 w5.heap.size 0 _ _ (.slice p6 n6 a6) hrow
                have hr2 := heap_setCell_same _ w5.heap.size 1 _ _ (.slice p7 n7 a7) hr1
                refine ⟨w5.heap.size, p6, p7, n6, a6, n7, a7, ok, rfl, rfl, cell_of_row _ w5.heap.size 0 _ _ _ hr2, cell_of_row _ w5.heap.size 1 _ _ _ hr2, hHeld, hgW, fun h => ?_, hn6⟩
                obtain ⟨m1, m2, m3, m4, m5⟩ := hy6 h
                exact ⟨m1, Zr.Ints.aside (Zr.Ints.aside m2 _ _ _ (fun a e => by have := m4 a e; omega)) _ _ _ (fun a e => by have := m4 a e; omega), Zr.Ints.aside (Zr.Ints.aside m3 _ _ _ (fun a e => by have := m5 a e; omega)) _ _ _ (fun a e => by have := m5 a e; omega), fun a e => by have := m4 a e; have := hw5.size; omega, fun a e => by have := m5 a e; have := hw5.size; omega⟩
            ·
              go_simp
              try go_wp2_with fail
              refine hK.out _ _ ((Below.refl _ _).alloc (Nat.le_refl _) _).drew (fun hHeld => ?_)
              clear hK K
              try simp only [Act.put, List.setIfInBounds_toArray, List.set_cons_zero, List.set_cons_succ]
              have hrow : (w4.alloc (.cells #[.slice none 0 0, .slice none 0 0] 26)).drew.heap[w4.heap.size]? = some (.cells #[.slice none 0 0, .slice none 0 0] 26 (0, 0)) := heap_alloc_new w4 _
              have hbA : Below w4.heap.size w4 (w4.alloc (.cells #[.slice none 0 0, .slice none 0 0] 26)).drew := ((Below.refl _ _).alloc (Nat.le_refl _) _).drew
              have hsA : (w4.alloc (.cells #[.slice none 0 0, .slice none 0 0] 26)).drew.heap.size = w4.heap.size + 1 := by
                show (w4.alloc (.cells #[.slice none 0 0, .slice none 0 0] 26)).heap.size = w4.heap.size + 1
                simp
              have hgW : w4.heap.size ≤ w4.heap.size := by have := Nat.le_refl w4.heap.size; omega
              generalize (w4.alloc (.cells #[.slice none 0 0, .slice none 0 0] 26)).drew = wa at *
              refine wpAnyH_ready (rs := [4]) (by kernel_rfl) (by simp) ?_
              refine AllReadyH.cons (o := ⟨some 56, .call ⟨.value (.func 30), #[.tmp 52, .tmp 54, .tmp 55], #[22, 3, 3]⟩, _, _, _, _⟩) rfl (fun K hK => ?_) AllReadyH.nil
              go_simp
              with_reducible refine (HRG.out _ ?hx79).mono ?_
              case hx79 => exact hHeld
              rintro _ w5 ⟨p5, a5, q5, b5, rfl, hl5, hh5, hb5⟩
              have hw5 : Below w4.heap.size w4 w5 := hHeld.trans (hb5.mono hHeld.size)
              have hrow := (hb5.block _ (Array.getElem?_eq_some_iff.1 hrow).1).trans hrow
              have hltA := hb5.size
              try go_wp2_with fail
              refine hK.out _ _ hw5 (fun hHeld => ?_)
              clear hK K
              try simp only [Act.put, List.setIfInBounds_toArray, List.set_cons_zero, List.set_cons_succ]
              refine wpAnyH_ready (rs := [6]) (by kernel_rfl) (by simp) ?_
              refine AllReadyH.cons (o := ⟨some 58, .call ⟨.value (.func 29), #[.tmp 56, .tmp 57], #[26, 26]⟩, _, _, _, _⟩) rfl (fun K hK => ?_) AllReadyH.nil
              go_simp
              with_reducible refine (HCT.out _ p5 a5 q5 b5 ?hx81 ?hy81 ?hz81).mono ?_
              case hx81 => exact hHeld
              case hy81 => exact hl5
              case hz81 => exact hh5
              rintro _ w6 ⟨ok, p6, p7, n6, a6, n7, a7, rfl, hb6, hy6, hn6⟩
              have hw6 : Below w4.heap.size w4 w6 := hHeld.trans (hb6.mono hHeld.size)
              have hrow := (hb6.block _ (Array.getElem?_eq_some_iff.1 hrow).1).trans hrow
              have hlt5 := hb6.size
              try go_wp2_with fail
              refine hK.out _ _ hw6 (fun hHeld => ?_)
              clear hK K
              try simp only [Act.put, List.setIfInBounds_toArray, List.set_cons_zero, List.set_cons_succ]
              refine wpAnyH_take (i := 7) (oi := ⟨some 51, .move (.tmp 58), _, _, _, _⟩) (v := ?_) rfl (by kernel_rfl) (by kernel_rfl) (by kernel_rfl) (fun _ _ _ h => h) (Or.inl ⟨by rfl, ?_⟩) (by assumption) ?_
              rotate_left
              · intro w' hSw
                go_simp
                try with_reducible rfl
              try simp only [Act.put, List.setIfInBounds_toArray, List.set_cons_zero, List.set_cons_succ]
              refine wpAnyH_take (i := 8) (oi := ⟨some 59, .extract (.tmp 51) 0, _, _, _, _⟩) (v := ?_) rfl (by kernel_rfl) (by kernel_rfl) (by kernel_rfl) (fun _ _ _ h => h) (Or.inl ⟨by rfl, ?_⟩) (by assumption) ?_
              rotate_left
              · intro w' hSw
                go_simp
                try with_reducible rfl
              try simp only [Act.put, List.setIfInBounds_toArray, List.set_cons_zero, List.set_cons_succ]
              refine wpAnyH_take (i := 9) (oi := ⟨some 60, .extract (.tmp 51) 1, _, _, _, _⟩) (v := ?_) rfl (by kernel_rfl) (by kernel_rfl) (by kernel_rfl) (fun _ _ _ h => h) (Or.inl ⟨by rfl, ?_⟩) (by assumption) ?_
              rotate_left
              · intro w' hSw
                go_simp
                try with_reducible rfl
              try simp only [Act.put, List.setIfInBounds_toArray, List.set_cons_zero, List.set_cons_succ]
              have hc0 : w6.cell? ⟨w4.heap.size, 0, none⟩ = some (.slice none 0 0) := cell_of_row w6 w4.heap.size 0 _ _ _ hrow
              have hc1 : w6.cell? ⟨w4.heap.size, 1, none⟩ = some (.slice none 0 0) := cell_of_row w6 w4.heap.size 1 _ _ _ hrow
              have hf0 : w6.frozen? ⟨w4.heap.size, 0, none⟩ = false := frozen_of_row w6 w4.heap.size _ _ _ hrow
              have hf1 : w6.frozen? ⟨w4.heap.size, 1, none⟩ = false := frozen_of_row w6 w4.heap.size _ _ _ hrow
              refine wpAnyH_ready (rs := [11]) (by kernel_rfl) (by simp) ?_
              refine AllReadyH.cons (o := ⟨none, .store 26 (.tmp 9) (.tmp 59), _, _, _, _⟩) rfl (fun K hK => ?_) AllReadyH.nil
              go_simp
              try go_wp2_with fail
              refine hK.out _ _ ((hHeld.setCell hgW _).setCell hgW _) (fun hHeld => ?_)
              clear hK K
              try simp only [Act.put, List.setIfInBounds_toArray, List.set_cons_zero, List.set_cons_succ]
              refine wpAnyH_take (i := 12) (oi := ⟨some 10, .assign (.tmp 60), _, _, _, _⟩) (v := ?_) rfl (by kernel_rfl) (by kernel_rfl) (by kernel_rfl) (fun _ _ _ h => h) (Or.inl ⟨by rfl, ?_⟩) (by assumption) ?_
              rotate_left
              · intro w' hSw
                go_simp
                try with_reducible rfl
              try simp only [Act.put, List.setIfInBounds_toArray, List.set_cons_zero, List.set_cons_succ]
              refine wpAnyH_done (by kernel_rfl) ?_ _
              go_wp2_with fail
              go_meet
              have hr1 := heap_setCell_same w6 w4.heap.size 0 _ _ (.slice p6 n6 a6) hrow
              have hr2 := heap_setCell_same _ w4.heap.size 1 _ _ (.slice p7 n7 a7) hr1
              refine ⟨w4.heap.size, p6, p7, n6, a6, n7, a7, ok, rfl, rfl, cell_of_row _ w4.heap.size 0 _ _ _ hr2, cell_of_row _ w4.heap.size 1 _ _ _ hr2, hHeld, hgW, fun h => ?_, hn6⟩
              obtain ⟨m1, m2, m3, m4, m5⟩ := hy6 h
              exact ⟨m1, Zr.Ints.aside (Zr.Ints.aside m2 _ _ _ (fun a e => by have := m4 a e; omega)) _ _ _ (fun a e => by have := m4 a e; omega), Zr.Ints.aside (Zr.Ints.aside m3 _ _ _ (fun a e => by have := m5 a e; omega)) _ _ _ (fun a e => by have := m5 a e; omega), fun a e => by have := m4 a e; have := hw5.size; omega, fun a e => by have := m5 a e; have := hw5.size; omega⟩
          case rest =>
            obtain ⟨g, p6, p7, n6, a6, n7, a7, ok, rfl, rfl, y0, y1, hbz, hgA, hok, hno⟩ := hcut
            have HGA := Lib.hid hgA
            clear hgA
            obtain ⟨w7, hw7⟩ : ∃ w7, w7 = wc := ⟨_, rfl⟩
            rw [← hw7] at y0 y1 hbz hok ⊢
            clear hw7
            have HF7 := Lib.hid (HF4.out.later hbz)
            have P2 := Lib.hid (N2.out.later hbz N2.out.lt)
            have LO := Lib.hid (part_meets g8 LL.out LH.out HF4.out.i1.ok HF4.out.i2.ok HR.out (k := k) (by omega) HAL.out)
            cases ok with
            | false => exact absurd LO.out.1 (hno rfl)
            | true =>
            have HK := Lib.hid (hok rfl)
            have HS4 := Lib.hid hbz.size
            have HYA := Lib.hid y0
            have HYB := Lib.hid y1
            clear hok hno hbz HRG HCT HY y0 y1
            have HRG2 := Lib.hid (show ∀ w', Below w7.heap.size w7 w' → Calls Try.prog 30 #[.slice (some ⟨gb, ob, none⟩) (64 * d) b6, .int .i64 ((k : Int) + 1), .int .i64 d] w' fun e w'' => ∃ p5 a5 q5 b5, e = .returned (.agg #[.slice p5 d a5, .slice q5 d b5]) ∧ Ints w'' p5 d a5 (Zm.rlo (Mm.cbit H) (k + 1) d) ∧ Ints w'' q5 d b5 (Zm.rhi (Mm.cbit H) (k + 1) d) ∧ Below w'.heap.size w' w'' from fun w' hb => by
              have e1 : (k : Int) + 1 = ((k + 1 : Nat) : Int) := by omega
              rw [e1]
              have hg := rlo_congr (g := fB (bl H (64 * d))) (h := Mm.cbit H) (m := k + 1) (d := d) (fun i hi => bl_get H (64 * d) i (by omega))
              refine (region_any (bl H (64 * d)) (bl_two H _) (some ⟨gb, ob, none⟩) (64 * d) b6 (k + 1) d w' (P2.out.later hb P2.out.lt) (by omega) g8 (by omega)).mono ?_
              rintro e w'' ⟨v, rfl, p5, a5, q5, b5, rfl, h1, h2, h3⟩
              rw [Zm.rlo_length, hg.1] at h1
              rw [Zm.rhi_length, hg.2] at h2
              rw [Zm.rlo_length, Zm.rhi_length]
              exact ⟨p5, a5, q5, b5, rfl, h1, h2, h3⟩)
            have HCT2 := Lib.hid (show ∀ w' p5 a5 q5 b5, Below w7.heap.size w7 w' → Ints w' p5 d a5 (Zm.rlo (Mm.cbit H) (k + 1) d) → Ints w' q5 d b5 (Zm.rhi (Mm.cbit H) (k + 1) d) → Calls Try.prog 29 #[.agg #[.slice p5 d a5, .slice q5 d b5], .agg #[.slice q1 d c1, .slice q2 d c2]] w' (CutPost w' (Zm.rlo (Mm.cbit H) (k + 1) d) (Zm.rhi (Mm.cbit H) (k + 1) d) L H) from fun w' p5 a5 q5 b5 hb h1 h2 => rcut_any p5 q5 q1 q2 a5 b5 c1 c2 d _ _ L H w' h1 h2 (HF7.out.later hb).i1 (HF7.out.later hb).i2 (region_right (Mm.cbit_lt H) (k + 1) d g1 g8) HR.out)
            have HY2 := Lib.hid (show ∀ w', Below w7.heap.size w7 w' → w'.cell? ⟨w.heap.size, 0, none⟩ = some (.slice q1 d c1) ∧ w'.cell? ⟨w.heap.size, 1, none⟩ = some (.slice q2 d c2) from fun w' hb => (HF7.out.later hb).cells)
            go_upto_region 11 with fail
            go_cut [11, 12] (fun s11 s12 wz => ∃ (g : Nat) (p6 p7 : Option Addr) (n6 a6 n7 a7 : Nat) (ok : Bool), s11 = .pointer (some ⟨g, 0, none⟩) ∧ s12 = .bool ok ∧ wz.cell? ⟨g, 0, none⟩ = some (.slice p6 n6 a6) ∧ wz.cell? ⟨g, 1, none⟩ = some (.slice p7 n7 a7) ∧ Below w7.heap.size w7 wz ∧ w7.heap.size ≤ g ∧ (ok = true → Zm.meets (Zm.rlo (Mm.cbit H) (k + 1) d) (Zm.rhi (Mm.cbit H) (k + 1) d) L H ∧ Ints wz p6 n6 a6 (Zm.cutLo (Zm.rlo (Mm.cbit H) (k + 1) d) L) ∧ Ints wz p7 n7 a7 (Zm.cutHi (Zm.rhi (Mm.cbit H) (k + 1) d) H) ∧ (∀ a, p6 = some a → w7.heap.size ≤ a.block) ∧ (∀ a, p7 = some a → w7.heap.size ≤ a.block)) ∧ (ok = false → ¬ Zm.meets (Zm.rlo (Mm.cbit H) (k + 1) d) (Zm.rhi (Mm.cbit H) (k + 1) d) L H))
            case first =>
              refine wp_region_held_drew (S := fun w' => Below w7.heap.size w7 w') (by kernel_rfl) ⟨rfl, rfl, rfl, Nat.le_refl _, fun _ _ => rfl⟩ (fun hHeld => ?_)
              refine wpAnyH_take (i := 0) (oi := ⟨some 62, .move (.tmp 7), _, _, _, _⟩) (v := ?_) rfl (by kernel_rfl) (by kernel_rfl) (by kernel_rfl) (fun _ _ _ h => h) (Or.inl ⟨by rfl, ?_⟩) (by assumption) ?_
              rotate_left
              · intro w' hSw
                go_simp
                try with_reducible rfl
              try simp only [Act.put, List.setIfInBounds_toArray, List.set_cons_zero, List.set_cons_succ]
              refine wpAnyH_take (i := 1) (oi := ⟨some 63, .move (.tmp 8), _, _, _, _⟩) (v := ?_) rfl (by kernel_rfl) (by kernel_rfl) (by kernel_rfl) (fun _ _ _ h => h) (Or.inl ⟨by rfl, ?_⟩) (by assumption) ?_
              rotate_left
              · intro w' hSw
                go_simp
                try with_reducible rfl
              try simp only [Act.put, List.setIfInBounds_toArray, List.set_cons_zero, List.set_cons_succ]
              refine wpAnyH_take (i := 2) (oi := ⟨some 64, .binOp .add 3 (.tmp 63) (.const (.int .i64 1)) 3, _, _, _, _⟩) (v := ?_) rfl (by kernel_rfl) (by kernel_rfl) (by kernel_rfl) (fun _ _ _ h => h) (Or.inl ⟨by rfl, ?_⟩) (by assumption) ?_
              rotate_left
              · intro w' hSw
                go_simp
                try with_reducible rfl
              try simp only [Act.put, List.setIfInBounds_toArray, List.set_cons_zero, List.set_cons_succ]
              refine wpAnyH_take (i := 3) (oi := ⟨some 65, .move (.tmp 5), _, _, _, _⟩) (v := ?_) rfl (by kernel_rfl) (by kernel_rfl) (by kernel_rfl) (fun _ _ _ h => h) (Or.inl ⟨by rfl, ?_⟩) (by assumption) ?_
              rotate_left
              · intro w' hSw
                go_simp
                try with_reducible rfl
              try simp only [Act.put, List.setIfInBounds_toArray, List.set_cons_zero, List.set_cons_succ]
              refine wpAnyH_take (i := 5) (oi := ⟨some 67, .load 26 (.tmp 1), _, _, _, _⟩) (v := ?_) rfl (by kernel_rfl) (by kernel_rfl) (by kernel_rfl) (fun _ _ _ h => h) (Or.inl ⟨by rfl, ?_⟩) (by assumption) ?_
              rotate_left
              · intro w' hSw
                obtain ⟨y0, y1⟩ := HY2.out _ hSw
                go_simp
                try with_reducible rfl
              try simp only [Act.put, List.setIfInBounds_toArray, List.set_cons_zero, List.set_cons_succ]
              refine wpAnyH_ready (rs := [4, 10]) (by kernel_rfl) (by simp) ?_
              refine AllReadyH.cons (o := ⟨some 66, .call ⟨.value (.func 30), #[.tmp 62, .tmp 64, .tmp 65], #[22, 3, 3]⟩, _, _, _, _⟩) rfl (fun K hK => ?_) (AllReadyH.cons (o := ⟨some 11, .alloc 26, _, _, _, _⟩) rfl (fun K hK => ?_) AllReadyH.nil)
              ·
                go_simp
                with_reducible refine (HRG2.out _ ?hx79).mono ?_
                case hx79 => exact hHeld
                rintro _ w5 ⟨p5, a5, q5, b5, rfl, hl5, hh5, hb5⟩
                have hw5 : Below w7.heap.size w7 w5 := hHeld.trans (hb5.mono hHeld.size)
                try go_wp2_with fail
                refine hK.out _ _ hw5 (fun hHeld => ?_)
                clear hK K
                try simp only [Act.put, List.setIfInBounds_toArray, List.set_cons_zero, List.set_cons_succ]
                refine wpAnyH_ready (rs := [6, 10]) (by kernel_rfl) (by simp) ?_
                refine AllReadyH.cons (o := ⟨some 68, .call ⟨.value (.func 29), #[.tmp 66, .tmp 67], #[26, 26]⟩, _, _, _, _⟩) rfl (fun K hK => ?_) (AllReadyH.cons (o := ⟨some 11, .alloc 26, _, _, _, _⟩) rfl (fun K hK => ?_) AllReadyH.nil)
                ·
                  go_simp
                  with_reducible refine (HCT2.out _ p5 a5 q5 b5 ?hx81 ?hy81 ?hz81).mono ?_
                  case hx81 => exact hHeld
                  case hy81 => exact hl5
                  case hz81 => exact hh5
                  rintro _ w6 ⟨ok, p6, p7, n6, a6, n7, a7, rfl, hb6, hy6, hn6⟩
                  have hw6 : Below w7.heap.size w7 w6 := hHeld.trans (hb6.mono hHeld.size)
                  try go_wp2_with fail
                  refine hK.out _ _ hw6 (fun hHeld => ?_)
                  clear hK K
                  try simp only [Act.put, List.setIfInBounds_toArray, List.set_cons_zero, List.set_cons_succ]
                  refine wpAnyH_take (i := 7) (oi := ⟨some 61, .move (.tmp 68), _, _, _, _⟩) (v := ?_) rfl (by kernel_rfl) (by kernel_rfl) (by kernel_rfl) (fun _ _ _ h => h) (Or.inl ⟨by rfl, ?_⟩) (by assumption) ?_
                  rotate_left
                  · intro w' hSw
                    go_simp
                    try with_reducible rfl
                  try simp only [Act.put, List.setIfInBounds_toArray, List.set_cons_zero, List.set_cons_succ]
                  refine wpAnyH_take (i := 8) (oi := ⟨some 69, .extract (.tmp 61) 0, _, _, _, _⟩) (v := ?_) rfl (by kernel_rfl) (by kernel_rfl) (by kernel_rfl) (fun _ _ _ h => h) (Or.inl ⟨by rfl, ?_⟩) (by assumption) ?_
                  rotate_left
                  · intro w' hSw
                    go_simp
                    try with_reducible rfl
                  try simp only [Act.put, List.setIfInBounds_toArray, List.set_cons_zero, List.set_cons_succ]
                  refine wpAnyH_take (i := 9) (oi := ⟨some 70, .extract (.tmp 61) 1, _, _, _, _⟩) (v := ?_) rfl (by kernel_rfl) (by kernel_rfl) (by kernel_rfl) (fun _ _ _ h => h) (Or.inl ⟨by rfl, ?_⟩) (by assumption) ?_
                  rotate_left
                  · intro w' hSw
                    go_simp
                    try with_reducible rfl
                  try simp only [Act.put, List.setIfInBounds_toArray, List.set_cons_zero, List.set_cons_succ]
                  refine wpAnyH_ready (rs := [10]) (by kernel_rfl) (by simp) ?_
                  refine AllReadyH.cons (o := ⟨some 11, .alloc 26, _, _, _, _⟩) rfl (fun K hK => ?_) AllReadyH.nil
                  go_simp
                  try go_wp2_with fail
                  refine hK.out _ _ (hHeld.alloc hHeld.size _) (fun hHeld => ?_)
                  clear hK K
                  try simp only [Act.put, List.setIfInBounds_toArray, List.set_cons_zero, List.set_cons_succ]
                  have hrow : (w6.alloc (.cells #[.slice none 0 0, .slice none 0 0] 26)).heap[w6.heap.size]? = some (.cells #[.slice none 0 0, .slice none 0 0] 26 (0, 0)) := heap_alloc_new w6 _
                  have hbA : Below w6.heap.size w6 (w6.alloc (.cells #[.slice none 0 0, .slice none 0 0] 26)) := (Below.refl _ _).alloc (Nat.le_refl _) _
                  have hsA : (w6.alloc (.cells #[.slice none 0 0, .slice none 0 0] 26)).heap.size = w6.heap.size + 1 := by
                    show (w6.alloc (.cells #[.slice none 0 0, .slice none 0 0] 26)).heap.size = w6.heap.size + 1
                    simp
                  have hgW : w7.heap.size ≤ w6.heap.size := by have := hw6.size; omega
                  generalize (w6.alloc (.cells #[.slice none 0 0, .slice none 0 0] 26)) = wa at *
                  have hc0 : wa.cell? ⟨w6.heap.size, 0, none⟩ = some (.slice none 0 0) := cell_of_row wa w6.heap.size 0 _ _ _ hrow
                  have hc1 : wa.cell? ⟨w6.heap.size, 1, none⟩ = some (.slice none 0 0) := cell_of_row wa w6.heap.size 1 _ _ _ hrow
                  have hf0 : wa.frozen? ⟨w6.heap.size, 0, none⟩ = false := frozen_of_row wa w6.heap.size _ _ _ hrow
                  have hf1 : wa.frozen? ⟨w6.heap.size, 1, none⟩ = false := frozen_of_row wa w6.heap.size _ _ _ hrow
                  refine wpAnyH_ready (rs := [11]) (by kernel_rfl) (by simp) ?_
                  refine AllReadyH.cons (o := ⟨none, .store 26 (.tmp 11) (.tmp 69), _, _, _, _⟩) rfl (fun K hK => ?_) AllReadyH.nil
                  go_simp
                  try go_wp2_with fail
                  refine hK.out _ _ ((hHeld.setCell hgW _).setCell hgW _) (fun hHeld => ?_)
                  clear hK K
                  try simp only [Act.put, List.setIfInBounds_toArray, List.set_cons_zero, List.set_cons_succ]
                  refine wpAnyH_take (i := 12) (oi := ⟨some 12, .assign (.tmp 70), _, _, _, _⟩) (v := ?_) rfl (by kernel_rfl) (by kernel_rfl) (by kernel_rfl) (fun _ _ _ h => h) (Or.inl ⟨by rfl, ?_⟩) (by assumption) ?_
                  rotate_left
                  · intro w' hSw
                    go_simp
                    try with_reducible rfl
                  try simp only [Act.put, List.setIfInBounds_toArray, List.set_cons_zero, List.set_cons_succ]
                  refine wpAnyH_done (by kernel_rfl) ?_ _
                  go_wp2_with fail
                  go_meet
                  have hr1 := heap_setCell_same wa w6.heap.size 0 _ _ (.slice p6 n6 a6) hrow
                  have hr2 := heap_setCell_same _ w6.heap.size 1 _ _ (.slice p7 n7 a7) hr1
                  refine ⟨w6.heap.size, p6, p7, n6, a6, n7, a7, ok, rfl, rfl, cell_of_row _ w6.heap.size 0 _ _ _ hr2, cell_of_row _ w6.heap.size 1 _ _ _ hr2, hHeld, hgW, fun h => ?_, hn6⟩
                  obtain ⟨m1, m2, m3, m4, m5⟩ := hy6 h
                  have hfin := (hbA.setCell (p := ⟨w6.heap.size, 0, none⟩) (Nat.le_refl _) (.slice p6 n6 a6)).setCell (p := ⟨w6.heap.size, 1, none⟩) (Nat.le_refl _) (.slice p7 n7 a7)
                  exact ⟨m1, m2.later hfin, m3.later hfin, fun a e => by have := m4 a e; have := hw5.size; omega, fun a e => by have := m5 a e; have := hw5.size; omega⟩
                ·
                  go_simp
                  try go_wp2_with fail
                  refine hK.out _ _ (hHeld.alloc hHeld.size _) (fun hHeld => ?_)
                  clear hK K
                  try simp only [Act.put, List.setIfInBounds_toArray, List.set_cons_zero, List.set_cons_succ]
                  have hrow : (w5.alloc (.cells #[.slice none 0 0, .slice none 0 0] 26)).heap[w5.heap.size]? = some (.cells #[.slice none 0 0, .slice none 0 0] 26 (0, 0)) := heap_alloc_new w5 _
                  have hbA : Below w5.heap.size w5 (w5.alloc (.cells #[.slice none 0 0, .slice none 0 0] 26)) := (Below.refl _ _).alloc (Nat.le_refl _) _
                  have hsA : (w5.alloc (.cells #[.slice none 0 0, .slice none 0 0] 26)).heap.size = w5.heap.size + 1 := by
                    show (w5.alloc (.cells #[.slice none 0 0, .slice none 0 0] 26)).heap.size = w5.heap.size + 1
                    simp
                  have hgW : w7.heap.size ≤ w5.heap.size := by have := hw5.size; omega
                  have hl5 := hl5.later hbA
                  have hh5 := hh5.later hbA
                  generalize (w5.alloc (.cells #[.slice none 0 0, .slice none 0 0] 26)) = wa at *
                  refine wpAnyH_ready (rs := [6]) (by kernel_rfl) (by simp) ?_
                  refine AllReadyH.cons (o := ⟨some 68, .call ⟨.value (.func 29), #[.tmp 66, .tmp 67], #[26, 26]⟩, _, _, _, _⟩) rfl (fun K hK => ?_) AllReadyH.nil
                  go_simp
                  with_reducible refine (HCT2.out _ p5 a5 q5 b5 ?hx81 ?hy81 ?hz81).mono ?_
                  case hx81 => exact hHeld
                  case hy81 => exact hl5
                  case hz81 => exact hh5
                  rintro _ w6 ⟨ok, p6, p7, n6, a6, n7, a7, rfl, hb6, hy6, hn6⟩
                  have hw6 : Below w7.heap.size w7 w6 := hHeld.trans (hb6.mono hHeld.size)
                  have hrow := (hb6.block _ (Array.getElem?_eq_some_iff.1 hrow).1).trans hrow
                  have hlt5 := hb6.size
                  try go_wp2_with fail
                  refine hK.out _ _ hw6 (fun hHeld => ?_)
                  clear hK K
                  try simp only [Act.put, List.setIfInBounds_toArray, List.set_cons_zero, List.set_cons_succ]
                  refine wpAnyH_take (i := 7) (oi := ⟨some 61, .move (.tmp 68), _, _, _, _⟩) (v := ?_) rfl (by kernel_rfl) (by kernel_rfl) (by kernel_rfl) (fun _ _ _ h => h) (Or.inl ⟨by rfl, ?_⟩) (by assumption) ?_
                  rotate_left
                  · intro w' hSw
                    go_simp
                    try with_reducible rfl
                  try simp only [Act.put, List.setIfInBounds_toArray, List.set_cons_zero, List.set_cons_succ]
                  refine wpAnyH_take (i := 8) (oi := ⟨some 69, .extract (.tmp 61) 0, _, _, _, _⟩) (v := ?_) rfl (by kernel_rfl) (by kernel_rfl) (by kernel_rfl) (fun _ _ _ h => h) (Or.inl ⟨by rfl, ?_⟩) (by assumption) ?_
                  rotate_left
                  · intro w' hSw
                    go_simp
                    try with_reducible rfl
                  try simp only [Act.put, List.setIfInBounds_toArray, List.set_cons_zero, List.set_cons_succ]
                  refine wpAnyH_take (i := 9) (oi := ⟨some 70, .extract (.tmp 61) 1, _, _, _, _⟩) (v := ?_) rfl (by kernel_rfl) (by kernel_rfl) (by kernel_rfl) (fun _ _ _ h => h) (Or.inl ⟨by rfl, ?_⟩) (by assumption) ?_
                  rotate_left
                  · intro w' hSw
                    go_simp
                    try with_reducible rfl
                  try simp only [Act.put, List.setIfInBounds_toArray, List.set_cons_zero, List.set_cons_succ]
                  have hc0 : w6.cell? ⟨w5.heap.size, 0, none⟩ = some (.slice none 0 0) := cell_of_row w6 w5.heap.size 0 _ _ _ hrow
                  have hc1 : w6.cell? ⟨w5.heap.size, 1, none⟩ = some (.slice none 0 0) := cell_of_row w6 w5.heap.size 1 _ _ _ hrow
                  have hf0 : w6.frozen? ⟨w5.heap.size, 0, none⟩ = false := frozen_of_row w6 w5.heap.size _ _ _ hrow
                  have hf1 : w6.frozen? ⟨w5.heap.size, 1, none⟩ = false := frozen_of_row w6 w5.heap.size _ _ _ hrow
                  refine wpAnyH_ready (rs := [11]) (by kernel_rfl) (by simp) ?_
                  refine AllReadyH.cons (o := ⟨none, .store 26 (.tmp 11) (.tmp 69), _, _, _, _⟩) rfl (fun K hK => ?_) AllReadyH.nil
                  go_simp
                  try go_wp2_with fail
                  refine hK.out _ _ ((hHeld.setCell hgW _).setCell hgW _) (fun hHeld => ?_)
                  clear hK K
                  try simp only [Act.put, List.setIfInBounds_toArray, List.set_cons_zero, List.set_cons_succ]
                  refine wpAnyH_take (i := 12) (oi := ⟨some 12, .assign (.tmp 70), _, _, _, _⟩) (v := ?_) rfl (by kernel_rfl) (by kernel_rfl) (by kernel_rfl) (fun _ _ _ h => h) (Or.inl ⟨by rfl, ?_⟩) (by assumption) ?_
                  rotate_left
                  · intro w' hSw
                    go_simp
                    try with_reducible rfl
                  try simp only [Act.put, List.setIfInBounds_toArray, List.set_cons_zero, List.set_cons_succ]
                  refine wpAnyH_done (by kernel_rfl) ?_ _
                  go_wp2_with fail
                  go_meet
                  have hr1 := heap_setCell_same w6 w5.heap.size 0 _ _ (.slice p6 n6 a6) hrow
                  have hr2 := heap_setCell_same _ w5.heap.size 1 _ _ (.slice p7 n7 a7) hr1
                  refine ⟨w5.heap.size, p6, p7, n6, a6, n7, a7, ok, rfl, rfl, cell_of_row _ w5.heap.size 0 _ _ _ hr2, cell_of_row _ w5.heap.size 1 _ _ _ hr2, hHeld, hgW, fun h => ?_, hn6⟩
                  obtain ⟨m1, m2, m3, m4, m5⟩ := hy6 h
                  exact ⟨m1, Zr.Ints.aside (Zr.Ints.aside m2 _ _ _ (fun a e => by have := m4 a e; omega)) _ _ _ (fun a e => by have := m4 a e; omega), Zr.Ints.aside (Zr.Ints.aside m3 _ _ _ (fun a e => by have := m5 a e; omega)) _ _ _ (fun a e => by have := m5 a e; omega), fun a e => by have := m4 a e; have := hw5.size; omega, fun a e => by have := m5 a e; have := hw5.size; omega⟩
              ·
                go_simp
                try go_wp2_with fail
                refine hK.out _ _ ((Below.refl _ _).alloc (Nat.le_refl _) _).drew (fun hHeld => ?_)
                clear hK K
                try simp only [Act.put, List.setIfInBounds_toArray, List.set_cons_zero, List.set_cons_succ]
                have hrow : (w7.alloc (.cells #[.slice none 0 0, .slice none 0 0] 26)).drew.heap[w7.heap.size]? = some (.cells #[.slice none 0 0, .slice none 0 0] 26 (0, 0)) := heap_alloc_new w7 _
                have hbA : Below w7.heap.size w7 (w7.alloc (.cells #[.slice none 0 0, .slice none 0 0] 26)).drew := ((Below.refl _ _).alloc (Nat.le_refl _) _).drew
                have hsA : (w7.alloc (.cells #[.slice none 0 0, .slice none 0 0] 26)).drew.heap.size = w7.heap.size + 1 := by
                  show (w7.alloc (.cells #[.slice none 0 0, .slice none 0 0] 26)).heap.size = w7.heap.size + 1
                  simp
                have hgW : w7.heap.size ≤ w7.heap.size := by have := Nat.le_refl w7.heap.size; omega
                generalize (w7.alloc (.cells #[.slice none 0 0, .slice none 0 0] 26)).drew = wa at *
                refine wpAnyH_ready (rs := [4]) (by kernel_rfl) (by simp) ?_
                refine AllReadyH.cons (o := ⟨some 66, .call ⟨.value (.func 30), #[.tmp 62, .tmp 64, .tmp 65], #[22, 3, 3]⟩, _, _, _, _⟩) rfl (fun K hK => ?_) AllReadyH.nil
                go_simp
                with_reducible refine (HRG2.out _ ?hx79).mono ?_
                case hx79 => exact hHeld
                rintro _ w5 ⟨p5, a5, q5, b5, rfl, hl5, hh5, hb5⟩
                have hw5 : Below w7.heap.size w7 w5 := hHeld.trans (hb5.mono hHeld.size)
                have hrow := (hb5.block _ (Array.getElem?_eq_some_iff.1 hrow).1).trans hrow
                have hltA := hb5.size
                try go_wp2_with fail
                refine hK.out _ _ hw5 (fun hHeld => ?_)
                clear hK K
                try simp only [Act.put, List.setIfInBounds_toArray, List.set_cons_zero, List.set_cons_succ]
                refine wpAnyH_ready (rs := [6]) (by kernel_rfl) (by simp) ?_
                refine AllReadyH.cons (o := ⟨some 68, .call ⟨.value (.func 29), #[.tmp 66, .tmp 67], #[26, 26]⟩, _, _, _, _⟩) rfl (fun K hK => ?_) AllReadyH.nil
                go_simp
                with_reducible refine (HCT2.out _ p5 a5 q5 b5 ?hx81 ?hy81 ?hz81).mono ?_
                case hx81 => exact hHeld
                case hy81 => exact hl5
                case hz81 => exact hh5
                rintro _ w6 ⟨ok, p6, p7, n6, a6, n7, a7, rfl, hb6, hy6, hn6⟩
                have hw6 : Below w7.heap.size w7 w6 := hHeld.trans (hb6.mono hHeld.size)
                have hrow := (hb6.block _ (Array.getElem?_eq_some_iff.1 hrow).1).trans hrow
                have hlt5 := hb6.size
                try go_wp2_with fail
                refine hK.out _ _ hw6 (fun hHeld => ?_)
                clear hK K
                try simp only [Act.put, List.setIfInBounds_toArray, List.set_cons_zero, List.set_cons_succ]
                refine wpAnyH_take (i := 7) (oi := ⟨some 61, .move (.tmp 68), _, _, _, _⟩) (v := ?_) rfl (by kernel_rfl) (by kernel_rfl) (by kernel_rfl) (fun _ _ _ h => h) (Or.inl ⟨by rfl, ?_⟩) (by assumption) ?_
                rotate_left
                · intro w' hSw
                  go_simp
                  try with_reducible rfl
                try simp only [Act.put, List.setIfInBounds_toArray, List.set_cons_zero, List.set_cons_succ]
                refine wpAnyH_take (i := 8) (oi := ⟨some 69, .extract (.tmp 61) 0, _, _, _, _⟩) (v := ?_) rfl (by kernel_rfl) (by kernel_rfl) (by kernel_rfl) (fun _ _ _ h => h) (Or.inl ⟨by rfl, ?_⟩) (by assumption) ?_
                rotate_left
                · intro w' hSw
                  go_simp
                  try with_reducible rfl
                try simp only [Act.put, List.setIfInBounds_toArray, List.set_cons_zero, List.set_cons_succ]
                refine wpAnyH_take (i := 9) (oi := ⟨some 70, .extract (.tmp 61) 1, _, _, _, _⟩) (v := ?_) rfl (by kernel_rfl) (by kernel_rfl) (by kernel_rfl) (fun _ _ _ h => h) (Or.inl ⟨by rfl, ?_⟩) (by assumption) ?_
                rotate_left
                · intro w' hSw
                  go_simp
                  try with_reducible rfl
                try simp only [Act.put, List.setIfInBounds_toArray, List.set_cons_zero, List.set_cons_succ]
                have hc0 : w6.cell? ⟨w7.heap.size, 0, none⟩ = some (.slice none 0 0) := cell_of_row w6 w7.heap.size 0 _ _ _ hrow
                have hc1 : w6.cell? ⟨w7.heap.size, 1, none⟩ = some (.slice none 0 0) := cell_of_row w6 w7.heap.size 1 _ _ _ hrow
                have hf0 : w6.frozen? ⟨w7.heap.size, 0, none⟩ = false := frozen_of_row w6 w7.heap.size _ _ _ hrow
                have hf1 : w6.frozen? ⟨w7.heap.size, 1, none⟩ = false := frozen_of_row w6 w7.heap.size _ _ _ hrow
                refine wpAnyH_ready (rs := [11]) (by kernel_rfl) (by simp) ?_
                refine AllReadyH.cons (o := ⟨none, .store 26 (.tmp 11) (.tmp 69), _, _, _, _⟩) rfl (fun K hK => ?_) AllReadyH.nil
                go_simp
                try go_wp2_with fail
                refine hK.out _ _ ((hHeld.setCell hgW _).setCell hgW _) (fun hHeld => ?_)
                clear hK K
                try simp only [Act.put, List.setIfInBounds_toArray, List.set_cons_zero, List.set_cons_succ]
                refine wpAnyH_take (i := 12) (oi := ⟨some 12, .assign (.tmp 70), _, _, _, _⟩) (v := ?_) rfl (by kernel_rfl) (by kernel_rfl) (by kernel_rfl) (fun _ _ _ h => h) (Or.inl ⟨by rfl, ?_⟩) (by assumption) ?_
                rotate_left
                · intro w' hSw
                  go_simp
                  try with_reducible rfl
                try simp only [Act.put, List.setIfInBounds_toArray, List.set_cons_zero, List.set_cons_succ]
                refine wpAnyH_done (by kernel_rfl) ?_ _
                go_wp2_with fail
                go_meet
                have hr1 := heap_setCell_same w6 w7.heap.size 0 _ _ (.slice p6 n6 a6) hrow
                have hr2 := heap_setCell_same _ w7.heap.size 1 _ _ (.slice p7 n7 a7) hr1
                refine ⟨w7.heap.size, p6, p7, n6, a6, n7, a7, ok, rfl, rfl, cell_of_row _ w7.heap.size 0 _ _ _ hr2, cell_of_row _ w7.heap.size 1 _ _ _ hr2, hHeld, hgW, fun h => ?_, hn6⟩
                obtain ⟨m1, m2, m3, m4, m5⟩ := hy6 h
                exact ⟨m1, Zr.Ints.aside (Zr.Ints.aside m2 _ _ _ (fun a e => by have := m4 a e; omega)) _ _ _ (fun a e => by have := m4 a e; omega), Zr.Ints.aside (Zr.Ints.aside m3 _ _ _ (fun a e => by have := m5 a e; omega)) _ _ _ (fun a e => by have := m5 a e; omega), fun a e => by have := m4 a e; have := hw5.size; omega, fun a e => by have := m5 a e; have := hw5.size; omega⟩
            case rest =>
              obtain ⟨gz, p8, p9, n8, a8, n9, a9, ok, rfl, rfl, y0, y1, hbz, hgB, hok, hno⟩ := hcut
              obtain ⟨w9, hw9⟩ : ∃ w9, w9 = wc := ⟨_, rfl⟩
              rw [← hw9] at y0 y1 hbz hok ⊢
              clear hw9
              cases ok with
              | false => exact absurd LO.out.2 (hno rfl)
              | true =>
              have HF9 := Lib.hid (HF7.out.later hbz)
              have HK2 := Lib.hid (hok rfl)
              have z0 := (hbz.cell (p := ⟨g, 0, none⟩) (block_lt_of_cell HYA.out)).trans HYA.out
              have z1 := (hbz.cell (p := ⟨g, 1, none⟩) (block_lt_of_cell HYB.out)).trans HYB.out
              have HS7 := Lib.hid hbz.size
              have HI6 := Lib.hid (HK.out.2.1.later hbz)
              have HI7 := Lib.hid (HK.out.2.2.1.later hbz)
              obtain ⟨o0, o1, o2, o3, o4, o5, o6, o7⟩ := HF9.out.outs
              clear hok hno hbz HRG2 HCT2 HY2
              have hS := (Array.getElem?_eq_some_iff.1 HF4.out.r).1
              have hA1 := HGA.out
              have hS4 := HS4.out
              have n1 : g ≠ w.heap.size + 1 := by omega
              have n2 : g ≠ w.heap.size + 1 + 1 := by omega
              have n3 : gz ≠ w.heap.size + 1 := by omega
              have n4 : gz ≠ w.heap.size + 1 + 1 := by omega
              have n5 : w.heap.size + 1 ≠ g := by omega
              have n6' : w.heap.size + 1 + 1 ≠ g := by omega
              have n7' : w.heap.size + 1 ≠ gz := by omega
              have n8' : w.heap.size + 1 + 1 ≠ gz := by omega
              clear hS hA1 hS4 hgB
              go_upto_region 12 with fail
              go_region
              all_goals
                go_wp2_with fail
                have hlo : w.heap.size + 1 + 1 < w4.heap.size := (Array.getElem?_eq_some_iff.1 HF4.out.r).1
                have hlo7 : w.heap.size + 1 + 1 < w7.heap.size := Nat.lt_of_lt_of_le hlo HS4.out
                have j1 := ints_told HI6.out w.heap.size w4.heap.size hlo HK.out.2.2.2.1 (.slice p6 n6 a6) (.slice p7 n7 a7) (.slice p8 n8 a8) (.slice p9 n9 a9)
                have j2 := ints_told HI7.out w.heap.size w4.heap.size hlo HK.out.2.2.2.2 (.slice p6 n6 a6) (.slice p7 n7 a7) (.slice p8 n8 a8) (.slice p9 n9 a9)
                have j3 := ints_told HK2.out.2.1 w.heap.size w7.heap.size hlo7 HK2.out.2.2.2.1 (.slice p6 n6 a6) (.slice p7 n7 a7) (.slice p8 n8 a8) (.slice p9 n9 a9)
                have j4 := ints_told HK2.out.2.2.1 w.heap.size w7.heap.size hlo7 HK2.out.2.2.2.2 (.slice p6 n6 a6) (.slice p7 n7 a7) (.slice p8 n8 a8) (.slice p9 n9 a9)
                obtain ⟨wf, hwf, hbf, r0, r1, r2, r3⟩ := HF9.out.told rfl (.slice p6 n6 a6) (.slice p7 n7 a7) (.slice p8 n8 a8) (.slice p9 n9 a9)
                rw [← hwf] at j1 j2 j3 j4 ⊢
                refine zret_box3 2 3 4 rfl (w.heap.size + 1) (w.heap.size + 1 + 1) (.slice p6 n6 a6) (.slice p7 n7 a7) (.slice p8 n8 a8) (.slice p9 n9 a9) (.bool true) rfl rfl rfl r0 r1 r2 r3 ?_
                have hd : Below wf.heap.size wf wf.drew := (Below.refl _ _).drew
                rw [LL.out] at j1 j2 j3 j4
                exact ⟨true, p6, p7, p8, p9, n6, a6, n7, a7, n8, a8, n9, a9, rfl, hbf.drew, fun h => by simp at h, fun _ => ⟨k, by rw [← LL.out]; exact hlt, HAL.out, HNE.out, j1.later hd, j2.later hd, j3.later hd, j4.later hd, fun a h => by
                  rcases h with h | h | h | h
                  · have := HK.out.2.2.2.1 a h; omega
                  · have := HK.out.2.2.2.2 a h; omega
                  · have := HK2.out.2.2.2.1 a h; omega
                  · have := HK2.out.2.2.2.2 a h; omega⟩⟩
      · obtain rfl : k = 64 * d := by omega
        go_upto_region 6 with fail
        go_quiet (fail)
        have HF4 := Lib.hid (HF3.out.later (Below.drewN (Below.refl w3.heap.size w3) (j + nq)))
        clear HF3 M1 M2
        try simp only [World.drewN_drewN]
        generalize w3.drewN (j + nq) = w4 at *
        obtain ⟨o0, o1, o2, o3, o4, o5, o6, o7⟩ := HF4.out.outs
        have n7' : w.heap.size + 1 ≠ w.heap.size + 1 + 1 := by omega
        have n8' : w.heap.size + 1 + 1 ≠ w.heap.size + 1 := by omega
        go_wp2_with fail
        obtain ⟨wf, hwf, hbf, r0, r1, r2, r3⟩ := HF4.out.told rfl (.slice none 0 0) (.slice none 0 0) (.slice none 0 0) (.slice none 0 0)
        rw [← hwf]
        refine zret_box3 2 3 4 rfl (w.heap.size + 1) (w.heap.size + 1 + 1) (.slice none 0 0) (.slice none 0 0) (.slice none 0 0) (.slice none 0 0) (.bool false) rfl rfl rfl r0 r1 r2 r3 ?_
        exact ⟨false, none, none, none, none, 0, 0, 0, 0, 0, 0, 0, 0, rfl, hbf, fun _ => ⟨fun i hi => HAL.out i (by rw [LL.out]; exact hi), ⟨rfl, rfl, rfl⟩, ⟨rfl, rfl, rfl⟩, ⟨rfl, rfl, rfl⟩, ⟨rfl, rfl, rfl⟩⟩, fun h => by simp at h⟩
set_option maxRecDepth 100000 in
set_option maxHeartbeats 4000000 in
theorem rsplit_bad (L H : List Int) (q1 q2 : Option Addr) (d c1 m c2 : Nat) (w : World) (h1 : Ints w q1 d c1 L) (h2 : Ints w q2 m c2 H) (hr : rightB L H d m d = false) :
    Calls Try.prog 18 #[.agg #[.slice q1 d c1, .slice q2 m c2]] w fun e w' => e = .returned (.tuple #[.agg #[.slice none 0 0, .slice none 0 0], .agg #[.slice none 0 0, .slice none 0 0], .bool false]) ∧ Below w.heap.size w w' := by
  have HR := Lib.hid hr
  have hsh := sh_start h1 h2
  clear hr h1 h2
  go_enter Try.func18, Try.ntmps18
  go_upto_region 1 with fail
  generalize (((w.alloc (.cells #[.slice q1 d c1, .slice q2 m c2] 26)).alloc (.cells #[.slice none 0 0, .slice none 0 0] 26)).alloc (.cells #[.slice none 0 0, .slice none 0 0] 26)) = w1 at *
  have HF1 := Lib.hid hsh
  clear hsh
  obtain ⟨b0, b1⟩ := HF1.out.cells
  go_wp2_with fail
  refine (refright_any q1 q2 d c1 m c2 L H d w1 HF1.out.i1 HF1.out.i2).mono ?_
  rintro _ w2 ⟨rfl, hb2⟩
  rw [HR.out]
  have HF2 := Lib.hid (HF1.out.later hb2)
  clear hb2 b0 b1 HF1
  obtain ⟨o0, o1, o2, o3, o4, o5, o6, o7⟩ := HF2.out.outs
  have n7' : w.heap.size + 1 ≠ w.heap.size + 1 + 1 := by omega
  have n8' : w.heap.size + 1 + 1 ≠ w.heap.size + 1 := by omega
  go_wp2_with fail
  obtain ⟨wf, hwf, hbf, r0, r1, r2, r3⟩ := HF2.out.told rfl (.slice none 0 0) (.slice none 0 0) (.slice none 0 0) (.slice none 0 0)
  rw [← hwf]
  refine zret_box3 2 3 4 rfl (w.heap.size + 1) (w.heap.size + 1 + 1) (.slice none 0 0) (.slice none 0 0) (.slice none 0 0) (.slice none 0 0) (.bool false) rfl rfl rfl r0 r1 r2 r3 ?_
  exact ⟨rfl, hbf⟩
end Go.Proofs.Ytbhpmigblkaihaa.Zr

/- indentureref06.Block. gen_block.py writes it. -/
namespace Go.Proofs.Ytbhpmigblkaihaa.Zr
open Go.RowKit Go.Proofs.Ytbhpmigblkaihaa.Mo

/-- Whether among the first so many bits two are unlike. -/
def unl (L H : List Int) : Nat → Bool
  | 0 => false
  | i + 1 => unl L H i || decide (Mm.cbit L i ≠ Mm.cbit H i)
/-- From the first unlike bits on, the lower corner's are 0 and the upper's are 1. -/
def bok (L H : List Int) : Nat → Bool
  | 0 => true
  | i + 1 => bok L H i && !(unl L H (i + 1) && (decide (Mm.cbit L i ≠ 0) || decide (Mm.cbit H i ≠ 1)))
theorem bok_false {L H : List Int} {k : Nat} (h : bok L H k = false) : ∀ n, k ≤ n → bok L H n = false
  | 0, hk => by obtain rfl : k = 0 := by omega
                exact h
  | n + 1, hk => by
    by_cases e : k = n + 1
    · subst e; exact h
    · show (bok L H n && _) = false
      rw [bok_false h n (by omega), Bool.false_and]
def blockB (L H : List Int) (n m : Nat) : Bool := rightB L H n m n && (decide (n = 1) || bok L H (64 * n))
def RBlk (w2 : World) (L H : List Int) (d : Nat) (u i : Value) (wr : World) : Prop := ∃ k j : Nat, k ≤ 64 * d ∧ u = .bool (unl L H k) ∧ i = .int .i64 k ∧ bok L H k = true ∧ wr = w2.drewN j
set_option maxRecDepth 100000 in
set_option maxHeartbeats 4000000 in
theorem rblock_any (L H : List Int) (q1 q2 : Option Addr) (n1 c1 n2 c2 : Nat) (w : World) (h1 : Ints w q1 n1 c1 L) (h2 : Ints w q2 n2 c2 H) :
    Calls Try.prog 21 #[.agg #[.slice q1 n1 c1, .slice q2 n2 c2]] w fun e w' => e = .returned (.bool (blockB L H n1 n2)) ∧ Below w.heap.size w w' := by
  have hb : Below w.heap.size w (w.alloc (.cells #[.slice q1 n1 c1, .slice q2 n2 c2] 26)) := (Below.refl _ _).alloc (Nat.le_refl _) _
  obtain ⟨e0, e1⟩ := pair_alloc w (.slice q1 n1 c1) (.slice q2 n2 c2) 26
  have H1 := Lib.hid (h1.later hb)
  have H2 := Lib.hid (h2.later hb)
  have L1 := Lib.hid h1.size
  have L2 := Lib.hid h2.size
  have HB := Lib.hid hb
  have hs0 : w.heap.size < (w.alloc (.cells #[.slice q1 n1 c1, .slice q2 n2 c2] 26)).heap.size := by simp
  clear h1 h2 hb
  go_enter Try.func21, Try.ntmps21
  go_upto_region 1 with fail
  generalize w.alloc (.cells #[.slice q1 n1 c1, .slice q2 n2 c2] 26) = w0 at *
  have HS0 := Lib.hid hs0
  clear hs0
  go_wp2_with fail
  refine (refright_any q1 q2 n1 c1 n2 c2 L H n1 w0 H1.out H2.out).mono ?_
  rintro _ w2 ⟨rfl, hb1⟩
  have B2 := Lib.hid (HB.out.trans (hb1.mono HB.out.size))
  have K1 := Lib.hid (H1.out.later hb1)
  have K2 := Lib.hid (H2.out.later hb1)
  have e0 := (hb1.cell (p := ⟨w.heap.size, 0, none⟩) HS0.out).trans e0
  have e1 := (hb1.cell (p := ⟨w.heap.size, 1, none⟩) HS0.out).trans e1
  have HS2 := Lib.hid (Nat.lt_of_lt_of_le HS0.out hb1.size)
  clear hb1 HB H1 H2 HS0
  cases hrr : rightB L H n1 n2 n1 with
  | false =>
    have HH := Lib.hid (show blockB L H n1 n2 = false from by unfold blockB; rw [hrr, Bool.false_and])
    go_wp2_with fail
    go_ret
    exact ⟨congrArg (fun b => Ending.returned (.bool b)) HH.out.symm, B2.out⟩
  | true =>
  obtain ⟨d1, d2, -, d4⟩ := rightB_dims hrr
  obtain rfl : n2 = n1 := by omega
  by_cases hd : n2 = 1
  · have HH := Lib.hid (show blockB L H n2 n2 = true from by unfold blockB; rw [hrr, decide_eq_true hd]; rfl)
    have i1 : (n2 : Int) = 1 := by omega
    clear hrr d4
    go_wp2_with fail
    go_ret
    exact ⟨congrArg (fun b => Ending.returned (.bool b)) HH.out.symm, B2.out⟩
  have HH := Lib.hid (show blockB L H n2 n2 = bok L H (64 * n2) from by unfold blockB; rw [hrr, decide_eq_false hd]; rfl)
  have i1 : ¬ (n2 : Int) = 1 := by omega
  have g8 : n2 ≤ 8 := by omega
  have g1 : 1 ≤ n2 := by omega
  clear hrr d4 hd
  have HY := Lib.hid (show ∀ w', Below w2.heap.size w2 w' → w'.cell? ⟨w.heap.size, 0, none⟩ = some (.slice q1 n2 c1) ∧ w'.cell? ⟨w.heap.size, 1, none⟩ = some (.slice q2 n2 c2) from fun w' hb => ⟨(hb.cell (p := ⟨w.heap.size, 0, none⟩) HS2.out).trans e0, (hb.cell (p := ⟨w.heap.size, 1, none⟩) HS2.out).trans e1⟩)
  have HB1 := Lib.hid (show ∀ w', Below w2.heap.size w2 w' → Calls Try.prog 32 #[.slice q1 n2 c1] w' fun e w'' => ∃ q c, e = .returned (.slice q (64 * n2) c) ∧ Bytes w'' q (64 * n2) c (bl L (64 * n2)) ∧ Below w2.heap.size w2 w'' from fun w' hb => (bits_any L q1 n2 c1 w' (K1.out.later hb) g8).mono (by
    rintro e w'' ⟨v, rfl, ho, hb2⟩
    obtain ⟨q, c, rfl, hq⟩ := owns_form ho (bl_ok L _)
    exact ⟨q, c, rfl, hq, hb.trans (hb2.mono hb.size)⟩))
  have HB2 := Lib.hid (show ∀ w', Below w2.heap.size w2 w' → Calls Try.prog 32 #[.slice q2 n2 c2] w' fun e w'' => ∃ q c, e = .returned (.slice q (64 * n2) c) ∧ Bytes w'' q (64 * n2) c (bl H (64 * n2)) ∧ Below w'.heap.size w' w'' from fun w' hb => (bits_any H q2 n2 c2 w' (K2.out.later hb) g8).mono (by
    rintro e w'' ⟨v, rfl, ho, hb2⟩
    obtain ⟨q, c, rfl, hq⟩ := owns_form ho (bl_ok H _)
    exact ⟨q, c, rfl, hq, hb2⟩))
  go_upto_region 6 with fail
  clear e0 e1
  go_cut [4, 5] (fun s4 s5 wz => ∃ a5 b5 a6 b6, s4 = .slice a5 (64 * n2) b5 ∧ s5 = .slice a6 (64 * n2) b6 ∧ Bytes wz a5 (64 * n2) b5 (bl L (64 * n2)) ∧ Bytes wz a6 (64 * n2) b6 (bl H (64 * n2)) ∧ Below w2.heap.size w2 wz)
  case first =>
    refine wp_region_held_drew (S := fun w' => Below w2.heap.size w2 w') (by kernel_rfl) ⟨rfl, rfl, rfl, Nat.le_refl _, fun _ _ => rfl⟩ (fun hHeld => ?_)
    refine wpAnyH_take (i := 0) (oi := ⟨some 17, .fieldAddr 26 (.tmp 1) 0, _, _, _, _⟩) (v := ?_) rfl (by kernel_rfl) (by kernel_rfl) (by kernel_rfl) (fun _ _ _ h => h) (Or.inl ⟨by rfl, ?_⟩) (by assumption) ?_
    rotate_left
    · intro w' hSw
      obtain ⟨y0, y1⟩ := HY.out _ hSw
      go_simp
      try with_reducible rfl
    try simp only [Act.put, List.setIfInBounds_toArray, List.set_cons_zero, List.set_cons_succ]
    refine wpAnyH_take (i := 3) (oi := ⟨some 20, .fieldAddr 26 (.tmp 1) 1, _, _, _, _⟩) (v := ?_) rfl (by kernel_rfl) (by kernel_rfl) (by kernel_rfl) (fun _ _ _ h => h) (Or.inl ⟨by rfl, ?_⟩) (by assumption) ?_
    rotate_left
    · intro w' hSw
      obtain ⟨y0, y1⟩ := HY.out _ hSw
      go_simp
      try with_reducible rfl
    try simp only [Act.put, List.setIfInBounds_toArray, List.set_cons_zero, List.set_cons_succ]
    refine wpAnyH_take (i := 1) (oi := ⟨some 18, .load 24 (.tmp 17), _, _, _, _⟩) (v := ?_) rfl (by kernel_rfl) (by kernel_rfl) (by kernel_rfl) (fun _ _ _ h => h) (Or.inl ⟨by rfl, ?_⟩) (by assumption) ?_
    rotate_left
    · intro w' hSw
      obtain ⟨y0, y1⟩ := HY.out _ hSw
      go_simp
      try with_reducible rfl
    try simp only [Act.put, List.setIfInBounds_toArray, List.set_cons_zero, List.set_cons_succ]
    refine wpAnyH_take (i := 4) (oi := ⟨some 21, .load 24 (.tmp 20), _, _, _, _⟩) (v := ?_) rfl (by kernel_rfl) (by kernel_rfl) (by kernel_rfl) (fun _ _ _ h => h) (Or.inl ⟨by rfl, ?_⟩) (by assumption) ?_
    rotate_left
    · intro w' hSw
      obtain ⟨y0, y1⟩ := HY.out _ hSw
      go_simp
      try with_reducible rfl
    try simp only [Act.put, List.setIfInBounds_toArray, List.set_cons_zero, List.set_cons_succ]
    refine wpAnyH_ready (rs := [2]) (by kernel_rfl) (by simp) ?_
    refine AllReadyH.cons (o := ⟨some 19, .call ⟨.value (.func 32), #[.tmp 18], #[24]⟩, _, _, _, _⟩) rfl (fun K hK => ?_) AllReadyH.nil
    go_simp
    with_reducible refine (HB1.out _ ?hx1).mono ?_
    case hx1 => exact hHeld
    rintro _ w5 ⟨a5, b5, rfl, hl5, hs5⟩
    try go_wp2_with fail
    try go_wp2_with fail
    refine hK.out _ _ hs5 (fun hHeld => ?_)
    clear hK K
    try simp only [Act.put, List.setIfInBounds_toArray, List.set_cons_zero, List.set_cons_succ]
    refine wpAnyH_ready (rs := [5]) (by kernel_rfl) (by simp) ?_
    refine AllReadyH.cons (o := ⟨some 22, .call ⟨.value (.func 32), #[.tmp 21], #[24]⟩, _, _, _, _⟩) rfl (fun K hK => ?_) AllReadyH.nil
    go_simp
    with_reducible refine (HB2.out _ ?hx2).mono ?_
    case hx2 => exact hHeld
    rintro _ w6 ⟨a6, b6, rfl, hl6, hb6⟩
    have hs6 : Below w2.heap.size w2 w6 := hHeld.trans (hb6.mono hHeld.size)
    have hl5 := hl5.later hb6 hl5.lt
    try go_wp2_with fail
    try go_wp2_with fail
    refine hK.out _ _ hs6 (fun hHeld => ?_)
    clear hK K
    try simp only [Act.put, List.setIfInBounds_toArray, List.set_cons_zero, List.set_cons_succ]
    refine wpAnyH_take (i := 6) (oi := ⟨some 4, .assign (.tmp 19), _, _, _, _⟩) (v := ?_) rfl (by kernel_rfl) (by kernel_rfl) (by kernel_rfl) (fun _ _ _ h => h) (Or.inl ⟨by rfl, ?_⟩) (by assumption) ?_
    rotate_left
    · intro w' hSw
      obtain ⟨y0, y1⟩ := HY.out _ hSw
      go_simp
      try with_reducible rfl
    try simp only [Act.put, List.setIfInBounds_toArray, List.set_cons_zero, List.set_cons_succ]
    refine wpAnyH_take (i := 7) (oi := ⟨some 5, .assign (.tmp 22), _, _, _, _⟩) (v := ?_) rfl (by kernel_rfl) (by kernel_rfl) (by kernel_rfl) (fun _ _ _ h => h) (Or.inl ⟨by rfl, ?_⟩) (by assumption) ?_
    rotate_left
    · intro w' hSw
      obtain ⟨y0, y1⟩ := HY.out _ hSw
      go_simp
      try with_reducible rfl
    try simp only [Act.put, List.setIfInBounds_toArray, List.set_cons_zero, List.set_cons_succ]
    refine wpAnyH_done (by kernel_rfl) ?_ _
    go_wp2_with fail
    go_meet
    exact ⟨a5, b5, a6, b6, rfl, rfl, hl5, hl6, hs6⟩
  case rest =>
    obtain ⟨a5, b5, a6, b6, rfl, rfl, hl5, hl6, hbz⟩ := hcut
    obtain ⟨w3, hw3⟩ : ∃ w3, w3 = wc := ⟨_, rfl⟩
    rw [← hw3] at hl5 hl6 hbz ⊢
    clear hw3
    have M1 := Lib.hid hl5
    have M2 := Lib.hid hl6
    have B3 := Lib.hid (B2.out.trans (hbz.mono B2.out.size))
    clear hl5 hl6 hbz HB1 HB2 HY K1 K2 B2 HS2
    go_wp2_with fail
    go_loopw [6, 7] (fun u i wr => RBlk w3 L H n2 u i wr) (fun _ i _ => 64 * n2 - (intOf i).toNat)
    case atStart => exact ⟨0, 0, by omega, rfl, rfl, rfl, rfl⟩
    case round =>
      obtain ⟨k, j, hk, rfl, rfl, hok, rfl⟩ := hrel
      have HOK := Lib.hid hok
      clear hok
      by_cases hlt : k < 64 * n2
      · obtain ⟨ga, oa, rfl, hxa⟩ := M1.out.ne (by intro e; have := bl_length L (64 * n2); rw [e] at this; simp at this; omega)
        obtain ⟨gb, ob, rfl, hxb⟩ := M2.out.ne (by intro e; have := bl_length H (64 * n2); rw [e] at this; simp at this; omega)
        have ca := hxa k (by rw [bl_length]; exact hlt)
        have cb := hxb k (by rw [bl_length]; exact hlt)
        rw [bl_get _ _ _ hlt] at ca cb
        have BU := Lib.hid (show unl L H (k + 1) = (unl L H k || decide (Mm.cbit L k ≠ Mm.cbit H k)) from rfl)
        have BOK := Lib.hid (show bok L H (k + 1) = (bok L H k && !((unl L H k || decide (Mm.cbit L k ≠ Mm.cbit H k)) && (decide (Mm.cbit L k ≠ 0) || decide (Mm.cbit H k ≠ 1)))) from rfl)
        have HBAD := Lib.hid (show bok L H (k + 1) = false → false = blockB L H n2 n2 from fun h => by rw [HH.out, bok_false h _ hlt])
        have hx2 := Mm.cbit_lt L k
        have hy2 := Mm.cbit_lt H k
        obtain ⟨u, hu⟩ : ∃ u, unl L H k = u := ⟨_, rfl⟩
        obtain ⟨x, hx⟩ : ∃ x, Mm.cbit L k = x := ⟨_, rfl⟩
        obtain ⟨y, hy⟩ : ∃ y, Mm.cbit H k = y := ⟨_, rfl⟩
        rw [hx] at ca hx2
        rw [hy] at cb hy2
        rw [hu]
        have HU := Lib.hid hu
        have HX := Lib.hid hx
        have HY2 := Lib.hid hy
        have i2 : (k : Int) < ((64 * n2 : Nat) : Int) := by omega
        have i3 : (k : Int) < 64 * n2 := by omega
        clear hxa hxb hu hx hy
        rcases (show (u = true ∧ x = 0 ∧ y = 0) ∨ (u = true ∧ x = 0 ∧ y = 1) ∨ (u = true ∧ x = 1 ∧ y = 0) ∨ (u = true ∧ x = 1 ∧ y = 1) ∨ (u = false ∧ x = 0 ∧ y = 0) ∨ (u = false ∧ x = 0 ∧ y = 1) ∨ (u = false ∧ x = 1 ∧ y = 0) ∨ (u = false ∧ x = 1 ∧ y = 1) from by cases u <;> simp <;> omega) with ⟨rfl, rfl, rfl⟩ | ⟨rfl, rfl, rfl⟩ | ⟨rfl, rfl, rfl⟩ | ⟨rfl, rfl, rfl⟩ | ⟨rfl, rfl, rfl⟩ | ⟨rfl, rfl, rfl⟩ | ⟨rfl, rfl, rfl⟩ | ⟨rfl, rfl, rfl⟩
        -- True 0 0
        · go_upto_region 11 with fail
          go_quiet (fail)
          go_wp2_with fail
          go_ret
          have e := BOK.out
          rw [HU.out, HX.out, HY2.out] at e
          exact ⟨congrArg (fun b => Ending.returned (.bool b)) (HBAD.out (e.trans (by rw [HOK.out]; rfl))), B3.out.trans ((Below.drewN (Below.refl w3.heap.size w3) _).mono B3.out.size)⟩
        -- True 0 1
        · go_upto_region 11 with fail
          go_quiet (fail)
          go_wp2_with fail
          go_roundw
          case rel =>
            have e := BOK.out
            have e2 := BU.out
            rw [HU.out, HX.out, HY2.out] at e
            rw [HU.out, HX.out, HY2.out] at e2
            exact ⟨k + 1, j + nq, by omega, by rw [e2]; rfl, by go_num, by rw [e, HOK.out]; rfl, by first | rfl | simp [World.drewN_drewN]⟩
          case measure => simp [intOf] <;> omega
        -- True 1 0
        · go_upto_region 11 with fail
          go_quiet (fail)
          go_wp2_with fail
          go_ret
          have e := BOK.out
          rw [HU.out, HX.out, HY2.out] at e
          exact ⟨congrArg (fun b => Ending.returned (.bool b)) (HBAD.out (e.trans (by rw [HOK.out]; rfl))), B3.out.trans ((Below.drewN (Below.refl w3.heap.size w3) _).mono B3.out.size)⟩
        -- True 1 1
        · go_upto_region 11 with fail
          go_quiet (fail)
          go_wp2_with fail
          go_ret
          have e := BOK.out
          rw [HU.out, HX.out, HY2.out] at e
          exact ⟨congrArg (fun b => Ending.returned (.bool b)) (HBAD.out (e.trans (by rw [HOK.out]; rfl))), B3.out.trans ((Below.drewN (Below.refl w3.heap.size w3) _).mono B3.out.size)⟩
        -- False 0 0
        · go_upto_region 11 with fail
          go_quiet (fail)
          go_wp2_with fail
          go_roundw
          case rel =>
            have e := BOK.out
            have e2 := BU.out
            rw [HU.out, HX.out, HY2.out] at e
            rw [HU.out, HX.out, HY2.out] at e2
            exact ⟨k + 1, j + nq, by omega, by rw [e2]; rfl, by go_num, by rw [e, HOK.out]; rfl, by first | rfl | simp [World.drewN_drewN]⟩
          case measure => simp [intOf] <;> omega
        -- False 0 1
        · go_upto_region 11 with fail
          go_quiet (fail)
          go_wp2_with fail
          go_roundw
          case rel =>
            have e := BOK.out
            have e2 := BU.out
            rw [HU.out, HX.out, HY2.out] at e
            rw [HU.out, HX.out, HY2.out] at e2
            exact ⟨k + 1, j + nq, by omega, by rw [e2]; rfl, by go_num, by rw [e, HOK.out]; rfl, by first | rfl | simp [World.drewN_drewN]⟩
          case measure => simp [intOf] <;> omega
        -- False 1 0
        · go_upto_region 11 with fail
          go_quiet (fail)
          go_wp2_with fail
          go_ret
          have e := BOK.out
          rw [HU.out, HX.out, HY2.out] at e
          exact ⟨congrArg (fun b => Ending.returned (.bool b)) (HBAD.out (e.trans (by rw [HOK.out]; rfl))), B3.out.trans ((Below.drewN (Below.refl w3.heap.size w3) _).mono B3.out.size)⟩
        -- False 1 1
        · go_upto_region 11 with fail
          go_quiet (fail)
          go_wp2_with fail
          go_roundw
          case rel =>
            have e := BOK.out
            have e2 := BU.out
            rw [HU.out, HX.out, HY2.out] at e
            rw [HU.out, HX.out, HY2.out] at e2
            exact ⟨k + 1, j + nq, by omega, by rw [e2]; rfl, by go_num, by rw [e, HOK.out]; rfl, by first | rfl | simp [World.drewN_drewN]⟩
          case measure => simp [intOf] <;> omega
      · obtain rfl : k = 64 * n2 := by omega
        go_wp2_with fail
        go_ret
        exact ⟨congrArg (fun b => Ending.returned (.bool b)) (by rw [HH.out, HOK.out]), B3.out.trans ((Below.drewN (Below.refl w3.heap.size w3) _).mono B3.out.size)⟩
end Go.Proofs.Ytbhpmigblkaihaa.Zr

/- Ranges, plainly; and lists of boxes of one's own. -/
namespace Go.Proofs.Ytbhpmigblkaihaa.Zr
open Go.RowKit Go.Proofs.Ytbhpmigblkaihaa.Mo

/-- The first place at which two corners' bits are unlike. -/
def fu (L H : List Int) : Nat → Option Nat
  | 0 => none
  | n + 1 => match fu L H n with
    | some t => some t
    | none => if Mm.cbit L n ≠ Mm.cbit H n then some n else none
theorem fu_none {L H : List Int} : ∀ n, (∀ i, i < n → Mm.cbit L i = Mm.cbit H i) → fu L H n = none
  | 0, _ => rfl
  | n + 1, h => by
    unfold fu
    rw [fu_none n (fun i hi => h i (by omega))]
    simp [h n (by omega)]
theorem fu_some {L H : List Int} {t : Nat} (h1 : ∀ i, i < t → Mm.cbit L i = Mm.cbit H i) (h2 : Mm.cbit L t ≠ Mm.cbit H t) : ∀ n, t < n → fu L H n = some t
  | 0, h => by omega
  | n + 1, h => by
    unfold fu
    by_cases e : t = n
    · subst e
      rw [fu_none t h1]
      simp [h2]
    · rw [fu_some h1 h2 n (by omega)]
/-- The document's ranges of a box. -/
def rgs : Nat → List Int → List Int → List (List Int × List Int)
  | 0, L, H => [(L, H)]
  | k + 1, L, H => match fu L H (64 * L.length) with
    | none => [(L, H)]
    | some n => if blockB L H L.length H.length = true then [(L, H)] else rgs k (pLo L L n) (pHi L H L n) ++ rgs k (pLo L H n) (pHi L H H n)
theorem rgs_none {k : Nat} {L H : List Int} (h : ∀ i, i < 64 * L.length → Mm.cbit L i = Mm.cbit H i) : rgs k L H = [(L, H)] := by
  cases k with
  | zero => rfl
  | succ k => unfold rgs; rw [fu_none _ h]
theorem rgs_block {k : Nat} {L H : List Int} (h : blockB L H L.length H.length = true) : rgs k L H = [(L, H)] := by
  cases k with
  | zero => rfl
  | succ k =>
    unfold rgs
    cases fu L H (64 * L.length) with
    | none => rfl
    | some n => simp [h]
theorem rgs_more {k n : Nat} {L H : List Int} (hn : n < 64 * L.length) (h1 : ∀ i, i < n → Mm.cbit L i = Mm.cbit H i) (h2 : Mm.cbit L n ≠ Mm.cbit H n) (h : blockB L H L.length H.length = false) :
    rgs (k + 1) L H = rgs k (pLo L L n) (pHi L H L n) ++ rgs k (pLo L H n) (pHi L H H n) := by
  rw [rgs, fu_some h1 h2 _ hn]
  simp [h]
theorem rgs_length : ∀ (k : Nat) (L H : List Int), (rgs k L H).length ≤ 2 ^ k
  | 0, L, H => by simp [rgs]
  | k + 1, L, H => by
    have hp := Nat.two_pow_pos k
    unfold rgs
    cases fu L H (64 * L.length) with
    | none => simp; omega
    | some n =>
      simp only
      split
      · simp; omega
      · have a := rgs_length k (pLo L L n) (pHi L H L n)
        have b := rgs_length k (pLo L H n) (pHi L H H n)
        rw [List.length_append, Nat.pow_succ]
        omega
/-- A box of a list, and where its corners lie. -/
structure BV where
  p : Option Addr
  n : Nat
  c : Nat
  q : Option Addr
  m : Nat
  e : Nat
  L : List Int
  H : List Int
def BV.ok (w : World) (b : BV) : Prop := Ints w b.p b.n b.c b.L ∧ Ints w b.q b.m b.e b.H
def BV.vals (b : BV) : List Value := [.slice b.p b.n b.c, .slice b.q b.m b.e]
def bvs (l : List BV) : List Value := l.flatMap BV.vals
theorem bvs_append (a b : List BV) : bvs (a ++ b) = bvs a ++ bvs b := by simp [bvs]
theorem bvs_length (l : List BV) : (bvs l).length = l.length * 2 := by
  induction l with
  | nil => rfl
  | cons b l ih =>
    show (b.vals ++ bvs l).length = _
    rw [List.length_append, ih, List.length_cons]
    show 2 + l.length * 2 = _
    omega
theorem bvs_one (l : List BV) : ∀ u ∈ bvs l, u.oneCell' = true := by
  intro u hu
  simp only [bvs, List.mem_flatMap, BV.vals] at hu
  obtain ⟨b, _, hb⟩ := hu
  simp at hb
  rcases hb with rfl | rfl <;> rfl
/-- Where a told box's corners lie: not in the list's own block; in an argument's block, or in none that was there ahead. -/
def BV.sep (w : World) (q1 q2 : Option Addr) (own : Option Nat) (b : BV) : Prop := ∀ a, (b.p = some a ∨ b.q = some a) → own ≠ some a.block ∧ (w.heap.size ≤ a.block ∨ ∃ y, (q1 = some y ∨ q2 = some y) ∧ y.block = a.block)
/-- What Ranges tells. -/
def RangesPost (w : World) (k : Nat) (L H : List Int) (q1 q2 : Option Addr) (e : Ending) (w' : World) : Prop := ∃ (v : Value) (l : List BV), e = .returned v ∧ l.map (fun b => (b.L, b.H)) = rgs k L H ∧ w'.ownsRow w.heap.size 26 2 v l.length (bvs l) ∧ (∀ b ∈ l, b.ok w' ∧ b.sep w q1 q2 v.ownBlock) ∧ Below w.heap.size w w'
theorem rgs_pos : ∀ (k : Nat) (L H : List Int), 0 < (rgs k L H).length
  | 0, L, H => by simp [rgs]
  | k + 1, L, H => by
    unfold rgs
    cases fu L H (64 * L.length) with
    | none => simp
    | some n =>
      simp only
      split
      · simp
      · have a := rgs_pos k (pLo L L n) (pHi L H L n)
        rw [List.length_append]
        omega
theorem ints_lt {w : World} {a : Addr} {n c : Nat} {R : List Int} (h : Ints w (some a) n c R) (hn : 1 ≤ n) : a.block < w.heap.size := by
  obtain ⟨g, o, hp, hc⟩ := h.cell 0 (by omega)
  simp only [Option.some.injEq] at hp
  subst hp
  exact block_lt_of_cell hc
theorem single_post {w wx : World} {k : Nat} {L H : List Int} {q1 q2 : Option Addr} {d c1 c2 : Nat} (hb : Below w.heap.size w wx) (i1 : Ints wx q1 d c1 L) (i2 : Ints wx q2 d c2 H) (hd : 1 ≤ d) (hs : rgs k L H = [(L, H)]) :
    RangesPost w k L H q1 q2 (.returned (.slice (some ⟨wx.heap.size, 0, none⟩) 1 1)) (wx.alloc (.cells #[.slice q1 d c1, .slice q2 d c2] 26)) := by
  have ha : Below wx.heap.size wx (wx.alloc (.cells #[.slice q1 d c1, .slice q2 d c2] 26)) := (Below.refl _ _).alloc (Nat.le_refl _) _
  refine ⟨_, [⟨q1, d, c1, q2, d, c2, L, H⟩], rfl, hs.symm, ⟨rfl, Or.inr ⟨wx.heap.size, 1, #[.slice q1 d c1, .slice q2 d c2], rfl, hb.size, heap_alloc_new wx _, Nat.le_refl _, by unfold maxLen; omega, rfl, rfl⟩⟩, ?_, hb.trans (ha.mono hb.size)⟩
  intro b hbm
  simp only [List.mem_singleton] at hbm
  subst hbm
  refine ⟨⟨i1.later ha, i2.later ha⟩, fun a hq => ⟨?_, Or.inr ⟨a, hq, rfl⟩⟩⟩
  intro e
  have e2 : wx.heap.size = a.block := by simpa [Value.ownBlock] using e
  rcases hq with hq | hq
  · have : q1 = some a := hq
    subst this
    have := ints_lt i1 hd
    omega
  · have : q2 = some a := hq
    subst this
    have := ints_lt i2 hd
    omega
theorem I26 : (Try.prog.info? 26).map (fun i => (i.zero, i.size, i.bytes)) = some (some (.agg #[.slice none 0 0, .slice none 0 0]), 2, 48) := by kernel_rfl
theorem U43 : Try.prog.underlying 43 = some (.slice 26) := by kernel_rfl
theorem own_some {w : World} {base n : Nat} {v : Value} {l : List BV} (h : w.ownsRow base 26 2 v n (bvs l)) (hn : 0 < n) : ∃ g c, v = .slice (some ⟨g, 0, none⟩) n c ∧ base ≤ g ∧ g < w.heap.size ∧ ∀ j u, (bvs l)[j]? = some u → w.cell? ((⟨g, 0, none⟩ : Addr).add j) = some u := by
  rcases h.2 with ⟨rfl, h0⟩ | ⟨g, cap, cur, rfl, hg, hh, h5, h6, h7, h8⟩
  · omega
  · refine ⟨g, cap, rfl, hg, (Array.getElem?_eq_some_iff.1 hh).1, fun j u hj => ?_⟩
    rw [Addr.add_mid, Nat.zero_add, cell_of_row w g j _ _ _ hh]
    rw [← h8] at hj
    have := (List.getElem?_eq_some_iff.1 hj).1
    rw [List.length_take] at this
    rw [List.getElem?_take_of_lt (by omega), Array.getElem?_toList] at hj
    exact hj
theorem appB {o : Oper} {a : Act} {w : World} {K : Act → World → Prop} {Q : Exit → Act → World → Prop} (s x : Operand)
    (ho : o.op = .call { callee := .builtin .append, args := #[s, x], argTypes := #[43, 43] }) (base b2 : Nat) (v u : Value) (n m : Nat) (l r : List BV) (hs : a.eval s = v) (hx : a.eval x = u) (hown : w.ownsRow base 26 2 v n (bvs l))
    (hown2 : w.ownsRow b2 26 2 u m (bvs r)) (hm : 0 < m) (hr : r.length = m) (hn : n + m ≤ 100000) (hbase : base ≤ w.heap.size)
    (h : ∀ v' w', w'.ownsRow base 26 2 v' (n + m) (bvs (l ++ r)) → w.grownBy w' v.ownBlock → (v'.ownBlock = v.ownBlock ∨ v'.ownBlock = some w.heap.size) → K (a.put o.dst v') w') : o.wp Try.prog a w K Q := by
  obtain ⟨i, hi, hi0, hi1, hi2⟩ := info_parts I26
  obtain ⟨g, c, rfl, -, -, hc⟩ := own_some hown2 hm
  obtain ⟨v', w', hrun, h2, h3, _, h5⟩ := run_append_own_at (P := Try.prog) w base 43 o.type 26 i (.agg #[.slice none 0 0, .slice none 0 0]) 2 48 U43 hi hi0 hi1 hi2 rfl (by decide) v n (bvs l) hown ⟨g, 0, none⟩ m c (bvs r) (by rw [bvs_length, hr])
    hc (bvs_one r) (by unfold maxLen; omega) (by omega) hbase
  unfold Oper.wp execOp
  simp only [ho, resolve, invoke, builtin, Sem.run_bind, Sem.run_pure, Result.andThen_ok, List.map_toArray, List.map_cons, List.map_nil, hs, hx, hrun]
  exact h v' w' (by rw [bvs_append]; exact h2) h3 h5
theorem part_right {L H : List Int} {d n : Nat} {C : List Int} (g1 : 1 ≤ d) (g8 : d ≤ 8) (lL : d = L.length) (h : Zm.meets (Zm.rlo (Mm.cbit C) (n + 1) d) (Zm.rhi (Mm.cbit C) (n + 1) d) L H) : rightB (pLo L C n) (pHi L H C n) d d d = true := by
  rw [rightB_les ⟨g1, g8⟩]
  refine (les_iff _ _ _).2 fun k hk => ?_
  unfold pLo pHi
  rw [← lL, Zm.cutLo_get _ _ _ (by rw [Zm.rlo_length]; exact hk), Zm.cutHi_get _ _ _ (by rw [Zm.rhi_length]; exact hk)]
  exact h k (by rw [Zm.rlo_length]; exact hk)
theorem pLo_length (L C : List Int) (n : Nat) : (pLo L C n).length = L.length := by unfold pLo; rw [Zm.cutLo_length, Zm.rlo_length]
theorem pHi_length (L H C : List Int) (n : Nat) : (pHi L H C n).length = L.length := by unfold pHi; rw [Zm.cutHi_length, Zm.rhi_length]
theorem ownb_later {w w' : World} {base : Nat} {v : Value} {n : Nat} {xs : List Value} (h : w.ownsRow base 26 2 v n xs) (hb : Below w.heap.size w w') : w'.ownsRow base 26 2 v n xs := by
  obtain ⟨h1, h2⟩ := h
  refine ⟨h1, h2.imp id ?_⟩
  rintro ⟨g, cap, cur, rfl, hg, hh, r⟩
  exact ⟨g, cap, cur, rfl, hg, (hb.block g (Array.getElem?_eq_some_iff.1 hh).1).trans hh, r⟩
end Go.Proofs.Ytbhpmigblkaihaa.Zr

/- Plain: each point of a box is in just one of its ranges, and they stand in the order of codes. -/
namespace Go.Proofs.Ytbhpmigblkaihaa.Zr
open Go.RowKit Go.Proofs.Ytbhpmigblkaihaa.Mo Zm Mm
theorem fu_spec {L H : List Int} : ∀ m n, fu L H m = some n → n < m ∧ (∀ i, i < n → cbit L i = cbit H i) ∧ cbit L n ≠ cbit H n
  | 0, n, h => by simp [fu] at h
  | m + 1, n, h => by
    rcases first_unlike (cbit L) (cbit H) (m + 1) with e | ⟨t, h1, h2, h3⟩
    · rw [fu_none _ e] at h
      simp at h
    · rw [fu_some h2 h3 _ h1] at h
      simp only [Option.some.injEq] at h
      subst h
      exact ⟨h1, h2, h3⟩
/-- A box that is right. -/
structure BX (L H : List Int) : Prop where
  l : inI L
  h : inI H
  len : H.length = L.length
  right : rightB L H L.length L.length L.length = true
theorem BX.le {L H : List Int} (b : BX L H) : ∀ k, k < L.length → L.getD k 0 ≤ H.getD k 0 := by
  obtain ⟨d1, d8, -, -⟩ := rightB_dims b.right
  exact (les_iff _ _ _).1 (by rw [← rightB_les (n := L.length) ⟨by omega, by omega⟩]; exact b.right)
theorem BX.parts {L H : List Int} (b : BX L H) {n : Nat} (hn : n < 64 * L.length) (he : ∀ i, i < n → cbit L i = cbit H i) : BX (pLo L L n) (pHi L H L n) ∧ BX (pLo L H n) (pHi L H H n) := by
  obtain ⟨d1, d8, -, -⟩ := rightB_dims b.right
  have hm := part_meets (d := L.length) (by omega) rfl b.len.symm b.l b.h b.right hn he
  exact ⟨⟨cutLo_in (rlo_in (cbit_lt L) _ _) b.l, cutHi_in (rhi_in (cbit_lt L) _ _) b.h, by rw [pLo_length, pHi_length], by rw [pLo_length]; exact part_right (by omega) (by omega) rfl hm.1⟩,
    ⟨cutLo_in (rlo_in (cbit_lt H) _ _) b.l, cutHi_in (rhi_in (cbit_lt H) _ _) b.h, by rw [pLo_length, pHi_length], by rw [pLo_length]; exact part_right (by omega) (by omega) rfl hm.2⟩⟩
theorem BX.in_parts {L H P : List Int} (b : BX L H) (hP : inI P) (lP : P.length = L.length) {n : Nat} (hn : n < 64 * L.length) (he : ∀ i, i < n → cbit L i = cbit H i) (hne : cbit L n ≠ cbit H n) :
    (inB (pLo L L n) (pHi L H L n) P ↔ inB L H P ∧ cbit P n = 0) ∧ (inB (pLo L H n) (pHi L H H n) P ↔ inB L H P ∧ cbit P n = 1) := by
  obtain ⟨c0, c1⟩ := corner_bit b.l b.h b.len b.le hn he hne
  exact ⟨part_iff b.l b.h hP b.len lP (by omega) hn he (fun i _ => rfl) c0 (cbit_lt L), part_iff b.l b.h hP b.len lP (by omega) hn he (fun i hi => (he i hi).symm) c1 (cbit_lt H)⟩
theorem rgs_sub : ∀ (k : Nat) {L H P : List Int}, BX L H → inI P → P.length = L.length → ∀ x ∈ rgs k L H, inB x.1 x.2 P → inB L H P
  | 0, L, H, P, b, hP, lP, x, hx, h => by
    simp [rgs] at hx
    subst hx
    exact h
  | k + 1, L, H, P, b, hP, lP, x, hx, h => by
    unfold rgs at hx
    cases e : fu L H (64 * L.length) with
    | none =>
      rw [e] at hx
      simp at hx
      subst hx
      exact h
    | some n =>
      obtain ⟨hn, he, hne⟩ := fu_spec _ _ e
      obtain ⟨b1, b2⟩ := b.parts hn he
      obtain ⟨i1, i2⟩ := b.in_parts hP lP hn he hne
      rw [e] at hx
      simp only at hx
      split at hx
      · simp at hx
        subst hx
        exact h
      · rcases List.mem_append.1 hx with hx | hx
        · exact (i1.1 (rgs_sub k b1 hP (by rw [pLo_length]; exact lP) x hx h)).1
        · exact (i2.1 (rgs_sub k b2 hP (by rw [pLo_length]; exact lP) x hx h)).1
theorem rgs_some : ∀ (k : Nat) {L H P : List Int}, BX L H → inI P → P.length = L.length → inB L H P → ∃ x ∈ rgs k L H, inB x.1 x.2 P
  | 0, L, H, P, b, hP, lP, h => ⟨(L, H), by simp [rgs], h⟩
  | k + 1, L, H, P, b, hP, lP, h => by
    cases e : fu L H (64 * L.length) with
    | none => exact ⟨(L, H), by unfold rgs; rw [e]; simp, h⟩
    | some n =>
      obtain ⟨hn, he, hne⟩ := fu_spec _ _ e
      obtain ⟨b1, b2⟩ := b.parts hn he
      obtain ⟨i1, i2⟩ := b.in_parts hP lP hn he hne
      cases hb : blockB L H L.length H.length with
      | true => exact ⟨(L, H), by rw [rgs_block hb]; simp, h⟩
      | false =>
        rw [rgs_more hn he hne hb]
        have hc := cbit_lt P n
        by_cases c : cbit P n = 0
        · obtain ⟨x, hx, hi⟩ := rgs_some k b1 hP (by rw [pLo_length]; exact lP) (i1.2 ⟨h, c⟩)
          exact ⟨x, List.mem_append.2 (Or.inl hx), hi⟩
        · obtain ⟨x, hx, hi⟩ := rgs_some k b2 hP (by rw [pLo_length]; exact lP) (i2.2 ⟨h, by omega⟩)
          exact ⟨x, List.mem_append.2 (Or.inr hx), hi⟩
def Ahead (d : Nat) (x y : List Int × List Int) : Prop := ∀ P Q, inI P → inI Q → P.length = d → Q.length = d → inB x.1 x.2 P → inB y.1 y.2 Q → Cm.cmpL (code P) (code Q) < 0
theorem rgs_order : ∀ (k : Nat) {L H : List Int}, BX L H → (rgs k L H).Pairwise (Ahead L.length)
  | 0, L, H, b => by simp [rgs]
  | k + 1, L, H, b => by
    cases e : fu L H (64 * L.length) with
    | none => unfold rgs; rw [e]; simp
    | some n =>
      obtain ⟨hn, he, hne⟩ := fu_spec _ _ e
      obtain ⟨b1, b2⟩ := b.parts hn he
      cases hb : blockB L H L.length H.length with
      | true => rw [rgs_block hb]; simp
      | false =>
        rw [rgs_more hn he hne hb]
        have o1 := rgs_order k b1
        have o2 := rgs_order k b2
        rw [pLo_length] at o1 o2
        refine List.pairwise_append.2 ⟨o1, o2, fun x hx y hy P Q hP hQ lP lQ h1 h2 => ?_⟩
        have s1 := rgs_sub k b1 hP (by rw [pLo_length]; exact lP) x hx h1
        have s2 := rgs_sub k b2 hQ (by rw [pLo_length]; exact lQ) y hy h2
        obtain ⟨p1, p0⟩ := (b.in_parts hP lP hn he hne).1.1 s1
        obtain ⟨q1, q0⟩ := (b.in_parts hQ lQ hn he hne).2.1 s2
        exact parts_order b.l b.h hP hQ b.len lP lQ hn he p1 q1 p0 q0
/-- At most one of them holds a point. -/
theorem rgs_one {k : Nat} {L H P : List Int} (b : BX L H) (hP : inI P) (lP : P.length = L.length) {i j : Nat} (hi : i < (rgs k L H).length) (hj : j < (rgs k L H).length) (h1 : inB (rgs k L H)[i].1 (rgs k L H)[i].2 P) (h2 : inB (rgs k L H)[j].1 (rgs k L H)[j].2 P) : i = j := by
  have ho := List.pairwise_iff_getElem.1 (rgs_order k b)
  rcases Nat.lt_trichotomy i j with c | c | c
  · have := ho i j hi hj c P P hP hP lP lP h1 h2
    rw [cmp_refl] at this
    omega
  · exact c
  · have := ho j i hj hi c P P hP hP lP lP h2 h1
    rw [cmp_refl] at this
    omega
end Go.Proofs.Ytbhpmigblkaihaa.Zr
