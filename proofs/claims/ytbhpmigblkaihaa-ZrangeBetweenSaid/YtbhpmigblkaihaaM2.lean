/- ZpTurned, GenEqs, BoxRefB, BoxEach, MorBit, MorLen, MorOrd, MorAhead, ZrTwo, ZrMath, ZrFind, MorRefA, MorRefB, MorRefBit. -/
import Derived.Test.YtbhpmigblkaihaaM1
import Derived.Lib.BitFns
import Derived.Lib.Walk
import Derived.Lib.Strings
import Derived.Lib.Small
/- The program: zrange.turned, over whatever function of a side; Split's two functions. -/
namespace Go.Proofs.Ytbhpmigblkaihaa.Zr
open Go.RowKit

theorem own_keep1 {w w' : World} {base g n c : Nat} {N : List Int} (h : OwnRow w base g n c N) (hk : w'.heap[g]? = w.heap[g]?) : OwnRow w' base g n c N := by
  obtain ⟨x1, x2⟩ := h
  refine ⟨x1, x2.imp id ?_⟩
  rintro ⟨g', cap, cur, hv, hg, hh, r⟩
  obtain ⟨rfl, rfl⟩ : g = g' ∧ c = cap := by simpa using hv
  exact ⟨g, c, cur, rfl, hg, hk.trans hh, r⟩
theorem own_cell {w : World} {base g n c : Nat} {N : List Int} (h : OwnRow w base g n c N) (k : Nat) (hk : k < n) : w.cell? ⟨g, k, none⟩ = some (.int .i64 (N.getD k 0)) := by
  have := World.ownsRow.cellAt h k (by have := h.length; rw [Nat.mul_one]; exact hk)
  rw [this, ivs_get N k (by have := h.length; omega)]
theorem own_free {w : World} {base g n c : Nat} {N : List Int} (h : OwnRow w base g n c N) (k : Nat) : w.frozen? ⟨g, k, none⟩ = false := by
  rcases h.2 with ⟨h1, _⟩ | ⟨g', cap, cur, hv, hb, hg, r⟩
  · simp at h1
  · obtain ⟨rfl, rfl⟩ : g = g' ∧ c = cap := by simpa using hv
    exact frozen_of_row w g k _ _ hg
/-- What lies there while a side is turned. -/
structure TuH (w0 w1 w : World) (gb g1 g2 d k1 k2 : Nat) (q1 q2 : Option Addr) (c1 c2 : Nat) (L H A B : List Int) : Prop where
  cp : CpH w0 w1 q1 q2 d c1 c2 L H
  rows : Rows2 w1 w g1 g2 d k1 k2 A B
  bx : w.heap[gb]? = some (.cells #[.slice (some ⟨g1, 0, none⟩) d k1, .slice (some ⟨g2, 0, none⟩) d k2] 26 (0, 0))
  gb1 : w1.heap.size ≤ gb
  ne : gb ≠ g1 ∧ gb ≠ g2
theorem TuH.later {w0 w1 w w' : World} {gb g1 g2 d k1 k2 : Nat} {q1 q2 : Option Addr} {c1 c2 : Nat} {L H A B : List Int} (h : TuH w0 w1 w gb g1 g2 d k1 k2 q1 q2 c1 c2 L H A B) (hb : Below w.heap.size w w') : TuH w0 w1 w' gb g1 g2 d k1 k2 q1 q2 c1 c2 L H A B :=
  ⟨h.cp, h.rows.later hb, (hb.block _ (Array.getElem?_eq_some_iff.1 h.bx).1).trans h.bx, h.gb1, h.ne⟩
theorem TuH.set1 {w0 w1 w : World} {gb g1 g2 d k1 k2 : Nat} {q1 q2 : Option Addr} {c1 c2 : Nat} {L H A B : List Int} (h : TuH w0 w1 w gb g1 g2 d k1 k2 q1 q2 c1 c2 L H A B) (s : Nat) (x : Int) :
    TuH w0 w1 (w.setCell ⟨g1, s, none⟩ (.int .i64 x)) gb g1 g2 d k1 k2 q1 q2 c1 c2 L H (A.set s x) B :=
  ⟨h.cp, ⟨h.rows.o1.set s x, own_keep1 h.rows.o2 (heap_setCell_other _ _ _ _ (Ne.symm h.rows.ne)), h.rows.ge1, h.rows.ge2, h.rows.ne, h.rows.low.setCell (p := ⟨g1, s, none⟩) h.rows.ge1 _⟩,
    (heap_setCell_other _ _ _ _ h.ne.1).trans h.bx, h.gb1, h.ne⟩
theorem TuH.set2 {w0 w1 w : World} {gb g1 g2 d k1 k2 : Nat} {q1 q2 : Option Addr} {c1 c2 : Nat} {L H A B : List Int} (h : TuH w0 w1 w gb g1 g2 d k1 k2 q1 q2 c1 c2 L H A B) (s : Nat) (y : Int) :
    TuH w0 w1 (w.setCell ⟨g2, s, none⟩ (.int .i64 y)) gb g1 g2 d k1 k2 q1 q2 c1 c2 L H A (B.set s y) :=
  ⟨h.cp, ⟨own_keep1 h.rows.o1 (heap_setCell_other _ _ _ _ h.rows.ne), h.rows.o2.set s y, h.rows.ge1, h.rows.ge2, h.rows.ne, h.rows.low.setCell (p := ⟨g2, s, none⟩) h.rows.ge2 _⟩,
    (heap_setCell_other _ _ _ _ h.ne.2).trans h.bx, h.gb1, h.ne⟩
structure TuC (g0 gb g1 g2 d k1 k2 s : Nat) (q1 q2 : Option Addr) (c1 c2 : Nat) (x y u : Value) (w : World) : Prop where
  a0 : w.cell? ⟨g0, 0, none⟩ = some (.slice q1 d c1)
  a1 : w.cell? ⟨g0, 1, none⟩ = some (.slice q2 d c2)
  b0 : w.cell? ⟨gb, 0, none⟩ = some (.slice (some ⟨g1, 0, none⟩) d k1)
  b1 : w.cell? ⟨gb, 1, none⟩ = some (.slice (some ⟨g2, 0, none⟩) d k2)
  c1 : w.cell? ⟨g1, s, none⟩ = some x
  c2 : w.cell? ⟨g2, s, none⟩ = some y
  f1 : w.frozen? ⟨g1, s, none⟩ = false
  f2 : w.frozen? ⟨g2, s, none⟩ = false
  d1 : (w.setCell ⟨g1, s, none⟩ u).cell? ⟨gb, 1, none⟩ = some (.slice (some ⟨g2, 0, none⟩) d k2)
  e2 : (w.setCell ⟨g1, s, none⟩ u).cell? ⟨g2, s, none⟩ = some y
  h2 : (w.setCell ⟨g1, s, none⟩ u).frozen? ⟨g2, s, none⟩ = false
theorem TuH.cells {w0 w1 w : World} {gb g1 g2 d k1 k2 : Nat} {q1 q2 : Option Addr} {c1 c2 : Nat} {L H A B : List Int} (h : TuH w0 w1 w gb g1 g2 d k1 k2 q1 q2 c1 c2 L H A B) (s : Nat) (hs : s < d) (u : Value) : TuC w0.heap.size gb g1 g2 d k1 k2 s q1 q2 c1 c2 (.int .i64 (A.getD s 0)) (.int .i64 (B.getD s 0)) u w := by
  obtain ⟨a0, a1, -⟩ := (h.cp.later h.rows.low).cells
  have r2 := own_keep1 (w' := w.setCell ⟨g1, s, none⟩ u) h.rows.o2 (heap_setCell_other _ _ _ _ (Ne.symm h.rows.ne))
  have hb : (w.setCell ⟨g1, s, none⟩ u).heap[gb]? = _ := (heap_setCell_other _ _ _ _ h.ne.1).trans h.bx
  exact ⟨a0, a1, cell_of_row w gb 0 _ _ _ h.bx, cell_of_row w gb 1 _ _ _ h.bx, own_cell h.rows.o1 s hs, own_cell h.rows.o2 s hs, own_free h.rows.o1 s, own_free h.rows.o2 s, cell_of_row _ gb 1 _ _ _ hb, own_cell r2 s hs, own_free r2 s⟩
theorem TuH.nums {w0 w1 w : World} {gb g1 g2 d k1 k2 : Nat} {q1 q2 : Option Addr} {c1 c2 : Nat} {L H A B : List Int} (h : TuH w0 w1 w gb g1 g2 d k1 k2 q1 q2 c1 c2 L H A B) : Ints w q1 d c1 L ∧ Ints w q2 d c2 H := ⟨(h.cp.later h.rows.low).i1, (h.cp.later h.rows.low).i2⟩
theorem TuH.told {w0 w1 w : World} {gb g1 g2 d k1 k2 : Nat} {q1 q2 : Option Addr} {c1 c2 : Nat} {L H A B : List Int} (h : TuH w0 w1 w gb g1 g2 d k1 k2 q1 q2 c1 c2 L H A B) (a b : Value) :
    Rows2 w0 ((w.setCell ⟨w0.heap.size + 1, 0, none⟩ a).setCell ⟨w0.heap.size + 1, 1, none⟩ b) g1 g2 d k1 k2 A B ∧
    ((w.setCell ⟨w0.heap.size + 1, 0, none⟩ a).setCell ⟨w0.heap.size + 1, 1, none⟩ b).cell? ⟨w0.heap.size + 1, 0, none⟩ = some a ∧ ((w.setCell ⟨w0.heap.size + 1, 0, none⟩ a).setCell ⟨w0.heap.size + 1, 1, none⟩ b).cell? ⟨w0.heap.size + 1, 1, none⟩ = some b := by
  have hsz : w0.heap.size + 1 < w1.heap.size := (Array.getElem?_eq_some_iff.1 h.cp.b).1
  have hB := h.cp.later h.rows.low
  have r1 := heap_setCell_same w (w0.heap.size + 1) 0 _ _ a hB.b
  have r2 := heap_setCell_same _ (w0.heap.size + 1) 1 _ _ b r1
  have ot : ∀ g, g ≠ w0.heap.size + 1 → ((w.setCell ⟨w0.heap.size + 1, 0, none⟩ a).setCell ⟨w0.heap.size + 1, 1, none⟩ b).heap[g]? = w.heap[g]? := fun g hg => (heap_setCell_other _ _ _ _ hg).trans (heap_setCell_other _ _ _ _ hg)
  have e1 := h.rows.ge1
  have e2 := h.rows.ge2
  exact ⟨⟨own_base (own_keep1 h.rows.o1 (ot g1 (by omega))) (by omega), own_base (own_keep1 h.rows.o2 (ot g2 (by omega))) (by omega), by omega, by omega, h.rows.ne,
    (hB.low.setCell (p := ⟨w0.heap.size + 1, 0, none⟩) (by show w0.heap.size ≤ w0.heap.size + 1; omega) _).setCell (p := ⟨w0.heap.size + 1, 1, none⟩) (by show w0.heap.size ≤ w0.heap.size + 1; omega) _⟩, cell_of_row _ _ 0 _ _ _ r2, cell_of_row _ _ 1 _ _ _ r2⟩
theorem tuh_start {w0 w1 w : World} {g1 g2 d k1 k2 : Nat} {q1 q2 : Option Addr} {c1 c2 : Nat} {L H : List Int} (h : CpH w0 w1 q1 q2 d c1 c2 L H) (hr : Rows2 w1 w g1 g2 d k1 k2 L H) :
    TuH w0 w1 (w.alloc (.cells #[.slice (some ⟨g1, 0, none⟩) d k1, .slice (some ⟨g2, 0, none⟩) d k2] 26)) w.heap.size g1 g2 d k1 k2 q1 q2 c1 c2 L H L H := by
  have h1 := own_lt hr.o1
  have h2 := own_lt hr.o2
  exact ⟨h, hr.later ((Below.refl _ _).alloc (Nat.le_refl _) _), heap_alloc_new w _, hr.low.size, by omega⟩
def TurnedPost (w : World) (d : Nat) (A B : List Int) (e : Ending) (w' : World) : Prop :=
  ∃ g1 k1 g2 k2, e = .returned (.agg #[.slice (some ⟨g1, 0, none⟩) d k1, .slice (some ⟨g2, 0, none⟩) d k2]) ∧ Rows2 w w' g1 g2 d k1 k2 A B
set_option maxRecDepth 100000 in
set_option maxHeartbeats 4000000 in
theorem turned_any (L H : List Int) (q1 q2 : Option Addr) (d c1 c2 s : Nat) (x y : Int) (F : Nat) (cap : Array Value) (w : World) (h1 : Ints w q1 d c1 L) (h2 : Ints w q2 d c2 H) (hd1 : 1 ≤ d) (hd8 : d ≤ 8) (hs : s < d)
    (hF : ∀ args w, (callFunc F args).run Try.prog w = .ok (.enter F args) w) (hf : ∀ w', Below w.heap.size w w' → Calls Try.prog F (#[.int .i64 (L.getD s 0), .int .i64 (H.getD s 0)] ++ cap) w' fun e w'' => e = .returned (.tuple #[.int .i64 x, .int .i64 y]) ∧ ∃ j, w'' = w'.drewN j) :
    Calls Try.prog 35 #[.agg #[.slice q1 d c1, .slice q2 d c2], .int .i64 s, .func (.func F) #[] cap] w (TurnedPost w d (L.set s x) (H.set s y)) := by
  have hc := cph_start h1 h2
  have HFN := Lib.hid hf
  clear h1 h2 hf
  go_enter Try.func35, Try.ntmps35
  go_upto_region 1 with fail
  generalize (w.alloc (.cells #[.slice q1 d c1, .slice q2 d c2] 26)).alloc (.cells #[.slice none 0 0, .slice none 0 0] 26) = w1 at *
  have HC := Lib.hid hc
  obtain ⟨a0, a1, -⟩ := hc.cells
  clear hc
  go_upto_region 2 with (refine (zclone_any L H q1 q2 d c1 c2 w1 HC.out.i1 HC.out.i2 hd1 hd8).mono ?_; rintro e w2 ⟨g1, k1, g2, k2, rfl, hr⟩; have HR := Lib.hid hr; clear hr)
  have ht := tuh_start HC.out HR.out
  generalize w2.alloc (.cells #[.slice (some ⟨g1, 0, none⟩) d k1, .slice (some ⟨g2, 0, none⟩) d k2] 26) = w3 at *
  have HT := Lib.hid ht
  have HK := Lib.hid (show ∀ w', TuH w w1 w' w2.heap.size g1 g2 d k1 k2 q1 q2 c1 c2 L H L H → Calls Try.prog F (#[.int .i64 (L.getD s 0), .int .i64 (H.getD s 0)] ++ cap) w' fun e w'' => e = .returned (.tuple #[.int .i64 x, .int .i64 y]) ∧ TuH w w1 w'' w2.heap.size g1 g2 d k1 k2 q1 q2 c1 c2 L H L H from fun w' hw' =>
    (HFN.out w' (hw'.cp.later hw'.rows.low).low).mono (by rintro e w'' ⟨h1, j, rfl⟩; exact ⟨h1, hw'.later (Below.drewN (Below.refl _ _) j)⟩))
  have HD := Lib.hid (ht.later (Below.refl _ _).drew)
  obtain ⟨n1, n2⟩ := ht.nums
  obtain ⟨gx, ox, rfl, -⟩ := n1.cell s hs
  obtain ⟨gy, oy, rfl, -⟩ := n2.cell s hs
  have HF := Lib.hid (show ∀ w', (∃ A B, TuH w w1 w' w2.heap.size g1 g2 d k1 k2 (some ⟨gx, ox, none⟩) (some ⟨gy, oy, none⟩) c1 c2 L H A B) → w'.cell? ⟨w.heap.size, 0, none⟩ = some (.slice (some ⟨gx, ox, none⟩) d c1) ∧ w'.cell? ⟨w.heap.size, 1, none⟩ = some (.slice (some ⟨gy, oy, none⟩) d c2) ∧
      w'.cell? ⟨w2.heap.size, 0, none⟩ = some (.slice (some ⟨g1, 0, none⟩) d k1) ∧ w'.cell? ⟨w2.heap.size, 1, none⟩ = some (.slice (some ⟨g2, 0, none⟩) d k2) ∧ w'.cell? ⟨gx, ox + s, none⟩ = some (.int .i64 (L.getD s 0)) ∧ w'.cell? ⟨gy, oy + s, none⟩ = some (.int .i64 (H.getD s 0)) from by
    rintro w' ⟨A, B, hT⟩
    obtain ⟨a0, a1, b0, b1, -⟩ := hT.cells s hs (.int .i64 0)
    obtain ⟨m1, m2⟩ := hT.nums
    obtain ⟨_, _, e1, z1⟩ := m1.cell s hs
    obtain ⟨_, _, e2, z2⟩ := m2.cell s hs
    cases e1
    cases e2
    exact ⟨a0, a1, b0, b1, z1, z2⟩)
  clear n1 n2 ht HC HR HFN a0 a1
  have i1 : (0 : Int) ≤ s ∧ (s : Int) < d := by omega
  generalize L.getD s 0 = xl at *
  generalize H.getD s 0 = xh at *
  -- region 2: gen_turned.py
  refine wp_region_held_drew (S := fun w' => ∃ A B, TuH w w1 w' w2.heap.size g1 g2 d k1 k2 (some ⟨gx, ox, none⟩) (some ⟨gy, oy, none⟩) c1 c2 L H A B) (by kernel_rfl) ⟨_, _, HD.out⟩ (fun hHeld => ?_)
  refine wpAnyH_take (i := 0) (oi := ⟨some 11, .fieldAddr 26 (.tmp 7) 0, _, _, _, _⟩) (v := ?_) rfl (by kernel_rfl) (by kernel_rfl) (by kernel_rfl) (fun _ _ _ h => h) (Or.inl ⟨by rfl, ?_⟩) (by assumption) ?_
  rotate_left
  · intro w' hSw
    go_simp
    try with_reducible rfl
  try simp only [Act.put, List.setIfInBounds_toArray, List.set_cons_zero, List.set_cons_succ]
  refine wpAnyH_take (i := 1) (oi := ⟨some 12, .load 24 (.tmp 11), _, _, _, _⟩) (v := ?_) rfl (by kernel_rfl) (by kernel_rfl) (by kernel_rfl) (fun _ _ _ h => h) (Or.inl ⟨by rfl, ?_⟩) (by assumption) ?_
  rotate_left
  · intro w' hSw
    obtain ⟨a0, a1, b0, b1, hcx, hcy⟩ := HF.out _ hSw
    go_simp
    try with_reducible rfl
  try simp only [Act.put, List.setIfInBounds_toArray, List.set_cons_zero, List.set_cons_succ]
  refine wpAnyH_take (i := 2) (oi := ⟨some 13, .move (.tmp 1), _, _, _, _⟩) (v := ?_) rfl (by kernel_rfl) (by kernel_rfl) (by kernel_rfl) (fun _ _ _ h => h) (Or.inl ⟨by rfl, ?_⟩) (by assumption) ?_
  rotate_left
  · intro w' hSw
    go_simp
    try with_reducible rfl
  try simp only [Act.put, List.setIfInBounds_toArray, List.set_cons_zero, List.set_cons_succ]
  refine wpAnyH_take (i := 3) (oi := ⟨some 14, .fieldAddr 26 (.tmp 7) 1, _, _, _, _⟩) (v := ?_) rfl (by kernel_rfl) (by kernel_rfl) (by kernel_rfl) (fun _ _ _ h => h) (Or.inl ⟨by rfl, ?_⟩) (by assumption) ?_
  rotate_left
  · intro w' hSw
    go_simp
    try with_reducible rfl
  try simp only [Act.put, List.setIfInBounds_toArray, List.set_cons_zero, List.set_cons_succ]
  refine wpAnyH_take (i := 4) (oi := ⟨some 15, .load 24 (.tmp 14), _, _, _, _⟩) (v := ?_) rfl (by kernel_rfl) (by kernel_rfl) (by kernel_rfl) (fun _ _ _ h => h) (Or.inl ⟨by rfl, ?_⟩) (by assumption) ?_
  rotate_left
  · intro w' hSw
    obtain ⟨a0, a1, b0, b1, hcx, hcy⟩ := HF.out _ hSw
    go_simp
    try with_reducible rfl
  try simp only [Act.put, List.setIfInBounds_toArray, List.set_cons_zero, List.set_cons_succ]
  refine wpAnyH_take (i := 5) (oi := ⟨some 16, .move (.tmp 1), _, _, _, _⟩) (v := ?_) rfl (by kernel_rfl) (by kernel_rfl) (by kernel_rfl) (fun _ _ _ h => h) (Or.inl ⟨by rfl, ?_⟩) (by assumption) ?_
  rotate_left
  · intro w' hSw
    go_simp
    try with_reducible rfl
  try simp only [Act.put, List.setIfInBounds_toArray, List.set_cons_zero, List.set_cons_succ]
  refine wpAnyH_take (i := 6) (oi := ⟨some 17, .move (.tmp 2), _, _, _, _⟩) (v := ?_) rfl (by kernel_rfl) (by kernel_rfl) (by kernel_rfl) (fun _ _ _ h => h) (Or.inl ⟨by rfl, ?_⟩) (by assumption) ?_
  rotate_left
  · intro w' hSw
    go_simp
    try with_reducible rfl
  try simp only [Act.put, List.setIfInBounds_toArray, List.set_cons_zero, List.set_cons_succ]
  refine wpAnyH_take (i := 7) (oi := ⟨some 18, .fieldAddr 26 (.tmp 3) 0, _, _, _, _⟩) (v := ?_) rfl (by kernel_rfl) (by kernel_rfl) (by kernel_rfl) (fun _ _ _ h => h) (Or.inl ⟨by rfl, ?_⟩) (by assumption) ?_
  rotate_left
  · intro w' hSw
    go_simp
    try with_reducible rfl
  try simp only [Act.put, List.setIfInBounds_toArray, List.set_cons_zero, List.set_cons_succ]
  refine wpAnyH_take (i := 8) (oi := ⟨some 19, .load 24 (.tmp 18), _, _, _, _⟩) (v := ?_) rfl (by kernel_rfl) (by kernel_rfl) (by kernel_rfl) (fun _ _ _ h => h) (Or.inl ⟨by rfl, ?_⟩) (by assumption) ?_
  rotate_left
  · intro w' hSw
    obtain ⟨a0, a1, b0, b1, hcx, hcy⟩ := HF.out _ hSw
    go_simp
    try with_reducible rfl
  try simp only [Act.put, List.setIfInBounds_toArray, List.set_cons_zero, List.set_cons_succ]
  refine wpAnyH_take (i := 9) (oi := ⟨some 20, .move (.tmp 1), _, _, _, _⟩) (v := ?_) rfl (by kernel_rfl) (by kernel_rfl) (by kernel_rfl) (fun _ _ _ h => h) (Or.inl ⟨by rfl, ?_⟩) (by assumption) ?_
  rotate_left
  · intro w' hSw
    go_simp
    try with_reducible rfl
  try simp only [Act.put, List.setIfInBounds_toArray, List.set_cons_zero, List.set_cons_succ]
  refine wpAnyH_take (i := 10) (oi := ⟨some 21, .indexAddr 24 (.tmp 19) (.tmp 20), _, _, _, _⟩) (v := ?_) rfl (by kernel_rfl) (by kernel_rfl) (by kernel_rfl) (fun _ _ _ h => h) (Or.inl ⟨by rfl, ?_⟩) (by assumption) ?_
  rotate_left
  · intro w' hSw
    go_simp
    try with_reducible rfl
  try simp only [Act.put, List.setIfInBounds_toArray, List.set_cons_zero, List.set_cons_succ]
  refine wpAnyH_take (i := 11) (oi := ⟨some 22, .load 2 (.tmp 21), _, _, _, _⟩) (v := ?_) rfl (by kernel_rfl) (by kernel_rfl) (by kernel_rfl) (fun _ _ _ h => h) (Or.inl ⟨by rfl, ?_⟩) (by assumption) ?_
  rotate_left
  · intro w' hSw
    obtain ⟨a0, a1, b0, b1, hcx, hcy⟩ := HF.out _ hSw
    go_simp
    try with_reducible rfl
  try simp only [Act.put, List.setIfInBounds_toArray, List.set_cons_zero, List.set_cons_succ]
  refine wpAnyH_take (i := 12) (oi := ⟨some 23, .fieldAddr 26 (.tmp 3) 1, _, _, _, _⟩) (v := ?_) rfl (by kernel_rfl) (by kernel_rfl) (by kernel_rfl) (fun _ _ _ h => h) (Or.inl ⟨by rfl, ?_⟩) (by assumption) ?_
  rotate_left
  · intro w' hSw
    go_simp
    try with_reducible rfl
  try simp only [Act.put, List.setIfInBounds_toArray, List.set_cons_zero, List.set_cons_succ]
  refine wpAnyH_take (i := 13) (oi := ⟨some 24, .load 24 (.tmp 23), _, _, _, _⟩) (v := ?_) rfl (by kernel_rfl) (by kernel_rfl) (by kernel_rfl) (fun _ _ _ h => h) (Or.inl ⟨by rfl, ?_⟩) (by assumption) ?_
  rotate_left
  · intro w' hSw
    obtain ⟨a0, a1, b0, b1, hcx, hcy⟩ := HF.out _ hSw
    go_simp
    try with_reducible rfl
  try simp only [Act.put, List.setIfInBounds_toArray, List.set_cons_zero, List.set_cons_succ]
  refine wpAnyH_take (i := 14) (oi := ⟨some 25, .move (.tmp 1), _, _, _, _⟩) (v := ?_) rfl (by kernel_rfl) (by kernel_rfl) (by kernel_rfl) (fun _ _ _ h => h) (Or.inl ⟨by rfl, ?_⟩) (by assumption) ?_
  rotate_left
  · intro w' hSw
    go_simp
    try with_reducible rfl
  try simp only [Act.put, List.setIfInBounds_toArray, List.set_cons_zero, List.set_cons_succ]
  refine wpAnyH_take (i := 15) (oi := ⟨some 26, .indexAddr 24 (.tmp 24) (.tmp 25), _, _, _, _⟩) (v := ?_) rfl (by kernel_rfl) (by kernel_rfl) (by kernel_rfl) (fun _ _ _ h => h) (Or.inl ⟨by rfl, ?_⟩) (by assumption) ?_
  rotate_left
  · intro w' hSw
    go_simp
    try with_reducible rfl
  try simp only [Act.put, List.setIfInBounds_toArray, List.set_cons_zero, List.set_cons_succ]
  refine wpAnyH_take (i := 16) (oi := ⟨some 27, .load 2 (.tmp 26), _, _, _, _⟩) (v := ?_) rfl (by kernel_rfl) (by kernel_rfl) (by kernel_rfl) (fun _ _ _ h => h) (Or.inl ⟨by rfl, ?_⟩) (by assumption) ?_
  rotate_left
  · intro w' hSw
    obtain ⟨a0, a1, b0, b1, hcx, hcy⟩ := HF.out _ hSw
    go_simp
    try with_reducible rfl
  try simp only [Act.put, List.setIfInBounds_toArray, List.set_cons_zero, List.set_cons_succ]
  refine wpAnyH_ready (rs := [17]) (by kernel_rfl) (by simp) ?_
  refine AllReadyH.cons (o := ⟨some 28, .call ⟨.value (.tmp 17), #[.tmp 22, .tmp 27], #[2, 2]⟩, _, _, _, _⟩) rfl (fun K hK => ?_) AllReadyH.nil
  go_simp
  refine (HK.out _ HD.out).mono ?_
  rintro e w5 ⟨rfl, hm5⟩
  have HM5 := Lib.hid hm5
  clear hm5
  try go_wp2_with fail
  refine hK.out _ _ ⟨_, _, HM5.out⟩ (fun hHeld => ?_)
  clear hK K
  try simp only [Act.put, List.setIfInBounds_toArray, List.set_cons_zero, List.set_cons_succ]
  refine wpAnyH_take (i := 18) (oi := ⟨some 10, .move (.tmp 28), _, _, _, _⟩) (v := ?_) rfl (by kernel_rfl) (by kernel_rfl) (by kernel_rfl) (fun _ _ _ h => h) (Or.inl ⟨by rfl, ?_⟩) (by assumption) ?_
  rotate_left
  · intro w' hSw
    go_simp
    try with_reducible rfl
  try simp only [Act.put, List.setIfInBounds_toArray, List.set_cons_zero, List.set_cons_succ]
  refine wpAnyH_take (i := 19) (oi := ⟨some 29, .extract (.tmp 10) 0, _, _, _, _⟩) (v := ?_) rfl (by kernel_rfl) (by kernel_rfl) (by kernel_rfl) (fun _ _ _ h => h) (Or.inl ⟨by rfl, ?_⟩) (by assumption) ?_
  rotate_left
  · intro w' hSw
    go_simp
    try with_reducible rfl
  try simp only [Act.put, List.setIfInBounds_toArray, List.set_cons_zero, List.set_cons_succ]
  refine wpAnyH_take (i := 20) (oi := ⟨some 30, .extract (.tmp 10) 1, _, _, _, _⟩) (v := ?_) rfl (by kernel_rfl) (by kernel_rfl) (by kernel_rfl) (fun _ _ _ h => h) (Or.inl ⟨by rfl, ?_⟩) (by assumption) ?_
  rotate_left
  · intro w' hSw
    go_simp
    try with_reducible rfl
  try simp only [Act.put, List.setIfInBounds_toArray, List.set_cons_zero, List.set_cons_succ]
  refine wpAnyH_take (i := 21) (oi := ⟨some 31, .indexAddr 24 (.tmp 12) (.tmp 13), _, _, _, _⟩) (v := ?_) rfl (by kernel_rfl) (by kernel_rfl) (by kernel_rfl) (fun _ _ _ h => h) (Or.inl ⟨by rfl, ?_⟩) (by assumption) ?_
  rotate_left
  · intro w' hSw
    go_simp
    try with_reducible rfl
  try simp only [Act.put, List.setIfInBounds_toArray, List.set_cons_zero, List.set_cons_succ]
  obtain ⟨-, -, -, -, e1, e2, f1, f2, -, p2, p3⟩ := HM5.out.cells s hs (.int .i64 x)
  refine wpAnyH_ready (rs := [22]) (by kernel_rfl) (by simp) ?_
  refine AllReadyH.cons (o := ⟨none, .store 2 (.tmp 31) (.tmp 29), _, _, _, _⟩) rfl (fun K hK => ?_) AllReadyH.nil
  go_simp
  try go_wp2_with fail
  refine hK.out _ _ ⟨_, _, HM5.out.set1 s x⟩ (fun hHeld => ?_)
  clear hK K
  try simp only [Act.put, List.setIfInBounds_toArray, List.set_cons_zero, List.set_cons_succ]
  refine wpAnyH_take (i := 23) (oi := ⟨some 32, .indexAddr 24 (.tmp 15) (.tmp 16), _, _, _, _⟩) (v := ?_) rfl (by kernel_rfl) (by kernel_rfl) (by kernel_rfl) (fun _ _ _ h => h) (Or.inl ⟨by rfl, ?_⟩) (by assumption) ?_
  rotate_left
  · intro w' hSw
    go_simp
    try with_reducible rfl
  try simp only [Act.put, List.setIfInBounds_toArray, List.set_cons_zero, List.set_cons_succ]
  skip
  refine wpAnyH_ready (rs := [24]) (by kernel_rfl) (by simp) ?_
  refine AllReadyH.cons (o := ⟨none, .store 2 (.tmp 32) (.tmp 30), _, _, _, _⟩) rfl (fun K hK => ?_) AllReadyH.nil
  go_simp
  try go_wp2_with fail
  refine hK.out _ _ ⟨_, _, (HM5.out.set1 s x).set2 s y⟩ (fun hHeld => ?_)
  clear hK K
  try simp only [Act.put, List.setIfInBounds_toArray, List.set_cons_zero, List.set_cons_succ]
  refine wpAnyH_done (by kernel_rfl) ?_ _
  -- region 2 ends
  have hm6 := (HM5.out.set1 s x).set2 s y
  have ht6 := hm6.told (.slice (some ⟨g1, 0, none⟩) d k1) (.slice (some ⟨g2, 0, none⟩) d k2)
  have hc6 := hm6.cells s hs (.int .i64 x)
  have hb6 := (hm6.cp.later hm6.rows.low).cells
  clear hm6 e1 e2 f1 f2 p2 p3
  generalize (w5.setCell ⟨g1, s, none⟩ (.int .i64 x)).setCell ⟨g2, s, none⟩ (.int .i64 y) = w6 at *
  obtain ⟨-, -, b0', b1', -⟩ := hc6
  obtain ⟨-, -, r0', r1', s0', s1'⟩ := hb6
  obtain ⟨z1, z2, z3⟩ := ht6
  have HZ1 := Lib.hid z1
  clear z1
  go_wp2_with fail
  exact cret_box 6 rfl (w.heap.size + 1) _ _ rfl z2 z3 ⟨g1, k1, g2, k2, rfl, HZ1.out⟩
end Go.Proofs.Ytbhpmigblkaihaa.Zr

/- Whether the first numbers of two lists are alike. No program is named here. -/
namespace Go.Proofs.Ytbhpmigblkaihaa
open Go.RowKit
/-- Whether the first so many numbers are the same. -/
def eqs (P Q : List Int) : Nat → Bool
  | 0 => true
  | k + 1 => eqs P Q k && (P.getD k 0 == Q.getD k 0)
theorem eqs_iff (P Q : List Int) : ∀ n, eqs P Q n = true ↔ ∀ k, k < n → P.getD k 0 = Q.getD k 0
  | 0 => ⟨fun _ k hk => by omega, fun _ => rfl⟩
  | n + 1 => by
    show (eqs P Q n && (P.getD n 0 == Q.getD n 0)) = true ↔ _
    rw [Bool.and_eq_true, eqs_iff P Q n, beq_iff_eq]
    constructor
    · rintro ⟨h1, h2⟩ k hk
      by_cases hkn : k = n
      · rw [hkn]; exact h2
      · exact h1 k (by omega)
    · intro h
      exact ⟨fun k hk => h k (by omega), h n (by omega)⟩
end Go.Proofs.Ytbhpmigblkaihaa

/- indentureref04: SameRow, Same, Has. -/
namespace Go.Proofs.Ytbhpmigblkaihaa
open Go.RowKit

theorem eqs_eq {R S : List Int} (h : R.length = S.length) (he : eqs R S R.length = true) : R = S := by
  apply List.ext_getElem h
  intro i h1 h2
  have := (eqs_iff R S R.length).1 he i h1
  simpa [List.getD_eq_getElem?_getD, h1, h2] using this
def SamRel (w : World) (R S : List Int) (n : Nat) (i : Value) (wr : World) : Prop := ∃ k j : Nat, k ≤ n ∧ i = .int .i64 k ∧ eqs R S k = true ∧ wr = w.drewN j
theorem ret_dec {p : Prop} [Decidable p] (h : p) : Ending.returned (.bool true) = Ending.returned (.bool (decide p)) := by rw [decide_eq_true h]
theorem ret_ndec {p : Prop} [Decidable p] (h : ¬ p) : Ending.returned (.bool false) = Ending.returned (.bool (decide p)) := by rw [decide_eq_false h]
set_option maxRecDepth 100000 in
set_option maxHeartbeats 1000000 in
theorem samerow_any (p q : Option Addr) (n c m e : Nat) (R S : List Int) (w : World) (h : Ints w p n c R) (h2 : Ints w q m e S) (hn9 : n ≤ 9223372036854775807) :
    Calls Try.prog 38 #[.slice p n c, .slice q m e] w fun e w' => e = .returned (.bool (decide (R = S))) ∧ ∃ j, w' = w.drewN j := by
  have H1 := Lib.hid h
  have H2 := Lib.hid h2
  clear h h2
  by_cases hn : (n : Int) = m
  case neg =>
    have hne : ¬ R = S := fun h => hn (by rw [H1.out.size, H2.out.size, h])
    have HNE := Lib.hid hne
    clear hne
    go_enter Try.func38, Try.ntmps38
    go_wp2_with fail
    go_ret
    exact ⟨ret_ndec HNE.out, 0, rfl⟩
  obtain rfl : m = n := by omega
  go_enter Try.func38, Try.ntmps38
  go_wp2_with fail
  go_loopw [5] (fun i wr => SamRel w R S m i wr) (fun i _ => m - (intOf i).toNat)
  case atStart => exact ⟨0, 0, by omega, rfl, rfl, rfl⟩
  case round =>
    obtain ⟨k, j, hk, rfl, heq, rfl⟩ := hrel
    have HL := Lib.hid heq
    clear heq
    by_cases hlt : k < m
    · obtain ⟨gx, o, rfl, hcx⟩ := H1.out.cell k hlt
      obtain ⟨gy, o2, rfl, hcy⟩ := H2.out.cell k hlt
      have i1 : (0 : Int) ≤ k ∧ (k : Int) < m := by omega
      have hs : eqs R S (k + 1) = (eqs R S k && (R.getD k 0 == S.getD k 0)) := rfl
      have HS := Lib.hid hs
      have HF := Lib.hid (show ¬ R.getD k 0 = S.getD k 0 → ¬ R = S from fun h h3 => h (by rw [h3]))
      clear hs
      generalize R.getD k 0 = x at *
      generalize S.getD k 0 = y at *
      by_cases hxy : x = y
      · subst hxy
        go_upto_region 6 with fail
        go_quiet (fail)
        go_wp2_with fail
        go_roundw
        case rel => exact ⟨k + 1, j + nq, by omega, by go_num, by rw [HS.out, HL.out]; simp, rfl⟩
        case measure => simp [intOf]; omega
      · go_upto_region 6 with fail
        go_quiet (fail)
        go_wp2_with fail
        go_ret
        exact ⟨ret_ndec (HF.out hxy), j + nq, by first | rfl | (simp only [World.drewN]; done) | simp [World.drewN_drewN]⟩
    · obtain rfl : k = m := by omega
      have he := HL.out
      rw [H1.out.size] at he
      have HE := Lib.hid (eqs_eq (H1.out.size.symm.trans H2.out.size) he)
      clear he
      go_wp2_with fail
      go_ret
      exact ⟨ret_dec HE.out, _, rfl⟩
/-- Whether a point is in a box. -/
def hasB (R S P : List Int) (n m l : Nat) : Bool := rightB R S n m l && (les R P l && les P S l)
theorem hasB_not {R S P : List Int} {n m l : Nat} (h : rightB R S n m l = false) : hasB R S P n m l = false := by unfold hasB; rw [h, Bool.false_and]
theorem hasB_right {R S P : List Int} {n m l : Nat} (h : rightB R S n m l = true) : hasB R S P n m l = (les R P l && les P S l) := by unfold hasB; rw [h, Bool.true_and]
theorem rightB_dims {R S : List Int} {n m : Nat} {d : Int} (h : rightB R S n m d = true) : 1 ≤ d ∧ d ≤ 8 ∧ (n : Int) = d ∧ (m : Int) = d := by
  unfold rightB at h
  rw [Bool.and_eq_true, decide_eq_true_eq] at h
  exact h.1
def HasRel (w1 : World) (R S P : List Int) (n : Nat) (i : Value) (wr : World) : Prop := ∃ k j : Nat, k ≤ n ∧ i = .int .i64 k ∧ les R P k = true ∧ les P S k = true ∧ wr = w1.drewN j
set_option maxRecDepth 100000 in
set_option maxHeartbeats 1000000 in
theorem refhas_any (p q s : Option Addr) (n c m e l f : Nat) (R S P : List Int) (w : World) (h : Ints w p n c R) (h2 : Ints w q m e S) (h3 : Ints w s l f P) :
    Calls Try.prog 13 #[.agg #[.slice p n c, .slice q m e], .slice s l f] w fun e w' => e = .returned (.bool (hasB R S P n m l)) ∧ Below w.heap.size w w' := by
  have hb : Below w.heap.size w (w.alloc (.cells #[.slice p n c, .slice q m e] 26)) := (Below.refl _ _).alloc (Nat.le_refl _) _
  obtain ⟨e0, e1⟩ := pair_alloc w (.slice p n c) (.slice q m e) 26
  have H1 := Lib.hid (h.later hb)
  have H2 := Lib.hid (h2.later hb)
  have H3 := Lib.hid (h3.later hb)
  have HB := Lib.hid hb
  clear h h2 h3 hb
  go_enter Try.func13, Try.ntmps13
  go_upto_region 1 with fail
  have hs0 : w.heap.size < (w.alloc (.cells #[.slice p n c, .slice q m e] 26)).heap.size := by simp
  generalize w.alloc (.cells #[.slice p n c, .slice q m e] 26) = w0 at *
  have HS0 := Lib.hid hs0
  clear hs0
  go_wp2_with fail
  refine (refright_any p q n c m e R S l w0 H1.out H2.out).mono ?_
  rintro _ w1 ⟨rfl, hb1⟩
  have f0 := (hb1.cell (p := ⟨w.heap.size, 0, none⟩) HS0.out).trans e0
  have f1 := (hb1.cell (p := ⟨w.heap.size, 1, none⟩) HS0.out).trans e1
  have G1 := Lib.hid (H1.out.later hb1)
  have G2 := Lib.hid (H2.out.later hb1)
  have G3 := Lib.hid (H3.out.later hb1)
  have B1 := Lib.hid (HB.out.trans (hb1.mono HB.out.size))
  clear hb1 e0 e1 H1 H2 H3 HB HS0
  by_cases hr : rightB R S n m l = true
  case neg =>
    have hr0 : rightB R S n m l = false := by simpa using hr
    have HH := Lib.hid (hasB_not (P := P) hr0)
    rw [hr0]
    clear hr hr0
    go_wp2_with fail
    go_ret
    exact ⟨congrArg (fun b => Ending.returned (.bool b)) HH.out.symm, B1.out⟩
  obtain ⟨d1, d2, d3, d4⟩ := rightB_dims hr
  have HH := Lib.hid (hasB_right (P := P) hr)
  rw [hr]
  obtain rfl : n = l := by omega
  obtain rfl : m = n := by omega
  clear hr d3 d4
  go_wp2_with fail
  go_loopw [5] (fun i wr => HasRel w1 R S P m i wr) (fun i _ => m - (intOf i).toNat)
  case atStart => exact ⟨0, 0, by omega, rfl, rfl, rfl, rfl⟩
  case round =>
    obtain ⟨k, j, hk, rfl, hl1, hl2, rfl⟩ := hrel
    have HL1 := Lib.hid hl1
    have HL2 := Lib.hid hl2
    clear hl1 hl2
    by_cases hlt : k < m
    · obtain ⟨gx, o, rfl, hcx⟩ := G1.out.cell k hlt
      obtain ⟨gy, o2, rfl, hcy⟩ := G2.out.cell k hlt
      obtain ⟨gz, o3, rfl, hcz⟩ := G3.out.cell k hlt
      have i1 : (0 : Int) ≤ k ∧ (k : Int) < m := by omega
      have s1 : les R P (k + 1) = (les R P k && decide (R.getD k 0 ≤ P.getD k 0)) := rfl
      have s2 : les P S (k + 1) = (les P S k && decide (P.getD k 0 ≤ S.getD k 0)) := rfl
      have HS1 := Lib.hid s1
      have HS2 := Lib.hid s2
      have HF1 := Lib.hid (fun h => les_false (R := R) (S := P) hlt h)
      have HF2 := Lib.hid (fun h => les_false (R := P) (S := S) hlt h)
      clear s1 s2
      generalize R.getD k 0 = x at *
      generalize S.getD k 0 = y at *
      generalize P.getD k 0 = z at *
      by_cases hzx : z < x
      · have HZ := Lib.hid (HF1.out (by omega))
        go_upto_region 6 with fail
        go_quiet (fail)
        go_wp2_with fail
        go_ret
        exact ⟨congrArg (fun b => Ending.returned (.bool b)) (by rw [HH.out, HZ.out]; rfl), Below.drewN B1.out _⟩
      · by_cases hyz : y < z
        · have HZ := Lib.hid (HF2.out (by omega))
          go_upto_region 6 with fail
          go_quiet (fail)
          go_wp2_with fail
          go_ret
          exact ⟨congrArg (fun b => Ending.returned (.bool b)) (by rw [HH.out, HZ.out, Bool.and_false]), Below.drewN B1.out _⟩
        · go_upto_region 6 with fail
          go_quiet (fail)
          go_wp2_with fail
          go_roundw
          case rel => exact ⟨k + 1, j + nq, by omega, by go_num, by rw [HS1.out, HL1.out, decide_eq_true (by omega)]; rfl, by rw [HS2.out, HL2.out, decide_eq_true (by omega)]; rfl, rfl⟩
          case measure => simp [intOf]; omega
    · obtain rfl : k = m := by omega
      go_wp2_with fail
      go_ret
      exact ⟨congrArg (fun b => Ending.returned (.bool b)) (by rw [HH.out, HL1.out, HL2.out]; rfl), Below.drewN B1.out _⟩
end Go.Proofs.Ytbhpmigblkaihaa

/- box.dimensions; box.each over whatever function of the sides. -/
namespace Go.Proofs.Ytbhpmigblkaihaa
open Go.RowKit

set_option maxRecDepth 100000 in
theorem dimensions_any (d : Int) (w : World) :
    Calls Try.prog 49 #[.int .i64 d] w fun e w' => e = .returned (.bool (decide (1 ≤ d ∧ d ≤ 8))) ∧ w = w' := by
  by_cases h1 : 1 ≤ d
  · by_cases h2 : d ≤ 8
    · go_enter Try.func49, Try.ntmps49
      go_wp2_with fail
      go_ret
      exact ⟨ret_dec ⟨h1, h2⟩, rfl⟩
    · go_enter Try.func49, Try.ntmps49
      go_wp2_with fail
      go_ret
      exact ⟨ret_ndec (by omega), rfl⟩
  · go_enter Try.func49, Try.ntmps49
    go_wp2_with fail
    go_ret
    exact ⟨congrArg (fun b => Ending.returned (.bool b)) (by rw [decide_eq_false (show ¬ 1 ≤ d by omega)]; rfl), rfl⟩
/-- Whether all of the first so many hold. -/
def alls (f : Nat → Bool) : Nat → Bool
  | 0 => true
  | k + 1 => alls f k && f k
theorem alls_iff (f : Nat → Bool) : ∀ n, alls f n = true ↔ ∀ k, k < n → f k = true
  | 0 => ⟨fun _ k hk => by omega, fun _ => rfl⟩
  | n + 1 => by
    show (alls f n && f n) = true ↔ _
    rw [Bool.and_eq_true, alls_iff f n]
    constructor
    · rintro ⟨h1, h2⟩ k hk
      by_cases hkn : k = n
      · rw [hkn]; exact h2
      · exact h1 k (by omega)
    · intro h
      exact ⟨fun k hk => h k (by omega), h n (by omega)⟩
theorem alls_false {f : Nat → Bool} {k n : Nat} (hk : k < n) (h : f k = false) : alls f n = false := by
  cases e : alls f n with
  | false => rfl
  | true => rw [(alls_iff f n).1 e k hk] at h; cases h
theorem alls_les (R S : List Int) : ∀ n, alls (fun k => decide (R.getD k 0 ≤ S.getD k 0)) n = les R S n
  | 0 => rfl
  | n + 1 => by
    show (alls _ n && _) = (les R S n && _)
    rw [alls_les R S n]
theorem alls_and (f g : Nat → Bool) : ∀ n, alls (fun k => f k && g k) n = (alls f n && alls g n)
  | 0 => rfl
  | n + 1 => by
    show (alls _ n && (f n && g n)) = ((alls f n && f n) && (alls g n && g n))
    rw [alls_and f g n]
    cases alls f n <;> cases alls g n <;> cases f n <;> cases g n <;> rfl
/-- What the function of a side tells, and that it turns nothing. -/
def Asks (w : World) (n : Nat) (f : Nat → Bool) (F : Nat) (cap : Array Value) : Prop :=
  ∀ (k : Nat) (w' : World), k < n → Below w.heap.size w w' → Calls Try.prog F (#[.int .i64 k] ++ cap) w' fun e w'' => e = .returned (.bool (f k)) ∧ ∃ j, w'' = w'.drewN j
def EachRel (w : World) (f : Nat → Bool) (n : Nat) (i : Value) (wr : World) : Prop := ∃ k j : Nat, k ≤ n ∧ i = .int .i64 k ∧ alls f k = true ∧ wr = w.drewN j
set_option maxRecDepth 100000 in
set_option maxHeartbeats 1000000 in
theorem each_any (n : Nat) (hn : n < 9223372036854775807) (f : Nat → Bool) (F : Nat) (cap : Array Value) (hF : ∀ args w, (callFunc F args).run Try.prog w = .ok (.enter F args) w) (w : World) (hs : Asks w n f F cap) :
    Calls Try.prog 44 #[.int .i64 n, .func (.func F) #[] cap] w fun e w' => e = .returned (.bool (alls f n)) ∧ ∃ j, w' = w.drewN j := by
  have HS := Lib.hid hs
  clear hs
  go_enter Try.func44, Try.ntmps44
  go_wp2_with fail
  go_loopw [7] (fun i wr => EachRel w f n i wr) (fun i _ => n - (intOf i).toNat)
  case atStart => exact ⟨0, 0, by omega, rfl, rfl, rfl⟩
  case round =>
    obtain ⟨k, j, hk, rfl, hal, rfl⟩ := hrel
    have HA := Lib.hid hal
    clear hal
    by_cases hlt : k < n
    · have hc := HS.out k (w.drewN j) hlt (Below.drewN (Below.refl _ _) j)
      cases hfk : f k with
      | false =>
        rw [hfk] at hc
        have HC := Lib.hid hc
        have HX := Lib.hid (alls_false hlt hfk)
        clear hc hfk
        go_wp2_with (refine HC.out.mono ?_; rintro e w'' ⟨rfl, j2, rfl⟩)
        go_ret
        exact ⟨congrArg (fun b => Ending.returned (.bool b)) HX.out.symm, j + j2, rfl⟩
      | true =>
        rw [hfk] at hc
        have HC := Lib.hid hc
        have HX := Lib.hid (show alls f (k + 1) = true by show (alls f k && f k) = true; rw [HA.out, hfk]; rfl)
        clear hc hfk
        go_wp2_with (refine HC.out.mono ?_; rintro e w'' ⟨rfl, j2, rfl⟩)
        go_roundw
        case rel => exact ⟨k + 1, j + j2, by omega, by go_num, HX.out, rfl⟩
        case measure => simp [intOf]; omega
    · obtain rfl : k = n := by omega
      go_wp2_with fail
      go_ret
      exact ⟨congrArg (fun b => Ending.returned (.bool b)) HA.out.symm, j, rfl⟩
set_option maxRecDepth 100000 in
set_option maxHeartbeats 1000000 in
theorem rightside (B : Nat) (p q : Option Addr) (n c m e : Nat) (R S : List Int) (k : Nat) (hk : k < n) (hm : k < m) (w : World) (hB : BoxAt w B p n c q m e) (h : Ints w p n c R) (h2 : Ints w q m e S) :
    Calls Try.prog 50 #[.int .i64 k, .pointer (some ⟨B, 0, none⟩)] w fun e w' => e = .returned (.bool (decide (R.getD k 0 ≤ S.getD k 0))) ∧ ∃ j, w' = w.drewN j := by
  obtain ⟨hB0, hB1⟩ := hB
  obtain ⟨g, o, rfl, hc⟩ := h.cell k hk
  obtain ⟨g2, o2, rfl, hc2⟩ := h2.cell k hm
  clear h h2
  generalize R.getD k 0 = x at *
  generalize S.getD k 0 = y at *
  have b1 : (0 : Int) ≤ k ∧ (k : Int) < n := by omega
  have b2 : (0 : Int) ≤ k ∧ (k : Int) < m := by omega
  go_enter Try.func50, Try.ntmps50
  go_wp2_with fail
  go_quiet (fail)
  go_wp2_with fail
  go_ret
  exact ⟨rfl, _, rfl⟩
set_option maxRecDepth 100000 in
set_option maxHeartbeats 1000000 in
theorem right_any (p q : Option Addr) (n c m e : Nat) (R S : List Int) (d : Int) (w : World) (h : Ints w p n c R) (h2 : Ints w q m e S) :
    Calls Try.prog 43 #[.agg #[.slice p n c, .slice q m e], .int .i64 d] w fun e w' => e = .returned (.bool (rightB R S n m d)) ∧ Below w.heap.size w w' := by
  have hb : Below w.heap.size w (w.alloc (.cells #[.slice p n c, .slice q m e] 26)) := (Below.refl _ _).alloc (Nat.le_refl _) _
  obtain ⟨e0, e1⟩ := pair_alloc w (.slice p n c) (.slice q m e) 26
  have H1 := Lib.hid (h.later hb)
  have H2 := Lib.hid (h2.later hb)
  have HB := Lib.hid hb
  clear h h2 hb
  have hD := dimensions_any d
  by_cases hd : 1 ≤ d ∧ d ≤ 8
  case neg =>
    rw [decide_eq_false hd] at hD
    have HD := Lib.hid hD
    rw [rightB_not (by omega)]
    clear hD hd
    go_enter Try.func43, Try.ntmps43
    go_wp2_with ((go_at_call 49; refine (HD.out _).mono ?_; rintro _ w' ⟨rfl, rfl⟩))
    go_ret
    exact ⟨rfl, HB.out⟩
  rw [decide_eq_true hd] at hD
  have HD := Lib.hid hD
  clear hD
  by_cases hn : (n : Int) = d
  case neg =>
    rw [rightB_not (fun h => hn h.2.2.1)]
    have q1 : ((n : Int) == d) = false := by simpa using hn
    clear hd hn
    go_enter Try.func43, Try.ntmps43
    go_wp2_with ((go_at_call 49; refine (HD.out _).mono ?_; rintro _ w' ⟨rfl, rfl⟩))
    go_ret
    exact ⟨rfl, HB.out⟩
  subst hn
  by_cases hm : (m : Int) = n
  case neg =>
    rw [rightB_not (fun h => hm h.2.2.2)]
    have q1 : ((m : Int) == n) = false := by simpa using hm
    clear hd hm
    go_enter Try.func43, Try.ntmps43
    go_wp2_with ((go_at_call 49; refine (HD.out _).mono ?_; rintro _ w' ⟨rfl, rfl⟩))
    go_ret
    exact ⟨rfl, HB.out⟩
  obtain rfl : m = n := by omega
  rw [rightB_les (by omega)]
  have hn8 : m < 9223372036854775807 := by omega
  clear hm hd
  go_enter Try.func43, Try.ntmps43
  go_upto_region 1 with fail
  have hs0 : w.heap.size < (w.alloc (.cells #[.slice p m c, .slice q m e] 26)).heap.size := by simp
  generalize w.alloc (.cells #[.slice p m c, .slice q m e] 26) = w0 at *
  have HE := Lib.hid (each_any m hn8 (fun k => decide (R.getD k 0 ≤ S.getD k 0)) 50 #[.pointer (some ⟨w.heap.size, 0, none⟩)] (enter_side Try.func50 (by kernel_rfl) rfl) w0 (fun k w' hk hb => rightside w.heap.size p q m c m e R S k hk hk w' ⟨(hb.cell (p := ⟨w.heap.size, 0, none⟩) hs0).trans e0, (hb.cell (p := ⟨w.heap.size, 1, none⟩) hs0).trans e1⟩ (H1.out.later hb) (H2.out.later hb)))
  rw [alls_les] at HE
  go_wp2_with (first | (go_at_call 49; refine (HD.out _).mono ?_; rintro _ w' ⟨rfl, rfl⟩) | (go_at_call 44; refine HE.out.mono ?_; rintro _ w' ⟨rfl, j, rfl⟩))
  go_ret
  exact ⟨rfl, Below.drewN HB.out _⟩
end Go.Proofs.Ytbhpmigblkaihaa

/- morton.dimensions, Bit. -/
namespace Go.Proofs.Ytbhpmigblkaihaa.Mo
open Go.RowKit

theorem dim_yes (d : Int) (h1 : 1 ≤ d) (h8 : d ≤ 8) (w : World) : Calls Try.prog 41 #[.int .i64 d] w fun e w' => e = .returned (.bool true) ∧ w' = w := by
  go_enter Try.func41, Try.ntmps41
  go_wp2
  go_ret
  exact ⟨rfl, rfl⟩
theorem dim_no (d : Int) (h : d < 1 ∨ 8 < d) (w : World) : Calls Try.prog 41 #[.int .i64 d] w fun e w' => e = .returned (.bool false) ∧ w' = w := by
  by_cases h1 : 1 ≤ d
  · have h2 : ¬ d ≤ 8 := by omega
    go_enter Try.func41, Try.ntmps41
    go_wp2
    go_ret
    exact ⟨rfl, rfl⟩
  · go_enter Try.func41, Try.ntmps41
    go_wp2
    go_ret
    exact ⟨rfl, rfl⟩
set_option maxRecDepth 100000 in
set_option maxHeartbeats 1000000 in
theorem bit_any (B : List Nat) (p : Option Addr) (n c : Nat) (i : Int) (w : World) (h : Bytes w p n c B) (h1 : -9223372036854775808 ≤ i) (h2 : i ≤ 9223372036854775807) :
    Calls Try.prog 48 #[.slice p n c, .int .i64 i] w fun e w' => e = .returned (.int .u8 (bitI B i : Nat)) ∧ w' = w := by
  have H := Lib.hid h
  by_cases hneg : i < 0
  · have HB := Lib.hid (bitI_neg (B := B) hneg)
    clear h
    go_enter Try.func48, Try.ntmps48
    go_wp2_with fail
    go_ret
    exact ⟨by rw [HB.out]; rfl, rfl⟩
  obtain ⟨k, rfl⟩ : ∃ k : Nat, i = k := ⟨i.toNat, by omega⟩
  have hsz := h.size
  by_cases hfar : (n : Int) ≤ (k : Int) / 8
  · have HB := Lib.hid (bitI_far (B := B) (i := k) (by rw [← hsz]; exact hfar))
    clear h hsz
    go_enter Try.func48, Try.ntmps48
    go_wp2_with fail
    go_ret
    exact ⟨by rw [HB.out]; rfl, rfl⟩
  · have hl : k / 8 < B.length := by omega
    obtain ⟨g, o, rfl, hx⟩ := h.ne (by intro e; rw [e] at hl; simp at hl)
    have hc := hx (k / 8) hl
    have hb := Sm.getD_lt h.ok (by omega) (k / 8)
    have HB := Lib.hid (bitI_of (B := B) (k := k) (i := k) rfl)
    have HD := Lib.hid (show Mm.bitOf B k = B.getD (k / 8) 0 / 2 ^ (7 - k % 8) % 2 from rfl)
    clear h hsz hx
    generalize B.getD (k / 8) 0 = x at *
    go_enter Try.func48, Try.ntmps48
    go_wp2_with fail
    go_ret
    exact ⟨ret_int (by rw [HB.out, HD.out]; exact bit_u8 x _ hb (by omega)), rfl⟩
end Go.Proofs.Ytbhpmigblkaihaa.Mo

/- math/bits.Len64. -/
namespace Go.Proofs.Ytbhpmigblkaihaa.Mo
open Go.RowKit

theorem tab_size : Lib.len8tab.size = 256 := by decide +kernel
theorem tab_get (k : Nat) (h : k < Lib.len8tab.size) : (Lib.len8tab[k]'h).toNat = Lib.bitLen k ∧ Lib.bitLen k ≤ 8 := by
  have hk : k < 256 := by rw [tab_size] at h; exact h
  have e := Lib.len8_eq ⟨k, hk⟩
  refine ⟨?_, Lib.bitLen_le8 ⟨k, hk⟩⟩
  unfold Lib.len8 at e
  simp only [Int.toNat_natCast] at e
  rw [getElem?_pos Lib.len8tab k h, Option.getD_some] at e
  exact Int.ofNat.inj e
/-- What Len64 tells of a number whose highest byte is looked up. -/
theorem tab_end (x y : Int) (s : Nat) (si : Int) (hsi : si = s) (h : y.toNat < Lib.len8tab.size) (hs : s ≤ 56) (hx : x.toNat < 18446744073709551616) (hp : 2 ^ s ≤ x.toNat) (hy : y.toNat = x.toNat / 2 ^ s) :
    wrap64 (si + wrap64 ((Lib.len8tab[y.toNat]'h).toNat : Int)) = (Lib.bitLen x.toNat : Int) := by
  obtain ⟨e, b⟩ := tab_get _ h
  have e2 := Lib.bitLen_shift s x.toNat hp hx
  rw [← hy] at e2
  rw [e, e2, hsi]
  generalize Lib.bitLen y.toNat = m at *
  clear e e2 hx hp hy h hsi
  unfold wrap64
  omega
theorem tab_low (x : Int) (h : x.toNat < Lib.len8tab.size) : wrap64 (wrap64 ((Lib.len8tab[x.toNat]'h).toNat : Int)) = (Lib.bitLen x.toNat : Int) := by
  obtain ⟨e, b⟩ := tab_get _ h
  rw [e]
  unfold wrap64
  omega
set_option maxRecDepth 100000 in
set_option maxHeartbeats 4000000 in
theorem len64_any (x : Int) (h0 : 0 ≤ x) (h1 : x ≤ 18446744073709551615) (w : World) :
    Calls Try.prog 42 #[.int .u64 x] w fun e w' => e = .returned (.int .i64 (Lib.bitLen x.toNat)) ∧ w' = w := by
  have hsz : (Lib.len8tab.size : Int) = 256 := by rw [tab_size]; rfl
  go_enter Try.func42, Try.ntmps42
  go_wp2
  · go_ret; exact ⟨ret_int (tab_end x _ 56 _ rfl _ (by omega) (by omega) (by omega) (by omega)), rfl⟩
  · go_ret; exact ⟨ret_int (tab_end x _ 48 _ rfl _ (by omega) (by omega) (by omega) (by omega)), rfl⟩
  · go_ret; exact ⟨ret_int (tab_end x _ 40 _ rfl _ (by omega) (by omega) (by omega) (by omega)), rfl⟩
  · go_ret; exact ⟨ret_int (tab_end x _ 32 _ rfl _ (by omega) (by omega) (by omega) (by omega)), rfl⟩
  · go_ret; exact ⟨ret_int (tab_end x _ 24 _ rfl _ (by omega) (by omega) (by omega) (by omega)), rfl⟩
  · go_ret; exact ⟨ret_int (tab_end x _ 16 _ rfl _ (by omega) (by omega) (by omega) (by omega)), rfl⟩
  · go_ret; exact ⟨ret_int (tab_end x _ 8 _ rfl _ (by omega) (by omega) (by omega) (by omega)), rfl⟩
  · go_ret; exact ⟨ret_int (tab_low x _), rfl⟩
end Go.Proofs.Ytbhpmigblkaihaa.Mo

/- Plain: which of two points stands ahead, by the highest bit in which two numbers are unlike. No program is named here. -/
namespace Go.Proofs.Ytbhpmigblkaihaa.Mm
open Go.Lib

theorem bitLenAux_lt : ∀ (f x : Nat), x < 2 ^ f → x < 2 ^ Go.Lib.bitLenAux f x
  | 0, x, h => h
  | f + 1, x, h => by
    unfold Go.Lib.bitLenAux
    by_cases c : x = 0
    · rw [if_pos c, c]; decide
    · rw [if_neg c, Nat.add_comm, Nat.pow_succ]
      rw [Nat.pow_succ] at h
      have := bitLenAux_lt f (x / 2) (by omega)
      omega
theorem bitLen_lt (x : Nat) (h : x < 2 ^ 64) : x < 2 ^ Go.Lib.bitLen x := bitLenAux_lt 64 x h
theorem xor_div (a b m : Nat) : (a ^^^ b) / 2 ^ m = 0 ↔ a / 2 ^ m = b / 2 ^ m := by
  rw [← Nat.shiftRight_eq_div_pow, ← Nat.shiftRight_eq_div_pow, ← Nat.shiftRight_eq_div_pow, Nat.shiftRight_xor_distrib]
  constructor
  · intro h
    have e : (a >>> m ^^^ b >>> m) ^^^ b >>> m = 0 ^^^ b >>> m := by rw [h]
    rw [Nat.xor_assoc, Nat.xor_self, Nat.xor_zero, Nat.zero_xor] at e
    exact e
  · intro h
    rw [h, Nat.xor_self]
/-- How high the highest unlike bit of two numbers is: 64 for the first one, 0 where they are the same. -/
def top (a b : Nat) : Nat := Go.Lib.bitLen (a ^^^ b)
theorem top_le {a b m : Nat} (ha : a < 2 ^ 64) (hb : b < 2 ^ 64) (hm : m ≤ 64) : top a b ≤ m ↔ a / 2 ^ m = b / 2 ^ m := by
  have hx : a ^^^ b < 2 ^ 64 := Nat.xor_lt_two_pow ha hb
  unfold top
  rw [← xor_div]
  constructor
  · intro h
    exact Nat.div_eq_of_lt (Nat.lt_of_lt_of_le (bitLen_lt _ hx) (Nat.pow_le_pow_right (by omega) h))
  · intro h
    exact Go.Lib.bitLen_le _ m hm (by
      have := Nat.lt_mul_div_succ (a ^^^ b) (Nat.two_pow_pos m)
      rw [h] at this
      omega)
theorem top_max {a b : Nat} (ha : a < 2 ^ 64) (hb : b < 2 ^ 64) : top a b ≤ 64 := (top_le ha hb (Nat.le_refl _)).2 (by rw [Nat.div_eq_of_lt ha, Nat.div_eq_of_lt hb])
def zt (P Q : List Int) (k : Nat) : Nat := top (Cm.z64 (P.getD k 0)) (Cm.z64 (Q.getD k 0))
/-- The highest place so far, and which one stands ahead by it. -/
def ahd (P Q : List Int) : Nat → Nat × Bool
  | 0 => (0, false)
  | k + 1 => if (ahd P Q k).1 < zt P Q k then (zt P Q k, decide (P.getD k 0 < Q.getD k 0)) else ahd P Q k
theorem ahd_succ (P Q : List Int) (k : Nat) : ahd P Q (k + 1) = if (ahd P Q k).1 < zt P Q k then (zt P Q k, decide (P.getD k 0 < Q.getD k 0)) else ahd P Q k := rfl
theorem ahd_spec (P Q : List Int) : ∀ k, (∀ i, i < k → zt P Q i ≤ (ahd P Q k).1) ∧ (((ahd P Q k) = (0, false)) ∨ ∃ j, j < k ∧ zt P Q j = (ahd P Q k).1 ∧ 0 < zt P Q j ∧ (∀ i, i < j → zt P Q i < zt P Q j) ∧ (ahd P Q k).2 = decide (P.getD j 0 < Q.getD j 0))
  | 0 => ⟨fun i hi => by omega, Or.inl rfl⟩
  | k + 1 => by
    obtain ⟨h1, h2⟩ := ahd_spec P Q k
    rw [ahd_succ]
    by_cases c : (ahd P Q k).1 < zt P Q k
    · rw [if_pos c]
      refine ⟨fun i hi => ?_, Or.inr ⟨k, by omega, rfl, by omega, fun i hi => Nat.lt_of_le_of_lt (h1 i hi) c, rfl⟩⟩
      by_cases e : i = k
      · subst e; exact Nat.le_refl _
      · exact Nat.le_of_lt (Nat.lt_of_le_of_lt (h1 i (by omega)) c)
    · rw [if_neg c]
      refine ⟨fun i hi => ?_, h2.imp id ?_⟩
      · by_cases e : i = k
        · subst e; omega
        · exact h1 i (by omega)
      · rintro ⟨j, a, b⟩
        exact ⟨j, by omega, b⟩
/-- Of two codes the one stands ahead that has 0 where they are first unlike. -/
theorem cmp_first {f h : Nat → Nat} (hf : ∀ i, f i < 2) (hh : ∀ i, h i < 2) (n t : Nat) (ht : t < 8 * n) (he : ∀ i, i < t → f i = h i) (hl : f t < h t) : Cm.cmpL (bytesOf f n) (bytesOf h n) < 0 := by
  have hj : t / 8 < n := by omega
  have e1 : (bytesOf f n).take (t / 8) = (bytesOf h n).take (t / 8) := by
    apply List.ext_getElem (by simp [bytesOf_length])
    intro i h1 h2
    rw [List.length_take, bytesOf_length] at h1
    simp only [List.getElem_take, bytesOf, List.getElem_map, List.getElem_range]
    exact bin_congr 8 fun k hk => he _ (by omega)
  have d1 : (bytesOf f n).drop (t / 8) = bin (fun k => f (8 * (t / 8) + k)) 8 :: (bytesOf f n).drop (t / 8 + 1) := by
    rw [List.drop_eq_getElem_cons (by rw [bytesOf_length]; exact hj)]
    simp [bytesOf]
  have d2 : (bytesOf h n).drop (t / 8) = bin (fun k => h (8 * (t / 8) + k)) 8 :: (bytesOf h n).drop (t / 8 + 1) := by
    rw [List.drop_eq_getElem_cons (by rw [bytesOf_length]; exact hj)]
    simp [bytesOf]
  have hb := bin_lex (f := fun k => f (8 * (t / 8) + k)) (h := fun k => h (8 * (t / 8) + k)) (fun k => hf _) (fun k => hh _) (r := t % 8) (fun i hi => he _ (by omega)) (by
    show f (8 * (t / 8) + t % 8) < h (8 * (t / 8) + t % 8)
    rw [Nat.div_add_mod]
    exact hl) 8 (by omega)
  rw [Cm.cmpL_at e1, d1, d2, Cm.cmpL_cons, if_pos hb]
  decide
theorem pow_split {a m s : Nat} (h : m ≤ s) : a / 2 ^ s = a / 2 ^ m / 2 ^ (s - m) := by
  rw [Nat.div_div_eq_div_mul, ← Nat.pow_add, show m + (s - m) = s from by omega]
/-- Two numbers whose codes are first unlike at bit m - 1. -/
theorem bit_way {a b m : Nat} (h1 : a / 2 ^ (m + 1) = b / 2 ^ (m + 1)) (h2 : ¬ a / 2 ^ m = b / 2 ^ m) : (a < b ↔ a / 2 ^ m % 2 < b / 2 ^ m % 2) ∧ a / 2 ^ m % 2 ≠ b / 2 ^ m % 2 := by
  rw [Nat.pow_succ, ← Nat.div_div_eq_div_mul, ← Nat.div_div_eq_div_mul] at h1
  have hp := Nat.two_pow_pos m
  refine ⟨⟨fun h => ?_, fun h => ?_⟩, by omega⟩
  · have := Nat.div_le_div_right (c := 2 ^ m) (Nat.le_of_lt h)
    omega
  · apply Classical.byContradiction
    intro c
    have := Nat.div_le_div_right (c := 2 ^ m) (Nat.le_of_not_lt c)
    omega
/-- Where the highest unlike bit is that of the number j, the codes are first unlike there. -/
theorem ahd_way {P Q : List Int} (hP : inI P) (hQ : inI Q) (hl : P.length = Q.length) {j m : Nat} (hj : j < P.length) (hm : zt P Q j = m + 1) (ha : ∀ i, i < P.length → zt P Q i ≤ m + 1) (hb : ∀ i, i < j → zt P Q i < m + 1) :
    (∀ t, t < (63 - m) * P.length + j → cbit P t = cbit Q t) ∧ ((P.getD j 0 < Q.getD j 0) ↔ cbit P ((63 - m) * P.length + j) < cbit Q ((63 - m) * P.length + j)) ∧ cbit P ((63 - m) * P.length + j) ≠ cbit Q ((63 - m) * P.length + j) ∧ (63 - m) * P.length + j < 64 * P.length := by
  have m64 : m + 1 ≤ 64 := by rw [← hm]; exact top_max (z64_in hP j).1 (z64_in hQ j).1
  have hpl := place_lt (l := 63 - m) (m := 64) hj (by omega)
  have d1 := (top_le (z64_in hP j).1 (z64_in hQ j).1 m64).1 (ha j hj)
  have d2 : ¬ Cm.z64 (P.getD j 0) / 2 ^ m = Cm.z64 (Q.getD j 0) / 2 ^ m := fun e => by
    have := (top_le (z64_in hP j).1 (z64_in hQ j).1 (by omega)).2 e
    have h3 : zt P Q j ≤ m := this
    omega
  have w := bit_way d1 d2
  have c1 := cbit_at P (63 - m) j hj
  have c2 := cbit_at Q (63 - m) j (by omega)
  rw [← hl] at c2
  rw [show 63 - (63 - m) = m from by omega] at c1 c2
  refine ⟨fun t ht => ?_, ?_, ?_, hpl⟩
  · have hk : t % P.length < P.length := Nat.mod_lt _ (by omega)
    have e : t / P.length * P.length + t % P.length = t := by
      have := Nat.div_add_mod t P.length
      rw [Nat.mul_comm] at this
      exact this
    have g1 := cbit_at P (t / P.length) (t % P.length) hk
    have g2 := cbit_at Q (t / P.length) (t % P.length) (by omega)
    rw [← hl] at g2
    rw [e] at g1 g2
    rw [g1, g2]
    have hlev : t / P.length ≤ 63 - m := by
      have : t < (63 - m + 1) * P.length := by rw [Nat.add_mul]; omega
      have := div_lt this
      omega
    have eqs : Cm.z64 (P.getD (t % P.length) 0) / 2 ^ (63 - t / P.length) = Cm.z64 (Q.getD (t % P.length) 0) / 2 ^ (63 - t / P.length) := by
      by_cases c : t / P.length = 63 - m
      · have hkj : t % P.length < j := by
          rw [c] at e
          omega
        have := (top_le (m := m) (z64_in hP (t % P.length)).1 (z64_in hQ (t % P.length)).1 (by omega)).1 (by have : zt P Q (t % P.length) < m + 1 := hb _ hkj; unfold zt at this; omega)
        rw [c, show 63 - (63 - m) = m from by omega]
        exact this
      · have := (top_le (m := m + 1) (z64_in hP (t % P.length)).1 (z64_in hQ (t % P.length)).1 m64).1 (ha _ hk)
        rw [pow_split (m := m + 1) (by omega), pow_split (a := Cm.z64 (Q.getD _ 0)) (m := m + 1) (s := 63 - t / P.length) (by omega), this]
    rw [eqs]
  · rw [c1, c2, ← w.1]
    have e1 := (z64_in hP j).2
    have e2 := (z64_in hQ j).2
    omega
  · rw [c1, c2]
    exact w.2
theorem same_of_top {P Q : List Int} (hP : inI P) (hQ : inI Q) (hl : P.length = Q.length) (h : ∀ i, i < P.length → zt P Q i = 0) : P = Q := by
  apply ext_getI hl
  intro i hi
  have := (top_le (m := 0) (z64_in hP i).1 (z64_in hQ i).1 (by omega)).1 (by have := h i hi; unfold zt at this; omega)
  rw [Nat.pow_zero, Nat.div_one, Nat.div_one] at this
  have e1 := (z64_in hP i).2
  have e2 := (z64_in hQ i).2
  omega
/-- Ahead is as the codes stand. -/
theorem ahd_code {P Q : List Int} (hP : inI P) (hQ : inI Q) (hl : P.length = Q.length) : (ahd P Q P.length).2 = decide (Cm.cmpL (code P) (code Q) < 0) := by
  obtain ⟨h1, h2⟩ := ahd_spec P Q P.length
  rcases h2 with h2 | ⟨j, hj, e1, e2, e3, e4⟩
  · have hz : ∀ i, i < P.length → zt P Q i = 0 := fun i hi => by
      have := h1 i hi
      rw [h2] at this
      simp at this
      omega
    have := same_of_top hP hQ hl hz
    subst this
    rw [h2, (Cm.cmpL_zero (code P) (code P)).2 rfl]
    rfl
  · obtain ⟨m, hm⟩ : ∃ m, zt P Q j = m + 1 := ⟨zt P Q j - 1, by omega⟩
    obtain ⟨w1, w2, w3, w4⟩ := ahd_way hP hQ hl hj hm (fun i hi => by rw [← hm, e1]; exact h1 i hi) (fun i hi => by rw [← hm]; exact e3 i hi)
    rw [e4]
    unfold code
    rw [← hl]
    by_cases c : P.getD j 0 < Q.getD j 0
    · rw [decide_eq_true c, decide_eq_true (cmp_first (cbit_lt P) (cbit_lt Q) _ _ (by omega) w1 (w2.1 c))]
    · have c2 : cbit Q ((63 - m) * P.length + j) < cbit P ((63 - m) * P.length + j) := by
        have : ¬ cbit P ((63 - m) * P.length + j) < cbit Q ((63 - m) * P.length + j) := fun h => c (w2.2 h)
        omega
      have := cmp_first (cbit_lt Q) (cbit_lt P) (8 * P.length) _ (by omega) (fun i hi => (w1 i hi).symm) c2
      rw [Cm.cmpL_neg] at this
      rw [decide_eq_false c, decide_eq_false (by omega)]
/-- Where no number is greater the code doesn't stand behind. -/
theorem code_mono {P Q : List Int} (hP : inI P) (hQ : inI Q) (hl : P.length = Q.length) (h : ∀ i, i < P.length → P.getD i 0 ≤ Q.getD i 0) : Cm.cmpL (code P) (code Q) ≤ 0 := by
  obtain ⟨h1, h2⟩ := ahd_spec P Q P.length
  rcases h2 with h2 | ⟨j, hj, e1, e2, e3, e4⟩
  · have hz : ∀ i, i < P.length → zt P Q i = 0 := fun i hi => by
      have := h1 i hi
      rw [h2] at this
      simp at this
      omega
    have := same_of_top hP hQ hl hz
    subst this
    rw [(Cm.cmpL_zero (code P) (code P)).2 rfl]
    decide
  · obtain ⟨m, hm⟩ : ∃ m, zt P Q j = m + 1 := ⟨zt P Q j - 1, by omega⟩
    obtain ⟨w1, w2, w3, w4⟩ := ahd_way hP hQ hl hj hm (fun i hi => by rw [← hm, e1]; exact h1 i hi) (fun i hi => by rw [← hm]; exact e3 i hi)
    have hne : P.getD j 0 ≠ Q.getD j 0 := fun e => by
      have : zt P Q j = top (Cm.z64 (Q.getD j 0)) (Cm.z64 (Q.getD j 0)) := by unfold zt; rw [e]
      have h0 : top (Cm.z64 (Q.getD j 0)) (Cm.z64 (Q.getD j 0)) ≤ 0 := (top_le (z64_in hQ j).1 (z64_in hQ j).1 (by omega)).2 rfl
      omega
    have := h j hj
    unfold code
    rw [← hl]
    have := cmp_first (cbit_lt P) (cbit_lt Q) (8 * P.length) _ (by omega) w1 (w2.1 (by omega))
    omega
/-- Codes are the same just if the points are. -/
theorem code_same {P Q : List Int} (hP : inI P) (hQ : inI Q) (hl : P.length = Q.length) : Cm.cmpL (code P) (code Q) = 0 ↔ P = Q := by
  rw [Cm.cmpL_zero]
  constructor
  · intro h
    rw [← point_code hP, ← point_code hQ, h, hl]
  · rintro rfl; rfl
end Go.Proofs.Ytbhpmigblkaihaa.Mm

/- morton.Ahead. -/
namespace Go.Proofs.Ytbhpmigblkaihaa.Mo
open Go.RowKit

theorem len64_nat (a : Nat) (ha : a < 18446744073709551616) (w : World) :
    Calls Try.prog 42 #[.int .u64 a] w fun e w' => e = .returned (.int .i64 (Lib.bitLen a)) ∧ w' = w := by
  have := len64_any (a : Int) (by omega) (by omega) w
  rw [Int.toNat_natCast] at this
  exact this
theorem xor_z64 {x y : Int} (x1 : -9223372036854775808 ≤ x) (x2 : x ≤ 9223372036854775807) (y1 : -9223372036854775808 ≤ y) (y2 : y ≤ 9223372036854775807) :
    bits .xor .u64 (IntKind.u64.wrap x) (IntKind.u64.wrap y) = ((Cm.z64 x ^^^ Cm.z64 y : Nat) : Int) := by
  obtain ⟨a, ha, hw⟩ : ∃ a : Nat, a < 18446744073709551616 ∧ IntKind.u64.wrap x = (a : Int) := ⟨(x % 18446744073709551616).toNat, by omega, by rw [IntKind.wrap_u64]; omega⟩
  obtain ⟨b, hb, hv⟩ : ∃ b : Nat, b < 18446744073709551616 ∧ IntKind.u64.wrap y = (b : Int) := ⟨(y % 18446744073709551616).toNat, by omega, by rw [IntKind.wrap_u64]; omega⟩
  have e1 := Cm.sign_int x1 x2
  have e2 := Cm.sign_int y1 y2
  rw [hw] at e1
  rw [hv] at e2
  have f1 := u64_xor_nat a 9223372036854775808 ha (by omega)
  have f2 := u64_xor_nat b 9223372036854775808 hb (by omega)
  have g1 : Cm.z64 x = a ^^^ 9223372036854775808 := Int.ofNat.inj (e1.symm.trans f1)
  have g2 : Cm.z64 y = b ^^^ 9223372036854775808 := Int.ofNat.inj (e2.symm.trans f2)
  rw [hw, hv, u64_xor_nat a b ha hb, g1, g2]
  congr 1
  rw [Nat.xor_comm b, Nat.xor_assoc, ← Nat.xor_assoc 9223372036854775808, Nat.xor_self, Nat.zero_xor]
def ARel (w : World) (P Q : List Int) (n : Nat) (hi ah i : Value) (wr : World) : Prop :=
  ∃ k d : Nat, k ≤ n ∧ i = .int .i64 k ∧ hi = .int .i64 (Mm.ahd P Q k).1 ∧ ah = .bool (Mm.ahd P Q k).2 ∧ wr = w.drewN d
def AheadPost (w : World) (b : Bool) (e : Ending) (w' : World) : Prop := e = .returned (.bool b) ∧ ∃ d, w' = w.drewN d
theorem ahead_no (p q : Option Addr) (n c m e : Nat) (w : World) (h : (n < 1 ∨ 8 < n) ∨ n ≠ m) (hn : n ≤ 9223372036854775807) (_hm : m ≤ 9223372036854775807) :
    Calls Try.prog 25 #[.slice p n c, .slice q m e] w (AheadPost w false) := by
  by_cases hd : n < 1 ∨ 8 < n
  · clear h
    go_enter Try.func25, Try.ntmps25
    go_wp2_with fail
    refine (dim_no n (by omega) _).mono ?_
    rintro e w' ⟨rfl, rfl⟩
    go_wp2_with fail
    go_ret
    exact ⟨rfl, 0, rfl⟩
  · have hne : ¬ (n : Int) = m := by omega
    have d1 : (1 : Int) ≤ n := by omega
    have d2 : (n : Int) ≤ 8 := by omega
    clear h hd
    go_enter Try.func25, Try.ntmps25
    go_wp2_with fail
    refine (dim_yes n d1 d2 _).mono ?_
    rintro e w' ⟨rfl, rfl⟩
    go_wp2_with fail
    go_ret
    exact ⟨rfl, 0, rfl⟩
set_option maxRecDepth 100000 in
set_option maxHeartbeats 4000000 in
theorem ahead_any (P Q : List Int) (p q : Option Addr) (n c e : Nat) (w : World) (hP : Ints w p n c P) (hQ : Ints w q n e Q) (h1 : 1 ≤ n) (h8 : n ≤ 8) :
    Calls Try.prog 25 #[.slice p n c, .slice q n e] w (AheadPost w (decide (Cm.cmpL (Mm.code P) (Mm.code Q) < 0))) := by
  have hend := Mm.ahd_code hP.ok hQ.ok (hP.size.symm.trans hQ.size)
  rw [← hP.size] at hend
  rw [← hend]
  have H1 := Lib.hid hP
  have H2 := Lib.hid hQ
  clear hP hQ hend
  go_enter Try.func25, Try.ntmps25
  go_wp2_with fail
  refine (dim_yes n (by omega) (by omega) _).mono ?_
  rintro e w' ⟨rfl, rfl⟩
  go_wp2_with fail
  go_loopw [5, 6, 23] (fun hi ah i wr => ARel w' P Q n hi ah i wr) (fun _ _ i _ => n - (intOf i).toNat)
  case atStart => exact ⟨0, 0, by omega, rfl, rfl, rfl, rfl⟩
  case round =>
    obtain ⟨k, d, hk, rfl, rfl, rfl, rfl⟩ := hrel
    by_cases hlt : k < n
    · obtain ⟨gx, o, rfl, hcx⟩ := H1.out.cell k hlt
      obtain ⟨gy, o2, rfl, hcy⟩ := H2.out.cell k hlt
      have i1 : (0 : Int) ≤ k ∧ (k : Int) < n := by omega
      have hx := Mm.inI_get H1.out.ok k
      have hy := Mm.inI_get H2.out.ok k
      have hxor := xor_z64 hx.1 hx.2 hy.1 hy.2
      have zx := (Mm.z64_in H1.out.ok k).1
      have zy := (Mm.z64_in H2.out.ok k).1
      have hz : Cm.z64 (P.getD k 0) ^^^ Cm.z64 (Q.getD k 0) < 18446744073709551616 := Nat.xor_lt_two_pow (n := 64) zx zy
      have hs : Mm.ahd P Q (k + 1) = if (Mm.ahd P Q k).1 < Lib.bitLen (Cm.z64 (P.getD k 0) ^^^ Cm.z64 (Q.getD k 0)) then (Lib.bitLen (Cm.z64 (P.getD k 0) ^^^ Cm.z64 (Q.getD k 0)), decide (P.getD k 0 < Q.getD k 0)) else Mm.ahd P Q k := rfl
      have HS := Lib.hid hs
      clear zx zy hs hx hy
      generalize Cm.z64 (P.getD k 0) ^^^ Cm.z64 (Q.getD k 0) = z at *
      generalize P.getD k 0 = x at *
      generalize Q.getD k 0 = y at *
      go_wp2_with fail
      refine (len64_nat z hz _).mono ?_
      rintro e w5 ⟨rfl, rfl⟩
      obtain ⟨hi0, ah0, hah⟩ : ∃ a b, Mm.ahd P Q k = (a, b) := ⟨_, _, rfl⟩
      rw [hah] at HS ⊢
      clear hah hxor
      generalize Lib.bitLen z = t at *
      by_cases hgt : hi0 < t
      · have g1 : (hi0 : Int) < t := by omega
        go_upto_region 9 with fail
        go_quiet (fail)
        go_wp2_with fail
        go_roundw
        case rel => exact ⟨k + 1, _, by omega, by go_num, by rw [HS.out, if_pos hgt], by rw [HS.out, if_pos hgt], by first | rfl | simp [World.drewN_drewN]⟩
        case measure => simp [intOf]; omega
      · have g1 : ¬ (hi0 : Int) < t := by omega
        go_wp2_with fail
        go_roundw
        case rel => exact ⟨k + 1, d, by omega, by go_num, by rw [HS.out, if_neg hgt], by rw [HS.out, if_neg hgt], rfl⟩
        case measure => simp [intOf]; omega
    · obtain rfl : k = n := by omega
      go_wp2_with fail
      go_ret
      exact ⟨rfl, d, rfl⟩
end Go.Proofs.Ytbhpmigblkaihaa.Mo

/- A box whose two rows grow, one number each in turn. -/
namespace Go.Proofs.Ytbhpmigblkaihaa.Zr
open Go.RowKit Go.Proofs.Ytbhpmigblkaihaa.Mo

theorem owns_keep {w w' : World} {base : Nat} {e : TypeId} {v : Value} {n : Nat} {xs : List Value} (h : w.ownsRow base e 1 v n xs) (hk : ∀ g, v.ownBlock = some g → w'.heap[g]? = w.heap[g]?) : w'.ownsRow base e 1 v n xs := by
  obtain ⟨h1, h2⟩ := h
  refine ⟨h1, h2.imp id ?_⟩
  rintro ⟨g, cap, cur, rfl, hg, hh, r⟩
  exact ⟨g, cap, cur, rfl, hg, (hk g rfl).trans hh, r⟩
structure TwoR (w0 w : World) (gb : Nat) (u v : Value) (nu nv : Nat) (A B : List Int) : Prop where
  row : w.heap[gb]? = some (.cells #[u, v] 26 (0, 0))
  own1 : w.ownsRow (gb + 1) 2 1 u nu (ivals A)
  own2 : w.ownsRow (gb + 1) 2 1 v nv (ivals B)
  apart : ∀ g, u.ownBlock = some g → v.ownBlock ≠ some g
  low : Below w0.heap.size w0 w
  ge : w0.heap.size ≤ gb
theorem TwoR.lt {w0 w : World} {gb : Nat} {u v : Value} {nu nv : Nat} {A B : List Int} (h : TwoR w0 w gb u v nu nv A B) : gb < w.heap.size := (Array.getElem?_eq_some_iff.1 h.row).1
theorem TwoR.facts {w0 w : World} {gb : Nat} {u v : Value} {nu nv : Nat} {A B : List Int} (h : TwoR w0 w gb u v nu nv A B) : w.cell? ⟨gb, 0, none⟩ = some u ∧ w.cell? ⟨gb, 1, none⟩ = some v ∧ w.frozen? ⟨gb, 0, none⟩ = false ∧ w.frozen? ⟨gb, 1, none⟩ = false :=
  ⟨cell_of_row w gb 0 _ _ _ h.row, cell_of_row w gb 1 _ _ _ h.row, frozen_of_row w gb _ _ _ h.row, frozen_of_row w gb _ _ _ h.row⟩
theorem TwoR.start (w0 w : World) (hb : Below w0.heap.size w0 w) : TwoR w0 (w.alloc (.cells #[.slice none 0 0, .slice none 0 0] 26)) w.heap.size (.slice none 0 0) (.slice none 0 0) 0 0 [] [] :=
  ⟨heap_alloc_new w _, World.ownsRow_nil _ _ _ _, World.ownsRow_nil _ _ _ _, fun g h => by simp [Value.ownBlock] at h, hb.alloc hb.size _, hb.size⟩
theorem TwoR.later {w0 w w' : World} {gb : Nat} {u v : Value} {nu nv : Nat} {A B : List Int} (h : TwoR w0 w gb u v nu nv A B) (hb : Below w.heap.size w w') : TwoR w0 w' gb u v nu nv A B :=
  ⟨(hb.block _ h.lt).trans h.row, owns_keep h.own1 (fun g hg => hb.block g (h.own1.lt g hg).2), owns_keep h.own2 (fun g hg => hb.block g (h.own2.lt g hg).2), h.apart, h.low.trans (hb.mono h.low.size), h.ge⟩
theorem TwoR.left {w0 w w2 : World} {O : Obj} {gb : Nat} {u v u' : Value} {nu nv : Nat} {A B : List Int} {x : Int} (h : TwoR w0 w gb u v nu nv A B) (ho : w2.ownsRow (gb + 1) 2 1 u' (nu + 1) (ivals A ++ ivals [x])) (hg : (w.alloc O).grownBy w2 u.ownBlock) (ht : u'.ownBlock = u.ownBlock ∨ u'.ownBlock = some (w.alloc O).heap.size) :
    (w2.cell? ⟨gb, 0, none⟩ = some u ∧ w2.frozen? ⟨gb, 0, none⟩ = false) ∧ TwoR w0 (w2.setCell ⟨gb, 0, none⟩ u') gb u' v (nu + 1) nv (A ++ [x]) B := by
  have hal : Below w.heap.size w (w.alloc O) := (Below.refl _ _).alloc (Nat.le_refl _) _
  have hs : (w.alloc O).heap.size = w.heap.size + 1 := by simp
  have hlt := h.lt
  have hu : ∀ g, u.ownBlock = some g → gb + 1 ≤ g ∧ g < w.heap.size := fun g e => h.own1.lt g e
  have hv : ∀ g, v.ownBlock = some g → gb + 1 ≤ g ∧ g < w.heap.size := fun g e => h.own2.lt g e
  have kr : w2.heap[gb]? = w.heap[gb]? := (hg.block gb (by omega) (fun e => by have := hu gb e.symm; omega)).trans (hal.block gb hlt)
  have row2 := kr.trans h.row
  have kv : ∀ g, v.ownBlock = some g → (w2.setCell ⟨gb, 0, none⟩ u').heap[g]? = w.heap[g]? := fun g e => by
    have := hv g e
    rw [heap_setCell_other _ _ _ _ (by show g ≠ gb; omega), hg.block g (by omega) (fun e2 => h.apart g e2.symm e), hal.block g (by omega)]
  refine ⟨⟨cell_of_row w2 gb 0 _ _ _ row2, frozen_of_row w2 gb _ _ _ row2⟩, heap_setCell_same w2 gb 0 _ _ u' row2, ?_, owns_keep h.own2 kv, fun g e e2 => ?_, ((h.low.alloc h.low.size O).grown hg (by have := h.low.size; omega) (fun g e => by have := (hu g e).1; have := h.ge; omega)).setCell h.ge _, h.ge⟩
  · rw [show ivals (A ++ [x]) = ivals A ++ ivals [x] from by simp [ivals]]
    exact owns_keep ho fun g e => heap_setCell_other _ _ _ _ (by show g ≠ gb; have := (ho.lt g e).1; omega)
  · have := hv g e2
    rcases ht with t | t
    · exact h.apart g (by rw [← t]; exact e) e2
    · rw [t] at e
      simp only [Option.some.injEq] at e
      omega
theorem TwoR.right {w0 w w2 : World} {O : Obj} {gb : Nat} {u v v' : Value} {nu nv : Nat} {A B : List Int} {x : Int} (h : TwoR w0 w gb u v nu nv A B) (ho : w2.ownsRow (gb + 1) 2 1 v' (nv + 1) (ivals B ++ ivals [x])) (hg : (w.alloc O).grownBy w2 v.ownBlock) (ht : v'.ownBlock = v.ownBlock ∨ v'.ownBlock = some (w.alloc O).heap.size) :
    (w2.cell? ⟨gb, 1, none⟩ = some v ∧ w2.frozen? ⟨gb, 1, none⟩ = false) ∧ TwoR w0 (w2.setCell ⟨gb, 1, none⟩ v') gb u v' nu (nv + 1) A (B ++ [x]) := by
  have hal : Below w.heap.size w (w.alloc O) := (Below.refl _ _).alloc (Nat.le_refl _) _
  have hs : (w.alloc O).heap.size = w.heap.size + 1 := by simp
  have hlt := h.lt
  have hu : ∀ g, u.ownBlock = some g → gb + 1 ≤ g ∧ g < w.heap.size := fun g e => h.own1.lt g e
  have hv : ∀ g, v.ownBlock = some g → gb + 1 ≤ g ∧ g < w.heap.size := fun g e => h.own2.lt g e
  have kr : w2.heap[gb]? = w.heap[gb]? := (hg.block gb (by omega) (fun e => by have := hv gb e.symm; omega)).trans (hal.block gb hlt)
  have row2 := kr.trans h.row
  have ku : ∀ g, u.ownBlock = some g → (w2.setCell ⟨gb, 1, none⟩ v').heap[g]? = w.heap[g]? := fun g e => by
    have := hu g e
    rw [heap_setCell_other _ _ _ _ (by show g ≠ gb; omega), hg.block g (by omega) (fun e2 => h.apart g e e2.symm), hal.block g (by omega)]
  refine ⟨⟨cell_of_row w2 gb 1 _ _ _ row2, frozen_of_row w2 gb _ _ _ row2⟩, heap_setCell_same w2 gb 1 _ _ v' row2, owns_keep h.own1 ku, ?_, fun g e e2 => ?_, ((h.low.alloc h.low.size O).grown hg (by have := h.low.size; omega) (fun g e => by have := (hv g e).1; have := h.ge; omega)).setCell h.ge _, h.ge⟩
  · rw [show ivals (B ++ [x]) = ivals B ++ ivals [x] from by simp [ivals]]
    exact owns_keep ho fun g e => heap_setCell_other _ _ _ _ (by show g ≠ gb; have := (ho.lt g e).1; omega)
  · have := hu g e
    rcases ht with t | t
    · exact h.apart g e (by rw [← t]; exact e2)
    · rw [t] at e2
      simp only [Option.some.injEq] at e2
      omega
/-- What is told of a box: its corners' rows. -/
def BoxPost (w : World) (A B : List Int) (v : Value) (w' : World) : Prop := ∃ p c q e, v = .agg #[.slice p A.length c, .slice q B.length e] ∧ Ints w' p A.length c A ∧ Ints w' q B.length e B ∧ Below w.heap.size w w'
theorem TwoR.done {w0 w : World} {gb : Nat} {u v : Value} {nu nv : Nat} {A B : List Int} (h : TwoR w0 w gb u v nu nv A B) (hA : Mm.inI A) (hB : Mm.inI B) : BoxPost w0 A B (.agg #[u, v]) w := by
  have l1 : nu = A.length := by have := h.own1.1; rw [ivals, List.length_map, Nat.mul_one] at this; exact this.symm
  have l2 : nv = B.length := by have := h.own2.1; rw [ivals, List.length_map, Nat.mul_one] at this; exact this.symm
  obtain ⟨p, c, rfl, hp⟩ := ints_of_owns h.own1 hA
  obtain ⟨q, e, rfl, hq⟩ := ints_of_owns h.own2 hB
  subst l1
  subst l2
  exact ⟨p, c, q, e, rfl, hp, hq, h.low⟩
theorem zret_box {fn : Func} {P : Ending → World → Prop} (p : Tmp) (hr : fn.results = #[.cell p 26]) {tmps : Array Value} {w : World} (g : Nat) (a b : Value)
    (hp : tmps.getD p undef = .pointer (some ⟨g, 0, none⟩)) (r0 : w.cell? ⟨g, 0, none⟩ = some a) (r1 : w.cell? ⟨g, 1, none⟩ = some b) (h : P (.returned (.agg #[a, b])) w) : bodyPost Try.prog fn P .ret ⟨tmps, []⟩ w := by
  refine bodyPost_ret (a := ⟨tmps, []⟩) (v := .agg #[a, b]) ?_ rfl h
  have hp' : tmps[p]?.getD undef = .pointer (some ⟨g, 0, none⟩) := by simpa using hp
  simp [results, hr, hp', go_sem, r0, r1]
theorem zret_box2 {fn : Func} {P : Ending → World → Prop} (p u : Tmp) (hr : fn.results = #[.cell p 26, .tmp u]) {tmps : Array Value} {w : World} (g : Nat) (a b x : Value)
    (hp : tmps.getD p undef = .pointer (some ⟨g, 0, none⟩)) (hu : tmps.getD u undef = x) (r0 : w.cell? ⟨g, 0, none⟩ = some a) (r1 : w.cell? ⟨g, 1, none⟩ = some b) (h : P (.returned (.tuple #[.agg #[a, b], x])) w) : bodyPost Try.prog fn P .ret ⟨tmps, []⟩ w := by
  refine bodyPost_ret (a := ⟨tmps, []⟩) (v := .tuple #[.agg #[a, b], x]) ?_ rfl h
  have hp' : tmps[p]?.getD undef = .pointer (some ⟨g, 0, none⟩) := by simpa using hp
  have hu' : tmps[u]?.getD undef = x := by simpa using hu
  simp [results, hr, hp', hu', go_sem, r0, r1]
end Go.Proofs.Ytbhpmigblkaihaa.Zr

/- Plain mathematics of package zrange: which codes lie in a box. No program is named here. -/
namespace Go.Proofs.Ytbhpmigblkaihaa.Zm
open Mm
/-- Codes are alike just where all their bits are. -/
theorem bits_same {P Q : List Int} (hP : inI P) (hQ : inI Q) (hl : P.length = Q.length) (h : ∀ i, i < 64 * P.length → cbit P i = cbit Q i) : P = Q := by
  have e : code P = code Q := by
    unfold code
    rw [← hl]
    exact bytesOf_congr _ fun i hi => h i (by omega)
  rw [← point_code hP, ← point_code hQ, e, hl]
/-- The first bit at which two are unlike. -/
theorem first_unlike (f g : Nat → Nat) : ∀ n, (∀ i, i < n → f i = g i) ∨ ∃ t, t < n ∧ (∀ i, i < t → f i = g i) ∧ f t ≠ g t
  | 0 => Or.inl fun i hi => by omega
  | n + 1 => by
    rcases first_unlike f g n with h | ⟨t, h1, h2, h3⟩
    · by_cases c : f n = g n
      · refine Or.inl fun i hi => ?_
        by_cases e : i = n
        · rw [e]; exact c
        · exact h i (by omega)
      · exact Or.inr ⟨n, by omega, h, c⟩
    · exact Or.inr ⟨t, by omega, h2, h3⟩
/-- Which of two codes stands ahead, bit by bit. -/
theorem lt_iff {P Q : List Int} (hP : inI P) (hQ : inI Q) (hl : P.length = Q.length) : Cm.cmpL (code P) (code Q) < 0 ↔ ∃ t, t < 64 * P.length ∧ (∀ i, i < t → cbit P i = cbit Q i) ∧ cbit P t < cbit Q t := by
  constructor
  · intro h
    rcases first_unlike (cbit P) (cbit Q) (64 * P.length) with e | ⟨t, h1, h2, h3⟩
    · have := bits_same hP hQ hl e
      subst this
      rw [(Cm.cmpL_zero (code P) (code P)).2 rfl] at h
      exact absurd h (by decide)
    · by_cases c : cbit P t < cbit Q t
      · exact ⟨t, h1, h2, c⟩
      · have h4 := cmp_first (cbit_lt Q) (cbit_lt P) (8 * P.length) t (by omega) (fun i hi => (h2 i hi).symm) (by omega)
        have h5 : Cm.cmpL (code Q) (code P) < 0 := by
          unfold code
          rw [← hl]
          exact h4
        rw [Cm.cmpL_neg] at h5
        omega
  · rintro ⟨t, h1, h2, h3⟩
    unfold code
    rw [← hl]
    exact cmp_first (cbit_lt P) (cbit_lt Q) (8 * P.length) t (by omega) h2 h3
/-- The numbers of P lie in a box. -/
def inB (L H P : List Int) : Prop := ∀ k, k < P.length → L.getD k 0 ≤ P.getD k 0 ∧ P.getD k 0 ≤ H.getD k 0
/-- Bits, and behind them all alike. -/
def pad (g : Nat → Nat) (p : Nat → Bool) (b : Nat) : Nat → Nat := fun i => if p i = true then g i else b
theorem bin_pad (g : Nat → Nat) (b s : Nat) (hb : b < 2) : ∀ n, bin (fun i => if i < s + n - n then g i else b) s = bin g s → bin (fun i => if i < s then g i else b) (s + n) = bin g s * 2 ^ n + b * (2 ^ n - 1)
  | 0, _ => by
    rw [Nat.add_zero, bin_congr (h := g) s (fun i hi => if_pos hi)]
    simp
  | n + 1, h => by
    have ih := bin_pad g b s hb n (bin_congr s fun i hi => if_pos (by omega))
    have hp := Nat.two_pow_pos n
    rw [← Nat.add_assoc, bin_succ, ih, if_neg (by omega), Nat.pow_succ, ← Nat.mul_assoc]
    rcases (show b = 0 ∨ b = 1 from by omega) with rfl | rfl <;> omega
theorem bin_inj {f g : Nat → Nat} (hf : ∀ i, f i < 2) (hg : ∀ i, g i < 2) (n : Nat) (h : bin f n = bin g n) (i : Nat) (hi : i < n) : f i = g i := by
  have a := bin_bit hf n i hi
  rw [h, bin_bit hg n i hi] at a
  exact a.symm
/-- A predicate that stops once is a bound. -/
theorem stops (p : Nat → Bool) (hp : ∀ i j, i < j → p j = true → p i = true) : ∀ N, ∃ s, s ≤ N ∧ ∀ i, i < N → (p i = true ↔ i < s)
  | 0 => ⟨0, Nat.le_refl _, fun i hi => by omega⟩
  | N + 1 => by
    obtain ⟨s, h1, h2⟩ := stops p hp N
    by_cases c : p N = true
    · refine ⟨N + 1, Nat.le_refl _, fun i hi => ⟨fun _ => hi, fun _ => ?_⟩⟩
      by_cases e : i = N
      · rw [e]; exact c
      · exact hp i N (by omega) c
    · refine ⟨s, by omega, fun i hi => ?_⟩
      by_cases e : i = N
      · subst e
        exact ⟨fun h => absurd h c, fun h => by omega⟩
      · exact h2 i (by omega)
/-- What numbers begin with the bits that p asks for. -/
theorem pad_iff {g : Nat → Nat} (hg : ∀ i, g i < 2) {p : Nat → Bool} (hp : ∀ i j, i < j → p j = true → p i = true) {z : Nat} (hz : z < 2 ^ 64) :
    (bin (pad g p 0) 64 ≤ z ∧ z ≤ bin (pad g p 1) 64) ↔ ∀ i, i < 64 → p i = true → z / 2 ^ (63 - i) % 2 = g i := by
  obtain ⟨s, hs, hps⟩ := stops p hp 64
  have e : ∀ b, b < 2 → bin (pad g p b) 64 = bin g s * 2 ^ (64 - s) + b * (2 ^ (64 - s) - 1) := fun b hb => by
    have := bin_pad g b s hb (64 - s) (bin_congr s fun i hi => if_pos (by omega))
    rw [show s + (64 - s) = 64 from by omega] at this
    rw [← this]
    refine bin_congr 64 fun i hi => ?_
    unfold pad
    by_cases c : i < s
    · rw [if_pos c, if_pos ((hps i hi).2 c)]
    · rw [if_neg c, if_neg (fun h => c ((hps i hi).1 h))]
  rw [e 0 (by omega), e 1 (by omega)]
  have hpow := Nat.two_pow_pos (64 - s)
  have key : (bin g s * 2 ^ (64 - s) + 0 * (2 ^ (64 - s) - 1) ≤ z ∧ z ≤ bin g s * 2 ^ (64 - s) + 1 * (2 ^ (64 - s) - 1)) ↔ z / 2 ^ (64 - s) = bin g s := by
    have hd := Nat.div_add_mod z (2 ^ (64 - s))
    have hm := Nat.mod_lt z hpow
    rw [Nat.mul_comm] at hd
    generalize 2 ^ (64 - s) = M at *
    constructor
    · rintro ⟨h1, h2⟩
      refine Nat.div_eq_of_lt_le (by omega) ?_
      rw [Nat.succ_mul]
      omega
    · intro h
      rw [h] at hd
      omega
  rw [key]
  have ht := bin_top 64 z hz s hs
  rw [← ht]
  constructor
  · intro h i hi hpi
    have := bin_inj (f := fun l => z / 2 ^ (64 - 1 - l) % 2) (g := g) (fun l => Nat.mod_lt _ (by omega)) hg s h i ((hps i hi).1 hpi)
    exact this
  · intro h
    exact bin_congr s fun i hi => h i (by omega) ((hps i (by omega)).2 hi)
/-- The corners of all points whose codes begin with n bits. -/
def rlo (g : Nat → Nat) (n d : Nat) : List Int := (List.range d).map fun k => (bin (pad (fun l => g (l * d + k)) (fun l => decide (l * d + k < n)) 0) 64 : Nat) - 9223372036854775808
def rhi (g : Nat → Nat) (n d : Nat) : List Int := (List.range d).map fun k => (bin (pad (fun l => g (l * d + k)) (fun l => decide (l * d + k < n)) 1) 64 : Nat) - 9223372036854775808
theorem rlo_length (g : Nat → Nat) (n d : Nat) : (rlo g n d).length = d := by simp [rlo]
theorem rhi_length (g : Nat → Nat) (n d : Nat) : (rhi g n d).length = d := by simp [rhi]
theorem rlo_get (g : Nat → Nat) (n d k : Nat) (h : k < d) : (rlo g n d).getD k 0 = (bin (pad (fun l => g (l * d + k)) (fun l => decide (l * d + k < n)) 0) 64 : Nat) - 9223372036854775808 := by
  simp [rlo, List.getD_eq_getElem?_getD, h]
theorem rhi_get (g : Nat → Nat) (n d k : Nat) (h : k < d) : (rhi g n d).getD k 0 = (bin (pad (fun l => g (l * d + k)) (fun l => decide (l * d + k < n)) 1) 64 : Nat) - 9223372036854775808 := by
  simp [rhi, List.getD_eq_getElem?_getD, h]
theorem pad_lt {g : Nat → Nat} (hg : ∀ i, g i < 2) (p : Nat → Bool) {b : Nat} (hb : b < 2) (i : Nat) : pad g p b i < 2 := by
  unfold pad; split
  · exact hg i
  · exact hb
theorem rlo_in {g : Nat → Nat} (hg : ∀ i, g i < 2) (n d : Nat) : inI (rlo g n d) := by
  intro x hx
  simp only [rlo, List.mem_map] at hx
  obtain ⟨k, _, rfl⟩ := hx
  have := bin_lt (pad_lt (fun i => hg (i * d + k)) (fun l => decide (l * d + k < n)) (b := 0) (by omega)) 64
  omega
theorem rhi_in {g : Nat → Nat} (hg : ∀ i, g i < 2) (n d : Nat) : inI (rhi g n d) := by
  intro x hx
  simp only [rhi, List.mem_map] at hx
  obtain ⟨k, _, rfl⟩ := hx
  have := bin_lt (pad_lt (fun i => hg (i * d + k)) (fun l => decide (l * d + k < n)) (b := 1) (by omega)) 64
  omega
/-- A point is among them just if its code begins so. -/
theorem region_iff {g : Nat → Nat} (hg : ∀ i, g i < 2) {P : List Int} (hP : inI P) {n : Nat} (hn : n ≤ 64 * P.length) : inB (rlo g n P.length) (rhi g n P.length) P ↔ ∀ i, i < n → cbit P i = g i := by
  have each : ∀ k, k < P.length → (((rlo g n P.length).getD k 0 ≤ P.getD k 0 ∧ P.getD k 0 ≤ (rhi g n P.length).getD k 0) ↔ ∀ l, l < 64 → l * P.length + k < n → cbit P (l * P.length + k) = g (l * P.length + k)) := fun k hk => by
    rw [rlo_get _ _ _ _ hk, rhi_get _ _ _ _ hk]
    obtain ⟨z1, z2⟩ := z64_in hP k
    have hpad := pad_iff (g := fun l => g (l * P.length + k)) (fun l => hg _) (p := fun l => decide (l * P.length + k < n)) (fun i j hij hj => by
      rw [decide_eq_true_eq] at hj ⊢
      have : i * P.length ≤ j * P.length := Nat.mul_le_mul_right _ (by omega)
      omega) z1
    constructor
    · intro h l hl hln
      rw [cbit_at P l k hk]
      exact hpad.1 (by omega) l hl (decide_eq_true hln)
    · intro h
      have := hpad.2 fun l hl hp => by
        rw [← cbit_at P l k hk]
        exact h l hl (of_decide_eq_true hp)
      omega
  constructor
  · intro h i hi
    have hd : 0 < P.length := by
      rcases Nat.eq_zero_or_pos P.length with h0 | h0
      · rw [h0] at hn; omega
      · exact h0
    have hk : i % P.length < P.length := Nat.mod_lt _ hd
    have e : i / P.length * P.length + i % P.length = i := by
      have := Nat.div_add_mod i P.length
      rw [Nat.mul_comm] at this
      exact this
    have := (each (i % P.length) hk).1 (h _ hk) (i / P.length) (div_lt (by omega)) (by rw [e]; exact hi)
    rw [e] at this
    exact this
  · intro h k hk
    exact (each k hk).2 fun l hl hln => h _ hln
/-- The points of two boxes. -/
def cutLo (L M : List Int) : List Int := (List.range L.length).map fun k => max (L.getD k 0) (M.getD k 0)
def cutHi (L M : List Int) : List Int := (List.range L.length).map fun k => min (L.getD k 0) (M.getD k 0)
theorem cutLo_length (L M : List Int) : (cutLo L M).length = L.length := by simp [cutLo]
theorem cutHi_length (L M : List Int) : (cutHi L M).length = L.length := by simp [cutHi]
theorem cutLo_get (L M : List Int) (k : Nat) (h : k < L.length) : (cutLo L M).getD k 0 = max (L.getD k 0) (M.getD k 0) := by simp [cutLo, List.getD_eq_getElem?_getD, h]
theorem cutHi_get (L M : List Int) (k : Nat) (h : k < L.length) : (cutHi L M).getD k 0 = min (L.getD k 0) (M.getD k 0) := by simp [cutHi, List.getD_eq_getElem?_getD, h]
theorem cutLo_in {L M : List Int} (hL : inI L) (hM : inI M) : inI (cutLo L M) := by
  intro x hx
  simp only [cutLo, List.mem_map] at hx
  obtain ⟨k, _, rfl⟩ := hx
  have := inI_get hL k
  have := inI_get hM k
  omega
theorem cutHi_in {L M : List Int} (hL : inI L) (hM : inI M) : inI (cutHi L M) := by
  intro x hx
  simp only [cutHi, List.mem_map] at hx
  obtain ⟨k, _, rfl⟩ := hx
  have := inI_get hL k
  have := inI_get hM k
  omega
/-- Whether two boxes have a point together. -/
def meets (L H M N : List Int) : Prop := ∀ k, k < L.length → max (L.getD k 0) (M.getD k 0) ≤ min (H.getD k 0) (N.getD k 0)
theorem cut_iff {L H M N P : List Int} (h1 : P.length = L.length) (h2 : H.length = L.length) : (inB (cutLo L M) (cutHi H N) P) ↔ inB L H P ∧ inB M N P := by
  constructor
  · intro h
    refine ⟨fun k hk => ?_, fun k hk => ?_⟩
    · have := h k hk
      rw [cutLo_get _ _ _ (by omega), cutHi_get _ _ _ (by omega)] at this
      omega
    · have := h k hk
      rw [cutLo_get _ _ _ (by omega), cutHi_get _ _ _ (by omega)] at this
      omega
  · rintro ⟨h, h'⟩ k hk
    rw [cutLo_get _ _ _ (by omega), cutHi_get _ _ _ (by omega)]
    have := h k hk
    have := h' k hk
    omega
theorem meets_of {L H M N P : List Int} (h1 : P.length = L.length) (h : inB L H P) (h' : inB M N P) : meets L H M N := fun k hk => by
  have := h k (by omega)
  have := h' k (by omega)
  omega
/-- The least and the greatest corner of a cut lie in both. -/
theorem lo_in_cut {L H M N : List Int} (_h2 : H.length = L.length) (h : meets L H M N) : inB L H (cutLo L M) ∧ inB M N (cutLo L M) := by
  refine ⟨fun k hk => ?_, fun k hk => ?_⟩
  all_goals
    rw [cutLo_length] at hk
    rw [cutLo_get _ _ _ hk]
    have := h k hk
    omega
theorem hi_in_cut {L H M N : List Int} (h2 : H.length = L.length) (h : meets L H M N) : inB L H (cutHi H N) ∧ inB M N (cutHi H N) := by
  refine ⟨fun k hk => ?_, fun k hk => ?_⟩
  all_goals
    rw [cutHi_length] at hk
    rw [cutHi_get _ _ _ hk]
    have := h k (by omega)
    omega
end Go.Proofs.Ytbhpmigblkaihaa.Zm

/- Plain: the first code of a box from any one on, and the last one up to it; a box's parts. No program is named here. -/
namespace Go.Proofs.Ytbhpmigblkaihaa.Zm
open Mm
/-- A point of a box whose code is the first one from Q's on. -/
structure FirstIn (L H Q X : List Int) : Prop where
  len : X.length = Q.length
  ok : inI X
  box : inB L H X
  from' : Cm.cmpL (code Q) (code X) ≤ 0
  least : ∀ Y, Y.length = Q.length → inI Y → inB L H Y → Cm.cmpL (code Q) (code Y) ≤ 0 → Cm.cmpL (code X) (code Y) ≤ 0
structure LastIn (L H Q X : List Int) : Prop where
  len : X.length = Q.length
  ok : inI X
  box : inB L H X
  upto : Cm.cmpL (code X) (code Q) ≤ 0
  last : ∀ Y, Y.length = Q.length → inI Y → inB L H Y → Cm.cmpL (code Y) (code Q) ≤ 0 → Cm.cmpL (code Y) (code X) ≤ 0
def NoneFrom (L H Q : List Int) : Prop := ∀ Y, Y.length = Q.length → inI Y → inB L H Y → ¬ Cm.cmpL (code Q) (code Y) ≤ 0
def NoneUpto (L H Q : List Int) : Prop := ∀ Y, Y.length = Q.length → inI Y → inB L H Y → ¬ Cm.cmpL (code Y) (code Q) ≤ 0
theorem cmp_eq {P Q : List Int} (hP : inI P) (hQ : inI Q) (hl : P.length = Q.length) (h1 : Cm.cmpL (code P) (code Q) ≤ 0) (h2 : Cm.cmpL (code Q) (code P) ≤ 0) : P = Q := by
  rw [Cm.cmpL_neg] at h2
  exact (code_same hP hQ hl).1 (by omega)
theorem FirstIn.unique {L H Q X Y : List Int} (h1 : FirstIn L H Q X) (h2 : FirstIn L H Q Y) : X = Y :=
  cmp_eq h1.ok h2.ok (h1.len.trans h2.len.symm) (h1.least Y h2.len h2.ok h2.box h2.from') (h2.least X h1.len h1.ok h1.box h1.from')
theorem LastIn.unique {L H Q X Y : List Int} (h1 : LastIn L H Q X) (h2 : LastIn L H Q Y) : X = Y :=
  cmp_eq h1.ok h2.ok (h1.len.trans h2.len.symm) (h2.last X h1.len h1.ok h1.box h1.upto) (h1.last Y h2.len h2.ok h2.box h2.upto)
theorem cmp_refl (P : List Int) : Cm.cmpL (code P) (code P) = 0 := (Cm.cmpL_zero _ _).2 rfl
theorem first_self {L H Q : List Int} (hQ : inI Q) (h : inB L H Q) : FirstIn L H Q Q :=
  ⟨rfl, hQ, h, by rw [cmp_refl]; decide, fun Y _ _ _ h => h⟩
theorem last_self {L H Q : List Int} (hQ : inI Q) (h : inB L H Q) : LastIn L H Q Q :=
  ⟨rfl, hQ, h, by rw [cmp_refl]; decide, fun Y _ _ _ h => h⟩
/-- A code's first n bits, and another one behind them. -/
def tn (g : Nat → Nat) (n b : Nat) : Nat → Nat := fun i => if i < n then g i else b
theorem tn_lt {g : Nat → Nat} (hg : ∀ i, g i < 2) (n : Nat) {b : Nat} (hb : b < 2) (i : Nat) : tn g n b i < 2 := by
  unfold tn; split
  · exact hg i
  · exact hb
theorem region_tn {Q P : List Int} (hP : inI P) (hl : P.length = Q.length) {n b : Nat} (hb : b < 2) (hn : n < 64 * Q.length) :
    inB (rlo (tn (cbit Q) n b) (n + 1) Q.length) (rhi (tn (cbit Q) n b) (n + 1) Q.length) P ↔ (∀ i, i < n → cbit P i = cbit Q i) ∧ cbit P n = b := by
  have := region_iff (tn_lt (cbit_lt Q) n hb) hP (n := n + 1) (by omega)
  rw [hl] at this
  rw [this]
  constructor
  · intro h
    refine ⟨fun i hi => ?_, ?_⟩
    · have := h i (by omega)
      unfold tn at this
      rw [if_pos hi] at this
      exact this
    · have := h n (by omega)
      unfold tn at this
      rw [if_neg (by omega)] at this
      exact this
  · rintro ⟨h1, h2⟩ i hi
    unfold tn
    by_cases c : i < n
    · rw [if_pos c]; exact h1 i c
    · rw [if_neg c]
      obtain rfl : i = n := by omega
      exact h2
theorem lt_of_first {P Q : List Int} (hP : inI P) (hQ : inI Q) (hl : P.length = Q.length) {t : Nat} (ht : t < 64 * P.length) (h : ∀ i, i < t → cbit P i = cbit Q i) (h2 : cbit P t < cbit Q t) : Cm.cmpL (code P) (code Q) < 0 := (lt_iff hP hQ hl).2 ⟨t, ht, h, h2⟩
theorem find_first {L H Q : List Int} (hL : inI L) (hQ : inI Q) (_lH : H.length = Q.length) (hout : ¬ inB L H Q) {n : Nat} (hn : n < 64 * Q.length) (h0 : cbit Q n = 0)
    (hcut : meets (rlo (tn (cbit Q) n 1) (n + 1) Q.length) (rhi (tn (cbit Q) n 1) (n + 1) Q.length) L H)
    (hnone : ∀ m, n < m → m < 64 * Q.length → cbit Q m = 0 → ¬ meets (rlo (tn (cbit Q) m 1) (m + 1) Q.length) (rhi (tn (cbit Q) m 1) (m + 1) Q.length) L H) :
    FirstIn L H Q (cutLo (rlo (tn (cbit Q) n 1) (n + 1) Q.length) L) := by
  have hX := cutLo_in (rlo_in (tn_lt (cbit_lt Q) n (b := 1) (by omega)) (n + 1) Q.length) hL
  have lX : (cutLo (rlo (tn (cbit Q) n 1) (n + 1) Q.length) L).length = Q.length := by rw [cutLo_length, rlo_length]
  obtain ⟨b1, b2⟩ := lo_in_cut (by rw [rhi_length, rlo_length]) hcut
  have r := (region_tn hX lX (b := 1) (by omega) hn).1 b1
  have hlt := lt_of_first hQ hX lX.symm (t := n) hn (fun i hi => (r.1 i hi).symm) (by rw [h0, r.2]; decide)
  refine ⟨lX, hX, b2, by omega, fun Y lY hY hYb hYQ => ?_⟩
  have hne : Cm.cmpL (code Q) (code Y) < 0 := by
    rcases Int.lt_or_lt_of_ne (a := Cm.cmpL (code Q) (code Y)) (b := 0) (fun e => hout (by rw [(code_same hQ hY lY.symm).1 e]; exact hYb)) with h | h
    · exact h
    · omega
  obtain ⟨t, t1, t2, t3⟩ := (lt_iff hQ hY lY.symm).1 hne
  have tq := cbit_lt Y t
  have t0 : cbit Q t = 0 := by omega
  have ty : cbit Y t = 1 := by omega
  have hyr := (region_tn (Q := Q) hY lY (b := 1) (by omega) t1).2 ⟨fun i hi => (t2 i hi).symm, ty⟩
  have hm := meets_of (by rw [lY, rlo_length]) hyr hYb
  have htn : t ≤ n := Nat.le_of_not_lt fun h => hnone t h t1 t0 hm
  by_cases c : t = n
  · subst c
    refine code_mono hX hY (lX.trans lY.symm) fun k hk => ?_
    rw [cutLo_length] at hk
    rw [cutLo_get _ _ _ hk]
    rw [rlo_length] at hk
    have := hyr k (by omega)
    have := hYb k (by omega)
    omega
  · have := lt_of_first hX hY (lX.trans lY.symm) (t := t) (by omega) (fun i hi => (r.1 i (by omega)).trans (t2 i hi)) (by rw [r.1 t (by omega), t0, ty]; decide)
    omega
theorem find_none {L H Q : List Int} (hQ : inI Q) (hout : ¬ inB L H Q) (hnone : ∀ m, m < 64 * Q.length → cbit Q m = 0 → ¬ meets (rlo (tn (cbit Q) m 1) (m + 1) Q.length) (rhi (tn (cbit Q) m 1) (m + 1) Q.length) L H) : NoneFrom L H Q := by
  intro Y lY hY hYb hYQ
  have hne : Cm.cmpL (code Q) (code Y) < 0 := by
    rcases Int.lt_or_lt_of_ne (a := Cm.cmpL (code Q) (code Y)) (b := 0) (fun e => hout (by rw [(code_same hQ hY lY.symm).1 e]; exact hYb)) with h | h
    · exact h
    · omega
  obtain ⟨t, t1, t2, t3⟩ := (lt_iff hQ hY lY.symm).1 hne
  have tq := cbit_lt Y t
  exact hnone t t1 (by omega) (meets_of (by rw [lY, rlo_length]) ((region_tn (Q := Q) hY lY (b := 1) (by omega) t1).2 ⟨fun i hi => (t2 i hi).symm, by omega⟩) hYb)
theorem find_last {L H Q : List Int} (hH : inI H) (hQ : inI Q) (_lH : H.length = Q.length) (hout : ¬ inB L H Q) {n : Nat} (hn : n < 64 * Q.length) (h1 : cbit Q n = 1)
    (hcut : meets (rlo (tn (cbit Q) n 0) (n + 1) Q.length) (rhi (tn (cbit Q) n 0) (n + 1) Q.length) L H)
    (hnone : ∀ m, n < m → m < 64 * Q.length → cbit Q m = 1 → ¬ meets (rlo (tn (cbit Q) m 0) (m + 1) Q.length) (rhi (tn (cbit Q) m 0) (m + 1) Q.length) L H) :
    LastIn L H Q (cutHi (rhi (tn (cbit Q) n 0) (n + 1) Q.length) H) := by
  have hX := cutHi_in (rhi_in (tn_lt (cbit_lt Q) n (b := 0) (by omega)) (n + 1) Q.length) hH
  have lX : (cutHi (rhi (tn (cbit Q) n 0) (n + 1) Q.length) H).length = Q.length := by rw [cutHi_length, rhi_length]
  obtain ⟨b1, b2⟩ := hi_in_cut (by rw [rhi_length, rlo_length]) hcut
  have r := (region_tn hX lX (b := 0) (by omega) hn).1 b1
  have hlt := lt_of_first hX hQ lX (t := n) (by omega) (fun i hi => r.1 i hi) (by rw [h1, r.2]; decide)
  refine ⟨lX, hX, b2, by omega, fun Y lY hY hYb hYQ => ?_⟩
  have hne : Cm.cmpL (code Y) (code Q) < 0 := by
    rcases Int.lt_or_lt_of_ne (a := Cm.cmpL (code Y) (code Q)) (b := 0) (fun e => hout (by rw [← (code_same hY hQ lY).1 e]; exact hYb)) with h | h
    · exact h
    · omega
  obtain ⟨t, t1, t2, t3⟩ := (lt_iff hY hQ lY).1 hne
  have tq := cbit_lt Q t
  have t0 : cbit Q t = 1 := by omega
  have ty : cbit Y t = 0 := by omega
  have t1' : t < 64 * Q.length := by omega
  have hyr := (region_tn (Q := Q) hY lY (b := 0) (by omega) t1').2 ⟨fun i hi => t2 i hi, ty⟩
  have hm := meets_of (by rw [lY, rlo_length]) hyr hYb
  have htn : t ≤ n := Nat.le_of_not_lt fun h => hnone t h t1' t0 hm
  by_cases c : t = n
  · subst c
    refine code_mono hY hX (lY.trans lX.symm) fun k hk => ?_
    rw [cutHi_get _ _ _ (by rw [rhi_length]; omega)]
    have := hyr k (by omega)
    have := hYb k (by omega)
    omega
  · have := lt_of_first hY hX (lY.trans lX.symm) (t := t) (by omega) (fun i hi => (t2 i hi).trans (r.1 i (by omega)).symm) (by rw [r.1 t (by omega), t0, ty]; decide)
    omega
theorem find_nolast {L H Q : List Int} (hQ : inI Q) (_lH : H.length = Q.length) (hout : ¬ inB L H Q) (hnone : ∀ m, m < 64 * Q.length → cbit Q m = 1 → ¬ meets (rlo (tn (cbit Q) m 0) (m + 1) Q.length) (rhi (tn (cbit Q) m 0) (m + 1) Q.length) L H) : NoneUpto L H Q := by
  intro Y lY hY hYb hYQ
  have hne : Cm.cmpL (code Y) (code Q) < 0 := by
    rcases Int.lt_or_lt_of_ne (a := Cm.cmpL (code Y) (code Q)) (b := 0) (fun e => hout (by rw [← (code_same hY hQ lY).1 e]; exact hYb)) with h | h
    · exact h
    · omega
  obtain ⟨t, t1, t2, t3⟩ := (lt_iff hY hQ lY).1 hne
  have tq := cbit_lt Q t
  exact hnone t (by omega) (by omega) (meets_of (by rw [lY, rlo_length]) ((region_tn (Q := Q) hY lY (b := 0) (by omega) (by omega)).2 ⟨fun i hi => t2 i hi, by omega⟩) hYb)
/-- Codes of points of a box begin as its corners' do. -/
theorem prefix_box {L H P : List Int} (hL : inI L) (hH : inI H) (hP : inI P) (lH : H.length = L.length) (lP : P.length = L.length) {n : Nat} (hn : n ≤ 64 * L.length) (he : ∀ i, i < n → cbit L i = cbit H i) (hb : inB L H P) : ∀ i, i < n → cbit P i = cbit L i := by
  have r1 := (region_iff (cbit_lt L) hL (n := n) hn).2 (fun i _ => rfl)
  have r2 := (region_iff (g := cbit L) (cbit_lt L) hH (n := n) (by omega)).2 (fun i hi => (he i hi).symm)
  rw [lH] at r2
  have := region_iff (g := cbit L) (cbit_lt L) hP (n := n) (by omega)
  rw [lP] at this
  refine this.1 fun k hk => ?_
  have h1 := r1 k (by omega)
  have h2 := r2 k (by omega)
  have h3 := hb k hk
  omega
/-- At the first unlike bit the lower corner has 0. -/
theorem corner_bit {L H : List Int} (hL : inI L) (hH : inI H) (lH : H.length = L.length) (hle : ∀ k, k < L.length → L.getD k 0 ≤ H.getD k 0) {n : Nat} (hn : n < 64 * L.length) (he : ∀ i, i < n → cbit L i = cbit H i) (hne : cbit L n ≠ cbit H n) : cbit L n = 0 ∧ cbit H n = 1 := by
  have h1 := cbit_lt L n
  have h2 := cbit_lt H n
  by_cases c : cbit L n < cbit H n
  · omega
  · have := lt_of_first hH hL lH (t := n) (by omega) (fun i hi => (he i hi).symm) (by omega)
    have := code_mono hL hH lH.symm hle
    rw [Cm.cmpL_neg] at this
    omega
/-- What is in a box's part. -/
theorem part_iff {L H P : List Int} (hL : inI L) (hH : inI H) (hP : inI P) (lH : H.length = L.length) (lP : P.length = L.length) {n b : Nat} (_hb : b < 2) (hn : n < 64 * L.length) (he : ∀ i, i < n → cbit L i = cbit H i) {g : Nat → Nat} (hg : ∀ i, i < n → g i = cbit L i) (hgn : g n = b) (hg2 : ∀ i, g i < 2) :
    inB (cutLo (rlo g (n + 1) L.length) L) (cutHi (rhi g (n + 1) L.length) H) P ↔ inB L H P ∧ cbit P n = b := by
  rw [cut_iff (by rw [rlo_length]; exact lP) (by rw [rhi_length, rlo_length])]
  have hr := region_iff hg2 hP (n := n + 1) (by omega)
  rw [lP] at hr
  rw [hr]
  constructor
  · rintro ⟨h1, h2⟩
    exact ⟨h2, by rw [h1 n (by omega), hgn]⟩
  · rintro ⟨h1, h2⟩
    refine ⟨fun i hi => ?_, h1⟩
    by_cases c : i = n
    · rw [c, h2, hgn]
    · rw [hg i (by omega)]
      exact prefix_box hL hH hP lH lP (by omega) he h1 i (by omega)
/-- Those of the lower part stand ahead. -/
theorem parts_order {L H P Q : List Int} (hL : inI L) (hH : inI H) (hP : inI P) (hQ : inI Q) (lH : H.length = L.length) (lP : P.length = L.length) (lQ : Q.length = L.length) {n : Nat} (hn : n < 64 * L.length) (he : ∀ i, i < n → cbit L i = cbit H i) (h1 : inB L H P) (h2 : inB L H Q) (p0 : cbit P n = 0) (q1 : cbit Q n = 1) : Cm.cmpL (code P) (code Q) < 0 :=
  lt_of_first hP hQ (lP.trans lQ.symm) (t := n) (by omega) (fun i hi => (prefix_box hL hH hP lH lP (by omega) he h1 i hi).trans (prefix_box hL hH hQ lH lQ (by omega) he h2 i hi).symm) (by omega)
end Go.Proofs.Ytbhpmigblkaihaa.Zm

/- indentureref05.Bits. -/
namespace Go.Proofs.Ytbhpmigblkaihaa.Mo
open Go.RowKit

/-- The first m bits of a point's code. -/
def bl (R : List Int) (m : Nat) : List Nat := (List.range m).map (Mm.cbit R)
theorem bl_length (R : List Int) (m : Nat) : (bl R m).length = m := by simp [bl]
theorem bl_succ (R : List Int) (m : Nat) : bl R (m + 1) = bl R m ++ [Mm.cbit R m] := by simp [bl, List.range_succ]
theorem bl_get (R : List Int) (m i : Nat) (h : i < m) : (bl R m).getD i 0 = Mm.cbit R i := by
  simp [bl, List.getD_eq_getElem?_getD, h]
theorem bl_ok (R : List Int) (m : Nat) : Sm.allB (bl R m) := fun x hx => by
  simp only [bl, List.mem_map] at hx
  obtain ⟨i, _, rfl⟩ := hx
  have := Mm.cbit_lt R i
  omega
theorem wrap_z64 {x : Int} (h1 : -9223372036854775808 ≤ x) (h2 : x ≤ 9223372036854775807) : IntKind.u64.wrap (IntKind.u64.wrap x + 9223372036854775808) = ((Cm.z64 x : Nat) : Int) := by
  rw [IntKind.wrap_u64, IntKind.wrap_u64]
  have := (Cm.z64_lt h1 h2).2
  omega
def BRel (w : World) (R : List Int) (n : Nat) (v b : Value) (wr : World) : Prop :=
  ∃ l : Nat, l ≤ 64 ∧ b = .int .i64 (63 - (l : Int)) ∧ wr.ownsRow w.heap.size 5 1 v (l * n) (vals (bl R (l * n))) ∧ Below w.heap.size w wr
def BRel2 (w : World) (R : List Int) (n l : Nat) (v i : Value) (wr : World) : Prop :=
  ∃ k : Nat, k ≤ n ∧ i = .int .i64 k ∧ wr.ownsRow w.heap.size 5 1 v (l * n + k) (vals (bl R (l * n + k))) ∧ Below w.heap.size w wr
set_option maxRecDepth 100000 in
set_option maxHeartbeats 4000000 in
theorem bits_any (R : List Int) (p : Option Addr) (n c : Nat) (w : World) (h : Ints w p n c R) (h8 : n ≤ 8) :
    Calls Try.prog 32 #[.slice p n c] w fun e w' => ∃ v, e = .returned v ∧ w'.ownsRow w.heap.size 5 1 v (64 * n) (vals (bl R (64 * n))) ∧ Below w.heap.size w w' := by
  obtain ⟨i5, hi, hi0, hi1, hi2⟩ := info_parts I5
  have HI := Lib.hid hi
  have HI0 := Lib.hid hi0
  have HI1 := Lib.hid hi1
  have HI2 := Lib.hid hi2
  have HL := Lib.hid h
  have HSZ := Lib.hid h.size
  have HIN := Lib.hid (show Mm.inI R from h.ok)
  clear hi hi0 hi1 hi2 h
  go_enter Try.func32, Try.ntmps32
  go_wp2_with fail
  go_loopw [3, 4] (fun v b wr => BRel w R n v b wr) (fun _ b _ => (intOf b + 1).toNat)
  case atStart => exact ⟨0, by omega, rfl, by rw [Nat.zero_mul]; exact World.ownsRow_nil w _ _ _, Below.refl _ _⟩
  case round =>
    obtain ⟨l, hl, rfl, ho, hb⟩ := hrel
    have HO := Lib.hid ho
    have HB := Lib.hid hb
    clear ho hb
    by_cases hlt : l < 64
    · obtain ⟨j, hj⟩ : ∃ j : Nat, 63 - (l : Int) = j := ⟨63 - l, by omega⟩
      rw [hj]
      have hj2 : 63 - l = j := by omega
      have HJ := Lib.hid hj
      have HJ2 := Lib.hid hj2
      have j0 : j < 64 := by omega
      clear hj hj2
      go_wp2_with fail
      go_loopw [3, 5] (fun v i wr => BRel2 w R n l v i wr) (fun _ i _ => n - (intOf i).toNat)
      case atStart => exact ⟨0, by omega, rfl, HO.out, HB.out⟩
      case round =>
        obtain ⟨k, hk, rfl, ho2, hb2⟩ := hrel
        have HO2 := Lib.hid ho2
        have HB2 := Lib.hid hb2
        clear ho2 hb2
        by_cases hkn : k < n
        · obtain ⟨gx, o, rfl, hcx⟩ := (HL.out.later HB2.out).cell k hkn
          have i1 : (0 : Int) ≤ k ∧ (k : Int) < n := by omega
          have hin := Mm.inI_get HIN.out k
          have hsg := wrap_z64 hin.1 hin.2
          have hcb := Mm.cbit_at R l k (by rw [← HSZ.out]; exact hkn)
          rw [← HSZ.out, HJ2.out] at hcb
          have HCB := Lib.hid hcb
          have hz := (Cm.z64_lt hin.1 hin.2).1
          clear hcb hin
          generalize R.getD k 0 = x at *
          generalize Cm.z64 x = z at *
          have m1 : l * n + k < 64 * n := Mm.place_lt hkn hlt
          obtain ⟨y, hy⟩ : ∃ y, y = z / 2 ^ j := ⟨_, rfl⟩
          have hsh : (z : Int) / 2 ^ j = (y : Int) := by rw [hy]; simp
          rw [← hy] at HCB
          clear hy
          go_upto_region 9 with fail
          clear hsg hcx
          have hbs := HB2.out.size
          have hw64 : l * n + k < 512 := by omega
          have HBS := Lib.hid hbs
          clear hbs
          go_wp2_with (at_builtin; refine wpList_append_own _ (by rfl) (.tmp 23) (.tmp 30) 22 (by rfl) w.heap.size 5 i5 (.int .u8 0) 1 1 A22 HI.out HI0.out HI1.out HI2.out (by rfl) (by decide) _ (l * n + k) _ (by rfl) (HO2.out.alloc _) ⟨wr.heap.size, 0, none⟩ 1 1 (vals [y % 2]) (by rfl) (by rfl) (cells_of_row (L := [y % 2]) (heap_alloc_new wr _)) (vals_one _) (by unfold maxLen; omega) (by omega) (by have := HBS.out; simp; omega) ?_; intro v4 w4 hown4 hgrow4 _)
          have hb4 : Below w.heap.size w w4 := (HB2.out.alloc HB2.out.size _).grown hgrow4 (by have := HBS.out; simp; omega) (fun i hi => ((HO2.out.alloc (.cells (u8s [y % 2]) 5)).lt i hi).1)
          have e : w4.ownsRow w.heap.size 5 1 v4 (l * n + (k + 1)) (vals (bl R (l * n + (k + 1)))) := by
            rw [← Nat.add_assoc, bl_succ, HCB.out, vals_append]
            exact hown4
          have HE := Lib.hid e
          have HB4 := Lib.hid hb4
          clear hown4 hgrow4 e hb4 hsh
          go_wp2_with fail
          go_roundw
          case rel => exact ⟨k + 1, by omega, by go_num, HE.out, HB4.out⟩
          case measure => simp [intOf]; omega
        · obtain rfl : k = n := by omega
          go_wp2_with fail
          go_roundw
          case rel =>
            refine ⟨l + 1, by omega, ?_, ?_, HB2.out⟩
            · refine congrArg (Value.int .i64) ?_
              have := HJ.out
              omega
            · have := HO2.out
              rw [Nat.add_mul, Nat.one_mul]
              exact this
          case measure => simp [intOf]
    · obtain rfl : l = 64 := by omega
      go_wp2_with fail
      go_ret
      exact ⟨_, rfl, HO.out, HB.out⟩
end Go.Proofs.Ytbhpmigblkaihaa.Mo

/- indentureref05.Bytes, Code. -/
namespace Go.Proofs.Ytbhpmigblkaihaa.Mo
open Go.RowKit

theorem bytesOf_succ (f : Nat → Nat) (m : Nat) : Mm.bytesOf f (m + 1) = Mm.bytesOf f m ++ [Mm.bin (fun k => f (8 * m + k)) 8] := by simp [Mm.bytesOf, List.range_succ]
def fB (B : List Nat) : Nat → Nat := fun i => B.getD i 0
def YRel (w : World) (B : List Nat) (d : Nat) (v i : Value) (wr : World) : Prop :=
  ∃ j : Nat, j ≤ 8 * d ∧ i = .int .i64 (8 * (j : Int)) ∧ wr.ownsRow w.heap.size 5 1 v j (vals (Mm.bytesOf (fB B) j)) ∧ Below w.heap.size w wr
def YIn (B : List Nat) (j : Nat) (n k : Value) : Prop := ∃ l : Nat, l ≤ 8 ∧ k = .int .i64 l ∧ n = .int .u8 (Mm.bin (fun k => fB B (8 * j + k)) l : Nat)
set_option maxRecDepth 100000 in
set_option maxHeartbeats 4000000 in
theorem refbytes_any (B : List Nat) (hB : ∀ x ∈ B, x < 2) (p : Option Addr) (d c : Nat) (w : World) (h : Bytes w p (64 * d) c B) (h8 : d ≤ 8) :
    Calls Try.prog 31 #[.slice p (64 * d) c] w fun e w' => ∃ v, e = .returned v ∧ w'.ownsRow w.heap.size 5 1 v (8 * d) (vals (Mm.bytesOf (fB B) (8 * d))) ∧ Below w.heap.size w w' := by
  obtain ⟨i5, hi, hi0, hi1, hi2⟩ := info_parts I5
  have HI := Lib.hid hi
  have HI0 := Lib.hid hi0
  have HI1 := Lib.hid hi1
  have HI2 := Lib.hid hi2
  have HL := Lib.hid h
  have HSZ := Lib.hid h.size
  have HBB := Lib.hid hB
  clear hi hi0 hi1 hi2 h hB
  go_enter Try.func31, Try.ntmps31
  go_wp2_with fail
  go_loopw [3, 4] (fun v b wr => YRel w B d v b wr) (fun _ i _ => 64 * d - (intOf i).toNat)
  case atStart => exact ⟨0, by omega, rfl, World.ownsRow_nil w _ _ _, Below.refl _ _⟩
  case round =>
    obtain ⟨j, hj, rfl, ho, hb⟩ := hrel
    have HO := Lib.hid ho
    have HB := Lib.hid hb
    clear ho hb
    have hB1 : Bytes wr p (64 * d) c B := HL.out.later HB.out HL.out.lt
    have HB1 := Lib.hid hB1
    clear hB1
    by_cases hlt : j < 8 * d
    · go_wp2_with fail
      go_loop [5, 6] (fun n k => YIn B j n k) (fun _ k => 8 - (intOf k).toNat)
      case atStart => exact ⟨0, by omega, rfl, rfl⟩
      case round =>
        obtain ⟨l, hl, rfl, rfl⟩ := hrel
        have hff : ∀ i, fB B i < 2 := fun i => by
          unfold fB
          exact Sm.getD_lt HBB.out (by omega) i
        have hbl := Mm.bin_lt (g := fun k => fB B (8 * j + k)) (fun k => hff _) l
        by_cases hll : l < 8
        · obtain ⟨g, o, rfl, hx⟩ := HB1.out.ne (by intro e; have := HSZ.out; rw [e] at this; simp at this; omega)
          have hc := hx (8 * j + l) (by have := HSZ.out; omega)
          have hp2 : 2 ^ l ≤ 2 ^ 7 := Nat.pow_le_pow_right (by omega) (by omega)
          have hb7 : Mm.bin (fun k => fB B (8 * j + k)) l < 128 := Nat.lt_of_lt_of_le hbl hp2
          have hbs := Mm.bin_succ (fun k => fB B (8 * j + k)) l
          have hf1 := hff (8 * j + l)
          have i1 : (0 : Int) ≤ 8 * (j : Int) + l ∧ 8 * (j : Int) + l < 64 * d := by omega
          have i2 : (8 * (j : Int) + l).toNat = 8 * j + l := by omega
          have HBS := Lib.hid hbs
          have hfx : fB B (8 * j + l) = B.getD (8 * j + l) 0 := rfl
          rw [← hfx] at hc
          clear hbl hp2 hbs hx hff hfx
          generalize Mm.bin (fun k => fB B (8 * j + k)) l = a at *
          generalize fB B (8 * j + l) = x at *
          go_wp2_with fail
          go_round
          case rel => exact ⟨l + 1, by omega, by go_num, by rw [HBS.out]; go_num⟩
          case measure => simp [intOf]; omega
        · obtain rfl : l = 8 := by omega
          have hbl2 : Mm.bin (fun k => fB B (8 * j + k)) 8 < 256 := hbl
          have HS := Lib.hid (bytesOf_succ (fB B) j)
          have HBS := Lib.hid HB.out.size
          clear hbl hff
          generalize Mm.bin (fun k => fB B (8 * j + k)) 8 = a at *
          go_wp2_with (at_builtin; refine wpList_append_own _ (by rfl) (.tmp 27) (.tmp 29) 22 (by rfl) w.heap.size 5 i5 (.int .u8 0) 1 1 A22 HI.out HI0.out HI1.out HI2.out (by rfl) (by decide) _ j _ (by rfl) (HO.out.alloc _) ⟨wr.heap.size, 0, none⟩ 1 1 (vals [a]) (by rfl) (by rfl) (cells_of_row (L := [a]) (heap_alloc_new wr _)) (vals_one _) (by unfold maxLen; omega) (by omega) (by have := HBS.out; simp; omega) ?_; intro v4 w4 hown4 hgrow4 _)
          have hb4 : Below w.heap.size w w4 := (HB.out.alloc HB.out.size _).grown hgrow4 (by have := HBS.out; simp; omega) (fun i hi => ((HO.out.alloc (.cells (u8s [a]) 5)).lt i hi).1)
          rw [← vals_append, ← HS.out] at hown4
          have HE := Lib.hid hown4
          have HB4 := Lib.hid hb4
          clear hown4 hgrow4 hb4
          go_wp2_with fail
          go_roundw
          case rel => exact ⟨j + 1, by omega, congrArg (Value.int .i64) (by omega), HE.out, HB4.out⟩
          case measure => simp [intOf]; omega
    · obtain rfl : j = 8 * d := by omega
      go_wp2_with fail
      go_ret
      exact ⟨_, rfl, HO.out, HB.out⟩
theorem bl_bytes (R : List Int) : Mm.bytesOf (fB (bl R (64 * R.length))) (8 * R.length) = Mm.code R := by
  unfold Mm.code
  apply Mm.bytesOf_congr
  intro i hi
  unfold fB
  rw [bl_get _ _ _ (by omega)]
theorem bl_two (R : List Int) (m : Nat) : ∀ x ∈ bl R m, x < 2 := fun x hx => by
  simp only [bl, List.mem_map] at hx
  obtain ⟨i, _, rfl⟩ := hx
  exact Mm.cbit_lt R i
/-- What the document's code is: bytes of its own. -/
def OwnBytes (w : World) (B : List Nat) (e : Ending) (w' : World) : Prop := ∃ q c, e = .returned (.slice q B.length c) ∧ Bytes w' q B.length c B ∧ Below w.heap.size w w'
theorem refcode_any (R : List Int) (p : Option Addr) (n c : Nat) (w : World) (h : Ints w p n c R) (h8 : n ≤ 8) :
    Calls Try.prog 14 #[.slice p n c] w (OwnBytes w (Mm.code R)) := by
  have HN := Lib.hid h.size
  have HL := Lib.hid h
  clear h
  go_enter Try.func14, Try.ntmps14
  go_wp2_with fail
  refine (bits_any R p n c w HL.out h8).mono ?_
  rintro e w1 hp
  obtain ⟨v, rfl, ho, hb⟩ := hp
  obtain ⟨q, d, rfl, hq⟩ := owns_form ho (bl_ok R _)
  have HQ := Lib.hid hq
  have HB := Lib.hid hb
  clear ho hb hq
  go_wp2_with fail
  refine (refbytes_any (bl R (64 * n)) (bl_two R _) q n d w1 HQ.out h8).mono ?_
  rintro e w2 hp
  obtain ⟨v, rfl, ho, hb⟩ := hp
  rw [show Mm.bytesOf (fB (bl R (64 * n))) (8 * n) = Mm.code R from by rw [HN.out]; exact bl_bytes R] at ho
  obtain ⟨q2, d2, rfl, hq⟩ := owns_form ho (Mm.code_ok R)
  have HQ2 := Lib.hid hq
  have HB2 := Lib.hid (HB.out.trans (hb.mono HB.out.size))
  clear ho hb hq
  go_wp2_with fail
  go_ret
  have e : 8 * n = (Mm.code R).length := by rw [Mm.code_length, HN.out]
  have hq := HQ2.out
  rw [e] at hq ⊢
  exact ⟨q2, d2, rfl, hq, HB2.out⟩
end Go.Proofs.Ytbhpmigblkaihaa.Mo

/- indentureref05.Bit. -/
namespace Go.Proofs.Ytbhpmigblkaihaa.Mo
open Go.RowKit

set_option maxRecDepth 100000 in
set_option maxHeartbeats 1000000 in
theorem refbit_any (B : List Nat) (p : Option Addr) (n c : Nat) (i : Int) (w : World) (h : Bytes w p n c B) (hn : n ≤ 1000000) (h1 : -9223372036854775808 ≤ i) (h2 : i ≤ 9223372036854775807) :
    Calls Try.prog 28 #[.slice p n c, .int .i64 i] w fun e w' => e = .returned (.int .u8 (bitI B i : Nat)) ∧ w' = w := by
  have H := Lib.hid h
  by_cases hneg : i < 0
  · have HB := Lib.hid (bitI_neg (B := B) hneg)
    clear h
    go_enter Try.func28, Try.ntmps28
    go_wp2_with fail
    go_ret
    exact ⟨by rw [HB.out]; rfl, rfl⟩
  obtain ⟨k, rfl⟩ : ∃ k : Nat, i = k := ⟨i.toNat, by omega⟩
  have hsz := h.size
  by_cases hfar : 8 * (n : Int) ≤ (k : Int)
  · have HB := Lib.hid (bitI_far (B := B) (i := k) (by rw [← hsz]; omega))
    clear h hsz
    go_enter Try.func28, Try.ntmps28
    go_wp2_with fail
    go_ret
    exact ⟨by rw [HB.out]; rfl, rfl⟩
  · have hl : k / 8 < B.length := by omega
    obtain ⟨g, o, rfl, hx⟩ := h.ne (by intro e; rw [e] at hl; simp at hl)
    have hc := hx (k / 8) hl
    have hb := Sm.getD_lt h.ok (by omega) (k / 8)
    have HB := Lib.hid (bitI_of (B := B) (k := k) (i := k) rfl)
    have HD := Lib.hid (show Mm.bitOf B k = B.getD (k / 8) 0 / 2 ^ (7 - k % 8) % 2 from rfl)
    have i1 : (k : Int) / 8 < n := by omega
    clear h hsz hx
    generalize B.getD (k / 8) 0 = x at *
    go_enter Try.func28, Try.ntmps28
    go_wp2_with fail
    go_ret
    exact ⟨ret_int (by rw [HB.out, HD.out]; rfl), rfl⟩
end Go.Proofs.Ytbhpmigblkaihaa.Mo
