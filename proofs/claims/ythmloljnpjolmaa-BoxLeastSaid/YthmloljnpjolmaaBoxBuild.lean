/- box.build over whatever function of the sides. -/
import Derived.Test.YthmloljnpjolmaaBoxPair
import Derived.BigRegion
namespace Go.Proofs.Ythmloljnpjolmaa
open Go.RowKit

def i64s (l : List Int) : Array Value := (l.map fun x => Value.int .i64 x).toArray
/-- The first k numbers told, the others 0. -/
def part (f : Nat → Int) (n k : Nat) : List Int := (List.range n).map fun i => if i < k then f i else 0
theorem part_length (f : Nat → Int) (n k : Nat) : (part f n k).length = n := by simp [part]
theorem part_get (f : Nat → Int) (n k i : Nat) (hi : i < n) : (part f n k).getD i 0 = if i < k then f i else 0 := by
  simp [part, List.getD_eq_getElem?_getD, hi]
theorem i64s_get (l : List Int) (i : Nat) (h : i < l.length) : (i64s l)[i]? = some (.int .i64 (l.getD i 0)) := by
  simp [i64s, List.getD_eq_getElem?_getD, List.getElem?_eq_getElem h]
theorem part_set (f : Nat → Int) (n k : Nat) : (i64s (part f n k)).setIfInBounds k (.int .i64 (f k)) = i64s (part f n (k + 1)) := by
  apply Array.ext'
  simp only [i64s, part, Array.toList_setIfInBounds, List.map_map]
  apply List.ext_getElem (by simp)
  intro i h1 h2
  rw [List.getElem_set]
  simp only [List.length_map, List.length_range] at h2
  by_cases hk : k = i
  · subst hk; simp
  · simp only [hk, if_false, List.getElem_map, List.getElem_range, Function.comp]
    by_cases h3 : i < k
    · rw [if_pos h3, if_pos (by omega)]
    · rw [if_neg h3, if_neg (by omega)]
/-- A row of a call's own. -/
def RowAt (w : World) (g : Nat) (L : List Int) : Prop := w.heap[g]? = some (.cells (i64s L) 2 (0, 0))
theorem RowAt.cell {w : World} {g : Nat} {L : List Int} (h : RowAt w g L) (i : Nat) (hi : i < L.length) : w.cell? ⟨g, i, none⟩ = some (.int .i64 (L.getD i 0)) := by
  rw [cell_of_row w g i _ _ _ h, i64s_get L i hi]
theorem RowAt.free {w : World} {g : Nat} {L : List Int} (h : RowAt w g L) (i : Nat) : w.frozen? ⟨g, i, none⟩ = false := frozen_of_row w g i _ _ h
theorem RowAt.lt {w : World} {g : Nat} {L : List Int} (h : RowAt w g L) : g < w.heap.size := (Array.getElem?_eq_some_iff.1 h).1
theorem RowAt.later {w w' : World} {g : Nat} {L : List Int} (h : RowAt w g L) {n : Nat} (hb : Below n w w') (hn : g < n) : RowAt w' g L := (hb.block _ hn).trans h
theorem RowAt.ints {w : World} {g : Nat} {L : List Int} (h : RowAt w g L) (hL : ∀ x ∈ L, -9223372036854775808 ≤ x ∧ x ≤ 9223372036854775807) : Ints w (some ⟨g, 0, none⟩) L.length L.length L :=
  ⟨rfl, Nat.le_refl _, hL, Or.inr ⟨g, 0, rfl, fun i hi => by rw [Nat.zero_add]; exact h.cell i hi⟩⟩
theorem made_part (f : Nat → Int) (n : Nat) : madeCells (Value.cells (.int .i64 0)) n = i64s (part f n 0) := by
  apply Array.ext
  · simp [size_madeCells, i64s, part, Value.cells]
  · intro i h1 h2
    simp [madeCells, i64s, part, Value.cells, Nat.mod_one]
theorem A23 : Try.prog.underlying 23 = some (.slice 2) := by kernel_rfl
theorem I2i : (Try.prog.info? 2).map (fun i => (i.zero, i.size, i.bytes)) = some (some (.int .i64 0), 1, 8) := by kernel_rfl
theorem make_row (n : Nat) (h8 : n ≤ 8) (f : Nat → Int) (w : World) : (Instr.makeSlice 23 (.int .i64 n) (.int .i64 n)).run Try.prog w = .ok (.slice (some ⟨w.heap.size, 0, none⟩) n n) (w.alloc (.cells (i64s (part f n 0)) 2)) := by
  obtain ⟨i2, hi, hi0, hi1, hi2⟩ := info_parts I2i
  have := run_make (P := Try.prog) w 23 2 i2 _ A23 hi hi0 .i64 .i64 n n (by omega) (by omega) (by rw [hi2]; omega) (by omega)
  rw [this, hi1]
  simp only [Int.toNat_natCast, Nat.mul_one, made_part f]
theorem part_zero (f g : Nat → Int) (n : Nat) : part f n 0 = part g n 0 := by simp [part]
/-- What lies behind the three that the call makes. -/
structure Made (w : World) (g1 g2 gb n : Nat) (L M : List Int) (wx : World) : Prop where
  r1 : RowAt wx g1 L
  r2 : RowAt wx g2 M
  bx : wx.heap[gb]? = some (.cells #[.slice (some ⟨g1, 0, none⟩) n n, .slice (some ⟨g2, 0, none⟩) n n] 25 (0, 0))
  res : wx.heap[w.heap.size]? = some (.cells #[.slice none 0 0, .slice none 0 0] 25 (0, 0))
  ne : (g1 ≠ g2 ∧ g1 ≠ gb ∧ g2 ≠ gb) ∧ w.heap.size < g1 ∧ w.heap.size < g2 ∧ w.heap.size < gb
  below : Below w.heap.size w wx
/-- What the function of a side tells: two numbers. -/
def Sides (w : World) (n : Nat) (f g : Nat → Int) (F : Nat) (cap : Array Value) : Prop :=
  ∀ (k : Nat) (w' : World), k < n → Below w.heap.size w w' → Calls Try.prog F (#[.int .i64 k] ++ cap) w' fun e w'' => e = .returned (.tuple #[.int .i64 (f k), .int .i64 (g k)]) ∧ ∃ j, w'' = w'.drewN j
theorem heap3 (w : World) (a b c : Array Value) (ta tb tc : TypeId) :
    (((w.alloc (.cells a ta)).alloc (.cells b tb)).alloc (.cells c tc)).drew.heap[w.heap.size]? = some (.cells a ta (0, 0)) ∧ (((w.alloc (.cells a ta)).alloc (.cells b tb)).alloc (.cells c tc)).drew.heap[w.heap.size + 1]? = some (.cells b tb (0, 0)) ∧
    (((w.alloc (.cells a ta)).alloc (.cells b tb)).alloc (.cells c tc)).drew.heap[w.heap.size + 1 + 1]? = some (.cells c tc (0, 0)) ∧ Below w.heap.size w (((w.alloc (.cells a ta)).alloc (.cells b tb)).alloc (.cells c tc)).drew := by
  have s1 : (w.alloc (.cells a ta)).heap.size = w.heap.size + 1 := by simp
  have s2 : ((w.alloc (.cells a ta)).alloc (.cells b tb)).heap.size = w.heap.size + 1 + 1 := by simp
  have h1 := heap_alloc_new w (.cells a ta)
  have b1 : Below w.heap.size w (w.alloc (.cells a ta)) := (Below.refl _ _).alloc (Nat.le_refl _) _
  generalize w.alloc (.cells a ta) = w1 at *
  have h2 := heap_alloc_new w1 (.cells b tb)
  have b2 : Below w1.heap.size w1 (w1.alloc (.cells b tb)) := (Below.refl _ _).alloc (Nat.le_refl _) _
  generalize w1.alloc (.cells b tb) = w2 at *
  have h3 := heap_alloc_new w2 (.cells c tc)
  have b3 : Below w2.heap.size w2 (w2.alloc (.cells c tc)) := (Below.refl _ _).alloc (Nat.le_refl _) _
  generalize w2.alloc (.cells c tc) = w3 at *
  rw [s1] at h2
  rw [s2] at h3
  exact ⟨(b3.block _ (by omega)).trans ((b2.block _ (by omega)).trans h1), (b3.block _ (by omega)).trans h2, h3, (b1.trans ((b2.trans (b3.mono (by omega))).mono (by omega))).drew⟩
theorem made_mk {w w1 W : World} {g1 g2 gb n : Nat} {L M : List Int} (hr : w1.heap[w.heap.size]? = some (.cells #[.slice none 0 0, .slice none 0 0] 25 (0, 0))) (hb : Below w.heap.size w w1) (hsz : w1.heap.size = w.heap.size + 1) (hW : Below w1.heap.size w1 W)
    (r1 : RowAt W g1 L) (r2 : RowAt W g2 M) (bx : W.heap[gb]? = some (.cells #[.slice (some ⟨g1, 0, none⟩) n n, .slice (some ⟨g2, 0, none⟩) n n] 25 (0, 0))) (ne : (g1 ≠ g2 ∧ g1 ≠ gb ∧ g2 ≠ gb) ∧ w1.heap.size ≤ g1 ∧ w1.heap.size ≤ g2 ∧ w1.heap.size ≤ gb) : Made w g1 g2 gb n L M W :=
  ⟨r1, r2, bx, (hW.block _ (by omega)).trans hr, ⟨ne.1, by omega, by omega, by omega⟩, hb.trans (hW.mono (by omega))⟩
/-- Which of three new blocks it is. -/
def At3 (sz : Nat) (a b c : Array Value × TypeId) (g : Nat) (x : Array Value × TypeId) : Prop := (g = sz ∧ x = a) ∨ (g = sz + 1 ∧ x = b) ∨ (g = sz + 1 + 1 ∧ x = c)
theorem made_3 {w w1 : World} {a b c : Array Value} {ta tb tc : TypeId} {g1 g2 gb n : Nat} {L M : List Int} (hr : w1.heap[w.heap.size]? = some (.cells #[.slice none 0 0, .slice none 0 0] 25 (0, 0))) (hb : Below w.heap.size w w1) (hsz : w1.heap.size = w.heap.size + 1)
    (h3 : At3 w1.heap.size (a, ta) (b, tb) (c, tc) gb (#[.slice (some ⟨g1, 0, none⟩) n n, .slice (some ⟨g2, 0, none⟩) n n], 25)) (h1 : At3 w1.heap.size (a, ta) (b, tb) (c, tc) g1 (i64s L, 2)) (h2 : At3 w1.heap.size (a, ta) (b, tb) (c, tc) g2 (i64s M, 2)) (ne : g1 ≠ g2 ∧ g1 ≠ gb ∧ g2 ≠ gb) :
    Made w g1 g2 gb n L M (((w1.alloc (.cells a ta)).alloc (.cells b tb)).alloc (.cells c tc)).drew := by
  obtain ⟨q1, q2, q3, q4⟩ := heap3 w1 a b c ta tb tc
  have key : ∀ g x, At3 w1.heap.size (a, ta) (b, tb) (c, tc) g x → (((w1.alloc (.cells a ta)).alloc (.cells b tb)).alloc (.cells c tc)).drew.heap[g]? = some (.cells x.1 x.2 (0, 0)) ∧ w1.heap.size ≤ g := by
    rintro g x (⟨rfl, rfl⟩ | ⟨rfl, rfl⟩ | ⟨rfl, rfl⟩)
    · exact ⟨q1, Nat.le_refl _⟩
    · exact ⟨q2, by omega⟩
    · exact ⟨q3, by omega⟩
  exact made_mk hr hb hsz q4 (key _ _ h1).1 (key _ _ h2).1 (key _ _ h3).1 ⟨ne, (key _ _ h1).2, (key _ _ h2).2, (key _ _ h3).2⟩
theorem Made.later {w w' wx : World} {g1 g2 gb n : Nat} {L M : List Int} (h : Made w g1 g2 gb n L M wx) (hb : Below wx.heap.size wx w') : Made w g1 g2 gb n L M w' :=
  ⟨h.r1.later hb h.r1.lt, h.r2.later hb h.r2.lt, (hb.block _ (Array.getElem?_eq_some_iff.1 h.bx).1).trans h.bx, (hb.block _ (Array.getElem?_eq_some_iff.1 h.res).1).trans h.res, h.ne, h.below.trans (hb.mono h.below.size)⟩
theorem Made.set {w wx : World} {g1 g2 gb n k : Nat} {f g : Nat → Int} (h : Made w g1 g2 gb n (part f n k) (part g n k) wx) :
    Made w g1 g2 gb n (part f n (k + 1)) (part g n (k + 1)) ((wx.setCell ⟨g1, k, none⟩ (.int .i64 (f k))).setCell ⟨g2, k, none⟩ (.int .i64 (g k))) := by
  have h1 := heap_setCell_same wx g1 k _ _ (.int .i64 (f k)) h.r1
  rw [part_set] at h1
  have h2 : RowAt (wx.setCell ⟨g1, k, none⟩ (.int .i64 (f k))) g2 (part g n k) := (heap_setCell_other _ _ _ _ (Ne.symm h.ne.1.1)).trans h.r2
  have h3 := heap_setCell_same _ g2 k _ _ (.int .i64 (g k)) h2
  rw [part_set] at h3
  have o : ∀ b, b ≠ g1 → b ≠ g2 → ((wx.setCell ⟨g1, k, none⟩ (.int .i64 (f k))).setCell ⟨g2, k, none⟩ (.int .i64 (g k))).heap[b]? = wx.heap[b]? := fun b n1 n2 => (heap_setCell_other _ _ _ _ n2).trans (heap_setCell_other _ _ _ _ n1)
  exact ⟨(heap_setCell_other _ _ _ _ h.ne.1.1).trans h1, h3, (o _ (Ne.symm h.ne.1.2.1) (Ne.symm h.ne.1.2.2)).trans h.bx, (o _ (Nat.ne_of_lt h.ne.2.1) (Nat.ne_of_lt h.ne.2.2.1)).trans h.res, h.ne,
    (h.below.setCell (p := ⟨g1, k, none⟩) (Nat.le_of_lt h.ne.2.1) _).setCell (p := ⟨g2, k, none⟩) (Nat.le_of_lt h.ne.2.2.1) _⟩
/-- What a round reads and writes. -/
structure MadeCells (g1 g2 gb n k : Nat) (x y u : Value) (wx : World) : Prop where
  b0 : wx.cell? ⟨gb, 0, none⟩ = some (.slice (some ⟨g1, 0, none⟩) n n)
  b1 : wx.cell? ⟨gb, 1, none⟩ = some (.slice (some ⟨g2, 0, none⟩) n n)
  c1 : wx.cell? ⟨g1, k, none⟩ = some x
  c2 : wx.cell? ⟨g2, k, none⟩ = some y
  f1 : wx.frozen? ⟨g1, k, none⟩ = false
  f2 : wx.frozen? ⟨g2, k, none⟩ = false
  d1 : (wx.setCell ⟨g1, k, none⟩ u).cell? ⟨gb, 1, none⟩ = some (.slice (some ⟨g2, 0, none⟩) n n)
  e2 : (wx.setCell ⟨g1, k, none⟩ u).cell? ⟨g2, k, none⟩ = some y
  g2 : (wx.setCell ⟨g1, k, none⟩ u).frozen? ⟨g2, k, none⟩ = false
theorem Made.cells {w wx : World} {g1 g2 gb n k : Nat} {L M : List Int} (h : Made w g1 g2 gb n L M wx) (hL : k < L.length) (hM : k < M.length) (u : Value) : MadeCells g1 g2 gb n k (.int .i64 (L.getD k 0)) (.int .i64 (M.getD k 0)) u wx := by
  have hb : (wx.setCell ⟨g1, k, none⟩ u).heap[gb]? = _ := (heap_setCell_other _ _ _ _ (Ne.symm h.ne.1.2.1)).trans h.bx
  have h2 : RowAt (wx.setCell ⟨g1, k, none⟩ u) g2 M := (heap_setCell_other _ _ _ _ (Ne.symm h.ne.1.1)).trans h.r2
  exact ⟨cell_of_row wx gb 0 _ _ _ h.bx, cell_of_row wx gb 1 _ _ _ h.bx, h.r1.cell k hL, h.r2.cell k hM, h.r1.free k, h.r2.free k, cell_of_row _ gb 1 _ _ _ hb, h2.cell k hM, h2.free k⟩
theorem Made.done {w wx : World} {g1 g2 gb n : Nat} {L M : List Int} (h : Made w g1 g2 gb n L M wx) :
    (wx.cell? ⟨gb, 0, none⟩ = some (.slice (some ⟨g1, 0, none⟩) n n) ∧ wx.cell? ⟨gb, 1, none⟩ = some (.slice (some ⟨g2, 0, none⟩) n n) ∧ wx.cell? ⟨w.heap.size, 0, none⟩ = some (.slice none 0 0) ∧ wx.cell? ⟨w.heap.size, 1, none⟩ = some (.slice none 0 0) ∧ wx.frozen? ⟨w.heap.size, 0, none⟩ = false ∧ wx.frozen? ⟨w.heap.size, 1, none⟩ = false) ∧
    ((wx.setCell ⟨w.heap.size, 0, none⟩ (.slice (some ⟨g1, 0, none⟩) n n)).setCell ⟨w.heap.size, 1, none⟩ (.slice (some ⟨g2, 0, none⟩) n n)).heap[w.heap.size]? = some (.cells #[.slice (some ⟨g1, 0, none⟩) n n, .slice (some ⟨g2, 0, none⟩) n n] 25 (0, 0)) ∧
    (RowAt ((wx.setCell ⟨w.heap.size, 0, none⟩ (.slice (some ⟨g1, 0, none⟩) n n)).setCell ⟨w.heap.size, 1, none⟩ (.slice (some ⟨g2, 0, none⟩) n n)) g1 L ∧ RowAt ((wx.setCell ⟨w.heap.size, 0, none⟩ (.slice (some ⟨g1, 0, none⟩) n n)).setCell ⟨w.heap.size, 1, none⟩ (.slice (some ⟨g2, 0, none⟩) n n)) g2 M ∧ w.heap.size < g1 ∧ w.heap.size < g2 ∧ g1 ≠ g2 ∧
      Below w.heap.size w ((wx.setCell ⟨w.heap.size, 0, none⟩ (.slice (some ⟨g1, 0, none⟩) n n)).setCell ⟨w.heap.size, 1, none⟩ (.slice (some ⟨g2, 0, none⟩) n n))) := by
  have h1 := heap_setCell_same wx w.heap.size 0 _ _ (.slice (some ⟨g1, 0, none⟩) n n) h.res
  have h2 := heap_setCell_same _ w.heap.size 1 _ _ (.slice (some ⟨g2, 0, none⟩) n n) h1
  have o : ∀ b, b ≠ w.heap.size → ((wx.setCell ⟨w.heap.size, 0, none⟩ (.slice (some ⟨g1, 0, none⟩) n n)).setCell ⟨w.heap.size, 1, none⟩ (.slice (some ⟨g2, 0, none⟩) n n)).heap[b]? = wx.heap[b]? := fun b nb => (heap_setCell_other _ _ _ _ nb).trans (heap_setCell_other _ _ _ _ nb)
  exact ⟨⟨cell_of_row wx gb 0 _ _ _ h.bx, cell_of_row wx gb 1 _ _ _ h.bx, cell_of_row wx _ 0 _ _ _ h.res, cell_of_row wx _ 1 _ _ _ h.res, frozen_of_row wx _ 0 _ _ h.res, frozen_of_row wx _ 1 _ _ h.res⟩, h2,
    (o _ (Nat.ne_of_gt h.ne.2.1)).trans h.r1, (o _ (Nat.ne_of_gt h.ne.2.2.1)).trans h.r2, h.ne.2.1, h.ne.2.2.1, h.ne.1.1, (h.below.setCell (p := ⟨w.heap.size, 0, none⟩) (Nat.le_refl _) _).setCell (p := ⟨w.heap.size, 1, none⟩) (Nat.le_refl _) _⟩
theorem ret_box {fn : Func} {P : Ending → World → Prop} (p : Tmp) (hr : fn.results = #[.cell p 25]) {tmps : Array Value} {w : World} (g : Nat) (a b : Value)
    (hp : tmps.getD p undef = .pointer (some ⟨g, 0, none⟩)) (hg : w.heap[g]? = some (.cells #[a, b] 25 (0, 0))) (h : P (.returned (.agg #[a, b])) w) : bodyPost Try.prog fn P .ret ⟨tmps, []⟩ w := by
  have r0 := cell_of_row w g 0 _ _ _ hg
  have r1 := cell_of_row w g 1 _ _ _ hg
  refine bodyPost_ret (a := ⟨tmps, []⟩) (v := .agg #[a, b]) ?_ rfl h
  have hp' : tmps[p]?.getD undef = .pointer (some ⟨g, 0, none⟩) := by simpa using hp
  simp [results, hr, hp', go_sem, r0, r1]
def BuildRel (w : World) (g1 g2 gb n : Nat) (f g : Nat → Int) (i : Value) (wr : World) : Prop := ∃ k, k ≤ n ∧ i = .int .i64 k ∧ Made w g1 g2 gb n (part f n k) (part g n k) wr
set_option maxRecDepth 100000 in
set_option maxHeartbeats 4000000 in
theorem build_any (n : Nat) (h1 : 1 ≤ n) (h8 : n ≤ 8) (f g : Nat → Int) (F : Nat) (cap : Array Value) (hF : ∀ args w, (callFunc F args).run Try.prog w = .ok (.enter F args) w) (w : World) (hs : Sides w n f g F cap) :
    Calls Try.prog 31 #[.int .i64 n, .func (.func F) #[] cap] w fun e w' => ∃ g1 g2 : Nat, e = .returned (.agg #[.slice (some ⟨g1, 0, none⟩) n n, .slice (some ⟨g2, 0, none⟩) n n]) ∧ RowAt w' g1 (part f n n) ∧ RowAt w' g2 (part g n n) ∧ w.heap.size < g1 ∧ w.heap.size < g2 ∧ g1 ≠ g2 ∧ Below w.heap.size w w' := by
  have HS := Lib.hid hs
  clear hs
  have M1 := make_row n h8 f
  go_enter Try.func31, Try.ntmps31
  go_upto_region 1 with fail
  have hr : (w.alloc (.cells #[.slice none 0 0, .slice none 0 0] 25)).heap[w.heap.size]? = some (.cells #[.slice none 0 0, .slice none 0 0] 25 (0, 0)) := heap_alloc_new w _
  have hb : Below w.heap.size w (w.alloc (.cells #[.slice none 0 0, .slice none 0 0] 25)) := (Below.refl _ _).alloc (Nat.le_refl _) _
  have hsz : (w.alloc (.cells #[.slice none 0 0, .slice none 0 0] 25)).heap.size = w.heap.size + 1 := by simp
  generalize w.alloc (.cells #[.slice none 0 0, .slice none 0 0] 25) = w1 at *
  have HR := Lib.hid hr
  have HB := Lib.hid hb
  have HSZ := Lib.hid hsz
  clear hr hb hsz
  go_cut [5] (fun s5 wx => ∃ g1 g2 gb, s5 = .pointer (some ⟨gb, 0, none⟩) ∧ Made w g1 g2 gb n (part f n 0) (part f n 0) wx)
  case first =>
    go_region
    all_goals
      go_wp2_with fail
      go_meet
      first
        | exact ⟨w1.heap.size, w1.heap.size + 1, w1.heap.size + 1 + 1, rfl, made_3 HR.out HB.out HSZ.out (Or.inr (Or.inr ⟨rfl, rfl⟩)) (Or.inl ⟨rfl, rfl⟩) (Or.inr (Or.inl ⟨rfl, rfl⟩)) (by omega)⟩
        | exact ⟨w1.heap.size, w1.heap.size + 1 + 1, w1.heap.size + 1, rfl, made_3 HR.out HB.out HSZ.out (Or.inr (Or.inl ⟨rfl, rfl⟩)) (Or.inl ⟨rfl, rfl⟩) (Or.inr (Or.inr ⟨rfl, rfl⟩)) (by omega)⟩
        | exact ⟨w1.heap.size + 1, w1.heap.size, w1.heap.size + 1 + 1, rfl, made_3 HR.out HB.out HSZ.out (Or.inr (Or.inr ⟨rfl, rfl⟩)) (Or.inr (Or.inl ⟨rfl, rfl⟩)) (Or.inl ⟨rfl, rfl⟩) (by omega)⟩
        | exact ⟨w1.heap.size + 1, w1.heap.size + 1 + 1, w1.heap.size, rfl, made_3 HR.out HB.out HSZ.out (Or.inl ⟨rfl, rfl⟩) (Or.inr (Or.inl ⟨rfl, rfl⟩)) (Or.inr (Or.inr ⟨rfl, rfl⟩)) (by omega)⟩
        | exact ⟨w1.heap.size + 1 + 1, w1.heap.size, w1.heap.size + 1, rfl, made_3 HR.out HB.out HSZ.out (Or.inr (Or.inl ⟨rfl, rfl⟩)) (Or.inr (Or.inr ⟨rfl, rfl⟩)) (Or.inl ⟨rfl, rfl⟩) (by omega)⟩
        | exact ⟨w1.heap.size + 1 + 1, w1.heap.size + 1, w1.heap.size, rfl, made_3 HR.out HB.out HSZ.out (Or.inl ⟨rfl, rfl⟩) (Or.inr (Or.inr ⟨rfl, rfl⟩)) (Or.inr (Or.inl ⟨rfl, rfl⟩)) (by omega)⟩
  case rest =>
    obtain ⟨g1, g2, gb, rfl, hm⟩ := hcut
    have HM := Lib.hid (show Made w g1 g2 gb n (part f n 0) (part g n 0) _ from by rw [← part_zero f g n]; exact hm)
    clear hm HR HB HSZ M1
    clear w1
    go_wp2_with fail
    go_loopw [13] (fun i wr => BuildRel w g1 g2 gb n f g i wr) (fun i _ => n - (intOf i).toNat)
    case atStart => exact ⟨0, by omega, rfl, HM.out⟩
    case round =>
      obtain ⟨k, hk, rfl, hm⟩ := hrel
      clear HM
      have HM := Lib.hid hm
      clear hm
      by_cases hlt : k < n
      · have HC := Lib.hid (show ∀ w', Made w g1 g2 gb n (part f n k) (part g n k) w' → Calls Try.prog F (#[.int .i64 k] ++ cap) w' fun e w'' => e = .returned (.tuple #[.int .i64 (f k), .int .i64 (g k)]) ∧ Made w g1 g2 gb n (part f n k) (part g n k) w'' from fun w' hw' =>
          (HS.out k w' hlt hw'.below).mono (by rintro e w'' ⟨h1, j, rfl⟩; exact ⟨h1, hw'.later (Below.drewN (Below.refl _ _) j)⟩))
        have HX := Lib.hid (show ∀ w', Made w g1 g2 gb n (part f n k) (part g n k) w' → MadeCells g1 g2 gb n k _ _ (.int .i64 (f k)) w' from fun w' hw' => hw'.cells (by rw [part_length]; exact hlt) (by rw [part_length]; exact hlt) _)
        have HT := Lib.hid (show ∀ w', Made w g1 g2 gb n (part f n k) (part g n k) w' → _ from fun w' hw' => hw'.set)
        have HD := Lib.hid (HM.out.later (Below.refl _ _).drew)
        obtain ⟨a0, a1, a2, a3, a4, a5, a6, a7, a8⟩ := HX.out _ HM.out
        generalize (part f n k).getD k 0 = x at *
        generalize (part g n k).getD k 0 = y at *
        have i1 : (0 : Int) ≤ k ∧ (k : Int) < n := by omega
        go_wp2_with fail
        go_region_law (go_simp; refine (HC.out _ (by first | exact HM.out | exact HD.out)).mono ?_; rintro e w5 ⟨rfl, hm5⟩; have HM5 := Lib.hid hm5; obtain ⟨y0, y1, y2, y3, y4, y5, y6, y7, y8⟩ := HX.out _ hm5; clear hm5)
        all_goals
          have hm6 := HT.out _ HM5.out
          generalize (w5.setCell ⟨g1, k, none⟩ (.int .i64 (f k))).setCell ⟨g2, k, none⟩ (.int .i64 (g k)) = w6 at *
          have HM6 := Lib.hid hm6
          clear hm6 y0 y1 y2 y3 y4 y5 y6 y7 y8 a0 a1 a2 a3 a4 a5 a6 a7 a8
          go_wp2_with fail
          go_roundw
          case rel => exact ⟨k + 1, by omega, by go_num, HM6.out⟩
          case measure => simp [intOf]; omega
      · obtain rfl : k = n := by omega
        obtain ⟨hq1, hq2, hq3⟩ := HM.out.done
        have HQ2 := Lib.hid hq2
        have HQ3 := Lib.hid hq3
        obtain ⟨c0, c1, c2, c3, c4, c5⟩ := hq1
        clear hq2 hq3
        go_wp2_with fail
        generalize (wr.setCell ⟨w.heap.size, 0, none⟩ (.slice (some ⟨g1, 0, none⟩) k k)).setCell ⟨w.heap.size, 1, none⟩ (.slice (some ⟨g2, 0, none⟩) k k) = w9 at *
        exact ret_box 4 rfl w.heap.size _ _ rfl HQ2.out ⟨g1, g2, rfl, HQ3.out⟩
end Go.Proofs.Ythmloljnpjolmaa
