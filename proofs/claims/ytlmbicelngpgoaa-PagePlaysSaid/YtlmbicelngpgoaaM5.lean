/- PgClash, PgApiL, PgPages, PgFind, PgAlive, ShaRefPre, ShaRefTurn. -/
import Derived.Test.YtlmbicelngpgoaaM4
import Derived.OwnWalk
import Derived.Deep.MidRow
import Derived.Deep.RegionHeld3
import Derived.Lib.SlBytesConst
/- Package page, as it landed: Clash. -/
namespace Go.Proofs.Ytlmbicelngpgoaa.Pg
open Go.RowKit

set_option maxRecDepth 100000 in
set_option maxHeartbeats 1000000 in
theorem clash_no {w : World} {g : Nat} {Q : Nat → Prop} {s : S} (h : PL w g Q s) (hc : s.cl = none) :
    Calls Try.prog 22 #[.pointer (some ⟨g, 0, none⟩)] w fun e w' => ∃ p c q d, e = .returned (.tuple #[.slice p 0 c, .slice q 0 d, .bool false]) ∧ Below w.heap.size w w' := by
  obtain ⟨mp, cl, h⟩ := h
  obtain rfl : cl = none := by
    rcases h.clash with ⟨h1, _⟩ | ⟨c, a, b, _, h2, _⟩
    · exact h1
    · rw [hc] at h2; cases h2
  have c1 := h.c1
  clear h hc
  go_enter Try.func22, Try.ntmps22
  go_wp2_with fail
  go_ret3
  exact ⟨none, 0, none, 0, rfl, Below.refl _ _⟩
set_option maxRecDepth 100000 in
set_option maxHeartbeats 1000000 in
theorem clash_any {w : World} {g : Nat} {Q : Nat → Prop} {s : S} (x y : List Nat) (h : PL w g Q s) (hc : s.cl = some (x, y)) :
    Calls Try.prog 22 #[.pointer (some ⟨g, 0, none⟩)] w fun e w' => ∃ p m c q n d, e = .returned (.tuple #[.slice p m c, .slice q n d, .bool true]) ∧ Tx w' p m c x ∧ Tx w' q n d y ∧ x.length ≤ 100000 ∧ y.length ≤ 100000 ∧ Below w.heap.size w w' := by
  obtain ⟨mp, cl, h⟩ := h
  obtain ⟨cb, rfl, hP⟩ : ∃ cb, cl = some ⟨cb, 0, none⟩ ∧ PairAt Q w cb x y := by
    rcases h.clash with ⟨_, h1⟩ | ⟨c, a, b, h1, h2, h3⟩
    · rw [hc] at h1; cases h1
    · rw [hc] at h2; cases h2; exact ⟨c, h1, h3⟩
  have c1 := h.c1
  obtain ⟨p1, m1, k1, p2, m2, k2, hr, h1, h2⟩ := hP.row
  have d0 : w.cell? ⟨cb, 0, none⟩ = some (.slice p1 m1 k1) := (cell_of_row w cb 0 _ _ _ hr).trans rfl
  have d1 : w.cell? ⟨cb, 1, none⟩ = some (.slice p2 m2 k2) := (cell_of_row w cb 1 _ _ _ hr).trans rfl
  have T1 := Lib.hid h1.tx
  have T2 := Lib.hid h2.tx
  have L1 := h1.le
  have L2 := h2.le
  have e1 := h1.tx.size
  have e2 := h2.tx.size
  have N1 : m1 ≤ 100000 := by omega
  have N2 : m2 ≤ 100000 := by omega
  have C1 := Lib.hid c1
  have D0 := Lib.hid d0
  have D1 := Lib.hid d1
  clear h hc hP hr h1 h2 e1 e2 d0 d1
  go_enter Try.func22, Try.ntmps22
  go_upto_region 3 with fail
  refine wp_region_held_drew (S := fun w' => Below w.heap.size w w') (by kernel_rfl) (Below.refl _ _).drew (fun hHeld => ?_)
  refine wpAnyH_take (i := 0) (oi := ⟨some 10, .move (.tmp 0), _, _, _, _⟩) (v := ?_) rfl (by kernel_rfl) (by kernel_rfl) (by kernel_rfl) (fun _ _ _ h => h) (Or.inl ⟨by rfl, ?_⟩) (by assumption) ?_
  rotate_left
  · intro w' hSw
    go_simp
    try with_reducible rfl
  try simp only [Act.put, List.setIfInBounds_toArray, List.set_cons_zero, List.set_cons_succ]
  refine wpAnyH_take (i := 1) (oi := ⟨some 11, .nilCheck (.tmp 10), _, _, _, _⟩) (v := ?_) rfl (by kernel_rfl) (by kernel_rfl) (by kernel_rfl) (fun _ _ _ h => h) (Or.inl ⟨by rfl, ?_⟩) (by assumption) ?_
  rotate_left
  · intro w' hSw
    go_simp
    try with_reducible rfl
  try simp only [Act.put, List.setIfInBounds_toArray, List.set_cons_zero, List.set_cons_succ]
  refine wpAnyH_take (i := 2) (oi := ⟨some 12, .fieldAddr 58 (.tmp 11) 1, _, _, _, _⟩) (v := ?_) rfl (by kernel_rfl) (by kernel_rfl) (by kernel_rfl) (fun _ _ _ h => h) (Or.inl ⟨by rfl, ?_⟩) (by assumption) ?_
  rotate_left
  · intro w' hSw
    go_simp
    try with_reducible rfl
  try simp only [Act.put, List.setIfInBounds_toArray, List.set_cons_zero, List.set_cons_succ]
  refine wpAnyH_take (i := 3) (oi := ⟨some 13, .load 56 (.tmp 12), _, _, _, _⟩) (v := ?_) rfl (by kernel_rfl) (by kernel_rfl) (by kernel_rfl) (fun _ _ _ h => h) (Or.inl ⟨by rfl, ?_⟩) (by assumption) ?_
  rotate_left
  · intro w' hSw
    have c1 := (hSw.cell (block_lt_of_cell C1.out)).trans C1.out
    go_simp
    try with_reducible rfl
  try simp only [Act.put, List.setIfInBounds_toArray, List.set_cons_zero, List.set_cons_succ]
  refine wpAnyH_take (i := 4) (oi := ⟨some 14, .nilCheck (.tmp 13), _, _, _, _⟩) (v := ?_) rfl (by kernel_rfl) (by kernel_rfl) (by kernel_rfl) (fun _ _ _ h => h) (Or.inl ⟨by rfl, ?_⟩) (by assumption) ?_
  rotate_left
  · intro w' hSw
    go_simp
    try with_reducible rfl
  try simp only [Act.put, List.setIfInBounds_toArray, List.set_cons_zero, List.set_cons_succ]
  refine wpAnyH_take (i := 5) (oi := ⟨some 15, .fieldAddr 66 (.tmp 14) 0, _, _, _, _⟩) (v := ?_) rfl (by kernel_rfl) (by kernel_rfl) (by kernel_rfl) (fun _ _ _ h => h) (Or.inl ⟨by rfl, ?_⟩) (by assumption) ?_
  rotate_left
  · intro w' hSw
    go_simp
    try with_reducible rfl
  try simp only [Act.put, List.setIfInBounds_toArray, List.set_cons_zero, List.set_cons_succ]
  refine wpAnyH_take (i := 6) (oi := ⟨some 16, .load 27 (.tmp 15), _, _, _, _⟩) (v := ?_) rfl (by kernel_rfl) (by kernel_rfl) (by kernel_rfl) (fun _ _ _ h => h) (Or.inl ⟨by rfl, ?_⟩) (by assumption) ?_
  rotate_left
  · intro w' hSw
    have c1 := (hSw.cell (block_lt_of_cell D0.out)).trans D0.out
    go_simp
    try with_reducible rfl
  try simp only [Act.put, List.setIfInBounds_toArray, List.set_cons_zero, List.set_cons_succ]
  refine wpAnyH_take (i := 8) (oi := ⟨some 18, .move (.tmp 0), _, _, _, _⟩) (v := ?_) rfl (by kernel_rfl) (by kernel_rfl) (by kernel_rfl) (fun _ _ _ h => h) (Or.inl ⟨by rfl, ?_⟩) (by assumption) ?_
  rotate_left
  · intro w' hSw
    go_simp
    try with_reducible rfl
  try simp only [Act.put, List.setIfInBounds_toArray, List.set_cons_zero, List.set_cons_succ]
  refine wpAnyH_take (i := 9) (oi := ⟨some 19, .nilCheck (.tmp 18), _, _, _, _⟩) (v := ?_) rfl (by kernel_rfl) (by kernel_rfl) (by kernel_rfl) (fun _ _ _ h => h) (Or.inl ⟨by rfl, ?_⟩) (by assumption) ?_
  rotate_left
  · intro w' hSw
    go_simp
    try with_reducible rfl
  try simp only [Act.put, List.setIfInBounds_toArray, List.set_cons_zero, List.set_cons_succ]
  refine wpAnyH_take (i := 10) (oi := ⟨some 20, .fieldAddr 58 (.tmp 19) 1, _, _, _, _⟩) (v := ?_) rfl (by kernel_rfl) (by kernel_rfl) (by kernel_rfl) (fun _ _ _ h => h) (Or.inl ⟨by rfl, ?_⟩) (by assumption) ?_
  rotate_left
  · intro w' hSw
    go_simp
    try with_reducible rfl
  try simp only [Act.put, List.setIfInBounds_toArray, List.set_cons_zero, List.set_cons_succ]
  refine wpAnyH_take (i := 11) (oi := ⟨some 21, .load 56 (.tmp 20), _, _, _, _⟩) (v := ?_) rfl (by kernel_rfl) (by kernel_rfl) (by kernel_rfl) (fun _ _ _ h => h) (Or.inl ⟨by rfl, ?_⟩) (by assumption) ?_
  rotate_left
  · intro w' hSw
    have c1 := (hSw.cell (block_lt_of_cell C1.out)).trans C1.out
    go_simp
    try with_reducible rfl
  try simp only [Act.put, List.setIfInBounds_toArray, List.set_cons_zero, List.set_cons_succ]
  refine wpAnyH_take (i := 12) (oi := ⟨some 22, .nilCheck (.tmp 21), _, _, _, _⟩) (v := ?_) rfl (by kernel_rfl) (by kernel_rfl) (by kernel_rfl) (fun _ _ _ h => h) (Or.inl ⟨by rfl, ?_⟩) (by assumption) ?_
  rotate_left
  · intro w' hSw
    go_simp
    try with_reducible rfl
  try simp only [Act.put, List.setIfInBounds_toArray, List.set_cons_zero, List.set_cons_succ]
  refine wpAnyH_take (i := 13) (oi := ⟨some 23, .fieldAddr 66 (.tmp 22) 1, _, _, _, _⟩) (v := ?_) rfl (by kernel_rfl) (by kernel_rfl) (by kernel_rfl) (fun _ _ _ h => h) (Or.inl ⟨by rfl, ?_⟩) (by assumption) ?_
  rotate_left
  · intro w' hSw
    go_simp
    try with_reducible rfl
  try simp only [Act.put, List.setIfInBounds_toArray, List.set_cons_zero, List.set_cons_succ]
  refine wpAnyH_take (i := 14) (oi := ⟨some 24, .load 27 (.tmp 23), _, _, _, _⟩) (v := ?_) rfl (by kernel_rfl) (by kernel_rfl) (by kernel_rfl) (fun _ _ _ h => h) (Or.inl ⟨by rfl, ?_⟩) (by assumption) ?_
  rotate_left
  · intro w' hSw
    have c1 := (hSw.cell (block_lt_of_cell D1.out)).trans D1.out
    go_simp
    try with_reducible rfl
  try simp only [Act.put, List.setIfInBounds_toArray, List.set_cons_zero, List.set_cons_succ]
  refine wpAnyH_ready (rs := [7]) (by kernel_rfl) (by simp) ?_
  refine AllReadyH.cons (o := ⟨some 17, .call ⟨.value (.func 24), #[.tmp 16], #[27]⟩, _, _, _, _⟩) rfl (fun K hK => ?_) AllReadyH.nil
  go_simp
  refine (bclone_any (T1.out.later hHeld) N1).mono ?_
  rintro _ w17 ⟨q17, c17, rfl, o17, b17⟩
  have O17 := Lib.hid (show Tx w17 q17 m1 c17 x from by
    have he : m1 = x.length := T1.out.size
    have := o17
    rw [he] at this ⊢
    exact tx_of_owns this T1.out.ok)
  have hS17 : Below w.heap.size w w17 := hHeld.trans (b17.mono hHeld.size)
  have B17 := Lib.hid b17
  clear o17 b17
  try go_wp2_with fail
  refine hK.out _ _ hS17 (fun hHeld => ?_)
  clear hK K
  try simp only [Act.put, List.setIfInBounds_toArray, List.set_cons_zero, List.set_cons_succ]
  refine wpAnyH_ready (rs := [15]) (by kernel_rfl) (by simp) ?_
  refine AllReadyH.cons (o := ⟨some 25, .call ⟨.value (.func 24), #[.tmp 24], #[27]⟩, _, _, _, _⟩) rfl (fun K hK => ?_) AllReadyH.nil
  go_simp
  refine (bclone_any (T2.out.later hHeld) N2).mono ?_
  rintro _ w25 ⟨q25, c25, rfl, o25, b25⟩
  have O25 := Lib.hid (show Tx w25 q25 m2 c25 y from by
    have he : m2 = y.length := T2.out.size
    have := o25
    rw [he] at this ⊢
    exact tx_of_owns this T2.out.ok)
  have hS25 : Below w.heap.size w w25 := hHeld.trans (b25.mono hHeld.size)
  have B25 := Lib.hid b25
  clear o25 b25
  try go_wp2_with fail
  refine hK.out _ _ hS25 (fun hHeld => ?_)
  clear hK K
  try simp only [Act.put, List.setIfInBounds_toArray, List.set_cons_zero, List.set_cons_succ]
  refine wpAnyH_take (i := 16) (oi := ⟨some 2, .assign (.tmp 17), _, _, _, _⟩) (v := ?_) rfl (by kernel_rfl) (by kernel_rfl) (by kernel_rfl) (fun _ _ _ h => h) (Or.inl ⟨by rfl, ?_⟩) (by assumption) ?_
  rotate_left
  · intro w' hSw
    go_simp
    try with_reducible rfl
  try simp only [Act.put, List.setIfInBounds_toArray, List.set_cons_zero, List.set_cons_succ]
  refine wpAnyH_take (i := 17) (oi := ⟨some 3, .assign (.tmp 25), _, _, _, _⟩) (v := ?_) rfl (by kernel_rfl) (by kernel_rfl) (by kernel_rfl) (fun _ _ _ h => h) (Or.inl ⟨by rfl, ?_⟩) (by assumption) ?_
  rotate_left
  · intro w' hSw
    go_simp
    try with_reducible rfl
  try simp only [Act.put, List.setIfInBounds_toArray, List.set_cons_zero, List.set_cons_succ]
  refine wpAnyH_take (i := 18) (oi := ⟨some 4, .assign (.const (.bool true)), _, _, _, _⟩) (v := ?_) rfl (by kernel_rfl) (by kernel_rfl) (by kernel_rfl) (fun _ _ _ h => h) (Or.inl ⟨by rfl, ?_⟩) (by assumption) ?_
  rotate_left
  · intro w' hSw
    go_simp
    try with_reducible rfl
  try simp only [Act.put, List.setIfInBounds_toArray, List.set_cons_zero, List.set_cons_succ]
  refine wpAnyH_done (by kernel_rfl) ?_ _
  have O17' := Lib.hid (O17.out.later B25.out)
  go_wp2_with fail
  go_ret3
  exact ⟨_, _, _, _, _, _, rfl, O17'.out, O25.out, L1, L2, hHeld⟩
end Go.Proofs.Ytlmbicelngpgoaa.Pg

/- Package page, as it landed: all its contracts. -/
namespace Go.Proofs.Ytlmbicelngpgoaa.Pg
open Go.RowKit

theorem papi : Api PL where
  ok := PL.okay
  lt := PL.lt
  keep := PL.keep
  sum := sum_any'
  pre := pre_any'
  new := new_any
  put := fun b p n c h hT _ hn hs => (put_any b p n c h hT hn hs).mono (fun _ _ ⟨h1, ⟨Q', h2, h3⟩, h4⟩ => ⟨h1, Q', h2, h3, h4⟩)
  get := fun t d h hd ho ht => get_any t d h hd ho ht
  getNo := fun d h hd ho ht => get_none d h hd ho ht
  has := fun d h hd ho => has_any h d hd ho
  len := fun h => len_any h
  sums := fun h hs => sums_any h hs
  keepOp := fun K p n c h hK _ hn hs => keep_any K p n c h hK hn hs
  clash := fun x y h hc => clash_any x y h hc
  clashNo := fun h hc => clash_no h hc
end Go.Proofs.Ytlmbicelngpgoaa.Pg

/- The reference's pages, as they lie in memory. -/
namespace Go.Proofs.Ytlmbicelngpgoaa.Pg
open Go.RowKit

/-- A list of pages of one's own: its row lies from base on. -/
structure Pgs (base : Nat) (w : World) (v : Value) (n : Nat) (L : List Pe) : Prop where
  size : n = L.length
  own : w.ownsRow base 40 33 v n (flatP L)
  len : ∀ e ∈ L, e.d.length = 32 ∧ Sm.allB e.d
  text : ∀ e ∈ L, Tx w e.q e.m e.c e.b ∧ ∀ x, e.q = some x → e.b ≠ [] → v.ownBlock ≠ some x.block
/-- The blocks that it reads. -/
def PU (v : Value) (L : List Pe) (k : Nat) : Prop := v.ownBlock = some k ∨ ∃ e ∈ L, ∃ x, e.q = some x ∧ e.b ≠ [] ∧ k = x.block
section
variable {base : Nat} {w w' : World} {v : Value} {n : Nat} {L : List Pe}
theorem Pgs.nil (base : Nat) (w : World) : Pgs base w (.slice none 0 0) 0 [] := ⟨rfl, World.ownsRow_nil _ _ _ _, (fun e he => by cases he), fun e he => by cases he⟩
theorem Pgs.lt (h : Pgs base w v n L) : ∀ k, PU v L k → k < w.heap.size := fun k hk => by
  rcases hk with hk | ⟨e, he, x, hx, hb, rfl⟩
  · exact (h.own.lt k hk).2
  · obtain ⟨g, o, hp, hc⟩ := (h.text e he).1.bytes.ne hb
    rw [hx] at hp
    cases hp
    exact block_lt_of_cell (hc 0 (List.length_pos_iff.2 hb))
theorem Pgs.keep (h : Pgs base w v n L) (hk : ∀ k, PU v L k → w'.heap[k]? = w.heap[k]?) : Pgs base w' v n L :=
  ⟨h.size, by
    refine ⟨h.own.1, ?_⟩
    rcases h.own.2 with h1 | ⟨g, cap, cur, h1, h2, h3, h4⟩
    · exact Or.inl h1
    · exact Or.inr ⟨g, cap, cur, h1, h2, (hk g (Or.inl (by rw [h1]; rfl))).trans h3, h4⟩, h.len, fun e he => ⟨Dk.tx_keep (h.text e he).1 (fun x hx hb => hk x.block (Or.inr ⟨e, he, x, hx, hb, rfl⟩)), (h.text e he).2⟩⟩
theorem Pgs.later (h : Pgs base w v n L) (hb : Below w.heap.size w w') : Pgs base w' v n L := h.keep fun k hk => hb.block k (h.lt k hk)
theorem Pgs.only (h : Pgs base w v n L) {X : Nat → Prop} (ho : Dk.Only X w w') (hx : ∀ k, PU v L k → ¬ X k) : Pgs base w' v n L := h.keep fun k hk => ho.block k (h.lt k hk) (hx k hk)
theorem Pgs.form (h : Pgs base w v n L) : ∃ q c, v = .slice q n c ∧ n ≤ c ∧ (n ≠ 0 → ∃ g, q = some ⟨g, 0, none⟩) := by
  rcases h.own.2 with ⟨h1, h2⟩ | ⟨g, cap, cur, h1, _, _, h4, _⟩
  · exact ⟨none, 0, by rw [h1, h2], by omega, fun e => absurd h2 e⟩
  · exact ⟨_, cap, h1, h4, fun _ => ⟨g, rfl⟩⟩
/-- One page's cells. -/
theorem Pgs.cell {g c : Nat} (h : Pgs base w (.slice (some ⟨g, 0, none⟩) n c) n L) {i j : Nat} {u : Value} (hi : i < n) (hj : j < 33) (hu : (L.getD i default).cells[j]? = some u) : w.cell? ⟨g, i * 33 + j, none⟩ = some u := by
  have hl := flatP_length (fun e he => (h.len e he).1)
  have hs := h.size
  have h0 := h.own.1
  rw [World.ownsRow.cellAt h.own (i * 33 + j) (by omega), flatP_at (fun e he => (h.len e he).1) (by omega) hj, hu]
theorem Pgs.sum {g c : Nat} (h : Pgs base w (.slice (some ⟨g, 0, none⟩) n c) n L) {i : Nat} (hi : i < n) : w.rangeAt g (i * 33) (vals (L.getD i default).d) := fun j u hu => by
  have hm : L.getD i default ∈ L := by
    have := h.size
    rw [List.getD_eq_getElem?_getD, List.getElem?_eq_getElem (by omega)]
    exact List.getElem_mem _
  have hj : j < 32 := by
    have := (List.getElem?_eq_some_iff.1 hu).1
    have hd := (h.len _ hm).1
    rw [vals_length] at this
    omega
  refine h.cell hi (by omega) ?_
  unfold Pe.cells
  rw [List.getElem?_append_left (by have hd := (h.len _ hm).1; rw [vals_length]; omega)]
  exact hu
theorem Pgs.head {g c : Nat} (h : Pgs base w (.slice (some ⟨g, 0, none⟩) n c) n L) {i : Nat} (hi : i < n) : w.cell? ⟨g, i * 33 + 32, none⟩ = some (.slice (L.getD i default).q (L.getD i default).m (L.getD i default).c) := by
  have hm : L.getD i default ∈ L := by
    have := h.size
    rw [List.getD_eq_getElem?_getD, List.getElem?_eq_getElem (by omega)]
    exact List.getElem_mem _
  refine h.cell hi (by omega) ?_
  unfold Pe.cells
  have hd := (h.len _ hm).1
  rw [List.getElem?_append_right (by rw [vals_length]; omega), vals_length, show 32 - (L.getD i default).d.length = 0 from by omega]
  rfl
end
end Go.Proofs.Ytlmbicelngpgoaa.Pg

/- The reference's Find. -/
namespace Go.Proofs.Ytlmbicelngpgoaa.Pg
open Go.RowKit

def FindR (w : World) (bk n : Nat) (L : List Pe) (D : List Nat) (v : Value) (wr : World) : Prop :=
  ∃ k : Nat, k ≤ n ∧ v = .int .i64 k ∧ (∀ j, j < k → (L.getD j default).d ≠ D) ∧ wr.heap[bk]? = some (.cells (u8s D) 32 (0, 0)) ∧ Below w.heap.size w wr
theorem find_at {L : List Pe} {D : List Nat} {k : Nat} (hk : k < L.length) (h : (L.getD k default).d = D) (hb : ∀ j, j < k → (L.getD j default).d ≠ D) : findI (pagesOf L) D = k := by
  have h1 : idx D (pagesOf L) = k := idx_is (by rw [pagesOf_length]; exact hk) (by rw [pagesOf_at L hk]; exact h) (fun j hj => by rw [pagesOf_at L (by omega)]; exact hb j hj)
  rw [findI, h1, if_pos (by rw [pagesOf_length]; exact hk)]
theorem find_none {L : List Pe} {D : List Nat} (hb : ∀ j, j < L.length → (L.getD j default).d ≠ D) : findI (pagesOf L) D = -1 := by
  have h1 : idx D (pagesOf L) = (pagesOf L).length := idx_none (fun j hj => by rw [pagesOf_length] at hj; rw [pagesOf_at L hj]; exact hb j hj)
  rw [findI, h1, if_neg (by omega)]
set_option maxRecDepth 100000 in
set_option maxHeartbeats 1000000 in
theorem rfind_any {base : Nat} {w : World} {v : Value} {n : Nat} {L : List Pe} (h : Pgs base w v n L) (D : List Nat) (hD : D.length = 32) (hn : n ≤ 1000000) :
    Calls Try.prog 10 #[v, .agg (u8s D)] w fun e w' => e = .returned (.int .i64 (findI (pagesOf L) D)) ∧ Below w.heap.size w w' := by
  obtain ⟨q, c, rfl, hnc, hq⟩ := h.form
  have hb := (Below.refl w.heap.size w).alloc (Nat.le_refl _) (.cells (u8s D) 32)
  have HB := Lib.hid hb
  have HR := Lib.hid (heap_alloc_new w (.cells (u8s D) 32))
  have HL := Lib.hid h
  have HD := Lib.hid hD
  have HS := Lib.hid h.size
  have HQ := Lib.hid hq
  clear h hb hD hq
  go_enter Try.func10, Try.ntmps10
  go_wp2_with fail
  generalize w.alloc (.cells (u8s D) 32) = w1 at *
  generalize hbk : w.heap.size = bk at *
  go_loopw [5] (fun v wr => FindR w bk n L D v wr) (fun v _ => n - (intOf v).toNat)
  case atStart => exact ⟨0, Nat.zero_le _, rfl, (fun j hj => absurd hj (Nat.not_lt_zero _)), HR.out, by rw [hbk]; exact HB.out⟩
  case round =>
    obtain ⟨k, hk, rfl, hbf, hr, hbw⟩ := hrel
    have BW := Lib.hid hbw
    have HBF := Lib.hid hbf
    have RW := Lib.hid hr
    clear hbw hbf hr
    by_cases hlt : k < n
    · have l1 : (k : Int) < n := by omega
      have i1 : (0 : Int) ≤ k ∧ (k : Int) < n := by omega
      obtain ⟨g, rfl⟩ := HQ.out (by omega)
      have lw := HL.out.later BW.out
      have R1 := Lib.hid (lw.sum hlt)
      have R2 := Lib.hid (range_of_row' RW.out)
      obtain ⟨E, hE⟩ : ∃ E, E = (L.getD k default).d := ⟨_, rfl⟩
      have HE := Lib.hid hE
      rw [← hE] at R1
      have HEL := Lib.hid (show E.length = 32 from by
        rw [hE]
        refine (HL.out.len _ ?_).1
        have := HS.out
        rw [List.getD_eq_getElem?_getD, List.getElem?_eq_getElem (by omega)]
        exact List.getElem_mem _)
      clear lw hE
      go_upto_region 4 with fail
      refine wp_region_held_drew (S := fun w' => w'.rangeAt g (k * 33) (vals E) ∧ w'.rangeAt bk 0 (vals D)) (by kernel_rfl) ⟨R1.out, R2.out⟩ (fun hHeld => ?_)
      refine wpAnyH_take (i := 0) (oi := ⟨some 12, .move (.tmp 0), _, _, _, _⟩) (v := ?_) rfl (by kernel_rfl) (by kernel_rfl) (by kernel_rfl) (fun _ _ _ h => h) (Or.inl ⟨by rfl, ?_⟩) (by assumption) ?_
      rotate_left
      · intro w' hSw
        go_simp
        try with_reducible rfl
      try simp only [Act.put, List.setIfInBounds_toArray, List.set_cons_zero, List.set_cons_succ]
      refine wpAnyH_take (i := 1) (oi := ⟨some 13, .move (.tmp 5), _, _, _, _⟩) (v := ?_) rfl (by kernel_rfl) (by kernel_rfl) (by kernel_rfl) (fun _ _ _ h => h) (Or.inl ⟨by rfl, ?_⟩) (by assumption) ?_
      rotate_left
      · intro w' hSw
        go_simp
        try with_reducible rfl
      try simp only [Act.put, List.setIfInBounds_toArray, List.set_cons_zero, List.set_cons_succ]
      refine wpAnyH_take (i := 2) (oi := ⟨some 14, .indexAddr 26 (.tmp 12) (.tmp 13), _, _, _, _⟩) (v := ?_) rfl (by kernel_rfl) (by kernel_rfl) (by kernel_rfl) (fun _ _ _ h => h) (Or.inl ⟨by rfl, ?_⟩) (by assumption) ?_
      rotate_left
      · intro w' hSw
        go_simp
        try with_reducible rfl
      try simp only [Act.put, List.setIfInBounds_toArray, List.set_cons_zero, List.set_cons_succ]
      refine wpAnyH_take (i := 3) (oi := ⟨some 15, .fieldAddr 40 (.tmp 14) 0, _, _, _, _⟩) (v := ?_) rfl (by kernel_rfl) (by kernel_rfl) (by kernel_rfl) (fun _ _ _ h => h) (Or.inl ⟨by rfl, ?_⟩) (by assumption) ?_
      rotate_left
      · intro w' hSw
        go_simp
        try with_reducible rfl
      try simp only [Act.put, List.setIfInBounds_toArray, List.set_cons_zero, List.set_cons_succ]
      refine wpAnyH_take (i := 4) (oi := ⟨some 16, .load 32 (.tmp 15), _, _, _, _⟩) (v := ?_) rfl (by kernel_rfl) (by kernel_rfl) (by kernel_rfl) (fun _ _ _ h => h) (Or.inl ⟨by rfl, ?_⟩) (by assumption) ?_
      rotate_left
      · intro w' hSw
        refine Eq.trans (b := Result.ok (Next.value (.agg (u8s E))) w') ?_ ?_
        · exact op_load_dig (by rfl) (by rfl) HEL.out hSw.1
        · with_reducible rfl
      try simp only [Act.put, List.setIfInBounds_toArray, List.set_cons_zero, List.set_cons_succ]
      refine wpAnyH_take (i := 5) (oi := ⟨some 17, .load 32 (.tmp 3), _, _, _, _⟩) (v := ?_) rfl (by kernel_rfl) (by kernel_rfl) (by kernel_rfl) (fun _ _ _ h => h) (Or.inl ⟨by rfl, ?_⟩) (by assumption) ?_
      rotate_left
      · intro w' hSw
        refine Eq.trans (b := Result.ok (Next.value (.agg (u8s D))) w') ?_ ?_
        · exact op_load_dig (by rfl) (by rfl) HD.out hSw.2
        · with_reducible rfl
      try simp only [Act.put, List.setIfInBounds_toArray, List.set_cons_zero, List.set_cons_succ]
      refine wpAnyH_take (i := 6) (oi := ⟨some 18, .binOp .eql 32 (.tmp 16) (.tmp 17) 32, _, _, _, _⟩) (v := ?_) rfl (by kernel_rfl) (by kernel_rfl) (by kernel_rfl) (fun _ _ _ h => h) (Or.inl ⟨by rfl, ?_⟩) (by assumption) ?_
      rotate_left
      · intro w' hSw
        refine Eq.trans (b := Result.ok (Next.value (.bool (decide (E = D)))) w') ?_ ?_
        · exact op_eql_dig (x := 16) (y := 17) (by rfl) (by rfl) (by rfl) HEL.out HD.out w'
        · with_reducible rfl
      try simp only [Act.put, List.setIfInBounds_toArray, List.set_cons_zero, List.set_cons_succ]
      refine wpAnyH_done (by kernel_rfl) ?_ _
      by_cases heq : E = D
      · rw [decide_eq_true heq]
        have HF := Lib.hid (find_at (by rw [← HS.out]; exact hlt) (HE.out.symm.trans heq) HBF.out)
        clear heq
        go_wp2_with fail
        go_ret
        exact ⟨by rw [HF.out]; rfl, BW.out.drew⟩
      · rw [decide_eq_false heq]
        have HNE := Lib.hid heq
        clear heq
        go_wp2_with fail
        go_roundw
        case rel => exact ⟨k + 1, by omega, by go_num, (fun j hj => by
          rcases Nat.lt_or_ge j k with h1 | h1
          · exact HBF.out j h1
          · obtain rfl : j = k := by omega
            rw [← HE.out]
            exact HNE.out), RW.out, BW.out.drew⟩
        case measure => simp [intOf]; omega
    · obtain rfl : k = n := by omega
      have HF := Lib.hid (find_none (D := D) (by rw [← HS.out]; exact HBF.out))
      go_wp2_with fail
      go_ret
      exact ⟨by rw [HF.out]; rfl, BW.out⟩
end Go.Proofs.Ytlmbicelngpgoaa.Pg

/- The examples of the chapter stand, over whatever store keeps the contracts. -/
namespace Go.Proofs.Ytlmbicelngpgoaa.Pg
open Go.RowKit

variable {PL : World → Nat → (Nat → Prop) → S → Prop}
theorem ab_ok : Sm.allB [97, 98] := fun x hx => by simp at hx; omega
theorem wp_convert {P : Program} {o : Oper} {a : Act} {w w' : World} {K : Act → World → Prop} {Q : Exit → Act → World → Prop} {t u : TypeId} {x : Operand} {v : Value} (ho : o.op = .convert t u x) (h : (convert t u (a.eval x)).run P w = .ok v w') (hK : K (a.put o.dst v) w') : o.wp P a w K Q := by
  unfold Oper.wp execOp
  simp only [ho, Sem.run_bind, h, Result.andThen_ok, Sem.run_pure]
  exact hK
theorem put_new (b : List Nat) : S.put ⟨[], none⟩ b = ⟨[(sumOf b, b)], none⟩ := rfl
theorem put_twice (b : List Nat) : S.put ⟨[(sumOf b, b)], none⟩ b = ⟨[(sumOf b, b)], none⟩ := by
  have h : idx (sumOf b) [(sumOf b, b)] = 0 := if_pos rfl
  simp [S.put, putW, textAt, h]
theorem text_one (b : List Nat) : textAt [(sumOf b, b)] (sumOf b) = some b := by
  have h : idx (sumOf b) [(sumOf b, b)] = 0 := if_pos rfl
  simp [textAt, h]
set_option maxRecDepth 100000 in
set_option maxHeartbeats 1000000 in
theorem palive_any (A : Api PL) (w : World) :
    Calls Try.prog 6 #[] w fun e w' => e = .returned (.bool true) ∧ Below w.heap.size w w' := by
  have kc := fun (w : World) (C : Array Value) (n c : Nat) => Lib.run_convert_bytes_const (P := Try.prog) w 27 5 C n c A22 U5
  have hz := (zero_of_info Z25).1
  obtain ⟨D, hD⟩ : ∃ D, D = sumOf [97, 98] := ⟨_, rfl⟩
  have HD := Lib.hid hD
  have HDL := Lib.hid (show D.length = 32 from by rw [hD]; rfl)
  have HDO := Lib.hid (show Sm.allB D from by rw [hD]; exact sumOf_ok _)
  clear hD
  go_enter Try.func6, Try.ntmps6
  go_wp2_with fail
  refine (A.new w).mono ?_
  rintro e w1 ⟨g, Q, rfl, l1, q1, b1⟩
  have S1 := Lib.hid (show St PL w w1 g Q ⟨[], none⟩ from ⟨l1, q1, b1⟩)
  clear l1 q1 b1
  go_wp2_with fail
  have hb2 := (Below.refl w1.heap.size w1).alloc (Nat.le_refl _) (.cells #[.int .u8 97, .int .u8 98] 5 (2, 3))
  have hr2 := heap_alloc_new w1 (.cells #[.int .u8 97, .int .u8 98] 5 (2, 3))
  have S2 := Lib.hid (S1.out.later A hb2)
  have T2 := Lib.hid (Bytes.row (L := [97, 98]) hr2 ab_ok).tx
  have N2 := Lib.hid (show ¬ Q w1.heap.size from fun e => Nat.lt_irrefl _ (A.lt S1.out.at' _ e))
  clear hb2 hr2 S1
  generalize w1.heap.size = gb at *
  generalize w1.alloc (.cells #[.int .u8 97, .int .u8 98] 5 (2, 3)) = w2 at *
  refine (A.put [97, 98] _ 2 2 S2.out.at' T2.out (fun x hx _ => by cases hx; exact N2.out) (by omega) (by simp)).mono ?_
  rintro e w3 ⟨rfl, Q3, l3, q3, o3⟩
  rw [← HD.out]
  have S3 := Lib.hid (show St PL w w3 g Q3 ⟨[(D, [97, 98])], none⟩ from by have := S2.out.turned l3 q3 o3; rw [put_new, ← HD.out] at this; exact this)
  have hb4 := (Below.refl w3.heap.size w3).alloc (Nat.le_refl _) (.cells (u8s D) 32)
  have S4 := Lib.hid (S3.out.later A hb4)
  have R4 := Lib.hid (heap_alloc_new w3 (.cells (u8s D) 32))
  have N4 := Lib.hid (show ¬ Q3 w3.heap.size from fun e => Nat.lt_irrefl _ (A.lt S3.out.at' _ e))
  clear l3 q3 o3 T2 N2 S2 hb4 S3
  go_upto_region 5 with (refine wpList_store_row (by rfl) 32 (.tmp 2) (.tmp 15) (by rfl) w3.heap.size (u8s D) (by rfl) (by rfl) _ _ (heap_alloc_new w3 _) (by rw [u8s_size, HDL.out]; exact S25) (by rw [u8s_size, u8s_size, HDL.out]; rfl) (u8s_one _) ?_; rw [setRow_alloc])
  generalize w3.alloc (.cells (u8s D) 32) = w4 at *
  generalize w3.heap.size = dd at *
  have HTX := Lib.hid (show textAt [(D, [97, 98])] D = some [97, 98] from by rw [HD.out]; exact text_one _)
  have HNO := Lib.hid (show textAt [] D = none from rfl)
  go_wp2_with (refine wpList_load_row (by rfl) 32 (.tmp 2) (by rfl) dd (by rfl) 32 (u8s D) (0, 0) _ R4.out A25 rfl (by rw [u8s_size, HDL.out]; exact S25) ?_)
  refine (A.get [97, 98] D S4.out.at' HDL.out HDO.out HTX.out).mono ?_
  rintro e w5 ⟨q, c, rfl, o5, b5⟩
  have S5 := Lib.hid (S4.out.later A b5)
  have R5 := Lib.hid ((b5.block _ (Array.getElem?_eq_some_iff.1 R4.out).1).trans R4.out)
  have T5 := Lib.hid (show Tx w5 q 2 c [97, 98] from tx_of_owns o5 ab_ok)
  have HQ5 := Lib.hid (show ∀ x, q = some x → ¬ Q3 x.block from fun x hx e => by
    have h1 := (o5.lt x.block (by rw [hx]; rfl)).1
    have h2 := A.lt S4.out.at' _ e
    omega)
  clear o5 b5 S4 R4
  go_wp2_with fail
  have hb6 := (Below.refl w5.heap.size w5).alloc (Nat.le_refl _) (.cells #[.int .u8 97, .int .u8 98] 5 (2, 3))
  have hr6 := heap_alloc_new w5 (.cells #[.int .u8 97, .int .u8 98] 5 (2, 3))
  have S6 := Lib.hid (S5.out.later A hb6)
  have T6 := Lib.hid (Bytes.row (L := [97, 98]) hr6 ab_ok).tx
  have N6 := Lib.hid (show ¬ Q3 w5.heap.size from fun e => Nat.lt_irrefl _ (A.lt S5.out.at' _ e))
  have R6 := Lib.hid ((hb6.block _ (Array.getElem?_eq_some_iff.1 R5.out).1).trans R5.out)
  have TT6 := Lib.hid (T5.out.later hb6)
  clear hb6 hr6 S5 R5 T5
  generalize w5.heap.size = gc at *
  generalize w5.alloc (.cells #[.int .u8 97, .int .u8 98] 5 (2, 3)) = w6 at *
  refine (A.put [97, 98] _ 2 2 S6.out.at' T6.out (fun x hx _ => by cases hx; exact N6.out) (by omega) (by simp)).mono ?_
  rintro e w7 ⟨rfl, Q7, l7, q7, o7⟩
  rw [← HD.out]
  have hlt6 := (Array.getElem?_eq_some_iff.1 R6.out).1
  have S7 := Lib.hid (show St PL w w7 g Q7 ⟨[(D, [97, 98])], none⟩ from by have := S6.out.turned l7 q7 o7; rw [show S.put ⟨[(D, [97, 98])], none⟩ [97, 98] = ⟨[(D, [97, 98])], none⟩ from by rw [HD.out]; exact put_twice _] at this; exact this)
  have R7 := Lib.hid ((o7.block dd hlt6 N4.out).trans R6.out)
  have TT7 := Lib.hid (Dk.tx_keep TT6.out (fun x hx hb => o7.block x.block (by
    obtain ⟨g', o', hp', hc'⟩ := TT6.out.bytes.ne hb
    rw [hx] at hp'
    cases hp'
    exact block_lt_of_cell (hc' 0 (by simp))) (HQ5.out x hx)))
  have HL7 := Lib.hid (show w6.heap.size ≤ w7.heap.size from o7.size)
  have HQ7 := Lib.hid (show ∀ k, Q7 k → Q3 k ∨ w6.heap.size ≤ k from q7)
  have HTL := Lib.hid (show ∀ x, q = some x → x.block < w6.heap.size from fun x hx => by
    obtain ⟨g', o', hp', hc'⟩ := TT6.out.bytes.ne (by simp)
    rw [hx] at hp'
    cases hp'
    exact block_lt_of_cell (hc' 0 (by simp)))
  have HDL6 := Lib.hid hlt6
  clear l7 q7 o7 hlt6 S6 T6 N6 R6 TT6
  go_wp2_with fail
  refine (A.len S7.out.at').mono ?_
  rintro e w8 ⟨rfl, b8⟩
  have S8 := Lib.hid (S7.out.later A b8)
  have R8 := Lib.hid ((b8.block _ (Array.getElem?_eq_some_iff.1 R7.out).1).trans R7.out)
  have TT8 := Lib.hid (TT7.out.later b8)
  have HL8 := Lib.hid (Nat.le_trans HL7.out b8.size)
  clear b8 S7 R7 TT7 HL7
  go_wp2_with fail
  refine (A.keepOp [] none 0 0 S8.out.at' (Digs.nil _) (fun x hx => by cases hx) (by omega) (by simp)).mono ?_
  rintro e w9 ⟨rfl, Q9, l9, q9, o9⟩
  have S9 := Lib.hid (show St PL w w9 g Q9 ⟨[], none⟩ from S8.out.turned l9 q9 o9)
  have R9 := Lib.hid ((o9.block dd (Array.getElem?_eq_some_iff.1 R8.out).1 (fun e => (HQ7.out _ e).elim N4.out (fun h => by have := HDL6.out; omega))).trans R8.out)
  have TT9 := Lib.hid (Dk.tx_keep TT8.out (fun x hx hb => o9.block x.block (by have := HTL.out x hx; have := HL8.out; omega) (fun e => (HQ7.out _ e).elim (HQ5.out x hx) (fun h => by have := HTL.out x hx; omega))))
  clear l9 q9 o9 S8 R8 TT8
  go_wp2_with (refine wpList_load_row (by rfl) 32 (.tmp 2) (by rfl) dd (by rfl) 32 (u8s D) (0, 0) _ R9.out A25 rfl (by rw [u8s_size, HDL.out]; exact S25) ?_)
  refine (A.getNo D S9.out.at' HDL.out HDO.out HNO.out).mono ?_
  rintro e w10 ⟨q10, c10, rfl, b10⟩
  have S10 := Lib.hid (S9.out.later A b10)
  have R10 := Lib.hid ((b10.block _ (Array.getElem?_eq_some_iff.1 R9.out).1).trans R9.out)
  have TT10 := Lib.hid (TT9.out.later b10)
  clear b10 S9 R9 TT9
  go_upto_region 10 with fail
  refine wp_region_held_drew (S := fun w' => Below w10.heap.size w10 w') (by kernel_rfl) (Below.refl _ _).drew (fun hHeld => ?_)
  refine wpAnyH_take (i := 0) (oi := ⟨some 36, .move (.tmp 3), _, _, _, _⟩) (v := ?_) rfl (by kernel_rfl) (by kernel_rfl) (by kernel_rfl) (fun _ _ _ h => h) (Or.inl ⟨by rfl, ?_⟩) (by assumption) ?_
  rotate_left
  · intro w' hSw
    go_simp
    try with_reducible rfl
  try simp only [Act.put, List.setIfInBounds_toArray, List.set_cons_zero, List.set_cons_succ]
  refine wpAnyH_take (i := 1) (oi := ⟨some 37, .convert 27 9 (.tmp 36), _, _, _, _⟩) (v := ?_) rfl (by kernel_rfl) (by kernel_rfl) (by kernel_rfl) (fun _ _ _ h => h) (Or.inl ⟨by rfl, ?_⟩) (by assumption) ?_
  rotate_left
  · intro w' hSw
    have hcv := convert_tx (TT10.out.later hSw)
    rw [show strOf [97, 98] = ⟨#[97, 98]⟩ from rfl] at hcv
    go_simp
    try with_reducible rfl
  try simp only [Act.put, List.setIfInBounds_toArray, List.set_cons_zero, List.set_cons_succ]
  refine wpAnyH_take (i := 2) (oi := ⟨some 38, .binOp .eql 9 (.tmp 37) (.const (.string { data := #[97, 98] })) 9, _, _, _, _⟩) (v := ?_) rfl (by kernel_rfl) (by kernel_rfl) (by kernel_rfl) (fun _ _ _ h => h) (Or.inl ⟨by rfl, ?_⟩) (by assumption) ?_
  rotate_left
  · intro w' hSw
    go_simp
    try with_reducible rfl
  try simp only [Act.put, List.setIfInBounds_toArray, List.set_cons_zero, List.set_cons_succ]
  refine wpAnyH_take (i := 3) (oi := ⟨some 39, .move (.tmp 38), _, _, _, _⟩) (v := ?_) rfl (by kernel_rfl) (by kernel_rfl) (by kernel_rfl) (fun _ _ _ h => h) (Or.inl ⟨by rfl, ?_⟩) (by assumption) ?_
  rotate_left
  · intro w' hSw
    go_simp
    try with_reducible rfl
  try simp only [Act.put, List.setIfInBounds_toArray, List.set_cons_zero, List.set_cons_succ]
  refine wpAnyH_take (i := 4) (oi := ⟨some 40, .move (.tmp 4), _, _, _, _⟩) (v := ?_) rfl (by kernel_rfl) (by kernel_rfl) (by kernel_rfl) (fun _ _ _ h => h) (Or.inl ⟨by rfl, ?_⟩) (by assumption) ?_
  rotate_left
  · intro w' hSw
    go_simp
    try with_reducible rfl
  try simp only [Act.put, List.setIfInBounds_toArray, List.set_cons_zero, List.set_cons_succ]
  refine wpAnyH_take (i := 5) (oi := ⟨some 41, .binOp .eql 34 (.tmp 40) (.const (.int .i64 0)) 34, _, _, _, _⟩) (v := ?_) rfl (by kernel_rfl) (by kernel_rfl) (by kernel_rfl) (fun _ _ _ h => h) (Or.inl ⟨by rfl, ?_⟩) (by assumption) ?_
  rotate_left
  · intro w' hSw
    go_simp
    try with_reducible rfl
  try simp only [Act.put, List.setIfInBounds_toArray, List.set_cons_zero, List.set_cons_succ]
  refine wpAnyH_take (i := 6) (oi := ⟨some 42, .pick (.tmp 39) (.tmp 41) (.const (.bool false)), _, _, _, _⟩) (v := ?_) rfl (by kernel_rfl) (by kernel_rfl) (by kernel_rfl) (fun _ _ _ h => h) (Or.inl ⟨by rfl, ?_⟩) (by assumption) ?_
  rotate_left
  · intro w' hSw
    go_simp
    try with_reducible rfl
  try simp only [Act.put, List.setIfInBounds_toArray, List.set_cons_zero, List.set_cons_succ]
  refine wpAnyH_take (i := 7) (oi := ⟨some 43, .move (.tmp 42), _, _, _, _⟩) (v := ?_) rfl (by kernel_rfl) (by kernel_rfl) (by kernel_rfl) (fun _ _ _ h => h) (Or.inl ⟨by rfl, ?_⟩) (by assumption) ?_
  rotate_left
  · intro w' hSw
    go_simp
    try with_reducible rfl
  try simp only [Act.put, List.setIfInBounds_toArray, List.set_cons_zero, List.set_cons_succ]
  refine wpAnyH_take (i := 8) (oi := ⟨some 44, .move (.tmp 5), _, _, _, _⟩) (v := ?_) rfl (by kernel_rfl) (by kernel_rfl) (by kernel_rfl) (fun _ _ _ h => h) (Or.inl ⟨by rfl, ?_⟩) (by assumption) ?_
  rotate_left
  · intro w' hSw
    go_simp
    try with_reducible rfl
  try simp only [Act.put, List.setIfInBounds_toArray, List.set_cons_zero, List.set_cons_succ]
  refine wpAnyH_take (i := 9) (oi := ⟨some 45, .binOp .eql 3 (.tmp 44) (.const (.int .i64 1)) 3, _, _, _, _⟩) (v := ?_) rfl (by kernel_rfl) (by kernel_rfl) (by kernel_rfl) (fun _ _ _ h => h) (Or.inl ⟨by rfl, ?_⟩) (by assumption) ?_
  rotate_left
  · intro w' hSw
    go_simp
    try with_reducible rfl
  try simp only [Act.put, List.setIfInBounds_toArray, List.set_cons_zero, List.set_cons_succ]
  refine wpAnyH_take (i := 10) (oi := ⟨some 46, .pick (.tmp 43) (.tmp 45) (.const (.bool false)), _, _, _, _⟩) (v := ?_) rfl (by kernel_rfl) (by kernel_rfl) (by kernel_rfl) (fun _ _ _ h => h) (Or.inl ⟨by rfl, ?_⟩) (by assumption) ?_
  rotate_left
  · intro w' hSw
    go_simp
    try with_reducible rfl
  try simp only [Act.put, List.setIfInBounds_toArray, List.set_cons_zero, List.set_cons_succ]
  refine wpAnyH_take (i := 11) (oi := ⟨some 47, .move (.tmp 46), _, _, _, _⟩) (v := ?_) rfl (by kernel_rfl) (by kernel_rfl) (by kernel_rfl) (fun _ _ _ h => h) (Or.inl ⟨by rfl, ?_⟩) (by assumption) ?_
  rotate_left
  · intro w' hSw
    go_simp
    try with_reducible rfl
  try simp only [Act.put, List.setIfInBounds_toArray, List.set_cons_zero, List.set_cons_succ]
  refine wpAnyH_take (i := 12) (oi := ⟨some 48, .move (.tmp 6), _, _, _, _⟩) (v := ?_) rfl (by kernel_rfl) (by kernel_rfl) (by kernel_rfl) (fun _ _ _ h => h) (Or.inl ⟨by rfl, ?_⟩) (by assumption) ?_
  rotate_left
  · intro w' hSw
    go_simp
    try with_reducible rfl
  try simp only [Act.put, List.setIfInBounds_toArray, List.set_cons_zero, List.set_cons_succ]
  refine wpAnyH_take (i := 13) (oi := ⟨some 49, .binOp .eql 3 (.tmp 48) (.const (.int .i64 1)) 3, _, _, _, _⟩) (v := ?_) rfl (by kernel_rfl) (by kernel_rfl) (by kernel_rfl) (fun _ _ _ h => h) (Or.inl ⟨by rfl, ?_⟩) (by assumption) ?_
  rotate_left
  · intro w' hSw
    go_simp
    try with_reducible rfl
  try simp only [Act.put, List.setIfInBounds_toArray, List.set_cons_zero, List.set_cons_succ]
  refine wpAnyH_take (i := 14) (oi := ⟨some 50, .pick (.tmp 47) (.tmp 49) (.const (.bool false)), _, _, _, _⟩) (v := ?_) rfl (by kernel_rfl) (by kernel_rfl) (by kernel_rfl) (fun _ _ _ h => h) (Or.inl ⟨by rfl, ?_⟩) (by assumption) ?_
  rotate_left
  · intro w' hSw
    go_simp
    try with_reducible rfl
  try simp only [Act.put, List.setIfInBounds_toArray, List.set_cons_zero, List.set_cons_succ]
  refine wpAnyH_take (i := 15) (oi := ⟨some 51, .move (.tmp 50), _, _, _, _⟩) (v := ?_) rfl (by kernel_rfl) (by kernel_rfl) (by kernel_rfl) (fun _ _ _ h => h) (Or.inl ⟨by rfl, ?_⟩) (by assumption) ?_
  rotate_left
  · intro w' hSw
    go_simp
    try with_reducible rfl
  try simp only [Act.put, List.setIfInBounds_toArray, List.set_cons_zero, List.set_cons_succ]
  refine wpAnyH_take (i := 16) (oi := ⟨some 52, .move (.tmp 8), _, _, _, _⟩) (v := ?_) rfl (by kernel_rfl) (by kernel_rfl) (by kernel_rfl) (fun _ _ _ h => h) (Or.inl ⟨by rfl, ?_⟩) (by assumption) ?_
  rotate_left
  · intro w' hSw
    go_simp
    try with_reducible rfl
  try simp only [Act.put, List.setIfInBounds_toArray, List.set_cons_zero, List.set_cons_succ]
  refine wpAnyH_take (i := 17) (oi := ⟨some 53, .binOp .eql 34 (.tmp 52) (.const (.int .i64 9)) 34, _, _, _, _⟩) (v := ?_) rfl (by kernel_rfl) (by kernel_rfl) (by kernel_rfl) (fun _ _ _ h => h) (Or.inl ⟨by rfl, ?_⟩) (by assumption) ?_
  rotate_left
  · intro w' hSw
    go_simp
    try with_reducible rfl
  try simp only [Act.put, List.setIfInBounds_toArray, List.set_cons_zero, List.set_cons_succ]
  refine wpAnyH_take (i := 18) (oi := ⟨some 54, .pick (.tmp 51) (.tmp 53) (.const (.bool false)), _, _, _, _⟩) (v := ?_) rfl (by kernel_rfl) (by kernel_rfl) (by kernel_rfl) (fun _ _ _ h => h) (Or.inl ⟨by rfl, ?_⟩) (by assumption) ?_
  rotate_left
  · intro w' hSw
    go_simp
    try with_reducible rfl
  try simp only [Act.put, List.setIfInBounds_toArray, List.set_cons_zero, List.set_cons_succ]
  refine wpAnyH_take (i := 19) (oi := ⟨some 55, .move (.tmp 54), _, _, _, _⟩) (v := ?_) rfl (by kernel_rfl) (by kernel_rfl) (by kernel_rfl) (fun _ _ _ h => h) (Or.inl ⟨by rfl, ?_⟩) (by assumption) ?_
  rotate_left
  · intro w' hSw
    go_simp
    try with_reducible rfl
  try simp only [Act.put, List.setIfInBounds_toArray, List.set_cons_zero, List.set_cons_succ]
  refine wpAnyH_take (i := 20) (oi := ⟨some 56, .load 32 (.tmp 2), _, _, _, _⟩) (v := ?_) rfl (by kernel_rfl) (by kernel_rfl) (by kernel_rfl) (fun _ _ _ h => h) (Or.inl ⟨by rfl, ?_⟩) (by assumption) ?_
  rotate_left
  · intro w' hSw
    refine Eq.trans (b := Result.ok (Next.value (.agg (u8s D))) w') ?_ ?_
    · exact op_load_dig (by rfl) (by rfl) HDL.out (range_of_row' ((hSw.block dd (Array.getElem?_eq_some_iff.1 R10.out).1).trans R10.out))
    · with_reducible rfl
  try simp only [Act.put, List.setIfInBounds_toArray, List.set_cons_zero, List.set_cons_succ]
  refine wpAnyH_ready (rs := [21]) (by kernel_rfl) (by simp) ?_
  refine AllReadyH.cons (o := ⟨some 57, .buildSlice 27 2 #[(0, (.const (.int .u8 97))), (1, (.const (.int .u8 98)))], _, _, _, _⟩) rfl (fun K hK => ?_) AllReadyH.nil
  go_simp
  have hS57 : Below w10.heap.size w10 _ := (Below.refl w10.heap.size w10).drew.alloc (Nat.le_refl _) (.cells #[.int .u8 97, .int .u8 98] 5)
  try go_wp2_with fail
  refine hK.out _ _ hS57 (fun hHeld => ?_)
  clear hK K
  try simp only [Act.put, List.setIfInBounds_toArray, List.set_cons_zero, List.set_cons_succ]
  refine wpAnyH_ready (rs := [22]) (by kernel_rfl) (by simp) ?_
  refine AllReadyH.cons (o := ⟨some 58, .convert 27 27 (.tmp 57), _, _, _, _⟩) rfl (fun K hK => ?_) AllReadyH.nil
  have hb58 := (Below.refl w10.heap.size w10).drew.alloc (Nat.le_refl _) (.cells #[.int .u8 97, .int .u8 98] 5 (2, 3))
  have T58 := Lib.hid (Bytes.row (L := [97, 98]) (heap_alloc_new w10.drew (.cells #[.int .u8 97, .int .u8 98] 5 (2, 3))) ab_ok).tx
  have B58 := Lib.hid hb58
  refine wp_convert (v := .slice (some ⟨w10.heap.size, 0, none⟩) 2 2) (w' := w10.drew.alloc (.cells #[.int .u8 97, .int .u8 98] 5 (2, 3))) rfl (kc w10.drew #[.int .u8 97, .int .u8 98] 2 2) ?_
  refine hK.out _ _ hb58 (fun hHeld => ?_)
  clear hK K
  try simp only [Act.put, List.setIfInBounds_toArray, List.set_cons_zero, List.set_cons_succ]
  refine wpAnyH_ready (rs := [23]) (by kernel_rfl) (by simp) ?_
  refine AllReadyH.cons (o := ⟨some 59, .call ⟨.value (.func 19), #[.tmp 58], #[27]⟩, _, _, _, _⟩) rfl (fun K hK => ?_) AllReadyH.nil
  go_simp
  refine (A.sum [97, 98] _ 2 2 _ T58.out (by omega)).mono ?_
  rintro _ w59 ⟨rfl, b59⟩
  rw [← HD.out]
  have B59 := Lib.hid (B58.out.trans (b59.mono B58.out.size))
  clear b59
  try go_wp2_with fail
  refine hK.out _ _ B59.out (fun hHeld => ?_)
  clear hK K
  try simp only [Act.put, List.setIfInBounds_toArray, List.set_cons_zero, List.set_cons_succ]
  refine wpAnyH_take (i := 24) (oi := ⟨some 60, .binOp .eql 32 (.tmp 56) (.tmp 59) 32, _, _, _, _⟩) (v := ?_) rfl (by kernel_rfl) (by kernel_rfl) (by kernel_rfl) (fun _ _ _ h => h) (Or.inl ⟨by rfl, ?_⟩) (by assumption) ?_
  rotate_left
  · intro w' hSw
    refine Eq.trans (b := Result.ok (Next.value (.bool (decide (D = D)))) w') ?_ ?_
    · exact op_eql_dig (x := 56) (y := 59) (by rfl) (by rfl) (by rfl) HDL.out HDL.out w'
    · with_reducible rfl
  try simp only [Act.put, List.setIfInBounds_toArray, List.set_cons_zero, List.set_cons_succ]
  refine wpAnyH_take (i := 25) (oi := ⟨some 61, .pick (.tmp 55) (.tmp 60) (.const (.bool false)), _, _, _, _⟩) (v := ?_) rfl (by kernel_rfl) (by kernel_rfl) (by kernel_rfl) (fun _ _ _ h => h) (Or.inl ⟨by rfl, ?_⟩) (by assumption) ?_
  rotate_left
  · intro w' hSw
    go_simp
    try with_reducible rfl
  try simp only [Act.put, List.setIfInBounds_toArray, List.set_cons_zero, List.set_cons_succ]
  refine wpAnyH_take (i := 26) (oi := ⟨some 0, .assign (.tmp 61), _, _, _, _⟩) (v := ?_) rfl (by kernel_rfl) (by kernel_rfl) (by kernel_rfl) (fun _ _ _ h => h) (Or.inl ⟨by rfl, ?_⟩) (by assumption) ?_
  rotate_left
  · intro w' hSw
    go_simp
    try with_reducible rfl
  try simp only [Act.put, List.setIfInBounds_toArray, List.set_cons_zero]
  refine wpAnyH_done (by kernel_rfl) ?_ _
  go_wp2_with fail
  go_ret
  exact ⟨rfl, S10.out.low.trans (hHeld.mono S10.out.low.size)⟩
end Go.Proofs.Ytlmbicelngpgoaa.Pg

/- The contract of indentureref01.Preimage. -/
namespace Go.Proofs.Ytlmbicelngpgoaa
open Go.RowKit

theorem big_at (n j : Nat) (hj : j < 8) : Sm.big n j = n / 2 ^ (56 - 8 * j) % 256 := by
  unfold Sm.big
  rw [show 8 * (7 - j) = 56 - 8 * j from by omega]
theorem bigs_step (n j : Nat) (hj : j < 8) : (Sm.bigs n).take (j + 1) = (Sm.bigs n).take j ++ [Sm.big n j] := by
  match j, hj with
  | 0, _ => rfl
  | 1, _ => rfl
  | 2, _ => rfl
  | 3, _ => rfl
  | 4, _ => rfl
  | 5, _ => rfl
  | 6, _ => rfl
  | 7, _ => rfl
def RefRel (w : World) (s : Nat) (P : List Nat) (n : Nat) (v i : Value) (wr : World) : Prop :=
  ∃ j : Nat, j ≤ 8 ∧ i = .int .i64 j ∧ wr.ownsRow w.heap.size 5 1 v (s + j) (vals (P ++ (Sm.bigs n).take j)) ∧ Below w.heap.size w wr
set_option maxRecDepth 100000 in
set_option maxHeartbeats 1000000 in
theorem refpre_any (tag : Nat) (_htag : tag < 256) (L : List (List Nat)) (p : Option Addr) (len cap : Nat) (w : World) (hL : Texts w p len cap L) (hl : tot L < 1099511627776) :
    Calls Try.prog 21 #[.int .u8 tag, .slice p len cap] w fun e w' => ∃ q n c, e = .returned (.slice q n c) ∧ w'.ownsRow w.heap.size 5 1 (.slice q n c) n (vals (pre tag L)) ∧ Below w.heap.size w w' := by
  have hsz := hL.size
  have hle := hL.le
  have hlen : len < 1099511627776 := by have := len_le_tot L; omega
  obtain ⟨i5, hi, hi0, hi1, hi2⟩ := info_parts I5
  have HI := Lib.hid hi
  have HI0 := Lib.hid hi0
  have HI1 := Lib.hid hi1
  have HI2 := Lib.hid hi2
  clear hi hi0 hi1 hi2
  have HL := Lib.hid hL
  have HSZ := Lib.hid hsz
  clear hL hsz
  go_enter Try.func21, Try.ntmps21
  go_wp2_with fail
  have hown : (w.alloc (.cells #[.int .u8 tag] 5)).ownsRow w.heap.size 5 1 (.slice (some ⟨w.heap.size, 0, none⟩) 1 1) 1 (vals ([tag].take 1)) := owns_mk (L := [tag]) (heap_alloc_new w _) rfl (Nat.le_refl _) (by unfold maxLen; omega) (Nat.le_refl _)
  have HO0 := Lib.hid hown
  have HB0 := Lib.hid (show Below w.heap.size w (w.alloc (.cells #[.int .u8 tag] 5)) from (Below.refl _ _).alloc (Nat.le_refl _) _)
  clear hown
  go_loopw [5, 6] (fun v i wr => PreRel w tag len L v i wr) (fun _ i _ => len - (intOf i).toNat)
  case atStart => exact ⟨0, by omega, rfl, HO0.out, HB0.out⟩
  case round =>
    obtain ⟨k, hk, rfl, ho, hb⟩ := hrel
    have HO := Lib.hid ho
    have HB := Lib.hid hb
    clear ho hb HO0 HB0
    by_cases hlt : k < len
    · obtain ⟨g, o, hp, hx⟩ := HL.out.at' (by intro e; have := HSZ.out; rw [e] at this; simp at this; omega)
      obtain ⟨q, n, c, h1, h2⟩ := hx k (by have := HSZ.out; omega)
      subst hp
      have e1 := tot_step L k (by have := HSZ.out; omega)
      have e2 := tot_take_le L (k + 1)
      have e3 : n = (L.getD k []).length := h2.size
      have hcell : wr.cell? ⟨g, o + k, none⟩ = some (.slice q n c) := (HB.out.cell (p := ⟨g, o + k, none⟩) (block_lt_of_cell h1)).trans h1
      have HC1 := Lib.hid h1
      have HT := Lib.hid h2
      obtain ⟨s, hs⟩ : ∃ s, s = tot (L.take k) := ⟨_, rfl⟩
      rw [← hs] at HO e1
      have hsn : s + 8 + n < 1099511627776 := by omega
      have HE3 := Lib.hid e3
      have HE1 := Lib.hid e1
      clear hx h1 h2 e1 e2 e3
      go_wp2_with fail
      go_loopw [5, 8] (fun v i wr' => RefRel w s (pre tag (L.take k)) n v i wr') (fun _ i _ => 8 - (intOf i).toNat)
      case atStart => exact ⟨0, by omega, rfl, by rw [List.take_zero, List.append_nil]; exact HO.out, HB.out⟩
      case round =>
        obtain ⟨j, hj, rfl, ho2, hb2⟩ := hrel
        have HO2 := Lib.hid ho2
        have HB2 := Lib.hid hb2
        clear ho2 hb2
        by_cases hj8 : j < 8
        · obtain ⟨y, hy⟩ : ∃ y, y = n / 2 ^ (56 - 8 * j) := ⟨_, rfl⟩
          have hsh : (n : Int) / 2 ^ (56 - 8 * j) = (y : Int) := by rw [hy, Int.natCast_ediv, Int.natCast_pow]; rfl
          have HYY := Lib.hid hy
          clear hy
          go_wp2_with (at_builtin; refine wpList_append_own _ (by rfl) (.tmp 27) (.tmp 36) 27 (by rfl) w.heap.size 5 i5 (.int .u8 0) 1 1 A22 HI.out HI0.out HI1.out HI2.out (by rfl) (by decide) _ (s + j) _ (by rfl) (HO2.out.alloc _) ⟨wr.heap.size, 0, none⟩ 1 1 (vals [y % 256]) (by rfl) (by rfl) (cells_of_row (L := [y % 256]) (heap_alloc_new wr _)) (vals_one _) (by unfold maxLen; omega) (by omega) (by have := HB2.out.size; simp; omega) ?_; intro v4 w4 hown4 hgrow4 _)
          have hb4 : Below w.heap.size w w4 := (HB2.out.alloc HB2.out.size _).grown hgrow4 (by have := HB2.out.size; simp; omega) (fun i hi => ((HO2.out.alloc (.cells (u8s [y % 256]) 5)).lt i hi).1)
          have e : w4.ownsRow w.heap.size 5 1 v4 (s + (j + 1)) (vals (pre tag (L.take k) ++ (Sm.bigs n).take (j + 1))) := by
            rw [bigs_step n j hj8, ← List.append_assoc, vals_append _ [Sm.big n j], big_at n j hj8, ← HYY.out]
            exact hown4
          have HE := Lib.hid e
          have HB4 := Lib.hid hb4
          clear hown4 hgrow4 e hb4
          go_wp2_with fail
          go_roundw
          case rel => exact ⟨j + 1, by omega, by go_num, HE.out, HB4.out⟩
          case measure => simp [intOf]; omega
        · obtain rfl : j = 8 := by omega
          have hcell2 : wr.cell? ⟨g, o + k, none⟩ = some (.slice q n c) := (HB2.out.cell (p := ⟨g, o + k, none⟩) (block_lt_of_cell HC1.out)).trans HC1.out
          have ho8 := HO2.out
          rw [show (Sm.bigs n).take 8 = Sm.bigs n from rfl] at ho8
          have HO8 := Lib.hid ho8
          clear ho8 hcell
          obtain ⟨tk, htk⟩ : ∃ tk, tk = L.getD k [] := ⟨_, rfl⟩
          rw [← htk] at HT HE3 HE1
          have HTK := Lib.hid htk
          clear htk
          rcases HT.out.at' with ⟨hq, hc⟩ | ⟨xt, hq, hxx⟩
          · subst hq
            subst hc
            obtain rfl : n = 0 := by have := HT.out.le; omega
            go_wp2_with (at_builtin; refine wpList_append_own_none (by rfl) (.tmp 38) (.tmp 42) 27 (by rfl) w.heap.size 5 i5 1 A22 HI.out _ (s + 8) _ (by rfl) HO8.out (by rfl) ?_)
            go_roundw
            case rel =>
              refine ⟨k + 1, by omega, by go_num, ?_, HB2.out⟩
              have e := HO8.out
              have hn0 : tk = [] := List.length_eq_zero_iff.1 HE3.out.symm
              rw [HE1.out, pre_step tag L k (by have := HSZ.out; omega), ← HTK.out, part, ← HE3.out, hn0, List.append_nil]
              exact e
            case measure => simp [intOf]; omega
          · subst hq
            clear hxx
            go_wp2_with (at_builtin; refine wpList_append_own _ (by rfl) (.tmp 38) (.tmp 42) 27 (by rfl) w.heap.size 5 i5 (.int .u8 0) 1 1 A22 HI.out HI0.out HI1.out HI2.out (by rfl) (by decide) _ (s + 8) _ (by rfl) HO8.out xt n c (vals tk) (by rfl) (by rw [vals_length, Nat.mul_one]; exact HT.out.size.symm) ((HT.out.later HB2.out).cells) (vals_one _) (by unfold maxLen; omega) (by omega) HB2.out.size ?_; intro v5 w5 hown5 hgrow5 _)
            have hb5 : Below w.heap.size w w5 := HB2.out.grown hgrow5 HB2.out.size (fun i hi => (HO8.out.lt i hi).1)
            rw [← vals_append] at hown5
            have HO5 := Lib.hid hown5
            have HB5 := Lib.hid hb5
            clear hown5 hgrow5 hb5
            go_wp2_with fail
            go_roundw
            case rel =>
              refine ⟨k + 1, by omega, by go_num, ?_, HB5.out⟩
              have e := HO5.out
              rw [HE1.out, pre_step tag L k (by have := HSZ.out; omega), ← HTK.out, part, ← HE3.out, ← List.append_assoc]
              rw [show s + (8 + n) = s + 8 + n from by omega]
              exact e
            case measure => simp [intOf]; omega
    · obtain rfl : len = k := by omega
      go_wp2_with fail
      go_ret
      have e := HO.out
      have h1 : 0 < tot (L.take len) := by simp only [tot, pre, List.length_cons]; omega
      obtain ⟨g, cp, rfl, _, _⟩ := e.form h1
      rw [List.take_of_length_le (by have := HSZ.out; omega)] at e ⊢
      exact ⟨_, _, _, rfl, e, HB.out⟩
end Go.Proofs.Ytlmbicelngpgoaa

/- The contracts of indentureref01.turned, Words and turn. -/
namespace Go.Proofs.Ytlmbicelngpgoaa
open Go.RowKit

set_option maxHeartbeats 1000000 in
theorem turned_any (x n : Nat) (hx : x < 4294967296) (hn : 0 < n) (hn' : n < 32) (w : World) :
    Calls Try.prog 54 #[.int .u32 x, .int .u64 n] w fun e w' => e = .returned (.int .u32 (Sm.rot n x)) ∧ w' = w := by
  have h1 : (0 : Int) ≤ n := by omega
  have h2 : (n : Int) ≤ 32 := by omega
  have h3 : (0 : Int) ≤ 32 - n := by omega
  have h4 : (32 - n : Int) ≤ 32 := by omega
  go_enter Try.func54, Try.ntmps54
  go_wp2
  go_ret
  refine ⟨ret_u32 ?_, rfl⟩
  have e1 : (x : Int) * 2 ^ (32 - n) % 4294967296 = ((x * 2 ^ (32 - n) % 4294967296 : Nat) : Int) := by
    rw [Int.natCast_emod, Int.natCast_mul, Int.natCast_pow]; rfl
  have e2 : (x : Int) / 2 ^ n = ((x / 2 ^ n : Nat) : Int) := by
    rw [Int.natCast_ediv, Int.natCast_pow]; rfl
  rw [e1, e2, u32_or_nat _ _ (Nat.lt_of_le_of_lt (Nat.div_le_self _ _) hx) (Nat.mod_lt _ (by omega))]
  rw [Nat.or_comm]
  rfl
theorem turned2 (x : Nat) (hx : x < 4294967296) (w : World) : Calls Try.prog 54 #[.int .u32 x, .int .u64 2] w fun e w' => e = .returned (.int .u32 (Sm.rot 2 x)) ∧ w' = w := turned_any x 2 hx (by omega) (by omega) w
theorem turned6 (x : Nat) (hx : x < 4294967296) (w : World) : Calls Try.prog 54 #[.int .u32 x, .int .u64 6] w fun e w' => e = .returned (.int .u32 (Sm.rot 6 x)) ∧ w' = w := turned_any x 6 hx (by omega) (by omega) w
theorem turned7 (x : Nat) (hx : x < 4294967296) (w : World) : Calls Try.prog 54 #[.int .u32 x, .int .u64 7] w fun e w' => e = .returned (.int .u32 (Sm.rot 7 x)) ∧ w' = w := turned_any x 7 hx (by omega) (by omega) w
theorem turned11 (x : Nat) (hx : x < 4294967296) (w : World) : Calls Try.prog 54 #[.int .u32 x, .int .u64 11] w fun e w' => e = .returned (.int .u32 (Sm.rot 11 x)) ∧ w' = w := turned_any x 11 hx (by omega) (by omega) w
theorem turned13 (x : Nat) (hx : x < 4294967296) (w : World) : Calls Try.prog 54 #[.int .u32 x, .int .u64 13] w fun e w' => e = .returned (.int .u32 (Sm.rot 13 x)) ∧ w' = w := turned_any x 13 hx (by omega) (by omega) w
theorem turned17 (x : Nat) (hx : x < 4294967296) (w : World) : Calls Try.prog 54 #[.int .u32 x, .int .u64 17] w fun e w' => e = .returned (.int .u32 (Sm.rot 17 x)) ∧ w' = w := turned_any x 17 hx (by omega) (by omega) w
theorem turned18 (x : Nat) (hx : x < 4294967296) (w : World) : Calls Try.prog 54 #[.int .u32 x, .int .u64 18] w fun e w' => e = .returned (.int .u32 (Sm.rot 18 x)) ∧ w' = w := turned_any x 18 hx (by omega) (by omega) w
theorem turned19 (x : Nat) (hx : x < 4294967296) (w : World) : Calls Try.prog 54 #[.int .u32 x, .int .u64 19] w fun e w' => e = .returned (.int .u32 (Sm.rot 19 x)) ∧ w' = w := turned_any x 19 hx (by omega) (by omega) w
theorem turned22 (x : Nat) (hx : x < 4294967296) (w : World) : Calls Try.prog 54 #[.int .u32 x, .int .u64 22] w fun e w' => e = .returned (.int .u32 (Sm.rot 22 x)) ∧ w' = w := turned_any x 22 hx (by omega) (by omega) w
theorem turned25 (x : Nat) (hx : x < 4294967296) (w : World) : Calls Try.prog 54 #[.int .u32 x, .int .u64 25] w fun e w' => e = .returned (.int .u32 (Sm.rot 25 x)) ∧ w' = w := turned_any x 25 hx (by omega) (by omega) w
theorem A50 : Try.prog.underlying 78 = some (.slice 84) := by kernel_rfl
theorem I31 : (Try.prog.info? 84).map (fun i => (i.zero, i.size, i.bytes)) = some (some (.int .u32 0), 1, 4) := by kernel_rfl
set_option maxRecDepth 100000 in
set_option maxHeartbeats 1000000 in
theorem words_any (w : World) :
    Calls Try.prog 36 #[] w fun e w' => e = .returned (.slice (some ⟨w.heap.size, 0, none⟩) 64 64) ∧ w.alloc (.cells (u32s Sm.ks) 84) = w' := by
  go_enter Try.func36, Try.ntmps36
  go_wp2
  go_ret
  exact ⟨rfl, rfl⟩
theorem make64 (w : World) : (Instr.makeSlice 78 (.int .i64 64) (.int .i64 64)).run Try.prog w = .ok (.slice (some ⟨w.heap.size, 0, none⟩) 64 64) (w.alloc (.cells (u32s (zeros 64)) 84)) := by kernel_rfl
/-- A word of which n bytes are there. -/
def pw (B : List Nat) (i : Nat) : Nat → Nat
  | 0 => 0
  | n + 1 => 256 * pw B i n + B.getD (4 * i + n) 0
theorem pw_lt {B : List Nat} (h : Sm.allB B) (i : Nat) : ∀ n, pw B i n < 256 ^ n
  | 0 => by simp [pw]
  | n + 1 => by
    have h1 := pw_lt h i n
    have h2 := Sm.getD_lt h (by omega) (4 * i + n)
    rw [pw, Nat.pow_succ]
    omega
theorem pw_word (B : List Nat) (i : Nat) : pw B i 4 = Sm.word B i := by
  simp only [pw, Sm.word, Nat.add_zero]
  omega
/-- What holds of the words that are being made. -/
structure RW (w wr : World) (g : Nat) (l : List Nat) : Prop where
  below : Below w.heap.size w wr
  row : wr.heap[g]? = some (.cells (u32s l) 84 (0, 0))
  lg : w.heap.size ≤ g
theorem RW.store {w wr : World} {g : Nat} {p q : List Nat} {y : Nat} (h : RW w wr g (p ++ y :: q)) (k : Nat) (hk : p.length = k) (x : Nat) : RW w (wr.setCell ⟨g, k, none⟩ (.int .u32 (x : Nat))) g (p ++ x :: q) :=
  ⟨h.below.setCell h.lg _, by rw [heap_setCell_same _ _ _ _ _ _ h.row, u32s_set p q y x k hk], h.lg⟩
theorem RW.drewN {w wr : World} {g : Nat} {l : List Nat} (h : RW w wr g l) (n : Nat) : RW w (wr.drewN n) g l := ⟨Below.drewN h.below n, h.row, h.lg⟩
def R1Rel (w : World) (g : Nat) (B : List Nat) (i : Value) (wr : World) : Prop := ∃ k : Nat, k ≤ 16 ∧ i = .int .i64 k ∧ RW w wr g (Sm.words B k ++ zeros (64 - k))
def R2Rel (w : World) (g : Nat) (B : List Nat) (k : Nat) (n : Value) (wr : World) : Prop := ∃ m : Nat, m ≤ 4 ∧ n = .int .i64 m ∧ RW w wr g (Sm.words B k ++ pw B k m :: zeros (63 - k))
def R3Rel (w : World) (g : Nat) (B : List Nat) (i : Value) (wr : World) : Prop := ∃ k : Nat, k ≤ 48 ∧ i = .int .i64 (k + 16 : Nat) ∧ RW w wr g (Sm.more (Sm.words B 16) k ++ zeros (48 - k))
theorem slice_of_own32 {w : World} {base n : Nat} {v : Value} {xs : List Value} (h : w.ownsRow base 84 1 v n xs) : ∃ q c, v = .slice q n c := by
  rcases h.2 with ⟨rfl, rfl⟩ | ⟨g, cap, cur, rfl, _⟩
  · exact ⟨_, _, rfl⟩
  · exact ⟨_, _, rfl⟩
theorem own32_some {w : World} {base n c : Nat} {q : Option Addr} {xs : List Value} (h : w.ownsRow base 84 1 (.slice q n c) n xs) (hq : Value.slice q n c ≠ .slice none 0 0) :
    ∃ g C, q = some ⟨g, 0, none⟩ ∧ base ≤ g ∧ w.heap[g]? = some (.cells C 84 (0, 0)) ∧ n ≤ c ∧ C.toList.take n = xs := by
  rcases h.2 with ⟨h1, _⟩ | ⟨g, cap, cur, h1, hg, hh, hle, _, _, ht⟩
  · exact absurd h1 hq
  · simp at h1
    obtain ⟨rfl, rfl⟩ := h1
    rw [Nat.mul_one] at ht
    exact ⟨g, cur, rfl, hg, hh, hle, ht⟩
theorem ch_sub {e f g : Nat} (he : e < 4294967296) (hf : f < 4294967296) (hg : g < 4294967296) : bits .xor .u32 (bits .and .u32 (e : Nat) (f : Nat)) (bits .and .u32 (4294967295 - (e : Int)) (g : Nat)) = ((Sm.ch e f g : Nat) : Int) := by
  rw [show 4294967295 - (e : Int) = ((4294967295 - e : Nat) : Int) from by omega, u32_and_nat _ _ he hf, u32_and_nat _ _ (by omega) hg, u32_xor_nat _ _ (Sm.and_lt hf) (Sm.and_lt hg)]; rfl
theorem one_int {h e : Nat} (he : e < 4294967296) {c k w : Nat} : (((h : Nat) + bits .xor .u32 (bits .xor .u32 (Sm.rot 6 e : Nat) (Sm.rot 11 e : Nat)) (Sm.rot 25 e : Nat) + (c : Nat) + (k : Nat)) % 4294967296 + (w : Nat)) % 4294967296 = (((h + Sm.b1 e + c + k + w) % 4294967296 : Nat) : Int) := by
  rw [Sm.b1_int he]; omega
theorem two_int {a m : Nat} (ha : a < 4294967296) : (bits .xor .u32 (bits .xor .u32 (Sm.rot 2 a : Nat) (Sm.rot 13 a : Nat)) (Sm.rot 22 a : Nat) + (m : Nat)) % 4294967296 = (((Sm.b0 a + m) % 4294967296 : Nat) : Int) := by
  rw [Sm.b0_int ha]; omega
theorem add8_get (v u : Sm.V8) (k : Nat) (hk : k < 8) : (Sm.add8 v u).list.getD k 0 = (v.list.getD k 0 + u.list.getD k 0) % 4294967296 := by
  match k, hk with
  | 0, _ => rfl
  | 1, _ => rfl
  | 2, _ => rfl
  | 3, _ => rfl
  | 4, _ => rfl
  | 5, _ => rfl
  | 6, _ => rfl
  | 7, _ => rfl
theorem v8_all {v : Sm.V8} (h : v.ok) : Sm.allW v.list := by
  obtain ⟨h1, h2, h3, h4, h5, h6, h7, h8⟩ := h
  intro x hx
  simp only [Sm.V8.list, List.mem_cons, List.not_mem_nil, or_false] at hx
  rcases hx with rfl | rfl | rfl | rfl | rfl | rfl | rfl | rfl <;> assumption
theorem v8_lt {v : Sm.V8} (h : v.ok) (k : Nat) : v.list.getD k 0 < 4294967296 := Sm.getD_lt (v8_all h) (by omega) k
def R5Rel (w : World) (v U : Sm.V8) (g : Nat) (i : Value) (wr : World) : Prop :=
  ∃ k : Nat, k ≤ 8 ∧ i = .int .i64 k ∧ wr.heap[g]? = some (.cells (u32s ((Sm.add8 v U).list.take k ++ U.list.drop k)) 84 (0, 0)) ∧ Below w.heap.size w wr
def R4Rel (w : World) (K W : List Nat) (v : Sm.V8) (s i : Value) (wr : World) : Prop :=
  ∃ (k g c : Nat) (C : Array Value), k ≤ 64 ∧ i = .int .i64 k ∧ s = .slice (some ⟨g, 0, none⟩) 8 c ∧ 8 ≤ c ∧ wr.heap[g]? = some (.cells C 84 (0, 0)) ∧ C.toList.take 8 = w32 (Sm.rounds K W v k).list ∧
    (0 < k → c = 8 ∧ C = u32s (Sm.rounds K W v k).list) ∧ w.heap.size < g ∧ RW w wr w.heap.size W
/-- A callee that leaves the world alone, called behind draws. -/
theorem calls_later {f : FuncId} {args : Array Value} {w : World} {a n : Nat} {v : Value} (h : Calls Try.prog f args (w.drewN (a + n)) fun e w' => e = .returned v ∧ w' = w.drewN (a + n)) :
    Calls Try.prog f args (w.drewN (a + n)) fun e w' => e = .returned v ∧ ∃ m, w' = w.drewN (a + m) := by
  refine h.mono fun e w' hw => ⟨hw.1, n, hw.2⟩
set_option maxRecDepth 100000 in
set_option maxHeartbeats 4000000 in
theorem refturn_any (v : Sm.V8) (hv : v.ok) (B K : List Nat) (hB : Sm.allB B) (hK : Sm.allW K) (lB : 64 ≤ B.length) (lK : K.length = 64) (gh gb ob cb gk : Nat) (_hcb : 64 ≤ cb) (w : World)
    (hh : w.heap[gh]? = some (.cells (u32s v.list) 84 (0, 0))) (hb : bytesAt w gb ob B) (hk : w.heap[gk]? = some (.cells (u32s K) 84 (0, 0))) :
    Calls Try.prog 46 #[.slice (some ⟨gh, 0, none⟩) 8 8, .slice (some ⟨gb, ob, none⟩) 64 cb, .slice (some ⟨gk, 0, none⟩) 64 64] w
      fun e w' => ∃ g, e = .returned (.slice (some ⟨g, 0, none⟩) 8 8) ∧ w'.heap[g]? = some (.cells (u32s (Sm.turn K (Sm.sched B) v).list) 84 (0, 0)) ∧ w.heap.size ≤ g ∧ Below w.heap.size w w' := by
  have HH := Lib.hid hh
  have HB := Lib.hid hb
  have HK := Lib.hid hk
  have HBO := Lib.hid hB
  have HKO := Lib.hid hK
  have LB := Lib.hid lB
  have LK := Lib.hid lK
  have HV := Lib.hid hv
  clear hh hb hk hB hK lB lK hv
  have mk := fun w => make64 w
  go_enter Try.func46, Try.ntmps46
  go_wp2_with fail
  have h0 : RW w (w.alloc (.cells (u32s (zeros 64)) 84)) w.heap.size (zeros 64) := ⟨(Below.refl _ _).alloc (Nat.le_refl _) _, heap_alloc_new w _, Nat.le_refl _⟩
  have H0 := Lib.hid h0
  clear h0 mk
  go_loopw [8, 9] (fun i _ wr => R1Rel w w.heap.size B i wr) (fun i _ _ => 16 - (intOf i).toNat)
  case atStart => exact ⟨0, by omega, rfl, H0.out⟩
  case round =>
    obtain ⟨k, hk, rfl, hs⟩ := hrel
    have HS := Lib.hid hs
    clear hs H0
    by_cases hlt : k < 16
    · have hkd : decide ((k : Int) < 16) = true := decide_eq_true (by omega)
      go_wp2_with fail
      obtain ⟨wo, rfl⟩ : ∃ wo : World, wo = wr := ⟨_, rfl⟩
      go_loopw [9] (fun n wr => R2Rel w w.heap.size B k n wr) (fun n _ => 4 - (intOf n).toNat)
      case atStart =>
        refine ⟨0, by omega, rfl, ?_⟩
        have := HS.out
        rw [zeros_succ (show 0 < 64 - k from by omega), show 64 - k - 1 = 63 - k from by omega] at this
        exact this
      case round =>
        obtain ⟨m, hm, rfl, hs2⟩ := hrel
        have HS2 := Lib.hid hs2
        clear hs2
        by_cases hlm : m < 4
        · have hc1 : wr.cell? ⟨w.heap.size, k, none⟩ = some (.int .u32 (pw B k m : Nat)) := by
            have := u32s_cell HS2.out.row k (by simp [Sm.length_words])
            rw [List.getD_eq_getElem?_getD, List.getElem?_append_right (by rw [Sm.length_words]; exact Nat.le_refl _), Sm.length_words, Nat.sub_self] at this
            exact this
          have hf1 : wr.frozen? ⟨w.heap.size, k, none⟩ = false := frozen_of_row wr _ k _ _ HS2.out.row
          have hbl : gb < w.heap.size := block_lt_of_cell (HB.out 0 (by have := LB.out; omega))
          have hc2 : wr.cell? ⟨gb, ob + (4 * k + m), none⟩ = some (.int .u8 (B.getD (4 * k + m) 0 : Nat)) := (HS2.out.below.cell (p := ⟨gb, ob + (4 * k + m), none⟩) hbl).trans (HB.out _ (by have := LB.out; omega))
          have hpl : pw B k m < 16777216 := Nat.lt_of_lt_of_le (pw_lt HBO.out k m) (Nat.le_trans (Nat.pow_le_pow_right (by omega) (show m ≤ 3 from by omega)) (by decide))
          have hbb : B.getD (4 * k + m) 0 < 256 := Sm.getD_lt HBO.out (by omega) _
          obtain ⟨P, hP⟩ : ∃ P, P = pw B k m := ⟨_, rfl⟩
          obtain ⟨b, hbd⟩ : ∃ b, b = B.getD (4 * k + m) 0 := ⟨_, rfl⟩
          rw [← hP] at hc1 hpl
          rw [← hbd] at hc2 hbb
          have HP := Lib.hid hP
          have HBD := Lib.hid hbd
          have hk0 : (0 : Int) ≤ k := by omega
          have hk1 : (k : Int) < 64 := by omega
          have q1 : IntKind.i64.wrap (4 * (k : Int)) = 4 * (k : Int) := IntWalk.i64_in _ (by omega)
          have q2 : IntKind.i64.wrap (4 * (k : Int) + m) = 4 * (k : Int) + m := IntWalk.i64_in _ (by omega)
          have q3 : (0 : Int) ≤ 4 * (k : Int) + m := by omega
          have q4 : 4 * (k : Int) + m < 64 := by omega
          have q5 : (4 * (k : Int) + m).toNat = 4 * k + m := by omega
          have q6 : IntKind.u32.wrap (256 * (P : Int)) = 256 * (P : Int) := by rw [IntKind.wrap_u32']; omega
          have q7 : IntKind.u32.wrap (256 * (P : Int) + b) = 256 * (P : Int) + b := by rw [IntKind.wrap_u32']; omega
          clear hP hbd hbl
          go_wp2_with fail
          go_still_tail 17, (by kernel_rfl)
          go_wp2_with fail
          go_roundw
          case rel =>
            have hst : pw B k (m + 1) = 256 * P + b := by rw [pw, ← HP.out, ← HBD.out]
            refine ⟨m + 1, by omega, by go_num, ?_⟩
            rw [hst, show 256 * (P : Int) + (b : Int) = ((256 * P + b : Nat) : Int) from by omega]
            have h2 := HS2.out
            rw [← HP.out] at h2
            exact (h2.store k (Sm.length_words B k) (256 * P + b)).drewN 1
          case measure => simp [intOf]; omega
        · obtain rfl : m = 4 := by omega
          go_wp2_with fail
          go_roundw
          case rel =>
            refine ⟨k + 1, by omega, by go_num, ?_⟩
            have := HS2.out
            rw [pw_word] at this
            rw [Sm.words, List.append_assoc, show 64 - (k + 1) = 63 - k from by omega]
            exact this
          case measure => simp [intOf]; omega
    · have hk16 : k = 16 := by omega
      have hkd : decide ((k : Int) < 16) = false := decide_eq_false (by omega)
      have hs3 : R3Rel w w.heap.size B (.int .i64 16) wr := by
        have := HS.out
        rw [hk16] at this
        exact ⟨0, by omega, rfl, this⟩
      have HS3 := Lib.hid hs3
      clear hs3 HS hk16
      obtain ⟨kk, hkk⟩ : ∃ kk : Int, kk = (k : Int) := ⟨_, rfl⟩
      rw [← hkk] at hkd ⊢
      clear hkk hk hlt
      go_wp2_with fail
      go_loopw [10, 11, 12] (fun i _ _ wr => R3Rel w w.heap.size B i wr) (fun i _ _ _ => 64 - (intOf i).toNat)
      case atStart => exact HS3.out
      case round =>
        obtain ⟨k, hk, rfl, hs⟩ := hrel
        have HS2 := Lib.hid hs
        clear hs HS3
        obtain ⟨j, hj⟩ : ∃ j, j = k + 16 := ⟨_, rfl⟩
        rw [← hj]
        by_cases hlt : k < 48
        · obtain ⟨l, hl⟩ : ∃ l, l = Sm.more (Sm.words B 16) k := ⟨_, rfl⟩
          have hll : l.length = j := by rw [hl, Sm.length_more, Sm.length_words]; omega
          have hlw : Sm.allW l := by rw [hl]; exact Sm.more_ok (Sm.words_ok HBO.out 16) k
          have hs2 := HS2.out
          rw [← hl] at hs2
          have cell : ∀ i, i < j → wr.cell? ⟨w.heap.size, i, none⟩ = some (.int .u32 (l.getD i 0 : Nat)) := fun i hi => by
            have := u32s_cell hs2.row i (by rw [List.length_append, hll]; omega)
            rw [getD_left _ _ (by omega)] at this
            exact this
          have g0 := cell (j - 16) (by omega)
          have g1 := cell (j - 15) (by omega)
          have g9 := cell (j - 7) (by omega)
          have g14 := cell (j - 2) (by omega)
          have hst : wr.cell? ⟨w.heap.size, j, none⟩ = _ := u32s_cell hs2.row j (by simp [hll, zeros]; omega)
          have hfr : wr.frozen? ⟨w.heap.size, j, none⟩ = false := frozen_of_row wr _ j _ _ hs2.row
          obtain ⟨x0, hx0⟩ : ∃ x, x = l.getD (j - 16) 0 := ⟨_, rfl⟩
          obtain ⟨x1, hx1⟩ : ∃ x, x = l.getD (j - 15) 0 := ⟨_, rfl⟩
          obtain ⟨x9, hx9⟩ : ∃ x, x = l.getD (j - 7) 0 := ⟨_, rfl⟩
          obtain ⟨x14, hx14⟩ : ∃ x, x = l.getD (j - 2) 0 := ⟨_, rfl⟩
          have w0 : x0 < 4294967296 := by rw [hx0]; exact Sm.getD_lt hlw (by omega) _
          have w1 : x1 < 4294967296 := by rw [hx1]; exact Sm.getD_lt hlw (by omega) _
          have w9 : x9 < 4294967296 := by rw [hx9]; exact Sm.getD_lt hlw (by omega) _
          have w14 : x14 < 4294967296 := by rw [hx14]; exact Sm.getD_lt hlw (by omega) _
          rw [← hx0] at g0
          rw [← hx1] at g1
          rw [← hx9] at g9
          rw [← hx14] at g14
          have X0 := Lib.hid hx0
          have X1 := Lib.hid hx1
          have X9 := Lib.hid hx9
          have X14 := Lib.hid hx14
          have HL := Lib.hid hl
          have HLL := Lib.hid hll
          have HJ := Lib.hid hj
          have H2 := Lib.hid hs2
          have j16 : 16 ≤ j := by omega
          have j64 : j < 64 := by omega
          have r15 : (0 : Int) ≤ (j : Int) - 15 := by omega
          have r2 : (0 : Int) ≤ (j : Int) - 2 := by omega
          have q15 : IntKind.i64.wrap ((j : Int) - 15) = (j : Int) - 15 := IntWalk.i64_in _ (by omega)
          have q2 : IntKind.i64.wrap ((j : Int) - 2) = (j : Int) - 2 := IntWalk.i64_in _ (by omega)
          have p15 : ((j : Int) - 15).toNat = j - 15 := by omega
          have p2 : ((j : Int) - 2).toNat = j - 2 := by omega
          have t15 : (j : Int) - 15 < 64 := by omega
          have t2 : (j : Int) - 2 < 64 := by omega
          have u15 : (15 : Int) ≤ j := by omega
          have u2 : (2 : Int) ≤ j := by omega
          clear hx0 hx1 hx9 hx14 hl hll hlw hs2 cell hj hk hlt
          go_wp2_with fail
          go_quiet (fail)
          go_wp2_with fail
          generalize hW2 : wr.drewN nq = W2
          have f0 : W2.cell? ⟨w.heap.size, j - 16, none⟩ = some (.int .u32 (x0 : Nat)) := by rw [← hW2]; exact g0
          have f9 : W2.cell? ⟨w.heap.size, j - 7, none⟩ = some (.int .u32 (x9 : Nat)) := by rw [← hW2]; exact g9
          have fst : W2.cell? ⟨w.heap.size, j, none⟩ = some (.int .u32 ((l ++ zeros (48 - k)).getD j 0 : Nat)) := by rw [← hW2]; exact hst
          have ffr : W2.frozen? ⟨w.heap.size, j, none⟩ = false := by rw [← hW2]; exact hfr
          have HS4 : RW w W2 w.heap.size (l ++ zeros (48 - k)) := by rw [← hW2]; exact H2.out.drewN nq
          have HS5 := Lib.hid HS4
          clear hW2 g0 g1 g9 g14 hst hfr HS4 H2 q15 q2 p15 p2
          have q16 : IntKind.i64.wrap ((j : Int) - 16) = (j : Int) - 16 := IntWalk.i64_in _ (by omega)
          have q7 : IntKind.i64.wrap ((j : Int) - 7) = (j : Int) - 7 := IntWalk.i64_in _ (by omega)
          have p16 : ((j : Int) - 16).toNat = j - 16 := by omega
          have p7 : ((j : Int) - 7).toNat = j - 7 := by omega
          have r16 : (16 : Int) ≤ j := by omega
          have r7 : (7 : Int) ≤ j := by omega
          have jj : (j : Int) < 64 := by omega
          have t16 : (j : Int) - 16 < 64 := by omega
          have t7 : (j : Int) - 7 < 64 := by omega
          go_still_tail 32, (by kernel_rfl)
          still_call (turned_any x1 7 w1 (by omega) (by omega) _)
          repeat still_step
          still_call (turned_any x1 18 w1 (by omega) (by omega) _)
          repeat still_step
          still_call (turned_any x14 17 w14 (by omega) (by omega) _)
          repeat still_step
          still_call (turned_any x14 19 w14 (by omega) (by omega) _)
          repeat still_step
          refine wpStill_nil ?_
          clear q16 q7 p16 p7
          go_wp2_with fail
          go_roundw
          case rel =>
            rw [Sm.s0_int w1, Sm.s1_int w14]
            have ej := HJ.out
            have e0 : j - 16 = k := by omega
            have e1 : j - 15 = k + 1 := by omega
            have e9 : j - 7 = k + 9 := by omega
            have e14 : j - 2 = k + 14 := by omega
            have ev : (((x0 : Nat) : Int) + (Sm.s0 x1 : Nat) + (x9 : Nat) + (Sm.s1 x14 : Nat)) % 4294967296 = (((x0 + Sm.s0 x1 + x9 + Sm.s1 x14) % 4294967296 : Nat) : Int) := by omega
            rw [ev]
            refine ⟨k + 1, by omega, by rw [ej]; exact congrArg (Value.int .i64) (by omega), ?_⟩
            have e : Sm.more (Sm.words B 16) (k + 1) ++ zeros (48 - (k + 1)) = l ++ ((x0 + Sm.s0 x1 + x9 + Sm.s1 x14) % 4294967296) :: zeros (48 - (k + 1)) := by
              rw [Sm.more, ← HL.out, X0.out, X1.out, X9.out, X14.out, e0, e1, e9, e14, List.append_assoc]; rfl
            rw [e]
            refine (RW.store (y := 0) ?_ j HLL.out _).drewN 1
            rw [show 48 - (k + 1) = 48 - k - 1 from by omega, ← zeros_succ (by omega)]
            exact HS5.out
          case measure => simp [intOf]; omega
        · have hk48 : k = 48 := by omega
          have hw : RW w wr w.heap.size (Sm.sched B) := by
            have := HS2.out
            rw [hk48, show zeros (48 - 48) = [] from rfl, List.append_nil] at this
            exact this
          have HW := Lib.hid hw
          have hjd : decide ((j : Int) < 64) = false := decide_eq_false (by omega)
          have hjn : ¬ (j : Int) < 64 := by omega
          clear hk48 hw HS2 hk hlt hj
          obtain ⟨i5, hi, hi0, hi1, hi2⟩ := info_parts I31
          have HI := Lib.hid hi
          have HI0 := Lib.hid hi0
          have HI1 := Lib.hid hi1
          have HI2 := Lib.hid hi2
          clear hi hi0 hi1 hi2
          have hE : (wr.alloc (.cells #[] 84)).ownsRow wr.heap.size 84 1 (.slice (some ⟨wr.heap.size, 0, none⟩) 0 0) 0 [] := World.ownsRow_made wr #[] 0 (Nat.le_refl _) (by unfold maxLen; decide) rfl
          have HE := Lib.hid hE
          have hcl : ∀ j u, (w32 v.list)[j]? = some u → (wr.alloc (.cells #[] 84)).cell? ((⟨gh, 0, none⟩ : Addr).add j) = some u := fun j u hu => by
            have h1 := (HW.out.below.block gh (Array.getElem?_eq_some_iff.1 HH.out).1).trans HH.out
            have h2 := (Below.heap_alloc wr (.cells #[] 84) gh (Array.getElem?_eq_some_iff.1 h1).1).trans h1
            rw [Addr.add_mid, Nat.zero_add, cell_of_row _ gh j _ _ _ h2, ← Array.getElem?_toList]
            rw [← w32_toArray]
            exact hu
          have HCL := Lib.hid hcl
          clear hE hcl
          go_wp2_with (at_builtin; refine wpList_append_own _ (by rfl) (.tmp 92) (.tmp 93) 78 (by rfl) wr.heap.size 84 i5 (.int .u32 0) 1 4 A50 HI.out HI0.out HI1.out HI2.out (by rfl) (by decide) _ 0 [] (by rfl) HE.out ⟨gh, 0, none⟩ 8 8 (w32 v.list) (by rfl) (by rfl) HCL.out (u32_of_w32 _) (by unfold maxLen; decide) (by decide) (by simp) ?_; intro v2 w2 hown2 hgrow2 hnil2)
          obtain ⟨qv, cv, hv2⟩ := slice_of_own32 hown2
          have hown3 := hown2
          rw [hv2] at hown3
          obtain ⟨gv, C0, rfl, hgv, hrv, hcv, htv⟩ := own32_some hown3 (fun e => by
            rw [← hv2] at e
            have := (hnil2.1 e).1
            simp at this)
          have hB2 : Below w.heap.size w w2 := HW.out.below.trans ((((Below.refl wr.heap.size wr).alloc (Nat.le_refl _) _).grown hgrow2 (by simp) (fun k hk => by simp [Value.ownBlock] at hk; omega)).mono HW.out.below.size)
          have hwl : w.heap.size < wr.heap.size := (Array.getElem?_eq_some_iff.1 HW.out.row).1
          have hW2 : RW w w2 w.heap.size (Sm.sched B) := ⟨hB2, (hgrow2.block _ (by simp; omega) (by simp [Value.ownBlock]; omega)).trans ((Below.heap_alloc _ _ _ hwl).trans HW.out.row), Nat.le_refl _⟩
          have hv3 : v2 = .slice (some ⟨gv, 0, none⟩) 8 cv := hv2
          rw [hv3]
          have hst : R4Rel w K (Sm.sched B) v (.slice (some ⟨gv, 0, none⟩) 8 cv) (.int .i64 0) w2 := ⟨0, gv, cv, C0, by omega, rfl, rfl, by omega, hrv, htv, fun h => absurd h (by omega), by omega, hW2⟩
          have HST := Lib.hid hst
          clear hown2 hown3 hgrow2 hnil2 hv2 hv3 hgv hrv hcv htv hB2 hwl hW2 hst HE HCL HW
          have lsch := Sm.length_sched B
          have wsch := Sm.sched_ok HBO.out
          obtain ⟨W, hWd⟩ : ∃ W, W = Sm.sched B := ⟨_, rfl⟩
          have hst' := HST.out
          rw [← hWd] at hst' lsch wsch
          clear HST
          have HST := Lib.hid hst'
          have LW := Lib.hid lsch
          have WW := Lib.hid wsch
          have HWD := Lib.hid hWd
          clear lsch wsch hWd hst'
          go_loopw [13, 14, 15, 16, 17, 18] (fun s i _ _ _ _ wr => R4Rel w K W v s i wr) (fun _ i _ _ _ _ _ => 64 - (intOf i).toNat)
          case atStart => exact HST.out
          case round =>
            obtain ⟨k, g, c, C, hk, rfl, rfl, hc8, hrow, htk, hfin, hgw, hrw⟩ := hrel
            have HR := Lib.hid hrow
            have HTK := Lib.hid htk
            have HFIN := Lib.hid hfin
            have HRW := Lib.hid hrw
            have HGW := Lib.hid hgw
            clear hrow htk hfin hrw HST hgw
            by_cases hlt : k < 64
            · obtain ⟨u, hu⟩ : ∃ u, u = Sm.rounds K W v k := ⟨_, rfl⟩
              have huok : u.ok := by rw [hu]; exact Sm.rounds_ok HV.out k
              have hcell : ∀ i, i < 8 → wr.cell? ⟨g, i, none⟩ = some (.int .u32 (u.list.getD i 0 : Nat)) := fun i hi => by
                rw [cell_of_row wr g i _ _ _ HR.out, ← Array.getElem?_toList]
                have h1 := congrArg (·[i]?) HTK.out
                simp only [List.getElem?_take_of_lt hi] at h1
                rw [h1, ← hu]
                simp [w32, List.getD_eq_getElem?_getD, show i < u.list.length from hi]
              have HU := Lib.hid hu
              obtain ⟨ua, ub, uc, ud, ue, uf, ug, uh⟩ := u
              have c0 := hcell 0 (by omega)
              have c1 := hcell 1 (by omega)
              have c2 := hcell 2 (by omega)
              have c3 := hcell 3 (by omega)
              have c4 := hcell 4 (by omega)
              have c5 := hcell 5 (by omega)
              have c6 := hcell 6 (by omega)
              have c7 := hcell 7 (by omega)
              have HO := Lib.hid huok
              obtain ⟨ha, hb, hc, hd, he, hf, hg, hh⟩ := huok
              simp only [Sm.V8.list, List.getD_cons_zero, List.getD_cons_succ] at c0 c1 c2 c3 c4 c5 c6 c7 ha hb hc hd he hf hg hh
              have cK : wr.cell? ⟨gk, k, none⟩ = some (.int .u32 (K.getD k 0 : Nat)) := (HRW.out.below.cell (p := ⟨gk, k, none⟩) (Array.getElem?_eq_some_iff.1 HK.out).1).trans (u32s_cell HK.out k (by rw [LK.out]; exact hlt))
              have cW : wr.cell? ⟨w.heap.size, k, none⟩ = some (.int .u32 (W.getD k 0 : Nat)) := u32s_cell HRW.out.row k (by rw [LW.out]; exact hlt)
              have bK : K.getD k 0 < 4294967296 := Sm.getD_lt HKO.out (by omega) k
              have bW : W.getD k 0 < 4294967296 := Sm.getD_lt WW.out (by omega) k
              obtain ⟨kk1, hkk1⟩ : ∃ x, x = K.getD k 0 := ⟨_, rfl⟩
              obtain ⟨ww1, hww1⟩ : ∃ x, x = W.getD k 0 := ⟨_, rfl⟩
              rw [← hkk1] at cK bK
              rw [← hww1] at cW bW
              have HKK := Lib.hid hkk1
              have HWW := Lib.hid hww1
              have i4 : (4 : Int) < 8 := by omega
              have kd : decide ((k : Int) < 64) = true := decide_eq_true (by omega)
              have k0 : (0 : Int) ≤ k := by omega
              have k64 : (k : Int) < 64 := by omega
              have qs : IntKind.u32.wrap (4294967295 - (ue : Int)) = 4294967295 - (ue : Int) := IntWalk.u32_in _ (by omega)
              clear hu hcell hkk1 hww1
              go_wp2_with fail
              go_quiet (fail)
              go_wp2_with fail
              rw [ch_sub he hf hg]
              go_quiet ((go_at_call 54; first | (with_reducible exact calls_later (turned6 ue he _)) | (with_reducible exact calls_later (turned11 ue he _)) | (with_reducible exact calls_later (turned25 ue he _))))
              go_wp2_with fail
              rw [one_int he]
              have ht1l : (uh + Sm.b1 ue + Sm.ch ue uf ug + kk1 + ww1) % 4294967296 < 4294967296 := Nat.mod_lt _ (by omega)
              obtain ⟨T1, hT1⟩ : ∃ T1, T1 = (uh + Sm.b1 ue + Sm.ch ue uf ug + kk1 + ww1) % 4294967296 := ⟨_, rfl⟩
              rw [← hT1] at ht1l ⊢
              have HT1 := Lib.hid hT1
              clear hT1
              go_quiet (fail)
              go_wp2_with fail
              rw [Sm.mj_int ha hb hc]
              go_quiet ((go_at_call 54; first | (with_reducible exact calls_later (turned2 ua ha _)) | (with_reducible exact calls_later (turned13 ua ha _)) | (with_reducible exact calls_later (turned22 ua ha _))))
              go_wp2_with fail
              rw [two_int ha]
              have ht2l : (Sm.b0 ua + Sm.mj ua ub uc) % 4294967296 < 4294967296 := Nat.mod_lt _ (by omega)
              obtain ⟨T2, hT2⟩ : ∃ T2, T2 = (Sm.b0 ua + Sm.mj ua ub uc) % 4294967296 := ⟨_, rfl⟩
              rw [← hT2] at ht2l ⊢
              have HT2 := Lib.hid hT2
              clear hT2
              simp only [World.drewN_drewN]
              generalize hW2 : World.drewN wr _ = W2
              have d0 : W2.cell? ⟨g, 0, none⟩ = some (.int .u32 (ua : Nat)) := by rw [← hW2]; exact c0
              have d1 : W2.cell? ⟨g, 1, none⟩ = some (.int .u32 (ub : Nat)) := by rw [← hW2]; exact c1
              have d2 : W2.cell? ⟨g, 2, none⟩ = some (.int .u32 (uc : Nat)) := by rw [← hW2]; exact c2
              have d3 : W2.cell? ⟨g, 3, none⟩ = some (.int .u32 (ud : Nat)) := by rw [← hW2]; exact c3
              have d4 : W2.cell? ⟨g, 4, none⟩ = some (.int .u32 (ue : Nat)) := by rw [← hW2]; exact c4
              have d5 : W2.cell? ⟨g, 5, none⟩ = some (.int .u32 (uf : Nat)) := by rw [← hW2]; exact c5
              have d6 : W2.cell? ⟨g, 6, none⟩ = some (.int .u32 (ug : Nat)) := by rw [← hW2]; exact c6
              have d7 : W2.cell? ⟨g, 7, none⟩ = some (.int .u32 (uh : Nat)) := by rw [← hW2]; exact c7
              have HRW2 := Lib.hid (show RW w W2 w.heap.size W from by rw [← hW2]; exact HRW.out.drewN _)
              clear hW2 c0 c1 c2 c3 c4 c5 c6 c7 cK cW
              go_still_tail 26, (by kernel_rfl)
              go_wp2_with fail
              go_roundw
              case rel =>
                have e1 : ((T1 : Int) + (T2 : Int)) % 4294967296 = (((T1 + T2) % 4294967296 : Nat) : Int) := by omega
                have e2 : ((ud : Int) + (T1 : Int)) % 4294967296 = (((ud + T1) % 4294967296 : Nat) : Int) := by omega
                rw [e1, e2]
                have hC : (#[.int .u32 (((T1 + T2) % 4294967296 : Nat) : Int), .int .u32 (ua : Nat), .int .u32 (ub : Nat), .int .u32 (uc : Nat), .int .u32 (((ud + T1) % 4294967296 : Nat) : Int), .int .u32 (ue : Nat), .int .u32 (uf : Nat), .int .u32 (ug : Nat)] : Array Value) = u32s (Sm.rounds K W v (k + 1)).list := by
                  rw [Sm.rounds, ← HU.out, ← HKK.out, ← HWW.out, HT1.out, HT2.out]
                  rfl
                rw [hC]
                refine ⟨k + 1, W2.heap.size, 8, _, by omega, by go_num, rfl, Nat.le_refl _, heap_alloc_new W2 _, rfl, fun _ => ⟨rfl, rfl⟩, (Array.getElem?_eq_some_iff.1 HRW2.out.row).1, ?_⟩
                have hbl := HRW2.out.below
                have hlt2 := (Array.getElem?_eq_some_iff.1 HRW2.out.row).1
                exact (show RW w (W2.alloc _) w.heap.size W from ⟨hbl.alloc hbl.size _, (Below.heap_alloc _ _ _ hlt2).trans HRW2.out.row, Nat.le_refl _⟩).drewN 1
              case measure => simp [intOf]; omega
            · have hk64 : k = 64 := by omega
              obtain ⟨hc, hC⟩ := HFIN.out (by omega)
              have hr := HR.out
              rw [hC, hk64] at hr
              subst hc
              obtain ⟨U, hU⟩ : ∃ U, U = Sm.rounds K W v 64 := ⟨_, rfl⟩
              rw [← hU] at hr
              have hUok : U.ok := by rw [hU]; exact Sm.rounds_ok HV.out 64
              have hst5 : R5Rel w v U g (.int .i64 0) wr := ⟨0, by omega, rfl, hr, HRW.out.below⟩
              have HST5 := Lib.hid hst5
              have HU := Lib.hid hU
              have HUO := Lib.hid hUok
              have hkd4 : decide ((k : Int) < 64) = false := decide_eq_false (by omega)
              obtain ⟨k4, hk4⟩ : ∃ kk : Int, kk = (k : Int) := ⟨_, rfl⟩
              rw [← hk4] at hkd4 ⊢
              clear hk64 hC hr hU hUok hst5 hk4 hk hlt HFIN HR HTK hc8
              go_wp2_with fail
              go_loopw [19] (fun i wr => R5Rel w v U g i wr) (fun i _ => 8 - (intOf i).toNat)
              case atStart => exact HST5.out
              case round =>
                obtain ⟨k, hk, rfl, hrow, hbl⟩ := hrel
                have HR5 := Lib.hid hrow
                have HB5 := Lib.hid hbl
                clear hrow hbl HST5
                by_cases hlt : k < 8
                · have hdc : U.list.drop k = U.list.getD k 0 :: U.list.drop (k + 1) := by
                    rw [List.drop_eq_getElem_cons (show k < U.list.length from hlt), List.getD_eq_getElem?_getD, List.getElem?_eq_getElem (show k < U.list.length from hlt)]; rfl
                  have hr5 := HR5.out
                  rw [hdc] at hr5
                  have htl : ((Sm.add8 v U).list.take k).length = k := by rw [List.length_take]; exact Nat.min_eq_left (Nat.le_of_lt hlt)
                  have e1 : wr.cell? ⟨g, k, none⟩ = some (.int .u32 (U.list.getD k 0 : Nat)) := by
                    have := u32s_cell hr5 k (by rw [List.length_append, htl]; simp)
                    rw [List.getD_eq_getElem?_getD, List.getElem?_append_right (by omega), htl, Nat.sub_self] at this
                    exact this
                  have f1 : wr.frozen? ⟨g, k, none⟩ = false := frozen_of_row wr g k _ _ hr5
                  have e2 : wr.cell? ⟨gh, k, none⟩ = some (.int .u32 (v.list.getD k 0 : Nat)) := (HB5.out.cell (p := ⟨gh, k, none⟩) (Array.getElem?_eq_some_iff.1 HH.out).1).trans (u32s_cell HH.out k hlt)
                  have had := add8_get v U k hlt
                  have b1 : U.list.getD k 0 < 4294967296 := v8_lt HUO.out k
                  have b2 : v.list.getD k 0 < 4294967296 := v8_lt HV.out k
                  have htk : (Sm.add8 v U).list.take (k + 1) = (Sm.add8 v U).list.take k ++ [(Sm.add8 v U).list.getD k 0] := by
                    rw [List.take_succ_eq_append_getElem (show k < (Sm.add8 v U).list.length from hlt), List.getD_eq_getElem?_getD, List.getElem?_eq_getElem (show k < (Sm.add8 v U).list.length from hlt)]; rfl
                  rw [had] at htk
                  obtain ⟨a, hax⟩ : ∃ a, a = U.list.getD k 0 := ⟨_, rfl⟩
                  obtain ⟨b, hbx⟩ : ∃ b, b = v.list.getD k 0 := ⟨_, rfl⟩
                  rw [← hax] at e1 b1 hr5 htk
                  rw [← hbx] at e2 b2 htk
                  have HR6 := Lib.hid hr5
                  have HTL := Lib.hid htl
                  have HTK6 := Lib.hid htk
                  have k0 : (0 : Int) ≤ k := by omega
                  have k8 : (k : Int) < 8 := by omega
                  clear hdc hr5 htl had htk hax hbx HR5
                  go_wp2_with fail
                  go_still_tail 12, (by kernel_rfl)
                  go_wp2_with fail
                  go_roundw
                  case rel =>
                    rw [show ((a : Int) + (b : Int)) % 4294967296 = (((b + a) % 4294967296 : Nat) : Int) from by omega]
                    refine ⟨k + 1, by omega, by go_num, ?_, (HB5.out.setCell (Nat.le_of_lt HGW.out) _).drew⟩
                    show (World.setCell _ _ _).heap[g]? = _
                    rw [heap_setCell_same _ _ _ _ _ _ HR6.out, u32s_set _ _ _ _ k HTL.out, HTK6.out, List.append_assoc]
                    rfl
                  case measure => simp [intOf]; omega
                · obtain rfl : k = 8 := by omega
                  have hr5 := HR5.out
                  rw [show (Sm.add8 v U).list.take 8 ++ U.list.drop 8 = (Sm.add8 v U).list from rfl] at hr5
                  have HR6 := Lib.hid hr5
                  clear hr5 HR5
                  go_wp2_with fail
                  go_ret
                  refine ⟨g, rfl, ?_, Nat.le_of_lt HGW.out, HB5.out⟩
                  rw [Sm.turn, ← HWD.out, ← HU.out]
                  exact HR6.out
end Go.Proofs.Ytlmbicelngpgoaa
