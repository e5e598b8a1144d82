/- bytes.Clone; morton.Next. -/
import Derived.Test.YtcekcoekbgdkaaaMorCmp
import Derived.Lib.SliceRun
namespace Go.Proofs.Ytcekcoekbgdkaaa
open Go.RowKit

def ClonePost (w : World) (n : Nat) (B : List Nat) (e : Ending) (w' : World) : Prop := ∃ v, e = .returned v ∧ w'.ownsRow w.heap.size 5 1 v n (vals B) ∧ Below w.heap.size w w'
set_option maxRecDepth 100000 in
set_option maxHeartbeats 1000000 in
theorem bclone_any (B : List Nat) (p : Option Addr) (n c : Nat) (w : World) (h : Tx w p n c B) (hn : n ≤ 1000000) :
    Calls Try.prog 27 #[.slice p n c] w (ClonePost w n B) := by
  obtain ⟨i5, hi0, hi1, hi2, hi3⟩ := info_parts I5
  have HI := Lib.hid hi0
  have HI0 := Lib.hid hi1
  have HI1 := Lib.hid hi2
  have HI2 := Lib.hid hi3
  clear hi0 hi1 hi2 hi3
  rcases h.at' with ⟨rfl, hc⟩ | ⟨x, rfl, hx⟩
  · have qn : ∀ w', (binOp .eql 25 (.slice none n c) (.slice none 0 0)).run Try.prog w' = .ok (.bool true) w' := fun w' => Go.Lib.run_eql_slice_nil w' _ _ _ _ _ _ _ A22
    obtain rfl : n = 0 := by have := h.le; omega
    have hB : B = [] := List.length_eq_zero_iff.1 h.size.symm
    have HB := Lib.hid hB
    clear hB hc h
    go_enter Try.func27, Try.ntmps27
    go_wp2_with fail
    go_ret
    exact ⟨_, rfl, by rw [HB.out]; exact World.ownsRow_nil _ _ _ _, Below.refl _ _⟩
  · have qn : ∀ w', (binOp .eql 25 (.slice (some x) n c) (.slice none 0 0)).run Try.prog w' = .ok (.bool false) w' := fun w' => Go.Lib.run_eql_slice_nil w' _ _ _ _ _ _ _ A22
    have hal : Below w.heap.size w (w.alloc (.cells #[] 5)) := (Below.refl _ _).alloc (Nat.le_refl _) _
    have HOE := Lib.hid (owns_mk (w := w.alloc (.cells #[] 5)) (base := w.heap.size) (g := w.heap.size) (n := 0) (cap := 0) (L := []) (heap_alloc_new w _) rfl (Nat.le_refl _) (by unfold maxLen; omega) (Nat.le_refl _))
    have HNW := Lib.hid ((h.later hal).cells)
    have HRL := Lib.hid (show (vals B).length = n * 1 by rw [vals_length, ← h.size, Nat.mul_one])
    have HAL := Lib.hid hal
    clear hal h hx
    go_enter Try.func27, Try.ntmps27
    go_wp2_with (at_builtin; refine wpList_append_own _ (by rfl) (.tmp 5) (.tmp 6) 25 (by rfl) w.heap.size 5 i5 (.int .u8 0) 1 1 A22 HI.out HI0.out HI1.out HI2.out (by rfl) (by decide) _ 0 _ (by rfl) HOE.out x n c (vals B) (by rfl) HRL.out HNW.out (vals_one B) (by unfold maxLen; omega) (by omega) (by simp) ?_; intro v7 w7 hown7 hgrow7 _; have O7 := Lib.hid hown7; have G7 := Lib.hid hgrow7; clear hown7 hgrow7)
    have hb7 : Below w.heap.size w w7 := HAL.out.grown G7.out (by simp) (fun k hk => by simp [Value.ownBlock] at hk; omega)
    go_ret
    refine ⟨v7, rfl, ?_, hb7⟩
    have h := O7.out
    rw [Nat.zero_add] at h
    exact h
theorem val_append (A C : List Nat) : Cm.val (A ++ C) = Cm.val A * 256 ^ C.length + Cm.val C := by
  unfold Cm.val
  rw [List.foldl_append, Cm.foldl_val]
  rfl
theorem val_ones : ∀ m, Cm.val (List.replicate m 255) + 1 = 256 ^ m
  | 0 => rfl
  | m + 1 => by
    rw [List.replicate_succ, Cm.val_cons, List.length_replicate, Nat.pow_succ]
    have := val_ones m
    omega
theorem val_nils : ∀ m, Cm.val (List.replicate m 0) = 0
  | 0 => rfl
  | m + 1 => by rw [List.replicate_succ, Cm.val_cons, val_nils m, Nat.zero_mul]
/-- The code behind one that ends in so many bytes 255. -/
theorem val_next (A : List Nat) (x m : Nat) : Cm.val (A ++ (x + 1) :: List.replicate m 0) = Cm.val (A ++ x :: List.replicate m 255) + 1 := by
  rw [val_append, val_append, Cm.val_cons, Cm.val_cons, val_nils, List.length_cons, List.length_cons, List.length_replicate, List.length_replicate, Nat.add_mul, Nat.one_mul]
  have := val_ones m
  omega
/-- A row of bytes, and what stands behind them. -/
def NRow (w : World) (g : Nat) (B : List Nat) (X : List Value) : Prop := w.heap[g]? = some (.cells (vals B ++ X).toArray 5 (0, 0))
theorem NRow.cell {w : World} {g : Nat} {B : List Nat} {X : List Value} (h : NRow w g B X) (i : Nat) (hi : i < B.length) : w.cell? ⟨g, i, none⟩ = some (.int .u8 (B.getD i 0 : Nat)) := by
  rw [cell_of_row w g i _ _ _ h, List.getElem?_toArray, List.getElem?_append_left (by rw [vals_length]; exact hi), vals_get B i hi]
theorem NRow.set {w : World} {g : Nat} {B : List Nat} {X : List Value} (h : NRow w g B X) (i x : Nat) (hi : i < B.length) : NRow (w.setCell ⟨g, i, none⟩ (.int .u8 (x : Nat))) g (B.set i x) X := by
  unfold NRow
  rw [heap_setCell_same w g i _ _ _ h]
  congr 2
  apply Array.ext'
  simp [vals, List.map_set, List.set_append, hi]
theorem NRow.bytes {w : World} {g cap : Nat} {B : List Nat} {X : List Value} (h : NRow w g B X) (hB : Sm.allB B) (hc : B.length ≤ cap) : Bytes w (some ⟨g, 0, none⟩) B.length cap B :=
  ⟨rfl, hc, hB, Or.inr ⟨g, 0, rfl, fun i hi => by rw [Nat.zero_add]; exact h.cell i hi⟩⟩
/-- What stands while the first j bytes are still as they were. -/
def nx (B : List Nat) (j : Nat) : List Nat := B.take j ++ List.replicate (B.length - j) 0
theorem nx_length (B : List Nat) (j : Nat) (h : j ≤ B.length) : (nx B j).length = B.length := by simp [nx]; omega
theorem nx_get (B : List Nat) (j i : Nat) (h : i < j) (hj : j ≤ B.length) : (nx B j).getD i 0 = B.getD i 0 := by
  unfold nx
  rw [List.getD_eq_getElem?_getD, List.getElem?_append_left (by rw [List.length_take]; omega), List.getElem?_take_of_lt h, ← List.getD_eq_getElem?_getD]
theorem nx_full (B : List Nat) : nx B B.length = B := by simp [nx]
theorem nx_set (B : List Nat) (j x : Nat) (hj : j < B.length) : (nx B (j + 1)).set j x = B.take j ++ x :: List.replicate (B.length - (j + 1)) 0 := by
  unfold nx
  rw [List.take_succ_eq_append_getElem hj, List.append_assoc, List.set_append, if_neg (by rw [List.length_take]; omega)]
  rw [show j - (B.take j).length = 0 from by rw [List.length_take]; omega]
  rfl
theorem nx_zero (B : List Nat) (j : Nat) (hj : j < B.length) : (nx B (j + 1)).set j 0 = nx B j := by
  rw [nx_set B j 0 hj]
  unfold nx
  rw [show B.length - j = (B.length - (j + 1)) + 1 from by omega, List.replicate_succ]
theorem ends_255 (B : List Nat) (j : Nat) (h : ∀ t, j ≤ t → t < B.length → B.getD t 0 = 255) : B.drop j = List.replicate (B.length - j) 255 := by
  apply List.ext_getElem (by simp)
  intro i h1 h2
  rw [List.getElem_drop, List.getElem_replicate]
  rw [List.length_drop] at h1
  have := h (j + i) (by omega) (by omega)
  rw [List.getD_eq_getElem?_getD, List.getElem?_eq_getElem (by omega)] at this
  exact this
theorem nx_val (B : List Nat) (j : Nat) (hj : j < B.length) (h : ∀ t, j + 1 ≤ t → t < B.length → B.getD t 0 = 255) : Cm.val ((nx B (j + 1)).set j (B.getD j 0 + 1)) = Cm.val B + 1 := by
  rw [nx_set B j _ hj, val_next]
  congr 1
  rw [← ends_255 B (j + 1) h]
  congr 1
  conv => rhs; rw [← List.take_append_drop j B]
  rw [List.drop_eq_getElem_cons hj, List.getD_eq_getElem?_getD, List.getElem?_eq_getElem hj]
  rfl
theorem nx_ok {B : List Nat} (hB : Sm.allB B) (j x : Nat) (hx : x < 256) : Sm.allB ((nx B j).set j x) ∧ Sm.allB ((nx B (j + 1)).set j x) := by
  have key : ∀ k, Sm.allB (nx B k) := fun k y hy => by
    unfold nx at hy
    rw [List.mem_append] at hy
    rcases hy with hy | hy
    · exact hB y (List.mem_of_mem_take hy)
    · have := (List.mem_replicate.1 hy).2
      omega
  exact ⟨set_ok (key j) _ _ hx, set_ok (key (j + 1)) _ _ hx⟩
def all255 (B : List Nat) : Prop := ∀ t, t < B.length → B.getD t 0 = 255
def NextPost (w : World) (n : Nat) (B : List Nat) (e : Ending) (w' : World) : Prop :=
  (all255 B ∧ e = .returned (.tuple #[.slice none 0 0, .bool false]) ∧ Below w.heap.size w w') ∨
  (¬ all255 B ∧ ∃ q c N, e = .returned (.tuple #[.slice q n c, .bool true]) ∧ Bytes w' q n c N ∧ Cm.val N = Cm.val B + 1 ∧ Below w.heap.size w w')
def NxRel (w1 : World) (g : Nat) (B : List Nat) (X : List Value) (i : Value) (wr : World) : Prop :=
  ∃ j : Nat, j ≤ B.length ∧ i = .int .i64 ((j : Int) - 1) ∧ NRow wr g (nx B j) X ∧ w1.grownBy wr (some g) ∧ ∀ t, j ≤ t → t < B.length → B.getD t 0 = 255
set_option maxRecDepth 100000 in
set_option maxHeartbeats 4000000 in
theorem next_any (B : List Nat) (p : Option Addr) (n c : Nat) (w : World) (h : Tx w p n c B) (hn : n ≤ 1000000) :
    Calls Try.prog 19 #[.slice p n c] w (NextPost w n B) := by
  have HT := Lib.hid h
  have HOK := Lib.hid h.ok
  have HSZ := Lib.hid h.size
  clear h
  go_enter Try.func19, Try.ntmps19
  go_wp2_with fail
  refine (bclone_any B p n c w HT.out hn).mono ?_
  rintro e w1 hp
  obtain ⟨v, rfl, ho, hb⟩ := hp
  have HB := Lib.hid hb
  clear hb
  by_cases h0 : n = 0
  · subst h0
    have hB : B = [] := List.length_eq_zero_iff.1 HSZ.out.symm
    obtain ⟨q, cap, rfl, -⟩ := owns_form ho HOK.out
    have HBE := Lib.hid hB
    clear ho hB
    go_wp2_with fail
    go_loopw [5] (fun i wr => i = .int .i64 (-1) ∧ wr = w1) (fun _ _ => 0)
    case atStart => exact ⟨rfl, rfl⟩
    case round =>
      obtain ⟨rfl, rfl⟩ := hrel
      go_wp2_with fail
      go_ret2
      exact Or.inl ⟨by rw [HBE.out]; intro t ht; simp at ht, rfl, HB.out⟩
  · rcases ho.2 with ⟨rfl, e0⟩ | ⟨g, cap, cur, rfl, hg, hh, hle, hm, hs, ht⟩
    · exact absurd e0 h0
    have hrow : NRow w1 g (nx B B.length) (cur.toList.drop n) := by
      unfold NRow
      rw [hh, nx_full]
      congr 2
      apply Array.ext'
      rw [Nat.mul_one] at ht
      simp only
      rw [← ht, List.take_append_drop]
    have HR := Lib.hid hrow
    have HG := Lib.hid hg
    have HLE := Lib.hid hle
    generalize cur.toList.drop n = X at *
    clear hrow ho hh hm hs ht hg hle
    go_wp2_with fail
    go_loopw [5] (fun i wr => NxRel w1 g B X i wr) (fun i _ => (intOf i + 1).toNat)
    case atStart => exact ⟨B.length, Nat.le_refl _, by rw [← HSZ.out], HR.out, ⟨rfl, rfl, rfl, Nat.le_refl _, fun _ _ _ => rfl⟩, fun t h1 h2 => by omega⟩
    case round =>
      obtain ⟨j, hj, rfl, hr, hgr, hall⟩ := hrel
      have HR1 := Lib.hid hr
      have HGR := Lib.hid hgr
      have HALL := Lib.hid hall
      clear hr hgr hall HR
      have hbl : Below w.heap.size w wr := grown_below HB.out HGR.out HG.out
      have HBL := Lib.hid hbl
      clear hbl
      have hj2 : j ≤ n := by rw [HSZ.out]; exact hj
      by_cases hz : j = 0
      · subst hz
        go_wp2_with fail
        go_ret2
        exact Or.inl ⟨fun t ht => HALL.out t (Nat.zero_le _) ht, rfl, HBL.out⟩
      · obtain ⟨k, rfl⟩ : ∃ k, j = k + 1 := ⟨j - 1, by omega⟩
        rw [show (((k + 1 : Nat) : Int) - 1) = (k : Int) from by omega]
        have hc := HR1.out.cell k (by rw [nx_length B _ hj]; omega)
        rw [nx_get B (k + 1) k (by omega) hj] at hc
        have hf : wr.frozen? ⟨g, k, none⟩ = false := frozen_of_row wr g _ _ _ HR1.out
        have hx := Sm.getD_lt HOK.out (by omega) k
        have i1 : (0 : Int) ≤ k ∧ (k : Int) < n := by omega
        have hset := fun x => HR1.out.set k x (by rw [nx_length B _ hj]; omega)
        have HSET := Lib.hid hset
        have HX := Lib.hid (show B.getD k 0 = B.getD k 0 from rfl)
        clear hset
        by_cases h255 : B.getD k 0 = 255
        · rw [h255] at hc
          have hs := HSET.out 0
          rw [nx_zero B k (by omega)] at hs
          have HS := Lib.hid hs
          have H255 := Lib.hid h255
          clear hs h255 hx
          go_wp2_with fail
          go_roundw
          case rel => exact ⟨k, by omega, rfl, HS.out, grown_twice HGR.out (grown_setCell wr g _ _), fun t h1 h2 => by
            by_cases e : t = k
            · rw [e]; exact H255.out
            · exact HALL.out t (by omega) h2⟩
          case measure => simp [intOf] <;> omega
        · have hv := nx_val B k (by omega) HALL.out
          have hs := HSET.out (B.getD k 0 + 1)
          have hbt := hs.bytes (cap := cap) (nx_ok HOK.out k _ (by omega)).2 (by rw [List.length_set, nx_length B _ hj, ← HSZ.out]; exact HLE.out)
          rw [List.length_set, nx_length B _ hj, ← HSZ.out] at hbt
          have HBT := Lib.hid hbt
          have HV := Lib.hid hv
          have HN := Lib.hid h255
          have b1 : (((B.getD k 0 : Nat) : Int) + 1 != 0) = true := by simp; omega
          have hx2 : B.getD k 0 < 255 := by omega
          clear hs hv hbt h255
          generalize B.getD k 0 = x at hc hx hx2 b1 HBT HV
          go_wp2_with fail
          go_ret2
          exact Or.inr ⟨fun h => HN.out (h k (by omega)), _, _, _, rfl, HBT.out, HV.out, grown_below HB.out (grown_twice HGR.out (grown_setCell wr g _ _)) HG.out⟩
end Go.Proofs.Ytcekcoekbgdkaaa
