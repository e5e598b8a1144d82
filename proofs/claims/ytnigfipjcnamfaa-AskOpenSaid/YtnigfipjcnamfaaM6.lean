/- AkClone, AkCells, AkDel, BoxPairFn, BoxBuild, BoxOf, AkQIn, BoxHas, AkSmall, AkRight, AkOfA, AkOf, BoxLits, AkLits. -/
import Derived.Test.YtnigfipjcnamfaaM5
import Derived.Laws.CopyRow
import Derived.Lib.SliceRun
import Derived.Deep.RegionLaw
import Derived.Shelf.Spec.SlicesInsertGrow
import Derived.BigRegion
import Derived.Lib.MinMax
/- slices.Clone of rows. -/
namespace Go.Proofs.Ytnigfipjcnamfaa.Ak
open Go.RowKit

theorem URsK : Try.prog.underlying 30 = some (.slice 23) := by kernel_rfl
theorem own_empty_rows (w : World) : (w.alloc (.cells #[] 23)).ownsRow w.heap.size 23 1 (.slice (some ⟨w.heap.size, 0, none⟩) 0 0) 0 [] :=
  ⟨rfl, Or.inr ⟨w.heap.size, 0, #[], rfl, Nat.le_refl _, heap_alloc_new w _, Nat.le_refl _, by unfold maxLen; omega, rfl, rfl⟩⟩
theorem rvs_news {w : World} {g o n c : Nat} {L : List Rw} (h : RowsIn w (some ⟨g, o, none⟩) n c L) : ∀ j v, (rvs L)[j]? = some v → w.cell? ((⟨g, o, none⟩ : Addr).add j) = some v := fun j v hv => by
  rw [Addr.add_lit]
  have hj : j < L.length := by
    have := (List.getElem?_eq_some_iff.1 hv).1
    simpa [rvs] using this
  rcases h.at' with h0 | ⟨g', o', hp, hx⟩
  · rw [h0] at hj
    exact absurd hj (by simp)
  · simp only [Option.some.injEq, Addr.mk.injEq, and_true] at hp
    obtain ⟨rfl, rfl⟩ := hp
    rw [hx j hj]
    simp only [rvs, List.getElem?_map, List.getElem?_eq_getElem hj, Option.map_some, Option.some.injEq] at hv
    rw [List.getD_eq_getElem?_getD, List.getElem?_eq_getElem hj]
    exact congrArg some hv
/-- Cloned rows: of a call's own, if there are any. -/
def ClonePost (w : World) (L : List Rw) (e : Ending) (w' : World) : Prop :=
  ∃ q c, e = .returned (.slice q L.length c) ∧ Below w.heap.size w w' ∧ (L ≠ [] → ∃ g cur, q = some ⟨g, 0, none⟩ ∧ w.heap.size ≤ g ∧ w'.heap[g]? = some (.cells cur 23 (0, 0)) ∧ L.length ≤ c ∧ c ≤ maxLen ∧ cur.size = c ∧ cur.toList.take L.length = rvs L)
set_option maxRecDepth 100000 in
set_option maxHeartbeats 1000000 in
theorem rclone_any (p : Option Addr) (n c : Nat) (L : List Rw) (w : World) (h : RowsIn w p n c L) (h8 : n ≤ 1048576) :
    Calls Try.prog 26 #[.slice p n c] w (ClonePost w L) := by
  obtain ⟨i2, hi0, hi1, hi2, hi3⟩ := info_parts I23x
  have HI := Lib.hid hi0
  have HI0 := Lib.hid hi1
  have HI1 := Lib.hid hi2
  have HI2 := Lib.hid hi3
  clear hi0 hi1 hi2 hi3
  have hal : Below w.heap.size w (w.alloc (.cells #[] 23)) := (Below.refl _ _).alloc (Nat.le_refl _) _
  have hs := h.size
  rcases hp : p with _ | x
  · have h0 : L = [] := by
      rcases h.at' with h0 | ⟨g, o, hp2, -⟩
      · exact h0
      · rw [hp] at hp2
        cases hp2
    have hn0 : n = 0 := by rw [hs, h0]; rfl
    rw [← hp]
    have qn : ∀ w', (binOp .eql 30 (.slice p n c) (.slice none 0 0)).run Try.prog w' = .ok (.bool true) w' := fun w' => by rw [hp]; exact Go.Lib.run_eql_slice_nil w' _ _ _ _ _ _ _ URsK
    clear hal hp h hs hn0 HI HI0 HI1 HI2
    go_enter Try.func26, Try.ntmps26
    go_wp2_with fail
    go_ret
    exact ⟨none, 0, by rw [h0]; rfl, Below.refl _ _, fun hne => absurd h0 hne⟩
  · subst hp
    have HNW : Hid (∀ j v, (rvs L)[j]? = some v → (w.alloc (.cells #[] 23)).cell? (x.add j) = some v) := by
      rcases (h.later hal).at' with h0 | ⟨g, o, hp, -⟩
      · intro j v hv
        rw [h0] at hv
        simp [rvs] at hv
      · simp only [Option.some.injEq] at hp
        subst hp
        exact rvs_news (h.later hal)
    have HOE := Lib.hid (own_empty_rows w)
    have HAL := Lib.hid hal
    have HRL := Lib.hid (show (rvs L).length = n * 1 by rw [rvs, List.length_map, ← hs, Nat.mul_one])
    have HS := Lib.hid hs
    have qn : ∀ w', (binOp .eql 30 (.slice (some x) n c) (.slice none 0 0)).run Try.prog w' = .ok (.bool false) w' := fun w' => Go.Lib.run_eql_slice_nil w' _ _ _ _ _ _ _ URsK
    clear hal h hs
    go_enter Try.func26, Try.ntmps26
    go_wp2_with ((at_builtin; (refine wpList_append_own_at _ (by rfl) (.tmp 5) (.tmp 6) 30 (by rfl) w.heap.size 23 i2 (.slice none 0 0) 1 24 URsK HI.out HI0.out HI1.out HI2.out (by rfl) (by decide) _ 0 [] (by rfl) HOE.out x n c (rvs L) (by rfl) HRL.out HNW.out (rvs_one _) (by unfold maxLen; omega) (by omega) (by simp) ?_); intro v7 w7 hown7 hgrow7 _ _; have O7 := Lib.hid hown7; have G7 := Lib.hid hgrow7; clear hown7 hgrow7))
    have hb7 : Below w.heap.size w w7 := HAL.out.grown G7.out (by simp) (fun k hk => by simp [Value.ownBlock] at hk; omega)
    have ho := O7.out
    rw [Nat.zero_add, List.nil_append] at ho
    rcases ho.2 with ⟨hv, h0⟩ | ⟨g, cap, cur, hv, hb, hg, hle, hm, hsz, ht⟩
    · subst hv
      go_ret
      refine ⟨none, 0, by rw [← HS.out, h0]; rfl, hb7, fun hne => absurd (List.length_eq_zero_iff.1 (by rw [← HS.out]; exact h0)) hne⟩
    · subst hv
      go_ret
      refine ⟨_, cap, by rw [← HS.out]; rfl, hb7, fun _ => ⟨g, cur, rfl, hb, hg, by rw [← HS.out]; exact hle, hm, by omega, ?_⟩⟩
      rw [← HS.out]
      rw [Nat.mul_one] at ht
      exact ht
end Go.Proofs.Ytnigfipjcnamfaa.Ak

/- A list's cells set and cleared. -/
namespace Go.Proofs.Ytnigfipjcnamfaa.Ak
open Go.RowKit

/-- Cells laid over others. -/
def over (cur : Array Value) (o : Nat) (cs : List Value) : Array Value := (cur.toList.take o ++ cs ++ cur.toList.drop (o + cs.length)).toArray
theorem over_size {cur : Array Value} {o : Nat} {cs : List Value} (h : o + cs.length ≤ cur.size) : (over cur o cs).size = cur.size := by
  unfold over
  simp
  omega
theorem over_take {cur : Array Value} {o : Nat} {cs : List Value} (h : o + cs.length ≤ cur.size) : (over cur o cs).toList.take (o + cs.length) = cur.toList.take o ++ cs := by
  unfold over
  rw [List.toList_toArray, List.take_append_of_le_length (by simp; omega), List.take_of_length_le (by simp; omega)]
theorem over_head {cur : Array Value} {o n : Nat} {cs : List Value} (h : o ≤ cur.size) (hn : n ≤ o) : (over cur o cs).toList.take n = cur.toList.take n := by
  unfold over
  rw [List.toList_toArray, List.append_assoc, List.take_append_of_le_length (by simp; omega), List.take_take, Nat.min_eq_left hn]
section
variable {w : World} {g : Nat} {cur : Array Value} {e : TypeId}
theorem row_cell (hg : w.heap[g]? = some (.cells cur e (0, 0))) {j : Nat} (hj : j < cur.size) : w.cell? ⟨g, j, none⟩ = some cur[j] := by
  rw [cell_of_row w g j cur e (0, 0) hg, Array.getElem?_eq_getElem hj]
theorem row_some (hg : w.heap[g]? = some (.cells cur e (0, 0))) {j : Nat} (hj : j < cur.size) : (w.cell? ⟨g, j, none⟩).isSome = true := by rw [row_cell hg hj]; rfl
theorem row_warm (hg : w.heap[g]? = some (.cells cur e (0, 0))) (j : Nat) : w.frozen? ⟨g, j, none⟩ = false := by simp [World.frozen?, hg]
theorem setCells_row {o : Nat} {cs : List Value} (hg : w.heap[g]? = some (.cells cur e (0, 0))) (hfit : o + cs.length ≤ cur.size) (h1 : ∀ v ∈ cs, v.oneCell' = true) : w.setCells g o cs = w.setRow g (over cur o cs) := by
  have h2 := run_storeCells_cells (P := Try.prog) g o cs 0 w (fun j hj => row_some hg (by omega)) (fun j _ => row_warm hg _) h1
  have h3 := run_storeCells_at Try.prog g o e cs 0 cur w hg (by omega) h1
  rw [h2] at h3
  simp only [Nat.add_zero] at h3
  injection h3
theorem setCells_heap {o : Nat} {cs : List Value} (hg : w.heap[g]? = some (.cells cur e (0, 0))) (hfit : o + cs.length ≤ cur.size) (h1 : ∀ v ∈ cs, v.oneCell' = true) : (w.setCells g o cs).heap[g]? = some (.cells (over cur o cs) e (0, 0)) := by
  rw [setCells_row hg hfit h1]
  exact setRow_heap w g cur _ e (0, 0) hg
theorem zero_cells {z : Value} (hz : 0 < z.cells.size) (h1 : ∀ u ∈ z.cells.toList, u.oneCell' = true) (n : Nat) : (Builtin.zeroCells z.cells n).toList.length = n * z.cells.size ∧ ∀ u ∈ (Builtin.zeroCells z.cells n).toList, u.oneCell' = true := by
  refine ⟨by simp [Builtin.zeroCells], fun u hu => ?_⟩
  unfold Builtin.zeroCells at hu
  simp only [Array.toList_map, List.mem_map] at hu
  obtain ⟨i, _, rfl⟩ := hu
  have hm := Nat.mod_lt i hz
  rw [getElem!_pos z.cells (i % z.cells.size) hm]
  exact h1 _ (by rw [Array.mem_toList_iff]; exact Array.getElem_mem hm)
theorem run_clearK (t ty : TypeId) (z : Value) (ht : Try.prog.underlying t = some (.slice e)) (hv : ∀ w, (zeroValue e).run Try.prog w = .ok z w) (hz : 0 < z.cells.size) (h1 : ∀ u ∈ z.cells.toList, u.oneCell' = true) {o n c : Nat} (hg : w.heap[g]? = some (.cells cur e (0, 0))) (hfit : o + n * z.cells.size ≤ cur.size) :
    (Builtin.clear_ #[t] ty #[.slice (some ⟨g, o, none⟩) n c]).run Try.prog w = .ok (.tuple #[]) (w.setCells g o (Builtin.zeroCells z.cells n).toList) := by
  obtain ⟨hl, h2⟩ := zero_cells hz h1 n
  have hst := run_storeCells_cells (P := Try.prog) g o (Builtin.zeroCells z.cells n).toList 0 w (fun j hj => row_some hg (by omega)) (fun j _ => row_warm hg _) h2
  simp only [Nat.add_zero] at hst
  rcases Nat.eq_zero_or_pos n with rfl | h0
  · have : (Builtin.zeroCells z.cells 0).toList = [] := List.eq_nil_of_length_eq_zero (by rw [hl, Nat.zero_mul])
    rw [this]
    simp [Builtin.clear_, run_underlying ht, World.setCells]
  · obtain ⟨m, rfl⟩ : ∃ m, n = m + 1 := ⟨n - 1, by omega⟩
    simp [Builtin.clear_, run_underlying ht, hv, hst]
end
end Go.Proofs.Ytnigfipjcnamfaa.Ak

/- slices.DeleteFunc of rows of a call's own. -/
namespace Go.Proofs.Ytnigfipjcnamfaa.Ak
open Go.RowKit

/-- The list under way: those that are kept so far, and the rest. -/
structure DelIn (w0 : World) (g c : Nat) (L : List Rw) (f : Rw → Bool) (i j : Nat) (cur : Array Value) (wr : World) : Prop where
  heap : wr.heap[g]? = some (.cells cur 23 (0, 0))
  size : cur.size = c
  head : cur.toList.take i = rvs ((L.take j).filter fun t => !f t)
  rest : ∀ k, j ≤ k → k < L.length → cur[k]? = some (L.getD k default).val
  len : i = ((L.take j).filter fun t => !f t).length
  low : Below w0.heap.size w0 wr
theorem filt_all {L : List Rw} {f : Rw → Bool} (h : ∀ r ∈ L, f r = false) : (L.filter fun t => !f t) = L := List.filter_eq_self.2 fun r hr => by rw [h r hr]; rfl
theorem take_nextR (L : List Rw) (j : Nat) (h : j < L.length) : L.take (j + 1) = L.take j ++ [L.getD j default] := by
  rw [List.take_succ_eq_append_getElem h, List.getD_eq_getElem?_getD, List.getElem?_eq_getElem h]
  rfl
theorem filt_le (L : List Rw) (f : Rw → Bool) (j : Nat) : ((L.take j).filter fun t => !f t).length ≤ j := Nat.le_trans (List.length_filter_le _ _) (by rw [List.length_take]; omega)
theorem DelIn.later {w0 wr w' : World} {g c i j : Nat} {L : List Rw} {f : Rw → Bool} {cur : Array Value} (h : DelIn w0 g c L f i j cur wr) (hb : Below wr.heap.size wr w') : DelIn w0 g c L f i j cur w' :=
  ⟨(hb.block _ (Array.getElem?_eq_some_iff.1 h.heap).1).trans h.heap, h.size, h.head, h.rest, h.len, h.low.trans (hb.mono h.low.size)⟩
theorem DelIn.skip {w0 wr : World} {g c i j : Nat} {L : List Rw} {f : Rw → Bool} {cur : Array Value} (h : DelIn w0 g c L f i j cur wr) (hj : j < L.length) (hf : f (L.getD j default) = true) : DelIn w0 g c L f i (j + 1) cur wr := by
  have e : ((L.take (j + 1)).filter fun t => !f t) = ((L.take j).filter fun t => !f t) := by
    rw [take_nextR L j hj, List.filter_append, List.filter_cons_of_neg (by rw [hf]; simp)]
    simp
  exact ⟨h.heap, h.size, by rw [e]; exact h.head, fun k hk => h.rest k (by omega), by rw [e]; exact h.len, h.low⟩
theorem DelIn.keep {w0 wr : World} {g c i j : Nat} {L : List Rw} {f : Rw → Bool} {cur : Array Value} (h : DelIn w0 g c L f i j cur wr) (hj : j < L.length) (hc : L.length ≤ c) (hg : w0.heap.size ≤ g) (hf : f (L.getD j default) = false) :
    DelIn w0 g c L f (i + 1) (j + 1) (cur.setIfInBounds i (L.getD j default).val) (wr.setCell ⟨g, i, none⟩ (L.getD j default).val) := by
  have hi : i ≤ j := by rw [h.len]; exact filt_le L f j
  have e : ((L.take (j + 1)).filter fun t => !f t) = ((L.take j).filter fun t => !f t) ++ [L.getD j default] := by
    rw [take_nextR L j hj, List.filter_append, List.filter_cons_of_pos (by rw [hf]; rfl)]
    simp
  have hsz := h.size
  refine ⟨heap_setCell_same wr g i _ _ _ h.heap, by simpa using hsz, ?_, fun k hk hk2 => ?_, by rw [e, List.length_append, ← h.len]; rfl, h.low.setCell (p := ⟨g, i, none⟩) hg _⟩
  · have hil : i < cur.toList.length := by rw [Array.length_toList]; omega
    rw [e, Array.toList_setIfInBounds, List.take_succ_eq_append_getElem (by rw [List.length_set]; exact hil), List.take_set_of_le (Nat.le_refl _), h.head, List.getElem_set_self]
    simp [rvs]
  · rw [Array.getElem?_setIfInBounds_ne (by omega)]
    exact h.rest k (by omega) hk2
def DelRel (w0 : World) (g c : Nat) (L : List Rw) (f : Rw → Bool) (i j : Value) (wr : World) : Prop :=
  ∃ (ni nj : Nat) (cur : Array Value), i = .int .i64 ni ∧ j = .int .i64 nj ∧ nj ≤ L.length ∧ ni < nj ∧ DelIn w0 g c L f ni nj cur wr
/-- What is left. -/
def DelPost (w0 : World) (g c : Nat) (L : List Rw) (f : Rw → Bool) (e : Ending) (w' : World) : Prop :=
  ∃ cur, e = .returned (.slice (some ⟨g, 0, none⟩) (L.filter fun t => !f t).length c) ∧ w'.heap[g]? = some (.cells cur 23 (0, 0)) ∧ cur.toList.take (L.filter fun t => !f t).length = rvs (L.filter fun t => !f t) ∧ cur.size = c ∧ Below w0.heap.size w0 w'
theorem own_in {w : World} {g c : Nat} {L : List Rw} {cur : Array Value} (h : w.heap[g]? = some (.cells cur 23 (0, 0))) (hc : L.length ≤ c) (ht : cur.toList.take L.length = rvs L) (hok : ∀ t ∈ L, t.Ok w) : RowsIn w (some ⟨g, 0, none⟩) L.length c L ∧ ∀ k, k < L.length → cur[k]? = some (L.getD k default).val := by
  have hx : ∀ k, k < L.length → cur[k]? = some (L.getD k default).val := fun k hk => by
    have e := congrArg (·[k]?) ht
    simp only [List.getElem?_take_of_lt hk, rvs, List.getElem?_map, List.getElem?_eq_getElem hk, Option.map_some] at e
    rw [← Array.getElem?_toList, e, List.getD_eq_getElem?_getD, List.getElem?_eq_getElem hk]
    rfl
  refine ⟨⟨rfl, hc, hok, Or.inr ⟨g, 0, rfl, fun i hi => ?_⟩⟩, hx⟩
  rw [Nat.zero_add, cell_of_row w g i cur _ _ h]
  exact hx i hi
set_option maxRecDepth 100000 in
set_option maxHeartbeats 2000000 in
theorem del_any {w0 w : World} {g c : Nat} {L : List Rw} {cur : Array Value} (f : Rw → Bool) (F : Nat) (cap : Array Value) (hF : ∀ args w, (callFunc F args).run Try.prog w = .ok (.enter F args) w) (hg : w0.heap.size ≤ g) (hb : Below w0.heap.size w0 w) (hcell : w.heap[g]? = some (.cells cur 23 (0, 0))) (hc : L.length ≤ c) (hcm : c ≤ maxLen) (hsz : cur.size = c) (ht : cur.toList.take L.length = rvs L) (hok : ∀ t ∈ L, t.Ok w0) (hs : AskR w0 L f F cap) (hn : L.length ≤ 1000000) :
    Calls Try.prog 25 #[.slice (some ⟨g, 0, none⟩) L.length c, .func (.func F) #[] cap] w (DelPost w0 g c L f) := by
  obtain ⟨hin, hx⟩ := own_in hcell hc ht (fun t h => (hok t h).later hb)
  have HI := Lib.hid (index_any (some ⟨g, 0, none⟩) L.length c L f F cap hF w hin (by omega) (hs.later hb))
  have HS := Lib.hid hs
  have HB := Lib.hid hb
  have HX := Lib.hid hx
  have HT := Lib.hid ht
  have HC := Lib.hid hcell
  have HSZ := Lib.hid hsz
  have hc63 : c ≤ 9223372036854775807 := by unfold maxLen at hcm; omega
  obtain ⟨n, hnl⟩ : ∃ n, n = L.length := ⟨_, rfl⟩
  have HN := Lib.hid hnl
  rw [← hnl] at HI hc hn ⊢
  clear hin hx hs hb ht hcell hok hsz hnl hcm
  go_enter Try.func25, Try.ntmps25
  go_wp2_with fail
  refine HI.out.mono ?_
  rintro _ w2 ⟨i, rfl, hi, b2⟩
  have HB2 := Lib.hid (HB.out.trans (b2.mono HB.out.size))
  have HC2 := Lib.hid ((b2.block _ (Array.getElem?_eq_some_iff.1 HC.out).1).trans HC.out)
  clear b2 HI HC
  rcases hi with ⟨k, rfl, hk, hf, hall⟩ | ⟨rfl, hall⟩
  case inr =>
    have HE := Lib.hid (filt_all hall)
    clear hall
    go_wp2_with fail
    go_ret
    refine ⟨cur, by rw [HE.out, ← HN.out]; rfl, HC2.out, by rw [HE.out]; exact HT.out, HSZ.out, HB2.out⟩
  have hd : DelIn w0 g c L f k (k + 1) cur w2 := by
    have e : ((L.take (k + 1)).filter fun t => !f t) = L.take k := by
      rw [take_nextR L k hk, List.filter_append, List.filter_cons_of_neg (by rw [hf]; simp), filt_all fun r hr => ?_]
      · simp
      · obtain ⟨j, hj, rfl⟩ := List.getElem_of_mem hr
        rw [List.length_take] at hj
        have h := hall j (by omega)
        rw [List.getD_eq_getElem?_getD, List.getElem?_eq_getElem (by omega)] at h
        rw [List.getElem_take]
        exact h
    refine ⟨HC2.out, HSZ.out, ?_, fun j _ hj => HX.out j hj, by rw [e, List.length_take]; omega, HB2.out⟩
    rw [e, ← Nat.min_eq_left (Nat.le_of_lt hk), ← List.take_take, HT.out, Nat.min_eq_left (Nat.le_of_lt hk)]
    simp [rvs]
  have HD := Lib.hid hd
  clear hd hf hall
  have hkn : k < n := by rw [HN.out]; exact hk
  clear hk
  have qk : ((k : Int) == -1) = false := by
    rw [beq_eq_false_iff_ne]
    omega
  go_wp2_with fail
  go_loopw [5, 6] (fun i j wr => DelRel w0 g c L f i j wr) (fun _ j _ => n - (intOf j).toNat)
  case atStart => exact ⟨k, k + 1, cur, rfl, by go_num, by rw [← HN.out]; omega, by omega, HD.out⟩
  case round =>
    obtain ⟨ni, nj, cur2, rfl, rfl, hjn, hij, hin⟩ := hrel
    have HIN := Lib.hid hin
    rw [← HN.out] at hjn
    clear hin HD HC2 HT HX
    by_cases hlt : nj < n
    · have hjL : nj < L.length := by rw [← HN.out]; exact hlt
      have hmem : L.getD nj default ∈ L := by
        rw [List.getD_eq_getElem?_getD, List.getElem?_eq_getElem hjL]
        exact List.getElem_mem hjL
      have hcl := HS.out _ hmem wr HIN.out.low
      have c1 : wr.cell? ⟨g, nj, none⟩ = some (L.getD nj default).val := by
        rw [cell_of_row wr g nj _ _ _ HIN.out.heap]
        exact HIN.out.rest nj (Nat.le_refl _) hjL
      have HSK := Lib.hid (fun (w3 : World) (hb : Below wr.heap.size wr w3) (hf : f (L.getD nj default) = true) => (HIN.out.later hb).skip hjL hf)
      have HKP := Lib.hid (fun (w3 : World) (hb : Below wr.heap.size wr w3) (hf : f (L.getD nj default) = false) => (HIN.out.later hb).keep hjL (by rw [← HN.out]; exact hc) hg hf)
      have HCL := Lib.hid (fun (w3 : World) (hb : Below wr.heap.size wr w3) => show w3.cell? ⟨g, ni, none⟩ = some (cur2[ni]!) ∧ w3.frozen? ⟨g, ni, none⟩ = false from by
        have h := HIN.out.later hb
        refine ⟨?_, frozen_of_row w3 g ni _ _ h.heap⟩
        rw [cell_of_row w3 g ni _ _ _ h.heap]
        have hs := h.size
        simp [show ni < cur2.size by omega])
      clear hmem hjL
      have i1 : (0 : Int) ≤ nj ∧ (nj : Int) < n := by omega
      have i2 : (0 : Int) ≤ ni ∧ (ni : Int) < n := by omega
      generalize L.getD nj default = r at *
      obtain ⟨rp, rn, rc, rR⟩ := r
      unfold Rw.val at hcl c1 HKP
      simp only at hcl c1 HKP
      generalize (cur2[ni]!) = ov at *
      cases hfk : f ⟨rp, rn, rc, rR⟩ with
      | true =>
        rw [hfk] at hcl
        have HC := Lib.hid hcl
        have HSK2 := Lib.hid (fun w3 hb => HSK.out w3 hb hfk)
        clear hcl hfk HSK HKP HCL
        go_wp2_with (refine HC.out.mono ?_; rintro e w3 ⟨rfl, b3⟩; have HX3 := Lib.hid (HSK2.out _ b3); clear b3)
        go_roundw
        case rel => exact ⟨ni, nj + 1, cur2, rfl, by go_num, by rw [← HN.out]; omega, by omega, HX3.out⟩
        case measure => simp [intOf]; omega
      | false =>
        rw [hfk] at hcl
        have HC := Lib.hid hcl
        have HKP2 := Lib.hid (fun w3 hb => HKP.out w3 hb hfk)
        clear hcl hfk HSK HKP
        go_wp2_with (refine HC.out.mono ?_; rintro e w3 ⟨rfl, b3⟩; have HX3 := Lib.hid (HKP2.out _ b3); obtain ⟨d1, d2⟩ := HCL.out _ b3; clear b3)
        go_roundw
        case rel => exact ⟨ni + 1, nj + 1, _, by go_num, by go_num, by rw [← HN.out]; omega, by omega, HX3.out⟩
        case measure => simp [intOf]; omega
    · obtain rfl : nj = n := by omega
      have hin := HIN.out
      have hfull : (L.take nj).filter (fun t => !f t) = L.filter fun t => !f t := by rw [List.take_of_length_le (by rw [← HN.out]; exact Nat.le_refl _)]
      have hs := hin.size
      have hz1 : ∀ u ∈ (.slice none 0 0 : Value).cells.toList, u.oneCell' = true := by decide
      have hcl := Lib.hid (fun ty cc => run_clearK (o := ni) (n := nj - ni) (c := cc) 30 ty (.slice none 0 0) URsK Try.zeroValue23 (by decide) hz1 hin.heap (by show ni + (nj - ni) * 1 ≤ _; omega))
      obtain ⟨hzl, hzo⟩ := zero_cells (z := (.slice none 0 0 : Value)) (by decide) hz1 (nj - ni)
      obtain ⟨zs, hzs⟩ : ∃ zs, zs = (Builtin.zeroCells (.slice none 0 0 : Value).cells (nj - ni)).toList := ⟨_, rfl⟩
      rw [← hzs] at hcl hzl hzo
      have hfit : ni + zs.length ≤ cur2.size := by rw [hzl]; show ni + (nj - ni) * 1 ≤ _; omega
      have hhp := setCells_heap hin.heap hfit hzo
      have hbl : Below w0.heap.size w0 (wr.setCells g ni zs) := by
        rw [setCells_row hin.heap hfit hzo]
        exact Go.Proofs.Ytnigfipjcnamfaa.Below.setRow hin.low hg _
      have htk : (over cur2 ni zs).toList.take ni = rvs (L.filter fun t => !f t) := by rw [over_head (by omega) (Nat.le_refl _), hin.head, hfull]
      have hlen : ni = (L.filter fun t => !f t).length := by rw [hin.len, hfull]
      have HFIN := Lib.hid (show (wr.setCells g ni zs).heap[g]? = some (.cells (over cur2 ni zs) 23 (0, 0)) ∧ (over cur2 ni zs).toList.take ni = rvs (L.filter fun t => !f t) ∧ (over cur2 ni zs).size = c ∧ Below w0.heap.size w0 (wr.setCells g ni zs) from ⟨hhp, htk, by rw [over_size hfit]; exact hs, hbl⟩)
      have HLE := Lib.hid hlen
      clear hin hfull hs hz1 hzl hzo hzs hfit hhp hbl htk hlen HIN
      have e1 : (ni : Int) ≤ nj := by omega
      have e2 : ¬ (c = ni) := by omega
      have e3 : ni ≤ c := by omega
      have HCL := hcl.out
      go_wp2_with fail
      go_ret
      refine ⟨_, by rw [← HLE.out]; rfl, HFIN.out.1, by rw [← HLE.out]; exact HFIN.out.2.1, HFIN.out.2.2⟩
end Go.Proofs.Ytnigfipjcnamfaa.Ak

/- box.pair. -/
namespace Go.Proofs.Ytnigfipjcnamfaa
open Go.RowKit

/-- Whether both boxes are right, and of as many dimensions. -/
def pairB (R S T U : List Int) (n m k l : Nat) : Bool := rightB R S n m n && rightB T U k l n
theorem pairB_dims {R S T U : List Int} {n m k l : Nat} (h : pairB R S T U n m k l = true) : 1 ≤ n ∧ n ≤ 8 ∧ m = n ∧ k = n ∧ l = n := by
  unfold pairB at h
  rw [Bool.and_eq_true] at h
  have h1 := rightB_dims h.1
  have h2 := rightB_dims h.2
  omega
theorem box_two (w : World) (v u v2 u2 : Value) : ∀ w2, w2 = (w.alloc (.cells #[v, u] 25)).alloc (.cells #[v2, u2] 25) →
    (w2.cell? ⟨w.heap.size, 0, none⟩ = some v ∧ w2.cell? ⟨w.heap.size, 1, none⟩ = some u ∧ w2.cell? ⟨w.heap.size + 1, 0, none⟩ = some v2 ∧ w2.cell? ⟨w.heap.size + 1, 1, none⟩ = some u2) ∧ Below w.heap.size w w2 ∧ w2.heap.size = w.heap.size + 2 := by
  rintro w2 rfl
  obtain ⟨a0, a1⟩ := pair_alloc w v u 25
  have hs : (w.alloc (.cells #[v, u] 25)).heap.size = w.heap.size + 1 := by simp
  have hb1 : Below w.heap.size w (w.alloc (.cells #[v, u] 25)) := (Below.refl _ _).alloc (Nat.le_refl _) _
  generalize w.alloc (.cells #[v, u] 25) = w1 at *
  obtain ⟨b0, b1⟩ := pair_alloc w1 v2 u2 25
  have hb2 : Below w1.heap.size w1 (w1.alloc (.cells #[v2, u2] 25)) := (Below.refl _ _).alloc (Nat.le_refl _) _
  rw [hs] at b0 b1
  exact ⟨⟨(hb2.cell (p := ⟨w.heap.size, 0, none⟩) (by show w.heap.size < _; omega)).trans a0, (hb2.cell (p := ⟨w.heap.size, 1, none⟩) (by show w.heap.size < _; omega)).trans a1, b0, b1⟩, hb1.trans (hb2.mono (by omega)), by simp; omega⟩
/-- Two boxes that lie boxed, and their corners. -/
structure Four (w0 w : World) (a b : Nat) (p q r s : Option Addr) (n c m e k f l g : Nat) (R S T U : List Int) : Prop where
  ba : BoxAt w a p n c q m e
  bb : BoxAt w b r k f s l g
  la : a < w.heap.size
  lb : b < w.heap.size
  i1 : Ints w p n c R
  i2 : Ints w q m e S
  i3 : Ints w r k f T
  i4 : Ints w s l g U
  below : Below w0.heap.size w0 w
theorem Four.later {w0 w w' : World} {a b : Nat} {p q r s : Option Addr} {n c m e k f l g : Nat} {R S T U : List Int} (h : Four w0 w a b p q r s n c m e k f l g R S T U) (hb : Below w.heap.size w w') : Four w0 w' a b p q r s n c m e k f l g R S T U :=
  ⟨⟨(hb.cell (p := ⟨a, 0, none⟩) h.la).trans h.ba.1, (hb.cell (p := ⟨a, 1, none⟩) h.la).trans h.ba.2⟩, ⟨(hb.cell (p := ⟨b, 0, none⟩) h.lb).trans h.bb.1, (hb.cell (p := ⟨b, 1, none⟩) h.lb).trans h.bb.2⟩, Nat.lt_of_lt_of_le h.la hb.size, Nat.lt_of_lt_of_le h.lb hb.size,
    h.i1.later hb, h.i2.later hb, h.i3.later hb, h.i4.later hb, h.below.trans (hb.mono h.below.size)⟩
theorem four_of {w w2 : World} {p q r s : Option Addr} {n c m e k f l g : Nat} {R S T U : List Int} (h1 : Ints w p n c R) (h2 : Ints w q m e S) (h3 : Ints w r k f T) (h4 : Ints w s l g U)
    (h : w2 = (w.alloc (.cells #[.slice p n c, .slice q m e] 25)).alloc (.cells #[.slice r k f, .slice s l g] 25)) : Four w w2 w.heap.size (w.heap.size + 1) p q r s n c m e k f l g R S T U := by
  obtain ⟨⟨a0, a1, a2, a3⟩, hb, hs⟩ := box_two w _ _ _ _ w2 h
  exact ⟨⟨a0, a1⟩, ⟨a2, a3⟩, by omega, by omega, h1.later hb, h2.later hb, h3.later hb, h4.later hb, hb⟩
set_option maxRecDepth 100000 in
set_option maxHeartbeats 1000000 in
theorem pair_any (p q r s : Option Addr) (n c m e k f l g : Nat) (R S T U : List Int) (w : World) (h1 : Ints w p n c R) (h2 : Ints w q m e S) (h3 : Ints w r k f T) (h4 : Ints w s l g U) :
    Calls Try.prog 47 #[.agg #[.slice p n c, .slice q m e], .agg #[.slice r k f, .slice s l g]] w fun e w' => e = .returned (.bool (pairB R S T U n m k l)) ∧ Below w.heap.size w w' := by
  go_enter Try.func47, Try.ntmps47
  go_upto_region 1 with fail
  obtain ⟨w2, hw2⟩ : ∃ w2, w2 = (w.alloc (.cells #[.slice p n c, .slice q m e] 25)).alloc (.cells #[.slice r k f, .slice s l g] 25) := ⟨_, rfl⟩
  have HF := Lib.hid (four_of h1 h2 h3 h4 hw2)
  rw [← hw2]
  clear hw2 h1 h2 h3 h4
  have b := HF.out.ba
  obtain ⟨b0, b1⟩ := b
  have b := HF.out.bb
  obtain ⟨b2, b3⟩ := b
  go_wp2_with fail
  refine (right_any p q n c m e R S n w2 HF.out.i1 HF.out.i2).mono ?_
  rintro _ w3 ⟨rfl, hb3⟩
  have HG := Lib.hid (HF.out.later hb3)
  clear hb3 HF b0 b1 b2 b3
  have b := HG.out.ba
  obtain ⟨b0, b1⟩ := b
  have b := HG.out.bb
  obtain ⟨b2, b3⟩ := b
  cases hr : rightB R S n m n with
  | false =>
    have HR := Lib.hid (show pairB R S T U n m k l = false by unfold pairB; rw [hr]; rfl)
    clear hr
    go_wp2_with fail
    go_ret
    exact ⟨congrArg (fun b => Ending.returned (.bool b)) HR.out.symm, HG.out.below⟩
  | true =>
    have HR := Lib.hid (show pairB R S T U n m k l = rightB T U k l n by unfold pairB; rw [hr]; rfl)
    clear hr
    go_wp2_with fail
    refine (right_any r s k f l g T U n w3 HG.out.i3 HG.out.i4).mono ?_
    rintro _ w4 ⟨rfl, hb4⟩
    have HB := Lib.hid (HG.out.below.trans (hb4.mono HG.out.below.size))
    clear hb4
    go_wp2_with fail
    go_ret
    exact ⟨congrArg (fun b => Ending.returned (.bool b)) HR.out.symm, HB.out⟩
end Go.Proofs.Ytnigfipjcnamfaa

/- box.build over whatever function of the sides. -/
namespace Go.Proofs.Ytnigfipjcnamfaa
open Go.RowKit

def i64s (l : List Int) : Array Value := (l.map fun x => Value.int .i64 x).toArray
/-- The first k numbers told, the others 0. -/
def part (f : Nat → Int) (n k : Nat) : List Int := (List.range n).map fun i => if i < k then f i else 0
theorem part_length (f : Nat → Int) (n k : Nat) : (part f n k).length = n := by simp [part]
theorem part_get (f : Nat → Int) (n k i : Nat) (hi : i < n) : (part f n k).getD i 0 = if i < k then f i else 0 := by
  simp [part, List.getD_eq_getElem?_getD, hi]
theorem i64s_get (l : List Int) (i : Nat) (h : i < l.length) : (i64s l)[i]? = some (.int .i64 (l.getD i 0)) := by
  simp [i64s, List.getD_eq_getElem?_getD, List.getElem?_eq_getElem h]
theorem part_set (f : Nat → Int) (n k : Nat) : (i64s (part f n k)).setIfInBounds k (.int .i64 (f k)) = i64s (part f n (k + 1)) := by
  apply Array.ext'
  simp only [i64s, part, Array.toList_setIfInBounds, List.map_map]
  apply List.ext_getElem (by simp)
  intro i h1 h2
  rw [List.getElem_set]
  simp only [List.length_map, List.length_range] at h2
  by_cases hk : k = i
  · subst hk; simp
  · simp only [hk, if_false, List.getElem_map, List.getElem_range, Function.comp]
    by_cases h3 : i < k
    · rw [if_pos h3, if_pos (by omega)]
    · rw [if_neg h3, if_neg (by omega)]
/-- A row of a call's own. -/
def RowAt (w : World) (g : Nat) (L : List Int) : Prop := w.heap[g]? = some (.cells (i64s L) 2 (0, 0))
theorem RowAt.cell {w : World} {g : Nat} {L : List Int} (h : RowAt w g L) (i : Nat) (hi : i < L.length) : w.cell? ⟨g, i, none⟩ = some (.int .i64 (L.getD i 0)) := by
  rw [cell_of_row w g i _ _ _ h, i64s_get L i hi]
theorem RowAt.free {w : World} {g : Nat} {L : List Int} (h : RowAt w g L) (i : Nat) : w.frozen? ⟨g, i, none⟩ = false := frozen_of_row w g i _ _ h
theorem RowAt.lt {w : World} {g : Nat} {L : List Int} (h : RowAt w g L) : g < w.heap.size := (Array.getElem?_eq_some_iff.1 h).1
theorem RowAt.later {w w' : World} {g : Nat} {L : List Int} (h : RowAt w g L) {n : Nat} (hb : Below n w w') (hn : g < n) : RowAt w' g L := (hb.block _ hn).trans h
theorem RowAt.ints {w : World} {g : Nat} {L : List Int} (h : RowAt w g L) (hL : ∀ x ∈ L, -9223372036854775808 ≤ x ∧ x ≤ 9223372036854775807) : Ints w (some ⟨g, 0, none⟩) L.length L.length L :=
  ⟨rfl, Nat.le_refl _, hL, Or.inr ⟨g, 0, rfl, fun i hi => by rw [Nat.zero_add]; exact h.cell i hi⟩⟩
theorem made_part (f : Nat → Int) (n : Nat) : madeCells (Value.cells (.int .i64 0)) n = i64s (part f n 0) := by
  apply Array.ext
  · simp [size_madeCells, i64s, part, Value.cells]
  · intro i h1 h2
    simp [madeCells, i64s, part, Value.cells, Nat.mod_one]
theorem A23 : Try.prog.underlying 23 = some (.slice 2) := by kernel_rfl
theorem I2i : (Try.prog.info? 2).map (fun i => (i.zero, i.size, i.bytes)) = some (some (.int .i64 0), 1, 8) := by kernel_rfl
theorem make_row (n : Nat) (h8 : n ≤ 8) (f : Nat → Int) (w : World) : (Instr.makeSlice 23 (.int .i64 n) (.int .i64 n)).run Try.prog w = .ok (.slice (some ⟨w.heap.size, 0, none⟩) n n) (w.alloc (.cells (i64s (part f n 0)) 2)) := by
  obtain ⟨i2, hi, hi0, hi1, hi2⟩ := info_parts I2i
  have := run_make (P := Try.prog) w 23 2 i2 _ A23 hi hi0 .i64 .i64 n n (by omega) (by omega) (by rw [hi2]; omega) (by omega)
  rw [this, hi1]
  simp only [Int.toNat_natCast, Nat.mul_one, made_part f]
theorem part_zero (f g : Nat → Int) (n : Nat) : part f n 0 = part g n 0 := by simp [part]
/-- What lies behind the three that the call makes. -/
structure Made (w : World) (g1 g2 gb n : Nat) (L M : List Int) (wx : World) : Prop where
  r1 : RowAt wx g1 L
  r2 : RowAt wx g2 M
  bx : wx.heap[gb]? = some (.cells #[.slice (some ⟨g1, 0, none⟩) n n, .slice (some ⟨g2, 0, none⟩) n n] 25 (0, 0))
  res : wx.heap[w.heap.size]? = some (.cells #[.slice none 0 0, .slice none 0 0] 25 (0, 0))
  ne : (g1 ≠ g2 ∧ g1 ≠ gb ∧ g2 ≠ gb) ∧ w.heap.size < g1 ∧ w.heap.size < g2 ∧ w.heap.size < gb
  below : Below w.heap.size w wx
/-- What the function of a side tells: two numbers. -/
def Sides (w : World) (n : Nat) (f g : Nat → Int) (F : Nat) (cap : Array Value) : Prop :=
  ∀ (k : Nat) (w' : World), k < n → Below w.heap.size w w' → Calls Try.prog F (#[.int .i64 k] ++ cap) w' fun e w'' => e = .returned (.tuple #[.int .i64 (f k), .int .i64 (g k)]) ∧ ∃ j, w'' = w'.drewN j
theorem heap3 (w : World) (a b c : Array Value) (ta tb tc : TypeId) :
    (((w.alloc (.cells a ta)).alloc (.cells b tb)).alloc (.cells c tc)).drew.heap[w.heap.size]? = some (.cells a ta (0, 0)) ∧ (((w.alloc (.cells a ta)).alloc (.cells b tb)).alloc (.cells c tc)).drew.heap[w.heap.size + 1]? = some (.cells b tb (0, 0)) ∧
    (((w.alloc (.cells a ta)).alloc (.cells b tb)).alloc (.cells c tc)).drew.heap[w.heap.size + 1 + 1]? = some (.cells c tc (0, 0)) ∧ Below w.heap.size w (((w.alloc (.cells a ta)).alloc (.cells b tb)).alloc (.cells c tc)).drew := by
  have s1 : (w.alloc (.cells a ta)).heap.size = w.heap.size + 1 := by simp
  have s2 : ((w.alloc (.cells a ta)).alloc (.cells b tb)).heap.size = w.heap.size + 1 + 1 := by simp
  have h1 := heap_alloc_new w (.cells a ta)
  have b1 : Below w.heap.size w (w.alloc (.cells a ta)) := (Below.refl _ _).alloc (Nat.le_refl _) _
  generalize w.alloc (.cells a ta) = w1 at *
  have h2 := heap_alloc_new w1 (.cells b tb)
  have b2 : Below w1.heap.size w1 (w1.alloc (.cells b tb)) := (Below.refl _ _).alloc (Nat.le_refl _) _
  generalize w1.alloc (.cells b tb) = w2 at *
  have h3 := heap_alloc_new w2 (.cells c tc)
  have b3 : Below w2.heap.size w2 (w2.alloc (.cells c tc)) := (Below.refl _ _).alloc (Nat.le_refl _) _
  generalize w2.alloc (.cells c tc) = w3 at *
  rw [s1] at h2
  rw [s2] at h3
  exact ⟨(b3.block _ (by omega)).trans ((b2.block _ (by omega)).trans h1), (b3.block _ (by omega)).trans h2, h3, (b1.trans ((b2.trans (b3.mono (by omega))).mono (by omega))).drew⟩
theorem made_mk {w w1 W : World} {g1 g2 gb n : Nat} {L M : List Int} (hr : w1.heap[w.heap.size]? = some (.cells #[.slice none 0 0, .slice none 0 0] 25 (0, 0))) (hb : Below w.heap.size w w1) (hsz : w1.heap.size = w.heap.size + 1) (hW : Below w1.heap.size w1 W)
    (r1 : RowAt W g1 L) (r2 : RowAt W g2 M) (bx : W.heap[gb]? = some (.cells #[.slice (some ⟨g1, 0, none⟩) n n, .slice (some ⟨g2, 0, none⟩) n n] 25 (0, 0))) (ne : (g1 ≠ g2 ∧ g1 ≠ gb ∧ g2 ≠ gb) ∧ w1.heap.size ≤ g1 ∧ w1.heap.size ≤ g2 ∧ w1.heap.size ≤ gb) : Made w g1 g2 gb n L M W :=
  ⟨r1, r2, bx, (hW.block _ (by omega)).trans hr, ⟨ne.1, by omega, by omega, by omega⟩, hb.trans (hW.mono (by omega))⟩
/-- Which of three new blocks it is. -/
def At3 (sz : Nat) (a b c : Array Value × TypeId) (g : Nat) (x : Array Value × TypeId) : Prop := (g = sz ∧ x = a) ∨ (g = sz + 1 ∧ x = b) ∨ (g = sz + 1 + 1 ∧ x = c)
theorem made_3 {w w1 : World} {a b c : Array Value} {ta tb tc : TypeId} {g1 g2 gb n : Nat} {L M : List Int} (hr : w1.heap[w.heap.size]? = some (.cells #[.slice none 0 0, .slice none 0 0] 25 (0, 0))) (hb : Below w.heap.size w w1) (hsz : w1.heap.size = w.heap.size + 1)
    (h3 : At3 w1.heap.size (a, ta) (b, tb) (c, tc) gb (#[.slice (some ⟨g1, 0, none⟩) n n, .slice (some ⟨g2, 0, none⟩) n n], 25)) (h1 : At3 w1.heap.size (a, ta) (b, tb) (c, tc) g1 (i64s L, 2)) (h2 : At3 w1.heap.size (a, ta) (b, tb) (c, tc) g2 (i64s M, 2)) (ne : g1 ≠ g2 ∧ g1 ≠ gb ∧ g2 ≠ gb) :
    Made w g1 g2 gb n L M (((w1.alloc (.cells a ta)).alloc (.cells b tb)).alloc (.cells c tc)).drew := by
  obtain ⟨q1, q2, q3, q4⟩ := heap3 w1 a b c ta tb tc
  have key : ∀ g x, At3 w1.heap.size (a, ta) (b, tb) (c, tc) g x → (((w1.alloc (.cells a ta)).alloc (.cells b tb)).alloc (.cells c tc)).drew.heap[g]? = some (.cells x.1 x.2 (0, 0)) ∧ w1.heap.size ≤ g := by
    rintro g x (⟨rfl, rfl⟩ | ⟨rfl, rfl⟩ | ⟨rfl, rfl⟩)
    · exact ⟨q1, Nat.le_refl _⟩
    · exact ⟨q2, by omega⟩
    · exact ⟨q3, by omega⟩
  exact made_mk hr hb hsz q4 (key _ _ h1).1 (key _ _ h2).1 (key _ _ h3).1 ⟨ne, (key _ _ h1).2, (key _ _ h2).2, (key _ _ h3).2⟩
theorem Made.later {w w' wx : World} {g1 g2 gb n : Nat} {L M : List Int} (h : Made w g1 g2 gb n L M wx) (hb : Below wx.heap.size wx w') : Made w g1 g2 gb n L M w' :=
  ⟨h.r1.later hb h.r1.lt, h.r2.later hb h.r2.lt, (hb.block _ (Array.getElem?_eq_some_iff.1 h.bx).1).trans h.bx, (hb.block _ (Array.getElem?_eq_some_iff.1 h.res).1).trans h.res, h.ne, h.below.trans (hb.mono h.below.size)⟩
theorem Made.set {w wx : World} {g1 g2 gb n k : Nat} {f g : Nat → Int} (h : Made w g1 g2 gb n (part f n k) (part g n k) wx) :
    Made w g1 g2 gb n (part f n (k + 1)) (part g n (k + 1)) ((wx.setCell ⟨g1, k, none⟩ (.int .i64 (f k))).setCell ⟨g2, k, none⟩ (.int .i64 (g k))) := by
  have h1 := heap_setCell_same wx g1 k _ _ (.int .i64 (f k)) h.r1
  rw [part_set] at h1
  have h2 : RowAt (wx.setCell ⟨g1, k, none⟩ (.int .i64 (f k))) g2 (part g n k) := (heap_setCell_other _ _ _ _ (Ne.symm h.ne.1.1)).trans h.r2
  have h3 := heap_setCell_same _ g2 k _ _ (.int .i64 (g k)) h2
  rw [part_set] at h3
  have o : ∀ b, b ≠ g1 → b ≠ g2 → ((wx.setCell ⟨g1, k, none⟩ (.int .i64 (f k))).setCell ⟨g2, k, none⟩ (.int .i64 (g k))).heap[b]? = wx.heap[b]? := fun b n1 n2 => (heap_setCell_other _ _ _ _ n2).trans (heap_setCell_other _ _ _ _ n1)
  exact ⟨(heap_setCell_other _ _ _ _ h.ne.1.1).trans h1, h3, (o _ (Ne.symm h.ne.1.2.1) (Ne.symm h.ne.1.2.2)).trans h.bx, (o _ (Nat.ne_of_lt h.ne.2.1) (Nat.ne_of_lt h.ne.2.2.1)).trans h.res, h.ne,
    (h.below.setCell (p := ⟨g1, k, none⟩) (Nat.le_of_lt h.ne.2.1) _).setCell (p := ⟨g2, k, none⟩) (Nat.le_of_lt h.ne.2.2.1) _⟩
/-- What a round reads and writes. -/
structure MadeCells (g1 g2 gb n k : Nat) (x y u : Value) (wx : World) : Prop where
  b0 : wx.cell? ⟨gb, 0, none⟩ = some (.slice (some ⟨g1, 0, none⟩) n n)
  b1 : wx.cell? ⟨gb, 1, none⟩ = some (.slice (some ⟨g2, 0, none⟩) n n)
  c1 : wx.cell? ⟨g1, k, none⟩ = some x
  c2 : wx.cell? ⟨g2, k, none⟩ = some y
  f1 : wx.frozen? ⟨g1, k, none⟩ = false
  f2 : wx.frozen? ⟨g2, k, none⟩ = false
  d1 : (wx.setCell ⟨g1, k, none⟩ u).cell? ⟨gb, 1, none⟩ = some (.slice (some ⟨g2, 0, none⟩) n n)
  e2 : (wx.setCell ⟨g1, k, none⟩ u).cell? ⟨g2, k, none⟩ = some y
  g2 : (wx.setCell ⟨g1, k, none⟩ u).frozen? ⟨g2, k, none⟩ = false
theorem Made.cells {w wx : World} {g1 g2 gb n k : Nat} {L M : List Int} (h : Made w g1 g2 gb n L M wx) (hL : k < L.length) (hM : k < M.length) (u : Value) : MadeCells g1 g2 gb n k (.int .i64 (L.getD k 0)) (.int .i64 (M.getD k 0)) u wx := by
  have hb : (wx.setCell ⟨g1, k, none⟩ u).heap[gb]? = _ := (heap_setCell_other _ _ _ _ (Ne.symm h.ne.1.2.1)).trans h.bx
  have h2 : RowAt (wx.setCell ⟨g1, k, none⟩ u) g2 M := (heap_setCell_other _ _ _ _ (Ne.symm h.ne.1.1)).trans h.r2
  exact ⟨cell_of_row wx gb 0 _ _ _ h.bx, cell_of_row wx gb 1 _ _ _ h.bx, h.r1.cell k hL, h.r2.cell k hM, h.r1.free k, h.r2.free k, cell_of_row _ gb 1 _ _ _ hb, h2.cell k hM, h2.free k⟩
theorem Made.done {w wx : World} {g1 g2 gb n : Nat} {L M : List Int} (h : Made w g1 g2 gb n L M wx) :
    (wx.cell? ⟨gb, 0, none⟩ = some (.slice (some ⟨g1, 0, none⟩) n n) ∧ wx.cell? ⟨gb, 1, none⟩ = some (.slice (some ⟨g2, 0, none⟩) n n) ∧ wx.cell? ⟨w.heap.size, 0, none⟩ = some (.slice none 0 0) ∧ wx.cell? ⟨w.heap.size, 1, none⟩ = some (.slice none 0 0) ∧ wx.frozen? ⟨w.heap.size, 0, none⟩ = false ∧ wx.frozen? ⟨w.heap.size, 1, none⟩ = false) ∧
    ((wx.setCell ⟨w.heap.size, 0, none⟩ (.slice (some ⟨g1, 0, none⟩) n n)).setCell ⟨w.heap.size, 1, none⟩ (.slice (some ⟨g2, 0, none⟩) n n)).heap[w.heap.size]? = some (.cells #[.slice (some ⟨g1, 0, none⟩) n n, .slice (some ⟨g2, 0, none⟩) n n] 25 (0, 0)) ∧
    (RowAt ((wx.setCell ⟨w.heap.size, 0, none⟩ (.slice (some ⟨g1, 0, none⟩) n n)).setCell ⟨w.heap.size, 1, none⟩ (.slice (some ⟨g2, 0, none⟩) n n)) g1 L ∧ RowAt ((wx.setCell ⟨w.heap.size, 0, none⟩ (.slice (some ⟨g1, 0, none⟩) n n)).setCell ⟨w.heap.size, 1, none⟩ (.slice (some ⟨g2, 0, none⟩) n n)) g2 M ∧ w.heap.size < g1 ∧ w.heap.size < g2 ∧ g1 ≠ g2 ∧
      Below w.heap.size w ((wx.setCell ⟨w.heap.size, 0, none⟩ (.slice (some ⟨g1, 0, none⟩) n n)).setCell ⟨w.heap.size, 1, none⟩ (.slice (some ⟨g2, 0, none⟩) n n))) := by
  have h1 := heap_setCell_same wx w.heap.size 0 _ _ (.slice (some ⟨g1, 0, none⟩) n n) h.res
  have h2 := heap_setCell_same _ w.heap.size 1 _ _ (.slice (some ⟨g2, 0, none⟩) n n) h1
  have o : ∀ b, b ≠ w.heap.size → ((wx.setCell ⟨w.heap.size, 0, none⟩ (.slice (some ⟨g1, 0, none⟩) n n)).setCell ⟨w.heap.size, 1, none⟩ (.slice (some ⟨g2, 0, none⟩) n n)).heap[b]? = wx.heap[b]? := fun b nb => (heap_setCell_other _ _ _ _ nb).trans (heap_setCell_other _ _ _ _ nb)
  exact ⟨⟨cell_of_row wx gb 0 _ _ _ h.bx, cell_of_row wx gb 1 _ _ _ h.bx, cell_of_row wx _ 0 _ _ _ h.res, cell_of_row wx _ 1 _ _ _ h.res, frozen_of_row wx _ 0 _ _ h.res, frozen_of_row wx _ 1 _ _ h.res⟩, h2,
    (o _ (Nat.ne_of_gt h.ne.2.1)).trans h.r1, (o _ (Nat.ne_of_gt h.ne.2.2.1)).trans h.r2, h.ne.2.1, h.ne.2.2.1, h.ne.1.1, (h.below.setCell (p := ⟨w.heap.size, 0, none⟩) (Nat.le_refl _) _).setCell (p := ⟨w.heap.size, 1, none⟩) (Nat.le_refl _) _⟩
theorem ret_box {fn : Func} {P : Ending → World → Prop} (p : Tmp) (hr : fn.results = #[.cell p 25]) {tmps : Array Value} {w : World} (g : Nat) (a b : Value)
    (hp : tmps.getD p undef = .pointer (some ⟨g, 0, none⟩)) (hg : w.heap[g]? = some (.cells #[a, b] 25 (0, 0))) (h : P (.returned (.agg #[a, b])) w) : bodyPost Try.prog fn P .ret ⟨tmps, []⟩ w := by
  have r0 := cell_of_row w g 0 _ _ _ hg
  have r1 := cell_of_row w g 1 _ _ _ hg
  refine bodyPost_ret (a := ⟨tmps, []⟩) (v := .agg #[a, b]) ?_ rfl h
  have hp' : tmps[p]?.getD undef = .pointer (some ⟨g, 0, none⟩) := by simpa using hp
  simp [results, hr, hp', go_sem, r0, r1]
def BuildRel (w : World) (g1 g2 gb n : Nat) (f g : Nat → Int) (i : Value) (wr : World) : Prop := ∃ k, k ≤ n ∧ i = .int .i64 k ∧ Made w g1 g2 gb n (part f n k) (part g n k) wr
set_option maxRecDepth 100000 in
set_option maxHeartbeats 4000000 in
theorem build_any (n : Nat) (h1 : 1 ≤ n) (h8 : n ≤ 8) (f g : Nat → Int) (F : Nat) (cap : Array Value) (hF : ∀ args w, (callFunc F args).run Try.prog w = .ok (.enter F args) w) (w : World) (hs : Sides w n f g F cap) :
    Calls Try.prog 50 #[.int .i64 n, .func (.func F) #[] cap] w fun e w' => ∃ g1 g2 : Nat, e = .returned (.agg #[.slice (some ⟨g1, 0, none⟩) n n, .slice (some ⟨g2, 0, none⟩) n n]) ∧ RowAt w' g1 (part f n n) ∧ RowAt w' g2 (part g n n) ∧ w.heap.size < g1 ∧ w.heap.size < g2 ∧ g1 ≠ g2 ∧ Below w.heap.size w w' := by
  have HS := Lib.hid hs
  clear hs
  have M1 := make_row n h8 f
  go_enter Try.func50, Try.ntmps50
  go_upto_region 1 with fail
  have hr : (w.alloc (.cells #[.slice none 0 0, .slice none 0 0] 25)).heap[w.heap.size]? = some (.cells #[.slice none 0 0, .slice none 0 0] 25 (0, 0)) := heap_alloc_new w _
  have hb : Below w.heap.size w (w.alloc (.cells #[.slice none 0 0, .slice none 0 0] 25)) := (Below.refl _ _).alloc (Nat.le_refl _) _
  have hsz : (w.alloc (.cells #[.slice none 0 0, .slice none 0 0] 25)).heap.size = w.heap.size + 1 := by simp
  generalize w.alloc (.cells #[.slice none 0 0, .slice none 0 0] 25) = w1 at *
  have HR := Lib.hid hr
  have HB := Lib.hid hb
  have HSZ := Lib.hid hsz
  clear hr hb hsz
  go_cut [5] (fun s5 wx => ∃ g1 g2 gb, s5 = .pointer (some ⟨gb, 0, none⟩) ∧ Made w g1 g2 gb n (part f n 0) (part f n 0) wx)
  case first =>
    go_region
    all_goals
      go_wp2_with fail
      go_meet
      first
        | exact ⟨w1.heap.size, w1.heap.size + 1, w1.heap.size + 1 + 1, rfl, made_3 HR.out HB.out HSZ.out (Or.inr (Or.inr ⟨rfl, rfl⟩)) (Or.inl ⟨rfl, rfl⟩) (Or.inr (Or.inl ⟨rfl, rfl⟩)) (by omega)⟩
        | exact ⟨w1.heap.size, w1.heap.size + 1 + 1, w1.heap.size + 1, rfl, made_3 HR.out HB.out HSZ.out (Or.inr (Or.inl ⟨rfl, rfl⟩)) (Or.inl ⟨rfl, rfl⟩) (Or.inr (Or.inr ⟨rfl, rfl⟩)) (by omega)⟩
        | exact ⟨w1.heap.size + 1, w1.heap.size, w1.heap.size + 1 + 1, rfl, made_3 HR.out HB.out HSZ.out (Or.inr (Or.inr ⟨rfl, rfl⟩)) (Or.inr (Or.inl ⟨rfl, rfl⟩)) (Or.inl ⟨rfl, rfl⟩) (by omega)⟩
        | exact ⟨w1.heap.size + 1, w1.heap.size + 1 + 1, w1.heap.size, rfl, made_3 HR.out HB.out HSZ.out (Or.inl ⟨rfl, rfl⟩) (Or.inr (Or.inl ⟨rfl, rfl⟩)) (Or.inr (Or.inr ⟨rfl, rfl⟩)) (by omega)⟩
        | exact ⟨w1.heap.size + 1 + 1, w1.heap.size, w1.heap.size + 1, rfl, made_3 HR.out HB.out HSZ.out (Or.inr (Or.inl ⟨rfl, rfl⟩)) (Or.inr (Or.inr ⟨rfl, rfl⟩)) (Or.inl ⟨rfl, rfl⟩) (by omega)⟩
        | exact ⟨w1.heap.size + 1 + 1, w1.heap.size + 1, w1.heap.size, rfl, made_3 HR.out HB.out HSZ.out (Or.inl ⟨rfl, rfl⟩) (Or.inr (Or.inr ⟨rfl, rfl⟩)) (Or.inr (Or.inl ⟨rfl, rfl⟩)) (by omega)⟩
  case rest =>
    obtain ⟨g1, g2, gb, rfl, hm⟩ := hcut
    have HM := Lib.hid (show Made w g1 g2 gb n (part f n 0) (part g n 0) _ from by rw [← part_zero f g n]; exact hm)
    clear hm HR HB HSZ M1
    clear w1
    go_wp2_with fail
    go_loopw [13] (fun i wr => BuildRel w g1 g2 gb n f g i wr) (fun i _ => n - (intOf i).toNat)
    case atStart => exact ⟨0, by omega, rfl, HM.out⟩
    case round =>
      obtain ⟨k, hk, rfl, hm⟩ := hrel
      clear HM
      have HM := Lib.hid hm
      clear hm
      by_cases hlt : k < n
      · have HC := Lib.hid (show ∀ w', Made w g1 g2 gb n (part f n k) (part g n k) w' → Calls Try.prog F (#[.int .i64 k] ++ cap) w' fun e w'' => e = .returned (.tuple #[.int .i64 (f k), .int .i64 (g k)]) ∧ Made w g1 g2 gb n (part f n k) (part g n k) w'' from fun w' hw' =>
          (HS.out k w' hlt hw'.below).mono (by rintro e w'' ⟨h1, j, rfl⟩; exact ⟨h1, hw'.later (Below.drewN (Below.refl _ _) j)⟩))
        have HX := Lib.hid (show ∀ w', Made w g1 g2 gb n (part f n k) (part g n k) w' → MadeCells g1 g2 gb n k _ _ (.int .i64 (f k)) w' from fun w' hw' => hw'.cells (by rw [part_length]; exact hlt) (by rw [part_length]; exact hlt) _)
        have HT := Lib.hid (show ∀ w', Made w g1 g2 gb n (part f n k) (part g n k) w' → _ from fun w' hw' => hw'.set)
        have HD := Lib.hid (HM.out.later (Below.refl _ _).drew)
        obtain ⟨a0, a1, a2, a3, a4, a5, a6, a7, a8⟩ := HX.out _ HM.out
        generalize (part f n k).getD k 0 = x at *
        generalize (part g n k).getD k 0 = y at *
        have i1 : (0 : Int) ≤ k ∧ (k : Int) < n := by omega
        go_wp2_with fail
        go_region_law (go_simp; refine (HC.out _ (by first | exact HM.out | exact HD.out)).mono ?_; rintro e w5 ⟨rfl, hm5⟩; have HM5 := Lib.hid hm5; obtain ⟨y0, y1, y2, y3, y4, y5, y6, y7, y8⟩ := HX.out _ hm5; clear hm5)
        all_goals
          have hm6 := HT.out _ HM5.out
          generalize (w5.setCell ⟨g1, k, none⟩ (.int .i64 (f k))).setCell ⟨g2, k, none⟩ (.int .i64 (g k)) = w6 at *
          have HM6 := Lib.hid hm6
          clear hm6 y0 y1 y2 y3 y4 y5 y6 y7 y8 a0 a1 a2 a3 a4 a5 a6 a7 a8
          go_wp2_with fail
          go_roundw
          case rel => exact ⟨k + 1, by omega, by go_num, HM6.out⟩
          case measure => simp [intOf]; omega
      · obtain rfl : k = n := by omega
        obtain ⟨hq1, hq2, hq3⟩ := HM.out.done
        have HQ2 := Lib.hid hq2
        have HQ3 := Lib.hid hq3
        obtain ⟨c0, c1, c2, c3, c4, c5⟩ := hq1
        clear hq2 hq3
        go_wp2_with fail
        generalize (wr.setCell ⟨w.heap.size, 0, none⟩ (.slice (some ⟨g1, 0, none⟩) k k)).setCell ⟨w.heap.size, 1, none⟩ (.slice (some ⟨g2, 0, none⟩) k k) = w9 at *
        exact ret_box 4 rfl w.heap.size _ _ rfl HQ2.out ⟨g1, g2, rfl, HQ3.out⟩
end Go.Proofs.Ytnigfipjcnamfaa

/- box.Of; a box of a call's own that is laid in the result. -/
namespace Go.Proofs.Ytnigfipjcnamfaa
open Go.RowKit

/-- A block that holds a box. -/
def Bx (w : World) (g : Nat) (a b : Value) : Prop := w.heap[g]? = some (.cells #[a, b] 25 (0, 0))
theorem Bx.facts {w : World} {g : Nat} {a b : Value} (h : Bx w g a b) : w.cell? ⟨g, 0, none⟩ = some a ∧ w.cell? ⟨g, 1, none⟩ = some b ∧ w.frozen? ⟨g, 0, none⟩ = false ∧ w.frozen? ⟨g, 1, none⟩ = false :=
  ⟨cell_of_row w g 0 _ _ _ h, cell_of_row w g 1 _ _ _ h, frozen_of_row w g 0 _ _ h, frozen_of_row w g 1 _ _ h⟩
theorem Bx.set {w : World} {g : Nat} {a b : Value} (h : Bx w g a b) (x y : Value) : Bx ((w.setCell ⟨g, 0, none⟩ x).setCell ⟨g, 1, none⟩ y) g x y :=
  heap_setCell_same _ g 1 _ _ y (heap_setCell_same w g 0 _ _ x h)
theorem Bx.lt {w : World} {g : Nat} {a b : Value} (h : Bx w g a b) : g < w.heap.size := (Array.getElem?_eq_some_iff.1 h).1
theorem Bx.later {w w' : World} {g : Nat} {a b : Value} (h : Bx w g a b) (hb : Below w.heap.size w w') : Bx w' g a b := (hb.block _ h.lt).trans h
theorem Bx.fresh (w : World) (a b : Value) : Bx (w.alloc (.cells #[a, b] 25)) w.heap.size a b := heap_alloc_new w _
theorem RowAt.kept {w : World} {g k : Nat} {L : List Int} (h : RowAt w g L) (hk : g ≠ k) (x y : Value) : RowAt ((w.setCell ⟨k, 0, none⟩ x).setCell ⟨k, 1, none⟩ y) g L :=
  (heap_setCell_other _ _ _ _ hk).trans ((heap_setCell_other _ _ _ _ hk).trans h)
theorem part_ok {f : Nat → Int} {n k : Nat} (h : ∀ i, i < n → -9223372036854775808 ≤ f i ∧ f i ≤ 9223372036854775807) : ∀ x ∈ part f n k, -9223372036854775808 ≤ x ∧ x ≤ 9223372036854775807 := by
  intro x hx
  simp only [part, List.mem_map, List.mem_range] at hx
  obtain ⟨i, hi, rfl⟩ := hx
  split
  · exact h i hi
  · omega
/-- A box of a call's own, made of two functions of the side. -/
def MadeBox (w : World) (f g : Nat → Int) (n : Nat) (v : Value) (w' : World) : Prop :=
  ∃ g1 g2 : Nat, v = .agg #[.slice (some ⟨g1, 0, none⟩) n n, .slice (some ⟨g2, 0, none⟩) n n] ∧ Ints w' (some ⟨g1, 0, none⟩) n n (part f n n) ∧ Ints w' (some ⟨g2, 0, none⟩) n n (part g n n) ∧ Below w.heap.size w w'
theorem RowAt.part {w : World} {g n : Nat} {f : Nat → Int} (h : RowAt w g (part f n n)) (hf : ∀ i, i < n → -9223372036854775808 ≤ f i ∧ f i ≤ 9223372036854775807) : Ints w (some ⟨g, 0, none⟩) n n (part f n n) := by
  have := h.ints (part_ok hf)
  rw [part_length] at this
  exact this
/-- What stands behind the box's being laid in the result. -/
theorem box_laid {w0 w w' : World} {R g1 g2 n : Nat} {a b : Value} {f g : Nat → Int} (hx : Bx w R a b) (hR : w0.heap.size ≤ R) (hw : Below w0.heap.size w0 w) (hb : Below w.heap.size w w')
    (h1 : RowAt w' g1 (part f n n)) (h2 : RowAt w' g2 (part g n n)) (l1 : w.heap.size < g1) (l2 : w.heap.size < g2) (hf : ∀ i, i < n → -9223372036854775808 ≤ f i ∧ f i ≤ 9223372036854775807) (hg : ∀ i, i < n → -9223372036854775808 ≤ g i ∧ g i ≤ 9223372036854775807) :
    Bx ((w'.setCell ⟨R, 0, none⟩ (.slice (some ⟨g1, 0, none⟩) n n)).setCell ⟨R, 1, none⟩ (.slice (some ⟨g2, 0, none⟩) n n)) R (.slice (some ⟨g1, 0, none⟩) n n) (.slice (some ⟨g2, 0, none⟩) n n) ∧
    MadeBox w0 f g n (.agg #[.slice (some ⟨g1, 0, none⟩) n n, .slice (some ⟨g2, 0, none⟩) n n]) ((w'.setCell ⟨R, 0, none⟩ (.slice (some ⟨g1, 0, none⟩) n n)).setCell ⟨R, 1, none⟩ (.slice (some ⟨g2, 0, none⟩) n n)) := by
  have hlt := hx.lt
  refine ⟨(hx.later hb).set _ _, g1, g2, rfl, (h1.kept (by omega) _ _).part hf, (h2.kept (by omega) _ _).part hg, ?_⟩
  exact ((hw.trans (hb.mono hw.size)).setCell (p := ⟨R, 0, none⟩) hR _).setCell (p := ⟨R, 1, none⟩) hR _
end Go.Proofs.Ytnigfipjcnamfaa

/- A query that lies boxed. -/
namespace Go.Proofs.Ytnigfipjcnamfaa.Ak
open Go.RowKit

/-- Whether a query may be for d dimensions. -/
def rightQ (R S : List Int) (n m : Nat) (kd cl : Int) (an : Nat) (lim : Int) (cnt : Bool) (d : Int) : Bool :=
  rightB R S n m d && (if cnt = true then decide (kd = 0 ∧ cl = 0 ∧ (an : Int) = 0 ∧ lim = 0) else decide (ordP kd cl an d) && decide (-1 ≤ lim ∧ lim ≤ 1000))
theorem rightQ_box {R S : List Int} {n m : Nat} {kd cl : Int} {an : Nat} {lim : Int} {cnt : Bool} {d : Int} (h : rightQ R S n m kd cl an lim cnt d = true) : rightB R S n m d = true := (Bool.and_eq_true_iff.1 h).1
theorem rightQ_ord {R S : List Int} {n m : Nat} {kd cl : Int} {an : Nat} {lim : Int} {d : Int} (h : rightQ R S n m kd cl an lim false d = true) : ordP kd cl an d ∧ -1 ≤ lim ∧ lim ≤ 1000 := by
  have h2 := (Bool.and_eq_true_iff.1 h).2
  rw [if_neg (by simp)] at h2
  obtain ⟨h3, h4⟩ := Bool.and_eq_true_iff.1 h2
  exact ⟨of_decide_eq_true h3, of_decide_eq_true h4⟩
/-- A query in a block. -/
structure QIn (w0 w : World) (g : Nat) (p : Option Addr) (n c : Nat) (R : List Int) (q : Option Addr) (m e : Nat) (S : List Int) (kd cl : Int) (a : Option Addr) (an ac : Nat) (A : List Int) (lim : Int) (cnt : Bool) : Prop where
  row : w.heap[g]? = some (.cells #[.slice p n c, .slice q m e, .int .u8 kd, .int .i64 cl, .slice a an ac, .int .i64 lim, .bool cnt] 29 (0, 0))
  lo : Ints w p n c R
  hi : Ints w q m e S
  at' : Ints w a an ac A
  below : Below w0.heap.size w0 w
section
variable {w0 w w' : World} {g : Nat} {p : Option Addr} {n c : Nat} {R : List Int} {q : Option Addr} {m e : Nat} {S : List Int} {kd cl : Int} {a : Option Addr} {an ac : Nat} {A : List Int} {lim : Int} {cnt : Bool}
theorem QIn.lt (h : QIn w0 w g p n c R q m e S kd cl a an ac A lim cnt) : g < w.heap.size := (Array.getElem?_eq_some_iff.1 h.row).1
theorem QIn.later (h : QIn w0 w g p n c R q m e S kd cl a an ac A lim cnt) (hb : Below w.heap.size w w') : QIn w0 w' g p n c R q m e S kd cl a an ac A lim cnt :=
  ⟨(hb.block _ h.lt).trans h.row, h.lo.later hb, h.hi.later hb, h.at'.later hb, h.below.trans (hb.mono h.below.size)⟩
theorem QIn.cells (h : QIn w0 w g p n c R q m e S kd cl a an ac A lim cnt) : w.cell? ⟨g, 0, none⟩ = some (.slice p n c) ∧ w.cell? ⟨g, 1, none⟩ = some (.slice q m e) ∧ w.cell? ⟨g, 2, none⟩ = some (.int .u8 kd) ∧ w.cell? ⟨g, 3, none⟩ = some (.int .i64 cl) ∧ w.cell? ⟨g, 4, none⟩ = some (.slice a an ac) ∧ w.cell? ⟨g, 5, none⟩ = some (.int .i64 lim) ∧ w.cell? ⟨g, 6, none⟩ = some (.bool cnt) :=
  ⟨cell_of_row w g 0 _ _ _ h.row, cell_of_row w g 1 _ _ _ h.row, cell_of_row w g 2 _ _ _ h.row, cell_of_row w g 3 _ _ _ h.row, cell_of_row w g 4 _ _ _ h.row, cell_of_row w g 5 _ _ _ h.row, cell_of_row w g 6 _ _ _ h.row⟩
theorem q_in (hR : Ints w p n c R) (hS : Ints w q m e S) (hA : Ints w a an ac A) : QIn w (w.alloc (.cells #[.slice p n c, .slice q m e, .int .u8 kd, .int .i64 cl, .slice a an ac, .int .i64 lim, .bool cnt] 29)) w.heap.size p n c R q m e S kd cl a an ac A lim cnt := by
  have hb : Below w.heap.size w (w.alloc (.cells #[.slice p n c, .slice q m e, .int .u8 kd, .int .i64 cl, .slice a an ac, .int .i64 lim, .bool cnt] 29)) := (Below.refl _ _).alloc (Nat.le_refl _) _
  exact ⟨heap_alloc_new w _, hR.later hb, hS.later hb, hA.later hb, hb⟩
/-- An answer in a block. -/
def AnsAt (w : World) (g : Nat) (u v : Value) : Prop := w.heap[g]? = some (.cells #[u, v] 34 (0, 0))
theorem AnsAt.later {u v : Value} (h : AnsAt w g u v) (hb : Below w.heap.size w w') : AnsAt w' g u v := (hb.block _ (Array.getElem?_eq_some_iff.1 h).1).trans h
theorem AnsAt.lt {u v : Value} (h : AnsAt w g u v) : g < w.heap.size := (Array.getElem?_eq_some_iff.1 h).1
theorem AnsAt.facts {u v : Value} (h : AnsAt w g u v) : w.cell? ⟨g, 0, none⟩ = some u ∧ w.cell? ⟨g, 1, none⟩ = some v ∧ w.frozen? ⟨g, 0, none⟩ = false ∧ w.frozen? ⟨g, 1, none⟩ = false :=
  ⟨cell_of_row w g 0 _ _ _ h, cell_of_row w g 1 _ _ _ h, frozen_of_row w g 0 _ _ h, frozen_of_row w g 1 _ _ h⟩
theorem AnsAt.set {u v : Value} (h : AnsAt w g u v) (x y : Value) : AnsAt ((w.setCell ⟨g, 0, none⟩ x).setCell ⟨g, 1, none⟩ y) g x y :=
  heap_setCell_same _ g 1 _ _ y (heap_setCell_same w g 0 _ _ x h)
theorem ans_new (w : World) (u v : Value) : AnsAt (w.alloc (.cells #[u, v] 34)) w.heap.size u v := heap_alloc_new w _
end
end Go.Proofs.Ytnigfipjcnamfaa.Ak

/- box.Has. -/
namespace Go.Proofs.Ytnigfipjcnamfaa
open Go.RowKit

set_option maxRecDepth 100000 in
set_option maxHeartbeats 1000000 in
theorem hasside (B C : Nat) (p q s : Option Addr) (n c e f : Nat) (R S P : List Int) (k : Nat) (hk : k < n) (w : World) (hB : BoxAt w B p n c q n e) (hC : w.cell? ⟨C, 0, none⟩ = some (.slice s n f)) (h1 : Ints w p n c R) (h2 : Ints w q n e S) (h3 : Ints w s n f P) :
    Calls Try.prog 41 #[.int .i64 k, .pointer (some ⟨B, 0, none⟩), .pointer (some ⟨C, 0, none⟩)] w fun e w' => e = .returned (.bool (decide (R.getD k 0 ≤ P.getD k 0) && decide (P.getD k 0 ≤ S.getD k 0))) ∧ ∃ j, w' = w.drewN j := by
  obtain ⟨hB0, hB1⟩ := hB
  obtain ⟨g1, o1, rfl, hc1⟩ := h1.cell k hk
  obtain ⟨g2, o2, rfl, hc2⟩ := h2.cell k hk
  obtain ⟨g3, o3, rfl, hc3⟩ := h3.cell k hk
  clear h1 h2 h3
  generalize R.getD k 0 = xR at *
  generalize S.getD k 0 = xS at *
  generalize P.getD k 0 = xP at *
  have b1 : (0 : Int) ≤ k ∧ (k : Int) < n := by omega
  by_cases hg : xR ≤ xP
  · rw [decide_eq_true hg]
    go_enter Try.func41, Try.ntmps41
    go_wp2_with fail
    go_quiet (fail)
    go_wp2_with fail
    go_ret
    exact ⟨rfl, _, rfl⟩
  · rw [decide_eq_false hg]
    have hd : decide (xR ≤ xP) = false := decide_eq_false hg
    go_enter Try.func41, Try.ntmps41
    go_wp2_with fail
    go_quiet (fail)
    go_wp2_with fail
    go_ret
    exact ⟨rfl, _, rfl⟩
structure Three (w0 w : World) (a b : Nat) (p q r : Option Addr) (n c m e k f : Nat) (R S T : List Int) : Prop where
  ba : BoxAt w a p n c q m e
  bb : w.cell? ⟨b, 0, none⟩ = some (.slice r k f)
  la : a < w.heap.size
  lb : b < w.heap.size
  i1 : Ints w p n c R
  i2 : Ints w q m e S
  i3 : Ints w r k f T
  below : Below w0.heap.size w0 w
theorem Three.later {w0 w w' : World} {a b : Nat} {p q r : Option Addr} {n c m e k f : Nat} {R S T : List Int} (h : Three w0 w a b p q r n c m e k f R S T) (hb : Below w.heap.size w w') : Three w0 w' a b p q r n c m e k f R S T :=
  ⟨⟨(hb.cell (p := ⟨a, 0, none⟩) h.la).trans h.ba.1, (hb.cell (p := ⟨a, 1, none⟩) h.la).trans h.ba.2⟩, (hb.cell (p := ⟨b, 0, none⟩) h.lb).trans h.bb, Nat.lt_of_lt_of_le h.la hb.size, Nat.lt_of_lt_of_le h.lb hb.size,
    h.i1.later hb, h.i2.later hb, h.i3.later hb, h.below.trans (hb.mono h.below.size)⟩
theorem three_of {w w2 : World} {p q r : Option Addr} {n c m e k f : Nat} {R S T : List Int} (h1 : Ints w p n c R) (h2 : Ints w q m e S) (h3 : Ints w r k f T)
    (h : w2 = (w.alloc (.cells #[.slice p n c, .slice q m e] 25)).alloc (.cells #[.slice r k f] 23)) : Three w w2 w.heap.size (w.heap.size + 1) p q r n c m e k f R S T := by
  subst h
  obtain ⟨a0, a1⟩ := pair_alloc w (.slice p n c) (.slice q m e) 25
  have hs : (w.alloc (.cells #[.slice p n c, .slice q m e] 25)).heap.size = w.heap.size + 1 := by simp
  have hb1 : Below w.heap.size w (w.alloc (.cells #[.slice p n c, .slice q m e] 25)) := (Below.refl _ _).alloc (Nat.le_refl _) _
  generalize w.alloc (.cells #[.slice p n c, .slice q m e] 25) = w1 at *
  have b0 := boxed w1 (.slice r k f) 23
  have hb2 : Below w1.heap.size w1 (w1.alloc (.cells #[.slice r k f] 23)) := (Below.refl _ _).alloc (Nat.le_refl _) _
  rw [hs] at b0
  exact ⟨⟨(hb2.cell (p := ⟨w.heap.size, 0, none⟩) (by show w.heap.size < _; omega)).trans a0, (hb2.cell (p := ⟨w.heap.size, 1, none⟩) (by show w.heap.size < _; omega)).trans a1⟩, b0, by simp; omega, by simp; omega, (h1.later hb1).later hb2, (h2.later hb1).later hb2, (h3.later hb1).later hb2, hb1.trans (hb2.mono (by omega))⟩
set_option maxRecDepth 100000 in
set_option maxHeartbeats 1000000 in
theorem has_any (p q s : Option Addr) (n c m e l f : Nat) (R S P : List Int) (w : World) (h1 : Ints w p n c R) (h2 : Ints w q m e S) (h3 : Ints w s l f P) :
    Calls Try.prog 24 #[.agg #[.slice p n c, .slice q m e], .slice s l f] w fun e w' => e = .returned (.bool (hasB R S P n m l)) ∧ Below w.heap.size w w' := by
  go_enter Try.func24, Try.ntmps24
  go_upto_region 1 with fail
  obtain ⟨w2, hw2⟩ : ∃ w2, w2 = (w.alloc (.cells #[.slice p n c, .slice q m e] 25)).alloc (.cells #[.slice s l f] 23) := ⟨_, rfl⟩
  have HF := Lib.hid (three_of h1 h2 h3 hw2)
  rw [← hw2]
  clear hw2 h1 h2 h3
  have b := HF.out.ba
  obtain ⟨b0, b1⟩ := b
  have b2 := HF.out.bb
  go_wp2_with fail
  refine (right_any p q n c m e R S l w2 HF.out.i1 HF.out.i2).mono ?_
  rintro _ w3 ⟨rfl, hb3⟩
  have HG := Lib.hid (HF.out.later hb3)
  clear hb3 HF b0 b1 b2
  have b2 := HG.out.bb
  cases hr : rightB R S n m l with
  | false =>
    have HR := Lib.hid (hasB_not (P := P) hr)
    clear hr
    go_wp2_with fail
    go_ret
    exact ⟨congrArg (fun b => Ending.returned (.bool b)) HR.out.symm, HG.out.below⟩
  | true =>
    have HR := Lib.hid (hasB_right (P := P) hr)
    obtain ⟨hd1, hd2, hd3, hd4⟩ := rightB_dims hr
    obtain rfl : n = l := by omega
    obtain rfl : m = n := by omega
    have HE := Lib.hid (each_any m (by omega) (fun k => decide (R.getD k 0 ≤ P.getD k 0) && decide (P.getD k 0 ≤ S.getD k 0)) 41 #[.pointer (some ⟨w.heap.size, 0, none⟩), .pointer (some ⟨w.heap.size + 1, 0, none⟩)] (enter_side Try.func41 (by kernel_rfl) rfl) w3 (fun k w' hk hb => hasside w.heap.size (w.heap.size + 1) p q s m c e f R S P k hk w' (HG.out.later hb).ba (HG.out.later hb).bb (HG.out.later hb).i1 (HG.out.later hb).i2 (HG.out.later hb).i3))
    rw [alls_and, alls_les, alls_les] at HE
    clear hr hd1 hd2 hd3 hd4
    go_wp2_with fail
    refine HE.out.mono ?_
    rintro _ w4 ⟨rfl, j, hw4⟩
    have HB := Lib.hid (show Below w.heap.size w w4 by rw [hw4]; exact Below.drewN HG.out.below _)
    clear hw4
    go_wp2_with fail
    go_ret
    exact ⟨congrArg (fun b => Ending.returned (.bool b)) HR.out.symm, HB.out⟩
end Go.Proofs.Ytnigfipjcnamfaa

/- ask.Of's closures; indentureref14.Same. -/
namespace Go.Proofs.Ytnigfipjcnamfaa.Ak
open Go.RowKit

set_option maxRecDepth 100000 in
set_option maxHeartbeats 1000000 in
theorem other_any (r : Rw) (gb : Nat) (d : Int) (w : World) (hb : w.cell? ⟨gb, 0, none⟩ = some (.int .i64 d)) :
    Calls Try.prog 21 #[r.val, .pointer (some ⟨gb, 0, none⟩)] w fun e w' => e = .returned (.bool (decide ((r.n : Int) ≠ d))) ∧ w' = w := by
  obtain ⟨p, n, c, R⟩ := r
  unfold Rw.val
  simp only
  have HX := Lib.hid (show ((n : Int) != d) = decide ((n : Int) ≠ d) from by rw [Bool.eq_iff_iff]; simp)
  go_enter Try.func21, Try.ntmps21
  go_wp2_with fail
  go_ret
  exact ⟨congrArg (fun b => Ending.returned (.bool b)) HX.out, rfl⟩
set_option maxRecDepth 100000 in
set_option maxHeartbeats 1000000 in
theorem outside_any {w0 w : World} {g : Nat} {p : Option Addr} {n c : Nat} {R : List Int} {q : Option Addr} {m e : Nat} {S : List Int} {kd cl : Int} {a : Option Addr} {an ac : Nat} {A : List Int} {lim : Int} {cnt : Bool} (h : QIn w0 w g p n c R q m e S kd cl a an ac A lim cnt) (r : Rw) (hr : r.Ok w) :
    Calls Try.prog 23 #[r.val, .pointer (some ⟨g, 0, none⟩)] w fun e w' => e = .returned (.bool (!hasB R S r.R n m r.n)) ∧ Below w.heap.size w w' := by
  obtain ⟨s, l, f, P⟩ := r
  unfold Rw.val
  simp only
  have HH := Lib.hid (has_any p q s n c m e l f R S P w h.lo h.hi hr.ints)
  obtain ⟨x0, x1, -⟩ := h.cells
  clear h hr
  go_enter Try.func23, Try.ntmps23
  go_wp2_with fail
  refine HH.out.mono ?_
  rintro _ w2 ⟨rfl, hb⟩
  go_wp2_with fail
  go_ret
  exact ⟨rfl, hb⟩
set_option maxRecDepth 100000 in
set_option maxHeartbeats 1000000 in
theorem same_any (p q : Option Addr) (n c m e : Nat) (x y : Int) (L M : List Rw) (w : World) (h : RowsIn w p n c L) (h2 : RowsIn w q m e M) (hn9 : n ≤ 9223372036854775807) :
    Calls Try.prog 9 #[.agg #[.slice p n c, .int .i64 x], .agg #[.slice q m e, .int .i64 y]] w fun e w' => e = .returned (.bool (decide (x = y) && decide (nums L = nums M))) ∧ Below w.heap.size w w' := by
  obtain ⟨g, hg⟩ : ∃ g, g = w.heap.size := ⟨_, rfl⟩
  have b1 : Below w.heap.size w (w.alloc (.cells #[.slice p n c, .int .i64 x] 34)) := (Below.refl _ _).alloc (Nat.le_refl _) _
  have a1 := ans_new w (.slice p n c) (.int .i64 x)
  go_enter Try.func9, Try.ntmps9
  go_upto_region 1 with fail
  have s1 : (w.alloc (.cells #[.slice p n c, .int .i64 x] 34)).heap.size = w.heap.size + 1 := by simp
  generalize w.alloc (.cells #[.slice p n c, .int .i64 x] 34) = w1 at *
  have b2 : Below w1.heap.size w1 (w1.alloc (.cells #[.slice q m e, .int .i64 y] 34)) := (Below.refl _ _).alloc (Nat.le_refl _) _
  have a2 := ans_new w1 (.slice q m e) (.int .i64 y)
  generalize w1.alloc (.cells #[.slice q m e, .int .i64 y] 34) = w2 at *
  rw [s1] at a2
  have a1 := a1.later b2
  have HB := Lib.hid (b1.trans (b2.mono b1.size))
  have HS := Lib.hid (samerows_any p q n c m e L M w2 ((h.later b1).later b2) ((h2.later b1).later b2) hn9)
  obtain ⟨x0, x1, -, -⟩ := a1.facts
  obtain ⟨y0, y1, -, -⟩ := a2.facts
  clear b1 b2 s1 h h2 a1 a2
  rw [← hg] at x0 x1 y0 y1 ⊢
  by_cases hxy : x = y
  · subst hxy
    have HD := Lib.hid (show (decide (x = x) && decide (nums L = nums M)) = decide (nums L = nums M) by simp)
    have q1 : (x == x) = true := by simp
    clear hg
    go_wp2_with fail
    refine HS.out.mono ?_
    rintro _ w3 ⟨rfl, j, hw⟩
    have hb3 : Below w.heap.size w w3 := by rw [hw]; exact Below.drewN HB.out j
    clear hw
    go_wp2_with fail
    go_ret
    exact ⟨congrArg (fun b => Ending.returned (.bool b)) HD.out.symm, hb3⟩
  · have HD := Lib.hid (show (decide (x = y) && decide (nums L = nums M)) = false by rw [decide_eq_false hxy]; rfl)
    have q1 : (x == y) = false := by simpa using hxy
    clear hxy hg
    go_wp2_with fail
    go_ret
    exact ⟨congrArg (fun b => Ending.returned (.bool b)) HD.out.symm, HB.out⟩
end Go.Proofs.Ytnigfipjcnamfaa.Ak

/- ask.Right. -/
namespace Go.Proofs.Ytnigfipjcnamfaa.Ak
open Go.RowKit

set_option maxRecDepth 100000 in
set_option maxHeartbeats 1000000 in
theorem right_any (p q a : Option Addr) (n c m e an ac : Nat) (R S A : List Int) (kd cl lim : Int) (cnt : Bool) (d : Int) (w : World) (hR : Ints w p n c R) (hS : Ints w q m e S) (hA : Ints w a an ac A) :
    Calls Try.prog 6 #[.agg #[.slice p n c, .slice q m e, .int .u8 kd, .int .i64 cl, .slice a an ac, .int .i64 lim, .bool cnt], .int .i64 d] w fun e w' => e = .returned (.bool (rightQ R S n m kd cl an lim cnt d)) ∧ Below w.heap.size w w' := by
  have hq := q_in (kd := kd) (cl := cl) (lim := lim) (cnt := cnt) hR hS hA
  obtain ⟨g, hg⟩ : ∃ g, g = w.heap.size := ⟨_, rfl⟩
  go_enter Try.func6, Try.ntmps6
  go_upto_region 1 with fail
  rw [← hg] at hq ⊢
  generalize w.alloc (.cells #[.slice p n c, .slice q m e, .int .u8 kd, .int .i64 cl, .slice a an ac, .int .i64 lim, .bool cnt] 29) = w1 at *
  have HQ := Lib.hid hq
  clear hR hS hA hq hg
  obtain ⟨x0, x1, -⟩ := HQ.out.cells
  go_wp2_with fail
  refine (Go.Proofs.Ytnigfipjcnamfaa.right_any p q n c m e R S d w1 HQ.out.lo HQ.out.hi).mono ?_
  rintro _ w2 ⟨rfl, hb2⟩
  have HQ2 := Lib.hid (HQ.out.later hb2)
  clear hb2 HQ x0 x1
  obtain ⟨-, -, x2, x3, x4, x5, x6⟩ := HQ2.out.cells
  cases hr : rightB R S n m d with
  | false =>
    have HV := Lib.hid (show rightQ R S n m kd cl an lim cnt d = false from by unfold rightQ; rw [hr, Bool.false_and])
    clear hr
    go_wp2_with fail
    go_ret
    exact ⟨congrArg (fun b => Ending.returned (.bool b)) HV.out.symm, HQ2.out.below⟩
  | true =>
    have HV := Lib.hid (show rightQ R S n m kd cl an lim cnt d = if cnt = true then decide (kd = 0 ∧ cl = 0 ∧ (an : Int) = 0 ∧ lim = 0) else decide (ordP kd cl an d) && decide (-1 ≤ lim ∧ lim ≤ 1000) from by unfold rightQ; rw [hr, Bool.true_and])
    clear hr
    cases cnt with
    | true =>
      have HV2 := Lib.hid (HV.out.trans (if_pos rfl))
      clear HV
      by_cases h1 : kd = 0
      · subst h1
        by_cases h2 : cl = 0
        · subst h2
          by_cases h3 : (an : Int) = 0
          · have q3 : ((an : Int) == 0) = true := by simpa using h3
            by_cases h4 : lim = 0
            · subst h4
              have HE := Lib.hid (HV2.out.trans (decide_eq_true ⟨rfl, rfl, h3, rfl⟩))
              clear h3
              go_wp2_with fail
              go_ret
              exact ⟨congrArg (fun b => Ending.returned (.bool b)) HE.out.symm, HQ2.out.below⟩
            · have q4 : (lim == 0) = false := by simpa using h4
              have HE := Lib.hid (HV2.out.trans (decide_eq_false (fun h => h4 h.2.2.2)))
              clear h3 h4
              go_wp2_with fail
              go_ret
              exact ⟨congrArg (fun b => Ending.returned (.bool b)) HE.out.symm, HQ2.out.below⟩
          · have q3 : ((an : Int) == 0) = false := by simpa using h3
            have HE := Lib.hid (HV2.out.trans (decide_eq_false (fun h => h3 h.2.2.1)))
            clear h3
            go_wp2_with fail
            go_ret
            exact ⟨congrArg (fun b => Ending.returned (.bool b)) HE.out.symm, HQ2.out.below⟩
        · have q2 : (cl == 0) = false := by simpa using h2
          have HE := Lib.hid (HV2.out.trans (decide_eq_false (fun h => h2 h.2.1)))
          clear h2
          go_wp2_with fail
          go_ret
          exact ⟨congrArg (fun b => Ending.returned (.bool b)) HE.out.symm, HQ2.out.below⟩
      · have q1 : (kd == 0) = false := by simpa using h1
        have HE := Lib.hid (HV2.out.trans (decide_eq_false (fun h => h1 h.1)))
        clear h1
        go_wp2_with fail
        go_ret
        exact ⟨congrArg (fun b => Ending.returned (.bool b)) HE.out.symm, HQ2.out.below⟩
    | false =>
      have HV2 := Lib.hid (HV.out.trans (if_neg (by simp)))
      clear HV
      go_wp2_with fail
      refine (ordright_any kd cl d a an ac w2).mono ?_
      rintro _ w3 ⟨rfl, hb3⟩
      have HQ3 := Lib.hid (HQ2.out.later hb3)
      clear hb3 HQ2 x2 x3 x4 x5 x6
      obtain ⟨-, -, x2, x3, x4, x5, x6⟩ := HQ3.out.cells
      by_cases ho : ordP kd cl an d
      · have HO := decide_eq_true ho
        rw [HO] at HV2 ⊢
        clear HO ho
        by_cases h1 : -1 ≤ lim
        · have HE := Lib.hid (HV2.out.trans (show (true && decide (-1 ≤ lim ∧ lim ≤ 1000)) = decide (lim ≤ 1000) by rw [Bool.true_and]; exact decide_eq_decide.2 ⟨fun h => h.2, fun h => ⟨h1, h⟩⟩))
          go_wp2_with fail
          go_ret
          exact ⟨congrArg (fun b => Ending.returned (.bool b)) HE.out.symm, HQ3.out.below⟩
        · have HE := Lib.hid (HV2.out.trans (show (true && decide (-1 ≤ lim ∧ lim ≤ 1000)) = false by rw [Bool.true_and]; exact decide_eq_false fun h => h1 h.1))
          go_wp2_with fail
          go_ret
          exact ⟨congrArg (fun b => Ending.returned (.bool b)) HE.out.symm, HQ3.out.below⟩
      · have HO := decide_eq_false ho
        rw [HO] at HV2 ⊢
        have HE := Lib.hid (HV2.out.trans (Bool.false_and _))
        clear HO ho
        go_wp2_with fail
        go_ret
        exact ⟨congrArg (fun b => Ending.returned (.bool b)) HE.out.symm, HQ3.out.below⟩
end Go.Proofs.Ytnigfipjcnamfaa.Ak

/- ask.Of: what it tells; pieces of the walk. -/
namespace Go.Proofs.Ytnigfipjcnamfaa.Ak
open Go.RowKit

/-- What Of tells. -/
def OfPost (R S : List Int) (n m : Nat) (kd cl : Int) (A : List Int) (an : Nat) (lim : Int) (cnt : Bool) (L : List Rw) (w : World) (e : Ending) (w' : World) : Prop :=
  if rightQ R S n m kd cl an lim cnt n = true ∧ ∀ t ∈ L, t.n = n then
    ∃ q c M, e = .returned (.tuple #[.agg #[.slice q (List.length M) c, .int .i64 (ansC R S cnt (nums L))], .int .i64 0]) ∧ RowsIn w' q M.length c M ∧ nums M = ansR R S kd cl A an lim cnt (nums L) ∧ Below w.heap.size w w'
  else e = .returned (.tuple #[.agg #[.slice none 0 0, .int .i64 0], .int .i64 1]) ∧ Below w.heap.size w w'
theorem of_bad {R S : List Int} {n m : Nat} {kd cl : Int} {A : List Int} {an : Nat} {lim : Int} {cnt : Bool} {L : List Rw} {w w' : World} (h : ¬ (rightQ R S n m kd cl an lim cnt n = true ∧ ∀ t ∈ L, t.n = n)) (hb : Below w.heap.size w w') : OfPost R S n m kd cl A an lim cnt L w (.returned (.tuple #[.agg #[.slice none 0 0, .int .i64 0], .int .i64 1])) w' := by
  unfold OfPost
  rw [if_neg h]
  exact ⟨rfl, hb⟩
theorem ret_ans2 {fn : Func} {P : Ending → World → Prop} (p u : Tmp) (hr : fn.results = #[.cell p 34, .tmp u]) {tmps : Array Value} {w : World} (g : Nat) (a b x : Value)
    (hp : tmps.getD p undef = .pointer (some ⟨g, 0, none⟩)) (hu : tmps.getD u undef = x) (hg : AnsAt w g a b) (h : P (.returned (.tuple #[.agg #[a, b], x])) w) : bodyPost Try.prog fn P .ret ⟨tmps, []⟩ w := by
  obtain ⟨r0, r1, _, _⟩ := hg.facts
  refine bodyPost_ret (a := ⟨tmps, []⟩) (v := .tuple #[.agg #[a, b], x]) ?_ rfl h
  have hp' : tmps[p]?.getD undef = .pointer (some ⟨g, 0, none⟩) := by simpa using hp
  have hu' : tmps[u]?.getD undef = x := by simpa using hu
  simp [results, hr, hp', hu', go_sem, r0, r1]
theorem ret_ans {fn : Func} {P : Ending → World → Prop} (p : Tmp) (hr : fn.results = #[.cell p 34]) {tmps : Array Value} {w : World} (g : Nat) (a b : Value)
    (hp : tmps.getD p undef = .pointer (some ⟨g, 0, none⟩)) (hg : AnsAt w g a b) (h : P (.returned (.agg #[a, b])) w) : bodyPost Try.prog fn P .ret ⟨tmps, []⟩ w := by
  obtain ⟨r0, r1, _, _⟩ := hg.facts
  refine bodyPost_ret (a := ⟨tmps, []⟩) (v := .agg #[a, b]) ?_ rfl h
  have hp' : tmps[p]?.getD undef = .pointer (some ⟨g, 0, none⟩) := by simpa using hp
  simp [results, hr, hp', go_sem, r0, r1]
/-- The store of an answer turns nothing below. -/
theorem ans_below {w0 w : World} {g : Nat} (hb : Below w0.heap.size w0 w) (hg : w0.heap.size ≤ g) (x y : Value) : Below w0.heap.size w0 ((w.setCell ⟨g, 0, none⟩ x).setCell ⟨g, 1, none⟩ y) :=
  (hb.setCell (p := ⟨g, 0, none⟩) hg _).setCell (p := ⟨g, 1, none⟩) hg _
set_option maxRecDepth 100000 in
set_option maxHeartbeats 1000000 in
theorem del_nil (q : Option Addr) (c : Nat) (f : Rw → Bool) (F : Nat) (cap : Array Value) (hF : ∀ args w, (callFunc F args).run Try.prog w = .ok (.enter F args) w) (w : World) :
    Calls Try.prog 25 #[.slice q 0 c, .func (.func F) #[] cap] w fun e w' => e = .returned (.slice q 0 c) ∧ Below w.heap.size w w' := by
  have HI := Lib.hid (index_any q 0 c [] f F cap hF w ⟨rfl, Nat.zero_le _, fun t h => absurd h (by simp), Or.inl rfl⟩ (by omega) (fun r h => absurd h (by simp)))
  go_enter Try.func25, Try.ntmps25
  go_wp2_with fail
  refine HI.out.mono ?_
  rintro _ w2 ⟨i, rfl, hi, b2⟩
  rcases hi with ⟨k, rfl, hk, -⟩ | ⟨rfl, -⟩
  · exact absurd hk (by simp)
  · have HB := Lib.hid b2
    clear b2 HI
    go_wp2_with fail
    go_ret
    exact ⟨rfl, HB.out⟩
/-- The rows that are kept lie. -/
theorem kept_in {w0 w' : World} {g c : Nat} {LF : List Rw} {cur : Array Value} (h : w'.heap[g]? = some (.cells cur 23 (0, 0))) (hc : LF.length ≤ c) (ht : cur.toList.take LF.length = rvs LF) (hok : ∀ t ∈ LF, t.Ok w0) (hb : Below w0.heap.size w0 w') : RowsIn w' (some ⟨g, 0, none⟩) LF.length c LF :=
  (own_in h hc ht fun t ht => (hok t ht).later hb).1
theorem keep_filter {R S : List Int} {n m : Nat} {L : List Rw} (hn : n = R.length) (hm : m = S.length) (hL : ∀ t ∈ L, t.n = t.R.length) : (L.filter fun t => !(!hasB R S t.R n m t.n)) = L.filter fun t => keepB R S t.R :=
  List.filter_congr fun t ht => by
    rw [Bool.not_not]
    unfold keepB
    rw [hn, hm, hL t ht]
/-- Rows that lie aside of a block. -/
def AsideR (B : Nat) (q : Option Addr) (M : List Rw) : Prop := (∀ a, q = some a → B ≤ a.block) ∧ ∀ t ∈ M, ∀ a, t.p = some a → B ≤ a.block
theorem AsideR.take {B : Nat} {q : Option Addr} {M : List Rw} (h : AsideR B q M) (k : Nat) : AsideR B q (M.take k) := ⟨h.1, fun t ht => h.2 t (List.mem_of_mem_take ht)⟩
theorem ints_aside {w : World} {p : Option Addr} {n c : Nat} {L : List Int} (h : Ints w p n c L) (g o : Nat) (v : Value) (hne : ∀ a, p = some a → a.block ≠ g) : Ints (w.setCell ⟨g, o, none⟩ v) p n c L :=
  ⟨h.size, h.le, h.ok, h.at'.imp id fun ⟨b, m, hp, hx⟩ => ⟨b, m, hp, fun i hi => (World.cell?_setCell_other w _ _ v (fun e => hne _ hp (by have := congrArg Addr.block e; exact this.symm))).trans (hx i hi)⟩⟩
theorem rows_aside {w : World} {q : Option Addr} {n c B : Nat} {M : List Rw} (h : RowsIn w q n c M) (ha : AsideR B q M) (g o : Nat) (v : Value) (hg : g < B) : RowsIn (w.setCell ⟨g, o, none⟩ v) q n c M :=
  ⟨h.size, h.le, fun t ht => ⟨ints_aside (h.each t ht).ints g o v (fun a e => by have := ha.2 t ht a e; omega), (h.each t ht).top⟩, h.at'.imp id fun ⟨b, m, hp, hx⟩ => ⟨b, m, hp, fun i hi => (World.cell?_setCell_other w _ _ v (fun e => by
    have h1 := congrArg Addr.block e
    have h2 := ha.1 _ hp
    simp only at h1 h2
    omega)).trans (hx i hi)⟩⟩
theorem sRows_aside {w : World} {gs n B : Nat} {v : Nat → Value} {f : Nat → List Int} (h : OwnRows w gs n v f n) (hB : B ≤ gs) : AsideR B (some ⟨gs, 0, none⟩) (sRows v f n) := by
  refine ⟨fun a e => by cases e; exact hB, fun t ht a e => ?_⟩
  simp only [sRows, List.mem_map, List.mem_range] at ht
  obtain ⟨i, hi, rfl⟩ := ht
  obtain ⟨g, c, m, h1, h2, h3⟩ := h.rows i hi
  rcases h2.2 with ⟨h4, _⟩ | ⟨g', cap, cur, hv, hb, -⟩
  · simp at h4
  · obtain ⟨rfl, rfl⟩ : g = g' ∧ c = cap := by simpa using hv
    rw [h1] at e
    simp only [rwOf, Option.some.injEq] at e
    subst e
    show B ≤ g
    omega
set_option maxRecDepth 100000 in
theorem sort_good {kd cl : Int} {q p : Option Addr} {an ac c n : Nat} {A : List Int} {L : List Rw} {w : World} (hA : Ints w q an ac A) (hL : RowsIn w p L.length c L) (hn : L.length ≤ 100) (hg : ∀ t ∈ L, ordP kd cl an t.n ∧ t.n = n) :
    Calls Try.prog 27 #[.agg #[.int .u8 kd, .int .i64 cl, .slice q an ac], .slice p L.length c] w fun e w' => ∃ q' c' M, e = .returned (.slice q' L.length c') ∧ RowsIn w' q' L.length c' M ∧ nums M = sortN kd cl A an (nums L) ∧ AsideR w.heap.size q' M ∧ Below w.heap.size w w' := by
  have hm : ∀ k, k < L.length → L.getD k default ∈ L := fun k hk => by
    rw [List.getD_eq_getElem?_getD, List.getElem?_eq_getElem hk]
    exact List.getElem_mem hk
  have hgr : ∀ k, k < L.length → goodRow kd cl an L k := fun k hk => ⟨(hg _ (hm k hk)).1, (hg _ (hm k hk)).2.trans (hg _ (hm 0 (by omega))).2.symm⟩
  refine (sort_any kd cl q p an ac L.length c A L w hA hL hn (fun m hm => elt_places _ _ _ hm)).mono ?_
  rintro e w' hp
  unfold SortPost at hp
  rw [if_pos hgr] at hp
  obtain ⟨gs, v, rfl, hgs, hrows, hb⟩ := hp
  have hst : ∀ i, i < L.length → (L.getD (St.stable (elt (elsOf kd cl A an L)) L.length (Array.range L.length))[i]! default).Ok w ∧ ordP kd cl an (L.getD (St.stable (elt (elsOf kd cl A an L)) L.length (Array.range L.length))[i]! default).n := fun i hi => by
    have hp := elt_places (elsOf kd cl A an L) L.length i hi
    exact ⟨getD_Ok hL _ hp, (hgr _ hp).1⟩
  have hS := sRows_in hrows (fun i hi => (hst i hi).1.ints.ok) (fun i hi => by
    have h1 := (hst i hi).1.ints.size
    have h2 := (hst i hi).2.1.2
    unfold ordRows
    omega)
  exact ⟨_, _, _, rfl, hS, ((sRows_nums hrows).trans (sorts_alike hA.ok hL hgr)).trans (sortN_rows kd cl A an L (rows_len hL)), sRows_aside hrows hgs, hb⟩
end Go.Proofs.Ytnigfipjcnamfaa.Ak

/- ask.Of. -/
namespace Go.Proofs.Ytnigfipjcnamfaa.Ak
open Go.RowKit

/-- What Of holds: the query, the rows, the result's block, the number of dimensions. -/
structure OfIn (w0 w : World) (g : Nat) (pl : Option Addr) (N cp : Nat) (L : List Rw) (p : Option Addr) (n c : Nat) (R : List Int) (q : Option Addr) (m e : Nat) (S : List Int) (kd cl : Int) (a : Option Addr) (an ac : Nat) (A : List Int) (lim : Int) (cnt : Bool) : Prop where
  q : QIn w0 w g p n c R q m e S kd cl a an ac A lim cnt
  l : RowsIn w pl N cp L
  a : AnsAt w (g + 1) (.slice none 0 0) (.int .i64 0)
  d : w.heap[g + 2]? = some (.cells #[.int .i64 n] 3 (0, 0))
  ge : w0.heap.size ≤ g
theorem OfIn.later {w0 w w' : World} {g : Nat} {pl : Option Addr} {N cp : Nat} {L : List Rw} {p : Option Addr} {n c : Nat} {R : List Int} {q : Option Addr} {m e : Nat} {S : List Int} {kd cl : Int} {a : Option Addr} {an ac : Nat} {A : List Int} {lim : Int} {cnt : Bool} (h : OfIn w0 w g pl N cp L p n c R q m e S kd cl a an ac A lim cnt) (hb : Below w.heap.size w w') : OfIn w0 w' g pl N cp L p n c R q m e S kd cl a an ac A lim cnt :=
  ⟨h.q.later hb, h.l.later hb, h.a.later hb, (hb.block _ (Array.getElem?_eq_some_iff.1 h.d).1).trans h.d, h.ge⟩
set_option maxRecDepth 100000 in
set_option maxHeartbeats 4000000 in
theorem of_any (pl p q a : Option Addr) (N cp n c m e an ac : Nat) (L : List Rw) (R S A : List Int) (kd cl lim : Int) (cnt : Bool) (w : World) (hL : RowsIn w pl N cp L) (hR : Ints w p n c R) (hS : Ints w q m e S) (hA : Ints w a an ac A) (hN : N ≤ 100) (hn9 : n ≤ 9223372036854775807) :
    Calls Try.prog 8 #[.slice pl N cp, .agg #[.slice p n c, .slice q m e, .int .u8 kd, .int .i64 cl, .slice a an ac, .int .i64 lim, .bool cnt]] w (OfPost R S n m kd cl A an lim cnt L w) := by
  have hq := q_in (kd := kd) (cl := cl) (lim := lim) (cnt := cnt) hR hS hA
  obtain ⟨g, hg⟩ : ∃ g, g = w.heap.size := ⟨_, rfl⟩
  go_enter Try.func8, Try.ntmps8
  go_upto_region 1 with fail
  have s1 : (w.alloc (.cells #[.slice p n c, .slice q m e, .int .u8 kd, .int .i64 cl, .slice a an ac, .int .i64 lim, .bool cnt] 29)).heap.size = w.heap.size + 1 := by simp
  generalize w.alloc (.cells #[.slice p n c, .slice q m e, .int .u8 kd, .int .i64 cl, .slice a an ac, .int .i64 lim, .bool cnt] 29) = w1 at *
  have b2 : Below w1.heap.size w1 (w1.alloc (.cells #[.slice none 0 0, .int .i64 0] 34)) := (Below.refl _ _).alloc (Nat.le_refl _) _
  have a2 := ans_new w1 (.slice none 0 0) (.int .i64 0)
  have s2 : (w1.alloc (.cells #[.slice none 0 0, .int .i64 0] 34)).heap.size = w1.heap.size + 1 := by simp
  generalize w1.alloc (.cells #[.slice none 0 0, .int .i64 0] 34) = w2 at *
  have hq2 := hq.later b2
  have hl2 := (hL.later hq.below).later b2
  clear hq b2 hL hR hS hA
  rw [s1] at a2 s2
  clear s1 w1
  obtain ⟨x0, x1, x2, x3, x4, x5, x6⟩ := hq2.cells
  go_upto_region 3 with fail
  clear x0 x1 x2 x3 x4 x5 x6
  have b3 : Below w2.heap.size w2 (w2.alloc (.cells #[.int .i64 n] 3)) := (Below.refl _ _).alloc (Nat.le_refl _) _
  have c3 := heap_alloc_new w2 (.cells #[.int .i64 n] 3 (0, 0))
  generalize w2.alloc (.cells #[.int .i64 n] 3) = w3 at *
  have hq3 := hq2.later b3
  have hl3 := hl2.later b3
  have ha3 := a2.later b3
  rw [s2] at c3
  have hI : OfIn w w3 w.heap.size pl N cp L p n c R q m e S kd cl a an ac A lim cnt := ⟨hq3, hl3, ha3, c3, Nat.le_refl _⟩
  have hgw : w.heap.size ≤ g := by rw [hg]; exact Nat.le_refl _
  rw [← hg] at hI ⊢
  clear b3 a2 hq2 hl2 s2 hq3 hl3 ha3 c3 hg w2
  have HI := Lib.hid hI
  clear hI
  obtain ⟨x0, x1, x2, x3, x4, x5, x6⟩ := HI.out.q.cells
  have xd : w3.cell? ⟨g + 2, 0, none⟩ = some (.int .i64 n) := cell_of_row w3 (g + 2) 0 _ _ _ HI.out.d
  go_wp2_with fail
  refine (right_any p q a n c m e an ac R S A kd cl lim cnt n w3 HI.out.q.lo HI.out.q.hi HI.out.q.at').mono ?_
  rintro _ w4 ⟨rfl, hb4⟩
  have HI4 := Lib.hid (HI.out.later hb4)
  clear hb4 HI x0 x1 x2 x3 x4 x5 x6 xd
  obtain ⟨x0, x1, x2, x3, x4, x5, x6⟩ := HI4.out.q.cells
  have xd : w4.cell? ⟨g + 2, 0, none⟩ = some (.int .i64 n) := cell_of_row w4 (g + 2) 0 _ _ _ HI4.out.d
  obtain ⟨y0, y1, z0, z1⟩ := HI4.out.a.facts
  cases hrt : rightQ R S n m kd cl an lim cnt n with
  | false =>
    have HBAD := Lib.hid (fun w' hb => of_bad (A := A) (L := L) (w := w) (w' := w') (fun h => by rw [hrt] at h; exact absurd h.1 (by simp)) hb)
    clear hrt
    go_wp2_with fail
    exact ret_ans2 4 5 rfl (g + 1) _ _ (.int .i64 1) rfl rfl (HI4.out.a.set _ _) (HBAD.out _ (ans_below HI4.out.q.below (by omega) _ _))
  | true =>
    have HRT := Lib.hid hrt
    have HCO := Lib.hid (contains_any pl N cp L (fun r => decide ((r.n : Int) ≠ n)) 21 #[.pointer (some ⟨g + 2, 0, none⟩)] (fun args w => by as_aux_lemma => kernel_rfl) w4 HI4.out.l (by omega) (fun r _ w' hb => (other_any r (g + 2) n w' ((hb.cell (block_lt_of_cell xd)).trans xd)).mono fun e w'' ⟨he, hw⟩ => ⟨he, by rw [hw]; exact Below.refl _ _⟩))
    clear hrt
    cases hany : L.any (fun r => decide ((r.n : Int) ≠ n)) with
    | true =>
      rw [hany] at HCO
      have HBAD := Lib.hid (fun w' hb => of_bad (R := R) (S := S) (n := n) (m := m) (kd := kd) (cl := cl) (an := an) (lim := lim) (cnt := cnt) (A := A) (L := L) (w := w) (w' := w') (fun h => by
        obtain ⟨r, hr, hd⟩ := List.any_eq_true.1 hany
        have := h.2 r hr
        simp [this] at hd) hb)
      clear hany
      go_wp2_with fail
      refine HCO.out.mono ?_
      rintro _ w5 ⟨rfl, hb5⟩
      have HI5 := Lib.hid (HI4.out.later hb5)
      clear hb5 HI4 HCO x0 x1 x2 x3 x4 x5 x6 xd y0 y1 z0 z1
      obtain ⟨y0, y1, z0, z1⟩ := HI5.out.a.facts
      go_wp2_with fail
      exact ret_ans2 4 5 rfl (g + 1) _ _ (.int .i64 1) rfl rfl (HI5.out.a.set _ _) (HBAD.out _ (ans_below HI5.out.q.below (by omega) _ _))
    | false =>
      rw [hany] at HCO
      have hall : ∀ t ∈ L, t.n = n := fun t ht => by
        have := List.any_eq_false.1 hany t ht
        simp at this
        omega
      have HALL := Lib.hid hall
      clear hany hall
      go_wp2_with fail
      refine HCO.out.mono ?_
      rintro _ w5 ⟨rfl, hb5⟩
      have HI5 := Lib.hid (HI4.out.later hb5)
      clear hb5 HI4 HCO x0 x1 x2 x3 x4 x5 x6 xd y0 y1 z0 z1
      have HN := Lib.hid HI5.out.l.size
      go_wp2_with fail
      refine (rclone_any pl N cp L w5 HI5.out.l (by omega)).mono ?_
      rintro _ w6 ⟨qc, cc, rfl, hb6, hcl⟩
      have HI6 := Lib.hid (HI5.out.later hb6)
      have hDEL : Calls Try.prog 25 #[.slice qc L.length cc, .func (.func 23) #[] #[.pointer (some ⟨g, 0, none⟩)]] w6 fun e w' => ∃ q' c', e = .returned (.slice q' (L.filter fun t => keepB R S t.R).length c') ∧ RowsIn w' q' (L.filter fun t => keepB R S t.R).length c' (L.filter fun t => keepB R S t.R) ∧ Below w5.heap.size w5 w' := by
        have hk := keep_filter (R := R) (S := S) (n := n) (m := m) (L := L) HI5.out.q.lo.size HI5.out.q.hi.size (rows_len HI5.out.l)
        by_cases hnil : L = []
        · subst hnil
          refine (del_nil qc cc (fun _ => false) _ _ (fun args w => by as_aux_lemma => kernel_rfl) w6).mono ?_
          rintro _ w' ⟨rfl, hb⟩
          exact ⟨qc, cc, rfl, ⟨rfl, Nat.zero_le _, fun t h => absurd h (by simp), Or.inl rfl⟩, hb6.trans (hb.mono hb6.size)⟩
        · obtain ⟨gc, cur, rfl, hge, hheap, hle, hm, hsz, htk⟩ := hcl hnil
          refine (del_any (w0 := w5) (fun t => !hasB R S t.R n m t.n) 23 #[.pointer (some ⟨g, 0, none⟩)] (fun args w => by as_aux_lemma => kernel_rfl) hge hb6 hheap hle hm hsz htk HI5.out.l.each (fun r hr w' hb => outside_any (HI5.out.q.later hb) r ((HI5.out.l.each r hr).later hb)) (by rw [← HN.out]; omega)).mono ?_
          rintro _ w' ⟨cur2, rfl, hh2, ht2, hs2, hb⟩
          rw [hk] at ht2 ⊢
          exact ⟨_, cc, rfl, kept_in hh2 (Nat.le_trans (List.length_filter_le _ _) hle) ht2 (fun t ht => HI5.out.l.each t ((List.mem_filter.1 ht).1)) hb, hb⟩
      have HD := Lib.hid hDEL
      clear hb6 hcl hDEL
      go_wp2_with fail
      refine HD.out.mono ?_
      rintro _ w7 ⟨q7, c7, rfl, hl7, hb7⟩
      have HI7 := Lib.hid (HI5.out.later hb7)
      have HL7 := Lib.hid hl7
      clear HD HI6 HI5 hl7 hb7
      obtain ⟨LF, hLF⟩ : ∃ LF, LF = L.filter fun t => keepB R S t.R := ⟨_, rfl⟩
      rw [← hLF] at HL7 ⊢
      have HLF := Lib.hid hLF
      clear hLF
      have HNF := Lib.hid (show nums LF = (nums L).filter (keepB R S) from by rw [HLF.out]; exact nums_filter _ L)
      have hlf : LF.length ≤ 100 := by
        rw [HLF.out]
        exact Nat.le_trans (List.length_filter_le _ _) (by rw [← HN.out]; exact hN)
      have HGOOD := Lib.hid (show rightQ R S n m kd cl an lim cnt n = true ∧ ∀ t ∈ L, t.n = n from ⟨HRT.out, HALL.out⟩)
      have HMEM := Lib.hid (show ∀ t ∈ LF, t.n = n from fun t ht => HALL.out t (List.mem_filter.1 (HLF.out ▸ ht)).1)
      clear HALL HLF
      obtain ⟨x0, x1, x2, x3, x4, x5, x6⟩ := HI7.out.q.cells
      obtain ⟨y0, y1, z0, z1⟩ := HI7.out.a.facts
      cases cnt with
      | true =>
        have HAC := Lib.hid (show ansC R S true (nums L) = LF.length from by unfold ansC; rw [if_pos rfl, ← HNF.out, nums_length])
        go_wp2_with fail
        refine ret_ans2 4 5 rfl (g + 1) _ _ (.int .i64 0) rfl rfl (HI7.out.a.set _ _) ?_
        unfold OfPost
        rw [if_pos HGOOD.out, HAC.out]
        exact ⟨none, 0, [], rfl, ⟨rfl, Nat.zero_le _, fun t h => absurd h (by simp), Or.inl rfl⟩, rfl, ans_below HI7.out.q.below (by omega) _ _⟩
      | false =>
        have hord := rightQ_ord HRT.out
        have HSO := Lib.hid (sort_good (kd := kd) (cl := cl) HI7.out.q.at' HL7.out hlf (fun t ht => ⟨by rw [HMEM.out t ht]; exact hord.1, HMEM.out t ht⟩))
        have HAC := Lib.hid (show ansC R S false (nums L) = 0 from rfl)
        have HAR := Lib.hid (show ansR R S kd cl A an lim false (nums L) = cutL lim (sortN kd cl A an (nums LF)) from by unfold ansR; rw [if_neg (by simp), HNF.out])
        obtain ⟨-, hl1, hl2⟩ := hord
        go_wp2_with fail
        refine HSO.out.mono ?_
        rintro _ w8 ⟨q8, c8, M, rfl, hl8, hn8, ha8, hb8⟩
        have HI8 := Lib.hid (HI7.out.later hb8)
        have HL8 := Lib.hid hl8
        have HA8 := Lib.hid (show AsideR (g + 2) q8 M from ⟨fun a e => by have := ha8.1 a e; have := HI7.out.a.lt; omega, fun t ht a e => by have := ha8.2 t ht a e; have := HI7.out.a.lt; omega⟩)
        have HN8 := Lib.hid hn8
        have hlm : LF.length = M.length := hl8.size
        rw [hlm] at HL8 hlf ⊢
        clear hl8 hn8 ha8 hb8 hlm HSO HI7 HL7 x0 x1 x2 x3 x4 x5 x6 y0 y1 z0 z1
        obtain ⟨x0, x1, x2, x3, x4, x5, x6⟩ := HI8.out.q.cells
        obtain ⟨y0, y1, z0, z1⟩ := HI8.out.a.facts
        by_cases hlim : lim = -1
        · have HCU := Lib.hid (show nums M = ansR R S kd cl A an lim false (nums L) from by rw [HAR.out, HN8.out]; unfold cutL; rw [if_pos hlim])
          have q1 : (lim != -1) = false := by simpa using hlim
          clear hlim
          go_wp2_with fail
          refine ret_ans2 4 5 rfl (g + 1) _ _ (.int .i64 0) rfl rfl (HI8.out.a.set _ _) ?_
          unfold OfPost
          rw [if_pos HGOOD.out, HAC.out]
          have hb := ans_below HI8.out.q.below (show w.heap.size ≤ g + 1 by omega) (.slice q8 M.length c8) (.int .i64 0)
          exact ⟨q8, c8, M, rfl, rows_aside (rows_aside HL8.out HA8.out _ _ _ (by omega)) HA8.out _ _ _ (by omega), HCU.out, hb⟩
        · obtain ⟨j, rfl⟩ : ∃ j : Nat, lim = j := ⟨lim.toNat, by omega⟩
          have hcu : ∀ k, k = min j M.length → nums (M.take k) = ansR R S kd cl A an j false (nums L) := fun k hk => by
            rw [HAR.out, ← HN8.out, nums_take]
            unfold cutL
            rw [if_neg hlim, hk, Int.toNat_natCast, ← nums_length M, List.take_eq_take_min, List.take_eq_take_min (i := j)]
            congr 1
            omega
          have HCU := Lib.hid hcu
          have q1 : ((j : Int) != -1) = true := by
            rw [bne_iff_ne]
            exact hlim
          clear hlim hl1 hl2 hcu
          by_cases hjm : j ≤ M.length
          · have e1 : min (j : Int) (M.length : Int) = (j : Int) := by omega
            have hle8 := HL8.out.le
            have HF := Lib.hid (rowsIn_take HL8.out j hjm)
            have HLJ := Lib.hid (show (M.take j).length = j by rw [List.length_take]; omega)
            have e2 : (j : Int) ≤ (c8 : Int) := by omega
            have e3 : j ≤ c8 := by omega
            go_wp2_with fail
            refine ret_ans2 4 5 rfl (g + 1) _ _ (.int .i64 0) rfl rfl (HI8.out.a.set _ _) ?_
            unfold OfPost
            rw [if_pos HGOOD.out, HAC.out]
            have hb := ans_below HI8.out.q.below (show w.heap.size ≤ g + 1 by omega) (.slice q8 j c8) (.int .i64 0)
            exact ⟨q8, c8, M.take j, by rw [HLJ.out]; rfl, by rw [HLJ.out]; exact rows_aside (rows_aside HF.out (HA8.out.take j) _ _ _ (by omega)) (HA8.out.take j) _ _ _ (by omega), HCU.out j (by omega), hb⟩
          · have e1 : min (j : Int) (M.length : Int) = (M.length : Int) := by omega
            have hle8 := HL8.out.le
            have HCM := Lib.hid (show nums M = ansR R S kd cl A an j false (nums L) from by
              have := HCU.out M.length (by omega)
              rwa [List.take_of_length_le (Nat.le_refl _)] at this)
            have e2 : (M.length : Int) ≤ (c8 : Int) := by omega
            clear HCU
            go_wp2_with fail
            refine ret_ans2 4 5 rfl (g + 1) _ _ (.int .i64 0) rfl rfl (HI8.out.a.set _ _) ?_
            unfold OfPost
            rw [if_pos HGOOD.out, HAC.out]
            have hb := ans_below HI8.out.q.below (show w.heap.size ≤ g + 1 by omega) (.slice q8 M.length c8) (.int .i64 0)
            exact ⟨q8, c8, M, rfl, rows_aside (rows_aside HL8.out HA8.out _ _ _ (by omega)) HA8.out _ _ _ (by omega), HCM.out, hb⟩
end Go.Proofs.Ytnigfipjcnamfaa.Ak

/- Rows and boxes of constants. -/
namespace Go.Proofs.Ytnigfipjcnamfaa
open Go.RowKit

/-- Two rows and a box of them, laid as literals. -/
theorem lits (w : World) (a b c d : Int) (ha : -9223372036854775808 ≤ a ∧ a ≤ 9223372036854775807) (hb : -9223372036854775808 ≤ b ∧ b ≤ 9223372036854775807) (hc : -9223372036854775808 ≤ c ∧ c ≤ 9223372036854775807) (hd : -9223372036854775808 ≤ d ∧ d ≤ 9223372036854775807) :
    ∀ w', w' = (w.alloc (.cells #[.int .i64 a, .int .i64 b] 2)).alloc (.cells #[.int .i64 c, .int .i64 d] 2) →
    Ints w' (some ⟨w.heap.size, 0, none⟩) 2 2 [a, b] ∧ Ints w' (some ⟨w.heap.size + 1, 0, none⟩) 2 2 [c, d] ∧ Below w.heap.size w w' ∧ w'.heap.size = w.heap.size + 1 + 1 := by
  rintro w' rfl
  have h1 := lit2 w a b ha hb
  have hs : (w.alloc (.cells #[.int .i64 a, .int .i64 b] 2)).heap.size = w.heap.size + 1 := by simp
  have b1 : Below w.heap.size w (w.alloc (.cells #[.int .i64 a, .int .i64 b] 2)) := (Below.refl _ _).alloc (Nat.le_refl _) _
  generalize w.alloc (.cells #[.int .i64 a, .int .i64 b] 2) = w1 at *
  have h2 := lit2 w1 c d hc hd
  have b2 : Below w1.heap.size w1 (w1.alloc (.cells #[.int .i64 c, .int .i64 d] 2)) := (Below.refl _ _).alloc (Nat.le_refl _) _
  rw [hs] at h2
  exact ⟨h1.later b2, h2, b1.trans (b2.mono (by omega)), by simp; omega⟩
theorem litbox (w : World) (a b c d : Int) (ha : -9223372036854775808 ≤ a ∧ a ≤ 9223372036854775807) (hb : -9223372036854775808 ≤ b ∧ b ≤ 9223372036854775807) (hc : -9223372036854775808 ≤ c ∧ c ≤ 9223372036854775807) (hd : -9223372036854775808 ≤ d ∧ d ≤ 9223372036854775807) :
    ∀ w', w' = ((w.alloc (.cells #[.int .i64 a, .int .i64 b] 2)).alloc (.cells #[.int .i64 c, .int .i64 d] 2)).alloc (.cells #[.slice (some ⟨w.heap.size, 0, none⟩) 2 2, .slice (some ⟨w.heap.size + 1, 0, none⟩) 2 2] 25) →
    (Ints w' (some ⟨w.heap.size, 0, none⟩) 2 2 [a, b] ∧ Ints w' (some ⟨w.heap.size + 1, 0, none⟩) 2 2 [c, d] ∧ Bx w' (w.heap.size + 1 + 1) (.slice (some ⟨w.heap.size, 0, none⟩) 2 2) (.slice (some ⟨w.heap.size + 1, 0, none⟩) 2 2)) ∧ Below w.heap.size w w' := by
  rintro w' rfl
  obtain ⟨h1, h2, h3, h4⟩ := lits w a b c d ha hb hc hd _ rfl
  generalize (w.alloc (.cells #[.int .i64 a, .int .i64 b] 2)).alloc (.cells #[.int .i64 c, .int .i64 d] 2) = w1 at *
  have b1 : Below w1.heap.size w1 (w1.alloc (.cells #[.slice (some ⟨w.heap.size, 0, none⟩) 2 2, .slice (some ⟨w.heap.size + 1, 0, none⟩) 2 2] 25)) := (Below.refl _ _).alloc (Nat.le_refl _) _
  have h5 := Bx.fresh w1 (.slice (some ⟨w.heap.size, 0, none⟩) 2 2) (.slice (some ⟨w.heap.size + 1, 0, none⟩) 2 2)
  rw [h4] at h5
  exact ⟨⟨h1.later b1, h2.later b1, h5⟩, h3.trans (b1.mono (by omega))⟩
/-- A box that lies boxed, and its corners. -/
structure BoxIn (w : World) (g : Nat) (p q : Option Addr) (n c m e : Nat) (R S : List Int) : Prop where
  bx : Bx w g (.slice p n c) (.slice q m e)
  i1 : Ints w p n c R
  i2 : Ints w q m e S
theorem BoxIn.later {w w' : World} {g : Nat} {p q : Option Addr} {n c m e : Nat} {R S : List Int} (h : BoxIn w g p q n c m e R S) (hb : Below w.heap.size w w') : BoxIn w' g p q n c m e R S := ⟨h.bx.later hb, h.i1.later hb, h.i2.later hb⟩
theorem nil_ints (w : World) : Ints w none 0 0 [] := ⟨rfl, Nat.le_refl _, fun x hx => by simp at hx, Or.inl rfl⟩
theorem lit1 (w : World) (a : Int) (ha : -9223372036854775808 ≤ a ∧ a ≤ 9223372036854775807) : Ints (w.alloc (.cells #[.int .i64 a] 2)) (some ⟨w.heap.size, 0, none⟩) 1 1 [a] :=
  ⟨rfl, Nat.le_refl _, fun x hx => by simp at hx; rw [hx]; exact ha, Or.inr ⟨_, _, rfl, fun i hi => by
    match i, hi with
    | 0, _ => exact cell_of_row _ _ 0 _ _ (0, 0) (heap_alloc_new w _)⟩⟩
theorem lit12 (w : World) (a b c : Int) (ha : -9223372036854775808 ≤ a ∧ a ≤ 9223372036854775807) (hb : -9223372036854775808 ≤ b ∧ b ≤ 9223372036854775807) (hc : -9223372036854775808 ≤ c ∧ c ≤ 9223372036854775807) :
    ∀ w', w' = (w.alloc (.cells #[.int .i64 a] 2)).alloc (.cells #[.int .i64 b, .int .i64 c] 2) →
    Ints w' (some ⟨w.heap.size, 0, none⟩) 1 1 [a] ∧ Ints w' (some ⟨w.heap.size + 1, 0, none⟩) 2 2 [b, c] ∧ Below w.heap.size w w' := by
  rintro w' rfl
  have h1 := lit1 w a ha
  have hs : (w.alloc (.cells #[.int .i64 a] 2)).heap.size = w.heap.size + 1 := by simp
  have b1 : Below w.heap.size w (w.alloc (.cells #[.int .i64 a] 2)) := (Below.refl _ _).alloc (Nat.le_refl _) _
  generalize w.alloc (.cells #[.int .i64 a] 2) = w1 at *
  have h2 := lit2 w1 b c hb hc
  have b2 : Below w1.heap.size w1 (w1.alloc (.cells #[.int .i64 b, .int .i64 c] 2)) := (Below.refl _ _).alloc (Nat.le_refl _) _
  rw [hs] at h2
  exact ⟨h1.later b2, h2, b1.trans (b2.mono (by omega))⟩
end Go.Proofs.Ytnigfipjcnamfaa

/- Lists of rows laid as literals; what alive's queries tell. -/
namespace Go.Proofs.Ytnigfipjcnamfaa.Ak
open Go.RowKit

/-- A list whose headers are laid behind its rows. -/
theorem listed {w w1 : World} {L : List Rw} (cur : Array Value) (hok : ∀ t ∈ L, t.Ok w1) (hb : Below w.heap.size w w1) (hx : ∀ i, i < L.length → cur[i]? = some (L.getD i default).val) {n : Nat} (hn : n = L.length) :
    RowsIn (w1.alloc (.cells cur 23)) (some ⟨w1.heap.size, 0, none⟩) n n L ∧ Below w.heap.size w (w1.alloc (.cells cur 23)) := by
  have b1 : Below w1.heap.size w1 (w1.alloc (.cells cur 23)) := (Below.refl _ _).alloc (Nat.le_refl _) _
  refine ⟨⟨hn, Nat.le_refl _, fun t ht => (hok t ht).later b1, Or.inr ⟨_, 0, rfl, fun i hi => ?_⟩⟩, hb.trans (b1.mono hb.size)⟩
  rw [Nat.zero_add, cell_of_row _ _ i _ _ _ (heap_alloc_new w1 _)]
  exact hx i hi
def row2 (g : Nat) (a b : Int) : Rw := ⟨some ⟨g, 0, none⟩, 2, 2, [a, b]⟩
theorem list1 (w : World) (a b : Int) (ha : -9223372036854775808 ≤ a ∧ a ≤ 9223372036854775807) (hb : -9223372036854775808 ≤ b ∧ b ≤ 9223372036854775807) :
    RowsIn ((w.alloc (.cells #[.int .i64 a, .int .i64 b] 2)).alloc (.cells #[.slice (some ⟨w.heap.size, 0, none⟩) 2 2] 23)) (some ⟨w.heap.size + 1, 0, none⟩) 1 1 [row2 w.heap.size a b] ∧
    Below w.heap.size w ((w.alloc (.cells #[.int .i64 a, .int .i64 b] 2)).alloc (.cells #[.slice (some ⟨w.heap.size, 0, none⟩) 2 2] 23)) := by
  have h1 := lit2 w a b ha hb
  have hs : (w.alloc (.cells #[.int .i64 a, .int .i64 b] 2)).heap.size = w.heap.size + 1 := by simp
  have b1 : Below w.heap.size w (w.alloc (.cells #[.int .i64 a, .int .i64 b] 2)) := (Below.refl _ _).alloc (Nat.le_refl _) _
  generalize w.alloc (.cells #[.int .i64 a, .int .i64 b] 2) = w1 at *
  have h := listed (L := [row2 w.heap.size a b]) (n := 1) #[.slice (some ⟨w.heap.size, 0, none⟩) 2 2] (fun t ht => by
    simp only [List.mem_singleton] at ht
    subst ht
    exact ⟨h1, by show (2 : Nat) ≤ _; omega⟩) b1 (fun i hi => by
    match i, hi with
    | 0, _ => rfl) rfl
  rw [hs] at h
  exact h
theorem list2 (w : World) (a b c d : Int) (ha : -9223372036854775808 ≤ a ∧ a ≤ 9223372036854775807) (hb : -9223372036854775808 ≤ b ∧ b ≤ 9223372036854775807) (hc : -9223372036854775808 ≤ c ∧ c ≤ 9223372036854775807) (hd : -9223372036854775808 ≤ d ∧ d ≤ 9223372036854775807) :
    RowsIn (((w.alloc (.cells #[.int .i64 a, .int .i64 b] 2)).alloc (.cells #[.int .i64 c, .int .i64 d] 2)).alloc (.cells #[.slice (some ⟨w.heap.size, 0, none⟩) 2 2, .slice (some ⟨w.heap.size + 1, 0, none⟩) 2 2] 23)) (some ⟨w.heap.size + 1 + 1, 0, none⟩) 2 2 [row2 w.heap.size a b, row2 (w.heap.size + 1) c d] ∧
    Below w.heap.size w (((w.alloc (.cells #[.int .i64 a, .int .i64 b] 2)).alloc (.cells #[.int .i64 c, .int .i64 d] 2)).alloc (.cells #[.slice (some ⟨w.heap.size, 0, none⟩) 2 2, .slice (some ⟨w.heap.size + 1, 0, none⟩) 2 2] 23)) := by
  obtain ⟨h1, h2, b2, hs⟩ := lits w a b c d ha hb hc hd _ rfl
  generalize (w.alloc (.cells #[.int .i64 a, .int .i64 b] 2)).alloc (.cells #[.int .i64 c, .int .i64 d] 2) = w1 at *
  have h := listed (L := [row2 w.heap.size a b, row2 (w.heap.size + 1) c d]) (n := 2) #[.slice (some ⟨w.heap.size, 0, none⟩) 2 2, .slice (some ⟨w.heap.size + 1, 0, none⟩) 2 2] (fun t ht => by
    simp only [List.mem_cons, List.not_mem_nil, or_false] at ht
    rcases ht with rfl | rfl
    · exact ⟨h1, by show (2 : Nat) ≤ _; omega⟩
    · exact ⟨h2, by show (2 : Nat) ≤ _; omega⟩) b2 (fun i hi => by
    match i, hi with
    | 0, _ => rfl
    | 1, _ => rfl) rfl
  rw [hs] at h
  exact h
theorem list3 (w : World) (a b c d x y : Int) (ha : -9223372036854775808 ≤ a ∧ a ≤ 9223372036854775807) (hb : -9223372036854775808 ≤ b ∧ b ≤ 9223372036854775807) (hc : -9223372036854775808 ≤ c ∧ c ≤ 9223372036854775807) (hd : -9223372036854775808 ≤ d ∧ d ≤ 9223372036854775807) (hx : -9223372036854775808 ≤ x ∧ x ≤ 9223372036854775807) (hy : -9223372036854775808 ≤ y ∧ y ≤ 9223372036854775807) :
    ∀ w', w' = ((((w.alloc (.cells #[.int .i64 a, .int .i64 b] 2)).alloc (.cells #[.int .i64 c, .int .i64 d] 2)).alloc (.cells #[.int .i64 x, .int .i64 y] 2)).alloc (.cells #[.slice (some ⟨w.heap.size, 0, none⟩) 2 2, .slice (some ⟨w.heap.size + 1, 0, none⟩) 2 2, .slice (some ⟨w.heap.size + 1 + 1, 0, none⟩) 2 2] 23)) →
    RowsIn w' (some ⟨w.heap.size + 1 + 1 + 1, 0, none⟩) 3 3 [row2 w.heap.size a b, row2 (w.heap.size + 1) c d, row2 (w.heap.size + 1 + 1) x y] ∧ Below w.heap.size w w' := by
  rintro w' rfl
  obtain ⟨h1, h2, b2, hs⟩ := lits w a b c d ha hb hc hd _ rfl
  generalize (w.alloc (.cells #[.int .i64 a, .int .i64 b] 2)).alloc (.cells #[.int .i64 c, .int .i64 d] 2) = w1 at *
  have h3 := lit2 w1 x y hx hy
  have b3 : Below w1.heap.size w1 (w1.alloc (.cells #[.int .i64 x, .int .i64 y] 2)) := (Below.refl _ _).alloc (Nat.le_refl _) _
  have s3 : (w1.alloc (.cells #[.int .i64 x, .int .i64 y] 2)).heap.size = w1.heap.size + 1 := by simp
  generalize w1.alloc (.cells #[.int .i64 x, .int .i64 y] 2) = w2 at *
  rw [hs] at h3 s3
  have h := listed (L := [row2 w.heap.size a b, row2 (w.heap.size + 1) c d, row2 (w.heap.size + 1 + 1) x y]) (n := 3) #[.slice (some ⟨w.heap.size, 0, none⟩) 2 2, .slice (some ⟨w.heap.size + 1, 0, none⟩) 2 2, .slice (some ⟨w.heap.size + 1 + 1, 0, none⟩) 2 2] (fun t ht => by
    simp only [List.mem_cons, List.not_mem_nil, or_false] at ht
    rcases ht with rfl | rfl | rfl
    · exact ⟨h1.later b3, by show (2 : Nat) ≤ _; omega⟩
    · exact ⟨h2.later b3, by show (2 : Nat) ≤ _; omega⟩
    · exact ⟨h3, by show (2 : Nat) ≤ _; omega⟩) (b2.trans (b3.mono b2.size)) (fun i hi => by
    match i, hi with
    | 0, _ => rfl
    | 1, _ => rfl
    | 2, _ => rfl) rfl
  rw [s3] at h
  exact h
abbrev lo2 : List Int := [-9223372036854775808, -9223372036854775808]
abbrev hi2 : List Int := [9223372036854775807, 9223372036854775807]
abbrev ex3 : List (List Int) := [[1, 5], [2, 3], [3, 9]]
theorem ex_r1 : rightQ lo2 hi2 2 2 2 1 0 2 false ((2 : Nat) : Int) = true := by decide +kernel
theorem ex_r2 : rightQ [1, 4] [3, 9] 2 2 0 0 0 0 true ((2 : Nat) : Int) = true := by decide +kernel
theorem ex_r3 : rightQ lo2 hi2 2 2 3 0 1 1 false ((2 : Nat) : Int) = true := by decide +kernel
theorem ex_a1 : ansR lo2 hi2 2 1 [] 0 2 false ex3 = [[3, 9], [1, 5]] := by decide +kernel
theorem ex_c2 : ansC [1, 4] [3, 9] true ex3 = 2 := by decide +kernel
theorem ex_a3 : ansR lo2 hi2 3 0 [4] 1 1 false ex3 = [[1, 5]] := by decide +kernel
end Go.Proofs.Ytnigfipjcnamfaa.Ak
