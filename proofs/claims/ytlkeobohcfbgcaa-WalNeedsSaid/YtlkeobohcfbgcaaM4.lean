/- WlLast, WlSects, WlAll, DkMath, WlList, WpStep, WpChunk, WpRound, WlLay, WlPlan, DkMine, DkLand. -/
import Derived.Test.YtlkeobohcfbgcaaM3
import Derived.StillTailTactics
import Derived.Deep.MidRow
import Derived.Deep.RegionHeld3
import Derived.RangeFuncNested
import Derived.RangeFuncBound
import Derived.RangeFuncCalls
import Derived.RangeFuncLeaves
import Derived.Shelf.Abstract
import Derived.Shelf.RegionOpen
import Derived.WalkKit
import Derived.OwnWalkIn
import Derived.TacticsInMore
import Derived.LoopNIn
import Derived.LoopIn
import Derived.Lib.MinMax
import Derived.BigQuiet
import Derived.Maps.AppendAt
import Derived.Deep.QuietTactic
import Derived.OrdersIn
import Derived.OrdersHeld
import Derived.TacticsIn
/- The reference's log: Last. -/
namespace Go.Proofs.Ytlkeobohcfbgcaa.Wl
open Go.RowKit

theorem still_load_mid {P : Program} {ops : Array Oper} {w : World} {Q : Act → Prop} {a : Act} {o : Oper} {rest : List Oper} (hw : Region.wanted o (yielded ops a.tmps) = true) (ty : TypeId) (x : Operand) (ho : o.op = .load ty x) (b off : Nat) (hx : a.eval x = .pointer (some ⟨b, off, none⟩)) (cs : List Value) (d : TypeDesc)
    (hc : w.rangeAt b off cs) (hu : P.underlying ty = some d) (hd : d.isRow = true) (hi : (P.info? ty).map (·.size) = some cs.length) (h : wpStill P ops w Q rest (a.put o.dst (.agg cs.toArray))) : wpStill P ops w Q (o :: rest) a := by
  refine wpStill_step (fun K hK => ?_)
  rw [if_pos hw]
  unfold Oper.still execOp
  simp only [ho, hx, Instr.loadAt, Instr.sureAddr, Sem.run_bind, Sem.run_pure, Result.andThen_ok, run_loadVar_mid w b off ty cs d hc hu hd hi]
  show o.stillUpon P a w K (.ok (.value (.agg cs.toArray)) w)
  rw [Oper.stillUpon_value]
  exact hK _ h
/-- A digest's row, as a range. -/
theorem range_of_row {w : World} {g : Nat} {D : List Nat} {t : TypeId} (h : w.heap[g]? = some (.cells (u8s D) t (0, 0))) : w.rangeAt g 0 (vals D) := fun j v hv => by
  have hj : j < D.length := by have := (List.getElem?_eq_some_iff.1 hv).1; rwa [vals_length] at this
  rw [Nat.zero_add, u8s_cell h j hj, ← hv, vals_get D j hj]
/-- A text among texts. -/
theorem texts_at {w : World} {p : Option Addr} {n c : Nat} {L : List (List Nat)} (h : Texts w p n c L) {k : Nat} (hk : k < n) : ∃ g o q m d, p = some ⟨g, o, none⟩ ∧ w.cell? ⟨g, o + k, none⟩ = some (.slice q m d) ∧ Tx w q m d (L.getD k []) := by
  have hs := h.size
  obtain ⟨g, o, hp, hx⟩ := h.at' (by rintro rfl; simp at hs; omega)
  obtain ⟨q, m, d, h1, h2⟩ := hx k (by omega)
  exact ⟨g, o, q, m, d, hp, h1, h2⟩
/-- The sums under way: the digest in the block gd. -/
def LastR (w : World) (n : Nat) (L : List (List Nat)) (i : Value) (wr : World) : Prop :=
  ∃ k : Nat, k ≤ n ∧ i = .int .i64 k ∧ wr.heap[w.heap.size]? = some (.cells (u8s (zeros 32)) 44 (0, 0)) ∧ wr.heap[w.heap.size + 1]? = some (.cells (u8s (last L k)) 44 (0, 0)) ∧ Below w.heap.size w wr
set_option maxRecDepth 100000 in
set_option maxHeartbeats 2000000 in
theorem rlast_any (L : List (List Nat)) (p : Option Addr) (n c : Nat) (w : World) (hL : Texts w p n c L) (hn : n < 1000000) (hsm : ∀ b ∈ L, b.length ≤ 100000) :
    Calls Try.prog 21 #[.slice p n c] w fun e w' => e = .returned (.agg (u8s (last L L.length))) ∧ Below w.heap.size w w' := by
  have hz := (zero_of_info Z25).1
  have HL := Lib.hid hL
  have HSZ := Lib.hid hL.size
  have HSM := Lib.hid hsm
  have hnc := hL.le
  clear hL hsm
  have h0 : LastR w n L (.int .i64 0) ((w.alloc (.cells (u8s (zeros 32)) 44)).alloc (.cells (u8s (zeros 32)) 44)) :=
    ⟨0, Nat.zero_le _, rfl, (heap_alloc_old _ _ (by simp)).trans (heap_alloc_new w _), heap_alloc2_new _ _ _, ((Below.refl _ _).alloc (Nat.le_refl _) _).alloc (by simp) _⟩
  have H0 := Lib.hid h0
  clear h0
  go_enter Try.func21, Try.ntmps21
  go_wp2_with fail
  clear hz
  go_loopw [4] (fun i wr => LastR w n L i wr) (fun i _ => n - (intOf i).toNat)
  case atStart => exact H0.out
  case round =>
    obtain ⟨k, hk, rfl, hr0, hr1, hb⟩ := hrel
    have HR0 := Lib.hid hr0
    have HR1 := Lib.hid hr1
    have HB := Lib.hid hb
    clear hr0 hr1 hb H0
    by_cases hlt : k < n
    · have l1 : (k : Int) < n := by omega
      have i1 : (0 : Int) ≤ k ∧ (k : Int) < n := by omega
      obtain ⟨g, o, q, m, d, rfl, hc, htx⟩ := texts_at (HL.out.later HB.out) hlt
      have HTX := Lib.hid (htx.later (Below.refl wr.heap.size wr).drew)
      have hm := htx.size
      have HM := Lib.hid (show m ≤ 100000 from by
        rw [hm]
        have hkl : k < L.length := by rw [← HSZ.out]; exact hlt
        rw [List.getD_eq_getElem?_getD, List.getElem?_eq_getElem hkl]
        exact HSM.out _ (List.getElem_mem hkl))
      have HST := Lib.hid (show last L (k + 1) = rsum (last L k) k (L.getD k []) from rfl)
      have HDL := Lib.hid (show (last L k).length = 32 ∧ Sm.allB (last L k) from ⟨last_length L k, last_ok L k⟩)
      clear htx hm
      generalize last L k = D at *
      generalize L.getD k [] = B at *
      go_upto_region 5 with fail
      refine wp_region_still_tail 6 (by kernel_rfl) (by kernel_rfl) ?_
      simp only [List.take_succ_cons, List.take_zero, List.drop_succ_cons, List.drop_zero]
      refine still_load_mid (by rfl) 44 (.tmp 3) (by rfl) (w.heap.size + 1) 0 (by rfl) (vals D) _ (range_of_row HR1.out) A25 (by rfl) (by rw [vals_length, HDL.out.1]; exact S25) ?_
      rw [vals_toArray]
      try simp only [Act.put, List.setIfInBounds_toArray, List.set_cons_zero, List.set_cons_succ]
      repeat still_step
      refine wpStill_nil ?_
      change wpList _ _ _ _ _ wr.drew
      have HR0D := Lib.hid (show wr.drew.heap[w.heap.size]? = some (.cells (u8s (zeros 32)) 44 (0, 0)) from HR0.out)
      have HR1D := Lib.hid (show wr.drew.heap[w.heap.size + 1]? = some (.cells (u8s D) 44 (0, 0)) from HR1.out)
      have HBD := Lib.hid (show Below w.heap.size w wr.drew from HB.out.drew)
      generalize wr.drew = wd at *
      clear hc
      go_wp2_with (first | (go_at_call 40; refine (rsum_any D k B q m d wd HDL.out.1 HDL.out.2 (by omega) HTX.out HM.out).mono ?_; rintro _ w1 ⟨rfl, b1⟩; have HR01 := Lib.hid ((b1.block _ (Array.getElem?_eq_some_iff.1 HR0D.out).1).trans HR0D.out); have HR11 := Lib.hid ((b1.block _ (Array.getElem?_eq_some_iff.1 HR1D.out).1).trans HR1D.out); have HB1 := Lib.hid (HBD.out.trans (b1.mono HBD.out.size)); clear b1) | (refine wpList_store_row (by rfl) 44 _ _ (by rfl) (w.heap.size + 1) (u8s (rsum D k B)) (by rfl) (by rfl) _ _ HR11.out (by exact S25) (by rw [u8s_size, HDL.out.1]; rfl) (u8s_one _) ?_))
      go_roundw
      case rel => exact ⟨k + 1, by omega, by go_num, (setRow_other _ _ _ _ (by omega)).trans HR01.out, by rw [HST.out]; exact setRow_heap _ _ _ _ _ _ HR11.out, Below.setRow HB1.out (Nat.le_succ _) _⟩
      case measure => simp [intOf]; omega
    · obtain rfl : k = n := by omega
      have HE := Lib.hid (show L.length = k from HSZ.out.symm)
      have HSZ2 := Lib.hid (show (u8s (last L k)).size = 32 by rw [u8s_size, last_length])
      go_wp2_with (first | (refine wpList_load_row (by rfl) 44 _ (by rfl) (w.heap.size + 1) (by rfl) 44 _ (0, 0) _ HR1.out A25 (by rfl) (by rw [HSZ2.out]; exact S25) ?_) | (refine wpList_store_row (by rfl) 44 _ _ (by rfl) w.heap.size (u8s (last L k)) (by rfl) (by rfl) _ _ HR0.out (by rw [HSZ2.out]; exact S25) (by rw [HSZ2.out]; rfl) (u8s_one _) ?_))
      refine ret_row 2 (by kernel_rfl) w.heap.size _ (u8s (last L k)) A25 S25 rfl (setRow_heap _ _ _ _ _ _ HR0.out) HSZ2.out ⟨?_, Below.setRow HB.out (Nat.le_refl _) _⟩
      rw [HE.out]
end Go.Proofs.Ytlkeobohcfbgcaa.Wl

/- The reference's log: Sectors. -/
namespace Go.Proofs.Ytlkeobohcfbgcaa.Wl
open Go.RowKit

theorem low_later {w0 w w' : World} (h : Below w0.heap.size w0 w) (hb : Below w.heap.size w w') : Below w0.heap.size w0 w' := h.trans (hb.mono h.size)
/-- A record's sectors under way: out holds s bytes X and the first j of what follows, the number i is o + j. -/
def SecR (w5 : World) (s : Nat) (X F : List Nat) (N o : Nat) (v i : Value) (wr : World) : Prop :=
  ∃ j m : Nat, m = o + j ∧ j ≤ N ∧ i = .int .i64 (m : Nat) ∧ Out w5 wr v (s + j) (X ++ F.take j)
def ZerR (w5 : World) (s : Nat) (X : List Nat) (N : Nat) (v : Value) (wr : World) : Prop :=
  ∃ (j y : Nat) (q : Option Addr) (c : Nat), y = s + j ∧ j ≤ N ∧ v = .slice q y c ∧ Out w5 wr v y (X ++ zeros j)
theorem pad_step (B : List Nat) {j : Nat} (hj : j < B.length) (h19 : j < 19) : (pad19 B).take (j + 1) = (pad19 B).take j ++ [B.getD j 0] := by
  have hl : j < (pad19 B).length := by rw [pad19_length]; exact h19
  rw [List.take_succ_eq_append_getElem hl, List.getD_eq_getElem?_getD, List.getElem?_eq_getElem hj]
  simp only [pad19, List.getElem_append, List.length_take, Option.getD_some]
  rw [dif_pos (by omega), List.getElem_take]
theorem pad_zero (B : List Nat) {j : Nat} (hj : ¬ j < B.length) (h19 : j < 19) : (pad19 B).take (j + 1) = (pad19 B).take j ++ [0] := by
  have hl : j < (pad19 B).length := by rw [pad19_length]; exact h19
  rw [List.take_succ_eq_append_getElem hl]
  simp only [pad19, List.getElem_append, List.length_take, zeros]
  rw [dif_neg (by omega), List.getElem_replicate]
theorem drop_step (B : List Nat) {j : Nat} (hj : 19 + j < B.length) : (B.drop 19).take (j + 1) = (B.drop 19).take j ++ [B.getD (19 + j) 0] := by
  have hl : j < (B.drop 19).length := by rw [List.length_drop]; omega
  rw [List.take_succ_eq_append_getElem hl, List.getD_eq_getElem?_getD, List.getElem?_eq_getElem hj, List.getElem_drop]
  rfl
theorem take_step (D : List Nat) {j : Nat} (hj : j < D.length) : D.take (j + 1) = D.take j ++ [D.getD j 0] := by
  rw [List.take_succ_eq_append_getElem hj, List.getD_eq_getElem?_getD, List.getElem?_eq_getElem hj]
  rfl
theorem zeros_step (j : Nat) : zeros (j + 1) = zeros j ++ [0] := by simp [zeros, List.replicate_succ']
theorem tx_byte {w : World} {p : Option Addr} {n c : Nat} {B : List Nat} (h : Tx w p n c B) {j : Nat} (hj : j < n) : ∃ g o, p = some ⟨g, o, none⟩ ∧ w.cell? ⟨g, o + j, none⟩ = some (.int .u8 (B.getD j 0 : Nat)) := by
  have hsz := h.size
  obtain ⟨g, o, hp, hx⟩ := h.bytes.ne (by intro e; rw [e] at hsz; simp at hsz; omega)
  exact ⟨g, o, hp, hx j (by omega)⟩
set_option maxRecDepth 100000 in
set_option maxHeartbeats 2000000 in
theorem rsects_any (D : List Nat) (k : Nat) (B : List Nat) (p : Option Addr) (n c : Nat) (w : World) (hD : D.length = 32) (hDo : Sm.allB D) (hk : k < 1000000) (hT : Tx w p n c B) (hl : n ≤ 100000) :
    Calls Try.prog 39 #[.agg (u8s D), .int .i64 k, .slice p n c] w (RefPost w (sects D k B)) := by
  have hz := (zero_of_info Z25).1
  obtain ⟨i5, hi, hi0, hi1, hi2⟩ := info_parts I5
  have HI := Lib.hid hi
  have HI0 := Lib.hid hi0
  have HI1 := Lib.hid hi1
  have HI2 := Lib.hid hi2
  clear hi hi0 hi1 hi2
  have HT := Lib.hid hT
  have HD := Lib.hid hD
  have HDO := Lib.hid hDo
  have HN := Lib.hid hT.size
  have hnc := hT.le
  have HUD := Lib.hid (show (u8s D).size = 32 from by rw [u8s_size]; exact hD)
  have HR0 := Lib.hid (heap_alloc_new w (.cells (u8s D) 44))
  have HB0 := Lib.hid ((Below.refl w.heap.size w).alloc (Nat.le_refl _) (.cells (u8s D) 44))
  clear hT hD hDo
  go_enter Try.func39, Try.ntmps39
  go_upto_region 1 with fail
  go_upto_region 3 with (first | (refine wpList_store_row (by rfl) 44 (.tmp 7) (.tmp 15) (by rfl) w3.heap.size (u8s (rsum D k B)) (by rfl) (by rfl) _ _ (heap_alloc_new w3 _) (by exact S25) (by rfl) (u8s_one _) ?_; rw [setRow_alloc]) | (refine wpList_load_row (by rfl) 44 _ (by rfl) w.heap.size (by rfl) 44 _ (0, 0) _ HR0.out A25 (by rfl) (by rw [HUD.out]; exact S25) ?_) | (go_at_call 40; refine (rsum_any D k B p n c _ HD.out HDO.out hk (HT.out.later HB0.out) hl).mono ?_; rintro _ w3 ⟨rfl, b3⟩; have HB3 := Lib.hid (low_later HB0.out b3); clear b3))
  have hs5 : (w3.alloc (.cells (u8s (rsum D k B)) 44)).heap.size = w3.heap.size + 1 := by simp
  have HS5 := Lib.hid (heap_alloc_new w3 (.cells (u8s (rsum D k B)) 44))
  have HB5 := Lib.hid (HB3.out.alloc HB3.out.size (.cells (u8s (rsum D k B)) 44))
  rw [← hs5]
  clear hz HB3 HR0 HB0 HUD
  generalize w3.alloc (.cells (u8s (rsum D k B)) 44) = w5 at *
  generalize w3.heap.size = gs at *
  have HO6 := Lib.hid (show Out w5 (w5.alloc (.cells #[.int .u8 87] 5)) (.slice (some ⟨w5.heap.size, 0, none⟩) 1 1) 1 [87] from ⟨rfl, owns_mk (L := [87]) (heap_alloc_new w5 _) rfl (Nat.le_refl _) (by unfold maxLen; omega) (Nat.le_refl _), byte_ok (by omega), (Below.refl _ _).alloc (Nat.le_refl _) _⟩)
  generalize w5.alloc (.cells #[.int .u8 87] 5) = w6 at *
  clear hs5
  go_wp2_with fail
  refine (refcount_any n (by omega) w6).mono ?_
  rintro e w7 hp
  obtain ⟨q7, c7, rfl, h7, b7⟩ := hp
  rw [Cm.be_length] at h7 ⊢
  have T7 := Lib.hid (tx_of_owns h7 (Cm.be_ok _ _))
  have HO7 := Lib.hid (HO6.out.later b7)
  clear h7 b7
  obtain ⟨g7, o7, rfl, _⟩ := tx_byte T7.out (j := 0) (by omega)
  go_wp2_with (at_builtin; refine wpList_append_own_at _ (by rfl) (.tmp 17) (.tmp 20) 36 (by rfl) _ 5 i5 (.int .u8 0) 1 1 A22 HI.out HI0.out HI1.out HI2.out (by rfl) (by decide) _ _ _ (by rfl) HO7.out.own ⟨g7, o7, none⟩ 3 c7 (vals (Cm.be n 3)) (by rfl) (by rw [vals_length, Cm.be_length]) T7.out.cells (vals_one _) (by unfold maxLen; omega) (by omega) HO7.out.low.size ?_; intro v8 w8 hown8 hgrow8 _ _; have HO8 := Lib.hid (HO7.out.put (Cm.be_ok _ _) (Cm.be_length ..) hown8 hgrow8); clear hown8 hgrow8)
  go_wp2_with fail
  refine (refnum_any k (by omega) (by omega) w8).mono ?_
  rintro e w9 hp
  obtain ⟨q9, c9, rfl, h9, b9⟩ := hp
  rw [Cm.num_length] at h9 ⊢
  have T9 := Lib.hid (tx_of_owns h9 (Cm.num_ok _))
  have HO9 := Lib.hid (HO8.out.later b9)
  clear h9 b9
  obtain ⟨g9, o9, rfl, _⟩ := tx_byte T9.out (j := 0) (by omega)
  go_wp2_with (at_builtin; refine wpList_append_own_at _ (by rfl) (.tmp 22) (.tmp 24) 36 (by rfl) _ 5 i5 (.int .u8 0) 1 1 A22 HI.out HI0.out HI1.out HI2.out (by rfl) (by decide) _ _ _ (by rfl) HO9.out.own ⟨g9, o9, none⟩ 8 c9 (vals (Cm.num k)) (by rfl) (by rw [vals_length, Cm.num_length]) T9.out.cells (vals_one _) (by unfold maxLen; omega) (by omega) HO9.out.low.size ?_; intro v10 w10 hown10 hgrow10 _ _; have HO10 := Lib.hid (HO9.out.put (Cm.num_ok _) (Cm.num_length ..) hown10 hgrow10); clear hown10 hgrow10)
  have HX := Lib.hid (show ∃ X, X = [87] ++ Cm.be n 3 ++ Cm.num k ∧ Out w5 w10 v10 12 X from ⟨_, rfl, HO10.out⟩)
  obtain ⟨X1, hX1, hO1⟩ := HX.out
  have HX1 := Lib.hid hX1
  have HO11 := Lib.hid hO1
  clear hX1 hO1 HX HO10 HO9 HO8 HO7 HO6 T7 T9
  go_wp2_with fail
  go_loopw [8, 9] (fun v i wr => SecR w5 12 X1 (pad19 B) 19 0 v i wr) (fun _ i _ => 19 - (intOf i).toNat)
  case atStart => exact ⟨0, 0, rfl, Nat.zero_le _, rfl, by rw [List.take_zero, List.append_nil]; exact HO11.out⟩
  case round =>
    obtain ⟨j, m, hm, hj, rfl, hO⟩ := hrel
    have HO := Lib.hid hO
    clear hO
    obtain rfl : m = j := by omega
    clear hm
    by_cases h19 : m < 19
    · have l19 : (m : Int) < 19 := by omega
      by_cases hlt : m < n
      · have l1 : (m : Int) < n := by omega
        have i1 : (0 : Int) ≤ m ∧ (m : Int) < n := by omega
        obtain ⟨g, o, rfl, hc⟩ := tx_byte (HT.out.later (HB5.out.trans (HO.out.low.mono HB5.out.size))) hlt
        have hx8 : B.getD m 0 < 256 := Sm.getD_lt HT.out.ok (by omega) _
        have HST := Lib.hid (pad_step B (show m < B.length by have := HN.out; omega) h19)
        generalize B.getD m 0 = x at *
        have HN1 := Lib.hid (heap_alloc_new wr (.cells (u8s [x]) 5))
        have HOA := Lib.hid (HO.out.later ((Below.refl _ _).alloc (Nat.le_refl _) (.cells (u8s [x]) 5)))
        go_wp2_with (at_builtin; refine wpList_append_own_at _ (by rfl) (.tmp 34) (.tmp 39) 36 (by rfl) _ 5 i5 (.int .u8 0) 1 1 A22 HI.out HI0.out HI1.out HI2.out (by rfl) (by decide) _ _ _ (by rfl) HOA.out.own ⟨wr.heap.size, 0, none⟩ 1 1 (vals [x]) (by rfl) (by rw [vals_length, Nat.mul_one]; rfl) (cells_of_row (L := [x]) HN1.out) (vals_one _) (by unfold maxLen; omega) (by omega) HOA.out.low.size ?_; intro v7 w7 hown7 hgrow7 _ _; have H7 := Lib.hid (HOA.out.put (byte_ok hx8) rfl hown7 hgrow7); clear hown7 hgrow7)
        go_roundw
        case rel => exact ⟨m + 1, m + 1, by omega, by omega, by go_num, by have h := H7.out; rw [List.append_assoc, ← HST.out] at h; exact h⟩
        case measure => simp [intOf]; omega
      · have l1 : ¬ (m : Int) < n := by omega
        have HST := Lib.hid (pad_zero B (show ¬ m < B.length by have := HN.out; omega) h19)
        have HN1 := Lib.hid (heap_alloc_new wr (.cells (u8s [0]) 5))
        have HOA := Lib.hid (HO.out.later ((Below.refl _ _).alloc (Nat.le_refl _) (.cells (u8s [0]) 5)))
        go_wp2_with (at_builtin; refine wpList_append_own_at _ (by rfl) (.tmp 41) (.tmp 42) 36 (by rfl) _ 5 i5 (.int .u8 0) 1 1 A22 HI.out HI0.out HI1.out HI2.out (by rfl) (by decide) _ _ _ (by rfl) HOA.out.own ⟨wr.heap.size, 0, none⟩ 1 1 (vals [0]) (by rfl) (by rw [vals_length, Nat.mul_one]; rfl) (cells_of_row (L := [0]) HN1.out) (vals_one _) (by unfold maxLen; omega) (by omega) HOA.out.low.size ?_; intro v7 w7 hown7 hgrow7 _ _; have H7 := Lib.hid (HOA.out.put (byte_ok (by omega)) rfl hown7 hgrow7); clear hown7 hgrow7)
        go_roundw
        case rel => exact ⟨m + 1, m + 1, by omega, by omega, by go_num, by have h := H7.out; rw [List.append_assoc, ← HST.out] at h; exact h⟩
        case measure => simp [intOf]; omega
    · obtain rfl : m = 19 := by omega
      rw [show ((19 : Nat) : Int) = (19 : Int) from rfl]
      have hO12 : Out w5 wr u8 31 (X1 ++ pad19 B) := by have h := HO.out; rw [List.take_of_length_le (Nat.le_of_eq (pad19_length B))] at h; exact h
      generalize hX2 : X1 ++ pad19 B = X2 at *
      have HX2 := Lib.hid hX2
      have HO12 := Lib.hid hO12
      clear HO HO11 hX2 hO12
      have HR := Lib.hid (show (rsum D k B).length = 32 ∧ Sm.allB (rsum D k B) from ⟨rsum_length _ _ _, rsum_ok _ _ _⟩)
      generalize hS : rsum D k B = S at *
      have HSS := Lib.hid hS
      clear hS
      go_wp2_with fail
      go_loopw [8, 10] (fun v i wr => SecR w5 31 X2 S 32 0 v i wr) (fun _ i _ => 32 - (intOf i).toNat)
      case atStart => exact ⟨0, 0, rfl, Nat.zero_le _, rfl, by rw [List.take_zero, List.append_nil]; exact HO12.out⟩
      case round =>
        obtain ⟨j, m, hm, hj, rfl, hO⟩ := hrel
        have HO := Lib.hid hO
        clear hO
        obtain rfl : m = j := by omega
        clear hm
        by_cases h32 : m < 32
        · have l19 : (m : Int) < 32 := by omega
          have i1 : (0 : Int) ≤ m ∧ (m : Int) < 32 := by omega
          have hc := u8s_cell ((HO.out.low.block gs (Array.getElem?_eq_some_iff.1 HS5.out).1).trans HS5.out) m (by rw [HR.out.1]; exact h32)
          have hx8 : S.getD m 0 < 256 := Sm.getD_lt HR.out.2 (by omega) _
          have HST := Lib.hid (take_step S (show m < S.length by rw [HR.out.1]; exact h32))
          generalize S.getD m 0 = x at *
          have HN1 := Lib.hid (heap_alloc_new wr (.cells (u8s [x]) 5))
          have HOA := Lib.hid (HO.out.later ((Below.refl _ _).alloc (Nat.le_refl _) (.cells (u8s [x]) 5)))
          go_wp2_with (at_builtin; refine wpList_append_own_at _ (by rfl) (.tmp 48) (.tmp 52) 36 (by rfl) _ 5 i5 (.int .u8 0) 1 1 A22 HI.out HI0.out HI1.out HI2.out (by rfl) (by decide) _ _ _ (by rfl) HOA.out.own ⟨wr.heap.size, 0, none⟩ 1 1 (vals [x]) (by rfl) (by rw [vals_length, Nat.mul_one]; rfl) (cells_of_row (L := [x]) HN1.out) (vals_one _) (by unfold maxLen; omega) (by omega) HOA.out.low.size ?_; intro v7 w7 hown7 hgrow7 _ _; have H7 := Lib.hid (HOA.out.put (byte_ok hx8) rfl hown7 hgrow7); clear hown7 hgrow7)
          go_roundw
          case rel => exact ⟨m + 1, m + 1, by omega, by omega, by go_num, by have h := H7.out; rw [List.append_assoc, ← HST.out] at h; exact h⟩
          case measure => simp [intOf]; omega
        · obtain rfl : m = 32 := by omega
          rw [show ((32 : Nat) : Int) = (32 : Int) from rfl]
          have hO13 : Out w5 wr u8 63 (X2 ++ S) := by have h := HO.out; rw [List.take_of_length_le (Nat.le_of_eq HR.out.1)] at h; exact h
          have HO13 := Lib.hid hO13
          clear HO HO12 hO13
          have HN1 := Lib.hid (heap_alloc_new wr (.cells (u8s [1]) 5))
          have HOA := Lib.hid (HO13.out.later ((Below.refl _ _).alloc (Nat.le_refl _) (.cells (u8s [1]) 5)))
          go_wp2_with (at_builtin; refine wpList_append_own_at _ (by rfl) (.tmp 54) (.tmp 55) 36 (by rfl) _ 5 i5 (.int .u8 0) 1 1 A22 HI.out HI0.out HI1.out HI2.out (by rfl) (by decide) _ _ _ (by rfl) HOA.out.own ⟨wr.heap.size, 0, none⟩ 1 1 (vals [1]) (by rfl) (by rw [vals_length, Nat.mul_one]; rfl) (cells_of_row (L := [1]) HN1.out) (vals_one _) (by unfold maxLen; omega) (by omega) HOA.out.low.size ?_; intro v14 w14 hown14 hgrow14 _ _; have HO14 := Lib.hid (HOA.out.put (byte_ok (by omega)) rfl hown14 hgrow14); clear hown14 hgrow14)
          have hX3 : ∃ X3, X3 = X2 ++ S ++ [1] ∧ Out w5 w14 v14 64 X3 := ⟨_, rfl, HO14.out⟩
          obtain ⟨X3, hX3, hO3⟩ := hX3
          have HX3 := Lib.hid hX3
          have HO15 := Lib.hid hO3
          clear hX3 hO3 HO14 HO13
          go_loopw [8, 11] (fun v i wr => SecR w5 64 X3 (B.drop 19) (n - 19) 19 v i wr) (fun _ i _ => n - (intOf i).toNat)
          case atStart => exact ⟨0, 19, rfl, Nat.zero_le _, rfl, by rw [List.take_zero, List.append_nil]; exact HO15.out⟩
          case round =>
            obtain ⟨j, m, hm, hj, rfl, hO⟩ := hrel
            have HO := Lib.hid hO
            clear hO
            by_cases hlt : m < n
            · have l1 : (m : Int) < n := by omega
              have i1 : (0 : Int) ≤ m ∧ (m : Int) < n := by omega
              obtain ⟨g, o, rfl, hc⟩ := tx_byte (HT.out.later (HB5.out.trans (HO.out.low.mono HB5.out.size))) hlt
              have hx8 : B.getD m 0 < 256 := Sm.getD_lt HT.out.ok (by omega) _
              have hst := drop_step B (j := j) (by have := HN.out; omega)
              rw [← hm] at hst
              have HST := Lib.hid hst
              have HM := Lib.hid hm
              clear hst hm
              generalize B.getD m 0 = x at *
              have HN1 := Lib.hid (heap_alloc_new wr (.cells (u8s [x]) 5))
              have HOA := Lib.hid (HO.out.later ((Below.refl _ _).alloc (Nat.le_refl _) (.cells (u8s [x]) 5)))
              go_wp2_with (at_builtin; refine wpList_append_own_at _ (by rfl) (.tmp 63) (.tmp 68) 36 (by rfl) _ 5 i5 (.int .u8 0) 1 1 A22 HI.out HI0.out HI1.out HI2.out (by rfl) (by decide) _ _ _ (by rfl) HOA.out.own ⟨wr.heap.size, 0, none⟩ 1 1 (vals [x]) (by rfl) (by rw [vals_length, Nat.mul_one]; rfl) (cells_of_row (L := [x]) HN1.out) (vals_one _) (by unfold maxLen; omega) (by omega) HOA.out.low.size ?_; intro v7 w7 hown7 hgrow7 _ _; have H7 := Lib.hid (HOA.out.put (byte_ok hx8) rfl hown7 hgrow7); clear hown7 hgrow7)
              go_roundw
              case rel => exact ⟨j + 1, m + 1, by have := HM.out; omega, by have := HM.out; omega, by go_num, by have h := H7.out; rw [List.append_assoc, ← HST.out] at h; exact h⟩
              case measure => simp [intOf]; omega
            · obtain rfl : j = n - 19 := by omega
              have hO16 : Out w5 wr u8 (64 + (n - 19)) (X3 ++ B.drop 19) := by have h := HO.out; rw [List.take_of_length_le (by rw [List.length_drop]; have := HN.out; omega)] at h; exact h
              have l1 : ¬ (m : Int) < n := by omega
              obtain ⟨q16, c16, rfl⟩ := hO16.form
              generalize hX4 : X3 ++ B.drop 19 = X4 at *
              have HX4 := Lib.hid hX4
              have HO16 := Lib.hid hO16
              clear HO HO15 hX4 hO16 hm hj
              obtain ⟨s4, hs4⟩ : ∃ s4, s4 = 64 + (n - 19) := ⟨_, rfl⟩
              obtain ⟨N, hN⟩ : ∃ N, N = 64 * (need n - 1) - (n - 19) := ⟨_, rfl⟩
              have hNs : s4 + N = 64 * need n := by rw [hN, hs4]; unfold need; omega
              have hN64 : N < 64 := by rw [hN]; unfold need; omega
              rw [← hs4] at HO16 ⊢
              have hs8 : s4 ≤ 100064 := by omega
              have HN4 := Lib.hid hN
              have HS4 := Lib.hid hs4
              clear hN hs4
              go_wp2_with fail
              go_loopw [8] (fun v wr => ZerR w5 s4 X4 N v wr) (fun v _ => 200000 - lenOf v)
              case atStart => exact ⟨0, s4, q16, c16, rfl, Nat.zero_le _, rfl, by rw [show zeros 0 = [] from rfl, List.append_nil]; exact HO16.out⟩
              case round =>
                obtain ⟨j, y, q, c7, hy, hj, rfl, hO⟩ := hrel
                have HO := Lib.hid hO
                clear hO
                have hy8 : y < 200000 := by omega
                have t64 : (y : Int).tmod 64 = ((y % 64 : Nat) : Int) := by rw [Int.tmod_eq_emod_of_nonneg (by omega)]; omega
                by_cases h64 : y % 64 = 0
                · obtain rfl : j = N := by omega
                  have HY := Lib.hid (hy.trans hNs)
                  rw [h64] at t64
                  clear hy hj hNs hN64 hs8 h64
                  go_wp2_with fail
                  go_ret
                  have h := HO.out
                  rw [show X4 ++ zeros j = sects D k B from by rw [← HX4.out, HX3.out, ← HX2.out, HX1.out, HN4.out, ← HSS.out, HN.out]; simp [sects, head, rest]] at h
                  have hy := h.len
                  exact ⟨q, c7, by rw [← hy]; rfl, by rw [← hy]; exact owns_base h.own HB5.out.size, HB5.out.trans (h.low.mono HB5.out.size)⟩
                · have HNJ := Lib.hid (show j + 1 ≤ N by omega)
                  have HYY := Lib.hid hy
                  clear hy hj hNs hN64 hs8
                  generalize y % 64 = z at *
                  have HN1 := Lib.hid (heap_alloc_new wr (.cells (u8s [0]) 5))
                  have HOA := Lib.hid (HO.out.later ((Below.refl _ _).alloc (Nat.le_refl _) (.cells (u8s [0]) 5)))
                  go_wp2_with (at_builtin; refine wpList_append_own_at _ (by rfl) (.tmp 74) (.tmp 75) 36 (by rfl) _ 5 i5 (.int .u8 0) 1 1 A22 HI.out HI0.out HI1.out HI2.out (by rfl) (by decide) _ _ _ (by rfl) HOA.out.own ⟨wr.heap.size, 0, none⟩ 1 1 (vals [0]) (by rfl) (by rw [vals_length, Nat.mul_one]; rfl) (cells_of_row (L := [0]) HN1.out) (vals_one _) (by unfold maxLen; omega) (by omega) HOA.out.low.size ?_; intro v7 w7 hown7 hgrow7 _ _; have H7 := Lib.hid (HOA.out.put (byte_ok (by omega)) rfl hown7 hgrow7); clear hown7 hgrow7)
                  obtain ⟨q7, c8, rfl⟩ := H7.out.form
                  go_roundw
                  case rel => exact ⟨j + 1, y + 1, q7, c8, by have := HYY.out; omega, HNJ.out, rfl, by have h := H7.out; rw [List.append_assoc, ← zeros_step] at h; exact h⟩
                  case measure =>
                    simp [lenOf]
                    omega
end Go.Proofs.Ytlkeobohcfbgcaa.Wl

/- The reference's log: All. -/
namespace Go.Proofs.Ytlkeobohcfbgcaa.Wl
open Go.RowKit

theorem own_apart {w : World} {base n size : Nat} {v : Value} {xs : List Value} {g : Nat} {C : Array Value} {fr : Nat × Nat} (h : w.ownsRow base 5 size v n xs) (hg : w.heap[g]? = some (.cells C 44 fr)) : v.ownBlock ≠ some g := fun e => by
  rcases h.2 with ⟨rfl, _⟩ | ⟨g', cap, cur, rfl, _, hh, _⟩
  · cases e
  · obtain rfl : g' = g := by simpa [Value.ownBlock] using e
    rw [hh] at hg
    have := Option.some.inj hg
    simp at this
theorem Out.setRow {w0 w1 : World} {v : Value} {n g : Nat} {B : List Nat} (h : Out w0 w1 v n B) (hne : v.ownBlock ≠ some g) (hg : w0.heap.size ≤ g) (cs : Array Value) : Out w0 (w1.setRow g cs) v n B :=
  ⟨h.len, ⟨h.own.1, h.own.2.imp id fun ⟨g', cap, cur, hv, hb, hh, r⟩ => ⟨g', cap, cur, hv, hb, (setRow_other _ _ _ _ (fun e => hne (by rw [hv, e]; rfl))).trans hh, r⟩⟩, h.ok, Below.setRow h.low hg _⟩
theorem size_le (L : List (List Nat)) (h : ∀ b ∈ L, b.length ≤ 100000) : ∀ k, size L k ≤ k * 100160
  | 0 => by simp [size]
  | k + 1 => by
    have := size_le L h k
    have hl : (L.getD k []).length ≤ 100000 := by
      by_cases hk : k < L.length
      · rw [List.getD_eq_getElem?_getD, List.getElem?_eq_getElem hk]
        exact h _ (List.getElem_mem hk)
      · rw [List.getD_eq_getElem?_getD, List.getElem?_eq_none (by omega)]
        simp
    simp only [size]
    have : 64 * need (L.getD k []).length ≤ 100160 := by unfold need; omega
    omega
def AllR (w : World) (n : Nat) (L : List (List Nat)) (v i : Value) (wr : World) : Prop :=
  ∃ k : Nat, k ≤ n ∧ i = .int .i64 k ∧ wr.heap[w.heap.size]? = some (.cells (u8s (last L k)) 44 (0, 0)) ∧ Out w wr v (size L k) (all L k)
set_option maxRecDepth 100000 in
set_option maxHeartbeats 4000000 in
theorem rall_any (L : List (List Nat)) (p : Option Addr) (n c : Nat) (w : World) (hL : Texts w p n c L) (hn : n < 1000000) (hsm : ∀ b ∈ L, b.length ≤ 100000) :
    Calls Try.prog 16 #[.slice p n c] w (RefPost w (all L L.length)) := by
  have hz := (zero_of_info Z25).1
  obtain ⟨i5, hi, hi0, hi1, hi2⟩ := info_parts I5
  have HI := Lib.hid hi
  have HI0 := Lib.hid hi0
  have HI1 := Lib.hid hi1
  have HI2 := Lib.hid hi2
  clear hi hi0 hi1 hi2
  have HL := Lib.hid hL
  have HSZ := Lib.hid hL.size
  have HSM := Lib.hid hsm
  have hnc := hL.le
  clear hL hsm
  have hb1 := (Below.refl w.heap.size w).alloc (Nat.le_refl _) (.cells (u8s (zeros 32)) 44)
  have H0 := Lib.hid (show AllR w n L (.slice none 0 0) (.int .i64 0) (w.alloc (.cells (u8s (zeros 32)) 44)) from ⟨0, Nat.zero_le _, rfl, heap_alloc_new w _, (Out.none w).later hb1⟩)
  clear hb1
  go_enter Try.func16, Try.ntmps16
  go_wp2_with fail
  clear hz
  go_loopw [3, 5] (fun v i wr => AllR w n L v i wr) (fun _ i _ => n - (intOf i).toNat)
  case atStart => exact H0.out
  case round =>
    obtain ⟨k, hk, rfl, hr1, hO⟩ := hrel
    have HR1 := Lib.hid hr1
    have HO := Lib.hid hO
    clear hr1 hO H0
    by_cases hlt : k < n
    · have l1 : (k : Int) < n := by omega
      have i1 : (0 : Int) ≤ k ∧ (k : Int) < n := by omega
      obtain ⟨g, o, q, m, d, rfl, hc0, htx⟩ := texts_at HL.out hlt
      have HCW := Lib.hid hc0
      have HC := Lib.hid ((HO.out.low.cell (block_lt_of_cell hc0)).trans hc0)
      have HTX := Lib.hid (htx.later HO.out.low)
      have HTW := Lib.hid htx
      have hm := htx.size
      have hkl : k < L.length := by rw [← HSZ.out]; exact hlt
      have HM := Lib.hid (show m ≤ 100000 from by
        rw [hm]
        rw [List.getD_eq_getElem?_getD, List.getElem?_eq_getElem hkl]
        exact HSM.out _ (List.getElem_mem hkl))
      have HST := Lib.hid (show last L (k + 1) = rsum (last L k) k (L.getD k []) ∧ size L (k + 1) = size L k + 64 * need (L.getD k []).length ∧ all L (k + 1) = all L k ++ sects (last L k) k (L.getD k []) from ⟨rfl, rfl, rfl⟩)
      have HDL := Lib.hid (show (last L k).length = 32 ∧ Sm.allB (last L k) from ⟨last_length L k, last_ok L k⟩)
      have HSB := Lib.hid (show size L k ≤ 100160000000 from by have := size_le L HSM.out k; omega)
      clear htx hm hkl hc0
      generalize last L k = D at *
      generalize L.getD k [] = B at *
      generalize size L k = sk at *
      generalize all L k = ak at *
      have HSEC := Lib.hid (rsects_any D k B q m d wr.drew HDL.out.1 HDL.out.2 (by omega) (HTX.out.later (Below.refl _ _).drew) HM.out)
      go_upto_region 6 with fail
      refine wp_region_held_drew (S := fun w' => w'.heap[w.heap.size]? = some (.cells (u8s D) 44 (0, 0)) ∧ w'.cell? ⟨g, o + k, none⟩ = some (.slice q m d)) (by kernel_rfl) ⟨HR1.out, HC.out⟩ (fun hHeld => ?_)
      refine wpAnyH_take (i := 0) (oi := ⟨some 12, .move (.tmp 3), _, _, _, _⟩) (v := ?_) rfl (by kernel_rfl) (by kernel_rfl) (by kernel_rfl) (fun _ _ _ h => h) (Or.inl ⟨by rfl, ?_⟩) (by assumption) ?_
      rotate_left
      · intro w' hSw
        go_simp
        try with_reducible rfl
      try simp only [Act.put, List.setIfInBounds_toArray, List.set_cons_zero, List.set_cons_succ]
      refine wpAnyH_take (i := 1) (oi := ⟨some 13, .load 44 (.tmp 4), _, _, _, _⟩) (v := .agg (u8s D)) rfl (by kernel_rfl) (by kernel_rfl) (by kernel_rfl) (fun _ _ _ h => h) (yieldsIf_load_mid (by rfl) 44 (.tmp 4) (by rfl) w.heap.size 0 (by rfl) (vals D) _ (fun w' hSw => range_of_row hSw.1) A25 (by rfl) (by rw [vals_length, HDL.out.1]; exact S25)) (by assumption) ?_
      try simp only [Act.put, List.setIfInBounds_toArray, List.set_cons_zero, List.set_cons_succ]
      refine wpAnyH_take (i := 2) (oi := ⟨some 14, .move (.tmp 5), _, _, _, _⟩) (v := ?_) rfl (by kernel_rfl) (by kernel_rfl) (by kernel_rfl) (fun _ _ _ h => h) (Or.inl ⟨by rfl, ?_⟩) (by assumption) ?_
      rotate_left
      · intro w' hSw
        go_simp
        try with_reducible rfl
      try simp only [Act.put, List.setIfInBounds_toArray, List.set_cons_zero, List.set_cons_succ]
      refine wpAnyH_take (i := 3) (oi := ⟨some 15, .move (.tmp 0), _, _, _, _⟩) (v := ?_) rfl (by kernel_rfl) (by kernel_rfl) (by kernel_rfl) (fun _ _ _ h => h) (Or.inl ⟨by rfl, ?_⟩) (by assumption) ?_
      rotate_left
      · intro w' hSw
        go_simp
        try with_reducible rfl
      try simp only [Act.put, List.setIfInBounds_toArray, List.set_cons_zero, List.set_cons_succ]
      refine wpAnyH_take (i := 4) (oi := ⟨some 16, .move (.tmp 5), _, _, _, _⟩) (v := ?_) rfl (by kernel_rfl) (by kernel_rfl) (by kernel_rfl) (fun _ _ _ h => h) (Or.inl ⟨by rfl, ?_⟩) (by assumption) ?_
      rotate_left
      · intro w' hSw
        go_simp
        try with_reducible rfl
      try simp only [Act.put, List.setIfInBounds_toArray, List.set_cons_zero, List.set_cons_succ]
      refine wpAnyH_take (i := 5) (oi := ⟨some 17, .indexAddr 35 (.tmp 15) (.tmp 16), _, _, _, _⟩) (v := ?_) rfl (by kernel_rfl) (by kernel_rfl) (by kernel_rfl) (fun _ _ _ h => h) (Or.inl ⟨by rfl, ?_⟩) (by assumption) ?_
      rotate_left
      · intro w' hSw
        go_simp
        try with_reducible rfl
      try simp only [Act.put, List.setIfInBounds_toArray, List.set_cons_zero, List.set_cons_succ]
      refine wpAnyH_take (i := 6) (oi := ⟨some 18, .load 36 (.tmp 17), _, _, _, _⟩) (v := ?_) rfl (by kernel_rfl) (by kernel_rfl) (by kernel_rfl) (fun _ _ _ h => h) (Or.inl ⟨by rfl, ?_⟩) (by assumption) ?_
      rotate_left
      · intro w' hSw
        have hc := hSw.2
        go_simp
        try with_reducible rfl
      try simp only [Act.put, List.setIfInBounds_toArray, List.set_cons_zero, List.set_cons_succ]
      refine wpAnyH_ready (rs := [7]) (by kernel_rfl) (by simp) ?_
      refine AllReadyH.cons (o := ⟨some 19, .call ⟨.value (.func 39), #[.tmp 13, .tmp 14, .tmp 18], #[44, 3, 36]⟩, _, _, _, _⟩) rfl (fun K hK => ?_) AllReadyH.nil
      go_simp
      with_reducible refine HSEC.out.mono ?_
      rintro _ w19 hp
      obtain ⟨q19, c19, rfl, h19, b19⟩ := hp
      have hS19 : Below wr.heap.size wr w19 := (Below.refl wr.heap.size wr).drew.trans b19
      try go_wp2_with fail
      refine hK.out _ _ ⟨(hS19.block _ (Array.getElem?_eq_some_iff.1 HR1.out).1).trans HR1.out, (hS19.cell (block_lt_of_cell HC.out)).trans HC.out⟩ (fun hHeld => ?_)
      clear hK K
      try simp only [Act.put, List.setIfInBounds_toArray, List.set_cons_zero, List.set_cons_succ]
      have T19 := Lib.hid (tx_of_owns h19 (sects_ok D k HTX.out.ok))
      have HO19 := Lib.hid (HO.out.later hS19)
      have HR19 := Lib.hid ((hS19.block _ (Array.getElem?_eq_some_iff.1 HR1.out).1).trans HR1.out)
      clear h19 b19
      obtain ⟨g19, o19, rfl, _⟩ := tx_byte T19.out (j := 0) (by rw [sects_length]; have := need_pos B.length; omega)
      have HLS := Lib.hid (sects_length D k B)
      have HLB := Lib.hid (show 64 * need B.length ≤ 100160 from by have := HM.out; have := HTX.out.size; unfold need; omega)
      generalize sects D k B = P at *
      refine wpAnyH_ready (rs := [8]) (by kernel_rfl) (by simp) ?_
      refine AllReadyH.cons (o := ⟨some 20, .call ⟨.builtin .append, #[.tmp 12, .tmp 19], #[36, 36]⟩, _, _, _, _⟩) rfl (fun K hK => ?_) AllReadyH.nil
      rw [if_pos (by rfl)]
      refine wp_append_own w19 (.tmp 12) (.tmp 19) 36 (by rfl) w.heap.size 5 i5 (.int .u8 0) 1 1 A22 HI.out HI0.out HI1.out HI2.out (by rfl) (by decide) _ _ _ (by rfl) HO19.out.own ⟨g19, o19, none⟩ P.length c19 (vals P) (by rfl) (by rw [vals_length, Nat.mul_one]) T19.out.cells (vals_one _) (by unfold maxLen; have := HSB.out; have := HLS.out; have := HLB.out; omega) (by have := HSB.out; have := HLS.out; have := HLB.out; omega) HO19.out.low.size ?_
      intro v20 w20 ho20 hg20 _
      have HO20 := Lib.hid (HO19.out.put T19.out.ok rfl ho20 hg20)
      have HR20 := Lib.hid ((hg20.block w.heap.size (Array.getElem?_eq_some_iff.1 HR19.out).1 (fun e => own_apart HO19.out.own HR19.out e.symm)).trans HR19.out)
      refine hK.out _ _ ⟨HR20.out, (HO20.out.low.cell (block_lt_of_cell HCW.out)).trans HCW.out⟩ (fun hHeld => ?_)
      clear hK K ho20 hg20
      try simp only [Act.put, List.setIfInBounds_toArray, List.set_cons_zero, List.set_cons_succ]
      refine wpAnyH_take (i := 9) (oi := ⟨some 3, .assign (.tmp 20), _, _, _, _⟩) (v := ?_) rfl (by kernel_rfl) (by kernel_rfl) (by kernel_rfl) (fun _ _ _ h => h) (Or.inl ⟨by rfl, ?_⟩) (by assumption) ?_
      rotate_left
      · intro w' hSw
        go_simp
        try with_reducible rfl
      try simp only [Act.put, List.setIfInBounds_toArray, List.set_cons_zero, List.set_cons_succ]
      refine wpAnyH_done (by kernel_rfl) ?_ _
      have HL20 := Lib.hid (show sk + P.length = size L (k + 1) ∧ ak ++ P = all L (k + 1) from ⟨by rw [HST.out.2.1, HLS.out], HST.out.2.2.symm⟩)
      have HC20 := Lib.hid ((HO20.out.low.cell (block_lt_of_cell HCW.out)).trans HCW.out)
      have HTX20 := Lib.hid ((HTW.out.later HO20.out.low).later (Below.refl w20.heap.size w20).drew)
      clear hHeld HO HO19 HR19 HR1 HSEC
      go_upto_region 7 with fail
      refine wp_region_still_tail 6 (by kernel_rfl) (by kernel_rfl) ?_
      simp only [List.take_succ_cons, List.take_zero, List.drop_succ_cons, List.drop_zero]
      refine still_load_mid (by rfl) 44 (.tmp 4) (by rfl) w.heap.size 0 (by rfl) (vals D) _ (range_of_row HR20.out) A25 (by rfl) (by rw [vals_length, HDL.out.1]; exact S25) ?_
      rw [vals_toArray]
      try simp only [Act.put, List.setIfInBounds_toArray, List.set_cons_zero, List.set_cons_succ]
      have hc : w20.drew.cell? ⟨g, o + k, none⟩ = some (.slice q m d) := HC20.out
      repeat still_step
      refine wpStill_nil ?_
      change wpList _ _ _ _ _ w20.drew
      have HRD := Lib.hid (show w20.drew.heap[w.heap.size]? = some (.cells (u8s D) 44 (0, 0)) from HR20.out)
      have HOD := Lib.hid (HO20.out.later (Below.refl w20.heap.size w20).drew)
      generalize w20.drew = wd at *
      clear hc HR20 HO20 HC20
      go_wp2_with (first | (go_at_call 40; refine (rsum_any D k B q m d wd HDL.out.1 HDL.out.2 (by omega) HTX20.out HM.out).mono ?_; rintro _ w1 ⟨rfl, b1⟩; have HR11 := Lib.hid ((b1.block _ (Array.getElem?_eq_some_iff.1 HRD.out).1).trans HRD.out); have HO1 := Lib.hid (HOD.out.later b1); clear b1) | (refine wpList_store_row (by rfl) 44 _ _ (by rfl) w.heap.size (u8s (rsum D k B)) (by rfl) (by rfl) _ _ HR11.out (by exact S25) (by rw [u8s_size, HDL.out.1]; rfl) (u8s_one _) ?_))
      go_roundw
      case rel =>
        refine ⟨k + 1, by omega, by go_num, by rw [HST.out.1]; exact setRow_heap _ _ _ _ _ _ HR11.out, ?_⟩
        rw [← HL20.out.1, ← HL20.out.2]
        exact HO1.out.setRow (own_apart HO1.out.own HR11.out) (Nat.le_refl _) _
      case measure => simp [intOf]; omega
    · obtain rfl : k = n := by omega
      have HE := Lib.hid (show L.length = k from HSZ.out.symm)
      obtain ⟨q, c2, rfl⟩ := HO.out.form
      go_wp2_with fail
      go_ret
      have h := HO.out
      have hl := h.len
      exact ⟨q, c2, by rw [HE.out, ← hl]; rfl, by rw [HE.out, ← hl]; exact h.own, h.low⟩
end Go.Proofs.Ytlkeobohcfbgcaa.Wl

/- The reference's disk, plainly: what it holds, and what each call makes of it. -/
namespace Go.Proofs.Ytlkeobohcfbgcaa.Dk
open Go.RowKit

/-- The bytes P laid over L from o on. -/
def over (L : List Nat) (o : Nat) (P : List Nat) : List Nat := L.take o ++ P ++ L.drop (o + P.length)
theorem over_length {L P : List Nat} {o : Nat} (h : o + P.length ≤ L.length) : (over L o P).length = L.length := by
  simp [over]; omega
theorem over_nil (L : List Nat) (o : Nat) : over L o [] = L := by simp [over]
theorem over_ok {L P : List Nat} {o : Nat} (h : Sm.allB L) (k : Sm.allB P) : Sm.allB (over L o P) := fun x hx => by
  simp only [over, List.mem_append] at hx
  rcases hx with (hx | hx) | hx
  · exact h x (List.mem_of_mem_take hx)
  · exact k x hx
  · exact h x (List.mem_of_mem_drop hx)
theorem over_step {L B : List Nat} {o k : Nat} (hk : k < B.length) (ho : o + B.length ≤ L.length) :
    (u8s (over L o (B.take k))).setIfInBounds (o + k) (.int .u8 (B.getD k 0 : Nat)) = u8s (over L o (B.take (k + 1))) := by
  have hlt : o + k < L.length := by omega
  have e1 : over L o (B.take k) = (L.take o ++ B.take k) ++ L[o + k] :: L.drop (o + k + 1) := by
    unfold over
    rw [List.length_take, Nat.min_eq_left (by omega), List.drop_eq_getElem_cons hlt]
  have e2 : over L o (B.take (k + 1)) = (L.take o ++ B.take k) ++ B.getD k 0 :: L.drop (o + k + 1) := by
    unfold over
    rw [List.length_take, Nat.min_eq_left (by omega), List.take_succ_eq_append_getElem hk, List.getD_eq_getElem?_getD, List.getElem?_eq_getElem hk]
    simp only [Option.getD_some, List.append_assoc, List.cons_append, List.nil_append, Nat.add_assoc]
  rw [e1, e2]
  exact u8s_set _ _ _ _ _ (by simp; omega)

/-- What a disk holds: all bytes, how many sectors; is it dead; how many writes are left (-1: no fuse), how much of the last one comes; how many came. -/
structure D where
  L : List Nat
  n : Nat
  dead : Bool
  left : Int
  torn : Nat
  writes : Nat
structure D.ok (s : D) : Prop where
  len : s.L.length = 64 * s.n
  bytes : Sm.allB s.L
  small : s.n ≤ 4096
  torn : s.torn ≤ 64
  left : -1 ≤ s.left ∧ s.left < 9223372036854775808
def D.new (n : Nat) : D := ⟨zeros (64 * n), n, false, -1, 0, 0⟩
theorem D.new_ok {n : Nat} (h : n ≤ 4096) : (D.new n).ok := ⟨by simp [D.new, zeros], zeros_ok _, h, by simp [D.new], by simp [D.new]⟩
def D.fuse (s : D) (k torn : Int) : D := { s with left := if k < 0 then -1 else k, torn := if torn < 0 then 0 else if torn > 64 then 64 else torn.toNat }
theorem D.fuse_ok {s : D} (h : s.ok) {k : Int} (torn : Int) (hk : k < 9223372036854775808) : (s.fuse k torn).ok :=
  ⟨h.len, h.bytes, h.small, by
    simp only [D.fuse]
    split
    · omega
    · split <;> omega, by simp only [D.fuse]; split <;> omega⟩
def D.wake (s : D) : D := { s with dead := false, left := -1 }
theorem D.wake_ok {s : D} (h : s.ok) : s.wake.ok := ⟨h.len, h.bytes, h.small, h.torn, by simp [D.wake]⟩
def D.many (s : D) : Nat := if s.left = 0 then s.torn else 64
/-- The write of a disk that takes it. -/
def D.put (s : D) (i : Nat) (B : List Nat) : D :=
  { s with L := over s.L (64 * i) (B.take s.many), dead := decide (s.left = 0), left := if s.left = 0 then -1 else if s.left > 0 then s.left - 1 else s.left, writes := s.writes + 1 }
def D.no (s : D) (i : Int) (m : Nat) : Nat := if s.dead = true then 30 else if i < 0 ∨ (s.n : Int) ≤ i then 9 else if m ≠ 64 then 1 else 0
def D.write (s : D) (i : Int) (B : List Nat) : D := if s.no i B.length = 0 then s.put i.toNat B else s
def D.says (s : D) (i : Int) (m : Nat) : Nat := if s.no i m = 0 then (if s.left = 0 then 30 else 0) else s.no i m
theorem D.no_zero {s : D} {i : Int} {m : Nat} (h : s.no i m = 0) : s.dead = false ∧ 0 ≤ i ∧ i < s.n ∧ m = 64 := by
  unfold D.no at h
  split at h
  · omega
  · split at h
    · omega
    · split at h
      · omega
      · exact ⟨by simp_all, by omega, by omega, by omega⟩
theorem D.put_ok {s : D} (h : s.ok) {i : Nat} {B : List Nat} (hi : i < s.n) (hB : Sm.allB B) (hl : B.length = 64) : (s.put i B).ok := by
  have ht : s.many ≤ 64 := by
    have := h.torn
    unfold D.many
    split <;> omega
  have hL := h.len
  refine ⟨?_, over_ok h.bytes (fun x hx => hB x (List.mem_of_mem_take hx)), h.small, h.torn, ?_⟩
  · show (over s.L (64 * i) (B.take s.many)).length = 64 * s.n
    rw [over_length (by rw [List.length_take]; omega), hL]
  · have := h.left
    simp only [D.put]
    split
    · omega
    · split <;> omega
theorem D.write_ok {s : D} (h : s.ok) (i : Int) {B : List Nat} (hB : Sm.allB B) : (s.write i B).ok := by
  unfold D.write
  split
  · next h0 =>
    obtain ⟨_, h1, h2, h3⟩ := D.no_zero h0
    exact D.put_ok h (by omega) hB h3
  · exact h

/-- What a call leaves as it was: all blocks but those of P. -/
structure Only (P : Nat → Prop) (w w' : World) : Prop where
  os : w'.os = w.os
  tape : w'.tape = w.tape
  output : w'.output = w.output
  size : w.heap.size ≤ w'.heap.size
  block : ∀ k, k < w.heap.size → ¬ P k → w'.heap[k]? = w.heap[k]?
theorem Only.refl (P : Nat → Prop) (w : World) : Only P w w := ⟨rfl, rfl, rfl, Nat.le_refl _, fun _ _ _ => rfl⟩
theorem Only.trans {P : Nat → Prop} {a b c : World} (h : Only P a b) (k : Only P b c) : Only P a c :=
  ⟨k.os.trans h.os, k.tape.trans h.tape, k.output.trans h.output, Nat.le_trans h.size k.size, fun i hi hp => (k.block i (Nat.lt_of_lt_of_le hi h.size) hp).trans (h.block i hi hp)⟩
theorem Only.mono {P Q : Nat → Prop} {w w' : World} (h : Only P w w') (hq : ∀ k, P k → Q k) : Only Q w w' :=
  ⟨h.os, h.tape, h.output, h.size, fun k hk hn => h.block k hk (fun hp => hn (hq k hp))⟩
theorem Only.of_below (P : Nat → Prop) {w w' : World} (h : Below w.heap.size w w') : Only P w w' := ⟨h.os, h.tape, h.output, h.size, fun k hk _ => h.block k hk⟩
theorem Only.setCell {P : Nat → Prop} (w : World) {a : Addr} (ha : P a.block) (v : Value) : Only P w (w.setCell a v) :=
  ⟨rfl, rfl, rfl, by simp [World.setCell], fun k _ hn => heap_setCell_other _ _ _ _ (fun e => hn (by rw [e]; exact ha))⟩
theorem Only.below {P : Nat → Prop} {w w' : World} {base : Nat} (h : Only P w w') (hs : base ≤ w.heap.size) (hp : ∀ k, P k → base ≤ k) : Below base w w' :=
  ⟨h.os, h.tape, h.output, h.size, fun k hk => h.block k (by omega) (fun e => by have := hp k e; omega)⟩
/-- A text whose block stayed. -/
theorem tx_keep {w w' : World} {p : Option Addr} {n c : Nat} {B : List Nat} (h : Tx w p n c B) (hk : ∀ x, p = some x → B ≠ [] → w'.heap[x.block]? = w.heap[x.block]?) : Tx w' p n c B :=
  ⟨h.size, h.le, h.ok, h.at'.imp id fun ⟨x, hp, hx⟩ => ⟨x, hp, fun j u hu => by
    have h1 := hx j u hu
    have hB : B ≠ [] := by rintro rfl; simp [vals] at hu
    have hb : (x.add j).block = x.block := by cases x; simp [Addr.add]; split <;> rfl
    rw [World.cell?_of_block (w := w) (by rw [hb]; exact hk x hp hB)]
    exact h1⟩, h.sp⟩
end Go.Proofs.Ytlkeobohcfbgcaa.Dk

/- A list of records under way: headers in a row of one's own, each record's bytes in a block of its own. -/
namespace Go.Proofs.Ytlkeobohcfbgcaa.Wl
open Go.RowKit

theorem UL : Try.prog.underlying 35 = some (.slice 36) := by kernel_rfl
theorem IH : (Try.prog.info? 36).map (fun i => (i.zero, i.size, i.bytes)) = some (some (.slice none 0 0), 1, 24) := by kernel_rfl
/-- The records R: v holds their headers, from the world w1 on; each record's bytes lie aside of v's own row. -/
structure Ls (w1 w : World) (v : Value) (n : Nat) (R : List (List Nat)) : Prop where
  len : n = R.length
  own : ∃ hs : List Value, w.ownsRow w1.heap.size 36 1 v n hs ∧ ∀ i, i < n → ∃ q m c, hs[i]? = some (.slice q m c) ∧ Tx w q m c (R.getD i []) ∧ ∀ x, q = some x → w1.heap.size ≤ x.block ∧ x.block < w.heap.size ∧ v.ownBlock ≠ some x.block
theorem Ls.none (w : World) : Ls w w (.slice none 0 0) 0 [] := ⟨rfl, [], World.ownsRow_nil w w.heap.size 36 1, fun i hi => by omega⟩
theorem owns_keep {w w' : World} {base n size : Nat} {e : TypeId} {v : Value} {xs : List Value} (h : w.ownsRow base e size v n xs) (hb : ∀ g, v.ownBlock = some g → w'.heap[g]? = w.heap[g]?) : w'.ownsRow base e size v n xs :=
  ⟨h.1, h.2.imp id fun ⟨g, cap, cur, hv, hg, hh, r⟩ => ⟨g, cap, cur, hv, hg, (hb g (by rw [hv]; rfl)).trans hh, r⟩⟩
theorem Ls.keep {w1 w w' : World} {v : Value} {n : Nat} {R : List (List Nat)} (h : Ls w1 w v n R) (hsz : w.heap.size ≤ w'.heap.size) (hb : ∀ k, w1.heap.size ≤ k → k < w.heap.size → w'.heap[k]? = w.heap[k]?) : Ls w1 w' v n R := by
  obtain ⟨h1, hs, h2, h3⟩ := h
  refine ⟨h1, hs, owns_keep h2 (fun g hg => hb g (h2.lt g hg).1 (h2.lt g hg).2), fun i hi => ?_⟩
  obtain ⟨q, m, c, h4, h5, h6⟩ := h3 i hi
  refine ⟨q, m, c, h4, Dk.tx_keep h5 (fun x hx _ => hb _ (h6 x hx).1 (h6 x hx).2.1), fun x hx => ⟨(h6 x hx).1, Nat.lt_of_lt_of_le (h6 x hx).2.1 hsz, (h6 x hx).2.2⟩⟩
theorem Ls.later {w1 w w' : World} {v : Value} {n : Nat} {R : List (List Nat)} (h : Ls w1 w v n R) (hb : Below w.heap.size w w') : Ls w1 w' v n R :=
  h.keep hb.size (fun k _ hk => hb.block k hk)
theorem Ls.setRow {w1 w : World} {v : Value} {n : Nat} {R : List (List Nat)} (h : Ls w1 w v n R) {g : Nat} (hg : g < w1.heap.size) (cs : Array Value) : Ls w1 (w.setRow g cs) v n R :=
  h.keep (by simp) (fun k hk _ => setRow_other _ _ _ _ (by omega))
theorem Ls.form {w1 w : World} {v : Value} {n : Nat} {R : List (List Nat)} (h : Ls w1 w v n R) : ∃ q c, v = .slice q n c ∧ n ≤ c := by
  obtain ⟨_, hs, h2, _⟩ := h
  rcases h2.2 with ⟨rfl, h0⟩ | ⟨g, cap, cur, rfl, _, _, hc, _⟩
  · exact ⟨Option.none, 0, by rw [h0], by omega⟩
  · exact ⟨_, cap, rfl, hc⟩
/-- One more record. -/
theorem Ls.put {w1 w w7 : World} {v v7 : Value} {n : Nat} {R : List (List Nat)} {hs : List Value} {q : Option Addr} {m c : Nat} {b : List Nat} (hl : n = R.length) (how : w.ownsRow w1.heap.size 36 1 v n hs) (hall : ∀ i, i < n → ∃ q m c, hs[i]? = some (.slice q m c) ∧ Tx w q m c (R.getD i []) ∧ ∀ x, q = some x → w1.heap.size ≤ x.block ∧ x.block < w.heap.size ∧ v.ownBlock ≠ some x.block)
    (hb : Tx w q m c b) (hx : ∀ x, q = some x → w1.heap.size ≤ x.block ∧ x.block < w.heap.size ∧ v.ownBlock ≠ some x.block) (hown : w7.ownsRow w1.heap.size 36 1 v7 (n + 1) (hs ++ [.slice q m c])) (hg : w.grownBy w7 v.ownBlock) (hat : v7.ownBlock = v.ownBlock ∨ v7.ownBlock = some w.heap.size) : Ls w1 w7 v7 (n + 1) (R ++ [b]) := by
  have hne : ∀ x : Addr, x.block < w.heap.size → v.ownBlock ≠ some x.block → v7.ownBlock ≠ some x.block := fun x h1 h2 e => by
    rcases hat with h | h
    · exact h2 (h.symm.trans e)
    · rw [h] at e
      have := Option.some.inj e
      omega
  have hhl : hs.length = n := by have := how.1; omega
  refine ⟨by rw [List.length_append, hl]; rfl, hs ++ [.slice q m c], hown, fun i hi => ?_⟩
  by_cases hin : i < n
  · obtain ⟨q', m', c', h4, h5, h6⟩ := hall i hin
    refine ⟨q', m', c', by rw [List.getElem?_append_left (by omega)]; exact h4, ?_, fun x hx => ⟨(h6 x hx).1, Nat.lt_of_lt_of_le (h6 x hx).2.1 hg.size, hne x (h6 x hx).2.1 (h6 x hx).2.2⟩⟩
    rw [getD_app R b (by omega)]
    exact Dk.tx_keep h5 (fun x hx _ => hg.block _ (h6 x hx).2.1 (fun e => (h6 x hx).2.2 e.symm))
  · obtain rfl : i = n := by omega
    refine ⟨q, m, c, by rw [List.getElem?_append_right (by omega), hhl]; simp, ?_, fun x hq => ⟨(hx x hq).1, Nat.lt_of_lt_of_le (hx x hq).2.1 hg.size, hne x (hx x hq).2.1 (hx x hq).2.2⟩⟩
    rw [hl, getD_end R b]
    exact Dk.tx_keep hb (fun x hq _ => hg.block _ (hx x hq).2.1 (fun e => (hx x hq).2.2 e.symm))
theorem Ls.texts {w1 w : World} {q : Option Addr} {n c : Nat} {R : List (List Nat)} (h : Ls w1 w (.slice q n c) n R) : Texts w q n c R := by
  have hf := h.form
  obtain ⟨h1, hs, h2, h3⟩ := h
  refine ⟨h1, by obtain ⟨q', c', e, hc⟩ := hf; cases e; exact hc, fun hR => ?_⟩
  rcases h2.2 with ⟨_, h0⟩ | ⟨g, cap, cur, e, _, hg, _, _, _, ht⟩
  · exact absurd (List.eq_nil_of_length_eq_zero (by omega)) hR
  · cases e
    refine ⟨g, 0, rfl, fun i hi => ?_⟩
    obtain ⟨q', m', c', h4, h5, _⟩ := h3 i (by omega)
    refine ⟨q', m', c', ?_, h5⟩
    rw [Nat.zero_add, cell_of_row w g i _ _ _ hg, ← h4, ← ht, List.getElem?_take_of_lt (by omega), Array.getElem?_toList]
theorem size_mod (R : List (List Nat)) : ∀ k, size R k % 64 = 0
  | 0 => rfl
  | k + 1 => by have := size_mod R k; rw [size]; omega
/-- What a reading step finds. -/
theorem next_stop {d : List Nat} {R : List (List Nat)} (h : ¬ (size R R.length < d.length ∧ d.getD (size R R.length + 63) 0 = 1)) : next d R = .stop := by unfold next; rw [if_neg h]
theorem next_big {d : List Nat} {R : List (List Nat)} (h : size R R.length < d.length ∧ d.getD (size R R.length + 63) 0 = 1) (h2 : 100000 < lenAt d (size R R.length) ∨ d.length < size R R.length + 64 * need (lenAt d (size R R.length))) : next d R = .no := by unfold next; rw [if_pos h, if_pos h2]
theorem next_more {d : List Nat} {R : List (List Nat)} (h : size R R.length < d.length ∧ d.getD (size R R.length + 63) 0 = 1) (h2 : ¬ (100000 < lenAt d (size R R.length) ∨ d.length < size R R.length + 64 * need (lenAt d (size R R.length))))
    (h3 : head (last R R.length) R.length (recAt d (size R R.length) (lenAt d (size R R.length))) = (d.drop (size R R.length)).take 64) : next d R = .more (recAt d (size R R.length) (lenAt d (size R R.length))) := by unfold next; rw [if_pos h, if_neg h2, if_pos h3]
theorem next_other {d : List Nat} {R : List (List Nat)} (h : size R R.length < d.length ∧ d.getD (size R R.length + 63) 0 = 1)
    (h3 : ¬ head (last R R.length) R.length (recAt d (size R R.length) (lenAt d (size R R.length))) = (d.drop (size R R.length)).take 64) : next d R = .no := by
  unfold next
  rw [if_pos h, if_neg h3]
  split <;> rfl
end Go.Proofs.Ytlkeobohcfbgcaa.Wl

/- Package wal, as it landed: what one round of Open finds, plainly. -/
namespace Go.Proofs.Ytlkeobohcfbgcaa.Wl
open Go.RowKit

theorem lenAt_drop (d : List Nat) (u : Nat) : lenAt (d.drop u) 0 = lenAt d u := by simp [lenAt, List.getD_eq_getElem?_getD, List.getElem?_drop]
theorem lenAt_take (b : List Nat) : lenAt (b.take 64) 0 = lenAt b 0 := by
  simp only [lenAt, List.getD_eq_getElem?_getD, Nat.zero_add]
  rw [List.getElem?_take_of_lt (by omega), List.getElem?_take_of_lt (by omega), List.getElem?_take_of_lt (by omega)]
theorem lenAt_nil (L : List Nat) (k : Nat) : lenAt (head L k []) 0 = 0 := by
  have h : Cm.be 0 3 = [0, 0, 0] := by kernel_rfl
  simp [lenAt, head, h]
theorem textOf_rec {d : List Nat} {u n : Nat} (hf : u + 64 * need n ≤ d.length) : ((d.drop u).drop 12).take (min n 19) ++ ((d.drop u).drop 64).take (n - min n 19) = recAt d u n := by
  have hn : u + 64 + (n - 19) ≤ d.length := by unfold need at hf; omega
  refine List.ext_getElem (by simp [recAt_length]; omega) fun i h1 h2 => ?_
  rw [recAt_length] at h2
  rw [List.getElem_append]
  simp only [recAt, List.getElem_map, List.getElem_range, byteAt, List.getElem_take, List.getElem_drop, List.length_take, List.length_drop]
  split
  · next h =>
    rw [if_pos (by omega), List.getD_eq_getElem?_getD, List.getElem?_eq_getElem (by omega), Option.getD_some]
    congr 1
    omega
  · next h =>
    rw [if_neg (by omega), List.getD_eq_getElem?_getD, List.getElem?_eq_getElem (by omega), Option.getD_some]
    congr 1
    omega
section
variable {d : List Nat} {R : List (List Nat)}
/-- One round: what the sectors' text is, and what comes of it. -/
theorem round_step (hm : d.length % 64 = 0) (h : size R R.length < d.length ∧ d.getD (size R R.length + 63) 0 = 1) :
    (textOf (d.drop (size R R.length))).length ≤ 100000 ∧ (if head (last R R.length) R.length (textOf (d.drop (size R R.length))) = (d.drop (size R R.length)).take 64 then next d R = .more (textOf (d.drop (size R R.length))) ∧ size R R.length + 64 * need (textOf (d.drop (size R R.length))).length ≤ d.length else next d R = .no) := by
  have hu := size_mod R R.length
  have hbl : (d.drop (size R R.length)).length = d.length - size R R.length := List.length_drop
  have hno : ∀ (T : List Nat), T = [] → lenAt d (size R R.length) ≠ 0 → ¬ head (last R R.length) R.length T = (d.drop (size R R.length)).take 64 := fun T hT h0 he => h0 (by
    rw [hT] at he
    rw [← lenAt_drop, ← lenAt_take, ← he, lenAt_nil])
  by_cases h2 : 100000 < lenAt d (size R R.length) ∨ d.length < size R R.length + 64 * need (lenAt d (size R R.length))
  · have ht : textOf (d.drop (size R R.length)) = [] := by
      unfold textOf
      rw [lenAt_drop, hbl]
      rcases h2 with h2 | h2
      · rw [if_pos h2]
      · split
        · rfl
        · rw [if_pos (by omega)]
    have h0 : lenAt d (size R R.length) ≠ 0 := fun e => by
      rw [e] at h2
      have : need 0 = 1 := rfl
      omega
    rw [if_neg (hno _ ht h0), ht]
    exact ⟨by simp, next_big h h2⟩
  · have ht : textOf (d.drop (size R R.length)) = recAt d (size R R.length) (lenAt d (size R R.length)) := by
      unfold textOf
      rw [lenAt_drop, hbl, if_neg (by omega), if_neg (by omega)]
      exact textOf_rec (by omega)
    rw [ht, recAt_length]
    refine ⟨by omega, ?_⟩
    split
    · next he => exact ⟨next_more h h2 he, by omega⟩
    · next he => exact next_other h he
theorem goes_more {b : List Nat} (h : next d R = .more b) (f : Nat) : go d (f + 1) R = go d f (R ++ [b]) := by rw [go, h]
theorem goes_no (h : next d R = .no) (f : Nat) : go d (f + 1) R = none := by rw [go, h]
/-- The reading has come so far. -/
def Read (d : List Nat) (R : List (List Nat)) : Prop := size R R.length ≤ d.length ∧ reads d = go d (d.length / 64 + 1 - R.length) R
theorem Read.zero (d : List Nat) : Read d [] := ⟨Nat.zero_le _, rfl⟩
theorem Read.few (h : Read d R) : R.length ≤ d.length / 64 := by have := len_size R R.length; have := h.1; omega
theorem Read.more (h : Read d R) {b : List Nat} (hn : next d R = .more b) (hf : size R R.length + 64 * need b.length ≤ d.length) : Read d (R ++ [b]) := by
  have := h.few
  refine ⟨by rw [size_one]; exact hf, ?_⟩
  rw [h.2, show d.length / 64 + 1 - R.length = (d.length / 64 - R.length) + 1 from by omega, goes_more hn, List.length_append, List.length_singleton]
  congr 1
  omega
theorem Read.no (h : Read d R) (hn : next d R = .no) : reads d = none := by
  have := h.few
  rw [h.2, show d.length / 64 + 1 - R.length = (d.length / 64 - R.length) + 1 from by omega, goes_no hn]
theorem Read.stop (h : Read d R) (hn : next d R = .stop) : reads d = some R := h.2.trans (go_stop hn _)
end
end Go.Proofs.Ytlkeobohcfbgcaa.Wl

/- slices.Chunk: the iterator's contract. -/
namespace Go.Proofs.Ytlkeobohcfbgcaa.Wl
open Go.RowKit Go.Shelf
attribute [local go_sem] Oper.semAt_some

/-- The parts 0 to k - 1. -/
def upto (k : Nat) : List Nat := List.range k
theorem upto_succ (k : Nat) : upto (k + 1) = upto k ++ [k] := List.range_succ
theorem upto_length (k : Nat) : (upto k).length = k := List.length_range
/-- The part number j of n bytes from an address on; none, if there is none. -/
def chunk (bg o n j : Nat) : Value := if 64 * j < n then .slice (some ⟨bg, o + 64 * j, none⟩) (min 64 (n - 64 * j)) (min 64 (n - 64 * j)) else .slice none 0 0
def KpC (Bs Bn : Nat) (W W' : World) : Prop := W'.heap[Bs]? = W.heap[Bs]? ∧ W'.heap[Bn]? = W.heap[Bn]?
theorem heap_drewN (w : World) (n : Nat) : (w.drewN n).heap = w.heap := rfl
theorem grown_drewN (w : World) (n : Nat) : w.grownBy (w.drewN n) none := by
  have hb := Below.drewN (Below.refl w.heap.size w) n
  exact ⟨hb.os, hb.tape, hb.output, hb.size, fun k hk _ => hb.block k hk⟩
set_option maxRecDepth 100000 in
set_option maxHeartbeats 2000000 in
theorem chunk1_in (m l Bs Bn bg o n c : Nat) (p : Option Addr) (hp : 0 < n → p = some ⟨bg, o, none⟩) (hnc : n ≤ c) (hn : n ≤ 100000) (J Jx : List Nat → World → Prop) (B0 : Nat) (hJa : AbidesFrom B0 J)
    (hY : ∀ pre x W, J pre W → pre.length < (n + 63) / 64 → YieldAt Fence.wide (m - 1) Try.prog l #[chunk bg o n x] W fun e W' =>
      (e = .returned (.bool true) ∧ J (pre ++ [x]) W' ∧ KpC Bs Bn W W') ∨ (e = .returned (.bool false) ∧ Jx (pre ++ [x]) W'))
    (W : World) (hBs : W.cell? ⟨Bs, 0, none⟩ = some (.slice p n c)) (hBn : W.cell? ⟨Bn, 0, none⟩ = some (.int .i64 64)) (h0 : J [] W) :
    CallsIn Fence.wide m Try.prog 69 #[.func (.yield l) #[] #[], .pointer (some ⟨Bs, 0, none⟩), .pointer (some ⟨Bn, 0, none⟩)] W fun e W' => (∃ v, e = .returned v) ∧
      ((∃ ys, ys = upto ((n + 63) / 64) ∧ J ys W') ∨ (∃ pre, (∃ k, k ≤ (n + 63) / 64 ∧ pre = upto k) ∧ Jx pre W')) := by
  refine callsIn_of_wp Try.func69 rfl trivial ?_ rfl
  simp only [Try.ntmps69, List.size_toArray, List.length_cons, List.length_nil, Nat.reduceAdd, Nat.reduceSub, Array.replicate_succ, Array.replicate_zero, List.push_toArray, List.append_toArray, List.nil_append, List.cons_append]
  gi_wp2
  gi_loopw [4] (fun i wr => ∃ k j : Nat, k = 64 * j ∧ j ≤ (n + 63) / 64 ∧ i = .int .i64 k ∧ J (upto j) wr ∧ KpC Bs Bn W wr)
    (fun i _ => n + 64 - (intOf i).toNat)
  case atStart => exact ⟨0, 0, rfl, Nat.zero_le _, rfl, h0, rfl, rfl⟩
  case round =>
    obtain ⟨k, j, hkj, hj, rfl, hJ, hK⟩ := hrel
    have HJ := Lib.hid hJ
    have HK := Lib.hid hK
    have cs := (World.cell?_of_block (w := W) (a := ⟨Bs, 0, none⟩) hK.1).trans hBs
    have cn := (World.cell?_of_block (w := W) (a := ⟨Bn, 0, none⟩) hK.2).trans hBn
    have HKJ := Lib.hid hkj
    clear hJ hK hkj
    by_cases hlt : k < n
    · have l1 : (k : Int) < n := by omega
      obtain rfl := hp (by omega)
      have hnc2 : ¬ c = k := by omega
      obtain ⟨e, he⟩ : ∃ e : Nat, e = min 64 (n - k) := ⟨_, rfl⟩
      have e1 : min (64 : Int) (((n - k : Nat)) : Int) = (e : Int) := by omega
      have e2 : 1 ≤ e ∧ k + e ≤ n ∧ e ≤ 64 := by omega
      obtain ⟨e2, e3, e4⟩ := e2
      have q1 : IntKind.i64.wrap ((k : Int) + (e : Int)) = (k : Int) + (e : Int) := IntWalk.i64_in _ (by omega)
      have q2 : IntKind.i64.wrap ((k : Int) + 64) = (k : Int) + 64 := IntWalk.i64_in _ (by omega)
      have HE := Lib.hid he
      clear he
      gi_wp2
      refine wpIn_wide.2 ?_
      go_quiet (fail)
      have HJ2 := Lib.hid (hJa _ _ (wr.drewN nq) none HJ.out (grown_drewN wr nq) (fun r e => by cases e))
      have HK2 := Lib.hid (show KpC Bs Bn W (wr.drewN nq) from by rw [KpC, heap_drewN]; exact HK.out)
      have cs2 : (wr.drewN nq).cell? ⟨Bs, 0, none⟩ = some (.slice (some ⟨bg, o, none⟩) n c) := (World.cell?_of_block (w := wr) (by rw [heap_drewN])).trans cs
      have cn2 : (wr.drewN nq).cell? ⟨Bn, 0, none⟩ = some (.int .i64 64) := (World.cell?_of_block (w := wr) (by rw [heap_drewN])).trans cn
      generalize wr.drewN nq = wd at *
      clear cs cn HJ HK
      obtain ⟨fn, tmps, assign, body, hy, hR⟩ := hY (upto j) j wd HJ2.out (by rw [upto_length]; have := HKJ.out; omega)
      rw [show chunk bg o n j = .slice (some ⟨bg, o + k, none⟩) e e from by unfold chunk; rw [← HKJ.out, if_pos hlt, ← HE.out]] at hy
      have i1 : (0 : Int) ≤ (k : Int) := by omega
      have i2 : (k : Int) ≤ (k : Int) + (e : Int) := by omega
      have i3 : (k : Int) + (e : Int) ≤ (c : Int) := by omega
      have i4 : ¬ e = 0 := by omega
      gi_wp2
      refine ⟨fun h => (by cases h), hR.mono ?_⟩
      rintro _ W3 (⟨rfl, hJ3, hk3⟩ | ⟨rfl, hJx3⟩)
      · have HJ3 := Lib.hid hJ3
        have HK3 := Lib.hid (show KpC Bs Bn W W3 from ⟨hk3.1.trans HK2.out.1, hk3.2.trans HK2.out.2⟩)
        have cn3 := (World.cell?_of_block (w := wd) (a := ⟨Bn, 0, none⟩) hk3.2).trans cn2
        clear hJ3 hk3 hy cs2 cn2
        gi_wp2
        go_roundw
        case rel => exact ⟨k + 64, j + 1, by have := HKJ.out; omega, by have := HKJ.out; omega, by go_num, by rw [upto_succ]; exact HJ3.out, HK3.out⟩
        case measure => simp [intOf]; omega
      · gi_wp2
        refine bodyPost_ret (results_none rfl _ _ _) rfl ?_
        exact ⟨⟨_, rfl⟩, .inr ⟨_, ⟨j + 1, by have := HKJ.out; omega, (upto_succ _).symm⟩, hJx3⟩⟩
    · have l1 : ¬ (k : Int) < n := by omega
      gi_wp2
      go_end0
      obtain rfl : j = (n + 63) / 64 := by have := HKJ.out; omega
      exact ⟨⟨_, rfl⟩, .inl HJ.out⟩
theorem chunk_stops (m Bs Bn bg o n c : Nat) (p : Option Addr) (hp : 0 < n → p = some ⟨bg, o, none⟩) (hnc : n ≤ c) (hn : n ≤ 100000) (w : World) (hBs : w.cell? ⟨Bs, 0, none⟩ = some (.slice p n c)) (hBn : w.cell? ⟨Bn, 0, none⟩ = some (.int .i64 64)) :
    SeqStopsK Fence.wide m Try.prog 69 #[.pointer (some ⟨Bs, 0, none⟩), .pointer (some ⟨Bn, 0, none⟩)] (fun j : Nat => #[chunk bg o n j]) (KpC Bs Bn) (fun ys => ys = upto ((n + 63) / 64)) (fun pre => ∃ k, k ≤ (n + 63) / 64 ∧ pre = upto k) ((n + 63) / 64) w := fun l J Jx W hW hJ _ hY h0 =>
  chunk1_in m l Bs Bn bg o n c p hp hnc hn J Jx _ hJ hY W ((hW.cell (p := ⟨Bs, 0, none⟩) (block_lt_of_cell hBs)).trans hBs) ((hW.cell (p := ⟨Bn, 0, none⟩) (block_lt_of_cell hBn)).trans hBn) h0
set_option maxHeartbeats 1000000 in
theorem chunk_any (p : Option Addr) (n c : Nat) (w : World) :
    Calls Try.prog 55 #[.slice p n c, .int .i64 64] w fun e w' => e = .returned (.func (.func 69) #[] #[.pointer (some ⟨w.heap.size, 0, none⟩), .pointer (some ⟨w.heap.size + 1, 0, none⟩)]) ∧ w' = (w.alloc (.cells #[.slice p n c] 36)).alloc (.cells #[.int .i64 64] 3) := by
  have h1 := cell_one_new (w.alloc (.cells #[.slice p n c] 36)) (.int .i64 64) 3
  go_enter Try.func55, Try.ntmps55
  go_wp2_with fail
  go_ret
  exact ⟨rfl, rfl⟩
end Go.Proofs.Ytlkeobohcfbgcaa.Wl

/- A region that draws its order, within a round of a range over a function: walked as anywhere, where it defers nothing. -/
namespace Go.Proofs.Ytlkeobohcfbgcaa.Wl
open Go Go.RowKit

section
variable {P : Program} {ops : Array Oper} {Q : Exit → Act → World → Prop} {md : Region.Mode} {l n : Nat}
theorem opIn_round {i : Nat} {K K' : Act → World → Prop} {a : Act} {w : World} (hd : ∀ (i : Nat) (o : Oper), ops[i]? = some o → ∀ c, o.op ≠ .defer c) (hQ : ¬ LetsOut Q) (hK : ∀ a w, K a w → K' a w) (h : wpOp P ops Q i K a w) : wpOpIn (Fence.wide.inRound l) n P ops Q i K' a w := by
  unfold wpOp at h
  unfold wpOpIn
  cases ho : ops[i]? with
  | none => rw [ho] at h; exact hK _ _ h
  | some o =>
    rw [ho] at h
    simp only at h ⊢
    split
    · next hw =>
      rw [if_pos hw] at h
      rcases h with h | ⟨_, h⟩
      · refine ⟨fun _ _ => trivial, ?_⟩
        show Oper.uponIn _ n P o a K' Q ((Oper.semAt (some l) a.eval o).run P w)
        rw [Oper.semAt_some l a.eval o (hd i o ho)]
        unfold Oper.wp at h
        generalize (execOp a.eval o).run P w = r at *
        cases r with
        | ok x w' =>
          cases x with
          | value v => exact hK _ _ h
          | skip => exact hK _ _ h
          | defer d => exact hK _ _ h
          | enter f args =>
            refine ⟨fun h => (by cases h), CallsIn.inRound l (callsIn_wide.2 (Calls.mono h fun e w'' he => ?_))⟩
            cases e with
            | returned v => exact hK _ _ he
            | panicked c => exact he
            | outgrown => exact he
          | row row args => exact ⟨fun h => (by cases h), fun c cs _ => by
              obtain ⟨v, w'', r, s⟩ := h c cs
              exact ⟨v, w'', hK _ _ r, stepsIn_wide.2 s⟩⟩
          | _ => exact False.elim h
        | halt x w' => cases x <;> exact h
      · exact absurd h hQ
    · next hw =>
      rw [if_neg hw] at h
      exact ⟨fun _ _ => trivial, hK _ _ h⟩
theorem anyIn_round (hd : ∀ (i : Nat) (o : Oper), ops[i]? = some o → ∀ c, o.op ≠ .defer c) (hQ : ¬ LetsOut Q) : ∀ (fuel : Nat) (listed : Array Bool) (a : Act) (w : World), wpAny P md ops Q fuel listed a w → wpAnyIn (Fence.wide.inRound l) n P md ops Q fuel listed a w
  | 0, _, _, _, h => h
  | fuel + 1, _, _, _, h => ⟨h.1, fun i hi => opIn_round hd hQ (fun a w k => anyIn_round hd hQ fuel _ a w k) (h.2 i hi)⟩
/-- A region that is left at its end alone. -/
def Nrm (K : Act → World → Prop) : Exit → Act → World → Prop
  | .normal, a, w => K a w
  | _, _, _ => False
theorem nrm_normal {K : Act → World → Prop} {a : Act} {w : World} (h : K a w) : Nrm K .normal a w := h
theorem nrm_le {Q : Exit → Act → World → Prop} : ∀ e a w, Nrm (Q .normal) e a w → Q e a w := fun e a w h => by
  cases e <;> first | exact h | exact False.elim h
theorem region_nrm {S : World → Prop} {id : Nat} {a : Act} {w : World} (hm : P.follows .mixedOrders = true) (hS : S w.drew) (h : S w.drew → wpAnyH P .any ops (Nrm (Q .normal)) S ops.size (Array.replicate ops.size false) a w.drew) : (Code.region id ops true).wp P Q a w :=
  wp_mono (wp_region_held_drew hm hS h) nrm_le
/-- The beginning of such a region within a round. -/
theorem region_round {S : World → Prop} {id : Nat} {a : Act} {w : World} (hm : P.follows .mixedOrders = true) (hd : (ops.toList.all fun o => match o.op with | .defer _ => false | _ => true) = true) (hS : S w.drew) (h : S w.drew → wpAnyH P .any ops (Nrm (Q .normal)) S ops.size (Array.replicate ops.size false) a w.drew) : (Code.region id ops true).wpIn (Fence.wide.inRound l) n P Q a w :=
  wpIn_mono (wpIn_region_any hm (anyIn_round (fun i o ho c hc => by
    have h1 := List.all_eq_true.1 hd o (Array.mem_toList_iff.2 (Array.mem_of_getElem? ho))
    rw [hc] at h1
    cases h1) (fun ⟨_, _, h⟩ => h) _ _ _ _ (wpAny_of_held _ _ _ _ (h hS)))) nrm_le
/-- A range over a function whose variable is one slot: wpIn_rangeFunc_ownG, the temporaries of a round named by the statement's own. -/
theorem range_own {α : Type} {g : Operand} {ps : Array Tmp} {assign body : Code} {a : Act} {w : World} (h1 : 1 ≤ n) {gf : Nat} {lb : Array Value} (hg : a.eval g = .func (.func gf) #[] lb) (eg : ∀ args w, (callFunc gf args).run P w = .ok (.enter gf args) w)
    {encs : α → Array Value} {Kp : World → World → Prop} {S Sp : List α → Prop} {N : Nat} {w0 : World} (hseq : SeqStopsK Fence.wide (n - 1) P gf lb encs Kp S Sp N w0)
    (hKt : ∀ {A B C : World}, Kp A B → Kp B C → Kp A C) (hKb : ∀ (W : World) (l : Nat) (o o' : Obj), w.heap.size ≤ l → W.heap[l]? = some o → o.isCells = false → o.isWalk = false → Kp W (W.putObj l o')) (hb0 : Below w0.heap.size w0 w) (hps : ∀ x, (encs x).size = ps.size)
    (I : List α → World → Prop) (Ix : Code → List α → World → Prop) (hI : OwnFrom w.heap.size I) (hIx : ∀ c, OwnFrom w.heap.size (Ix c)) (h0 : I [] w) (t sl : Tmp) (val : α → Value)
    (hassign : ∀ (l : Nat) (x : α) (W : World) (K : Act → World → Prop), K (Act.put { tmps := a.tmps.setIfInBounds t (val x), defers := [] } (some sl) (val x)) W →
      assign.wpIn (Fence.wide.inRound l) (n - 1 - 1) P (Exit.then K (fun _ _ _ => False)) { tmps := (ps.zip (encs x)).foldl (fun t (p, v) => t.setIfInBounds p v) a.tmps, defers := [] } W)
    (hbody : ∀ (l : Nat) (pre : List α) (x : α) (W : World), I pre W → pre.length < N → body.wpIn (Fence.wide.inRound l) (n - 1 - 1) P (ownPostG w.heap.size Kp I Ix (pre ++ [x]) W) (Act.put { tmps := a.tmps.setIfInBounds t (val x), defers := [] } (some sl) (val x)) W)
    (hdone : ∀ (D : Nat) (xs : List α) (W : World), w.heap.size ≤ D → S xs → I xs W → W.heap[D]? = some (.deferred (some [])) → Q .normal { a with defers := { target := .collected D, args := #[] } :: a.defers } W)
    (hstop : ∀ (D : Nat) (c : Code) (pre : List α) (W : World), w.heap.size ≤ D → Sp pre → Ix c pre W → W.heap[D]? = some (.deferred (some [])) → c.wpIn Fence.wide n P Q { a with defers := { target := .collected D, args := #[] } :: a.defers } W) :
    (Code.rangeFunc g ps assign body).wpIn Fence.wide n P Q a w :=
  wpIn_rangeFunc_ownG rfl h1 hg trivial eg hseq hKt hKb hb0 hps I Ix hI hIx h0 _ hassign hbody hdone hstop
end
end Go.Proofs.Ytlkeobohcfbgcaa.Wl

/- Writes laid on a disk one behind the other, plainly. -/
namespace Go.Proofs.Ytlkeobohcfbgcaa.Wl
open Go.RowKit

/-- The bytes with all of these sectors written. -/
def lay (L : List Nat) : List (Nat × List Nat) → List Nat
  | [] => L
  | x :: W => lay (Dk.over L (64 * x.1) x.2) W
/-- The disk behind these writes, till one tells an error; that error. -/
def doAll (s : Dk.D) : List (Nat × List Nat) → Dk.D × Nat
  | [] => (s, 0)
  | x :: W => if s.says x.1 64 = 0 then doAll (s.write x.1 x.2) W else (s.write x.1 x.2, s.says x.1 64)
/-- Whole sectors of a disk of n. -/
def Fits (n : Nat) (W : List (Nat × List Nat)) : Prop := ∀ x ∈ W, x.1 < n ∧ x.2.length = 64 ∧ Sm.allB x.2
theorem Fits.tail {n : Nat} {x : Nat × List Nat} {W : List (Nat × List Nat)} (h : Fits n (x :: W)) : Fits n W := fun y hy => h y (List.mem_cons_of_mem _ hy)
theorem lay_length {n : Nat} : ∀ (W : List (Nat × List Nat)) (L : List Nat), L.length = 64 * n → Fits n W → (lay L W).length = 64 * n
  | [], _, h, _ => h
  | x :: W, L, h, hf => lay_length W _ (by
      have := hf x (List.mem_cons_self)
      rw [Dk.over_length (by omega), h]) hf.tail
theorem lay_app (L : List Nat) (V W : List (Nat × List Nat)) : lay L (V ++ W) = lay (lay L V) W := by
  induction V generalizing L with
  | nil => rfl
  | cons x V ih => exact ih _
/-- Behind a write of a whole sector. -/
theorem write_alive {s : Dk.D} (hd : s.dead = false) {i : Nat} {B : List Nat} (hi : i < s.n) (hB : B.length = 64) : s.no i 64 = 0 ∧ s.write i B = s.put i B ∧ s.says i 64 = if s.left = 0 then 30 else 0 := by
  have h0 : s.no i 64 = 0 := by simp [Dk.D.no, hd]; omega
  refine ⟨h0, ?_, ?_⟩
  · unfold Dk.D.write
    rw [hB, if_pos h0]
    rfl
  · unfold Dk.D.says
    rw [if_pos h0]
/-- All of these come. -/
theorem doAll_whole : ∀ (W : List (Nat × List Nat)) (s : Dk.D), s.dead = false → Fits s.n W → (s.left < 0 ∨ (W.length : Int) ≤ s.left) →
    doAll s W = ({ s with L := lay s.L W, left := if s.left < 0 then s.left else s.left - W.length, writes := s.writes + W.length }, 0)
  | [], s, hd, _, _ => by
    obtain ⟨L, n, dead, left, torn, writes⟩ := s
    simp [doAll, lay]
  | x :: W, s, hd, hf, hl => by
    obtain ⟨hi, hB, _⟩ := hf x (List.mem_cons_self)
    obtain ⟨_, h1, h2⟩ := write_alive hd hi hB
    have hne : s.left ≠ 0 := by
      rcases hl with h | h
      · omega
      · simp at h; omega
    rw [if_neg hne] at h2
    have hp : s.put x.1 x.2 = { s with L := Dk.over s.L (64 * x.1) x.2, dead := false, left := if s.left > 0 then s.left - 1 else s.left, writes := s.writes + 1 } := by
      simp only [Dk.D.put, Dk.D.many, if_neg hne, decide_eq_false hne]
      rw [List.take_of_length_le (by omega)]
    have ih := doAll_whole W (s.put x.1 x.2) (by rw [hp]) (by rw [hp]; exact hf.tail) (by
      rw [hp]
      simp only
      rcases hl with h | h
      · left; split <;> omega
      · right
        simp at h
        split <;> omega)
    rw [doAll, h2, if_pos rfl, h1, ih, hp]
    obtain ⟨L, n, dead, left, torn, writes⟩ := s
    simp only at hd hne hl
    subst hd
    simp only [lay, List.length_cons]
    congr 2
    · rcases hl with h | h
      · rw [show (if left > 0 then left - 1 else left) = left from if_neg (by omega), if_pos h, if_pos h]
      · simp at h
        rw [show (if left > 0 then left - 1 else left) = left - 1 from if_pos (by omega), if_neg (by omega), if_neg (by omega)]
        push_cast
        omega
    · omega
/-- The disk dies at one of these. -/
theorem doAll_dies : ∀ (W : List (Nat × List Nat)) (s : Dk.D) (j : Nat), s.dead = false → Fits s.n W → s.left = j → j < W.length →
    ∃ x, W[j]? = some x ∧ doAll s W = ({ s with L := Dk.over (lay s.L (W.take j)) (64 * x.1) (x.2.take s.torn), dead := true, left := -1, writes := s.writes + j + 1 }, 30)
  | [], _, _, _, _, _, h => by simp at h
  | x :: W, s, j, hd, hf, hl, hj => by
    obtain ⟨hi, hB, _⟩ := hf x (List.mem_cons_self)
    obtain ⟨_, h1, h2⟩ := write_alive hd hi hB
    cases j with
    | zero =>
      have h0 : s.left = 0 := hl
      rw [if_pos h0] at h2
      refine ⟨x, rfl, ?_⟩
      rw [doAll, h2, if_neg (by omega), h1]
      obtain ⟨L, n, dead, left, torn, writes⟩ := s
      simp only at h0
      subst h0
      simp [Dk.D.put, Dk.D.many, lay]
    | succ j =>
      have hne : s.left ≠ 0 := by omega
      rw [if_neg hne] at h2
      have hp : s.put x.1 x.2 = { s with L := Dk.over s.L (64 * x.1) x.2, dead := false, left := s.left - 1, writes := s.writes + 1 } := by
        simp only [Dk.D.put, Dk.D.many, if_neg hne, decide_eq_false hne]
        rw [List.take_of_length_le (by omega), if_pos (by omega)]
      obtain ⟨y, hy, he⟩ := doAll_dies W (s.put x.1 x.2) j (by rw [hp]) (by rw [hp]; exact hf.tail) (by rw [hp]; simp only; omega) (by simpa using hj)
      refine ⟨y, by simpa using hy, ?_⟩
      rw [doAll, h2, if_pos rfl, h1, he, hp]
      obtain ⟨L, n, dead, left, torn, writes⟩ := s
      simp only [lay, List.take_succ_cons]
      congr 2
      omega
end Go.Proofs.Ytlkeobohcfbgcaa.Wl

/- An append's writes, and what a log they leave, plainly. -/
namespace Go.Proofs.Ytlkeobohcfbgcaa.Wl
open Go.RowKit

/-- The sectors of a record but the first one. -/
def body (u : Nat) (b : List Nat) (c : Nat) : List (Nat × List Nat) := (List.range c).map fun j => (u + 1 + j, ((rest b).drop (64 * j)).take 64)
def zero (n u : Nat) (b : List Nat) : List (Nat × List Nat) := if u + need b.length < n then [(u + need b.length, zeros 64)] else []
/-- An append's writes, in their order. -/
def plan (n u : Nat) (D : List Nat) (k : Nat) (b : List Nat) : List (Nat × List Nat) := zero n u b ++ (body u b (need b.length - 1) ++ [(u, head D k b)])
theorem over_at {X C P : List Nat} {s : Nat} (hs : X.length = s) : Dk.over (X ++ C) s P = X ++ P ++ C.drop P.length := by
  unfold Dk.over
  rw [List.take_left' hs, ← List.drop_drop, List.drop_left' hs]
theorem body_succ (u : Nat) (b : List Nat) (c : Nat) : body u b (c + 1) = body u b c ++ [(u + 1 + c, ((rest b).drop (64 * c)).take 64)] := by
  simp [body, List.range_succ]
theorem chunk_length (b : List Nat) {c : Nat} (h : c < need b.length - 1) : (((rest b).drop (64 * c)).take 64).length = 64 := by
  rw [List.length_take, List.length_drop, rest_length]
  omega
theorem lay_body (u n : Nat) (b : List Nat) : ∀ (c : Nat) (L : List Nat), L.length = 64 * n → u + 1 + c ≤ n → c ≤ need b.length - 1 → lay L (body u b c) = L.take (64 * (u + 1)) ++ (rest b).take (64 * c) ++ L.drop (64 * (u + 1 + c))
  | 0, L, _, _, _ => by simp [body, lay]
  | c + 1, L, hl, hn, hc => by
    rw [body_succ, lay_app, lay_body u n b c L hl (by omega) (by omega)]
    show Dk.over _ (64 * (u + 1 + c)) _ = _
    have h1 : (L.take (64 * (u + 1)) ++ (rest b).take (64 * c)).length = 64 * (u + 1 + c) := by
      rw [List.length_append, List.length_take, List.length_take, rest_length]
      omega
    rw [over_at h1, chunk_length b (by omega), List.drop_drop, List.append_assoc (L.take _), show 64 * (c + 1) = 64 * c + 64 from by omega, List.take_add, show 64 * (u + 1 + c) + 64 = 64 * (u + 1 + (c + 1)) from by omega]
theorem zero_fits (n u : Nat) (b : List Nat) : Fits n (zero n u b) := fun x hx => by
  unfold zero at hx
  split at hx
  · simp only [List.mem_cons, List.not_mem_nil, or_false] at hx
    subst hx
    exact ⟨by assumption, by simp [zeros], zeros_ok _⟩
  · cases hx
theorem body_fits (n u : Nat) {b : List Nat} (hb : Sm.allB b) (h : u + need b.length ≤ n) : Fits n (body u b (need b.length - 1)) := fun x hx => by
  simp only [body, List.mem_map, List.mem_range] at hx
  obtain ⟨j, hj, rfl⟩ := hx
  have := need_pos b.length
  exact ⟨by simp only; omega, chunk_length b hj, fun y hy => rest_ok hb y (List.mem_of_mem_drop (List.mem_of_mem_take hy))⟩
theorem plan_fits (n u : Nat) (D : List Nat) (k : Nat) {b : List Nat} (hb : Sm.allB b) (h : u + need b.length ≤ n) : Fits n (plan n u D k b) := fun x hx => by
  unfold plan at hx
  rcases List.mem_append.1 hx with hx | hx
  · exact zero_fits n u b x hx
  · rcases List.mem_append.1 hx with hx | hx
    · exact body_fits n u hb h x hx
    · simp only [List.mem_cons, List.not_mem_nil, or_false] at hx
      subst hx
      have := need_pos b.length
      exact ⟨by simp only; omega, head_length _ _ _, head_ok _ _ hb⟩
theorem plan_length (n u : Nat) (D : List Nat) (k : Nat) (b : List Nat) : (plan n u D k b).length ≤ need b.length + 1 ∧ 1 ≤ (plan n u D k b).length := by
  have := need_pos b.length
  unfold plan zero body
  split <;> simp <;> omega
/-- Writes behind the sector u. -/
def Behind (u : Nat) (W : List (Nat × List Nat)) : Prop := ∀ x ∈ W, u < x.1
theorem early (n u : Nat) (b : List Nat) : Behind u (zero n u b ++ body u b (need b.length - 1)) := fun x hx => by
  have := need_pos b.length
  rcases List.mem_append.1 hx with hx | hx
  · unfold zero at hx
    split at hx
    · simp only [List.mem_cons, List.not_mem_nil, or_false] at hx
      subst hx
      simp only
      omega
    · cases hx
  · simp only [body, List.mem_map, List.mem_range] at hx
    obtain ⟨j, _, rfl⟩ := hx
    simp only
    omega
theorem over_take {L P : List Nat} {o m : Nat} (h : m ≤ o) (hl : o ≤ L.length) : (Dk.over L o P).take m = L.take m := by
  unfold Dk.over
  rw [List.append_assoc, List.take_append_of_le_length (by rw [List.length_take]; omega), List.take_take, Nat.min_eq_left h]
theorem lay_take {n u : Nat} : ∀ (W : List (Nat × List Nat)) (L : List Nat), L.length = 64 * n → Fits n W → Behind u W → (lay L W).take (64 * (u + 1)) = L.take (64 * (u + 1))
  | [], _, _, _, _ => rfl
  | x :: W, L, hl, hf, hb => by
    have h1 := hf x (List.mem_cons_self)
    have h2 := hb x (List.mem_cons_self)
    rw [lay, lay_take W _ (by rw [Dk.over_length (by omega), hl]) hf.tail (fun y hy => hb y (List.mem_cons_of_mem _ hy)), over_take (by omega) (by omega)]
theorem getD_of_take {L M : List Nat} {m j : Nat} (h : L.take m = M.take m) (hj : j < m) : L.getD j 0 = M.getD j 0 := by
  have := congrArg (fun l => l.getD j 0) h
  simpa [List.getD_eq_getElem?_getD, List.getElem?_take, hj] using this
theorem Good.keep {L L' : List Nat} {R : List (List Nat)} (h : Good L R) (hl : L'.length = L.length) (hp : L'.take (size R R.length) = L.take (size R R.length)) (hm : size R R.length < L.length → L'.getD (size R R.length + 63) 0 = L.getD (size R R.length + 63) 0) : Good L' R :=
  ⟨by rw [hl]; exact h.le, hp.trans h.pre, fun hs => by rw [hm (by omega)]; exact h.stop (by omega), h.small⟩
/-- The sector u and what is ahead of it stay: so does the log. -/
theorem Good.front {L L' : List Nat} {R : List (List Nat)} {u : Nat} (h : Good L R) (hu : size R R.length = 64 * u) (hl : L'.length = L.length) (ht : L'.take (64 * (u + 1)) = L.take (64 * (u + 1))) : Good L' R :=
  h.keep hl (by
    have := congrArg (fun l => l.take (64 * u)) ht
    simp only [List.take_take, Nat.min_eq_left (show 64 * u ≤ 64 * (u + 1) by omega)] at this
    rw [hu]
    exact this) (fun _ => getD_of_take ht (by omega))
/-- All of an append's writes: one more record. -/
theorem plan_lay {L : List Nat} {n u : Nat} (D : List Nat) (k : Nat) {b : List Nat} (hl : L.length = 64 * n) (hfit : u + need b.length ≤ n) :
    lay L (plan n u D k b) = L.take (64 * u) ++ sects D k b ++ (lay L (zero n u b)).drop (64 * (u + need b.length)) := by
  have hn := need_pos b.length
  have hl1 := lay_length (zero n u b) L hl (zero_fits n u b)
  have ht : (lay L (zero n u b)).take (64 * (u + 1)) = L.take (64 * (u + 1)) := lay_take _ L hl (zero_fits n u b) (fun x hx => early n u b x (List.mem_append_left _ hx))
  unfold plan
  rw [lay_app, lay_app, lay_body u n b _ _ hl1 (by omega) (Nat.le_refl _), ht, show u + 1 + (need b.length - 1) = u + need b.length from by omega]
  generalize lay L (zero n u b) = M at *
  show Dk.over _ (64 * u) _ = _
  rw [show 64 * (u + 1) = 64 * u + 64 from by omega, List.take_add, List.append_assoc, List.append_assoc, over_at (s := 64 * u) (by rw [List.length_take]; omega), head_length]
  have h64 : ((L.drop (64 * u)).take 64).length = 64 := by rw [List.length_take, List.length_drop]; omega
  rw [List.drop_left' h64, show (rest b).take (64 * (need b.length - 1)) = rest b from List.take_of_length_le (Nat.le_of_eq (rest_length b))]
  simp only [sects, List.append_assoc]
theorem Good.plan {L : List Nat} {R : List (List Nat)} {n u : Nat} {b : List Nat} (h : Good L R) (hl : L.length = 64 * n) (hu : size R R.length = 64 * u) (hfit : u + need b.length ≤ n) (hb : b.length ≤ 100000) :
    Good (lay L (plan n u (last R R.length) R.length b)) (R ++ [b]) ∧ (u + need b.length < n → (lay L (Wl.plan n u (last R R.length) R.length b)).getD (64 * (u + need b.length) + 63) 0 = 0) := by
  have hn := need_pos b.length
  have hl1 := lay_length (zero n u b) L hl (zero_fits n u b)
  have hs : size (R ++ [b]) (R ++ [b]).length = 64 * (u + need b.length) := by rw [size_one, hu]; omega
  have hX : (L.take (64 * u) ++ sects (last R R.length) R.length b).length = 64 * (u + need b.length) := by
    rw [List.length_append, List.length_take, sects_length]
    omega
  have hz : u + need b.length < n → (lay L (Wl.plan n u (last R R.length) R.length b)).getD (64 * (u + need b.length) + 63) 0 = 0 := fun hlt => by
    rw [plan_lay _ _ hl hfit, getD_at hX]
    have e : lay L (zero n u b) = Dk.over L (64 * (u + need b.length)) (zeros 64) := by unfold zero; rw [if_pos hlt]; rfl
    rw [e]
    unfold Dk.over
    have h1 : (L.take (64 * (u + need b.length))).length = 64 * (u + need b.length) := by rw [List.length_take]; omega
    rw [List.append_assoc, List.drop_left' h1, getD_left _ _ (by simp [zeros])]
    rfl
  have hlen : (lay L (Wl.plan n u (last R R.length) R.length b)).length = 64 * n := by
    rw [plan_lay _ _ hl hfit, List.length_append, hX, List.length_drop, hl1]
    omega
  refine ⟨⟨?_, ?_, fun hlt => ?_, fun x hx => ?_⟩, hz⟩
  · rw [hs, hlen]
    omega
  · rw [hs, plan_lay _ _ hl hfit, List.take_left' hX, all_one, ← h.pre, hu]
  · rw [hs] at hlt ⊢
    rw [hz (by omega)]
    omega
  · rcases List.mem_append.1 hx with hx | hx
    · exact h.small x hx
    · simp only [List.mem_cons, List.not_mem_nil, or_false] at hx
      rw [hx]
      exact hb
/-- An append that dies: the log is as it was, or has the one more record. -/
theorem Good.part {L : List Nat} {R : List (List Nat)} {n u : Nat} {b : List Nat} (h : Good L R) (hl : L.length = 64 * n) (hu : size R R.length = 64 * u) (hfit : u + need b.length ≤ n) (hb : b.length ≤ 100000) (hob : Sm.allB b) {j t : Nat} {x : Nat × List Nat} (hj : (Wl.plan n u (last R R.length) R.length b)[j]? = some x) (ht : t ≤ 64) :
    Good (Dk.over (lay L ((Wl.plan n u (last R R.length) R.length b).take j)) (64 * x.1) (x.2.take t)) R ∨ Good (Dk.over (lay L ((Wl.plan n u (last R R.length) R.length b).take j)) (64 * x.1) (x.2.take t)) (R ++ [b]) := by
  have hn := need_pos b.length
  have hpf := plan_fits n u (last R R.length) R.length hob hfit
  have hsub : Fits n ((Wl.plan n u (last R R.length) R.length b).take j) := fun y hy => hpf y (List.mem_of_mem_take hy)
  have hxf := hpf x (List.mem_of_getElem? hj)
  have hll := lay_length _ L hl hsub
  have hlx : (x.2.take t).length ≤ 64 := by rw [List.length_take]; omega
  have hlo : (Dk.over (lay L ((Wl.plan n u (last R R.length) R.length b).take j)) (64 * x.1) (x.2.take t)).length = L.length := by
    rw [Dk.over_length (by omega), hll, hl]
  have hpl : Wl.plan n u (last R R.length) R.length b = (zero n u b ++ body u b (need b.length - 1)) ++ [(u, head (last R R.length) R.length b)] := by
    unfold Wl.plan
    rw [List.append_assoc]
  have hE := early n u b
  by_cases hje : j < (zero n u b ++ body u b (need b.length - 1)).length
  · have hxe : x ∈ zero n u b ++ body u b (need b.length - 1) := by
      rw [hpl, List.getElem?_append_left hje] at hj
      exact List.mem_of_getElem? hj
    have htk : (Wl.plan n u (last R R.length) R.length b).take j = (zero n u b ++ body u b (need b.length - 1)).take j := by
      rw [hpl, List.take_append_of_le_length (Nat.le_of_lt hje)]
    have hux := hE x hxe
    refine Or.inl (h.front hu hlo ?_)
    rw [over_take (by omega) (by omega), htk]
    rw [htk] at hsub
    exact lay_take _ L hl hsub (fun y hy => hE y (List.mem_of_mem_take hy))
  · have hjl : j = (zero n u b ++ body u b (need b.length - 1)).length := by
      have := (List.getElem?_eq_some_iff.1 hj).1
      rw [hpl, List.length_append, List.length_singleton] at this
      omega
    have hx : x = (u, head (last R R.length) R.length b) := by
      rw [hpl, hjl, List.getElem?_append_right (Nat.le_refl _), Nat.sub_self] at hj
      simpa using hj.symm
    have htk : (Wl.plan n u (last R R.length) R.length b).take j = zero n u b ++ body u b (need b.length - 1) := by
      rw [hpl, hjl, List.take_left]
    rw [htk] at hlo hll hsub ⊢
    subst hx
    have ht1 := lay_take _ L hl hsub hE
    by_cases h64 : t = 64
    · right
      have := (h.plan hl hu hfit hb).1
      rw [hpl, lay_app] at this
      rw [h64, show ((u, head (last R R.length) R.length b).2).take 64 = head (last R R.length) R.length b from List.take_of_length_le (Nat.le_of_eq (head_length _ _ _))]
      exact this
    · left
      have h0 := congrArg (fun l => l.take (64 * u)) ht1
      simp only [List.take_take, Nat.min_eq_left (show 64 * u ≤ 64 * (u + 1) by omega)] at h0
      have h63 := getD_of_take (j := 64 * u + 63) ht1 (by omega)
      generalize lay L (zero n u b ++ body u b (need b.length - 1)) = M at *
      refine h.keep hlo ?_ (fun hlt => ?_)
      · rw [hu, over_take (Nat.le_refl _) (by omega)]
        exact h0
      · rw [hu, ← h63]
        unfold Dk.over
        have hlt' : ((head (last R R.length) R.length b).take t).length = t := by rw [List.length_take, head_length]; omega
        have hA : (M.take (64 * u) ++ (head (last R R.length) R.length b).take t).length = 64 * u + t := by rw [List.length_append, hlt', List.length_take]; omega
        show (M.take (64 * u) ++ (head (last R R.length) R.length b).take t ++ M.drop (64 * u + ((head (last R R.length) R.length b).take t).length)).getD (64 * u + 63) 0 = _
        rw [hlt', show 64 * u + 63 = 64 * u + t + (63 - t) from by omega, getD_at hA, List.getD_eq_getElem?_getD, List.getElem?_drop, List.getD_eq_getElem?_getD]
end Go.Proofs.Ytlkeobohcfbgcaa.Wl

/- Bytes of one's own, bytes aside of a disk. -/
namespace Go.Proofs.Ytlkeobohcfbgcaa.Dk
open Go.RowKit

/-- Bytes of one's own, from base on, in cells that may be written. -/
structure Mine (w : World) (base : Nat) (p : Option Addr) (n c : Nat) (B : List Nat) : Prop where
  size : n = B.length
  le : n ≤ c
  ok : Sm.allB B
  at' : (p = none ∧ c = 0) ∨ ∃ g o t C, p = some ⟨g, o, none⟩ ∧ base ≤ g ∧ w.heap[g]? = some (.cells C t (0, 0)) ∧ ∀ i, i < n → C[o + i]? = some (.int .u8 (B.getD i 0 : Nat))
theorem Mine.tx {w : World} {base : Nat} {p : Option Addr} {n c : Nat} {B : List Nat} (h : Mine w base p n c B) : Tx w p n c B :=
  ⟨h.size, h.le, h.ok, h.at'.imp id fun ⟨g, o, t, C, hp, _, hh, hc⟩ => ⟨⟨g, o, none⟩, hp, fun j u hu => by
    have hj : j < B.length := by
      have := (List.getElem?_eq_some_iff.1 hu).1
      rwa [vals_length] at this
    rw [vals_get B j hj] at hu
    rw [Addr.add_mid, cell_of_row w g (o + j) _ _ _ hh, hc j (by have := h.size; omega)]
    exact hu⟩, fun x hx hc => by
      rcases h.at' with ⟨_, h0⟩ | ⟨g, o, t, C, hp, _⟩
      · omega
      · rw [hp] at hx
        cases hx
        rfl⟩
theorem Mine.base {w : World} {base : Nat} {p : Option Addr} {n c : Nat} {B : List Nat} (h : Mine w base p n c B) : ∀ x, p = some x → base ≤ x.block := fun x hx => by
  rcases h.at' with ⟨h0, _⟩ | ⟨g, o, t, C, hp, hb, _⟩
  · rw [h0] at hx; cases hx
  · rw [hp] at hx; cases hx; exact hb
theorem Mine.some {w : World} {base : Nat} {p : Option Addr} {n c : Nat} {B : List Nat} (h : Mine w base p n c B) (hn : n ≠ 0) : ∃ g o, p = some ⟨g, o, none⟩ := by
  rcases h.at' with ⟨_, h0⟩ | ⟨g, o, t, C, hp, _⟩
  · have := h.le; omega
  · exact ⟨g, o, hp⟩
theorem Mine.later {w w' : World} {base : Nat} {p : Option Addr} {n c : Nat} {B : List Nat} (h : Mine w base p n c B) (hb : Below w.heap.size w w') : Mine w' base p n c B :=
  ⟨h.size, h.le, h.ok, h.at'.imp id fun ⟨g, o, t, C, hp, hbase, hh, hc⟩ => ⟨g, o, t, C, hp, hbase, (hb.block g (Array.getElem?_eq_some_iff.1 hh).1).trans hh, hc⟩⟩
/-- Bytes that lie aside of what a disk owns. -/
structure Safe (w : World) (P : Nat → Prop) (p : Option Addr) (n c : Nat) (B : List Nat) : Prop where
  mine : Mine w 0 p n c B
  off : ∀ x, p = some x → ¬ P x.block
theorem Mine.safe {w : World} {base : Nat} {p : Option Addr} {n c : Nat} {B : List Nat} (h : Mine w base p n c B) {P : Nat → Prop} (hP : ∀ k, P k → k < base) : Safe w P p n c B :=
  ⟨⟨h.size, h.le, h.ok, h.at'.imp id fun ⟨g, o, t, C, hp, _, r⟩ => ⟨g, o, t, C, hp, Nat.zero_le _, r⟩⟩, fun x hx hc => by
    have := h.base x hx
    have := hP _ hc
    omega⟩
theorem Safe.turned {w w' : World} {P P' : Nat → Prop} {p : Option Addr} {n c : Nat} {B : List Nat} (h : Safe w P p n c B) (hp : ∀ k, P' k → P k ∨ w.heap.size ≤ k) (ho : Only P w w') : Safe w' P' p n c B := by
  obtain ⟨⟨h1, h2, h3, h4⟩, h5⟩ := h
  rcases h4 with ⟨rfl, h0⟩ | ⟨g, o, t, C, rfl, hb, hh, hc⟩
  · exact ⟨⟨h1, h2, h3, Or.inl ⟨rfl, h0⟩⟩, fun x hx => by cases hx⟩
  · have hlt : g < w.heap.size := (Array.getElem?_eq_some_iff.1 hh).1
    refine ⟨⟨h1, h2, h3, Or.inr ⟨g, o, t, C, rfl, hb, (ho.block g hlt (h5 _ rfl)).trans hh, hc⟩⟩, fun x hx hP => ?_⟩
    cases hx
    rcases hp _ hP with e | e
    · exact h5 _ rfl e
    · exact absurd e (Nat.not_le.2 hlt)
theorem Safe.later {w w' : World} {P : Nat → Prop} {p : Option Addr} {n c : Nat} {B : List Nat} (h : Safe w P p n c B) (hb : Below w.heap.size w w') : Safe w' P p n c B := h.turned (fun _ e => Or.inl e) (Only.of_below _ hb)
def D.gives (s : D) (i : Int) : List Nat := if s.no i 64 = 0 then (s.L.drop (64 * i.toNat)).take 64 else []
def D.copy (s : D) (t : Nat) : D := ⟨s.L, s.n, false, -1, t, 0⟩
end Go.Proofs.Ytlkeobohcfbgcaa.Dk

/- Package disk, as it landed: how a disk lies in memory. -/
namespace Go.Proofs.Ytlkeobohcfbgcaa.Dk
open Go.RowKit

/-- The row of a disk. -/
def rowOf (p : Option Addr) (n c : Nat) (lit : Bool) (whole torn : Int) (dead : Bool) (writes : Nat) : Array Value :=
  #[.slice p n c, .bool lit, .int .i64 whole, .int .i64 torn, .bool dead, .int .i64 writes]
/-- The disk s: its row in the block g, its sectors at p. -/
structure DAt (w : World) (g : Nat) (p : Option Addr) (c : Nat) (E : List Value) (lit : Bool) (whole torn : Int) (s : D) : Prop where
  row : w.heap[g]? = some (.cells (rowOf p s.n c lit whole torn s.dead s.writes) 60 (0, 0))
  sec : (p = none ∧ s.n = 0 ∧ c = 0) ∨ ∃ q, p = some ⟨q, 0, none⟩ ∧ q ≠ g ∧ w.heap[q]? = some (.cells (vals s.L ++ E).toArray 74 (0, 0))
  burn : s.dead = false → lit = decide (0 ≤ s.left) ∧ (0 ≤ s.left → whole = s.left ∧ torn = s.torn)
  ok : s.ok
def PD (w : World) (g : Nat) (P : Nat → Prop) (s : D) : Prop :=
  ∃ p c E lit whole torn, DAt w g p c E lit whole torn s ∧ ∀ k, P k ↔ k = g ∨ ∃ a, p = some a ∧ k = a.block
section
variable {w w' : World} {g : Nat} {p : Option Addr} {c : Nat} {E : List Value} {lit : Bool} {whole torn : Int} {s : D} {P : Nat → Prop}
theorem DAt.fz (h : DAt w g p c E lit whole torn s) (j : Nat) : w.frozen? ⟨g, j, none⟩ = false := frozen_of_row w g j _ _ h.row
theorem DAt.c0 (h : DAt w g p c E lit whole torn s) : w.cell? ⟨g, 0, none⟩ = some (.slice p s.n c) := (cell_of_row w g 0 _ _ _ h.row).trans rfl
theorem DAt.c1 (h : DAt w g p c E lit whole torn s) : w.cell? ⟨g, 1, none⟩ = some (.bool lit) := (cell_of_row w g 1 _ _ _ h.row).trans rfl
theorem DAt.c2 (h : DAt w g p c E lit whole torn s) : w.cell? ⟨g, 2, none⟩ = some (.int .i64 whole) := (cell_of_row w g 2 _ _ _ h.row).trans rfl
theorem DAt.c3 (h : DAt w g p c E lit whole torn s) : w.cell? ⟨g, 3, none⟩ = some (.int .i64 torn) := (cell_of_row w g 3 _ _ _ h.row).trans rfl
theorem DAt.c4 (h : DAt w g p c E lit whole torn s) : w.cell? ⟨g, 4, none⟩ = some (.bool s.dead) := (cell_of_row w g 4 _ _ _ h.row).trans rfl
theorem DAt.c5 (h : DAt w g p c E lit whole torn s) : w.cell? ⟨g, 5, none⟩ = some (.int .i64 s.writes) := (cell_of_row w g 5 _ _ _ h.row).trans rfl
theorem DAt.lt (h : DAt w g p c E lit whole torn s) : g < w.heap.size := (Array.getElem?_eq_some_iff.1 h.row).1
theorem DAt.small (h : DAt w g p c E lit whole torn s) : ∀ a, p = some a → a.block < w.heap.size := fun a ha => by
  rcases h.sec with ⟨h0, _⟩ | ⟨q, hq, _, hh⟩
  · rw [h0] at ha; cases ha
  · rw [hq] at ha; cases ha; exact (Array.getElem?_eq_some_iff.1 hh).1
theorem DAt.keep (h : DAt w g p c E lit whole torn s) {Q : Nat → Prop} (ho : Only Q w w') (hg : ¬ Q g) (hp : ∀ a, p = some a → ¬ Q a.block) : DAt w' g p c E lit whole torn s :=
  ⟨(ho.block g h.lt hg).trans h.row, h.sec.imp id fun ⟨q, hq, hne, hh⟩ => ⟨q, hq, hne, (ho.block q (Array.getElem?_eq_some_iff.1 hh).1 (hp _ hq)).trans hh⟩, h.burn, h.ok⟩
theorem DAt.blocks (_ : DAt w g p c E lit whole torn s) : ∀ k, (k = g ∨ ∃ a, p = some a ∧ k = a.block) ↔ k = g ∨ ∃ a, p = some a ∧ k = a.block := fun _ => Iff.rfl
theorem PD.okay (h : PD w g P s) : s.ok := by
  obtain ⟨p, c, E, lit, whole, torn, h, _⟩ := h
  exact h.ok
theorem PD.lt (h : PD w g P s) : ∀ k, P k → k < w.heap.size := fun k hk => by
  obtain ⟨p, c, E, lit, whole, torn, h, hP⟩ := h
  rcases (hP k).1 hk with rfl | ⟨a, ha, rfl⟩
  · exact h.lt
  · exact h.small a ha
theorem PD.keep (Q : Nat → Prop) (h : PD w g P s) (ho : Only Q w w') (hq : ∀ k, P k → ¬ Q k) : PD w' g P s := by
  obtain ⟨p, c, E, lit, whole, torn, h, hP⟩ := h
  exact ⟨p, c, E, lit, whole, torn, h.keep ho (hq g ((hP g).2 (Or.inl rfl))) (fun a ha => hq _ ((hP _).2 (Or.inr ⟨a, ha, rfl⟩))), hP⟩
/-- The row is written over by another row, the sectors stay. -/
theorem DAt.turn (h : DAt w g p c E lit whole torn s) {lit' dead' : Bool} {whole' torn' : Int} {writes' : Nat} {s' : D} (hg : w'.heap[g]? = some (.cells (rowOf p s.n c lit' whole' torn' dead' writes') 60 (0, 0))) (ho : Only (fun k => k = g) w w') (hL : s'.L = s.L) (hn : s'.n = s.n) (hd : s'.dead = dead') (hw : s'.writes = writes')
    (hb : s'.dead = false → lit' = decide (0 ≤ s'.left) ∧ (0 ≤ s'.left → whole' = s'.left ∧ torn' = s'.torn)) (hok : s'.ok) : DAt w' g p c E lit' whole' torn' s' :=
  ⟨by rw [hn, hd, hw]; exact hg, by
    rw [hn, hL]
    exact h.sec.imp id fun ⟨q, hq, hne, hh⟩ => ⟨q, hq, hne, (ho.block q (Array.getElem?_eq_some_iff.1 hh).1 hne).trans hh⟩, hb, hok⟩
theorem DAt.pd (h : DAt w g p c E lit whole torn s) (hP : ∀ k, P k ↔ k = g ∨ ∃ a, p = some a ∧ k = a.block) : ∃ P', PD w g P' s ∧ ∀ k, P' k → P k ∨ w'.heap.size ≤ k := ⟨P, ⟨p, c, E, lit, whole, torn, h, hP⟩, fun _ e => Or.inl e⟩
end
theorem only_setCells {P : Nat → Prop} (w : World) {g : Nat} (hg : P g) (o : Nat) (vs : List Value) : Only P w (w.setCells g o vs) := by
  obtain ⟨h1, h2, h3, h4⟩ := size_setCells g vs o w
  exact ⟨h2, h3, h4, Nat.le_of_eq h1.symm, fun k _ hn => heap_setCells_other g vs o w k (fun e => hn (by rw [e]; exact hg))⟩
theorem IF : (Try.prog.info? 58).map (·.size) = some 3 := by kernel_rfl
def dark : Array Value := #[.bool false, .int .i64 0, .int .i64 0]
/-- The fuse is laid. -/
theorem DAt.lay {w : World} {g : Nat} {p : Option Addr} {c : Nat} {E : List Value} {lit : Bool} {whole torn : Int} {s : D} (h : DAt w g p c E lit whole torn s) (l : Bool) (k t : Int) :
    w.there g 1 3 ∧ (w.setCells g 1 [.bool l, .int .i64 k, .int .i64 t]).heap[g]? = some (.cells (rowOf p s.n c l k t s.dead s.writes) 60 (0, 0)) ∧ Only (fun k => k = g) w (w.setCells g 1 [.bool l, .int .i64 k, .int .i64 t]) :=
  ⟨there_row h.row 1 3 (by simp [rowOf]), heap_setCells_same g _ [.bool l, .int .i64 k, .int .i64 t] [.slice p s.n c] [.bool lit, .int .i64 whole, .int .i64 torn] [.bool s.dead, .int .i64 s.writes] w h.row rfl, only_setCells (P := fun k => k = g) w rfl 1 _⟩
/-- The three cells of a fuse are written one by one. -/
theorem row_three {w : World} {g : Nat} {p : Option Addr} {n c : Nat} {lit dead : Bool} {whole torn : Int} {writes : Nat} (h : w.heap[g]? = some (.cells (rowOf p n c lit whole torn dead writes) 60 (0, 0))) (l : Bool) (k : Int) :
    w.cell? ⟨g, 1, none⟩ = some (.bool lit) ∧ w.frozen? ⟨g, 1, none⟩ = false ∧ (w.setCell ⟨g, 1, none⟩ (.bool l)).cell? ⟨g, 2, none⟩ = some (.int .i64 whole) ∧ (w.setCell ⟨g, 1, none⟩ (.bool l)).frozen? ⟨g, 2, none⟩ = false ∧ ((w.setCell ⟨g, 1, none⟩ (.bool l)).setCell ⟨g, 2, none⟩ (.int .i64 k)).cell? ⟨g, 3, none⟩ = some (.int .i64 torn) ∧ ((w.setCell ⟨g, 1, none⟩ (.bool l)).setCell ⟨g, 2, none⟩ (.int .i64 k)).frozen? ⟨g, 3, none⟩ = false := by
  have r1 := heap_setCell_same w g 1 _ _ (.bool l) h
  have r2 := heap_setCell_same _ g 2 _ _ (.int .i64 k) r1
  exact ⟨(cell_of_row w g 1 _ _ _ h).trans rfl, frozen_of_row w g 1 _ _ h, (cell_of_row _ g 2 _ _ _ r1).trans rfl, frozen_of_row _ g 2 _ _ r1, (cell_of_row _ g 3 _ _ _ r2).trans rfl, frozen_of_row _ g 3 _ _ r2⟩
end Go.Proofs.Ytlkeobohcfbgcaa.Dk
