/- The contract of sha.Hash. -/
import Derived.Test.YtgdipdmpmaemjaaShaEq
namespace Go.Proofs.Ytgdipdmpmaemjaa
open Go.RowKit

def HashRel (w : World) (tag len : Nat) (L : List (List Nat)) (i : Value) (wr : World) : Prop :=
  ∃ k : Nat, k ≤ len ∧ i = .int .i64 k ∧ StateAt wr (w.heap.size + 1) (pre tag (L.take k)) ∧ wr.heap[w.heap.size]? = some (.cells (u8s (zeros 32)) 25 (0, 0)) ∧ Below w.heap.size w wr
theorem bigs_all (n : Nat) : Sm.allB (Sm.bigs n) := by
  have h : ∀ k, Sm.big n k < 256 := fun k => by unfold Sm.big; exact Nat.mod_lt _ (by omega)
  intro x hx
  simp only [Sm.bigs, List.mem_cons, List.not_mem_nil, or_false] at hx
  rcases hx with rfl | rfl | rfl | rfl | rfl | rfl | rfl | rfl <;> exact h _
set_option maxRecDepth 100000 in
set_option maxHeartbeats 1000000 in
theorem hash_any (tag : Nat) (htag : tag < 256) (L : List (List Nat)) (p : Option Addr) (len cap : Nat) (w : World) (hL : Texts w p len cap L) (hl : tot L < 1099511627776) :
    Calls Try.prog 19 #[.int .u8 tag, .slice p len cap] w fun e w' => e = .returned (.agg (u8s (Sm.sum (pre tag L)))) ∧ Below w.heap.size w w' := by
  have hsz := hL.size
  have hle := hL.le
  have hlen : len < 1099511627776 := by have := len_le_tot L; omega
  have hz := (zero_of_info Z25).1
  have hz6 := (zero_of_info Z36).1
  have h59 := (zero_of_info Z59).1
  have HL := Lib.hid hL
  have HSZ := Lib.hid hsz
  clear hL hsz
  have hB2 : Below w.heap.size w ((w.alloc (.cells (u8s (zeros 32)) 25)).alloc (.cells (stL zero8 (zeros 64) 0).toArray 36)) := ((Below.refl _ _).alloc (Nat.le_refl _) _).alloc (by simp) _
  have hS2 : StateAt ((w.alloc (.cells (u8s (zeros 32)) 25)).alloc (.cells (stL zero8 (zeros 64) 0).toArray 36)) (w.heap.size + 1) [] := state_zero (heap_alloc2_new _ _ _)
  have hR2 : ((w.alloc (.cells (u8s (zeros 32)) 25)).alloc (.cells (stL zero8 (zeros 64) 0).toArray 36)).heap[w.heap.size]? = some (.cells (u8s (zeros 32)) 25 (0, 0)) := heap_alloc2_old _ _ _
  have HB2 := Lib.hid hB2
  have HS2 := Lib.hid hS2
  have HR2 := Lib.hid hR2
  clear hB2 hS2 hR2
  go_enter Try.func19, Try.ntmps19
  go_wp2_with fail
  generalize hWW : (w.alloc (.cells (u8s (zeros 32)) 25)).alloc (.cells (stL zero8 (zeros 64) 0).toArray 36) = WW
  have hsz2 : WW.heap.size = w.heap.size + 1 + 1 := by subst hWW; simp
  rw [hWW] at HB2 HS2 HR2
  have hs3 : StateAt (WW.alloc (.cells #[.int .u8 tag] 5)) (w.heap.size + 1) [] := HS2.out.later ((Below.refl _ _).alloc (Nat.le_refl _) _)
  have hb3 : Bytes (WW.alloc (.cells #[.int .u8 tag] 5)) (some ⟨w.heap.size + 1 + 1, 0, none⟩) 1 1 [tag] := by
    rw [← hsz2]
    exact Bytes.row (L := [tag]) (heap_alloc_new WW _) (by intro x hx; simp at hx; omega)
  have hB3 : Below w.heap.size w (WW.alloc (.cells #[.int .u8 tag] 5)) := HB2.out.alloc HB2.out.size _
  have hR3 : (WW.alloc (.cells #[.int .u8 tag] 5)).heap[w.heap.size]? = some (.cells (u8s (zeros 32)) 25 (0, 0)) := (Below.heap_alloc _ _ _ (by omega)).trans HR2.out
  refine (write_any [] [tag] (w.heap.size + 1) _ 1 1 _ hs3 hb3 (fun _ a ha => by cases ha; show w.heap.size + 1 + 1 ≠ w.heap.size + 1; omega) (by simp)).mono ?_
  rintro _ w4 ⟨rfl, hs4, hg4⟩
  have HB4 := Lib.hid (grown_below hB3 hg4 (by omega))
  have HR4 := Lib.hid ((hg4.block _ (Array.getElem?_eq_some_iff.1 hR3).1 (by simp)).trans hR3)
  have HS4 := Lib.hid hs4
  clear hs3 hb3 hB3 hR3 hs4 hg4 hWW hsz2 HB2 HS2 HR2
  go_wp2_with fail
  go_loopw [14] (fun i wr => HashRel w tag len L i wr) (fun i _ => len - (intOf i).toNat)
  case atStart => exact ⟨0, by omega, rfl, HS4.out, HR4.out, HB4.out⟩
  case round =>
    obtain ⟨k, hk, rfl, hs, hr, hb⟩ := hrel
    have HS := Lib.hid hs
    have HR := Lib.hid hr
    have HB := Lib.hid hb
    clear hs hr hb HB4 HR4 HS4
    by_cases hlt : k < len
    · obtain ⟨g, o, hp, hx⟩ := HL.out.at' (by intro e; have := HSZ.out; rw [e] at this; simp at this; omega)
      obtain ⟨q, n, c, h1, h2⟩ := hx k (by have := HSZ.out; omega)
      subst hp
      have e1 := tot_step L k (by have := HSZ.out; omega)
      have e2 := tot_take_le L (k + 1)
      have e3 : n = (L.getD k []).length := h2.size
      have hbk : ∀ a, q = some a → L.getD k [] ≠ [] → a.block < w.heap.size := fun a ha hn => by
        subst ha
        have := h2.cells 0 _ (vals_get _ 0 (List.length_pos_iff.2 hn))
        exact block_lt_of_cell this
      have hcell : wr.cell? ⟨g, o + k, none⟩ = some (.slice q n c) := (HB.out.cell (p := ⟨g, o + k, none⟩) (block_lt_of_cell h1)).trans h1
      have HT := Lib.hid h2
      have HBK := Lib.hid hbk
      have HE := Lib.hid (show tot (L.take k) + (8 + n) < 1099511627776 from by omega)
      have HE3 := Lib.hid e3
      have hn : n < 1099511627776 := by omega
      clear hx h1 h2 hbk e1 e2 e3
      go_wp2_with fail
      refine (bigEnd_any n (by omega) _).mono ?_
      rintro _ w3 ⟨rfl, hb3⟩
      have hs3 : StateAt (w3.alloc (.cells (u8s (Sm.bigs n)) 59)) (w.heap.size + 1) (pre tag (L.take k)) := (HS.out.later hb3).later ((Below.refl _ _).alloc (Nat.le_refl _) _)
      have hB3 : Below w.heap.size w (w3.alloc (.cells (u8s (Sm.bigs n)) 59)) := (HB.out.trans (hb3.mono HB.out.size)).alloc (Nat.le_trans HB.out.size hb3.size) _
      have hr3 := (hb3.block _ (Array.getElem?_eq_some_iff.1 HR.out).1).trans HR.out
      have hR3 : (w3.alloc (.cells (u8s (Sm.bigs n)) 59)).heap[w.heap.size]? = some (.cells (u8s (zeros 32)) 25 (0, 0)) := (Below.heap_alloc _ _ _ (Array.getElem?_eq_some_iff.1 hr3).1).trans hr3
      have hgs : w.heap.size + 1 < w3.heap.size := Nat.lt_of_lt_of_le HS.out.lt hb3.size
      have HS3 := Lib.hid hs3
      have HB3 := Lib.hid hB3
      have HR3 := Lib.hid hR3
      have HGS := Lib.hid hgs
      have HY3 := Lib.hid (Bytes.row (L := Sm.bigs n) (heap_alloc_new w3 (.cells (u8s (Sm.bigs n)) 59)) (bigs_all n))
      clear hs3 hB3 hR3 hr3 hgs hb3
      go_wp2_with (refine wpList_store_row (by rfl) 59 _ _ (by rfl) w3.heap.size (u8s (Sm.bigs n)) (by rfl) (by rfl) _ _ (heap_alloc_new _ _) (by exact S59) (by simp [u8s, zeros]; rfl) (u8s_one _) ?_; rw [setRow_alloc])
      refine (write_any (pre tag (L.take k)) (Sm.bigs n) (w.heap.size + 1) _ 8 8 _ HS3.out HY3.out (fun _ a ha => by cases ha; have := HGS.out; show w3.heap.size ≠ w.heap.size + 1; omega) (by have := HE.out; simp only [List.length_append, pre_length, Sm.bigs, List.length_cons, List.length_nil]; omega)).mono ?_
      rintro _ w5 ⟨rfl, hs5, hg5⟩
      have HB5 := Lib.hid (grown_below HB3.out hg5 (by omega))
      have HR5 := Lib.hid ((hg5.block _ (Array.getElem?_eq_some_iff.1 HR3.out).1 (by simp)).trans HR3.out)
      have HS5 := Lib.hid hs5
      clear hs5 hg5
      go_wp2_with fail
      refine (write_any (pre tag (L.take k) ++ Sm.bigs n) (L.getD k []) (w.heap.size + 1) q n c _ HS5.out (HT.out.later HB5.out).bytes (fun hne a ha => by have := HBK.out a ha hne; omega) (by have := HE.out; have := HE3.out; simp only [List.length_append, pre_length, Sm.bigs, List.length_cons, List.length_nil]; omega)).mono ?_
      rintro _ w6 ⟨rfl, hs6, hg6⟩
      have HB6 := Lib.hid (grown_below HB5.out hg6 (by omega))
      have HR6 := Lib.hid ((hg6.block _ (Array.getElem?_eq_some_iff.1 HR5.out).1 (by simp)).trans HR5.out)
      have HS6 := Lib.hid hs6
      clear hs6 hg6
      go_wp2_with fail
      go_roundw
      case rel =>
        refine ⟨k + 1, by omega, by go_num, ?_, HR6.out, HB6.out⟩
        have e := HS6.out
        rw [pre_step tag L k (by have := HSZ.out; omega), part, ← HE3.out, ← List.append_assoc]
        exact e
      case measure => simp [intOf]; omega
    · obtain rfl : k = len := by omega
      have hT : pre tag (L.take k) = pre tag L := by rw [List.take_of_length_le (by have := HSZ.out; omega)]
      rw [hT] at HS
      clear hT
      go_wp2_with fail
      refine (done_any (pre tag L) _ _ HS.out (by rw [pre_length]; omega)).mono ?_
      rintro _ w5 ⟨rfl, hb5⟩
      have HR5 := Lib.hid ((hb5.block _ (Array.getElem?_eq_some_iff.1 HR.out).1).trans HR.out)
      have HB5 := Lib.hid (HB.out.trans (hb5.mono HB.out.size))
      clear hb5
      go_wp2_with (refine wpList_store_row (by rfl) 25 _ _ (by rfl) w.heap.size (u8s (Sm.sum (pre tag L))) (by rfl) (by rfl) _ _ HR5.out (by rw [sum_size]; exact S25) (by rw [sum_size]; simp [u8s, zeros]) (u8s_one _) ?_)
      exact ret_row 4 (by kernel_rfl) w.heap.size _ _ A25 S25 rfl (setRow_heap _ _ _ _ _ _ HR5.out) (sum_size _) ⟨rfl, Below.setRow HB5.out (Nat.le_refl _) _⟩
end Go.Proofs.Ytgdipdmpmaemjaa
