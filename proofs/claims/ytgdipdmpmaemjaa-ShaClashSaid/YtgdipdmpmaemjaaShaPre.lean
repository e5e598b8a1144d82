/- The contract of sha.Preimage. -/
import Derived.Test.YtgdipdmpmaemjaaShaSum
import Derived.Deep.AppendLies
import Derived.Laws.AppendOwnNone
namespace Go.Proofs.Ytgdipdmpmaemjaa
open Go.RowKit

def part (t : List Nat) : List Nat := Sm.bigs t.length ++ t
def pre (tag : Nat) (L : List (List Nat)) : List Nat := tag :: L.flatMap part
def tot (L : List (List Nat)) : Nat := (pre 0 L).length
theorem pre_length (tag : Nat) (L : List (List Nat)) : (pre tag L).length = tot L := by simp [pre, tot]
theorem pre_step (tag : Nat) (L : List (List Nat)) (k : Nat) (h : k < L.length) : pre tag (L.take (k + 1)) = pre tag (L.take k) ++ part (L.getD k []) := by
  rw [take_succ_getD L k h]; simp [pre]
theorem part_length (t : List Nat) : (part t).length = 8 + t.length := by simp [part, Sm.bigs]; omega
theorem tot_step (L : List (List Nat)) (k : Nat) (h : k < L.length) : tot (L.take (k + 1)) = tot (L.take k) + (8 + (L.getD k []).length) := by
  have := congrArg List.length (pre_step 0 L k h)
  rw [List.length_append, part_length] at this
  exact this
theorem tot_split (L : List (List Nat)) (k : Nat) : tot L = tot (L.take k) + ((L.drop k).flatMap part).length := by
  have h : L.flatMap part = (L.take k).flatMap part ++ (L.drop k).flatMap part := by rw [← List.flatMap_append, List.take_append_drop]
  simp only [tot, pre, List.length_cons]
  rw [h, List.length_append]
  omega
theorem tot_take_le (L : List (List Nat)) (k : Nat) : tot (L.take k) ≤ tot L := by
  have := tot_split L k
  omega
theorem len_le_flat (M : List (List Nat)) : M.length ≤ (M.flatMap part).length := by
  induction M with
  | nil => simp
  | cons t M ih => rw [List.flatMap_cons, List.length_append, part_length]; simp only [List.length_cons]; omega
theorem len_le_tot (L : List (List Nat)) : L.length ≤ tot L := by
  have := len_le_flat L
  simp only [tot, pre, List.length_cons]
  omega
def PreRel (w : World) (tag len : Nat) (L : List (List Nat)) (v i : Value) (wr : World) : Prop :=
  ∃ k : Nat, k ≤ len ∧ i = .int .i64 k ∧ wr.ownsRow w.heap.size 5 1 v (tot (L.take k)) (vals (pre tag (L.take k))) ∧ Below w.heap.size w wr
theorem tot_zero : tot ([] : List (List Nat)) = 1 := rfl
set_option maxRecDepth 100000 in
set_option maxHeartbeats 1000000 in
theorem pre_any (tag : Nat) (_htag : tag < 256) (L : List (List Nat)) (p : Option Addr) (len cap : Nat) (w : World) (hL : Texts w p len cap L) (hl : tot L < 1099511627776) :
    Calls Try.prog 17 #[.int .u8 tag, .slice p len cap] w fun e w' => ∃ q n c, e = .returned (.slice q n c) ∧ w'.ownsRow w.heap.size 5 1 (.slice q n c) n (vals (pre tag L)) ∧ Below w.heap.size w w' := by
  have hsz := hL.size
  have hle := hL.le
  have hlen : len < 1099511627776 := by have := len_le_tot L; omega
  obtain ⟨i5, hi, hi0, hi1, hi2⟩ := info_parts I5
  have HI := Lib.hid hi
  have HI0 := Lib.hid hi0
  have HI1 := Lib.hid hi1
  have HI2 := Lib.hid hi2
  clear hi hi0 hi1 hi2
  have HL := Lib.hid hL
  have HSZ := Lib.hid hsz
  clear hL hsz
  go_enter Try.func17, Try.ntmps17
  go_wp2_with fail
  go_loop [5, 14] (fun s i => ∃ k : Nat, k ≤ len ∧ i = .int .i64 k ∧ s = .int .i64 (tot (L.take k) : Nat)) (fun _ i => len - (intOf i).toNat)
  case atStart => exact ⟨0, by omega, rfl, rfl⟩
  case round =>
    obtain ⟨k, hk, rfl, rfl⟩ := hrel
    by_cases hlt : k < len
    · obtain ⟨g, o, hp, hx⟩ := HL.out.at' (by intro e; have := HSZ.out; rw [e] at this; simp at this; omega)
      obtain ⟨q, n, c, h1, h2⟩ := hx k (by have := HSZ.out; omega)
      subst hp
      have e1 := tot_step L k (by have := HSZ.out; omega)
      have e2 := tot_take_le L (k + 1)
      have e3 := h2.size
      have e4 : n = (L.getD k []).length := e3
      obtain ⟨t, ht⟩ : ∃ t, t = tot (L.take k) := ⟨_, rfl⟩
      rw [← ht] at e1 ⊢
      have b1 : t + 8 + n < 1099511627776 := by omega
      have E1 := Lib.hid e1
      have E4 := Lib.hid e4
      clear hx h2 e1 e2 e3 e4 ht
      go_wp2
      go_round
      case rel => exact ⟨k + 1, by omega, by go_num, by rw [E1.out, ← E4.out]; exact congrArg (Value.int .i64) (by omega)⟩
      case measure => simp [intOf]; omega
    · obtain rfl : len = k := by omega
      obtain ⟨t, ht⟩ : ∃ t, t = tot (L.take len) := ⟨_, rfl⟩
      have htl : t < 1099511627776 := by have := tot_take_le L len; omega
      rw [← ht]
      have h59 := (zero_of_info Z59).1
      clear ht hlt hk
      go_wp2_with (first | (at_make; refine wpList_make_own _ (by rfl) _ _ 22 (by rfl) w.heap.size 5 i5 (.int .u8 0) 1 A22 HI.out HI0.out HI1.out .i64 .i64 _ t (by rfl) (by rfl) (by rfl) (by rw [HI2.out]; omega) (by unfold maxLen; omega) (Nat.le_refl _) ?_; intro w1 hown1 hgrow1) | (at_builtin; refine wpList_append_own _ (by rfl) (.tmp 26) (.tmp 28) 22 (by rfl) w.heap.size 5 i5 (.int .u8 0) 1 1 A22 HI.out HI0.out HI1.out HI2.out (by rfl) (by decide) _ 0 [] (by rfl) (hown1.alloc _) ⟨w1.heap.size, 0, none⟩ 1 1 (vals [tag]) (by rfl) (by rfl) (cells_of_row (L := [tag]) (heap_alloc_new w1 _)) (vals_one _) (by unfold maxLen; omega) (by omega) (by have := hgrow1.size; simp; omega) ?_; intro v2 w2 hown2 hgrow2 _))
      have hb1 : Below w.heap.size w w1 := (Below.refl _ _).grown hgrow1 (Nat.le_refl _) (by simp)
      have hb2 : Below w.heap.size w w2 := (hb1.alloc hb1.size _).grown hgrow2 (by have := hb1.size; simp; omega) (fun k hk => (hown1.alloc (.cells (u8s [tag]) 5)).lt k hk |>.1)
      have HO2 := Lib.hid hown2
      have HB2 := Lib.hid hb2
      clear hown2 hgrow2 hown1 hgrow1 hb1 hb2
      have hst : PreRel w tag len L v2 (.int .i64 0) w2 := ⟨0, by omega, rfl, HO2.out, HB2.out⟩
      have HST := Lib.hid hst
      clear hst HO2 HB2
      go_loopw [8, 32] (fun v i wr => PreRel w tag len L v i wr) (fun _ i _ => len - (intOf i).toNat)
      case atStart => exact HST.out
      case round =>
        obtain ⟨k, hk, rfl, ho, hb⟩ := hrel
        have HO0 := Lib.hid ho
        have HB := Lib.hid hb
        clear ho hb HST
        by_cases hlt : k < len
        · obtain ⟨g, o, hp, hx⟩ := HL.out.at' (by intro e; have := HSZ.out; rw [e] at this; simp at this; omega)
          obtain ⟨q, n, c, h1, h2⟩ := hx k (by have := HSZ.out; omega)
          subst hp
          have hcell : _ = some (Value.slice q n c) := (HB.out.cell (p := ⟨g, o + k, none⟩) (block_lt_of_cell h1)).trans h1
          have e1 := tot_step L k (by have := HSZ.out; omega)
          have e2 := tot_take_le L (k + 1)
          obtain ⟨s, hs⟩ : ∃ s, s = tot (L.take k) := ⟨_, rfl⟩
          obtain ⟨tk, htk⟩ : ∃ tk, tk = L.getD k [] := ⟨_, rfl⟩
          rw [← hs, ← htk] at e1
          rw [← htk] at h2
          have e3 := h2.size
          have b1 : s + 8 + n < 1099511627776 := by omega
          have HO := Lib.hid (show wr.ownsRow w.heap.size 5 1 _ s (vals (pre tag (L.take k))) from by rw [hs]; exact HO0.out)
          have E1 := Lib.hid e1
          have HT := Lib.hid h2
          have TK := Lib.hid htk
          have ST := Lib.hid hs
          clear hx h1 e1 e2 e3 hs htk HO0
          rcases h2.at' with ⟨hq, hc⟩ | ⟨xt, hq, hxx⟩
          · subst hq
            subst hc
            obtain rfl : n = 0 := by have := h2.le; omega
            clear h2
            go_wp2_with fail
            refine (bigEnd_any 0 (by omega) wr).mono ?_
            rintro _ w3 ⟨rfl, hb3⟩
            have HO3 := Lib.hid ((owns_later HO.out hb3).alloc (.cells (u8s (Sm.bigs 0)) 59))
            have HB3 := Lib.hid ((HB.out.trans (hb3.mono HB.out.size)).alloc (Nat.le_trans HB.out.size hb3.size) (.cells (u8s (Sm.bigs 0)) 59))
            have HN3 := Lib.hid (heap_alloc_new w3 (.cells (u8s (Sm.bigs 0)) 59))
            clear hb3
            go_wp2_with (first | (refine wpList_store_row (by rfl) 59 _ _ (by rfl) w3.heap.size (u8s (Sm.bigs 0)) (by rfl) (by rfl) _ _ (heap_alloc_new _ _) (by exact S59) (by simp [u8s, zeros]; rfl) (u8s_one _) ?_; rw [setRow_alloc]) | (at_builtin; refine wpList_append_own _ (by rfl) (.tmp 40) (.tmp 41) 22 (by rfl) w.heap.size 5 i5 (.int .u8 0) 1 1 A22 HI.out HI0.out HI1.out HI2.out (by rfl) (by decide) _ s _ (by rfl) HO3.out ⟨w3.heap.size, 0, none⟩ 8 8 (vals (Sm.bigs 0)) (by rfl) (by rfl) (cells_of_row HN3.out) (vals_one _) (by unfold maxLen; omega) (by omega) HB3.out.size ?_; intro v4 w4 hown4 hgrow4 _) | (at_builtin; refine wpList_append_own_none (by rfl) (.tmp 43) (.tmp 44) 22 (by rfl) w.heap.size 5 i5 1 A22 HI.out _ (s + 8) _ (by rfl) hown4 (by rfl) ?_))
            have hb4 : Below w.heap.size w w4 := HB3.out.grown hgrow4 HB3.out.size (fun k hk => (HO3.out.lt k hk).1)
            rw [← vals_append] at hown4
            have HO5 := Lib.hid hown4
            have HB5 := Lib.hid hb4
            clear hown4 hgrow4 hb4
            go_roundw
            case rel =>
              refine ⟨k + 1, by omega, by go_num, ?_, HB5.out⟩
              have e := HO5.out
              rw [E1.out, pre_step tag L k (by have := HSZ.out; omega), ← TK.out]
              rw [show s + (8 + tk.length) = s + 8 from by have := HT.out.size; omega]
              have hn0 : tk = [] := List.length_eq_zero_iff.1 (by have := HT.out.size; omega)
              have e2 : part tk = Sm.bigs 0 := by rw [part, ← HT.out.size, hn0, List.append_nil]
              rw [e2]
              exact e
            case measure => simp [intOf]; omega

          · subst hq
            clear h2 hxx
            go_wp2_with fail
            refine (bigEnd_any n (by omega) wr).mono ?_
            rintro _ w3 ⟨rfl, hb3⟩
            have HO3 := Lib.hid ((owns_later HO.out hb3).alloc (.cells (u8s (Sm.bigs n)) 59))
            have HB3 := Lib.hid ((HB.out.trans (hb3.mono HB.out.size)).alloc (Nat.le_trans HB.out.size hb3.size) (.cells (u8s (Sm.bigs n)) 59))
            have HN3 := Lib.hid (heap_alloc_new w3 (.cells (u8s (Sm.bigs n)) 59))
            clear hb3
            go_wp2_with (first | (refine wpList_store_row (by rfl) 59 _ _ (by rfl) w3.heap.size (u8s (Sm.bigs n)) (by rfl) (by rfl) _ _ (heap_alloc_new _ _) (by exact S59) (by simp [u8s, zeros]; rfl) (u8s_one _) ?_; rw [setRow_alloc]) | (at_builtin; refine wpList_append_own _ (by rfl) (.tmp 40) (.tmp 41) 22 (by rfl) w.heap.size 5 i5 (.int .u8 0) 1 1 A22 HI.out HI0.out HI1.out HI2.out (by rfl) (by decide) _ s _ (by rfl) HO3.out ⟨w3.heap.size, 0, none⟩ 8 8 (vals (Sm.bigs n)) (by rfl) (by rfl) (cells_of_row HN3.out) (vals_one _) (by unfold maxLen; omega) (by omega) HB3.out.size ?_; intro v4 w4 hown4 hgrow4 _) | (at_builtin; refine wpList_append_own _ (by rfl) (.tmp 43) (.tmp 44) 22 (by rfl) w.heap.size 5 i5 (.int .u8 0) 1 1 A22 HI.out HI0.out HI1.out HI2.out (by rfl) (by decide) _ (s + 8) _ (by rfl) hown4 xt n c (vals tk) (by rfl) (by rw [vals_length, Nat.mul_one]; exact HT.out.size.symm) ((HT.out.later (HB3.out.grown hgrow4 HB3.out.size (fun k hk => (HO3.out.lt k hk).1))).cells) (vals_one _) (by unfold maxLen; omega) (by omega) (Nat.le_trans HB3.out.size hgrow4.size) ?_; intro v5 w5 hown5 hgrow5 _))
            have hb4 : Below w.heap.size w w4 := HB3.out.grown hgrow4 HB3.out.size (fun k hk => (HO3.out.lt k hk).1)
            have hb5 : Below w.heap.size w w5 := hb4.grown hgrow5 hb4.size (fun k hk => (hown4.lt k hk).1)
            rw [List.append_assoc, ← vals_append, ← vals_append] at hown5
            have HO5 := Lib.hid hown5
            have HB5 := Lib.hid hb5
            clear hown5 hgrow5 hown4 hgrow4 hb4 hb5
            go_roundw
            case rel =>
              refine ⟨k + 1, by omega, by go_num, ?_, HB5.out⟩
              have e := HO5.out
              rw [E1.out, pre_step tag L k (by have := HSZ.out; omega), ← TK.out]
              rw [show s + (8 + tk.length) = s + 8 + n from by have := HT.out.size; omega]
              have e2 : part tk = Sm.bigs n ++ tk := by rw [part, ← HT.out.size]
              rw [e2]
              exact e
            case measure => simp [intOf]; omega

        · obtain rfl : len = k := by omega
          go_wp2_with fail
          go_ret
          have e := HO0.out
          have h1 : 0 < tot (L.take len) := by simp only [tot, pre, List.length_cons]; omega
          obtain ⟨g, cp, rfl, _, _⟩ := e.form h1
          rw [List.take_of_length_le (by have := HSZ.out; omega)] at e ⊢
          exact ⟨_, _, _, rfl, e, HB.out⟩
end Go.Proofs.Ytgdipdmpmaemjaa
