/- The contract of indentureref01.Preimage. -/
import Derived.Test.YtgdipdmpmaemjaaShaHash
namespace Go.Proofs.Ytgdipdmpmaemjaa
open Go.RowKit

theorem big_at (n j : Nat) (hj : j < 8) : Sm.big n j = n / 2 ^ (56 - 8 * j) % 256 := by
  unfold Sm.big
  rw [show 8 * (7 - j) = 56 - 8 * j from by omega]
theorem bigs_step (n j : Nat) (hj : j < 8) : (Sm.bigs n).take (j + 1) = (Sm.bigs n).take j ++ [Sm.big n j] := by
  match j, hj with
  | 0, _ => rfl
  | 1, _ => rfl
  | 2, _ => rfl
  | 3, _ => rfl
  | 4, _ => rfl
  | 5, _ => rfl
  | 6, _ => rfl
  | 7, _ => rfl
def RefRel (w : World) (s : Nat) (P : List Nat) (n : Nat) (v i : Value) (wr : World) : Prop :=
  ∃ j : Nat, j ≤ 8 ∧ i = .int .i64 j ∧ wr.ownsRow w.heap.size 5 1 v (s + j) (vals (P ++ (Sm.bigs n).take j)) ∧ Below w.heap.size w wr
set_option maxRecDepth 100000 in
set_option maxHeartbeats 1000000 in
theorem refpre_any (tag : Nat) (_htag : tag < 256) (L : List (List Nat)) (p : Option Addr) (len cap : Nat) (w : World) (hL : Texts w p len cap L) (hl : tot L < 1099511627776) :
    Calls Try.prog 18 #[.int .u8 tag, .slice p len cap] w fun e w' => ∃ q n c, e = .returned (.slice q n c) ∧ w'.ownsRow w.heap.size 5 1 (.slice q n c) n (vals (pre tag L)) ∧ Below w.heap.size w w' := by
  have hsz := hL.size
  have hle := hL.le
  have hlen : len < 1099511627776 := by have := len_le_tot L; omega
  obtain ⟨i5, hi, hi0, hi1, hi2⟩ := info_parts I5
  have HI := Lib.hid hi
  have HI0 := Lib.hid hi0
  have HI1 := Lib.hid hi1
  have HI2 := Lib.hid hi2
  clear hi hi0 hi1 hi2
  have HL := Lib.hid hL
  have HSZ := Lib.hid hsz
  clear hL hsz
  go_enter Try.func18, Try.ntmps18
  go_wp2_with fail
  have hown : (w.alloc (.cells #[.int .u8 tag] 5)).ownsRow w.heap.size 5 1 (.slice (some ⟨w.heap.size, 0, none⟩) 1 1) 1 (vals ([tag].take 1)) := owns_mk (L := [tag]) (heap_alloc_new w _) rfl (Nat.le_refl _) (by unfold maxLen; omega) (Nat.le_refl _)
  have HO0 := Lib.hid hown
  have HB0 := Lib.hid (show Below w.heap.size w (w.alloc (.cells #[.int .u8 tag] 5)) from (Below.refl _ _).alloc (Nat.le_refl _) _)
  clear hown
  go_loopw [5, 6] (fun v i wr => PreRel w tag len L v i wr) (fun _ i _ => len - (intOf i).toNat)
  case atStart => exact ⟨0, by omega, rfl, HO0.out, HB0.out⟩
  case round =>
    obtain ⟨k, hk, rfl, ho, hb⟩ := hrel
    have HO := Lib.hid ho
    have HB := Lib.hid hb
    clear ho hb HO0 HB0
    by_cases hlt : k < len
    · obtain ⟨g, o, hp, hx⟩ := HL.out.at' (by intro e; have := HSZ.out; rw [e] at this; simp at this; omega)
      obtain ⟨q, n, c, h1, h2⟩ := hx k (by have := HSZ.out; omega)
      subst hp
      have e1 := tot_step L k (by have := HSZ.out; omega)
      have e2 := tot_take_le L (k + 1)
      have e3 : n = (L.getD k []).length := h2.size
      have hcell : wr.cell? ⟨g, o + k, none⟩ = some (.slice q n c) := (HB.out.cell (p := ⟨g, o + k, none⟩) (block_lt_of_cell h1)).trans h1
      have HC1 := Lib.hid h1
      have HT := Lib.hid h2
      obtain ⟨s, hs⟩ : ∃ s, s = tot (L.take k) := ⟨_, rfl⟩
      rw [← hs] at HO e1
      have hsn : s + 8 + n < 1099511627776 := by omega
      have HE3 := Lib.hid e3
      have HE1 := Lib.hid e1
      clear hx h1 h2 e1 e2 e3
      go_wp2_with fail
      go_loopw [5, 8] (fun v i wr' => RefRel w s (pre tag (L.take k)) n v i wr') (fun _ i _ => 8 - (intOf i).toNat)
      case atStart => exact ⟨0, by omega, rfl, by rw [List.take_zero, List.append_nil]; exact HO.out, HB.out⟩
      case round =>
        obtain ⟨j, hj, rfl, ho2, hb2⟩ := hrel
        have HO2 := Lib.hid ho2
        have HB2 := Lib.hid hb2
        clear ho2 hb2
        by_cases hj8 : j < 8
        · obtain ⟨y, hy⟩ : ∃ y, y = n / 2 ^ (56 - 8 * j) := ⟨_, rfl⟩
          have hsh : (n : Int) / 2 ^ (56 - 8 * j) = (y : Int) := by rw [hy, Int.natCast_ediv, Int.natCast_pow]; rfl
          have HYY := Lib.hid hy
          clear hy
          go_wp2_with (at_builtin; refine wpList_append_own _ (by rfl) (.tmp 27) (.tmp 36) 22 (by rfl) w.heap.size 5 i5 (.int .u8 0) 1 1 A22 HI.out HI0.out HI1.out HI2.out (by rfl) (by decide) _ (s + j) _ (by rfl) (HO2.out.alloc _) ⟨wr.heap.size, 0, none⟩ 1 1 (vals [y % 256]) (by rfl) (by rfl) (cells_of_row (L := [y % 256]) (heap_alloc_new wr _)) (vals_one _) (by unfold maxLen; omega) (by omega) (by have := HB2.out.size; simp; omega) ?_; intro v4 w4 hown4 hgrow4 _)
          have hb4 : Below w.heap.size w w4 := (HB2.out.alloc HB2.out.size _).grown hgrow4 (by have := HB2.out.size; simp; omega) (fun i hi => ((HO2.out.alloc (.cells (u8s [y % 256]) 5)).lt i hi).1)
          have e : w4.ownsRow w.heap.size 5 1 v4 (s + (j + 1)) (vals (pre tag (L.take k) ++ (Sm.bigs n).take (j + 1))) := by
            rw [bigs_step n j hj8, ← List.append_assoc, vals_append _ [Sm.big n j], big_at n j hj8, ← HYY.out]
            exact hown4
          have HE := Lib.hid e
          have HB4 := Lib.hid hb4
          clear hown4 hgrow4 e hb4
          go_wp2_with fail
          go_roundw
          case rel => exact ⟨j + 1, by omega, by go_num, HE.out, HB4.out⟩
          case measure => simp [intOf]; omega
        · obtain rfl : j = 8 := by omega
          have hcell2 : wr.cell? ⟨g, o + k, none⟩ = some (.slice q n c) := (HB2.out.cell (p := ⟨g, o + k, none⟩) (block_lt_of_cell HC1.out)).trans HC1.out
          have ho8 := HO2.out
          rw [show (Sm.bigs n).take 8 = Sm.bigs n from rfl] at ho8
          have HO8 := Lib.hid ho8
          clear ho8 hcell
          obtain ⟨tk, htk⟩ : ∃ tk, tk = L.getD k [] := ⟨_, rfl⟩
          rw [← htk] at HT HE3 HE1
          have HTK := Lib.hid htk
          clear htk
          rcases HT.out.at' with ⟨hq, hc⟩ | ⟨xt, hq, hxx⟩
          · subst hq
            subst hc
            obtain rfl : n = 0 := by have := HT.out.le; omega
            go_wp2_with (at_builtin; refine wpList_append_own_none (by rfl) (.tmp 38) (.tmp 42) 22 (by rfl) w.heap.size 5 i5 1 A22 HI.out _ (s + 8) _ (by rfl) HO8.out (by rfl) ?_)
            go_roundw
            case rel =>
              refine ⟨k + 1, by omega, by go_num, ?_, HB2.out⟩
              have e := HO8.out
              have hn0 : tk = [] := List.length_eq_zero_iff.1 HE3.out.symm
              rw [HE1.out, pre_step tag L k (by have := HSZ.out; omega), ← HTK.out, part, ← HE3.out, hn0, List.append_nil]
              exact e
            case measure => simp [intOf]; omega
          · subst hq
            clear hxx
            go_wp2_with (at_builtin; refine wpList_append_own _ (by rfl) (.tmp 38) (.tmp 42) 22 (by rfl) w.heap.size 5 i5 (.int .u8 0) 1 1 A22 HI.out HI0.out HI1.out HI2.out (by rfl) (by decide) _ (s + 8) _ (by rfl) HO8.out xt n c (vals tk) (by rfl) (by rw [vals_length, Nat.mul_one]; exact HT.out.size.symm) ((HT.out.later HB2.out).cells) (vals_one _) (by unfold maxLen; omega) (by omega) HB2.out.size ?_; intro v5 w5 hown5 hgrow5 _)
            have hb5 : Below w.heap.size w w5 := HB2.out.grown hgrow5 HB2.out.size (fun i hi => (HO8.out.lt i hi).1)
            rw [← vals_append] at hown5
            have HO5 := Lib.hid hown5
            have HB5 := Lib.hid hb5
            clear hown5 hgrow5 hb5
            go_wp2_with fail
            go_roundw
            case rel =>
              refine ⟨k + 1, by omega, by go_num, ?_, HB5.out⟩
              have e := HO5.out
              rw [HE1.out, pre_step tag L k (by have := HSZ.out; omega), ← HTK.out, part, ← HE3.out, ← List.append_assoc]
              rw [show s + (8 + n) = s + 8 + n from by omega]
              exact e
            case measure => simp [intOf]; omega
    · obtain rfl : len = k := by omega
      go_wp2_with fail
      go_ret
      have e := HO.out
      have h1 : 0 < tot (L.take len) := by simp only [tot, pre, List.length_cons]; omega
      obtain ⟨g, cp, rfl, _, _⟩ := e.form h1
      rw [List.take_of_length_le (by have := HSZ.out; omega)] at e ⊢
      exact ⟨_, _, _, rfl, e, HB.out⟩
end Go.Proofs.Ytgdipdmpmaemjaa
