/- indentureref03.ToBox. -/
import Derived.Test.YtfkemphkhfhabaaDist12
namespace Go.Proofs.Ytfkemphkhfhabaa
open Go.RowKit

theorem kept5 {w w7 : World} {r : Option Nat} (hg : w.grownBy w7 r) {a1 a2 a3 : Addr} {b : Nat} {v1 v2 v3 v4 v5 : Value}
    (h : w.cell? a1 = some v1 ∧ w.cell? a2 = some v2 ∧ w.cell? a3 = some v3 ∧ w.cell? ⟨b, 0, none⟩ = some v4 ∧ w.cell? ⟨b, 1, none⟩ = some v5)
    (n1 : r ≠ some a1.block) (n2 : r ≠ some a2.block) (n3 : r ≠ some a3.block) (n4 : r ≠ some b) :
    w7.cell? a1 = some v1 ∧ w7.cell? a2 = some v2 ∧ w7.cell? a3 = some v3 ∧ w7.cell? ⟨b, 0, none⟩ = some v4 ∧ w7.cell? ⟨b, 1, none⟩ = some v5 := by
  obtain ⟨h1, h2, h3, h4, h5⟩ := h
  exact ⟨(World.cell?_of_block (hg.block _ (block_lt_of_cell h1) (Ne.symm n1))).trans h1, (World.cell?_of_block (hg.block _ (block_lt_of_cell h2) (Ne.symm n2))).trans h2, (World.cell?_of_block (hg.block _ (block_lt_of_cell h3) (Ne.symm n3))).trans h3,
    (World.cell?_of_block (a := ⟨b, 0, none⟩) (hg.block _ (block_lt_of_cell h4) (Ne.symm n4))).trans h4, (World.cell?_of_block (a := ⟨b, 1, none⟩) (hg.block _ (block_lt_of_cell h5) (Ne.symm n4))).trans h5⟩
def BoxRel (w : World) (b : Nat) (l r : Value) (f : Nat → Int) (n : Nat) (v i : Value) (wr : World) : Prop :=
  ListRel w b f n v i wr ∧ wr.cell? ⟨w.heap.size, 0, none⟩ = some l ∧ wr.cell? ⟨w.heap.size, 1, none⟩ = some r
set_option maxRecDepth 100000 in
set_option maxHeartbeats 1000000 in
theorem reftobox_any (p q r : Option Addr) (n c m d l f : Nat) (R S T : List Int) (w : World) (h : Ints w p n c R) (h2 : Ints w q m d S) (h3 : Ints w r l f T) :
    Calls Try.prog 21 #[.slice p n c, .agg #[.slice q m d, .slice r l f]] w fun e w' => e = .returned (.tuple #[dV (tbx R S T n m l), .bool (decide (okP n m ∧ n = l))]) ∧ Below w.heap.size w w' := by
  have H := Lib.hid h
  have H2 := Lib.hid h2
  have HT3 := Lib.hid h3
  clear h h2 h3
  obtain ⟨hi, lo, hd⟩ := dV_two (tbx R S T n m l)
  rw [hd]
  have HD := Lib.hid hd
  clear hd
  obtain ⟨i23, hi0, hi1, hi2, hi3⟩ := info_parts I23
  have HI := Lib.hid hi0
  have HI0 := Lib.hid hi1
  have HI1 := Lib.hid hi2
  have HI2 := Lib.hid hi3
  clear hi0 hi1 hi2 hi3
  have hw1 : Below w.heap.size w (w.alloc (.cells #[.slice q m d, .slice r l f] 37)) := (Below.refl _ _).alloc (Nat.le_refl _) _
  have e0 := boxed2 w (.slice q m d) (.slice r l f) 37
  have e1 := boxed3 w (.slice q m d) (.slice r l f) 37
  have s1 : (w.alloc (.cells #[.slice q m d, .slice r l f] 37)).heap.size = w.heap.size + 1 := by simp
  obtain ⟨W1, hW1⟩ : ∃ W1, W1 = w.alloc (.cells #[.slice q m d, .slice r l f] 37) := ⟨_, rfl⟩
  rw [← hW1] at hw1 e0 e1 s1
  have t0 := zero_two W1
  have hb0 : Below W1.heap.size W1 (W1.alloc (.cells #[.int .u64 0, .int .u64 0] 25)) := (Below.refl _ _).alloc (Nat.le_refl _) _
  have e2 := (hb0.cell (p := ⟨w.heap.size, 0, none⟩) (by show w.heap.size < _; omega)).trans e0
  have e3 := (hb0.cell (p := ⟨w.heap.size, 1, none⟩) (by show w.heap.size < _; omega)).trans e1
  have B0 := Lib.hid (hw1.trans (hb0.mono (by omega)))
  have S0 := Lib.hid (show w.heap.size + 1 + 1 ≤ (W1.alloc (.cells #[.int .u64 0, .int .u64 0] 25)).heap.size from by simp; omega)
  rw [s1] at t0
  rw [hW1] at t0 e2 e3 B0 S0
  have T0 := Lib.hid t0
  have E2 := Lib.hid e2
  have E3 := Lib.hid e3
  clear hw1 e0 e1 s1 hb0 t0 e2 e3 hW1
  obtain ⟨y0, y1, y2, y3⟩ := T0.out.facts
  by_cases hok : okP n m ∧ n = l
  · have hE : decide (okP n m ∧ n = l) = true := decide_eq_true hok
    rw [hE]
    have hB : tbx R S T n m l = tot (fun k => gap (R.getD k 0) (S.getD k 0) (T.getD k 0)) n := by unfold tbx; rw [if_pos hok]
    rw [hB] at HD
    obtain ⟨⟨k1, k2, rfl⟩, rfl⟩ := hok
    have g1 : ¬ (n : Int) < 1 := by omega
    have g2 : ¬ (8 : Int) < n := by omega
    clear hE hB
    go_enter Try.func21, Try.ntmps21
    go_wp2_with fail
    generalize (w.alloc (.cells #[.slice q n d, .slice r n f] 37)).alloc (.cells #[.int .u64 0, .int .u64 0] 25) = w0 at *
    have E4 := Lib.hid E2.out
    have E5 := Lib.hid E3.out
    go_loopw [6, 7] (fun v i wr => BoxRel w (w.heap.size + 1) (.slice q n d) (.slice r n f) (fun k => gap (R.getD k 0) (S.getD k 0) (T.getD k 0)) n v i wr) (fun _ i _ => n - (intOf i).toNat)
    case atStart => exact ⟨⟨0, by omega, rfl, World.ownsRow_nil _ _ _ _, T0.out, B0.out, S0.out⟩, E4.out, E5.out⟩
    case round =>
      obtain ⟨⟨k, hk, rfl, h1, h2, h3, h4⟩, e2, e3⟩ := hrel
      have E6 := Lib.hid e2
      have E7 := Lib.hid e3
      have H1 := Lib.hid h1
      have HT := Lib.hid h2
      have H3 := Lib.hid h3
      have H4 := Lib.hid h4
      clear h1 h2 h3 h4 y0 y1 y2 y3 T0 S0 B0 E2 E3 E4 E5
      by_cases hlt : k < n
      · obtain ⟨gx, o, rfl, hcx⟩ := H.out.cell k hlt
        obtain ⟨gy, o2, rfl, hcy⟩ := H2.out.cell k hlt
        obtain ⟨gz, o3, rfl, hcz⟩ := HT3.out.cell k hlt
        have HLX0 := block_lt_of_cell hcx
        have HLY0 := block_lt_of_cell hcy
        have HLZ0 := block_lt_of_cell hcz
        simp only at HLX0 HLY0 HLZ0
        have hx := H.out.get k hlt
        have hz3 := HT3.out.get k hlt
        have hy := H2.out.get k hlt
        have hcx := (H3.out.cell (p := ⟨gx, o + k, none⟩) (block_lt_of_cell hcx)).trans hcx
        have hcy := (H3.out.cell (p := ⟨gy, o2 + k, none⟩) (block_lt_of_cell hcy)).trans hcy
        have hcz := (H3.out.cell (p := ⟨gz, o3 + k, none⟩) (block_lt_of_cell hcz)).trans hcz
        have b1 : (0 : Int) ≤ k ∧ (k : Int) < n := by omega
        have HF := Lib.hid (firsts_succ (fun k => gap (R.getD k 0) (S.getD k 0) (T.getD k 0)) k)
        have hap := gap_word hx hy hz3
        generalize R.getD k 0 = x at *
        generalize S.getD k 0 = y at *
        generalize T.getD k 0 = v3 at *
        obtain ⟨z, hz⟩ : ∃ z, z = gap x y v3 := ⟨_, rfl⟩
        rw [← hz] at HF hap
        have HZ := Lib.hid hz
        have ha := fun w => refgap_any x y v3 hx hy hz3 w
        rw [← hz] at ha
        have HA := Lib.hid ha
        clear hz hap ha hx hy hz3
        have hba : Below wr.heap.size wr (wr.alloc (.cells #[.int .u64 z] 23)) := (Below.refl _ _).alloc (Nat.le_refl _) _
        have O5 := Lib.hid (show ((wr.alloc (.cells #[.int .u64 z] 23)).drew).ownsRow _ _ _ _ _ _ from wowns_later H1.out hba.drew)
        have T5 := Lib.hid (HT.out.later hba HT.out.lt)
        have B5 := Lib.hid (H3.out.trans (hba.mono H3.out.size))
        have S5 := Lib.hid (Nat.le_trans H4.out hba.size)
        have N5 := Lib.hid (show ∀ j u, (wvals [z])[j]? = some u → ((wr.alloc (.cells #[.int .u64 z] 23)).drew).cell? ((⟨wr.heap.size, 0, none⟩ : Addr).add j) = some u from cell_one_new wr (.int .u64 z) 23)
        have E8 := Lib.hid ((hba.cell (p := ⟨w.heap.size, 0, none⟩) (block_lt_of_cell E6.out)).trans E6.out)
        have E9 := Lib.hid ((hba.cell (p := ⟨w.heap.size, 1, none⟩) (block_lt_of_cell E7.out)).trans E7.out)
        clear hba
        have K0 : ∀ w', w' = wr ∨ Below wr.heap.size wr w' → w'.cell? ⟨gx, o + k, none⟩ = some (.int .i64 x) ∧ w'.cell? ⟨gy, o2 + k, none⟩ = some (.int .i64 y) ∧ w'.cell? ⟨gz, o3 + k, none⟩ = some (.int .i64 v3) ∧ w'.cell? ⟨w.heap.size, 0, none⟩ = some (.slice (some ⟨gy, o2, none⟩) n d) ∧ w'.cell? ⟨w.heap.size, 1, none⟩ = some (.slice (some ⟨gz, o3, none⟩) n f) := by
          intro w' hw
          rcases hw with rfl | hw
          · exact ⟨hcx, hcy, hcz, E6.out, E7.out⟩
          · exact ⟨(hw.cell (block_lt_of_cell hcx)).trans hcx, (hw.cell (block_lt_of_cell hcy)).trans hcy, (hw.cell (block_lt_of_cell hcz)).trans hcz, (hw.cell (block_lt_of_cell E6.out)).trans E6.out, (hw.cell (block_lt_of_cell E7.out)).trans E7.out⟩
        have HK0 := Lib.hid K0
        have K1 : (fun w' : World => w'.cell? ⟨gx, o + k, none⟩ = some (.int .i64 x) ∧ w'.cell? ⟨gy, o2 + k, none⟩ = some (.int .i64 y) ∧ w'.cell? ⟨gz, o3 + k, none⟩ = some (.int .i64 v3) ∧ w'.cell? ⟨w.heap.size, 0, none⟩ = some (.slice (some ⟨gy, o2, none⟩) n d) ∧ w'.cell? ⟨w.heap.size, 1, none⟩ = some (.slice (some ⟨gz, o3, none⟩) n f)) ((wr.alloc (.cells #[.int .u64 z] 23)).drew) := K0 _ (Or.inr (((Below.refl _ _).alloc (Nat.le_refl _) _).drew))
        have HK1 := Lib.hid K1
        have HLX := Lib.hid (show gx < w.heap.size from HLX0)
        have HLY := Lib.hid (show gy < w.heap.size from HLY0)
        have HLZ := Lib.hid (show gz < w.heap.size from HLZ0)
        clear K0 K1
        go_upto_region 7 with fail
        go_region_held3 (fun w' : World => w'.cell? ⟨gx, o + k, none⟩ = some (.int .i64 x) ∧ w'.cell? ⟨gy, o2 + k, none⟩ = some (.int .i64 y) ∧ w'.cell? ⟨gz, o3 + k, none⟩ = some (.int .i64 v3) ∧ w'.cell? ⟨w.heap.size, 0, none⟩ = some (.slice (some ⟨gy, o2, none⟩) n d) ∧ w'.cell? ⟨w.heap.size, 1, none⟩ = some (.slice (some ⟨gz, o3, none⟩) n f)) (first | assumption | exact HK0.out _ (Or.inr (Below.drew (Below.refl _ _))) | exact HK1.out) ((first
          | (go_at_call 15; refine (HA.out _).mono ?_; rintro e w' ⟨rfl, rfl⟩)
          | (rw [if_pos (by rfl)]; refine wp_append_own _ (.tmp 39) (.tmp 55) 22 (by rfl) (w.heap.size + 1 + 1) 23 i23 (.int .u64 0) 1 8 A22w HI.out HI0.out HI1.out HI2.out (by rfl) (by decide) _ k _ (by rfl) O5.out ⟨wr.heap.size, 0, none⟩ 1 1 (wvals [z]) (by rfl) (by rw [wvals_length]; rfl) N5.out (wvals_one _) (by unfold maxLen; omega) (by omega) S5.out ?_; intro v7 w7 hown7 hgrow7 _; have O7 := Lib.hid hown7; have G7 := Lib.hid hgrow7; have K7 : (fun w' : World => w'.cell? ⟨gx, o + k, none⟩ = some (.int .i64 x) ∧ w'.cell? ⟨gy, o2 + k, none⟩ = some (.int .i64 y) ∧ w'.cell? ⟨gz, o3 + k, none⟩ = some (.int .i64 v3) ∧ w'.cell? ⟨w.heap.size, 0, none⟩ = some (.slice (some ⟨gy, o2, none⟩) n d) ∧ w'.cell? ⟨w.heap.size, 1, none⟩ = some (.slice (some ⟨gz, o3, none⟩) n f)) w7 := kept5 hgrow7 HK1.out (wne_owns H1.out (by show gx < w.heap.size + 1 + 1; have := HLX.out; omega)) (wne_owns H1.out (by show gy < w.heap.size + 1 + 1; have := HLY.out; omega)) (wne_owns H1.out (by show gz < w.heap.size + 1 + 1; have := HLZ.out; omega)) (wne_owns H1.out (by omega)); clear hown7 hgrow7)))
        all_goals
          have hown8 : w7.ownsRow (w.heap.size + 1 + 1) 23 1 v7 (k + 1) (wvals (firsts (fun k => gap (R.getD k 0) (S.getD k 0) (T.getD k 0)) (k + 1))) := by rw [HF.out, wvals_append]; exact O7.out
          have HO8 := Lib.hid hown8
          clear hown8
          go_wp2_with fail
          go_roundw
          case rel =>
            refine ⟨⟨k + 1, by omega, by go_num, HO8.out, ?_, ?_, Nat.le_trans S5.out G7.out.size⟩, ?_, ?_⟩
            · exact (G7.out.block _ T5.out.lt (Ne.symm (wne_owns H1.out (by omega)))).trans T5.out
            · exact B5.out.drew.grown G7.out B5.out.size (fun q hq => by have := (H1.out.lt q hq).1; omega)
            · exact K7.2.2.2.1
            · exact K7.2.2.2.2
          case measure => simp [intOf]; omega
      · obtain rfl : k = n := by omega
        obtain ⟨q', c', rfl, hW⟩ := words_of_owns H1.out (firsts_ok _ _ fun j hj => gap_word (H.out.get j hj) (H2.out.get j hj) (HT3.out.get j hj))
        have hs := refsum_any q' k c' _ wr hW (by omega)
        rw [tot_congr _ _ k (fun j hj => firsts_getD _ k j hj), HD.out] at hs
        have HS := Lib.hid hs
        clear hs hW e2 e3
        go_wp2_with fail
        refine HS.out.mono ?_
        rintro e w5 ⟨rfl, hb5⟩
        have T5 := Lib.hid (HT.out.later hb5 HT.out.lt)
        have B5 := Lib.hid (H3.out.trans (hb5.mono H3.out.size))
        obtain ⟨y0, y1, y2, y3⟩ := T5.out.facts
        clear hb5
        go_wp2_with fail
        exact ret_two2 4 5 rfl (w.heap.size + 1) _ _ (.bool true) rfl rfl (T5.out.set _ _) ⟨rfl, Two.below B5.out (by omega) _ _⟩
  · have hE : decide (okP n m ∧ n = l) = false := decide_eq_false hok
    rw [hE]
    have hB : tbx R S T n m l = 0 := by unfold tbx; rw [if_neg hok]
    rw [hB] at HD
    obtain ⟨rfl, rfl⟩ : (0 : Int) = hi ∧ (0 : Int) = lo := by have := HD.out; simpa [dV] using this
    clear hE hB
    by_cases q1 : n < 1
    · have g1 : (n : Int) < 1 := by omega
      clear hok
      go_enter Try.func21, Try.ntmps21
      go_wp2_with fail
      exact ret_two2 4 5 rfl (w.heap.size + 1) _ _ (.bool false) rfl rfl T0.out ⟨rfl, B0.out⟩
    · have g1 : ¬ (n : Int) < 1 := by omega
      by_cases q2 : 8 < n
      · have g2 : (8 : Int) < n := by omega
        clear hok
        go_enter Try.func21, Try.ntmps21
        go_wp2_with fail
        exact ret_two2 4 5 rfl (w.heap.size + 1) _ _ (.bool false) rfl rfl T0.out ⟨rfl, B0.out⟩
      · have g2 : ¬ (8 : Int) < n := by omega
        by_cases q3 : n = m
        · subst q3
          have g4 : ((l : Int) != n) = true := by
            simp only [bne_iff_ne, ne_eq]
            intro h
            exact hok ⟨⟨by omega, by omega, rfl⟩, by omega⟩
          clear hok
          go_enter Try.func21, Try.ntmps21
          go_wp2_with fail
          exact ret_two2 4 5 rfl (w.heap.size + 1) _ _ (.bool false) rfl rfl T0.out ⟨rfl, B0.out⟩
        · have g3 : ((m : Int) != n) = true := by simp; omega
          clear hok
          go_enter Try.func21, Try.ntmps21
          go_wp2_with fail
          exact ret_two2 4 5 rfl (w.heap.size + 1) _ _ (.bool false) rfl rfl T0.out ⟨rfl, B0.out⟩
end Go.Proofs.Ytfkemphkhfhabaa
