/- indentureref03.Between. -/
import Derived.Test.YthmloljnpjolmaaDist11
namespace Go.Proofs.Ythmloljnpjolmaa
open Go.RowKit

theorem A22w : Try.prog.underlying 80 = some (.slice 35) := by kernel_rfl
theorem I23 : (Try.prog.info? 35).map (fun i => (i.zero, i.size, i.bytes)) = some (some (.int .u64 0), 1, 8) := by kernel_rfl
def wvals (R : List Int) : List Value := R.map fun x => .int .u64 x
theorem wvals_length (R : List Int) : (wvals R).length = R.length := List.length_map ..
theorem wvals_one (R : List Int) : ∀ u ∈ wvals R, u.oneCell' = true := by
  intro u hu
  simp only [wvals, List.mem_map] at hu
  obtain ⟨x, _, rfl⟩ := hu
  rfl
theorem wvals_append (A B : List Int) : wvals (A ++ B) = wvals A ++ wvals B := List.map_append ..
theorem wowns_later {w w' : World} {base : Nat} {v : Value} {n : Nat} {xs : List Value} (h : w.ownsRow base 35 1 v n xs) (hb : Below w.heap.size w w') : w'.ownsRow base 35 1 v n xs := by
  obtain ⟨h1, h2⟩ := h
  refine ⟨h1, h2.imp id ?_⟩
  rintro ⟨g, cap, cur, hv, hg, hh, r⟩
  exact ⟨g, cap, cur, hv, hg, (hb.block _ (Array.getElem?_eq_some_iff.1 hh).1).trans hh, r⟩
theorem words_of_owns {w : World} {base n : Nat} {v : Value} {R : List Int} (h : w.ownsRow base 35 1 v n (wvals R)) (hR : ∀ x ∈ R, 0 ≤ x ∧ x < 18446744073709551616) : ∃ q c, v = .slice q n c ∧ Words w q n c R := by
  have hl : n = R.length := by have := h.1; rw [wvals_length, Nat.mul_one] at this; exact this.symm
  rcases h.2 with ⟨rfl, h0⟩ | ⟨g, cap, cur, rfl, hb, hg, hle, hm, hs, ht⟩
  · subst h0
    have hb : R = [] := List.length_eq_zero_iff.1 hl.symm
    exact ⟨none, 0, rfl, ⟨hl, Nat.le_refl _, hR, Or.inl hb⟩⟩
  · refine ⟨_, cap, rfl, ⟨hl, hle, hR, Or.inr ⟨g, 0, rfl, fun i hi => ?_⟩⟩⟩
    rw [Nat.zero_add, cell_of_row w g i cur _ _ hg]
    have e : (cur.toList.take (n * 1))[i]? = (wvals R)[i]? := by rw [ht]
    rw [List.getElem?_take_of_lt (by omega), Array.getElem?_toList] at e
    rw [e]
    simp [wvals, List.getD_eq_getElem?_getD, hi]
theorem tot_congr (f g : Nat → Int) : ∀ n, (∀ k, k < n → f k = g k) → tot f n = tot g n
  | 0, _ => rfl
  | n + 1, h => by rw [tot_succ, tot_succ, tot_congr f g n (fun k hk => h k (by omega)), h n (by omega)]
/-- The first so many of what a function of the sides tells. -/
def firsts (f : Nat → Int) (k : Nat) : List Int := (List.range k).map f
theorem firsts_length (f : Nat → Int) (k : Nat) : (firsts f k).length = k := by simp [firsts]
theorem firsts_succ (f : Nat → Int) (k : Nat) : firsts f (k + 1) = firsts f k ++ [f k] := by simp [firsts, List.range_succ]
theorem firsts_getD (f : Nat → Int) (n k : Nat) (h : k < n) : (firsts f n).getD k 0 = f k := by simp [firsts, List.getD_eq_getElem?_getD, h]
theorem firsts_ok (f : Nat → Int) (n : Nat) (h : ∀ k, k < n → 0 ≤ f k ∧ f k < 18446744073709551616) : ∀ x ∈ firsts f n, 0 ≤ x ∧ x < 18446744073709551616 := by
  intro x hx
  simp only [firsts, List.mem_map, List.mem_range] at hx
  obtain ⟨k, hk, rfl⟩ := hx
  exact h k hk
theorem wne_owns {w : World} {g base n : Nat} {v : Value} {xs : List Value} (ho : w.ownsRow base 35 1 v n xs) (hg : g < base) : v.ownBlock ≠ some g := by
  intro e
  have := (ho.lt g e).1
  omega
def ListRel (w : World) (b : Nat) (f : Nat → Int) (n : Nat) (v i : Value) (wr : World) : Prop :=
  ∃ k : Nat, k ≤ n ∧ i = .int .i64 k ∧ wr.ownsRow (b + 1) 35 1 v k (wvals (firsts f k)) ∧ Two wr b (.int .u64 0) (.int .u64 0) ∧ Below w.heap.size w wr ∧ b + 1 ≤ wr.heap.size
set_option maxRecDepth 100000 in
set_option maxHeartbeats 1000000 in
theorem refbetween_any (p q : Option Addr) (n c m d : Nat) (R S : List Int) (w : World) (h : Ints w p n c R) (h2 : Ints w q m d S) :
    Calls Try.prog 40 #[.slice p n c, .slice q m d] w fun e w' => e = .returned (.tuple #[dV (btw R S n m), .bool (decide (okP n m))]) ∧ Below w.heap.size w w' := by
  have H := Lib.hid h
  have H2 := Lib.hid h2
  clear h h2
  obtain ⟨hi, lo, hd⟩ := dV_two (btw R S n m)
  rw [hd]
  have HD := Lib.hid hd
  clear hd
  obtain ⟨i23, hi0, hi1, hi2, hi3⟩ := info_parts I23
  have HI := Lib.hid hi0
  have HI0 := Lib.hid hi1
  have HI1 := Lib.hid hi2
  have HI2 := Lib.hid hi3
  clear hi0 hi1 hi2 hi3
  have t0 := zero_two w
  have B0 := Lib.hid (show Below w.heap.size w (w.alloc (.cells #[.int .u64 0, .int .u64 0] 37)) from (Below.refl _ _).alloc (Nat.le_refl _) _)
  have S0 := Lib.hid (show w.heap.size + 1 ≤ (w.alloc (.cells #[.int .u64 0, .int .u64 0] 37)).heap.size from by simp)
  have T0 := Lib.hid t0
  obtain ⟨y0, y1, y2, y3⟩ := t0.facts
  clear t0
  by_cases hok : okP n m
  · have hE : decide (okP n m) = true := decide_eq_true hok
    rw [hE]
    have hB : btw R S n m = tot (fun k => apart (R.getD k 0) (S.getD k 0)) n := by unfold btw; rw [if_pos hok]
    rw [hB] at HD
    obtain ⟨k1, k2, rfl⟩ := hok
    have g1 : ¬ (n : Int) < 1 := by omega
    have g2 : ¬ (8 : Int) < n := by omega
    clear hE hB
    go_enter Try.func40, Try.ntmps40
    go_wp2_with fail
    generalize w.alloc (.cells #[.int .u64 0, .int .u64 0] 37) = w0 at *
    go_loopw [6, 7] (fun v i wr => ListRel w w.heap.size (fun k => apart (R.getD k 0) (S.getD k 0)) n v i wr) (fun _ i _ => n - (intOf i).toNat)
    case atStart => exact ⟨0, by omega, rfl, World.ownsRow_nil _ _ _ _, T0.out, B0.out, S0.out⟩
    case round =>
      obtain ⟨k, hk, rfl, h1, h2, h3, h4⟩ := hrel
      have H1 := Lib.hid h1
      have HT := Lib.hid h2
      have H3 := Lib.hid h3
      have H4 := Lib.hid h4
      clear h1 h2 h3 h4 y0 y1 y2 y3 T0 S0 B0
      by_cases hlt : k < n
      · obtain ⟨gx, o, rfl, hcx⟩ := H.out.cell k hlt
        obtain ⟨gy, o2, rfl, hcy⟩ := H2.out.cell k hlt
        have hx := H.out.get k hlt
        have hy := H2.out.get k hlt
        have hcx := (H3.out.cell (p := ⟨gx, o + k, none⟩) (block_lt_of_cell hcx)).trans hcx
        have hcy := (H3.out.cell (p := ⟨gy, o2 + k, none⟩) (block_lt_of_cell hcy)).trans hcy
        have b1 : (0 : Int) ≤ k ∧ (k : Int) < n := by omega
        have HF := Lib.hid (firsts_succ (fun k => apart (R.getD k 0) (S.getD k 0)) k)
        have hap := apart_word hx hy
        generalize R.getD k 0 = x at *
        generalize S.getD k 0 = y at *
        obtain ⟨z, hz⟩ : ∃ z, z = apart x y := ⟨_, rfl⟩
        rw [← hz] at HF hap
        have HZ := Lib.hid hz
        have ha := fun w => refapart_any x y hx hy w
        rw [← hz] at ha
        have HA := Lib.hid ha
        clear hz hap ha hx hy
        have hba : Below wr.heap.size wr (wr.alloc (.cells #[.int .u64 z] 35)) := (Below.refl _ _).alloc (Nat.le_refl _) _
        have O5 := Lib.hid (show ((wr.alloc (.cells #[.int .u64 z] 35)).drew).ownsRow _ _ _ _ _ _ from wowns_later H1.out hba.drew)
        have T5 := Lib.hid (HT.out.later hba HT.out.lt)
        have B5 := Lib.hid (H3.out.trans (hba.mono H3.out.size))
        have S5 := Lib.hid (Nat.le_trans H4.out hba.size)
        have N5 := Lib.hid (show ∀ j u, (wvals [z])[j]? = some u → ((wr.alloc (.cells #[.int .u64 z] 35)).drew).cell? ((⟨wr.heap.size, 0, none⟩ : Addr).add j) = some u from cell_one_new wr (.int .u64 z) 35)
        clear hba
        go_wp2_with fail
        go_region_law (first
          | (go_simp; go_at_call 54; refine (HA.out _).mono ?_; rintro e w' ⟨rfl, rfl⟩)
          | (rw [if_pos (by rfl)]; refine wp_append_own _ (.tmp 30) (.tmp 40) 80 (by rfl) (w.heap.size + 1) 35 i23 (.int .u64 0) 1 8 A22w HI.out HI0.out HI1.out HI2.out (by rfl) (by decide) _ k _ (by rfl) O5.out ⟨wr.heap.size, 0, none⟩ 1 1 (wvals [z]) (by rfl) (by rw [wvals_length]; rfl) N5.out (wvals_one _) (by unfold maxLen; omega) (by omega) S5.out ?_; intro v7 w7 hown7 hgrow7 _; have O7 := Lib.hid hown7; have G7 := Lib.hid hgrow7; clear hown7 hgrow7))
        all_goals
          have hown8 : w7.ownsRow (w.heap.size + 1) 35 1 v7 (k + 1) (wvals (firsts (fun k => apart (R.getD k 0) (S.getD k 0)) (k + 1))) := by rw [HF.out, wvals_append]; exact O7.out
          have HO8 := Lib.hid hown8
          clear hown8 hcx hcy
          go_wp2_with fail
          go_roundw
          case rel =>
            refine ⟨k + 1, by omega, by go_num, HO8.out, ?_, ?_, Nat.le_trans S5.out G7.out.size⟩
            · exact (G7.out.block _ T5.out.lt (Ne.symm (wne_owns H1.out (by omega)))).trans T5.out
            · exact B5.out.drew.grown G7.out B5.out.size (fun q hq => by have := (H1.out.lt q hq).1; omega)
          case measure => simp [intOf]; omega
      · obtain rfl : k = n := by omega
        obtain ⟨q', c', rfl, hW⟩ := words_of_owns H1.out (firsts_ok _ _ fun j hj => apart_word (H.out.get j hj) (H2.out.get j hj))
        have hs := refsum_any q' k c' _ wr hW (by omega)
        rw [tot_congr _ _ k (fun j hj => firsts_getD _ k j hj), HD.out] at hs
        have HS := Lib.hid hs
        clear hs hW
        go_wp2_with fail
        refine HS.out.mono ?_
        rintro e w5 ⟨rfl, hb5⟩
        have T5 := Lib.hid (HT.out.later hb5 HT.out.lt)
        have B5 := Lib.hid (H3.out.trans (hb5.mono H3.out.size))
        obtain ⟨y0, y1, y2, y3⟩ := T5.out.facts
        clear hb5
        go_wp2_with fail
        exact ret_two2 4 5 rfl w.heap.size _ _ (.bool true) rfl rfl (T5.out.set _ _) ⟨rfl, Two.below B5.out (Nat.le_refl _) _ _⟩
  · have hE : decide (okP n m) = false := decide_eq_false hok
    rw [hE]
    have hB : btw R S n m = 0 := by unfold btw; rw [if_neg hok]
    rw [hB] at HD
    obtain ⟨rfl, rfl⟩ : (0 : Int) = hi ∧ (0 : Int) = lo := by have := HD.out; simpa [dV] using this
    clear hE hB
    by_cases q1 : n < 1
    · have g1 : (n : Int) < 1 := by omega
      clear hok
      go_enter Try.func40, Try.ntmps40
      go_wp2_with fail
      exact ret_two2 4 5 rfl w.heap.size _ _ (.bool false) rfl rfl T0.out ⟨rfl, B0.out⟩
    · have g1 : ¬ (n : Int) < 1 := by omega
      by_cases q2 : 8 < n
      · have g2 : (8 : Int) < n := by omega
        clear hok
        go_enter Try.func40, Try.ntmps40
        go_wp2_with fail
        exact ret_two2 4 5 rfl w.heap.size _ _ (.bool false) rfl rfl T0.out ⟨rfl, B0.out⟩
      · have g2 : ¬ (8 : Int) < n := by omega
        have g3 : ((n : Int) != m) = true := by
          simp only [bne_iff_ne, ne_eq]
          intro h
          exact hok ⟨by omega, by omega, by omega⟩
        clear hok
        go_enter Try.func40, Try.ntmps40
        go_wp2_with fail
        exact ret_two2 4 5 rfl w.heap.size _ _ (.bool false) rfl rfl T0.out ⟨rfl, B0.out⟩
end Go.Proofs.Ythmloljnpjolmaa
