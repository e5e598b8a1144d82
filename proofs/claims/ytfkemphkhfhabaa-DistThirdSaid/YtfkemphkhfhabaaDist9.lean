/- dist.Text. -/
import Derived.Test.YtfkemphkhfhabaaDist8
namespace Go.Proofs.Ytfkemphkhfhabaa
open Go.RowKit

/-- A number's decimal digits, the highest first. -/
def decs (n : Nat) : List Nat := (if n < 10 then [] else decs (n / 10)) ++ [48 + n % 10]
termination_by n
decreasing_by omega
theorem decs_ok (n : Nat) : Sm.allB (decs n) := by
  induction n using Nat.strongRecOn with
  | ind n ih =>
    rw [decs]
    intro x hx
    rw [List.mem_append] at hx
    rcases hx with hx | hx
    · by_cases h : n < 10
      · rw [if_pos h] at hx; cases hx
      · rw [if_neg h] at hx; exact ih (n / 10) (by omega) x hx
    · simp at hx; omega
/-- What is still to be told of a number, so many digits of which are told. -/
def todo (n : Nat) (B : List Nat) : List Nat := if B ≠ [] ∧ n = 0 then [] else decs n
theorem todo_step (n : Nat) (B R : List Nat) (h : B = [] ∨ n ≠ 0) : todo n B ++ R = todo (n / 10) (B ++ [48 + n % 10]) ++ ([48 + n % 10] ++ R) := by
  have e : todo n B = decs n := by unfold todo; rw [if_neg (by rintro ⟨h1, h2⟩; rcases h with h | h <;> contradiction)]
  have e2 : todo (n / 10) (B ++ [48 + n % 10]) = if n < 10 then [] else decs (n / 10) := by
    unfold todo
    by_cases h : n < 10
    · rw [if_pos h, if_pos ⟨by simp, by omega⟩]
    · rw [if_neg h, if_neg (by rintro ⟨_, h2⟩; omega)]
  rw [e, e2, decs, List.append_assoc]
theorem pow_le {n k : Nat} (h : n < 10 ^ (39 - k)) (hn : k = 0 ∨ n ≠ 0) : k < 39 ∧ n / 10 < 10 ^ (39 - (k + 1)) := by
  have hk : k < 39 := by
    rcases hn with rfl | hn
    · omega
    · by_cases hk : k < 39
      · exact hk
      · rw [show 39 - k = 0 from by omega] at h
        simp at h
        exact absurd h hn
  refine ⟨hk, ?_⟩
  rw [show 39 - k = (39 - (k + 1)) + 1 from by omega, Nat.pow_succ] at h
  omega
theorem dV_zero (m : Nat) (h : m < 340282366920938463463374607431768211456) (hi lo : Int) (hd : dV m = .agg #[.int .u64 hi, .int .u64 lo]) : (hi = 0 ∧ lo = 0) ↔ m = 0 := by
  unfold dV at hd
  simp only [Value.agg.injEq, Array.mk.injEq, List.cons.injEq, Value.int.injEq, true_and, and_true] at hd
  obtain ⟨rfl, rfl⟩ := hd
  constructor
  · rintro ⟨h1, h2⟩; omega
  · rintro rfl; decide
structure TxtR (w : World) (N : Nat) (v : Value) (M : Nat) (B : List Nat) (hi lo : Int) (wr : World) : Prop where
  small : M < 340282366920938463463374607431768211456
  few : M < 10 ^ (39 - B.length)
  len : B.length ≤ 39
  dv : dV (M : Nat) = .agg #[.int .u64 hi, .int .u64 lo]
  two : Two wr w.heap.size (.int .u64 hi) (.int .u64 lo)
  own : wr.ownsRow (w.heap.size + 1) 5 1 v B.length (vals B)
  ok : Sm.allB B
  told : decs N = todo M B ++ B.reverse
  below : Below w.heap.size w wr
  size : w.heap.size + 1 ≤ wr.heap.size
def TxtRel (w : World) (N : Nat) (v : Value) (wr : World) : Prop := ∃ M B hi lo, TxtR w N v M B hi lo wr
theorem two_ne_owns {w : World} {g base n : Nat} {a b : Value} {v : Value} {xs : List Value} (_h : Two w g a b) (ho : w.ownsRow base 5 1 v n xs) (hg : g < base) : v.ownBlock ≠ some g := by
  intro e
  rcases ho.2 with ⟨rfl, _⟩ | ⟨k, cap, cur, rfl, hb, _⟩
  · simp [Value.ownBlock] at e
  · simp [Value.ownBlock] at e
    omega
theorem owns_two {w : World} {g n : Nat} {v : Value} {xs : List Value} (h : w.ownsRow (g + 1) 5 1 v n xs) (x y : Value) : ((w.setCell ⟨g, 0, none⟩ x).setCell ⟨g, 1, none⟩ y).ownsRow (g + 1) 5 1 v n xs := by
  obtain ⟨h1, h2⟩ := h
  refine ⟨h1, h2.imp id ?_⟩
  rintro ⟨k, cap, cur, hv, hg, hh, r⟩
  exact ⟨k, cap, cur, hv, hg, by rw [heap_setCell_other _ _ _ _ (by show k ≠ g; omega), heap_setCell_other _ _ _ _ (by show k ≠ g; omega)]; exact hh, r⟩
set_option maxRecDepth 100000 in
set_option maxHeartbeats 1000000 in
theorem text_any (N : Nat) (hN : N < 340282366920938463463374607431768211456) (w : World) :
    Calls Try.prog 22 #[dV N] w fun e w' => e = .returned (.string (strOf (decs N))) ∧ Below w.heap.size w w' := by
  obtain ⟨hi0, lo0, hd0⟩ := dV_two (N : Nat)
  rw [hd0]
  have HD0 := Lib.hid hd0
  clear hd0
  obtain ⟨i5, hi, hi0', hi1, hi2⟩ := info_parts I5
  have HI := Lib.hid hi
  have HI0 := Lib.hid hi0'
  have HI1 := Lib.hid hi1
  have HI2 := Lib.hid hi2
  clear hi hi0' hi1 hi2
  go_enter Try.func22, Try.ntmps22
  go_wp2_with fail
  have hsz : (w.alloc (.cells #[.int .u64 hi0, .int .u64 lo0] 25)).heap.size = w.heap.size + 1 := by simp
  have hb0 : Below w.heap.size w (w.alloc (.cells #[.int .u64 hi0, .int .u64 lo0] 25)) := (Below.refl _ _).alloc (Nat.le_refl _) _
  have ht0 : Two (w.alloc (.cells #[.int .u64 hi0, .int .u64 lo0] 25)) w.heap.size (.int .u64 hi0) (.int .u64 lo0) := heap_alloc_new w _
  generalize w.alloc (.cells #[.int .u64 hi0, .int .u64 lo0] 25) = w0 at *
  have hR0 : TxtR w N (.slice none 0 0) N [] hi0 lo0 w0 := ⟨hN, by simp; omega, by simp, HD0.out, ht0, World.ownsRow_nil _ _ _ _, fun x hx => by simp at hx, by simp [todo], hb0, by omega⟩
  have HR0 := Lib.hid hR0
  clear hsz hb0 ht0 hR0
  go_loopw [3] (fun v wr => TxtRel w N v wr) (fun v _ => 40 - lenOf v)
  case atStart => exact ⟨N, [], hi0, lo0, HR0.out⟩
  case round =>
    obtain ⟨M, B, hi, lo, hR⟩ := hrel
    have HR := Lib.hid hR
    clear hR HR0
    have hz := dV_zero M HR.out.small hi lo HR.out.dv
    obtain ⟨n, hn⟩ : ∃ n, n = B.length := ⟨_, rfl⟩
    have how := HR.out.own
    rw [← hn] at how
    obtain ⟨q, cc, hv, _⟩ := owns_form how HR.out.ok
    subst hv
    have HOW := Lib.hid how
    have HN39 := Lib.hid (show n ≤ 39 from by rw [hn]; exact HR.out.len)
    have HN := Lib.hid hn
    clear hn how
    have q1 := dist_neq hi lo 0 0
    -- BODY
    obtain ⟨y0, y1, y2, y3⟩ := HR.out.two.facts
    have hten := tenth_any (M : Nat) (by omega) (by have := HR.out.small; omega) wr
    rw [HR.out.dv, show ((M : Nat) : Int) / 10 = ((M / 10 : Nat) : Int) from by omega, show ((M : Nat) : Int) % 10 = ((M % 10 : Nat) : Int) from by omega] at hten
    obtain ⟨hi2, lo2, hd2⟩ := dV_two ((M / 10 : Nat) : Int)
    rw [hd2] at hten
    obtain ⟨m, hm⟩ : ∃ m, m = M % 10 := ⟨_, rfl⟩
    rw [← hm] at hten
    have m10 : m < 10 := by omega
    obtain ⟨d, hd⟩ : ∃ d : Nat, (48 : Int) + (m : Nat) = d := ⟨48 + m, by omega⟩
    have HT := Lib.hid hten
    have HD2 := Lib.hid hd2
    have HM := Lib.hid hm
    have HDD := Lib.hid hd
    clear hten hd2 hm hd
    by_cases hgo : B = [] ∨ M ≠ 0
    · have HGO := Lib.hid hgo
      have hpl := pow_le HR.out.few (hgo.imp (fun h => by rw [h]; rfl) id)
      have HPL := Lib.hid hpl
      have hgd : (n = 0) ∨ (n ≠ 0 ∧ M ≠ 0) := by
        rcases hgo with h | h
        · exact Or.inl (by rw [HN.out, h]; rfl)
        · by_cases h0 : n = 0
          · exact Or.inl h0
          · exact Or.inr ⟨h0, h⟩
      have hdo : d < 256 := by have := HDD.out; omega
      clear hgo hpl
      rcases hgd with h0 | ⟨h0, hM⟩
      · subst h0
        clear hz q1
        go_wp2_with fail
        refine HT.out.mono ?_
        rintro e w3 ⟨rfl, hb3⟩
        have T3 := Lib.hid (HR.out.two.later hb3 HR.out.two.lt)
        have O3 := Lib.hid (owns_later HOW.out hb3)
        have B3 := Lib.hid (HR.out.below.trans (hb3.mono HR.out.below.size))
        have S3 := Lib.hid (Nat.le_trans HR.out.size hb3.size)
        clear y0 y1 y2 y3 hb3
        obtain ⟨y0, y1, y2, y3⟩ := T3.out.facts
        go_upto_region 5 with fail
        have t4 := T3.out.set (.int .u64 hi2) (.int .u64 lo2)
        have o4 := owns_two O3.out (.int .u64 hi2) (.int .u64 lo2)
        have b4 := Two.below B3.out (Nat.le_refl _) (.int .u64 hi2) (.int .u64 lo2)
        have s4 : w.heap.size + 1 ≤ ((w3.setCell ⟨w.heap.size, 0, none⟩ (.int .u64 hi2)).setCell ⟨w.heap.size, 1, none⟩ (.int .u64 lo2)).heap.size := by simpa using S3.out
        generalize (w3.setCell ⟨w.heap.size, 0, none⟩ (.int .u64 hi2)).setCell ⟨w.heap.size, 1, none⟩ (.int .u64 lo2) = w4 at *
        have T4 := Lib.hid t4
        have hba : Below w4.heap.size w4 (w4.alloc (.cells (u8s [d]) 5)) := (Below.refl _ _).alloc (Nat.le_refl _) _
        have O5 := Lib.hid (owns_later o4 hba)
        have T5 := Lib.hid (t4.later hba t4.lt)
        have B5 := Lib.hid (b4.trans (hba.mono b4.size))
        have S5 := Lib.hid (Nat.le_trans s4 hba.size)
        have HN5 := Lib.hid (heap_alloc_new w4 (.cells (u8s [d]) 5))
        clear t4 o4 b4 s4 hba y0 y1 y2 y3
        have hd := HDD.out
        have hnn := HN39.out
        go_wp2_with (at_builtin; refine wpList_append_own _ (by rfl) (.tmp 18) (.tmp 22) 54 (by rfl) (w.heap.size + 1) 5 i5 (.int .u8 0) 1 1 A22 HI.out HI0.out HI1.out HI2.out (by rfl) (by decide) _ 0 _ (by rfl) O5.out ⟨w4.heap.size, 0, none⟩ 1 1 (vals [d]) (by rfl) (by rw [vals_length, Nat.mul_one]; rfl) (cells_of_row (L := [d]) HN5.out) (vals_one _) (by unfold maxLen; omega) (by omega) S5.out ?_; intro v7 w7 hown7 hgrow7 _; have O7 := Lib.hid hown7; have G7 := Lib.hid hgrow7; clear hown7 hgrow7)
        have hok7 : Sm.allB (B ++ [d]) := fun x hx => by
          rcases List.mem_append.1 hx with h | h
          · exact HR.out.ok x h
          · simp at h; omega
        have hown8 : w7.ownsRow (w.heap.size + 1) 5 1 v7 (0 + 1) (vals (B ++ [d])) := by rw [vals_append]; exact O7.out
        obtain ⟨q7, c7, rfl, _⟩ := owns_form hown8 hok7
        have HO8 := Lib.hid hown8
        clear hown8 hd
        go_roundw
        case rel =>
          have hlen : (B ++ [d]).length = 0 + 1 := by rw [List.length_append, ← HN.out]; rfl
          refine ⟨M / 10, B ++ [d], hi2, lo2, ⟨by have := HR.out.small; omega, by rw [hlen]; have := HPL.out.2; rw [← HN.out] at this; exact this, by rw [hlen]; have := HPL.out.1; rw [← HN.out] at this; omega, HD2.out, ?_, by rw [hlen]; exact HO8.out, hok7, ?_, ?_, ?_⟩⟩
          · exact (G7.out.block _ (T5.out.lt) (Ne.symm (two_ne_owns T5.out O5.out (by omega)))).trans T5.out
          · have e : d = 48 + M % 10 := by have := HDD.out; have := HM.out; omega
            rw [HR.out.told, todo_step M B _ HGO.out, e, List.reverse_append]
            rfl
          · exact B5.out.grown G7.out B5.out.size (fun k hk => (O5.out.lt k hk).1 |> fun h => by omega)
          · exact Nat.le_trans S5.out G7.out.size
        case measure => simp [lenOf]
      · have g1 : ((n : Int) == 0) = false := by simp; omega
        have q2 := q1
        rw [decide_eq_false (fun h => hM (hz.1 h))] at q2
        clear hz q1
        go_wp2_with fail
        refine HT.out.mono ?_
        rintro e w3 ⟨rfl, hb3⟩
        have T3 := Lib.hid (HR.out.two.later hb3 HR.out.two.lt)
        have O3 := Lib.hid (owns_later HOW.out hb3)
        have B3 := Lib.hid (HR.out.below.trans (hb3.mono HR.out.below.size))
        have S3 := Lib.hid (Nat.le_trans HR.out.size hb3.size)
        clear y0 y1 y2 y3 hb3
        obtain ⟨y0, y1, y2, y3⟩ := T3.out.facts
        go_upto_region 5 with fail
        have t4 := T3.out.set (.int .u64 hi2) (.int .u64 lo2)
        have o4 := owns_two O3.out (.int .u64 hi2) (.int .u64 lo2)
        have b4 := Two.below B3.out (Nat.le_refl _) (.int .u64 hi2) (.int .u64 lo2)
        have s4 : w.heap.size + 1 ≤ ((w3.setCell ⟨w.heap.size, 0, none⟩ (.int .u64 hi2)).setCell ⟨w.heap.size, 1, none⟩ (.int .u64 lo2)).heap.size := by simpa using S3.out
        generalize (w3.setCell ⟨w.heap.size, 0, none⟩ (.int .u64 hi2)).setCell ⟨w.heap.size, 1, none⟩ (.int .u64 lo2) = w4 at *
        have T4 := Lib.hid t4
        have hba : Below w4.heap.size w4 (w4.alloc (.cells (u8s [d]) 5)) := (Below.refl _ _).alloc (Nat.le_refl _) _
        have O5 := Lib.hid (owns_later o4 hba)
        have T5 := Lib.hid (t4.later hba t4.lt)
        have B5 := Lib.hid (b4.trans (hba.mono b4.size))
        have S5 := Lib.hid (Nat.le_trans s4 hba.size)
        have HN5 := Lib.hid (heap_alloc_new w4 (.cells (u8s [d]) 5))
        clear t4 o4 b4 s4 hba y0 y1 y2 y3
        have hd := HDD.out
        have hnn := HN39.out
        go_wp2_with (at_builtin; refine wpList_append_own _ (by rfl) (.tmp 18) (.tmp 22) 54 (by rfl) (w.heap.size + 1) 5 i5 (.int .u8 0) 1 1 A22 HI.out HI0.out HI1.out HI2.out (by rfl) (by decide) _ n _ (by rfl) O5.out ⟨w4.heap.size, 0, none⟩ 1 1 (vals [d]) (by rfl) (by rw [vals_length, Nat.mul_one]; rfl) (cells_of_row (L := [d]) HN5.out) (vals_one _) (by unfold maxLen; omega) (by omega) S5.out ?_; intro v7 w7 hown7 hgrow7 _; have O7 := Lib.hid hown7; have G7 := Lib.hid hgrow7; clear hown7 hgrow7)
        have hok7 : Sm.allB (B ++ [d]) := fun x hx => by
          rcases List.mem_append.1 hx with h | h
          · exact HR.out.ok x h
          · simp at h; omega
        have hown8 : w7.ownsRow (w.heap.size + 1) 5 1 v7 (n + 1) (vals (B ++ [d])) := by rw [vals_append]; exact O7.out
        obtain ⟨q7, c7, rfl, _⟩ := owns_form hown8 hok7
        have HO8 := Lib.hid hown8
        clear hown8 hd
        go_roundw
        case rel =>
          have hlen : (B ++ [d]).length = n + 1 := by rw [List.length_append, ← HN.out]; rfl
          refine ⟨M / 10, B ++ [d], hi2, lo2, ⟨by have := HR.out.small; omega, by rw [hlen]; have := HPL.out.2; rw [← HN.out] at this; exact this, by rw [hlen]; have := HPL.out.1; rw [← HN.out] at this; omega, HD2.out, ?_, by rw [hlen]; exact HO8.out, hok7, ?_, ?_, ?_⟩⟩
          · exact (G7.out.block _ (T5.out.lt) (Ne.symm (two_ne_owns T5.out O5.out (by omega)))).trans T5.out
          · have e : d = 48 + M % 10 := by have := HDD.out; have := HM.out; omega
            rw [HR.out.told, todo_step M B _ HGO.out, e, List.reverse_append]
            rfl
          · exact B5.out.grown G7.out B5.out.size (fun k hk => (O5.out.lt k hk).1 |> fun h => by omega)
          · exact Nat.le_trans S5.out G7.out.size
        case measure => simp [lenOf]; omega
    · have hB0 : B ≠ [] := fun h => hgo (Or.inl h)
      obtain rfl : M = 0 := Classical.byContradiction fun h => hgo (Or.inr h)
      have hn0 : 0 < n := by rw [HN.out]; exact List.length_pos_iff.2 hB0
      have g1 : ((n : Int) == 0) = false := by simp; omega
      have q2 := q1
      rw [decide_eq_true (hz.2 rfl)] at q2
      have hnm : n ≤ 39 := by rw [HN.out]; exact HR.out.len
      obtain ⟨g, cap, cur, hvv, hg1, hg2, hg3, hg4, hg5, hg6⟩ : ∃ g cap cur, Value.slice q n cc = .slice (some ⟨g, 0, none⟩) n cap ∧ w.heap.size + 1 ≤ g ∧ wr.heap[g]? = some (.cells cur 5 (0, 0)) ∧ n ≤ cap ∧ cap ≤ maxLen ∧ cur.size = cap * 1 ∧ cur.toList.take (n * 1) = vals B := by
        rcases HOW.out.2 with ⟨h1, _⟩ | h1
        · simp at h1; omega
        · exact h1
      simp only [Value.slice.injEq, true_and] at hvv
      obtain ⟨rfl, rfl⟩ := hvv
      have hAt : At wr g n (fun i => B.getD i 0) cur := ⟨hg2, by omega, fun i hi => by
        have e : (cur.toList.take (n * 1))[i]? = (vals B)[i]? := by rw [hg6]
        rw [vals_get B i (by rw [← HN.out]; exact hi), List.getElem?_take_of_lt (by omega)] at e
        simpa using e⟩
      have hturn := turn_any g n cc hn0 (by omega) _ cur wr hAt
      have HTU := Lib.hid hturn
      have HG1 := Lib.hid hg1
      have HG3 := Lib.hid hg3
      have HBN := Lib.hid hB0
      clear hturn hAt hg1 hg2 hg4 hg5 hg6 hg3 hz q1 hgo hB0
      go_wp2_with fail
      refine HTU.out.mono ?_
      rintro e w6 ⟨rfl, ⟨C', hC⟩, hgr⟩
      have hTx : Tx w6 (some ⟨g, 0, none⟩) n cc B.reverse := by
        refine Bytes.tx ⟨by rw [List.length_reverse]; exact HN.out, HG3.out, fun x hx => HR.out.ok x (List.mem_reverse.1 hx), Or.inr ⟨g, 0, rfl, fun i hi => ?_⟩⟩
        rw [List.length_reverse, ← HN.out] at hi
        rw [Nat.zero_add, hC.cell i hi]
        congr 2
        rw [List.getD_eq_getElem?_getD, List.getD_eq_getElem?_getD, List.getElem?_reverse (by rw [← HN.out]; exact hi), ← HN.out]
      have hcv := convert_tx hTx
      have HB6 := Lib.hid (HR.out.below.grown hgr HR.out.below.size (fun k hk => by have := HG1.out; simp at hk; omega))
      clear hTx hC hgr
      go_wp2_with fail
      go_ret
      refine ⟨?_, HB6.out⟩
      have ht := HR.out.told
      unfold todo at ht
      rw [if_pos ⟨HBN.out, rfl⟩, List.nil_append] at ht
      rw [ht]
      rfl
end Go.Proofs.Ytfkemphkhfhabaa
