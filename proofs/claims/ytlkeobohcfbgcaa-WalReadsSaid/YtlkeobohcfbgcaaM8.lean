/- WlDieA, WlSame, DkLandFuse, DkLandWake, GenTexts, WlRead, WlReadsA, WlReadsB, DkLandWrites. -/
import Derived.Test.YtlkeobohcfbgcaaM7
import Derived.Deep.RegionHeld3
import Derived.BigQuiet
import Derived.Deep.QuietTactic
/- WalDies' and WalWrites' parts: the list of what was told OK, beside a disk and a log. -/
namespace Go.Proofs.Ytlkeobohcfbgcaa.Wl
open Go.RowKit

/-- Headers in a row of one's own, of texts that were there in w. -/
structure Hs (w wr : World) (v : Value) (n : Nat) (R : List (List Nat)) : Prop where
  len : n = R.length
  own : ∃ hs : List Value, wr.ownsRow w.heap.size 36 1 v n hs ∧ ∀ i, i < n → ∃ q m c, hs[i]? = some (.slice q m c) ∧ Tx w q m c (R.getD i [])
theorem Hs.none (w : World) : Hs w w (.slice none 0 0) 0 [] := ⟨rfl, [], World.ownsRow_nil w w.heap.size 36 1, fun i hi => by omega⟩
theorem Hs.keep {w wr w' : World} {v : Value} {n : Nat} {R : List (List Nat)} (h : Hs w wr v n R) (hb : ∀ k, v.ownBlock = some k → w'.heap[k]? = wr.heap[k]?) : Hs w w' v n R := by
  obtain ⟨h1, hs, h2, h3⟩ := h
  exact ⟨h1, hs, owns_keep h2 hb, h3⟩
theorem Hs.lt {w wr : World} {v : Value} {n : Nat} {R : List (List Nat)} (h : Hs w wr v n R) : ∀ k, v.ownBlock = some k → w.heap.size ≤ k ∧ k < wr.heap.size := fun k hk => by
  obtain ⟨_, hs, h2, _⟩ := h
  exact h2.lt k hk
theorem Hs.form {w wr : World} {v : Value} {n : Nat} {R : List (List Nat)} (h : Hs w wr v n R) : ∃ q c, v = .slice q n c ∧ n ≤ c := by
  obtain ⟨_, hs, h2, _⟩ := h
  rcases h2.2 with ⟨rfl, h0⟩ | ⟨g, cap, cur, rfl, _, _, hc, _⟩
  · exact ⟨Option.none, 0, by rw [h0], by omega⟩
  · exact ⟨_, cap, rfl, hc⟩
theorem Hs.texts {w wr : World} {q : Option Addr} {n c : Nat} {R : List (List Nat)} (h : Hs w wr (.slice q n c) n R) (hb : Below w.heap.size w wr) : Texts wr q n c R := by
  have hf := h.form
  obtain ⟨h1, hs, h2, h3⟩ := h
  refine ⟨h1, by obtain ⟨q', c', e, hc⟩ := hf; cases e; exact hc, fun hR => ?_⟩
  rcases h2.2 with ⟨_, h0⟩ | ⟨g, cap, cur, e, _, hg, _, _, _, ht⟩
  · exact absurd (List.eq_nil_of_length_eq_zero (by omega)) hR
  · cases e
    refine ⟨g, 0, rfl, fun i hi => ?_⟩
    obtain ⟨q', m', c', h4, h5⟩ := h3 i (by omega)
    refine ⟨q', m', c', ?_, h5.later hb⟩
    rw [Nat.zero_add, cell_of_row wr g i _ _ _ hg, ← h4, ← ht, List.getElem?_take_of_lt (by omega), Array.getElem?_toList]
theorem Hs.put {w wr w7 : World} {v v7 : Value} {n : Nat} {R : List (List Nat)} {hs : List Value} {q : Option Addr} {m c : Nat} {b : List Nat} (hl : n = R.length) (how : wr.ownsRow w.heap.size 36 1 v n hs) (hall : ∀ i, i < n → ∃ q m c, hs[i]? = some (.slice q m c) ∧ Tx w q m c (R.getD i []))
    (hb : Tx w q m c b) (hown : w7.ownsRow w.heap.size 36 1 v7 (n + 1) (hs ++ [.slice q m c])) : Hs w w7 v7 (n + 1) (R ++ [b]) := by
  have hhl : hs.length = n := by have := how.1; omega
  refine ⟨by rw [List.length_append, hl]; rfl, hs ++ [.slice q m c], hown, fun i hi => ?_⟩
  by_cases hin : i < n
  · obtain ⟨q', m', c', h4, h5⟩ := hall i hin
    refine ⟨q', m', c', by rw [List.getElem?_append_left (by omega)]; exact h4, ?_⟩
    rw [getD_app R b (by omega)]
    exact h5
  · obtain rfl : i = n := by omega
    refine ⟨q, m, c, by rw [List.getElem?_append_right (by omega), hhl]; simp, ?_⟩
    rw [hl, getD_end R b]
    exact hb
variable {LD : World → Nat → (Nat → Prop) → Nat → Nat → G → Prop}
/-- A disk, a log on it, and the list of what it should hold. -/
structure Dv (LD : World → Nat → (Nat → Prop) → Nat → Nat → G → Prop) (w wr : World) (gd : Nat) (P : Nat → Prop) (s : Dk.D) (gl : Nat) (Q : Nat → Prop) (g : G) (v : Value) (n : Nat) (R : List (List Nat)) : Prop where
  st : St LD w wr gd P s gl Q g
  hs : Hs w wr v n R
  off : ∀ k, v.ownBlock = some k → ¬ P k ∧ ¬ Q k
section
variable {w wr w' : World} {gd : Nat} {P P' : Nat → Prop} {s s' : Dk.D} {gl : Nat} {Q Q' : Nat → Prop} {g : G} {v : Value} {n : Nat} {R : List (List Nat)}
theorem Dv.later (A : Api LD) (h : Dv LD w wr gd P s gl Q g v n R) (hb : Below wr.heap.size wr w') : Dv LD w w' gd P s gl Q g v n R :=
  ⟨h.st.later A hb, h.hs.keep (fun k hk => hb.block k (h.hs.lt k hk).2), h.off⟩
theorem Dv.app {b : List Nat} (h : Dv LD w wr gd P s gl Q g v n R) (hd : Dk.PD w' gd P' (g.app s b).1.1) (hl : LD w' gl Q' gd s.n (g.app s b).1.2) (hp : ∀ k, P' k → P k ∨ wr.heap.size ≤ k) (hq : ∀ k, Q' k → Q k ∨ wr.heap.size ≤ k) (ha : ∀ k, P' k → ¬ Q' k) (ho : Dk.Only (fun k => P k ∨ Q k) wr w') : Dv LD w w' gd P' (g.app s b).1.1 gl Q' (g.app s b).1.2 v n R :=
  ⟨h.st.app hd hl hp hq ha ho, h.hs.keep (fun k hk => ho.block k (h.hs.lt k hk).2 (fun e => e.elim (h.off k hk).1 (h.off k hk).2)), fun k hk =>
    ⟨fun e => (hp k e).elim (h.off k hk).1 (fun e => absurd (h.hs.lt k hk).2 (Nat.not_lt.2 e)), fun e => (hq k e).elim (h.off k hk).2 (fun e => absurd (h.hs.lt k hk).2 (Nat.not_lt.2 e))⟩⟩
theorem Dv.disk' (A : Api LD) (h : Dv LD w wr gd P s gl Q g v n R) (hn : s'.n = s.n) (hd : Dk.PD w' gd P' s') (hp : ∀ k, P' k → P k ∨ wr.heap.size ≤ k) (ho : Dk.Only P wr w') : Dv LD w w' gd P' s' gl Q g v n R :=
  ⟨h.st.disk' A hn hd hp ho, h.hs.keep (fun k hk => ho.block k (h.hs.lt k hk).2 (h.off k hk).1), fun k hk => ⟨fun e => (hp k e).elim (h.off k hk).1 (fun e => absurd (h.hs.lt k hk).2 (Nat.not_lt.2 e)), (h.off k hk).2⟩⟩
/-- The list grows. -/
theorem Dv.list (A : Api LD) {v7 : Value} {m : Nat} {R7 : List (List Nat)} (h : Dv LD w wr gd P s gl Q g v n R) (hh : Hs w w' v7 m R7) (hg : wr.grownBy w' v.ownBlock) (hat : v7.ownBlock = v.ownBlock ∨ v7.ownBlock = some wr.heap.size) : Dv LD w w' gd P s gl Q g v7 m R7 := by
  have ho : Dk.Only (fun k => v.ownBlock = some k) wr w' := ⟨hg.os, hg.tape, hg.output, hg.size, fun k hk hn => hg.block k hk (fun e => hn e.symm)⟩
  refine ⟨⟨Dk.PD.keep _ h.st.disk ho (fun k hk e => (h.off k e).1 hk), A.keep _ h.st.log ho (fun k hk e => (h.off k e).2 hk), h.st.apart, h.st.own, h.st.low.trans (ho.below h.st.low.size (fun k e => (h.hs.lt k e).1))⟩, hh, fun k hk => ?_⟩
  rcases hat with e | e
  · exact h.off k (e.symm.trans hk)
  · have hkk : wr.heap.size = k := Option.some.inj (e.symm.trans hk)
    exact ⟨fun e => by have := Dk.PD.lt h.st.disk k e; omega, fun e => by have := A.lt h.st.log k e; omega⟩
/-- Another log takes the place. -/
theorem Dv.reopen (h : Dv LD w wr gd P s gl Q g v n R) {gl' : Nat} {g' : G} (hl : LD wr gl' Q' gd s.n g') (hq : ∀ k, Q' k → w.heap.size ≤ k ∧ ¬ P k ∧ v.ownBlock ≠ some k) : Dv LD w wr gd P s gl' Q' g' v n R :=
  ⟨⟨h.st.disk, hl, fun k hp e => (hq k e).2.1 hp, fun k hk => hk.elim (fun e => h.st.own k (Or.inl e)) (fun e => (hq k e).1), h.st.low⟩, h.hs, fun k hk => ⟨(h.off k hk).1, fun e => (hq k e).2.2 hk⟩⟩
end
/-- An append of a log that isn't broken, on a living disk: three ways. -/
theorem app_ways {R : List (List Nat)} {s : Dk.D} {b : List Nat} (hok : s.ok) (hd : s.dead = false) (hG : Good s.L R) (hob : Sm.allB b) (hb : b.length ≤ 100000) :
    (s.n < G.used ⟨R, false⟩ + need b.length ∧ G.app ⟨R, false⟩ s b = ((s, ⟨R, false⟩), 12)) ∨ (∃ s', G.app ⟨R, false⟩ s b = ((s', ⟨R ++ [b], false⟩), 0) ∧ s'.n = s.n ∧ s'.dead = false ∧ s'.writes ≤ s.writes + need b.length + 1 ∧ Good s'.L (R ++ [b])) ∨ (∃ s', G.app ⟨R, false⟩ s b = ((s', ⟨R, true⟩), 30) ∧ Died s s' R b) := by
  by_cases hf : s.n < G.used ⟨R, false⟩ + need b.length
  · exact Or.inl ⟨hf, app_full rfl hf⟩
  · right
    have hfit' : G.used ⟨R, false⟩ + need b.length ≤ s.n := by omega
    by_cases hl : 0 ≤ s.left ∧ s.left < (plan s.n (G.used ⟨R, false⟩) (last R R.length) R.length b).length
    · exact Or.inr (app_dies hok hd hG hob hb hfit' hl)
    · left
      have hu := used_size ⟨R, false⟩
      simp only at hu
      have hpl := (plan_length s.n (G.used ⟨R, false⟩) (last R R.length) R.length b).1
      have hfit := plan_fits s.n (G.used ⟨R, false⟩) (last R R.length) R.length hob hfit'
      have h1 := doAll_whole (plan s.n (G.used ⟨R, false⟩) (last R R.length) R.length b) s hd hfit (by omega)
      obtain ⟨h2, _⟩ := hG.plan hok.len hu hfit' hb
      refine ⟨(doAll s (plan s.n (G.used ⟨R, false⟩) (last R R.length) R.length b)).1, ?_, ?_⟩
      · unfold G.app
        rw [if_neg (by simp), if_neg (by omega)]
        simp only
        rw [if_pos (by rw [h1])]
      · rw [h1]
        exact ⟨rfl, hd, by simp only; omega, h2⟩
end Go.Proofs.Ytlkeobohcfbgcaa.Wl

/- The reference's log: Same. -/
namespace Go.Proofs.Ytlkeobohcfbgcaa.Wl
open Go.RowKit

def SameR (w : World) (n : Nat) (L M : List (List Nat)) (i : Value) (wr : World) : Prop :=
  ∃ k : Nat, k ≤ n ∧ i = .int .i64 k ∧ (∀ j, j < k → L.getD j [] = M.getD j []) ∧ Below w.heap.size w wr
theorem lists_eq {L M : List (List Nat)} (hl : L.length = M.length) (h : ∀ j, j < L.length → L.getD j [] = M.getD j []) : L = M := by
  apply List.ext_getElem hl
  intro j h1 h2
  have := h j h1
  rwa [List.getD_eq_getElem?_getD, List.getD_eq_getElem?_getD, List.getElem?_eq_getElem h1, List.getElem?_eq_getElem h2] at this
set_option maxRecDepth 100000 in
set_option maxHeartbeats 2000000 in
theorem rsame_any (L M : List (List Nat)) (p q : Option Addr) (n c m d : Nat) (w : World) (hL : Texts w p n c L) (hM : Texts w q m d M) (hn : n ≤ 9223372036854775807) (hm : m ≤ 9223372036854775807) :
    Calls Try.prog 22 #[.slice p n c, .slice q m d] w fun e w' => e = .returned (.bool (decide (L = M))) ∧ Below w.heap.size w w' := by
  have HL := Lib.hid hL
  have HM := Lib.hid hM
  have HN := Lib.hid hL.size
  have HNM := Lib.hid hM.size
  have hnc := hL.le
  have hmd := hM.le
  clear hL hM
  by_cases hne : n = m
  · subst hne
    go_enter Try.func22, Try.ntmps22
    go_wp2_with fail
    go_loopw [5] (fun i wr => SameR w n L M i wr) (fun i _ => n - (intOf i).toNat)
    case atStart => exact ⟨0, Nat.zero_le _, rfl, (fun j hj => by omega), Below.refl _ _⟩
    case round =>
      obtain ⟨k, hk, rfl, hall, hb⟩ := hrel
      have HA := Lib.hid hall
      have HB := Lib.hid hb
      clear hall hb
      by_cases hlt : k < n
      · have l1 : (k : Int) < n := by omega
        have i1 : (0 : Int) ≤ k ∧ (k : Int) < n := by omega
        obtain ⟨g1, o1, q1, m1, d1, rfl, hc1, ht1⟩ := texts_at (HL.out.later HB.out) hlt
        obtain ⟨g2, o2, q2, m2, d2, rfl, hc2, ht2⟩ := texts_at (HM.out.later HB.out) hlt
        have HC1 := Lib.hid hc1
        have HC2 := Lib.hid hc2
        by_cases heq : L.getD k [] = M.getD k []
        · rw [← heq] at ht2
          have HEQ := Lib.hid (show ∀ j, j < k + 1 → L.getD j [] = M.getD j [] from fun j hj => by
            by_cases hjk : j = k
            · rw [hjk]; exact heq
            · exact HA.out j (by omega))
          have T1 := Lib.hid ht1
          have T2 := Lib.hid ht2
          clear hc1 hc2 ht1 ht2 heq
          generalize L.getD k [] = X at *
          go_upto_region 6 with fail
          refine wp_region_held_drew (S := fun w' => Below wr.heap.size wr w') (by kernel_rfl) (Below.refl _ _).drew (fun hHeld => ?_)
          refine wpAnyH_take (i := 0) (oi := ⟨some 17, .move (.tmp 0), _, _, _, _⟩) (v := ?_) rfl (by kernel_rfl) (by kernel_rfl) (by kernel_rfl) (fun _ _ _ h => h) (Or.inl ⟨by rfl, ?_⟩) (by assumption) ?_
          rotate_left
          · intro w' hSw
            go_simp
            try with_reducible rfl
          try simp only [Act.put, List.setIfInBounds_toArray, List.set_cons_zero, List.set_cons_succ]
          refine wpAnyH_take (i := 1) (oi := ⟨some 18, .move (.tmp 5), _, _, _, _⟩) (v := ?_) rfl (by kernel_rfl) (by kernel_rfl) (by kernel_rfl) (fun _ _ _ h => h) (Or.inl ⟨by rfl, ?_⟩) (by assumption) ?_
          rotate_left
          · intro w' hSw
            go_simp
            try with_reducible rfl
          try simp only [Act.put, List.setIfInBounds_toArray, List.set_cons_zero, List.set_cons_succ]
          refine wpAnyH_take (i := 2) (oi := ⟨some 19, .indexAddr 35 (.tmp 17) (.tmp 18), _, _, _, _⟩) (v := ?_) rfl (by kernel_rfl) (by kernel_rfl) (by kernel_rfl) (fun _ _ _ h => h) (Or.inl ⟨by rfl, ?_⟩) (by assumption) ?_
          rotate_left
          · intro w' hSw
            go_simp
            try with_reducible rfl
          try simp only [Act.put, List.setIfInBounds_toArray, List.set_cons_zero, List.set_cons_succ]
          refine wpAnyH_take (i := 3) (oi := ⟨some 20, .load 36 (.tmp 19), _, _, _, _⟩) (v := ?_) rfl (by kernel_rfl) (by kernel_rfl) (by kernel_rfl) (fun _ _ _ h => h) (Or.inl ⟨by rfl, ?_⟩) (by assumption) ?_
          rotate_left
          · intro w' hSw
            have hc := (hSw.cell (block_lt_of_cell HC1.out)).trans HC1.out
            go_simp
            try with_reducible rfl
          try simp only [Act.put, List.setIfInBounds_toArray, List.set_cons_zero, List.set_cons_succ]
          refine wpAnyH_take (i := 4) (oi := ⟨some 21, .convert 36 9 (.tmp 20), _, _, _, _⟩) (v := ?_) rfl (by kernel_rfl) (by kernel_rfl) (by kernel_rfl) (fun _ _ _ h => h) (Or.inl ⟨by rfl, ?_⟩) (by assumption) ?_
          rotate_left
          · intro w' hSw
            have hcv := convert_tx (T1.out.later hSw)
            go_simp
            try with_reducible rfl
          try simp only [Act.put, List.setIfInBounds_toArray, List.set_cons_zero, List.set_cons_succ]
          refine wpAnyH_take (i := 5) (oi := ⟨some 22, .move (.tmp 1), _, _, _, _⟩) (v := ?_) rfl (by kernel_rfl) (by kernel_rfl) (by kernel_rfl) (fun _ _ _ h => h) (Or.inl ⟨by rfl, ?_⟩) (by assumption) ?_
          rotate_left
          · intro w' hSw
            go_simp
            try with_reducible rfl
          try simp only [Act.put, List.setIfInBounds_toArray, List.set_cons_zero, List.set_cons_succ]
          refine wpAnyH_take (i := 6) (oi := ⟨some 23, .move (.tmp 5), _, _, _, _⟩) (v := ?_) rfl (by kernel_rfl) (by kernel_rfl) (by kernel_rfl) (fun _ _ _ h => h) (Or.inl ⟨by rfl, ?_⟩) (by assumption) ?_
          rotate_left
          · intro w' hSw
            go_simp
            try with_reducible rfl
          try simp only [Act.put, List.setIfInBounds_toArray, List.set_cons_zero, List.set_cons_succ]
          refine wpAnyH_take (i := 7) (oi := ⟨some 24, .indexAddr 35 (.tmp 22) (.tmp 23), _, _, _, _⟩) (v := ?_) rfl (by kernel_rfl) (by kernel_rfl) (by kernel_rfl) (fun _ _ _ h => h) (Or.inl ⟨by rfl, ?_⟩) (by assumption) ?_
          rotate_left
          · intro w' hSw
            go_simp
            try with_reducible rfl
          try simp only [Act.put, List.setIfInBounds_toArray, List.set_cons_zero, List.set_cons_succ]
          refine wpAnyH_take (i := 8) (oi := ⟨some 25, .load 36 (.tmp 24), _, _, _, _⟩) (v := ?_) rfl (by kernel_rfl) (by kernel_rfl) (by kernel_rfl) (fun _ _ _ h => h) (Or.inl ⟨by rfl, ?_⟩) (by assumption) ?_
          rotate_left
          · intro w' hSw
            have hc := (hSw.cell (block_lt_of_cell HC2.out)).trans HC2.out
            go_simp
            try with_reducible rfl
          try simp only [Act.put, List.setIfInBounds_toArray, List.set_cons_zero, List.set_cons_succ]
          refine wpAnyH_take (i := 9) (oi := ⟨some 26, .convert 36 9 (.tmp 25), _, _, _, _⟩) (v := ?_) rfl (by kernel_rfl) (by kernel_rfl) (by kernel_rfl) (fun _ _ _ h => h) (Or.inl ⟨by rfl, ?_⟩) (by assumption) ?_
          rotate_left
          · intro w' hSw
            have hcv := convert_tx (T2.out.later hSw)
            go_simp
            try with_reducible rfl
          try simp only [Act.put, List.setIfInBounds_toArray, List.set_cons_zero, List.set_cons_succ]
          refine wpAnyH_take (i := 10) (oi := ⟨some 27, .binOp .neq 9 (.tmp 21) (.tmp 26) 9, _, _, _, _⟩) (v := ?_) rfl (by kernel_rfl) (by kernel_rfl) (by kernel_rfl) (fun _ _ _ h => h) (Or.inl ⟨by rfl, ?_⟩) (by assumption) ?_
          rotate_left
          · intro w' hSw
            go_simp
            try with_reducible rfl
          try simp only [Act.put, List.setIfInBounds_toArray, List.set_cons_zero, List.set_cons_succ]
          refine wpAnyH_done (by kernel_rfl) ?_ _
          go_wp2_with fail
          go_roundw
          case rel => exact ⟨k + 1, by omega, by go_num, HEQ.out, HB.out.trans (hHeld.mono HB.out.size)⟩
          case measure => simp [intOf]; omega
        · have HNE := Lib.hid (show false = decide (L = M) from (decide_eq_false (fun e => heq (by rw [e]))).symm)
          have hst := str_eq ht1.ok ht2.ok
          rw [decide_eq_false heq] at hst
          have HSTR := Lib.hid hst
          have T1 := Lib.hid ht1
          have T2 := Lib.hid ht2
          clear hc1 hc2 ht1 ht2 heq hst
          generalize L.getD k [] = X at *
          generalize M.getD k [] = Y at *
          go_upto_region 6 with fail
          refine wp_region_held_drew (S := fun w' => Below wr.heap.size wr w') (by kernel_rfl) (Below.refl _ _).drew (fun hHeld => ?_)
          refine wpAnyH_take (i := 0) (oi := ⟨some 17, .move (.tmp 0), _, _, _, _⟩) (v := ?_) rfl (by kernel_rfl) (by kernel_rfl) (by kernel_rfl) (fun _ _ _ h => h) (Or.inl ⟨by rfl, ?_⟩) (by assumption) ?_
          rotate_left
          · intro w' hSw
            go_simp
            try with_reducible rfl
          try simp only [Act.put, List.setIfInBounds_toArray, List.set_cons_zero, List.set_cons_succ]
          refine wpAnyH_take (i := 1) (oi := ⟨some 18, .move (.tmp 5), _, _, _, _⟩) (v := ?_) rfl (by kernel_rfl) (by kernel_rfl) (by kernel_rfl) (fun _ _ _ h => h) (Or.inl ⟨by rfl, ?_⟩) (by assumption) ?_
          rotate_left
          · intro w' hSw
            go_simp
            try with_reducible rfl
          try simp only [Act.put, List.setIfInBounds_toArray, List.set_cons_zero, List.set_cons_succ]
          refine wpAnyH_take (i := 2) (oi := ⟨some 19, .indexAddr 35 (.tmp 17) (.tmp 18), _, _, _, _⟩) (v := ?_) rfl (by kernel_rfl) (by kernel_rfl) (by kernel_rfl) (fun _ _ _ h => h) (Or.inl ⟨by rfl, ?_⟩) (by assumption) ?_
          rotate_left
          · intro w' hSw
            go_simp
            try with_reducible rfl
          try simp only [Act.put, List.setIfInBounds_toArray, List.set_cons_zero, List.set_cons_succ]
          refine wpAnyH_take (i := 3) (oi := ⟨some 20, .load 36 (.tmp 19), _, _, _, _⟩) (v := ?_) rfl (by kernel_rfl) (by kernel_rfl) (by kernel_rfl) (fun _ _ _ h => h) (Or.inl ⟨by rfl, ?_⟩) (by assumption) ?_
          rotate_left
          · intro w' hSw
            have hc := (hSw.cell (block_lt_of_cell HC1.out)).trans HC1.out
            go_simp
            try with_reducible rfl
          try simp only [Act.put, List.setIfInBounds_toArray, List.set_cons_zero, List.set_cons_succ]
          refine wpAnyH_take (i := 4) (oi := ⟨some 21, .convert 36 9 (.tmp 20), _, _, _, _⟩) (v := ?_) rfl (by kernel_rfl) (by kernel_rfl) (by kernel_rfl) (fun _ _ _ h => h) (Or.inl ⟨by rfl, ?_⟩) (by assumption) ?_
          rotate_left
          · intro w' hSw
            have hcv := convert_tx (T1.out.later hSw)
            go_simp
            try with_reducible rfl
          try simp only [Act.put, List.setIfInBounds_toArray, List.set_cons_zero, List.set_cons_succ]
          refine wpAnyH_take (i := 5) (oi := ⟨some 22, .move (.tmp 1), _, _, _, _⟩) (v := ?_) rfl (by kernel_rfl) (by kernel_rfl) (by kernel_rfl) (fun _ _ _ h => h) (Or.inl ⟨by rfl, ?_⟩) (by assumption) ?_
          rotate_left
          · intro w' hSw
            go_simp
            try with_reducible rfl
          try simp only [Act.put, List.setIfInBounds_toArray, List.set_cons_zero, List.set_cons_succ]
          refine wpAnyH_take (i := 6) (oi := ⟨some 23, .move (.tmp 5), _, _, _, _⟩) (v := ?_) rfl (by kernel_rfl) (by kernel_rfl) (by kernel_rfl) (fun _ _ _ h => h) (Or.inl ⟨by rfl, ?_⟩) (by assumption) ?_
          rotate_left
          · intro w' hSw
            go_simp
            try with_reducible rfl
          try simp only [Act.put, List.setIfInBounds_toArray, List.set_cons_zero, List.set_cons_succ]
          refine wpAnyH_take (i := 7) (oi := ⟨some 24, .indexAddr 35 (.tmp 22) (.tmp 23), _, _, _, _⟩) (v := ?_) rfl (by kernel_rfl) (by kernel_rfl) (by kernel_rfl) (fun _ _ _ h => h) (Or.inl ⟨by rfl, ?_⟩) (by assumption) ?_
          rotate_left
          · intro w' hSw
            go_simp
            try with_reducible rfl
          try simp only [Act.put, List.setIfInBounds_toArray, List.set_cons_zero, List.set_cons_succ]
          refine wpAnyH_take (i := 8) (oi := ⟨some 25, .load 36 (.tmp 24), _, _, _, _⟩) (v := ?_) rfl (by kernel_rfl) (by kernel_rfl) (by kernel_rfl) (fun _ _ _ h => h) (Or.inl ⟨by rfl, ?_⟩) (by assumption) ?_
          rotate_left
          · intro w' hSw
            have hc := (hSw.cell (block_lt_of_cell HC2.out)).trans HC2.out
            go_simp
            try with_reducible rfl
          try simp only [Act.put, List.setIfInBounds_toArray, List.set_cons_zero, List.set_cons_succ]
          refine wpAnyH_take (i := 9) (oi := ⟨some 26, .convert 36 9 (.tmp 25), _, _, _, _⟩) (v := ?_) rfl (by kernel_rfl) (by kernel_rfl) (by kernel_rfl) (fun _ _ _ h => h) (Or.inl ⟨by rfl, ?_⟩) (by assumption) ?_
          rotate_left
          · intro w' hSw
            have hcv := convert_tx (T2.out.later hSw)
            go_simp
            try with_reducible rfl
          try simp only [Act.put, List.setIfInBounds_toArray, List.set_cons_zero, List.set_cons_succ]
          refine wpAnyH_take (i := 10) (oi := ⟨some 27, .binOp .neq 9 (.tmp 21) (.tmp 26) 9, _, _, _, _⟩) (v := ?_) rfl (by kernel_rfl) (by kernel_rfl) (by kernel_rfl) (fun _ _ _ h => h) (Or.inl ⟨by rfl, ?_⟩) (by assumption) ?_
          rotate_left
          · intro w' hSw
            have hst := HSTR.out
            go_simp
            try with_reducible rfl
          try simp only [Act.put, List.setIfInBounds_toArray, List.set_cons_zero, List.set_cons_succ]
          refine wpAnyH_done (by kernel_rfl) ?_ _
          go_wp2_with fail
          go_ret
          exact ⟨congrArg (fun b => Ending.returned (.bool b)) HNE.out, HB.out.trans (hHeld.mono HB.out.size)⟩
      · obtain rfl : k = n := by omega
        have HE := Lib.hid (show true = decide (L = M) from (decide_eq_true (lists_eq (HN.out.symm.trans HNM.out) (fun j hj => HA.out j (by have := HN.out; omega)))).symm)
        go_wp2_with fail
        go_ret
        exact ⟨congrArg (fun b => Ending.returned (.bool b)) HE.out, HB.out⟩
  · have HNE := Lib.hid (show false = decide (L = M) from (decide_eq_false (fun e => hne (by rw [HN.out, HNM.out, e]))).symm)
    have hne' : ¬ (n : Int) = m := by omega
    clear hne
    go_enter Try.func22, Try.ntmps22
    go_wp2_with fail
    go_ret
    exact ⟨congrArg (fun b => Ending.returned (.bool b)) HNE.out, Below.refl _ _⟩
end Go.Proofs.Ytlkeobohcfbgcaa.Wl

/- Package disk, as it landed: Fuse. -/
namespace Go.Proofs.Ytlkeobohcfbgcaa.Dk
open Go.RowKit

set_option maxRecDepth 100000 in
set_option maxHeartbeats 1000000 in
theorem fuse_any {w : World} {g : Nat} {P : Nat → Prop} {s : D} (k t : Int) (h : PD w g P s) (hk : k < 9223372036854775808) :
    Calls Try.prog 24 #[.pointer (some ⟨g, 0, none⟩), .int .i64 k, .int .i64 t] w fun e w' => e = .returned (.tuple #[]) ∧ (∃ P', PD w' g P' (s.fuse k t) ∧ ∀ k, P' k → P k ∨ w.heap.size ≤ k) ∧ Only P w w' := by
  obtain ⟨p, c, E, lit, whole, torn, h, hP⟩ := h
  obtain ⟨t1, r1, o1⟩ := h.lay false 0 0
  have hok := D.fuse_ok h.ok t hk
  obtain ⟨d1, e1, d2, e2, d3, e3⟩ := row_three h.row false 0
  by_cases h0 : k ≥ 0
  · have hs : s.fuse k t = { s with left := k, torn := (s.fuse k t).torn } := by
      simp only [D.fuse]
      rw [if_neg (by omega)]
    have H := Lib.hid (show ∀ w1 : World, Only (fun k => k = g) w w1 → w1.heap[g]? = some (.cells (rowOf p s.n c false 0 0 s.dead s.writes) 60 (0, 0)) → (∃ P', PD (w1.setCells g 1 [.bool true, .int .i64 k, .int .i64 ((s.fuse k t).torn : Nat)]) g P' (s.fuse k t) ∧ ∀ k, P' k → P k ∨ w.heap.size ≤ k) ∧ Only P w (w1.setCells g 1 [.bool true, .int .i64 k, .int .i64 ((s.fuse k t).torn : Nat)]) from fun w1 o1 r1 => by
      have r2 : (w1.setCells g 1 [.bool true, .int .i64 k, .int .i64 ((s.fuse k t).torn : Nat)]).heap[g]? = some (.cells (rowOf p s.n c true k ((s.fuse k t).torn : Nat) s.dead s.writes) 60 (0, 0)) := heap_setCells_same g _ [.bool true, .int .i64 k, .int .i64 ((s.fuse k t).torn : Nat)] [.slice p s.n c] [.bool false, .int .i64 0, .int .i64 0] [.bool s.dead, .int .i64 s.writes] _ r1 rfl
      have o2 := o1.trans (only_setCells (P := fun k => k = g) w1 rfl 1 [.bool true, .int .i64 k, .int .i64 ((s.fuse k t).torn : Nat)])
      exact ⟨(h.turn (s' := s.fuse k t) r2 o2 (by rw [hs]) (by rw [hs]) (by rw [hs]) (by rw [hs]) (fun _ => by rw [hs]; exact ⟨(decide_eq_true h0).symm, fun _ => ⟨rfl, rfl⟩⟩) hok).pd hP, o2.mono (fun k e => (hP k).2 (Or.inl e))⟩)
    have ht : ((s.fuse k t).torn : Int) = if t < 0 then 0 else if t > 64 then 64 else t := by
      simp only [D.fuse]
      split
      · omega
      · split <;> omega
    rw [ht] at H
    have R1 := Lib.hid r1
    have O1 := Lib.hid o1
    clear h r1 o1 hP hs hok ht t1
    go_enter Try.func24, Try.ntmps24
    go_upto_region 2 with fail
    rw [show ((w.setCell ⟨g, 1, none⟩ (.bool false)).setCell ⟨g, 2, none⟩ (.int .i64 0)).setCell ⟨g, 3, none⟩ (.int .i64 0) = w.setCells g 1 [.bool false, .int .i64 0, .int .i64 0] from rfl]
    generalize w.setCells g 1 [.bool false, .int .i64 0, .int .i64 0] = w1 at *
    obtain ⟨k1, f1, k2, f2, k3, f3⟩ := row_three R1.out true k
    have HH := Lib.hid (H.out w1 O1.out R1.out)
    clear H O1 R1 d1 e1 d2 e2 d3 e3
    by_cases ht0 : t < 0
    · rw [if_pos ht0] at HH
      go_wp2_with fail
      go_end0
      first | exact ⟨rfl, HH.out⟩ | (rw [show min (max t 0) 64 = 0 from by omega]; exact ⟨rfl, HH.out⟩)
    · rw [if_neg ht0] at HH
      by_cases ht6 : t > 64
      · rw [if_pos ht6] at HH
        go_wp2_with fail
        go_end0
        first | exact ⟨rfl, HH.out⟩ | (rw [show min (max t 0) 64 = 64 from by omega]; exact ⟨rfl, HH.out⟩)
      · rw [if_neg ht6] at HH
        go_wp2_with fail
        go_end0
        first | exact ⟨rfl, HH.out⟩ | (rw [show min (max t 0) 64 = t from by omega]; exact ⟨rfl, HH.out⟩)
  · have hs : s.fuse k t = { s with left := -1, torn := (s.fuse k t).torn } := by
      simp only [D.fuse]
      rw [if_pos (by omega)]
    have H := Lib.hid (show (∃ P', PD (w.setCells g 1 [.bool false, .int .i64 0, .int .i64 0]) g P' (s.fuse k t) ∧ ∀ k, P' k → P k ∨ w.heap.size ≤ k) ∧ Only P w (w.setCells g 1 [.bool false, .int .i64 0, .int .i64 0]) from
      ⟨(h.turn (s' := s.fuse k t) r1 o1 (by rw [hs]) (by rw [hs]) (by rw [hs]) (by rw [hs]) (fun _ => by rw [hs]; exact ⟨rfl, fun e => absurd e (show ¬ (0 : Int) ≤ -1 by omega)⟩) hok).pd hP, o1.mono (fun k e => (hP k).2 (Or.inl e))⟩)
    clear h r1 o1 hP hs hok t1
    go_enter Try.func24, Try.ntmps24
    go_wp2_with fail
    go_end0
    exact ⟨rfl, H.out⟩
end Go.Proofs.Ytlkeobohcfbgcaa.Dk

/- Package disk, as it landed: Wake. -/
namespace Go.Proofs.Ytlkeobohcfbgcaa.Dk
open Go.RowKit

set_option maxRecDepth 100000 in
set_option maxHeartbeats 1000000 in
theorem wake_any {w : World} {g : Nat} {P : Nat → Prop} {s : D} (h : PD w g P s) :
    Calls Try.prog 26 #[.pointer (some ⟨g, 0, none⟩)] w fun e w' => e = .returned (.tuple #[]) ∧ (∃ P', PD w' g P' s.wake ∧ ∀ k, P' k → P k ∨ w.heap.size ≤ k) ∧ Only P w w' := by
  obtain ⟨p, c, E, lit, whole, torn, h, hP⟩ := h
  have c4 := h.c4
  have f4 := h.fz 4
  have r1 : (w.setCell ⟨g, 4, none⟩ (.bool false)).heap[g]? = some (.cells (rowOf p s.n c lit whole torn false s.writes) 60 (0, 0)) := heap_setCell_same w g 4 _ _ (.bool false) h.row
  have o1 := Only.setCell (P := fun k => k = g) w (a := ⟨g, 4, none⟩) rfl (.bool false)
  have r2 : ((w.setCell ⟨g, 4, none⟩ (.bool false)).setCells g 1 [.bool false, .int .i64 0, .int .i64 0]).heap[g]? = some (.cells (rowOf p s.n c false 0 0 false s.writes) 60 (0, 0)) := heap_setCells_same g _ [.bool false, .int .i64 0, .int .i64 0] [.slice p s.n c] [.bool lit, .int .i64 whole, .int .i64 torn] [.bool false, .int .i64 s.writes] _ r1 rfl
  have o2 := o1.trans (only_setCells (P := fun k => k = g) (w.setCell ⟨g, 4, none⟩ (.bool false)) rfl 1 [.bool false, .int .i64 0, .int .i64 0])
  obtain ⟨d1, e1, d2, e2, d3, e3⟩ := row_three r1 false 0
  have H := Lib.hid (show (∃ P', PD _ g P' s.wake ∧ ∀ k, P' k → P k ∨ w.heap.size ≤ k) ∧ Only P w _ from ⟨(h.turn (s' := s.wake) r2 o2 rfl rfl rfl rfl (fun _ => ⟨rfl, fun e => absurd e (by simp [D.wake])⟩) (D.wake_ok h.ok)).pd hP, o2.mono (fun k e => (hP k).2 (Or.inl e))⟩)
  clear h r1 r2 o1 o2 hP
  go_enter Try.func26, Try.ntmps26
  go_wp2_with fail
  go_end0
  exact ⟨rfl, H.out⟩
end Go.Proofs.Ytlkeobohcfbgcaa.Dk

/- An argument that is a list of texts, opened. -/
namespace Go.Proofs.Ytlkeobohcfbgcaa
open Go.ChangeShapes Go.WideShapes Go.ChangeAt Go.RowKit Go.Deep

/-- A list of texts, as the reading has it. -/
theorem open_texts {H : Type} {enc : TypeId × Value → H} {W : World} {base : Nat} {held : Bool} {fuel : Nat} {a0 : Option Addr} {len0 cap0 : Nat} {x : DataW H × List MemPlace}
    (h : DataW.trod enc Try.prog W base (fun _ => true) held fuel 35 (Value.slice a0 len0 cap0).cells.toList = some x) : (∃ L, Texts W a0 len0 cap0 L) ∧ len0 ≤ 9223372036854775807 := by
  rcases open_int_rows Try.underlying35 Try.underlying36 Try.underlying5 C22 C5 h with ⟨hcs, _⟩ | ⟨a, len, cap, A, L, C, Z, hcs, _, hl, hm, _, hx⟩
  · simp [Value.cells] at hcs
    obtain ⟨rfl, rfl, rfl⟩ := hcs
    exact ⟨⟨[], rfl, Nat.le_refl _, fun h => absurd rfl h⟩, by omega⟩
  · simp [Value.cells] at hcs
    obtain ⟨rfl, rfl, rfl⟩ := hcs
    refine ⟨⟨(List.range len0).map fun r => nats (Z r) (L r), by simp, hl, fun hn => ?_⟩, by unfold maxLen at hm; omega⟩
    have hp : 0 < len0 := by
      rcases Nat.eq_zero_or_pos len0 with h0 | h0
      · subst h0; exact absurd rfl hn
      · exact h0
    obtain ⟨g, o, spot⟩ := a
    have hspot : spot = none := by simpa [Addr.add] using World.cell?_spot (hx 0 (by omega)).1
    subst hspot
    refine ⟨g, o, rfl, fun i hi => ?_⟩
    have hi' : i < len0 := by simpa using hi
    obtain ⟨h1, h2, h3, h4, h5, h6, h7⟩ := hx i (by omega)
    refine ⟨A i, L i, C i, by rw [← Addr.add_mid]; exact h1, ?_⟩
    have e : ((List.range len0).map fun r => nats (Z r) (L r)).getD i [] = nats (Z i) (L i) := by
      simp [List.getD_eq_getElem?_getD, hi']
    rw [e]
    refine ⟨by simp [nats]; omega, h2, nats_ok h5 _, ?_, fun x hx hc => World.cell?_spot ((h7 x hx).2 0 hc)⟩
    cases hA : A i with
    | none => exact Or.inl ⟨rfl, h6 hA⟩
    | some a' =>
      refine Or.inr ⟨a', rfl, fun j u hu => ?_⟩
      obtain ⟨hj, rfl⟩ := nats_get h5 (L i) j (by omega) u hu
      exact (h7 a' hA).2 j (by omega)
end Go.Proofs.Ytlkeobohcfbgcaa

/- The reference's log: Read. -/
namespace Go.Proofs.Ytlkeobohcfbgcaa.Wl
open Go.RowKit

/-- Reading under way: so many records, and what is left to do. -/
def RdR (w w1 : World) (d : List Nat) (v i : Value) (wr : World) : Prop :=
  ∃ (R : List (List Nat)) (f at' k : Nat), k = R.length ∧ at' = size R R.length ∧ reads d = go d f R ∧ d.length < at' + 64 * f ∧ at' ≤ d.length ∧ i = .int .i64 (at' : Nat) ∧ wr.heap[w.heap.size]? = some (.cells (u8s (last R R.length)) 44 (0, 0)) ∧ Ls w1 wr v k R ∧ Below w.heap.size w wr ∧ w1.heap.size ≤ wr.heap.size ∧ (∀ b ∈ R, Sm.allB b)
theorem len_le_size (R : List (List Nat)) : ∀ k, 64 * k ≤ size R k
  | 0 => Nat.zero_le _
  | k + 1 => by have := len_le_size R k; have := need_pos (R.getD k []).length; rw [size]; omega
theorem sects_take (D : List Nat) (k : Nat) (b : List Nat) : (sects D k b).take 64 = head D k b := by
  rw [sects]
  exact List.take_left' (head_length D k b)
/-- What a call of Read leaves. -/
def RdPost (w : World) (d : List Nat) (e : Ending) (w' : World) : Prop :=
  Below w.heap.size w w' ∧ ((reads d = none ∧ e = .returned (.tuple #[.slice none 0 0, .bool false])) ∨ (∃ R q m cc, reads d = some R ∧ e = .returned (.tuple #[.slice q m cc, .bool true]) ∧ Texts w' q m cc R))
theorem go_no {d : List Nat} {R : List (List Nat)} {f : Nat} (h : next d R = .no) (hf : 0 < f) : go d f R = none := by
  obtain ⟨m, rfl⟩ : ∃ m, f = m + 1 := ⟨f - 1, by omega⟩
  rw [go, h]
theorem go_more {d : List Nat} {R : List (List Nat)} {f : Nat} {b : List Nat} (h : next d R = .more b) (hf : 0 < f) : go d f R = go d (f - 1) (R ++ [b]) := by
  obtain ⟨m, rfl⟩ : ∃ m, f = m + 1 := ⟨f - 1, by omega⟩
  rw [go, h]
  rfl
/-- A record's bytes under way. -/
def ByR (w5 : World) (d : List Nat) (at' m : Nat) (v i : Value) (wr : World) : Prop :=
  ∃ j : Nat, j ≤ m ∧ i = .int .i64 (j : Nat) ∧ Out w5 wr v j (recAt d at' j)
set_option maxRecDepth 100000 in
set_option maxHeartbeats 8000000 in
theorem rread_any (d : List Nat) (p : Option Addr) (n c : Nat) (w : World) (hT : Tx w p n c d) (hn : n ≤ 1000000) (h64 : n % 64 = 0) :
    Calls Try.prog 28 #[.slice p n c] w (RdPost w d) := by
  have hz := (zero_of_info Z25).1
  obtain ⟨i5, hi, hi0, hi1, hi2⟩ := info_parts I5
  have HI := Lib.hid hi
  have HI0 := Lib.hid hi0
  have HI1 := Lib.hid hi1
  have HI2 := Lib.hid hi2
  clear hi hi0 hi1 hi2
  have HT := Lib.hid hT
  have HN := Lib.hid hT.size
  have hnc := hT.le
  have H64 := Lib.hid h64
  clear hT h64
  have hb1 := (Below.refl w.heap.size w).alloc (Nat.le_refl _) (.cells (u8s (zeros 32)) 44)
  have hr1 := heap_alloc_new w (.cells (u8s (zeros 32)) 44)
  have hs1 : (w.alloc (.cells (u8s (zeros 32)) 44)).heap.size = w.heap.size + 1 := by simp
  go_enter Try.func28, Try.ntmps28
  go_wp2_with fail
  generalize w.alloc (.cells (u8s (zeros 32)) 44) = w1 at *
  have H0 := Lib.hid (show RdR w w1 d (.slice none 0 0) (.int .i64 0) w1 from ⟨[], d.length / 64 + 1, 0, 0, rfl, rfl, rfl, by omega, Nat.zero_le _, rfl, hr1, Ls.none w1, hb1, Nat.le_refl _, fun b hb => by cases hb⟩)
  have HS1 := Lib.hid hs1
  clear hz hb1 hr1 hs1
  go_loopw [4, 6] (fun v i wr => RdR w w1 d v i wr) (fun _ i _ => n - (intOf i).toNat)
  case atStart => exact H0.out
  case round =>
    obtain ⟨R, f, at', k, hk, hat, hgo, hf, hale, rfl, hr, hLs, hb, h1, hR⟩ := hrel
    have HK := Lib.hid hk
    have HAT := Lib.hid hat
    have HGO := Lib.hid hgo
    have HF := Lib.hid hf
    have HR := Lib.hid hr
    have HL := Lib.hid hLs
    have HB := Lib.hid hb
    have H1 := Lib.hid h1
    have HRO := Lib.hid hR
    have HM64 := Lib.hid (show at' % 64 = 0 from by rw [hat]; exact size_mod _ _)
    obtain ⟨ql, cl, rfl, hlc⟩ := hLs.form
    clear hk hat hgo hf hr hLs hb h1 hR H0
    by_cases hlt : at' < n
    · have l1 : (at' : Int) < n := by omega
      have HTB := Lib.hid (HT.out.later HB.out)
      have hh63 : at' + 63 < n := by have := HM64.out; have := H64.out; omega
      have q63 : IntKind.i64.wrap ((at' : Int) + 63) = (at' : Int) + 63 := IntWalk.i64_in _ (by omega)
      obtain ⟨g, o, rfl, hc63⟩ := tx_byte HTB.out (j := at' + 63) hh63
      have hcell : ∀ j, j < n → wr.cell? ⟨g, o + j, none⟩ = some (.int .u8 (d.getD j 0 : Nat)) := fun j hj => by
        obtain ⟨g', o', hp, hc⟩ := tx_byte HTB.out hj
        cases hp
        exact hc
      have HC := Lib.hid hcell
      clear hcell
      have i63 : (0 : Int) ≤ (at' : Int) + 63 ∧ (at' : Int) + 63 < n := by omega
      have hle8 : at' ≤ 1000000 := by omega
      by_cases hmk : d.getD (at' + 63) 0 = 1
      · have HMK := Lib.hid hmk
        rw [hmk] at hc63
        have HXB := Lib.hid (show d.getD (at' + 1) 0 < 256 ∧ d.getD (at' + 2) 0 < 256 ∧ d.getD (at' + 3) 0 < 256 from ⟨Sm.getD_lt HTB.out.ok (by omega) _, Sm.getD_lt HTB.out.ok (by omega) _, Sm.getD_lt HTB.out.ok (by omega) _⟩)
        have hc1 := HC.out (at' + 1) (by omega)
        have hc2 := HC.out (at' + 2) (by omega)
        have hc3 := HC.out (at' + 3) (by omega)
        have hLN : lenAt d at' = 65536 * d.getD (at' + 1) 0 + 256 * d.getD (at' + 2) 0 + d.getD (at' + 3) 0 := rfl
        have HNX := Lib.hid (show size R R.length < d.length ∧ d.getD (size R R.length + 63) 0 = 1 from by rw [← HAT.out]; exact ⟨by have := HN.out; omega, HMK.out⟩)
        clear hmk
        generalize d.getD (at' + 1) 0 = x1 at *
        generalize d.getD (at' + 2) 0 = x2 at *
        generalize d.getD (at' + 3) 0 = x3 at *
        have hx1 := HXB.out.1
        have hx2 := HXB.out.2.1
        have hx3 := HXB.out.2.2
        have u1 : IntKind.i64.wrap ((at' : Int) + 1) = (at' : Int) + 1 := IntWalk.i64_in _ (by omega)
        have u2 : IntKind.i64.wrap ((at' : Int) + 2) = (at' : Int) + 2 := IntWalk.i64_in _ (by omega)
        have u3 : IntKind.i64.wrap ((at' : Int) + 3) = (at' : Int) + 3 := IntWalk.i64_in _ (by omega)
        have v1 : IntKind.i64.wrap (65536 * (x1 : Int)) = 65536 * (x1 : Int) := IntWalk.i64_in _ (by omega)
        have v2 : IntKind.i64.wrap (256 * (x2 : Int)) = 256 * (x2 : Int) := IntWalk.i64_in _ (by omega)
        have v3 : IntKind.i64.wrap (65536 * (x1 : Int) + 256 * (x2 : Int)) = 65536 * (x1 : Int) + 256 * (x2 : Int) := IntWalk.i64_in _ (by omega)
        obtain ⟨N, hNd⟩ : ∃ N, N = lenAt d at' := ⟨_, rfl⟩
        have v4 : IntKind.i64.wrap (65536 * (x1 : Int) + 256 * (x2 : Int) + (x3 : Int)) = (N : Int) := by rw [hNd, hLN, IntWalk.i64_in _ (by omega)]; omega
        have w1' : IntKind.i64.wrap (x1 : Int) = (x1 : Int) := IntWalk.i64_in _ (by omega)
        have w2' : IntKind.i64.wrap (x2 : Int) = (x2 : Int) := IntWalk.i64_in _ (by omega)
        have w3' : IntKind.i64.wrap (x3 : Int) = (x3 : Int) := IntWalk.i64_in _ (by omega)
        have j1 : (0 : Int) ≤ (at' : Int) + 1 ∧ (at' : Int) + 1 < n := by omega
        have j2 : (0 : Int) ≤ (at' : Int) + 2 ∧ (at' : Int) + 2 < n := by omega
        have j3 : (0 : Int) ≤ (at' : Int) + 3 ∧ (at' : Int) + 3 < n := by omega
        have HND := Lib.hid hNd
        have hN8 : N ≤ 16777215 := by rw [hNd, hLN]; omega
        clear hNd hLN
        go_upto_region 5 with fail
        go_quiet (fail)
        have hbq : Below wr.heap.size wr (wr.drewN nq) := Below.drewN (Below.refl _ _) nq
        have HRQ := Lib.hid (show (wr.drewN nq).heap[w.heap.size]? = some (.cells (u8s (last R R.length)) 44 (0, 0)) from HR.out)
        have HLQ := Lib.hid (HL.out.later hbq)
        have HBQ := Lib.hid (HB.out.trans (hbq.mono HB.out.size))
        have H1Q := Lib.hid (show w1.heap.size ≤ (wr.drewN nq).heap.size from H1.out)
        have HTQ := Lib.hid (HTB.out.later hbq)
        clear hbq hc1 hc2 hc3 u1 u2 u3 v1 v2 v3 v4 w1' w2' w3' j1 j2 j3 hx1 hx2 hx3 HXB HR HL HB H1 HTB HC hc63 i63 q63 HMK
        generalize wr.drewN nq = wq at *
        have HFP := Lib.hid (show 0 < f from by have := HF.out; have := HN.out; omega)
        rw [HAT.out] at HND
        by_cases hbig : 100000 < N
        · have HE := Lib.hid (show reads d = none from by rw [HGO.out]; exact go_no (next_big HNX.out (Or.inl (by rw [← HND.out]; exact hbig))) HFP.out)
          have l2 : (N : Int) > 100000 := by omega
          clear hbig
          go_wp2_with fail
          go_ret2
          exact ⟨HBQ.out, Or.inl ⟨HE.out, rfl⟩⟩
        · have l2 : ¬ (N : Int) > 100000 := by omega
          have hN5 : N ≤ 100000 := by omega
          have HNI := Lib.hid (needI_nat hN5)
          have hnd : need N ≤ 1565 := by unfold need; omega
          have hnp := need_pos N
          generalize hnn : need N = nd at *
          have HNN := Lib.hid hnn
          clear hnn hbig
          have a1 : IntKind.i64.wrap (64 * (nd : Int)) = 64 * (nd : Int) := IntWalk.i64_in _ (by omega)
          have a2 : IntKind.i64.wrap ((at' : Int) + 64 * (nd : Int)) = (at' : Int) + 64 * (nd : Int) := IntWalk.i64_in _ (by omega)
          go_wp2_with fail
          refine (rneed_any N wq (by omega) (by omega)).mono ?_
          rintro e w6 ⟨rfl, rfl⟩
          rw [HNI.out]
          by_cases hend : n < at' + 64 * nd
          · have HE := Lib.hid (show reads d = none from by rw [HGO.out]; exact go_no (next_big HNX.out (Or.inr (by rw [← HND.out, HNN.out, ← HAT.out]; have := HN.out; omega))) HFP.out)
            have l3 : (at' : Int) + 64 * (nd : Int) > n := by omega
            clear hend
            go_wp2_with fail
            go_ret2
            exact ⟨HBQ.out, Or.inl ⟨HE.out, rfl⟩⟩
          · have l3 : ¬ (at' : Int) + 64 * (nd : Int) > n := by omega
            go_wp2_with fail
            go_loopw [8, 9] (fun v i wr => ByR w6 d at' N v i wr) (fun _ i _ => N - (intOf i).toNat)
            case atStart => exact ⟨0, Nat.zero_le _, rfl, Out.none w6⟩
            case round =>
              obtain ⟨j, hj, rfl, hO⟩ := hrel
              have HO := Lib.hid hO
              clear hO
              by_cases hjn : j < N
              · have l4 : (j : Int) < N := by omega
                have hbt : byteAt d at' j = if j < 19 then d.getD (at' + 12 + j) 0 else d.getD (at' + 64 + j - 19) 0 := rfl
                have HST := Lib.hid (recAt_succ d at' j)
                by_cases h19 : j < 19
                · have l5 : (j : Int) < 19 := by omega
                  rw [if_pos h19] at hbt
                  have q1 : IntKind.i64.wrap ((at' : Int) + 12) = (at' : Int) + 12 := IntWalk.i64_in _ (by omega)
                  have q2 : IntKind.i64.wrap ((at' : Int) + 12 + (j : Int)) = (at' : Int) + 12 + (j : Int) := IntWalk.i64_in _ (by omega)
                  have i3 : (0 : Int) ≤ (at' : Int) + 12 + (j : Int) ∧ (at' : Int) + 12 + (j : Int) < n := by omega
                  obtain ⟨g', o', hp', hc⟩ := tx_byte (HTQ.out.later HO.out.low) (j := at' + 12 + j) (by omega)
                  cases hp'
                  have hx8 : d.getD (at' + 12 + j) 0 < 256 := Sm.getD_lt HT.out.ok (by omega) _
                  rw [hbt] at HST
                  clear hbt
                  generalize d.getD (at' + 12 + j) 0 = x at *
                  have HBT := Lib.hid (show recAt d at' (j + 1) = recAt d at' j ++ [x] from HST.out)
                  clear HST
                  have HN1 := Lib.hid (heap_alloc_new wr (.cells (u8s [x]) 5))
                  have HOA := Lib.hid (HO.out.later ((Below.refl _ _).alloc (Nat.le_refl _) (.cells (u8s [x]) 5)))
                  go_wp2_with (at_builtin; refine wpList_append_own_at _ (by rfl) (.tmp 64) (.tmp 72) 36 (by rfl) _ 5 i5 (.int .u8 0) 1 1 A22 HI.out HI0.out HI1.out HI2.out (by rfl) (by decide) _ _ _ (by rfl) HOA.out.own ⟨wr.heap.size, 0, none⟩ 1 1 (vals [x]) (by rfl) (by rw [vals_length, Nat.mul_one]; rfl) (cells_of_row (L := [x]) HN1.out) (vals_one _) (by unfold maxLen; omega) (by omega) HOA.out.low.size ?_; intro v7 w7 hown7 hgrow7 _ _; have H7 := Lib.hid (HOA.out.put (byte_ok hx8) rfl hown7 hgrow7); clear hown7 hgrow7)
                  go_roundw
                  case rel => exact ⟨j + 1, by omega, by go_num, by have h := H7.out; rw [← HBT.out] at h; exact h⟩
                  case measure => simp [intOf]; omega
                · have l5 : ¬ (j : Int) < 19 := by omega
                  rw [if_neg h19] at hbt
                  obtain ⟨z, hzz⟩ : ∃ z, z = at' + 64 + j - 19 := ⟨_, rfl⟩
                  have hnj : j < 19 + 64 * (nd - 1) := by have := HNN.out; unfold need at this; omega
                  have hzn : z < n := by omega
                  rw [← hzz] at hbt
                  have q1 : IntKind.i64.wrap ((at' : Int) + 64) = (at' : Int) + 64 := IntWalk.i64_in _ (by omega)
                  have q2 : IntKind.i64.wrap ((at' : Int) + 64 + (j : Int)) = (at' : Int) + 64 + (j : Int) := IntWalk.i64_in _ (by omega)
                  have q3 : IntKind.i64.wrap ((at' : Int) + 64 + (j : Int) - 19) = (z : Int) := by rw [IntWalk.i64_in _ (by omega)]; omega
                  have i3 : (0 : Int) ≤ (z : Int) ∧ (z : Int) < n := by omega
                  obtain ⟨g', o', hp', hc⟩ := tx_byte (HTQ.out.later HO.out.low) (j := z) hzn
                  cases hp'
                  have hx8 : d.getD z 0 < 256 := Sm.getD_lt HT.out.ok (by omega) _
                  rw [hbt] at HST
                  clear hbt hzz
                  generalize d.getD z 0 = x at *
                  have HBT := Lib.hid (show recAt d at' (j + 1) = recAt d at' j ++ [x] from HST.out)
                  clear HST
                  have HN1 := Lib.hid (heap_alloc_new wr (.cells (u8s [x]) 5))
                  have HOA := Lib.hid (HO.out.later ((Below.refl _ _).alloc (Nat.le_refl _) (.cells (u8s [x]) 5)))
                  go_wp2_with (at_builtin; refine wpList_append_own_at _ (by rfl) (.tmp 74) (.tmp 83) 36 (by rfl) _ 5 i5 (.int .u8 0) 1 1 A22 HI.out HI0.out HI1.out HI2.out (by rfl) (by decide) _ _ _ (by rfl) HOA.out.own ⟨wr.heap.size, 0, none⟩ 1 1 (vals [x]) (by rfl) (by rw [vals_length, Nat.mul_one]; rfl) (cells_of_row (L := [x]) HN1.out) (vals_one _) (by unfold maxLen; omega) (by omega) HOA.out.low.size ?_; intro v7 w7 hown7 hgrow7 _ _; have H7 := Lib.hid (HOA.out.put (byte_ok hx8) rfl hown7 hgrow7); clear hown7 hgrow7)
                  go_roundw
                  case rel => exact ⟨j + 1, by omega, by go_num, by have h := H7.out; rw [← HBT.out] at h; exact h⟩
                  case measure => simp [intOf]; omega
              · obtain rfl : j = N := by omega
                have HBO := Lib.hid (show Sm.allB (recAt d at' j) ∧ (recAt d at' j).length = j from ⟨recAt_ok HT.out.ok _ _, recAt_length _ _ _⟩)
                obtain ⟨qb, cb, rfl⟩ := HO.out.form
                have HTXB := Lib.hid HO.out.tx
                have HAS := Lib.hid (show ∀ x, qb = some x → w6.heap.size ≤ x.block from fun x hx => (HO.out.own.lt x.block (by rw [hx]; rfl)).1)
                have HNB := Lib.hid (show ∀ x, qb = some x → (Value.slice ql k cl).ownBlock ≠ some x.block from fun x hx e => by
                  obtain ⟨_, hs, how, _⟩ := HLQ.out
                  have := (how.lt _ e).2
                  have := HAS.out x hx
                  omega)
                have HRI := Lib.hid ((HO.out.low.block _ (Array.getElem?_eq_some_iff.1 HRQ.out).1).trans HRQ.out)
                have HLI := Lib.hid (HLQ.out.later HO.out.low)
                have HBI := Lib.hid (HBQ.out.trans (HO.out.low.mono HBQ.out.size))
                have HTI := Lib.hid (HTQ.out.later HO.out.low)
                have HLW := Lib.hid HO.out.low
                have HBB := Lib.hid (show recAt d (size R R.length) (lenAt d (size R R.length)) = recAt d at' j from by rw [← HND.out, ← HAT.out])
                generalize recAt d at' j = b at *
                have HDL := Lib.hid (show (last R R.length).length = 32 ∧ Sm.allB (last R R.length) from ⟨last_length _ _, last_ok _ _⟩)
                have HLO := Lib.hid (show last (R ++ [b]) (R ++ [b]).length = rsum (last R R.length) k b from by rw [last_one, ← HK.out])
                have HSO := Lib.hid (show size (R ++ [b]) (R ++ [b]).length = at' + 64 * nd from by rw [size_one, ← HAT.out, HBO.out.2, HNN.out])
                have hk6 : k ≤ 100000 := by have := len_le_size R R.length; have := HAT.out; have := HK.out; omega
                have HYES := Lib.hid (show head (last R R.length) k b = (d.drop at').take 64 → reads d = go d (f - 1) (R ++ [b]) from fun h => by
                  rw [HGO.out, go_more (next_more HNX.out (by rw [← HND.out, HNN.out, ← HAT.out]; have := HN.out; omega) (by rw [HBB.out, ← HAT.out]; rw [HK.out] at h; exact h)) HFP.out, HBB.out])
                have HNO := Lib.hid (show ¬ head (last R R.length) k b = (d.drop at').take 64 → reads d = none from fun h => by
                  rw [HGO.out]
                  exact go_no (next_other HNX.out (by rw [HBB.out, ← HAT.out]; rw [HK.out] at h; exact h)) HFP.out)
                have HUD := Lib.hid (show (u8s (last R R.length)).size = 32 from by rw [u8s_size, last_length])
                clear HRQ HLQ HBQ HTQ HND HNX HBB HGO
                generalize hD : last R R.length = D at *
                clear hD
                obtain ⟨i6, hj, hj0, hj1, hj2⟩ := info_parts IH
                have HJ := Lib.hid hj
                have HJ0 := Lib.hid hj0
                have HJ1 := Lib.hid hj1
                have HJ2 := Lib.hid hj2
                clear hj hj0 hj1 hj2
                go_upto_region 16 with (first | (refine wpList_load_row (by rfl) 44 _ (by rfl) w.heap.size (by rfl) 44 _ (0, 0) _ HRI.out A25 (by rfl) (by rw [HUD.out]; exact S25) ?_) | (go_at_call 39; refine (rsects_any D k b qb j cb wr HDL.out.1 HDL.out.2 (by omega) HTXB.out hN5).mono ?_; rintro _ w15 hp; obtain ⟨q15, c15, rfl, h15, b15⟩ := hp))
                rw [sects_length, HBO.out.2, HNN.out] at h15 ⊢
                have T15 := tx_of_owns h15 (sects_ok D k HBO.out.1)
                obtain ⟨gw, ow, rfl, _⟩ := tx_byte T15 (j := 0) (by omega)
                have hc15 := T15.le
                have hTW := (T15.bytes.take 64 (by omega)).tx
                rw [sects_take] at hTW
                have TW := Lib.hid hTW
                have hTD := ((HTI.out.later b15).bytes.drop at' (by omega)).take 64 (by omega)
                have TD := Lib.hid hTD.tx
                have HR5 := Lib.hid ((b15.block _ (Array.getElem?_eq_some_iff.1 HRI.out).1).trans HRI.out)
                have HL5 := Lib.hid (HLI.out.later b15)
                have HB5 := Lib.hid (HBI.out.trans (b15.mono HBI.out.size))
                have HX5 := Lib.hid (HTXB.out.later b15)
                have HW5 := Lib.hid (Nat.le_trans HLW.out.size b15.size)
                have HQ5 := Lib.hid (show ∀ x, qb = some x → x.block < w15.heap.size from fun x hx => Nat.lt_of_lt_of_le (HO.out.own.lt x.block (by rw [hx]; rfl)).2 b15.size)
                clear T15 hTW hTD h15 b15 HRI HLI HBI HTI HTXB HLW HO
                have q4 : IntKind.i64.wrap ((at' : Int) + 64) = (at' : Int) + 64 := IntWalk.i64_in _ (by omega)
                have s1 : (64 : Int) ≤ c15 := by omega
                have s2 : (0 : Int) ≤ at' := by omega
                have s3 : (at' : Int) ≤ (at' : Int) + 64 := by omega
                have s4 : (at' : Int) + 64 ≤ c := by omega
                have s5 : ¬ c = at' := by omega
                have s6 : ((at' : Int) + 64).toNat = at' + 64 := by omega
                by_cases heq : head D k b = (d.drop at').take 64
                · have HY := Lib.hid (HYES.out heq)
                  rw [← heq] at TD
                  clear HYES HNO heq
                  generalize head D k b = hd at *
                  refine wp_region_held_drew (S := fun w' => Below w15.heap.size w15 w') (by kernel_rfl) (Below.refl _ _).drew (fun hHeld => ?_)
                  refine wpAnyH_take (i := 0) (oi := ⟨some 90, .move (.tmp 10), _, _, _, _⟩) (v := ?_) rfl (by kernel_rfl) (by kernel_rfl) (by kernel_rfl) (fun _ _ _ h => h) (Or.inl ⟨by rfl, ?_⟩) (by assumption) ?_
                  rotate_left
                  · intro w' hSw
                    go_simp
                    try with_reducible rfl
                  try simp only [Act.put, List.setIfInBounds_toArray, List.set_cons_zero, List.set_cons_succ]
                  refine wpAnyH_take (i := 1) (oi := ⟨some 91, .slice 36 (.tmp 90) none (some (.const (.int .i64 64))) none, _, _, _, _⟩) (v := ?_) rfl (by kernel_rfl) (by kernel_rfl) (by kernel_rfl) (fun _ _ _ h => h) (Or.inl ⟨by rfl, ?_⟩) (by assumption) ?_
                  rotate_left
                  · intro w' hSw
                    go_simp
                    try with_reducible rfl
                  try simp only [Act.put, List.setIfInBounds_toArray, List.set_cons_zero, List.set_cons_succ]
                  refine wpAnyH_take (i := 2) (oi := ⟨some 92, .convert 36 9 (.tmp 91), _, _, _, _⟩) (v := ?_) rfl (by kernel_rfl) (by kernel_rfl) (by kernel_rfl) (fun _ _ _ h => h) (Or.inl ⟨by rfl, ?_⟩) (by assumption) ?_
                  rotate_left
                  · intro w' hSw
                    have hcv := convert_tx (TW.out.later hSw)
                    go_simp
                    try with_reducible rfl
                  try simp only [Act.put, List.setIfInBounds_toArray, List.set_cons_zero, List.set_cons_succ]
                  refine wpAnyH_take (i := 3) (oi := ⟨some 93, .move (.tmp 0), _, _, _, _⟩) (v := ?_) rfl (by kernel_rfl) (by kernel_rfl) (by kernel_rfl) (fun _ _ _ h => h) (Or.inl ⟨by rfl, ?_⟩) (by assumption) ?_
                  rotate_left
                  · intro w' hSw
                    go_simp
                    try with_reducible rfl
                  try simp only [Act.put, List.setIfInBounds_toArray, List.set_cons_zero, List.set_cons_succ]
                  refine wpAnyH_take (i := 4) (oi := ⟨some 94, .move (.tmp 6), _, _, _, _⟩) (v := ?_) rfl (by kernel_rfl) (by kernel_rfl) (by kernel_rfl) (fun _ _ _ h => h) (Or.inl ⟨by rfl, ?_⟩) (by assumption) ?_
                  rotate_left
                  · intro w' hSw
                    go_simp
                    try with_reducible rfl
                  try simp only [Act.put, List.setIfInBounds_toArray, List.set_cons_zero, List.set_cons_succ]
                  refine wpAnyH_take (i := 5) (oi := ⟨some 95, .move (.tmp 6), _, _, _, _⟩) (v := ?_) rfl (by kernel_rfl) (by kernel_rfl) (by kernel_rfl) (fun _ _ _ h => h) (Or.inl ⟨by rfl, ?_⟩) (by assumption) ?_
                  rotate_left
                  · intro w' hSw
                    go_simp
                    try with_reducible rfl
                  try simp only [Act.put, List.setIfInBounds_toArray, List.set_cons_zero, List.set_cons_succ]
                  refine wpAnyH_take (i := 6) (oi := ⟨some 96, .binOp .add 3 (.tmp 95) (.const (.int .i64 64)) 3, _, _, _, _⟩) (v := ?_) rfl (by kernel_rfl) (by kernel_rfl) (by kernel_rfl) (fun _ _ _ h => h) (Or.inl ⟨by rfl, ?_⟩) (by assumption) ?_
                  rotate_left
                  · intro w' hSw
                    go_simp
                    try with_reducible rfl
                  try simp only [Act.put, List.setIfInBounds_toArray, List.set_cons_zero, List.set_cons_succ]
                  refine wpAnyH_take (i := 7) (oi := ⟨some 97, .slice 36 (.tmp 93) (some (.tmp 94)) (some (.tmp 96)) none, _, _, _, _⟩) (v := ?_) rfl (by kernel_rfl) (by kernel_rfl) (by kernel_rfl) (fun _ _ _ h => h) (Or.inl ⟨by rfl, ?_⟩) (by assumption) ?_
                  rotate_left
                  · intro w' hSw
                    go_simp
                    try with_reducible rfl
                  try simp only [Act.put, List.setIfInBounds_toArray, List.set_cons_zero, List.set_cons_succ]
                  refine wpAnyH_take (i := 8) (oi := ⟨some 98, .convert 36 9 (.tmp 97), _, _, _, _⟩) (v := ?_) rfl (by kernel_rfl) (by kernel_rfl) (by kernel_rfl) (fun _ _ _ h => h) (Or.inl ⟨by rfl, ?_⟩) (by assumption) ?_
                  rotate_left
                  · intro w' hSw
                    have hcv := convert_tx (TD.out.later hSw)
                    go_simp
                    try with_reducible rfl
                  try simp only [Act.put, List.setIfInBounds_toArray, List.set_cons_zero, List.set_cons_succ]
                  refine wpAnyH_take (i := 9) (oi := ⟨some 99, .binOp .neq 9 (.tmp 92) (.tmp 98) 9, _, _, _, _⟩) (v := ?_) rfl (by kernel_rfl) (by kernel_rfl) (by kernel_rfl) (fun _ _ _ h => h) (Or.inl ⟨by rfl, ?_⟩) (by assumption) ?_
                  rotate_left
                  · intro w' hSw
                    go_simp
                    try with_reducible rfl
                  try simp only [Act.put, List.setIfInBounds_toArray, List.set_cons_zero, List.set_cons_succ]
                  refine wpAnyH_done (by kernel_rfl) ?_ _
                  have HR6 := Lib.hid (show w15.drew.heap[w.heap.size]? = some (.cells (u8s D) 44 (0, 0)) from HR5.out)
                  have HL6 := Lib.hid (HL5.out.later (Below.refl _ _).drew)
                  have HB6 := Lib.hid (HB5.out.drew)
                  have HX6 := Lib.hid (HX5.out.later (Below.refl _ _).drew)
                  have HW6 := Lib.hid (show w6.heap.size ≤ w15.drew.heap.size from HW5.out)
                  have HQ6 := Lib.hid (show ∀ x, qb = some x → x.block < w15.drew.heap.size from HQ5.out)
                  clear hHeld TW TD HR5 HL5 HB5 HX5 HW5 HQ5 q4 s1 s2 s3 s4 s5 s6
                  generalize w15.drew = w16 at *
                  go_upto_region 19 with (first | (refine wpList_load_row (by rfl) 44 _ (by rfl) w.heap.size (by rfl) 44 _ (0, 0) _ HR6.out A25 (by rfl) (by rw [HUD.out]; exact S25) ?_) | (go_at_call 40; refine (rsum_any D k b qb j cb w16 HDL.out.1 HDL.out.2 (by omega) HX6.out hN5).mono ?_; rintro _ w17 ⟨rfl, b17⟩; have HR7 := Lib.hid ((b17.block _ (Array.getElem?_eq_some_iff.1 HR6.out).1).trans HR6.out); have HL7 := Lib.hid (HL6.out.later b17); have HB7 := Lib.hid (HB6.out.trans (b17.mono HB6.out.size)); have HX7 := Lib.hid (HX6.out.later b17); have HW7 := Lib.hid (Nat.le_trans HW6.out b17.size); have HQ7 := Lib.hid (fun x (hx : qb = some x) => Nat.lt_of_lt_of_le (HQ6.out x hx) b17.size); clear b17) | (refine wpList_store_row (by rfl) 44 _ _ (by rfl) w.heap.size (u8s (rsum D k b)) (by rfl) (by rfl) _ _ HR7.out (by exact S25) (by rw [HUD.out]; rfl) (u8s_one _) ?_))
                  have HR8 := Lib.hid (setRow_heap w17 w.heap.size (u8s D) (u8s (rsum D k b)) 44 _ HR7.out)
                  have HL8 := Lib.hid (HL7.out.setRow (g := w.heap.size) (by rw [HS1.out]; exact Nat.lt_succ_self _) (u8s (rsum D k b)))
                  have HB8 := Lib.hid (Below.setRow HB7.out (Nat.le_refl _) (u8s (rsum D k b)))
                  have hs8 : (w17.setRow w.heap.size (u8s (rsum D k b))).heap.size = w17.heap.size := by simp
                  have HX8 := Lib.hid (Dk.tx_keep HX7.out (w' := w17.setRow w.heap.size (u8s (rsum D k b))) (fun x hx _ => setRow_other _ _ _ _ (fun e => by have := HAS.out x hx; have := H1Q.out; have := HS1.out; omega)))
                  have HW8 := Lib.hid (show w6.heap.size ≤ (w17.setRow w.heap.size (u8s (rsum D k b))).heap.size from by rw [hs8]; exact HW7.out)
                  have HQ8 := Lib.hid (show ∀ x, qb = some x → x.block < (w17.setRow w.heap.size (u8s (rsum D k b))).heap.size from by rw [hs8]; exact HQ7.out)
                  clear HR7 HL7 HB7 HX7 HW7 HQ7 hs8 HR6 HL6 HB6 HX6 HW6 HQ6
                  generalize w17.setRow w.heap.size (u8s (rsum D k b)) = w18 at *
                  have hb19 := (Below.refl w18.heap.size w18).alloc (Nat.le_refl _) (.cells #[.slice qb j cb] 36)
                  obtain ⟨hlen, hs, how, hall⟩ := HL8.out.later hb19
                  have HOW := Lib.hid how
                  have HALL := Lib.hid hall
                  have HLEN := Lib.hid hlen
                  have HR9 := Lib.hid ((hb19.block _ (Array.getElem?_eq_some_iff.1 HR8.out).1).trans HR8.out)
                  have HB9 := Lib.hid (HB8.out.trans (hb19.mono HB8.out.size))
                  have HX9 := Lib.hid (HX8.out.later hb19)
                  have HW9 := Lib.hid (show w1.heap.size ≤ (w18.alloc (.cells #[.slice qb j cb] 36)).heap.size from Nat.le_trans H1Q.out (Nat.le_trans HW8.out hb19.size))
                  have HQ9 := Lib.hid (show ∀ x, qb = some x → w1.heap.size ≤ x.block ∧ x.block < (w18.alloc (.cells #[.slice qb j cb] 36)).heap.size ∧ (Value.slice ql k cl).ownBlock ≠ some x.block from fun x hx => ⟨Nat.le_trans H1Q.out (HAS.out x hx), Nat.lt_of_lt_of_le (HQ8.out x hx) hb19.size, HNB.out x hx⟩)
                  have HBN := Lib.hid (show (w18.alloc (.cells #[.slice qb j cb] 36)).heap.size = w18.heap.size + 1 from by simp)
                  clear hb19 hlen how hall HL8 HR8 HB8 HX8 HW8 HQ8
                  go_wp2_with (first | (at_builtin; refine wpList_append_own_at _ (by rfl) (.tmp 105) (.tmp 107) 35 (by rfl) w1.heap.size 36 i6 (.slice none 0 0) 1 24 UL HJ.out HJ0.out HJ1.out HJ2.out (by rfl) (by decide) _ k _ (by rfl) HOW.out ⟨w18.heap.size, 0, none⟩ 1 1 [.slice qb j cb] (by rfl) (by rfl) (cell_one_new w18 _ _) (by simp [Value.oneCell']) (by unfold maxLen; omega) (by omega) HW9.out ?_; intro v7 w7 hown7 hgrow7 _ hat7; have HLP := Lib.hid (Ls.put (b := b) HLEN.out HOW.out HALL.out HX9.out HQ9.out hown7 hgrow7 hat7); have HG7 := Lib.hid hgrow7; clear hown7 hgrow7 hat7) | (go_at_call 10; refine (rneed_any j _ (by omega) (by omega)).mono ?_; rintro e w' ⟨rfl, rfl⟩; rw [HNI.out]))
                  go_roundw
                  case rel =>
                    refine ⟨R ++ [b], f - 1, at' + 64 * nd, k + 1, by rw [List.length_append, HK.out]; rfl, HSO.out.symm, HY.out, by have := HF.out; have := HFP.out; omega, by have := HN.out; omega, by rw [show ((at' + 64 * nd : Nat) : Int) = (at' : Int) + 64 * (nd : Int) from by omega], ?_, HLP.out, ?_, ?_, ?_⟩
                    · rw [HLO.out]
                      exact (HG7.out.block w.heap.size (Array.getElem?_eq_some_iff.1 HR9.out).1 (fun e => by have := (HOW.out.lt _ e.symm).1; have := HS1.out; omega)).trans HR9.out
                    · exact HB9.out.grown HG7.out HB9.out.size (fun g hg => by have := (HOW.out.lt g hg).1; have := HS1.out; omega)
                    · exact Nat.le_trans HW9.out HG7.out.size
                    · intro x hx
                      rcases List.mem_append.1 hx with hx | hx
                      · exact HRO.out x hx
                      · simp only [List.mem_cons, List.not_mem_nil, or_false] at hx
                        rw [hx]
                        exact HBO.out.1
                  case measure => simp [intOf]; omega
                · have HNE := Lib.hid (HNO.out heq)
                  have hst := str_eq TW.out.ok TD.out.ok
                  rw [decide_eq_false heq] at hst
                  have HSTR := Lib.hid hst
                  clear HYES HNO heq hst
                  generalize head D k b = hd at *
                  generalize (d.drop at').take 64 = hd2 at *
                  refine wp_region_held_drew (S := fun w' => Below w15.heap.size w15 w') (by kernel_rfl) (Below.refl _ _).drew (fun hHeld => ?_)
                  refine wpAnyH_take (i := 0) (oi := ⟨some 90, .move (.tmp 10), _, _, _, _⟩) (v := ?_) rfl (by kernel_rfl) (by kernel_rfl) (by kernel_rfl) (fun _ _ _ h => h) (Or.inl ⟨by rfl, ?_⟩) (by assumption) ?_
                  rotate_left
                  · intro w' hSw
                    go_simp
                    try with_reducible rfl
                  try simp only [Act.put, List.setIfInBounds_toArray, List.set_cons_zero, List.set_cons_succ]
                  refine wpAnyH_take (i := 1) (oi := ⟨some 91, .slice 36 (.tmp 90) none (some (.const (.int .i64 64))) none, _, _, _, _⟩) (v := ?_) rfl (by kernel_rfl) (by kernel_rfl) (by kernel_rfl) (fun _ _ _ h => h) (Or.inl ⟨by rfl, ?_⟩) (by assumption) ?_
                  rotate_left
                  · intro w' hSw
                    go_simp
                    try with_reducible rfl
                  try simp only [Act.put, List.setIfInBounds_toArray, List.set_cons_zero, List.set_cons_succ]
                  refine wpAnyH_take (i := 2) (oi := ⟨some 92, .convert 36 9 (.tmp 91), _, _, _, _⟩) (v := ?_) rfl (by kernel_rfl) (by kernel_rfl) (by kernel_rfl) (fun _ _ _ h => h) (Or.inl ⟨by rfl, ?_⟩) (by assumption) ?_
                  rotate_left
                  · intro w' hSw
                    have hcv := convert_tx (TW.out.later hSw)
                    go_simp
                    try with_reducible rfl
                  try simp only [Act.put, List.setIfInBounds_toArray, List.set_cons_zero, List.set_cons_succ]
                  refine wpAnyH_take (i := 3) (oi := ⟨some 93, .move (.tmp 0), _, _, _, _⟩) (v := ?_) rfl (by kernel_rfl) (by kernel_rfl) (by kernel_rfl) (fun _ _ _ h => h) (Or.inl ⟨by rfl, ?_⟩) (by assumption) ?_
                  rotate_left
                  · intro w' hSw
                    go_simp
                    try with_reducible rfl
                  try simp only [Act.put, List.setIfInBounds_toArray, List.set_cons_zero, List.set_cons_succ]
                  refine wpAnyH_take (i := 4) (oi := ⟨some 94, .move (.tmp 6), _, _, _, _⟩) (v := ?_) rfl (by kernel_rfl) (by kernel_rfl) (by kernel_rfl) (fun _ _ _ h => h) (Or.inl ⟨by rfl, ?_⟩) (by assumption) ?_
                  rotate_left
                  · intro w' hSw
                    go_simp
                    try with_reducible rfl
                  try simp only [Act.put, List.setIfInBounds_toArray, List.set_cons_zero, List.set_cons_succ]
                  refine wpAnyH_take (i := 5) (oi := ⟨some 95, .move (.tmp 6), _, _, _, _⟩) (v := ?_) rfl (by kernel_rfl) (by kernel_rfl) (by kernel_rfl) (fun _ _ _ h => h) (Or.inl ⟨by rfl, ?_⟩) (by assumption) ?_
                  rotate_left
                  · intro w' hSw
                    go_simp
                    try with_reducible rfl
                  try simp only [Act.put, List.setIfInBounds_toArray, List.set_cons_zero, List.set_cons_succ]
                  refine wpAnyH_take (i := 6) (oi := ⟨some 96, .binOp .add 3 (.tmp 95) (.const (.int .i64 64)) 3, _, _, _, _⟩) (v := ?_) rfl (by kernel_rfl) (by kernel_rfl) (by kernel_rfl) (fun _ _ _ h => h) (Or.inl ⟨by rfl, ?_⟩) (by assumption) ?_
                  rotate_left
                  · intro w' hSw
                    go_simp
                    try with_reducible rfl
                  try simp only [Act.put, List.setIfInBounds_toArray, List.set_cons_zero, List.set_cons_succ]
                  refine wpAnyH_take (i := 7) (oi := ⟨some 97, .slice 36 (.tmp 93) (some (.tmp 94)) (some (.tmp 96)) none, _, _, _, _⟩) (v := ?_) rfl (by kernel_rfl) (by kernel_rfl) (by kernel_rfl) (fun _ _ _ h => h) (Or.inl ⟨by rfl, ?_⟩) (by assumption) ?_
                  rotate_left
                  · intro w' hSw
                    go_simp
                    try with_reducible rfl
                  try simp only [Act.put, List.setIfInBounds_toArray, List.set_cons_zero, List.set_cons_succ]
                  refine wpAnyH_take (i := 8) (oi := ⟨some 98, .convert 36 9 (.tmp 97), _, _, _, _⟩) (v := ?_) rfl (by kernel_rfl) (by kernel_rfl) (by kernel_rfl) (fun _ _ _ h => h) (Or.inl ⟨by rfl, ?_⟩) (by assumption) ?_
                  rotate_left
                  · intro w' hSw
                    have hcv := convert_tx (TD.out.later hSw)
                    go_simp
                    try with_reducible rfl
                  try simp only [Act.put, List.setIfInBounds_toArray, List.set_cons_zero, List.set_cons_succ]
                  refine wpAnyH_take (i := 9) (oi := ⟨some 99, .binOp .neq 9 (.tmp 92) (.tmp 98) 9, _, _, _, _⟩) (v := ?_) rfl (by kernel_rfl) (by kernel_rfl) (by kernel_rfl) (fun _ _ _ h => h) (Or.inl ⟨by rfl, ?_⟩) (by assumption) ?_
                  rotate_left
                  · intro w' hSw
                    have hst := HSTR.out
                    go_simp
                    try with_reducible rfl
                  try simp only [Act.put, List.setIfInBounds_toArray, List.set_cons_zero, List.set_cons_succ]
                  refine wpAnyH_done (by kernel_rfl) ?_ _
                  go_wp2_with fail
                  go_ret2
                  exact ⟨HB5.out.trans (hHeld.mono HB5.out.size), Or.inl ⟨HNE.out, rfl⟩⟩
      · have hmk' : ((d.getD (at' + 63) 0 : Nat) : Int) ≠ 1 := by omega
        have HE := Lib.hid (show reads d = some R from by
          rw [HGO.out]
          exact go_stop (next_stop (fun e => hmk (by have := e.2; rwa [← HAT.out] at this))) _)
        generalize d.getD (at' + 63) 0 = mk at *
        have hmb : ((mk : Int) == 1) = false := by simp; omega
        clear hmk
        go_wp2_with fail
        go_ret2
        exact ⟨HB.out, Or.inr ⟨R, ql, k, cl, HE.out, rfl, HL.out.texts⟩⟩
    · obtain rfl : at' = n := by have := HN.out; omega
      have l1 : ¬ (at' : Int) < at' := by omega
      have HE := Lib.hid (show reads d = some R from by
        rw [HGO.out]
        exact go_stop (next_stop (fun e => by have := HAT.out; have := HN.out; omega)) _)
      go_wp2_with fail
      go_ret2
      exact ⟨HB.out, Or.inr ⟨R, ql, k, cl, HE.out, rfl, HL.out.texts⟩⟩
end Go.Proofs.Ytlkeobohcfbgcaa.Wl

/- The law WalReads: its disk, written sector by sector. -/
namespace Go.Proofs.Ytlkeobohcfbgcaa.Wl
open Go.RowKit

theorem xor_byte (x y : Nat) (hx : x < 256) (hy : y < 256) : ∃ z : Nat, bits .xor .u8 (x : Int) (y : Int) = (z : Int) ∧ z < 256 := by
  refine ⟨x ^^^ y, ?_, Nat.xor_lt_two_pow (n := 8) hx hy⟩
  exact u8_xor_nat x y (by omega) (by omega)
/-- A byte is written over. -/
theorem out_set {w0 w : World} {g n c : Nat} {B : List Nat} (h : Out w0 w (.slice (some ⟨g, 0, none⟩) n c) n B) (j : Nat) {x : Nat} (hx : x < 256) (_hj : j < n) : Out w0 (w.setCell ⟨g, j, none⟩ (.int .u8 (x : Nat))) (.slice (some ⟨g, 0, none⟩) n c) n (B.set j x) := by
  have hlt := h.own.lt g rfl
  refine ⟨by rw [List.length_set]; exact h.len, ⟨?_, ?_⟩, set_ok h.ok j x hx, h.low.setCell hlt.1 _⟩
  · rw [vals_length, List.length_set, ← h.len, Nat.mul_one]
  · rcases h.own.2 with ⟨e, _⟩ | ⟨g', cap, cur, e, hb, hh, hc, hm, hs, ht⟩
    · cases e
    · cases e
      refine Or.inr ⟨g, c, _, rfl, hb, heap_setCell_same w g j _ _ (.int .u8 (x : Nat)) hh, hc, hm, by rw [Array.size_setIfInBounds]; exact hs, ?_⟩
      rw [Array.toList_setIfInBounds, List.take_set, ht, vals_set]
theorem out_at0 {w0 w : World} {q : Option Addr} {n c : Nat} {B : List Nat} (h : Out w0 w (.slice q n c) n B) (hn : n ≠ 0) : ∃ g, q = some ⟨g, 0, none⟩ := by
  rcases h.own.2 with ⟨e, h0⟩ | ⟨g, cap, cur, e, _⟩
  · exact absurd h0 hn
  · cases e; exact ⟨g, rfl⟩
end Go.Proofs.Ytlkeobohcfbgcaa.Wl

/- The law WalReads: plain parts, its loops' relations. -/
namespace Go.Proofs.Ytlkeobohcfbgcaa.Wl
open Go.RowKit

theorem go_inv {d : List Nat} : ∀ (f : Nat) (R R' : List (List Nat)), go d f R = some R' → (∀ b ∈ R, b.length ≤ 100000) → size R R.length ≤ d.length → (∀ b ∈ R', b.length ≤ 100000) ∧ size R' R'.length ≤ d.length
  | 0, R, R', h, h1, h2 => by
    cases h
    exact ⟨h1, h2⟩
  | f + 1, R, R', h, h1, h2 => by
    rw [go] at h
    cases hn : next d R with
    | no => rw [hn] at h; cases h
    | stop =>
      rw [hn] at h
      cases h
      exact ⟨h1, h2⟩
    | more b =>
      rw [hn] at h
      have hb : b.length ≤ 100000 ∧ size R R.length + 64 * need b.length ≤ d.length := by
        unfold next at hn
        split at hn
        · split at hn
          · cases hn
          · next hbig =>
            split at hn
            · cases hn
              rw [recAt_length]
              omega
            · cases hn
        · cases hn
      refine go_inv f (R ++ [b]) R' h (fun x hx => ?_) (by rw [size_one]; exact hb.2)
      rcases List.mem_append.1 hx with hx | hx
      · exact h1 x hx
      · simp only [List.mem_cons, List.not_mem_nil, or_false] at hx
        rw [hx]
        exact hb.1
theorem reads_inv {d : List Nat} {R : List (List Nat)} (h : reads d = some R) : (∀ b ∈ R, b.length ≤ 100000) ∧ size R R.length ≤ d.length :=
  go_inv _ [] R h (fun b hb => by cases hb) (Nat.zero_le _)
theorem size_300 (L : List (List Nat)) (h : ∀ j, j < L.length → (L.getD j []).length ≤ 300) : ∀ k, k ≤ L.length → size L k ≤ k * 384
  | 0, _ => by simp [size]
  | k + 1, hk => by
    have := size_300 L h k (by omega)
    have hl := h k (by omega)
    have : 64 * need (L.getD k []).length ≤ 384 := by unfold need; omega
    rw [size]
    omega
theorem mem_300 {L : List (List Nat)} (h : ∀ j, j < L.length → (L.getD j []).length ≤ 300) : ∀ b ∈ L, b.length ≤ 100000 := fun b hb => by
  obtain ⟨j, hj, rfl⟩ := List.mem_iff_getElem.1 hb
  have := h j hj
  rw [List.getD_eq_getElem?_getD, List.getElem?_eq_getElem hj] at this
  simp only [Option.getD_some] at this
  omega
def LenR (w1 : World) (n : Nat) (L : List (List Nat)) (i : Value) (wr : World) : Prop :=
  ∃ k : Nat, k ≤ n ∧ i = .int .i64 k ∧ (∀ j, j < k → (L.getD j []).length ≤ 300) ∧ wr = w1
def PadR (w1 : World) (v : Value) (wr : World) : Prop :=
  ∃ (n : Nat) (q : Option Addr) (c : Nat) (B : List Nat), v = .slice q n c ∧ n ≤ 6400 ∧ Out w1 wr v n B
/-- The disk under way: so many sectors are written. -/
structure Rw (w1 wr : World) (gd : Nat) (P : Nat → Prop) (s : Dk.D) (q : Option Addr) (n c : Nat) (B : List Nat) (N k : Nat) : Prop where
  disk : Dk.PD wr gd P s
  own : ∀ k, P k → w1.heap.size ≤ k
  out : Out w1 wr (.slice q n c) n B
  off : ∀ x, q = some x → ¬ P x.block
  dead : s.dead = false
  left : s.left = -1
  n : s.n = N
  L : s.L = B.take (64 * k) ++ zeros (64 * (N - k))
  writes : s.writes = k
theorem out_only {w0 w w' : World} {q : Option Addr} {n c : Nat} {B : List Nat} {P : Nat → Prop} (h : Out w0 w (.slice q n c) n B) (ho : Dk.Only P w w') (hoff : ∀ x, q = some x → ¬ P x.block) (hown : ∀ k, P k → w0.heap.size ≤ k) : Out w0 w' (.slice q n c) n B :=
  ⟨h.len, owns_keep h.own (fun g hg => by
    obtain ⟨x, hx, hxg⟩ : ∃ x, q = some x ∧ x.block = g := by
      cases q with
      | none => cases hg
      | some x => exact ⟨x, rfl, by simpa [Value.ownBlock] using hg⟩
    rw [← hxg]
    exact ho.block _ (h.own.lt _ (by rw [hx]; rfl)).2 (hoff x hx)), h.ok, h.low.trans (ho.below h.low.size hown)⟩
/-- One more sector. -/
theorem Rw.write {w1 wr w' : World} {gd : Nat} {P P' : Nat → Prop} {s : Dk.D} {q : Option Addr} {n c : Nat} {B : List Nat} {N k : Nat} (h : Rw w1 wr gd P s q n c B N k) (hk : k < N) (hB : B.length = 64 * N) (hd : Dk.PD w' gd P' (s.write k ((B.drop (64 * k)).take 64))) (hp : ∀ k, P' k → P k ∨ wr.heap.size ≤ k) (ho : Dk.Only P wr w') : s.says k 64 = 0 ∧ ∃ s', Rw w1 w' gd P' s' q n c B N (k + 1) := by
  have hl : ((B.drop (64 * k)).take 64).length = 64 := by rw [List.length_take, List.length_drop]; omega
  obtain ⟨_, h1, h2⟩ := write_alive h.dead (i := k) (B := (B.drop (64 * k)).take 64) (by rw [h.n]; exact hk) hl
  have hne : s.left ≠ 0 := by rw [h.left]; decide
  rw [if_neg hne] at h2
  rw [h1] at hd
  have hput : s.put k ((B.drop (64 * k)).take 64) = { s with L := Dk.over s.L (64 * k) ((B.drop (64 * k)).take 64), dead := false, writes := s.writes + 1 } := by
    simp only [Dk.D.put, Dk.D.many, if_neg hne, decide_eq_false hne, if_neg (show ¬ s.left > 0 by rw [h.left]; decide)]
    rw [List.take_of_length_le (by omega)]
  refine ⟨h2, _, hd, fun j hj => (hp j hj).elim (h.own j) (fun e => Nat.le_trans h.out.low.size e), out_only h.out ho h.off h.own, fun x hx hc => (hp _ hc).elim (h.off x hx) (fun e => absurd (h.out.own.lt x.block (by rw [hx]; rfl)).2 (Nat.not_lt.2 e)), by rw [hput], by rw [hput]; exact h.left, by rw [hput]; exact h.n, ?_, by rw [hput]; simp only; rw [h.writes]⟩
  rw [hput]
  simp only
  rw [h.L, over_at (by rw [List.length_take]; omega), hl, show 64 * (k + 1) = 64 * k + 64 from by omega, List.take_add]
  congr 1
  simp only [zeros, List.drop_replicate]
  congr 1
  omega
end Go.Proofs.Ytlkeobohcfbgcaa.Wl

/- Package disk, as it landed: Writes. -/
namespace Go.Proofs.Ytlkeobohcfbgcaa.Dk
open Go.RowKit

set_option maxRecDepth 100000 in
set_option maxHeartbeats 1000000 in
theorem writes_any {w : World} {g : Nat} {P : Nat → Prop} {s : D} (h : PD w g P s) :
    Calls Try.prog 29 #[.pointer (some ⟨g, 0, none⟩)] w fun e w' => e = .returned (.int .i64 s.writes) ∧ Below w.heap.size w w' := by
  obtain ⟨p, c, E, lit, whole, torn, h, hP⟩ := h
  have c5 := h.c5
  clear h hP
  go_enter Try.func29, Try.ntmps29
  go_wp2_with fail
  go_ret
  exact ⟨rfl, Below.refl _ _⟩
end Go.Proofs.Ytlkeobohcfbgcaa.Dk
