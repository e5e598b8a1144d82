/- ZrBlockMath, ZrUnl, ZpUnl, MorPut, MorMask, MorCode, MorPoint, ZpSmall, ZpSplit, ZpBlock, ZrSkip, BoxHas, ZpSkipH. -/
import Derived.Test.YtbhpmigblkaihaaM4
/- What a block is: between its corners' codes no code lies outside it. -/
namespace Go.Proofs.Ytbhpmigblkaihaa.Zr
open Go.RowKit Go.Proofs.Ytbhpmigblkaihaa.Mo Zm Mm
theorem rlo_bit {g : Nat → Nat} (hg : ∀ i, g i < 2) (n d i : Nat) (hi : i < 64 * d) : cbit (rlo g n d) i = (if i < n then g i else 0) ∧ cbit (rhi g n d) i = (if i < n then g i else 1) := by
  have hd : 0 < d := by omega
  have hk : i % d < d := Nat.mod_lt _ hd
  have hl : i / d < 64 := div_lt (by omega)
  have e : i / d * d + i % d = i := by
    have := Nat.div_add_mod i d
    rw [Nat.mul_comm] at this
    exact this
  have p0 := bin_lt (pad_lt (fun l => hg (l * d + i % d)) (fun l => decide (l * d + i % d < n)) (b := 0) (by omega)) 64
  have p1 := bin_lt (pad_lt (fun l => hg (l * d + i % d)) (fun l => decide (l * d + i % d < n)) (b := 1) (by omega)) 64
  have c0 := cbit_at (rlo g n d) (i / d) (i % d) (by rw [rlo_length]; exact hk)
  have c1 := cbit_at (rhi g n d) (i / d) (i % d) (by rw [rhi_length]; exact hk)
  rw [rlo_length, e, rlo_get _ _ _ _ hk] at c0
  rw [rhi_length, e, rhi_get _ _ _ _ hk] at c1
  have z0 := z64_in (rlo_in hg n d) (i % d)
  have z1 := z64_in (rhi_in hg n d) (i % d)
  rw [rlo_get _ _ _ _ hk] at z0
  rw [rhi_get _ _ _ _ hk] at z1
  have b0 := bin_bit (pad_lt (fun l => hg (l * d + i % d)) (fun l => decide (l * d + i % d < n)) (b := 0) (by omega)) 64 (i / d) hl
  have b1 := bin_bit (pad_lt (fun l => hg (l * d + i % d)) (fun l => decide (l * d + i % d < n)) (b := 1) (by omega)) 64 (i / d) hl
  rw [show 64 - 1 - i / d = 63 - i / d from by omega] at b0 b1
  have q0 : Cm.z64 ((bin (pad (fun l => g (l * d + i % d)) (fun l => decide (l * d + i % d < n)) 0) 64 : Nat) - 9223372036854775808) = bin (pad (fun l => g (l * d + i % d)) (fun l => decide (l * d + i % d < n)) 0) 64 := by omega
  have q1 : Cm.z64 ((bin (pad (fun l => g (l * d + i % d)) (fun l => decide (l * d + i % d < n)) 1) 64 : Nat) - 9223372036854775808) = bin (pad (fun l => g (l * d + i % d)) (fun l => decide (l * d + i % d < n)) 1) 64 := by omega
  rw [q0, b0, pad_at, e] at c0
  rw [q1, b1, pad_at, e] at c1
  exact ⟨c0, c1⟩
theorem unl_true {L H : List Int} {t : Nat} (h : cbit L t ≠ cbit H t) : ∀ n, t < n → unl L H n = true
  | 0, hn => by omega
  | n + 1, hn => by
    show (unl L H n || decide (cbit L n ≠ cbit H n)) = true
    by_cases e : t = n
    · subst e
      rw [decide_eq_true h, Bool.or_true]
    · rw [unl_true h n (by omega), Bool.true_or]
theorem bok_at {L H : List Int} : ∀ n, bok L H n = true → ∀ i, i < n → unl L H (i + 1) = true → cbit L i = 0 ∧ cbit H i = 1
  | 0, _, i, hi, _ => by omega
  | n + 1, h, i, hi, hu => by
    have h' : (bok L H n && !(unl L H (n + 1) && (decide (cbit L n ≠ 0) || decide (cbit H n ≠ 1)))) = true := h
    rw [Bool.and_eq_true] at h'
    by_cases e : i = n
    · subst e
      have h2 := h'.2
      rw [hu, Bool.true_and] at h2
      simp at h2
      exact h2
    · exact bok_at n h'.1 i (by omega) hu
theorem block_in {L H P : List Int} (hL : inI L) (hH : inI H) (hP : inI P) (lH : H.length = L.length) (lP : P.length = L.length) (hb : bok L H (64 * L.length) = true)
    (h1 : Cm.cmpL (code L) (code P) ≤ 0) (h2 : Cm.cmpL (code P) (code H) ≤ 0) : inB L H P := by
  rcases first_unlike (cbit L) (cbit H) (64 * L.length) with e | ⟨n, hn, he, hne⟩
  · have hLH := bits_same hL hH lH.symm e
    subst hLH
    have hPL := cmp_eq hP hL lP h2 h1
    subst hPL
    exact fun k hk => ⟨Int.le_refl _, Int.le_refl _⟩
  · have hpre : ∀ i, i < n → cbit P i = cbit L i := by
      rcases first_unlike (cbit P) (cbit L) n with h | ⟨t, ht, hte, htn⟩
      · exact h
      · exfalso
        have a := cbit_lt P t
        have b := cbit_lt L t
        by_cases c : cbit P t < cbit L t
        · have := (lt_iff hP hL lP).2 ⟨t, by omega, hte, c⟩
          rw [Cm.cmpL_neg] at h1
          omega
        · have := (lt_iff hH hP (lH.trans lP.symm)).2 ⟨t, by omega, fun i hi => by rw [← he i (by omega)]; exact (hte i hi).symm, by rw [← he t ht]; omega⟩
          rw [Cm.cmpL_neg] at h2
          omega
    have hlo : rlo (cbit L) n L.length = L := bits_same (rlo_in (cbit_lt L) _ _) hL (rlo_length _ _ _) fun i hi => by
      rw [rlo_length] at hi
      rw [(rlo_bit (cbit_lt L) n L.length i hi).1]
      by_cases c : i < n
      · rw [if_pos c]
      · rw [if_neg c]
        exact (bok_at _ hb i hi (unl_true hne _ (by omega))).1.symm
    have hhi : rhi (cbit L) n L.length = H := bits_same (rhi_in (cbit_lt L) _ _) hH ((rhi_length _ _ _).trans lH.symm) fun i hi => by
      rw [rhi_length] at hi
      rw [(rlo_bit (cbit_lt L) n L.length i hi).2]
      by_cases c : i < n
      · rw [if_pos c]; exact he i c
      · rw [if_neg c]
        exact (bok_at _ hb i hi (unl_true hne _ (by omega))).2.symm
    have := (region_iff (cbit_lt L) hP (n := n) (by omega)).2 hpre
    rw [lP, hlo, hhi] at this
    exact this
theorem block_one {L H P : List Int} (hL : inI L) (hH : inI H) (hP : inI P) (lL : L.length = 1) (lH : H.length = 1) (lP : P.length = 1)
    (h1 : Cm.cmpL (code L) (code P) ≤ 0) (h2 : Cm.cmpL (code P) (code H) ≤ 0) : inB L H P := by
  intro k hk
  obtain rfl : k = 0 := by omega
  constructor
  · by_cases c : L.getD 0 0 ≤ P.getD 0 0
    · exact c
    · have h := code_mono hP hL (lP.trans lL.symm) (fun j hj => by
        obtain rfl : j = 0 := by omega
        omega)
      have e := cmp_eq hL hP (lL.trans lP.symm) h1 h
      subst e
      exact Int.le_refl _
  · by_cases c : P.getD 0 0 ≤ H.getD 0 0
    · exact c
    · have h := code_mono hH hP (lH.trans lP.symm) (fun j hj => by
        obtain rfl : j = 0 := by omega
        omega)
      have e := cmp_eq hP hH (lP.trans lH.symm) h2 h
      subst e
      exact Int.le_refl _
/-- Between a block's corners' codes lie just the codes of its points. -/
theorem block_iff {L H P : List Int} {d : Nat} (hL : inI L) (hH : inI H) (hP : inI P) (lL : d = L.length) (lH : d = H.length) (lP : P.length = d) (hb : blockB L H d d = true) :
    (Cm.cmpL (code L) (code P) ≤ 0 ∧ Cm.cmpL (code P) (code H) ≤ 0) ↔ inB L H P := by
  unfold blockB at hb
  rw [Bool.and_eq_true, Bool.or_eq_true, decide_eq_true_eq] at hb
  constructor
  · rintro ⟨h1, h2⟩
    rcases hb.2 with e | e
    · exact block_one hL hH hP (by omega) (by omega) (by omega) h1 h2
    · subst lL
      exact block_in hL hH hP lH.symm lP e h1 h2
  · intro h
    exact ⟨code_mono hL hP (by omega) (fun k hk => (h k (by omega)).1), code_mono hP hH (by omega) (fun k hk => (h k (by omega)).2)⟩
end Go.Proofs.Ytbhpmigblkaihaa.Zr

/- Plain: which side of a box its corners' highest unlike bit belongs to, and what that says of its parts and of blocks. -/
namespace Go.Proofs.Ytbhpmigblkaihaa.Zr
open Go.RowKit Go.Proofs.Ytbhpmigblkaihaa.Mo Zm Mm

/-- The side of the highest unlike bit so far, and how high it stands (0: there is none). -/
def ulk (L H : List Int) : Nat → Nat × Nat
  | 0 => (0, 0)
  | k + 1 => if (ulk L H k).2 < zt L H k then (k, zt L H k) else ulk L H k
theorem ulk_succ (L H : List Int) (k : Nat) : ulk L H (k + 1) = if (ulk L H k).2 < zt L H k then (k, zt L H k) else ulk L H k := rfl
theorem ulk_spec (L H : List Int) : ∀ k, (∀ i, i < k → zt L H i ≤ (ulk L H k).2) ∧ (ulk L H k = (0, 0) ∨ ((ulk L H k).1 < k ∧ zt L H (ulk L H k).1 = (ulk L H k).2 ∧ 0 < (ulk L H k).2 ∧ ∀ i, i < (ulk L H k).1 → zt L H i < (ulk L H k).2))
  | 0 => ⟨fun i hi => by omega, Or.inl rfl⟩
  | k + 1 => by
    obtain ⟨h1, h2⟩ := ulk_spec L H k
    rw [ulk_succ]
    by_cases c : (ulk L H k).2 < zt L H k
    · rw [if_pos c]
      refine ⟨fun i hi => ?_, Or.inr ⟨by show k < k + 1; omega, rfl, by show 0 < zt L H k; omega, fun i hi => Nat.lt_of_le_of_lt (h1 i hi) c⟩⟩
      by_cases e : i = k
      · subst e; exact Nat.le_refl _
      · exact Nat.le_of_lt (Nat.lt_of_le_of_lt (h1 i (by omega)) c)
    · rw [if_neg c]
      refine ⟨fun i hi => ?_, h2.imp id ?_⟩
      · by_cases e : i = k
        · subst e; omega
        · exact h1 i (by omega)
      · rintro ⟨a, b⟩
        exact ⟨by omega, b⟩
theorem ulk_max {L H : List Int} (hL : inI L) (hH : inI H) (k : Nat) : (ulk L H k).2 ≤ 64 := by
  rcases (ulk_spec L H k).2 with e | ⟨-, e, -, -⟩
  · rw [e]; decide
  · rw [← e]
    exact top_max (z64_in hL _).1 (z64_in hH _).1
theorem ulk_none {L H : List Int} (hL : inI L) (hH : inI H) (hl : L.length = H.length) (h : (ulk L H L.length).2 = 0) : L = H :=
  same_of_top hL hH hl fun i hi => by
    have := (ulk_spec L H L.length).1 i hi
    omega
/-- Where the corners are first unlike. -/
structure Way (L H : List Int) (s m n : Nat) : Prop where
  side : s < L.length
  bit : m ≤ 63
  at' : n = (63 - m) * L.length + s
  lt : n < 64 * L.length
  same : ∀ i, i < n → cbit L i = cbit H i
  ne : cbit L n ≠ cbit H n
  top : ∀ i, i < L.length → zt L H i ≤ m + 1
  low : ∀ i, i < s → zt L H i ≤ m
theorem way_of {L H : List Int} (hL : inI L) (hH : inI H) (hl : L.length = H.length) {s m : Nat} (h : ulk L H L.length = (s, m + 1)) : Way L H s m ((63 - m) * L.length + s) := by
  have hm := ulk_max hL hH L.length
  obtain ⟨h1, h2⟩ := ulk_spec L H L.length
  rw [h] at h1 h2 hm
  rcases h2 with e | ⟨e1, e2, -, e4⟩
  · simp at e
  · simp only at e1 e2 e4 h1 hm
    obtain ⟨w1, -, w3, w4⟩ := ahd_way hL hH hl e1 e2 h1 e4
    exact ⟨e1, by omega, rfl, w4, w1, w3, h1, fun i hi => by have := e4 i hi; omega⟩
/-- Of the upper part's numbers of the side: the first one. -/
def fst (x : Int) (m : Nat) : Int := x / 2 ^ m * 2 ^ m
theorem fst_nat (x : Int) (m z : Nat) (hz : (z : Int) = x + 9223372036854775808) (hm : m ≤ 63) : fst x m = ((z / 2 ^ m * 2 ^ m : Nat) : Int) - 9223372036854775808 := by
  unfold fst
  have hp : (2 : Int) ^ m ≠ 0 := Int.pow_ne_zero (by decide)
  have e : (9223372036854775808 : Int) = 2 ^ (63 - m) * 2 ^ m := by
    rw [← Int.pow_add, show 63 - m + m = 63 from by omega]
    rfl
  have hx : x = (z : Int) + (-(2 ^ (63 - m))) * 2 ^ m := by
    rw [Int.neg_mul, ← e]
    omega
  have hd : x / 2 ^ m = (z : Int) / 2 ^ m + -(2 ^ (63 - m)) := by
    conv => lhs; rw [hx]
    exact Int.add_mul_ediv_right _ _ hp
  rw [hd, Int.add_mul, Int.neg_mul, ← e]
  simp
  omega
theorem way_bit {L H : List Int} {s m n : Nat} (w : Way L H s m n) {P : List Int} (lP : P.length = L.length) : cbit P n = Cm.z64 (P.getD s 0) / 2 ^ m % 2 := by
  have := cbit_at P (63 - m) s (by rw [lP]; exact w.side)
  rw [lP, ← w.at', show 63 - (63 - m) = m from by have := w.bit; omega] at this
  exact this
theorem way_side {L H P : List Int} (b : BX L H) {s m n : Nat} (w : Way L H s m n) (hP : inI P) (lP : P.length = L.length) (hin : inB L H P) :
    (cbit P n = 0 ↔ P.getD s 0 < fst (H.getD s 0) m) := by
  have hs := w.side
  have c := corner_bit b.l b.h b.len b.le w.lt w.same w.ne
  rw [way_bit w rfl, way_bit w b.len] at c
  rw [way_bit w lP]
  have zL := z64_in b.l s
  have zH := z64_in b.h s
  have zP := z64_in hP s
  rw [fst_nat _ m _ zH.2 w.bit]
  have hb := hin s (by rw [lP]; exact hs)
  have ht := (top_le (m := m + 1) zL.1 zH.1 (by have := w.bit; omega)).1 (w.top s hs)
  have h1 : Cm.z64 (L.getD s 0) ≤ Cm.z64 (P.getD s 0) := by omega
  have h2 : Cm.z64 (P.getD s 0) ≤ Cm.z64 (H.getD s 0) := by omega
  have d1 := Nat.div_le_div_right (c := 2 ^ m) h1
  have d2 := Nat.div_le_div_right (c := 2 ^ m) h2
  rw [Nat.pow_succ, ← Nat.div_div_eq_div_mul, ← Nat.div_div_eq_div_mul] at ht
  have key : Cm.z64 (P.getD s 0) < Cm.z64 (H.getD s 0) / 2 ^ m * 2 ^ m ↔ Cm.z64 (P.getD s 0) / 2 ^ m < Cm.z64 (H.getD s 0) / 2 ^ m := (Nat.div_lt_iff_lt_mul (Nat.two_pow_pos m)).symm
  have zz : (P.getD s 0 < ((Cm.z64 (H.getD s 0) / 2 ^ m * 2 ^ m : Nat) : Int) - 9223372036854775808) ↔ Cm.z64 (P.getD s 0) < Cm.z64 (H.getD s 0) / 2 ^ m * 2 ^ m := by
    have := zP.2
    generalize Cm.z64 (H.getD s 0) / 2 ^ m * 2 ^ m = q at *
    omega
  rw [zz, key]
  generalize Cm.z64 (L.getD s 0) / 2 ^ m = x at *
  generalize Cm.z64 (P.getD s 0) / 2 ^ m = y at *
  generalize Cm.z64 (H.getD s 0) / 2 ^ m = z at *
  omega
theorem set_get (R : List Int) (k i : Nat) (x : Int) (hk : k < R.length) : (R.set k x).getD i 0 = if i = k then x else R.getD i 0 := by
  simp only [List.getD_eq_getElem?_getD, List.getElem?_set]
  by_cases h : k = i
  · subst h; simp [hk]
  · rw [if_neg h, if_neg (Ne.symm h)]
theorem set_in {R : List Int} (h : inI R) (k : Nat) (x : Int) (h1 : -9223372036854775808 ≤ x) (h2 : x ≤ 9223372036854775807) : inI (R.set k x) := fun y hy => by
  rcases List.mem_or_eq_of_mem_set hy with c | rfl
  · exact h y c
  · exact ⟨h1, h2⟩
/-- Boxes of the same points are the same. -/
theorem box_same {L H M N : List Int} (hL : inI L) (hH : inI H) (hM : inI M) (hN : inI N) (l1 : H.length = L.length) (l2 : M.length = L.length) (l3 : N.length = L.length)
    (le1 : ∀ k, k < L.length → L.getD k 0 ≤ H.getD k 0) (le2 : ∀ k, k < L.length → M.getD k 0 ≤ N.getD k 0) (h : ∀ P, inI P → P.length = L.length → (inB L H P ↔ inB M N P)) : L = M ∧ H = N := by
  have a := (h L hL rfl).1 fun k hk => ⟨Int.le_refl _, le1 k hk⟩
  have b := (h H hH l1).1 fun k hk => ⟨le1 k (by omega), Int.le_refl _⟩
  have c := (h M hM l2).2 fun k hk => ⟨Int.le_refl _, le2 k (by omega)⟩
  have d := (h N hN l3).2 fun k hk => ⟨le2 k (by omega), Int.le_refl _⟩
  constructor
  · refine ext_getI l2.symm fun i hi => ?_
    have := a i hi
    have := c i (by omega)
    omega
  · refine ext_getI (l1.trans l3.symm) fun i hi => ?_
    have := b i hi
    have := d i (by omega)
    omega
/-- Both parts of a box by its side. -/
structure Cuts (L H : List Int) (s : Nat) (f : Int) (n : Nat) : Prop where
  lo : L.getD s 0 < f
  hi : f ≤ H.getD s 0
  a1 : pLo L L n = L
  a2 : pHi L H L n = H.set s (f - 1)
  b1 : pLo L H n = L.set s f
  b2 : pHi L H H n = H
theorem cuts_of {L H : List Int} (b : BX L H) {s m n : Nat} (w : Way L H s m n) : Cuts L H s (fst (H.getD s 0) m) n := by
  have hs := w.side
  have c := corner_bit b.l b.h b.len b.le w.lt w.same w.ne
  have inL : inB L H L := fun k hk => ⟨Int.le_refl _, b.le k hk⟩
  have inH : inB L H H := fun k hk => ⟨b.le k (by have := b.len; omega), Int.le_refl _⟩
  have hlo := (way_side b w b.l rfl inL).1 c.1
  have hhi : fst (H.getD s 0) m ≤ H.getD s 0 := Int.not_lt.1 fun h => by
    have := (way_side b w b.h b.len inH).2 h
    omega
  have gL := inI_get b.l s
  have gH := inI_get b.h s
  have hsH : s < H.length := by rw [b.len]; exact hs
  obtain ⟨p1, p2⟩ := b.parts w.lt w.same
  have side := fun (P : List Int) (hP : inI P) (lP : P.length = L.length) (h : inB L H P) => way_side b w hP lP h
  have q := fun P hP lP => b.in_parts (P := P) hP lP w.lt w.same w.ne
  generalize fst (H.getD s 0) m = f at *
  have hset1 : inI (H.set s (f - 1)) := set_in b.h _ _ (by omega) (by omega)
  have hset2 : inI (L.set s f) := set_in b.l _ _ (by omega) (by omega)
  have x := box_same (M := L) (N := H.set s (f - 1)) p1.l p1.h b.l hset1 p1.len (by rw [pLo_length]) (by rw [pLo_length, List.length_set]; exact b.len) p1.le (fun k hk => by
    rw [pLo_length] at hk
    rw [set_get _ _ _ _ hsH]
    by_cases e : k = s
    · rw [if_pos e, e]; omega
    · rw [if_neg e]; exact b.le k hk) (fun P hP lP => by
    rw [pLo_length] at lP
    rw [(q P hP lP).1]
    constructor
    · rintro ⟨h1, h2⟩ k hk
      have := h1 k hk
      rw [set_get _ _ _ _ hsH]
      by_cases e : k = s
      · rw [if_pos e, e]
        rw [e] at this
        have := (side P hP lP h1).1 h2
        omega
      · rw [if_neg e]; exact this
    · intro h
      have h1 : inB L H P := fun k hk => by
        have := h k hk
        rw [set_get _ _ _ _ hsH] at this
        by_cases e : k = s
        · rw [if_pos e] at this
          rw [e] at this ⊢
          omega
        · rw [if_neg e] at this
          exact this
      refine ⟨h1, (side P hP lP h1).2 ?_⟩
      have := h s (by omega)
      rw [set_get _ _ _ _ hsH, if_pos rfl] at this
      omega)
  have y := box_same (M := L.set s f) (N := H) p2.l p2.h hset2 b.h p2.len (by rw [pLo_length, List.length_set]) (by rw [pLo_length]; exact b.len) p2.le (fun k hk => by
    rw [pLo_length] at hk
    rw [set_get _ _ _ _ hs]
    by_cases e : k = s
    · rw [if_pos e, e]; exact hhi
    · rw [if_neg e]; exact b.le k hk) (fun P hP lP => by
    rw [pLo_length] at lP
    rw [(q P hP lP).2]
    have hlt := cbit_lt P n
    constructor
    · rintro ⟨h1, h2⟩ k hk
      have := h1 k hk
      rw [set_get _ _ _ _ hs]
      by_cases e : k = s
      · rw [if_pos e, e]
        rw [e] at this
        have : ¬ P.getD s 0 < f := fun h => by
          have := (side P hP lP h1).2 h
          omega
        omega
      · rw [if_neg e]; exact this
    · intro h
      have h1 : inB L H P := fun k hk => by
        have := h k hk
        rw [set_get _ _ _ _ hs] at this
        by_cases e : k = s
        · rw [if_pos e] at this
          rw [e] at this ⊢
          omega
        · rw [if_neg e] at this
          exact this
      refine ⟨h1, ?_⟩
      have h3 : ¬ cbit P n = 0 := fun e => by
        have := (side P hP lP h1).1 e
        have := h s (by omega)
        rw [set_get _ _ _ _ hs, if_pos rfl] at this
        omega
      omega)
  exact ⟨hlo, hhi, x.1, x.2, y.1, y.2⟩
/-- All of the lowest bits are 0; are 1. -/
theorem low_bits (x : Nat) : ∀ c, ((∀ e, e < c → x / 2 ^ e % 2 = 0) ↔ x % 2 ^ c = 0) ∧ ((∀ e, e < c → x / 2 ^ e % 2 = 1) ↔ x % 2 ^ c = 2 ^ c - 1)
  | 0 => by simp [Nat.mod_one]
  | c + 1 => by
    obtain ⟨h0, h1⟩ := low_bits x c
    have hp := Nat.two_pow_pos c
    have hm : x % 2 ^ (c + 1) = x % 2 ^ c + 2 ^ c * (x / 2 ^ c % 2) := by rw [Nat.pow_succ]; exact Nat.mod_mul
    have hl := Nat.mod_lt x hp
    have ht := Nat.mod_lt (x / 2 ^ c) (show 2 > 0 by omega)
    constructor
    · constructor
      · intro h
        have a := h0.1 fun e he => h e (by omega)
        have b := h c (by omega)
        rw [hm, a, b]
        omega
      · intro h e he
        rw [hm] at h
        have hz : x / 2 ^ c % 2 = 0 := by
          rcases (show x / 2 ^ c % 2 = 0 ∨ x / 2 ^ c % 2 = 1 by omega) with t | t
          · exact t
          · rw [t] at h; omega
        rw [hz] at h
        by_cases c' : e = c
        · rw [c']; exact hz
        · exact h0.2 (by omega) e (by omega)
    · constructor
      · intro h
        have a := h1.1 fun e he => h e (by omega)
        have b := h c (by omega)
        rw [hm, a, b, Nat.pow_succ]
        omega
      · intro h e he
        rw [hm, Nat.pow_succ] at h
        have hz : x / 2 ^ c % 2 = 1 := by
          rcases (show x / 2 ^ c % 2 = 0 ∨ x / 2 ^ c % 2 = 1 by omega) with t | t
          · rw [t] at h; omega
          · exact t
        rw [hz] at h
        by_cases c' : e = c
        · rw [c']; exact hz
        · exact h1.2 (by omega) e (by omega)
/-- How many of a side's bits stand from the first unlike one on. -/
def cnt (s m k : Nat) : Nat := if k < s then m else m + 1
theorem unl_false {L H : List Int} : ∀ n, (∀ i, i < n → cbit L i = cbit H i) → unl L H n = false
  | 0, _ => rfl
  | n + 1, h => by
    show (unl L H n || decide (cbit L n ≠ cbit H n)) = false
    rw [unl_false n (fun i hi => h i (by omega)), Bool.false_or]
    simp [h n (by omega)]
theorem bok_of {L H : List Int} : ∀ n, (∀ i, i < n → unl L H (i + 1) = true → cbit L i = 0 ∧ cbit H i = 1) → bok L H n = true
  | 0, _ => rfl
  | n + 1, h => by
    show (bok L H n && !(unl L H (n + 1) && (decide (cbit L n ≠ 0) || decide (cbit H n ≠ 1)))) = true
    rw [bok_of n (fun i hi => h i (by omega)), Bool.true_and]
    cases e : unl L H (n + 1) with
    | false => rfl
    | true =>
      have := h n (by omega) e
      simp [this.1, this.2]
/-- A block's sides are as long as their bits allow. -/
def lenOk (L H : List Int) (s m k : Nat) : Prop := H.getD k 0 - L.getD k 0 = ((2 ^ cnt s m k : Nat) : Int) - 1
theorem block_sides {L H : List Int} (b : BX L H) {s m n : Nat} (w : Way L H s m n) : bok L H (64 * L.length) = true ↔ ∀ k, k < L.length → lenOk L H s m k := by
  have hb := w.bit
  have hs := w.side
  have each : ∀ k, k < L.length → (lenOk L H s m k ↔ ∀ l, l < 64 → 63 - l < cnt s m k → cbit L (l * L.length + k) = 0 ∧ cbit H (l * L.length + k) = 1) := fun k hk => by
    have zL := z64_in b.l k
    have zH := z64_in b.h k
    have hc : cnt s m k ≤ 64 := by unfold cnt; split <;> omega
    have ht : Cm.z64 (L.getD k 0) / 2 ^ cnt s m k = Cm.z64 (H.getD k 0) / 2 ^ cnt s m k := (top_le zL.1 zH.1 hc).1 (by
      unfold cnt
      split
      · exact w.low k (by assumption)
      · exact w.top k hk)
    have e1 := fun l (_ : l < 64) => cbit_at L l k hk
    have e2 := fun l (_ : l < 64) => cbit_at H l k (by rw [b.len]; exact hk)
    rw [b.len] at e2
    have b1 := low_bits (Cm.z64 (L.getD k 0)) (cnt s m k)
    have b2 := low_bits (Cm.z64 (H.getD k 0)) (cnt s m k)
    have all : (∀ l, l < 64 → 63 - l < cnt s m k → cbit L (l * L.length + k) = 0 ∧ cbit H (l * L.length + k) = 1) ↔ (Cm.z64 (L.getD k 0) % 2 ^ cnt s m k = 0 ∧ Cm.z64 (H.getD k 0) % 2 ^ cnt s m k = 2 ^ cnt s m k - 1) := by
      rw [← b1.1, ← b2.2]
      constructor
      · intro h
        refine ⟨fun e he => ?_, fun e he => ?_⟩
        · have := (h (63 - e) (by omega) (by omega)).1
          rw [e1 _ (by omega), show 63 - (63 - e) = e from by omega] at this
          exact this
        · have := (h (63 - e) (by omega) (by omega)).2
          rw [e2 _ (by omega), show 63 - (63 - e) = e from by omega] at this
          exact this
      · rintro ⟨h1, h2⟩ l hl hlc
        rw [e1 l hl, e2 l hl]
        exact ⟨h1 _ hlc, h2 _ hlc⟩
    rw [all]
    unfold lenOk
    have hp := Nat.two_pow_pos (cnt s m k)
    have m1 := Nat.div_add_mod (Cm.z64 (L.getD k 0)) (2 ^ cnt s m k)
    have m2 := Nat.div_add_mod (Cm.z64 (H.getD k 0)) (2 ^ cnt s m k)
    have l1 := Nat.mod_lt (Cm.z64 (L.getD k 0)) hp
    have l2 := Nat.mod_lt (Cm.z64 (H.getD k 0)) hp
    rw [ht] at m1
    have q1 := zL.2
    have q2 := zH.2
    generalize 2 ^ cnt s m k * (Cm.z64 (H.getD k 0) / 2 ^ cnt s m k) = a at *
    generalize Cm.z64 (L.getD k 0) % 2 ^ cnt s m k = x at *
    generalize Cm.z64 (H.getD k 0) % 2 ^ cnt s m k = y at *
    generalize 2 ^ cnt s m k = M at *
    omega
  have place : ∀ l k, k < L.length → l < 64 → (n ≤ l * L.length + k ↔ 63 - l < cnt s m k) := fun l k hk hl => by
    rw [w.at']
    unfold cnt
    constructor
    · intro h
      have : 63 - m ≤ l := Nat.le_of_not_lt fun c => by
        have : (l + 1) * L.length ≤ (63 - m) * L.length := Nat.mul_le_mul_right _ (by omega)
        rw [Nat.add_mul] at this
        omega
      split
      · rcases Nat.lt_or_eq_of_le this with c | c
        · omega
        · rw [← c] at h; omega
      · omega
    · intro h
      by_cases e : l = 63 - m
      · rw [e]
        split at h <;> omega
      · have hl2 : 63 - m + 1 ≤ l := by split at h <;> omega
        have : (63 - m + 1) * L.length ≤ l * L.length := Nat.mul_le_mul_right _ hl2
        rw [Nat.add_mul] at this
        omega
  constructor
  · intro h k hk
    refine (each k hk).2 fun l hl hc => ?_
    have hn := (place l k hk hl).2 hc
    have hlt := place_lt (l := l) (m := 64) hk hl
    exact bok_at _ h _ hlt (unl_true w.ne _ (by omega))
  · intro h
    refine bok_of _ fun i hi hu => ?_
    have hd : 0 < L.length := by omega
    have hk : i % L.length < L.length := Nat.mod_lt _ hd
    have hl : i / L.length < 64 := div_lt hi
    have e : i / L.length * L.length + i % L.length = i := by
      have := Nat.div_add_mod i L.length
      rw [Nat.mul_comm] at this
      exact this
    have hn : n ≤ i := Nat.le_of_not_lt fun c => by
      rw [unl_false (i + 1) (fun j hj => w.same j (by omega))] at hu
      cases hu
    have := (each _ hk).1 (h _ hk) (i / L.length) hl ((place _ _ hk hl).1 (by rw [e]; exact hn))
    rw [e] at this
    exact this
end Go.Proofs.Ytbhpmigblkaihaa.Zr

/- The program: zrange.unlike. -/
namespace Go.Proofs.Ytbhpmigblkaihaa.Zr
open Go.RowKit Go.Proofs.Ytbhpmigblkaihaa.Mo

def UnlPost (w : World) (L H : List Int) (d : Nat) (e : Ending) (w' : World) : Prop :=
  (((ulk L H d).2 = 0 ∧ e = .returned (.tuple #[.int .i64 0, .int .i64 0, .bool false])) ∨ (∃ s m : Nat, ulk L H d = (s, m + 1) ∧ e = .returned (.tuple #[.int .i64 s, .int .i64 m, .bool true]))) ∧ Below w.heap.size w w'
def RUn (w1 : World) (L H : List Int) (d : Nat) (sd pl i : Value) (wr : World) : Prop :=
  ∃ k : Nat, k ≤ d ∧ i = .int .i64 k ∧ sd = .int .i64 ((ulk L H k).1 : Nat) ∧ pl = .int .i64 ((ulk L H k).2 : Nat) ∧ wr = w1
set_option maxRecDepth 100000 in
set_option maxHeartbeats 4000000 in
theorem unlike_any (L H : List Int) (q1 q2 : Option Addr) (d c1 c2 : Nat) (w : World) (h1 : Ints w q1 d c1 L) (h2 : Ints w q2 d c2 H) (hd : d ≤ 8) :
    Calls Try.prog 34 #[.agg #[.slice q1 d c1, .slice q2 d c2]] w (UnlPost w L H d) := by
  have hb : Below w.heap.size w (w.alloc (.cells #[.slice q1 d c1, .slice q2 d c2] 26)) := (Below.refl _ _).alloc (Nat.le_refl _) _
  obtain ⟨e0, e1⟩ := pair_alloc w (.slice q1 d c1) (.slice q2 d c2) 26
  have H1 := Lib.hid (h1.later hb)
  have H2 := Lib.hid (h2.later hb)
  have HB := Lib.hid hb
  clear h1 h2 hb
  go_enter Try.func34, Try.ntmps34
  go_upto_region 2 with fail
  generalize w.alloc (.cells #[.slice q1 d c1, .slice q2 d c2] 26) = w1 at *
  go_wp2_with fail
  go_loopw [2, 5, 12] (fun sd pl i wr => RUn w1 L H d sd pl i wr) (fun _ _ i _ => d - (intOf i).toNat)
  case atStart => exact ⟨0, by omega, rfl, rfl, rfl, rfl⟩
  case round =>
    obtain ⟨k, hk, rfl, rfl, rfl, rfl⟩ := hrel
    by_cases hlt : k < d
    · obtain ⟨gx, o, rfl, hcx⟩ := H1.out.cell k hlt
      obtain ⟨gy, o2, rfl, hcy⟩ := H2.out.cell k hlt
      have i1 : (0 : Int) ≤ k ∧ (k : Int) < d := by omega
      have hx := Mm.inI_get H1.out.ok k
      have hy := Mm.inI_get H2.out.ok k
      have hxor := xor_z64 hx.1 hx.2 hy.1 hy.2
      have zx := (Mm.z64_in H1.out.ok k).1
      have zy := (Mm.z64_in H2.out.ok k).1
      have hz : Cm.z64 (L.getD k 0) ^^^ Cm.z64 (H.getD k 0) < 18446744073709551616 := Nat.xor_lt_two_pow (n := 64) zx zy
      have hs : ulk L H (k + 1) = if (ulk L H k).2 < Lib.bitLen (Cm.z64 (L.getD k 0) ^^^ Cm.z64 (H.getD k 0)) then (k, Lib.bitLen (Cm.z64 (L.getD k 0) ^^^ Cm.z64 (H.getD k 0))) else ulk L H k := rfl
      have HS := Lib.hid hs
      clear zx zy hs hx hy
      generalize Cm.z64 (L.getD k 0) ^^^ Cm.z64 (H.getD k 0) = z at *
      generalize L.getD k 0 = x at *
      generalize H.getD k 0 = y at *
      go_wp2_with fail
      refine (len64_nat z hz _).mono ?_
      rintro e w5 ⟨rfl, rfl⟩
      obtain ⟨sd0, pl0, hul⟩ : ∃ a b, ulk L H k = (a, b) := ⟨_, _, rfl⟩
      rw [hul] at HS ⊢
      clear hul hxor
      generalize Lib.bitLen z = t at *
      by_cases hgt : pl0 < t
      · have g1 : (pl0 : Int) < t := by omega
        go_wp2_with fail
        go_roundw
        case rel => exact ⟨k + 1, by omega, by go_num, by rw [HS.out, if_pos hgt], by rw [HS.out, if_pos hgt], rfl⟩
        case measure => simp [intOf]; omega
      · have g1 : ¬ (pl0 : Int) < t := by omega
        go_wp2_with fail
        go_roundw
        case rel => exact ⟨k + 1, by omega, by go_num, by rw [HS.out, if_neg hgt], by rw [HS.out, if_neg hgt], rfl⟩
        case measure => simp [intOf]; omega
    · obtain rfl : k = d := by omega
      obtain ⟨sd0, pl0, hul⟩ : ∃ a b, ulk L H k = (a, b) := ⟨_, _, rfl⟩
      have HU := Lib.hid hul
      have hmx := ulk_max H1.out.ok H2.out.ok k
      rw [hul] at hmx ⊢
      simp only at hmx
      clear hul
      by_cases h0 : pl0 = 0
      · subst h0
        go_wp2_with fail
        go_ret3
        exact ⟨Or.inl ⟨by rw [HU.out], rfl⟩, HB.out⟩
      · obtain ⟨m, rfl⟩ : ∃ m, pl0 = m + 1 := ⟨pl0 - 1, by omega⟩
        have g1 : ¬ ((m + 1 : Nat) : Int) = 0 := by omega
        have g2 : (((m + 1 : Nat) : Int) == 0) = false := by simpa using g1
        go_wp2_with fail
        go_ret3
        exact ⟨Or.inr ⟨sd0, m, HU.out, congrArg (fun i => Ending.returned (.tuple #[.int .i64 sd0, .int .i64 i, .bool true])) (by go_num)⟩, HB.out⟩
end Go.Proofs.Ytbhpmigblkaihaa.Zr

/- morton.put: a bit is put into a row of bytes. -/
namespace Go.Proofs.Ytbhpmigblkaihaa.Mo
open Go.RowKit

theorem u8s_put (B : List Nat) (k x : Nat) : (u8s B).setIfInBounds k (.int .u8 (x : Nat)) = u8s (B.set k x) := by
  apply Array.ext'
  simp [u8s, List.map_set]
/-- What put leaves. -/
structure PutPost (w : World) (g : Nat) (B : List Nat) (w' : World) : Prop where
  row : w'.heap[g]? = some (.cells (u8s B) 5 (0, 0))
  grown : w.grownBy w' (some g)
theorem put_bits (x b r : Nat) (hx : x < 256) (hb : b < 2) (hr : r < 8) : bits .or .u8 (x : Int) ((b : Int) * 2 ^ r % 256) = ((x ||| b * 2 ^ r : Nat) : Int) := by
  have h1 : b * 2 ^ r < 256 := by
    have : 2 ^ r ≤ 2 ^ 7 := Nat.pow_le_pow_right (by omega) (by omega)
    rcases (show b = 0 ∨ b = 1 from by omega) with rfl | rfl <;> omega
  have h2 : (b : Int) * 2 ^ r % 256 = ((b * 2 ^ r : Nat) : Int) := by
    have : ((b * 2 ^ r : Nat) : Int) = (b : Int) * 2 ^ r := by simp
    omega
  rw [h2]
  exact u8_or_nat x (b * 2 ^ r) hx h1
set_option maxRecDepth 100000 in
set_option maxHeartbeats 1000000 in
theorem put_any (B : List Nat) (g n c p b : Nat) (w : World) (hg : w.heap[g]? = some (.cells (u8s B) 5 (0, 0))) (hB : Sm.allB B) (hn : B.length = n) (hp : p < 8 * n) (hb : b < 2) (hbig : n ≤ 1000) :
    Calls Try.prog 51 #[.slice (some ⟨g, 0, none⟩) n c, .int .i64 p, .int .u8 b] w fun e w' => e = .returned (.tuple #[]) ∧ PutPost w g (B.set (p / 8) (B.getD (p / 8) 0 ||| b * 2 ^ (7 - p % 8))) w' := by
  have hl : p / 8 < B.length := by omega
  have hc := u8s_cell hg (p / 8) hl
  have hf : w.frozen? ⟨g, p / 8, none⟩ = false := frozen_of_row w g _ _ _ hg
  have hx := Sm.getD_lt hB (by omega) (p / 8)
  have hs := heap_setCell_same w g (p / 8) _ _ (.int .u8 (B.getD (p / 8) 0 ||| b * 2 ^ (7 - p % 8) : Nat)) hg
  rw [u8s_put] at hs
  have HS := Lib.hid hs
  have HV := Lib.hid (put_bits (B.getD (p / 8) 0) b (7 - p % 8) hx hb (by omega))
  have HL := Lib.hid hn
  clear hs hg hB hn hl
  generalize B.getD (p / 8) 0 = x at *
  have i1 : (0 : Int) ≤ (p : Int) / 8 ∧ (p : Int) / 8 < n := by omega
  have i2 : ((p : Int) / 8).toNat = p / 8 := by omega
  go_enter Try.func51, Try.ntmps51
  go_wp2_with fail
  have q0 : (p : Int).tmod 8 = (p : Int) % 8 := Int.tmod_eq_emod_of_nonneg (by omega)
  have q1 : IntKind.i64.wrap ((p : Int) / 8) = (p : Int) / 8 := IntWalk.i64_in _ (by omega)
  have q2 : IntKind.i64.wrap (7 - (p : Int) % 8) = 7 - (p : Int) % 8 := IntWalk.i64_in _ (by omega)
  have q3 : (7 - (p : Int) % 8).toNat = 7 - p % 8 := by omega
  have q4 : (0 : Int) ≤ 7 - (p : Int) % 8 := by omega
  go_still_tail 12, (by kernel_rfl)
  clear q0 q1 q2 q3 q4
  go_wp2_with fail
  go_end0
  refine ⟨rfl, ?_⟩
  rw [HV.out]
  have hg := grown_setCell w g (p / 8) (.int .u8 (x ||| b * 2 ^ (7 - p % 8) : Nat))
  exact ⟨HS.out, hg.os, hg.tape, hg.output, hg.size, hg.block⟩
theorem put_at (B : List Nat) (g n c p b : Nat) (ip ib : Int) (w : World) (hg : w.heap[g]? = some (.cells (u8s B) 5 (0, 0))) (hB : Sm.allB B) (hn : B.length = n) (hp : p < 8 * n) (hb : b < 2) (hbig : n ≤ 1000) (hip : ip = (p : Nat)) (hib : ib = (b : Nat)) :
    Calls Try.prog 51 #[.slice (some ⟨g, 0, none⟩) n c, .int .i64 ip, .int .u8 ib] w fun e w' => e = .returned (.tuple #[]) ∧ PutPost w g (B.set (p / 8) (B.getD (p / 8) 0 ||| b * 2 ^ (7 - p % 8))) w' := by
  subst hip
  subst hib
  exact put_any B g n c p b w hg hB hn hp hb hbig
end Go.Proofs.Ytbhpmigblkaihaa.Mo

/- Plain: a code whose bits are put one by one, number by number. No program is named here. -/
namespace Go.Proofs.Ytbhpmigblkaihaa.Mm
/-- The code's bits of the first k numbers, and the first l bits of the next one. -/
def msk (R : List Int) (k l : Nat) : Nat → Nat := fun t => if t % R.length < k ∨ (t % R.length = k ∧ t / R.length < l) then cbit R t else 0
theorem msk_lt (R : List Int) (k l t : Nat) : msk R k l t < 2 := by
  unfold msk; split
  · exact cbit_lt R t
  · omega
theorem bin_zero : ∀ n, bin (fun _ => 0) n = 0
  | 0 => rfl
  | n + 1 => by rw [bin_succ, bin_zero n]
theorem msk_zero (R : List Int) (n : Nat) : bytesOf (msk R 0 0) n = List.replicate n 0 := by
  have e : msk R 0 0 = fun _ => 0 := by
    funext t; unfold msk
    generalize t / R.length = q
    rw [if_neg (by omega)]
  rw [e]
  apply List.ext_getElem (by rw [bytesOf_length, List.length_replicate])
  intro i h1 h2
  rw [List.getElem_replicate]
  simp only [bytesOf, List.getElem_map]
  exact bin_zero 8
theorem msk_free {R : List Int} {k l : Nat} (hk : k < R.length) : msk R k l (l * R.length + k) = 0 := by
  obtain ⟨a, b⟩ := mul_place (l := l) hk
  unfold msk
  rw [a, b, if_neg (by omega)]
theorem msk_step {R : List Int} {k l : Nat} (hk : k < R.length) (t : Nat) : msk R k (l + 1) t = upd (msk R k l) (l * R.length + k) (cbit R (l * R.length + k)) t := by
  obtain ⟨a, b⟩ := mul_place (l := l) hk
  unfold upd
  by_cases h : t = l * R.length + k
  · subst h
    rw [if_pos rfl]
    unfold msk
    rw [a, b, if_pos (by omega)]
  · rw [if_neg h]
    unfold msk
    have h2 : ¬ (t % R.length = k ∧ t / R.length = l) := by
      rintro ⟨e1, e2⟩
      have := Nat.div_add_mod t R.length
      rw [e1, e2, Nat.mul_comm] at this
      exact h this.symm
    by_cases c : t % R.length < k ∨ (t % R.length = k ∧ t / R.length < l)
    · rw [if_pos c, if_pos (by omega)]
    · rw [if_neg c, if_neg (by omega)]
theorem msk_put {R : List Int} {k l : Nat} (hk : k < R.length) (hl : l < 64) :
    (bytesOf (msk R k l) (8 * R.length)).set ((l * R.length + k) / 8) ((bytesOf (msk R k l) (8 * R.length)).getD ((l * R.length + k) / 8) 0 ||| Cm.z64 (R.getD k 0) / 2 ^ (63 - l) % 2 * 2 ^ (7 - (l * R.length + k) % 8)) = bytesOf (msk R k (l + 1)) (8 * R.length) := by
  have hp := place_lt hk hl
  rw [← cbit_at R l k hk, ← bytesOf_upd (msk_lt R k l) _ _ _ (by omega) (msk_free hk) (cbit_lt R _)]
  exact bytesOf_congr _ fun i _ => (msk_step hk i).symm
theorem msk_row (R : List Int) (k : Nat) : bytesOf (msk R k 64) (8 * R.length) = bytesOf (msk R (k + 1) 0) (8 * R.length) := by
  apply bytesOf_congr
  intro t ht
  have := div_lt (i := t) (d := R.length) (m := 64) (by omega)
  unfold msk
  generalize t / R.length = q at *
  by_cases c : t % R.length ≤ k
  · rw [if_pos (by omega), if_pos (by omega)]
  · rw [if_neg (by omega), if_neg (by omega)]
theorem msk_end (R : List Int) : bytesOf (msk R R.length 0) (8 * R.length) = code R := by
  apply bytesOf_congr
  intro t ht
  have : t % R.length < R.length := Nat.mod_lt _ (by omega)
  unfold msk
  rw [if_pos (Or.inl this)]
end Go.Proofs.Ytbhpmigblkaihaa.Mm

/- morton.Code. -/
namespace Go.Proofs.Ytbhpmigblkaihaa.Mo
open Go.RowKit

theorem make_u8 (m : Nat) (hm : m ≤ 1000) (w : World) : (Instr.makeSlice 22 (.int .i64 m) (.int .i64 m)).run Try.prog w = .ok (.slice (some ⟨w.heap.size, 0, none⟩) m m) (w.alloc (.cells (u8s (zeros m)) 5)) := by
  obtain ⟨i5, hi, hi0, hi1, hi2⟩ := info_parts I5
  have := run_make (P := Try.prog) w 22 5 i5 _ A22 hi hi0 .i64 .i64 m m (by omega) (by omega) (by rw [hi2]; omega) (by omega)
  rw [this, hi1]
  simp only [Int.toNat_natCast, Nat.mul_one, made_zeros]
/-- What is told of a code: bytes of its own. -/
def CodePost (w : World) (n : Nat) (B : List Nat) (e : Ending) (w' : World) : Prop :=
  ∃ g, e = .returned (.tuple #[.slice (some ⟨g, 0, none⟩) (8 * n : Nat) (8 * n : Nat), .int .i64 0]) ∧ w.heap.size ≤ g ∧ w'.heap[g]? = some (.cells (u8s B) 5 (0, 0)) ∧ Below w.heap.size w w'
theorem code_no (p : Option Addr) (n c : Nat) (w : World) (h : n < 1 ∨ 8 < n) (hn : n ≤ 9223372036854775807) :
    Calls Try.prog 46 #[.slice p n c] w fun e w' => e = .returned (.tuple #[.slice none 0 0, .int .i64 1]) ∧ w' = w := by
  go_enter Try.func46, Try.ntmps46
  go_wp2_with fail
  refine (dim_no n (by omega) _).mono ?_
  rintro e w' ⟨rfl, rfl⟩
  go_wp2_with fail
  go_ret2
  exact ⟨rfl, rfl⟩
theorem bit_u64 (z j : Nat) (hz : z < 18446744073709551616) : IntKind.u8.wrap (bits .and .u64 ((z : Int) / 2 ^ j) 1) = ((z / 2 ^ j % 2 : Nat) : Int) := by
  have h1 : z / 2 ^ j < 18446744073709551616 := Nat.lt_of_le_of_lt (Nat.div_le_self _ _) hz
  have h2 : ((z : Int) / 2 ^ j) = ((z / 2 ^ j : Nat) : Int) := by simp
  have h3 : bits .and .u64 ((z / 2 ^ j : Nat) : Int) 1 = ((z / 2 ^ j &&& 1 : Nat) : Int) := by
    have := u64_and_nat (z / 2 ^ j) 1 h1 (by omega)
    exact this
  rw [h2, h3, Nat.and_one_is_mod, IntKind.wrap_u8']
  omega
def COut (R : List Int) (w1 : World) (g n : Nat) (i : Value) (wr : World) : Prop :=
  ∃ k : Nat, k ≤ n ∧ i = .int .i64 k ∧ PutPost w1 g (Mm.bytesOf (Mm.msk R k 0) (8 * n)) wr
def CIn (R : List Int) (w1 : World) (g n k : Nat) (i : Value) (wr : World) : Prop :=
  ∃ l : Nat, l ≤ 64 ∧ i = .int .i64 l ∧ PutPost w1 g (Mm.bytesOf (Mm.msk R k l) (8 * n)) wr
set_option maxRecDepth 100000 in
set_option maxHeartbeats 4000000 in
theorem code_any (R : List Int) (p : Option Addr) (n c : Nat) (w : World) (h : Ints w p n c R) (h1 : 1 ≤ n) (h8 : n ≤ 8) :
    Calls Try.prog 46 #[.slice p n c] w (CodePost w n (Mm.code R)) := by
  have M1 := make_u8 (8 * n) (by omega) w
  rw [show ((8 * n : Nat) : Int) = 8 * (n : Int) from by omega] at M1
  have hsz := h.size
  have hbe := (Below.refl w.heap.size w).alloc (Nat.le_refl _) (.cells (u8s (zeros (8 * n))) 5)
  have hR := Lib.hid h
  have hrow : PutPost (w.alloc (.cells (u8s (zeros (8 * n))) 5)) w.heap.size (Mm.bytesOf (Mm.msk R 0 0) (8 * n)) (w.alloc (.cells (u8s (zeros (8 * n))) 5)) := by
    rw [hsz, Mm.msk_zero, ← hsz]
    exact ⟨heap_alloc_new w _, rfl, rfl, rfl, Nat.le_refl _, fun _ _ _ => rfl⟩
  have HIN := Lib.hid (show Mm.inI R from h.ok)
  have HSZ := Lib.hid hsz
  clear h hsz
  go_enter Try.func46, Try.ntmps46
  go_wp2_with fail
  refine (dim_yes n (by omega) (by omega) _).mono ?_
  rintro e w' ⟨rfl, rfl⟩
  go_upto_region 4 with fail
  have hlt : w'.heap.size < (w'.alloc (.cells (u8s (zeros (8 * n))) 5)).heap.size := by simp
  generalize w'.alloc (.cells (u8s (zeros (8 * n))) 5) = w1 at *
  obtain ⟨g, hg⟩ : ∃ g, g = w'.heap.size := ⟨_, rfl⟩
  rw [← hg] at hrow hlt ⊢
  have HG := Lib.hid hg
  have HROW := Lib.hid hrow
  have HLT := Lib.hid hlt
  have HBE := Lib.hid hbe
  clear hrow hg M1 hlt hbe
  go_wp2_with fail
  go_loopw [19] (fun i wr => COut R w1 g n i wr) (fun i _ => n - (intOf i).toNat)
  case atStart => exact ⟨0, by omega, rfl, HROW.out⟩
  case round =>
    obtain ⟨k, hk, rfl, hp⟩ := hrel
    have HP := Lib.hid hp
    clear hp HROW
    by_cases hlt : k < n
    · have hb1 : Below w'.heap.size w' wr := grown_below HBE.out HP.out.grown (by rw [HG.out]; exact Nat.le_refl _)
      have hR1 := hR.out.later hb1
      obtain ⟨gx, o, rfl, hcx⟩ := hR1.cell k hlt
      clear hR1 hb1
      have i1 : (0 : Int) ≤ k ∧ (k : Int) < n := by omega
      have hin := Mm.inI_get HIN.out k
      have hsg := Cm.sign_int hin.1 hin.2
      have hz := Cm.z64_lt hin.1 hin.2
      have HST := Lib.hid (fun l hl => Mm.msk_put (R := R) (k := k) (l := l) (by rw [← HSZ.out]; exact hlt) hl)
      generalize R.getD k 0 = x at *
      replace hz := hz.1
      generalize Cm.z64 x = z at *
      clear hin
      go_upto_region 8 with fail
      clear hsg hcx
      go_wp2_with fail
      go_loopw [27] (fun i wr => CIn R w1 g n k i wr) (fun i _ => 64 - (intOf i).toNat)
      case atStart => exact ⟨0, by omega, rfl, HP.out⟩
      case round =>
        obtain ⟨l, hl, rfl, hp⟩ := hrel
        have HQ := Lib.hid hp
        clear hp HP
        by_cases hll : l < 64
        · have m0 : (0 : Int) ≤ (l : Int) * n := Int.mul_nonneg (by omega) (by omega)
          have m1 : l * n + k < 64 * n := Mm.place_lt hlt hll
          have m2 : ((l * n + k : Nat) : Int) = (l : Int) * n + k := by simp
          have m3 : (l : Int) * n + k < 64 * n := by omega
          have HM := Lib.hid m2
          clear m2
          go_upto_region 11 with fail
          go_wp2_with fail
          refine (put_at _ g (8 * n) (8 * n) (l * n + k) (z / 2 ^ (63 - l) % 2) _ _ wr HQ.out.row (Mm.bytesOf_ok (Mm.msk_lt R k l) _) (Mm.bytesOf_length _ _) (by omega) (Nat.mod_lt _ (by omega)) (by omega) HM.out.symm ?hb).mono ?_
          case hb => exact bit_u64 z (63 - l) hz
          rintro e w5 ⟨rfl, hq⟩
          have HQ2 := Lib.hid hq
          clear hq
          go_wp2_with fail
          go_roundw
          case rel =>
            have hst := HST.out l hll
            rw [← HSZ.out] at hst
            exact ⟨l + 1, by omega, by go_num, by rw [← hst]; exact HQ2.out.row, grown_twice HQ.out.grown HQ2.out.grown⟩
          case measure => simp [intOf]; omega
        · obtain rfl : l = 64 := by omega
          have hrow := Mm.msk_row R k
          rw [← HSZ.out] at hrow
          have HE := Lib.hid hrow
          clear hrow
          go_wp2_with fail
          go_roundw
          case rel => exact ⟨k + 1, by omega, by go_num, by rw [← HE.out]; exact HQ.out⟩
          case measure => simp [intOf]; omega
    · obtain rfl : k = n := by omega
      have hb1 : Below w'.heap.size w' wr := grown_below HBE.out HP.out.grown (by rw [HG.out]; exact Nat.le_refl _)
      have hend := Mm.msk_end R
      rw [← HSZ.out] at hend
      have hrow := HP.out.row
      rw [hend] at hrow
      have HR1 := Lib.hid hrow
      have HB1 := Lib.hid hb1
      clear hend hrow hb1
      go_wp2_with fail
      go_ret2
      exact ⟨g, by rfl, by rw [HG.out]; exact Nat.le_refl _, HR1.out, HB1.out⟩
end Go.Proofs.Ytbhpmigblkaihaa.Mo

/- morton.Point. -/
namespace Go.Proofs.Ytbhpmigblkaihaa.Mo
open Go.RowKit

/-- The first k of a point's numbers. -/
def ptk (B : List Nat) (d k : Nat) : List Int := (List.range d).map fun j => if j < k then Mm.numAt (Mm.bitOf B) d j else 0
theorem ptk_length (B : List Nat) (d k : Nat) : (ptk B d k).length = d := by simp [ptk]
theorem ptk_get (B : List Nat) (d k j : Nat) (h : j < d) : (ptk B d k).getD j 0 = if j < k then Mm.numAt (Mm.bitOf B) d j else 0 := by
  simp [ptk, List.getD_eq_getElem?_getD, h]
theorem ptk_zero (B : List Nat) (d : Nat) : ptk B d 0 = List.replicate d 0 := by
  apply Mm.ext_getI (by rw [ptk_length, List.length_replicate])
  intro i hi
  rw [ptk_length] at hi
  rw [ptk_get _ _ _ _ hi, if_neg (by omega)]
  simp [List.getD_eq_getElem?_getD, hi]
theorem ptk_step (B : List Nat) (d k : Nat) (hk : k < d) : (ptk B d k).set k (Mm.numAt (Mm.bitOf B) d k) = ptk B d (k + 1) := by
  apply Mm.ext_getI (by rw [List.length_set, ptk_length, ptk_length])
  intro i hi
  rw [List.length_set, ptk_length] at hi
  rw [ptk_get _ _ _ _ hi]
  by_cases c : i = k
  · subst c
    rw [if_pos (by omega), List.getD_eq_getElem?_getD, List.getElem?_set_self (by rw [ptk_length]; exact hk)]
    rfl
  · rw [List.getD_eq_getElem?_getD, List.getElem?_set_ne (by omega), ← List.getD_eq_getElem?_getD, ptk_get _ _ _ _ hi]
    by_cases e : i < k
    · rw [if_pos e, if_pos (by omega)]
    · rw [if_neg e, if_neg (by omega)]
theorem ptk_end (B : List Nat) (d : Nat) : ptk B d d = Mm.point B d := by
  unfold ptk Mm.point
  apply List.map_congr_left
  intro j hj
  rw [List.mem_range] at hj
  rw [if_pos hj]
def PointPost (w : World) (d : Nat) (L : List Int) (e : Ending) (w' : World) : Prop :=
  ∃ q c, e = .returned (.tuple #[.slice q d c, .int .i64 0]) ∧ Ints w' q d c L ∧ Below w.heap.size w w'
theorem point_arg (p : Option Addr) (n c : Nat) (d : Int) (w : World) (h : d < 1 ∨ 8 < d) :
    Calls Try.prog 40 #[.slice p n c, .int .i64 d] w fun e w' => e = .returned (.tuple #[.slice none 0 0, .int .i64 1]) ∧ w' = w := by
  go_enter Try.func40, Try.ntmps40
  go_wp2_with fail
  refine (dim_no d h _).mono ?_
  rintro e w' ⟨rfl, rfl⟩
  go_wp2_with fail
  go_ret2
  exact ⟨rfl, rfl⟩
theorem point_form (p : Option Addr) (n c : Nat) (d : Int) (w : World) (h1 : 1 ≤ d) (h8 : d ≤ 8) (h : ¬ (n : Int) = 8 * d) :
    Calls Try.prog 40 #[.slice p n c, .int .i64 d] w fun e w' => e = .returned (.tuple #[.slice none 0 0, .int .i64 21]) ∧ w' = w := by
  go_enter Try.func40, Try.ntmps40
  go_wp2_with fail
  refine (dim_yes d h1 h8 _).mono ?_
  rintro e w' ⟨rfl, rfl⟩
  go_wp2_with fail
  go_ret2
  exact ⟨rfl, rfl⟩
theorem or_u64 (a b : Nat) (ha : a < 9223372036854775808) (hb : b < 2) : bits .or .u64 ((a : Int) * 2) (b : Int) = ((2 * a + b : Nat) : Int) := by
  have h1 : ((a : Int) * 2) = ((2 * a : Nat) : Int) := by omega
  rw [h1]
  have := u64_or_nat (2 * a) b (by omega) (by omega)
  refine Eq.trans this ?_
  rw [nat_join 1 (2 * a) b (by omega) (by omega)]
theorem num_i64 (a : Nat) (ha : a < 18446744073709551616) : IntKind.i64.wrap (bits .xor .u64 (a : Int) 9223372036854775808) = (a : Int) - 9223372036854775808 := by
  by_cases h : a < 9223372036854775808
  · have := u64_xor_nat a 9223372036854775808 (by omega) (by omega)
    have e : bits .xor .u64 (a : Int) 9223372036854775808 = ((9223372036854775808 + a : Nat) : Int) := by
      refine Eq.trans this ?_
      have e2 : a ^^^ 9223372036854775808 = 9223372036854775808 + a := Cm.xor63_lo (by omega)
      rw [e2]
    rw [e, IntKind.wrap_i64]
    omega
  · obtain ⟨x, rfl⟩ : ∃ x, a = 9223372036854775808 + x := ⟨a - 9223372036854775808, by omega⟩
    have := u64_xor_nat (9223372036854775808 + x) 9223372036854775808 (by omega) (by omega)
    have e : bits .xor .u64 ((9223372036854775808 + x : Nat) : Int) 9223372036854775808 = (x : Int) := by
      refine Eq.trans this ?_
      have e2 : (9223372036854775808 + x) ^^^ 9223372036854775808 = x := Cm.xor63_hi (by omega)
      rw [e2]
    rw [e, IntKind.wrap_i64]
    omega
structure IPost (w : World) (g : Nat) (L : List Int) (w' : World) : Prop where
  row : w'.heap[g]? = some (.cells (i64s L) 2 (0, 0))
  grown : w.grownBy w' (some g)
def POut (B : List Nat) (w1 : World) (g d : Nat) (i : Value) (wr : World) : Prop := ∃ k : Nat, k ≤ d ∧ i = .int .i64 k ∧ IPost w1 g (ptk B d k) wr
set_option maxRecDepth 100000 in
set_option maxHeartbeats 4000000 in
theorem point_any (B : List Nat) (p : Option Addr) (n c d : Nat) (w : World) (h : Bytes w p n c B) (h1 : 1 ≤ d) (h8 : d ≤ 8) (hn : n = 8 * d) :
    Calls Try.prog 40 #[.slice p n c, .int .i64 d] w (PointPost w d (Mm.point B d)) := by
  subst hn
  have M1 := make_row d (by omega) w
  have hbe := (Below.refl w.heap.size w).alloc (Nat.le_refl _) (.cells (i64s (List.replicate d 0)) 2)
  have hB := Lib.hid h
  have hrow : IPost (w.alloc (.cells (i64s (List.replicate d 0)) 2)) w.heap.size (ptk B d 0) (w.alloc (.cells (i64s (List.replicate d 0)) 2)) := by
    rw [ptk_zero]
    exact ⟨heap_alloc_new w _, rfl, rfl, rfl, Nat.le_refl _, fun _ _ _ => rfl⟩
  clear h
  go_enter Try.func40, Try.ntmps40
  go_wp2_with fail
  refine (dim_yes d (by omega) (by omega) _).mono ?_
  rintro e w' ⟨rfl, rfl⟩
  go_upto_region 6 with fail
  generalize w'.alloc (.cells (i64s (List.replicate d 0)) 2) = w1 at *
  obtain ⟨g, hg⟩ : ∃ g, g = w'.heap.size := ⟨_, rfl⟩
  rw [← hg] at hrow ⊢
  have HG := Lib.hid hg
  have HROW := Lib.hid hrow
  have HBE := Lib.hid hbe
  clear hrow hg M1 hbe
  go_wp2_with fail
  go_loopw [24] (fun i wr => POut B w1 g d i wr) (fun i _ => d - (intOf i).toNat)
  case atStart => exact ⟨0, by omega, rfl, HROW.out⟩
  case round =>
    obtain ⟨k, hk, rfl, hp⟩ := hrel
    have HP := Lib.hid hp
    clear hp HROW
    have hb1 : Below w'.heap.size w' wr := grown_below HBE.out HP.out.grown (by rw [HG.out]; exact Nat.le_refl _)
    by_cases hlt : k < d
    · have hB1 : Bytes wr p (8 * d) c B := hB.out.later hb1 (hB.out.lt)
      have HB1 := Lib.hid hB1
      clear hB1 hb1
      go_wp2_with fail
      go_loop [8, 27] (fun n i => PIn B d k n i) (fun _ i => 64 - (intOf i).toNat)
      case atStart => exact ⟨0, by omega, rfl, rfl⟩
      case round =>
        obtain ⟨l, hl, rfl, rfl⟩ := hrel
        have hbl := Mm.bin_lt (g := fun l => Mm.bitOf B (l * d + k)) (fun _ => Mm.bitOf_lt B _) l
        by_cases hll : l < 64
        · have m0 : (0 : Int) ≤ (l : Int) * d := Int.mul_nonneg (by omega) (by omega)
          have m1 : l * d + k < 64 * d := Mm.place_lt hlt hll
          have m2 : ((l * d + k : Nat) : Int) = (l : Int) * d + k := by simp
          have m3 : (l : Int) * d + k < 64 * d := by omega
          have hbs := Mm.bin_succ (fun l => Mm.bitOf B (l * d + k)) l
          have hpow : 2 ^ l ≤ 2 ^ 63 := Nat.pow_le_pow_right (by omega) (by omega)
          have hb63 : Mm.bin (fun l => Mm.bitOf B (l * d + k)) l < 9223372036854775808 := Nat.lt_of_lt_of_le hbl hpow
          have HBS := Lib.hid hbs
          have HM := Lib.hid m2
          have hbit := Mm.bitOf_lt B (l * d + k)
          have HBI := Lib.hid (bitI_of (B := B) (k := l * d + k) (i := (l : Int) * d + k) m2.symm)
          clear m2 hbs hbl hpow
          generalize Mm.bin (fun l => Mm.bitOf B (l * d + k)) l = a at *
          have hor := or_u64 a _ hb63 hbit
          have HOR := Lib.hid hor
          clear hor
          go_wp2_with fail
          refine (bit_any B p (8 * d) c _ wr HB1.out (by omega) (by omega)).mono ?_
          rintro e w5 ⟨rfl, rfl⟩
          rw [HBI.out]
          go_wp2_with fail
          go_round
          case rel => exact ⟨l + 1, by omega, by go_num, by rw [HBS.out]; exact congrArg (Value.int .u64) HOR.out⟩
          case measure => simp [intOf]; omega
        · obtain rfl : l = 64 := by omega
          have hnum := num_i64 _ hbl
          have hstep := ptk_step B d k hlt
          have hs := heap_setCell_same wr g k _ _ (.int .i64 (Mm.numAt (Mm.bitOf B) d k)) HP.out.row
          rw [i64s_put, hstep] at hs
          have HS := Lib.hid hs
          have HN := Lib.hid (show (Mm.bin (fun l => Mm.bitOf B (l * d + k)) 64 : Nat) - 9223372036854775808 = Mm.numAt (Mm.bitOf B) d k from rfl)
          have hc : wr.cell? ⟨g, k, none⟩ = _ := (cell_of_row wr g k _ _ _ HP.out.row).trans (i64s_get _ k (by rw [ptk_length]; exact hlt))
          have hf : wr.frozen? ⟨g, k, none⟩ = false := frozen_of_row wr g _ _ _ HP.out.row
          have i1 : (0 : Int) ≤ k ∧ (k : Int) < d := by omega
          clear hs hstep
          generalize Mm.bin (fun l => Mm.bitOf B (l * d + k)) 64 = a at *
          go_wp2_with fail
          rw [HN.out]
          clear hnum
          go_roundw
          case rel => exact ⟨k + 1, by omega, by go_num, HS.out, grown_twice HP.out.grown (grown_setCell wr g _ _)⟩
          case measure => simp [intOf]; omega
    · obtain rfl : k = d := by omega
      have hrow := HP.out.row
      rw [ptk_end] at hrow
      have hi := i64s_ints hrow (Mm.point_in B k)
      rw [Mm.point_length] at hi
      have HI := Lib.hid hi
      have HB1 := Lib.hid hb1
      clear hrow hb1 hi
      go_wp2_with fail
      go_ret2
      exact ⟨_, _, rfl, HI.out, HB1.out⟩
end Go.Proofs.Ytbhpmigblkaihaa.Mo

/- The program: zrange.right, codeOf, pointFor. -/
namespace Go.Proofs.Ytbhpmigblkaihaa.Zr
open Go.RowKit Go.Proofs.Ytbhpmigblkaihaa.Mo

set_option maxRecDepth 100000 in
set_option maxHeartbeats 1000000 in
theorem zright_any (L H : List Int) (q1 q2 : Option Addr) (n1 c1 n2 c2 : Nat) (w : World) (h1 : Ints w q1 n1 c1 L) (h2 : Ints w q2 n2 c2 H) :
    Calls Try.prog 33 #[.agg #[.slice q1 n1 c1, .slice q2 n2 c2]] w fun e w' => e = .returned (.bool (rightB L H n1 n2 n1)) ∧ Below w.heap.size w w' := by
  have hb : Below w.heap.size w (w.alloc (.cells #[.slice q1 n1 c1, .slice q2 n2 c2] 26)) := (Below.refl _ _).alloc (Nat.le_refl _) _
  obtain ⟨e0, e1⟩ := pair_alloc w (.slice q1 n1 c1) (.slice q2 n2 c2) 26
  have H1 := Lib.hid (h1.later hb)
  have H2 := Lib.hid (h2.later hb)
  have HB := Lib.hid hb
  clear h1 h2 hb
  go_enter Try.func33, Try.ntmps33
  go_upto_region 1 with fail
  generalize w.alloc (.cells #[.slice q1 n1 c1, .slice q2 n2 c2] 26) = w0 at *
  go_wp2_with fail
  refine (right_any q1 q2 n1 c1 n2 c2 L H n1 w0 H1.out H2.out).mono ?_
  rintro _ w1 ⟨rfl, hb1⟩
  go_wp2_with fail
  go_ret
  exact ⟨rfl, HB.out.trans (hb1.mono HB.out.size)⟩
/-- What is told of a point that has a code. -/
def CodeOf (w : World) (d : Nat) (B : List Nat) (e : Ending) (w' : World) : Prop :=
  ∃ g, e = .returned (.tuple #[.slice (some ⟨g, 0, none⟩) (8 * d : Nat) (8 * d : Nat), .bool true]) ∧ w.heap.size ≤ g ∧ w'.heap[g]? = some (.cells (u8s B) 5 (0, 0)) ∧ Below w.heap.size w w'
set_option maxRecDepth 100000 in
set_option maxHeartbeats 1000000 in
theorem zcodeof_any (R : List Int) (p : Option Addr) (n c : Nat) (w : World) (h : Ints w p n c R) (h1 : 1 ≤ n) (h8 : n ≤ 8) :
    Calls Try.prog 27 #[.slice p n c] w (CodeOf w n (Mm.code R)) := by
  have H := Lib.hid h
  clear h
  go_enter Try.func27, Try.ntmps27
  go_wp2_with fail
  refine (code_any R p n c w H.out h1 h8).mono ?_
  rintro e w1 ⟨g, rfl, hg, hr, hb⟩
  have HG := Lib.hid hg
  have HR := Lib.hid hr
  have HB := Lib.hid hb
  clear hg hr hb
  go_wp2_with fail
  go_ret2
  exact ⟨g, rfl, HG.out, HR.out, HB.out⟩
def PointFor (w : World) (d : Nat) (L : List Int) (e : Ending) (w' : World) : Prop :=
  ∃ q c, e = .returned (.tuple #[.slice q d c, .bool true]) ∧ Ints w' q d c L ∧ Below w.heap.size w w'
set_option maxRecDepth 100000 in
set_option maxHeartbeats 1000000 in
theorem zpoint_good (B : List Nat) (L H : List Int) (p q1 q2 : Option Addr) (d cc c1 c2 : Nat) (w : World) (h3 : Bytes w p (8 * d) cc B) (h1 : Ints w q1 d c1 L) (h2 : Ints w q2 d c2 H) (hr : rightB L H d d d = true) :
    Calls Try.prog 24 #[.slice p (8 * d : Nat) cc, .agg #[.slice q1 d c1, .slice q2 d c2]] w (PointFor w d (Mm.point B d)) := by
  obtain ⟨hd1, hd8, -, -⟩ := rightB_dims hr
  have hb : Below w.heap.size w (w.alloc (.cells #[.slice q1 d c1, .slice q2 d c2] 26)) := (Below.refl _ _).alloc (Nat.le_refl _) _
  have hx := heap_alloc_new w (.cells #[.slice q1 d c1, .slice q2 d c2] 26 (0, 0))
  have H1 := Lib.hid (h1.later hb)
  have H2 := Lib.hid (h2.later hb)
  have H3 := Lib.hid (h3.later hb h3.lt)
  have HB := Lib.hid hb
  have HR := Lib.hid hr
  clear h1 h2 h3 hb hr
  go_enter Try.func24, Try.ntmps24
  go_upto_region 1 with fail
  generalize w.alloc (.cells #[.slice q1 d c1, .slice q2 d c2] 26) = w0 at *
  have HX := Lib.hid hx
  have e0 := cell_of_row w0 w.heap.size 0 _ _ _ hx
  have e1 := cell_of_row w0 w.heap.size 1 _ _ _ hx
  clear hx
  go_wp2_with fail
  refine (zright_any L H q1 q2 d c1 d c2 w0 H1.out H2.out).mono ?_
  rintro _ w1 ⟨rfl, hb1⟩
  rw [HR.out]
  have K3 := Lib.hid (H3.out.later hb1 H3.out.lt)
  have B1 := Lib.hid (HB.out.trans (hb1.mono HB.out.size))
  have hx1 := (hb1.block _ (Array.getElem?_eq_some_iff.1 HX.out).1).trans HX.out
  clear hb1 e0 e1
  have e0 := cell_of_row w1 w.heap.size 0 _ _ _ hx1
  have e1 := cell_of_row w1 w.heap.size 1 _ _ _ hx1
  clear hx1
  go_wp2_with fail
  refine (point_any B p (8 * d) cc d w1 K3.out (by omega) (by omega) rfl).mono ?_
  rintro e w2 ⟨q, c, rfl, hi, hb2⟩
  have HI := Lib.hid hi
  have B2 := Lib.hid (B1.out.trans (hb2.mono B1.out.size))
  clear hi hb2 e0 e1
  go_wp2_with fail
  go_ret2
  exact ⟨q, c, rfl, HI.out, B2.out⟩
set_option maxRecDepth 100000 in
set_option maxHeartbeats 1000000 in
theorem zpoint_bad (L H : List Int) (p q1 q2 : Option Addr) (n cc n1 c1 n2 c2 : Nat) (w : World) (h1 : Ints w q1 n1 c1 L) (h2 : Ints w q2 n2 c2 H) (_hn : n ≤ 1000000) (hr : ¬ (rightB L H n1 n2 n1 = true ∧ n = 8 * n1)) :
    Calls Try.prog 24 #[.slice p n cc, .agg #[.slice q1 n1 c1, .slice q2 n2 c2]] w fun e w' => e = .returned (.tuple #[.slice none 0 0, .bool false]) ∧ Below w.heap.size w w' := by
  have hb : Below w.heap.size w (w.alloc (.cells #[.slice q1 n1 c1, .slice q2 n2 c2] 26)) := (Below.refl _ _).alloc (Nat.le_refl _) _
  have hx := heap_alloc_new w (.cells #[.slice q1 n1 c1, .slice q2 n2 c2] 26 (0, 0))
  have H1 := Lib.hid (h1.later hb)
  have H2 := Lib.hid (h2.later hb)
  have HB := Lib.hid hb
  have HR := Lib.hid hr
  clear h1 h2 hb hr
  go_enter Try.func24, Try.ntmps24
  go_upto_region 1 with fail
  generalize w.alloc (.cells #[.slice q1 n1 c1, .slice q2 n2 c2] 26) = w0 at *
  have HX := Lib.hid hx
  have e0 := cell_of_row w0 w.heap.size 0 _ _ _ hx
  have e1 := cell_of_row w0 w.heap.size 1 _ _ _ hx
  clear hx
  go_wp2_with fail
  refine (zright_any L H q1 q2 n1 c1 n2 c2 w0 H1.out H2.out).mono ?_
  rintro _ w1 ⟨rfl, hb1⟩
  have B1 := Lib.hid (HB.out.trans (hb1.mono HB.out.size))
  have hx1 := (hb1.block _ (Array.getElem?_eq_some_iff.1 HX.out).1).trans HX.out
  clear hb1 e0 e1
  cases hrr : rightB L H n1 n2 n1 with
  | false =>
    clear hx1
    go_wp2_with fail
    go_ret2
    exact ⟨rfl, B1.out⟩
  | true =>
    obtain ⟨d1, d2, -, -⟩ := rightB_dims hrr
    have hne : ¬ (n : Int) = 8 * n1 := fun e => HR.out ⟨hrr, by omega⟩
    have HNE := Lib.hid hne
    have e0 := cell_of_row w1 w.heap.size 0 _ _ _ hx1
    have e1 := cell_of_row w1 w.heap.size 1 _ _ _ hx1
    clear hrr hne hx1
    go_wp2_with fail
    refine (point_form p n cc n1 w1 d1 d2 HNE.out).mono ?_
    rintro e w2 ⟨rfl, rfl⟩
    clear e0 e1
    go_wp2_with fail
    go_ret2
    exact ⟨rfl, B1.out⟩
end Go.Proofs.Ytbhpmigblkaihaa.Zr

/- The program: zrange.Split. -/
namespace Go.Proofs.Ytbhpmigblkaihaa.Zr
open Go.RowKit

set_option maxRecDepth 100000 in
set_option maxHeartbeats 1000000 in
theorem side_lower (g : Nat) (f x y : Int) (w : World) (h : w.cell? ⟨g, 0, none⟩ = some (.int .i64 f)) (h1 : -9223372036854775808 < f) (h2 : f ≤ 9223372036854775807) :
    Calls Try.prog 36 #[.int .i64 x, .int .i64 y, .pointer (some ⟨g, 0, none⟩)] w fun e w' => e = .returned (.tuple #[.int .i64 x, .int .i64 (f - 1)]) ∧ ∃ j, w' = w.drewN j := by
  go_enter Try.func36, Try.ntmps36
  go_wp2_with fail
  go_quiet (fail)
  go_wp2_with fail
  go_ret2
  exact ⟨rfl, _, rfl⟩
set_option maxRecDepth 100000 in
set_option maxHeartbeats 1000000 in
theorem side_upper (g : Nat) (f x y : Int) (w : World) (h : w.cell? ⟨g, 0, none⟩ = some (.int .i64 f)) :
    Calls Try.prog 37 #[.int .i64 x, .int .i64 y, .pointer (some ⟨g, 0, none⟩)] w fun e w' => e = .returned (.tuple #[.int .i64 f, .int .i64 y]) ∧ ∃ j, w' = w.drewN j := by
  go_enter Try.func37, Try.ntmps37
  go_wp2_with fail
  go_ret2
  exact ⟨rfl, 0, rfl⟩
theorem set_same (R : List Int) (s : Nat) : R.set s (R.getD s 0) = R := by
  apply List.ext_getElem (by simp)
  intro i h1 h2
  rw [List.getElem_set]
  split
  · next e => subst e; rw [List.getD_eq_getElem?_getD, List.getElem?_eq_getElem h2]; rfl
  · rfl
set_option maxRecDepth 100000 in
set_option maxHeartbeats 4000000 in
theorem zsplit_any (L H : List Int) (q1 q2 : Option Addr) (d c1 c2 : Nat) (w : World) (h1 : Ints w q1 d c1 L) (h2 : Ints w q2 d c2 H) (hr : rightB L H d d d = true) :
    Calls Try.prog 17 #[.agg #[.slice q1 d c1, .slice q2 d c2]] w (SplitPost w L H) := by
  obtain ⟨hd1, hd8, -, -⟩ := rightB_dims hr
  have lL := h1.size
  have lH := h2.size
  have hbx : BX L H := ⟨h1.ok, h2.ok, by omega, by rw [← lL]; exact hr⟩
  have BXH := Lib.hid hbx
  have LL := Lib.hid lL
  have LH := Lib.hid lH
  have HR := Lib.hid hr
  have hs := sh_start h1 h2
  clear h1 h2 hr hbx lL lH
  go_enter Try.func17, Try.ntmps17
  go_upto_region 1 with fail
  generalize ((w.alloc (.cells #[.slice q1 d c1, .slice q2 d c2] 26)).alloc (.cells #[.slice none 0 0, .slice none 0 0] 26)).alloc (.cells #[.slice none 0 0, .slice none 0 0] 26) = w3 at *
  have HS := Lib.hid hs
  obtain ⟨a0, a1⟩ := hs.cells
  clear hs
  go_upto_region 3 with (refine (zright_any L H q1 q2 d c1 d c2 w3 HS.out.i1 HS.out.i2).mono ?_; rintro _ w4 ⟨rfl, hb4⟩; rw [HR.out]; have HS4 := Lib.hid (HS.out.later hb4); clear hb4)
  clear a0 a1 HS
  obtain ⟨a0, a1⟩ := HS4.out.cells
  go_wp2_with fail
  refine (unlike_any L H q1 q2 d c1 c2 w4 HS4.out.i1 HS4.out.i2 (by omega)).mono ?_
  rintro e w5 ⟨hul, hb5⟩
  have HS5 := Lib.hid (HS4.out.later hb5)
  clear hb5
  rcases hul with ⟨hz, rfl⟩ | ⟨s, m, hu, rfl⟩
  all_goals
    clear a0 a1 HS4
    obtain ⟨a0, a1⟩ := HS5.out.cells
    obtain ⟨x0, x1, x2, x3, y0, y1, y2, y3⟩ := HS5.out.outs
  · have heq := ulk_none BXH.out.l BXH.out.h BXH.out.len.symm (by rw [← LL.out]; exact hz)
    have HEQ := Lib.hid heq
    obtain ⟨w', hw', hb', r0, r1, s0, s1⟩ := HS5.out.told rfl (.slice none 0 0) (.slice none 0 0) (.slice none 0 0) (.slice none 0 0)
    have HB := Lib.hid hb'
    clear heq hz hb'
    go_wp2_with fail
    rw [← hw']
    exact zret_box3 2 3 4 rfl (w.heap.size + 1) (w.heap.size + 1 + 1) _ _ _ _ _ rfl rfl rfl r0 r1 s0 s1 ⟨false, none, none, none, none, 0, 0, 0, 0, 0, 0, 0, 0, rfl, HB.out, fun _ => ⟨fun i _ => by rw [HEQ.out], ⟨rfl, rfl, rfl⟩, ⟨rfl, rfl, rfl⟩, ⟨rfl, rfl, rfl⟩, ⟨rfl, rfl, rfl⟩⟩, fun h => by cases h⟩
  · rw [LL.out] at hu
    have hway := way_of BXH.out.l BXH.out.h BXH.out.len.symm hu
    have hcut := cuts_of BXH.out hway
    have WAY := Lib.hid hway
    have CUT := Lib.hid hcut
    have hsd : s < d := by rw [LL.out]; exact hway.side
    have hm := hway.bit
    obtain ⟨gh, oh, hq2, hch⟩ := HS5.out.i2.cell s hsd
    have i1 : (0 : Int) ≤ s ∧ (s : Int) < d := by omega
    have gH := Mm.inI_get BXH.out.h s
    have gL := Mm.inI_get BXH.out.l s
    have hf1 := hcut.lo
    have hf2 := hcut.hi
    clear hu hway hcut
    obtain ⟨xh, hxh⟩ : ∃ xh, xh = H.getD s 0 := ⟨_, rfl⟩
    obtain ⟨xl, hxl⟩ : ∃ xl, xl = L.getD s 0 := ⟨_, rfl⟩
    rw [← hxh] at hch gH hf1 hf2 CUT
    rw [← hxl] at gL hf1
    obtain ⟨f, hf⟩ : ∃ f, f = fst xh m := ⟨_, rfl⟩
    obtain ⟨q, hq⟩ : ∃ q, q = xh / 2 ^ m := ⟨_, rfl⟩
    rw [← hf] at hf1 hf2 CUT
    have hshr : Op.shift .shr .i64 xh .i64 (m : Int) = pure (.int .i64 q) := by
      have := shift_shr_i64 .i64 xh (m : Int) (by omega) (by omega)
      rw [Int.toNat_natCast, ← hq] at this
      exact this
    have hshl : Op.shift .shl .i64 q .i64 (m : Int) = pure (.int .i64 f) := by
      have := shift_shl_i64 .i64 q (m : Int) (by omega) (by omega)
      have e : q * 2 ^ m = f := by rw [hf, hq]; rfl
      rw [Int.toNat_natCast, e, show IntKind.i64.wrap f = f by rw [IntKind.wrap_i64]; omega] at this
      exact this
    have HXH := Lib.hid hxh
    have HXL := Lib.hid hxl
    have HM := Lib.hid hm
    have HFL := Lib.hid (show -9223372036854775808 < f ∧ f ≤ 9223372036854775807 by omega)
    clear hxh hxl hf hq hm hf1 hf2 gH gL
    subst hq2
    go_upto_region 7 with fail
    have hb6 : Below w5.heap.size w5 (w5.alloc (.cells #[.int .i64 f] 2)) := (Below.refl _ _).alloc (Nat.le_refl _) _
    have hc6 := boxed w5 (.int .i64 f) 2
    have hz6 : w5.heap.size < (w5.alloc (.cells #[.int .i64 f] 2)).heap.size := by simp
    have hlo : w.heap.size + 1 + 1 < w5.heap.size := (Array.getElem?_eq_some_iff.1 HS5.out.r).1
    generalize w5.alloc (.cells #[.int .i64 f] 2) = w6 at *
    have HS6 := Lib.hid (HS5.out.later hb6)
    have HC6 := Lib.hid hc6
    have HZ6 := Lib.hid hz6
    have HLO := Lib.hid (show w.heap.size + 1 + 1 < w6.heap.size by omega)
    clear a0 a1 x0 x1 x2 x3 y0 y1 y2 y3 hch hshr hshl hb6 hc6 hz6 hlo i1
    obtain ⟨a0, a1⟩ := HS6.out.cells
    go_wp2_with fail
    refine (turned_any L H q1 (some ⟨gh, oh, none⟩) d c1 c2 s xl (f - 1) 36 #[.pointer (some ⟨w5.heap.size, 0, none⟩)] w6 HS6.out.i1 HS6.out.i2 (by omega) (by omega) hsd (enter_side Try.func36 (by kernel_rfl) rfl)
      (fun w' hb => by rw [← HXL.out, ← HXH.out]; exact side_lower _ f xl xh w' ((hb.cell (p := ⟨w5.heap.size, 0, none⟩) HZ6.out).trans HC6.out) HFL.out.1 HFL.out.2)).mono ?_
    rintro _ w7 ⟨g1, k1, g2, k2, rfl, hr7⟩
    have HR7 := Lib.hid hr7
    clear hr7 a0 a1
    go_upto_region 8 with fail
    have hb8 : Below w7.heap.size w7 (w7.alloc (.cells #[.slice (some ⟨g1, 0, none⟩) d k1, .slice (some ⟨g2, 0, none⟩) d k2] 26)) := (Below.refl _ _).alloc (Nat.le_refl _) _
    have hx8 := heap_alloc_new w7 (.cells #[.slice (some ⟨g1, 0, none⟩) d k1, .slice (some ⟨g2, 0, none⟩) d k2] 26 (0, 0))
    generalize w7.alloc (.cells #[.slice (some ⟨g1, 0, none⟩) d k1, .slice (some ⟨g2, 0, none⟩) d k2] 26) = w8 at *
    have HX8 := Lib.hid hx8
    have HR8 := Lib.hid (HR7.out.later hb8)
    have HS8 := Lib.hid (HS6.out.later HR8.out.low)
    have HB68 := Lib.hid HR8.out.low
    clear hb8 hx8
    obtain ⟨a0, a1⟩ := HS8.out.cells
    go_wp2_with fail
    refine (turned_any L H q1 (some ⟨gh, oh, none⟩) d c1 c2 s f xh 37 #[.pointer (some ⟨w5.heap.size, 0, none⟩)] w8 HS8.out.i1 HS8.out.i2 (by omega) (by omega) hsd (enter_side Try.func37 (by kernel_rfl) rfl)
      (fun w' hb => by rw [← HXL.out, ← HXH.out]; exact side_upper _ f xl xh w' (((HB68.out.trans (hb.mono HB68.out.size)).cell (p := ⟨w5.heap.size, 0, none⟩) HZ6.out).trans HC6.out))).mono ?_
    rintro _ w9 ⟨g3, k3, g4, k4, rfl, hr9⟩
    have HR9 := Lib.hid hr9
    clear hr9 a0 a1
    go_upto_region 9 with fail
    have hb10 : Below w9.heap.size w9 (w9.alloc (.cells #[.slice (some ⟨g3, 0, none⟩) d k3, .slice (some ⟨g4, 0, none⟩) d k4] 26)) := (Below.refl _ _).alloc (Nat.le_refl _) _
    have hx10 := heap_alloc_new w9 (.cells #[.slice (some ⟨g3, 0, none⟩) d k3, .slice (some ⟨g4, 0, none⟩) d k4] 26 (0, 0))
    generalize w9.alloc (.cells #[.slice (some ⟨g3, 0, none⟩) d k3, .slice (some ⟨g4, 0, none⟩) d k4] 26) = w10 at *
    have hr10 := HR9.out.later hb10
    have hr8 := HR8.out.later hr10.low
    have hs10 := HS8.out.later hr10.low
    have hx8 := (hr10.low.block _ (Array.getElem?_eq_some_iff.1 HX8.out).1).trans HX8.out
    have l0 := cell_of_row w10 _ 0 _ _ _ hx8
    have l1 := cell_of_row w10 _ 1 _ _ _ hx8
    have u0 := cell_of_row w10 _ 0 _ _ _ hx10
    have u1 := cell_of_row w10 _ 1 _ _ _ hx10
    have HSD := Lib.hid hs10
    have HR8D := Lib.hid hr8
    have HR10D := Lib.hid hr10
    have HSZ := Lib.hid HR8.out.low.size
    obtain ⟨x0, x1, x2, x3, y0, y1, y2, y3⟩ := hs10.outs
    have hne : w9.heap.size ≠ w.heap.size + 1 := by have := HR9.out.low.size; have := HS8.out.low.size; have := (Array.getElem?_eq_some_iff.1 HS8.out.r).1; omega
    have hv : ((w10.setCell ⟨w.heap.size + 1, 0, none⟩ (.slice (some ⟨g1, 0, none⟩) d k1)).setCell ⟨w.heap.size + 1, 1, none⟩ (.slice (some ⟨g2, 0, none⟩) d k2)).heap[w9.heap.size]? = _ := ((heap_setCell_other _ _ _ _ hne).trans (heap_setCell_other _ _ _ _ hne)).trans hx10
    have v0 := cell_of_row _ _ 0 _ _ _ hv
    have v1 := cell_of_row _ _ 1 _ _ _ hv
    clear hb10 hx10 hr10 hr8 hs10 hx8 hne hv
    go_region
    all_goals
      obtain ⟨w', hw', hb', r0, r1, s0, s1⟩ := HSD.out.told rfl (.slice (some ⟨g1, 0, none⟩) d k1) (.slice (some ⟨g2, 0, none⟩) d k2) (.slice (some ⟨g3, 0, none⟩) d k3) (.slice (some ⟨g4, 0, none⟩) d k4)
      have HB' := Lib.hid hb'
      have HW' := Lib.hid hw'
      clear hb' l0 l1 u0 u1 v0 v1 x0 x1 x2 x3 y0 y1 y2 y3
      go_wp2_with fail
      rw [← hw']
      have a6 := HLO.out
      have a8 := HSZ.out
      have c1 := HR8D.out.ge1
      have c2 := HR8D.out.ge2
      have c3 := HR10D.out.ge1
      have c4 := HR10D.out.ge2
      have i1 := ints_told (HR8D.out.o1.ints (Zr.set_in BXH.out.l s xl (by have := Mm.inI_get BXH.out.l s; have := HXL.out; omega) (by have := Mm.inI_get BXH.out.l s; have := HXL.out; omega))) w.heap.size w6.heap.size a6 (fun a e => by cases e; exact c1) (.slice (some ⟨g1, 0, none⟩) d k1) (.slice (some ⟨g2, 0, none⟩) d k2) (.slice (some ⟨g3, 0, none⟩) d k3) (.slice (some ⟨g4, 0, none⟩) d k4)
      have i2 := ints_told (HR8D.out.o2.ints (Zr.set_in BXH.out.h s (f - 1) (by have := HFL.out; omega) (by have := HFL.out; omega))) w.heap.size w6.heap.size a6 (fun a e => by cases e; exact c2) (.slice (some ⟨g1, 0, none⟩) d k1) (.slice (some ⟨g2, 0, none⟩) d k2) (.slice (some ⟨g3, 0, none⟩) d k3) (.slice (some ⟨g4, 0, none⟩) d k4)
      have i3 := ints_told (HR10D.out.o1.ints (Zr.set_in BXH.out.l s f (by have := HFL.out; omega) (by have := HFL.out; omega))) w.heap.size w6.heap.size a6 (fun a e => by cases e; show w6.heap.size ≤ g3; omega) (.slice (some ⟨g1, 0, none⟩) d k1) (.slice (some ⟨g2, 0, none⟩) d k2) (.slice (some ⟨g3, 0, none⟩) d k3) (.slice (some ⟨g4, 0, none⟩) d k4)
      have i4 := ints_told (HR10D.out.o2.ints (Zr.set_in BXH.out.h s xh (by have := Mm.inI_get BXH.out.h s; have := HXH.out; omega) (by have := Mm.inI_get BXH.out.h s; have := HXH.out; omega))) w.heap.size w6.heap.size a6 (fun a e => by cases e; show w6.heap.size ≤ g4; omega) (.slice (some ⟨g1, 0, none⟩) d k1) (.slice (some ⟨g2, 0, none⟩) d k2) (.slice (some ⟨g3, 0, none⟩) d k3) (.slice (some ⟨g4, 0, none⟩) d k4)
      rw [← hw'] at i1 i2 i3 i4
      rw [HXL.out, set_same] at i1
      rw [HXH.out, set_same] at i4
      rw [← CUT.out.a2] at i2
      rw [← CUT.out.b1] at i3
      refine zret_box3 2 3 4 rfl (w.heap.size + 1) (w.heap.size + 1 + 1) _ _ _ _ _ rfl rfl rfl (show w'.drew.cell? _ = _ from r0) (show w'.drew.cell? _ = _ from r1) (show w'.drew.cell? _ = _ from s0) (show w'.drew.cell? _ = _ from s1) ⟨true, some ⟨g1, 0, none⟩, some ⟨g2, 0, none⟩, some ⟨g3, 0, none⟩, some ⟨g4, 0, none⟩, d, k1, d, k2, d, k3, d, k4, rfl, HB'.out.drew, (fun h => by cases h), fun _ => ⟨_, WAY.out.lt, WAY.out.same, WAY.out.ne, by rw [CUT.out.a1]; exact i1.later (Below.refl _ _).drew, i2.later (Below.refl _ _).drew, i3.later (Below.refl _ _).drew, by rw [CUT.out.b2]; exact i4.later (Below.refl _ _).drew, ?_⟩⟩
      rintro a (e | e | e | e)
      · cases e; show w.heap.size ≤ g1; omega
      · cases e; show w.heap.size ≤ g2; omega
      · cases e; show w.heap.size ≤ g3; omega
      · cases e; show w.heap.size ≤ g4; omega
end Go.Proofs.Ytbhpmigblkaihaa.Zr

/- The program: zrange.Block. -/
namespace Go.Proofs.Ytbhpmigblkaihaa.Zr
open Go.RowKit

/-- The box lies boxed. -/
structure BkH (w0 w : World) (q1 q2 : Option Addr) (d c1 c2 : Nat) (L H : List Int) : Prop where
  low : Below w0.heap.size w0 w
  a : w.heap[w0.heap.size]? = some (.cells #[.slice q1 d c1, .slice q2 d c2] 26 (0, 0))
  i1 : Ints w q1 d c1 L
  i2 : Ints w q2 d c2 H
theorem BkH.later {w0 w w' : World} {q1 q2 : Option Addr} {d c1 c2 : Nat} {L H : List Int} (h : BkH w0 w q1 q2 d c1 c2 L H) (hb : Below w.heap.size w w') : BkH w0 w' q1 q2 d c1 c2 L H :=
  ⟨h.low.trans (hb.mono h.low.size), (hb.block _ (Array.getElem?_eq_some_iff.1 h.a).1).trans h.a, h.i1.later hb, h.i2.later hb⟩
theorem BkH.cells {w0 w : World} {q1 q2 : Option Addr} {d c1 c2 : Nat} {L H : List Int} (h : BkH w0 w q1 q2 d c1 c2 L H) : w.cell? ⟨w0.heap.size, 0, none⟩ = some (.slice q1 d c1) ∧ w.cell? ⟨w0.heap.size, 1, none⟩ = some (.slice q2 d c2) :=
  ⟨cell_of_row w _ 0 _ _ _ h.a, cell_of_row w _ 1 _ _ _ h.a⟩
theorem bkh_start {w : World} {q1 q2 : Option Addr} {d c1 c2 : Nat} {L H : List Int} (h1 : Ints w q1 d c1 L) (h2 : Ints w q2 d c2 H) :
    BkH w (w.alloc (.cells #[.slice q1 d c1, .slice q2 d c2] 26)) q1 q2 d c1 c2 L H := by
  have b1 : Below w.heap.size w (w.alloc (.cells #[.slice q1 d c1, .slice q2 d c2] 26)) := (Below.refl _ _).alloc (Nat.le_refl _) _
  exact ⟨b1, heap_alloc_new w _, h1.later b1, h2.later b1⟩
theorem zblock_bad (L H : List Int) (q1 q2 : Option Addr) (n1 c1 n2 c2 : Nat) (w : World) (h1 : Ints w q1 n1 c1 L) (h2 : Ints w q2 n2 c2 H) (hr : rightB L H n1 n2 n1 = false) :
    Calls Try.prog 20 #[.agg #[.slice q1 n1 c1, .slice q2 n2 c2]] w fun e w' => e = .returned (.bool false) ∧ Below w.heap.size w w' := by
  have hb : Below w.heap.size w (w.alloc (.cells #[.slice q1 n1 c1, .slice q2 n2 c2] 26)) := (Below.refl _ _).alloc (Nat.le_refl _) _
  obtain ⟨e0, e1⟩ := pair_alloc w (.slice q1 n1 c1) (.slice q2 n2 c2) 26
  have H1 := Lib.hid (h1.later hb)
  have H2 := Lib.hid (h2.later hb)
  have HB := Lib.hid hb
  have HR := Lib.hid hr
  clear h1 h2 hb hr
  go_enter Try.func20, Try.ntmps20
  go_upto_region 1 with fail
  generalize w.alloc (.cells #[.slice q1 n1 c1, .slice q2 n2 c2] 26) = w0 at *
  go_wp2_with fail
  refine (zright_any L H q1 q2 n1 c1 n2 c2 w0 H1.out H2.out).mono ?_
  rintro _ w1 ⟨rfl, hb1⟩
  rw [HR.out]
  go_wp2_with fail
  go_ret
  exact ⟨rfl, HB.out.trans (hb1.mono HB.out.size)⟩
theorem len_wrap {x y P : Int} {c : Nat} (x1 : -9223372036854775808 ≤ x) (y2 : y ≤ 9223372036854775807) (hle : x ≤ y) (hc : c ≤ 64) (hP : P = IntKind.u64.wrap (1 * 2 ^ c)) :
    (IntKind.u64.wrap (IntKind.u64.wrap y - IntKind.u64.wrap x) = IntKind.u64.wrap (P - 1)) ↔ y - x = ((2 ^ c : Nat) : Int) - 1 := by
  have h1 := Nat.two_pow_pos c
  have h2 : 2 ^ c ≤ 2 ^ 64 := Nat.pow_le_pow_right (by omega) hc
  have e : (1 : Int) * 2 ^ c = ((2 ^ c : Nat) : Int) := by simp
  rw [e] at hP
  subst hP
  generalize 2 ^ c = Z at *
  simp only [IntKind.wrap_u64]
  omega
def RBk (w1 : World) (L H : List Int) (d s m : Nat) (i : Value) (wr : World) : Prop :=
  ∃ k j : Nat, k ≤ d ∧ i = .int .i64 k ∧ (∀ t, t < k → lenOk L H s m t) ∧ wr = w1.drewN j
set_option maxRecDepth 100000 in
set_option maxHeartbeats 4000000 in
theorem zblock_good (L H : List Int) (q1 q2 : Option Addr) (d c1 c2 : Nat) (w : World) (h1 : Ints w q1 d c1 L) (h2 : Ints w q2 d c2 H) (hr : rightB L H d d d = true) :
    Calls Try.prog 20 #[.agg #[.slice q1 d c1, .slice q2 d c2]] w fun e w' => e = .returned (.bool (blockB L H d d)) ∧ Below w.heap.size w w' := by
  obtain ⟨hd1, hd8, -, -⟩ := rightB_dims hr
  have lL := h1.size
  have lH := h2.size
  have hbx : BX L H := ⟨h1.ok, h2.ok, by omega, by rw [← lL]; exact hr⟩
  have BXH := Lib.hid hbx
  have LL := Lib.hid lL
  have HR := Lib.hid hr
  have hs := bkh_start h1 h2
  clear h1 h2 hr hbx lL lH
  go_enter Try.func20, Try.ntmps20
  go_upto_region 1 with fail
  generalize w.alloc (.cells #[.slice q1 d c1, .slice q2 d c2] 26) = w3 at *
  have HS := Lib.hid hs
  obtain ⟨a0, a1⟩ := hs.cells
  clear hs
  go_wp2_with fail
  refine (zright_any L H q1 q2 d c1 d c2 w3 HS.out.i1 HS.out.i2).mono ?_
  rintro _ w4 ⟨rfl, hb4⟩
  rw [HR.out]
  have HS4 := Lib.hid (HS.out.later hb4)
  clear hb4 a0 a1 HS
  obtain ⟨a0, a1⟩ := HS4.out.cells
  go_wp2_with fail
  refine (unlike_any L H q1 q2 d c1 c2 w4 HS4.out.i1 HS4.out.i2 (by omega)).mono ?_
  rintro e w5 ⟨hul, hb5⟩
  have HS5 := Lib.hid (HS4.out.later hb5)
  clear hb5 a0 a1 HS4
  obtain ⟨a0, a1⟩ := HS5.out.cells
  rcases hul with ⟨hz, rfl⟩ | ⟨s, m, hu, rfl⟩
  · have heq := ulk_none BXH.out.l BXH.out.h BXH.out.len.symm (by rw [← LL.out]; exact hz)
    have HBK := Lib.hid (show blockB L H d d = true by
      unfold blockB
      rw [HR.out, Bool.true_and, bok_of _ (fun i hi hu => by rw [heq, unl_false _ (fun _ _ => rfl)] at hu; cases hu), Bool.or_true])
    clear heq hz
    go_wp2_with fail
    go_ret
    exact ⟨congrArg (fun b => Ending.returned (.bool b)) HBK.out.symm, HS5.out.low⟩
  · by_cases h1 : d = 1
    · have HBK := Lib.hid (show blockB L H d d = true by
        unfold blockB
        rw [HR.out, Bool.true_and, decide_eq_true h1, Bool.true_or])
      have e1 : ((d : Int) == 1) = true := by simp; omega
      clear h1 hu
      go_wp2_with fail
      go_ret
      exact ⟨congrArg (fun b => Ending.returned (.bool b)) HBK.out.symm, HS5.out.low⟩
    · rw [LL.out] at hu
      have hway := way_of BXH.out.l BXH.out.h BXH.out.len.symm hu
      have hsides := block_sides BXH.out hway
      rw [← LL.out] at hsides
      have HBK := Lib.hid (show blockB L H d d = true ↔ ∀ k, k < d → lenOk L H s m k by
        unfold blockB
        rw [HR.out, Bool.true_and, decide_eq_false h1, Bool.false_or]
        exact hsides)
      have e1 : ((d : Int) == 1) = false := by simp; omega
      have HM := Lib.hid hway.bit
      clear hway hsides hu h1
      go_wp2_with fail
      go_loopw [29] (fun i wr => RBk w5 L H d s m i wr) (fun i _ => d - (intOf i).toNat)
      case atStart => exact ⟨0, 0, by omega, rfl, fun t ht => by omega, rfl⟩
      case round =>
        obtain ⟨k, j, hk, rfl, hall, rfl⟩ := hrel
        have HALL := Lib.hid hall
        clear hall
        by_cases hlt : k < d
        · obtain ⟨gx, ox, rfl, hcx⟩ := HS5.out.i1.cell k hlt
          obtain ⟨gy, oy, rfl, hcy⟩ := HS5.out.i2.cell k hlt
          have i1 : (0 : Int) ≤ k ∧ (k : Int) < d := by omega
          have hx := Mm.inI_get BXH.out.l k
          have hy := Mm.inI_get BXH.out.h k
          obtain ⟨x, hxe⟩ : ∃ x, x = L.getD k 0 := ⟨_, rfl⟩
          obtain ⟨y, hye⟩ : ∃ y, y = H.getD k 0 := ⟨_, rfl⟩
          rw [← hxe] at hcx hx
          rw [← hye] at hcy hy
          have HXE := Lib.hid hxe
          have HYE := Lib.hid hye
          clear hxe hye
          have hxy : x ≤ y := by rw [HXE.out, HYE.out]; exact BXH.out.le k (by rw [← LL.out]; exact hlt)
          by_cases hks : k < s
          · have g1 : ¬ (s : Int) ≤ k := by omega
            obtain ⟨P, hP⟩ : ∃ P, P = IntKind.u64.wrap (1 * 2 ^ m) := ⟨_, rfl⟩
            have hshl : Op.shift .shl .u64 1 .i64 (m) = pure (.int .u64 P) := by
              have := shift_shl_u64 .i64 1 ((m : Nat) : Int) (by omega) (by have := HM.out; omega)
              rw [Int.toNat_natCast, ← hP] at this
              exact this
            have hiff := len_wrap hx.1 hy.2 hxy (by have := HM.out; omega) hP
            have hcn : lenOk L H s m k ↔ y - x = ((2 ^ m : Nat) : Int) - 1 := by
              unfold lenOk cnt
              rw [if_pos hks, ← HXE.out, ← HYE.out]
            have HP := Lib.hid hP
            have HIFF := Lib.hid (hcn.trans hiff.symm)
            clear hP hiff hcn hxy
            by_cases hL : lenOk L H s m k
            · have b1 := HIFF.out.1 hL
              have HLK := Lib.hid hL
              have b2 : (IntKind.u64.wrap (IntKind.u64.wrap y - IntKind.u64.wrap x) != IntKind.u64.wrap (P - 1)) = false := by rw [b1]; simp
              clear hL b1
              go_upto_region 13 with fail
              go_quiet (fail)
              go_wp2_with fail
              go_roundw
              case rel => exact ⟨k + 1, _, by omega, by go_num, fun t ht => by
                by_cases e : t = k
                · rw [e]; exact HLK.out
                · exact HALL.out t (by omega), by first | rfl | simp [World.drewN_drewN]⟩
              case measure => simp [intOf]; omega
            · have b1 : ¬ IntKind.u64.wrap (IntKind.u64.wrap y - IntKind.u64.wrap x) = IntKind.u64.wrap (P - 1) := fun e => hL (HIFF.out.2 e)
              have HLK := Lib.hid hL
              have b2 : (IntKind.u64.wrap (IntKind.u64.wrap y - IntKind.u64.wrap x) != IntKind.u64.wrap (P - 1)) = true := by simpa using b1
              clear hL b1
              go_upto_region 13 with fail
              go_quiet (fail)
              go_wp2_with fail
              go_ret
              exact ⟨congrArg (fun b => Ending.returned (.bool b)) (by
                cases e : blockB L H d d with
                | false => rfl
                | true => exact absurd (HBK.out.1 e k hlt) HLK.out), Below.drewN (Below.drewN HS5.out.low _) _⟩
          · have g1 : (s : Int) ≤ k := by omega
            have hw1 : wrap64 ((m : Int) + 1) = (m : Int) + 1 := by have := HM.out; unfold wrap64; omega
            obtain ⟨P, hP⟩ : ∃ P, P = IntKind.u64.wrap (1 * 2 ^ (m + 1)) := ⟨_, rfl⟩
            have hshl : Op.shift .shl .u64 1 .i64 ((m : Int) + 1) = pure (.int .u64 P) := by
              have := shift_shl_u64 .i64 1 (((m + 1) : Nat) : Int) (by omega) (by have := HM.out; omega)
              rw [Int.toNat_natCast, ← hP] at this
              exact this
            have hiff := len_wrap hx.1 hy.2 hxy (by have := HM.out; omega) hP
            have hcn : lenOk L H s m k ↔ y - x = ((2 ^ (m + 1) : Nat) : Int) - 1 := by
              unfold lenOk cnt
              rw [if_neg hks, ← HXE.out, ← HYE.out]
            have HP := Lib.hid hP
            have HIFF := Lib.hid (hcn.trans hiff.symm)
            clear hP hiff hcn hxy
            by_cases hL : lenOk L H s m k
            · have b1 := HIFF.out.1 hL
              have HLK := Lib.hid hL
              have b2 : (IntKind.u64.wrap (IntKind.u64.wrap y - IntKind.u64.wrap x) != IntKind.u64.wrap (P - 1)) = false := by rw [b1]; simp
              clear hL b1
              go_upto_region 13 with fail
              go_quiet (fail)
              go_wp2_with fail
              go_roundw
              case rel => exact ⟨k + 1, _, by omega, by go_num, fun t ht => by
                by_cases e : t = k
                · rw [e]; exact HLK.out
                · exact HALL.out t (by omega), by first | rfl | simp [World.drewN_drewN]⟩
              case measure => simp [intOf]; omega
            · have b1 : ¬ IntKind.u64.wrap (IntKind.u64.wrap y - IntKind.u64.wrap x) = IntKind.u64.wrap (P - 1) := fun e => hL (HIFF.out.2 e)
              have HLK := Lib.hid hL
              have b2 : (IntKind.u64.wrap (IntKind.u64.wrap y - IntKind.u64.wrap x) != IntKind.u64.wrap (P - 1)) = true := by simpa using b1
              clear hL b1
              go_upto_region 13 with fail
              go_quiet (fail)
              go_wp2_with fail
              go_ret
              exact ⟨congrArg (fun b => Ending.returned (.bool b)) (by
                cases e : blockB L H d d with
                | false => rfl
                | true => exact absurd (HBK.out.1 e k hlt) HLK.out), Below.drewN (Below.drewN HS5.out.low _) _⟩
        · obtain rfl : k = d := by omega
          have HB := Lib.hid (HBK.out.2 HALL.out)
          go_wp2_with fail
          go_ret
          exact ⟨congrArg (fun b => Ending.returned (.bool b)) HB.out.symm, Below.drewN HS5.out.low _⟩
theorem zblock_any (L H : List Int) (q1 q2 : Option Addr) (n1 c1 n2 c2 : Nat) (w : World) (h1 : Ints w q1 n1 c1 L) (h2 : Ints w q2 n2 c2 H) :
    Calls Try.prog 20 #[.agg #[.slice q1 n1 c1, .slice q2 n2 c2]] w fun e w' => e = .returned (.bool (blockB L H n1 n2)) ∧ Below w.heap.size w w' := by
  cases hr : rightB L H n1 n2 n1 with
  | false =>
    have : blockB L H n1 n2 = false := by unfold blockB; rw [hr, Bool.false_and]
    rw [this]
    exact zblock_bad L H q1 q2 n1 c1 n2 c2 w h1 h2 hr
  | true =>
    obtain ⟨-, -, -, d4⟩ := rightB_dims hr
    obtain rfl : n2 = n1 := by omega
    exact zblock_good L H q1 q2 n2 c1 c2 w h1 h2 hr
end Go.Proofs.Ytbhpmigblkaihaa.Zr

/- Plain: a box is halved, and the first code from any one on (the last one up to it) is found in a half. -/
namespace Go.Proofs.Ytbhpmigblkaihaa.Zr
open Go.RowKit Go.Proofs.Ytbhpmigblkaihaa.Mo Zm Mm

/-- Both halves of a box. -/
structure Halves (L H L1 H1 L2 H2 : List Int) (n : Nat) : Prop where
  b1 : BX L1 H1
  b2 : BX L2 H2
  l1 : L1.length = L.length
  l2 : L2.length = L.length
  in1 : ∀ P, inI P → P.length = L.length → (inB L1 H1 P ↔ inB L H P ∧ cbit P n = 0)
  in2 : ∀ P, inI P → P.length = L.length → (inB L2 H2 P ↔ inB L H P ∧ cbit P n = 1)
  order : ∀ P Q, inI P → inI Q → P.length = L.length → Q.length = L.length → inB L1 H1 P → inB L2 H2 Q → Cm.cmpL (code P) (code Q) < 0
  lt : n < 64 * L.length
  pre : ∀ P, inI P → P.length = L.length → inB L H P → ∀ i, i < n → cbit P i = cbit L i
theorem halves_of {L H : List Int} (b : BX L H) {n : Nat} (hn : n < 64 * L.length) (he : ∀ i, i < n → cbit L i = cbit H i) (hne : cbit L n ≠ cbit H n) : Halves L H (pLo L L n) (pHi L H L n) (pLo L H n) (pHi L H H n) n := by
  obtain ⟨p1, p2⟩ := b.parts hn he
  have q := fun P hP lP => b.in_parts (P := P) hP lP hn he hne
  refine ⟨p1, p2, pLo_length _ _ _, pLo_length _ _ _, fun P hP lP => (q P hP lP).1, fun P hP lP => (q P hP lP).2, fun P Q hP hQ lP lQ h1 h2 => ?_, hn, fun P hP lP h => prefix_box b.l b.h hP b.len lP (by omega) he h⟩
  obtain ⟨a1, a2⟩ := (q P hP lP).1.1 h1
  obtain ⟨c1, c2⟩ := (q Q hQ lQ).2.1 h2
  exact parts_order b.l b.h hP hQ b.len lP lQ hn he a1 c1 a2 c2
theorem BX.lo {L H : List Int} (b : BX L H) : inB L H L := fun k hk => ⟨Int.le_refl _, b.le k hk⟩
theorem BX.hi {L H : List Int} (b : BX L H) : inB L H H := fun k hk => ⟨b.le k (by have := b.len; omega), Int.le_refl _⟩
theorem BX.from_lo {L H P : List Int} (b : BX L H) (hP : inI P) (lP : P.length = L.length) (h : inB L H P) : Cm.cmpL (code L) (code P) ≤ 0 := code_mono b.l hP lP.symm fun k hk => (h k (by omega)).1
theorem BX.to_hi {L H P : List Int} (b : BX L H) (hP : inI P) (lP : P.length = L.length) (h : inB L H P) : Cm.cmpL (code P) (code H) ≤ 0 := code_mono hP b.h (lP.trans b.len.symm) fun k hk => (h k hk).2
/-- The corners of a half are alike in one bit more. -/
theorem Halves.agree {L H L1 H1 L2 H2 : List Int} {n : Nat} (h : Halves L H L1 H1 L2 H2 n) : (∀ i, i < n + 1 → cbit L1 i = cbit H1 i) ∧ (∀ i, i < n + 1 → cbit L2 i = cbit H2 i) := by
  have key : ∀ {A B : List Int} {c : Nat}, BX A B → A.length = L.length → (∀ P, inI P → P.length = L.length → (inB A B P ↔ inB L H P ∧ cbit P n = c)) → ∀ i, i < n + 1 → cbit A i = cbit B i := fun {A B c} bx lA hin i hi => by
    obtain ⟨x1, x2⟩ := (hin A bx.l lA).1 bx.lo
    obtain ⟨y1, y2⟩ := (hin B bx.h (bx.len.trans lA)).1 bx.hi
    by_cases e : i = n
    · rw [e, x2, y2]
    · rw [h.pre A bx.l lA x1 i (by omega), h.pre B bx.h (bx.len.trans lA) y1 i (by omega)]
  exact ⟨key h.b1 h.l1 h.in1, key h.b2 h.l2 h.in2⟩
theorem le_trans3 {A B C : List Int} (_hA : inI A) (_hB : inI B) (_hC : inI C) (l1 : A.length = B.length) (l2 : B.length = C.length) (h1 : Cm.cmpL (code A) (code B) ≤ 0) (h2 : Cm.cmpL (code B) (code C) ≤ 0) : Cm.cmpL (code A) (code C) ≤ 0 := by
  have lc : (code A).length = (code B).length := by rw [code_length, code_length, l1]
  have lc2 : (code B).length = (code C).length := by rw [code_length, code_length, l2]
  have key : ∀ {X Y : List Int}, X.length = Y.length → (Cm.cmpL (code X) (code Y) ≤ 0 ↔ Cm.val (code X) ≤ Cm.val (code Y)) := fun {X Y} l => by
    have := Cm.cmp_val (code Y) (code X) (by rw [code_length, code_length, l]) (code_ok Y) (code_ok X)
    have hn := Cm.cmpL_neg (code Y) (code X)
    constructor
    · intro h
      apply Classical.byContradiction
      intro c
      have := this.2 (by omega)
      omega
    · intro h
      apply Classical.byContradiction
      intro c
      have := this.1 (by omega)
      omega
  have a := (key l1).1 h1
  have b := (key l2).1 h2
  exact (key (l1.trans l2)).2 (Nat.le_trans a b)
theorem not_lt {A B : List Int} (h : ¬ Cm.cmpL (code A) (code B) < 0) : Cm.cmpL (code B) (code A) ≤ 0 := by
  have := Cm.cmpL_neg (code A) (code B)
  omega
theorem lt_not {A B : List Int} (h : Cm.cmpL (code A) (code B) < 0) : ¬ Cm.cmpL (code B) (code A) ≤ 0 := by
  have := Cm.cmpL_neg (code A) (code B)
  omega
section
variable {L H L1 H1 L2 H2 Q X : List Int} {n : Nat}
theorem Halves.which (h : Halves L H L1 H1 L2 H2 n) {Y : List Int} (hY : inI Y) (lY : Y.length = L.length) (hb : inB L H Y) : inB L1 H1 Y ∨ inB L2 H2 Y := by
  have := cbit_lt Y n
  by_cases c : cbit Y n = 0
  · exact Or.inl ((h.in1 Y hY lY).2 ⟨hb, c⟩)
  · exact Or.inr ((h.in2 Y hY lY).2 ⟨hb, by omega⟩)
theorem first_upper (h : Halves L H L1 H1 L2 H2 n) (hQ : inI Q) (lQ : Q.length = L.length) (ha : Cm.cmpL (code H1) (code Q) < 0) (hx : FirstIn L2 H2 Q X) : FirstIn L H Q X :=
  ⟨hx.len, hx.ok, ((h.in2 X hx.ok (hx.len.trans lQ)).1 hx.box).1, hx.from', fun Y lY hY hb hf => by
    rcases h.which hY (lY.trans lQ) hb with c | c
    · have h1 := h.b1.to_hi hY (by rw [lY, lQ, h.l1]) c
      exact absurd (le_trans3 hQ hY h.b1.h lY.symm (by rw [h.b1.len, h.l1, lY, lQ]) hf h1) (lt_not ha)
    · exact hx.least Y lY hY c hf⟩
theorem first_lower (h : Halves L H L1 H1 L2 H2 n) (lQ : Q.length = L.length) (hx : FirstIn L1 H1 Q X) : FirstIn L H Q X :=
  ⟨hx.len, hx.ok, ((h.in1 X hx.ok (hx.len.trans lQ)).1 hx.box).1, hx.from', fun Y lY hY hb hf => by
    rcases h.which hY (lY.trans lQ) hb with c | c
    · exact hx.least Y lY hY c hf
    · have := h.order X Y hx.ok hY (hx.len.trans lQ) (lY.trans lQ) hx.box c
      omega⟩
theorem last_lower (h : Halves L H L1 H1 L2 H2 n) (hQ : inI Q) (lQ : Q.length = L.length) (ha : Cm.cmpL (code Q) (code L2) < 0) (hx : LastIn L1 H1 Q X) : LastIn L H Q X :=
  ⟨hx.len, hx.ok, ((h.in1 X hx.ok (hx.len.trans lQ)).1 hx.box).1, hx.upto, fun Y lY hY hb hf => by
    rcases h.which hY (lY.trans lQ) hb with c | c
    · exact hx.last Y lY hY c hf
    · have h1 := h.b2.from_lo hY (by rw [lY, lQ, h.l2]) c
      exact absurd (le_trans3 h.b2.l hY hQ (by rw [h.l2, lY, lQ]) lY h1 hf) (lt_not ha)⟩
theorem last_upper (h : Halves L H L1 H1 L2 H2 n) (lQ : Q.length = L.length) (hx : LastIn L2 H2 Q X) : LastIn L H Q X :=
  ⟨hx.len, hx.ok, ((h.in2 X hx.ok (hx.len.trans lQ)).1 hx.box).1, hx.upto, fun Y lY hY hb hf => by
    rcases h.which hY (lY.trans lQ) hb with c | c
    · have := h.order Y X hY hx.ok (lY.trans lQ) (hx.len.trans lQ) c hx.box
      omega
    · exact hx.last Y lY hY c hf⟩
theorem first_lo (b : BX L H) (lQ : Q.length = L.length) (h : ¬ Cm.cmpL (code L) (code Q) < 0) : FirstIn L H Q L :=
  ⟨lQ.symm, b.l, b.lo, not_lt h, fun _Y lY hY hb _ => b.from_lo hY (lY.trans lQ) hb⟩
theorem last_hi (b : BX L H) (lQ : Q.length = L.length) (h : ¬ Cm.cmpL (code Q) (code H) < 0) : LastIn L H Q H :=
  ⟨b.len.trans lQ.symm, b.h, b.hi, not_lt h, fun _Y lY hY hb _ => b.to_hi hY (lY.trans lQ) hb⟩
theorem none_from (b : BX L H) (hQ : inI Q) (lQ : Q.length = L.length) (h : Cm.cmpL (code H) (code Q) < 0) : NoneFrom L H Q := fun Y lY hY hb hf =>
  lt_not h (le_trans3 hQ hY b.h lY.symm (by rw [b.len, lY, lQ]) hf (b.to_hi hY (lY.trans lQ) hb))
theorem none_upto (b : BX L H) (hQ : inI Q) (lQ : Q.length = L.length) (h : Cm.cmpL (code Q) (code L) < 0) : NoneUpto L H Q := fun Y lY hY hb hf =>
  lt_not h (le_trans3 b.l hY hQ (by rw [lY, lQ]) lY (b.from_lo hY (lY.trans lQ) hb) hf)
/-- What the halving keeps. -/
structure SkInv (back : Bool) (L0 H0 Q L H : List Int) (g : Nat) : Prop where
  b : BX L H
  len : Q.length = L.length
  hit : ∀ X, Hit back L H Q X → Hit back L0 H0 Q X
  near : if back = true then Cm.cmpL (code L) (code Q) ≤ 0 else Cm.cmpL (code Q) (code H) ≤ 0
  agree : ∀ i, i + g < 64 * L.length → cbit L i = cbit H i
theorem SkInv.lower {back : Bool} {L0 H0 : List Int} {g : Nat} (s : SkInv back L0 H0 Q L H g) (hQ : inI Q) (h : Halves L H L1 H1 L2 H2 n) (hd : ∀ i, i < n → cbit L i = cbit H i) (hne : cbit L n ≠ cbit H n) (hc : if back = true then Cm.cmpL (code Q) (code L2) < 0 else ¬ Cm.cmpL (code H1) (code Q) < 0) :
    64 * L.length - (n + 1) < g ∧ SkInv back L0 H0 Q L1 H1 (64 * L.length - (n + 1)) := by
  have hlt := h.lt
  have hg : ¬ n + g < 64 * L.length := fun c => hne (s.agree n c)
  refine ⟨by omega, h.b1, s.len.trans h.l1.symm, fun X hx => s.hit X ?_, ?_, fun i hi => h.agree.1 i (by rw [h.l1] at hi; omega)⟩
  · cases back with
    | true => exact last_lower h hQ s.len hc hx
    | false => exact first_lower h s.len hx
  · cases back with
    | true =>
      have hL := (h.in1 L s.b.l rfl).2 ⟨s.b.lo, (corner_bit s.b.l s.b.h s.b.len s.b.le h.lt hd hne).1⟩
      have h1 := h.b1.from_lo s.b.l h.l1.symm hL
      exact le_trans3 h.b1.l s.b.l hQ h.l1 s.len.symm h1 s.near
    | false => exact not_lt hc
theorem SkInv.upper {back : Bool} {L0 H0 : List Int} {g : Nat} (s : SkInv back L0 H0 Q L H g) (hQ : inI Q) (h : Halves L H L1 H1 L2 H2 n) (hd : ∀ i, i < n → cbit L i = cbit H i) (hne : cbit L n ≠ cbit H n) (hc : if back = true then ¬ Cm.cmpL (code Q) (code L2) < 0 else Cm.cmpL (code H1) (code Q) < 0) :
    64 * L.length - (n + 1) < g ∧ SkInv back L0 H0 Q L2 H2 (64 * L.length - (n + 1)) := by
  have hlt := h.lt
  have hg : ¬ n + g < 64 * L.length := fun c => hne (s.agree n c)
  refine ⟨by omega, h.b2, s.len.trans h.l2.symm, fun X hx => s.hit X ?_, ?_, fun i hi => h.agree.2 i (by rw [h.l2] at hi; omega)⟩
  · cases back with
    | true => exact last_upper h s.len hx
    | false => exact first_upper h hQ s.len hc hx
  · cases back with
    | true => exact not_lt hc
    | false =>
      have hH := (h.in2 H s.b.h s.b.len).2 ⟨s.b.hi, (corner_bit s.b.l s.b.h s.b.len s.b.le h.lt hd hne).2⟩
      have h1 := h.b2.to_hi s.b.h (s.b.len.trans h.l2.symm) hH
      exact le_trans3 hQ s.b.h h.b2.h (s.len.trans s.b.len.symm) (by rw [h.b2.len, h.l2, s.b.len]) s.near h1
end
end Go.Proofs.Ytbhpmigblkaihaa.Zr

/- box.Has. -/
namespace Go.Proofs.Ytbhpmigblkaihaa
open Go.RowKit

set_option maxRecDepth 100000 in
set_option maxHeartbeats 1000000 in
theorem hasside (B C : Nat) (p q s : Option Addr) (n c e f : Nat) (R S P : List Int) (k : Nat) (hk : k < n) (w : World) (hB : BoxAt w B p n c q n e) (hC : w.cell? ⟨C, 0, none⟩ = some (.slice s n f)) (h1 : Ints w p n c R) (h2 : Ints w q n e S) (h3 : Ints w s n f P) :
    Calls Try.prog 45 #[.int .i64 k, .pointer (some ⟨B, 0, none⟩), .pointer (some ⟨C, 0, none⟩)] w fun e w' => e = .returned (.bool (decide (R.getD k 0 ≤ P.getD k 0) && decide (P.getD k 0 ≤ S.getD k 0))) ∧ ∃ j, w' = w.drewN j := by
  obtain ⟨hB0, hB1⟩ := hB
  obtain ⟨g1, o1, rfl, hc1⟩ := h1.cell k hk
  obtain ⟨g2, o2, rfl, hc2⟩ := h2.cell k hk
  obtain ⟨g3, o3, rfl, hc3⟩ := h3.cell k hk
  clear h1 h2 h3
  generalize R.getD k 0 = xR at *
  generalize S.getD k 0 = xS at *
  generalize P.getD k 0 = xP at *
  have b1 : (0 : Int) ≤ k ∧ (k : Int) < n := by omega
  by_cases hg : xR ≤ xP
  · rw [decide_eq_true hg]
    go_enter Try.func45, Try.ntmps45
    go_wp2_with fail
    go_quiet (fail)
    go_wp2_with fail
    go_ret
    exact ⟨rfl, _, rfl⟩
  · rw [decide_eq_false hg]
    have hd : decide (xR ≤ xP) = false := decide_eq_false hg
    go_enter Try.func45, Try.ntmps45
    go_wp2_with fail
    go_quiet (fail)
    go_wp2_with fail
    go_ret
    exact ⟨rfl, _, rfl⟩
structure Three (w0 w : World) (a b : Nat) (p q r : Option Addr) (n c m e k f : Nat) (R S T : List Int) : Prop where
  ba : BoxAt w a p n c q m e
  bb : w.cell? ⟨b, 0, none⟩ = some (.slice r k f)
  la : a < w.heap.size
  lb : b < w.heap.size
  i1 : Ints w p n c R
  i2 : Ints w q m e S
  i3 : Ints w r k f T
  below : Below w0.heap.size w0 w
theorem Three.later {w0 w w' : World} {a b : Nat} {p q r : Option Addr} {n c m e k f : Nat} {R S T : List Int} (h : Three w0 w a b p q r n c m e k f R S T) (hb : Below w.heap.size w w') : Three w0 w' a b p q r n c m e k f R S T :=
  ⟨⟨(hb.cell (p := ⟨a, 0, none⟩) h.la).trans h.ba.1, (hb.cell (p := ⟨a, 1, none⟩) h.la).trans h.ba.2⟩, (hb.cell (p := ⟨b, 0, none⟩) h.lb).trans h.bb, Nat.lt_of_lt_of_le h.la hb.size, Nat.lt_of_lt_of_le h.lb hb.size,
    h.i1.later hb, h.i2.later hb, h.i3.later hb, h.below.trans (hb.mono h.below.size)⟩
theorem three_of {w w2 : World} {p q r : Option Addr} {n c m e k f : Nat} {R S T : List Int} (h1 : Ints w p n c R) (h2 : Ints w q m e S) (h3 : Ints w r k f T)
    (h : w2 = (w.alloc (.cells #[.slice p n c, .slice q m e] 26)).alloc (.cells #[.slice r k f] 24)) : Three w w2 w.heap.size (w.heap.size + 1) p q r n c m e k f R S T := by
  subst h
  obtain ⟨a0, a1⟩ := pair_alloc w (.slice p n c) (.slice q m e) 26
  have hs : (w.alloc (.cells #[.slice p n c, .slice q m e] 26)).heap.size = w.heap.size + 1 := by simp
  have hb1 : Below w.heap.size w (w.alloc (.cells #[.slice p n c, .slice q m e] 26)) := (Below.refl _ _).alloc (Nat.le_refl _) _
  generalize w.alloc (.cells #[.slice p n c, .slice q m e] 26) = w1 at *
  have b0 := boxed w1 (.slice r k f) 24
  have hb2 : Below w1.heap.size w1 (w1.alloc (.cells #[.slice r k f] 24)) := (Below.refl _ _).alloc (Nat.le_refl _) _
  rw [hs] at b0
  exact ⟨⟨(hb2.cell (p := ⟨w.heap.size, 0, none⟩) (by show w.heap.size < _; omega)).trans a0, (hb2.cell (p := ⟨w.heap.size, 1, none⟩) (by show w.heap.size < _; omega)).trans a1⟩, b0, by simp; omega, by simp; omega, (h1.later hb1).later hb2, (h2.later hb1).later hb2, (h3.later hb1).later hb2, hb1.trans (hb2.mono (by omega))⟩
set_option maxRecDepth 100000 in
set_option maxHeartbeats 1000000 in
theorem has_any (p q s : Option Addr) (n c m e l f : Nat) (R S P : List Int) (w : World) (h1 : Ints w p n c R) (h2 : Ints w q m e S) (h3 : Ints w s l f P) :
    Calls Try.prog 26 #[.agg #[.slice p n c, .slice q m e], .slice s l f] w fun e w' => e = .returned (.bool (hasB R S P n m l)) ∧ Below w.heap.size w w' := by
  go_enter Try.func26, Try.ntmps26
  go_upto_region 1 with fail
  obtain ⟨w2, hw2⟩ : ∃ w2, w2 = (w.alloc (.cells #[.slice p n c, .slice q m e] 26)).alloc (.cells #[.slice s l f] 24) := ⟨_, rfl⟩
  have HF := Lib.hid (three_of h1 h2 h3 hw2)
  rw [← hw2]
  clear hw2 h1 h2 h3
  have b := HF.out.ba
  obtain ⟨b0, b1⟩ := b
  have b2 := HF.out.bb
  go_wp2_with fail
  refine (right_any p q n c m e R S l w2 HF.out.i1 HF.out.i2).mono ?_
  rintro _ w3 ⟨rfl, hb3⟩
  have HG := Lib.hid (HF.out.later hb3)
  clear hb3 HF b0 b1 b2
  have b2 := HG.out.bb
  cases hr : rightB R S n m l with
  | false =>
    have HR := Lib.hid (hasB_not (P := P) hr)
    clear hr
    go_wp2_with fail
    go_ret
    exact ⟨congrArg (fun b => Ending.returned (.bool b)) HR.out.symm, HG.out.below⟩
  | true =>
    have HR := Lib.hid (hasB_right (P := P) hr)
    obtain ⟨hd1, hd2, hd3, hd4⟩ := rightB_dims hr
    obtain rfl : n = l := by omega
    obtain rfl : m = n := by omega
    have HE := Lib.hid (each_any m (by omega) (fun k => decide (R.getD k 0 ≤ P.getD k 0) && decide (P.getD k 0 ≤ S.getD k 0)) 45 #[.pointer (some ⟨w.heap.size, 0, none⟩), .pointer (some ⟨w.heap.size + 1, 0, none⟩)] (enter_side Try.func45 (by kernel_rfl) rfl) w3 (fun k w' hk hb => hasside w.heap.size (w.heap.size + 1) p q s m c e f R S P k hk w' (HG.out.later hb).ba (HG.out.later hb).bb (HG.out.later hb).i1 (HG.out.later hb).i2 (HG.out.later hb).i3))
    rw [alls_and, alls_les, alls_les] at HE
    clear hr hd1 hd2 hd3 hd4
    go_wp2_with fail
    refine HE.out.mono ?_
    rintro _ w4 ⟨rfl, j, hw4⟩
    have HB := Lib.hid (show Below w.heap.size w w4 by rw [hw4]; exact Below.drewN HG.out.below _)
    clear hw4
    go_wp2_with fail
    go_ret
    exact ⟨congrArg (fun b => Ending.returned (.bool b)) HR.out.symm, HB.out⟩
end Go.Proofs.Ytbhpmigblkaihaa

/- The program: what lies there while a box is halved. -/
namespace Go.Proofs.Ytbhpmigblkaihaa.Zr
open Go.RowKit

/-- Numbers do not lie where a box's slices do. -/
theorem ints_apart {w : World} {g : Nat} {p q : Option Addr} {n c m e n' c' : Nat} {R : List Int} {t : TypeId} {fr : Nat × Nat} (hg : w.heap[g]? = some (.cells #[.slice p n c, .slice q m e] t fr)) {a : Addr} (h : Ints w (some a) n' c' R) (hn : 1 ≤ n') : a.block ≠ g := by
  obtain ⟨gx, o, hp, hc⟩ := h.cell 0 (by omega)
  simp only [Option.some.injEq] at hp
  subst hp
  intro e1
  simp only at e1
  subst e1
  rw [Nat.add_zero, cell_of_row w gx o _ _ _ hg] at hc
  match o with
  | 0 => simp at hc
  | 1 => simp at hc
  | k + 2 => simp at hc
structure SkH (w0 w : World) (q : Option Addr) (d c : Nat) (Q : List Int) (p1 : Option Addr) (e1 : Nat) (p2 : Option Addr) (e2 : Nat) (L H : List Int) : Prop where
  low : Below w0.heap.size w0 w
  a : w.heap[w0.heap.size]? = some (.cells #[.slice p1 d e1, .slice p2 d e2] 26 (0, 0))
  i1 : Ints w p1 d e1 L
  i2 : Ints w p2 d e2 H
  iq : Ints w q d c Q
theorem SkH.later {w0 w w' : World} {q : Option Addr} {d c : Nat} {Q : List Int} {p1 : Option Addr} {e1 : Nat} {p2 : Option Addr} {e2 : Nat} {L H : List Int} (h : SkH w0 w q d c Q p1 e1 p2 e2 L H) (hb : Below w.heap.size w w') : SkH w0 w' q d c Q p1 e1 p2 e2 L H :=
  ⟨h.low.trans (hb.mono h.low.size), (hb.block _ (Array.getElem?_eq_some_iff.1 h.a).1).trans h.a, h.i1.later hb, h.i2.later hb, h.iq.later hb⟩
theorem SkH.cells {w0 w : World} {q : Option Addr} {d c : Nat} {Q : List Int} {p1 : Option Addr} {e1 : Nat} {p2 : Option Addr} {e2 : Nat} {L H : List Int} (h : SkH w0 w q d c Q p1 e1 p2 e2 L H) : w.cell? ⟨w0.heap.size, 0, none⟩ = some (.slice p1 d e1) ∧ w.cell? ⟨w0.heap.size, 1, none⟩ = some (.slice p2 d e2) ∧ w.frozen? ⟨w0.heap.size, 0, none⟩ = false ∧ w.frozen? ⟨w0.heap.size, 1, none⟩ = false :=
  ⟨cell_of_row w _ 0 _ _ _ h.a, cell_of_row w _ 1 _ _ _ h.a, frozen_of_row w _ _ _ _ h.a, frozen_of_row w _ _ _ _ h.a⟩
/-- Besides: both halves of the box. -/
structure SkS (w0 w : World) (g : Nat) (q : Option Addr) (d c : Nat) (Q : List Int) (p1 : Option Addr) (e1 : Nat) (p2 : Option Addr) (e2 : Nat) (L H : List Int) (r1 r2 r3 r4 : Option Addr) (s1 s2 s3 s4 : Nat) (A B C D : List Int) : Prop where
  h : SkH w0 w q d c Q p1 e1 p2 e2 L H
  r8 : w.heap[g]? = some (.cells #[.slice r1 d s1, .slice r2 d s2] 26 (0, 0))
  r9 : w.heap[g + 1]? = some (.cells #[.slice r3 d s3, .slice r4 d s4] 26 (0, 0))
  i1 : Ints w r1 d s1 A
  i2 : Ints w r2 d s2 B
  i3 : Ints w r3 d s3 C
  i4 : Ints w r4 d s4 D
  gt : w0.heap.size < g
section
variable {w0 w w' : World} {g : Nat} {q : Option Addr} {d c : Nat} {Q : List Int} {p1 p2 : Option Addr} {e1 e2 : Nat} {L H : List Int} {r1 r2 r3 r4 : Option Addr} {s1 s2 s3 s4 : Nat} {A B C D : List Int}
theorem SkS.later (h : SkS w0 w g q d c Q p1 e1 p2 e2 L H r1 r2 r3 r4 s1 s2 s3 s4 A B C D) (hb : Below w.heap.size w w') : SkS w0 w' g q d c Q p1 e1 p2 e2 L H r1 r2 r3 r4 s1 s2 s3 s4 A B C D :=
  ⟨h.h.later hb, (hb.block _ (Array.getElem?_eq_some_iff.1 h.r8).1).trans h.r8, (hb.block _ (Array.getElem?_eq_some_iff.1 h.r9).1).trans h.r9, h.i1.later hb, h.i2.later hb, h.i3.later hb, h.i4.later hb, h.gt⟩
theorem SkS.cells (h : SkS w0 w g q d c Q p1 e1 p2 e2 L H r1 r2 r3 r4 s1 s2 s3 s4 A B C D) : w.cell? ⟨g, 0, none⟩ = some (.slice r1 d s1) ∧ w.cell? ⟨g, 1, none⟩ = some (.slice r2 d s2) ∧ w.cell? ⟨g + 1, 0, none⟩ = some (.slice r3 d s3) ∧ w.cell? ⟨g + 1, 1, none⟩ = some (.slice r4 d s4) :=
  ⟨cell_of_row w _ 0 _ _ _ h.r8, cell_of_row w _ 1 _ _ _ h.r8, cell_of_row w _ 0 _ _ _ h.r9, cell_of_row w _ 1 _ _ _ h.r9⟩
theorem SkS.put (h : SkS w0 w g q d c Q p1 e1 p2 e2 L H r1 r2 r3 r4 s1 s2 s3 s4 A B C D) (hd : 1 ≤ d) {x1 x2 : Option Addr} {t1 t2 : Nat} {X Y : List Int} (k1 : Ints w x1 d t1 X) (k2 : Ints w x2 d t2 Y) :
    SkS w0 ((w.setCell ⟨w0.heap.size, 0, none⟩ (.slice x1 d t1)).setCell ⟨w0.heap.size, 1, none⟩ (.slice x2 d t2)) g q d c Q x1 t1 x2 t2 X Y r1 r2 r3 r4 s1 s2 s3 s4 A B C D := by
  have hgt := h.gt
  have row1 := heap_setCell_same w w0.heap.size 0 _ _ (.slice x1 d t1) h.h.a
  have row2 := heap_setCell_same _ w0.heap.size 1 _ _ (.slice x2 d t2) row1
  have ot : ∀ b, b ≠ w0.heap.size → ((w.setCell ⟨w0.heap.size, 0, none⟩ (.slice x1 d t1)).setCell ⟨w0.heap.size, 1, none⟩ (.slice x2 d t2)).heap[b]? = w.heap[b]? := fun b hb => (heap_setCell_other _ _ _ _ hb).trans (heap_setCell_other _ _ _ _ hb)
  have stay : ∀ {p : Option Addr} {e : Nat} {R : List Int}, Ints w p d e R → Ints ((w.setCell ⟨w0.heap.size, 0, none⟩ (.slice x1 d t1)).setCell ⟨w0.heap.size, 1, none⟩ (.slice x2 d t2)) p d e R := fun {p e R} hi =>
    Zr.Ints.aside (Zr.Ints.aside hi _ _ _ (fun a ea => by subst ea; exact ints_apart h.h.a hi hd)) _ _ _ (fun a ea => by subst ea; exact ints_apart h.h.a hi hd)
  exact ⟨⟨(h.h.low.setCell (p := ⟨w0.heap.size, 0, none⟩) (Nat.le_refl _) _).setCell (p := ⟨w0.heap.size, 1, none⟩) (Nat.le_refl _) _, row2, stay k1, stay k2, stay h.h.iq⟩, (ot g (by omega)).trans h.r8, (ot (g + 1) (by omega)).trans h.r9, stay h.i1, stay h.i2, stay h.i3, stay h.i4, hgt⟩
theorem sks_start {r1 r2 r3 r4 : Option Addr} {s1 s2 s3 s4 : Nat} (h : SkH w0 w q d c Q p1 e1 p2 e2 L H) (i1 : Ints w r1 d s1 A) (i2 : Ints w r2 d s2 B) (i3 : Ints w r3 d s3 C) (i4 : Ints w r4 d s4 D) :
    SkS w0 ((w.alloc (.cells #[.slice r1 d s1, .slice r2 d s2] 26)).alloc (.cells #[.slice r3 d s3, .slice r4 d s4] 26)) w.heap.size q d c Q p1 e1 p2 e2 L H r1 r2 r3 r4 s1 s2 s3 s4 A B C D := by
  have a0 := heap_alloc_new w (.cells #[.slice r1 d s1, .slice r2 d s2] 26 (0, 0))
  have b1 : Below w.heap.size w (w.alloc (.cells #[.slice r1 d s1, .slice r2 d s2] 26)) := (Below.refl _ _).alloc (Nat.le_refl _) _
  have z1 : (w.alloc (.cells #[.slice r1 d s1, .slice r2 d s2] 26)).heap.size = w.heap.size + 1 := by simp
  generalize w.alloc (.cells #[.slice r1 d s1, .slice r2 d s2] 26) = wm at *
  have a1 := heap_alloc_new wm (.cells #[.slice r3 d s3, .slice r4 d s4] 26 (0, 0))
  have b2 : Below wm.heap.size wm (wm.alloc (.cells #[.slice r3 d s3, .slice r4 d s4] 26)) := (Below.refl _ _).alloc (Nat.le_refl _) _
  generalize wm.alloc (.cells #[.slice r3 d s3, .slice r4 d s4] 26) = w4 at *
  have b12 := b1.trans (b2.mono b1.size)
  rw [z1] at a1
  exact ⟨h.later b12, (b2.block _ (by omega)).trans a0, a1, i1.later b12, i2.later b12, i3.later b12, i4.later b12, (Array.getElem?_eq_some_iff.1 h.a).1⟩
end
theorem code_bytes {w : World} {g d : Nat} {X : List Int} (h : w.heap[g]? = some (.cells (u8s (Mm.code X)) 5 (0, 0))) (hX : X.length = d) : Bytes w (some ⟨g, 0, none⟩) (8 * d) (8 * d) (Mm.code X) := by
  have := Bytes.row h (Mm.code_ok X)
  rw [Mm.code_length, hX] at this
  exact this
theorem find_told {w w' : World} {back : Bool} {L H Q X : List Int} {d g : Nat} (hx : Hit back L H Q X) (hQ : Q.length = d) (h : w'.heap[g]? = some (.cells (u8s (Mm.code X)) 5 (0, 0))) (hb : Below w.heap.size w w') :
    FindPost w back L H Q (.returned (.tuple #[.slice (some ⟨g, 0, none⟩) (8 * d : Nat) (8 * d : Nat), .bool true])) w' := by
  subst hQ
  exact ⟨true, _, rfl, hb, (fun h => by cases h), fun _ => ⟨X, _, _, hx, rfl, code_bytes h (hx.ok.1)⟩⟩
def SkRel (back : Bool) (w0 : World) (q : Option Addr) (d c : Nat) (Q L H : List Int) (k : Nat) (wr : World) : Prop :=
  ∃ p1 e1 p2 e2 L' H', SkH w0 wr q d c Q p1 e1 p2 e2 L' H' ∧ SkInv back L H Q L' H' k
end Go.Proofs.Ytbhpmigblkaihaa.Zr
