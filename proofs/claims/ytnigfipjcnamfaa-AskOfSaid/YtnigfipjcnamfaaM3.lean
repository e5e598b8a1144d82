/- BoxMerge, BoxElems, BoxRotate, BoxInsert, BoxSym, BoxStab, GenOwn, BoxClone, BoxAhead, BoxOrdIn. -/
import Derived.Test.YtnigfipjcnamfaaM2
import Derived.BigRegion
import Derived.IntWalk
import Derived.Deep.CutBlock
import Derived.Laws.OwnMore
import Derived.Lib.SliceRun
/- Plain lists: Go's symmetric merge, as a function over an array and a 'less', is right. No program is named here. -/
namespace Go.Proofs.Ytnigfipjcnamfaa.St
open Go.Sort
variable {α : Type} [Inhabited α]

section
variable (lt : α → α → Bool)
/-- Where the part that goes up begins. -/
def startOf (d : Array α) (a m b : Nat) : Nat :=
  if (a + b) / 2 < m then bs (fun c => !lt d[(a + b) / 2 + m - 1 - c]! d[c]!) ((a + b) / 2 - ((a + b) / 2 + m - b)) ((a + b) / 2 + m - b) ((a + b) / 2)
  else bs (fun c => !lt d[(a + b) / 2 + m - 1 - c]! d[c]!) (m - a) a m
def rotIf (m s e : Nat) (d : Array α) : Array α := if s < m ∧ m < e then rot m (m - s + (e - m)) (m - s) (e - m) d else d
/-- symMerge: of [a, m) and [m, b), each in order, one. -/
def symM : Nat → Nat → Nat → Nat → Array α → Array α
  | 0, _, _, _, d => d
  | f + 1, a, m, b, d =>
    if m - a = 1 then up a (bs (fun h => lt d[h]! d[a]!) (b - m) m b - 1 - a) d
    else if b - m = 1 then down m (m - bs (fun h => !lt d[m]! d[h]!) (m - a) a m) d
    else
      (fun s e => (fun d1 => (fun d2 => if (a + b) / 2 < e ∧ e < b then symM f ((a + b) / 2) e b d2 else d2) (if a < s ∧ s < (a + b) / 2 then symM f a s ((a + b) / 2) d1 else d1)) (rotIf m s e d))
        (startOf lt d a m b) ((a + b) / 2 + m - startOf lt d a m b)
end
section
variable {lt lt' : α → α → Bool} (hS : SWO lt')
include hS
theorem up_sorted {a m b : Nat} {d : Array α} (ham : m = a + 1) (hmb : m < b) (hb : b ≤ d.size) (hv : SortedIn lt' m b d) (i : Nat) (hi1 : m ≤ i) (hi2 : i ≤ b) (h1 : i = m ∨ lt' d[i - 1]! d[a]! = true) (h2 : i = b ∨ lt' d[i]! d[a]! = false) : SortedIn lt' a b (up a (i - 1 - a) d) := by
  intro p q hp hpq hq
  have g := up_get a (i - 1 - a) d (by omega)
  rw [g, g, show a + (i - 1 - a) = i - 1 by omega]
  have hia : ∀ x, m ≤ x → x < i → lt' d[a]! d[x]! = false := fun x hx1 hx2 => by
    rcases h1 with h1 | h1
    · omega
    · cases hh : lt' d[a]! d[x]! with
      | false => rfl
      | true =>
        have h3 := hS.trans _ _ _ h1 hh
        rcases Nat.lt_or_ge x (i - 1) with h4 | h4
        · rw [hv x (i - 1) hx1 h4 (by omega)] at h3; cases h3
        · obtain rfl : x = i - 1 := by omega
          rw [hS.irrefl] at h3; cases h3
  have hib : ∀ x, i ≤ x → x < b → lt' d[x]! d[a]! = false := fun x hx1 hx2 => by
    rcases h2 with h2 | h2
    · omega
    · rcases Nat.lt_or_ge i x with h4 | h4
      · exact hS.ntrans _ _ _ (hv i x hi1 h4 hx2) h2
      · obtain rfl : x = i := by omega
        exact h2
  by_cases q1 : q < a ∨ i - 1 < q
  · rw [if_pos q1]
    by_cases p1 : p < a ∨ i - 1 < p
    · rw [if_pos p1]
      exact hv p q (by omega) hpq hq
    · rw [if_neg p1]
      by_cases p2 : p < i - 1
      · rw [if_pos p2]
        exact hv (p + 1) q (by omega) (by omega) hq
      · rw [if_neg p2]
        exact hib q (by omega) hq
  · rw [if_neg q1, if_neg (show ¬ (p < a ∨ i - 1 < p) by omega), if_pos (show p < i - 1 by omega)]
    by_cases q2 : q < i - 1
    · rw [if_pos q2]
      exact hv (p + 1) (q + 1) (by omega) (by omega) (by omega)
    · rw [if_neg q2]
      exact hia (p + 1) (by omega) (by omega)
theorem down_sorted {a m b : Nat} {d : Array α} (ham : a < m) (hmb : b = m + 1) (hb : b ≤ d.size) (hu : SortedIn lt' a m d) (i : Nat) (hi1 : a ≤ i) (hi2 : i ≤ m) (h1 : i = a ∨ lt' d[m]! d[i - 1]! = false) (h2 : i = m ∨ lt' d[m]! d[i]! = true) : SortedIn lt' a b (down m (m - i) d) := by
  intro p q hp hpq hq
  have g := down_get m (m - i) d (by omega) (by omega)
  rw [g, g, show m - (m - i) = i by omega]
  have hlo : ∀ x, a ≤ x → x < i → lt' d[m]! d[x]! = false := fun x hx1 hx2 => by
    rcases h1 with h1 | h1
    · omega
    · rcases Nat.lt_or_ge x (i - 1) with h4 | h4
      · exact hS.ntrans _ _ _ h1 (hu x (i - 1) hx1 h4 (by omega))
      · obtain rfl : x = i - 1 := by omega
        exact h1
  have hhi : ∀ x, i ≤ x → x < m → lt' d[x]! d[m]! = false := fun x hx1 hx2 => by
    rcases h2 with h2 | h2
    · omega
    · cases hh : lt' d[x]! d[m]! with
      | false => rfl
      | true =>
        have h3 := hS.trans _ _ _ hh h2
        rcases Nat.lt_or_ge i x with h4 | h4
        · rw [hu i x hi1 h4 hx2] at h3; cases h3
        · obtain rfl : x = i := by omega
          rw [hS.irrefl] at h3; cases h3
  by_cases p1 : p < i ∨ m < p
  · rw [if_pos p1]
    by_cases q1 : q < i ∨ m < q
    · rw [if_pos q1]
      exact hu p q hp hpq (by omega)
    · rw [if_neg q1]
      by_cases q2 : i < q
      · rw [if_pos q2]
        exact hu p (q - 1) hp (by omega) (by omega)
      · rw [if_neg q2]
        exact hlo p hp (by omega)
  · rw [if_neg p1, if_neg (show ¬ (q < i ∨ m < q) by omega), if_pos (show i < q by omega)]
    by_cases p2 : i < p
    · rw [if_pos p2]
      exact hu (p - 1) (q - 1) (by omega) (by omega) (by omega)
    · rw [if_neg p2]
      exact hhi (q - 1) (by omega) (by omega)
end
theorem rotIf_get {m s e : Nat} {d : Array α} (h1 : s ≤ m) (h2 : m ≤ e) (h3 : e ≤ d.size) (k : Nat) : (rotIf m s e d)[k]! = if k < s ∨ e ≤ k then d[k]! else if k < s + (e - m) then d[k + (m - s)]! else d[k - (e - m)]! := by
  unfold rotIf
  by_cases h : s < m ∧ m < e
  · rw [if_pos h, rot_get m _ _ _ d (by omega) (by omega) (Nat.le_refl _) (by omega) (by omega), show m - (m - s) = s by omega, show m + (e - m) = e by omega]
  · rw [if_neg h]
    by_cases c : k < s ∨ e ≤ k
    · rw [if_pos c]
    · rw [if_neg c]
      by_cases c2 : k < s + (e - m)
      · rw [if_pos c2]; exact geq d (by omega)
      · rw [if_neg c2]; exact geq d (by omega)
theorem rotIf_perm {m s e a b : Nat} {d : Array α} (h1 : a ≤ s) (h2 : e ≤ b) (h3 : b ≤ d.size) : PermIn a b d (rotIf m s e d) := by
  unfold rotIf
  split
  · rename_i h
    exact rot_perm m _ _ _ d a b (by omega) (by omega) (Nat.le_refl _) (by omega) (by omega) (by omega) h3
  · exact permIn_refl d a b
/-- Two halves that are in order, none of the second before one of the first. -/
theorem sorted_join {lt' : α → α → Bool} {a mid b : Nat} {d1 d2 d3 : Array α} (hb : b ≤ d1.size) (hmb : mid ≤ b)
    (hle : ∀ i j, a ≤ i → i < mid → mid ≤ j → j < b → lt' d1[j]! d1[i]! = false) (p1 : PermIn a mid d1 d2) (s1 : SortedIn lt' a mid d2) (p2 : PermIn mid b d2 d3) (s2 : SortedIn lt' mid b d3) : SortedIn lt' a b d3 := by
  intro i j hi hij hj
  by_cases c : j < mid
  · rw [p2.2.1 j (Or.inl c), p2.2.1 i (Or.inl (by omega))]
    exact s1 i j hi hij c
  · by_cases c2 : mid ≤ i
    · exact s2 i j c2 hij hj
    · rw [p2.2.1 i (Or.inl (by omega))]
      refine permIn_all d2 d3 mid b (fun y => lt' y d2[i]! = false) (by rw [p1.1]; exact hb) p2 (fun j' h1 h2 => ?_) j (by omega) hj
      rw [p1.2.1 j' (Or.inr h1)]
      exact permIn_all d1 d2 a mid (fun x => lt' d1[j']! x = false) (by omega) p1 (fun i' h3 h4 => hle i' j' h3 h4 h1 h2) i hi (by omega)
section
variable {lt lt' : α → α → Bool} (hS : SWO lt')
include hS
theorem symM_spec : ∀ (f a m b : Nat) (d : Array α), a < m → m < b → b ≤ d.size → b - a ≤ f → SortedIn lt' a m d → SortedIn lt' m b d → (∀ i j, a ≤ i → i < m → m ≤ j → j < b → lt d[j]! d[i]! = lt' d[j]! d[i]!) →
    PermIn a b d (symM lt f a m b d) ∧ SortedIn lt' a b (symM lt f a m b d)
  | 0, a, m, b, d, h1, h2, _, h4, _, _, _ => by omega
  | f + 1, a, m, b, d, h1, h2, h3, h4, hu, hv, hx => by
    rw [symM]
    by_cases c1 : m - a = 1
    · rw [if_pos c1]
      obtain ⟨i1, i2, i3, i4⟩ := bs_spec (fun h => lt d[h]! d[a]!) m b (b - m) m b (Nat.le_refl _) (Nat.le_refl _) (by omega) (Nat.le_refl _) (Or.inl rfl) (Or.inl rfl)
      generalize bs (fun h => lt d[h]! d[a]!) (b - m) m b = i at *
      refine ⟨up_perm a b a (Nat.le_refl _) _ d (by omega) h3, up_sorted hS (by omega) h2 h3 hv i i1 i2 ?_ ?_⟩
      · rcases i3 with i3 | i3
        · exact Or.inl i3
        · by_cases hi : i = m
          · exact Or.inl hi
          · exact Or.inr (by rw [← hx a (i - 1) (Nat.le_refl _) h1 (by omega) (by omega)]; exact i3)
      · rcases i4 with i4 | i4
        · exact Or.inl i4
        · by_cases hi : i = b
          · exact Or.inl hi
          · exact Or.inr (by rw [← hx a i (Nat.le_refl _) h1 (by omega) (by omega)]; exact i4)
    · rw [if_neg c1]
      by_cases c2 : b - m = 1
      · rw [if_pos c2]
        obtain ⟨i1, i2, i3, i4⟩ := bs_spec (fun h => !lt d[m]! d[h]!) a m (m - a) a m (Nat.le_refl _) (Nat.le_refl _) (by omega) (Nat.le_refl _) (Or.inl rfl) (Or.inl rfl)
        generalize bs (fun h => !lt d[m]! d[h]!) (m - a) a m = i at *
        refine ⟨down_perm a b m h2 _ d (by omega) h3, down_sorted hS h1 (by omega) h3 hu i i1 i2 ?_ ?_⟩
        · rcases i3 with i3 | i3
          · exact Or.inl i3
          · by_cases hi : i = a
            · exact Or.inl hi
            · exact Or.inr (by rw [← hx (i - 1) m (by omega) (by omega) (Nat.le_refl _) h2]; simpa using i3)
        · rcases i4 with i4 | i4
          · exact Or.inl i4
          · by_cases hi : i = m
            · exact Or.inl hi
            · exact Or.inr (by rw [← hx i m (by omega) (by omega) (Nat.le_refl _) h2]; simpa using i4)
      · rw [if_neg c2]
        -- where the parts part
        have key : ∃ s, s = startOf lt d a m b ∧ a ≤ s ∧ s ≤ m ∧ s ≤ (a + b) / 2 ∧ (a + b) / 2 + m - s ≤ b ∧ m ≤ (a + b) / 2 + m - s ∧
            (∀ x y, a ≤ x → x < s → (a + b) / 2 + m - s ≤ y → y < b → lt' d[y]! d[x]! = false) ∧ (∀ x y, s ≤ x → x < m → m ≤ y → y < (a + b) / 2 + m - s → lt' d[x]! d[y]! = false) := by
          refine ⟨_, rfl, ?_⟩
          have fin : ∀ (L H s : Nat), L ≤ s → s ≤ H → a ≤ L → H ≤ m → H ≤ (a + b) / 2 → (a + b) / 2 + m ≤ b + L → (L = a ∨ (a + b) / 2 + m = b + L) → (H = m ∨ H = (a + b) / 2) →
              (s = L ∨ (!lt d[(a + b) / 2 + m - 1 - (s - 1)]! d[s - 1]!) = true) → (s = H ∨ (!lt d[(a + b) / 2 + m - 1 - s]! d[s]!) = false) →
              a ≤ s ∧ s ≤ m ∧ s ≤ (a + b) / 2 ∧ (a + b) / 2 + m - s ≤ b ∧ m ≤ (a + b) / 2 + m - s ∧ (∀ x y, a ≤ x → x < s → (a + b) / 2 + m - s ≤ y → y < b → lt' d[y]! d[x]! = false) ∧ (∀ x y, s ≤ x → x < m → m ≤ y → y < (a + b) / 2 + m - s → lt' d[x]! d[y]! = false) := by
            intro L H s l1 l2 l3 l4 l5 l6 l7 l8 k1 k2
            refine ⟨by omega, by omega, by omega, by omega, by omega, fun x y x1 x2 y1 y2 => ?_, fun x y x1 x2 y1 y2 => ?_⟩
            · rcases k1 with k1 | k1
              · omega
              · by_cases hsL : s = L
                · omega
                · rw [show (a + b) / 2 + m - 1 - (s - 1) = (a + b) / 2 + m - s by omega] at k1
                  have k3 : lt' d[(a + b) / 2 + m - s]! d[s - 1]! = false := by
                    rw [← hx (s - 1) _ (by omega) (by omega) (by omega) (by omega)]; simpa using k1
                  have k4 : lt' d[y]! d[(a + b) / 2 + m - s]! = false := by
                    rcases Nat.lt_or_ge ((a + b) / 2 + m - s) y with h | h
                    · exact hv _ y (by omega) h y2
                    · obtain rfl : y = (a + b) / 2 + m - s := by omega
                      exact hS.irrefl _
                  have k5 : lt' d[s - 1]! d[x]! = false := by
                    rcases Nat.lt_or_ge x (s - 1) with h | h
                    · exact hu x (s - 1) x1 h (by omega)
                    · obtain rfl : x = s - 1 := by omega
                      exact hS.irrefl _
                  exact hS.ntrans _ _ _ k4 (hS.ntrans _ _ _ k3 k5)
            · rcases k2 with k2 | k2
              · omega
              · by_cases hsH : s = H
                · omega
                · have k3 : lt' d[(a + b) / 2 + m - 1 - s]! d[s]! = true := by
                    rw [← hx s _ (by omega) (by omega) (by omega) (by omega)]; simpa using k2
                  cases hh : lt' d[x]! d[y]! with
                  | false => rfl
                  | true =>
                    have k4 : lt' d[(a + b) / 2 + m - 1 - s]! d[y]! = false := by
                      rcases Nat.lt_or_ge y ((a + b) / 2 + m - 1 - s) with h | h
                      · exact hv y _ y1 h (by omega)
                      · obtain rfl : y = (a + b) / 2 + m - 1 - s := by omega
                        exact hS.irrefl _
                    have k5 : lt' d[x]! d[s]! = false := by
                      rcases Nat.lt_or_ge s x with h | h
                      · exact hu s x (by omega) h x2
                      · obtain rfl : x = s := by omega
                        exact hS.irrefl _
                    have k6 := hS.trans _ _ _ k3 (show lt' d[s]! d[y]! = true by
                      cases h7 : lt' d[s]! d[y]! with
                      | true => rfl
                      | false => rw [hS.ntrans _ _ _ k5 h7] at hh; cases hh)
                    rw [k4] at k6
                    cases k6
          unfold startOf
          by_cases hm : (a + b) / 2 < m
          · rw [if_pos hm]
            obtain ⟨i1, i2, i3, i4⟩ := bs_spec (fun c => !lt d[(a + b) / 2 + m - 1 - c]! d[c]!) ((a + b) / 2 + m - b) ((a + b) / 2) _ ((a + b) / 2 + m - b) ((a + b) / 2) (Nat.le_refl _) (Nat.le_refl _) (by omega) (Nat.le_refl _) (Or.inl rfl) (Or.inl rfl)
            exact fin _ _ _ i1 i2 (by omega) (by omega) (Nat.le_refl _) (by omega) (Or.inr (by omega)) (Or.inr rfl) i3 i4
          · rw [if_neg hm]
            obtain ⟨i1, i2, i3, i4⟩ := bs_spec (fun c => !lt d[(a + b) / 2 + m - 1 - c]! d[c]!) a m _ a m (Nat.le_refl _) (Nat.le_refl _) (by omega) (Nat.le_refl _) (Or.inl rfl) (Or.inl rfl)
            exact fin _ _ _ i1 i2 (Nat.le_refl _) (Nat.le_refl _) (by omega) (by omega) (Or.inl rfl) (Or.inl rfl) i3 i4
        obtain ⟨s, hs, s1, s2, s3, s4, s5, s6, s7⟩ := key
        rw [← hs]
        clear hs
        generalize hmid : (a + b) / 2 = mid at *
        obtain ⟨e, he⟩ : ∃ e, e = mid + m - s := ⟨_, rfl⟩
        rw [← he] at s4 s5 s6 s7 ⊢
        have hme : mid ≤ e := by omega
        have hse : s + (e - m) = mid := by omega
        have g := fun k => rotIf_get (d := d) s2 s5 (by omega) k
        rw [hse] at g
        have pr : PermIn a b d (rotIf m s e d) := rotIf_perm s1 s4 h3
        dsimp only
        generalize rotIf m s e d = d1 at *
        have z1 := pr.1
        have lo : ∀ k, a ≤ k → k < s → d1[k]! = d[k]! := fun k _ h => by rw [g, if_pos (by omega)]
        have lo2 : ∀ k, s ≤ k → k < mid → d1[k]! = d[k + (m - s)]! := fun k h h' => by rw [g, if_neg (by omega), if_pos h']
        have hi1 : ∀ k, mid ≤ k → k < e → d1[k]! = d[k - (e - m)]! := fun k h h' => by rw [g, if_neg (by omega), if_neg (by omega)]
        have hi2 : ∀ k, e ≤ k → d1[k]! = d[k]! := fun k h => by rw [g, if_pos (by omega)]
        clear g
        have a1 : SortedIn lt' a s d1 := fun i j x1 x2 x3 => by rw [lo i x1 (by omega), lo j (by omega) x3]; exact hu i j x1 x2 (by omega)
        have a2 : SortedIn lt' s mid d1 := fun i j x1 x2 x3 => by rw [lo2 i x1 (by omega), lo2 j (by omega) x3]; exact hv _ _ (by omega) (by omega) (by omega)
        have a3 : SortedIn lt' mid e d1 := fun i j x1 x2 x3 => by rw [hi1 i x1 (by omega), hi1 j (by omega) x3]; exact hu _ _ (by omega) (by omega) (by omega)
        have a4 : SortedIn lt' e b d1 := fun i j x1 x2 x3 => by rw [hi2 i x1, hi2 j (by omega)]; exact hv _ _ (by omega) x2 x3
        have hle : ∀ i j, a ≤ i → i < mid → mid ≤ j → j < b → lt' d1[j]! d1[i]! = false := fun i j x1 x2 x3 x4 => by
          by_cases y1 : i < s
          · rw [lo i x1 y1]
            by_cases y2 : j < e
            · rw [hi1 j x3 y2]; exact hu _ _ x1 (by omega) (by omega)
            · rw [hi2 j (by omega)]; exact s6 i j x1 y1 (by omega) x4
          · rw [lo2 i (by omega) x2]
            by_cases y2 : j < e
            · rw [hi1 j x3 y2]; exact s7 _ _ (by omega) (by omega) (by omega) (by omega)
            · rw [hi2 j (by omega)]; exact hv _ _ (by omega) (by omega) x4
        have first : ∃ d2, d2 = (if a < s ∧ s < mid then symM lt f a s mid d1 else d1) ∧ PermIn a mid d1 d2 ∧ SortedIn lt' a mid d2 := by
          refine ⟨_, rfl, ?_⟩
          by_cases c : a < s ∧ s < mid
          · rw [if_pos c]
            exact symM_spec f a s mid d1 c.1 c.2 (by omega) (by omega) a1 a2 (fun i j x1 x2 x3 x4 => by rw [lo i x1 x2, lo2 j x3 x4]; exact hx _ _ x1 (by omega) (by omega) (by omega))
          · rw [if_neg c]
            refine ⟨permIn_refl d1 a mid, ?_⟩
            by_cases c3 : s ≤ a
            · obtain rfl : s = a := by omega
              exact a2
            · obtain rfl : s = mid := by omega
              exact a1
        obtain ⟨d2, hd2, p1, q1⟩ := first
        rw [← hd2]
        clear hd2
        have z2 := p1.1
        have keep : ∀ k, mid ≤ k → d2[k]! = d1[k]! := fun k hk => p1.2.1 k (Or.inr hk)
        have second : PermIn mid b d2 (if mid < e ∧ e < b then symM lt f mid e b d2 else d2) ∧ SortedIn lt' mid b (if mid < e ∧ e < b then symM lt f mid e b d2 else d2) := by
          have b3 : SortedIn lt' mid e d2 := fun i j x1 x2 x3 => by rw [keep i x1, keep j (by omega)]; exact a3 i j x1 x2 x3
          have b4 : SortedIn lt' e b d2 := fun i j x1 x2 x3 => by rw [keep i (by omega), keep j (by omega)]; exact a4 i j x1 x2 x3
          by_cases c : mid < e ∧ e < b
          · rw [if_pos c]
            exact symM_spec f mid e b d2 c.1 c.2 (by omega) (by omega) b3 b4 (fun i j x1 x2 x3 x4 => by rw [keep i x1, keep j (by omega), hi1 i x1 x2, hi2 j x3]; exact hx _ _ (by omega) (by omega) (by omega) x4)
          · rw [if_neg c]
            refine ⟨permIn_refl d2 mid b, ?_⟩
            by_cases c3 : e ≤ mid
            · obtain rfl : e = mid := by omega
              exact b4
            · obtain rfl : e = b := by omega
              exact b3
        exact ⟨permIn_trans _ _ _ a b pr (permIn_trans _ _ _ a b (permIn_mono d1 d2 a mid a b (Nat.le_refl _) (by omega) (by omega) p1) (permIn_mono d2 _ mid b a b (by omega) (Nat.le_refl _) (by omega) second.1)), sorted_join (by omega) (by omega) hle p1 q1 second.1 second.2⟩
end
end Go.Proofs.Ytnigfipjcnamfaa.St

/- Rows with their places, as they lie in memory: an array of them, ordered anew. -/
namespace Go.Proofs.Ytnigfipjcnamfaa
open Go.RowKit

/-- A row with its place. -/
structure El where
  (hi lo id : Int)
  p : Option Addr
  (n c : Nat)
  R : List Int
instance : Inhabited El := ⟨⟨0, 0, 0, none, 0, 0, []⟩⟩
def El.cell (t : El) : Nat → Value
  | 0 => .int .u64 t.hi
  | 1 => .int .u64 t.lo
  | 2 => .int .i64 t.id
  | _ => .slice t.p t.n t.c
def El.val (t : El) : Value := .agg #[.int .u64 t.hi, .int .u64 t.lo, .int .i64 t.id, .slice t.p t.n t.c]
def flatE (f : Nat → El) (n : Nat) : Array Value := ((List.range (4 * n)).map fun k => (f (k / 4)).cell (k % 4)).toArray
theorem flatE_size (f : Nat → El) (n : Nat) : (flatE f n).size = 4 * n := by simp [flatE]
theorem flatE_get (f : Nat → El) (n k : Nat) (h : k < 4 * n) : (flatE f n)[k]? = some ((f (k / 4)).cell (k % 4)) := by simp [flatE, h]
theorem flatE_at (f : Nat → El) (n j x : Nat) (h : j < n) (hx : x < 4) : (flatE f n)[j * 4 + x]? = some ((f j).cell x) := by
  rw [flatE_get f n _ (by omega), show (j * 4 + x) / 4 = j by omega, show (j * 4 + x) % 4 = x by omega]
def upd (f : Nat → El) (j : Nat) (t : El) : Nat → El := fun i => if i = j then t else f i
theorem flatE_set (f : Nat → El) (n j : Nat) (t : El) : ((((flatE f n).setIfInBounds (j * 4) (.int .u64 t.hi)).setIfInBounds (j * 4 + 1) (.int .u64 t.lo)).setIfInBounds (j * 4 + 2) (.int .i64 t.id)).setIfInBounds (j * 4 + 3) (.slice t.p t.n t.c) = flatE (upd f j t) n := by
  apply Array.ext'
  apply List.ext_getElem?
  intro k
  simp only [Array.toList_setIfInBounds, List.getElem?_set, List.length_set, Array.length_toList, flatE_size]
  by_cases hk : k < 4 * n
  · have e : (flatE (upd f j t) n).toList[k]? = some ((upd f j t (k / 4)).cell (k % 4)) := by rw [Array.getElem?_toList]; exact flatE_get _ _ _ hk
    have e2 : (flatE f n).toList[k]? = some ((f (k / 4)).cell (k % 4)) := by rw [Array.getElem?_toList]; exact flatE_get _ _ _ hk
    rw [e, e2]
    unfold upd
    by_cases h3 : j * 4 + 3 = k
    · rw [if_pos h3, if_pos (by omega), if_pos (by omega), show k % 4 = 3 by omega]; rfl
    · rw [if_neg h3]
      by_cases h2 : j * 4 + 2 = k
      · rw [if_pos h2, if_pos (by omega), if_pos (by omega), show k % 4 = 2 by omega]; rfl
      · rw [if_neg h2]
        by_cases h1 : j * 4 + 1 = k
        · rw [if_pos h1, if_pos (by omega), if_pos (by omega), show k % 4 = 1 by omega]; rfl
        · rw [if_neg h1]
          by_cases h0 : j * 4 = k
          · rw [if_pos h0, if_pos (by omega), if_pos (by omega), show k % 4 = 0 by omega]; rfl
          · rw [if_neg h0, if_neg (by omega)]
  · have e : (flatE (upd f j t) n).toList[k]? = none := by rw [List.getElem?_eq_none_iff, Array.length_toList, flatE_size]; omega
    have e2 : (flatE f n).toList[k]? = none := by rw [List.getElem?_eq_none_iff, Array.length_toList, flatE_size]; omega
    rw [e, e2]
    repeat' split
    all_goals first | rfl | omega
/-- They lie whole in a block. -/
def RowE (w : World) (g : Nat) (f : Nat → El) (n : Nat) : Prop := w.heap[g]? = some (.cells (flatE f n) 77 (0, 0))
theorem RowE.congr {w : World} {g : Nat} {f f' : Nat → El} {n : Nat} (h : RowE w g f n) (he : ∀ i, i < n → f i = f' i) : RowE w g f' n := by
  unfold RowE at h ⊢
  rw [h]
  congr 2
  unfold flatE
  congr 1
  apply List.map_congr_left
  intro k hk
  rw [he (k / 4) (by simp at hk; omega)]
/-- What a round reads of one of them. -/
structure ElAt (w : World) (g j : Nat) (t : El) : Prop where
  c0 : w.cell? ⟨g, j * 4, none⟩ = some (.int .u64 t.hi)
  c1 : w.cell? ⟨g, j * 4 + 1, none⟩ = some (.int .u64 t.lo)
  c2 : w.cell? ⟨g, j * 4 + 2, none⟩ = some (.int .i64 t.id)
  c3 : w.cell? ⟨g, j * 4 + 3, none⟩ = some (.slice t.p t.n t.c)
  f0 : w.frozen? ⟨g, j * 4, none⟩ = false
  f1 : w.frozen? ⟨g, j * 4 + 1, none⟩ = false
  f2 : w.frozen? ⟨g, j * 4 + 2, none⟩ = false
  f3 : w.frozen? ⟨g, j * 4 + 3, none⟩ = false
theorem RowE.elem {w : World} {g : Nat} {f : Nat → El} {n : Nat} (h : RowE w g f n) (j : Nat) (hj : j < n) : ElAt w g j (f j) :=
  ⟨(cell_of_row w g _ _ _ _ h).trans (flatE_at f n j 0 hj (by omega)), (cell_of_row w g _ _ _ _ h).trans (flatE_at f n j 1 hj (by omega)), (cell_of_row w g _ _ _ _ h).trans (flatE_at f n j 2 hj (by omega)), (cell_of_row w g _ _ _ _ h).trans (flatE_at f n j 3 hj (by omega)),
    frozen_of_row w g _ _ _ h, frozen_of_row w g _ _ _ h, frozen_of_row w g _ _ _ h, frozen_of_row w g _ _ _ h⟩
/-- One of them laid. -/
def putE (w : World) (g j : Nat) (t : El) : World := (((w.setCell ⟨g, j * 4, none⟩ (.int .u64 t.hi)).setCell ⟨g, j * 4 + 1, none⟩ (.int .u64 t.lo)).setCell ⟨g, j * 4 + 2, none⟩ (.int .i64 t.id)).setCell ⟨g, j * 4 + 3, none⟩ (.slice t.p t.n t.c)
theorem RowE.put {w : World} {g : Nat} {f : Nat → El} {n : Nat} (h : RowE w g f n) (j : Nat) (t : El) : RowE (putE w g j t) g (upd f j t) n := by
  unfold RowE putE
  rw [← flatE_set]
  exact heap_setCell_same _ g _ _ _ _ (heap_setCell_same _ g _ _ _ _ (heap_setCell_same _ g _ _ _ _ (heap_setCell_same _ g _ _ _ _ h)))
theorem putE_grown (w : World) (g j : Nat) (t : El) : w.grownBy (putE w g j t) (some g) := by
  unfold putE
  exact grown_twice (grown_twice (grown_twice (grown_setCell w g _ _) (grown_setCell _ g _ _)) (grown_setCell _ g _ _)) (grown_setCell _ g _ _)
/-- A world of the sort's: the elements stand in the order d; nothing else has changed. -/
structure SW (L : List El) (w0 : World) (g n : Nat) (d : Array Nat) (w : World) : Prop where
  row : RowE w g (fun i => L.getD d[i]! default) n
  grown : w0.grownBy w (some g)
  size : d.size = n
theorem SW.later {L : List El} {w0 w w' : World} {g n : Nat} {d : Array Nat} (h : SW L w0 g n d w) (hb : Below w.heap.size w w') : SW L w0 g n d w' :=
  ⟨(hb.block _ (Array.getElem?_eq_some_iff.1 h.row).1).trans h.row, grown_later h.grown hb, h.size⟩
theorem SW.swap {L : List El} {w0 w : World} {g n : Nat} {d : Array Nat} (h : SW L w0 g n d w) (p q : Nat) (hp : p < n) (hq : q < n) (hpq : p ≠ q) :
    SW L w0 g n (Go.Sort.swp d p q) (putE (putE w g p (L.getD d[q]! default)) g q (L.getD d[p]! default)) := by
  refine ⟨?_, grown_twice h.grown (grown_twice (putE_grown _ _ _ _) (putE_grown _ _ _ _)), by rw [Go.Sort.swp_size]; exact h.size⟩
  refine ((h.row.put p _).put q _).congr fun i _ => ?_
  rw [Go.Sort.swp_get d (by rw [h.size]; exact hp) (by rw [h.size]; exact hq)]
  unfold upd
  by_cases h1 : i = q
  · rw [if_pos h1, if_pos h1]
  · rw [if_neg h1, if_neg h1]
    by_cases h2 : i = p
    · rw [if_pos h2, if_pos h2]
    · rw [if_neg h2, if_neg h2]
def SwapRel (L : List El) (w0 : World) (g n p q c : Nat) (d : Array Nat) (i : Value) (wr : World) : Prop := ∃ k : Nat, k ≤ c ∧ i = .int .i64 k ∧ SW L w0 g n (St.swpR d p q k) wr
set_option maxRecDepth 100000 in
set_option maxHeartbeats 4000000 in
theorem swaprange_any (L : List El) (w0 : World) (g n cap p q c : Nat) (d : Array Nat) (fv : Value) (w : World) (h : SW L w0 g n d w) (h1 : p + c ≤ q) (h2 : q + c ≤ n) (hn : n ≤ 1000) :
    Calls Try.prog 71 #[.slice (some ⟨g, 0, none⟩) n cap, .int .i64 p, .int .i64 q, .int .i64 c, fv] w fun e w' => e = .returned (.tuple #[]) ∧ SW L w0 g n (St.swpR d p q c) w' := by
  have HS := Lib.hid h
  clear h
  go_enter Try.func71, Try.ntmps71
  go_wp2_with fail
  go_loopw [10] (fun i wr => SwapRel L w0 g n p q c d i wr) (fun i _ => c - (intOf i).toNat)
  case atStart => exact ⟨0, by omega, rfl, HS.out⟩
  case round =>
    obtain ⟨k, hk, rfl, hs⟩ := hrel
    have HR := Lib.hid hs
    clear hs HS
    by_cases hlt : k < c
    · have hsw := HR.out.swap (p + k) (q + k) (by omega) (by omega) (by omega)
      have ea := HR.out.row.elem (p + k) (by omega)
      have eb := HR.out.row.elem (q + k) (by omega)
      generalize L.getD (St.swpR d p q k)[p + k]! default = x at *
      generalize L.getD (St.swpR d p q k)[q + k]! default = y at *
      have HSW := Lib.hid hsw
      have er := (HR.out.row.put (p + k) y).elem (q + k) (by omega)
      rw [show upd (fun i => L.getD (St.swpR d p q k)[i]! default) (p + k) y (q + k) = L.getD (St.swpR d p q k)[q + k]! default from by unfold upd; rw [if_neg (by omega)]] at er
      generalize L.getD (St.swpR d p q k)[q + k]! default = y2 at er
      unfold putE at er
      obtain ⟨a0, a1, a2, a3, a4, a5, a6, a7⟩ := ea
      obtain ⟨b0, b1, b2, b3, b4, b5, b6, b7⟩ := eb
      obtain ⟨r0, r1, r2, r3, r4, r5, r6, r7⟩ := er
      have i1 : (0 : Int) ≤ (p : Int) + k ∧ (p : Int) + k < n := by omega
      have i2 : (0 : Int) ≤ (q : Int) + k ∧ (q : Int) + k < n := by omega
      have i3 : ((p : Int) + k).toNat = p + k := by omega
      have i4 : ((q : Int) + k).toNat = q + k := by omega
      clear hsw
      go_upto_region 3 with fail
      go_region
      all_goals
        have HS2 := HSW.out.later (Below.refl _ _).drew
        obtain ⟨w5, hw5⟩ : ∃ w5, w5 = (putE (putE wr g (p + k) y) g (q + k) x).drew := ⟨_, rfl⟩
        rw [← hw5] at HS2
        unfold putE at hw5
        rw [← hw5]
        have HS3 := Lib.hid HS2
        clear HS2 hw5 a0 a1 a2 a3 a4 a5 a6 a7 b0 b1 b2 b3 b4 b5 b6 b7 r0 r1 r2 r3 r4 r5 r6 r7 i1 i2 i3 i4
        go_wp2_with fail
        go_roundw
        case rel => exact ⟨k + 1, by omega, by go_num, HS3.out⟩
        case measure => simp [intOf]; omega
    · obtain rfl : k = c := by omega
      go_wp2_with fail
      go_end0
      exact ⟨rfl, HR.out⟩
end Go.Proofs.Ytnigfipjcnamfaa

/- slices' rotation of two blocks of rows with their places; the sort's function value. -/
namespace Go.Proofs.Ytnigfipjcnamfaa
open Go.RowKit

def RotRel (L : List El) (w0 : World) (g n a m b F i0 j0 : Nat) (d0 : Array Nat) (i j : Value) (wr : World) : Prop :=
  ∃ (f x y : Nat) (d : Array Nat), i = .int .i64 x ∧ j = .int .i64 y ∧ 1 ≤ x ∧ 1 ≤ y ∧ x + y ≤ f ∧ a + x ≤ m ∧ m + y ≤ b ∧ SW L w0 g n d wr ∧ St.rot m f x y d = St.rot m F i0 j0 d0
set_option maxRecDepth 100000 in
set_option maxHeartbeats 4000000 in
theorem rotate_any (L : List El) (w0 : World) (g n cap a m b : Nat) (d : Array Nat) (fv : Value) (w : World) (h : SW L w0 g n d w) (h1 : a < m) (h2 : m < b) (h3 : b ≤ n) (hn : n ≤ 1000) :
    Calls Try.prog 69 #[.slice (some ⟨g, 0, none⟩) n cap, .int .i64 a, .int .i64 m, .int .i64 b, fv] w fun e w' => e = .returned (.tuple #[]) ∧ SW L w0 g n (St.rot m (m - a + (b - m)) (m - a) (b - m) d) w' := by
  have HS := Lib.hid h
  clear h
  obtain ⟨i0, hi0⟩ : ∃ i0, i0 = m - a := ⟨_, rfl⟩
  obtain ⟨j0, hj0⟩ : ∃ j0, j0 = b - m := ⟨_, rfl⟩
  have e1 : (m : Int) - a = i0 := by omega
  have e2 : (b : Int) - m = j0 := by omega
  have z1 : 1 ≤ i0 ∧ a + i0 = m := by omega
  have z2 : 1 ≤ j0 ∧ m + j0 = b := by omega
  rw [← hi0, ← hj0]
  clear hi0 hj0
  go_enter Try.func69, Try.ntmps69
  go_wp2_with fail
  clear e1 e2
  go_loopw [10, 11] (fun i j wr => RotRel L w0 g n a m b (i0 + j0) i0 j0 d i j wr) (fun i j _ => (intOf i).toNat + (intOf j).toNat)
  case atStart => exact ⟨i0 + j0, i0, j0, d, rfl, rfl, z1.1, z2.1, Nat.le_refl _, by omega, by omega, HS.out, rfl⟩
  case round =>
    obtain ⟨f, x, y, d1, rfl, rfl, x1, y1, hf, hx, hy, hs, hr⟩ := hrel
    have HR := Lib.hid hs
    have HQ := Lib.hid hr
    clear hs hr HS
    obtain ⟨f', rfl⟩ : ∃ f', f = f' + 1 := ⟨f - 1, by omega⟩
    by_cases hxy : x = y
    · subst hxy
      have q1 : ((x : Int) != x) = false := by simp
      have hc := swaprange_any L w0 g n cap (m - x) m x d1 fv wr HR.out (by omega) (by omega) hn
      rw [show ((m - x : Nat) : Int) = (m : Int) - x by omega] at hc
      have HC := Lib.hid hc
      have HE := Lib.hid (show St.swpR d1 (m - x) m x = St.rot m (i0 + j0) i0 j0 d by rw [← HQ.out, St.rot, if_pos rfl])
      clear hc
      go_wp2_with fail
      refine HC.out.mono ?_
      rintro _ w5 ⟨rfl, hs5⟩
      rw [HE.out] at hs5
      have HS5 := Lib.hid hs5
      clear hs5
      go_wp2_with fail
      go_end0
      exact ⟨rfl, HS5.out⟩
    · have q1 : ((x : Int) != y) = true := by simp only [bne_iff_ne, ne_eq]; omega
      by_cases hyx : y < x
      · have hc := swaprange_any L w0 g n cap (m - x) m y d1 fv wr HR.out (by omega) (by omega) hn
        rw [show ((m - x : Nat) : Int) = (m : Int) - x by omega] at hc
        have HC := Lib.hid hc
        have HE := Lib.hid (show St.rot m f' (x - y) y (St.swpR d1 (m - x) m y) = St.rot m (i0 + j0) i0 j0 d by rw [← HQ.out, St.rot, if_neg hxy, if_pos hyx])
        clear hc hxy
        go_wp2_with fail
        refine HC.out.mono ?_
        rintro _ w5 ⟨rfl, hs5⟩
        have HS5 := Lib.hid hs5
        clear hs5
        go_wp2_with fail
        go_roundw
        case rel => exact ⟨f', x - y, y, _, congrArg (Value.int .i64) (by omega), rfl, by omega, y1, by omega, by omega, hy, HS5.out, HE.out⟩
        case measure => simp [intOf]; omega
      · have hc := swaprange_any L w0 g n cap (m - x) (m + y - x) x d1 fv wr HR.out (by omega) (by omega) hn
        rw [show ((m - x : Nat) : Int) = (m : Int) - x by omega, show ((m + y - x : Nat) : Int) = (m : Int) + y - x by omega] at hc
        have HC := Lib.hid hc
        have HE := Lib.hid (show St.rot m f' x (y - x) (St.swpR d1 (m - x) (m + y - x) x) = St.rot m (i0 + j0) i0 j0 d by rw [← HQ.out, St.rot, if_neg hxy, if_neg hyx])
        have hlt : x < y := by omega
        clear hc hxy
        go_wp2_with fail
        refine HC.out.mono ?_
        rintro _ w5 ⟨rfl, hs5⟩
        have HS5 := Lib.hid hs5
        clear hs5
        go_wp2_with fail
        go_roundw
        case rel => exact ⟨f', x, y - x, _, rfl, congrArg (Value.int .i64) (by omega), x1, by omega, by omega, hx, by omega, HS5.out, HE.out⟩
        case measure => simp [intOf]; omega
/-- How two of them stand, by their places. -/
def ecmp (x y : El) : Int := pcmp x.hi x.lo x.id y.hi y.lo y.id
theorem boxedE (w : World) (t : El) : ElAt (w.alloc (.cells #[.int .u64 t.hi, .int .u64 t.lo, .int .i64 t.id, .slice t.p t.n t.c] 77)) w.heap.size 0 t := by
  have h := heap_alloc_new w (.cells #[.int .u64 t.hi, .int .u64 t.lo, .int .i64 t.id, .slice t.p t.n t.c] 77)
  exact ⟨cell_of_row _ _ 0 _ _ _ h, cell_of_row _ _ 1 _ _ _ h, cell_of_row _ _ 2 _ _ _ h, cell_of_row _ _ 3 _ _ _ h, frozen_of_row _ _ _ _ _ h, frozen_of_row _ _ _ _ _ h, frozen_of_row _ _ _ _ _ h, frozen_of_row _ _ _ _ _ h⟩
set_option maxRecDepth 100000 in
set_option maxHeartbeats 4000000 in
theorem sortfn_any (x y : El) (w : World) :
    Calls Try.prog 44 #[x.val, y.val] w fun e w' => e = .returned (.int .i64 (ecmp x y)) ∧ Below w.heap.size w w' := by
  have hb1 : Below w.heap.size w (w.alloc (.cells #[.int .u64 x.hi, .int .u64 x.lo, .int .i64 x.id, .slice x.p x.n x.c] 77)) := (Below.refl _ _).alloc (Nat.le_refl _) _
  have hs1 : (w.alloc (.cells #[.int .u64 x.hi, .int .u64 x.lo, .int .i64 x.id, .slice x.p x.n x.c] 77)).heap.size = w.heap.size + 1 := by simp
  have a := boxedE w x
  unfold El.val
  go_enter Try.func44, Try.ntmps44
  go_upto_region 1 with fail
  generalize w.alloc (.cells #[.int .u64 x.hi, .int .u64 x.lo, .int .i64 x.id, .slice x.p x.n x.c] 77) = w1 at *
  have hb2 : Below w1.heap.size w1 (w1.alloc (.cells #[.int .u64 y.hi, .int .u64 y.lo, .int .i64 y.id, .slice y.p y.n y.c] 77)) := (Below.refl _ _).alloc (Nat.le_refl _) _
  have b := boxedE w1 y
  rw [hs1] at b
  generalize w1.alloc (.cells #[.int .u64 y.hi, .int .u64 y.lo, .int .i64 y.id, .slice y.p y.n y.c] 77) = w2 at *
  obtain ⟨b0, b1, b2, -, -, -, -, -⟩ := b
  have a0 := (hb2.cell (p := ⟨w.heap.size, 0 * 4, none⟩) (by show w.heap.size < _; omega)).trans a.c0
  have a1 := (hb2.cell (p := ⟨w.heap.size, 0 * 4 + 1, none⟩) (by show w.heap.size < _; omega)).trans a.c1
  have a2 := (hb2.cell (p := ⟨w.heap.size, 0 * 4 + 2, none⟩) (by show w.heap.size < _; omega)).trans a.c2
  simp only [Nat.zero_mul, Nat.zero_add] at a0 a1 a2 b0 b1 b2
  have HB := Lib.hid (hb1.trans (hb2.mono (by omega)))
  have HC := Lib.hid (compare_any x.hi x.lo x.id y.hi y.lo y.id w2)
  clear a hb1 hs1 hb2
  go_wp2_with fail
  refine HC.out.mono ?_
  rintro _ w3 ⟨rfl, hb3⟩
  have B3 := Lib.hid (HB.out.trans (hb3.mono HB.out.size))
  clear hb3
  go_wp2_with fail
  go_ret
  exact ⟨rfl, B3.out⟩
end Go.Proofs.Ytnigfipjcnamfaa

/- slices' insertion sort of rows with their places. -/
namespace Go.Proofs.Ytnigfipjcnamfaa
open Go.RowKit
open Go.Sort (insInner insOuter insertionSort swp)

theorem insInner_go {lt : Nat → Nat → Bool} {a j : Nat} {d : Array Nat} (hj : a < j + 1) (hl : lt d[j + 1]! d[j]! = true) : insInner lt a (j + 1) d = insInner lt a j (swp d (j + 1) j) := by
  rw [insInner, if_pos (by rw [hl]; simp; omega)]
theorem insInner_stop {lt : Nat → Nat → Bool} {a j : Nat} {d : Array Nat} (h : j ≤ a ∨ lt d[j]! d[j - 1]! = false) : insInner lt a j d = d := by
  cases j with
  | zero => rfl
  | succ j =>
    rw [insInner, if_neg]
    rcases h with h | h
    · simp; omega
    · rw [Nat.add_sub_cancel] at h
      rw [h]; simp
theorem insOuter_go {lt : Nat → Nat → Bool} {a b i : Nat} {d : Array Nat} (h : i < b) : insOuter lt a b i d = insOuter lt a b (i + 1) (insInner lt a i d) := by rw [insOuter, if_pos h]
theorem insOuter_stop {lt : Nat → Nat → Bool} {a b i : Nat} {d : Array Nat} (h : ¬ i < b) : insOuter lt a b i d = d := by rw [insOuter, if_neg h]
/-- Which of two of them is ahead, by their numbers. -/
def elt (L : List El) (i j : Nat) : Bool := decide (ecmp (L.getD i default) (L.getD j default) < 0)
/-- Two elements are read, wherever the world has only grown. -/
theorem SW.two {L : List El} {w0 w : World} {g n : Nat} {d : Array Nat} (h : SW L w0 g n d w) (P Q : Nat) (hP : P < n) (hQ : Q < n) (x y : El) (hx : x = L.getD d[P]! default) (hy : y = L.getD d[Q]! default) :
    w.cell? ⟨g, (P) * 4, none⟩ = some (.int .u64 x.hi) ∧ w.cell? ⟨g, (P) * 4 + 1, none⟩ = some (.int .u64 x.lo) ∧ w.cell? ⟨g, (P) * 4 + 2, none⟩ = some (.int .i64 x.id) ∧ w.cell? ⟨g, (P) * 4 + 3, none⟩ = some (.slice x.p x.n x.c) ∧ w.cell? ⟨g, (Q) * 4, none⟩ = some (.int .u64 y.hi) ∧ w.cell? ⟨g, (Q) * 4 + 1, none⟩ = some (.int .u64 y.lo) ∧ w.cell? ⟨g, (Q) * 4 + 2, none⟩ = some (.int .i64 y.id) ∧ w.cell? ⟨g, (Q) * 4 + 3, none⟩ = some (.slice y.p y.n y.c) := by
  subst hx hy
  have a := h.row.elem P hP
  have b := h.row.elem Q hQ
  exact ⟨a.c0, a.c1, a.c2, a.c3, b.c0, b.c1, b.c2, b.c3⟩
def InsRel (L : List El) (w0 : World) (g n a b : Nat) (d : Array Nat) (i : Value) (wr : World) : Prop :=
  ∃ (k : Nat) (dk : Array Nat), a < k ∧ k ≤ b + 1 ∧ i = .int .i64 k ∧ SW L w0 g n dk wr ∧ insOuter (elt L) a b k dk = insOuter (elt L) a b (a + 1) d
def InnRel (L : List El) (w0 : World) (g n a i : Nat) (di : Array Nat) (v : Value) (wr : World) : Prop :=
  ∃ (j : Nat) (dj : Array Nat), a ≤ j ∧ j ≤ i ∧ v = .int .i64 j ∧ SW L w0 g n dj wr ∧ insInner (elt L) a j dj = insInner (elt L) a i di
set_option maxRecDepth 100000 in
set_option maxHeartbeats 4000000 in
theorem insertion_any (L : List El) (w0 : World) (g n cap a b : Nat) (d : Array Nat) (w : World) (h : SW L w0 g n d w) (hab : a ≤ b) (hb : b ≤ n) (hn : n ≤ 1000) :
    Calls Try.prog 62 #[.slice (some ⟨g, 0, none⟩) n cap, .int .i64 a, .int .i64 b, .func (.func 44) #[] #[]] w fun e w' => e = .returned (.tuple #[]) ∧ SW L w0 g n (insertionSort (elt L) d a b) w' := by
  have HS := Lib.hid h
  clear h
  unfold insertionSort
  go_enter Try.func62, Try.ntmps62
  go_wp2_with fail
  go_loopw [8] (fun i wr => InsRel L w0 g n a b d i wr) (fun i _ => b - (intOf i).toNat)
  case atStart => exact ⟨a + 1, d, by omega, by omega, by go_num, HS.out, rfl⟩
  case round =>
    obtain ⟨i, di, hi1, hi2, rfl, hs, hr⟩ := hrel
    have HR := Lib.hid hs
    have HQ := Lib.hid hr
    clear hs hr HS
    by_cases hlt : i < b
    · go_wp2_with fail
      go_loopw [9] (fun v wr => InnRel L w0 g n a i di v wr) (fun v _ => (intOf v).toNat)
      case atStart => exact ⟨i, di, by omega, Nat.le_refl _, rfl, HR.out, rfl⟩
      case round =>
        obtain ⟨j, dj, hj1, hj2, rfl, hs2, hr2⟩ := hrel
        have HR2 := Lib.hid hs2
        have HQ2 := Lib.hid hr2
        clear hs2 hr2 HR
        have out : (j ≤ a ∨ elt L dj[j]! dj[j - 1]! = false) → insOuter (elt L) a b (i + 1) dj = insOuter (elt L) a b (a + 1) d := fun hst => by
          rw [← HQ.out, insOuter_go hlt, ← HQ2.out, insInner_stop hst]
        have OUT := Lib.hid out
        clear out
        by_cases hja : a < j
        · obtain ⟨jp, rfl⟩ : ∃ jp, j = jp + 1 := ⟨j - 1, by omega⟩
          obtain ⟨x, hx⟩ : ∃ x, x = L.getD dj[jp + 1]! default := ⟨_, rfl⟩
          obtain ⟨y, hy⟩ : ∃ y, y = L.getD dj[jp]! default := ⟨_, rfl⟩
          have i1 : (0 : Int) ≤ (jp : Int) + 1 ∧ (jp : Int) + 1 < n := by omega
          have i2 : (0 : Int) ≤ jp ∧ (jp : Int) < n := by omega
          have i3 : ((jp : Int) + 1).toNat = jp + 1 := by omega
          have i4 : IntKind.i64.wrap (jp : Int) = jp := IntWalk.i64_in _ (by omega)
          have hgt : (a : Int) < (jp : Int) + 1 := by omega
          have HX := Lib.hid hx
          have HY := Lib.hid hy
          have HTW := Lib.hid (show ∀ w', Below wr.heap.size wr w' → (Below wr.heap.size wr w' ∧ w'.cell? ⟨g, (jp + 1) * 4, none⟩ = some (.int .u64 x.hi) ∧ w'.cell? ⟨g, (jp + 1) * 4 + 1, none⟩ = some (.int .u64 x.lo) ∧ w'.cell? ⟨g, (jp + 1) * 4 + 2, none⟩ = some (.int .i64 x.id) ∧ w'.cell? ⟨g, (jp + 1) * 4 + 3, none⟩ = some (.slice x.p x.n x.c) ∧ w'.cell? ⟨g, (jp) * 4, none⟩ = some (.int .u64 y.hi) ∧ w'.cell? ⟨g, (jp) * 4 + 1, none⟩ = some (.int .u64 y.lo) ∧ w'.cell? ⟨g, (jp) * 4 + 2, none⟩ = some (.int .i64 y.id) ∧ w'.cell? ⟨g, (jp) * 4 + 3, none⟩ = some (.slice y.p y.n y.c)) from fun w' hb => ⟨hb, (HR2.out.later hb).two (jp + 1) jp (by omega) (by omega) x y HX.out HY.out⟩)
          have hc := sortfn_any x y
          unfold El.val at hc
          obtain ⟨z, hz⟩ : ∃ z, z = ecmp x y := ⟨_, rfl⟩
          rw [← hz] at hc
          have HC := Lib.hid (show ∀ w', Below wr.heap.size wr w' → Calls Try.prog 44 #[.agg #[.int .u64 x.hi, .int .u64 x.lo, .int .i64 x.id, .slice x.p x.n x.c], .agg #[.int .u64 y.hi, .int .u64 y.lo, .int .i64 y.id, .slice y.p y.n y.c]] w' fun e w'' => e = .returned (.int .i64 z) ∧ Below wr.heap.size wr w'' from fun w' hb => (hc w').mono fun e w'' h => ⟨h.1, hb.trans (h.2.mono hb.size)⟩)
          have HLT := Lib.hid (show elt L dj[jp + 1]! dj[jp]! = decide (z < 0) by unfold elt; rw [hz, hx, hy])
          clear hx hy hc hz
          go_upto_region 4 with fail
          go_cut [34] from 18 to 33 (fun s34 wx => s34 = .bool (decide (z < 0)) ∧ SW L w0 g n dj wx)
          case first =>
            go_region_held3 (fun w' => Below wr.heap.size wr w' ∧ w'.cell? ⟨g, (jp + 1) * 4, none⟩ = some (.int .u64 x.hi) ∧ w'.cell? ⟨g, (jp + 1) * 4 + 1, none⟩ = some (.int .u64 x.lo) ∧ w'.cell? ⟨g, (jp + 1) * 4 + 2, none⟩ = some (.int .i64 x.id) ∧ w'.cell? ⟨g, (jp + 1) * 4 + 3, none⟩ = some (.slice x.p x.n x.c) ∧ w'.cell? ⟨g, (jp) * 4, none⟩ = some (.int .u64 y.hi) ∧ w'.cell? ⟨g, (jp) * 4 + 1, none⟩ = some (.int .u64 y.lo) ∧ w'.cell? ⟨g, (jp) * 4 + 2, none⟩ = some (.int .i64 y.id) ∧ w'.cell? ⟨g, (jp) * 4 + 3, none⟩ = some (.slice y.p y.n y.c)) (first | assumption | exact HTW.out _ (Below.drew (Below.refl _ _)) | exact HTW.out _ (Below.refl _ _)) ((first
              | (go_at_call 44; (with_reducible refine (HC.out _ ?hx1).mono ?_); (case hx1 => first | assumption | exact (Below.refl _ _).drew | exact Below.refl _ _); rintro _ w7 ⟨rfl, hb7⟩; have k7 := HTW.out _ hb7)))
            all_goals
              go_wp2_with fail
              go_meet
              exact ⟨rfl, HR2.out.later hb7⟩
          case rest =>
            obtain ⟨rfl, hs3⟩ := hcut
            obtain ⟨w3, hw3⟩ : ∃ w3, w3 = wc := ⟨_, rfl⟩
            rw [← hw3] at hs3 ⊢
            clear hw3
            have HR3 := Lib.hid hs3
            clear hs3 HTW HC
            by_cases hz : z < 0
            · have HS1 := Lib.hid (show elt L dj[jp + 1]! dj[jp]! = true by rw [HLT.out]; exact decide_eq_true hz)
              clear HX HY HR2
              clear x y
              have hsw := HR3.out.swap (jp + 1) (jp) (by omega) (by omega) (by omega)
              have ea := HR3.out.row.elem (jp + 1) (by omega)
              have eb := HR3.out.row.elem (jp) (by omega)
              have er0 := fun y => (HR3.out.row.put (jp + 1) y).elem (jp) (by omega)
              obtain ⟨x, hxx⟩ : ∃ x, x = L.getD (dj)[jp + 1]! default := ⟨_, rfl⟩
              obtain ⟨y, hyy⟩ : ∃ y, y = L.getD (dj)[jp]! default := ⟨_, rfl⟩
              have er := er0 y
              rw [show upd (fun i => L.getD (dj)[i]! default) (jp + 1) y (jp) = y from by unfold upd; rw [if_neg (by omega), hyy]] at er
              rw [← hxx] at ea hsw
              rw [← hyy] at eb hsw
              have HSW := Lib.hid hsw
              unfold putE at er
              obtain ⟨a0, a1, a2, a3, a4, a5, a6, a7⟩ := ea
              obtain ⟨b0, b1, b2, b3, b4, b5, b6, b7⟩ := eb
              obtain ⟨r0, r1, r2, r3, r4, r5, r6, r7⟩ := er
              clear hsw er0 hxx hyy
              go_upto_region 6 with fail
              go_region
              all_goals
                have HS2 := HSW.out.later (Below.refl _ _).drew
                obtain ⟨w5, hw5⟩ : ∃ w5, w5 = (putE (putE w3 g (jp + 1) y) g (jp) x).drew := ⟨_, rfl⟩
                rw [← hw5] at HS2
                unfold putE at hw5
                rw [← hw5]
                have HS5 := Lib.hid HS2
                clear HS2 hw5 a0 a1 a2 a3 a4 a5 a6 a7 b0 b1 b2 b3 b4 b5 b6 b7 r0 r1 r2 r3 r4 r5 r6 r7 i1 i2 i3 i4 hgt
                go_wp2_with fail
                go_roundw
                case rel => exact ⟨jp, swp dj (jp + 1) jp, by omega, by omega, by first | rfl | go_num | (congr 1; omega), HS5.out, by rw [← HQ2.out, insInner_go hja HS1.out]⟩
                case measure => first | (simp [intOf]; done) | (simp [intOf]; omega)
            · have HO2 := Lib.hid (OUT.out (Or.inr (by rw [Nat.add_sub_cancel, HLT.out]; exact decide_eq_false hz)))
              go_wp2_with fail
              go_roundw
              case rel => exact ⟨i + 1, dj, by omega, by omega, by go_num, HR3.out, HO2.out⟩
              case measure => first | (simp [intOf]; done) | (simp [intOf]; omega)
        · have hgt : decide ((j : Int) > (a : Int)) = false := decide_eq_false (by omega)
          have hgt' : ¬ (a : Int) < (j : Int) := by omega
          have HO2 := Lib.hid (OUT.out (Or.inl (by omega)))
          have HD := Lib.hid (show ∀ m, SW L w0 g n dj (wr.drewN m) from fun m => HR2.out.later (Below.drewN (Below.refl _ _) m))
          go_upto_region 4 with fail
          go_quiet (fail)
          go_wp2_with fail
          go_roundw
          case rel => exact ⟨i + 1, dj, by omega, by omega, by go_num, HD.out _, HO2.out⟩
          case measure => first | (simp [intOf]; done) | (simp [intOf]; omega)
    · go_wp2_with fail
      go_end0
      refine ⟨rfl, ?_⟩
      rw [← HQ.out, insOuter_stop hlt]
      exact HR.out
end Go.Proofs.Ytnigfipjcnamfaa

/- slices' symmetric merge of rows with their places. -/
namespace Go.Proofs.Ytnigfipjcnamfaa
open Go.RowKit
open Go.Sort (insInner insOuter insertionSort swp)

def BsRel (L : List El) (w0 : World) (g n : Nat) (d : Array Nat) (f : Nat → Bool) (LO HI N : Nat) (lo hi : Value) (wr : World) : Prop :=
  ∃ (x y k : Nat), lo = .int .i64 x ∧ hi = .int .i64 y ∧ LO ≤ x ∧ x ≤ y ∧ y ≤ HI ∧ y - x ≤ k ∧ SW L w0 g n d wr ∧ St.bs f k x y = N
theorem bs_done {f : Nat → Bool} {k x y N : Nat} (h : St.bs f k x y = N) (hx : ¬ x < y) : x = N := by
  cases k with
  | zero => exact h
  | succ k => rw [St.bs, if_neg hx] at h; exact h
theorem bs_yes {f : Nat → Bool} {k x y N : Nat} (h : St.bs f k x y = N) (hx : x < y) (hk : y - x ≤ k) (hf : f ((x + y) / 2) = true) : ∃ k', y - ((x + y) / 2 + 1) ≤ k' ∧ St.bs f k' ((x + y) / 2 + 1) y = N := by
  cases k with
  | zero => omega
  | succ k => rw [St.bs, if_pos hx, if_pos hf] at h; exact ⟨k, by omega, h⟩
theorem bs_no {f : Nat → Bool} {k x y N : Nat} (h : St.bs f k x y = N) (hx : x < y) (hk : y - x ≤ k) (hf : f ((x + y) / 2) = false) : ∃ k', (x + y) / 2 - x ≤ k' ∧ St.bs f k' x ((x + y) / 2) = N := by
  cases k with
  | zero => omega
  | succ k => rw [St.bs, if_pos hx, if_neg (by rw [hf]; simp)] at h; exact ⟨k, by omega, h⟩
set_option maxRecDepth 100000 in
set_option maxHeartbeats 4000000 in
theorem symmerge_any (L : List El) (w0 : World) (g n cap : Nat) (hn : n ≤ 1000) : ∀ (F a m b : Nat) (d : Array Nat) (w : World), SW L w0 g n d w → a < m → m < b → b ≤ n → b - a ≤ F →
    Calls Try.prog 63 #[.slice (some ⟨g, 0, none⟩) n cap, .int .i64 a, .int .i64 m, .int .i64 b, .func (.func 44) #[] #[]] w fun e w' => e = .returned (.tuple #[]) ∧ SW L w0 g n (St.symM (elt L) F a m b d) w' := by
  intro F
  induction F with
  | zero => intro a m b d w _ h1 h2 _ h4; omega
  | succ F ih =>
  intro a m b d w h h1 h2 h3 h4
  have HS := Lib.hid h
  have IH := Lib.hid ih
  clear h ih
  have sz := HS.out.size
  have HSZ := Lib.hid sz
  clear sz
  by_cases c1 : m - a = 1
  case pos =>
    rw [show St.symM (elt L) (F + 1) a m b d = St.up a (St.bs (fun c => elt L d[c]! d[a]!) (b - m) m b - 1 - a) d from by rw [St.symM, if_pos c1]]
    obtain ⟨N, hN⟩ : ∃ N, N = St.bs (fun c => elt L d[c]! d[a]!) (b - m) m b := ⟨_, rfl⟩
    rw [← hN]
    have q0 : (((m : Int) - a) == 1) = true := by simp only [beq_iff_eq]; omega
    have HN := Lib.hid hN
    have hma : m = a + 1 := by omega
    have HMA := Lib.hid hma
    clear hN c1 hma
    go_enter Try.func63, Try.ntmps63
    go_upto_block 0 with fail
    clear q0
    have hma := HMA.out
    have ham : a < m ∧ m ≤ n := by omega
    clear hma
    go_cut [10] from 31 to 53 (fun s10 wx => s10 = .int .i64 N ∧ m ≤ N ∧ N ≤ b ∧ SW L w0 g n d wx)
    case first =>
      go_wp2_with fail
      go_loopw [10, 11] (fun lo hi wr => BsRel L w0 g n d (fun c => elt L d[c]! d[a]!) (m) (b) N lo hi wr) (fun lo hi _ => (intOf hi).toNat - (intOf lo).toNat)
      case atStart => exact ⟨m, b, b - m, rfl, rfl, Nat.le_refl _, by omega, Nat.le_refl _, Nat.le_refl _, HS.out, HN.out.symm⟩
      case round =>
        obtain ⟨x1, y1, k, rfl, rfl, l1, l2, l3, l4, hs, hb⟩ := hrel
        have HR := Lib.hid hs
        have HB := Lib.hid hb
        clear hs hb HS
        by_cases hlt : x1 < y1
        · obtain ⟨c, hc⟩ : ∃ c, c = (x1 + y1) / 2 := ⟨_, rfl⟩
          have hce : ((x1 : Int) + y1) / 2 = c := by omega
          have hc1 : x1 ≤ c ∧ c < y1 := by omega
          have HYES := Lib.hid (show (elt L d[c]! d[a]!) = true → ∃ k', y1 - (c + 1) ≤ k' ∧ St.bs (fun c => elt L d[c]! d[a]!) k' (c + 1) y1 = N from fun hf => by subst hc; exact bs_yes HB.out hlt l4 hf)
          have HNO := Lib.hid (show (elt L d[c]! d[a]!) = false → ∃ k', c - x1 ≤ k' ∧ St.bs (fun c => elt L d[c]! d[a]!) k' x1 c = N from fun hf => by subst hc; exact bs_no HB.out hlt l4 hf)
          have i1 : (0 : Int) ≤ c ∧ (c : Int) < n := by omega
          have HCE := Lib.hid hce
          clear hc hce
          go_upto_region 5 with fail
          rw [HCE.out]
          have i2 : (0 : Int) ≤ a ∧ (a : Int) < n := by omega
          obtain ⟨x, hx⟩ : ∃ x, x = L.getD (d)[c]! default := ⟨_, rfl⟩
          obtain ⟨y, hy⟩ : ∃ y, y = L.getD (d)[a]! default := ⟨_, rfl⟩
          have HX := Lib.hid hx
          have HY := Lib.hid hy
          have HTW := Lib.hid (show ∀ w', Below wr.heap.size wr w' → (Below wr.heap.size wr w' ∧ w'.cell? ⟨g, (c) * 4, none⟩ = some (.int .u64 x.hi) ∧ w'.cell? ⟨g, (c) * 4 + 1, none⟩ = some (.int .u64 x.lo) ∧ w'.cell? ⟨g, (c) * 4 + 2, none⟩ = some (.int .i64 x.id) ∧ w'.cell? ⟨g, (c) * 4 + 3, none⟩ = some (.slice x.p x.n x.c) ∧ w'.cell? ⟨g, (a) * 4, none⟩ = some (.int .u64 y.hi) ∧ w'.cell? ⟨g, (a) * 4 + 1, none⟩ = some (.int .u64 y.lo) ∧ w'.cell? ⟨g, (a) * 4 + 2, none⟩ = some (.int .i64 y.id) ∧ w'.cell? ⟨g, (a) * 4 + 3, none⟩ = some (.slice y.p y.n y.c)) from fun w' hb => ⟨hb, (HR.out.later hb).two (c) (a) (by omega) (by omega) x y HX.out HY.out⟩)
          have hc := sortfn_any x y
          unfold El.val at hc
          obtain ⟨z, hz⟩ : ∃ z, z = ecmp x y := ⟨_, rfl⟩
          rw [← hz] at hc
          have HC := Lib.hid (show ∀ w', Below wr.heap.size wr w' → Calls Try.prog 44 #[.agg #[.int .u64 x.hi, .int .u64 x.lo, .int .i64 x.id, .slice x.p x.n x.c], .agg #[.int .u64 y.hi, .int .u64 y.lo, .int .i64 y.id, .slice y.p y.n y.c]] w' fun e w'' => e = .returned (.int .i64 z) ∧ Below wr.heap.size wr w'' from fun w' hb => (hc w').mono fun e w'' h => ⟨h.1, hb.trans (h.2.mono hb.size)⟩)
          have HLT := Lib.hid (show elt L (d)[c]! (d)[a]! = decide (z < 0) by unfold elt; rw [hz, hx, hy])
          clear hx hy hc hz
          go_upto_region 5 with fail
          go_cut [50] from 40 to 49 (fun sv wx => sv = .bool (decide (z < 0)) ∧ SW L w0 g n (d) wx)
          case first =>
            go_region_held3 (fun w' => Below wr.heap.size wr w' ∧ w'.cell? ⟨g, (c) * 4, none⟩ = some (.int .u64 x.hi) ∧ w'.cell? ⟨g, (c) * 4 + 1, none⟩ = some (.int .u64 x.lo) ∧ w'.cell? ⟨g, (c) * 4 + 2, none⟩ = some (.int .i64 x.id) ∧ w'.cell? ⟨g, (c) * 4 + 3, none⟩ = some (.slice x.p x.n x.c) ∧ w'.cell? ⟨g, (a) * 4, none⟩ = some (.int .u64 y.hi) ∧ w'.cell? ⟨g, (a) * 4 + 1, none⟩ = some (.int .u64 y.lo) ∧ w'.cell? ⟨g, (a) * 4 + 2, none⟩ = some (.int .i64 y.id) ∧ w'.cell? ⟨g, (a) * 4 + 3, none⟩ = some (.slice y.p y.n y.c)) (first | assumption | exact HTW.out _ (Below.drew (Below.refl _ _)) | exact HTW.out _ (Below.refl _ _)) ((first
              | (go_at_call 44; (with_reducible refine (HC.out _ ?hx1).mono ?_); (case hx1 => first | assumption | exact (Below.refl _ _).drew | exact Below.refl _ _); rintro _ w7 ⟨rfl, hb7⟩; have k7 := HTW.out _ hb7)))
            all_goals
              go_wp2_with fail
              go_meet
              exact ⟨rfl, HR.out.later hb7⟩
          case rest =>
            obtain ⟨rfl, hs3⟩ := hcut
            obtain ⟨w3, hw3⟩ : ∃ w3, w3 = wc := ⟨_, rfl⟩
            rw [← hw3] at hs3 ⊢
            clear hw3
            have HR3 := Lib.hid hs3
            clear hs3 HTW HC HX HY HR
            clear x y
            by_cases hz : z < 0
            · obtain ⟨k', hk', hbs'⟩ := HYES.out (by rw [HLT.out]; exact decide_eq_true hz)
              have HBS := Lib.hid hbs'
              clear hbs' HLT HYES HNO
              go_wp2_with fail
              go_roundw
              case rel => exact ⟨c + 1, y1, k', by first | rfl | go_num, rfl, by omega, by omega, l3, hk', HR3.out, HBS.out⟩
              case measure => first | (simp [intOf]; done) | (simp [intOf]; omega)
            · obtain ⟨k', hk', hbs'⟩ := HNO.out (by rw [HLT.out]; exact decide_eq_false hz)
              have HBS := Lib.hid hbs'
              clear hbs' HLT HYES HNO
              go_wp2_with fail
              go_roundw
              case rel => exact ⟨x1, c, k', rfl, rfl, l1, by omega, by omega, hk', HR3.out, HBS.out⟩
              case measure => first | (simp [intOf]; done) | (simp [intOf]; omega)
        · obtain rfl : x1 = N := bs_done HB.out hlt
          go_wp2_with fail
          go_meet
          exact ⟨rfl, l1, by omega, HR.out⟩
    case rest =>
      obtain ⟨rfl, g1, g2, hs8⟩ := hcut
      obtain ⟨w8, hw8⟩ : ∃ w3, w3 = wc := ⟨_, rfl⟩
      rw [← hw8] at hs8 ⊢
      clear hw8 HS
      have HS := Lib.hid hs8
      clear hs8
      go_wp2_with fail
      go_loopw [13] (fun i wr => ∃ t : Nat, a + t ≤ N - 1 ∧ i = .int .i64 ((a : Int) + t) ∧ SW L w0 g n (St.up a t d) wr) (fun i _ => N - (intOf i).toNat)
      case atStart => exact ⟨0, by have := HMA.out; omega, by first | rfl | go_num | (congr 1; omega), HS.out⟩
      case round =>
        obtain ⟨k, hk, rfl, hs⟩ := hrel
        have HR := Lib.hid hs
        clear hs HS
        by_cases hlt : a + k < N - 1
        · have i1 : (0 : Int) ≤ (a : Int) + k ∧ (a : Int) + k < n := by omega
          have i2 : (0 : Int) ≤ (a : Int) + k + 1 ∧ (a : Int) + k + 1 < n := by omega
          have i3 : ((a : Int) + k).toNat = a + k := by omega
          have i4 : ((a : Int) + k + 1).toNat = a + k + 1 := by omega
          have i5 : (a : Int) + k < (N : Int) - 1 := by omega
          have hsw := HR.out.swap (a + k) (a + k + 1) (by omega) (by omega) (by omega)
          have ea := HR.out.row.elem (a + k) (by omega)
          have eb := HR.out.row.elem (a + k + 1) (by omega)
          have er0 := fun y => (HR.out.row.put (a + k) y).elem (a + k + 1) (by omega)
          obtain ⟨x, hxx⟩ : ∃ x, x = L.getD (St.up a k d)[a + k]! default := ⟨_, rfl⟩
          obtain ⟨y, hyy⟩ : ∃ y, y = L.getD (St.up a k d)[a + k + 1]! default := ⟨_, rfl⟩
          have er := er0 y
          rw [show upd (fun i => L.getD (St.up a k d)[i]! default) (a + k) y (a + k + 1) = y from by unfold upd; rw [if_neg (by omega), hyy]] at er
          rw [← hxx] at ea hsw
          rw [← hyy] at eb hsw
          have HSW := Lib.hid hsw
          unfold putE at er
          obtain ⟨a0, a1, a2, a3, a4, a5, a6, a7⟩ := ea
          obtain ⟨b0, b1, b2, b3, b4, b5, b6, b7⟩ := eb
          obtain ⟨r0, r1, r2, r3, r4, r5, r6, r7⟩ := er
          clear hsw er0 hxx hyy
          go_upto_region 11 with fail
          go_region
          all_goals
            have HS2 := HSW.out.later (Below.refl _ _).drew
            obtain ⟨w5, hw5⟩ : ∃ w5, w5 = (putE (putE wr g (a + k) y) g (a + k + 1) x).drew := ⟨_, rfl⟩
            rw [← hw5] at HS2
            unfold putE at hw5
            rw [← hw5]
            have HS5 := Lib.hid HS2
            clear HS2 hw5 a0 a1 a2 a3 a4 a5 a6 a7 b0 b1 b2 b3 b4 b5 b6 b7 r0 r1 r2 r3 r4 r5 r6 r7 i1 i2 i3 i4 i5
            go_wp2_with fail
            go_roundw
            case rel => exact ⟨k + 1, by omega, by first | rfl | go_num | (congr 1; omega), HS5.out⟩
            case measure => first | (simp [intOf]; done) | (simp [intOf]; omega)
        · have i5 : ¬ (a : Int) + k < (N : Int) - 1 := by omega
          obtain rfl : k = N - 1 - a := by omega
          go_wp2_with fail
          refine bodyPost_ret (results_none rfl _ _ _) rfl ?_
          exact ⟨rfl, HR.out⟩
  case neg =>
  have q0 : (((m : Int) - a) == 1) = false := by simp only [beq_eq_false_iff_ne, ne_eq]; omega
  by_cases c2 : b - m = 1
  case pos =>
    rw [show St.symM (elt L) (F + 1) a m b d = St.down m (m - St.bs (fun c => !elt L d[m]! d[c]!) (m - a) a m) d from by rw [St.symM, if_neg c1, if_pos c2]]
    obtain ⟨N, hN⟩ : ∃ N, N = St.bs (fun c => !elt L d[m]! d[c]!) (m - a) a m := ⟨_, rfl⟩
    rw [← hN]
    have q1 : (((b : Int) - m) == 1) = true := by simp only [beq_iff_eq]; omega
    have HN := Lib.hid hN
    have hmb : m < n := by omega
    clear hN c1 c2
    go_enter Try.func63, Try.ntmps63
    go_upto_block 4 with fail
    clear q0 q1
    go_cut [14] from 83 to 106 (fun s14 wx => s14 = .int .i64 N ∧ a ≤ N ∧ N ≤ m ∧ SW L w0 g n d wx)
    case first =>
      go_wp2_with fail
      go_loopw [14, 15] (fun lo hi wr => BsRel L w0 g n d (fun c => !elt L d[m]! d[c]!) (a) (m) N lo hi wr) (fun lo hi _ => (intOf hi).toNat - (intOf lo).toNat)
      case atStart => exact ⟨a, m, m - a, rfl, rfl, Nat.le_refl _, by omega, Nat.le_refl _, Nat.le_refl _, HS.out, HN.out.symm⟩
      case round =>
        obtain ⟨x1, y1, k, rfl, rfl, l1, l2, l3, l4, hs, hb⟩ := hrel
        have HR := Lib.hid hs
        have HB := Lib.hid hb
        clear hs hb HS
        by_cases hlt : x1 < y1
        · obtain ⟨c, hc⟩ : ∃ c, c = (x1 + y1) / 2 := ⟨_, rfl⟩
          have hce : ((x1 : Int) + y1) / 2 = c := by omega
          have hc1 : x1 ≤ c ∧ c < y1 := by omega
          have HYES := Lib.hid (show (!elt L d[m]! d[c]!) = true → ∃ k', y1 - (c + 1) ≤ k' ∧ St.bs (fun c => !elt L d[m]! d[c]!) k' (c + 1) y1 = N from fun hf => by subst hc; exact bs_yes HB.out hlt l4 hf)
          have HNO := Lib.hid (show (!elt L d[m]! d[c]!) = false → ∃ k', c - x1 ≤ k' ∧ St.bs (fun c => !elt L d[m]! d[c]!) k' x1 c = N from fun hf => by subst hc; exact bs_no HB.out hlt l4 hf)
          have i1 : (0 : Int) ≤ c ∧ (c : Int) < n := by omega
          have HCE := Lib.hid hce
          clear hc hce
          go_upto_region 17 with fail
          rw [HCE.out]
          have i2 : (0 : Int) ≤ m ∧ (m : Int) < n := by omega
          obtain ⟨x, hx⟩ : ∃ x, x = L.getD (d)[m]! default := ⟨_, rfl⟩
          obtain ⟨y, hy⟩ : ∃ y, y = L.getD (d)[c]! default := ⟨_, rfl⟩
          have HX := Lib.hid hx
          have HY := Lib.hid hy
          have HTW := Lib.hid (show ∀ w', Below wr.heap.size wr w' → (Below wr.heap.size wr w' ∧ w'.cell? ⟨g, (m) * 4, none⟩ = some (.int .u64 x.hi) ∧ w'.cell? ⟨g, (m) * 4 + 1, none⟩ = some (.int .u64 x.lo) ∧ w'.cell? ⟨g, (m) * 4 + 2, none⟩ = some (.int .i64 x.id) ∧ w'.cell? ⟨g, (m) * 4 + 3, none⟩ = some (.slice x.p x.n x.c) ∧ w'.cell? ⟨g, (c) * 4, none⟩ = some (.int .u64 y.hi) ∧ w'.cell? ⟨g, (c) * 4 + 1, none⟩ = some (.int .u64 y.lo) ∧ w'.cell? ⟨g, (c) * 4 + 2, none⟩ = some (.int .i64 y.id) ∧ w'.cell? ⟨g, (c) * 4 + 3, none⟩ = some (.slice y.p y.n y.c)) from fun w' hb => ⟨hb, (HR.out.later hb).two (m) (c) (by omega) (by omega) x y HX.out HY.out⟩)
          have hc := sortfn_any x y
          unfold El.val at hc
          obtain ⟨z, hz⟩ : ∃ z, z = ecmp x y := ⟨_, rfl⟩
          rw [← hz] at hc
          have HC := Lib.hid (show ∀ w', Below wr.heap.size wr w' → Calls Try.prog 44 #[.agg #[.int .u64 x.hi, .int .u64 x.lo, .int .i64 x.id, .slice x.p x.n x.c], .agg #[.int .u64 y.hi, .int .u64 y.lo, .int .i64 y.id, .slice y.p y.n y.c]] w' fun e w'' => e = .returned (.int .i64 z) ∧ Below wr.heap.size wr w'' from fun w' hb => (hc w').mono fun e w'' h => ⟨h.1, hb.trans (h.2.mono hb.size)⟩)
          have HLT := Lib.hid (show elt L (d)[m]! (d)[c]! = decide (z < 0) by unfold elt; rw [hz, hx, hy])
          clear hx hy hc hz
          obtain ⟨bz, hbz⟩ : ∃ b, b = !decide (z < 0) := ⟨_, rfl⟩
          have HBZ := Lib.hid hbz
          clear hbz
          go_upto_region 17 with fail
          go_cut [103] from 92 to 102 (fun sv wx => sv = .bool bz ∧ SW L w0 g n (d) wx)
          case first =>
            go_region_held3 (fun w' => Below wr.heap.size wr w' ∧ w'.cell? ⟨g, (m) * 4, none⟩ = some (.int .u64 x.hi) ∧ w'.cell? ⟨g, (m) * 4 + 1, none⟩ = some (.int .u64 x.lo) ∧ w'.cell? ⟨g, (m) * 4 + 2, none⟩ = some (.int .i64 x.id) ∧ w'.cell? ⟨g, (m) * 4 + 3, none⟩ = some (.slice x.p x.n x.c) ∧ w'.cell? ⟨g, (c) * 4, none⟩ = some (.int .u64 y.hi) ∧ w'.cell? ⟨g, (c) * 4 + 1, none⟩ = some (.int .u64 y.lo) ∧ w'.cell? ⟨g, (c) * 4 + 2, none⟩ = some (.int .i64 y.id) ∧ w'.cell? ⟨g, (c) * 4 + 3, none⟩ = some (.slice y.p y.n y.c)) (first | assumption | exact HTW.out _ (Below.drew (Below.refl _ _)) | exact HTW.out _ (Below.refl _ _)) ((first
              | (go_at_call 44; (with_reducible refine (HC.out _ ?hx1).mono ?_); (case hx1 => first | assumption | exact (Below.refl _ _).drew | exact Below.refl _ _); rintro _ w7 ⟨rfl, hb7⟩; have k7 := HTW.out _ hb7)))
            all_goals
              go_wp2_with fail
              go_meet
              exact ⟨congrArg Value.bool (by first | (rw [HBZ.out]; done) | (rw [HBZ.out]; simp; done) | (rw [HBZ.out, Bool.eq_iff_iff]; simp)), HR.out.later hb7⟩
          case rest =>
            obtain ⟨rfl, hs3⟩ := hcut
            obtain ⟨w3, hw3⟩ : ∃ w3, w3 = wc := ⟨_, rfl⟩
            rw [← hw3] at hs3 ⊢
            clear hw3
            have HR3 := Lib.hid hs3
            clear hs3 HTW HC HX HY HR
            clear x y
            cases bz with
            | true =>
              obtain ⟨k', hk', hbs'⟩ := HYES.out (by rw [HLT.out]; exact HBZ.out.symm)
              have HBS := Lib.hid hbs'
              clear HBZ hbs' HLT HYES HNO
              go_wp2_with fail
              go_roundw
              case rel => exact ⟨c + 1, y1, k', by first | rfl | go_num, rfl, by omega, by omega, l3, hk', HR3.out, HBS.out⟩
              case measure => first | (simp [intOf]; done) | (simp [intOf]; omega)
            | false =>
              obtain ⟨k', hk', hbs'⟩ := HNO.out (by rw [HLT.out]; exact HBZ.out.symm)
              have HBS := Lib.hid hbs'
              clear HBZ hbs' HLT HYES HNO
              go_wp2_with fail
              go_roundw
              case rel => exact ⟨x1, c, k', rfl, rfl, l1, by omega, by omega, hk', HR3.out, HBS.out⟩
              case measure => first | (simp [intOf]; done) | (simp [intOf]; omega)
        · obtain rfl : x1 = N := bs_done HB.out hlt
          go_wp2_with fail
          go_meet
          exact ⟨rfl, l1, by omega, HR.out⟩
    case rest =>
      obtain ⟨rfl, g1, g2, hs8⟩ := hcut
      obtain ⟨w8, hw8⟩ : ∃ w3, w3 = wc := ⟨_, rfl⟩
      rw [← hw8] at hs8 ⊢
      clear hw8 HS
      have HS := Lib.hid hs8
      clear hs8
      go_wp2_with fail
      go_loopw [17] (fun i wr => ∃ t : Nat, N + t ≤ m ∧ i = .int .i64 ((m : Int) - t) ∧ SW L w0 g n (St.down m t d) wr) (fun i _ => (intOf i).toNat)
      case atStart => exact ⟨0, by omega, by first | rfl | go_num | (congr 1; omega), HS.out⟩
      case round =>
        obtain ⟨k, hk, rfl, hs⟩ := hrel
        have HR := Lib.hid hs
        clear hs HS
        by_cases hlt : N + k < m
        · have i1 : (0 : Int) ≤ (m : Int) - k ∧ (m : Int) - k < n := by omega
          have i2 : (0 : Int) ≤ (m : Int) - k - 1 ∧ (m : Int) - k - 1 < n := by omega
          have i3 : ((m : Int) - k).toNat = m - k := by omega
          have i4 : ((m : Int) - k - 1).toNat = m - k - 1 := by omega
          have i5 : (N : Int) < (m : Int) - k := by omega
          have i6 : (1 : Int) ≤ (m : Int) - k := by omega
          have hsw := HR.out.swap (m - k) (m - k - 1) (by omega) (by omega) (by omega)
          have ea := HR.out.row.elem (m - k) (by omega)
          have eb := HR.out.row.elem (m - k - 1) (by omega)
          have er0 := fun y => (HR.out.row.put (m - k) y).elem (m - k - 1) (by omega)
          obtain ⟨x, hxx⟩ : ∃ x, x = L.getD (St.down m k d)[m - k]! default := ⟨_, rfl⟩
          obtain ⟨y, hyy⟩ : ∃ y, y = L.getD (St.down m k d)[m - k - 1]! default := ⟨_, rfl⟩
          have er := er0 y
          rw [show upd (fun i => L.getD (St.down m k d)[i]! default) (m - k) y (m - k - 1) = y from by unfold upd; rw [if_neg (by omega), hyy]] at er
          rw [← hxx] at ea hsw
          rw [← hyy] at eb hsw
          have HSW := Lib.hid hsw
          unfold putE at er
          obtain ⟨a0, a1, a2, a3, a4, a5, a6, a7⟩ := ea
          obtain ⟨b0, b1, b2, b3, b4, b5, b6, b7⟩ := eb
          obtain ⟨r0, r1, r2, r3, r4, r5, r6, r7⟩ := er
          clear hsw er0 hxx hyy
          go_upto_region 23 with fail
          go_region
          all_goals
            have HS2 := HSW.out.later (Below.refl _ _).drew
            obtain ⟨w5, hw5⟩ : ∃ w5, w5 = (putE (putE wr g (m - k) y) g (m - k - 1) x).drew := ⟨_, rfl⟩
            rw [← hw5] at HS2
            unfold putE at hw5
            rw [← hw5]
            have HS5 := Lib.hid HS2
            clear HS2 hw5 a0 a1 a2 a3 a4 a5 a6 a7 b0 b1 b2 b3 b4 b5 b6 b7 r0 r1 r2 r3 r4 r5 r6 r7 i2 i3 i4 i5 i6
            go_wp2_with fail
            go_roundw
            case rel => exact ⟨k + 1, by omega, by first | rfl | go_num | (congr 1; omega), HS5.out⟩
            case measure => first | (simp [intOf]; done) | (simp [intOf]; omega)
        · have i5 : ¬ (N : Int) < (m : Int) - k := by omega
          obtain rfl : k = m - N := by omega
          go_wp2_with fail
          refine bodyPost_ret (results_none rfl _ _ _) rfl ?_
          exact ⟨rfl, HR.out⟩
  case neg =>
  have q1 : (((b : Int) - m) == 1) = false := by simp only [beq_eq_false_iff_ne, ne_eq]; omega
  obtain ⟨M, hM⟩ : ∃ M, M = (a + b) / 2 := ⟨_, rfl⟩
  have hMe : ((a : Int) + b) / 2 = M := by omega
  have hM1 : a < M ∧ M < b := by omega
  obtain ⟨LO, hLO⟩ : ∃ x, x = (if M < m then M + m - b else a) := ⟨_, rfl⟩
  obtain ⟨HI, hHI⟩ : ∃ x, x = (if M < m then M else m) := ⟨_, rfl⟩
  have hLH : LO ≤ HI ∧ HI ≤ m ∧ HI ≤ M ∧ a ≤ LO ∧ M + m ≤ b + LO := by
    by_cases hm : M < m
    · rw [if_pos hm] at hLO hHI; omega
    · rw [if_neg hm] at hLO hHI; omega
  obtain ⟨N, hN⟩ : ∃ N, N = St.bs (fun c => !elt L d[M + m - 1 - c]! d[c]!) (HI - LO) LO HI := ⟨_, rfl⟩
  have hst : St.startOf (elt L) d a m b = N := by
    unfold St.startOf
    rw [← hM, hN, hLO, hHI]
    by_cases hm : M < m
    · rw [if_pos hm, if_pos hm, if_pos hm]
    · rw [if_neg hm, if_neg hm, if_neg hm]
  obtain ⟨E, hE⟩ : ∃ E, E = M + m - N := ⟨_, rfl⟩
  obtain ⟨RES, hRES⟩ : ∃ R, R = St.symM (elt L) (F + 1) a m b d := ⟨_, rfl⟩
  rw [← hRES]
  have HRES := Lib.hid (show RES = (if M < E ∧ E < b then St.symM (elt L) F M E b (if a < N ∧ N < M then St.symM (elt L) F a N M (St.rotIf m N E d) else St.rotIf m N E d) else (if a < N ∧ N < M then St.symM (elt L) F a N M (St.rotIf m N E d) else St.rotIf m N E d)) from by rw [hRES, St.symM, if_neg c1, if_neg c2, hst, ← hM, ← hE])
  clear hRES
  have HN := Lib.hid hN
  have HE := Lib.hid hE
  have HLO := Lib.hid hLO
  have HHI := Lib.hid hHI
  have HME := Lib.hid hMe
  have hab2 : a + b ≤ 2 * M + 1 := by omega
  clear hM hMe hLO hHI hN hst hE c1 c2
  go_enter Try.func63, Try.ntmps63
  go_upto_region 25 with fail
  rw [HME.out]
  clear q0 q1
  go_upto_if 140 with fail
  go_cut [20, 21] from 141 to 146 (fun s20 s21 wx => s20 = .int .i64 LO ∧ s21 = .int .i64 HI ∧ wx = w)
  case first =>
    by_cases hm : M < m
    · have e1 := HLO.out
      have e2 := HHI.out
      rw [if_pos hm] at e1 e2
      have e3 : (M : Int) + m - b = LO := by omega
      have E3 := Lib.hid e3
      have e4 : HI = M := e2
      subst e4
      clear e1 e2 e3
      go_wp2_with fail
      go_meet
      exact ⟨congrArg (Value.int .i64) E3.out, rfl, rfl⟩
    · have e1 := HLO.out
      have e2 := HHI.out
      rw [if_neg hm] at e1 e2
      have hm2 : m ≤ M := by omega
      subst e1 e2
      go_wp2_with fail
      go_meet
      exact ⟨rfl, rfl, rfl⟩
  case rest =>
  obtain ⟨rfl, rfl, hww⟩ := hcut
  obtain ⟨w1, hw1⟩ : ∃ w3, w3 = wc := ⟨_, rfl⟩
  rw [← hw1] at hww ⊢
  clear hw1
  subst hww
  clear HLO HHI
  go_upto_block 8 with fail
  go_cut [20] from 149 to 174 (fun s20 wx => s20 = .int .i64 N ∧ LO ≤ N ∧ N ≤ HI ∧ SW L w0 g n d wx)
  case first =>
    go_wp2_with fail
    go_loopw [20, 21] (fun lo hi wr => BsRel L w0 g n d (fun c => !elt L d[M + m - 1 - c]! d[c]!) (LO) (HI) N lo hi wr) (fun lo hi _ => (intOf hi).toNat - (intOf lo).toNat)
    case atStart => exact ⟨LO, HI, HI - LO, rfl, rfl, Nat.le_refl _, by omega, Nat.le_refl _, Nat.le_refl _, HS.out, HN.out.symm⟩
    case round =>
      obtain ⟨x1, y1, k, rfl, rfl, l1, l2, l3, l4, hs, hb⟩ := hrel
      have HR := Lib.hid hs
      have HB := Lib.hid hb
      clear hs hb HS
      by_cases hlt : x1 < y1
      · obtain ⟨c, hc⟩ : ∃ c, c = (x1 + y1) / 2 := ⟨_, rfl⟩
        have hce : ((x1 : Int) + y1) / 2 = c := by omega
        have hc1 : x1 ≤ c ∧ c < y1 := by omega
        have HYES := Lib.hid (show (!elt L d[M + m - 1 - c]! d[c]!) = true → ∃ k', y1 - (c + 1) ≤ k' ∧ St.bs (fun c => !elt L d[M + m - 1 - c]! d[c]!) k' (c + 1) y1 = N from fun hf => by subst hc; exact bs_yes HB.out hlt l4 hf)
        have HNO := Lib.hid (show (!elt L d[M + m - 1 - c]! d[c]!) = false → ∃ k', c - x1 ≤ k' ∧ St.bs (fun c => !elt L d[M + m - 1 - c]! d[c]!) k' x1 c = N from fun hf => by subst hc; exact bs_no HB.out hlt l4 hf)
        have i1 : (0 : Int) ≤ c ∧ (c : Int) < n := by omega
        have HCE := Lib.hid hce
        clear hc hce
        go_upto_region 35 with fail
        rw [HCE.out]
        obtain ⟨pj, hpj⟩ : ∃ pj, pj = M + m - 1 - c := ⟨_, rfl⟩
        rw [← hpj] at HYES HNO
        have i2 : (0 : Int) ≤ pj ∧ (pj : Int) < n := by omega
        have i4 : IntKind.i64.wrap ((M : Int) + m - 1 - c) = pj := by rw [show (M : Int) + m - 1 - c = pj by omega]; exact IntWalk.i64_in _ (by omega)
        clear hpj
        obtain ⟨x, hx⟩ : ∃ x, x = L.getD (d)[pj]! default := ⟨_, rfl⟩
        obtain ⟨y, hy⟩ : ∃ y, y = L.getD (d)[c]! default := ⟨_, rfl⟩
        have HX := Lib.hid hx
        have HY := Lib.hid hy
        have HTW := Lib.hid (show ∀ w', Below wr.heap.size wr w' → (Below wr.heap.size wr w' ∧ w'.cell? ⟨g, (pj) * 4, none⟩ = some (.int .u64 x.hi) ∧ w'.cell? ⟨g, (pj) * 4 + 1, none⟩ = some (.int .u64 x.lo) ∧ w'.cell? ⟨g, (pj) * 4 + 2, none⟩ = some (.int .i64 x.id) ∧ w'.cell? ⟨g, (pj) * 4 + 3, none⟩ = some (.slice x.p x.n x.c) ∧ w'.cell? ⟨g, (c) * 4, none⟩ = some (.int .u64 y.hi) ∧ w'.cell? ⟨g, (c) * 4 + 1, none⟩ = some (.int .u64 y.lo) ∧ w'.cell? ⟨g, (c) * 4 + 2, none⟩ = some (.int .i64 y.id) ∧ w'.cell? ⟨g, (c) * 4 + 3, none⟩ = some (.slice y.p y.n y.c)) from fun w' hb => ⟨hb, (HR.out.later hb).two (pj) (c) (by omega) (by omega) x y HX.out HY.out⟩)
        have hc := sortfn_any x y
        unfold El.val at hc
        obtain ⟨z, hz⟩ : ∃ z, z = ecmp x y := ⟨_, rfl⟩
        rw [← hz] at hc
        have HC := Lib.hid (show ∀ w', Below wr.heap.size wr w' → Calls Try.prog 44 #[.agg #[.int .u64 x.hi, .int .u64 x.lo, .int .i64 x.id, .slice x.p x.n x.c], .agg #[.int .u64 y.hi, .int .u64 y.lo, .int .i64 y.id, .slice y.p y.n y.c]] w' fun e w'' => e = .returned (.int .i64 z) ∧ Below wr.heap.size wr w'' from fun w' hb => (hc w').mono fun e w'' h => ⟨h.1, hb.trans (h.2.mono hb.size)⟩)
        have HLT := Lib.hid (show elt L (d)[pj]! (d)[c]! = decide (z < 0) by unfold elt; rw [hz, hx, hy])
        clear hx hy hc hz
        obtain ⟨bz, hbz⟩ : ∃ b, b = !decide (z < 0) := ⟨_, rfl⟩
        have HBZ := Lib.hid hbz
        clear hbz
        go_upto_region 35 with fail
        go_cut [171] from 158 to 170 (fun sv wx => sv = .bool bz ∧ SW L w0 g n (d) wx)
        case first =>
          go_region_held3 (fun w' => Below wr.heap.size wr w' ∧ w'.cell? ⟨g, (pj) * 4, none⟩ = some (.int .u64 x.hi) ∧ w'.cell? ⟨g, (pj) * 4 + 1, none⟩ = some (.int .u64 x.lo) ∧ w'.cell? ⟨g, (pj) * 4 + 2, none⟩ = some (.int .i64 x.id) ∧ w'.cell? ⟨g, (pj) * 4 + 3, none⟩ = some (.slice x.p x.n x.c) ∧ w'.cell? ⟨g, (c) * 4, none⟩ = some (.int .u64 y.hi) ∧ w'.cell? ⟨g, (c) * 4 + 1, none⟩ = some (.int .u64 y.lo) ∧ w'.cell? ⟨g, (c) * 4 + 2, none⟩ = some (.int .i64 y.id) ∧ w'.cell? ⟨g, (c) * 4 + 3, none⟩ = some (.slice y.p y.n y.c)) (first | assumption | exact HTW.out _ (Below.drew (Below.refl _ _)) | exact HTW.out _ (Below.refl _ _)) ((first
            | (go_at_call 44; (with_reducible refine (HC.out _ ?hx1).mono ?_); (case hx1 => first | assumption | exact (Below.refl _ _).drew | exact Below.refl _ _); rintro _ w7 ⟨rfl, hb7⟩; have k7 := HTW.out _ hb7)))
          all_goals
            go_wp2_with fail
            go_meet
            exact ⟨congrArg Value.bool (by first | (rw [HBZ.out]; done) | (rw [HBZ.out]; simp; done) | (rw [HBZ.out, Bool.eq_iff_iff]; simp)), HR.out.later hb7⟩
        case rest =>
          obtain ⟨rfl, hs3⟩ := hcut
          obtain ⟨w3, hw3⟩ : ∃ w3, w3 = wc := ⟨_, rfl⟩
          rw [← hw3] at hs3 ⊢
          clear hw3
          have HR3 := Lib.hid hs3
          clear hs3 HTW HC HX HY HR
          clear x y
          cases bz with
          | true =>
            obtain ⟨k', hk', hbs'⟩ := HYES.out (by rw [HLT.out]; exact HBZ.out.symm)
            have HBS := Lib.hid hbs'
            clear HBZ hbs' HLT HYES HNO
            go_wp2_with fail
            go_roundw
            case rel => exact ⟨c + 1, y1, k', by first | rfl | go_num, rfl, by omega, by omega, l3, hk', HR3.out, HBS.out⟩
            case measure => first | (simp [intOf]; done) | (simp [intOf]; omega)
          | false =>
            obtain ⟨k', hk', hbs'⟩ := HNO.out (by rw [HLT.out]; exact HBZ.out.symm)
            have HBS := Lib.hid hbs'
            clear HBZ hbs' HLT HYES HNO
            go_wp2_with fail
            go_roundw
            case rel => exact ⟨x1, c, k', rfl, rfl, l1, by omega, by omega, hk', HR3.out, HBS.out⟩
            case measure => first | (simp [intOf]; done) | (simp [intOf]; omega)
      · obtain rfl : x1 = N := bs_done HB.out hlt
        go_wp2_with fail
        go_meet
        exact ⟨rfl, l1, by omega, HR.out⟩
  case rest =>
  obtain ⟨rfl, g1, g2, hs8⟩ := hcut
  obtain ⟨wa0, hw8⟩ : ∃ w3, w3 = wc := ⟨_, rfl⟩
  rw [← hw8] at hs8 ⊢
  clear hw8 HS
  have HS := Lib.hid hs8
  clear hs8
  have hEe : (M : Int) + m - N = E := by have := HE.out; omega
  have HEE := Lib.hid hEe
  have hE1 : m ≤ E ∧ E ≤ b ∧ M ≤ E := by have := HE.out; omega
  clear hEe
  go_upto_region 39 with fail
  rw [HEE.out]
  obtain ⟨bz, hbz⟩ : ∃ b, b = decide (N < m ∧ m < E) := ⟨_, rfl⟩
  go_upto_region 39 with fail
  go_cut [185] from 178 to 184 (fun sv wx => sv = .bool bz ∧ wx = wa0)
  case first =>
    by_cases p1 : N < m
    · by_cases p2 : m < E
      · obtain rfl : bz = true := by rw [hbz]; exact decide_eq_true ⟨p1, p2⟩
        clear hbz
        go_wp2_with fail
        go_meet
        exact ⟨rfl, rfl⟩
      · obtain rfl : bz = false := by rw [hbz]; exact decide_eq_false (fun h => p2 h.2)
        clear hbz
        go_wp2_with fail
        go_meet
        exact ⟨rfl, rfl⟩
    · obtain rfl : bz = false := by rw [hbz]; exact decide_eq_false (fun h => p1 h.1)
      clear hbz
      go_wp2_with fail
      go_meet
      exact ⟨rfl, rfl⟩
  case rest =>
  obtain ⟨rfl, hww⟩ := hcut
  obtain ⟨wa1, hw1⟩ : ∃ w3, w3 = wc := ⟨_, rfl⟩
  rw [← hw1] at hww ⊢
  clear hw1
  subst hww
  have HBZ := Lib.hid hbz
  clear hbz
  go_upto_if 185 with fail
  go_cut [24] from 186 to 191 (fun sv wx => sv = .int .i64 E ∧ SW L w0 g n (St.rotIf m N E d) wx)
  case first =>
    cases bz with
    | true =>
      have hpp := of_decide_eq_true HBZ.out.symm
      obtain ⟨p1, p2⟩ := hpp
      have HC := Lib.hid (show Calls Try.prog 69 _ wa1 _ from rotate_any L w0 g n cap N m E d (.func (.func 44) #[] #[]) wa1 HS.out p1 p2 (by omega) hn)
      have HP := Lib.hid (show St.rot m (m - N + (E - m)) (m - N) (E - m) d = St.rotIf m N E d from by unfold St.rotIf; rw [if_pos ⟨p1, p2⟩])
      go_wp2_with fail
      refine HC.out.mono ?_
      rintro _ w7 ⟨rfl, hs7⟩
      rw [HP.out] at hs7
      have HS7 := Lib.hid hs7
      clear hs7
      go_wp2_with fail
      go_meet
      exact ⟨rfl, HS7.out⟩
    | false =>
      have hpp := of_decide_eq_false HBZ.out.symm
      have HP := Lib.hid (show d = St.rotIf m N E d from by unfold St.rotIf; rw [if_neg hpp])
      clear hpp
      go_wp2_with fail
      go_meet
      exact ⟨rfl, by rw [← HP.out]; exact HS.out⟩
  case rest =>
  obtain ⟨rfl, hs8⟩ := hcut
  obtain ⟨wa2, hw8⟩ : ∃ w3, w3 = wc := ⟨_, rfl⟩
  rw [← hw8] at hs8 ⊢
  clear hw8 HS HBZ
  have HS := Lib.hid hs8
  clear hs8
  obtain ⟨d1, hd1⟩ : ∃ d1, d1 = St.rotIf m N E d := ⟨_, rfl⟩
  rw [← hd1] at HS
  have HD1 := Lib.hid hd1
  clear hd1
  obtain ⟨wb0, hwb⟩ : ∃ x, x = wa2 := ⟨_, rfl⟩
  rw [← hwb] at HS ⊢
  clear hwb
  obtain ⟨bz, hbz⟩ : ∃ b, b = decide (a < N ∧ N < M) := ⟨_, rfl⟩
  go_upto_region 41 with fail
  go_cut [199] from 192 to 198 (fun sv wx => sv = .bool bz ∧ wx = wb0)
  case first =>
    by_cases p1 : a < N
    · by_cases p2 : N < M
      · obtain rfl : bz = true := by rw [hbz]; exact decide_eq_true ⟨p1, p2⟩
        clear hbz
        go_wp2_with fail
        go_meet
        exact ⟨rfl, rfl⟩
      · obtain rfl : bz = false := by rw [hbz]; exact decide_eq_false (fun h => p2 h.2)
        clear hbz
        go_wp2_with fail
        go_meet
        exact ⟨rfl, rfl⟩
    · obtain rfl : bz = false := by rw [hbz]; exact decide_eq_false (fun h => p1 h.1)
      clear hbz
      go_wp2_with fail
      go_meet
      exact ⟨rfl, rfl⟩
  case rest =>
  obtain ⟨rfl, hww⟩ := hcut
  obtain ⟨wb1, hw1⟩ : ∃ w3, w3 = wc := ⟨_, rfl⟩
  rw [← hw1] at hww ⊢
  clear hw1
  subst hww
  have HBZ := Lib.hid hbz
  clear hbz
  go_upto_if 199 with fail
  go_cut [24] from 200 to 205 (fun sv wx => sv = .int .i64 E ∧ SW L w0 g n (if a < N ∧ N < M then St.symM (elt L) F a N M d1 else d1) wx)
  case first =>
    cases bz with
    | true =>
      have hpp := of_decide_eq_true HBZ.out.symm
      obtain ⟨p1, p2⟩ := hpp
      have HC := Lib.hid (show Calls Try.prog 63 _ wb1 _ from IH.out a N M d1 wb1 HS.out p1 p2 (by omega) (by omega))
      have HP := Lib.hid (show St.symM (elt L) F a N M d1 = if a < N ∧ N < M then St.symM (elt L) F a N M d1 else d1 from by rw [if_pos ⟨p1, p2⟩])
      go_wp2_with fail
      refine HC.out.mono ?_
      rintro _ w7 ⟨rfl, hs7⟩
      rw [HP.out] at hs7
      have HS7 := Lib.hid hs7
      clear hs7
      go_wp2_with fail
      go_meet
      exact ⟨rfl, HS7.out⟩
    | false =>
      have hpp := of_decide_eq_false HBZ.out.symm
      have HP := Lib.hid (show d1 = if a < N ∧ N < M then St.symM (elt L) F a N M d1 else d1 from by rw [if_neg hpp])
      clear hpp
      go_wp2_with fail
      go_meet
      exact ⟨rfl, by rw [← HP.out]; exact HS.out⟩
  case rest =>
  obtain ⟨rfl, hs8⟩ := hcut
  obtain ⟨wb2, hw8⟩ : ∃ w3, w3 = wc := ⟨_, rfl⟩
  rw [← hw8] at hs8 ⊢
  clear hw8 HS HBZ
  have HS := Lib.hid hs8
  clear hs8
  obtain ⟨d2, hd2⟩ : ∃ d2, d2 = (if a < N ∧ N < M then St.symM (elt L) F a N M d1 else d1) := ⟨_, rfl⟩
  rw [← hd2] at HS
  have HD2 := Lib.hid hd2
  clear hd2
  by_cases pp : M < E ∧ E < b
  · have HC := Lib.hid (IH.out M E b d2 wb2 HS.out pp.1 pp.2 h3 (by omega))
    have p1 := pp.1
    have p2 := pp.2
    have HR2 := Lib.hid (show RES = St.symM (elt L) F M E b d2 from by rw [HRES.out, ← HD1.out, ← HD2.out, if_pos pp])
    clear pp
    go_wp2_with fail
    refine HC.out.mono ?_
    rintro _ w7 ⟨rfl, hs7⟩
    have HS7 := Lib.hid hs7
    clear hs7
    go_wp2_with fail
    go_end0
    exact ⟨rfl, by rw [HR2.out]; exact HS7.out⟩
  · have HR2 := Lib.hid (show RES = d2 from by rw [HRES.out, ← HD1.out, ← HD2.out, if_neg pp])
    by_cases p1 : M < E
    · have p2 : ¬ E < b := fun h => pp ⟨p1, h⟩
      clear pp
      go_wp2_with fail
      go_end0
      exact ⟨rfl, by rw [HR2.out]; exact HS.out⟩
    · clear pp
      go_wp2_with fail
      go_end0
      exact ⟨rfl, by rw [HR2.out]; exact HS.out⟩
end Go.Proofs.Ytnigfipjcnamfaa

/- slices' stable sort of rows with their places. -/
namespace Go.Proofs.Ytnigfipjcnamfaa
open Go.RowKit
open Go.Sort (insertionSort)

namespace St
def insB (lt : Nat → Nat → Bool) (n : Nat) : Nat → Nat → Array Nat → Array Nat
  | 0, _, d => d
  | f + 1, x, d => if x + 20 ≤ n then insB lt n f (x + 20) (insertionSort lt d x (x + 20)) else insertionSort lt d x n
def mergeP (lt : Nat → Nat → Bool) (s n : Nat) : Nat → Nat → Array Nat → Array Nat
  | 0, _, d => d
  | f + 1, x, d => if x + 2 * s ≤ n then mergeP lt s n f (x + 2 * s) (symM lt n x (x + s) (x + 2 * s) d) else if x + s < n then symM lt n x (x + s) n d else d
def stab (lt : Nat → Nat → Bool) (n : Nat) : Nat → Nat → Array Nat → Array Nat
  | 0, _, d => d
  | f + 1, s, d => if s < n then stab lt n f (2 * s) (mergeP lt s n (n + 1) 0 d) else d
/-- Go's stable sort. -/
def stable (lt : Nat → Nat → Bool) (n : Nat) (d : Array Nat) : Array Nat := stab lt n (n + 1) 20 (insB lt n (n + 1) 0 d)
end St
def SbRel (L : List El) (w0 : World) (g n : Nat) (RES : Array Nat) (a b : Value) (wr : World) : Prop :=
  ∃ (x f : Nat) (d : Array Nat), a = .int .i64 x ∧ b = .int .i64 ((x : Int) + 20) ∧ x ≤ n ∧ n - x < f ∧ SW L w0 g n d wr ∧ St.insB (elt L) n f x d = RES
def MpRel (L : List El) (w0 : World) (g n s : Nat) (RES : Array Nat) (a b : Value) (wr : World) : Prop :=
  ∃ (x f : Nat) (d : Array Nat), a = .int .i64 x ∧ b = .int .i64 ((x : Int) + 2 * s) ∧ x ≤ n ∧ n - x < f ∧ SW L w0 g n d wr ∧ St.mergeP (elt L) s n f x d = RES
def OtRel (L : List El) (w0 : World) (g n : Nat) (RES : Array Nat) (sv : Value) (wr : World) : Prop :=
  ∃ (s f : Nat) (d : Array Nat), sv = .int .i64 s ∧ 20 ≤ s ∧ s ≤ 2000 ∧ n < s + f ∧ SW L w0 g n d wr ∧ St.stab (elt L) n f s d = RES
set_option maxRecDepth 100000 in
set_option maxHeartbeats 4000000 in
theorem stable_any (L : List El) (w0 : World) (g n cap : Nat) (hn : n ≤ 1000) (d : Array Nat) (w : World) (h : SW L w0 g n d w) :
    Calls Try.prog 55 #[.slice (some ⟨g, 0, none⟩) n cap, .int .i64 n, .func (.func 44) #[] #[]] w fun e w' => e = .returned (.tuple #[]) ∧ SW L w0 g n (St.stable (elt L) n d) w' := by
  have HS := Lib.hid h
  clear h
  obtain ⟨RES, hRES⟩ : ∃ R, R = St.stable (elt L) n d := ⟨_, rfl⟩
  rw [← hRES]
  obtain ⟨INS, hINS⟩ : ∃ R, R = St.insB (elt L) n (n + 1) 0 d := ⟨_, rfl⟩
  have HI := Lib.hid hINS.symm
  have HR := Lib.hid (show St.stab (elt L) n (n + 1) 20 INS = RES from by rw [hRES, hINS]; rfl)
  clear hRES hINS
  go_enter Try.func55, Try.ntmps55
  go_wp2_with fail
  go_loopw [7, 8] (fun a b wr => SbRel L w0 g n INS a b wr) (fun a _ _ => n + 1 - (intOf a).toNat)
  case atStart => exact ⟨0, n + 1, d, rfl, rfl, by omega, by omega, HS.out, HI.out⟩
  case round =>
    obtain ⟨x, f, d1, rfl, rfl, hx, hf, hs, hr⟩ := hrel
    have HS1 := Lib.hid hs
    have HQ := Lib.hid hr
    clear hs hr HS
    obtain ⟨f', rfl⟩ : ∃ f', f = f' + 1 := ⟨f - 1, by omega⟩
    by_cases hlt : x + 20 ≤ n
    · have q1 : (x : Int) + 20 ≤ n := by omega
      have hc := insertion_any L w0 g n cap x (x + 20) d1 wr HS1.out (by omega) hlt hn
      rw [show ((x + 20 : Nat) : Int) = (x : Int) + 20 by omega] at hc
      have HC := Lib.hid hc
      have HE := Lib.hid (show St.insB (elt L) n f' (x + 20) (insertionSort (elt L) d1 x (x + 20)) = INS from by rw [← HQ.out, St.insB, if_pos hlt])
      clear hc
      go_wp2_with fail
      refine HC.out.mono ?_
      rintro _ w5 ⟨rfl, hs5⟩
      have HS5 := Lib.hid hs5
      clear hs5
      go_wp2_with fail
      go_roundw
      case rel => exact ⟨x + 20, f', _, by first | rfl | go_num, by first | rfl | go_num | (congr 1; omega), hlt, by omega, HS5.out, HE.out⟩
      case measure => first | (simp [intOf]; done) | (simp [intOf]; omega)
    · have q1 : ¬ (x : Int) + 20 ≤ n := by omega
      have hc := insertion_any L w0 g n cap x n d1 wr HS1.out hx (Nat.le_refl _) hn
      have HE := Lib.hid (show insertionSort (elt L) d1 x n = INS from by rw [← HQ.out, St.insB, if_neg hlt])
      rw [HE.out] at hc
      have HC := Lib.hid hc
      clear hc
      go_wp2_with fail
      refine HC.out.mono ?_
      rintro _ w5 ⟨rfl, hs5⟩
      have HS5 := Lib.hid hs5
      clear hs5 HS1 HQ HE HC HI q1 hlt hf
      go_wp2_with fail
      go_loopw [6] (fun sv wr => OtRel L w0 g n RES sv wr) (fun sv _ => n - (intOf sv).toNat)
      case atStart => exact ⟨20, n + 1, INS, rfl, by omega, by omega, by omega, HS5.out, HR.out⟩
      case round =>
        obtain ⟨s, f2, d2, rfl, hs1, hs2, hf2, hs, hr⟩ := hrel
        have HS2 := Lib.hid hs
        have HQ2 := Lib.hid hr
        clear hs hr HS5
        by_cases hsn : s < n
        · obtain ⟨f3, rfl⟩ : ∃ f3, f2 = f3 + 1 := ⟨f2 - 1, by omega⟩
          obtain ⟨MP, hMP⟩ : ∃ R, R = St.mergeP (elt L) s n (n + 1) 0 d2 := ⟨_, rfl⟩
          have HM := Lib.hid hMP.symm
          have HE2 := Lib.hid (show St.stab (elt L) n f3 (2 * s) MP = RES from by rw [← HQ2.out, St.stab, if_pos hsn, hMP])
          clear hMP
          go_wp2_with fail
          go_loopw [7, 8] (fun a b wr => MpRel L w0 g n s MP a b wr) (fun a _ _ => n + 1 - (intOf a).toNat)
          case atStart => exact ⟨0, n + 1, d2, rfl, by first | rfl | go_num | (congr 1; omega), by omega, by omega, HS2.out, HM.out⟩
          case round =>
            obtain ⟨y, f4, d3, rfl, rfl, hy, hf4, hs, hr⟩ := hrel
            have HS3 := Lib.hid hs
            have HQ3 := Lib.hid hr
            clear hs hr HS2
            obtain ⟨f5, rfl⟩ : ∃ f5, f4 = f5 + 1 := ⟨f4 - 1, by omega⟩
            by_cases hlt : y + 2 * s ≤ n
            · have q2 : (y : Int) + 2 * s ≤ n := by omega
              have hc := symmerge_any L w0 g n cap hn n y (y + s) (y + 2 * s) d3 wr HS3.out (by omega) (by omega) hlt (by omega)
              rw [show ((y + 2 * s : Nat) : Int) = (y : Int) + 2 * s by omega, show ((y + s : Nat) : Int) = (y : Int) + s by omega] at hc
              have HC := Lib.hid hc
              have HE := Lib.hid (show St.mergeP (elt L) s n f5 (y + 2 * s) (St.symM (elt L) n y (y + s) (y + 2 * s) d3) = MP from by rw [← HQ3.out, St.mergeP, if_pos hlt])
              clear hc
              go_wp2_with fail
              refine HC.out.mono ?_
              rintro _ w5 ⟨rfl, hs5⟩
              have HS6 := Lib.hid hs5
              clear hs5
              go_wp2_with fail
              go_roundw
              case rel => exact ⟨y + 2 * s, f5, _, congrArg (Value.int .i64) (by omega), congrArg (Value.int .i64) (by omega), hlt, by omega, HS6.out, HE.out⟩
              case measure => first | (simp [intOf]; done) | (simp [intOf]; omega)
            · have q2 : ¬ (y : Int) + 2 * s ≤ n := by omega
              by_cases hl2 : y + s < n
              · have q3 : (y : Int) + s < n := by omega
                have hc := symmerge_any L w0 g n cap hn n y (y + s) n d3 wr HS3.out (by omega) hl2 (Nat.le_refl _) (by omega)
                rw [show ((y + s : Nat) : Int) = (y : Int) + s by omega, show St.symM (elt L) n y (y + s) n d3 = MP from by rw [← HQ3.out, St.mergeP, if_neg hlt, if_pos hl2]] at hc
                have HC := Lib.hid hc
                clear hc
                go_wp2_with fail
                refine HC.out.mono ?_
                rintro _ w5 ⟨rfl, hs5⟩
                have HS6 := Lib.hid hs5
                clear hs5
                go_wp2_with fail
                go_roundw
                case rel => exact ⟨2 * s, f3, MP, congrArg (Value.int .i64) (by omega), by omega, by omega, by omega, HS6.out, HE2.out⟩
                case measure => first | (simp [intOf]; done) | (simp [intOf]; omega)
              · have q3 : ¬ (y : Int) + s < n := by omega
                have HE := Lib.hid (show d3 = MP from by rw [← HQ3.out, St.mergeP, if_neg hlt, if_neg hl2])
                go_wp2_with fail
                go_roundw
                case rel => exact ⟨2 * s, f3, MP, congrArg (Value.int .i64) (by omega), by omega, by omega, by omega, by rw [← HE.out]; exact HS3.out, HE2.out⟩
                case measure => first | (simp [intOf]; done) | (simp [intOf]; omega)
        · have HE := Lib.hid (show d2 = RES from by
            rw [← HQ2.out]
            cases f2 with
            | zero => rfl
            | succ f3 => rw [St.stab, if_neg hsn])
          go_wp2_with fail
          go_end0
          exact ⟨rfl, by rw [← HE.out]; exact HS2.out⟩
set_option maxRecDepth 100000 in
theorem sortstable_any (L : List El) (w0 : World) (g n cap : Nat) (hn : n ≤ 1000) (d : Array Nat) (w : World) (h : SW L w0 g n d w) :
    Calls Try.prog 43 #[.slice (some ⟨g, 0, none⟩) n cap, .func (.func 44) #[] #[]] w fun e w' => e = .returned (.tuple #[]) ∧ SW L w0 g n (St.stable (elt L) n d) w' := by
  have HC := Lib.hid (stable_any L w0 g n cap hn d w h)
  clear h
  go_enter Try.func43, Try.ntmps43
  go_wp2_with fail
  refine HC.out.mono ?_
  rintro _ w5 ⟨rfl, hs5⟩
  have HS := Lib.hid hs5
  clear hs5
  go_wp2_with fail
  go_end0
  exact ⟨rfl, HS.out⟩
end Go.Proofs.Ytnigfipjcnamfaa

/- A row of numbers of a call's own that is copied and written. -/
namespace Go.Proofs.Ytnigfipjcnamfaa
open Go.RowKit

theorem I2n : (Try.prog.info? 2).map (fun i => (i.zero, i.size, i.bytes)) = some (some (.int .i64 0), 1, 8) := by kernel_rfl
theorem URn : Try.prog.underlying 23 = some (.slice 2) := by kernel_rfl
def ivs (R : List Int) : List Value := R.map fun x => .int .i64 x
theorem ivs_length (R : List Int) : (ivs R).length = R.length := List.length_map ..
theorem ivs_get (R : List Int) (i : Nat) (h : i < R.length) : (ivs R)[i]? = some (.int .i64 (R.getD i 0)) := by
  simp [ivs, List.getD_eq_getElem?_getD, h]
theorem ivs_set (R : List Int) (k : Nat) (x : Int) : ivs (R.set k x) = (ivs R).set k (.int .i64 x) := by simp [ivs, List.map_set]
theorem ivs_one (R : List Int) : ∀ u ∈ ivs R, u.oneCell' = true := by
  intro u hu
  simp only [ivs, List.mem_map] at hu
  obtain ⟨x, _, rfl⟩ := hu
  rfl
theorem set_getD (R : List Int) (k i : Nat) (x : Int) (hk : k < R.length) : (R.set k x).getD i 0 = if i = k then x else R.getD i 0 := by
  simp only [List.getD_eq_getElem?_getD, List.getElem?_set]
  by_cases h : k = i
  · subst h; simp [hk]
  · rw [if_neg h, if_neg (Ne.symm h)]
/-- A row of a call's own, above a height. -/
def OwnRow (w : World) (base g n c : Nat) (N : List Int) : Prop := w.ownsRow base 2 1 (.slice (some ⟨g, 0, none⟩) n c) n (ivs N)
theorem own_form {w : World} {base n : Nat} {v : Value} {N : List Int} (h : w.ownsRow base 2 1 v n (ivs N)) (hn : 1 ≤ n) : ∃ g c, v = .slice (some ⟨g, 0, none⟩) n c ∧ OwnRow w base g n c N ∧ base ≤ g := by
  rcases h.2 with ⟨_, h0⟩ | ⟨g, cap, cur, hv, hb, r⟩
  · omega
  · exact ⟨g, cap, hv, by unfold OwnRow; rw [← hv]; exact h, hb⟩
theorem OwnRow.ints {w : World} {base g n c : Nat} {N : List Int} (h : OwnRow w base g n c N) (hN : ∀ x ∈ N, -9223372036854775808 ≤ x ∧ x ≤ 9223372036854775807) : Ints w (some ⟨g, 0, none⟩) n c N := by
  have hl : n = N.length := by have := h.1; rw [ivs_length, Nat.mul_one] at this; exact this.symm
  rcases h.2 with ⟨h1, _⟩ | ⟨g', cap, cur, hv, hb, hg, hle, hm, hs, ht⟩
  · simp at h1
  · obtain ⟨rfl, rfl⟩ : g = g' ∧ c = cap := by simpa using hv
    refine ⟨hl, hle, hN, Or.inr ⟨g, 0, rfl, fun i hi => ?_⟩⟩
    have := World.ownsRow.cellAt h i (by omega)
    rw [Nat.zero_add, this, ivs_get N i hi]
theorem OwnRow.length {w : World} {base g n c : Nat} {N : List Int} (h : OwnRow w base g n c N) : n = N.length := by have := h.1; rw [ivs_length, Nat.mul_one] at this; exact this.symm
theorem OwnRow.later {w w' : World} {base g n c : Nat} {N : List Int} (h : OwnRow w base g n c N) (hb : Below w.heap.size w w') : OwnRow w' base g n c N := by
  obtain ⟨h1, h2⟩ := h
  refine ⟨h1, h2.imp id ?_⟩
  rintro ⟨g, cap, cur, hv, hg, hh, r⟩
  exact ⟨g, cap, cur, hv, hg, (hb.block _ (Array.getElem?_eq_some_iff.1 hh).1).trans hh, r⟩
theorem OwnRow.set {w : World} {base g n c : Nat} {N : List Int} (h : OwnRow w base g n c N) (k : Nat) (x : Int) : OwnRow (w.setCell ⟨g, k, none⟩ (.int .i64 x)) base g n c (N.set k x) := by
  unfold OwnRow
  rw [ivs_set]
  exact (World.ownsRow.stored h k _).1
theorem own_empty (w : World) : (w.alloc (.cells #[] 2)).ownsRow w.heap.size 2 1 (.slice (some ⟨w.heap.size, 0, none⟩) 0 0) 0 [] :=
  ⟨rfl, Or.inr ⟨w.heap.size, 0, #[], rfl, Nat.le_refl _, heap_alloc_new w _, Nat.le_refl _, by unfold maxLen; omega, rfl, rfl⟩⟩
theorem Ints.news {w : World} {g o n c : Nat} {R : List Int} (h : Ints w (some ⟨g, o, none⟩) n c R) : ∀ j u, (ivs R)[j]? = some u → w.cell? ((⟨g, o, none⟩ : Addr).add j) = some u := fun j u hu => by
  have hj : j < R.length := by have := (List.getElem?_eq_some_iff.1 hu).1; simpa [ivs] using this
  rw [ivs_get _ _ hj] at hu
  rcases h.at' with h0 | ⟨g', o', hp, hx⟩
  · rw [h0] at hj; simp at hj
  · simp only [Option.some.injEq, Addr.mk.injEq, and_true] at hp
    obtain ⟨rfl, rfl⟩ := hp
    rw [Addr.add_mid, hx j hj, hu]
end Go.Proofs.Ytnigfipjcnamfaa

/- slices.Clone of a row that isn't empty. -/
namespace Go.Proofs.Ytnigfipjcnamfaa
open Go.RowKit

set_option maxRecDepth 100000 in
set_option maxHeartbeats 1000000 in
theorem rowclone_any (p : Option Addr) (n c : Nat) (R : List Int) (w : World) (h : Ints w p n c R) (h1 : 1 ≤ n) (h8 : n ≤ 8) :
    Calls Try.prog 46 #[.slice p n c] w fun e w' => ∃ g cap, e = .returned (.slice (some ⟨g, 0, none⟩) n cap) ∧ OwnRow w' w.heap.size g n cap R ∧ w.heap.size ≤ g ∧ Below w.heap.size w w' := by
  obtain ⟨gR, oR, rfl, -⟩ := h.cell 0 (by omega)
  obtain ⟨i2, hi0, hi1, hi2, hi3⟩ := info_parts I2n
  have HI := Lib.hid hi0
  have HI0 := Lib.hid hi1
  have HI1 := Lib.hid hi2
  have HI2 := Lib.hid hi3
  clear hi0 hi1 hi2 hi3
  have hal : Below w.heap.size w (w.alloc (.cells #[] 2)) := (Below.refl _ _).alloc (Nat.le_refl _) _
  have HOE := Lib.hid (own_empty w)
  have HAL := Lib.hid hal
  have HNW := Lib.hid ((h.later hal).news)
  have HRL := Lib.hid (show (ivs R).length = n * 1 by rw [ivs_length, ← h.size, Nat.mul_one])
  have qn : ∀ w', (binOp .eql 23 (.slice (some ⟨gR, oR, none⟩) n c) (.slice none 0 0)).run Try.prog w' = .ok (.bool false) w' := fun w' => Go.Lib.run_eql_slice_nil w' _ _ _ _ _ _ _ URn
  clear hal h
  go_enter Try.func46, Try.ntmps46
  go_wp2_with ((at_builtin; (refine wpList_append_own_at _ (by rfl) (.tmp 5) (.tmp 6) 23 (by rfl) w.heap.size 2 i2 (.int .i64 0) 1 8 URn HI.out HI0.out HI1.out HI2.out (by rfl) (by decide) _ 0 [] (by rfl) HOE.out ⟨gR, oR, none⟩ n c (ivs R) (by rfl) HRL.out HNW.out (ivs_one R) (by unfold maxLen; omega) (by omega) (by simp) ?_); intro v7 w7 hown7 hgrow7 _ _; have O7 := Lib.hid hown7; have G7 := Lib.hid hgrow7; clear hown7 hgrow7))
  obtain ⟨gn, cn, rfl, hn7, hn8⟩ := own_form (w := w7) (base := w.heap.size) (n := n) (N := R) (by have h := O7.out; rw [Nat.zero_add, List.nil_append] at h; exact h) h1
  have hb7 : Below w.heap.size w w7 := HAL.out.grown G7.out (by simp) (fun k hk => by simp [Value.ownBlock] at hk; omega)
  go_ret
  exact ⟨gn, cn, rfl, hn7, hn8, hb7⟩
end Go.Proofs.Ytnigfipjcnamfaa

/- box.Ahead. -/
namespace Go.Proofs.Ytnigfipjcnamfaa
open Go.RowKit

theorem dcmp_cases {a b c d : Int} (hb : 0 ≤ b ∧ b < 18446744073709551616) (hd : 0 ≤ d ∧ d < 18446744073709551616) :
    (dcmp a b c d = 0 ∧ a * 18446744073709551616 + b = c * 18446744073709551616 + d) ∨ (dcmp a b c d = -1 ∧ a * 18446744073709551616 + b < c * 18446744073709551616 + d) ∨ (dcmp a b c d = 1 ∧ c * 18446744073709551616 + d < a * 18446744073709551616 + b) := by
  unfold dcmp
  split
  · rename_i h
    obtain ⟨rfl, rfl⟩ := h
    exact Or.inl ⟨rfl, rfl⟩
  · split
    · exact Or.inr (Or.inl ⟨rfl, by omega⟩)
    · exact Or.inr (Or.inr ⟨rfl, by omega⟩)
/-- A place is ahead, if its key is less, or the same and its id less. -/
theorem pcmp_neg {a b i c d j K M : Int} (hK : K = a * 18446744073709551616 + b) (hM : M = c * 18446744073709551616 + d) (hb : 0 ≤ b ∧ b < 18446744073709551616) (hd : 0 ≤ d ∧ d < 18446744073709551616) :
    pcmp a b i c d j < 0 ↔ K < M ∨ K = M ∧ i < j := by
  unfold pcmp
  rcases dcmp_cases (a := a) (b := b) (c := c) (d := d) hb hd with ⟨h, h2⟩ | ⟨h, h2⟩ | ⟨h, h2⟩
  · rw [h, if_pos rfl]
    unfold icmp
    split
    · omega
    · split <;> omega
  · rw [h, if_neg (by omega)]; omega
  · rw [h, if_neg (by omega)]; omega
end Go.Proofs.Ytnigfipjcnamfaa

/- An order that lies boxed. -/
namespace Go.Proofs.Ytnigfipjcnamfaa
open Go.RowKit

theorem ord_cells {w w' : World} {B : Nat} {a b c : Value} (hb : Below w.heap.size w w') (hB : B < w.heap.size) (h : w.cell? ⟨B, 0, none⟩ = some a ∧ w.cell? ⟨B, 1, none⟩ = some b ∧ w.cell? ⟨B, 2, none⟩ = some c) :
    w'.cell? ⟨B, 0, none⟩ = some a ∧ w'.cell? ⟨B, 1, none⟩ = some b ∧ w'.cell? ⟨B, 2, none⟩ = some c :=
  ⟨(hb.cell (p := ⟨B, 0, none⟩) hB).trans h.1, (hb.cell (p := ⟨B, 1, none⟩) hB).trans h.2.1, (hb.cell (p := ⟨B, 2, none⟩) hB).trans h.2.2⟩
/-- An order that lies boxed, and its point. -/
structure OrdIn (w0 w : World) (B : Nat) (kd cl : Int) (q : Option Addr) (an ac : Nat) (A : List Int) : Prop where
  cells : w.cell? ⟨B, 0, none⟩ = some (.int .u8 kd) ∧ w.cell? ⟨B, 1, none⟩ = some (.int .i64 cl) ∧ w.cell? ⟨B, 2, none⟩ = some (.slice q an ac)
  lt : B < w.heap.size
  i : Ints w q an ac A
  below : Below w0.heap.size w0 w
theorem OrdIn.later {w0 w w' : World} {B : Nat} {kd cl : Int} {q : Option Addr} {an ac : Nat} {A : List Int} (h : OrdIn w0 w B kd cl q an ac A) (hb : Below w.heap.size w w') : OrdIn w0 w' B kd cl q an ac A :=
  ⟨ord_cells hb h.lt h.cells, Nat.lt_of_lt_of_le h.lt hb.size, h.i.later hb, h.below.trans (hb.mono h.below.size)⟩
theorem ord_in {w : World} {kd cl : Int} {q : Option Addr} {an ac : Nat} {A : List Int} (h : Ints w q an ac A) : OrdIn w (w.alloc (.cells #[.int .u8 kd, .int .i64 cl, .slice q an ac] 27)) w.heap.size kd cl q an ac A := by
  have hb : Below w.heap.size w (w.alloc (.cells #[.int .u8 kd, .int .i64 cl, .slice q an ac] 27)) := (Below.refl _ _).alloc (Nat.le_refl _) _
  exact ⟨three_alloc w _ _ _ _, by simp, h.later hb, hb⟩
end Go.Proofs.Ytnigfipjcnamfaa
