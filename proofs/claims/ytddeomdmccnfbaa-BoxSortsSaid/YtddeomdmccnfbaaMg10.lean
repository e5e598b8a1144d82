/- BoxTieAll, BoxSorted, BoxRefIns. -/
import Derived.Test.YtddeomdmccnfbaaMg9
/- Go's stable sort tells the order with parted ties. -/
namespace Go.Proofs.Ytddeomdmccnfbaa.St
open Go.Sort

theorem blk_in {s x i : Nat} (h : x % s = 0) (h1 : x ≤ i) (h2 : i < x + s) : i / s = x / s := by
  have hs : 0 < s := by omega
  have e : x = s * (x / s) := by have := Nat.div_add_mod x s; omega
  apply Nat.div_eq_of_lt_le
  · rw [Nat.mul_comm]; omega
  · rw [Nat.succ_mul, Nat.mul_comm]; omega
theorem blk_lt {s x i j : Nat} (hs : 0 < s) (h : x % s = 0) (h1 : i < x) (h2 : x ≤ j) : i / s < j / s := by
  have e : x = s * (x / s) := by have := Nat.div_add_mod x s; omega
  have h3 : i / s < x / s := by
    rw [Nat.div_lt_iff_lt_mul hs, Nat.mul_comm]; omega
  exact Nat.lt_of_lt_of_le h3 (Nat.div_le_div_right h2)
theorem div_two {s i j : Nat} (h : i / (2 * s) < j / (2 * s)) : i / s < j / s := by
  rw [Nat.mul_comm, ← Nat.div_div_eq_div_mul, ← Nat.div_div_eq_div_mul] at h
  omega
theorem lt_of_div {s i j : Nat} (h : i / s < j / s) : i < j := by
  by_cases c : i < j
  · exact c
  · have := Nat.div_le_div_right (c := s) (Nat.le_of_not_lt c); omega
def Blks (lt : Nat → Nat → Bool) (s lo hi : Nat) (d : Array Nat) : Prop := ∀ i j, lo ≤ i → i < j → j < hi → i / s = j / s → tie lt d[j]! d[i]! = false
def Cross (s lo hi : Nat) (d : Array Nat) : Prop := ∀ i j, lo ≤ i → j < hi → i / s < j / s → d[i]! < d[j]!
theorem cross_perm {s n x y : Nat} {d d' : Array Nat} (h : Cross s 0 n d) (hp : PermIn x y d d') (hy : y ≤ n) (hn : d.size = n) (hb : ∀ k, x ≤ k → k < y → k / s = x / s) : Cross s 0 n d' := by
  intro i j _ hj hij
  by_cases ci : x ≤ i ∧ i < y
  · have ei := hb i ci.1 ci.2
    have cj : j < x ∨ y ≤ j := by
      by_cases c : x ≤ j ∧ j < y
      · have := hb j c.1 c.2; omega
      · omega
    rw [hp.2.1 j cj]
    exact permIn_all d d' x y (fun v => v < d[j]!) (by omega) hp (fun k hk hk' => h k j (Nat.zero_le _) hj (by rw [hb k hk hk', ← ei]; exact hij)) i ci.1 ci.2
  · rw [hp.2.1 i (by omega)]
    by_cases cj : x ≤ j ∧ j < y
    · have ej := hb j cj.1 cj.2
      exact permIn_all d d' x y (fun v => d[i]! < v) (by omega) hp (fun k hk hk' => h i k (Nat.zero_le _) (by omega) (by rw [hb k hk hk', ← ej]; exact hij)) j cj.1 cj.2
    · rw [hp.2.1 j (by omega)]
      exact h i j (Nat.zero_le _) hj hij
/-- One more block is sorted. -/
theorem blks_more {lt : Nat → Nat → Bool} {s x y : Nat} {d d' : Array Nat} (hs : 0 < s) (hx : x % s = 0) (hp : PermIn x y d d') (hb : Blks lt s 0 x d) (ho : SortedIn (tie lt) x y d') : Blks lt s 0 y d' := by
  intro i j _ hij hj he
  by_cases c : j < x
  · rw [hp.2.1 i (by omega), hp.2.1 j (by omega)]
    exact hb i j (Nat.zero_le _) hij c he
  · by_cases ci : i < x
    · have := blk_lt hs hx ci (Nat.le_of_not_lt c); omega
    · exact ho i j (by omega) hij hj
variable {lt : Nat → Nat → Bool} (hS : SWO lt)
include hS
theorem insB_spec (n : Nat) : ∀ (f x : Nat) (d : Array Nat), x % 20 = 0 → x ≤ n → n - x < f → d.size = n → Blks lt 20 0 x d → Cross 20 0 n d → (∀ p q, x ≤ p → p < q → q < n → d[p]! < d[q]!) →
    PermIn 0 n d (insB lt n f x d) ∧ Blks lt 20 0 n (insB lt n f x d) ∧ Cross 20 0 n (insB lt n f x d)
  | 0, x, d, _, _, h, _, _, _, _ => by omega
  | f + 1, x, d, h1, h2, h3, h4, h5, h6, h7 => by
    rw [insB]
    by_cases c : x + 20 ≤ n
    · rw [if_pos c]
      obtain ⟨hp, ho⟩ := insertion_tie hS d x (x + 20) (by omega) (by omega) fun p q a b e => h7 p q a b (by omega)
      have hb := blks_more (by omega) h1 hp h5 ho
      have hc := cross_perm h6 hp c h4 fun k a b => blk_in h1 a b
      generalize insertionSort lt d x (x + 20) = d' at *
      obtain ⟨r1, r2, r3⟩ := insB_spec n f (x + 20) d' (by omega) c (by omega) (by rw [hp.1]; exact h4) hb hc fun p q a b e => by
        rw [hp.2.1 p (Or.inr a), hp.2.1 q (Or.inr (by omega))]; exact h7 p q (by omega) b e
      exact ⟨permIn_trans _ _ _ 0 n (permIn_mono d d' x (x + 20) 0 n (Nat.zero_le _) c (by omega) hp) r1, r2, r3⟩
    · rw [if_neg c]
      obtain ⟨hp, ho⟩ := insertion_tie hS d x n h2 (by omega) fun p q a b e => h7 p q a b e
      exact ⟨permIn_mono d _ x n 0 n (Nat.zero_le _) (Nat.le_refl _) (by omega) hp, blks_more (by omega) h1 hp h5 ho, cross_perm h6 hp (Nat.le_refl _) h4 fun k a b => blk_in h1 a (by omega)⟩
theorem mergeP_spec (s n : Nat) (hs : 0 < s) : ∀ (f x : Nat) (d : Array Nat), x % (2 * s) = 0 → x ≤ n → n - x < f → d.size = n → Blks lt (2 * s) 0 x d → Blks lt s x n d → Cross s x n d → Cross (2 * s) 0 n d →
    PermIn 0 n d (mergeP lt s n f x d) ∧ Blks lt (2 * s) 0 n (mergeP lt s n f x d) ∧ Cross (2 * s) 0 n (mergeP lt s n f x d)
  | 0, x, d, _, _, h, _, _, _, _, _ => by omega
  | f + 1, x, d, h1, h2, h3, h4, h5, h6, h7, h8 => by
    have x1 : x % s = 0 := Nat.mod_eq_zero_of_dvd (Nat.dvd_trans ⟨2, Nat.mul_comm _ _⟩ (Nat.dvd_of_mod_eq_zero h1))
    have x2 : (x + s) % s = 0 := by rw [Nat.add_mod_right]; exact x1
    have key : ∀ b, x + s < b → b ≤ n → b ≤ x + 2 * s → PermIn x b d (symM lt n x (x + s) b d) ∧ SortedIn (tie lt) x b (symM lt n x (x + s) b d) := fun b b1 b2 b3 => by
      refine symM_spec (tie_swo hS) n x (x + s) b d (by omega) b1 (by omega) (by omega) ?_ ?_ ?_
      · exact fun i j a1 a2 a3 => h6 i j a1 a2 (by omega) ((blk_in x1 a1 (by omega)).trans (blk_in x1 (by omega) a3).symm)
      · exact fun i j a1 a2 a3 => h6 i j (by omega) a2 (by omega) ((blk_in x2 a1 (by omega)).trans (blk_in x2 (by omega) (by omega)).symm)
      · exact fun i j a1 a2 a3 a4 => (tie_rising (h7 i j a1 (by omega) (blk_lt hs x2 a2 a3))).symm
    rw [mergeP]
    by_cases c : x + 2 * s ≤ n
    · rw [if_pos c]
      obtain ⟨hp, ho⟩ := key (x + 2 * s) (by omega) c (Nat.le_refl _)
      have hb := blks_more (by omega) h1 hp h5 ho
      have hc := cross_perm h8 hp c h4 fun k a b => blk_in h1 a b
      generalize symM lt n x (x + s) (x + 2 * s) d = d' at *
      obtain ⟨r1, r2, r3⟩ := mergeP_spec s n hs f (x + 2 * s) d' (by rw [Nat.add_mod_right]; exact h1) c (by omega) (by rw [hp.1]; exact h4) hb
        (fun i j a1 a2 a3 a4 => by rw [hp.2.1 i (Or.inr a1), hp.2.1 j (Or.inr (by omega))]; exact h6 i j (by omega) a2 a3 a4)
        (fun i j a1 a2 a3 => by have := lt_of_div a3; rw [hp.2.1 i (Or.inr a1), hp.2.1 j (Or.inr (by omega))]; exact h7 i j (by omega) a2 a3) hc
      exact ⟨permIn_trans _ _ _ 0 n (permIn_mono d d' x (x + 2 * s) 0 n (Nat.zero_le _) c (by omega) hp) r1, r2, r3⟩
    · rw [if_neg c]
      by_cases c2 : x + s < n
      · rw [if_pos c2]
        obtain ⟨hp, ho⟩ := key n c2 (Nat.le_refl _) (by omega)
        exact ⟨permIn_mono d _ x n 0 n (Nat.zero_le _) (Nat.le_refl _) (by omega) hp, blks_more (by omega) h1 hp h5 ho, cross_perm h8 hp (Nat.le_refl _) h4 fun k a b => blk_in h1 a (by omega)⟩
      · rw [if_neg c2]
        exact ⟨permIn_refl d 0 n, blks_more (by omega) h1 (permIn_refl d x n) h5 fun i j a1 a2 a3 => h6 i j a1 a2 a3 ((blk_in x1 a1 (by omega)).trans (blk_in x1 (by omega) (by omega)).symm), h8⟩
theorem stab_spec (n : Nat) : ∀ (f s : Nat) (d : Array Nat), 0 < s → n < s + f → d.size = n → Blks lt s 0 n d → Cross s 0 n d →
    PermIn 0 n d (stab lt n f s d) ∧ SortedIn (tie lt) 0 n (stab lt n f s d)
  | 0, s, d, h1, h2, h3, h4, h5 => by
    rw [stab]
    exact ⟨permIn_refl d 0 n, fun i j a1 a2 a3 => h4 i j a1 a2 a3 (by rw [Nat.div_eq_of_lt (by omega), Nat.div_eq_of_lt (by omega)])⟩
  | f + 1, s, d, h1, h2, h3, h4, h5 => by
    rw [stab]
    by_cases c : s < n
    · rw [if_pos c]
      obtain ⟨q1, q2, q3⟩ := mergeP_spec hS s n h1 (n + 1) 0 d (Nat.zero_mod _) (Nat.zero_le _) (by omega) h3 (fun i j _ _ a _ => by omega) h4 h5 (fun i j a1 a2 a3 => h5 i j a1 a2 (div_two a3))
      generalize mergeP lt s n (n + 1) 0 d = d' at *
      obtain ⟨r1, r2⟩ := stab_spec n f (2 * s) d' (by omega) (by omega) (by rw [q1.1]; exact h3) q2 q3
      exact ⟨permIn_trans _ _ _ 0 n q1 r1, r2⟩
    · rw [if_neg c]
      exact ⟨permIn_refl d 0 n, fun i j a1 a2 a3 => h4 i j a1 a2 a3 (by rw [Nat.div_eq_of_lt (by omega), Nat.div_eq_of_lt (by omega)])⟩
theorem stable_spec (n : Nat) (d : Array Nat) (h : d.size = n) (hr : ∀ p q, p < q → q < n → d[p]! < d[q]!) : PermIn 0 n d (stable lt n d) ∧ SortedIn (tie lt) 0 n (stable lt n d) := by
  obtain ⟨q1, q2, q3⟩ := insB_spec hS n (n + 1) 0 d (Nat.zero_mod _) (Nat.zero_le _) (by omega) h (fun i j _ _ a _ => by omega) (fun i j _ a2 a3 => hr i j (lt_of_div a3) a2) (fun p q _ a b => hr p q a b)
  unfold stable
  generalize insB lt n (n + 1) 0 d = d' at *
  obtain ⟨r1, r2⟩ := stab_spec hS n (n + 1) 20 d' (by omega) (by omega) (by rw [q1.1]; exact h) q2 q3
  exact ⟨permIn_trans _ _ _ 0 n q1 r1, r2⟩
end Go.Proofs.Ytddeomdmccnfbaa.St

/- The places that box.Sort makes: an order, and a permutation. -/
namespace Go.Proofs.Ytddeomdmccnfbaa
open Go.RowKit Go.Sort

theorem elt_true (L : List El) (i j : Nat) : elt L i j = true ↔ (L.getD i default).hi < (L.getD j default).hi ∨ ((L.getD i default).hi = (L.getD j default).hi ∧ ((L.getD i default).lo < (L.getD j default).lo ∨ ((L.getD i default).lo = (L.getD j default).lo ∧ (L.getD i default).id < (L.getD j default).id))) := by
  unfold elt ecmp pcmp dcmp icmp
  rw [decide_eq_true_eq]
  generalize L.getD i default = x
  generalize L.getD j default = y
  repeat' split
  all_goals omega
theorem elt_swo (L : List El) : SWO (elt L) := by
  refine ⟨fun x => ?_, fun x y z h1 h2 => ?_, fun x y z h1 h2 => ?_⟩
  · rw [← Bool.not_eq_true, elt_true]
    omega
  · rw [elt_true] at *
    omega
  · rw [← Bool.not_eq_true, elt_true] at *
    omega
theorem range_at (n i : Nat) (h : i < n) : (Array.range n)[i]! = i := by simp [h]
theorem elt_stable (L : List El) (n : Nat) : PermIn 0 n (Array.range n) (St.stable (elt L) n (Array.range n)) ∧ SortedIn (St.tie (elt L)) 0 n (St.stable (elt L) n (Array.range n)) :=
  St.stable_spec (elt_swo L) n (Array.range n) (by simp) fun p q h1 h2 => by rw [range_at n p (by omega), range_at n q h2]; exact h1
/-- Every place is one of the n. -/
theorem elt_places (L : List El) (n m : Nat) (h : m < n) : (St.stable (elt L) n (Array.range n))[m]! < n :=
  permIn_all (Array.range n) _ 0 n (fun v => v < n) (by simp) (elt_stable L n).1 (fun k _ hk => by rw [range_at n k hk]; exact hk) m (Nat.zero_le _) h
end Go.Proofs.Ytddeomdmccnfbaa

/- Plain: insertion into a list, ahead of the first one that it is ahead of; it tells the order with parted ties, as Go's stable sort does. -/
namespace Go.Proofs.Ytddeomdmccnfbaa.St
open Go.Sort

def ins (lt : Nat → Nat → Bool) (i : Nat) : List Nat → List Nat
  | [] => [i]
  | j :: l => if lt i j = true then i :: j :: l else j :: ins lt i l
def refS (lt : Nat → Nat → Bool) : Nat → List Nat
  | 0 => []
  | k + 1 => ins lt k (refS lt k)
theorem ins_perm (lt : Nat → Nat → Bool) (i : Nat) : ∀ l, (ins lt i l).Perm (i :: l)
  | [] => List.Perm.refl _
  | j :: l => by
    unfold ins
    by_cases h : lt i j = true
    · rw [if_pos h]
    · rw [if_neg h]
      exact ((ins_perm lt i l).cons j).trans (List.Perm.swap i j l)
theorem refS_perm (lt : Nat → Nat → Bool) : ∀ n, (refS lt n).Perm (List.range n)
  | 0 => List.Perm.refl _
  | n + 1 => by
    rw [List.range_succ]
    exact (ins_perm lt n _).trans (((refS_perm lt n).cons n).trans (List.perm_append_singleton n (List.range n)).symm)
theorem refS_mem {lt : Nat → Nat → Bool} {n j : Nat} (h : j ∈ refS lt n) : j < n := by
  rw [(refS_perm lt n).mem_iff, List.mem_range] at h
  exact h
theorem refS_length (lt : Nat → Nat → Bool) (n : Nat) : (refS lt n).length = n := by
  rw [(refS_perm lt n).length_eq, List.length_range]
theorem ins_congr {lt lt' : Nat → Nat → Bool} (i : Nat) : ∀ l, (∀ j ∈ l, lt i j = lt' i j) → ins lt i l = ins lt' i l
  | [], _ => rfl
  | j :: l, h => by
    unfold ins
    rw [h j (by simp), ins_congr i l (fun j hj => h j (by simp [hj]))]
theorem refS_congr {lt lt' : Nat → Nat → Bool} : ∀ n, (∀ i j, i < n → j < n → lt i j = lt' i j) → refS lt n = refS lt' n
  | 0, _ => rfl
  | n + 1, h => by
    unfold refS
    rw [refS_congr n (fun i j hi hj => h i j (by omega) (by omega))]
    exact ins_congr n _ fun j hj => h n j (by omega) (by have := refS_mem hj; omega)
/-- Where it is put: behind those that it isn't ahead of. -/
theorem ins_at {lt : Nat → Nat → Bool} (i : Nat) : ∀ (l : List Nat) (k : Nat), k ≤ l.length → (∀ t, t < k → lt i (l.getD t 0) = false) → (k = l.length ∨ lt i (l.getD k 0) = true) → ins lt i l = l.take k ++ i :: l.drop k
  | [], k, hk, _, _ => by
    obtain rfl : k = 0 := by simpa using hk
    rfl
  | j :: l, 0, _, _, h2 => by
    have h3 : lt i j = true := by
      rcases h2 with h | h
      · simp at h
      · exact h
    unfold ins
    rw [if_pos h3]
    rfl
  | j :: l, k + 1, hk, h1, h2 => by
    have h3 : lt i j = false := h1 0 (by omega)
    unfold ins
    rw [if_neg (by rw [h3]; simp), ins_at i l k (by simpa using hk) (fun t ht => h1 (t + 1) (by omega)) (h2.imp (by simp) id)]
    rfl
variable {lt : Nat → Nat → Bool} (hS : SWO lt)
include hS
theorem ins_sorted (i : Nat) : ∀ l : List Nat, (∀ j ∈ l, j < i) → l.Pairwise (fun a b => tie lt b a = false) → (ins lt i l).Pairwise (fun a b => tie lt b a = false)
  | [], _, _ => by unfold ins; exact List.pairwise_singleton _ _
  | j :: l, hi, h => by
    have hT := tie_swo hS
    have hj := hi j (by simp)
    obtain ⟨h1, h2⟩ := List.pairwise_cons.1 h
    unfold ins
    by_cases c : lt i j = true
    · rw [if_pos c]
      have hij : tie lt j i = false := hT.asymmA (by rw [tie_true]; exact Or.inl c)
      refine List.pairwise_cons.2 ⟨fun b hb => ?_, h⟩
      rcases List.mem_cons.1 hb with rfl | hb
      · exact hij
      · exact hT.ntrans _ _ _ (h1 b hb) hij
    · rw [if_neg c]
      rw [Bool.not_eq_true] at c
      refine List.pairwise_cons.2 ⟨fun b hb => ?_, ins_sorted i l (fun b hb => hi b (by simp [hb])) h2⟩
      rw [(ins_perm lt i l).mem_iff] at hb
      rcases List.mem_cons.1 hb with rfl | hb
      · rw [tie_false]
        exact ⟨c, Or.inr (by omega)⟩
      · exact h1 b hb
theorem refS_sorted : ∀ n, (refS lt n).Pairwise (fun a b => tie lt b a = false)
  | 0 => List.Pairwise.nil
  | n + 1 => ins_sorted hS n _ (fun j hj => refS_mem hj) (refS_sorted n)
/-- The stable sort tells the same. -/
theorem stable_refS (n : Nat) : (stable lt n (Array.range n)).toList = refS lt n := by
  obtain ⟨hp, ho⟩ := stable_spec hS n (Array.range n) (by simp) fun p q h1 h2 => by
    have e : ∀ i, i < n → (Array.range n)[i]! = i := fun i h => by simp [h]
    rw [e p (by omega), e q h2]; exact h1
  have hsz : (stable lt n (Array.range n)).size = n := by rw [hp.1]; simp
  have hperm : (stable lt n (Array.range n)).toList.Perm (List.range n) := by
    have h := hp.2.2
    have e1 : (stable lt n (Array.range n)).extract 0 n = stable lt n (Array.range n) := by
      conv => lhs; rw [← hsz]
      rw [hsz]
      conv => lhs; arg 3; rw [← hsz]
      exact Array.extract_size
    have e2 : (Array.range n).extract 0 n = Array.range n := by
      conv => lhs; arg 3; rw [← Array.size_range (n := n)]
      exact Array.extract_size
    rw [e1, e2, Array.toList_range] at h
    exact h
  refine List.Perm.eq_of_pairwise (le := fun a b => tie lt b a = false) (fun a b _ _ h1 h2 => tie_eq a b h2 h1) ?_ (refS_sorted hS n) (hperm.trans (refS_perm lt n).symm)
  rw [List.pairwise_iff_getElem]
  intro i j hi hj hij
  have hi' : i < (stable lt n (Array.range n)).size := by simpa using hi
  have hj' : j < (stable lt n (Array.range n)).size := by simpa using hj
  have := ho i j (Nat.zero_le _) hij (by omega)
  rw [getElem!_pos _ j hj', getElem!_pos _ i hi'] at this
  simpa using this
end Go.Proofs.Ytddeomdmccnfbaa.St
