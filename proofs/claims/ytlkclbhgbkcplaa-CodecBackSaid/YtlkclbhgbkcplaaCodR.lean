/- The contracts of codec.Reader: refuse, take, value, atMost, Count, End, Err, Left; codec.New. -/
import Derived.Test.YtlkclbhgbkcplaaCodW2
namespace Go.Proofs.Ytlkclbhgbkcplaa
open Go.RowKit

/-- What a reader holds: the bytes that are left, its error. -/
structure Rd where
  R : List Nat
  e : Nat
structure RS (w : World) (g : Nat) (p : Option Addr) (n c : Nat) (s : Rd) : Prop where
  row : w.heap[g]? = some (.cells #[.slice p n c, .int .i64 s.e] 65 (0, 0))
  tx : Tx w p n c s.R
  lo : ∀ x, p = some x → s.R ≠ [] → x.block < g
def RSx (w : World) (g : Nat) (s : Rd) : Prop := ∃ p n c, RS w g p n c s
theorem RS.lt {w : World} {g : Nat} {p : Option Addr} {n c : Nat} {s : Rd} (h : RS w g p n c s) : g < w.heap.size := (Array.getElem?_eq_some_iff.1 h.row).1
theorem RS.err {w : World} {g : Nat} {p : Option Addr} {n c : Nat} {s : Rd} (h : RS w g p n c s) : w.cell? ⟨g, 1, none⟩ = some (.int .i64 s.e) := (cell_of_row w g 1 _ _ _ h.row).trans rfl
theorem RS.rest {w : World} {g : Nat} {p : Option Addr} {n c : Nat} {s : Rd} (h : RS w g p n c s) : w.cell? ⟨g, 0, none⟩ = some (.slice p n c) := (cell_of_row w g 0 _ _ _ h.row).trans rfl
theorem RS.fz {w : World} {g : Nat} {p : Option Addr} {n c : Nat} {s : Rd} (h : RS w g p n c s) (j : Nat) : w.frozen? ⟨g, j, none⟩ = false := frozen_of_row w g j _ _ h.row
theorem RS.later {w w' : World} {g : Nat} {p : Option Addr} {n c : Nat} {s : Rd} (h : RS w g p n c s) (hb : Below w.heap.size w w') : RS w' g p n c s :=
  ⟨(hb.block _ h.lt).trans h.row, h.tx.later hb, h.lo⟩
theorem RSx.later {w w' : World} {g : Nat} {s : Rd} (h : RSx w g s) (hb : Below w.heap.size w w') : RSx w' g s := by
  obtain ⟨p, n, c, h⟩ := h
  exact ⟨p, n, c, h.later hb⟩
/-- Bytes lie in none of a reader's own cells. -/
theorem tx_other {w : World} {g : Nat} {p q : Option Addr} {n c m d : Nat} {e : Nat} {B : List Nat} (hr : w.heap[g]? = some (.cells #[.slice p n c, .int .i64 e] 65 (0, 0))) (h : Tx w q m d B) : ∀ x, q = some x → B ≠ [] → x.block ≠ g := by
  intro x hx hB hg
  subst hx
  have h0 := h.cells 0 _ (vals_get _ 0 (List.length_pos_iff.2 hB))
  have e0 : x.add 0 = x := by simp [Addr.add]
  rw [e0] at h0
  simp only [World.cell?, hg, hr] at h0
  split at h0 <;> simp_all
  match hx : x.off with
  | 0 => rw [hx] at h0; simp at h0
  | 1 => rw [hx] at h0; simp at h0
  | k + 2 => rw [hx] at h0; simp at h0
theorem Tx.grown {w w' : World} {p : Option Addr} {n c : Nat} {B : List Nat} (h : Tx w p n c B) {g : Nat} (hg : w.grownBy w' (some g)) (hn : ∀ x, p = some x → B ≠ [] → x.block ≠ g) : Tx w' p n c B :=
  ⟨h.size, h.le, h.ok, h.at'.imp id fun ⟨x, hp, hx⟩ => ⟨x, hp, fun j u hu => by
    have h1 := hx j u hu
    have hB : B ≠ [] := by rintro rfl; simp [vals] at hu
    have hb : (x.add j).block = x.block := by cases x; simp [Addr.add]; split <;> rfl
    rw [World.cell?_of_block (w := w) (hg.block _ (block_lt_of_cell h1) (by rw [hb]; intro e; exact hn x hp hB (by simpa using e)))]
    exact h1⟩, h.sp⟩
theorem add_add (x : Addr) (n j : Nat) : (x.add n).add j = x.add (n + j) := by
  simp only [Addr.add]
  by_cases h1 : n = 0
  · subst h1; simp
  · by_cases h2 : j = 0
    · subst h2; simp
    · rw [if_neg h1, if_neg h2, if_neg (by omega)]; simp [Nat.add_assoc]
theorem vals_take (B : List Nat) (n : Nat) : vals (B.take n) = (vals B).take n := by simp [vals]
theorem Tx.take {w : World} {p : Option Addr} {m c : Nat} {B : List Nat} (h : Tx w p m c B) (n : Nat) (hn : n ≤ m) : Tx w p n c (B.take n) :=
  ⟨by have := h.size; rw [List.length_take]; omega, Nat.le_trans hn h.le, fun x hx => h.ok x (List.mem_of_mem_take hx), h.at'.imp id fun ⟨x, hp, hx⟩ => ⟨x, hp, fun j u hu => hx j u (by
    rw [vals_take] at hu
    rw [List.getElem?_take] at hu
    split at hu
    · exact hu
    · cases hu)⟩, h.sp⟩
theorem Tx.drop {w : World} {p : Option Addr} {m c : Nat} {B : List Nat} (h : Tx w p m c B) (n : Nat) (hn : n ≤ m) : Tx w (Option.map (fun x => x.add n) p) (m - n) (c - n) (B.drop n) := by
  have h1 := h.size
  have h2 := h.le
  refine ⟨by rw [List.length_drop]; omega, by omega, fun x hx => h.ok x (List.mem_of_mem_drop hx), ?_, ?_⟩
  · rcases h.at' with ⟨hp, hc⟩ | ⟨x, hp, hx⟩
    · subst hp; subst hc
      exact Or.inl ⟨rfl, by omega⟩
    · subst hp
      refine Or.inr ⟨x.add n, rfl, fun j u hu => ?_⟩
      rw [add_add]
      refine hx (n + j) u ?_
      rw [vals_drop, List.getElem?_drop] at hu
      exact hu
  · intro x hx hc
    cases p with
    | none => cases hx
    | some y =>
      simp at hx
      subst hx
      simp only [Addr.add]
      split
      · exact h.sp y rfl (by omega)
      · rfl
theorem Tx.nothing {w : World} {p : Option Addr} {m c : Nat} {B : List Nat} (h : Tx w p m c B) : Tx w p 0 0 [] :=
  ⟨rfl, Nat.le_refl _, fun x hx => by simp at hx, by
    cases p with
    | none => exact Or.inl ⟨rfl, rfl⟩
    | some x => exact Or.inr ⟨x, rfl, fun j u hu => by simp [vals] at hu⟩, fun _ _ h => by omega⟩
theorem lo_drop {g : Nat} {p : Option Addr} {B : List Nat} (h : ∀ x, p = some x → B ≠ [] → x.block < g) (n : Nat) : ∀ x, Option.map (fun x => x.add n) p = some x → B.drop n ≠ [] → x.block < g := by
  intro x hx hB
  cases p with
  | none => cases hx
  | some y =>
    simp only [Option.map_some, Option.some.injEq] at hx
    subst hx
    have : (y.add n).block = y.block := by cases y; simp [Addr.add]; split <;> rfl
    rw [this]
    exact h y rfl (by rintro rfl; simp at hB)
def Rd.refuse (s : Rd) (k : Nat) : Rd := if s.e = 0 then ⟨s.R, k⟩ else s
def Rd.fits (s : Rd) (n : Nat) : Prop := s.e = 0 ∧ n ≤ s.R.length
instance (s : Rd) (n : Nat) : Decidable (s.fits n) := by unfold Rd.fits; infer_instance
def Rd.part (s : Rd) (n : Nat) : List Nat := if s.fits n then s.R.take n else []
def Rd.past (s : Rd) (n : Nat) : Rd := if s.fits n then ⟨s.R.drop n, 0⟩ else s.refuse 20
def RPost (w : World) (g : Nat) (v : Value) (s : Rd) (e : Ending) (w' : World) : Prop := e = .returned v ∧ RSx w' g s ∧ w.grownBy w' (some g)
set_option maxHeartbeats 1000000 in
theorem rrefuse_any (s : Rd) (k : Nat) (g : Nat) (w : World) (hs : RSx w g s) :
    Calls Try.prog 40 #[.pointer (some ⟨g, 0, none⟩), .int .i64 k] w (RPost w g (.tuple #[]) (s.refuse k)) := by
  obtain ⟨p, n, c, hs⟩ := hs
  have h1 := hs.err
  have f1 := hs.fz 1
  have HS := Lib.hid hs
  clear hs
  by_cases he : s.e = 0
  · have e : s.refuse k = ⟨s.R, k⟩ := by unfold Rd.refuse; rw [if_pos he]
    rw [he] at h1
    rw [e]
    clear he e
    go_enter Try.func40, Try.ntmps40
    go_wp2_with fail
    go_end0
    have r1 := heap_setCell_same w g 1 _ _ (.int .i64 k) HS.out.row
    refine ⟨rfl, ⟨p, n, c, r1, HS.out.tx.grown (grown_setCell w g 1 _) (tx_other HS.out.row HS.out.tx), HS.out.lo⟩, grown_setCell w g 1 _⟩
  · have e : s.refuse k = s := by unfold Rd.refuse; rw [if_neg he]
    have b1 : ((s.e : Int) == 0) = false := by simp; omega
    rw [e]
    clear he e
    go_enter Try.func40, Try.ntmps40
    go_wp2_with fail
    go_end0
    exact ⟨rfl, ⟨p, n, c, HS.out⟩, ⟨rfl, rfl, rfl, Nat.le_refl _, fun _ _ _ => rfl⟩⟩
def TakePost (w : World) (g : Nat) (s : Rd) (n : Nat) (e : Ending) (w' : World) : Prop := ∃ q c, e = .returned (.slice q (s.part n).length c) ∧ Tx w' q (s.part n).length c (s.part n) ∧ RSx w' g (s.past n) ∧ w.grownBy w' (some g)
theorem grown_same (w : World) (r : Option Nat) : w.grownBy w r := ⟨rfl, rfl, rfl, Nat.le_refl _, fun _ _ _ => rfl⟩
theorem tx_nil (w : World) : Tx w none 0 0 [] := ⟨rfl, Nat.le_refl _, fun x hx => by simp at hx, Or.inl ⟨rfl, rfl⟩, fun _ h _ => by cases h⟩
set_option maxRecDepth 100000 in
set_option maxHeartbeats 1000000 in
theorem take_any (s : Rd) (n : Nat) (g : Nat) (w : World) (hs : RSx w g s) (hn : n < 9223372036854775808) (hl : s.R.length < 1099511627776) :
    Calls Try.prog 41 #[.pointer (some ⟨g, 0, none⟩), .int .i64 n] w (TakePost w g s n) := by
  obtain ⟨p, m, c, hs⟩ := hs
  have h0 := hs.rest
  have h1 := hs.err
  have hm := hs.tx.size
  have hmc := hs.tx.le
  have hml : m < 1099511627776 := by omega
  have HM := Lib.hid hm
  have HS := Lib.hid hs
  clear hs hm
  by_cases hlt : m < n
  · have b1 : (m : Int) < n := by omega
    have e : ¬ s.fits n := fun h => by have := h.2; have := HM.out; omega
    have e1 : s.part n = [] := by unfold Rd.part; rw [if_neg e]
    have e2 : s.past n = s.refuse 20 := by unfold Rd.past; rw [if_neg e]
    unfold TakePost
    rw [e1, e2]
    clear e e1 e2 h1
    go_enter Try.func41, Try.ntmps41
    go_wp2_with fail
    refine (rrefuse_any s 20 g _ ⟨p, m, c, HS.out⟩).mono ?_
    rintro e w1 hp
    obtain ⟨rfl, ⟨p1, m1, c1, h2⟩, h3⟩ := hp
    have h4 := h2.err
    have b2 : (((s.refuse 20).e : Int) != 0) = true := by
      unfold Rd.refuse
      split <;> simp
      assumption
    have H2 := Lib.hid h2
    have H3 := Lib.hid h3
    clear h2 h3
    go_wp2_with fail
    go_ret
    exact ⟨none, 0, rfl, tx_nil _, ⟨p1, m1, c1, H2.out⟩, H3.out⟩
  · have b1 : ¬ (m : Int) < n := by omega
    by_cases he : s.e = 0
    · have e : s.fits n := ⟨he, by have := HM.out; omega⟩
      have e1 : s.part n = s.R.take n := by unfold Rd.part; rw [if_pos e]
      have e2 : s.past n = ⟨s.R.drop n, 0⟩ := by unfold Rd.past; rw [if_pos e]
      have e3 : (s.R.take n).length = n := by rw [List.length_take]; have := HM.out; omega
      unfold TakePost
      rw [e1, e2, e3]
      rw [he] at h1
      clear e e1 e2 e3
      have f0 := HS.out.fz 0
      have HE := Lib.hid he
      clear he
      have b3 : (0 : Int) ≤ n := by omega
      by_cases hcn : c = n
      · subst hcn
        obtain rfl : m = c := by omega
        go_enter Try.func41, Try.ntmps41
        go_wp2_with fail
        go_ret
        have r1 := heap_setCell_same w g 0 _ _ (.slice p 0 0) HS.out.row
        rw [HE.out] at r1
        have hd : s.R.drop m = [] := List.drop_eq_nil_of_le (by have := HM.out; omega)
        refine ⟨p, m, rfl, (HS.out.tx.take m (Nat.le_refl _)).grown (grown_setCell w g 0 _) (tx_other HS.out.row (HS.out.tx.take m (Nat.le_refl _))), ?_, grown_setCell w g 0 _⟩
        rw [hd]
        exact ⟨p, 0, 0, r1, HS.out.tx.nothing.grown (grown_setCell w g 0 _) (fun x hx h => absurd rfl h), fun x hx h => absurd rfl h⟩
      · go_enter Try.func41, Try.ntmps41
        go_wp2_with fail
        go_ret
        have r1 := heap_setCell_same w g 0 _ _ (.slice (Option.map (fun x => x.add n) p) (m - n) (c - n)) HS.out.row
        rw [HE.out] at r1
        have t1 := HS.out.tx.take n (by omega)
        have t2 := HS.out.tx.drop n (by omega)
        exact ⟨p, c, rfl, t1.grown (grown_setCell w g 0 _) (tx_other HS.out.row t1), ⟨_, _, _, r1, t2.grown (grown_setCell w g 0 _) (tx_other HS.out.row t2), fun x hx h => lo_drop HS.out.lo n x hx h⟩, grown_setCell w g 0 _⟩
    · have e : ¬ s.fits n := fun h => he h.1
      have e1 : s.part n = [] := by unfold Rd.part; rw [if_neg e]
      have e2 : s.past n = s := by unfold Rd.past Rd.refuse; rw [if_neg e, if_neg he]
      have b2 : ((s.e : Int) != 0) = true := by simp; omega
      unfold TakePost
      rw [e1, e2]
      clear e e1 e2 he
      go_enter Try.func41, Try.ntmps41
      go_wp2_with fail
      go_ret
      exact ⟨none, 0, rfl, tx_nil _, ⟨p, m, c, HS.out⟩, grown_same _ _⟩
end Go.Proofs.Ytlkclbhgbkcplaa
