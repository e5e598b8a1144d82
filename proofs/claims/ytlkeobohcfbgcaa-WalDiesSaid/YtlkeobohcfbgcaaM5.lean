/- WlApi, WlApp, WpRec, WpLog, WpFill, WpWW, CodWBytes, CodWDg, WpFirst, DkLandLen, DkSecs, GenBox, DkLandDo, DkLandWrite. -/
import Derived.Test.YtlkeobohcfbgcaaM4
import Derived.RangeFuncNested
import Derived.Maps.AppendAt
import Derived.Laws.AppendOwnNone
import Derived.Deep.WholeRow
import Derived.Deep.RegionHeld3
/- What the laws want of package wal: contracts over whatever relation LD says that a log lies in memory. -/
namespace Go.Proofs.Ytlkeobohcfbgcaa.Wl
open Go.RowKit

/-- A log: its records; has an error of a write broken it? -/
structure G where
  R : List (List Nat)
  broken : Bool
def G.used (g : G) : Nat := size g.R g.R.length / 64
/-- An append, plainly: the disk and the log behind it, its error. -/
def G.app (g : G) (s : Dk.D) (b : List Nat) : (Dk.D × G) × Nat :=
  if g.broken = true then ((s, g), 30)
  else if s.n < g.used + need b.length then ((s, g), 12)
  else
    let r := doAll s (plan s.n g.used (last g.R g.R.length) g.R.length b)
    if r.2 = 0 then ((r.1, ⟨g.R ++ [b], false⟩), 0) else ((r.1, ⟨g.R, true⟩), r.2)
/-- The contracts of package wal. LD w gl Q gd n g: in the world w the log g lies in the block gl, what it owns are the blocks of Q, its disk lies in gd and has n sectors. -/
structure Api (LD : World → Nat → (Nat → Prop) → Nat → Nat → G → Prop) : Prop where
  lt : ∀ {w gl Q gd n g}, LD w gl Q gd n g → ∀ k, Q k → k < w.heap.size
  fit : ∀ {w gl Q gd n g}, LD w gl Q gd n g → size g.R g.R.length ≤ 64 * n
  keep : ∀ {w w' gl Q gd n g} (X : Nat → Prop), LD w gl Q gd n g → Dk.Only X w w' → (∀ k, Q k → ¬ X k) → LD w' gl Q gd n g
  need : ∀ (n : Int) (w : World), -9223372036854775808 ≤ n → n ≤ 9223372036854775807 → Calls Try.prog 9 #[.int .i64 n] w fun e w' => e = .returned (.int .i64 (needI n : Nat)) ∧ Below w.heap.size w w'
  openNil : ∀ (w : World), Calls Try.prog 13 #[.pointer none] w fun e w' => e = .returned (.tuple #[.pointer none, .int .i64 1]) ∧ Below w.heap.size w w'
  openDead : ∀ {w gd P s}, Dk.PD w gd P s → s.dead = true → Calls Try.prog 13 #[.pointer (some ⟨gd, 0, none⟩)] w fun e w' => e = .returned (.tuple #[.pointer none, .int .i64 30]) ∧ Below w.heap.size w w'
  openNo : ∀ {w gd P s}, Dk.PD w gd P s → s.dead = false → reads s.L = none → Calls Try.prog 13 #[.pointer (some ⟨gd, 0, none⟩)] w fun e w' => e = .returned (.tuple #[.pointer none, .int .i64 31]) ∧ Below w.heap.size w w'
  openYes : ∀ {w gd P s} (R : List (List Nat)), Dk.PD w gd P s → s.dead = false → reads s.L = some R → Calls Try.prog 13 #[.pointer (some ⟨gd, 0, none⟩)] w fun e w' => ∃ gl Q, e = .returned (.tuple #[.pointer (some ⟨gl, 0, none⟩), .int .i64 0]) ∧ LD w' gl Q gd s.n ⟨R, false⟩ ∧ (∀ k, Q k → w.heap.size ≤ k) ∧ Below w.heap.size w w'
  append : ∀ {w gd P s gl Q g} (b : List Nat) (p : Option Addr) (n c : Nat), Dk.PD w gd P s → LD w gl Q gd s.n g → (∀ k, P k → ¬ Q k) → Tx w p n c b → (∀ x, p = some x → b ≠ [] → ¬ P x.block ∧ ¬ Q x.block) → n ≤ 100000 → s.writes < 900000 → g.R.length < 100000 →
    Calls Try.prog 15 #[.pointer (some ⟨gl, 0, none⟩), .slice p n c] w fun e w' => e = .returned (.int .i64 ((g.app s b).2 : Nat)) ∧ ∃ P' Q', Dk.PD w' gd P' (g.app s b).1.1 ∧ LD w' gl Q' gd s.n (g.app s b).1.2 ∧ (∀ k, P' k → P k ∨ w.heap.size ≤ k) ∧ (∀ k, Q' k → Q k ∨ w.heap.size ≤ k) ∧ (∀ k, P' k → ¬ Q' k) ∧ Dk.Only (fun k => P k ∨ Q k) w w'
  free : ∀ {w gd P s gl Q g}, Dk.PD w gd P s → LD w gl Q gd s.n g → Calls Try.prog 19 #[.pointer (some ⟨gl, 0, none⟩)] w fun e w' => e = .returned (.int .i64 (s.n - g.used : Nat)) ∧ Below w.heap.size w w'
  last : ∀ {w gl Q gd n g}, LD w gl Q gd n g → Calls Try.prog 20 #[.pointer (some ⟨gl, 0, none⟩)] w fun e w' => e = .returned (.agg (u8s (last g.R g.R.length))) ∧ Below w.heap.size w w'
  recordsAt : ∀ {w gl Q gd n g}, LD w gl Q gd n g → Calls Try.prog 23 #[.pointer (some ⟨gl, 0, none⟩)] w fun e w' => ∃ q m c, e = .returned (.slice q m c) ∧ (∀ w'' : World, (∀ k, Q k ∨ w.heap.size ≤ k → k < w'.heap.size → w''.heap[k]? = w'.heap[k]?) → Texts w'' q m c g.R) ∧ Below w.heap.size w w'
  disk : ∀ {w gl Q gd n g}, LD w gl Q gd n g → Calls Try.prog 14 #[.pointer (some ⟨gl, 0, none⟩)] w fun e w' => e = .returned (.pointer (some ⟨gd, 0, none⟩)) ∧ Below w.heap.size w w'
/-- What Records tells, there and then. -/
theorem Api.records {LD : World → Nat → (Nat → Prop) → Nat → Nat → G → Prop} (A : Api LD) {w : World} {gl : Nat} {Q : Nat → Prop} {gd n : Nat} {g : G} (h : LD w gl Q gd n g) : Calls Try.prog 23 #[.pointer (some ⟨gl, 0, none⟩)] w fun e w' => ∃ q m c, e = .returned (.slice q m c) ∧ Texts w' q m c g.R ∧ Below w.heap.size w w' :=
  (A.recordsAt h).mono fun _e _w' ⟨q, m, c, h1, h2, h3⟩ => ⟨q, m, c, h1, h2 _ (fun _ _ _ => rfl), h3⟩
section
variable {LD : World → Nat → (Nat → Prop) → Nat → Nat → G → Prop}
/-- A disk and a log on it, of a law's own, from the world w0 on. -/
structure St (LD : World → Nat → (Nat → Prop) → Nat → Nat → G → Prop) (w0 w : World) (gd : Nat) (P : Nat → Prop) (s : Dk.D) (gl : Nat) (Q : Nat → Prop) (g : G) : Prop where
  disk : Dk.PD w gd P s
  log : LD w gl Q gd s.n g
  apart : ∀ k, P k → ¬ Q k
  own : ∀ k, P k ∨ Q k → w0.heap.size ≤ k
  low : Below w0.heap.size w0 w
theorem St.later (A : Api LD) {w0 w w' : World} {gd : Nat} {P : Nat → Prop} {s : Dk.D} {gl : Nat} {Q : Nat → Prop} {g : G} (h : St LD w0 w gd P s gl Q g) (hb : Below w.heap.size w w') : St LD w0 w' gd P s gl Q g :=
  ⟨Dk.PD.keep (fun _ => False) h.disk (Dk.Only.of_below _ hb) (fun _ _ e => e), A.keep (fun _ => False) h.log (Dk.Only.of_below _ hb) (fun _ _ e => e), h.apart, h.own, h.low.trans (hb.mono h.low.size)⟩
theorem doAll_n : ∀ (W : List (Nat × List Nat)) (s : Dk.D), (doAll s W).1.n = s.n
  | [], _ => rfl
  | x :: W, s => by
    have hw : (s.write x.1 x.2).n = s.n := by unfold Dk.D.write; split <;> rfl
    rw [doAll]
    split
    · rw [doAll_n W _, hw]
    · exact hw
theorem G.app_n (g : G) (s : Dk.D) (b : List Nat) : (g.app s b).1.1.n = s.n := by
  unfold G.app
  split
  · rfl
  · split
    · rfl
    · simp only
      split
      · exact doAll_n _ _
      · exact doAll_n _ _
/-- Behind an append. -/
theorem St.app {w0 w w' : World} {gd : Nat} {P P' : Nat → Prop} {s : Dk.D} {gl : Nat} {Q Q' : Nat → Prop} {g : G} {b : List Nat} (h : St LD w0 w gd P s gl Q g) (hd : Dk.PD w' gd P' (g.app s b).1.1) (hl : LD w' gl Q' gd s.n (g.app s b).1.2) (hp : ∀ k, P' k → P k ∨ w.heap.size ≤ k) (hq : ∀ k, Q' k → Q k ∨ w.heap.size ≤ k) (ha : ∀ k, P' k → ¬ Q' k) (ho : Dk.Only (fun k => P k ∨ Q k) w w') : St LD w0 w' gd P' (g.app s b).1.1 gl Q' (g.app s b).1.2 :=
  ⟨hd, by rw [g.app_n s b]; exact hl, ha, fun k hk => by
    rcases hk with hk | hk
    · exact (hp k hk).elim (fun e => h.own k (Or.inl e)) (fun e => Nat.le_trans h.low.size e)
    · exact (hq k hk).elim (fun e => h.own k (Or.inr e)) (fun e => Nat.le_trans h.low.size e), h.low.trans (ho.below h.low.size h.own)⟩
/-- The disk alone turns. -/
theorem St.disk' (A : Api LD) {w0 w w' : World} {gd : Nat} {P P' : Nat → Prop} {s s' : Dk.D} {gl : Nat} {Q : Nat → Prop} {g : G} (h : St LD w0 w gd P s gl Q g) (hn : s'.n = s.n) (hd : Dk.PD w' gd P' s') (hp : ∀ k, P' k → P k ∨ w.heap.size ≤ k) (ho : Dk.Only P w w') : St LD w0 w' gd P' s' gl Q g :=
  ⟨hd, by rw [hn]; exact A.keep P h.log ho (fun k hk hp => h.apart k hp hk), fun k hk hq => (hp k hk).elim (fun e => h.apart k e hq) (fun e => absurd (A.lt h.log k hq) (Nat.not_lt.2 e)), fun k hk => by
    rcases hk with hk | hk
    · exact (hp k hk).elim (fun e => h.own k (Or.inl e)) (fun e => Nat.le_trans h.low.size e)
    · exact h.own k (Or.inr hk), h.low.trans (ho.below h.low.size (fun k e => h.own k (Or.inl e)))⟩
end
/-- Bytes that were there lie aside of what is the law's own. -/
theorem aside {w : World} {P Q : Nat → Prop} {p : Option Addr} {n c : Nat} {b : List Nat} (h : Tx w p n c b) (ho : ∀ k, P k ∨ Q k → w.heap.size ≤ k) : ∀ x, p = some x → b ≠ [] → ¬ P x.block ∧ ¬ Q x.block := fun x hx hb => by
  obtain ⟨g, o, hp, hc⟩ := h.bytes.ne hb
  rw [hx] at hp
  cases hp
  have hlt := block_lt_of_cell (hc 0 (List.length_pos_iff.2 hb))
  exact ⟨fun e => absurd (ho _ (Or.inl e)) (Nat.not_le.2 hlt), fun e => absurd (ho _ (Or.inr e)) (Nat.not_le.2 hlt)⟩
/-- A new disk holds an empty log. -/
theorem zeros_good (n : Nat) : Good (zeros (64 * n)) [] := ⟨Nat.zero_le _, rfl, fun h => by
  rw [show size [] [].length = 0 from rfl] at h ⊢
  simp [zeros, List.getD_eq_getElem?_getD, List.getElem?_replicate]
  split <;> simp, fun b hb => by cases hb⟩
end Go.Proofs.Ytlkeobohcfbgcaa.Wl

/- An append's outcomes, plainly. -/
namespace Go.Proofs.Ytlkeobohcfbgcaa.Wl
open Go.RowKit

theorem mod64 (R : List (List Nat)) : ∀ k, size R k % 64 = 0
  | 0 => rfl
  | k + 1 => by have := mod64 R k; rw [size]; omega
theorem used_size (g : G) : size g.R g.R.length = 64 * g.used := by
  have := mod64 g.R g.R.length
  unfold G.used
  omega
theorem used_one (R : List (List Nat)) (b : List Nat) : G.used ⟨R ++ [b], false⟩ = G.used ⟨R, false⟩ + need b.length := by
  unfold G.used
  simp only
  rw [size_one]
  have := mod64 R R.length
  omega
theorem app_broken {g : G} {s : Dk.D} {b : List Nat} (h : g.broken = true) : g.app s b = ((s, g), 30) := by unfold G.app; rw [if_pos h]
theorem app_full {g : G} {s : Dk.D} {b : List Nat} (h : g.broken = false) (hf : s.n < g.used + need b.length) : g.app s b = ((s, g), 12) := by
  unfold G.app
  rw [if_neg (by rw [h]; simp), if_pos hf]
/-- What an append that comes whole leaves. -/
structure Whole (s s' : Dk.D) (R : List (List Nat)) (b : List Nat) : Prop where
  n : s'.n = s.n
  dead : s'.dead = false
  left : s.left < 0 → s'.left = s.left
  writes : s'.writes ≤ s.writes + need b.length + 1
  good : Good s'.L (R ++ [b])
  next : G.used ⟨R, false⟩ + need b.length < s.n → s'.L.getD (64 * (G.used ⟨R, false⟩ + need b.length) + 63) 0 = 0
theorem app_whole {R : List (List Nat)} {s : Dk.D} {b : List Nat} (hok : s.ok) (hd : s.dead = false) (hG : Good s.L R) (hob : Sm.allB b) (hb : b.length ≤ 100000) (hf : G.used ⟨R, false⟩ + need b.length ≤ s.n) (hl : s.left < 0 ∨ (need b.length : Int) + 1 ≤ s.left) :
    ∃ s', G.app ⟨R, false⟩ s b = ((s', ⟨R ++ [b], false⟩), 0) ∧ Whole s s' R b := by
  have hu := used_size ⟨R, false⟩
  simp only at hu
  have hpl := (plan_length s.n (G.used ⟨R, false⟩) (last R R.length) R.length b).1
  have hfit := plan_fits s.n (G.used ⟨R, false⟩) (last R R.length) R.length hob hf
  have h1 := doAll_whole (plan s.n (G.used ⟨R, false⟩) (last R R.length) R.length b) s hd hfit (hl.imp id (fun h => by omega))
  obtain ⟨h2, h3⟩ := hG.plan hok.len hu hf hb
  refine ⟨(doAll s (plan s.n (G.used ⟨R, false⟩) (last R R.length) R.length b)).1, ?_, ?_⟩
  · unfold G.app
    rw [if_neg (by simp), if_neg (by omega)]
    simp only
    rw [if_pos (by rw [h1])]
  · rw [h1]
    exact ⟨rfl, hd, fun h => by simp only; rw [if_pos h], by simp only; omega, h2, h3⟩
/-- What an append that dies leaves. -/
structure Died (s s' : Dk.D) (R : List (List Nat)) (b : List Nat) : Prop where
  n : s'.n = s.n
  dead : s'.dead = true
  writes : s'.writes ≤ s.writes + need b.length + 1
  good : Good s'.L R ∨ Good s'.L (R ++ [b])
theorem app_dies {R : List (List Nat)} {s : Dk.D} {b : List Nat} (hok : s.ok) (hd : s.dead = false) (hG : Good s.L R) (hob : Sm.allB b) (hb : b.length ≤ 100000) (hf : G.used ⟨R, false⟩ + need b.length ≤ s.n) (hl : 0 ≤ s.left ∧ s.left < (plan s.n (G.used ⟨R, false⟩) (last R R.length) R.length b).length) :
    ∃ s', G.app ⟨R, false⟩ s b = ((s', ⟨R, true⟩), 30) ∧ Died s s' R b := by
  have hu := used_size ⟨R, false⟩
  simp only at hu
  have hpl := (plan_length s.n (G.used ⟨R, false⟩) (last R R.length) R.length b).1
  have hfit := plan_fits s.n (G.used ⟨R, false⟩) (last R R.length) R.length hob hf
  obtain ⟨x, hx, h1⟩ := doAll_dies (plan s.n (G.used ⟨R, false⟩) (last R R.length) R.length b) s s.left.toNat hd hfit (by omega) (by omega)
  refine ⟨(doAll s (plan s.n (G.used ⟨R, false⟩) (last R R.length) R.length b)).1, ?_, ?_⟩
  · unfold G.app
    rw [if_neg (by simp), if_neg (by omega)]
    simp only
    rw [if_neg (by rw [h1]; simp), h1]
  · rw [h1]
    exact ⟨rfl, rfl, by simp only; omega, hG.part hok.len hu hf hb hob hx hok.torn⟩
end Go.Proofs.Ytlkeobohcfbgcaa.Wl

/- Package wal, as it landed: a record as a value. -/
namespace Go.Proofs.Ytlkeobohcfbgcaa.Wl
open Go.RowKit

/-- A record's cells: its number, its text's header, its sum. -/
def recA (k : Nat) (q : Option Addr) (m c : Nat) (D : List Nat) : Array Value := (([.int .i64 (k : Int), .slice q m c] : List Value) ++ vals D).toArray
theorem recA_size (k : Nat) (q : Option Addr) (m c : Nat) (D : List Nat) (h : D.length = 32) : (recA k q m c D).size = 34 := by simp [recA, vals_length, h]
theorem recA_one (k : Nat) (q : Option Addr) (m c : Nat) (D : List Nat) : (recA k q m c D).all (·.oneCell') = true := by
  unfold recA
  refine all_oneCell_toArray fun u hu => ?_
  simp only [List.cons_append, List.nil_append, List.mem_cons] at hu
  rcases hu with rfl | rfl | hu
  · rfl
  · rfl
  · exact vals_one _ u hu
section
variable {w : World} {g k : Nat} {q : Option Addr} {m c : Nat} {D : List Nat}
theorem rec_c0 (h : w.heap[g]? = some (.cells (recA k q m c D) 65 (0, 0))) : w.cell? ⟨g, 0, none⟩ = some (.int .i64 k) := (cell_of_row w g 0 _ _ _ h).trans rfl
theorem rec_c1 (h : w.heap[g]? = some (.cells (recA k q m c D) 65 (0, 0))) : w.cell? ⟨g, 1, none⟩ = some (.slice q m c) := (cell_of_row w g 1 _ _ _ h).trans rfl
theorem rec_c2 (h : w.heap[g]? = some (.cells (recA k q m c D) 65 (0, 0))) : w.rangeAt g 2 (vals D) := by
  have := rangeAt_row (w := w) (g := g) (t := 65) [.int .i64 (k : Int), .slice q m c] (vals D) [] (by rw [List.append_nil]; exact h)
  exact this
end
/-- The sum's load: a whole array in the midst of a record. -/
theorem S34 : (Try.prog.info? 65).map (·.size) = some 34 := by kernel_rfl
end Go.Proofs.Ytlkeobohcfbgcaa.Wl

/- Package wal, as it landed: how a log lies in memory. -/
namespace Go.Proofs.Ytlkeobohcfbgcaa.Wl
open Go.RowKit

/-- The row of a log. -/
def lrow (gd : Nat) (v : Value) (D : List Nat) (u : Nat) (br : Bool) : Array Value := (([.pointer (some ⟨gd, 0, none⟩), v] : List Value) ++ vals D ++ ([.int .i64 (u : Int), .bool br] : List Value)).toArray
/-- The log g: its row in the block gl, its texts' headers hs at v. -/
structure LA (w : World) (gl gd : Nat) (v : Value) (hs : List Value) (g : G) : Prop where
  row : w.heap[gl]? = some (.cells (lrow gd v (last g.R g.R.length) g.used g.broken) 62 (0, 0))
  own : w.ownsRow 0 36 1 v g.R.length hs
  text : ∀ i, i < g.R.length → ∃ q m c, hs[i]? = some (.slice q m c) ∧ Tx w q m c (g.R.getD i [])
  small : ∀ b ∈ g.R, b.length ≤ 100000
  off : ∀ (i : Nat) (q : Addr) (m c : Nat), hs[i]? = some (.slice (some q) m c) → 0 < m → q.block ≠ gl ∧ v.ownBlock ≠ some q.block
/-- The blocks that it owns. -/
def LQ (gl : Nat) (v : Value) (hs : List Value) (k : Nat) : Prop := k = gl ∨ v.ownBlock = some k ∨ ∃ (i : Nat) (q : Addr) (m c : Nat), hs[i]? = some (.slice (some q) m c) ∧ 0 < m ∧ k = q.block
def LD (w : World) (gl : Nat) (Q : Nat → Prop) (gd n : Nat) (g : G) : Prop := ∃ v hs, LA w gl gd v hs g ∧ (∀ k, Q k ↔ LQ gl v hs k) ∧ size g.R g.R.length ≤ 64 * n
section
variable {w w' : World} {gl gd n : Nat} {v : Value} {hs : List Value} {g : G} {Q : Nat → Prop}
theorem lrow_get (gd : Nat) (v : Value) {D : List Nat} (hD : D.length = 32) (u : Nat) (br : Bool) : (lrow gd v D u br)[0]? = some (.pointer (some ⟨gd, 0, none⟩)) ∧ (lrow gd v D u br)[1]? = some v ∧ (lrow gd v D u br)[34]? = some (.int .i64 u) ∧ (lrow gd v D u br)[35]? = some (.bool br) := by
  have hl : (vals D).length = 32 := by rw [vals_length, hD]
  unfold lrow
  refine ⟨rfl, rfl, ?_, ?_⟩
  · rw [List.getElem?_toArray, List.getElem?_append_right (by simp [hl]), List.length_append, hl]
    rfl
  · rw [List.getElem?_toArray, List.getElem?_append_right (by simp [hl]), List.length_append, hl]
    rfl
theorem LA.lt (h : LA w gl gd v hs g) : gl < w.heap.size := (Array.getElem?_eq_some_iff.1 h.row).1
theorem LA.fz (h : LA w gl gd v hs g) (j : Nat) : w.frozen? ⟨gl, j, none⟩ = false := frozen_of_row w gl j _ _ h.row
theorem LA.c0 (h : LA w gl gd v hs g) : w.cell? ⟨gl, 0, none⟩ = some (.pointer (some ⟨gd, 0, none⟩)) := (cell_of_row w gl 0 _ _ _ h.row).trans (lrow_get gd v (last_length _ _) _ _).1
theorem LA.c1 (h : LA w gl gd v hs g) : w.cell? ⟨gl, 1, none⟩ = some v := (cell_of_row w gl 1 _ _ _ h.row).trans (lrow_get gd v (last_length _ _) _ _).2.1
theorem LA.c34 (h : LA w gl gd v hs g) : w.cell? ⟨gl, 34, none⟩ = some (.int .i64 g.used) := (cell_of_row w gl 34 _ _ _ h.row).trans (lrow_get gd v (last_length _ _) _ _).2.2.1
theorem LA.c35 (h : LA w gl gd v hs g) : w.cell? ⟨gl, 35, none⟩ = some (.bool g.broken) := (cell_of_row w gl 35 _ _ _ h.row).trans (lrow_get gd v (last_length _ _) _ _).2.2.2
theorem LA.sum (h : LA w gl gd v hs g) : w.rangeAt gl 2 (vals (last g.R g.R.length)) := rangeAt_row (w := w) (g := gl) (t := 62) [.pointer (some ⟨gd, 0, none⟩), v] (vals (last g.R g.R.length)) [.int .i64 (g.used : Int), .bool g.broken] h.row
/-- The last sum, read as bytes. -/
theorem LA.sumTx (h : LA w gl gd v hs g) : Tx w (some ⟨gl, 2, none⟩) 32 32 (last g.R g.R.length) := ⟨(last_length _ _).symm, Nat.le_refl _, last_ok _ _, Or.inr ⟨⟨gl, 2, none⟩, rfl, fun j u hu => by
  rw [Addr.add_mid]
  exact h.sum j u hu⟩, fun x hx _ => by cases hx; rfl⟩
theorem LA.form (h : LA w gl gd v hs g) : ∃ q c, v = .slice q g.R.length c ∧ g.R.length ≤ c := by
  rcases h.own.2 with ⟨e, h0⟩ | ⟨g', cap, cur, rfl, _, _, hc, _⟩
  · exact ⟨none, 0, by rw [h0]; exact e, by omega⟩
  · exact ⟨_, cap, rfl, hc⟩
theorem LA.blk (h : LA w gl gd v hs g) : ∀ k, LQ gl v hs k → k < w.heap.size := fun k hk => by
  rcases hk with rfl | hk | ⟨i, q, m, c, hi, hm, rfl⟩
  · exact h.lt
  · exact (h.own.lt k hk).2
  · have hlt : i < g.R.length := by
      have h1 := (List.getElem?_eq_some_iff.1 hi).1
      have h2 := h.own.1
      omega
    obtain ⟨q', m', c', h1, h2⟩ := h.text i hlt
    rw [hi] at h1
    cases h1
    have h3 := h2.size
    rcases h2.at' with ⟨h4, _⟩ | ⟨x, hx, hc⟩
    · cases h4
    · cases hx
      have h0 := block_lt_of_cell (hc 0 _ (vals_get _ 0 (by omega)))
      rwa [show (q.add 0).block = q.block from by cases q; simp [Addr.add]] at h0
theorem LA.keep (h : LA w gl gd v hs g) {X : Nat → Prop} (ho : Dk.Only X w w') (hx : ∀ k, LQ gl v hs k → ¬ X k) : LA w' gl gd v hs g :=
  ⟨(ho.block gl h.lt (hx _ (Or.inl rfl))).trans h.row, owns_keep h.own (fun k hk => ho.block k (h.own.lt k hk).2 (hx _ (Or.inr (Or.inl hk)))), fun i hi => by
    obtain ⟨q, m, c, h1, h2⟩ := h.text i hi
    refine ⟨q, m, c, h1, Dk.tx_keep h2 (fun x hq hB => ?_)⟩
    have hm : 0 < m := by have := h2.size; have := List.length_pos_iff.2 hB; omega
    subst hq
    have hk : LQ gl v hs x.block := Or.inr (Or.inr ⟨i, x, m, c, h1, hm, rfl⟩)
    exact ho.block x.block (h.blk _ hk) (hx _ hk), h.small, h.off⟩
theorem LA.later (h : LA w gl gd v hs g) (hb : Below w.heap.size w w') : LA w' gl gd v hs g := h.keep (Dk.Only.of_below (fun _ => False) hb) (fun _ _ e => e)
theorem LD.lt (h : LD w gl Q gd n g) : ∀ k, Q k → k < w.heap.size := fun k hk => by
  obtain ⟨v, hs, h1, h2, _⟩ := h
  exact h1.blk k ((h2 k).1 hk)
theorem LD.keep (X : Nat → Prop) (h : LD w gl Q gd n g) (ho : Dk.Only X w w') (hx : ∀ k, Q k → ¬ X k) : LD w' gl Q gd n g := by
  obtain ⟨v, hs, h1, h2, h3⟩ := h
  exact ⟨v, hs, h1.keep ho (fun k hk => hx k ((h2 k).2 hk)), h2, h3⟩
end
end Go.Proofs.Ytlkeobohcfbgcaa.Wl

/- Package wal, as it landed: filled. -/
namespace Go.Proofs.Ytlkeobohcfbgcaa.Wl
open Go.RowKit

/-- The first k bytes, zeros behind them. -/
def fill (b : List Nat) (k : Nat) : List Nat := b.take k ++ zeros (k - b.length)
theorem fill_length (b : List Nat) (k : Nat) : (fill b k).length = k := by simp [fill, zeros]; omega
theorem fill_ok {b : List Nat} (h : Sm.allB b) (k : Nat) : Sm.allB (fill b k) := fun x hx => by
  simp only [fill, List.mem_append] at hx
  rcases hx with hx | hx
  · exact h x (List.mem_of_mem_take hx)
  · exact zeros_ok _ x hx
theorem fill_nil (k : Nat) : fill [] k = zeros k := by simp [fill]
theorem fill_pad (b : List Nat) : fill b 19 = pad19 b := rfl
theorem fill_vals (b : List Nat) (k : Nat) : vals (fill b k) = vals (b.take k) ++ vals (zeros (k - b.length)) := by rw [fill, vals_append]
theorem make_b (m : Nat) (hm : m ≤ 1000000) (w : World) : (Instr.makeSlice 36 (.int .i64 m) (.int .i64 m)).run Try.prog w = .ok (.slice (some ⟨w.heap.size, 0, none⟩) m m) (w.alloc (.cells (u8s (zeros m)) 5)) := by
  obtain ⟨i5, hi, hi0, hi1, hi2⟩ := info_parts I5
  have := run_make (P := Try.prog) w 36 5 i5 _ A22 hi hi0 .i64 .i64 m m (by omega) (by omega) (by rw [hi2]; omega) (by omega)
  rw [this, hi1]
  simp only [Int.toNat_natCast, Nat.mul_one, made_zeros]
theorem zeros_add (a b : Nat) : zeros a ++ zeros b = zeros (a + b) := List.replicate_append_replicate
theorem nil_tx (w : World) : Tx w none 0 0 [] := ⟨rfl, Nat.le_refl _, (fun x hx => by cases hx), Or.inl ⟨rfl, rfl⟩, fun _ h _ => by cases h⟩
/-- Bytes copied into a new row of zeros. -/
theorem copy_fill {w : World} {x : Addr} {n c : Nat} {b : List Nat} (hT : Tx w (some x) n c b) (k : Nat) :
    ∃ w', (Builtin.copy_ #[36, 36] 3 #[.slice (some ⟨w.heap.size, 0, none⟩) k k, .slice (some x) n c]).run Try.prog (w.alloc (.cells (u8s (zeros k)) 5)) = .ok (goInt (min k n : Nat)) w' ∧ w'.heap[w.heap.size]? = some (.cells (u8s (fill b k)) 5 (0, 0)) ∧ Below w.heap.size w w' := by
  have hn := hT.size
  have hb := (Below.refl w.heap.size w).alloc (Nat.le_refl _) (.cells (u8s (zeros k)) 5)
  have hT' := hT.later hb
  have hl : (vals (b.take k)).length = min k n := by simp [vals]; omega
  have hrow := heap_alloc_new w (.cells (u8s (zeros k)) 5)
  have ht := there_row hrow 0 k (by simp [u8s, zeros])
  generalize hw1 : w.alloc (.cells (u8s (zeros k)) 5) = w1 at *
  have hcp := run_copy_cells (P := Try.prog) w1 36 36 3 5 w.heap.size 0 k k x n c (vals (b.take k)) A22 E5 (by rw [hl]; exact Nat.min_comm _ _) (fun i v hv => hT'.cells i v (by
      have hi : i < (vals (b.take k)).length := (List.getElem?_eq_some_iff.1 hv).1
      rw [hl] at hi
      rw [vals_get _ _ (by rw [List.length_take]; omega)] at hv
      rw [vals_get _ _ (by omega), ← hv]
      simp [List.getD_eq_getElem?_getD, show i < k by omega])) (fun i hi => (ht i (by omega)).1) (fun i hi => (ht i (by omega)).2) (vals_one _)
  refine ⟨_, hcp.trans (by rw [hl]), ?_, ?_⟩
  · have e1 : u8s (zeros k) = ([] ++ vals (zeros (min k n)) ++ vals (zeros (k - b.length))).toArray := by
      rw [List.nil_append, ← vals_append, zeros_add, show min k n + (k - b.length) = k from by omega, vals_toArray]
    rw [e1] at hrow
    have := heap_setCells_same w.heap.size _ (vals (b.take k)) [] (vals (zeros (min k n))) (vals (zeros (k - b.length))) w1 hrow (by rw [hl, vals_length]; simp [zeros])
    rw [List.nil_append, ← fill_vals] at this
    exact this
  · obtain ⟨h1, h2, h3, h4⟩ := size_setCells w.heap.size (vals (b.take k)) 0 w1
    exact ⟨h2.trans hb.os, h3.trans hb.tape, h4.trans hb.output, by rw [h1]; exact hb.size, fun j hj => (heap_setCells_other w.heap.size _ 0 w1 j (by omega)).trans (hb.block j hj)⟩
set_option maxRecDepth 100000 in
set_option maxHeartbeats 1000000 in
theorem filled_any (b : List Nat) (p : Option Addr) (n c k : Nat) (w : World) (hT : Tx w p n c b) (hk : k ≤ 64) :
    Calls Try.prog 53 #[.slice p n c, .int .i64 k] w fun e w' => e = .returned (.slice (some ⟨w.heap.size, 0, none⟩) k k) ∧ w'.heap[w.heap.size]? = some (.cells (u8s (fill b k)) 5 (0, 0)) ∧ Below w.heap.size w w' := by
  have M1 := make_b k (by omega) w
  cases hp : p with
  | none =>
    obtain ⟨rfl, rfl⟩ : n = 0 ∧ c = 0 := by
      have := hT.le
      rcases hT.at' with ⟨_, h⟩ | ⟨x, h, _⟩
      · omega
      · rw [hp] at h; cases h
    have HB0 := Lib.hid (show b = [] from List.eq_nil_of_length_eq_zero (by have := hT.size; omega))
    have hcp := run_copy_none (P := Try.prog) (w.alloc (.cells (u8s (zeros k)) 5)) 36 36 3 5 (some ⟨w.heap.size, 0, none⟩) none k k 0 0 A22 E5 (Nat.zero_min _)
    clear hT hp
    go_enter Try.func53, Try.ntmps53
    go_wp2_with fail
    go_ret
    refine ⟨rfl, ?_, (Below.refl _ _).alloc (Nat.le_refl _) _⟩
    rw [HB0.out, fill_nil]
    exact heap_alloc_new w _
  | some x =>
    rw [hp] at hT
    obtain ⟨w', hcp, hrow, hb⟩ := copy_fill hT k
    have HR := Lib.hid hrow
    have HB := Lib.hid hb
    clear hT hp hrow hb
    go_enter Try.func53, Try.ntmps53
    go_wp2_with fail
    go_ret
    exact ⟨rfl, HR.out, HB.out⟩
end Go.Proofs.Ytlkeobohcfbgcaa.Wl

/- Package wal, as it landed: what stands while a record is written. -/
namespace Go.Proofs.Ytlkeobohcfbgcaa.Wl
open Go.RowKit

theorem doAll_app : ∀ (V W : List (Nat × List Nat)) (s : Dk.D), doAll s (V ++ W) = if (doAll s V).2 = 0 then doAll (doAll s V).1 W else doAll s V
  | [], W, s => by simp [doAll]
  | x :: V, W, s => by
    rw [List.cons_append, doAll, doAll]
    by_cases h : s.says x.1 64 = 0
    · rw [if_pos h, if_pos h]
      exact doAll_app V W _
    · rw [if_neg h, if_neg h, if_neg h]
theorem doAll_one (s : Dk.D) (i : Nat) (B : List Nat) : doAll s [(i, B)] = (s.write i B, s.says i 64) := by
  rw [doAll]
  split
  · next h => rw [doAll, h]
  · rfl
theorem doAll_body (s : Dk.D) (u : Nat) (b : List Nat) (j : Nat) (h : (doAll s (body u b j)).2 = 0) : doAll s (body u b (j + 1)) = ((doAll s (body u b j)).1.write (u + 1 + j : Nat) (((rest b).drop (64 * j)).take 64), (doAll s (body u b j)).1.says (u + 1 + j : Nat) 64) := by
  rw [body_succ, doAll_app, if_pos h, doAll_one]
theorem writes_le : ∀ (W : List (Nat × List Nat)) (s : Dk.D), (doAll s W).1.writes ≤ s.writes + W.length
  | [], s => by simp [doAll]
  | x :: W, s => by
    have hw : (s.write x.1 x.2).writes ≤ s.writes + 1 := by
      unfold Dk.D.write Dk.D.put
      split
      · exact Nat.le_refl _
      · exact Nat.le_succ _
    rw [doAll]
    split
    · have := writes_le W (s.write x.1 x.2)
      rw [List.length_cons]
      omega
    · rw [List.length_cons]
      simp only
      omega
theorem body_length (u : Nat) (b : List Nat) (c : Nat) : (body u b c).length = c := by simp [body]
/-- A part of the text, filled up with zeros, is the sector's bytes. -/
theorem chunk_fill (b : List Nat) {f j : Nat} (hf : f = min b.length 19) (hj : 64 * j < b.length - f) : fill ((((b.drop f).drop (64 * j))).take (min 64 (b.length - f - 64 * j))) 64 = ((rest b).drop (64 * j)).take 64 := by
  have hb : f = 19 := by omega
  subst hb
  have hl : ((b.drop 19).drop (64 * j)).length = b.length - 19 - 64 * j := by rw [List.length_drop, List.length_drop]
  unfold fill rest
  rw [List.drop_append_of_le_length (by simp; omega)]
  by_cases h : 64 ≤ b.length - 19 - 64 * j
  · rw [Nat.min_eq_left h, List.take_take, Nat.min_self, List.take_append_of_le_length (by rw [hl]; exact h)]
    have : 64 - (List.take 64 (List.drop (64 * j) (List.drop 19 b))).length = 0 := by rw [List.length_take, hl]; omega
    rw [this]
    simp [zeros]
  · rw [Nat.min_eq_right (by omega), List.take_take, Nat.min_eq_right (by omega), List.take_of_length_le (by rw [hl]; omega), List.take_append, List.take_of_length_le (by rw [hl]; omega), hl]
    congr 1
    have hn : need b.length = 1 + (b.length - 19 + 63) / 64 := rfl
    unfold zeros
    rw [List.take_replicate]
    congr 1
    omega
/-- The bytes of a part. -/
def chB (B : List Nat) (j : Nat) : List Nat := if 64 * j < B.length then (B.drop (64 * j)).take (min 64 (B.length - 64 * j)) else []
theorem chunk_tx {w : World} {bg o n c : Nat} {B : List Nat} (hn : n = B.length) (hT : 0 < n → Tx w (some ⟨bg, o, none⟩) n c B) (j : Nat) : ∃ p e, chunk bg o n j = .slice p e e ∧ e ≤ 64 ∧ Tx w p e e (chB B j) ∧ ∀ x, p = some x → x.block = bg := by
  unfold chunk chB
  by_cases h : 64 * j < n
  · rw [if_pos h, if_pos (by omega), ← hn]
    have h1 := ((hT (by omega)).drop (64 * j) (by omega)).take (min 64 (n - 64 * j)) (by omega)
    rw [Option.map_some, Addr.add_mid] at h1
    refine ⟨_, _, rfl, Nat.min_le_left _ _, ⟨h1.size, Nat.le_refl _, h1.ok, ?_, fun x hx _ => by cases hx; rfl⟩, fun x hx => by cases hx; rfl⟩
    rcases h1.at' with ⟨e, _⟩ | e
    · cases e
    · exact Or.inr e
  · rw [if_neg h, if_neg (by omega)]
    exact ⟨none, 0, rfl, Nat.zero_le _, nil_tx w, fun x hx => by cases hx⟩
/-- The writes of parts, whichever they are. -/
def wrs (u : Nat) (B : List Nat) (pre : List Nat) : List (Nat × List Nat) := pre.zipIdx.map fun x => (u + 1 + x.2, fill (chB B x.1) 64)
theorem wrs_app (u : Nat) (B : List Nat) (pre : List Nat) (x : Nat) : wrs u B (pre ++ [x]) = wrs u B pre ++ [(u + 1 + pre.length, fill (chB B x) 64)] := by
  unfold wrs
  rw [List.zipIdx_append, List.map_append]
  simp
theorem wrs_upto (u : Nat) (b : List Nat) {f : Nat} (hf : f = min b.length 19) : ∀ k, k ≤ (b.length - f + 63) / 64 → wrs u (b.drop f) (upto k) = body u b k
  | 0, _ => rfl
  | k + 1, h => by
    rw [upto_succ, wrs_app, wrs_upto u b hf k (by omega), body_succ, upto_length]
    have hl : (b.drop f).length = b.length - f := List.length_drop
    unfold chB
    rw [if_pos (by rw [hl]; omega), hl, chunk_fill b hf (by omega)]
/-- A failing write is the last one. -/
theorem body_fail {s s' : Dk.D} {u : Nat} {b : List Nat} {k N er : Nat} (h : doAll s (body u b k) = (s', er)) (he : er ≠ 0) (hk : k ≤ N) (W : List (Nat × List Nat)) : doAll s (body u b N ++ W) = (s', er) := by
  have h1 : ∃ V, body u b N = body u b k ++ V := by
    refine ⟨(body u b N).drop k, ?_⟩
    conv => lhs; rw [← List.take_append_drop k (body u b N)]
    congr 1
    unfold body
    rw [← List.map_take, List.take_range, Nat.min_eq_left hk]
  obtain ⟨V, hV⟩ := h1
  rw [hV, List.append_assoc, doAll_app, h, if_neg he]
section
variable {w wx w' : World} {gl gd : Nat} {P P' P'' X : Nat → Prop} {s s' : Dk.D} {rc : Array Value} {er : Int} {v : Value} {hs : List Value} {g : G}
/-- The blocks of a disk are cells. -/
theorem pd_cells (h : Dk.PD w gd P s) : ∀ k, P k → ∃ C t, w.heap[k]? = some (.cells C t (0, 0)) := fun k hk => by
  obtain ⟨p, c, E, lit, whole, torn, h, hP⟩ := h
  rcases (hP k).1 hk with rfl | ⟨a, ha, rfl⟩
  · exact ⟨_, _, h.row⟩
  · rcases h.sec with ⟨e, _⟩ | ⟨q, hq, _, hh⟩
    · rw [ha] at e; cases e
    · rw [ha] at hq; cases hq; exact ⟨_, _, hh⟩
/-- While a record is written: the disk, what was there, the three variables. -/
structure WW (w wx : World) (gl gd : Nat) (P P' : Nat → Prop) (s : Dk.D) (rc : Array Value) (er : Int) (X : Nat → Prop) : Prop where
  disk : Dk.PD wx gd P' s
  sub : ∀ k, P' k → P k ∨ (w.heap.size + 3 ≤ k ∧ ¬ X k)
  base : ∀ k, P k → k < w.heap.size
  only : Dk.Only P w wx
  b0 : wx.heap[w.heap.size]? = some (.cells #[.pointer (some ⟨gl, 0, none⟩)] 31 (0, 0))
  b1 : wx.heap[w.heap.size + 1]? = some (.cells rc 65 (0, 0))
  b2 : wx.heap[w.heap.size + 2]? = some (.cells #[.int .i64 er] 28 (0, 0))
theorem WW.la (h : WW w wx gl gd P P' s rc er X) (hl : LA w gl gd v hs g) (hap : ∀ k, P k → ¬ LQ gl v hs k) : LA wx gl gd v hs g := hl.keep h.only (fun k hk hp => hap k hp hk)
theorem WW.tx (h : WW w wx gl gd P P' s rc er X) {q : Option Addr} {m c : Nat} {b : List Nat} (hT : Tx w q m c b) (hx : ∀ x, q = some x → b ≠ [] → ¬ P x.block) : Tx wx q m c b := Dk.tx_keep hT (fun x hq hb => h.only.block x.block (by
  obtain ⟨y, o, hp, hc⟩ := hT.bytes.ne hb
  rw [hq] at hp
  cases hp
  exact block_lt_of_cell (hc 0 (List.length_pos_iff.2 hb))) (hx x hq hb))
theorem WW.size (h : WW w wx gl gd P P' s rc er X) : w.heap.size + 2 < wx.heap.size := (Array.getElem?_eq_some_iff.1 h.b2).1
theorem WW.none (h : WW w wx gl gd P P' s rc er X) {k : Nat} (hk : w.heap.size ≤ k) (hk2 : k < w.heap.size + 3 ∨ X k) : ¬ P' k := fun e => by
  rcases h.sub k e with e | ⟨e1, e2⟩
  · have := h.base k e; omega
  · rcases hk2 with h | h
    · omega
    · exact e2 h
theorem WW.later (h : WW w wx gl gd P P' s rc er X) (hb : Below wx.heap.size wx w') : WW w w' gl gd P P' s rc er X :=
  have hz := h.size
  ⟨Dk.PD.keep (fun _ => False) h.disk (Dk.Only.of_below _ hb) (fun _ _ e => e), h.sub, h.base, h.only.trans (Dk.Only.of_below _ hb), (hb.block _ (by omega)).trans h.b0, (hb.block _ (by omega)).trans h.b1, (hb.block _ (by omega)).trans h.b2⟩
/-- Behind a write. -/
theorem WW.step (h : WW w wx gl gd P P' s rc er X) (hX : ∀ k, X k → k < wx.heap.size) (hd : Dk.PD w' gd P'' s') (hp : ∀ k, P'' k → P' k ∨ wx.heap.size ≤ k) (ho : Dk.Only P' wx w') : WW w w' gl gd P P'' s' rc er X :=
  have hz := h.size
  ⟨hd, fun k hk => (hp k hk).elim (h.sub k) (fun e => Or.inr ⟨by omega, fun e2 => by have := hX k e2; omega⟩), h.base, ⟨ho.os.trans h.only.os, ho.tape.trans h.only.tape, ho.output.trans h.only.output, Nat.le_trans h.only.size ho.size, fun k hk hn => (ho.block k (Nat.lt_of_lt_of_le hk h.only.size) (fun e => (h.sub k e).elim hn (fun e => by omega))).trans (h.only.block k hk hn)⟩,
    (ho.block _ (by omega) (h.none (by omega) (Or.inl (by omega)))).trans h.b0, (ho.block _ (by omega) (h.none (by omega) (Or.inl (by omega)))).trans h.b1, (ho.block _ (by omega) (h.none (by omega) (Or.inl (by omega)))).trans h.b2⟩
/-- A block that is one of X turns. -/
theorem WW.turn (h : WW w wx gl gd P P' s rc er X) {k : Nat} (hk : w.heap.size + 3 ≤ k) (hX : X k) (ho : Dk.Only (fun j => j = k) wx w') : WW w w' gl gd P P' s rc er X :=
  have hz := h.size
  ⟨Dk.PD.keep _ h.disk ho (fun j hj e => h.none (k := k) (by omega) (Or.inr hX) (by rw [← e]; exact hj)), h.sub, h.base, ⟨ho.os.trans h.only.os, ho.tape.trans h.only.tape, ho.output.trans h.only.output, Nat.le_trans h.only.size ho.size, fun j hj hn => (ho.block j (Nat.lt_of_lt_of_le hj h.only.size) (fun e => by omega)).trans (h.only.block j hj hn)⟩,
    (ho.block _ (by omega) (by omega)).trans h.b0, (ho.block _ (by omega) (by omega)).trans h.b1, (ho.block _ (by omega) (by omega)).trans h.b2⟩
/-- The error is told. -/
theorem WW.err (h : WW w wx gl gd P P' s rc er X) (er' : Int) : WW w (wx.setCell ⟨w.heap.size + 2, 0, Option.none⟩ (.int .i64 er')) gl gd P P' s rc er' X := by
  have hz := h.size
  have ho := Dk.Only.setCell (P := fun j => j = w.heap.size + 2) wx (a := ⟨w.heap.size + 2, 0, Option.none⟩) rfl (.int .i64 er')
  exact ⟨Dk.PD.keep _ h.disk ho (fun j hj e => h.none (k := w.heap.size + 2) (by omega) (Or.inl (by omega)) (by rw [← e]; exact hj)), h.sub, h.base, ⟨ho.os.trans h.only.os, ho.tape.trans h.only.tape, ho.output.trans h.only.output, Nat.le_trans h.only.size ho.size, fun j hj hn => (ho.block j (Nat.lt_of_lt_of_le hj h.only.size) (fun e => by omega)).trans (h.only.block j hj hn)⟩,
    (ho.block _ (by omega) (by omega)).trans h.b0, (ho.block _ (by omega) (by omega)).trans h.b1, heap_setCell_same wx _ 0 _ _ (.int .i64 er') h.b2⟩
/-- More blocks are guarded. -/
theorem WW.guard (h : WW w wx gl gd P P' s rc er X) {Y : Nat → Prop} (hY : ∀ k, Y k → X k ∨ ¬ P' k) : WW w wx gl gd P P' s rc er Y :=
  ⟨h.disk, fun k hk => (h.sub k hk).imp id (fun e => ⟨e.1, fun y => (hY k y).elim e.2 (fun n => n hk)⟩), h.base, h.only, h.b0, h.b1, h.b2⟩
/-- A block that is no cells turns. -/
theorem WW.grown (h : WW w wx gl gd P P' s rc er X) {row : Option Nat} (hg : wx.grownBy w' row) (hr : ∀ r, row = some r → w.heap.size ≤ r ∧ ∃ o : Obj, wx.heap[r]? = some o ∧ o.isCells = false) : WW w w' gl gd P P' s rc er X := by
  have hz := h.size
  have hc : ∀ {k C t}, wx.heap[k]? = some (Obj.cells C t (0, 0)) → ¬ row = some k := fun hk e => by
    obtain ⟨_, o, ho, hf⟩ := hr _ e
    rw [hk] at ho
    cases ho
    cases hf
  have ho : Dk.Only (fun k => row = some k) wx w' := ⟨hg.os, hg.tape, hg.output, hg.size, fun k hk hn => hg.block k hk (fun e => hn e.symm)⟩
  exact ⟨Dk.PD.keep _ h.disk ho (fun k hk => by obtain ⟨C, t, e⟩ := pd_cells h.disk k hk; exact hc e), h.sub, h.base, ⟨ho.os.trans h.only.os, ho.tape.trans h.only.tape, ho.output.trans h.only.output, Nat.le_trans h.only.size ho.size, fun j hj hn => (ho.block j (Nat.lt_of_lt_of_le hj h.only.size) (fun e => by have := (hr j e).1; omega)).trans (h.only.block j hj hn)⟩,
    (ho.block _ (by omega) (hc h.b0)).trans h.b0, (ho.block _ (by omega) (hc h.b1)).trans h.b1, (ho.block _ (by omega) (hc h.b2)).trans h.b2⟩
/-- What is no cells stays. -/
theorem keeps_only {B : Nat} (ho : Dk.Only X wx w') (hX : ∀ k, X k → ∃ C t, wx.heap[k]? = some (.cells C t (0, 0))) : KeepsFrom B wx w' := ⟨ho.size, fun k o _ hk hn => by
  refine (ho.block k (Array.getElem?_eq_some_iff.1 hk).1 (fun e => ?_)).trans hk
  obtain ⟨C, t, h⟩ := hX k e
  rw [hk] at h
  cases h
  cases hn⟩
theorem keeps_below {B : Nat} (hb : Below wx.heap.size wx w') : KeepsFrom B wx w' := keeps_only (Dk.Only.of_below (fun _ => False) hb) (fun _ e => e.elim)
end
end Go.Proofs.Ytlkeobohcfbgcaa.Wl

/- The contract of codec.Writer.Bytes. -/
namespace Go.Proofs.Ytlkeobohcfbgcaa
open Go.RowKit

set_option maxHeartbeats 1000000 in
theorem wbytes_any (s : St) (base g : Nat) (v : Value) (w : World) (hs : WS w base g v s) (hl : s.B.length < 1099511627776) :
    Calls Try.prog 46 #[.pointer (some ⟨g, 0, none⟩)] w (ClonePost w s.B) := by
  obtain ⟨q0, c0, hv0, hb⟩ := owns_form hs.own hs.ok
  subst hv0
  have h0 := hs.out
  have HB := Lib.hid hb.tx
  clear hs hb
  go_enter Try.func46, Try.ntmps46
  go_wp2_with fail
  refine (clone_any s.B q0 _ c0 _ HB.out hl).mono ?_
  rintro e w1 hp
  obtain ⟨q, c, rfl, ho, hb⟩ := hp
  have HO := Lib.hid ho
  have HB1 := Lib.hid hb
  clear ho hb
  go_wp2_with fail
  go_ret
  exact ⟨q, c, rfl, HO.out, HB1.out⟩
end Go.Proofs.Ytlkeobohcfbgcaa

/- The contract of codec.Writer.Digest. -/
namespace Go.Proofs.Ytlkeobohcfbgcaa
open Go.RowKit

theorem arr_slice (g : Nat) (w : World) : (Instr.sliceAt 44 (.pointer (some ⟨g, 0, none⟩)) none none none).run Try.prog w = .ok (.slice (some ⟨g, 0, none⟩) 32 32) w := by
  have hl : Try.prog.arrayLen 44 = 32 := by simp [Program.arrayLen]
  have he : Try.prog.elem 44 = 5 := by simp [Program.elem]
  have h1 := run_sliceAt_array_all (P := Try.prog) w 44 ⟨g, 0, none⟩ (by rw [hl, he]; exact A25)
  obtain ⟨i5, hi, _, hi1, _⟩ := info_parts I5
  have hs : (sizeOf 5).run Try.prog w = .ok 1 w := by simp [sizeOf, typeInfo, hi, hi1]
  rw [h1, hl, he, hs]
  simp [slicedAt, Addr.add]
set_option maxRecDepth 100000 in
set_option maxHeartbeats 1000000 in
theorem digestw_any (s : St) (d : List Nat) (hd : d.length = 32) (hdb : Sm.allB d) (base g : Nat) (v : Value) (w : World) (hs : WS w base g v s) (hl : s.B.length + 32 < 1099511627776) (hbw : base ≤ w.heap.size) :
    Calls Try.prog 54 #[.pointer (some ⟨g, 0, none⟩), .agg (u8s d)] w (WPost w base g v (s.put d)) := by
  have hsl := fun w' => arr_slice w.heap.size w'
  have hsa := hs.later ((Below.refl w.heap.size w).alloc (Nat.le_refl _) (.cells (u8s d) 44))
  have hB : Tx (w.alloc (.cells (u8s d) 44)) (some ⟨w.heap.size, 0, none⟩) d.length d.length d := (Bytes.row (L := d) (heap_alloc_new w _) hdb).tx
  rw [hd] at hB
  have HA := Lib.hid (WStep.alloc w g v (.cells (u8s d) 44))
  have HSA := Lib.hid hsa
  have HB := Lib.hid hB
  have HD := Lib.hid hd
  clear hsa hB hs hd
  go_enter Try.func54, Try.ntmps54
  go_wp2_with fail
  refine (put_any s d base g v _ 32 32 _ HSA.out HB.out (by have := HD.out; omega) (by simp; omega)).mono ?_
  rintro e w1 hp
  obtain ⟨rfl, v2, h3, h4⟩ := hp
  have H3 := Lib.hid h3
  have H4 := Lib.hid (HA.out.trans h4)
  clear h3 h4
  go_wp2_with fail
  go_end0
  exact ⟨rfl, v2, H3.out, H4.out⟩
end Go.Proofs.Ytlkeobohcfbgcaa

/- Package wal, as it landed: a record's first sector. -/
namespace Go.Proofs.Ytlkeobohcfbgcaa.Wl
open Go.RowKit

abbrev WSt := _root_.Go.Proofs.Ytlkeobohcfbgcaa.St
/-- A record's first sector, of whatever sum. -/
def headOf (k : Nat) (b D : List Nat) : List Nat := 87 :: (Cm.be b.length 3 ++ Cm.num k ++ pad19 b ++ D ++ [1])
theorem headOf_head (L : List Nat) (k : Nat) (b : List Nat) : headOf k b (rsum L k b) = head L k b := rfl
theorem headOf_length (k : Nat) (b : List Nat) {D : List Nat} (h : D.length = 32) : (headOf k b D).length = 64 := by
  simp [headOf, Cm.be_length, Cm.num_length, pad19_length, h]
def FirR (w2 w6 : World) (base g _fb : Nat) (v5 : Value) (B pad : List Nat) (i : Value) (wr : World) : Prop :=
  ∃ (k : Nat) (v : Value), k ≤ 19 ∧ i = .int .i64 k ∧ WS wr base g v ⟨B ++ pad.take k, 0⟩ ∧ WStep w2 wr g (.slice none 0 0) v ∧ WStep w6 wr g v5 v
theorem put_ok0 (B P : List Nat) : (⟨B, 0⟩ : WSt).put P = ⟨B ++ P, 0⟩ := by unfold St.put; rw [if_pos rfl]
theorem take_snoc' (B : List Nat) (k : Nat) (h : k < B.length) : B.take (k + 1) = B.take k ++ [B.getD k 0] := by
  rw [List.take_succ_eq_append_getElem h, List.getD_eq_getElem?_getD, List.getElem?_eq_getElem h]; rfl
set_option maxRecDepth 100000 in
set_option maxHeartbeats 2500000 in
theorem first_any (k : Nat) (b D : List Nat) (q : Option Addr) (m c : Nat) (w : World) (hk : k < 1099511627776) (hT : Tx w q m c b) (hm : m ≤ 100000) (hD : D.length = 32) (hDok : Sm.allB D) :
    Calls Try.prog 35 #[.agg (recA k q m c D)] w (ClonePost w (headOf k b D)) := by
  have b1 := (Below.refl w.heap.size w).alloc (Nat.le_refl _) (.cells (recA k q m c D) 65)
  have b2 := b1.alloc b1.size (.cells #[.slice none 0 0, .int .i64 0] 79)
  have s1 : (w.alloc (.cells (recA k q m c D) 65)).heap.size = w.heap.size + 1 := by simp
  have s2 : ((w.alloc (.cells (recA k q m c D) 65)).alloc (.cells #[.slice none 0 0, .int .i64 0] 79)).heap.size = w.heap.size + 1 + 1 := by simp
  have r1 := heap_alloc_new w (.cells (recA k q m c D) 65)
  have r2 : ((w.alloc (.cells (recA k q m c D) 65)).alloc (.cells #[.slice none 0 0, .int .i64 0] 79)).heap[w.heap.size]? = some (.cells (recA k q m c D) 65 (0, 0)) := (heap_alloc_old _ (.cells #[.slice none 0 0, .int .i64 0] 79) (by rw [s1]; exact Nat.lt_succ_self _)).trans r1
  have r3 := heap_alloc_new (w.alloc (.cells (recA k q m c D) 65)) (.cells #[.slice none 0 0, .int .i64 0] 79)
  rw [s1] at r3
  have hw2 : WS ((w.alloc (.cells (recA k q m c D) 65)).alloc (.cells #[.slice none 0 0, .int .i64 0] 79)) w.heap.size (w.heap.size + 1) (.slice none 0 0) ⟨[], 0⟩ := ⟨r3, World.ownsRow_nil _ _ _ _, (fun x hx => by cases hx), fun h => absurd rfl h⟩
  have HW2 := Lib.hid hw2
  have HB2 := Lib.hid b2
  have HS2 := Lib.hid s2
  have HR2 := Lib.hid r2
  have HT := Lib.hid hT
  have HD := Lib.hid hD
  have HDO := Lib.hid hDok
  have HML := Lib.hid hT.size
  clear b1 b2 s1 s2 r1 r2 r3 hw2 hT hD hDok
  go_enter Try.func35, Try.ntmps35
  go_wp2_with fail
  generalize hW2 : (w.alloc (.cells (recA k q m c D) 65)).alloc (.cells #[.slice none 0 0, .int .i64 0] 79) = w2 at *
  refine (byte_any ⟨[], 0⟩ 87 (by omega) w.heap.size (w.heap.size + 1) (.slice none 0 0) w2 HW2.out (by simp) (by have := HS2.out; omega)).mono ?_
  rintro e w3 ⟨rfl, v3, k3, l3⟩
  rw [put_ok0] at k3
  have K3 := Lib.hid k3
  have L3 := Lib.hid l3
  have R3 := Lib.hid ((l3.block w.heap.size (by have := HS2.out; omega) (by omega) (by simp [Value.ownBlock])).trans HR2.out)
  have c1 := rec_c1 R3.out
  clear k3 l3 HW2
  go_wp2_with fail
  refine (count_any ⟨_, 0⟩ m (by omega) (by omega) w.heap.size (w.heap.size + 1) v3 w3 K3.out (by simp) (Nat.le_trans HB2.out.size L3.out.size)).mono ?_
  rintro e w4 ⟨rfl, v4, k4, l4⟩
  rw [St.count, if_pos (by omega), Int.toNat_natCast, put_ok0] at k4
  have K4 := Lib.hid k4
  have L4 := Lib.hid (L3.out.trans l4)
  have R4 := Lib.hid ((L4.out.block w.heap.size (by have := HS2.out; omega) (by omega) (by simp [Value.ownBlock])).trans HR2.out)
  have c0 := rec_c0 R4.out
  clear k4 l4 K3 L3 R3 c1
  go_wp2_with fail
  refine (num_any ⟨_, 0⟩ k (by omega) (by omega) w.heap.size (w.heap.size + 1) v4 w4 K4.out (by simp [Cm.be_length]) (Nat.le_trans HB2.out.size L4.out.size)).mono ?_
  rintro e w5 ⟨rfl, v5, k5, l5⟩
  rw [put_ok0] at k5
  have K5 := Lib.hid k5
  have L5 := Lib.hid (L4.out.trans l5)
  have R5 := Lib.hid ((L5.out.block w.heap.size (by have := HS2.out; omega) (by omega) (by simp [Value.ownBlock])).trans HR2.out)
  have c1 := rec_c1 R5.out
  have T5 := Lib.hid (HT.out.later (L5.out.below (base := w.heap.size) (by omega) (fun k e => by simp [Value.ownBlock] at e) HB2.out.size |> HB2.out.trans))
  clear k5 l5 K4 L4 R4 c0
  go_wp2_with fail
  refine (filled_any b q m c 19 w5 T5.out (by omega)).mono ?_
  rintro e w6 ⟨rfl, r6, b6⟩
  rw [fill_pad] at r6
  have R6 := Lib.hid r6
  have HV5 := Lib.hid (show v5.ownBlock ≠ some w5.heap.size from fun e => by have := (K5.out.own.lt _ e).2; omega)
  have K6 := Lib.hid (K5.out.later b6)
  have L6 := Lib.hid (L5.out.trans (WStep.of_below (w.heap.size + 1) v5 b6))
  have HSZ := Lib.hid (show w.heap.size + 1 < w5.heap.size from by have := HS2.out; have := L5.out.size; omega)
  have HB6 := Lib.hid (show w5.heap.size < w6.heap.size from (Array.getElem?_eq_some_iff.1 r6).1)
  clear r6 b6 T5 c1
  go_wp2_with fail
  generalize hB5 : [] ++ [87] ++ Cm.be m 3 ++ Cm.num (k : Int) = B5 at *
  go_loopw [18] (fun i wr => FirR w2 w6 w.heap.size (w.heap.size + 1) w5.heap.size v5 B5 (pad19 b) i wr) (fun i _ => 19 - (intOf i).toNat)
  case atStart => exact ⟨0, v5, by omega, rfl, by rw [List.take_zero, List.append_nil]; exact K6.out, L6.out, WStep.refl _ _ _⟩
  case round =>
    obtain ⟨j, v, hj, rfl, kk, ll, l6⟩ := hrel
    have K := Lib.hid kk
    have L := Lib.hid ll
    have M := Lib.hid l6
    clear kk ll l6 K6 L6
    by_cases hlt : j < 19
    · have l1 : (j : Int) < 19 := by omega
      have i1 : (0 : Int) ≤ j ∧ (j : Int) < 19 := by omega
      have hr := (M.out.block w5.heap.size HB6.out (by have := HSZ.out; omega) HV5.out).trans R6.out
      have hc := u8s_cell hr j (by rw [pad19_length]; exact hlt)
      have hbl : (pad19 b).getD j 0 < 256 := Sm.getD_lt (pad19_ok HT.out.ok) (by omega) _
      have HST := Lib.hid (take_snoc' (pad19 b) j (by rw [pad19_length]; exact hlt))
      have HBL := Lib.hid (show B5.length = 12 from by rw [← hB5]; simp [Cm.be_length, Cm.num_length])
      clear hr
      generalize (pad19 b).getD j 0 = y at *
      go_wp2_with fail
      refine (byte_any ⟨_, 0⟩ y hbl w.heap.size (w.heap.size + 1) v wr K.out (by have := HBL.out; simp; omega) (Nat.le_trans HB2.out.size L.out.size)).mono ?_
      rintro e w7 ⟨rfl, v7, k7, l7⟩
      rw [put_ok0, List.append_assoc, ← HST.out] at k7
      have K7 := Lib.hid k7
      have L7 := Lib.hid l7
      clear k7 l7
      go_wp2_with fail
      go_roundw
      case rel => exact ⟨j + 1, v7, by omega, by go_num, K7.out, L.out.trans L7.out, M.out.trans L7.out⟩
      case measure => simp [intOf]; omega
    · obtain rfl : j = 19 := by omega
      have hp : (pad19 b).take 19 = pad19 b := List.take_of_length_le (by rw [pad19_length]; omega)
      rw [hp] at K
      have RW := Lib.hid ((L.out.block w.heap.size (by have := HS2.out; omega) (by omega) (by simp [Value.ownBlock])).trans HR2.out)
      have HCR := Lib.hid (rec_c2 RW.out)
      have HVD := Lib.hid (show (vals D).length = 32 from by rw [vals_length]; exact HD.out)
      have HBL := Lib.hid (show (B5 ++ pad19 b).length = 31 from by rw [← hB5]; simp [Cm.be_length, Cm.num_length, pad19_length])
      generalize wr = w8 at *
      clear hp
      go_wp2_with (refine wpList_load_mid (by rfl) 44 _ (by rfl) w.heap.size 2 (by rfl) (vals D) _ HCR.out A25 (by rfl) (by rw [HVD.out]; exact S25) ?_)
      refine (digestw_any ⟨_, 0⟩ D HD.out HDO.out w.heap.size (w.heap.size + 1) v w8 K.out (by have := HBL.out; simp only; omega) (Nat.le_trans HB2.out.size L.out.size)).mono ?_
      rintro e w9 ⟨rfl, v9, k9, l9⟩
      rw [put_ok0] at k9
      have K9 := Lib.hid k9
      have L9 := Lib.hid (L.out.trans l9)
      clear k9 l9
      go_wp2_with fail
      refine (byte_any ⟨_, 0⟩ 1 (by omega) w.heap.size (w.heap.size + 1) v9 w9 K9.out (by have := HBL.out; rw [List.length_append, HD.out]; omega) (Nat.le_trans HB2.out.size L9.out.size)).mono ?_
      rintro e w10 ⟨rfl, v10, k10, l10⟩
      rw [put_ok0] at k10
      have HBB := Lib.hid (show B5 ++ pad19 b ++ D ++ [1] = headOf k b D from by rw [← hB5, HML.out]; simp [headOf])
      rw [HBB.out] at k10
      have K10 := Lib.hid k10
      have L10 := Lib.hid (L9.out.trans l10)
      have HLE := Lib.hid (headOf_length k b HD.out)
      clear k10 l10
      go_wp2_with fail
      refine (wbytes_any ⟨_, 0⟩ w.heap.size (w.heap.size + 1) v10 w10 K10.out (by have := HLE.out; simp only; omega)).mono ?_
      rintro e w11 ⟨q', c', rfl, o11, b11⟩
      have B10 := Lib.hid (HB2.out.trans (L10.out.below (base := w.heap.size) (by omega) (fun k e => by simp [Value.ownBlock] at e) HB2.out.size))
      have O11 := Lib.hid (owns_base o11 B10.out.size)
      have B11 := Lib.hid (B10.out.trans (b11.mono B10.out.size))
      clear o11 b11
      go_wp2_with fail
      go_ret
      exact ⟨q', c', rfl, O11.out, B11.out⟩
end Go.Proofs.Ytlkeobohcfbgcaa.Wl

/- Package disk, as it landed: Len. -/
namespace Go.Proofs.Ytlkeobohcfbgcaa.Dk
open Go.RowKit

set_option maxRecDepth 100000 in
set_option maxHeartbeats 1000000 in
theorem len_any {w : World} {g : Nat} {P : Nat → Prop} {s : D} (h : PD w g P s) :
    Calls Try.prog 17 #[.pointer (some ⟨g, 0, none⟩)] w fun e w' => e = .returned (.int .i64 s.n) ∧ Below w.heap.size w w' := by
  obtain ⟨p, c, E, lit, whole, torn, h, hP⟩ := h
  have c0 := h.c0
  clear h hP
  go_enter Try.func17, Try.ntmps17
  go_wp2_with fail
  go_ret
  exact ⟨rfl, Below.refl _ _⟩
end Go.Proofs.Ytlkeobohcfbgcaa.Dk

/- Sectors in memory. -/
namespace Go.Proofs.Ytlkeobohcfbgcaa.Dk
open Go.RowKit

theorem US : Try.prog.underlying 56 = some (.slice 74) := by kernel_rfl
theorem UA : Try.prog.underlying 74 = some (.array 64 5) := by kernel_rfl
def sz : Array Value := u8s (zeros 64)
theorem ISZ : (Try.prog.info? 74).map (fun i => (i.zero, i.size, i.bytes)) = some (some (.agg sz), 64, 64) := by kernel_rfl
theorem SSZ : (Try.prog.info? 74).map (fun i => (i.zero, i.size)) = some (some (.agg sz), 64) := by kernel_rfl
theorem sz_size : sz.size = 64 := by rw [sz, u8s_size]; simp [zeros]
theorem zero_at (m j : Nat) (h : j < m) : (u8s (zeros m))[j]! = .int .u8 0 := by
  have := u8s_get (zeros m) j (by simpa [zeros] using h)
  rw [getElem!_def, this]
  simp [zeros, List.getD_eq_getElem?_getD, h]
theorem made_at (z : Array Value) (n i : Nat) (h : i < (madeCells z n).size) : (madeCells z n)[i] = z[i % z.size]! := by simp [madeCells]
theorem made_secs (n : Nat) : madeCells (Value.cells (.agg sz)) (n * 64) = u8s (zeros (64 * n)) := by
  apply Array.ext
  · simp [size_madeCells, u8s, zeros, Nat.mul_comm]
  · intro i h1 h2
    rw [made_at]
    show sz[i % sz.size]! = _
    rw [sz_size]
    refine (zero_at 64 (i % 64) (Nat.mod_lt _ (by omega))).trans ?_
    have h3 : i < (zeros (64 * n)).length := by rwa [u8s_size] at h2
    have := u8s_get (zeros (64 * n)) i h3
    rw [Array.getElem?_eq_getElem h2] at this
    rw [Option.some.inj this]
    simp [zeros, List.getD_eq_getElem?_getD, show i < 64 * n by simpa [zeros] using h3]
theorem make_secs (n : Nat) (hn : n ≤ 4096) (w : World) : (Instr.makeSlice 56 (.int .i64 n) (.int .i64 n)).run Try.prog w = .ok (.slice (some ⟨w.heap.size, 0, none⟩) n n) (w.alloc (.cells (u8s (zeros (64 * n))) 74)) := by
  obtain ⟨i5, hi, hi0, hi1, hi2⟩ := info_parts ISZ
  have := run_make (P := Try.prog) w 56 74 i5 _ US hi hi0 .i64 .i64 n n (by omega) (by omega) (by rw [hi2]; omega) (by omega)
  rw [this, hi1]
  simp only [Int.toNat_natCast, made_secs]
/-- The bytes of the sector k. -/
def sect (s : D) (k : Nat) : List Nat := (s.L.drop (64 * k)).take 64
section
variable {w w' : World} {g : Nat} {p : Option Addr} {c : Nat} {E : List Value} {lit : Bool} {whole torn : Int} {s : D}
theorem D.ok.sect_length (h : s.ok) {k : Nat} (hk : k < s.n) : (sect s k).length = 64 := by
  have := h.len
  simp only [sect, List.length_take, List.length_drop]
  omega
theorem D.ok.sect_ok (h : s.ok) (k : Nat) : Sm.allB (sect s k) := fun x hx => h.bytes x (List.mem_of_mem_drop (List.mem_of_mem_take hx))
theorem D.ok.split (_h : s.ok) {k : Nat} (_hk : k < s.n) : s.L = s.L.take (64 * k) ++ sect s k ++ s.L.drop (64 * k + 64) := by
  have h1 : s.L.drop (64 * k + 64) = (s.L.drop (64 * k)).drop 64 := by rw [List.drop_drop]
  rw [sect, List.append_assoc, h1, List.take_append_drop, List.take_append_drop]
theorem D.ok.take_succ (_h : s.ok) {k : Nat} (_ : k < s.n) : s.L.take (64 * (k + 1)) = s.L.take (64 * k) ++ sect s k := by
  rw [show 64 * (k + 1) = 64 * k + 64 from by omega, List.take_add, sect]
theorem DAt.sector (h : DAt w g p c E lit whole torn s) {k : Nat} (hk : k < s.n) : ∃ q, p = some ⟨q, 0, none⟩ ∧ q ≠ g ∧ w.heap[q]? = some (.cells (vals (s.L.take (64 * k)) ++ vals (sect s k) ++ (vals (s.L.drop (64 * k + 64)) ++ E)).toArray 74 (0, 0)) := by
  rcases h.sec with ⟨_, h0, _⟩ | ⟨q, hq, hne, hh⟩
  · omega
  · refine ⟨q, hq, hne, ?_⟩
    rw [hh]
    conv => lhs; rw [h.ok.split hk]
    simp only [vals_append, List.append_assoc]
theorem DAt.range (h : DAt w g p c E lit whole torn s) {k : Nat} (hk : k < s.n) : ∃ q, p = some ⟨q, 0, none⟩ ∧ w.rangeAt q (64 * k) (vals (sect s k)) := by
  obtain ⟨q, hq, _, hh⟩ := h.sector hk
  have := rangeAt_row _ _ _ hh
  rw [vals_length, List.length_take, Nat.min_eq_left (by have := h.ok.len; omega)] at this
  exact ⟨q, hq, this⟩
theorem low_later {w0 : World} (h : Below w0.heap.size w0 w) (hb : Below w.heap.size w w') : Below w0.heap.size w0 w' := h.trans (hb.mono h.size)
end
end Go.Proofs.Ytlkeobohcfbgcaa.Dk

/- A box's corners in memory; a call through a value that is a function. -/
namespace Go.Proofs.Ytlkeobohcfbgcaa
open Go.RowKit

/-- A box's corners: two slices. -/
def BoxAt (w : World) (B : Nat) (p : Option Addr) (n c : Nat) (q : Option Addr) (m d : Nat) : Prop := w.cell? ⟨B, 0, none⟩ = some (.slice p n c) ∧ w.cell? ⟨B, 1, none⟩ = some (.slice q m d)
theorem enter_side {F : Nat} {fn : Func} {c : Code} (hf : Try.prog.funcs[F]? = some fn) (hname : (fn.name == "runtime.NumGoroutine") = false) (hb : fn.body = some c) : ∀ args w, (callFunc F args).run Try.prog w = .ok (.enter F args) w := fun args w => by
  have h1 : fn.name ≠ "runtime.NumGoroutine" := by simpa using hname
  simp [callFunc, hf, h1, hb, mark]
theorem boxed (w : World) (v : Value) (t : TypeId) : (w.alloc (.cells #[v] t)).cell? ⟨w.heap.size, 0, none⟩ = some v := cell_of_row _ _ 0 _ t (0, 0) (heap_alloc_new w _)
end Go.Proofs.Ytlkeobohcfbgcaa

/- Package disk, as it landed: alive, spend. -/
namespace Go.Proofs.Ytlkeobohcfbgcaa.Dk
open Go.RowKit

/-- A disk whose fuse burnt by one write. -/
def D.spent (s : D) : D := { s with dead := decide (s.left = 0), left := if s.left = 0 then -1 else if s.left > 0 then s.left - 1 else s.left }
theorem D.spent_ok {s : D} (h : s.ok) : s.spent.ok := ⟨h.len, h.bytes, h.small, h.torn, by
  have := h.left
  simp only [D.spent]
  split
  · omega
  · split <;> omega⟩
def SpendPost (w : World) (g : Nat) (p : Option Addr) (c : Nat) (E : List Value) (s : D) (e : Ending) (w' : World) : Prop :=
  e = .returned (.int .i64 (s.many : Nat)) ∧ (∃ lit whole torn, DAt w' g p c E lit whole torn s.spent) ∧ Only (fun k => k = g) w w'
set_option maxRecDepth 100000 in
set_option maxHeartbeats 1000000 in
theorem spend_any {w : World} {g : Nat} {p : Option Addr} {c : Nat} {E : List Value} {lit : Bool} {whole torn : Int} {s : D} (h : DAt w g p c E lit whole torn s) (hd : s.dead = false) :
    Calls Try.prog 43 #[.pointer (some ⟨g, 0, none⟩)] w (SpendPost w g p c E s) := by
  obtain ⟨hlit, hwt⟩ := h.burn hd
  have hok := D.spent_ok h.ok
  have hleft := h.ok.left
  have c1 := h.c1
  have c2 := h.c2
  have c3 := h.c3
  have c4 := h.c4
  have f2 := h.fz 2
  have f4 := h.fz 4
  by_cases hneg : s.left < 0
  · have e1 : lit = false := by rw [hlit]; exact decide_eq_false (by omega)
    have hs : s.spent = s := by
      obtain ⟨L, n, dead, left, t, wr⟩ := s
      simp only at hneg hd
      simp only [D.spent, hd]
      rw [if_neg (by omega), if_neg (by omega), decide_eq_false (by omega)]
    have hm : s.many = 64 := by simp only [D.many]; rw [if_neg (by omega)]
    have H := Lib.hid (show SpendPost w g p c E s (.returned (.int .i64 64)) w from ⟨by rw [hm]; rfl, ⟨lit, whole, torn, by rw [hs]; exact h⟩, Only.refl _ _⟩)
    rw [e1] at c1
    clear h hlit hwt hok hleft hneg e1 hs hm hd c2 c3 c4 f2 f4
    go_enter Try.func43, Try.ntmps43
    go_wp2_with fail
    go_ret
    exact H.out
  · have e1 : lit = true := by rw [hlit]; exact decide_eq_true (by omega)
    obtain ⟨rfl, rfl⟩ := hwt (by omega)
    rw [e1] at c1
    by_cases h0 : s.left = 0
    · have hm : s.many = s.torn := by simp only [D.many]; rw [if_pos h0]
      have hs : s.spent = { s with dead := true, left := -1 } := by simp only [D.spent]; rw [if_pos h0, decide_eq_true h0]
      have r1 : (w.setCell ⟨g, 4, none⟩ (.bool true)).heap[g]? = some (.cells (rowOf p s.n c lit s.left s.torn true s.writes) 60 (0, 0)) := heap_setCell_same w g 4 _ _ (.bool true) h.row
      have o1 := Only.setCell (P := fun k => k = g) w (a := ⟨g, 4, none⟩) rfl (.bool true)
      have H := Lib.hid (show SpendPost w g p c E s (.returned (.int .i64 s.torn)) _ from ⟨by rw [hm], ⟨lit, s.left, s.torn, h.turn r1 o1 (by rw [hs]) (by rw [hs]) (by rw [hs]) (by rw [hs]) (fun e => by rw [hs] at e; cases e) hok⟩, o1⟩)
      have c3' : (w.setCell ⟨g, 4, none⟩ (.bool true)).cell? ⟨g, 3, none⟩ = some (.int .i64 s.torn) := (cell_of_row _ g 3 _ _ _ r1).trans rfl
      rw [h0] at c2
      clear h hlit hwt hok hleft hneg e1 hs hm hd r1 o1 h0
      go_enter Try.func43, Try.ntmps43
      go_wp2_with fail
      go_ret
      exact H.out
    · have hpos : s.left > 0 := by omega
      have hm : s.many = 64 := by simp only [D.many]; rw [if_neg h0]
      have hs : s.spent = { s with dead := s.dead, left := s.left - 1 } := by simp only [D.spent]; rw [if_neg h0, if_pos hpos, decide_eq_false h0, hd]
      have r1 : (w.setCell ⟨g, 2, none⟩ (.int .i64 (s.left - 1))).heap[g]? = some (.cells (rowOf p s.n c lit (s.left - 1) s.torn s.dead s.writes) 60 (0, 0)) := heap_setCell_same w g 2 _ _ (.int .i64 (s.left - 1)) h.row
      have o1 := Only.setCell (P := fun k => k = g) w (a := ⟨g, 2, none⟩) rfl (.int .i64 (s.left - 1))
      have H := Lib.hid (show SpendPost w g p c E s (.returned (.int .i64 64)) _ from ⟨by rw [hm]; rfl, ⟨lit, s.left - 1, s.torn, h.turn r1 o1 (by rw [hs]) (by rw [hs]) (by rw [hs]) (by rw [hs]) (fun _ => by rw [hs]; exact ⟨by rw [e1]; exact (decide_eq_true (show (0 : Int) ≤ s.left - 1 by omega)).symm, fun _ => ⟨rfl, rfl⟩⟩) hok⟩, o1⟩)
      have q1 : IntKind.i64.wrap (s.left - 1) = s.left - 1 := IntWalk.i64_in _ (by omega)
      clear h hlit hwt hok hleft hneg e1 hs hm hd r1 o1 h0
      go_enter Try.func43, Try.ntmps43
      go_wp2_with fail
      go_ret
      exact H.out
/-- What may not be done. -/
theorem no_cases {s : D} {i : Int} {m : Nat} : (s.dead = true ∧ s.no i m = 30) ∨ (s.dead = false ∧ i < 0 ∧ s.no i m = 9) ∨ (s.dead = false ∧ 0 ≤ i ∧ (s.n : Int) ≤ i ∧ s.no i m = 9) ∨ (s.dead = false ∧ 0 ≤ i ∧ i < s.n) := by
  cases hd : s.dead with
  | true => exact Or.inl ⟨rfl, by simp [D.no, hd]⟩
  | false =>
    by_cases h1 : i < 0
    · exact Or.inr (Or.inl ⟨rfl, h1, by simp [D.no, hd, h1]⟩)
    · by_cases h2 : (s.n : Int) ≤ i
      · exact Or.inr (Or.inr (Or.inl ⟨rfl, by omega, h2, by simp [D.no, hd, h2]⟩))
      · exact Or.inr (Or.inr (Or.inr ⟨rfl, by omega, by omega⟩))
set_option maxRecDepth 100000 in
set_option maxHeartbeats 1000000 in
theorem alive_no {w : World} {g : Nat} {p : Option Addr} {c : Nat} {E : List Value} {lit : Bool} {whole torn : Int} {s : D} (h : DAt w g p c E lit whole torn s) (i : Int) (m : Nat) (F : Nat) (cap : Array Value) (hno : s.dead = true ∨ i < 0 ∨ (s.n : Int) ≤ i) :
    Calls Try.prog 41 #[.pointer (some ⟨g, 0, none⟩), .int .i64 i, .func (.func F) #[] cap] w fun e w' => e = .returned (.int .i64 (s.no i m)) ∧ w' = w := by
  have c0 := h.c0
  have c4 := h.c4
  clear h
  rcases no_cases (s := s) (i := i) (m := m) with ⟨hd, hn⟩ | ⟨hd, h1, hn⟩ | ⟨hd, h1, h2, hn⟩ | ⟨hd, h1, h2⟩
  · rw [hd] at c4
    rw [hn]
    clear hno hn hd
    go_enter Try.func41, Try.ntmps41
    go_wp2_with fail
    go_ret
    exact ⟨rfl, rfl⟩
  · rw [hd] at c4
    rw [hn]
    clear hno hn hd
    go_enter Try.func41, Try.ntmps41
    go_wp2_with fail
    go_ret
    exact ⟨rfl, rfl⟩
  · rw [hd] at c4
    rw [hn]
    have h1' : ¬ i < 0 := by omega
    have h2' : i ≥ (s.n : Int) := h2
    clear hno hn hd
    go_enter Try.func41, Try.ntmps41
    go_wp2_with fail
    go_ret
    exact ⟨rfl, rfl⟩
  · exfalso
    rcases hno with e | e | e
    · rw [hd] at e; cases e
    · omega
    · omega
set_option maxRecDepth 100000 in
set_option maxHeartbeats 1000000 in
theorem alive_do {w : World} {g q : Nat} {c : Nat} {E : List Value} {lit : Bool} {whole torn : Int} {s : D} (h : DAt w g (some ⟨q, 0, none⟩) c E lit whole torn s) (j : Nat) (hd : s.dead = false) (hj : j < s.n) (F : Nat) (cap : Array Value) (v : Int) (R : World → Prop) (hF : ∀ args w, (callFunc F args).run Try.prog w = .ok (.enter F args) w)
    (hC : Calls Try.prog F (#[.pointer (some ⟨q, j * 64, none⟩)] ++ cap) w fun e w' => e = .returned (.int .i64 v) ∧ R w') :
    Calls Try.prog 41 #[.pointer (some ⟨g, 0, none⟩), .int .i64 j, .func (.func F) #[] cap] w fun e w' => e = .returned (.int .i64 v) ∧ R w' := by
  have c0 := h.c0
  have c4 := h.c4
  rw [hd] at c4
  have hn := h.ok.small
  have l1 : (j : Int) < s.n := by omega
  have l2 : ¬ (j : Int) < 0 := by omega
  have i1 : (0 : Int) ≤ j ∧ (j : Int) < s.n := by omega
  have HC := Lib.hid hC
  clear hC h hd
  go_enter Try.func41, Try.ntmps41
  go_wp2_with (refine HC.out.mono ?_; rintro e w' ⟨rfl, hr⟩)
  go_ret
  exact ⟨rfl, hr⟩
end Go.Proofs.Ytlkeobohcfbgcaa.Dk

/- Package disk, as it landed: Write. -/
namespace Go.Proofs.Ytlkeobohcfbgcaa.Dk
open Go.RowKit

section
variable {w : World} {g q : Nat} {c : Nat} {E : List Value} {lit : Bool} {whole torn : Int} {s : D}
theorem over_vals (L : List Nat) (o : Nat) (P : List Nat) (E : List Value) : vals (over L o P) ++ E = vals (L.take o) ++ vals P ++ (vals (L.drop (o + P.length)) ++ E) := by
  simp only [over, vals_append, List.append_assoc]
/-- The first bytes of a sector are written over. -/
theorem DAt.patch (h : DAt w g (some ⟨q, 0, none⟩) c E lit whole torn s) {j : Nat} (hj : j < s.n) {B : List Nat} (hl : B.length ≤ 64) (hB : Sm.allB B) :
    DAt (w.setCells q (64 * j) (vals B)) g (some ⟨q, 0, none⟩) c E lit whole torn { s with L := over s.L (64 * j) B } ∧ Only (fun k => k = g ∨ k = q) w (w.setCells q (64 * j) (vals B)) := by
  have hlen := h.ok.len
  rcases h.sec with ⟨e, _⟩ | ⟨q', hq, hne, hh⟩
  · cases e
  · cases hq
    have e1 : vals s.L ++ E = vals (s.L.take (64 * j)) ++ vals ((s.L.drop (64 * j)).take B.length) ++ (vals (s.L.drop (64 * j + B.length)) ++ E) := by
      rw [← List.append_assoc, ← vals_append, ← vals_append]
      congr 2
      rw [← List.drop_drop, List.append_assoc, List.take_append_drop, List.take_append_drop]
    rw [e1] at hh
    have h2 := heap_setCells_same q _ (vals B) _ _ _ w hh (by simp only [vals_length, List.length_take, List.length_drop]; omega)
    rw [vals_length, List.length_take, Nat.min_eq_left (by omega), ← over_vals] at h2
    exact ⟨⟨(heap_setCells_other q _ _ w g (fun e => hne e.symm)).trans h.row, Or.inr ⟨q, rfl, hne, h2⟩, h.burn, ⟨(over_length (by omega)).trans hlen, over_ok h.ok.bytes hB, h.ok.small, h.ok.torn, h.ok.left⟩⟩, only_setCells w (Or.inr rfl) _ _⟩
/-- One more write. -/
theorem DAt.count {p : Option Addr} (h : DAt w g p c E lit whole torn s) : DAt (w.setCell ⟨g, 5, none⟩ (.int .i64 ((s.writes + 1 : Nat) : Int))) g p c E lit whole torn { s with writes := s.writes + 1 } ∧ Only (fun k => k = g) w (w.setCell ⟨g, 5, none⟩ (.int .i64 ((s.writes + 1 : Nat) : Int))) :=
  have ho := Only.setCell (P := fun k => k = g) w (a := ⟨g, 5, none⟩) rfl (.int .i64 ((s.writes + 1 : Nat) : Int))
  ⟨h.turn (heap_setCell_same w g 5 _ _ (.int .i64 ((s.writes + 1 : Nat) : Int)) h.row) ho rfl rfl rfl rfl h.burn ⟨h.ok.len, h.ok.bytes, h.ok.small, h.ok.torn, h.ok.left⟩, ho⟩
end
/-- What a write leaves. -/
def WrPost (w : World) (g q c : Nat) (E : List Value) (s : D) (w' : World) : Prop := (∃ lit whole torn, DAt w' g (some ⟨q, 0, none⟩) c E lit whole torn s) ∧ Only (fun k => k = g ∨ k = q) w w'
theorem D.many_le {s : D} (h : s.ok) : s.many ≤ 64 := by
  have := h.torn
  unfold D.many
  split <;> omega
theorem slice_sect (q o m : Nat) (h : m ≤ 64) (w : World) : (Instr.sliceAt 74 (.pointer (some ⟨q, o, none⟩)) none (some (.int .i64 (m : Int))) none).run Try.prog w = .ok (.slice (some ⟨q, o, none⟩) m 64) w := by
  have hl : Try.prog.arrayLen 74 = 64 := by simp [Program.arrayLen]
  have he : Try.prog.elem 74 = 5 := by simp [Program.elem]
  have h1 := run_sliceAt_array_h (P := Try.prog) w 74 ⟨q, o, none⟩ (by rw [hl, he]; exact UA) .i64 m (by omega) (by rw [hl]; omega)
  obtain ⟨i5, hi, _, hi1, _⟩ := info_parts I5
  have hs : (sizeOf 5).run Try.prog w = .ok 1 w := by simp [sizeOf, typeInfo, hi, hi1]
  rw [h1, hl, he, hs]
  simp [slicedAt, Addr.add_mid]
theorem copy_sect {w : World} {g q c : Nat} {E : List Value} {lit : Bool} {whole torn : Int} {s : D} (h : DAt w g (some ⟨q, 0, none⟩) c E lit whole torn s) {j : Nat} (hj : j < s.n) {x : Addr} {cp : Nat} {B : List Nat} (hT : Tx w (some x) 64 cp B) (m : Nat) (hm : m ≤ 64) :
    (Builtin.copy_ #[36, 36] 3 #[.slice (some ⟨q, j * 64, none⟩) m 64, .slice (some x) 64 cp]).run Try.prog w = .ok (goInt (m : Nat)) (w.setCells q (64 * j) (vals (B.take m))) := by
  have hB := hT.size
  have hlen := h.ok.len
  have hl : (vals (B.take m)).length = m := by simp [vals]; omega
  obtain ⟨q', hq, _, hh⟩ := h.sector hj
  cases hq
  have ht := there_row hh (64 * j) 64 (by simp [vals_length, List.length_take, List.length_drop, sect]; omega)
  have := run_copy_cells (P := Try.prog) w 36 36 3 5 q (64 * j) m 64 x 64 cp (vals (B.take m)) A22 E5 (by rw [hl]; exact (Nat.min_eq_right hm).symm) (fun i v hv => hT.cells i v (by
      have hi : i < (vals (B.take m)).length := (List.getElem?_eq_some_iff.1 hv).1
      rw [hl] at hi
      rw [vals_get _ _ (by rw [List.length_take]; omega)] at hv
      rw [vals_get _ _ (by omega), ← hv]
      simp [List.getD_eq_getElem?_getD, hi])) (fun i hi => (ht i (by omega)).1) (fun i hi => (ht i (by omega)).2) (vals_one _)
  rw [hl] at this
  rw [Nat.mul_comm j 64]
  exact this
set_option maxRecDepth 100000 in
set_option maxHeartbeats 4000000 in
theorem write_do {w : World} {g q c : Nat} {E : List Value} {lit : Bool} {whole torn : Int} {s : D} (h : DAt w g (some ⟨q, 0, none⟩) c E lit whole torn s) (j bb db : Nat) (p : Option Addr) (n cp : Nat) (B : List Nat) (hd : s.dead = false) (hj : j < s.n) (hw : s.writes < 1000000)
    (hb : w.cell? ⟨bb, 0, none⟩ = some (.slice p n cp)) (hdb : w.cell? ⟨db, 0, none⟩ = some (.pointer (some ⟨g, 0, none⟩))) (hbb : bb ≠ g ∧ bb ≠ q) (hdd : db ≠ g ∧ db ≠ q) (hT : Tx w p n cp B) (hp : ∀ x, p = some x → x.block ≠ g ∧ x.block ≠ q) :
    Calls Try.prog 42 #[.pointer (some ⟨q, j * 64, none⟩), .pointer (some ⟨bb, 0, none⟩), .pointer (some ⟨db, 0, none⟩)] w fun e w' => e = .returned (.int .i64 (s.says j n)) ∧ WrPost w g q c E (s.write j B) w' := by
  have hn := hT.size
  by_cases h64 : n = 64
  · subst h64
    obtain ⟨x, rfl⟩ : ∃ x, p = some x := by
      rcases hT.at' with ⟨_, e⟩ | ⟨x, e, _⟩
      · have := hT.le; omega
      · exact ⟨x, e⟩
    obtain ⟨px1, px2⟩ := hp x rfl
    have hxl : x.block < w.drew.heap.size := by
      rcases hT.at' with ⟨e, _⟩ | ⟨y, e, hy⟩
      · cases e
      · cases e
        have h0 := block_lt_of_cell (hy 0 (.int .u8 (B.getD 0 0 : Nat)) (vals_get B 0 (by omega)))
        rwa [show (x.add 0).block = x.block from by cases x; simp [Addr.add]] at h0
    have hno : s.no j 64 = 0 := by simp [D.no, hd]; omega
    have HSY := Lib.hid (show s.says j 64 = if s.left = 0 then 30 else 0 from by simp only [D.says]; rw [if_pos hno])
    have HWB := Lib.hid (show s.write j B = s.put j B from by unfold D.write; rw [← hn, hno, if_pos rfl]; rfl)
    have HSP := Lib.hid (spend_any (h.keep (Q := fun _ => False) (Only.of_below _ (Below.refl _ _).drew) (fun e => e) (fun _ _ e => e)) hd)
    obtain ⟨m1, hm1⟩ : ∃ m1, m1 = s.many := ⟨_, rfl⟩
    have HMM := Lib.hid hm1.symm
    have HM64 := Lib.hid (show m1 ≤ 64 from by rw [hm1]; exact D.many_le h.ok)
    have HB := Lib.hid (show B.length = 64 ∧ Sm.allB B from ⟨hn.symm, hT.ok⟩)
    have HSS := Lib.hid (show ∀ w', Only (fun k => k = g) w.drew w' → w'.cell? ⟨bb, 0, none⟩ = some (.slice (some x) 64 cp) ∧ w'.cell? ⟨db, 0, none⟩ = some (.pointer (some ⟨g, 0, none⟩)) from fun w' ho => ⟨(World.cell?_of_block (w := w.drew) (ho.block bb (block_lt_of_cell hb) hbb.1)).trans hb, (World.cell?_of_block (w := w.drew) (ho.block db (block_lt_of_cell hdb) hdd.1)).trans hdb⟩)
    have HCP := Lib.hid (show ∀ w', (∃ lit whole torn, DAt w' g (some ⟨q, 0, none⟩) c E lit whole torn s.spent) → Only (fun k => k = g) w.drew w' → (Builtin.copy_ #[36, 36] 3 #[.slice (some ⟨q, j * 64, none⟩) m1 64, .slice (some x) 64 cp]).run Try.prog w' = .ok (goInt (m1 : Nat)) (w'.setCells q (64 * j) (vals (B.take m1))) from fun w' ⟨_, _, _, d⟩ ho =>
      copy_sect d hj (tx_keep (w := w.drew) (hT.heap rfl) (fun y hy _ => by cases hy; exact ho.block _ hxl px1)) m1 HM64.out)
    have HST := Lib.hid (show ∀ w1 w' : World, Only (fun k => k = g ∨ k = q) w1 w' → w1.cell? ⟨bb, 0, none⟩ = some (.slice (some x) 64 cp) ∧ w1.cell? ⟨db, 0, none⟩ = some (.pointer (some ⟨g, 0, none⟩)) → w'.cell? ⟨bb, 0, none⟩ = some (.slice (some x) 64 cp) ∧ w'.cell? ⟨db, 0, none⟩ = some (.pointer (some ⟨g, 0, none⟩)) from fun w1 w' ho ⟨h1, h2⟩ => ⟨(World.cell?_of_block (w := w1) (ho.block bb (block_lt_of_cell h1) (fun e => e.elim hbb.1 hbb.2))).trans h1, (World.cell?_of_block (w := w1) (ho.block db (block_lt_of_cell h2) (fun e => e.elim hdd.1 hdd.2))).trans h2⟩)
    have HEQ := Lib.hid (show s.put j B = { s.spent with L := over s.L (64 * j) (B.take m1), writes := s.writes + 1 } from by rw [hm1]; rfl)
    have HW := Lib.hid hw
    have HBB := Lib.hid hbb
    have HDD := Lib.hid hdd
    clear h hT hn hno hm1 hp px1 px2 hxl hw hbb hdd hd
    go_enter Try.func42, Try.ntmps42
    go_upto_region 3 with fail
    refine wp_region_held_drew (S := fun w' => w'.cell? ⟨bb, 0, none⟩ = some (.slice (some x) 64 cp) ∧ w'.cell? ⟨db, 0, none⟩ = some (.pointer (some ⟨g, 0, none⟩))) (by kernel_rfl) ⟨hb, hdb⟩ (fun hHeld => ?_)
    refine wpAnyH_take (i := 0) (oi := ⟨some 8, .move (.tmp 0), _, _, _, _⟩) (v := ?_) rfl (by kernel_rfl) (by kernel_rfl) (by kernel_rfl) (fun _ _ _ h => h) (Or.inl ⟨by rfl, ?_⟩) (by assumption) ?_
    rotate_left
    · intro w' hSw
      go_simp
      try with_reducible rfl
    try simp only [Act.put, List.setIfInBounds_toArray, List.set_cons_zero, List.set_cons_succ]
    refine wpAnyH_take (i := 1) (oi := ⟨some 9, .nilCheck (.tmp 8), _, _, _, _⟩) (v := ?_) rfl (by kernel_rfl) (by kernel_rfl) (by kernel_rfl) (fun _ _ _ h => h) (Or.inl ⟨by rfl, ?_⟩) (by assumption) ?_
    rotate_left
    · intro w' hSw
      go_simp
      try with_reducible rfl
    try simp only [Act.put, List.setIfInBounds_toArray, List.set_cons_zero, List.set_cons_succ]
    refine wpAnyH_take (i := 2) (oi := ⟨some 10, .load 27 (.tmp 2), _, _, _, _⟩) (v := ?_) rfl (by kernel_rfl) (by kernel_rfl) (by kernel_rfl) (fun _ _ _ h => h) (Or.inl ⟨by rfl, ?_⟩) (by assumption) ?_
    rotate_left
    · intro w' hSw
      obtain ⟨hx1, hx2⟩ := hSw
      go_simp
      try with_reducible rfl
    try simp only [Act.put, List.setIfInBounds_toArray, List.set_cons_zero, List.set_cons_succ]
    refine wpAnyH_take (i := 5) (oi := ⟨some 13, .load 36 (.tmp 1), _, _, _, _⟩) (v := ?_) rfl (by kernel_rfl) (by kernel_rfl) (by kernel_rfl) (fun _ _ _ h => h) (Or.inl ⟨by rfl, ?_⟩) (by assumption) ?_
    rotate_left
    · intro w' hSw
      obtain ⟨hx1, hx2⟩ := hSw
      go_simp
      try with_reducible rfl
    try simp only [Act.put, List.setIfInBounds_toArray, List.set_cons_zero, List.set_cons_succ]
    refine wpAnyH_ready (rs := [3]) (by kernel_rfl) (by simp) ?_
    refine AllReadyH.cons (o := ⟨some 11, .call ⟨.value (.func 43), #[.tmp 10], #[27]⟩, _, _, _, _⟩) rfl (fun K hK => ?_) AllReadyH.nil
    go_simp
    with_reducible refine HSP.out.mono ?_
    rintro _ w11 ⟨rfl, d11', o11'⟩
    rw [HMM.out]
    have d11 := Lib.hid d11'
    have o11 := Lib.hid o11'
    have hS11 := HSS.out w11 o11.out
    clear d11' o11'
    try go_wp2_with fail
    refine hK.out _ _ hS11 (fun hHeld => ?_)
    clear hK K
    try simp only [Act.put, List.setIfInBounds_toArray, List.set_cons_zero, List.set_cons_succ]
    refine wpAnyH_take (i := 4) (oi := ⟨some 12, .slice 74 (.tmp 9) none (some (.tmp 11)) none, _, _, _, _⟩) (v := ?_) rfl (by kernel_rfl) (by kernel_rfl) (by kernel_rfl) (fun _ _ _ h => h) (Or.inl ⟨by rfl, ?_⟩) (by assumption) ?_
    rotate_left
    · intro w' hSw
      have hsl := slice_sect q (j * 64) m1 HM64.out w'
      go_simp
      try with_reducible rfl
    try simp only [Act.put, List.setIfInBounds_toArray, List.set_cons_zero, List.set_cons_succ]
    refine wpAnyH_ready (rs := [6]) (by kernel_rfl) (by simp) ?_
    refine AllReadyH.cons (o := ⟨some 14, .call ⟨.builtin .copy, #[.tmp 12, .tmp 13], #[36, 36]⟩, _, _, _, _⟩) rfl (fun K hK => ?_) AllReadyH.nil
    go_simp
    obtain ⟨l11, wh11, to11, dd11⟩ := d11.out
    obtain ⟨d12, o12⟩ := dd11.patch (show j < s.spent.n from hj) (B := B.take m1) (by rw [List.length_take]; have := HM64.out; omega) (fun y hy => HB.out.2 y (List.mem_of_mem_take hy))
    have hS12 := HST.out _ _ o12 hHeld
    rw [HCP.out w11 d11.out o11.out]
    have D12 := Lib.hid d12
    have O12 := Lib.hid (o11.out.mono (fun k e => Or.inl e) |>.trans o12)
    clear d12 o12 dd11 d11 o11
    rw [show s.spent.L = s.L from rfl] at D12
    generalize w11.setCells q (64 * j) (vals (B.take m1)) = w12 at *
    try go_wp2_with fail
    refine hK.out _ _ hS12 (fun hHeld => ?_)
    clear hK K
    try simp only [Act.put, List.setIfInBounds_toArray, List.set_cons_zero, List.set_cons_succ]
    refine wpAnyH_done (by kernel_rfl) ?_ _
    clear hb hdb hHeld HSP HCP HSS
    obtain ⟨hb, hdb⟩ := hS12
    obtain ⟨d13, o13⟩ := D12.out.count
    rw [show (({ s.spent with L := over s.L (64 * j) (B.take m1) } : D).writes + 1 : Nat) = ((s.writes + 1 : Nat)) from rfl, show ((s.writes + 1 : Nat) : Int) = (s.writes : Int) + 1 from rfl] at d13 o13
    have c5 : w12.cell? ⟨g, 5, none⟩ = some (.int .i64 (s.writes : Int)) := D12.out.c5
    have f5 := D12.out.fz 5
    have hdb' := (HST.out _ _ (o13.mono (fun k e => Or.inl e)) ⟨hb, hdb⟩).2
    have hw := HW.out
    have q1 : IntKind.i64.wrap ((s.writes : Int) + 1) = (s.writes : Int) + 1 := IntWalk.i64_in _ (by omega)
    have H := Lib.hid (show WrPost w g q c E (s.write j B) _ from ⟨⟨_, _, _, by rw [HWB.out, HEQ.out]; exact d13⟩, (Only.of_below _ (Below.refl w.heap.size w).drew).trans (O12.out.trans (o13.mono (fun k e => Or.inl e)))⟩)
    have c4 := d13.c4
    clear d13 o13 hw D12 O12
    by_cases h0 : s.left = 0
    · have c4' := c4.trans (congrArg (fun b => some (Value.bool b)) (show s.spent.dead = true from decide_eq_true h0))
      have H0 := Lib.hid h0
      clear c4 h0
      go_wp2_with fail
      go_ret
      exact ⟨by rw [HSY.out, if_pos H0.out]; rfl, H.out⟩
    · have c4' := c4.trans (congrArg (fun b => some (Value.bool b)) (show s.spent.dead = false from decide_eq_false h0))
      have H0 := Lib.hid h0
      clear c4 h0
      go_wp2_with fail
      go_ret
      exact ⟨by rw [HSY.out, if_neg H0.out]; rfl, H.out⟩
  · have hno : s.no j n = 1 := by simp [D.no, hd, h64]; omega
    have HS := Lib.hid (show ((s.says j n : Nat) : Int) = 1 from by simp only [D.says, hno]; rfl)
    have HW := Lib.hid (show WrPost w g q c E (s.write j B) w from ⟨⟨lit, whole, torn, by unfold D.write; rw [← hn, hno]; exact h⟩, Only.refl _ _⟩)
    have h64' : ¬ (n : Int) = 64 := by omega
    rw [HS.out]
    clear h hT hn hno h64 hd
    go_enter Try.func42, Try.ntmps42
    go_wp2_with fail
    go_ret
    exact ⟨rfl, HW.out⟩
set_option maxRecDepth 100000 in
set_option maxHeartbeats 2000000 in
theorem write_any {w : World} {g : Nat} {P : Nat → Prop} {s : D} (i : Int) (B : List Nat) (p : Option Addr) (n c : Nat) (h : PD w g P s) (hT : Tx w p n c B) (hp : ∀ x, p = some x → ¬ P x.block) (hw : s.writes < 1000000) :
    Calls Try.prog 27 #[.pointer (some ⟨g, 0, none⟩), .int .i64 i, .slice p n c] w fun e w' => e = .returned (.int .i64 (s.says i n)) ∧ (∃ P', PD w' g P' (s.write i B) ∧ ∀ k, P' k → P k ∨ w.heap.size ≤ k) ∧ Only P w w' := by
  obtain ⟨p0, c0, E, lit, whole, torn, h, hP⟩ := h
  have hn := hT.size
  have b1 := (Below.refl w.heap.size w).alloc (Nat.le_refl _) (.cells #[.pointer (some ⟨g, 0, none⟩)] 27)
  have b2 := b1.alloc b1.size (.cells #[.slice p n c] 36)
  have s1 : (w.alloc (.cells #[.pointer (some ⟨g, 0, none⟩)] 27)).heap.size = w.heap.size + 1 := by simp
  have e1 := boxed w (.pointer (some ⟨g, 0, none⟩)) 27
  have e2 := boxed (w.alloc (.cells #[.pointer (some ⟨g, 0, none⟩)] 27)) (.slice p n c) 36
  rw [s1] at e2
  have e1' := (World.cell?_of_block (w := w.alloc (.cells #[.pointer (some ⟨g, 0, none⟩)] 27)) (a := ⟨w.heap.size, 0, none⟩) (heap_alloc_old _ (.cells #[.slice p n c] 36) (by rw [s1]; exact Nat.lt_succ_self _))).trans e1
  have h2 := h.keep (Q := fun _ => False) (Only.of_below _ b2) (fun e => e) (fun _ _ e => e)
  have hT2 := hT.later b2
  generalize hwb : (w.alloc (.cells #[.pointer (some ⟨g, 0, none⟩)] 27)).alloc (.cells #[.slice p n c] 36) = wb at *
  have HO := Lib.hid (Only.of_below P b2)
  have hlt := h.lt
  have hsm := h.small
  by_cases hno : s.dead = true ∨ i < 0 ∨ (s.n : Int) ≤ i
  · have hne : s.no i n ≠ 0 := by
      rcases no_cases (s := s) (i := i) (m := n) with ⟨hd, hn⟩ | ⟨hd, h1, hn⟩ | ⟨hd, h1, h2, hn⟩ | ⟨hd, h1, h2⟩
      · omega
      · omega
      · omega
      · rcases hno with e | e | e
        · rw [hd] at e; cases e
        · omega
        · omega
    have HS := Lib.hid (show s.says i n = s.no i n from by unfold D.says; rw [if_neg hne])
    have HW := Lib.hid (show ∃ P', PD wb g P' (s.write i B) ∧ ∀ k, P' k → P k ∨ w.heap.size ≤ k from by
      unfold D.write
      rw [← hn, if_neg hne]
      exact h2.pd hP)
    have HC := Lib.hid (alive_no h2 i n 42 #[.pointer (some ⟨w.heap.size + 1, 0, none⟩), .pointer (some ⟨w.heap.size, 0, none⟩)] hno)
    rw [HS.out]
    clear h h2 hP hno hne hT hT2 b1 b2 e2 hlt hsm hn
    go_enter Try.func27, Try.ntmps27
    go_wp2_with (first | (rw [hwb]; refine HC.out.mono ?_; rintro e w' ⟨rfl, rfl⟩) | (refine HC.out.mono ?_; rintro e w' ⟨rfl, rfl⟩))
    go_ret
    exact ⟨rfl, HW.out, HO.out⟩
  · obtain ⟨j, rfl⟩ : ∃ j : Nat, i = j := ⟨i.toNat, by omega⟩
    have hj : j < s.n := by omega
    have hd : s.dead = false := by cases hd : s.dead with
      | true => exact absurd (Or.inl hd) hno
      | false => rfl
    obtain ⟨q, rfl, _, _⟩ := h.sector hj
    have hq := hsm _ rfl
    have HC := Lib.hid (alive_do h2 j hd hj 42 #[.pointer (some ⟨w.heap.size + 1, 0, none⟩), .pointer (some ⟨w.heap.size, 0, none⟩)] (s.says j n : Nat) _ (enter_side Try.func42 (by kernel_rfl) rfl) (write_do h2 j (w.heap.size + 1) w.heap.size p n c B hd hj hw e2 e1' ⟨by omega, by simp only at hq; omega⟩ ⟨by omega, by simp only at hq; omega⟩ hT2 (fun x hx => ⟨fun e => hp x hx ((hP _).2 (Or.inl e)), fun e => hp x hx ((hP _).2 (Or.inr ⟨_, rfl, e⟩))⟩)))
    have HP := Lib.hid hP
    clear h h2 hP hno hT hT2 b1 b2 e2 hlt hsm hn hd hq
    go_enter Try.func27, Try.ntmps27
    go_wp2_with (first | (rw [hwb]; refine HC.out.mono ?_; rintro e w' ⟨rfl, hw'⟩; have HW := Lib.hid hw'; clear hw') | (refine HC.out.mono ?_; rintro e w' ⟨rfl, hw'⟩; have HW := Lib.hid hw'; clear hw'))
    go_ret
    obtain ⟨⟨l, a, b, d⟩, o⟩ := HW.out
    exact ⟨rfl, d.pd HP.out, HO.out.trans (o.mono (fun k e => (HP.out k).2 (e.imp id fun e => ⟨_, rfl, e⟩)))⟩
end Go.Proofs.Ytlkeobohcfbgcaa.Dk
