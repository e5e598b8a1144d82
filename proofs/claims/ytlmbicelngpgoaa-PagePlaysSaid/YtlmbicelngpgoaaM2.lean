/- PgApi, PgLand, PgSmall, PgIter, PgDigOne, PgAppend, PgBCmp, PgSortLay, PgSort, PgSumsL, PgHas, PgAdd, PgClone, PgGet, PgPre. -/
import Derived.Test.YtlmbicelngpgoaaM1
import Derived.Maps.OwnSet
import Derived.RangeFuncNested
import Derived.RangeFuncCalls
import Derived.WalkKit
import Derived.TacticsInMore
import Derived.LoopNIn
import Derived.LoopIn
import Derived.LoopN
import Derived.OwnWalk
import Derived.Great.BuildSlice
import Derived.Maps.AppendAt
import Derived.Laws.OwnMore
import Derived.Shelf.Abstract
import Derived.Lib.BytesEntry
import Derived.Laws.Externs
import Derived.Shelf.SlSortCmp.WholeK
import Derived.Shelf.Small.Bits
import Derived.Carry
import Derived.Lib.SliceRun
/- What the laws want of package page: contracts over whatever relation PL says that a store lies in memory. -/
namespace Go.Proofs.Ytlmbicelngpgoaa.Pg
open Go.RowKit

/-- A list of digests that lies in memory. -/
structure Digs (w : World) (p : Option Addr) (n c : Nat) (S : List (List Nat)) : Prop where
  size : n = S.length
  le : n ≤ c
  len : ∀ d ∈ S, d.length = 32 ∧ Sm.allB d
  at' : S ≠ [] → ∃ g o, p = some ⟨g, o, none⟩ ∧ ∀ i, i < S.length → w.rangeAt g (o + i * 32) (vals (S.getD i []))
theorem Digs.nil (w : World) : Digs w none 0 0 [] := ⟨rfl, Nat.le_refl _, (fun d hd => by cases hd), fun h => absurd rfl h⟩
theorem Digs.later {w w' : World} {p : Option Addr} {n c : Nat} {S : List (List Nat)} (h : Digs w p n c S) (hb : Below w.heap.size w w') : Digs w' p n c S :=
  ⟨h.size, h.le, h.len, fun hS => by
    obtain ⟨g, o, hp, hx⟩ := h.at' hS
    exact ⟨g, o, hp, fun i hi j u hu => (hb.cell (block_lt_of_cell (hx i hi j u hu))).trans (hx i hi j u hu)⟩⟩
/-- The contracts of package page. PL w g Q s: in the world w the store s lies in the block g, what it owns are the blocks of Q. -/
structure Api (PL : World → Nat → (Nat → Prop) → S → Prop) : Prop where
  ok : ∀ {w g Q s}, PL w g Q s → s.ok
  lt : ∀ {w g Q s}, PL w g Q s → ∀ k, Q k → k < w.heap.size
  keep : ∀ {w w' g Q s} (X : Nat → Prop), PL w g Q s → Dk.Only X w w' → (∀ k, Q k → ¬ X k) → PL w' g Q s
  sum : ∀ (b : List Nat) (p : Option Addr) (n c : Nat) (w : World), Tx w p n c b → n ≤ 100000 → Calls Try.prog 19 #[.slice p n c] w fun e w' => e = .returned (.agg (u8s (sumOf b))) ∧ Below w.heap.size w w'
  pre : ∀ (b : List Nat) (p : Option Addr) (n c : Nat) (w : World), Tx w p n c b → n ≤ 100000 → Calls Try.prog 20 #[.slice p n c] w fun e w' => ∃ q m d, e = .returned (.slice q m d) ∧ Tx w' q m d (Go.Proofs.Ytlmbicelngpgoaa.pre 80 [b]) ∧ Below w.heap.size w w'
  new : ∀ (w : World), Calls Try.prog 7 #[] w fun e w' => ∃ g Q, e = .returned (.pointer (some ⟨g, 0, none⟩)) ∧ PL w' g Q ⟨[], none⟩ ∧ (∀ k, Q k → w.heap.size ≤ k) ∧ Below w.heap.size w w'
  put : ∀ {w g Q s} (b : List Nat) (p : Option Addr) (n c : Nat), PL w g Q s → Tx w p n c b → (∀ x, p = some x → b ≠ [] → ¬ Q x.block) → n ≤ 100000 → s.W.length < 100000 →
    Calls Try.prog 15 #[.pointer (some ⟨g, 0, none⟩), .slice p n c] w fun e w' => e = .returned (.agg (u8s (sumOf b))) ∧ ∃ Q', PL w' g Q' (s.put b) ∧ (∀ k, Q' k → Q k ∨ w.heap.size ≤ k) ∧ Dk.Only Q w w'
  get : ∀ {w g Q s} (t d : List Nat), PL w g Q s → d.length = 32 → Sm.allB d → textAt s.W d = some t →
    Calls Try.prog 9 #[.pointer (some ⟨g, 0, none⟩), .agg (u8s d)] w fun e w' => ∃ q c, e = .returned (.tuple #[.slice q t.length c, .int .i64 0]) ∧ w'.ownsRow w.heap.size 5 1 (.slice q t.length c) t.length (vals t) ∧ Below w.heap.size w w'
  getNo : ∀ {w g Q s} (d : List Nat), PL w g Q s → d.length = 32 → Sm.allB d → textAt s.W d = none →
    Calls Try.prog 9 #[.pointer (some ⟨g, 0, none⟩), .agg (u8s d)] w fun e w' => ∃ q c, e = .returned (.tuple #[.slice q 0 c, .int .i64 9]) ∧ Below w.heap.size w w'
  has : ∀ {w g Q s} (d : List Nat), PL w g Q s → d.length = 32 → Sm.allB d →
    Calls Try.prog 11 #[.pointer (some ⟨g, 0, none⟩), .agg (u8s d)] w fun e w' => e = .returned (.bool (decide (idx d s.W < s.W.length))) ∧ Below w.heap.size w w'
  len : ∀ {w g Q s}, PL w g Q s → Calls Try.prog 17 #[.pointer (some ⟨g, 0, none⟩)] w fun e w' => e = .returned (.int .i64 s.W.length) ∧ Below w.heap.size w w'
  sums : ∀ {w g Q s}, PL w g Q s → s.W.length < 100000 → Calls Try.prog 16 #[.pointer (some ⟨g, 0, none⟩)] w fun e w' => ∃ q c L, e = .returned (.slice q L.length c) ∧ Digs w' q L.length c L ∧ L.length = s.W.length ∧ (∀ d ∈ L, d ∈ s.W.map (·.1)) ∧ (∀ k, k + 1 < L.length → Cm.cmpL (L.getD k []) (L.getD (k + 1) []) = -1) ∧ Below w.heap.size w w'
  keepOp : ∀ {w g Q s} (K : List (List Nat)) (p : Option Addr) (n c : Nat), PL w g Q s → Digs w p n c K → (∀ x, p = some x → K ≠ [] → ¬ Q x.block) → n ≤ 100000 → s.W.length < 100000 →
    Calls Try.prog 13 #[.pointer (some ⟨g, 0, none⟩), .slice p n c] w fun e w' => e = .returned (.int .i64 (s.W.length - (s.keep K).W.length : Nat)) ∧ ∃ Q', PL w' g Q' (s.keep K) ∧ (∀ k, Q' k → Q k ∨ w.heap.size ≤ k) ∧ Dk.Only Q w w'
  clash : ∀ {w g Q s} (x y : List Nat), PL w g Q s → s.cl = some (x, y) → Calls Try.prog 22 #[.pointer (some ⟨g, 0, none⟩)] w fun e w' => ∃ p m c q n d, e = .returned (.tuple #[.slice p m c, .slice q n d, .bool true]) ∧ Tx w' p m c x ∧ Tx w' q n d y ∧ x.length ≤ 100000 ∧ y.length ≤ 100000 ∧ Below w.heap.size w w'
  clashNo : ∀ {w g Q s}, PL w g Q s → s.cl = none → Calls Try.prog 22 #[.pointer (some ⟨g, 0, none⟩)] w fun e w' => ∃ p c q d, e = .returned (.tuple #[.slice p 0 c, .slice q 0 d, .bool false]) ∧ Below w.heap.size w w'
/-- A store of a law's own, from the world w0 on. -/
structure St (PL : World → Nat → (Nat → Prop) → S → Prop) (w0 w : World) (g : Nat) (Q : Nat → Prop) (s : S) : Prop where
  at' : PL w g Q s
  own : ∀ k, Q k → w0.heap.size ≤ k
  low : Below w0.heap.size w0 w
section
variable {PL : World → Nat → (Nat → Prop) → S → Prop}
theorem St.later (A : Api PL) {w0 w w' : World} {g : Nat} {Q : Nat → Prop} {s : S} (h : St PL w0 w g Q s) (hb : Below w.heap.size w w') : St PL w0 w' g Q s :=
  ⟨A.keep (fun _ => False) h.at' (Dk.Only.of_below _ hb) (fun _ _ e => e), h.own, h.low.trans (hb.mono h.low.size)⟩
theorem St.turned {w0 w w' : World} {g : Nat} {Q Q' : Nat → Prop} {s s' : S} (h : St PL w0 w g Q s) (hd : PL w' g Q' s') (hq : ∀ k, Q' k → Q k ∨ w.heap.size ≤ k) (ho : Dk.Only Q w w') : St PL w0 w' g Q' s' :=
  ⟨hd, fun k hk => (hq k hk).elim (h.own k) (fun e => Nat.le_trans h.low.size e), h.low.trans (ho.below h.low.size h.own)⟩
end
end Go.Proofs.Ytlmbicelngpgoaa.Pg

/- Package page, as it landed: how a store lies in memory. -/
namespace Go.Proofs.Ytlmbicelngpgoaa.Pg
open Go.RowKit

/-- A text that a store has: its block is one of Q. -/
structure TQ (Q : Nat → Prop) (w : World) (p : Option Addr) (m c : Nat) (b : List Nat) : Prop where
  tx : Tx w p m c b
  own : ∀ x, p = some x → b ≠ [] → Q x.block
  le : b.length ≤ 100000
theorem TQ.keep {Q : Nat → Prop} {w w' : World} {p : Option Addr} {m c : Nat} {b : List Nat} (h : TQ Q w p m c b) (hk : ∀ k, Q k → w'.heap[k]? = w.heap[k]?) : TQ Q w' p m c b :=
  ⟨Dk.tx_keep h.tx (fun x hx hb => hk _ (h.own x hx hb)), h.own, h.le⟩
theorem TQ.wide {Q Q' : Nat → Prop} {w : World} {p : Option Addr} {m c : Nat} {b : List Nat} (h : TQ Q w p m c b) (hq : ∀ k, Q k → Q' k) : TQ Q' w p m c b := ⟨h.tx, fun x hx hb => hq _ (h.own x hx hb), h.le⟩
/-- The map of the pages L in the block b. -/
structure MapAt (Q : Nat → Prop) (w : World) (b : Nat) (L : List Pe) : Prop where
  mine : Q b
  map : ∃ D, w.ownsMap Try.prog 32 sliceR b L.length D ∧ Reads D L
  text : ∀ e ∈ L, TQ Q w e.q e.m e.c e.b
theorem map_keep {w w' : World} {b n : Nat} {D : DataW Value} (h : w.ownsMap Try.prog 32 sliceR b n D) (hk : w'.heap[b]? = w.heap[b]?) : w'.ownsMap Try.prog 32 sliceR b n D := by
  obtain ⟨es, clock, hb, r⟩ := h
  exact ⟨es, clock, hk.trans hb, r⟩
/-- A map has no more entries than it reads as. -/
theorem map_tight {w : World} {b n : Nat} {D : DataW Value} {L : List Pe} (h : w.ownsMap Try.prog 32 sliceR b n D) (hr : Reads D L) : w.ownsMap Try.prog 32 sliceR b L.length D := by
  have hs := hr.size
  obtain ⟨es, clock, hb, F, _, rfl⟩ := h
  refine ⟨es, clock, hb, F, ?_, rfl⟩
  rw [← hs]
  simp [Go.Maps.size, length_sorted]
theorem MapAt.keep {Q : Nat → Prop} {w w' : World} {b : Nat} {L : List Pe} (h : MapAt Q w b L) (hk : ∀ k, Q k → w'.heap[k]? = w.heap[k]?) : MapAt Q w' b L := by
  obtain ⟨D, hm, hr⟩ := h.map
  exact ⟨h.mine, ⟨D, map_keep hm (hk _ h.mine), hr⟩, fun e he => (h.text e he).keep hk⟩
theorem MapAt.wide {Q Q' : Nat → Prop} {w : World} {b : Nat} {L : List Pe} (h : MapAt Q w b L) (hq : ∀ k, Q k → Q' k) : MapAt Q' w b L := ⟨hq _ h.mine, h.map, fun e he => (h.text e he).wide hq⟩
/-- Two texts that clash, in the block c. -/
structure PairAt (Q : Nat → Prop) (w : World) (c : Nat) (x y : List Nat) : Prop where
  mine : Q c
  row : ∃ p m k q n l, w.heap[c]? = some (.cells #[.slice p m k, .slice q n l] 66 (0, 0)) ∧ TQ Q w p m k x ∧ TQ Q w q n l y
theorem PairAt.keep {Q : Nat → Prop} {w w' : World} {c : Nat} {x y : List Nat} (h : PairAt Q w c x y) (hk : ∀ k, Q k → w'.heap[k]? = w.heap[k]?) : PairAt Q w' c x y := by
  obtain ⟨p, m, k, q, n, l, h1, h2, h3⟩ := h.row
  exact ⟨h.mine, p, m, k, q, n, l, (hk _ h.mine).trans h1, h2.keep hk, h3.keep hk⟩
theorem PairAt.wide {Q Q' : Nat → Prop} {w : World} {c : Nat} {x y : List Nat} (h : PairAt Q w c x y) (hq : ∀ k, Q k → Q' k) : PairAt Q' w c x y := by
  obtain ⟨p, m, k, q, n, l, h1, h2, h3⟩ := h.row
  exact ⟨hq _ h.mine, p, m, k, q, n, l, h1, h2.wide hq, h3.wide hq⟩
/-- The store's pages: no map as long as nothing was put. -/
def MapsAt (Q : Nat → Prop) (w : World) (mp : Option Nat) (W : Pages) : Prop := (mp = none ∧ W = []) ∨ ∃ b L, mp = some b ∧ pagesOf L = W ∧ MapAt Q w b L
def ClashAt (Q : Nat → Prop) (w : World) (cl : Option Addr) (x : Option (List Nat × List Nat)) : Prop := (cl = none ∧ x = none) ∨ ∃ c a b, cl = some ⟨c, 0, none⟩ ∧ x = some (a, b) ∧ PairAt Q w c a b
theorem MapsAt.keep {Q : Nat → Prop} {w w' : World} {mp : Option Nat} {W : Pages} (h : MapsAt Q w mp W) (hk : ∀ k, Q k → w'.heap[k]? = w.heap[k]?) : MapsAt Q w' mp W :=
  h.imp id fun ⟨b, L, h1, h2, h3⟩ => ⟨b, L, h1, h2, h3.keep hk⟩
theorem MapsAt.wide {Q Q' : Nat → Prop} {w : World} {mp : Option Nat} {W : Pages} (h : MapsAt Q w mp W) (hq : ∀ k, Q k → Q' k) : MapsAt Q' w mp W :=
  h.imp id fun ⟨b, L, h1, h2, h3⟩ => ⟨b, L, h1, h2, h3.wide hq⟩
theorem ClashAt.keep {Q : Nat → Prop} {w w' : World} {cl : Option Addr} {x : Option (List Nat × List Nat)} (h : ClashAt Q w cl x) (hk : ∀ k, Q k → w'.heap[k]? = w.heap[k]?) : ClashAt Q w' cl x :=
  h.imp id fun ⟨c, a, b, h1, h2, h3⟩ => ⟨c, a, b, h1, h2, h3.keep hk⟩
theorem ClashAt.wide {Q Q' : Nat → Prop} {w : World} {cl : Option Addr} {x : Option (List Nat × List Nat)} (h : ClashAt Q w cl x) (hq : ∀ k, Q k → Q' k) : ClashAt Q' w cl x :=
  h.imp id fun ⟨c, a, b, h1, h2, h3⟩ => ⟨c, a, b, h1, h2, h3.wide hq⟩
/-- The store s in the block g: its map, its clash. -/
structure SAt (Q : Nat → Prop) (w : World) (g : Nat) (mp : Option Nat) (cl : Option Addr) (s : S) : Prop where
  row : w.heap[g]? = some (.cells #[.map mp, .pointer cl] 58 (0, 0))
  pages : MapsAt Q w mp s.W
  clash : ClashAt Q w cl s.cl
  mine : Q g
  lt : ∀ k, Q k → k < w.heap.size
  ok : s.ok
def PL (w : World) (g : Nat) (Q : Nat → Prop) (s : S) : Prop := ∃ mp cl, SAt Q w g mp cl s
section
variable {Q Q' X : Nat → Prop} {w w' : World} {g : Nat} {mp : Option Nat} {cl : Option Addr} {s : S}
theorem SAt.c0 (h : SAt Q w g mp cl s) : w.cell? ⟨g, 0, none⟩ = some (.map mp) := (cell_of_row w g 0 _ _ _ h.row).trans rfl
theorem SAt.c1 (h : SAt Q w g mp cl s) : w.cell? ⟨g, 1, none⟩ = some (.pointer cl) := (cell_of_row w g 1 _ _ _ h.row).trans rfl
theorem SAt.keep (h : SAt Q w g mp cl s) (hs : w.heap.size ≤ w'.heap.size) (hk : ∀ k, Q k → w'.heap[k]? = w.heap[k]?) : SAt Q w' g mp cl s :=
  ⟨(hk _ h.mine).trans h.row, h.pages.keep hk, h.clash.keep hk, h.mine, fun k hq => Nat.lt_of_lt_of_le (h.lt k hq) hs, h.ok⟩
theorem SAt.later (h : SAt Q w g mp cl s) (hb : Below w.heap.size w w') : SAt Q w' g mp cl s := h.keep hb.size (fun k hq => hb.block k (h.lt k hq))
theorem SAt.only (h : SAt Q w g mp cl s) (ho : Dk.Only X w w') (hx : ∀ k, Q k → ¬ X k) : SAt Q w' g mp cl s := h.keep ho.size (fun k hq => ho.block k (h.lt k hq) (hx k hq))
theorem PL.okay (h : PL w g Q s) : s.ok := by obtain ⟨_, _, h⟩ := h; exact h.ok
theorem PL.lt (h : PL w g Q s) : ∀ k, Q k → k < w.heap.size := by obtain ⟨_, _, h⟩ := h; exact h.lt
theorem PL.keep (X : Nat → Prop) (h : PL w g Q s) (ho : Dk.Only X w w') (hx : ∀ k, Q k → ¬ X k) : PL w' g Q s := by
  obtain ⟨mp, cl, h⟩ := h
  exact ⟨mp, cl, h.only ho hx⟩
/-- A text's block is no store's, and no map's. -/
theorem text_not_row {p : Option Addr} {m c : Nat} {b : List Nat} (h : Tx w p m c b) {x : Addr} (hx : p = some x) (hb : b ≠ []) {k : Nat} {a1 : Option Nat} {a2 : Option Addr} {t : TypeId} {fr : Nat × Nat} (hk : w.heap[k]? = some (.cells #[.map a1, .pointer a2] t fr)) : x.block ≠ k := by
  rintro rfl
  obtain ⟨g, o, hp, hc⟩ := h.bytes.ne hb
  rw [hx] at hp
  cases hp
  have h1 := hc 0 (List.length_pos_iff.2 hb)
  rw [Nat.add_zero, cell_of_row w g o _ _ _ hk] at h1
  rcases o with _ | _ | o <;> simp at h1
theorem text_not_map {p : Option Addr} {m c : Nat} {b : List Nat} (h : Tx w p m c b) {x : Addr} (hx : p = some x) (hb : b ≠ []) {k : Nat} {es : Array MapEntry} {cl : Nat} (hk : w.heap[k]? = some (.map es cl)) : x.block ≠ k := by
  rintro rfl
  obtain ⟨g, o, hp, hc⟩ := h.bytes.ne hb
  rw [hx] at hp
  cases hp
  have h1 := hc 0 (List.length_pos_iff.2 hb)
  simp [World.cell?, hk] at h1
/-- A text, with one block turned that isn't its own. -/
theorem TQ.turn {k : Nat} {p : Option Addr} {m c : Nat} {b : List Nat} (h : TQ Q w p m c b) (ho : Dk.Only (fun j => j = k) w w') (hne : ∀ x, p = some x → b ≠ [] → x.block ≠ k) : TQ Q w' p m c b :=
  ⟨Dk.tx_keep h.tx (fun x hx hb => ho.block _ (by
    obtain ⟨g', o', hp, hc⟩ := h.tx.bytes.ne hb
    rw [hx] at hp
    cases hp
    exact block_lt_of_cell (hc 0 (List.length_pos_iff.2 hb))) (hne x hx hb)), h.own, h.le⟩
theorem PairAt.turn_map {k c : Nat} {x y : List Nat} {es : Array MapEntry} {ck : Nat} (h : PairAt Q w c x y) (hk : w.heap[k]? = some (.map es ck)) (ho : Dk.Only (fun j => j = k) w w') : PairAt Q w' c x y := by
  obtain ⟨p, m, l, q, n, d, h1, h2, h3⟩ := h.row
  have hc : c < w.heap.size := (Array.getElem?_eq_some_iff.1 h1).1
  refine ⟨h.mine, p, m, l, q, n, d, (ho.block c hc (fun e => ?_)).trans h1, h2.turn ho (fun z hz hb => text_not_map h2.tx hz hb hk), h3.turn ho (fun z hz hb => text_not_map h3.tx hz hb hk)⟩
  rw [e, hk] at h1
  cases h1
theorem PairAt.turn_row {k c : Nat} {x y : List Nat} {a1 : Option Nat} {a2 : Option Addr} {t : TypeId} {fr : Nat × Nat} (h : PairAt Q w c x y) (hk : w.heap[k]? = some (.cells #[.map a1, .pointer a2] t fr)) (ho : Dk.Only (fun j => j = k) w w') : PairAt Q w' c x y := by
  obtain ⟨p, m, l, q, n, d, h1, h2, h3⟩ := h.row
  have hc : c < w.heap.size := (Array.getElem?_eq_some_iff.1 h1).1
  refine ⟨h.mine, p, m, l, q, n, d, (ho.block c hc (fun e => ?_)).trans h1, h2.turn ho (fun z hz hb => text_not_row h2.tx hz hb hk), h3.turn ho (fun z hz hb => text_not_row h3.tx hz hb hk)⟩
  rw [e, hk] at h1
  simp at h1
theorem ClashAt.turn_map {k : Nat} {es : Array MapEntry} {ck : Nat} {cx : Option (List Nat × List Nat)} (h : ClashAt Q w cl cx) (hk : w.heap[k]? = some (.map es ck)) (ho : Dk.Only (fun j => j = k) w w') : ClashAt Q w' cl cx :=
  h.imp id fun ⟨c, a, b, h1, h2, h3⟩ => ⟨c, a, b, h1, h2, h3.turn_map hk ho⟩
theorem ClashAt.turn_row {k : Nat} {a1 : Option Nat} {a2 : Option Addr} {t : TypeId} {fr : Nat × Nat} {cx : Option (List Nat × List Nat)} (h : ClashAt Q w cl cx) (hk : w.heap[k]? = some (.cells #[.map a1, .pointer a2] t fr)) (ho : Dk.Only (fun j => j = k) w w') : ClashAt Q w' cl cx :=
  h.imp id fun ⟨c, a, b, h1, h2, h3⟩ => ⟨c, a, b, h1, h2, h3.turn_row hk ho⟩
theorem MapAt.turn_row {k b : Nat} {L : List Pe} {a1 : Option Nat} {a2 : Option Addr} {t : TypeId} {fr : Nat × Nat} (h : MapAt Q w b L) (hk : w.heap[k]? = some (.cells #[.map a1, .pointer a2] t fr)) (ho : Dk.Only (fun j => j = k) w w') : MapAt Q w' b L := by
  obtain ⟨D, hm, hr⟩ := h.map
  refine ⟨h.mine, ⟨D, map_keep hm (ho.block b hm.lt (fun e => ?_)), hr⟩, fun e he => (h.text e he).turn ho (fun z hz hb => text_not_row (h.text e he).tx hz hb hk)⟩
  obtain ⟨es, ck, h1, _⟩ := hm
  rw [e, hk] at h1
  cases h1
theorem MapsAt.turn_row {k : Nat} {a1 : Option Nat} {a2 : Option Addr} {t : TypeId} {fr : Nat × Nat} {W : Pages} (h : MapsAt Q w mp W) (hk : w.heap[k]? = some (.cells #[.map a1, .pointer a2] t fr)) (ho : Dk.Only (fun j => j = k) w w') : MapsAt Q w' mp W :=
  h.imp id fun ⟨b, L, h1, h2, h3⟩ => ⟨b, L, h1, h2, h3.turn_row hk ho⟩
end
end Go.Proofs.Ytlmbicelngpgoaa.Pg

/- Package page, as it landed: New, Len. -/
namespace Go.Proofs.Ytlmbicelngpgoaa.Pg
open Go.RowKit

theorem UST : Try.prog.underlying 55 = some (.map 32 27) := by kernel_rfl
theorem SAt.made (w : World) : SAt (fun k => k = w.heap.size) (w.alloc (.cells #[.map none, .pointer none] 58)) w.heap.size none none ⟨[], none⟩ :=
  ⟨heap_alloc_new w _, Or.inl ⟨rfl, rfl⟩, Or.inl ⟨rfl, rfl⟩, rfl, (fun k hk => by subst hk; simp), S.new_ok⟩
set_option maxRecDepth 100000 in
set_option maxHeartbeats 1000000 in
theorem new_any (w : World) : Calls Try.prog 7 #[] w fun e w' => ∃ g Q, e = .returned (.pointer (some ⟨g, 0, none⟩)) ∧ PL w' g Q ⟨[], none⟩ ∧ (∀ k, Q k → w.heap.size ≤ k) ∧ Below w.heap.size w w' := by
  have hm := SAt.made w
  have hb := (Below.refl w.heap.size w).alloc (Nat.le_refl _) (.cells #[.map none, .pointer none] 58)
  go_enter Try.func7, Try.ntmps7
  go_wp2_with fail
  go_ret
  exact ⟨_, _, rfl, ⟨_, _, hm⟩, (fun k hk => by omega), hb⟩
set_option maxRecDepth 100000 in
set_option maxHeartbeats 1000000 in
theorem len_any {w : World} {g : Nat} {Q : Nat → Prop} {s : S} (h : PL w g Q s) :
    Calls Try.prog 17 #[.pointer (some ⟨g, 0, none⟩)] w fun e w' => e = .returned (.int .i64 s.W.length) ∧ Below w.heap.size w w' := by
  obtain ⟨mp, cl, h⟩ := h
  have c0 := h.c0
  obtain ⟨n, hn, hl⟩ : ∃ n : Nat, n = s.W.length ∧ ∀ ty w', w'.heap = w.heap → (Builtin.len_ #[55] ty #[.map mp]).run Try.prog w' = .ok (.int .i64 (n : Int)) w' := by
    rcases h.pages with ⟨rfl, hW⟩ | ⟨b, L, rfl, hW, hM⟩
    · exact ⟨0, by rw [hW]; rfl, fun ty w' _ => Go.Maps.len_nil UST ty⟩
    · obtain ⟨D, hm, hr⟩ := hM.map
      refine ⟨L.length, by rw [← hW, pagesOf_length], fun ty w' hw => ?_⟩
      have := (map_keep (w' := w') hm (by rw [hw])).len UST ty
      rwa [hr.size] at this
  rw [← hn]
  clear hn
  have HL := hl 3 w rfl
  clear h hl
  go_enter Try.func17, Try.ntmps17
  go_wp2_with fail
  go_ret
  exact ⟨rfl, Below.refl _ _⟩
end Go.Proofs.Ytlmbicelngpgoaa.Pg

/- maps.Keys and its iterator, at digests. -/
namespace Go.Proofs.Ytlmbicelngpgoaa.Pg
open Go.RowKit Go.Proofs.Ytlmbicelngpgoaa.Wl Go.Maps
attribute [local go_sem] Oper.semAt_some

set_option maxRecDepth 100000 in
set_option maxHeartbeats 2000000 in
theorem keys1_in (m l Bm b : Nat) (L : List Pe) (D : DataW Value) (J Jx : List DG → World → Prop) (W : World) (hJ : AbidesFrom W.heap.size J)
    (hY : ∀ pre x W1, J pre W1 → pre.length < L.length → YieldAt Fence.wide (m - 1) Try.prog l #[.agg (u8s x.1)] W1 fun e W' =>
      (e = .returned (.bool true) ∧ J (pre ++ [x]) W' ∧ KeepsWalks W1 W') ∨ (e = .returned (.bool false) ∧ Jx (pre ++ [x]) W'))
    (hm : W.cell? ⟨Bm, 0, none⟩ = some (.map (some b))) (hown : W.ownsMap Try.prog 32 sliceR b L.length D) (hr : Reads D L) (h0 : J [] W) :
    CallsIn Fence.wide m Try.prog 39 #[.func (.yield l) #[] #[], .pointer (some ⟨Bm, 0, none⟩)] W fun e W' => (∃ v, e = .returned v) ∧
      ((∃ xs, (xs.map (·.1)).Perm (L.map (·.d)) ∧ J xs W') ∨ (∃ pre, True ∧ Jx pre W')) := by
  have HLL := Lib.hid hr.len
  have HLO := Lib.hid hr.one
  have HR := Lib.hid hr
  have HSZ := Lib.hid hr.size
  have hz := (zero_of_info Z25).1
  refine callsIn_of_wp Try.func39 rfl trivial ?_ rfl
  simp only [Try.ntmps39, List.size_toArray, List.length_cons, List.length_nil, Nat.reduceAdd, Nat.reduceSub, Array.replicate_succ, Array.replicate_zero, List.push_toArray, List.append_toArray, List.nil_append, List.cons_append]
  gi_wp2_with (first
    | (gi_at_range; refine wpListIn_range_own _ rfl _ 55 rfl 32 27 keyD UST sliceR b L.length D rfl hown ?_; intro w0 hrg0 hg0 hs0)
    | gi_in)
  try go_frame
  generalize hrr : W.heap.size = r at *
  gi_loopw [3] (fun _ wr => ∃ (left : Lit → Bool) (cnt : Nat) (ds : List DG), wr.ranges Try.prog 32 sliceR b r L.length D left cnt ∧ ds.length + cnt ≤ L.length ∧ Col L left ds ∧ J ds wr) (fun _ wr => wr.rangeLeft b r)
  case atStart => exact ⟨_, _, [], hrg0, by rw [HSZ.out]; simp, Col.start HR.out, hJ [] W w0 none h0 hg0 (fun r e => by cases e)⟩
  case round =>
    obtain ⟨left, cnt, ds, hrg, hcs, hC, hJs⟩ := hrel
    gi_wp2_with (first
      | (gi_at_next; refine wpListIn_next9 rfl _ rfl rfl hrg HR.out ?_ ?_)
      | gi_in)
    · intro hc0 hl0
      gi_wp2
      go_end0
      exact ⟨⟨_, rfl⟩, .inl ⟨ds, hC.done HLO.out hl0, hJs⟩⟩
    · intro e c2 w2 cnt2 he hlk hrg2 hlt hg2 hs2 hen
      have hel := HLL.out e he
      have hJ2 : J ds w2 := hJ ds wr w2 (some r) hJs hg2 (fun r' e => by cases e; exact ⟨Nat.le_refl _, hrg.iter_walk⟩)
      have hJ3 : J ds (w2.alloc (.cells (u8s e.d) 32)) := hJ ds w2 _ none hJ2 (World.grownBy_alloc _ _ _) (fun r e => by cases e)
      have hrg3 := hrg2.alloc (.cells (u8s e.d) 32)
      have hcol := hC.step HLL.out he hlk
      have RZ := Lib.hid (heap_alloc_new w2 (.cells (u8s (zeros 32)) 32))
      have HSR := Lib.hid (setRow_alloc w2 (u8s (zeros 32)) (u8s e.d) 32)
      have R9 := Lib.hid (range_of_row' (heap_alloc_new w2 (.cells (u8s e.d) 32)))
      have HEL := Lib.hid hel
      have hlen : ds.length < L.length := by omega
      clear hs2
      gi_upto_region 2 with fail
      refine wpIn_wide.2 ?_
      go_wp2_with (refine wpList_store_row (by rfl) 32 _ _ (by rfl) w2.heap.size (u8s e.d) (by rfl) (by rfl) _ _ RZ.out (by rw [u8s_size, HEL.out.1]; exact S25) (by rw [u8s_size, u8s_size, HEL.out.1]; rfl) (u8s_one _) ?_; rw [HSR.out])
      generalize w2.alloc (.cells (u8s e.d) 32) = w3 at *
      obtain ⟨fn, tmps, assign, body, hy, hR⟩ := hY ds ⟨e.d, hel⟩ w3 hJ3 hlen
      gi_wp2_with (first | (refine wpListIn_load_dig rfl (.tmp 3) rfl rfl HEL.out.1 R9.out ?_) | gi_in)
      refine ⟨fun h => (by cases h), hR.mono ?_⟩
      rintro _ W3 (⟨rfl, hJ4, hk4⟩ | ⟨rfl, hJx4⟩)
      · gi_wp2
        have hrg4 := hrg3.of_walks hk4
        go_roundw
        case rel => exact ⟨_, cnt2, ds ++ [⟨e.d, hel⟩], hrg4, by simp; omega, hcol, hJ4⟩
        case measure => rw [hrg4.left_eq, hrg.left_eq]; exact hlt
      · gi_wp2
        refine bodyPost_ret (results_none rfl _ _ _) rfl ?_
        exact ⟨⟨_, rfl⟩, .inr ⟨_, trivial, hJx4⟩⟩
set_option maxRecDepth 100000 in
set_option maxHeartbeats 2000000 in
theorem keys1_nil (m l Bm : Nat) (J Jx : List DG → World → Prop) (W : World) (hJ : AbidesFrom W.heap.size J) (hm : W.cell? ⟨Bm, 0, none⟩ = some (.map none)) (h0 : J [] W) :
    CallsIn Fence.wide m Try.prog 39 #[.func (.yield l) #[] #[], .pointer (some ⟨Bm, 0, none⟩)] W fun e W' => (∃ v, e = .returned v) ∧
      ((∃ xs : List DG, (xs.map (·.1)).Perm (([] : List Pe).map (·.d)) ∧ J xs W') ∨ (∃ pre, True ∧ Jx pre W')) := by
  have hrg := run_range_nilMap (P := Try.prog) W 55 32 27 UST
  have hnx : ∀ ty, (Instr.next (.pointer (some ⟨W.heap.size, 0, none⟩)) false ty).run Try.prog (W.alloc (.mapIter none 0 #[] 0)) = _ := fun ty => run_next_nilMap W ty 0 0 #[]
  have hJ1 : J [] (W.alloc (.mapIter none 0 #[] 0)) := hJ [] W _ none h0 (World.grownBy_alloc _ _ _) (fun r e => by cases e)
  refine callsIn_wide.2 ?_
  go_enter Try.func39, Try.ntmps39
  go_wp2_with fail
  refine wp_loop_rounds 1 ?_
  rw [rounds_succ]
  go_wp2_with fail
  go_end0
  exact ⟨⟨_, rfl⟩, .inl ⟨[], List.Perm.refl _, hJ1⟩⟩
/-- Where the iterator's map lies. -/
def MapL (w : World) (mp : Option Nat) (L : List Pe) : Prop := (mp = none ∧ L = []) ∨ ∃ b D, mp = some b ∧ w.ownsMap Try.prog 32 sliceR b L.length D ∧ Reads D L
theorem keys_stops (m Bm : Nat) (mp : Option Nat) (L : List Pe) (w : World) (hm : w.cell? ⟨Bm, 0, none⟩ = some (.map mp)) (hL : MapL w mp L) :
    SeqStopsK Fence.wide m Try.prog 39 #[.pointer (some ⟨Bm, 0, none⟩)] (fun x : DG => #[.agg (u8s x.1)]) KeepsWalks (fun xs => (xs.map (·.1)).Perm (L.map (·.d))) (fun _ => True) L.length w := fun l J Jx W hW hJ _ hY h0 => by
  have hm' : W.cell? ⟨Bm, 0, none⟩ = some (.map mp) := (hW.cell (p := ⟨Bm, 0, none⟩) (block_lt_of_cell hm)).trans hm
  rcases hL with ⟨rfl, rfl⟩ | ⟨b, D, rfl, hown, hr⟩
  · exact keys1_nil m l Bm J Jx W hJ hm' h0
  · exact keys1_in m l Bm b L D J Jx W hJ hY hm' (map_keep hown (hW.block b hown.lt)) hr h0
set_option maxHeartbeats 1000000 in
theorem keys_any (mp : Option Nat) (w : World) :
    Calls Try.prog 28 #[.map mp] w fun e w' => e = .returned (.func (.func 39) #[] #[.pointer (some ⟨w.heap.size, 0, none⟩)]) ∧ w' = w.alloc (.cells #[.map mp] 55) := by
  go_enter Try.func28, Try.ntmps28
  go_wp2_with fail
  go_ret
  exact ⟨rfl, rfl⟩
end Go.Proofs.Ytlmbicelngpgoaa.Pg

/- A list literal of one digest. -/
namespace Go.Proofs.Ytlmbicelngpgoaa.Pg
open Go.RowKit

theorem UDS : Try.prog.underlying 41 = some (.slice 32) := by kernel_rfl
theorem IDG : (Try.prog.info? 32).map (fun i => (i.zero, i.size, i.bytes)) = some (some (.agg (u8s (zeros 32))), 32, 32) := by kernel_rfl
theorem dig_fill : ∀ (D : List Nat), D.length = 32 → Instr.fill (fun i => some (i * 32, 32)) ((Array.range (1 * 32)).map ((Value.agg (u8s (zeros 32))).cells[· % (Value.agg (u8s (zeros 32))).cells.size]!)) [(0, .agg (u8s D))] = some (u8s D)
  | [a0, a1, a2, a3, a4, a5, a6, a7, a8, a9, a10, a11, a12, a13, a14, a15, a16, a17, a18, a19, a20, a21, a22, a23, a24, a25, a26, a27, a28, a29, a30, a31], _ => by kernel_rfl
theorem wp_dig_one {w : World} {o : Oper} {a : Act} {K : Act → World → Prop} {Q : Exit → Act → World → Prop} (x : Operand) (ho : o.op = .buildSlice 41 1 #[(0, x)]) {D : List Nat} (hD : D.length = 32) (hx : a.eval x = .agg (u8s D))
    (h : K (a.put o.dst (.slice (some ⟨w.heap.size, 0, none⟩) 1 1)) (w.alloc (.cells (u8s D) 32))) : o.wp Try.prog a w K Q := by
  obtain ⟨i, hi, hi0, hi1, hi2⟩ := info_parts IDG
  refine wp_buildSlice 41 32 1 #[(0, x)] ho (u8s D) i _ UDS hi hi0 (by rw [hi1]; omega) (by rw [hi1]; omega) ?_ h
  rw [hi1]
  simp only [List.map_toArray, List.map_cons, List.map_nil, hx]
  exact dig_fill D hD
theorem wpList_dig_one {w : World} {ops : Array Oper} {rest : List Oper} {o : Oper} {a : Act} {Q : Exit → Act → World → Prop} (hg : o.guard = none) (x : Operand) (ho : o.op = .buildSlice 41 1 #[(0, x)]) {D : List Nat} (hD : D.length = 32) (hx : a.eval x = .agg (u8s D))
    (h : wpList Try.prog ops Q rest (a.put o.dst (.slice (some ⟨w.heap.size, 0, none⟩) 1 1)) (w.alloc (.cells (u8s D) 32))) : wpList Try.prog ops Q (o :: rest) a w :=
  wpList_plain hg fun _ hK => wp_dig_one x ho hD hx (hK _ _ h)
end Go.Proofs.Ytlmbicelngpgoaa.Pg

/- slices.AppendSeq and slices.Collect, of a map's keys. -/
namespace Go.Proofs.Ytlmbicelngpgoaa.Pg
open Go.RowKit Go.Shelf Go.Proofs.Ytlmbicelngpgoaa.Wl

/-- What stands between two rounds. -/
def ApI (w : World) (Bs : Nat) (ds : List DG) (W : World) : Prop :=
  (∃ v, Boxed W Bs 41 v ∧ W.ownsRow w.heap.size 32 32 v ds.length (flatD ds) ∧ True) ∧ Below w.heap.size w W ∧ Bs < W.heap.size
theorem apI_own (w : World) (Bs B : Nat) (hB : w.heap.size ≤ B) : OwnFrom B (ApI w Bs) := fun s W W' row h hg hr =>
  ⟨holdsRow_own w.heap.size Bs 41 32 32 (fun ds : List DG => ds.length) flatD (fun _ _ => True) s W W' row h.1 hg (fun r e => (hr r e).2), h.2.1.grown hg h.2.1.size (fun k e => Nat.le_trans hB (hr k e).1), Nat.lt_of_lt_of_le h.2.2 hg.size⟩
/-- A round's frame: the variable's block. -/
def ApX (Bs : Nat) (sv : Value) (x : DG) (a' : Act) (W : World) : Prop :=
  ∃ B5, a' = { tmps := #[.slice none 0 0, sv, .pointer (some ⟨Bs, 0, none⟩), undef, .slice none 0 0, .pointer (some ⟨B5, 0, none⟩), sv, .agg (u8s x.1), undef, undef, undef, undef, undef], defers := [] } ∧ W.heap[B5]? = some (.cells (u8s x.1) 32 (0, 0))
theorem apX_own (Bs : Nat) (sv : Value) (B : Nat) (x : DG) (a' : Act) : OwnFrom B (fun (_ : Unit) W => ApX Bs sv x a' W) := fun _ W W' row ⟨B5, e, h⟩ hg hr =>
  ⟨B5, e, (hg.block B5 (Array.getElem?_eq_some_iff.1 h).1 (fun e' => by
    obtain ⟨o, ho, hc⟩ := (hr B5 e'.symm).2
    rw [h] at ho
    cases ho
    cases hc)).trans h⟩
theorem ret_tmp_mark {w2 : World} {tmps : Array Value} {v : Value} {D : Nat} {R : Ending → World → Prop} (hp : tmps.getD 4 undef = v) (hK : w2.heap[D]? = some (.deferred (some []))) (h : R (.returned v) (w2.putObj D (.deferred none))) : bodyPostM Fence.wide 5 Try.prog Try.f47 R .ret ⟨tmps, [{ target := .collected D, args := #[] }]⟩ w2 := by
  refine ⟨by simp, .inl ⟨_, _, rfl, run_takeDeferred hK, ?_⟩⟩
  exact ⟨_, results_tmp rfl _ _ _, by rw [hp]; exact h⟩
set_option maxRecDepth 100000 in
set_option maxHeartbeats 2000000 in
theorem appendSeq_any (Bm : Nat) (mp : Option Nat) (L : List Pe) (w : World) (hm : w.cell? ⟨Bm, 0, none⟩ = some (.map mp)) (hL : MapL w mp L) (hn : L.length ≤ 100000) :
    Calls Try.prog 47 #[.slice none 0 0, .func (.func 39) #[] #[.pointer (some ⟨Bm, 0, none⟩)]] w fun e w' =>
      ∃ v ds, e = .returned v ∧ ((ds : List DG).map (·.1)).Perm (L.map (·.d)) ∧ w'.ownsRow w.heap.size 32 32 v ds.length (flatD ds) ∧ Below w.heap.size w w' := by
  obtain ⟨sv, hsv⟩ : ∃ sv : Value, sv = .func (.func 39) #[] #[.pointer (some ⟨Bm, 0, none⟩)] := ⟨_, rfl⟩
  rw [← hsv]
  have HSV := Lib.hid hsv
  have hb := (Below.refl w.heap.size w).alloc (Nat.le_refl _) (.cells #[.slice none 0 0] 41)
  have HB := Lib.hid hb
  have HBX := Lib.hid (Boxed.new w 41 (.slice none 0 0))
  have HM := Lib.hid hm
  have HL := Lib.hid hL
  have hz := (zero_of_info Z25).1
  obtain ⟨id0, hd0, hd1, hd2, hd3⟩ := info_parts IDG
  have HD0 := Lib.hid hd0
  have HD1 := Lib.hid hd1
  have HD2 := Lib.hid hd2
  have HD3 := Lib.hid hd3
  clear hsv hb hm hL hd0 hd1 hd2 hd3
  refine callsIn_wide.1 (callsIn_of_wp_marks (n := 5) Try.func47 rfl trivial ?_ rfl)
  simp only [Try.ntmps47, List.size_toArray, List.length_cons, List.length_nil, Nat.reduceAdd, Nat.reduceSub, Array.replicate_succ, Array.replicate_zero, List.push_toArray, List.append_toArray, List.nil_append, List.cons_append]
  refine wpIn_wide.2 ?_
  go_wp2_with fail
  have hs1 : (w.alloc (.cells #[.slice none 0 0] 41)).heap.size = w.heap.size + 1 := by simp
  generalize w.alloc (.cells #[.slice none 0 0] 41) = w1 at *
  have HS1 := Lib.hid hs1
  clear hs1
  refine (wpIn_wide (n := 5)).1 ?_
  refine wpIn_rangeFunc_ownH rfl (by omega) (gf := 39) (lb := #[.pointer (some ⟨Bm, 0, none⟩)]) (by rw [HSV.out]; rfl) trivial (enters_of Try.func39 (by kernel_rfl) rfl)
    (keys_stops 4 Bm mp L w HM.out HL.out) (fun h k => h.trans k) (fun W l o o' _ hlo _ hw => KeepsWalks.putObj o' hlo hw) HB.out (fun _ => rfl)
    (ApI w w.heap.size) (fun _ _ _ => False) (apI_own w _ _ (by rw [HS1.out]; omega)) (fun _ _ _ _ _ h => False.elim h) ⟨⟨_, HBX.out, World.ownsRow_nil _ _ _ _, trivial⟩, HB.out, by rw [HS1.out]; omega⟩
    (ApX w.heap.size sv) (apX_own _ _ _) ?assign ?body ?done (fun _ _ _ _ _ _ h => False.elim h)
  case assign =>
    intro l pre x W K hI hK
    have HKK := Lib.hid hK
    have HI := Lib.hid hI
    have RZ := Lib.hid (heap_alloc_new W (.cells (u8s (zeros 32)) 32))
    have HSR := Lib.hid (setRow_alloc W (u8s (zeros 32)) (u8s x.1) 32)
    clear hI hK
    have hba := (Below.refl W.heap.size W).alloc (Nat.le_refl _) (.cells (u8s x.1) 32)
    have R5 := Lib.hid (heap_alloc_new W (.cells (u8s x.1) 32))
    have K5 := Lib.hid (show KeepsFrom w1.heap.size W (W.alloc (.cells (u8s x.1) 32)) from (KeepsOthers.alloc W _).from _)
    have I5 := Lib.hid (apI_own w w.heap.size w1.heap.size (by rw [HS1.out]; omega) pre W _ none HI.out (World.grownBy_alloc W (.cells (u8s x.1) 32) none) (fun r e => by cases e))
    refine region_list_round (by rfl) ?_
    simp only [List.zip_toArray, List.zip_cons_cons, List.zip_nil_left, List.size_toArray, List.length_cons, List.length_nil]
    clear hba
    go_wp2_with (refine wpList_store_row (by rfl) 32 _ _ (by rfl) W.heap.size (u8s x.1) (by rfl) (by rfl) _ _ RZ.out (by rw [u8s_size, x.2.1]; exact S25) (by rw [u8s_size, u8s_size, x.2.1]; rfl) (u8s_one _) ?_; rw [HSR.out])
    refine nrm_normal ?_
    exact HKK.out _ _ K5.out (KeepsWalks.alloc W _) I5.out ⟨_, rfl, R5.out⟩
  case body =>
    rintro l pre x a' W hl - ⟨⟨v, hbx, ho, -⟩, hbw, hlt⟩ ⟨B5, rfl, r5⟩ hlen
    have HBX5 := Lib.hid hbx
    have HO := Lib.hid ho
    have HBW := Lib.hid hbw
    have R5 := Lib.hid r5
    have c2 := hbx.cell
    have hws := hbw.size
    have hpl : pre.length ≤ 100000 := by omega
    have hba := (Below.refl W.heap.size W).alloc (Nat.le_refl _) (.cells (u8s x.1) 32)
    have hnw := heap_alloc_new W (.cells (u8s x.1) 32)
    have HNW := Lib.hid (show ∀ j u, (vals x.1)[j]? = some u → (W.alloc (.cells (u8s x.1) 32)).cell? ((⟨W.heap.size, 0, none⟩ : Addr).add j) = some u from fun j u hu => by
      rw [Addr.add_mid, Nat.zero_add, cell_of_row _ W.heap.size j _ _ _ hnw, u8s, List.getElem?_toArray]
      exact hu)
    have HOA := Lib.hid (ho.alloc (.cells (u8s x.1) 32))
    clear hbx ho hbw r5 hba hnw
    gi_upto_region 3 with fail
    refine region_list_round (by rfl) ?_
    go_wp2_with (first
      | (refine wpList_load_row (by rfl) 32 (.tmp 5) (by rfl) B5 (by rfl) 32 (u8s x.1) (0, 0) _ R5.out A25 rfl (by rw [u8s_size, x.2.1]; exact S25) ?_)
      | (refine wpList_dig_one (by rfl) (.tmp 9) (by rfl) x.2.1 (by rfl) ?_)
      | (at_builtin; refine wpList_append_own_at _ (by rfl) (.tmp 8) (.tmp 10) 41 (by rfl) w.heap.size 32 id0 _ 32 32 UDS HD0.out HD1.out HD2.out HD3.out (by rfl) (by decide) _ pre.length (flatD pre) (by rfl) HOA.out ⟨W.heap.size, 0, none⟩ 1 1 (vals x.1) (by rfl) (by rw [vals_length, x.2.1]) HNW.out (vals_one _) (by unfold maxLen; omega) (by omega) (by rw [World.size_alloc]; omega) ?_; intro v7 w7 hown7 hgrow7 _ _; obtain ⟨g7, c7, rfl⟩ := ownsRow_succ hown7; obtain ⟨hv1, hv2, hr2, hko, hbl⟩ := Boxed.appended HBX5.out (by decide) HO.out hws (Nat.le_refl _) hown7 hgrow7; have c7b := hv1.cell; have f7b := hv1.frozen; have HV2 := Lib.hid hv2; have HR2 := Lib.hid hr2; have HKO := Lib.hid hko; have HBL := Lib.hid hbl; clear hv1 hv2 hr2 hko hbl hown7 hgrow7))
    refine nrm_normal ?_
    refine ⟨HKO.out.from _, ⟨HKO.out.size, fun k o hk' hw => HKO.out.same k o hk' (Obj.not_cells_of_walk hw)⟩, ⟨⟨_, HV2.out, ?_, trivial⟩, HBW.out.trans HBL.out, Nat.lt_of_lt_of_le hlt HKO.out.size⟩⟩
    have h1 := HR2.out
    rw [List.length_append, List.length_singleton, show flatD (pre ++ [x]) = flatD pre ++ vals x.1 from by simp [flatD, encD]]
    exact h1
  case done =>
    rintro D xs W hD hS ⟨⟨v, hbx, ho, -⟩, hbw, -⟩ hK
    have HS := Lib.hid hS
    have HO := Lib.hid ho
    have HBW := Lib.hid hbw
    have HK := Lib.hid hK
    have c2 := hbx.cell
    clear hS hbx ho hbw hK
    go_wp2_with fail
    refine ret_tmp_mark rfl HK.out ?_
    exact ⟨v, xs, rfl, HS.out, ownsRow_putObj HO.out _ HK.out rfl, HBW.out.grown (grownBy_putObj' W D (.deferred none)) HBW.out.size (fun k e => by cases e; have := HS1.out; omega)⟩
set_option maxRecDepth 100000 in
set_option maxHeartbeats 1000000 in
theorem collect_any (Bm : Nat) (mp : Option Nat) (L : List Pe) (w : World) (hm : w.cell? ⟨Bm, 0, none⟩ = some (.map mp)) (hL : MapL w mp L) (hn : L.length ≤ 100000) :
    Calls Try.prog 37 #[.func (.func 39) #[] #[.pointer (some ⟨Bm, 0, none⟩)]] w fun e w' =>
      ∃ v ds, e = .returned v ∧ ((ds : List DG).map (·.1)).Perm (L.map (·.d)) ∧ w'.ownsRow w.heap.size 32 32 v ds.length (flatD ds) ∧ Below w.heap.size w w' := by
  have h := appendSeq_any Bm mp L w hm hL hn
  clear hm hL
  go_enter Try.func37, Try.ntmps37
  go_wp2_with fail
  refine h.mono ?_
  rintro _ w1 ⟨v, ds, rfl, hp, ho, hb⟩
  have HX := Lib.hid (And.intro hp (And.intro ho hb))
  clear hp ho hb h
  go_wp2_with fail
  go_ret
  exact ⟨v, ds, rfl, HX.out.1, HX.out.2.1, HX.out.2.2⟩
end Go.Proofs.Ytlmbicelngpgoaa.Pg

/- bytes.Compare. -/
namespace Go.Proofs.Ytlmbicelngpgoaa.Pg
open Go.RowKit

theorem bytes_lt9 {x y : Nat} (hx : x < 256) (hy : y < 256) : (UInt8.ofNat x < UInt8.ofNat y) ↔ x < y := by
  rw [UInt8.lt_iff_toNat_lt, UInt8.toNat_ofNat', UInt8.toNat_ofNat', Nat.mod_eq_of_lt (by omega), Nat.mod_eq_of_lt (by omega)]
theorem strOf_list9 {A : List Nat} : (strOf A).data.toList = A.map UInt8.ofNat := by
  simp [strOf, strOfNums, Function.comp_def]
theorem compare_cmp9 : ∀ (A B : List Nat), Sm.allB A → Sm.allB B → Lib.compareBytes (A.map UInt8.ofNat) (B.map UInt8.ofNat) = Cm.cmpL A B
  | [], [], _, _ => rfl
  | [], _ :: _, _, _ => rfl
  | _ :: _, [], _, _ => rfl
  | x :: A, y :: B, hA, hB => by
    have hx := hA x (by simp)
    have hy := hB y (by simp)
    have ih := compare_cmp9 A B (fun z hz => hA z (by simp [hz])) (fun z hz => hB z (by simp [hz]))
    rw [List.map_cons, List.map_cons, Lib.compareBytes, ih, Cm.cmpL_cons]
    by_cases h1 : x < y
    · rw [if_pos h1, if_pos ((bytes_lt9 hx hy).2 h1)]
    · rw [if_neg h1, if_neg (fun h => h1 ((bytes_lt9 hx hy).1 h))]
      by_cases h2 : y < x
      · rw [if_pos h2, if_pos ((bytes_lt9 hy hx).2 h2)]
      · rw [if_neg h2, if_neg (fun h => h2 ((bytes_lt9 hy hx).1 h))]
theorem run_bytesOf9 {w : World} {p : Option Addr} {n c : Nat} {B : List Nat} (h : Tx w p n c B) : (Extern.Bytes.bytesOf (.slice p n c)).run Try.prog w = .ok (strOf B) w := by
  have hs := h.size
  rcases h.at' with ⟨rfl, hc⟩ | ⟨x, rfl, hx⟩
  · have hB : B = [] := List.length_eq_zero_iff.1 (by have := h.le; omega)
    subst hB
    rfl
  · have hl := Lib.run_loadBytesX (P := Try.prog) w (B.map Int.ofNat) x .empty (fun j y hy => by
      rw [List.getElem?_map, Option.map_eq_some_iff] at hy
      obtain ⟨b, hb, rfl⟩ := hy
      exact hx j _ (by simp [vals, hb]))
    rw [List.length_map, ← hs] at hl
    refine hl.trans ?_
    congr 1
    apply ByteArray.ext
    apply Array.ext'
    simp [strOf, strOfNums, Lib.bytesOf, Function.comp_def]
theorem run_compare9 {w : World} {p q : Option Addr} {n c m d : Nat} {A B : List Nat} (hA : Tx w p n c A) (hB : Tx w q m d B) : (Extern.BytealgCompare.compare #[.slice p n c, .slice q m d]).run Try.prog w = .ok (.int .i64 (Cm.cmpL A B)) w := by
  show Sem.run Try.prog (Extern.Bytes.bytesOf (.slice p n c) >>= fun a => Extern.Bytes.bytesOf (.slice q m d) >>= fun b => pure (goInt (Extern.BytealgCompare.cmp a b))) w = _
  simp only [Sem.run_bind, run_bytesOf9 hA, run_bytesOf9 hB, Result.andThen_ok, Sem.run_pure]
  rw [Lib.cmp_eq, strOf_list9, strOf_list9, compare_cmp9 A B hA.ok hB.ok]
  rfl
set_option maxRecDepth 100000 in
set_option maxHeartbeats 1000000 in
theorem bcompare_any {A B : List Nat} {p q : Option Addr} {n c m d : Nat} {w : World} (hA : Tx w p n c A) (hB : Tx w q m d B) :
    Calls Try.prog 30 #[.slice p n c, .slice q m d] w fun e w' => e = .returned (.int .i64 (Cm.cmpL A B)) ∧ w' = w := by
  have hr := run_compare9 hA hB
  clear hA hB
  go_enter Try.func30, Try.ntmps30
  go_wp2
  rw [run_callFunc_extern Try.func40 (by kernel_rfl) (by kernel_rfl) (by kernel_rfl) (e := Extern.BytealgCompare.compare) (by kernel_rfl), hr]
  simp only [Result.andThen]
  rw [Oper.upon_value]
  go_wp2
  go_ret
  exact ⟨rfl, rfl⟩
end Go.Proofs.Ytlmbicelngpgoaa.Pg

/- slices.SortFunc at digests: the library's contract, laid. -/
namespace Go.Proofs.Ytlmbicelngpgoaa.Pg
open Go.Proofs Go.Shelf

def sortRen : Go.Shelf.Ren := ⟨fun | 6 => 38 | 15 => 49 | 14 => 48 | 28 => 63 | 29 => 64 | 20 => 55 | 21 => 56 | 22 => 57 | 23 => 58 | 24 => 59 | 25 => 60 | 26 => 61 | 27 => 62 | 46 => 68 | 47 => 69 | 48 => 70 | 49 => 71 | 50 => 72 | 57 => 74 | n => n, fun | 22 => 41 | 24 => 32 | 25 => 71 | 3 => 3 | 39 => 76 | 0 => 0 | 53 => 84 | 55 => 75 | 4 => 4 | 46 => 105 | 45 => 104 | 50 => 109 | 5 => 5 | 9 => 9 | 66 => 118 | 70 => 122 | 76 => 125 | 77 => 126 | n => n, fun n => n⟩
theorem sortLays : SlLaysF0.n6 Try.prog sortRen where
  mixed := by kernel_rfl
  f6 := ⟨Try.f38.name, by kernel_rfl, Try.func38.trans (congrArg some (by kernel_rfl))⟩
  f14 := ⟨Try.f48.name, by kernel_rfl, Try.func48.trans (congrArg some (by kernel_rfl))⟩
  f15 := Try.func49.trans (congrArg some (by kernel_rfl))
  f20 := ⟨Try.f55.name, by kernel_rfl, Try.func55.trans (congrArg some (by kernel_rfl))⟩
  f21 := ⟨Try.f56.name, by kernel_rfl, Try.func56.trans (congrArg some (by kernel_rfl))⟩
  f22 := ⟨Try.f57.name, by kernel_rfl, Try.func57.trans (congrArg some (by kernel_rfl))⟩
  f23 := ⟨Try.f58.name, by kernel_rfl, Try.func58.trans (congrArg some (by kernel_rfl))⟩
  f24 := ⟨Try.f59.name, by kernel_rfl, Try.func59.trans (congrArg some (by kernel_rfl))⟩
  f25 := ⟨Try.f60.name, by kernel_rfl, Try.func60.trans (congrArg some (by kernel_rfl))⟩
  f26 := ⟨Try.f61.name, by kernel_rfl, Try.func61.trans (congrArg some (by kernel_rfl))⟩
  f27 := ⟨Try.f62.name, by kernel_rfl, Try.func62.trans (congrArg some (by kernel_rfl))⟩
  f28 := Try.func63.trans (congrArg some (by kernel_rfl))
  f29 := Try.func64.trans (congrArg some (by kernel_rfl))
  f46 := ⟨Try.f68.name, by kernel_rfl, Try.func68.trans (congrArg some (by kernel_rfl))⟩
  f47 := Try.func69.trans (congrArg some (by kernel_rfl))
  f48 := Try.func70.trans (congrArg some (by kernel_rfl))
  f49 := ⟨Try.f71.name, by kernel_rfl, Try.func71.trans (congrArg some (by kernel_rfl))⟩
  f50 := ⟨Try.f72.name, by kernel_rfl, Try.func72.trans (congrArg some (by kernel_rfl))⟩
  f57 := ⟨Try.f74.name, by kernel_rfl, Try.func74.trans (congrArg some (by kernel_rfl))⟩
  t0 := Try.underlying0
  a0 := Try.isAgg0
  z0 := Try.sizeOf0
  v0 := Try.zeroValue0
  t3 := Try.underlying3
  a3 := Try.isAgg3
  z3 := Try.sizeOf3
  v3 := Try.zeroValue3
  t4 := Try.underlying4
  a4 := Try.isAgg4
  z4 := Try.sizeOf4
  v4 := Try.zeroValue4
  t5 := Try.underlying5
  a5 := Try.isAgg5
  z5 := Try.sizeOf5
  v5 := Try.zeroValue5
  t9 := Try.underlying9
  a9 := Try.isAgg9
  z9 := Try.sizeOf9
  v9 := Try.zeroValue9
  t22 := Try.underlying41
  a22 := Try.isAgg41
  z22 := Try.sizeOf41
  v22 := Try.zeroValue41
  t25 := Try.underlying71
  a25 := Try.isAgg71
  z25 := Try.sizeOf71
  v25 := Try.zeroValue71
  t39 := Try.underlying76
  a39 := Try.isAgg76
  z39 := Try.sizeOf76
  v39 := Try.zeroValue76
  t45 := Try.underlying104
  a45 := Try.isAgg104
  z45 := Try.sizeOf104
  v45 := Try.zeroValue104
  t46 := Try.underlying105
  a46 := Try.isAgg105
  z46 := Try.sizeOf105
  v46 := Try.zeroValue105
  t50 := Try.underlying109
  a50 := Try.isAgg109
  z50 := Try.sizeOf109
  v50 := Try.zeroValue109
  t53 := Try.underlying84
  a53 := Try.isAgg84
  z53 := Try.sizeOf84
  v53 := Try.zeroValue84
  t55 := Try.underlying75
  a55 := Try.isAgg75
  z55 := Try.sizeOf75
  v55 := Try.zeroValue75
  t66 := Try.underlying118
  a66 := Try.isAgg118
  z66 := Try.sizeOf118
  v66 := Try.zeroValue118
  t70 := Try.underlying122
  a70 := Try.isAgg122
  z70 := Try.sizeOf122
  v70 := Try.zeroValue122
  t76 := Try.underlying125
  a76 := Try.isAgg125
  z76 := Try.sizeOf125
  v76 := Try.zeroValue125
  t77 := Try.underlying126
  a77 := Try.isAgg126
  z77 := Try.sizeOf126
  v77 := Try.zeroValue126
end Go.Proofs.Ytlmbicelngpgoaa.Pg

/- Package page, as it landed: the order of sums; slices.SortedFunc. -/
namespace Go.Proofs.Ytlmbicelngpgoaa.Pg
open Go.Proofs Go.RowKit Go.Sort Go.Shelf

def cfD (x y : DG) : Int := Cm.cmpL x.1 y.1
theorem ltD (x y : DG) : ltOf cfD x y = decide (Cm.val x.1 < Cm.val y.1) := by
  unfold ltOf cfD
  rw [Bool.eq_iff_iff, decide_eq_true_iff, decide_eq_true_iff]
  exact Cm.cmp_val x.1 y.1 (by rw [x.2.1, y.2.1]) x.2.2 y.2.2
theorem swoD : SWO (ltOf cfD) where
  irrefl x := by rw [ltD]; simp
  trans x y z h1 h2 := by rw [ltD] at *; simp at *; omega
  ntrans x y z h1 h2 := by rw [ltD] at *; simp at *; omega
set_option maxRecDepth 100000 in
set_option maxHeartbeats 1000000 in
theorem cmp_closure (x y : DG) (W : World) : Calls Try.prog 29 #[.agg (u8s x.1), .agg (u8s y.1)] W fun e w' => e = .returned (.int .i64 (cfD x y)) ∧ ∃ q os', w' = grow (W.drewN q) os' := by
  have h1 := heap_alloc_new W (.cells (u8s x.1) 32)
  have h2 := heap_alloc_new (W.alloc (.cells (u8s x.1) 32)) (.cells (u8s y.1) 32)
  have h3 := (((RowKit.Below.refl (W.alloc (.cells (u8s x.1) 32)).heap.size (W.alloc (.cells (u8s x.1) 32))).alloc (Nat.le_refl _) (.cells (u8s y.1) 32)).block _ (Array.getElem?_eq_some_iff.1 h1).1).trans h1
  rw [show (W.alloc (.cells (u8s x.1) 32)).heap.size = W.heap.size + 1 from by simp] at h2
  have TX := Lib.hid (dig_tx (range_of_row' h3) x.2)
  have TY := Lib.hid (dig_tx (range_of_row' h2) y.2)
  have HG := Lib.hid (show ((W.alloc (.cells (u8s x.1) 32)).alloc (.cells (u8s y.1) 32)) = grow W #[.cells (u8s x.1) 32, .cells (u8s y.1) 32] from by rw [alloc_eq_grow, alloc_eq_grow, grow_grow]; rfl)
  obtain ⟨r, hr⟩ : ∃ r, r = cfD x y := ⟨_, rfl⟩
  rw [← hr]
  have HRR := Lib.hid (show Cm.cmpL x.1 y.1 = r from hr.symm)
  clear h1 h2 h3 hr
  go_enter Try.func29, Try.ntmps29
  go_upto_region 1 with fail
  generalize (W.alloc (.cells (u8s x.1) 32)).alloc (.cells (u8s y.1) 32) = w2 at *
  refine wp_region_held_drew (S := fun w' => w'.heap = w2.heap) (by kernel_rfl) rfl (fun hHeld => ?_)
  refine wpAnyH_take (i := 0) (oi := ⟨some 5, .slice 32 (.tmp 2) none none none, _, _, _, _⟩) (v := ?_) rfl (by kernel_rfl) (by kernel_rfl) (by kernel_rfl) (fun _ _ _ h => h) (Or.inl ⟨by rfl, ?_⟩) (by assumption) ?_
  rotate_left
  · intro w' hSw
    have hds := dig_slice W.heap.size 0 w'
    go_simp
    try with_reducible rfl
  try simp only [Act.put, List.setIfInBounds_toArray, List.set_cons_zero, List.set_cons_succ]
  refine wpAnyH_take (i := 1) (oi := ⟨some 6, .slice 32 (.tmp 3) none none none, _, _, _, _⟩) (v := ?_) rfl (by kernel_rfl) (by kernel_rfl) (by kernel_rfl) (fun _ _ _ h => h) (Or.inl ⟨by rfl, ?_⟩) (by assumption) ?_
  rotate_left
  · intro w' hSw
    have hds := dig_slice (W.heap.size + 1) 0 w'
    go_simp
    try with_reducible rfl
  try simp only [Act.put, List.setIfInBounds_toArray, List.set_cons_zero, List.set_cons_succ]
  refine wpAnyH_ready (rs := [2]) (by kernel_rfl) (by simp) ?_
  refine AllReadyH.cons (o := ⟨some 7, .call ⟨.value (.func 30), #[.tmp 5, .tmp 6], #[27, 27]⟩, _, _, _, _⟩) rfl (fun K hK => ?_) AllReadyH.nil
  go_simp
  refine (bcompare_any (TX.out.heap (w' := w2.drew) rfl) (TY.out.heap (w' := w2.drew) rfl)).mono ?_
  rintro _ w7 ⟨rfl, rfl⟩
  rw [HRR.out]
  try go_wp2_with fail
  refine hK.out _ _ rfl (fun hHeld => ?_)
  clear hK K
  try simp only [Act.put, List.setIfInBounds_toArray, List.set_cons_zero, List.set_cons_succ]
  refine wpAnyH_take (i := 3) (oi := ⟨some 4, .assign (.tmp 7), _, _, _, _⟩) (v := ?_) rfl (by kernel_rfl) (by kernel_rfl) (by kernel_rfl) (fun _ _ _ h => h) (Or.inl ⟨by rfl, ?_⟩) (by assumption) ?_
  rotate_left
  · intro w' hSw
    go_simp
    try with_reducible rfl
  try simp only [Act.put, List.setIfInBounds_toArray, List.set_cons_zero, List.set_cons_succ]
  refine wpAnyH_done (by kernel_rfl) ?_ _
  go_wp2_with fail
  go_ret
  exact ⟨rfl, 1, _, by rw [HG.out]; rfl⟩
theorem cmp_lays (blk off size : Nat) (w : World) : CmpLays Try.prog 29 #[] encD 32 cfD blk off size w :=
  fun _ _ _ _ x y => cmp_closure x y _
/-! ### the row -/
theorem flatD_length (ds : List DG) : (flatD ds).length = ds.length * 32 := by
  induction ds with
  | nil => rfl
  | cons x ds ih =>
    rw [flatD, List.flatMap_cons, List.length_append, encD_length, List.length_cons]
    unfold flatD at ih
    omega
theorem flatD_at : ∀ (ds : List DG) (i j : Nat), i < ds.length → j < 32 → (flatD ds)[i * 32 + j]? = (encD (ds.getD i default))[j]?
  | [], _, _, h, _ => by simp at h
  | x :: ds, 0, j, _, hj => by
    rw [flatD, List.flatMap_cons, List.getElem?_append_left (by rw [encD_length]; omega), Nat.zero_mul, Nat.zero_add]
    rfl
  | x :: ds, i + 1, j, h, hj => by
    rw [flatD, List.flatMap_cons, List.getElem?_append_right (by rw [encD_length]; omega), encD_length, show (i + 1) * 32 + j - 32 = i * 32 + j from by omega]
    exact flatD_at ds i j (by simpa using h) hj
theorem getBang (ds : List DG) (i : Nat) (h : i < ds.length) : ds.toArray[i]! = ds.getD i default := by
  rw [getElem!_pos _ i (by simpa using h), List.getElem_toArray, List.getD_eq_getElem?_getD, List.getElem?_eq_getElem h]
  rfl
theorem holds_row {w : World} {g : Nat} {cur : Array Value} {ds : List DG} (hg : w.heap[g]? = some (.cells cur 32 (0, 0))) (ht : cur.toList.take (ds.length * 32) = flatD ds) : HoldsK encD 32 w g 0 ds.toArray := by
  intro t htl
  rw [size_flatK, List.size_toArray] at htl
  have hi : t / 32 < ds.length := by omega
  have hj : t % 32 < 32 := Nat.mod_lt _ (by omega)
  have e1 : t / 32 * 32 + t % 32 = t := by omega
  have h1 := flatD_at ds (t / 32) (t % 32) hi hj
  rw [e1, ← ht, List.getElem?_take_of_lt htl] at h1
  refine ⟨?_, frozen_of_row w g _ _ _ hg⟩
  rw [Nat.zero_add, cell_of_row w g t _ _ _ hg, get_flatK _ _ _ _ (by rw [List.size_toArray]; exact htl), getBang ds _ hi]
  have h2 : (encD (ds.getD (t / 32) default))[t % 32]? = some ((encD (ds.getD (t / 32) default))[t % 32]!) := by
    rw [List.getElem?_eq_getElem (by rw [encD_length]; exact hj), getElem!_pos _ _ (by rw [encD_length]; exact hj)]
  rw [h2, Array.getElem?_toList] at h1
  exact h1
theorem row_range {w : World} {g : Nat} {ds : List DG} (h : HoldsK encD 32 w g 0 ds.toArray) {i : Nat} (hi : i < ds.length) : w.rangeAt g (i * 32) (vals (ds.getD i default).1) := fun j u hu => by
  have hj : j < 32 := by
    have := (List.getElem?_eq_some_iff.1 hu).1
    rwa [vals_length, (ds.getD i default).2.1] at this
  have h1 := (h.cell (i := i) (c := j) (by rw [List.size_toArray]; exact hi) hj).1
  rw [Nat.zero_add] at h1
  rw [h1, getBang ds i hi, ← hu]
  show some ((encD (ds.getD i default))[j]!) = (encD (ds.getD i default))[j]?
  rw [List.getElem?_eq_getElem (by rw [encD_length]; exact hj), getElem!_pos _ _ (by rw [encD_length]; exact hj)]
theorem sorted_world {w : World} {g n : Nat} {d : Array DG} {os : Array Obj} : Dk.Only (fun k => k = g) w (sortWorldK encD 32 w g 0 n d os) := by
  refine ⟨rfl, rfl, rfl, ?_, fun k hk hn => ?_⟩
  · simp [sortWorldK, grow, putRowK, putRow, mapBlock]
  · simp only [sortWorldK, grow, putRowK, putRow, mapBlock]
    rw [Array.getElem?_append_left (by simpa using hk), Array.getElem?_modify, if_neg (fun e => hn e.symm)]
    rfl
theorem perm_of {d d' : Array DG} (h : PermIn 0 d.size d d') : d'.toList.Perm d.toList := by
  have h1 := h.2.2
  rw [Array.extract_size] at h1
  rwa [← h.1, Array.extract_size] at h1
/-- Sorted, and each once: each is less than the next. -/
theorem strict_of {d : Array DG} (hs : SortedIn (ltOf cfD) 0 d.size d) (ho : (d.toList.map (·.1)).Nodup) {k : Nat} (hk : k + 1 < d.toList.length) : Cm.cmpL ((d.toList.map (·.1)).getD k []) ((d.toList.map (·.1)).getD (k + 1) []) = -1 := by
  have hk' : k + 1 < d.size := by simpa using hk
  have h1 := hs k (k + 1) (Nat.zero_le _) (Nat.lt_succ_self _) hk'
  rw [getElem!_pos d k (by omega), getElem!_pos d (k + 1) hk'] at h1
  have e0 : (d.toList.map (·.1)).getD k [] = d[k].1 := by
    rw [List.getD_eq_getElem?_getD, List.getElem?_map, List.getElem?_eq_getElem (by simp; omega)]
    simp
  have e1 : (d.toList.map (·.1)).getD (k + 1) [] = d[k + 1].1 := by
    rw [List.getD_eq_getElem?_getD, List.getElem?_map, List.getElem?_eq_getElem (by simpa using hk')]
    simp
  rw [e0, e1]
  have hne : d[k].1 ≠ d[k + 1].1 := fun e => by
    have h2 := List.pairwise_iff_getElem.1 ho k (k + 1) (by simp; omega) (by simpa using hk') (Nat.lt_succ_self _)
    apply h2
    simpa using e
  rcases Cm.cmpL_range d[k].1 d[k + 1].1 with h | h | h
  · exact h
  · exact absurd ((Cm.cmpL_zero _ _).1 h) hne
  · exfalso
    unfold ltOf cfD at h1
    rw [Cm.cmpL_neg, h] at h1
    simp at h1
/-! ### no element -/
set_option maxHeartbeats 1000000 in
theorem ins_none (p : Option Addr) (c : Nat) (fv : Value) (w : World) : Calls Try.prog 55 #[.slice p 0 c, .int .i64 0, .int .i64 0, fv] w fun e w' => e = .returned (.tuple #[]) ∧ w' = w := by
  go_enter Try.func55, Try.ntmps55
  go_wp2_with fail
  refine wp_loop_rounds 1 ?_
  rw [rounds_succ]
  go_wp2_with fail
  go_end0
  exact ⟨rfl, rfl⟩
set_option maxHeartbeats 1000000 in
theorem pdq_none (p : Option Addr) (c : Nat) (l : Int) (fv : Value) (w : World) : Calls Try.prog 48 #[.slice p 0 c, .int .i64 0, .int .i64 0, .int .i64 l, fv] w fun e w' => e = .returned (.tuple #[]) ∧ w' = w := by
  have hi := fun W => ins_none p c fv W
  go_enter Try.func48, Try.ntmps48
  go_wp2_with fail
  refine wp_loop_rounds 1 ?_
  rw [rounds_succ]
  go_wp2_with (go_at_call 55; refine (hi _).mono ?_; rintro e w' ⟨rfl, rfl⟩)
  (try simp only [Exit.inBlock, Exit.then])
  refine bodyPost_ret (results_none rfl _ _ _) rfl ?_
  exact ⟨rfl, rfl⟩
set_option maxHeartbeats 1000000 in
theorem sort_none (p : Option Addr) (c : Nat) (fv : Value) (w : World) : Calls Try.prog 38 #[.slice p 0 c, fv] w fun e w' => e = .returned (.tuple #[]) ∧ w' = w := by
  have hp := fun l W => pdq_none p c l fv W
  have hl : ∀ W, Calls Try.prog 49 #[.int .u64 0] W fun e w' => e = .returned (.int .i64 (Lib.bitLen 0 : Nat)) ∧ w' = W := fun W =>
    Any.bits_Len (SlLaysF0.n15.bits (P := Try.prog) (ρ := sortRen) { sortLays with }) 0 W (by omega) (by omega)
  go_enter Try.func38, Try.ntmps38
  go_wp2_with (first | (go_at_call 49; refine (hl _).mono ?_; rintro e w' ⟨rfl, rfl⟩) | (go_at_call 48; refine (hp _ _).mono ?_; rintro e w' ⟨rfl, rfl⟩))
  go_end0
  exact ⟨rfl, rfl⟩
/-- slices.SortFunc at digests: the row holds the same ones, sorted. -/
theorem sort_digs (g c : Nat) (ds : List DG) (w : World) (hH : HoldsK encD 32 w g 0 ds.toArray) (hg : g < w.heap.size) (hn : ds.length ≤ 100000) :
    Calls Try.prog 38 #[.slice (some ⟨g, 0, none⟩) ds.length c, .func (.func 29) #[] #[]] w fun e w' => e = .returned (.tuple #[]) ∧
      ∃ es : List DG, es.Perm ds ∧ SortedIn (ltOf cfD) 0 es.toArray.size es.toArray ∧ HoldsK encD 32 w' g 0 es.toArray ∧ Dk.Only (fun k => k = g) w w' := by
  have h := AnyQ.slices_SortFunc sortLays 32 Try.isAgg32 Try.sizeOf32 encD encD_length (fun x => vals_one x.1) cfD swoD 29 #[] g 0 c ds.toArray w (enters_of Try.func29 (by kernel_rfl) rfl) (cmp_lays g 0 ds.toArray.size w) hH hg (by rw [List.size_toArray]; omega)
  rw [List.size_toArray] at h
  refine Calls.mono h ?_
  rintro e w' ⟨he, d', n, os, hp, hs, rfl⟩
  rw [← List.size_toArray] at hp hs
  refine ⟨he, d'.toList, perm_of hp, ?_, ?_, sorted_world⟩
  · rw [Array.toArray_toList, hp.1]
    exact hs
  · rw [Array.toArray_toList]
    exact holdsK_sortWorldK encD 32 w g 0 n ds.toArray d' os hg hH hp.1
end Go.Proofs.Ytlmbicelngpgoaa.Pg

/- Package page, as it landed: Sums. -/
namespace Go.Proofs.Ytlmbicelngpgoaa.Pg
open Go.RowKit

/-- What a sorted list of the sums is. -/
def SumsPost (w : World) (L : List Pe) (e : Ending) (w' : World) : Prop :=
  ∃ q c K, e = .returned (.slice q K.length c) ∧ Digs w' q K.length c K ∧ K.Perm (L.map (·.d)) ∧ (∀ k, k + 1 < K.length → Cm.cmpL (K.getD k []) (K.getD (k + 1) []) = -1) ∧ Below w.heap.size w w'
theorem perm_len {ds : List DG} {L : List Pe} (h : (ds.map (·.1)).Perm (L.map (·.d))) : ds.length = L.length := by
  have := h.length_eq
  simpa using this
set_option maxRecDepth 100000 in
set_option maxHeartbeats 1000000 in
theorem sortedFunc_any (Bm : Nat) (mp : Option Nat) (L : List Pe) (w : World) (hm : w.cell? ⟨Bm, 0, none⟩ = some (.map mp)) (hL : MapL w mp L) (hn : L.length ≤ 100000) (hone : (L.map (·.d)).Nodup) :
    Calls Try.prog 27 #[.func (.func 39) #[] #[.pointer (some ⟨Bm, 0, none⟩)], .func (.func 29) #[] #[]] w (SumsPost w L) := by
  have h := collect_any Bm mp L w hm hL hn
  clear hm hL
  go_enter Try.func27, Try.ntmps27
  go_wp2_with fail
  refine h.mono ?_
  rintro _ w1 ⟨v, ds, rfl, hp, ho, hb⟩
  have HP := Lib.hid hp
  have HB := Lib.hid hb
  have hlen : ds.length ≤ 100000 := by rw [perm_len hp]; exact hn
  have HO1 := Lib.hid hone
  have HO := Lib.hid ho
  clear h hp hb hone
  rcases ho.2 with ⟨rfl, h0⟩ | ⟨g, cap, cur, rfl, hbg, hg, hnc, hcm, hcs, ht⟩
  · obtain rfl : ds = [] := List.length_eq_zero_iff.1 h0
    clear ho h0
    have hs := fun fv W => sort_none none 0 fv W
    go_wp2_with fail
    refine (hs _ _).mono ?_
    rintro _ w2 ⟨rfl, rfl⟩
    clear hs
    go_wp2_with fail
    go_ret
    exact ⟨none, 0, [], rfl, Digs.nil _, HP.out, (fun k hk => by simp at hk), HB.out⟩
  · have hH := holds_row hg ht
    have hgl : g < w1.heap.size := (Array.getElem?_eq_some_iff.1 hg).1
    have hs := sort_digs g cap ds w1 hH hgl hlen
    have HBG := Lib.hid hbg
    have HNC := Lib.hid hnc
    clear ho hg ht hH hcm hcs hbg hnc
    go_wp2_with fail
    refine hs.mono ?_
    rintro _ w2 ⟨rfl, es, hpe, hso, hh, hon⟩
    have HPE := Lib.hid hpe
    have HSO := Lib.hid hso
    have HH := Lib.hid hh
    have HON := Lib.hid hon
    clear hs hpe hso hh hon
    go_wp2_with fail
    go_ret
    have hl2 : es.length = ds.length := HPE.out.length_eq
    have hpp : (es.map (·.1)).Perm (L.map (·.d)) := (HPE.out.map _).trans HP.out
    refine ⟨_, cap, es.map (·.1), by rw [List.length_map, hl2]; rfl, ⟨rfl, by rw [List.length_map, hl2]; exact HNC.out, ?_, fun _ => ⟨g, 0, rfl, fun i hi => ?_⟩⟩, hpp, fun k hk => ?_, HB.out.trans (HON.out.below HB.out.size (fun k e => by rw [e]; exact HBG.out))⟩
    · intro d hd
      obtain ⟨x, _, rfl⟩ := List.mem_map.1 hd
      exact x.2
    · have hi' : i < es.length := by simpa using hi
      have h1 := row_range HH.out hi'
      rw [Nat.zero_add]
      rw [show (es.map (·.1)).getD i [] = (es.getD i default).1 from by
        rw [List.getD_eq_getElem?_getD, List.getD_eq_getElem?_getD, List.getElem?_map, List.getElem?_eq_getElem hi']
        rfl]
      exact h1
    · have h1 := strict_of (d := es.toArray) HSO.out (by rw [List.toList_toArray]; exact hpp.nodup_iff.2 HO1.out) (k := k) (by rw [List.toList_toArray]; simpa using hk)
      rwa [List.toList_toArray] at h1
set_option maxRecDepth 100000 in
set_option maxHeartbeats 1000000 in
theorem sums_any {w : World} {g : Nat} {Q : Nat → Prop} {s : S} (h : PL w g Q s) (hsm : s.W.length < 100000) :
    Calls Try.prog 16 #[.pointer (some ⟨g, 0, none⟩)] w fun e w' => ∃ q c L, e = .returned (.slice q L.length c) ∧ Digs w' q L.length c L ∧ L.length = s.W.length ∧ (∀ d ∈ L, d ∈ s.W.map (·.1)) ∧ (∀ k, k + 1 < L.length → Cm.cmpL (L.getD k []) (L.getD (k + 1) []) = -1) ∧ Below w.heap.size w w' := by
  obtain ⟨mp, cl, h⟩ := h
  have c0 := h.c0
  have hb := (Below.refl w.heap.size w).alloc (Nat.le_refl _) (.cells #[.map mp] 55)
  obtain ⟨L, hLW, hML⟩ : ∃ L, pagesOf L = s.W ∧ MapL (w.alloc (.cells #[.map mp] 55)) mp L := by
    rcases (h.later hb).pages with ⟨h1, h2⟩ | ⟨b, L, h1, h2, h3⟩
    · exact ⟨[], by rw [h2]; rfl, Or.inl ⟨h1, rfl⟩⟩
    · obtain ⟨D, hm, hr⟩ := h3.map
      exact ⟨L, h2, Or.inr ⟨b, D, h1, hm, hr⟩⟩
  have hone : (L.map (·.d)).Nodup := by
    have := h.ok.one
    rwa [← hLW, pagesOf_fst] at this
  have hcl : (w.alloc (.cells #[.map mp] 55)).cell? ⟨w.heap.size, 0, none⟩ = some (.map mp) := (cell_of_row _ w.heap.size 0 _ _ _ (heap_alloc_new w (.cells #[.map mp] 55))).trans rfl
  have hs := sortedFunc_any w.heap.size mp L _ hcl hML (by rw [← pagesOf_length, hLW]; omega) hone
  have HS := Lib.hid hs
  have HB := Lib.hid hb
  have HLW := Lib.hid hLW
  have hk := keys_any mp w
  clear h hb hLW hML hone hcl hs
  go_enter Try.func16, Try.ntmps16
  go_wp2_with fail
  refine hk.mono ?_
  rintro _ w1 ⟨rfl, rfl⟩
  clear hk
  go_wp2_with fail
  refine HS.out.mono ?_
  rintro _ w2 ⟨q, c, K, rfl, h1, h2, h3, h4⟩
  have HX := Lib.hid (And.intro h1 (And.intro h2 (And.intro h3 h4)))
  clear h1 h2 h3 h4
  go_wp2_with fail
  go_ret
  refine ⟨q, c, K, rfl, HX.out.1, ?_, ?_, HX.out.2.2.1, HB.out.trans (HX.out.2.2.2.mono HB.out.size)⟩
  · rw [HX.out.2.1.length_eq, ← HLW.out, pagesOf_length, List.length_map]
  · intro d hd
    rw [← HLW.out, pagesOf_fst]
    exact HX.out.2.1.mem_iff.1 hd
end Go.Proofs.Ytlmbicelngpgoaa.Pg

/- Package page, as it landed: a look-up, Has. -/
namespace Go.Proofs.Ytlmbicelngpgoaa.Pg
open Go.RowKit

theorem zeroTx (w : World) : (zeroValue 27).run Try.prog w = .ok (.slice none 0 0) w := by kernel_rfl
/-- 'b, ok := s.pages[d]'. -/
theorem look_any {Q : Nat → Prop} {w : World} {mp : Option Nat} {W : Pages} (h : MapsAt Q w mp W) {d : List Nat} (hd : d.length = 32) (ho : Sm.allB d) :
    ∃ p m c, (∀ w', w'.heap = w.heap → (Instr.lookup 55 (.map mp) (.agg (u8s d)) true).run Try.prog w' = .ok (.tuple #[.slice p m c, .bool (decide (idx d W < W.length))]) w') ∧
      (textAt W d = none → p = none ∧ m = 0 ∧ c = 0) ∧ ∀ t, textAt W d = some t → TQ Q w p m c t := by
  rcases h with ⟨rfl, rfl⟩ | ⟨b, L, rfl, rfl, hM⟩
  · refine ⟨none, 0, 0, fun w' _ => ?_, fun _ => ⟨rfl, rfl, rfl⟩, fun t ht => by simp [textAt] at ht⟩
    have := Go.Maps.look_nil (w := w') true keyD UST (zeroTx w') (klit_of hd ho)
    simpa using this
  · obtain ⟨D, hm, hr⟩ := hM.map
    have hh := hr.has hd ho
    by_cases hi : idx d (pagesOf L) < (pagesOf L).length
    · obtain ⟨e, he, hed, ha, ht⟩ := hr.got hi
      refine ⟨e.q, e.m, e.c, fun w' hw => ?_, fun h0 => (by rw [ht] at h0; cases h0), fun t h0 => ?_⟩
      · obtain ⟨v, ps, hrun, hv⟩ := (map_keep (w' := w') hm (by rw [hw])).look_ok keyD UST (zeroTx w') (zd := .held (.slice none 0 0)) rfl (klit_of hd ho)
        rw [ha] at hv
        obtain ⟨p, m, c, rfl, hz⟩ := sliceR_inv hv
        have h1 : DataW.held e.hd = DataW.held (.slice p m c) := congrArg Prod.fst hz
        have h2 : e.hd = .slice p m c := DataW.held.inj h1
        rw [hrun, hh, ← h2]
        rfl
      · rw [ht] at h0
        cases h0
        exact hM.text e he
    · refine ⟨none, 0, 0, fun w' hw => ?_, fun _ => ⟨rfl, rfl, rfl⟩, fun t h0 => (by rw [textAt_none hi] at h0; cases h0)⟩
      obtain ⟨v, ps, hrun, hv⟩ := (map_keep (w' := w') hm (by rw [hw])).look_ok keyD UST (zeroTx w') (zd := .held (.slice none 0 0)) rfl (klit_of hd ho)
      rw [Go.Maps.atKey_of_not_has (by rw [hh]; exact decide_eq_false hi)] at hv
      obtain ⟨p, m, c, rfl, hz⟩ := sliceR_inv hv
      have h1 : DataW.held (Value.slice none 0 0) = DataW.held (.slice p m c) := congrArg Prod.fst hz
      have h2 : Value.slice none 0 0 = .slice p m c := DataW.held.inj h1
      rw [hrun, hh, ← h2]
theorem op_look {ρ : Operand → Value} {o : Oper} {m x : Operand} {w : World} {mp : Option Nat} {d : List Nat} {u : Value} (ho : o.op = .lookup 55 m x true) (hm : ρ m = .map mp) (hx : ρ x = .agg (u8s d))
    (hr : (Instr.lookup 55 (.map mp) (.agg (u8s d)) true).run Try.prog w = .ok u w) : (execOp ρ o).run Try.prog w = .ok (.value u) w := by
  unfold execOp
  simp only [ho, hm, hx, hr, Sem.run_bind, Sem.run_pure, Result.andThen_ok]
set_option maxRecDepth 100000 in
set_option maxHeartbeats 1000000 in
theorem has_any {w : World} {g : Nat} {Q : Nat → Prop} {s : S} (h : PL w g Q s) (d : List Nat) (hd : d.length = 32) (ho : Sm.allB d) :
    Calls Try.prog 11 #[.pointer (some ⟨g, 0, none⟩), .agg (u8s d)] w fun e w' => e = .returned (.bool (decide (idx d s.W < s.W.length))) ∧ Below w.heap.size w w' := by
  obtain ⟨mp, cl, h⟩ := h
  have hb := (Below.refl w.heap.size w).alloc (Nat.le_refl _) (.cells (u8s d) 32)
  obtain ⟨pp, mm, cc, hl, -, -⟩ := look_any (h.later hb).pages hd ho
  have HB := Lib.hid hb
  have R1 := Lib.hid (heap_alloc_new w (.cells (u8s d) 32))
  have C0 := Lib.hid (h.later hb).c0
  have HL := Lib.hid hl
  have HD := Lib.hid hd
  clear h hb hl hd
  generalize decide (idx d s.W < s.W.length) = r at *
  go_enter Try.func11, Try.ntmps11
  go_wp2_with fail
  generalize w.alloc (.cells (u8s d) 32) = w1 at *
  generalize hbk : w.heap.size = bk at *
  go_upto_region 1 with fail
  refine wp_region_held_drew (S := fun w' => w'.heap = w1.heap) (by kernel_rfl) rfl (fun hHeld => ?_)
  refine wpAnyH_take (i := 0) (oi := ⟨some 8, .move (.tmp 0), _, _, _, _⟩) (v := ?_) rfl (by kernel_rfl) (by kernel_rfl) (by kernel_rfl) (fun _ _ _ h => h) (Or.inl ⟨by rfl, ?_⟩) (by assumption) ?_
  rotate_left
  · intro w' hSw
    go_simp
    try with_reducible rfl
  try simp only [Act.put, List.setIfInBounds_toArray, List.set_cons_zero, List.set_cons_succ]
  refine wpAnyH_take (i := 1) (oi := ⟨some 9, .nilCheck (.tmp 8), _, _, _, _⟩) (v := ?_) rfl (by kernel_rfl) (by kernel_rfl) (by kernel_rfl) (fun _ _ _ h => h) (Or.inl ⟨by rfl, ?_⟩) (by assumption) ?_
  rotate_left
  · intro w' hSw
    go_simp
    try with_reducible rfl
  try simp only [Act.put, List.setIfInBounds_toArray, List.set_cons_zero, List.set_cons_succ]
  refine wpAnyH_take (i := 2) (oi := ⟨some 10, .fieldAddr 58 (.tmp 9) 0, _, _, _, _⟩) (v := ?_) rfl (by kernel_rfl) (by kernel_rfl) (by kernel_rfl) (fun _ _ _ h => h) (Or.inl ⟨by rfl, ?_⟩) (by assumption) ?_
  rotate_left
  · intro w' hSw
    go_simp
    try with_reducible rfl
  try simp only [Act.put, List.setIfInBounds_toArray, List.set_cons_zero, List.set_cons_succ]
  refine wpAnyH_take (i := 3) (oi := ⟨some 11, .load 55 (.tmp 10), _, _, _, _⟩) (v := ?_) rfl (by kernel_rfl) (by kernel_rfl) (by kernel_rfl) (fun _ _ _ h => h) (Or.inl ⟨by rfl, ?_⟩) (by assumption) ?_
  rotate_left
  · intro w' hSw
    have c0 := (World.cell?_of_block (w := w1) (a := ⟨g, 0, none⟩) (by rw [hSw])).trans C0.out
    go_simp
    try with_reducible rfl
  try simp only [Act.put, List.setIfInBounds_toArray, List.set_cons_zero, List.set_cons_succ]
  refine wpAnyH_take (i := 4) (oi := ⟨some 12, .load 32 (.tmp 3), _, _, _, _⟩) (v := ?_) rfl (by kernel_rfl) (by kernel_rfl) (by kernel_rfl) (fun _ _ _ h => h) (Or.inl ⟨by rfl, ?_⟩) (by assumption) ?_
  rotate_left
  · intro w' hSw
    refine Eq.trans (b := Result.ok (Next.value (.agg (u8s d))) w') ?_ ?_
    · exact op_load_dig (by rfl) (by rfl) HD.out (range_of_row' ((congrArg (fun h => h[bk]?) hSw).trans R1.out))
    · with_reducible rfl
  try simp only [Act.put, List.setIfInBounds_toArray, List.set_cons_zero, List.set_cons_succ]
  refine wpAnyH_take (i := 5) (oi := ⟨some 13, .lookup 55 (.tmp 11) (.tmp 12) true, _, _, _, _⟩) (v := ?_) rfl (by kernel_rfl) (by kernel_rfl) (by kernel_rfl) (fun _ _ _ h => h) (Or.inl ⟨by rfl, ?_⟩) (by assumption) ?_
  rotate_left
  · intro w' hSw
    refine Eq.trans (b := Result.ok (Next.value (.tuple #[.slice pp mm cc, .bool r])) w') ?_ ?_
    · exact op_look (by rfl) (by rfl) (by rfl) (HL.out w' hSw)
    · with_reducible rfl
  try simp only [Act.put, List.setIfInBounds_toArray, List.set_cons_zero, List.set_cons_succ]
  refine wpAnyH_take (i := 6) (oi := ⟨some 7, .move (.tmp 13), _, _, _, _⟩) (v := ?_) rfl (by kernel_rfl) (by kernel_rfl) (by kernel_rfl) (fun _ _ _ h => h) (Or.inl ⟨by rfl, ?_⟩) (by assumption) ?_
  rotate_left
  · intro w' hSw
    go_simp
    try with_reducible rfl
  try simp only [Act.put, List.setIfInBounds_toArray, List.set_cons_zero, List.set_cons_succ]
  refine wpAnyH_take (i := 7) (oi := ⟨some 14, .extract (.tmp 7) 0, _, _, _, _⟩) (v := ?_) rfl (by kernel_rfl) (by kernel_rfl) (by kernel_rfl) (fun _ _ _ h => h) (Or.inl ⟨by rfl, ?_⟩) (by assumption) ?_
  rotate_left
  · intro w' hSw
    go_simp
    try with_reducible rfl
  try simp only [Act.put, List.setIfInBounds_toArray, List.set_cons_zero, List.set_cons_succ]
  refine wpAnyH_take (i := 8) (oi := ⟨some 15, .extract (.tmp 7) 1, _, _, _, _⟩) (v := ?_) rfl (by kernel_rfl) (by kernel_rfl) (by kernel_rfl) (fun _ _ _ h => h) (Or.inl ⟨by rfl, ?_⟩) (by assumption) ?_
  rotate_left
  · intro w' hSw
    go_simp
    try with_reducible rfl
  try simp only [Act.put, List.setIfInBounds_toArray, List.set_cons_zero, List.set_cons_succ]
  refine wpAnyH_take (i := 9) (oi := ⟨some 5, .assign (.tmp 14), _, _, _, _⟩) (v := ?_) rfl (by kernel_rfl) (by kernel_rfl) (by kernel_rfl) (fun _ _ _ h => h) (Or.inl ⟨by rfl, ?_⟩) (by assumption) ?_
  rotate_left
  · intro w' hSw
    go_simp
    try with_reducible rfl
  try simp only [Act.put, List.setIfInBounds_toArray, List.set_cons_zero, List.set_cons_succ]
  refine wpAnyH_take (i := 10) (oi := ⟨some 6, .assign (.tmp 15), _, _, _, _⟩) (v := ?_) rfl (by kernel_rfl) (by kernel_rfl) (by kernel_rfl) (fun _ _ _ h => h) (Or.inl ⟨by rfl, ?_⟩) (by assumption) ?_
  rotate_left
  · intro w' hSw
    go_simp
    try with_reducible rfl
  try simp only [Act.put, List.setIfInBounds_toArray, List.set_cons_zero, List.set_cons_succ]
  refine wpAnyH_done (by kernel_rfl) ?_ _
  go_wp2_with fail
  go_ret
  exact ⟨rfl, by rw [hbk]; exact HB.out.drew⟩
end Go.Proofs.Ytlmbicelngpgoaa.Pg

/- Package page, as it landed: add. -/
namespace Go.Proofs.Ytlmbicelngpgoaa.Pg
open Go.RowKit

theorem only_turned {w w' : World} {b : Nat} (h : w.mapTurned w' b) : Dk.Only (fun j => j = b) w w' := by
  have hg := h.grown
  exact ⟨hg.os, hg.tape, hg.output, hg.size, fun k hk hn => hg.block k hk (fun e => hn (Option.some.inj e))⟩
theorem wp_mapStore {w : World} {o : Oper} {a : Act} {K : Act → World → Prop} {Q : Exit → Act → World → Prop} (m x v : Operand) (ho : o.op = .mapUpdate 55 m x v) {b n : Nat} {D : DataW Value} (hm : a.eval m = .map (some b))
    (hown : w.ownsMap Try.prog 32 sliceR b n D) (hn : n < maxLen) {d : List Nat} {p : Option Addr} {l c : Nat} (hx : a.eval x = .agg (u8s d)) (hv : a.eval v = .slice p l c) (hd : d.length = 32) (hdo : Sm.allB d)
    (h : ∀ w', w'.ownsMap Try.prog 32 sliceR b (n + 1) (D.put (klit d) (.held (.slice p l c))) → w.mapTurned w' b → K (a.put o.dst undef) w') : o.wp Try.prog a w K Q := by
  obtain ⟨w', hrun, r1, r2⟩ := hown.store keyD UST hn (klit_of hd hdo) (val := .slice p l c) rfl
  unfold Oper.wp
  simp [execOp, ho, hm, hx, hv, hrun, Result.andThen]
  exact h w' r1 r2
theorem run_eql_map_nil (mp : Option Nat) (w : World) : (binOp .eql 55 (.map mp) (.map none)).run Try.prog w = .ok (.bool mp.isNone) w := by
  cases mp <;> kernel_rfl
section
variable {Q QX : Nat → Prop} {w w' : World} {g b : Nat} {cl : Option Addr} {s : S} {L : List Pe} {D : DataW Value} {e : Pe}
theorem SAt.stored (h : SAt Q w g (some b) cl s) (hM : MapAt Q w b L) (hW : pagesOf L = s.W) (hr : Reads D L) (hown : w.ownsMap Try.prog 32 sliceR b L.length D)
    (hown' : w'.ownsMap Try.prog 32 sliceR b (L.length + 1) (D.put (klit e.d) (.held e.hd))) (ho : Dk.Only (fun j => j = b) w w') (hd : e.d.length = 32) (hdo : Sm.allB e.d) (hn : e.d ∉ L.map (·.d))
    (ht : TQ QX w e.q e.m e.c e.b) (hlt : ∀ k, QX k → k < w.heap.size) (hok : S.ok ⟨s.W ++ [(e.d, e.b)], s.cl⟩) : SAt (fun k => Q k ∨ QX k) w' g (some b) cl ⟨s.W ++ [(e.d, e.b)], s.cl⟩ := by
  obtain ⟨es, ck, hb, -⟩ := hown
  have hg : g < w.heap.size := h.lt g h.mine
  refine ⟨(ho.block g hg (fun e => ?_)).trans h.row, Or.inr ⟨b, L ++ [e], rfl, by rw [← hW]; simp [pagesOf], ⟨Or.inl hM.mine, ⟨_, ?_, hr.put hd hdo hn⟩, fun x hx => ?_⟩⟩, (h.clash.turn_map hb ho).wide (fun _ k => Or.inl k), Or.inl h.mine, fun k hk => ?_, hok⟩
  · have := h.row
    rw [e, hb] at this
    cases this
  · rw [List.length_append]
    exact hown'
  · rcases List.mem_append.1 hx with hx | hx
    · exact ((hM.text x hx).turn ho (fun z hz hz' => text_not_map (hM.text x hx).tx hz hz' hb)).wide (fun _ k => Or.inl k)
    · rw [List.mem_singleton.1 hx]
      exact (ht.turn ho (fun z hz hz' => text_not_map ht.tx hz hz' hb)).wide (fun _ k => Or.inr k)
  · exact Nat.lt_of_lt_of_le (hk.elim (h.lt k) (hlt k)) ho.size
theorem SAt.f0 {mp : Option Nat} (h : SAt Q w g mp cl s) : w.frozen? ⟨g, 0, none⟩ = false := frozen_of_row w g 0 _ _ h.row
/-- The map is made. -/
theorem SAt.mapped (h : SAt Q w g none cl s) : s.W = [] ∧ SAt (fun k => Q k ∨ k = w.heap.size) ((w.alloc (.map #[] 0)).setCell ⟨g, 0, none⟩ (.map (some w.heap.size))) g (some w.heap.size) cl s ∧
    MapAt (fun k => Q k ∨ k = w.heap.size) ((w.alloc (.map #[] 0)).setCell ⟨g, 0, none⟩ (.map (some w.heap.size))) w.heap.size [] ∧
    ((w.alloc (.map #[] 0)).setCell ⟨g, 0, none⟩ (.map (some w.heap.size))).ownsMap Try.prog 32 sliceR w.heap.size 0 (.map []) ∧
    Dk.Only (fun j => j = g) w ((w.alloc (.map #[] 0)).setCell ⟨g, 0, none⟩ (.map (some w.heap.size))) := by
  have hg : g < w.heap.size := h.lt g h.mine
  have hW : s.W = [] := by
    rcases h.pages with ⟨_, h1⟩ | ⟨b, L, h1, _⟩
    · exact h1
    · cases h1
  have hb := (Below.refl w.heap.size w).alloc (Nat.le_refl _) (.map #[] 0)
  have h1 := h.later hb
  have hset := Dk.Only.setCell (P := fun j => j = g) (w.alloc (.map #[] 0)) (a := ⟨g, 0, none⟩) rfl (.map (some w.heap.size))
  have hsz := hset.size
  rw [World.size_alloc] at hsz
  have hrow := heap_setCell_same (w.alloc (.map #[] 0)) g 0 _ _ (.map (some w.heap.size)) h1.row
  have hown := map_keep (World.ownsMap_made w Try.prog 32 sliceR) (hset.block w.heap.size (by simp) (by omega))
  have hM : MapAt (fun k => Q k ∨ k = w.heap.size) ((w.alloc (.map #[] 0)).setCell ⟨g, 0, none⟩ (.map (some w.heap.size))) w.heap.size [] := ⟨Or.inr rfl, ⟨_, hown, Reads.nil⟩, fun e he => by cases he⟩
  refine ⟨hW, ⟨hrow, Or.inr ⟨_, _, rfl, by rw [hW]; rfl, hM⟩, ?_, Or.inl h.mine, ?_, h.ok⟩, hM, hown, (Dk.Only.of_below _ hb).trans hset⟩
  · exact (h1.clash.turn_row h1.row hset).wide (fun _ k => Or.inl k)
  · intro k hk
    rcases hk with hk | rfl
    · have := h.lt k hk; omega
    · omega
end
theorem only_old {P Q : Nat → Prop} {w w' : World} (h : Dk.Only P w w') (hp : ∀ k, P k → Q k ∨ w.heap.size ≤ k) : Dk.Only Q w w' :=
  ⟨h.os, h.tape, h.output, h.size, fun k hk hn => h.block k hk (fun e => (hp k e).elim hn (fun h2 => absurd hk (Nat.not_lt.2 h2)))⟩
/-- What add leaves. -/
def AddPost (Q QX : Nat → Prop) (w : World) (g : Nat) (cl : Option Addr) (s : S) (d b : List Nat) (w' : World) : Prop :=
  (∃ mp', SAt (fun k => Q k ∨ QX k ∨ w.heap.size ≤ k ∧ k < w'.heap.size) w' g mp' cl ⟨s.W ++ [(d, b)], s.cl⟩) ∧ Dk.Only Q w w'
theorem SAt.wide {Q Q' : Nat → Prop} {w : World} {g : Nat} {mp : Option Nat} {cl : Option Addr} {s : S} (h : SAt Q w g mp cl s) (hq : ∀ k, Q k → Q' k) (hl : ∀ k, Q' k → k < w.heap.size) : SAt Q' w g mp cl s :=
  ⟨h.row, h.pages.wide hq, h.clash.wide hq, hq _ h.mine, hl, h.ok⟩
set_option maxRecDepth 100000 in
set_option maxHeartbeats 1000000 in
theorem add_any {Q QX : Nat → Prop} {w : World} {g : Nat} {mp : Option Nat} {cl : Option Addr} {s : S} (h : SAt Q w g mp cl s) {d b : List Nat} (hd : d.length = 32) (hdo : Sm.allB d) (hn : ¬ idx d s.W < s.W.length) {q : Option Addr} {m c : Nat} (ht : TQ QX w q m c b)
    (hlt : ∀ k, QX k → k < w.heap.size) (hok : S.ok ⟨s.W ++ [(d, b)], s.cl⟩) (hsm : s.W.length < 100000) :
    Calls Try.prog 25 #[.pointer (some ⟨g, 0, none⟩), .agg (u8s d), .slice q m c] w fun e w' => e = .returned (.tuple #[]) ∧ AddPost Q QX w g cl s d b w' := by
  have hb0 := (Below.refl w.heap.size w).alloc (Nat.le_refl _) (.cells (u8s d) 32)
  have h1 := h.later hb0
  have HB := Lib.hid hb0
  have R1 := Lib.hid (heap_alloc_new w (.cells (u8s d) 32))
  have HD := Lib.hid hd
  have HT := Lib.hid (TQ.keep (w' := w.alloc (.cells (u8s d) 32)) ht (fun k hk => hb0.block k (hlt k hk)))
  have HGB := Lib.hid (show g < w.heap.size from h.lt g h.mine)
  have HLT := Lib.hid hlt
  have HQL := Lib.hid h.lt
  have HOK := Lib.hid hok
  have HQG := Lib.hid h.mine
  clear hb0 hd ht hlt hok
  cases mp with
  | some bm =>
    obtain ⟨L, hW, hM⟩ : ∃ L, pagesOf L = s.W ∧ MapAt Q (w.alloc (.cells (u8s d) 32)) bm L := by
      rcases h1.pages with ⟨h2, _⟩ | ⟨b', L, h2, h3, h4⟩
      · cases h2
      · cases h2; exact ⟨L, h3, h4⟩
    obtain ⟨D, hown, hr⟩ := hM.map
    have hln : L.length < 100000 := by rw [← hW, pagesOf_length] at hsm; exact hsm
    have HN := Lib.hid (show d ∉ L.map (·.d) from fun hm => hn (by rw [idx_mem, ← hW, pagesOf_fst]; exact hm))
    have C0 := Lib.hid h1.c0
    have c0 := h1.c0
    have H1 := Lib.hid h1
    have HM := Lib.hid hM
    have HW := Lib.hid hW
    have HR := Lib.hid hr
    have HO := Lib.hid hown
    clear h h1 hM hW hr hown hn
    have qn := fun w' => run_eql_map_nil (some bm) w'
    simp only [Option.isNone_some] at qn
    go_enter Try.func25, Try.ntmps25
    go_wp2_with fail
    generalize w.alloc (.cells (u8s d) 32) = w1 at *
    generalize hbk : w.heap.size = bk at *
    go_upto_region 3 with fail
    refine wp_region_held_drew (S := fun w' => w'.cell? ⟨g, 0, none⟩ = some (.map (some bm)) ∧ w'.heap[bk]? = some (.cells (u8s d) 32 (0, 0))) (by kernel_rfl) ⟨C0.out, R1.out⟩ (fun hHeld => ?_)
    refine wpAnyH_take (i := 0) (oi := ⟨some 15, .move (.tmp 0), _, _, _, _⟩) (v := ?_) rfl (by kernel_rfl) (by kernel_rfl) (by kernel_rfl) (fun _ _ _ h => h) (Or.inl ⟨by rfl, ?_⟩) (by assumption) ?_
    rotate_left
    · intro w' hSw
      go_simp
      try with_reducible rfl
    try simp only [Act.put, List.setIfInBounds_toArray, List.set_cons_zero, List.set_cons_succ]
    refine wpAnyH_take (i := 1) (oi := ⟨some 16, .nilCheck (.tmp 15), _, _, _, _⟩) (v := ?_) rfl (by kernel_rfl) (by kernel_rfl) (by kernel_rfl) (fun _ _ _ h => h) (Or.inl ⟨by rfl, ?_⟩) (by assumption) ?_
    rotate_left
    · intro w' hSw
      go_simp
      try with_reducible rfl
    try simp only [Act.put, List.setIfInBounds_toArray, List.set_cons_zero, List.set_cons_succ]
    refine wpAnyH_take (i := 2) (oi := ⟨some 17, .fieldAddr 58 (.tmp 16) 0, _, _, _, _⟩) (v := ?_) rfl (by kernel_rfl) (by kernel_rfl) (by kernel_rfl) (fun _ _ _ h => h) (Or.inl ⟨by rfl, ?_⟩) (by assumption) ?_
    rotate_left
    · intro w' hSw
      go_simp
      try with_reducible rfl
    try simp only [Act.put, List.setIfInBounds_toArray, List.set_cons_zero, List.set_cons_succ]
    refine wpAnyH_take (i := 3) (oi := ⟨some 18, .load 55 (.tmp 17), _, _, _, _⟩) (v := ?_) rfl (by kernel_rfl) (by kernel_rfl) (by kernel_rfl) (fun _ _ _ h => h) (Or.inl ⟨by rfl, ?_⟩) (by assumption) ?_
    rotate_left
    · intro w' hSw
      have c0 := hSw.1
      go_simp
      try with_reducible rfl
    try simp only [Act.put, List.setIfInBounds_toArray, List.set_cons_zero, List.set_cons_succ]
    refine wpAnyH_take (i := 4) (oi := ⟨some 19, .load 32 (.tmp 4), _, _, _, _⟩) (v := ?_) rfl (by kernel_rfl) (by kernel_rfl) (by kernel_rfl) (fun _ _ _ h => h) (Or.inl ⟨by rfl, ?_⟩) (by assumption) ?_
    rotate_left
    · intro w' hSw
      refine Eq.trans (b := Result.ok (Next.value (.agg (u8s d))) w') ?_ ?_
      · exact op_load_dig (by rfl) (by rfl) HD.out (range_of_row' hSw.2)
      · with_reducible rfl
    try simp only [Act.put, List.setIfInBounds_toArray, List.set_cons_zero, List.set_cons_succ]
    refine wpAnyH_take (i := 5) (oi := ⟨some 20, .move (.tmp 2), _, _, _, _⟩) (v := ?_) rfl (by kernel_rfl) (by kernel_rfl) (by kernel_rfl) (fun _ _ _ h => h) (Or.inl ⟨by rfl, ?_⟩) (by assumption) ?_
    rotate_left
    · intro w' hSw
      go_simp
      try with_reducible rfl
    try simp only [Act.put, List.setIfInBounds_toArray, List.set_cons_zero, List.set_cons_succ]
    refine wpAnyH_ready (rs := [6]) (by kernel_rfl) (by simp) ?_
    refine AllReadyH.cons (o := ⟨none, .mapUpdate 55 (.tmp 18) (.tmp 19) (.tmp 20), _, _, _, _⟩) rfl (fun K hK => ?_) AllReadyH.nil
    refine wp_mapStore (.tmp 18) (.tmp 19) (.tmp 20) (by rfl) (by rfl) HO.out (by unfold maxLen; omega) (by rfl) (by rfl) HD.out hdo (fun w3 hown3 hturn3 => ?_)
    have hot := only_turned hturn3
    have O3 := Lib.hid (show Dk.Only (fun j => j = bm) w1 w3 from ⟨hot.os, hot.tape, hot.output, hot.size, hot.block⟩)
    clear hot
    have HO3 := Lib.hid hown3
    obtain ⟨es0, ck0, hb0, -⟩ := HO.out
    have S3 : w3.cell? ⟨g, 0, none⟩ = some (.map (some bm)) ∧ w3.heap[bk]? = some (.cells (u8s d) 32 (0, 0)) := by
      have hgr := H1.out.row
      have e1 : g ≠ bm := fun e => by rw [e, hb0] at hgr; cases hgr
      have e2 : bk ≠ bm := fun e => by have h := R1.out; rw [e, hb0] at h; cases h
      exact ⟨(World.cell?_of_block (w := w1) (a := ⟨g, 0, none⟩) (O3.out.block g (Array.getElem?_eq_some_iff.1 hgr).1 e1)).trans C0.out, (O3.out.block bk (Array.getElem?_eq_some_iff.1 R1.out).1 e2).trans R1.out⟩
    clear hown3 hturn3 hb0
    refine hK.out _ _ S3 (fun hHeld => ?_)
    clear hK K
    try simp only [Act.put]
    refine wpAnyH_done (by kernel_rfl) ?_ _
    go_wp2_with fail
    go_end0
    have SS := H1.out.stored (e := ⟨d, q, m, c, b⟩) HM.out HW.out HR.out HO.out HO3.out O3.out HD.out hdo HN.out HT.out (fun k hk => Nat.lt_of_lt_of_le (HLT.out k hk) (hbk ▸ HB.out.size)) HOK.out
    have hz3 := O3.out.size
    exact ⟨rfl, ⟨_, SS.wide (fun k hk => hk.elim Or.inl (fun e => Or.inr (Or.inl e))) (fun k hk => by
      have h0 := HB.out.size
      rcases hk with hk | hk | hk
      · have := HQL.out k hk; omega
      · have := HLT.out k hk; omega
      · exact hk.2)⟩, ((Dk.Only.of_below _ (by rw [hbk]; exact HB.out)).trans (O3.out.mono (fun k e => by rw [e]; exact HM.out.mine)))⟩
  | none =>
    have hbg : (w.alloc (.cells (u8s d) 32)).heap.size = w.heap.size + 1 := by simp
    obtain ⟨hW, h2, hM, hown, ho2⟩ := h1.mapped
    have hN : d ∉ ([] : List Pe).map (·.d) := by simp
    have c0 := h1.c0
    have cA := (h1.later ((Below.refl _ _).alloc (Nat.le_refl _) (.map #[] 0))).c0
    have fA := (h1.later ((Below.refl _ _).alloc (Nat.le_refl _) (.map #[] 0))).f0
    have C0 := Lib.hid h2.c0
    have H1 := Lib.hid h2
    have HM := Lib.hid hM
    have HW := Lib.hid (show pagesOf [] = s.W from by rw [hW]; rfl)
    have HR := Lib.hid Reads.nil
    have HO := Lib.hid hown
    have HN := Lib.hid hN
    have R2 := Lib.hid ((ho2.block w.heap.size (by rw [hbg]; omega) (by have := HGB.out; omega)).trans R1.out)
    have HT2 := Lib.hid (HT.out.turn ho2 (fun z hz hz' => text_not_row HT.out.tx hz hz' h1.row))
    have HZ2 := Lib.hid (show w.heap.size + 1 ≤ _ from by rw [← hbg]; exact ho2.size)
    have HOW := Lib.hid ((Dk.Only.of_below _ HB.out).trans ho2)
    have hmm := @run_makeMap Try.prog
    have qn := fun w' => run_eql_map_nil none w'
    simp only [Option.isNone_none] at qn
    clear h h1 h2 hM hown hn hW hN ho2 R1 HT
    go_enter Try.func25, Try.ntmps25
    go_upto_region 3 with fail
    rw [hbg] at C0 H1 HM HO R2 HT2 HZ2 HOW
    have R1 := R2
    clear R2 hmm cA fA c0
    generalize ((w.alloc (.cells (u8s d) 32)).alloc (.map #[] 0)).setCell ⟨g, 0, none⟩ (.map (some (w.heap.size + 1))) = w2 at *
    generalize hbk : w.heap.size = bk at *
    refine wp_region_held_drew (S := fun w' => w'.cell? ⟨g, 0, none⟩ = some (.map (some (bk + 1))) ∧ w'.heap[bk]? = some (.cells (u8s d) 32 (0, 0))) (by kernel_rfl) ⟨C0.out, R1.out⟩ (fun hHeld => ?_)
    refine wpAnyH_take (i := 0) (oi := ⟨some 15, .move (.tmp 0), _, _, _, _⟩) (v := ?_) rfl (by kernel_rfl) (by kernel_rfl) (by kernel_rfl) (fun _ _ _ h => h) (Or.inl ⟨by rfl, ?_⟩) (by assumption) ?_
    rotate_left
    · intro w' hSw
      go_simp
      try with_reducible rfl
    try simp only [Act.put, List.setIfInBounds_toArray, List.set_cons_zero, List.set_cons_succ]
    refine wpAnyH_take (i := 1) (oi := ⟨some 16, .nilCheck (.tmp 15), _, _, _, _⟩) (v := ?_) rfl (by kernel_rfl) (by kernel_rfl) (by kernel_rfl) (fun _ _ _ h => h) (Or.inl ⟨by rfl, ?_⟩) (by assumption) ?_
    rotate_left
    · intro w' hSw
      go_simp
      try with_reducible rfl
    try simp only [Act.put, List.setIfInBounds_toArray, List.set_cons_zero, List.set_cons_succ]
    refine wpAnyH_take (i := 2) (oi := ⟨some 17, .fieldAddr 58 (.tmp 16) 0, _, _, _, _⟩) (v := ?_) rfl (by kernel_rfl) (by kernel_rfl) (by kernel_rfl) (fun _ _ _ h => h) (Or.inl ⟨by rfl, ?_⟩) (by assumption) ?_
    rotate_left
    · intro w' hSw
      go_simp
      try with_reducible rfl
    try simp only [Act.put, List.setIfInBounds_toArray, List.set_cons_zero, List.set_cons_succ]
    refine wpAnyH_take (i := 3) (oi := ⟨some 18, .load 55 (.tmp 17), _, _, _, _⟩) (v := ?_) rfl (by kernel_rfl) (by kernel_rfl) (by kernel_rfl) (fun _ _ _ h => h) (Or.inl ⟨by rfl, ?_⟩) (by assumption) ?_
    rotate_left
    · intro w' hSw
      have c0 := hSw.1
      go_simp
      try with_reducible rfl
    try simp only [Act.put, List.setIfInBounds_toArray, List.set_cons_zero, List.set_cons_succ]
    refine wpAnyH_take (i := 4) (oi := ⟨some 19, .load 32 (.tmp 4), _, _, _, _⟩) (v := ?_) rfl (by kernel_rfl) (by kernel_rfl) (by kernel_rfl) (fun _ _ _ h => h) (Or.inl ⟨by rfl, ?_⟩) (by assumption) ?_
    rotate_left
    · intro w' hSw
      refine Eq.trans (b := Result.ok (Next.value (.agg (u8s d))) w') ?_ ?_
      · exact op_load_dig (by rfl) (by rfl) HD.out (range_of_row' hSw.2)
      · with_reducible rfl
    try simp only [Act.put, List.setIfInBounds_toArray, List.set_cons_zero, List.set_cons_succ]
    refine wpAnyH_take (i := 5) (oi := ⟨some 20, .move (.tmp 2), _, _, _, _⟩) (v := ?_) rfl (by kernel_rfl) (by kernel_rfl) (by kernel_rfl) (fun _ _ _ h => h) (Or.inl ⟨by rfl, ?_⟩) (by assumption) ?_
    rotate_left
    · intro w' hSw
      go_simp
      try with_reducible rfl
    try simp only [Act.put, List.setIfInBounds_toArray, List.set_cons_zero, List.set_cons_succ]
    refine wpAnyH_ready (rs := [6]) (by kernel_rfl) (by simp) ?_
    refine AllReadyH.cons (o := ⟨none, .mapUpdate 55 (.tmp 18) (.tmp 19) (.tmp 20), _, _, _, _⟩) rfl (fun K hK => ?_) AllReadyH.nil
    refine wp_mapStore (.tmp 18) (.tmp 19) (.tmp 20) (by rfl) (by rfl) HO.out (by unfold maxLen; omega) (by rfl) (by rfl) HD.out hdo (fun w3 hown3 hturn3 => ?_)
    have hot := only_turned hturn3
    have O3 := Lib.hid (show Dk.Only (fun j => j = (bk + 1)) w2 w3 from ⟨hot.os, hot.tape, hot.output, hot.size, hot.block⟩)
    clear hot
    have HO3 := Lib.hid hown3
    obtain ⟨es0, ck0, hb0, -⟩ := HO.out
    have S3 : w3.cell? ⟨g, 0, none⟩ = some (.map (some (bk + 1))) ∧ w3.heap[bk]? = some (.cells (u8s d) 32 (0, 0)) := by
      have hgr := H1.out.row
      have e1 : g ≠ (bk + 1) := fun e => by rw [e, hb0] at hgr; cases hgr
      have e2 : bk ≠ (bk + 1) := fun e => by have h := R1.out; rw [e, hb0] at h; cases h
      exact ⟨(World.cell?_of_block (w := w2) (a := ⟨g, 0, none⟩) (O3.out.block g (Array.getElem?_eq_some_iff.1 hgr).1 e1)).trans C0.out, (O3.out.block bk (Array.getElem?_eq_some_iff.1 R1.out).1 e2).trans R1.out⟩
    clear hown3 hturn3 hb0
    refine hK.out _ _ S3 (fun hHeld => ?_)
    clear hK K
    try simp only [Act.put]
    refine wpAnyH_done (by kernel_rfl) ?_ _
    go_wp2_with fail
    go_end0
    have SS := H1.out.stored (e := ⟨d, q, m, c, b⟩) HM.out HW.out HR.out HO.out HO3.out O3.out HD.out hdo HN.out HT2.out (fun k hk => Nat.lt_of_lt_of_le (HLT.out k hk) (Nat.le_of_succ_le HZ2.out)) HOK.out
    have hz3 := O3.out.size
    have hz2 := H1.out.lt (bk + 1) (Or.inr rfl)
    exact ⟨rfl, ⟨_, SS.wide (fun k hk => by
      rcases hk with (hk | hk) | hk
      · exact Or.inl hk
      · exact Or.inr (Or.inr ⟨by omega, by omega⟩)
      · exact Or.inr (Or.inl hk)) (fun k hk => by
      rcases hk with hk | hk | hk
      · have := HQL.out k hk; omega
      · have := HLT.out k hk; omega
      · exact hk.2)⟩, only_old ((HOW.out.mono (Q := fun k => Q k ∨ k = bk + 1) (fun k e => Or.inl (by rw [e]; exact HQG.out))).trans (O3.out.mono (fun k e => Or.inr e))) (fun k e => e.imp id (fun e => by omega))⟩
end Go.Proofs.Ytlmbicelngpgoaa.Pg

/- bytes.Clone. -/
namespace Go.Proofs.Ytlmbicelngpgoaa.Pg
open Go.RowKit

set_option maxRecDepth 100000 in
set_option maxHeartbeats 1000000 in
theorem bclone_any {w : World} {p : Option Addr} {n c : Nat} {B : List Nat} (h : Tx w p n c B) (hn : n ≤ 100000) :
    Calls Try.prog 24 #[.slice p n c] w fun e w' => ∃ q d, e = .returned (.slice q n d) ∧ w'.ownsRow w.heap.size 5 1 (.slice q n d) n (vals B) ∧ Below w.heap.size w w' := by
  cases p with
  | none =>
    have hc : c = 0 := by
      rcases h.at' with ⟨_, h0⟩ | ⟨y, hy, _⟩
      · exact h0
      · cases hy
    have hm0 : n = 0 := by have := h.le; omega
    have hb : B = [] := List.eq_nil_of_length_eq_zero (by have := h.size; omega)
    subst hc hm0 hb
    have qn : ∀ w', (binOp .eql 27 (.slice none 0 0) (.slice none 0 0)).run Try.prog w' = .ok (.bool true) w' := fun w' => Go.Lib.run_eql_slice_nil w' _ _ _ _ _ _ _ A22
    clear h
    go_enter Try.func24, Try.ntmps24
    go_wp2_with fail
    go_ret
    exact ⟨none, 0, rfl, World.ownsRow_nil _ _ _ _, Below.refl _ _⟩
  | some ad =>
    have qn : ∀ w', (binOp .eql 27 (.slice (some ad) n c) (.slice none 0 0)).run Try.prog w' = .ok (.bool false) w' := fun w' => Go.Lib.run_eql_slice_nil w' _ _ _ _ _ _ _ A22
    obtain ⟨i5, hi, hi0, hi1, hi2⟩ := info_parts I5
    have HI := Lib.hid hi
    have HI0 := Lib.hid hi0
    have HI1 := Lib.hid hi1
    have HI2 := Lib.hid hi2
    clear hi hi0 hi1 hi2
    have hba := (Below.refl w.heap.size w).alloc (Nat.le_refl _) (.cells #[] 5)
    have B15 := Lib.hid hba
    have O15 := Lib.hid (show (w.alloc (.cells #[] 5)).ownsRow w.heap.size 5 1 (.slice (some ⟨w.heap.size, 0, none⟩) 0 0) 0 [] from owns_mk (L := []) (cap := 0) (n := 0) (heap_alloc_new w (.cells (u8s []) 5)) rfl (Nat.le_refl _) (Nat.zero_le _) (Nat.le_refl _))
    have HNW := Lib.hid ((h.later hba).cells)
    have HL := Lib.hid (show (vals B).length = n * 1 from by rw [vals_length, ← h.size, Nat.mul_one])
    clear hba h
    go_enter Try.func24, Try.ntmps24
    go_wp2_with ((at_builtin; (refine wpList_append_own_at _ (by rfl) (.tmp 5) (.tmp 6) 27 (by rfl) w.heap.size 5 i5 (.int .u8 0) 1 1 A22 HI.out HI0.out HI1.out HI2.out (by rfl) (by decide) _ 0 [] (by rfl) O15.out ad n c (vals B) (by rfl) HL.out HNW.out (vals_one _) (by unfold maxLen; omega) (by omega) B15.out.size ?_); intro v7 w7 hown7 hgrow7 _ _; have O7 := Lib.hid hown7; have G7 := Lib.hid hgrow7; clear hown7 hgrow7))
    have hb7 : Below w.heap.size w w7 := B15.out.grown G7.out B15.out.size (fun k hk => (O15.out.lt k hk).1)
    have ho := O7.out
    rw [Nat.zero_add, List.nil_append] at ho
    obtain ⟨q7, c7, rfl⟩ : ∃ q7 c7, v7 = .slice q7 n c7 := by
      rcases ho.2 with ⟨h1, h2⟩ | ⟨gb, cap, cur, h1, _⟩
      · exact ⟨none, 0, by rw [h1, h2]⟩
      · exact ⟨_, _, h1⟩
    go_ret
    exact ⟨q7, c7, rfl, ho, hb7⟩
end Go.Proofs.Ytlmbicelngpgoaa.Pg

/- Package page, as it landed: Get. -/
namespace Go.Proofs.Ytlmbicelngpgoaa.Pg
open Go.RowKit

theorem textAt_lt {W : Pages} {d t : List Nat} (h : textAt W d = some t) : idx d W < W.length := by
  unfold textAt at h
  split at h
  · assumption
  · cases h
theorem textAt_ge {W : Pages} {d : List Nat} (h : textAt W d = none) : ¬ idx d W < W.length := by
  unfold textAt at h
  split at h
  · cases h
  · assumption
set_option maxRecDepth 100000 in
set_option maxHeartbeats 1000000 in
theorem get_any {w : World} {g : Nat} {Q : Nat → Prop} {s : S} (t d : List Nat) (h : PL w g Q s) (hd : d.length = 32) (ho : Sm.allB d) (ht : textAt s.W d = some t) :
    Calls Try.prog 9 #[.pointer (some ⟨g, 0, none⟩), .agg (u8s d)] w fun e w' => ∃ q c, e = .returned (.tuple #[.slice q t.length c, .int .i64 0]) ∧ w'.ownsRow w.heap.size 5 1 (.slice q t.length c) t.length (vals t) ∧ Below w.heap.size w w' := by
  obtain ⟨mp, cl, h⟩ := h
  have hb := (Below.refl w.heap.size w).alloc (Nat.le_refl _) (.cells (u8s d) 32)
  obtain ⟨pp, mm, cc, hl, -, hq⟩ := look_any (h.later hb).pages hd ho
  rw [decide_eq_true (textAt_lt ht)] at hl
  have hT := hq t ht
  obtain rfl : mm = t.length := hT.tx.size
  have HB := Lib.hid hb
  have R1 := Lib.hid (heap_alloc_new w (.cells (u8s d) 32))
  have C0 := Lib.hid (h.later hb).c0
  have HL := Lib.hid hl
  have HD := Lib.hid hd
  have HT := Lib.hid hT
  clear h hb hl hd hq hT ht
  go_enter Try.func9, Try.ntmps9
  go_wp2_with fail
  generalize w.alloc (.cells (u8s d) 32) = w1 at *
  generalize hbk : w.heap.size = bk at *
  go_upto_region 1 with fail
  refine wp_region_held_drew (S := fun w' => w'.heap = w1.heap) (by kernel_rfl) rfl (fun hHeld => ?_)
  refine wpAnyH_take (i := 0) (oi := ⟨some 9, .move (.tmp 0), _, _, _, _⟩) (v := ?_) rfl (by kernel_rfl) (by kernel_rfl) (by kernel_rfl) (fun _ _ _ h => h) (Or.inl ⟨by rfl, ?_⟩) (by assumption) ?_
  rotate_left
  · intro w' hSw
    go_simp
    try with_reducible rfl
  try simp only [Act.put, List.setIfInBounds_toArray, List.set_cons_zero, List.set_cons_succ]
  refine wpAnyH_take (i := 1) (oi := ⟨some 10, .nilCheck (.tmp 9), _, _, _, _⟩) (v := ?_) rfl (by kernel_rfl) (by kernel_rfl) (by kernel_rfl) (fun _ _ _ h => h) (Or.inl ⟨by rfl, ?_⟩) (by assumption) ?_
  rotate_left
  · intro w' hSw
    go_simp
    try with_reducible rfl
  try simp only [Act.put, List.setIfInBounds_toArray, List.set_cons_zero, List.set_cons_succ]
  refine wpAnyH_take (i := 2) (oi := ⟨some 11, .fieldAddr 58 (.tmp 10) 0, _, _, _, _⟩) (v := ?_) rfl (by kernel_rfl) (by kernel_rfl) (by kernel_rfl) (fun _ _ _ h => h) (Or.inl ⟨by rfl, ?_⟩) (by assumption) ?_
  rotate_left
  · intro w' hSw
    go_simp
    try with_reducible rfl
  try simp only [Act.put, List.setIfInBounds_toArray, List.set_cons_zero, List.set_cons_succ]
  refine wpAnyH_take (i := 3) (oi := ⟨some 12, .load 55 (.tmp 11), _, _, _, _⟩) (v := ?_) rfl (by kernel_rfl) (by kernel_rfl) (by kernel_rfl) (fun _ _ _ h => h) (Or.inl ⟨by rfl, ?_⟩) (by assumption) ?_
  rotate_left
  · intro w' hSw
    have c0 := (World.cell?_of_block (w := w1) (a := ⟨g, 0, none⟩) (by rw [hSw])).trans C0.out
    go_simp
    try with_reducible rfl
  try simp only [Act.put, List.setIfInBounds_toArray, List.set_cons_zero, List.set_cons_succ]
  refine wpAnyH_take (i := 4) (oi := ⟨some 13, .load 32 (.tmp 3), _, _, _, _⟩) (v := ?_) rfl (by kernel_rfl) (by kernel_rfl) (by kernel_rfl) (fun _ _ _ h => h) (Or.inl ⟨by rfl, ?_⟩) (by assumption) ?_
  rotate_left
  · intro w' hSw
    refine Eq.trans (b := Result.ok (Next.value (.agg (u8s d))) w') ?_ ?_
    · exact op_load_dig (by rfl) (by rfl) HD.out (range_of_row' ((congrArg (fun h => h[bk]?) hSw).trans R1.out))
    · with_reducible rfl
  try simp only [Act.put, List.setIfInBounds_toArray, List.set_cons_zero, List.set_cons_succ]
  refine wpAnyH_take (i := 5) (oi := ⟨some 14, .lookup 55 (.tmp 12) (.tmp 13) true, _, _, _, _⟩) (v := ?_) rfl (by kernel_rfl) (by kernel_rfl) (by kernel_rfl) (fun _ _ _ h => h) (Or.inl ⟨by rfl, ?_⟩) (by assumption) ?_
  rotate_left
  · intro w' hSw
    refine Eq.trans (b := Result.ok (Next.value (.tuple #[.slice pp t.length cc, .bool true])) w') ?_ ?_
    · exact op_look (by rfl) (by rfl) (by rfl) (HL.out w' hSw)
    · with_reducible rfl
  try simp only [Act.put, List.setIfInBounds_toArray, List.set_cons_zero, List.set_cons_succ]
  refine wpAnyH_take (i := 6) (oi := ⟨some 8, .move (.tmp 14), _, _, _, _⟩) (v := ?_) rfl (by kernel_rfl) (by kernel_rfl) (by kernel_rfl) (fun _ _ _ h => h) (Or.inl ⟨by rfl, ?_⟩) (by assumption) ?_
  rotate_left
  · intro w' hSw
    go_simp
    try with_reducible rfl
  try simp only [Act.put, List.setIfInBounds_toArray, List.set_cons_zero, List.set_cons_succ]
  refine wpAnyH_take (i := 7) (oi := ⟨some 15, .extract (.tmp 8) 0, _, _, _, _⟩) (v := ?_) rfl (by kernel_rfl) (by kernel_rfl) (by kernel_rfl) (fun _ _ _ h => h) (Or.inl ⟨by rfl, ?_⟩) (by assumption) ?_
  rotate_left
  · intro w' hSw
    go_simp
    try with_reducible rfl
  try simp only [Act.put, List.setIfInBounds_toArray, List.set_cons_zero, List.set_cons_succ]
  refine wpAnyH_take (i := 8) (oi := ⟨some 16, .extract (.tmp 8) 1, _, _, _, _⟩) (v := ?_) rfl (by kernel_rfl) (by kernel_rfl) (by kernel_rfl) (fun _ _ _ h => h) (Or.inl ⟨by rfl, ?_⟩) (by assumption) ?_
  rotate_left
  · intro w' hSw
    go_simp
    try with_reducible rfl
  try simp only [Act.put, List.setIfInBounds_toArray, List.set_cons_zero, List.set_cons_succ]
  refine wpAnyH_take (i := 9) (oi := ⟨some 6, .assign (.tmp 15), _, _, _, _⟩) (v := ?_) rfl (by kernel_rfl) (by kernel_rfl) (by kernel_rfl) (fun _ _ _ h => h) (Or.inl ⟨by rfl, ?_⟩) (by assumption) ?_
  rotate_left
  · intro w' hSw
    go_simp
    try with_reducible rfl
  try simp only [Act.put, List.setIfInBounds_toArray, List.set_cons_zero, List.set_cons_succ]
  refine wpAnyH_take (i := 10) (oi := ⟨some 7, .assign (.tmp 16), _, _, _, _⟩) (v := ?_) rfl (by kernel_rfl) (by kernel_rfl) (by kernel_rfl) (fun _ _ _ h => h) (Or.inl ⟨by rfl, ?_⟩) (by assumption) ?_
  rotate_left
  · intro w' hSw
    go_simp
    try with_reducible rfl
  try simp only [Act.put, List.setIfInBounds_toArray, List.set_cons_zero, List.set_cons_succ]
  refine wpAnyH_done (by kernel_rfl) ?_ _
  have HB2 := Lib.hid (HB.out.drew)
  have T2 := Lib.hid (HT.out.tx.later (Below.refl _ _).drew)
  have HN := HT.out.le
  clear hHeld
  generalize w1.drew = w2 at *
  go_wp2_with (go_at_call 24; with_reducible refine (bclone_any T2.out ?hx).mono ?_; (case hx => exact HN); rintro _ w3 ⟨q3, c3, rfl, o3, b3⟩)
  go_ret2
  rw [hbk]
  have hsz : bk ≤ w2.heap.size := by rw [← hbk]; exact HB2.out.size
  refine ⟨q3, c3, rfl, ⟨o3.1, ?_⟩, HB2.out.trans (b3.mono hsz)⟩
  rcases o3.2 with h3 | ⟨ga, ca, cu, h4, h5, h6⟩
  · exact Or.inl h3
  · exact Or.inr ⟨ga, ca, cu, h4, Nat.le_trans hsz h5, h6⟩
set_option maxRecDepth 100000 in
set_option maxHeartbeats 1000000 in
theorem get_none {w : World} {g : Nat} {Q : Nat → Prop} {s : S} (d : List Nat) (h : PL w g Q s) (hd : d.length = 32) (ho : Sm.allB d) (ht : textAt s.W d = none) :
    Calls Try.prog 9 #[.pointer (some ⟨g, 0, none⟩), .agg (u8s d)] w fun e w' => ∃ q c, e = .returned (.tuple #[.slice q 0 c, .int .i64 9]) ∧ Below w.heap.size w w' := by
  obtain ⟨mp, cl, h⟩ := h
  have hb := (Below.refl w.heap.size w).alloc (Nat.le_refl _) (.cells (u8s d) 32)
  obtain ⟨pp, mm, cc, hl, -, -⟩ := look_any (h.later hb).pages hd ho
  rw [decide_eq_false (textAt_ge ht)] at hl
  have HB := Lib.hid hb
  have R1 := Lib.hid (heap_alloc_new w (.cells (u8s d) 32))
  have C0 := Lib.hid (h.later hb).c0
  have HL := Lib.hid hl
  have HD := Lib.hid hd
  clear h hb hl hd ht
  go_enter Try.func9, Try.ntmps9
  go_wp2_with fail
  generalize w.alloc (.cells (u8s d) 32) = w1 at *
  generalize hbk : w.heap.size = bk at *
  go_upto_region 1 with fail
  refine wp_region_held_drew (S := fun w' => w'.heap = w1.heap) (by kernel_rfl) rfl (fun hHeld => ?_)
  refine wpAnyH_take (i := 0) (oi := ⟨some 9, .move (.tmp 0), _, _, _, _⟩) (v := ?_) rfl (by kernel_rfl) (by kernel_rfl) (by kernel_rfl) (fun _ _ _ h => h) (Or.inl ⟨by rfl, ?_⟩) (by assumption) ?_
  rotate_left
  · intro w' hSw
    go_simp
    try with_reducible rfl
  try simp only [Act.put, List.setIfInBounds_toArray, List.set_cons_zero, List.set_cons_succ]
  refine wpAnyH_take (i := 1) (oi := ⟨some 10, .nilCheck (.tmp 9), _, _, _, _⟩) (v := ?_) rfl (by kernel_rfl) (by kernel_rfl) (by kernel_rfl) (fun _ _ _ h => h) (Or.inl ⟨by rfl, ?_⟩) (by assumption) ?_
  rotate_left
  · intro w' hSw
    go_simp
    try with_reducible rfl
  try simp only [Act.put, List.setIfInBounds_toArray, List.set_cons_zero, List.set_cons_succ]
  refine wpAnyH_take (i := 2) (oi := ⟨some 11, .fieldAddr 58 (.tmp 10) 0, _, _, _, _⟩) (v := ?_) rfl (by kernel_rfl) (by kernel_rfl) (by kernel_rfl) (fun _ _ _ h => h) (Or.inl ⟨by rfl, ?_⟩) (by assumption) ?_
  rotate_left
  · intro w' hSw
    go_simp
    try with_reducible rfl
  try simp only [Act.put, List.setIfInBounds_toArray, List.set_cons_zero, List.set_cons_succ]
  refine wpAnyH_take (i := 3) (oi := ⟨some 12, .load 55 (.tmp 11), _, _, _, _⟩) (v := ?_) rfl (by kernel_rfl) (by kernel_rfl) (by kernel_rfl) (fun _ _ _ h => h) (Or.inl ⟨by rfl, ?_⟩) (by assumption) ?_
  rotate_left
  · intro w' hSw
    have c0 := (World.cell?_of_block (w := w1) (a := ⟨g, 0, none⟩) (by rw [hSw])).trans C0.out
    go_simp
    try with_reducible rfl
  try simp only [Act.put, List.setIfInBounds_toArray, List.set_cons_zero, List.set_cons_succ]
  refine wpAnyH_take (i := 4) (oi := ⟨some 13, .load 32 (.tmp 3), _, _, _, _⟩) (v := ?_) rfl (by kernel_rfl) (by kernel_rfl) (by kernel_rfl) (fun _ _ _ h => h) (Or.inl ⟨by rfl, ?_⟩) (by assumption) ?_
  rotate_left
  · intro w' hSw
    refine Eq.trans (b := Result.ok (Next.value (.agg (u8s d))) w') ?_ ?_
    · exact op_load_dig (by rfl) (by rfl) HD.out (range_of_row' ((congrArg (fun h => h[bk]?) hSw).trans R1.out))
    · with_reducible rfl
  try simp only [Act.put, List.setIfInBounds_toArray, List.set_cons_zero, List.set_cons_succ]
  refine wpAnyH_take (i := 5) (oi := ⟨some 14, .lookup 55 (.tmp 12) (.tmp 13) true, _, _, _, _⟩) (v := ?_) rfl (by kernel_rfl) (by kernel_rfl) (by kernel_rfl) (fun _ _ _ h => h) (Or.inl ⟨by rfl, ?_⟩) (by assumption) ?_
  rotate_left
  · intro w' hSw
    refine Eq.trans (b := Result.ok (Next.value (.tuple #[.slice pp mm cc, .bool false])) w') ?_ ?_
    · exact op_look (by rfl) (by rfl) (by rfl) (HL.out w' hSw)
    · with_reducible rfl
  try simp only [Act.put, List.setIfInBounds_toArray, List.set_cons_zero, List.set_cons_succ]
  refine wpAnyH_take (i := 6) (oi := ⟨some 8, .move (.tmp 14), _, _, _, _⟩) (v := ?_) rfl (by kernel_rfl) (by kernel_rfl) (by kernel_rfl) (fun _ _ _ h => h) (Or.inl ⟨by rfl, ?_⟩) (by assumption) ?_
  rotate_left
  · intro w' hSw
    go_simp
    try with_reducible rfl
  try simp only [Act.put, List.setIfInBounds_toArray, List.set_cons_zero, List.set_cons_succ]
  refine wpAnyH_take (i := 7) (oi := ⟨some 15, .extract (.tmp 8) 0, _, _, _, _⟩) (v := ?_) rfl (by kernel_rfl) (by kernel_rfl) (by kernel_rfl) (fun _ _ _ h => h) (Or.inl ⟨by rfl, ?_⟩) (by assumption) ?_
  rotate_left
  · intro w' hSw
    go_simp
    try with_reducible rfl
  try simp only [Act.put, List.setIfInBounds_toArray, List.set_cons_zero, List.set_cons_succ]
  refine wpAnyH_take (i := 8) (oi := ⟨some 16, .extract (.tmp 8) 1, _, _, _, _⟩) (v := ?_) rfl (by kernel_rfl) (by kernel_rfl) (by kernel_rfl) (fun _ _ _ h => h) (Or.inl ⟨by rfl, ?_⟩) (by assumption) ?_
  rotate_left
  · intro w' hSw
    go_simp
    try with_reducible rfl
  try simp only [Act.put, List.setIfInBounds_toArray, List.set_cons_zero, List.set_cons_succ]
  refine wpAnyH_take (i := 9) (oi := ⟨some 6, .assign (.tmp 15), _, _, _, _⟩) (v := ?_) rfl (by kernel_rfl) (by kernel_rfl) (by kernel_rfl) (fun _ _ _ h => h) (Or.inl ⟨by rfl, ?_⟩) (by assumption) ?_
  rotate_left
  · intro w' hSw
    go_simp
    try with_reducible rfl
  try simp only [Act.put, List.setIfInBounds_toArray, List.set_cons_zero, List.set_cons_succ]
  refine wpAnyH_take (i := 10) (oi := ⟨some 7, .assign (.tmp 16), _, _, _, _⟩) (v := ?_) rfl (by kernel_rfl) (by kernel_rfl) (by kernel_rfl) (fun _ _ _ h => h) (Or.inl ⟨by rfl, ?_⟩) (by assumption) ?_
  rotate_left
  · intro w' hSw
    go_simp
    try with_reducible rfl
  try simp only [Act.put, List.setIfInBounds_toArray, List.set_cons_zero, List.set_cons_succ]
  refine wpAnyH_done (by kernel_rfl) ?_ _
  go_wp2_with fail
  go_ret2
  exact ⟨none, 0, rfl, by rw [hbk]; exact HB.out.drew⟩
end Go.Proofs.Ytlmbicelngpgoaa.Pg

/- The preimage of a page. -/
namespace Go.Proofs.Ytlmbicelngpgoaa.Pg
open Go.RowKit

theorem one_text {w : World} {g : Nat} {q : Option Addr} {n c : Nat} {A : List Nat} (h : w.heap[g]? = some (.cells #[.slice q n c] 27 (0, 0))) (h1 : Tx w q n c A) : Texts w (some ⟨g, 0, none⟩) 1 1 [A] :=
  ⟨rfl, Nat.le_refl _, fun _ => ⟨g, 0, rfl, fun i hi => by
    have h0 := fun j => cell_of_row w g j _ _ _ h
    match i, hi with
    | 0, _ => exact ⟨q, n, c, h0 0, h1⟩⟩⟩
theorem pre_ok {L : List (List Nat)} (tag : Nat) (ht : tag < 256) (h : ∀ b ∈ L, Sm.allB b) : Sm.allB (pre tag L) := by
  intro x hx
  simp only [pre, List.mem_cons, List.mem_flatMap, part, List.mem_append] at hx
  rcases hx with rfl | ⟨t, htl, h1 | h1⟩
  · exact ht
  · exact bigs_all _ x h1
  · exact h t htl x h1
theorem pre_one (a : Nat) (b : List Nat) : (pre a [b]).length = 9 + b.length := by
  rw [pre, List.length_cons, List.flatMap_cons, List.flatMap_nil, List.append_nil, part_length]
  omega
theorem tot_one (b : List Nat) : tot [b] = 9 + b.length := pre_one 0 b
end Go.Proofs.Ytlmbicelngpgoaa.Pg
