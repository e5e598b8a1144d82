/- Gen0, Gen, GenRow, GenTx, GenTxRow, WpRound, GenDg, PgKey, ShaMath, ShaPreMath, ShaSumOk, CodMath, PgMath, PgPe, PgMap, PgOp, PgRound, DkMath. -/
import Derived.Laws.BitsAllLaws
import Derived.Test.YtlmbicelngpgoaaProg
import Derived.WalkKit
import Derived.WalkSpells
import Derived.WalkLawsBesides
import Derived.BigQuiet
import Derived.Deep.QuietTactic
import Derived.Lib.Hide
import Derived.StillTailTactics
import Derived.Deep.WholeRow
import Derived.Deep.MidRow
import Derived.Deep.RegionHeld3
import Derived.Deep.RegionLaw
import Derived.Deep.AppendLies
import Derived.Laws.AppendOwnNone
import Derived.ChangeKeysEq
import Derived.Lib.SlBytesConst
import Derived.Maps.AppendAt
import Derived.Deep.DeepMust
import Derived.Deep.DeepCutAuto
import Derived.Test.YtlmbicelngpgoaaRows
import Derived.ProofKit
import Derived.OpenShut
import Derived.ShutString
import Derived.ChangeOld
import Derived.Deep.Matrix
import Derived.RangeFuncCalls
import Derived.RangeFuncNested
import Derived.OrdersIn
import Derived.OrdersHeld
import Derived.TacticsIn
import Derived.Maps.RangeWalk
import Derived.DeepKeys4
import Derived.Sort.MapsRangeIn
import Derived.RangeFuncBox
import Derived.OwnWalkIn
import Derived.Sort.CutIn
/- Plain lemmas on lists of natural numbers: bytes. No program is named here. -/
namespace Go.Proofs.Ytlmbicelngpgoaa.Sm
def allB (l : List Nat) : Prop := ∀ x ∈ l, x < 256
theorem getD_lt {l : List Nat} {m : Nat} (h : ∀ x ∈ l, x < m) (hm : 0 < m) (i : Nat) : l.getD i 0 < m := by
  rw [List.getD_eq_getElem?_getD]
  cases hh : l[i]? with
  | none => simpa using hm
  | some x => simpa using h x (List.mem_of_getElem? hh)
theorem allB_drop {l : List Nat} (h : allB l) (n : Nat) : allB (l.drop n) := fun x hx => h x (List.mem_of_mem_drop hx)
theorem getD_take (B : List Nat) (n i : Nat) (h : i < n) : (B.take n).getD i 0 = B.getD i 0 := by
  simp [List.getD_eq_getElem?_getD, List.getElem?_take_of_lt h]
theorem getD_drop (B : List Nat) (n i : Nat) : (B.drop n).getD i 0 = B.getD (n + i) 0 := by
  simp [List.getD_eq_getElem?_getD]
theorem getD_app_left (A B : List Nat) (i : Nat) (h : i < A.length) : (A ++ B).getD i 0 = A.getD i 0 := by
  rw [List.getD_eq_getElem?_getD, List.getD_eq_getElem?_getD, List.getElem?_append_left h]
theorem getD_app_right (A B : List Nat) (i : Nat) : (A ++ B).getD (A.length + i) 0 = B.getD i 0 := by
  rw [List.getD_eq_getElem?_getD, List.getD_eq_getElem?_getD, List.getElem?_append_right (by omega), Nat.add_sub_cancel_left]
end Go.Proofs.Ytlmbicelngpgoaa.Sm

/- Bytes in memory: slices that read as bytes, rows that a call owns, texts, strings of bytes, digests compared. -/
namespace Go.Proofs.Ytlmbicelngpgoaa
open Go.RowKit

def u8s (l : List Nat) : Array Value := (l.map fun x => Value.int .u8 (x : Nat)).toArray
/-- What lies whole in the block of the result is what is told. -/
theorem ret_row {fn : Func} {P : Ending → World → Prop} (p : Tmp) {ty : TypeId} (hr : fn.results = #[.cell p ty]) {tmps : Array Value} {w : World} (g : Nat) (t : TypeId) (cs : Array Value) {n : Nat} {e : TypeId}
    (hu : Try.prog.underlying ty = some (.array n e)) (hi : (Try.prog.info? ty).map (·.size) = some n)
    (hp : tmps.getD p undef = .pointer (some ⟨g, 0, none⟩)) (hg : w.heap[g]? = some (.cells cs t (0, 0)))
    (hn : cs.size = n) (h : P (.returned (.agg cs)) w) : bodyPost Try.prog fn P .ret ⟨tmps, []⟩ w :=
  bodyPost_ret (a := ⟨tmps, []⟩) (v := .agg cs) (results_cell_row hr tmps w g t cs (0, 0) (.array n e) hp hg hu rfl (by rw [hn]; exact hi)) rfl h
theorem setRow_alloc (w : World) (old cs : Array Value) (t : TypeId) : (w.alloc (.cells old t (0, 0))).setRow w.heap.size cs = w.alloc (.cells cs t (0, 0)) := by
  unfold World.setRow World.alloc
  congr 1
  apply Array.ext
  · simp
  · intro k h1 h2
    simp only [Array.getElem_modify, Array.getElem_push]
    by_cases hk : k = w.heap.size
    · subst hk; simp
    · have : k < w.heap.size := by simp at h1; omega
      simp [this, Ne.symm hk]
/-- All the world's blocks are as they were. -/
structure SameHeap (w w' : World) : Prop where
  below : Below w.heap.size w w'
  heap : w'.heap = w.heap
theorem SameHeap.refl (w : World) : SameHeap w w := ⟨Below.refl _ _, rfl⟩
theorem SameHeap.drewN {a w : World} (h : SameHeap a w) (n : Nat) : SameHeap a (w.drewN n) := by
  induction n with
  | zero => exact h
  | succ n ih => exact ⟨ih.below.drew, ih.heap⟩
theorem SameHeap.cell {a w : World} (h : SameHeap a w) (p : Addr) : w.cell? p = a.cell? p := by simp only [World.cell?, h.heap]
theorem SameHeap.frozen {a w : World} (h : SameHeap a w) (p : Addr) : w.frozen? p = a.frozen? p := by simp only [World.frozen?, h.heap]
theorem Below.setRow {B : Nat} {a w : World} (h : Below B a w) {g : Nat} (hg : B ≤ g) (cs : Array Value) : Below B a (w.setRow g cs) :=
  h.trans ⟨rfl, rfl, rfl, by simp, fun k hk => setRow_other _ _ _ _ (by omega)⟩
/-- From an address on lie these bytes. -/
def bytesAt (w : World) (g o : Nat) (B : List Nat) : Prop := ∀ i, i < B.length → w.cell? ⟨g, o + i, none⟩ = some (.int .u8 (B.getD i 0 : Nat))
def zeros (n : Nat) : List Nat := List.replicate n 0
theorem zeros_succ {n : Nat} (h : 0 < n) : zeros n = 0 :: zeros (n - 1) := by
  cases n with
  | zero => omega
  | succ n => rfl
theorem getD_left {l : List Nat} (r : List Nat) (i : Nat) (h : i < l.length) : (l ++ r).getD i 0 = l.getD i 0 := by
  rw [List.getD_eq_getElem?_getD, List.getD_eq_getElem?_getD, List.getElem?_append_left h]
/-- A slice that reads as these bytes. -/
structure Bytes (w : World) (p : Option Addr) (len cap : Nat) (B : List Nat) : Prop where
  size : len = B.length
  le : len ≤ cap
  ok : Sm.allB B
  at' : cap = 0 ∨ ∃ g o, p = some ⟨g, o, none⟩ ∧ bytesAt w g o B
theorem Bytes.ne {w : World} {p : Option Addr} {len cap : Nat} {B : List Nat} (h : Bytes w p len cap B) (hn : B ≠ []) : ∃ g o, p = some ⟨g, o, none⟩ ∧ bytesAt w g o B := by
  rcases h.at' with hc | h1
  · have := h.size
    have := h.le
    exact absurd (List.length_eq_zero_iff.1 (by omega)) hn
  · exact h1
theorem Bytes.later {w w' : World} {p : Option Addr} {len cap : Nat} {B : List Nat} (h : Bytes w p len cap B) {H : Nat} (hb : Below H w w') (hH : ∀ g o, p = some ⟨g, o, none⟩ → B ≠ [] → g < H) : Bytes w' p len cap B :=
  ⟨h.size, h.le, h.ok, h.at'.imp id fun ⟨g, o, hp, hx⟩ => ⟨g, o, hp, fun i hi => (hb.cell (p := ⟨g, o + i, none⟩) (hH g o hp (by intro e; rw [e] at hi; simp at hi))).trans (hx i hi)⟩⟩
theorem Bytes.lt {w : World} {p : Option Addr} {len cap : Nat} {B : List Nat} (h : Bytes w p len cap B) : ∀ g o, p = some ⟨g, o, none⟩ → B ≠ [] → g < w.heap.size := fun g o hp hn => by
  obtain ⟨g', o', hp', hx⟩ := h.ne hn
  rw [hp] at hp'
  obtain ⟨rfl, rfl⟩ : g = g' ∧ o = o' := by simpa using hp'
  exact block_lt_of_cell (hx 0 (List.length_pos_iff.2 hn))
theorem bytesAt.drop {w : World} {g o : Nat} {B : List Nat} (h : bytesAt w g o B) (n : Nat) : bytesAt w g (o + n) (B.drop n) := fun i hi => by
  have h1 : n + i < B.length := by simp at hi; omega
  have := h (n + i) h1
  rw [Nat.add_assoc, this]
  simp [List.getD_eq_getElem?_getD]
def lenOf : Value → Nat
  | .slice _ n _ => n
  | _ => 0
theorem u8s_get (l : List Nat) (i : Nat) (h : i < l.length) : (u8s l)[i]? = some (.int .u8 (l.getD i 0 : Nat)) := by
  simp [u8s, List.getD_eq_getElem?_getD, List.getElem?_eq_getElem h]
theorem u8s_cell {w : World} {g : Nat} {l : List Nat} {t : TypeId} {fr : Nat × Nat} (hg : w.heap[g]? = some (.cells (u8s l) t fr)) (i : Nat) (h : i < l.length) : w.cell? ⟨g, i, none⟩ = some (.int .u8 (l.getD i 0 : Nat)) := by
  rw [cell_of_row w g i _ t fr hg, u8s_get l i h]
theorem u8s_set (p r : List Nat) (y x k : Nat) (hk : p.length = k) : (u8s (p ++ y :: r)).setIfInBounds k (.int .u8 (x : Nat)) = u8s (p ++ x :: r) := by
  subst hk
  apply Array.ext'
  simp [u8s]
theorem u8s_one (l : List Nat) : (u8s l).all (·.oneCell') = true := by simp [u8s, Value.oneCell']
theorem u8s_size (l : List Nat) : (u8s l).size = l.length := by simp [u8s]
/-- An array's element, the array being a value. -/
theorem run_index_array {P : Program} {t e : TypeId} {n : Nat} (ht : P.underlying t = some (.array n e)) {d : TypeDesc} (hd : P.underlying e = some d) (hnd : (match d with | .struct _ => false | .array _ _ => false | _ => true) = true)
    (hs : (P.info? e).map (·.size) = some 1) (cs : Array Value) (k : Nat) (hk : k < n) (v : Value) (hv : cs[k]? = some v) (w : World) :
    (Instr.index t (.agg cs) (.int .i64 k)).run P w = .ok v w := by
  have hagg : (isAgg e).run P w = .ok false w := by
    unfold isAgg
    rw [Sem.run_bind, run_underlying hd w]
    cases d <;> simp_all
  cases hq : P.info? e with
  | none => simp [hq] at hs
  | some i =>
    have hsz : i.size = 1 := by simpa [hq] using hs
    have hb : (0 : Int) ≤ k ∧ (k : Int) < n := by omega
    simp [Instr.index, run_underlying ht, asIntOf, hb, part, sizeOf, typeInfo, hq, hsz, hagg, hv, Sem.run_bind]
    intro h
    omega
theorem U5 : Try.prog.underlying 5 = some (.int .u8) := by kernel_rfl
theorem S5 : (Try.prog.info? 5).map (·.size) = some 1 := by kernel_rfl
theorem I5 : (Try.prog.info? 5).map (fun i => (i.zero, i.size, i.bytes)) = some (some (.int .u8 0), 1, 1) := by kernel_rfl
def vals (l : List Nat) : List Value := l.map fun x => Value.int .u8 (x : Nat)
theorem vals_length (l : List Nat) : (vals l).length = l.length := by simp [vals]
theorem vals_get (l : List Nat) (i : Nat) (h : i < l.length) : (vals l)[i]? = some (.int .u8 (l.getD i 0 : Nat)) := by
  simp [vals, List.getD_eq_getElem?_getD, List.getElem?_eq_getElem h]
/-- What a call owns reads as its bytes. -/
theorem Bytes.of_owns {w : World} {base g n cap : Nat} {B : List Nat} (h : w.ownsRow base 5 1 (.slice (some ⟨g, 0, none⟩) n cap) n (vals B)) (hB : Sm.allB B) : Bytes w (some ⟨g, 0, none⟩) n cap B := by
  obtain ⟨hl, h2⟩ := h
  have hn : n = B.length := by simpa [vals_length] using hl.symm
  rcases h2 with ⟨h3, _⟩ | ⟨g', cap', cur, hv, hb, hg, hle, hm, hs, ht⟩
  · simp at h3
  · obtain ⟨rfl, rfl⟩ : g = g' ∧ cap = cap' := by simpa using hv
    refine ⟨hn, hle, hB, Or.inr ⟨g, 0, rfl, fun i hi => ?_⟩⟩
    rw [Nat.zero_add, cell_of_row w g i cur _ _ hg]
    have e : (cur.toList.take (n * 1))[i]? = (vals B)[i]? := by rw [ht]
    rw [vals_get B i hi, List.getElem?_take_of_lt (by omega)] at e
    simpa using e
theorem made_zeros (n : Nat) : madeCells (Value.cells (.int .u8 0)) n = u8s (zeros n) := by
  apply Array.ext
  · simp [size_madeCells, u8s, zeros]
  · intro i h1 h2
    simp [madeCells, u8s, zeros, Value.cells, Nat.mod_one]
theorem u8s_toList (l : List Nat) : (u8s l).toList = vals l := by simp [u8s, vals]
theorem vals_one (l : List Nat) : ∀ u ∈ vals l, u.oneCell' = true := by
  intro u hu
  simp only [vals, List.mem_map] at hu
  obtain ⟨x, _, rfl⟩ := hu
  rfl
theorem owns_mk {w : World} {base g n cap : Nat} {L : List Nat} (hg : w.heap[g]? = some (.cells (u8s L) 5 (0, 0))) (hL : L.length = cap) (hn : n ≤ cap) (hm : cap ≤ maxLen) (hb : base ≤ g) :
    w.ownsRow base 5 1 (.slice (some ⟨g, 0, none⟩) n cap) n (vals (L.take n)) := by
  refine ⟨by simp [vals]; omega, Or.inr ⟨g, cap, u8s L, rfl, hb, hg, hn, hm, by rw [u8s_size]; omega, ?_⟩⟩
  rw [u8s_toList, Nat.mul_one]
  simp [vals]
theorem cells_of_row {w : World} {g : Nat} {L : List Nat} {t : TypeId} (hg : w.heap[g]? = some (.cells (u8s L) t (0, 0))) : ∀ j u, (vals L)[j]? = some u → w.cell? ((⟨g, 0, none⟩ : Addr).add j) = some u := fun j u hu => by
  rw [Addr.add_mid, Nat.zero_add, cell_of_row w g j _ _ _ hg, ← Array.getElem?_toList, u8s_toList]
  exact hu
theorem heap_setCells_other (g : Nat) : ∀ (vs : List Value) (o : Nat) (w : World) (k : Nat), k ≠ g → (w.setCells g o vs).heap[k]? = w.heap[k]?
  | [], _, _, _, _ => rfl
  | v :: r, o, w, k, h => by
    rw [World.setCells, heap_setCells_other g r (o + 1) _ k h, heap_setCell_other _ _ _ _ h]
theorem heap_setCells_same (g : Nat) (t : TypeId) : ∀ (vs A B C : List Value) (w : World), w.heap[g]? = some (.cells (A ++ B ++ C).toArray t (0, 0)) → vs.length = B.length →
    (w.setCells g A.length vs).heap[g]? = some (.cells (A ++ vs ++ C).toArray t (0, 0))
  | [], A, B, C, w, h, hl => by
    obtain rfl : B = [] := List.length_eq_zero_iff.1 (by simpa using hl.symm)
    exact h
  | v :: r, A, B, C, w, h, hl => by
    match B, hl with
    | b :: B, hl =>
      have h1 := heap_setCell_same w g A.length _ _ v h
      have e : ((A ++ b :: B ++ C).toArray).setIfInBounds A.length v = ((A ++ [v]) ++ B ++ C).toArray := by
        apply Array.ext'
        simp
      rw [e] at h1
      have := heap_setCells_same g t r (A ++ [v]) B C _ h1 (by simpa using hl)
      rw [World.setCells]
      simpa using this
theorem size_setCells (g : Nat) : ∀ (vs : List Value) (o : Nat) (w : World), (w.setCells g o vs).heap.size = w.heap.size ∧ (w.setCells g o vs).os = w.os ∧ (w.setCells g o vs).tape = w.tape ∧ (w.setCells g o vs).output = w.output
  | [], _, _ => ⟨rfl, rfl, rfl, rfl⟩
  | v :: r, o, w => by
    obtain ⟨h1, h2, h3, h4⟩ := size_setCells g r (o + 1) (w.setCell ⟨g, o, none⟩ v)
    rw [World.setCells]
    exact ⟨h1.trans (by simp [World.setCell]), h2.trans rfl, h3.trans rfl, h4.trans rfl⟩
theorem rangeAt_row {w : World} {g : Nat} {t : TypeId} (A B C : List Value) (h : w.heap[g]? = some (.cells (A ++ B ++ C).toArray t (0, 0))) : w.rangeAt g A.length B := fun j v hv => by
  have hj : j < B.length := (List.getElem?_eq_some_iff.1 hv).1
  rw [cell_of_row w g _ _ t _ h]
  rw [List.getElem?_eq_getElem hj] at hv
  simpa [hj, List.getElem?_append_right, List.getElem?_append] using hv
theorem there_row {w : World} {g : Nat} {t : TypeId} {C : Array Value} (h : w.heap[g]? = some (.cells C t (0, 0))) (o n : Nat) (hn : o + n ≤ C.size) : w.there g o n := fun j hj => by
  refine ⟨?_, frozen_of_row w g _ _ t h⟩
  rw [cell_of_row w g _ _ t _ h, Array.getElem?_eq_getElem (by omega)]
  rfl
theorem vals_toArray (l : List Nat) : (vals l).toArray = u8s l := rfl
theorem bytesAt.take {w : World} {g o : Nat} {B : List Nat} (h : bytesAt w g o B) (n : Nat) : bytesAt w g o (B.take n) := fun i hi => by
  have h1 : i < B.length := by simp at hi; omega
  rw [h i h1]
  have h2 : i < n := by simp at hi; omega
  simp [List.getD_eq_getElem?_getD, List.getElem?_take_of_lt h2]
theorem Bytes.take {w : World} {p : Option Addr} {len cap : Nat} {B : List Nat} (h : Bytes w p len cap B) (n : Nat) (hn : n ≤ len) : Bytes w p n cap (B.take n) :=
  ⟨by have := h.size; simp; omega, by have := h.le; omega, fun x hx => h.ok x (List.mem_of_mem_take hx), h.at'.imp id fun ⟨g, o, hp, hx⟩ => ⟨g, o, hp, hx.take n⟩⟩
theorem grown_setCells {w w1 : World} {g : Nat} (h : w.grownBy w1 (some g)) (o : Nat) (vs : List Value) : w.grownBy (w1.setCells g o vs) (some g) := by
  obtain ⟨h1, h2, h3, h4⟩ := size_setCells g vs o w1
  exact ⟨h2.trans h.os, h3.trans h.tape, h4.trans h.output, by rw [h1]; exact h.size, fun k hk hne => (heap_setCells_other g vs o w1 k (by intro e; exact hne (by rw [e]))).trans (h.block k hk hne)⟩
theorem grown_later {w w1 w2 : World} {r : Option Nat} (h : w.grownBy w1 r) (hb : Below w1.heap.size w1 w2) : w.grownBy w2 r :=
  ⟨hb.os.trans h.os, hb.tape.trans h.tape, hb.output.trans h.output, Nat.le_trans h.size hb.size, fun k hk hne => (hb.block k (Nat.lt_of_lt_of_le hk h.size)).trans (h.block k hk hne)⟩
theorem Bytes.grown {w w' : World} {p : Option Addr} {len cap : Nat} {B : List Nat} (h : Bytes w p len cap B) {g : Nat} (hg : w.grownBy w' (some g)) (hn : B ≠ [] → ∀ a, p = some a → a.block ≠ g) : Bytes w' p len cap B :=
  ⟨h.size, h.le, h.ok, h.at'.imp id fun ⟨b, o, hp, hx⟩ => ⟨b, o, hp, fun i hi => by
    have h1 := hx i hi
    have hb : w'.heap[b]? = w.heap[b]? := hg.block b (block_lt_of_cell h1) (by intro e; exact hn (by intro e0; rw [e0] at hi; simp at hi) _ hp (by simpa using e))
    rw [World.cell?_of_block (w := w) (w' := w') (a := ⟨b, o + i, none⟩) hb]
    exact h1⟩⟩
theorem grown_setCell (w : World) (g o : Nat) (u : Value) : w.grownBy (w.setCell ⟨g, o, none⟩ u) (some g) :=
  ⟨rfl, rfl, rfl, by simp [World.setCell], fun k _ hne => heap_setCell_other _ _ _ _ (by intro e; exact hne (by rw [e]))⟩
theorem Bytes.heap {w w' : World} {p : Option Addr} {len cap : Nat} {B : List Nat} (h : Bytes w p len cap B) (e : w'.heap = w.heap) : Bytes w' p len cap B :=
  ⟨h.size, h.le, h.ok, h.at'.imp id fun ⟨b, o, hp, hx⟩ => ⟨b, o, hp, fun i hi => by
    have h1 := hx i hi
    simp only [World.cell?, e] at h1 ⊢
    exact h1⟩⟩
theorem E5 : (Try.prog.info? 5).map (·.size) = some 1 := by kernel_rfl
theorem vals_drop (B : List Nat) (n : Nat) : vals (B.drop n) = (vals B).drop n := by simp [vals]
theorem Bytes.drop {w : World} {g o ln cp : Nat} {B : List Nat} (h : Bytes w (some ⟨g, o, none⟩) ln cp B) (m : Nat) (hl : m ≤ ln) : Bytes w (some ⟨g, o + m, none⟩) (ln - m) (cp - m) (B.drop m) := by
  have h1 := h.size
  have h2 := h.le
  refine ⟨by simp; omega, by omega, Sm.allB_drop h.ok m, Or.inr ⟨g, o + m, rfl, ?_⟩⟩
  rcases h.at' with hc | ⟨g', o', hp, hx⟩
  · intro i hi
    simp only [List.length_drop] at hi
    omega
  · obtain ⟨rfl, rfl⟩ : g = g' ∧ o = o' := by simpa using hp
    exact hx.drop m
theorem below_of {w w1 w2 : World} (hb : Below w1.heap.size w1 w2) (e : w1.heap = w.heap) (e1 : w1.os = w.os) (e2 : w1.tape = w.tape) (e3 : w1.output = w.output) : Below w.heap.size w w2 :=
  ⟨hb.os.trans e1, hb.tape.trans e2, hb.output.trans e3, by rw [← e]; exact hb.size, fun k hk => by rw [hb.block k (by rw [e]; exact hk), e]⟩
theorem setRow_alloc2 (w : World) (A : Obj) (old cs : Array Value) (t : TypeId) : ((w.alloc A).alloc (.cells old t (0, 0))).setRow (w.heap.size + 1) cs = (w.alloc A).alloc (.cells cs t (0, 0)) := by
  have := setRow_alloc (w.alloc A) old cs t
  rw [show (w.alloc A).heap.size = w.heap.size + 1 from by simp] at this
  exact this
theorem zeros_ok (n : Nat) : Sm.allB (zeros n) := fun x hx => by
  have := (List.mem_replicate.1 hx).2
  omega
/-- A text among texts: its bytes lie from whatever address on, or it is nil. -/
structure Tx (w : World) (p : Option Addr) (len cap : Nat) (B : List Nat) : Prop where
  size : len = B.length
  le : len ≤ cap
  ok : Sm.allB B
  at' : (p = none ∧ cap = 0) ∨ ∃ x, p = some x ∧ ∀ j u, (vals B)[j]? = some u → w.cell? (x.add j) = some u
  sp : ∀ x, p = some x → 0 < cap → x.spot = none
theorem Tx.later {w w' : World} {p : Option Addr} {len cap : Nat} {B : List Nat} (h : Tx w p len cap B) (hb : Below w.heap.size w w') : Tx w' p len cap B :=
  ⟨h.size, h.le, h.ok, h.at'.imp id fun ⟨x, hp, hx⟩ => ⟨x, hp, fun j u hu => (hb.cell (p := x.add j) (block_lt_of_cell (hx j u hu))).trans (hx j u hu)⟩, h.sp⟩
theorem Tx.cells {w : World} {x : Addr} {n c : Nat} {B : List Nat} (h : Tx w (some x) n c B) : ∀ j u, (vals B)[j]? = some u → w.cell? (x.add j) = some u := by
  rcases h.at' with ⟨hp, _⟩ | ⟨y, hp, hx⟩
  · cases hp
  · cases hp; exact hx
/-- A slice that reads as these texts. -/
structure Texts (w : World) (p : Option Addr) (len cap : Nat) (L : List (List Nat)) : Prop where
  size : len = L.length
  le : len ≤ cap
  at' : L ≠ [] → ∃ g o, p = some ⟨g, o, none⟩ ∧ ∀ i, i < L.length → ∃ q n c, w.cell? ⟨g, o + i, none⟩ = some (.slice q n c) ∧ Tx w q n c (L.getD i [])
theorem Texts.later {w w' : World} {p : Option Addr} {len cap : Nat} {L : List (List Nat)} (h : Texts w p len cap L) (hb : Below w.heap.size w w') : Texts w' p len cap L :=
  ⟨h.size, h.le, fun hn => by
    obtain ⟨g, o, hp, hx⟩ := h.at' hn
    refine ⟨g, o, hp, fun i hi => ?_⟩
    obtain ⟨q, n, c, h1, h2⟩ := hx i hi
    exact ⟨q, n, c, (hb.cell (p := ⟨g, o + i, none⟩) (block_lt_of_cell h1)).trans h1, h2.later hb⟩⟩
theorem take_succ_getD (L : List (List Nat)) (k : Nat) (h : k < L.length) : L.take (k + 1) = L.take k ++ [L.getD k []] := by
  rw [List.take_succ_eq_append_getElem h, List.getD_eq_getElem?_getD, List.getElem?_eq_getElem h]; rfl
theorem vals_append (A B : List Nat) : vals (A ++ B) = vals A ++ vals B := by simp [vals]
theorem owns_later {w w' : World} {base : Nat} {v : Value} {n : Nat} {xs : List Value} (h : w.ownsRow base 5 1 v n xs) (hb : Below w.heap.size w w') : w'.ownsRow base 5 1 v n xs := by
  obtain ⟨h1, h2⟩ := h
  refine ⟨h1, h2.imp id ?_⟩
  rintro ⟨g, cap, cur, hv, hg, hh, r⟩
  exact ⟨g, cap, cur, hv, hg, (hb.block _ (Array.getElem?_eq_some_iff.1 hh).1).trans hh, r⟩
theorem Bytes.cells {w : World} {g o n c : Nat} {B : List Nat} (h : Bytes w (some ⟨g, o, none⟩) n c B) : ∀ j u, (vals B)[j]? = some u → w.cell? ((⟨g, o, none⟩ : Addr).add j) = some u := fun j u hu => by
  have hj : j < B.length := by have := (List.getElem?_eq_some_iff.1 hu).1; simpa [vals] using this
  obtain ⟨g', o', hp, hx⟩ := h.ne (by intro e; rw [e] at hj; simp at hj)
  obtain ⟨rfl, rfl⟩ : g = g' ∧ o = o' := by simpa using hp
  rw [vals_get _ _ hj] at hu
  rw [Addr.add_mid, hx j hj, hu]
theorem Bytes.tx {w : World} {p : Option Addr} {n c : Nat} {B : List Nat} (h : Bytes w p n c B) : Tx w p n c B := by
  have h1 := h.size
  have h2 := h.le
  rcases h.at' with hc | ⟨g, o, hp, hx⟩
  · refine ⟨h1, h2, h.ok, ?_, fun _ _ h3 => by omega⟩
    cases p with
    | none => exact Or.inl ⟨rfl, hc⟩
    | some x =>
      refine Or.inr ⟨x, rfl, fun j u hu => ?_⟩
      have := (List.getElem?_eq_some_iff.1 hu).1
      rw [vals_length] at this
      omega
  · subst hp
    exact ⟨h1, h2, h.ok, Or.inr ⟨_, rfl, h.cells⟩, fun x hx _ => by cases hx; rfl⟩
theorem Tx.bytes {w : World} {p : Option Addr} {n c : Nat} {B : List Nat} (h : Tx w p n c B) : Bytes w p n c B := by
  refine ⟨h.size, h.le, h.ok, ?_⟩
  rcases h.at' with ⟨_, hc⟩ | ⟨x, hp, hx⟩
  · exact Or.inl hc
  · rcases Nat.eq_zero_or_pos c with h0 | h0
    · exact Or.inl h0
    · have hs := h.sp x hp h0
      obtain ⟨g, o, sp⟩ := x
      obtain rfl : sp = none := hs
      exact Or.inr ⟨g, o, hp, fun i hi => by rw [← Addr.add_mid]; exact hx i _ (vals_get B i hi)⟩
theorem A9 : Try.prog.underlying 9 = some .string := by kernel_rfl
theorem C5 : Try.prog.cellsOf 5 = 1 := by kernel_rfl
theorem run_part_u8 (l : List Nat) (i : Nat) (h : i < l.length) (w : World) : (_root_.Go.part 5 (u8s l) (i * 1)).run Try.prog w = .ok (.int .u8 (l.getD i 0 : Nat)) w := by
  have hagg : (isAgg 5).run Try.prog w = .ok false w := by
    unfold isAgg
    rw [Sem.run_bind, run_underlying U5 w]
    rfl
  have := u8s_get l i h
  simp [_root_.Go.part, Sem.run_bind, hagg, this]
theorem eqItems_u8 (a b : List Nat) (d : Nat) (w : World) : ∀ is : List Nat, (∀ i ∈ is, i < a.length ∧ i < b.length) → (Op.eqItems (d + 1) 5 1 (u8s a) (u8s b) is).run Try.prog w = .ok (is.all fun i => a.getD i 0 == b.getD i 0) w
  | [], _ => rfl
  | i :: is, h => by
    have h1 := h i (by simp)
    have ih := eqItems_u8 a b d w is (fun j hj => h j (by simp [hj]))
    have e1 : (Op.equalIn (d + 1) 5 (.int .u8 (a.getD i 0 : Nat)) (.int .u8 (b.getD i 0 : Nat))).run Try.prog w = .ok (a.getD i 0 == b.getD i 0) w := by
      rw [run_equalIn_int w d 5 .u8 .u8 _ _ U5]
      congr 1
      rw [Bool.eq_iff_iff]
      simp only [beq_iff_eq]
      omega
    simp only [Op.eqItems, Sem.run_bind, run_part_u8 a i h1.1, run_part_u8 b i h1.2, Result.andThen_ok, e1]
    cases hc : (a.getD i 0 == b.getD i 0)
    · simp only [List.all_cons, hc, Bool.false_and]
      rfl
    · simp only [List.all_cons, hc, Bool.true_and, Bool.not_true, Bool.false_eq_true, if_false]
      exact ih
theorem all_getD (a b : List Nat) (ha : a.length = 32) (hb : b.length = 32) : ((List.range 32).all fun i => a.getD i 0 == b.getD i 0) = decide (a = b) := by
  rw [Bool.eq_iff_iff]
  simp only [List.all_eq_true, List.mem_range, beq_iff_eq, decide_eq_true_eq]
  constructor
  · intro h
    apply List.ext_getElem (by omega)
    intro i h1 h2
    have := h i (by omega)
    simpa [List.getD_eq_getElem?_getD, List.getElem?_eq_getElem h1, List.getElem?_eq_getElem h2] using this
  · rintro rfl i _
    rfl
theorem Bytes.row {w : World} {g : Nat} {L : List Nat} {t : TypeId} {fr : Nat × Nat} (hg : w.heap[g]? = some (.cells (u8s L) t fr)) (hL : Sm.allB L) : Bytes w (some ⟨g, 0, none⟩) L.length L.length L :=
  ⟨rfl, Nat.le_refl _, hL, Or.inr ⟨g, 0, rfl, fun i hi => by rw [Nat.zero_add]; exact u8s_cell hg i hi⟩⟩
/-- A text's bytes as numbers. -/
def txt (s : ByteArray) : List Nat := s.data.toList.map UInt8.toNat
theorem txt_length (s : ByteArray) : (txt s).length = s.size := by unfold txt; rw [List.length_map]; rfl
theorem txt_ok (s : ByteArray) : Sm.allB (txt s) := by
  intro x hx
  simp only [txt, List.mem_map] at hx
  obtain ⟨b, _, rfl⟩ := hx
  exact b.toNat_lt
theorem index_txt (s : ByteArray) (i : Int) (j : Nat) (hi : i = j) (h : j < s.size) (w : World) : (Instr.index 9 (.string s) (.int .i64 i)).run Try.prog w = .ok (.int .u8 ((txt s).getD j 0 : Nat)) w := by
  subst hi
  rw [run_index_string w 9 s .i64 _ A9, dif_pos (by omega)]
  have h2 : j < s.data.size := h
  have e : (txt s).getD j 0 = (s.data[j]'h2).toNat := by
    unfold txt
    rw [List.getD_eq_getElem?_getD, List.getElem?_map, Array.getElem?_toList, Array.getElem?_eq_getElem h2]
    rfl
  rw [e]
  rfl
def strOf (l : List Nat) : ByteArray := strOfNums (l.map Int.ofNat)
theorem txt_strOf {l : List Nat} (h : Sm.allB l) : txt (strOf l) = l := by
  unfold txt strOf
  rw [strOfNums_data, List.map_map, List.map_map]
  conv => rhs; rw [← List.map_id l]
  apply List.map_congr_left
  intro x hx
  have := h x hx
  simp
  omega
theorem strOf_txt (s : ByteArray) : strOf (txt s) = s := by
  have h : (strOf (txt s)).data.toList = s.data.toList := by
    unfold txt strOf
    rw [strOfNums_data, List.map_map, List.map_map]
    conv => rhs; rw [← List.map_id s.data.toList]
    apply List.map_congr_left
    intro x _
    simp
  cases s with
  | mk a =>
    cases hs : strOf (txt ⟨a⟩) with
    | mk b =>
      rw [hs] at h
      congr 1
      exact Array.ext' h
theorem strOf_size (l : List Nat) : (strOf l).size = l.length := by unfold strOf; rw [strOfNums_size, List.length_map]
theorem grown_below {w wr w' : World} {g : Nat} (h : Below w.heap.size w wr) (hg : wr.grownBy w' (some g)) (hl : w.heap.size ≤ g) : Below w.heap.size w w' :=
  h.grown hg h.size (fun k hk => by simp at hk; omega)
theorem owns_form {w : World} {base n : Nat} {v : Value} {B : List Nat} (h : w.ownsRow base 5 1 v n (vals B)) (hB : Sm.allB B) : ∃ q c, v = .slice q n c ∧ Bytes w q n c B := by
  have hl : n = B.length := by have := h.1; rw [vals_length, Nat.mul_one] at this; exact this.symm
  rcases h.2 with ⟨rfl, h0⟩ | ⟨g, cap, cur, rfl, r⟩
  · subst h0
    have hb : B = [] := List.length_eq_zero_iff.1 hl.symm
    exact ⟨none, 0, rfl, ⟨hl, Nat.le_refl _, hB, Or.inl rfl⟩⟩
  · exact ⟨_, cap, rfl, Bytes.of_owns h hB⟩
theorem vals_set (B : List Nat) (j x : Nat) : vals (B.set j x) = (vals B).set j (.int .u8 (x : Nat)) := by simp [vals, List.map_set]
theorem set_ok {B : List Nat} (h : Sm.allB B) (j x : Nat) (hx : x < 256) : Sm.allB (B.set j x) := fun y hy => by
  rcases List.mem_or_eq_of_mem_set hy with h1 | rfl
  · exact h y h1
  · exact hx
theorem grown_twice {a b c : World} {r : Option Nat} (h : a.grownBy b r) (k : b.grownBy c r) : a.grownBy c r :=
  ⟨k.os.trans h.os, k.tape.trans h.tape, k.output.trans h.output, Nat.le_trans h.size k.size, fun i hi hne => (k.block i (Nat.lt_of_lt_of_le hi h.size) hne).trans (h.block i hi hne)⟩
theorem strOf_eq {A B : List Nat} (hA : Sm.allB A) (hB : Sm.allB B) : strOf A = strOf B ↔ A = B := by
  constructor
  · intro h
    rw [← txt_strOf hA, ← txt_strOf hB, h]
  · rintro rfl
    rfl
theorem Tx.heap {w w' : World} {p : Option Addr} {n c : Nat} {B : List Nat} (h : Tx w p n c B) (e : w'.heap = w.heap) : Tx w' p n c B :=
  ⟨h.size, h.le, h.ok, h.at'.imp id fun ⟨x, hp, hx⟩ => ⟨x, hp, fun j u hu => by have := hx j u hu; simp only [World.cell?, e] at this ⊢; exact this⟩, h.sp⟩
theorem str_eq {A B : List Nat} (hA : Sm.allB A) (hB : Sm.allB B) : ((strOf A).toList == (strOf B).toList) = decide (A = B) := by
  rw [Bool.eq_iff_iff, beq_iff_eq, decide_eq_true_iff, ByteArray.toList_eq, ByteArray.toList_eq]
  constructor
  · intro h
    apply (strOf_eq hA hB).1
    cases hA' : strOf A
    cases hB' : strOf B
    rw [hA', hB'] at h
    congr 1
    exact Array.ext' h
  · rintro rfl
    rfl
theorem Below.drewN {B : Nat} {a w : World} (h : Below B a w) (n : Nat) : Below B a (w.drewN n) := ⟨h.os, h.tape, h.output, h.size, h.block⟩
theorem tx_of_owns {w : World} {base n : Nat} {q : Option Addr} {c : Nat} {B : List Nat} (h : w.ownsRow base 5 1 (.slice q n c) n (vals B)) (hB : Sm.allB B) : Tx w q n c B := by
  have hl : n = B.length := by have := h.1; rw [vals_length, Nat.mul_one] at this; exact this.symm
  rcases h.2 with ⟨h1, h0⟩ | ⟨g, cap, cur, h1, r⟩
  · simp at h1
    obtain ⟨rfl, rfl, rfl⟩ := h1
    exact ⟨hl, Nat.le_refl _, hB, Or.inl ⟨rfl, rfl⟩, fun _ h _ => by cases h⟩
  · simp at h1
    obtain ⟨rfl, rfl⟩ := h1
    exact (Bytes.of_owns h hB).tx
/-- 'wpList_load_row' under a guard that says yes. -/
theorem wpList_load_rowG {ops : Array Oper} {rest : List Oper} {o : Oper} {a : Act} {w : World} {Q : Exit → Act → World → Prop} (hw : Region.wanted o (yielded ops a.tmps) = true) (ty : TypeId) (x : Operand) (ho : o.op = .load ty x)
    (g : Nat) (hx : a.eval x = .pointer (some ⟨g, 0, none⟩)) (t : TypeId) (cs : Array Value) (fr : Nat × Nat) {n : Nat} {e : TypeId} (hg : w.heap[g]? = some (.cells cs t fr))
    (hu : Try.prog.underlying ty = some (.array n e)) (hi : (Try.prog.info? ty).map (·.size) = some cs.size)
    (h : wpList Try.prog ops Q rest (a.put o.dst (.agg cs)) w) : wpList Try.prog ops Q (o :: rest) a w :=
  BigFrame.wpList_want hw fun _ hK => wp_load_row ty x ho g hx t cs fr _ hg hu rfl hi (hK _ _ h)
end Go.Proofs.Ytlmbicelngpgoaa

/- What every row's proof wants: the program's closed facts; arguments opened: bytes. -/
namespace Go.Proofs.Ytlmbicelngpgoaa
open Go.ChangeShapes Go.WideShapes Go.ChangeAt Go.RowKit Go.Deep

theorem gen_own : ownKnob Try.prog.godebug = none := by kernel_rfl
theorem gen_laidOut : laidOutB Try.prog = true := by kernel_rfl
def nats (z : List Int) (n : Nat) : List Nat := (z.take n).map Int.toNat
theorem nats_ok {z : List Int} (h : ∀ n ∈ z, (Lit.int .u8 n).wf = true) (n : Nat) : Sm.allB (nats z n) := by
  intro x hx
  simp only [nats, List.mem_map] at hx
  obtain ⟨y, hy, rfl⟩ := hx
  have := bounds_u8 (h y (List.mem_of_mem_take hy))
  omega
theorem nats_get {z : List Int} (h : ∀ n ∈ z, (Lit.int .u8 n).wf = true) (n j : Nat) (hn : n ≤ z.length) (u : Value) (hu : (vals (nats z n))[j]? = some u) : j < n ∧ u = .int .u8 (z.getD j 0) := by
  have hj : j < n := by
    have := (List.getElem?_eq_some_iff.1 hu).1
    simp [vals, nats] at this
    omega
  refine ⟨hj, ?_⟩
  have hz : j < z.length := by omega
  have hb := bounds_u8 (h z[j] (List.getElem_mem hz))
  rw [vals_get _ _ (by simp [nats]; omega)] at hu
  simp only [Option.some.injEq] at hu
  rw [← hu]
  simp only [nats, List.getD_eq_getElem?_getD, List.getElem?_map, List.getElem?_take_of_lt hj, List.getElem?_eq_getElem hz, Option.map_some, Option.getD_some]
  congr 1
  omega
end Go.Proofs.Ytlmbicelngpgoaa

/- Slices of bytes turned into texts. -/
namespace Go.Proofs.Ytlmbicelngpgoaa
open Go.RowKit

theorem A22 : Try.prog.underlying 27 = some (.slice 5) := by kernel_rfl
/-- Bytes that are read become a text of the same bytes. -/
theorem convert_bytes {w : World} {p : Option Addr} {n c : Nat} {B : List Nat} (h : Bytes w p n c B) (hB : B ≠ []) : (convert 27 9 (.slice p n c)).run Try.prog w = .ok (.string (strOfNums (B.map Int.ofNat))) w := by
  obtain ⟨g, o, rfl, hx⟩ := h.ne hB
  exact run_convert_bytes_arg (P := Try.prog) w 27 5 A22 U5 g o n c (B.map Int.ofNat) (by rw [List.length_map]; exact h.size.symm) (fun i hi => by
    have hi2 : i < B.length := by have := h.size; omega
    rw [hx i hi2]
    simp [List.getD_eq_getElem?_getD, hi2]) 9 A9
theorem convert_tx {w : World} {p : Option Addr} {n c : Nat} {B : List Nat} (h : Tx w p n c B) : (convert 27 9 (.slice p n c)).run Try.prog w = .ok (.string (strOf B)) w := by
  by_cases hB : B = []
  · subst hB
    obtain rfl : n = 0 := h.size
    rw [run_convert_bytes_string w _ _ _ _ _ _ A22 U5 A9]
    cases p with
    | none => rfl
    | some x => exact rfl
  · exact convert_bytes h.bytes hB
end Go.Proofs.Ytlmbicelngpgoaa

/- An argument that is bytes, opened. -/
namespace Go.Proofs.Ytlmbicelngpgoaa
open Go.ChangeShapes Go.WideShapes Go.ChangeAt Go.RowKit Go.Deep

theorem C22 : Try.prog.cellsOf 27 = 1 := by kernel_rfl
/-- Bytes, as the reading has them. -/
theorem open_bytes {H : Type} {enc : TypeId × Value → H} {W : World} {base : Nat} {held : Bool} {fuel : Nat} {a0 : Option Addr} {len0 cap0 : Nat} {x : DataW H × List MemPlace}
    (h : DataW.trod enc Try.prog W base (fun _ => true) held fuel 27 (Value.slice a0 len0 cap0).cells.toList = some x) : (∃ B, Tx W a0 len0 cap0 B) ∧ len0 ≤ 9223372036854775807 := by
  rcases open_ints Try.underlying27 Try.underlying5 C5 h with ⟨hcs, _⟩ | ⟨a, len, cap, zs, hcs, _, hl, hm, hz, _, hx, hw⟩
  · simp [Value.cells] at hcs
    obtain ⟨rfl, rfl, rfl⟩ := hcs
    exact ⟨⟨[], rfl, Nat.le_refl _, fun x hx => by simp at hx, Or.inl ⟨rfl, rfl⟩, fun _ h _ => by cases h⟩, by omega⟩
  · simp [Value.cells] at hcs
    obtain ⟨rfl, rfl, rfl⟩ := hcs
    simp only [if_true] at hz
    refine ⟨⟨nats zs len0, by simp [nats]; omega, hl, nats_ok hw _, Or.inr ⟨a, rfl, fun j u hu => ?_⟩, fun y hy hc => ?_⟩, by unfold maxLen at hm; omega⟩
    · obtain ⟨hj, rfl⟩ := nats_get hw len0 j (by omega) u hu
      exact hx j (by omega)
    · cases hy
      have := World.cell?_spot (hx 0 (by omega))
      simpa [Addr.add] using this
end Go.Proofs.Ytlmbicelngpgoaa

/- A region that draws its order, within a round of a range over a function: walked as anywhere, where it defers nothing. -/
namespace Go.Proofs.Ytlmbicelngpgoaa.Wl
open Go Go.RowKit

section
variable {P : Program} {ops : Array Oper} {Q : Exit → Act → World → Prop} {md : Region.Mode} {l n : Nat}
theorem opIn_round {i : Nat} {K K' : Act → World → Prop} {a : Act} {w : World} (hd : ∀ (i : Nat) (o : Oper), ops[i]? = some o → ∀ c, o.op ≠ .defer c) (hQ : ¬ LetsOut Q) (hK : ∀ a w, K a w → K' a w) (h : wpOp P ops Q i K a w) : wpOpIn (Fence.wide.inRound l) n P ops Q i K' a w := by
  unfold wpOp at h
  unfold wpOpIn
  cases ho : ops[i]? with
  | none => rw [ho] at h; exact hK _ _ h
  | some o =>
    rw [ho] at h
    simp only at h ⊢
    split
    · next hw =>
      rw [if_pos hw] at h
      rcases h with h | ⟨_, h⟩
      · refine ⟨fun _ _ => trivial, ?_⟩
        show Oper.uponIn _ n P o a K' Q ((Oper.semAt (some l) a.eval o).run P w)
        rw [Oper.semAt_some l a.eval o (hd i o ho)]
        unfold Oper.wp at h
        generalize (execOp a.eval o).run P w = r at *
        cases r with
        | ok x w' =>
          cases x with
          | value v => exact hK _ _ h
          | skip => exact hK _ _ h
          | defer d => exact hK _ _ h
          | enter f args =>
            refine ⟨fun h => (by cases h), CallsIn.inRound l (callsIn_wide.2 (Calls.mono h fun e w'' he => ?_))⟩
            cases e with
            | returned v => exact hK _ _ he
            | panicked c => exact he
            | outgrown => exact he
          | row row args => exact ⟨fun h => (by cases h), fun c cs _ => by
              obtain ⟨v, w'', r, s⟩ := h c cs
              exact ⟨v, w'', hK _ _ r, stepsIn_wide.2 s⟩⟩
          | _ => exact False.elim h
        | halt x w' => cases x <;> exact h
      · exact absurd h hQ
    · next hw =>
      rw [if_neg hw] at h
      exact ⟨fun _ _ => trivial, hK _ _ h⟩
theorem anyIn_round (hd : ∀ (i : Nat) (o : Oper), ops[i]? = some o → ∀ c, o.op ≠ .defer c) (hQ : ¬ LetsOut Q) : ∀ (fuel : Nat) (listed : Array Bool) (a : Act) (w : World), wpAny P md ops Q fuel listed a w → wpAnyIn (Fence.wide.inRound l) n P md ops Q fuel listed a w
  | 0, _, _, _, h => h
  | fuel + 1, _, _, _, h => ⟨h.1, fun i hi => opIn_round hd hQ (fun a w k => anyIn_round hd hQ fuel _ a w k) (h.2 i hi)⟩
/-- A region that is left at its end alone. -/
def Nrm (K : Act → World → Prop) : Exit → Act → World → Prop
  | .normal, a, w => K a w
  | _, _, _ => False
theorem nrm_normal {K : Act → World → Prop} {a : Act} {w : World} (h : K a w) : Nrm K .normal a w := h
theorem nrm_le {Q : Exit → Act → World → Prop} : ∀ e a w, Nrm (Q .normal) e a w → Q e a w := fun e a w h => by
  cases e <;> first | exact h | exact False.elim h
theorem region_nrm {S : World → Prop} {id : Nat} {a : Act} {w : World} (hm : P.follows .mixedOrders = true) (hS : S w.drew) (h : S w.drew → wpAnyH P .any ops (Nrm (Q .normal)) S ops.size (Array.replicate ops.size false) a w.drew) : (Code.region id ops true).wp P Q a w :=
  wp_mono (wp_region_held_drew hm hS h) nrm_le
/-- The beginning of such a region within a round. -/
theorem region_round {S : World → Prop} {id : Nat} {a : Act} {w : World} (hm : P.follows .mixedOrders = true) (hd : (ops.toList.all fun o => match o.op with | .defer _ => false | _ => true) = true) (hS : S w.drew) (h : S w.drew → wpAnyH P .any ops (Nrm (Q .normal)) S ops.size (Array.replicate ops.size false) a w.drew) : (Code.region id ops true).wpIn (Fence.wide.inRound l) n P Q a w :=
  wpIn_mono (wpIn_region_any hm (anyIn_round (fun i o ho c hc => by
    have h1 := List.all_eq_true.1 hd o (Array.mem_toList_iff.2 (Array.mem_of_getElem? ho))
    rw [hc] at h1
    cases h1) (fun ⟨_, _, h⟩ => h) _ _ _ _ (wpAny_of_held _ _ _ _ (h hS)))) nrm_le
/-- A range over a function whose variable is one slot: wpIn_rangeFunc_ownG, the temporaries of a round named by the statement's own. -/
theorem range_own {α : Type} {g : Operand} {ps : Array Tmp} {assign body : Code} {a : Act} {w : World} (h1 : 1 ≤ n) {gf : Nat} {lb : Array Value} (hg : a.eval g = .func (.func gf) #[] lb) (eg : ∀ args w, (callFunc gf args).run P w = .ok (.enter gf args) w)
    {encs : α → Array Value} {Kp : World → World → Prop} {S Sp : List α → Prop} {N : Nat} {w0 : World} (hseq : SeqStopsK Fence.wide (n - 1) P gf lb encs Kp S Sp N w0)
    (hKt : ∀ {A B C : World}, Kp A B → Kp B C → Kp A C) (hKb : ∀ (W : World) (l : Nat) (o o' : Obj), w.heap.size ≤ l → W.heap[l]? = some o → o.isCells = false → o.isWalk = false → Kp W (W.putObj l o')) (hb0 : Below w0.heap.size w0 w) (hps : ∀ x, (encs x).size = ps.size)
    (I : List α → World → Prop) (Ix : Code → List α → World → Prop) (hI : OwnFrom w.heap.size I) (hIx : ∀ c, OwnFrom w.heap.size (Ix c)) (h0 : I [] w) (t sl : Tmp) (val : α → Value)
    (hassign : ∀ (l : Nat) (x : α) (W : World) (K : Act → World → Prop), K (Act.put { tmps := a.tmps.setIfInBounds t (val x), defers := [] } (some sl) (val x)) W →
      assign.wpIn (Fence.wide.inRound l) (n - 1 - 1) P (Exit.then K (fun _ _ _ => False)) { tmps := (ps.zip (encs x)).foldl (fun t (p, v) => t.setIfInBounds p v) a.tmps, defers := [] } W)
    (hbody : ∀ (l : Nat) (pre : List α) (x : α) (W : World), I pre W → pre.length < N → body.wpIn (Fence.wide.inRound l) (n - 1 - 1) P (ownPostG w.heap.size Kp I Ix (pre ++ [x]) W) (Act.put { tmps := a.tmps.setIfInBounds t (val x), defers := [] } (some sl) (val x)) W)
    (hdone : ∀ (D : Nat) (xs : List α) (W : World), w.heap.size ≤ D → S xs → I xs W → W.heap[D]? = some (.deferred (some [])) → Q .normal { a with defers := { target := .collected D, args := #[] } :: a.defers } W)
    (hstop : ∀ (D : Nat) (c : Code) (pre : List α) (W : World), w.heap.size ≤ D → Sp pre → Ix c pre W → W.heap[D]? = some (.deferred (some [])) → c.wpIn Fence.wide n P Q { a with defers := { target := .collected D, args := #[] } :: a.defers } W) :
    (Code.rangeFunc g ps assign body).wpIn Fence.wide n P Q a w :=
  wpIn_rangeFunc_ownG rfl h1 hg trivial eg hseq hKt hKb hb0 hps I Ix hI hIx h0 _ hassign hbody hdone hstop
end
end Go.Proofs.Ytlmbicelngpgoaa.Wl

/- Digests: arrays of 32 bytes, compared. -/
namespace Go.Proofs.Ytlmbicelngpgoaa
open Go.RowKit

theorem A25 : Try.prog.underlying 32 = some (.array 32 5) := by kernel_rfl
theorem Z25 : (Try.prog.info? 32).map (fun i => (i.zero, i.size)) = some (some (.agg (u8s (zeros 32))), 32) := by kernel_rfl
theorem S25 : (Try.prog.info? 32).map (·.size) = some 32 := by kernel_rfl
theorem digest_equal (a b : List Nat) (ha : a.length = 32) (hb : b.length = 32) (d : Nat) (w : World) : (Op.equalIn (d + 2) 32 (.agg (u8s a)) (.agg (u8s b))).run Try.prog w = .ok (decide (a = b)) w := by
  obtain ⟨i, hi, hi1⟩ : ∃ i, Try.prog.info? 5 = some i ∧ i.size = 1 := by
    obtain ⟨i5, hi, _, hi1, _⟩ := info_parts I5
    exact ⟨i5, hi, hi1⟩
  rw [run_equalIn_array w (d + 1) (u8s a) (u8s b) A25 hi, C5, eqItems_u8 a b d w _ (fun i hi => by have := List.mem_range.1 hi; omega), all_getD a b ha hb]
theorem digest_eql (a b : List Nat) (ha : a.length = 32) (hb : b.length = 32) (w : World) : (binOp .eql 32 (.agg (u8s a)) (.agg (u8s b))).run Try.prog w = .ok (.bool (decide (a = b))) w := by
  rw [run_eql_struct, digest_equal a b ha hb 9998 w]
  rfl
theorem digest_neq (a b : List Nat) (ha : a.length = 32) (hb : b.length = 32) (w : World) : (binOp .neq 32 (.agg (u8s a)) (.agg (u8s b))).run Try.prog w = .ok (.bool (!decide (a = b))) w := by
  rw [run_neq_struct, digest_equal a b ha hb 9998 w]
  rfl
end Go.Proofs.Ytlmbicelngpgoaa

/- A digest as a key of a map. -/
namespace Go.Proofs.Ytlmbicelngpgoaa.Pg
open Go.RowKit

theorem laidOut : laidOutB Try.prog = true := by kernel_rfl
/-- Digests are keys. -/
theorem keyD : Go.Maps.Keyed Try.prog 32 :=
  Go.Maps.Keyed.of_law (deep_law_laid laidOut (m := 2) (by decide) (of_decide_eq_true (by kernel_rfl)) (by kernel_rfl) (by kernel_rfl))
/-- What a digest reads as, as a key. -/
def klit (d : List Nat) : Lit := .string (keyBytes (d.map fun x : Nat => Lit.int .u8 (x : Int)))
theorem mapM_some {α β : Type} (f : α → Option β) (g : α → β) : ∀ l : List α, (∀ x ∈ l, f x = some (g x)) → l.mapM f = some (l.map g)
  | [], _ => rfl
  | a :: l, h => by
    rw [List.mapM_cons, h a List.mem_cons_self, mapM_some f g l (fun x hx => h x (List.mem_cons_of_mem _ hx))]
    rfl
theorem cells5 : Try.prog.cellsOf 5 = 1 := by kernel_rfl
theorem cells32 : Try.prog.cellsOf 32 = 32 := by kernel_rfl
theorem lits_u8 (m : Nat) {x : Nat} (hx : x < 256) : Try.prog.keyLits (m + 1) 5 [.int .u8 (x : Int)] = some [.int .u8 (x : Int)] := by
  have hw : (Lit.int .u8 (x : Int)).wf = true := by simp [Lit.wf, IntKind.min, IntKind.max, IntKind.bits, IntKind.signed]; omega
  unfold Program.keyLits
  rw [U5]
  simp [hw]
theorem lits_d (m : Nat) {d : List Nat} (hd : d.length = 32) (ho : Sm.allB d) : Try.prog.keyLits (m + 2) 32 (vals d) = some (d.map fun x : Nat => Lit.int .u8 (x : Int)) := by
  unfold Program.keyLits
  rw [A25]
  simp only [cells32, cells5, vals_length, hd, if_true, Nat.mul_one]
  rw [mapM_some _ (fun i => [Lit.int .u8 ((d.getD i 0 : Nat) : Int)]) _ (fun i hi => by
    have hi : i < 32 := List.mem_range.1 hi
    have h1 : ((vals d).drop i).take 1 = [.int .u8 ((d.getD i 0 : Nat) : Int)] := by
      rw [List.drop_eq_getElem_cons (by rw [vals_length]; omega), List.take_succ_cons, List.take_zero]
      simp [vals, List.getD_eq_getElem?_getD, hd, hi]
    rw [h1]
    refine lits_u8 m (ho _ ?_)
    rw [List.getD_eq_getElem?_getD, List.getElem?_eq_getElem (by omega), Option.getD_some]
    exact List.getElem_mem _)]
  simp only [Option.map_some, Option.some.injEq]
  rw [← hd]
  clear ho hd
  induction d with
  | nil => rfl
  | cons x d ih => rw [List.length_cons, List.range_succ_eq_map]; simp [List.map_map] at ih ⊢; simpa [Function.comp_def] using ih
theorem klit_of {d : List Nat} (hd : d.length = 32) (ho : Sm.allB d) : keyOf Try.prog 32 (.agg (u8s d)) = some (klit d) := by
  have h1 : Try.prog.keyType 32 = true := by kernel_rfl
  have h2 : (Value.agg (u8s d)).formed Try.prog 32 = true := by simp [Value.formed, cells32, u8s_size, hd]
  have h3 : (Value.agg (u8s d)).cells.toList = vals d := by simp [Value.cells, u8s_toList]
  obtain ⟨m, hm⟩ : ∃ m, Try.prog.types.size + 1 = m + 2 := ⟨Try.prog.types.size - 1, by have : 0 < Try.prog.types.size := of_decide_eq_true (by kernel_rfl); omega⟩
  unfold keyOf
  rw [A25, h3, hm, lits_d m hd ho]
  simp [h1, h2, klit]
theorem klit_inj {a b : List Nat} (ha : a.length = 32) (hao : Sm.allB a) (hb : b.length = 32) (hbo : Sm.allB b) (h : klit a = klit b) : a = b := by
  have h1 := keyD.inj (klit_of ha hao) (h ▸ klit_of hb hbo)
  have h2 : vals a = vals b := by
    have := congrArg (fun v : Value => v.cells.toList) h1
    simpa [Value.cells, u8s_toList] using this
  have h3 : ∀ x y : Nat, Value.int .u8 (x : Int) = Value.int .u8 (y : Int) → x = y := fun x y e => by cases e; rfl
  exact (List.map_inj_right h3).1 h2
theorem klit_key (d : List Nat) : WideAt.IsKeyLit (klit d) := trivial
end Go.Proofs.Ytlmbicelngpgoaa.Pg

/- Plain mathematics of SHA-256, over natural numbers: words below 2^32, lists of words, lists of bytes. No program is named here. -/
namespace Go.Proofs.Ytlmbicelngpgoaa.Sm
def rot (n x : Nat) : Nat := (x * 2 ^ (32 - n)) % 4294967296 ||| x / 2 ^ n
def s0 (x : Nat) : Nat := (rot 7 x ^^^ rot 18 x) ^^^ x / 8
def s1 (x : Nat) : Nat := (rot 17 x ^^^ rot 19 x) ^^^ x / 1024
def b0 (a : Nat) : Nat := (rot 2 a ^^^ rot 13 a) ^^^ rot 22 a
def b1 (e : Nat) : Nat := (rot 6 e ^^^ rot 11 e) ^^^ rot 25 e
def ch (e f g : Nat) : Nat := (e &&& f) ^^^ ((4294967295 - e) &&& g)
def mj (a b c : Nat) : Nat := ((a &&& b) ^^^ (a &&& c)) ^^^ (b &&& c)
structure V8 where
  (a b c d e f g h : Nat)
def V8.ok (v : V8) : Prop := v.a < 4294967296 ∧ v.b < 4294967296 ∧ v.c < 4294967296 ∧ v.d < 4294967296 ∧ v.e < 4294967296 ∧ v.f < 4294967296 ∧ v.g < 4294967296 ∧ v.h < 4294967296
def V8.list (v : V8) : List Nat := [v.a, v.b, v.c, v.d, v.e, v.f, v.g, v.h]
def t1 (k w : Nat) (v : V8) : Nat := (v.h + b1 v.e + ch v.e v.f v.g + k + w) % 4294967296
def t2 (v : V8) : Nat := (b0 v.a + mj v.a v.b v.c) % 4294967296
def step (k w : Nat) (v : V8) : V8 := ⟨(t1 k w v + t2 v) % 4294967296, v.a, v.b, v.c, (v.d + t1 k w v) % 4294967296, v.e, v.f, v.g⟩
def rounds (K W : List Nat) (v : V8) : Nat → V8
  | 0 => v
  | n + 1 => step (K.getD n 0) (W.getD n 0) (rounds K W v n)
def add8 (v u : V8) : V8 := ⟨(v.a + u.a) % 4294967296, (v.b + u.b) % 4294967296, (v.c + u.c) % 4294967296, (v.d + u.d) % 4294967296, (v.e + u.e) % 4294967296, (v.f + u.f) % 4294967296, (v.g + u.g) % 4294967296, (v.h + u.h) % 4294967296⟩
def turn (K W : List Nat) (v : V8) : V8 := add8 v (rounds K W v 64)
def word (B : List Nat) (i : Nat) : Nat := B.getD (4 * i) 0 * 16777216 + B.getD (4 * i + 1) 0 * 65536 + B.getD (4 * i + 2) 0 * 256 + B.getD (4 * i + 3) 0
def words (B : List Nat) : Nat → List Nat
  | 0 => []
  | n + 1 => words B n ++ [word B n]
def more (l : List Nat) : Nat → List Nat
  | 0 => l
  | n + 1 => more l n ++ [((more l n).getD n 0 + s0 ((more l n).getD (n + 1) 0) + (more l n).getD (n + 9) 0 + s1 ((more l n).getD (n + 14) 0)) % 4294967296]
def sched (B : List Nat) : List Nat := more (words B 16) 48
def ks : List Nat := [0x428a2f98, 0x71374491, 0xb5c0fbcf, 0xe9b5dba5, 0x3956c25b, 0x59f111f1, 0x923f82a4, 0xab1c5ed5, 0xd807aa98, 0x12835b01, 0x243185be, 0x550c7dc3, 0x72be5d74, 0x80deb1fe, 0x9bdc06a7, 0xc19bf174, 0xe49b69c1, 0xefbe4786, 0x0fc19dc6, 0x240ca1cc, 0x2de92c6f, 0x4a7484aa, 0x5cb0a9dc, 0x76f988da, 0x983e5152, 0xa831c66d, 0xb00327c8, 0xbf597fc7, 0xc6e00bf3, 0xd5a79147, 0x06ca6351, 0x14292967, 0x27b70a85, 0x2e1b2138, 0x4d2c6dfc, 0x53380d13, 0x650a7354, 0x766a0abb, 0x81c2c92e, 0x92722c85, 0xa2bfe8a1, 0xa81a664b, 0xc24b8b70, 0xc76c51a3, 0xd192e819, 0xd6990624, 0xf40e3585, 0x106aa070, 0x19a4c116, 0x1e376c08, 0x2748774c, 0x34b0bcb5, 0x391c0cb3, 0x4ed8aa4a, 0x5b9cca4f, 0x682e6ff3, 0x748f82ee, 0x78a5636f, 0x84c87814, 0x8cc70208, 0x90befffa, 0xa4506ceb, 0xbef9a3f7, 0xc67178f2]
def first : V8 := ⟨0x6a09e667, 0xbb67ae85, 0x3c6ef372, 0xa54ff53a, 0x510e527f, 0x9b05688c, 0x1f83d9ab, 0x5be0cd19⟩
/-- The words behind n full blocks of the bytes B. -/
def blocks (B : List Nat) (v : V8) : Nat → V8
  | 0 => v
  | n + 1 => turn ks (sched (B.drop (64 * n))) (blocks B v n)
def big (n : Nat) (k : Nat) : Nat := n / 2 ^ (8 * (7 - k)) % 256
def bigs (n : Nat) : List Nat := [big n 0, big n 1, big n 2, big n 3, big n 4, big n 5, big n 6, big n 7]
def fill (n : Nat) : List Nat := 128 :: (List.replicate ((119 - n % 64) % 64) 0 ++ bigs (8 * n))
def bytes4 (w : Nat) : List Nat := [w / 16777216 % 256, w / 65536 % 256, w / 256 % 256, w % 256]
def bytesOf (v : V8) : List Nat := v.list.flatMap bytes4
def full (T : List Nat) : List Nat := T ++ fill T.length
/-- The sum of a text. -/
def sum (T : List Nat) : List Nat := bytesOf (blocks (full T) first ((full T).length / 64))

theorem rot_lt {n x : Nat} (h : x < 4294967296) : rot n x < 4294967296 := by
  unfold rot
  have h2 : x / 2 ^ n < 2 ^ 32 := Nat.lt_of_le_of_lt (Nat.div_le_self _ _) (by omega)
  have h1 : x * 2 ^ (32 - n) % 4294967296 < 2 ^ 32 := by have := Nat.mod_lt (x * 2 ^ (32 - n)) (show 0 < 4294967296 by omega); omega
  have := Nat.or_lt_two_pow h1 h2
  omega
theorem xor_lt {a b : Nat} (h1 : a < 4294967296) (h2 : b < 4294967296) : a ^^^ b < 4294967296 := by
  have := Nat.xor_lt_two_pow (n := 32) (x := a) (y := b) (by omega) (by omega); omega
theorem and_lt {a b : Nat} (h2 : b < 4294967296) : a &&& b < 4294967296 := by
  have := Nat.and_lt_two_pow (n := 32) a (y := b) (by omega); omega
theorem s0_lt {x : Nat} (h : x < 4294967296) : s0 x < 4294967296 := xor_lt (xor_lt (rot_lt h) (rot_lt h)) (by omega)
theorem s1_lt {x : Nat} (h : x < 4294967296) : s1 x < 4294967296 := xor_lt (xor_lt (rot_lt h) (rot_lt h)) (by omega)
theorem b0_lt {x : Nat} (h : x < 4294967296) : b0 x < 4294967296 := xor_lt (xor_lt (rot_lt h) (rot_lt h)) (rot_lt h)
theorem b1_lt {x : Nat} (h : x < 4294967296) : b1 x < 4294967296 := xor_lt (xor_lt (rot_lt h) (rot_lt h)) (rot_lt h)
theorem ch_lt {e f g : Nat} (h2 : f < 4294967296) (h3 : g < 4294967296) : ch e f g < 4294967296 := xor_lt (and_lt h2) (and_lt h3)
theorem mj_lt {a b c : Nat} (h2 : b < 4294967296) (h3 : c < 4294967296) : mj a b c < 4294967296 := xor_lt (xor_lt (and_lt h2) (and_lt h3)) (and_lt h3)
theorem step_ok {k w : Nat} {v : V8} (h : v.ok) : (step k w v).ok := by
  obtain ⟨ha, hb, hc, hd, he, hf, hg, hh⟩ := h
  exact ⟨Nat.mod_lt _ (by omega), ha, hb, hc, Nat.mod_lt _ (by omega), he, hf, hg⟩
theorem rounds_ok {K W : List Nat} {v : V8} (h : v.ok) (n : Nat) : (rounds K W v n).ok := by
  induction n with
  | zero => exact h
  | succ n ih => exact step_ok ih
theorem add8_ok {v u : V8} : (add8 v u).ok := by
  refine ⟨?_, ?_, ?_, ?_, ?_, ?_, ?_, ?_⟩ <;> exact Nat.mod_lt _ (by omega)
theorem first_ok : first.ok := by unfold V8.ok first; decide
theorem blocks_ok {B : List Nat} {v : V8} (h : v.ok) (n : Nat) : (blocks B v n).ok := by
  cases n with
  | zero => exact h
  | succ n => exact add8_ok
theorem length_words (B : List Nat) (n : Nat) : (words B n).length = n := by
  induction n with
  | zero => rfl
  | succ n ih => simp [words, ih]
theorem length_more (l : List Nat) (n : Nat) : (more l n).length = l.length + n := by
  induction n with
  | zero => rfl
  | succ n ih => simp [more, ih]; omega
theorem length_sched (B : List Nat) : (sched B).length = 64 := by simp [sched, length_more, length_words]
def allW (l : List Nat) : Prop := ∀ x ∈ l, x < 4294967296
theorem word_lt {B : List Nat} (h : allB B) (i : Nat) : word B i < 4294967296 := by
  have h0 := getD_lt h (by omega) (4 * i)
  have h1 := getD_lt h (by omega) (4 * i + 1)
  have h2 := getD_lt h (by omega) (4 * i + 2)
  have h3 := getD_lt h (by omega) (4 * i + 3)
  unfold word; omega
theorem words_ok {B : List Nat} (h : allB B) (n : Nat) : allW (words B n) := by
  induction n with
  | zero => intro x hx; simp [words] at hx
  | succ n ih =>
    intro x hx
    simp only [words, List.mem_append, List.mem_singleton] at hx
    rcases hx with hx | rfl
    · exact ih x hx
    · exact word_lt h n
theorem more_ok {l : List Nat} (h : allW l) (n : Nat) : allW (more l n) := by
  induction n with
  | zero => exact h
  | succ n ih =>
    intro x hx
    simp only [more, List.mem_append, List.mem_singleton] at hx
    rcases hx with hx | rfl
    · exact ih x hx
    · exact Nat.mod_lt _ (by omega)
theorem sched_ok {B : List Nat} (h : allB B) : allW (sched B) := more_ok (words_ok h 16) 48
theorem ks_ok : allW ks := by unfold allW ks; decide
theorem big_lt (n k : Nat) : big n k < 256 := Nat.mod_lt _ (by omega)
theorem not_nat {e : Nat} (h : e < 4294967296) : 4294967295 ^^^ e = 4294967295 - e := by
  have h1 : (BitVec.allOnes 32 ^^^ BitVec.ofNat 32 e).toNat = (~~~ BitVec.ofNat 32 e).toNat := by rw [BitVec.allOnes_xor]
  rw [BitVec.toNat_xor, BitVec.toNat_not, BitVec.toNat_allOnes, BitVec.toNat_ofNat, Nat.mod_eq_of_lt (by omega)] at h1
  exact h1
theorem max_u32 : IntKind.u32.max = 4294967295 := by decide
theorem b1_int {e : Nat} (h : e < 4294967296) : bits .xor .u32 (bits .xor .u32 (rot 6 e : Nat) (rot 11 e : Nat)) (rot 25 e : Nat) = ((b1 e : Nat) : Int) := by
  rw [u32_xor_nat _ _ (rot_lt h) (rot_lt h), u32_xor_nat _ _ (xor_lt (rot_lt h) (rot_lt h)) (rot_lt h)]; rfl
theorem b0_int {e : Nat} (h : e < 4294967296) : bits .xor .u32 (bits .xor .u32 (rot 2 e : Nat) (rot 13 e : Nat)) (rot 22 e : Nat) = ((b0 e : Nat) : Int) := by
  rw [u32_xor_nat _ _ (rot_lt h) (rot_lt h), u32_xor_nat _ _ (xor_lt (rot_lt h) (rot_lt h)) (rot_lt h)]; rfl
theorem ch_int {e f g : Nat} (he : e < 4294967296) (hf : f < 4294967296) (hg : g < 4294967296) :
    bits .xor .u32 (bits .and .u32 (e : Nat) (f : Nat)) (bits .and .u32 (bits .xor .u32 IntKind.u32.max (e : Nat)) (g : Nat)) = ((ch e f g : Nat) : Int) := by
  have h1 : bits .xor .u32 IntKind.u32.max (e : Nat) = ((4294967295 - e : Nat) : Int) := by
    rw [max_u32]
    have := u32_xor_nat 4294967295 e (by omega) he
    rw [not_nat he] at this
    exact this
  rw [h1, u32_and_nat _ _ he hf, u32_and_nat _ _ (by omega) hg, u32_xor_nat _ _ (and_lt hf) (and_lt hg)]; rfl
theorem mj_int {a b c : Nat} (ha : a < 4294967296) (hb : b < 4294967296) (hc : c < 4294967296) :
    bits .xor .u32 (bits .xor .u32 (bits .and .u32 (a : Nat) (b : Nat)) (bits .and .u32 (a : Nat) (c : Nat))) (bits .and .u32 (b : Nat) (c : Nat)) = ((mj a b c : Nat) : Int) := by
  rw [u32_and_nat _ _ ha hb, u32_and_nat _ _ ha hc, u32_and_nat _ _ hb hc, u32_xor_nat _ _ (and_lt hb) (and_lt hc), u32_xor_nat _ _ (xor_lt (and_lt hb) (and_lt hc)) (and_lt hc)]; rfl
theorem t1_int {u : V8} (hu : u.ok) (k w : Nat) :
    ((u.h : Nat) + bits .xor .u32 (bits .xor .u32 (rot 6 u.e : Nat) (rot 11 u.e : Nat)) (rot 25 u.e : Nat) + bits .xor .u32 (bits .and .u32 (u.e : Nat) (u.f : Nat)) (bits .and .u32 (bits .xor .u32 IntKind.u32.max (u.e : Nat)) (u.g : Nat)) + (k : Nat) + (w : Nat)) % 4294967296 = ((t1 k w u : Nat) : Int) := by
  obtain ⟨ha, hb, hc, hd, he, hf, hg, hh⟩ := hu
  rw [b1_int he, ch_int he hf hg]; unfold t1; omega
theorem t2_int {u : V8} (hu : u.ok) :
    (bits .xor .u32 (bits .xor .u32 (rot 2 u.a : Nat) (rot 13 u.a : Nat)) (rot 22 u.a : Nat) + bits .xor .u32 (bits .xor .u32 (bits .and .u32 (u.a : Nat) (u.b : Nat)) (bits .and .u32 (u.a : Nat) (u.c : Nat))) (bits .and .u32 (u.b : Nat) (u.c : Nat))) % 4294967296 = ((t2 u : Nat) : Int) := by
  obtain ⟨ha, hb, hc, hd, he, hf, hg, hh⟩ := hu
  rw [b0_int ha, mj_int ha hb hc]; unfold t2; omega
theorem or_shl {a b n : Nat} (h : b < 2 ^ n) : a * 2 ^ n ||| b = a * 2 ^ n + b := by
  have := Nat.shiftLeft_add_eq_or_of_lt h a
  rw [Nat.shiftLeft_eq] at this
  exact this.symm
theorem word_nat {x0 x1 x2 x3 : Nat} (h1 : x1 < 256) (h2 : x2 < 256) (h3 : x3 < 256) : ((x0 * 16777216 ||| x1 * 65536) ||| x2 * 256) ||| x3 = x0 * 16777216 + x1 * 65536 + x2 * 256 + x3 := by
  have e1 : x0 * 16777216 ||| x1 * 65536 = x0 * 16777216 + x1 * 65536 := or_shl (n := 24) (by omega)
  have e2 : (x0 * 16777216 + x1 * 65536) ||| x2 * 256 = x0 * 16777216 + x1 * 65536 + x2 * 256 := by
    have := or_shl (a := x0 * 256 + x1) (n := 16) (b := x2 * 256) (by omega)
    rw [show (x0 * 256 + x1) * 2 ^ 16 = x0 * 16777216 + x1 * 65536 from by omega] at this
    exact this
  have e3 : (x0 * 16777216 + x1 * 65536 + x2 * 256) ||| x3 = x0 * 16777216 + x1 * 65536 + x2 * 256 + x3 := by
    have := or_shl (a := x0 * 65536 + x1 * 256 + x2) (n := 8) (b := x3) (by omega)
    rw [show (x0 * 65536 + x1 * 256 + x2) * 2 ^ 8 = x0 * 16777216 + x1 * 65536 + x2 * 256 from by omega] at this
    exact this
  rw [e1, e2, e3]
theorem word_int {x0 x1 x2 x3 : Nat} (h0 : x0 < 256) (h1 : x1 < 256) (h2 : x2 < 256) (h3 : x3 < 256) :
    bits .or .u32 (bits .or .u32 (bits .or .u32 ((x0 : Nat) * 16777216) ((x1 : Nat) * 65536)) ((x2 : Nat) * 256)) (x3 : Nat) = ((x0 * 16777216 + x1 * 65536 + x2 * 256 + x3 : Nat) : Int) := by
  have e0 : ((x0 : Nat) : Int) * 16777216 = ((x0 * 16777216 : Nat) : Int) := by omega
  have e1 : ((x1 : Nat) : Int) * 65536 = ((x1 * 65536 : Nat) : Int) := by omega
  have e2 : ((x2 : Nat) : Int) * 256 = ((x2 * 256 : Nat) : Int) := by omega
  have l1 : x0 * 16777216 ||| x1 * 65536 < 4294967296 := by have := Nat.or_lt_two_pow (n := 32) (x := x0 * 16777216) (y := x1 * 65536) (by omega) (by omega); omega
  have l2 : (x0 * 16777216 ||| x1 * 65536) ||| x2 * 256 < 4294967296 := by have := Nat.or_lt_two_pow (n := 32) (x := x0 * 16777216 ||| x1 * 65536) (y := x2 * 256) (by omega) (by omega); omega
  rw [e0, e1, e2, u32_or_nat _ _ (by omega) (by omega), u32_or_nat _ _ l1 (by omega), u32_or_nat _ _ l2 (by omega), word_nat h1 h2 h3]
theorem s0_int {x : Nat} (h : x < 4294967296) : bits .xor .u32 (bits .xor .u32 (rot 7 x : Nat) (rot 18 x : Nat)) ((x : Nat) / 8) = ((s0 x : Nat) : Int) := by
  have e : ((x : Nat) : Int) / 8 = ((x / 8 : Nat) : Int) := by omega
  rw [e, u32_xor_nat _ _ (rot_lt h) (rot_lt h), u32_xor_nat _ _ (xor_lt (rot_lt h) (rot_lt h)) (by omega)]; rfl
theorem s1_int {x : Nat} (h : x < 4294967296) : bits .xor .u32 (bits .xor .u32 (rot 17 x : Nat) (rot 19 x : Nat)) ((x : Nat) / 1024) = ((s1 x : Nat) : Int) := by
  have e : ((x : Nat) : Int) / 1024 = ((x / 1024 : Nat) : Int) := by omega
  rw [e, u32_xor_nat _ _ (rot_lt h) (rot_lt h), u32_xor_nat _ _ (xor_lt (rot_lt h) (rot_lt h)) (by omega)]; rfl
end Go.Proofs.Ytlmbicelngpgoaa.Sm

/- A preimage, plainly. -/
namespace Go.Proofs.Ytlmbicelngpgoaa
open Go.RowKit

def part (t : List Nat) : List Nat := Sm.bigs t.length ++ t
def pre (tag : Nat) (L : List (List Nat)) : List Nat := tag :: L.flatMap part
def tot (L : List (List Nat)) : Nat := (pre 0 L).length
theorem pre_length (tag : Nat) (L : List (List Nat)) : (pre tag L).length = tot L := by simp [pre, tot]
theorem pre_step (tag : Nat) (L : List (List Nat)) (k : Nat) (h : k < L.length) : pre tag (L.take (k + 1)) = pre tag (L.take k) ++ part (L.getD k []) := by
  rw [take_succ_getD L k h]; simp [pre]
theorem part_length (t : List Nat) : (part t).length = 8 + t.length := by simp [part, Sm.bigs]; omega
theorem tot_step (L : List (List Nat)) (k : Nat) (h : k < L.length) : tot (L.take (k + 1)) = tot (L.take k) + (8 + (L.getD k []).length) := by
  have := congrArg List.length (pre_step 0 L k h)
  rw [List.length_append, part_length] at this
  exact this
theorem tot_split (L : List (List Nat)) (k : Nat) : tot L = tot (L.take k) + ((L.drop k).flatMap part).length := by
  have h : L.flatMap part = (L.take k).flatMap part ++ (L.drop k).flatMap part := by rw [← List.flatMap_append, List.take_append_drop]
  simp only [tot, pre, List.length_cons]
  rw [h, List.length_append]
  omega
theorem tot_take_le (L : List (List Nat)) (k : Nat) : tot (L.take k) ≤ tot L := by
  have := tot_split L k
  omega
theorem len_le_flat (M : List (List Nat)) : M.length ≤ (M.flatMap part).length := by
  induction M with
  | nil => simp
  | cons t M ih => rw [List.flatMap_cons, List.length_append, part_length]; simp only [List.length_cons]; omega
theorem len_le_tot (L : List (List Nat)) : L.length ≤ tot L := by
  have := len_le_flat L
  simp only [tot, pre, List.length_cons]
  omega
def PreRel (w : World) (tag len : Nat) (L : List (List Nat)) (v i : Value) (wr : World) : Prop :=
  ∃ k : Nat, k ≤ len ∧ i = .int .i64 k ∧ wr.ownsRow w.heap.size 5 1 v (tot (L.take k)) (vals (pre tag (L.take k))) ∧ Below w.heap.size w wr
theorem tot_zero : tot ([] : List (List Nat)) = 1 := rfl
theorem bigs_all (n : Nat) : Sm.allB (Sm.bigs n) := by
  have h : ∀ k, Sm.big n k < 256 := fun k => by unfold Sm.big; exact Nat.mod_lt _ (by omega)
  intro x hx
  simp only [Sm.bigs, List.mem_cons, List.not_mem_nil, or_false] at hx
  rcases hx with rfl | rfl | rfl | rfl | rfl | rfl | rfl | rfl <;> exact h _
end Go.Proofs.Ytlmbicelngpgoaa

/- A sum's bytes are bytes. -/
namespace Go.Proofs.Ytlmbicelngpgoaa

theorem sum_ok (B : List Nat) : Sm.allB (Sm.sum B) := by
  intro x hx
  simp only [Sm.sum, Sm.bytesOf, List.mem_flatMap] at hx
  obtain ⟨w, _, hx⟩ := hx
  simp only [Sm.bytes4, List.mem_cons, List.not_mem_nil, or_false] at hx
  rcases hx with rfl | rfl | rfl | rfl <;> exact Nat.mod_lt _ (by omega)
end Go.Proofs.Ytlmbicelngpgoaa

/- Plain mathematics of package codec: bytes of a number, the highest first; which bytes stand ahead. No program is named here. -/
namespace Go.Proofs.Ytlmbicelngpgoaa.Cm
/-- The lowest s bytes of n, the highest first. -/
def be (n s : Nat) : List Nat := (List.range s).map fun i => n / 2 ^ (8 * (s - 1 - i)) % 256
theorem be_length (n s : Nat) : (be n s).length = s := by simp [be]
theorem be_get (n s i : Nat) (h : i < s) : (be n s).getD i 0 = n / 2 ^ (8 * (s - 1 - i)) % 256 := by
  simp [be, List.getD_eq_getElem?_getD, h]
theorem be_take (n s i : Nat) (h : i < s) : (be n s).take (i + 1) = (be n s).take i ++ [n / 2 ^ (8 * (s - 1 - i)) % 256] := by
  rw [List.take_succ_eq_append_getElem (by rw [be_length]; exact h)]
  simp [be]
theorem be_ok (n s : Nat) : Sm.allB (be n s) := by
  intro x hx
  simp only [be, List.mem_map] at hx
  obtain ⟨i, _, rfl⟩ := hx
  exact Nat.mod_lt _ (by omega)
theorem be_succ (n s : Nat) : be n (s + 1) = (n / 2 ^ (8 * s) % 256) :: be n s := by
  unfold be
  rw [List.range_succ_eq_map, List.map_cons, List.map_map]
  congr 1
  apply List.map_congr_left
  intro i _
  simp only [Function.comp_apply]
  rw [show s + 1 - 1 - (i + 1) = s - 1 - i from by omega]
/-- A number of 64 bits with a sign, and 2^63 together. -/
def z64 (n : Int) : Nat := (n + 9223372036854775808).toNat
theorem z64_lt {n : Int} (h1 : -9223372036854775808 ≤ n) (h2 : n ≤ 9223372036854775807) : z64 n < 18446744073709551616 ∧ ((z64 n : Nat) : Int) = n + 9223372036854775808 := by
  unfold z64; omega
theorem xor63_lo {x : Nat} (h : x < 2 ^ 63) : x ^^^ 2 ^ 63 = 2 ^ 63 + x := by
  apply Nat.eq_of_testBit_eq
  intro i
  rw [Nat.testBit_xor, Nat.testBit_two_pow]
  rcases Nat.lt_trichotomy i 63 with hi | rfl | hi
  · rw [Nat.testBit_two_pow_add_gt hi, decide_eq_false (by omega), Bool.xor_false]
  · rw [Nat.testBit_two_pow_add_eq, decide_eq_true rfl, Bool.xor_true]
  · have e1 : x.testBit i = false := Nat.testBit_lt_two_pow (Nat.lt_trans h (Nat.pow_lt_pow_right (by omega) hi))
    have e2 : (2 ^ 63 + x).testBit i = false := Nat.testBit_lt_two_pow (by
      have : 2 ^ 64 ≤ 2 ^ i := Nat.pow_le_pow_right (by omega) hi
      omega)
    rw [e1, e2, decide_eq_false (by omega), Bool.xor_false]
theorem xor63_hi {x : Nat} (h : x < 2 ^ 63) : (2 ^ 63 + x) ^^^ 2 ^ 63 = x := by
  rw [← xor63_lo h, Nat.xor_assoc, Nat.xor_self, Nat.xor_zero]
theorem wrap_u64 (n : Int) : IntKind.u64.wrap n = n % 18446744073709551616 := IntKind.wrap_u64 n
/-- The bits of a number, the sign's one turned. -/
theorem sign_int {n : Int} (h1 : -9223372036854775808 ≤ n) (h2 : n ≤ 9223372036854775807) : bits .xor .u64 (IntKind.u64.wrap n) 9223372036854775808 = ((z64 n : Nat) : Int) := by
  rw [wrap_u64]
  by_cases h : 0 ≤ n
  · obtain ⟨x, rfl⟩ : ∃ x : Nat, n = x := ⟨n.toNat, by omega⟩
    have e : (x : Int) % 18446744073709551616 = (x : Nat) := by omega
    rw [e]
    have := u64_xor_nat x 9223372036854775808 (by omega) (by omega)
    refine Eq.trans this ?_
    have e2 : x ^^^ 9223372036854775808 = 9223372036854775808 + x := xor63_lo (by omega)
    rw [e2]
    unfold z64
    omega
  · obtain ⟨x, hx⟩ : ∃ x : Nat, n = (x : Int) - 9223372036854775808 := ⟨(n + 9223372036854775808).toNat, by omega⟩
    subst hx
    have e : ((x : Int) - 9223372036854775808) % 18446744073709551616 = ((9223372036854775808 + x : Nat) : Int) := by omega
    rw [e]
    have := u64_xor_nat (9223372036854775808 + x) 9223372036854775808 (by omega) (by omega)
    refine Eq.trans this ?_
    have e2 : (9223372036854775808 + x) ^^^ 9223372036854775808 = x := xor63_hi (by omega)
    rw [e2]
    unfold z64
    omega
/-- A number's bytes. -/
def num (n : Int) : List Nat := be (z64 n) 8
theorem num_length (n : Int) : (num n).length = 8 := be_length _ _
theorem num_ok (n : Int) : Sm.allB (num n) := be_ok _ _
/-- What bytes make together, the highest first. -/
def val (B : List Nat) : Nat := B.foldl (fun n b => n * 256 + b) 0
theorem foldl_val (B : List Nat) (m : Nat) : B.foldl (fun n b => n * 256 + b) m = m * 256 ^ B.length + val B := by
  induction B generalizing m with
  | nil => simp [val]
  | cons b B ih =>
    unfold val
    rw [List.foldl_cons, List.foldl_cons, ih, ih (0 * 256 + b), List.length_cons, Nat.pow_succ, Nat.zero_mul, Nat.zero_add, Nat.add_mul, Nat.mul_assoc, Nat.mul_comm 256]
    omega
theorem val_cons (b : Nat) (B : List Nat) : val (b :: B) = b * 256 ^ B.length + val B := by
  have := foldl_val B (0 * 256 + b)
  unfold val at this ⊢
  rw [List.foldl_cons, this]
  simp
theorem val_snoc (B : List Nat) (b : Nat) : val (B ++ [b]) = val B * 256 + b := by
  unfold val; rw [List.foldl_append]; rfl
theorem pow8 (s : Nat) : (2 : Nat) ^ (8 * s) = 256 ^ s := by rw [Nat.pow_mul]
theorem val_lt {B : List Nat} (h : Sm.allB B) : val B < 256 ^ B.length := by
  induction B with
  | nil => simp [val]
  | cons b B ih =>
    have h1 := h b (by simp)
    have h2 := ih (fun x hx => h x (by simp [hx]))
    rw [val_cons, List.length_cons, Nat.pow_succ]
    have : b * 256 ^ B.length + 256 ^ B.length ≤ 256 ^ B.length * 256 := by
      rw [Nat.mul_comm (256 ^ B.length) 256, ← Nat.succ_mul]
      exact Nat.mul_le_mul_right _ h1
    omega
theorem val_be (n s : Nat) : val (be n s) = n % 256 ^ s := by
  induction s with
  | zero => simp [be, val, Nat.mod_one]
  | succ s ih =>
    rw [be_succ, val_cons, be_length, ih, pow8, Nat.pow_succ, Nat.mod_mul]
    rw [Nat.mul_comm]
    omega
theorem be_val {B : List Nat} (h : Sm.allB B) : be (val B) B.length = B := by
  induction B with
  | nil => simp [be]
  | cons b B ih =>
    have h1 := h b (by simp)
    have hB : Sm.allB B := fun x hx => h x (by simp [hx])
    have h2 := val_lt hB
    rw [List.length_cons, be_succ, val_cons, pow8]
    have hp : 0 < 256 ^ B.length := Nat.pow_pos (by omega)
    have e1 : (b * 256 ^ B.length + val B) / 256 ^ B.length = b := by
      rw [Nat.mul_comm, Nat.mul_add_div hp, Nat.div_eq_of_lt h2]; omega
    rw [e1, Nat.mod_eq_of_lt h1]
    congr 1
    have key : ∀ s m k : Nat, s ≤ k → be (m * 256 ^ k + val B) s = be (val B) s := by
      intro s
      induction s with
      | zero => intro m k _; simp [be]
      | succ s ihs =>
        intro m k hk
        rw [be_succ, be_succ, ihs m k (by omega), pow8]
        congr 1
        obtain ⟨j, rfl⟩ : ∃ j, k = s + 1 + j := ⟨k - (s + 1), by omega⟩
        have : m * 256 ^ (s + 1 + j) = 256 ^ s * (256 * (m * 256 ^ j)) := by
          rw [Nat.pow_add, Nat.pow_succ]
          simp only [Nat.mul_assoc, Nat.mul_comm, Nat.mul_left_comm]
        rw [this, Nat.mul_add_div (Nat.pow_pos (by omega))]
        omega
    rw [key B.length b B.length (Nat.le_refl _)]
    exact ih hB
/-- Which bytes stand ahead. -/
def cmpL : List Nat → List Nat → Int
  | [], [] => 0
  | [], _ :: _ => -1
  | _ :: _, [] => 1
  | x :: a, y :: b => if x < y then -1 else if y < x then 1 else cmpL a b
theorem cmpL_cons (x y : Nat) (a b : List Nat) : cmpL (x :: a) (y :: b) = if x < y then -1 else if y < x then 1 else cmpL a b := rfl
theorem cmpL_same (C a b : List Nat) : cmpL (C ++ a) (C ++ b) = cmpL a b := by
  induction C with
  | nil => rfl
  | cons x C ih =>
    show cmpL (x :: (C ++ a)) (x :: (C ++ b)) = _
    rw [cmpL_cons, if_neg (by omega), if_neg (by omega)]
    exact ih
theorem cmpL_at {a b : List Nat} {i : Nat} (h : a.take i = b.take i) : cmpL a b = cmpL (a.drop i) (b.drop i) := by
  rw [← List.take_append_drop i a, ← List.take_append_drop i b, h, cmpL_same]
  rw [List.take_append_drop]
  have e : (b.take i ++ a.drop i).drop i = a.drop i := by
    rw [← h, List.take_append_drop]
  rw [e]
theorem cmpL_lens (a b : List Nat) (h : a = [] ∨ b = []) : cmpL a b = if a.length < b.length then -1 else if b.length < a.length then 1 else 0 := by
  rcases h with rfl | rfl
  · cases b <;> simp [cmpL]
  · cases a <;> simp [cmpL]
theorem cmpL_neg (a b : List Nat) : cmpL b a = - cmpL a b := by
  induction a generalizing b with
  | nil => cases b <;> simp [cmpL]
  | cons x a ih =>
    cases b with
    | nil => simp [cmpL]
    | cons y b =>
      simp only [cmpL]
      by_cases h1 : x < y
      · rw [if_pos h1, if_neg (by omega), if_pos h1]; rfl
      · by_cases h2 : y < x
        · rw [if_pos h2, if_neg h1, if_pos h2]
        · rw [if_neg h1, if_neg h2, if_neg h2, if_neg h1]; exact ih b
theorem cmpL_zero (a b : List Nat) : cmpL a b = 0 ↔ a = b := by
  induction a generalizing b with
  | nil => cases b <;> simp [cmpL]
  | cons x a ih =>
    cases b with
    | nil => simp [cmpL]
    | cons y b =>
      simp only [cmpL]
      by_cases h1 : x < y
      · rw [if_pos h1]; simp; omega
      · by_cases h2 : y < x
        · rw [if_neg h1, if_pos h2]; simp; omega
        · rw [if_neg h1, if_neg h2, ih b]
          obtain rfl : x = y := by omega
          simp
theorem cmpL_range (a b : List Nat) : cmpL a b = -1 ∨ cmpL a b = 0 ∨ cmpL a b = 1 := by
  induction a generalizing b with
  | nil => cases b <;> simp [cmpL]
  | cons x a ih =>
    cases b with
    | nil => simp [cmpL]
    | cons y b =>
      simp only [cmpL]
      by_cases h1 : x < y
      · rw [if_pos h1]; exact Or.inl rfl
      · by_cases h2 : y < x
        · rw [if_neg h1, if_pos h2]; exact Or.inr (Or.inr rfl)
        · rw [if_neg h1, if_neg h2]; exact ih b
theorem cmp_val : ∀ (a b : List Nat), a.length = b.length → Sm.allB a → Sm.allB b → (cmpL a b < 0 ↔ val a < val b)
  | [], [], _, _, _ => by simp [cmpL, val]
  | [], _ :: _, h, _, _ => by simp at h
  | _ :: _, [], h, _, _ => by simp at h
  | x :: a, y :: b, h, ha, hb => by
    have hl : a.length = b.length := by simpa using h
    have ha' : Sm.allB a := fun z hz => ha z (by simp [hz])
    have hb' : Sm.allB b := fun z hz => hb z (by simp [hz])
    have ih := cmp_val a b hl ha' hb'
    have va := val_lt ha'
    have vb := val_lt hb'
    rw [val_cons, val_cons, hl]
    rw [hl] at va
    simp only [cmpL]
    generalize 256 ^ b.length = P at *
    by_cases h1 : x < y
    · rw [if_pos h1]
      have : (x + 1) * P ≤ y * P := Nat.mul_le_mul_right _ h1
      rw [Nat.add_mul] at this
      constructor
      · intro _; omega
      · intro _; decide
    · by_cases h2 : y < x
      · rw [if_neg h1, if_pos h2]
        have : (y + 1) * P ≤ x * P := Nat.mul_le_mul_right _ h2
        rw [Nat.add_mul] at this
        constructor
        · intro h; exact absurd h (by decide)
        · intro h; omega
      · rw [if_neg h1, if_neg h2, ih]
        obtain rfl : x = y := by omega
        omega
/-- The lesser number's bytes stand ahead. -/
theorem num_order {n m : Int} (h1 : -9223372036854775808 ≤ n) (h2 : n ≤ 9223372036854775807) (k1 : -9223372036854775808 ≤ m) (k2 : m ≤ 9223372036854775807) : cmpL (num n) (num m) < 0 ↔ n < m := by
  rw [cmp_val _ _ (by rw [num_length, num_length]) (num_ok n) (num_ok m)]
  unfold num
  rw [val_be, val_be]
  obtain ⟨a1, a2⟩ := z64_lt h1 h2
  obtain ⟨b1, b2⟩ := z64_lt k1 k2
  rw [Nat.mod_eq_of_lt (by omega), Nat.mod_eq_of_lt (by omega)]
  omega
end Go.Proofs.Ytlmbicelngpgoaa.Cm

/- Texts by their sums, plainly. -/
namespace Go.Proofs.Ytlmbicelngpgoaa.Pg
open Go.RowKit

/-- The sum of a page. -/
def sumOf (b : List Nat) : List Nat := Sm.sum (pre 80 [b])
theorem sumOf_length (b : List Nat) : (sumOf b).length = 32 := rfl
theorem sumOf_ok (b : List Nat) : Sm.allB (sumOf b) := sum_ok _
/-- Pages: a sum, a text. -/
abbrev Pages := List (List Nat × List Nat)
/-- Where a sum stands first. -/
def idx (d : List Nat) : Pages → Nat
  | [] => 0
  | x :: r => if x.1 = d then 0 else idx d r + 1
def findI (W : Pages) (d : List Nat) : Int := if idx d W < W.length then (idx d W : Int) else -1
theorem idx_le (d : List Nat) : ∀ W : Pages, idx d W ≤ W.length
  | [] => Nat.le_refl _
  | x :: r => by
    rw [idx]
    split
    · omega
    · have := idx_le d r; simp; omega
theorem idx_at {d : List Nat} : ∀ {W : Pages}, idx d W < W.length → (W.getD (idx d W) default).1 = d
  | [], h => absurd h (Nat.not_lt_zero _)
  | x :: r, h => by
    rw [idx] at h ⊢
    split
    · next e => exact e
    · next e =>
      rw [if_neg e] at h
      simpa using idx_at (W := r) (by simpa using h)
theorem idx_before {d : List Nat} : ∀ {W : Pages} {i : Nat}, i < idx d W → (W.getD i default).1 ≠ d
  | [], i, h => absurd h (Nat.not_lt_zero _)
  | x :: r, i, h => by
    rw [idx] at h
    split at h
    · omega
    · next e =>
      cases i with
      | zero => simpa using e
      | succ i => simpa using idx_before (W := r) (by omega : i < idx d r)
/-- The first one that has it is it. -/
theorem idx_is {d : List Nat} {W : Pages} {i : Nat} (hi : i < W.length) (h : (W.getD i default).1 = d) (hb : ∀ j, j < i → (W.getD j default).1 ≠ d) : idx d W = i := by
  rcases Nat.lt_trichotomy (idx d W) i with h1 | h1 | h1
  · exact absurd (idx_at (Nat.lt_trans h1 hi)) (hb _ h1)
  · exact h1
  · exact absurd h (idx_before h1)
theorem idx_none {d : List Nat} {W : Pages} (hb : ∀ j, j < W.length → (W.getD j default).1 ≠ d) : idx d W = W.length := by
  rcases Nat.lt_or_ge (idx d W) W.length with h1 | h1
  · exact absurd (idx_at h1) (hb _ h1)
  · exact Nat.le_antisymm (idx_le d W) h1
/-- The text that is kept by a sum. -/
def textAt (W : Pages) (d : List Nat) : Option (List Nat) := if idx d W < W.length then some (W.getD (idx d W) default).2 else none
/-- What a store holds: its pages in the order in which they came, the first clash. -/
structure S where
  W : Pages
  cl : Option (List Nat × List Nat)
def putW (W : Pages) (b : List Nat) : Pages := if idx (sumOf b) W < W.length then W else W ++ [(sumOf b, b)]
def S.put (s : S) (b : List Nat) : S :=
  ⟨putW s.W b, match s.cl with
    | some x => some x
    | none => match textAt s.W (sumOf b) with
      | none => none
      | some t => if t = b then none else some (t, b)⟩
def keepW (W : Pages) (K : List (List Nat)) : Pages := W.filter (fun x => decide (x.1 ∈ K))
def S.keep (s : S) (K : List (List Nat)) : S := ⟨keepW s.W K, s.cl⟩
/-- What is true of every store: no sum twice, each text by its own sum, a clash is one. -/
structure S.ok (s : S) : Prop where
  one : (s.W.map (·.1)).Nodup
  sum : ∀ x ∈ s.W, x.1 = sumOf x.2
  bytes : ∀ x ∈ s.W, Sm.allB x.2
  clash : ∀ x, s.cl = some x → x.1 ≠ x.2 ∧ sumOf x.1 = sumOf x.2
theorem idx_mem {d : List Nat} {W : Pages} : idx d W < W.length ↔ d ∈ W.map (·.1) := by
  constructor
  · intro h
    have h1 := idx_at h
    rw [← h1, List.getD_eq_getElem?_getD, List.getElem?_eq_getElem h, Option.getD_some]
    exact List.mem_map_of_mem (List.getElem_mem h)
  · intro h
    obtain ⟨x, hx, rfl⟩ := List.mem_map.1 h
    obtain ⟨i, hi, rfl⟩ := List.getElem_of_mem hx
    rcases Nat.lt_or_ge (idx W[i].1 W) W.length with h1 | h1
    · exact h1
    · exact absurd (show (W.getD i default).1 = W[i].1 from by rw [List.getD_eq_getElem?_getD, List.getElem?_eq_getElem hi]; rfl) (idx_before (by omega))
theorem textAt_some {W : Pages} {d : List Nat} (h : idx d W < W.length) : textAt W d = some (W.getD (idx d W) default).2 := if_pos h
theorem textAt_none {W : Pages} {d : List Nat} (h : ¬ idx d W < W.length) : textAt W d = none := if_neg h
theorem S.new_ok : S.ok ⟨[], none⟩ := ⟨List.nodup_nil, (fun x hx => by cases hx), (fun x hx => by cases hx), fun x hx => by cases hx⟩
theorem getD_mem {W : Pages} {i : Nat} (h : i < W.length) : W.getD i default ∈ W := by
  rw [List.getD_eq_getElem?_getD, List.getElem?_eq_getElem h]
  exact List.getElem_mem h
theorem S.put_ok {s : S} (h : s.ok) {b : List Nat} (hb : Sm.allB b) : (s.put b).ok := by
  refine ⟨?_, ?_, ?_, ?_⟩
  · show ((putW s.W b).map (·.1)).Nodup
    unfold putW
    split
    · exact h.one
    · next hn =>
      rw [List.map_append, List.nodup_append]
      refine ⟨h.one, by simp, fun a ha c hc e => hn (idx_mem.2 ?_)⟩
      simp only [List.map_cons, List.map_nil, List.mem_singleton] at hc
      rw [← hc, ← e]
      exact ha
  · intro x hx
    simp only [S.put, putW] at hx
    split at hx
    · exact h.sum x hx
    · rcases List.mem_append.1 hx with hx | hx
      · exact h.sum x hx
      · rw [List.mem_singleton.1 hx]
  · intro x hx
    simp only [S.put, putW] at hx
    split at hx
    · exact h.bytes x hx
    · rcases List.mem_append.1 hx with hx | hx
      · exact h.bytes x hx
      · rw [List.mem_singleton.1 hx]; exact hb
  · intro x hx
    simp only [S.put] at hx
    split at hx
    · next y hy => exact h.clash x (by rw [hy]; exact hx)
    · split at hx
      · cases hx
      · next t ht =>
        split at hx
        · cases hx
        · next hne =>
          cases hx
          refine ⟨hne, ?_⟩
          unfold textAt at ht
          split at ht
          · next hi =>
            cases ht
            have h1 := h.sum _ (getD_mem hi)
            rw [← h1]
            exact idx_at hi
          · cases ht
theorem S.keep_ok {s : S} (h : s.ok) (K : List (List Nat)) : (s.keep K).ok :=
  ⟨(List.Nodup.sublist (List.Sublist.map _ List.filter_sublist) h.one), fun x hx => h.sum x ((List.mem_filter.1 hx).1), fun x hx => h.bytes x ((List.mem_filter.1 hx).1), h.clash⟩
/-- Behind a put, without a clash, the text is got. -/
theorem put_got {s : S} {b : List Nat} (hc : (s.put b).cl = none) : textAt (s.put b).W (sumOf b) = some b := by
  simp only [S.put] at hc
  split at hc
  · cases hc
  · show textAt (putW s.W b) (sumOf b) = some b
    unfold putW
    split
    · next hi =>
      rw [textAt_some hi] at hc
      simp only at hc
      split at hc
      · next e => rw [textAt_some hi, e]
      · cases hc
    · next hi =>
      have h1 : idx (sumOf b) (s.W ++ [(sumOf b, b)]) = s.W.length := idx_is (by simp) (by simp) (fun j hj => by
        rw [List.getD_eq_getElem?_getD, List.getElem?_append_left hj, ← List.getD_eq_getElem?_getD]
        exact idx_before (by have := idx_le (sumOf b) s.W; omega))
      rw [textAt_some (by rw [h1]; simp), h1]
      simp
theorem put_has (s : S) (b : List Nat) : idx (sumOf b) (s.put b).W < (s.put b).W.length := by
  show idx (sumOf b) (putW s.W b) < (putW s.W b).length
  rw [idx_mem]
  unfold putW
  split
  · next hi => exact idx_mem.1 hi
  · simp
end Go.Proofs.Ytlmbicelngpgoaa.Pg

/- A page in memory. -/
namespace Go.Proofs.Ytlmbicelngpgoaa.Pg
open Go.RowKit

/-- A page in memory: its sum, where its text lies, the text. -/
structure Pe where
  d : List Nat
  q : Option Addr
  (m c : Nat)
  b : List Nat
instance : Inhabited Pe := ⟨⟨[], none, 0, 0, []⟩⟩
def Pe.cells (e : Pe) : List Value := vals e.d ++ [.slice e.q e.m e.c]
def flatP (L : List Pe) : List Value := L.flatMap Pe.cells
def pagesOf (L : List Pe) : Pages := L.map fun e => (e.d, e.b)
theorem pagesOf_length (L : List Pe) : (pagesOf L).length = L.length := by simp [pagesOf]
theorem pagesOf_at (L : List Pe) {i : Nat} (h : i < L.length) : (pagesOf L).getD i default = ((L.getD i default).d, (L.getD i default).b) := by
  simp [pagesOf, List.getD_eq_getElem?_getD, h]
theorem cells_length {e : Pe} (h : e.d.length = 32) : e.cells.length = 33 := by simp [Pe.cells, vals_length, h]
theorem flatP_length {L : List Pe} (h : ∀ e ∈ L, e.d.length = 32) : (flatP L).length = 33 * L.length := by
  induction L with
  | nil => rfl
  | cons e L ih =>
    rw [flatP, List.flatMap_cons, List.length_append, cells_length (h e List.mem_cons_self), List.length_cons]
    have := ih (fun x hx => h x (List.mem_cons_of_mem _ hx))
    unfold flatP at this
    omega
theorem flatP_append (L M : List Pe) : flatP (L ++ M) = flatP L ++ flatP M := by simp [flatP]
theorem flatP_one (e : Pe) : flatP [e] = e.cells := by simp [flatP]
theorem flatP_at {L : List Pe} (h : ∀ e ∈ L, e.d.length = 32) {i j : Nat} (hi : i < L.length) (hj : j < 33) : (flatP L)[i * 33 + j]? = (L.getD i default).cells[j]? := by
  induction L generalizing i with
  | nil => simp at hi
  | cons e L ih =>
    have hl := cells_length (h e List.mem_cons_self)
    show (e.cells ++ flatP L)[i * 33 + j]? = _
    cases i with
    | zero =>
      rw [List.getElem?_append_left (by omega), Nat.zero_mul, Nat.zero_add]
      rfl
    | succ i =>
      rw [List.getElem?_append_right (by omega), hl, show (i + 1) * 33 + j - 33 = i * 33 + j from by omega, ih (fun x hx => h x (List.mem_cons_of_mem _ hx)) (by simpa using hi)]
      simp
end Go.Proofs.Ytlmbicelngpgoaa.Pg

/- A map of pages, plainly: what it reads as. -/
namespace Go.Proofs.Ytlmbicelngpgoaa.Pg
open Go.RowKit

/-- A text's header reads as itself. -/
def sliceR : Value → Option (DataW Value × List MemPlace)
  | .slice p n c => some (.held (.slice p n c), [])
  | _ => none
theorem sliceR_inv {v : Value} {z : DataW Value × List MemPlace} (h : sliceR v = some z) : ∃ p n c, v = .slice p n c ∧ z = (.held (.slice p n c), []) := by
  unfold sliceR at h
  split at h
  · cases h; exact ⟨_, _, _, rfl, rfl⟩
  · cases h
def Pe.hd (e : Pe) : Value := .slice e.q e.m e.c
/-- The datum D has just the pages of L. -/
structure Reads (D : DataW Value) (L : List Pe) : Prop where
  tidy : Go.Maps.Tidy D
  len : ∀ e ∈ L, e.d.length = 32 ∧ Sm.allB e.d
  one : (L.map (·.d)).Nodup
  at' : ∀ e ∈ L, ∀ z, D.atKey (klit e.d) z = .held e.hd
  key : ∀ kl, Go.Maps.has D kl = true → ∃ e ∈ L, kl = klit e.d
  size : Go.Maps.size D = L.length
theorem Reads.nil : Reads (.map []) [] := ⟨Go.Maps.tidy_empty, (fun e he => by cases he), List.nodup_nil, (fun e he => by cases he), (fun kl h => by cases h), rfl⟩
theorem pagesOf_fst (L : List Pe) : (pagesOf L).map (·.1) = L.map (·.d) := by simp [pagesOf, Function.comp_def]
theorem Reads.has_mem {D : DataW Value} {L : List Pe} (h : Reads D L) {d : List Nat} (hd : d.length = 32) (ho : Sm.allB d) : Go.Maps.has D (klit d) = true ↔ d ∈ L.map (·.d) := by
  constructor
  · intro hh
    obtain ⟨e, he, hk⟩ := h.key _ hh
    rw [klit_inj hd ho (h.len e he).1 (h.len e he).2 hk]
    exact List.mem_map_of_mem he
  · intro hm
    obtain ⟨e, he, rfl⟩ := List.mem_map.1 hm
    exact Go.Maps.has_true_of_atKey (h.at' e he)
theorem Reads.has {D : DataW Value} {L : List Pe} (h : Reads D L) {d : List Nat} (hd : d.length = 32) (ho : Sm.allB d) : Go.Maps.has D (klit d) = decide (idx d (pagesOf L) < (pagesOf L).length) := by
  rw [Bool.eq_iff_iff, h.has_mem hd ho, decide_eq_true_iff, idx_mem, pagesOf_fst]
theorem Reads.got {D : DataW Value} {L : List Pe} (h : Reads D L) {d : List Nat} (hi : idx d (pagesOf L) < (pagesOf L).length) : ∃ e ∈ L, e.d = d ∧ (∀ z, D.atKey (klit d) z = .held e.hd) ∧ textAt (pagesOf L) d = some e.b := by
  have h1 : idx d (pagesOf L) < L.length := by rwa [pagesOf_length] at hi
  have h2 := idx_at hi
  rw [pagesOf_at L h1] at h2
  have hm : L.getD (idx d (pagesOf L)) default ∈ L := by
    rw [List.getD_eq_getElem?_getD, List.getElem?_eq_getElem h1]
    exact List.getElem_mem _
  refine ⟨_, hm, h2, ?_, ?_⟩
  · have := h.at' _ hm
    simp only at h2
    rwa [h2] at this
  · rw [textAt_some hi, pagesOf_at L h1]
theorem Reads.put {D : DataW Value} {L : List Pe} (h : Reads D L) {e : Pe} (hd : e.d.length = 32) (ho : Sm.allB e.d) (hn : e.d ∉ L.map (·.d)) : Reads (D.put (klit e.d) (.held e.hd)) (L ++ [e]) := by
  have hno : Go.Maps.has D (klit e.d) = false := by
    rw [← Bool.not_eq_true, h.has_mem hd ho]
    exact hn
  have hne : ∀ x ∈ L, klit x.d ≠ klit e.d := fun x hx he => hn (by rw [← klit_inj (h.len x hx).1 (h.len x hx).2 hd ho he]; exact List.mem_map_of_mem hx)
  refine ⟨h.tidy.put (klit_key _) _, ?_, ?_, ?_, ?_, ?_⟩
  · intro x hx
    rcases List.mem_append.1 hx with hx | hx
    · exact h.len x hx
    · rw [List.mem_singleton.1 hx]; exact ⟨hd, ho⟩
  · rw [List.map_append, List.nodup_append]
    refine ⟨h.one, by simp, fun a ha c hc hac => hn ?_⟩
    simp only [List.map_cons, List.map_nil, List.mem_singleton] at hc
    rw [← hc, ← hac]
    exact ha
  · intro x hx z
    rcases List.mem_append.1 hx with hx | hx
    · rw [Go.Maps.atKey_put_other (hne x hx), h.at' x hx]
    · rw [List.mem_singleton.1 hx, Go.Maps.atKey_put_same h.tidy.isMap (klit_key _)]
  · intro kl hk
    by_cases he : kl = klit e.d
    · exact ⟨e, by simp, he⟩
    · rw [Go.Maps.has_put_other he] at hk
      obtain ⟨x, hx, hxe⟩ := h.key kl hk
      exact ⟨x, List.mem_append_left _ hx, hxe⟩
  · rw [Go.Maps.size_put h.tidy, hno, h.size, List.length_append]
    rfl
/-- One page given up. -/
def but (L : List Pe) (d : List Nat) : List Pe := L.filter fun x => decide (x.d ≠ d)
theorem but_length {L : List Pe} (hn : (L.map (·.d)).Nodup) {e : Pe} (he : e ∈ L) : (but L e.d).length + 1 = L.length := by
  induction L with
  | nil => cases he
  | cons x L ih =>
    rw [List.map_cons, List.nodup_cons] at hn
    rcases List.mem_cons.1 he with rfl | he
    · have : but (e :: L) e.d = L := by
        unfold but
        rw [List.filter_cons_of_neg (by simp), List.filter_eq_self]
        intro y hy
        refine decide_eq_true (fun h => hn.1 ?_)
        rw [← h]
        exact List.mem_map_of_mem (f := (·.d)) hy
      rw [this, List.length_cons]
    · have hx : x.d ≠ e.d := fun h => hn.1 (by rw [h]; exact List.mem_map_of_mem (f := (·.d)) he)
      unfold but at ih ⊢
      rw [List.filter_cons_of_pos (by simpa using hx), List.length_cons, List.length_cons, ih hn.2 he]
theorem Reads.del {D : DataW Value} {L : List Pe} (h : Reads D L) {e : Pe} (he : e ∈ L) : Reads (D.del (klit e.d)) (but L e.d) := by
  have hm : ∀ x, x ∈ but L e.d ↔ x ∈ L ∧ x.d ≠ e.d := fun x => by rw [but, List.mem_filter, decide_eq_true_iff]
  have hne : ∀ x ∈ L, x.d ≠ e.d → klit x.d ≠ klit e.d := fun x hx hxe h2 => hxe (klit_inj (h.len x hx).1 (h.len x hx).2 (h.len e he).1 (h.len e he).2 h2)
  refine ⟨h.tidy.del _, ?_, ?_, ?_, ?_, ?_⟩
  · intro x hx
    exact h.len x ((hm x).1 hx).1
  · exact List.Nodup.sublist (List.Sublist.map _ List.filter_sublist) h.one
  · intro x hx z
    rw [Go.Maps.atKey_del_other (hne x ((hm x).1 hx).1 ((hm x).1 hx).2), h.at' x ((hm x).1 hx).1]
  · intro kl hk
    have hkl : kl ≠ klit e.d := by
      rintro rfl
      rw [Go.Maps.has_del_same] at hk
      cases hk
    rw [Go.Maps.has_del_other hkl] at hk
    obtain ⟨x, hx, rfl⟩ := h.key kl hk
    exact ⟨x, (hm x).2 ⟨hx, fun h2 => hkl (by rw [h2])⟩, rfl⟩
  · have h1 := Go.Maps.size_del (k := klit e.d) h.tidy
    rw [Go.Maps.has_true_of_atKey (h.at' e he), if_pos rfl, h.size] at h1
    have := but_length h.one he
    omega
/-- The key that a range over the map comes to is a page's. -/
theorem Reads.next {D : DataW Value} {L : List Pe} (h : Reads D L) {v : Value} {kl : Lit} (hk : keyOf Try.prog 32 v = some kl) {y : DataW Value} (ha : ∀ z, D.atKey kl z = y) : ∃ e ∈ L, v = .agg (u8s e.d) ∧ kl = klit e.d := by
  obtain ⟨e, he, rfl⟩ := h.key kl (Go.Maps.has_true_of_atKey ha)
  exact ⟨e, he, keyD.inj hk (klit_of (h.len e he).1 (h.len e he).2), rfl⟩
theorem sameKey_klit {a b : List Nat} (ha : a.length = 32) (hao : Sm.allB a) (hb : b.length = 32) (hbo : Sm.allB b) : (klit a).sameKey (klit b) = decide (a = b) := by
  by_cases h : a = b
  · subst h
    rw [WideAt.sameKey_self (klit_key _)]
    simp
  · rw [Go.Maps.sameKey_ne (fun e => h (klit_inj ha hao hb hbo e))]
    simp [h]
end Go.Proofs.Ytlmbicelngpgoaa.Pg

/- Digests as they are loaded and compared in a drawn region. -/
namespace Go.Proofs.Ytlmbicelngpgoaa.Pg
open Go.RowKit

theorem op_load_dig {ρ : Operand → Value} {o : Oper} {x : Operand} {w : World} {g off : Nat} {D : List Nat} (ho : o.op = .load 32 x) (hx : ρ x = .pointer (some ⟨g, off, none⟩)) (hD : D.length = 32) (h : w.rangeAt g off (vals D)) : (execOp ρ o).run Try.prog w = .ok (.value (.agg (u8s D))) w := by
  unfold execOp
  simp only [ho, hx, Instr.loadAt, Instr.sureAddr, Sem.run_bind, Sem.run_pure, Result.andThen_ok, run_loadVar_mid w g off 32 (vals D) _ h A25 rfl (by rw [vals_length, hD]; exact S25), vals_toArray]
set_option maxRecDepth 100000 in
theorem op_eql_dig {ρ : Operand → Value} {o : Oper} {x y : Nat} {a b : List Nat} (ho : o.op = .binOp .eql 32 (.tmp x) (.tmp y) 32) (hx : ρ (.tmp x) = .agg (u8s a)) (hy : ρ (.tmp y) = .agg (u8s b)) (ha : a.length = 32) (hb : b.length = 32) (w : World) : (execOp ρ o).run Try.prog w = .ok (.value (.bool (decide (a = b)))) w := by
  unfold execOp
  simp only [ho, hx, hy, Sem.run_bind, digest_eql a b ha hb, Sem.run_pure, eqGuard]
  rfl
theorem range_of_row' {w : World} {g : Nat} {D : List Nat} {t : TypeId} (h : w.heap[g]? = some (.cells (u8s D) t (0, 0))) : w.rangeAt g 0 (vals D) := fun j v hv => by
  have hj : j < D.length := by have := (List.getElem?_eq_some_iff.1 hv).1; rwa [vals_length] at this
  rw [Nat.zero_add, u8s_cell h j hj, ← hv, vals_get D j hj]
theorem dig_slice (g o : Nat) (w : World) : (Instr.sliceAt 32 (.pointer (some ⟨g, o, none⟩)) none none none).run Try.prog w = .ok (.slice (some ⟨g, o, none⟩) 32 32) w := by
  have hl : Try.prog.arrayLen 32 = 32 := by simp [Program.arrayLen]
  have he : Try.prog.elem 32 = 5 := by simp [Program.elem]
  have h1 := run_sliceAt_array_all (P := Try.prog) w 32 ⟨g, o, none⟩ (by rw [hl, he]; exact A25)
  obtain ⟨i5, hi, _, hi1, _⟩ := info_parts I5
  have hs : (sizeOf 5).run Try.prog w = .ok 1 w := by simp [sizeOf, typeInfo, hi, hi1]
  rw [h1, hl, he, hs]
  simp [slicedAt, Addr.add]
theorem dig_tx {w : World} {g o : Nat} {D : List Nat} (h : w.rangeAt g o (vals D)) (hD : D.length = 32 ∧ Sm.allB D) : Tx w (some ⟨g, o, none⟩) 32 32 D := ⟨hD.1.symm, Nat.le_refl _, hD.2, Or.inr ⟨⟨g, o, none⟩, rfl, fun j u hu => by
  rw [Addr.add_mid]
  exact h j u hu⟩, fun x hx _ => by cases hx; rfl⟩
end Go.Proofs.Ytlmbicelngpgoaa.Pg

/- A region in its text's order, within a round of a range over a function; digests that come from a map, one by one. -/
namespace Go.Proofs.Ytlmbicelngpgoaa.Pg
open Go.RowKit Go.Proofs.Ytlmbicelngpgoaa.Wl

section
variable {P : Program} {ops : Array Oper} {Q : Exit → Act → World → Prop} {l n : Nat}
theorem oIn_round {o : Oper} {K K' : Act → World → Prop} {a : Act} {w : World} (hd : ∀ c, o.op ≠ .defer c) (hQ : ¬ LetsOut Q) (hK : ∀ a w, K a w → K' a w) (h : o.wp P a w K Q ∨ (o.asks P a w ∧ LetsOut Q)) : o.wpIn (Fence.wide.inRound l) n P a w K' Q := by
  rcases h with h | ⟨_, h⟩
  · refine ⟨fun _ _ => trivial, ?_⟩
    show Oper.uponIn _ n P o a K' Q ((Oper.semAt (some l) a.eval o).run P w)
    rw [Oper.semAt_some l a.eval o hd]
    unfold Oper.wp at h
    generalize (execOp a.eval o).run P w = r at *
    cases r with
    | ok x w' =>
      cases x with
      | value v => exact hK _ _ h
      | skip => exact hK _ _ h
      | defer d => exact hK _ _ h
      | enter f args =>
        refine ⟨fun h => (by cases h), CallsIn.inRound l (callsIn_wide.2 (Calls.mono h fun e w'' he => ?_))⟩
        cases e with
        | returned v => exact hK _ _ he
        | panicked c => exact he
        | outgrown => exact he
      | row row args => exact ⟨fun h => (by cases h), fun c cs _ => by
          obtain ⟨v, w'', r, s⟩ := h c cs
          exact ⟨v, w'', hK _ _ r, stepsIn_wide.2 s⟩⟩
      | _ => exact False.elim h
    | halt x w' => cases x <;> exact h
  · exact absurd h hQ
theorem listIn_round (hQ : ¬ LetsOut Q) : ∀ (L : List Oper), (∀ o ∈ L, ∀ c, o.op ≠ .defer c) → ∀ (a : Act) (w : World), wpList P ops Q L a w → wpListIn (Fence.wide.inRound l) n P ops Q L a w
  | [], _, _, _, h => h
  | o :: L, hd, a, w, h => by
    unfold wpList at h
    unfold wpListIn
    split
    · next hw =>
      rw [if_pos hw] at h
      exact oIn_round (hd o List.mem_cons_self) hQ (listIn_round hQ L (fun x hx => hd x (List.mem_cons_of_mem _ hx))) h
    · next hw =>
      rw [if_neg hw] at h
      exact ⟨fun _ _ => trivial, listIn_round hQ L (fun x hx => hd x (List.mem_cons_of_mem _ hx)) _ _ h⟩
/-- Such a region, walked as anywhere. -/
theorem region_list_round {id : Nat} {L : List Oper} {a : Act} {w : World} (hd : (L.all fun o => match o.op with | .defer _ => false | _ => true) = true) (h : wpList P L.toArray (Nrm (Q .normal)) L a w) : (Code.region id L.toArray false).wpIn (Fence.wide.inRound l) n P Q a w :=
  wpIn_mono (wpIn_region_list (by
    refine listIn_round (fun ⟨_, _, h⟩ => h) _ (fun o ho c hc => ?_) _ _ (by simpa using h)
    have h1 := List.all_eq_true.1 hd o (by simpa using ho)
    rw [hc] at h1
    cases h1)) nrm_le
end
/-- A digest. -/
abbrev DG := {d : List Nat // d.length = 32 ∧ Sm.allB d}
instance : Inhabited DG := ⟨⟨zeros 32, by simp [zeros], zeros_ok 32⟩⟩
def encD (x : DG) : List Value := vals x.1
theorem encD_length (x : DG) : (encD x).length = 32 := by rw [encD, vals_length, x.2.1]
def flatD (ds : List DG) : List Value := ds.flatMap encD
/-- The sums that have come, in their order. -/
structure Col (L : List Pe) (left : Lit → Bool) (ds : List DG) : Prop where
  one : (ds.map (·.1)).Nodup
  mem : ∀ d, d ∈ ds.map (·.1) ↔ d ∈ L.map (·.d) ∧ left (klit d) = false
theorem Col.start {D : DataW Value} {L : List Pe} (hr : Reads D L) : Col L (Go.Maps.has D) [] :=
  ⟨List.nodup_nil, fun d => by
    constructor
    · intro h; cases h
    · rintro ⟨h1, h2⟩
      obtain ⟨e, he, rfl⟩ := List.mem_map.1 h1
      rw [Go.Maps.has_true_of_atKey (hr.at' e he)] at h2
      cases h2⟩
theorem Col.step {L : List Pe} {left : Lit → Bool} {ds : List DG} (h : Col L left ds) (hl : ∀ e ∈ L, e.d.length = 32 ∧ Sm.allB e.d) {e : Pe} (he : e ∈ L) (hk : left (klit e.d) = true) : Col L (fun z => left z && !z.sameKey (klit e.d)) (ds ++ [⟨e.d, hl e he⟩]) := by
  refine ⟨?_, fun d => ?_⟩
  · rw [List.map_append, List.nodup_append]
    refine ⟨h.one, by simp, fun a ha c hc hac => ?_⟩
    simp only [List.map_cons, List.map_nil, List.mem_singleton] at hc
    have := ((h.mem a).1 ha).2
    rw [hac, hc, hk] at this
    cases this
  · rw [List.map_append, List.mem_append, h.mem]
    simp only [List.map_cons, List.map_nil, List.mem_singleton]
    constructor
    · rintro (⟨h1, h2⟩ | rfl)
      · exact ⟨h1, by rw [h2]; rfl⟩
      · exact ⟨List.mem_map_of_mem he, by rw [WideAt.sameKey_self (klit_key _)]; simp⟩
    · rintro ⟨h1, h2⟩
      by_cases hd : d = e.d
      · exact Or.inr hd
      · obtain ⟨x, hx, rfl⟩ := List.mem_map.1 h1
        rw [sameKey_klit (hl x hx).1 (hl x hx).2 (hl e he).1 (hl e he).2, decide_eq_false hd] at h2
        exact Or.inl ⟨h1, by simpa using h2⟩
theorem Col.done {L : List Pe} {left : Lit → Bool} {ds : List DG} (h : Col L left ds) (ho : (L.map (·.d)).Nodup) (hl : ∀ kl, left kl = false) : (ds.map (·.1)).Perm (L.map (·.d)) :=
  (List.perm_ext_iff_of_nodup h.one ho).2 (fun d => by rw [h.mem]; simp [hl])
theorem wpListIn_next9 {F : Fence} {m : Nat} {w : World} {ops : Array Oper} {rest : List Oper} {o : Oper} {a : Act} {Q : Exit → Act → World → Prop} (hg : o.guard = none) (it : Operand) (hop : o.op = Op.next it false) {b r n : Nat} {D : DataW Value} {L : List Pe} {left : Lit → Bool} {cnt : Nat}
    (hit : a.eval it = .pointer (some ⟨r, 0, none⟩)) (h : w.ranges Try.prog 32 sliceR b r n D left cnt) (hr : Reads D L)
    (hDone : cnt = 0 → (∀ kl, left kl = false) → wpListIn F m Try.prog ops Q rest (a.put o.dst (.tuple #[.bool false])) w)
    (hMore : ∀ (e : Pe) (c : Value) (w' : World) (cnt' : Nat), e ∈ L → left (klit e.d) = true → w'.ranges Try.prog 32 sliceR b r n D (fun z => left z && !z.sameKey (klit e.d)) cnt' → cnt' < cnt → w.grownBy w' (some r) → w'.heap.size = w.heap.size →
      (Instr.entry (.pointer (some ⟨r, 0, none⟩))).run Try.prog w' = .ok (.tuple #[.agg (u8s e.d), c]) w' → wpListIn F m Try.prog ops Q rest (a.put o.dst (.tuple #[.bool true, .agg (u8s e.d), c])) w') :
    wpListIn F m Try.prog ops Q (o :: rest) a w :=
  wpListIn_next_ranges w hg it hop 32 keyD sliceR (fun v : Value => v) (fun v : Value => v) (fun key kl _ => ⟨key, rfl⟩) (fun v y _ => ⟨v, rfl⟩) b r n D left cnt hit h hDone (fun x c kl y w' cnt' hkey hlk _ hat hrg hlt hgr hsz hen => by
    obtain ⟨e, he, rfl, rfl⟩ := hr.next hkey hat
    exact hMore e c w' cnt' he hlk hrg hlt hgr hsz hen)
theorem wpListIn_load_dig {F : Fence} {m : Nat} {w : World} {ops : Array Oper} {rest : List Oper} {o : Oper} {a : Act} {Q : Exit → Act → World → Prop} (hg : o.guard = none) (x : Operand) (ho : o.op = .load 32 x) {g off : Nat} {D : List Nat} (hx : a.eval x = .pointer (some ⟨g, off, none⟩)) (hD : D.length = 32) (h : w.rangeAt g off (vals D))
    (hk : wpListIn F m Try.prog ops Q rest (a.put o.dst (.agg (u8s D))) w) : wpListIn F m Try.prog ops Q (o :: rest) a w := by
  refine wpListIn_plain hg fun K hK => ?_
  unfold Oper.wpIn
  refine ⟨by simp [Oper.about, ho], ?_⟩
  rw [Oper.semAt_plain F _ _ (by rw [ho]; intro c hc'; cases hc'), op_load_dig ho hx hD h]
  exact hK _ _ hk
end Go.Proofs.Ytlmbicelngpgoaa.Pg

/- The reference's disk, plainly: what it holds, and what each call makes of it. -/
namespace Go.Proofs.Ytlmbicelngpgoaa.Dk
open Go.RowKit

/-- The bytes P laid over L from o on. -/
def over (L : List Nat) (o : Nat) (P : List Nat) : List Nat := L.take o ++ P ++ L.drop (o + P.length)
theorem over_length {L P : List Nat} {o : Nat} (h : o + P.length ≤ L.length) : (over L o P).length = L.length := by
  simp [over]; omega
theorem over_nil (L : List Nat) (o : Nat) : over L o [] = L := by simp [over]
theorem over_ok {L P : List Nat} {o : Nat} (h : Sm.allB L) (k : Sm.allB P) : Sm.allB (over L o P) := fun x hx => by
  simp only [over, List.mem_append] at hx
  rcases hx with (hx | hx) | hx
  · exact h x (List.mem_of_mem_take hx)
  · exact k x hx
  · exact h x (List.mem_of_mem_drop hx)
theorem over_step {L B : List Nat} {o k : Nat} (hk : k < B.length) (ho : o + B.length ≤ L.length) :
    (u8s (over L o (B.take k))).setIfInBounds (o + k) (.int .u8 (B.getD k 0 : Nat)) = u8s (over L o (B.take (k + 1))) := by
  have hlt : o + k < L.length := by omega
  have e1 : over L o (B.take k) = (L.take o ++ B.take k) ++ L[o + k] :: L.drop (o + k + 1) := by
    unfold over
    rw [List.length_take, Nat.min_eq_left (by omega), List.drop_eq_getElem_cons hlt]
  have e2 : over L o (B.take (k + 1)) = (L.take o ++ B.take k) ++ B.getD k 0 :: L.drop (o + k + 1) := by
    unfold over
    rw [List.length_take, Nat.min_eq_left (by omega), List.take_succ_eq_append_getElem hk, List.getD_eq_getElem?_getD, List.getElem?_eq_getElem hk]
    simp only [Option.getD_some, List.append_assoc, List.cons_append, List.nil_append, Nat.add_assoc]
  rw [e1, e2]
  exact u8s_set _ _ _ _ _ (by simp; omega)

/-- What a disk holds: all bytes, how many sectors; is it dead; how many writes are left (-1: no fuse), how much of the last one comes; how many came. -/
structure D where
  L : List Nat
  n : Nat
  dead : Bool
  left : Int
  torn : Nat
  writes : Nat
structure D.ok (s : D) : Prop where
  len : s.L.length = 64 * s.n
  bytes : Sm.allB s.L
  small : s.n ≤ 4096
  torn : s.torn ≤ 64
  left : -1 ≤ s.left ∧ s.left < 9223372036854775808
def D.new (n : Nat) : D := ⟨zeros (64 * n), n, false, -1, 0, 0⟩
theorem D.new_ok {n : Nat} (h : n ≤ 4096) : (D.new n).ok := ⟨by simp [D.new, zeros], zeros_ok _, h, by simp [D.new], by simp [D.new]⟩
def D.fuse (s : D) (k torn : Int) : D := { s with left := if k < 0 then -1 else k, torn := if torn < 0 then 0 else if torn > 64 then 64 else torn.toNat }
theorem D.fuse_ok {s : D} (h : s.ok) {k : Int} (torn : Int) (hk : k < 9223372036854775808) : (s.fuse k torn).ok :=
  ⟨h.len, h.bytes, h.small, by
    simp only [D.fuse]
    split
    · omega
    · split <;> omega, by simp only [D.fuse]; split <;> omega⟩
def D.wake (s : D) : D := { s with dead := false, left := -1 }
theorem D.wake_ok {s : D} (h : s.ok) : s.wake.ok := ⟨h.len, h.bytes, h.small, h.torn, by simp [D.wake]⟩
def D.many (s : D) : Nat := if s.left = 0 then s.torn else 64
/-- The write of a disk that takes it. -/
def D.put (s : D) (i : Nat) (B : List Nat) : D :=
  { s with L := over s.L (64 * i) (B.take s.many), dead := decide (s.left = 0), left := if s.left = 0 then -1 else if s.left > 0 then s.left - 1 else s.left, writes := s.writes + 1 }
def D.no (s : D) (i : Int) (m : Nat) : Nat := if s.dead = true then 30 else if i < 0 ∨ (s.n : Int) ≤ i then 9 else if m ≠ 64 then 1 else 0
def D.write (s : D) (i : Int) (B : List Nat) : D := if s.no i B.length = 0 then s.put i.toNat B else s
def D.says (s : D) (i : Int) (m : Nat) : Nat := if s.no i m = 0 then (if s.left = 0 then 30 else 0) else s.no i m
theorem D.no_zero {s : D} {i : Int} {m : Nat} (h : s.no i m = 0) : s.dead = false ∧ 0 ≤ i ∧ i < s.n ∧ m = 64 := by
  unfold D.no at h
  split at h
  · omega
  · split at h
    · omega
    · split at h
      · omega
      · exact ⟨by simp_all, by omega, by omega, by omega⟩
theorem D.put_ok {s : D} (h : s.ok) {i : Nat} {B : List Nat} (hi : i < s.n) (hB : Sm.allB B) (hl : B.length = 64) : (s.put i B).ok := by
  have ht : s.many ≤ 64 := by
    have := h.torn
    unfold D.many
    split <;> omega
  have hL := h.len
  refine ⟨?_, over_ok h.bytes (fun x hx => hB x (List.mem_of_mem_take hx)), h.small, h.torn, ?_⟩
  · show (over s.L (64 * i) (B.take s.many)).length = 64 * s.n
    rw [over_length (by rw [List.length_take]; omega), hL]
  · have := h.left
    simp only [D.put]
    split
    · omega
    · split <;> omega
theorem D.write_ok {s : D} (h : s.ok) (i : Int) {B : List Nat} (hB : Sm.allB B) : (s.write i B).ok := by
  unfold D.write
  split
  · next h0 =>
    obtain ⟨_, h1, h2, h3⟩ := D.no_zero h0
    exact D.put_ok h (by omega) hB h3
  · exact h

/-- What a call leaves as it was: all blocks but those of P. -/
structure Only (P : Nat → Prop) (w w' : World) : Prop where
  os : w'.os = w.os
  tape : w'.tape = w.tape
  output : w'.output = w.output
  size : w.heap.size ≤ w'.heap.size
  block : ∀ k, k < w.heap.size → ¬ P k → w'.heap[k]? = w.heap[k]?
theorem Only.refl (P : Nat → Prop) (w : World) : Only P w w := ⟨rfl, rfl, rfl, Nat.le_refl _, fun _ _ _ => rfl⟩
theorem Only.trans {P : Nat → Prop} {a b c : World} (h : Only P a b) (k : Only P b c) : Only P a c :=
  ⟨k.os.trans h.os, k.tape.trans h.tape, k.output.trans h.output, Nat.le_trans h.size k.size, fun i hi hp => (k.block i (Nat.lt_of_lt_of_le hi h.size) hp).trans (h.block i hi hp)⟩
theorem Only.mono {P Q : Nat → Prop} {w w' : World} (h : Only P w w') (hq : ∀ k, P k → Q k) : Only Q w w' :=
  ⟨h.os, h.tape, h.output, h.size, fun k hk hn => h.block k hk (fun hp => hn (hq k hp))⟩
theorem Only.of_below (P : Nat → Prop) {w w' : World} (h : Below w.heap.size w w') : Only P w w' := ⟨h.os, h.tape, h.output, h.size, fun k hk _ => h.block k hk⟩
theorem Only.setCell {P : Nat → Prop} (w : World) {a : Addr} (ha : P a.block) (v : Value) : Only P w (w.setCell a v) :=
  ⟨rfl, rfl, rfl, by simp [World.setCell], fun k _ hn => heap_setCell_other _ _ _ _ (fun e => hn (by rw [e]; exact ha))⟩
theorem Only.below {P : Nat → Prop} {w w' : World} {base : Nat} (h : Only P w w') (hs : base ≤ w.heap.size) (hp : ∀ k, P k → base ≤ k) : Below base w w' :=
  ⟨h.os, h.tape, h.output, h.size, fun k hk => h.block k (by omega) (fun e => by have := hp k e; omega)⟩
/-- A text whose block stayed. -/
theorem tx_keep {w w' : World} {p : Option Addr} {n c : Nat} {B : List Nat} (h : Tx w p n c B) (hk : ∀ x, p = some x → B ≠ [] → w'.heap[x.block]? = w.heap[x.block]?) : Tx w' p n c B :=
  ⟨h.size, h.le, h.ok, h.at'.imp id fun ⟨x, hp, hx⟩ => ⟨x, hp, fun j u hu => by
    have h1 := hx j u hu
    have hB : B ≠ [] := by rintro rfl; simp [vals] at hu
    have hb : (x.add j).block = x.block := by cases x; simp [Addr.add]; split <;> rfl
    rw [World.cell?_of_block (w := w) (by rw [hb]; exact hk x hp hB)]
    exact h1⟩, h.sp⟩
end Go.Proofs.Ytlmbicelngpgoaa.Dk
