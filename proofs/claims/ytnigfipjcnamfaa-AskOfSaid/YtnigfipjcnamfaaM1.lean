/- Gen0, Gen, GenRow, GenInts, Dist1, Dist2, Dist3, Dist4, Dist5, GenBox, Dist6, DistWd, Dist11, Dist12, DistOpen, BoxOpen, BoxRefA, GenEqs, BoxRefB, GenRw. -/
import Derived.Laws.BitsAllLaws
import Derived.Test.YtnigfipjcnamfaaProg
import Derived.WalkKit
import Derived.WalkSpells
import Derived.WalkLawsBesides
import Derived.BigQuiet
import Derived.Deep.QuietTactic
import Derived.Lib.Hide
import Derived.StillTailTactics
import Derived.Deep.WholeRow
import Derived.Deep.MidRow
import Derived.Deep.RegionHeld3
import Derived.Deep.RegionLaw
import Derived.Deep.AppendLies
import Derived.Laws.AppendOwnNone
import Derived.ChangeKeysEq
import Derived.Lib.SlBytesConst
import Derived.Maps.AppendAt
import Derived.Deep.DeepMust
import Derived.Deep.DeepCutAuto
import Derived.Test.YtnigfipjcnamfaaRows
import Derived.ProofKit
import Derived.OpenShut
import Derived.ShutString
import Derived.ChangeOld
import Derived.Deep.Matrix
import Derived.Laws.Externs
/- Plain lemmas on lists of natural numbers: bytes. No program is named here. -/
namespace Go.Proofs.Ytnigfipjcnamfaa.Sm
def allB (l : List Nat) : Prop := ∀ x ∈ l, x < 256
theorem getD_lt {l : List Nat} {m : Nat} (h : ∀ x ∈ l, x < m) (hm : 0 < m) (i : Nat) : l.getD i 0 < m := by
  rw [List.getD_eq_getElem?_getD]
  cases hh : l[i]? with
  | none => simpa using hm
  | some x => simpa using h x (List.mem_of_getElem? hh)
theorem allB_drop {l : List Nat} (h : allB l) (n : Nat) : allB (l.drop n) := fun x hx => h x (List.mem_of_mem_drop hx)
theorem getD_take (B : List Nat) (n i : Nat) (h : i < n) : (B.take n).getD i 0 = B.getD i 0 := by
  simp [List.getD_eq_getElem?_getD, List.getElem?_take_of_lt h]
theorem getD_drop (B : List Nat) (n i : Nat) : (B.drop n).getD i 0 = B.getD (n + i) 0 := by
  simp [List.getD_eq_getElem?_getD]
theorem getD_app_left (A B : List Nat) (i : Nat) (h : i < A.length) : (A ++ B).getD i 0 = A.getD i 0 := by
  rw [List.getD_eq_getElem?_getD, List.getD_eq_getElem?_getD, List.getElem?_append_left h]
theorem getD_app_right (A B : List Nat) (i : Nat) : (A ++ B).getD (A.length + i) 0 = B.getD i 0 := by
  rw [List.getD_eq_getElem?_getD, List.getD_eq_getElem?_getD, List.getElem?_append_right (by omega), Nat.add_sub_cancel_left]
end Go.Proofs.Ytnigfipjcnamfaa.Sm

/- Bytes in memory: slices that read as bytes, rows that a call owns, texts, strings of bytes, digests compared. -/
namespace Go.Proofs.Ytnigfipjcnamfaa
open Go.RowKit

def u8s (l : List Nat) : Array Value := (l.map fun x => Value.int .u8 (x : Nat)).toArray
/-- What lies whole in the block of the result is what is told. -/
theorem ret_row {fn : Func} {P : Ending → World → Prop} (p : Tmp) {ty : TypeId} (hr : fn.results = #[.cell p ty]) {tmps : Array Value} {w : World} (g : Nat) (t : TypeId) (cs : Array Value) {n : Nat} {e : TypeId}
    (hu : Try.prog.underlying ty = some (.array n e)) (hi : (Try.prog.info? ty).map (·.size) = some n)
    (hp : tmps.getD p undef = .pointer (some ⟨g, 0, none⟩)) (hg : w.heap[g]? = some (.cells cs t (0, 0)))
    (hn : cs.size = n) (h : P (.returned (.agg cs)) w) : bodyPost Try.prog fn P .ret ⟨tmps, []⟩ w :=
  bodyPost_ret (a := ⟨tmps, []⟩) (v := .agg cs) (results_cell_row hr tmps w g t cs (0, 0) (.array n e) hp hg hu rfl (by rw [hn]; exact hi)) rfl h
theorem setRow_alloc (w : World) (old cs : Array Value) (t : TypeId) : (w.alloc (.cells old t (0, 0))).setRow w.heap.size cs = w.alloc (.cells cs t (0, 0)) := by
  unfold World.setRow World.alloc
  congr 1
  apply Array.ext
  · simp
  · intro k h1 h2
    simp only [Array.getElem_modify, Array.getElem_push]
    by_cases hk : k = w.heap.size
    · subst hk; simp
    · have : k < w.heap.size := by simp at h1; omega
      simp [this, Ne.symm hk]
/-- All the world's blocks are as they were. -/
structure SameHeap (w w' : World) : Prop where
  below : Below w.heap.size w w'
  heap : w'.heap = w.heap
theorem SameHeap.refl (w : World) : SameHeap w w := ⟨Below.refl _ _, rfl⟩
theorem SameHeap.drewN {a w : World} (h : SameHeap a w) (n : Nat) : SameHeap a (w.drewN n) := by
  induction n with
  | zero => exact h
  | succ n ih => exact ⟨ih.below.drew, ih.heap⟩
theorem SameHeap.cell {a w : World} (h : SameHeap a w) (p : Addr) : w.cell? p = a.cell? p := by simp only [World.cell?, h.heap]
theorem SameHeap.frozen {a w : World} (h : SameHeap a w) (p : Addr) : w.frozen? p = a.frozen? p := by simp only [World.frozen?, h.heap]
theorem Below.setRow {B : Nat} {a w : World} (h : Below B a w) {g : Nat} (hg : B ≤ g) (cs : Array Value) : Below B a (w.setRow g cs) :=
  h.trans ⟨rfl, rfl, rfl, by simp, fun k hk => setRow_other _ _ _ _ (by omega)⟩
/-- From an address on lie these bytes. -/
def bytesAt (w : World) (g o : Nat) (B : List Nat) : Prop := ∀ i, i < B.length → w.cell? ⟨g, o + i, none⟩ = some (.int .u8 (B.getD i 0 : Nat))
def zeros (n : Nat) : List Nat := List.replicate n 0
theorem zeros_succ {n : Nat} (h : 0 < n) : zeros n = 0 :: zeros (n - 1) := by
  cases n with
  | zero => omega
  | succ n => rfl
theorem getD_left {l : List Nat} (r : List Nat) (i : Nat) (h : i < l.length) : (l ++ r).getD i 0 = l.getD i 0 := by
  rw [List.getD_eq_getElem?_getD, List.getD_eq_getElem?_getD, List.getElem?_append_left h]
/-- A slice that reads as these bytes. -/
structure Bytes (w : World) (p : Option Addr) (len cap : Nat) (B : List Nat) : Prop where
  size : len = B.length
  le : len ≤ cap
  ok : Sm.allB B
  at' : cap = 0 ∨ ∃ g o, p = some ⟨g, o, none⟩ ∧ bytesAt w g o B
theorem Bytes.ne {w : World} {p : Option Addr} {len cap : Nat} {B : List Nat} (h : Bytes w p len cap B) (hn : B ≠ []) : ∃ g o, p = some ⟨g, o, none⟩ ∧ bytesAt w g o B := by
  rcases h.at' with hc | h1
  · have := h.size
    have := h.le
    exact absurd (List.length_eq_zero_iff.1 (by omega)) hn
  · exact h1
theorem Bytes.later {w w' : World} {p : Option Addr} {len cap : Nat} {B : List Nat} (h : Bytes w p len cap B) {H : Nat} (hb : Below H w w') (hH : ∀ g o, p = some ⟨g, o, none⟩ → B ≠ [] → g < H) : Bytes w' p len cap B :=
  ⟨h.size, h.le, h.ok, h.at'.imp id fun ⟨g, o, hp, hx⟩ => ⟨g, o, hp, fun i hi => (hb.cell (p := ⟨g, o + i, none⟩) (hH g o hp (by intro e; rw [e] at hi; simp at hi))).trans (hx i hi)⟩⟩
theorem Bytes.lt {w : World} {p : Option Addr} {len cap : Nat} {B : List Nat} (h : Bytes w p len cap B) : ∀ g o, p = some ⟨g, o, none⟩ → B ≠ [] → g < w.heap.size := fun g o hp hn => by
  obtain ⟨g', o', hp', hx⟩ := h.ne hn
  rw [hp] at hp'
  obtain ⟨rfl, rfl⟩ : g = g' ∧ o = o' := by simpa using hp'
  exact block_lt_of_cell (hx 0 (List.length_pos_iff.2 hn))
theorem bytesAt.drop {w : World} {g o : Nat} {B : List Nat} (h : bytesAt w g o B) (n : Nat) : bytesAt w g (o + n) (B.drop n) := fun i hi => by
  have h1 : n + i < B.length := by simp at hi; omega
  have := h (n + i) h1
  rw [Nat.add_assoc, this]
  simp [List.getD_eq_getElem?_getD]
def lenOf : Value → Nat
  | .slice _ n _ => n
  | _ => 0
theorem u8s_get (l : List Nat) (i : Nat) (h : i < l.length) : (u8s l)[i]? = some (.int .u8 (l.getD i 0 : Nat)) := by
  simp [u8s, List.getD_eq_getElem?_getD, List.getElem?_eq_getElem h]
theorem u8s_cell {w : World} {g : Nat} {l : List Nat} {t : TypeId} {fr : Nat × Nat} (hg : w.heap[g]? = some (.cells (u8s l) t fr)) (i : Nat) (h : i < l.length) : w.cell? ⟨g, i, none⟩ = some (.int .u8 (l.getD i 0 : Nat)) := by
  rw [cell_of_row w g i _ t fr hg, u8s_get l i h]
theorem u8s_set (p r : List Nat) (y x k : Nat) (hk : p.length = k) : (u8s (p ++ y :: r)).setIfInBounds k (.int .u8 (x : Nat)) = u8s (p ++ x :: r) := by
  subst hk
  apply Array.ext'
  simp [u8s]
theorem u8s_one (l : List Nat) : (u8s l).all (·.oneCell') = true := by simp [u8s, Value.oneCell']
theorem u8s_size (l : List Nat) : (u8s l).size = l.length := by simp [u8s]
/-- An array's element, the array being a value. -/
theorem run_index_array {P : Program} {t e : TypeId} {n : Nat} (ht : P.underlying t = some (.array n e)) {d : TypeDesc} (hd : P.underlying e = some d) (hnd : (match d with | .struct _ => false | .array _ _ => false | _ => true) = true)
    (hs : (P.info? e).map (·.size) = some 1) (cs : Array Value) (k : Nat) (hk : k < n) (v : Value) (hv : cs[k]? = some v) (w : World) :
    (Instr.index t (.agg cs) (.int .i64 k)).run P w = .ok v w := by
  have hagg : (isAgg e).run P w = .ok false w := by
    unfold isAgg
    rw [Sem.run_bind, run_underlying hd w]
    cases d <;> simp_all
  cases hq : P.info? e with
  | none => simp [hq] at hs
  | some i =>
    have hsz : i.size = 1 := by simpa [hq] using hs
    have hb : (0 : Int) ≤ k ∧ (k : Int) < n := by omega
    simp [Instr.index, run_underlying ht, asIntOf, hb, part, sizeOf, typeInfo, hq, hsz, hagg, hv, Sem.run_bind]
    intro h
    omega
theorem U5 : Try.prog.underlying 5 = some (.int .u8) := by kernel_rfl
theorem S5 : (Try.prog.info? 5).map (·.size) = some 1 := by kernel_rfl
theorem I5 : (Try.prog.info? 5).map (fun i => (i.zero, i.size, i.bytes)) = some (some (.int .u8 0), 1, 1) := by kernel_rfl
def vals (l : List Nat) : List Value := l.map fun x => Value.int .u8 (x : Nat)
theorem vals_length (l : List Nat) : (vals l).length = l.length := by simp [vals]
theorem vals_get (l : List Nat) (i : Nat) (h : i < l.length) : (vals l)[i]? = some (.int .u8 (l.getD i 0 : Nat)) := by
  simp [vals, List.getD_eq_getElem?_getD, List.getElem?_eq_getElem h]
/-- What a call owns reads as its bytes. -/
theorem Bytes.of_owns {w : World} {base g n cap : Nat} {B : List Nat} (h : w.ownsRow base 5 1 (.slice (some ⟨g, 0, none⟩) n cap) n (vals B)) (hB : Sm.allB B) : Bytes w (some ⟨g, 0, none⟩) n cap B := by
  obtain ⟨hl, h2⟩ := h
  have hn : n = B.length := by simpa [vals_length] using hl.symm
  rcases h2 with ⟨h3, _⟩ | ⟨g', cap', cur, hv, hb, hg, hle, hm, hs, ht⟩
  · simp at h3
  · obtain ⟨rfl, rfl⟩ : g = g' ∧ cap = cap' := by simpa using hv
    refine ⟨hn, hle, hB, Or.inr ⟨g, 0, rfl, fun i hi => ?_⟩⟩
    rw [Nat.zero_add, cell_of_row w g i cur _ _ hg]
    have e : (cur.toList.take (n * 1))[i]? = (vals B)[i]? := by rw [ht]
    rw [vals_get B i hi, List.getElem?_take_of_lt (by omega)] at e
    simpa using e
theorem made_zeros (n : Nat) : madeCells (Value.cells (.int .u8 0)) n = u8s (zeros n) := by
  apply Array.ext
  · simp [size_madeCells, u8s, zeros]
  · intro i h1 h2
    simp [madeCells, u8s, zeros, Value.cells, Nat.mod_one]
theorem u8s_toList (l : List Nat) : (u8s l).toList = vals l := by simp [u8s, vals]
theorem vals_one (l : List Nat) : ∀ u ∈ vals l, u.oneCell' = true := by
  intro u hu
  simp only [vals, List.mem_map] at hu
  obtain ⟨x, _, rfl⟩ := hu
  rfl
theorem owns_mk {w : World} {base g n cap : Nat} {L : List Nat} (hg : w.heap[g]? = some (.cells (u8s L) 5 (0, 0))) (hL : L.length = cap) (hn : n ≤ cap) (hm : cap ≤ maxLen) (hb : base ≤ g) :
    w.ownsRow base 5 1 (.slice (some ⟨g, 0, none⟩) n cap) n (vals (L.take n)) := by
  refine ⟨by simp [vals]; omega, Or.inr ⟨g, cap, u8s L, rfl, hb, hg, hn, hm, by rw [u8s_size]; omega, ?_⟩⟩
  rw [u8s_toList, Nat.mul_one]
  simp [vals]
theorem cells_of_row {w : World} {g : Nat} {L : List Nat} {t : TypeId} (hg : w.heap[g]? = some (.cells (u8s L) t (0, 0))) : ∀ j u, (vals L)[j]? = some u → w.cell? ((⟨g, 0, none⟩ : Addr).add j) = some u := fun j u hu => by
  rw [Addr.add_mid, Nat.zero_add, cell_of_row w g j _ _ _ hg, ← Array.getElem?_toList, u8s_toList]
  exact hu
theorem heap_setCells_other (g : Nat) : ∀ (vs : List Value) (o : Nat) (w : World) (k : Nat), k ≠ g → (w.setCells g o vs).heap[k]? = w.heap[k]?
  | [], _, _, _, _ => rfl
  | v :: r, o, w, k, h => by
    rw [World.setCells, heap_setCells_other g r (o + 1) _ k h, heap_setCell_other _ _ _ _ h]
theorem heap_setCells_same (g : Nat) (t : TypeId) : ∀ (vs A B C : List Value) (w : World), w.heap[g]? = some (.cells (A ++ B ++ C).toArray t (0, 0)) → vs.length = B.length →
    (w.setCells g A.length vs).heap[g]? = some (.cells (A ++ vs ++ C).toArray t (0, 0))
  | [], A, B, C, w, h, hl => by
    obtain rfl : B = [] := List.length_eq_zero_iff.1 (by simpa using hl.symm)
    exact h
  | v :: r, A, B, C, w, h, hl => by
    match B, hl with
    | b :: B, hl =>
      have h1 := heap_setCell_same w g A.length _ _ v h
      have e : ((A ++ b :: B ++ C).toArray).setIfInBounds A.length v = ((A ++ [v]) ++ B ++ C).toArray := by
        apply Array.ext'
        simp
      rw [e] at h1
      have := heap_setCells_same g t r (A ++ [v]) B C _ h1 (by simpa using hl)
      rw [World.setCells]
      simpa using this
theorem size_setCells (g : Nat) : ∀ (vs : List Value) (o : Nat) (w : World), (w.setCells g o vs).heap.size = w.heap.size ∧ (w.setCells g o vs).os = w.os ∧ (w.setCells g o vs).tape = w.tape ∧ (w.setCells g o vs).output = w.output
  | [], _, _ => ⟨rfl, rfl, rfl, rfl⟩
  | v :: r, o, w => by
    obtain ⟨h1, h2, h3, h4⟩ := size_setCells g r (o + 1) (w.setCell ⟨g, o, none⟩ v)
    rw [World.setCells]
    exact ⟨h1.trans (by simp [World.setCell]), h2.trans rfl, h3.trans rfl, h4.trans rfl⟩
theorem rangeAt_row {w : World} {g : Nat} {t : TypeId} (A B C : List Value) (h : w.heap[g]? = some (.cells (A ++ B ++ C).toArray t (0, 0))) : w.rangeAt g A.length B := fun j v hv => by
  have hj : j < B.length := (List.getElem?_eq_some_iff.1 hv).1
  rw [cell_of_row w g _ _ t _ h]
  rw [List.getElem?_eq_getElem hj] at hv
  simpa [hj, List.getElem?_append_right, List.getElem?_append] using hv
theorem there_row {w : World} {g : Nat} {t : TypeId} {C : Array Value} (h : w.heap[g]? = some (.cells C t (0, 0))) (o n : Nat) (hn : o + n ≤ C.size) : w.there g o n := fun j hj => by
  refine ⟨?_, frozen_of_row w g _ _ t h⟩
  rw [cell_of_row w g _ _ t _ h, Array.getElem?_eq_getElem (by omega)]
  rfl
theorem vals_toArray (l : List Nat) : (vals l).toArray = u8s l := rfl
theorem bytesAt.take {w : World} {g o : Nat} {B : List Nat} (h : bytesAt w g o B) (n : Nat) : bytesAt w g o (B.take n) := fun i hi => by
  have h1 : i < B.length := by simp at hi; omega
  rw [h i h1]
  have h2 : i < n := by simp at hi; omega
  simp [List.getD_eq_getElem?_getD, List.getElem?_take_of_lt h2]
theorem Bytes.take {w : World} {p : Option Addr} {len cap : Nat} {B : List Nat} (h : Bytes w p len cap B) (n : Nat) (hn : n ≤ len) : Bytes w p n cap (B.take n) :=
  ⟨by have := h.size; simp; omega, by have := h.le; omega, fun x hx => h.ok x (List.mem_of_mem_take hx), h.at'.imp id fun ⟨g, o, hp, hx⟩ => ⟨g, o, hp, hx.take n⟩⟩
theorem grown_setCells {w w1 : World} {g : Nat} (h : w.grownBy w1 (some g)) (o : Nat) (vs : List Value) : w.grownBy (w1.setCells g o vs) (some g) := by
  obtain ⟨h1, h2, h3, h4⟩ := size_setCells g vs o w1
  exact ⟨h2.trans h.os, h3.trans h.tape, h4.trans h.output, by rw [h1]; exact h.size, fun k hk hne => (heap_setCells_other g vs o w1 k (by intro e; exact hne (by rw [e]))).trans (h.block k hk hne)⟩
theorem grown_later {w w1 w2 : World} {r : Option Nat} (h : w.grownBy w1 r) (hb : Below w1.heap.size w1 w2) : w.grownBy w2 r :=
  ⟨hb.os.trans h.os, hb.tape.trans h.tape, hb.output.trans h.output, Nat.le_trans h.size hb.size, fun k hk hne => (hb.block k (Nat.lt_of_lt_of_le hk h.size)).trans (h.block k hk hne)⟩
theorem Bytes.grown {w w' : World} {p : Option Addr} {len cap : Nat} {B : List Nat} (h : Bytes w p len cap B) {g : Nat} (hg : w.grownBy w' (some g)) (hn : B ≠ [] → ∀ a, p = some a → a.block ≠ g) : Bytes w' p len cap B :=
  ⟨h.size, h.le, h.ok, h.at'.imp id fun ⟨b, o, hp, hx⟩ => ⟨b, o, hp, fun i hi => by
    have h1 := hx i hi
    have hb : w'.heap[b]? = w.heap[b]? := hg.block b (block_lt_of_cell h1) (by intro e; exact hn (by intro e0; rw [e0] at hi; simp at hi) _ hp (by simpa using e))
    rw [World.cell?_of_block (w := w) (w' := w') (a := ⟨b, o + i, none⟩) hb]
    exact h1⟩⟩
theorem grown_setCell (w : World) (g o : Nat) (u : Value) : w.grownBy (w.setCell ⟨g, o, none⟩ u) (some g) :=
  ⟨rfl, rfl, rfl, by simp [World.setCell], fun k _ hne => heap_setCell_other _ _ _ _ (by intro e; exact hne (by rw [e]))⟩
theorem Bytes.heap {w w' : World} {p : Option Addr} {len cap : Nat} {B : List Nat} (h : Bytes w p len cap B) (e : w'.heap = w.heap) : Bytes w' p len cap B :=
  ⟨h.size, h.le, h.ok, h.at'.imp id fun ⟨b, o, hp, hx⟩ => ⟨b, o, hp, fun i hi => by
    have h1 := hx i hi
    simp only [World.cell?, e] at h1 ⊢
    exact h1⟩⟩
theorem E5 : (Try.prog.info? 5).map (·.size) = some 1 := by kernel_rfl
theorem vals_drop (B : List Nat) (n : Nat) : vals (B.drop n) = (vals B).drop n := by simp [vals]
theorem Bytes.drop {w : World} {g o ln cp : Nat} {B : List Nat} (h : Bytes w (some ⟨g, o, none⟩) ln cp B) (m : Nat) (hl : m ≤ ln) : Bytes w (some ⟨g, o + m, none⟩) (ln - m) (cp - m) (B.drop m) := by
  have h1 := h.size
  have h2 := h.le
  refine ⟨by simp; omega, by omega, Sm.allB_drop h.ok m, Or.inr ⟨g, o + m, rfl, ?_⟩⟩
  rcases h.at' with hc | ⟨g', o', hp, hx⟩
  · intro i hi
    simp only [List.length_drop] at hi
    omega
  · obtain ⟨rfl, rfl⟩ : g = g' ∧ o = o' := by simpa using hp
    exact hx.drop m
theorem below_of {w w1 w2 : World} (hb : Below w1.heap.size w1 w2) (e : w1.heap = w.heap) (e1 : w1.os = w.os) (e2 : w1.tape = w.tape) (e3 : w1.output = w.output) : Below w.heap.size w w2 :=
  ⟨hb.os.trans e1, hb.tape.trans e2, hb.output.trans e3, by rw [← e]; exact hb.size, fun k hk => by rw [hb.block k (by rw [e]; exact hk), e]⟩
theorem setRow_alloc2 (w : World) (A : Obj) (old cs : Array Value) (t : TypeId) : ((w.alloc A).alloc (.cells old t (0, 0))).setRow (w.heap.size + 1) cs = (w.alloc A).alloc (.cells cs t (0, 0)) := by
  have := setRow_alloc (w.alloc A) old cs t
  rw [show (w.alloc A).heap.size = w.heap.size + 1 from by simp] at this
  exact this
theorem zeros_ok (n : Nat) : Sm.allB (zeros n) := fun x hx => by
  have := (List.mem_replicate.1 hx).2
  omega
/-- A text among texts: its bytes lie from whatever address on, or it is nil. -/
structure Tx (w : World) (p : Option Addr) (len cap : Nat) (B : List Nat) : Prop where
  size : len = B.length
  le : len ≤ cap
  ok : Sm.allB B
  at' : (p = none ∧ cap = 0) ∨ ∃ x, p = some x ∧ ∀ j u, (vals B)[j]? = some u → w.cell? (x.add j) = some u
  sp : ∀ x, p = some x → 0 < cap → x.spot = none
theorem Tx.later {w w' : World} {p : Option Addr} {len cap : Nat} {B : List Nat} (h : Tx w p len cap B) (hb : Below w.heap.size w w') : Tx w' p len cap B :=
  ⟨h.size, h.le, h.ok, h.at'.imp id fun ⟨x, hp, hx⟩ => ⟨x, hp, fun j u hu => (hb.cell (p := x.add j) (block_lt_of_cell (hx j u hu))).trans (hx j u hu)⟩, h.sp⟩
theorem Tx.cells {w : World} {x : Addr} {n c : Nat} {B : List Nat} (h : Tx w (some x) n c B) : ∀ j u, (vals B)[j]? = some u → w.cell? (x.add j) = some u := by
  rcases h.at' with ⟨hp, _⟩ | ⟨y, hp, hx⟩
  · cases hp
  · cases hp; exact hx
/-- A slice that reads as these texts. -/
structure Texts (w : World) (p : Option Addr) (len cap : Nat) (L : List (List Nat)) : Prop where
  size : len = L.length
  le : len ≤ cap
  at' : L ≠ [] → ∃ g o, p = some ⟨g, o, none⟩ ∧ ∀ i, i < L.length → ∃ q n c, w.cell? ⟨g, o + i, none⟩ = some (.slice q n c) ∧ Tx w q n c (L.getD i [])
theorem Texts.later {w w' : World} {p : Option Addr} {len cap : Nat} {L : List (List Nat)} (h : Texts w p len cap L) (hb : Below w.heap.size w w') : Texts w' p len cap L :=
  ⟨h.size, h.le, fun hn => by
    obtain ⟨g, o, hp, hx⟩ := h.at' hn
    refine ⟨g, o, hp, fun i hi => ?_⟩
    obtain ⟨q, n, c, h1, h2⟩ := hx i hi
    exact ⟨q, n, c, (hb.cell (p := ⟨g, o + i, none⟩) (block_lt_of_cell h1)).trans h1, h2.later hb⟩⟩
theorem take_succ_getD (L : List (List Nat)) (k : Nat) (h : k < L.length) : L.take (k + 1) = L.take k ++ [L.getD k []] := by
  rw [List.take_succ_eq_append_getElem h, List.getD_eq_getElem?_getD, List.getElem?_eq_getElem h]; rfl
theorem vals_append (A B : List Nat) : vals (A ++ B) = vals A ++ vals B := by simp [vals]
theorem owns_later {w w' : World} {base : Nat} {v : Value} {n : Nat} {xs : List Value} (h : w.ownsRow base 5 1 v n xs) (hb : Below w.heap.size w w') : w'.ownsRow base 5 1 v n xs := by
  obtain ⟨h1, h2⟩ := h
  refine ⟨h1, h2.imp id ?_⟩
  rintro ⟨g, cap, cur, hv, hg, hh, r⟩
  exact ⟨g, cap, cur, hv, hg, (hb.block _ (Array.getElem?_eq_some_iff.1 hh).1).trans hh, r⟩
theorem Bytes.cells {w : World} {g o n c : Nat} {B : List Nat} (h : Bytes w (some ⟨g, o, none⟩) n c B) : ∀ j u, (vals B)[j]? = some u → w.cell? ((⟨g, o, none⟩ : Addr).add j) = some u := fun j u hu => by
  have hj : j < B.length := by have := (List.getElem?_eq_some_iff.1 hu).1; simpa [vals] using this
  obtain ⟨g', o', hp, hx⟩ := h.ne (by intro e; rw [e] at hj; simp at hj)
  obtain ⟨rfl, rfl⟩ : g = g' ∧ o = o' := by simpa using hp
  rw [vals_get _ _ hj] at hu
  rw [Addr.add_mid, hx j hj, hu]
theorem Bytes.tx {w : World} {p : Option Addr} {n c : Nat} {B : List Nat} (h : Bytes w p n c B) : Tx w p n c B := by
  have h1 := h.size
  have h2 := h.le
  rcases h.at' with hc | ⟨g, o, hp, hx⟩
  · refine ⟨h1, h2, h.ok, ?_, fun _ _ h3 => by omega⟩
    cases p with
    | none => exact Or.inl ⟨rfl, hc⟩
    | some x =>
      refine Or.inr ⟨x, rfl, fun j u hu => ?_⟩
      have := (List.getElem?_eq_some_iff.1 hu).1
      rw [vals_length] at this
      omega
  · subst hp
    exact ⟨h1, h2, h.ok, Or.inr ⟨_, rfl, h.cells⟩, fun x hx _ => by cases hx; rfl⟩
theorem Tx.bytes {w : World} {p : Option Addr} {n c : Nat} {B : List Nat} (h : Tx w p n c B) : Bytes w p n c B := by
  refine ⟨h.size, h.le, h.ok, ?_⟩
  rcases h.at' with ⟨_, hc⟩ | ⟨x, hp, hx⟩
  · exact Or.inl hc
  · rcases Nat.eq_zero_or_pos c with h0 | h0
    · exact Or.inl h0
    · have hs := h.sp x hp h0
      obtain ⟨g, o, sp⟩ := x
      obtain rfl : sp = none := hs
      exact Or.inr ⟨g, o, hp, fun i hi => by rw [← Addr.add_mid]; exact hx i _ (vals_get B i hi)⟩
theorem A9 : Try.prog.underlying 9 = some .string := by kernel_rfl
theorem C5 : Try.prog.cellsOf 5 = 1 := by kernel_rfl
theorem run_part_u8 (l : List Nat) (i : Nat) (h : i < l.length) (w : World) : (_root_.Go.part 5 (u8s l) (i * 1)).run Try.prog w = .ok (.int .u8 (l.getD i 0 : Nat)) w := by
  have hagg : (isAgg 5).run Try.prog w = .ok false w := by
    unfold isAgg
    rw [Sem.run_bind, run_underlying U5 w]
    rfl
  have := u8s_get l i h
  simp [_root_.Go.part, Sem.run_bind, hagg, this]
theorem eqItems_u8 (a b : List Nat) (d : Nat) (w : World) : ∀ is : List Nat, (∀ i ∈ is, i < a.length ∧ i < b.length) → (Op.eqItems (d + 1) 5 1 (u8s a) (u8s b) is).run Try.prog w = .ok (is.all fun i => a.getD i 0 == b.getD i 0) w
  | [], _ => rfl
  | i :: is, h => by
    have h1 := h i (by simp)
    have ih := eqItems_u8 a b d w is (fun j hj => h j (by simp [hj]))
    have e1 : (Op.equalIn (d + 1) 5 (.int .u8 (a.getD i 0 : Nat)) (.int .u8 (b.getD i 0 : Nat))).run Try.prog w = .ok (a.getD i 0 == b.getD i 0) w := by
      rw [run_equalIn_int w d 5 .u8 .u8 _ _ U5]
      congr 1
      rw [Bool.eq_iff_iff]
      simp only [beq_iff_eq]
      omega
    simp only [Op.eqItems, Sem.run_bind, run_part_u8 a i h1.1, run_part_u8 b i h1.2, Result.andThen_ok, e1]
    cases hc : (a.getD i 0 == b.getD i 0)
    · simp only [List.all_cons, hc, Bool.false_and]
      rfl
    · simp only [List.all_cons, hc, Bool.true_and, Bool.not_true, Bool.false_eq_true, if_false]
      exact ih
theorem all_getD (a b : List Nat) (ha : a.length = 32) (hb : b.length = 32) : ((List.range 32).all fun i => a.getD i 0 == b.getD i 0) = decide (a = b) := by
  rw [Bool.eq_iff_iff]
  simp only [List.all_eq_true, List.mem_range, beq_iff_eq, decide_eq_true_eq]
  constructor
  · intro h
    apply List.ext_getElem (by omega)
    intro i h1 h2
    have := h i (by omega)
    simpa [List.getD_eq_getElem?_getD, List.getElem?_eq_getElem h1, List.getElem?_eq_getElem h2] using this
  · rintro rfl i _
    rfl
theorem Bytes.row {w : World} {g : Nat} {L : List Nat} {t : TypeId} {fr : Nat × Nat} (hg : w.heap[g]? = some (.cells (u8s L) t fr)) (hL : Sm.allB L) : Bytes w (some ⟨g, 0, none⟩) L.length L.length L :=
  ⟨rfl, Nat.le_refl _, hL, Or.inr ⟨g, 0, rfl, fun i hi => by rw [Nat.zero_add]; exact u8s_cell hg i hi⟩⟩
/-- A text's bytes as numbers. -/
def txt (s : ByteArray) : List Nat := s.data.toList.map UInt8.toNat
theorem txt_length (s : ByteArray) : (txt s).length = s.size := by unfold txt; rw [List.length_map]; rfl
theorem txt_ok (s : ByteArray) : Sm.allB (txt s) := by
  intro x hx
  simp only [txt, List.mem_map] at hx
  obtain ⟨b, _, rfl⟩ := hx
  exact b.toNat_lt
theorem index_txt (s : ByteArray) (i : Int) (j : Nat) (hi : i = j) (h : j < s.size) (w : World) : (Instr.index 9 (.string s) (.int .i64 i)).run Try.prog w = .ok (.int .u8 ((txt s).getD j 0 : Nat)) w := by
  subst hi
  rw [run_index_string w 9 s .i64 _ A9, dif_pos (by omega)]
  have h2 : j < s.data.size := h
  have e : (txt s).getD j 0 = (s.data[j]'h2).toNat := by
    unfold txt
    rw [List.getD_eq_getElem?_getD, List.getElem?_map, Array.getElem?_toList, Array.getElem?_eq_getElem h2]
    rfl
  rw [e]
  rfl
def strOf (l : List Nat) : ByteArray := strOfNums (l.map Int.ofNat)
theorem txt_strOf {l : List Nat} (h : Sm.allB l) : txt (strOf l) = l := by
  unfold txt strOf
  rw [strOfNums_data, List.map_map, List.map_map]
  conv => rhs; rw [← List.map_id l]
  apply List.map_congr_left
  intro x hx
  have := h x hx
  simp
  omega
theorem strOf_txt (s : ByteArray) : strOf (txt s) = s := by
  have h : (strOf (txt s)).data.toList = s.data.toList := by
    unfold txt strOf
    rw [strOfNums_data, List.map_map, List.map_map]
    conv => rhs; rw [← List.map_id s.data.toList]
    apply List.map_congr_left
    intro x _
    simp
  cases s with
  | mk a =>
    cases hs : strOf (txt ⟨a⟩) with
    | mk b =>
      rw [hs] at h
      congr 1
      exact Array.ext' h
theorem strOf_size (l : List Nat) : (strOf l).size = l.length := by unfold strOf; rw [strOfNums_size, List.length_map]
theorem grown_below {w wr w' : World} {g : Nat} (h : Below w.heap.size w wr) (hg : wr.grownBy w' (some g)) (hl : w.heap.size ≤ g) : Below w.heap.size w w' :=
  h.grown hg h.size (fun k hk => by simp at hk; omega)
theorem owns_form {w : World} {base n : Nat} {v : Value} {B : List Nat} (h : w.ownsRow base 5 1 v n (vals B)) (hB : Sm.allB B) : ∃ q c, v = .slice q n c ∧ Bytes w q n c B := by
  have hl : n = B.length := by have := h.1; rw [vals_length, Nat.mul_one] at this; exact this.symm
  rcases h.2 with ⟨rfl, h0⟩ | ⟨g, cap, cur, rfl, r⟩
  · subst h0
    have hb : B = [] := List.length_eq_zero_iff.1 hl.symm
    exact ⟨none, 0, rfl, ⟨hl, Nat.le_refl _, hB, Or.inl rfl⟩⟩
  · exact ⟨_, cap, rfl, Bytes.of_owns h hB⟩
theorem vals_set (B : List Nat) (j x : Nat) : vals (B.set j x) = (vals B).set j (.int .u8 (x : Nat)) := by simp [vals, List.map_set]
theorem set_ok {B : List Nat} (h : Sm.allB B) (j x : Nat) (hx : x < 256) : Sm.allB (B.set j x) := fun y hy => by
  rcases List.mem_or_eq_of_mem_set hy with h1 | rfl
  · exact h y h1
  · exact hx
theorem grown_twice {a b c : World} {r : Option Nat} (h : a.grownBy b r) (k : b.grownBy c r) : a.grownBy c r :=
  ⟨k.os.trans h.os, k.tape.trans h.tape, k.output.trans h.output, Nat.le_trans h.size k.size, fun i hi hne => (k.block i (Nat.lt_of_lt_of_le hi h.size) hne).trans (h.block i hi hne)⟩
theorem strOf_eq {A B : List Nat} (hA : Sm.allB A) (hB : Sm.allB B) : strOf A = strOf B ↔ A = B := by
  constructor
  · intro h
    rw [← txt_strOf hA, ← txt_strOf hB, h]
  · rintro rfl
    rfl
theorem Tx.heap {w w' : World} {p : Option Addr} {n c : Nat} {B : List Nat} (h : Tx w p n c B) (e : w'.heap = w.heap) : Tx w' p n c B :=
  ⟨h.size, h.le, h.ok, h.at'.imp id fun ⟨x, hp, hx⟩ => ⟨x, hp, fun j u hu => by have := hx j u hu; simp only [World.cell?, e] at this ⊢; exact this⟩, h.sp⟩
theorem str_eq {A B : List Nat} (hA : Sm.allB A) (hB : Sm.allB B) : ((strOf A).toList == (strOf B).toList) = decide (A = B) := by
  rw [Bool.eq_iff_iff, beq_iff_eq, decide_eq_true_iff, ByteArray.toList_eq, ByteArray.toList_eq]
  constructor
  · intro h
    apply (strOf_eq hA hB).1
    cases hA' : strOf A
    cases hB' : strOf B
    rw [hA', hB'] at h
    congr 1
    exact Array.ext' h
  · rintro rfl
    rfl
theorem Below.drewN {B : Nat} {a w : World} (h : Below B a w) (n : Nat) : Below B a (w.drewN n) := ⟨h.os, h.tape, h.output, h.size, h.block⟩
theorem tx_of_owns {w : World} {base n : Nat} {q : Option Addr} {c : Nat} {B : List Nat} (h : w.ownsRow base 5 1 (.slice q n c) n (vals B)) (hB : Sm.allB B) : Tx w q n c B := by
  have hl : n = B.length := by have := h.1; rw [vals_length, Nat.mul_one] at this; exact this.symm
  rcases h.2 with ⟨h1, h0⟩ | ⟨g, cap, cur, h1, r⟩
  · simp at h1
    obtain ⟨rfl, rfl, rfl⟩ := h1
    exact ⟨hl, Nat.le_refl _, hB, Or.inl ⟨rfl, rfl⟩, fun _ h _ => by cases h⟩
  · simp at h1
    obtain ⟨rfl, rfl⟩ := h1
    exact (Bytes.of_owns h hB).tx
/-- 'wpList_load_row' under a guard that says yes. -/
theorem wpList_load_rowG {ops : Array Oper} {rest : List Oper} {o : Oper} {a : Act} {w : World} {Q : Exit → Act → World → Prop} (hw : Region.wanted o (yielded ops a.tmps) = true) (ty : TypeId) (x : Operand) (ho : o.op = .load ty x)
    (g : Nat) (hx : a.eval x = .pointer (some ⟨g, 0, none⟩)) (t : TypeId) (cs : Array Value) (fr : Nat × Nat) {n : Nat} {e : TypeId} (hg : w.heap[g]? = some (.cells cs t fr))
    (hu : Try.prog.underlying ty = some (.array n e)) (hi : (Try.prog.info? ty).map (·.size) = some cs.size)
    (h : wpList Try.prog ops Q rest (a.put o.dst (.agg cs)) w) : wpList Try.prog ops Q (o :: rest) a w :=
  BigFrame.wpList_want hw fun _ hK => wp_load_row ty x ho g hx t cs fr _ hg hu rfl hi (hK _ _ h)
end Go.Proofs.Ytnigfipjcnamfaa

/- What every row's proof wants: the program's closed facts; arguments opened: bytes. -/
namespace Go.Proofs.Ytnigfipjcnamfaa
open Go.ChangeShapes Go.WideShapes Go.ChangeAt Go.RowKit Go.Deep

theorem gen_own : ownKnob Try.prog.godebug = none := by kernel_rfl
theorem gen_laidOut : laidOutB Try.prog = true := by kernel_rfl
def nats (z : List Int) (n : Nat) : List Nat := (z.take n).map Int.toNat
theorem nats_ok {z : List Int} (h : ∀ n ∈ z, (Lit.int .u8 n).wf = true) (n : Nat) : Sm.allB (nats z n) := by
  intro x hx
  simp only [nats, List.mem_map] at hx
  obtain ⟨y, hy, rfl⟩ := hx
  have := bounds_u8 (h y (List.mem_of_mem_take hy))
  omega
theorem nats_get {z : List Int} (h : ∀ n ∈ z, (Lit.int .u8 n).wf = true) (n j : Nat) (hn : n ≤ z.length) (u : Value) (hu : (vals (nats z n))[j]? = some u) : j < n ∧ u = .int .u8 (z.getD j 0) := by
  have hj : j < n := by
    have := (List.getElem?_eq_some_iff.1 hu).1
    simp [vals, nats] at this
    omega
  refine ⟨hj, ?_⟩
  have hz : j < z.length := by omega
  have hb := bounds_u8 (h z[j] (List.getElem_mem hz))
  rw [vals_get _ _ (by simp [nats]; omega)] at hu
  simp only [Option.some.injEq] at hu
  rw [← hu]
  simp only [nats, List.getD_eq_getElem?_getD, List.getElem?_map, List.getElem?_take_of_lt hj, List.getElem?_eq_getElem hz, Option.map_some, Option.getD_some]
  congr 1
  omega
end Go.Proofs.Ytnigfipjcnamfaa

/- Slices of numbers that lie in memory. -/
namespace Go.Proofs.Ytnigfipjcnamfaa
open Go.RowKit

/-- A slice whose numbers are known. -/
structure Ints (w : World) (p : Option Addr) (n c : Nat) (R : List Int) : Prop where
  size : n = R.length
  le : n ≤ c
  ok : ∀ x ∈ R, -9223372036854775808 ≤ x ∧ x ≤ 9223372036854775807
  at' : R = [] ∨ ∃ g o, p = some ⟨g, o, none⟩ ∧ ∀ i, i < R.length → w.cell? ⟨g, o + i, none⟩ = some (.int .i64 (R.getD i 0))
theorem Ints.later {w w' : World} {p : Option Addr} {n c : Nat} {R : List Int} (h : Ints w p n c R) (hb : Below w.heap.size w w') : Ints w' p n c R :=
  ⟨h.size, h.le, h.ok, h.at'.imp id fun ⟨g, o, hp, hx⟩ => ⟨g, o, hp, fun i hi => (hb.cell (p := ⟨g, o + i, none⟩) (block_lt_of_cell (hx i hi))).trans (hx i hi)⟩⟩
theorem Ints.get {w : World} {p : Option Addr} {n c : Nat} {R : List Int} (h : Ints w p n c R) (k : Nat) (hk : k < n) : -9223372036854775808 ≤ R.getD k 0 ∧ R.getD k 0 ≤ 9223372036854775807 := by
  have hk' : k < R.length := by rw [← h.size]; exact hk
  rw [List.getD_eq_getElem?_getD, List.getElem?_eq_getElem hk']
  exact h.ok _ (List.getElem_mem hk')
theorem Ints.cell {w : World} {p : Option Addr} {n c : Nat} {R : List Int} (h : Ints w p n c R) (k : Nat) (hk : k < n) : ∃ g o, p = some ⟨g, o, none⟩ ∧ w.cell? ⟨g, o + k, none⟩ = some (.int .i64 (R.getD k 0)) := by
  have hk' : k < R.length := by rw [← h.size]; exact hk
  rcases h.at' with h0 | ⟨g, o, hp, hx⟩
  · rw [h0] at hk'; exact absurd hk' (by simp)
  · exact ⟨g, o, hp, hx k hk'⟩
theorem lit2 (w : World) (a b : Int) (ha : -9223372036854775808 ≤ a ∧ a ≤ 9223372036854775807) (hb : -9223372036854775808 ≤ b ∧ b ≤ 9223372036854775807) :
    Ints (w.alloc (.cells #[.int .i64 a, .int .i64 b] 2)) (some ⟨w.heap.size, 0, none⟩) 2 2 [a, b] :=
  ⟨rfl, Nat.le_refl _, fun x hx => by simp at hx; rcases hx with rfl | rfl <;> assumption, Or.inr ⟨_, _, rfl, fun i hi => by
    match i, hi with
    | 0, _ => exact cell_of_row _ _ 0 _ _ (0, 0) (heap_alloc_new w _)
    | 1, _ => exact cell_of_row _ _ 1 _ _ (0, 0) (heap_alloc_new w _)⟩⟩
end Go.Proofs.Ytnigfipjcnamfaa

/- dist's numbers: Apart, Gap, Add, Cmp; indentureref03's Apart, Gap, Less. -/
namespace Go.Proofs.Ytnigfipjcnamfaa
open Go.RowKit

/-- A distance, as the program has it. -/
def dV (n : Int) : Value := .agg #[.int .u64 (n / 18446744073709551616 % 18446744073709551616), .int .u64 (n % 18446744073709551616)]
def dRow (n : Int) : Array Value := #[.int .u64 (n / 18446744073709551616 % 18446744073709551616), .int .u64 (n % 18446744073709551616)]
def apart (a b : Int) : Int := if a < b then b - a else a - b
def gap (x lo hi : Int) : Int := if x < lo then apart x lo else if hi < x then apart x hi else 0
theorem apart_word {a b : Int} (ha : -9223372036854775808 ≤ a ∧ a ≤ 9223372036854775807) (hb : -9223372036854775808 ≤ b ∧ b ≤ 9223372036854775807) : 0 ≤ apart a b ∧ apart a b < 18446744073709551616 := by
  unfold apart; split <;> omega
theorem gap_word {a b c : Int} (ha : -9223372036854775808 ≤ a ∧ a ≤ 9223372036854775807) (hb : -9223372036854775808 ≤ b ∧ b ≤ 9223372036854775807) (hc : -9223372036854775808 ≤ c ∧ c ≤ 9223372036854775807) : 0 ≤ gap a b c ∧ gap a b c < 18446744073709551616 := by
  unfold gap
  split
  · exact apart_word ha hb
  · split
    · exact apart_word ha hc
    · omega
theorem apart_sub (a b : Int) (h : b ≤ a) (ha : -9223372036854775808 ≤ a ∧ a ≤ 9223372036854775807) (hb : -9223372036854775808 ≤ b ∧ b ≤ 9223372036854775807) : (a % 18446744073709551616 - b % 18446744073709551616) % 18446744073709551616 = a - b := by omega
theorem ret_eq {x y : Int} (h : x = y) : Ending.returned (.int .u64 x) = Ending.returned (.int .u64 y) := by rw [h]
set_option maxRecDepth 100000 in
theorem apart_any (a b : Int) (ha : -9223372036854775808 ≤ a ∧ a ≤ 9223372036854775807) (hb : -9223372036854775808 ≤ b ∧ b ≤ 9223372036854775807) (w : World) :
    Calls Try.prog 60 #[.int .i64 a, .int .i64 b] w fun e w' => e = .returned (.int .u64 (apart a b)) ∧ w' = w := by
  by_cases h : a < b
  · go_enter Try.func60, Try.ntmps60
    go_wp2
    go_ret
    refine ⟨ret_eq ?_, rfl⟩
    unfold apart
    rw [if_pos h, IntKind.wrap_u64, IntKind.wrap_u64, IntKind.wrap_u64]
    omega
  · go_enter Try.func60, Try.ntmps60
    go_wp2
    go_ret
    refine ⟨ret_eq ?_, rfl⟩
    unfold apart
    rw [if_neg (by omega), IntKind.wrap_u64, IntKind.wrap_u64, IntKind.wrap_u64]
    omega
set_option maxRecDepth 100000 in
theorem refapart_any (a b : Int) (ha : -9223372036854775808 ≤ a ∧ a ≤ 9223372036854775807) (hb : -9223372036854775808 ≤ b ∧ b ≤ 9223372036854775807) (w : World) :
    Calls Try.prog 58 #[.int .i64 a, .int .i64 b] w fun e w' => e = .returned (.int .u64 (apart a b)) ∧ w' = w := by
  by_cases h : b < a
  · go_enter Try.func58, Try.ntmps58
    go_wp2
    go_ret
    refine ⟨ret_eq ?_, rfl⟩
    unfold apart
    rw [if_neg (by omega), IntKind.wrap_u64, IntKind.wrap_u64, IntKind.wrap_u64]
    omega
  · go_enter Try.func58, Try.ntmps58
    go_wp2
    go_ret
    refine ⟨ret_eq ?_, rfl⟩
    unfold apart
    rw [IntKind.wrap_u64, IntKind.wrap_u64, IntKind.wrap_u64]
    split <;> omega
end Go.Proofs.Ytnigfipjcnamfaa

/- dist.Add by math/bits.Add64. -/
namespace Go.Proofs.Ytnigfipjcnamfaa
open Go.RowKit

theorem add64 (x y c : Int) (hx : 0 ≤ x) (hy : 0 ≤ y) (hc0 : 0 ≤ c) (hc : c ≤ 1) (w : World) : (callFunc 72 #[.int .u64 x, .int .u64 y, .int .u64 c]).run Try.prog w =
    .ok (.value (.tuple #[.int .u64 ((x + y + c) % 18446744073709551616), .int .u64 ((x + y + c) / 18446744073709551616)])) w := by
  rw [run_callFunc_extern Try.func72 (by kernel_rfl) (by kernel_rfl) (by kernel_rfl) (e := add64Entry) (by kernel_rfl), run_add64 x y c hx hy hc0 hc]
  rfl
theorem add64_0 (x y : Int) (hx : 0 ≤ x) (hy : 0 ≤ y) (w : World) : (callFunc 72 #[.int .u64 x, .int .u64 y, .int .u64 0]).run Try.prog w =
    .ok (.value (.tuple #[.int .u64 ((x + y) % 18446744073709551616), .int .u64 ((x + y) / 18446744073709551616)])) w := by
  simpa using add64 x y 0 hx hy (Int.le_refl 0) (by decide) w
theorem add64_1 (x c : Int) (hx : 0 ≤ x) (hc0 : 0 ≤ c) (hc : c ≤ 1) (w : World) : (callFunc 72 #[.int .u64 x, .int .u64 0, .int .u64 c]).run Try.prog w =
    .ok (.value (.tuple #[.int .u64 ((x + c) % 18446744073709551616), .int .u64 ((x + c) / 18446744073709551616)])) w := by
  simpa using add64 x 0 c hx (Int.le_refl 0) hc0 hc w
theorem add_hi (n k : Int) (hk : 0 ≤ k ∧ k < 18446744073709551616) : (n / 18446744073709551616 % 18446744073709551616 + (n % 18446744073709551616 + k) / 18446744073709551616) % 18446744073709551616 = (n + k) / 18446744073709551616 % 18446744073709551616 := by omega
theorem add_lo (n k : Int) : (n % 18446744073709551616 + k) % 18446744073709551616 = (n + k) % 18446744073709551616 := by omega
set_option maxRecDepth 100000 in
theorem add_any (n k : Int) (hk : 0 ≤ k ∧ k < 18446744073709551616) (w : World) :
    Calls Try.prog 70 #[dV n, .int .u64 k] w fun e w' => e = .returned (dV (n + k)) ∧ Below w.heap.size w w' := by
  have e1 := add_hi n k hk
  have e2 := add_lo n k
  have l0 : 0 ≤ n % 18446744073709551616 := by omega
  have l1 : n % 18446744073709551616 < 18446744073709551616 := by omega
  have l2 : 0 ≤ n / 18446744073709551616 % 18446744073709551616 := by omega
  unfold dV
  rw [← e1, ← e2]
  generalize n / 18446744073709551616 % 18446744073709551616 = hi at *
  generalize n % 18446744073709551616 = lo at *
  clear e1 e2
  have k0 : 0 ≤ (lo + k) / 18446744073709551616 := by omega
  have k1 : (lo + k) / 18446744073709551616 ≤ 1 := by omega
  have hk0 := hk.1
  clear hk
  go_enter Try.func70, Try.ntmps70
  go_wp2_with (first | simp only [add64_0 lo k l0 hk0] | simp only [add64_1 hi _ l2 k0 k1])
  simp [bodyPost, results, Try.results70, go_sem]
  exact (((Below.refl _ _).alloc (Nat.le_refl _) _).alloc (by simp) _)
end Go.Proofs.Ytnigfipjcnamfaa

/- Distances compared: '==' of two, dist.Cmp, indentureref03.Less. -/
namespace Go.Proofs.Ytnigfipjcnamfaa
open Go.RowKit

theorem U23 : Try.prog.underlying 62 = some (.int .u64) := by kernel_rfl
theorem F25 : (Try.prog.fieldsOf 64).toList.map (fun f => (f.name == "_", f.offset, f.type)) = [(false, 0, 62), (false, 1, 62)] := by kernel_rfl
theorem US25 : Try.prog.underlying 64 = some (.struct (Try.prog.fieldsOf 64)) := by kernel_rfl
theorem SH25 : Try.prog.stoodInHeld 64 = false := by kernel_rfl
theorem part_u64 (xs : Array Value) (i : Nat) (v : Int) (h : xs[i]? = some (.int .u64 v)) (w : World) : (_root_.Go.part 62 xs i).run Try.prog w = .ok (.int .u64 v) w := by
  have hagg : (isAgg 62).run Try.prog w = .ok false w := by
    unfold isAgg
    rw [Sem.run_bind, run_underlying U23 w]
    rfl
  simp [_root_.Go.part, Sem.run_bind, hagg, h]
theorem dist_equal (a b c d : Int) (m : Nat) (w : World) : (Op.equalIn (m + 2) 64 (.agg #[.int .u64 a, .int .u64 b]) (.agg #[.int .u64 c, .int .u64 d])).run Try.prog w = .ok (decide (a = c ∧ b = d)) w := by
  rw [run_equalIn_struct w (m + 1) _ _ _ US25 SH25]
  have hf := F25
  match hl : (Try.prog.fieldsOf 64).toList with
  | [] => rw [hl] at hf; simp at hf
  | [_] => rw [hl] at hf; simp at hf
  | _ :: _ :: _ :: _ => rw [hl] at hf; simp at hf
  | [f, g] =>
    rw [hl] at hf
    simp only [List.map_cons, List.map_nil, List.cons.injEq, Prod.mk.injEq, and_true, beq_eq_false_iff_ne] at hf
    obtain ⟨⟨n1, o1, t1⟩, n2, o2, t2⟩ := hf
    simp only [Op.eqFields, n1, n2, o1, o2, t1, t2, ne_eq, not_false_eq_true, if_true, Sem.run_bind]
    rw [part_u64 #[.int .u64 a, .int .u64 b] 0 a rfl, Result.andThen_ok, part_u64 #[.int .u64 c, .int .u64 d] 0 c rfl, Result.andThen_ok, run_equalIn_int w m 62 .u64 .u64 a c U23, Result.andThen_ok]
    by_cases h : a = c
    · subst h
      simp only [BEq.rfl, Bool.not_true, Bool.false_eq_true, if_false, true_and, Sem.run_bind]
      rw [part_u64 #[.int .u64 a, .int .u64 b] 1 b rfl, Result.andThen_ok, part_u64 #[.int .u64 a, .int .u64 d] 1 d rfl, Result.andThen_ok, run_equalIn_int w m 62 .u64 .u64 b d U23, Result.andThen_ok]
      by_cases h2 : b = d
      · subst h2
        simp
      · simp [h2]
    · simp [h]
theorem dist_eql (a b c d : Int) (w : World) : (binOp .eql 64 (.agg #[.int .u64 a, .int .u64 b]) (.agg #[.int .u64 c, .int .u64 d])).run Try.prog w = .ok (.bool (decide (a = c ∧ b = d))) w := by
  rw [run_eql_struct, dist_equal a b c d 9998 w]
  rfl
theorem dist_neq (a b c d : Int) (w : World) : (binOp .neq 64 (.agg #[.int .u64 a, .int .u64 b]) (.agg #[.int .u64 c, .int .u64 d])).run Try.prog w = .ok (.bool (!decide (a = c ∧ b = d))) w := by
  rw [run_neq_struct, dist_equal a b c d 9998 w]
  rfl
/-- Which of two distances is less. -/
def dcmp (a b c d : Int) : Int := if a = c ∧ b = d then 0 else if a < c ∨ a = c ∧ b < d then -1 else 1
set_option maxRecDepth 100000 in
set_option maxHeartbeats 1000000 in
theorem cmp_any (a b c d : Int) (w : World) :
    Calls Try.prog 56 #[.agg #[.int .u64 a, .int .u64 b], .agg #[.int .u64 c, .int .u64 d]] w fun e w' => e = .returned (.int .i64 (dcmp a b c d)) ∧ Below w.heap.size w w' := by
  have hb : ∀ x y, Below w.heap.size w ((w.alloc x).alloc y) := fun x y => ((Below.refl _ _).alloc (Nat.le_refl _) _).alloc (by simp) _
  have q := dist_eql a b c d
  by_cases h1 : a = c ∧ b = d
  · simp only [h1, and_self, decide_true] at q
    have e : dcmp a b c d = 0 := by unfold dcmp; rw [if_pos h1]
    rw [e]
    obtain ⟨rfl, rfl⟩ := h1
    clear e
    go_enter Try.func56, Try.ntmps56
    go_wp2_with fail
    go_ret
    exact ⟨rfl, hb _ _⟩
  · simp only [h1, decide_false] at q
    by_cases h2 : a < c
    · have e : dcmp a b c d = -1 := by unfold dcmp; rw [if_neg h1, if_pos (Or.inl h2)]
      rw [e]
      clear e h1
      go_enter Try.func56, Try.ntmps56
      go_wp2_with fail
      go_ret
      exact ⟨rfl, hb _ _⟩
    · by_cases h3 : a = c
      · subst h3
        by_cases h4 : b < d
        · have e : dcmp a b a d = -1 := by unfold dcmp; rw [if_neg h1, if_pos (Or.inr ⟨rfl, h4⟩)]
          rw [e]
          clear e h1
          go_enter Try.func56, Try.ntmps56
          go_wp2_with fail
          go_ret
          exact ⟨rfl, hb _ _⟩
        · have e : dcmp a b a d = 1 := by unfold dcmp; rw [if_neg h1, if_neg (by omega)]
          rw [e]
          clear e h1
          go_enter Try.func56, Try.ntmps56
          go_wp2_with fail
          go_ret
          exact ⟨rfl, hb _ _⟩
      · have e : dcmp a b c d = 1 := by unfold dcmp; rw [if_neg h1, if_neg (by omega)]
        have h5 : (a == c) = false := by simpa using h3
        rw [e]
        clear e h1
        go_enter Try.func56, Try.ntmps56
        go_wp2_with fail
        go_ret
        exact ⟨rfl, hb _ _⟩
set_option maxRecDepth 100000 in
set_option maxHeartbeats 1000000 in
theorem less_any (a b c d : Int) (w : World) :
    Calls Try.prog 35 #[.agg #[.int .u64 a, .int .u64 b], .agg #[.int .u64 c, .int .u64 d]] w fun e w' => e = .returned (.bool (decide (a < c ∨ a = c ∧ b < d))) ∧ Below w.heap.size w w' := by
  have hb : ∀ x y, Below w.heap.size w ((w.alloc x).alloc y) := fun x y => ((Below.refl _ _).alloc (Nat.le_refl _) _).alloc (by simp) _
  by_cases h3 : a = c
  · subst h3
    have e : decide (a < a ∨ a = a ∧ b < d) = decide (b < d) := by
      rw [Bool.eq_iff_iff]; simp
    rw [e]
    clear e
    go_enter Try.func35, Try.ntmps35
    go_wp2_with fail
    go_ret
    exact ⟨rfl, hb _ _⟩
  · have e : decide (a < c ∨ a = c ∧ b < d) = decide (a < c) := by
      rw [Bool.eq_iff_iff]; simp [h3]
    have h5 : (a != c) = true := by simpa using h3
    rw [e]
    clear e
    go_enter Try.func35, Try.ntmps35
    go_wp2_with fail
    go_ret
    exact ⟨rfl, hb _ _⟩
end Go.Proofs.Ytnigfipjcnamfaa

/- dist.points, dist.together over whatever function of the sides. -/
namespace Go.Proofs.Ytnigfipjcnamfaa
open Go.RowKit

set_option maxRecDepth 100000 in
theorem points_any (p q : Option Addr) (n c m d : Nat) (w : World) :
    Calls Try.prog 65 #[.slice p n c, .slice q m d] w fun e w' => e = .returned (.bool (decide (1 ≤ n ∧ n ≤ 8 ∧ n = m))) ∧ w' = w := by
  by_cases h1 : 1 ≤ n
  · have g1 : (1 : Int) ≤ n := by omega
    by_cases h2 : n ≤ 8
    · have g2 : (n : Int) ≤ 8 := by omega
      by_cases h3 : n = m
      · subst h3
        go_enter Try.func65, Try.ntmps65
        go_wp2_with fail
        go_ret
        refine ⟨?_, rfl⟩
        simp [h1, h2]
        done
      · have g3 : ((n : Int) == m) = false := by simp; omega
        go_enter Try.func65, Try.ntmps65
        go_wp2_with fail
        go_ret
        refine ⟨?_, rfl⟩
        simp [h3]
        done
    · have g2 : ¬ (n : Int) ≤ 8 := by omega
      go_enter Try.func65, Try.ntmps65
      go_wp2_with fail
      go_ret
      refine ⟨?_, rfl⟩
      simp [h2]
      done
  · have g1 : ¬ (1 : Int) ≤ n := by omega
    go_enter Try.func65, Try.ntmps65
    go_wp2_with fail
    go_ret
    refine ⟨?_, rfl⟩
    simp [h1]
    done
/-- The sides, all together. -/
def tot (f : Nat → Int) : Nat → Int
  | 0 => 0
  | k + 1 => tot f k + f k
/-- A block of two cells. -/
def Two (w : World) (g : Nat) (a b : Value) : Prop := w.heap[g]? = some (.cells #[a, b] 64 (0, 0))
theorem Two.facts {w : World} {g : Nat} {a b : Value} (h : Two w g a b) : w.cell? ⟨g, 0, none⟩ = some a ∧ w.cell? ⟨g, 1, none⟩ = some b ∧ w.frozen? ⟨g, 0, none⟩ = false ∧ w.frozen? ⟨g, 1, none⟩ = false :=
  ⟨cell_of_row w g 0 _ _ _ h, cell_of_row w g 1 _ _ _ h, frozen_of_row w g 0 _ _ h, frozen_of_row w g 1 _ _ h⟩
theorem Two.set {w : World} {g : Nat} {a b : Value} (h : Two w g a b) (x y : Value) : Two ((w.setCell ⟨g, 0, none⟩ x).setCell ⟨g, 1, none⟩ y) g x y :=
  heap_setCell_same _ g 1 _ _ y (heap_setCell_same w g 0 _ _ x h)
theorem Two.other {w : World} {g k : Nat} {a b : Value} (h : Two w g a b) (hk : g ≠ k) (x y : Value) : Two ((w.setCell ⟨k, 0, none⟩ x).setCell ⟨k, 1, none⟩ y) g a b := by
  unfold Two at h ⊢
  rw [heap_setCell_other _ _ _ _ (by exact hk), heap_setCell_other _ _ _ _ (by exact hk)]
  exact h
theorem Two.lt {w : World} {g : Nat} {a b : Value} (h : Two w g a b) : g < w.heap.size := (Array.getElem?_eq_some_iff.1 h).1
theorem Two.later {w w' : World} {g : Nat} {a b : Value} (h : Two w g a b) {n : Nat} (hb : Below n w w') (hn : g < n) : Two w' g a b := (hb.block _ hn).trans h
theorem Two.below {B : Nat} {a w : World} (h : Below B a w) {g : Nat} (hg : B ≤ g) (x y : Value) : Below B a ((w.setCell ⟨g, 0, none⟩ x).setCell ⟨g, 1, none⟩ y) := (h.setCell (p := ⟨g, 0, none⟩) hg x).setCell (p := ⟨g, 1, none⟩) hg y
theorem dV_two (n : Int) : ∃ hi lo : Int, dV n = .agg #[.int .u64 hi, .int .u64 lo] := ⟨_, _, rfl⟩
theorem ret_two {fn : Func} {P : Ending → World → Prop} (p : Tmp) (hr : fn.results = #[.cell p 64]) {tmps : Array Value} {w : World} (g : Nat) (a b : Value)
    (hp : tmps.getD p undef = .pointer (some ⟨g, 0, none⟩)) (hg : Two w g a b) (h : P (.returned (.agg #[a, b])) w) : bodyPost Try.prog fn P .ret ⟨tmps, []⟩ w := by
  obtain ⟨r0, r1, _, _⟩ := hg.facts
  refine bodyPost_ret (a := ⟨tmps, []⟩) (v := .agg #[a, b]) ?_ rfl h
  have hp' : tmps[p]?.getD undef = .pointer (some ⟨g, 0, none⟩) := by simpa using hp
  simp [results, hr, hp', go_sem, r0, r1]
theorem tot_succ (f : Nat → Int) (k : Nat) : tot f (k + 1) = tot f k + f k := rfl
/-- What the function of a side tells, and that it turns nothing. -/
def Side (w : World) (n : Nat) (f : Nat → Int) (F : Nat) (cap : Array Value) : Prop :=
  ∀ (k : Nat) (w' : World), k < n → Below w.heap.size w w' → Calls Try.prog F (#[.int .i64 k] ++ cap) w' fun e w'' => e = .returned (.int .u64 (f k)) ∧ ∃ j, w'' = w'.drewN j
def TogRel (w : World) (f : Nat → Int) (n : Nat) (i : Value) (wr : World) : Prop :=
  ∃ (k : Nat) (hi lo : Int), k ≤ n ∧ i = .int .i64 k ∧ dV (tot f k) = .agg #[.int .u64 hi, .int .u64 lo] ∧ Two wr (w.heap.size + 1) (.int .u64 hi) (.int .u64 lo) ∧ Two wr w.heap.size (.int .u64 0) (.int .u64 0) ∧ Below w.heap.size w wr
set_option maxRecDepth 100000 in
set_option maxHeartbeats 1000000 in
theorem together_any (n : Nat) (hn : n < 9223372036854775807) (f : Nat → Int) (hf : ∀ k, k < n → 0 ≤ f k ∧ f k < 18446744073709551616) (F : Nat) (cap : Array Value) (hF : ∀ args w, (callFunc F args).run Try.prog w = .ok (.enter F args) w) (w : World) (hs : Side w n f F cap) :
    Calls Try.prog 66 #[.int .i64 n, .func (.func F) #[] cap] w fun e w' => e = .returned (dV (tot f n)) ∧ Below w.heap.size w w' := by
  have HS := Lib.hid hs
  have HF := Lib.hid hf
  clear hs hf
  go_enter Try.func66, Try.ntmps66
  go_wp2_with fail
  go_loopw [8] (fun i wr => TogRel w f n i wr) (fun i _ => n - (intOf i).toNat)
  case atStart =>
    refine ⟨0, 0, 0, by omega, rfl, rfl, ?_, ?_, ((Below.refl _ _).alloc (Nat.le_refl _) _).alloc (by simp) _⟩
    · have := heap_alloc_new (w.alloc (.cells #[.int .u64 0, .int .u64 0] 64)) (.cells #[.int .u64 0, .int .u64 0] 64)
      rw [show (w.alloc (.cells #[.int .u64 0, .int .u64 0] 64)).heap.size = w.heap.size + 1 from by simp] at this
      exact this
    · exact (((Below.refl _ _).alloc (Nat.le_refl _) _).block _ (by simp)).trans (heap_alloc_new w _)
  case round =>
    obtain ⟨k, hi, lo, hk, rfl, hd, h1, h2, h3⟩ := hrel
    have H1 := Lib.hid h1
    have H2 := Lib.hid h2
    have H3 := Lib.hid h3
    have HD := Lib.hid hd
    by_cases hlt : k < n
    · obtain ⟨hi2, lo2, hd2⟩ := dV_two (tot f (k + 1))
      have HD2 := Lib.hid hd2
      have A := fun w => add_any (tot f k) (f k) (HF.out k hlt) w
      have S := fun w' => HS.out k w' hlt
      rw [← tot_succ, hd2, hd] at A
      generalize f k = x at A S
      have HA := Lib.hid A
      have HSS := Lib.hid S
      obtain ⟨c0, c1, z0, z1⟩ := h1.facts
      clear h1 h2 h3 hd hd2 A S
      go_wp2_with fail
      go_region_law (go_simp; first
        | (go_at_call 70; refine (HA.out _).mono ?_; rintro e w4 ⟨rfl, hb4⟩; have Y1 := Lib.hid (show Two w4 (w.heap.size + 1) (.int .u64 hi) (.int .u64 lo) from (hb4.block _ H1.out.lt).trans H1.out); have Y2 := Lib.hid (show Two w4 w.heap.size (.int .u64 0) (.int .u64 0) from (hb4.block _ H2.out.lt).trans H2.out); have Y3 := Lib.hid (H3.out.trans ((below_of (w := wr) hb4 rfl rfl rfl rfl).mono H3.out.size)); clear hb4; obtain ⟨y0, y1, y2, y3⟩ := Y1.out.facts)
        | (refine (HSS.out _ (by first | exact H3.out | exact H3.out.drew)).mono ?_; rintro e w'' ⟨rfl, j, rfl⟩; (try have cj0 : (wr.drew.drewN j).cell? ⟨w.heap.size + 1, 0, none⟩ = some (.int .u64 hi) := c0); (try have cj1 : (wr.drew.drewN j).cell? ⟨w.heap.size + 1, 1, none⟩ = some (.int .u64 lo) := c1)))
      all_goals
        have t1 := Two.set Y1.out (.int .u64 hi2) (.int .u64 lo2)
        have t2 := Two.other Y2.out (k := w.heap.size + 1) (by omega) (.int .u64 hi2) (.int .u64 lo2)
        have t3 := Two.below (g := w.heap.size + 1) Y3.out (by omega) (.int .u64 hi2) (.int .u64 lo2)
        generalize (w4.setCell ⟨w.heap.size + 1, 0, none⟩ (.int .u64 hi2)).setCell ⟨w.heap.size + 1, 1, none⟩ (.int .u64 lo2) = W5 at *
        have T1 := Lib.hid t1
        have T2 := Lib.hid t2
        have T3 := Lib.hid t3
        clear t1 t2 t3 y0 y1 y2 y3 c0 c1 z0 z1 Y1 Y2 Y3
        go_wp2_with fail
        go_roundw
        case rel => exact ⟨k + 1, hi2, lo2, by omega, by go_num, HD2.out, T1.out, T2.out, T3.out⟩
        case measure => simp [intOf]; omega
    · obtain rfl : k = n := by omega
      obtain ⟨c0, c1, _, _⟩ := h1.facts
      obtain ⟨_, _, z0, z1⟩ := h2.facts
      clear h1 h2 h3 hd
      go_wp2_with fail
      have t1 := Two.set H2.out (.int .u64 hi) (.int .u64 lo)
      have t3 := Two.below (g := w.heap.size) H3.out (Nat.le_refl _) (.int .u64 hi) (.int .u64 lo)
      generalize (wr.setCell ⟨w.heap.size, 0, none⟩ (.int .u64 hi)).setCell ⟨w.heap.size, 1, none⟩ (.int .u64 lo) = W5 at *
      rw [HD.out]
      exact ret_two 4 rfl w.heap.size _ _ rfl t1 ⟨rfl, t3⟩
end Go.Proofs.Ytnigfipjcnamfaa

/- dist.Sum, dist.Between, dist.ToBox: their functions of a side, and they themselves. -/
namespace Go.Proofs.Ytnigfipjcnamfaa
open Go.RowKit

/-- A slice whose words are known. -/
structure Words (w : World) (p : Option Addr) (n c : Nat) (R : List Int) : Prop where
  size : n = R.length
  le : n ≤ c
  ok : ∀ x ∈ R, 0 ≤ x ∧ x < 18446744073709551616
  at' : R = [] ∨ ∃ g o, p = some ⟨g, o, none⟩ ∧ ∀ i, i < R.length → w.cell? ⟨g, o + i, none⟩ = some (.int .u64 (R.getD i 0))
theorem Words.later {w w' : World} {p : Option Addr} {n c : Nat} {R : List Int} (h : Words w p n c R) (hb : Below w.heap.size w w') : Words w' p n c R :=
  ⟨h.size, h.le, h.ok, h.at'.imp id fun ⟨g, o, hp, hx⟩ => ⟨g, o, hp, fun i hi => (hb.cell (p := ⟨g, o + i, none⟩) (block_lt_of_cell (hx i hi))).trans (hx i hi)⟩⟩
theorem Words.get {w : World} {p : Option Addr} {n c : Nat} {R : List Int} (h : Words w p n c R) (k : Nat) (hk : k < n) : 0 ≤ R.getD k 0 ∧ R.getD k 0 < 18446744073709551616 := by
  have hk' : k < R.length := by rw [← h.size]; exact hk
  rw [List.getD_eq_getElem?_getD, List.getElem?_eq_getElem hk']
  exact h.ok _ (List.getElem_mem hk')
theorem Words.cell {w : World} {p : Option Addr} {n c : Nat} {R : List Int} (h : Words w p n c R) (k : Nat) (hk : k < n) : ∃ g o, p = some ⟨g, o, none⟩ ∧ w.cell? ⟨g, o + k, none⟩ = some (.int .u64 (R.getD k 0)) := by
  have hk' : k < R.length := by rw [← h.size]; exact hk
  rcases h.at' with h0 | ⟨g, o, hp, hx⟩
  · rw [h0] at hk'; exact absurd hk' (by simp)
  · exact ⟨g, o, hp, hx k hk'⟩
end Go.Proofs.Ytnigfipjcnamfaa

/- A box's corners in memory; a call through a value that is a function. -/
namespace Go.Proofs.Ytnigfipjcnamfaa
open Go.RowKit

/-- A box's corners: two slices. -/
def BoxAt (w : World) (B : Nat) (p : Option Addr) (n c : Nat) (q : Option Addr) (m d : Nat) : Prop := w.cell? ⟨B, 0, none⟩ = some (.slice p n c) ∧ w.cell? ⟨B, 1, none⟩ = some (.slice q m d)
theorem enter_side {F : Nat} {fn : Func} {c : Code} (hf : Try.prog.funcs[F]? = some fn) (hname : (fn.name == "runtime.NumGoroutine") = false) (hb : fn.body = some c) : ∀ args w, (callFunc F args).run Try.prog w = .ok (.enter F args) w := fun args w => by
  have h1 : fn.name ≠ "runtime.NumGoroutine" := by simpa using hname
  simp [callFunc, hf, h1, hb, mark]
theorem boxed (w : World) (v : Value) (t : TypeId) : (w.alloc (.cells #[v] t)).cell? ⟨w.heap.size, 0, none⟩ = some v := cell_of_row _ _ 0 _ t (0, 0) (heap_alloc_new w _)
end Go.Proofs.Ytnigfipjcnamfaa

/- dist.Sum, dist.Between, dist.ToBox. -/
namespace Go.Proofs.Ytnigfipjcnamfaa
open Go.RowKit

theorem ret_two2 {fn : Func} {P : Ending → World → Prop} (p u : Tmp) (hr : fn.results = #[.cell p 64, .tmp u]) {tmps : Array Value} {w : World} (g : Nat) (a b x : Value)
    (hp : tmps.getD p undef = .pointer (some ⟨g, 0, none⟩)) (hu : tmps.getD u undef = x) (hg : Two w g a b) (h : P (.returned (.tuple #[.agg #[a, b], x])) w) : bodyPost Try.prog fn P .ret ⟨tmps, []⟩ w := by
  obtain ⟨r0, r1, _, _⟩ := hg.facts
  refine bodyPost_ret (a := ⟨tmps, []⟩) (v := .tuple #[.agg #[a, b], x]) ?_ rfl h
  have hp' : tmps[p]?.getD undef = .pointer (some ⟨g, 0, none⟩) := by simpa using hp
  have hu' : tmps[u]?.getD undef = x := by simpa using hu
  simp [results, hr, hp', hu', go_sem, r0, r1]
theorem zero_two (w : World) : Two (w.alloc (.cells #[.int .u64 0, .int .u64 0] 64)) w.heap.size (.int .u64 0) (.int .u64 0) := heap_alloc_new w _
/-- The Manhattan distance, and its error. -/
def okP (n m : Nat) : Prop := 1 ≤ n ∧ n ≤ 8 ∧ n = m
instance (n m : Nat) : Decidable (okP n m) := by unfold okP; infer_instance
def btw (R S : List Int) (n m : Nat) : Int := if okP n m then tot (fun k => apart (R.getD k 0) (S.getD k 0)) n else 0
def btwE (n m : Nat) : Int := if okP n m then 0 else 1
end Go.Proofs.Ytnigfipjcnamfaa

/- Words in a block. -/
namespace Go.Proofs.Ytnigfipjcnamfaa
open Go.RowKit

/-- Words in a block. -/
def Wd (w : World) (g : Nat) (n : Nat) (f : Nat → Nat) (C : Array Value) : Prop := w.heap[g]? = some (.cells C 62 (0, 0)) ∧ n ≤ C.size ∧ ∀ i, i < n → C[i]? = some (.int .u64 (f i : Nat))
theorem Wd.set {w : World} {g n : Nat} {f : Nat → Nat} {C : Array Value} (h : Wd w g n f C) (k x : Nat) : Wd (w.setCell ⟨g, k, none⟩ (.int .u64 (x : Nat))) g n (fun i => if i = k then x else f i) (C.setIfInBounds k (.int .u64 (x : Nat))) := by
  obtain ⟨h1, h2, h3⟩ := h
  refine ⟨heap_setCell_same w g k _ _ _ h1, by simpa using h2, fun i hi => ?_⟩
  rw [Array.getElem?_setIfInBounds]
  by_cases e : k = i
  · subst e
    rw [if_pos rfl, if_pos (by omega)]
    simp
  · rw [if_neg e, h3 i hi]
    simp [Ne.symm e]
theorem Wd.cell {w : World} {g n : Nat} {f : Nat → Nat} {C : Array Value} (h : Wd w g n f C) (k : Nat) (hk : k < n) : w.cell? ⟨g, k, none⟩ = some (.int .u64 (f k : Nat)) := by
  rw [cell_of_row w g k _ _ _ h.1]; exact h.2.2 k hk
theorem Wd.free {w : World} {g n : Nat} {f : Nat → Nat} {C : Array Value} (h : Wd w g n f C) (k : Nat) : w.frozen? ⟨g, k, none⟩ = false := frozen_of_row w g _ _ _ h.1
theorem Wd.ext {w : World} {g n : Nat} {f f' : Nat → Nat} {C : Array Value} (h : Wd w g n f C) (hf : ∀ i, i < n → f i = f' i) : Wd w g n f' C :=
  ⟨h.1, h.2.1, fun i hi => by rw [h.2.2 i hi, hf i hi]⟩
theorem Wd.later {w w' : World} {g n : Nat} {f : Nat → Nat} {C : Array Value} (h : Wd w g n f C) {m : Nat} (hb : Below m w w') (hg : g < m) : Wd w' g n f C := ⟨(hb.block _ hg).trans h.1, h.2⟩
theorem Wd.lt {w : World} {g n : Nat} {f : Nat → Nat} {C : Array Value} (h : Wd w g n f C) : g < w.heap.size := (Array.getElem?_eq_some_iff.1 h.1).1
end Go.Proofs.Ytnigfipjcnamfaa

/- indentureref03.Sum. -/
namespace Go.Proofs.Ytnigfipjcnamfaa
open Go.RowKit

/-- The digits of 32 bits. -/
def limb (T i : Nat) : Nat := match i with
  | 0 => T % 4294967296
  | 1 => T / 4294967296 % 4294967296
  | 2 => T / 18446744073709551616 % 4294967296
  | _ => T / 79228162514264337593543950336 % 4294967296
theorem limb_lt (T i : Nat) : limb T i < 4294967296 := by
  unfold limb
  split <;> exact Nat.mod_lt _ (by decide)
def carry (T x : Nat) : Nat → Nat
  | 0 => 0
  | k + 1 => (limb T k + limb x k + carry T x k) / 4294967296
def smd (T x k : Nat) : Nat := (limb T k + limb x k + carry T x k) % 4294967296
theorem carry_le (T x k : Nat) : carry T x k ≤ 1 := by
  induction k with
  | zero => exact Nat.zero_le _
  | succ k ih =>
    show (limb T k + limb x k + carry T x k) / 4294967296 ≤ 1
    have := limb_lt T k
    have := limb_lt x k
    omega
theorem parts4 (T : Nat) : ∃ t4, T = limb T 0 + 4294967296 * limb T 1 + 18446744073709551616 * limb T 2 + 79228162514264337593543950336 * limb T 3 + 340282366920938463463374607431768211456 * t4 := by
  refine ⟨T / 340282366920938463463374607431768211456, ?_⟩
  unfold limb
  simp only
  omega
theorem limb_of (a b c d e : Nat) (ha : a < 4294967296) (hb : b < 4294967296) (hc : c < 4294967296) (hd : d < 4294967296) :
    limb (a + 4294967296 * b + 18446744073709551616 * c + 79228162514264337593543950336 * d + 340282366920938463463374607431768211456 * e) 0 = a ∧
    limb (a + 4294967296 * b + 18446744073709551616 * c + 79228162514264337593543950336 * d + 340282366920938463463374607431768211456 * e) 1 = b ∧
    limb (a + 4294967296 * b + 18446744073709551616 * c + 79228162514264337593543950336 * d + 340282366920938463463374607431768211456 * e) 2 = c ∧
    limb (a + 4294967296 * b + 18446744073709551616 * c + 79228162514264337593543950336 * d + 340282366920938463463374607431768211456 * e) 3 = d := by
  unfold limb
  refine ⟨?_, ?_, ?_, ?_⟩ <;> simp only <;> omega
theorem smd_limb (T x : Nat) : ∀ k, k < 4 → smd T x k = limb (T + x) k := by
  obtain ⟨t, ht⟩ := parts4 T
  obtain ⟨y, hy⟩ := parts4 x
  have s0 : smd T x 0 = (limb T 0 + limb x 0) % 4294967296 := rfl
  have c1 : carry T x 1 = (limb T 0 + limb x 0) / 4294967296 := rfl
  have s1 : smd T x 1 = (limb T 1 + limb x 1 + carry T x 1) % 4294967296 := rfl
  have c2 : carry T x 2 = (limb T 1 + limb x 1 + carry T x 1) / 4294967296 := rfl
  have s2 : smd T x 2 = (limb T 2 + limb x 2 + carry T x 2) % 4294967296 := rfl
  have c3 : carry T x 3 = (limb T 2 + limb x 2 + carry T x 2) / 4294967296 := rfl
  have s3 : smd T x 3 = (limb T 3 + limb x 3 + carry T x 3) % 4294967296 := rfl
  have e0 : limb T 0 + limb x 0 = smd T x 0 + 4294967296 * carry T x 1 := by omega
  have e1 : limb T 1 + limb x 1 + carry T x 1 = smd T x 1 + 4294967296 * carry T x 2 := by omega
  have e2 : limb T 2 + limb x 2 + carry T x 2 = smd T x 2 + 4294967296 * carry T x 3 := by omega
  obtain ⟨c4, e3⟩ : ∃ c4, limb T 3 + limb x 3 + carry T x 3 = smd T x 3 + 4294967296 * c4 := ⟨(limb T 3 + limb x 3 + carry T x 3) / 4294967296, by omega⟩
  have hs : T + x = smd T x 0 + 4294967296 * smd T x 1 + 18446744073709551616 * smd T x 2 + 79228162514264337593543950336 * smd T x 3 + 340282366920938463463374607431768211456 * (c4 + t + y) := by
    clear s0 c1 s1 c2 s2 c3 s3
    omega
  have l : ∀ k, smd T x k < 4294967296 := fun k => Nat.mod_lt _ (by decide)
  obtain ⟨r0, r1, r2, r3⟩ := limb_of _ _ _ _ (c4 + t + y) (l 0) (l 1) (l 2) (l 3)
  rw [← hs] at r0 r1 r2 r3
  intro k hk
  match k, hk with
  | 0, _ => exact r0.symm
  | 1, _ => exact r1.symm
  | 2, _ => exact r2.symm
  | 3, _ => exact r3.symm
theorem dV_limbs (T : Nat) : dV (T : Nat) = .agg #[.int .u64 ((limb T 2 : Nat) + 4294967296 * (limb T 3 : Nat)), .int .u64 ((limb T 0 : Nat) + 4294967296 * (limb T 1 : Nat))] := by
  unfold dV limb
  simp only
  congr 5 <;> omega
theorem Wd.mk' {w : World} {g n : Nat} {f : Nat → Nat} {C : Array Value} (h : w.heap[g]? = some (.cells C 62 (0, 0))) (h2 : n ≤ C.size ∧ ∀ i, i < n → C[i]? = some (.int .u64 (f i : Nat))) : Wd w g n f C := ⟨h, h2⟩
structure SumR (w : World) (R : List Int) (k T : Nat) (C : Array Value) (wr : World) : Prop where
  tot : tot (fun k => R.getD k 0) k = (T : Nat)
  wd : Wd wr (w.heap.size + 1) 4 (limb T) C
  two : Two wr w.heap.size (.int .u64 0) (.int .u64 0)
  below : Below w.heap.size w wr
def SumRel (w : World) (R : List Int) (n : Nat) (i : Value) (wr : World) : Prop := ∃ k T C, k ≤ n ∧ i = .int .i64 k ∧ SumR w R k T C wr
def CarRel (w : World) (g : Nat) (T x : Nat) (c i : Value) (wr : World) : Prop :=
  ∃ (k : Nat) (C : Array Value), k ≤ 4 ∧ i = .int .i64 k ∧ c = .int .u64 (carry T x k : Nat) ∧ Wd wr g 4 (fun i => if i < k then smd T x i else limb T i) C ∧ w.grownBy wr (some g)
set_option maxRecDepth 100000 in
set_option maxHeartbeats 1000000 in
theorem refsum_any (p : Option Addr) (n c : Nat) (R : List Int) (w : World) (h : Words w p n c R) (hn : n < 9223372036854775807) :
    Calls Try.prog 59 #[.slice p n c] w fun e w' => e = .returned (dV (tot (fun k => R.getD k 0) n)) ∧ Below w.heap.size w w' := by
  have H := Lib.hid h
  clear h
  go_enter Try.func59, Try.ntmps59
  go_wp2_with fail
  go_loopw [4] (fun i wr => SumRel w R n i wr) (fun i _ => n - (intOf i).toNat)
  case atStart =>
    have hb1 : Below w.heap.size w (w.alloc (.cells #[.int .u64 0, .int .u64 0] 64)) := (Below.refl _ _).alloc (Nat.le_refl _) _
    have s1 : (w.alloc (.cells #[.int .u64 0, .int .u64 0] 64)).heap.size = w.heap.size + 1 := by simp
    have t1 := zero_two w
    generalize w.alloc (.cells #[.int .u64 0, .int .u64 0] 64) = w1 at *
    have hn2 := heap_alloc_new w1 (.cells #[.int .u64 0, .int .u64 0, .int .u64 0, .int .u64 0] 62)
    rw [s1] at hn2
    have hb2 : Below w1.heap.size w1 (w1.alloc (.cells #[.int .u64 0, .int .u64 0, .int .u64 0, .int .u64 0] 62)) := (Below.refl _ _).alloc (Nat.le_refl _) _
    refine ⟨0, 0, _, by omega, rfl, rfl, ⟨hn2, Nat.le_refl _, fun i hi => ?_⟩, t1.later hb2 (by omega), hb1.trans (hb2.mono (by omega))⟩
    match i, hi with
    | 0, _ => rfl
    | 1, _ => rfl
    | 2, _ => rfl
    | 3, _ => rfl
  case round =>
    obtain ⟨k, T, C, hk, rfl, hR⟩ := hrel
    have HR := Lib.hid hR
    clear hR
    by_cases hlt : k < n
    · obtain ⟨gx, o, rfl, hcx⟩ := H.out.cell k hlt
      have hx64 := H.out.get k hlt
      have hcx := (HR.out.below.cell (p := ⟨gx, o + k, none⟩) (block_lt_of_cell hcx)).trans hcx
      obtain ⟨x, hx⟩ : ∃ x : Nat, R.getD k 0 = (x : Nat) := ⟨(R.getD k 0).toNat, by omega⟩
      rw [hx] at hcx hx64
      have HX := Lib.hid hx
      have b1 : (0 : Int) ≤ k ∧ (k : Int) < n := by omega
      obtain ⟨x1, hx1⟩ : ∃ y : Nat, (x : Int) / 4294967296 = y := ⟨x / 4294967296, by omega⟩
      clear hx
      have HX1 := Lib.hid hx1
      go_wp2_with fail
      go_region
      have hx1 := HX1.out
      have hwx : Wd ((wr.alloc (.cells #[.int .u64 ((x : Int) % 4294967296), .int .u64 (x1 : Nat), .int .u64 0, .int .u64 0] 62)).drew) wr.heap.size 4 (limb x) #[.int .u64 ((x : Int) % 4294967296), .int .u64 (x1 : Nat), .int .u64 0, .int .u64 0] := by
        refine ⟨heap_alloc_new wr _, Nat.le_refl _, fun i hi => ?_⟩
        match i, hi with
        | 0, _ => exact congrArg (fun z => some (Value.int .u64 z)) (show (x : Int) % 4294967296 = ((x % 4294967296 : Nat) : Int) from by omega)
        | 1, _ => exact congrArg (fun z => some (Value.int .u64 z)) (show ((x1 : Nat) : Int) = ((x / 4294967296 % 4294967296 : Nat) : Int) from by omega)
        | 2, _ => exact congrArg (fun z => some (Value.int .u64 z)) (show (0 : Int) = ((x / 18446744073709551616 % 4294967296 : Nat) : Int) from by omega)
        | 3, _ => exact congrArg (fun z => some (Value.int .u64 z)) (show (0 : Int) = ((x / 79228162514264337593543950336 % 4294967296 : Nat) : Int) from by omega)
      have hba : Below wr.heap.size wr ((wr.alloc (.cells #[.int .u64 ((x : Int) % 4294967296), .int .u64 (x1 : Nat), .int .u64 0, .int .u64 0] 62)).drew) := ((Below.refl _ _).alloc (Nat.le_refl _) _).drew
      clear hx1
      generalize (wr.alloc (.cells #[.int .u64 ((x : Int) % 4294967296), .int .u64 (x1 : Nat), .int .u64 0, .int .u64 0] 62)).drew = w1 at *
      have HWX := Lib.hid hwx
      have HWD := Lib.hid (HR.out.wd.later hba HR.out.wd.lt)
      have HTW := Lib.hid (HR.out.two.later hba HR.out.two.lt)
      have HBL := Lib.hid (HR.out.below.trans (hba.mono HR.out.below.size))
      have HNE := Lib.hid (show w.heap.size + 1 < wr.heap.size from HR.out.wd.lt)
      clear hwx hba hcx hx64
      generalize wr.heap.size = g2 at *
      go_wp2_with fail
      go_loopw [6, 7] (fun c i wx => CarRel w1 (w.heap.size + 1) T x c i wx) (fun _ i _ => 4 - (intOf i).toNat)
      case atStart => exact ⟨0, C, by omega, rfl, rfl, HWD.out.ext fun i _ => by rw [if_neg (by omega)], World.grownBy.refl _ _⟩
      case round =>
        obtain ⟨j, D, hj, rfl, rfl, h1, h2⟩ := hrel
        have H1 := Lib.hid h1
        have H2 := Lib.hid h2
        clear h1 h2
        by_cases hlt4 : j < 4
        · have b2 : (0 : Int) ≤ j ∧ (j : Int) < 4 := by omega
          have c0 := H1.out.cell j hlt4
          rw [if_neg (Nat.lt_irrefl j)] at c0
          have d0 := H1.out.free j
          have hnx := Wd.mk' ((H2.out.block _ HWX.out.lt (by simp; have := HNE.out; omega)).trans HWX.out.1) HWX.out.2
          have c1 := hnx.cell j hlt4
          have hca := carry_le T x j
          have hlT := limb_lt T j
          have hlx := limb_lt x j
          have hS := H1.out.set j (smd T x j)
          have HS := Lib.hid (hS.ext (f' := fun i => if i < j + 1 then smd T x i else limb T i) fun i _ => by
            by_cases e : i = j
            · rw [if_pos e, if_pos (by omega), e]
            · rw [if_neg e]
              by_cases e2 : i < j
              · rw [if_pos e2, if_pos (by omega)]
              · rw [if_neg e2, if_neg (by omega)])
          have HG := Lib.hid (grown_twice H2.out (grown_setCell wr (w.heap.size + 1) j (.int .u64 (smd T x j : Nat))))
          have hcar : carry T x (j + 1) = (limb T j + limb x j + carry T x j) / 4294967296 := rfl
          have hsm : smd T x j = (limb T j + limb x j + carry T x j) % 4294967296 := rfl
          obtain ⟨s, hs⟩ : ∃ s, s = limb T j + limb x j + carry T x j := ⟨_, rfl⟩
          rw [← hs] at hcar hsm
          have hsi : ((limb T j : Nat) : Int) + (limb x j : Nat) + (carry T x j : Nat) = (s : Nat) := by omega
          have hs34 : s < 8589934592 := by omega
          have hqi : (s : Int) / 4294967296 = (carry T x (j + 1) : Nat) := by omega
          have hri : (s : Int) % 4294967296 = (smd T x j : Nat) := by omega
          have HC1 := Lib.hid hqi
          clear hS hcar hsm hs hnx
          generalize limb T j = y0 at *
          generalize limb x j = y1 at *
          generalize carry T x j = y2 at *
          generalize smd T x j = y3 at *
          go_upto_region 10 with fail
          go_quiet (fail)
          go_wp2_with fail
          go_roundw
          case rel => exact ⟨j + 1, _, by omega, by go_num, rfl, ⟨HS.out.1, HS.out.2⟩, ⟨HG.out.os, HG.out.tape, HG.out.output, HG.out.size, HG.out.block⟩⟩
          case measure => simp [intOf]; omega
        · obtain rfl : j = 4 := by omega
          go_wp2_with fail
          go_roundw
          case rel =>
            refine ⟨k + 1, T + x, D, by omega, by go_num, ?_, H1.out.ext fun i hi => by rw [if_pos hi]; exact smd_limb T x i hi, ?_, ?_⟩
            · rw [tot_succ, HR.out.tot, HX.out]; rfl
            · exact (H2.out.block _ HTW.out.lt (by simp)).trans HTW.out
            · exact HBL.out.grown H2.out HBL.out.size (fun q hq => by simp at hq; omega)
          case measure => simp [intOf]; omega
    · obtain rfl : k = n := by omega
      have c0 := HR.out.wd.cell 0 (by omega)
      have c1 := HR.out.wd.cell 1 (by omega)
      have c2 := HR.out.wd.cell 2 (by omega)
      have c3 := HR.out.wd.cell 3 (by omega)
      have l0 := limb_lt T 0
      have l1 := limb_lt T 1
      have l2 := limb_lt T 2
      have l3 := limb_lt T 3
      have hdv := dV_limbs T
      rw [← HR.out.tot] at hdv
      generalize limb T 0 = y0 at *
      generalize limb T 1 = y1 at *
      generalize limb T 2 = y2 at *
      generalize limb T 3 = y3 at *
      obtain ⟨z0, z1, z2, z3⟩ := HR.out.two.facts
      have HDV := Lib.hid hdv
      clear hdv
      go_wp2_with fail
      go_still_tail 17, (by kernel_rfl)
      go_wp2_with fail
      exact ret_two 2 rfl w.heap.size _ _ rfl (HR.out.two.set (.int .u64 ((y2 : Int) + 4294967296 * (y3 : Nat))) (.int .u64 ((y0 : Int) + 4294967296 * (y1 : Nat)))) ⟨by rw [HDV.out], (Two.below HR.out.below (Nat.le_refl _) _ _).drew⟩
end Go.Proofs.Ytnigfipjcnamfaa

/- indentureref03.Between. -/
namespace Go.Proofs.Ytnigfipjcnamfaa
open Go.RowKit

theorem A22w : Try.prog.underlying 91 = some (.slice 62) := by kernel_rfl
theorem I23 : (Try.prog.info? 62).map (fun i => (i.zero, i.size, i.bytes)) = some (some (.int .u64 0), 1, 8) := by kernel_rfl
def wvals (R : List Int) : List Value := R.map fun x => .int .u64 x
theorem wvals_length (R : List Int) : (wvals R).length = R.length := List.length_map ..
theorem wvals_one (R : List Int) : ∀ u ∈ wvals R, u.oneCell' = true := by
  intro u hu
  simp only [wvals, List.mem_map] at hu
  obtain ⟨x, _, rfl⟩ := hu
  rfl
theorem wvals_append (A B : List Int) : wvals (A ++ B) = wvals A ++ wvals B := List.map_append ..
theorem wowns_later {w w' : World} {base : Nat} {v : Value} {n : Nat} {xs : List Value} (h : w.ownsRow base 62 1 v n xs) (hb : Below w.heap.size w w') : w'.ownsRow base 62 1 v n xs := by
  obtain ⟨h1, h2⟩ := h
  refine ⟨h1, h2.imp id ?_⟩
  rintro ⟨g, cap, cur, hv, hg, hh, r⟩
  exact ⟨g, cap, cur, hv, hg, (hb.block _ (Array.getElem?_eq_some_iff.1 hh).1).trans hh, r⟩
theorem words_of_owns {w : World} {base n : Nat} {v : Value} {R : List Int} (h : w.ownsRow base 62 1 v n (wvals R)) (hR : ∀ x ∈ R, 0 ≤ x ∧ x < 18446744073709551616) : ∃ q c, v = .slice q n c ∧ Words w q n c R := by
  have hl : n = R.length := by have := h.1; rw [wvals_length, Nat.mul_one] at this; exact this.symm
  rcases h.2 with ⟨rfl, h0⟩ | ⟨g, cap, cur, rfl, hb, hg, hle, hm, hs, ht⟩
  · subst h0
    have hb : R = [] := List.length_eq_zero_iff.1 hl.symm
    exact ⟨none, 0, rfl, ⟨hl, Nat.le_refl _, hR, Or.inl hb⟩⟩
  · refine ⟨_, cap, rfl, ⟨hl, hle, hR, Or.inr ⟨g, 0, rfl, fun i hi => ?_⟩⟩⟩
    rw [Nat.zero_add, cell_of_row w g i cur _ _ hg]
    have e : (cur.toList.take (n * 1))[i]? = (wvals R)[i]? := by rw [ht]
    rw [List.getElem?_take_of_lt (by omega), Array.getElem?_toList] at e
    rw [e]
    simp [wvals, List.getD_eq_getElem?_getD, hi]
theorem tot_congr (f g : Nat → Int) : ∀ n, (∀ k, k < n → f k = g k) → tot f n = tot g n
  | 0, _ => rfl
  | n + 1, h => by rw [tot_succ, tot_succ, tot_congr f g n (fun k hk => h k (by omega)), h n (by omega)]
/-- The first so many of what a function of the sides tells. -/
def firsts (f : Nat → Int) (k : Nat) : List Int := (List.range k).map f
theorem firsts_length (f : Nat → Int) (k : Nat) : (firsts f k).length = k := by simp [firsts]
theorem firsts_succ (f : Nat → Int) (k : Nat) : firsts f (k + 1) = firsts f k ++ [f k] := by simp [firsts, List.range_succ]
theorem firsts_getD (f : Nat → Int) (n k : Nat) (h : k < n) : (firsts f n).getD k 0 = f k := by simp [firsts, List.getD_eq_getElem?_getD, h]
theorem firsts_ok (f : Nat → Int) (n : Nat) (h : ∀ k, k < n → 0 ≤ f k ∧ f k < 18446744073709551616) : ∀ x ∈ firsts f n, 0 ≤ x ∧ x < 18446744073709551616 := by
  intro x hx
  simp only [firsts, List.mem_map, List.mem_range] at hx
  obtain ⟨k, hk, rfl⟩ := hx
  exact h k hk
theorem wne_owns {w : World} {g base n : Nat} {v : Value} {xs : List Value} (ho : w.ownsRow base 62 1 v n xs) (hg : g < base) : v.ownBlock ≠ some g := by
  intro e
  have := (ho.lt g e).1
  omega
def ListRel (w : World) (b : Nat) (f : Nat → Int) (n : Nat) (v i : Value) (wr : World) : Prop :=
  ∃ k : Nat, k ≤ n ∧ i = .int .i64 k ∧ wr.ownsRow (b + 1) 62 1 v k (wvals (firsts f k)) ∧ Two wr b (.int .u64 0) (.int .u64 0) ∧ Below w.heap.size w wr ∧ b + 1 ≤ wr.heap.size
set_option maxRecDepth 100000 in
set_option maxHeartbeats 1000000 in
theorem refbetween_any (p q : Option Addr) (n c m d : Nat) (R S : List Int) (w : World) (h : Ints w p n c R) (h2 : Ints w q m d S) :
    Calls Try.prog 53 #[.slice p n c, .slice q m d] w fun e w' => e = .returned (.tuple #[dV (btw R S n m), .bool (decide (okP n m))]) ∧ Below w.heap.size w w' := by
  have H := Lib.hid h
  have H2 := Lib.hid h2
  clear h h2
  obtain ⟨hi, lo, hd⟩ := dV_two (btw R S n m)
  rw [hd]
  have HD := Lib.hid hd
  clear hd
  obtain ⟨i23, hi0, hi1, hi2, hi3⟩ := info_parts I23
  have HI := Lib.hid hi0
  have HI0 := Lib.hid hi1
  have HI1 := Lib.hid hi2
  have HI2 := Lib.hid hi3
  clear hi0 hi1 hi2 hi3
  have t0 := zero_two w
  have B0 := Lib.hid (show Below w.heap.size w (w.alloc (.cells #[.int .u64 0, .int .u64 0] 64)) from (Below.refl _ _).alloc (Nat.le_refl _) _)
  have S0 := Lib.hid (show w.heap.size + 1 ≤ (w.alloc (.cells #[.int .u64 0, .int .u64 0] 64)).heap.size from by simp)
  have T0 := Lib.hid t0
  obtain ⟨y0, y1, y2, y3⟩ := t0.facts
  clear t0
  by_cases hok : okP n m
  · have hE : decide (okP n m) = true := decide_eq_true hok
    rw [hE]
    have hB : btw R S n m = tot (fun k => apart (R.getD k 0) (S.getD k 0)) n := by unfold btw; rw [if_pos hok]
    rw [hB] at HD
    obtain ⟨k1, k2, rfl⟩ := hok
    have g1 : ¬ (n : Int) < 1 := by omega
    have g2 : ¬ (8 : Int) < n := by omega
    clear hE hB
    go_enter Try.func53, Try.ntmps53
    go_wp2_with fail
    generalize w.alloc (.cells #[.int .u64 0, .int .u64 0] 64) = w0 at *
    go_loopw [6, 7] (fun v i wr => ListRel w w.heap.size (fun k => apart (R.getD k 0) (S.getD k 0)) n v i wr) (fun _ i _ => n - (intOf i).toNat)
    case atStart => exact ⟨0, by omega, rfl, World.ownsRow_nil _ _ _ _, T0.out, B0.out, S0.out⟩
    case round =>
      obtain ⟨k, hk, rfl, h1, h2, h3, h4⟩ := hrel
      have H1 := Lib.hid h1
      have HT := Lib.hid h2
      have H3 := Lib.hid h3
      have H4 := Lib.hid h4
      clear h1 h2 h3 h4 y0 y1 y2 y3 T0 S0 B0
      by_cases hlt : k < n
      · obtain ⟨gx, o, rfl, hcx⟩ := H.out.cell k hlt
        obtain ⟨gy, o2, rfl, hcy⟩ := H2.out.cell k hlt
        have hx := H.out.get k hlt
        have hy := H2.out.get k hlt
        have hcx := (H3.out.cell (p := ⟨gx, o + k, none⟩) (block_lt_of_cell hcx)).trans hcx
        have hcy := (H3.out.cell (p := ⟨gy, o2 + k, none⟩) (block_lt_of_cell hcy)).trans hcy
        have b1 : (0 : Int) ≤ k ∧ (k : Int) < n := by omega
        have HF := Lib.hid (firsts_succ (fun k => apart (R.getD k 0) (S.getD k 0)) k)
        have hap := apart_word hx hy
        generalize R.getD k 0 = x at *
        generalize S.getD k 0 = y at *
        obtain ⟨z, hz⟩ : ∃ z, z = apart x y := ⟨_, rfl⟩
        rw [← hz] at HF hap
        have HZ := Lib.hid hz
        have ha := fun w => refapart_any x y hx hy w
        rw [← hz] at ha
        have HA := Lib.hid ha
        clear hz hap ha hx hy
        have hba : Below wr.heap.size wr (wr.alloc (.cells #[.int .u64 z] 62)) := (Below.refl _ _).alloc (Nat.le_refl _) _
        have O5 := Lib.hid (show ((wr.alloc (.cells #[.int .u64 z] 62)).drew).ownsRow _ _ _ _ _ _ from wowns_later H1.out hba.drew)
        have T5 := Lib.hid (HT.out.later hba HT.out.lt)
        have B5 := Lib.hid (H3.out.trans (hba.mono H3.out.size))
        have S5 := Lib.hid (Nat.le_trans H4.out hba.size)
        have N5 := Lib.hid (show ∀ j u, (wvals [z])[j]? = some u → ((wr.alloc (.cells #[.int .u64 z] 62)).drew).cell? ((⟨wr.heap.size, 0, none⟩ : Addr).add j) = some u from cell_one_new wr (.int .u64 z) 62)
        clear hba
        go_wp2_with fail
        go_region_law (first
          | (go_simp; go_at_call 58; refine (HA.out _).mono ?_; rintro e w' ⟨rfl, rfl⟩)
          | (rw [if_pos (by rfl)]; refine wp_append_own _ (.tmp 30) (.tmp 40) 91 (by rfl) (w.heap.size + 1) 62 i23 (.int .u64 0) 1 8 A22w HI.out HI0.out HI1.out HI2.out (by rfl) (by decide) _ k _ (by rfl) O5.out ⟨wr.heap.size, 0, none⟩ 1 1 (wvals [z]) (by rfl) (by rw [wvals_length]; rfl) N5.out (wvals_one _) (by unfold maxLen; omega) (by omega) S5.out ?_; intro v7 w7 hown7 hgrow7 _; have O7 := Lib.hid hown7; have G7 := Lib.hid hgrow7; clear hown7 hgrow7))
        all_goals
          have hown8 : w7.ownsRow (w.heap.size + 1) 62 1 v7 (k + 1) (wvals (firsts (fun k => apart (R.getD k 0) (S.getD k 0)) (k + 1))) := by rw [HF.out, wvals_append]; exact O7.out
          have HO8 := Lib.hid hown8
          clear hown8 hcx hcy
          go_wp2_with fail
          go_roundw
          case rel =>
            refine ⟨k + 1, by omega, by go_num, HO8.out, ?_, ?_, Nat.le_trans S5.out G7.out.size⟩
            · exact (G7.out.block _ T5.out.lt (Ne.symm (wne_owns H1.out (by omega)))).trans T5.out
            · exact B5.out.drew.grown G7.out B5.out.size (fun q hq => by have := (H1.out.lt q hq).1; omega)
          case measure => simp [intOf]; omega
      · obtain rfl : k = n := by omega
        obtain ⟨q', c', rfl, hW⟩ := words_of_owns H1.out (firsts_ok _ _ fun j hj => apart_word (H.out.get j hj) (H2.out.get j hj))
        have hs := refsum_any q' k c' _ wr hW (by omega)
        rw [tot_congr _ _ k (fun j hj => firsts_getD _ k j hj), HD.out] at hs
        have HS := Lib.hid hs
        clear hs hW
        go_wp2_with fail
        refine HS.out.mono ?_
        rintro e w5 ⟨rfl, hb5⟩
        have T5 := Lib.hid (HT.out.later hb5 HT.out.lt)
        have B5 := Lib.hid (H3.out.trans (hb5.mono H3.out.size))
        obtain ⟨y0, y1, y2, y3⟩ := T5.out.facts
        clear hb5
        go_wp2_with fail
        exact ret_two2 4 5 rfl w.heap.size _ _ (.bool true) rfl rfl (T5.out.set _ _) ⟨rfl, Two.below B5.out (Nat.le_refl _) _ _⟩
  · have hE : decide (okP n m) = false := decide_eq_false hok
    rw [hE]
    have hB : btw R S n m = 0 := by unfold btw; rw [if_neg hok]
    rw [hB] at HD
    obtain ⟨rfl, rfl⟩ : (0 : Int) = hi ∧ (0 : Int) = lo := by have := HD.out; simpa [dV] using this
    clear hE hB
    by_cases q1 : n < 1
    · have g1 : (n : Int) < 1 := by omega
      clear hok
      go_enter Try.func53, Try.ntmps53
      go_wp2_with fail
      exact ret_two2 4 5 rfl w.heap.size _ _ (.bool false) rfl rfl T0.out ⟨rfl, B0.out⟩
    · have g1 : ¬ (n : Int) < 1 := by omega
      by_cases q2 : 8 < n
      · have g2 : (8 : Int) < n := by omega
        clear hok
        go_enter Try.func53, Try.ntmps53
        go_wp2_with fail
        exact ret_two2 4 5 rfl w.heap.size _ _ (.bool false) rfl rfl T0.out ⟨rfl, B0.out⟩
      · have g2 : ¬ (8 : Int) < n := by omega
        have g3 : ((n : Int) != m) = true := by
          simp only [bne_iff_ne, ne_eq]
          intro h
          exact hok ⟨by omega, by omega, by omega⟩
        clear hok
        go_enter Try.func53, Try.ntmps53
        go_wp2_with fail
        exact ret_two2 4 5 rfl w.heap.size _ _ (.bool false) rfl rfl T0.out ⟨rfl, B0.out⟩
end Go.Proofs.Ytnigfipjcnamfaa

/- Arguments opened: distances, rows, boxes, lists of words. -/
namespace Go.Proofs.Ytnigfipjcnamfaa
open Go.ChangeShapes Go.WideShapes Go.ChangeAt Go.RowKit Go.Deep

def fieldsOf : Option TypeDesc → Option (List (Nat × TypeId))
  | some (.struct fs) => some (fs.toList.map fun f => (f.offset, f.type))
  | _ => none
theorem field_at {fs : Array Field} {l : List (Nat × TypeId)} (h : fs.toList.map (fun f => (f.offset, f.type)) = l) {i o : Nat} {t : TypeId} (hi : l[i]? = some (o, t)) : ∃ f, fs[i]? = some f ∧ f.offset = o ∧ f.type = t := by
  subst h
  rw [List.getElem?_map, Option.map_eq_some_iff] at hi
  obtain ⟨f, hf, he⟩ := hi
  simp only [Prod.mk.injEq] at he
  exact ⟨f, by rw [← Array.getElem?_toList]; exact hf, he.1, he.2⟩
theorem FD : fieldsOf (Try.prog.underlying 64) = some [(0, 62), (1, 62)] := by kernel_rfl
theorem FB : fieldsOf (Try.prog.underlying 25) = some [(0, 23), (1, 23)] := by kernel_rfl
theorem CD : Try.prog.cellsOf 64 = 2 := by kernel_rfl
theorem CB : Try.prog.cellsOf 25 = 2 := by kernel_rfl
theorem C64 : Try.prog.cellsOf 62 = 1 := by kernel_rfl
theorem CI64 : Try.prog.cellsOf 2 = 1 := by kernel_rfl
theorem CRow : Try.prog.cellsOf 23 = 1 := by kernel_rfl
theorem CWs : Try.prog.cellsOf 91 = 1 := by kernel_rfl
theorem UI64 : Try.prog.underlying 2 = some (.int .i64) := by kernel_rfl
theorem UR : Try.prog.underlying 23 = some (.slice 2) := by kernel_rfl
theorem bounds_u64 {n : Int} (h : (Lit.int .u64 n).wf = true) : 0 ≤ n ∧ n < 18446744073709551616 := by
  have hmin : IntKind.u64.min = 0 := rfl
  have hmax : IntKind.u64.max = 18446744073709551615 := rfl
  simp only [Lit.wf, Bool.and_eq_true, decide_eq_true_eq] at h
  omega
section
variable {H : Type} {enc : TypeId × Value → H} {W : World} {base : Nat} {held : Bool} {fuel : Nat} {cs : List Value} {x : DataW H × List MemPlace}
set_option maxRecDepth 100000 in
theorem cells_row (h : DataW.trod enc Try.prog W base (fun _ => true) held fuel 23 cs = some x) : ∃ p n c R, cs = [.slice p n c] ∧ Ints W p n c R ∧ n ≤ 9223372036854775807 := by
  rcases open_ints UR UI64 CI64 h with ⟨hcs, _⟩ | ⟨a, len, cap, zs, hcs, _, hl, hm, hz, _, hx, hw⟩
  · exact ⟨_, _, _, [], hcs, ⟨rfl, Nat.le_refl _, fun x hx => by simp at hx, Or.inl rfl⟩, by omega⟩
  · simp only [if_true] at hz
    refine ⟨_, _, _, zs.take len, hcs, ⟨by rw [List.length_take, hz]; exact (Nat.min_eq_left hl).symm, hl, fun y hy => bounds_i64 (hw y (List.mem_of_mem_take hy)), ?_⟩, by unfold maxLen at hm; omega⟩
    rcases Nat.eq_zero_or_pos len with h0 | h0
    · exact Or.inl (by rw [h0, List.take_zero])
    · right
      have hsp := World.cell?_spot (hx 0 (by omega))
      obtain ⟨g, o, spot⟩ := a
      have hspot : spot = none := by simpa [Addr.add] using hsp
      subst hspot
      refine ⟨g, o, rfl, fun i hi => ?_⟩
      rw [List.length_take] at hi
      have := hx i (by omega)
      rw [show (⟨g, o, none⟩ : Addr).add i = ⟨g, o + i, none⟩ from by unfold Addr.add; split <;> simp_all] at this
      rw [this, List.getD_eq_getElem?_getD, List.getD_eq_getElem?_getD, List.getElem?_take_of_lt (by omega)]
set_option maxRecDepth 100000 in
theorem cells_words (h : DataW.trod enc Try.prog W base (fun _ => true) held fuel 91 cs = some x) : ∃ p n c R, cs = [.slice p n c] ∧ Words W p n c R ∧ n ≤ 9223372036854775807 := by
  rcases open_ints A22w U23 C64 h with ⟨hcs, _⟩ | ⟨a, len, cap, zs, hcs, _, hl, hm, hz, _, hx, hw⟩
  · exact ⟨_, _, _, [], hcs, ⟨rfl, Nat.le_refl _, fun x hx => by simp at hx, Or.inl rfl⟩, by omega⟩
  · simp only [if_true] at hz
    refine ⟨_, _, _, zs.take len, hcs, ⟨by rw [List.length_take, hz]; exact (Nat.min_eq_left hl).symm, hl, fun y hy => bounds_u64 (hw y (List.mem_of_mem_take hy)), ?_⟩, by unfold maxLen at hm; omega⟩
    rcases Nat.eq_zero_or_pos len with h0 | h0
    · exact Or.inl (by rw [h0, List.take_zero])
    · right
      have hsp := World.cell?_spot (hx 0 (by omega))
      obtain ⟨g, o, spot⟩ := a
      have hspot : spot = none := by simpa [Addr.add] using hsp
      subst hspot
      refine ⟨g, o, rfl, fun i hi => ?_⟩
      rw [List.length_take] at hi
      have := hx i (by omega)
      rw [show (⟨g, o, none⟩ : Addr).add i = ⟨g, o + i, none⟩ from by unfold Addr.add; split <;> simp_all] at this
      rw [this, List.getD_eq_getElem?_getD, List.getD_eq_getElem?_getD, List.getElem?_take_of_lt (by omega)]
set_option maxRecDepth 100000 in
theorem cells_dist (h : DataW.trod enc Try.prog W base (fun _ => true) held fuel 64 cs = some x) : ∃ N : Nat, N < 340282366920938463463374607431768211456 ∧ cs = (dRow N).toList := by
  have hp := FD
  unfold fieldsOf at hp
  split at hp
  case h_2 => cases hp
  case h_1 fs hu =>
  simp only [Option.some.injEq] at hp
  obtain ⟨xs, n, _, _, hlen, hxs, hf⟩ := DataW.trod_struct hu h
  rw [CD] at hlen
  have get : ∀ (i o : Nat) (t : TypeId), ([(0, 62), (1, 62)] : List (Nat × TypeId))[i]? = some (o, t) →
      ∃ y, DataW.trod enc Try.prog W base (fun _ => true) held n t ((cs.drop o).take (Try.prog.cellsOf t)) = some y := fun i o t hi => by
    obtain ⟨f, h1, h2, h3⟩ := field_at hp hi
    have h4 := hf i f h1
    rw [h2, h3] at h4
    have hlt : i < xs.length := by rw [hxs]; exact (Array.getElem?_eq_some_iff.1 h1).1
    exact ⟨xs[i], by rw [h4, List.getElem?_eq_getElem hlt]⟩
  obtain ⟨y0, h0⟩ := get 0 0 _ rfl
  obtain ⟨y1, h1⟩ := get 1 1 _ rfl
  rw [C64] at h0 h1
  obtain ⟨a0, e0, _, w0⟩ := DataW.trod_int U23 h0
  obtain ⟨a1, e1, _, w1⟩ := DataW.trod_int U23 h1
  have b0 := bounds_u64 w0
  have b1 := bounds_u64 w1
  match cs, hlen with
  | [c0, c1], _ =>
    simp at e0 e1
    refine ⟨(a0 * 18446744073709551616 + a1).toNat, by omega, ?_⟩
    unfold dRow
    simp only [e0, e1]
    have k0 : (((a0 * 18446744073709551616 + a1).toNat : Nat) : Int) = a0 * 18446744073709551616 + a1 := by omega
    rw [k0]
    congr 2
    · omega
    · congr 1
      omega
set_option maxRecDepth 100000 in
theorem cells_box (h : DataW.trod enc Try.prog W base (fun _ => true) held fuel 25 cs = some x) : ∃ p n c R q m d S, cs = [.slice p n c, .slice q m d] ∧ Ints W p n c R ∧ Ints W q m d S ∧ n ≤ 9223372036854775807 ∧ m ≤ 9223372036854775807 := by
  have hp := FB
  unfold fieldsOf at hp
  split at hp
  case h_2 => cases hp
  case h_1 fs hu =>
  simp only [Option.some.injEq] at hp
  obtain ⟨xs, n, _, _, hlen, hxs, hf⟩ := DataW.trod_struct hu h
  rw [CB] at hlen
  have get : ∀ (i o : Nat) (t : TypeId), ([(0, 23), (1, 23)] : List (Nat × TypeId))[i]? = some (o, t) →
      ∃ y, DataW.trod enc Try.prog W base (fun _ => true) held n t ((cs.drop o).take (Try.prog.cellsOf t)) = some y := fun i o t hi => by
    obtain ⟨f, h1, h2, h3⟩ := field_at hp hi
    have h4 := hf i f h1
    rw [h2, h3] at h4
    have hlt : i < xs.length := by rw [hxs]; exact (Array.getElem?_eq_some_iff.1 h1).1
    exact ⟨xs[i], by rw [h4, List.getElem?_eq_getElem hlt]⟩
  obtain ⟨y0, h0⟩ := get 0 0 _ rfl
  obtain ⟨y1, h1⟩ := get 1 1 _ rfl
  rw [CRow] at h0 h1
  obtain ⟨p, n, c, R, e0, hR, hn⟩ := cells_row h0
  obtain ⟨q, m, d, S, e1, hS, hm⟩ := cells_row h1
  match cs, hlen with
  | [c0, c1], _ =>
    simp at e0 e1
    exact ⟨p, n, c, R, q, m, d, S, by rw [e0, e1], hR, hS, hn, hm⟩
end
set_option maxRecDepth 100000 in
theorem open_dist {H : Type} {enc : TypeId × Value → H} {W : World} {base b0 : Nat} {held : Bool} {r : Reach} {v : Value} {d : DataW H} {ps : List MemPlace}
    (hv : Value.okWide Try.prog W r b0 64 v) (h : DataW.Trod enc Try.prog W base (fun _ => true) held 64 v d ps) : ∃ N : Nat, N < 340282366920938463463374607431768211456 ∧ v = dV N := by
  have hp := FD
  unfold fieldsOf at hp
  split at hp
  case h_2 => cases hp
  case h_1 fs hu =>
  simp only [Value.okWide, hu] at hv
  obtain ⟨cs, rfl, _, _⟩ := hv
  obtain ⟨fuel, hf⟩ := h
  obtain ⟨N, hN, e⟩ := cells_dist hf
  exact ⟨N, hN, congrArg Value.agg (Array.ext' e)⟩
set_option maxRecDepth 100000 in
theorem open_box {H : Type} {enc : TypeId × Value → H} {W : World} {base b0 : Nat} {held : Bool} {r : Reach} {v : Value} {d : DataW H} {ps : List MemPlace}
    (hv : Value.okWide Try.prog W r b0 25 v) (h : DataW.Trod enc Try.prog W base (fun _ => true) held 25 v d ps) : ∃ p n c R q m e S, v = .agg #[.slice p n c, .slice q m e] ∧ Ints W p n c R ∧ Ints W q m e S ∧ n ≤ 9223372036854775807 ∧ m ≤ 9223372036854775807 := by
  have hp := FB
  unfold fieldsOf at hp
  split at hp
  case h_2 => cases hp
  case h_1 fs hu =>
  simp only [Value.okWide, hu] at hv
  obtain ⟨cs, rfl, _, _⟩ := hv
  obtain ⟨fuel, hf⟩ := h
  obtain ⟨p, n, c, R, q, m, e, S, he, hR, hS, hn, hm⟩ := cells_box hf
  exact ⟨p, n, c, R, q, m, e, S, congrArg Value.agg (Array.ext' he), hR, hS, hn, hm⟩
set_option maxRecDepth 100000 in
theorem open_row {H : Type} {enc : TypeId × Value → H} {W : World} {base b0 : Nat} {held : Bool} {r : Reach} {v : Value} {d : DataW H} {ps : List MemPlace}
    (hv : Value.okWide Try.prog W r b0 23 v) (h : DataW.Trod enc Try.prog W base (fun _ => true) held 23 v d ps) : ∃ p n c R, v = .slice p n c ∧ Ints W p n c R ∧ n ≤ 9223372036854775807 := by
  obtain ⟨a, len, cap, rfl⟩ := okWide_slice UR hv
  obtain ⟨fuel, hf⟩ := h
  obtain ⟨p, n, c, R, he, hR, hn⟩ := cells_row hf
  simp [Value.cells] at he
  obtain ⟨rfl, rfl, rfl⟩ := he
  exact ⟨_, _, _, R, rfl, hR, hn⟩
set_option maxRecDepth 100000 in
theorem open_words {H : Type} {enc : TypeId × Value → H} {W : World} {base b0 : Nat} {held : Bool} {r : Reach} {v : Value} {d : DataW H} {ps : List MemPlace}
    (hv : Value.okWide Try.prog W r b0 91 v) (h : DataW.Trod enc Try.prog W base (fun _ => true) held 91 v d ps) : ∃ p n c R, v = .slice p n c ∧ Words W p n c R ∧ n ≤ 9223372036854775807 := by
  obtain ⟨a, len, cap, rfl⟩ := okWide_slice A22w hv
  obtain ⟨fuel, hf⟩ := h
  obtain ⟨p, n, c, R, he, hR, hn⟩ := cells_words hf
  simp [Value.cells] at he
  obtain ⟨rfl, rfl, rfl⟩ := he
  exact ⟨_, _, _, R, rfl, hR, hn⟩
end Go.Proofs.Ytnigfipjcnamfaa

/- Arguments opened: orders of rows. -/
namespace Go.Proofs.Ytnigfipjcnamfaa
open Go.ChangeShapes Go.WideShapes Go.ChangeAt Go.RowKit Go.Deep

theorem FO : fieldsOf (Try.prog.underlying 27) = some [(0, 5), (1, 3), (2, 23)] := by kernel_rfl
theorem CO : Try.prog.cellsOf 27 = 3 := by kernel_rfl
theorem CU8 : Try.prog.cellsOf 5 = 1 := by kernel_rfl
theorem CInt : Try.prog.cellsOf 3 = 1 := by kernel_rfl
theorem UU8 : Try.prog.underlying 5 = some (.int .u8) := by kernel_rfl
theorem UInt : Try.prog.underlying 3 = some (.int .i64) := by kernel_rfl
section
variable {H : Type} {enc : TypeId × Value → H} {W : World} {base : Nat} {held : Bool} {fuel : Nat} {cs : List Value} {x : DataW H × List MemPlace}
set_option maxRecDepth 100000 in
theorem cells_order (h : DataW.trod enc Try.prog W base (fun _ => true) held fuel 27 cs = some x) : ∃ kd cl p n c R, cs = [.int .u8 kd, .int .i64 cl, .slice p n c] ∧ (0 ≤ kd ∧ kd ≤ 255) ∧ (-9223372036854775808 ≤ cl ∧ cl ≤ 9223372036854775807) ∧ Ints W p n c R ∧ n ≤ 9223372036854775807 := by
  have hp := FO
  unfold fieldsOf at hp
  split at hp
  case h_2 => cases hp
  case h_1 fs hu =>
  simp only [Option.some.injEq] at hp
  obtain ⟨xs, n, _, _, hlen, hxs, hf⟩ := DataW.trod_struct hu h
  rw [CO] at hlen
  have get : ∀ (i o : Nat) (t : TypeId), ([(0, 5), (1, 3), (2, 23)] : List (Nat × TypeId))[i]? = some (o, t) →
      ∃ y, DataW.trod enc Try.prog W base (fun _ => true) held n t ((cs.drop o).take (Try.prog.cellsOf t)) = some y := fun i o t hi => by
    obtain ⟨f, h1, h2, h3⟩ := field_at hp hi
    have h4 := hf i f h1
    rw [h2, h3] at h4
    have hlt : i < xs.length := by rw [hxs]; exact (Array.getElem?_eq_some_iff.1 h1).1
    exact ⟨xs[i], by rw [h4, List.getElem?_eq_getElem hlt]⟩
  obtain ⟨y0, h0⟩ := get 0 0 _ rfl
  obtain ⟨y1, h1⟩ := get 1 1 _ rfl
  obtain ⟨y2, h2⟩ := get 2 2 _ rfl
  rw [CU8] at h0
  rw [CInt] at h1
  rw [CRow] at h2
  obtain ⟨kd, e0, _, w0⟩ := DataW.trod_int UU8 h0
  obtain ⟨cl, e1, _, w1⟩ := DataW.trod_int UInt h1
  obtain ⟨p, m, c, R, e2, hR, hm⟩ := cells_row h2
  have b0 := bounds_u8 w0
  have b1 := bounds_i64 w1
  match cs, hlen with
  | [c0, c1, c2], _ =>
    simp at e0 e1 e2
    exact ⟨kd, cl, p, m, c, R, by rw [e0, e1, e2], by omega, by omega, hR, hm⟩
end
set_option maxRecDepth 100000 in
theorem open_order {H : Type} {enc : TypeId × Value → H} {W : World} {base b0 : Nat} {held : Bool} {r : Reach} {v : Value} {d : DataW H} {ps : List MemPlace}
    (hv : Value.okWide Try.prog W r b0 27 v) (h : DataW.Trod enc Try.prog W base (fun _ => true) held 27 v d ps) : ∃ kd cl p n c R, v = .agg #[.int .u8 kd, .int .i64 cl, .slice p n c] ∧ (0 ≤ kd ∧ kd ≤ 255) ∧ (-9223372036854775808 ≤ cl ∧ cl ≤ 9223372036854775807) ∧ Ints W p n c R ∧ n ≤ 9223372036854775807 := by
  have hp := FO
  unfold fieldsOf at hp
  split at hp
  case h_2 => cases hp
  case h_1 fs hu =>
  simp only [Value.okWide, hu] at hv
  obtain ⟨cs, rfl, _, _⟩ := hv
  obtain ⟨fuel, hf⟩ := h
  obtain ⟨kd, cl, p, n, c, R, he, hk, hc, hR, hn⟩ := cells_order hf
  exact ⟨kd, cl, p, n, c, R, congrArg Value.agg (Array.ext' he), hk, hc, hR, hn⟩
end Go.Proofs.Ytnigfipjcnamfaa

/- indentureref04.Right. -/
namespace Go.Proofs.Ytnigfipjcnamfaa
open Go.RowKit

/-- Whether of the first so many numbers none is above the other list's. -/
def les (R S : List Int) : Nat → Bool
  | 0 => true
  | k + 1 => les R S k && decide (R.getD k 0 ≤ S.getD k 0)
theorem les_iff (R S : List Int) : ∀ n, les R S n = true ↔ ∀ k, k < n → R.getD k 0 ≤ S.getD k 0
  | 0 => ⟨fun _ k hk => by omega, fun _ => rfl⟩
  | n + 1 => by
    show (les R S n && decide (R.getD n 0 ≤ S.getD n 0)) = true ↔ _
    rw [Bool.and_eq_true, les_iff R S n, decide_eq_true_eq]
    constructor
    · rintro ⟨h1, h2⟩ k hk
      by_cases hkn : k = n
      · rw [hkn]; exact h2
      · exact h1 k (by omega)
    · intro h
      exact ⟨fun k hk => h k (by omega), h n (by omega)⟩
/-- Whether a box of such corners is right for so many dimensions. -/
def rightB (R S : List Int) (n m : Nat) (d : Int) : Bool := decide (1 ≤ d ∧ d ≤ 8 ∧ (n : Int) = d ∧ (m : Int) = d) && les R S n
theorem rightB_not {R S : List Int} {n m : Nat} {d : Int} (h : ¬ (1 ≤ d ∧ d ≤ 8 ∧ (n : Int) = d ∧ (m : Int) = d)) : rightB R S n m d = false := by
  unfold rightB
  rw [decide_eq_false h, Bool.false_and]
theorem rightB_les {R S : List Int} {n : Nat} (h : 1 ≤ n ∧ n ≤ 8) : rightB R S n n n = les R S n := by
  unfold rightB
  rw [decide_eq_true (by omega), Bool.true_and]
def RightRel (w0 : World) (R S : List Int) (n : Nat) (i : Value) (wr : World) : Prop := ∃ k j : Nat, k ≤ n ∧ i = .int .i64 k ∧ les R S k = true ∧ wr = w0.drewN j
theorem les_false {R S : List Int} {k n : Nat} (hk : k < n) (h : ¬ R.getD k 0 ≤ S.getD k 0) : les R S n = false := by
  cases e : les R S n with
  | false => rfl
  | true => exact absurd ((les_iff R S n).1 e k hk) h
theorem pair_alloc (w : World) (v u : Value) (t : TypeId) : (w.alloc (.cells #[v, u] t)).cell? ⟨w.heap.size, 0, none⟩ = some v ∧ (w.alloc (.cells #[v, u] t)).cell? ⟨w.heap.size, 1, none⟩ = some u :=
  ⟨cell_of_row _ _ 0 _ t (0, 0) (heap_alloc_new w _), cell_of_row _ _ 1 _ t (0, 0) (heap_alloc_new w _)⟩
set_option maxRecDepth 100000 in
set_option maxHeartbeats 1000000 in
theorem refright_any (p q : Option Addr) (n c m e : Nat) (R S : List Int) (d : Int) (w : World) (h : Ints w p n c R) (h2 : Ints w q m e S) :
    Calls Try.prog 11 #[.agg #[.slice p n c, .slice q m e], .int .i64 d] w fun e w' => e = .returned (.bool (rightB R S n m d)) ∧ Below w.heap.size w w' := by
  have hb : Below w.heap.size w (w.alloc (.cells #[.slice p n c, .slice q m e] 25)) := (Below.refl _ _).alloc (Nat.le_refl _) _
  obtain ⟨e0, e1⟩ := pair_alloc w (.slice p n c) (.slice q m e) 25
  have H1 := Lib.hid (h.later hb)
  have H2 := Lib.hid (h2.later hb)
  have HB := Lib.hid hb
  clear h h2 hb
  by_cases hd1 : d < 1
  · rw [rightB_not (by omega)]
    go_enter Try.func11, Try.ntmps11
    go_wp2_with fail
    go_ret
    exact ⟨rfl, HB.out⟩
  by_cases hd2 : 8 < d
  · rw [rightB_not (by omega)]
    go_enter Try.func11, Try.ntmps11
    go_wp2_with fail
    go_ret
    exact ⟨rfl, HB.out⟩
  by_cases hn : (n : Int) = d
  case neg =>
    rw [rightB_not (fun h => hn h.2.2.1)]
    go_enter Try.func11, Try.ntmps11
    go_wp2_with fail
    go_ret
    exact ⟨rfl, HB.out⟩
  by_cases hm : (m : Int) = d
  case neg =>
    rw [rightB_not (fun h => hm h.2.2.2)]
    go_enter Try.func11, Try.ntmps11
    go_wp2_with fail
    go_ret
    exact ⟨rfl, HB.out⟩
  subst hn
  obtain rfl : m = n := by omega
  rw [rightB_les (by omega)]
  clear hm
  go_enter Try.func11, Try.ntmps11
  go_wp2_with fail
  have HE0 := Lib.hid e0
  have HE1 := Lib.hid e1
  generalize hw0 : w.alloc (.cells #[.slice p m c, .slice q m e] 25) = w0 at *
  clear hw0
  go_loopw [5] (fun i wr => RightRel w0 R S m i wr) (fun i _ => m - (intOf i).toNat)
  case atStart => exact ⟨0, 0, by omega, rfl, rfl, rfl⟩
  case round =>
    obtain ⟨k, j, hk, rfl, hles, rfl⟩ := hrel
    have HL := Lib.hid hles
    clear hles
    by_cases hlt : k < m
    · obtain ⟨gx, o, rfl, hcx⟩ := H1.out.cell k hlt
      obtain ⟨gy, o2, rfl, hcy⟩ := H2.out.cell k hlt
      have i1 : (0 : Int) ≤ k ∧ (k : Int) < m := by omega
      have hf := fun h => les_false (R := R) (S := S) hlt h
      have hs : les R S (k + 1) = (les R S k && decide (R.getD k 0 ≤ S.getD k 0)) := rfl
      have HF := Lib.hid hf
      have HS := Lib.hid hs
      clear hf hs
      generalize R.getD k 0 = x at *
      generalize S.getD k 0 = y at *
      by_cases hgt : y < x
      · have hfl := HF.out (by omega)
        have HFL := Lib.hid hfl
        clear HF HS hfl
        go_upto_region 6 with fail
        go_quiet (fail)
        go_wp2_with fail
        go_ret
        exact ⟨congrArg (fun b => Ending.returned (.bool b)) HFL.out.symm, Below.drewN (Below.drewN HB.out _) _⟩
      · go_upto_region 6 with fail
        go_quiet (fail)
        go_wp2_with fail
        go_roundw
        case rel => exact ⟨k + 1, j + nq, by omega, by go_num, by rw [HS.out, HL.out, decide_eq_true (by omega)]; rfl, rfl⟩
        case measure => simp [intOf]; omega
    · obtain rfl : k = m := by omega
      go_wp2_with fail
      go_ret
      exact ⟨congrArg (fun b => Ending.returned (.bool b)) HL.out.symm, Below.drewN HB.out _⟩
end Go.Proofs.Ytnigfipjcnamfaa

/- Whether the first numbers of two lists are alike. No program is named here. -/
namespace Go.Proofs.Ytnigfipjcnamfaa
open Go.RowKit
/-- Whether the first so many numbers are the same. -/
def eqs (P Q : List Int) : Nat → Bool
  | 0 => true
  | k + 1 => eqs P Q k && (P.getD k 0 == Q.getD k 0)
theorem eqs_iff (P Q : List Int) : ∀ n, eqs P Q n = true ↔ ∀ k, k < n → P.getD k 0 = Q.getD k 0
  | 0 => ⟨fun _ k hk => by omega, fun _ => rfl⟩
  | n + 1 => by
    show (eqs P Q n && (P.getD n 0 == Q.getD n 0)) = true ↔ _
    rw [Bool.and_eq_true, eqs_iff P Q n, beq_iff_eq]
    constructor
    · rintro ⟨h1, h2⟩ k hk
      by_cases hkn : k = n
      · rw [hkn]; exact h2
      · exact h1 k (by omega)
    · intro h
      exact ⟨fun k hk => h k (by omega), h n (by omega)⟩
end Go.Proofs.Ytnigfipjcnamfaa

/- indentureref04.SameRow; whether a point is in a box, plainly. -/
namespace Go.Proofs.Ytnigfipjcnamfaa
open Go.RowKit

theorem eqs_eq {R S : List Int} (h : R.length = S.length) (he : eqs R S R.length = true) : R = S := by
  apply List.ext_getElem h
  intro i h1 h2
  have := (eqs_iff R S R.length).1 he i h1
  simpa [List.getD_eq_getElem?_getD, h1, h2] using this
def SamRel (w : World) (R S : List Int) (n : Nat) (i : Value) (wr : World) : Prop := ∃ k j : Nat, k ≤ n ∧ i = .int .i64 k ∧ eqs R S k = true ∧ wr = w.drewN j
theorem ret_dec {p : Prop} [Decidable p] (h : p) : Ending.returned (.bool true) = Ending.returned (.bool (decide p)) := by rw [decide_eq_true h]
theorem ret_ndec {p : Prop} [Decidable p] (h : ¬ p) : Ending.returned (.bool false) = Ending.returned (.bool (decide p)) := by rw [decide_eq_false h]
set_option maxRecDepth 100000 in
set_option maxHeartbeats 1000000 in
theorem samerow_any (p q : Option Addr) (n c m e : Nat) (R S : List Int) (w : World) (h : Ints w p n c R) (h2 : Ints w q m e S) (hn9 : n ≤ 9223372036854775807) :
    Calls Try.prog 36 #[.slice p n c, .slice q m e] w fun e w' => e = .returned (.bool (decide (R = S))) ∧ ∃ j, w' = w.drewN j := by
  have H1 := Lib.hid h
  have H2 := Lib.hid h2
  clear h h2
  by_cases hn : (n : Int) = m
  case neg =>
    have hne : ¬ R = S := fun h => hn (by rw [H1.out.size, H2.out.size, h])
    have HNE := Lib.hid hne
    clear hne
    go_enter Try.func36, Try.ntmps36
    go_wp2_with fail
    go_ret
    exact ⟨ret_ndec HNE.out, 0, rfl⟩
  obtain rfl : m = n := by omega
  go_enter Try.func36, Try.ntmps36
  go_wp2_with fail
  go_loopw [5] (fun i wr => SamRel w R S m i wr) (fun i _ => m - (intOf i).toNat)
  case atStart => exact ⟨0, 0, by omega, rfl, rfl, rfl⟩
  case round =>
    obtain ⟨k, j, hk, rfl, heq, rfl⟩ := hrel
    have HL := Lib.hid heq
    clear heq
    by_cases hlt : k < m
    · obtain ⟨gx, o, rfl, hcx⟩ := H1.out.cell k hlt
      obtain ⟨gy, o2, rfl, hcy⟩ := H2.out.cell k hlt
      have i1 : (0 : Int) ≤ k ∧ (k : Int) < m := by omega
      have hs : eqs R S (k + 1) = (eqs R S k && (R.getD k 0 == S.getD k 0)) := rfl
      have HS := Lib.hid hs
      have HF := Lib.hid (show ¬ R.getD k 0 = S.getD k 0 → ¬ R = S from fun h h3 => h (by rw [h3]))
      clear hs
      generalize R.getD k 0 = x at *
      generalize S.getD k 0 = y at *
      by_cases hxy : x = y
      · subst hxy
        go_upto_region 6 with fail
        go_quiet (fail)
        go_wp2_with fail
        go_roundw
        case rel => exact ⟨k + 1, j + nq, by omega, by go_num, by rw [HS.out, HL.out]; simp, rfl⟩
        case measure => simp [intOf]; omega
      · go_upto_region 6 with fail
        go_quiet (fail)
        go_wp2_with fail
        go_ret
        exact ⟨ret_ndec (HF.out hxy), j + nq, by first | rfl | (simp only [World.drewN]; done) | simp [World.drewN_drewN]⟩
    · obtain rfl : k = m := by omega
      have he := HL.out
      rw [H1.out.size] at he
      have HE := Lib.hid (eqs_eq (H1.out.size.symm.trans H2.out.size) he)
      clear he
      go_wp2_with fail
      go_ret
      exact ⟨ret_dec HE.out, _, rfl⟩
/-- Whether a point is in a box. -/
def hasB (R S P : List Int) (n m l : Nat) : Bool := rightB R S n m l && (les R P l && les P S l)
theorem hasB_not {R S P : List Int} {n m l : Nat} (h : rightB R S n m l = false) : hasB R S P n m l = false := by unfold hasB; rw [h, Bool.false_and]
theorem hasB_right {R S P : List Int} {n m l : Nat} (h : rightB R S n m l = true) : hasB R S P n m l = (les R P l && les P S l) := by unfold hasB; rw [h, Bool.true_and]
theorem rightB_dims {R S : List Int} {n m : Nat} {d : Int} (h : rightB R S n m d = true) : 1 ≤ d ∧ d ≤ 8 ∧ (n : Int) = d ∧ (m : Int) = d := by
  unfold rightB at h
  rw [Bool.and_eq_true, decide_eq_true_eq] at h
  exact h.1
end Go.Proofs.Ytnigfipjcnamfaa

/- Rows of numbers as they lie in memory; lists of them. -/
namespace Go.Proofs.Ytnigfipjcnamfaa
open Go.RowKit

/-- A row, as it lies in memory. -/
structure Rw where
  p : Option Addr
  (n c : Nat)
  R : List Int
instance : Inhabited Rw := ⟨⟨none, 0, 0, []⟩⟩
def Rw.val (t : Rw) : Value := .slice t.p t.n t.c
structure Rw.Ok (w : World) (t : Rw) : Prop where
  ints : Ints w t.p t.n t.c t.R
  top : t.n ≤ 9223372036854775807
/-- A list of rows that are known. -/
structure RowsIn (w : World) (p : Option Addr) (n c : Nat) (L : List Rw) : Prop where
  size : n = L.length
  le : n ≤ c
  each : ∀ t ∈ L, t.Ok w
  at' : L = [] ∨ ∃ g o, p = some ⟨g, o, none⟩ ∧ ∀ i, i < L.length → w.cell? ⟨g, o + i, none⟩ = some (L.getD i default).val
theorem Rw.Ok.later {w w' : World} {t : Rw} (h : t.Ok w) (hb : Below w.heap.size w w') : t.Ok w' := ⟨h.ints.later hb, h.top⟩
theorem RowsIn.later {w w' : World} {p : Option Addr} {n c : Nat} {L : List Rw} (h : RowsIn w p n c L) (hb : Below w.heap.size w w') : RowsIn w' p n c L :=
  ⟨h.size, h.le, fun t ht => (h.each t ht).later hb, h.at'.imp id fun ⟨g, o, hp, hx⟩ => ⟨g, o, hp, fun i hi => (hb.cell (p := ⟨g, o + i, none⟩) (block_lt_of_cell (hx i hi))).trans (hx i hi)⟩⟩
theorem RowsIn.cell {w : World} {p : Option Addr} {n c : Nat} {L : List Rw} (h : RowsIn w p n c L) (k : Nat) (hk : k < n) : ∃ g o, p = some ⟨g, o, none⟩ ∧ w.cell? ⟨g, o + k, none⟩ = some (L.getD k default).val ∧ (L.getD k default).Ok w := by
  have hk' : k < L.length := by rw [← h.size]; exact hk
  rcases h.at' with h0 | ⟨g, o, hp, hx⟩
  · rw [h0] at hk'; exact absurd hk' (by simp)
  · refine ⟨g, o, hp, hx k hk', ?_⟩
    rw [List.getD_eq_getElem?_getD, List.getElem?_eq_getElem hk']
    exact h.each _ (List.getElem_mem hk')
end Go.Proofs.Ytnigfipjcnamfaa
