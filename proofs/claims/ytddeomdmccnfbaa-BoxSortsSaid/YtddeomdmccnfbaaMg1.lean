/- Gen0, Gen, GenRow, GenInts, Dist1, Dist2, Dist3, Dist4, Dist5, Dist6, DistWd. -/
import Derived.Laws.BitsAllLaws
import Derived.Test.YtddeomdmccnfbaaProg
import Derived.WalkKit
import Derived.WalkSpells
import Derived.WalkLawsBesides
import Derived.BigQuiet
import Derived.Deep.QuietTactic
import Derived.Lib.Hide
import Derived.StillTailTactics
import Derived.Deep.WholeRow
import Derived.Deep.MidRow
import Derived.Deep.RegionHeld3
import Derived.Deep.RegionLaw
import Derived.Deep.AppendLies
import Derived.Laws.AppendOwnNone
import Derived.ChangeKeysEq
import Derived.Lib.SlBytesConst
import Derived.Maps.AppendAt
import Derived.Deep.DeepMust
import Derived.Deep.DeepCutAuto
import Derived.Test.YtddeomdmccnfbaaRows
import Derived.ProofKit
import Derived.OpenShut
import Derived.ShutString
import Derived.ChangeOld
import Derived.Deep.Matrix
import Derived.Laws.Externs
/- Plain lemmas on lists of natural numbers: bytes. No program is named here. -/
namespace Go.Proofs.Ytddeomdmccnfbaa.Sm
def allB (l : List Nat) : Prop := ∀ x ∈ l, x < 256
theorem getD_lt {l : List Nat} {m : Nat} (h : ∀ x ∈ l, x < m) (hm : 0 < m) (i : Nat) : l.getD i 0 < m := by
  rw [List.getD_eq_getElem?_getD]
  cases hh : l[i]? with
  | none => simpa using hm
  | some x => simpa using h x (List.mem_of_getElem? hh)
theorem allB_drop {l : List Nat} (h : allB l) (n : Nat) : allB (l.drop n) := fun x hx => h x (List.mem_of_mem_drop hx)
theorem getD_take (B : List Nat) (n i : Nat) (h : i < n) : (B.take n).getD i 0 = B.getD i 0 := by
  simp [List.getD_eq_getElem?_getD, List.getElem?_take_of_lt h]
theorem getD_drop (B : List Nat) (n i : Nat) : (B.drop n).getD i 0 = B.getD (n + i) 0 := by
  simp [List.getD_eq_getElem?_getD]
theorem getD_app_left (A B : List Nat) (i : Nat) (h : i < A.length) : (A ++ B).getD i 0 = A.getD i 0 := by
  rw [List.getD_eq_getElem?_getD, List.getD_eq_getElem?_getD, List.getElem?_append_left h]
theorem getD_app_right (A B : List Nat) (i : Nat) : (A ++ B).getD (A.length + i) 0 = B.getD i 0 := by
  rw [List.getD_eq_getElem?_getD, List.getD_eq_getElem?_getD, List.getElem?_append_right (by omega), Nat.add_sub_cancel_left]
end Go.Proofs.Ytddeomdmccnfbaa.Sm

/- Bytes in memory: slices that read as bytes, rows that a call owns, texts, strings of bytes, digests compared. -/
namespace Go.Proofs.Ytddeomdmccnfbaa
open Go.RowKit

def u8s (l : List Nat) : Array Value := (l.map fun x => Value.int .u8 (x : Nat)).toArray
/-- What lies whole in the block of the result is what is told. -/
theorem ret_row {fn : Func} {P : Ending → World → Prop} (p : Tmp) {ty : TypeId} (hr : fn.results = #[.cell p ty]) {tmps : Array Value} {w : World} (g : Nat) (t : TypeId) (cs : Array Value) {n : Nat} {e : TypeId}
    (hu : Try.prog.underlying ty = some (.array n e)) (hi : (Try.prog.info? ty).map (·.size) = some n)
    (hp : tmps.getD p undef = .pointer (some ⟨g, 0, none⟩)) (hg : w.heap[g]? = some (.cells cs t (0, 0)))
    (hn : cs.size = n) (h : P (.returned (.agg cs)) w) : bodyPost Try.prog fn P .ret ⟨tmps, []⟩ w :=
  bodyPost_ret (a := ⟨tmps, []⟩) (v := .agg cs) (results_cell_row hr tmps w g t cs (0, 0) (.array n e) hp hg hu rfl (by rw [hn]; exact hi)) rfl h
theorem setRow_alloc (w : World) (old cs : Array Value) (t : TypeId) : (w.alloc (.cells old t (0, 0))).setRow w.heap.size cs = w.alloc (.cells cs t (0, 0)) := by
  unfold World.setRow World.alloc
  congr 1
  apply Array.ext
  · simp
  · intro k h1 h2
    simp only [Array.getElem_modify, Array.getElem_push]
    by_cases hk : k = w.heap.size
    · subst hk; simp
    · have : k < w.heap.size := by simp at h1; omega
      simp [this, Ne.symm hk]
/-- All the world's blocks are as they were. -/
structure SameHeap (w w' : World) : Prop where
  below : Below w.heap.size w w'
  heap : w'.heap = w.heap
theorem SameHeap.refl (w : World) : SameHeap w w := ⟨Below.refl _ _, rfl⟩
theorem SameHeap.drewN {a w : World} (h : SameHeap a w) (n : Nat) : SameHeap a (w.drewN n) := by
  induction n with
  | zero => exact h
  | succ n ih => exact ⟨ih.below.drew, ih.heap⟩
theorem SameHeap.cell {a w : World} (h : SameHeap a w) (p : Addr) : w.cell? p = a.cell? p := by simp only [World.cell?, h.heap]
theorem SameHeap.frozen {a w : World} (h : SameHeap a w) (p : Addr) : w.frozen? p = a.frozen? p := by simp only [World.frozen?, h.heap]
theorem Below.setRow {B : Nat} {a w : World} (h : Below B a w) {g : Nat} (hg : B ≤ g) (cs : Array Value) : Below B a (w.setRow g cs) :=
  h.trans ⟨rfl, rfl, rfl, by simp, fun k hk => setRow_other _ _ _ _ (by omega)⟩
/-- From an address on lie these bytes. -/
def bytesAt (w : World) (g o : Nat) (B : List Nat) : Prop := ∀ i, i < B.length → w.cell? ⟨g, o + i, none⟩ = some (.int .u8 (B.getD i 0 : Nat))
def zeros (n : Nat) : List Nat := List.replicate n 0
theorem zeros_succ {n : Nat} (h : 0 < n) : zeros n = 0 :: zeros (n - 1) := by
  cases n with
  | zero => omega
  | succ n => rfl
theorem getD_left {l : List Nat} (r : List Nat) (i : Nat) (h : i < l.length) : (l ++ r).getD i 0 = l.getD i 0 := by
  rw [List.getD_eq_getElem?_getD, List.getD_eq_getElem?_getD, List.getElem?_append_left h]
/-- A slice that reads as these bytes. -/
structure Bytes (w : World) (p : Option Addr) (len cap : Nat) (B : List Nat) : Prop where
  size : len = B.length
  le : len ≤ cap
  ok : Sm.allB B
  at' : cap = 0 ∨ ∃ g o, p = some ⟨g, o, none⟩ ∧ bytesAt w g o B
theorem Bytes.ne {w : World} {p : Option Addr} {len cap : Nat} {B : List Nat} (h : Bytes w p len cap B) (hn : B ≠ []) : ∃ g o, p = some ⟨g, o, none⟩ ∧ bytesAt w g o B := by
  rcases h.at' with hc | h1
  · have := h.size
    have := h.le
    exact absurd (List.length_eq_zero_iff.1 (by omega)) hn
  · exact h1
theorem Bytes.later {w w' : World} {p : Option Addr} {len cap : Nat} {B : List Nat} (h : Bytes w p len cap B) {H : Nat} (hb : Below H w w') (hH : ∀ g o, p = some ⟨g, o, none⟩ → B ≠ [] → g < H) : Bytes w' p len cap B :=
  ⟨h.size, h.le, h.ok, h.at'.imp id fun ⟨g, o, hp, hx⟩ => ⟨g, o, hp, fun i hi => (hb.cell (p := ⟨g, o + i, none⟩) (hH g o hp (by intro e; rw [e] at hi; simp at hi))).trans (hx i hi)⟩⟩
theorem Bytes.lt {w : World} {p : Option Addr} {len cap : Nat} {B : List Nat} (h : Bytes w p len cap B) : ∀ g o, p = some ⟨g, o, none⟩ → B ≠ [] → g < w.heap.size := fun g o hp hn => by
  obtain ⟨g', o', hp', hx⟩ := h.ne hn
  rw [hp] at hp'
  obtain ⟨rfl, rfl⟩ : g = g' ∧ o = o' := by simpa using hp'
  exact block_lt_of_cell (hx 0 (List.length_pos_iff.2 hn))
theorem bytesAt.drop {w : World} {g o : Nat} {B : List Nat} (h : bytesAt w g o B) (n : Nat) : bytesAt w g (o + n) (B.drop n) := fun i hi => by
  have h1 : n + i < B.length := by simp at hi; omega
  have := h (n + i) h1
  rw [Nat.add_assoc, this]
  simp [List.getD_eq_getElem?_getD]
def lenOf : Value → Nat
  | .slice _ n _ => n
  | _ => 0
theorem u8s_get (l : List Nat) (i : Nat) (h : i < l.length) : (u8s l)[i]? = some (.int .u8 (l.getD i 0 : Nat)) := by
  simp [u8s, List.getD_eq_getElem?_getD, List.getElem?_eq_getElem h]
theorem u8s_cell {w : World} {g : Nat} {l : List Nat} {t : TypeId} {fr : Nat × Nat} (hg : w.heap[g]? = some (.cells (u8s l) t fr)) (i : Nat) (h : i < l.length) : w.cell? ⟨g, i, none⟩ = some (.int .u8 (l.getD i 0 : Nat)) := by
  rw [cell_of_row w g i _ t fr hg, u8s_get l i h]
theorem u8s_set (p r : List Nat) (y x k : Nat) (hk : p.length = k) : (u8s (p ++ y :: r)).setIfInBounds k (.int .u8 (x : Nat)) = u8s (p ++ x :: r) := by
  subst hk
  apply Array.ext'
  simp [u8s]
theorem u8s_one (l : List Nat) : (u8s l).all (·.oneCell') = true := by simp [u8s, Value.oneCell']
theorem u8s_size (l : List Nat) : (u8s l).size = l.length := by simp [u8s]
/-- An array's element, the array being a value. -/
theorem run_index_array {P : Program} {t e : TypeId} {n : Nat} (ht : P.underlying t = some (.array n e)) {d : TypeDesc} (hd : P.underlying e = some d) (hnd : (match d with | .struct _ => false | .array _ _ => false | _ => true) = true)
    (hs : (P.info? e).map (·.size) = some 1) (cs : Array Value) (k : Nat) (hk : k < n) (v : Value) (hv : cs[k]? = some v) (w : World) :
    (Instr.index t (.agg cs) (.int .i64 k)).run P w = .ok v w := by
  have hagg : (isAgg e).run P w = .ok false w := by
    unfold isAgg
    rw [Sem.run_bind, run_underlying hd w]
    cases d <;> simp_all
  cases hq : P.info? e with
  | none => simp [hq] at hs
  | some i =>
    have hsz : i.size = 1 := by simpa [hq] using hs
    have hb : (0 : Int) ≤ k ∧ (k : Int) < n := by omega
    simp [Instr.index, run_underlying ht, asIntOf, hb, part, sizeOf, typeInfo, hq, hsz, hagg, hv, Sem.run_bind]
    intro h
    omega
theorem U5 : Try.prog.underlying 5 = some (.int .u8) := by kernel_rfl
theorem S5 : (Try.prog.info? 5).map (·.size) = some 1 := by kernel_rfl
theorem I5 : (Try.prog.info? 5).map (fun i => (i.zero, i.size, i.bytes)) = some (some (.int .u8 0), 1, 1) := by kernel_rfl
def vals (l : List Nat) : List Value := l.map fun x => Value.int .u8 (x : Nat)
theorem vals_length (l : List Nat) : (vals l).length = l.length := by simp [vals]
theorem vals_get (l : List Nat) (i : Nat) (h : i < l.length) : (vals l)[i]? = some (.int .u8 (l.getD i 0 : Nat)) := by
  simp [vals, List.getD_eq_getElem?_getD, List.getElem?_eq_getElem h]
/-- What a call owns reads as its bytes. -/
theorem Bytes.of_owns {w : World} {base g n cap : Nat} {B : List Nat} (h : w.ownsRow base 5 1 (.slice (some ⟨g, 0, none⟩) n cap) n (vals B)) (hB : Sm.allB B) : Bytes w (some ⟨g, 0, none⟩) n cap B := by
  obtain ⟨hl, h2⟩ := h
  have hn : n = B.length := by simpa [vals_length] using hl.symm
  rcases h2 with ⟨h3, _⟩ | ⟨g', cap', cur, hv, hb, hg, hle, hm, hs, ht⟩
  · simp at h3
  · obtain ⟨rfl, rfl⟩ : g = g' ∧ cap = cap' := by simpa using hv
    refine ⟨hn, hle, hB, Or.inr ⟨g, 0, rfl, fun i hi => ?_⟩⟩
    rw [Nat.zero_add, cell_of_row w g i cur _ _ hg]
    have e : (cur.toList.take (n * 1))[i]? = (vals B)[i]? := by rw [ht]
    rw [vals_get B i hi, List.getElem?_take_of_lt (by omega)] at e
    simpa using e
theorem made_zeros (n : Nat) : madeCells (Value.cells (.int .u8 0)) n = u8s (zeros n) := by
  apply Array.ext
  · simp [size_madeCells, u8s, zeros]
  · intro i h1 h2
    simp [madeCells, u8s, zeros, Value.cells, Nat.mod_one]
theorem u8s_toList (l : List Nat) : (u8s l).toList = vals l := by simp [u8s, vals]
theorem vals_one (l : List Nat) : ∀ u ∈ vals l, u.oneCell' = true := by
  intro u hu
  simp only [vals, List.mem_map] at hu
  obtain ⟨x, _, rfl⟩ := hu
  rfl
theorem owns_mk {w : World} {base g n cap : Nat} {L : List Nat} (hg : w.heap[g]? = some (.cells (u8s L) 5 (0, 0))) (hL : L.length = cap) (hn : n ≤ cap) (hm : cap ≤ maxLen) (hb : base ≤ g) :
    w.ownsRow base 5 1 (.slice (some ⟨g, 0, none⟩) n cap) n (vals (L.take n)) := by
  refine ⟨by simp [vals]; omega, Or.inr ⟨g, cap, u8s L, rfl, hb, hg, hn, hm, by rw [u8s_size]; omega, ?_⟩⟩
  rw [u8s_toList, Nat.mul_one]
  simp [vals]
theorem cells_of_row {w : World} {g : Nat} {L : List Nat} {t : TypeId} (hg : w.heap[g]? = some (.cells (u8s L) t (0, 0))) : ∀ j u, (vals L)[j]? = some u → w.cell? ((⟨g, 0, none⟩ : Addr).add j) = some u := fun j u hu => by
  rw [Addr.add_mid, Nat.zero_add, cell_of_row w g j _ _ _ hg, ← Array.getElem?_toList, u8s_toList]
  exact hu
theorem heap_setCells_other (g : Nat) : ∀ (vs : List Value) (o : Nat) (w : World) (k : Nat), k ≠ g → (w.setCells g o vs).heap[k]? = w.heap[k]?
  | [], _, _, _, _ => rfl
  | v :: r, o, w, k, h => by
    rw [World.setCells, heap_setCells_other g r (o + 1) _ k h, heap_setCell_other _ _ _ _ h]
theorem heap_setCells_same (g : Nat) (t : TypeId) : ∀ (vs A B C : List Value) (w : World), w.heap[g]? = some (.cells (A ++ B ++ C).toArray t (0, 0)) → vs.length = B.length →
    (w.setCells g A.length vs).heap[g]? = some (.cells (A ++ vs ++ C).toArray t (0, 0))
  | [], A, B, C, w, h, hl => by
    obtain rfl : B = [] := List.length_eq_zero_iff.1 (by simpa using hl.symm)
    exact h
  | v :: r, A, B, C, w, h, hl => by
    match B, hl with
    | b :: B, hl =>
      have h1 := heap_setCell_same w g A.length _ _ v h
      have e : ((A ++ b :: B ++ C).toArray).setIfInBounds A.length v = ((A ++ [v]) ++ B ++ C).toArray := by
        apply Array.ext'
        simp
      rw [e] at h1
      have := heap_setCells_same g t r (A ++ [v]) B C _ h1 (by simpa using hl)
      rw [World.setCells]
      simpa using this
theorem size_setCells (g : Nat) : ∀ (vs : List Value) (o : Nat) (w : World), (w.setCells g o vs).heap.size = w.heap.size ∧ (w.setCells g o vs).os = w.os ∧ (w.setCells g o vs).tape = w.tape ∧ (w.setCells g o vs).output = w.output
  | [], _, _ => ⟨rfl, rfl, rfl, rfl⟩
  | v :: r, o, w => by
    obtain ⟨h1, h2, h3, h4⟩ := size_setCells g r (o + 1) (w.setCell ⟨g, o, none⟩ v)
    rw [World.setCells]
    exact ⟨h1.trans (by simp [World.setCell]), h2.trans rfl, h3.trans rfl, h4.trans rfl⟩
theorem rangeAt_row {w : World} {g : Nat} {t : TypeId} (A B C : List Value) (h : w.heap[g]? = some (.cells (A ++ B ++ C).toArray t (0, 0))) : w.rangeAt g A.length B := fun j v hv => by
  have hj : j < B.length := (List.getElem?_eq_some_iff.1 hv).1
  rw [cell_of_row w g _ _ t _ h]
  rw [List.getElem?_eq_getElem hj] at hv
  simpa [hj, List.getElem?_append_right, List.getElem?_append] using hv
theorem there_row {w : World} {g : Nat} {t : TypeId} {C : Array Value} (h : w.heap[g]? = some (.cells C t (0, 0))) (o n : Nat) (hn : o + n ≤ C.size) : w.there g o n := fun j hj => by
  refine ⟨?_, frozen_of_row w g _ _ t h⟩
  rw [cell_of_row w g _ _ t _ h, Array.getElem?_eq_getElem (by omega)]
  rfl
theorem vals_toArray (l : List Nat) : (vals l).toArray = u8s l := rfl
theorem bytesAt.take {w : World} {g o : Nat} {B : List Nat} (h : bytesAt w g o B) (n : Nat) : bytesAt w g o (B.take n) := fun i hi => by
  have h1 : i < B.length := by simp at hi; omega
  rw [h i h1]
  have h2 : i < n := by simp at hi; omega
  simp [List.getD_eq_getElem?_getD, List.getElem?_take_of_lt h2]
theorem Bytes.take {w : World} {p : Option Addr} {len cap : Nat} {B : List Nat} (h : Bytes w p len cap B) (n : Nat) (hn : n ≤ len) : Bytes w p n cap (B.take n) :=
  ⟨by have := h.size; simp; omega, by have := h.le; omega, fun x hx => h.ok x (List.mem_of_mem_take hx), h.at'.imp id fun ⟨g, o, hp, hx⟩ => ⟨g, o, hp, hx.take n⟩⟩
theorem grown_setCells {w w1 : World} {g : Nat} (h : w.grownBy w1 (some g)) (o : Nat) (vs : List Value) : w.grownBy (w1.setCells g o vs) (some g) := by
  obtain ⟨h1, h2, h3, h4⟩ := size_setCells g vs o w1
  exact ⟨h2.trans h.os, h3.trans h.tape, h4.trans h.output, by rw [h1]; exact h.size, fun k hk hne => (heap_setCells_other g vs o w1 k (by intro e; exact hne (by rw [e]))).trans (h.block k hk hne)⟩
theorem grown_later {w w1 w2 : World} {r : Option Nat} (h : w.grownBy w1 r) (hb : Below w1.heap.size w1 w2) : w.grownBy w2 r :=
  ⟨hb.os.trans h.os, hb.tape.trans h.tape, hb.output.trans h.output, Nat.le_trans h.size hb.size, fun k hk hne => (hb.block k (Nat.lt_of_lt_of_le hk h.size)).trans (h.block k hk hne)⟩
theorem Bytes.grown {w w' : World} {p : Option Addr} {len cap : Nat} {B : List Nat} (h : Bytes w p len cap B) {g : Nat} (hg : w.grownBy w' (some g)) (hn : B ≠ [] → ∀ a, p = some a → a.block ≠ g) : Bytes w' p len cap B :=
  ⟨h.size, h.le, h.ok, h.at'.imp id fun ⟨b, o, hp, hx⟩ => ⟨b, o, hp, fun i hi => by
    have h1 := hx i hi
    have hb : w'.heap[b]? = w.heap[b]? := hg.block b (block_lt_of_cell h1) (by intro e; exact hn (by intro e0; rw [e0] at hi; simp at hi) _ hp (by simpa using e))
    rw [World.cell?_of_block (w := w) (w' := w') (a := ⟨b, o + i, none⟩) hb]
    exact h1⟩⟩
theorem grown_setCell (w : World) (g o : Nat) (u : Value) : w.grownBy (w.setCell ⟨g, o, none⟩ u) (some g) :=
  ⟨rfl, rfl, rfl, by simp [World.setCell], fun k _ hne => heap_setCell_other _ _ _ _ (by intro e; exact hne (by rw [e]))⟩
theorem Bytes.heap {w w' : World} {p : Option Addr} {len cap : Nat} {B : List Nat} (h : Bytes w p len cap B) (e : w'.heap = w.heap) : Bytes w' p len cap B :=
  ⟨h.size, h.le, h.ok, h.at'.imp id fun ⟨b, o, hp, hx⟩ => ⟨b, o, hp, fun i hi => by
    have h1 := hx i hi
    simp only [World.cell?, e] at h1 ⊢
    exact h1⟩⟩
theorem E5 : (Try.prog.info? 5).map (·.size) = some 1 := by kernel_rfl
theorem vals_drop (B : List Nat) (n : Nat) : vals (B.drop n) = (vals B).drop n := by simp [vals]
theorem Bytes.drop {w : World} {g o ln cp : Nat} {B : List Nat} (h : Bytes w (some ⟨g, o, none⟩) ln cp B) (m : Nat) (hl : m ≤ ln) : Bytes w (some ⟨g, o + m, none⟩) (ln - m) (cp - m) (B.drop m) := by
  have h1 := h.size
  have h2 := h.le
  refine ⟨by simp; omega, by omega, Sm.allB_drop h.ok m, Or.inr ⟨g, o + m, rfl, ?_⟩⟩
  rcases h.at' with hc | ⟨g', o', hp, hx⟩
  · intro i hi
    simp only [List.length_drop] at hi
    omega
  · obtain ⟨rfl, rfl⟩ : g = g' ∧ o = o' := by simpa using hp
    exact hx.drop m
theorem below_of {w w1 w2 : World} (hb : Below w1.heap.size w1 w2) (e : w1.heap = w.heap) (e1 : w1.os = w.os) (e2 : w1.tape = w.tape) (e3 : w1.output = w.output) : Below w.heap.size w w2 :=
  ⟨hb.os.trans e1, hb.tape.trans e2, hb.output.trans e3, by rw [← e]; exact hb.size, fun k hk => by rw [hb.block k (by rw [e]; exact hk), e]⟩
theorem setRow_alloc2 (w : World) (A : Obj) (old cs : Array Value) (t : TypeId) : ((w.alloc A).alloc (.cells old t (0, 0))).setRow (w.heap.size + 1) cs = (w.alloc A).alloc (.cells cs t (0, 0)) := by
  have := setRow_alloc (w.alloc A) old cs t
  rw [show (w.alloc A).heap.size = w.heap.size + 1 from by simp] at this
  exact this
theorem zeros_ok (n : Nat) : Sm.allB (zeros n) := fun x hx => by
  have := (List.mem_replicate.1 hx).2
  omega
/-- A text among texts: its bytes lie from whatever address on, or it is nil. -/
structure Tx (w : World) (p : Option Addr) (len cap : Nat) (B : List Nat) : Prop where
  size : len = B.length
  le : len ≤ cap
  ok : Sm.allB B
  at' : (p = none ∧ cap = 0) ∨ ∃ x, p = some x ∧ ∀ j u, (vals B)[j]? = some u → w.cell? (x.add j) = some u
  sp : ∀ x, p = some x → 0 < cap → x.spot = none
theorem Tx.later {w w' : World} {p : Option Addr} {len cap : Nat} {B : List Nat} (h : Tx w p len cap B) (hb : Below w.heap.size w w') : Tx w' p len cap B :=
  ⟨h.size, h.le, h.ok, h.at'.imp id fun ⟨x, hp, hx⟩ => ⟨x, hp, fun j u hu => (hb.cell (p := x.add j) (block_lt_of_cell (hx j u hu))).trans (hx j u hu)⟩, h.sp⟩
theorem Tx.cells {w : World} {x : Addr} {n c : Nat} {B : List Nat} (h : Tx w (some x) n c B) : ∀ j u, (vals B)[j]? = some u → w.cell? (x.add j) = some u := by
  rcases h.at' with ⟨hp, _⟩ | ⟨y, hp, hx⟩
  · cases hp
  · cases hp; exact hx
/-- A slice that reads as these texts. -/
structure Texts (w : World) (p : Option Addr) (len cap : Nat) (L : List (List Nat)) : Prop where
  size : len = L.length
  le : len ≤ cap
  at' : L ≠ [] → ∃ g o, p = some ⟨g, o, none⟩ ∧ ∀ i, i < L.length → ∃ q n c, w.cell? ⟨g, o + i, none⟩ = some (.slice q n c) ∧ Tx w q n c (L.getD i [])
theorem Texts.later {w w' : World} {p : Option Addr} {len cap : Nat} {L : List (List Nat)} (h : Texts w p len cap L) (hb : Below w.heap.size w w') : Texts w' p len cap L :=
  ⟨h.size, h.le, fun hn => by
    obtain ⟨g, o, hp, hx⟩ := h.at' hn
    refine ⟨g, o, hp, fun i hi => ?_⟩
    obtain ⟨q, n, c, h1, h2⟩ := hx i hi
    exact ⟨q, n, c, (hb.cell (p := ⟨g, o + i, none⟩) (block_lt_of_cell h1)).trans h1, h2.later hb⟩⟩
theorem take_succ_getD (L : List (List Nat)) (k : Nat) (h : k < L.length) : L.take (k + 1) = L.take k ++ [L.getD k []] := by
  rw [List.take_succ_eq_append_getElem h, List.getD_eq_getElem?_getD, List.getElem?_eq_getElem h]; rfl
theorem vals_append (A B : List Nat) : vals (A ++ B) = vals A ++ vals B := by simp [vals]
theorem owns_later {w w' : World} {base : Nat} {v : Value} {n : Nat} {xs : List Value} (h : w.ownsRow base 5 1 v n xs) (hb : Below w.heap.size w w') : w'.ownsRow base 5 1 v n xs := by
  obtain ⟨h1, h2⟩ := h
  refine ⟨h1, h2.imp id ?_⟩
  rintro ⟨g, cap, cur, hv, hg, hh, r⟩
  exact ⟨g, cap, cur, hv, hg, (hb.block _ (Array.getElem?_eq_some_iff.1 hh).1).trans hh, r⟩
theorem Bytes.cells {w : World} {g o n c : Nat} {B : List Nat} (h : Bytes w (some ⟨g, o, none⟩) n c B) : ∀ j u, (vals B)[j]? = some u → w.cell? ((⟨g, o, none⟩ : Addr).add j) = some u := fun j u hu => by
  have hj : j < B.length := by have := (List.getElem?_eq_some_iff.1 hu).1; simpa [vals] using this
  obtain ⟨g', o', hp, hx⟩ := h.ne (by intro e; rw [e] at hj; simp at hj)
  obtain ⟨rfl, rfl⟩ : g = g' ∧ o = o' := by simpa using hp
  rw [vals_get _ _ hj] at hu
  rw [Addr.add_mid, hx j hj, hu]
theorem Bytes.tx {w : World} {p : Option Addr} {n c : Nat} {B : List Nat} (h : Bytes w p n c B) : Tx w p n c B := by
  have h1 := h.size
  have h2 := h.le
  rcases h.at' with hc | ⟨g, o, hp, hx⟩
  · refine ⟨h1, h2, h.ok, ?_, fun _ _ h3 => by omega⟩
    cases p with
    | none => exact Or.inl ⟨rfl, hc⟩
    | some x =>
      refine Or.inr ⟨x, rfl, fun j u hu => ?_⟩
      have := (List.getElem?_eq_some_iff.1 hu).1
      rw [vals_length] at this
      omega
  · subst hp
    exact ⟨h1, h2, h.ok, Or.inr ⟨_, rfl, h.cells⟩, fun x hx _ => by cases hx; rfl⟩
theorem Tx.bytes {w : World} {p : Option Addr} {n c : Nat} {B : List Nat} (h : Tx w p n c B) : Bytes w p n c B := by
  refine ⟨h.size, h.le, h.ok, ?_⟩
  rcases h.at' with ⟨_, hc⟩ | ⟨x, hp, hx⟩
  · exact Or.inl hc
  · rcases Nat.eq_zero_or_pos c with h0 | h0
    · exact Or.inl h0
    · have hs := h.sp x hp h0
      obtain ⟨g, o, sp⟩ := x
      obtain rfl : sp = none := hs
      exact Or.inr ⟨g, o, hp, fun i hi => by rw [← Addr.add_mid]; exact hx i _ (vals_get B i hi)⟩
theorem A9 : Try.prog.underlying 9 = some .string := by kernel_rfl
theorem C5 : Try.prog.cellsOf 5 = 1 := by kernel_rfl
theorem run_part_u8 (l : List Nat) (i : Nat) (h : i < l.length) (w : World) : (_root_.Go.part 5 (u8s l) (i * 1)).run Try.prog w = .ok (.int .u8 (l.getD i 0 : Nat)) w := by
  have hagg : (isAgg 5).run Try.prog w = .ok false w := by
    unfold isAgg
    rw [Sem.run_bind, run_underlying U5 w]
    rfl
  have := u8s_get l i h
  simp [_root_.Go.part, Sem.run_bind, hagg, this]
theorem eqItems_u8 (a b : List Nat) (d : Nat) (w : World) : ∀ is : List Nat, (∀ i ∈ is, i < a.length ∧ i < b.length) → (Op.eqItems (d + 1) 5 1 (u8s a) (u8s b) is).run Try.prog w = .ok (is.all fun i => a.getD i 0 == b.getD i 0) w
  | [], _ => rfl
  | i :: is, h => by
    have h1 := h i (by simp)
    have ih := eqItems_u8 a b d w is (fun j hj => h j (by simp [hj]))
    have e1 : (Op.equalIn (d + 1) 5 (.int .u8 (a.getD i 0 : Nat)) (.int .u8 (b.getD i 0 : Nat))).run Try.prog w = .ok (a.getD i 0 == b.getD i 0) w := by
      rw [run_equalIn_int w d 5 .u8 .u8 _ _ U5]
      congr 1
      rw [Bool.eq_iff_iff]
      simp only [beq_iff_eq]
      omega
    simp only [Op.eqItems, Sem.run_bind, run_part_u8 a i h1.1, run_part_u8 b i h1.2, Result.andThen_ok, e1]
    cases hc : (a.getD i 0 == b.getD i 0)
    · simp only [List.all_cons, hc, Bool.false_and]
      rfl
    · simp only [List.all_cons, hc, Bool.true_and, Bool.not_true, Bool.false_eq_true, if_false]
      exact ih
theorem all_getD (a b : List Nat) (ha : a.length = 32) (hb : b.length = 32) : ((List.range 32).all fun i => a.getD i 0 == b.getD i 0) = decide (a = b) := by
  rw [Bool.eq_iff_iff]
  simp only [List.all_eq_true, List.mem_range, beq_iff_eq, decide_eq_true_eq]
  constructor
  · intro h
    apply List.ext_getElem (by omega)
    intro i h1 h2
    have := h i (by omega)
    simpa [List.getD_eq_getElem?_getD, List.getElem?_eq_getElem h1, List.getElem?_eq_getElem h2] using this
  · rintro rfl i _
    rfl
theorem Bytes.row {w : World} {g : Nat} {L : List Nat} {t : TypeId} {fr : Nat × Nat} (hg : w.heap[g]? = some (.cells (u8s L) t fr)) (hL : Sm.allB L) : Bytes w (some ⟨g, 0, none⟩) L.length L.length L :=
  ⟨rfl, Nat.le_refl _, hL, Or.inr ⟨g, 0, rfl, fun i hi => by rw [Nat.zero_add]; exact u8s_cell hg i hi⟩⟩
/-- A text's bytes as numbers. -/
def txt (s : ByteArray) : List Nat := s.data.toList.map UInt8.toNat
theorem txt_length (s : ByteArray) : (txt s).length = s.size := by unfold txt; rw [List.length_map]; rfl
theorem txt_ok (s : ByteArray) : Sm.allB (txt s) := by
  intro x hx
  simp only [txt, List.mem_map] at hx
  obtain ⟨b, _, rfl⟩ := hx
  exact b.toNat_lt
theorem index_txt (s : ByteArray) (i : Int) (j : Nat) (hi : i = j) (h : j < s.size) (w : World) : (Instr.index 9 (.string s) (.int .i64 i)).run Try.prog w = .ok (.int .u8 ((txt s).getD j 0 : Nat)) w := by
  subst hi
  rw [run_index_string w 9 s .i64 _ A9, dif_pos (by omega)]
  have h2 : j < s.data.size := h
  have e : (txt s).getD j 0 = (s.data[j]'h2).toNat := by
    unfold txt
    rw [List.getD_eq_getElem?_getD, List.getElem?_map, Array.getElem?_toList, Array.getElem?_eq_getElem h2]
    rfl
  rw [e]
  rfl
def strOf (l : List Nat) : ByteArray := strOfNums (l.map Int.ofNat)
theorem txt_strOf {l : List Nat} (h : Sm.allB l) : txt (strOf l) = l := by
  unfold txt strOf
  rw [strOfNums_data, List.map_map, List.map_map]
  conv => rhs; rw [← List.map_id l]
  apply List.map_congr_left
  intro x hx
  have := h x hx
  simp
  omega
theorem strOf_txt (s : ByteArray) : strOf (txt s) = s := by
  have h : (strOf (txt s)).data.toList = s.data.toList := by
    unfold txt strOf
    rw [strOfNums_data, List.map_map, List.map_map]
    conv => rhs; rw [← List.map_id s.data.toList]
    apply List.map_congr_left
    intro x _
    simp
  cases s with
  | mk a =>
    cases hs : strOf (txt ⟨a⟩) with
    | mk b =>
      rw [hs] at h
      congr 1
      exact Array.ext' h
theorem strOf_size (l : List Nat) : (strOf l).size = l.length := by unfold strOf; rw [strOfNums_size, List.length_map]
theorem grown_below {w wr w' : World} {g : Nat} (h : Below w.heap.size w wr) (hg : wr.grownBy w' (some g)) (hl : w.heap.size ≤ g) : Below w.heap.size w w' :=
  h.grown hg h.size (fun k hk => by simp at hk; omega)
theorem owns_form {w : World} {base n : Nat} {v : Value} {B : List Nat} (h : w.ownsRow base 5 1 v n (vals B)) (hB : Sm.allB B) : ∃ q c, v = .slice q n c ∧ Bytes w q n c B := by
  have hl : n = B.length := by have := h.1; rw [vals_length, Nat.mul_one] at this; exact this.symm
  rcases h.2 with ⟨rfl, h0⟩ | ⟨g, cap, cur, rfl, r⟩
  · subst h0
    have hb : B = [] := List.length_eq_zero_iff.1 hl.symm
    exact ⟨none, 0, rfl, ⟨hl, Nat.le_refl _, hB, Or.inl rfl⟩⟩
  · exact ⟨_, cap, rfl, Bytes.of_owns h hB⟩
theorem vals_set (B : List Nat) (j x : Nat) : vals (B.set j x) = (vals B).set j (.int .u8 (x : Nat)) := by simp [vals, List.map_set]
theorem set_ok {B : List Nat} (h : Sm.allB B) (j x : Nat) (hx : x < 256) : Sm.allB (B.set j x) := fun y hy => by
  rcases List.mem_or_eq_of_mem_set hy with h1 | rfl
  · exact h y h1
  · exact hx
theorem grown_twice {a b c : World} {r : Option Nat} (h : a.grownBy b r) (k : b.grownBy c r) : a.grownBy c r :=
  ⟨k.os.trans h.os, k.tape.trans h.tape, k.output.trans h.output, Nat.le_trans h.size k.size, fun i hi hne => (k.block i (Nat.lt_of_lt_of_le hi h.size) hne).trans (h.block i hi hne)⟩
theorem strOf_eq {A B : List Nat} (hA : Sm.allB A) (hB : Sm.allB B) : strOf A = strOf B ↔ A = B := by
  constructor
  · intro h
    rw [← txt_strOf hA, ← txt_strOf hB, h]
  · rintro rfl
    rfl
theorem Tx.heap {w w' : World} {p : Option Addr} {n c : Nat} {B : List Nat} (h : Tx w p n c B) (e : w'.heap = w.heap) : Tx w' p n c B :=
  ⟨h.size, h.le, h.ok, h.at'.imp id fun ⟨x, hp, hx⟩ => ⟨x, hp, fun j u hu => by have := hx j u hu; simp only [World.cell?, e] at this ⊢; exact this⟩, h.sp⟩
theorem str_eq {A B : List Nat} (hA : Sm.allB A) (hB : Sm.allB B) : ((strOf A).toList == (strOf B).toList) = decide (A = B) := by
  rw [Bool.eq_iff_iff, beq_iff_eq, decide_eq_true_iff, ByteArray.toList_eq, ByteArray.toList_eq]
  constructor
  · intro h
    apply (strOf_eq hA hB).1
    cases hA' : strOf A
    cases hB' : strOf B
    rw [hA', hB'] at h
    congr 1
    exact Array.ext' h
  · rintro rfl
    rfl
theorem Below.drewN {B : Nat} {a w : World} (h : Below B a w) (n : Nat) : Below B a (w.drewN n) := ⟨h.os, h.tape, h.output, h.size, h.block⟩
theorem tx_of_owns {w : World} {base n : Nat} {q : Option Addr} {c : Nat} {B : List Nat} (h : w.ownsRow base 5 1 (.slice q n c) n (vals B)) (hB : Sm.allB B) : Tx w q n c B := by
  have hl : n = B.length := by have := h.1; rw [vals_length, Nat.mul_one] at this; exact this.symm
  rcases h.2 with ⟨h1, h0⟩ | ⟨g, cap, cur, h1, r⟩
  · simp at h1
    obtain ⟨rfl, rfl, rfl⟩ := h1
    exact ⟨hl, Nat.le_refl _, hB, Or.inl ⟨rfl, rfl⟩, fun _ h _ => by cases h⟩
  · simp at h1
    obtain ⟨rfl, rfl⟩ := h1
    exact (Bytes.of_owns h hB).tx
/-- 'wpList_load_row' under a guard that says yes. -/
theorem wpList_load_rowG {ops : Array Oper} {rest : List Oper} {o : Oper} {a : Act} {w : World} {Q : Exit → Act → World → Prop} (hw : Region.wanted o (yielded ops a.tmps) = true) (ty : TypeId) (x : Operand) (ho : o.op = .load ty x)
    (g : Nat) (hx : a.eval x = .pointer (some ⟨g, 0, none⟩)) (t : TypeId) (cs : Array Value) (fr : Nat × Nat) {n : Nat} {e : TypeId} (hg : w.heap[g]? = some (.cells cs t fr))
    (hu : Try.prog.underlying ty = some (.array n e)) (hi : (Try.prog.info? ty).map (·.size) = some cs.size)
    (h : wpList Try.prog ops Q rest (a.put o.dst (.agg cs)) w) : wpList Try.prog ops Q (o :: rest) a w :=
  BigFrame.wpList_want hw fun _ hK => wp_load_row ty x ho g hx t cs fr _ hg hu rfl hi (hK _ _ h)
end Go.Proofs.Ytddeomdmccnfbaa

/- What every row's proof wants: the program's closed facts; arguments opened: bytes. -/
namespace Go.Proofs.Ytddeomdmccnfbaa
open Go.ChangeShapes Go.WideShapes Go.ChangeAt Go.RowKit Go.Deep

theorem gen_own : ownKnob Try.prog.godebug = none := by kernel_rfl
theorem gen_laidOut : laidOutB Try.prog = true := by kernel_rfl
def nats (z : List Int) (n : Nat) : List Nat := (z.take n).map Int.toNat
theorem nats_ok {z : List Int} (h : ∀ n ∈ z, (Lit.int .u8 n).wf = true) (n : Nat) : Sm.allB (nats z n) := by
  intro x hx
  simp only [nats, List.mem_map] at hx
  obtain ⟨y, hy, rfl⟩ := hx
  have := bounds_u8 (h y (List.mem_of_mem_take hy))
  omega
theorem nats_get {z : List Int} (h : ∀ n ∈ z, (Lit.int .u8 n).wf = true) (n j : Nat) (hn : n ≤ z.length) (u : Value) (hu : (vals (nats z n))[j]? = some u) : j < n ∧ u = .int .u8 (z.getD j 0) := by
  have hj : j < n := by
    have := (List.getElem?_eq_some_iff.1 hu).1
    simp [vals, nats] at this
    omega
  refine ⟨hj, ?_⟩
  have hz : j < z.length := by omega
  have hb := bounds_u8 (h z[j] (List.getElem_mem hz))
  rw [vals_get _ _ (by simp [nats]; omega)] at hu
  simp only [Option.some.injEq] at hu
  rw [← hu]
  simp only [nats, List.getD_eq_getElem?_getD, List.getElem?_map, List.getElem?_take_of_lt hj, List.getElem?_eq_getElem hz, Option.map_some, Option.getD_some]
  congr 1
  omega
end Go.Proofs.Ytddeomdmccnfbaa

/- Slices of numbers that lie in memory. -/
namespace Go.Proofs.Ytddeomdmccnfbaa
open Go.RowKit

/-- A slice whose numbers are known. -/
structure Ints (w : World) (p : Option Addr) (n c : Nat) (R : List Int) : Prop where
  size : n = R.length
  le : n ≤ c
  ok : ∀ x ∈ R, -9223372036854775808 ≤ x ∧ x ≤ 9223372036854775807
  at' : R = [] ∨ ∃ g o, p = some ⟨g, o, none⟩ ∧ ∀ i, i < R.length → w.cell? ⟨g, o + i, none⟩ = some (.int .i64 (R.getD i 0))
theorem Ints.later {w w' : World} {p : Option Addr} {n c : Nat} {R : List Int} (h : Ints w p n c R) (hb : Below w.heap.size w w') : Ints w' p n c R :=
  ⟨h.size, h.le, h.ok, h.at'.imp id fun ⟨g, o, hp, hx⟩ => ⟨g, o, hp, fun i hi => (hb.cell (p := ⟨g, o + i, none⟩) (block_lt_of_cell (hx i hi))).trans (hx i hi)⟩⟩
theorem Ints.get {w : World} {p : Option Addr} {n c : Nat} {R : List Int} (h : Ints w p n c R) (k : Nat) (hk : k < n) : -9223372036854775808 ≤ R.getD k 0 ∧ R.getD k 0 ≤ 9223372036854775807 := by
  have hk' : k < R.length := by rw [← h.size]; exact hk
  rw [List.getD_eq_getElem?_getD, List.getElem?_eq_getElem hk']
  exact h.ok _ (List.getElem_mem hk')
theorem Ints.cell {w : World} {p : Option Addr} {n c : Nat} {R : List Int} (h : Ints w p n c R) (k : Nat) (hk : k < n) : ∃ g o, p = some ⟨g, o, none⟩ ∧ w.cell? ⟨g, o + k, none⟩ = some (.int .i64 (R.getD k 0)) := by
  have hk' : k < R.length := by rw [← h.size]; exact hk
  rcases h.at' with h0 | ⟨g, o, hp, hx⟩
  · rw [h0] at hk'; exact absurd hk' (by simp)
  · exact ⟨g, o, hp, hx k hk'⟩
theorem lit2 (w : World) (a b : Int) (ha : -9223372036854775808 ≤ a ∧ a ≤ 9223372036854775807) (hb : -9223372036854775808 ≤ b ∧ b ≤ 9223372036854775807) :
    Ints (w.alloc (.cells #[.int .i64 a, .int .i64 b] 2)) (some ⟨w.heap.size, 0, none⟩) 2 2 [a, b] :=
  ⟨rfl, Nat.le_refl _, fun x hx => by simp at hx; rcases hx with rfl | rfl <;> assumption, Or.inr ⟨_, _, rfl, fun i hi => by
    match i, hi with
    | 0, _ => exact cell_of_row _ _ 0 _ _ (0, 0) (heap_alloc_new w _)
    | 1, _ => exact cell_of_row _ _ 1 _ _ (0, 0) (heap_alloc_new w _)⟩⟩
end Go.Proofs.Ytddeomdmccnfbaa

/- dist's numbers: Apart, Gap, Add, Cmp; indentureref03's Apart, Gap, Less. -/
namespace Go.Proofs.Ytddeomdmccnfbaa
open Go.RowKit

/-- A distance, as the program has it. -/
def dV (n : Int) : Value := .agg #[.int .u64 (n / 18446744073709551616 % 18446744073709551616), .int .u64 (n % 18446744073709551616)]
def dRow (n : Int) : Array Value := #[.int .u64 (n / 18446744073709551616 % 18446744073709551616), .int .u64 (n % 18446744073709551616)]
def apart (a b : Int) : Int := if a < b then b - a else a - b
def gap (x lo hi : Int) : Int := if x < lo then apart x lo else if hi < x then apart x hi else 0
theorem apart_word {a b : Int} (ha : -9223372036854775808 ≤ a ∧ a ≤ 9223372036854775807) (hb : -9223372036854775808 ≤ b ∧ b ≤ 9223372036854775807) : 0 ≤ apart a b ∧ apart a b < 18446744073709551616 := by
  unfold apart; split <;> omega
theorem gap_word {a b c : Int} (ha : -9223372036854775808 ≤ a ∧ a ≤ 9223372036854775807) (hb : -9223372036854775808 ≤ b ∧ b ≤ 9223372036854775807) (hc : -9223372036854775808 ≤ c ∧ c ≤ 9223372036854775807) : 0 ≤ gap a b c ∧ gap a b c < 18446744073709551616 := by
  unfold gap
  split
  · exact apart_word ha hb
  · split
    · exact apart_word ha hc
    · omega
theorem apart_sub (a b : Int) (h : b ≤ a) (ha : -9223372036854775808 ≤ a ∧ a ≤ 9223372036854775807) (hb : -9223372036854775808 ≤ b ∧ b ≤ 9223372036854775807) : (a % 18446744073709551616 - b % 18446744073709551616) % 18446744073709551616 = a - b := by omega
theorem ret_eq {x y : Int} (h : x = y) : Ending.returned (.int .u64 x) = Ending.returned (.int .u64 y) := by rw [h]
set_option maxRecDepth 100000 in
theorem apart_any (a b : Int) (ha : -9223372036854775808 ≤ a ∧ a ≤ 9223372036854775807) (hb : -9223372036854775808 ≤ b ∧ b ≤ 9223372036854775807) (w : World) :
    Calls Try.prog 52 #[.int .i64 a, .int .i64 b] w fun e w' => e = .returned (.int .u64 (apart a b)) ∧ w' = w := by
  by_cases h : a < b
  · go_enter Try.func52, Try.ntmps52
    go_wp2
    go_ret
    refine ⟨ret_eq ?_, rfl⟩
    unfold apart
    rw [if_pos h, IntKind.wrap_u64, IntKind.wrap_u64, IntKind.wrap_u64]
    omega
  · go_enter Try.func52, Try.ntmps52
    go_wp2
    go_ret
    refine ⟨ret_eq ?_, rfl⟩
    unfold apart
    rw [if_neg (by omega), IntKind.wrap_u64, IntKind.wrap_u64, IntKind.wrap_u64]
    omega
set_option maxRecDepth 100000 in
theorem refapart_any (a b : Int) (ha : -9223372036854775808 ≤ a ∧ a ≤ 9223372036854775807) (hb : -9223372036854775808 ≤ b ∧ b ≤ 9223372036854775807) (w : World) :
    Calls Try.prog 54 #[.int .i64 a, .int .i64 b] w fun e w' => e = .returned (.int .u64 (apart a b)) ∧ w' = w := by
  by_cases h : b < a
  · go_enter Try.func54, Try.ntmps54
    go_wp2
    go_ret
    refine ⟨ret_eq ?_, rfl⟩
    unfold apart
    rw [if_neg (by omega), IntKind.wrap_u64, IntKind.wrap_u64, IntKind.wrap_u64]
    omega
  · go_enter Try.func54, Try.ntmps54
    go_wp2
    go_ret
    refine ⟨ret_eq ?_, rfl⟩
    unfold apart
    rw [IntKind.wrap_u64, IntKind.wrap_u64, IntKind.wrap_u64]
    split <;> omega
end Go.Proofs.Ytddeomdmccnfbaa

/- dist.Add by math/bits.Add64. -/
namespace Go.Proofs.Ytddeomdmccnfbaa
open Go.RowKit

theorem add64 (x y c : Int) (hx : 0 ≤ x) (hy : 0 ≤ y) (hc0 : 0 ≤ c) (hc : c ≤ 1) (w : World) : (callFunc 69 #[.int .u64 x, .int .u64 y, .int .u64 c]).run Try.prog w =
    .ok (.value (.tuple #[.int .u64 ((x + y + c) % 18446744073709551616), .int .u64 ((x + y + c) / 18446744073709551616)])) w := by
  rw [run_callFunc_extern Try.func69 (by kernel_rfl) (by kernel_rfl) (by kernel_rfl) (e := add64Entry) (by kernel_rfl), run_add64 x y c hx hy hc0 hc]
  rfl
theorem add64_0 (x y : Int) (hx : 0 ≤ x) (hy : 0 ≤ y) (w : World) : (callFunc 69 #[.int .u64 x, .int .u64 y, .int .u64 0]).run Try.prog w =
    .ok (.value (.tuple #[.int .u64 ((x + y) % 18446744073709551616), .int .u64 ((x + y) / 18446744073709551616)])) w := by
  simpa using add64 x y 0 hx hy (Int.le_refl 0) (by decide) w
theorem add64_1 (x c : Int) (hx : 0 ≤ x) (hc0 : 0 ≤ c) (hc : c ≤ 1) (w : World) : (callFunc 69 #[.int .u64 x, .int .u64 0, .int .u64 c]).run Try.prog w =
    .ok (.value (.tuple #[.int .u64 ((x + c) % 18446744073709551616), .int .u64 ((x + c) / 18446744073709551616)])) w := by
  simpa using add64 x 0 c hx (Int.le_refl 0) hc0 hc w
theorem add_hi (n k : Int) (hk : 0 ≤ k ∧ k < 18446744073709551616) : (n / 18446744073709551616 % 18446744073709551616 + (n % 18446744073709551616 + k) / 18446744073709551616) % 18446744073709551616 = (n + k) / 18446744073709551616 % 18446744073709551616 := by omega
theorem add_lo (n k : Int) : (n % 18446744073709551616 + k) % 18446744073709551616 = (n + k) % 18446744073709551616 := by omega
set_option maxRecDepth 100000 in
theorem add_any (n k : Int) (hk : 0 ≤ k ∧ k < 18446744073709551616) (w : World) :
    Calls Try.prog 67 #[dV n, .int .u64 k] w fun e w' => e = .returned (dV (n + k)) ∧ Below w.heap.size w w' := by
  have e1 := add_hi n k hk
  have e2 := add_lo n k
  have l0 : 0 ≤ n % 18446744073709551616 := by omega
  have l1 : n % 18446744073709551616 < 18446744073709551616 := by omega
  have l2 : 0 ≤ n / 18446744073709551616 % 18446744073709551616 := by omega
  unfold dV
  rw [← e1, ← e2]
  generalize n / 18446744073709551616 % 18446744073709551616 = hi at *
  generalize n % 18446744073709551616 = lo at *
  clear e1 e2
  have k0 : 0 ≤ (lo + k) / 18446744073709551616 := by omega
  have k1 : (lo + k) / 18446744073709551616 ≤ 1 := by omega
  have hk0 := hk.1
  clear hk
  go_enter Try.func67, Try.ntmps67
  go_wp2_with (first | simp only [add64_0 lo k l0 hk0] | simp only [add64_1 hi _ l2 k0 k1])
  simp [bodyPost, results, Try.results67, go_sem]
  exact (((Below.refl _ _).alloc (Nat.le_refl _) _).alloc (by simp) _)
end Go.Proofs.Ytddeomdmccnfbaa

/- Distances compared: '==' of two, dist.Cmp, indentureref03.Less. -/
namespace Go.Proofs.Ytddeomdmccnfbaa
open Go.RowKit

theorem U23 : Try.prog.underlying 35 = some (.int .u64) := by kernel_rfl
theorem F25 : (Try.prog.fieldsOf 37).toList.map (fun f => (f.name == "_", f.offset, f.type)) = [(false, 0, 35), (false, 1, 35)] := by kernel_rfl
theorem US25 : Try.prog.underlying 37 = some (.struct (Try.prog.fieldsOf 37)) := by kernel_rfl
theorem SH25 : Try.prog.stoodInHeld 37 = false := by kernel_rfl
theorem part_u64 (xs : Array Value) (i : Nat) (v : Int) (h : xs[i]? = some (.int .u64 v)) (w : World) : (_root_.Go.part 35 xs i).run Try.prog w = .ok (.int .u64 v) w := by
  have hagg : (isAgg 35).run Try.prog w = .ok false w := by
    unfold isAgg
    rw [Sem.run_bind, run_underlying U23 w]
    rfl
  simp [_root_.Go.part, Sem.run_bind, hagg, h]
theorem dist_equal (a b c d : Int) (m : Nat) (w : World) : (Op.equalIn (m + 2) 37 (.agg #[.int .u64 a, .int .u64 b]) (.agg #[.int .u64 c, .int .u64 d])).run Try.prog w = .ok (decide (a = c ∧ b = d)) w := by
  rw [run_equalIn_struct w (m + 1) _ _ _ US25 SH25]
  have hf := F25
  match hl : (Try.prog.fieldsOf 37).toList with
  | [] => rw [hl] at hf; simp at hf
  | [_] => rw [hl] at hf; simp at hf
  | _ :: _ :: _ :: _ => rw [hl] at hf; simp at hf
  | [f, g] =>
    rw [hl] at hf
    simp only [List.map_cons, List.map_nil, List.cons.injEq, Prod.mk.injEq, and_true, beq_eq_false_iff_ne] at hf
    obtain ⟨⟨n1, o1, t1⟩, n2, o2, t2⟩ := hf
    simp only [Op.eqFields, n1, n2, o1, o2, t1, t2, ne_eq, not_false_eq_true, if_true, Sem.run_bind]
    rw [part_u64 #[.int .u64 a, .int .u64 b] 0 a rfl, Result.andThen_ok, part_u64 #[.int .u64 c, .int .u64 d] 0 c rfl, Result.andThen_ok, run_equalIn_int w m 35 .u64 .u64 a c U23, Result.andThen_ok]
    by_cases h : a = c
    · subst h
      simp only [BEq.rfl, Bool.not_true, Bool.false_eq_true, if_false, true_and, Sem.run_bind]
      rw [part_u64 #[.int .u64 a, .int .u64 b] 1 b rfl, Result.andThen_ok, part_u64 #[.int .u64 a, .int .u64 d] 1 d rfl, Result.andThen_ok, run_equalIn_int w m 35 .u64 .u64 b d U23, Result.andThen_ok]
      by_cases h2 : b = d
      · subst h2
        simp
      · simp [h2]
    · simp [h]
theorem dist_eql (a b c d : Int) (w : World) : (binOp .eql 37 (.agg #[.int .u64 a, .int .u64 b]) (.agg #[.int .u64 c, .int .u64 d])).run Try.prog w = .ok (.bool (decide (a = c ∧ b = d))) w := by
  rw [run_eql_struct, dist_equal a b c d 9998 w]
  rfl
theorem dist_neq (a b c d : Int) (w : World) : (binOp .neq 37 (.agg #[.int .u64 a, .int .u64 b]) (.agg #[.int .u64 c, .int .u64 d])).run Try.prog w = .ok (.bool (!decide (a = c ∧ b = d))) w := by
  rw [run_neq_struct, dist_equal a b c d 9998 w]
  rfl
/-- Which of two distances is less. -/
def dcmp (a b c d : Int) : Int := if a = c ∧ b = d then 0 else if a < c ∨ a = c ∧ b < d then -1 else 1
set_option maxRecDepth 100000 in
set_option maxHeartbeats 1000000 in
theorem cmp_any (a b c d : Int) (w : World) :
    Calls Try.prog 56 #[.agg #[.int .u64 a, .int .u64 b], .agg #[.int .u64 c, .int .u64 d]] w fun e w' => e = .returned (.int .i64 (dcmp a b c d)) ∧ Below w.heap.size w w' := by
  have hb : ∀ x y, Below w.heap.size w ((w.alloc x).alloc y) := fun x y => ((Below.refl _ _).alloc (Nat.le_refl _) _).alloc (by simp) _
  have q := dist_eql a b c d
  by_cases h1 : a = c ∧ b = d
  · simp only [h1, and_self, decide_true] at q
    have e : dcmp a b c d = 0 := by unfold dcmp; rw [if_pos h1]
    rw [e]
    obtain ⟨rfl, rfl⟩ := h1
    clear e
    go_enter Try.func56, Try.ntmps56
    go_wp2_with fail
    go_ret
    exact ⟨rfl, hb _ _⟩
  · simp only [h1, decide_false] at q
    by_cases h2 : a < c
    · have e : dcmp a b c d = -1 := by unfold dcmp; rw [if_neg h1, if_pos (Or.inl h2)]
      rw [e]
      clear e h1
      go_enter Try.func56, Try.ntmps56
      go_wp2_with fail
      go_ret
      exact ⟨rfl, hb _ _⟩
    · by_cases h3 : a = c
      · subst h3
        by_cases h4 : b < d
        · have e : dcmp a b a d = -1 := by unfold dcmp; rw [if_neg h1, if_pos (Or.inr ⟨rfl, h4⟩)]
          rw [e]
          clear e h1
          go_enter Try.func56, Try.ntmps56
          go_wp2_with fail
          go_ret
          exact ⟨rfl, hb _ _⟩
        · have e : dcmp a b a d = 1 := by unfold dcmp; rw [if_neg h1, if_neg (by omega)]
          rw [e]
          clear e h1
          go_enter Try.func56, Try.ntmps56
          go_wp2_with fail
          go_ret
          exact ⟨rfl, hb _ _⟩
      · have e : dcmp a b c d = 1 := by unfold dcmp; rw [if_neg h1, if_neg (by omega)]
        have h5 : (a == c) = false := by simpa using h3
        rw [e]
        clear e h1
        go_enter Try.func56, Try.ntmps56
        go_wp2_with fail
        go_ret
        exact ⟨rfl, hb _ _⟩
set_option maxRecDepth 100000 in
set_option maxHeartbeats 1000000 in
theorem less_any (a b c d : Int) (w : World) :
    Calls Try.prog 23 #[.agg #[.int .u64 a, .int .u64 b], .agg #[.int .u64 c, .int .u64 d]] w fun e w' => e = .returned (.bool (decide (a < c ∨ a = c ∧ b < d))) ∧ Below w.heap.size w w' := by
  have hb : ∀ x y, Below w.heap.size w ((w.alloc x).alloc y) := fun x y => ((Below.refl _ _).alloc (Nat.le_refl _) _).alloc (by simp) _
  by_cases h3 : a = c
  · subst h3
    have e : decide (a < a ∨ a = a ∧ b < d) = decide (b < d) := by
      rw [Bool.eq_iff_iff]; simp
    rw [e]
    clear e
    go_enter Try.func23, Try.ntmps23
    go_wp2_with fail
    go_ret
    exact ⟨rfl, hb _ _⟩
  · have e : decide (a < c ∨ a = c ∧ b < d) = decide (a < c) := by
      rw [Bool.eq_iff_iff]; simp [h3]
    have h5 : (a != c) = true := by simpa using h3
    rw [e]
    clear e
    go_enter Try.func23, Try.ntmps23
    go_wp2_with fail
    go_ret
    exact ⟨rfl, hb _ _⟩
end Go.Proofs.Ytddeomdmccnfbaa

/- dist.points, dist.together over whatever function of the sides. -/
namespace Go.Proofs.Ytddeomdmccnfbaa
open Go.RowKit

set_option maxRecDepth 100000 in
theorem points_any (p q : Option Addr) (n c m d : Nat) (w : World) :
    Calls Try.prog 60 #[.slice p n c, .slice q m d] w fun e w' => e = .returned (.bool (decide (1 ≤ n ∧ n ≤ 8 ∧ n = m))) ∧ w' = w := by
  by_cases h1 : 1 ≤ n
  · have g1 : (1 : Int) ≤ n := by omega
    by_cases h2 : n ≤ 8
    · have g2 : (n : Int) ≤ 8 := by omega
      by_cases h3 : n = m
      · subst h3
        go_enter Try.func60, Try.ntmps60
        go_wp2_with fail
        go_ret
        refine ⟨?_, rfl⟩
        simp [h1, h2]
        done
      · have g3 : ((n : Int) == m) = false := by simp; omega
        go_enter Try.func60, Try.ntmps60
        go_wp2_with fail
        go_ret
        refine ⟨?_, rfl⟩
        simp [h3]
        done
    · have g2 : ¬ (n : Int) ≤ 8 := by omega
      go_enter Try.func60, Try.ntmps60
      go_wp2_with fail
      go_ret
      refine ⟨?_, rfl⟩
      simp [h2]
      done
  · have g1 : ¬ (1 : Int) ≤ n := by omega
    go_enter Try.func60, Try.ntmps60
    go_wp2_with fail
    go_ret
    refine ⟨?_, rfl⟩
    simp [h1]
    done
/-- The sides, all together. -/
def tot (f : Nat → Int) : Nat → Int
  | 0 => 0
  | k + 1 => tot f k + f k
/-- A block of two cells. -/
def Two (w : World) (g : Nat) (a b : Value) : Prop := w.heap[g]? = some (.cells #[a, b] 37 (0, 0))
theorem Two.facts {w : World} {g : Nat} {a b : Value} (h : Two w g a b) : w.cell? ⟨g, 0, none⟩ = some a ∧ w.cell? ⟨g, 1, none⟩ = some b ∧ w.frozen? ⟨g, 0, none⟩ = false ∧ w.frozen? ⟨g, 1, none⟩ = false :=
  ⟨cell_of_row w g 0 _ _ _ h, cell_of_row w g 1 _ _ _ h, frozen_of_row w g 0 _ _ h, frozen_of_row w g 1 _ _ h⟩
theorem Two.set {w : World} {g : Nat} {a b : Value} (h : Two w g a b) (x y : Value) : Two ((w.setCell ⟨g, 0, none⟩ x).setCell ⟨g, 1, none⟩ y) g x y :=
  heap_setCell_same _ g 1 _ _ y (heap_setCell_same w g 0 _ _ x h)
theorem Two.other {w : World} {g k : Nat} {a b : Value} (h : Two w g a b) (hk : g ≠ k) (x y : Value) : Two ((w.setCell ⟨k, 0, none⟩ x).setCell ⟨k, 1, none⟩ y) g a b := by
  unfold Two at h ⊢
  rw [heap_setCell_other _ _ _ _ (by exact hk), heap_setCell_other _ _ _ _ (by exact hk)]
  exact h
theorem Two.lt {w : World} {g : Nat} {a b : Value} (h : Two w g a b) : g < w.heap.size := (Array.getElem?_eq_some_iff.1 h).1
theorem Two.later {w w' : World} {g : Nat} {a b : Value} (h : Two w g a b) {n : Nat} (hb : Below n w w') (hn : g < n) : Two w' g a b := (hb.block _ hn).trans h
theorem Two.below {B : Nat} {a w : World} (h : Below B a w) {g : Nat} (hg : B ≤ g) (x y : Value) : Below B a ((w.setCell ⟨g, 0, none⟩ x).setCell ⟨g, 1, none⟩ y) := (h.setCell (p := ⟨g, 0, none⟩) hg x).setCell (p := ⟨g, 1, none⟩) hg y
theorem dV_two (n : Int) : ∃ hi lo : Int, dV n = .agg #[.int .u64 hi, .int .u64 lo] := ⟨_, _, rfl⟩
theorem ret_two {fn : Func} {P : Ending → World → Prop} (p : Tmp) (hr : fn.results = #[.cell p 37]) {tmps : Array Value} {w : World} (g : Nat) (a b : Value)
    (hp : tmps.getD p undef = .pointer (some ⟨g, 0, none⟩)) (hg : Two w g a b) (h : P (.returned (.agg #[a, b])) w) : bodyPost Try.prog fn P .ret ⟨tmps, []⟩ w := by
  obtain ⟨r0, r1, _, _⟩ := hg.facts
  refine bodyPost_ret (a := ⟨tmps, []⟩) (v := .agg #[a, b]) ?_ rfl h
  have hp' : tmps[p]?.getD undef = .pointer (some ⟨g, 0, none⟩) := by simpa using hp
  simp [results, hr, hp', go_sem, r0, r1]
theorem tot_succ (f : Nat → Int) (k : Nat) : tot f (k + 1) = tot f k + f k := rfl
/-- What the function of a side tells, and that it turns nothing. -/
def Side (w : World) (n : Nat) (f : Nat → Int) (F : Nat) (cap : Array Value) : Prop :=
  ∀ (k : Nat) (w' : World), k < n → Below w.heap.size w w' → Calls Try.prog F (#[.int .i64 k] ++ cap) w' fun e w'' => e = .returned (.int .u64 (f k)) ∧ ∃ j, w'' = w'.drewN j
def TogRel (w : World) (f : Nat → Int) (n : Nat) (i : Value) (wr : World) : Prop :=
  ∃ (k : Nat) (hi lo : Int), k ≤ n ∧ i = .int .i64 k ∧ dV (tot f k) = .agg #[.int .u64 hi, .int .u64 lo] ∧ Two wr (w.heap.size + 1) (.int .u64 hi) (.int .u64 lo) ∧ Two wr w.heap.size (.int .u64 0) (.int .u64 0) ∧ Below w.heap.size w wr
set_option maxRecDepth 100000 in
set_option maxHeartbeats 1000000 in
theorem together_any (n : Nat) (hn : n < 9223372036854775807) (f : Nat → Int) (hf : ∀ k, k < n → 0 ≤ f k ∧ f k < 18446744073709551616) (F : Nat) (cap : Array Value) (hF : ∀ args w, (callFunc F args).run Try.prog w = .ok (.enter F args) w) (w : World) (hs : Side w n f F cap) :
    Calls Try.prog 61 #[.int .i64 n, .func (.func F) #[] cap] w fun e w' => e = .returned (dV (tot f n)) ∧ Below w.heap.size w w' := by
  have HS := Lib.hid hs
  have HF := Lib.hid hf
  clear hs hf
  go_enter Try.func61, Try.ntmps61
  go_wp2_with fail
  go_loopw [8] (fun i wr => TogRel w f n i wr) (fun i _ => n - (intOf i).toNat)
  case atStart =>
    refine ⟨0, 0, 0, by omega, rfl, rfl, ?_, ?_, ((Below.refl _ _).alloc (Nat.le_refl _) _).alloc (by simp) _⟩
    · have := heap_alloc_new (w.alloc (.cells #[.int .u64 0, .int .u64 0] 37)) (.cells #[.int .u64 0, .int .u64 0] 37)
      rw [show (w.alloc (.cells #[.int .u64 0, .int .u64 0] 37)).heap.size = w.heap.size + 1 from by simp] at this
      exact this
    · exact (((Below.refl _ _).alloc (Nat.le_refl _) _).block _ (by simp)).trans (heap_alloc_new w _)
  case round =>
    obtain ⟨k, hi, lo, hk, rfl, hd, h1, h2, h3⟩ := hrel
    have H1 := Lib.hid h1
    have H2 := Lib.hid h2
    have H3 := Lib.hid h3
    have HD := Lib.hid hd
    by_cases hlt : k < n
    · obtain ⟨hi2, lo2, hd2⟩ := dV_two (tot f (k + 1))
      have HD2 := Lib.hid hd2
      have A := fun w => add_any (tot f k) (f k) (HF.out k hlt) w
      have S := fun w' => HS.out k w' hlt
      rw [← tot_succ, hd2, hd] at A
      generalize f k = x at A S
      have HA := Lib.hid A
      have HSS := Lib.hid S
      obtain ⟨c0, c1, z0, z1⟩ := h1.facts
      clear h1 h2 h3 hd hd2 A S
      go_wp2_with fail
      go_region_law (go_simp; first
        | (go_at_call 67; refine (HA.out _).mono ?_; rintro e w4 ⟨rfl, hb4⟩; have Y1 := Lib.hid (show Two w4 (w.heap.size + 1) (.int .u64 hi) (.int .u64 lo) from (hb4.block _ H1.out.lt).trans H1.out); have Y2 := Lib.hid (show Two w4 w.heap.size (.int .u64 0) (.int .u64 0) from (hb4.block _ H2.out.lt).trans H2.out); have Y3 := Lib.hid (H3.out.trans ((below_of (w := wr) hb4 rfl rfl rfl rfl).mono H3.out.size)); clear hb4; obtain ⟨y0, y1, y2, y3⟩ := Y1.out.facts)
        | (refine (HSS.out _ (by first | exact H3.out | exact H3.out.drew)).mono ?_; rintro e w'' ⟨rfl, j, rfl⟩; (try have cj0 : (wr.drew.drewN j).cell? ⟨w.heap.size + 1, 0, none⟩ = some (.int .u64 hi) := c0); (try have cj1 : (wr.drew.drewN j).cell? ⟨w.heap.size + 1, 1, none⟩ = some (.int .u64 lo) := c1)))
      all_goals
        have t1 := Two.set Y1.out (.int .u64 hi2) (.int .u64 lo2)
        have t2 := Two.other Y2.out (k := w.heap.size + 1) (by omega) (.int .u64 hi2) (.int .u64 lo2)
        have t3 := Two.below (g := w.heap.size + 1) Y3.out (by omega) (.int .u64 hi2) (.int .u64 lo2)
        generalize (w4.setCell ⟨w.heap.size + 1, 0, none⟩ (.int .u64 hi2)).setCell ⟨w.heap.size + 1, 1, none⟩ (.int .u64 lo2) = W5 at *
        have T1 := Lib.hid t1
        have T2 := Lib.hid t2
        have T3 := Lib.hid t3
        clear t1 t2 t3 y0 y1 y2 y3 c0 c1 z0 z1 Y1 Y2 Y3
        go_wp2_with fail
        go_roundw
        case rel => exact ⟨k + 1, hi2, lo2, by omega, by go_num, HD2.out, T1.out, T2.out, T3.out⟩
        case measure => simp [intOf]; omega
    · obtain rfl : k = n := by omega
      obtain ⟨c0, c1, _, _⟩ := h1.facts
      obtain ⟨_, _, z0, z1⟩ := h2.facts
      clear h1 h2 h3 hd
      go_wp2_with fail
      have t1 := Two.set H2.out (.int .u64 hi) (.int .u64 lo)
      have t3 := Two.below (g := w.heap.size) H3.out (Nat.le_refl _) (.int .u64 hi) (.int .u64 lo)
      generalize (wr.setCell ⟨w.heap.size, 0, none⟩ (.int .u64 hi)).setCell ⟨w.heap.size, 1, none⟩ (.int .u64 lo) = W5 at *
      rw [HD.out]
      exact ret_two 4 rfl w.heap.size _ _ rfl t1 ⟨rfl, t3⟩
end Go.Proofs.Ytddeomdmccnfbaa

/- dist.Sum, dist.Between, dist.ToBox: their functions of a side, and they themselves. -/
namespace Go.Proofs.Ytddeomdmccnfbaa
open Go.RowKit

/-- A slice whose words are known. -/
structure Words (w : World) (p : Option Addr) (n c : Nat) (R : List Int) : Prop where
  size : n = R.length
  le : n ≤ c
  ok : ∀ x ∈ R, 0 ≤ x ∧ x < 18446744073709551616
  at' : R = [] ∨ ∃ g o, p = some ⟨g, o, none⟩ ∧ ∀ i, i < R.length → w.cell? ⟨g, o + i, none⟩ = some (.int .u64 (R.getD i 0))
theorem Words.later {w w' : World} {p : Option Addr} {n c : Nat} {R : List Int} (h : Words w p n c R) (hb : Below w.heap.size w w') : Words w' p n c R :=
  ⟨h.size, h.le, h.ok, h.at'.imp id fun ⟨g, o, hp, hx⟩ => ⟨g, o, hp, fun i hi => (hb.cell (p := ⟨g, o + i, none⟩) (block_lt_of_cell (hx i hi))).trans (hx i hi)⟩⟩
theorem Words.get {w : World} {p : Option Addr} {n c : Nat} {R : List Int} (h : Words w p n c R) (k : Nat) (hk : k < n) : 0 ≤ R.getD k 0 ∧ R.getD k 0 < 18446744073709551616 := by
  have hk' : k < R.length := by rw [← h.size]; exact hk
  rw [List.getD_eq_getElem?_getD, List.getElem?_eq_getElem hk']
  exact h.ok _ (List.getElem_mem hk')
theorem Words.cell {w : World} {p : Option Addr} {n c : Nat} {R : List Int} (h : Words w p n c R) (k : Nat) (hk : k < n) : ∃ g o, p = some ⟨g, o, none⟩ ∧ w.cell? ⟨g, o + k, none⟩ = some (.int .u64 (R.getD k 0)) := by
  have hk' : k < R.length := by rw [← h.size]; exact hk
  rcases h.at' with h0 | ⟨g, o, hp, hx⟩
  · rw [h0] at hk'; exact absurd hk' (by simp)
  · exact ⟨g, o, hp, hx k hk'⟩
end Go.Proofs.Ytddeomdmccnfbaa

/- dist.Sum, dist.Between, dist.ToBox. -/
namespace Go.Proofs.Ytddeomdmccnfbaa
open Go.RowKit

theorem enter_side {F : Nat} {fn : Func} {c : Code} (hf : Try.prog.funcs[F]? = some fn) (hname : (fn.name == "runtime.NumGoroutine") = false) (hb : fn.body = some c) : ∀ args w, (callFunc F args).run Try.prog w = .ok (.enter F args) w := fun args w => by
  have h1 : fn.name ≠ "runtime.NumGoroutine" := by simpa using hname
  simp [callFunc, hf, h1, hb, mark]
theorem ret_two2 {fn : Func} {P : Ending → World → Prop} (p u : Tmp) (hr : fn.results = #[.cell p 37, .tmp u]) {tmps : Array Value} {w : World} (g : Nat) (a b x : Value)
    (hp : tmps.getD p undef = .pointer (some ⟨g, 0, none⟩)) (hu : tmps.getD u undef = x) (hg : Two w g a b) (h : P (.returned (.tuple #[.agg #[a, b], x])) w) : bodyPost Try.prog fn P .ret ⟨tmps, []⟩ w := by
  obtain ⟨r0, r1, _, _⟩ := hg.facts
  refine bodyPost_ret (a := ⟨tmps, []⟩) (v := .tuple #[.agg #[a, b], x]) ?_ rfl h
  have hp' : tmps[p]?.getD undef = .pointer (some ⟨g, 0, none⟩) := by simpa using hp
  have hu' : tmps[u]?.getD undef = x := by simpa using hu
  simp [results, hr, hp', hu', go_sem, r0, r1]
theorem zero_two (w : World) : Two (w.alloc (.cells #[.int .u64 0, .int .u64 0] 37)) w.heap.size (.int .u64 0) (.int .u64 0) := heap_alloc_new w _
theorem boxed (w : World) (v : Value) (t : TypeId) : (w.alloc (.cells #[v] t)).cell? ⟨w.heap.size, 0, none⟩ = some v := cell_of_row _ _ 0 _ t (0, 0) (heap_alloc_new w _)
/-- The Manhattan distance, and its error. -/
def okP (n m : Nat) : Prop := 1 ≤ n ∧ n ≤ 8 ∧ n = m
instance (n m : Nat) : Decidable (okP n m) := by unfold okP; infer_instance
def btw (R S : List Int) (n m : Nat) : Int := if okP n m then tot (fun k => apart (R.getD k 0) (S.getD k 0)) n else 0
def btwE (n m : Nat) : Int := if okP n m then 0 else 1
end Go.Proofs.Ytddeomdmccnfbaa

/- Words in a block. -/
namespace Go.Proofs.Ytddeomdmccnfbaa
open Go.RowKit

/-- Words in a block. -/
def Wd (w : World) (g : Nat) (n : Nat) (f : Nat → Nat) (C : Array Value) : Prop := w.heap[g]? = some (.cells C 35 (0, 0)) ∧ n ≤ C.size ∧ ∀ i, i < n → C[i]? = some (.int .u64 (f i : Nat))
theorem Wd.set {w : World} {g n : Nat} {f : Nat → Nat} {C : Array Value} (h : Wd w g n f C) (k x : Nat) : Wd (w.setCell ⟨g, k, none⟩ (.int .u64 (x : Nat))) g n (fun i => if i = k then x else f i) (C.setIfInBounds k (.int .u64 (x : Nat))) := by
  obtain ⟨h1, h2, h3⟩ := h
  refine ⟨heap_setCell_same w g k _ _ _ h1, by simpa using h2, fun i hi => ?_⟩
  rw [Array.getElem?_setIfInBounds]
  by_cases e : k = i
  · subst e
    rw [if_pos rfl, if_pos (by omega)]
    simp
  · rw [if_neg e, h3 i hi]
    simp [Ne.symm e]
theorem Wd.cell {w : World} {g n : Nat} {f : Nat → Nat} {C : Array Value} (h : Wd w g n f C) (k : Nat) (hk : k < n) : w.cell? ⟨g, k, none⟩ = some (.int .u64 (f k : Nat)) := by
  rw [cell_of_row w g k _ _ _ h.1]; exact h.2.2 k hk
theorem Wd.free {w : World} {g n : Nat} {f : Nat → Nat} {C : Array Value} (h : Wd w g n f C) (k : Nat) : w.frozen? ⟨g, k, none⟩ = false := frozen_of_row w g _ _ _ h.1
theorem Wd.ext {w : World} {g n : Nat} {f f' : Nat → Nat} {C : Array Value} (h : Wd w g n f C) (hf : ∀ i, i < n → f i = f' i) : Wd w g n f' C :=
  ⟨h.1, h.2.1, fun i hi => by rw [h.2.2 i hi, hf i hi]⟩
theorem Wd.later {w w' : World} {g n : Nat} {f : Nat → Nat} {C : Array Value} (h : Wd w g n f C) {m : Nat} (hb : Below m w w') (hg : g < m) : Wd w' g n f C := ⟨(hb.block _ hg).trans h.1, h.2⟩
theorem Wd.lt {w : World} {g n : Nat} {f : Nat → Nat} {C : Array Value} (h : Wd w g n f C) : g < w.heap.size := (Array.getElem?_eq_some_iff.1 h.1).1
end Go.Proofs.Ytddeomdmccnfbaa
