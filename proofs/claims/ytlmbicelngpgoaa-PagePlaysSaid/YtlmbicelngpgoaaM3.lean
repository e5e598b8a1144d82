/- ShaRot, ShaTurn, ShaSched, ShaKs, ShaAll, ShaBig, ShaFill, ShaRow, ShaMore, ShaWrite, ShaWriteA, ShaWriteC. -/
import Derived.Test.YtlmbicelngpgoaaM2
import Derived.Test.YtlmbicelngpgoaaProg
import Derived.WalkKit
import Derived.WalkSpells
import Derived.WalkLawsBesides
import Derived.BigQuiet
import Derived.Deep.QuietTactic
import Derived.Lib.Hide
import Derived.StillTailTactics
import Derived.Deep.WholeRow
import Derived.Deep.MidRow
import Derived.Deep.RegionHeld3
import Derived.Deep.RegionLaw
/- The contracts of the smallest functions of package sha: a word turned, the words that are given. -/
namespace Go.Proofs.Ytlmbicelngpgoaa
open Go.RowKit

theorem ret_u32 {a b : Int} (h : a = b) : Ending.returned (.int .u32 a) = .returned (.int .u32 b) := by rw [h]
set_option maxHeartbeats 400000 in
theorem rot_any (x n : Nat) (k : Int) (w : World) (hx : x < 4294967296) (hn : 0 < n) (hn' : n < 32) (hk : bits .and .u64 (IntKind.u64.wrap k) 31 = ((32 - n : Nat) : Int)) :
    Calls Try.prog 73 #[.int .u32 x, .int .i64 k] w fun e w' => e = .returned (.int .u32 (Sm.rot n x)) ∧ w = w' := by
  obtain ⟨m, hm⟩ : ∃ m, m = 32 - n := ⟨_, rfl⟩
  rw [← hm] at hk
  have h1 : (0 : Int) ≤ m := by omega
  have h2 : (m : Int) ≤ 32 := by omega
  have h3 : (0 : Int) ≤ 32 - m := by omega
  have h4 : (32 - m : Int) ≤ 32 := by omega
  have HM := Lib.hid hm
  clear hm
  go_enter Try.func73, Try.ntmps73
  go_wp2
  go_ret
  refine ⟨ret_u32 ?_, rfl⟩
  have e := HM.out
  have e1 : (x : Int) * 2 ^ m % 4294967296 = ((x * 2 ^ (32 - n) % 4294967296 : Nat) : Int) := by
    rw [Int.natCast_emod, Int.natCast_mul, Int.natCast_pow, e]; rfl
  have e2 : (x : Int) / 2 ^ (32 - m) = ((x / 2 ^ n : Nat) : Int) := by
    have e3 : 32 - m = n := by omega
    rw [e3, Int.natCast_ediv, Int.natCast_pow]; rfl
  rw [e1, e2]
  exact u32_or_nat _ _ (Nat.mod_lt _ (by omega)) (Nat.lt_of_le_of_lt (Nat.div_le_self _ _) hx)
theorem rk2 : bits .and .u64 (IntKind.u64.wrap (-2)) 31 = ((32 - 2 : Nat) : Int) := by decide +kernel
theorem rk6 : bits .and .u64 (IntKind.u64.wrap (-6)) 31 = ((32 - 6 : Nat) : Int) := by decide +kernel
theorem rk7 : bits .and .u64 (IntKind.u64.wrap (-7)) 31 = ((32 - 7 : Nat) : Int) := by decide +kernel
theorem rk11 : bits .and .u64 (IntKind.u64.wrap (-11)) 31 = ((32 - 11 : Nat) : Int) := by decide +kernel
theorem rk13 : bits .and .u64 (IntKind.u64.wrap (-13)) 31 = ((32 - 13 : Nat) : Int) := by decide +kernel
theorem rk17 : bits .and .u64 (IntKind.u64.wrap (-17)) 31 = ((32 - 17 : Nat) : Int) := by decide +kernel
theorem rk18 : bits .and .u64 (IntKind.u64.wrap (-18)) 31 = ((32 - 18 : Nat) : Int) := by decide +kernel
theorem rk19 : bits .and .u64 (IntKind.u64.wrap (-19)) 31 = ((32 - 19 : Nat) : Int) := by decide +kernel
theorem rk22 : bits .and .u64 (IntKind.u64.wrap (-22)) 31 = ((32 - 22 : Nat) : Int) := by decide +kernel
theorem rk25 : bits .and .u64 (IntKind.u64.wrap (-25)) 31 = ((32 - 25 : Nat) : Int) := by decide +kernel
/-- A word turned by one of the ten numbers that SHA-256 names. -/
theorem rot_of (n x : Nat) (k : Int) (w : World) (hx : x < 4294967296) (hn : (k = -2 ∧ n = 2) ∨ (k = -6 ∧ n = 6) ∨ (k = -7 ∧ n = 7) ∨ (k = -11 ∧ n = 11) ∨ (k = -13 ∧ n = 13) ∨ (k = -17 ∧ n = 17) ∨ (k = -18 ∧ n = 18) ∨ (k = -19 ∧ n = 19) ∨ (k = -22 ∧ n = 22) ∨ (k = -25 ∧ n = 25)) :
    Calls Try.prog 73 #[.int .u32 x, .int .i64 k] w fun e w' => e = .returned (.int .u32 (Sm.rot n x)) ∧ w = w' := by
  rcases hn with ⟨rfl, rfl⟩ | ⟨rfl, rfl⟩ | ⟨rfl, rfl⟩ | ⟨rfl, rfl⟩ | ⟨rfl, rfl⟩ | ⟨rfl, rfl⟩ | ⟨rfl, rfl⟩ | ⟨rfl, rfl⟩ | ⟨rfl, rfl⟩ | ⟨rfl, rfl⟩
  · exact rot_any x 2 _ w hx (by omega) (by omega) rk2
  · exact rot_any x 6 _ w hx (by omega) (by omega) rk6
  · exact rot_any x 7 _ w hx (by omega) (by omega) rk7
  · exact rot_any x 11 _ w hx (by omega) (by omega) rk11
  · exact rot_any x 13 _ w hx (by omega) (by omega) rk13
  · exact rot_any x 17 _ w hx (by omega) (by omega) rk17
  · exact rot_any x 18 _ w hx (by omega) (by omega) rk18
  · exact rot_any x 19 _ w hx (by omega) (by omega) rk19
  · exact rot_any x 22 _ w hx (by omega) (by omega) rk22
  · exact rot_any x 25 _ w hx (by omega) (by omega) rk25
def u32s (l : List Nat) : Array Value := (l.map fun x => Value.int .u32 (x : Nat)).toArray
theorem A32 : Try.prog.underlying 85 = some (.array 8 84) := by kernel_rfl
theorem S32 : (Try.prog.info? 85).map (·.size) = some 8 := by kernel_rfl
theorem A62 : Try.prog.underlying 113 = some (.array 64 84) := by kernel_rfl
theorem S62 : (Try.prog.info? 113).map (·.size) = some 64 := by kernel_rfl
set_option maxHeartbeats 400000 in
theorem firstWords_any (w : World) :
    Calls Try.prog 50 #[] w fun e w' => e = .returned (.agg (u32s Sm.first.list)) ∧ Below w.heap.size w w' := by
  go_enter Try.func50, Try.ntmps50
  go_wp2
  exact ret_row 0 (by kernel_rfl) w.heap.size _ _ A32 S32 rfl (heap_alloc_new w _) rfl ⟨rfl, (Below.refl _ _).alloc (Nat.le_refl _) _⟩
end Go.Proofs.Ytlmbicelngpgoaa

/- The contract of sha.turn: eight words turned by one block. -/
namespace Go.Proofs.Ytlmbicelngpgoaa
open Go.RowKit

theorem rot2 (x : Nat) (w : World) (hx : x < 4294967296) : Calls Try.prog 73 #[.int .u32 x, .int .i64 (-2)] w fun e w' => e = .returned (.int .u32 (Sm.rot 2 x)) ∧ w = w' := rot_of 2 x _ w hx (by omega)
theorem rot6 (x : Nat) (w : World) (hx : x < 4294967296) : Calls Try.prog 73 #[.int .u32 x, .int .i64 (-6)] w fun e w' => e = .returned (.int .u32 (Sm.rot 6 x)) ∧ w = w' := rot_of 6 x _ w hx (by omega)
theorem rot11 (x : Nat) (w : World) (hx : x < 4294967296) : Calls Try.prog 73 #[.int .u32 x, .int .i64 (-11)] w fun e w' => e = .returned (.int .u32 (Sm.rot 11 x)) ∧ w = w' := rot_of 11 x _ w hx (by omega)
theorem rot13 (x : Nat) (w : World) (hx : x < 4294967296) : Calls Try.prog 73 #[.int .u32 x, .int .i64 (-13)] w fun e w' => e = .returned (.int .u32 (Sm.rot 13 x)) ∧ w = w' := rot_of 13 x _ w hx (by omega)
theorem rot22 (x : Nat) (w : World) (hx : x < 4294967296) : Calls Try.prog 73 #[.int .u32 x, .int .i64 (-22)] w fun e w' => e = .returned (.int .u32 (Sm.rot 22 x)) ∧ w = w' := rot_of 22 x _ w hx (by omega)
theorem rot25 (x : Nat) (w : World) (hx : x < 4294967296) : Calls Try.prog 73 #[.int .u32 x, .int .i64 (-25)] w fun e w' => e = .returned (.int .u32 (Sm.rot 25 x)) ∧ w = w' := rot_of 25 x _ w hx (by omega)
theorem rot7 (x : Nat) (w : World) (hx : x < 4294967296) : Calls Try.prog 73 #[.int .u32 x, .int .i64 (-7)] w fun e w' => e = .returned (.int .u32 (Sm.rot 7 x)) ∧ w = w' := rot_of 7 x _ w hx (by omega)
theorem rot18 (x : Nat) (w : World) (hx : x < 4294967296) : Calls Try.prog 73 #[.int .u32 x, .int .i64 (-18)] w fun e w' => e = .returned (.int .u32 (Sm.rot 18 x)) ∧ w = w' := rot_of 18 x _ w hx (by omega)
theorem rot17 (x : Nat) (w : World) (hx : x < 4294967296) : Calls Try.prog 73 #[.int .u32 x, .int .i64 (-17)] w fun e w' => e = .returned (.int .u32 (Sm.rot 17 x)) ∧ w = w' := rot_of 17 x _ w hx (by omega)
theorem rot19 (x : Nat) (w : World) (hx : x < 4294967296) : Calls Try.prog 73 #[.int .u32 x, .int .i64 (-19)] w fun e w' => e = .returned (.int .u32 (Sm.rot 19 x)) ∧ w = w' := rot_of 19 x _ w hx (by omega)

theorem u32s_get (l : List Nat) (i : Nat) (h : i < l.length) : (u32s l)[i]? = some (.int .u32 (l.getD i 0 : Nat)) := by
  simp [u32s, List.getD_eq_getElem?_getD, List.getElem?_eq_getElem h]
theorem u32s_cell {w : World} {g : Nat} {l : List Nat} {t : TypeId} {fr : Nat × Nat} (hg : w.heap[g]? = some (.cells (u32s l) t fr)) (i : Nat) (h : i < l.length) : w.cell? ⟨g, i, none⟩ = some (.int .u32 (l.getD i 0 : Nat)) := by
  rw [cell_of_row w g i _ t fr hg, u32s_get l i h]
theorem u32_eq {a b : Int} (h : a = b) : Value.int .u32 a = Value.int .u32 b := by rw [h]
structure Facts (w WB : World) (gw gk : Nat) (W K : List Nat) (A : Array Value) : Prop where
  below : Below w.heap.size w WB
  cw : ∀ i, i < 64 → WB.cell? ⟨gw, i, none⟩ = some (.int .u32 (W.getD i 0 : Nat))
  ck : ∀ i, i < 64 → WB.cell? ⟨gk, i, none⟩ = some (.int .u32 (K.getD i 0 : Nat))
  box : WB.heap[w.heap.size]? = some (.cells A 85 (0, 0))
  res : ∃ C, WB.heap[w.heap.size + 1]? = some (.cells C 85 (0, 0)) ∧ C.size = 8
theorem Facts.mk' (w : World) (nq gw gk : Nat) (W K : List Nat) (A C : Array Value)
    (cw : ∀ i, i < 64 → w.cell? ⟨gw, i, none⟩ = some (.int .u32 (W.getD i 0 : Nat)))
    (ck : ∀ i, i < 64 → w.cell? ⟨gk, i, none⟩ = some (.int .u32 (K.getD i 0 : Nat)))
    (bw : gw < w.heap.size) (bk : gk < w.heap.size) (hC : C.size = 8 := by rfl) :
    Facts w (World.drewN ((w.alloc (.cells A 85)).alloc (.cells C 85)) nq) gw gk W K A := by
  have hb : Below w.heap.size w ((w.alloc (.cells A 85)).alloc (.cells C 85)) := ((Below.refl _ _).alloc (Nat.le_refl _) _).alloc (by simp) _
  refine ⟨hb.trans ⟨rfl, rfl, rfl, Nat.le_refl _, fun _ _ => rfl⟩, fun i hi => ?_, fun i hi => ?_, ?_, C, ?_, hC⟩
  · exact (hb.cell (p := ⟨gw, i, none⟩) bw).trans (cw i hi)
  · exact (hb.cell (p := ⟨gk, i, none⟩) bk).trans (ck i hi)
  · exact heap_alloc2_old w _ _
  · exact heap_alloc2_new w _ _
def TurnRel (K W : List Nat) (v : Sm.V8) (W0 : World) (a b c d e f g h i : Value) (wr : World) : Prop :=
  ∃ k : Nat, k ≤ 64 ∧ i = .int .i64 k ∧ a = .int .u32 (Sm.rounds K W v k).a ∧ b = .int .u32 (Sm.rounds K W v k).b ∧ c = .int .u32 (Sm.rounds K W v k).c ∧ d = .int .u32 (Sm.rounds K W v k).d ∧ e = .int .u32 (Sm.rounds K W v k).e ∧ f = .int .u32 (Sm.rounds K W v k).f ∧ g = .int .u32 (Sm.rounds K W v k).g ∧ h = .int .u32 (Sm.rounds K W v k).h ∧ SameHeap W0 wr
set_option maxRecDepth 100000 in
set_option maxHeartbeats 1000000 in
theorem turn_any (v : Sm.V8) (hv : v.ok) (W K : List Nat) (hW : Sm.allW W) (hK : Sm.allW K) (lW : W.length = 64) (lK : K.length = 64) (gw gk : Nat) (w : World)
    (hw : w.heap[gw]? = some (.cells (u32s W) 113 (0, 0))) (hk : w.heap[gk]? = some (.cells (u32s K) 113 (0, 0))) :
    Calls Try.prog 67 #[.agg (u32s v.list), .pointer (some ⟨gw, 0, none⟩), .pointer (some ⟨gk, 0, none⟩)] w fun e w' => e = .returned (.agg (u32s (Sm.turn K W v).list)) ∧ Below w.heap.size w w' := by
  obtain ⟨a, b, c, d, e, f, g, h⟩ := v
  have cw : ∀ i, i < 64 → w.cell? ⟨gw, i, none⟩ = some (.int .u32 (W.getD i 0 : Nat)) := fun i hi => u32s_cell hw i (by omega)
  have ck : ∀ i, i < 64 → w.cell? ⟨gk, i, none⟩ = some (.int .u32 (K.getD i 0 : Nat)) := fun i hi => u32s_cell hk i (by omega)
  have bw : gw < w.heap.size := (Array.getElem?_eq_some_iff.1 hw).1
  have bk : gk < w.heap.size := (Array.getElem?_eq_some_iff.1 hk).1
  have CW := Lib.hid cw
  have CK := Lib.hid ck
  have LW := Lib.hid lW
  have LK := Lib.hid lK
  have HW := Lib.hid hW
  have HK := Lib.hid hK
  have HV := Lib.hid hv
  clear cw ck lW lK hW hK hv hw hk
  show Calls Try.prog 67 #[.agg #[.int .u32 a, .int .u32 b, .int .u32 c, .int .u32 d, .int .u32 e, .int .u32 f, .int .u32 g, .int .u32 h], .pointer (some ⟨gw, 0, none⟩), .pointer (some ⟨gk, 0, none⟩)] w _
  go_enter Try.func67, Try.ntmps67
  go_wp2_with fail
  go_quiet (fail)
  go_wp2_with fail
  generalize hWB : World.drewN ((w.alloc (.cells #[.int .u32 a, .int .u32 b, .int .u32 c, .int .u32 d, .int .u32 e, .int .u32 f, .int .u32 g, .int .u32 h] 85)).alloc (.cells #[.int .u32 0, .int .u32 0, .int .u32 0, .int .u32 0, .int .u32 0, .int .u32 0, .int .u32 0, .int .u32 0] 85)) nq = WB
  have FB : Facts w WB gw gk W K #[.int .u32 a, .int .u32 b, .int .u32 c, .int .u32 d, .int .u32 e, .int .u32 f, .int .u32 g, .int .u32 h] := by
    subst hWB
    exact Facts.mk' w nq gw gk W K _ _ CW.out CK.out bw bk
  have FF := Lib.hid FB
  clear FB hWB
  go_loopw [7, 8, 9, 10, 11, 12, 13, 14, 38] (fun a' b' c' d' e' f' g' h' i wr => TurnRel K W ⟨a, b, c, d, e, f, g, h⟩ WB a' b' c' d' e' f' g' h' i wr) (fun _ _ _ _ _ _ _ _ i _ => 64 - (intOf i).toNat)
  case atStart => exact ⟨0, by omega, rfl, rfl, rfl, rfl, rfl, rfl, rfl, rfl, rfl, SameHeap.refl _⟩
  case round =>
    obtain ⟨k, hk, rfl, rfl, rfl, rfl, rfl, rfl, rfl, rfl, rfl, hs⟩ := hrel
    have ho : (Sm.rounds K W ⟨a, b, c, d, e, f, g, h⟩ k).ok := Sm.rounds_ok HV.out k
    have HS := Lib.hid hs
    clear hs
    by_cases hlt : k < 64
    · obtain ⟨u, hu⟩ : ∃ u, u = Sm.rounds K W ⟨a, b, c, d, e, f, g, h⟩ k := ⟨_, rfl⟩
      rw [← hu] at ho ⊢
      have HU := Lib.hid hu
      clear hu
      have HO := Lib.hid ho
      obtain ⟨ha, hb, hc, hd, he, hf, hg, hh⟩ := ho
      have xw := (HS.out.cell ⟨gw, k, none⟩).trans (FF.out.cw k hlt)
      have xk := (HS.out.cell ⟨gk, k, none⟩).trans (FF.out.ck k hlt)
      go_wp2_with (go_at_call 73; first | ((with_reducible refine (rot6 _ _ he).mono ?_); rintro _ _ ⟨rfl, rfl⟩) | ((with_reducible refine (rot11 _ _ he).mono ?_); rintro _ _ ⟨rfl, rfl⟩) | ((with_reducible refine (rot25 _ _ he).mono ?_); rintro _ _ ⟨rfl, rfl⟩))
      go_quiet (fail)
      go_wp2_with (go_at_call 73; first | ((with_reducible refine (rot2 _ _ ha).mono ?_); rintro _ _ ⟨rfl, rfl⟩) | ((with_reducible refine (rot13 _ _ ha).mono ?_); rintro _ _ ⟨rfl, rfl⟩) | ((with_reducible refine (rot22 _ _ ha).mono ?_); rintro _ _ ⟨rfl, rfl⟩))
      go_roundw
      case rel =>
        show TurnRel _ _ _ _ _ _ _ _ _ _ _ _ _ _
        rw [← List.getD_eq_getElem?_getD, ← List.getD_eq_getElem?_getD, Sm.t1_int HO.out, Sm.t2_int HO.out]
        refine ⟨k + 1, by omega, by go_num, ?_, ?_, ?_, ?_, ?_, ?_, ?_, ?_, HS.out.drewN _⟩
        · rw [Sm.rounds, ← HU.out]; exact u32_eq (by simp only [Sm.step]; omega)
        · rw [Sm.rounds, ← HU.out]; rfl
        · rw [Sm.rounds, ← HU.out]; rfl
        · rw [Sm.rounds, ← HU.out]; rfl
        · rw [Sm.rounds, ← HU.out]; exact u32_eq (by simp only [Sm.step]; omega)
        · rw [Sm.rounds, ← HU.out]; rfl
        · rw [Sm.rounds, ← HU.out]; rfl
        · rw [Sm.rounds, ← HU.out]; rfl
      case measure => simp [intOf]; omega
    · obtain rfl : k = 64 := by omega
      obtain ⟨u, hu⟩ : ∃ u, u = Sm.rounds K W ⟨a, b, c, d, e, f, g, h⟩ 64 := ⟨_, rfl⟩
      rw [← hu] at ho ⊢
      have HU := Lib.hid hu
      clear hu ho
      have hbox : wr.heap[w.heap.size]? = some (.cells (u32s [a, b, c, d, e, f, g, h]) 85 (0, 0)) := by rw [HS.out.heap]; exact FF.out.box
      obtain ⟨C, hC, hC8⟩ := FF.out.res
      rw [← HS.out.heap] at hC
      have HC := Lib.hid hC
      have HC8 := Lib.hid hC8
      clear hC hC8
      have c0 := u32s_cell hbox 0 (by simp)
      have c1 := u32s_cell hbox 1 (by simp)
      have c2 := u32s_cell hbox 2 (by simp)
      have c3 := u32s_cell hbox 3 (by simp)
      have c4 := u32s_cell hbox 4 (by simp)
      have c5 := u32s_cell hbox 5 (by simp)
      have c6 := u32s_cell hbox 6 (by simp)
      have c7 := u32s_cell hbox 7 (by simp)
      clear hbox
      simp only [List.getD_cons_zero, List.getD_cons_succ] at c0 c1 c2 c3 c4 c5 c6 c7
      go_wp2_with (refine wpList_store_row (by rfl) 85 _ _ (by rfl) (w.heap.size + 1) _ (by rfl) (by rfl) _ _ HC.out (by exact S32) (by exact HC8.out) (by simp [Value.oneCell']) ?_)
      refine ret_row 6 (by kernel_rfl) (w.heap.size + 1) _ _ A32 S32 rfl (setRow_heap _ _ _ _ _ _ HC.out) (by rfl) ?_
      refine ⟨?_, ?_⟩
      · rw [Sm.turn, ← HU.out]
        simp only [u32s, Sm.add8, Sm.V8.list, List.map_cons, List.map_nil, Int.natCast_emod, Int.natCast_add]
        rfl
      · exact Below.setRow ((FF.out.below).trans (HS.out.below.mono FF.out.below.size)) (by omega) _
end Go.Proofs.Ytlmbicelngpgoaa

/- The contract of sha.schedule: a block's 64 words. -/
namespace Go.Proofs.Ytlmbicelngpgoaa
open Go.RowKit

structure SFacts (w WB : World) (gb ob : Nat) (B : List Nat) (L : List Nat) : Prop where
  below : Below w.heap.size w WB
  bytes : bytesAt WB gb ob B
  res : ∃ C, WB.heap[w.heap.size]? = some (.cells C 113 (0, 0)) ∧ C.size = 64
  lt : gb < w.heap.size
  row : WB.heap[w.heap.size + 1]? = some (.cells (u32s L) 113 (0, 0))
theorem SFacts.drewN {w WB : World} {gb ob : Nat} {B L : List Nat} (h : SFacts w WB gb ob B L) (n : Nat) : SFacts w (WB.drewN n) gb ob B L :=
  ⟨h.below.trans ⟨rfl, rfl, rfl, Nat.le_refl _, fun _ _ => rfl⟩, h.bytes, h.res, h.lt, h.row⟩
theorem SFacts.mk' (w : World) (gb ob : Nat) (B : List Nat) (hw : bytesAt w gb ob B) (hl : 0 < B.length) : SFacts w ((w.alloc (.cells (u32s (zeros 64)) 113)).alloc (.cells (u32s (zeros 64)) 113)) gb ob B (zeros 64) := by
  have hb : Below w.heap.size w ((w.alloc (.cells (u32s (zeros 64)) 113)).alloc (.cells (u32s (zeros 64)) 113)) := ((Below.refl _ _).alloc (Nat.le_refl _) _).alloc (by simp) _
  refine ⟨hb, fun i hi => ?_, ⟨_, heap_alloc2_old w _ _, by simp [u32s, zeros]⟩, block_lt_of_cell (hw 0 hl), heap_alloc2_new w _ _⟩
  have := hw i hi
  exact (hb.cell (p := ⟨gb, ob + i, none⟩) (block_lt_of_cell this)).trans this
theorem u32s_set (p r : List Nat) (y x k : Nat) (hk : p.length = k) : (u32s (p ++ y :: r)).setIfInBounds k (.int .u32 (x : Nat)) = u32s (p ++ x :: r) := by
  subst hk
  apply Array.ext'
  simp [u32s]
theorem SFacts.store {w WB : World} {gb ob : Nat} {B p r : List Nat} {y : Nat} (h : SFacts w WB gb ob B (p ++ y :: r)) (k : Nat) (hk : p.length = k) (x : Nat) :
    SFacts w (WB.setCell ⟨w.heap.size + 1, k, none⟩ (.int .u32 (x : Nat))) gb ob B (p ++ x :: r) := by
  obtain ⟨C, hC, hC6⟩ := h.res
  refine ⟨h.below.setCell (by show w.heap.size ≤ w.heap.size + 1; omega) _, fun i hi => ?_, ⟨C, ?_, hC6⟩, h.lt, ?_⟩
  · rw [World.cell?_setCell_other _ _ _ _ (by intro e; have e1 : w.heap.size + 1 = gb := congrArg Addr.block e; have := h.lt; omega)]
    exact h.bytes i hi
  · rw [heap_setCell_other _ _ _ _ (by show w.heap.size ≠ w.heap.size + 1; omega)]; exact hC
  · rw [heap_setCell_same _ _ _ _ _ _ h.row, u32s_set p r y x k hk]
def SRel2 (w : World) (gb ob : Nat) (B : List Nat) (i : Value) (wr : World) : Prop :=
  ∃ k : Nat, k ≤ 48 ∧ i = .int .i64 ((16 + k : Nat) : Int) ∧ SFacts w wr gb ob B (Sm.more (Sm.words B 16) k ++ zeros (48 - k))
theorem u32s_one (l : List Nat) : (u32s l).all (·.oneCell') = true := by simp [u32s, Value.oneCell']
theorem sched_size (B : List Nat) : (u32s (Sm.sched B)).size = 64 := by simp [u32s, Sm.length_sched]
def SRel1 (w : World) (gb ob : Nat) (B : List Nat) (i : Value) (wr : World) : Prop :=
  ∃ k : Nat, k ≤ 16 ∧ i = .int .i64 k ∧ SFacts w wr gb ob B (Sm.words B k ++ zeros (64 - k))
theorem Z62 : (Try.prog.info? 113).map (fun i => (i.zero, i.size)) = some (some (.agg (u32s (zeros 64))), 64) := by kernel_rfl
set_option maxRecDepth 100000 in
set_option maxHeartbeats 1000000 in
theorem sched_any (B : List Nat) (hB : Sm.allB B) (lB : 64 ≤ B.length) (gb ob cap : Nat) (hcap : 64 ≤ cap) (w : World) (hw : bytesAt w gb ob B) :
    Calls Try.prog 66 #[.slice (some ⟨gb, ob, none⟩) 64 cap] w fun e w' => e = .returned (.agg (u32s (Sm.sched B))) ∧ Below w.heap.size w w' := by
  have HB := Lib.hid hB
  have LB := Lib.hid lB
  have HW := Lib.hid hw
  clear hB lB hw
  have hz := (zero_of_info Z62).1
  go_enter Try.func66, Try.ntmps66
  go_wp2_with fail
  generalize hWB : (w.alloc (.cells (u32s (zeros 64)) 113)).alloc (.cells (u32s (zeros 64)) 113) = WB
  have FB : SFacts w WB gb ob B (zeros 64) := by
    subst hWB
    exact SFacts.mk' w gb ob B HW.out (by have := LB.out; omega)
  have FF := Lib.hid FB
  clear FB hWB hz
  go_loopw [11] (fun i wr => SRel1 w gb ob B i wr) (fun i _ => 16 - (intOf i).toNat)
  case atStart => exact ⟨0, by omega, rfl, FF.out⟩
  case round =>
    obtain ⟨k, hk, rfl, hs⟩ := hrel
    have HS := Lib.hid hs
    clear hs FF
    by_cases hlt : k < 16
    · have g0 : wr.cell? ⟨gb, ob + 4 * k, none⟩ = _ := HS.out.bytes (4 * k) (by have := LB.out; omega)
      have g1 : wr.cell? ⟨gb, ob + 4 * k + 1, none⟩ = _ := HS.out.bytes (4 * k + 1) (by have := LB.out; omega)
      have g2 : wr.cell? ⟨gb, ob + 4 * k + 2, none⟩ = _ := HS.out.bytes (4 * k + 2) (by have := LB.out; omega)
      have g3 : wr.cell? ⟨gb, ob + 4 * k + 3, none⟩ = _ := HS.out.bytes (4 * k + 3) (by have := LB.out; omega)
      obtain ⟨x0, hx0⟩ : ∃ x, x = B.getD (4 * k) 0 := ⟨_, rfl⟩
      obtain ⟨x1, hx1⟩ : ∃ x, x = B.getD (4 * k + 1) 0 := ⟨_, rfl⟩
      obtain ⟨x2, hx2⟩ : ∃ x, x = B.getD (4 * k + 2) 0 := ⟨_, rfl⟩
      obtain ⟨x3, hx3⟩ : ∃ x, x = B.getD (4 * k + 3) 0 := ⟨_, rfl⟩
      have b0 : x0 < 256 := by rw [hx0]; exact Sm.getD_lt HB.out (by omega) _
      have b1 : x1 < 256 := by rw [hx1]; exact Sm.getD_lt HB.out (by omega) _
      have b2 : x2 < 256 := by rw [hx2]; exact Sm.getD_lt HB.out (by omega) _
      have b3 : x3 < 256 := by rw [hx3]; exact Sm.getD_lt HB.out (by omega) _
      rw [← hx0] at g0
      rw [← hx1] at g1
      rw [← hx2] at g2
      rw [← hx3] at g3
      have X0 := Lib.hid hx0
      have X1 := Lib.hid hx1
      have X2 := Lib.hid hx2
      have X3 := Lib.hid hx3
      clear hx0 hx1 hx2 hx3
      have hst : wr.cell? ⟨w.heap.size + 1, k, none⟩ = _ := u32s_cell HS.out.row k (by simp [Sm.length_words, zeros]; omega)
      have hfr : wr.frozen? ⟨w.heap.size + 1, k, none⟩ = false := frozen_of_row wr _ k _ _ HS.out.row
      have HL : (0 : Int) ≤ k ∧ (k : Int) < 64 := by omega
      go_wp2_with fail
      rw [show 4 * k + 4 - 4 * k = 4 from by omega]
      go_still_tail 24, (by kernel_rfl)
      go_wp2_with fail
      go_roundw
      case rel =>
        show SRel1 _ _ _ _ _ _
        rw [Sm.word_int b0 b1 b2 b3]
        refine ⟨k + 1, by omega, by go_num, ?_⟩
        have e : Sm.words B (k + 1) ++ zeros (64 - (k + 1)) = Sm.words B k ++ (x0 * 16777216 + x1 * 65536 + x2 * 256 + x3) :: zeros (64 - (k + 1)) := by
          rw [Sm.words, X0.out, X1.out, X2.out, X3.out, List.append_assoc]; rfl
        rw [e]
        refine (SFacts.store (y := 0) ?_ k (Sm.length_words B k) _).drewN 1
        rw [show 64 - (k + 1) = 64 - k - 1 from by omega, ← zeros_succ (by omega)]
        exact HS.out
      case measure => simp [intOf]; omega
    · obtain rfl : k = 16 := by omega
      rw [show ((16 : Nat) : Int) = 16 from rfl]
      go_wp2_with fail
      go_loopw [6] (fun i wr => SRel2 w gb ob B i wr) (fun i _ => 64 - (intOf i).toNat)
      case atStart => exact ⟨0, by omega, rfl, HS.out⟩
      case round =>
        obtain ⟨k, hk2, rfl, hs⟩ := hrel
        have HS2 := Lib.hid hs
        clear hs HS hk hlt
        by_cases hlt : k < 48
        · obtain ⟨l, hl⟩ : ∃ l, l = Sm.more (Sm.words B 16) k := ⟨_, rfl⟩
          have HS3 := Lib.hid HS2.out
          rw [← hl] at HS3
          have ll : l.length = 16 + k := by rw [hl]; simp [Sm.length_more, Sm.length_words]
          have lw : Sm.allW l := by rw [hl]; exact Sm.more_ok (Sm.words_ok HB.out 16) k
          have HL := Lib.hid hl
          have LL := Lib.hid ll
          have LW := Lib.hid lw
          clear hl ll lw HS2
          have cells : ∀ i, i < 16 + k → wr.cell? ⟨w.heap.size + 1, i, none⟩ = some (.int .u32 (l.getD i 0 : Nat)) := fun i hi => by
            rw [u32s_cell HS3.out.row i (by simp [LL.out, zeros]; omega), getD_left _ _ (by rw [LL.out]; omega)]
          obtain ⟨j, hj⟩ : ∃ j, j = 16 + k := ⟨_, rfl⟩
          rw [← hj] at cells ⊢
          have hst : wr.cell? ⟨w.heap.size + 1, j, none⟩ = _ := u32s_cell HS3.out.row j (by simp [LL.out, zeros]; omega)
          have hfr : wr.frozen? ⟨w.heap.size + 1, j, none⟩ = false := frozen_of_row wr _ _ _ _ HS3.out.row
          have g0 := cells (j - 16) (by omega)
          have g1 := cells (j - 15) (by omega)
          have g9 := cells (j - 7) (by omega)
          have g14 := cells (j - 2) (by omega)
          clear cells
          have i0 : (0 : Int) ≤ (j : Int) - 16 ∧ (j : Int) - 16 < 64 := by omega
          have i1 : (0 : Int) ≤ (j : Int) - 15 ∧ (j : Int) - 15 < 64 := by omega
          have i9 : (0 : Int) ≤ (j : Int) - 7 ∧ (j : Int) - 7 < 64 := by omega
          have i14 : (0 : Int) ≤ (j : Int) - 2 ∧ (j : Int) - 2 < 64 := by omega
          have ij : (0 : Int) ≤ (j : Int) ∧ (j : Int) < 64 := by omega
          have HJ := Lib.hid hj
          clear hj
          obtain ⟨x0, hx0⟩ : ∃ x, x = l.getD (j - 16) 0 := ⟨_, rfl⟩
          obtain ⟨x1, hx1⟩ : ∃ x, x = l.getD (j - 15) 0 := ⟨_, rfl⟩
          obtain ⟨x9, hx9⟩ : ∃ x, x = l.getD (j - 7) 0 := ⟨_, rfl⟩
          obtain ⟨x14, hx14⟩ : ∃ x, x = l.getD (j - 2) 0 := ⟨_, rfl⟩
          have w0 : x0 < 4294967296 := by rw [hx0]; exact Sm.getD_lt LW.out (by omega) _
          have w1 : x1 < 4294967296 := by rw [hx1]; exact Sm.getD_lt LW.out (by omega) _
          have w9 : x9 < 4294967296 := by rw [hx9]; exact Sm.getD_lt LW.out (by omega) _
          have w14 : x14 < 4294967296 := by rw [hx14]; exact Sm.getD_lt LW.out (by omega) _
          rw [← hx0] at g0
          rw [← hx1] at g1
          rw [← hx9] at g9
          rw [← hx14] at g14
          have X0 := Lib.hid hx0
          have X1 := Lib.hid hx1
          have X9 := Lib.hid hx9
          have X14 := Lib.hid hx14
          clear hx0 hx1 hx9 hx14
          go_wp2_with fail
          go_quiet (fail)
          go_wp2_with (go_at_call 73; first | ((with_reducible refine (rot7 _ _ w1).mono ?_); rintro _ _ ⟨rfl, rfl⟩) | ((with_reducible refine (rot18 _ _ w1).mono ?_); rintro _ _ ⟨rfl, rfl⟩) | ((with_reducible refine (rot17 _ _ w14).mono ?_); rintro _ _ ⟨rfl, rfl⟩) | ((with_reducible refine (rot19 _ _ w14).mono ?_); rintro _ _ ⟨rfl, rfl⟩))
          generalize hW2 : wr.drewN nq = W2
          have f0 : W2.cell? ⟨w.heap.size + 1, j - 16, none⟩ = some (.int .u32 (x0 : Nat)) := by rw [← hW2]; exact g0
          have f9 : W2.cell? ⟨w.heap.size + 1, j - 7, none⟩ = some (.int .u32 (x9 : Nat)) := by rw [← hW2]; exact g9
          have fst : W2.cell? ⟨w.heap.size + 1, j, none⟩ = some (.int .u32 ((l ++ zeros (48 - k)).getD j 0 : Nat)) := by rw [← hW2]; exact hst
          have ffr : W2.frozen? ⟨w.heap.size + 1, j, none⟩ = false := by rw [← hW2]; exact hfr
          have HS4 : SFacts w W2 gb ob B (l ++ zeros (48 - k)) := by rw [← hW2]; exact HS3.out.drewN nq
          have HS5 := Lib.hid HS4
          clear hW2 g0 g1 g9 g14 hst hfr HS4 HS3
          have q16 : IntKind.i64.wrap ((j : Int) - 16) = (j : Int) - 16 := IntWalk.i64_in _ (by omega)
          have q7 : IntKind.i64.wrap ((j : Int) - 7) = (j : Int) - 7 := IntWalk.i64_in _ (by omega)
          have p16 : ((j : Int) - 16).toNat = j - 16 := by omega
          have p7 : ((j : Int) - 7).toNat = j - 7 := by omega
          have r16 : (16 : Int) ≤ j := by omega
          have r7 : (7 : Int) ≤ j := by omega
          go_still_tail 15, (by kernel_rfl)
          clear q16 q7 p16 p7
          go_wp2_with fail
          go_roundw
          case rel =>
            show SRel2 _ _ _ _ _ _
            rw [Sm.s0_int w1, Sm.s1_int w14]
            have ej := HJ.out
            have e0 : j - 16 = k := by omega
            have e1 : j - 15 = k + 1 := by omega
            have e9 : j - 7 = k + 9 := by omega
            have e14 : j - 2 = k + 14 := by omega
            have ev : (((x0 : Nat) : Int) + (Sm.s0 x1 : Nat) + (x9 : Nat) + (Sm.s1 x14 : Nat)) % 4294967296 = (((x0 + Sm.s0 x1 + x9 + Sm.s1 x14) % 4294967296 : Nat) : Int) := by omega
            rw [ev]
            refine ⟨k + 1, by omega, by rw [ej]; go_num, ?_⟩
            have e : Sm.more (Sm.words B 16) (k + 1) ++ zeros (48 - (k + 1)) = l ++ ((x0 + Sm.s0 x1 + x9 + Sm.s1 x14) % 4294967296) :: zeros (48 - (k + 1)) := by
              rw [Sm.more, ← HL.out, X0.out, X1.out, X9.out, X14.out, e0, e1, e9, e14, List.append_assoc]; rfl
            rw [e]
            refine (SFacts.store (y := 0) ?_ j (by rw [LL.out]; omega) _).drewN 1
            rw [show 48 - (k + 1) = 48 - k - 1 from by omega, ← zeros_succ (by omega)]
            exact HS5.out
          case measure => simp [intOf]; omega
        · obtain rfl : k = 48 := by omega
          obtain ⟨C, hC, hC6⟩ := HS2.out.res
          have hrow : wr.heap[w.heap.size + 1]? = some (.cells (u32s (Sm.sched B)) 113 (0, 0)) := by
            have := HS2.out.row
            rw [show zeros (48 - 48) = [] from rfl, List.append_nil] at this
            exact this
          have HC := Lib.hid hC
          have HC6 := Lib.hid hC6
          have HR := Lib.hid hrow
          clear hC hC6 hrow
          go_wp2_with (first | (refine wpList_load_row (by rfl) 113 _ (by rfl) (w.heap.size + 1) (by rfl) 113 _ (0, 0) _ HR.out A62 (by rfl) (by rw [sched_size]; exact S62) ?_) | (refine wpList_store_row (by rfl) 113 _ _ (by rfl) (w.heap.size) (u32s (Sm.sched B)) (by rfl) (by rfl) _ _ HC.out (by rw [sched_size]; exact S62) (by rw [sched_size]; exact HC6.out) (u32s_one _) ?_))
          refine ret_row 2 (by kernel_rfl) w.heap.size _ _ A62 S62 rfl (setRow_heap _ _ _ _ _ _ HC.out) (sched_size B) ⟨rfl, ?_⟩
          exact Below.setRow HS2.out.below (Nat.le_refl _) _
end Go.Proofs.Ytlmbicelngpgoaa

/- The contract of sha.roundWords: the 64 words of the rounds. -/
namespace Go.Proofs.Ytlmbicelngpgoaa
open Go.RowKit
theorem ks_one : (u32s Sm.ks).all (·.oneCell') = true := by kernel_rfl
set_option maxRecDepth 100000 in
set_option maxHeartbeats 1000000 in
theorem roundWords_any (w : World) :
    Calls Try.prog 65 #[] w fun e w' => e = .returned (.agg (u32s Sm.ks)) ∧ Below w.heap.size w w' := by
  go_enter Try.func65, Try.ntmps65
  go_wp2_with (refine wpList_store_row (by rfl) 113 _ _ (by rfl) w.heap.size (u32s Sm.ks) (by rfl) (by as_aux_lemma => kernel_rfl) _ _ (heap_alloc_new w _) S62 (by rfl) ks_one ?_; rw [setRow_alloc])
  exact ret_row 0 (by kernel_rfl) w.heap.size _ _ A62 S62 rfl (heap_alloc_new w _) rfl ⟨rfl, (Below.refl _ _).alloc (Nat.le_refl _) _⟩
end Go.Proofs.Ytlmbicelngpgoaa

/- The contract of sha.turnAll: eight words turned by block after block. -/
namespace Go.Proofs.Ytlmbicelngpgoaa
open Go.RowKit

theorem Bytes.drop64 {w : World} {g o ln cp : Nat} {B : List Nat} (h : Bytes w (some ⟨g, o, none⟩) ln cp B) (hl : 64 ≤ ln) : Bytes w (some ⟨g, o + 64, none⟩) (ln - 64) (cp - 64) (B.drop 64) := by
  have := h.size
  have := h.le
  refine ⟨by simp; omega, by omega, Sm.allB_drop h.ok 64, Or.inr ⟨g, o + 64, rfl, ?_⟩⟩
  have hB : B ≠ [] := by rintro rfl; have := h.size; simp at this; omega
  obtain ⟨g', o', hp, hx⟩ := h.ne hB
  obtain ⟨rfl, rfl⟩ : g = g' ∧ o = o' := by simpa using hp
  exact hx.drop 64
structure TA (w wr : World) (v : Sm.V8) (gk : Nat) : Prop where
  below : Below w.heap.size w wr
  box : wr.heap[w.heap.size]? = some (.cells (u32s v.list) 85 (0, 0))
  res : ∃ C, wr.heap[w.heap.size + 1]? = some (.cells C 85 (0, 0)) ∧ C.size = 8
  ks : wr.heap[gk]? = some (.cells (u32s Sm.ks) 113 (0, 0))
  gk : w.heap.size + 1 < gk
theorem TA.later {w wr w' : World} {v : Sm.V8} {gk : Nat} (h : TA w wr v gk) (hb : Below wr.heap.size wr w') : TA w w' v gk := by
  obtain ⟨C, hC, h8⟩ := h.res
  have l0 := (Array.getElem?_eq_some_iff.1 h.box).1
  have l1 := (Array.getElem?_eq_some_iff.1 hC).1
  have l2 := (Array.getElem?_eq_some_iff.1 h.ks).1
  exact ⟨h.below.trans (hb.mono h.below.size), (hb.block _ l0).trans h.box, ⟨C, (hb.block _ l1).trans hC, h8⟩, (hb.block _ l2).trans h.ks, h.gk⟩
theorem TA.set {w wr : World} {v : Sm.V8} {gk : Nat} (h : TA w wr v gk) (u : Sm.V8) : TA w (wr.setRow w.heap.size (u32s u.list)) u gk := by
  obtain ⟨C, hC, h8⟩ := h.res
  have := h.gk
  exact ⟨Below.setRow h.below (Nat.le_refl _) _, setRow_heap _ _ _ _ _ _ h.box, ⟨C, (setRow_other _ _ _ _ (by omega)).trans hC, h8⟩, (setRow_other _ _ _ _ (by omega)).trans h.ks, h.gk⟩
theorem TA.start (w w1 : World) (v : Sm.V8) (C : Array Value) (h8 : C.size = 8) (hb : Below ((w.alloc (.cells (u32s v.list) 85)).alloc (.cells C 85)).heap.size ((w.alloc (.cells (u32s v.list) 85)).alloc (.cells C 85)) w1) :
    TA w (w1.alloc (.cells (u32s Sm.ks) 113)) v w1.heap.size := by
  have hs : ((w.alloc (.cells (u32s v.list) 85)).alloc (.cells C 85)).heap.size = w.heap.size + 2 := by simp
  have hl := hb.size
  rw [hs] at hl hb
  have h0 : Below w.heap.size w w1 := (((Below.refl w.heap.size w).alloc (Nat.le_refl _) _).alloc (by simp) _).trans (hb.mono (by omega))
  refine ⟨h0.alloc h0.size _, ?_, ⟨C, ?_, h8⟩, heap_alloc_new _ _, by omega⟩
  · rw [Below.heap_alloc _ _ _ (by omega), hb.block _ (by omega)]; exact heap_alloc2_old w _ _
  · rw [Below.heap_alloc _ _ _ (by omega), hb.block _ (by omega)]; exact heap_alloc2_new w _ _
theorem size8 (v : Sm.V8) : (u32s v.list).size = 8 := rfl
def AllRel (w : World) (_p : Option Addr) (B : List Nat) (v : Sm.V8) (gk : Nat) (s : Value) (wr : World) : Prop :=
  ∃ n q len cap, 64 * n ≤ B.length ∧ s = .slice q len cap ∧ TA w wr (Sm.blocks B v n) gk ∧ Bytes w q len cap (B.drop (64 * n))
set_option maxRecDepth 100000 in
set_option maxHeartbeats 1000000 in
theorem all_any (v : Sm.V8) (hv : v.ok) (B : List Nat) (p : Option Addr) (len cap : Nat) (w : World) (hB : Bytes w p len cap B) (hm : B.length % 64 = 0) :
    Calls Try.prog 51 #[.agg (u32s v.list), .slice p len cap] w fun e w' => e = .returned (.agg (u32s (Sm.blocks B v (B.length / 64)).list)) ∧ Below w.heap.size w w' := by
  obtain ⟨a, b, c, d, e, f, g, h⟩ := v
  have HV := Lib.hid hv
  have HB := Lib.hid hB
  have HM := Lib.hid hm
  clear hv hB hm
  have hz := (zero_of_info Z62).1
  show Calls Try.prog 51 #[.agg #[.int .u32 a, .int .u32 b, .int .u32 c, .int .u32 d, .int .u32 e, .int .u32 f, .int .u32 g, .int .u32 h], .slice p len cap] w _
  go_enter Try.func51, Try.ntmps51
  go_wp2_with fail
  refine (roundWords_any _).mono ?_
  rintro _ w1 ⟨rfl, hb1⟩
  have HB1 := Lib.hid hb1
  clear hb1
  go_wp2_with (refine wpList_store_row (by rfl) 113 _ _ (by rfl) w1.heap.size (u32s Sm.ks) (by rfl) (by rfl) _ _ (heap_alloc_new _ _) S62 (by simp [u32s, zeros]; rfl) ks_one ?_; rw [setRow_alloc])
  generalize hWB : w1.alloc (.cells (u32s Sm.ks) 113) = WB
  have hTA : TA w WB ⟨a, b, c, d, e, f, g, h⟩ w1.heap.size := by
    subst hWB
    exact TA.start w w1 _ _ rfl HB1.out
  have HT := Lib.hid hTA
  clear hTA hWB HB1
  go_simp
  generalize w1.heap.size = gk at *
  go_loopw [1] (fun s wr => AllRel w p B ⟨a, b, c, d, e, f, g, h⟩ gk s wr) (fun s _ => lenOf s)
  case atStart => exact ⟨0, p, len, cap, by omega, rfl, HT.out, by simpa using HB.out⟩
  case round =>
    obtain ⟨n, q, ln, cp, hn, rfl, hT, hb⟩ := hrel
    obtain ⟨V, hV⟩ : ∃ V, V = Sm.blocks B ⟨a, b, c, d, e, f, g, h⟩ n := ⟨_, rfl⟩
    rw [← hV] at hT
    have hok : V.ok := by rw [hV]; exact Sm.blocks_ok HV.out n
    obtain ⟨X, hX⟩ : ∃ X, X = B.drop (64 * n) := ⟨_, rfl⟩
    rw [← hX] at hb
    have hXl : X.length = B.length - 64 * n := by rw [hX]; simp
    have hm := HM.out
    have hsz := hb.size
    have hle := hb.le
    have HVV := Lib.hid hV
    have HX := Lib.hid hX
    have HO := Lib.hid hok
    have HT1 := Lib.hid hT
    have HB1 := Lib.hid hb
    have HS := Lib.hid hsz
    have HXL := Lib.hid hXl
    by_cases h0 : ln = 0
    · have hX0 : X = [] := List.length_eq_zero_iff.1 (by omega)
      have hdiv : B.length / 64 = n := by omega
      have HD := Lib.hid hdiv
      obtain ⟨C, hC, hC8⟩ := hT.res
      have HC := Lib.hid hC
      have HC8 := Lib.hid hC8
      clear hV hX hok hT hb hXl hm hsz hle hX0 hdiv hC hC8
      subst h0
      go_wp2_with (first | (refine wpList_load_row (by rfl) 85 _ (by rfl) w.heap.size (by rfl) 85 _ (0, 0) _ HT1.out.box A32 (by rfl) (by exact S32) ?_) | (refine wpList_store_row (by rfl) 85 _ _ (by rfl) (w.heap.size + 1) (u32s V.list) (by rfl) (by rfl) _ _ HC.out (by exact S32) (by exact HC8.out) (u32s_one _) ?_))
      refine ret_row 4 (by kernel_rfl) (w.heap.size + 1) _ _ A32 S32 rfl (setRow_heap _ _ _ _ _ _ HC.out) rfl ⟨?_, ?_⟩
      · rw [HD.out, ← HVV.out]
      · exact Below.setRow HT1.out.below (by omega) _
    · have h64 : 64 ≤ ln := by omega
      have hX1 : X ≠ [] := by
        intro e
        have := congrArg List.length e
        simp only [List.length_nil] at this
        omega
      have hbw : Bytes wr q ln cp X := hb.later hT.below hb.lt
      obtain ⟨gb, ob, rfl, hx⟩ := hbw.ne hX1
      have HXX := Lib.hid hx
      have hlt : gb < w.heap.size := hb.lt gb ob rfl hX1
      have hcp : 64 ≤ cp := by omega
      clear hV hX hok hT hb hXl hm hsz hx hX1 hbw
      have hz := (zero_of_info Z62).1
      rcases Nat.lt_or_eq_of_le hcp with hcc | hcc
      · go_wp2_with fail
        refine (sched_any X HB1.out.ok (by have := HS.out; omega) gb ob cp (by omega) wr HXX.out).mono ?_
        rintro _ w2 ⟨rfl, hb2⟩
        have hTw : TA w (w2.alloc (.cells (u32s (Sm.sched X)) 113)) V gk := (HT1.out.later hb2).later ((Below.refl _ _).alloc (Nat.le_refl _) _)
        have HT2 := Lib.hid hTw
        have HB2 := Lib.hid hb2
        clear hTw hb2
        go_wp2_with (first | (refine wpList_store_row (by rfl) 113 _ _ (by rfl) w2.heap.size (u32s (Sm.sched X)) (by rfl) (by rfl) _ _ (heap_alloc_new _ _) (by rw [sched_size]; exact S62) (by rw [sched_size]; simp [u32s, zeros]) (u32s_one _) ?_; rw [setRow_alloc]) | (refine wpList_load_row (by rfl) 85 _ (by rfl) w.heap.size (by rfl) 85 _ (0, 0) _ HT2.out.box A32 (by rfl) (by exact S32) ?_))
        refine (turn_any V HO.out (Sm.sched X) Sm.ks (Sm.sched_ok HB1.out.ok) Sm.ks_ok (Sm.length_sched X) rfl w2.heap.size gk _ (heap_alloc_new _ _) HT2.out.ks).mono ?_
        rintro _ w4 ⟨rfl, hb4⟩
        have hT4 := HT2.out.later hb4
        have HT4 := Lib.hid hT4
        clear hT4 hb4
        go_wp2_with (refine wpList_store_row (by rfl) 85 _ _ (by rfl) w.heap.size (u32s (Sm.turn Sm.ks (Sm.sched X) V).list) (by rfl) (by rfl) _ _ HT4.out.box (by rw [size8]; exact S32) (by rw [size8, size8]) (u32s_one _) ?_)
        go_roundw
        case rel =>
          refine ⟨n + 1, _, _, _, by have := HXL.out; have := HS.out; omega, rfl, ?_, ?_⟩
          · rw [Sm.blocks, ← HVV.out, ← HX.out]; exact HT4.out.set _
          · have e : B.drop (64 * (n + 1)) = X.drop 64 := by rw [HX.out, List.drop_drop]; congr 1
            rw [e]
            exact HB1.out.drop64 (by omega)
        case measure => simp [lenOf]; omega
      · subst hcc
        obtain rfl : ln = 64 := by omega
        go_wp2_with fail
        refine (sched_any X HB1.out.ok (by have := HS.out; omega) gb ob 64 (by omega) wr HXX.out).mono ?_
        rintro _ w2 ⟨rfl, hb2⟩
        have hTw : TA w (w2.alloc (.cells (u32s (Sm.sched X)) 113)) V gk := (HT1.out.later hb2).later ((Below.refl _ _).alloc (Nat.le_refl _) _)
        have HT2 := Lib.hid hTw
        have HB2 := Lib.hid hb2
        clear hTw hb2
        go_wp2_with (first | (refine wpList_store_row (by rfl) 113 _ _ (by rfl) w2.heap.size (u32s (Sm.sched X)) (by rfl) (by rfl) _ _ (heap_alloc_new _ _) (by rw [sched_size]; exact S62) (by rw [sched_size]; simp [u32s, zeros]) (u32s_one _) ?_; rw [setRow_alloc]) | (refine wpList_load_row (by rfl) 85 _ (by rfl) w.heap.size (by rfl) 85 _ (0, 0) _ HT2.out.box A32 (by rfl) (by exact S32) ?_))
        refine (turn_any V HO.out (Sm.sched X) Sm.ks (Sm.sched_ok HB1.out.ok) Sm.ks_ok (Sm.length_sched X) rfl w2.heap.size gk _ (heap_alloc_new _ _) HT2.out.ks).mono ?_
        rintro _ w4 ⟨rfl, hb4⟩
        have hT4 := HT2.out.later hb4
        have HT4 := Lib.hid hT4
        clear hT4 hb4
        go_wp2_with (refine wpList_store_row (by rfl) 85 _ _ (by rfl) w.heap.size (u32s (Sm.turn Sm.ks (Sm.sched X) V).list) (by rfl) (by rfl) _ _ HT4.out.box (by rw [size8]; exact S32) (by rw [size8, size8]) (u32s_one _) ?_)
        go_roundw
        case rel =>
          refine ⟨n + 1, _, _, _, by have := HXL.out; have := HS.out; omega, rfl, ?_, ?_⟩
          · rw [Sm.blocks, ← HVV.out, ← HX.out]; exact HT4.out.set _
          · have e : B.drop (64 * (n + 1)) = X.drop 64 := by rw [HX.out, List.drop_drop]; congr 1
            rw [e]
            have e2 : X.drop 64 = [] := List.drop_eq_nil_of_le (by have := HS.out; omega)
            rw [e2]
            exact ⟨rfl, by omega, fun x hx => by simp at hx, Or.inr ⟨gb, ob, rfl, fun i hi => by simp at hi⟩⟩
        case measure => simp [lenOf]
end Go.Proofs.Ytlmbicelngpgoaa

/- The contracts of sha.bigEnd and sha.bytesOf. -/
namespace Go.Proofs.Ytlmbicelngpgoaa
open Go.RowKit

theorem A59 : Try.prog.underlying 90 = some (.array 8 5) := by kernel_rfl
theorem Z59 : (Try.prog.info? 90).map (fun i => (i.zero, i.size)) = some (some (.agg (u8s (zeros 8))), 8) := by kernel_rfl
theorem S59 : (Try.prog.info? 90).map (·.size) = some 8 := by kernel_rfl
/-- Two arrays of bytes that a call made: the one that it tells, and the one that it fills. -/
structure BF (T : TypeId) (N : Nat) (w wr : World) (r g : Nat) (L : List Nat) : Prop where
  below : Below w.heap.size w wr
  res : ∃ C, wr.heap[r]? = some (.cells C T (0, 0)) ∧ C.size = N
  row : wr.heap[g]? = some (.cells (u8s L) T (0, 0))
  lr : w.heap.size ≤ r
  lg : w.heap.size ≤ g
  ne : r ≠ g
theorem BF.store {T : TypeId} {N : Nat} {w wr : World} {r g : Nat} {p q : List Nat} {y : Nat} (h : BF T N w wr r g (p ++ y :: q)) (k : Nat) (hk : p.length = k) (x : Nat) :
    BF T N w (wr.setCell ⟨g, k, none⟩ (.int .u8 (x : Nat))) r g (p ++ x :: q) := by
  obtain ⟨C, hC, hC6⟩ := h.res
  refine ⟨h.below.setCell h.lg _, ⟨C, ?_, hC6⟩, ?_, h.lr, h.lg, h.ne⟩
  · rw [heap_setCell_other _ _ _ _ h.ne]; exact hC
  · rw [heap_setCell_same _ _ _ _ _ _ h.row, u8s_set p q y x k hk]
def bigsTo (n : Nat) : Nat → List Nat
  | 0 => []
  | k + 1 => bigsTo n k ++ [Sm.big n k]
theorem bigsTo_length (n k : Nat) : (bigsTo n k).length = k := by
  induction k with
  | zero => rfl
  | succ k ih => simp [bigsTo, ih]
def BigRel (w : World) (r g n : Nat) (i : Value) (wr : World) : Prop :=
  ∃ k : Nat, k ≤ 8 ∧ i = .int .i64 k ∧ BF 90 8 w wr r g (bigsTo n k ++ zeros (8 - k))
set_option maxRecDepth 100000 in
set_option maxHeartbeats 1000000 in
theorem bigEnd_any (n : Nat) (_hn : n < 18446744073709551616) (w : World) :
    Calls Try.prog 44 #[.int .u64 n] w fun e w' => e = .returned (.agg (u8s (Sm.bigs n))) ∧ Below w.heap.size w w' := by
  have hz := (zero_of_info Z59).1
  go_enter Try.func44, Try.ntmps44
  go_wp2_with fail
  generalize hWB : (w.alloc (.cells (u8s (zeros 8)) 90)).alloc (.cells (u8s (zeros 8)) 90) = WB
  have FB : BF 90 8 w WB w.heap.size (w.heap.size + 1) (zeros 8) := by
    subst hWB
    exact ⟨((Below.refl _ _).alloc (Nat.le_refl _) _).alloc (by simp) _, ⟨_, heap_alloc2_old w _ _, by simp [u8s, zeros]⟩, heap_alloc2_new w _ _, by omega, by omega, by omega⟩
  have FF := Lib.hid FB
  clear FB hWB hz
  go_loopw [5] (fun i wr => BigRel w w.heap.size (w.heap.size + 1) n i wr) (fun i _ => 8 - (intOf i).toNat)
  case atStart => exact ⟨0, by omega, rfl, FF.out⟩
  case round =>
    obtain ⟨k, hk, rfl, hs⟩ := hrel
    have HS := Lib.hid hs
    clear hs FF
    by_cases hlt : k < 8
    · have hst : wr.cell? ⟨w.heap.size + 1, k, none⟩ = some (.int .u8 ((bigsTo n k ++ zeros (8 - k)).getD k 0 : Nat)) := u8s_cell HS.out.row k (by simp [bigsTo_length, zeros]; omega)
      have hfr : wr.frozen? ⟨w.heap.size + 1, k, none⟩ = false := frozen_of_row wr _ k _ _ HS.out.row
      have HI : (0 : Int) ≤ 8 * (7 - k) ∧ 8 * (7 - (k : Int)) ≤ 64 := by omega
      go_wp2_with fail
      go_roundw
      case rel =>
        show BigRel _ _ _ _ _ _
        rw [show (n : Int) / 2 ^ (8 * (7 - k)) % 256 = ((Sm.big n k : Nat) : Int) from by
          unfold Sm.big; rw [Int.natCast_emod, Int.natCast_ediv, Int.natCast_pow]; rfl]
        refine ⟨k + 1, by omega, by go_num, ?_⟩
        have e : bigsTo n (k + 1) ++ zeros (8 - (k + 1)) = bigsTo n k ++ Sm.big n k :: zeros (8 - (k + 1)) := by
          rw [bigsTo, List.append_assoc]; rfl
        rw [e]
        refine BF.store (y := 0) ?_ k (bigsTo_length n k) _
        rw [show 8 - (k + 1) = 8 - k - 1 from by omega, ← zeros_succ (by omega)]
        exact HS.out
      case measure => simp [intOf]; omega
    · obtain rfl : k = 8 := by omega
      obtain ⟨C, hC, hC8⟩ := HS.out.res
      have HC := Lib.hid hC
      have HC8 := Lib.hid hC8
      clear hC hC8
      have hrow : wr.heap[w.heap.size + 1]? = some (.cells (u8s (Sm.bigs n)) 90 (0, 0)) := HS.out.row
      have HR := Lib.hid hrow
      clear hrow
      go_wp2_with (first | (refine wpList_load_row (by rfl) 90 _ (by rfl) (w.heap.size + 1) (by rfl) 90 _ (0, 0) _ HR.out A59 (by rfl) (by exact S59) ?_) | (refine wpList_store_row (by rfl) 90 _ _ (by rfl) w.heap.size (u8s (Sm.bigs n)) (by rfl) (by rfl) _ _ HC.out (by exact S59) (by exact HC8.out) (u8s_one _) ?_))
      refine ret_row 2 (by kernel_rfl) w.heap.size _ _ A59 S59 rfl (setRow_heap _ _ _ _ _ _ HC.out) rfl ⟨rfl, ?_⟩
      exact Below.setRow HS.out.below (Nat.le_refl _) _
theorem U31 : Try.prog.underlying 84 = some (.int .u32) := by kernel_rfl
theorem S31 : (Try.prog.info? 84).map (·.size) = some 1 := by kernel_rfl
def bytesTo (l : List Nat) : Nat → List Nat
  | 0 => []
  | k + 1 => bytesTo l k ++ Sm.bytes4 (l.getD k 0)
theorem bytesTo_length (l : List Nat) (k : Nat) : (bytesTo l k).length = 4 * k := by
  induction k with
  | zero => rfl
  | succ k ih => simp [bytesTo, ih, Sm.bytes4]; omega
def BOfRel (w : World) (r g : Nat) (l : List Nat) (i : Value) (wr : World) : Prop :=
  ∃ k : Nat, k ≤ 8 ∧ i = .int .i64 k ∧ BF 32 32 w wr r g (bytesTo l k ++ zeros (32 - 4 * k))
set_option maxRecDepth 100000 in
set_option maxHeartbeats 1000000 in
theorem bytesOf_any (v : Sm.V8) (hv : v.ok) (w : World) :
    Calls Try.prog 53 #[.agg (u32s v.list)] w fun e w' => e = .returned (.agg (u8s (Sm.bytesOf v))) ∧ Below w.heap.size w w' := by
  have hz := (zero_of_info Z25).1
  have HV := Lib.hid hv
  clear hv
  go_enter Try.func53, Try.ntmps53
  go_wp2_with (refine wpList_load_row (by rfl) 85 _ (by rfl) w.heap.size (by rfl) 85 _ (0, 0) _ ((Below.heap_alloc _ _ _ (by simp; omega)).trans (heap_alloc2_old w _ _)) A32 (by rfl) (by exact S32) ?_)
  generalize hWB : ((w.alloc (.cells (u32s v.list) 85)).alloc (.cells (u8s (zeros 32)) 32)).alloc (.cells (u8s (zeros 32)) 32) = WB
  have FB : BF 32 32 w WB (w.heap.size + 1) (w.heap.size + 2) (zeros 32) := by
    subst hWB
    refine ⟨(((Below.refl _ _).alloc (Nat.le_refl _) _).alloc (by simp) _).alloc (by simp; omega) _, ⟨_, (Below.heap_alloc _ _ _ (by simp)).trans (heap_alloc2_new w _ _), by simp [u8s, zeros]⟩, ?_, by omega, by omega, by omega⟩
    have := heap_alloc_new ((w.alloc (.cells (u32s v.list) 85)).alloc (.cells (u8s (zeros 32)) 32)) (.cells (u8s (zeros 32)) 32)
    rw [show ((w.alloc (.cells (u32s v.list) 85)).alloc (.cells (u8s (zeros 32)) 32)).heap.size = w.heap.size + 2 from by simp] at this
    exact this
  have FF := Lib.hid FB
  clear FB hWB hz
  go_simp
  go_loopw [7] (fun i wr => BOfRel w (w.heap.size + 1) (w.heap.size + 2) v.list i wr) (fun i _ => 8 - (intOf i).toNat)
  case atStart => exact ⟨0, by omega, rfl, FF.out⟩
  case round =>
    obtain ⟨k, hk, rfl, hs⟩ := hrel
    have HS := Lib.hid hs
    clear hs FF
    by_cases hlt : k < 8
    · have hix := fun w' => run_index_array A32 U31 rfl S31 (u32s v.list) k hlt _ (u32s_get v.list k (by simpa [Sm.V8.list] using hlt)) w'
      obtain ⟨x, hx⟩ : ∃ x, x = v.list.getD k 0 := ⟨_, rfl⟩
      rw [← hx] at hix
      have HX := Lib.hid hx
      clear hx
      have cl : ∀ i, i < 32 → wr.cell? ⟨w.heap.size + 2, i, none⟩ = some (.int .u8 ((bytesTo v.list k ++ zeros (32 - 4 * k)).getD i 0 : Nat)) := fun i hi => u8s_cell HS.out.row i (by simp [bytesTo_length, zeros]; omega)
      have fr : ∀ i, wr.frozen? ⟨w.heap.size + 2, i, none⟩ = false := fun i => frozen_of_row wr _ i _ _ HS.out.row
      have c0 := cl (4 * k) (by omega)
      have c1 := cl (4 * k + 1) (by omega)
      have c2 := cl (4 * k + 2) (by omega)
      have c3 := cl (4 * k + 3) (by omega)
      have f0 := fr (4 * k)
      have f1 := fr (4 * k + 1)
      have f2 := fr (4 * k + 2)
      have f3 := fr (4 * k + 3)
      clear cl fr
      go_wp2_with fail
      go_roundw
      case rel =>
        show BOfRel _ _ _ _ _ _
        have e0 : (x : Int) / 16777216 % 256 = ((x / 16777216 % 256 : Nat) : Int) := by omega
        have e1 : (x : Int) / 65536 % 256 = ((x / 65536 % 256 : Nat) : Int) := by omega
        have e2 : (x : Int) / 256 % 256 = ((x / 256 % 256 : Nat) : Int) := by omega
        have e3 : (x : Int) % 256 = ((x % 256 : Nat) : Int) := by omega
        rw [e0, e1, e2, e3]
        refine ⟨k + 1, by omega, by go_num, ?_⟩
        have e : bytesTo v.list (k + 1) ++ zeros (32 - 4 * (k + 1)) = (((bytesTo v.list k ++ [x / 16777216 % 256]) ++ [x / 65536 % 256]) ++ [x / 256 % 256]) ++ x % 256 :: zeros (32 - 4 * (k + 1)) := by
          rw [bytesTo, ← HX.out]; simp [Sm.bytes4]
        have hl := bytesTo_length v.list k
        rw [e]
        refine BF.store (y := 0) ?_ (4 * k + 3) (by simp [hl]) _
        rw [List.append_assoc]
        refine BF.store (y := 0) ?_ (4 * k + 2) (by simp [hl]) _
        rw [List.append_assoc]
        refine BF.store (y := 0) ?_ (4 * k + 1) (by simp [hl]) _
        rw [List.append_assoc]
        refine BF.store (y := 0) ?_ (4 * k) hl _
        have hz4 : (0 :: ([0] ++ (0 :: ([0] ++ zeros (32 - 4 * (k + 1)))))) = zeros (32 - 4 * k) := by
          rw [show 32 - 4 * k = (32 - 4 * (k + 1)) + 4 from by omega]; rfl
        first
          | (rw [show ∀ A : List Nat, A ++ 0 :: ([0] ++ 0 :: ([0] ++ zeros (32 - 4 * (k + 1)))) = A ++ zeros (32 - 4 * k) from fun A => by rw [← hz4]]; exact HS.out)
          | (have := HS.out; rw [← hz4] at this; simpa using this)
      case measure => simp [intOf]; omega
    · obtain rfl : k = 8 := by omega
      obtain ⟨C, hC, hC8⟩ := HS.out.res
      have HC := Lib.hid hC
      have HC8 := Lib.hid hC8
      clear hC hC8
      have hrow : wr.heap[w.heap.size + 2]? = some (.cells (u8s (Sm.bytesOf v)) 32 (0, 0)) := HS.out.row
      have HR := Lib.hid hrow
      clear hrow
      go_wp2_with (first | (refine wpList_load_row (by rfl) 32 _ (by rfl) (w.heap.size + 2) (by rfl) 32 _ (0, 0) _ HR.out A25 (by rfl) (by exact S25) ?_) | (refine wpList_store_row (by rfl) 32 _ _ (by rfl) (w.heap.size + 1) (u8s (Sm.bytesOf v)) (by rfl) (by rfl) _ _ HC.out (by exact S25) (by exact HC8.out) (u8s_one _) ?_))
      refine ret_row 2 (by kernel_rfl) (w.heap.size + 1) _ _ A25 S25 rfl (setRow_heap _ _ _ _ _ _ HC.out) rfl ⟨rfl, ?_⟩
      exact Below.setRow HS.out.below (by omega) _
end Go.Proofs.Ytlmbicelngpgoaa

/- The contract of sha.filling. -/
namespace Go.Proofs.Ytlmbicelngpgoaa
open Go.RowKit

theorem make_bytes (Z : Nat) (h : Z < 64) (w : World) : (Instr.makeSlice 27 (.int .u64 (1 + (Z : Nat))) (.int .u64 (1 + (Z : Nat) + 8))).run Try.prog w = .ok (.slice (some ⟨w.heap.size, 0, none⟩) (1 + Z) (1 + Z + 8)) (w.alloc (.cells (u8s (zeros (1 + Z + 8))) 5)) := by
  obtain ⟨i5, hi, hi0, hi1, hi2⟩ := info_parts I5
  have := run_make (P := Try.prog) w 27 5 i5 _ A22 hi hi0 .u64 .u64 (1 + (Z : Nat)) (1 + (Z : Nat) + 8) (by omega) (by omega) (by rw [hi2]; omega) (by omega)
  rw [this, hi1, made_zeros]
  have e1 : (1 + (Z : Int)).toNat = 1 + Z := by omega
  have e2 : (1 + (Z : Int) + 8).toNat = 1 + Z + 8 := by omega
  rw [e1, e2, Nat.mul_one]
theorem fill_ok (n : Nat) : Sm.allB (Sm.fill n) := by
  intro x hx
  simp only [Sm.fill, Sm.bigs, List.mem_cons, List.mem_append, List.mem_replicate, List.not_mem_nil, or_false] at hx
  rcases hx with rfl | ⟨_, rfl⟩ | rfl | rfl | rfl | rfl | rfl | rfl | rfl | rfl <;> first | omega | exact Sm.big_lt _ _
set_option maxRecDepth 100000 in
set_option maxHeartbeats 1000000 in
theorem filling_any (L : Nat) (hL : L < 1152921504606846976) (w : World) :
    Calls Try.prog 52 #[.int .u64 L] w fun e w' => ∃ len cap, e = .returned (.slice (some ⟨w.heap.size, 0, none⟩) len cap) ∧ Bytes w' (some ⟨w.heap.size, 0, none⟩) len cap (Sm.fill L) ∧ Below w.heap.size w w' := by
  obtain ⟨Z, hZ⟩ : ∃ Z, Z = (119 - L % 64) % 64 := ⟨_, rfl⟩
  have hZl : Z < 64 := by omega
  have hz1 : (119 - (L : Int) % 64) % 64 = (Z : Int) := by omega
  have hz2 : (119 - (L : Int)) % 64 = (Z : Int) := by omega
  have HZ := Lib.hid hZ
  clear hZ
  obtain ⟨i5, hi, hi0, hi1, hi2⟩ := info_parts I5
  have hmk := make_bytes Z hZl
  have HI := Lib.hid hi
  have HI0 := Lib.hid hi0
  have HI1 := Lib.hid hi1
  have HI2 := Lib.hid hi2
  clear hi hi0 hi1 hi2
  have hb0 : Below w.heap.size w (w.alloc (.cells (u8s (zeros (1 + Z + 8))) 5)) := (Below.refl _ _).alloc (Nat.le_refl _) _
  have hst : (w.alloc (.cells (u8s (zeros (1 + Z + 8))) 5)).cell? ⟨w.heap.size, 0, none⟩ = some (.int .u8 ((zeros (1 + Z + 8)).getD 0 0 : Nat)) := u8s_cell (heap_alloc_new _ _) 0 (by simp [zeros])
  have hfr : (w.alloc (.cells (u8s (zeros (1 + Z + 8))) 5)).frozen? ⟨w.heap.size, 0, none⟩ = false := frozen_of_row _ _ _ _ _ (heap_alloc_new _ _)
  go_enter Try.func52, Try.ntmps52
  go_wp2_with fail
  rw [show (8 * (L : Int)) = ((8 * L : Nat) : Int) from by omega]
  have e0 : (u8s (zeros (1 + Z + 8))).setIfInBounds 0 (.int .u8 128) = u8s (128 :: zeros (Z + 8)) := by
    have := u8s_set [] (zeros (Z + 8)) 0 128 0 rfl
    rw [show 1 + Z + 8 = (Z + 8) + 1 from by omega]
    exact this
  rw [e0]
  clear e0 hst hfr hb0 hmk hz1 hz2
  refine (bigEnd_any (8 * L) (by omega) _).mono ?_
  rintro _ w3 ⟨rfl, hb3⟩
  have hrow : w3.heap[w.heap.size]? = some (.cells (u8s (128 :: zeros (Z + 8))) 5 (0, 0)) := (hb3.block _ (by simp)).trans (heap_alloc_new _ _)
  have hbw : Below w.heap.size w w3 := ((Below.refl _ _).alloc (Nat.le_refl _) _).trans (hb3.mono (by simp))
  have hs3 : w.heap.size < w3.heap.size := (Array.getElem?_eq_some_iff.1 hrow).1
  have hown : (w3.alloc (.cells (u8s (Sm.bigs (8 * L))) 90)).ownsRow w.heap.size 5 1 (.slice (some ⟨w.heap.size, 0, none⟩) (1 + Z) (1 + Z + 8)) (1 + Z) (vals ((128 :: zeros (Z + 8)).take (1 + Z))) :=
    owns_mk ((Below.heap_alloc _ _ _ hs3).trans hrow) (by simp [zeros]; omega) (by omega) (by unfold maxLen; omega) (Nat.le_refl _)
  have HOWN := Lib.hid hown
  have HBW := Lib.hid hbw
  have HN := Lib.hid (heap_alloc_new w3 (.cells (u8s (Sm.bigs (8 * L))) 90))
  clear hown hbw hb3 hrow
  have hz := (zero_of_info Z59).1
  go_wp2_with (first | (refine wpList_store_row (by rfl) 90 _ _ (by rfl) w3.heap.size (u8s (Sm.bigs (8 * L))) (by rfl) (by rfl) _ _ (heap_alloc_new _ _) (by exact S59) (by simp [u8s, zeros]; rfl) (u8s_one _) ?_; rw [setRow_alloc]) | (at_builtin; refine wpList_append_fits _ (by rfl) (.tmp 21) (.tmp 22) 27 (by rfl) w.heap.size 5 i5 1 A22 HI.out HI1.out w.heap.size (1 + Z) (1 + Z + 8) _ (by rfl) HOWN.out ⟨w3.heap.size, 0, none⟩ 8 8 (vals (Sm.bigs (8 * L))) (by rfl) (by rfl) (cells_of_row HN.out) (vals_one _) (by omega) ?_; intro w5 hown5 hgrow5))
  have e : vals ((128 :: zeros (Z + 8)).take (1 + Z)) ++ vals (Sm.bigs (8 * L)) = vals (Sm.fill L) := by
    rw [Sm.fill, ← HZ.out]
    have : (128 :: zeros (Z + 8)).take (1 + Z) = 128 :: zeros Z := by
      rw [show 1 + Z = Z + 1 from by omega, List.take_succ_cons]
      simp [zeros]
    rw [this]
    simp [vals, zeros]
  rw [e] at hown5
  go_ret
  exact ⟨_, _, rfl, Bytes.of_owns hown5 (fill_ok L), (HBW.out.alloc HBW.out.size _).grown hgrow5 (by have := HBW.out.size; simp; omega) (fun k hk => by simp at hk; omega)⟩
end Go.Proofs.Ytlmbicelngpgoaa

/- Rows of a struct's cells: parts of a row, a part put anew; and what a State holds. -/
namespace Go.Proofs.Ytlmbicelngpgoaa
open Go.RowKit

def w32 (l : List Nat) : List Value := l.map fun x => Value.int .u32 (x : Nat)
theorem w32_toArray (l : List Nat) : (w32 l).toArray = u32s l := rfl
/-- The cells of a State. -/
def stL (v : Sm.V8) (bl : List Nat) (L : Nat) : List Value := w32 v.list ++ vals bl ++ [.int .u64 (L : Nat)]
/-- A state to which the bytes T were written. -/
structure Held (T : List Nat) (v : Sm.V8) (bl : List Nat) : Prop where
  ok : Sm.allB T
  vok : v.ok
  lt : T.length < 1152921504606846976
  words : T ≠ [] → v = Sm.blocks T Sm.first (T.length / 64)
  size : bl.length = 64
  bok : Sm.allB bl
  block : bl.take (T.length % 64) = T.drop (64 * (T.length / 64))
def StateAt (w : World) (g : Nat) (T : List Nat) : Prop :=
  ∃ v bl, Held T v bl ∧ w.heap[g]? = some (.cells (stL v bl T.length).toArray 88 (0, 0))
end Go.Proofs.Ytlmbicelngpgoaa

/- More plain mathematics of SHA-256: blocks of a text that goes on. -/
namespace Go.Proofs.Ytlmbicelngpgoaa.Sm
theorem word_congr {X Y : List Nat} (h : ∀ i, i < 64 → X.getD i 0 = Y.getD i 0) (i : Nat) (hi : i < 16) : word X i = word Y i := by
  unfold word
  rw [h _ (by omega), h _ (by omega), h _ (by omega), h _ (by omega)]
theorem words_congr {X Y : List Nat} (h : ∀ i, i < 64 → X.getD i 0 = Y.getD i 0) (n : Nat) (hn : n ≤ 16) : words X n = words Y n := by
  induction n with
  | zero => rfl
  | succ n ih => rw [words, words, ih (by omega), word_congr h n (by omega)]
theorem sched_congr {X Y : List Nat} (h : ∀ i, i < 64 → X.getD i 0 = Y.getD i 0) : sched X = sched Y := by
  unfold sched
  rw [words_congr h 16 (by omega)]
/-- Only the bytes of the full blocks count. -/
theorem blocks_congr {X Y : List Nat} (v : V8) (n : Nat) (h : ∀ i, i < 64 * n → X.getD i 0 = Y.getD i 0) : blocks X v n = blocks Y v n := by
  induction n with
  | zero => rfl
  | succ n ih =>
    rw [blocks, blocks, ih (fun i hi => h i (by omega))]
    rw [sched_congr (X := X.drop (64 * n)) (Y := Y.drop (64 * n)) (fun i hi => by rw [getD_drop, getD_drop]; exact h _ (by omega))]
theorem blocks_take (B : List Nat) (v : V8) (n F : Nat) (h : 64 * n ≤ F) : blocks (B.take F) v n = blocks B v n :=
  blocks_congr v n fun i hi => getD_take B F i (by omega)
theorem blocks_app (T B : List Nat) (v : V8) (n : Nat) (h : 64 * n ≤ T.length) : blocks (T ++ B) v n = blocks T v n :=
  blocks_congr v n fun i hi => getD_app_left T B i (by omega)
theorem blocks_add (T B : List Nat) (v : V8) (q n : Nat) (h : T.length = 64 * q) : blocks (T ++ B) v (q + n) = blocks B (blocks T v q) n := by
  induction n with
  | zero => exact blocks_app T B v q (by omega)
  | succ n ih =>
    rw [show q + (n + 1) = (q + n) + 1 from rfl, blocks, ih, blocks]
    rw [show (T ++ B).drop (64 * (q + n)) = B.drop (64 * n) from by
      rw [show 64 * (q + n) = T.length + 64 * n from by omega, List.drop_append, List.drop_eq_nil_of_le (by omega)]
      simp]
end Go.Proofs.Ytlmbicelngpgoaa.Sm

/- The contract of State.Write. -/
namespace Go.Proofs.Ytlmbicelngpgoaa
open Go.RowKit

theorem A36 : (Try.prog.info? 88).map (·.size) = some 73 := by kernel_rfl
theorem u32_of_w32 (l : List Nat) : ∀ v ∈ w32 l, v.oneCell' = true := by
  intro u hu
  simp only [w32, List.mem_map] at hu
  obtain ⟨x, _, rfl⟩ := hu
  rfl
theorem stL_length (v : Sm.V8) (bl : List Nat) (L : Nat) (h : bl.length = 64) : (stL v bl L).length = 73 := by simp [stL, w32, vals, Sm.V8.list, h]
theorem st_words {w : World} {g : Nat} {v : Sm.V8} {bl : List Nat} {L : Nat} (hg : w.heap[g]? = some (.cells (stL v bl L).toArray 88 (0, 0))) : w.rangeAt g 0 (w32 v.list) :=
  rangeAt_row [] (w32 v.list) (vals bl ++ [.int .u64 (L : Nat)]) (by simpa [stL] using hg)
theorem st_there {w : World} {g : Nat} {v : Sm.V8} {bl : List Nat} {L : Nat} (hg : w.heap[g]? = some (.cells (stL v bl L).toArray 88 (0, 0))) (_h : bl.length = 64) : w.there g 0 8 :=
  there_row hg 0 8 (by simp [stL, w32, vals, Sm.V8.list])
theorem st_len {w : World} {g : Nat} {v : Sm.V8} {bl : List Nat} {L : Nat} (hg : w.heap[g]? = some (.cells (stL v bl L).toArray 88 (0, 0))) (h : bl.length = 64) : w.cell? ⟨g, 72, none⟩ = some (.int .u64 (L : Nat)) := by
  have := rangeAt_row (w32 v.list ++ vals bl) [.int .u64 (L : Nat)] [] (by simpa [stL] using hg) 0 _ rfl
  have e : (w32 v.list ++ vals bl).length = 72 := by simp [w32, vals, Sm.V8.list, h]
  rw [e] at this
  exact this
theorem st_set_len {w : World} {g : Nat} {v : Sm.V8} {bl : List Nat} {L : Nat} (hg : w.heap[g]? = some (.cells (stL v bl L).toArray 88 (0, 0))) (h : bl.length = 64) (L' : Nat) :
    (w.setCell ⟨g, 72, none⟩ (.int .u64 (L' : Nat))).heap[g]? = some (.cells (stL v bl L').toArray 88 (0, 0)) := by
  have e : (w32 v.list ++ vals bl).length = 72 := by simp [w32, vals, Sm.V8.list, h]
  have := heap_setCells_same g 88 [.int .u64 (L' : Nat)] (w32 v.list ++ vals bl) [.int .u64 (L : Nat)] [] w (by simpa [stL] using hg) rfl
  rw [e] at this
  simpa [World.setCells, stL] using this
theorem st_set_words {w : World} {g : Nat} {v : Sm.V8} {bl : List Nat} {L : Nat} (hg : w.heap[g]? = some (.cells (stL v bl L).toArray 88 (0, 0))) (u : Sm.V8) :
    (w.setCells g 0 (w32 u.list)).heap[g]? = some (.cells (stL u bl L).toArray 88 (0, 0)) := by
  have := heap_setCells_same g 88 (w32 u.list) [] (w32 v.list) (vals bl ++ [.int .u64 (L : Nat)]) w (by simpa [stL] using hg) rfl
  simpa [stL] using this
/-- A state in the middle of a Write: what lies in it, and the bytes that are still to come. -/
structure Mid (w W : World) (g : Nat) (v : Sm.V8) (bl : List Nat) (L : Nat) (p : Option Addr) (len cap : Nat) (B : List Nat) : Prop where
  row : W.heap[g]? = some (.cells (stL v bl L).toArray 88 (0, 0))
  size : bl.length = 64
  bytes : Bytes W p len cap B
  ne : B ≠ [] → ∀ a, p = some a → a.block ≠ g
  grown : w.grownBy W (some g)
theorem st_cell {w : World} {g : Nat} {v : Sm.V8} {bl : List Nat} {L : Nat} (hg : w.heap[g]? = some (.cells (stL v bl L).toArray 88 (0, 0))) (i : Nat) (hi : i < 8) : w.cell? ⟨g, i, none⟩ = some (.int .u32 (v.list.getD i 0 : Nat)) := by
  have := st_words hg i (.int .u32 (v.list.getD i 0 : Nat)) (by
    have h := u32s_get v.list i (by simpa [Sm.V8.list] using hi)
    rw [← w32_toArray] at h
    simpa using h)
  simpa using this
theorem Mid.later {w W W' : World} {g : Nat} {v : Sm.V8} {bl : List Nat} {L : Nat} {p : Option Addr} {len cap : Nat} {B : List Nat} (h : Mid w W g v bl L p len cap B) (hb : Below W.heap.size W W') : Mid w W' g v bl L p len cap B :=
  ⟨(hb.block _ (Array.getElem?_eq_some_iff.1 h.row).1).trans h.row, h.size, h.bytes.later hb h.bytes.lt, h.ne, grown_later h.grown hb⟩
theorem Mid.words {w W : World} {g : Nat} {v : Sm.V8} {bl : List Nat} {L : Nat} {p : Option Addr} {len cap : Nat} {B : List Nat} (h : Mid w W g v bl L p len cap B) (u : Sm.V8) : Mid w (W.setCells g 0 (w32 u.list)) g u bl L p len cap B :=
  ⟨st_set_words h.row u, h.size, h.bytes.grown ⟨(size_setCells g _ 0 W).2.1, (size_setCells g _ 0 W).2.2.1, (size_setCells g _ 0 W).2.2.2, by rw [(size_setCells g _ 0 W).1]; exact Nat.le_refl _, fun k _ hne => heap_setCells_other g _ 0 W k (by intro e; exact hne (by rw [e]))⟩ h.ne, h.ne, grown_setCells h.grown 0 _⟩
theorem st_store {W : World} {g : Nat} {v : Sm.V8} {bl : List Nat} {L : Nat} (hg : W.heap[g]? = some (.cells (stL v bl L).toArray 88 (0, 0))) (h : bl.length = 64) (u : Sm.V8) :
    (storeCells ⟨g, 0, none⟩ (u32s u.list).toList).run Try.prog W = .ok () (W.setCells g 0 (w32 u.list)) := by
  have ht := st_there hg h
  have := run_storeCells_cells (P := Try.prog) g 0 (w32 u.list) 0 W (fun j hj => by simpa using (ht j (by simpa [w32, Sm.V8.list] using hj)).1) (fun j hj => by simpa using (ht j (by simpa [w32, Sm.V8.list] using hj)).2) (u32_of_w32 u.list)
  exact this
/-- What is left of the bytes goes into the state's block. -/
theorem st_copy {w W : World} {g : Nat} {v : Sm.V8} {bl : List Nat} {L gb ob len cap : Nat} {B : List Nat} (h : Mid w W g v bl L (some ⟨gb, ob, none⟩) len cap B) (F : Nat) (hF : len - F ≤ 64) (_hc : F < cap) :
    (Builtin.copy_ #[27, 27] 3 #[.slice (some ⟨g, 8, none⟩) 64 64, .slice (some ⟨gb, ob + F, none⟩) (len - F) (cap - F)]).run Try.prog W.drew = .ok (goInt (len - F : Nat)) (W.drew.setCells g 8 (vals (B.drop F))) := by
  have hs := h.bytes.size
  have ht := there_row h.row 8 64 (by simp [stL, w32, vals, Sm.V8.list, h.size])
  have hl : (vals (B.drop F)).length = len - F := by simp [vals]; omega
  have hsrc : ∀ j u, (vals (B.drop F))[j]? = some u → W.drew.cell? ((⟨gb, ob + F, none⟩ : Addr).add j) = some u := fun j u hu => by
    have hj : j < (B.drop F).length := by have := (List.getElem?_eq_some_iff.1 hu).1; simpa [vals] using this
    obtain ⟨g', o', hp, hx⟩ := h.bytes.ne (by intro e; rw [e] at hj; simp at hj)
    obtain ⟨rfl, rfl⟩ : gb = g' ∧ ob = o' := by simpa using hp
    rw [vals_get _ _ hj] at hu
    rw [Addr.add_mid, World.cell?_drew, hx.drop F j hj, hu]
  have := run_copy_cells (P := Try.prog) W.drew 27 27 3 5 g 8 64 64 ⟨gb, ob + F, none⟩ (len - F) (cap - F) (vals (B.drop F)) A22 E5 (by rw [hl]; exact (Nat.min_eq_left hF).symm) hsrc
    (fun j hj => by have := (ht j (by omega)).1; simpa using this) (fun j hj => by have := (ht j (by omega)).2; simpa using this) (vals_one _)
  rw [hl] at this
  exact this
/-- What the words were ahead of the rest of the bytes: those behind the full blocks. -/
def Start (T : List Nat) (v : Sm.V8) : Prop := v.ok ∧ T.length % 64 = 0 ∧ v = Sm.blocks T Sm.first (T.length / 64)
theorem Held.next {T B bl : List Nat} {v U : Sm.V8} {len F : Nat} (hs : Start T v) (hT : Sm.allB T) (hB : Sm.allB B) (hl : (T ++ B).length < 1152921504606846976) (hlen : len = B.length) (hF : F = len - len % 64)
    (hU : U = Sm.blocks (B.take F) v ((B.take F).length / 64)) (hb : bl.length = 64) (hbo : Sm.allB bl) : Held (T ++ B) U (B.drop F ++ bl.drop (len - F)) := by
  obtain ⟨hv, hm, hw⟩ := hs
  have e1 : (B.take F).length / 64 = len / 64 := by simp; omega
  have hU2 : U = Sm.blocks B v (len / 64) := by rw [hU, e1]; exact Sm.blocks_take B v _ F (by omega)
  have hq : T.length = 64 * (T.length / 64) := by omega
  have hL : (T ++ B).length / 64 = T.length / 64 + len / 64 := by simp; omega
  refine ⟨?_, ?_, hl, fun _ => ?_, by simp [hb]; omega, ?_, ?_⟩
  · intro x hx
    rcases List.mem_append.1 hx with h | h
    · exact hT x h
    · exact hB x h
  · rw [hU]; exact Sm.blocks_ok hv _
  · rw [hL, Sm.blocks_add T B Sm.first _ _ hq, ← hw, hU2]
  · intro x hx
    rcases List.mem_append.1 hx with h | h
    · exact hB x (List.mem_of_mem_drop h)
    · exact hbo x (List.mem_of_mem_drop h)
  · have h1 : (T ++ B).length % 64 = (B.drop F).length := by simp; omega
    rw [h1, List.take_left, hL]
    rw [show 64 * (T.length / 64 + len / 64) = T.length + F from by omega, ← List.drop_drop, List.drop_left]
theorem st_set_block {W : World} {g : Nat} {v : Sm.V8} {bl : List Nat} {L : Nat} (hg : W.heap[g]? = some (.cells (stL v bl L).toArray 88 (0, 0))) (h : bl.length = 64) (o : Nat) (X : List Nat) (hX : o + X.length ≤ 64) :
    (W.setCells g (8 + o) (vals X)).heap[g]? = some (.cells (stL v (bl.take o ++ X ++ bl.drop (o + X.length)) L).toArray 88 (0, 0)) := by
  have e : bl = bl.take o ++ ((bl.drop o).take X.length ++ bl.drop (o + X.length)) := by
    rw [← List.drop_drop, List.take_append_drop, List.take_append_drop]
  have hg2 : W.heap[g]? = some (.cells ((w32 v.list ++ vals (bl.take o)) ++ vals ((bl.drop o).take X.length) ++ (vals (bl.drop (o + X.length)) ++ [Value.int .u64 (L : Nat)])).toArray 88 (0, 0)) := by
    rw [hg]
    congr 3
    conv => lhs; rw [stL, e]
    simp [vals]
  have hl : (w32 v.list ++ vals (bl.take o)).length = 8 + o := by simp [w32, vals, Sm.V8.list, h]; omega
  have := heap_setCells_same g 88 (vals X) _ _ _ W hg2 (by simp [vals, h]; omega)
  rw [hl] at this
  rw [this]
  simp [stL, vals]
theorem A33 : Try.prog.underlying 86 = some (.array 64 5) := by kernel_rfl
theorem block_slice (g r : Nat) (h : r < 64) (w : World) : (Instr.sliceAt 86 (.pointer (some ⟨g, 8, none⟩)) (some (.int .i64 (r : Int))) none none).run Try.prog w = .ok (.slice (some ⟨g, 8 + r, none⟩) (64 - r) (64 - r)) w := by
  have hl : Try.prog.arrayLen 86 = 64 := by simp [Program.arrayLen]
  have he : Try.prog.elem 86 = 5 := by simp [Program.elem]
  have h1 := run_sliceAt_array_l (P := Try.prog) w 86 ⟨g, 8, none⟩ (by rw [hl, he]; exact A33) .i64 r (by omega) (by rw [hl]; omega)
  obtain ⟨i5, hi, _, hi1, _⟩ := info_parts I5
  have hs : (sizeOf 5).run Try.prog w = .ok 1 w := by simp [sizeOf, typeInfo, hi, hi1]
  rw [h1, hl, he, hs]
  have hne : ¬ (64 = r) := by omega
  simp [slicedAt, hne, Addr.add_mid]
theorem st_copy_in {W : World} {g : Nat} {v : Sm.V8} {bl : List Nat} {L gb ob len cap : Nat} {B : List Nat} (hg : W.heap[g]? = some (.cells (stL v bl L).toArray 88 (0, 0))) (hb : bl.length = 64)
    (h : Bytes W (some ⟨gb, ob, none⟩) len cap B) (r n : Nat) (hr : r < 64) (hn : n = Nat.min len (64 - r)) :
    (Builtin.copy_ #[27, 27] 3 #[.slice (some ⟨g, 8 + r, none⟩) (64 - r) (64 - r), .slice (some ⟨gb, ob, none⟩) len cap]).run Try.prog W = .ok (goInt (n : Nat)) (W.setCells g (8 + r) (vals (B.take n))) := by
  have hs := h.size
  have hn1 : n ≤ len := by rw [hn]; exact Nat.min_le_left _ _
  have hn2 : n ≤ 64 - r := by rw [hn]; exact Nat.min_le_right _ _
  have ht := there_row hg 8 64 (by simp [stL, w32, vals, Sm.V8.list, hb])
  have hl : (vals (B.take n)).length = n := by simp [vals]; omega
  have hsrc : ∀ j u, (vals (B.take n))[j]? = some u → W.cell? ((⟨gb, ob, none⟩ : Addr).add j) = some u := fun j u hu => by
    have hj : j < (B.take n).length := by have := (List.getElem?_eq_some_iff.1 hu).1; simpa [vals] using this
    obtain ⟨g', o', hp, hx⟩ := h.ne (by intro e; rw [e] at hj; simp at hj)
    obtain ⟨rfl, rfl⟩ : gb = g' ∧ ob = o' := by simpa using hp
    rw [vals_get _ _ hj] at hu
    rw [Addr.add_mid, hx.take n j hj, hu]
  have := run_copy_cells (P := Try.prog) W 27 27 3 5 g (8 + r) (64 - r) (64 - r) ⟨gb, ob, none⟩ len cap (vals (B.take n)) A22 E5 (by rw [hl]; exact hn) hsrc
    (fun j hj => by have := (ht (r + j) (by omega)).1; rw [Nat.add_assoc]; exact this) (fun j hj => by have := (ht (r + j) (by omega)).2; rw [Nat.add_assoc]; exact this) (vals_one _)
  rw [hl] at this
  exact this
theorem Held.small {T B bl : List Nat} {v : Sm.V8} {r : Nat} (h : Held T v bl) (hr : T.length % 64 = r) (hr0 : 0 < r) (hs : r + B.length < 64) (hB : Sm.allB B) (hl : (T ++ B).length < 1152921504606846976) :
    Held (T ++ B) v (bl.take r ++ B ++ bl.drop (r + B.length)) := by
  have hb := h.size
  have hT : T ≠ [] := by rintro rfl; simp at hr; omega
  have hL : (T ++ B).length / 64 = T.length / 64 := by simp; omega
  refine ⟨?_, h.vok, hl, fun _ => ?_, by simp [hb]; omega, ?_, ?_⟩
  · intro x hx
    rcases List.mem_append.1 hx with hx | hx
    · exact h.ok x hx
    · exact hB x hx
  · rw [hL, Sm.blocks_app T B _ _ (by omega)]; exact h.words hT
  · intro x hx
    rcases List.mem_append.1 hx with hx | hx
    · rcases List.mem_append.1 hx with hx | hx
      · exact h.bok x (List.mem_of_mem_take hx)
      · exact hB x hx
    · exact h.bok x (List.mem_of_mem_drop hx)
  · have h1 : (T ++ B).length % 64 = (bl.take r ++ B).length := by simp [hb]; omega
    rw [h1, List.take_left, hL, List.drop_append_of_le_length (by omega), ← h.block, hr]
theorem Start.block {T B bl : List Nat} {v : Sm.V8} {r m : Nat} (h : Held T v bl) (hr : T.length % 64 = r) (hr0 : 0 < r) (hm : r + m = 64) (hmB : m ≤ B.length) :
    Start (T ++ B.take m) (Sm.blocks (bl.take r ++ B.take m) v 1) := by
  have hT : T ≠ [] := by rintro rfl; simp at hr; omega
  have hlen : (T ++ B.take m).length = 64 * (T.length / 64 + 1) := by simp; omega
  refine ⟨Sm.blocks_ok h.vok _, by omega, ?_⟩
  have hq : (T ++ B.take m).length / 64 = T.length / 64 + 1 := by omega
  have e1 : Sm.blocks (T ++ B.take m) Sm.first (T.length / 64 + 1) = Sm.turn Sm.ks (Sm.sched ((T ++ B.take m).drop (64 * (T.length / 64)))) (Sm.blocks (T ++ B.take m) Sm.first (T.length / 64)) := rfl
  have e2 : Sm.blocks (bl.take r ++ B.take m) v 1 = Sm.turn Sm.ks (Sm.sched (bl.take r ++ B.take m)) v := rfl
  rw [hq, e1, e2, Sm.blocks_app T _ _ _ (by omega), ← h.words hT, List.drop_append_of_le_length (by omega), ← h.block, hr]
theorem Bytes.block {W : World} {g : Nat} {v : Sm.V8} {bl : List Nat} {L : Nat} (hg : W.heap[g]? = some (.cells (stL v bl L).toArray 88 (0, 0))) (hb : bl.length = 64) (hbo : Sm.allB bl) : Bytes W (some ⟨g, 8, none⟩) 64 64 bl := by
  refine ⟨hb.symm, Nat.le_refl _, hbo, Or.inr ⟨g, 8, rfl, fun i hi => ?_⟩⟩
  have h1 := rangeAt_row (w32 v.list) (vals bl) [.int .u64 (L : Nat)] (by simpa [stL] using hg) i _ (vals_get bl i hi)
  have e : (w32 v.list).length = 8 := rfl
  rw [e] at h1
  exact h1
set_option maxRecDepth 100000 in
set_option maxHeartbeats 1000000 in
theorem write_b (T B : List Nat) (g : Nat) (p : Option Addr) (len cap : Nat) (w : World) (hT : T ≠ []) (hm : T.length % 64 = 0) (v : Sm.V8) (bl : List Nat) (hh : Held T v bl)
    (hg : w.heap[g]? = some (.cells (stL v bl T.length).toArray 88 (0, 0)))
    (hB : Bytes w p len cap B) (hn : B ≠ [] → ∀ a, p = some a → a.block ≠ g) (hl : (T ++ B).length < 1152921504606846976) :
    Calls Try.prog 43 #[.pointer (some ⟨g, 0, none⟩), .slice p len cap] w fun e w' => e = .returned (.tuple #[]) ∧ StateAt w' g (T ++ B) ∧ w.grownBy w' (some g) := by
  have hL0 : ((T.length : Int) == 0) = false := by
    have := List.length_pos_iff.2 hT
    simp; omega
  have hL1 : (T.length : Int) % 64 = 0 := by omega
  have hcl : w.cell? ⟨g, 72, none⟩ = some (.int .u64 (T.length : Nat)) := st_len hg hh.size
  have hfl : w.frozen? ⟨g, 72, none⟩ = false := frozen_of_row w g _ _ _ hg
  obtain ⟨N, hN⟩ : ∃ N, N = T.length := ⟨_, rfl⟩
  rw [← hN] at hcl hL0 hL1
  have hlen := hB.size
  have hb1 : N + len < 1152921504606846976 := by simp at hl; omega
  have HLT := Lib.hid (show (T ++ B).length = N + len from by simp; omega)
  have HG := Lib.hid hg
  have HTO := Lib.hid hh.ok
  have HBO := Lib.hid hh.bok
  have HSZ := Lib.hid hh.size
  have HVV := Lib.hid hh.vok
  have HS := Lib.hid (show Start T v from ⟨hh.vok, hm, hh.words hT⟩)
  have HB := Lib.hid hB
  have HN := Lib.hid hN
  clear hg hh hB hN hlen
  go_enter Try.func43, Try.ntmps43
  go_wp2_with fail
  rw [show (N : Int) + (len : Int) = ((N + len : Nat) : Int) from by omega]
  generalize hW1 : w.setCell ⟨g, 72, none⟩ (.int .u64 ((N + len : Nat) : Int)) = W1
  have hM : Mid w W1 g v bl (N + len) p len cap B := by
    subst hW1
    have hg := HG.out
    rw [← HN.out] at hg
    exact ⟨st_set_len hg HSZ.out _, HSZ.out, HB.out.grown (grown_setCell _ _ _ _) hn, hn, grown_setCell _ _ _ _⟩
  have HM := Lib.hid hM
  clear hW1 hM HG HB hcl hfl hL0 hL1
  obtain ⟨F, hF⟩ : ∃ F, F = len - len % 64 := ⟨_, rfl⟩
  rw [show (len : Int) - (len : Int) % 64 = (F : Int) from by omega]
  have hFl : F ≤ len := by omega
  have hF64 : F % 64 = 0 := by omega
  have HF := Lib.hid hF
  have HF64 := Lib.hid hF64
  clear hF hF64
  rcases HM.out.bytes.at' with hc | ⟨gb, ob, hp, hx⟩
  · subst hc
    cases p with
    | none =>
      obtain rfl : len = 0 := by have := HM.out.bytes.le; omega
      obtain rfl : F = 0 := by omega
      obtain ⟨U, hU⟩ : ∃ U, U = Sm.blocks (B.take 0) v ((B.take 0).length / 64) := ⟨_, rfl⟩
      have HA := all_any v HVV.out (B.take 0) none 0 0 W1.drew ((HM.out.bytes.take 0 hFl).heap rfl) (by simp)
      rw [show ((0 : Nat) : Int) = 0 from rfl]
      rw [← hU] at HA
      have HAA := Lib.hid HA
      have HU := Lib.hid hU
      clear HA hU
      obtain ⟨a, b, c, d, e, f, h, k⟩ := v
      have c0 : W1.cell? ⟨g, 0, none⟩ = some (.int .u32 a) := st_cell HM.out.row 0 (by omega)
      have c1 : W1.cell? ⟨g, 1, none⟩ = some (.int .u32 b) := st_cell HM.out.row 1 (by omega)
      have c2 : W1.cell? ⟨g, 2, none⟩ = some (.int .u32 c) := st_cell HM.out.row 2 (by omega)
      have c3 : W1.cell? ⟨g, 3, none⟩ = some (.int .u32 d) := st_cell HM.out.row 3 (by omega)
      have c4 : W1.cell? ⟨g, 4, none⟩ = some (.int .u32 e) := st_cell HM.out.row 4 (by omega)
      have c5 : W1.cell? ⟨g, 5, none⟩ = some (.int .u32 f) := st_cell HM.out.row 5 (by omega)
      have c6 : W1.cell? ⟨g, 6, none⟩ = some (.int .u32 h) := st_cell HM.out.row 6 (by omega)
      have c7 : W1.cell? ⟨g, 7, none⟩ = some (.int .u32 k) := st_cell HM.out.row 7 (by omega)
      go_region_law ((go_simp; go_at_call 51; refine HAA.out.mono ?_; rintro _ w4 ⟨rfl, hb4⟩; have m4 := Lib.hid (HM.out.later (below_of hb4 rfl rfl rfl rfl)); clear hb4; have hst4 := st_store m4.out.row m4.out.size U; have hu8 := size8 U))
      generalize hW5 : w4.setCells g 0 (w32 U.list) = W5
      have m5 := m4.out.words U
      rw [hW5] at m5
      have M5 := Lib.hid m5
      clear hW5 m5 hst4 hu8 m4 c0 c1 c2 c3 c4 c5 c6 c7
      go_wp2_with fail
      have hcp := run_copy_none (P := Try.prog) W5.drew 27 27 3 5 (some ⟨g, 8, none⟩) none 64 64 0 0 A22 E5 (by rfl)
      go_still_tail 7, (by kernel_rfl)
      go_wp2_with fail
      go_end0
      have hfin := Held.next HS.out HTO.out M5.out.bytes.ok hl M5.out.bytes.size (show 0 = 0 - 0 % 64 from rfl) HU.out M5.out.size HBO.out
      have e1 : B.drop 0 = [] := List.drop_eq_nil_of_le (by have := M5.out.bytes.size; omega)
      rw [e1, Nat.sub_self, List.drop_zero, List.nil_append] at hfin
      refine ⟨rfl, ⟨U, bl, hfin, ?_⟩, ?_⟩
      · have h0 := HLT.out; (try simp only [List.nil_append] at h0); rw [h0]; exact M5.out.row
      · exact ⟨M5.out.grown.os, M5.out.grown.tape, M5.out.grown.output, M5.out.grown.size, M5.out.grown.block⟩
    | some x =>
      obtain rfl : len = 0 := by have := HM.out.bytes.le; omega
      obtain rfl : F = 0 := by omega
      obtain ⟨U, hU⟩ : ∃ U, U = Sm.blocks (B.take 0) v ((B.take 0).length / 64) := ⟨_, rfl⟩
      have HA := all_any v HVV.out (B.take 0) (some x) 0 0 W1.drew ((HM.out.bytes.take 0 hFl).heap rfl) (by simp)
      rw [show ((0 : Nat) : Int) = 0 from rfl]
      rw [← hU] at HA
      have HAA := Lib.hid HA
      have HU := Lib.hid hU
      clear HA hU
      obtain ⟨a, b, c, d, e, f, h, k⟩ := v
      have c0 : W1.cell? ⟨g, 0, none⟩ = some (.int .u32 a) := st_cell HM.out.row 0 (by omega)
      have c1 : W1.cell? ⟨g, 1, none⟩ = some (.int .u32 b) := st_cell HM.out.row 1 (by omega)
      have c2 : W1.cell? ⟨g, 2, none⟩ = some (.int .u32 c) := st_cell HM.out.row 2 (by omega)
      have c3 : W1.cell? ⟨g, 3, none⟩ = some (.int .u32 d) := st_cell HM.out.row 3 (by omega)
      have c4 : W1.cell? ⟨g, 4, none⟩ = some (.int .u32 e) := st_cell HM.out.row 4 (by omega)
      have c5 : W1.cell? ⟨g, 5, none⟩ = some (.int .u32 f) := st_cell HM.out.row 5 (by omega)
      have c6 : W1.cell? ⟨g, 6, none⟩ = some (.int .u32 h) := st_cell HM.out.row 6 (by omega)
      have c7 : W1.cell? ⟨g, 7, none⟩ = some (.int .u32 k) := st_cell HM.out.row 7 (by omega)
      go_region_law ((go_simp; go_at_call 51; refine HAA.out.mono ?_; rintro _ w4 ⟨rfl, hb4⟩; have m4 := Lib.hid (HM.out.later (below_of hb4 rfl rfl rfl rfl)); clear hb4; have hst4 := st_store m4.out.row m4.out.size U; have hu8 := size8 U))
      generalize hW5 : w4.setCells g 0 (w32 U.list) = W5
      have m5 := m4.out.words U
      rw [hW5] at m5
      have M5 := Lib.hid m5
      clear hW5 m5 hst4 hu8 m4 c0 c1 c2 c3 c4 c5 c6 c7
      go_wp2_with fail
      have hcp := run_copy_none (P := Try.prog) W5.drew 27 27 3 5 (some ⟨g, 8, none⟩) (some x) 64 64 0 0 A22 E5 (by rfl)
      go_still_tail 7, (by kernel_rfl)
      go_wp2_with fail
      go_end0
      have hfin := Held.next HS.out HTO.out M5.out.bytes.ok hl M5.out.bytes.size (show 0 = 0 - 0 % 64 from rfl) HU.out M5.out.size HBO.out
      have e1 : B.drop 0 = [] := List.drop_eq_nil_of_le (by have := M5.out.bytes.size; omega)
      rw [e1, Nat.sub_self, List.drop_zero, List.nil_append] at hfin
      refine ⟨rfl, ⟨U, bl, hfin, ?_⟩, ?_⟩
      · have h0 := HLT.out; (try simp only [List.nil_append] at h0); rw [h0]; exact M5.out.row
      · exact ⟨M5.out.grown.os, M5.out.grown.tape, M5.out.grown.output, M5.out.grown.size, M5.out.grown.block⟩
  · subst hp
    clear hx
    have hcap := HM.out.bytes.le
    have a1 : (0 : Int) ≤ F ∧ (F : Int) ≤ cap := by omega
    obtain ⟨U, hU⟩ : ∃ U, U = Sm.blocks (B.take F) v ((B.take F).length / 64) := ⟨_, rfl⟩
    have HA := all_any v HVV.out (B.take F) (some ⟨gb, ob, none⟩) F cap W1.drew ((HM.out.bytes.take F hFl).heap rfl) (by have := HF64.out; have := HM.out.bytes.size; simp; omega)
    rw [← hU] at HA
    have HAA := Lib.hid HA
    have HU := Lib.hid hU
    clear HA hU
    obtain ⟨a, b, c, d, e, f, h, k⟩ := v
    have c0 : W1.cell? ⟨g, 0, none⟩ = some (.int .u32 a) := st_cell HM.out.row 0 (by omega)
    have c1 : W1.cell? ⟨g, 1, none⟩ = some (.int .u32 b) := st_cell HM.out.row 1 (by omega)
    have c2 : W1.cell? ⟨g, 2, none⟩ = some (.int .u32 c) := st_cell HM.out.row 2 (by omega)
    have c3 : W1.cell? ⟨g, 3, none⟩ = some (.int .u32 d) := st_cell HM.out.row 3 (by omega)
    have c4 : W1.cell? ⟨g, 4, none⟩ = some (.int .u32 e) := st_cell HM.out.row 4 (by omega)
    have c5 : W1.cell? ⟨g, 5, none⟩ = some (.int .u32 f) := st_cell HM.out.row 5 (by omega)
    have c6 : W1.cell? ⟨g, 6, none⟩ = some (.int .u32 h) := st_cell HM.out.row 6 (by omega)
    have c7 : W1.cell? ⟨g, 7, none⟩ = some (.int .u32 k) := st_cell HM.out.row 7 (by omega)
    go_region_law ((go_simp; go_at_call 51; refine HAA.out.mono ?_; rintro _ w4 ⟨rfl, hb4⟩; have m4 := Lib.hid (HM.out.later (below_of hb4 rfl rfl rfl rfl)); clear hb4; have hst4 := st_store m4.out.row m4.out.size U; have hu8 := size8 U))
    generalize hW5 : w4.setCells g 0 (w32 U.list) = W5
    have m5 := m4.out.words U
    rw [hW5] at m5
    have M5 := Lib.hid m5
    clear hW5 m5 hst4 hu8 m4 c0 c1 c2 c3 c4 c5 c6 c7
    go_wp2_with fail
    rcases Nat.lt_or_eq_of_le (Nat.le_trans hFl hcap) with hcc | hcc
    · have hcp := st_copy M5.out F (by have := HF.out; omega) hcc
      go_still_tail 7, (by kernel_rfl)
      go_wp2_with fail
      go_end0
      have hlF : (B.drop F).length = len - F := by have := M5.out.bytes.size; simp; omega
      have hrow := st_set_block (W := W5.drew) M5.out.row M5.out.size 0 (B.drop F) (by have := HF.out; omega)
      have hfin := Held.next HS.out HTO.out M5.out.bytes.ok hl M5.out.bytes.size HF.out HU.out M5.out.size HBO.out
      refine ⟨rfl, ⟨U, _, hfin, ?_⟩, ?_⟩
      · rw [hlF] at hrow
        have h0 := HLT.out
        (try simp only [List.nil_append] at h0)
        rw [h0]
        simpa using hrow
      · exact grown_setCells (w1 := W5.drew) ⟨M5.out.grown.os, M5.out.grown.tape, M5.out.grown.output, M5.out.grown.size, M5.out.grown.block⟩ 8 _
    · subst hcc
      obtain rfl : len = F := by omega
      have hcp := run_copy_none (P := Try.prog) W5.drew 27 27 3 5 (some ⟨g, 8, none⟩) (some ⟨gb, ob, none⟩) 64 64 0 0 A22 E5 (by rfl)
      go_still_tail 7, (by kernel_rfl)
      go_wp2_with fail
      go_end0
      have hfin := Held.next HS.out HTO.out M5.out.bytes.ok hl M5.out.bytes.size HF.out HU.out M5.out.size HBO.out
      have e1 : B.drop len = [] := List.drop_eq_nil_of_le (by have := M5.out.bytes.size; omega)
      rw [e1, Nat.sub_self, List.drop_zero, List.nil_append] at hfin
      refine ⟨rfl, ⟨U, bl, hfin, ?_⟩, ?_⟩
      · have h0 := HLT.out; (try simp only [List.nil_append] at h0); rw [h0]; exact M5.out.row
      · exact ⟨M5.out.grown.os, M5.out.grown.tape, M5.out.grown.output, M5.out.grown.size, M5.out.grown.block⟩
end Go.Proofs.Ytlmbicelngpgoaa

/- The contract of State.Write: nothing was written so far. -/
namespace Go.Proofs.Ytlmbicelngpgoaa
open Go.RowKit

set_option maxRecDepth 100000 in
set_option maxHeartbeats 1000000 in
theorem write_a (T B : List Nat) (g : Nat) (p : Option Addr) (len cap : Nat) (w : World) (hT : T = []) (v : Sm.V8) (bl : List Nat) (hh : Held T v bl)
    (hg : w.heap[g]? = some (.cells (stL v bl T.length).toArray 88 (0, 0)))
    (hB : Bytes w p len cap B) (hn : B ≠ [] → ∀ a, p = some a → a.block ≠ g) (hl : (T ++ B).length < 1152921504606846976) :
    Calls Try.prog 43 #[.pointer (some ⟨g, 0, none⟩), .slice p len cap] w fun e w' => e = .returned (.tuple #[]) ∧ StateAt w' g (T ++ B) ∧ w.grownBy w' (some g) := by
  subst hT
  have hcl : w.cell? ⟨g, 72, none⟩ = some (.int .u64 0) := st_len hg hh.size
  have hfl : w.frozen? ⟨g, 72, none⟩ = false := frozen_of_row w g _ _ _ hg
  have hlen := hB.size
  have hb1 : len < 1152921504606846976 := by simp at hl; omega
  have HLT := Lib.hid (show (([] : List Nat) ++ B).length = len from by simp; omega)
  have HG := Lib.hid hg
  have HTO := Lib.hid hh.ok
  have HBO := Lib.hid hh.bok
  have HSZ := Lib.hid hh.size
  have HB := Lib.hid hB
  clear hg hh hB hlen
  go_enter Try.func43, Try.ntmps43
  go_wp2_with fail
  refine (firstWords_any w).mono ?_
  rintro _ w2 ⟨rfl, hb2⟩
  have hg2 : w2.heap[g]? = _ := (hb2.block g (Array.getElem?_eq_some_iff.1 HG.out).1).trans HG.out
  have hst := st_store hg2 HSZ.out Sm.first
  have hg3 := st_set_words hg2 Sm.first
  have hcl2 : (w2.setCells g 0 (w32 Sm.first.list)).cell? ⟨g, 72, none⟩ = some (.int .u64 0) := st_len hg3 HSZ.out
  have hfl2 : (w2.setCells g 0 (w32 Sm.first.list)).frozen? ⟨g, 72, none⟩ = false := frozen_of_row _ g _ _ _ hg3
  have hu8 := size8 Sm.first
  have HB2 := Lib.hid hb2
  have HG3 := Lib.hid hg3
  clear hb2 hg2 hg3 hcl hfl
  go_wp2_with fail
  obtain ⟨v, hv⟩ : ∃ v, v = Sm.first := ⟨_, rfl⟩
  have HS := Lib.hid (show Start [] v from ⟨by rw [hv]; exact Sm.first_ok, rfl, hv⟩)
  have HVV := Lib.hid HS.out.1
  rw [← hv] at HG3 ⊢
  generalize hW1 : (w2.setCells g 0 (w32 v.list)).setCell ⟨g, 72, none⟩ (.int .u64 (len : Int)) = W1
  have hM : Mid w W1 g v bl len p len cap B := by
    subst hW1
    have h1 : w.grownBy (w2.setCells g 0 (w32 v.list)) (some g) := grown_setCells ⟨HB2.out.os, HB2.out.tape, HB2.out.output, HB2.out.size, fun k hk _ => HB2.out.block k hk⟩ 0 _
    have h2 : w.grownBy ((w2.setCells g 0 (w32 v.list)).setCell ⟨g, 72, none⟩ (.int .u64 (len : Int))) (some g) := grown_setCells h1 72 [.int .u64 (len : Int)]
    exact ⟨st_set_len HG3.out HSZ.out _, HSZ.out, HB.out.grown h2 hn, hn, h2⟩
  have HM := Lib.hid hM
  clear hW1 hM HG HB hst hcl2 hfl2 hu8 HG3 HB2 hv
  obtain ⟨F, hF⟩ : ∃ F, F = len - len % 64 := ⟨_, rfl⟩
  rw [show (len : Int) - (len : Int) % 64 = (F : Int) from by omega]
  have hFl : F ≤ len := by omega
  have hF64 : F % 64 = 0 := by omega
  have HF := Lib.hid hF
  have HF64 := Lib.hid hF64
  clear hF hF64
  rcases HM.out.bytes.at' with hc | ⟨gb, ob, hp, hx⟩
  · subst hc
    cases p with
    | none =>
      obtain rfl : len = 0 := by have := HM.out.bytes.le; omega
      obtain rfl : F = 0 := by omega
      obtain ⟨U, hU⟩ : ∃ U, U = Sm.blocks (B.take 0) v ((B.take 0).length / 64) := ⟨_, rfl⟩
      have HA := all_any v HVV.out (B.take 0) none 0 0 W1.drew ((HM.out.bytes.take 0 hFl).heap rfl) (by simp)
      rw [show ((0 : Nat) : Int) = 0 from rfl]
      rw [← hU] at HA
      have HAA := Lib.hid HA
      have HU := Lib.hid hU
      clear HA hU
      obtain ⟨a, b, c, d, e, f, h, k⟩ := v
      have c0 : W1.cell? ⟨g, 0, none⟩ = some (.int .u32 a) := st_cell HM.out.row 0 (by omega)
      have c1 : W1.cell? ⟨g, 1, none⟩ = some (.int .u32 b) := st_cell HM.out.row 1 (by omega)
      have c2 : W1.cell? ⟨g, 2, none⟩ = some (.int .u32 c) := st_cell HM.out.row 2 (by omega)
      have c3 : W1.cell? ⟨g, 3, none⟩ = some (.int .u32 d) := st_cell HM.out.row 3 (by omega)
      have c4 : W1.cell? ⟨g, 4, none⟩ = some (.int .u32 e) := st_cell HM.out.row 4 (by omega)
      have c5 : W1.cell? ⟨g, 5, none⟩ = some (.int .u32 f) := st_cell HM.out.row 5 (by omega)
      have c6 : W1.cell? ⟨g, 6, none⟩ = some (.int .u32 h) := st_cell HM.out.row 6 (by omega)
      have c7 : W1.cell? ⟨g, 7, none⟩ = some (.int .u32 k) := st_cell HM.out.row 7 (by omega)
      go_region_law ((go_simp; go_at_call 51; refine HAA.out.mono ?_; rintro _ w4 ⟨rfl, hb4⟩; have m4 := Lib.hid (HM.out.later (below_of hb4 rfl rfl rfl rfl)); clear hb4; have hst4 := st_store m4.out.row m4.out.size U; have hu8 := size8 U))
      generalize hW5 : w4.setCells g 0 (w32 U.list) = W5
      have m5 := m4.out.words U
      rw [hW5] at m5
      have M5 := Lib.hid m5
      clear hW5 m5 hst4 hu8 m4 c0 c1 c2 c3 c4 c5 c6 c7
      go_wp2_with fail
      have hcp := run_copy_none (P := Try.prog) W5.drew 27 27 3 5 (some ⟨g, 8, none⟩) none 64 64 0 0 A22 E5 (by rfl)
      go_still_tail 7, (by kernel_rfl)
      go_wp2_with fail
      go_end0
      have hfin := Held.next HS.out HTO.out M5.out.bytes.ok hl M5.out.bytes.size (show 0 = 0 - 0 % 64 from rfl) HU.out M5.out.size HBO.out
      have e1 : B.drop 0 = [] := List.drop_eq_nil_of_le (by have := M5.out.bytes.size; omega)
      rw [e1, Nat.sub_self, List.drop_zero, List.nil_append] at hfin
      refine ⟨rfl, ⟨U, bl, hfin, ?_⟩, ?_⟩
      · have h0 := HLT.out; (try simp only [List.nil_append] at h0); rw [h0]; exact M5.out.row
      · exact ⟨M5.out.grown.os, M5.out.grown.tape, M5.out.grown.output, M5.out.grown.size, M5.out.grown.block⟩
    | some x =>
      obtain rfl : len = 0 := by have := HM.out.bytes.le; omega
      obtain rfl : F = 0 := by omega
      obtain ⟨U, hU⟩ : ∃ U, U = Sm.blocks (B.take 0) v ((B.take 0).length / 64) := ⟨_, rfl⟩
      have HA := all_any v HVV.out (B.take 0) (some x) 0 0 W1.drew ((HM.out.bytes.take 0 hFl).heap rfl) (by simp)
      rw [show ((0 : Nat) : Int) = 0 from rfl]
      rw [← hU] at HA
      have HAA := Lib.hid HA
      have HU := Lib.hid hU
      clear HA hU
      obtain ⟨a, b, c, d, e, f, h, k⟩ := v
      have c0 : W1.cell? ⟨g, 0, none⟩ = some (.int .u32 a) := st_cell HM.out.row 0 (by omega)
      have c1 : W1.cell? ⟨g, 1, none⟩ = some (.int .u32 b) := st_cell HM.out.row 1 (by omega)
      have c2 : W1.cell? ⟨g, 2, none⟩ = some (.int .u32 c) := st_cell HM.out.row 2 (by omega)
      have c3 : W1.cell? ⟨g, 3, none⟩ = some (.int .u32 d) := st_cell HM.out.row 3 (by omega)
      have c4 : W1.cell? ⟨g, 4, none⟩ = some (.int .u32 e) := st_cell HM.out.row 4 (by omega)
      have c5 : W1.cell? ⟨g, 5, none⟩ = some (.int .u32 f) := st_cell HM.out.row 5 (by omega)
      have c6 : W1.cell? ⟨g, 6, none⟩ = some (.int .u32 h) := st_cell HM.out.row 6 (by omega)
      have c7 : W1.cell? ⟨g, 7, none⟩ = some (.int .u32 k) := st_cell HM.out.row 7 (by omega)
      go_region_law ((go_simp; go_at_call 51; refine HAA.out.mono ?_; rintro _ w4 ⟨rfl, hb4⟩; have m4 := Lib.hid (HM.out.later (below_of hb4 rfl rfl rfl rfl)); clear hb4; have hst4 := st_store m4.out.row m4.out.size U; have hu8 := size8 U))
      generalize hW5 : w4.setCells g 0 (w32 U.list) = W5
      have m5 := m4.out.words U
      rw [hW5] at m5
      have M5 := Lib.hid m5
      clear hW5 m5 hst4 hu8 m4 c0 c1 c2 c3 c4 c5 c6 c7
      go_wp2_with fail
      have hcp := run_copy_none (P := Try.prog) W5.drew 27 27 3 5 (some ⟨g, 8, none⟩) (some x) 64 64 0 0 A22 E5 (by rfl)
      go_still_tail 7, (by kernel_rfl)
      go_wp2_with fail
      go_end0
      have hfin := Held.next HS.out HTO.out M5.out.bytes.ok hl M5.out.bytes.size (show 0 = 0 - 0 % 64 from rfl) HU.out M5.out.size HBO.out
      have e1 : B.drop 0 = [] := List.drop_eq_nil_of_le (by have := M5.out.bytes.size; omega)
      rw [e1, Nat.sub_self, List.drop_zero, List.nil_append] at hfin
      refine ⟨rfl, ⟨U, bl, hfin, ?_⟩, ?_⟩
      · have h0 := HLT.out; (try simp only [List.nil_append] at h0); rw [h0]; exact M5.out.row
      · exact ⟨M5.out.grown.os, M5.out.grown.tape, M5.out.grown.output, M5.out.grown.size, M5.out.grown.block⟩
  · subst hp
    clear hx
    have hcap := HM.out.bytes.le
    have a1 : (0 : Int) ≤ F ∧ (F : Int) ≤ cap := by omega
    obtain ⟨U, hU⟩ : ∃ U, U = Sm.blocks (B.take F) v ((B.take F).length / 64) := ⟨_, rfl⟩
    have HA := all_any v HVV.out (B.take F) (some ⟨gb, ob, none⟩) F cap W1.drew ((HM.out.bytes.take F hFl).heap rfl) (by have := HF64.out; have := HM.out.bytes.size; simp; omega)
    rw [← hU] at HA
    have HAA := Lib.hid HA
    have HU := Lib.hid hU
    clear HA hU
    obtain ⟨a, b, c, d, e, f, h, k⟩ := v
    have c0 : W1.cell? ⟨g, 0, none⟩ = some (.int .u32 a) := st_cell HM.out.row 0 (by omega)
    have c1 : W1.cell? ⟨g, 1, none⟩ = some (.int .u32 b) := st_cell HM.out.row 1 (by omega)
    have c2 : W1.cell? ⟨g, 2, none⟩ = some (.int .u32 c) := st_cell HM.out.row 2 (by omega)
    have c3 : W1.cell? ⟨g, 3, none⟩ = some (.int .u32 d) := st_cell HM.out.row 3 (by omega)
    have c4 : W1.cell? ⟨g, 4, none⟩ = some (.int .u32 e) := st_cell HM.out.row 4 (by omega)
    have c5 : W1.cell? ⟨g, 5, none⟩ = some (.int .u32 f) := st_cell HM.out.row 5 (by omega)
    have c6 : W1.cell? ⟨g, 6, none⟩ = some (.int .u32 h) := st_cell HM.out.row 6 (by omega)
    have c7 : W1.cell? ⟨g, 7, none⟩ = some (.int .u32 k) := st_cell HM.out.row 7 (by omega)
    go_region_law ((go_simp; go_at_call 51; refine HAA.out.mono ?_; rintro _ w4 ⟨rfl, hb4⟩; have m4 := Lib.hid (HM.out.later (below_of hb4 rfl rfl rfl rfl)); clear hb4; have hst4 := st_store m4.out.row m4.out.size U; have hu8 := size8 U))
    generalize hW5 : w4.setCells g 0 (w32 U.list) = W5
    have m5 := m4.out.words U
    rw [hW5] at m5
    have M5 := Lib.hid m5
    clear hW5 m5 hst4 hu8 m4 c0 c1 c2 c3 c4 c5 c6 c7
    go_wp2_with fail
    rcases Nat.lt_or_eq_of_le (Nat.le_trans hFl hcap) with hcc | hcc
    · have hcp := st_copy M5.out F (by have := HF.out; omega) hcc
      go_still_tail 7, (by kernel_rfl)
      go_wp2_with fail
      go_end0
      have hlF : (B.drop F).length = len - F := by have := M5.out.bytes.size; simp; omega
      have hrow := st_set_block (W := W5.drew) M5.out.row M5.out.size 0 (B.drop F) (by have := HF.out; omega)
      have hfin := Held.next HS.out HTO.out M5.out.bytes.ok hl M5.out.bytes.size HF.out HU.out M5.out.size HBO.out
      refine ⟨rfl, ⟨U, _, hfin, ?_⟩, ?_⟩
      · rw [hlF] at hrow
        have h0 := HLT.out
        (try simp only [List.nil_append] at h0)
        rw [h0]
        simpa using hrow
      · exact grown_setCells (w1 := W5.drew) ⟨M5.out.grown.os, M5.out.grown.tape, M5.out.grown.output, M5.out.grown.size, M5.out.grown.block⟩ 8 _
    · subst hcc
      obtain rfl : len = F := by omega
      have hcp := run_copy_none (P := Try.prog) W5.drew 27 27 3 5 (some ⟨g, 8, none⟩) (some ⟨gb, ob, none⟩) 64 64 0 0 A22 E5 (by rfl)
      go_still_tail 7, (by kernel_rfl)
      go_wp2_with fail
      go_end0
      have hfin := Held.next HS.out HTO.out M5.out.bytes.ok hl M5.out.bytes.size HF.out HU.out M5.out.size HBO.out
      have e1 : B.drop len = [] := List.drop_eq_nil_of_le (by have := M5.out.bytes.size; omega)
      rw [e1, Nat.sub_self, List.drop_zero, List.nil_append] at hfin
      refine ⟨rfl, ⟨U, bl, hfin, ?_⟩, ?_⟩
      · have h0 := HLT.out; (try simp only [List.nil_append] at h0); rw [h0]; exact M5.out.row
      · exact ⟨M5.out.grown.os, M5.out.grown.tape, M5.out.grown.output, M5.out.grown.size, M5.out.grown.block⟩
end Go.Proofs.Ytlmbicelngpgoaa

/- The contract of State.Write: a block is begun, and stays so. -/
namespace Go.Proofs.Ytlmbicelngpgoaa
open Go.RowKit

set_option maxRecDepth 100000 in
set_option maxHeartbeats 1000000 in
theorem write_c (T B : List Nat) (g : Nat) (p : Option Addr) (len cap : Nat) (w : World) (r : Nat) (hr : T.length % 64 = r) (hr0 : 0 < r) (hs : r + len < 64) (v : Sm.V8) (bl : List Nat) (hh : Held T v bl)
    (hg : w.heap[g]? = some (.cells (stL v bl T.length).toArray 88 (0, 0)))
    (hB : Bytes w p len cap B) (hn : B ≠ [] → ∀ a, p = some a → a.block ≠ g) (hl : (T ++ B).length < 1152921504606846976) :
    Calls Try.prog 43 #[.pointer (some ⟨g, 0, none⟩), .slice p len cap] w fun e w' => e = .returned (.tuple #[]) ∧ StateAt w' g (T ++ B) ∧ w.grownBy w' (some g) := by
  have hL0 : ((T.length : Int) == 0) = false := by
    have : T ≠ [] := by rintro rfl; simp at hr; omega
    have := List.length_pos_iff.2 this
    simp; omega
  have hT : T ≠ [] := by rintro rfl; simp at hr; omega
  have hL1 : (T.length : Int) % 64 = (r : Int) := by omega
  have hcl : w.cell? ⟨g, 72, none⟩ = some (.int .u64 (T.length : Nat)) := st_len hg hh.size
  have hfl : w.frozen? ⟨g, 72, none⟩ = false := frozen_of_row w g _ _ _ hg
  have hsl := st_set_len hg hh.size (T.length + len)
  obtain ⟨N, hN⟩ : ∃ N, N = T.length := ⟨_, rfl⟩
  rw [← hN] at hcl hL0 hL1 hsl
  have hlen := hB.size
  have hb1 : N + len < 1152921504606846976 := by simp at hl; omega
  have HLT0 := Lib.hid (show (T ++ B).length = N + len from by simp; omega)
  have h0 : (0 : Int) < r ∧ (r : Int) < 64 := by omega
  have HBB := Lib.hid (hB.grown (grown_setCell w g 72 (.int .u64 ((N + len : Nat) : Int))) hn)
  have HH := Lib.hid hh
  have HSL := Lib.hid hsl
  have HR := Lib.hid hr
  have HT := Lib.hid hT
  have HN := Lib.hid hN
  have HLen := Lib.hid hlen
  clear hg hh hB hN hlen hsl hr hT
  have hlt : (r : Int) + len < 64 := by omega
  have hbs := block_slice g r (by omega)
  rcases HBB.out.at' with hc | ⟨gb, ob, hp, hx⟩
  · subst hc
    cases p with
    | none =>
      obtain rfl : len = 0 := by have := HBB.out.le; omega
      have hB0 : B = [] := List.length_eq_zero_iff.1 HLen.out.symm
      have hcp := run_copy_none (P := Try.prog) (w.setCell ⟨g, 72, none⟩ (.int .u64 (N : Int))) 27 27 3 5 (some ⟨g, 8 + r, none⟩) none (64 - r) (64 - r) 0 0 A22 E5 (Nat.zero_min _)
      have HB0 := Lib.hid hB0
      clear hB0
      go_enter Try.func43, Try.ntmps43
      go_wp2_with fail
      (try simp only [Exit.inBlock, Exit.then])
      refine bodyPost_ret (results_none rfl _ _ _) rfl ?_
      have hT2 : T ++ B = T := by rw [HB0.out, List.append_nil]
      refine ⟨rfl, ?_, grown_setCell _ _ _ _⟩
      rw [hT2]
      refine ⟨v, bl, HH.out, ?_⟩
      rw [← HN.out]
      exact HSL.out
    | some x =>
      obtain rfl : len = 0 := by have := HBB.out.le; omega
      have hB0 : B = [] := List.length_eq_zero_iff.1 HLen.out.symm
      have hcp := run_copy_none (P := Try.prog) (w.setCell ⟨g, 72, none⟩ (.int .u64 (N : Int))) 27 27 3 5 (some ⟨g, 8 + r, none⟩) (some x) (64 - r) (64 - r) 0 0 A22 E5 (Nat.zero_min _)
      have HB0 := Lib.hid hB0
      clear hB0
      go_enter Try.func43, Try.ntmps43
      go_wp2_with fail
      (try simp only [Exit.inBlock, Exit.then])
      refine bodyPost_ret (results_none rfl _ _ _) rfl ?_
      have hT2 : T ++ B = T := by rw [HB0.out, List.append_nil]
      refine ⟨rfl, ?_, grown_setCell _ _ _ _⟩
      rw [hT2]
      refine ⟨v, bl, HH.out, ?_⟩
      rw [← HN.out]
      exact HSL.out
  · subst hp
    clear hx
    have hcp := st_copy_in HSL.out HH.out.size HBB.out r len (by omega) (Nat.min_eq_left (by omega)).symm
    rw [show B.take len = B from List.take_of_length_le (by have := HLen.out; omega)] at hcp
    rw [show ((N + len : Nat) : Int) = (N : Int) + (len : Int) from by omega] at hcp
    go_enter Try.func43, Try.ntmps43
    go_wp2_with fail
    (try simp only [Exit.inBlock, Exit.then])
    refine bodyPost_ret (results_none rfl _ _ _) rfl ?_
    rw [show (N : Int) + (len : Int) = ((N + len : Nat) : Int) from by omega]
    have hrow := st_set_block HSL.out HH.out.size r B (by have := HLen.out; omega)
    refine ⟨rfl, ⟨v, _, HH.out.small HR.out hr0 (by have := HLen.out; omega) HBB.out.ok hl, ?_⟩, grown_setCells (grown_setCell _ _ _ _) _ _⟩
    rw [HLT0.out]
    exact hrow
end Go.Proofs.Ytlmbicelngpgoaa
