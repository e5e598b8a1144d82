/- The contract of sha.turn: eight words turned by one block. -/
import Derived.Test.YtgdipdmpmaemjaaShaRot
namespace Go.Proofs.Ytgdipdmpmaemjaa
open Go.RowKit

theorem rot2 (x : Nat) (w : World) (hx : x < 4294967296) : Calls Try.prog 35 #[.int .u32 x, .int .i64 (-2)] w fun e w' => e = .returned (.int .u32 (Sm.rot 2 x)) ∧ w = w' := rot_of 2 x _ w hx (by omega)
theorem rot6 (x : Nat) (w : World) (hx : x < 4294967296) : Calls Try.prog 35 #[.int .u32 x, .int .i64 (-6)] w fun e w' => e = .returned (.int .u32 (Sm.rot 6 x)) ∧ w = w' := rot_of 6 x _ w hx (by omega)
theorem rot11 (x : Nat) (w : World) (hx : x < 4294967296) : Calls Try.prog 35 #[.int .u32 x, .int .i64 (-11)] w fun e w' => e = .returned (.int .u32 (Sm.rot 11 x)) ∧ w = w' := rot_of 11 x _ w hx (by omega)
theorem rot13 (x : Nat) (w : World) (hx : x < 4294967296) : Calls Try.prog 35 #[.int .u32 x, .int .i64 (-13)] w fun e w' => e = .returned (.int .u32 (Sm.rot 13 x)) ∧ w = w' := rot_of 13 x _ w hx (by omega)
theorem rot22 (x : Nat) (w : World) (hx : x < 4294967296) : Calls Try.prog 35 #[.int .u32 x, .int .i64 (-22)] w fun e w' => e = .returned (.int .u32 (Sm.rot 22 x)) ∧ w = w' := rot_of 22 x _ w hx (by omega)
theorem rot25 (x : Nat) (w : World) (hx : x < 4294967296) : Calls Try.prog 35 #[.int .u32 x, .int .i64 (-25)] w fun e w' => e = .returned (.int .u32 (Sm.rot 25 x)) ∧ w = w' := rot_of 25 x _ w hx (by omega)
theorem rot7 (x : Nat) (w : World) (hx : x < 4294967296) : Calls Try.prog 35 #[.int .u32 x, .int .i64 (-7)] w fun e w' => e = .returned (.int .u32 (Sm.rot 7 x)) ∧ w = w' := rot_of 7 x _ w hx (by omega)
theorem rot18 (x : Nat) (w : World) (hx : x < 4294967296) : Calls Try.prog 35 #[.int .u32 x, .int .i64 (-18)] w fun e w' => e = .returned (.int .u32 (Sm.rot 18 x)) ∧ w = w' := rot_of 18 x _ w hx (by omega)
theorem rot17 (x : Nat) (w : World) (hx : x < 4294967296) : Calls Try.prog 35 #[.int .u32 x, .int .i64 (-17)] w fun e w' => e = .returned (.int .u32 (Sm.rot 17 x)) ∧ w = w' := rot_of 17 x _ w hx (by omega)
theorem rot19 (x : Nat) (w : World) (hx : x < 4294967296) : Calls Try.prog 35 #[.int .u32 x, .int .i64 (-19)] w fun e w' => e = .returned (.int .u32 (Sm.rot 19 x)) ∧ w = w' := rot_of 19 x _ w hx (by omega)

theorem u32s_get (l : List Nat) (i : Nat) (h : i < l.length) : (u32s l)[i]? = some (.int .u32 (l.getD i 0 : Nat)) := by
  simp [u32s, List.getD_eq_getElem?_getD, List.getElem?_eq_getElem h]
theorem u32s_cell {w : World} {g : Nat} {l : List Nat} {t : TypeId} {fr : Nat × Nat} (hg : w.heap[g]? = some (.cells (u32s l) t fr)) (i : Nat) (h : i < l.length) : w.cell? ⟨g, i, none⟩ = some (.int .u32 (l.getD i 0 : Nat)) := by
  rw [cell_of_row w g i _ t fr hg, u32s_get l i h]
theorem u32_eq {a b : Int} (h : a = b) : Value.int .u32 a = Value.int .u32 b := by rw [h]
structure Facts (w WB : World) (gw gk : Nat) (W K : List Nat) (A : Array Value) : Prop where
  below : Below w.heap.size w WB
  cw : ∀ i, i < 64 → WB.cell? ⟨gw, i, none⟩ = some (.int .u32 (W.getD i 0 : Nat))
  ck : ∀ i, i < 64 → WB.cell? ⟨gk, i, none⟩ = some (.int .u32 (K.getD i 0 : Nat))
  box : WB.heap[w.heap.size]? = some (.cells A 32 (0, 0))
  res : ∃ C, WB.heap[w.heap.size + 1]? = some (.cells C 32 (0, 0)) ∧ C.size = 8
theorem Facts.mk' (w : World) (nq gw gk : Nat) (W K : List Nat) (A C : Array Value)
    (cw : ∀ i, i < 64 → w.cell? ⟨gw, i, none⟩ = some (.int .u32 (W.getD i 0 : Nat)))
    (ck : ∀ i, i < 64 → w.cell? ⟨gk, i, none⟩ = some (.int .u32 (K.getD i 0 : Nat)))
    (bw : gw < w.heap.size) (bk : gk < w.heap.size) (hC : C.size = 8 := by rfl) :
    Facts w (World.drewN ((w.alloc (.cells A 32)).alloc (.cells C 32)) nq) gw gk W K A := by
  have hb : Below w.heap.size w ((w.alloc (.cells A 32)).alloc (.cells C 32)) := ((Below.refl _ _).alloc (Nat.le_refl _) _).alloc (by simp) _
  refine ⟨hb.trans ⟨rfl, rfl, rfl, Nat.le_refl _, fun _ _ => rfl⟩, fun i hi => ?_, fun i hi => ?_, ?_, C, ?_, hC⟩
  · exact (hb.cell (p := ⟨gw, i, none⟩) bw).trans (cw i hi)
  · exact (hb.cell (p := ⟨gk, i, none⟩) bk).trans (ck i hi)
  · exact heap_alloc2_old w _ _
  · exact heap_alloc2_new w _ _
def TurnRel (K W : List Nat) (v : Sm.V8) (W0 : World) (a b c d e f g h i : Value) (wr : World) : Prop :=
  ∃ k : Nat, k ≤ 64 ∧ i = .int .i64 k ∧ a = .int .u32 (Sm.rounds K W v k).a ∧ b = .int .u32 (Sm.rounds K W v k).b ∧ c = .int .u32 (Sm.rounds K W v k).c ∧ d = .int .u32 (Sm.rounds K W v k).d ∧ e = .int .u32 (Sm.rounds K W v k).e ∧ f = .int .u32 (Sm.rounds K W v k).f ∧ g = .int .u32 (Sm.rounds K W v k).g ∧ h = .int .u32 (Sm.rounds K W v k).h ∧ SameHeap W0 wr
set_option maxRecDepth 100000 in
set_option maxHeartbeats 1000000 in
theorem turn_any (v : Sm.V8) (hv : v.ok) (W K : List Nat) (hW : Sm.allW W) (hK : Sm.allW K) (lW : W.length = 64) (lK : K.length = 64) (gw gk : Nat) (w : World)
    (hw : w.heap[gw]? = some (.cells (u32s W) 62 (0, 0))) (hk : w.heap[gk]? = some (.cells (u32s K) 62 (0, 0))) :
    Calls Try.prog 33 #[.agg (u32s v.list), .pointer (some ⟨gw, 0, none⟩), .pointer (some ⟨gk, 0, none⟩)] w fun e w' => e = .returned (.agg (u32s (Sm.turn K W v).list)) ∧ Below w.heap.size w w' := by
  obtain ⟨a, b, c, d, e, f, g, h⟩ := v
  have cw : ∀ i, i < 64 → w.cell? ⟨gw, i, none⟩ = some (.int .u32 (W.getD i 0 : Nat)) := fun i hi => u32s_cell hw i (by omega)
  have ck : ∀ i, i < 64 → w.cell? ⟨gk, i, none⟩ = some (.int .u32 (K.getD i 0 : Nat)) := fun i hi => u32s_cell hk i (by omega)
  have bw : gw < w.heap.size := (Array.getElem?_eq_some_iff.1 hw).1
  have bk : gk < w.heap.size := (Array.getElem?_eq_some_iff.1 hk).1
  have CW := Lib.hid cw
  have CK := Lib.hid ck
  have LW := Lib.hid lW
  have LK := Lib.hid lK
  have HW := Lib.hid hW
  have HK := Lib.hid hK
  have HV := Lib.hid hv
  clear cw ck lW lK hW hK hv hw hk
  show Calls Try.prog 33 #[.agg #[.int .u32 a, .int .u32 b, .int .u32 c, .int .u32 d, .int .u32 e, .int .u32 f, .int .u32 g, .int .u32 h], .pointer (some ⟨gw, 0, none⟩), .pointer (some ⟨gk, 0, none⟩)] w _
  go_enter Try.func33, Try.ntmps33
  go_wp2_with fail
  go_quiet (fail)
  go_wp2_with fail
  generalize hWB : World.drewN ((w.alloc (.cells #[.int .u32 a, .int .u32 b, .int .u32 c, .int .u32 d, .int .u32 e, .int .u32 f, .int .u32 g, .int .u32 h] 32)).alloc (.cells #[.int .u32 0, .int .u32 0, .int .u32 0, .int .u32 0, .int .u32 0, .int .u32 0, .int .u32 0, .int .u32 0] 32)) nq = WB
  have FB : Facts w WB gw gk W K #[.int .u32 a, .int .u32 b, .int .u32 c, .int .u32 d, .int .u32 e, .int .u32 f, .int .u32 g, .int .u32 h] := by
    subst hWB
    exact Facts.mk' w nq gw gk W K _ _ CW.out CK.out bw bk
  have FF := Lib.hid FB
  clear FB hWB
  go_loopw [7, 8, 9, 10, 11, 12, 13, 14, 38] (fun a' b' c' d' e' f' g' h' i wr => TurnRel K W ⟨a, b, c, d, e, f, g, h⟩ WB a' b' c' d' e' f' g' h' i wr) (fun _ _ _ _ _ _ _ _ i _ => 64 - (intOf i).toNat)
  case atStart => exact ⟨0, by omega, rfl, rfl, rfl, rfl, rfl, rfl, rfl, rfl, rfl, SameHeap.refl _⟩
  case round =>
    obtain ⟨k, hk, rfl, rfl, rfl, rfl, rfl, rfl, rfl, rfl, rfl, hs⟩ := hrel
    have ho : (Sm.rounds K W ⟨a, b, c, d, e, f, g, h⟩ k).ok := Sm.rounds_ok HV.out k
    have HS := Lib.hid hs
    clear hs
    by_cases hlt : k < 64
    · obtain ⟨u, hu⟩ : ∃ u, u = Sm.rounds K W ⟨a, b, c, d, e, f, g, h⟩ k := ⟨_, rfl⟩
      rw [← hu] at ho ⊢
      have HU := Lib.hid hu
      clear hu
      have HO := Lib.hid ho
      obtain ⟨ha, hb, hc, hd, he, hf, hg, hh⟩ := ho
      have xw := (HS.out.cell ⟨gw, k, none⟩).trans (FF.out.cw k hlt)
      have xk := (HS.out.cell ⟨gk, k, none⟩).trans (FF.out.ck k hlt)
      go_wp2_with (go_at_call 35; first | ((with_reducible refine (rot6 _ _ he).mono ?_); rintro _ _ ⟨rfl, rfl⟩) | ((with_reducible refine (rot11 _ _ he).mono ?_); rintro _ _ ⟨rfl, rfl⟩) | ((with_reducible refine (rot25 _ _ he).mono ?_); rintro _ _ ⟨rfl, rfl⟩))
      go_quiet (fail)
      go_wp2_with (go_at_call 35; first | ((with_reducible refine (rot2 _ _ ha).mono ?_); rintro _ _ ⟨rfl, rfl⟩) | ((with_reducible refine (rot13 _ _ ha).mono ?_); rintro _ _ ⟨rfl, rfl⟩) | ((with_reducible refine (rot22 _ _ ha).mono ?_); rintro _ _ ⟨rfl, rfl⟩))
      go_roundw
      case rel =>
        show TurnRel _ _ _ _ _ _ _ _ _ _ _ _ _ _
        rw [← List.getD_eq_getElem?_getD, ← List.getD_eq_getElem?_getD, Sm.t1_int HO.out, Sm.t2_int HO.out]
        refine ⟨k + 1, by omega, by go_num, ?_, ?_, ?_, ?_, ?_, ?_, ?_, ?_, HS.out.drewN _⟩
        · rw [Sm.rounds, ← HU.out]; exact u32_eq (by simp only [Sm.step]; omega)
        · rw [Sm.rounds, ← HU.out]; rfl
        · rw [Sm.rounds, ← HU.out]; rfl
        · rw [Sm.rounds, ← HU.out]; rfl
        · rw [Sm.rounds, ← HU.out]; exact u32_eq (by simp only [Sm.step]; omega)
        · rw [Sm.rounds, ← HU.out]; rfl
        · rw [Sm.rounds, ← HU.out]; rfl
        · rw [Sm.rounds, ← HU.out]; rfl
      case measure => simp [intOf]; omega
    · obtain rfl : k = 64 := by omega
      obtain ⟨u, hu⟩ : ∃ u, u = Sm.rounds K W ⟨a, b, c, d, e, f, g, h⟩ 64 := ⟨_, rfl⟩
      rw [← hu] at ho ⊢
      have HU := Lib.hid hu
      clear hu ho
      have hbox : wr.heap[w.heap.size]? = some (.cells (u32s [a, b, c, d, e, f, g, h]) 32 (0, 0)) := by rw [HS.out.heap]; exact FF.out.box
      obtain ⟨C, hC, hC8⟩ := FF.out.res
      rw [← HS.out.heap] at hC
      have HC := Lib.hid hC
      have HC8 := Lib.hid hC8
      clear hC hC8
      have c0 := u32s_cell hbox 0 (by simp)
      have c1 := u32s_cell hbox 1 (by simp)
      have c2 := u32s_cell hbox 2 (by simp)
      have c3 := u32s_cell hbox 3 (by simp)
      have c4 := u32s_cell hbox 4 (by simp)
      have c5 := u32s_cell hbox 5 (by simp)
      have c6 := u32s_cell hbox 6 (by simp)
      have c7 := u32s_cell hbox 7 (by simp)
      clear hbox
      simp only [List.getD_cons_zero, List.getD_cons_succ] at c0 c1 c2 c3 c4 c5 c6 c7
      go_wp2_with (refine wpList_store_row (by rfl) 32 _ _ (by rfl) (w.heap.size + 1) _ (by rfl) (by rfl) _ _ HC.out (by exact S32) (by exact HC8.out) (by simp [Value.oneCell']) ?_)
      refine ret_row 6 (by kernel_rfl) (w.heap.size + 1) _ _ A32 S32 rfl (setRow_heap _ _ _ _ _ _ HC.out) (by rfl) ?_
      refine ⟨?_, ?_⟩
      · rw [Sm.turn, ← HU.out]
        simp only [u32s, Sm.add8, Sm.V8.list, List.map_cons, List.map_nil, Int.natCast_emod, Int.natCast_add]
        rfl
      · exact Below.setRow ((FF.out.below).trans (HS.out.below.mono FF.out.below.size)) (by omega) _
end Go.Proofs.Ytgdipdmpmaemjaa
