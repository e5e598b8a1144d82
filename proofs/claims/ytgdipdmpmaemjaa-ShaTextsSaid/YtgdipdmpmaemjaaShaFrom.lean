/- The contracts of sha.hexValue and sha.FromHex. -/
import Derived.Test.YtgdipdmpmaemjaaShaEq
namespace Go.Proofs.Ytgdipdmpmaemjaa
open Go.RowKit

def isHex (c : Nat) : Bool := decide (48 ≤ c ∧ c ≤ 57) || decide (97 ≤ c ∧ c ≤ 102)
def hv (c : Nat) : Nat := if 48 ≤ c ∧ c ≤ 57 then c - 48 else if 97 ≤ c ∧ c ≤ 102 then c - 87 else 0
theorem hv_lt (c : Nat) : hv c < 16 := by unfold hv; split <;> (try split) <;> omega
theorem ret_u8b {a b : Int} {x y : Bool} (h : a = b) (h2 : x = y) : Ending.returned (.tuple #[.int .u8 a, .bool x]) = .returned (.tuple #[.int .u8 b, .bool y]) := by rw [h, h2]
set_option maxHeartbeats 400000 in
theorem hexval_any (c : Nat) (hc : c < 256) (w : World) :
    Calls Try.prog 27 #[.int .u8 c] w fun e w' => e = .returned (.tuple #[.int .u8 (hv c : Nat), .bool (isHex c)]) ∧ w = w' := by
  by_cases h1 : 48 ≤ c ∧ c ≤ 57
  · obtain ⟨a1, a2⟩ := h1
    have b1 : (48 : Int) ≤ c := by omega
    have b2 : (c : Int) ≤ 57 := by omega
    go_enter Try.func27, Try.ntmps27
    go_wp2_with fail
    go_ret2
    exact ⟨ret_u8b (by unfold hv; rw [if_pos ⟨a1, a2⟩]; omega) (by unfold isHex; simp [a1, a2]), rfl⟩
  · by_cases h2 : 97 ≤ c ∧ c ≤ 102
    · obtain ⟨a1, a2⟩ := h2
      have b1 : (97 : Int) ≤ c := by omega
      have b2 : (c : Int) ≤ 102 := by omega
      have b3 : (48 : Int) ≤ c := by omega
      have b4 : ¬ ((c : Int) ≤ 57) := by omega
      have H1 := Lib.hid h1
      clear h1
      go_enter Try.func27, Try.ntmps27
      go_wp2_with fail
      go_ret2
      exact ⟨ret_u8b (by unfold hv; rw [if_neg H1.out, if_pos ⟨a1, a2⟩]; omega) (by unfold isHex; simp [a1, a2]), rfl⟩
    · have H1 := Lib.hid h1
      have H2 := Lib.hid h2
      have e0 : hv c = 0 := by unfold hv; rw [if_neg h1, if_neg h2]
      have e1 : isHex c = false := by unfold isHex; rw [decide_eq_false h1, decide_eq_false h2]; rfl
      have E0 := Lib.hid e0
      have E1 := Lib.hid e1
      have d : c < 48 ∨ (57 < c ∧ c < 97) ∨ 102 < c := by omega
      clear h1 h2 e0 e1
      rcases d with d | ⟨d, d2⟩ | d
      · have b1 : ¬ ((48 : Int) ≤ c) := by omega
        have b2 : ¬ ((97 : Int) ≤ c) := by omega
        go_enter Try.func27, Try.ntmps27
        go_wp2_with fail
        go_ret2
        exact ⟨ret_u8b (by rw [E0.out]; rfl) E1.out.symm, rfl⟩
      · have b1 : (48 : Int) ≤ c := by omega
        have b2 : ¬ ((c : Int) ≤ 57) := by omega
        have b3 : ¬ ((97 : Int) ≤ c) := by omega
        go_enter Try.func27, Try.ntmps27
        go_wp2_with fail
        go_ret2
        exact ⟨ret_u8b (by rw [E0.out]; rfl) E1.out.symm, rfl⟩
      · have b1 : (48 : Int) ≤ c := by omega
        have b2 : ¬ ((c : Int) ≤ 57) := by omega
        have b3 : (97 : Int) ≤ c := by omega
        have b4 : ¬ ((c : Int) ≤ 102) := by omega
        go_enter Try.func27, Try.ntmps27
        go_wp2_with fail
        go_ret2
        exact ⟨ret_u8b (by rw [E0.out]; rfl) E1.out.symm, rfl⟩
/-- Two results, the first one an array that lies whole in its block. -/
theorem ret_row2 {fn : Func} {P : Ending → World → Prop} (p u : Tmp) {ty : TypeId} (hr : fn.results = #[.cell p ty, .tmp u]) {tmps : Array Value} {w : World} (g : Nat) (t : TypeId) (cs : Array Value) {n : Nat} {e : TypeId} (x : Value)
    (hu : Try.prog.underlying ty = some (.array n e)) (hi : (Try.prog.info? ty).map (·.size) = some n)
    (hp : tmps.getD p undef = .pointer (some ⟨g, 0, none⟩)) (hx : tmps.getD u undef = x) (hg : w.heap[g]? = some (.cells cs t (0, 0)))
    (hn : cs.size = n) (h : P (.returned (.tuple #[.agg cs, x])) w) : bodyPost Try.prog fn P .ret ⟨tmps, []⟩ w :=
  bodyPost_ret (a := ⟨tmps, []⟩) (v := .tuple #[.agg cs, x]) (by
    rw [results_cell_tmp hr, hp, hx]
    simp only [asAddr, Sem.run_pure, Result.andThen_ok, run_loadVar_row w g t ty cs (0, 0) (.array n e) hg hu rfl (by rw [hn]; exact hi)]) rfl h
theorem built25 : (Try.prog.built 25 []).getD #[] = u8s (zeros 32) := by kernel_rfl
def bytesH (T : List Nat) : Nat → List Nat
  | 0 => []
  | k + 1 => bytesH T k ++ [hv (T.getD (2 * k) 0) * 16 + hv (T.getD (2 * k + 1) 0)]
theorem bytesH_length (T : List Nat) (k : Nat) : (bytesH T k).length = k := by
  induction k with
  | zero => rfl
  | succ k ih => simp [bytesH, ih]
def good (T : List Nat) : Bool := decide (T.length = 64) && T.all isHex
def fromH (T : List Nat) : List Nat := if good T then bytesH T 32 else zeros 32
def FRel (w : World) (r g : Nat) (T : List Nat) (i : Value) (wr : World) : Prop :=
  ∃ k : Nat, k ≤ 32 ∧ i = .int .i64 k ∧ BF 25 32 w wr r g (bytesH T k ++ zeros (32 - k)) ∧ ∀ j, j < 2 * k → isHex (T.getD j 0) = true
theorem good_of {T : List Nat} (h : T.length = 64) (h2 : ∀ j, j < 64 → isHex (T.getD j 0) = true) : good T = true := by
  unfold good
  rw [decide_eq_true h, Bool.true_and, List.all_eq_true]
  intro x hx
  obtain ⟨j, hj, rfl⟩ := List.getElem_of_mem hx
  have := h2 j (by omega)
  rwa [List.getD_eq_getElem?_getD, List.getElem?_eq_getElem hj] at this
theorem bad_of {T : List Nat} {j : Nat} (h : j < T.length) (h2 : isHex (T.getD j 0) = false) : good T = false := by
  unfold good
  rw [Bool.and_eq_false_iff]
  right
  rw [List.all_eq_false]
  refine ⟨T[j], List.getElem_mem h, ?_⟩
  rw [List.getD_eq_getElem?_getD, List.getElem?_eq_getElem h] at h2
  rw [show isHex T[j] = false from h2]
  simp
theorem fromH_len (T : List Nat) : (fromH T).length = 32 := by
  unfold fromH
  split
  · exact bytesH_length T 32
  · simp [zeros]
theorem or_u8 {x y : Nat} (hx : x < 16) (hy : y < 16) : bits .or .u8 (((x : Nat) : Int) * 16 % 256) ((y : Nat) : Int) = ((x * 16 + y : Nat) : Int) := by
  have e1 : ((x : Nat) : Int) * 16 % 256 = ((x * 16 : Nat) : Int) := by omega
  rw [e1, u8_or_nat _ _ (by omega) (by omega)]
  have := Sm.or_shl (a := x) (n := 4) (b := y) (by omega)
  rw [show x * 2 ^ 4 = x * 16 from by omega] at this
  rw [this]
set_option maxRecDepth 100000 in
set_option maxHeartbeats 1000000 in
theorem fromhex_any (s : ByteArray) (_hs : s.size ≤ 9223372036854775807) (w : World) :
    Calls Try.prog 16 #[.string s] w fun e w' => e = .returned (.tuple #[.agg (u8s (fromH (txt s))), .bool (good (txt s))]) ∧ Below w.heap.size w w' := by
  have hz := (zero_of_info Z25).1
  by_cases h64 : s.size = 64
  · have b1 : ((s.size : Int) != 64) = false := by simp; omega
    have H64 := Lib.hid h64
    have hTl : (txt s).length = 64 := by rw [txt_length]; exact h64
    have HTL := Lib.hid hTl
    clear h64 hTl
    go_enter Try.func16, Try.ntmps16
    go_wp2_with fail
    generalize hWB : (w.alloc (.cells (u8s (zeros 32)) 25)).alloc (.cells (u8s (zeros 32)) 25) = WB
    have FB : BF 25 32 w WB w.heap.size (w.heap.size + 1) (zeros 32) := by
      subst hWB
      exact ⟨((Below.refl _ _).alloc (Nat.le_refl _) _).alloc (by simp) _, ⟨_, heap_alloc2_old w _ _, by simp [u8s, zeros]⟩, heap_alloc2_new w _ _, by omega, by omega, by omega⟩
    have FF := Lib.hid FB
    clear FB hWB hz b1
    go_loopw [14] (fun i wr => FRel w w.heap.size (w.heap.size + 1) (txt s) i wr) (fun i _ => 32 - (intOf i).toNat)
    case atStart => exact ⟨0, by omega, rfl, FF.out, fun j hj => by omega⟩
    case round =>
      obtain ⟨k, hk, rfl, hs0, hall⟩ := hrel
      have HS := Lib.hid hs0
      have HALL := Lib.hid hall
      clear hs0 hall FF
      obtain ⟨C, hC, hC8⟩ := HS.out.res
      have HC := Lib.hid hC
      have HC8 := Lib.hid hC8
      clear hC hC8
      by_cases hlt : k < 32
      · obtain ⟨c1, h1⟩ : ∃ c, c = (txt s).getD (2 * k) 0 := ⟨_, rfl⟩
        obtain ⟨c2, h2⟩ : ∃ c, c = (txt s).getD (2 * k + 1) 0 := ⟨_, rfl⟩
        have hc1 : c1 < 256 := by rw [h1]; exact Sm.getD_lt (txt_ok s) (by omega) _
        have hc2 : c2 < 256 := by rw [h2]; exact Sm.getD_lt (txt_ok s) (by omega) _
        have hix1 := fun w' => index_txt s (2 * (k : Int)) (2 * k) (by omega) (by have := H64.out; omega) w'
        have hix2 := fun w' => index_txt s (2 * (k : Int) + 1) (2 * k + 1) (by omega) (by have := H64.out; omega) w'
        rw [← h1] at hix1
        rw [← h2] at hix2
        have X1 := Lib.hid h1
        have X2 := Lib.hid h2
        clear h1 h2
        cases e1 : isHex c1
        · go_wp2_with fail
          refine (hexval_any c1 hc1 _).mono ?_
          rintro _ _ ⟨rfl, rfl⟩
          rw [e1]
          go_wp2_with fail
          refine (hexval_any c2 hc2 _).mono ?_
          rintro _ _ ⟨rfl, rfl⟩
          go_wp2_with (first | (refine wpList_build (by rfl) 25 _ (by rfl) (by as_aux_lemma => kernel_rfl) ?_; rw [built25]) | (refine wpList_store_row (by rfl) 25 _ _ (by rfl) w.heap.size (u8s (zeros 32)) (by rfl) (by rfl) _ _ HC.out (by exact S25) (by exact HC8.out) (u8s_one _) ?_))
          refine ret_row2 2 3 (by kernel_rfl) w.heap.size _ _ (.bool false) A25 S25 rfl rfl (setRow_heap _ _ _ _ _ _ HC.out) rfl ⟨?_, Below.setRow HS.out.below (Nat.le_refl _) _⟩
          rw [fromH, bad_of (T := txt s) (j := 2 * k) (by rw [HTL.out]; omega) (by rw [← X1.out]; exact e1)]
          rfl

        · cases e2 : isHex c2
          · go_wp2_with fail
            refine (hexval_any c1 hc1 _).mono ?_
            rintro _ _ ⟨rfl, rfl⟩
            rw [e1]
            go_wp2_with fail
            refine (hexval_any c2 hc2 _).mono ?_
            rintro _ _ ⟨rfl, rfl⟩
            rw [e2]
            go_wp2_with (first | (refine wpList_build (by rfl) 25 _ (by rfl) (by as_aux_lemma => kernel_rfl) ?_; rw [built25]) | (refine wpList_store_row (by rfl) 25 _ _ (by rfl) w.heap.size (u8s (zeros 32)) (by rfl) (by rfl) _ _ HC.out (by exact S25) (by exact HC8.out) (u8s_one _) ?_))
            refine ret_row2 2 3 (by kernel_rfl) w.heap.size _ _ (.bool false) A25 S25 rfl rfl (setRow_heap _ _ _ _ _ _ HC.out) rfl ⟨?_, Below.setRow HS.out.below (Nat.le_refl _) _⟩
            rw [fromH, bad_of (T := txt s) (j := 2 * k + 1) (by rw [HTL.out]; omega) (by rw [← X2.out]; exact e2)]
            rfl
          · have hst : wr.cell? ⟨w.heap.size + 1, k, none⟩ = some (.int .u8 ((bytesH (txt s) k ++ zeros (32 - k)).getD k 0 : Nat)) := u8s_cell HS.out.row k (by simp [bytesH_length, zeros]; omega)
            have hfr : wr.frozen? ⟨w.heap.size + 1, k, none⟩ = false := frozen_of_row wr _ k _ _ HS.out.row
            have E1 := Lib.hid e1
            have E2 := Lib.hid e2
            go_wp2_with fail
            refine (hexval_any c1 hc1 _).mono ?_
            rintro _ _ ⟨rfl, rfl⟩
            rw [e1]
            go_wp2_with fail
            refine (hexval_any c2 hc2 _).mono ?_
            rintro _ _ ⟨rfl, rfl⟩
            rw [e2]
            go_wp2_with fail
            go_roundw
            case rel =>
              have eo := or_u8 (hv_lt c1) (hv_lt c2)
              rw [eo]
              refine ⟨k + 1, by omega, by simp, ?_, ?_⟩
              · have eb : bytesH (txt s) (k + 1) = bytesH (txt s) k ++ [hv c1 * 16 + hv c2] := by rw [bytesH, ← X1.out, ← X2.out]
                have ez : zeros (32 - k) = 0 :: zeros (32 - (k + 1)) := by
                  rw [show 32 - k = (32 - (k + 1)) + 1 from by omega]
                  rfl
                rw [eb, List.append_assoc]
                have hb : BF 25 32 w wr w.heap.size (w.heap.size + 1) (bytesH (txt s) k ++ 0 :: zeros (32 - (k + 1))) := by
                  rw [← ez]
                  exact HS.out
                exact BF.store (y := 0) hb k (bytesH_length _ k) _
              · intro j hj
                by_cases hj1 : j < 2 * k
                · exact HALL.out j hj1
                · by_cases hj2 : j = 2 * k
                  · rw [hj2, ← X1.out]; exact E1.out
                  · rw [show j = 2 * k + 1 from by omega, ← X2.out]; exact E2.out
            case measure => simp [intOf]; omega
      · obtain rfl : k = 32 := by omega
        have hrow : wr.heap[w.heap.size + 1]? = some (.cells (u8s (bytesH (txt s) 32)) 25 (0, 0)) := by
          have := HS.out.row
          rwa [show zeros (32 - 32) = [] from rfl, List.append_nil] at this
        have HR := Lib.hid hrow
        have hsz : (u8s (bytesH (txt s) 32)).size = 32 := by rw [u8s_size, bytesH_length]
        have HSZ := Lib.hid hsz
        have hgood : good (txt s) = true := good_of HTL.out (fun j hj => HALL.out j (by omega))
        have HGD := Lib.hid hgood
        clear hrow hsz hgood
        go_wp2_with (first | (refine wpList_load_row (by rfl) 25 _ (by rfl) (w.heap.size + 1) (by rfl) 25 _ (0, 0) _ HR.out A25 (by rfl) (by rw [HSZ.out]; exact S25) ?_) | (refine wpList_store_row (by rfl) 25 _ _ (by rfl) w.heap.size (u8s (bytesH (txt s) 32)) (by rfl) (by rfl) _ _ HC.out (by rw [HSZ.out]; exact S25) (by rw [HSZ.out]; exact HC8.out) (u8s_one _) ?_))
        refine ret_row2 2 3 (by kernel_rfl) w.heap.size _ _ (.bool true) A25 S25 rfl rfl (setRow_heap _ _ _ _ _ _ HC.out) HSZ.out ⟨?_, Below.setRow HS.out.below (Nat.le_refl _) _⟩
        rw [fromH, HGD.out]
        rfl
  · have b1 : ((s.size : Int) != 64) = true := by simp; omega
    have hbad : good (txt s) = false := by unfold good; rw [txt_length, decide_eq_false h64]; rfl
    have HBAD := Lib.hid hbad
    clear hbad
    go_enter Try.func16, Try.ntmps16
    go_wp2_with (first | (refine wpList_build (by rfl) 25 _ (by rfl) (by as_aux_lemma => kernel_rfl) ?_; rw [built25]) | (refine wpList_store_row (by rfl) 25 _ _ (by rfl) w.heap.size (u8s (zeros 32)) (by rfl) (by rfl) _ _ (heap_alloc2_old w _ _) (by exact S25) (by rfl) (u8s_one _) ?_))
    refine ret_row2 2 3 (by kernel_rfl) w.heap.size _ _ (.bool false) A25 S25 rfl rfl (setRow_heap _ _ _ _ _ _ (heap_alloc2_old w _ _)) rfl ⟨?_, Below.setRow (((Below.refl _ _).alloc (Nat.le_refl _) _).alloc (by simp) _) (Nat.le_refl _) _⟩
    rw [fromH, HBAD.out]
    rfl
end Go.Proofs.Ytgdipdmpmaemjaa
