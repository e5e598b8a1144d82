/- The walk of ShaHex. -/
import Derived.Test.YtffjmkbglhcblaaShaHexLaw
import Derived.Deep.QuietTactic
import Derived.BigQuiet
namespace Go.Proofs.Ytffjmkbglhcblaa
open Go.RowKit

/-- 'wpList_load_row' under a guard that says yes. -/
theorem wpList_load_rowG {ops : Array Oper} {rest : List Oper} {o : Oper} {a : Act} {w : World} {Q : Exit → Act → World → Prop} (hw : Region.wanted o (yielded ops a.tmps) = true) (ty : TypeId) (x : Operand) (ho : o.op = .load ty x)
    (g : Nat) (hx : a.eval x = .pointer (some ⟨g, 0, none⟩)) (t : TypeId) (cs : Array Value) (fr : Nat × Nat) {n : Nat} {e : TypeId} (hg : w.heap[g]? = some (.cells cs t fr))
    (hu : Try.prog.underlying ty = some (.array n e)) (hi : (Try.prog.info? ty).map (·.size) = some cs.size)
    (h : wpList Try.prog ops Q rest (a.put o.dst (.agg cs)) w) : wpList Try.prog ops Q (o :: rest) a w :=
  BigFrame.wpList_want hw fun _ hK => wp_load_row ty x ho g hx t cs fr _ hg hu rfl hi (hK _ _ h)
theorem all_step (T : List Nat) (k : Nat) (h : k < T.length) : (T.take (k + 1)).all isHex = ((T.take k).all isHex && isHex (T.getD k 0)) := by
  rw [List.take_succ_eq_append_getElem h, List.all_append, List.getD_eq_getElem?_getD, List.getElem?_eq_getElem h]
  simp
set_option maxRecDepth 100000 in
set_option maxHeartbeats 1000000 in
theorem hexlaw_any (d : List Nat) (hd : d.length = 32) (hdb : Sm.allB d) (s : ByteArray) (hs : s.size ≤ 9223372036854775807) (w : World) :
    Calls Try.prog 5 #[.agg (u8s d), .string s] w fun e w' => e = .returned (.bool true) ∧ Below w.heap.size w w' := by
  have HD := Lib.hid hd
  have hz := (zero_of_info Z25).1
  have hsz : (u8s d).size = 32 := by rw [u8s_size, hd]
  have HSZ := Lib.hid hsz
  clear hd hsz
  go_enter Try.func5, Try.ntmps5
  go_wp2_with fail
  refine (alive_any _).mono ?_
  rintro _ w1 ⟨rfl, hb1⟩
  have hB1 : Below w.heap.size w w1 := ((Below.refl w.heap.size w).alloc (Nat.le_refl _) _).trans (hb1.mono (by simp))
  have hR1 : w1.heap[w.heap.size]? = some (.cells (u8s d) 25 (0, 0)) := (hb1.block _ (by simp)).trans (heap_alloc_new w _)
  have HB1 := Lib.hid hB1
  have HR1 := Lib.hid hR1
  clear hb1 hB1 hR1
  by_cases h200 : 200 < s.size
  · have b1 : (200 : Int) < s.size := by omega
    go_wp2_with fail
    go_ret
    exact ⟨rfl, HB1.out⟩
  · have b1 : ¬ ((200 : Int) < s.size) := by omega
    go_wp2_with (refine wpList_load_row (by rfl) 25 _ (by rfl) w.heap.size (by rfl) 25 _ (0, 0) _ HR1.out A25 (by rfl) (by rw [HSZ.out]; exact S25) ?_)
    refine (hex_any d HD.out hdb _).mono ?_
    rintro _ w2 ⟨rfl, hb2⟩
    have hR2 := (hb2.block _ (Array.getElem?_eq_some_iff.1 HR1.out).1).trans HR1.out
    have HR2 := Lib.hid hR2
    have hB2 : Below w.heap.size w w2 := HB1.out.trans (hb2.mono HB1.out.size)
    have HB2 := Lib.hid hB2
    clear hR2 hb2 hB2
    have hhs : (strOf (hexs d)).size = 64 := by rw [strOf_size, hexs_length, HD.out]
    have HHS := Lib.hid hhs
    clear hhs
    obtain ⟨hx, hhx⟩ : ∃ x, x = strOfNums ((hexs d).map Int.ofNat) := ⟨_, rfl⟩
    rw [← hhx]
    have HHX := Lib.hid hhx
    clear hhx
    go_wp2_with fail
    refine (fromhex_any hx (by have := HHS.out; rw [show strOf (hexs d) = hx from HHX.out.symm] at this; omega) _).mono ?_
    rintro _ w3 ⟨rfl, hb3⟩
    have etx : txt hx = hexs d := by rw [HHX.out]; exact txt_strOf (hexs_ok d hdb)
    rw [etx, fromH_hexs HD.out hdb, good_hexs HD.out hdb]
    have hR3 := (hb3.block _ (Array.getElem?_eq_some_iff.1 HR2.out).1).trans HR2.out
    have hB3 : Below w.heap.size w w3 := HB2.out.trans (hb3.mono HB2.out.size)
    have hne : ∀ w', (binOp .neq 25 (.agg (u8s d)) (.agg (u8s d))).run Try.prog w' = .ok (.bool false) w' := fun w' => by rw [digest_neq _ _ HD.out HD.out]; simp
    have hlt3 : w.heap.size < w3.heap.size := (Array.getElem?_eq_some_iff.1 hR3).1
    have HR3 := Lib.hid hR3
    have HB3 := Lib.hid hB3
    have ETX := Lib.hid etx
    have hlen : hx.size = 64 := by have := HHS.out; rw [show strOf (hexs d) = hx from HHX.out.symm] at this; exact this
    have HLEN := Lib.hid hlen
    have b2 : ((hx.size : Int) != 64) = false := by simp; omega
    clear hb3 etx hR3 hB3
    go_wp2_with (first | (refine wpList_store_row (by rfl) 25 _ _ (by rfl) w3.heap.size (u8s d) (by rfl) (by rfl) _ _ (heap_alloc_new w3 _) (by rw [HSZ.out]; exact S25) (by rw [HSZ.out]; simp [u8s, zeros]) (u8s_one _) ?_; rw [setRow_alloc]) | (refine wpList_load_rowG (by rfl) 25 _ (by rfl) w3.heap.size (by rfl) 25 _ (0, 0) (heap_alloc_new w3 _) A25 (by rw [HSZ.out]; exact S25) ?_) | (refine wpList_load_rowG (by rfl) 25 _ (by rfl) w.heap.size (by rfl) 25 _ (0, 0) ((Below.heap_alloc _ _ _ hlt3).trans HR3.out) A25 (by rw [HSZ.out]; exact S25) ?_))
    have hWB : Below w.heap.size w (w3.alloc (.cells (u8s d) 25)) := HB3.out.alloc (by omega) _
    have hRB : (w3.alloc (.cells (u8s d) 25)).heap[w.heap.size]? = some (.cells (u8s d) 25 (0, 0)) := (Below.heap_alloc _ _ _ hlt3).trans HR3.out
    clear hlt3
    generalize w3.alloc (.cells (u8s d) 25) = WB at hWB hRB ⊢
    have HWB := Lib.hid hWB
    have HRB := Lib.hid hRB
    clear hWB hRB b2 hne HB1 HR1 HB2 HR2 HB3 HR3 hlen
    go_loopw [8] (fun i wr => ∃ k : Nat, k ≤ 32 ∧ i = .int .i64 k ∧ Below w.heap.size w wr ∧ wr.heap[w.heap.size]? = some (.cells (u8s d) 25 (0, 0))) (fun i _ => 32 - (intOf i).toNat)
    case atStart => exact ⟨0, by omega, rfl, HWB.out, HRB.out⟩
    case round =>
      obtain ⟨k, hk, rfl, hbr, hrr⟩ := hrel
      have HBR := Lib.hid hbr
      have HRR := Lib.hid hrr
      clear hbr hrr
      by_cases hlt : k < 32
      · have hc : wr.cell? ⟨w.heap.size, k, none⟩ = some (.int .u8 (d.getD k 0 : Nat)) := u8s_cell HRR.out k (by rw [HD.out]; exact hlt)
        have hd8 : d.getD k 0 < 256 := Sm.getD_lt hdb (by omega) k
        obtain ⟨h1, h2⟩ := hexs_get d k (by rw [HD.out]; exact hlt)
        have hix1 := fun w' => index_txt hx (2 * (k : Int)) (2 * k) (by omega) (by have := HLEN.out; omega) w'
        have hix2 := fun w' => index_txt hx (2 * (k : Int) + 1) (2 * k + 1) (by omega) (by have := HLEN.out; omega) w'
        rw [ETX.out, h1] at hix1
        rw [ETX.out, h2] at hix2
        clear h1 h2
        generalize d.getD k 0 = x at hc hd8 hix1 hix2
        have hdg1 : ∀ w', (Instr.index 9 (.string ⟨#[48, 49, 50, 51, 52, 53, 54, 55, 56, 57, 97, 98, 99, 100, 101, 102]⟩) (.int .u8 ((x : Int) / 16))).run Try.prog w' = .ok (.int .u8 (hexd (x / 16) : Nat)) w' := fun w' => by
          rw [show (x : Int) / 16 = ((x / 16 : Nat) : Int) from by omega]; exact index_digits .u8 (x / 16) (by omega) w'
        have hdg2 : ∀ w', (Instr.index 9 (.string ⟨#[48, 49, 50, 51, 52, 53, 54, 55, 56, 57, 97, 98, 99, 100, 101, 102]⟩) (.int .u8 ((x : Int) % 16))).run Try.prog w' = .ok (.int .u8 (hexd (x % 16) : Nat)) w' := fun w' => by
          rw [show (x : Int) % 16 = ((x % 16 : Nat) : Int) from by omega]; exact index_digits .u8 (x % 16) (by omega) w'
        go_wp2_with fail
        go_quiet (fail)
        go_wp2_with fail
        go_roundw
        case rel => exact ⟨k + 1, by omega, by simp, ⟨HBR.out.os, HBR.out.tape, HBR.out.output, HBR.out.size, HBR.out.block⟩, HRR.out⟩
        case measure => simp [intOf]; omega
      · obtain rfl : k = 32 := by omega
        clear hk hlt
        clear HRR HWB HRB
        go_wp2_with fail
        go_loopw [9, 10] (fun g i wr' => ∃ k : Nat, k ≤ s.size ∧ i = .int .i64 k ∧ g = .bool (decide (s.size = 64) && ((txt s).take k).all isHex) ∧ Below w.heap.size w wr') (fun _ i _ => s.size - (intOf i).toNat)
        case atStart => exact ⟨0, by omega, rfl, by rw [List.take_zero, List.all_nil, Bool.and_true]; exact congrArg Value.bool (by by_cases h : s.size = 64 <;> simp [h] <;> omega), HBR.out⟩
        case round =>
          obtain ⟨k, hk, rfl, rfl, hbq⟩ := hrel
          have HBQ := Lib.hid hbq
          clear hbq
          by_cases hlt : k < s.size
          · obtain ⟨c, hc⟩ : ∃ c, c = (txt s).getD k 0 := ⟨_, rfl⟩
            have hc8 : c < 256 := by rw [hc]; exact Sm.getD_lt (txt_ok s) (by omega) _
            have hix := fun w' => index_txt s (k : Int) k rfl hlt w'
            rw [← hc] at hix
            have hst := all_step (txt s) k (by rw [txt_length]; exact hlt)
            rw [← hc] at hst
            have HST := Lib.hid hst
            clear hst
            cases hg : (decide (s.size = 64) && ((txt s).take k).all isHex)
            · have hn : (decide (s.size = 64) && ((txt s).take (k + 1)).all isHex) = false := by rw [HST.out, ← Bool.and_assoc, hg]; rfl
              have HN := Lib.hid hn
              clear hn hc
              go_wp2_with fail
              go_roundw
              case rel => exact ⟨k + 1, by omega, by simp, (by rw [HN.out]), ⟨HBQ.out.os, HBQ.out.tape, HBQ.out.output, HBQ.out.size, HBQ.out.block⟩⟩
              case measure => simp [intOf]; omega
            · have hn : (decide (s.size = 64) && ((txt s).take (k + 1)).all isHex) = isHex c := by rw [HST.out, ← Bool.and_assoc, hg]; rfl
              have HN := Lib.hid hn
              clear hn hc
              have d5 : c < 48 ∨ (48 ≤ c ∧ c ≤ 57) ∨ (57 < c ∧ c < 97) ∨ (97 ≤ c ∧ c ≤ 102) ∨ 102 < c := by omega
              rcases d5 with q | ⟨q, q2⟩ | ⟨q, q2⟩ | ⟨q, q2⟩ | q
              · have a1 : ¬ ((48 : Int) ≤ c) := by omega
                have a1d : decide ((48 : Int) ≤ c) = false := decide_eq_false a1
                have a2 : (c : Int) ≤ 57 := by omega
                have a2d : decide ((c : Int) ≤ 57) = true := decide_eq_true a2
                have a3 : ¬ ((97 : Int) ≤ c) := by omega
                have a3d : decide ((97 : Int) ≤ c) = false := decide_eq_false a3
                have a4 : (c : Int) ≤ 102 := by omega
                have a4d : decide ((c : Int) ≤ 102) = true := decide_eq_true a4
                have hv : isHex c = false := by unfold isHex; rw [decide_eq_false (by omega), decide_eq_false (by omega)]; rfl
                have HV := Lib.hid (HN.out.trans hv)
                clear hv
                go_wp2_with fail
                go_roundw
                case rel => exact ⟨k + 1, by omega, by simp, (by rw [HV.out]), ⟨HBQ.out.os, HBQ.out.tape, HBQ.out.output, HBQ.out.size, HBQ.out.block⟩⟩
                case measure => simp [intOf]; omega
              · have a1 : (48 : Int) ≤ c := by omega
                have a1d : decide ((48 : Int) ≤ c) = true := decide_eq_true a1
                have a2 : (c : Int) ≤ 57 := by omega
                have a2d : decide ((c : Int) ≤ 57) = true := decide_eq_true a2
                have a3 : ¬ ((97 : Int) ≤ c) := by omega
                have a3d : decide ((97 : Int) ≤ c) = false := decide_eq_false a3
                have a4 : (c : Int) ≤ 102 := by omega
                have a4d : decide ((c : Int) ≤ 102) = true := decide_eq_true a4
                have hv : isHex c = true := by unfold isHex; simp; omega
                have HV := Lib.hid (HN.out.trans hv)
                clear hv
                go_wp2_with fail
                go_roundw
                case rel => exact ⟨k + 1, by omega, by simp, (by rw [HV.out]), ⟨HBQ.out.os, HBQ.out.tape, HBQ.out.output, HBQ.out.size, HBQ.out.block⟩⟩
                case measure => simp [intOf]; omega
              · have a1 : (48 : Int) ≤ c := by omega
                have a1d : decide ((48 : Int) ≤ c) = true := decide_eq_true a1
                have a2 : ¬ ((c : Int) ≤ 57) := by omega
                have a2d : decide ((c : Int) ≤ 57) = false := decide_eq_false a2
                have a3 : ¬ ((97 : Int) ≤ c) := by omega
                have a3d : decide ((97 : Int) ≤ c) = false := decide_eq_false a3
                have a4 : (c : Int) ≤ 102 := by omega
                have a4d : decide ((c : Int) ≤ 102) = true := decide_eq_true a4
                have hv : isHex c = false := by unfold isHex; rw [decide_eq_false (by omega), decide_eq_false (by omega)]; rfl
                have HV := Lib.hid (HN.out.trans hv)
                clear hv
                go_wp2_with fail
                go_roundw
                case rel => exact ⟨k + 1, by omega, by simp, (by rw [HV.out]), ⟨HBQ.out.os, HBQ.out.tape, HBQ.out.output, HBQ.out.size, HBQ.out.block⟩⟩
                case measure => simp [intOf]; omega
              · have a1 : (48 : Int) ≤ c := by omega
                have a1d : decide ((48 : Int) ≤ c) = true := decide_eq_true a1
                have a2 : ¬ ((c : Int) ≤ 57) := by omega
                have a2d : decide ((c : Int) ≤ 57) = false := decide_eq_false a2
                have a3 : (97 : Int) ≤ c := by omega
                have a3d : decide ((97 : Int) ≤ c) = true := decide_eq_true a3
                have a4 : (c : Int) ≤ 102 := by omega
                have a4d : decide ((c : Int) ≤ 102) = true := decide_eq_true a4
                have hv : isHex c = true := by unfold isHex; simp; omega
                have HV := Lib.hid (HN.out.trans hv)
                clear hv
                go_wp2_with fail
                go_roundw
                case rel => exact ⟨k + 1, by omega, by simp, (by rw [HV.out]), ⟨HBQ.out.os, HBQ.out.tape, HBQ.out.output, HBQ.out.size, HBQ.out.block⟩⟩
                case measure => simp [intOf]; omega
              · have a1 : (48 : Int) ≤ c := by omega
                have a1d : decide ((48 : Int) ≤ c) = true := decide_eq_true a1
                have a2 : ¬ ((c : Int) ≤ 57) := by omega
                have a2d : decide ((c : Int) ≤ 57) = false := decide_eq_false a2
                have a3 : (97 : Int) ≤ c := by omega
                have a3d : decide ((97 : Int) ≤ c) = true := decide_eq_true a3
                have a4 : ¬ ((c : Int) ≤ 102) := by omega
                have a4d : decide ((c : Int) ≤ 102) = false := decide_eq_false a4
                have hv : isHex c = false := by unfold isHex; rw [decide_eq_false (by omega), decide_eq_false (by omega)]; rfl
                have HV := Lib.hid (HN.out.trans hv)
                clear hv
                go_wp2_with fail
                go_roundw
                case rel => exact ⟨k + 1, by omega, by simp, (by rw [HV.out]), ⟨HBQ.out.os, HBQ.out.tape, HBQ.out.output, HBQ.out.size, HBQ.out.block⟩⟩
                case measure => simp [intOf]; omega
          · obtain rfl : k = s.size := by omega
            clear hk hlt
            go_wp2_with fail
            rw [show (txt s).take s.size = txt s from List.take_of_length_le (by rw [txt_length]; exact Nat.le_refl _)]
            rw [show (decide (s.size = 64) && (txt s).all isHex) = good (txt s) from by unfold good; rw [txt_length]]
            refine (fromhex_any s hs _).mono ?_
            rintro _ w4 ⟨rfl, hb4⟩
            have HB4 := Lib.hid (HBQ.out.trans (hb4.mono HBQ.out.size))
            clear hb4
            have hfs : (u8s (fromH (txt s))).size = 32 := by rw [u8s_size, fromH_len]
            have HFS := Lib.hid hfs
            clear hfs
            cases hg : good (txt s)
            · have hf0 : fromH (txt s) = zeros 32 := by unfold fromH; rw [hg]; rfl
              rw [hf0]
              have heq : ∀ w', (binOp .eql 25 (.agg (u8s (zeros 32))) (.agg (u8s (zeros 32)))).run Try.prog w' = .ok (.bool true) w' := fun w' => by rw [digest_eql _ _ rfl rfl]; simp
              go_wp2_with (first | (refine wpList_build (by rfl) 25 _ (by rfl) (by as_aux_lemma => kernel_rfl) ?_; rw [built25]) | (refine wpList_store_row (by rfl) 25 _ _ (by rfl) w4.heap.size (u8s (zeros 32)) (by rfl) (by rfl) _ _ (heap_alloc_new w4 _) (by exact S25) (by simp [u8s, zeros]) (u8s_one _) ?_; rw [setRow_alloc]) | (refine wpList_load_rowG (by rfl) 25 _ (by rfl) w4.heap.size (by rfl) 25 _ (0, 0) (heap_alloc_new w4 _) A25 (by exact S25) ?_))
              go_ret
              exact ⟨rfl, HB4.out.alloc HB4.out.size _⟩
            · have hx2 := hexs_fromH hg
              have hst2 : strOfNums ((hexs (fromH (txt s))).map Int.ofNat) = s := by rw [hx2]; exact strOf_txt s
              have HST2 := Lib.hid hst2
              clear hx2 hst2 hg
              go_wp2_with (first | (refine wpList_store_row (by rfl) 25 _ _ (by rfl) w4.heap.size (u8s (fromH (txt s))) (by rfl) (by rfl) _ _ (heap_alloc_new w4 _) (by rw [HFS.out]; exact S25) (by rw [HFS.out]; simp [u8s, zeros]) (u8s_one _) ?_; rw [setRow_alloc]) | (refine wpList_load_rowG (by rfl) 25 _ (by rfl) w4.heap.size (by rfl) 25 _ (0, 0) (heap_alloc_new w4 _) A25 (by rw [HFS.out]; exact S25) ?_))
              refine (hex_any (fromH (txt s)) (fromH_len _) (fromH_ok _) _).mono ?_
              rintro _ w5 ⟨rfl, hb5⟩
              rw [HST2.out]
              have HB5 := Lib.hid ((HB4.out.alloc HB4.out.size _).trans (hb5.mono (by have := HB4.out.size; simp; omega)))
              clear hb5
              go_wp2_with fail
              go_ret
              exact ⟨rfl, HB5.out⟩
end Go.Proofs.Ytffjmkbglhcblaa
