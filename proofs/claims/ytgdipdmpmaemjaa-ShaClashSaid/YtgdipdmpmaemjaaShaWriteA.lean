/- The contract of State.Write: nothing was written so far. -/
import Derived.Test.YtgdipdmpmaemjaaShaWrite
namespace Go.Proofs.Ytgdipdmpmaemjaa
open Go.RowKit

set_option maxRecDepth 100000 in
set_option maxHeartbeats 1000000 in
theorem write_a (T B : List Nat) (g : Nat) (p : Option Addr) (len cap : Nat) (w : World) (hT : T = []) (v : Sm.V8) (bl : List Nat) (hh : Held T v bl)
    (hg : w.heap[g]? = some (.cells (stL v bl T.length).toArray 36 (0, 0)))
    (hB : Bytes w p len cap B) (hn : B ≠ [] → ∀ a, p = some a → a.block ≠ g) (hl : (T ++ B).length < 1152921504606846976) :
    Calls Try.prog 12 #[.pointer (some ⟨g, 0, none⟩), .slice p len cap] w fun e w' => e = .returned (.tuple #[]) ∧ StateAt w' g (T ++ B) ∧ w.grownBy w' (some g) := by
  subst hT
  have hcl : w.cell? ⟨g, 72, none⟩ = some (.int .u64 0) := st_len hg hh.size
  have hfl : w.frozen? ⟨g, 72, none⟩ = false := frozen_of_row w g _ _ _ hg
  have hlen := hB.size
  have hb1 : len < 1152921504606846976 := by simp at hl; omega
  have HLT := Lib.hid (show (([] : List Nat) ++ B).length = len from by simp; omega)
  have HG := Lib.hid hg
  have HTO := Lib.hid hh.ok
  have HBO := Lib.hid hh.bok
  have HSZ := Lib.hid hh.size
  have HB := Lib.hid hB
  clear hg hh hB hlen
  go_enter Try.func12, Try.ntmps12
  go_wp2_with fail
  refine (firstWords_any w).mono ?_
  rintro _ w2 ⟨rfl, hb2⟩
  have hg2 : w2.heap[g]? = _ := (hb2.block g (Array.getElem?_eq_some_iff.1 HG.out).1).trans HG.out
  have hst := st_store hg2 HSZ.out Sm.first
  have hg3 := st_set_words hg2 Sm.first
  have hcl2 : (w2.setCells g 0 (w32 Sm.first.list)).cell? ⟨g, 72, none⟩ = some (.int .u64 0) := st_len hg3 HSZ.out
  have hfl2 : (w2.setCells g 0 (w32 Sm.first.list)).frozen? ⟨g, 72, none⟩ = false := frozen_of_row _ g _ _ _ hg3
  have hu8 := size8 Sm.first
  have HB2 := Lib.hid hb2
  have HG3 := Lib.hid hg3
  clear hb2 hg2 hg3 hcl hfl
  go_wp2_with fail
  obtain ⟨v, hv⟩ : ∃ v, v = Sm.first := ⟨_, rfl⟩
  have HS := Lib.hid (show Start [] v from ⟨by rw [hv]; exact Sm.first_ok, rfl, hv⟩)
  have HVV := Lib.hid HS.out.1
  rw [← hv] at HG3 ⊢
  generalize hW1 : (w2.setCells g 0 (w32 v.list)).setCell ⟨g, 72, none⟩ (.int .u64 (len : Int)) = W1
  have hM : Mid w W1 g v bl len p len cap B := by
    subst hW1
    have h1 : w.grownBy (w2.setCells g 0 (w32 v.list)) (some g) := grown_setCells ⟨HB2.out.os, HB2.out.tape, HB2.out.output, HB2.out.size, fun k hk _ => HB2.out.block k hk⟩ 0 _
    have h2 : w.grownBy ((w2.setCells g 0 (w32 v.list)).setCell ⟨g, 72, none⟩ (.int .u64 (len : Int))) (some g) := grown_setCells h1 72 [.int .u64 (len : Int)]
    exact ⟨st_set_len HG3.out HSZ.out _, HSZ.out, HB.out.grown h2 hn, hn, h2⟩
  have HM := Lib.hid hM
  clear hW1 hM HG HB hst hcl2 hfl2 hu8 HG3 HB2 hv
  obtain ⟨F, hF⟩ : ∃ F, F = len - len % 64 := ⟨_, rfl⟩
  rw [show (len : Int) - (len : Int) % 64 = (F : Int) from by omega]
  have hFl : F ≤ len := by omega
  have hF64 : F % 64 = 0 := by omega
  have HF := Lib.hid hF
  have HF64 := Lib.hid hF64
  clear hF hF64
  rcases HM.out.bytes.at' with hc | ⟨gb, ob, hp, hx⟩
  · subst hc
    cases p with
    | none =>
      obtain rfl : len = 0 := by have := HM.out.bytes.le; omega
      obtain rfl : F = 0 := by omega
      obtain ⟨U, hU⟩ : ∃ U, U = Sm.blocks (B.take 0) v ((B.take 0).length / 64) := ⟨_, rfl⟩
      have HA := all_any v HVV.out (B.take 0) none 0 0 W1.drew ((HM.out.bytes.take 0 hFl).heap rfl) (by simp)
      rw [show ((0 : Nat) : Int) = 0 from rfl]
      rw [← hU] at HA
      have HAA := Lib.hid HA
      have HU := Lib.hid hU
      clear HA hU
      obtain ⟨a, b, c, d, e, f, h, k⟩ := v
      have c0 : W1.cell? ⟨g, 0, none⟩ = some (.int .u32 a) := st_cell HM.out.row 0 (by omega)
      have c1 : W1.cell? ⟨g, 1, none⟩ = some (.int .u32 b) := st_cell HM.out.row 1 (by omega)
      have c2 : W1.cell? ⟨g, 2, none⟩ = some (.int .u32 c) := st_cell HM.out.row 2 (by omega)
      have c3 : W1.cell? ⟨g, 3, none⟩ = some (.int .u32 d) := st_cell HM.out.row 3 (by omega)
      have c4 : W1.cell? ⟨g, 4, none⟩ = some (.int .u32 e) := st_cell HM.out.row 4 (by omega)
      have c5 : W1.cell? ⟨g, 5, none⟩ = some (.int .u32 f) := st_cell HM.out.row 5 (by omega)
      have c6 : W1.cell? ⟨g, 6, none⟩ = some (.int .u32 h) := st_cell HM.out.row 6 (by omega)
      have c7 : W1.cell? ⟨g, 7, none⟩ = some (.int .u32 k) := st_cell HM.out.row 7 (by omega)
      go_region_law ((go_simp; go_at_call 24; refine HAA.out.mono ?_; rintro _ w4 ⟨rfl, hb4⟩; have m4 := Lib.hid (HM.out.later (below_of hb4 rfl rfl rfl rfl)); clear hb4; have hst4 := st_store m4.out.row m4.out.size U; have hu8 := size8 U))
      generalize hW5 : w4.setCells g 0 (w32 U.list) = W5
      have m5 := m4.out.words U
      rw [hW5] at m5
      have M5 := Lib.hid m5
      clear hW5 m5 hst4 hu8 m4 c0 c1 c2 c3 c4 c5 c6 c7
      go_wp2_with fail
      have hcp := run_copy_none (P := Try.prog) W5.drew 22 22 3 5 (some ⟨g, 8, none⟩) none 64 64 0 0 A22 E5 (by rfl)
      go_still_tail 7, (by kernel_rfl)
      go_wp2_with fail
      go_end0
      have hfin := Held.next HS.out HTO.out M5.out.bytes.ok hl M5.out.bytes.size (show 0 = 0 - 0 % 64 from rfl) HU.out M5.out.size HBO.out
      have e1 : B.drop 0 = [] := List.drop_eq_nil_of_le (by have := M5.out.bytes.size; omega)
      rw [e1, Nat.sub_self, List.drop_zero, List.nil_append] at hfin
      refine ⟨rfl, ⟨U, bl, hfin, ?_⟩, ?_⟩
      · have h0 := HLT.out; (try simp only [List.nil_append] at h0); rw [h0]; exact M5.out.row
      · exact ⟨M5.out.grown.os, M5.out.grown.tape, M5.out.grown.output, M5.out.grown.size, M5.out.grown.block⟩
    | some x =>
      obtain rfl : len = 0 := by have := HM.out.bytes.le; omega
      obtain rfl : F = 0 := by omega
      obtain ⟨U, hU⟩ : ∃ U, U = Sm.blocks (B.take 0) v ((B.take 0).length / 64) := ⟨_, rfl⟩
      have HA := all_any v HVV.out (B.take 0) (some x) 0 0 W1.drew ((HM.out.bytes.take 0 hFl).heap rfl) (by simp)
      rw [show ((0 : Nat) : Int) = 0 from rfl]
      rw [← hU] at HA
      have HAA := Lib.hid HA
      have HU := Lib.hid hU
      clear HA hU
      obtain ⟨a, b, c, d, e, f, h, k⟩ := v
      have c0 : W1.cell? ⟨g, 0, none⟩ = some (.int .u32 a) := st_cell HM.out.row 0 (by omega)
      have c1 : W1.cell? ⟨g, 1, none⟩ = some (.int .u32 b) := st_cell HM.out.row 1 (by omega)
      have c2 : W1.cell? ⟨g, 2, none⟩ = some (.int .u32 c) := st_cell HM.out.row 2 (by omega)
      have c3 : W1.cell? ⟨g, 3, none⟩ = some (.int .u32 d) := st_cell HM.out.row 3 (by omega)
      have c4 : W1.cell? ⟨g, 4, none⟩ = some (.int .u32 e) := st_cell HM.out.row 4 (by omega)
      have c5 : W1.cell? ⟨g, 5, none⟩ = some (.int .u32 f) := st_cell HM.out.row 5 (by omega)
      have c6 : W1.cell? ⟨g, 6, none⟩ = some (.int .u32 h) := st_cell HM.out.row 6 (by omega)
      have c7 : W1.cell? ⟨g, 7, none⟩ = some (.int .u32 k) := st_cell HM.out.row 7 (by omega)
      go_region_law ((go_simp; go_at_call 24; refine HAA.out.mono ?_; rintro _ w4 ⟨rfl, hb4⟩; have m4 := Lib.hid (HM.out.later (below_of hb4 rfl rfl rfl rfl)); clear hb4; have hst4 := st_store m4.out.row m4.out.size U; have hu8 := size8 U))
      generalize hW5 : w4.setCells g 0 (w32 U.list) = W5
      have m5 := m4.out.words U
      rw [hW5] at m5
      have M5 := Lib.hid m5
      clear hW5 m5 hst4 hu8 m4 c0 c1 c2 c3 c4 c5 c6 c7
      go_wp2_with fail
      have hcp := run_copy_none (P := Try.prog) W5.drew 22 22 3 5 (some ⟨g, 8, none⟩) (some x) 64 64 0 0 A22 E5 (by rfl)
      go_still_tail 7, (by kernel_rfl)
      go_wp2_with fail
      go_end0
      have hfin := Held.next HS.out HTO.out M5.out.bytes.ok hl M5.out.bytes.size (show 0 = 0 - 0 % 64 from rfl) HU.out M5.out.size HBO.out
      have e1 : B.drop 0 = [] := List.drop_eq_nil_of_le (by have := M5.out.bytes.size; omega)
      rw [e1, Nat.sub_self, List.drop_zero, List.nil_append] at hfin
      refine ⟨rfl, ⟨U, bl, hfin, ?_⟩, ?_⟩
      · have h0 := HLT.out; (try simp only [List.nil_append] at h0); rw [h0]; exact M5.out.row
      · exact ⟨M5.out.grown.os, M5.out.grown.tape, M5.out.grown.output, M5.out.grown.size, M5.out.grown.block⟩
  · subst hp
    clear hx
    have hcap := HM.out.bytes.le
    have a1 : (0 : Int) ≤ F ∧ (F : Int) ≤ cap := by omega
    obtain ⟨U, hU⟩ : ∃ U, U = Sm.blocks (B.take F) v ((B.take F).length / 64) := ⟨_, rfl⟩
    have HA := all_any v HVV.out (B.take F) (some ⟨gb, ob, none⟩) F cap W1.drew ((HM.out.bytes.take F hFl).heap rfl) (by have := HF64.out; have := HM.out.bytes.size; simp; omega)
    rw [← hU] at HA
    have HAA := Lib.hid HA
    have HU := Lib.hid hU
    clear HA hU
    obtain ⟨a, b, c, d, e, f, h, k⟩ := v
    have c0 : W1.cell? ⟨g, 0, none⟩ = some (.int .u32 a) := st_cell HM.out.row 0 (by omega)
    have c1 : W1.cell? ⟨g, 1, none⟩ = some (.int .u32 b) := st_cell HM.out.row 1 (by omega)
    have c2 : W1.cell? ⟨g, 2, none⟩ = some (.int .u32 c) := st_cell HM.out.row 2 (by omega)
    have c3 : W1.cell? ⟨g, 3, none⟩ = some (.int .u32 d) := st_cell HM.out.row 3 (by omega)
    have c4 : W1.cell? ⟨g, 4, none⟩ = some (.int .u32 e) := st_cell HM.out.row 4 (by omega)
    have c5 : W1.cell? ⟨g, 5, none⟩ = some (.int .u32 f) := st_cell HM.out.row 5 (by omega)
    have c6 : W1.cell? ⟨g, 6, none⟩ = some (.int .u32 h) := st_cell HM.out.row 6 (by omega)
    have c7 : W1.cell? ⟨g, 7, none⟩ = some (.int .u32 k) := st_cell HM.out.row 7 (by omega)
    go_region_law ((go_simp; go_at_call 24; refine HAA.out.mono ?_; rintro _ w4 ⟨rfl, hb4⟩; have m4 := Lib.hid (HM.out.later (below_of hb4 rfl rfl rfl rfl)); clear hb4; have hst4 := st_store m4.out.row m4.out.size U; have hu8 := size8 U))
    generalize hW5 : w4.setCells g 0 (w32 U.list) = W5
    have m5 := m4.out.words U
    rw [hW5] at m5
    have M5 := Lib.hid m5
    clear hW5 m5 hst4 hu8 m4 c0 c1 c2 c3 c4 c5 c6 c7
    go_wp2_with fail
    rcases Nat.lt_or_eq_of_le (Nat.le_trans hFl hcap) with hcc | hcc
    · have hcp := st_copy M5.out F (by have := HF.out; omega) hcc
      go_still_tail 7, (by kernel_rfl)
      go_wp2_with fail
      go_end0
      have hlF : (B.drop F).length = len - F := by have := M5.out.bytes.size; simp; omega
      have hrow := st_set_block (W := W5.drew) M5.out.row M5.out.size 0 (B.drop F) (by have := HF.out; omega)
      have hfin := Held.next HS.out HTO.out M5.out.bytes.ok hl M5.out.bytes.size HF.out HU.out M5.out.size HBO.out
      refine ⟨rfl, ⟨U, _, hfin, ?_⟩, ?_⟩
      · rw [hlF] at hrow
        have h0 := HLT.out
        (try simp only [List.nil_append] at h0)
        rw [h0]
        simpa using hrow
      · exact grown_setCells (w1 := W5.drew) ⟨M5.out.grown.os, M5.out.grown.tape, M5.out.grown.output, M5.out.grown.size, M5.out.grown.block⟩ 8 _
    · subst hcc
      obtain rfl : len = F := by omega
      have hcp := run_copy_none (P := Try.prog) W5.drew 22 22 3 5 (some ⟨g, 8, none⟩) (some ⟨gb, ob, none⟩) 64 64 0 0 A22 E5 (by rfl)
      go_still_tail 7, (by kernel_rfl)
      go_wp2_with fail
      go_end0
      have hfin := Held.next HS.out HTO.out M5.out.bytes.ok hl M5.out.bytes.size HF.out HU.out M5.out.size HBO.out
      have e1 : B.drop len = [] := List.drop_eq_nil_of_le (by have := M5.out.bytes.size; omega)
      rw [e1, Nat.sub_self, List.drop_zero, List.nil_append] at hfin
      refine ⟨rfl, ⟨U, bl, hfin, ?_⟩, ?_⟩
      · have h0 := HLT.out; (try simp only [List.nil_append] at h0); rw [h0]; exact M5.out.row
      · exact ⟨M5.out.grown.os, M5.out.grown.tape, M5.out.grown.output, M5.out.grown.size, M5.out.grown.block⟩
end Go.Proofs.Ytgdipdmpmaemjaa
