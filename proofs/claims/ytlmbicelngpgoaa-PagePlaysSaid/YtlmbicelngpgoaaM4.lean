/- ShaWriteD, ShaDone, ShaHash, ShaPre, PgHash, PgBEq, PgPutL, PgKeepL. -/
import Derived.Test.YtlmbicelngpgoaaM3
import Derived.Deep.AppendLies
import Derived.Laws.AppendOwnNone
import Derived.IntWalk
import Derived.LoopN
/- The contract of State.Write: a block is begun, and gets full. -/
namespace Go.Proofs.Ytlmbicelngpgoaa
open Go.RowKit

set_option maxRecDepth 100000 in
set_option maxHeartbeats 1000000 in
theorem write_d (T B : List Nat) (g : Nat) (p : Option Addr) (len cap : Nat) (w : World) (r m : Nat) (hr : T.length % 64 = r) (hr0 : 0 < r) (hs : r + m = 64) (hml : m ≤ len) (v : Sm.V8) (bl : List Nat) (hh : Held T v bl)
    (hg : w.heap[g]? = some (.cells (stL v bl T.length).toArray 88 (0, 0)))
    (hB : Bytes w p len cap B) (hn : B ≠ [] → ∀ a, p = some a → a.block ≠ g) (hl : (T ++ B).length < 1152921504606846976) :
    Calls Try.prog 43 #[.pointer (some ⟨g, 0, none⟩), .slice p len cap] w fun e w' => e = .returned (.tuple #[]) ∧ StateAt w' g (T ++ B) ∧ w.grownBy w' (some g) := by
  have hL0 : ((T.length : Int) == 0) = false := by
    have : T ≠ [] := by rintro rfl; simp at hr; omega
    have := List.length_pos_iff.2 this
    simp; omega
  have hT : T ≠ [] := by rintro rfl; simp at hr; omega
  have hL1 : (T.length : Int) % 64 = (r : Int) := by omega
  have hcl : w.cell? ⟨g, 72, none⟩ = some (.int .u64 (T.length : Nat)) := st_len hg hh.size
  have hfl : w.frozen? ⟨g, 72, none⟩ = false := frozen_of_row w g _ _ _ hg
  have hsl := st_set_len hg hh.size (T.length + len)
  obtain ⟨N, hN⟩ : ∃ N, N = T.length := ⟨_, rfl⟩
  rw [← hN] at hcl hL0 hL1 hsl
  have hlen := hB.size
  have hb1 : N + len < 1152921504606846976 := by simp at hl; omega
  have HLT0 := Lib.hid (show (T ++ B).length = N + len from by simp; omega)
  have h0 : (0 : Int) < r ∧ (r : Int) < 64 := by omega
  have HBB := Lib.hid (hB.grown (grown_setCell w g 72 (.int .u64 ((N + len : Nat) : Int))) hn)
  have HH := Lib.hid hh
  have HSL := Lib.hid hsl
  have HR := Lib.hid hr
  have HT := Lib.hid hT
  have HN := Lib.hid hN
  have HLen := Lib.hid hlen
  clear hg hh hB hN hlen hsl hr hT
  have hbs := block_slice g r (by omega)
  obtain ⟨gb, ob, hp, hx⟩ := HBB.out.ne (by intro e; have := HLen.out; rw [e] at this; simp at this; omega)
  subst hp
  clear hx
  have hcp := st_copy_in HSL.out HH.out.size HBB.out r m (by omega) (by rw [show 64 - r = m from by omega]; exact (Nat.min_eq_right hml).symm)
  have HCPW := Lib.hid (show ((N + len : Nat) : Int) = (N : Int) + (len : Int) from by omega)
  rw [HCPW.out] at hcp
  have hm1 : (r : Int) + m = 64 := by omega
  have hm2 : (0 : Int) ≤ m ∧ (m : Int) ≤ len := by omega
  have hcap0 := HBB.out.le
  rcases Nat.lt_or_eq_of_le (Nat.le_trans hml hcap0) with hmc | hmc
  · go_enter Try.func43, Try.ntmps43
    go_wp2_with fail
    rw [← HCPW.out]
    generalize hW2 : (w.setCell ⟨g, 72, none⟩ (.int .u64 ((N + len : Nat) : Int))).setCells g (8 + r) (vals (B.take m)) = W2
    obtain ⟨bl2, hbl2⟩ : ∃ x, x = bl.take r ++ B.take m := ⟨_, rfl⟩
    have hlm : (B.take m).length = m := by have := HLen.out; simp; omega
    have hsz := HH.out.size
    have hM2 : Mid w W2 g v bl2 (N + len) (some ⟨gb, ob, none⟩) len cap B := by
      have hrow2 := st_set_block HSL.out hsz r (B.take m) (by omega)
      rw [hW2, hlm, List.drop_eq_nil_of_le (by omega), List.append_nil, ← hbl2] at hrow2
      have hgr : w.grownBy W2 (some g) := by rw [← hW2]; exact grown_setCells (grown_setCell _ _ _ _) _ _
      have hgr2 : (w.setCell ⟨g, 72, none⟩ (.int .u64 ((N + len : Nat) : Int))).grownBy W2 (some g) := by rw [← hW2]; exact grown_setCells (World.grownBy.refl _ _) _ _
      exact ⟨hrow2, by have := HLen.out; rw [hbl2]; simp [hsz]; omega, HBB.out.grown hgr2 hn, hn, hgr⟩
    have hbo2 : Sm.allB bl2 := by
      rw [hbl2]
      intro x hx
      rcases List.mem_append.1 hx with hx | hx
      · exact HH.out.bok x (List.mem_of_mem_take hx)
      · exact HBB.out.ok x (List.mem_of_mem_take hx)
    have hst2 := Start.block (B := B) HH.out HR.out hr0 hs (by have := HLen.out; omega)
    rw [← hbl2] at hst2
    obtain ⟨V2, hV2⟩ : ∃ V2, V2 = Sm.blocks bl2 v 1 := ⟨_, rfl⟩
    have HA2 := all_any v HH.out.vok bl2 (some ⟨g, 8, none⟩) 64 64 W2.drew ((Bytes.block hM2.row hM2.size hbo2).heap rfl) (by rw [hM2.size])
    rw [hM2.size, show 64 / 64 = 1 from rfl, ← hV2] at HA2
    rw [← hV2] at hst2
    have HAA2 := Lib.hid HA2
    have HM2 := Lib.hid hM2
    have HS2 := Lib.hid hst2
    have HVV2 := Lib.hid hst2.1
    have HBO2 := Lib.hid hbo2
    clear HA2 hM2 hst2 hbo2 hV2 hbl2 hW2 hsz hlm hcp hcl hfl hL0 hL1 HSL
    obtain ⟨a, b, c, d, e, f, h, k⟩ := v
    have c0 : W2.cell? ⟨g, 0, none⟩ = some (.int .u32 a) := st_cell HM2.out.row 0 (by omega)
    have c1 : W2.cell? ⟨g, 1, none⟩ = some (.int .u32 b) := st_cell HM2.out.row 1 (by omega)
    have c2 : W2.cell? ⟨g, 2, none⟩ = some (.int .u32 c) := st_cell HM2.out.row 2 (by omega)
    have c3 : W2.cell? ⟨g, 3, none⟩ = some (.int .u32 d) := st_cell HM2.out.row 3 (by omega)
    have c4 : W2.cell? ⟨g, 4, none⟩ = some (.int .u32 e) := st_cell HM2.out.row 4 (by omega)
    have c5 : W2.cell? ⟨g, 5, none⟩ = some (.int .u32 f) := st_cell HM2.out.row 5 (by omega)
    have c6 : W2.cell? ⟨g, 6, none⟩ = some (.int .u32 h) := st_cell HM2.out.row 6 (by omega)
    have c7 : W2.cell? ⟨g, 7, none⟩ = some (.int .u32 k) := st_cell HM2.out.row 7 (by omega)
    go_region_law ((go_simp; go_at_call 51; refine HAA2.out.mono ?_; rintro _ w3 ⟨rfl, hb4⟩; have m4 := Lib.hid (HM2.out.later (below_of hb4 rfl rfl rfl rfl)); clear hb4; have hst4 := st_store m4.out.row m4.out.size V2; have hu8 := size8 V2))
    generalize hW5 : w3.setCells g 0 (w32 V2.list) = W3
    have m5 := m4.out.words V2
    rw [hW5] at m5
    have HM3 := Lib.hid m5
    clear hW5 m5 hst4 hu8 m4 c0 c1 c2 c3 c4 c5 c6 c7
    go_wp2_with fail
    obtain ⟨T2, hT2⟩ : ∃ x, x = T ++ B.take m := ⟨_, rfl⟩
    obtain ⟨B2, hB2⟩ : ∃ x, x = B.drop m := ⟨_, rfl⟩
    have HET := Lib.hid (show T2 ++ B2 = T ++ B from by rw [hT2, hB2, List.append_assoc, List.take_append_drop])
    have hl2 : (T2 ++ B2).length < 1152921504606846976 := by rw [HET.out]; exact hl
    have HLT2 := Lib.hid (show (T2 ++ B2).length = N + len from by rw [HET.out]; exact HLT0.out)
    have HTO2 := Lib.hid (show Sm.allB T2 from by
      rw [hT2]
      intro x hx
      rcases List.mem_append.1 hx with hx | hx
      · exact HH.out.ok x hx
      · exact HBB.out.ok x (List.mem_of_mem_take hx))
    rw [← hT2] at HS2
    have hM4 : Mid w W3 g V2 bl2 (N + len) (some ⟨gb, ob + m, none⟩) (len - m) (cap - m) B2 := by
      have h0 := HM3.out
      exact ⟨h0.row, h0.size, by rw [hB2]; exact h0.bytes.drop m hml, (fun hb a ha => by cases ha; exact hn (by intro e0; rw [hB2, e0] at hb; simp at hb) ⟨gb, ob, none⟩ rfl), h0.grown⟩
    have HM4 := Lib.hid hM4
    clear hM4 HM3 hT2 hB2
    obtain ⟨len2, hlen2⟩ : ∃ x, x = len - m := ⟨_, rfl⟩
    obtain ⟨cap2, hcap2⟩ : ∃ x, x = cap - m := ⟨_, rfl⟩
    obtain ⟨ob2, hob2⟩ : ∃ x, x = ob + m := ⟨_, rfl⟩
    rw [← hlen2, ← hcap2, ← hob2] at HM4
    rw [← hlen2, ← hcap2, ← hob2]
    clear hlen2 hcap2 hob2 hm1 hm2 hcap0 hmc hbs HCPW HBB HR HT
    obtain ⟨F, hF⟩ : ∃ F, F = len2 - len2 % 64 := ⟨_, rfl⟩
    rw [show (len2 : Int) - (len2 : Int) % 64 = (F : Int) from by omega]
    have hFl : F ≤ len2 := by omega
    have hF64 : F % 64 = 0 := by omega
    have HF := Lib.hid hF
    have HF64 := Lib.hid hF64
    clear hF hF64
    have hcap := HM4.out.bytes.le
    have a1 : (0 : Int) ≤ F ∧ (F : Int) ≤ cap2 := by omega
    obtain ⟨U, hU⟩ : ∃ U, U = Sm.blocks (B2.take F) V2 ((B2.take F).length / 64) := ⟨_, rfl⟩
    have HA := all_any V2 HVV2.out (B2.take F) (some ⟨gb, ob2, none⟩) F cap2 W3.drew ((HM4.out.bytes.take F hFl).heap rfl) (by have := HF64.out; have := HM4.out.bytes.size; simp; omega)
    rw [← hU] at HA
    have HAA := Lib.hid HA
    have HU := Lib.hid hU
    clear HA hU
    obtain ⟨a, b, c, d, e, f, h, k⟩ := V2
    have c0 : W3.cell? ⟨g, 0, none⟩ = some (.int .u32 a) := st_cell HM4.out.row 0 (by omega)
    have c1 : W3.cell? ⟨g, 1, none⟩ = some (.int .u32 b) := st_cell HM4.out.row 1 (by omega)
    have c2 : W3.cell? ⟨g, 2, none⟩ = some (.int .u32 c) := st_cell HM4.out.row 2 (by omega)
    have c3 : W3.cell? ⟨g, 3, none⟩ = some (.int .u32 d) := st_cell HM4.out.row 3 (by omega)
    have c4 : W3.cell? ⟨g, 4, none⟩ = some (.int .u32 e) := st_cell HM4.out.row 4 (by omega)
    have c5 : W3.cell? ⟨g, 5, none⟩ = some (.int .u32 f) := st_cell HM4.out.row 5 (by omega)
    have c6 : W3.cell? ⟨g, 6, none⟩ = some (.int .u32 h) := st_cell HM4.out.row 6 (by omega)
    have c7 : W3.cell? ⟨g, 7, none⟩ = some (.int .u32 k) := st_cell HM4.out.row 7 (by omega)
    go_region_law ((go_simp; go_at_call 51; refine HAA.out.mono ?_; rintro _ w5 ⟨rfl, hb4⟩; have m4 := Lib.hid (HM4.out.later (below_of hb4 rfl rfl rfl rfl)); clear hb4; have hst4 := st_store m4.out.row m4.out.size U; have hu8 := size8 U))
    generalize hW5 : w5.setCells g 0 (w32 U.list) = W5
    have m5 := m4.out.words U
    rw [hW5] at m5
    have M5 := Lib.hid m5
    clear hW5 m5 hst4 hu8 m4 c0 c1 c2 c3 c4 c5 c6 c7
    go_wp2_with fail
    rcases Nat.lt_or_eq_of_le (Nat.le_trans hFl hcap) with hcc | hcc
    · have hcp := st_copy M5.out F (by have := HF.out; omega) hcc
      go_still_tail 7, (by kernel_rfl)
      go_wp2_with fail
      go_end0
      have hlF : (B2.drop F).length = len2 - F := by have := M5.out.bytes.size; simp; omega
      have hrow := st_set_block (W := W5.drew) M5.out.row M5.out.size 0 (B2.drop F) (by have := HF.out; omega)
      have hfin := Held.next HS2.out HTO2.out M5.out.bytes.ok hl2 M5.out.bytes.size HF.out HU.out M5.out.size HBO2.out
      refine ⟨rfl, ⟨U, _, (by rw [← HET.out]; exact hfin), ?_⟩, ?_⟩
      · rw [hlF] at hrow
        rw [← HET.out]
        have h0 := HLT2.out
        (try simp only [List.nil_append] at h0)
        rw [h0]
        simpa using hrow
      · exact grown_setCells (w1 := W5.drew) ⟨M5.out.grown.os, M5.out.grown.tape, M5.out.grown.output, M5.out.grown.size, M5.out.grown.block⟩ 8 _
    · subst hcc
      obtain rfl : len2 = F := by omega
      have hcp := run_copy_none (P := Try.prog) W5.drew 27 27 3 5 (some ⟨g, 8, none⟩) (some ⟨gb, ob2, none⟩) 64 64 0 0 A22 E5 (by rfl)
      go_still_tail 7, (by kernel_rfl)
      go_wp2_with fail
      go_end0
      have hfin := Held.next HS2.out HTO2.out M5.out.bytes.ok hl2 M5.out.bytes.size HF.out HU.out M5.out.size HBO2.out
      have e1 : B2.drop len2 = [] := List.drop_eq_nil_of_le (by have := M5.out.bytes.size; omega)
      rw [e1, Nat.sub_self, List.drop_zero, List.nil_append] at hfin
      refine ⟨rfl, ⟨U, bl2, (by rw [← HET.out]; exact hfin), ?_⟩, ?_⟩
      · rw [← HET.out]; have h0 := HLT2.out; (try simp only [List.nil_append] at h0); rw [h0]; exact M5.out.row
      · exact ⟨M5.out.grown.os, M5.out.grown.tape, M5.out.grown.output, M5.out.grown.size, M5.out.grown.block⟩
  · subst hmc
    obtain rfl : m = len := by omega
    go_enter Try.func43, Try.ntmps43
    go_wp2_with fail
    rw [← HCPW.out]
    generalize hW2 : (w.setCell ⟨g, 72, none⟩ (.int .u64 ((N + m : Nat) : Int))).setCells g (8 + r) (vals (B.take m)) = W2
    obtain ⟨bl2, hbl2⟩ : ∃ x, x = bl.take r ++ B.take m := ⟨_, rfl⟩
    have hlm : (B.take m).length = m := by have := HLen.out; simp; omega
    have hsz := HH.out.size
    have hM2 : Mid w W2 g v bl2 (N + m) (some ⟨gb, ob, none⟩) m m B := by
      have hrow2 := st_set_block HSL.out hsz r (B.take m) (by omega)
      rw [hW2, hlm, List.drop_eq_nil_of_le (by omega), List.append_nil, ← hbl2] at hrow2
      have hgr : w.grownBy W2 (some g) := by rw [← hW2]; exact grown_setCells (grown_setCell _ _ _ _) _ _
      have hgr2 : (w.setCell ⟨g, 72, none⟩ (.int .u64 ((N + m : Nat) : Int))).grownBy W2 (some g) := by rw [← hW2]; exact grown_setCells (World.grownBy.refl _ _) _ _
      exact ⟨hrow2, by have := HLen.out; rw [hbl2]; simp [hsz]; omega, HBB.out.grown hgr2 hn, hn, hgr⟩
    have hbo2 : Sm.allB bl2 := by
      rw [hbl2]
      intro x hx
      rcases List.mem_append.1 hx with hx | hx
      · exact HH.out.bok x (List.mem_of_mem_take hx)
      · exact HBB.out.ok x (List.mem_of_mem_take hx)
    have hst2 := Start.block (B := B) HH.out HR.out hr0 hs (by have := HLen.out; omega)
    rw [← hbl2] at hst2
    obtain ⟨V2, hV2⟩ : ∃ V2, V2 = Sm.blocks bl2 v 1 := ⟨_, rfl⟩
    have HA2 := all_any v HH.out.vok bl2 (some ⟨g, 8, none⟩) 64 64 W2.drew ((Bytes.block hM2.row hM2.size hbo2).heap rfl) (by rw [hM2.size])
    rw [hM2.size, show 64 / 64 = 1 from rfl, ← hV2] at HA2
    rw [← hV2] at hst2
    have HAA2 := Lib.hid HA2
    have HM2 := Lib.hid hM2
    have HS2 := Lib.hid hst2
    have HVV2 := Lib.hid hst2.1
    have HBO2 := Lib.hid hbo2
    clear HA2 hM2 hst2 hbo2 hV2 hbl2 hW2 hsz hlm hcp hcl hfl hL0 hL1 HSL
    obtain ⟨a, b, c, d, e, f, h, k⟩ := v
    have c0 : W2.cell? ⟨g, 0, none⟩ = some (.int .u32 a) := st_cell HM2.out.row 0 (by omega)
    have c1 : W2.cell? ⟨g, 1, none⟩ = some (.int .u32 b) := st_cell HM2.out.row 1 (by omega)
    have c2 : W2.cell? ⟨g, 2, none⟩ = some (.int .u32 c) := st_cell HM2.out.row 2 (by omega)
    have c3 : W2.cell? ⟨g, 3, none⟩ = some (.int .u32 d) := st_cell HM2.out.row 3 (by omega)
    have c4 : W2.cell? ⟨g, 4, none⟩ = some (.int .u32 e) := st_cell HM2.out.row 4 (by omega)
    have c5 : W2.cell? ⟨g, 5, none⟩ = some (.int .u32 f) := st_cell HM2.out.row 5 (by omega)
    have c6 : W2.cell? ⟨g, 6, none⟩ = some (.int .u32 h) := st_cell HM2.out.row 6 (by omega)
    have c7 : W2.cell? ⟨g, 7, none⟩ = some (.int .u32 k) := st_cell HM2.out.row 7 (by omega)
    go_region_law ((go_simp; go_at_call 51; refine HAA2.out.mono ?_; rintro _ w3 ⟨rfl, hb4⟩; have m4 := Lib.hid (HM2.out.later (below_of hb4 rfl rfl rfl rfl)); clear hb4; have hst4 := st_store m4.out.row m4.out.size V2; have hu8 := size8 V2))
    generalize hW5 : w3.setCells g 0 (w32 V2.list) = W3
    have m5 := m4.out.words V2
    rw [hW5] at m5
    have HM3 := Lib.hid m5
    clear hW5 m5 hst4 hu8 m4 c0 c1 c2 c3 c4 c5 c6 c7
    go_wp2_with fail
    obtain ⟨T2, hT2⟩ : ∃ x, x = T ++ B.take m := ⟨_, rfl⟩
    obtain ⟨B2, hB2⟩ : ∃ x, x = B.drop m := ⟨_, rfl⟩
    have HET := Lib.hid (show T2 ++ B2 = T ++ B from by rw [hT2, hB2, List.append_assoc, List.take_append_drop])
    have hl2 : (T2 ++ B2).length < 1152921504606846976 := by rw [HET.out]; exact hl
    have HLT2 := Lib.hid (show (T2 ++ B2).length = N + m from by rw [HET.out]; exact HLT0.out)
    have HTO2 := Lib.hid (show Sm.allB T2 from by
      rw [hT2]
      intro x hx
      rcases List.mem_append.1 hx with hx | hx
      · exact HH.out.ok x hx
      · exact HBB.out.ok x (List.mem_of_mem_take hx))
    rw [← hT2] at HS2
    have hM4 : Mid w W3 g V2 bl2 (N + m) (some ⟨gb, ob, none⟩) 0 0 B2 := by
      have h0 := HM3.out
      have hB0 : B2 = [] := by rw [hB2]; exact List.drop_eq_nil_of_le (by have := HLen.out; omega)
      exact ⟨h0.row, h0.size, by rw [hB0]; exact ⟨rfl, Nat.le_refl _, fun x hx => by simp at hx, Or.inr ⟨gb, ob, rfl, fun i hi => by simp at hi⟩⟩, fun hb => absurd hB0 hb, h0.grown⟩
    have HM4 := Lib.hid hM4
    have hFl : 0 ≤ 0 := Nat.le_refl _
    clear hM4 HM3 hT2 hB2 hm1 hm2 hcap0 hbs HCPW HBB HR HT
    obtain ⟨U, hU⟩ : ∃ U, U = Sm.blocks (B2.take 0) V2 ((B2.take 0).length / 64) := ⟨_, rfl⟩
    have HA := all_any V2 HVV2.out (B2.take 0) (some ⟨gb, ob, none⟩) 0 0 W3.drew ((HM4.out.bytes.take 0 hFl).heap rfl) (by simp)
    rw [← hU] at HA
    have HAA := Lib.hid HA
    have HU := Lib.hid hU
    clear HA hU
    obtain ⟨a, b, c, d, e, f, h, k⟩ := V2
    have c0 : W3.cell? ⟨g, 0, none⟩ = some (.int .u32 a) := st_cell HM4.out.row 0 (by omega)
    have c1 : W3.cell? ⟨g, 1, none⟩ = some (.int .u32 b) := st_cell HM4.out.row 1 (by omega)
    have c2 : W3.cell? ⟨g, 2, none⟩ = some (.int .u32 c) := st_cell HM4.out.row 2 (by omega)
    have c3 : W3.cell? ⟨g, 3, none⟩ = some (.int .u32 d) := st_cell HM4.out.row 3 (by omega)
    have c4 : W3.cell? ⟨g, 4, none⟩ = some (.int .u32 e) := st_cell HM4.out.row 4 (by omega)
    have c5 : W3.cell? ⟨g, 5, none⟩ = some (.int .u32 f) := st_cell HM4.out.row 5 (by omega)
    have c6 : W3.cell? ⟨g, 6, none⟩ = some (.int .u32 h) := st_cell HM4.out.row 6 (by omega)
    have c7 : W3.cell? ⟨g, 7, none⟩ = some (.int .u32 k) := st_cell HM4.out.row 7 (by omega)
    go_region_law ((go_simp; go_at_call 51; refine HAA.out.mono ?_; rintro _ w5 ⟨rfl, hb4⟩; have m4 := Lib.hid (HM4.out.later (below_of hb4 rfl rfl rfl rfl)); clear hb4; have hst4 := st_store m4.out.row m4.out.size U; have hu8 := size8 U))
    generalize hW5 : w5.setCells g 0 (w32 U.list) = W5
    have m5 := m4.out.words U
    rw [hW5] at m5
    have M5 := Lib.hid m5
    clear hW5 m5 hst4 hu8 m4 c0 c1 c2 c3 c4 c5 c6 c7
    go_wp2_with fail
    have hcp := run_copy_none (P := Try.prog) W5.drew 27 27 3 5 (some ⟨g, 8, none⟩) (some ⟨gb, ob, none⟩) 64 64 0 0 A22 E5 (by rfl)
    go_still_tail 7, (by kernel_rfl)
    go_wp2_with fail
    go_end0
    have hfin := Held.next HS2.out HTO2.out M5.out.bytes.ok hl2 M5.out.bytes.size (show 0 = 0 - 0 % 64 from rfl) HU.out M5.out.size HBO2.out
    have e1 : B2.drop 0 = [] := List.drop_eq_nil_of_le (by have := M5.out.bytes.size; omega)
    rw [e1, Nat.sub_self, List.drop_zero, List.nil_append] at hfin
    refine ⟨rfl, ⟨U, bl2, (by rw [← HET.out]; exact hfin), ?_⟩, ?_⟩
    · rw [← HET.out]; have h0 := HLT2.out; (try simp only [List.nil_append] at h0); rw [h0]; exact M5.out.row
    · exact ⟨M5.out.grown.os, M5.out.grown.tape, M5.out.grown.output, M5.out.grown.size, M5.out.grown.block⟩
end Go.Proofs.Ytlmbicelngpgoaa

/- The contracts of State.Write (all cases), State.Done, State.Len and Sum. -/
namespace Go.Proofs.Ytlmbicelngpgoaa
open Go.RowKit

theorem write_any (T B : List Nat) (g : Nat) (p : Option Addr) (len cap : Nat) (w : World) (hs : StateAt w g T)
    (hB : Bytes w p len cap B) (hn : B ≠ [] → ∀ a, p = some a → a.block ≠ g) (hl : (T ++ B).length < 1152921504606846976) :
    Calls Try.prog 43 #[.pointer (some ⟨g, 0, none⟩), .slice p len cap] w fun e w' => e = .returned (.tuple #[]) ∧ StateAt w' g (T ++ B) ∧ w.grownBy w' (some g) := by
  obtain ⟨v, bl, hh, hg⟩ := hs
  by_cases h0 : T = []
  · exact write_a T B g p len cap w h0 v bl hh hg hB hn hl
  · by_cases h1 : T.length % 64 = 0
    · exact write_b T B g p len cap w h0 h1 v bl hh hg hB hn hl
    · by_cases h2 : T.length % 64 + len < 64
      · exact write_c T B g p len cap w _ rfl (by omega) h2 v bl hh hg hB hn hl
      · exact write_d T B g p len cap w _ (64 - T.length % 64) rfl (by omega) (by omega) (by omega) v bl hh hg hB hn hl

theorem U36' : (match Try.prog.underlying 88 with | some (.struct _) => true | _ => false) = true := by kernel_rfl
theorem U36 : ∃ fs, Try.prog.underlying 88 = some (.struct fs) := by
  have h := U36'
  split at h
  · rename_i fs hfs; exact ⟨fs, hfs⟩
  · cases h
def zero8 : Sm.V8 := ⟨0, 0, 0, 0, 0, 0, 0, 0⟩
theorem Z36 : (Try.prog.info? 88).map (fun i => (i.zero, i.size)) = some (some (.agg (stL zero8 (zeros 64) 0).toArray), 73) := by kernel_rfl
/-- The zero State has nothing written. -/
theorem held_zero : Held [] zero8 (zeros 64) :=
  ⟨fun x hx => by simp at hx, ⟨by decide, by decide, by decide, by decide, by decide, by decide, by decide, by decide⟩, by decide, fun h => absurd rfl h, by simp [zeros], zeros_ok 64, by simp⟩
theorem state_zero {w : World} {g : Nat} (h : w.heap[g]? = some (.cells (stL zero8 (zeros 64) 0).toArray 88 (0, 0))) : StateAt w g [] := ⟨_, _, held_zero, h⟩
theorem stL_one (v : Sm.V8) (bl : List Nat) (L : Nat) : ((stL v bl L).toArray).all (·.oneCell') = true :=
  all_oneCell_toArray fun u hu => by
    simp only [stL, List.mem_append, List.mem_singleton] at hu
    rcases hu with (hu | hu) | rfl
    · exact u32_of_w32 _ u hu
    · exact vals_one _ u hu
    · rfl
theorem stL_size (v : Sm.V8) (bl : List Nat) (L : Nat) (h : bl.length = 64) : ((stL v bl L).toArray).size = 73 := by simp [stL_length v bl L h]
theorem StateAt.later {w w' : World} {g : Nat} {T : List Nat} (h : StateAt w g T) (hb : Below w.heap.size w w') : StateAt w' g T := by
  obtain ⟨v, bl, hh, hg⟩ := h
  exact ⟨v, bl, hh, (hb.block _ (Array.getElem?_eq_some_iff.1 hg).1).trans hg⟩
theorem StateAt.lt {w : World} {g : Nat} {T : List Nat} (h : StateAt w g T) : g < w.heap.size := by
  obtain ⟨v, bl, hh, hg⟩ := h
  exact (Array.getElem?_eq_some_iff.1 hg).1
theorem sum_size (B : List Nat) : (u8s (Sm.sum B)).size = 32 := rfl
theorem bytes4_len (v : Sm.V8) : (u8s (Sm.bytesOf v)).size = 32 := rfl
set_option maxRecDepth 100000 in
set_option maxHeartbeats 1000000 in
theorem done_any (T : List Nat) (g : Nat) (w : World) (hs : StateAt w g T) (hl : T.length < 576460752303423488) :
    Calls Try.prog 45 #[.pointer (some ⟨g, 0, none⟩)] w fun e w' => e = .returned (.agg (u8s (Sm.sum T))) ∧ Below w.heap.size w w' := by
  have hlt := hs.lt
  obtain ⟨v, bl, hh, hg⟩ := hs
  obtain ⟨fs, hu⟩ := U36
  have hz := (zero_of_info Z25).1
  have hz6 := (zero_of_info Z36).1
  have hg1 : (w.alloc (.cells (u8s (zeros 32)) 32)).heap[g]? = _ := (Below.heap_alloc w _ _ hlt).trans hg
  have hg2 : ((w.alloc (.cells (u8s (zeros 32)) 32)).alloc (.cells (stL v bl T.length).toArray 88)).heap[g]? = _ := (Below.heap_alloc _ _ _ (by simp; omega)).trans hg1
  have hcl : ((w.alloc (.cells (u8s (zeros 32)) 32)).alloc (.cells (stL v bl T.length).toArray 88)).cell? ⟨g, 72, none⟩ = some (.int .u64 (T.length : Nat)) := st_len hg2 hh.size
  have hS2 : StateAt ((w.alloc (.cells (u8s (zeros 32)) 32)).alloc (.cells (stL v bl T.length).toArray 88)) (w.heap.size + 1) T := ⟨v, bl, hh, heap_alloc2_new _ _ _⟩
  have hB2 : Below w.heap.size w ((w.alloc (.cells (u8s (zeros 32)) 32)).alloc (.cells (stL v bl T.length).toArray 88)) := ((Below.refl _ _).alloc (Nat.le_refl _) _).alloc (by simp) _
  have hR2 : ((w.alloc (.cells (u8s (zeros 32)) 32)).alloc (.cells (stL v bl T.length).toArray 88)).heap[w.heap.size]? = some (.cells (u8s (zeros 32)) 32 (0, 0)) := heap_alloc2_old _ _ _
  have HG1 := Lib.hid hg1
  have HS2 := Lib.hid hS2
  have HB2 := Lib.hid hB2
  have HR2 := Lib.hid hR2
  have HU := Lib.hid hu
  have HSZ := Lib.hid hh.size
  clear hu hg1 hg2 hh hg hS2 hB2 hR2
  go_enter Try.func45, Try.ntmps45
  go_wp2_with (first | (refine wpList_load_row (by rfl) 88 _ (by rfl) g (by rfl) 88 _ (0, 0) _ HG1.out HU.out (by rfl) (by rw [stL_size _ _ _ HSZ.out]; exact A36) ?_) | (refine wpList_store_row (by rfl) 88 _ _ (by rfl) (w.heap.size + 1) _ (by rfl) (by rfl) _ _ (by exact heap_alloc2_new _ _ _) (by rw [stL_size _ _ _ HSZ.out]; exact A36) (by rw [stL_size _ _ _ HSZ.out, stL_size _ _ _ (by simp [zeros])]) (stL_one _ _ _) ?_; rw [setRow_alloc2]))
  refine (filling_any T.length (by omega) _).mono ?_
  rintro _ w3 ⟨len, cap, rfl, hbf, hb3⟩
  rw [show ((w.alloc (.cells (u8s (zeros 32)) 32)).alloc (.cells (stL v bl T.length).toArray 88)).heap.size = w.heap.size + 2 from by simp] at hbf ⊢
  have hfl : (T ++ Sm.fill T.length).length < 1152921504606846976 := by simp [Sm.fill, Sm.bigs]; omega
  have hS3 := HS2.out.later hb3
  have hB3 := HB2.out.trans (hb3.mono HB2.out.size)
  have hR3 := (hb3.block _ (Array.getElem?_eq_some_iff.1 HR2.out).1).trans HR2.out
  have HS3 := Lib.hid hS3
  have HB3 := Lib.hid hB3
  have HR3 := Lib.hid hR3
  have HBF := Lib.hid hbf
  clear hS3 hB3 hR3 hb3 hbf hcl
  go_wp2_with fail
  refine (write_any T (Sm.fill T.length) (w.heap.size + 1) (some ⟨w.heap.size + 2, 0, none⟩) len cap w3 HS3.out HBF.out (fun _ a ha => by cases ha; show w.heap.size + 2 ≠ w.heap.size + 1; omega) hfl).mono ?_
  rintro _ w4 ⟨rfl, ⟨v4, bl4, hh4, hg4⟩, hgr⟩
  have hne : T ++ Sm.fill T.length ≠ [] := by simp [Sm.fill]
  have hlt4 : w.heap.size < w4.heap.size := Nat.lt_of_lt_of_le (Array.getElem?_eq_some_iff.1 HR3.out).1 hgr.size
  have hR4 : w4.heap[w.heap.size]? = _ := (hgr.block _ (Array.getElem?_eq_some_iff.1 HR3.out).1 (by simp)).trans HR3.out
  have hB4 : Below w.heap.size w w4 := ⟨hgr.os.trans HB3.out.os, hgr.tape.trans HB3.out.tape, hgr.output.trans HB3.out.output, Nat.le_trans HB3.out.size hgr.size, fun k hk => (hgr.block k (Nat.lt_of_lt_of_le hk HB3.out.size) (by simp; omega)).trans (HB3.out.block k hk)⟩
  have HV4 := Lib.hid hh4.vok
  have HW4 := Lib.hid (hh4.words hne)
  have HG4 := Lib.hid hg4
  have HR4 := Lib.hid hR4
  have HB4 := Lib.hid hB4
  clear hh4 hg4 hR4 hB4 hgr hne
  go_wp2_with (refine wpList_load_mid (by rfl) 85 _ (by rfl) (w.heap.size + 1) 0 (by rfl) (w32 v4.list) _ (st_words HG4.out) A32 (by rfl) (by exact S32) ?_)
  refine (bytesOf_any v4 HV4.out w4).mono ?_
  rintro _ w5 ⟨rfl, hb5⟩
  have hR5 := (hb5.block _ hlt4).trans HR4.out
  have HR5 := Lib.hid hR5
  have HB5 := Lib.hid (HB4.out.trans (hb5.mono HB4.out.size))
  clear hR5 hb5
  go_wp2_with (refine wpList_store_row (by rfl) 32 _ _ (by rfl) w.heap.size (u8s (Sm.bytesOf v4)) (by rfl) (by rfl) _ _ HR5.out (by rw [bytes4_len]; exact S25) (by rw [bytes4_len]; simp [u8s, zeros]) (u8s_one _) ?_)
  refine ret_row 2 (by kernel_rfl) w.heap.size _ _ A25 S25 rfl (setRow_heap _ _ _ _ _ _ HR5.out) (bytes4_len v4) ⟨?_, Below.setRow HB5.out (Nat.le_refl _) _⟩
  rw [HW4.out]
  rfl
end Go.Proofs.Ytlmbicelngpgoaa

/- The contract of sha.Hash. -/
namespace Go.Proofs.Ytlmbicelngpgoaa
open Go.RowKit

def HashRel (w : World) (tag len : Nat) (L : List (List Nat)) (i : Value) (wr : World) : Prop :=
  ∃ k : Nat, k ≤ len ∧ i = .int .i64 k ∧ StateAt wr (w.heap.size + 1) (pre tag (L.take k)) ∧ wr.heap[w.heap.size]? = some (.cells (u8s (zeros 32)) 32 (0, 0)) ∧ Below w.heap.size w wr
set_option maxRecDepth 100000 in
set_option maxHeartbeats 1000000 in
theorem hash_any (tag : Nat) (htag : tag < 256) (L : List (List Nat)) (p : Option Addr) (len cap : Nat) (w : World) (hL : Texts w p len cap L) (hl : tot L < 1099511627776) :
    Calls Try.prog 33 #[.int .u8 tag, .slice p len cap] w fun e w' => e = .returned (.agg (u8s (Sm.sum (pre tag L)))) ∧ Below w.heap.size w w' := by
  have hsz := hL.size
  have hle := hL.le
  have hlen : len < 1099511627776 := by have := len_le_tot L; omega
  have hz := (zero_of_info Z25).1
  have hz6 := (zero_of_info Z36).1
  have h59 := (zero_of_info Z59).1
  have HL := Lib.hid hL
  have HSZ := Lib.hid hsz
  clear hL hsz
  have hB2 : Below w.heap.size w ((w.alloc (.cells (u8s (zeros 32)) 32)).alloc (.cells (stL zero8 (zeros 64) 0).toArray 88)) := ((Below.refl _ _).alloc (Nat.le_refl _) _).alloc (by simp) _
  have hS2 : StateAt ((w.alloc (.cells (u8s (zeros 32)) 32)).alloc (.cells (stL zero8 (zeros 64) 0).toArray 88)) (w.heap.size + 1) [] := state_zero (heap_alloc2_new _ _ _)
  have hR2 : ((w.alloc (.cells (u8s (zeros 32)) 32)).alloc (.cells (stL zero8 (zeros 64) 0).toArray 88)).heap[w.heap.size]? = some (.cells (u8s (zeros 32)) 32 (0, 0)) := heap_alloc2_old _ _ _
  have HB2 := Lib.hid hB2
  have HS2 := Lib.hid hS2
  have HR2 := Lib.hid hR2
  clear hB2 hS2 hR2
  go_enter Try.func33, Try.ntmps33
  go_wp2_with fail
  generalize hWW : (w.alloc (.cells (u8s (zeros 32)) 32)).alloc (.cells (stL zero8 (zeros 64) 0).toArray 88) = WW
  have hsz2 : WW.heap.size = w.heap.size + 1 + 1 := by subst hWW; simp
  rw [hWW] at HB2 HS2 HR2
  have hs3 : StateAt (WW.alloc (.cells #[.int .u8 tag] 5)) (w.heap.size + 1) [] := HS2.out.later ((Below.refl _ _).alloc (Nat.le_refl _) _)
  have hb3 : Bytes (WW.alloc (.cells #[.int .u8 tag] 5)) (some ⟨w.heap.size + 1 + 1, 0, none⟩) 1 1 [tag] := by
    rw [← hsz2]
    exact Bytes.row (L := [tag]) (heap_alloc_new WW _) (by intro x hx; simp at hx; omega)
  have hB3 : Below w.heap.size w (WW.alloc (.cells #[.int .u8 tag] 5)) := HB2.out.alloc HB2.out.size _
  have hR3 : (WW.alloc (.cells #[.int .u8 tag] 5)).heap[w.heap.size]? = some (.cells (u8s (zeros 32)) 32 (0, 0)) := (Below.heap_alloc _ _ _ (by omega)).trans HR2.out
  refine (write_any [] [tag] (w.heap.size + 1) _ 1 1 _ hs3 hb3 (fun _ a ha => by cases ha; show w.heap.size + 1 + 1 ≠ w.heap.size + 1; omega) (by simp)).mono ?_
  rintro _ w4 ⟨rfl, hs4, hg4⟩
  have HB4 := Lib.hid (grown_below hB3 hg4 (by omega))
  have HR4 := Lib.hid ((hg4.block _ (Array.getElem?_eq_some_iff.1 hR3).1 (by simp)).trans hR3)
  have HS4 := Lib.hid hs4
  clear hs3 hb3 hB3 hR3 hs4 hg4 hWW hsz2 HB2 HS2 HR2
  go_wp2_with fail
  go_loopw [14] (fun i wr => HashRel w tag len L i wr) (fun i _ => len - (intOf i).toNat)
  case atStart => exact ⟨0, by omega, rfl, HS4.out, HR4.out, HB4.out⟩
  case round =>
    obtain ⟨k, hk, rfl, hs, hr, hb⟩ := hrel
    have HS := Lib.hid hs
    have HR := Lib.hid hr
    have HB := Lib.hid hb
    clear hs hr hb HB4 HR4 HS4
    by_cases hlt : k < len
    · obtain ⟨g, o, hp, hx⟩ := HL.out.at' (by intro e; have := HSZ.out; rw [e] at this; simp at this; omega)
      obtain ⟨q, n, c, h1, h2⟩ := hx k (by have := HSZ.out; omega)
      subst hp
      have e1 := tot_step L k (by have := HSZ.out; omega)
      have e2 := tot_take_le L (k + 1)
      have e3 : n = (L.getD k []).length := h2.size
      have hbk : ∀ a, q = some a → L.getD k [] ≠ [] → a.block < w.heap.size := fun a ha hn => by
        subst ha
        have := h2.cells 0 _ (vals_get _ 0 (List.length_pos_iff.2 hn))
        exact block_lt_of_cell this
      have hcell : wr.cell? ⟨g, o + k, none⟩ = some (.slice q n c) := (HB.out.cell (p := ⟨g, o + k, none⟩) (block_lt_of_cell h1)).trans h1
      have HT := Lib.hid h2
      have HBK := Lib.hid hbk
      have HE := Lib.hid (show tot (L.take k) + (8 + n) < 1099511627776 from by omega)
      have HE3 := Lib.hid e3
      have hn : n < 1099511627776 := by omega
      clear hx h1 h2 hbk e1 e2 e3
      go_wp2_with fail
      refine (bigEnd_any n (by omega) _).mono ?_
      rintro _ w3 ⟨rfl, hb3⟩
      have hs3 : StateAt (w3.alloc (.cells (u8s (Sm.bigs n)) 90)) (w.heap.size + 1) (pre tag (L.take k)) := (HS.out.later hb3).later ((Below.refl _ _).alloc (Nat.le_refl _) _)
      have hB3 : Below w.heap.size w (w3.alloc (.cells (u8s (Sm.bigs n)) 90)) := (HB.out.trans (hb3.mono HB.out.size)).alloc (Nat.le_trans HB.out.size hb3.size) _
      have hr3 := (hb3.block _ (Array.getElem?_eq_some_iff.1 HR.out).1).trans HR.out
      have hR3 : (w3.alloc (.cells (u8s (Sm.bigs n)) 90)).heap[w.heap.size]? = some (.cells (u8s (zeros 32)) 32 (0, 0)) := (Below.heap_alloc _ _ _ (Array.getElem?_eq_some_iff.1 hr3).1).trans hr3
      have hgs : w.heap.size + 1 < w3.heap.size := Nat.lt_of_lt_of_le HS.out.lt hb3.size
      have HS3 := Lib.hid hs3
      have HB3 := Lib.hid hB3
      have HR3 := Lib.hid hR3
      have HGS := Lib.hid hgs
      have HY3 := Lib.hid (Bytes.row (L := Sm.bigs n) (heap_alloc_new w3 (.cells (u8s (Sm.bigs n)) 90)) (bigs_all n))
      clear hs3 hB3 hR3 hr3 hgs hb3
      go_wp2_with (refine wpList_store_row (by rfl) 90 _ _ (by rfl) w3.heap.size (u8s (Sm.bigs n)) (by rfl) (by rfl) _ _ (heap_alloc_new _ _) (by exact S59) (by simp [u8s, zeros]; rfl) (u8s_one _) ?_; rw [setRow_alloc])
      refine (write_any (pre tag (L.take k)) (Sm.bigs n) (w.heap.size + 1) _ 8 8 _ HS3.out HY3.out (fun _ a ha => by cases ha; have := HGS.out; show w3.heap.size ≠ w.heap.size + 1; omega) (by have := HE.out; simp only [List.length_append, pre_length, Sm.bigs, List.length_cons, List.length_nil]; omega)).mono ?_
      rintro _ w5 ⟨rfl, hs5, hg5⟩
      have HB5 := Lib.hid (grown_below HB3.out hg5 (by omega))
      have HR5 := Lib.hid ((hg5.block _ (Array.getElem?_eq_some_iff.1 HR3.out).1 (by simp)).trans HR3.out)
      have HS5 := Lib.hid hs5
      clear hs5 hg5
      go_wp2_with fail
      refine (write_any (pre tag (L.take k) ++ Sm.bigs n) (L.getD k []) (w.heap.size + 1) q n c _ HS5.out (HT.out.later HB5.out).bytes (fun hne a ha => by have := HBK.out a ha hne; omega) (by have := HE.out; have := HE3.out; simp only [List.length_append, pre_length, Sm.bigs, List.length_cons, List.length_nil]; omega)).mono ?_
      rintro _ w6 ⟨rfl, hs6, hg6⟩
      have HB6 := Lib.hid (grown_below HB5.out hg6 (by omega))
      have HR6 := Lib.hid ((hg6.block _ (Array.getElem?_eq_some_iff.1 HR5.out).1 (by simp)).trans HR5.out)
      have HS6 := Lib.hid hs6
      clear hs6 hg6
      go_wp2_with fail
      go_roundw
      case rel =>
        refine ⟨k + 1, by omega, by go_num, ?_, HR6.out, HB6.out⟩
        have e := HS6.out
        rw [pre_step tag L k (by have := HSZ.out; omega), part, ← HE3.out, ← List.append_assoc]
        exact e
      case measure => simp [intOf]; omega
    · obtain rfl : k = len := by omega
      have hT : pre tag (L.take k) = pre tag L := by rw [List.take_of_length_le (by have := HSZ.out; omega)]
      rw [hT] at HS
      clear hT
      go_wp2_with fail
      refine (done_any (pre tag L) _ _ HS.out (by rw [pre_length]; omega)).mono ?_
      rintro _ w5 ⟨rfl, hb5⟩
      have HR5 := Lib.hid ((hb5.block _ (Array.getElem?_eq_some_iff.1 HR.out).1).trans HR.out)
      have HB5 := Lib.hid (HB.out.trans (hb5.mono HB.out.size))
      clear hb5
      go_wp2_with (refine wpList_store_row (by rfl) 32 _ _ (by rfl) w.heap.size (u8s (Sm.sum (pre tag L))) (by rfl) (by rfl) _ _ HR5.out (by rw [sum_size]; exact S25) (by rw [sum_size]; simp [u8s, zeros]) (u8s_one _) ?_)
      exact ret_row 4 (by kernel_rfl) w.heap.size _ _ A25 S25 rfl (setRow_heap _ _ _ _ _ _ HR5.out) (sum_size _) ⟨rfl, Below.setRow HB5.out (Nat.le_refl _) _⟩
end Go.Proofs.Ytlmbicelngpgoaa

/- The contract of sha.Preimage. -/
namespace Go.Proofs.Ytlmbicelngpgoaa
open Go.RowKit

set_option maxRecDepth 100000 in
set_option maxHeartbeats 1000000 in
theorem pre_any (tag : Nat) (_htag : tag < 256) (L : List (List Nat)) (p : Option Addr) (len cap : Nat) (w : World) (hL : Texts w p len cap L) (hl : tot L < 1099511627776) :
    Calls Try.prog 34 #[.int .u8 tag, .slice p len cap] w fun e w' => ∃ q n c, e = .returned (.slice q n c) ∧ w'.ownsRow w.heap.size 5 1 (.slice q n c) n (vals (pre tag L)) ∧ Below w.heap.size w w' := by
  have hsz := hL.size
  have hle := hL.le
  have hlen : len < 1099511627776 := by have := len_le_tot L; omega
  obtain ⟨i5, hi, hi0, hi1, hi2⟩ := info_parts I5
  have HI := Lib.hid hi
  have HI0 := Lib.hid hi0
  have HI1 := Lib.hid hi1
  have HI2 := Lib.hid hi2
  clear hi hi0 hi1 hi2
  have HL := Lib.hid hL
  have HSZ := Lib.hid hsz
  clear hL hsz
  go_enter Try.func34, Try.ntmps34
  go_wp2_with fail
  go_loop [5, 14] (fun s i => ∃ k : Nat, k ≤ len ∧ i = .int .i64 k ∧ s = .int .i64 (tot (L.take k) : Nat)) (fun _ i => len - (intOf i).toNat)
  case atStart => exact ⟨0, by omega, rfl, rfl⟩
  case round =>
    obtain ⟨k, hk, rfl, rfl⟩ := hrel
    by_cases hlt : k < len
    · obtain ⟨g, o, hp, hx⟩ := HL.out.at' (by intro e; have := HSZ.out; rw [e] at this; simp at this; omega)
      obtain ⟨q, n, c, h1, h2⟩ := hx k (by have := HSZ.out; omega)
      subst hp
      have e1 := tot_step L k (by have := HSZ.out; omega)
      have e2 := tot_take_le L (k + 1)
      have e3 := h2.size
      have e4 : n = (L.getD k []).length := e3
      obtain ⟨t, ht⟩ : ∃ t, t = tot (L.take k) := ⟨_, rfl⟩
      rw [← ht] at e1 ⊢
      have b1 : t + 8 + n < 1099511627776 := by omega
      have E1 := Lib.hid e1
      have E4 := Lib.hid e4
      clear hx h2 e1 e2 e3 e4 ht
      go_wp2
      go_round
      case rel => exact ⟨k + 1, by omega, by go_num, by rw [E1.out, ← E4.out]; exact congrArg (Value.int .i64) (by omega)⟩
      case measure => simp [intOf]; omega
    · obtain rfl : len = k := by omega
      obtain ⟨t, ht⟩ : ∃ t, t = tot (L.take len) := ⟨_, rfl⟩
      have htl : t < 1099511627776 := by have := tot_take_le L len; omega
      rw [← ht]
      have h59 := (zero_of_info Z59).1
      clear ht hlt hk
      go_wp2_with (first | (at_make; refine wpList_make_own _ (by rfl) _ _ 27 (by rfl) w.heap.size 5 i5 (.int .u8 0) 1 A22 HI.out HI0.out HI1.out .i64 .i64 _ t (by rfl) (by rfl) (by rfl) (by rw [HI2.out]; omega) (by unfold maxLen; omega) (Nat.le_refl _) ?_; intro w1 hown1 hgrow1) | (at_builtin; refine wpList_append_own _ (by rfl) (.tmp 26) (.tmp 28) 27 (by rfl) w.heap.size 5 i5 (.int .u8 0) 1 1 A22 HI.out HI0.out HI1.out HI2.out (by rfl) (by decide) _ 0 [] (by rfl) (hown1.alloc _) ⟨w1.heap.size, 0, none⟩ 1 1 (vals [tag]) (by rfl) (by rfl) (cells_of_row (L := [tag]) (heap_alloc_new w1 _)) (vals_one _) (by unfold maxLen; omega) (by omega) (by have := hgrow1.size; simp; omega) ?_; intro v2 w2 hown2 hgrow2 _))
      have hb1 : Below w.heap.size w w1 := (Below.refl _ _).grown hgrow1 (Nat.le_refl _) (by simp)
      have hb2 : Below w.heap.size w w2 := (hb1.alloc hb1.size _).grown hgrow2 (by have := hb1.size; simp; omega) (fun k hk => (hown1.alloc (.cells (u8s [tag]) 5)).lt k hk |>.1)
      have HO2 := Lib.hid hown2
      have HB2 := Lib.hid hb2
      clear hown2 hgrow2 hown1 hgrow1 hb1 hb2
      have hst : PreRel w tag len L v2 (.int .i64 0) w2 := ⟨0, by omega, rfl, HO2.out, HB2.out⟩
      have HST := Lib.hid hst
      clear hst HO2 HB2
      go_loopw [8, 32] (fun v i wr => PreRel w tag len L v i wr) (fun _ i _ => len - (intOf i).toNat)
      case atStart => exact HST.out
      case round =>
        obtain ⟨k, hk, rfl, ho, hb⟩ := hrel
        have HO0 := Lib.hid ho
        have HB := Lib.hid hb
        clear ho hb HST
        by_cases hlt : k < len
        · obtain ⟨g, o, hp, hx⟩ := HL.out.at' (by intro e; have := HSZ.out; rw [e] at this; simp at this; omega)
          obtain ⟨q, n, c, h1, h2⟩ := hx k (by have := HSZ.out; omega)
          subst hp
          have hcell : _ = some (Value.slice q n c) := (HB.out.cell (p := ⟨g, o + k, none⟩) (block_lt_of_cell h1)).trans h1
          have e1 := tot_step L k (by have := HSZ.out; omega)
          have e2 := tot_take_le L (k + 1)
          obtain ⟨s, hs⟩ : ∃ s, s = tot (L.take k) := ⟨_, rfl⟩
          obtain ⟨tk, htk⟩ : ∃ tk, tk = L.getD k [] := ⟨_, rfl⟩
          rw [← hs, ← htk] at e1
          rw [← htk] at h2
          have e3 := h2.size
          have b1 : s + 8 + n < 1099511627776 := by omega
          have HO := Lib.hid (show wr.ownsRow w.heap.size 5 1 _ s (vals (pre tag (L.take k))) from by rw [hs]; exact HO0.out)
          have E1 := Lib.hid e1
          have HT := Lib.hid h2
          have TK := Lib.hid htk
          have ST := Lib.hid hs
          clear hx h1 e1 e2 e3 hs htk HO0
          rcases h2.at' with ⟨hq, hc⟩ | ⟨xt, hq, hxx⟩
          · subst hq
            subst hc
            obtain rfl : n = 0 := by have := h2.le; omega
            clear h2
            go_wp2_with fail
            refine (bigEnd_any 0 (by omega) wr).mono ?_
            rintro _ w3 ⟨rfl, hb3⟩
            have HO3 := Lib.hid ((owns_later HO.out hb3).alloc (.cells (u8s (Sm.bigs 0)) 90))
            have HB3 := Lib.hid ((HB.out.trans (hb3.mono HB.out.size)).alloc (Nat.le_trans HB.out.size hb3.size) (.cells (u8s (Sm.bigs 0)) 90))
            have HN3 := Lib.hid (heap_alloc_new w3 (.cells (u8s (Sm.bigs 0)) 90))
            clear hb3
            go_wp2_with (first | (refine wpList_store_row (by rfl) 90 _ _ (by rfl) w3.heap.size (u8s (Sm.bigs 0)) (by rfl) (by rfl) _ _ (heap_alloc_new _ _) (by exact S59) (by simp [u8s, zeros]; rfl) (u8s_one _) ?_; rw [setRow_alloc]) | (at_builtin; refine wpList_append_own _ (by rfl) (.tmp 40) (.tmp 41) 27 (by rfl) w.heap.size 5 i5 (.int .u8 0) 1 1 A22 HI.out HI0.out HI1.out HI2.out (by rfl) (by decide) _ s _ (by rfl) HO3.out ⟨w3.heap.size, 0, none⟩ 8 8 (vals (Sm.bigs 0)) (by rfl) (by rfl) (cells_of_row HN3.out) (vals_one _) (by unfold maxLen; omega) (by omega) HB3.out.size ?_; intro v4 w4 hown4 hgrow4 _) | (at_builtin; refine wpList_append_own_none (by rfl) (.tmp 43) (.tmp 44) 27 (by rfl) w.heap.size 5 i5 1 A22 HI.out _ (s + 8) _ (by rfl) hown4 (by rfl) ?_))
            have hb4 : Below w.heap.size w w4 := HB3.out.grown hgrow4 HB3.out.size (fun k hk => (HO3.out.lt k hk).1)
            rw [← vals_append] at hown4
            have HO5 := Lib.hid hown4
            have HB5 := Lib.hid hb4
            clear hown4 hgrow4 hb4
            go_roundw
            case rel =>
              refine ⟨k + 1, by omega, by go_num, ?_, HB5.out⟩
              have e := HO5.out
              rw [E1.out, pre_step tag L k (by have := HSZ.out; omega), ← TK.out]
              rw [show s + (8 + tk.length) = s + 8 from by have := HT.out.size; omega]
              have hn0 : tk = [] := List.length_eq_zero_iff.1 (by have := HT.out.size; omega)
              have e2 : part tk = Sm.bigs 0 := by rw [part, ← HT.out.size, hn0, List.append_nil]
              rw [e2]
              exact e
            case measure => simp [intOf]; omega

          · subst hq
            clear h2 hxx
            go_wp2_with fail
            refine (bigEnd_any n (by omega) wr).mono ?_
            rintro _ w3 ⟨rfl, hb3⟩
            have HO3 := Lib.hid ((owns_later HO.out hb3).alloc (.cells (u8s (Sm.bigs n)) 90))
            have HB3 := Lib.hid ((HB.out.trans (hb3.mono HB.out.size)).alloc (Nat.le_trans HB.out.size hb3.size) (.cells (u8s (Sm.bigs n)) 90))
            have HN3 := Lib.hid (heap_alloc_new w3 (.cells (u8s (Sm.bigs n)) 90))
            clear hb3
            go_wp2_with (first | (refine wpList_store_row (by rfl) 90 _ _ (by rfl) w3.heap.size (u8s (Sm.bigs n)) (by rfl) (by rfl) _ _ (heap_alloc_new _ _) (by exact S59) (by simp [u8s, zeros]; rfl) (u8s_one _) ?_; rw [setRow_alloc]) | (at_builtin; refine wpList_append_own _ (by rfl) (.tmp 40) (.tmp 41) 27 (by rfl) w.heap.size 5 i5 (.int .u8 0) 1 1 A22 HI.out HI0.out HI1.out HI2.out (by rfl) (by decide) _ s _ (by rfl) HO3.out ⟨w3.heap.size, 0, none⟩ 8 8 (vals (Sm.bigs n)) (by rfl) (by rfl) (cells_of_row HN3.out) (vals_one _) (by unfold maxLen; omega) (by omega) HB3.out.size ?_; intro v4 w4 hown4 hgrow4 _) | (at_builtin; refine wpList_append_own _ (by rfl) (.tmp 43) (.tmp 44) 27 (by rfl) w.heap.size 5 i5 (.int .u8 0) 1 1 A22 HI.out HI0.out HI1.out HI2.out (by rfl) (by decide) _ (s + 8) _ (by rfl) hown4 xt n c (vals tk) (by rfl) (by rw [vals_length, Nat.mul_one]; exact HT.out.size.symm) ((HT.out.later (HB3.out.grown hgrow4 HB3.out.size (fun k hk => (HO3.out.lt k hk).1))).cells) (vals_one _) (by unfold maxLen; omega) (by omega) (Nat.le_trans HB3.out.size hgrow4.size) ?_; intro v5 w5 hown5 hgrow5 _))
            have hb4 : Below w.heap.size w w4 := HB3.out.grown hgrow4 HB3.out.size (fun k hk => (HO3.out.lt k hk).1)
            have hb5 : Below w.heap.size w w5 := hb4.grown hgrow5 hb4.size (fun k hk => (hown4.lt k hk).1)
            rw [List.append_assoc, ← vals_append, ← vals_append] at hown5
            have HO5 := Lib.hid hown5
            have HB5 := Lib.hid hb5
            clear hown5 hgrow5 hown4 hgrow4 hb4 hb5
            go_roundw
            case rel =>
              refine ⟨k + 1, by omega, by go_num, ?_, HB5.out⟩
              have e := HO5.out
              rw [E1.out, pre_step tag L k (by have := HSZ.out; omega), ← TK.out]
              rw [show s + (8 + tk.length) = s + 8 + n from by have := HT.out.size; omega]
              have e2 : part tk = Sm.bigs n ++ tk := by rw [part, ← HT.out.size]
              rw [e2]
              exact e
            case measure => simp [intOf]; omega

        · obtain rfl : len = k := by omega
          go_wp2_with fail
          go_ret
          have e := HO0.out
          have h1 : 0 < tot (L.take len) := by simp only [tot, pre, List.length_cons]; omega
          obtain ⟨g, cp, rfl, _, _⟩ := e.form h1
          rw [List.take_of_length_le (by have := HSZ.out; omega)] at e ⊢
          exact ⟨_, _, _, rfl, e, HB.out⟩
end Go.Proofs.Ytlmbicelngpgoaa

/- Package page, as it landed: Sum, Preimage. -/
namespace Go.Proofs.Ytlmbicelngpgoaa.Pg
open Go.RowKit

set_option maxRecDepth 100000 in
set_option maxHeartbeats 1000000 in
theorem sum_any' (b : List Nat) (p : Option Addr) (n c : Nat) (w : World) (hT : Tx w p n c b) (hn : n ≤ 100000) :
    Calls Try.prog 19 #[.slice p n c] w fun e w' => e = .returned (.agg (u8s (sumOf b))) ∧ Below w.heap.size w w' := by
  have hz := (zero_of_info Z25).1
  have h0 := (Below.refl w.heap.size w).alloc (Nat.le_refl _) (.cells (u8s (zeros 32)) 32)
  have hb := (Below.refl (w.alloc (.cells (u8s (zeros 32)) 32)).heap.size (w.alloc (.cells (u8s (zeros 32)) 32))).alloc (Nat.le_refl _) (.cells #[.slice p n c] 27)
  have TX := Lib.hid (one_text (heap_alloc_new (w.alloc (.cells (u8s (zeros 32)) 32)) (.cells #[.slice p n c] 27)) ((hT.later h0).later hb))
  have B1 := Lib.hid (h0.trans (hb.mono h0.size))
  have HR := Lib.hid ((heap_alloc_old (w.alloc (.cells (u8s (zeros 32)) 32)) (.cells #[.slice p n c] 27) (Array.getElem?_eq_some_iff.1 (heap_alloc_new w (.cells (u8s (zeros 32)) 32))).1).trans (heap_alloc_new w (.cells (u8s (zeros 32)) 32)))
  have HL := Lib.hid hT.size
  clear hT hb h0
  go_enter Try.func19, Try.ntmps19
  go_wp2_with fail
  rw [show (w.alloc (.cells (u8s (zeros 32)) 32)).heap.size = w.heap.size + 1 from by simp] at TX
  generalize (w.alloc (.cells (u8s (zeros 32)) 32)).alloc (.cells #[.slice p n c] 27) = w1 at *
  refine (hash_any 80 (by omega) [b] _ 1 1 w1 TX.out (by have := HL.out; rw [tot_one]; omega)).mono ?_
  rintro e w3 ⟨rfl, b3⟩
  have B3 := Lib.hid (B1.out.trans (b3.mono B1.out.size))
  have R3 := Lib.hid ((b3.block _ (Array.getElem?_eq_some_iff.1 HR.out).1).trans HR.out)
  obtain ⟨D, hD⟩ : ∃ D, D = sumOf b := ⟨_, rfl⟩
  rw [show Sm.sum (pre 80 [b]) = D from hD.symm]
  have HDH := Lib.hid (show D.length = 32 from by rw [hD]; rfl)
  have HDE := Lib.hid hD
  clear b3 hD
  go_wp2_with (refine wpList_store_row (by rfl) 32 _ _ (by rfl) w.heap.size (u8s D) (by rfl) (by rfl) _ _ R3.out (by rw [u8s_size, HDH.out]; exact S25) (by rw [u8s_size, u8s_size, HDH.out]; rfl) (u8s_one _) ?_)
  exact ret_row 2 (by kernel_rfl) w.heap.size _ _ A25 S25 rfl (setRow_heap _ _ _ _ _ _ R3.out) (by rw [u8s_size]; exact HDH.out) ⟨by rw [HDE.out], Below.setRow B3.out (Nat.le_refl _) _⟩
set_option maxRecDepth 100000 in
set_option maxHeartbeats 1000000 in
theorem pre_any' (b : List Nat) (p : Option Addr) (n c : Nat) (w : World) (hT : Tx w p n c b) (hn : n ≤ 100000) :
    Calls Try.prog 20 #[.slice p n c] w fun e w' => ∃ q m d, e = .returned (.slice q m d) ∧ Tx w' q m d (Go.Proofs.Ytlmbicelngpgoaa.pre 80 [b]) ∧ Below w.heap.size w w' := by
  have hb := (Below.refl w.heap.size w).alloc (Nat.le_refl _) (.cells #[.slice p n c] 27)
  have TX := Lib.hid (one_text (heap_alloc_new w (.cells #[.slice p n c] 27)) (hT.later hb))
  have B1 := Lib.hid hb
  have HL := Lib.hid hT.size
  have HO := Lib.hid (show Sm.allB (Go.Proofs.Ytlmbicelngpgoaa.pre 80 [b]) from pre_ok 80 (by omega) (fun x hx => by rw [List.mem_singleton.1 hx]; exact hT.ok))
  clear hT hb
  go_enter Try.func20, Try.ntmps20
  go_wp2_with fail
  generalize w.alloc (.cells #[.slice p n c] 27) = w1 at *
  refine (pre_any 80 (by omega) [b] _ 1 1 w1 TX.out (by have := HL.out; rw [tot_one]; omega)).mono ?_
  rintro e w3 ⟨q, m, d, rfl, o3, b3⟩
  have T3 := Lib.hid (tx_of_owns o3 HO.out)
  have B3 := Lib.hid (B1.out.trans (b3.mono B1.out.size))
  clear o3 b3
  go_wp2_with fail
  go_ret
  exact ⟨_, _, _, rfl, T3.out, B3.out⟩
end Go.Proofs.Ytlmbicelngpgoaa.Pg

/- bytes.Equal. -/
namespace Go.Proofs.Ytlmbicelngpgoaa.Pg
open Go.RowKit

set_option maxRecDepth 100000 in
set_option maxHeartbeats 1000000 in
theorem bequal_any {a b : List Nat} {p q : Option Addr} {n c m d : Nat} {w : World} (ha : Tx w p n c a) (hb : Tx w q m d b) :
    Calls Try.prog 26 #[.slice p n c, .slice q m d] w fun e w' => e = .returned (.bool (decide (a = b))) ∧ w = w' := by
  have h1 := convert_tx ha
  have h2 := convert_tx hb
  have HE := Lib.hid (str_eq ha.ok hb.ok)
  rw [← HE.out]
  clear ha hb
  go_enter Try.func26, Try.ntmps26
  go_wp2_with fail
  go_ret
  exact ⟨rfl, rfl⟩
end Go.Proofs.Ytlmbicelngpgoaa.Pg

/- Package page, as it landed: Put. -/
namespace Go.Proofs.Ytlmbicelngpgoaa.Pg
open Go.RowKit

section
variable {Q QX : Nat → Prop} {w : World} {g : Nat} {mp : Option Nat} {cl : Option Addr} {s : S}
theorem SAt.f1 (h : SAt Q w g mp cl s) : w.frozen? ⟨g, 1, none⟩ = false := frozen_of_row w g 1 _ _ h.row
/-- A store's block is turned: another one's stays as it is. -/
theorem SAt.aside {k : Nat} {w' : World} (h : SAt Q w g mp cl s) (ho : Dk.Only (fun j => j = k) w w') (hk : ¬ Q k) : SAt Q w' g mp cl s := h.only ho (fun _ hj e => hk (e ▸ hj))
/-- The clash is laid. -/
theorem SAt.clashed {p q : Option Addr} {m c n d : Nat} {t b : List Nat} (h : SAt Q w g mp cl s) (h1 : TQ Q w p m c t) (h2 : TQ QX w q n d b) (hlt : ∀ k, QX k → k < w.heap.size) (hok : S.ok ⟨s.W, some (t, b)⟩) :
    SAt (fun k => Q k ∨ QX k ∨ k = w.heap.size) ((w.alloc (.cells #[.slice p m c, .slice q n d] 66)).setCell ⟨g, 1, none⟩ (.pointer (some ⟨w.heap.size, 0, none⟩))) g mp (some ⟨w.heap.size, 0, none⟩) ⟨s.W, some (t, b)⟩ ∧
    Dk.Only (fun j => j = g) w ((w.alloc (.cells #[.slice p m c, .slice q n d] 66)).setCell ⟨g, 1, none⟩ (.pointer (some ⟨w.heap.size, 0, none⟩))) := by
  have hg : g < w.heap.size := h.lt g h.mine
  have hb := (Below.refl w.heap.size w).alloc (Nat.le_refl _) (.cells #[.slice p m c, .slice q n d] 66)
  have hnew := heap_alloc_new w (.cells #[.slice p m c, .slice q n d] 66)
  have h3 := h.later hb
  have t1 := h1.keep (w' := w.alloc (.cells #[.slice p m c, .slice q n d] 66)) (fun k hk => hb.block k (h.lt k hk))
  have t2 := h2.keep (w' := w.alloc (.cells #[.slice p m c, .slice q n d] 66)) (fun k hk => hb.block k (hlt k hk))
  have hset := Dk.Only.setCell (P := fun j => j = g) (w.alloc (.cells #[.slice p m c, .slice q n d] 66)) (a := ⟨g, 1, none⟩) rfl (.pointer (some ⟨w.heap.size, 0, none⟩))
  have hsz := hset.size
  rw [World.size_alloc] at hsz
  have hrow := heap_setCell_same (w.alloc (.cells #[.slice p m c, .slice q n d] 66)) g 1 _ _ (.pointer (some ⟨w.heap.size, 0, none⟩)) h3.row
  refine ⟨⟨hrow, (h3.pages.turn_row h3.row hset).wide (fun _ k => Or.inl k), Or.inr ⟨_, _, _, rfl, rfl, ⟨Or.inr (Or.inr rfl), p, m, c, q, n, d, (hset.block _ (by simp) (by omega)).trans hnew, (t1.turn hset (fun z hz hz' => text_not_row t1.tx hz hz' h3.row)).wide (fun _ k => Or.inl k), (t2.turn hset (fun z hz hz' => text_not_row t2.tx hz hz' h3.row)).wide (fun _ k => Or.inr (Or.inl k))⟩⟩, Or.inl h.mine, ?_, hok⟩, (Dk.Only.of_below _ hb).trans hset⟩
  intro k hk
  rcases hk with hk | hk | rfl
  · have := h.lt k hk; omega
  · have := hlt k hk; omega
  · omega
end
theorem tq_of_own {w w' : World} {q : Option Addr} {n c : Nat} {B : List Nat} (ho : w'.ownsRow w.heap.size 5 1 (.slice q n c) n (vals B)) (hn : n = B.length) (hB : Sm.allB B) (hl : B.length ≤ 100000) : TQ (fun k => w.heap.size ≤ k ∧ k < w'.heap.size) w' q n c B :=
  ⟨by subst hn; exact tx_of_owns ho hB, fun x hx _ => ho.lt x.block (by rw [hx]; rfl), hl⟩
theorem only_setRow (w : World) (g : Nat) (cs : Array Value) : Dk.Only (fun j => j = g) w (w.setRow g cs) :=
  ⟨rfl, rfl, rfl, by simp [World.setRow], fun k _ hn => by simp only [World.setRow]; rw [Array.getElem?_modify, if_neg (fun e => hn e.symm)]⟩
/-- What Put leaves. -/
def PutPost (Q : Nat → Prop) (w : World) (g : Nat) (s' : S) (w' : World) : Prop := (∃ Q', PL w' g Q' s' ∧ ∀ k, Q' k → Q k ∨ w.heap.size ≤ k) ∧ Dk.Only Q w w'
theorem putPost_fin {w wX : World} {g r4 : Nat} {Q Q' : Nat → Prop} {mp : Option Nat} {cl : Option Addr} {s' : S} (h : SAt Q' wX g mp cl s') (ho : Dk.Only Q w wX) (hn : ¬ Q' r4) (hq : ∀ k, Q' k → Q k ∨ w.heap.size ≤ k) (hr : w.heap.size ≤ r4) (cs : Array Value) : PutPost Q w g s' (wX.setRow r4 cs) :=
  ⟨⟨Q', ⟨_, _, h.aside (only_setRow wX r4 cs) hn⟩, hq⟩, only_old ((ho.mono (Q := fun k => Q k ∨ k = r4) (fun k e => Or.inl e)).trans ((only_setRow wX r4 cs).mono (fun k e => Or.inr e))) (fun k e => e.imp id (fun e => by omega))⟩
set_option maxRecDepth 100000 in
set_option maxHeartbeats 2500000 in
theorem put_any {w : World} {g : Nat} {Q : Nat → Prop} {s : S} (b : List Nat) (p : Option Addr) (n c : Nat) (h : PL w g Q s) (hT : Tx w p n c b) (hn : n ≤ 100000) (hsm : s.W.length < 100000) :
    Calls Try.prog 15 #[.pointer (some ⟨g, 0, none⟩), .slice p n c] w fun e w' => e = .returned (.agg (u8s (sumOf b))) ∧ PutPost Q w g (s.put b) w' := by
  obtain ⟨mp, cl, h⟩ := h
  have hz := (zero_of_info Z25).1
  obtain ⟨D, hD⟩ : ∃ D, D = sumOf b := ⟨_, rfl⟩
  have HDL := Lib.hid (show D.length = 32 from by rw [hD]; rfl)
  have HDO := Lib.hid (show Sm.allB D from by rw [hD]; exact sumOf_ok b)
  have HNB := Lib.hid (show n = b.length from hT.size)
  have h0 := (Below.refl w.heap.size w).alloc (Nat.le_refl _) (.cells (u8s (zeros 32)) 32)
  have HB0 := Lib.hid h0
  have R0 := Lib.hid (heap_alloc_new w (.cells (u8s (zeros 32)) 32))
  have T0 := Lib.hid (hT.later h0)
  have H0 := Lib.hid (h.later h0)
  have HQL := Lib.hid h.lt
  have HTO := Lib.hid hT.ok
  have HD := Lib.hid hD
  have HOK := Lib.hid (S.put_ok h.ok hT.ok)
  clear h hT h0 hD
  go_enter Try.func15, Try.ntmps15
  go_wp2_with fail
  generalize w.alloc (.cells (u8s (zeros 32)) 32) = w1 at *
  generalize hr4 : w.heap.size = r4 at *
  refine (sum_any' b p n c w1 T0.out hn).mono ?_
  rintro _ w2 ⟨rfl, b2⟩
  rw [← HD.out]
  have HB2 := Lib.hid (HB0.out.trans (b2.mono (hr4 ▸ HB0.out.size)))
  have R2 := Lib.hid ((b2.block _ (Array.getElem?_eq_some_iff.1 R0.out).1).trans R0.out)
  have T2 := Lib.hid (T0.out.later b2)
  have H2 := Lib.hid (H0.out.later b2)
  have hba := (Below.refl w2.heap.size w2).alloc (Nat.le_refl _) (.cells (u8s D) 32)
  have HB3 := Lib.hid (HB2.out.trans (hba.mono (hr4 ▸ HB2.out.size)))
  have R3 := Lib.hid ((hba.block _ (Array.getElem?_eq_some_iff.1 R2.out).1).trans R2.out)
  have T3 := Lib.hid (T2.out.later hba)
  have H3 := Lib.hid (H2.out.later hba)
  have R5 := Lib.hid (heap_alloc_new w2 (.cells (u8s D) 32))
  have RZ := Lib.hid (heap_alloc_new w2 (.cells (u8s (zeros 32)) 32))
  have HSR := Lib.hid (setRow_alloc w2 (u8s (zeros 32)) (u8s D) 32)
  have HR45 := Lib.hid (show r4 < w2.heap.size from by have := (Array.getElem?_eq_some_iff.1 R2.out).1; exact this)
  clear hba b2 HB0 R0 T0 H0 HB2 R2 T2 H2
  go_upto_region 2 with (refine wpList_store_row (by rfl) 32 _ _ (by rfl) w2.heap.size (u8s D) (by rfl) (by rfl) _ _ RZ.out (by rw [u8s_size, HDL.out]; exact S25) (by rw [u8s_size, u8s_size, HDL.out]; rfl) (u8s_one _) ?_)
  rw [HSR.out]
  generalize w2.alloc (.cells (u8s D) 32) = w3 at *
  generalize w2.heap.size = r5 at *
  clear RZ HSR
  obtain ⟨pp, mm, cc, hl, hnone, hsome⟩ := look_any H3.out.pages HDL.out HDO.out
  have C03 := Lib.hid H3.out.c0
  have HNN := Lib.hid hnone
  have HSS := Lib.hid hsome
  clear hnone hsome
  simp only [Act.put]
  have hkeep : ∀ s' : S, s' = s → PutPost Q w g s' (w3.setRow r4 (u8s D)) := fun s' e => by
    rw [e]
    exact putPost_fin H3.out (Dk.Only.of_below _ (by rw [hr4]; exact HB3.out)) (fun e => by have := HQL.out _ e; omega) (fun k hk => Or.inl hk) (by omega) _
  have HKE := Lib.hid hkeep
  clear hkeep
  by_cases hi : idx D s.W < s.W.length
  · rw [decide_eq_true hi] at hl
    have HL := Lib.hid hl
    obtain ⟨t, ht⟩ : ∃ t, textAt s.W D = some t := ⟨_, textAt_some hi⟩
    have HT := Lib.hid (HSS.out t ht)
    have HPT := Lib.hid ht
    have hmt : mm ≤ 100000 := by have := HT.out.tx.size; have := HT.out.le; omega
    clear hl ht hi HSS HNN
    refine wp_region_held_drew (S := fun w' => w'.heap = w3.heap) (by kernel_rfl) rfl (fun hHeld => ?_)
    refine wpAnyH_take (i := 0) (oi := ⟨some 11, .move (.tmp 0), _, _, _, _⟩) (v := ?_) rfl (by kernel_rfl) (by kernel_rfl) (by kernel_rfl) (fun _ _ _ h => h) (Or.inl ⟨by rfl, ?_⟩) (by assumption) ?_
    rotate_left
    · intro w' hSw
      go_simp
      try with_reducible rfl
    try simp only [Act.put, List.setIfInBounds_toArray, List.set_cons_zero, List.set_cons_succ]
    refine wpAnyH_take (i := 1) (oi := ⟨some 12, .nilCheck (.tmp 11), _, _, _, _⟩) (v := ?_) rfl (by kernel_rfl) (by kernel_rfl) (by kernel_rfl) (fun _ _ _ h => h) (Or.inl ⟨by rfl, ?_⟩) (by assumption) ?_
    rotate_left
    · intro w' hSw
      go_simp
      try with_reducible rfl
    try simp only [Act.put, List.setIfInBounds_toArray, List.set_cons_zero, List.set_cons_succ]
    refine wpAnyH_take (i := 2) (oi := ⟨some 13, .fieldAddr 58 (.tmp 12) 0, _, _, _, _⟩) (v := ?_) rfl (by kernel_rfl) (by kernel_rfl) (by kernel_rfl) (fun _ _ _ h => h) (Or.inl ⟨by rfl, ?_⟩) (by assumption) ?_
    rotate_left
    · intro w' hSw
      go_simp
      try with_reducible rfl
    try simp only [Act.put, List.setIfInBounds_toArray, List.set_cons_zero, List.set_cons_succ]
    refine wpAnyH_take (i := 3) (oi := ⟨some 14, .load 55 (.tmp 13), _, _, _, _⟩) (v := ?_) rfl (by kernel_rfl) (by kernel_rfl) (by kernel_rfl) (fun _ _ _ h => h) (Or.inl ⟨by rfl, ?_⟩) (by assumption) ?_
    rotate_left
    · intro w' hSw
      have c0 := (World.cell?_of_block (w := w3) (a := ⟨g, 0, none⟩) (by rw [hSw])).trans C03.out
      go_simp
      try with_reducible rfl
    try simp only [Act.put, List.setIfInBounds_toArray, List.set_cons_zero, List.set_cons_succ]
    refine wpAnyH_take (i := 4) (oi := ⟨some 15, .load 32 (.tmp 5), _, _, _, _⟩) (v := ?_) rfl (by kernel_rfl) (by kernel_rfl) (by kernel_rfl) (fun _ _ _ h => h) (Or.inl ⟨by rfl, ?_⟩) (by assumption) ?_
    rotate_left
    · intro w' hSw
      refine Eq.trans (b := Result.ok (Next.value (.agg (u8s D))) w') ?_ ?_
      · exact op_load_dig (by rfl) (by rfl) HDL.out (range_of_row' ((congrArg (fun h => h[r5]?) hSw).trans R5.out))
      · with_reducible rfl
    try simp only [Act.put, List.setIfInBounds_toArray, List.set_cons_zero, List.set_cons_succ]
    refine wpAnyH_take (i := 5) (oi := ⟨some 16, .lookup 55 (.tmp 14) (.tmp 15) true, _, _, _, _⟩) (v := ?_) rfl (by kernel_rfl) (by kernel_rfl) (by kernel_rfl) (fun _ _ _ h => h) (Or.inl ⟨by rfl, ?_⟩) (by assumption) ?_
    rotate_left
    · intro w' hSw
      refine Eq.trans (b := Result.ok (Next.value (.tuple #[.slice pp mm cc, .bool true])) w') ?_ ?_
      · exact op_look (by rfl) (by rfl) (by rfl) (HL.out w' hSw)
      · with_reducible rfl
    try simp only [Act.put, List.setIfInBounds_toArray, List.set_cons_zero, List.set_cons_succ]
    refine wpAnyH_take (i := 6) (oi := ⟨some 10, .move (.tmp 16), _, _, _, _⟩) (v := ?_) rfl (by kernel_rfl) (by kernel_rfl) (by kernel_rfl) (fun _ _ _ h => h) (Or.inl ⟨by rfl, ?_⟩) (by assumption) ?_
    rotate_left
    · intro w' hSw
      go_simp
      try with_reducible rfl
    try simp only [Act.put, List.setIfInBounds_toArray, List.set_cons_zero, List.set_cons_succ]
    refine wpAnyH_take (i := 7) (oi := ⟨some 17, .extract (.tmp 10) 0, _, _, _, _⟩) (v := ?_) rfl (by kernel_rfl) (by kernel_rfl) (by kernel_rfl) (fun _ _ _ h => h) (Or.inl ⟨by rfl, ?_⟩) (by assumption) ?_
    rotate_left
    · intro w' hSw
      go_simp
      try with_reducible rfl
    try simp only [Act.put, List.setIfInBounds_toArray, List.set_cons_zero, List.set_cons_succ]
    refine wpAnyH_take (i := 8) (oi := ⟨some 18, .extract (.tmp 10) 1, _, _, _, _⟩) (v := ?_) rfl (by kernel_rfl) (by kernel_rfl) (by kernel_rfl) (fun _ _ _ h => h) (Or.inl ⟨by rfl, ?_⟩) (by assumption) ?_
    rotate_left
    · intro w' hSw
      go_simp
      try with_reducible rfl
    try simp only [Act.put, List.setIfInBounds_toArray, List.set_cons_zero, List.set_cons_succ]
    refine wpAnyH_take (i := 9) (oi := ⟨some 6, .assign (.tmp 17), _, _, _, _⟩) (v := ?_) rfl (by kernel_rfl) (by kernel_rfl) (by kernel_rfl) (fun _ _ _ h => h) (Or.inl ⟨by rfl, ?_⟩) (by assumption) ?_
    rotate_left
    · intro w' hSw
      go_simp
      try with_reducible rfl
    try simp only [Act.put, List.setIfInBounds_toArray, List.set_cons_zero, List.set_cons_succ]
    refine wpAnyH_take (i := 10) (oi := ⟨some 7, .assign (.tmp 18), _, _, _, _⟩) (v := ?_) rfl (by kernel_rfl) (by kernel_rfl) (by kernel_rfl) (fun _ _ _ h => h) (Or.inl ⟨by rfl, ?_⟩) (by assumption) ?_
    rotate_left
    · intro w' hSw
      go_simp
      try with_reducible rfl
    try simp only [Act.put, List.setIfInBounds_toArray, List.set_cons_zero, List.set_cons_succ]
    refine wpAnyH_done (by kernel_rfl) ?_ _
    have HB5 := Lib.hid (HB3.out.drew)
    have R55 := Lib.hid (show w3.drew.heap[r5]? = _ from R5.out)
    have R35 := Lib.hid (show w3.drew.heap[r4]? = _ from R3.out)
    have T5 := Lib.hid (T3.out.later (Below.refl _ _).drew)
    have H5 := Lib.hid (H3.out.later (Below.refl _ _).drew)
    have HKE5 := Lib.hid (show ∀ s' : S, s' = s → PutPost Q w g s' (w3.drew.setRow r4 (u8s D)) from fun s' e => by
      rw [e]
      exact putPost_fin H5.out (Dk.Only.of_below _ (by rw [hr4]; exact HB5.out)) (fun e => by have := HQL.out _ e; omega) (fun k hk => Or.inl hk) (by omega) _)
    have HT5 := Lib.hid (HT.out.keep (w' := w3.drew) (fun _ _ => rfl))
    have C1 := H5.out.c1
    clear hHeld HB3 R5 R3 T3 H3 HL HKE HT
    generalize w3.drew = w5 at *
    have HTT := Lib.hid HT5.out.tx
    have HCL := Lib.hid (show s.put b = ⟨s.W, match s.cl with | some x => some x | none => if t = b then none else some (t, b)⟩ from by
      have h1 : idx (sumOf b) s.W < s.W.length := by rw [← HD.out]; exact textAt_lt HPT.out
      have h2 : textAt s.W (sumOf b) = some t := by rw [← HD.out]; exact HPT.out
      unfold S.put putW
      rw [if_pos h1, h2]
      cases s.cl <;> rfl)
    cases cl with
    | some ca =>
      have HS := Lib.hid (show s.put b = s from by
        rw [HCL.out]
        rcases H5.out.clash with ⟨h1, _⟩ | ⟨_, a, b', _, h2, _⟩
        · cases h1
        · cases s with | mk W c => cases h2; rfl)
      go_wp2_with (first | (refine wpList_load_row (by rfl) 32 (.tmp 5) (by rfl) r5 (by rfl) 32 (u8s D) (0, 0) _ R55.out A25 rfl (by rw [u8s_size, HDL.out]; exact S25) ?_) | (refine wpList_store_row (by rfl) 32 _ _ (by rfl) r4 (u8s D) (by rfl) (by rfl) _ _ R35.out (by rw [u8s_size, HDL.out]; exact S25) (by rw [u8s_size, u8s_size, HDL.out]; rfl) (u8s_one _) ?_))
      exact ret_row 4 (by kernel_rfl) r4 _ _ A25 S25 rfl (setRow_heap _ _ _ _ _ _ R35.out) (by rw [u8s_size]; exact HDL.out) ⟨by rw [HD.out], HKE5.out _ HS.out⟩
    | none =>
      have hcn : s.cl = none := by
        rcases H5.out.clash with ⟨_, h1⟩ | ⟨_, _, _, h1, _⟩
        · exact h1
        · cases h1
      by_cases htb : t = b
      · have HS := Lib.hid (show s.put b = s from by
          rw [HCL.out, if_pos htb, hcn]
          cases s with | mk W c => cases hcn; rfl)
        have HEQ := Lib.hid (decide_eq_true htb)
        clear htb hcn
        go_wp2_with (first | (refine wpList_load_row (by rfl) 32 (.tmp 5) (by rfl) r5 (by rfl) 32 (u8s D) (0, 0) _ R55.out A25 rfl (by rw [u8s_size, HDL.out]; exact S25) ?_) | (refine wpList_store_row (by rfl) 32 _ _ (by rfl) r4 (u8s D) (by rfl) (by rfl) _ _ R35.out (by rw [u8s_size, HDL.out]; exact S25) (by rw [u8s_size, u8s_size, HDL.out]; rfl) (u8s_one _) ?_) | (go_at_call 26; refine (bequal_any HTT.out T5.out).mono ?_; rintro _ _ ⟨rfl, rfl⟩; rw [HEQ.out]))
        exact ret_row 4 (by kernel_rfl) r4 _ _ A25 S25 rfl (setRow_heap _ _ _ _ _ _ R35.out) (by rw [u8s_size]; exact HDL.out) ⟨by rw [HD.out], HKE5.out _ HS.out⟩
      · have HS := Lib.hid (show s.put b = ⟨s.W, some (t, b)⟩ from by rw [HCL.out, hcn]; simp only [if_neg htb])
        have HEQ := Lib.hid (decide_eq_false htb)
        clear htb hcn
        have OKC := Lib.hid (show S.ok ⟨s.W, some (t, b)⟩ from by rw [← HS.out]; exact HOK.out)
        go_upto_region 6 with (first | (go_at_call 26; refine (bequal_any HTT.out T5.out).mono ?_; rintro _ _ ⟨rfl, rfl⟩; rw [HEQ.out]))
        go_wp2_with fail
        refine (bclone_any T5.out hn).mono ?_
        rintro _ w42 ⟨q42, c42, rfl, o42, b42⟩
        have T42 := tq_of_own o42 HNB.out HTO.out (by rw [← HNB.out]; exact hn)
        have H42 := H5.out.later b42
        have HT42 := HT5.out.keep (w' := w42) (fun k hk => b42.block k (H5.out.lt k hk))
        obtain ⟨HCX, hoX⟩ := H42.clashed HT42 T42 (fun k hk => hk.2) OKC.out
        have hba := (Below.refl w42.heap.size w42).alloc (Nat.le_refl _) (.cells #[.slice pp mm cc, .slice q42 n c42] 66)
        have cA := (H42.later hba).c1
        have fA := (H42.later hba).f1
        have hg4 : g < r4 := HQL.out _ H5.out.mine
        have RR4 := Lib.hid ((hoX.block r4 (Nat.lt_of_lt_of_le (Array.getElem?_eq_some_iff.1 R35.out).1 b42.size) (by omega)).trans ((b42.block _ (Array.getElem?_eq_some_iff.1 R35.out).1).trans R35.out))
        have RR5 := Lib.hid ((hoX.block r5 (Nat.lt_of_lt_of_le (Array.getElem?_eq_some_iff.1 R55.out).1 b42.size) (by have := HR45.out; omega)).trans ((b42.block _ (Array.getElem?_eq_some_iff.1 R55.out).1).trans R55.out))
        have HFIN := Lib.hid (show PutPost Q w g (s.put b) (((w42.alloc (.cells #[.slice pp mm cc, .slice q42 n c42] 66)).setCell ⟨g, 1, none⟩ (.pointer (some ⟨w42.heap.size, 0, none⟩))).setRow r4 (u8s D)) from by
          rw [HS.out]
          have hs5 : r4 < w5.heap.size := (Array.getElem?_eq_some_iff.1 R35.out).1
          have hbw : w.heap.size ≤ w5.heap.size := by omega
          have hb4 := b42.size
          refine putPost_fin HCX ((Dk.Only.of_below _ (by rw [hr4]; exact HB5.out.trans (b42.mono (by omega)))).trans (hoX.mono (fun k e => by rw [e]; exact H5.out.mine))) (fun e => ?_) (fun k hk => ?_) (by omega) _
          · rcases e with e | ⟨e, _⟩ | e
            · have := HQL.out _ e; omega
            · omega
            · omega
          · rcases hk with e | ⟨e, _⟩ | e
            · exact Or.inl e
            · right; omega
            · right; omega)
        clear o42 b42 T42 H42 HT42 HCX hoX hba HT5 HTT C1
        go_wp2_with (first | (refine wpList_load_row (by rfl) 32 (.tmp 5) (by rfl) r5 (by rfl) 32 (u8s D) (0, 0) _ RR5.out A25 rfl (by rw [u8s_size, HDL.out]; exact S25) ?_) | (refine wpList_store_row (by rfl) 32 _ _ (by rfl) r4 (u8s D) (by rfl) (by rfl) _ _ RR4.out (by rw [u8s_size, HDL.out]; exact S25) (by rw [u8s_size, u8s_size, HDL.out]; rfl) (u8s_one _) ?_))
        exact ret_row 4 (by kernel_rfl) r4 _ _ A25 S25 rfl (setRow_heap _ _ _ _ _ _ RR4.out) (by rw [u8s_size]; exact HDL.out) ⟨by rw [HD.out], HFIN.out⟩
  · rw [decide_eq_false hi] at hl
    have HL := Lib.hid hl
    have HPN := Lib.hid (textAt_none hi)
    have HNI := Lib.hid hi
    clear hl hi HSS HNN
    refine wp_region_held_drew (S := fun w' => w'.heap = w3.heap) (by kernel_rfl) rfl (fun hHeld => ?_)
    refine wpAnyH_take (i := 0) (oi := ⟨some 11, .move (.tmp 0), _, _, _, _⟩) (v := ?_) rfl (by kernel_rfl) (by kernel_rfl) (by kernel_rfl) (fun _ _ _ h => h) (Or.inl ⟨by rfl, ?_⟩) (by assumption) ?_
    rotate_left
    · intro w' hSw
      go_simp
      try with_reducible rfl
    try simp only [Act.put, List.setIfInBounds_toArray, List.set_cons_zero, List.set_cons_succ]
    refine wpAnyH_take (i := 1) (oi := ⟨some 12, .nilCheck (.tmp 11), _, _, _, _⟩) (v := ?_) rfl (by kernel_rfl) (by kernel_rfl) (by kernel_rfl) (fun _ _ _ h => h) (Or.inl ⟨by rfl, ?_⟩) (by assumption) ?_
    rotate_left
    · intro w' hSw
      go_simp
      try with_reducible rfl
    try simp only [Act.put, List.setIfInBounds_toArray, List.set_cons_zero, List.set_cons_succ]
    refine wpAnyH_take (i := 2) (oi := ⟨some 13, .fieldAddr 58 (.tmp 12) 0, _, _, _, _⟩) (v := ?_) rfl (by kernel_rfl) (by kernel_rfl) (by kernel_rfl) (fun _ _ _ h => h) (Or.inl ⟨by rfl, ?_⟩) (by assumption) ?_
    rotate_left
    · intro w' hSw
      go_simp
      try with_reducible rfl
    try simp only [Act.put, List.setIfInBounds_toArray, List.set_cons_zero, List.set_cons_succ]
    refine wpAnyH_take (i := 3) (oi := ⟨some 14, .load 55 (.tmp 13), _, _, _, _⟩) (v := ?_) rfl (by kernel_rfl) (by kernel_rfl) (by kernel_rfl) (fun _ _ _ h => h) (Or.inl ⟨by rfl, ?_⟩) (by assumption) ?_
    rotate_left
    · intro w' hSw
      have c0 := (World.cell?_of_block (w := w3) (a := ⟨g, 0, none⟩) (by rw [hSw])).trans C03.out
      go_simp
      try with_reducible rfl
    try simp only [Act.put, List.setIfInBounds_toArray, List.set_cons_zero, List.set_cons_succ]
    refine wpAnyH_take (i := 4) (oi := ⟨some 15, .load 32 (.tmp 5), _, _, _, _⟩) (v := ?_) rfl (by kernel_rfl) (by kernel_rfl) (by kernel_rfl) (fun _ _ _ h => h) (Or.inl ⟨by rfl, ?_⟩) (by assumption) ?_
    rotate_left
    · intro w' hSw
      refine Eq.trans (b := Result.ok (Next.value (.agg (u8s D))) w') ?_ ?_
      · exact op_load_dig (by rfl) (by rfl) HDL.out (range_of_row' ((congrArg (fun h => h[r5]?) hSw).trans R5.out))
      · with_reducible rfl
    try simp only [Act.put, List.setIfInBounds_toArray, List.set_cons_zero, List.set_cons_succ]
    refine wpAnyH_take (i := 5) (oi := ⟨some 16, .lookup 55 (.tmp 14) (.tmp 15) true, _, _, _, _⟩) (v := ?_) rfl (by kernel_rfl) (by kernel_rfl) (by kernel_rfl) (fun _ _ _ h => h) (Or.inl ⟨by rfl, ?_⟩) (by assumption) ?_
    rotate_left
    · intro w' hSw
      refine Eq.trans (b := Result.ok (Next.value (.tuple #[.slice pp mm cc, .bool false])) w') ?_ ?_
      · exact op_look (by rfl) (by rfl) (by rfl) (HL.out w' hSw)
      · with_reducible rfl
    try simp only [Act.put, List.setIfInBounds_toArray, List.set_cons_zero, List.set_cons_succ]
    refine wpAnyH_take (i := 6) (oi := ⟨some 10, .move (.tmp 16), _, _, _, _⟩) (v := ?_) rfl (by kernel_rfl) (by kernel_rfl) (by kernel_rfl) (fun _ _ _ h => h) (Or.inl ⟨by rfl, ?_⟩) (by assumption) ?_
    rotate_left
    · intro w' hSw
      go_simp
      try with_reducible rfl
    try simp only [Act.put, List.setIfInBounds_toArray, List.set_cons_zero, List.set_cons_succ]
    refine wpAnyH_take (i := 7) (oi := ⟨some 17, .extract (.tmp 10) 0, _, _, _, _⟩) (v := ?_) rfl (by kernel_rfl) (by kernel_rfl) (by kernel_rfl) (fun _ _ _ h => h) (Or.inl ⟨by rfl, ?_⟩) (by assumption) ?_
    rotate_left
    · intro w' hSw
      go_simp
      try with_reducible rfl
    try simp only [Act.put, List.setIfInBounds_toArray, List.set_cons_zero, List.set_cons_succ]
    refine wpAnyH_take (i := 8) (oi := ⟨some 18, .extract (.tmp 10) 1, _, _, _, _⟩) (v := ?_) rfl (by kernel_rfl) (by kernel_rfl) (by kernel_rfl) (fun _ _ _ h => h) (Or.inl ⟨by rfl, ?_⟩) (by assumption) ?_
    rotate_left
    · intro w' hSw
      go_simp
      try with_reducible rfl
    try simp only [Act.put, List.setIfInBounds_toArray, List.set_cons_zero, List.set_cons_succ]
    refine wpAnyH_take (i := 9) (oi := ⟨some 6, .assign (.tmp 17), _, _, _, _⟩) (v := ?_) rfl (by kernel_rfl) (by kernel_rfl) (by kernel_rfl) (fun _ _ _ h => h) (Or.inl ⟨by rfl, ?_⟩) (by assumption) ?_
    rotate_left
    · intro w' hSw
      go_simp
      try with_reducible rfl
    try simp only [Act.put, List.setIfInBounds_toArray, List.set_cons_zero, List.set_cons_succ]
    refine wpAnyH_take (i := 10) (oi := ⟨some 7, .assign (.tmp 18), _, _, _, _⟩) (v := ?_) rfl (by kernel_rfl) (by kernel_rfl) (by kernel_rfl) (fun _ _ _ h => h) (Or.inl ⟨by rfl, ?_⟩) (by assumption) ?_
    rotate_left
    · intro w' hSw
      go_simp
      try with_reducible rfl
    try simp only [Act.put, List.setIfInBounds_toArray, List.set_cons_zero, List.set_cons_succ]
    refine wpAnyH_done (by kernel_rfl) ?_ _
    have HB5 := Lib.hid (HB3.out.drew)
    have R55 := Lib.hid (show w3.drew.heap[r5]? = _ from R5.out)
    have R35 := Lib.hid (show w3.drew.heap[r4]? = _ from R3.out)
    have T5 := Lib.hid (T3.out.later (Below.refl _ _).drew)
    have H5 := Lib.hid (H3.out.later (Below.refl _ _).drew)
    have HKE5 := Lib.hid (show ∀ s' : S, s' = s → PutPost Q w g s' (w3.drew.setRow r4 (u8s D)) from fun s' e => by
      rw [e]
      exact putPost_fin H5.out (Dk.Only.of_below _ (by rw [hr4]; exact HB5.out)) (fun e => by have := HQL.out _ e; omega) (fun k hk => Or.inl hk) (by omega) _)
    have HPUT := Lib.hid (show s.put b = ⟨s.W ++ [(D, b)], s.cl⟩ from by
      have h1 : ¬ idx (sumOf b) s.W < s.W.length := by rw [← HD.out]; exact HNI.out
      have h2 : textAt s.W (sumOf b) = none := textAt_none h1
      unfold S.put putW
      rw [if_neg h1, h2, ← HD.out]
      cases s.cl <;> rfl)
    clear hHeld HB3 R5 R3 T3 H3 HL HKE HKE5
    generalize w3.drew = w5 at *
    go_upto_region 4 with fail
    refine wp_region_held_drew (S := fun w' => w'.heap[r5]? = some (.cells (u8s D) 32 (0, 0))) (by kernel_rfl) R55.out (fun hHeld => ?_)
    refine wpAnyH_take (i := 0) (oi := ⟨some 22, .move (.tmp 0), _, _, _, _⟩) (v := ?_) rfl (by kernel_rfl) (by kernel_rfl) (by kernel_rfl) (fun _ _ _ h => h) (Or.inl ⟨by rfl, ?_⟩) (by assumption) ?_
    rotate_left
    · intro w' hSw
      go_simp
      try with_reducible rfl
    try simp only [Act.put, List.setIfInBounds_toArray, List.set_cons_zero, List.set_cons_succ]
    refine wpAnyH_take (i := 1) (oi := ⟨some 23, .load 32 (.tmp 5), _, _, _, _⟩) (v := ?_) rfl (by kernel_rfl) (by kernel_rfl) (by kernel_rfl) (fun _ _ _ h => h) (Or.inl ⟨by rfl, ?_⟩) (by assumption) ?_
    rotate_left
    · intro w' hSw
      refine Eq.trans (b := Result.ok (Next.value (.agg (u8s D))) w') ?_ ?_
      · exact op_load_dig (by rfl) (by rfl) HDL.out (range_of_row' hSw)
      · with_reducible rfl
    try simp only [Act.put, List.setIfInBounds_toArray, List.set_cons_zero, List.set_cons_succ]
    refine wpAnyH_take (i := 2) (oi := ⟨some 24, .move (.tmp 1), _, _, _, _⟩) (v := ?_) rfl (by kernel_rfl) (by kernel_rfl) (by kernel_rfl) (fun _ _ _ h => h) (Or.inl ⟨by rfl, ?_⟩) (by assumption) ?_
    rotate_left
    · intro w' hSw
      go_simp
      try with_reducible rfl
    try simp only [Act.put, List.setIfInBounds_toArray, List.set_cons_zero, List.set_cons_succ]
    refine wpAnyH_ready (rs := [3]) (by kernel_rfl) (by simp) ?_
    refine AllReadyH.cons (o := ⟨some 25, .call ⟨.value (.func 24), #[.tmp 24], #[27]⟩, _, _, _, _⟩) rfl (fun K hK => ?_) AllReadyH.nil
    go_simp
    refine (bclone_any (T5.out.later (Below.refl _ _).drew) hn).mono ?_
    rintro _ w25 ⟨q25, c25, rfl, o25, b25⟩
    have b25' := (Below.refl w5.heap.size w5).drew.trans b25
    have B25 := Lib.hid b25'
    have T25 := Lib.hid (tq_of_own (w := w5.drew) o25 HNB.out HTO.out (by rw [← HNB.out]; exact hn))
    have H25 := Lib.hid (H5.out.later b25')
    have R25 : w25.heap[r5]? = some (.cells (u8s D) 32 (0, 0)) := (b25'.block _ (Array.getElem?_eq_some_iff.1 R55.out).1).trans R55.out
    have HC := Lib.hid R25
    clear o25 b25 b25'
    try go_wp2_with fail
    refine hK.out _ _ R25 (fun hHeld => ?_)
    clear hK K
    try simp only [Act.put, List.setIfInBounds_toArray, List.set_cons_zero, List.set_cons_succ]
    refine wpAnyH_ready (rs := [4]) (by kernel_rfl) (by simp) ?_
    refine AllReadyH.cons (o := ⟨some 26, .call ⟨.value (.func 25), #[.tmp 22, .tmp 23, .tmp 25], #[24, 32, 27]⟩, _, _, _, _⟩) rfl (fun K hK => ?_) AllReadyH.nil
    go_simp
    refine (add_any H25.out HDL.out HDO.out HNI.out T25.out (fun k hk => hk.2) (by rw [← HPUT.out]; exact HOK.out) hsm).mono ?_
    rintro _ w26 ⟨rfl, p26⟩
    have R26 : w26.heap[r5]? = some (.cells (u8s D) 32 (0, 0)) := (p26.2.block _ (Array.getElem?_eq_some_iff.1 HC.out).1 (fun e => by have := HQL.out _ e; have := HR45.out; omega)).trans HC.out
    have P26 := Lib.hid p26
    clear p26
    try go_wp2_with fail
    refine hK.out _ _ R26 (fun hHeld => ?_)
    clear hK K
    try simp only [Act.put, List.setIfInBounds_toArray, List.set_cons_zero, List.set_cons_succ]
    refine wpAnyH_done (by kernel_rfl) ?_ _
    have RR5 := Lib.hid hHeld
    have RR4 := Lib.hid ((P26.out.2.block _ (Nat.lt_of_lt_of_le (Array.getElem?_eq_some_iff.1 R35.out).1 B25.out.size) (fun e => by have := HQL.out _ e; omega)).trans ((B25.out.block _ (Array.getElem?_eq_some_iff.1 R35.out).1).trans R35.out))
    have HFIN := Lib.hid (show PutPost Q w g (s.put b) (w26.setRow r4 (u8s D)) from by
      obtain ⟨⟨mp', h26⟩, ho⟩ := P26.out
      rw [HPUT.out]
      have hs5 : r4 < w5.heap.size := (Array.getElem?_eq_some_iff.1 R35.out).1
      have hbw : w.heap.size ≤ w5.heap.size := by omega
      have hsw : w5.drew.heap.size = w5.heap.size := rfl
      refine putPost_fin h26 ((Dk.Only.of_below _ (by rw [hr4]; exact HB5.out.trans (B25.out.mono (by omega)))).trans ho) (fun e => ?_) (fun k hk => ?_) (by omega) _
      · rcases e with e | ⟨e, _⟩ | ⟨e, _⟩
        · have := HQL.out _ e; omega
        · omega
        · have := B25.out.size; omega
      · rcases hk with e | ⟨e, _⟩ | ⟨e, _⟩
        · exact Or.inl e
        · right; omega
        · have := B25.out.size; right; omega)
    clear P26 B25 T25 H25 hHeld HC
    go_wp2_with (first | (refine wpList_load_row (by rfl) 32 (.tmp 5) (by rfl) r5 (by rfl) 32 (u8s D) (0, 0) _ RR5.out A25 rfl (by rw [u8s_size, HDL.out]; exact S25) ?_) | (refine wpList_store_row (by rfl) 32 _ _ (by rfl) r4 (u8s D) (by rfl) (by rfl) _ _ RR4.out (by rw [u8s_size, HDL.out]; exact S25) (by rw [u8s_size, u8s_size, HDL.out]; rfl) (u8s_one _) ?_))
    exact ret_row 4 (by kernel_rfl) r4 _ _ A25 S25 rfl (setRow_heap _ _ _ _ _ _ RR4.out) (by rw [u8s_size]; exact HDL.out) ⟨by rw [HD.out], HFIN.out⟩
end Go.Proofs.Ytlmbicelngpgoaa.Pg

/- Package page, as it landed: Keep. -/
namespace Go.Proofs.Ytlmbicelngpgoaa.Pg
open Go.RowKit Go.Maps

theorem USS : Try.prog.underlying 60 = some (.map 32 61) := by kernel_rfl
theorem zeroU (w : World) : (zeroValue 61).run Try.prog w = .ok (.agg #[]) w := by kernel_rfl
theorem run_makeMap_n (n : Nat) (w : World) : (Instr.makeMap 60 (some (.int .i64 n))).run Try.prog w = .ok (.map (some w.heap.size)) (w.alloc (.map #[] 0)) := by
  simp only [Instr.makeMap, Sem.run_bind, run_underlying USS, Result.andThen_ok]
  rfl
/-- The set of the first k sums. -/
def ES (K : List (List Nat)) (k : Nat) : DataW Value := setOf (.agg []) ((K.take k).map klit)
theorem ES_zero (K : List (List Nat)) : ES K 0 = .map [] := rfl
theorem ES_succ {K : List (List Nat)} {k : Nat} (h : k < K.length) : ES K (k + 1) = (ES K k).put (klit (K.getD k [])) (.agg []) := by
  unfold ES
  rw [take_succ_getD K k h, List.map_append, List.map_cons, List.map_nil, setOf_snoc]
theorem ES_has {K : List (List Nat)} (hK : ∀ d ∈ K, d.length = 32 ∧ Sm.allB d) {d : List Nat} (hd : d.length = 32) (ho : Sm.allB d) : Go.Maps.has (ES K K.length) (klit d) = decide (d ∈ K) := by
  unfold ES
  rw [List.take_length, has_setOf _ _ _ (fun x hx => by obtain ⟨y, _, rfl⟩ := List.mem_map.1 hx; exact klit_key y), Bool.eq_iff_iff, List.any_eq_true, decide_eq_true_iff]
  constructor
  · rintro ⟨x, hx, hs⟩
    obtain ⟨y, hy, rfl⟩ := List.mem_map.1 hx
    rw [sameKey_klit (hK y hy).1 (hK y hy).2 hd ho, decide_eq_true_iff] at hs
    rw [← hs]
    exact hy
  · intro h
    exact ⟨klit d, List.mem_map_of_mem h, WideAt.sameKey_self (klit_key d)⟩
/-- The pages that are kept or still to come. -/
def rest9 (L0 : List Pe) (K : List (List Nat)) (left : Lit → Bool) : List Pe := L0.filter fun x => decide (x.d ∈ K) || left (klit x.d)
theorem rest9_start {D : DataW Value} {L0 : List Pe} (hr : Reads D L0) (K : List (List Nat)) : rest9 L0 K (Go.Maps.has D) = L0 := by
  unfold rest9
  rw [List.filter_eq_self]
  intro x hx
  rw [has_true_of_atKey (hr.at' x hx), Bool.or_true]
theorem rest9_end {L0 : List Pe} {K : List (List Nat)} {left : Lit → Bool} (h : ∀ kl, left kl = false) : pagesOf (rest9 L0 K left) = keepW (pagesOf L0) K := by
  unfold rest9 keepW pagesOf
  rw [List.filter_map]
  congr 1
  apply List.filter_congr
  intro x _
  simp [h]
theorem rest9_in {L0 : List Pe} {K : List (List Nat)} {left : Lit → Bool} (hl : ∀ e ∈ L0, e.d.length = 32 ∧ Sm.allB e.d) {d : List Nat} (hd : d.length = 32) (ho : Sm.allB d) (hk : d ∈ K) : rest9 L0 K (fun z => left z && !z.sameKey (klit d)) = rest9 L0 K left := by
  unfold rest9
  apply List.filter_congr
  intro x hx
  dsimp only
  rw [sameKey_klit (hl x hx).1 (hl x hx).2 hd ho]
  by_cases h : x.d = d
  · rw [h, decide_eq_true hk, Bool.true_or, Bool.true_or]
  · simp [h]
theorem rest9_out {L0 : List Pe} {K : List (List Nat)} {left : Lit → Bool} (hl : ∀ e ∈ L0, e.d.length = 32 ∧ Sm.allB e.d) {d : List Nat} (hd : d.length = 32) (ho : Sm.allB d) (hk : d ∉ K) : rest9 L0 K (fun z => left z && !z.sameKey (klit d)) = but (rest9 L0 K left) d := by
  unfold rest9 but
  rw [List.filter_filter]
  apply List.filter_congr
  intro x hx
  dsimp only
  rw [sameKey_klit (hl x hx).1 (hl x hx).2 hd ho]
  by_cases h : x.d = d
  · subst h
    simp [hk]
  · simp [h]
theorem rest9_sub {L0 : List Pe} {K : List (List Nat)} {left : Lit → Bool} {e : Pe} (h : e ∈ rest9 L0 K left) : e ∈ L0 := (List.mem_filter.1 h).1
theorem wp_delete9 {w : World} {o : Oper} {a : Act} {Kk : Act → World → Prop} {Q : Exit → Act → World → Prop} (m x : Operand) (ho : o.op = .call { callee := .builtin .delete, args := #[m, x], argTypes := #[55, 32] }) {b r n : Nat} {D : DataW Value} {left : Lit → Bool} {cnt : Nat} (hm : a.eval m = .map (some b))
    (hr : w.ranges Try.prog 32 sliceR b r n D left cnt) {d : List Nat} (hx : a.eval x = .agg (u8s d)) (hd : d.length = 32) (hdo : Sm.allB d)
    (h : ∀ w' cnt', w'.ranges Try.prog 32 sliceR b r n (D.del (klit d)) (fun z => left z && !z.sameKey (klit d)) cnt' → cnt' ≤ cnt → w.mapTurned w' b → Kk (a.put o.dst (.tuple #[])) w') : o.wp Try.prog a w Kk Q := by
  obtain ⟨w', cnt', hrun, r1, r2, r3⟩ := hr.drop keyD UST (klit_of hd hdo) o.type
  unfold Oper.wp
  simp [execOp, ho, resolve, invoke, builtin, hm, hx, hrun, Result.andThen]
  exact h w' cnt' r1 r2 r3
/-- 'next': nothing is left, or a page's sum has come. -/
theorem wpList_next9 {w : World} {ops : Array Oper} {rest : List Oper} {o : Oper} {a : Act} {Q : Exit → Act → World → Prop} (hg : o.guard = none) (it : Operand) (hop : o.op = Op.next it false) {b r n : Nat} {D : DataW Value} {L : List Pe} {left : Lit → Bool} {cnt : Nat}
    (hit : a.eval it = .pointer (some ⟨r, 0, none⟩)) (h : w.ranges Try.prog 32 sliceR b r n D left cnt) (hr : Reads D L)
    (hDone : cnt = 0 → (∀ kl, left kl = false) → wpList Try.prog ops Q rest (a.put o.dst (.tuple #[.bool false])) w)
    (hMore : ∀ (e : Pe) (c : Value) (w' : World) (cnt' : Nat), e ∈ L → left (klit e.d) = true → w'.ranges Try.prog 32 sliceR b r n D (fun z => left z && !z.sameKey (klit e.d)) cnt' → cnt' < cnt → w.grownBy w' (some r) → w'.heap.size = w.heap.size →
      (Instr.entry (.pointer (some ⟨r, 0, none⟩))).run Try.prog w' = .ok (.tuple #[.agg (u8s e.d), c]) w' → wpList Try.prog ops Q rest (a.put o.dst (.tuple #[.bool true, .agg (u8s e.d), c])) w') :
    wpList Try.prog ops Q (o :: rest) a w :=
  wpList_next_ranges w hg it hop 32 keyD sliceR (fun v : Value => v) (fun v : Value => v) (fun key kl _ => ⟨key, rfl⟩) (fun v y _ => ⟨v, rfl⟩) b r n D left cnt hit h hDone (fun x c kl y w' cnt' hkey hlk _ hat hrg hlt hgr hsz hen => by
    obtain ⟨e, he, rfl, rfl⟩ := hr.next hkey hat
    exact hMore e c w' cnt' he hlk hrg hlt hgr hsz hen)
section
variable {Q : Nat → Prop} {w w' : World} {g b : Nat} {cl : Option Addr} {s : S} {L0 L : List Pe} {D : DataW Value} {n : Nat}
theorem SAt.kept (h : SAt Q w g (some b) cl s) (hM : MapAt Q w b L0) (hL : ∀ e ∈ L, e ∈ L0) (hr : Reads D L) (hown' : w'.ownsMap Try.prog 32 sliceR b n D) (ho : Dk.Only (fun j => j = b) w w') {s' : S} (hW : pagesOf L = s'.W) (hc : s'.cl = s.cl) (hok : s'.ok) : SAt Q w' g (some b) cl s' := by
  obtain ⟨D0, hown, -⟩ := hM.map
  obtain ⟨es, ck, hb, -⟩ := hown
  refine ⟨(ho.block g (h.lt g h.mine) (fun e => ?_)).trans h.row, Or.inr ⟨b, L, rfl, hW, ⟨hM.mine, ⟨_, map_tight hown' hr, hr⟩, fun x hx => (hM.text x (hL x hx)).turn ho (fun z hz hz' => text_not_map (hM.text x (hL x hx)).tx hz hz' hb)⟩⟩, by rw [hc]; exact h.clash.turn_map hb ho, h.mine, fun k hk => Nat.lt_of_lt_of_le (h.lt k hk) ho.size, hok⟩
  have := h.row
  rw [e, hb] at this
  cases this
end
theorem World.alloc_heap_old' (w : World) (o : Obj) {k : Nat} {x : Obj} (h : w.heap[k]? = some x) : (w.alloc o).heap[k]? = some x :=
  (heap_alloc_old w o (Array.getElem?_eq_some_iff.1 h).1).trans h
/-- What stands between two rounds of the first loop. -/
def KeepA (w : World) (bn n : Nat) (K : List (List Nat)) (v : Value) (wr : World) : Prop :=
  ∃ k : Nat, k ≤ n ∧ v = .int .i64 k ∧ wr.ownsMap Try.prog 32 unitElem bn k (ES K k) ∧ Below w.heap.size w wr ∧ w.heap.size < wr.heap.size
/-- .. and of the second one, which began in w1. -/
def KeepB (w1 : World) (bn b n : Nat) (K : List (List Nat)) (L0 : List Pe) (v : Value) (wr : World) : Prop :=
  ∃ (left : Lit → Bool) (cnt : Nat) (D : DataW Value) (j : Nat), v = .int .i64 j ∧ j + (rest9 L0 K left).length = L0.length ∧ wr.ranges Try.prog 32 sliceR b w1.heap.size L0.length D left cnt ∧ Reads D (rest9 L0 K left) ∧
    wr.ownsMap Try.prog 32 unitElem bn n (ES K n) ∧ Dk.Only (fun j => j = b) w1 wr ∧ w1.heap.size < wr.heap.size
theorem set_keep {w w' : World} {b n : Nat} {D : DataW Value} (h : w.ownsMap Try.prog 32 unitElem b n D) (hk : w'.heap[b]? = w.heap[b]?) : w'.ownsMap Try.prog 32 unitElem b n D := by
  obtain ⟨es, clock, hb, r⟩ := h
  exact ⟨es, clock, hk.trans hb, r⟩
set_option maxRecDepth 100000 in
set_option maxHeartbeats 2500000 in
theorem keep_any {w : World} {g : Nat} {Q : Nat → Prop} {s : S} (K : List (List Nat)) (p : Option Addr) (n c : Nat) (h : PL w g Q s) (hK : Digs w p n c K) (hn : n ≤ 100000) (hsm : s.W.length < 100000) :
    Calls Try.prog 13 #[.pointer (some ⟨g, 0, none⟩), .slice p n c] w fun e w' => e = .returned (.int .i64 (s.W.length - (s.keep K).W.length : Nat)) ∧ ∃ Q', PL w' g Q' (s.keep K) ∧ (∀ k, Q' k → Q k ∨ w.heap.size ≤ k) ∧ Dk.Only Q w w' := by
  obtain ⟨mp, cl, h⟩ := h
  have hmm := run_makeMap_n n w
  have hb0 := (Below.refl w.heap.size w).alloc (Nat.le_refl _) (.map #[] 0)
  have HE0 := Lib.hid (World.ownsMap_made w Try.prog 32 (unitElem (H := Value)))
  have HB0 := Lib.hid hb0
  have HZ0 := Lib.hid (show w.heap.size < (w.alloc (.map #[] 0)).heap.size from by simp)
  have H := Lib.hid h
  have HK := Lib.hid hK
  have HSN := Lib.hid hK.size
  have HSM := Lib.hid hsm
  have hz := (zero_of_info Z25).1
  clear h hK hb0 hsm
  go_enter Try.func13, Try.ntmps13
  go_wp2_with fail
  generalize w.alloc (.map #[] 0) = w0 at *
  generalize hbn : w.heap.size = bn at *
  clear hmm
  go_loopw [17] (fun v wr => KeepA w bn n K v wr) (fun v _ => n - (intOf v).toNat)
  case atStart => exact ⟨0, Nat.zero_le _, rfl, HE0.out, by rw [hbn]; exact HB0.out, by rw [hbn]; exact HZ0.out⟩
  case round =>
    obtain ⟨k, hk, rfl, he, hbw, hlw⟩ := hrel
    have HE := Lib.hid he
    have BW := Lib.hid hbw
    have LW := Lib.hid hlw
    clear he hbw hlw
    by_cases hlt : k < n
    · have l1 : (k : Int) < n := by omega
      have i1 : (0 : Int) ≤ k ∧ (k : Int) < n := by omega
      obtain ⟨kg, ko, rfl, hx⟩ := HK.out.at' (by intro e; have := HSN.out; rw [e] at this; simp at this; omega)
      obtain ⟨X, hX⟩ : ∃ X, X = K.getD k [] := ⟨_, rfl⟩
      have hxk := hx k (by have := HSN.out; omega)
      rw [← hX] at hxk
      have hXL := HK.out.len X (by
        have := HSN.out
        rw [hX, List.getD_eq_getElem?_getD, List.getElem?_eq_getElem (by omega)]
        exact List.getElem_mem _)
      have RX := Lib.hid (show wr.rangeAt kg (ko + k * 32) (vals X) from fun j u hu => (BW.out.cell (block_lt_of_cell (hxk j u hu))).trans (hxk j u hu))
      have HXL := Lib.hid hXL
      have HX := Lib.hid hX
      have RZ := Lib.hid (heap_alloc_new wr (.cells (u8s (zeros 32)) 32))
      have HSR := Lib.hid (setRow_alloc wr (u8s (zeros 32)) (u8s X) 32)
      have hba := (Below.refl wr.heap.size wr).alloc (Nat.le_refl _) (.cells (u8s X) 32)
      have R7 := Lib.hid (heap_alloc_new wr (.cells (u8s X) 32))
      have HE1 := Lib.hid (HE.out.alloc (.cells (u8s X) 32))
      have B1 := Lib.hid (BW.out.trans (hba.mono (Nat.le_of_lt LW.out)))
      have LW1 := Lib.hid (Nat.lt_of_lt_of_le LW.out hba.size)
      clear hx hxk hXL hX hba
      go_wp2_with (first
        | (refine wpList_load_mid (by rfl) 32 (.tmp 19) (by rfl) kg (ko + k * 32) (by rfl) (vals X) _ RX.out A25 (by rfl) (by rw [vals_length, HXL.out.1]; exact S25) ?_; rw [vals_toArray])
        | (refine wpList_store_row (by rfl) 32 _ _ (by rfl) wr.heap.size (u8s X) (by rfl) (by rfl) _ _ RZ.out (by rw [u8s_size, HXL.out.1]; exact S25) (by rw [u8s_size, u8s_size, HXL.out.1]; rfl) (u8s_one _) ?_; rw [HSR.out]; clear RZ HSR; generalize wr.alloc (.cells (u8s X) 32) = w1 at *)
        | (refine wpList_load_row (by rfl) 32 (.tmp 7) (by rfl) wr.heap.size (by rfl) 32 (u8s X) (0, 0) _ R7.out A25 rfl (by rw [u8s_size, HXL.out.1]; exact S25) ?_)
        | (at_mapUpdate; refine wpList_mapUpdate_own _ rfl _ _ _ 60 rfl 32 61 keyD USS (unitElem (H := Value)) bn k _ rfl HE1.out (by unfold maxLen; omega) _ _ _ rfl rfl (klit_of HXL.out.1 HXL.out.2) _ [] unitElem_mk ?_; intro w2 hown2 hgrow2; have HE2 := Lib.hid hown2; have G2 := Lib.hid hgrow2; clear hown2 hgrow2))
      have B2 := Lib.hid (B1.out.grown G2.out (by exact Nat.le_of_lt LW1.out) (fun j hj => by cases hj; omega))
      go_roundw
      case rel => exact ⟨k + 1, by omega, by go_num, by rw [ES_succ (by have := HSN.out; omega), ← HX.out]; exact HE2.out, B2.out, Nat.lt_of_lt_of_le LW1.out G2.out.size⟩
      case measure => simp [intOf]; omega
    · obtain rfl : k = n := by omega
      have l1 : ¬ (k : Int) < k := by omega
      have H1 := Lib.hid (H.out.later BW.out)
      have c0 := H1.out.c0
      cases mp with
      | none =>
        have hW0 : s.W = [] := by
          rcases H1.out.pages with ⟨_, h1⟩ | ⟨_, _, h1, _⟩
          · exact h1
          · cases h1
        have hkp : s.keep K = s := by
          cases s with
          | mk W c => simp only at hW0; subst hW0; rfl
        have HKP := Lib.hid hkp
        have hrg := run_range_nilMap (P := Try.prog) wr 55 32 27 UST
        have hnx : ∀ ty, (Instr.next (.pointer (some ⟨wr.heap.size, 0, none⟩)) false ty).run Try.prog (wr.alloc (.mapIter none 0 #[] 0)) = _ := fun ty => run_next_nilMap wr ty 0 0 #[]
        have hba := (Below.refl wr.heap.size wr).alloc (Nat.le_refl _) (.mapIter none 0 #[] 0)
        have HF := Lib.hid (show ∃ Q', PL (wr.alloc (.mapIter none 0 #[] 0)) g Q' (s.keep K) ∧ (∀ k, Q' k → Q k ∨ w.heap.size ≤ k) ∧ Dk.Only Q w (wr.alloc (.mapIter none 0 #[] 0)) from
          ⟨Q, by rw [hkp]; exact ⟨_, _, H1.out.later hba⟩, fun k hk => Or.inl hk, Dk.Only.of_below _ (BW.out.trans (hba.mono BW.out.size))⟩)
        have HS0 := Lib.hid (show s.W.length - (s.keep K).W.length = 0 from by rw [hkp]; omega)
        clear hW0 hkp hba
        go_wp2_with fail
        refine wp_loop_rounds 1 ?_
        rw [rounds_succ]
        go_wp2_with fail
        go_ret
        exact ⟨by rw [HS0.out]; rfl, HF.out⟩
      | some b =>
        obtain ⟨L0, hW, hM⟩ : ∃ L0, pagesOf L0 = s.W ∧ MapAt Q wr b L0 := by
          rcases H1.out.pages with ⟨h2, _⟩ | ⟨b', L, h2, h3, h4⟩
          · cases h2
          · cases h2; exact ⟨L, h3, h4⟩
        obtain ⟨D0, hown, hr⟩ := hM.map
        have hln : L0.length < 100000 := by have := HSM.out; rw [← hW, pagesOf_length] at this; exact this
        have HO := Lib.hid hown
        have HR := Lib.hid hr
        have HW := Lib.hid hW
        have HM := Lib.hid hM
        have HLL := Lib.hid hr.len
        have HSB := Lib.hid (show bn ≠ b from fun e => by
          have h1 := H.out.pages
          rcases h1 with ⟨h2, _⟩ | ⟨b', L, h2, _, h4⟩
          · cases h2
          · cases h2
            have := H.out.lt _ h4.mine
            omega)
        have HGG := Lib.hid (show g ≠ b from fun e => by
          have h1 := H1.out.row
          obtain ⟨es, ck, h2, -⟩ := hown
          rw [e, h2] at h1
          cases h1)
        clear hM hown hr hW
        go_wp2_with (first | (at_range; refine wpList_range_own _ rfl _ 55 rfl 32 27 keyD UST sliceR b L0.length D0 rfl HO.out ?_; intro w3 hrg3 hg3 hs3; have HRG3 := Lib.hid hrg3; have HG3 := Lib.hid hg3; have HS3 := Lib.hid hs3; clear hrg3 hg3 hs3))
        try go_frame
        generalize wr = wa at *
        generalize hrr : wa.heap.size = r at *
        go_loopw [8] (fun v wq => KeepB wa bn b k K L0 v wq) (fun _ wq => wq.rangeLeft b r)
        case atStart => exact ⟨_, _, D0, 0, rfl, by rw [rest9_start HR.out]; omega, by rw [hrr]; exact HRG3.out, by rw [rest9_start HR.out]; exact HR.out, set_keep HE.out (HG3.out.block bn (by rw [hrr]; have := LW.out; omega) (by simp)), ⟨HG3.out.os, HG3.out.tape, HG3.out.output, HG3.out.size, fun i hi _ => HG3.out.block i hi (by simp)⟩, by rw [hrr, HS3.out]; omega⟩
        case round =>
          obtain ⟨left, cnt, D, j, rfl, hj, hrg, hrd, hst, ho, hlw⟩ := hrel
          rw [hrr] at hrg hlw
          have HJ := Lib.hid hj
          have HRG := Lib.hid hrg
          have HRD := Lib.hid hrd
          have HST := Lib.hid hst
          have HON := Lib.hid ho
          have HLW := Lib.hid hlw
          have hjb : j < 100000 := by omega
          clear hj hrg hrd hst ho hlw
          go_wp2_with (first | (at_next; refine wpList_next9 rfl _ rfl rfl HRG.out HRD.out ?_ ?_))
          · intro hc0 hl0
            have HF := Lib.hid (show pagesOf (rest9 L0 K left) = (s.keep K).W from by rw [rest9_end hl0, HW.out]; rfl)
            have HS := Lib.hid (H1.out.kept HM.out (fun e he => rest9_sub he) HRD.out HRG.out.owns HON.out HF.out rfl (S.keep_ok H1.out.ok K))
            have HJ2 := Lib.hid (show j = s.W.length - (s.keep K).W.length from by
              rw [← HF.out, ← HW.out, pagesOf_length, pagesOf_length]
              have := HJ.out
              omega)
            clear hc0 hl0
            go_wp2_with fail
            go_ret
            exact ⟨by rw [← HJ2.out]; rfl, Q, ⟨_, _, HS.out⟩, (fun i hi => Or.inl hi), (Dk.Only.of_below _ BW.out).trans (HON.out.mono (fun i e => by rw [e]; exact HM.out.mine))⟩
          · intro e c2 w2 cnt2 he hlk hrg2 hlt2 hg2 hs2 hen
            have hel := HLL.out e (rest9_sub he)
            have HEL := Lib.hid hel
            have HEM := Lib.hid he
            have HRG2 := Lib.hid hrg2
            have HLT2 := Lib.hid hlt2
            have HHS := Lib.hid (show Go.Maps.has (ES K k) (klit e.d) = decide (e.d ∈ K) from by rw [HSN.out]; exact ES_has HK.out.len hel.1 hel.2)
            have hbw2 : Dk.Only (fun i => i = b) wa w2 := by
              have h1 : Dk.Only (fun i => i = b ∨ i = r) wa w2 := (HON.out.mono (fun i e => Or.inl e)).trans ⟨hg2.os, hg2.tape, hg2.output, hg2.size, fun i hi hn => hg2.block i hi (fun e => hn (Or.inr (Option.some.inj e)))⟩
              exact only_old h1 (fun i e => e.imp id (fun e => by rw [e, hrr]; exact Nat.le_refl _))
            have HST2 := Lib.hid (set_keep HST.out (hg2.block bn (by have := LW.out; have := HLW.out; omega) (fun e => by have := Option.some.inj e; have := LW.out; omega)))
            have RZ := Lib.hid (heap_alloc_new w2 (.cells (u8s (zeros 32)) 32))
            have HSR := Lib.hid (setRow_alloc w2 (u8s (zeros 32)) (u8s e.d) 32)
            have hba := (Below.refl w2.heap.size w2).alloc (Nat.le_refl _) (.cells (u8s e.d) 32)
            have R9 := Lib.hid (heap_alloc_new w2 (.cells (u8s e.d) 32))
            have ON3 := Lib.hid (hbw2.trans (Dk.Only.of_below _ hba))
            have RG3 := Lib.hid (hrg2.alloc (.cells (u8s e.d) 32))
            have ST3 := Lib.hid (HST2.out.alloc (.cells (u8s e.d) 32))
            have LW3 := Lib.hid (show r < (w2.alloc (.cells (u8s e.d) 32)).heap.size from by have := HLW.out; rw [World.size_alloc, hs2]; omega)
            clear hel he hrg2 hlt2 hbw2 hba hg2 hs2 hlk
            by_cases hin : e.d ∈ K
            · have HIN := Lib.hid hin
              rw [decide_eq_true hin] at HHS
              clear hin
              go_wp2_with (first
                | (refine wpList_store_row (by rfl) 32 _ _ (by rfl) w2.heap.size (u8s e.d) (by rfl) (by rfl) _ _ RZ.out (by rw [u8s_size, HEL.out.1]; exact S25) (by rw [u8s_size, u8s_size, HEL.out.1]; rfl) (u8s_one _) ?_; rw [HSR.out]; clear RZ HSR hen; generalize w2.alloc (.cells (u8s e.d) 32) = w4 at *)
                | (refine wpList_load_row (by rfl) 32 (.tmp 9) (by rfl) w2.heap.size (by rfl) 32 (u8s e.d) (0, 0) _ R9.out A25 rfl (by rw [u8s_size, HEL.out.1]; exact S25) ?_)
                | (at_lookup; refine wpList_lookup_own_unit _ rfl _ _ 60 rfl 32 61 keyD USS (zeroU _) bn k _ rfl ST3.out _ _ rfl (klit_of HEL.out.1 HEL.out.2) ?_; rw [HHS.out]))
              go_roundw
              case rel => exact ⟨_, cnt2, D, j, rfl, by rw [rest9_in HLL.out HEL.out.1 HEL.out.2 HIN.out]; exact HJ.out, by rw [hrr]; exact RG3.out.alloc _, by rw [rest9_in HLL.out HEL.out.1 HEL.out.2 HIN.out]; exact HRD.out, ST3.out.alloc _, ON3.out.trans (Dk.Only.of_below _ ((Below.refl _ _).alloc (Nat.le_refl _) _)), by rw [hrr, World.size_alloc]; have := LW3.out; omega⟩
              case measure => rw [(RG3.out.alloc _).left_eq, HRG.out.left_eq]; exact HLT2.out
            · have HIN := Lib.hid hin
              rw [decide_eq_false hin] at HHS
              clear hin
              go_upto_region 13 with (first
                | (refine wpList_store_row (by rfl) 32 _ _ (by rfl) w2.heap.size (u8s e.d) (by rfl) (by rfl) _ _ RZ.out (by rw [u8s_size, HEL.out.1]; exact S25) (by rw [u8s_size, u8s_size, HEL.out.1]; rfl) (u8s_one _) ?_; rw [HSR.out]; clear RZ HSR hen; generalize w2.alloc (.cells (u8s e.d) 32) = w4 at *)
                | (refine wpList_load_row (by rfl) 32 (.tmp 9) (by rfl) w2.heap.size (by rfl) 32 (u8s e.d) (0, 0) _ R9.out A25 rfl (by rw [u8s_size, HEL.out.1]; exact S25) ?_)
                | (at_lookup; refine wpList_lookup_own_unit _ rfl _ _ 60 rfl 32 61 keyD USS (zeroU _) bn k _ rfl ST3.out _ _ rfl (klit_of HEL.out.1 HEL.out.2) ?_; rw [HHS.out]))
              have R9' := Lib.hid ((World.alloc_heap_old' w4 (.cells #[] 61) R9.out))
              have RG4 := Lib.hid (RG3.out.alloc (.cells #[] 61))
              have ST4 := Lib.hid (ST3.out.alloc (.cells #[] 61))
              have ON4 := Lib.hid (ON3.out.trans (Dk.Only.of_below _ ((Below.refl w4.heap.size w4).alloc (Nat.le_refl _) (.cells #[] 61))))
              have LW4 := Lib.hid (show r < (w4.alloc (.cells #[] 61)).heap.size from by rw [World.size_alloc]; have := LW3.out; omega)
              clear R9 RG3 ST3 ON3 LW3
              generalize w4.alloc (.cells #[] 61) = w5 at *
              have C05 := Lib.hid ((World.cell?_of_block (w := wa) (a := ⟨g, 0, none⟩) (ON4.out.block g (H1.out.lt g H1.out.mine) HGG.out)).trans H1.out.c0)
              have q1 : IntKind.i64.wrap ((j : Int) + 1) = (j : Int) + 1 := IntWalk.i64_in _ (by omega)
              have HR9 := Lib.hid (show w2.heap.size ≠ b from fun e => by
                have := HRG.out.owns.lt
                have h2 := (RG4.out).owns
                obtain ⟨es, ck, h3, -⟩ := h2
                have h4 := R9'.out
                rw [e, h3] at h4
                cases h4)
              refine wp_region_held_drew (S := fun w' => w'.cell? ⟨g, 0, none⟩ = some (.map (some b)) ∧ w'.heap[w2.heap.size]? = some (.cells (u8s e.d) 32 (0, 0))) (by kernel_rfl) ⟨C05.out, R9'.out⟩ (fun hHeld => ?_)
              refine wpAnyH_take (i := 0) (oi := ⟨some 42, .move (.tmp 0), _, _, _, _⟩) (v := ?_) rfl (by kernel_rfl) (by kernel_rfl) (by kernel_rfl) (fun _ _ _ h => h) (Or.inl ⟨by rfl, ?_⟩) (by assumption) ?_
              rotate_left
              · intro w' hSw
                go_simp
                try with_reducible rfl
              try simp only [Act.put, List.setIfInBounds_toArray, List.set_cons_zero, List.set_cons_succ]
              refine wpAnyH_take (i := 1) (oi := ⟨some 43, .nilCheck (.tmp 42), _, _, _, _⟩) (v := ?_) rfl (by kernel_rfl) (by kernel_rfl) (by kernel_rfl) (fun _ _ _ h => h) (Or.inl ⟨by rfl, ?_⟩) (by assumption) ?_
              rotate_left
              · intro w' hSw
                go_simp
                try with_reducible rfl
              try simp only [Act.put, List.setIfInBounds_toArray, List.set_cons_zero, List.set_cons_succ]
              refine wpAnyH_take (i := 2) (oi := ⟨some 44, .fieldAddr 58 (.tmp 43) 0, _, _, _, _⟩) (v := ?_) rfl (by kernel_rfl) (by kernel_rfl) (by kernel_rfl) (fun _ _ _ h => h) (Or.inl ⟨by rfl, ?_⟩) (by assumption) ?_
              rotate_left
              · intro w' hSw
                go_simp
                try with_reducible rfl
              try simp only [Act.put, List.setIfInBounds_toArray, List.set_cons_zero, List.set_cons_succ]
              refine wpAnyH_take (i := 3) (oi := ⟨some 45, .load 55 (.tmp 44), _, _, _, _⟩) (v := ?_) rfl (by kernel_rfl) (by kernel_rfl) (by kernel_rfl) (fun _ _ _ h => h) (Or.inl ⟨by rfl, ?_⟩) (by assumption) ?_
              rotate_left
              · intro w' hSw
                have c0 := hSw.1
                go_simp
                try with_reducible rfl
              try simp only [Act.put, List.setIfInBounds_toArray, List.set_cons_zero, List.set_cons_succ]
              refine wpAnyH_take (i := 4) (oi := ⟨some 46, .load 32 (.tmp 9), _, _, _, _⟩) (v := ?_) rfl (by kernel_rfl) (by kernel_rfl) (by kernel_rfl) (fun _ _ _ h => h) (Or.inl ⟨by rfl, ?_⟩) (by assumption) ?_
              rotate_left
              · intro w' hSw
                refine Eq.trans (b := Result.ok (Next.value (.agg (u8s e.d))) w') ?_ ?_
                · exact op_load_dig (by rfl) (by rfl) HEL.out.1 (range_of_row' hSw.2)
                · with_reducible rfl
              try simp only [Act.put, List.setIfInBounds_toArray, List.set_cons_zero, List.set_cons_succ]
              refine wpAnyH_ready (rs := [5]) (by kernel_rfl) (by simp) ?_
              refine AllReadyH.cons (o := ⟨none, .call ⟨.builtin .delete, #[.tmp 45, .tmp 46], #[55, 32]⟩, _, _, _, _⟩) rfl (fun K hK => ?_) AllReadyH.nil
              refine wp_delete9 (.tmp 45) (.tmp 46) (by rfl) (by rfl) (show w5.drew.ranges Try.prog 32 sliceR b r L0.length D (fun z => left z && !z.sameKey (klit e.d)) cnt2 from RG4.out) (by rfl) HEL.out.1 HEL.out.2 (fun w6 cnt6 hrg6 hle6 hturn6 => ?_)
              have hot := only_turned hturn6
              have O6 := Lib.hid (show Dk.Only (fun i => i = b) w5 w6 from ⟨hot.os, hot.tape, hot.output, hot.size, hot.block⟩)
              rw [strike_twice] at hrg6
              have RG6 := Lib.hid hrg6
              have HLE6 := Lib.hid hle6
              have S6 : w6.cell? ⟨g, 0, none⟩ = some (.map (some b)) ∧ w6.heap[w2.heap.size]? = some (.cells (u8s e.d) 32 (0, 0)) :=
                ⟨(World.cell?_of_block (w := w5) (a := ⟨g, 0, none⟩) (O6.out.block g (Nat.lt_of_lt_of_le (H1.out.lt g H1.out.mine) ON4.out.size) HGG.out)).trans C05.out, (O6.out.block _ (Array.getElem?_eq_some_iff.1 R9'.out).1 HR9.out).trans R9'.out⟩
              clear hot hrg6 hle6 hturn6
              refine hK.out _ _ S6 (fun hHeld => ?_)
              clear hK K
              try simp only [Act.put]
              refine wpAnyH_done (by kernel_rfl) ?_ _
              have HBT := Lib.hid (but_length HRD.out.one HEM.out)
              go_wp2_with fail
              go_roundw
              case rel => exact ⟨(fun z => left z && !z.sameKey (klit e.d)), cnt6, D.del (klit e.d), j + 1, by go_num, by rw [rest9_out HLL.out HEL.out.1 HEL.out.2 HIN.out]; have := HBT.out; have := HJ.out; omega, by rw [hrr]; exact RG6.out, by rw [rest9_out HLL.out HEL.out.1 HEL.out.2 HIN.out]; exact HRD.out.del HEM.out, set_keep ST4.out (O6.out.block bn (by have := LW4.out; have := LW.out; omega) HSB.out), ON4.out.trans O6.out, Nat.lt_of_lt_of_le (by rw [hrr]; exact LW4.out) O6.out.size⟩
              case measure => rw [RG6.out.left_eq, HRG.out.left_eq]; exact Nat.lt_of_le_of_lt HLE6.out HLT2.out
end Go.Proofs.Ytlmbicelngpgoaa.Pg
