/- The contracts of State.Write (all cases), State.Done, State.Len and Sum. -/
import Derived.Test.YtgdipdmpmaemjaaShaWriteA
import Derived.Test.YtgdipdmpmaemjaaShaWriteC
import Derived.Test.YtgdipdmpmaemjaaShaWriteD
namespace Go.Proofs.Ytgdipdmpmaemjaa
open Go.RowKit

theorem write_any (T B : List Nat) (g : Nat) (p : Option Addr) (len cap : Nat) (w : World) (hs : StateAt w g T)
    (hB : Bytes w p len cap B) (hn : B ≠ [] → ∀ a, p = some a → a.block ≠ g) (hl : (T ++ B).length < 1152921504606846976) :
    Calls Try.prog 12 #[.pointer (some ⟨g, 0, none⟩), .slice p len cap] w fun e w' => e = .returned (.tuple #[]) ∧ StateAt w' g (T ++ B) ∧ w.grownBy w' (some g) := by
  obtain ⟨v, bl, hh, hg⟩ := hs
  by_cases h0 : T = []
  · exact write_a T B g p len cap w h0 v bl hh hg hB hn hl
  · by_cases h1 : T.length % 64 = 0
    · exact write_b T B g p len cap w h0 h1 v bl hh hg hB hn hl
    · by_cases h2 : T.length % 64 + len < 64
      · exact write_c T B g p len cap w _ rfl (by omega) h2 v bl hh hg hB hn hl
      · exact write_d T B g p len cap w _ (64 - T.length % 64) rfl (by omega) (by omega) (by omega) v bl hh hg hB hn hl

theorem U36' : (match Try.prog.underlying 36 with | some (.struct _) => true | _ => false) = true := by kernel_rfl
theorem U36 : ∃ fs, Try.prog.underlying 36 = some (.struct fs) := by
  have h := U36'
  split at h
  · rename_i fs hfs; exact ⟨fs, hfs⟩
  · cases h
def zero8 : Sm.V8 := ⟨0, 0, 0, 0, 0, 0, 0, 0⟩
theorem Z36 : (Try.prog.info? 36).map (fun i => (i.zero, i.size)) = some (some (.agg (stL zero8 (zeros 64) 0).toArray), 73) := by kernel_rfl
/-- The zero State has nothing written. -/
theorem held_zero : Held [] zero8 (zeros 64) :=
  ⟨fun x hx => by simp at hx, ⟨by decide, by decide, by decide, by decide, by decide, by decide, by decide, by decide⟩, by decide, fun h => absurd rfl h, by simp [zeros], zeros_ok 64, by simp⟩
theorem state_zero {w : World} {g : Nat} (h : w.heap[g]? = some (.cells (stL zero8 (zeros 64) 0).toArray 36 (0, 0))) : StateAt w g [] := ⟨_, _, held_zero, h⟩
theorem stL_one (v : Sm.V8) (bl : List Nat) (L : Nat) : ((stL v bl L).toArray).all (·.oneCell') = true :=
  all_oneCell_toArray fun u hu => by
    simp only [stL, List.mem_append, List.mem_singleton] at hu
    rcases hu with (hu | hu) | rfl
    · exact u32_of_w32 _ u hu
    · exact vals_one _ u hu
    · rfl
theorem stL_size (v : Sm.V8) (bl : List Nat) (L : Nat) (h : bl.length = 64) : ((stL v bl L).toArray).size = 73 := by simp [stL_length v bl L h]
theorem StateAt.later {w w' : World} {g : Nat} {T : List Nat} (h : StateAt w g T) (hb : Below w.heap.size w w') : StateAt w' g T := by
  obtain ⟨v, bl, hh, hg⟩ := h
  exact ⟨v, bl, hh, (hb.block _ (Array.getElem?_eq_some_iff.1 hg).1).trans hg⟩
theorem StateAt.lt {w : World} {g : Nat} {T : List Nat} (h : StateAt w g T) : g < w.heap.size := by
  obtain ⟨v, bl, hh, hg⟩ := h
  exact (Array.getElem?_eq_some_iff.1 hg).1
theorem sum_size (B : List Nat) : (u8s (Sm.sum B)).size = 32 := rfl
theorem bytes4_len (v : Sm.V8) : (u8s (Sm.bytesOf v)).size = 32 := rfl
set_option maxRecDepth 100000 in
set_option maxHeartbeats 1000000 in
theorem done_any (T : List Nat) (g : Nat) (w : World) (hs : StateAt w g T) (hl : T.length < 576460752303423488) :
    Calls Try.prog 13 #[.pointer (some ⟨g, 0, none⟩)] w fun e w' => e = .returned (.agg (u8s (Sm.sum T))) ∧ Below w.heap.size w w' := by
  have hlt := hs.lt
  obtain ⟨v, bl, hh, hg⟩ := hs
  obtain ⟨fs, hu⟩ := U36
  have hz := (zero_of_info Z25).1
  have hz6 := (zero_of_info Z36).1
  have hg1 : (w.alloc (.cells (u8s (zeros 32)) 25)).heap[g]? = _ := (Below.heap_alloc w _ _ hlt).trans hg
  have hg2 : ((w.alloc (.cells (u8s (zeros 32)) 25)).alloc (.cells (stL v bl T.length).toArray 36)).heap[g]? = _ := (Below.heap_alloc _ _ _ (by simp; omega)).trans hg1
  have hcl : ((w.alloc (.cells (u8s (zeros 32)) 25)).alloc (.cells (stL v bl T.length).toArray 36)).cell? ⟨g, 72, none⟩ = some (.int .u64 (T.length : Nat)) := st_len hg2 hh.size
  have hS2 : StateAt ((w.alloc (.cells (u8s (zeros 32)) 25)).alloc (.cells (stL v bl T.length).toArray 36)) (w.heap.size + 1) T := ⟨v, bl, hh, heap_alloc2_new _ _ _⟩
  have hB2 : Below w.heap.size w ((w.alloc (.cells (u8s (zeros 32)) 25)).alloc (.cells (stL v bl T.length).toArray 36)) := ((Below.refl _ _).alloc (Nat.le_refl _) _).alloc (by simp) _
  have hR2 : ((w.alloc (.cells (u8s (zeros 32)) 25)).alloc (.cells (stL v bl T.length).toArray 36)).heap[w.heap.size]? = some (.cells (u8s (zeros 32)) 25 (0, 0)) := heap_alloc2_old _ _ _
  have HG1 := Lib.hid hg1
  have HS2 := Lib.hid hS2
  have HB2 := Lib.hid hB2
  have HR2 := Lib.hid hR2
  have HU := Lib.hid hu
  have HSZ := Lib.hid hh.size
  clear hu hg1 hg2 hh hg hS2 hB2 hR2
  go_enter Try.func13, Try.ntmps13
  go_wp2_with (first | (refine wpList_load_row (by rfl) 36 _ (by rfl) g (by rfl) 36 _ (0, 0) _ HG1.out HU.out (by rfl) (by rw [stL_size _ _ _ HSZ.out]; exact A36) ?_) | (refine wpList_store_row (by rfl) 36 _ _ (by rfl) (w.heap.size + 1) _ (by rfl) (by rfl) _ _ (by exact heap_alloc2_new _ _ _) (by rw [stL_size _ _ _ HSZ.out]; exact A36) (by rw [stL_size _ _ _ HSZ.out, stL_size _ _ _ (by simp [zeros])]) (stL_one _ _ _) ?_; rw [setRow_alloc2]))
  refine (filling_any T.length (by omega) _).mono ?_
  rintro _ w3 ⟨len, cap, rfl, hbf, hb3⟩
  rw [show ((w.alloc (.cells (u8s (zeros 32)) 25)).alloc (.cells (stL v bl T.length).toArray 36)).heap.size = w.heap.size + 2 from by simp] at hbf ⊢
  have hfl : (T ++ Sm.fill T.length).length < 1152921504606846976 := by simp [Sm.fill, Sm.bigs]; omega
  have hS3 := HS2.out.later hb3
  have hB3 := HB2.out.trans (hb3.mono HB2.out.size)
  have hR3 := (hb3.block _ (Array.getElem?_eq_some_iff.1 HR2.out).1).trans HR2.out
  have HS3 := Lib.hid hS3
  have HB3 := Lib.hid hB3
  have HR3 := Lib.hid hR3
  have HBF := Lib.hid hbf
  clear hS3 hB3 hR3 hb3 hbf hcl
  go_wp2_with fail
  refine (write_any T (Sm.fill T.length) (w.heap.size + 1) (some ⟨w.heap.size + 2, 0, none⟩) len cap w3 HS3.out HBF.out (fun _ a ha => by cases ha; show w.heap.size + 2 ≠ w.heap.size + 1; omega) hfl).mono ?_
  rintro _ w4 ⟨rfl, ⟨v4, bl4, hh4, hg4⟩, hgr⟩
  have hne : T ++ Sm.fill T.length ≠ [] := by simp [Sm.fill]
  have hlt4 : w.heap.size < w4.heap.size := Nat.lt_of_lt_of_le (Array.getElem?_eq_some_iff.1 HR3.out).1 hgr.size
  have hR4 : w4.heap[w.heap.size]? = _ := (hgr.block _ (Array.getElem?_eq_some_iff.1 HR3.out).1 (by simp)).trans HR3.out
  have hB4 : Below w.heap.size w w4 := ⟨hgr.os.trans HB3.out.os, hgr.tape.trans HB3.out.tape, hgr.output.trans HB3.out.output, Nat.le_trans HB3.out.size hgr.size, fun k hk => (hgr.block k (Nat.lt_of_lt_of_le hk HB3.out.size) (by simp; omega)).trans (HB3.out.block k hk)⟩
  have HV4 := Lib.hid hh4.vok
  have HW4 := Lib.hid (hh4.words hne)
  have HG4 := Lib.hid hg4
  have HR4 := Lib.hid hR4
  have HB4 := Lib.hid hB4
  clear hh4 hg4 hR4 hB4 hgr hne
  go_wp2_with (refine wpList_load_mid (by rfl) 32 _ (by rfl) (w.heap.size + 1) 0 (by rfl) (w32 v4.list) _ (st_words HG4.out) A32 (by rfl) (by exact S32) ?_)
  refine (bytesOf_any v4 HV4.out w4).mono ?_
  rintro _ w5 ⟨rfl, hb5⟩
  have hR5 := (hb5.block _ hlt4).trans HR4.out
  have HR5 := Lib.hid hR5
  have HB5 := Lib.hid (HB4.out.trans (hb5.mono HB4.out.size))
  clear hR5 hb5
  go_wp2_with (refine wpList_store_row (by rfl) 25 _ _ (by rfl) w.heap.size (u8s (Sm.bytesOf v4)) (by rfl) (by rfl) _ _ HR5.out (by rw [bytes4_len]; exact S25) (by rw [bytes4_len]; simp [u8s, zeros]) (u8s_one _) ?_)
  refine ret_row 2 (by kernel_rfl) w.heap.size _ _ A25 S25 rfl (setRow_heap _ _ _ _ _ _ HR5.out) (bytes4_len v4) ⟨?_, Below.setRow HB5.out (Nat.le_refl _) _⟩
  rw [HW4.out]
  rfl
set_option maxRecDepth 100000 in
set_option maxHeartbeats 1000000 in
theorem sum_any (B : List Nat) (p : Option Addr) (len cap : Nat) (w : World) (hB : Bytes w p len cap B) (hl : B.length < 576460752303423488) :
    Calls Try.prog 9 #[.slice p len cap] w fun e w' => e = .returned (.agg (u8s (Sm.sum B))) ∧ Below w.heap.size w w' := by
  have hz := (zero_of_info Z25).1
  have hz6 := (zero_of_info Z36).1
  have hB2 : Below w.heap.size w ((w.alloc (.cells (u8s (zeros 32)) 25)).alloc (.cells (stL zero8 (zeros 64) 0).toArray 36)) := ((Below.refl _ _).alloc (Nat.le_refl _) _).alloc (by simp) _
  have hS2 : StateAt ((w.alloc (.cells (u8s (zeros 32)) 25)).alloc (.cells (stL zero8 (zeros 64) 0).toArray 36)) (w.heap.size + 1) [] := state_zero (heap_alloc2_new _ _ _)
  have hR2 : ((w.alloc (.cells (u8s (zeros 32)) 25)).alloc (.cells (stL zero8 (zeros 64) 0).toArray 36)).heap[w.heap.size]? = some (.cells (u8s (zeros 32)) 25 (0, 0)) := heap_alloc2_old _ _ _
  have hbb := hB.later hB2 hB.lt
  have hne : B ≠ [] → ∀ a, p = some a → a.block ≠ w.heap.size + 1 := fun hn a ha => by
    obtain ⟨g, o, hp, hx⟩ := hB.ne hn
    have := hB.lt g o hp hn
    rw [hp] at ha
    cases ha
    show g ≠ w.heap.size + 1
    omega
  have HB2 := Lib.hid hB2
  have HS2 := Lib.hid hS2
  have HR2 := Lib.hid hR2
  have HBB := Lib.hid hbb
  clear hB2 hS2 hR2 hbb hB
  go_enter Try.func9, Try.ntmps9
  go_wp2_with fail
  refine (write_any [] B (w.heap.size + 1) p len cap _ HS2.out HBB.out hne (by simp; omega)).mono ?_
  rintro _ w4 ⟨rfl, hs4, hgr⟩
  rw [List.nil_append] at hs4
  have hR4 : w4.heap[w.heap.size]? = _ := (hgr.block _ (Array.getElem?_eq_some_iff.1 HR2.out).1 (by simp)).trans HR2.out
  have hB4 : Below w.heap.size w w4 := ⟨hgr.os.trans HB2.out.os, hgr.tape.trans HB2.out.tape, hgr.output.trans HB2.out.output, Nat.le_trans HB2.out.size hgr.size, fun k hk => (hgr.block k (Nat.lt_of_lt_of_le hk HB2.out.size) (by simp; omega)).trans (HB2.out.block k hk)⟩
  have HS4 := Lib.hid hs4
  have HR4 := Lib.hid hR4
  have HB4 := Lib.hid hB4
  clear hs4 hR4 hB4 hgr hz hz6
  go_wp2_with fail
  refine (done_any B (w.heap.size + 1) w4 HS4.out hl).mono ?_
  rintro _ w5 ⟨rfl, hb5⟩
  have hR5 := (hb5.block _ (Array.getElem?_eq_some_iff.1 HR4.out).1).trans HR4.out
  have HR5 := Lib.hid hR5
  have HB5 := Lib.hid (HB4.out.trans (hb5.mono HB4.out.size))
  clear hR5 hb5
  go_wp2_with (refine wpList_store_row (by rfl) 25 _ _ (by rfl) w.heap.size (u8s (Sm.sum B)) (by rfl) (by rfl) _ _ HR5.out (by rw [sum_size]; exact S25) (by rw [sum_size]; simp [u8s, zeros]) (u8s_one _) ?_)
  exact ret_row 2 (by kernel_rfl) w.heap.size _ _ A25 S25 rfl (setRow_heap _ _ _ _ _ _ HR5.out) (sum_size B) ⟨rfl, Below.setRow HB5.out (Nat.le_refl _) _⟩
end Go.Proofs.Ytgdipdmpmaemjaa
