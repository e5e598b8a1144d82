/- The contract of sha.turnAll: eight words turned by block after block. -/
import Derived.Test.YtgdipdmpmaemjaaShaSched
import Derived.Test.YtgdipdmpmaemjaaShaKs
namespace Go.Proofs.Ytgdipdmpmaemjaa
open Go.RowKit

theorem Bytes.drop64 {w : World} {g o ln cp : Nat} {B : List Nat} (h : Bytes w (some ⟨g, o, none⟩) ln cp B) (hl : 64 ≤ ln) : Bytes w (some ⟨g, o + 64, none⟩) (ln - 64) (cp - 64) (B.drop 64) := by
  have := h.size
  have := h.le
  refine ⟨by simp; omega, by omega, Sm.allB_drop h.ok 64, Or.inr ⟨g, o + 64, rfl, ?_⟩⟩
  have hB : B ≠ [] := by rintro rfl; have := h.size; simp at this; omega
  obtain ⟨g', o', hp, hx⟩ := h.ne hB
  obtain ⟨rfl, rfl⟩ : g = g' ∧ o = o' := by simpa using hp
  exact hx.drop 64
structure TA (w wr : World) (v : Sm.V8) (gk : Nat) : Prop where
  below : Below w.heap.size w wr
  box : wr.heap[w.heap.size]? = some (.cells (u32s v.list) 32 (0, 0))
  res : ∃ C, wr.heap[w.heap.size + 1]? = some (.cells C 32 (0, 0)) ∧ C.size = 8
  ks : wr.heap[gk]? = some (.cells (u32s Sm.ks) 62 (0, 0))
  gk : w.heap.size + 1 < gk
theorem TA.later {w wr w' : World} {v : Sm.V8} {gk : Nat} (h : TA w wr v gk) (hb : Below wr.heap.size wr w') : TA w w' v gk := by
  obtain ⟨C, hC, h8⟩ := h.res
  have l0 := (Array.getElem?_eq_some_iff.1 h.box).1
  have l1 := (Array.getElem?_eq_some_iff.1 hC).1
  have l2 := (Array.getElem?_eq_some_iff.1 h.ks).1
  exact ⟨h.below.trans (hb.mono h.below.size), (hb.block _ l0).trans h.box, ⟨C, (hb.block _ l1).trans hC, h8⟩, (hb.block _ l2).trans h.ks, h.gk⟩
theorem TA.set {w wr : World} {v : Sm.V8} {gk : Nat} (h : TA w wr v gk) (u : Sm.V8) : TA w (wr.setRow w.heap.size (u32s u.list)) u gk := by
  obtain ⟨C, hC, h8⟩ := h.res
  have := h.gk
  exact ⟨Below.setRow h.below (Nat.le_refl _) _, setRow_heap _ _ _ _ _ _ h.box, ⟨C, (setRow_other _ _ _ _ (by omega)).trans hC, h8⟩, (setRow_other _ _ _ _ (by omega)).trans h.ks, h.gk⟩
theorem TA.start (w w1 : World) (v : Sm.V8) (C : Array Value) (h8 : C.size = 8) (hb : Below ((w.alloc (.cells (u32s v.list) 32)).alloc (.cells C 32)).heap.size ((w.alloc (.cells (u32s v.list) 32)).alloc (.cells C 32)) w1) :
    TA w (w1.alloc (.cells (u32s Sm.ks) 62)) v w1.heap.size := by
  have hs : ((w.alloc (.cells (u32s v.list) 32)).alloc (.cells C 32)).heap.size = w.heap.size + 2 := by simp
  have hl := hb.size
  rw [hs] at hl hb
  have h0 : Below w.heap.size w w1 := (((Below.refl w.heap.size w).alloc (Nat.le_refl _) _).alloc (by simp) _).trans (hb.mono (by omega))
  refine ⟨h0.alloc h0.size _, ?_, ⟨C, ?_, h8⟩, heap_alloc_new _ _, by omega⟩
  · rw [Below.heap_alloc _ _ _ (by omega), hb.block _ (by omega)]; exact heap_alloc2_old w _ _
  · rw [Below.heap_alloc _ _ _ (by omega), hb.block _ (by omega)]; exact heap_alloc2_new w _ _
theorem size8 (v : Sm.V8) : (u32s v.list).size = 8 := rfl
def AllRel (w : World) (_p : Option Addr) (B : List Nat) (v : Sm.V8) (gk : Nat) (s : Value) (wr : World) : Prop :=
  ∃ n q len cap, 64 * n ≤ B.length ∧ s = .slice q len cap ∧ TA w wr (Sm.blocks B v n) gk ∧ Bytes w q len cap (B.drop (64 * n))
set_option maxRecDepth 100000 in
set_option maxHeartbeats 1000000 in
theorem all_any (v : Sm.V8) (hv : v.ok) (B : List Nat) (p : Option Addr) (len cap : Nat) (w : World) (hB : Bytes w p len cap B) (hm : B.length % 64 = 0) :
    Calls Try.prog 24 #[.agg (u32s v.list), .slice p len cap] w fun e w' => e = .returned (.agg (u32s (Sm.blocks B v (B.length / 64)).list)) ∧ Below w.heap.size w w' := by
  obtain ⟨a, b, c, d, e, f, g, h⟩ := v
  have HV := Lib.hid hv
  have HB := Lib.hid hB
  have HM := Lib.hid hm
  clear hv hB hm
  have hz := (zero_of_info Z62).1
  show Calls Try.prog 24 #[.agg #[.int .u32 a, .int .u32 b, .int .u32 c, .int .u32 d, .int .u32 e, .int .u32 f, .int .u32 g, .int .u32 h], .slice p len cap] w _
  go_enter Try.func24, Try.ntmps24
  go_wp2_with fail
  refine (roundWords_any _).mono ?_
  rintro _ w1 ⟨rfl, hb1⟩
  have HB1 := Lib.hid hb1
  clear hb1
  go_wp2_with (refine wpList_store_row (by rfl) 62 _ _ (by rfl) w1.heap.size (u32s Sm.ks) (by rfl) (by rfl) _ _ (heap_alloc_new _ _) S62 (by simp [u32s, zeros]; rfl) ks_one ?_; rw [setRow_alloc])
  generalize hWB : w1.alloc (.cells (u32s Sm.ks) 62) = WB
  have hTA : TA w WB ⟨a, b, c, d, e, f, g, h⟩ w1.heap.size := by
    subst hWB
    exact TA.start w w1 _ _ rfl HB1.out
  have HT := Lib.hid hTA
  clear hTA hWB HB1
  go_simp
  generalize w1.heap.size = gk at *
  go_loopw [1] (fun s wr => AllRel w p B ⟨a, b, c, d, e, f, g, h⟩ gk s wr) (fun s _ => lenOf s)
  case atStart => exact ⟨0, p, len, cap, by omega, rfl, HT.out, by simpa using HB.out⟩
  case round =>
    obtain ⟨n, q, ln, cp, hn, rfl, hT, hb⟩ := hrel
    obtain ⟨V, hV⟩ : ∃ V, V = Sm.blocks B ⟨a, b, c, d, e, f, g, h⟩ n := ⟨_, rfl⟩
    rw [← hV] at hT
    have hok : V.ok := by rw [hV]; exact Sm.blocks_ok HV.out n
    obtain ⟨X, hX⟩ : ∃ X, X = B.drop (64 * n) := ⟨_, rfl⟩
    rw [← hX] at hb
    have hXl : X.length = B.length - 64 * n := by rw [hX]; simp
    have hm := HM.out
    have hsz := hb.size
    have hle := hb.le
    have HVV := Lib.hid hV
    have HX := Lib.hid hX
    have HO := Lib.hid hok
    have HT1 := Lib.hid hT
    have HB1 := Lib.hid hb
    have HS := Lib.hid hsz
    have HXL := Lib.hid hXl
    by_cases h0 : ln = 0
    · have hX0 : X = [] := List.length_eq_zero_iff.1 (by omega)
      have hdiv : B.length / 64 = n := by omega
      have HD := Lib.hid hdiv
      obtain ⟨C, hC, hC8⟩ := hT.res
      have HC := Lib.hid hC
      have HC8 := Lib.hid hC8
      clear hV hX hok hT hb hXl hm hsz hle hX0 hdiv hC hC8
      subst h0
      go_wp2_with (first | (refine wpList_load_row (by rfl) 32 _ (by rfl) w.heap.size (by rfl) 32 _ (0, 0) _ HT1.out.box A32 (by rfl) (by exact S32) ?_) | (refine wpList_store_row (by rfl) 32 _ _ (by rfl) (w.heap.size + 1) (u32s V.list) (by rfl) (by rfl) _ _ HC.out (by exact S32) (by exact HC8.out) (u32s_one _) ?_))
      refine ret_row 4 (by kernel_rfl) (w.heap.size + 1) _ _ A32 S32 rfl (setRow_heap _ _ _ _ _ _ HC.out) rfl ⟨?_, ?_⟩
      · rw [HD.out, ← HVV.out]
      · exact Below.setRow HT1.out.below (by omega) _
    · have h64 : 64 ≤ ln := by omega
      have hX1 : X ≠ [] := by
        intro e
        have := congrArg List.length e
        simp only [List.length_nil] at this
        omega
      have hbw : Bytes wr q ln cp X := hb.later hT.below hb.lt
      obtain ⟨gb, ob, rfl, hx⟩ := hbw.ne hX1
      have HXX := Lib.hid hx
      have hlt : gb < w.heap.size := hb.lt gb ob rfl hX1
      have hcp : 64 ≤ cp := by omega
      clear hV hX hok hT hb hXl hm hsz hx hX1 hbw
      have hz := (zero_of_info Z62).1
      rcases Nat.lt_or_eq_of_le hcp with hcc | hcc
      · go_wp2_with fail
        refine (sched_any X HB1.out.ok (by have := HS.out; omega) gb ob cp (by omega) wr HXX.out).mono ?_
        rintro _ w2 ⟨rfl, hb2⟩
        have hTw : TA w (w2.alloc (.cells (u32s (Sm.sched X)) 62)) V gk := (HT1.out.later hb2).later ((Below.refl _ _).alloc (Nat.le_refl _) _)
        have HT2 := Lib.hid hTw
        have HB2 := Lib.hid hb2
        clear hTw hb2
        go_wp2_with (first | (refine wpList_store_row (by rfl) 62 _ _ (by rfl) w2.heap.size (u32s (Sm.sched X)) (by rfl) (by rfl) _ _ (heap_alloc_new _ _) (by rw [sched_size]; exact S62) (by rw [sched_size]; simp [u32s, zeros]) (u32s_one _) ?_; rw [setRow_alloc]) | (refine wpList_load_row (by rfl) 32 _ (by rfl) w.heap.size (by rfl) 32 _ (0, 0) _ HT2.out.box A32 (by rfl) (by exact S32) ?_))
        refine (turn_any V HO.out (Sm.sched X) Sm.ks (Sm.sched_ok HB1.out.ok) Sm.ks_ok (Sm.length_sched X) rfl w2.heap.size gk _ (heap_alloc_new _ _) HT2.out.ks).mono ?_
        rintro _ w4 ⟨rfl, hb4⟩
        have hT4 := HT2.out.later hb4
        have HT4 := Lib.hid hT4
        clear hT4 hb4
        go_wp2_with (refine wpList_store_row (by rfl) 32 _ _ (by rfl) w.heap.size (u32s (Sm.turn Sm.ks (Sm.sched X) V).list) (by rfl) (by rfl) _ _ HT4.out.box (by rw [size8]; exact S32) (by rw [size8, size8]) (u32s_one _) ?_)
        go_roundw
        case rel =>
          refine ⟨n + 1, _, _, _, by have := HXL.out; have := HS.out; omega, rfl, ?_, ?_⟩
          · rw [Sm.blocks, ← HVV.out, ← HX.out]; exact HT4.out.set _
          · have e : B.drop (64 * (n + 1)) = X.drop 64 := by rw [HX.out, List.drop_drop]; congr 1
            rw [e]
            exact HB1.out.drop64 (by omega)
        case measure => simp [lenOf]; omega
      · subst hcc
        obtain rfl : ln = 64 := by omega
        go_wp2_with fail
        refine (sched_any X HB1.out.ok (by have := HS.out; omega) gb ob 64 (by omega) wr HXX.out).mono ?_
        rintro _ w2 ⟨rfl, hb2⟩
        have hTw : TA w (w2.alloc (.cells (u32s (Sm.sched X)) 62)) V gk := (HT1.out.later hb2).later ((Below.refl _ _).alloc (Nat.le_refl _) _)
        have HT2 := Lib.hid hTw
        have HB2 := Lib.hid hb2
        clear hTw hb2
        go_wp2_with (first | (refine wpList_store_row (by rfl) 62 _ _ (by rfl) w2.heap.size (u32s (Sm.sched X)) (by rfl) (by rfl) _ _ (heap_alloc_new _ _) (by rw [sched_size]; exact S62) (by rw [sched_size]; simp [u32s, zeros]) (u32s_one _) ?_; rw [setRow_alloc]) | (refine wpList_load_row (by rfl) 32 _ (by rfl) w.heap.size (by rfl) 32 _ (0, 0) _ HT2.out.box A32 (by rfl) (by exact S32) ?_))
        refine (turn_any V HO.out (Sm.sched X) Sm.ks (Sm.sched_ok HB1.out.ok) Sm.ks_ok (Sm.length_sched X) rfl w2.heap.size gk _ (heap_alloc_new _ _) HT2.out.ks).mono ?_
        rintro _ w4 ⟨rfl, hb4⟩
        have hT4 := HT2.out.later hb4
        have HT4 := Lib.hid hT4
        clear hT4 hb4
        go_wp2_with (refine wpList_store_row (by rfl) 32 _ _ (by rfl) w.heap.size (u32s (Sm.turn Sm.ks (Sm.sched X) V).list) (by rfl) (by rfl) _ _ HT4.out.box (by rw [size8]; exact S32) (by rw [size8, size8]) (u32s_one _) ?_)
        go_roundw
        case rel =>
          refine ⟨n + 1, _, _, _, by have := HXL.out; have := HS.out; omega, rfl, ?_, ?_⟩
          · rw [Sm.blocks, ← HVV.out, ← HX.out]; exact HT4.out.set _
          · have e : B.drop (64 * (n + 1)) = X.drop 64 := by rw [HX.out, List.drop_drop]; congr 1
            rw [e]
            have e2 : X.drop 64 = [] := List.drop_eq_nil_of_le (by have := HS.out; omega)
            rw [e2]
            exact ⟨rfl, by omega, fun x hx => by simp at hx, Or.inr ⟨gb, ob, rfl, fun i hi => by simp at hi⟩⟩
        case measure => simp [lenOf]
end Go.Proofs.Ytgdipdmpmaemjaa
