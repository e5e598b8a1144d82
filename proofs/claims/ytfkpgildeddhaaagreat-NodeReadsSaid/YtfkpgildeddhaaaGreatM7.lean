/- ShaAll, ShaBig, ShaFill, ShaRow, ShaMore, ShaWrite, ShaWriteA, ShaWriteC, ShaWriteD, ShaDone, ShaHash, PgHashS. -/
import Derived.Test.YtfkpgildeddhaaaGreatM6
import Derived.Deep.RegionHeld3
import Derived.Deep.RegionLaw
/- The contract of sha.turnAll: eight words turned by block after block. -/
namespace Go.Proofs.YtfkpgildeddhaaaGreat
open Go.RowKit

theorem Bytes.drop64 {w : World} {g o ln cp : Nat} {B : List Nat} (h : Bytes w (some ⟨g, o, none⟩) ln cp B) (hl : 64 ≤ ln) : Bytes w (some ⟨g, o + 64, none⟩) (ln - 64) (cp - 64) (B.drop 64) := by
  have := h.size
  have := h.le
  refine ⟨by simp; omega, by omega, Sm.allB_drop h.ok 64, Or.inr ⟨g, o + 64, rfl, ?_⟩⟩
  have hB : B ≠ [] := by rintro rfl; have := h.size; simp at this; omega
  obtain ⟨g', o', hp, hx⟩ := h.ne hB
  obtain ⟨rfl, rfl⟩ : g = g' ∧ o = o' := by simpa using hp
  exact hx.drop 64
structure TA (w wr : World) (v : Sm.V8) (gk : Nat) : Prop where
  below : Below w.heap.size w wr
  box : wr.heap[w.heap.size]? = some (.cells (u32s v.list) 124 (0, 0))
  res : ∃ C, wr.heap[w.heap.size + 1]? = some (.cells C 124 (0, 0)) ∧ C.size = 8
  ks : wr.heap[gk]? = some (.cells (u32s Sm.ks) 148 (0, 0))
  gk : w.heap.size + 1 < gk
theorem TA.later {w wr w' : World} {v : Sm.V8} {gk : Nat} (h : TA w wr v gk) (hb : Below wr.heap.size wr w') : TA w w' v gk := by
  obtain ⟨C, hC, h8⟩ := h.res
  have l0 := (Array.getElem?_eq_some_iff.1 h.box).1
  have l1 := (Array.getElem?_eq_some_iff.1 hC).1
  have l2 := (Array.getElem?_eq_some_iff.1 h.ks).1
  exact ⟨h.below.trans (hb.mono h.below.size), (hb.block _ l0).trans h.box, ⟨C, (hb.block _ l1).trans hC, h8⟩, (hb.block _ l2).trans h.ks, h.gk⟩
theorem TA.set {w wr : World} {v : Sm.V8} {gk : Nat} (h : TA w wr v gk) (u : Sm.V8) : TA w (wr.setRow w.heap.size (u32s u.list)) u gk := by
  obtain ⟨C, hC, h8⟩ := h.res
  have := h.gk
  exact ⟨Below.setRow h.below (Nat.le_refl _) _, setRow_heap _ _ _ _ _ _ h.box, ⟨C, (setRow_other _ _ _ _ (by omega)).trans hC, h8⟩, (setRow_other _ _ _ _ (by omega)).trans h.ks, h.gk⟩
theorem TA.start (w w1 : World) (v : Sm.V8) (C : Array Value) (h8 : C.size = 8) (hb : Below ((w.alloc (.cells (u32s v.list) 124)).alloc (.cells C 124)).heap.size ((w.alloc (.cells (u32s v.list) 124)).alloc (.cells C 124)) w1) :
    TA w (w1.alloc (.cells (u32s Sm.ks) 148)) v w1.heap.size := by
  have hs : ((w.alloc (.cells (u32s v.list) 124)).alloc (.cells C 124)).heap.size = w.heap.size + 2 := by simp
  have hl := hb.size
  rw [hs] at hl hb
  have h0 : Below w.heap.size w w1 := (((Below.refl w.heap.size w).alloc (Nat.le_refl _) _).alloc (by simp) _).trans (hb.mono (by omega))
  refine ⟨h0.alloc h0.size _, ?_, ⟨C, ?_, h8⟩, heap_alloc_new _ _, by omega⟩
  · rw [Below.heap_alloc _ _ _ (by omega), hb.block _ (by omega)]; exact heap_alloc2_old w _ _
  · rw [Below.heap_alloc _ _ _ (by omega), hb.block _ (by omega)]; exact heap_alloc2_new w _ _
theorem size8 (v : Sm.V8) : (u32s v.list).size = 8 := rfl
def AllRel (w : World) (_p : Option Addr) (B : List Nat) (v : Sm.V8) (gk : Nat) (s : Value) (wr : World) : Prop :=
  ∃ n q len cap, 64 * n ≤ B.length ∧ s = .slice q len cap ∧ TA w wr (Sm.blocks B v n) gk ∧ Bytes w q len cap (B.drop (64 * n))
set_option maxRecDepth 100000 in
set_option maxHeartbeats 1000000 in
theorem all_any (v : Sm.V8) (hv : v.ok) (B : List Nat) (p : Option Addr) (len cap : Nat) (w : World) (hB : Bytes w p len cap B) (hm : B.length % 64 = 0) :
    Calls Tryz.prog 104 #[.agg (u32s v.list), .slice p len cap] w fun e w' => e = .returned (.agg (u32s (Sm.blocks B v (B.length / 64)).list)) ∧ Below w.heap.size w w' := by
  obtain ⟨a, b, c, d, e, f, g, h⟩ := v
  have HV := Lib.hid hv
  have HB := Lib.hid hB
  have HM := Lib.hid hm
  clear hv hB hm
  have hz := (zero_of_info Z62).1
  show Calls Tryz.prog 104 #[.agg #[.int .u32 a, .int .u32 b, .int .u32 c, .int .u32 d, .int .u32 e, .int .u32 f, .int .u32 g, .int .u32 h], .slice p len cap] w _
  go_enter Tryz.func104, Tryz.ntmps104
  go_wp2_with fail
  refine (roundWords_any _).mono ?_
  rintro _ w1 ⟨rfl, hb1⟩
  have HB1 := Lib.hid hb1
  clear hb1
  go_wp2_with (refine wpList_store_row (by rfl) 148 _ _ (by rfl) w1.heap.size (u32s Sm.ks) (by rfl) (by rfl) _ _ (heap_alloc_new _ _) S62 (by simp [u32s, zeros]; rfl) ks_one ?_; rw [setRow_alloc])
  generalize hWB : w1.alloc (.cells (u32s Sm.ks) 148) = WB
  have hTA : TA w WB ⟨a, b, c, d, e, f, g, h⟩ w1.heap.size := by
    subst hWB
    exact TA.start w w1 _ _ rfl HB1.out
  have HT := Lib.hid hTA
  clear hTA hWB HB1
  go_simp
  generalize w1.heap.size = gk at *
  go_loopw [1] (fun s wr => AllRel w p B ⟨a, b, c, d, e, f, g, h⟩ gk s wr) (fun s _ => lenOf s)
  case atStart => exact ⟨0, p, len, cap, by omega, rfl, HT.out, by simpa using HB.out⟩
  case round =>
    obtain ⟨n, q, ln, cp, hn, rfl, hT, hb⟩ := hrel
    obtain ⟨V, hV⟩ : ∃ V, V = Sm.blocks B ⟨a, b, c, d, e, f, g, h⟩ n := ⟨_, rfl⟩
    rw [← hV] at hT
    have hok : V.ok := by rw [hV]; exact Sm.blocks_ok HV.out n
    obtain ⟨X, hX⟩ : ∃ X, X = B.drop (64 * n) := ⟨_, rfl⟩
    rw [← hX] at hb
    have hXl : X.length = B.length - 64 * n := by rw [hX]; simp
    have hm := HM.out
    have hsz := hb.size
    have hle := hb.le
    have HVV := Lib.hid hV
    have HX := Lib.hid hX
    have HO := Lib.hid hok
    have HT1 := Lib.hid hT
    have HB1 := Lib.hid hb
    have HS := Lib.hid hsz
    have HXL := Lib.hid hXl
    by_cases h0 : ln = 0
    · have hX0 : X = [] := List.length_eq_zero_iff.1 (by omega)
      have hdiv : B.length / 64 = n := by omega
      have HD := Lib.hid hdiv
      obtain ⟨C, hC, hC8⟩ := hT.res
      have HC := Lib.hid hC
      have HC8 := Lib.hid hC8
      clear hV hX hok hT hb hXl hm hsz hle hX0 hdiv hC hC8
      subst h0
      go_wp2_with (first | (refine wpList_load_row (by rfl) 124 _ (by rfl) w.heap.size (by rfl) 124 _ (0, 0) _ HT1.out.box A32 (by rfl) (by exact S32) ?_) | (refine wpList_store_row (by rfl) 124 _ _ (by rfl) (w.heap.size + 1) (u32s V.list) (by rfl) (by rfl) _ _ HC.out (by exact S32) (by exact HC8.out) (u32s_one _) ?_))
      refine ret_row 4 (by kernel_rfl) (w.heap.size + 1) _ _ A32 S32 rfl (setRow_heap _ _ _ _ _ _ HC.out) rfl ⟨?_, ?_⟩
      · rw [HD.out, ← HVV.out]
      · exact Below.setRow HT1.out.below (by omega) _
    · have h64 : 64 ≤ ln := by omega
      have hX1 : X ≠ [] := by
        intro e
        have := congrArg List.length e
        simp only [List.length_nil] at this
        omega
      have hbw : Bytes wr q ln cp X := hb.later hT.below hb.lt
      obtain ⟨gb, ob, rfl, hx⟩ := hbw.ne hX1
      have HXX := Lib.hid hx
      have hlt : gb < w.heap.size := hb.lt gb ob rfl hX1
      have hcp : 64 ≤ cp := by omega
      clear hV hX hok hT hb hXl hm hsz hx hX1 hbw
      have hz := (zero_of_info Z62).1
      rcases Nat.lt_or_eq_of_le hcp with hcc | hcc
      · go_wp2_with fail
        refine (sched_any X HB1.out.ok (by have := HS.out; omega) gb ob cp (by omega) wr HXX.out).mono ?_
        rintro _ w2 ⟨rfl, hb2⟩
        have hTw : TA w (w2.alloc (.cells (u32s (Sm.sched X)) 148)) V gk := (HT1.out.later hb2).later ((Below.refl _ _).alloc (Nat.le_refl _) _)
        have HT2 := Lib.hid hTw
        have HB2 := Lib.hid hb2
        clear hTw hb2
        go_wp2_with (first | (refine wpList_store_row (by rfl) 148 _ _ (by rfl) w2.heap.size (u32s (Sm.sched X)) (by rfl) (by rfl) _ _ (heap_alloc_new _ _) (by rw [sched_size]; exact S62) (by rw [sched_size]; simp [u32s, zeros]) (u32s_one _) ?_; rw [setRow_alloc]) | (refine wpList_load_row (by rfl) 124 _ (by rfl) w.heap.size (by rfl) 124 _ (0, 0) _ HT2.out.box A32 (by rfl) (by exact S32) ?_))
        refine (turn_any V HO.out (Sm.sched X) Sm.ks (Sm.sched_ok HB1.out.ok) Sm.ks_ok (Sm.length_sched X) rfl w2.heap.size gk _ (heap_alloc_new _ _) HT2.out.ks).mono ?_
        rintro _ w4 ⟨rfl, hb4⟩
        have hT4 := HT2.out.later hb4
        have HT4 := Lib.hid hT4
        clear hT4 hb4
        go_wp2_with (refine wpList_store_row (by rfl) 124 _ _ (by rfl) w.heap.size (u32s (Sm.turn Sm.ks (Sm.sched X) V).list) (by rfl) (by rfl) _ _ HT4.out.box (by rw [size8]; exact S32) (by rw [size8, size8]) (u32s_one _) ?_)
        go_roundw
        case rel =>
          refine ⟨n + 1, _, _, _, by have := HXL.out; have := HS.out; omega, rfl, ?_, ?_⟩
          · rw [Sm.blocks, ← HVV.out, ← HX.out]; exact HT4.out.set _
          · have e : B.drop (64 * (n + 1)) = X.drop 64 := by rw [HX.out, List.drop_drop]; congr 1
            rw [e]
            exact HB1.out.drop64 (by omega)
        case measure => simp [lenOf]; omega
      · subst hcc
        obtain rfl : ln = 64 := by omega
        go_wp2_with fail
        refine (sched_any X HB1.out.ok (by have := HS.out; omega) gb ob 64 (by omega) wr HXX.out).mono ?_
        rintro _ w2 ⟨rfl, hb2⟩
        have hTw : TA w (w2.alloc (.cells (u32s (Sm.sched X)) 148)) V gk := (HT1.out.later hb2).later ((Below.refl _ _).alloc (Nat.le_refl _) _)
        have HT2 := Lib.hid hTw
        have HB2 := Lib.hid hb2
        clear hTw hb2
        go_wp2_with (first | (refine wpList_store_row (by rfl) 148 _ _ (by rfl) w2.heap.size (u32s (Sm.sched X)) (by rfl) (by rfl) _ _ (heap_alloc_new _ _) (by rw [sched_size]; exact S62) (by rw [sched_size]; simp [u32s, zeros]) (u32s_one _) ?_; rw [setRow_alloc]) | (refine wpList_load_row (by rfl) 124 _ (by rfl) w.heap.size (by rfl) 124 _ (0, 0) _ HT2.out.box A32 (by rfl) (by exact S32) ?_))
        refine (turn_any V HO.out (Sm.sched X) Sm.ks (Sm.sched_ok HB1.out.ok) Sm.ks_ok (Sm.length_sched X) rfl w2.heap.size gk _ (heap_alloc_new _ _) HT2.out.ks).mono ?_
        rintro _ w4 ⟨rfl, hb4⟩
        have hT4 := HT2.out.later hb4
        have HT4 := Lib.hid hT4
        clear hT4 hb4
        go_wp2_with (refine wpList_store_row (by rfl) 124 _ _ (by rfl) w.heap.size (u32s (Sm.turn Sm.ks (Sm.sched X) V).list) (by rfl) (by rfl) _ _ HT4.out.box (by rw [size8]; exact S32) (by rw [size8, size8]) (u32s_one _) ?_)
        go_roundw
        case rel =>
          refine ⟨n + 1, _, _, _, by have := HXL.out; have := HS.out; omega, rfl, ?_, ?_⟩
          · rw [Sm.blocks, ← HVV.out, ← HX.out]; exact HT4.out.set _
          · have e : B.drop (64 * (n + 1)) = X.drop 64 := by rw [HX.out, List.drop_drop]; congr 1
            rw [e]
            have e2 : X.drop 64 = [] := List.drop_eq_nil_of_le (by have := HS.out; omega)
            rw [e2]
            exact ⟨rfl, by omega, fun x hx => by simp at hx, Or.inr ⟨gb, ob, rfl, fun i hi => by simp at hi⟩⟩
        case measure => simp [lenOf]
end Go.Proofs.YtfkpgildeddhaaaGreat

/- The contracts of sha.bigEnd and sha.bytesOf. -/
namespace Go.Proofs.YtfkpgildeddhaaaGreat
open Go.RowKit

theorem A59 : Tryz.prog.underlying 129 = some (.array 8 5) := by kernel_rfl
theorem Z59 : (Tryz.prog.info? 129).map (fun i => (i.zero, i.size)) = some (some (.agg (u8s (zeros 8))), 8) := by kernel_rfl
theorem S59 : (Tryz.prog.info? 129).map (·.size) = some 8 := by kernel_rfl
/-- Two arrays of bytes that a call made: the one that it tells, and the one that it fills. -/
structure BF (T : TypeId) (N : Nat) (w wr : World) (r g : Nat) (L : List Nat) : Prop where
  below : Below w.heap.size w wr
  res : ∃ C, wr.heap[r]? = some (.cells C T (0, 0)) ∧ C.size = N
  row : wr.heap[g]? = some (.cells (u8s L) T (0, 0))
  lr : w.heap.size ≤ r
  lg : w.heap.size ≤ g
  ne : r ≠ g
theorem BF.store {T : TypeId} {N : Nat} {w wr : World} {r g : Nat} {p q : List Nat} {y : Nat} (h : BF T N w wr r g (p ++ y :: q)) (k : Nat) (hk : p.length = k) (x : Nat) :
    BF T N w (wr.setCell ⟨g, k, none⟩ (.int .u8 (x : Nat))) r g (p ++ x :: q) := by
  obtain ⟨C, hC, hC6⟩ := h.res
  refine ⟨h.below.setCell h.lg _, ⟨C, ?_, hC6⟩, ?_, h.lr, h.lg, h.ne⟩
  · rw [heap_setCell_other _ _ _ _ h.ne]; exact hC
  · rw [heap_setCell_same _ _ _ _ _ _ h.row, u8s_set p q y x k hk]
def bigsTo (n : Nat) : Nat → List Nat
  | 0 => []
  | k + 1 => bigsTo n k ++ [Sm.big n k]
theorem bigsTo_length (n k : Nat) : (bigsTo n k).length = k := by
  induction k with
  | zero => rfl
  | succ k ih => simp [bigsTo, ih]
def BigRel (w : World) (r g n : Nat) (i : Value) (wr : World) : Prop :=
  ∃ k : Nat, k ≤ 8 ∧ i = .int .i64 k ∧ BF 129 8 w wr r g (bigsTo n k ++ zeros (8 - k))
set_option maxRecDepth 100000 in
set_option maxHeartbeats 1000000 in
theorem bigEnd_any (n : Nat) (_hn : n < 18446744073709551616) (w : World) :
    Calls Tryz.prog 88 #[.int .u64 n] w fun e w' => e = .returned (.agg (u8s (Sm.bigs n))) ∧ Below w.heap.size w w' := by
  have hz := (zero_of_info Z59).1
  go_enter Tryz.func88, Tryz.ntmps88
  go_wp2_with fail
  generalize hWB : (w.alloc (.cells (u8s (zeros 8)) 129)).alloc (.cells (u8s (zeros 8)) 129) = WB
  have FB : BF 129 8 w WB w.heap.size (w.heap.size + 1) (zeros 8) := by
    subst hWB
    exact ⟨((Below.refl _ _).alloc (Nat.le_refl _) _).alloc (by simp) _, ⟨_, heap_alloc2_old w _ _, by simp [u8s, zeros]⟩, heap_alloc2_new w _ _, by omega, by omega, by omega⟩
  have FF := Lib.hid FB
  clear FB hWB hz
  go_loopw [5] (fun i wr => BigRel w w.heap.size (w.heap.size + 1) n i wr) (fun i _ => 8 - (intOf i).toNat)
  case atStart => exact ⟨0, by omega, rfl, FF.out⟩
  case round =>
    obtain ⟨k, hk, rfl, hs⟩ := hrel
    have HS := Lib.hid hs
    clear hs FF
    by_cases hlt : k < 8
    · have hst : wr.cell? ⟨w.heap.size + 1, k, none⟩ = some (.int .u8 ((bigsTo n k ++ zeros (8 - k)).getD k 0 : Nat)) := u8s_cell HS.out.row k (by simp [bigsTo_length, zeros]; omega)
      have hfr : wr.frozen? ⟨w.heap.size + 1, k, none⟩ = false := frozen_of_row wr _ k _ _ HS.out.row
      have HI : (0 : Int) ≤ 8 * (7 - k) ∧ 8 * (7 - (k : Int)) ≤ 64 := by omega
      go_wp2_with fail
      go_roundw
      case rel =>
        show BigRel _ _ _ _ _ _
        rw [show (n : Int) / 2 ^ (8 * (7 - k)) % 256 = ((Sm.big n k : Nat) : Int) from by
          unfold Sm.big; rw [Int.natCast_emod, Int.natCast_ediv, Int.natCast_pow]; rfl]
        refine ⟨k + 1, by omega, by go_num, ?_⟩
        have e : bigsTo n (k + 1) ++ zeros (8 - (k + 1)) = bigsTo n k ++ Sm.big n k :: zeros (8 - (k + 1)) := by
          rw [bigsTo, List.append_assoc]; rfl
        rw [e]
        refine BF.store (y := 0) ?_ k (bigsTo_length n k) _
        rw [show 8 - (k + 1) = 8 - k - 1 from by omega, ← zeros_succ (by omega)]
        exact HS.out
      case measure => simp [intOf]; omega
    · obtain rfl : k = 8 := by omega
      obtain ⟨C, hC, hC8⟩ := HS.out.res
      have HC := Lib.hid hC
      have HC8 := Lib.hid hC8
      clear hC hC8
      have hrow : wr.heap[w.heap.size + 1]? = some (.cells (u8s (Sm.bigs n)) 129 (0, 0)) := HS.out.row
      have HR := Lib.hid hrow
      clear hrow
      go_wp2_with (first | (refine wpList_load_row (by rfl) 129 _ (by rfl) (w.heap.size + 1) (by rfl) 129 _ (0, 0) _ HR.out A59 (by rfl) (by exact S59) ?_) | (refine wpList_store_row (by rfl) 129 _ _ (by rfl) w.heap.size (u8s (Sm.bigs n)) (by rfl) (by rfl) _ _ HC.out (by exact S59) (by exact HC8.out) (u8s_one _) ?_))
      refine ret_row 2 (by kernel_rfl) w.heap.size _ _ A59 S59 rfl (setRow_heap _ _ _ _ _ _ HC.out) rfl ⟨rfl, ?_⟩
      exact Below.setRow HS.out.below (Nat.le_refl _) _
theorem U31 : Tryz.prog.underlying 123 = some (.int .u32) := by kernel_rfl
theorem S31 : (Tryz.prog.info? 123).map (·.size) = some 1 := by kernel_rfl
def bytesTo (l : List Nat) : Nat → List Nat
  | 0 => []
  | k + 1 => bytesTo l k ++ Sm.bytes4 (l.getD k 0)
theorem bytesTo_length (l : List Nat) (k : Nat) : (bytesTo l k).length = 4 * k := by
  induction k with
  | zero => rfl
  | succ k ih => simp [bytesTo, ih, Sm.bytes4]; omega
def BOfRel (w : World) (r g : Nat) (l : List Nat) (i : Value) (wr : World) : Prop :=
  ∃ k : Nat, k ≤ 8 ∧ i = .int .i64 k ∧ BF 37 32 w wr r g (bytesTo l k ++ zeros (32 - 4 * k))
set_option maxRecDepth 100000 in
set_option maxHeartbeats 1000000 in
theorem bytesOf_any (v : Sm.V8) (hv : v.ok) (w : World) :
    Calls Tryz.prog 106 #[.agg (u32s v.list)] w fun e w' => e = .returned (.agg (u8s (Sm.bytesOf v))) ∧ Below w.heap.size w w' := by
  have hz := (zero_of_info Z25).1
  have HV := Lib.hid hv
  clear hv
  go_enter Tryz.func106, Tryz.ntmps106
  go_wp2_with (refine wpList_load_row (by rfl) 124 _ (by rfl) w.heap.size (by rfl) 124 _ (0, 0) _ ((Below.heap_alloc _ _ _ (by simp; omega)).trans (heap_alloc2_old w _ _)) A32 (by rfl) (by exact S32) ?_)
  generalize hWB : ((w.alloc (.cells (u32s v.list) 124)).alloc (.cells (u8s (zeros 32)) 37)).alloc (.cells (u8s (zeros 32)) 37) = WB
  have FB : BF 37 32 w WB (w.heap.size + 1) (w.heap.size + 2) (zeros 32) := by
    subst hWB
    refine ⟨(((Below.refl _ _).alloc (Nat.le_refl _) _).alloc (by simp) _).alloc (by simp; omega) _, ⟨_, (Below.heap_alloc _ _ _ (by simp)).trans (heap_alloc2_new w _ _), by simp [u8s, zeros]⟩, ?_, by omega, by omega, by omega⟩
    have := heap_alloc_new ((w.alloc (.cells (u32s v.list) 124)).alloc (.cells (u8s (zeros 32)) 37)) (.cells (u8s (zeros 32)) 37)
    rw [show ((w.alloc (.cells (u32s v.list) 124)).alloc (.cells (u8s (zeros 32)) 37)).heap.size = w.heap.size + 2 from by simp] at this
    exact this
  have FF := Lib.hid FB
  clear FB hWB hz
  go_simp
  go_loopw [7] (fun i wr => BOfRel w (w.heap.size + 1) (w.heap.size + 2) v.list i wr) (fun i _ => 8 - (intOf i).toNat)
  case atStart => exact ⟨0, by omega, rfl, FF.out⟩
  case round =>
    obtain ⟨k, hk, rfl, hs⟩ := hrel
    have HS := Lib.hid hs
    clear hs FF
    by_cases hlt : k < 8
    · have hix := fun w' => run_index_array A32 U31 rfl S31 (u32s v.list) k hlt _ (u32s_get v.list k (by simpa [Sm.V8.list] using hlt)) w'
      obtain ⟨x, hx⟩ : ∃ x, x = v.list.getD k 0 := ⟨_, rfl⟩
      rw [← hx] at hix
      have HX := Lib.hid hx
      clear hx
      have cl : ∀ i, i < 32 → wr.cell? ⟨w.heap.size + 2, i, none⟩ = some (.int .u8 ((bytesTo v.list k ++ zeros (32 - 4 * k)).getD i 0 : Nat)) := fun i hi => u8s_cell HS.out.row i (by simp [bytesTo_length, zeros]; omega)
      have fr : ∀ i, wr.frozen? ⟨w.heap.size + 2, i, none⟩ = false := fun i => frozen_of_row wr _ i _ _ HS.out.row
      have c0 := cl (4 * k) (by omega)
      have c1 := cl (4 * k + 1) (by omega)
      have c2 := cl (4 * k + 2) (by omega)
      have c3 := cl (4 * k + 3) (by omega)
      have f0 := fr (4 * k)
      have f1 := fr (4 * k + 1)
      have f2 := fr (4 * k + 2)
      have f3 := fr (4 * k + 3)
      clear cl fr
      go_wp2_with fail
      go_roundw
      case rel =>
        show BOfRel _ _ _ _ _ _
        have e0 : (x : Int) / 16777216 % 256 = ((x / 16777216 % 256 : Nat) : Int) := by omega
        have e1 : (x : Int) / 65536 % 256 = ((x / 65536 % 256 : Nat) : Int) := by omega
        have e2 : (x : Int) / 256 % 256 = ((x / 256 % 256 : Nat) : Int) := by omega
        have e3 : (x : Int) % 256 = ((x % 256 : Nat) : Int) := by omega
        rw [e0, e1, e2, e3]
        refine ⟨k + 1, by omega, by go_num, ?_⟩
        have e : bytesTo v.list (k + 1) ++ zeros (32 - 4 * (k + 1)) = (((bytesTo v.list k ++ [x / 16777216 % 256]) ++ [x / 65536 % 256]) ++ [x / 256 % 256]) ++ x % 256 :: zeros (32 - 4 * (k + 1)) := by
          rw [bytesTo, ← HX.out]; simp [Sm.bytes4]
        have hl := bytesTo_length v.list k
        rw [e]
        refine BF.store (y := 0) ?_ (4 * k + 3) (by simp [hl]) _
        rw [List.append_assoc]
        refine BF.store (y := 0) ?_ (4 * k + 2) (by simp [hl]) _
        rw [List.append_assoc]
        refine BF.store (y := 0) ?_ (4 * k + 1) (by simp [hl]) _
        rw [List.append_assoc]
        refine BF.store (y := 0) ?_ (4 * k) hl _
        have hz4 : (0 :: ([0] ++ (0 :: ([0] ++ zeros (32 - 4 * (k + 1)))))) = zeros (32 - 4 * k) := by
          rw [show 32 - 4 * k = (32 - 4 * (k + 1)) + 4 from by omega]; rfl
        first
          | (rw [show ∀ A : List Nat, A ++ 0 :: ([0] ++ 0 :: ([0] ++ zeros (32 - 4 * (k + 1)))) = A ++ zeros (32 - 4 * k) from fun A => by rw [← hz4]]; exact HS.out)
          | (have := HS.out; rw [← hz4] at this; simpa using this)
      case measure => simp [intOf]; omega
    · obtain rfl : k = 8 := by omega
      obtain ⟨C, hC, hC8⟩ := HS.out.res
      have HC := Lib.hid hC
      have HC8 := Lib.hid hC8
      clear hC hC8
      have hrow : wr.heap[w.heap.size + 2]? = some (.cells (u8s (Sm.bytesOf v)) 37 (0, 0)) := HS.out.row
      have HR := Lib.hid hrow
      clear hrow
      go_wp2_with (first | (refine wpList_load_row (by rfl) 37 _ (by rfl) (w.heap.size + 2) (by rfl) 37 _ (0, 0) _ HR.out A25 (by rfl) (by exact S25) ?_) | (refine wpList_store_row (by rfl) 37 _ _ (by rfl) (w.heap.size + 1) (u8s (Sm.bytesOf v)) (by rfl) (by rfl) _ _ HC.out (by exact S25) (by exact HC8.out) (u8s_one _) ?_))
      refine ret_row 2 (by kernel_rfl) (w.heap.size + 1) _ _ A25 S25 rfl (setRow_heap _ _ _ _ _ _ HC.out) rfl ⟨rfl, ?_⟩
      exact Below.setRow HS.out.below (by omega) _
end Go.Proofs.YtfkpgildeddhaaaGreat

/- The contract of sha.filling. -/
namespace Go.Proofs.YtfkpgildeddhaaaGreat
open Go.RowKit

theorem make_bytes (Z : Nat) (h : Z < 64) (w : World) : (Instr.makeSlice 22 (.int .u64 (1 + (Z : Nat))) (.int .u64 (1 + (Z : Nat) + 8))).run Tryz.prog w = .ok (.slice (some ⟨w.heap.size, 0, none⟩) (1 + Z) (1 + Z + 8)) (w.alloc (.cells (u8s (zeros (1 + Z + 8))) 5)) := by
  obtain ⟨i5, hi, hi0, hi1, hi2⟩ := info_parts I5
  have := run_make (P := Tryz.prog) w 22 5 i5 _ A22 hi hi0 .u64 .u64 (1 + (Z : Nat)) (1 + (Z : Nat) + 8) (by omega) (by omega) (by rw [hi2]; omega) (by omega)
  rw [this, hi1, made_zeros]
  have e1 : (1 + (Z : Int)).toNat = 1 + Z := by omega
  have e2 : (1 + (Z : Int) + 8).toNat = 1 + Z + 8 := by omega
  rw [e1, e2, Nat.mul_one]
theorem fill_ok (n : Nat) : Sm.allB (Sm.fill n) := by
  intro x hx
  simp only [Sm.fill, Sm.bigs, List.mem_cons, List.mem_append, List.mem_replicate, List.not_mem_nil, or_false] at hx
  rcases hx with rfl | ⟨_, rfl⟩ | rfl | rfl | rfl | rfl | rfl | rfl | rfl | rfl <;> first | omega | exact Sm.big_lt _ _
set_option maxRecDepth 100000 in
set_option maxHeartbeats 1000000 in
theorem filling_any (L : Nat) (hL : L < 1152921504606846976) (w : World) :
    Calls Tryz.prog 105 #[.int .u64 L] w fun e w' => ∃ len cap, e = .returned (.slice (some ⟨w.heap.size, 0, none⟩) len cap) ∧ Bytes w' (some ⟨w.heap.size, 0, none⟩) len cap (Sm.fill L) ∧ Below w.heap.size w w' := by
  obtain ⟨Z, hZ⟩ : ∃ Z, Z = (119 - L % 64) % 64 := ⟨_, rfl⟩
  have hZl : Z < 64 := by omega
  have hz1 : (119 - (L : Int) % 64) % 64 = (Z : Int) := by omega
  have hz2 : (119 - (L : Int)) % 64 = (Z : Int) := by omega
  have HZ := Lib.hid hZ
  clear hZ
  obtain ⟨i5, hi, hi0, hi1, hi2⟩ := info_parts I5
  have hmk := make_bytes Z hZl
  have HI := Lib.hid hi
  have HI0 := Lib.hid hi0
  have HI1 := Lib.hid hi1
  have HI2 := Lib.hid hi2
  clear hi hi0 hi1 hi2
  have hb0 : Below w.heap.size w (w.alloc (.cells (u8s (zeros (1 + Z + 8))) 5)) := (Below.refl _ _).alloc (Nat.le_refl _) _
  have hst : (w.alloc (.cells (u8s (zeros (1 + Z + 8))) 5)).cell? ⟨w.heap.size, 0, none⟩ = some (.int .u8 ((zeros (1 + Z + 8)).getD 0 0 : Nat)) := u8s_cell (heap_alloc_new _ _) 0 (by simp [zeros])
  have hfr : (w.alloc (.cells (u8s (zeros (1 + Z + 8))) 5)).frozen? ⟨w.heap.size, 0, none⟩ = false := frozen_of_row _ _ _ _ _ (heap_alloc_new _ _)
  go_enter Tryz.func105, Tryz.ntmps105
  go_wp2_with fail
  rw [show (8 * (L : Int)) = ((8 * L : Nat) : Int) from by omega]
  have e0 : (u8s (zeros (1 + Z + 8))).setIfInBounds 0 (.int .u8 128) = u8s (128 :: zeros (Z + 8)) := by
    have := u8s_set [] (zeros (Z + 8)) 0 128 0 rfl
    rw [show 1 + Z + 8 = (Z + 8) + 1 from by omega]
    exact this
  rw [e0]
  clear e0 hst hfr hb0 hmk hz1 hz2
  refine (bigEnd_any (8 * L) (by omega) _).mono ?_
  rintro _ w3 ⟨rfl, hb3⟩
  have hrow : w3.heap[w.heap.size]? = some (.cells (u8s (128 :: zeros (Z + 8))) 5 (0, 0)) := (hb3.block _ (by simp)).trans (heap_alloc_new _ _)
  have hbw : Below w.heap.size w w3 := ((Below.refl _ _).alloc (Nat.le_refl _) _).trans (hb3.mono (by simp))
  have hs3 : w.heap.size < w3.heap.size := (Array.getElem?_eq_some_iff.1 hrow).1
  have hown : (w3.alloc (.cells (u8s (Sm.bigs (8 * L))) 129)).ownsRow w.heap.size 5 1 (.slice (some ⟨w.heap.size, 0, none⟩) (1 + Z) (1 + Z + 8)) (1 + Z) (vals ((128 :: zeros (Z + 8)).take (1 + Z))) :=
    owns_mk ((Below.heap_alloc _ _ _ hs3).trans hrow) (by simp [zeros]; omega) (by omega) (by unfold maxLen; omega) (Nat.le_refl _)
  have HOWN := Lib.hid hown
  have HBW := Lib.hid hbw
  have HN := Lib.hid (heap_alloc_new w3 (.cells (u8s (Sm.bigs (8 * L))) 129))
  clear hown hbw hb3 hrow
  have hz := (zero_of_info Z59).1
  go_wp2_with (first | (refine wpList_store_row (by rfl) 129 _ _ (by rfl) w3.heap.size (u8s (Sm.bigs (8 * L))) (by rfl) (by rfl) _ _ (heap_alloc_new _ _) (by exact S59) (by simp [u8s, zeros]; rfl) (u8s_one _) ?_; rw [setRow_alloc]) | (at_builtin; refine wpList_append_fits _ (by rfl) (.tmp 21) (.tmp 22) 22 (by rfl) w.heap.size 5 i5 1 A22 HI.out HI1.out w.heap.size (1 + Z) (1 + Z + 8) _ (by rfl) HOWN.out ⟨w3.heap.size, 0, none⟩ 8 8 (vals (Sm.bigs (8 * L))) (by rfl) (by rfl) (cells_of_row HN.out) (vals_one _) (by omega) ?_; intro w5 hown5 hgrow5))
  have e : vals ((128 :: zeros (Z + 8)).take (1 + Z)) ++ vals (Sm.bigs (8 * L)) = vals (Sm.fill L) := by
    rw [Sm.fill, ← HZ.out]
    have : (128 :: zeros (Z + 8)).take (1 + Z) = 128 :: zeros Z := by
      rw [show 1 + Z = Z + 1 from by omega, List.take_succ_cons]
      simp [zeros]
    rw [this]
    simp [vals, zeros]
  rw [e] at hown5
  go_ret
  exact ⟨_, _, rfl, Bytes.of_owns hown5 (fill_ok L), (HBW.out.alloc HBW.out.size _).grown hgrow5 (by have := HBW.out.size; simp; omega) (fun k hk => by simp at hk; omega)⟩
end Go.Proofs.YtfkpgildeddhaaaGreat

/- Rows of a struct's cells: parts of a row, a part put anew; and what a State holds. -/
namespace Go.Proofs.YtfkpgildeddhaaaGreat
open Go.RowKit

def w32 (l : List Nat) : List Value := l.map fun x => Value.int .u32 (x : Nat)
theorem w32_toArray (l : List Nat) : (w32 l).toArray = u32s l := rfl
/-- The cells of a State. -/
def stL (v : Sm.V8) (bl : List Nat) (L : Nat) : List Value := w32 v.list ++ vals bl ++ [.int .u64 (L : Nat)]
/-- A state to which the bytes T were written. -/
structure Held (T : List Nat) (v : Sm.V8) (bl : List Nat) : Prop where
  ok : Sm.allB T
  vok : v.ok
  lt : T.length < 1152921504606846976
  words : T ≠ [] → v = Sm.blocks T Sm.first (T.length / 64)
  size : bl.length = 64
  bok : Sm.allB bl
  block : bl.take (T.length % 64) = T.drop (64 * (T.length / 64))
def StateAt (w : World) (g : Nat) (T : List Nat) : Prop :=
  ∃ v bl, Held T v bl ∧ w.heap[g]? = some (.cells (stL v bl T.length).toArray 127 (0, 0))
end Go.Proofs.YtfkpgildeddhaaaGreat

/- More plain mathematics of SHA-256: blocks of a text that goes on. -/
namespace Go.Proofs.YtfkpgildeddhaaaGreat.Sm
theorem word_congr {X Y : List Nat} (h : ∀ i, i < 64 → X.getD i 0 = Y.getD i 0) (i : Nat) (hi : i < 16) : word X i = word Y i := by
  unfold word
  rw [h _ (by omega), h _ (by omega), h _ (by omega), h _ (by omega)]
theorem words_congr {X Y : List Nat} (h : ∀ i, i < 64 → X.getD i 0 = Y.getD i 0) (n : Nat) (hn : n ≤ 16) : words X n = words Y n := by
  induction n with
  | zero => rfl
  | succ n ih => rw [words, words, ih (by omega), word_congr h n (by omega)]
theorem sched_congr {X Y : List Nat} (h : ∀ i, i < 64 → X.getD i 0 = Y.getD i 0) : sched X = sched Y := by
  unfold sched
  rw [words_congr h 16 (by omega)]
/-- Only the bytes of the full blocks count. -/
theorem blocks_congr {X Y : List Nat} (v : V8) (n : Nat) (h : ∀ i, i < 64 * n → X.getD i 0 = Y.getD i 0) : blocks X v n = blocks Y v n := by
  induction n with
  | zero => rfl
  | succ n ih =>
    rw [blocks, blocks, ih (fun i hi => h i (by omega))]
    rw [sched_congr (X := X.drop (64 * n)) (Y := Y.drop (64 * n)) (fun i hi => by rw [getD_drop, getD_drop]; exact h _ (by omega))]
theorem blocks_take (B : List Nat) (v : V8) (n F : Nat) (h : 64 * n ≤ F) : blocks (B.take F) v n = blocks B v n :=
  blocks_congr v n fun i hi => getD_take B F i (by omega)
theorem blocks_app (T B : List Nat) (v : V8) (n : Nat) (h : 64 * n ≤ T.length) : blocks (T ++ B) v n = blocks T v n :=
  blocks_congr v n fun i hi => getD_app_left T B i (by omega)
theorem blocks_add (T B : List Nat) (v : V8) (q n : Nat) (h : T.length = 64 * q) : blocks (T ++ B) v (q + n) = blocks B (blocks T v q) n := by
  induction n with
  | zero => exact blocks_app T B v q (by omega)
  | succ n ih =>
    rw [show q + (n + 1) = (q + n) + 1 from rfl, blocks, ih, blocks]
    rw [show (T ++ B).drop (64 * (q + n)) = B.drop (64 * n) from by
      rw [show 64 * (q + n) = T.length + 64 * n from by omega, List.drop_append, List.drop_eq_nil_of_le (by omega)]
      simp]
end Go.Proofs.YtfkpgildeddhaaaGreat.Sm

/- The contract of State.Write. -/
namespace Go.Proofs.YtfkpgildeddhaaaGreat
open Go.RowKit

theorem A36 : (Tryz.prog.info? 127).map (·.size) = some 73 := by kernel_rfl
theorem u32_of_w32 (l : List Nat) : ∀ v ∈ w32 l, v.oneCell' = true := by
  intro u hu
  simp only [w32, List.mem_map] at hu
  obtain ⟨x, _, rfl⟩ := hu
  rfl
theorem stL_length (v : Sm.V8) (bl : List Nat) (L : Nat) (h : bl.length = 64) : (stL v bl L).length = 73 := by simp [stL, w32, vals, Sm.V8.list, h]
theorem st_words {w : World} {g : Nat} {v : Sm.V8} {bl : List Nat} {L : Nat} (hg : w.heap[g]? = some (.cells (stL v bl L).toArray 127 (0, 0))) : w.rangeAt g 0 (w32 v.list) :=
  rangeAt_row [] (w32 v.list) (vals bl ++ [.int .u64 (L : Nat)]) (by simpa [stL] using hg)
theorem st_there {w : World} {g : Nat} {v : Sm.V8} {bl : List Nat} {L : Nat} (hg : w.heap[g]? = some (.cells (stL v bl L).toArray 127 (0, 0))) (_h : bl.length = 64) : w.there g 0 8 :=
  there_row hg 0 8 (by simp [stL, w32, vals, Sm.V8.list])
theorem st_len {w : World} {g : Nat} {v : Sm.V8} {bl : List Nat} {L : Nat} (hg : w.heap[g]? = some (.cells (stL v bl L).toArray 127 (0, 0))) (h : bl.length = 64) : w.cell? ⟨g, 72, none⟩ = some (.int .u64 (L : Nat)) := by
  have := rangeAt_row (w32 v.list ++ vals bl) [.int .u64 (L : Nat)] [] (by simpa [stL] using hg) 0 _ rfl
  have e : (w32 v.list ++ vals bl).length = 72 := by simp [w32, vals, Sm.V8.list, h]
  rw [e] at this
  exact this
theorem st_set_len {w : World} {g : Nat} {v : Sm.V8} {bl : List Nat} {L : Nat} (hg : w.heap[g]? = some (.cells (stL v bl L).toArray 127 (0, 0))) (h : bl.length = 64) (L' : Nat) :
    (w.setCell ⟨g, 72, none⟩ (.int .u64 (L' : Nat))).heap[g]? = some (.cells (stL v bl L').toArray 127 (0, 0)) := by
  have e : (w32 v.list ++ vals bl).length = 72 := by simp [w32, vals, Sm.V8.list, h]
  have := heap_setCells_same g 127 [.int .u64 (L' : Nat)] (w32 v.list ++ vals bl) [.int .u64 (L : Nat)] [] w (by simpa [stL] using hg) rfl
  rw [e] at this
  simpa [World.setCells, stL] using this
theorem st_set_words {w : World} {g : Nat} {v : Sm.V8} {bl : List Nat} {L : Nat} (hg : w.heap[g]? = some (.cells (stL v bl L).toArray 127 (0, 0))) (u : Sm.V8) :
    (w.setCells g 0 (w32 u.list)).heap[g]? = some (.cells (stL u bl L).toArray 127 (0, 0)) := by
  have := heap_setCells_same g 127 (w32 u.list) [] (w32 v.list) (vals bl ++ [.int .u64 (L : Nat)]) w (by simpa [stL] using hg) rfl
  simpa [stL] using this
/-- A state in the middle of a Write: what lies in it, and the bytes that are still to come. -/
structure Mid (w W : World) (g : Nat) (v : Sm.V8) (bl : List Nat) (L : Nat) (p : Option Addr) (len cap : Nat) (B : List Nat) : Prop where
  row : W.heap[g]? = some (.cells (stL v bl L).toArray 127 (0, 0))
  size : bl.length = 64
  bytes : Bytes W p len cap B
  ne : B ≠ [] → ∀ a, p = some a → a.block ≠ g
  grown : w.grownBy W (some g)
theorem st_cell {w : World} {g : Nat} {v : Sm.V8} {bl : List Nat} {L : Nat} (hg : w.heap[g]? = some (.cells (stL v bl L).toArray 127 (0, 0))) (i : Nat) (hi : i < 8) : w.cell? ⟨g, i, none⟩ = some (.int .u32 (v.list.getD i 0 : Nat)) := by
  have := st_words hg i (.int .u32 (v.list.getD i 0 : Nat)) (by
    have h := u32s_get v.list i (by simpa [Sm.V8.list] using hi)
    rw [← w32_toArray] at h
    simpa using h)
  simpa using this
theorem Mid.later {w W W' : World} {g : Nat} {v : Sm.V8} {bl : List Nat} {L : Nat} {p : Option Addr} {len cap : Nat} {B : List Nat} (h : Mid w W g v bl L p len cap B) (hb : Below W.heap.size W W') : Mid w W' g v bl L p len cap B :=
  ⟨(hb.block _ (Array.getElem?_eq_some_iff.1 h.row).1).trans h.row, h.size, h.bytes.later hb h.bytes.lt, h.ne, grown_later h.grown hb⟩
theorem Mid.words {w W : World} {g : Nat} {v : Sm.V8} {bl : List Nat} {L : Nat} {p : Option Addr} {len cap : Nat} {B : List Nat} (h : Mid w W g v bl L p len cap B) (u : Sm.V8) : Mid w (W.setCells g 0 (w32 u.list)) g u bl L p len cap B :=
  ⟨st_set_words h.row u, h.size, h.bytes.grown ⟨(size_setCells g _ 0 W).2.1, (size_setCells g _ 0 W).2.2.1, (size_setCells g _ 0 W).2.2.2, by rw [(size_setCells g _ 0 W).1]; exact Nat.le_refl _, fun k _ hne => heap_setCells_other g _ 0 W k (by intro e; exact hne (by rw [e]))⟩ h.ne, h.ne, grown_setCells h.grown 0 _⟩
theorem st_store {W : World} {g : Nat} {v : Sm.V8} {bl : List Nat} {L : Nat} (hg : W.heap[g]? = some (.cells (stL v bl L).toArray 127 (0, 0))) (h : bl.length = 64) (u : Sm.V8) :
    (storeCells ⟨g, 0, none⟩ (u32s u.list).toList).run Tryz.prog W = .ok () (W.setCells g 0 (w32 u.list)) := by
  have ht := st_there hg h
  have := run_storeCells_cells (P := Tryz.prog) g 0 (w32 u.list) 0 W (fun j hj => by simpa using (ht j (by simpa [w32, Sm.V8.list] using hj)).1) (fun j hj => by simpa using (ht j (by simpa [w32, Sm.V8.list] using hj)).2) (u32_of_w32 u.list)
  exact this
/-- What is left of the bytes goes into the state's block. -/
theorem st_copy {w W : World} {g : Nat} {v : Sm.V8} {bl : List Nat} {L gb ob len cap : Nat} {B : List Nat} (h : Mid w W g v bl L (some ⟨gb, ob, none⟩) len cap B) (F : Nat) (hF : len - F ≤ 64) (_hc : F < cap) :
    (Builtin.copy_ #[22, 22] 3 #[.slice (some ⟨g, 8, none⟩) 64 64, .slice (some ⟨gb, ob + F, none⟩) (len - F) (cap - F)]).run Tryz.prog W.drew = .ok (goInt (len - F : Nat)) (W.drew.setCells g 8 (vals (B.drop F))) := by
  have hs := h.bytes.size
  have ht := there_row h.row 8 64 (by simp [stL, w32, vals, Sm.V8.list, h.size])
  have hl : (vals (B.drop F)).length = len - F := by simp [vals]; omega
  have hsrc : ∀ j u, (vals (B.drop F))[j]? = some u → W.drew.cell? ((⟨gb, ob + F, none⟩ : Addr).add j) = some u := fun j u hu => by
    have hj : j < (B.drop F).length := by have := (List.getElem?_eq_some_iff.1 hu).1; simpa [vals] using this
    obtain ⟨g', o', hp, hx⟩ := h.bytes.ne (by intro e; rw [e] at hj; simp at hj)
    obtain ⟨rfl, rfl⟩ : gb = g' ∧ ob = o' := by simpa using hp
    rw [vals_get _ _ hj] at hu
    rw [Addr.add_mid, World.cell?_drew, hx.drop F j hj, hu]
  have := run_copy_cells (P := Tryz.prog) W.drew 22 22 3 5 g 8 64 64 ⟨gb, ob + F, none⟩ (len - F) (cap - F) (vals (B.drop F)) A22 E5 (by rw [hl]; exact (Nat.min_eq_left hF).symm) hsrc
    (fun j hj => by have := (ht j (by omega)).1; simpa using this) (fun j hj => by have := (ht j (by omega)).2; simpa using this) (vals_one _)
  rw [hl] at this
  exact this
/-- What the words were ahead of the rest of the bytes: those behind the full blocks. -/
def Start (T : List Nat) (v : Sm.V8) : Prop := v.ok ∧ T.length % 64 = 0 ∧ v = Sm.blocks T Sm.first (T.length / 64)
theorem Held.next {T B bl : List Nat} {v U : Sm.V8} {len F : Nat} (hs : Start T v) (hT : Sm.allB T) (hB : Sm.allB B) (hl : (T ++ B).length < 1152921504606846976) (hlen : len = B.length) (hF : F = len - len % 64)
    (hU : U = Sm.blocks (B.take F) v ((B.take F).length / 64)) (hb : bl.length = 64) (hbo : Sm.allB bl) : Held (T ++ B) U (B.drop F ++ bl.drop (len - F)) := by
  obtain ⟨hv, hm, hw⟩ := hs
  have e1 : (B.take F).length / 64 = len / 64 := by simp; omega
  have hU2 : U = Sm.blocks B v (len / 64) := by rw [hU, e1]; exact Sm.blocks_take B v _ F (by omega)
  have hq : T.length = 64 * (T.length / 64) := by omega
  have hL : (T ++ B).length / 64 = T.length / 64 + len / 64 := by simp; omega
  refine ⟨?_, ?_, hl, fun _ => ?_, by simp [hb]; omega, ?_, ?_⟩
  · intro x hx
    rcases List.mem_append.1 hx with h | h
    · exact hT x h
    · exact hB x h
  · rw [hU]; exact Sm.blocks_ok hv _
  · rw [hL, Sm.blocks_add T B Sm.first _ _ hq, ← hw, hU2]
  · intro x hx
    rcases List.mem_append.1 hx with h | h
    · exact hB x (List.mem_of_mem_drop h)
    · exact hbo x (List.mem_of_mem_drop h)
  · have h1 : (T ++ B).length % 64 = (B.drop F).length := by simp; omega
    rw [h1, List.take_left, hL]
    rw [show 64 * (T.length / 64 + len / 64) = T.length + F from by omega, ← List.drop_drop, List.drop_left]
theorem st_set_block {W : World} {g : Nat} {v : Sm.V8} {bl : List Nat} {L : Nat} (hg : W.heap[g]? = some (.cells (stL v bl L).toArray 127 (0, 0))) (h : bl.length = 64) (o : Nat) (X : List Nat) (hX : o + X.length ≤ 64) :
    (W.setCells g (8 + o) (vals X)).heap[g]? = some (.cells (stL v (bl.take o ++ X ++ bl.drop (o + X.length)) L).toArray 127 (0, 0)) := by
  have e : bl = bl.take o ++ ((bl.drop o).take X.length ++ bl.drop (o + X.length)) := by
    rw [← List.drop_drop, List.take_append_drop, List.take_append_drop]
  have hg2 : W.heap[g]? = some (.cells ((w32 v.list ++ vals (bl.take o)) ++ vals ((bl.drop o).take X.length) ++ (vals (bl.drop (o + X.length)) ++ [Value.int .u64 (L : Nat)])).toArray 127 (0, 0)) := by
    rw [hg]
    congr 3
    conv => lhs; rw [stL, e]
    simp [vals]
  have hl : (w32 v.list ++ vals (bl.take o)).length = 8 + o := by simp [w32, vals, Sm.V8.list, h]; omega
  have := heap_setCells_same g 127 (vals X) _ _ _ W hg2 (by simp [vals, h]; omega)
  rw [hl] at this
  rw [this]
  simp [stL, vals]
theorem A33 : Tryz.prog.underlying 125 = some (.array 64 5) := by kernel_rfl
theorem block_slice (g r : Nat) (h : r < 64) (w : World) : (Instr.sliceAt 125 (.pointer (some ⟨g, 8, none⟩)) (some (.int .i64 (r : Int))) none none).run Tryz.prog w = .ok (.slice (some ⟨g, 8 + r, none⟩) (64 - r) (64 - r)) w := by
  have hl : Tryz.prog.arrayLen 125 = 64 := by simp [Program.arrayLen]
  have he : Tryz.prog.elem 125 = 5 := by simp [Program.elem]
  have h1 := run_sliceAt_array_l (P := Tryz.prog) w 125 ⟨g, 8, none⟩ (by rw [hl, he]; exact A33) .i64 r (by omega) (by rw [hl]; omega)
  obtain ⟨i5, hi, _, hi1, _⟩ := info_parts I5
  have hs : (sizeOf 5).run Tryz.prog w = .ok 1 w := by simp [sizeOf, typeInfo, hi, hi1]
  rw [h1, hl, he, hs]
  have hne : ¬ (64 = r) := by omega
  simp [slicedAt, hne, Addr.add_mid]
theorem st_copy_in {W : World} {g : Nat} {v : Sm.V8} {bl : List Nat} {L gb ob len cap : Nat} {B : List Nat} (hg : W.heap[g]? = some (.cells (stL v bl L).toArray 127 (0, 0))) (hb : bl.length = 64)
    (h : Bytes W (some ⟨gb, ob, none⟩) len cap B) (r n : Nat) (hr : r < 64) (hn : n = Nat.min len (64 - r)) :
    (Builtin.copy_ #[22, 22] 3 #[.slice (some ⟨g, 8 + r, none⟩) (64 - r) (64 - r), .slice (some ⟨gb, ob, none⟩) len cap]).run Tryz.prog W = .ok (goInt (n : Nat)) (W.setCells g (8 + r) (vals (B.take n))) := by
  have hs := h.size
  have hn1 : n ≤ len := by rw [hn]; exact Nat.min_le_left _ _
  have hn2 : n ≤ 64 - r := by rw [hn]; exact Nat.min_le_right _ _
  have ht := there_row hg 8 64 (by simp [stL, w32, vals, Sm.V8.list, hb])
  have hl : (vals (B.take n)).length = n := by simp [vals]; omega
  have hsrc : ∀ j u, (vals (B.take n))[j]? = some u → W.cell? ((⟨gb, ob, none⟩ : Addr).add j) = some u := fun j u hu => by
    have hj : j < (B.take n).length := by have := (List.getElem?_eq_some_iff.1 hu).1; simpa [vals] using this
    obtain ⟨g', o', hp, hx⟩ := h.ne (by intro e; rw [e] at hj; simp at hj)
    obtain ⟨rfl, rfl⟩ : gb = g' ∧ ob = o' := by simpa using hp
    rw [vals_get _ _ hj] at hu
    rw [Addr.add_mid, hx.take n j hj, hu]
  have := run_copy_cells (P := Tryz.prog) W 22 22 3 5 g (8 + r) (64 - r) (64 - r) ⟨gb, ob, none⟩ len cap (vals (B.take n)) A22 E5 (by rw [hl]; exact hn) hsrc
    (fun j hj => by have := (ht (r + j) (by omega)).1; rw [Nat.add_assoc]; exact this) (fun j hj => by have := (ht (r + j) (by omega)).2; rw [Nat.add_assoc]; exact this) (vals_one _)
  rw [hl] at this
  exact this
theorem Held.small {T B bl : List Nat} {v : Sm.V8} {r : Nat} (h : Held T v bl) (hr : T.length % 64 = r) (hr0 : 0 < r) (hs : r + B.length < 64) (hB : Sm.allB B) (hl : (T ++ B).length < 1152921504606846976) :
    Held (T ++ B) v (bl.take r ++ B ++ bl.drop (r + B.length)) := by
  have hb := h.size
  have hT : T ≠ [] := by rintro rfl; simp at hr; omega
  have hL : (T ++ B).length / 64 = T.length / 64 := by simp; omega
  refine ⟨?_, h.vok, hl, fun _ => ?_, by simp [hb]; omega, ?_, ?_⟩
  · intro x hx
    rcases List.mem_append.1 hx with hx | hx
    · exact h.ok x hx
    · exact hB x hx
  · rw [hL, Sm.blocks_app T B _ _ (by omega)]; exact h.words hT
  · intro x hx
    rcases List.mem_append.1 hx with hx | hx
    · rcases List.mem_append.1 hx with hx | hx
      · exact h.bok x (List.mem_of_mem_take hx)
      · exact hB x hx
    · exact h.bok x (List.mem_of_mem_drop hx)
  · have h1 : (T ++ B).length % 64 = (bl.take r ++ B).length := by simp [hb]; omega
    rw [h1, List.take_left, hL, List.drop_append_of_le_length (by omega), ← h.block, hr]
theorem Start.block {T B bl : List Nat} {v : Sm.V8} {r m : Nat} (h : Held T v bl) (hr : T.length % 64 = r) (hr0 : 0 < r) (hm : r + m = 64) (hmB : m ≤ B.length) :
    Start (T ++ B.take m) (Sm.blocks (bl.take r ++ B.take m) v 1) := by
  have hT : T ≠ [] := by rintro rfl; simp at hr; omega
  have hlen : (T ++ B.take m).length = 64 * (T.length / 64 + 1) := by simp; omega
  refine ⟨Sm.blocks_ok h.vok _, by omega, ?_⟩
  have hq : (T ++ B.take m).length / 64 = T.length / 64 + 1 := by omega
  have e1 : Sm.blocks (T ++ B.take m) Sm.first (T.length / 64 + 1) = Sm.turn Sm.ks (Sm.sched ((T ++ B.take m).drop (64 * (T.length / 64)))) (Sm.blocks (T ++ B.take m) Sm.first (T.length / 64)) := rfl
  have e2 : Sm.blocks (bl.take r ++ B.take m) v 1 = Sm.turn Sm.ks (Sm.sched (bl.take r ++ B.take m)) v := rfl
  rw [hq, e1, e2, Sm.blocks_app T _ _ _ (by omega), ← h.words hT, List.drop_append_of_le_length (by omega), ← h.block, hr]
theorem Bytes.block {W : World} {g : Nat} {v : Sm.V8} {bl : List Nat} {L : Nat} (hg : W.heap[g]? = some (.cells (stL v bl L).toArray 127 (0, 0))) (hb : bl.length = 64) (hbo : Sm.allB bl) : Bytes W (some ⟨g, 8, none⟩) 64 64 bl := by
  refine ⟨hb.symm, Nat.le_refl _, hbo, Or.inr ⟨g, 8, rfl, fun i hi => ?_⟩⟩
  have h1 := rangeAt_row (w32 v.list) (vals bl) [.int .u64 (L : Nat)] (by simpa [stL] using hg) i _ (vals_get bl i hi)
  have e : (w32 v.list).length = 8 := rfl
  rw [e] at h1
  exact h1
set_option maxRecDepth 100000 in
set_option maxHeartbeats 1000000 in
theorem write_b (T B : List Nat) (g : Nat) (p : Option Addr) (len cap : Nat) (w : World) (hT : T ≠ []) (hm : T.length % 64 = 0) (v : Sm.V8) (bl : List Nat) (hh : Held T v bl)
    (hg : w.heap[g]? = some (.cells (stL v bl T.length).toArray 127 (0, 0)))
    (hB : Bytes w p len cap B) (hn : B ≠ [] → ∀ a, p = some a → a.block ≠ g) (hl : (T ++ B).length < 1152921504606846976) :
    Calls Tryz.prog 87 #[.pointer (some ⟨g, 0, none⟩), .slice p len cap] w fun e w' => e = .returned (.tuple #[]) ∧ StateAt w' g (T ++ B) ∧ w.grownBy w' (some g) := by
  have hL0 : ((T.length : Int) == 0) = false := by
    have := List.length_pos_iff.2 hT
    simp; omega
  have hL1 : (T.length : Int) % 64 = 0 := by omega
  have hcl : w.cell? ⟨g, 72, none⟩ = some (.int .u64 (T.length : Nat)) := st_len hg hh.size
  have hfl : w.frozen? ⟨g, 72, none⟩ = false := frozen_of_row w g _ _ _ hg
  obtain ⟨N, hN⟩ : ∃ N, N = T.length := ⟨_, rfl⟩
  rw [← hN] at hcl hL0 hL1
  have hlen := hB.size
  have hb1 : N + len < 1152921504606846976 := by simp at hl; omega
  have HLT := Lib.hid (show (T ++ B).length = N + len from by simp; omega)
  have HG := Lib.hid hg
  have HTO := Lib.hid hh.ok
  have HBO := Lib.hid hh.bok
  have HSZ := Lib.hid hh.size
  have HVV := Lib.hid hh.vok
  have HS := Lib.hid (show Start T v from ⟨hh.vok, hm, hh.words hT⟩)
  have HB := Lib.hid hB
  have HN := Lib.hid hN
  clear hg hh hB hN hlen
  go_enter Tryz.func87, Tryz.ntmps87
  go_wp2_with fail
  rw [show (N : Int) + (len : Int) = ((N + len : Nat) : Int) from by omega]
  generalize hW1 : w.setCell ⟨g, 72, none⟩ (.int .u64 ((N + len : Nat) : Int)) = W1
  have hM : Mid w W1 g v bl (N + len) p len cap B := by
    subst hW1
    have hg := HG.out
    rw [← HN.out] at hg
    exact ⟨st_set_len hg HSZ.out _, HSZ.out, HB.out.grown (grown_setCell _ _ _ _) hn, hn, grown_setCell _ _ _ _⟩
  have HM := Lib.hid hM
  clear hW1 hM HG HB hcl hfl hL0 hL1
  obtain ⟨F, hF⟩ : ∃ F, F = len - len % 64 := ⟨_, rfl⟩
  rw [show (len : Int) - (len : Int) % 64 = (F : Int) from by omega]
  have hFl : F ≤ len := by omega
  have hF64 : F % 64 = 0 := by omega
  have HF := Lib.hid hF
  have HF64 := Lib.hid hF64
  clear hF hF64
  rcases HM.out.bytes.at' with hc | ⟨gb, ob, hp, hx⟩
  · subst hc
    cases p with
    | none =>
      obtain rfl : len = 0 := by have := HM.out.bytes.le; omega
      obtain rfl : F = 0 := by omega
      obtain ⟨U, hU⟩ : ∃ U, U = Sm.blocks (B.take 0) v ((B.take 0).length / 64) := ⟨_, rfl⟩
      have HA := all_any v HVV.out (B.take 0) none 0 0 W1.drew ((HM.out.bytes.take 0 hFl).heap rfl) (by simp)
      rw [show ((0 : Nat) : Int) = 0 from rfl]
      rw [← hU] at HA
      have HAA := Lib.hid HA
      have HU := Lib.hid hU
      clear HA hU
      obtain ⟨a, b, c, d, e, f, h, k⟩ := v
      have c0 : W1.cell? ⟨g, 0, none⟩ = some (.int .u32 a) := st_cell HM.out.row 0 (by omega)
      have c1 : W1.cell? ⟨g, 1, none⟩ = some (.int .u32 b) := st_cell HM.out.row 1 (by omega)
      have c2 : W1.cell? ⟨g, 2, none⟩ = some (.int .u32 c) := st_cell HM.out.row 2 (by omega)
      have c3 : W1.cell? ⟨g, 3, none⟩ = some (.int .u32 d) := st_cell HM.out.row 3 (by omega)
      have c4 : W1.cell? ⟨g, 4, none⟩ = some (.int .u32 e) := st_cell HM.out.row 4 (by omega)
      have c5 : W1.cell? ⟨g, 5, none⟩ = some (.int .u32 f) := st_cell HM.out.row 5 (by omega)
      have c6 : W1.cell? ⟨g, 6, none⟩ = some (.int .u32 h) := st_cell HM.out.row 6 (by omega)
      have c7 : W1.cell? ⟨g, 7, none⟩ = some (.int .u32 k) := st_cell HM.out.row 7 (by omega)
      go_region_law ((go_simp; go_at_call 104; refine HAA.out.mono ?_; rintro _ w4 ⟨rfl, hb4⟩; have m4 := Lib.hid (HM.out.later (below_of hb4 rfl rfl rfl rfl)); clear hb4; have hst4 := st_store m4.out.row m4.out.size U; have hu8 := size8 U))
      generalize hW5 : w4.setCells g 0 (w32 U.list) = W5
      have m5 := m4.out.words U
      rw [hW5] at m5
      have M5 := Lib.hid m5
      clear hW5 m5 hst4 hu8 m4 c0 c1 c2 c3 c4 c5 c6 c7
      go_wp2_with fail
      have hcp := run_copy_none (P := Tryz.prog) W5.drew 22 22 3 5 (some ⟨g, 8, none⟩) none 64 64 0 0 A22 E5 (by rfl)
      go_still_tail 7, (by kernel_rfl)
      go_wp2_with fail
      go_end0
      have hfin := Held.next HS.out HTO.out M5.out.bytes.ok hl M5.out.bytes.size (show 0 = 0 - 0 % 64 from rfl) HU.out M5.out.size HBO.out
      have e1 : B.drop 0 = [] := List.drop_eq_nil_of_le (by have := M5.out.bytes.size; omega)
      rw [e1, Nat.sub_self, List.drop_zero, List.nil_append] at hfin
      refine ⟨rfl, ⟨U, bl, hfin, ?_⟩, ?_⟩
      · have h0 := HLT.out; (try simp only [List.nil_append] at h0); rw [h0]; exact M5.out.row
      · exact ⟨M5.out.grown.os, M5.out.grown.tape, M5.out.grown.output, M5.out.grown.size, M5.out.grown.block⟩
    | some x =>
      obtain rfl : len = 0 := by have := HM.out.bytes.le; omega
      obtain rfl : F = 0 := by omega
      obtain ⟨U, hU⟩ : ∃ U, U = Sm.blocks (B.take 0) v ((B.take 0).length / 64) := ⟨_, rfl⟩
      have HA := all_any v HVV.out (B.take 0) (some x) 0 0 W1.drew ((HM.out.bytes.take 0 hFl).heap rfl) (by simp)
      rw [show ((0 : Nat) : Int) = 0 from rfl]
      rw [← hU] at HA
      have HAA := Lib.hid HA
      have HU := Lib.hid hU
      clear HA hU
      obtain ⟨a, b, c, d, e, f, h, k⟩ := v
      have c0 : W1.cell? ⟨g, 0, none⟩ = some (.int .u32 a) := st_cell HM.out.row 0 (by omega)
      have c1 : W1.cell? ⟨g, 1, none⟩ = some (.int .u32 b) := st_cell HM.out.row 1 (by omega)
      have c2 : W1.cell? ⟨g, 2, none⟩ = some (.int .u32 c) := st_cell HM.out.row 2 (by omega)
      have c3 : W1.cell? ⟨g, 3, none⟩ = some (.int .u32 d) := st_cell HM.out.row 3 (by omega)
      have c4 : W1.cell? ⟨g, 4, none⟩ = some (.int .u32 e) := st_cell HM.out.row 4 (by omega)
      have c5 : W1.cell? ⟨g, 5, none⟩ = some (.int .u32 f) := st_cell HM.out.row 5 (by omega)
      have c6 : W1.cell? ⟨g, 6, none⟩ = some (.int .u32 h) := st_cell HM.out.row 6 (by omega)
      have c7 : W1.cell? ⟨g, 7, none⟩ = some (.int .u32 k) := st_cell HM.out.row 7 (by omega)
      go_region_law ((go_simp; go_at_call 104; refine HAA.out.mono ?_; rintro _ w4 ⟨rfl, hb4⟩; have m4 := Lib.hid (HM.out.later (below_of hb4 rfl rfl rfl rfl)); clear hb4; have hst4 := st_store m4.out.row m4.out.size U; have hu8 := size8 U))
      generalize hW5 : w4.setCells g 0 (w32 U.list) = W5
      have m5 := m4.out.words U
      rw [hW5] at m5
      have M5 := Lib.hid m5
      clear hW5 m5 hst4 hu8 m4 c0 c1 c2 c3 c4 c5 c6 c7
      go_wp2_with fail
      have hcp := run_copy_none (P := Tryz.prog) W5.drew 22 22 3 5 (some ⟨g, 8, none⟩) (some x) 64 64 0 0 A22 E5 (by rfl)
      go_still_tail 7, (by kernel_rfl)
      go_wp2_with fail
      go_end0
      have hfin := Held.next HS.out HTO.out M5.out.bytes.ok hl M5.out.bytes.size (show 0 = 0 - 0 % 64 from rfl) HU.out M5.out.size HBO.out
      have e1 : B.drop 0 = [] := List.drop_eq_nil_of_le (by have := M5.out.bytes.size; omega)
      rw [e1, Nat.sub_self, List.drop_zero, List.nil_append] at hfin
      refine ⟨rfl, ⟨U, bl, hfin, ?_⟩, ?_⟩
      · have h0 := HLT.out; (try simp only [List.nil_append] at h0); rw [h0]; exact M5.out.row
      · exact ⟨M5.out.grown.os, M5.out.grown.tape, M5.out.grown.output, M5.out.grown.size, M5.out.grown.block⟩
  · subst hp
    clear hx
    have hcap := HM.out.bytes.le
    have a1 : (0 : Int) ≤ F ∧ (F : Int) ≤ cap := by omega
    obtain ⟨U, hU⟩ : ∃ U, U = Sm.blocks (B.take F) v ((B.take F).length / 64) := ⟨_, rfl⟩
    have HA := all_any v HVV.out (B.take F) (some ⟨gb, ob, none⟩) F cap W1.drew ((HM.out.bytes.take F hFl).heap rfl) (by have := HF64.out; have := HM.out.bytes.size; simp; omega)
    rw [← hU] at HA
    have HAA := Lib.hid HA
    have HU := Lib.hid hU
    clear HA hU
    obtain ⟨a, b, c, d, e, f, h, k⟩ := v
    have c0 : W1.cell? ⟨g, 0, none⟩ = some (.int .u32 a) := st_cell HM.out.row 0 (by omega)
    have c1 : W1.cell? ⟨g, 1, none⟩ = some (.int .u32 b) := st_cell HM.out.row 1 (by omega)
    have c2 : W1.cell? ⟨g, 2, none⟩ = some (.int .u32 c) := st_cell HM.out.row 2 (by omega)
    have c3 : W1.cell? ⟨g, 3, none⟩ = some (.int .u32 d) := st_cell HM.out.row 3 (by omega)
    have c4 : W1.cell? ⟨g, 4, none⟩ = some (.int .u32 e) := st_cell HM.out.row 4 (by omega)
    have c5 : W1.cell? ⟨g, 5, none⟩ = some (.int .u32 f) := st_cell HM.out.row 5 (by omega)
    have c6 : W1.cell? ⟨g, 6, none⟩ = some (.int .u32 h) := st_cell HM.out.row 6 (by omega)
    have c7 : W1.cell? ⟨g, 7, none⟩ = some (.int .u32 k) := st_cell HM.out.row 7 (by omega)
    go_region_law ((go_simp; go_at_call 104; refine HAA.out.mono ?_; rintro _ w4 ⟨rfl, hb4⟩; have m4 := Lib.hid (HM.out.later (below_of hb4 rfl rfl rfl rfl)); clear hb4; have hst4 := st_store m4.out.row m4.out.size U; have hu8 := size8 U))
    generalize hW5 : w4.setCells g 0 (w32 U.list) = W5
    have m5 := m4.out.words U
    rw [hW5] at m5
    have M5 := Lib.hid m5
    clear hW5 m5 hst4 hu8 m4 c0 c1 c2 c3 c4 c5 c6 c7
    go_wp2_with fail
    rcases Nat.lt_or_eq_of_le (Nat.le_trans hFl hcap) with hcc | hcc
    · have hcp := st_copy M5.out F (by have := HF.out; omega) hcc
      go_still_tail 7, (by kernel_rfl)
      go_wp2_with fail
      go_end0
      have hlF : (B.drop F).length = len - F := by have := M5.out.bytes.size; simp; omega
      have hrow := st_set_block (W := W5.drew) M5.out.row M5.out.size 0 (B.drop F) (by have := HF.out; omega)
      have hfin := Held.next HS.out HTO.out M5.out.bytes.ok hl M5.out.bytes.size HF.out HU.out M5.out.size HBO.out
      refine ⟨rfl, ⟨U, _, hfin, ?_⟩, ?_⟩
      · rw [hlF] at hrow
        have h0 := HLT.out
        (try simp only [List.nil_append] at h0)
        rw [h0]
        simpa using hrow
      · exact grown_setCells (w1 := W5.drew) ⟨M5.out.grown.os, M5.out.grown.tape, M5.out.grown.output, M5.out.grown.size, M5.out.grown.block⟩ 8 _
    · subst hcc
      obtain rfl : len = F := by omega
      have hcp := run_copy_none (P := Tryz.prog) W5.drew 22 22 3 5 (some ⟨g, 8, none⟩) (some ⟨gb, ob, none⟩) 64 64 0 0 A22 E5 (by rfl)
      go_still_tail 7, (by kernel_rfl)
      go_wp2_with fail
      go_end0
      have hfin := Held.next HS.out HTO.out M5.out.bytes.ok hl M5.out.bytes.size HF.out HU.out M5.out.size HBO.out
      have e1 : B.drop len = [] := List.drop_eq_nil_of_le (by have := M5.out.bytes.size; omega)
      rw [e1, Nat.sub_self, List.drop_zero, List.nil_append] at hfin
      refine ⟨rfl, ⟨U, bl, hfin, ?_⟩, ?_⟩
      · have h0 := HLT.out; (try simp only [List.nil_append] at h0); rw [h0]; exact M5.out.row
      · exact ⟨M5.out.grown.os, M5.out.grown.tape, M5.out.grown.output, M5.out.grown.size, M5.out.grown.block⟩
end Go.Proofs.YtfkpgildeddhaaaGreat

/- The contract of State.Write: nothing was written so far. -/
namespace Go.Proofs.YtfkpgildeddhaaaGreat
open Go.RowKit

set_option maxRecDepth 100000 in
set_option maxHeartbeats 1000000 in
theorem write_a (T B : List Nat) (g : Nat) (p : Option Addr) (len cap : Nat) (w : World) (hT : T = []) (v : Sm.V8) (bl : List Nat) (hh : Held T v bl)
    (hg : w.heap[g]? = some (.cells (stL v bl T.length).toArray 127 (0, 0)))
    (hB : Bytes w p len cap B) (hn : B ≠ [] → ∀ a, p = some a → a.block ≠ g) (hl : (T ++ B).length < 1152921504606846976) :
    Calls Tryz.prog 87 #[.pointer (some ⟨g, 0, none⟩), .slice p len cap] w fun e w' => e = .returned (.tuple #[]) ∧ StateAt w' g (T ++ B) ∧ w.grownBy w' (some g) := by
  subst hT
  have hcl : w.cell? ⟨g, 72, none⟩ = some (.int .u64 0) := st_len hg hh.size
  have hfl : w.frozen? ⟨g, 72, none⟩ = false := frozen_of_row w g _ _ _ hg
  have hlen := hB.size
  have hb1 : len < 1152921504606846976 := by simp at hl; omega
  have HLT := Lib.hid (show (([] : List Nat) ++ B).length = len from by simp; omega)
  have HG := Lib.hid hg
  have HTO := Lib.hid hh.ok
  have HBO := Lib.hid hh.bok
  have HSZ := Lib.hid hh.size
  have HB := Lib.hid hB
  clear hg hh hB hlen
  go_enter Tryz.func87, Tryz.ntmps87
  go_wp2_with fail
  refine (firstWords_any w).mono ?_
  rintro _ w2 ⟨rfl, hb2⟩
  have hg2 : w2.heap[g]? = _ := (hb2.block g (Array.getElem?_eq_some_iff.1 HG.out).1).trans HG.out
  have hst := st_store hg2 HSZ.out Sm.first
  have hg3 := st_set_words hg2 Sm.first
  have hcl2 : (w2.setCells g 0 (w32 Sm.first.list)).cell? ⟨g, 72, none⟩ = some (.int .u64 0) := st_len hg3 HSZ.out
  have hfl2 : (w2.setCells g 0 (w32 Sm.first.list)).frozen? ⟨g, 72, none⟩ = false := frozen_of_row _ g _ _ _ hg3
  have hu8 := size8 Sm.first
  have HB2 := Lib.hid hb2
  have HG3 := Lib.hid hg3
  clear hb2 hg2 hg3 hcl hfl
  go_wp2_with fail
  obtain ⟨v, hv⟩ : ∃ v, v = Sm.first := ⟨_, rfl⟩
  have HS := Lib.hid (show Start [] v from ⟨by rw [hv]; exact Sm.first_ok, rfl, hv⟩)
  have HVV := Lib.hid HS.out.1
  rw [← hv] at HG3 ⊢
  generalize hW1 : (w2.setCells g 0 (w32 v.list)).setCell ⟨g, 72, none⟩ (.int .u64 (len : Int)) = W1
  have hM : Mid w W1 g v bl len p len cap B := by
    subst hW1
    have h1 : w.grownBy (w2.setCells g 0 (w32 v.list)) (some g) := grown_setCells ⟨HB2.out.os, HB2.out.tape, HB2.out.output, HB2.out.size, fun k hk _ => HB2.out.block k hk⟩ 0 _
    have h2 : w.grownBy ((w2.setCells g 0 (w32 v.list)).setCell ⟨g, 72, none⟩ (.int .u64 (len : Int))) (some g) := grown_setCells h1 72 [.int .u64 (len : Int)]
    exact ⟨st_set_len HG3.out HSZ.out _, HSZ.out, HB.out.grown h2 hn, hn, h2⟩
  have HM := Lib.hid hM
  clear hW1 hM HG HB hst hcl2 hfl2 hu8 HG3 HB2 hv
  obtain ⟨F, hF⟩ : ∃ F, F = len - len % 64 := ⟨_, rfl⟩
  rw [show (len : Int) - (len : Int) % 64 = (F : Int) from by omega]
  have hFl : F ≤ len := by omega
  have hF64 : F % 64 = 0 := by omega
  have HF := Lib.hid hF
  have HF64 := Lib.hid hF64
  clear hF hF64
  rcases HM.out.bytes.at' with hc | ⟨gb, ob, hp, hx⟩
  · subst hc
    cases p with
    | none =>
      obtain rfl : len = 0 := by have := HM.out.bytes.le; omega
      obtain rfl : F = 0 := by omega
      obtain ⟨U, hU⟩ : ∃ U, U = Sm.blocks (B.take 0) v ((B.take 0).length / 64) := ⟨_, rfl⟩
      have HA := all_any v HVV.out (B.take 0) none 0 0 W1.drew ((HM.out.bytes.take 0 hFl).heap rfl) (by simp)
      rw [show ((0 : Nat) : Int) = 0 from rfl]
      rw [← hU] at HA
      have HAA := Lib.hid HA
      have HU := Lib.hid hU
      clear HA hU
      obtain ⟨a, b, c, d, e, f, h, k⟩ := v
      have c0 : W1.cell? ⟨g, 0, none⟩ = some (.int .u32 a) := st_cell HM.out.row 0 (by omega)
      have c1 : W1.cell? ⟨g, 1, none⟩ = some (.int .u32 b) := st_cell HM.out.row 1 (by omega)
      have c2 : W1.cell? ⟨g, 2, none⟩ = some (.int .u32 c) := st_cell HM.out.row 2 (by omega)
      have c3 : W1.cell? ⟨g, 3, none⟩ = some (.int .u32 d) := st_cell HM.out.row 3 (by omega)
      have c4 : W1.cell? ⟨g, 4, none⟩ = some (.int .u32 e) := st_cell HM.out.row 4 (by omega)
      have c5 : W1.cell? ⟨g, 5, none⟩ = some (.int .u32 f) := st_cell HM.out.row 5 (by omega)
      have c6 : W1.cell? ⟨g, 6, none⟩ = some (.int .u32 h) := st_cell HM.out.row 6 (by omega)
      have c7 : W1.cell? ⟨g, 7, none⟩ = some (.int .u32 k) := st_cell HM.out.row 7 (by omega)
      go_region_law ((go_simp; go_at_call 104; refine HAA.out.mono ?_; rintro _ w4 ⟨rfl, hb4⟩; have m4 := Lib.hid (HM.out.later (below_of hb4 rfl rfl rfl rfl)); clear hb4; have hst4 := st_store m4.out.row m4.out.size U; have hu8 := size8 U))
      generalize hW5 : w4.setCells g 0 (w32 U.list) = W5
      have m5 := m4.out.words U
      rw [hW5] at m5
      have M5 := Lib.hid m5
      clear hW5 m5 hst4 hu8 m4 c0 c1 c2 c3 c4 c5 c6 c7
      go_wp2_with fail
      have hcp := run_copy_none (P := Tryz.prog) W5.drew 22 22 3 5 (some ⟨g, 8, none⟩) none 64 64 0 0 A22 E5 (by rfl)
      go_still_tail 7, (by kernel_rfl)
      go_wp2_with fail
      go_end0
      have hfin := Held.next HS.out HTO.out M5.out.bytes.ok hl M5.out.bytes.size (show 0 = 0 - 0 % 64 from rfl) HU.out M5.out.size HBO.out
      have e1 : B.drop 0 = [] := List.drop_eq_nil_of_le (by have := M5.out.bytes.size; omega)
      rw [e1, Nat.sub_self, List.drop_zero, List.nil_append] at hfin
      refine ⟨rfl, ⟨U, bl, hfin, ?_⟩, ?_⟩
      · have h0 := HLT.out; (try simp only [List.nil_append] at h0); rw [h0]; exact M5.out.row
      · exact ⟨M5.out.grown.os, M5.out.grown.tape, M5.out.grown.output, M5.out.grown.size, M5.out.grown.block⟩
    | some x =>
      obtain rfl : len = 0 := by have := HM.out.bytes.le; omega
      obtain rfl : F = 0 := by omega
      obtain ⟨U, hU⟩ : ∃ U, U = Sm.blocks (B.take 0) v ((B.take 0).length / 64) := ⟨_, rfl⟩
      have HA := all_any v HVV.out (B.take 0) (some x) 0 0 W1.drew ((HM.out.bytes.take 0 hFl).heap rfl) (by simp)
      rw [show ((0 : Nat) : Int) = 0 from rfl]
      rw [← hU] at HA
      have HAA := Lib.hid HA
      have HU := Lib.hid hU
      clear HA hU
      obtain ⟨a, b, c, d, e, f, h, k⟩ := v
      have c0 : W1.cell? ⟨g, 0, none⟩ = some (.int .u32 a) := st_cell HM.out.row 0 (by omega)
      have c1 : W1.cell? ⟨g, 1, none⟩ = some (.int .u32 b) := st_cell HM.out.row 1 (by omega)
      have c2 : W1.cell? ⟨g, 2, none⟩ = some (.int .u32 c) := st_cell HM.out.row 2 (by omega)
      have c3 : W1.cell? ⟨g, 3, none⟩ = some (.int .u32 d) := st_cell HM.out.row 3 (by omega)
      have c4 : W1.cell? ⟨g, 4, none⟩ = some (.int .u32 e) := st_cell HM.out.row 4 (by omega)
      have c5 : W1.cell? ⟨g, 5, none⟩ = some (.int .u32 f) := st_cell HM.out.row 5 (by omega)
      have c6 : W1.cell? ⟨g, 6, none⟩ = some (.int .u32 h) := st_cell HM.out.row 6 (by omega)
      have c7 : W1.cell? ⟨g, 7, none⟩ = some (.int .u32 k) := st_cell HM.out.row 7 (by omega)
      go_region_law ((go_simp; go_at_call 104; refine HAA.out.mono ?_; rintro _ w4 ⟨rfl, hb4⟩; have m4 := Lib.hid (HM.out.later (below_of hb4 rfl rfl rfl rfl)); clear hb4; have hst4 := st_store m4.out.row m4.out.size U; have hu8 := size8 U))
      generalize hW5 : w4.setCells g 0 (w32 U.list) = W5
      have m5 := m4.out.words U
      rw [hW5] at m5
      have M5 := Lib.hid m5
      clear hW5 m5 hst4 hu8 m4 c0 c1 c2 c3 c4 c5 c6 c7
      go_wp2_with fail
      have hcp := run_copy_none (P := Tryz.prog) W5.drew 22 22 3 5 (some ⟨g, 8, none⟩) (some x) 64 64 0 0 A22 E5 (by rfl)
      go_still_tail 7, (by kernel_rfl)
      go_wp2_with fail
      go_end0
      have hfin := Held.next HS.out HTO.out M5.out.bytes.ok hl M5.out.bytes.size (show 0 = 0 - 0 % 64 from rfl) HU.out M5.out.size HBO.out
      have e1 : B.drop 0 = [] := List.drop_eq_nil_of_le (by have := M5.out.bytes.size; omega)
      rw [e1, Nat.sub_self, List.drop_zero, List.nil_append] at hfin
      refine ⟨rfl, ⟨U, bl, hfin, ?_⟩, ?_⟩
      · have h0 := HLT.out; (try simp only [List.nil_append] at h0); rw [h0]; exact M5.out.row
      · exact ⟨M5.out.grown.os, M5.out.grown.tape, M5.out.grown.output, M5.out.grown.size, M5.out.grown.block⟩
  · subst hp
    clear hx
    have hcap := HM.out.bytes.le
    have a1 : (0 : Int) ≤ F ∧ (F : Int) ≤ cap := by omega
    obtain ⟨U, hU⟩ : ∃ U, U = Sm.blocks (B.take F) v ((B.take F).length / 64) := ⟨_, rfl⟩
    have HA := all_any v HVV.out (B.take F) (some ⟨gb, ob, none⟩) F cap W1.drew ((HM.out.bytes.take F hFl).heap rfl) (by have := HF64.out; have := HM.out.bytes.size; simp; omega)
    rw [← hU] at HA
    have HAA := Lib.hid HA
    have HU := Lib.hid hU
    clear HA hU
    obtain ⟨a, b, c, d, e, f, h, k⟩ := v
    have c0 : W1.cell? ⟨g, 0, none⟩ = some (.int .u32 a) := st_cell HM.out.row 0 (by omega)
    have c1 : W1.cell? ⟨g, 1, none⟩ = some (.int .u32 b) := st_cell HM.out.row 1 (by omega)
    have c2 : W1.cell? ⟨g, 2, none⟩ = some (.int .u32 c) := st_cell HM.out.row 2 (by omega)
    have c3 : W1.cell? ⟨g, 3, none⟩ = some (.int .u32 d) := st_cell HM.out.row 3 (by omega)
    have c4 : W1.cell? ⟨g, 4, none⟩ = some (.int .u32 e) := st_cell HM.out.row 4 (by omega)
    have c5 : W1.cell? ⟨g, 5, none⟩ = some (.int .u32 f) := st_cell HM.out.row 5 (by omega)
    have c6 : W1.cell? ⟨g, 6, none⟩ = some (.int .u32 h) := st_cell HM.out.row 6 (by omega)
    have c7 : W1.cell? ⟨g, 7, none⟩ = some (.int .u32 k) := st_cell HM.out.row 7 (by omega)
    go_region_law ((go_simp; go_at_call 104; refine HAA.out.mono ?_; rintro _ w4 ⟨rfl, hb4⟩; have m4 := Lib.hid (HM.out.later (below_of hb4 rfl rfl rfl rfl)); clear hb4; have hst4 := st_store m4.out.row m4.out.size U; have hu8 := size8 U))
    generalize hW5 : w4.setCells g 0 (w32 U.list) = W5
    have m5 := m4.out.words U
    rw [hW5] at m5
    have M5 := Lib.hid m5
    clear hW5 m5 hst4 hu8 m4 c0 c1 c2 c3 c4 c5 c6 c7
    go_wp2_with fail
    rcases Nat.lt_or_eq_of_le (Nat.le_trans hFl hcap) with hcc | hcc
    · have hcp := st_copy M5.out F (by have := HF.out; omega) hcc
      go_still_tail 7, (by kernel_rfl)
      go_wp2_with fail
      go_end0
      have hlF : (B.drop F).length = len - F := by have := M5.out.bytes.size; simp; omega
      have hrow := st_set_block (W := W5.drew) M5.out.row M5.out.size 0 (B.drop F) (by have := HF.out; omega)
      have hfin := Held.next HS.out HTO.out M5.out.bytes.ok hl M5.out.bytes.size HF.out HU.out M5.out.size HBO.out
      refine ⟨rfl, ⟨U, _, hfin, ?_⟩, ?_⟩
      · rw [hlF] at hrow
        have h0 := HLT.out
        (try simp only [List.nil_append] at h0)
        rw [h0]
        simpa using hrow
      · exact grown_setCells (w1 := W5.drew) ⟨M5.out.grown.os, M5.out.grown.tape, M5.out.grown.output, M5.out.grown.size, M5.out.grown.block⟩ 8 _
    · subst hcc
      obtain rfl : len = F := by omega
      have hcp := run_copy_none (P := Tryz.prog) W5.drew 22 22 3 5 (some ⟨g, 8, none⟩) (some ⟨gb, ob, none⟩) 64 64 0 0 A22 E5 (by rfl)
      go_still_tail 7, (by kernel_rfl)
      go_wp2_with fail
      go_end0
      have hfin := Held.next HS.out HTO.out M5.out.bytes.ok hl M5.out.bytes.size HF.out HU.out M5.out.size HBO.out
      have e1 : B.drop len = [] := List.drop_eq_nil_of_le (by have := M5.out.bytes.size; omega)
      rw [e1, Nat.sub_self, List.drop_zero, List.nil_append] at hfin
      refine ⟨rfl, ⟨U, bl, hfin, ?_⟩, ?_⟩
      · have h0 := HLT.out; (try simp only [List.nil_append] at h0); rw [h0]; exact M5.out.row
      · exact ⟨M5.out.grown.os, M5.out.grown.tape, M5.out.grown.output, M5.out.grown.size, M5.out.grown.block⟩
end Go.Proofs.YtfkpgildeddhaaaGreat

/- The contract of State.Write: a block is begun, and stays so. -/
namespace Go.Proofs.YtfkpgildeddhaaaGreat
open Go.RowKit

set_option maxRecDepth 100000 in
set_option maxHeartbeats 1000000 in
theorem write_c (T B : List Nat) (g : Nat) (p : Option Addr) (len cap : Nat) (w : World) (r : Nat) (hr : T.length % 64 = r) (hr0 : 0 < r) (hs : r + len < 64) (v : Sm.V8) (bl : List Nat) (hh : Held T v bl)
    (hg : w.heap[g]? = some (.cells (stL v bl T.length).toArray 127 (0, 0)))
    (hB : Bytes w p len cap B) (hn : B ≠ [] → ∀ a, p = some a → a.block ≠ g) (hl : (T ++ B).length < 1152921504606846976) :
    Calls Tryz.prog 87 #[.pointer (some ⟨g, 0, none⟩), .slice p len cap] w fun e w' => e = .returned (.tuple #[]) ∧ StateAt w' g (T ++ B) ∧ w.grownBy w' (some g) := by
  have hL0 : ((T.length : Int) == 0) = false := by
    have : T ≠ [] := by rintro rfl; simp at hr; omega
    have := List.length_pos_iff.2 this
    simp; omega
  have hT : T ≠ [] := by rintro rfl; simp at hr; omega
  have hL1 : (T.length : Int) % 64 = (r : Int) := by omega
  have hcl : w.cell? ⟨g, 72, none⟩ = some (.int .u64 (T.length : Nat)) := st_len hg hh.size
  have hfl : w.frozen? ⟨g, 72, none⟩ = false := frozen_of_row w g _ _ _ hg
  have hsl := st_set_len hg hh.size (T.length + len)
  obtain ⟨N, hN⟩ : ∃ N, N = T.length := ⟨_, rfl⟩
  rw [← hN] at hcl hL0 hL1 hsl
  have hlen := hB.size
  have hb1 : N + len < 1152921504606846976 := by simp at hl; omega
  have HLT0 := Lib.hid (show (T ++ B).length = N + len from by simp; omega)
  have h0 : (0 : Int) < r ∧ (r : Int) < 64 := by omega
  have HBB := Lib.hid (hB.grown (grown_setCell w g 72 (.int .u64 ((N + len : Nat) : Int))) hn)
  have HH := Lib.hid hh
  have HSL := Lib.hid hsl
  have HR := Lib.hid hr
  have HT := Lib.hid hT
  have HN := Lib.hid hN
  have HLen := Lib.hid hlen
  clear hg hh hB hN hlen hsl hr hT
  have hlt : (r : Int) + len < 64 := by omega
  have hbs := block_slice g r (by omega)
  rcases HBB.out.at' with hc | ⟨gb, ob, hp, hx⟩
  · subst hc
    cases p with
    | none =>
      obtain rfl : len = 0 := by have := HBB.out.le; omega
      have hB0 : B = [] := List.length_eq_zero_iff.1 HLen.out.symm
      have hcp := run_copy_none (P := Tryz.prog) (w.setCell ⟨g, 72, none⟩ (.int .u64 (N : Int))) 22 22 3 5 (some ⟨g, 8 + r, none⟩) none (64 - r) (64 - r) 0 0 A22 E5 (Nat.zero_min _)
      have HB0 := Lib.hid hB0
      clear hB0
      go_enter Tryz.func87, Tryz.ntmps87
      go_wp2_with fail
      (try simp only [Exit.inBlock, Exit.then])
      refine bodyPost_ret (results_none rfl _ _ _) rfl ?_
      have hT2 : T ++ B = T := by rw [HB0.out, List.append_nil]
      refine ⟨rfl, ?_, grown_setCell _ _ _ _⟩
      rw [hT2]
      refine ⟨v, bl, HH.out, ?_⟩
      rw [← HN.out]
      exact HSL.out
    | some x =>
      obtain rfl : len = 0 := by have := HBB.out.le; omega
      have hB0 : B = [] := List.length_eq_zero_iff.1 HLen.out.symm
      have hcp := run_copy_none (P := Tryz.prog) (w.setCell ⟨g, 72, none⟩ (.int .u64 (N : Int))) 22 22 3 5 (some ⟨g, 8 + r, none⟩) (some x) (64 - r) (64 - r) 0 0 A22 E5 (Nat.zero_min _)
      have HB0 := Lib.hid hB0
      clear hB0
      go_enter Tryz.func87, Tryz.ntmps87
      go_wp2_with fail
      (try simp only [Exit.inBlock, Exit.then])
      refine bodyPost_ret (results_none rfl _ _ _) rfl ?_
      have hT2 : T ++ B = T := by rw [HB0.out, List.append_nil]
      refine ⟨rfl, ?_, grown_setCell _ _ _ _⟩
      rw [hT2]
      refine ⟨v, bl, HH.out, ?_⟩
      rw [← HN.out]
      exact HSL.out
  · subst hp
    clear hx
    have hcp := st_copy_in HSL.out HH.out.size HBB.out r len (by omega) (Nat.min_eq_left (by omega)).symm
    rw [show B.take len = B from List.take_of_length_le (by have := HLen.out; omega)] at hcp
    rw [show ((N + len : Nat) : Int) = (N : Int) + (len : Int) from by omega] at hcp
    go_enter Tryz.func87, Tryz.ntmps87
    go_wp2_with fail
    (try simp only [Exit.inBlock, Exit.then])
    refine bodyPost_ret (results_none rfl _ _ _) rfl ?_
    rw [show (N : Int) + (len : Int) = ((N + len : Nat) : Int) from by omega]
    have hrow := st_set_block HSL.out HH.out.size r B (by have := HLen.out; omega)
    refine ⟨rfl, ⟨v, _, HH.out.small HR.out hr0 (by have := HLen.out; omega) HBB.out.ok hl, ?_⟩, grown_setCells (grown_setCell _ _ _ _) _ _⟩
    rw [HLT0.out]
    exact hrow
end Go.Proofs.YtfkpgildeddhaaaGreat

/- The contract of State.Write: a block is begun, and gets full. -/
namespace Go.Proofs.YtfkpgildeddhaaaGreat
open Go.RowKit

set_option maxRecDepth 100000 in
set_option maxHeartbeats 1000000 in
theorem write_d (T B : List Nat) (g : Nat) (p : Option Addr) (len cap : Nat) (w : World) (r m : Nat) (hr : T.length % 64 = r) (hr0 : 0 < r) (hs : r + m = 64) (hml : m ≤ len) (v : Sm.V8) (bl : List Nat) (hh : Held T v bl)
    (hg : w.heap[g]? = some (.cells (stL v bl T.length).toArray 127 (0, 0)))
    (hB : Bytes w p len cap B) (hn : B ≠ [] → ∀ a, p = some a → a.block ≠ g) (hl : (T ++ B).length < 1152921504606846976) :
    Calls Tryz.prog 87 #[.pointer (some ⟨g, 0, none⟩), .slice p len cap] w fun e w' => e = .returned (.tuple #[]) ∧ StateAt w' g (T ++ B) ∧ w.grownBy w' (some g) := by
  have hL0 : ((T.length : Int) == 0) = false := by
    have : T ≠ [] := by rintro rfl; simp at hr; omega
    have := List.length_pos_iff.2 this
    simp; omega
  have hT : T ≠ [] := by rintro rfl; simp at hr; omega
  have hL1 : (T.length : Int) % 64 = (r : Int) := by omega
  have hcl : w.cell? ⟨g, 72, none⟩ = some (.int .u64 (T.length : Nat)) := st_len hg hh.size
  have hfl : w.frozen? ⟨g, 72, none⟩ = false := frozen_of_row w g _ _ _ hg
  have hsl := st_set_len hg hh.size (T.length + len)
  obtain ⟨N, hN⟩ : ∃ N, N = T.length := ⟨_, rfl⟩
  rw [← hN] at hcl hL0 hL1 hsl
  have hlen := hB.size
  have hb1 : N + len < 1152921504606846976 := by simp at hl; omega
  have HLT0 := Lib.hid (show (T ++ B).length = N + len from by simp; omega)
  have h0 : (0 : Int) < r ∧ (r : Int) < 64 := by omega
  have HBB := Lib.hid (hB.grown (grown_setCell w g 72 (.int .u64 ((N + len : Nat) : Int))) hn)
  have HH := Lib.hid hh
  have HSL := Lib.hid hsl
  have HR := Lib.hid hr
  have HT := Lib.hid hT
  have HN := Lib.hid hN
  have HLen := Lib.hid hlen
  clear hg hh hB hN hlen hsl hr hT
  have hbs := block_slice g r (by omega)
  obtain ⟨gb, ob, hp, hx⟩ := HBB.out.ne (by intro e; have := HLen.out; rw [e] at this; simp at this; omega)
  subst hp
  clear hx
  have hcp := st_copy_in HSL.out HH.out.size HBB.out r m (by omega) (by rw [show 64 - r = m from by omega]; exact (Nat.min_eq_right hml).symm)
  have HCPW := Lib.hid (show ((N + len : Nat) : Int) = (N : Int) + (len : Int) from by omega)
  rw [HCPW.out] at hcp
  have hm1 : (r : Int) + m = 64 := by omega
  have hm2 : (0 : Int) ≤ m ∧ (m : Int) ≤ len := by omega
  have hcap0 := HBB.out.le
  rcases Nat.lt_or_eq_of_le (Nat.le_trans hml hcap0) with hmc | hmc
  · go_enter Tryz.func87, Tryz.ntmps87
    go_wp2_with fail
    rw [← HCPW.out]
    generalize hW2 : (w.setCell ⟨g, 72, none⟩ (.int .u64 ((N + len : Nat) : Int))).setCells g (8 + r) (vals (B.take m)) = W2
    obtain ⟨bl2, hbl2⟩ : ∃ x, x = bl.take r ++ B.take m := ⟨_, rfl⟩
    have hlm : (B.take m).length = m := by have := HLen.out; simp; omega
    have hsz := HH.out.size
    have hM2 : Mid w W2 g v bl2 (N + len) (some ⟨gb, ob, none⟩) len cap B := by
      have hrow2 := st_set_block HSL.out hsz r (B.take m) (by omega)
      rw [hW2, hlm, List.drop_eq_nil_of_le (by omega), List.append_nil, ← hbl2] at hrow2
      have hgr : w.grownBy W2 (some g) := by rw [← hW2]; exact grown_setCells (grown_setCell _ _ _ _) _ _
      have hgr2 : (w.setCell ⟨g, 72, none⟩ (.int .u64 ((N + len : Nat) : Int))).grownBy W2 (some g) := by rw [← hW2]; exact grown_setCells (World.grownBy.refl _ _) _ _
      exact ⟨hrow2, by have := HLen.out; rw [hbl2]; simp [hsz]; omega, HBB.out.grown hgr2 hn, hn, hgr⟩
    have hbo2 : Sm.allB bl2 := by
      rw [hbl2]
      intro x hx
      rcases List.mem_append.1 hx with hx | hx
      · exact HH.out.bok x (List.mem_of_mem_take hx)
      · exact HBB.out.ok x (List.mem_of_mem_take hx)
    have hst2 := Start.block (B := B) HH.out HR.out hr0 hs (by have := HLen.out; omega)
    rw [← hbl2] at hst2
    obtain ⟨V2, hV2⟩ : ∃ V2, V2 = Sm.blocks bl2 v 1 := ⟨_, rfl⟩
    have HA2 := all_any v HH.out.vok bl2 (some ⟨g, 8, none⟩) 64 64 W2.drew ((Bytes.block hM2.row hM2.size hbo2).heap rfl) (by rw [hM2.size])
    rw [hM2.size, show 64 / 64 = 1 from rfl, ← hV2] at HA2
    rw [← hV2] at hst2
    have HAA2 := Lib.hid HA2
    have HM2 := Lib.hid hM2
    have HS2 := Lib.hid hst2
    have HVV2 := Lib.hid hst2.1
    have HBO2 := Lib.hid hbo2
    clear HA2 hM2 hst2 hbo2 hV2 hbl2 hW2 hsz hlm hcp hcl hfl hL0 hL1 HSL
    obtain ⟨a, b, c, d, e, f, h, k⟩ := v
    have c0 : W2.cell? ⟨g, 0, none⟩ = some (.int .u32 a) := st_cell HM2.out.row 0 (by omega)
    have c1 : W2.cell? ⟨g, 1, none⟩ = some (.int .u32 b) := st_cell HM2.out.row 1 (by omega)
    have c2 : W2.cell? ⟨g, 2, none⟩ = some (.int .u32 c) := st_cell HM2.out.row 2 (by omega)
    have c3 : W2.cell? ⟨g, 3, none⟩ = some (.int .u32 d) := st_cell HM2.out.row 3 (by omega)
    have c4 : W2.cell? ⟨g, 4, none⟩ = some (.int .u32 e) := st_cell HM2.out.row 4 (by omega)
    have c5 : W2.cell? ⟨g, 5, none⟩ = some (.int .u32 f) := st_cell HM2.out.row 5 (by omega)
    have c6 : W2.cell? ⟨g, 6, none⟩ = some (.int .u32 h) := st_cell HM2.out.row 6 (by omega)
    have c7 : W2.cell? ⟨g, 7, none⟩ = some (.int .u32 k) := st_cell HM2.out.row 7 (by omega)
    go_region_law ((go_simp; go_at_call 104; refine HAA2.out.mono ?_; rintro _ w3 ⟨rfl, hb4⟩; have m4 := Lib.hid (HM2.out.later (below_of hb4 rfl rfl rfl rfl)); clear hb4; have hst4 := st_store m4.out.row m4.out.size V2; have hu8 := size8 V2))
    generalize hW5 : w3.setCells g 0 (w32 V2.list) = W3
    have m5 := m4.out.words V2
    rw [hW5] at m5
    have HM3 := Lib.hid m5
    clear hW5 m5 hst4 hu8 m4 c0 c1 c2 c3 c4 c5 c6 c7
    go_wp2_with fail
    obtain ⟨T2, hT2⟩ : ∃ x, x = T ++ B.take m := ⟨_, rfl⟩
    obtain ⟨B2, hB2⟩ : ∃ x, x = B.drop m := ⟨_, rfl⟩
    have HET := Lib.hid (show T2 ++ B2 = T ++ B from by rw [hT2, hB2, List.append_assoc, List.take_append_drop])
    have hl2 : (T2 ++ B2).length < 1152921504606846976 := by rw [HET.out]; exact hl
    have HLT2 := Lib.hid (show (T2 ++ B2).length = N + len from by rw [HET.out]; exact HLT0.out)
    have HTO2 := Lib.hid (show Sm.allB T2 from by
      rw [hT2]
      intro x hx
      rcases List.mem_append.1 hx with hx | hx
      · exact HH.out.ok x hx
      · exact HBB.out.ok x (List.mem_of_mem_take hx))
    rw [← hT2] at HS2
    have hM4 : Mid w W3 g V2 bl2 (N + len) (some ⟨gb, ob + m, none⟩) (len - m) (cap - m) B2 := by
      have h0 := HM3.out
      exact ⟨h0.row, h0.size, by rw [hB2]; exact h0.bytes.drop m hml, (fun hb a ha => by cases ha; exact hn (by intro e0; rw [hB2, e0] at hb; simp at hb) ⟨gb, ob, none⟩ rfl), h0.grown⟩
    have HM4 := Lib.hid hM4
    clear hM4 HM3 hT2 hB2
    obtain ⟨len2, hlen2⟩ : ∃ x, x = len - m := ⟨_, rfl⟩
    obtain ⟨cap2, hcap2⟩ : ∃ x, x = cap - m := ⟨_, rfl⟩
    obtain ⟨ob2, hob2⟩ : ∃ x, x = ob + m := ⟨_, rfl⟩
    rw [← hlen2, ← hcap2, ← hob2] at HM4
    rw [← hlen2, ← hcap2, ← hob2]
    clear hlen2 hcap2 hob2 hm1 hm2 hcap0 hmc hbs HCPW HBB HR HT
    obtain ⟨F, hF⟩ : ∃ F, F = len2 - len2 % 64 := ⟨_, rfl⟩
    rw [show (len2 : Int) - (len2 : Int) % 64 = (F : Int) from by omega]
    have hFl : F ≤ len2 := by omega
    have hF64 : F % 64 = 0 := by omega
    have HF := Lib.hid hF
    have HF64 := Lib.hid hF64
    clear hF hF64
    have hcap := HM4.out.bytes.le
    have a1 : (0 : Int) ≤ F ∧ (F : Int) ≤ cap2 := by omega
    obtain ⟨U, hU⟩ : ∃ U, U = Sm.blocks (B2.take F) V2 ((B2.take F).length / 64) := ⟨_, rfl⟩
    have HA := all_any V2 HVV2.out (B2.take F) (some ⟨gb, ob2, none⟩) F cap2 W3.drew ((HM4.out.bytes.take F hFl).heap rfl) (by have := HF64.out; have := HM4.out.bytes.size; simp; omega)
    rw [← hU] at HA
    have HAA := Lib.hid HA
    have HU := Lib.hid hU
    clear HA hU
    obtain ⟨a, b, c, d, e, f, h, k⟩ := V2
    have c0 : W3.cell? ⟨g, 0, none⟩ = some (.int .u32 a) := st_cell HM4.out.row 0 (by omega)
    have c1 : W3.cell? ⟨g, 1, none⟩ = some (.int .u32 b) := st_cell HM4.out.row 1 (by omega)
    have c2 : W3.cell? ⟨g, 2, none⟩ = some (.int .u32 c) := st_cell HM4.out.row 2 (by omega)
    have c3 : W3.cell? ⟨g, 3, none⟩ = some (.int .u32 d) := st_cell HM4.out.row 3 (by omega)
    have c4 : W3.cell? ⟨g, 4, none⟩ = some (.int .u32 e) := st_cell HM4.out.row 4 (by omega)
    have c5 : W3.cell? ⟨g, 5, none⟩ = some (.int .u32 f) := st_cell HM4.out.row 5 (by omega)
    have c6 : W3.cell? ⟨g, 6, none⟩ = some (.int .u32 h) := st_cell HM4.out.row 6 (by omega)
    have c7 : W3.cell? ⟨g, 7, none⟩ = some (.int .u32 k) := st_cell HM4.out.row 7 (by omega)
    go_region_law ((go_simp; go_at_call 104; refine HAA.out.mono ?_; rintro _ w5 ⟨rfl, hb4⟩; have m4 := Lib.hid (HM4.out.later (below_of hb4 rfl rfl rfl rfl)); clear hb4; have hst4 := st_store m4.out.row m4.out.size U; have hu8 := size8 U))
    generalize hW5 : w5.setCells g 0 (w32 U.list) = W5
    have m5 := m4.out.words U
    rw [hW5] at m5
    have M5 := Lib.hid m5
    clear hW5 m5 hst4 hu8 m4 c0 c1 c2 c3 c4 c5 c6 c7
    go_wp2_with fail
    rcases Nat.lt_or_eq_of_le (Nat.le_trans hFl hcap) with hcc | hcc
    · have hcp := st_copy M5.out F (by have := HF.out; omega) hcc
      go_still_tail 7, (by kernel_rfl)
      go_wp2_with fail
      go_end0
      have hlF : (B2.drop F).length = len2 - F := by have := M5.out.bytes.size; simp; omega
      have hrow := st_set_block (W := W5.drew) M5.out.row M5.out.size 0 (B2.drop F) (by have := HF.out; omega)
      have hfin := Held.next HS2.out HTO2.out M5.out.bytes.ok hl2 M5.out.bytes.size HF.out HU.out M5.out.size HBO2.out
      refine ⟨rfl, ⟨U, _, (by rw [← HET.out]; exact hfin), ?_⟩, ?_⟩
      · rw [hlF] at hrow
        rw [← HET.out]
        have h0 := HLT2.out
        (try simp only [List.nil_append] at h0)
        rw [h0]
        simpa using hrow
      · exact grown_setCells (w1 := W5.drew) ⟨M5.out.grown.os, M5.out.grown.tape, M5.out.grown.output, M5.out.grown.size, M5.out.grown.block⟩ 8 _
    · subst hcc
      obtain rfl : len2 = F := by omega
      have hcp := run_copy_none (P := Tryz.prog) W5.drew 22 22 3 5 (some ⟨g, 8, none⟩) (some ⟨gb, ob2, none⟩) 64 64 0 0 A22 E5 (by rfl)
      go_still_tail 7, (by kernel_rfl)
      go_wp2_with fail
      go_end0
      have hfin := Held.next HS2.out HTO2.out M5.out.bytes.ok hl2 M5.out.bytes.size HF.out HU.out M5.out.size HBO2.out
      have e1 : B2.drop len2 = [] := List.drop_eq_nil_of_le (by have := M5.out.bytes.size; omega)
      rw [e1, Nat.sub_self, List.drop_zero, List.nil_append] at hfin
      refine ⟨rfl, ⟨U, bl2, (by rw [← HET.out]; exact hfin), ?_⟩, ?_⟩
      · rw [← HET.out]; have h0 := HLT2.out; (try simp only [List.nil_append] at h0); rw [h0]; exact M5.out.row
      · exact ⟨M5.out.grown.os, M5.out.grown.tape, M5.out.grown.output, M5.out.grown.size, M5.out.grown.block⟩
  · subst hmc
    obtain rfl : m = len := by omega
    go_enter Tryz.func87, Tryz.ntmps87
    go_wp2_with fail
    rw [← HCPW.out]
    generalize hW2 : (w.setCell ⟨g, 72, none⟩ (.int .u64 ((N + m : Nat) : Int))).setCells g (8 + r) (vals (B.take m)) = W2
    obtain ⟨bl2, hbl2⟩ : ∃ x, x = bl.take r ++ B.take m := ⟨_, rfl⟩
    have hlm : (B.take m).length = m := by have := HLen.out; simp; omega
    have hsz := HH.out.size
    have hM2 : Mid w W2 g v bl2 (N + m) (some ⟨gb, ob, none⟩) m m B := by
      have hrow2 := st_set_block HSL.out hsz r (B.take m) (by omega)
      rw [hW2, hlm, List.drop_eq_nil_of_le (by omega), List.append_nil, ← hbl2] at hrow2
      have hgr : w.grownBy W2 (some g) := by rw [← hW2]; exact grown_setCells (grown_setCell _ _ _ _) _ _
      have hgr2 : (w.setCell ⟨g, 72, none⟩ (.int .u64 ((N + m : Nat) : Int))).grownBy W2 (some g) := by rw [← hW2]; exact grown_setCells (World.grownBy.refl _ _) _ _
      exact ⟨hrow2, by have := HLen.out; rw [hbl2]; simp [hsz]; omega, HBB.out.grown hgr2 hn, hn, hgr⟩
    have hbo2 : Sm.allB bl2 := by
      rw [hbl2]
      intro x hx
      rcases List.mem_append.1 hx with hx | hx
      · exact HH.out.bok x (List.mem_of_mem_take hx)
      · exact HBB.out.ok x (List.mem_of_mem_take hx)
    have hst2 := Start.block (B := B) HH.out HR.out hr0 hs (by have := HLen.out; omega)
    rw [← hbl2] at hst2
    obtain ⟨V2, hV2⟩ : ∃ V2, V2 = Sm.blocks bl2 v 1 := ⟨_, rfl⟩
    have HA2 := all_any v HH.out.vok bl2 (some ⟨g, 8, none⟩) 64 64 W2.drew ((Bytes.block hM2.row hM2.size hbo2).heap rfl) (by rw [hM2.size])
    rw [hM2.size, show 64 / 64 = 1 from rfl, ← hV2] at HA2
    rw [← hV2] at hst2
    have HAA2 := Lib.hid HA2
    have HM2 := Lib.hid hM2
    have HS2 := Lib.hid hst2
    have HVV2 := Lib.hid hst2.1
    have HBO2 := Lib.hid hbo2
    clear HA2 hM2 hst2 hbo2 hV2 hbl2 hW2 hsz hlm hcp hcl hfl hL0 hL1 HSL
    obtain ⟨a, b, c, d, e, f, h, k⟩ := v
    have c0 : W2.cell? ⟨g, 0, none⟩ = some (.int .u32 a) := st_cell HM2.out.row 0 (by omega)
    have c1 : W2.cell? ⟨g, 1, none⟩ = some (.int .u32 b) := st_cell HM2.out.row 1 (by omega)
    have c2 : W2.cell? ⟨g, 2, none⟩ = some (.int .u32 c) := st_cell HM2.out.row 2 (by omega)
    have c3 : W2.cell? ⟨g, 3, none⟩ = some (.int .u32 d) := st_cell HM2.out.row 3 (by omega)
    have c4 : W2.cell? ⟨g, 4, none⟩ = some (.int .u32 e) := st_cell HM2.out.row 4 (by omega)
    have c5 : W2.cell? ⟨g, 5, none⟩ = some (.int .u32 f) := st_cell HM2.out.row 5 (by omega)
    have c6 : W2.cell? ⟨g, 6, none⟩ = some (.int .u32 h) := st_cell HM2.out.row 6 (by omega)
    have c7 : W2.cell? ⟨g, 7, none⟩ = some (.int .u32 k) := st_cell HM2.out.row 7 (by omega)
    go_region_law ((go_simp; go_at_call 104; refine HAA2.out.mono ?_; rintro _ w3 ⟨rfl, hb4⟩; have m4 := Lib.hid (HM2.out.later (below_of hb4 rfl rfl rfl rfl)); clear hb4; have hst4 := st_store m4.out.row m4.out.size V2; have hu8 := size8 V2))
    generalize hW5 : w3.setCells g 0 (w32 V2.list) = W3
    have m5 := m4.out.words V2
    rw [hW5] at m5
    have HM3 := Lib.hid m5
    clear hW5 m5 hst4 hu8 m4 c0 c1 c2 c3 c4 c5 c6 c7
    go_wp2_with fail
    obtain ⟨T2, hT2⟩ : ∃ x, x = T ++ B.take m := ⟨_, rfl⟩
    obtain ⟨B2, hB2⟩ : ∃ x, x = B.drop m := ⟨_, rfl⟩
    have HET := Lib.hid (show T2 ++ B2 = T ++ B from by rw [hT2, hB2, List.append_assoc, List.take_append_drop])
    have hl2 : (T2 ++ B2).length < 1152921504606846976 := by rw [HET.out]; exact hl
    have HLT2 := Lib.hid (show (T2 ++ B2).length = N + m from by rw [HET.out]; exact HLT0.out)
    have HTO2 := Lib.hid (show Sm.allB T2 from by
      rw [hT2]
      intro x hx
      rcases List.mem_append.1 hx with hx | hx
      · exact HH.out.ok x hx
      · exact HBB.out.ok x (List.mem_of_mem_take hx))
    rw [← hT2] at HS2
    have hM4 : Mid w W3 g V2 bl2 (N + m) (some ⟨gb, ob, none⟩) 0 0 B2 := by
      have h0 := HM3.out
      have hB0 : B2 = [] := by rw [hB2]; exact List.drop_eq_nil_of_le (by have := HLen.out; omega)
      exact ⟨h0.row, h0.size, by rw [hB0]; exact ⟨rfl, Nat.le_refl _, fun x hx => by simp at hx, Or.inr ⟨gb, ob, rfl, fun i hi => by simp at hi⟩⟩, fun hb => absurd hB0 hb, h0.grown⟩
    have HM4 := Lib.hid hM4
    have hFl : 0 ≤ 0 := Nat.le_refl _
    clear hM4 HM3 hT2 hB2 hm1 hm2 hcap0 hbs HCPW HBB HR HT
    obtain ⟨U, hU⟩ : ∃ U, U = Sm.blocks (B2.take 0) V2 ((B2.take 0).length / 64) := ⟨_, rfl⟩
    have HA := all_any V2 HVV2.out (B2.take 0) (some ⟨gb, ob, none⟩) 0 0 W3.drew ((HM4.out.bytes.take 0 hFl).heap rfl) (by simp)
    rw [← hU] at HA
    have HAA := Lib.hid HA
    have HU := Lib.hid hU
    clear HA hU
    obtain ⟨a, b, c, d, e, f, h, k⟩ := V2
    have c0 : W3.cell? ⟨g, 0, none⟩ = some (.int .u32 a) := st_cell HM4.out.row 0 (by omega)
    have c1 : W3.cell? ⟨g, 1, none⟩ = some (.int .u32 b) := st_cell HM4.out.row 1 (by omega)
    have c2 : W3.cell? ⟨g, 2, none⟩ = some (.int .u32 c) := st_cell HM4.out.row 2 (by omega)
    have c3 : W3.cell? ⟨g, 3, none⟩ = some (.int .u32 d) := st_cell HM4.out.row 3 (by omega)
    have c4 : W3.cell? ⟨g, 4, none⟩ = some (.int .u32 e) := st_cell HM4.out.row 4 (by omega)
    have c5 : W3.cell? ⟨g, 5, none⟩ = some (.int .u32 f) := st_cell HM4.out.row 5 (by omega)
    have c6 : W3.cell? ⟨g, 6, none⟩ = some (.int .u32 h) := st_cell HM4.out.row 6 (by omega)
    have c7 : W3.cell? ⟨g, 7, none⟩ = some (.int .u32 k) := st_cell HM4.out.row 7 (by omega)
    go_region_law ((go_simp; go_at_call 104; refine HAA.out.mono ?_; rintro _ w5 ⟨rfl, hb4⟩; have m4 := Lib.hid (HM4.out.later (below_of hb4 rfl rfl rfl rfl)); clear hb4; have hst4 := st_store m4.out.row m4.out.size U; have hu8 := size8 U))
    generalize hW5 : w5.setCells g 0 (w32 U.list) = W5
    have m5 := m4.out.words U
    rw [hW5] at m5
    have M5 := Lib.hid m5
    clear hW5 m5 hst4 hu8 m4 c0 c1 c2 c3 c4 c5 c6 c7
    go_wp2_with fail
    have hcp := run_copy_none (P := Tryz.prog) W5.drew 22 22 3 5 (some ⟨g, 8, none⟩) (some ⟨gb, ob, none⟩) 64 64 0 0 A22 E5 (by rfl)
    go_still_tail 7, (by kernel_rfl)
    go_wp2_with fail
    go_end0
    have hfin := Held.next HS2.out HTO2.out M5.out.bytes.ok hl2 M5.out.bytes.size (show 0 = 0 - 0 % 64 from rfl) HU.out M5.out.size HBO2.out
    have e1 : B2.drop 0 = [] := List.drop_eq_nil_of_le (by have := M5.out.bytes.size; omega)
    rw [e1, Nat.sub_self, List.drop_zero, List.nil_append] at hfin
    refine ⟨rfl, ⟨U, bl2, (by rw [← HET.out]; exact hfin), ?_⟩, ?_⟩
    · rw [← HET.out]; have h0 := HLT2.out; (try simp only [List.nil_append] at h0); rw [h0]; exact M5.out.row
    · exact ⟨M5.out.grown.os, M5.out.grown.tape, M5.out.grown.output, M5.out.grown.size, M5.out.grown.block⟩
end Go.Proofs.YtfkpgildeddhaaaGreat

/- The contracts of State.Write (all cases), State.Done, State.Len and Sum. -/
namespace Go.Proofs.YtfkpgildeddhaaaGreat
open Go.RowKit

theorem write_any (T B : List Nat) (g : Nat) (p : Option Addr) (len cap : Nat) (w : World) (hs : StateAt w g T)
    (hB : Bytes w p len cap B) (hn : B ≠ [] → ∀ a, p = some a → a.block ≠ g) (hl : (T ++ B).length < 1152921504606846976) :
    Calls Tryz.prog 87 #[.pointer (some ⟨g, 0, none⟩), .slice p len cap] w fun e w' => e = .returned (.tuple #[]) ∧ StateAt w' g (T ++ B) ∧ w.grownBy w' (some g) := by
  obtain ⟨v, bl, hh, hg⟩ := hs
  by_cases h0 : T = []
  · exact write_a T B g p len cap w h0 v bl hh hg hB hn hl
  · by_cases h1 : T.length % 64 = 0
    · exact write_b T B g p len cap w h0 h1 v bl hh hg hB hn hl
    · by_cases h2 : T.length % 64 + len < 64
      · exact write_c T B g p len cap w _ rfl (by omega) h2 v bl hh hg hB hn hl
      · exact write_d T B g p len cap w _ (64 - T.length % 64) rfl (by omega) (by omega) (by omega) v bl hh hg hB hn hl

theorem U36' : (match Tryz.prog.underlying 127 with | some (.struct _) => true | _ => false) = true := by kernel_rfl
theorem U36 : ∃ fs, Tryz.prog.underlying 127 = some (.struct fs) := by
  have h := U36'
  split at h
  · rename_i fs hfs; exact ⟨fs, hfs⟩
  · cases h
def zero8 : Sm.V8 := ⟨0, 0, 0, 0, 0, 0, 0, 0⟩
theorem Z36 : (Tryz.prog.info? 127).map (fun i => (i.zero, i.size)) = some (some (.agg (stL zero8 (zeros 64) 0).toArray), 73) := by kernel_rfl
/-- The zero State has nothing written. -/
theorem held_zero : Held [] zero8 (zeros 64) :=
  ⟨fun x hx => by simp at hx, ⟨by decide, by decide, by decide, by decide, by decide, by decide, by decide, by decide⟩, by decide, fun h => absurd rfl h, by simp [zeros], zeros_ok 64, by simp⟩
theorem state_zero {w : World} {g : Nat} (h : w.heap[g]? = some (.cells (stL zero8 (zeros 64) 0).toArray 127 (0, 0))) : StateAt w g [] := ⟨_, _, held_zero, h⟩
theorem stL_one (v : Sm.V8) (bl : List Nat) (L : Nat) : ((stL v bl L).toArray).all (·.oneCell') = true :=
  all_oneCell_toArray fun u hu => by
    simp only [stL, List.mem_append, List.mem_singleton] at hu
    rcases hu with (hu | hu) | rfl
    · exact u32_of_w32 _ u hu
    · exact vals_one _ u hu
    · rfl
theorem stL_size (v : Sm.V8) (bl : List Nat) (L : Nat) (h : bl.length = 64) : ((stL v bl L).toArray).size = 73 := by simp [stL_length v bl L h]
theorem StateAt.later {w w' : World} {g : Nat} {T : List Nat} (h : StateAt w g T) (hb : Below w.heap.size w w') : StateAt w' g T := by
  obtain ⟨v, bl, hh, hg⟩ := h
  exact ⟨v, bl, hh, (hb.block _ (Array.getElem?_eq_some_iff.1 hg).1).trans hg⟩
theorem StateAt.lt {w : World} {g : Nat} {T : List Nat} (h : StateAt w g T) : g < w.heap.size := by
  obtain ⟨v, bl, hh, hg⟩ := h
  exact (Array.getElem?_eq_some_iff.1 hg).1
theorem sum_size (B : List Nat) : (u8s (Sm.sum B)).size = 32 := rfl
theorem bytes4_len (v : Sm.V8) : (u8s (Sm.bytesOf v)).size = 32 := rfl
set_option maxRecDepth 100000 in
set_option maxHeartbeats 1000000 in
theorem done_any (T : List Nat) (g : Nat) (w : World) (hs : StateAt w g T) (hl : T.length < 576460752303423488) :
    Calls Tryz.prog 89 #[.pointer (some ⟨g, 0, none⟩)] w fun e w' => e = .returned (.agg (u8s (Sm.sum T))) ∧ Below w.heap.size w w' := by
  have hlt := hs.lt
  obtain ⟨v, bl, hh, hg⟩ := hs
  obtain ⟨fs, hu⟩ := U36
  have hz := (zero_of_info Z25).1
  have hz6 := (zero_of_info Z36).1
  have hg1 : (w.alloc (.cells (u8s (zeros 32)) 37)).heap[g]? = _ := (Below.heap_alloc w _ _ hlt).trans hg
  have hg2 : ((w.alloc (.cells (u8s (zeros 32)) 37)).alloc (.cells (stL v bl T.length).toArray 127)).heap[g]? = _ := (Below.heap_alloc _ _ _ (by simp; omega)).trans hg1
  have hcl : ((w.alloc (.cells (u8s (zeros 32)) 37)).alloc (.cells (stL v bl T.length).toArray 127)).cell? ⟨g, 72, none⟩ = some (.int .u64 (T.length : Nat)) := st_len hg2 hh.size
  have hS2 : StateAt ((w.alloc (.cells (u8s (zeros 32)) 37)).alloc (.cells (stL v bl T.length).toArray 127)) (w.heap.size + 1) T := ⟨v, bl, hh, heap_alloc2_new _ _ _⟩
  have hB2 : Below w.heap.size w ((w.alloc (.cells (u8s (zeros 32)) 37)).alloc (.cells (stL v bl T.length).toArray 127)) := ((Below.refl _ _).alloc (Nat.le_refl _) _).alloc (by simp) _
  have hR2 : ((w.alloc (.cells (u8s (zeros 32)) 37)).alloc (.cells (stL v bl T.length).toArray 127)).heap[w.heap.size]? = some (.cells (u8s (zeros 32)) 37 (0, 0)) := heap_alloc2_old _ _ _
  have HG1 := Lib.hid hg1
  have HS2 := Lib.hid hS2
  have HB2 := Lib.hid hB2
  have HR2 := Lib.hid hR2
  have HU := Lib.hid hu
  have HSZ := Lib.hid hh.size
  clear hu hg1 hg2 hh hg hS2 hB2 hR2
  go_enter Tryz.func89, Tryz.ntmps89
  go_wp2_with (first | (refine wpList_load_row (by rfl) 127 _ (by rfl) g (by rfl) 127 _ (0, 0) _ HG1.out HU.out (by rfl) (by rw [stL_size _ _ _ HSZ.out]; exact A36) ?_) | (refine wpList_store_row (by rfl) 127 _ _ (by rfl) (w.heap.size + 1) _ (by rfl) (by rfl) _ _ (by exact heap_alloc2_new _ _ _) (by rw [stL_size _ _ _ HSZ.out]; exact A36) (by rw [stL_size _ _ _ HSZ.out, stL_size _ _ _ (by simp [zeros])]) (stL_one _ _ _) ?_; rw [setRow_alloc2]))
  refine (filling_any T.length (by omega) _).mono ?_
  rintro _ w3 ⟨len, cap, rfl, hbf, hb3⟩
  rw [show ((w.alloc (.cells (u8s (zeros 32)) 37)).alloc (.cells (stL v bl T.length).toArray 127)).heap.size = w.heap.size + 2 from by simp] at hbf ⊢
  have hfl : (T ++ Sm.fill T.length).length < 1152921504606846976 := by simp [Sm.fill, Sm.bigs]; omega
  have hS3 := HS2.out.later hb3
  have hB3 := HB2.out.trans (hb3.mono HB2.out.size)
  have hR3 := (hb3.block _ (Array.getElem?_eq_some_iff.1 HR2.out).1).trans HR2.out
  have HS3 := Lib.hid hS3
  have HB3 := Lib.hid hB3
  have HR3 := Lib.hid hR3
  have HBF := Lib.hid hbf
  clear hS3 hB3 hR3 hb3 hbf hcl
  go_wp2_with fail
  refine (write_any T (Sm.fill T.length) (w.heap.size + 1) (some ⟨w.heap.size + 2, 0, none⟩) len cap w3 HS3.out HBF.out (fun _ a ha => by cases ha; show w.heap.size + 2 ≠ w.heap.size + 1; omega) hfl).mono ?_
  rintro _ w4 ⟨rfl, ⟨v4, bl4, hh4, hg4⟩, hgr⟩
  have hne : T ++ Sm.fill T.length ≠ [] := by simp [Sm.fill]
  have hlt4 : w.heap.size < w4.heap.size := Nat.lt_of_lt_of_le (Array.getElem?_eq_some_iff.1 HR3.out).1 hgr.size
  have hR4 : w4.heap[w.heap.size]? = _ := (hgr.block _ (Array.getElem?_eq_some_iff.1 HR3.out).1 (by simp)).trans HR3.out
  have hB4 : Below w.heap.size w w4 := ⟨hgr.os.trans HB3.out.os, hgr.tape.trans HB3.out.tape, hgr.output.trans HB3.out.output, Nat.le_trans HB3.out.size hgr.size, fun k hk => (hgr.block k (Nat.lt_of_lt_of_le hk HB3.out.size) (by simp; omega)).trans (HB3.out.block k hk)⟩
  have HV4 := Lib.hid hh4.vok
  have HW4 := Lib.hid (hh4.words hne)
  have HG4 := Lib.hid hg4
  have HR4 := Lib.hid hR4
  have HB4 := Lib.hid hB4
  clear hh4 hg4 hR4 hB4 hgr hne
  go_wp2_with (refine wpList_load_mid (by rfl) 124 _ (by rfl) (w.heap.size + 1) 0 (by rfl) (w32 v4.list) _ (st_words HG4.out) A32 (by rfl) (by exact S32) ?_)
  refine (bytesOf_any v4 HV4.out w4).mono ?_
  rintro _ w5 ⟨rfl, hb5⟩
  have hR5 := (hb5.block _ hlt4).trans HR4.out
  have HR5 := Lib.hid hR5
  have HB5 := Lib.hid (HB4.out.trans (hb5.mono HB4.out.size))
  clear hR5 hb5
  go_wp2_with (refine wpList_store_row (by rfl) 37 _ _ (by rfl) w.heap.size (u8s (Sm.bytesOf v4)) (by rfl) (by rfl) _ _ HR5.out (by rw [bytes4_len]; exact S25) (by rw [bytes4_len]; simp [u8s, zeros]) (u8s_one _) ?_)
  refine ret_row 2 (by kernel_rfl) w.heap.size _ _ A25 S25 rfl (setRow_heap _ _ _ _ _ _ HR5.out) (bytes4_len v4) ⟨?_, Below.setRow HB5.out (Nat.le_refl _) _⟩
  rw [HW4.out]
  rfl
end Go.Proofs.YtfkpgildeddhaaaGreat

/- The contract of sha.Hash. -/
namespace Go.Proofs.YtfkpgildeddhaaaGreat
open Go.RowKit

def HashRel (w : World) (tag len : Nat) (L : List (List Nat)) (i : Value) (wr : World) : Prop :=
  ∃ k : Nat, k ≤ len ∧ i = .int .i64 k ∧ StateAt wr (w.heap.size + 1) (pre tag (L.take k)) ∧ wr.heap[w.heap.size]? = some (.cells (u8s (zeros 32)) 37 (0, 0)) ∧ Below w.heap.size w wr
set_option maxRecDepth 100000 in
set_option maxHeartbeats 1000000 in
theorem hash_any (tag : Nat) (htag : tag < 256) (L : List (List Nat)) (p : Option Addr) (len cap : Nat) (w : World) (hL : Texts w p len cap L) (hl : tot L < 1099511627776) :
    Calls Tryz.prog 69 #[.int .u8 tag, .slice p len cap] w fun e w' => e = .returned (.agg (u8s (Sm.sum (pre tag L)))) ∧ Below w.heap.size w w' := by
  have hsz := hL.size
  have hle := hL.le
  have hlen : len < 1099511627776 := by have := len_le_tot L; omega
  have hz := (zero_of_info Z25).1
  have hz6 := (zero_of_info Z36).1
  have h59 := (zero_of_info Z59).1
  have HL := Lib.hid hL
  have HSZ := Lib.hid hsz
  clear hL hsz
  have hB2 : Below w.heap.size w ((w.alloc (.cells (u8s (zeros 32)) 37)).alloc (.cells (stL zero8 (zeros 64) 0).toArray 127)) := ((Below.refl _ _).alloc (Nat.le_refl _) _).alloc (by simp) _
  have hS2 : StateAt ((w.alloc (.cells (u8s (zeros 32)) 37)).alloc (.cells (stL zero8 (zeros 64) 0).toArray 127)) (w.heap.size + 1) [] := state_zero (heap_alloc2_new _ _ _)
  have hR2 : ((w.alloc (.cells (u8s (zeros 32)) 37)).alloc (.cells (stL zero8 (zeros 64) 0).toArray 127)).heap[w.heap.size]? = some (.cells (u8s (zeros 32)) 37 (0, 0)) := heap_alloc2_old _ _ _
  have HB2 := Lib.hid hB2
  have HS2 := Lib.hid hS2
  have HR2 := Lib.hid hR2
  clear hB2 hS2 hR2
  go_enter Tryz.func69, Tryz.ntmps69
  go_wp2_with fail
  generalize hWW : (w.alloc (.cells (u8s (zeros 32)) 37)).alloc (.cells (stL zero8 (zeros 64) 0).toArray 127) = WW
  have hsz2 : WW.heap.size = w.heap.size + 1 + 1 := by subst hWW; simp
  rw [hWW] at HB2 HS2 HR2
  have hs3 : StateAt (WW.alloc (.cells #[.int .u8 tag] 5)) (w.heap.size + 1) [] := HS2.out.later ((Below.refl _ _).alloc (Nat.le_refl _) _)
  have hb3 : Bytes (WW.alloc (.cells #[.int .u8 tag] 5)) (some ⟨w.heap.size + 1 + 1, 0, none⟩) 1 1 [tag] := by
    rw [← hsz2]
    exact Bytes.row (L := [tag]) (heap_alloc_new WW _) (by intro x hx; simp at hx; omega)
  have hB3 : Below w.heap.size w (WW.alloc (.cells #[.int .u8 tag] 5)) := HB2.out.alloc HB2.out.size _
  have hR3 : (WW.alloc (.cells #[.int .u8 tag] 5)).heap[w.heap.size]? = some (.cells (u8s (zeros 32)) 37 (0, 0)) := (Below.heap_alloc _ _ _ (by omega)).trans HR2.out
  refine (write_any [] [tag] (w.heap.size + 1) _ 1 1 _ hs3 hb3 (fun _ a ha => by cases ha; show w.heap.size + 1 + 1 ≠ w.heap.size + 1; omega) (by simp)).mono ?_
  rintro _ w4 ⟨rfl, hs4, hg4⟩
  have HB4 := Lib.hid (grown_below hB3 hg4 (by omega))
  have HR4 := Lib.hid ((hg4.block _ (Array.getElem?_eq_some_iff.1 hR3).1 (by simp)).trans hR3)
  have HS4 := Lib.hid hs4
  clear hs3 hb3 hB3 hR3 hs4 hg4 hWW hsz2 HB2 HS2 HR2
  go_wp2_with fail
  go_loopw [14] (fun i wr => HashRel w tag len L i wr) (fun i _ => len - (intOf i).toNat)
  case atStart => exact ⟨0, by omega, rfl, HS4.out, HR4.out, HB4.out⟩
  case round =>
    obtain ⟨k, hk, rfl, hs, hr, hb⟩ := hrel
    have HS := Lib.hid hs
    have HR := Lib.hid hr
    have HB := Lib.hid hb
    clear hs hr hb HB4 HR4 HS4
    by_cases hlt : k < len
    · obtain ⟨g, o, hp, hx⟩ := HL.out.at' (by intro e; have := HSZ.out; rw [e] at this; simp at this; omega)
      obtain ⟨q, n, c, h1, h2⟩ := hx k (by have := HSZ.out; omega)
      subst hp
      have e1 := tot_step L k (by have := HSZ.out; omega)
      have e2 := tot_take_le L (k + 1)
      have e3 : n = (L.getD k []).length := h2.size
      have hbk : ∀ a, q = some a → L.getD k [] ≠ [] → a.block < w.heap.size := fun a ha hn => by
        subst ha
        have := h2.cells 0 _ (vals_get _ 0 (List.length_pos_iff.2 hn))
        exact block_lt_of_cell this
      have hcell : wr.cell? ⟨g, o + k, none⟩ = some (.slice q n c) := (HB.out.cell (p := ⟨g, o + k, none⟩) (block_lt_of_cell h1)).trans h1
      have HT := Lib.hid h2
      have HBK := Lib.hid hbk
      have HE := Lib.hid (show tot (L.take k) + (8 + n) < 1099511627776 from by omega)
      have HE3 := Lib.hid e3
      have hn : n < 1099511627776 := by omega
      clear hx h1 h2 hbk e1 e2 e3
      go_wp2_with fail
      refine (bigEnd_any n (by omega) _).mono ?_
      rintro _ w3 ⟨rfl, hb3⟩
      have hs3 : StateAt (w3.alloc (.cells (u8s (Sm.bigs n)) 129)) (w.heap.size + 1) (pre tag (L.take k)) := (HS.out.later hb3).later ((Below.refl _ _).alloc (Nat.le_refl _) _)
      have hB3 : Below w.heap.size w (w3.alloc (.cells (u8s (Sm.bigs n)) 129)) := (HB.out.trans (hb3.mono HB.out.size)).alloc (Nat.le_trans HB.out.size hb3.size) _
      have hr3 := (hb3.block _ (Array.getElem?_eq_some_iff.1 HR.out).1).trans HR.out
      have hR3 : (w3.alloc (.cells (u8s (Sm.bigs n)) 129)).heap[w.heap.size]? = some (.cells (u8s (zeros 32)) 37 (0, 0)) := (Below.heap_alloc _ _ _ (Array.getElem?_eq_some_iff.1 hr3).1).trans hr3
      have hgs : w.heap.size + 1 < w3.heap.size := Nat.lt_of_lt_of_le HS.out.lt hb3.size
      have HS3 := Lib.hid hs3
      have HB3 := Lib.hid hB3
      have HR3 := Lib.hid hR3
      have HGS := Lib.hid hgs
      have HY3 := Lib.hid (Bytes.row (L := Sm.bigs n) (heap_alloc_new w3 (.cells (u8s (Sm.bigs n)) 129)) (bigs_all n))
      clear hs3 hB3 hR3 hr3 hgs hb3
      go_wp2_with (refine wpList_store_row (by rfl) 129 _ _ (by rfl) w3.heap.size (u8s (Sm.bigs n)) (by rfl) (by rfl) _ _ (heap_alloc_new _ _) (by exact S59) (by simp [u8s, zeros]; rfl) (u8s_one _) ?_; rw [setRow_alloc])
      refine (write_any (pre tag (L.take k)) (Sm.bigs n) (w.heap.size + 1) _ 8 8 _ HS3.out HY3.out (fun _ a ha => by cases ha; have := HGS.out; show w3.heap.size ≠ w.heap.size + 1; omega) (by have := HE.out; simp only [List.length_append, pre_length, Sm.bigs, List.length_cons, List.length_nil]; omega)).mono ?_
      rintro _ w5 ⟨rfl, hs5, hg5⟩
      have HB5 := Lib.hid (grown_below HB3.out hg5 (by omega))
      have HR5 := Lib.hid ((hg5.block _ (Array.getElem?_eq_some_iff.1 HR3.out).1 (by simp)).trans HR3.out)
      have HS5 := Lib.hid hs5
      clear hs5 hg5
      go_wp2_with fail
      refine (write_any (pre tag (L.take k) ++ Sm.bigs n) (L.getD k []) (w.heap.size + 1) q n c _ HS5.out (HT.out.later HB5.out).bytes (fun hne a ha => by have := HBK.out a ha hne; omega) (by have := HE.out; have := HE3.out; simp only [List.length_append, pre_length, Sm.bigs, List.length_cons, List.length_nil]; omega)).mono ?_
      rintro _ w6 ⟨rfl, hs6, hg6⟩
      have HB6 := Lib.hid (grown_below HB5.out hg6 (by omega))
      have HR6 := Lib.hid ((hg6.block _ (Array.getElem?_eq_some_iff.1 HR5.out).1 (by simp)).trans HR5.out)
      have HS6 := Lib.hid hs6
      clear hs6 hg6
      go_wp2_with fail
      go_roundw
      case rel =>
        refine ⟨k + 1, by omega, by go_num, ?_, HR6.out, HB6.out⟩
        have e := HS6.out
        rw [pre_step tag L k (by have := HSZ.out; omega), tpart, ← HE3.out, ← List.append_assoc]
        exact e
      case measure => simp [intOf]; omega
    · obtain rfl : k = len := by omega
      have hT : pre tag (L.take k) = pre tag L := by rw [List.take_of_length_le (by have := HSZ.out; omega)]
      rw [hT] at HS
      clear hT
      go_wp2_with fail
      refine (done_any (pre tag L) _ _ HS.out (by rw [pre_length]; omega)).mono ?_
      rintro _ w5 ⟨rfl, hb5⟩
      have HR5 := Lib.hid ((hb5.block _ (Array.getElem?_eq_some_iff.1 HR.out).1).trans HR.out)
      have HB5 := Lib.hid (HB.out.trans (hb5.mono HB.out.size))
      clear hb5
      go_wp2_with (refine wpList_store_row (by rfl) 37 _ _ (by rfl) w.heap.size (u8s (Sm.sum (pre tag L))) (by rfl) (by rfl) _ _ HR5.out (by rw [sum_size]; exact S25) (by rw [sum_size]; simp [u8s, zeros]) (u8s_one _) ?_)
      exact ret_row 4 (by kernel_rfl) w.heap.size _ _ A25 S25 rfl (setRow_heap _ _ _ _ _ _ HR5.out) (sum_size _) ⟨rfl, Below.setRow HB5.out (Nat.le_refl _) _⟩
end Go.Proofs.YtfkpgildeddhaaaGreat

/- Package page, as it landed: Sum. -/
namespace Go.Proofs.YtfkpgildeddhaaaGreat.Pg
open Go.RowKit

set_option maxRecDepth 100000 in
set_option maxHeartbeats 1000000 in
theorem sum_any' (b : List Nat) (p : Option Addr) (n c : Nat) (w : World) (hT : Tx w p n c b) (hn : n ≤ 100000) :
    Calls Tryz.prog 44 #[.slice p n c] w fun e w' => e = .returned (.agg (u8s (sumOf b))) ∧ Below w.heap.size w w' := by
  have hz := (zero_of_info Z25).1
  have h0 := (Below.refl w.heap.size w).alloc (Nat.le_refl _) (.cells (u8s (zeros 32)) 37)
  have hb := (Below.refl (w.alloc (.cells (u8s (zeros 32)) 37)).heap.size (w.alloc (.cells (u8s (zeros 32)) 37))).alloc (Nat.le_refl _) (.cells #[.slice p n c] 22)
  have TX := Lib.hid (one_text (heap_alloc_new (w.alloc (.cells (u8s (zeros 32)) 37)) (.cells #[.slice p n c] 22)) ((hT.later h0).later hb))
  have B1 := Lib.hid (h0.trans (hb.mono h0.size))
  have HR := Lib.hid ((heap_alloc_old (w.alloc (.cells (u8s (zeros 32)) 37)) (.cells #[.slice p n c] 22) (Array.getElem?_eq_some_iff.1 (heap_alloc_new w (.cells (u8s (zeros 32)) 37))).1).trans (heap_alloc_new w (.cells (u8s (zeros 32)) 37)))
  have HL := Lib.hid hT.size
  clear hT hb h0
  go_enter Tryz.func44, Tryz.ntmps44
  go_wp2_with fail
  rw [show (w.alloc (.cells (u8s (zeros 32)) 37)).heap.size = w.heap.size + 1 from by simp] at TX
  generalize (w.alloc (.cells (u8s (zeros 32)) 37)).alloc (.cells #[.slice p n c] 22) = w1 at *
  refine (hash_any 80 (by omega) [b] _ 1 1 w1 TX.out (by have := HL.out; rw [tot_one]; omega)).mono ?_
  rintro e w3 ⟨rfl, b3⟩
  have B3 := Lib.hid (B1.out.trans (b3.mono B1.out.size))
  have R3 := Lib.hid ((b3.block _ (Array.getElem?_eq_some_iff.1 HR.out).1).trans HR.out)
  obtain ⟨D, hD⟩ : ∃ D, D = sumOf b := ⟨_, rfl⟩
  rw [show Sm.sum (pre 80 [b]) = D from hD.symm]
  have HDH := Lib.hid (show D.length = 32 from by rw [hD]; rfl)
  have HDE := Lib.hid hD
  clear b3 hD
  go_wp2_with (refine wpList_store_row (by rfl) 37 _ _ (by rfl) w.heap.size (u8s D) (by rfl) (by rfl) _ _ R3.out (by rw [u8s_size, HDH.out]; exact S25) (by rw [u8s_size, u8s_size, HDH.out]; rfl) (u8s_one _) ?_)
  exact ret_row 2 (by kernel_rfl) w.heap.size _ _ A25 S25 rfl (setRow_heap _ _ _ _ _ _ R3.out) (by rw [u8s_size]; exact HDH.out) ⟨by rw [HDE.out], Below.setRow B3.out (Nat.le_refl _) _⟩
end Go.Proofs.YtfkpgildeddhaaaGreat.Pg
