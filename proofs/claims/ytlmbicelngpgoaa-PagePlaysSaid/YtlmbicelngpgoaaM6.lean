/- ShaRefWith, ShaRefSum, PgRefSum, GenTexts, PgOps, PgPut, PgKeep, CodCmpFn. -/
import Derived.Test.YtlmbicelngpgoaaM5
import Derived.OpenShut
import Derived.Deep.Slices
import Derived.Maps.AppendAt
import Derived.Laws.OwnMore
import Derived.Great.BuildSlice
import Derived.IntWalk
import Derived.Lib.MinMax
/- The contracts of indentureref01.With and Sum. -/
namespace Go.Proofs.Ytlmbicelngpgoaa
open Go.RowKit

theorem fill_take (n j : Nat) (hj : j < 8) : (Sm.bigs n).getD j 0 = n / 2 ^ (56 - 8 * j) % 256 := by
  match j, hj with
  | 0, _ => rfl
  | 1, _ => rfl
  | 2, _ => rfl
  | 3, _ => rfl
  | 4, _ => rfl
  | 5, _ => rfl
  | 6, _ => rfl
  | 7, _ => rfl
theorem fill_ok' (n : Nat) : ∀ x ∈ Sm.bigs n, x < 256 := by
  intro x hx
  simp only [Sm.bigs, List.mem_cons, List.not_mem_nil, or_false] at hx
  rcases hx with rfl | rfl | rfl | rfl | rfl | rfl | rfl | rfl <;> exact Sm.big_lt _ _
/-- How many zeros stand between the mark and the length. -/
def pad (n : Nat) : Nat := (119 - n % 64) % 64
theorem full_eq (T : List Nat) : Sm.full T = T ++ 128 :: (zeros (pad T.length) ++ Sm.bigs (8 * T.length)) := rfl
theorem full_len (T : List Nat) : (Sm.full T).length = T.length + 1 + pad T.length + 8 := by
  rw [full_eq, List.length_append, List.length_cons, List.length_append]
  simp [zeros, Sm.bigs]
  omega
theorem full_mod (T : List Nat) : (Sm.full T).length % 64 = 0 := by
  rw [full_len]; unfold pad; omega
def zs (T : List Nat) (k : Nat) : List Nat := T ++ 128 :: zeros k
theorem zs_succ (T : List Nat) (k : Nat) : zs T (k + 1) = zs T k ++ [0] := by
  unfold zs zeros
  rw [List.replicate_succ', List.append_assoc, List.cons_append]
theorem zs_ok {T : List Nat} (h : Sm.allB T) (k : Nat) : Sm.allB (zs T k) := fun x hx => by
  unfold zs at hx
  simp only [List.mem_append, List.mem_cons] at hx
  rcases hx with hx | rfl | hx
  · exact h x hx
  · omega
  · exact zeros_ok k x hx
theorem bigs_ok (n : Nat) : Sm.allB (Sm.bigs n) := fun x hx => fill_ok' n x hx
theorem full_zs (T : List Nat) : Sm.full T = zs T (pad T.length) ++ Sm.bigs (8 * T.length) := by
  rw [full_eq]
  unfold zs
  rw [List.append_assoc, List.cons_append]
theorem full_ok {T : List Nat} (h : Sm.allB T) : Sm.allB (Sm.full T) := fun x hx => by
  rw [full_zs] at hx
  rcases List.mem_append.1 hx with hx | hx
  · exact zs_ok h _ x hx
  · exact bigs_ok _ x hx
def W1Rel (w : World) (T : List Nat) (m : Nat) (s : Value) (wr : World) : Prop :=
  ∃ (k : Nat) (q : Option Addr) (d : Nat), k ≤ m ∧ s = .slice q (T.length + 1 + k) d ∧ wr.ownsRow w.heap.size 5 1 (.slice q (T.length + 1 + k) d) (T.length + 1 + k) (vals (zs T k)) ∧ Below w.heap.size w wr
theorem sl_of_owns {w : World} {base n : Nat} {v : Value} {xs : List Value} (h : w.ownsRow base 5 1 v n xs) : ∃ q c, v = .slice q n c := by
  rcases h.2 with ⟨rfl, rfl⟩ | ⟨g, cap, cur, rfl, _⟩
  · exact ⟨_, _, rfl⟩
  · exact ⟨_, _, rfl⟩
theorem owns_at {w : World} {base n : Nat} {v : Value} {B : List Nat} (h : w.ownsRow base 5 1 v n (vals B)) (hB : Sm.allB B) (h0 : 0 < n) : ∃ g c, v = .slice (some ⟨g, 0, none⟩) n c ∧ n ≤ c ∧ n = B.length ∧ bytesAt w g 0 B := by
  obtain ⟨q, c, rfl, hb⟩ := owns_form h hB
  have hl := hb.size
  obtain ⟨g, o, hp, hx⟩ := hb.ne (by rintro rfl; simp at hl; omega)
  rcases h.2 with ⟨hv, _⟩ | ⟨g', cap, cur, hv, _, _, hle, _⟩
  · cases hv; omega
  · simp only [Value.slice.injEq] at hv
    obtain ⟨hq, -, rfl⟩ := hv
    rw [hp] at hq
    simp only [Option.some.injEq, Addr.mk.injEq] at hq
    obtain ⟨rfl, rfl, -⟩ := hq
    exact ⟨g, c, by rw [hp], hle, hl, hx⟩
def B3Rel (w : World) (F : List Nat) (M : Nat) (h i : Value) (wr : World) : Prop :=
  ∃ k g : Nat, k ≤ M ∧ i = .int .i64 (64 * k : Nat) ∧ h = .slice (some ⟨g, 0, none⟩) 8 8 ∧ wr.heap[g]? = some (.cells (u32s (Sm.blocks F Sm.first k).list) 84 (0, 0)) ∧ Below w.heap.size w wr
theorem bytes_at (V : Sm.V8) (a r : Nat) (ha : a < 8) (hr : r < 4) : (Sm.bytesOf V).getD (4 * a + r) 0 = V.list.getD a 0 / 2 ^ (24 - 8 * r) % 256 :=
  match a, ha, r, hr with
  | 0, _, 0, _ => rfl
  | 0, _, 1, _ => rfl
  | 0, _, 2, _ => rfl
  | 0, _, 3, _ => (congrArg (· % 256) (Nat.div_one _)).symm
  | 1, _, 0, _ => rfl
  | 1, _, 1, _ => rfl
  | 1, _, 2, _ => rfl
  | 1, _, 3, _ => (congrArg (· % 256) (Nat.div_one _)).symm
  | 2, _, 0, _ => rfl
  | 2, _, 1, _ => rfl
  | 2, _, 2, _ => rfl
  | 2, _, 3, _ => (congrArg (· % 256) (Nat.div_one _)).symm
  | 3, _, 0, _ => rfl
  | 3, _, 1, _ => rfl
  | 3, _, 2, _ => rfl
  | 3, _, 3, _ => (congrArg (· % 256) (Nat.div_one _)).symm
  | 4, _, 0, _ => rfl
  | 4, _, 1, _ => rfl
  | 4, _, 2, _ => rfl
  | 4, _, 3, _ => (congrArg (· % 256) (Nat.div_one _)).symm
  | 5, _, 0, _ => rfl
  | 5, _, 1, _ => rfl
  | 5, _, 2, _ => rfl
  | 5, _, 3, _ => (congrArg (· % 256) (Nat.div_one _)).symm
  | 6, _, 0, _ => rfl
  | 6, _, 1, _ => rfl
  | 6, _, 2, _ => rfl
  | 6, _, 3, _ => (congrArg (· % 256) (Nat.div_one _)).symm
  | 7, _, 0, _ => rfl
  | 7, _, 1, _ => rfl
  | 7, _, 2, _ => rfl
  | 7, _, 3, _ => (congrArg (· % 256) (Nat.div_one _)).symm
def B4Rel (w : World) (V : Sm.V8) (i : Value) (wr : World) : Prop :=
  ∃ k : Nat, k ≤ 32 ∧ i = .int .i64 k ∧ wr.heap[w.heap.size]? = some (.cells (u8s ((Sm.bytesOf V).take k ++ zeros (32 - k))) 32 (0, 0)) ∧ Below w.heap.size w wr
def lenV : Value → Nat
  | .slice _ n _ => n
  | _ => 0
set_option maxRecDepth 100000 in
set_option maxHeartbeats 4000000 in
theorem with_any (T : List Nat) (p : Option Addr) (n c gk : Nat) (w : World) (hT : Tx w p n c T) (hl : T.length < 1000000) (hk : w.heap[gk]? = some (.cells (u32s Sm.ks) 84 (0, 0))) :
    Calls Try.prog 35 #[.slice p n c, .slice (some ⟨gk, 0, none⟩) 64 64] w fun e w' => e = .returned (.agg (u8s (Sm.sum T))) ∧ Below w.heap.size w w' := by
  have HT := Lib.hid hT
  have HN := Lib.hid hT.size
  have HK := Lib.hid hk
  have HZ := Lib.hid (zero_of_info Z25).1
  have hz := (zero_of_info Z25).1
  have hnl : n < 1000000 := by rw [HN.out]; exact hl
  clear hT hk
  obtain ⟨i5, hi, hi0, hi1, hi2⟩ := info_parts I5
  have HI := Lib.hid hi
  have HI0 := Lib.hid hi0
  have HI1 := Lib.hid hi1
  have HI2 := Lib.hid hi2
  clear hi hi0 hi1 hi2
  go_enter Try.func35, Try.ntmps35
  go_upto_region 1 with fail
  generalize hW0 : w.alloc (.cells (u8s (zeros 32)) 32) = W0
  obtain ⟨gd, hgd⟩ : ∃ gd, gd = w.heap.size := ⟨_, rfl⟩
  rw [← hgd]
  have HG0 := Lib.hid (show W0.heap[gd]? = some (.cells (u8s (zeros 32)) 32 (0, 0)) from by rw [hgd, ← hW0]; exact heap_alloc_new w _)
  have HS0 := Lib.hid (show W0.heap.size = gd + 1 from by rw [hgd, ← hW0]; simp)
  have hb0 : Below w.heap.size w W0 := by rw [← hW0]; exact (Below.refl _ _).alloc (Nat.le_refl _) _
  have HT0 := Lib.hid (HT.out.later hb0)
  have HK0 := Lib.hid (show W0.heap[gk]? = some (.cells (u32s Sm.ks) 84 (0, 0)) from (hb0.block gk (Array.getElem?_eq_some_iff.1 HK.out).1).trans HK.out)
  have HB0 := Lib.hid hb0
  have HGD := Lib.hid hgd
  clear hb0 HT HK hW0 hgd hz
  obtain ⟨z, hz⟩ : ∃ z, z = T.length := ⟨_, rfl⟩
  have hnz : n = z := by rw [HN.out, hz]
  subst hnz
  go_cut [5] (fun s wx => ∃ q d, s = .slice q (n + 1) d ∧ wx.ownsRow W0.heap.size 5 1 (.slice q (n + 1) d) (n + 1) (vals (T ++ [128])) ∧ Below W0.heap.size W0 wx)
  case first =>
    have hE : (W0.alloc (.cells #[] 5)).ownsRow W0.heap.size 5 1 (.slice (some ⟨W0.heap.size, 0, none⟩) 0 0) 0 (vals ([] : List Nat)) := owns_mk (L := []) (heap_alloc_new W0 _) rfl (Nat.le_refl _) (by unfold maxLen; omega) (Nat.le_refl _)
    have HE := Lib.hid hE
    have HEB := Lib.hid (show Below W0.heap.size W0 (W0.alloc (.cells #[] 5)) from (Below.refl _ _).alloc (Nat.le_refl _) _)
    clear hE
    have HZZ := Lib.hid hz
    clear hz
    rcases HT0.out.at' with ⟨hp, hc⟩ | ⟨x, hp, _⟩
    · subst hp
      subst hc
      obtain rfl : n = 0 := by have := HT0.out.le; omega
      have HA0 := Lib.hid (show T = [] from List.length_eq_zero_iff.1 HZZ.out.symm)
      have HNW := Lib.hid (show ((W0.alloc (.cells #[] 5)).alloc (.cells (u8s [128]) 5)).heap[W0.heap.size + 1]? = some (.cells (u8s [128]) 5 (0, 0)) from by
        have := heap_alloc_new (W0.alloc (.cells #[] 5)) (.cells (u8s [128]) 5)
        rw [show (W0.alloc (.cells #[] 5)).heap.size = W0.heap.size + 1 from by simp] at this
        exact this)
      go_wp2_with (at_builtin; first | (refine wpList_append_own_none (by rfl) (.tmp 12) (.tmp 13) 27 (by rfl) W0.heap.size 5 i5 1 A22 HI.out _ 0 _ (by rfl) HE.out (by rfl) ?_) | (refine wpList_append_own _ (by rfl) (.tmp 14) (.tmp 15) 27 (by rfl) W0.heap.size 5 i5 (.int .u8 0) 1 1 A22 HI.out HI0.out HI1.out HI2.out (by rfl) (by decide) _ 0 [] (by rfl) (HE.out.alloc _) ⟨W0.heap.size + 1, 0, none⟩ 1 1 (vals [128]) (by rfl) (by rfl) (cells_of_row (L := [128]) HNW.out) (vals_one _) (by unfold maxLen; omega) (by omega) (by simp; omega) ?_; intro v4 w4 hown4 hgrow4 _; obtain ⟨q4, d4, hv4⟩ := sl_of_owns hown4; have HO4 := Lib.hid hown4; have HG4 := Lib.hid hgrow4; have HV4 := Lib.hid hv4; rw [hv4]; clear hown4 hgrow4 hv4))
      go_meet
      refine ⟨q4, d4, rfl, ?_, (HEB.out.alloc (by simp) (.cells (u8s [128]) 5)).grown HG4.out (by simp; omega) (fun k hk => by simp [Value.ownBlock] at hk; omega)⟩
      have ho := HO4.out
      rw [HV4.out] at ho
      rw [HA0.out]
      exact ho
    · subst hp
      go_wp2_with (at_builtin; first | (refine wpList_append_own _ (by rfl) (.tmp 12) (.tmp 13) 27 (by rfl) W0.heap.size 5 i5 (.int .u8 0) 1 1 A22 HI.out HI0.out HI1.out HI2.out (by rfl) (by decide) _ 0 [] (by rfl) HE.out x n c (vals T) (by rfl) (by rw [vals_length, Nat.mul_one]; exact HZZ.out.symm) ((HT0.out.later HEB.out).cells) (vals_one _) (by unfold maxLen; omega) (by omega) (by simp) ?_; intro v3 w3 hown3 hgrow3 _; rw [Nat.zero_add, List.nil_append] at hown3; have HO3 := Lib.hid hown3; have HB3 := Lib.hid (HEB.out.grown hgrow3 (by simp) (fun k hk => by simp [Value.ownBlock] at hk; omega)); clear hown3 hgrow3) | (refine wpList_append_own _ (by rfl) (.tmp 14) (.tmp 15) 27 (by rfl) W0.heap.size 5 i5 (.int .u8 0) 1 1 A22 HI.out HI0.out HI1.out HI2.out (by rfl) (by decide) _ n (vals T) (by rfl) (HO3.out.alloc _) ⟨w3.heap.size, 0, none⟩ 1 1 (vals [128]) (by rfl) (by rfl) (cells_of_row (L := [128]) (heap_alloc_new w3 _)) (vals_one _) (by unfold maxLen; omega) (by omega) (by have := HB3.out.size; simp; omega) ?_; intro v4 w4 hown4 hgrow4 _; obtain ⟨q4, d4, hv4⟩ := sl_of_owns hown4; have HO4 := Lib.hid hown4; have HG4 := Lib.hid hgrow4; have HV4 := Lib.hid hv4; rw [hv4]; clear hown4 hgrow4 hv4))
      go_meet
      refine ⟨q4, d4, rfl, ?_, (HB3.out.alloc HB3.out.size (.cells (u8s [128]) 5)).grown HG4.out (by have := HB3.out.size; simp; omega) (fun k hk => ((HO3.out.alloc (.cells (u8s [128]) 5)).lt k hk).1)⟩
      have ho := HO4.out
      rw [HV4.out, ← vals_append] at ho
      exact ho
  case rest =>
  obtain ⟨q1, d1, rfl, ho1, hb1⟩ := hcut
  obtain ⟨w1, hw1⟩ : ∃ w1, w1 = wc := ⟨_, rfl⟩
  rw [← hw1] at ho1 hb1 ⊢
  clear hw1
  have HST := Lib.hid (show W1Rel W0 T (pad n) (.slice q1 (n + 1) d1) w1 from ⟨0, q1, d1, by omega, by rw [← hz], by rw [← hz]; exact ho1, hb1⟩)
  have HZZ := Lib.hid hz
  clear ho1 hb1 hz
  obtain ⟨m, hm⟩ : ∃ m, m = pad n := ⟨_, rfl⟩
  rw [← hm] at HST
  have hm64 : m < 64 := by rw [hm]; unfold pad; omega
  have hmm : (n + 1 + m) % 64 = 56 := by rw [hm]; unfold pad; omega
  have HM := Lib.hid hm
  clear hm
  go_wp2_with fail
  go_loopw [5] (fun s wr => W1Rel W0 T m s wr) (fun s _ => m - (lenV s - n - 1))
  case atStart => exact HST.out
  case round =>
    obtain ⟨k, q, d, hkm, rfl, ho, hb⟩ := hrel
    rw [← HZZ.out] at ho ⊢
    clear HST
    have HO := Lib.hid ho
    have HB := Lib.hid hb
    clear ho hb
    obtain ⟨L, hL⟩ : ∃ L, L = n + 1 + k := ⟨_, rfl⟩
    rw [← hL] at HO ⊢
    by_cases hlt : k < m
    · have hne : ((L : Int) % 64 != 56) = true := by simp; omega
      have hLl : L < 1000100 := by omega
      have HL := Lib.hid hL
      clear hL
      go_wp2_with (at_builtin; refine wpList_append_own _ (by rfl) (.tmp 21) (.tmp 22) 27 (by rfl) W0.heap.size 5 i5 (.int .u8 0) 1 1 A22 HI.out HI0.out HI1.out HI2.out (by rfl) (by decide) _ L _ (by rfl) (HO.out.alloc _) ⟨wr.heap.size, 0, none⟩ 1 1 (vals [0]) (by rfl) (by rfl) (cells_of_row (L := [0]) (heap_alloc_new wr _)) (vals_one _) (by unfold maxLen; omega) (by omega) (by have := HB.out.size; simp; omega) ?_; intro v4 w4 hown4 hgrow4 _; obtain ⟨q4, d4, hv4⟩ := sl_of_owns hown4; have HO4 := Lib.hid hown4; have HG4 := Lib.hid hgrow4; have HV4 := Lib.hid hv4; rw [hv4]; clear hown4 hgrow4 hv4)
      go_roundw
      case rel =>
        have ho := HO4.out
        rw [HV4.out, ← vals_append, ← zs_succ] at ho
        have hLL : L + 1 = T.length + 1 + (k + 1) := by rw [← HZZ.out, HL.out]; omega
        rw [hLL] at ho
        exact ⟨k + 1, q4, d4, by omega, by rw [hLL], ho, (HB.out.alloc HB.out.size _).grown HG4.out (by have := HB.out.size; simp; omega) (fun i hi => ((HO.out.alloc (.cells (u8s [0]) 5)).lt i hi).1)⟩
      case measure => have := HL.out; simp [lenV]; omega
    · obtain rfl : m = k := by omega
      have hne : ((L : Int) % 64 != 56) = false := by simp; omega
      have hLl : L < 1000100 := by omega
      have HL := Lib.hid hL
      clear hL
      go_wp2_with fail
      rw [show (8 * (n : Int)) = ((8 * n : Nat) : Int) from by omega]
      obtain ⟨N, hN⟩ : ∃ N, N = 8 * n := ⟨_, rfl⟩
      rw [← hN]
      have hNl : N < 10000000 := by omega
      have hst2 : RefRel W0 L (zs T m) N (.slice q L d) (.int .i64 0) wr := ⟨0, by omega, rfl, by rw [List.take_zero, List.append_nil]; exact HO.out, HB.out⟩
      have HST2 := Lib.hid hst2
      have HNN := Lib.hid hN
      clear hst2 hN hne
      go_loopw [5, 7] (fun v i wr' => RefRel W0 L (zs T m) N v i wr') (fun _ i _ => 8 - (intOf i).toNat)
      case atStart => exact HST2.out
      case round =>
        obtain ⟨j, hj, rfl, ho2, hb2⟩ := hrel
        have HO2 := Lib.hid ho2
        have HB2 := Lib.hid hb2
        clear ho2 hb2 HST2
        by_cases hj8 : j < 8
        · obtain ⟨y, hy⟩ : ∃ y, y = N / 2 ^ (56 - 8 * j) := ⟨_, rfl⟩
          have hsh : (N : Int) / 2 ^ (56 - 8 * j) = (y : Int) := by rw [hy, Int.natCast_ediv, Int.natCast_pow]; rfl
          have HYY := Lib.hid hy
          clear hy
          go_wp2_with (at_builtin; refine wpList_append_own _ (by rfl) (.tmp 32) (.tmp 41) 27 (by rfl) W0.heap.size 5 i5 (.int .u8 0) 1 1 A22 HI.out HI0.out HI1.out HI2.out (by rfl) (by decide) _ (L + j) _ (by rfl) (HO2.out.alloc _) ⟨wr.heap.size, 0, none⟩ 1 1 (vals [y % 256]) (by rfl) (by rfl) (cells_of_row (L := [y % 256]) (heap_alloc_new wr _)) (vals_one _) (by unfold maxLen; omega) (by omega) (by have := HB2.out.size; simp; omega) ?_; intro v4 w4 hown4 hgrow4 _)
          have hb4 : Below W0.heap.size W0 w4 := (HB2.out.alloc HB2.out.size _).grown hgrow4 (by have := HB2.out.size; simp; omega) (fun i hi => ((HO2.out.alloc (.cells (u8s [y % 256]) 5)).lt i hi).1)
          have e : w4.ownsRow W0.heap.size 5 1 v4 (L + (j + 1)) (vals (zs T m ++ (Sm.bigs N).take (j + 1))) := by
            rw [bigs_step N j hj8, ← List.append_assoc, vals_append _ [Sm.big N j], big_at N j hj8, ← HYY.out]
            exact hown4
          have HE := Lib.hid e
          have HB4 := Lib.hid hb4
          clear hown4 hgrow4 e hb4
          go_wp2_with fail
          go_roundw
          case rel => exact ⟨j + 1, by omega, by go_num, HE.out, HB4.out⟩
          case measure => simp [intOf]; omega
        · obtain rfl : j = 8 := by omega
          rw [show ((8 : Nat) : Int) = (8 : Int) from rfl]
          have ho8 := HO2.out
          rw [show (Sm.bigs N).take 8 = Sm.bigs N from rfl, HNN.out, HZZ.out, HM.out, HZZ.out, ← full_zs] at ho8
          obtain ⟨gb, cb, rfl, hcb, hfl, hba⟩ := owns_at ho8 (full_ok HT0.out.ok) (by omega)
          have hf0 := full_mod T
          obtain ⟨F, hF⟩ : ∃ F, F = Sm.full T := ⟨_, rfl⟩
          rw [← hF] at hfl hba hf0
          obtain ⟨S, hS⟩ : ∃ S, S = L + 8 := ⟨_, rfl⟩
          rw [← hS] at hfl hcb ⊢
          have hSl : S < 1000200 := by omega
          rw [← hfl] at hf0
          obtain ⟨M, hM⟩ : ∃ M, S = 64 * M := ⟨S / 64, by omega⟩
          have HFL := Lib.hid hfl
          have HBA := Lib.hid hba
          have HF := Lib.hid hF
          have HFO := Lib.hid (show Sm.allB F from by rw [hF]; exact full_ok HT0.out.ok)
          have HMM := Lib.hid hM
          have HSS := Lib.hid hS
          have HCB := Lib.hid hcb
          clear hfl hba hF ho8 hf0 hM hS hcb HO2 HNN HO HL
          go_wp2_with fail
          obtain ⟨w2, hw2⟩ : ∃ w2, w2 = wr.alloc (.cells (u32s Sm.first.list) 84) := ⟨_, rfl⟩
          rw [show wr.alloc (.cells #[.int .u32 1779033703, .int .u32 3144134277, .int .u32 1013904242, .int .u32 2773480762, .int .u32 1359893119, .int .u32 2600822924, .int .u32 528734635, .int .u32 1541459225] 84) = w2 from by rw [hw2]; rfl]
          have hb2 : Below W0.heap.size W0 w2 := by rw [hw2]; exact HB2.out.alloc HB2.out.size _
          have hwb : Below wr.heap.size wr w2 := by rw [hw2]; exact (Below.refl _ _).alloc (Nat.le_refl _) _
          have hgbl : gb < wr.heap.size := by
            have := HBA.out 0 (by rw [← HFL.out, HSS.out]; omega)
            exact block_lt_of_cell this
          have HBA2 := Lib.hid (show bytesAt w2 gb 0 F from fun i hi => (hwb.cell (p := ⟨gb, 0 + i, none⟩) hgbl).trans (HBA.out i hi))
          have HGB := Lib.hid (Nat.lt_of_lt_of_le hgbl hwb.size)
          have HB2' := Lib.hid hb2
          have HK2 := Lib.hid (show w2.heap[gk]? = some (.cells (u32s Sm.ks) 84 (0, 0)) from (hb2.block gk (Array.getElem?_eq_some_iff.1 HK0.out).1).trans HK0.out)
          have HG2 := Lib.hid (show w2.heap[gd]? = some (.cells (u8s (zeros 32)) 32 (0, 0)) from (hb2.block gd (Array.getElem?_eq_some_iff.1 HG0.out).1).trans HG0.out)
          have hst3 : B3Rel w2 F M (.slice (some ⟨wr.heap.size, 0, none⟩) 8 8) (.int .i64 0) w2 := ⟨0, wr.heap.size, by omega, rfl, rfl, by rw [hw2]; exact heap_alloc_new wr _, Below.refl _ _⟩
          have HST3 := Lib.hid hst3
          clear hb2 hwb hgbl hst3 hw2 HB2 HBA
          go_loopw [8, 9] (fun h i wr => B3Rel w2 F M h i wr) (fun _ i _ => 64 * M - (intOf i).toNat)
          case atStart => exact HST3.out
          case round =>
            obtain ⟨k, g, hkM, rfl, rfl, hrow, hb⟩ := hrel
            have HR := Lib.hid hrow
            have HB := Lib.hid hb
            clear HST3 hrow hb
            obtain ⟨I, hI⟩ : ∃ I, I = 64 * k := ⟨_, rfl⟩
            rw [← hI]
            have HII := Lib.hid hI
            by_cases hlt : k < M
            · have hIS : I + 64 ≤ S := by have := HMM.out; omega
              have hIc : I + 64 ≤ cb := by have := HCB.out; omega
              clear hI
              go_wp2_with fail
              obtain ⟨V, hV⟩ : ∃ V, V = Sm.blocks F Sm.first k := ⟨_, rfl⟩
              have hVo : V.ok := by rw [hV]; exact Sm.blocks_ok Sm.first_ok k
              have hr := HR.out
              rw [← hV] at hr
              have hgr : g < wr.heap.size := (Array.getElem?_eq_some_iff.1 hr).1
              have hba : bytesAt wr gb I (F.drop I) := fun i hi => by
                have := (HBA2.out.drop I) i hi
                rw [Nat.zero_add] at this
                exact (HB.out.cell (p := ⟨gb, I + i, none⟩) HGB.out).trans this
              have hkk : wr.heap[gk]? = some (.cells (u32s Sm.ks) 84 (0, 0)) := (HB.out.block gk (Array.getElem?_eq_some_iff.1 HK2.out).1).trans HK2.out
              refine (refturn_any V hVo (F.drop I) Sm.ks (Sm.allB_drop HFO.out I) Sm.ks_ok (by rw [List.length_drop, ← HFL.out]; omega) rfl g gb I (cb - I) gk (by omega) wr hr hba hkk).mono ?_
              rintro e w5 ⟨g5, rfl, hr5, hg5, hb5⟩
              have HR5 := Lib.hid hr5
              have HB5 := Lib.hid hb5
              have HV := Lib.hid hV
              clear hr5 hb5 hV hr hba hkk
              go_wp2_with fail
              go_roundw
              case rel =>
                refine ⟨k + 1, g5, by omega, by rw [show (((64 * (k + 1) : Nat) : Int)) = (I : Int) + 64 from by have := HII.out; omega], rfl, ?_, HB.out.trans (HB5.out.mono HB.out.size)⟩
                rw [Sm.blocks, ← HV.out, ← HII.out]
                exact HR5.out
              case measure => have := HII.out; have := HMM.out; simp [intOf]; omega
            · have hIS : I = S := by have := HMM.out; omega
              clear hI
              have hz := HZ.out
              go_wp2_with fail
              obtain ⟨w3, hw3⟩ : ∃ w3, w3 = wr := ⟨_, rfl⟩
              rw [← hw3] at HR HB ⊢
              obtain ⟨V, hV⟩ : ∃ V, V = Sm.blocks F Sm.first k := ⟨_, rfl⟩
              have hVo : V.ok := by rw [hV]; exact Sm.blocks_ok Sm.first_ok k
              have hr := HR.out
              rw [← hV] at hr
              have hsum : Sm.bytesOf V = Sm.sum T := by
                rw [hV, Sm.sum, ← HF.out, ← HFL.out, HMM.out, Nat.mul_div_cancel_left M (by omega), show k = M from by omega]
              have HR3 := Lib.hid hr
              have HGR := Lib.hid (Array.getElem?_eq_some_iff.1 hr).1
              have HVO := Lib.hid hVo
              have HSUM := Lib.hid hsum
              have hst4 : B4Rel w3 V (.int .i64 0) (w3.alloc (.cells (u8s (zeros 32)) 32)) := ⟨0, by omega, rfl, heap_alloc_new w3 _, (Below.refl _ _).alloc (Nat.le_refl _) _⟩
              have HST4 := Lib.hid hst4
              clear hw3 hV hr hVo hsum hst4 hz HR
              go_loopw [11] (fun i wr => B4Rel w3 V i wr) (fun i _ => 32 - (intOf i).toNat)
              case atStart => exact HST4.out
              case round =>
                obtain ⟨k4, hk4, rfl, hrow, hb4⟩ := hrel
                have HR4 := Lib.hid hrow
                have HB4 := Lib.hid hb4
                clear hrow hb4 HST4
                by_cases hlt4 : k4 < 32
                · obtain ⟨a, ha⟩ : ∃ a, a = k4 / 4 := ⟨_, rfl⟩
                  obtain ⟨r, hr⟩ : ∃ r, r = k4 % 4 := ⟨_, rfl⟩
                  have hqa : (k4 : Int) / 4 = (a : Int) := by omega
                  have hqr : (k4 : Int) % 4 = (r : Int) := by omega
                  have ha8 : a < 8 := by omega
                  have hr4 : r < 4 := by omega
                  have hbk := bytes_at V a r ha8 hr4
                  rw [show 4 * a + r = k4 from by omega] at hbk
                  have cx : wr.cell? ⟨g, a, none⟩ = some (.int .u32 (V.list.getD a 0 : Nat)) := (HB4.out.cell (p := ⟨g, a, none⟩) HGR.out).trans (u32s_cell HR3.out a ha8)
                  have bx : V.list.getD a 0 < 4294967296 := v8_lt HVO.out a
                  obtain ⟨x, hx⟩ : ∃ x, x = V.list.getD a 0 := ⟨_, rfl⟩
                  rw [← hx] at cx bx hbk
                  obtain ⟨y, hy⟩ : ∃ y, y = x / 2 ^ (24 - 8 * r) := ⟨_, rfl⟩
                  have hsh : (x : Int) / 2 ^ (24 - 8 * r) = (y : Int) := by rw [hy, Int.natCast_ediv, Int.natCast_pow]; rfl
                  rw [← hy] at hbk
                  have htk : ((Sm.bytesOf V).take k4).length = k4 := by rw [List.length_take]; exact Nat.min_eq_left (Nat.le_of_lt hlt4)
                  have hrw := HR4.out
                  rw [show 32 - k4 = (32 - (k4 + 1)) + 1 from by omega, zeros_succ (Nat.succ_pos _), Nat.succ_sub_one] at hrw
                  have ck : wr.cell? ⟨w3.heap.size, k4, none⟩ = some (.int .u8 (((Sm.bytesOf V).take k4 ++ 0 :: zeros (32 - (k4 + 1))).getD k4 0 : Nat)) := u8s_cell hrw k4 (by rw [List.length_append, htk]; simp)
                  have fk : wr.frozen? ⟨w3.heap.size, k4, none⟩ = false := frozen_of_row wr _ k4 _ _ hrw
                  have hsucc : (Sm.bytesOf V).take (k4 + 1) = (Sm.bytesOf V).take k4 ++ [y % 256] := by
                    rw [List.take_succ_eq_append_getElem (show k4 < (Sm.bytesOf V).length from hlt4), ← hbk, List.getD_eq_getElem?_getD, List.getElem?_eq_getElem (show k4 < (Sm.bytesOf V).length from hlt4)]; rfl
                  have HRW := Lib.hid hrw
                  have HTK := Lib.hid htk
                  have HSU := Lib.hid hsucc
                  have k0 : (0 : Int) ≤ k4 := by omega
                  clear hx hy ha hr hbk htk hrw hsucc HR4
                  go_wp2_with fail
                  go_roundw
                  case rel =>
                    refine ⟨k4 + 1, by omega, by go_num, ?_, HB4.out.setCell (Nat.le_refl _) _⟩
                    rw [show (y : Int) % 256 = ((y % 256 : Nat) : Int) from by omega, heap_setCell_same _ _ _ _ _ _ HRW.out, u8s_set _ _ _ _ k4 HTK.out, HSU.out, List.append_assoc]
                    rfl
                  case measure => simp [intOf]; omega
                · obtain rfl : k4 = 32 := by omega
                  have hrow : wr.heap[w3.heap.size]? = some (.cells (u8s (Sm.bytesOf V)) 32 (0, 0)) := HR4.out
                  have HR5 := Lib.hid hrow
                  have hg3 : gd < w3.heap.size := Nat.lt_of_lt_of_le (Array.getElem?_eq_some_iff.1 HG2.out).1 HB.out.size
                  have HC := Lib.hid (show wr.heap[gd]? = some (.cells (u8s (zeros 32)) 32 (0, 0)) from (HB4.out.block gd hg3).trans ((HB.out.block gd (Array.getElem?_eq_some_iff.1 HG2.out).1).trans HG2.out))
                  have hbw : Below w.heap.size w wr := by
                    have h3 : Below W0.heap.size W0 w3 := HB2'.out.trans (HB.out.mono HB2'.out.size)
                    have h4 : Below W0.heap.size W0 wr := h3.trans (HB4.out.mono h3.size)
                    exact HB0.out.trans (h4.mono HB0.out.size)
                  have HBW := Lib.hid hbw
                  clear hrow hg3 hbw HR4
                  go_wp2_with (first | (refine wpList_load_row (by rfl) 32 _ (by rfl) w3.heap.size (by rfl) 32 _ (0, 0) _ HR5.out A25 (by rfl) (by exact S25) ?_) | (refine wpList_store_row (by rfl) 32 _ _ (by rfl) gd (u8s (Sm.bytesOf V)) (by rfl) (by rfl) _ _ HC.out (by exact S25) (by rfl) (u8s_one _) ?_))
                  refine ret_row 4 (by kernel_rfl) gd _ _ A25 S25 rfl (setRow_heap _ _ _ _ _ _ HC.out) rfl ⟨by rw [← HSUM.out], ?_⟩
                  exact Below.setRow HBW.out (by rw [HGD.out]; exact Nat.le_refl _) _
end Go.Proofs.Ytlmbicelngpgoaa

/- The contract of indentureref01.Sum. -/
namespace Go.Proofs.Ytlmbicelngpgoaa
open Go.RowKit

set_option maxRecDepth 100000 in
set_option maxHeartbeats 1000000 in
theorem refsum_any (T : List Nat) (p : Option Addr) (n c : Nat) (w : World) (hT : Tx w p n c T) (hl : T.length < 1000000) :
    Calls Try.prog 23 #[.slice p n c] w fun e w' => e = .returned (.agg (u8s (Sm.sum T))) ∧ Below w.heap.size w w' := by
  have hz := (zero_of_info Z25).1
  have HT := Lib.hid hT
  clear hT
  go_enter Try.func23, Try.ntmps23
  go_wp2_with fail
  have hb0 : Below w.heap.size w (w.alloc (.cells (u8s (zeros 32)) 32)) := (Below.refl _ _).alloc (Nat.le_refl _) _
  have hg0 := heap_alloc_new w (.cells (u8s (zeros 32)) 32)
  generalize hW0 : w.alloc (.cells (u8s (zeros 32)) 32) = W0 at hb0 hg0 ⊢
  have HT0 := Lib.hid (HT.out.later hb0)
  have HB0 := Lib.hid hb0
  have HG0 := Lib.hid hg0
  clear hW0 hb0 hg0 HT hz
  refine (words_any W0).mono ?_
  rintro _ w1 ⟨rfl, rfl⟩
  have hb1 : Below W0.heap.size W0 (W0.alloc (.cells (u32s Sm.ks) 84)) := (Below.refl _ _).alloc (Nat.le_refl _) _
  have hg1 := heap_alloc_new W0 (.cells (u32s Sm.ks) 84)
  obtain ⟨w1, hw1⟩ : ∃ w1, w1 = W0.alloc (.cells (u32s Sm.ks) 84) := ⟨_, rfl⟩
  rw [← hw1] at hb1 hg1 ⊢
  have HT1 := Lib.hid (HT0.out.later hb1)
  have HB1 := Lib.hid (HB0.out.trans (hb1.mono HB0.out.size))
  have HG1 := Lib.hid ((hb1.block _ (Array.getElem?_eq_some_iff.1 HG0.out).1).trans HG0.out)
  have HK1 := Lib.hid hg1
  clear hw1 hb1 hg1 HT0
  go_wp2_with fail
  refine (with_any T p n c W0.heap.size w1 HT1.out hl HK1.out).mono ?_
  rintro _ w2 ⟨rfl, hb2⟩
  have HB2 := Lib.hid (HB1.out.trans (hb2.mono HB1.out.size))
  have HG2 := Lib.hid ((hb2.block _ (Array.getElem?_eq_some_iff.1 HG1.out).1).trans HG1.out)
  clear hb2 HT1 HK1
  go_wp2_with (refine wpList_store_row (by rfl) 32 _ _ (by rfl) w.heap.size (u8s (Sm.sum T)) (by rfl) (by rfl) _ _ HG2.out (by exact S25) (by rfl) (u8s_one _) ?_)
  refine ret_row 2 (by kernel_rfl) w.heap.size _ _ A25 S25 rfl (setRow_heap _ _ _ _ _ _ HG2.out) rfl ⟨rfl, ?_⟩
  exact Below.setRow HB2.out (Nat.le_refl _) _
end Go.Proofs.Ytlmbicelngpgoaa

/- The reference's sum of a page. -/
namespace Go.Proofs.Ytlmbicelngpgoaa.Pg
open Go.RowKit

set_option maxRecDepth 100000 in
set_option maxHeartbeats 1000000 in
theorem rsum_any (b : List Nat) (p : Option Addr) (n c : Nat) (w : World) (hT : Tx w p n c b) (hn : n ≤ 100000) :
    Calls Try.prog 8 #[.slice p n c] w fun e w' => e = .returned (.agg (u8s (sumOf b))) ∧ Below w.heap.size w w' := by
  have HT := Lib.hid hT
  have hz := (zero_of_info Z25).1
  have h0 := (Below.refl w.heap.size w).alloc (Nat.le_refl _) (.cells (u8s (zeros 32)) 32)
  have hb := (Below.refl (w.alloc (.cells (u8s (zeros 32)) 32)).heap.size (w.alloc (.cells (u8s (zeros 32)) 32))).alloc (Nat.le_refl _) (.cells #[.slice p n c] 27)
  have TX := Lib.hid (one_text (heap_alloc_new (w.alloc (.cells (u8s (zeros 32)) 32)) (.cells #[.slice p n c] 27)) ((hT.later h0).later hb))
  have B1 := Lib.hid (h0.trans (hb.mono h0.size))
  have HR := Lib.hid ((heap_alloc_old (w.alloc (.cells (u8s (zeros 32)) 32)) (.cells #[.slice p n c] 27) (Array.getElem?_eq_some_iff.1 (heap_alloc_new w (.cells (u8s (zeros 32)) 32))).1).trans (heap_alloc_new w (.cells (u8s (zeros 32)) 32)))
  have HL := Lib.hid hT.size
  have HPL := Lib.hid (show (pre 80 [b]).length < 1000000 from by have := hT.size; rw [pre_one]; omega)
  clear hT hb h0
  go_enter Try.func8, Try.ntmps8
  go_wp2_with fail
  rw [show (w.alloc (.cells (u8s (zeros 32)) 32)).heap.size = w.heap.size + 1 from by simp] at TX
  generalize (w.alloc (.cells (u8s (zeros 32)) 32)).alloc (.cells #[.slice p n c] 27) = w1 at *
  refine (refpre_any 80 (by omega) [b] _ 1 1 w1 TX.out (by have := HL.out; rw [tot_one]; omega)).mono ?_
  rintro e w2 ⟨q, m, d, rfl, o2, b2⟩
  have T2 := Lib.hid (tx_of_owns o2 (pre_ok 80 (by omega) (fun x hx => by rw [List.mem_singleton.1 hx]; exact HT.out.ok)))
  have B2 := Lib.hid (B1.out.trans (b2.mono B1.out.size))
  have R2 := Lib.hid ((b2.block _ (Array.getElem?_eq_some_iff.1 HR.out).1).trans HR.out)
  clear o2 b2
  go_wp2_with fail
  refine (refsum_any (pre 80 [b]) q m d w2 T2.out HPL.out).mono ?_
  rintro e w3 ⟨rfl, b3⟩
  have B3 := Lib.hid (B2.out.trans (b3.mono B2.out.size))
  have R3 := Lib.hid ((b3.block _ (Array.getElem?_eq_some_iff.1 R2.out).1).trans R2.out)
  obtain ⟨D, hD⟩ : ∃ D, D = sumOf b := ⟨_, rfl⟩
  rw [show Sm.sum (pre 80 [b]) = D from hD.symm]
  have HDH := Lib.hid (show D.length = 32 from by rw [hD]; rfl)
  have HDE := Lib.hid hD
  clear b3 hD
  go_wp2_with (refine wpList_store_row (by rfl) 32 _ _ (by rfl) w.heap.size (u8s D) (by rfl) (by rfl) _ _ R3.out (by rw [u8s_size, HDH.out]; exact S25) (by rw [u8s_size, u8s_size, HDH.out]; rfl) (u8s_one _) ?_)
  exact ret_row 2 (by kernel_rfl) w.heap.size _ _ A25 S25 rfl (setRow_heap _ _ _ _ _ _ R3.out) (by rw [u8s_size]; exact HDH.out) ⟨by rw [HDE.out], Below.setRow B3.out (Nat.le_refl _) _⟩
end Go.Proofs.Ytlmbicelngpgoaa.Pg

/- An argument that is a list of texts, opened. -/
namespace Go.Proofs.Ytlmbicelngpgoaa
open Go.ChangeShapes Go.WideShapes Go.ChangeAt Go.RowKit Go.Deep

/-- A list of texts, as the reading has it. -/
theorem open_texts {H : Type} {enc : TypeId × Value → H} {W : World} {base : Nat} {held : Bool} {fuel : Nat} {a0 : Option Addr} {len0 cap0 : Nat} {x : DataW H × List MemPlace}
    (h : DataW.trod enc Try.prog W base (fun _ => true) held fuel 28 (Value.slice a0 len0 cap0).cells.toList = some x) : (∃ L, Texts W a0 len0 cap0 L) ∧ len0 ≤ 9223372036854775807 := by
  rcases open_int_rows Try.underlying28 Try.underlying27 Try.underlying5 C22 C5 h with ⟨hcs, _⟩ | ⟨a, len, cap, A, L, C, Z, hcs, _, hl, hm, _, hx⟩
  · simp [Value.cells] at hcs
    obtain ⟨rfl, rfl, rfl⟩ := hcs
    exact ⟨⟨[], rfl, Nat.le_refl _, fun h => absurd rfl h⟩, by omega⟩
  · simp [Value.cells] at hcs
    obtain ⟨rfl, rfl, rfl⟩ := hcs
    refine ⟨⟨(List.range len0).map fun r => nats (Z r) (L r), by simp, hl, fun hn => ?_⟩, by unfold maxLen at hm; omega⟩
    have hp : 0 < len0 := by
      rcases Nat.eq_zero_or_pos len0 with h0 | h0
      · subst h0; exact absurd rfl hn
      · exact h0
    obtain ⟨g, o, spot⟩ := a
    have hspot : spot = none := by simpa [Addr.add] using World.cell?_spot (hx 0 (by omega)).1
    subst hspot
    refine ⟨g, o, rfl, fun i hi => ?_⟩
    have hi' : i < len0 := by simpa using hi
    obtain ⟨h1, h2, h3, h4, h5, h6, h7⟩ := hx i (by omega)
    refine ⟨A i, L i, C i, by rw [← Addr.add_mid]; exact h1, ?_⟩
    have e : ((List.range len0).map fun r => nats (Z r) (L r)).getD i [] = nats (Z i) (L i) := by
      simp [List.getD_eq_getElem?_getD, hi']
    rw [e]
    refine ⟨by simp [nats]; omega, h2, nats_ok h5 _, ?_, fun x hx hc => World.cell?_spot ((h7 x hx).2 0 hc)⟩
    cases hA : A i with
    | none => exact Or.inl ⟨rfl, h6 hA⟩
    | some a' =>
      refine Or.inr ⟨a', rfl, fun j u hu => ?_⟩
      obtain ⟨hj, rfl⟩ := nats_get h5 (L i) j (by omega) u hu
      exact (h7 a' hA).2 j (by omega)
end Go.Proofs.Ytlmbicelngpgoaa

/- An argument that is a list of Ops, opened. -/
namespace Go.Proofs.Ytlmbicelngpgoaa.Pg
open Go.ChangeShapes Go.WideShapes Go.ChangeAt Go.RowKit Go.Deep

/-- One Op, as it lies in memory: Kind, B, L. -/
structure Op where
  kind : Nat
  bp : Option Addr
  (bn bc : Nat)
  B : List Nat
  lp : Option Addr
  (ln lc : Nat)
  L : List (List Nat)
def Op.cells (t : Op) : List Value := [.int .u8 t.kind, .slice t.bp t.bn t.bc, .slice t.lp t.ln t.lc]
structure Op.Ok (w : World) (t : Op) : Prop where
  k : t.kind < 256
  b : Tx w t.bp t.bn t.bc t.B
  bl : t.bn ≤ 9223372036854775807
  l : Texts w t.lp t.ln t.lc t.L
  ll : t.ln ≤ 9223372036854775807
def fieldsOf : Option TypeDesc → Option (List (Nat × TypeId))
  | some (.struct fs) => some (fs.toList.map fun f => (f.offset, f.type))
  | _ => none
theorem field_at {fs : Array Field} {l : List (Nat × TypeId)} (h : fs.toList.map (fun f => (f.offset, f.type)) = l) {i o : Nat} {t : TypeId} (hi : l[i]? = some (o, t)) : ∃ f, fs[i]? = some f ∧ f.offset = o ∧ f.type = t := by
  subst h
  rw [List.getElem?_map, Option.map_eq_some_iff] at hi
  obtain ⟨f, hf, he⟩ := hi
  simp only [Prod.mk.injEq] at he
  exact ⟨f, by rw [← Array.getElem?_toList]; exact hf, he.1, he.2⟩
theorem PF : fieldsOf (Try.prog.underlying 30) = some [(0, 5), (1, 27), (2, 28)] := by kernel_rfl
theorem CP : Try.prog.cellsOf 30 = 3 := by kernel_rfl
theorem CK : Try.prog.cellsOf 5 = 1 := by kernel_rfl
theorem CT : Try.prog.cellsOf 28 = 1 := by kernel_rfl
theorem UPS : Try.prog.underlying 22 = some (.slice 30) := by kernel_rfl
section
variable {H : Type} {enc : TypeId × Value → H} {W : World} {base : Nat} {held : Bool} {fuel : Nat} {cs : List Value} {x : DataW H × List MemPlace}
theorem cells_bytes (h : DataW.trod enc Try.prog W base (fun _ => true) held fuel 27 cs = some x) : ∃ p n c B, cs = [.slice p n c] ∧ Tx W p n c B ∧ n ≤ 9223372036854775807 := by
  have h0 := h
  rcases open_ints Try.underlying27 Try.underlying5 C5 h with ⟨hcs, _⟩ | ⟨a, len, cap, zs, hcs, _⟩
  · rw [hcs] at h0
    obtain ⟨⟨B, hB⟩, hl⟩ := open_bytes (a0 := none) (len0 := 0) (cap0 := 0) h0
    exact ⟨_, _, _, B, hcs, hB, hl⟩
  · rw [hcs] at h0
    obtain ⟨⟨B, hB⟩, hl⟩ := open_bytes (a0 := some a) (len0 := len) (cap0 := cap) h0
    exact ⟨_, _, _, B, hcs, hB, hl⟩
theorem cells_texts (h : DataW.trod enc Try.prog W base (fun _ => true) held fuel 28 cs = some x) : ∃ p n c L, cs = [.slice p n c] ∧ Texts W p n c L ∧ n ≤ 9223372036854775807 := by
  have h0 := h
  rcases open_int_rows Try.underlying28 Try.underlying27 Try.underlying5 C22 C5 h with ⟨hcs, _⟩ | ⟨a, len, cap, _, _, _, _, hcs, _⟩
  · rw [hcs] at h0
    obtain ⟨⟨B, hB⟩, hl⟩ := open_texts (a0 := none) (len0 := 0) (cap0 := 0) h0
    exact ⟨_, _, _, B, hcs, hB, hl⟩
  · rw [hcs] at h0
    obtain ⟨⟨B, hB⟩, hl⟩ := open_texts (a0 := some a) (len0 := len) (cap0 := cap) h0
    exact ⟨_, _, _, B, hcs, hB, hl⟩
theorem cells_op (h : DataW.trod enc Try.prog W base (fun _ => true) held fuel 30 cs = some x) : ∃ t : Op, cs = t.cells ∧ t.Ok W := by
  have hp := PF
  unfold fieldsOf at hp
  split at hp
  case h_2 => cases hp
  case h_1 fs hu =>
  simp only [Option.some.injEq] at hp
  obtain ⟨xs, n, _, _, hlen, hxs, hf⟩ := DataW.trod_struct hu h
  rw [CP] at hlen
  have get : ∀ (i o : Nat) (t : TypeId), ([(0, 5), (1, 27), (2, 28)] : List (Nat × TypeId))[i]? = some (o, t) →
      ∃ y, DataW.trod enc Try.prog W base (fun _ => true) held n t ((cs.drop o).take (Try.prog.cellsOf t)) = some y := fun i o t hi => by
    obtain ⟨f, h1, h2, h3⟩ := field_at hp hi
    have h4 := hf i f h1
    rw [h2, h3] at h4
    have hlt : i < xs.length := by rw [hxs]; exact (Array.getElem?_eq_some_iff.1 h1).1
    exact ⟨xs[i], by rw [h4, List.getElem?_eq_getElem hlt]⟩
  obtain ⟨y0, h0⟩ := get 0 0 _ rfl
  obtain ⟨y1, h1⟩ := get 1 1 _ rfl
  obtain ⟨y2, h2⟩ := get 2 2 _ rfl
  rw [CK] at h0
  rw [C22] at h1
  rw [CT] at h2
  obtain ⟨a0, e0, _, w0⟩ := DataW.trod_int U5 h0
  obtain ⟨bp, bn, bc, B, e1, hB, hBl⟩ := cells_bytes h1
  obtain ⟨lp, ln, lc, L, e2, hL, hLl⟩ := cells_texts h2
  have cut : ∀ o n, cs.drop o = (cs.drop o).take n ++ cs.drop (o + n) := fun o n => by
    rw [← List.drop_drop]; exact (List.take_append_drop n _).symm
  have hk := bounds_u8 w0
  obtain ⟨m0, rfl⟩ : ∃ m : Nat, a0 = m := ⟨a0.toNat, by omega⟩
  have hall : cs = [.int .u8 (m0 : Int)] ++ ([.slice bp bn bc] ++ ([.slice lp ln lc] ++ [])) := by
    have := cut 0 1
    rw [List.drop_zero] at this
    rw [List.drop_zero] at e0
    rw [this, e0, cut 1 1, e1, cut 2 1, e2, List.drop_eq_nil_of_le (by omega)]
  have hm0 : m0 < 256 := by omega
  exact ⟨⟨m0, bp, bn, bc, B, lp, ln, lc, L⟩, hall, ⟨hm0, hB, hBl, hL, hLl⟩⟩
end
instance : Inhabited Op := ⟨⟨0, none, 0, 0, [], none, 0, 0, []⟩⟩
/-- A list of Ops that lies in memory. -/
structure Ops (w : World) (p : Option Addr) (len cap : Nat) (L : List Op) : Prop where
  size : len = L.length
  le : len ≤ cap
  at' : len ≠ 0 → ∃ g o, p = some ⟨g, o, none⟩ ∧ ∀ i, i < len → w.rangeAt g (o + i * 3) (L.getD i default).cells ∧ (L.getD i default).Ok w
theorem open_ops {H : Type} {enc : TypeId × Value → H} {W : World} {base : Nat} {held : Bool} {fuel : Nat} {a0 : Option Addr} {len0 cap0 : Nat} {x : DataW H × List MemPlace}
    (h : DataW.trod enc Try.prog W base (fun _ => true) held fuel 22 (Value.slice a0 len0 cap0).cells.toList = some x) : (∃ L, Ops W a0 len0 cap0 L) ∧ len0 ≤ 9223372036854775807 := by
  rcases open_slice UPS h with ⟨hcs, _⟩ | ⟨a, len, cap, m, n, Dd, Pl, hcs, _, hl, hm, hmm, _, hx⟩
  · simp [Value.cells] at hcs
    obtain ⟨rfl, rfl, rfl⟩ := hcs
    exact ⟨⟨[], rfl, Nat.le_refl _, fun h => absurd rfl h⟩, by omega⟩
  · simp [Value.cells] at hcs
    obtain ⟨rfl, rfl, rfl⟩ := hcs
    simp only [if_true] at hmm
    rw [CP] at hx
    obtain ⟨V, hV⟩ := choose_lt (α := Op) (n := len0) (p := fun i t => W.cells? base (a.add (i * 3)) 3 = some t.cells ∧ t.Ok W) (fun i hi => by
      obtain ⟨cs', h1, h2⟩ := hx i (by omega)
      obtain ⟨t, rfl, ht⟩ := cells_op h2
      exact ⟨t, h1, ht⟩)
    refine ⟨⟨(List.range len0).map V, by simp, hl, fun hn => ?_⟩, by unfold maxLen at hm; omega⟩
    obtain ⟨g, o, spot⟩ := a
    have hspot : spot = none := by
      have h0 := (World.cells?_some (hV 0 (by omega)).1).2.2 0 (by omega)
      have := World.cell?_spot (h0.trans rfl)
      simpa [Addr.add] using this
    subst hspot
    refine ⟨g, o, rfl, fun i hi => ?_⟩
    have e : ((List.range len0).map V).getD i default = V i := by simp [List.getD_eq_getElem?_getD, hi]
    rw [e]
    refine ⟨fun j v hv => ?_, (hV i hi).2⟩
    obtain ⟨_, hlen, hc⟩ := World.cells?_some (hV i hi).1
    have hj : j < 3 := by rw [← hlen]; exact (List.getElem?_eq_some_iff.1 hv).1
    have := hc j hj
    have ap : ∀ b o n : Nat, (⟨b, o, none⟩ : Addr).add n = ⟨b, o + n, none⟩ := fun b o n => by unfold Addr.add; split <;> simp_all
    rw [hv, ap, ap] at this
    exact this
end Go.Proofs.Ytlmbicelngpgoaa.Pg

/- The reference's Put. -/
namespace Go.Proofs.Ytlmbicelngpgoaa.Pg
open Go.RowKit

theorem op_buildP {P : Program} {ρ : Operand → Value} {o : Oper} {t : TypeId} {parts : Array (Nat × Operand)} {cells : Array Value} (ho : o.op = .build t parts) (h : P.built t (parts.map fun (i, x) => (i, ρ x)).toList = some cells) (w : World) : (execOp ρ o).run P w = .ok (.value (.agg cells)) w := by
  unfold execOp
  simp only [ho, Sem.run_bind, run_build w t _ cells h, Result.andThen_ok, Sem.run_pure]
theorem page_built (q : Option Addr) (m c : Nat) : ∀ (D : List Nat), D.length = 32 → Try.prog.built 40 [(0, .agg (u8s D)), (1, .slice q m c)] = some ((vals D ++ [Value.slice q m c]).toArray)
  | [a0, a1, a2, a3, a4, a5, a6, a7, a8, a9, a10, a11, a12, a13, a14, a15, a16, a17, a18, a19, a20, a21, a22, a23, a24, a25, a26, a27, a28, a29, a30, a31], _ => by kernel_rfl
theorem UPG : Try.prog.underlying 26 = some (.slice 40) := by kernel_rfl
theorem IPG : (Try.prog.info? 40).map (fun i => (i.zero, i.size, i.bytes)) = some (some (.agg (vals (zeros 32) ++ [Value.slice none 0 0]).toArray), 33, 56) := by kernel_rfl
theorem wp_append_at {P : Program} {w : World} {o : Oper} {a : Act} {K : Act → World → Prop} {Q : Exit → Act → World → Prop} (s x : Operand) (t : TypeId)
    (ho : o.op = .call { callee := .builtin .append, args := #[s, x], argTypes := #[t, t] })
    (base : Nat) (e : TypeId) (i : TypeInfo) (z : Value) (size bytes : Nat) (ht : P.underlying t = some (.slice e)) (hi : P.info? e = some i) (hz : i.zero = some z)
    (hsize : i.size = size) (hby : i.bytes = bytes) (hzs : z.cells.size = size) (hsz : 0 < size)
    (v : Value) (n : Nat) (xs : List Value) (hs : a.eval s = v) (hown : w.ownsRow base e size v n xs)
    (ad : Addr) (m c : Nat) (news : List Value) (hx : a.eval x = .slice (some ad) m c) (hl : news.length = m * size) (hnews : ∀ j u, news[j]? = some u → w.cell? (ad.add j) = some u) (h1 : ∀ u ∈ news, u.oneCell' = true)
    (h63 : n + m ≤ maxLen) (hbytes : (n + m) * bytes ≤ 140737488355328) (hbase : base ≤ w.heap.size)
    (h : ∀ v' w', w'.ownsRow base e size v' (n + m) (xs ++ news) → w.grownBy w' v.ownBlock → (v'.ownBlock = v.ownBlock ∨ v'.ownBlock = some w.heap.size) → K (a.put o.dst v') w') : o.wp P a w K Q := by
  obtain ⟨v', w', hr, h2, h3, _, h5⟩ := run_append_own_at (P := P) w base t o.type e i z size bytes ht hi hz hsize hby hzs hsz v n xs hown ad m c news hl hnews h1 h63 hbytes hbase
  unfold Oper.wp execOp
  simp only [ho, resolve, invoke, builtin, Sem.run_bind, Sem.run_pure, Result.andThen_ok, List.map_toArray, List.map_cons, List.map_nil, hs, hx, hr]
  exact h v' w' h2 h3 h5
theorem wp_append_bytes {w : World} {o : Oper} {a : Act} {K : Act → World → Prop} {Q : Exit → Act → World → Prop} (s x : Operand)
    (ho : o.op = .call { callee := .builtin .append, args := #[s, x], argTypes := #[27, 27] })
    (base : Nat) (v : Value) (hs : a.eval s = v) (hown : w.ownsRow base 5 1 v 0 []) {p : Option Addr} {m c : Nat} {b : List Nat} (hx : a.eval x = .slice p m c) (hT : Tx w p m c b) (hm : m ≤ 100000) (hbase : base ≤ w.heap.size)
    (h : ∀ v' w', w'.ownsRow base 5 1 v' m (vals b) → w.grownBy w' v.ownBlock → K (a.put o.dst v') w') : o.wp Try.prog a w K Q := by
  obtain ⟨i5, hi, hi0, hi1, hi2⟩ := info_parts I5
  cases p with
  | none =>
    have hc : c = 0 := by
      rcases hT.at' with ⟨_, h0⟩ | ⟨y, hy, _⟩
      · exact h0
      · cases hy
    have hm0 : m = 0 := by have := hT.le; omega
    have hb : b = [] := List.eq_nil_of_length_eq_zero (by have := hT.size; omega)
    subst hc hm0 hb
    have hrun := run_append_owned_none (P := Try.prog) (w := w) base 27 o.type 5 i5 1 A22 hi v 0 [] hown
    unfold Oper.wp execOp
    simp only [ho, resolve, invoke, builtin, Sem.run_bind, Sem.run_pure, Result.andThen_ok, List.map_toArray, List.map_cons, List.map_nil, hs, hx, hrun]
    exact h v w hown (World.grownBy.refl _ _)
  | some ad =>
    refine wp_append_at s x 27 ho base 5 i5 (.int .u8 0) 1 1 A22 hi hi0 hi1 hi2 rfl (by decide) v 0 [] hs hown ad m c (vals b) hx (by rw [vals_length, ← hT.size, Nat.mul_one]) hT.cells (vals_one _) (by unfold maxLen; omega) (by omega) hbase (fun v' w' h1 h2 _ => ?_)
    rw [Nat.zero_add, List.nil_append] at h1
    exact h v' w' h1 h2
theorem page_fill (q : Option Addr) (m c : Nat) : ∀ (D : List Nat), D.length = 32 → Instr.fill (fun i => some (i * 33, 33)) ((Array.range (1 * 33)).map ((Value.agg (vals (zeros 32) ++ [Value.slice none 0 0]).toArray).cells[· % (Value.agg (vals (zeros 32) ++ [Value.slice none 0 0]).toArray).cells.size]!)) [(0, .agg (vals D ++ [Value.slice q m c]).toArray)] = some ((vals D ++ [Value.slice q m c]).toArray)
  | [a0, a1, a2, a3, a4, a5, a6, a7, a8, a9, a10, a11, a12, a13, a14, a15, a16, a17, a18, a19, a20, a21, a22, a23, a24, a25, a26, a27, a28, a29, a30, a31], _ => by kernel_rfl
theorem wp_page_one {w : World} {o : Oper} {a : Act} {K : Act → World → Prop} {Q : Exit → Act → World → Prop} (x : Operand) (ho : o.op = .buildSlice 26 1 #[(0, x)]) {D : List Nat} {q : Option Addr} {m c : Nat} (hD : D.length = 32) (hx : a.eval x = .agg (vals D ++ [Value.slice q m c]).toArray)
    (h : K (a.put o.dst (.slice (some ⟨w.heap.size, 0, none⟩) 1 1)) (w.alloc (.cells (vals D ++ [Value.slice q m c]).toArray 40))) : o.wp Try.prog a w K Q := by
  obtain ⟨i, hi, hi0, hi1, hi2⟩ := info_parts IPG
  refine wp_buildSlice 26 40 1 #[(0, x)] ho (vals D ++ [Value.slice q m c]).toArray i _ UPG hi hi0 (by rw [hi1]; omega) (by rw [hi1]; omega) ?_ h
  rw [hi1]
  simp only [List.map_toArray, List.map_cons, List.map_nil, hx]
  exact page_fill q m c D hD
theorem Pgs.put {base : Nat} {w w' : World} {v v' : Value} {n : Nat} {L : List Pe} {e : Pe} (h : Pgs base w v n L) (hown : w'.ownsRow base 40 33 v' (n + 1) (flatP L ++ e.cells)) (hg : w.grownBy w' v.ownBlock) (hat : v'.ownBlock = v.ownBlock ∨ v'.ownBlock = some w.heap.size) (hlen : e.d.length = 32 ∧ Sm.allB e.d) (hT : Tx w e.q e.m e.c e.b) (hx : ∀ x, e.q = some x → e.b ≠ [] → v.ownBlock ≠ some x.block) : Pgs base w' v' (n + 1) (L ++ [e]) := by
  have key : ∀ e' : Pe, Tx w e'.q e'.m e'.c e'.b → (∀ x, e'.q = some x → e'.b ≠ [] → v.ownBlock ≠ some x.block) → Tx w' e'.q e'.m e'.c e'.b ∧ ∀ x, e'.q = some x → e'.b ≠ [] → v'.ownBlock ≠ some x.block := fun e' ht hn => by
    have hlt : ∀ x, e'.q = some x → e'.b ≠ [] → x.block < w.heap.size := fun x hx hb => by
      obtain ⟨g, o, hp, hc⟩ := ht.bytes.ne hb
      rw [hx] at hp
      cases hp
      exact block_lt_of_cell (hc 0 (List.length_pos_iff.2 hb))
    refine ⟨Dk.tx_keep ht (fun x hx hb => hg.block x.block (hlt x hx hb) (fun e => hn x hx hb e.symm)), fun x hx hb e => ?_⟩
    rcases hat with h1 | h1
    · exact hn x hx hb (h1.symm.trans e)
    · rw [h1] at e
      have := hlt x hx hb
      have e' : w.heap.size = x.block := Option.some.inj e
      omega
  refine ⟨by rw [List.length_append, ← h.size]; rfl, by rw [flatP_append, flatP_one]; exact hown, fun e' he => ?_, fun e' he => ?_⟩
  · rcases List.mem_append.1 he with he | he
    · exact h.len e' he
    · rw [List.mem_singleton.1 he]; exact hlen
  · rcases List.mem_append.1 he with he | he
    · exact key e' (h.text e' he).1 (h.text e' he).2
    · rw [List.mem_singleton.1 he]; exact key e hT hx
theorem PU.put {w : World} {v v' : Value} {L : List Pe} {e : Pe} (hat : v'.ownBlock = v.ownBlock ∨ v'.ownBlock = some w.heap.size) {k : Nat} (h : PU v' (L ++ [e]) k) : PU v L k ∨ k = w.heap.size ∨ ∃ x, e.q = some x ∧ e.b ≠ [] ∧ k = x.block := by
  rcases h with h | ⟨e', he, x, hx, hb, rfl⟩
  · rcases hat with h1 | h1
    · exact Or.inl (Or.inl (h1.symm.trans h))
    · rw [h1] at h
      exact Or.inr (Or.inl (Option.some.inj h).symm)
  · rcases List.mem_append.1 he with he | he
    · exact Or.inl (Or.inr ⟨e', he, x, hx, hb, rfl⟩)
    · rw [List.mem_singleton.1 he] at hx hb
      exact Or.inr (Or.inr ⟨x, hx, hb, rfl⟩)
theorem cells_one (e : Pe) : ∀ u ∈ e.cells, u.oneCell' = true := fun u hu => by
  rcases List.mem_append.1 hu with hu | hu
  · exact vals_one _ u hu
  · rw [List.mem_singleton.1 hu]; rfl
/-- What Put tells. -/
def PutR (base : Nat) (w : World) (v : Value) (L : List Pe) (b : List Nat) (e : Ending) (w' : World) : Prop :=
  ∃ v' n' L', e = .returned v' ∧ Pgs base w' v' n' L' ∧ pagesOf L' = putW (pagesOf L) b ∧ Dk.Only (fun k => v.ownBlock = some k) w w' ∧ ∀ k, PU v' L' k → PU v L k ∨ w.heap.size ≤ k
set_option maxRecDepth 100000 in
set_option maxHeartbeats 2000000 in
theorem rput_any {base : Nat} {w : World} {v : Value} {n : Nat} {L : List Pe} (h : Pgs base w v n L) (hbase : base ≤ w.heap.size) (hn : n ≤ 100000) (b : List Nat) (p : Option Addr) (m c : Nat) (hT : Tx w p m c b) (hm : m ≤ 100000) :
    Calls Try.prog 14 #[v, .slice p m c] w (PutR base w v L b) := by
  obtain ⟨q, cq, rfl, hnc, hq⟩ := h.form
  have H := Lib.hid h
  have HT := Lib.hid hT
  have HB := Lib.hid hbase
  have hz := (zero_of_info Z25).1
  obtain ⟨D, hD⟩ : ∃ D, D = sumOf b := ⟨_, rfl⟩
  have HD := Lib.hid hD
  have HDL := Lib.hid (show D.length = 32 from by rw [hD]; rfl)
  have HDO := Lib.hid (show Sm.allB D from by rw [hD]; exact sumOf_ok _)
  obtain ⟨ip, hi, hi0, hi1, hi2⟩ := info_parts IPG
  have HIP := Lib.hid hi
  have HIP0 := Lib.hid hi0
  have HIP1 := Lib.hid hi1
  have HIP2 := Lib.hid hi2
  clear h hT hbase hD hq hi hi0 hi1 hi2
  go_enter Try.func14, Try.ntmps14
  go_wp2_with fail
  refine (rsum_any b p m c w HT.out hm).mono ?_
  rintro e w1 ⟨rfl, b1⟩
  rw [← HD.out]
  have hb2 := (Below.refl w1.heap.size w1).alloc (Nat.le_refl _) (.cells (u8s D) 32)
  have B2 := Lib.hid (b1.trans (hb2.mono b1.size))
  have R2 := Lib.hid (heap_alloc_new w1 (.cells (u8s D) 32))
  have H2 := Lib.hid ((H.out.later b1).later hb2)
  have HDD := Lib.hid (show w.heap.size ≤ w1.heap.size from b1.size)
  clear b1 hb2
  go_upto_region 2 with (refine wpList_store_row (by rfl) 32 (.tmp 5) (.tmp 7) (by rfl) w1.heap.size (u8s D) (by rfl) (by rfl) _ _ (heap_alloc_new w1 _) (by rw [u8s_size, HDL.out]; exact S25) (by rw [u8s_size, u8s_size, HDL.out]; rfl) (u8s_one _) ?_; rw [setRow_alloc])
  generalize w1.alloc (.cells (u8s D) 32) = w2 at *
  generalize w1.heap.size = dd at *
  go_wp2_with (refine wpList_load_row (by rfl) 32 (.tmp 5) (by rfl) dd (by rfl) 32 (u8s D) (0, 0) _ R2.out A25 rfl (by rw [u8s_size, HDL.out]; exact S25) ?_)
  refine (rfind_any H2.out D HDL.out (by omega)).mono ?_
  rintro e w3 ⟨rfl, b3⟩
  have B3 := Lib.hid (B2.out.trans (b3.mono B2.out.size))
  have H3 := Lib.hid (H2.out.later b3)
  have R3 := Lib.hid ((b3.block _ (Array.getElem?_eq_some_iff.1 R2.out).1).trans R2.out)
  have HLD := Lib.hid (Array.getElem?_eq_some_iff.1 R3.out).1
  clear b3 B2 H2 R2
  by_cases hf : idx D (pagesOf L) < (pagesOf L).length
  · have hfi : findI (pagesOf L) D = (idx D (pagesOf L) : Int) := if_pos hf
    rw [hfi]
    have l1 : (idx D (pagesOf L) : Int) ≥ 0 := by omega
    have HP := Lib.hid (show pagesOf L = putW (pagesOf L) b from by rw [putW, ← HD.out, if_pos hf])
    clear hfi hf
    generalize idx D (pagesOf L) = ix at *
    go_wp2_with fail
    go_ret
    exact ⟨_, n, L, rfl, H3.out, HP.out, Dk.Only.of_below _ B3.out, fun k hk => Or.inl hk⟩
  · have hfi : findI (pagesOf L) D = -1 := if_neg hf
    rw [hfi]
    have HP := Lib.hid (show pagesOf L ++ [(D, b)] = putW (pagesOf L) b from by rw [putW, ← HD.out, if_neg hf])
    clear hfi hf
    go_upto_region 4 with fail
    refine wp_region_held_drew (S := fun w' => w'.heap[dd]? = some (.cells (u8s D) 32 (0, 0))) (by kernel_rfl) R3.out (fun hHeld => ?_)
    refine wpAnyH_take (i := 0) (oi := ⟨some 13, .move (.tmp 0), _, _, _, _⟩) (v := ?_) rfl (by kernel_rfl) (by kernel_rfl) (by kernel_rfl) (fun _ _ _ h => h) (Or.inl ⟨by rfl, ?_⟩) (by assumption) ?_
    rotate_left
    · intro w' hSw
      go_simp
      try with_reducible rfl
    try simp only [Act.put, List.setIfInBounds_toArray, List.set_cons_zero, List.set_cons_succ]
    refine wpAnyH_take (i := 1) (oi := ⟨some 14, .load 32 (.tmp 5), _, _, _, _⟩) (v := ?_) rfl (by kernel_rfl) (by kernel_rfl) (by kernel_rfl) (fun _ _ _ h => h) (Or.inl ⟨by rfl, ?_⟩) (by assumption) ?_
    rotate_left
    · intro w' hSw
      refine Eq.trans (b := Result.ok (Next.value (.agg (u8s D))) w') ?_ ?_
      · exact op_load_dig (by rfl) (by rfl) HDL.out (range_of_row' hSw)
      · with_reducible rfl
    try simp only [Act.put, List.setIfInBounds_toArray, List.set_cons_zero, List.set_cons_succ]
    refine wpAnyH_take (i := 3) (oi := ⟨some 16, .move (.tmp 1), _, _, _, _⟩) (v := ?_) rfl (by kernel_rfl) (by kernel_rfl) (by kernel_rfl) (fun _ _ _ h => h) (Or.inl ⟨by rfl, ?_⟩) (by assumption) ?_
    rotate_left
    · intro w' hSw
      go_simp
      try with_reducible rfl
    try simp only [Act.put, List.setIfInBounds_toArray, List.set_cons_zero, List.set_cons_succ]
    refine wpAnyH_ready (rs := [2]) (by kernel_rfl) (by simp) ?_
    refine AllReadyH.cons (o := ⟨some 15, .buildSlice 27 0 #[], _, _, _, _⟩) rfl (fun K hK => ?_) AllReadyH.nil
    go_simp
    have hba := (Below.refl w3.heap.size w3).drew.alloc (Nat.le_refl _) (.cells #[] 5)
    have O15 := Lib.hid (show (w3.drew.alloc (.cells #[] 5)).ownsRow w3.heap.size 5 1 (.slice (some ⟨w3.heap.size, 0, none⟩) 0 0) 0 [] from owns_mk (L := []) (cap := 0) (n := 0) (heap_alloc_new w3.drew (.cells (u8s []) 5)) rfl (Nat.le_refl _) (Nat.zero_le _) (Nat.le_refl _))
    have B15 := Lib.hid (show Below w3.heap.size w3 (w3.drew.alloc (.cells #[] 5)) from hba)
    clear hba
    rw [show w3.drew.alloc (.cells #[] 5) = (w3.alloc (.cells #[] 5)).drew from rfl] at O15 B15
    generalize (w3.alloc (.cells #[] 5)).drew = w15 at *
    try go_wp2_with fail
    refine hK.out _ _ ((B15.out.block dd HLD.out).trans R3.out) (fun hHeld => ?_)
    clear hK K
    try simp only [Act.put, List.setIfInBounds_toArray, List.set_cons_zero, List.set_cons_succ]
    refine wpAnyH_ready (rs := [4]) (by kernel_rfl) (by simp) ?_
    refine AllReadyH.cons (o := ⟨some 17, .call ⟨.builtin .append, #[.tmp 15, .tmp 16], #[27, 27]⟩, _, _, _, _⟩) rfl (fun K hK => ?_) AllReadyH.nil
    refine wp_append_bytes (.tmp 15) (.tmp 16) (by rfl) w3.heap.size _ (by rfl) O15.out (by rfl) ((HT.out.later B3.out).later B15.out) hm B15.out.size (fun v17 w17 o17 g17 => ?_)
    obtain ⟨q17, c17, rfl⟩ : ∃ q17 c17, v17 = .slice q17 m c17 := by
      rcases o17.2 with ⟨h1, h2⟩ | ⟨gb, cap, cur, h1, _⟩
      · exact ⟨none, 0, by rw [h1, h2]⟩
      · exact ⟨_, _, h1⟩
    have B17 := Lib.hid (B15.out.grown g17 B15.out.size (fun k hk => (O15.out.lt k hk).1))
    have T17 := Lib.hid (show Tx w17 q17 m c17 b from by
      have h1 := HT.out.size
      subst h1
      exact tx_of_owns o17 HT.out.ok)
    have X17 := Lib.hid (show ∀ x, q17 = some x → w3.heap.size ≤ x.block ∧ x.block < w17.heap.size from fun x hx => o17.lt x.block (by rw [hx]; rfl))
    clear o17 g17
    refine hK.out _ _ ((B17.out.block dd HLD.out).trans R3.out) (fun hHeld => ?_)
    clear hK K
    try simp only [Act.put, List.setIfInBounds_toArray, List.set_cons_zero, List.set_cons_succ]
    refine wpAnyH_take (i := 5) (oi := ⟨some 18, .build 40 #[(0, (.tmp 14)), (1, (.tmp 17))], _, _, _, _⟩) (v := ?_) rfl (by kernel_rfl) (by kernel_rfl) (by kernel_rfl) (fun _ _ _ h => h) (Or.inl ⟨by rfl, ?_⟩) (by assumption) ?_
    rotate_left
    · intro w' hSw
      refine Eq.trans (b := Result.ok (Next.value (.agg ((vals D ++ [Value.slice q17 m c17]).toArray))) w') ?_ ?_
      · apply op_buildP (t := 40) (parts := #[(0, .tmp 14), (1, .tmp 17)])
        · rfl
        · simp only [List.map_toArray, List.map_cons, List.map_nil]
          exact page_built q17 m c17 D HDL.out
      · with_reducible rfl
    try simp only [Act.put, List.setIfInBounds_toArray, List.set_cons_zero, List.set_cons_succ]
    refine wpAnyH_ready (rs := [6]) (by kernel_rfl) (by simp) ?_
    refine AllReadyH.cons (o := ⟨some 19, .buildSlice 26 1 #[(0, (.tmp 18))], _, _, _, _⟩) rfl (fun K hK => ?_) AllReadyH.nil
    have hba := (Below.refl w17.heap.size w17).alloc (Nat.le_refl _) (.cells (vals D ++ [Value.slice q17 m c17]).toArray 40)
    have R19 := Lib.hid (heap_alloc_new w17 (.cells (vals D ++ [Value.slice q17 m c17]).toArray 40))
    have B19 := Lib.hid (B17.out.trans (hba.mono B17.out.size))
    have T19 := Lib.hid (T17.out.later hba)
    have HS19 := Lib.hid hba.size
    refine wp_page_one (.tmp 18) (by rfl) HDL.out (by rfl) ?_
    clear hba
    generalize w17.alloc (.cells (vals D ++ [Value.slice q17 m c17]).toArray 40) = w19 at *
    generalize hg17 : w17.heap.size = g17 at *
    refine hK.out _ _ ((B19.out.block dd HLD.out).trans R3.out) (fun hHeld => ?_)
    clear hK K
    try simp only [Act.put, List.setIfInBounds_toArray, List.set_cons_zero, List.set_cons_succ]
    refine wpAnyH_ready (rs := [7]) (by kernel_rfl) (by simp) ?_
    refine AllReadyH.cons (o := ⟨some 20, .call ⟨.builtin .append, #[.tmp 13, .tmp 19], #[26, 26]⟩, _, _, _, _⟩) rfl (fun K hK => ?_) AllReadyH.nil
    have P19 := Lib.hid ((H3.out.later B19.out))
    have hnews : ∀ j u, (vals D ++ [Value.slice q17 m c17])[j]? = some u → w19.cell? ((⟨g17, 0, none⟩ : Addr).add j) = some u := fun j u hu => by
      rw [Addr.add_mid, Nat.zero_add, cell_of_row w19 g17 j _ _ _ R19.out, List.getElem?_toArray]
      exact hu
    refine wp_append_at (.tmp 13) (.tmp 19) 26 (by rfl) base 40 ip _ 33 56 UPG HIP.out HIP0.out HIP1.out HIP2.out (by rfl) (by decide) _ n (flatP L) (by rfl) P19.out.own ⟨g17, 0, none⟩ 1 1 (vals D ++ [Value.slice q17 m c17]) (by rfl) (by rw [List.length_append, vals_length, HDL.out]; rfl) hnews (cells_one ⟨D, q17, m, c17, b⟩) (by unfold maxLen; omega) (by omega) (Nat.le_trans HB.out (Nat.le_trans B3.out.size B19.out.size)) (fun v20 w20 hown20 hg20 hat20 => ?_)
    have R20 : w20.heap[dd]? = some (.cells (u8s D) 32 (0, 0)) := (hg20.block dd (Nat.lt_of_lt_of_le HLD.out B19.out.size) (fun e => by
      have := (H.out.own.lt _ e.symm).2
      have := HDD.out
      omega)).trans ((B19.out.block dd HLD.out).trans R3.out)
    have P20 := Lib.hid (Pgs.put (e := ⟨D, q17, m, c17, b⟩) P19.out hown20 hg20 hat20 ⟨HDL.out, HDO.out⟩ T19.out (fun x hx _ e => by
      have h1 := (X17.out x hx).1
      have h2 := (H.out.own.lt _ e).2
      have h3 := B3.out.size
      omega))
    have O20 := Lib.hid (show Dk.Only (fun k => (Value.slice q n cq).ownBlock = some k) w w20 from (Dk.Only.of_below _ (B3.out.trans (B19.out.mono B3.out.size))).trans ⟨hg20.os, hg20.tape, hg20.output, hg20.size, fun k hk hn => hg20.block k hk (fun e => hn e.symm)⟩)
    have U20 := Lib.hid (show ∀ k, PU v20 (L ++ [⟨D, q17, m, c17, b⟩]) k → PU (Value.slice q n cq) L k ∨ w.heap.size ≤ k from fun k hk => by
      rcases PU.put hat20 hk with h | h | ⟨x, hx, _, h⟩
      · exact Or.inl h
      · have := B3.out.size; have := B19.out.size; exact Or.inr (by omega)
      · have := (X17.out x hx).1; have := B3.out.size; exact Or.inr (by omega))
    clear hown20 hg20 hat20 hnews
    refine hK.out _ _ R20 (fun hHeld => ?_)
    clear hK K
    try simp only [Act.put, List.setIfInBounds_toArray, List.set_cons_zero, List.set_cons_succ]
    refine wpAnyH_take (i := 8) (oi := ⟨some 4, .assign (.tmp 20), _, _, _, _⟩) (v := ?_) rfl (by kernel_rfl) (by kernel_rfl) (by kernel_rfl) (fun _ _ _ h => h) (Or.inl ⟨by rfl, ?_⟩) (by assumption) ?_
    rotate_left
    · intro w' hSw
      go_simp
      try with_reducible rfl
    try simp only [Act.put, List.setIfInBounds_toArray, List.set_cons_zero, List.set_cons_succ]
    refine wpAnyH_done (by kernel_rfl) ?_ _
    go_wp2_with fail
    go_ret
    exact ⟨v20, n + 1, L ++ [⟨D, q17, m, c17, b⟩], rfl, P20.out, by rw [← HP.out]; simp [pagesOf], O20.out, U20.out⟩
end Go.Proofs.Ytlmbicelngpgoaa.Pg

/- The reference's Keep. -/
namespace Go.Proofs.Ytlmbicelngpgoaa.Pg
open Go.RowKit

theorem page_under : ∃ fs, Try.prog.underlying 40 = some (.struct fs) := by
  have hd : (match Try.prog.underlying 40 with | some (.struct _) => true | _ => false) = true := by kernel_rfl
  generalize Try.prog.underlying 40 = x at hd
  cases x with
  | none => cases hd
  | some d => cases d <;> first | exact ⟨_, rfl⟩ | cases hd
theorem SPG : (Try.prog.info? 40).map (·.size) = some 33 := by kernel_rfl
theorem wpList_page_one {w : World} {ops : Array Oper} {rest : List Oper} {o : Oper} {a : Act} {Q : Exit → Act → World → Prop} (hg : o.guard = none) (x : Operand) (ho : o.op = .buildSlice 26 1 #[(0, x)]) {D : List Nat} {q : Option Addr} {m c : Nat} (hD : D.length = 32) (hx : a.eval x = .agg (vals D ++ [Value.slice q m c]).toArray)
    (h : wpList Try.prog ops Q rest (a.put o.dst (.slice (some ⟨w.heap.size, 0, none⟩) 1 1)) (w.alloc (.cells (vals D ++ [Value.slice q m c]).toArray 40))) : wpList Try.prog ops Q (o :: rest) a w :=
  wpList_plain hg fun _ hK => wp_page_one x ho hD hx (hK _ _ h)
/-- Those that are kept. -/
def kp (K : List (List Nat)) (L : List Pe) : List Pe := L.filter fun e => decide (e.d ∈ K)
theorem kp_pages (K : List (List Nat)) (L : List Pe) : pagesOf (kp K L) = keepW (pagesOf L) K := by
  simp only [pagesOf, kp, keepW, List.filter_map]
  rfl
theorem take_at (L : List Pe) {i : Nat} (h : i < L.length) : L.take (i + 1) = L.take i ++ [L.getD i default] := by
  rw [List.take_succ_eq_append_getElem h, List.getD_eq_getElem?_getD, List.getElem?_eq_getElem h]; rfl
theorem kp_yes {K : List (List Nat)} {L : List Pe} {i : Nat} (h : i < L.length) (hk : (L.getD i default).d ∈ K) : kp K (L.take (i + 1)) = kp K (L.take i) ++ [L.getD i default] := by
  rw [take_at L h, kp, List.filter_append, List.filter_cons, if_pos (decide_eq_true hk)]
  rfl
theorem kp_no {K : List (List Nat)} {L : List Pe} {i : Nat} (h : i < L.length) (hk : ¬ (L.getD i default).d ∈ K) : kp K (L.take (i + 1)) = kp K (L.take i) := by
  rw [take_at L h, kp, List.filter_append, List.filter_cons, if_neg (by simpa using hk), List.filter_nil, List.append_nil]
  rfl
theorem getD_memP {L : List Pe} {i : Nat} (h : i < L.length) : L.getD i default ∈ L := by
  rw [List.getD_eq_getElem?_getD, List.getElem?_eq_getElem h]
  exact List.getElem_mem h
theorem getD_memK {K : List (List Nat)} {i : Nat} (h : i < K.length) : K.getD i [] ∈ K := by
  rw [List.getD_eq_getElem?_getD, List.getElem?_eq_getElem h]
  exact List.getElem_mem h
theorem mem_getD {K : List (List Nat)} {d : List Nat} (h : d ∈ K) : ∃ i, i < K.length ∧ K.getD i [] = d := by
  obtain ⟨i, hi, rfl⟩ := List.getElem_of_mem h
  exact ⟨i, hi, by rw [List.getD_eq_getElem?_getD, List.getElem?_eq_getElem hi]; rfl⟩
/-- A page's cells, as they lie. -/
theorem Pgs.range {base : Nat} {w : World} {g n c : Nat} {L : List Pe} (h : Pgs base w (.slice (some ⟨g, 0, none⟩) n c) n L) {i : Nat} (hi : i < n) : w.rangeAt g (i * 33) (L.getD i default).cells := fun j u hu => by
  have hl := cells_length (h.len _ (getD_memP (by have := h.size; omega : i < L.length))).1
  have hj := (List.getElem?_eq_some_iff.1 hu).1
  exact h.cell hi (by omega) hu
def KpR (w : World) (n : Nat) (_v : Value) (K : List (List Nat)) (L : List Pe) (v5 v6 : Value) (wr : World) : Prop :=
  ∃ (i n' : Nat), i ≤ n ∧ v6 = .int .i64 i ∧ Pgs w.heap.size wr v5 n' (kp K (L.take i)) ∧ Below w.heap.size w wr
def KiR (w : World) (m n' : Nat) (d : List Nat) (K : List (List Nat)) (M : List Pe) (x v5 v7 : Value) (wr : World) : Prop :=
  ∃ (k : Nat), k ≤ m ∧ v7 = .int .i64 k ∧ v5 = x ∧ (∀ j, j < k → K.getD j [] ≠ d) ∧ Pgs w.heap.size wr x n' M ∧ Below w.heap.size w wr
/-- What Keep tells. -/
def KeepR (w : World) (v : Value) (K : List (List Nat)) (L : List Pe) (e : Ending) (w' : World) : Prop :=
  ∃ v' n' L', e = .returned v' ∧ Pgs w.heap.size w' v' n' L' ∧ pagesOf L' = keepW (pagesOf L) K ∧ Below w.heap.size w w' ∧ ∀ k, PU v' L' k → PU v L k ∨ w.heap.size ≤ k
theorem kp_pu {_base : Nat} {w wr : World} {v v' : Value} {_n n' : Nat} {K : List (List Nat)} {L : List Pe} (h : Pgs w.heap.size wr v' n' (kp K L)) : ∀ k, PU v' (kp K L) k → PU v L k ∨ w.heap.size ≤ k := fun k hk => by
  rcases hk with hk | ⟨e, he, x, hx, hb, rfl⟩
  · exact Or.inr (h.own.lt k hk).1
  · exact Or.inl (Or.inr ⟨e, (List.mem_filter.1 he).1, x, hx, hb, rfl⟩)
set_option maxRecDepth 100000 in
set_option maxHeartbeats 2000000 in
theorem rkeep_any {base : Nat} {w : World} {v : Value} {n : Nat} {L : List Pe} (h : Pgs base w v n L) (hn : n ≤ 100000) (K : List (List Nat)) (q : Option Addr) (m c : Nat) (hK : Digs w q m c K) (hm : m ≤ 100000) :
    Calls Try.prog 12 #[v, .slice q m c] w (KeepR w v K L) := by
  obtain ⟨qv, cv, rfl, hnc, hq⟩ := h.form
  have H := Lib.hid h
  have HK := Lib.hid hK
  have HQ := Lib.hid hq
  have HS := Lib.hid h.size
  have HKS := Lib.hid hK.size
  obtain ⟨ip, hi, hi0, hi1, hi2⟩ := info_parts IPG
  have HIP := Lib.hid hi
  have HIP0 := Lib.hid hi0
  have HIP1 := Lib.hid hi1
  have HIP2 := Lib.hid hi2
  obtain ⟨fs, hfs⟩ := page_under
  have HFS := Lib.hid hfs
  clear h hK hq hi hi0 hi1 hi2 hfs
  go_enter Try.func12, Try.ntmps12
  go_wp2_with fail
  go_loopw [5, 6] (fun v5 v6 wr => KpR w n (.slice qv n cv) K L v5 v6 wr) (fun _ v6 _ => n - (intOf v6).toNat)
  case atStart => exact ⟨0, 0, Nat.zero_le _, rfl, Pgs.nil _ _, Below.refl _ _⟩
  case round =>
    obtain ⟨i, n', hi, rfl, hP, hbw⟩ := hrel
    have P := Lib.hid hP
    have BW := Lib.hid hbw
    clear hP hbw
    by_cases hlt : i < n
    · have l1 : (i : Int) < n := by omega
      have i1 : (0 : Int) ≤ i ∧ (i : Int) < n := by omega
      obtain ⟨g, rfl⟩ := HQ.out (by omega)
      obtain ⟨E, hE⟩ : ∃ E, E = L.getD i default := ⟨_, rfl⟩
      have HE := Lib.hid hE
      have HEM := Lib.hid (show E ∈ L from by rw [hE]; exact getD_memP (by have := HS.out; omega))
      have HEL := Lib.hid (H.out.len _ HEM.out).1
      have HR := Lib.hid (show w.rangeAt g (i * 33) E.cells from by rw [hE]; exact H.out.range hlt)
      obtain ⟨dd, hdd⟩ : ∃ dd, dd = E.d := ⟨_, rfl⟩
      have HDD := Lib.hid hdd
      have HDS := Lib.hid (show w.rangeAt g (i * 33) (vals dd) from by rw [hdd, hE]; exact H.out.sum hlt)
      have HDL := Lib.hid (show dd.length = 32 from by rw [hdd]; exact HEL.out)
      clear hE hdd
      go_wp2_with fail
      go_loopw [5, 7] (fun v5 v7 wr => KiR w m n' dd K (kp K (L.take i)) u5 v5 v7 wr) (fun _ v7 _ => m - (intOf v7).toNat)
      case atStart => exact ⟨0, Nat.zero_le _, rfl, rfl, (fun j hj => absurd hj (Nat.not_lt_zero _)), P.out, BW.out⟩
      case round =>
        obtain ⟨k, hk, rfl, rfl, hbf, hP2, hb2⟩ := hrel
        have HBF := Lib.hid hbf
        have P2 := Lib.hid hP2
        have B2 := Lib.hid hb2
        clear hbf hP2 hb2 P BW
        by_cases hlt2 : k < m
        · have l2 : (k : Int) < m := by omega
          have i2 : (0 : Int) ≤ k ∧ (k : Int) < m := by omega
          obtain ⟨kg, ko, rfl, hKx⟩ := HK.out.at' (by intro e; have := HKS.out; rw [e] at this; simp at this; omega)
          obtain ⟨X, hX⟩ : ∃ X, X = K.getD k [] := ⟨_, rfl⟩
          have HX := Lib.hid hX
          have HXM := Lib.hid (show X ∈ K from by rw [hX]; exact getD_memK (by have := HKS.out; omega))
          have HXL := Lib.hid (HK.out.len _ HXM.out).1
          have RX := Lib.hid (show wr.rangeAt kg (ko + k * 32) (vals X) from fun j u hu => by
            have h1 := hKx k (by have := HKS.out; omega) j u (by rw [← hX]; exact hu)
            exact (B2.out.cell (block_lt_of_cell h1)).trans h1)
          have RD := Lib.hid (show wr.rangeAt g (i * 33) (vals dd) from fun j u hu => (B2.out.cell (block_lt_of_cell (HDS.out j u hu))).trans (HDS.out j u hu))
          clear hKx hX
          go_upto_region 8 with fail
          refine wp_region_held_drew (S := fun w' => w'.rangeAt kg (ko + k * 32) (vals X) ∧ w'.rangeAt g (i * 33) (vals dd)) (by kernel_rfl) ⟨RX.out, RD.out⟩ (fun hHeld => ?_)
          refine wpAnyH_take (i := 0) (oi := ⟨some 20, .move (.tmp 1), _, _, _, _⟩) (v := ?_) rfl (by kernel_rfl) (by kernel_rfl) (by kernel_rfl) (fun _ _ _ h => h) (Or.inl ⟨by rfl, ?_⟩) (by assumption) ?_
          rotate_left
          · intro w' hSw
            go_simp
            try with_reducible rfl
          try simp only [Act.put, List.setIfInBounds_toArray, List.set_cons_zero, List.set_cons_succ]
          refine wpAnyH_take (i := 1) (oi := ⟨some 21, .move (.tmp 7), _, _, _, _⟩) (v := ?_) rfl (by kernel_rfl) (by kernel_rfl) (by kernel_rfl) (fun _ _ _ h => h) (Or.inl ⟨by rfl, ?_⟩) (by assumption) ?_
          rotate_left
          · intro w' hSw
            go_simp
            try with_reducible rfl
          try simp only [Act.put, List.setIfInBounds_toArray, List.set_cons_zero, List.set_cons_succ]
          refine wpAnyH_take (i := 2) (oi := ⟨some 22, .indexAddr 41 (.tmp 20) (.tmp 21), _, _, _, _⟩) (v := ?_) rfl (by kernel_rfl) (by kernel_rfl) (by kernel_rfl) (fun _ _ _ h => h) (Or.inl ⟨by rfl, ?_⟩) (by assumption) ?_
          rotate_left
          · intro w' hSw
            go_simp
            try with_reducible rfl
          try simp only [Act.put, List.setIfInBounds_toArray, List.set_cons_zero, List.set_cons_succ]
          refine wpAnyH_take (i := 3) (oi := ⟨some 23, .load 32 (.tmp 22), _, _, _, _⟩) (v := ?_) rfl (by kernel_rfl) (by kernel_rfl) (by kernel_rfl) (fun _ _ _ h => h) (Or.inl ⟨by rfl, ?_⟩) (by assumption) ?_
          rotate_left
          · intro w' hSw
            refine Eq.trans (b := Result.ok (Next.value (.agg (u8s X))) w') ?_ ?_
            · exact op_load_dig (by rfl) (by rfl) HXL.out hSw.1
            · with_reducible rfl
          try simp only [Act.put, List.setIfInBounds_toArray, List.set_cons_zero, List.set_cons_succ]
          refine wpAnyH_take (i := 4) (oi := ⟨some 24, .move (.tmp 0), _, _, _, _⟩) (v := ?_) rfl (by kernel_rfl) (by kernel_rfl) (by kernel_rfl) (fun _ _ _ h => h) (Or.inl ⟨by rfl, ?_⟩) (by assumption) ?_
          rotate_left
          · intro w' hSw
            go_simp
            try with_reducible rfl
          try simp only [Act.put, List.setIfInBounds_toArray, List.set_cons_zero, List.set_cons_succ]
          refine wpAnyH_take (i := 5) (oi := ⟨some 25, .move (.tmp 6), _, _, _, _⟩) (v := ?_) rfl (by kernel_rfl) (by kernel_rfl) (by kernel_rfl) (fun _ _ _ h => h) (Or.inl ⟨by rfl, ?_⟩) (by assumption) ?_
          rotate_left
          · intro w' hSw
            go_simp
            try with_reducible rfl
          try simp only [Act.put, List.setIfInBounds_toArray, List.set_cons_zero, List.set_cons_succ]
          refine wpAnyH_take (i := 6) (oi := ⟨some 26, .indexAddr 26 (.tmp 24) (.tmp 25), _, _, _, _⟩) (v := ?_) rfl (by kernel_rfl) (by kernel_rfl) (by kernel_rfl) (fun _ _ _ h => h) (Or.inl ⟨by rfl, ?_⟩) (by assumption) ?_
          rotate_left
          · intro w' hSw
            go_simp
            try with_reducible rfl
          try simp only [Act.put, List.setIfInBounds_toArray, List.set_cons_zero, List.set_cons_succ]
          refine wpAnyH_take (i := 7) (oi := ⟨some 27, .fieldAddr 40 (.tmp 26) 0, _, _, _, _⟩) (v := ?_) rfl (by kernel_rfl) (by kernel_rfl) (by kernel_rfl) (fun _ _ _ h => h) (Or.inl ⟨by rfl, ?_⟩) (by assumption) ?_
          rotate_left
          · intro w' hSw
            go_simp
            try with_reducible rfl
          try simp only [Act.put, List.setIfInBounds_toArray, List.set_cons_zero, List.set_cons_succ]
          refine wpAnyH_take (i := 8) (oi := ⟨some 28, .load 32 (.tmp 27), _, _, _, _⟩) (v := ?_) rfl (by kernel_rfl) (by kernel_rfl) (by kernel_rfl) (fun _ _ _ h => h) (Or.inl ⟨by rfl, ?_⟩) (by assumption) ?_
          rotate_left
          · intro w' hSw
            refine Eq.trans (b := Result.ok (Next.value (.agg (u8s dd))) w') ?_ ?_
            · exact op_load_dig (by rfl) (by rfl) HDL.out hSw.2
            · with_reducible rfl
          try simp only [Act.put, List.setIfInBounds_toArray, List.set_cons_zero, List.set_cons_succ]
          refine wpAnyH_take (i := 9) (oi := ⟨some 29, .binOp .eql 32 (.tmp 23) (.tmp 28) 32, _, _, _, _⟩) (v := ?_) rfl (by kernel_rfl) (by kernel_rfl) (by kernel_rfl) (fun _ _ _ h => h) (Or.inl ⟨by rfl, ?_⟩) (by assumption) ?_
          rotate_left
          · intro w' hSw
            refine Eq.trans (b := Result.ok (Next.value (.bool (decide (X = dd)))) w') ?_ ?_
            · exact op_eql_dig (x := 23) (y := 28) (by rfl) (by rfl) (by rfl) HXL.out HDL.out w'
            · with_reducible rfl
          try simp only [Act.put, List.setIfInBounds_toArray, List.set_cons_zero, List.set_cons_succ]
          refine wpAnyH_done (by kernel_rfl) ?_ _
          by_cases heq : X = dd
          · rw [decide_eq_true heq]
            have HIN := Lib.hid (show (L.getD i default).d ∈ K from by rw [← HE.out, ← HDD.out, ← heq]; exact HXM.out)
            have PD := Lib.hid (P2.out.later (Below.refl _ _).drew)
            have BD := Lib.hid (B2.out.drew)
            have RE := Lib.hid (show wr.drew.rangeAt g (i * 33) (vals E.d ++ [Value.slice E.q E.m E.c]) from fun j u hu => (BD.out.cell (block_lt_of_cell (HR.out j u hu))).trans (HR.out j u hu))
            have HL33 := Lib.hid (show (vals E.d ++ [Value.slice E.q E.m E.c]).length = 33 from by rw [List.length_append, vals_length, HEL.out]; rfl)
            have TE := Lib.hid ((H.out.text E HEM.out).1.later BD.out)
            clear heq hHeld RX RD P2 B2
            generalize wr.drew = wd at *
            obtain ⟨qn, cn, rfl, hcn, hqn⟩ := PD.out.form
            have hba := (Below.refl wd.heap.size wd).alloc (Nat.le_refl _) (.cells (vals E.d ++ [Value.slice E.q E.m E.c]).toArray 40)
            have R19 := Lib.hid (heap_alloc_new wd (.cells (vals E.d ++ [Value.slice E.q E.m E.c]).toArray 40))
            have P19 := Lib.hid (PD.out.later hba)
            have B19 := Lib.hid (BD.out.trans (hba.mono BD.out.size))
            have T19 := Lib.hid (TE.out.later hba)
            have hnews : ∀ j u, (vals E.d ++ [Value.slice E.q E.m E.c])[j]? = some u → (wd.alloc (.cells (vals E.d ++ [Value.slice E.q E.m E.c]).toArray 40)).cell? ((⟨wd.heap.size, 0, none⟩ : Addr).add j) = some u := fun j u hu => by
              rw [Addr.add_mid, Nat.zero_add, cell_of_row _ wd.heap.size j _ _ _ R19.out, List.getElem?_toArray]
              exact hu
            have HNW := Lib.hid hnews
            have hn' : n' ≤ i := by
              have h1 := PD.out.size
              have h2 := List.length_filter_le (fun e : Pe => decide (e.d ∈ K)) (L.take i)
              rw [h1]
              refine Nat.le_trans h2 ?_
              rw [List.length_take]
              omega
            have HTQ := Lib.hid (show ∀ x, E.q = some x → E.b ≠ [] → (Value.slice qn n' cn).ownBlock ≠ some x.block from fun x hx hb e => by
              have h1 := (PD.out.own.lt _ e).1
              obtain ⟨g', o', hp, hc⟩ := (H.out.text E HEM.out).1.bytes.ne hb
              rw [hx] at hp
              cases hp
              have h2 := block_lt_of_cell (hc 0 (List.length_pos_iff.2 hb))
              exact absurd h2 (Nat.not_lt.2 h1))
            clear hba hnews hqn
            go_wp2_with (first | (refine wpList_load_mid (by rfl) 40 (.tmp 33) (by rfl) g (i * 33) (by rfl) (vals E.d ++ [Value.slice E.q E.m E.c]) _ RE.out HFS.out (by rfl) (by rw [HL33.out]; exact SPG) ?_) | (refine wpList_page_one (by rfl) (.tmp 34) (by rfl) HEL.out (by rfl) ?_) | (at_builtin; refine wpList_append_own_at _ (by rfl) (.tmp 30) (.tmp 35) 26 (by rfl) w.heap.size 40 ip _ 33 56 UPG HIP.out HIP0.out HIP1.out HIP2.out (by rfl) (by decide) _ n' _ (by rfl) P19.out.own ⟨wd.heap.size, 0, none⟩ 1 1 (vals E.d ++ [Value.slice E.q E.m E.c]) (by rfl) (by rw [HL33.out]) HNW.out (cells_one E) (by unfold maxLen; omega) (by omega) B19.out.size ?_; intro v7 w7 hown7 hgrow7 _ hat7; have P7 := Lib.hid (show Pgs w.heap.size w7 v7 (n' + 1) (kp K (L.take (i + 1))) from by (rw [kp_yes (by have := HS.out; omega) HIN.out, ← HE.out]; exact Pgs.put P19.out hown7 hgrow7 hat7 (H.out.len _ HEM.out) T19.out HTQ.out)); have B7 := Lib.hid (B19.out.grown hgrow7 B19.out.size (fun j hj => (P19.out.own.lt j hj).1)); clear hown7 hgrow7 hat7))
            go_roundw
            case rel => exact ⟨i + 1, n' + 1, by omega, by go_num, P7.out, B7.out⟩
            case measure => simp [intOf]; omega
          · rw [decide_eq_false heq]
            have HNE := Lib.hid heq
            have PD := Lib.hid (P2.out.later (Below.refl _ _).drew)
            have BD := Lib.hid (B2.out.drew)
            clear heq hHeld P2 B2
            generalize wr.drew = wd at *
            go_wp2_with fail
            go_roundw
            case rel => exact ⟨k + 1, by omega, by go_num, rfl, (fun j hj => by
              rcases Nat.lt_or_ge j k with h1 | h1
              · exact HBF.out j h1
              · obtain rfl : j = k := by omega
                rw [← HX.out]
                exact HNE.out), PD.out, BD.out⟩
            case measure => simp [intOf]; omega
        · obtain rfl : k = m := by omega
          have HNK := Lib.hid (show ¬ (L.getD i default).d ∈ K from fun e => by
            obtain ⟨j, hj, he⟩ := mem_getD e
            refine HBF.out j (by have := HKS.out; omega) (he.trans ?_)
            rw [HDD.out, HE.out])
          have hPN := P2.out
          rw [← kp_no (K := K) (L := L) (i := i) (by have := HS.out; omega) HNK.out] at hPN
          have PN := Lib.hid hPN
          clear P2 hPN
          go_wp2_with fail
          go_roundw
          case rel => exact ⟨i + 1, n', by omega, by go_num, PN.out, B2.out⟩
          case measure => simp [intOf]; omega
    · obtain rfl : i = n := by omega
      have hP := P.out
      rw [List.take_of_length_le (by rw [← HS.out]; exact Nat.le_refl _)] at hP
      have PF := Lib.hid hP
      clear hP P
      go_wp2_with fail
      go_ret
      exact ⟨_, n', kp K L, rfl, PF.out, kp_pages K L, BW.out, kp_pu (_base := base) (w := w) (_n := i) PF.out⟩
end Go.Proofs.Ytlmbicelngpgoaa.Pg

/- The contract of codec.Cmp. -/
namespace Go.Proofs.Ytlmbicelngpgoaa
open Go.RowKit

def sgn (x y : Int) : Int := if x < y then -1 else if y < x then 1 else 0
set_option maxHeartbeats 1000000 in
theorem cmpb_any (x y : Nat) (w : World) :
    Calls Try.prog 31 #[.int .u8 x, .int .u8 y] w fun e w' => e = .returned (.int .i64 (sgn x y)) ∧ w' = w := by
  unfold sgn
  by_cases h1 : (x : Int) < y
  · rw [if_pos h1]
    have h1d : decide ((x : Int) < y) = true := decide_eq_true h1
    go_enter Try.func31, Try.ntmps31
    go_wp2
    go_ret
    exact ⟨rfl, rfl⟩
  · rw [if_neg h1]
    have h1d : decide ((x : Int) < y) = false := decide_eq_false h1
    by_cases h2 : (y : Int) < x
    · rw [if_pos h2]
      have h2d : decide ((y : Int) < x) = true := decide_eq_true h2
      go_enter Try.func31, Try.ntmps31
      go_wp2
      go_ret
      exact ⟨rfl, rfl⟩
    · rw [if_neg h2]
      have h2d : decide ((y : Int) < x) = false := decide_eq_false h2
      go_enter Try.func31, Try.ntmps31
      go_wp2
      go_ret
      exact ⟨rfl, rfl⟩
set_option maxHeartbeats 1000000 in
theorem cmpi_any (x y : Nat) (w : World) :
    Calls Try.prog 32 #[.int .i64 x, .int .i64 y] w fun e w' => e = .returned (.int .i64 (sgn x y)) ∧ w' = w := by
  unfold sgn
  by_cases h1 : (x : Int) < y
  · rw [if_pos h1]
    have h1d : decide ((x : Int) < y) = true := decide_eq_true h1
    go_enter Try.func32, Try.ntmps32
    go_wp2
    go_ret
    exact ⟨rfl, rfl⟩
  · rw [if_neg h1]
    have h1d : decide ((x : Int) < y) = false := decide_eq_false h1
    by_cases h2 : (y : Int) < x
    · rw [if_pos h2]
      have h2d : decide ((y : Int) < x) = true := decide_eq_true h2
      go_enter Try.func32, Try.ntmps32
      go_wp2
      go_ret
      exact ⟨rfl, rfl⟩
    · rw [if_neg h2]
      have h2d : decide ((y : Int) < x) = false := decide_eq_false h2
      go_enter Try.func32, Try.ntmps32
      go_wp2
      go_ret
      exact ⟨rfl, rfl⟩
theorem take_snocC (B : List Nat) (k : Nat) (h : k < B.length) : B.take (k + 1) = B.take k ++ [B.getD k 0] := by
  rw [List.take_succ_eq_append_getElem h, List.getD_eq_getElem?_getD, List.getElem?_eq_getElem h]; rfl
theorem drop_cons (A : List Nat) (k : Nat) (h : k < A.length) : A.drop k = A.getD k 0 :: A.drop (k + 1) := by
  rw [List.drop_eq_getElem_cons h, List.getD_eq_getElem?_getD, List.getElem?_eq_getElem h]; rfl
theorem cmp_unlike {A B : List Nat} {k : Nat} (h : A.take k = B.take k) (h1 : k < A.length) (h2 : k < B.length) (hne : A.getD k 0 ≠ B.getD k 0) : Cm.cmpL A B = sgn (A.getD k 0 : Nat) (B.getD k 0 : Nat) := by
  rw [Cm.cmpL_at h, drop_cons A k h1, drop_cons B k h2, Cm.cmpL_cons]
  unfold sgn
  by_cases h3 : A.getD k 0 < B.getD k 0
  · rw [if_pos h3, if_pos (by omega)]
  · have g1 : ¬ ((A.getD k 0 : Nat) : Int) < (B.getD k 0 : Nat) := by omega
    have g2 : B.getD k 0 < A.getD k 0 := by omega
    have g3 : ((B.getD k 0 : Nat) : Int) < (A.getD k 0 : Nat) := by omega
    rw [if_neg h3, if_pos g2, if_neg g1, if_pos g3]
theorem cmp_ends {A B : List Nat} {k : Nat} (h : A.take k = B.take k) (hk : k = min A.length B.length) : Cm.cmpL A B = sgn (A.length : Nat) (B.length : Nat) := by
  rw [Cm.cmpL_at h, Cm.cmpL_lens _ _ (by
    rcases Nat.le_total A.length B.length with h1 | h1
    · exact Or.inl (List.drop_eq_nil_of_le (by omega))
    · exact Or.inr (List.drop_eq_nil_of_le (by omega)))]
  rw [List.length_drop, List.length_drop]
  unfold sgn
  by_cases h1 : A.length < B.length
  · rw [if_pos (show A.length - k < B.length - k from by omega), if_pos (show (A.length : Int) < (B.length : Int) from by omega)]
  · rw [if_neg (show ¬ A.length - k < B.length - k from by omega), if_neg (show ¬ (A.length : Int) < (B.length : Int) from by omega)]
    by_cases h2 : B.length < A.length
    · rw [if_pos (show B.length - k < A.length - k from by omega), if_pos (show (B.length : Int) < (A.length : Int) from by omega)]
    · rw [if_neg (show ¬ B.length - k < A.length - k from by omega), if_neg (show ¬ (B.length : Int) < (A.length : Int) from by omega)]
/-- A callee that leaves the world alone, called behind draws. -/
theorem calls_drawn {f : FuncId} {args : Array Value} {w : World} {a n : Nat} {v : Value} (h : Calls Try.prog f args (w.drewN (a + n)) fun e w' => e = .returned v ∧ w' = w.drewN (a + n)) :
    Calls Try.prog f args (w.drewN (a + n)) fun e w' => e = .returned v ∧ ∃ m, w' = w.drewN (a + m) := by
  refine h.mono fun e w' hw => ⟨hw.1, n, hw.2⟩
def CRel (w : World) (A B : List Nat) (n : Nat) (i : Value) (wr : World) : Prop := ∃ (k d : Nat), k ≤ n ∧ i = .int .i64 k ∧ A.take k = B.take k ∧ wr = w.drewN d
set_option maxRecDepth 100000 in
set_option maxHeartbeats 1000000 in
theorem cmp_any (A B : List Nat) (p q : Option Addr) (n1 c1 n2 c2 : Nat) (w : World) (hA : Tx w p n1 c1 A) (hB : Tx w q n2 c2 B) (hl1 : n1 < 1099511627776) (hl2 : n2 < 1099511627776) :
    Calls Try.prog 18 #[.slice p n1 c1, .slice q n2 c2] w fun e w' => e = .returned (.int .i64 (Cm.cmpL A B)) ∧ Below w.heap.size w w' := by
  have HA := Lib.hid hA
  have HB := Lib.hid hB
  have N1 := Lib.hid hA.size
  have N2 := Lib.hid hB.size
  have hmin : ((min n1 n2 : Nat) : Int) = min (n1 : Int) (n2 : Int) := by omega
  have HM := Lib.hid hmin
  clear hA hB hmin
  go_enter Try.func18, Try.ntmps18
  go_wp2_with fail
  go_loopw [11] (fun i wr => CRel w A B (min n1 n2) i wr) (fun i _ => min n1 n2 - (intOf i).toNat)
  case atStart => exact ⟨0, 0, by omega, rfl, rfl, rfl⟩
  case round =>
    obtain ⟨k, d, hk, rfl, ht, rfl⟩ := hrel
    have HT := Lib.hid ht
    clear ht
    by_cases hlt : k < min n1 n2
    · have e1 : (k : Int) < n1 := by omega
      have e2 : (k : Int) < n2 := by omega
      have e3 : (k : Int) < min (n1 : Int) n2 := by omega
      obtain ⟨g1, o1, hp, hx1⟩ := HA.out.bytes.ne (by intro e; have := N1.out; rw [e] at this; simp at this; omega)
      obtain ⟨g2, o2, hq, hx2⟩ := HB.out.bytes.ne (by intro e; have := N2.out; rw [e] at this; simp at this; omega)
      subst hp
      subst hq
      have a1 := hx1 k (by have := N1.out; omega)
      have a2 := hx2 k (by have := N2.out; omega)
      have l1 := HA.out.le
      have l2 := HB.out.le
      have ht : A.take k = B.take k := HT.out
      have hun := fun h => cmp_unlike ht (by have := N1.out; omega) (by have := N2.out; omega) h
      have hst : A.getD k 0 = B.getD k 0 → A.take (k + 1) = B.take (k + 1) := fun h => by
        rw [take_snocC A k (by have := N1.out; omega), take_snocC B k (by have := N2.out; omega), h, ht]
      have HU := Lib.hid hun
      have HS := Lib.hid hst
      clear hx1 hx2 ht hun hst
      generalize A.getD k 0 = x at *
      generalize B.getD k 0 = y at *
      by_cases hxy : x = y
      · subst hxy
        go_wp2_with fail
        go_quiet (fail)
        go_wp2_with fail
        go_roundw
        case rel => exact ⟨k + 1, _, by omega, by go_num, HS.out (by trivial), rfl⟩
        case measure => simp [intOf]; omega
      · have b1 : ((x : Int) != (y : Int)) = true := by simp; omega
        have HXY := Lib.hid hxy
        clear hxy
        go_wp2_with fail
        go_quiet (fail)
        go_wp2_with fail
        go_quiet ((go_at_call 31; exact calls_drawn (cmpb_any _ _ _)))
        go_wp2_with fail
        go_ret
        exact ⟨by rw [HU.out HXY.out]; rfl, Below.drewN (Below.drewN (Below.drewN (Below.refl _ _) _) _) _⟩
    · obtain hk2 : k = min n1 n2 := by omega
      have e3 : ¬ ((k : Int) < min (n1 : Int) n2) := by omega
      have he := cmp_ends HT.out (by rw [hk2, N1.out, N2.out])
      rw [← N1.out, ← N2.out] at he
      have HE := Lib.hid he
      clear he hk2 hlt
      go_wp2_with fail
      refine (cmpi_any n1 n2 _).mono ?_
      rintro e w' ⟨rfl, rfl⟩
      go_wp2_with fail
      go_ret
      exact ⟨by rw [HE.out]; rfl, Below.drewN (Below.refl _ _) _⟩
end Go.Proofs.Ytlmbicelngpgoaa
