/- The contracts of indentureref01.With and Sum. -/
import Derived.Test.YtgdipdmpmaemjaaShaRefTurn
import Derived.Test.YtgdipdmpmaemjaaShaRefPre
namespace Go.Proofs.Ytgdipdmpmaemjaa
open Go.RowKit

theorem fill_take (n j : Nat) (hj : j < 8) : (Sm.bigs n).getD j 0 = n / 2 ^ (56 - 8 * j) % 256 := by
  match j, hj with
  | 0, _ => rfl
  | 1, _ => rfl
  | 2, _ => rfl
  | 3, _ => rfl
  | 4, _ => rfl
  | 5, _ => rfl
  | 6, _ => rfl
  | 7, _ => rfl
theorem fill_ok' (n : Nat) : ∀ x ∈ Sm.bigs n, x < 256 := by
  intro x hx
  simp only [Sm.bigs, List.mem_cons, List.not_mem_nil, or_false] at hx
  rcases hx with rfl | rfl | rfl | rfl | rfl | rfl | rfl | rfl <;> exact Sm.big_lt _ _
/-- How many zeros stand between the mark and the length. -/
def pad (n : Nat) : Nat := (119 - n % 64) % 64
theorem full_eq (T : List Nat) : Sm.full T = T ++ 128 :: (zeros (pad T.length) ++ Sm.bigs (8 * T.length)) := rfl
theorem full_len (T : List Nat) : (Sm.full T).length = T.length + 1 + pad T.length + 8 := by
  rw [full_eq, List.length_append, List.length_cons, List.length_append]
  simp [zeros, Sm.bigs]
  omega
theorem full_mod (T : List Nat) : (Sm.full T).length % 64 = 0 := by
  rw [full_len]; unfold pad; omega
def zs (T : List Nat) (k : Nat) : List Nat := T ++ 128 :: zeros k
theorem zs_succ (T : List Nat) (k : Nat) : zs T (k + 1) = zs T k ++ [0] := by
  unfold zs zeros
  rw [List.replicate_succ', List.append_assoc, List.cons_append]
theorem zs_ok {T : List Nat} (h : Sm.allB T) (k : Nat) : Sm.allB (zs T k) := fun x hx => by
  unfold zs at hx
  simp only [List.mem_append, List.mem_cons] at hx
  rcases hx with hx | rfl | hx
  · exact h x hx
  · omega
  · exact zeros_ok k x hx
theorem bigs_ok (n : Nat) : Sm.allB (Sm.bigs n) := fun x hx => fill_ok' n x hx
theorem full_zs (T : List Nat) : Sm.full T = zs T (pad T.length) ++ Sm.bigs (8 * T.length) := by
  rw [full_eq]
  unfold zs
  rw [List.append_assoc, List.cons_append]
theorem full_ok {T : List Nat} (h : Sm.allB T) : Sm.allB (Sm.full T) := fun x hx => by
  rw [full_zs] at hx
  rcases List.mem_append.1 hx with hx | hx
  · exact zs_ok h _ x hx
  · exact bigs_ok _ x hx
def W1Rel (w : World) (T : List Nat) (m : Nat) (s : Value) (wr : World) : Prop :=
  ∃ (k : Nat) (q : Option Addr) (d : Nat), k ≤ m ∧ s = .slice q (T.length + 1 + k) d ∧ wr.ownsRow w.heap.size 5 1 (.slice q (T.length + 1 + k) d) (T.length + 1 + k) (vals (zs T k)) ∧ Below w.heap.size w wr
theorem sl_of_owns {w : World} {base n : Nat} {v : Value} {xs : List Value} (h : w.ownsRow base 5 1 v n xs) : ∃ q c, v = .slice q n c := by
  rcases h.2 with ⟨rfl, rfl⟩ | ⟨g, cap, cur, rfl, _⟩
  · exact ⟨_, _, rfl⟩
  · exact ⟨_, _, rfl⟩
theorem owns_at {w : World} {base n : Nat} {v : Value} {B : List Nat} (h : w.ownsRow base 5 1 v n (vals B)) (hB : Sm.allB B) (h0 : 0 < n) : ∃ g c, v = .slice (some ⟨g, 0, none⟩) n c ∧ n ≤ c ∧ n = B.length ∧ bytesAt w g 0 B := by
  obtain ⟨q, c, rfl, hb⟩ := owns_form h hB
  have hl := hb.size
  obtain ⟨g, o, hp, hx⟩ := hb.ne (by rintro rfl; simp at hl; omega)
  rcases h.2 with ⟨hv, _⟩ | ⟨g', cap, cur, hv, _, _, hle, _⟩
  · cases hv; omega
  · simp only [Value.slice.injEq] at hv
    obtain ⟨hq, -, rfl⟩ := hv
    rw [hp] at hq
    simp only [Option.some.injEq, Addr.mk.injEq] at hq
    obtain ⟨rfl, rfl, -⟩ := hq
    exact ⟨g, c, by rw [hp], hle, hl, hx⟩
def B3Rel (w : World) (F : List Nat) (M : Nat) (h i : Value) (wr : World) : Prop :=
  ∃ k g : Nat, k ≤ M ∧ i = .int .i64 (64 * k : Nat) ∧ h = .slice (some ⟨g, 0, none⟩) 8 8 ∧ wr.heap[g]? = some (.cells (u32s (Sm.blocks F Sm.first k).list) 31 (0, 0)) ∧ Below w.heap.size w wr
theorem bytes_at (V : Sm.V8) (a r : Nat) (ha : a < 8) (hr : r < 4) : (Sm.bytesOf V).getD (4 * a + r) 0 = V.list.getD a 0 / 2 ^ (24 - 8 * r) % 256 :=
  match a, ha, r, hr with
  | 0, _, 0, _ => rfl
  | 0, _, 1, _ => rfl
  | 0, _, 2, _ => rfl
  | 0, _, 3, _ => (congrArg (· % 256) (Nat.div_one _)).symm
  | 1, _, 0, _ => rfl
  | 1, _, 1, _ => rfl
  | 1, _, 2, _ => rfl
  | 1, _, 3, _ => (congrArg (· % 256) (Nat.div_one _)).symm
  | 2, _, 0, _ => rfl
  | 2, _, 1, _ => rfl
  | 2, _, 2, _ => rfl
  | 2, _, 3, _ => (congrArg (· % 256) (Nat.div_one _)).symm
  | 3, _, 0, _ => rfl
  | 3, _, 1, _ => rfl
  | 3, _, 2, _ => rfl
  | 3, _, 3, _ => (congrArg (· % 256) (Nat.div_one _)).symm
  | 4, _, 0, _ => rfl
  | 4, _, 1, _ => rfl
  | 4, _, 2, _ => rfl
  | 4, _, 3, _ => (congrArg (· % 256) (Nat.div_one _)).symm
  | 5, _, 0, _ => rfl
  | 5, _, 1, _ => rfl
  | 5, _, 2, _ => rfl
  | 5, _, 3, _ => (congrArg (· % 256) (Nat.div_one _)).symm
  | 6, _, 0, _ => rfl
  | 6, _, 1, _ => rfl
  | 6, _, 2, _ => rfl
  | 6, _, 3, _ => (congrArg (· % 256) (Nat.div_one _)).symm
  | 7, _, 0, _ => rfl
  | 7, _, 1, _ => rfl
  | 7, _, 2, _ => rfl
  | 7, _, 3, _ => (congrArg (· % 256) (Nat.div_one _)).symm
def B4Rel (w : World) (V : Sm.V8) (i : Value) (wr : World) : Prop :=
  ∃ k : Nat, k ≤ 32 ∧ i = .int .i64 k ∧ wr.heap[w.heap.size]? = some (.cells (u8s ((Sm.bytesOf V).take k ++ zeros (32 - k))) 25 (0, 0)) ∧ Below w.heap.size w wr
def lenV : Value → Nat
  | .slice _ n _ => n
  | _ => 0
set_option maxRecDepth 100000 in
set_option maxHeartbeats 4000000 in
theorem with_any (T : List Nat) (p : Option Addr) (n c gk : Nat) (w : World) (hT : Tx w p n c T) (hl : T.length < 1000000) (hk : w.heap[gk]? = some (.cells (u32s Sm.ks) 31 (0, 0))) :
    Calls Try.prog 21 #[.slice p n c, .slice (some ⟨gk, 0, none⟩) 64 64] w fun e w' => e = .returned (.agg (u8s (Sm.sum T))) ∧ Below w.heap.size w w' := by
  have HT := Lib.hid hT
  have HN := Lib.hid hT.size
  have HK := Lib.hid hk
  have HZ := Lib.hid (zero_of_info Z25).1
  have hz := (zero_of_info Z25).1
  have hnl : n < 1000000 := by rw [HN.out]; exact hl
  clear hT hk
  obtain ⟨i5, hi, hi0, hi1, hi2⟩ := info_parts I5
  have HI := Lib.hid hi
  have HI0 := Lib.hid hi0
  have HI1 := Lib.hid hi1
  have HI2 := Lib.hid hi2
  clear hi hi0 hi1 hi2
  go_enter Try.func21, Try.ntmps21
  go_upto_region 1 with fail
  generalize hW0 : w.alloc (.cells (u8s (zeros 32)) 25) = W0
  obtain ⟨gd, hgd⟩ : ∃ gd, gd = w.heap.size := ⟨_, rfl⟩
  rw [← hgd]
  have HG0 := Lib.hid (show W0.heap[gd]? = some (.cells (u8s (zeros 32)) 25 (0, 0)) from by rw [hgd, ← hW0]; exact heap_alloc_new w _)
  have HS0 := Lib.hid (show W0.heap.size = gd + 1 from by rw [hgd, ← hW0]; simp)
  have hb0 : Below w.heap.size w W0 := by rw [← hW0]; exact (Below.refl _ _).alloc (Nat.le_refl _) _
  have HT0 := Lib.hid (HT.out.later hb0)
  have HK0 := Lib.hid (show W0.heap[gk]? = some (.cells (u32s Sm.ks) 31 (0, 0)) from (hb0.block gk (Array.getElem?_eq_some_iff.1 HK.out).1).trans HK.out)
  have HB0 := Lib.hid hb0
  have HGD := Lib.hid hgd
  clear hb0 HT HK hW0 hgd hz
  obtain ⟨z, hz⟩ : ∃ z, z = T.length := ⟨_, rfl⟩
  have hnz : n = z := by rw [HN.out, hz]
  subst hnz
  go_cut [5] (fun s wx => ∃ q d, s = .slice q (n + 1) d ∧ wx.ownsRow W0.heap.size 5 1 (.slice q (n + 1) d) (n + 1) (vals (T ++ [128])) ∧ Below W0.heap.size W0 wx)
  case first =>
    have hE : (W0.alloc (.cells #[] 5)).ownsRow W0.heap.size 5 1 (.slice (some ⟨W0.heap.size, 0, none⟩) 0 0) 0 (vals ([] : List Nat)) := owns_mk (L := []) (heap_alloc_new W0 _) rfl (Nat.le_refl _) (by unfold maxLen; omega) (Nat.le_refl _)
    have HE := Lib.hid hE
    have HEB := Lib.hid (show Below W0.heap.size W0 (W0.alloc (.cells #[] 5)) from (Below.refl _ _).alloc (Nat.le_refl _) _)
    clear hE
    have HZZ := Lib.hid hz
    clear hz
    rcases HT0.out.at' with ⟨hp, hc⟩ | ⟨x, hp, _⟩
    · subst hp
      subst hc
      obtain rfl : n = 0 := by have := HT0.out.le; omega
      have HA0 := Lib.hid (show T = [] from List.length_eq_zero_iff.1 HZZ.out.symm)
      have HNW := Lib.hid (show ((W0.alloc (.cells #[] 5)).alloc (.cells (u8s [128]) 5)).heap[W0.heap.size + 1]? = some (.cells (u8s [128]) 5 (0, 0)) from by
        have := heap_alloc_new (W0.alloc (.cells #[] 5)) (.cells (u8s [128]) 5)
        rw [show (W0.alloc (.cells #[] 5)).heap.size = W0.heap.size + 1 from by simp] at this
        exact this)
      go_wp2_with (at_builtin; first | (refine wpList_append_own_none (by rfl) (.tmp 12) (.tmp 13) 22 (by rfl) W0.heap.size 5 i5 1 A22 HI.out _ 0 _ (by rfl) HE.out (by rfl) ?_) | (refine wpList_append_own _ (by rfl) (.tmp 14) (.tmp 15) 22 (by rfl) W0.heap.size 5 i5 (.int .u8 0) 1 1 A22 HI.out HI0.out HI1.out HI2.out (by rfl) (by decide) _ 0 [] (by rfl) (HE.out.alloc _) ⟨W0.heap.size + 1, 0, none⟩ 1 1 (vals [128]) (by rfl) (by rfl) (cells_of_row (L := [128]) HNW.out) (vals_one _) (by unfold maxLen; omega) (by omega) (by simp; omega) ?_; intro v4 w4 hown4 hgrow4 _; obtain ⟨q4, d4, hv4⟩ := sl_of_owns hown4; have HO4 := Lib.hid hown4; have HG4 := Lib.hid hgrow4; have HV4 := Lib.hid hv4; rw [hv4]; clear hown4 hgrow4 hv4))
      go_meet
      refine ⟨q4, d4, rfl, ?_, (HEB.out.alloc (by simp) (.cells (u8s [128]) 5)).grown HG4.out (by simp; omega) (fun k hk => by simp [Value.ownBlock] at hk; omega)⟩
      have ho := HO4.out
      rw [HV4.out] at ho
      rw [HA0.out]
      exact ho
    · subst hp
      go_wp2_with (at_builtin; first | (refine wpList_append_own _ (by rfl) (.tmp 12) (.tmp 13) 22 (by rfl) W0.heap.size 5 i5 (.int .u8 0) 1 1 A22 HI.out HI0.out HI1.out HI2.out (by rfl) (by decide) _ 0 [] (by rfl) HE.out x n c (vals T) (by rfl) (by rw [vals_length, Nat.mul_one]; exact HZZ.out.symm) ((HT0.out.later HEB.out).cells) (vals_one _) (by unfold maxLen; omega) (by omega) (by simp) ?_; intro v3 w3 hown3 hgrow3 _; rw [Nat.zero_add, List.nil_append] at hown3; have HO3 := Lib.hid hown3; have HB3 := Lib.hid (HEB.out.grown hgrow3 (by simp) (fun k hk => by simp [Value.ownBlock] at hk; omega)); clear hown3 hgrow3) | (refine wpList_append_own _ (by rfl) (.tmp 14) (.tmp 15) 22 (by rfl) W0.heap.size 5 i5 (.int .u8 0) 1 1 A22 HI.out HI0.out HI1.out HI2.out (by rfl) (by decide) _ n (vals T) (by rfl) (HO3.out.alloc _) ⟨w3.heap.size, 0, none⟩ 1 1 (vals [128]) (by rfl) (by rfl) (cells_of_row (L := [128]) (heap_alloc_new w3 _)) (vals_one _) (by unfold maxLen; omega) (by omega) (by have := HB3.out.size; simp; omega) ?_; intro v4 w4 hown4 hgrow4 _; obtain ⟨q4, d4, hv4⟩ := sl_of_owns hown4; have HO4 := Lib.hid hown4; have HG4 := Lib.hid hgrow4; have HV4 := Lib.hid hv4; rw [hv4]; clear hown4 hgrow4 hv4))
      go_meet
      refine ⟨q4, d4, rfl, ?_, (HB3.out.alloc HB3.out.size (.cells (u8s [128]) 5)).grown HG4.out (by have := HB3.out.size; simp; omega) (fun k hk => ((HO3.out.alloc (.cells (u8s [128]) 5)).lt k hk).1)⟩
      have ho := HO4.out
      rw [HV4.out, ← vals_append] at ho
      exact ho
  case rest =>
  obtain ⟨q1, d1, rfl, ho1, hb1⟩ := hcut
  obtain ⟨w1, hw1⟩ : ∃ w1, w1 = wc := ⟨_, rfl⟩
  rw [← hw1] at ho1 hb1 ⊢
  clear hw1
  have HST := Lib.hid (show W1Rel W0 T (pad n) (.slice q1 (n + 1) d1) w1 from ⟨0, q1, d1, by omega, by rw [← hz], by rw [← hz]; exact ho1, hb1⟩)
  have HZZ := Lib.hid hz
  clear ho1 hb1 hz
  obtain ⟨m, hm⟩ : ∃ m, m = pad n := ⟨_, rfl⟩
  rw [← hm] at HST
  have hm64 : m < 64 := by rw [hm]; unfold pad; omega
  have hmm : (n + 1 + m) % 64 = 56 := by rw [hm]; unfold pad; omega
  have HM := Lib.hid hm
  clear hm
  go_wp2_with fail
  go_loopw [5] (fun s wr => W1Rel W0 T m s wr) (fun s _ => m - (lenV s - n - 1))
  case atStart => exact HST.out
  case round =>
    obtain ⟨k, q, d, hkm, rfl, ho, hb⟩ := hrel
    rw [← HZZ.out] at ho ⊢
    clear HST
    have HO := Lib.hid ho
    have HB := Lib.hid hb
    clear ho hb
    obtain ⟨L, hL⟩ : ∃ L, L = n + 1 + k := ⟨_, rfl⟩
    rw [← hL] at HO ⊢
    by_cases hlt : k < m
    · have hne : ((L : Int) % 64 != 56) = true := by simp; omega
      have hLl : L < 1000100 := by omega
      have HL := Lib.hid hL
      clear hL
      go_wp2_with (at_builtin; refine wpList_append_own _ (by rfl) (.tmp 21) (.tmp 22) 22 (by rfl) W0.heap.size 5 i5 (.int .u8 0) 1 1 A22 HI.out HI0.out HI1.out HI2.out (by rfl) (by decide) _ L _ (by rfl) (HO.out.alloc _) ⟨wr.heap.size, 0, none⟩ 1 1 (vals [0]) (by rfl) (by rfl) (cells_of_row (L := [0]) (heap_alloc_new wr _)) (vals_one _) (by unfold maxLen; omega) (by omega) (by have := HB.out.size; simp; omega) ?_; intro v4 w4 hown4 hgrow4 _; obtain ⟨q4, d4, hv4⟩ := sl_of_owns hown4; have HO4 := Lib.hid hown4; have HG4 := Lib.hid hgrow4; have HV4 := Lib.hid hv4; rw [hv4]; clear hown4 hgrow4 hv4)
      go_roundw
      case rel =>
        have ho := HO4.out
        rw [HV4.out, ← vals_append, ← zs_succ] at ho
        have hLL : L + 1 = T.length + 1 + (k + 1) := by rw [← HZZ.out, HL.out]; omega
        rw [hLL] at ho
        exact ⟨k + 1, q4, d4, by omega, by rw [hLL], ho, (HB.out.alloc HB.out.size _).grown HG4.out (by have := HB.out.size; simp; omega) (fun i hi => ((HO.out.alloc (.cells (u8s [0]) 5)).lt i hi).1)⟩
      case measure => have := HL.out; simp [lenV]; omega
    · obtain rfl : m = k := by omega
      have hne : ((L : Int) % 64 != 56) = false := by simp; omega
      have hLl : L < 1000100 := by omega
      have HL := Lib.hid hL
      clear hL
      go_wp2_with fail
      rw [show (8 * (n : Int)) = ((8 * n : Nat) : Int) from by omega]
      obtain ⟨N, hN⟩ : ∃ N, N = 8 * n := ⟨_, rfl⟩
      rw [← hN]
      have hNl : N < 10000000 := by omega
      have hst2 : RefRel W0 L (zs T m) N (.slice q L d) (.int .i64 0) wr := ⟨0, by omega, rfl, by rw [List.take_zero, List.append_nil]; exact HO.out, HB.out⟩
      have HST2 := Lib.hid hst2
      have HNN := Lib.hid hN
      clear hst2 hN hne
      go_loopw [5, 7] (fun v i wr' => RefRel W0 L (zs T m) N v i wr') (fun _ i _ => 8 - (intOf i).toNat)
      case atStart => exact HST2.out
      case round =>
        obtain ⟨j, hj, rfl, ho2, hb2⟩ := hrel
        have HO2 := Lib.hid ho2
        have HB2 := Lib.hid hb2
        clear ho2 hb2 HST2
        by_cases hj8 : j < 8
        · obtain ⟨y, hy⟩ : ∃ y, y = N / 2 ^ (56 - 8 * j) := ⟨_, rfl⟩
          have hsh : (N : Int) / 2 ^ (56 - 8 * j) = (y : Int) := by rw [hy, Int.natCast_ediv, Int.natCast_pow]; rfl
          have HYY := Lib.hid hy
          clear hy
          go_wp2_with (at_builtin; refine wpList_append_own _ (by rfl) (.tmp 32) (.tmp 41) 22 (by rfl) W0.heap.size 5 i5 (.int .u8 0) 1 1 A22 HI.out HI0.out HI1.out HI2.out (by rfl) (by decide) _ (L + j) _ (by rfl) (HO2.out.alloc _) ⟨wr.heap.size, 0, none⟩ 1 1 (vals [y % 256]) (by rfl) (by rfl) (cells_of_row (L := [y % 256]) (heap_alloc_new wr _)) (vals_one _) (by unfold maxLen; omega) (by omega) (by have := HB2.out.size; simp; omega) ?_; intro v4 w4 hown4 hgrow4 _)
          have hb4 : Below W0.heap.size W0 w4 := (HB2.out.alloc HB2.out.size _).grown hgrow4 (by have := HB2.out.size; simp; omega) (fun i hi => ((HO2.out.alloc (.cells (u8s [y % 256]) 5)).lt i hi).1)
          have e : w4.ownsRow W0.heap.size 5 1 v4 (L + (j + 1)) (vals (zs T m ++ (Sm.bigs N).take (j + 1))) := by
            rw [bigs_step N j hj8, ← List.append_assoc, vals_append _ [Sm.big N j], big_at N j hj8, ← HYY.out]
            exact hown4
          have HE := Lib.hid e
          have HB4 := Lib.hid hb4
          clear hown4 hgrow4 e hb4
          go_wp2_with fail
          go_roundw
          case rel => exact ⟨j + 1, by omega, by go_num, HE.out, HB4.out⟩
          case measure => simp [intOf]; omega
        · obtain rfl : j = 8 := by omega
          rw [show ((8 : Nat) : Int) = (8 : Int) from rfl]
          have ho8 := HO2.out
          rw [show (Sm.bigs N).take 8 = Sm.bigs N from rfl, HNN.out, HZZ.out, HM.out, HZZ.out, ← full_zs] at ho8
          obtain ⟨gb, cb, rfl, hcb, hfl, hba⟩ := owns_at ho8 (full_ok HT0.out.ok) (by omega)
          have hf0 := full_mod T
          obtain ⟨F, hF⟩ : ∃ F, F = Sm.full T := ⟨_, rfl⟩
          rw [← hF] at hfl hba hf0
          obtain ⟨S, hS⟩ : ∃ S, S = L + 8 := ⟨_, rfl⟩
          rw [← hS] at hfl hcb ⊢
          have hSl : S < 1000200 := by omega
          rw [← hfl] at hf0
          obtain ⟨M, hM⟩ : ∃ M, S = 64 * M := ⟨S / 64, by omega⟩
          have HFL := Lib.hid hfl
          have HBA := Lib.hid hba
          have HF := Lib.hid hF
          have HFO := Lib.hid (show Sm.allB F from by rw [hF]; exact full_ok HT0.out.ok)
          have HMM := Lib.hid hM
          have HSS := Lib.hid hS
          have HCB := Lib.hid hcb
          clear hfl hba hF ho8 hf0 hM hS hcb HO2 HNN HO HL
          go_wp2_with fail
          obtain ⟨w2, hw2⟩ : ∃ w2, w2 = wr.alloc (.cells (u32s Sm.first.list) 31) := ⟨_, rfl⟩
          rw [show wr.alloc (.cells #[.int .u32 1779033703, .int .u32 3144134277, .int .u32 1013904242, .int .u32 2773480762, .int .u32 1359893119, .int .u32 2600822924, .int .u32 528734635, .int .u32 1541459225] 31) = w2 from by rw [hw2]; rfl]
          have hb2 : Below W0.heap.size W0 w2 := by rw [hw2]; exact HB2.out.alloc HB2.out.size _
          have hwb : Below wr.heap.size wr w2 := by rw [hw2]; exact (Below.refl _ _).alloc (Nat.le_refl _) _
          have hgbl : gb < wr.heap.size := by
            have := HBA.out 0 (by rw [← HFL.out, HSS.out]; omega)
            exact block_lt_of_cell this
          have HBA2 := Lib.hid (show bytesAt w2 gb 0 F from fun i hi => (hwb.cell (p := ⟨gb, 0 + i, none⟩) hgbl).trans (HBA.out i hi))
          have HGB := Lib.hid (Nat.lt_of_lt_of_le hgbl hwb.size)
          have HB2' := Lib.hid hb2
          have HK2 := Lib.hid (show w2.heap[gk]? = some (.cells (u32s Sm.ks) 31 (0, 0)) from (hb2.block gk (Array.getElem?_eq_some_iff.1 HK0.out).1).trans HK0.out)
          have HG2 := Lib.hid (show w2.heap[gd]? = some (.cells (u8s (zeros 32)) 25 (0, 0)) from (hb2.block gd (Array.getElem?_eq_some_iff.1 HG0.out).1).trans HG0.out)
          have hst3 : B3Rel w2 F M (.slice (some ⟨wr.heap.size, 0, none⟩) 8 8) (.int .i64 0) w2 := ⟨0, wr.heap.size, by omega, rfl, rfl, by rw [hw2]; exact heap_alloc_new wr _, Below.refl _ _⟩
          have HST3 := Lib.hid hst3
          clear hb2 hwb hgbl hst3 hw2 HB2 HBA
          go_loopw [8, 9] (fun h i wr => B3Rel w2 F M h i wr) (fun _ i _ => 64 * M - (intOf i).toNat)
          case atStart => exact HST3.out
          case round =>
            obtain ⟨k, g, hkM, rfl, rfl, hrow, hb⟩ := hrel
            have HR := Lib.hid hrow
            have HB := Lib.hid hb
            clear HST3 hrow hb
            obtain ⟨I, hI⟩ : ∃ I, I = 64 * k := ⟨_, rfl⟩
            rw [← hI]
            have HII := Lib.hid hI
            by_cases hlt : k < M
            · have hIS : I + 64 ≤ S := by have := HMM.out; omega
              have hIc : I + 64 ≤ cb := by have := HCB.out; omega
              clear hI
              go_wp2_with fail
              obtain ⟨V, hV⟩ : ∃ V, V = Sm.blocks F Sm.first k := ⟨_, rfl⟩
              have hVo : V.ok := by rw [hV]; exact Sm.blocks_ok Sm.first_ok k
              have hr := HR.out
              rw [← hV] at hr
              have hgr : g < wr.heap.size := (Array.getElem?_eq_some_iff.1 hr).1
              have hba : bytesAt wr gb I (F.drop I) := fun i hi => by
                have := (HBA2.out.drop I) i hi
                rw [Nat.zero_add] at this
                exact (HB.out.cell (p := ⟨gb, I + i, none⟩) HGB.out).trans this
              have hkk : wr.heap[gk]? = some (.cells (u32s Sm.ks) 31 (0, 0)) := (HB.out.block gk (Array.getElem?_eq_some_iff.1 HK2.out).1).trans HK2.out
              refine (refturn_any V hVo (F.drop I) Sm.ks (Sm.allB_drop HFO.out I) Sm.ks_ok (by rw [List.length_drop, ← HFL.out]; omega) rfl g gb I (cb - I) gk (by omega) wr hr hba hkk).mono ?_
              rintro e w5 ⟨g5, rfl, hr5, hg5, hb5⟩
              have HR5 := Lib.hid hr5
              have HB5 := Lib.hid hb5
              have HV := Lib.hid hV
              clear hr5 hb5 hV hr hba hkk
              go_wp2_with fail
              go_roundw
              case rel =>
                refine ⟨k + 1, g5, by omega, by rw [show (((64 * (k + 1) : Nat) : Int)) = (I : Int) + 64 from by have := HII.out; omega], rfl, ?_, HB.out.trans (HB5.out.mono HB.out.size)⟩
                rw [Sm.blocks, ← HV.out, ← HII.out]
                exact HR5.out
              case measure => have := HII.out; have := HMM.out; simp [intOf]; omega
            · have hIS : I = S := by have := HMM.out; omega
              clear hI
              have hz := HZ.out
              go_wp2_with fail
              obtain ⟨w3, hw3⟩ : ∃ w3, w3 = wr := ⟨_, rfl⟩
              rw [← hw3] at HR HB ⊢
              obtain ⟨V, hV⟩ : ∃ V, V = Sm.blocks F Sm.first k := ⟨_, rfl⟩
              have hVo : V.ok := by rw [hV]; exact Sm.blocks_ok Sm.first_ok k
              have hr := HR.out
              rw [← hV] at hr
              have hsum : Sm.bytesOf V = Sm.sum T := by
                rw [hV, Sm.sum, ← HF.out, ← HFL.out, HMM.out, Nat.mul_div_cancel_left M (by omega), show k = M from by omega]
              have HR3 := Lib.hid hr
              have HGR := Lib.hid (Array.getElem?_eq_some_iff.1 hr).1
              have HVO := Lib.hid hVo
              have HSUM := Lib.hid hsum
              have hst4 : B4Rel w3 V (.int .i64 0) (w3.alloc (.cells (u8s (zeros 32)) 25)) := ⟨0, by omega, rfl, heap_alloc_new w3 _, (Below.refl _ _).alloc (Nat.le_refl _) _⟩
              have HST4 := Lib.hid hst4
              clear hw3 hV hr hVo hsum hst4 hz HR
              go_loopw [11] (fun i wr => B4Rel w3 V i wr) (fun i _ => 32 - (intOf i).toNat)
              case atStart => exact HST4.out
              case round =>
                obtain ⟨k4, hk4, rfl, hrow, hb4⟩ := hrel
                have HR4 := Lib.hid hrow
                have HB4 := Lib.hid hb4
                clear hrow hb4 HST4
                by_cases hlt4 : k4 < 32
                · obtain ⟨a, ha⟩ : ∃ a, a = k4 / 4 := ⟨_, rfl⟩
                  obtain ⟨r, hr⟩ : ∃ r, r = k4 % 4 := ⟨_, rfl⟩
                  have hqa : (k4 : Int) / 4 = (a : Int) := by omega
                  have hqr : (k4 : Int) % 4 = (r : Int) := by omega
                  have ha8 : a < 8 := by omega
                  have hr4 : r < 4 := by omega
                  have hbk := bytes_at V a r ha8 hr4
                  rw [show 4 * a + r = k4 from by omega] at hbk
                  have cx : wr.cell? ⟨g, a, none⟩ = some (.int .u32 (V.list.getD a 0 : Nat)) := (HB4.out.cell (p := ⟨g, a, none⟩) HGR.out).trans (u32s_cell HR3.out a ha8)
                  have bx : V.list.getD a 0 < 4294967296 := v8_lt HVO.out a
                  obtain ⟨x, hx⟩ : ∃ x, x = V.list.getD a 0 := ⟨_, rfl⟩
                  rw [← hx] at cx bx hbk
                  obtain ⟨y, hy⟩ : ∃ y, y = x / 2 ^ (24 - 8 * r) := ⟨_, rfl⟩
                  have hsh : (x : Int) / 2 ^ (24 - 8 * r) = (y : Int) := by rw [hy, Int.natCast_ediv, Int.natCast_pow]; rfl
                  rw [← hy] at hbk
                  have htk : ((Sm.bytesOf V).take k4).length = k4 := by rw [List.length_take]; exact Nat.min_eq_left (Nat.le_of_lt hlt4)
                  have hrw := HR4.out
                  rw [show 32 - k4 = (32 - (k4 + 1)) + 1 from by omega, zeros_succ (Nat.succ_pos _), Nat.succ_sub_one] at hrw
                  have ck : wr.cell? ⟨w3.heap.size, k4, none⟩ = some (.int .u8 (((Sm.bytesOf V).take k4 ++ 0 :: zeros (32 - (k4 + 1))).getD k4 0 : Nat)) := u8s_cell hrw k4 (by rw [List.length_append, htk]; simp)
                  have fk : wr.frozen? ⟨w3.heap.size, k4, none⟩ = false := frozen_of_row wr _ k4 _ _ hrw
                  have hsucc : (Sm.bytesOf V).take (k4 + 1) = (Sm.bytesOf V).take k4 ++ [y % 256] := by
                    rw [List.take_succ_eq_append_getElem (show k4 < (Sm.bytesOf V).length from hlt4), ← hbk, List.getD_eq_getElem?_getD, List.getElem?_eq_getElem (show k4 < (Sm.bytesOf V).length from hlt4)]; rfl
                  have HRW := Lib.hid hrw
                  have HTK := Lib.hid htk
                  have HSU := Lib.hid hsucc
                  have k0 : (0 : Int) ≤ k4 := by omega
                  clear hx hy ha hr hbk htk hrw hsucc HR4
                  go_wp2_with fail
                  go_roundw
                  case rel =>
                    refine ⟨k4 + 1, by omega, by go_num, ?_, HB4.out.setCell (Nat.le_refl _) _⟩
                    rw [show (y : Int) % 256 = ((y % 256 : Nat) : Int) from by omega, heap_setCell_same _ _ _ _ _ _ HRW.out, u8s_set _ _ _ _ k4 HTK.out, HSU.out, List.append_assoc]
                    rfl
                  case measure => simp [intOf]; omega
                · obtain rfl : k4 = 32 := by omega
                  have hrow : wr.heap[w3.heap.size]? = some (.cells (u8s (Sm.bytesOf V)) 25 (0, 0)) := HR4.out
                  have HR5 := Lib.hid hrow
                  have hg3 : gd < w3.heap.size := Nat.lt_of_lt_of_le (Array.getElem?_eq_some_iff.1 HG2.out).1 HB.out.size
                  have HC := Lib.hid (show wr.heap[gd]? = some (.cells (u8s (zeros 32)) 25 (0, 0)) from (HB4.out.block gd hg3).trans ((HB.out.block gd (Array.getElem?_eq_some_iff.1 HG2.out).1).trans HG2.out))
                  have hbw : Below w.heap.size w wr := by
                    have h3 : Below W0.heap.size W0 w3 := HB2'.out.trans (HB.out.mono HB2'.out.size)
                    have h4 : Below W0.heap.size W0 wr := h3.trans (HB4.out.mono h3.size)
                    exact HB0.out.trans (h4.mono HB0.out.size)
                  have HBW := Lib.hid hbw
                  clear hrow hg3 hbw HR4
                  go_wp2_with (first | (refine wpList_load_row (by rfl) 25 _ (by rfl) w3.heap.size (by rfl) 25 _ (0, 0) _ HR5.out A25 (by rfl) (by exact S25) ?_) | (refine wpList_store_row (by rfl) 25 _ _ (by rfl) gd (u8s (Sm.bytesOf V)) (by rfl) (by rfl) _ _ HC.out (by exact S25) (by rfl) (u8s_one _) ?_))
                  refine ret_row 4 (by kernel_rfl) gd _ _ A25 S25 rfl (setRow_heap _ _ _ _ _ _ HC.out) rfl ⟨by rw [← HSUM.out], ?_⟩
                  exact Below.setRow HBW.out (by rw [HGD.out]; exact Nat.le_refl _) _
end Go.Proofs.Ytgdipdmpmaemjaa
