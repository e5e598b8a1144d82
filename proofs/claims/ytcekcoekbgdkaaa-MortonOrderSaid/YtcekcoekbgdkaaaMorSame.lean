/- indentureref02.Same of any two rows; indentureref05.Point. -/
import Derived.Test.YtcekcoekbgdkaaaMorPoint
namespace Go.Proofs.Ytcekcoekbgdkaaa
open Go.RowKit

def SamRel (w : World) (R S : List Int) (n : Nat) (i : Value) (wr : World) : Prop := ∃ k j : Nat, k ≤ n ∧ i = .int .i64 k ∧ (∀ t, t < k → R.getD t 0 = S.getD t 0) ∧ wr = w.drewN j
theorem ret_dec {p : Prop} [Decidable p] (h : p) : Ending.returned (.bool true) = Ending.returned (.bool (decide p)) := by rw [decide_eq_true h]
theorem ret_ndec {p : Prop} [Decidable p] (h : ¬ p) : Ending.returned (.bool false) = Ending.returned (.bool (decide p)) := by rw [decide_eq_false h]
set_option maxRecDepth 100000 in
set_option maxHeartbeats 1000000 in
theorem msame_any (p q : Option Addr) (n c m e : Nat) (R S : List Int) (w : World) (h : Ints w p n c R) (h2 : Ints w q m e S) (hn9 : n ≤ 9223372036854775807) :
    Calls Try.prog 12 #[.slice p n c, .slice q m e] w fun e w' => e = .returned (.bool (decide (R = S))) ∧ ∃ j, w' = w.drewN j := by
  have H1 := Lib.hid h
  have H2 := Lib.hid h2
  clear h h2
  by_cases hn : (n : Int) = m
  case neg =>
    have hne : ¬ R = S := fun h => hn (by rw [H1.out.size, H2.out.size, h])
    have HNE := Lib.hid hne
    clear hne
    go_enter Try.func12, Try.ntmps12
    go_wp2_with fail
    go_ret
    exact ⟨ret_ndec HNE.out, 0, rfl⟩
  obtain rfl : m = n := by omega
  go_enter Try.func12, Try.ntmps12
  go_wp2_with fail
  go_loopw [5] (fun i wr => SamRel w R S m i wr) (fun i _ => m - (intOf i).toNat)
  case atStart => exact ⟨0, 0, by omega, rfl, fun t ht => by omega, rfl⟩
  case round =>
    obtain ⟨k, j, hk, rfl, heq, rfl⟩ := hrel
    have HL := Lib.hid heq
    clear heq
    by_cases hlt : k < m
    · obtain ⟨gx, o, rfl, hcx⟩ := H1.out.cell k hlt
      obtain ⟨gy, o2, rfl, hcy⟩ := H2.out.cell k hlt
      have i1 : (0 : Int) ≤ k ∧ (k : Int) < m := by omega
      have HS := Lib.hid (show R.getD k 0 = S.getD k 0 → ∀ t, t < k + 1 → R.getD t 0 = S.getD t 0 from fun h t ht => by
        by_cases c : t = k
        · rw [c]; exact h
        · exact HL.out t (by omega))
      have HF := Lib.hid (show ¬ R.getD k 0 = S.getD k 0 → ¬ R = S from fun h h3 => h (by rw [h3]))
      generalize R.getD k 0 = x at *
      generalize S.getD k 0 = y at *
      by_cases hxy : x = y
      · subst hxy
        go_upto_region 6 with fail
        go_quiet (fail)
        go_wp2_with fail
        go_roundw
        case rel => exact ⟨k + 1, j + nq, by omega, by go_num, HS.out rfl, rfl⟩
        case measure => simp [intOf]; omega
      · go_upto_region 6 with fail
        go_quiet (fail)
        go_wp2_with fail
        go_ret
        exact ⟨ret_ndec (HF.out hxy), j + nq, by first | rfl | (simp only [World.drewN]; done) | simp [World.drewN_drewN]⟩
    · obtain rfl : k = m := by omega
      have HE := Lib.hid (Mm.ext_getI (H1.out.size.symm.trans H2.out.size) (fun i hi => HL.out i (by rw [H1.out.size]; exact hi)))
      go_wp2_with fail
      go_ret
      exact ⟨ret_dec HE.out, _, rfl⟩
/-- The first k numbers of a point. -/
def ppt (B : List Nat) (d k : Nat) : List Int := (List.range k).map (Mm.numAt (Mm.bitOf B) d)
def ivals (L : List Int) : List Value := L.map (Value.int .i64)
theorem ivals_one (L : List Int) : ∀ u ∈ ivals L, u.oneCell' = true := by
  intro u hu
  simp only [ivals, List.mem_map] at hu
  obtain ⟨x, _, rfl⟩ := hu
  rfl
theorem ppt_succ (B : List Nat) (d k : Nat) : ivals (ppt B d (k + 1)) = ivals (ppt B d k) ++ ivals [Mm.numAt (Mm.bitOf B) d k] := by simp [ppt, ivals, List.range_succ]
theorem ivals_cells {w : World} {g : Nat} {L : List Int} {t : TypeId} (hg : w.heap[g]? = some (.cells (i64s L) t (0, 0))) : ∀ j u, (ivals L)[j]? = some u → w.cell? ((⟨g, 0, none⟩ : Addr).add j) = some u := fun j u hu => by
  rw [Addr.add_mid, Nat.zero_add, cell_of_row w g j _ _ _ hg, ← Array.getElem?_toList]
  exact hu
theorem ints_of_owns {w : World} {base n : Nat} {v : Value} {L : List Int} (h : w.ownsRow base 2 1 v n (ivals L)) (hL : Mm.inI L) : ∃ q c, v = .slice q n c ∧ Ints w q n c L := by
  have hl : n = L.length := by have := h.1; rw [ivals, List.length_map, Nat.mul_one] at this; exact this.symm
  rcases h.2 with ⟨rfl, h0⟩ | ⟨g, cap, cur, rfl, hb, hg, hle, hm, hs, ht⟩
  · subst h0
    have hb : L = [] := List.length_eq_zero_iff.1 hl.symm
    exact ⟨none, 0, rfl, hl, Nat.le_refl _, hL, Or.inl hb⟩
  · refine ⟨_, cap, rfl, hl, hle, hL, Or.inr ⟨g, 0, rfl, fun i hi => ?_⟩⟩
    rw [Nat.zero_add, cell_of_row w g i cur _ _ hg]
    have e : (cur.toList.take (n * 1))[i]? = (ivals L)[i]? := by rw [ht]
    rw [List.getElem?_take_of_lt (by omega)] at e
    simp [ivals, List.getElem?_eq_getElem hi] at e
    rw [e]
    simp [List.getD_eq_getElem?_getD, List.getElem?_eq_getElem hi]
theorem num_sub (a : Nat) (ha : a < 18446744073709551616) : IntKind.i64.wrap (IntKind.u64.wrap ((a : Int) - 9223372036854775808)) = (a : Int) - 9223372036854775808 := by
  rw [IntKind.wrap_u64, IntKind.wrap_i64]
  omega
def RPOut (w : World) (B : List Nat) (d : Nat) (v i : Value) (wr : World) : Prop := ∃ k : Nat, k ≤ d ∧ i = .int .i64 k ∧ wr.ownsRow w.heap.size 2 1 v k (ivals (ppt B d k)) ∧ Below w.heap.size w wr
def OwnInts (w : World) (L : List Int) (e : Ending) (w' : World) : Prop := ∃ q c, e = .returned (.slice q L.length c) ∧ Ints w' q L.length c L ∧ Below w.heap.size w w'
set_option maxRecDepth 100000 in
set_option maxHeartbeats 4000000 in
theorem refpoint_any (B : List Nat) (p : Option Addr) (n c d : Nat) (w : World) (h : Bytes w p n c B) (h1 : 1 ≤ d) (h8 : d ≤ 8) (hn : n = 8 * d) :
    Calls Try.prog 15 #[.slice p n c, .int .i64 d] w (OwnInts w (Mm.point B d)) := by
  subst hn
  obtain ⟨i2, hi, hi0, hi1, hi2⟩ := info_parts I2
  have HI := Lib.hid hi
  have HI0 := Lib.hid hi0
  have HI1 := Lib.hid hi1
  have HI2 := Lib.hid hi2
  have hB := Lib.hid h
  clear h hi hi0 hi1 hi2
  go_enter Try.func15, Try.ntmps15
  go_wp2_with fail
  go_loopw [5, 6] (fun v i wr => RPOut w B d v i wr) (fun _ i _ => d - (intOf i).toNat)
  case atStart => exact ⟨0, by omega, rfl, World.ownsRow_nil w _ _ _, Below.refl _ _⟩
  case round =>
    obtain ⟨k, hk, rfl, ho, hb⟩ := hrel
    have HO := Lib.hid ho
    have HB := Lib.hid hb
    clear ho hb
    by_cases hlt : k < d
    · have hB1 : Bytes wr p (8 * d) c B := hB.out.later HB.out (hB.out.lt)
      have HB1 := Lib.hid hB1
      clear hB1
      go_wp2_with fail
      go_loop [7, 8] (fun n i => PIn B d k n i) (fun _ i => 64 - (intOf i).toNat)
      case atStart => exact ⟨0, by omega, rfl, rfl⟩
      case round =>
        obtain ⟨l, hl, rfl, rfl⟩ := hrel
        have hbl := Mm.bin_lt (g := fun l => Mm.bitOf B (l * d + k)) (fun _ => Mm.bitOf_lt B _) l
        by_cases hll : l < 64
        · have m0 : (0 : Int) ≤ (l : Int) * d := Int.mul_nonneg (by omega) (by omega)
          have m1 : l * d + k < 64 * d := Mm.place_lt hlt hll
          have m2 : ((l * d + k : Nat) : Int) = (l : Int) * d + k := by simp
          have m3 : (l : Int) * d + k < 64 * d := by omega
          have hbs := Mm.bin_succ (fun l => Mm.bitOf B (l * d + k)) l
          have hpow : 2 ^ l ≤ 2 ^ 63 := Nat.pow_le_pow_right (by omega) (by omega)
          have hb63 : Mm.bin (fun l => Mm.bitOf B (l * d + k)) l < 9223372036854775808 := Nat.lt_of_lt_of_le hbl hpow
          have HBS := Lib.hid hbs
          have HM := Lib.hid m2
          have hbit := Mm.bitOf_lt B (l * d + k)
          have HBI := Lib.hid (bitI_of (B := B) (k := l * d + k) (i := (l : Int) * d + k) m2.symm)
          clear m2 hbs hbl hpow
          generalize Mm.bin (fun l => Mm.bitOf B (l * d + k)) l = a at *
          go_wp2_with fail
          refine (refbit_any B p (8 * d) c _ wr HB1.out (by omega) (by omega) (by omega)).mono ?_
          rintro e w5 ⟨rfl, rfl⟩
          rw [HBI.out]
          generalize Mm.bitOf B (l * d + k) = b at *
          go_wp2_with fail
          go_round
          case rel => exact ⟨l + 1, by omega, by go_num, by rw [HBS.out]; go_num⟩
          case measure => simp [intOf]; omega
        · obtain rfl : l = 64 := by omega
          have hnum := num_sub _ hbl
          have HN := Lib.hid (show (Mm.bin (fun l => Mm.bitOf B (l * d + k)) 64 : Nat) - 9223372036854775808 = Mm.numAt (Mm.bitOf B) d k from rfl)
          have HS := Lib.hid (ppt_succ B d k)
          have hbs := HB.out.size
          have HBS := Lib.hid hbs
          clear hbs
          generalize Mm.bin (fun l => Mm.bitOf B (l * d + k)) 64 = a at *
          go_wp2_with (at_builtin; refine wpList_append_own _ (by rfl) (.tmp 29) (.tmp 33) 23 (by rfl) w.heap.size 2 i2 (.int .i64 0) 1 8 URw HI.out HI0.out HI1.out HI2.out (by rfl) (by decide) _ k _ (by rfl) (HO.out.alloc _) ⟨wr.heap.size, 0, none⟩ 1 1 (ivals [(a : Int) - 9223372036854775808]) (by rfl) (by rfl) (ivals_cells (L := [(a : Int) - 9223372036854775808]) (heap_alloc_new wr _)) (ivals_one _) (by unfold maxLen; omega) (by omega) (by have := HBS.out; simp; omega) ?_; intro v4 w4 hown4 hgrow4 _)
          have hb4 : Below w.heap.size w w4 := (HB.out.alloc HB.out.size _).grown hgrow4 (by have := HBS.out; simp; omega) (fun i hi => ((HO.out.alloc (.cells (i64s [(a : Int) - 9223372036854775808]) 2)).lt i hi).1)
          rw [HN.out, ← HS.out] at hown4
          have HE := Lib.hid hown4
          have HB4 := Lib.hid hb4
          clear hown4 hgrow4 hb4 hnum
          go_wp2_with fail
          go_roundw
          case rel => exact ⟨k + 1, by omega, by go_num, HE.out, HB4.out⟩
          case measure => simp [intOf]; omega
    · obtain rfl : k = d := by omega
      have ho := HO.out
      rw [show ppt B k k = Mm.point B k from rfl] at ho
      obtain ⟨q, c2, rfl, hq⟩ := ints_of_owns ho (Mm.point_in B k)
      have HQ := Lib.hid hq
      clear ho hq
      go_wp2_with fail
      go_ret
      have hq := HQ.out
      have e : k = (Mm.point B k).length := (Mm.point_length B k).symm
      refine ⟨q, c2, ?_, ?_, HB.out⟩
      · rw [← e]; rfl
      · rw [← e]; exact hq
end Go.Proofs.Ytcekcoekbgdkaaa
