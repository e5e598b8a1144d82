/- MorRefPoint, ZrRegion, ZrCut, ZrHit, ZrFindFn. -/
import Derived.Test.YtbhpmigblkaihaaM2
import Derived.BigRegion
import Derived.Deep.RegionHeld3
/- indentureref05.Point. -/
namespace Go.Proofs.Ytbhpmigblkaihaa.Mo
open Go.RowKit

/-- The first k numbers of a point. -/
def ppt (B : List Nat) (d k : Nat) : List Int := (List.range k).map (Mm.numAt (Mm.bitOf B) d)
theorem ppt_succ (B : List Nat) (d k : Nat) : ivals (ppt B d (k + 1)) = ivals (ppt B d k) ++ ivals [Mm.numAt (Mm.bitOf B) d k] := by simp [ppt, ivals, List.range_succ]
theorem num_sub (a : Nat) (ha : a < 18446744073709551616) : IntKind.i64.wrap (IntKind.u64.wrap ((a : Int) - 9223372036854775808)) = (a : Int) - 9223372036854775808 := by
  rw [IntKind.wrap_u64, IntKind.wrap_i64]
  omega
def RPOut (w : World) (B : List Nat) (d : Nat) (v i : Value) (wr : World) : Prop := ∃ k : Nat, k ≤ d ∧ i = .int .i64 k ∧ wr.ownsRow w.heap.size 2 1 v k (ivals (ppt B d k)) ∧ Below w.heap.size w wr
def OwnInts (w : World) (L : List Int) (e : Ending) (w' : World) : Prop := ∃ q c, e = .returned (.slice q L.length c) ∧ Ints w' q L.length c L ∧ Below w.heap.size w w'
set_option maxRecDepth 100000 in
set_option maxHeartbeats 4000000 in
theorem refpoint_any (B : List Nat) (p : Option Addr) (n c d : Nat) (w : World) (h : Bytes w p n c B) (h1 : 1 ≤ d) (h8 : d ≤ 8) (hn : n = 8 * d) :
    Calls Try.prog 16 #[.slice p n c, .int .i64 d] w (OwnInts w (Mm.point B d)) := by
  subst hn
  obtain ⟨i2, hi, hi0, hi1, hi2⟩ := info_parts I2
  have HI := Lib.hid hi
  have HI0 := Lib.hid hi0
  have HI1 := Lib.hid hi1
  have HI2 := Lib.hid hi2
  have hB := Lib.hid h
  clear h hi hi0 hi1 hi2
  go_enter Try.func16, Try.ntmps16
  go_wp2_with fail
  go_loopw [5, 6] (fun v i wr => RPOut w B d v i wr) (fun _ i _ => d - (intOf i).toNat)
  case atStart => exact ⟨0, by omega, rfl, World.ownsRow_nil w _ _ _, Below.refl _ _⟩
  case round =>
    obtain ⟨k, hk, rfl, ho, hb⟩ := hrel
    have HO := Lib.hid ho
    have HB := Lib.hid hb
    clear ho hb
    by_cases hlt : k < d
    · have hB1 : Bytes wr p (8 * d) c B := hB.out.later HB.out (hB.out.lt)
      have HB1 := Lib.hid hB1
      clear hB1
      go_wp2_with fail
      go_loop [7, 8] (fun n i => PIn B d k n i) (fun _ i => 64 - (intOf i).toNat)
      case atStart => exact ⟨0, by omega, rfl, rfl⟩
      case round =>
        obtain ⟨l, hl, rfl, rfl⟩ := hrel
        have hbl := Mm.bin_lt (g := fun l => Mm.bitOf B (l * d + k)) (fun _ => Mm.bitOf_lt B _) l
        by_cases hll : l < 64
        · have m0 : (0 : Int) ≤ (l : Int) * d := Int.mul_nonneg (by omega) (by omega)
          have m1 : l * d + k < 64 * d := Mm.place_lt hlt hll
          have m2 : ((l * d + k : Nat) : Int) = (l : Int) * d + k := by simp
          have m3 : (l : Int) * d + k < 64 * d := by omega
          have hbs := Mm.bin_succ (fun l => Mm.bitOf B (l * d + k)) l
          have hpow : 2 ^ l ≤ 2 ^ 63 := Nat.pow_le_pow_right (by omega) (by omega)
          have hb63 : Mm.bin (fun l => Mm.bitOf B (l * d + k)) l < 9223372036854775808 := Nat.lt_of_lt_of_le hbl hpow
          have HBS := Lib.hid hbs
          have HM := Lib.hid m2
          have hbit := Mm.bitOf_lt B (l * d + k)
          have HBI := Lib.hid (bitI_of (B := B) (k := l * d + k) (i := (l : Int) * d + k) m2.symm)
          clear m2 hbs hbl hpow
          generalize Mm.bin (fun l => Mm.bitOf B (l * d + k)) l = a at *
          go_wp2_with fail
          refine (refbit_any B p (8 * d) c _ wr HB1.out (by omega) (by omega) (by omega)).mono ?_
          rintro e w5 ⟨rfl, rfl⟩
          rw [HBI.out]
          generalize Mm.bitOf B (l * d + k) = b at *
          go_wp2_with fail
          go_round
          case rel => exact ⟨l + 1, by omega, by go_num, by rw [HBS.out]; go_num⟩
          case measure => simp [intOf]; omega
        · obtain rfl : l = 64 := by omega
          have hnum := num_sub _ hbl
          have HN := Lib.hid (show (Mm.bin (fun l => Mm.bitOf B (l * d + k)) 64 : Nat) - 9223372036854775808 = Mm.numAt (Mm.bitOf B) d k from rfl)
          have HS := Lib.hid (ppt_succ B d k)
          have hbs := HB.out.size
          have HBS := Lib.hid hbs
          clear hbs
          generalize Mm.bin (fun l => Mm.bitOf B (l * d + k)) 64 = a at *
          go_wp2_with (at_builtin; refine wpList_append_own _ (by rfl) (.tmp 29) (.tmp 33) 24 (by rfl) w.heap.size 2 i2 (.int .i64 0) 1 8 URw HI.out HI0.out HI1.out HI2.out (by rfl) (by decide) _ k _ (by rfl) (HO.out.alloc _) ⟨wr.heap.size, 0, none⟩ 1 1 (ivals [(a : Int) - 9223372036854775808]) (by rfl) (by rfl) (ivals_cells (L := [(a : Int) - 9223372036854775808]) (heap_alloc_new wr _)) (ivals_one _) (by unfold maxLen; omega) (by omega) (by have := HBS.out; simp; omega) ?_; intro v4 w4 hown4 hgrow4 _)
          have hb4 : Below w.heap.size w w4 := (HB.out.alloc HB.out.size _).grown hgrow4 (by have := HBS.out; simp; omega) (fun i hi => ((HO.out.alloc (.cells (i64s [(a : Int) - 9223372036854775808]) 2)).lt i hi).1)
          rw [HN.out, ← HS.out] at hown4
          have HE := Lib.hid hown4
          have HB4 := Lib.hid hb4
          clear hown4 hgrow4 hb4 hnum
          go_wp2_with fail
          go_roundw
          case rel => exact ⟨k + 1, by omega, by go_num, HE.out, HB4.out⟩
          case measure => simp [intOf]; omega
    · obtain rfl : k = d := by omega
      have ho := HO.out
      rw [show ppt B k k = Mm.point B k from rfl] at ho
      obtain ⟨q, c2, rfl, hq⟩ := ints_of_owns ho (Mm.point_in B k)
      have HQ := Lib.hid hq
      clear ho hq
      go_wp2_with fail
      go_ret
      have hq := HQ.out
      have e : k = (Mm.point B k).length := (Mm.point_length B k).symm
      refine ⟨q, c2, ?_, ?_, HB.out⟩
      · rw [← e]; rfl
      · rw [← e]; exact hq
end Go.Proofs.Ytbhpmigblkaihaa.Mo

/- indentureref06.Region. -/
namespace Go.Proofs.Ytbhpmigblkaihaa.Zr
open Go.RowKit Go.Proofs.Ytbhpmigblkaihaa.Mo

/-- One number of a corner. -/
def rnum (g : Nat → Nat) (m d b k : Nat) : Int := (Mm.bin (Zm.pad (fun l => g (l * d + k)) (fun l => decide (l * d + k < m)) b) 64 : Nat) - 9223372036854775808
def rk (g : Nat → Nat) (m d b k : Nat) : List Int := (List.range k).map (rnum g m d b)
theorem rk_succ (g : Nat → Nat) (m d b k : Nat) : rk g m d b (k + 1) = rk g m d b k ++ [rnum g m d b k] := by simp [rk, List.range_succ]
theorem rk_lo (g : Nat → Nat) (m d : Nat) : rk g m d 0 d = Zm.rlo g m d := rfl
theorem rk_hi (g : Nat → Nat) (m d : Nat) : rk g m d 1 d = Zm.rhi g m d := rfl
theorem I2z : (Try.prog.info? 2).map (fun i => (i.zero, i.size, i.bytes)) = some (some (.int .i64 0), 1, 8) := by kernel_rfl
theorem URz : Try.prog.underlying 24 = some (.slice 2) := by kernel_rfl
def ROut (w1 : World) (gb : Nat) (g : Nat → Nat) (m d : Nat) (i : Value) (wr : World) : Prop := ∃ (k : Nat) (u v : Value), k ≤ d ∧ i = .int .i64 k ∧ TwoR w1 wr gb u v k k (rk g m d 0 k) (rk g m d 1 k)
def RIn (g : Nat → Nat) (m d k : Nat) (lo hi i : Value) : Prop := ∃ l : Nat, l ≤ 64 ∧ i = .int .i64 l ∧ lo = .int .u64 (Mm.bin (Zm.pad (fun l => g (l * d + k)) (fun l => decide (l * d + k < m)) 0) l : Nat) ∧ hi = .int .u64 (Mm.bin (Zm.pad (fun l => g (l * d + k)) (fun l => decide (l * d + k < m)) 1) l : Nat)
theorem TwoR.aside {w00 w0 w : World} {gb : Nat} {u v : Value} {nu nv : Nat} {A B : List Int} (h : TwoR w0 w gb u v nu nv A B) (hb : Below w00.heap.size w00 w0) (x o : Nat) (z : Value) (hx : w00.heap.size ≤ x) (hx2 : x < gb) : TwoR w00 (w.setCell ⟨x, o, none⟩ z) gb u v nu nv A B :=
  ⟨(heap_setCell_other _ _ _ _ (by show gb ≠ x; omega)).trans h.row,
   owns_keep h.own1 (fun g e => heap_setCell_other _ _ _ _ (by show g ≠ x; have := (h.own1.lt g e).1; omega)),
   owns_keep h.own2 (fun g e => heap_setCell_other _ _ _ _ (by show g ≠ x; have := (h.own2.lt g e).1; omega)),
   h.apart, (hb.trans (h.low.mono hb.size)).setCell hx _, Nat.le_trans hb.size h.ge⟩
theorem own_form {w : World} {base n : Nat} {e : TypeId} {v : Value} {xs : List Value} (h : w.ownsRow base e 1 v n xs) : ∃ q c, v = .slice q n c := by
  rcases h.2 with ⟨rfl, h0⟩ | ⟨g, cap, cur, rfl, hb, hg, hle, hm, hs, ht⟩
  · subst h0
    exact ⟨none, 0, rfl⟩
  · exact ⟨_, cap, rfl⟩
theorem new_of_set (w : World) (p : Addr) (v : Value) (O : Array Value) (t : TypeId) : ((w.setCell p v).alloc (.cells O t (0, 0))).heap[w.heap.size]? = some (.cells O t (0, 0)) := by
  have h := heap_alloc_new (w.setCell p v) (.cells O t (0, 0))
  rwa [show (w.setCell p v).heap.size = w.heap.size from by simp] at h
theorem pad_at (g : Nat → Nat) (m d k b l : Nat) : Zm.pad (fun l => g (l * d + k)) (fun l => decide (l * d + k < m)) b l = if l * d + k < m then g (l * d + k) else b := by
  unfold Zm.pad
  by_cases c : l * d + k < m
  · rw [if_pos c, if_pos (decide_eq_true c)]
  · rw [if_neg c, if_neg (by rw [decide_eq_true_eq]; exact c)]
theorem rk_in {g : Nat → Nat} (hg : ∀ i, g i < 2) (m d b k : Nat) (hb : b < 2) : Mm.inI (rk g m d b k) := by
  intro x hx
  simp only [rk, rnum, List.mem_map] at hx
  obtain ⟨i, _, rfl⟩ := hx
  have := Mm.bin_lt (Zm.pad_lt (fun l => hg (l * d + i)) (fun l => decide (l * d + i < m)) hb) 64
  omega
set_option maxRecDepth 100000 in
set_option maxHeartbeats 4000000 in
theorem region_any (B : List Nat) (hB : ∀ x ∈ B, x < 2) (p : Option Addr) (n c m d : Nat) (w : World) (h : Bytes w p n c B) (hm : m ≤ n) (hd : d ≤ 8) (hn : n ≤ 512) :
    Calls Try.prog 30 #[.slice p n c, .int .i64 m, .int .i64 d] w fun e w' => ∃ v, e = .returned v ∧ BoxPost w (Zm.rlo (fB B) m d) (Zm.rhi (fB B) m d) v w' := by
  obtain ⟨i2, hi, hi0, hi1, hi2⟩ := info_parts I2z
  have HI := Lib.hid hi
  have HI0 := Lib.hid hi0
  have HI1 := Lib.hid hi1
  have HI2 := Lib.hid hi2
  have HG : ∀ i, fB B i < 2 := fun i => Sm.getD_lt hB (by omega) i
  have HGG := Lib.hid HG
  have HL := Lib.hid h
  have HSZ := Lib.hid h.size
  clear hi hi0 hi1 hi2 h hB HG
  go_enter Try.func30, Try.ntmps30
  go_upto_region 2 with fail
  have ht := TwoR.start (w.alloc (.cells #[.slice none 0 0, .slice none 0 0] 26)) (w.alloc (.cells #[.slice none 0 0, .slice none 0 0] 26)) (Below.refl _ _)
  have hb0 : Below w.heap.size w (w.alloc (.cells #[.slice none 0 0, .slice none 0 0] 26)) := (Below.refl _ _).alloc (Nat.le_refl _) _
  have hx0 := heap_alloc_new w (.cells #[.slice none 0 0, .slice none 0 0] 26 (0, 0))
  have hsz : (w.alloc (.cells #[.slice none 0 0, .slice none 0 0] 26)).heap.size = w.heap.size + 1 := by simp
  rw [hsz] at ht
  obtain ⟨w1, hw1⟩ : ∃ w1, w1 = w.alloc (.cells #[.slice none 0 0, .slice none 0 0] 26) := ⟨_, rfl⟩
  rw [← hw1] at ht hb0 hx0 hsz
  obtain ⟨gb, hgb⟩ : ∃ gb, gb = w.heap.size + 1 := ⟨_, rfl⟩
  rw [← hgb] at ht hsz
  rw [← hw1]
  try rw [← hgb]
  have HT0 := Lib.hid ht
  have HB0 := Lib.hid hb0
  have HX0 := Lib.hid hx0
  have HGB := Lib.hid hgb
  have HS1 := Lib.hid hsz
  clear ht hb0 hx0 hgb hw1 hsz
  go_wp2_with fail
  go_loopw [8] (fun i wr => ROut w1 gb (fB B) m d i wr) (fun i _ => d - (intOf i).toNat)
  case atStart =>
    exact ⟨0, _, _, by omega, rfl, HT0.out⟩
  case round =>
    obtain ⟨k, u, v, hk, rfl, ht⟩ := hrel
    have HT := Lib.hid ht
    clear ht
    by_cases hlt : k < d
    · have hL1 : Bytes wr p n c B := HL.out.later (HB0.out.trans (HT.out.low.mono HB0.out.size)) HL.out.lt
      have HL1 := Lib.hid hL1
      clear hL1
      go_wp2_with fail
      go_loop [9, 10, 11] (fun lo hi i => RIn (fB B) m d k lo hi i) (fun _ _ i => 64 - (intOf i).toNat)
      case atStart => exact ⟨0, by omega, rfl, rfl, rfl⟩
      case round =>
        obtain ⟨l, hl, rfl, rfl, rfl⟩ := hrel
        have hb0 := Mm.bin_lt (Zm.pad_lt (fun l => HGG.out (l * d + k)) (fun l => decide (l * d + k < m)) (b := 0) (by omega)) l
        have hb1 := Mm.bin_lt (Zm.pad_lt (fun l => HGG.out (l * d + k)) (fun l => decide (l * d + k < m)) (b := 1) (by omega)) l
        by_cases hll : l < 64
        · have m0 : (0 : Int) ≤ (l : Int) * d := Int.mul_nonneg (by omega) (by omega)
          have m1 : l * d + k < 64 * d := Mm.place_lt hlt hll
          have m2 : ((l * d + k : Nat) : Int) = (l : Int) * d + k := by simp
          have m3 : (l : Int) * d + k < 64 * d := by omega
          have hpow : 2 ^ l ≤ 2 ^ 63 := Nat.pow_le_pow_right (by omega) (by omega)
          have HS0 := Lib.hid (Mm.bin_succ (Zm.pad (fun l => fB B (l * d + k)) (fun l => decide (l * d + k < m)) 0) l)
          have HS2 := Lib.hid (Mm.bin_succ (Zm.pad (fun l => fB B (l * d + k)) (fun l => decide (l * d + k < m)) 1) l)
          have HP0 := Lib.hid (pad_at (fB B) m d k 0 l)
          have HP1 := Lib.hid (pad_at (fB B) m d k 1 l)
          have hb0' : Mm.bin (Zm.pad (fun l => fB B (l * d + k)) (fun l => decide (l * d + k < m)) 0) l < 9223372036854775808 := Nat.lt_of_lt_of_le hb0 hpow
          have hb1' : Mm.bin (Zm.pad (fun l => fB B (l * d + k)) (fun l => decide (l * d + k < m)) 1) l < 9223372036854775808 := Nat.lt_of_lt_of_le hb1 hpow
          have hx2 := HGG.out (l * d + k)
          clear hb0 hb1 hpow
          by_cases hc : l * d + k < m
          · obtain ⟨g, o, rfl, hx⟩ := HL1.out.ne (by intro e; have := HSZ.out; rw [e] at this; simp at this; omega)
            have hc1 := hx (l * d + k) (by have := HSZ.out; omega)
            have hfx : fB B (l * d + k) = B.getD (l * d + k) 0 := rfl
            rw [← hfx] at hc1
            have i1 : (l : Int) * d + k < m := by omega
            have i3 : (l : Int) * d + k < n := by omega
            have i2 : ((l : Int) * d + k).toNat = l * d + k := by omega
            rw [if_pos hc] at HP0 HP1
            generalize Mm.bin (Zm.pad (fun l => fB B (l * d + k)) (fun l => decide (l * d + k < m)) 0) l = a at *
            generalize Mm.bin (Zm.pad (fun l => fB B (l * d + k)) (fun l => decide (l * d + k < m)) 1) l = b at *
            generalize fB B (l * d + k) = x at *
            clear hx hfx m2
            go_wp2_with fail
            go_round
            case rel => exact ⟨l + 1, by omega, by go_num, by rw [HS0.out, HP0.out]; go_num, by rw [HS2.out, HP1.out]; go_num⟩
            case measure => simp [intOf]; omega
          · have i1 : ¬ (l : Int) * d + k < m := by omega
            rw [if_neg hc] at HP0 HP1
            generalize Mm.bin (Zm.pad (fun l => fB B (l * d + k)) (fun l => decide (l * d + k < m)) 0) l = a at *
            generalize Mm.bin (Zm.pad (fun l => fB B (l * d + k)) (fun l => decide (l * d + k < m)) 1) l = b at *
            clear m2
            go_wp2_with fail
            go_round
            case rel => exact ⟨l + 1, by omega, by go_num, by rw [HS0.out, HP0.out]; go_num, by rw [HS2.out, HP1.out]; go_num⟩
            case measure => simp [intOf]; omega
        · obtain rfl : l = 64 := by omega
          have hn0 := num_sub _ hb0
          have hn1 := num_sub _ hb1
          have HR0 := Lib.hid (show (Mm.bin (Zm.pad (fun l => fB B (l * d + k)) (fun l => decide (l * d + k < m)) 0) 64 : Nat) - 9223372036854775808 = rnum (fB B) m d 0 k from rfl)
          have HR1 := Lib.hid (show (Mm.bin (Zm.pad (fun l => fB B (l * d + k)) (fun l => decide (l * d + k < m)) 1) 64 : Nat) - 9223372036854775808 = rnum (fB B) m d 1 k from rfl)
          have HK0 := Lib.hid (rk_succ (fB B) m d 0 k)
          have HK1 := Lib.hid (rk_succ (fB B) m d 1 k)
          obtain ⟨cu, cv, cf, cg⟩ := HT.out.facts
          have hlt1 := HT.out.lt
          generalize Mm.bin (Zm.pad (fun l => fB B (l * d + k)) (fun l => decide (l * d + k < m)) 0) 64 = a at *
          generalize Mm.bin (Zm.pad (fun l => fB B (l * d + k)) (fun l => decide (l * d + k < m)) 1) 64 = b at *
          clear hb0 hb1
          go_wp2_with (first | (at_builtin; refine wpList_append_own_at _ (by rfl) (.tmp 47) (.tmp 51) 24 (by rfl) (gb + 1) 2 i2 (.int .i64 0) 1 8 URz HI.out HI0.out HI1.out HI2.out (by rfl) (by decide) _ k _ (by rfl) (HT.out.own1.alloc _) ⟨wr.heap.size, 0, none⟩ 1 1 (ivals [(a : Int) - 9223372036854775808]) (by rfl) (by rfl) (ivals_cells (L := [(a : Int) - 9223372036854775808]) (heap_alloc_new wr _)) (ivals_one _) (by unfold maxLen; omega) (by omega) (by simp; omega) ?_; intro v4 w4 hown4 hgrow4 _ hat4; obtain ⟨q4, c4, rfl⟩ := own_form hown4; have HN4 := Lib.hid (new_of_set w4 ⟨gb, 0, none⟩ (.slice q4 (k + 1) c4) (i64s [(b : Int) - 9223372036854775808]) 2); obtain ⟨⟨ca1, cb1⟩, ht4⟩ := TwoR.left HT.out hown4 hgrow4 hat4; obtain ⟨-, cv4, -, cg4⟩ := ht4.facts; have hlt4 := ht4.lt; have HT4 := Lib.hid ht4; clear hown4 hgrow4 hat4 ht4) | (at_builtin; refine wpList_append_own_at _ (by rfl) (.tmp 55) (.tmp 59) 24 (by rfl) (gb + 1) 2 i2 (.int .i64 0) 1 8 URz HI.out HI0.out HI1.out HI2.out (by rfl) (by decide) _ k _ (by rfl) (HT4.out.own2.alloc _) ⟨w4.heap.size, 0, none⟩ 1 1 (ivals [(b : Int) - 9223372036854775808]) (by rfl) (by rfl) (ivals_cells (L := [(b : Int) - 9223372036854775808]) HN4.out) (ivals_one _) (by unfold maxLen; omega) (by omega) (by have h := hlt4; simp at h; simp; omega) ?_; intro v5 w5 hown5 hgrow5 _ hat5; obtain ⟨q5, c5, rfl⟩ := own_form hown5; obtain ⟨⟨ca5, cb5⟩, ht5⟩ := TwoR.right HT4.out hown5 hgrow5 hat5; have HT5 := Lib.hid ht5; clear hown5 hgrow5 hat5 ht5))
          have ht5 := HT5.out
          rw [HR0.out, HR1.out, ← HK0.out, ← HK1.out] at ht5
          have HE := Lib.hid ht5
          clear ht5
          go_roundw
          case rel => exact ⟨k + 1, _, _, by omega, by go_num, HE.out⟩
          case measure => simp [intOf]; omega
    · obtain rfl : k = d := by omega
      obtain ⟨q4, c4, rfl⟩ := own_form HT.out.own1
      obtain ⟨q5, c5, rfl⟩ := own_form HT.out.own2
      obtain ⟨cu, cv, cf, cg⟩ := HT.out.facts
      have hrow : wr.heap[w.heap.size]? = some (.cells #[.slice none 0 0, .slice none 0 0] 26 (0, 0)) := (HT.out.low.block _ (by rw [HS1.out, HGB.out]; omega)).trans HX0.out
      have cr0 := cell_of_row wr w.heap.size 0 _ _ _ hrow
      have cr1 := cell_of_row wr w.heap.size 1 _ _ _ hrow
      have fr0 : wr.frozen? ⟨w.heap.size, 0, none⟩ = false := frozen_of_row wr w.heap.size _ _ _ hrow
      have fr1 : wr.frozen? ⟨w.heap.size, 1, none⟩ = false := frozen_of_row wr w.heap.size _ _ _ hrow
      simp at cr0 cr1
      clear hrow
      go_wp2_with fail
      have hr1 := heap_setCell_same wr w.heap.size 0 _ _ (.slice q4 k c4) (by rw [HT.out.low.block _ (by rw [HS1.out, HGB.out]; omega)]; exact HX0.out)
      have hr2 := heap_setCell_same _ w.heap.size 1 _ _ (.slice q5 k c5) hr1
      refine zret_box 6 rfl w.heap.size (.slice q4 k c4) (.slice q5 k c5) (by rfl) (cell_of_row _ w.heap.size 0 _ _ _ hr2) (cell_of_row _ w.heap.size 1 _ _ _ hr2) ⟨_, rfl, ?_⟩
      have e0 := HT.out.aside HB0.out w.heap.size 0 (.slice q4 k c4) (Nat.le_refl _) (by rw [HGB.out]; omega)
      have e1 := e0.aside (Below.refl _ _) w.heap.size 1 (.slice q5 k c5) (Nat.le_refl _) (by rw [HGB.out]; omega)
      exact e1.done (rk_in HGG.out m k 0 k (by omega)) (rk_in HGG.out m k 1 k (by omega))
end Go.Proofs.Ytbhpmigblkaihaa.Zr

/- indentureref04.Cut of right boxes. gen_cut.py writes it. -/
namespace Go.Proofs.Ytbhpmigblkaihaa.Zr
open Go.RowKit Go.Proofs.Ytbhpmigblkaihaa.Mo

/-- Two boxes' corners in memory: their cells in two blocks, and a third block for what is told. -/
structure CH (w : World) (g : Nat) (p q s t : Option Addr) (c e f l d : Nat) (R S T U : List Int) : Prop where
  a : w.heap[g]? = some (.cells #[.slice p d c, .slice q d e] 26 (0, 0))
  b : w.heap[g + 1]? = some (.cells #[.slice s d f, .slice t d l] 26 (0, 0))
  r : w.heap[g + 2]? = some (.cells #[.slice none 0 0, .slice none 0 0] 26 (0, 0))
  i1 : Ints w p d c R
  i2 : Ints w q d e S
  i3 : Ints w s d f T
  i4 : Ints w t d l U
theorem CH.later {w w' : World} {g : Nat} {p q s t : Option Addr} {c e f l d : Nat} {R S T U : List Int} (h : CH w g p q s t c e f l d R S T U) (hb : Below w.heap.size w w') : CH w' g p q s t c e f l d R S T U :=
  ⟨(hb.block _ (Array.getElem?_eq_some_iff.1 h.a).1).trans h.a, (hb.block _ (Array.getElem?_eq_some_iff.1 h.b).1).trans h.b, (hb.block _ (Array.getElem?_eq_some_iff.1 h.r).1).trans h.r, h.i1.later hb, h.i2.later hb, h.i3.later hb, h.i4.later hb⟩
theorem CH.cells {w : World} {g : Nat} {p q s t : Option Addr} {c e f l d : Nat} {R S T U : List Int} (h : CH w g p q s t c e f l d R S T U) :
    w.cell? ⟨g, 0, none⟩ = some (.slice p d c) ∧ w.cell? ⟨g, 1, none⟩ = some (.slice q d e) ∧ w.cell? ⟨g + 1, 0, none⟩ = some (.slice s d f) ∧ w.cell? ⟨g + 1, 1, none⟩ = some (.slice t d l) ∧
    w.cell? ⟨g + 2, 0, none⟩ = some (.slice none 0 0) ∧ w.cell? ⟨g + 2, 1, none⟩ = some (.slice none 0 0) ∧ w.frozen? ⟨g + 2, 0, none⟩ = false ∧ w.frozen? ⟨g + 2, 1, none⟩ = false :=
  ⟨cell_of_row w g 0 _ _ _ h.a, cell_of_row w g 1 _ _ _ h.a, cell_of_row w (g + 1) 0 _ _ _ h.b, cell_of_row w (g + 1) 1 _ _ _ h.b, cell_of_row w (g + 2) 0 _ _ _ h.r, cell_of_row w (g + 2) 1 _ _ _ h.r, frozen_of_row w (g + 2) _ _ _ h.r, frozen_of_row w (g + 2) _ _ _ h.r⟩
theorem ch_start {w : World} {p q s t : Option Addr} {c e f l d : Nat} {R S T U : List Int} (h1 : Ints w p d c R) (h2 : Ints w q d e S) (h3 : Ints w s d f T) (h4 : Ints w t d l U) :
    CH (((w.alloc (.cells #[.slice p d c, .slice q d e] 26)).alloc (.cells #[.slice s d f, .slice t d l] 26)).alloc (.cells #[.slice none 0 0, .slice none 0 0] 26)) w.heap.size p q s t c e f l d R S T U ∧
    Below w.heap.size w (((w.alloc (.cells #[.slice p d c, .slice q d e] 26)).alloc (.cells #[.slice s d f, .slice t d l] 26)).alloc (.cells #[.slice none 0 0, .slice none 0 0] 26)) ∧
    (((w.alloc (.cells #[.slice p d c, .slice q d e] 26)).alloc (.cells #[.slice s d f, .slice t d l] 26)).alloc (.cells #[.slice none 0 0, .slice none 0 0] 26)).heap.size = w.heap.size + 3 := by
  have a0 := heap_alloc_new w (.cells #[.slice p d c, .slice q d e] 26 (0, 0))
  have b1 : Below w.heap.size w (w.alloc (.cells #[.slice p d c, .slice q d e] 26)) := (Below.refl _ _).alloc (Nat.le_refl _) _
  have s1 : (w.alloc (.cells #[.slice p d c, .slice q d e] 26)).heap.size = w.heap.size + 1 := by simp
  generalize w.alloc (.cells #[.slice p d c, .slice q d e] 26) = w1 at *
  have a1 := heap_alloc_new w1 (.cells #[.slice s d f, .slice t d l] 26 (0, 0))
  have b2 : Below w1.heap.size w1 (w1.alloc (.cells #[.slice s d f, .slice t d l] 26)) := (Below.refl _ _).alloc (Nat.le_refl _) _
  have s2 : (w1.alloc (.cells #[.slice s d f, .slice t d l] 26)).heap.size = w1.heap.size + 1 := by simp
  generalize w1.alloc (.cells #[.slice s d f, .slice t d l] 26) = w2 at *
  have a2 := heap_alloc_new w2 (.cells #[.slice none 0 0, .slice none 0 0] 26 (0, 0))
  have b3 : Below w2.heap.size w2 (w2.alloc (.cells #[.slice none 0 0, .slice none 0 0] 26)) := (Below.refl _ _).alloc (Nat.le_refl _) _
  have s3 : (w2.alloc (.cells #[.slice none 0 0, .slice none 0 0] 26)).heap.size = w2.heap.size + 1 := by simp
  generalize w2.alloc (.cells #[.slice none 0 0, .slice none 0 0] 26) = w3 at *
  have b23 := b2.trans (b3.mono (by omega))
  have b13 := b1.trans (b23.mono (by omega))
  rw [s1] at a1
  rw [s2, s1] at a2
  refine ⟨⟨(b23.block _ (by omega)).trans a0, (b3.block _ (by omega)).trans a1, a2, h1.later b13, h2.later b13, h3.later b13, h4.later b13⟩, b13, by omega⟩
def cks (R T : List Int) (f : Int → Int → Int) (k : Nat) : List Int := (List.range k).map fun i => f (R.getD i 0) (T.getD i 0)
theorem cks_succ (R T : List Int) (f : Int → Int → Int) (k : Nat) : cks R T f (k + 1) = cks R T f k ++ [f (R.getD k 0) (T.getD k 0)] := by simp [cks, List.range_succ]
/-- What Cut tells. -/
def CutPost (w : World) (R S T U : List Int) (e : Ending) (w' : World) : Prop := ∃ (ok : Bool) (p1 p2 : Option Addr) (n1 c1 n2 c2 : Nat), e = .returned (.tuple #[.agg #[.slice p1 n1 c1, .slice p2 n2 c2], .bool ok]) ∧ Below w.heap.size w w' ∧ (ok = true → Zm.meets R S T U ∧ Ints w' p1 n1 c1 (Zm.cutLo R T) ∧ Ints w' p2 n2 c2 (Zm.cutHi S U) ∧ (∀ a, p1 = some a → w.heap.size ≤ a.block) ∧ (∀ a, p2 = some a → w.heap.size ≤ a.block)) ∧ (ok = false → ¬ Zm.meets R S T U)
theorem ints_form {w : World} {base n c : Nat} {p : Option Addr} {L : List Int} (h : w.ownsRow base 2 1 (.slice p n c) n (ivals L)) (hL : Mm.inI L) : Ints w p n c L := by
  obtain ⟨q, e, he, hi⟩ := ints_of_owns h hL
  simp only [Value.slice.injEq] at he
  obtain ⟨rfl, -, rfl⟩ := he
  exact hi
theorem Ints.aside {w : World} {p : Option Addr} {n c : Nat} {L : List Int} (h : Ints w p n c L) (g o : Nat) (v : Value) (hne : ∀ a, p = some a → a.block ≠ g) : Ints (w.setCell ⟨g, o, none⟩ v) p n c L :=
  ⟨h.size, h.le, h.ok, h.at'.imp id fun ⟨b, m, hp, hx⟩ => ⟨b, m, hp, fun i hi => (World.cell?_setCell_other w _ _ v (fun e => hne _ hp (by have := congrArg Addr.block e; exact this.symm))).trans (hx i hi)⟩⟩
def RCut (w2 : World) (gb d : Nat) (R S T U : List Int) (i : Value) (wr : World) : Prop := ∃ (k : Nat) (p1 p2 : Option Addr) (c1 c2 : Nat), k ≤ d ∧ i = .int .i64 k ∧ (∀ j, j < k → max (R.getD j 0) (T.getD j 0) ≤ min (S.getD j 0) (U.getD j 0)) ∧ TwoR w2 wr gb (.slice p1 k c1) (.slice p2 k c2) k k (cks R T max k) (cks S U min k)
theorem slice_two {w0 w : World} {gb : Nat} {u v : Value} {nu nv : Nat} {A B : List Int} (h : TwoR w0 w gb u v nu nv A B) : ∃ p c q e, u = .slice p nu c ∧ v = .slice q nv e := by
  obtain ⟨p, c, hp⟩ := own_form h.own1
  obtain ⟨q, e, hq⟩ := own_form h.own2
  exact ⟨p, c, q, e, hp, hq⟩
set_option maxRecDepth 100000 in
set_option maxHeartbeats 4000000 in
theorem rcut_any (p q s t : Option Addr) (c e f l d : Nat) (R S T U : List Int) (w : World) (h1 : Ints w p d c R) (h2 : Ints w q d e S) (h3 : Ints w s d f T) (h4 : Ints w t d l U) (r1 : rightB R S d d d = true) (r2 : rightB T U d d d = true) :
    Calls Try.prog 29 #[.agg #[.slice p d c, .slice q d e], .agg #[.slice s d f, .slice t d l]] w (CutPost w R S T U) := by
  have hd8 : d ≤ 8 := by
    unfold rightB at r1
    rw [Bool.and_eq_true, decide_eq_true_eq] at r1
    omega
  obtain ⟨i2, hi, hi0, hi1, hi2⟩ := info_parts I2z
  have HI := Lib.hid hi
  have HI0 := Lib.hid hi0
  have HI1 := Lib.hid hi1
  have HI2 := Lib.hid hi2
  clear hi hi0 hi1 hi2
  have HR1 := Lib.hid r1
  have HR2 := Lib.hid r2
  clear r1 r2
  go_enter Try.func29, Try.ntmps29
  go_upto_region 1 with fail
  obtain ⟨hch, hbw, hsz⟩ := ch_start h1 h2 h3 h4
  generalize (((w.alloc (.cells #[.slice p d c, .slice q d e] 26)).alloc (.cells #[.slice s d f, .slice t d l] 26)).alloc (.cells #[.slice none 0 0, .slice none 0 0] 26)) = w1 at *
  obtain ⟨a0, a1, b0, b1, z0, z1, z2, z3⟩ := hch.cells
  have HC := Lib.hid hch
  have HB := Lib.hid hbw
  have HZ := Lib.hid hsz
  have e1 := Lib.hid h1.size
  have e2 := Lib.hid h2.size
  have e3 := Lib.hid h3.size
  have e4 := Lib.hid h4.size
  clear hch hbw hsz h1 h2 h3 h4
  go_wp2_with fail
  refine (refright_any p q d c d e R S d w1 HC.out.i1 HC.out.i2).mono ?_
  rintro _ w2 ⟨rfl, hb2⟩
  rw [HR1.out]
  have HC2 := Lib.hid (HC.out.later hb2)
  have HB2 := Lib.hid (HB.out.trans (hb2.mono HB.out.size))
  clear hb2 a0 a1 b0 b1 z0 z1 z2 z3 HC HB HR1
  obtain ⟨a0, a1, b0, b1, z0, z1, z2, z3⟩ := HC2.out.cells
  go_wp2_with fail
  refine (refright_any s t d f d l T U d w2 HC2.out.i3 HC2.out.i4).mono ?_
  rintro _ w3 ⟨rfl, hb3⟩
  rw [HR2.out]
  have HC3 := Lib.hid (HC2.out.later hb3)
  have HB3 := Lib.hid (HB2.out.trans (hb3.mono HB2.out.size))
  clear hb3 a0 a1 b0 b1 z0 z1 z2 z3 HC2 HB2 HR2
  obtain ⟨a0, a1, b0, b1, z0, z1, z2, z3⟩ := HC3.out.cells
  have HT0 := Lib.hid (TwoR.start w3 w3 (Below.refl _ _))
  go_upto_region 4 with fail
  clear a0 a1 b0 b1 z0 z1 z2 z3
  obtain ⟨gb, hgb⟩ : ∃ gb, gb = w3.heap.size := ⟨_, rfl⟩
  rw [← hgb] at HT0
  rw [← hgb]
  have HGB := Lib.hid hgb
  have HLT := Lib.hid (show w.heap.size + 2 < gb from by rw [hgb]; exact (Array.getElem?_eq_some_iff.1 HC3.out.r).1)
  clear hgb
  have hch := HC3.out.later ((Below.refl _ _).alloc (Nat.le_refl _) (.cells #[.slice none 0 0, .slice none 0 0] 26))
  generalize w3.alloc (.cells #[.slice none 0 0, .slice none 0 0] 26) = w4 at *
  have HC4 := Lib.hid hch
  clear hch
  go_wp2_with fail
  go_loopw [7] (fun i wr => RCut w3 gb d R S T U i wr) (fun i _ => d - (intOf i).toNat)
  case atStart => exact ⟨0, none, none, 0, 0, by omega, rfl, fun j hj => by omega, HT0.out⟩
  case round =>
    obtain ⟨k, p1, p2, c1, c2, hk, rfl, hle, ht⟩ := hrel
    have HT := Lib.hid ht
    have HLE := Lib.hid hle
    have HC5 := Lib.hid (HC3.out.later HT.out.low)
    clear ht hle HC4
    obtain ⟨a0, a1, b0, b1, z0, z1, z2, z3⟩ := HC5.out.cells
    by_cases hlt : k < d
    · obtain ⟨x1, o1, rfl, k1⟩ := HC5.out.i1.cell k hlt
      obtain ⟨x2, o2, rfl, k2⟩ := HC5.out.i2.cell k hlt
      obtain ⟨x3, o3, rfl, k3⟩ := HC5.out.i3.cell k hlt
      obtain ⟨x4, o4, rfl, k4⟩ := HC5.out.i4.cell k hlt
      have i1 : (0 : Int) ≤ k ∧ (k : Int) < d := by omega
      have HS := Lib.hid (cks_succ R T max k)
      have HS2 := Lib.hid (cks_succ S U min k)
      have HN := Lib.hid (show ¬ max (R.getD k 0) (T.getD k 0) ≤ min (S.getD k 0) (U.getD k 0) → ¬ Zm.meets R S T U from fun h h2 => h (h2 k (by rw [← e1.out]; exact hlt)))
      have HQ := Lib.hid (show max (R.getD k 0) (T.getD k 0) ≤ min (S.getD k 0) (U.getD k 0) → (∀ j, j = k → max (R.getD j 0) (T.getD j 0) ≤ min (S.getD j 0) (U.getD j 0)) from fun h j e => by rw [e]; exact h)
      generalize R.getD k 0 = x at *
      generalize S.getD k 0 = y at *
      generalize T.getD k 0 = z at *
      generalize U.getD k 0 = v at *
      go_upto_region 7 with fail
      go_quiet (fail)
      have hbd : Below wr.heap.size wr (wr.drewN nq) := Below.drewN (Below.refl _ _) nq
      have ht := HT.out.later hbd
      have hc := HC5.out.later hbd
      have k1 := (hbd.cell (p := ⟨x1, o1 + k, none⟩) (block_lt_of_cell k1)).trans k1
      have k2 := (hbd.cell (p := ⟨x2, o2 + k, none⟩) (block_lt_of_cell k2)).trans k2
      have k3 := (hbd.cell (p := ⟨x3, o3 + k, none⟩) (block_lt_of_cell k3)).trans k3
      have k4 := (hbd.cell (p := ⟨x4, o4 + k, none⟩) (block_lt_of_cell k4)).trans k4
      clear hbd a0 a1 b0 b1 z0 z1 z2 z3 HT HC5
      generalize wr.drewN nq = wd at *
      have HT := Lib.hid ht
      have HC5 := Lib.hid hc
      obtain ⟨cu, cv, cf, cg⟩ := HT.out.facts
      obtain ⟨a0, a1, b0, b1, z0, z1, z2, z3⟩ := HC5.out.cells
      have hlt1 := HT.out.lt
      clear ht hc
      by_cases g1 : x < z
      · by_cases g2 : v < y
        · by_cases hg : v < z
          · have HNM := Lib.hid (HN.out (by omega))
            go_wp2_with fail
            have hr1 := heap_setCell_same wd (w.heap.size + 2) 0 _ _ (.slice none 0 0) HC5.out.r
            have hr2 := heap_setCell_same _ (w.heap.size + 2) 1 _ _ (.slice none 0 0) hr1
            refine zret_box2 4 5 rfl (w.heap.size + 2) (.slice none 0 0) (.slice none 0 0) (.bool false) (by rfl) (by rfl) (cell_of_row _ (w.heap.size + 2) 0 _ _ _ hr2) (cell_of_row _ (w.heap.size + 2) 1 _ _ _ hr2) ?_
            have e0 := HT.out.aside HB3.out (w.heap.size + 2) 0 (.slice none 0 0) (by omega) HLT.out
            have e5 := e0.aside (Below.refl _ _) (w.heap.size + 2) 1 (.slice none 0 0) (by omega) HLT.out
            exact ⟨false, _, _, _, _, _, _, rfl, e5.low, fun h => by simp at h, fun _ => HNM.out⟩
          · have HJ := Lib.hid (HQ.out (by omega))
            go_wp2_with (first | (at_builtin; refine wpList_append_own_at _ (by rfl) (.tmp 71) (.tmp 73) 24 (by rfl) (gb + 1) 2 i2 (.int .i64 0) 1 8 URz HI.out HI0.out HI1.out HI2.out (by rfl) (by decide) _ k _ (by rfl) (HT.out.own1.alloc _) ⟨wd.heap.size, 0, none⟩ 1 1 (ivals [z]) (by rfl) (by rfl) (ivals_cells (L := [z]) (heap_alloc_new wd _)) (ivals_one _) (by unfold maxLen; omega) (by omega) (by simp; omega) ?_; intro v4 w5 hown4 hgrow4 _ hat4; obtain ⟨q4, c4, rfl⟩ := own_form hown4; have HN4 := Lib.hid (new_of_set w5 ⟨gb, 0, none⟩ (.slice q4 (k + 1) c4) (i64s [v]) 2); obtain ⟨⟨ca1, cb1⟩, ht4⟩ := TwoR.left HT.out hown4 hgrow4 hat4; obtain ⟨-, cv4, -, cg4⟩ := ht4.facts; have hlt4 := ht4.lt; have HT4 := Lib.hid ht4; clear hown4 hgrow4 hat4 ht4) | (at_builtin; refine wpList_append_own_at _ (by rfl) (.tmp 77) (.tmp 79) 24 (by rfl) (gb + 1) 2 i2 (.int .i64 0) 1 8 URz HI.out HI0.out HI1.out HI2.out (by rfl) (by decide) _ k _ (by rfl) (HT4.out.own2.alloc _) ⟨w5.heap.size, 0, none⟩ 1 1 (ivals [v]) (by rfl) (by rfl) (ivals_cells (L := [v]) HN4.out) (ivals_one _) (by unfold maxLen; omega) (by omega) (by have h := hlt4; simp at h; simp; omega) ?_; intro v5 w6 hown5 hgrow5 _ hat5; obtain ⟨q5, c5, rfl⟩ := own_form hown5; obtain ⟨⟨ca5, cb5⟩, ht5⟩ := TwoR.right HT4.out hown5 hgrow5 hat5; have HT5 := Lib.hid ht5; clear hown5 hgrow5 hat5 ht5))
            have ht5 := HT5.out
            have m1 : z = max x z := by omega
            have m2 : v = min y v := by omega
            rw [m1, m2, ← HS.out, ← HS2.out] at ht5
            have HE := Lib.hid ht5
            clear ht5
            go_roundw
            case rel => exact ⟨k + 1, _, _, _, _, by omega, by go_num, fun j hj => by
                by_cases e : j = k
                · exact HJ.out j e
                · exact HLE.out j (by omega), HE.out⟩
            case measure => simp [intOf]; omega
        · by_cases hg : y < z
          · have HNM := Lib.hid (HN.out (by omega))
            go_wp2_with fail
            have hr1 := heap_setCell_same wd (w.heap.size + 2) 0 _ _ (.slice none 0 0) HC5.out.r
            have hr2 := heap_setCell_same _ (w.heap.size + 2) 1 _ _ (.slice none 0 0) hr1
            refine zret_box2 4 5 rfl (w.heap.size + 2) (.slice none 0 0) (.slice none 0 0) (.bool false) (by rfl) (by rfl) (cell_of_row _ (w.heap.size + 2) 0 _ _ _ hr2) (cell_of_row _ (w.heap.size + 2) 1 _ _ _ hr2) ?_
            have e0 := HT.out.aside HB3.out (w.heap.size + 2) 0 (.slice none 0 0) (by omega) HLT.out
            have e5 := e0.aside (Below.refl _ _) (w.heap.size + 2) 1 (.slice none 0 0) (by omega) HLT.out
            exact ⟨false, _, _, _, _, _, _, rfl, e5.low, fun h => by simp at h, fun _ => HNM.out⟩
          · have HJ := Lib.hid (HQ.out (by omega))
            go_wp2_with (first | (at_builtin; refine wpList_append_own_at _ (by rfl) (.tmp 71) (.tmp 73) 24 (by rfl) (gb + 1) 2 i2 (.int .i64 0) 1 8 URz HI.out HI0.out HI1.out HI2.out (by rfl) (by decide) _ k _ (by rfl) (HT.out.own1.alloc _) ⟨wd.heap.size, 0, none⟩ 1 1 (ivals [z]) (by rfl) (by rfl) (ivals_cells (L := [z]) (heap_alloc_new wd _)) (ivals_one _) (by unfold maxLen; omega) (by omega) (by simp; omega) ?_; intro v4 w5 hown4 hgrow4 _ hat4; obtain ⟨q4, c4, rfl⟩ := own_form hown4; have HN4 := Lib.hid (new_of_set w5 ⟨gb, 0, none⟩ (.slice q4 (k + 1) c4) (i64s [y]) 2); obtain ⟨⟨ca1, cb1⟩, ht4⟩ := TwoR.left HT.out hown4 hgrow4 hat4; obtain ⟨-, cv4, -, cg4⟩ := ht4.facts; have hlt4 := ht4.lt; have HT4 := Lib.hid ht4; clear hown4 hgrow4 hat4 ht4) | (at_builtin; refine wpList_append_own_at _ (by rfl) (.tmp 77) (.tmp 79) 24 (by rfl) (gb + 1) 2 i2 (.int .i64 0) 1 8 URz HI.out HI0.out HI1.out HI2.out (by rfl) (by decide) _ k _ (by rfl) (HT4.out.own2.alloc _) ⟨w5.heap.size, 0, none⟩ 1 1 (ivals [y]) (by rfl) (by rfl) (ivals_cells (L := [y]) HN4.out) (ivals_one _) (by unfold maxLen; omega) (by omega) (by have h := hlt4; simp at h; simp; omega) ?_; intro v5 w6 hown5 hgrow5 _ hat5; obtain ⟨q5, c5, rfl⟩ := own_form hown5; obtain ⟨⟨ca5, cb5⟩, ht5⟩ := TwoR.right HT4.out hown5 hgrow5 hat5; have HT5 := Lib.hid ht5; clear hown5 hgrow5 hat5 ht5))
            have ht5 := HT5.out
            have m1 : z = max x z := by omega
            have m2 : y = min y v := by omega
            rw [m1, m2, ← HS.out, ← HS2.out] at ht5
            have HE := Lib.hid ht5
            clear ht5
            go_roundw
            case rel => exact ⟨k + 1, _, _, _, _, by omega, by go_num, fun j hj => by
                by_cases e : j = k
                · exact HJ.out j e
                · exact HLE.out j (by omega), HE.out⟩
            case measure => simp [intOf]; omega
      · by_cases g2 : v < y
        · by_cases hg : v < x
          · have HNM := Lib.hid (HN.out (by omega))
            go_wp2_with fail
            have hr1 := heap_setCell_same wd (w.heap.size + 2) 0 _ _ (.slice none 0 0) HC5.out.r
            have hr2 := heap_setCell_same _ (w.heap.size + 2) 1 _ _ (.slice none 0 0) hr1
            refine zret_box2 4 5 rfl (w.heap.size + 2) (.slice none 0 0) (.slice none 0 0) (.bool false) (by rfl) (by rfl) (cell_of_row _ (w.heap.size + 2) 0 _ _ _ hr2) (cell_of_row _ (w.heap.size + 2) 1 _ _ _ hr2) ?_
            have e0 := HT.out.aside HB3.out (w.heap.size + 2) 0 (.slice none 0 0) (by omega) HLT.out
            have e5 := e0.aside (Below.refl _ _) (w.heap.size + 2) 1 (.slice none 0 0) (by omega) HLT.out
            exact ⟨false, _, _, _, _, _, _, rfl, e5.low, fun h => by simp at h, fun _ => HNM.out⟩
          · have HJ := Lib.hid (HQ.out (by omega))
            go_wp2_with (first | (at_builtin; refine wpList_append_own_at _ (by rfl) (.tmp 71) (.tmp 73) 24 (by rfl) (gb + 1) 2 i2 (.int .i64 0) 1 8 URz HI.out HI0.out HI1.out HI2.out (by rfl) (by decide) _ k _ (by rfl) (HT.out.own1.alloc _) ⟨wd.heap.size, 0, none⟩ 1 1 (ivals [x]) (by rfl) (by rfl) (ivals_cells (L := [x]) (heap_alloc_new wd _)) (ivals_one _) (by unfold maxLen; omega) (by omega) (by simp; omega) ?_; intro v4 w5 hown4 hgrow4 _ hat4; obtain ⟨q4, c4, rfl⟩ := own_form hown4; have HN4 := Lib.hid (new_of_set w5 ⟨gb, 0, none⟩ (.slice q4 (k + 1) c4) (i64s [v]) 2); obtain ⟨⟨ca1, cb1⟩, ht4⟩ := TwoR.left HT.out hown4 hgrow4 hat4; obtain ⟨-, cv4, -, cg4⟩ := ht4.facts; have hlt4 := ht4.lt; have HT4 := Lib.hid ht4; clear hown4 hgrow4 hat4 ht4) | (at_builtin; refine wpList_append_own_at _ (by rfl) (.tmp 77) (.tmp 79) 24 (by rfl) (gb + 1) 2 i2 (.int .i64 0) 1 8 URz HI.out HI0.out HI1.out HI2.out (by rfl) (by decide) _ k _ (by rfl) (HT4.out.own2.alloc _) ⟨w5.heap.size, 0, none⟩ 1 1 (ivals [v]) (by rfl) (by rfl) (ivals_cells (L := [v]) HN4.out) (ivals_one _) (by unfold maxLen; omega) (by omega) (by have h := hlt4; simp at h; simp; omega) ?_; intro v5 w6 hown5 hgrow5 _ hat5; obtain ⟨q5, c5, rfl⟩ := own_form hown5; obtain ⟨⟨ca5, cb5⟩, ht5⟩ := TwoR.right HT4.out hown5 hgrow5 hat5; have HT5 := Lib.hid ht5; clear hown5 hgrow5 hat5 ht5))
            have ht5 := HT5.out
            have m1 : x = max x z := by omega
            have m2 : v = min y v := by omega
            rw [m1, m2, ← HS.out, ← HS2.out] at ht5
            have HE := Lib.hid ht5
            clear ht5
            go_roundw
            case rel => exact ⟨k + 1, _, _, _, _, by omega, by go_num, fun j hj => by
                by_cases e : j = k
                · exact HJ.out j e
                · exact HLE.out j (by omega), HE.out⟩
            case measure => simp [intOf]; omega
        · by_cases hg : y < x
          · have HNM := Lib.hid (HN.out (by omega))
            go_wp2_with fail
            have hr1 := heap_setCell_same wd (w.heap.size + 2) 0 _ _ (.slice none 0 0) HC5.out.r
            have hr2 := heap_setCell_same _ (w.heap.size + 2) 1 _ _ (.slice none 0 0) hr1
            refine zret_box2 4 5 rfl (w.heap.size + 2) (.slice none 0 0) (.slice none 0 0) (.bool false) (by rfl) (by rfl) (cell_of_row _ (w.heap.size + 2) 0 _ _ _ hr2) (cell_of_row _ (w.heap.size + 2) 1 _ _ _ hr2) ?_
            have e0 := HT.out.aside HB3.out (w.heap.size + 2) 0 (.slice none 0 0) (by omega) HLT.out
            have e5 := e0.aside (Below.refl _ _) (w.heap.size + 2) 1 (.slice none 0 0) (by omega) HLT.out
            exact ⟨false, _, _, _, _, _, _, rfl, e5.low, fun h => by simp at h, fun _ => HNM.out⟩
          · have HJ := Lib.hid (HQ.out (by omega))
            go_wp2_with (first | (at_builtin; refine wpList_append_own_at _ (by rfl) (.tmp 71) (.tmp 73) 24 (by rfl) (gb + 1) 2 i2 (.int .i64 0) 1 8 URz HI.out HI0.out HI1.out HI2.out (by rfl) (by decide) _ k _ (by rfl) (HT.out.own1.alloc _) ⟨wd.heap.size, 0, none⟩ 1 1 (ivals [x]) (by rfl) (by rfl) (ivals_cells (L := [x]) (heap_alloc_new wd _)) (ivals_one _) (by unfold maxLen; omega) (by omega) (by simp; omega) ?_; intro v4 w5 hown4 hgrow4 _ hat4; obtain ⟨q4, c4, rfl⟩ := own_form hown4; have HN4 := Lib.hid (new_of_set w5 ⟨gb, 0, none⟩ (.slice q4 (k + 1) c4) (i64s [y]) 2); obtain ⟨⟨ca1, cb1⟩, ht4⟩ := TwoR.left HT.out hown4 hgrow4 hat4; obtain ⟨-, cv4, -, cg4⟩ := ht4.facts; have hlt4 := ht4.lt; have HT4 := Lib.hid ht4; clear hown4 hgrow4 hat4 ht4) | (at_builtin; refine wpList_append_own_at _ (by rfl) (.tmp 77) (.tmp 79) 24 (by rfl) (gb + 1) 2 i2 (.int .i64 0) 1 8 URz HI.out HI0.out HI1.out HI2.out (by rfl) (by decide) _ k _ (by rfl) (HT4.out.own2.alloc _) ⟨w5.heap.size, 0, none⟩ 1 1 (ivals [y]) (by rfl) (by rfl) (ivals_cells (L := [y]) HN4.out) (ivals_one _) (by unfold maxLen; omega) (by omega) (by have h := hlt4; simp at h; simp; omega) ?_; intro v5 w6 hown5 hgrow5 _ hat5; obtain ⟨q5, c5, rfl⟩ := own_form hown5; obtain ⟨⟨ca5, cb5⟩, ht5⟩ := TwoR.right HT4.out hown5 hgrow5 hat5; have HT5 := Lib.hid ht5; clear hown5 hgrow5 hat5 ht5))
            have ht5 := HT5.out
            have m1 : x = max x z := by omega
            have m2 : y = min y v := by omega
            rw [m1, m2, ← HS.out, ← HS2.out] at ht5
            have HE := Lib.hid ht5
            clear ht5
            go_roundw
            case rel => exact ⟨k + 1, _, _, _, _, by omega, by go_num, fun j hj => by
                by_cases e : j = k
                · exact HJ.out j e
                · exact HLE.out j (by omega), HE.out⟩
            case measure => simp [intOf]; omega
    · obtain rfl : k = d := by omega
      have HM := Lib.hid (show Zm.meets R S T U from fun j hj => HLE.out j (by rw [e1.out]; exact hj))
      have HCL := Lib.hid (show cks R T max k = Zm.cutLo R T from by unfold cks Zm.cutLo; rw [← e1.out])
      have HCH := Lib.hid (show cks S U min k = Zm.cutHi S U from by unfold cks Zm.cutHi; rw [← e2.out])
      have HIN := Lib.hid (show Mm.inI (Zm.cutLo R T) ∧ Mm.inI (Zm.cutHi S U) from ⟨Zm.cutLo_in HC5.out.i1.ok HC5.out.i3.ok, Zm.cutHi_in HC5.out.i2.ok HC5.out.i4.ok⟩)
      obtain ⟨cu, cv, cf, cg⟩ := HT.out.facts
      go_wp2_with fail
      have hr1 := heap_setCell_same wr (w.heap.size + 2) 0 _ _ (.slice p1 k c1) HC5.out.r
      have hr2 := heap_setCell_same _ (w.heap.size + 2) 1 _ _ (.slice p2 k c2) hr1
      refine zret_box2 4 5 rfl (w.heap.size + 2) (.slice p1 k c1) (.slice p2 k c2) (.bool true) (by rfl) (by rfl) (cell_of_row _ (w.heap.size + 2) 0 _ _ _ hr2) (cell_of_row _ (w.heap.size + 2) 1 _ _ _ hr2) ?_
      have e0 := HT.out.aside HB3.out (w.heap.size + 2) 0 (.slice p1 k c1) (by omega) HLT.out
      have e5 := e0.aside (Below.refl _ _) (w.heap.size + 2) 1 (.slice p2 k c2) (by omega) HLT.out
      rw [HCL.out, HCH.out] at e5
      exact ⟨true, _, _, _, _, _, _, rfl, e5.low, fun _ => ⟨HM.out, ints_form e5.own1 HIN.out.1, ints_form e5.own2 HIN.out.2, fun a e => by subst e; have := (e5.own1.lt a.block rfl).1; have := HLT.out; omega, fun a e => by subst e; have := (e5.own2.lt a.block rfl).1; have := HLT.out; omega⟩, fun h => by simp at h⟩
end Go.Proofs.Ytbhpmigblkaihaa.Zr

/- Find's answer, plainly: both ways in one. -/
namespace Go.Proofs.Ytbhpmigblkaihaa.Zr
open Go.RowKit Go.Proofs.Ytbhpmigblkaihaa.Mo Zm

def turn (back : Bool) : Nat := if back = true then 1 else 0
theorem turn_lt (back : Bool) : turn back < 2 := by cases back <;> decide
def Hit (back : Bool) (L H Q X : List Int) : Prop := if back = true then LastIn L H Q X else FirstIn L H Q X
def Miss (back : Bool) (L H Q : List Int) : Prop := if back = true then NoneUpto L H Q else NoneFrom L H Q
theorem Hit.unique {back : Bool} {L H Q X Y : List Int} (h : Hit back L H Q X) (k : Hit back L H Q Y) : X = Y := by
  cases back with
  | true => exact LastIn.unique h k
  | false => exact FirstIn.unique h k
theorem Hit.ok {back : Bool} {L H Q X : List Int} (h : Hit back L H Q X) : X.length = Q.length ∧ Mm.inI X := by
  cases back with
  | true => exact ⟨LastIn.len h, LastIn.ok h⟩
  | false => exact ⟨FirstIn.len h, FirstIn.ok h⟩
theorem hit_self (back : Bool) {L H Q : List Int} (hQ : Mm.inI Q) (h : inB L H Q) : Hit back L H Q Q := by
  cases back with
  | true => exact last_self hQ h
  | false => exact first_self hQ h
/-- The box of all codes that begin as Q's does before a bit, and have the other bit there. -/
def oLo (back : Bool) (Q : List Int) (m : Nat) : List Int := rlo (tn (Mm.cbit Q) m (1 - turn back)) (m + 1) Q.length
def oHi (back : Bool) (Q : List Int) (m : Nat) : List Int := rhi (tn (Mm.cbit Q) m (1 - turn back)) (m + 1) Q.length
theorem hit_of (back : Bool) {L H Q : List Int} (hL : Mm.inI L) (hH : Mm.inI H) (hQ : Mm.inI Q) (lH : H.length = Q.length) (hout : ¬ inB L H Q) {n : Nat} (hn : n < 64 * Q.length) (h0 : Mm.cbit Q n = turn back)
    (hcut : meets (oLo back Q n) (oHi back Q n) L H) (hnone : ∀ m, n < m → m < 64 * Q.length → Mm.cbit Q m = turn back → ¬ meets (oLo back Q m) (oHi back Q m) L H) :
    Hit back L H Q (if back = true then cutHi (oHi back Q n) H else cutLo (oLo back Q n) L) := by
  cases back with
  | true => exact find_last hH hQ lH hout hn h0 hcut hnone
  | false => exact find_first hL hQ lH hout hn h0 hcut hnone
theorem miss_of (back : Bool) {L H Q : List Int} (hQ : Mm.inI Q) (lH : H.length = Q.length) (hout : ¬ inB L H Q) (hnone : ∀ m, m < 64 * Q.length → Mm.cbit Q m = turn back → ¬ meets (oLo back Q m) (oHi back Q m) L H) : Miss back L H Q := by
  cases back with
  | true => exact find_nolast hQ lH hout hnone
  | false => exact find_none hQ hout hnone
theorem rlo_le {g : Nat → Nat} (hg : ∀ i, g i < 2) (m d k : Nat) (hk : k < d) : (rlo g m d).getD k 0 ≤ (rhi g m d).getD k 0 := by
  have hb := Mm.bin_lt (pad_lt (fun l => hg (l * d + k)) (fun l => decide (l * d + k < m)) (b := 0) (by omega)) 64
  have h := (pad_iff (g := fun l => g (l * d + k)) (fun l => hg _) (p := fun l => decide (l * d + k < m)) (fun i j hij hj => by
      rw [decide_eq_true_eq] at hj ⊢
      have : i * d ≤ j * d := Nat.mul_le_mul_right _ (by omega)
      omega) hb).2 (fun i hi hp => by
    have e := Mm.bin_bit (pad_lt (fun l => hg (l * d + k)) (fun l => decide (l * d + k < m)) (b := 0) (by omega)) 64 i hi
    rw [e]
    unfold pad
    rw [if_pos hp])
  rw [rlo_get _ _ _ _ hk, rhi_get _ _ _ _ hk]
  omega
theorem region_right {g : Nat → Nat} (hg : ∀ i, g i < 2) (m d : Nat) (h1 : 1 ≤ d) (h8 : d ≤ 8) : rightB (rlo g m d) (rhi g m d) d d d = true := by
  rw [rightB_les ⟨h1, h8⟩]
  exact (les_iff _ _ _).2 fun k hk => rlo_le hg m d k hk
theorem rlo_congr {g h : Nat → Nat} {m d : Nat} (e : ∀ i, i < m → g i = h i) : rlo g m d = rlo h m d ∧ rhi g m d = rhi h m d := by
  constructor
  all_goals
    first | unfold rlo | unfold rhi
    refine List.map_congr_left fun k _ => ?_
    rw [Mm.bin_congr 64 (fun l _ => ?_)]
    unfold pad
    by_cases c : l * d + k < m
    · rw [if_pos (decide_eq_true c), if_pos (decide_eq_true c)]; exact e _ c
    · rw [if_neg (by rw [decide_eq_true_eq]; exact c), if_neg (by rw [decide_eq_true_eq]; exact c)]
/-- The list of bits that Find lays: the first m of Q's, and another behind. -/
theorem bits_more (Q : List Int) (m b : Nat) : ∀ i, i < m + 1 → fB (bl Q m ++ [b]) i = tn (Mm.cbit Q) m b i := fun i hi => by
  unfold fB tn
  by_cases c : i < m
  · rw [if_pos c, ← bl_get Q m i c, List.getD_eq_getElem?_getD, List.getD_eq_getElem?_getD, List.getElem?_append_left (by rw [bl_length]; exact c)]
  · rw [if_neg c]
    obtain rfl : i = m := by omega
    rw [List.getD_eq_getElem?_getD, List.getElem?_append_right (by rw [bl_length]; omega), bl_length]
    simp
theorem bl_take (Q : List Int) (m n : Nat) (h : m ≤ n) : (bl Q n).take m = bl Q m := by
  unfold bl
  rw [← List.map_take, List.take_range, Nat.min_eq_left h]
theorem hasB_in {L H Q : List Int} {d : Nat} (_lL : L.length = d) (lQ : Q.length = d) (hr : rightB L H d d d = true) : hasB L H Q d d d = true ↔ inB L H Q := by
  rw [hasB_right hr, Bool.and_eq_true, les_iff, les_iff]
  constructor
  · rintro ⟨h1, h2⟩ k hk
    exact ⟨h1 k (by omega), h2 k (by omega)⟩
  · intro h
    exact ⟨fun k hk => (h k (by omega)).1, fun k hk => (h k (by omega)).2⟩
end Go.Proofs.Ytbhpmigblkaihaa.Zr

/- indentureref06.Find. -/
namespace Go.Proofs.Ytbhpmigblkaihaa.Zr
open Go.RowKit Go.Proofs.Ytbhpmigblkaihaa.Mo

/-- What Find holds: the box's cells, its corners, the code. -/
structure FH (w0 w : World) (g : Nat) (q1 q2 : Option Addr) (c1 c2 d : Nat) (L H : List Int) (p : Option Addr) (n cc : Nat) (C : List Nat) : Prop where
  low : Below w0.heap.size w0 w
  row : w.heap[g]? = some (.cells #[.slice q1 d c1, .slice q2 d c2] 26 (0, 0))
  i1 : Ints w q1 d c1 L
  i2 : Ints w q2 d c2 H
  by' : Bytes w p n cc C
theorem FH.later {w0 w w' : World} {g : Nat} {q1 q2 : Option Addr} {c1 c2 d : Nat} {L H : List Int} {p : Option Addr} {n cc : Nat} {C : List Nat} (h : FH w0 w g q1 q2 c1 c2 d L H p n cc C) (hb : Below w.heap.size w w') : FH w0 w' g q1 q2 c1 c2 d L H p n cc C :=
  ⟨h.low.trans (hb.mono h.low.size), (hb.block _ (Array.getElem?_eq_some_iff.1 h.row).1).trans h.row, h.i1.later hb, h.i2.later hb, h.by'.later hb h.by'.lt⟩
theorem FH.cells {w0 w : World} {g : Nat} {q1 q2 : Option Addr} {c1 c2 d : Nat} {L H : List Int} {p : Option Addr} {n cc : Nat} {C : List Nat} (h : FH w0 w g q1 q2 c1 c2 d L H p n cc C) : w.cell? ⟨g, 0, none⟩ = some (.slice q1 d c1) ∧ w.cell? ⟨g, 1, none⟩ = some (.slice q2 d c2) :=
  ⟨cell_of_row w g 0 _ _ _ h.row, cell_of_row w g 1 _ _ _ h.row⟩
theorem fh_start {w : World} {q1 q2 : Option Addr} {c1 c2 d : Nat} {L H : List Int} {p : Option Addr} {n cc : Nat} {C : List Nat} (h1 : Ints w q1 d c1 L) (h2 : Ints w q2 d c2 H) (h3 : Bytes w p n cc C) :
    FH w (w.alloc (.cells #[.slice q1 d c1, .slice q2 d c2] 26)) w.heap.size q1 q2 c1 c2 d L H p n cc C := by
  have hb : Below w.heap.size w (w.alloc (.cells #[.slice q1 d c1, .slice q2 d c2] 26)) := (Below.refl _ _).alloc (Nat.le_refl _) _
  exact ⟨hb, heap_alloc_new w _, h1.later hb, h2.later hb, h3.later hb h3.lt⟩
/-- What Find tells of a right box and a code of its dimensions. -/
def FindPost (w : World) (back : Bool) (L H Q : List Int) (e : Ending) (w' : World) : Prop := ∃ (ok : Bool) (v : Value), e = .returned (.tuple #[v, .bool ok]) ∧ Below w.heap.size w w' ∧
  (ok = false → v = .slice none 0 0 ∧ Miss back L H Q) ∧ (ok = true → ∃ X q c, Hit back L H Q X ∧ v = .slice q (8 * Q.length) c ∧ Bytes w' q (8 * Q.length) c (Mm.code X))
theorem own_empty8 (w : World) : (w.alloc (.cells #[] 5)).ownsRow w.heap.size 5 1 (.slice (some ⟨w.heap.size, 0, none⟩) 0 0) 0 [] :=
  ⟨rfl, Or.inr ⟨w.heap.size, 0, #[], rfl, Nat.le_refl _, heap_alloc_new w _, Nat.le_refl _, by unfold maxLen; omega, rfl, rfl⟩⟩
def RFL (w : World) (Q : List Int) (d : Nat) (v i : Value) (wr : World) : Prop := ∃ k : Nat, k ≤ 64 * d ∧ i = .int .i64 k ∧ wr.ownsRow w.heap.size 5 1 v k (vals (bl Q k)) ∧ Below w.heap.size w wr
def RFS (w : World) (g : Nat) (q1 q2 : Option Addr) (c1 c2 d : Nat) (L H : List Int) (p : Option Addr) (cc : Nat) (Q : List Int) (back : Bool) (ql : Option Addr) (cl : Nat) (i : Value) (wr : World) : Prop := ∃ k : Nat, k ≤ 64 * d ∧ i = .int .i64 ((k : Int) - 1) ∧ (∀ m, k ≤ m → m < 64 * d → Mm.cbit Q m = turn back → ¬ Zm.meets (oLo back Q m) (oHi back Q m) L H) ∧ FH w wr g q1 q2 c1 c2 d L H p (8 * d) cc (Mm.code Q) ∧ Bytes wr ql (64 * d) cl (bl Q (64 * d))
theorem bl_more_ok (Q : List Int) (j b : Nat) (hb : b < 2) : Sm.allB (bl Q j ++ [b]) := fun x hx => by
  rcases List.mem_append.1 hx with h | h
  · exact bl_ok Q j x h
  · simp at h; omega
set_option maxRecDepth 100000 in
set_option maxHeartbeats 4000000 in
theorem rfind_good (back : Bool) (Q L H : List Int) (p q1 q2 : Option Addr) (d cc c1 c2 : Nat) (w : World) (hQ : Mm.inI Q) (lQ : Q.length = d) (h3 : Bytes w p (8 * d) cc (Mm.code Q)) (h1 : Ints w q1 d c1 L) (h2 : Ints w q2 d c2 H) (hr : rightB L H d d d = true) :
    Calls Try.prog 10 #[.slice p (8 * d : Nat) cc, .agg #[.slice q1 d c1, .slice q2 d c2], .bool back] w (FindPost w back L H Q) := by
  obtain ⟨hd1, hd8, -, -⟩ := rightB_dims hr
  obtain ⟨i5, hi, hi0, hi1, hi2⟩ := info_parts I5
  have HI := Lib.hid hi
  have HI0 := Lib.hid hi0
  have HI1 := Lib.hid hi1
  have HI2 := Lib.hid hi2
  have HR := Lib.hid hr
  have HQQ := Lib.hid hQ
  have LQ := Lib.hid lQ
  have LL := Lib.hid h1.size
  have LH := Lib.hid h2.size
  have L1 := Lib.hid h1.ok
  have L2 := Lib.hid h2.ok
  have hfh := fh_start h1 h2 h3
  have g1 : (1 : Nat) ≤ d := by omega
  have g8 : d ≤ 8 := by omega
  clear hi hi0 hi1 hi2 hr hQ lQ h1 h2 h3
  go_enter Try.func10, Try.ntmps10
  go_upto_region 1 with fail
  generalize w.alloc (.cells #[.slice q1 d c1, .slice q2 d c2] 26) = w1 at *
  have HF1 := Lib.hid hfh
  clear hfh
  obtain ⟨b0, b1⟩ := HF1.out.cells
  go_wp2_with fail
  refine (refright_any q1 q2 d c1 d c2 L H d w1 HF1.out.i1 HF1.out.i2).mono ?_
  rintro _ w2 ⟨rfl, hb2⟩
  rw [HR.out]
  have HF2 := Lib.hid (HF1.out.later hb2)
  clear hb2 b0 b1 HF1
  obtain ⟨b0, b1⟩ := HF2.out.cells
  have HP := Lib.hid (show ∀ w', FH w w' w.heap.size q1 q2 c1 c2 d L H p (8 * d) cc (Mm.code Q) → Calls Try.prog 16 #[.slice p (8 * d : Nat) cc, .int .i64 d] w' fun e w'' => ∃ q c, e = .returned (.slice q d c) ∧ Ints w'' q d c Q ∧ FH w w'' w.heap.size q1 q2 c1 c2 d L H p (8 * d) cc (Mm.code Q) from fun w' h => (refpoint_any (Mm.code Q) p (8 * d) cc d w' h.by' g1 g8 rfl).mono (by
    rintro e w'' ⟨q, c, rfl, hq, hb⟩
    have hpc : Mm.point (Mm.code Q) d = Q := by rw [← LQ.out]; exact Mm.point_code HQQ.out
    rw [hpc, LQ.out] at hq
    rw [hpc, LQ.out]
    exact ⟨q, c, rfl, hq, h.later hb⟩))
  have hfd : FH w w2.drew w.heap.size q1 q2 c1 c2 d L H p (8 * d) cc (Mm.code Q) := HF2.out.later ⟨rfl, rfl, rfl, Nat.le_refl _, fun _ _ => rfl⟩
  go_upto_region 4 with fail
  go_cut [34] (fun s34 wx => s34 = .bool (hasB L H Q d d d) ∧ FH w wx w.heap.size q1 q2 c1 c2 d L H p (8 * d) cc (Mm.code Q))
  case first =>
    refine wp_region_held_drew (S := fun w' => FH w w' w.heap.size q1 q2 c1 c2 d L H p (8 * d) cc (Mm.code Q)) (by kernel_rfl) hfd (fun hHeld => ?_)
    refine wpAnyH_take (i := 0) (oi := ⟨some 30, .load 26 (.tmp 4), _, _, _, _⟩) (v := ?_) rfl (by kernel_rfl) (by kernel_rfl) (by kernel_rfl) (fun _ _ _ h => h) (Or.inl ⟨by rfl, ?_⟩) (by assumption) ?_
    rotate_left
    · intro w' hSw
      obtain ⟨y0, y1⟩ := hSw.cells
      go_simp
      try with_reducible rfl
    try simp only [Act.put, List.setIfInBounds_toArray, List.set_cons_zero, List.set_cons_succ]
    refine wpAnyH_take (i := 1) (oi := ⟨some 31, .move (.tmp 0), _, _, _, _⟩) (v := ?_) rfl (by kernel_rfl) (by kernel_rfl) (by kernel_rfl) (fun _ _ _ h => h) (Or.inl ⟨by rfl, ?_⟩) (by assumption) ?_
    rotate_left
    · intro w' hSw
      obtain ⟨y0, y1⟩ := hSw.cells
      go_simp
      try with_reducible rfl
    try simp only [Act.put, List.setIfInBounds_toArray, List.set_cons_zero, List.set_cons_succ]
    refine wpAnyH_take (i := 2) (oi := ⟨some 32, .move (.tmp 8), _, _, _, _⟩) (v := ?_) rfl (by kernel_rfl) (by kernel_rfl) (by kernel_rfl) (fun _ _ _ h => h) (Or.inl ⟨by rfl, ?_⟩) (by assumption) ?_
    rotate_left
    · intro w' hSw
      obtain ⟨y0, y1⟩ := hSw.cells
      go_simp
      try with_reducible rfl
    try simp only [Act.put, List.setIfInBounds_toArray, List.set_cons_zero, List.set_cons_succ]
    refine wpAnyH_ready (rs := [3]) (by kernel_rfl) (by simp) ?_
    refine AllReadyH.cons (o := ⟨some 33, .call ⟨.value (.func 16), #[.tmp 31, .tmp 32], #[22, 3]⟩, _, _, _, _⟩) rfl (fun K hK => ?_) AllReadyH.nil
    go_simp
    refine (HP.out _ hHeld).mono ?_
    rintro _ w5 ⟨q5, c5, rfl, hq5, hs5⟩
    try go_wp2_with fail
    try go_wp2_with fail
    refine hK.out _ _ hs5 (fun hHeld => ?_)
    clear hK K
    try simp only [Act.put, List.setIfInBounds_toArray, List.set_cons_zero, List.set_cons_succ]
    refine wpAnyH_ready (rs := [4]) (by kernel_rfl) (by simp) ?_
    refine AllReadyH.cons (o := ⟨some 34, .call ⟨.value (.func 13), #[.tmp 30, .tmp 33], #[26, 24]⟩, _, _, _, _⟩) rfl (fun K hK => ?_) AllReadyH.nil
    go_simp
    refine (refhas_any q1 q2 q5 d c1 d c2 d c5 L H Q _ hHeld.i1 hHeld.i2 hq5).mono ?_
    rintro _ w6 ⟨rfl, hb6⟩
    have hs6 := hHeld.later hb6
    clear hb6
    try go_wp2_with fail
    try go_wp2_with fail
    refine hK.out _ _ hs6 (fun hHeld => ?_)
    clear hK K
    try simp only [Act.put, List.setIfInBounds_toArray, List.set_cons_zero, List.set_cons_succ]
    refine wpAnyH_done (by kernel_rfl) ?_ _
    go_wp2_with fail
    go_meet
    exact ⟨rfl, hs6⟩
  case rest =>
    obtain ⟨rfl, hf⟩ := hcut
    obtain ⟨wx, hwx⟩ : ∃ w3, w3 = wc := ⟨_, rfl⟩
    rw [← hwx] at hf ⊢
    have HF3 := Lib.hid hf
    clear hwx hf HF2 b0 b1 HP hfd
    have HCN := Lib.hid (show Mm.code Q ≠ [] from fun e => by have := Mm.code_length Q; rw [e, LQ.out] at this; simp at this; omega)
    have HCL := Lib.hid (show (Mm.code Q).length = 8 * d from by rw [Mm.code_length, LQ.out])
    by_cases hin : hasB L H Q d d d = true
    · have HIN := Lib.hid (hit_self back HQQ.out ((hasB_in (LL.out.symm) LQ.out HR.out).1 hin))
      rw [hin]
      clear hin
      obtain ⟨gp, op, rfl, -⟩ := HF3.out.by'.ne HCN.out
      have HOE := Lib.hid (own_empty8 wx)
      have HBC := Lib.hid (HF3.out.by'.later ((Below.refl wx.heap.size wx).alloc (Nat.le_refl _) (.cells #[] 5)) HF3.out.by'.lt)
      go_wp2_with (at_builtin; refine wpList_append_own _ (by rfl) (.tmp 35) (.tmp 36) 22 (by rfl) wx.heap.size 5 i5 (.int .u8 0) 1 1 A22 HI.out HI0.out HI1.out HI2.out (by rfl) (by decide) _ 0 [] (by rfl) HOE.out ⟨gp, op, none⟩ (8 * d) cc (vals (Mm.code Q)) (by rfl) (by rw [vals_length, HCL.out, Nat.mul_one]) HBC.out.cells (vals_one _) (by unfold maxLen; omega) (by omega) (by simp) ?_; intro v3 w3 hown3 hgrow3 _; rw [Nat.zero_add, List.nil_append] at hown3; obtain ⟨q3, c3, rfl, hby3⟩ := owns_form hown3 (Mm.code_ok Q); have HB3 := Lib.hid hby3; have HG3 := Lib.hid (HF3.out.low.trans ((((Below.refl _ _).alloc (Nat.le_refl _) _).grown hgrow3 (by simp) (fun k hk => by simp [Value.ownBlock] at hk; omega)).mono HF3.out.low.size)); clear hown3 hgrow3 hby3)
      go_ret2
      have e := LQ.out
      subst e
      exact ⟨true, _, rfl, HG3.out, fun h => by simp at h, fun _ => ⟨Q, q3, c3, HIN.out, rfl, HB3.out⟩⟩
    · have HOUT := Lib.hid (show ¬ Zm.inB L H Q from fun h => hin ((hasB_in (LL.out.symm) LQ.out HR.out).2 h))
      have hinf : hasB L H Q d d d = false := by simpa using hin
      rw [hinf]
      clear hin hinf
      go_wp2_with fail
      go_loopw [9, 10] (fun v i wr => RFL wx Q d v i wr) (fun _ i _ => 64 * d - (intOf i).toNat)
      case atStart => exact ⟨0, by omega, rfl, World.ownsRow_nil wx _ _ _, Below.refl _ _⟩
      case round =>
        obtain ⟨k, hk, rfl, ho, hb⟩ := hrel
        have HO := Lib.hid ho
        have HB := Lib.hid hb
        clear ho hb
        by_cases hlt : k < 64 * d
        · have HF4 := Lib.hid (HF3.out.later HB.out)
          have hcb : bitI (Mm.code Q) k = Mm.cbit Q k := by rw [bitI_of (B := Mm.code Q) (k := k) rfl]; exact Mm.code_bit Q k (by rw [LQ.out]; exact hlt)
          have HCB := Lib.hid hcb
          have hx2 := Mm.cbit_lt Q k
          have HS := Lib.hid (bl_succ Q k)
          have HBS := Lib.hid HB.out.size
          clear hcb
          go_wp2_with fail
          refine (refbit_any (Mm.code Q) p (8 * d) cc k wr HF4.out.by' (by omega) (by omega) (by omega)).mono ?_
          rintro _ w5 ⟨rfl, rfl⟩
          rw [HCB.out]
          generalize Mm.cbit Q k = x at *
          go_wp2_with (at_builtin; refine wpList_append_own _ (by rfl) (.tmp 44) (.tmp 48) 22 (by rfl) wx.heap.size 5 i5 (.int .u8 0) 1 1 A22 HI.out HI0.out HI1.out HI2.out (by rfl) (by decide) _ k _ (by rfl) (HO.out.alloc _) ⟨w5.heap.size, 0, none⟩ 1 1 (vals [x]) (by rfl) (by rfl) (cells_of_row (L := [x]) (heap_alloc_new w5 _)) (vals_one _) (by unfold maxLen; omega) (by omega) (by have := HBS.out; simp; omega) ?_; intro v4 w4 hown4 hgrow4 _; have hb4 : Below wx.heap.size wx w4 := (HB.out.alloc HB.out.size _).grown hgrow4 (by have := HBS.out; simp; omega) (fun i hi => ((HO.out.alloc (.cells (u8s [x]) 5)).lt i hi).1); rw [← vals_append, ← HS.out] at hown4; have HE := Lib.hid hown4; have HB4 := Lib.hid hb4; clear hown4 hgrow4 hb4)
          go_roundw
          case rel => exact ⟨k + 1, by omega, by go_num, HE.out, HB4.out⟩
          case measure => simp [intOf]; omega
        · obtain rfl : k = 64 * d := by omega
          obtain ⟨ql, cl, rfl, hql⟩ := owns_form HO.out (bl_ok Q _)
          have HBL := Lib.hid hql
          have HF4 := Lib.hid (HF3.out.later HB.out)
          clear hql HO HF3
          go_upto_if 50 with fail
          go_cut [11] (fun s11 wz => s11 = .int .u8 (turn back : Nat) ∧ wz = wr)
          case first =>
            cases back with
            | true =>
              go_wp2_with fail
              go_meet
              exact ⟨rfl, rfl⟩
            | false =>
              go_wp2_with fail
              go_meet
              exact ⟨rfl, rfl⟩
          case rest =>
            obtain ⟨rfl, hwz⟩ := hcut
            rw [hwz]
            clear hwz
            go_wp2_with fail
            have HNX := Lib.hid (show ∀ m, 64 * d ≤ m → m < 64 * d → Mm.cbit Q m = turn back → ¬ Zm.meets (oLo back Q m) (oHi back Q m) L H from fun m a b => by omega)
            rw [show ((64 * d : Nat) : Int) = 64 * (d : Int) from by omega]
            go_loopw [12] (fun i wr => RFS w w.heap.size q1 q2 c1 c2 d L H p cc Q back ql cl i wr) (fun i _ => (intOf i + 1).toNat)
            case atStart => exact ⟨64 * d, Nat.le_refl _, congrArg (Value.int .i64) (by omega), HNX.out, HF4.out, HBL.out⟩
            case round =>
              obtain ⟨k, hk, rfl, hno, hf, hl⟩ := hrel
              have HNO := Lib.hid hno
              have HF5 := Lib.hid hf
              have HBL5 := Lib.hid hl
              clear hno hf hl HF4 HBL HNX
              cases k with
              | zero =>
                have HM := Lib.hid (miss_of back HQQ.out (LH.out.symm.trans LQ.out.symm) HOUT.out (fun m hm => HNO.out m (by omega) (by rw [← LQ.out]; exact hm)))
                go_wp2_with fail
                go_ret2
                exact ⟨false, _, rfl, HF5.out.low, fun _ => ⟨rfl, HM.out⟩, fun h => by simp at h⟩
              | succ j =>
                rw [show (((j + 1 : Nat) : Int) - 1) = (j : Int) from by omega]
                obtain ⟨gl, ol, rfl, hx⟩ := HBL5.out.ne (by intro e; have := bl_length Q (64 * d); rw [e] at this; simp at this; omega)
                have hc := hx j (by rw [bl_length]; omega)
                rw [bl_get _ _ _ (by omega)] at hc
                obtain ⟨x, hxe⟩ : ∃ x, x = Mm.cbit Q j := ⟨_, rfl⟩
                have hx2 := Mm.cbit_lt Q j
                have ht2 := turn_lt back
                obtain ⟨tb, htb⟩ : ∃ tb, tb = turn back := ⟨_, rfl⟩
                rw [← hxe] at hc hx2
                rw [← htb] at ht2
                rw [← htb]
                have HXE := Lib.hid hxe
                have HTB := Lib.hid htb
                have i1 : (j : Int) < 64 * d := by omega
                have i2 : (j : Int) < ((64 * d : Nat) : Int) := by omega
                clear hx hxe htb
                by_cases hne : x = tb
                · subst hne
                  have HBT := Lib.hid (HBL5.out.take j (by omega))
                  have HBS := Lib.hid (show (bl Q (64 * d)).take j = bl Q j from bl_take Q j _ (by omega))
                  have hcl := HBL5.out.le
                  have hw1 : Below wr.heap.size wr (wr.alloc (.cells #[] 5)) := (Below.refl _ _).alloc (Nat.le_refl _) _
                  have HBC := Lib.hid (HBT.out.later hw1 HBT.out.lt)
                  have HOE := Lib.hid (own_empty8 wr)
                  have hsub : (IntKind.u8).wrap ((1 : Int) - (x : Int)) = ((1 - x : Nat) : Int) := by
                    rw [IntKind.wrap_u8]
                    omega
                  clear hw1
                  go_wp2_with (first | (at_builtin; refine wpList_append_own _ (by rfl) (.tmp 64) (.tmp 67) 22 (by rfl) wr.heap.size 5 i5 (.int .u8 0) 1 1 A22 HI.out HI0.out HI1.out HI2.out (by rfl) (by decide) _ 0 [] (by rfl) HOE.out ⟨gl, ol, none⟩ j cl (vals ((bl Q (64 * d)).take j)) (by rfl) (by rw [vals_length, HBS.out, bl_length, Nat.mul_one]) HBC.out.cells (vals_one _) (by unfold maxLen; omega) (by omega) (by simp) ?_; intro v3 w3 hown3 hgrow3 _; rw [Nat.zero_add, List.nil_append, HBS.out] at hown3; obtain ⟨q3, c3, rfl⟩ := own_form hown3; have HO3 := Lib.hid hown3; have hb3 : Below wr.heap.size wr w3 := ((Below.refl _ _).alloc (Nat.le_refl _) _).grown hgrow3 (by simp) (fun k hk => by simp [Value.ownBlock] at hk; omega); have hs3 := hb3.size; have HW3 := Lib.hid hb3; clear hown3 hgrow3 hb3) | (at_builtin; refine wpList_append_own _ (by rfl) (.tmp 69) (.tmp 72) 22 (by rfl) wr.heap.size 5 i5 (.int .u8 0) 1 1 A22 HI.out HI0.out HI1.out HI2.out (by rfl) (by decide) _ j _ (by rfl) (HO3.out.alloc _) ⟨w3.heap.size, 0, none⟩ 1 1 (vals [1 - x]) (by rfl) (by rfl) (cells_of_row (L := [1 - x]) (heap_alloc_new w3 _)) (vals_one _) (by unfold maxLen; omega) (by omega) (by simp; omega) ?_; intro v4 w4 hown4 hgrow4 _; have hb4 : Below wr.heap.size wr w4 := (HW3.out.alloc HW3.out.size _).grown hgrow4 (by simp; omega) (fun i hi => ((HO3.out.alloc (.cells (u8s [1 - x]) 5)).lt i hi).1); rw [← vals_append] at hown4; obtain ⟨q4, c4, rfl, hby4⟩ := owns_form hown4 (bl_more_ok Q j (1 - x) (by omega)); have HB4 := Lib.hid hby4; have HW4 := Lib.hid hb4; clear hown4 hgrow4 hb4 hby4))
                  have HF6 := Lib.hid (HF5.out.later HW4.out)
                  have HBL6 := Lib.hid (HBL5.out.later HW4.out HBL5.out.lt)
                  have hx1 : 1 - x < 2 := by omega
                  have hlo : Zm.rlo (fB (bl Q j ++ [1 - x])) (j + 1) d = oLo back Q j := by
                    unfold oLo
                    rw [← HTB.out, LQ.out]
                    exact (rlo_congr (bits_more Q j (1 - x))).1
                  have hhi : Zm.rhi (fB (bl Q j ++ [1 - x])) (j + 1) d = oHi back Q j := by
                    unfold oHi
                    rw [← HTB.out, LQ.out]
                    exact (rlo_congr (bits_more Q j (1 - x))).2
                  have hrr : rightB (oLo back Q j) (oHi back Q j) d d d = true := by
                    unfold oLo oHi
                    rw [LQ.out]
                    exact region_right (Zm.tn_lt (Mm.cbit_lt Q) j (by have := turn_lt back; omega)) (j + 1) d g1 g8
                  have HRG := Lib.hid (show ∀ w', Below w4.heap.size w4 w' → Calls Try.prog 30 #[.slice q4 (j + 1) c4, .int .i64 ((j : Int) + 1), .int .i64 d] w' fun e w'' => ∃ p5 a5 q5 b5, e = .returned (.agg #[.slice p5 d a5, .slice q5 d b5]) ∧ Ints w'' p5 d a5 (oLo back Q j) ∧ Ints w'' q5 d b5 (oHi back Q j) ∧ Below w'.heap.size w' w'' from fun w' hb => by
                    have e1 : (j : Int) + 1 = ((j + 1 : Nat) : Int) := by omega
                    rw [e1]
                    refine (region_any (bl Q j ++ [1 - x]) (fun y hy => by
                      rcases List.mem_append.1 hy with h | h
                      · exact bl_two Q j y h
                      · simp at h; omega) q4 (j + 1) c4 (j + 1) d w' (HB4.out.later hb HB4.out.lt) (Nat.le_refl _) g8 (by omega)).mono ?_
                    rintro e w'' ⟨v, rfl, p5, a5, q5, b5, rfl, h1, h2, h3⟩
                    rw [Zm.rlo_length, hlo] at h1
                    rw [Zm.rhi_length, hhi] at h2
                    rw [Zm.rlo_length, Zm.rhi_length]
                    exact ⟨p5, a5, q5, b5, rfl, h1, h2, h3⟩)
                  have HCT := Lib.hid (show ∀ w' p5 a5 q5 b5, Below w4.heap.size w4 w' → Ints w' p5 d a5 (oLo back Q j) → Ints w' q5 d b5 (oHi back Q j) → Calls Try.prog 29 #[.agg #[.slice p5 d a5, .slice q5 d b5], .agg #[.slice q1 d c1, .slice q2 d c2]] w' (CutPost w' (oLo back Q j) (oHi back Q j) L H) from fun w' p5 a5 q5 b5 hb h1 h2 => rcut_any p5 q5 q1 q2 a5 b5 c1 c2 d _ _ L H w' h1 h2 (HF6.out.later hb).i1 (HF6.out.later hb).i2 hrr HR.out)
                  have HNX := Lib.hid (show ¬ Zm.meets (oLo back Q j) (oHi back Q j) L H → ∀ m, j ≤ m → m < 64 * d → Mm.cbit Q m = turn back → ¬ Zm.meets (oLo back Q m) (oHi back Q m) L H from fun h m a b c => by
                    by_cases e : m = j
                    · subst e
                      exact h
                    · exact HNO.out m (by omega) b c)
                  have hwj : IntKind.i64.wrap ((j : Int) + 1) = (j : Int) + 1 := by
                    rw [IntKind.wrap_i64]
                    omega
                  clear hx1 hlo hhi hrr hx2 ht2 hcl hsub hc
                  go_cut [14, 15] (fun s14 s15 wz => ∃ (g : Nat) (p6 p7 : Option Addr) (n6 a6 n7 a7 : Nat) (ok : Bool), s14 = .pointer (some ⟨g, 0, none⟩) ∧ s15 = .bool ok ∧ wz.cell? ⟨g, 0, none⟩ = some (.slice p6 n6 a6) ∧ wz.cell? ⟨g, 1, none⟩ = some (.slice p7 n7 a7) ∧ Below w4.heap.size w4 wz ∧ w4.heap.size ≤ g ∧ (ok = true → Zm.meets (oLo back Q j) (oHi back Q j) L H ∧ Ints wz p6 n6 a6 (Zm.cutLo (oLo back Q j) L) ∧ Ints wz p7 n7 a7 (Zm.cutHi (oHi back Q j) H) ∧ (∀ a, p6 = some a → w4.heap.size ≤ a.block) ∧ (∀ a, p7 = some a → w4.heap.size ≤ a.block)) ∧ (ok = false → ¬ Zm.meets (oLo back Q j) (oHi back Q j) L H))
                  case first =>
                    obtain ⟨y0, y1⟩ := HF6.out.cells
                    have HY := Lib.hid (show ∀ w', Below w4.heap.size w4 w' → w'.cell? ⟨w.heap.size, 0, none⟩ = some (.slice q1 d c1) ∧ w'.cell? ⟨w.heap.size, 1, none⟩ = some (.slice q2 d c2) from fun w' hb => (HF6.out.later hb).cells)
                    clear y0 y1
                    refine wp_region_held_drew (S := fun w' => Below w4.heap.size w4 w') (by kernel_rfl) ⟨rfl, rfl, rfl, Nat.le_refl _, fun _ _ => rfl⟩ (fun hHeld => ?_)
                    refine wpAnyH_take (i := 0) (oi := ⟨some 75, .move (.tmp 13), _, _, _, _⟩) (v := ?_) rfl (by kernel_rfl) (by kernel_rfl) (by kernel_rfl) (fun _ _ _ h => h) (Or.inl ⟨by rfl, ?_⟩) (by assumption) ?_
                    rotate_left
                    · intro w' hSw
                      go_simp
                      try with_reducible rfl
                    try simp only [Act.put, List.setIfInBounds_toArray, List.set_cons_zero, List.set_cons_succ]
                    refine wpAnyH_take (i := 1) (oi := ⟨some 76, .move (.tmp 12), _, _, _, _⟩) (v := ?_) rfl (by kernel_rfl) (by kernel_rfl) (by kernel_rfl) (fun _ _ _ h => h) (Or.inl ⟨by rfl, ?_⟩) (by assumption) ?_
                    rotate_left
                    · intro w' hSw
                      go_simp
                      try with_reducible rfl
                    try simp only [Act.put, List.setIfInBounds_toArray, List.set_cons_zero, List.set_cons_succ]
                    refine wpAnyH_take (i := 2) (oi := ⟨some 77, .binOp .add 3 (.tmp 76) (.const (.int .i64 1)) 3, _, _, _, _⟩) (v := ?_) rfl (by kernel_rfl) (by kernel_rfl) (by kernel_rfl) (fun _ _ _ h => h) (Or.inl ⟨by rfl, ?_⟩) (by assumption) ?_
                    rotate_left
                    · intro w' hSw
                      go_simp
                      try with_reducible rfl
                    try simp only [Act.put, List.setIfInBounds_toArray, List.set_cons_zero, List.set_cons_succ]
                    refine wpAnyH_take (i := 3) (oi := ⟨some 78, .move (.tmp 8), _, _, _, _⟩) (v := ?_) rfl (by kernel_rfl) (by kernel_rfl) (by kernel_rfl) (fun _ _ _ h => h) (Or.inl ⟨by rfl, ?_⟩) (by assumption) ?_
                    rotate_left
                    · intro w' hSw
                      go_simp
                      try with_reducible rfl
                    try simp only [Act.put, List.setIfInBounds_toArray, List.set_cons_zero, List.set_cons_succ]
                    refine wpAnyH_take (i := 5) (oi := ⟨some 80, .load 26 (.tmp 4), _, _, _, _⟩) (v := ?_) rfl (by kernel_rfl) (by kernel_rfl) (by kernel_rfl) (fun _ _ _ h => h) (Or.inl ⟨by rfl, ?_⟩) (by assumption) ?_
                    rotate_left
                    · intro w' hSw
                      obtain ⟨y0, y1⟩ := HY.out _ hSw
                      go_simp
                      try with_reducible rfl
                    try simp only [Act.put, List.setIfInBounds_toArray, List.set_cons_zero, List.set_cons_succ]
                    refine wpAnyH_ready (rs := [4, 10]) (by kernel_rfl) (by simp) ?_
                    refine AllReadyH.cons (o := ⟨some 79, .call ⟨.value (.func 30), #[.tmp 75, .tmp 77, .tmp 78], #[22, 3, 3]⟩, _, _, _, _⟩) rfl (fun K hK => ?_) (AllReadyH.cons (o := ⟨some 14, .alloc 26, _, _, _, _⟩) rfl (fun K hK => ?_) AllReadyH.nil)
                    ·
                      go_simp
                      with_reducible refine (HRG.out _ ?hx79).mono ?_
                      case hx79 => exact hHeld
                      rintro _ w5 ⟨p5, a5, q5, b5, rfl, hl5, hh5, hb5⟩
                      have hw5 : Below w4.heap.size w4 w5 := hHeld.trans (hb5.mono hHeld.size)
                      try go_wp2_with fail
                      refine hK.out _ _ hw5 (fun hHeld => ?_)
                      clear hK K
                      try simp only [Act.put, List.setIfInBounds_toArray, List.set_cons_zero, List.set_cons_succ]
                      refine wpAnyH_ready (rs := [6, 10]) (by kernel_rfl) (by simp) ?_
                      refine AllReadyH.cons (o := ⟨some 81, .call ⟨.value (.func 29), #[.tmp 79, .tmp 80], #[26, 26]⟩, _, _, _, _⟩) rfl (fun K hK => ?_) (AllReadyH.cons (o := ⟨some 14, .alloc 26, _, _, _, _⟩) rfl (fun K hK => ?_) AllReadyH.nil)
                      ·
                        go_simp
                        with_reducible refine (HCT.out _ p5 a5 q5 b5 ?hx81 ?hy81 ?hz81).mono ?_
                        case hx81 => exact hHeld
                        case hy81 => exact hl5
                        case hz81 => exact hh5
                        rintro _ w6 ⟨ok, p6, p7, n6, a6, n7, a7, rfl, hb6, hy6, hn6⟩
                        have hw6 : Below w4.heap.size w4 w6 := hHeld.trans (hb6.mono hHeld.size)
                        try go_wp2_with fail
                        refine hK.out _ _ hw6 (fun hHeld => ?_)
                        clear hK K
                        try simp only [Act.put, List.setIfInBounds_toArray, List.set_cons_zero, List.set_cons_succ]
                        refine wpAnyH_take (i := 7) (oi := ⟨some 74, .move (.tmp 81), _, _, _, _⟩) (v := ?_) rfl (by kernel_rfl) (by kernel_rfl) (by kernel_rfl) (fun _ _ _ h => h) (Or.inl ⟨by rfl, ?_⟩) (by assumption) ?_
                        rotate_left
                        · intro w' hSw
                          go_simp
                          try with_reducible rfl
                        try simp only [Act.put, List.setIfInBounds_toArray, List.set_cons_zero, List.set_cons_succ]
                        refine wpAnyH_take (i := 8) (oi := ⟨some 82, .extract (.tmp 74) 0, _, _, _, _⟩) (v := ?_) rfl (by kernel_rfl) (by kernel_rfl) (by kernel_rfl) (fun _ _ _ h => h) (Or.inl ⟨by rfl, ?_⟩) (by assumption) ?_
                        rotate_left
                        · intro w' hSw
                          go_simp
                          try with_reducible rfl
                        try simp only [Act.put, List.setIfInBounds_toArray, List.set_cons_zero, List.set_cons_succ]
                        refine wpAnyH_take (i := 9) (oi := ⟨some 83, .extract (.tmp 74) 1, _, _, _, _⟩) (v := ?_) rfl (by kernel_rfl) (by kernel_rfl) (by kernel_rfl) (fun _ _ _ h => h) (Or.inl ⟨by rfl, ?_⟩) (by assumption) ?_
                        rotate_left
                        · intro w' hSw
                          go_simp
                          try with_reducible rfl
                        try simp only [Act.put, List.setIfInBounds_toArray, List.set_cons_zero, List.set_cons_succ]
                        refine wpAnyH_ready (rs := [10]) (by kernel_rfl) (by simp) ?_
                        refine AllReadyH.cons (o := ⟨some 14, .alloc 26, _, _, _, _⟩) rfl (fun K hK => ?_) AllReadyH.nil
                        go_simp
                        try go_wp2_with fail
                        refine hK.out _ _ (hHeld.alloc hHeld.size _) (fun hHeld => ?_)
                        clear hK K
                        try simp only [Act.put, List.setIfInBounds_toArray, List.set_cons_zero, List.set_cons_succ]
                        have hrow : (w6.alloc (.cells #[.slice none 0 0, .slice none 0 0] 26)).heap[w6.heap.size]? = some (.cells #[.slice none 0 0, .slice none 0 0] 26 (0, 0)) := heap_alloc_new w6 _
                        have hbA : Below w6.heap.size w6 (w6.alloc (.cells #[.slice none 0 0, .slice none 0 0] 26)) := (Below.refl _ _).alloc (Nat.le_refl _) _
                        have hsA : (w6.alloc (.cells #[.slice none 0 0, .slice none 0 0] 26)).heap.size = w6.heap.size + 1 := by
                          show (w6.alloc (.cells #[.slice none 0 0, .slice none 0 0] 26)).heap.size = w6.heap.size + 1
                          simp
                        have hgW : w4.heap.size ≤ w6.heap.size := by have := hw6.size; omega
                        generalize (w6.alloc (.cells #[.slice none 0 0, .slice none 0 0] 26)) = wa at *
                        have hc0 : wa.cell? ⟨w6.heap.size, 0, none⟩ = some (.slice none 0 0) := cell_of_row wa w6.heap.size 0 _ _ _ hrow
                        have hc1 : wa.cell? ⟨w6.heap.size, 1, none⟩ = some (.slice none 0 0) := cell_of_row wa w6.heap.size 1 _ _ _ hrow
                        have hf0 : wa.frozen? ⟨w6.heap.size, 0, none⟩ = false := frozen_of_row wa w6.heap.size _ _ _ hrow
                        have hf1 : wa.frozen? ⟨w6.heap.size, 1, none⟩ = false := frozen_of_row wa w6.heap.size _ _ _ hrow
                        refine wpAnyH_ready (rs := [11]) (by kernel_rfl) (by simp) ?_
                        refine AllReadyH.cons (o := ⟨none, .store 26 (.tmp 14) (.tmp 82), _, _, _, _⟩) rfl (fun K hK => ?_) AllReadyH.nil
                        go_simp
                        try go_wp2_with fail
                        refine hK.out _ _ ((hHeld.setCell hgW _).setCell hgW _) (fun hHeld => ?_)
                        clear hK K
                        try simp only [Act.put, List.setIfInBounds_toArray, List.set_cons_zero, List.set_cons_succ]
                        refine wpAnyH_take (i := 12) (oi := ⟨some 15, .assign (.tmp 83), _, _, _, _⟩) (v := ?_) rfl (by kernel_rfl) (by kernel_rfl) (by kernel_rfl) (fun _ _ _ h => h) (Or.inl ⟨by rfl, ?_⟩) (by assumption) ?_
                        rotate_left
                        · intro w' hSw
                          go_simp
                          try with_reducible rfl
                        try simp only [Act.put, List.setIfInBounds_toArray, List.set_cons_zero, List.set_cons_succ]
                        refine wpAnyH_done (by kernel_rfl) ?_ _
                        go_wp2_with fail
                        go_meet
                        have hr1 := heap_setCell_same wa w6.heap.size 0 _ _ (.slice p6 n6 a6) hrow
                        have hr2 := heap_setCell_same _ w6.heap.size 1 _ _ (.slice p7 n7 a7) hr1
                        refine ⟨w6.heap.size, p6, p7, n6, a6, n7, a7, ok, rfl, rfl, cell_of_row _ w6.heap.size 0 _ _ _ hr2, cell_of_row _ w6.heap.size 1 _ _ _ hr2, hHeld, hgW, fun h => ?_, hn6⟩
                        obtain ⟨m1, m2, m3, m4, m5⟩ := hy6 h
                        have hfin := (hbA.setCell (p := ⟨w6.heap.size, 0, none⟩) (Nat.le_refl _) (.slice p6 n6 a6)).setCell (p := ⟨w6.heap.size, 1, none⟩) (Nat.le_refl _) (.slice p7 n7 a7)
                        exact ⟨m1, m2.later hfin, m3.later hfin, fun a e => by have := m4 a e; have := hw5.size; omega, fun a e => by have := m5 a e; have := hw5.size; omega⟩
                      ·
                        go_simp
                        try go_wp2_with fail
                        refine hK.out _ _ (hHeld.alloc hHeld.size _) (fun hHeld => ?_)
                        clear hK K
                        try simp only [Act.put, List.setIfInBounds_toArray, List.set_cons_zero, List.set_cons_succ]
                        have hrow : (w5.alloc (.cells #[.slice none 0 0, .slice none 0 0] 26)).heap[w5.heap.size]? = some (.cells #[.slice none 0 0, .slice none 0 0] 26 (0, 0)) := heap_alloc_new w5 _
                        have hbA : Below w5.heap.size w5 (w5.alloc (.cells #[.slice none 0 0, .slice none 0 0] 26)) := (Below.refl _ _).alloc (Nat.le_refl _) _
                        have hsA : (w5.alloc (.cells #[.slice none 0 0, .slice none 0 0] 26)).heap.size = w5.heap.size + 1 := by
                          show (w5.alloc (.cells #[.slice none 0 0, .slice none 0 0] 26)).heap.size = w5.heap.size + 1
                          simp
                        have hgW : w4.heap.size ≤ w5.heap.size := by have := hw5.size; omega
                        have hl5 := hl5.later hbA
                        have hh5 := hh5.later hbA
                        generalize (w5.alloc (.cells #[.slice none 0 0, .slice none 0 0] 26)) = wa at *
                        refine wpAnyH_ready (rs := [6]) (by kernel_rfl) (by simp) ?_
                        refine AllReadyH.cons (o := ⟨some 81, .call ⟨.value (.func 29), #[.tmp 79, .tmp 80], #[26, 26]⟩, _, _, _, _⟩) rfl (fun K hK => ?_) AllReadyH.nil
                        go_simp
                        with_reducible refine (HCT.out _ p5 a5 q5 b5 ?hx81 ?hy81 ?hz81).mono ?_
                        case hx81 => exact hHeld
                        case hy81 => exact hl5
                        case hz81 => exact hh5
                        rintro _ w6 ⟨ok, p6, p7, n6, a6, n7, a7, rfl, hb6, hy6, hn6⟩
                        have hw6 : Below w4.heap.size w4 w6 := hHeld.trans (hb6.mono hHeld.size)
                        have hrow := (hb6.block _ (Array.getElem?_eq_some_iff.1 hrow).1).trans hrow
                        have hlt5 := hb6.size
                        try go_wp2_with fail
                        refine hK.out _ _ hw6 (fun hHeld => ?_)
                        clear hK K
                        try simp only [Act.put, List.setIfInBounds_toArray, List.set_cons_zero, List.set_cons_succ]
                        refine wpAnyH_take (i := 7) (oi := ⟨some 74, .move (.tmp 81), _, _, _, _⟩) (v := ?_) rfl (by kernel_rfl) (by kernel_rfl) (by kernel_rfl) (fun _ _ _ h => h) (Or.inl ⟨by rfl, ?_⟩) (by assumption) ?_
                        rotate_left
                        · intro w' hSw
                          go_simp
                          try with_reducible rfl
                        try simp only [Act.put, List.setIfInBounds_toArray, List.set_cons_zero, List.set_cons_succ]
                        refine wpAnyH_take (i := 8) (oi := ⟨some 82, .extract (.tmp 74) 0, _, _, _, _⟩) (v := ?_) rfl (by kernel_rfl) (by kernel_rfl) (by kernel_rfl) (fun _ _ _ h => h) (Or.inl ⟨by rfl, ?_⟩) (by assumption) ?_
                        rotate_left
                        · intro w' hSw
                          go_simp
                          try with_reducible rfl
                        try simp only [Act.put, List.setIfInBounds_toArray, List.set_cons_zero, List.set_cons_succ]
                        refine wpAnyH_take (i := 9) (oi := ⟨some 83, .extract (.tmp 74) 1, _, _, _, _⟩) (v := ?_) rfl (by kernel_rfl) (by kernel_rfl) (by kernel_rfl) (fun _ _ _ h => h) (Or.inl ⟨by rfl, ?_⟩) (by assumption) ?_
                        rotate_left
                        · intro w' hSw
                          go_simp
                          try with_reducible rfl
                        try simp only [Act.put, List.setIfInBounds_toArray, List.set_cons_zero, List.set_cons_succ]
                        have hc0 : w6.cell? ⟨w5.heap.size, 0, none⟩ = some (.slice none 0 0) := cell_of_row w6 w5.heap.size 0 _ _ _ hrow
                        have hc1 : w6.cell? ⟨w5.heap.size, 1, none⟩ = some (.slice none 0 0) := cell_of_row w6 w5.heap.size 1 _ _ _ hrow
                        have hf0 : w6.frozen? ⟨w5.heap.size, 0, none⟩ = false := frozen_of_row w6 w5.heap.size _ _ _ hrow
                        have hf1 : w6.frozen? ⟨w5.heap.size, 1, none⟩ = false := frozen_of_row w6 w5.heap.size _ _ _ hrow
                        refine wpAnyH_ready (rs := [11]) (by kernel_rfl) (by simp) ?_
                        refine AllReadyH.cons (o := ⟨none, .store 26 (.tmp 14) (.tmp 82), _, _, _, _⟩) rfl (fun K hK => ?_) AllReadyH.nil
                        go_simp
                        try go_wp2_with fail
                        refine hK.out _ _ ((hHeld.setCell hgW _).setCell hgW _) (fun hHeld => ?_)
                        clear hK K
                        try simp only [Act.put, List.setIfInBounds_toArray, List.set_cons_zero, List.set_cons_succ]
                        refine wpAnyH_take (i := 12) (oi := ⟨some 15, .assign (.tmp 83), _, _, _, _⟩) (v := ?_) rfl (by kernel_rfl) (by kernel_rfl) (by kernel_rfl) (fun _ _ _ h => h) (Or.inl ⟨by rfl, ?_⟩) (by assumption) ?_
                        rotate_left
                        · intro w' hSw
                          go_simp
                          try with_reducible rfl
                        try simp only [Act.put, List.setIfInBounds_toArray, List.set_cons_zero, List.set_cons_succ]
                        refine wpAnyH_done (by kernel_rfl) ?_ _
                        go_wp2_with fail
                        go_meet
                        have hr1 := heap_setCell_same w6 w5.heap.size 0 _ _ (.slice p6 n6 a6) hrow
                        have hr2 := heap_setCell_same _ w5.heap.size 1 _ _ (.slice p7 n7 a7) hr1
                        refine ⟨w5.heap.size, p6, p7, n6, a6, n7, a7, ok, rfl, rfl, cell_of_row _ w5.heap.size 0 _ _ _ hr2, cell_of_row _ w5.heap.size 1 _ _ _ hr2, hHeld, hgW, fun h => ?_, hn6⟩
                        obtain ⟨m1, m2, m3, m4, m5⟩ := hy6 h
                        exact ⟨m1, Zr.Ints.aside (Zr.Ints.aside m2 _ _ _ (fun a e => by have := m4 a e; omega)) _ _ _ (fun a e => by have := m4 a e; omega), Zr.Ints.aside (Zr.Ints.aside m3 _ _ _ (fun a e => by have := m5 a e; omega)) _ _ _ (fun a e => by have := m5 a e; omega), fun a e => by have := m4 a e; have := hw5.size; omega, fun a e => by have := m5 a e; have := hw5.size; omega⟩
                    ·
                      go_simp
                      try go_wp2_with fail
                      refine hK.out _ _ ((Below.refl _ _).alloc (Nat.le_refl _) _).drew (fun hHeld => ?_)
                      clear hK K
                      try simp only [Act.put, List.setIfInBounds_toArray, List.set_cons_zero, List.set_cons_succ]
                      have hrow : (w4.alloc (.cells #[.slice none 0 0, .slice none 0 0] 26)).drew.heap[w4.heap.size]? = some (.cells #[.slice none 0 0, .slice none 0 0] 26 (0, 0)) := heap_alloc_new w4 _
                      have hbA : Below w4.heap.size w4 (w4.alloc (.cells #[.slice none 0 0, .slice none 0 0] 26)).drew := ((Below.refl _ _).alloc (Nat.le_refl _) _).drew
                      have hsA : (w4.alloc (.cells #[.slice none 0 0, .slice none 0 0] 26)).drew.heap.size = w4.heap.size + 1 := by
                        show (w4.alloc (.cells #[.slice none 0 0, .slice none 0 0] 26)).heap.size = w4.heap.size + 1
                        simp
                      have hgW : w4.heap.size ≤ w4.heap.size := by have := Nat.le_refl w4.heap.size; omega
                      generalize (w4.alloc (.cells #[.slice none 0 0, .slice none 0 0] 26)).drew = wa at *
                      refine wpAnyH_ready (rs := [4]) (by kernel_rfl) (by simp) ?_
                      refine AllReadyH.cons (o := ⟨some 79, .call ⟨.value (.func 30), #[.tmp 75, .tmp 77, .tmp 78], #[22, 3, 3]⟩, _, _, _, _⟩) rfl (fun K hK => ?_) AllReadyH.nil
                      go_simp
                      with_reducible refine (HRG.out _ ?hx79).mono ?_
                      case hx79 => exact hHeld
                      rintro _ w5 ⟨p5, a5, q5, b5, rfl, hl5, hh5, hb5⟩
                      have hw5 : Below w4.heap.size w4 w5 := hHeld.trans (hb5.mono hHeld.size)
                      have hrow := (hb5.block _ (Array.getElem?_eq_some_iff.1 hrow).1).trans hrow
                      have hltA := hb5.size
                      try go_wp2_with fail
                      refine hK.out _ _ hw5 (fun hHeld => ?_)
                      clear hK K
                      try simp only [Act.put, List.setIfInBounds_toArray, List.set_cons_zero, List.set_cons_succ]
                      refine wpAnyH_ready (rs := [6]) (by kernel_rfl) (by simp) ?_
                      refine AllReadyH.cons (o := ⟨some 81, .call ⟨.value (.func 29), #[.tmp 79, .tmp 80], #[26, 26]⟩, _, _, _, _⟩) rfl (fun K hK => ?_) AllReadyH.nil
                      go_simp
                      with_reducible refine (HCT.out _ p5 a5 q5 b5 ?hx81 ?hy81 ?hz81).mono ?_
                      case hx81 => exact hHeld
                      case hy81 => exact hl5
                      case hz81 => exact hh5
                      rintro _ w6 ⟨ok, p6, p7, n6, a6, n7, a7, rfl, hb6, hy6, hn6⟩
                      have hw6 : Below w4.heap.size w4 w6 := hHeld.trans (hb6.mono hHeld.size)
                      have hrow := (hb6.block _ (Array.getElem?_eq_some_iff.1 hrow).1).trans hrow
                      have hlt5 := hb6.size
                      try go_wp2_with fail
                      refine hK.out _ _ hw6 (fun hHeld => ?_)
                      clear hK K
                      try simp only [Act.put, List.setIfInBounds_toArray, List.set_cons_zero, List.set_cons_succ]
                      refine wpAnyH_take (i := 7) (oi := ⟨some 74, .move (.tmp 81), _, _, _, _⟩) (v := ?_) rfl (by kernel_rfl) (by kernel_rfl) (by kernel_rfl) (fun _ _ _ h => h) (Or.inl ⟨by rfl, ?_⟩) (by assumption) ?_
                      rotate_left
                      · intro w' hSw
                        go_simp
                        try with_reducible rfl
                      try simp only [Act.put, List.setIfInBounds_toArray, List.set_cons_zero, List.set_cons_succ]
                      refine wpAnyH_take (i := 8) (oi := ⟨some 82, .extract (.tmp 74) 0, _, _, _, _⟩) (v := ?_) rfl (by kernel_rfl) (by kernel_rfl) (by kernel_rfl) (fun _ _ _ h => h) (Or.inl ⟨by rfl, ?_⟩) (by assumption) ?_
                      rotate_left
                      · intro w' hSw
                        go_simp
                        try with_reducible rfl
                      try simp only [Act.put, List.setIfInBounds_toArray, List.set_cons_zero, List.set_cons_succ]
                      refine wpAnyH_take (i := 9) (oi := ⟨some 83, .extract (.tmp 74) 1, _, _, _, _⟩) (v := ?_) rfl (by kernel_rfl) (by kernel_rfl) (by kernel_rfl) (fun _ _ _ h => h) (Or.inl ⟨by rfl, ?_⟩) (by assumption) ?_
                      rotate_left
                      · intro w' hSw
                        go_simp
                        try with_reducible rfl
                      try simp only [Act.put, List.setIfInBounds_toArray, List.set_cons_zero, List.set_cons_succ]
                      have hc0 : w6.cell? ⟨w4.heap.size, 0, none⟩ = some (.slice none 0 0) := cell_of_row w6 w4.heap.size 0 _ _ _ hrow
                      have hc1 : w6.cell? ⟨w4.heap.size, 1, none⟩ = some (.slice none 0 0) := cell_of_row w6 w4.heap.size 1 _ _ _ hrow
                      have hf0 : w6.frozen? ⟨w4.heap.size, 0, none⟩ = false := frozen_of_row w6 w4.heap.size _ _ _ hrow
                      have hf1 : w6.frozen? ⟨w4.heap.size, 1, none⟩ = false := frozen_of_row w6 w4.heap.size _ _ _ hrow
                      refine wpAnyH_ready (rs := [11]) (by kernel_rfl) (by simp) ?_
                      refine AllReadyH.cons (o := ⟨none, .store 26 (.tmp 14) (.tmp 82), _, _, _, _⟩) rfl (fun K hK => ?_) AllReadyH.nil
                      go_simp
                      try go_wp2_with fail
                      refine hK.out _ _ ((hHeld.setCell hgW _).setCell hgW _) (fun hHeld => ?_)
                      clear hK K
                      try simp only [Act.put, List.setIfInBounds_toArray, List.set_cons_zero, List.set_cons_succ]
                      refine wpAnyH_take (i := 12) (oi := ⟨some 15, .assign (.tmp 83), _, _, _, _⟩) (v := ?_) rfl (by kernel_rfl) (by kernel_rfl) (by kernel_rfl) (fun _ _ _ h => h) (Or.inl ⟨by rfl, ?_⟩) (by assumption) ?_
                      rotate_left
                      · intro w' hSw
                        go_simp
                        try with_reducible rfl
                      try simp only [Act.put, List.setIfInBounds_toArray, List.set_cons_zero, List.set_cons_succ]
                      refine wpAnyH_done (by kernel_rfl) ?_ _
                      go_wp2_with fail
                      go_meet
                      have hr1 := heap_setCell_same w6 w4.heap.size 0 _ _ (.slice p6 n6 a6) hrow
                      have hr2 := heap_setCell_same _ w4.heap.size 1 _ _ (.slice p7 n7 a7) hr1
                      refine ⟨w4.heap.size, p6, p7, n6, a6, n7, a7, ok, rfl, rfl, cell_of_row _ w4.heap.size 0 _ _ _ hr2, cell_of_row _ w4.heap.size 1 _ _ _ hr2, hHeld, hgW, fun h => ?_, hn6⟩
                      obtain ⟨m1, m2, m3, m4, m5⟩ := hy6 h
                      exact ⟨m1, Zr.Ints.aside (Zr.Ints.aside m2 _ _ _ (fun a e => by have := m4 a e; omega)) _ _ _ (fun a e => by have := m4 a e; omega), Zr.Ints.aside (Zr.Ints.aside m3 _ _ _ (fun a e => by have := m5 a e; omega)) _ _ _ (fun a e => by have := m5 a e; omega), fun a e => by have := m4 a e; have := hw5.size; omega, fun a e => by have := m5 a e; have := hw5.size; omega⟩
                  case rest =>
                    obtain ⟨g, p6, p7, n6, a6, n7, a7, ok, rfl, rfl, y0, y1, hbz, -, hok, hno⟩ := hcut
                    have HF7 := Lib.hid (HF6.out.later hbz)
                    have HBL7 := Lib.hid (HBL6.out.later hbz HBL6.out.lt)
                    clear hbz
                    cases ok with
                    | false =>
                      have HNZ := Lib.hid (HNX.out (hno rfl))
                      clear hok hno
                      go_wp2_with fail
                      go_roundw
                      case rel => exact ⟨j, by omega, rfl, HNZ.out, HF7.out, HBL7.out⟩
                      case measure => simp [intOf] <;> omega
                    | true =>
                      obtain ⟨hmt, hi6, hi7, -, -⟩ := hok rfl
                      have lo1 : j < 64 * Q.length := by rw [LQ.out]; omega
                      have HHIT := Lib.hid (hit_of back L1.out L2.out HQQ.out (LH.out.symm.trans LQ.out.symm) HOUT.out lo1 (HXE.out.symm.trans HTB.out) hmt (fun m a b c => HNO.out m (by omega) (by rw [← LQ.out]; exact b) c))
                      have N6 := Lib.hid (show n6 = d from by rw [hi6.size, Zm.cutLo_length]; unfold oLo; rw [Zm.rlo_length, LQ.out])
                      have N7 := Lib.hid (show n7 = d from by have h := hi7.size; rw [Zm.cutHi_length] at h; unfold oHi at h; rw [Zm.rhi_length, LQ.out] at h; exact h)
                      have n68 : n6 ≤ 8 := by rw [N6.out]; exact g8
                      have n78 : n7 ≤ 8 := by rw [N7.out]; exact g8
                      have I6 := Lib.hid hi6
                      have I7 := Lib.hid hi7
                      clear hok hno hmt hi6 hi7 lo1
                      cases back with
                      | true =>
                        go_wp2_with fail
                        refine (refcode_any _ p7 n7 a7 _ I7.out n78).mono ?_
                        rintro _ w8 ⟨q8, c8, rfl, hq8, hb8⟩
                        have HQ8 := Lib.hid hq8
                        have HB8 := Lib.hid (HF7.out.low.trans (hb8.mono HF7.out.low.size))
                        have HL8 := Lib.hid (show (Mm.code (Zm.cutHi (oHi true Q j) H)).length = 8 * Q.length from by rw [Mm.code_length, ← I7.out.size, N7.out, LQ.out])
                        clear hq8 hb8
                        go_wp2_with fail
                        go_ret2
                        have h := HQ8.out
                        rw [HL8.out] at h
                        refine ⟨true, _, rfl, HB8.out, fun h => by simp at h, fun _ => ⟨_, q8, c8, HHIT.out, ?_, h⟩⟩
                        rw [HL8.out]
                        rfl
                      | false =>
                        go_wp2_with fail
                        refine (refcode_any _ p6 n6 a6 _ I6.out n68).mono ?_
                        rintro _ w8 ⟨q8, c8, rfl, hq8, hb8⟩
                        have HQ8 := Lib.hid hq8
                        have HB8 := Lib.hid (HF7.out.low.trans (hb8.mono HF7.out.low.size))
                        have HL8 := Lib.hid (show (Mm.code (Zm.cutLo (oLo false Q j) L)).length = 8 * Q.length from by rw [Mm.code_length, ← I6.out.size, N6.out, LQ.out])
                        clear hq8 hb8
                        go_wp2_with fail
                        go_ret2
                        have h := HQ8.out
                        rw [HL8.out] at h
                        refine ⟨true, _, rfl, HB8.out, fun h => by simp at h, fun _ => ⟨_, q8, c8, HHIT.out, ?_, h⟩⟩
                        rw [HL8.out]
                        rfl
                · have hne2 : ((x : Int) != (tb : Int)) = true := by simp; omega
                  have HNX := Lib.hid (show ∀ m, j ≤ m → m < 64 * d → Mm.cbit Q m = turn back → ¬ Zm.meets (oLo back Q m) (oHi back Q m) L H from fun m a b c => by
                    by_cases e : m = j
                    · subst e
                      exact absurd (HXE.out.trans (c.trans HTB.out.symm)) hne
                    · exact HNO.out m (by omega) b c)
                  go_wp2_with fail
                  go_roundw
                  case rel => exact ⟨j, by omega, rfl, HNX.out, HF5.out, HBL5.out⟩
                  case measure => simp [intOf] <;> omega
end Go.Proofs.Ytbhpmigblkaihaa.Zr
