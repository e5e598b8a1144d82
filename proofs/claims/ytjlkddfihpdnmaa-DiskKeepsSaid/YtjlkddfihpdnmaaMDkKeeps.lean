/- Proved: whatever two bytes, two small numbers and a number it is handed, the Go function indenturelaw07.DiskKeeps returns true (a write turns just its sector; a torn one has the first bytes of what was written, and behind them what was there), and each argument reads afterwards as it read before. Conditions: none beyond the given row's own. -/
import Derived.Test.YtjlkddfihpdnmaaM2
/- The law DiskKeeps, over whatever disk keeps the contracts. -/
namespace Go.Proofs.Ytjlkddfihpdnmaa.Dk
open Go.RowKit

/-- Alive, without a fuse, eight sectors. -/
structure D.Calm (s : D) (k : Nat) : Prop where
  dead : s.dead = false
  n : s.n = 8
  left : s.left = -1
  writes : s.writes = k
theorem D.Calm.says {s : D} {k : Nat} (h : s.Calm k) {i : Nat} (hi : i < 8) : s.says i 64 = 0 := by
  have h3 : (i : Int) < 8 := by omega
  simp [D.says, D.no, h.dead, h.n, h.left, h3]
theorem D.Calm.write {s : D} {k : Nat} (h : s.Calm k) {i : Nat} (hi : i < 8) {B : List Nat} (hB : B.length = 64) : (s.write i B).Calm (k + 1) := by
  have e0 : s.no i B.length = 0 := by
    have h3 : (i : Int) < 8 := by omega
    simp [D.no, h.dead, h.n, hB]
    omega
  have e : s.write i B = s.put i B := by simp [D.write, e0]
  rw [e]
  exact ⟨by simp [D.put, h.left], h.n, by simp [D.put, h.left], by simp [D.put, h.writes]⟩
def stK (a : Nat) : Nat → D
  | 0 => D.new 8
  | k + 1 => (stK a k).write k (List.replicate 64 ((a + k) % 256))
theorem stK_calm (a : Nat) : ∀ k, k ≤ 8 → (stK a k).Calm k
  | 0, _ => ⟨rfl, rfl, rfl, rfl⟩
  | k + 1, h => (stK_calm a k (by omega)).write (by omega) (by simp)
theorem over_get (L P : List Nat) (o n : Nat) (h : o + P.length ≤ L.length) (hn : n < L.length) : (over L o P).getD n 0 = if o ≤ n ∧ n < o + P.length then P.getD (n - o) 0 else L.getD n 0 := by
  unfold over
  simp only [List.getD_eq_getElem?_getD]
  by_cases h1 : n < o
  · rw [if_neg (by omega), List.append_assoc, List.getElem?_append_left (by rw [List.length_take]; omega), List.getElem?_take_of_lt h1]
  · by_cases h2 : n < o + P.length
    · rw [if_pos ⟨by omega, h2⟩, List.getElem?_append_left (by rw [List.length_append, List.length_take]; omega), List.getElem?_append_right (by rw [List.length_take]; omega), List.length_take, Nat.min_eq_left (by omega)]
    · rw [if_neg (by omega), List.getElem?_append_right (by rw [List.length_append, List.length_take]; omega), List.length_append, List.length_take, Nat.min_eq_left (by omega), List.getElem?_drop]
      congr 2
      omega
def clamp (torn : Int) : Nat := if torn < 0 then 0 else if torn > 64 then 64 else torn.toNat
theorem clamp_le (torn : Int) : clamp torn ≤ 64 := by
  unfold clamp
  split
  · omega
  · split <;> omega
structure TornW (s : D) (i b t : Nat) (s9 s10 : D) : Prop where
  says : s9.says i 64 = 30
  few : s9.writes = 8
  L : s10.L = over s.L (64 * i) (List.replicate t b)
  n : s10.n = 8
  dead : s10.dead = true
  writes : s10.writes = 9
theorem torn_write {s : D} (h : s.Calm 8) (torn : Int) {i : Nat} (b : Nat) (hi : i < 8) : TornW s i b (clamp torn) (s.fuse 0 torn) ((s.fuse 0 torn).write i (List.replicate 64 b)) := by
  have h3 : (i : Int) < 8 := by omega
  have e0 : (s.fuse 0 torn).no i 64 = 0 := by simp [D.no, D.fuse, h.dead, h.n, h3]
  have el : (s.fuse 0 torn).left = 0 := by simp [D.fuse]
  have e : (s.fuse 0 torn).write i (List.replicate 64 b) = (s.fuse 0 torn).put i (List.replicate 64 b) := by simp [D.write, e0]
  rw [e]
  refine ⟨by simp [D.says, e0, el], by simp [D.fuse, h.writes], ?_, by simp [D.put, D.fuse, h.n], by simp [D.put, el], by simp [D.put, D.fuse, h.writes]⟩
  have hc := clamp_le torn
  have e2 : (s.fuse 0 torn).many = clamp torn := by simp [D.many, D.fuse, clamp]
  show over (s.fuse 0 torn).L (64 * i) ((List.replicate 64 b).take (s.fuse 0 torn).many) = _
  rw [e2, List.take_replicate, Nat.min_eq_left hc]
  rfl
theorem dead_says {s : D} (h : s.dead = true) (i : Int) (n : Nat) : s.says i n = 30 := by simp [D.says, D.no, h]
theorem dead_write {s : D} (h : s.dead = true) (i : Int) (B : List Nat) : s.write i B = s := by simp [D.write, D.no, h]
variable {PD : World → Nat → (Nat → Prop) → D → Prop}
def K1 (PD : World → Nat → (Nat → Prop) → D → Prop) (w : World) (g a : Nat) (i : Value) (wr : World) : Prop :=
  ∃ (k : Nat) (P : Nat → Prop), k ≤ 8 ∧ i = .int .i64 k ∧ Own PD w wr g P (stK a k)
def MLoop512 (w1 : World) (i : Value) (wr : World) : Prop := ∃ k : Nat, k ≤ 512 ∧ i = .int .i64 k ∧ wr = w1
set_option maxRecDepth 100000 in
set_option maxHeartbeats 4000000 in
theorem keeps_any (A : Api PD) (a b i k : Nat) (torn : Int) (w : World) (_ha : a < 256) (hb : b < 256) (hi : i < 256) (hk : k < 256) (h1 : -9223372036854775808 ≤ torn) (h2 : torn ≤ 9223372036854775807) :
    Calls Try.prog 4 #[.int .u8 a, .int .u8 b, .int .u8 i, .int .u8 k, .int .i64 torn] w fun e w' => e = .returned (.bool true) ∧ Below w.heap.size w w' := by
  go_enter Try.func4, Try.ntmps4
  go_wp2_with fail
  refine (alive_any A w).mono ?_
  rintro e w1 ⟨rfl, b1⟩
  have B1 := Lib.hid b1
  clear b1
  go_wp2_with fail
  refine (A.new 8 w1 (by omega) (by omega)).mono ?_
  rintro e w2 ⟨g, P, rfl, d2, p2, b2⟩
  have O2 := Lib.hid (show Own PD w w2 g P (stK a 0) from ⟨d2, fun k hk => Nat.le_trans B1.out.size (p2 k hk), B1.out.trans (b2.mono B1.out.size)⟩)
  clear d2 p2 b2 B1
  go_wp2_with fail
  go_loopw [13] (fun i wr => K1 PD w g a i wr) (fun i _ => 8 - (intOf i).toNat)
  case atStart => exact ⟨0, P, by omega, rfl, O2.out⟩
  case round =>
    obtain ⟨n, P, hn, rfl, hO⟩ := hrel
    have HC := Lib.hid (stK_calm a n hn)
    by_cases hlt : n < 8
    · have q1 : IntKind.u8.wrap (n : Int) = n := by rw [IntKind.wrap_u8']; omega
      have q2 : IntKind.u8.wrap ((a : Int) + n) = (((a + n) % 256 : Nat) : Int) := by rw [IntKind.wrap_u8']; omega
      have hx : (a + n) % 256 < 256 := by omega
      have HO := Lib.hid hO
      have HN := Lib.hid (show stK a (n + 1) = (stK a n).write n (List.replicate 64 ((a + n) % 256)) from rfl)
      clear hO
      generalize (a + n) % 256 = x at *
      go_wp2_with fail
      refine (sector_any x wr hx).mono ?_
      rintro e w3 ⟨rfl, r3, b3⟩
      have O3 := Lib.hid (HO.out.later A b3)
      have T3 := Lib.hid (sector_tx r3 hx)
      have N3 : ¬ P wr.heap.size := fun e => Nat.lt_irrefl _ (A.lt HO.out.disk _ e)
      clear r3 b3
      generalize wr.heap.size = gb at *
      go_wp2_with fail
      refine (A.write n (List.replicate 64 x) _ 64 64 O3.out.disk T3.out (fun x hx => by cases hx; exact N3) (by rw [HC.out.writes]; omega)).mono ?_
      rintro e w4 ⟨rfl, ⟨P4, d4, p4⟩, o4⟩
      rw [HC.out.says hlt]
      have O4 := Lib.hid (O3.out.turned d4 p4 o4)
      clear d4 p4 o4 N3
      go_wp2_with fail
      go_roundw
      case rel => exact ⟨n + 1, P4, by omega, by go_num, by rw [HN.out]; exact O4.out⟩
      case measure => simp [intOf]; omega
    · obtain rfl : n = 8 := by omega
      have HO := Lib.hid hO
      have hw := HC.out.writes
      have hLn := (A.ok hO.disk).len
      rw [HC.out.n] at hLn
      have S5ok := Lib.hid (A.ok hO.disk).bytes
      clear hO
      have hs8n := HC.out.n
      generalize stK a 8 = s8 at *
      go_wp2_with fail
      refine (A.all HO.out.disk).mono ?_
      rintro e w5 ⟨p, c, rfl, m5, b5⟩
      have O5 := Lib.hid (HO.out.later A b5)
      rw [hs8n] at m5
      rw [hs8n]
      have S5 := Lib.hid (m5.safe (A.lt HO.out.disk))
      have hne := m5.some (by omega)
      obtain ⟨g5, o5, rfl⟩ := hne
      clear b5 m5
      go_wp2_with fail
      refine (A.fuse 0 torn O5.out.disk (by omega)).mono ?_
      rintro e w6 ⟨rfl, ⟨P6, d6, p6⟩, o6⟩
      have O6 := Lib.hid (O5.out.turned d6 p6 o6)
      have S6 := Lib.hid (S5.out.turned p6 o6)
      clear d6 p6 o6
      have t1 : (i : Int).tmod 8 = ((i % 8 : Nat) : Int) := by rw [Int.tmod_eq_emod_of_nonneg (by omega)]; omega
      have t2 : (k : Int).tmod 8 = ((k % 8 : Nat) : Int) := by rw [Int.tmod_eq_emod_of_nonneg (by omega)]; omega
      have hi8 : i % 8 < 8 := by omega
      have hk8 : k % 8 < 8 := by omega
      generalize i % 8 = at1 at *
      generalize k % 8 = at2 at *
      go_wp2_with fail
      refine (sector_any b w6 hb).mono ?_
      rintro e w7 ⟨rfl, r7, b7⟩
      have TW := Lib.hid (torn_write HC.out torn b hi8)
      have O7 := Lib.hid (O6.out.later A b7)
      have S7 := Lib.hid (S6.out.later b7)
      have T7 := Lib.hid (sector_tx r7 hb)
      have N7 : ¬ P6 w6.heap.size := fun e => Nat.lt_irrefl _ (A.lt O6.out.disk _ e)
      clear r7 b7
      generalize w6.heap.size = gb at *
      generalize s8.fuse 0 torn = s9 at *
      go_wp2_with fail
      refine (A.write at1 (List.replicate 64 b) _ 64 64 O7.out.disk T7.out (fun x hx => by cases hx; exact N7) (by rw [TW.out.few]; omega)).mono ?_
      rintro e w8 ⟨rfl, ⟨P8, d8, p8⟩, o8⟩
      rw [TW.out.says]
      have O8 := Lib.hid (O7.out.turned d8 p8 o8)
      have S8 := Lib.hid (S7.out.turned p8 o8)
      clear d8 p8 o8 N7 T7 O6 O7
      generalize s9.write at1 (List.replicate 64 b) = s10 at *
      go_wp2_with fail
      refine (sector_any b w8 hb).mono ?_
      rintro e w9 ⟨rfl, r9, b9⟩
      have O9 := Lib.hid (O8.out.later A b9)
      have S9 := Lib.hid (S8.out.later b9)
      have T9 := Lib.hid (sector_tx r9 hb)
      have N9 : ¬ P8 w8.heap.size := fun e => Nat.lt_irrefl _ (A.lt O8.out.disk _ e)
      clear r9 b9
      generalize w8.heap.size = gc at *
      go_wp2_with fail
      refine (A.write at2 (List.replicate 64 b) _ 64 64 O9.out.disk T9.out (fun x hx => by cases hx; exact N9) (by rw [TW.out.writes]; omega)).mono ?_
      rintro e w10 ⟨rfl, ⟨P10, d10, p10⟩, o10⟩
      rw [dead_says TW.out.dead]
      have O10 := Lib.hid (O9.out.turned d10 p10 o10)
      have S10 := Lib.hid (S9.out.turned p10 o10)
      rw [dead_write TW.out.dead] at O10
      clear d10 p10 o10 N9 T9 O8 O9
      go_wp2_with fail
      refine (A.all O10.out.disk).mono ?_
      rintro e w11 ⟨p', c', rfl, m11, b11⟩
      rw [TW.out.n] at m11
      rw [TW.out.n]
      rw [TW.out.L] at m11
      have O11 := Lib.hid (O10.out.later A b11)
      have T5 := Lib.hid (S10.out.later b11).mine.tx
      have T11 := Lib.hid m11.tx
      have hle5 := T5.out.le
      have hle11 := T11.out.le
      obtain ⟨g11, o11, rfl⟩ := m11.some (by omega)
      clear O10 S5 S6 S7 S8 S9 S10 m11 b11 O5 O2
      have hmany : (if 64 < (if torn < 0 then 0 else torn) then 64 else if torn < 0 then 0 else torn) = ((clamp torn : Nat) : Int) := by
        unfold clamp
        by_cases c1 : torn < 0
        · simp [c1]
        · by_cases c2 : torn > 64
          · simp [c1, c2]
          · simp only [c1, if_false, if_neg (show ¬ 64 < torn from by omega)]
            omega
      have hcl := clamp_le torn
      go_upto_region 18 with fail
      clear hmany
      generalize (if torn < 0 then (0 : Int) else torn) = y
      generalize clamp torn = t at *
      go_wp2_with fail
      go_loopw [18] (fun i wr => MLoop512 w11 i wr) (fun i _ => 512 - (intOf i).toNat)
      case atStart => exact ⟨0, by omega, rfl, rfl⟩
      case round =>
        obtain ⟨n, hn, rfl, rfl⟩ := hrel
        have q1 : IntKind.i64.wrap (64 * (at1 : Int)) = 64 * (at1 : Int) := IntWalk.i64_in _ (by omega)
        have q2 : IntKind.i64.wrap (64 * (at1 : Int) + t) = 64 * (at1 : Int) + t := IntWalk.i64_in _ (by omega)
        by_cases hlt : n < 512
        · have d5 := T5.out.cells n _ (vals_get _ _ (by omega))
          have hol : (over s8.L (64 * at1) (List.replicate t b)).length = 512 := by rw [over_length (by rw [List.length_replicate]; omega)]; omega
          have d11 := T11.out.cells n _ (vals_get _ _ (by omega))
          rw [Addr.add_mid] at d5 d11
          rw [over_get _ _ _ _ (by rw [List.length_replicate]; omega) (by omega), List.length_replicate] at d11
          have i1 : (0 : Int) ≤ n ∧ (n : Int) < 512 := by omega
          have ix : s8.L.getD n 0 < 256 := Sm.getD_lt (S5ok.out) (by omega) n
          clear hol
          by_cases hlo : 64 * at1 ≤ n
          · by_cases hup : n < 64 * at1 + t
            · rw [if_pos ⟨hlo, hup⟩, List.getD_eq_getElem?_getD, List.getElem?_replicate, if_pos (by omega)] at d11
              simp only [Option.getD_some] at d11
              generalize s8.L.getD n 0 = x at *
              have j1 : 64 * (at1 : Int) ≤ n := by omega
              have j2 : (n : Int) < 64 * (at1 : Int) + t := by omega
              go_wp2_with fail
              go_roundw
              case rel => exact ⟨n + 1, by omega, by go_num, rfl⟩
              case measure => simp [intOf]; omega
            · rw [if_neg (by omega)] at d11
              generalize s8.L.getD n 0 = x at *
              have j1 : 64 * (at1 : Int) ≤ n := by omega
              have j2 : ¬ (n : Int) < 64 * (at1 : Int) + t := by omega
              go_wp2_with fail
              go_roundw
              case rel => exact ⟨n + 1, by omega, by go_num, rfl⟩
              case measure => simp [intOf]; omega
          · rw [if_neg (by omega)] at d11
            generalize s8.L.getD n 0 = x at *
            have j1 : ¬ 64 * (at1 : Int) ≤ n := by omega
            go_wp2_with fail
            go_roundw
            case rel => exact ⟨n + 1, by omega, by go_num, rfl⟩
            case measure => simp [intOf]; omega
        · obtain rfl : n = 512 := by omega
          go_wp2_with fail
          refine (A.dead O11.out.disk).mono ?_
          rintro e w12 ⟨rfl, b12⟩
          have O12 := Lib.hid (O11.out.later A b12)
          clear b12
          rw [TW.out.dead]
          go_wp2_with fail
          refine (A.writes O12.out.disk).mono ?_
          rintro e w13 ⟨rfl, b13⟩
          have HB := Lib.hid (O12.out.later A b13).low
          clear b13
          rw [TW.out.writes]
          go_wp2_with fail
          go_ret
          exact ⟨rfl, HB.out⟩
end Go.Proofs.Ytjlkddfihpdnmaa.Dk

/- Proved: whatever two bytes, two small numbers and a number it is handed, the Go function indenturelaw07.DiskKeeps returns true (a write turns just its sector; a torn one has the first bytes of what was written, and behind them what was there), and each argument reads afterwards as it read before. Conditions: none beyond the given row's own. -/
namespace Go.Proofs.Ytjlkddfihpdnmaa
open Go.ChangeShapes Go.WideShapes Go.ChangeAt Go.RowKit Go.Deep

set_option maxRecDepth 100000 in
theorem dkkeeps_lifted (os : Os) (started : os.Started) (H : Type) (enc : TypeId × Value → H) :
    ReturnsInHanded {} Try.checked os 4 .any (Rows.diskKeepsSpec.pre6 enc Try.prog Try.f4 Rows.diskKeepsRow.domain false) (Rows.diskKeepsSpec.post enc Try.prog Try.f4 false true false false) := by
  refine returnsInHanded_of_change (C := Try.checked) gen_own started (by kernel_rfl) Try.func4
    (ChangeSpec.witness6 (enc := enc) (C := Try.checked) false ⟨#[], #[.int .u8 0, .int .u8 0, .int .u8 0, .int .u8 0, .int .i64 0], []⟩ 8 (by kernel_rfl) (by kernel_rfl) (by kernel_rfl) (by kernel_rfl)) ?_
  intro W base args ds gs before hval0 hW _ _
  have hval : ∀ (j : Nat) t v, Try.f4.params[j]? = some t → args[j]? = some v → Value.okWide Try.prog W .any base t v := hval0
  have hW' := hW
  obtain ⟨p, q, hA0, hV, rfl, _, _⟩ := hW
  have hA : DataW.TrodAll enc Try.prog W 0 (fun _ => true) true Try.f4.params.toList args.toList ds p := hA0
  rw [Try.params4] at hA hval
  obtain ⟨v0, vs0, d0, ds0, p0, q0, hargs, rfl, rfl, h0, r0⟩ := trodAll_cons hA
  obtain ⟨v1, vs1, d1, ds1, p1, q1, rfl, rfl, rfl, h1, r1⟩ := trodAll_cons r0
  obtain ⟨v2, vs2, d2, ds2, p2, q2, rfl, rfl, rfl, h2, r2⟩ := trodAll_cons r1
  obtain ⟨v3, vs3, d3, ds3, p3, q3, rfl, rfl, rfl, h3, r3⟩ := trodAll_cons r2
  obtain ⟨v4, vs4, d4, ds4, p4, q4, rfl, rfl, rfl, h4, r4⟩ := trodAll_cons r3
  obtain ⟨rfl, rfl, rfl⟩ := trodAll_nil r4
  obtain rfl : args = #[v0, v1, v2, v3, v4] := by cases args; simp_all
  obtain ⟨rfl, rfl⟩ := trodVars_none hV
  obtain ⟨n0, rfl, rfl, rfl, hn0⟩ := open_int Try.underlying5 (hval 0 5 v0 rfl rfl) h0
  obtain ⟨n1, rfl, rfl, rfl, hn1⟩ := open_int Try.underlying5 (hval 1 5 v1 rfl rfl) h1
  obtain ⟨n2, rfl, rfl, rfl, hn2⟩ := open_int Try.underlying5 (hval 2 5 v2 rfl rfl) h2
  obtain ⟨n3, rfl, rfl, rfl, hn3⟩ := open_int Try.underlying5 (hval 3 5 v3 rfl rfl) h3
  obtain ⟨n4, rfl, rfl, rfl, hn4⟩ := open_int Try.underlying3 (hval 4 3 v4 rfl rfl) h4
  have k0 := h0
  have k1 := h1
  have k2 := h2
  have k3 := h3
  have k4 := h4
  have bn0 := bounds_u8 hn0
  obtain ⟨m0, rfl⟩ : ∃ m : Nat, n0 = m := ⟨n0.toNat, by omega⟩
  have bn1 := bounds_u8 hn1
  obtain ⟨m1, rfl⟩ : ∃ m : Nat, n1 = m := ⟨n1.toNat, by omega⟩
  have bn2 := bounds_u8 hn2
  obtain ⟨m2, rfl⟩ : ∃ m : Nat, n2 = m := ⟨n2.toNat, by omega⟩
  have bn3 := bounds_u8 hn3
  obtain ⟨m3, rfl⟩ : ∃ m : Nat, n3 = m := ⟨n3.toNat, by omega⟩
  have bn4 := bounds_i64 hn4
  clear hA0 hval0
  refine (Dk.keeps_any Dk.api m0 m1 m2 m3 n4 W (by omega) (by omega) (by omega) (by omega) bn4.1 bn4.2).mono fun e W' ⟨he, bel⟩ => ?_
  subst he
  exact ⟨_, rfl, _, _, _, [], _, [], hW', trodAll_mk1 (shut_bool Try.underlying4 _),
    (trodAll_cons_mk (Below.trod gen_laidOut (by kernel_rfl) (of_decide_eq_true (by kernel_rfl)) k0 bel (fun x hx => by cases hx)) (trodAll_cons_mk (Below.trod gen_laidOut (by kernel_rfl) (of_decide_eq_true (by kernel_rfl)) k1 bel (fun x hx => by cases hx)) (trodAll_cons_mk (Below.trod gen_laidOut (by kernel_rfl) (of_decide_eq_true (by kernel_rfl)) k2 bel (fun x hx => by cases hx)) (trodAll_cons_mk (Below.trod gen_laidOut (by kernel_rfl) (of_decide_eq_true (by kernel_rfl)) k3 bel (fun x hx => by cases hx)) (trodAll_cons_mk (Below.trod gen_laidOut (by kernel_rfl) (of_decide_eq_true (by kernel_rfl)) k4 bel (fun x hx => by cases hx)) trodAll_mk0))))), rfl, bel.frame _, fun h => by cases h⟩
theorem dkkeeps_holds : Rows.DiskKeepsSaid :=
  OpenClaim.holds_of_wide 4 Try.f4 rfl rfl rfl rfl rfl rfl rfl ⟨rfl, rfl, rfl, rfl, rfl⟩ rfl rfl rfl rfl rfl (by kernel_rfl) Try.func4 (by kernel_rfl)
    (of_decide_eq_true (by kernel_rfl)) (by unfold Func.isWrapper; first | (rw [if_pos (by decide +kernel)]; kernel_rfl) | (rw [if_neg (by decide +kernel)]; exact ⟨rfl, rfl⟩))
    (fun os started H enc _ => dkkeeps_lifted os started H enc)
end Go.Proofs.Ytjlkddfihpdnmaa
