/- ShaRefTurn, ShaRefWith, ShaRefSum, PgRefSum. -/
import Derived.Test.YtfkpgildeddhaaaGreatM10
/- The contracts of indentureref01.turned, Words and turn. -/
namespace Go.Proofs.YtfkpgildeddhaaaGreat
open Go.RowKit

set_option maxHeartbeats 1000000 in
theorem turned_any (x n : Nat) (hx : x < 4294967296) (hn : 0 < n) (hn' : n < 32) (w : World) :
    Calls Tryz.prog 112 #[.int .u32 x, .int .u64 n] w fun e w' => e = .returned (.int .u32 (Sm.rot n x)) ∧ w' = w := by
  have h1 : (0 : Int) ≤ n := by omega
  have h2 : (n : Int) ≤ 32 := by omega
  have h3 : (0 : Int) ≤ 32 - n := by omega
  have h4 : (32 - n : Int) ≤ 32 := by omega
  go_enter Tryz.func112, Tryz.ntmps112
  go_wp2
  go_ret
  refine ⟨ret_u32 ?_, rfl⟩
  have e1 : (x : Int) * 2 ^ (32 - n) % 4294967296 = ((x * 2 ^ (32 - n) % 4294967296 : Nat) : Int) := by
    rw [Int.natCast_emod, Int.natCast_mul, Int.natCast_pow]; rfl
  have e2 : (x : Int) / 2 ^ n = ((x / 2 ^ n : Nat) : Int) := by
    rw [Int.natCast_ediv, Int.natCast_pow]; rfl
  rw [e1, e2, u32_or_nat _ _ (Nat.lt_of_le_of_lt (Nat.div_le_self _ _) hx) (Nat.mod_lt _ (by omega))]
  rw [Nat.or_comm]
  rfl
theorem turned2 (x : Nat) (hx : x < 4294967296) (w : World) : Calls Tryz.prog 112 #[.int .u32 x, .int .u64 2] w fun e w' => e = .returned (.int .u32 (Sm.rot 2 x)) ∧ w' = w := turned_any x 2 hx (by omega) (by omega) w
theorem turned6 (x : Nat) (hx : x < 4294967296) (w : World) : Calls Tryz.prog 112 #[.int .u32 x, .int .u64 6] w fun e w' => e = .returned (.int .u32 (Sm.rot 6 x)) ∧ w' = w := turned_any x 6 hx (by omega) (by omega) w
theorem turned7 (x : Nat) (hx : x < 4294967296) (w : World) : Calls Tryz.prog 112 #[.int .u32 x, .int .u64 7] w fun e w' => e = .returned (.int .u32 (Sm.rot 7 x)) ∧ w' = w := turned_any x 7 hx (by omega) (by omega) w
theorem turned11 (x : Nat) (hx : x < 4294967296) (w : World) : Calls Tryz.prog 112 #[.int .u32 x, .int .u64 11] w fun e w' => e = .returned (.int .u32 (Sm.rot 11 x)) ∧ w' = w := turned_any x 11 hx (by omega) (by omega) w
theorem turned13 (x : Nat) (hx : x < 4294967296) (w : World) : Calls Tryz.prog 112 #[.int .u32 x, .int .u64 13] w fun e w' => e = .returned (.int .u32 (Sm.rot 13 x)) ∧ w' = w := turned_any x 13 hx (by omega) (by omega) w
theorem turned17 (x : Nat) (hx : x < 4294967296) (w : World) : Calls Tryz.prog 112 #[.int .u32 x, .int .u64 17] w fun e w' => e = .returned (.int .u32 (Sm.rot 17 x)) ∧ w' = w := turned_any x 17 hx (by omega) (by omega) w
theorem turned18 (x : Nat) (hx : x < 4294967296) (w : World) : Calls Tryz.prog 112 #[.int .u32 x, .int .u64 18] w fun e w' => e = .returned (.int .u32 (Sm.rot 18 x)) ∧ w' = w := turned_any x 18 hx (by omega) (by omega) w
theorem turned19 (x : Nat) (hx : x < 4294967296) (w : World) : Calls Tryz.prog 112 #[.int .u32 x, .int .u64 19] w fun e w' => e = .returned (.int .u32 (Sm.rot 19 x)) ∧ w' = w := turned_any x 19 hx (by omega) (by omega) w
theorem turned22 (x : Nat) (hx : x < 4294967296) (w : World) : Calls Tryz.prog 112 #[.int .u32 x, .int .u64 22] w fun e w' => e = .returned (.int .u32 (Sm.rot 22 x)) ∧ w' = w := turned_any x 22 hx (by omega) (by omega) w
theorem turned25 (x : Nat) (hx : x < 4294967296) (w : World) : Calls Tryz.prog 112 #[.int .u32 x, .int .u64 25] w fun e w' => e = .returned (.int .u32 (Sm.rot 25 x)) ∧ w' = w := turned_any x 25 hx (by omega) (by omega) w
theorem A50 : Tryz.prog.underlying 132 = some (.slice 123) := by kernel_rfl
theorem I31 : (Tryz.prog.info? 123).map (fun i => (i.zero, i.size, i.bytes)) = some (some (.int .u32 0), 1, 4) := by kernel_rfl
set_option maxRecDepth 100000 in
set_option maxHeartbeats 1000000 in
theorem words_any (w : World) :
    Calls Tryz.prog 91 #[] w fun e w' => e = .returned (.slice (some ⟨w.heap.size, 0, none⟩) 64 64) ∧ w.alloc (.cells (u32s Sm.ks) 123) = w' := by
  go_enter Tryz.func91, Tryz.ntmps91
  go_wp2
  go_ret
  exact ⟨rfl, rfl⟩
theorem make64 (w : World) : (Instr.makeSlice 132 (.int .i64 64) (.int .i64 64)).run Tryz.prog w = .ok (.slice (some ⟨w.heap.size, 0, none⟩) 64 64) (w.alloc (.cells (u32s (zeros 64)) 123)) := by kernel_rfl
/-- A word of which n bytes are there. -/
def pw (B : List Nat) (i : Nat) : Nat → Nat
  | 0 => 0
  | n + 1 => 256 * pw B i n + B.getD (4 * i + n) 0
theorem pw_lt {B : List Nat} (h : Sm.allB B) (i : Nat) : ∀ n, pw B i n < 256 ^ n
  | 0 => by simp [pw]
  | n + 1 => by
    have h1 := pw_lt h i n
    have h2 := Sm.getD_lt h (by omega) (4 * i + n)
    rw [pw, Nat.pow_succ]
    omega
theorem pw_word (B : List Nat) (i : Nat) : pw B i 4 = Sm.word B i := by
  simp only [pw, Sm.word, Nat.add_zero]
  omega
/-- What holds of the words that are being made. -/
structure RW (w wr : World) (g : Nat) (l : List Nat) : Prop where
  below : Below w.heap.size w wr
  row : wr.heap[g]? = some (.cells (u32s l) 123 (0, 0))
  lg : w.heap.size ≤ g
theorem RW.store {w wr : World} {g : Nat} {p q : List Nat} {y : Nat} (h : RW w wr g (p ++ y :: q)) (k : Nat) (hk : p.length = k) (x : Nat) : RW w (wr.setCell ⟨g, k, none⟩ (.int .u32 (x : Nat))) g (p ++ x :: q) :=
  ⟨h.below.setCell h.lg _, by rw [heap_setCell_same _ _ _ _ _ _ h.row, u32s_set p q y x k hk], h.lg⟩
theorem RW.drewN {w wr : World} {g : Nat} {l : List Nat} (h : RW w wr g l) (n : Nat) : RW w (wr.drewN n) g l := ⟨Below.drewN h.below n, h.row, h.lg⟩
def R1Rel (w : World) (g : Nat) (B : List Nat) (i : Value) (wr : World) : Prop := ∃ k : Nat, k ≤ 16 ∧ i = .int .i64 k ∧ RW w wr g (Sm.words B k ++ zeros (64 - k))
def R2Rel (w : World) (g : Nat) (B : List Nat) (k : Nat) (n : Value) (wr : World) : Prop := ∃ m : Nat, m ≤ 4 ∧ n = .int .i64 m ∧ RW w wr g (Sm.words B k ++ pw B k m :: zeros (63 - k))
def R3Rel (w : World) (g : Nat) (B : List Nat) (i : Value) (wr : World) : Prop := ∃ k : Nat, k ≤ 48 ∧ i = .int .i64 (k + 16 : Nat) ∧ RW w wr g (Sm.more (Sm.words B 16) k ++ zeros (48 - k))
theorem slice_of_own32 {w : World} {base n : Nat} {v : Value} {xs : List Value} (h : w.ownsRow base 123 1 v n xs) : ∃ q c, v = .slice q n c := by
  rcases h.2 with ⟨rfl, rfl⟩ | ⟨g, cap, cur, rfl, _⟩
  · exact ⟨_, _, rfl⟩
  · exact ⟨_, _, rfl⟩
theorem own32_some {w : World} {base n c : Nat} {q : Option Addr} {xs : List Value} (h : w.ownsRow base 123 1 (.slice q n c) n xs) (hq : Value.slice q n c ≠ .slice none 0 0) :
    ∃ g C, q = some ⟨g, 0, none⟩ ∧ base ≤ g ∧ w.heap[g]? = some (.cells C 123 (0, 0)) ∧ n ≤ c ∧ C.toList.take n = xs := by
  rcases h.2 with ⟨h1, _⟩ | ⟨g, cap, cur, h1, hg, hh, hle, _, _, ht⟩
  · exact absurd h1 hq
  · simp at h1
    obtain ⟨rfl, rfl⟩ := h1
    rw [Nat.mul_one] at ht
    exact ⟨g, cur, rfl, hg, hh, hle, ht⟩
theorem ch_sub {e f g : Nat} (he : e < 4294967296) (hf : f < 4294967296) (hg : g < 4294967296) : bits .xor .u32 (bits .and .u32 (e : Nat) (f : Nat)) (bits .and .u32 (4294967295 - (e : Int)) (g : Nat)) = ((Sm.ch e f g : Nat) : Int) := by
  rw [show 4294967295 - (e : Int) = ((4294967295 - e : Nat) : Int) from by omega, u32_and_nat _ _ he hf, u32_and_nat _ _ (by omega) hg, u32_xor_nat _ _ (Sm.and_lt hf) (Sm.and_lt hg)]; rfl
theorem one_int {h e : Nat} (he : e < 4294967296) {c k w : Nat} : (((h : Nat) + bits .xor .u32 (bits .xor .u32 (Sm.rot 6 e : Nat) (Sm.rot 11 e : Nat)) (Sm.rot 25 e : Nat) + (c : Nat) + (k : Nat)) % 4294967296 + (w : Nat)) % 4294967296 = (((h + Sm.b1 e + c + k + w) % 4294967296 : Nat) : Int) := by
  rw [Sm.b1_int he]; omega
theorem two_int {a m : Nat} (ha : a < 4294967296) : (bits .xor .u32 (bits .xor .u32 (Sm.rot 2 a : Nat) (Sm.rot 13 a : Nat)) (Sm.rot 22 a : Nat) + (m : Nat)) % 4294967296 = (((Sm.b0 a + m) % 4294967296 : Nat) : Int) := by
  rw [Sm.b0_int ha]; omega
theorem add8_get (v u : Sm.V8) (k : Nat) (hk : k < 8) : (Sm.add8 v u).list.getD k 0 = (v.list.getD k 0 + u.list.getD k 0) % 4294967296 := by
  match k, hk with
  | 0, _ => rfl
  | 1, _ => rfl
  | 2, _ => rfl
  | 3, _ => rfl
  | 4, _ => rfl
  | 5, _ => rfl
  | 6, _ => rfl
  | 7, _ => rfl
theorem v8_all {v : Sm.V8} (h : v.ok) : Sm.allW v.list := by
  obtain ⟨h1, h2, h3, h4, h5, h6, h7, h8⟩ := h
  intro x hx
  simp only [Sm.V8.list, List.mem_cons, List.not_mem_nil, or_false] at hx
  rcases hx with rfl | rfl | rfl | rfl | rfl | rfl | rfl | rfl <;> assumption
theorem v8_lt {v : Sm.V8} (h : v.ok) (k : Nat) : v.list.getD k 0 < 4294967296 := Sm.getD_lt (v8_all h) (by omega) k
def R5Rel (w : World) (v U : Sm.V8) (g : Nat) (i : Value) (wr : World) : Prop :=
  ∃ k : Nat, k ≤ 8 ∧ i = .int .i64 k ∧ wr.heap[g]? = some (.cells (u32s ((Sm.add8 v U).list.take k ++ U.list.drop k)) 123 (0, 0)) ∧ Below w.heap.size w wr
def R4Rel (w : World) (K W : List Nat) (v : Sm.V8) (s i : Value) (wr : World) : Prop :=
  ∃ (k g c : Nat) (C : Array Value), k ≤ 64 ∧ i = .int .i64 k ∧ s = .slice (some ⟨g, 0, none⟩) 8 c ∧ 8 ≤ c ∧ wr.heap[g]? = some (.cells C 123 (0, 0)) ∧ C.toList.take 8 = w32 (Sm.rounds K W v k).list ∧
    (0 < k → c = 8 ∧ C = u32s (Sm.rounds K W v k).list) ∧ w.heap.size < g ∧ RW w wr w.heap.size W
/-- A callee that leaves the world alone, called behind draws. -/
theorem calls_later {f : FuncId} {args : Array Value} {w : World} {a n : Nat} {v : Value} (h : Calls Tryz.prog f args (w.drewN (a + n)) fun e w' => e = .returned v ∧ w' = w.drewN (a + n)) :
    Calls Tryz.prog f args (w.drewN (a + n)) fun e w' => e = .returned v ∧ ∃ m, w' = w.drewN (a + m) := by
  refine h.mono fun e w' hw => ⟨hw.1, n, hw.2⟩
set_option maxRecDepth 100000 in
set_option maxHeartbeats 4000000 in
theorem refturn_any (v : Sm.V8) (hv : v.ok) (B K : List Nat) (hB : Sm.allB B) (hK : Sm.allW K) (lB : 64 ≤ B.length) (lK : K.length = 64) (gh gb ob cb gk : Nat) (_hcb : 64 ≤ cb) (w : World)
    (hh : w.heap[gh]? = some (.cells (u32s v.list) 123 (0, 0))) (hb : bytesAt w gb ob B) (hk : w.heap[gk]? = some (.cells (u32s K) 123 (0, 0))) :
    Calls Tryz.prog 107 #[.slice (some ⟨gh, 0, none⟩) 8 8, .slice (some ⟨gb, ob, none⟩) 64 cb, .slice (some ⟨gk, 0, none⟩) 64 64] w
      fun e w' => ∃ g, e = .returned (.slice (some ⟨g, 0, none⟩) 8 8) ∧ w'.heap[g]? = some (.cells (u32s (Sm.turn K (Sm.sched B) v).list) 123 (0, 0)) ∧ w.heap.size ≤ g ∧ Below w.heap.size w w' := by
  have HH := Lib.hid hh
  have HB := Lib.hid hb
  have HK := Lib.hid hk
  have HBO := Lib.hid hB
  have HKO := Lib.hid hK
  have LB := Lib.hid lB
  have LK := Lib.hid lK
  have HV := Lib.hid hv
  clear hh hb hk hB hK lB lK hv
  have mk := fun w => make64 w
  go_enter Tryz.func107, Tryz.ntmps107
  go_wp2_with fail
  have h0 : RW w (w.alloc (.cells (u32s (zeros 64)) 123)) w.heap.size (zeros 64) := ⟨(Below.refl _ _).alloc (Nat.le_refl _) _, heap_alloc_new w _, Nat.le_refl _⟩
  have H0 := Lib.hid h0
  clear h0 mk
  go_loopw [8, 9] (fun i _ wr => R1Rel w w.heap.size B i wr) (fun i _ _ => 16 - (intOf i).toNat)
  case atStart => exact ⟨0, by omega, rfl, H0.out⟩
  case round =>
    obtain ⟨k, hk, rfl, hs⟩ := hrel
    have HS := Lib.hid hs
    clear hs H0
    by_cases hlt : k < 16
    · have hkd : decide ((k : Int) < 16) = true := decide_eq_true (by omega)
      go_wp2_with fail
      obtain ⟨wo, rfl⟩ : ∃ wo : World, wo = wr := ⟨_, rfl⟩
      go_loopw [9] (fun n wr => R2Rel w w.heap.size B k n wr) (fun n _ => 4 - (intOf n).toNat)
      case atStart =>
        refine ⟨0, by omega, rfl, ?_⟩
        have := HS.out
        rw [zeros_succ (show 0 < 64 - k from by omega), show 64 - k - 1 = 63 - k from by omega] at this
        exact this
      case round =>
        obtain ⟨m, hm, rfl, hs2⟩ := hrel
        have HS2 := Lib.hid hs2
        clear hs2
        by_cases hlm : m < 4
        · have hc1 : wr.cell? ⟨w.heap.size, k, none⟩ = some (.int .u32 (pw B k m : Nat)) := by
            have := u32s_cell HS2.out.row k (by simp [Sm.length_words])
            rw [List.getD_eq_getElem?_getD, List.getElem?_append_right (by rw [Sm.length_words]; exact Nat.le_refl _), Sm.length_words, Nat.sub_self] at this
            exact this
          have hf1 : wr.frozen? ⟨w.heap.size, k, none⟩ = false := frozen_of_row wr _ k _ _ HS2.out.row
          have hbl : gb < w.heap.size := block_lt_of_cell (HB.out 0 (by have := LB.out; omega))
          have hc2 : wr.cell? ⟨gb, ob + (4 * k + m), none⟩ = some (.int .u8 (B.getD (4 * k + m) 0 : Nat)) := (HS2.out.below.cell (p := ⟨gb, ob + (4 * k + m), none⟩) hbl).trans (HB.out _ (by have := LB.out; omega))
          have hpl : pw B k m < 16777216 := Nat.lt_of_lt_of_le (pw_lt HBO.out k m) (Nat.le_trans (Nat.pow_le_pow_right (by omega) (show m ≤ 3 from by omega)) (by decide))
          have hbb : B.getD (4 * k + m) 0 < 256 := Sm.getD_lt HBO.out (by omega) _
          obtain ⟨P, hP⟩ : ∃ P, P = pw B k m := ⟨_, rfl⟩
          obtain ⟨b, hbd⟩ : ∃ b, b = B.getD (4 * k + m) 0 := ⟨_, rfl⟩
          rw [← hP] at hc1 hpl
          rw [← hbd] at hc2 hbb
          have HP := Lib.hid hP
          have HBD := Lib.hid hbd
          have hk0 : (0 : Int) ≤ k := by omega
          have hk1 : (k : Int) < 64 := by omega
          have q1 : IntKind.i64.wrap (4 * (k : Int)) = 4 * (k : Int) := IntWalk.i64_in _ (by omega)
          have q2 : IntKind.i64.wrap (4 * (k : Int) + m) = 4 * (k : Int) + m := IntWalk.i64_in _ (by omega)
          have q3 : (0 : Int) ≤ 4 * (k : Int) + m := by omega
          have q4 : 4 * (k : Int) + m < 64 := by omega
          have q5 : (4 * (k : Int) + m).toNat = 4 * k + m := by omega
          have q6 : IntKind.u32.wrap (256 * (P : Int)) = 256 * (P : Int) := by rw [IntKind.wrap_u32']; omega
          have q7 : IntKind.u32.wrap (256 * (P : Int) + b) = 256 * (P : Int) + b := by rw [IntKind.wrap_u32']; omega
          clear hP hbd hbl
          go_wp2_with fail
          go_still_tail 17, (by kernel_rfl)
          go_wp2_with fail
          go_roundw
          case rel =>
            have hst : pw B k (m + 1) = 256 * P + b := by rw [pw, ← HP.out, ← HBD.out]
            refine ⟨m + 1, by omega, by go_num, ?_⟩
            rw [hst, show 256 * (P : Int) + (b : Int) = ((256 * P + b : Nat) : Int) from by omega]
            have h2 := HS2.out
            rw [← HP.out] at h2
            exact (h2.store k (Sm.length_words B k) (256 * P + b)).drewN 1
          case measure => simp [intOf]; omega
        · obtain rfl : m = 4 := by omega
          go_wp2_with fail
          go_roundw
          case rel =>
            refine ⟨k + 1, by omega, by go_num, ?_⟩
            have := HS2.out
            rw [pw_word] at this
            rw [Sm.words, List.append_assoc, show 64 - (k + 1) = 63 - k from by omega]
            exact this
          case measure => simp [intOf]; omega
    · have hk16 : k = 16 := by omega
      have hkd : decide ((k : Int) < 16) = false := decide_eq_false (by omega)
      have hs3 : R3Rel w w.heap.size B (.int .i64 16) wr := by
        have := HS.out
        rw [hk16] at this
        exact ⟨0, by omega, rfl, this⟩
      have HS3 := Lib.hid hs3
      clear hs3 HS hk16
      obtain ⟨kk, hkk⟩ : ∃ kk : Int, kk = (k : Int) := ⟨_, rfl⟩
      rw [← hkk] at hkd ⊢
      clear hkk hk hlt
      go_wp2_with fail
      go_loopw [10, 11, 12] (fun i _ _ wr => R3Rel w w.heap.size B i wr) (fun i _ _ _ => 64 - (intOf i).toNat)
      case atStart => exact HS3.out
      case round =>
        obtain ⟨k, hk, rfl, hs⟩ := hrel
        have HS2 := Lib.hid hs
        clear hs HS3
        obtain ⟨j, hj⟩ : ∃ j, j = k + 16 := ⟨_, rfl⟩
        rw [← hj]
        by_cases hlt : k < 48
        · obtain ⟨l, hl⟩ : ∃ l, l = Sm.more (Sm.words B 16) k := ⟨_, rfl⟩
          have hll : l.length = j := by rw [hl, Sm.length_more, Sm.length_words]; omega
          have hlw : Sm.allW l := by rw [hl]; exact Sm.more_ok (Sm.words_ok HBO.out 16) k
          have hs2 := HS2.out
          rw [← hl] at hs2
          have cell : ∀ i, i < j → wr.cell? ⟨w.heap.size, i, none⟩ = some (.int .u32 (l.getD i 0 : Nat)) := fun i hi => by
            have := u32s_cell hs2.row i (by rw [List.length_append, hll]; omega)
            rw [getD_left _ _ (by omega)] at this
            exact this
          have g0 := cell (j - 16) (by omega)
          have g1 := cell (j - 15) (by omega)
          have g9 := cell (j - 7) (by omega)
          have g14 := cell (j - 2) (by omega)
          have hst : wr.cell? ⟨w.heap.size, j, none⟩ = _ := u32s_cell hs2.row j (by simp [hll, zeros]; omega)
          have hfr : wr.frozen? ⟨w.heap.size, j, none⟩ = false := frozen_of_row wr _ j _ _ hs2.row
          obtain ⟨x0, hx0⟩ : ∃ x, x = l.getD (j - 16) 0 := ⟨_, rfl⟩
          obtain ⟨x1, hx1⟩ : ∃ x, x = l.getD (j - 15) 0 := ⟨_, rfl⟩
          obtain ⟨x9, hx9⟩ : ∃ x, x = l.getD (j - 7) 0 := ⟨_, rfl⟩
          obtain ⟨x14, hx14⟩ : ∃ x, x = l.getD (j - 2) 0 := ⟨_, rfl⟩
          have w0 : x0 < 4294967296 := by rw [hx0]; exact Sm.getD_lt hlw (by omega) _
          have w1 : x1 < 4294967296 := by rw [hx1]; exact Sm.getD_lt hlw (by omega) _
          have w9 : x9 < 4294967296 := by rw [hx9]; exact Sm.getD_lt hlw (by omega) _
          have w14 : x14 < 4294967296 := by rw [hx14]; exact Sm.getD_lt hlw (by omega) _
          rw [← hx0] at g0
          rw [← hx1] at g1
          rw [← hx9] at g9
          rw [← hx14] at g14
          have X0 := Lib.hid hx0
          have X1 := Lib.hid hx1
          have X9 := Lib.hid hx9
          have X14 := Lib.hid hx14
          have HL := Lib.hid hl
          have HLL := Lib.hid hll
          have HJ := Lib.hid hj
          have H2 := Lib.hid hs2
          have j16 : 16 ≤ j := by omega
          have j64 : j < 64 := by omega
          have r15 : (0 : Int) ≤ (j : Int) - 15 := by omega
          have r2 : (0 : Int) ≤ (j : Int) - 2 := by omega
          have q15 : IntKind.i64.wrap ((j : Int) - 15) = (j : Int) - 15 := IntWalk.i64_in _ (by omega)
          have q2 : IntKind.i64.wrap ((j : Int) - 2) = (j : Int) - 2 := IntWalk.i64_in _ (by omega)
          have p15 : ((j : Int) - 15).toNat = j - 15 := by omega
          have p2 : ((j : Int) - 2).toNat = j - 2 := by omega
          have t15 : (j : Int) - 15 < 64 := by omega
          have t2 : (j : Int) - 2 < 64 := by omega
          have u15 : (15 : Int) ≤ j := by omega
          have u2 : (2 : Int) ≤ j := by omega
          clear hx0 hx1 hx9 hx14 hl hll hlw hs2 cell hj hk hlt
          go_wp2_with fail
          go_quiet (fail)
          go_wp2_with fail
          generalize hW2 : wr.drewN nq = W2
          have f0 : W2.cell? ⟨w.heap.size, j - 16, none⟩ = some (.int .u32 (x0 : Nat)) := by rw [← hW2]; exact g0
          have f9 : W2.cell? ⟨w.heap.size, j - 7, none⟩ = some (.int .u32 (x9 : Nat)) := by rw [← hW2]; exact g9
          have fst : W2.cell? ⟨w.heap.size, j, none⟩ = some (.int .u32 ((l ++ zeros (48 - k)).getD j 0 : Nat)) := by rw [← hW2]; exact hst
          have ffr : W2.frozen? ⟨w.heap.size, j, none⟩ = false := by rw [← hW2]; exact hfr
          have HS4 : RW w W2 w.heap.size (l ++ zeros (48 - k)) := by rw [← hW2]; exact H2.out.drewN nq
          have HS5 := Lib.hid HS4
          clear hW2 g0 g1 g9 g14 hst hfr HS4 H2 q15 q2 p15 p2
          have q16 : IntKind.i64.wrap ((j : Int) - 16) = (j : Int) - 16 := IntWalk.i64_in _ (by omega)
          have q7 : IntKind.i64.wrap ((j : Int) - 7) = (j : Int) - 7 := IntWalk.i64_in _ (by omega)
          have p16 : ((j : Int) - 16).toNat = j - 16 := by omega
          have p7 : ((j : Int) - 7).toNat = j - 7 := by omega
          have r16 : (16 : Int) ≤ j := by omega
          have r7 : (7 : Int) ≤ j := by omega
          have jj : (j : Int) < 64 := by omega
          have t16 : (j : Int) - 16 < 64 := by omega
          have t7 : (j : Int) - 7 < 64 := by omega
          go_still_tail 32, (by kernel_rfl)
          still_call (turned_any x1 7 w1 (by omega) (by omega) _)
          repeat still_step
          still_call (turned_any x1 18 w1 (by omega) (by omega) _)
          repeat still_step
          still_call (turned_any x14 17 w14 (by omega) (by omega) _)
          repeat still_step
          still_call (turned_any x14 19 w14 (by omega) (by omega) _)
          repeat still_step
          refine wpStill_nil ?_
          clear q16 q7 p16 p7
          go_wp2_with fail
          go_roundw
          case rel =>
            rw [Sm.s0_int w1, Sm.s1_int w14]
            have ej := HJ.out
            have e0 : j - 16 = k := by omega
            have e1 : j - 15 = k + 1 := by omega
            have e9 : j - 7 = k + 9 := by omega
            have e14 : j - 2 = k + 14 := by omega
            have ev : (((x0 : Nat) : Int) + (Sm.s0 x1 : Nat) + (x9 : Nat) + (Sm.s1 x14 : Nat)) % 4294967296 = (((x0 + Sm.s0 x1 + x9 + Sm.s1 x14) % 4294967296 : Nat) : Int) := by omega
            rw [ev]
            refine ⟨k + 1, by omega, by rw [ej]; exact congrArg (Value.int .i64) (by omega), ?_⟩
            have e : Sm.more (Sm.words B 16) (k + 1) ++ zeros (48 - (k + 1)) = l ++ ((x0 + Sm.s0 x1 + x9 + Sm.s1 x14) % 4294967296) :: zeros (48 - (k + 1)) := by
              rw [Sm.more, ← HL.out, X0.out, X1.out, X9.out, X14.out, e0, e1, e9, e14, List.append_assoc]; rfl
            rw [e]
            refine (RW.store (y := 0) ?_ j HLL.out _).drewN 1
            rw [show 48 - (k + 1) = 48 - k - 1 from by omega, ← zeros_succ (by omega)]
            exact HS5.out
          case measure => simp [intOf]; omega
        · have hk48 : k = 48 := by omega
          have hw : RW w wr w.heap.size (Sm.sched B) := by
            have := HS2.out
            rw [hk48, show zeros (48 - 48) = [] from rfl, List.append_nil] at this
            exact this
          have HW := Lib.hid hw
          have hjd : decide ((j : Int) < 64) = false := decide_eq_false (by omega)
          have hjn : ¬ (j : Int) < 64 := by omega
          clear hk48 hw HS2 hk hlt hj
          obtain ⟨i5, hi, hi0, hi1, hi2⟩ := info_parts I31
          have HI := Lib.hid hi
          have HI0 := Lib.hid hi0
          have HI1 := Lib.hid hi1
          have HI2 := Lib.hid hi2
          clear hi hi0 hi1 hi2
          have hE : (wr.alloc (.cells #[] 123)).ownsRow wr.heap.size 123 1 (.slice (some ⟨wr.heap.size, 0, none⟩) 0 0) 0 [] := World.ownsRow_made wr #[] 0 (Nat.le_refl _) (by unfold maxLen; decide) rfl
          have HE := Lib.hid hE
          have hcl : ∀ j u, (w32 v.list)[j]? = some u → (wr.alloc (.cells #[] 123)).cell? ((⟨gh, 0, none⟩ : Addr).add j) = some u := fun j u hu => by
            have h1 := (HW.out.below.block gh (Array.getElem?_eq_some_iff.1 HH.out).1).trans HH.out
            have h2 := (Below.heap_alloc wr (.cells #[] 123) gh (Array.getElem?_eq_some_iff.1 h1).1).trans h1
            rw [Addr.add_mid, Nat.zero_add, cell_of_row _ gh j _ _ _ h2, ← Array.getElem?_toList]
            rw [← w32_toArray]
            exact hu
          have HCL := Lib.hid hcl
          clear hE hcl
          go_wp2_with (at_builtin; refine wpList_append_own _ (by rfl) (.tmp 92) (.tmp 93) 132 (by rfl) wr.heap.size 123 i5 (.int .u32 0) 1 4 A50 HI.out HI0.out HI1.out HI2.out (by rfl) (by decide) _ 0 [] (by rfl) HE.out ⟨gh, 0, none⟩ 8 8 (w32 v.list) (by rfl) (by rfl) HCL.out (u32_of_w32 _) (by unfold maxLen; decide) (by decide) (by simp) ?_; intro v2 w2 hown2 hgrow2 hnil2)
          obtain ⟨qv, cv, hv2⟩ := slice_of_own32 hown2
          have hown3 := hown2
          rw [hv2] at hown3
          obtain ⟨gv, C0, rfl, hgv, hrv, hcv, htv⟩ := own32_some hown3 (fun e => by
            rw [← hv2] at e
            have := (hnil2.1 e).1
            simp at this)
          have hB2 : Below w.heap.size w w2 := HW.out.below.trans ((((Below.refl wr.heap.size wr).alloc (Nat.le_refl _) _).grown hgrow2 (by simp) (fun k hk => by simp [Value.ownBlock] at hk; omega)).mono HW.out.below.size)
          have hwl : w.heap.size < wr.heap.size := (Array.getElem?_eq_some_iff.1 HW.out.row).1
          have hW2 : RW w w2 w.heap.size (Sm.sched B) := ⟨hB2, (hgrow2.block _ (by simp; omega) (by simp [Value.ownBlock]; omega)).trans ((Below.heap_alloc _ _ _ hwl).trans HW.out.row), Nat.le_refl _⟩
          have hv3 : v2 = .slice (some ⟨gv, 0, none⟩) 8 cv := hv2
          rw [hv3]
          have hst : R4Rel w K (Sm.sched B) v (.slice (some ⟨gv, 0, none⟩) 8 cv) (.int .i64 0) w2 := ⟨0, gv, cv, C0, by omega, rfl, rfl, by omega, hrv, htv, fun h => absurd h (by omega), by omega, hW2⟩
          have HST := Lib.hid hst
          clear hown2 hown3 hgrow2 hnil2 hv2 hv3 hgv hrv hcv htv hB2 hwl hW2 hst HE HCL HW
          have lsch := Sm.length_sched B
          have wsch := Sm.sched_ok HBO.out
          obtain ⟨W, hWd⟩ : ∃ W, W = Sm.sched B := ⟨_, rfl⟩
          have hst' := HST.out
          rw [← hWd] at hst' lsch wsch
          clear HST
          have HST := Lib.hid hst'
          have LW := Lib.hid lsch
          have WW := Lib.hid wsch
          have HWD := Lib.hid hWd
          clear lsch wsch hWd hst'
          go_loopw [13, 14, 15, 16, 17, 18] (fun s i _ _ _ _ wr => R4Rel w K W v s i wr) (fun _ i _ _ _ _ _ => 64 - (intOf i).toNat)
          case atStart => exact HST.out
          case round =>
            obtain ⟨k, g, c, C, hk, rfl, rfl, hc8, hrow, htk, hfin, hgw, hrw⟩ := hrel
            have HR := Lib.hid hrow
            have HTK := Lib.hid htk
            have HFIN := Lib.hid hfin
            have HRW := Lib.hid hrw
            have HGW := Lib.hid hgw
            clear hrow htk hfin hrw HST hgw
            by_cases hlt : k < 64
            · obtain ⟨u, hu⟩ : ∃ u, u = Sm.rounds K W v k := ⟨_, rfl⟩
              have huok : u.ok := by rw [hu]; exact Sm.rounds_ok HV.out k
              have hcell : ∀ i, i < 8 → wr.cell? ⟨g, i, none⟩ = some (.int .u32 (u.list.getD i 0 : Nat)) := fun i hi => by
                rw [cell_of_row wr g i _ _ _ HR.out, ← Array.getElem?_toList]
                have h1 := congrArg (·[i]?) HTK.out
                simp only [List.getElem?_take_of_lt hi] at h1
                rw [h1, ← hu]
                simp [w32, List.getD_eq_getElem?_getD, show i < u.list.length from hi]
              have HU := Lib.hid hu
              obtain ⟨ua, ub, uc, ud, ue, uf, ug, uh⟩ := u
              have c0 := hcell 0 (by omega)
              have c1 := hcell 1 (by omega)
              have c2 := hcell 2 (by omega)
              have c3 := hcell 3 (by omega)
              have c4 := hcell 4 (by omega)
              have c5 := hcell 5 (by omega)
              have c6 := hcell 6 (by omega)
              have c7 := hcell 7 (by omega)
              have HO := Lib.hid huok
              obtain ⟨ha, hb, hc, hd, he, hf, hg, hh⟩ := huok
              simp only [Sm.V8.list, List.getD_cons_zero, List.getD_cons_succ] at c0 c1 c2 c3 c4 c5 c6 c7 ha hb hc hd he hf hg hh
              have cK : wr.cell? ⟨gk, k, none⟩ = some (.int .u32 (K.getD k 0 : Nat)) := (HRW.out.below.cell (p := ⟨gk, k, none⟩) (Array.getElem?_eq_some_iff.1 HK.out).1).trans (u32s_cell HK.out k (by rw [LK.out]; exact hlt))
              have cW : wr.cell? ⟨w.heap.size, k, none⟩ = some (.int .u32 (W.getD k 0 : Nat)) := u32s_cell HRW.out.row k (by rw [LW.out]; exact hlt)
              have bK : K.getD k 0 < 4294967296 := Sm.getD_lt HKO.out (by omega) k
              have bW : W.getD k 0 < 4294967296 := Sm.getD_lt WW.out (by omega) k
              obtain ⟨kk1, hkk1⟩ : ∃ x, x = K.getD k 0 := ⟨_, rfl⟩
              obtain ⟨ww1, hww1⟩ : ∃ x, x = W.getD k 0 := ⟨_, rfl⟩
              rw [← hkk1] at cK bK
              rw [← hww1] at cW bW
              have HKK := Lib.hid hkk1
              have HWW := Lib.hid hww1
              have i4 : (4 : Int) < 8 := by omega
              have kd : decide ((k : Int) < 64) = true := decide_eq_true (by omega)
              have k0 : (0 : Int) ≤ k := by omega
              have k64 : (k : Int) < 64 := by omega
              have qs : IntKind.u32.wrap (4294967295 - (ue : Int)) = 4294967295 - (ue : Int) := IntWalk.u32_in _ (by omega)
              clear hu hcell hkk1 hww1
              go_wp2_with fail
              go_quiet (fail)
              go_wp2_with fail
              rw [ch_sub he hf hg]
              go_quiet ((go_at_call 112; first | (with_reducible exact calls_later (turned6 ue he _)) | (with_reducible exact calls_later (turned11 ue he _)) | (with_reducible exact calls_later (turned25 ue he _))))
              go_wp2_with fail
              rw [one_int he]
              have ht1l : (uh + Sm.b1 ue + Sm.ch ue uf ug + kk1 + ww1) % 4294967296 < 4294967296 := Nat.mod_lt _ (by omega)
              obtain ⟨T1, hT1⟩ : ∃ T1, T1 = (uh + Sm.b1 ue + Sm.ch ue uf ug + kk1 + ww1) % 4294967296 := ⟨_, rfl⟩
              rw [← hT1] at ht1l ⊢
              have HT1 := Lib.hid hT1
              clear hT1
              go_quiet (fail)
              go_wp2_with fail
              rw [Sm.mj_int ha hb hc]
              go_quiet ((go_at_call 112; first | (with_reducible exact calls_later (turned2 ua ha _)) | (with_reducible exact calls_later (turned13 ua ha _)) | (with_reducible exact calls_later (turned22 ua ha _))))
              go_wp2_with fail
              rw [two_int ha]
              have ht2l : (Sm.b0 ua + Sm.mj ua ub uc) % 4294967296 < 4294967296 := Nat.mod_lt _ (by omega)
              obtain ⟨T2, hT2⟩ : ∃ T2, T2 = (Sm.b0 ua + Sm.mj ua ub uc) % 4294967296 := ⟨_, rfl⟩
              rw [← hT2] at ht2l ⊢
              have HT2 := Lib.hid hT2
              clear hT2
              simp only [World.drewN_drewN]
              generalize hW2 : World.drewN wr _ = W2
              have d0 : W2.cell? ⟨g, 0, none⟩ = some (.int .u32 (ua : Nat)) := by rw [← hW2]; exact c0
              have d1 : W2.cell? ⟨g, 1, none⟩ = some (.int .u32 (ub : Nat)) := by rw [← hW2]; exact c1
              have d2 : W2.cell? ⟨g, 2, none⟩ = some (.int .u32 (uc : Nat)) := by rw [← hW2]; exact c2
              have d3 : W2.cell? ⟨g, 3, none⟩ = some (.int .u32 (ud : Nat)) := by rw [← hW2]; exact c3
              have d4 : W2.cell? ⟨g, 4, none⟩ = some (.int .u32 (ue : Nat)) := by rw [← hW2]; exact c4
              have d5 : W2.cell? ⟨g, 5, none⟩ = some (.int .u32 (uf : Nat)) := by rw [← hW2]; exact c5
              have d6 : W2.cell? ⟨g, 6, none⟩ = some (.int .u32 (ug : Nat)) := by rw [← hW2]; exact c6
              have d7 : W2.cell? ⟨g, 7, none⟩ = some (.int .u32 (uh : Nat)) := by rw [← hW2]; exact c7
              have HRW2 := Lib.hid (show RW w W2 w.heap.size W from by rw [← hW2]; exact HRW.out.drewN _)
              clear hW2 c0 c1 c2 c3 c4 c5 c6 c7 cK cW
              go_still_tail 26, (by kernel_rfl)
              go_wp2_with fail
              go_roundw
              case rel =>
                have e1 : ((T1 : Int) + (T2 : Int)) % 4294967296 = (((T1 + T2) % 4294967296 : Nat) : Int) := by omega
                have e2 : ((ud : Int) + (T1 : Int)) % 4294967296 = (((ud + T1) % 4294967296 : Nat) : Int) := by omega
                rw [e1, e2]
                have hC : (#[.int .u32 (((T1 + T2) % 4294967296 : Nat) : Int), .int .u32 (ua : Nat), .int .u32 (ub : Nat), .int .u32 (uc : Nat), .int .u32 (((ud + T1) % 4294967296 : Nat) : Int), .int .u32 (ue : Nat), .int .u32 (uf : Nat), .int .u32 (ug : Nat)] : Array Value) = u32s (Sm.rounds K W v (k + 1)).list := by
                  rw [Sm.rounds, ← HU.out, ← HKK.out, ← HWW.out, HT1.out, HT2.out]
                  rfl
                rw [hC]
                refine ⟨k + 1, W2.heap.size, 8, _, by omega, by go_num, rfl, Nat.le_refl _, heap_alloc_new W2 _, rfl, fun _ => ⟨rfl, rfl⟩, (Array.getElem?_eq_some_iff.1 HRW2.out.row).1, ?_⟩
                have hbl := HRW2.out.below
                have hlt2 := (Array.getElem?_eq_some_iff.1 HRW2.out.row).1
                exact (show RW w (W2.alloc _) w.heap.size W from ⟨hbl.alloc hbl.size _, (Below.heap_alloc _ _ _ hlt2).trans HRW2.out.row, Nat.le_refl _⟩).drewN 1
              case measure => simp [intOf]; omega
            · have hk64 : k = 64 := by omega
              obtain ⟨hc, hC⟩ := HFIN.out (by omega)
              have hr := HR.out
              rw [hC, hk64] at hr
              subst hc
              obtain ⟨U, hU⟩ : ∃ U, U = Sm.rounds K W v 64 := ⟨_, rfl⟩
              rw [← hU] at hr
              have hUok : U.ok := by rw [hU]; exact Sm.rounds_ok HV.out 64
              have hst5 : R5Rel w v U g (.int .i64 0) wr := ⟨0, by omega, rfl, hr, HRW.out.below⟩
              have HST5 := Lib.hid hst5
              have HU := Lib.hid hU
              have HUO := Lib.hid hUok
              have hkd4 : decide ((k : Int) < 64) = false := decide_eq_false (by omega)
              obtain ⟨k4, hk4⟩ : ∃ kk : Int, kk = (k : Int) := ⟨_, rfl⟩
              rw [← hk4] at hkd4 ⊢
              clear hk64 hC hr hU hUok hst5 hk4 hk hlt HFIN HR HTK hc8
              go_wp2_with fail
              go_loopw [19] (fun i wr => R5Rel w v U g i wr) (fun i _ => 8 - (intOf i).toNat)
              case atStart => exact HST5.out
              case round =>
                obtain ⟨k, hk, rfl, hrow, hbl⟩ := hrel
                have HR5 := Lib.hid hrow
                have HB5 := Lib.hid hbl
                clear hrow hbl HST5
                by_cases hlt : k < 8
                · have hdc : U.list.drop k = U.list.getD k 0 :: U.list.drop (k + 1) := by
                    rw [List.drop_eq_getElem_cons (show k < U.list.length from hlt), List.getD_eq_getElem?_getD, List.getElem?_eq_getElem (show k < U.list.length from hlt)]; rfl
                  have hr5 := HR5.out
                  rw [hdc] at hr5
                  have htl : ((Sm.add8 v U).list.take k).length = k := by rw [List.length_take]; exact Nat.min_eq_left (Nat.le_of_lt hlt)
                  have e1 : wr.cell? ⟨g, k, none⟩ = some (.int .u32 (U.list.getD k 0 : Nat)) := by
                    have := u32s_cell hr5 k (by rw [List.length_append, htl]; simp)
                    rw [List.getD_eq_getElem?_getD, List.getElem?_append_right (by omega), htl, Nat.sub_self] at this
                    exact this
                  have f1 : wr.frozen? ⟨g, k, none⟩ = false := frozen_of_row wr g k _ _ hr5
                  have e2 : wr.cell? ⟨gh, k, none⟩ = some (.int .u32 (v.list.getD k 0 : Nat)) := (HB5.out.cell (p := ⟨gh, k, none⟩) (Array.getElem?_eq_some_iff.1 HH.out).1).trans (u32s_cell HH.out k hlt)
                  have had := add8_get v U k hlt
                  have b1 : U.list.getD k 0 < 4294967296 := v8_lt HUO.out k
                  have b2 : v.list.getD k 0 < 4294967296 := v8_lt HV.out k
                  have htk : (Sm.add8 v U).list.take (k + 1) = (Sm.add8 v U).list.take k ++ [(Sm.add8 v U).list.getD k 0] := by
                    rw [List.take_succ_eq_append_getElem (show k < (Sm.add8 v U).list.length from hlt), List.getD_eq_getElem?_getD, List.getElem?_eq_getElem (show k < (Sm.add8 v U).list.length from hlt)]; rfl
                  rw [had] at htk
                  obtain ⟨a, hax⟩ : ∃ a, a = U.list.getD k 0 := ⟨_, rfl⟩
                  obtain ⟨b, hbx⟩ : ∃ b, b = v.list.getD k 0 := ⟨_, rfl⟩
                  rw [← hax] at e1 b1 hr5 htk
                  rw [← hbx] at e2 b2 htk
                  have HR6 := Lib.hid hr5
                  have HTL := Lib.hid htl
                  have HTK6 := Lib.hid htk
                  have k0 : (0 : Int) ≤ k := by omega
                  have k8 : (k : Int) < 8 := by omega
                  clear hdc hr5 htl had htk hax hbx HR5
                  go_wp2_with fail
                  go_still_tail 12, (by kernel_rfl)
                  go_wp2_with fail
                  go_roundw
                  case rel =>
                    rw [show ((a : Int) + (b : Int)) % 4294967296 = (((b + a) % 4294967296 : Nat) : Int) from by omega]
                    refine ⟨k + 1, by omega, by go_num, ?_, (HB5.out.setCell (Nat.le_of_lt HGW.out) _).drew⟩
                    show (World.setCell _ _ _).heap[g]? = _
                    rw [heap_setCell_same _ _ _ _ _ _ HR6.out, u32s_set _ _ _ _ k HTL.out, HTK6.out, List.append_assoc]
                    rfl
                  case measure => simp [intOf]; omega
                · obtain rfl : k = 8 := by omega
                  have hr5 := HR5.out
                  rw [show (Sm.add8 v U).list.take 8 ++ U.list.drop 8 = (Sm.add8 v U).list from rfl] at hr5
                  have HR6 := Lib.hid hr5
                  clear hr5 HR5
                  go_wp2_with fail
                  go_ret
                  refine ⟨g, rfl, ?_, Nat.le_of_lt HGW.out, HB5.out⟩
                  rw [Sm.turn, ← HWD.out, ← HU.out]
                  exact HR6.out
end Go.Proofs.YtfkpgildeddhaaaGreat

/- The contracts of indentureref01.With and Sum. -/
namespace Go.Proofs.YtfkpgildeddhaaaGreat
open Go.RowKit

theorem fill_take (n j : Nat) (hj : j < 8) : (Sm.bigs n).getD j 0 = n / 2 ^ (56 - 8 * j) % 256 := by
  match j, hj with
  | 0, _ => rfl
  | 1, _ => rfl
  | 2, _ => rfl
  | 3, _ => rfl
  | 4, _ => rfl
  | 5, _ => rfl
  | 6, _ => rfl
  | 7, _ => rfl
theorem fill_ok' (n : Nat) : ∀ x ∈ Sm.bigs n, x < 256 := by
  intro x hx
  simp only [Sm.bigs, List.mem_cons, List.not_mem_nil, or_false] at hx
  rcases hx with rfl | rfl | rfl | rfl | rfl | rfl | rfl | rfl <;> exact Sm.big_lt _ _
/-- How many zeros stand between the mark and the length. -/
def pad (n : Nat) : Nat := (119 - n % 64) % 64
theorem full_eq (T : List Nat) : Sm.full T = T ++ 128 :: (zeros (pad T.length) ++ Sm.bigs (8 * T.length)) := rfl
theorem full_len (T : List Nat) : (Sm.full T).length = T.length + 1 + pad T.length + 8 := by
  rw [full_eq, List.length_append, List.length_cons, List.length_append]
  simp [zeros, Sm.bigs]
  omega
theorem full_mod (T : List Nat) : (Sm.full T).length % 64 = 0 := by
  rw [full_len]; unfold pad; omega
def zs (T : List Nat) (k : Nat) : List Nat := T ++ 128 :: zeros k
theorem zs_succ (T : List Nat) (k : Nat) : zs T (k + 1) = zs T k ++ [0] := by
  unfold zs zeros
  rw [List.replicate_succ', List.append_assoc, List.cons_append]
theorem zs_ok {T : List Nat} (h : Sm.allB T) (k : Nat) : Sm.allB (zs T k) := fun x hx => by
  unfold zs at hx
  simp only [List.mem_append, List.mem_cons] at hx
  rcases hx with hx | rfl | hx
  · exact h x hx
  · omega
  · exact zeros_ok k x hx
theorem bigs_ok (n : Nat) : Sm.allB (Sm.bigs n) := fun x hx => fill_ok' n x hx
theorem full_zs (T : List Nat) : Sm.full T = zs T (pad T.length) ++ Sm.bigs (8 * T.length) := by
  rw [full_eq]
  unfold zs
  rw [List.append_assoc, List.cons_append]
theorem full_ok {T : List Nat} (h : Sm.allB T) : Sm.allB (Sm.full T) := fun x hx => by
  rw [full_zs] at hx
  rcases List.mem_append.1 hx with hx | hx
  · exact zs_ok h _ x hx
  · exact bigs_ok _ x hx
def W1Rel (w : World) (T : List Nat) (m : Nat) (s : Value) (wr : World) : Prop :=
  ∃ (k : Nat) (q : Option Addr) (d : Nat), k ≤ m ∧ s = .slice q (T.length + 1 + k) d ∧ wr.ownsRow w.heap.size 5 1 (.slice q (T.length + 1 + k) d) (T.length + 1 + k) (vals (zs T k)) ∧ Below w.heap.size w wr
theorem sl_of_owns {w : World} {base n : Nat} {v : Value} {xs : List Value} (h : w.ownsRow base 5 1 v n xs) : ∃ q c, v = .slice q n c := by
  rcases h.2 with ⟨rfl, rfl⟩ | ⟨g, cap, cur, rfl, _⟩
  · exact ⟨_, _, rfl⟩
  · exact ⟨_, _, rfl⟩
theorem owns_at {w : World} {base n : Nat} {v : Value} {B : List Nat} (h : w.ownsRow base 5 1 v n (vals B)) (hB : Sm.allB B) (h0 : 0 < n) : ∃ g c, v = .slice (some ⟨g, 0, none⟩) n c ∧ n ≤ c ∧ n = B.length ∧ bytesAt w g 0 B := by
  obtain ⟨q, c, rfl, hb⟩ := owns_form h hB
  have hl := hb.size
  obtain ⟨g, o, hp, hx⟩ := hb.ne (by rintro rfl; simp at hl; omega)
  rcases h.2 with ⟨hv, _⟩ | ⟨g', cap, cur, hv, _, _, hle, _⟩
  · cases hv; omega
  · simp only [Value.slice.injEq] at hv
    obtain ⟨hq, -, rfl⟩ := hv
    rw [hp] at hq
    simp only [Option.some.injEq, Addr.mk.injEq] at hq
    obtain ⟨rfl, rfl, -⟩ := hq
    exact ⟨g, c, by rw [hp], hle, hl, hx⟩
def B3Rel (w : World) (F : List Nat) (M : Nat) (h i : Value) (wr : World) : Prop :=
  ∃ k g : Nat, k ≤ M ∧ i = .int .i64 (64 * k : Nat) ∧ h = .slice (some ⟨g, 0, none⟩) 8 8 ∧ wr.heap[g]? = some (.cells (u32s (Sm.blocks F Sm.first k).list) 123 (0, 0)) ∧ Below w.heap.size w wr
theorem bytes_at (V : Sm.V8) (a r : Nat) (ha : a < 8) (hr : r < 4) : (Sm.bytesOf V).getD (4 * a + r) 0 = V.list.getD a 0 / 2 ^ (24 - 8 * r) % 256 :=
  match a, ha, r, hr with
  | 0, _, 0, _ => rfl
  | 0, _, 1, _ => rfl
  | 0, _, 2, _ => rfl
  | 0, _, 3, _ => (congrArg (· % 256) (Nat.div_one _)).symm
  | 1, _, 0, _ => rfl
  | 1, _, 1, _ => rfl
  | 1, _, 2, _ => rfl
  | 1, _, 3, _ => (congrArg (· % 256) (Nat.div_one _)).symm
  | 2, _, 0, _ => rfl
  | 2, _, 1, _ => rfl
  | 2, _, 2, _ => rfl
  | 2, _, 3, _ => (congrArg (· % 256) (Nat.div_one _)).symm
  | 3, _, 0, _ => rfl
  | 3, _, 1, _ => rfl
  | 3, _, 2, _ => rfl
  | 3, _, 3, _ => (congrArg (· % 256) (Nat.div_one _)).symm
  | 4, _, 0, _ => rfl
  | 4, _, 1, _ => rfl
  | 4, _, 2, _ => rfl
  | 4, _, 3, _ => (congrArg (· % 256) (Nat.div_one _)).symm
  | 5, _, 0, _ => rfl
  | 5, _, 1, _ => rfl
  | 5, _, 2, _ => rfl
  | 5, _, 3, _ => (congrArg (· % 256) (Nat.div_one _)).symm
  | 6, _, 0, _ => rfl
  | 6, _, 1, _ => rfl
  | 6, _, 2, _ => rfl
  | 6, _, 3, _ => (congrArg (· % 256) (Nat.div_one _)).symm
  | 7, _, 0, _ => rfl
  | 7, _, 1, _ => rfl
  | 7, _, 2, _ => rfl
  | 7, _, 3, _ => (congrArg (· % 256) (Nat.div_one _)).symm
def B4Rel (w : World) (V : Sm.V8) (i : Value) (wr : World) : Prop :=
  ∃ k : Nat, k ≤ 32 ∧ i = .int .i64 k ∧ wr.heap[w.heap.size]? = some (.cells (u8s ((Sm.bytesOf V).take k ++ zeros (32 - k))) 37 (0, 0)) ∧ Below w.heap.size w wr
def lenV : Value → Nat
  | .slice _ n _ => n
  | _ => 0
set_option maxRecDepth 100000 in
set_option maxHeartbeats 4000000 in
theorem with_any (T : List Nat) (p : Option Addr) (n c gk : Nat) (w : World) (hT : Tx w p n c T) (hl : T.length < 1000000) (hk : w.heap[gk]? = some (.cells (u32s Sm.ks) 123 (0, 0))) :
    Calls Tryz.prog 90 #[.slice p n c, .slice (some ⟨gk, 0, none⟩) 64 64] w fun e w' => e = .returned (.agg (u8s (Sm.sum T))) ∧ Below w.heap.size w w' := by
  have HT := Lib.hid hT
  have HN := Lib.hid hT.size
  have HK := Lib.hid hk
  have HZ := Lib.hid (zero_of_info Z25).1
  have hz := (zero_of_info Z25).1
  have hnl : n < 1000000 := by rw [HN.out]; exact hl
  clear hT hk
  obtain ⟨i5, hi, hi0, hi1, hi2⟩ := info_parts I5
  have HI := Lib.hid hi
  have HI0 := Lib.hid hi0
  have HI1 := Lib.hid hi1
  have HI2 := Lib.hid hi2
  clear hi hi0 hi1 hi2
  go_enter Tryz.func90, Tryz.ntmps90
  go_upto_region 1 with fail
  generalize hW0 : w.alloc (.cells (u8s (zeros 32)) 37) = W0
  obtain ⟨gd, hgd⟩ : ∃ gd, gd = w.heap.size := ⟨_, rfl⟩
  rw [← hgd]
  have HG0 := Lib.hid (show W0.heap[gd]? = some (.cells (u8s (zeros 32)) 37 (0, 0)) from by rw [hgd, ← hW0]; exact heap_alloc_new w _)
  have HS0 := Lib.hid (show W0.heap.size = gd + 1 from by rw [hgd, ← hW0]; simp)
  have hb0 : Below w.heap.size w W0 := by rw [← hW0]; exact (Below.refl _ _).alloc (Nat.le_refl _) _
  have HT0 := Lib.hid (HT.out.later hb0)
  have HK0 := Lib.hid (show W0.heap[gk]? = some (.cells (u32s Sm.ks) 123 (0, 0)) from (hb0.block gk (Array.getElem?_eq_some_iff.1 HK.out).1).trans HK.out)
  have HB0 := Lib.hid hb0
  have HGD := Lib.hid hgd
  clear hb0 HT HK hW0 hgd hz
  obtain ⟨z, hz⟩ : ∃ z, z = T.length := ⟨_, rfl⟩
  have hnz : n = z := by rw [HN.out, hz]
  subst hnz
  go_cut [5] (fun s wx => ∃ q d, s = .slice q (n + 1) d ∧ wx.ownsRow W0.heap.size 5 1 (.slice q (n + 1) d) (n + 1) (vals (T ++ [128])) ∧ Below W0.heap.size W0 wx)
  case first =>
    have hE : (W0.alloc (.cells #[] 5)).ownsRow W0.heap.size 5 1 (.slice (some ⟨W0.heap.size, 0, none⟩) 0 0) 0 (vals ([] : List Nat)) := owns_mk (L := []) (heap_alloc_new W0 _) rfl (Nat.le_refl _) (by unfold maxLen; omega) (Nat.le_refl _)
    have HE := Lib.hid hE
    have HEB := Lib.hid (show Below W0.heap.size W0 (W0.alloc (.cells #[] 5)) from (Below.refl _ _).alloc (Nat.le_refl _) _)
    clear hE
    have HZZ := Lib.hid hz
    clear hz
    rcases HT0.out.at' with ⟨hp, hc⟩ | ⟨x, hp, _⟩
    · subst hp
      subst hc
      obtain rfl : n = 0 := by have := HT0.out.le; omega
      have HA0 := Lib.hid (show T = [] from List.length_eq_zero_iff.1 HZZ.out.symm)
      have HNW := Lib.hid (show ((W0.alloc (.cells #[] 5)).alloc (.cells (u8s [128]) 5)).heap[W0.heap.size + 1]? = some (.cells (u8s [128]) 5 (0, 0)) from by
        have := heap_alloc_new (W0.alloc (.cells #[] 5)) (.cells (u8s [128]) 5)
        rw [show (W0.alloc (.cells #[] 5)).heap.size = W0.heap.size + 1 from by simp] at this
        exact this)
      go_wp2_with (at_builtin; first | (refine wpList_append_own_none (by rfl) (.tmp 12) (.tmp 13) 22 (by rfl) W0.heap.size 5 i5 1 A22 HI.out _ 0 _ (by rfl) HE.out (by rfl) ?_) | (refine wpList_append_own _ (by rfl) (.tmp 14) (.tmp 15) 22 (by rfl) W0.heap.size 5 i5 (.int .u8 0) 1 1 A22 HI.out HI0.out HI1.out HI2.out (by rfl) (by decide) _ 0 [] (by rfl) (HE.out.alloc _) ⟨W0.heap.size + 1, 0, none⟩ 1 1 (vals [128]) (by rfl) (by rfl) (cells_of_row (L := [128]) HNW.out) (vals_one _) (by unfold maxLen; omega) (by omega) (by simp; omega) ?_; intro v4 w4 hown4 hgrow4 _; obtain ⟨q4, d4, hv4⟩ := sl_of_owns hown4; have HO4 := Lib.hid hown4; have HG4 := Lib.hid hgrow4; have HV4 := Lib.hid hv4; rw [hv4]; clear hown4 hgrow4 hv4))
      go_meet
      refine ⟨q4, d4, rfl, ?_, (HEB.out.alloc (by simp) (.cells (u8s [128]) 5)).grown HG4.out (by simp; omega) (fun k hk => by simp [Value.ownBlock] at hk; omega)⟩
      have ho := HO4.out
      rw [HV4.out] at ho
      rw [HA0.out]
      exact ho
    · subst hp
      go_wp2_with (at_builtin; first | (refine wpList_append_own _ (by rfl) (.tmp 12) (.tmp 13) 22 (by rfl) W0.heap.size 5 i5 (.int .u8 0) 1 1 A22 HI.out HI0.out HI1.out HI2.out (by rfl) (by decide) _ 0 [] (by rfl) HE.out x n c (vals T) (by rfl) (by rw [vals_length, Nat.mul_one]; exact HZZ.out.symm) ((HT0.out.later HEB.out).cells) (vals_one _) (by unfold maxLen; omega) (by omega) (by simp) ?_; intro v3 w3 hown3 hgrow3 _; rw [Nat.zero_add, List.nil_append] at hown3; have HO3 := Lib.hid hown3; have HB3 := Lib.hid (HEB.out.grown hgrow3 (by simp) (fun k hk => by simp [Value.ownBlock] at hk; omega)); clear hown3 hgrow3) | (refine wpList_append_own _ (by rfl) (.tmp 14) (.tmp 15) 22 (by rfl) W0.heap.size 5 i5 (.int .u8 0) 1 1 A22 HI.out HI0.out HI1.out HI2.out (by rfl) (by decide) _ n (vals T) (by rfl) (HO3.out.alloc _) ⟨w3.heap.size, 0, none⟩ 1 1 (vals [128]) (by rfl) (by rfl) (cells_of_row (L := [128]) (heap_alloc_new w3 _)) (vals_one _) (by unfold maxLen; omega) (by omega) (by have := HB3.out.size; simp; omega) ?_; intro v4 w4 hown4 hgrow4 _; obtain ⟨q4, d4, hv4⟩ := sl_of_owns hown4; have HO4 := Lib.hid hown4; have HG4 := Lib.hid hgrow4; have HV4 := Lib.hid hv4; rw [hv4]; clear hown4 hgrow4 hv4))
      go_meet
      refine ⟨q4, d4, rfl, ?_, (HB3.out.alloc HB3.out.size (.cells (u8s [128]) 5)).grown HG4.out (by have := HB3.out.size; simp; omega) (fun k hk => ((HO3.out.alloc (.cells (u8s [128]) 5)).lt k hk).1)⟩
      have ho := HO4.out
      rw [HV4.out, ← vals_append] at ho
      exact ho
  case rest =>
  obtain ⟨q1, d1, rfl, ho1, hb1⟩ := hcut
  obtain ⟨w1, hw1⟩ : ∃ w1, w1 = wc := ⟨_, rfl⟩
  rw [← hw1] at ho1 hb1 ⊢
  clear hw1
  have HST := Lib.hid (show W1Rel W0 T (pad n) (.slice q1 (n + 1) d1) w1 from ⟨0, q1, d1, by omega, by rw [← hz], by rw [← hz]; exact ho1, hb1⟩)
  have HZZ := Lib.hid hz
  clear ho1 hb1 hz
  obtain ⟨m, hm⟩ : ∃ m, m = pad n := ⟨_, rfl⟩
  rw [← hm] at HST
  have hm64 : m < 64 := by rw [hm]; unfold pad; omega
  have hmm : (n + 1 + m) % 64 = 56 := by rw [hm]; unfold pad; omega
  have HM := Lib.hid hm
  clear hm
  go_wp2_with fail
  go_loopw [5] (fun s wr => W1Rel W0 T m s wr) (fun s _ => m - (lenV s - n - 1))
  case atStart => exact HST.out
  case round =>
    obtain ⟨k, q, d, hkm, rfl, ho, hb⟩ := hrel
    rw [← HZZ.out] at ho ⊢
    clear HST
    have HO := Lib.hid ho
    have HB := Lib.hid hb
    clear ho hb
    obtain ⟨L, hL⟩ : ∃ L, L = n + 1 + k := ⟨_, rfl⟩
    rw [← hL] at HO ⊢
    by_cases hlt : k < m
    · have hne : ((L : Int) % 64 != 56) = true := by simp; omega
      have hLl : L < 1000100 := by omega
      have HL := Lib.hid hL
      clear hL
      go_wp2_with (at_builtin; refine wpList_append_own _ (by rfl) (.tmp 21) (.tmp 22) 22 (by rfl) W0.heap.size 5 i5 (.int .u8 0) 1 1 A22 HI.out HI0.out HI1.out HI2.out (by rfl) (by decide) _ L _ (by rfl) (HO.out.alloc _) ⟨wr.heap.size, 0, none⟩ 1 1 (vals [0]) (by rfl) (by rfl) (cells_of_row (L := [0]) (heap_alloc_new wr _)) (vals_one _) (by unfold maxLen; omega) (by omega) (by have := HB.out.size; simp; omega) ?_; intro v4 w4 hown4 hgrow4 _; obtain ⟨q4, d4, hv4⟩ := sl_of_owns hown4; have HO4 := Lib.hid hown4; have HG4 := Lib.hid hgrow4; have HV4 := Lib.hid hv4; rw [hv4]; clear hown4 hgrow4 hv4)
      go_roundw
      case rel =>
        have ho := HO4.out
        rw [HV4.out, ← vals_append, ← zs_succ] at ho
        have hLL : L + 1 = T.length + 1 + (k + 1) := by rw [← HZZ.out, HL.out]; omega
        rw [hLL] at ho
        exact ⟨k + 1, q4, d4, by omega, by rw [hLL], ho, (HB.out.alloc HB.out.size _).grown HG4.out (by have := HB.out.size; simp; omega) (fun i hi => ((HO.out.alloc (.cells (u8s [0]) 5)).lt i hi).1)⟩
      case measure => have := HL.out; simp [lenV]; omega
    · obtain rfl : m = k := by omega
      have hne : ((L : Int) % 64 != 56) = false := by simp; omega
      have hLl : L < 1000100 := by omega
      have HL := Lib.hid hL
      clear hL
      go_wp2_with fail
      rw [show (8 * (n : Int)) = ((8 * n : Nat) : Int) from by omega]
      obtain ⟨N, hN⟩ : ∃ N, N = 8 * n := ⟨_, rfl⟩
      rw [← hN]
      have hNl : N < 10000000 := by omega
      have hst2 : RefRel W0 L (zs T m) N (.slice q L d) (.int .i64 0) wr := ⟨0, by omega, rfl, by rw [List.take_zero, List.append_nil]; exact HO.out, HB.out⟩
      have HST2 := Lib.hid hst2
      have HNN := Lib.hid hN
      clear hst2 hN hne
      go_loopw [5, 7] (fun v i wr' => RefRel W0 L (zs T m) N v i wr') (fun _ i _ => 8 - (intOf i).toNat)
      case atStart => exact HST2.out
      case round =>
        obtain ⟨j, hj, rfl, ho2, hb2⟩ := hrel
        have HO2 := Lib.hid ho2
        have HB2 := Lib.hid hb2
        clear ho2 hb2 HST2
        by_cases hj8 : j < 8
        · obtain ⟨y, hy⟩ : ∃ y, y = N / 2 ^ (56 - 8 * j) := ⟨_, rfl⟩
          have hsh : (N : Int) / 2 ^ (56 - 8 * j) = (y : Int) := by rw [hy, Int.natCast_ediv, Int.natCast_pow]; rfl
          have HYY := Lib.hid hy
          clear hy
          go_wp2_with (at_builtin; refine wpList_append_own _ (by rfl) (.tmp 32) (.tmp 41) 22 (by rfl) W0.heap.size 5 i5 (.int .u8 0) 1 1 A22 HI.out HI0.out HI1.out HI2.out (by rfl) (by decide) _ (L + j) _ (by rfl) (HO2.out.alloc _) ⟨wr.heap.size, 0, none⟩ 1 1 (vals [y % 256]) (by rfl) (by rfl) (cells_of_row (L := [y % 256]) (heap_alloc_new wr _)) (vals_one _) (by unfold maxLen; omega) (by omega) (by have := HB2.out.size; simp; omega) ?_; intro v4 w4 hown4 hgrow4 _)
          have hb4 : Below W0.heap.size W0 w4 := (HB2.out.alloc HB2.out.size _).grown hgrow4 (by have := HB2.out.size; simp; omega) (fun i hi => ((HO2.out.alloc (.cells (u8s [y % 256]) 5)).lt i hi).1)
          have e : w4.ownsRow W0.heap.size 5 1 v4 (L + (j + 1)) (vals (zs T m ++ (Sm.bigs N).take (j + 1))) := by
            rw [bigs_step N j hj8, ← List.append_assoc, vals_append _ [Sm.big N j], big_at N j hj8, ← HYY.out]
            exact hown4
          have HE := Lib.hid e
          have HB4 := Lib.hid hb4
          clear hown4 hgrow4 e hb4
          go_wp2_with fail
          go_roundw
          case rel => exact ⟨j + 1, by omega, by go_num, HE.out, HB4.out⟩
          case measure => simp [intOf]; omega
        · obtain rfl : j = 8 := by omega
          rw [show ((8 : Nat) : Int) = (8 : Int) from rfl]
          have ho8 := HO2.out
          rw [show (Sm.bigs N).take 8 = Sm.bigs N from rfl, HNN.out, HZZ.out, HM.out, HZZ.out, ← full_zs] at ho8
          obtain ⟨gb, cb, rfl, hcb, hfl, hba⟩ := owns_at ho8 (full_ok HT0.out.ok) (by omega)
          have hf0 := full_mod T
          obtain ⟨F, hF⟩ : ∃ F, F = Sm.full T := ⟨_, rfl⟩
          rw [← hF] at hfl hba hf0
          obtain ⟨S, hS⟩ : ∃ S, S = L + 8 := ⟨_, rfl⟩
          rw [← hS] at hfl hcb ⊢
          have hSl : S < 1000200 := by omega
          rw [← hfl] at hf0
          obtain ⟨M, hM⟩ : ∃ M, S = 64 * M := ⟨S / 64, by omega⟩
          have HFL := Lib.hid hfl
          have HBA := Lib.hid hba
          have HF := Lib.hid hF
          have HFO := Lib.hid (show Sm.allB F from by rw [hF]; exact full_ok HT0.out.ok)
          have HMM := Lib.hid hM
          have HSS := Lib.hid hS
          have HCB := Lib.hid hcb
          clear hfl hba hF ho8 hf0 hM hS hcb HO2 HNN HO HL
          go_wp2_with fail
          obtain ⟨w2, hw2⟩ : ∃ w2, w2 = wr.alloc (.cells (u32s Sm.first.list) 123) := ⟨_, rfl⟩
          rw [show wr.alloc (.cells #[.int .u32 1779033703, .int .u32 3144134277, .int .u32 1013904242, .int .u32 2773480762, .int .u32 1359893119, .int .u32 2600822924, .int .u32 528734635, .int .u32 1541459225] 123) = w2 from by rw [hw2]; rfl]
          have hb2 : Below W0.heap.size W0 w2 := by rw [hw2]; exact HB2.out.alloc HB2.out.size _
          have hwb : Below wr.heap.size wr w2 := by rw [hw2]; exact (Below.refl _ _).alloc (Nat.le_refl _) _
          have hgbl : gb < wr.heap.size := by
            have := HBA.out 0 (by rw [← HFL.out, HSS.out]; omega)
            exact block_lt_of_cell this
          have HBA2 := Lib.hid (show bytesAt w2 gb 0 F from fun i hi => (hwb.cell (p := ⟨gb, 0 + i, none⟩) hgbl).trans (HBA.out i hi))
          have HGB := Lib.hid (Nat.lt_of_lt_of_le hgbl hwb.size)
          have HB2' := Lib.hid hb2
          have HK2 := Lib.hid (show w2.heap[gk]? = some (.cells (u32s Sm.ks) 123 (0, 0)) from (hb2.block gk (Array.getElem?_eq_some_iff.1 HK0.out).1).trans HK0.out)
          have HG2 := Lib.hid (show w2.heap[gd]? = some (.cells (u8s (zeros 32)) 37 (0, 0)) from (hb2.block gd (Array.getElem?_eq_some_iff.1 HG0.out).1).trans HG0.out)
          have hst3 : B3Rel w2 F M (.slice (some ⟨wr.heap.size, 0, none⟩) 8 8) (.int .i64 0) w2 := ⟨0, wr.heap.size, by omega, rfl, rfl, by rw [hw2]; exact heap_alloc_new wr _, Below.refl _ _⟩
          have HST3 := Lib.hid hst3
          clear hb2 hwb hgbl hst3 hw2 HB2 HBA
          go_loopw [8, 9] (fun h i wr => B3Rel w2 F M h i wr) (fun _ i _ => 64 * M - (intOf i).toNat)
          case atStart => exact HST3.out
          case round =>
            obtain ⟨k, g, hkM, rfl, rfl, hrow, hb⟩ := hrel
            have HR := Lib.hid hrow
            have HB := Lib.hid hb
            clear HST3 hrow hb
            obtain ⟨I, hI⟩ : ∃ I, I = 64 * k := ⟨_, rfl⟩
            rw [← hI]
            have HII := Lib.hid hI
            by_cases hlt : k < M
            · have hIS : I + 64 ≤ S := by have := HMM.out; omega
              have hIc : I + 64 ≤ cb := by have := HCB.out; omega
              clear hI
              go_wp2_with fail
              obtain ⟨V, hV⟩ : ∃ V, V = Sm.blocks F Sm.first k := ⟨_, rfl⟩
              have hVo : V.ok := by rw [hV]; exact Sm.blocks_ok Sm.first_ok k
              have hr := HR.out
              rw [← hV] at hr
              have hgr : g < wr.heap.size := (Array.getElem?_eq_some_iff.1 hr).1
              have hba : bytesAt wr gb I (F.drop I) := fun i hi => by
                have := (HBA2.out.drop I) i hi
                rw [Nat.zero_add] at this
                exact (HB.out.cell (p := ⟨gb, I + i, none⟩) HGB.out).trans this
              have hkk : wr.heap[gk]? = some (.cells (u32s Sm.ks) 123 (0, 0)) := (HB.out.block gk (Array.getElem?_eq_some_iff.1 HK2.out).1).trans HK2.out
              refine (refturn_any V hVo (F.drop I) Sm.ks (Sm.allB_drop HFO.out I) Sm.ks_ok (by rw [List.length_drop, ← HFL.out]; omega) rfl g gb I (cb - I) gk (by omega) wr hr hba hkk).mono ?_
              rintro e w5 ⟨g5, rfl, hr5, hg5, hb5⟩
              have HR5 := Lib.hid hr5
              have HB5 := Lib.hid hb5
              have HV := Lib.hid hV
              clear hr5 hb5 hV hr hba hkk
              go_wp2_with fail
              go_roundw
              case rel =>
                refine ⟨k + 1, g5, by omega, by rw [show (((64 * (k + 1) : Nat) : Int)) = (I : Int) + 64 from by have := HII.out; omega], rfl, ?_, HB.out.trans (HB5.out.mono HB.out.size)⟩
                rw [Sm.blocks, ← HV.out, ← HII.out]
                exact HR5.out
              case measure => have := HII.out; have := HMM.out; simp [intOf]; omega
            · have hIS : I = S := by have := HMM.out; omega
              clear hI
              have hz := HZ.out
              go_wp2_with fail
              obtain ⟨w3, hw3⟩ : ∃ w3, w3 = wr := ⟨_, rfl⟩
              rw [← hw3] at HR HB ⊢
              obtain ⟨V, hV⟩ : ∃ V, V = Sm.blocks F Sm.first k := ⟨_, rfl⟩
              have hVo : V.ok := by rw [hV]; exact Sm.blocks_ok Sm.first_ok k
              have hr := HR.out
              rw [← hV] at hr
              have hsum : Sm.bytesOf V = Sm.sum T := by
                rw [hV, Sm.sum, ← HF.out, ← HFL.out, HMM.out, Nat.mul_div_cancel_left M (by omega), show k = M from by omega]
              have HR3 := Lib.hid hr
              have HGR := Lib.hid (Array.getElem?_eq_some_iff.1 hr).1
              have HVO := Lib.hid hVo
              have HSUM := Lib.hid hsum
              have hst4 : B4Rel w3 V (.int .i64 0) (w3.alloc (.cells (u8s (zeros 32)) 37)) := ⟨0, by omega, rfl, heap_alloc_new w3 _, (Below.refl _ _).alloc (Nat.le_refl _) _⟩
              have HST4 := Lib.hid hst4
              clear hw3 hV hr hVo hsum hst4 hz HR
              go_loopw [11] (fun i wr => B4Rel w3 V i wr) (fun i _ => 32 - (intOf i).toNat)
              case atStart => exact HST4.out
              case round =>
                obtain ⟨k4, hk4, rfl, hrow, hb4⟩ := hrel
                have HR4 := Lib.hid hrow
                have HB4 := Lib.hid hb4
                clear hrow hb4 HST4
                by_cases hlt4 : k4 < 32
                · obtain ⟨a, ha⟩ : ∃ a, a = k4 / 4 := ⟨_, rfl⟩
                  obtain ⟨r, hr⟩ : ∃ r, r = k4 % 4 := ⟨_, rfl⟩
                  have hqa : (k4 : Int) / 4 = (a : Int) := by omega
                  have hqr : (k4 : Int) % 4 = (r : Int) := by omega
                  have ha8 : a < 8 := by omega
                  have hr4 : r < 4 := by omega
                  have hbk := bytes_at V a r ha8 hr4
                  rw [show 4 * a + r = k4 from by omega] at hbk
                  have cx : wr.cell? ⟨g, a, none⟩ = some (.int .u32 (V.list.getD a 0 : Nat)) := (HB4.out.cell (p := ⟨g, a, none⟩) HGR.out).trans (u32s_cell HR3.out a ha8)
                  have bx : V.list.getD a 0 < 4294967296 := v8_lt HVO.out a
                  obtain ⟨x, hx⟩ : ∃ x, x = V.list.getD a 0 := ⟨_, rfl⟩
                  rw [← hx] at cx bx hbk
                  obtain ⟨y, hy⟩ : ∃ y, y = x / 2 ^ (24 - 8 * r) := ⟨_, rfl⟩
                  have hsh : (x : Int) / 2 ^ (24 - 8 * r) = (y : Int) := by rw [hy, Int.natCast_ediv, Int.natCast_pow]; rfl
                  rw [← hy] at hbk
                  have htk : ((Sm.bytesOf V).take k4).length = k4 := by rw [List.length_take]; exact Nat.min_eq_left (Nat.le_of_lt hlt4)
                  have hrw := HR4.out
                  rw [show 32 - k4 = (32 - (k4 + 1)) + 1 from by omega, zeros_succ (Nat.succ_pos _), Nat.succ_sub_one] at hrw
                  have ck : wr.cell? ⟨w3.heap.size, k4, none⟩ = some (.int .u8 (((Sm.bytesOf V).take k4 ++ 0 :: zeros (32 - (k4 + 1))).getD k4 0 : Nat)) := u8s_cell hrw k4 (by rw [List.length_append, htk]; simp)
                  have fk : wr.frozen? ⟨w3.heap.size, k4, none⟩ = false := frozen_of_row wr _ k4 _ _ hrw
                  have hsucc : (Sm.bytesOf V).take (k4 + 1) = (Sm.bytesOf V).take k4 ++ [y % 256] := by
                    rw [List.take_succ_eq_append_getElem (show k4 < (Sm.bytesOf V).length from hlt4), ← hbk, List.getD_eq_getElem?_getD, List.getElem?_eq_getElem (show k4 < (Sm.bytesOf V).length from hlt4)]; rfl
                  have HRW := Lib.hid hrw
                  have HTK := Lib.hid htk
                  have HSU := Lib.hid hsucc
                  have k0 : (0 : Int) ≤ k4 := by omega
                  clear hx hy ha hr hbk htk hrw hsucc HR4
                  go_wp2_with fail
                  go_roundw
                  case rel =>
                    refine ⟨k4 + 1, by omega, by go_num, ?_, HB4.out.setCell (Nat.le_refl _) _⟩
                    rw [show (y : Int) % 256 = ((y % 256 : Nat) : Int) from by omega, heap_setCell_same _ _ _ _ _ _ HRW.out, u8s_set _ _ _ _ k4 HTK.out, HSU.out, List.append_assoc]
                    rfl
                  case measure => simp [intOf]; omega
                · obtain rfl : k4 = 32 := by omega
                  have hrow : wr.heap[w3.heap.size]? = some (.cells (u8s (Sm.bytesOf V)) 37 (0, 0)) := HR4.out
                  have HR5 := Lib.hid hrow
                  have hg3 : gd < w3.heap.size := Nat.lt_of_lt_of_le (Array.getElem?_eq_some_iff.1 HG2.out).1 HB.out.size
                  have HC := Lib.hid (show wr.heap[gd]? = some (.cells (u8s (zeros 32)) 37 (0, 0)) from (HB4.out.block gd hg3).trans ((HB.out.block gd (Array.getElem?_eq_some_iff.1 HG2.out).1).trans HG2.out))
                  have hbw : Below w.heap.size w wr := by
                    have h3 : Below W0.heap.size W0 w3 := HB2'.out.trans (HB.out.mono HB2'.out.size)
                    have h4 : Below W0.heap.size W0 wr := h3.trans (HB4.out.mono h3.size)
                    exact HB0.out.trans (h4.mono HB0.out.size)
                  have HBW := Lib.hid hbw
                  clear hrow hg3 hbw HR4
                  go_wp2_with (first | (refine wpList_load_row (by rfl) 37 _ (by rfl) w3.heap.size (by rfl) 37 _ (0, 0) _ HR5.out A25 (by rfl) (by exact S25) ?_) | (refine wpList_store_row (by rfl) 37 _ _ (by rfl) gd (u8s (Sm.bytesOf V)) (by rfl) (by rfl) _ _ HC.out (by exact S25) (by rfl) (u8s_one _) ?_))
                  refine ret_row 4 (by kernel_rfl) gd _ _ A25 S25 rfl (setRow_heap _ _ _ _ _ _ HC.out) rfl ⟨by rw [← HSUM.out], ?_⟩
                  exact Below.setRow HBW.out (by rw [HGD.out]; exact Nat.le_refl _) _
end Go.Proofs.YtfkpgildeddhaaaGreat

/- The contract of indentureref01.Sum. -/
namespace Go.Proofs.YtfkpgildeddhaaaGreat
open Go.RowKit

set_option maxRecDepth 100000 in
set_option maxHeartbeats 1000000 in
theorem refsum_any (T : List Nat) (p : Option Addr) (n c : Nat) (w : World) (hT : Tx w p n c T) (hl : T.length < 1000000) :
    Calls Tryz.prog 70 #[.slice p n c] w fun e w' => e = .returned (.agg (u8s (Sm.sum T))) ∧ Below w.heap.size w w' := by
  have hz := (zero_of_info Z25).1
  have HT := Lib.hid hT
  clear hT
  go_enter Tryz.func70, Tryz.ntmps70
  go_wp2_with fail
  have hb0 : Below w.heap.size w (w.alloc (.cells (u8s (zeros 32)) 37)) := (Below.refl _ _).alloc (Nat.le_refl _) _
  have hg0 := heap_alloc_new w (.cells (u8s (zeros 32)) 37)
  generalize hW0 : w.alloc (.cells (u8s (zeros 32)) 37) = W0 at hb0 hg0 ⊢
  have HT0 := Lib.hid (HT.out.later hb0)
  have HB0 := Lib.hid hb0
  have HG0 := Lib.hid hg0
  clear hW0 hb0 hg0 HT hz
  refine (words_any W0).mono ?_
  rintro _ w1 ⟨rfl, rfl⟩
  have hb1 : Below W0.heap.size W0 (W0.alloc (.cells (u32s Sm.ks) 123)) := (Below.refl _ _).alloc (Nat.le_refl _) _
  have hg1 := heap_alloc_new W0 (.cells (u32s Sm.ks) 123)
  obtain ⟨w1, hw1⟩ : ∃ w1, w1 = W0.alloc (.cells (u32s Sm.ks) 123) := ⟨_, rfl⟩
  rw [← hw1] at hb1 hg1 ⊢
  have HT1 := Lib.hid (HT0.out.later hb1)
  have HB1 := Lib.hid (HB0.out.trans (hb1.mono HB0.out.size))
  have HG1 := Lib.hid ((hb1.block _ (Array.getElem?_eq_some_iff.1 HG0.out).1).trans HG0.out)
  have HK1 := Lib.hid hg1
  clear hw1 hb1 hg1 HT0
  go_wp2_with fail
  refine (with_any T p n c W0.heap.size w1 HT1.out hl HK1.out).mono ?_
  rintro _ w2 ⟨rfl, hb2⟩
  have HB2 := Lib.hid (HB1.out.trans (hb2.mono HB1.out.size))
  have HG2 := Lib.hid ((hb2.block _ (Array.getElem?_eq_some_iff.1 HG1.out).1).trans HG1.out)
  clear hb2 HT1 HK1
  go_wp2_with (refine wpList_store_row (by rfl) 37 _ _ (by rfl) w.heap.size (u8s (Sm.sum T)) (by rfl) (by rfl) _ _ HG2.out (by exact S25) (by rfl) (u8s_one _) ?_)
  refine ret_row 2 (by kernel_rfl) w.heap.size _ _ A25 S25 rfl (setRow_heap _ _ _ _ _ _ HG2.out) rfl ⟨rfl, ?_⟩
  exact Below.setRow HB2.out (Nat.le_refl _) _
end Go.Proofs.YtfkpgildeddhaaaGreat

/- The reference's sum of a page. -/
namespace Go.Proofs.YtfkpgildeddhaaaGreat.Pg
open Go.RowKit

set_option maxRecDepth 100000 in
set_option maxHeartbeats 1000000 in
theorem rsum_any (b : List Nat) (p : Option Addr) (n c : Nat) (w : World) (hT : Tx w p n c b) (hn : n ≤ 100000) :
    Calls Tryz.prog 45 #[.slice p n c] w fun e w' => e = .returned (.agg (u8s (sumOf b))) ∧ Below w.heap.size w w' := by
  have HT := Lib.hid hT
  have hz := (zero_of_info Z25).1
  have h0 := (Below.refl w.heap.size w).alloc (Nat.le_refl _) (.cells (u8s (zeros 32)) 37)
  have hb := (Below.refl (w.alloc (.cells (u8s (zeros 32)) 37)).heap.size (w.alloc (.cells (u8s (zeros 32)) 37))).alloc (Nat.le_refl _) (.cells #[.slice p n c] 22)
  have TX := Lib.hid (one_text (heap_alloc_new (w.alloc (.cells (u8s (zeros 32)) 37)) (.cells #[.slice p n c] 22)) ((hT.later h0).later hb))
  have B1 := Lib.hid (h0.trans (hb.mono h0.size))
  have HR := Lib.hid ((heap_alloc_old (w.alloc (.cells (u8s (zeros 32)) 37)) (.cells #[.slice p n c] 22) (Array.getElem?_eq_some_iff.1 (heap_alloc_new w (.cells (u8s (zeros 32)) 37))).1).trans (heap_alloc_new w (.cells (u8s (zeros 32)) 37)))
  have HL := Lib.hid hT.size
  have HPL := Lib.hid (show (pre 80 [b]).length < 1000000 from by have := hT.size; rw [pre_one]; omega)
  clear hT hb h0
  go_enter Tryz.func45, Tryz.ntmps45
  go_wp2_with fail
  rw [show (w.alloc (.cells (u8s (zeros 32)) 37)).heap.size = w.heap.size + 1 from by simp] at TX
  generalize (w.alloc (.cells (u8s (zeros 32)) 37)).alloc (.cells #[.slice p n c] 22) = w1 at *
  refine (refpre_any 80 (by omega) [b] _ 1 1 w1 TX.out (by have := HL.out; rw [tot_one]; omega)).mono ?_
  rintro e w2 ⟨q, m, d, rfl, o2, b2⟩
  have T2 := Lib.hid (tx_of_owns o2 (pre_ok 80 (by omega) (fun x hx => by rw [List.mem_singleton.1 hx]; exact HT.out.ok)))
  have B2 := Lib.hid (B1.out.trans (b2.mono B1.out.size))
  have R2 := Lib.hid ((b2.block _ (Array.getElem?_eq_some_iff.1 HR.out).1).trans HR.out)
  clear o2 b2
  go_wp2_with fail
  refine (refsum_any (pre 80 [b]) q m d w2 T2.out HPL.out).mono ?_
  rintro e w3 ⟨rfl, b3⟩
  have B3 := Lib.hid (B2.out.trans (b3.mono B2.out.size))
  have R3 := Lib.hid ((b3.block _ (Array.getElem?_eq_some_iff.1 R2.out).1).trans R2.out)
  obtain ⟨D, hD⟩ : ∃ D, D = sumOf b := ⟨_, rfl⟩
  rw [show Sm.sum (pre 80 [b]) = D from hD.symm]
  have HDH := Lib.hid (show D.length = 32 from by rw [hD]; rfl)
  have HDE := Lib.hid hD
  clear b3 hD
  go_wp2_with (refine wpList_store_row (by rfl) 37 _ _ (by rfl) w.heap.size (u8s D) (by rfl) (by rfl) _ _ R3.out (by rw [u8s_size, HDH.out]; exact S25) (by rw [u8s_size, u8s_size, HDH.out]; rfl) (u8s_one _) ?_)
  exact ret_row 2 (by kernel_rfl) w.heap.size _ _ A25 S25 rfl (setRow_heap _ _ _ _ _ _ R3.out) (by rw [u8s_size]; exact HDH.out) ⟨by rw [HDE.out], Below.setRow B3.out (Nat.le_refl _) _⟩
end Go.Proofs.YtfkpgildeddhaaaGreat.Pg
