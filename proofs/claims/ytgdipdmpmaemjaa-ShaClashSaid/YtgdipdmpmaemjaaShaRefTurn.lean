/- The contracts of indentureref01.turned, Words and turn. -/
import Derived.Test.YtgdipdmpmaemjaaShaEq
import Derived.Test.YtgdipdmpmaemjaaShaWrite
namespace Go.Proofs.Ytgdipdmpmaemjaa
open Go.RowKit

set_option maxHeartbeats 1000000 in
theorem turned_any (x n : Nat) (hx : x < 4294967296) (hn : 0 < n) (hn' : n < 32) (w : World) :
    Calls Try.prog 34 #[.int .u32 x, .int .u64 n] w fun e w' => e = .returned (.int .u32 (Sm.rot n x)) ∧ w' = w := by
  have h1 : (0 : Int) ≤ n := by omega
  have h2 : (n : Int) ≤ 32 := by omega
  have h3 : (0 : Int) ≤ 32 - n := by omega
  have h4 : (32 - n : Int) ≤ 32 := by omega
  go_enter Try.func34, Try.ntmps34
  go_wp2
  go_ret
  refine ⟨ret_u32 ?_, rfl⟩
  have e1 : (x : Int) * 2 ^ (32 - n) % 4294967296 = ((x * 2 ^ (32 - n) % 4294967296 : Nat) : Int) := by
    rw [Int.natCast_emod, Int.natCast_mul, Int.natCast_pow]; rfl
  have e2 : (x : Int) / 2 ^ n = ((x / 2 ^ n : Nat) : Int) := by
    rw [Int.natCast_ediv, Int.natCast_pow]; rfl
  rw [e1, e2, u32_or_nat _ _ (Nat.lt_of_le_of_lt (Nat.div_le_self _ _) hx) (Nat.mod_lt _ (by omega))]
  rw [Nat.or_comm]
  rfl
theorem turned2 (x : Nat) (hx : x < 4294967296) (w : World) : Calls Try.prog 34 #[.int .u32 x, .int .u64 2] w fun e w' => e = .returned (.int .u32 (Sm.rot 2 x)) ∧ w' = w := turned_any x 2 hx (by omega) (by omega) w
theorem turned6 (x : Nat) (hx : x < 4294967296) (w : World) : Calls Try.prog 34 #[.int .u32 x, .int .u64 6] w fun e w' => e = .returned (.int .u32 (Sm.rot 6 x)) ∧ w' = w := turned_any x 6 hx (by omega) (by omega) w
theorem turned7 (x : Nat) (hx : x < 4294967296) (w : World) : Calls Try.prog 34 #[.int .u32 x, .int .u64 7] w fun e w' => e = .returned (.int .u32 (Sm.rot 7 x)) ∧ w' = w := turned_any x 7 hx (by omega) (by omega) w
theorem turned11 (x : Nat) (hx : x < 4294967296) (w : World) : Calls Try.prog 34 #[.int .u32 x, .int .u64 11] w fun e w' => e = .returned (.int .u32 (Sm.rot 11 x)) ∧ w' = w := turned_any x 11 hx (by omega) (by omega) w
theorem turned13 (x : Nat) (hx : x < 4294967296) (w : World) : Calls Try.prog 34 #[.int .u32 x, .int .u64 13] w fun e w' => e = .returned (.int .u32 (Sm.rot 13 x)) ∧ w' = w := turned_any x 13 hx (by omega) (by omega) w
theorem turned17 (x : Nat) (hx : x < 4294967296) (w : World) : Calls Try.prog 34 #[.int .u32 x, .int .u64 17] w fun e w' => e = .returned (.int .u32 (Sm.rot 17 x)) ∧ w' = w := turned_any x 17 hx (by omega) (by omega) w
theorem turned18 (x : Nat) (hx : x < 4294967296) (w : World) : Calls Try.prog 34 #[.int .u32 x, .int .u64 18] w fun e w' => e = .returned (.int .u32 (Sm.rot 18 x)) ∧ w' = w := turned_any x 18 hx (by omega) (by omega) w
theorem turned19 (x : Nat) (hx : x < 4294967296) (w : World) : Calls Try.prog 34 #[.int .u32 x, .int .u64 19] w fun e w' => e = .returned (.int .u32 (Sm.rot 19 x)) ∧ w' = w := turned_any x 19 hx (by omega) (by omega) w
theorem turned22 (x : Nat) (hx : x < 4294967296) (w : World) : Calls Try.prog 34 #[.int .u32 x, .int .u64 22] w fun e w' => e = .returned (.int .u32 (Sm.rot 22 x)) ∧ w' = w := turned_any x 22 hx (by omega) (by omega) w
theorem turned25 (x : Nat) (hx : x < 4294967296) (w : World) : Calls Try.prog 34 #[.int .u32 x, .int .u64 25] w fun e w' => e = .returned (.int .u32 (Sm.rot 25 x)) ∧ w' = w := turned_any x 25 hx (by omega) (by omega) w
theorem A50 : Try.prog.underlying 50 = some (.slice 31) := by kernel_rfl
theorem I31 : (Try.prog.info? 31).map (fun i => (i.zero, i.size, i.bytes)) = some (some (.int .u32 0), 1, 4) := by kernel_rfl
set_option maxRecDepth 100000 in
set_option maxHeartbeats 1000000 in
theorem words_any (w : World) :
    Calls Try.prog 22 #[] w fun e w' => e = .returned (.slice (some ⟨w.heap.size, 0, none⟩) 64 64) ∧ w.alloc (.cells (u32s Sm.ks) 31) = w' := by
  go_enter Try.func22, Try.ntmps22
  go_wp2
  go_ret
  exact ⟨rfl, rfl⟩
theorem make64 (w : World) : (Instr.makeSlice 50 (.int .i64 64) (.int .i64 64)).run Try.prog w = .ok (.slice (some ⟨w.heap.size, 0, none⟩) 64 64) (w.alloc (.cells (u32s (zeros 64)) 31)) := by kernel_rfl
/-- A word of which n bytes are there. -/
def pw (B : List Nat) (i : Nat) : Nat → Nat
  | 0 => 0
  | n + 1 => 256 * pw B i n + B.getD (4 * i + n) 0
theorem pw_lt {B : List Nat} (h : Sm.allB B) (i : Nat) : ∀ n, pw B i n < 256 ^ n
  | 0 => by simp [pw]
  | n + 1 => by
    have h1 := pw_lt h i n
    have h2 := Sm.getD_lt h (by omega) (4 * i + n)
    rw [pw, Nat.pow_succ]
    omega
theorem pw_word (B : List Nat) (i : Nat) : pw B i 4 = Sm.word B i := by
  simp only [pw, Sm.word, Nat.add_zero]
  omega
/-- What holds of the words that are being made. -/
structure RW (w wr : World) (g : Nat) (l : List Nat) : Prop where
  below : Below w.heap.size w wr
  row : wr.heap[g]? = some (.cells (u32s l) 31 (0, 0))
  lg : w.heap.size ≤ g
theorem RW.store {w wr : World} {g : Nat} {p q : List Nat} {y : Nat} (h : RW w wr g (p ++ y :: q)) (k : Nat) (hk : p.length = k) (x : Nat) : RW w (wr.setCell ⟨g, k, none⟩ (.int .u32 (x : Nat))) g (p ++ x :: q) :=
  ⟨h.below.setCell h.lg _, by rw [heap_setCell_same _ _ _ _ _ _ h.row, u32s_set p q y x k hk], h.lg⟩
theorem RW.drewN {w wr : World} {g : Nat} {l : List Nat} (h : RW w wr g l) (n : Nat) : RW w (wr.drewN n) g l := ⟨Below.drewN h.below n, h.row, h.lg⟩
def R1Rel (w : World) (g : Nat) (B : List Nat) (i : Value) (wr : World) : Prop := ∃ k : Nat, k ≤ 16 ∧ i = .int .i64 k ∧ RW w wr g (Sm.words B k ++ zeros (64 - k))
def R2Rel (w : World) (g : Nat) (B : List Nat) (k : Nat) (n : Value) (wr : World) : Prop := ∃ m : Nat, m ≤ 4 ∧ n = .int .i64 m ∧ RW w wr g (Sm.words B k ++ pw B k m :: zeros (63 - k))
def R3Rel (w : World) (g : Nat) (B : List Nat) (i : Value) (wr : World) : Prop := ∃ k : Nat, k ≤ 48 ∧ i = .int .i64 (k + 16 : Nat) ∧ RW w wr g (Sm.more (Sm.words B 16) k ++ zeros (48 - k))
theorem slice_of_own32 {w : World} {base n : Nat} {v : Value} {xs : List Value} (h : w.ownsRow base 31 1 v n xs) : ∃ q c, v = .slice q n c := by
  rcases h.2 with ⟨rfl, rfl⟩ | ⟨g, cap, cur, rfl, _⟩
  · exact ⟨_, _, rfl⟩
  · exact ⟨_, _, rfl⟩
theorem own32_some {w : World} {base n c : Nat} {q : Option Addr} {xs : List Value} (h : w.ownsRow base 31 1 (.slice q n c) n xs) (hq : Value.slice q n c ≠ .slice none 0 0) :
    ∃ g C, q = some ⟨g, 0, none⟩ ∧ base ≤ g ∧ w.heap[g]? = some (.cells C 31 (0, 0)) ∧ n ≤ c ∧ C.toList.take n = xs := by
  rcases h.2 with ⟨h1, _⟩ | ⟨g, cap, cur, h1, hg, hh, hle, _, _, ht⟩
  · exact absurd h1 hq
  · simp at h1
    obtain ⟨rfl, rfl⟩ := h1
    rw [Nat.mul_one] at ht
    exact ⟨g, cur, rfl, hg, hh, hle, ht⟩
theorem ch_sub {e f g : Nat} (he : e < 4294967296) (hf : f < 4294967296) (hg : g < 4294967296) : bits .xor .u32 (bits .and .u32 (e : Nat) (f : Nat)) (bits .and .u32 (4294967295 - (e : Int)) (g : Nat)) = ((Sm.ch e f g : Nat) : Int) := by
  rw [show 4294967295 - (e : Int) = ((4294967295 - e : Nat) : Int) from by omega, u32_and_nat _ _ he hf, u32_and_nat _ _ (by omega) hg, u32_xor_nat _ _ (Sm.and_lt hf) (Sm.and_lt hg)]; rfl
theorem one_int {h e : Nat} (he : e < 4294967296) {c k w : Nat} : (((h : Nat) + bits .xor .u32 (bits .xor .u32 (Sm.rot 6 e : Nat) (Sm.rot 11 e : Nat)) (Sm.rot 25 e : Nat) + (c : Nat) + (k : Nat)) % 4294967296 + (w : Nat)) % 4294967296 = (((h + Sm.b1 e + c + k + w) % 4294967296 : Nat) : Int) := by
  rw [Sm.b1_int he]; omega
theorem two_int {a m : Nat} (ha : a < 4294967296) : (bits .xor .u32 (bits .xor .u32 (Sm.rot 2 a : Nat) (Sm.rot 13 a : Nat)) (Sm.rot 22 a : Nat) + (m : Nat)) % 4294967296 = (((Sm.b0 a + m) % 4294967296 : Nat) : Int) := by
  rw [Sm.b0_int ha]; omega
theorem add8_get (v u : Sm.V8) (k : Nat) (hk : k < 8) : (Sm.add8 v u).list.getD k 0 = (v.list.getD k 0 + u.list.getD k 0) % 4294967296 := by
  match k, hk with
  | 0, _ => rfl
  | 1, _ => rfl
  | 2, _ => rfl
  | 3, _ => rfl
  | 4, _ => rfl
  | 5, _ => rfl
  | 6, _ => rfl
  | 7, _ => rfl
theorem v8_all {v : Sm.V8} (h : v.ok) : Sm.allW v.list := by
  obtain ⟨h1, h2, h3, h4, h5, h6, h7, h8⟩ := h
  intro x hx
  simp only [Sm.V8.list, List.mem_cons, List.not_mem_nil, or_false] at hx
  rcases hx with rfl | rfl | rfl | rfl | rfl | rfl | rfl | rfl <;> assumption
theorem v8_lt {v : Sm.V8} (h : v.ok) (k : Nat) : v.list.getD k 0 < 4294967296 := Sm.getD_lt (v8_all h) (by omega) k
def R5Rel (w : World) (v U : Sm.V8) (g : Nat) (i : Value) (wr : World) : Prop :=
  ∃ k : Nat, k ≤ 8 ∧ i = .int .i64 k ∧ wr.heap[g]? = some (.cells (u32s ((Sm.add8 v U).list.take k ++ U.list.drop k)) 31 (0, 0)) ∧ Below w.heap.size w wr
def R4Rel (w : World) (K W : List Nat) (v : Sm.V8) (s i : Value) (wr : World) : Prop :=
  ∃ (k g c : Nat) (C : Array Value), k ≤ 64 ∧ i = .int .i64 k ∧ s = .slice (some ⟨g, 0, none⟩) 8 c ∧ 8 ≤ c ∧ wr.heap[g]? = some (.cells C 31 (0, 0)) ∧ C.toList.take 8 = w32 (Sm.rounds K W v k).list ∧
    (0 < k → c = 8 ∧ C = u32s (Sm.rounds K W v k).list) ∧ w.heap.size < g ∧ RW w wr w.heap.size W
/-- A callee that leaves the world alone, called behind draws. -/
theorem calls_later {f : FuncId} {args : Array Value} {w : World} {a n : Nat} {v : Value} (h : Calls Try.prog f args (w.drewN (a + n)) fun e w' => e = .returned v ∧ w' = w.drewN (a + n)) :
    Calls Try.prog f args (w.drewN (a + n)) fun e w' => e = .returned v ∧ ∃ m, w' = w.drewN (a + m) := by
  refine h.mono fun e w' hw => ⟨hw.1, n, hw.2⟩
set_option maxRecDepth 100000 in
set_option maxHeartbeats 4000000 in
theorem refturn_any (v : Sm.V8) (hv : v.ok) (B K : List Nat) (hB : Sm.allB B) (hK : Sm.allW K) (lB : 64 ≤ B.length) (lK : K.length = 64) (gh gb ob cb gk : Nat) (_hcb : 64 ≤ cb) (w : World)
    (hh : w.heap[gh]? = some (.cells (u32s v.list) 31 (0, 0))) (hb : bytesAt w gb ob B) (hk : w.heap[gk]? = some (.cells (u32s K) 31 (0, 0))) :
    Calls Try.prog 30 #[.slice (some ⟨gh, 0, none⟩) 8 8, .slice (some ⟨gb, ob, none⟩) 64 cb, .slice (some ⟨gk, 0, none⟩) 64 64] w
      fun e w' => ∃ g, e = .returned (.slice (some ⟨g, 0, none⟩) 8 8) ∧ w'.heap[g]? = some (.cells (u32s (Sm.turn K (Sm.sched B) v).list) 31 (0, 0)) ∧ w.heap.size ≤ g ∧ Below w.heap.size w w' := by
  have HH := Lib.hid hh
  have HB := Lib.hid hb
  have HK := Lib.hid hk
  have HBO := Lib.hid hB
  have HKO := Lib.hid hK
  have LB := Lib.hid lB
  have LK := Lib.hid lK
  have HV := Lib.hid hv
  clear hh hb hk hB hK lB lK hv
  have mk := fun w => make64 w
  go_enter Try.func30, Try.ntmps30
  go_wp2_with fail
  have h0 : RW w (w.alloc (.cells (u32s (zeros 64)) 31)) w.heap.size (zeros 64) := ⟨(Below.refl _ _).alloc (Nat.le_refl _) _, heap_alloc_new w _, Nat.le_refl _⟩
  have H0 := Lib.hid h0
  clear h0 mk
  go_loopw [8, 9] (fun i _ wr => R1Rel w w.heap.size B i wr) (fun i _ _ => 16 - (intOf i).toNat)
  case atStart => exact ⟨0, by omega, rfl, H0.out⟩
  case round =>
    obtain ⟨k, hk, rfl, hs⟩ := hrel
    have HS := Lib.hid hs
    clear hs H0
    by_cases hlt : k < 16
    · have hkd : decide ((k : Int) < 16) = true := decide_eq_true (by omega)
      go_wp2_with fail
      obtain ⟨wo, rfl⟩ : ∃ wo : World, wo = wr := ⟨_, rfl⟩
      go_loopw [9] (fun n wr => R2Rel w w.heap.size B k n wr) (fun n _ => 4 - (intOf n).toNat)
      case atStart =>
        refine ⟨0, by omega, rfl, ?_⟩
        have := HS.out
        rw [zeros_succ (show 0 < 64 - k from by omega), show 64 - k - 1 = 63 - k from by omega] at this
        exact this
      case round =>
        obtain ⟨m, hm, rfl, hs2⟩ := hrel
        have HS2 := Lib.hid hs2
        clear hs2
        by_cases hlm : m < 4
        · have hc1 : wr.cell? ⟨w.heap.size, k, none⟩ = some (.int .u32 (pw B k m : Nat)) := by
            have := u32s_cell HS2.out.row k (by simp [Sm.length_words])
            rw [List.getD_eq_getElem?_getD, List.getElem?_append_right (by rw [Sm.length_words]; exact Nat.le_refl _), Sm.length_words, Nat.sub_self] at this
            exact this
          have hf1 : wr.frozen? ⟨w.heap.size, k, none⟩ = false := frozen_of_row wr _ k _ _ HS2.out.row
          have hbl : gb < w.heap.size := block_lt_of_cell (HB.out 0 (by have := LB.out; omega))
          have hc2 : wr.cell? ⟨gb, ob + (4 * k + m), none⟩ = some (.int .u8 (B.getD (4 * k + m) 0 : Nat)) := (HS2.out.below.cell (p := ⟨gb, ob + (4 * k + m), none⟩) hbl).trans (HB.out _ (by have := LB.out; omega))
          have hpl : pw B k m < 16777216 := Nat.lt_of_lt_of_le (pw_lt HBO.out k m) (Nat.le_trans (Nat.pow_le_pow_right (by omega) (show m ≤ 3 from by omega)) (by decide))
          have hbb : B.getD (4 * k + m) 0 < 256 := Sm.getD_lt HBO.out (by omega) _
          obtain ⟨P, hP⟩ : ∃ P, P = pw B k m := ⟨_, rfl⟩
          obtain ⟨b, hbd⟩ : ∃ b, b = B.getD (4 * k + m) 0 := ⟨_, rfl⟩
          rw [← hP] at hc1 hpl
          rw [← hbd] at hc2 hbb
          have HP := Lib.hid hP
          have HBD := Lib.hid hbd
          have hk0 : (0 : Int) ≤ k := by omega
          have hk1 : (k : Int) < 64 := by omega
          have q1 : IntKind.i64.wrap (4 * (k : Int)) = 4 * (k : Int) := IntWalk.i64_in _ (by omega)
          have q2 : IntKind.i64.wrap (4 * (k : Int) + m) = 4 * (k : Int) + m := IntWalk.i64_in _ (by omega)
          have q3 : (0 : Int) ≤ 4 * (k : Int) + m := by omega
          have q4 : 4 * (k : Int) + m < 64 := by omega
          have q5 : (4 * (k : Int) + m).toNat = 4 * k + m := by omega
          have q6 : IntKind.u32.wrap (256 * (P : Int)) = 256 * (P : Int) := by rw [IntKind.wrap_u32']; omega
          have q7 : IntKind.u32.wrap (256 * (P : Int) + b) = 256 * (P : Int) + b := by rw [IntKind.wrap_u32']; omega
          clear hP hbd hbl
          go_wp2_with fail
          go_still_tail 17, (by kernel_rfl)
          go_wp2_with fail
          go_roundw
          case rel =>
            have hst : pw B k (m + 1) = 256 * P + b := by rw [pw, ← HP.out, ← HBD.out]
            refine ⟨m + 1, by omega, by go_num, ?_⟩
            rw [hst, show 256 * (P : Int) + (b : Int) = ((256 * P + b : Nat) : Int) from by omega]
            have h2 := HS2.out
            rw [← HP.out] at h2
            exact (h2.store k (Sm.length_words B k) (256 * P + b)).drewN 1
          case measure => simp [intOf]; omega
        · obtain rfl : m = 4 := by omega
          go_wp2_with fail
          go_roundw
          case rel =>
            refine ⟨k + 1, by omega, by go_num, ?_⟩
            have := HS2.out
            rw [pw_word] at this
            rw [Sm.words, List.append_assoc, show 64 - (k + 1) = 63 - k from by omega]
            exact this
          case measure => simp [intOf]; omega
    · have hk16 : k = 16 := by omega
      have hkd : decide ((k : Int) < 16) = false := decide_eq_false (by omega)
      have hs3 : R3Rel w w.heap.size B (.int .i64 16) wr := by
        have := HS.out
        rw [hk16] at this
        exact ⟨0, by omega, rfl, this⟩
      have HS3 := Lib.hid hs3
      clear hs3 HS hk16
      obtain ⟨kk, hkk⟩ : ∃ kk : Int, kk = (k : Int) := ⟨_, rfl⟩
      rw [← hkk] at hkd ⊢
      clear hkk hk hlt
      go_wp2_with fail
      go_loopw [10, 11, 12] (fun i _ _ wr => R3Rel w w.heap.size B i wr) (fun i _ _ _ => 64 - (intOf i).toNat)
      case atStart => exact HS3.out
      case round =>
        obtain ⟨k, hk, rfl, hs⟩ := hrel
        have HS2 := Lib.hid hs
        clear hs HS3
        obtain ⟨j, hj⟩ : ∃ j, j = k + 16 := ⟨_, rfl⟩
        rw [← hj]
        by_cases hlt : k < 48
        · obtain ⟨l, hl⟩ : ∃ l, l = Sm.more (Sm.words B 16) k := ⟨_, rfl⟩
          have hll : l.length = j := by rw [hl, Sm.length_more, Sm.length_words]; omega
          have hlw : Sm.allW l := by rw [hl]; exact Sm.more_ok (Sm.words_ok HBO.out 16) k
          have hs2 := HS2.out
          rw [← hl] at hs2
          have cell : ∀ i, i < j → wr.cell? ⟨w.heap.size, i, none⟩ = some (.int .u32 (l.getD i 0 : Nat)) := fun i hi => by
            have := u32s_cell hs2.row i (by rw [List.length_append, hll]; omega)
            rw [getD_left _ _ (by omega)] at this
            exact this
          have g0 := cell (j - 16) (by omega)
          have g1 := cell (j - 15) (by omega)
          have g9 := cell (j - 7) (by omega)
          have g14 := cell (j - 2) (by omega)
          have hst : wr.cell? ⟨w.heap.size, j, none⟩ = _ := u32s_cell hs2.row j (by simp [hll, zeros]; omega)
          have hfr : wr.frozen? ⟨w.heap.size, j, none⟩ = false := frozen_of_row wr _ j _ _ hs2.row
          obtain ⟨x0, hx0⟩ : ∃ x, x = l.getD (j - 16) 0 := ⟨_, rfl⟩
          obtain ⟨x1, hx1⟩ : ∃ x, x = l.getD (j - 15) 0 := ⟨_, rfl⟩
          obtain ⟨x9, hx9⟩ : ∃ x, x = l.getD (j - 7) 0 := ⟨_, rfl⟩
          obtain ⟨x14, hx14⟩ : ∃ x, x = l.getD (j - 2) 0 := ⟨_, rfl⟩
          have w0 : x0 < 4294967296 := by rw [hx0]; exact Sm.getD_lt hlw (by omega) _
          have w1 : x1 < 4294967296 := by rw [hx1]; exact Sm.getD_lt hlw (by omega) _
          have w9 : x9 < 4294967296 := by rw [hx9]; exact Sm.getD_lt hlw (by omega) _
          have w14 : x14 < 4294967296 := by rw [hx14]; exact Sm.getD_lt hlw (by omega) _
          rw [← hx0] at g0
          rw [← hx1] at g1
          rw [← hx9] at g9
          rw [← hx14] at g14
          have X0 := Lib.hid hx0
          have X1 := Lib.hid hx1
          have X9 := Lib.hid hx9
          have X14 := Lib.hid hx14
          have HL := Lib.hid hl
          have HLL := Lib.hid hll
          have HJ := Lib.hid hj
          have H2 := Lib.hid hs2
          have j16 : 16 ≤ j := by omega
          have j64 : j < 64 := by omega
          have r15 : (0 : Int) ≤ (j : Int) - 15 := by omega
          have r2 : (0 : Int) ≤ (j : Int) - 2 := by omega
          have q15 : IntKind.i64.wrap ((j : Int) - 15) = (j : Int) - 15 := IntWalk.i64_in _ (by omega)
          have q2 : IntKind.i64.wrap ((j : Int) - 2) = (j : Int) - 2 := IntWalk.i64_in _ (by omega)
          have p15 : ((j : Int) - 15).toNat = j - 15 := by omega
          have p2 : ((j : Int) - 2).toNat = j - 2 := by omega
          have t15 : (j : Int) - 15 < 64 := by omega
          have t2 : (j : Int) - 2 < 64 := by omega
          have u15 : (15 : Int) ≤ j := by omega
          have u2 : (2 : Int) ≤ j := by omega
          clear hx0 hx1 hx9 hx14 hl hll hlw hs2 cell hj hk hlt
          go_wp2_with fail
          go_quiet (fail)
          go_wp2_with fail
          generalize hW2 : wr.drewN nq = W2
          have f0 : W2.cell? ⟨w.heap.size, j - 16, none⟩ = some (.int .u32 (x0 : Nat)) := by rw [← hW2]; exact g0
          have f9 : W2.cell? ⟨w.heap.size, j - 7, none⟩ = some (.int .u32 (x9 : Nat)) := by rw [← hW2]; exact g9
          have fst : W2.cell? ⟨w.heap.size, j, none⟩ = some (.int .u32 ((l ++ zeros (48 - k)).getD j 0 : Nat)) := by rw [← hW2]; exact hst
          have ffr : W2.frozen? ⟨w.heap.size, j, none⟩ = false := by rw [← hW2]; exact hfr
          have HS4 : RW w W2 w.heap.size (l ++ zeros (48 - k)) := by rw [← hW2]; exact H2.out.drewN nq
          have HS5 := Lib.hid HS4
          clear hW2 g0 g1 g9 g14 hst hfr HS4 H2 q15 q2 p15 p2
          have q16 : IntKind.i64.wrap ((j : Int) - 16) = (j : Int) - 16 := IntWalk.i64_in _ (by omega)
          have q7 : IntKind.i64.wrap ((j : Int) - 7) = (j : Int) - 7 := IntWalk.i64_in _ (by omega)
          have p16 : ((j : Int) - 16).toNat = j - 16 := by omega
          have p7 : ((j : Int) - 7).toNat = j - 7 := by omega
          have r16 : (16 : Int) ≤ j := by omega
          have r7 : (7 : Int) ≤ j := by omega
          have jj : (j : Int) < 64 := by omega
          have t16 : (j : Int) - 16 < 64 := by omega
          have t7 : (j : Int) - 7 < 64 := by omega
          go_still_tail 32, (by kernel_rfl)
          still_call (turned_any x1 7 w1 (by omega) (by omega) _)
          repeat still_step
          still_call (turned_any x1 18 w1 (by omega) (by omega) _)
          repeat still_step
          still_call (turned_any x14 17 w14 (by omega) (by omega) _)
          repeat still_step
          still_call (turned_any x14 19 w14 (by omega) (by omega) _)
          repeat still_step
          refine wpStill_nil ?_
          clear q16 q7 p16 p7
          go_wp2_with fail
          go_roundw
          case rel =>
            rw [Sm.s0_int w1, Sm.s1_int w14]
            have ej := HJ.out
            have e0 : j - 16 = k := by omega
            have e1 : j - 15 = k + 1 := by omega
            have e9 : j - 7 = k + 9 := by omega
            have e14 : j - 2 = k + 14 := by omega
            have ev : (((x0 : Nat) : Int) + (Sm.s0 x1 : Nat) + (x9 : Nat) + (Sm.s1 x14 : Nat)) % 4294967296 = (((x0 + Sm.s0 x1 + x9 + Sm.s1 x14) % 4294967296 : Nat) : Int) := by omega
            rw [ev]
            refine ⟨k + 1, by omega, by rw [ej]; exact congrArg (Value.int .i64) (by omega), ?_⟩
            have e : Sm.more (Sm.words B 16) (k + 1) ++ zeros (48 - (k + 1)) = l ++ ((x0 + Sm.s0 x1 + x9 + Sm.s1 x14) % 4294967296) :: zeros (48 - (k + 1)) := by
              rw [Sm.more, ← HL.out, X0.out, X1.out, X9.out, X14.out, e0, e1, e9, e14, List.append_assoc]; rfl
            rw [e]
            refine (RW.store (y := 0) ?_ j HLL.out _).drewN 1
            rw [show 48 - (k + 1) = 48 - k - 1 from by omega, ← zeros_succ (by omega)]
            exact HS5.out
          case measure => simp [intOf]; omega
        · have hk48 : k = 48 := by omega
          have hw : RW w wr w.heap.size (Sm.sched B) := by
            have := HS2.out
            rw [hk48, show zeros (48 - 48) = [] from rfl, List.append_nil] at this
            exact this
          have HW := Lib.hid hw
          have hjd : decide ((j : Int) < 64) = false := decide_eq_false (by omega)
          have hjn : ¬ (j : Int) < 64 := by omega
          clear hk48 hw HS2 hk hlt hj
          obtain ⟨i5, hi, hi0, hi1, hi2⟩ := info_parts I31
          have HI := Lib.hid hi
          have HI0 := Lib.hid hi0
          have HI1 := Lib.hid hi1
          have HI2 := Lib.hid hi2
          clear hi hi0 hi1 hi2
          have hE : (wr.alloc (.cells #[] 31)).ownsRow wr.heap.size 31 1 (.slice (some ⟨wr.heap.size, 0, none⟩) 0 0) 0 [] := World.ownsRow_made wr #[] 0 (Nat.le_refl _) (by unfold maxLen; decide) rfl
          have HE := Lib.hid hE
          have hcl : ∀ j u, (w32 v.list)[j]? = some u → (wr.alloc (.cells #[] 31)).cell? ((⟨gh, 0, none⟩ : Addr).add j) = some u := fun j u hu => by
            have h1 := (HW.out.below.block gh (Array.getElem?_eq_some_iff.1 HH.out).1).trans HH.out
            have h2 := (Below.heap_alloc wr (.cells #[] 31) gh (Array.getElem?_eq_some_iff.1 h1).1).trans h1
            rw [Addr.add_mid, Nat.zero_add, cell_of_row _ gh j _ _ _ h2, ← Array.getElem?_toList]
            rw [← w32_toArray]
            exact hu
          have HCL := Lib.hid hcl
          clear hE hcl
          go_wp2_with (at_builtin; refine wpList_append_own _ (by rfl) (.tmp 92) (.tmp 93) 50 (by rfl) wr.heap.size 31 i5 (.int .u32 0) 1 4 A50 HI.out HI0.out HI1.out HI2.out (by rfl) (by decide) _ 0 [] (by rfl) HE.out ⟨gh, 0, none⟩ 8 8 (w32 v.list) (by rfl) (by rfl) HCL.out (u32_of_w32 _) (by unfold maxLen; decide) (by decide) (by simp) ?_; intro v2 w2 hown2 hgrow2 hnil2)
          obtain ⟨qv, cv, hv2⟩ := slice_of_own32 hown2
          have hown3 := hown2
          rw [hv2] at hown3
          obtain ⟨gv, C0, rfl, hgv, hrv, hcv, htv⟩ := own32_some hown3 (fun e => by
            rw [← hv2] at e
            have := (hnil2.1 e).1
            simp at this)
          have hB2 : Below w.heap.size w w2 := HW.out.below.trans ((((Below.refl wr.heap.size wr).alloc (Nat.le_refl _) _).grown hgrow2 (by simp) (fun k hk => by simp [Value.ownBlock] at hk; omega)).mono HW.out.below.size)
          have hwl : w.heap.size < wr.heap.size := (Array.getElem?_eq_some_iff.1 HW.out.row).1
          have hW2 : RW w w2 w.heap.size (Sm.sched B) := ⟨hB2, (hgrow2.block _ (by simp; omega) (by simp [Value.ownBlock]; omega)).trans ((Below.heap_alloc _ _ _ hwl).trans HW.out.row), Nat.le_refl _⟩
          have hv3 : v2 = .slice (some ⟨gv, 0, none⟩) 8 cv := hv2
          rw [hv3]
          have hst : R4Rel w K (Sm.sched B) v (.slice (some ⟨gv, 0, none⟩) 8 cv) (.int .i64 0) w2 := ⟨0, gv, cv, C0, by omega, rfl, rfl, by omega, hrv, htv, fun h => absurd h (by omega), by omega, hW2⟩
          have HST := Lib.hid hst
          clear hown2 hown3 hgrow2 hnil2 hv2 hv3 hgv hrv hcv htv hB2 hwl hW2 hst HE HCL HW
          have lsch := Sm.length_sched B
          have wsch := Sm.sched_ok HBO.out
          obtain ⟨W, hWd⟩ : ∃ W, W = Sm.sched B := ⟨_, rfl⟩
          have hst' := HST.out
          rw [← hWd] at hst' lsch wsch
          clear HST
          have HST := Lib.hid hst'
          have LW := Lib.hid lsch
          have WW := Lib.hid wsch
          have HWD := Lib.hid hWd
          clear lsch wsch hWd hst'
          go_loopw [13, 14, 15, 16, 17, 18] (fun s i _ _ _ _ wr => R4Rel w K W v s i wr) (fun _ i _ _ _ _ _ => 64 - (intOf i).toNat)
          case atStart => exact HST.out
          case round =>
            obtain ⟨k, g, c, C, hk, rfl, rfl, hc8, hrow, htk, hfin, hgw, hrw⟩ := hrel
            have HR := Lib.hid hrow
            have HTK := Lib.hid htk
            have HFIN := Lib.hid hfin
            have HRW := Lib.hid hrw
            have HGW := Lib.hid hgw
            clear hrow htk hfin hrw HST hgw
            by_cases hlt : k < 64
            · obtain ⟨u, hu⟩ : ∃ u, u = Sm.rounds K W v k := ⟨_, rfl⟩
              have huok : u.ok := by rw [hu]; exact Sm.rounds_ok HV.out k
              have hcell : ∀ i, i < 8 → wr.cell? ⟨g, i, none⟩ = some (.int .u32 (u.list.getD i 0 : Nat)) := fun i hi => by
                rw [cell_of_row wr g i _ _ _ HR.out, ← Array.getElem?_toList]
                have h1 := congrArg (·[i]?) HTK.out
                simp only [List.getElem?_take_of_lt hi] at h1
                rw [h1, ← hu]
                simp [w32, List.getD_eq_getElem?_getD, show i < u.list.length from hi]
              have HU := Lib.hid hu
              obtain ⟨ua, ub, uc, ud, ue, uf, ug, uh⟩ := u
              have c0 := hcell 0 (by omega)
              have c1 := hcell 1 (by omega)
              have c2 := hcell 2 (by omega)
              have c3 := hcell 3 (by omega)
              have c4 := hcell 4 (by omega)
              have c5 := hcell 5 (by omega)
              have c6 := hcell 6 (by omega)
              have c7 := hcell 7 (by omega)
              have HO := Lib.hid huok
              obtain ⟨ha, hb, hc, hd, he, hf, hg, hh⟩ := huok
              simp only [Sm.V8.list, List.getD_cons_zero, List.getD_cons_succ] at c0 c1 c2 c3 c4 c5 c6 c7 ha hb hc hd he hf hg hh
              have cK : wr.cell? ⟨gk, k, none⟩ = some (.int .u32 (K.getD k 0 : Nat)) := (HRW.out.below.cell (p := ⟨gk, k, none⟩) (Array.getElem?_eq_some_iff.1 HK.out).1).trans (u32s_cell HK.out k (by rw [LK.out]; exact hlt))
              have cW : wr.cell? ⟨w.heap.size, k, none⟩ = some (.int .u32 (W.getD k 0 : Nat)) := u32s_cell HRW.out.row k (by rw [LW.out]; exact hlt)
              have bK : K.getD k 0 < 4294967296 := Sm.getD_lt HKO.out (by omega) k
              have bW : W.getD k 0 < 4294967296 := Sm.getD_lt WW.out (by omega) k
              obtain ⟨kk1, hkk1⟩ : ∃ x, x = K.getD k 0 := ⟨_, rfl⟩
              obtain ⟨ww1, hww1⟩ : ∃ x, x = W.getD k 0 := ⟨_, rfl⟩
              rw [← hkk1] at cK bK
              rw [← hww1] at cW bW
              have HKK := Lib.hid hkk1
              have HWW := Lib.hid hww1
              have i4 : (4 : Int) < 8 := by omega
              have kd : decide ((k : Int) < 64) = true := decide_eq_true (by omega)
              have k0 : (0 : Int) ≤ k := by omega
              have k64 : (k : Int) < 64 := by omega
              have qs : IntKind.u32.wrap (4294967295 - (ue : Int)) = 4294967295 - (ue : Int) := IntWalk.u32_in _ (by omega)
              clear hu hcell hkk1 hww1
              go_wp2_with fail
              go_quiet (fail)
              go_wp2_with fail
              rw [ch_sub he hf hg]
              go_quiet ((go_at_call 34; first | (with_reducible exact calls_later (turned6 ue he _)) | (with_reducible exact calls_later (turned11 ue he _)) | (with_reducible exact calls_later (turned25 ue he _))))
              go_wp2_with fail
              rw [one_int he]
              have ht1l : (uh + Sm.b1 ue + Sm.ch ue uf ug + kk1 + ww1) % 4294967296 < 4294967296 := Nat.mod_lt _ (by omega)
              obtain ⟨T1, hT1⟩ : ∃ T1, T1 = (uh + Sm.b1 ue + Sm.ch ue uf ug + kk1 + ww1) % 4294967296 := ⟨_, rfl⟩
              rw [← hT1] at ht1l ⊢
              have HT1 := Lib.hid hT1
              clear hT1
              go_quiet (fail)
              go_wp2_with fail
              rw [Sm.mj_int ha hb hc]
              go_quiet ((go_at_call 34; first | (with_reducible exact calls_later (turned2 ua ha _)) | (with_reducible exact calls_later (turned13 ua ha _)) | (with_reducible exact calls_later (turned22 ua ha _))))
              go_wp2_with fail
              rw [two_int ha]
              have ht2l : (Sm.b0 ua + Sm.mj ua ub uc) % 4294967296 < 4294967296 := Nat.mod_lt _ (by omega)
              obtain ⟨T2, hT2⟩ : ∃ T2, T2 = (Sm.b0 ua + Sm.mj ua ub uc) % 4294967296 := ⟨_, rfl⟩
              rw [← hT2] at ht2l ⊢
              have HT2 := Lib.hid hT2
              clear hT2
              simp only [World.drewN_drewN]
              generalize hW2 : World.drewN wr _ = W2
              have d0 : W2.cell? ⟨g, 0, none⟩ = some (.int .u32 (ua : Nat)) := by rw [← hW2]; exact c0
              have d1 : W2.cell? ⟨g, 1, none⟩ = some (.int .u32 (ub : Nat)) := by rw [← hW2]; exact c1
              have d2 : W2.cell? ⟨g, 2, none⟩ = some (.int .u32 (uc : Nat)) := by rw [← hW2]; exact c2
              have d3 : W2.cell? ⟨g, 3, none⟩ = some (.int .u32 (ud : Nat)) := by rw [← hW2]; exact c3
              have d4 : W2.cell? ⟨g, 4, none⟩ = some (.int .u32 (ue : Nat)) := by rw [← hW2]; exact c4
              have d5 : W2.cell? ⟨g, 5, none⟩ = some (.int .u32 (uf : Nat)) := by rw [← hW2]; exact c5
              have d6 : W2.cell? ⟨g, 6, none⟩ = some (.int .u32 (ug : Nat)) := by rw [← hW2]; exact c6
              have d7 : W2.cell? ⟨g, 7, none⟩ = some (.int .u32 (uh : Nat)) := by rw [← hW2]; exact c7
              have HRW2 := Lib.hid (show RW w W2 w.heap.size W from by rw [← hW2]; exact HRW.out.drewN _)
              clear hW2 c0 c1 c2 c3 c4 c5 c6 c7 cK cW
              go_still_tail 26, (by kernel_rfl)
              go_wp2_with fail
              go_roundw
              case rel =>
                have e1 : ((T1 : Int) + (T2 : Int)) % 4294967296 = (((T1 + T2) % 4294967296 : Nat) : Int) := by omega
                have e2 : ((ud : Int) + (T1 : Int)) % 4294967296 = (((ud + T1) % 4294967296 : Nat) : Int) := by omega
                rw [e1, e2]
                have hC : (#[.int .u32 (((T1 + T2) % 4294967296 : Nat) : Int), .int .u32 (ua : Nat), .int .u32 (ub : Nat), .int .u32 (uc : Nat), .int .u32 (((ud + T1) % 4294967296 : Nat) : Int), .int .u32 (ue : Nat), .int .u32 (uf : Nat), .int .u32 (ug : Nat)] : Array Value) = u32s (Sm.rounds K W v (k + 1)).list := by
                  rw [Sm.rounds, ← HU.out, ← HKK.out, ← HWW.out, HT1.out, HT2.out]
                  rfl
                rw [hC]
                refine ⟨k + 1, W2.heap.size, 8, _, by omega, by go_num, rfl, Nat.le_refl _, heap_alloc_new W2 _, rfl, fun _ => ⟨rfl, rfl⟩, (Array.getElem?_eq_some_iff.1 HRW2.out.row).1, ?_⟩
                have hbl := HRW2.out.below
                have hlt2 := (Array.getElem?_eq_some_iff.1 HRW2.out.row).1
                exact (show RW w (W2.alloc _) w.heap.size W from ⟨hbl.alloc hbl.size _, (Below.heap_alloc _ _ _ hlt2).trans HRW2.out.row, Nat.le_refl _⟩).drewN 1
              case measure => simp [intOf]; omega
            · have hk64 : k = 64 := by omega
              obtain ⟨hc, hC⟩ := HFIN.out (by omega)
              have hr := HR.out
              rw [hC, hk64] at hr
              subst hc
              obtain ⟨U, hU⟩ : ∃ U, U = Sm.rounds K W v 64 := ⟨_, rfl⟩
              rw [← hU] at hr
              have hUok : U.ok := by rw [hU]; exact Sm.rounds_ok HV.out 64
              have hst5 : R5Rel w v U g (.int .i64 0) wr := ⟨0, by omega, rfl, hr, HRW.out.below⟩
              have HST5 := Lib.hid hst5
              have HU := Lib.hid hU
              have HUO := Lib.hid hUok
              have hkd4 : decide ((k : Int) < 64) = false := decide_eq_false (by omega)
              obtain ⟨k4, hk4⟩ : ∃ kk : Int, kk = (k : Int) := ⟨_, rfl⟩
              rw [← hk4] at hkd4 ⊢
              clear hk64 hC hr hU hUok hst5 hk4 hk hlt HFIN HR HTK hc8
              go_wp2_with fail
              go_loopw [19] (fun i wr => R5Rel w v U g i wr) (fun i _ => 8 - (intOf i).toNat)
              case atStart => exact HST5.out
              case round =>
                obtain ⟨k, hk, rfl, hrow, hbl⟩ := hrel
                have HR5 := Lib.hid hrow
                have HB5 := Lib.hid hbl
                clear hrow hbl HST5
                by_cases hlt : k < 8
                · have hdc : U.list.drop k = U.list.getD k 0 :: U.list.drop (k + 1) := by
                    rw [List.drop_eq_getElem_cons (show k < U.list.length from hlt), List.getD_eq_getElem?_getD, List.getElem?_eq_getElem (show k < U.list.length from hlt)]; rfl
                  have hr5 := HR5.out
                  rw [hdc] at hr5
                  have htl : ((Sm.add8 v U).list.take k).length = k := by rw [List.length_take]; exact Nat.min_eq_left (Nat.le_of_lt hlt)
                  have e1 : wr.cell? ⟨g, k, none⟩ = some (.int .u32 (U.list.getD k 0 : Nat)) := by
                    have := u32s_cell hr5 k (by rw [List.length_append, htl]; simp)
                    rw [List.getD_eq_getElem?_getD, List.getElem?_append_right (by omega), htl, Nat.sub_self] at this
                    exact this
                  have f1 : wr.frozen? ⟨g, k, none⟩ = false := frozen_of_row wr g k _ _ hr5
                  have e2 : wr.cell? ⟨gh, k, none⟩ = some (.int .u32 (v.list.getD k 0 : Nat)) := (HB5.out.cell (p := ⟨gh, k, none⟩) (Array.getElem?_eq_some_iff.1 HH.out).1).trans (u32s_cell HH.out k hlt)
                  have had := add8_get v U k hlt
                  have b1 : U.list.getD k 0 < 4294967296 := v8_lt HUO.out k
                  have b2 : v.list.getD k 0 < 4294967296 := v8_lt HV.out k
                  have htk : (Sm.add8 v U).list.take (k + 1) = (Sm.add8 v U).list.take k ++ [(Sm.add8 v U).list.getD k 0] := by
                    rw [List.take_succ_eq_append_getElem (show k < (Sm.add8 v U).list.length from hlt), List.getD_eq_getElem?_getD, List.getElem?_eq_getElem (show k < (Sm.add8 v U).list.length from hlt)]; rfl
                  rw [had] at htk
                  obtain ⟨a, hax⟩ : ∃ a, a = U.list.getD k 0 := ⟨_, rfl⟩
                  obtain ⟨b, hbx⟩ : ∃ b, b = v.list.getD k 0 := ⟨_, rfl⟩
                  rw [← hax] at e1 b1 hr5 htk
                  rw [← hbx] at e2 b2 htk
                  have HR6 := Lib.hid hr5
                  have HTL := Lib.hid htl
                  have HTK6 := Lib.hid htk
                  have k0 : (0 : Int) ≤ k := by omega
                  have k8 : (k : Int) < 8 := by omega
                  clear hdc hr5 htl had htk hax hbx HR5
                  go_wp2_with fail
                  go_still_tail 12, (by kernel_rfl)
                  go_wp2_with fail
                  go_roundw
                  case rel =>
                    rw [show ((a : Int) + (b : Int)) % 4294967296 = (((b + a) % 4294967296 : Nat) : Int) from by omega]
                    refine ⟨k + 1, by omega, by go_num, ?_, (HB5.out.setCell (Nat.le_of_lt HGW.out) _).drew⟩
                    show (World.setCell _ _ _).heap[g]? = _
                    rw [heap_setCell_same _ _ _ _ _ _ HR6.out, u32s_set _ _ _ _ k HTL.out, HTK6.out, List.append_assoc]
                    rfl
                  case measure => simp [intOf]; omega
                · obtain rfl : k = 8 := by omega
                  have hr5 := HR5.out
                  rw [show (Sm.add8 v U).list.take 8 ++ U.list.drop 8 = (Sm.add8 v U).list from rfl] at hr5
                  have HR6 := Lib.hid hr5
                  clear hr5 HR5
                  go_wp2_with fail
                  go_ret
                  refine ⟨g, rfl, ?_, Nat.le_of_lt HGW.out, HB5.out⟩
                  rw [Sm.turn, ← HWD.out, ← HU.out]
                  exact HR6.out
end Go.Proofs.Ytgdipdmpmaemjaa
