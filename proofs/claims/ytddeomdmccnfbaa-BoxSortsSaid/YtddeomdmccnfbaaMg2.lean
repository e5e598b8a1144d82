/- Dist11, Dist12, DistOpen, BoxOpen, BoxRefA, DistMath, BoxRefB. -/
import Derived.Test.YtddeomdmccnfbaaMg1
/- indentureref03.Sum. -/
namespace Go.Proofs.Ytddeomdmccnfbaa
open Go.RowKit

/-- The digits of 32 bits. -/
def limb (T i : Nat) : Nat := match i with
  | 0 => T % 4294967296
  | 1 => T / 4294967296 % 4294967296
  | 2 => T / 18446744073709551616 % 4294967296
  | _ => T / 79228162514264337593543950336 % 4294967296
theorem limb_lt (T i : Nat) : limb T i < 4294967296 := by
  unfold limb
  split <;> exact Nat.mod_lt _ (by decide)
def carry (T x : Nat) : Nat → Nat
  | 0 => 0
  | k + 1 => (limb T k + limb x k + carry T x k) / 4294967296
def smd (T x k : Nat) : Nat := (limb T k + limb x k + carry T x k) % 4294967296
theorem carry_le (T x k : Nat) : carry T x k ≤ 1 := by
  induction k with
  | zero => exact Nat.zero_le _
  | succ k ih =>
    show (limb T k + limb x k + carry T x k) / 4294967296 ≤ 1
    have := limb_lt T k
    have := limb_lt x k
    omega
theorem parts4 (T : Nat) : ∃ t4, T = limb T 0 + 4294967296 * limb T 1 + 18446744073709551616 * limb T 2 + 79228162514264337593543950336 * limb T 3 + 340282366920938463463374607431768211456 * t4 := by
  refine ⟨T / 340282366920938463463374607431768211456, ?_⟩
  unfold limb
  simp only
  omega
theorem limb_of (a b c d e : Nat) (ha : a < 4294967296) (hb : b < 4294967296) (hc : c < 4294967296) (hd : d < 4294967296) :
    limb (a + 4294967296 * b + 18446744073709551616 * c + 79228162514264337593543950336 * d + 340282366920938463463374607431768211456 * e) 0 = a ∧
    limb (a + 4294967296 * b + 18446744073709551616 * c + 79228162514264337593543950336 * d + 340282366920938463463374607431768211456 * e) 1 = b ∧
    limb (a + 4294967296 * b + 18446744073709551616 * c + 79228162514264337593543950336 * d + 340282366920938463463374607431768211456 * e) 2 = c ∧
    limb (a + 4294967296 * b + 18446744073709551616 * c + 79228162514264337593543950336 * d + 340282366920938463463374607431768211456 * e) 3 = d := by
  unfold limb
  refine ⟨?_, ?_, ?_, ?_⟩ <;> simp only <;> omega
theorem smd_limb (T x : Nat) : ∀ k, k < 4 → smd T x k = limb (T + x) k := by
  obtain ⟨t, ht⟩ := parts4 T
  obtain ⟨y, hy⟩ := parts4 x
  have s0 : smd T x 0 = (limb T 0 + limb x 0) % 4294967296 := rfl
  have c1 : carry T x 1 = (limb T 0 + limb x 0) / 4294967296 := rfl
  have s1 : smd T x 1 = (limb T 1 + limb x 1 + carry T x 1) % 4294967296 := rfl
  have c2 : carry T x 2 = (limb T 1 + limb x 1 + carry T x 1) / 4294967296 := rfl
  have s2 : smd T x 2 = (limb T 2 + limb x 2 + carry T x 2) % 4294967296 := rfl
  have c3 : carry T x 3 = (limb T 2 + limb x 2 + carry T x 2) / 4294967296 := rfl
  have s3 : smd T x 3 = (limb T 3 + limb x 3 + carry T x 3) % 4294967296 := rfl
  have e0 : limb T 0 + limb x 0 = smd T x 0 + 4294967296 * carry T x 1 := by omega
  have e1 : limb T 1 + limb x 1 + carry T x 1 = smd T x 1 + 4294967296 * carry T x 2 := by omega
  have e2 : limb T 2 + limb x 2 + carry T x 2 = smd T x 2 + 4294967296 * carry T x 3 := by omega
  obtain ⟨c4, e3⟩ : ∃ c4, limb T 3 + limb x 3 + carry T x 3 = smd T x 3 + 4294967296 * c4 := ⟨(limb T 3 + limb x 3 + carry T x 3) / 4294967296, by omega⟩
  have hs : T + x = smd T x 0 + 4294967296 * smd T x 1 + 18446744073709551616 * smd T x 2 + 79228162514264337593543950336 * smd T x 3 + 340282366920938463463374607431768211456 * (c4 + t + y) := by
    clear s0 c1 s1 c2 s2 c3 s3
    omega
  have l : ∀ k, smd T x k < 4294967296 := fun k => Nat.mod_lt _ (by decide)
  obtain ⟨r0, r1, r2, r3⟩ := limb_of _ _ _ _ (c4 + t + y) (l 0) (l 1) (l 2) (l 3)
  rw [← hs] at r0 r1 r2 r3
  intro k hk
  match k, hk with
  | 0, _ => exact r0.symm
  | 1, _ => exact r1.symm
  | 2, _ => exact r2.symm
  | 3, _ => exact r3.symm
theorem dV_limbs (T : Nat) : dV (T : Nat) = .agg #[.int .u64 ((limb T 2 : Nat) + 4294967296 * (limb T 3 : Nat)), .int .u64 ((limb T 0 : Nat) + 4294967296 * (limb T 1 : Nat))] := by
  unfold dV limb
  simp only
  congr 5 <;> omega
theorem Wd.mk' {w : World} {g n : Nat} {f : Nat → Nat} {C : Array Value} (h : w.heap[g]? = some (.cells C 35 (0, 0))) (h2 : n ≤ C.size ∧ ∀ i, i < n → C[i]? = some (.int .u64 (f i : Nat))) : Wd w g n f C := ⟨h, h2⟩
structure SumR (w : World) (R : List Int) (k T : Nat) (C : Array Value) (wr : World) : Prop where
  tot : tot (fun k => R.getD k 0) k = (T : Nat)
  wd : Wd wr (w.heap.size + 1) 4 (limb T) C
  two : Two wr w.heap.size (.int .u64 0) (.int .u64 0)
  below : Below w.heap.size w wr
def SumRel (w : World) (R : List Int) (n : Nat) (i : Value) (wr : World) : Prop := ∃ k T C, k ≤ n ∧ i = .int .i64 k ∧ SumR w R k T C wr
def CarRel (w : World) (g : Nat) (T x : Nat) (c i : Value) (wr : World) : Prop :=
  ∃ (k : Nat) (C : Array Value), k ≤ 4 ∧ i = .int .i64 k ∧ c = .int .u64 (carry T x k : Nat) ∧ Wd wr g 4 (fun i => if i < k then smd T x i else limb T i) C ∧ w.grownBy wr (some g)
set_option maxRecDepth 100000 in
set_option maxHeartbeats 1000000 in
theorem refsum_any (p : Option Addr) (n c : Nat) (R : List Int) (w : World) (h : Words w p n c R) (hn : n < 9223372036854775807) :
    Calls Try.prog 55 #[.slice p n c] w fun e w' => e = .returned (dV (tot (fun k => R.getD k 0) n)) ∧ Below w.heap.size w w' := by
  have H := Lib.hid h
  clear h
  go_enter Try.func55, Try.ntmps55
  go_wp2_with fail
  go_loopw [4] (fun i wr => SumRel w R n i wr) (fun i _ => n - (intOf i).toNat)
  case atStart =>
    have hb1 : Below w.heap.size w (w.alloc (.cells #[.int .u64 0, .int .u64 0] 37)) := (Below.refl _ _).alloc (Nat.le_refl _) _
    have s1 : (w.alloc (.cells #[.int .u64 0, .int .u64 0] 37)).heap.size = w.heap.size + 1 := by simp
    have t1 := zero_two w
    generalize w.alloc (.cells #[.int .u64 0, .int .u64 0] 37) = w1 at *
    have hn2 := heap_alloc_new w1 (.cells #[.int .u64 0, .int .u64 0, .int .u64 0, .int .u64 0] 35)
    rw [s1] at hn2
    have hb2 : Below w1.heap.size w1 (w1.alloc (.cells #[.int .u64 0, .int .u64 0, .int .u64 0, .int .u64 0] 35)) := (Below.refl _ _).alloc (Nat.le_refl _) _
    refine ⟨0, 0, _, by omega, rfl, rfl, ⟨hn2, Nat.le_refl _, fun i hi => ?_⟩, t1.later hb2 (by omega), hb1.trans (hb2.mono (by omega))⟩
    match i, hi with
    | 0, _ => rfl
    | 1, _ => rfl
    | 2, _ => rfl
    | 3, _ => rfl
  case round =>
    obtain ⟨k, T, C, hk, rfl, hR⟩ := hrel
    have HR := Lib.hid hR
    clear hR
    by_cases hlt : k < n
    · obtain ⟨gx, o, rfl, hcx⟩ := H.out.cell k hlt
      have hx64 := H.out.get k hlt
      have hcx := (HR.out.below.cell (p := ⟨gx, o + k, none⟩) (block_lt_of_cell hcx)).trans hcx
      obtain ⟨x, hx⟩ : ∃ x : Nat, R.getD k 0 = (x : Nat) := ⟨(R.getD k 0).toNat, by omega⟩
      rw [hx] at hcx hx64
      have HX := Lib.hid hx
      have b1 : (0 : Int) ≤ k ∧ (k : Int) < n := by omega
      obtain ⟨x1, hx1⟩ : ∃ y : Nat, (x : Int) / 4294967296 = y := ⟨x / 4294967296, by omega⟩
      clear hx
      have HX1 := Lib.hid hx1
      go_wp2_with fail
      go_region
      have hx1 := HX1.out
      have hwx : Wd ((wr.alloc (.cells #[.int .u64 ((x : Int) % 4294967296), .int .u64 (x1 : Nat), .int .u64 0, .int .u64 0] 35)).drew) wr.heap.size 4 (limb x) #[.int .u64 ((x : Int) % 4294967296), .int .u64 (x1 : Nat), .int .u64 0, .int .u64 0] := by
        refine ⟨heap_alloc_new wr _, Nat.le_refl _, fun i hi => ?_⟩
        match i, hi with
        | 0, _ => exact congrArg (fun z => some (Value.int .u64 z)) (show (x : Int) % 4294967296 = ((x % 4294967296 : Nat) : Int) from by omega)
        | 1, _ => exact congrArg (fun z => some (Value.int .u64 z)) (show ((x1 : Nat) : Int) = ((x / 4294967296 % 4294967296 : Nat) : Int) from by omega)
        | 2, _ => exact congrArg (fun z => some (Value.int .u64 z)) (show (0 : Int) = ((x / 18446744073709551616 % 4294967296 : Nat) : Int) from by omega)
        | 3, _ => exact congrArg (fun z => some (Value.int .u64 z)) (show (0 : Int) = ((x / 79228162514264337593543950336 % 4294967296 : Nat) : Int) from by omega)
      have hba : Below wr.heap.size wr ((wr.alloc (.cells #[.int .u64 ((x : Int) % 4294967296), .int .u64 (x1 : Nat), .int .u64 0, .int .u64 0] 35)).drew) := ((Below.refl _ _).alloc (Nat.le_refl _) _).drew
      clear hx1
      generalize (wr.alloc (.cells #[.int .u64 ((x : Int) % 4294967296), .int .u64 (x1 : Nat), .int .u64 0, .int .u64 0] 35)).drew = w1 at *
      have HWX := Lib.hid hwx
      have HWD := Lib.hid (HR.out.wd.later hba HR.out.wd.lt)
      have HTW := Lib.hid (HR.out.two.later hba HR.out.two.lt)
      have HBL := Lib.hid (HR.out.below.trans (hba.mono HR.out.below.size))
      have HNE := Lib.hid (show w.heap.size + 1 < wr.heap.size from HR.out.wd.lt)
      clear hwx hba hcx hx64
      generalize wr.heap.size = g2 at *
      go_wp2_with fail
      go_loopw [6, 7] (fun c i wx => CarRel w1 (w.heap.size + 1) T x c i wx) (fun _ i _ => 4 - (intOf i).toNat)
      case atStart => exact ⟨0, C, by omega, rfl, rfl, HWD.out.ext fun i _ => by rw [if_neg (by omega)], World.grownBy.refl _ _⟩
      case round =>
        obtain ⟨j, D, hj, rfl, rfl, h1, h2⟩ := hrel
        have H1 := Lib.hid h1
        have H2 := Lib.hid h2
        clear h1 h2
        by_cases hlt4 : j < 4
        · have b2 : (0 : Int) ≤ j ∧ (j : Int) < 4 := by omega
          have c0 := H1.out.cell j hlt4
          rw [if_neg (Nat.lt_irrefl j)] at c0
          have d0 := H1.out.free j
          have hnx := Wd.mk' ((H2.out.block _ HWX.out.lt (by simp; have := HNE.out; omega)).trans HWX.out.1) HWX.out.2
          have c1 := hnx.cell j hlt4
          have hca := carry_le T x j
          have hlT := limb_lt T j
          have hlx := limb_lt x j
          have hS := H1.out.set j (smd T x j)
          have HS := Lib.hid (hS.ext (f' := fun i => if i < j + 1 then smd T x i else limb T i) fun i _ => by
            by_cases e : i = j
            · rw [if_pos e, if_pos (by omega), e]
            · rw [if_neg e]
              by_cases e2 : i < j
              · rw [if_pos e2, if_pos (by omega)]
              · rw [if_neg e2, if_neg (by omega)])
          have HG := Lib.hid (grown_twice H2.out (grown_setCell wr (w.heap.size + 1) j (.int .u64 (smd T x j : Nat))))
          have hcar : carry T x (j + 1) = (limb T j + limb x j + carry T x j) / 4294967296 := rfl
          have hsm : smd T x j = (limb T j + limb x j + carry T x j) % 4294967296 := rfl
          obtain ⟨s, hs⟩ : ∃ s, s = limb T j + limb x j + carry T x j := ⟨_, rfl⟩
          rw [← hs] at hcar hsm
          have hsi : ((limb T j : Nat) : Int) + (limb x j : Nat) + (carry T x j : Nat) = (s : Nat) := by omega
          have hs34 : s < 8589934592 := by omega
          have hqi : (s : Int) / 4294967296 = (carry T x (j + 1) : Nat) := by omega
          have hri : (s : Int) % 4294967296 = (smd T x j : Nat) := by omega
          have HC1 := Lib.hid hqi
          clear hS hcar hsm hs hnx
          generalize limb T j = y0 at *
          generalize limb x j = y1 at *
          generalize carry T x j = y2 at *
          generalize smd T x j = y3 at *
          go_upto_region 10 with fail
          go_quiet (fail)
          go_wp2_with fail
          go_roundw
          case rel => exact ⟨j + 1, _, by omega, by go_num, rfl, ⟨HS.out.1, HS.out.2⟩, ⟨HG.out.os, HG.out.tape, HG.out.output, HG.out.size, HG.out.block⟩⟩
          case measure => simp [intOf]; omega
        · obtain rfl : j = 4 := by omega
          go_wp2_with fail
          go_roundw
          case rel =>
            refine ⟨k + 1, T + x, D, by omega, by go_num, ?_, H1.out.ext fun i hi => by rw [if_pos hi]; exact smd_limb T x i hi, ?_, ?_⟩
            · rw [tot_succ, HR.out.tot, HX.out]; rfl
            · exact (H2.out.block _ HTW.out.lt (by simp)).trans HTW.out
            · exact HBL.out.grown H2.out HBL.out.size (fun q hq => by simp at hq; omega)
          case measure => simp [intOf]; omega
    · obtain rfl : k = n := by omega
      have c0 := HR.out.wd.cell 0 (by omega)
      have c1 := HR.out.wd.cell 1 (by omega)
      have c2 := HR.out.wd.cell 2 (by omega)
      have c3 := HR.out.wd.cell 3 (by omega)
      have l0 := limb_lt T 0
      have l1 := limb_lt T 1
      have l2 := limb_lt T 2
      have l3 := limb_lt T 3
      have hdv := dV_limbs T
      rw [← HR.out.tot] at hdv
      generalize limb T 0 = y0 at *
      generalize limb T 1 = y1 at *
      generalize limb T 2 = y2 at *
      generalize limb T 3 = y3 at *
      obtain ⟨z0, z1, z2, z3⟩ := HR.out.two.facts
      have HDV := Lib.hid hdv
      clear hdv
      go_wp2_with fail
      go_still_tail 17, (by kernel_rfl)
      go_wp2_with fail
      exact ret_two 2 rfl w.heap.size _ _ rfl (HR.out.two.set (.int .u64 ((y2 : Int) + 4294967296 * (y3 : Nat))) (.int .u64 ((y0 : Int) + 4294967296 * (y1 : Nat)))) ⟨by rw [HDV.out], (Two.below HR.out.below (Nat.le_refl _) _ _).drew⟩
end Go.Proofs.Ytddeomdmccnfbaa

/- indentureref03.Between. -/
namespace Go.Proofs.Ytddeomdmccnfbaa
open Go.RowKit

theorem A22w : Try.prog.underlying 80 = some (.slice 35) := by kernel_rfl
theorem I23 : (Try.prog.info? 35).map (fun i => (i.zero, i.size, i.bytes)) = some (some (.int .u64 0), 1, 8) := by kernel_rfl
def wvals (R : List Int) : List Value := R.map fun x => .int .u64 x
theorem wvals_length (R : List Int) : (wvals R).length = R.length := List.length_map ..
theorem wvals_one (R : List Int) : ∀ u ∈ wvals R, u.oneCell' = true := by
  intro u hu
  simp only [wvals, List.mem_map] at hu
  obtain ⟨x, _, rfl⟩ := hu
  rfl
theorem wvals_append (A B : List Int) : wvals (A ++ B) = wvals A ++ wvals B := List.map_append ..
theorem wowns_later {w w' : World} {base : Nat} {v : Value} {n : Nat} {xs : List Value} (h : w.ownsRow base 35 1 v n xs) (hb : Below w.heap.size w w') : w'.ownsRow base 35 1 v n xs := by
  obtain ⟨h1, h2⟩ := h
  refine ⟨h1, h2.imp id ?_⟩
  rintro ⟨g, cap, cur, hv, hg, hh, r⟩
  exact ⟨g, cap, cur, hv, hg, (hb.block _ (Array.getElem?_eq_some_iff.1 hh).1).trans hh, r⟩
theorem words_of_owns {w : World} {base n : Nat} {v : Value} {R : List Int} (h : w.ownsRow base 35 1 v n (wvals R)) (hR : ∀ x ∈ R, 0 ≤ x ∧ x < 18446744073709551616) : ∃ q c, v = .slice q n c ∧ Words w q n c R := by
  have hl : n = R.length := by have := h.1; rw [wvals_length, Nat.mul_one] at this; exact this.symm
  rcases h.2 with ⟨rfl, h0⟩ | ⟨g, cap, cur, rfl, hb, hg, hle, hm, hs, ht⟩
  · subst h0
    have hb : R = [] := List.length_eq_zero_iff.1 hl.symm
    exact ⟨none, 0, rfl, ⟨hl, Nat.le_refl _, hR, Or.inl hb⟩⟩
  · refine ⟨_, cap, rfl, ⟨hl, hle, hR, Or.inr ⟨g, 0, rfl, fun i hi => ?_⟩⟩⟩
    rw [Nat.zero_add, cell_of_row w g i cur _ _ hg]
    have e : (cur.toList.take (n * 1))[i]? = (wvals R)[i]? := by rw [ht]
    rw [List.getElem?_take_of_lt (by omega), Array.getElem?_toList] at e
    rw [e]
    simp [wvals, List.getD_eq_getElem?_getD, hi]
theorem tot_congr (f g : Nat → Int) : ∀ n, (∀ k, k < n → f k = g k) → tot f n = tot g n
  | 0, _ => rfl
  | n + 1, h => by rw [tot_succ, tot_succ, tot_congr f g n (fun k hk => h k (by omega)), h n (by omega)]
/-- The first so many of what a function of the sides tells. -/
def firsts (f : Nat → Int) (k : Nat) : List Int := (List.range k).map f
theorem firsts_length (f : Nat → Int) (k : Nat) : (firsts f k).length = k := by simp [firsts]
theorem firsts_succ (f : Nat → Int) (k : Nat) : firsts f (k + 1) = firsts f k ++ [f k] := by simp [firsts, List.range_succ]
theorem firsts_getD (f : Nat → Int) (n k : Nat) (h : k < n) : (firsts f n).getD k 0 = f k := by simp [firsts, List.getD_eq_getElem?_getD, h]
theorem firsts_ok (f : Nat → Int) (n : Nat) (h : ∀ k, k < n → 0 ≤ f k ∧ f k < 18446744073709551616) : ∀ x ∈ firsts f n, 0 ≤ x ∧ x < 18446744073709551616 := by
  intro x hx
  simp only [firsts, List.mem_map, List.mem_range] at hx
  obtain ⟨k, hk, rfl⟩ := hx
  exact h k hk
theorem wne_owns {w : World} {g base n : Nat} {v : Value} {xs : List Value} (ho : w.ownsRow base 35 1 v n xs) (hg : g < base) : v.ownBlock ≠ some g := by
  intro e
  have := (ho.lt g e).1
  omega
def ListRel (w : World) (b : Nat) (f : Nat → Int) (n : Nat) (v i : Value) (wr : World) : Prop :=
  ∃ k : Nat, k ≤ n ∧ i = .int .i64 k ∧ wr.ownsRow (b + 1) 35 1 v k (wvals (firsts f k)) ∧ Two wr b (.int .u64 0) (.int .u64 0) ∧ Below w.heap.size w wr ∧ b + 1 ≤ wr.heap.size
set_option maxRecDepth 100000 in
set_option maxHeartbeats 1000000 in
theorem refbetween_any (p q : Option Addr) (n c m d : Nat) (R S : List Int) (w : World) (h : Ints w p n c R) (h2 : Ints w q m d S) :
    Calls Try.prog 40 #[.slice p n c, .slice q m d] w fun e w' => e = .returned (.tuple #[dV (btw R S n m), .bool (decide (okP n m))]) ∧ Below w.heap.size w w' := by
  have H := Lib.hid h
  have H2 := Lib.hid h2
  clear h h2
  obtain ⟨hi, lo, hd⟩ := dV_two (btw R S n m)
  rw [hd]
  have HD := Lib.hid hd
  clear hd
  obtain ⟨i23, hi0, hi1, hi2, hi3⟩ := info_parts I23
  have HI := Lib.hid hi0
  have HI0 := Lib.hid hi1
  have HI1 := Lib.hid hi2
  have HI2 := Lib.hid hi3
  clear hi0 hi1 hi2 hi3
  have t0 := zero_two w
  have B0 := Lib.hid (show Below w.heap.size w (w.alloc (.cells #[.int .u64 0, .int .u64 0] 37)) from (Below.refl _ _).alloc (Nat.le_refl _) _)
  have S0 := Lib.hid (show w.heap.size + 1 ≤ (w.alloc (.cells #[.int .u64 0, .int .u64 0] 37)).heap.size from by simp)
  have T0 := Lib.hid t0
  obtain ⟨y0, y1, y2, y3⟩ := t0.facts
  clear t0
  by_cases hok : okP n m
  · have hE : decide (okP n m) = true := decide_eq_true hok
    rw [hE]
    have hB : btw R S n m = tot (fun k => apart (R.getD k 0) (S.getD k 0)) n := by unfold btw; rw [if_pos hok]
    rw [hB] at HD
    obtain ⟨k1, k2, rfl⟩ := hok
    have g1 : ¬ (n : Int) < 1 := by omega
    have g2 : ¬ (8 : Int) < n := by omega
    clear hE hB
    go_enter Try.func40, Try.ntmps40
    go_wp2_with fail
    generalize w.alloc (.cells #[.int .u64 0, .int .u64 0] 37) = w0 at *
    go_loopw [6, 7] (fun v i wr => ListRel w w.heap.size (fun k => apart (R.getD k 0) (S.getD k 0)) n v i wr) (fun _ i _ => n - (intOf i).toNat)
    case atStart => exact ⟨0, by omega, rfl, World.ownsRow_nil _ _ _ _, T0.out, B0.out, S0.out⟩
    case round =>
      obtain ⟨k, hk, rfl, h1, h2, h3, h4⟩ := hrel
      have H1 := Lib.hid h1
      have HT := Lib.hid h2
      have H3 := Lib.hid h3
      have H4 := Lib.hid h4
      clear h1 h2 h3 h4 y0 y1 y2 y3 T0 S0 B0
      by_cases hlt : k < n
      · obtain ⟨gx, o, rfl, hcx⟩ := H.out.cell k hlt
        obtain ⟨gy, o2, rfl, hcy⟩ := H2.out.cell k hlt
        have hx := H.out.get k hlt
        have hy := H2.out.get k hlt
        have hcx := (H3.out.cell (p := ⟨gx, o + k, none⟩) (block_lt_of_cell hcx)).trans hcx
        have hcy := (H3.out.cell (p := ⟨gy, o2 + k, none⟩) (block_lt_of_cell hcy)).trans hcy
        have b1 : (0 : Int) ≤ k ∧ (k : Int) < n := by omega
        have HF := Lib.hid (firsts_succ (fun k => apart (R.getD k 0) (S.getD k 0)) k)
        have hap := apart_word hx hy
        generalize R.getD k 0 = x at *
        generalize S.getD k 0 = y at *
        obtain ⟨z, hz⟩ : ∃ z, z = apart x y := ⟨_, rfl⟩
        rw [← hz] at HF hap
        have HZ := Lib.hid hz
        have ha := fun w => refapart_any x y hx hy w
        rw [← hz] at ha
        have HA := Lib.hid ha
        clear hz hap ha hx hy
        have hba : Below wr.heap.size wr (wr.alloc (.cells #[.int .u64 z] 35)) := (Below.refl _ _).alloc (Nat.le_refl _) _
        have O5 := Lib.hid (show ((wr.alloc (.cells #[.int .u64 z] 35)).drew).ownsRow _ _ _ _ _ _ from wowns_later H1.out hba.drew)
        have T5 := Lib.hid (HT.out.later hba HT.out.lt)
        have B5 := Lib.hid (H3.out.trans (hba.mono H3.out.size))
        have S5 := Lib.hid (Nat.le_trans H4.out hba.size)
        have N5 := Lib.hid (show ∀ j u, (wvals [z])[j]? = some u → ((wr.alloc (.cells #[.int .u64 z] 35)).drew).cell? ((⟨wr.heap.size, 0, none⟩ : Addr).add j) = some u from cell_one_new wr (.int .u64 z) 35)
        clear hba
        go_wp2_with fail
        go_region_law (first
          | (go_simp; go_at_call 54; refine (HA.out _).mono ?_; rintro e w' ⟨rfl, rfl⟩)
          | (rw [if_pos (by rfl)]; refine wp_append_own _ (.tmp 30) (.tmp 40) 80 (by rfl) (w.heap.size + 1) 35 i23 (.int .u64 0) 1 8 A22w HI.out HI0.out HI1.out HI2.out (by rfl) (by decide) _ k _ (by rfl) O5.out ⟨wr.heap.size, 0, none⟩ 1 1 (wvals [z]) (by rfl) (by rw [wvals_length]; rfl) N5.out (wvals_one _) (by unfold maxLen; omega) (by omega) S5.out ?_; intro v7 w7 hown7 hgrow7 _; have O7 := Lib.hid hown7; have G7 := Lib.hid hgrow7; clear hown7 hgrow7))
        all_goals
          have hown8 : w7.ownsRow (w.heap.size + 1) 35 1 v7 (k + 1) (wvals (firsts (fun k => apart (R.getD k 0) (S.getD k 0)) (k + 1))) := by rw [HF.out, wvals_append]; exact O7.out
          have HO8 := Lib.hid hown8
          clear hown8 hcx hcy
          go_wp2_with fail
          go_roundw
          case rel =>
            refine ⟨k + 1, by omega, by go_num, HO8.out, ?_, ?_, Nat.le_trans S5.out G7.out.size⟩
            · exact (G7.out.block _ T5.out.lt (Ne.symm (wne_owns H1.out (by omega)))).trans T5.out
            · exact B5.out.drew.grown G7.out B5.out.size (fun q hq => by have := (H1.out.lt q hq).1; omega)
          case measure => simp [intOf]; omega
      · obtain rfl : k = n := by omega
        obtain ⟨q', c', rfl, hW⟩ := words_of_owns H1.out (firsts_ok _ _ fun j hj => apart_word (H.out.get j hj) (H2.out.get j hj))
        have hs := refsum_any q' k c' _ wr hW (by omega)
        rw [tot_congr _ _ k (fun j hj => firsts_getD _ k j hj), HD.out] at hs
        have HS := Lib.hid hs
        clear hs hW
        go_wp2_with fail
        refine HS.out.mono ?_
        rintro e w5 ⟨rfl, hb5⟩
        have T5 := Lib.hid (HT.out.later hb5 HT.out.lt)
        have B5 := Lib.hid (H3.out.trans (hb5.mono H3.out.size))
        obtain ⟨y0, y1, y2, y3⟩ := T5.out.facts
        clear hb5
        go_wp2_with fail
        exact ret_two2 4 5 rfl w.heap.size _ _ (.bool true) rfl rfl (T5.out.set _ _) ⟨rfl, Two.below B5.out (Nat.le_refl _) _ _⟩
  · have hE : decide (okP n m) = false := decide_eq_false hok
    rw [hE]
    have hB : btw R S n m = 0 := by unfold btw; rw [if_neg hok]
    rw [hB] at HD
    obtain ⟨rfl, rfl⟩ : (0 : Int) = hi ∧ (0 : Int) = lo := by have := HD.out; simpa [dV] using this
    clear hE hB
    by_cases q1 : n < 1
    · have g1 : (n : Int) < 1 := by omega
      clear hok
      go_enter Try.func40, Try.ntmps40
      go_wp2_with fail
      exact ret_two2 4 5 rfl w.heap.size _ _ (.bool false) rfl rfl T0.out ⟨rfl, B0.out⟩
    · have g1 : ¬ (n : Int) < 1 := by omega
      by_cases q2 : 8 < n
      · have g2 : (8 : Int) < n := by omega
        clear hok
        go_enter Try.func40, Try.ntmps40
        go_wp2_with fail
        exact ret_two2 4 5 rfl w.heap.size _ _ (.bool false) rfl rfl T0.out ⟨rfl, B0.out⟩
      · have g2 : ¬ (8 : Int) < n := by omega
        have g3 : ((n : Int) != m) = true := by
          simp only [bne_iff_ne, ne_eq]
          intro h
          exact hok ⟨by omega, by omega, by omega⟩
        clear hok
        go_enter Try.func40, Try.ntmps40
        go_wp2_with fail
        exact ret_two2 4 5 rfl w.heap.size _ _ (.bool false) rfl rfl T0.out ⟨rfl, B0.out⟩
end Go.Proofs.Ytddeomdmccnfbaa

/- Arguments opened: distances, rows, boxes, lists of words. -/
namespace Go.Proofs.Ytddeomdmccnfbaa
open Go.ChangeShapes Go.WideShapes Go.ChangeAt Go.RowKit Go.Deep

def fieldsOf : Option TypeDesc → Option (List (Nat × TypeId))
  | some (.struct fs) => some (fs.toList.map fun f => (f.offset, f.type))
  | _ => none
theorem field_at {fs : Array Field} {l : List (Nat × TypeId)} (h : fs.toList.map (fun f => (f.offset, f.type)) = l) {i o : Nat} {t : TypeId} (hi : l[i]? = some (o, t)) : ∃ f, fs[i]? = some f ∧ f.offset = o ∧ f.type = t := by
  subst h
  rw [List.getElem?_map, Option.map_eq_some_iff] at hi
  obtain ⟨f, hf, he⟩ := hi
  simp only [Prod.mk.injEq] at he
  exact ⟨f, by rw [← Array.getElem?_toList]; exact hf, he.1, he.2⟩
theorem FD : fieldsOf (Try.prog.underlying 37) = some [(0, 35), (1, 35)] := by kernel_rfl
theorem FB : fieldsOf (Try.prog.underlying 25) = some [(0, 23), (1, 23)] := by kernel_rfl
theorem CD : Try.prog.cellsOf 37 = 2 := by kernel_rfl
theorem CB : Try.prog.cellsOf 25 = 2 := by kernel_rfl
theorem C64 : Try.prog.cellsOf 35 = 1 := by kernel_rfl
theorem CI64 : Try.prog.cellsOf 2 = 1 := by kernel_rfl
theorem CRow : Try.prog.cellsOf 23 = 1 := by kernel_rfl
theorem CWs : Try.prog.cellsOf 80 = 1 := by kernel_rfl
theorem UI64 : Try.prog.underlying 2 = some (.int .i64) := by kernel_rfl
theorem UR : Try.prog.underlying 23 = some (.slice 2) := by kernel_rfl
theorem bounds_u64 {n : Int} (h : (Lit.int .u64 n).wf = true) : 0 ≤ n ∧ n < 18446744073709551616 := by
  have hmin : IntKind.u64.min = 0 := rfl
  have hmax : IntKind.u64.max = 18446744073709551615 := rfl
  simp only [Lit.wf, Bool.and_eq_true, decide_eq_true_eq] at h
  omega
section
variable {H : Type} {enc : TypeId × Value → H} {W : World} {base : Nat} {held : Bool} {fuel : Nat} {cs : List Value} {x : DataW H × List MemPlace}
theorem cells_row (h : DataW.trod enc Try.prog W base (fun _ => true) held fuel 23 cs = some x) : ∃ p n c R, cs = [.slice p n c] ∧ Ints W p n c R ∧ n ≤ 9223372036854775807 := by
  rcases open_ints UR UI64 CI64 h with ⟨hcs, _⟩ | ⟨a, len, cap, zs, hcs, _, hl, hm, hz, _, hx, hw⟩
  · exact ⟨_, _, _, [], hcs, ⟨rfl, Nat.le_refl _, fun x hx => by simp at hx, Or.inl rfl⟩, by omega⟩
  · simp only [if_true] at hz
    refine ⟨_, _, _, zs.take len, hcs, ⟨by rw [List.length_take, hz]; exact (Nat.min_eq_left hl).symm, hl, fun y hy => bounds_i64 (hw y (List.mem_of_mem_take hy)), ?_⟩, by unfold maxLen at hm; omega⟩
    rcases Nat.eq_zero_or_pos len with h0 | h0
    · exact Or.inl (by rw [h0, List.take_zero])
    · right
      have hsp := World.cell?_spot (hx 0 (by omega))
      obtain ⟨g, o, spot⟩ := a
      have hspot : spot = none := by simpa [Addr.add] using hsp
      subst hspot
      refine ⟨g, o, rfl, fun i hi => ?_⟩
      rw [List.length_take] at hi
      have := hx i (by omega)
      rw [show (⟨g, o, none⟩ : Addr).add i = ⟨g, o + i, none⟩ from by unfold Addr.add; split <;> simp_all] at this
      rw [this, List.getD_eq_getElem?_getD, List.getD_eq_getElem?_getD, List.getElem?_take_of_lt (by omega)]
theorem cells_words (h : DataW.trod enc Try.prog W base (fun _ => true) held fuel 80 cs = some x) : ∃ p n c R, cs = [.slice p n c] ∧ Words W p n c R ∧ n ≤ 9223372036854775807 := by
  rcases open_ints A22w U23 C64 h with ⟨hcs, _⟩ | ⟨a, len, cap, zs, hcs, _, hl, hm, hz, _, hx, hw⟩
  · exact ⟨_, _, _, [], hcs, ⟨rfl, Nat.le_refl _, fun x hx => by simp at hx, Or.inl rfl⟩, by omega⟩
  · simp only [if_true] at hz
    refine ⟨_, _, _, zs.take len, hcs, ⟨by rw [List.length_take, hz]; exact (Nat.min_eq_left hl).symm, hl, fun y hy => bounds_u64 (hw y (List.mem_of_mem_take hy)), ?_⟩, by unfold maxLen at hm; omega⟩
    rcases Nat.eq_zero_or_pos len with h0 | h0
    · exact Or.inl (by rw [h0, List.take_zero])
    · right
      have hsp := World.cell?_spot (hx 0 (by omega))
      obtain ⟨g, o, spot⟩ := a
      have hspot : spot = none := by simpa [Addr.add] using hsp
      subst hspot
      refine ⟨g, o, rfl, fun i hi => ?_⟩
      rw [List.length_take] at hi
      have := hx i (by omega)
      rw [show (⟨g, o, none⟩ : Addr).add i = ⟨g, o + i, none⟩ from by unfold Addr.add; split <;> simp_all] at this
      rw [this, List.getD_eq_getElem?_getD, List.getD_eq_getElem?_getD, List.getElem?_take_of_lt (by omega)]
theorem cells_dist (h : DataW.trod enc Try.prog W base (fun _ => true) held fuel 37 cs = some x) : ∃ N : Nat, N < 340282366920938463463374607431768211456 ∧ cs = (dRow N).toList := by
  have hp := FD
  unfold fieldsOf at hp
  split at hp
  case h_2 => cases hp
  case h_1 fs hu =>
  simp only [Option.some.injEq] at hp
  obtain ⟨xs, n, _, _, hlen, hxs, hf⟩ := DataW.trod_struct hu h
  rw [CD] at hlen
  have get : ∀ (i o : Nat) (t : TypeId), ([(0, 35), (1, 35)] : List (Nat × TypeId))[i]? = some (o, t) →
      ∃ y, DataW.trod enc Try.prog W base (fun _ => true) held n t ((cs.drop o).take (Try.prog.cellsOf t)) = some y := fun i o t hi => by
    obtain ⟨f, h1, h2, h3⟩ := field_at hp hi
    have h4 := hf i f h1
    rw [h2, h3] at h4
    have hlt : i < xs.length := by rw [hxs]; exact (Array.getElem?_eq_some_iff.1 h1).1
    exact ⟨xs[i], by rw [h4, List.getElem?_eq_getElem hlt]⟩
  obtain ⟨y0, h0⟩ := get 0 0 _ rfl
  obtain ⟨y1, h1⟩ := get 1 1 _ rfl
  rw [C64] at h0 h1
  obtain ⟨a0, e0, _, w0⟩ := DataW.trod_int U23 h0
  obtain ⟨a1, e1, _, w1⟩ := DataW.trod_int U23 h1
  have b0 := bounds_u64 w0
  have b1 := bounds_u64 w1
  match cs, hlen with
  | [c0, c1], _ =>
    simp at e0 e1
    refine ⟨(a0 * 18446744073709551616 + a1).toNat, by omega, ?_⟩
    unfold dRow
    simp only [e0, e1]
    have k0 : (((a0 * 18446744073709551616 + a1).toNat : Nat) : Int) = a0 * 18446744073709551616 + a1 := by omega
    rw [k0]
    congr 2
    · omega
    · congr 1
      omega
theorem cells_box (h : DataW.trod enc Try.prog W base (fun _ => true) held fuel 25 cs = some x) : ∃ p n c R q m d S, cs = [.slice p n c, .slice q m d] ∧ Ints W p n c R ∧ Ints W q m d S ∧ n ≤ 9223372036854775807 ∧ m ≤ 9223372036854775807 := by
  have hp := FB
  unfold fieldsOf at hp
  split at hp
  case h_2 => cases hp
  case h_1 fs hu =>
  simp only [Option.some.injEq] at hp
  obtain ⟨xs, n, _, _, hlen, hxs, hf⟩ := DataW.trod_struct hu h
  rw [CB] at hlen
  have get : ∀ (i o : Nat) (t : TypeId), ([(0, 23), (1, 23)] : List (Nat × TypeId))[i]? = some (o, t) →
      ∃ y, DataW.trod enc Try.prog W base (fun _ => true) held n t ((cs.drop o).take (Try.prog.cellsOf t)) = some y := fun i o t hi => by
    obtain ⟨f, h1, h2, h3⟩ := field_at hp hi
    have h4 := hf i f h1
    rw [h2, h3] at h4
    have hlt : i < xs.length := by rw [hxs]; exact (Array.getElem?_eq_some_iff.1 h1).1
    exact ⟨xs[i], by rw [h4, List.getElem?_eq_getElem hlt]⟩
  obtain ⟨y0, h0⟩ := get 0 0 _ rfl
  obtain ⟨y1, h1⟩ := get 1 1 _ rfl
  rw [CRow] at h0 h1
  obtain ⟨p, n, c, R, e0, hR, hn⟩ := cells_row h0
  obtain ⟨q, m, d, S, e1, hS, hm⟩ := cells_row h1
  match cs, hlen with
  | [c0, c1], _ =>
    simp at e0 e1
    exact ⟨p, n, c, R, q, m, d, S, by rw [e0, e1], hR, hS, hn, hm⟩
end
theorem open_dist {H : Type} {enc : TypeId × Value → H} {W : World} {base b0 : Nat} {held : Bool} {r : Reach} {v : Value} {d : DataW H} {ps : List MemPlace}
    (hv : Value.okWide Try.prog W r b0 37 v) (h : DataW.Trod enc Try.prog W base (fun _ => true) held 37 v d ps) : ∃ N : Nat, N < 340282366920938463463374607431768211456 ∧ v = dV N := by
  have hp := FD
  unfold fieldsOf at hp
  split at hp
  case h_2 => cases hp
  case h_1 fs hu =>
  simp only [Value.okWide, hu] at hv
  obtain ⟨cs, rfl, _, _⟩ := hv
  obtain ⟨fuel, hf⟩ := h
  obtain ⟨N, hN, e⟩ := cells_dist hf
  exact ⟨N, hN, congrArg Value.agg (Array.ext' e)⟩
theorem open_box {H : Type} {enc : TypeId × Value → H} {W : World} {base b0 : Nat} {held : Bool} {r : Reach} {v : Value} {d : DataW H} {ps : List MemPlace}
    (hv : Value.okWide Try.prog W r b0 25 v) (h : DataW.Trod enc Try.prog W base (fun _ => true) held 25 v d ps) : ∃ p n c R q m e S, v = .agg #[.slice p n c, .slice q m e] ∧ Ints W p n c R ∧ Ints W q m e S ∧ n ≤ 9223372036854775807 ∧ m ≤ 9223372036854775807 := by
  have hp := FB
  unfold fieldsOf at hp
  split at hp
  case h_2 => cases hp
  case h_1 fs hu =>
  simp only [Value.okWide, hu] at hv
  obtain ⟨cs, rfl, _, _⟩ := hv
  obtain ⟨fuel, hf⟩ := h
  obtain ⟨p, n, c, R, q, m, e, S, he, hR, hS, hn, hm⟩ := cells_box hf
  exact ⟨p, n, c, R, q, m, e, S, congrArg Value.agg (Array.ext' he), hR, hS, hn, hm⟩
theorem open_row {H : Type} {enc : TypeId × Value → H} {W : World} {base b0 : Nat} {held : Bool} {r : Reach} {v : Value} {d : DataW H} {ps : List MemPlace}
    (hv : Value.okWide Try.prog W r b0 23 v) (h : DataW.Trod enc Try.prog W base (fun _ => true) held 23 v d ps) : ∃ p n c R, v = .slice p n c ∧ Ints W p n c R ∧ n ≤ 9223372036854775807 := by
  obtain ⟨a, len, cap, rfl⟩ := okWide_slice UR hv
  obtain ⟨fuel, hf⟩ := h
  obtain ⟨p, n, c, R, he, hR, hn⟩ := cells_row hf
  simp [Value.cells] at he
  obtain ⟨rfl, rfl, rfl⟩ := he
  exact ⟨_, _, _, R, rfl, hR, hn⟩
theorem open_words {H : Type} {enc : TypeId × Value → H} {W : World} {base b0 : Nat} {held : Bool} {r : Reach} {v : Value} {d : DataW H} {ps : List MemPlace}
    (hv : Value.okWide Try.prog W r b0 80 v) (h : DataW.Trod enc Try.prog W base (fun _ => true) held 80 v d ps) : ∃ p n c R, v = .slice p n c ∧ Words W p n c R ∧ n ≤ 9223372036854775807 := by
  obtain ⟨a, len, cap, rfl⟩ := okWide_slice A22w hv
  obtain ⟨fuel, hf⟩ := h
  obtain ⟨p, n, c, R, he, hR, hn⟩ := cells_words hf
  simp [Value.cells] at he
  obtain ⟨rfl, rfl, rfl⟩ := he
  exact ⟨_, _, _, R, rfl, hR, hn⟩
end Go.Proofs.Ytddeomdmccnfbaa

/- Arguments opened: orders of rows. -/
namespace Go.Proofs.Ytddeomdmccnfbaa
open Go.ChangeShapes Go.WideShapes Go.ChangeAt Go.RowKit Go.Deep

theorem FO : fieldsOf (Try.prog.underlying 34) = some [(0, 5), (1, 3), (2, 23)] := by kernel_rfl
theorem CO : Try.prog.cellsOf 34 = 3 := by kernel_rfl
theorem CU8 : Try.prog.cellsOf 5 = 1 := by kernel_rfl
theorem CInt : Try.prog.cellsOf 3 = 1 := by kernel_rfl
theorem UU8 : Try.prog.underlying 5 = some (.int .u8) := by kernel_rfl
theorem UInt : Try.prog.underlying 3 = some (.int .i64) := by kernel_rfl
section
variable {H : Type} {enc : TypeId × Value → H} {W : World} {base : Nat} {held : Bool} {fuel : Nat} {cs : List Value} {x : DataW H × List MemPlace}
theorem cells_order (h : DataW.trod enc Try.prog W base (fun _ => true) held fuel 34 cs = some x) : ∃ kd cl p n c R, cs = [.int .u8 kd, .int .i64 cl, .slice p n c] ∧ (0 ≤ kd ∧ kd ≤ 255) ∧ (-9223372036854775808 ≤ cl ∧ cl ≤ 9223372036854775807) ∧ Ints W p n c R ∧ n ≤ 9223372036854775807 := by
  have hp := FO
  unfold fieldsOf at hp
  split at hp
  case h_2 => cases hp
  case h_1 fs hu =>
  simp only [Option.some.injEq] at hp
  obtain ⟨xs, n, _, _, hlen, hxs, hf⟩ := DataW.trod_struct hu h
  rw [CO] at hlen
  have get : ∀ (i o : Nat) (t : TypeId), ([(0, 5), (1, 3), (2, 23)] : List (Nat × TypeId))[i]? = some (o, t) →
      ∃ y, DataW.trod enc Try.prog W base (fun _ => true) held n t ((cs.drop o).take (Try.prog.cellsOf t)) = some y := fun i o t hi => by
    obtain ⟨f, h1, h2, h3⟩ := field_at hp hi
    have h4 := hf i f h1
    rw [h2, h3] at h4
    have hlt : i < xs.length := by rw [hxs]; exact (Array.getElem?_eq_some_iff.1 h1).1
    exact ⟨xs[i], by rw [h4, List.getElem?_eq_getElem hlt]⟩
  obtain ⟨y0, h0⟩ := get 0 0 _ rfl
  obtain ⟨y1, h1⟩ := get 1 1 _ rfl
  obtain ⟨y2, h2⟩ := get 2 2 _ rfl
  rw [CU8] at h0
  rw [CInt] at h1
  rw [CRow] at h2
  obtain ⟨kd, e0, _, w0⟩ := DataW.trod_int UU8 h0
  obtain ⟨cl, e1, _, w1⟩ := DataW.trod_int UInt h1
  obtain ⟨p, m, c, R, e2, hR, hm⟩ := cells_row h2
  have b0 := bounds_u8 w0
  have b1 := bounds_i64 w1
  match cs, hlen with
  | [c0, c1, c2], _ =>
    simp at e0 e1 e2
    exact ⟨kd, cl, p, m, c, R, by rw [e0, e1, e2], by omega, by omega, hR, hm⟩
end
theorem open_order {H : Type} {enc : TypeId × Value → H} {W : World} {base b0 : Nat} {held : Bool} {r : Reach} {v : Value} {d : DataW H} {ps : List MemPlace}
    (hv : Value.okWide Try.prog W r b0 34 v) (h : DataW.Trod enc Try.prog W base (fun _ => true) held 34 v d ps) : ∃ kd cl p n c R, v = .agg #[.int .u8 kd, .int .i64 cl, .slice p n c] ∧ (0 ≤ kd ∧ kd ≤ 255) ∧ (-9223372036854775808 ≤ cl ∧ cl ≤ 9223372036854775807) ∧ Ints W p n c R ∧ n ≤ 9223372036854775807 := by
  have hp := FO
  unfold fieldsOf at hp
  split at hp
  case h_2 => cases hp
  case h_1 fs hu =>
  simp only [Value.okWide, hu] at hv
  obtain ⟨cs, rfl, _, _⟩ := hv
  obtain ⟨fuel, hf⟩ := h
  obtain ⟨kd, cl, p, n, c, R, he, hk, hc, hR, hn⟩ := cells_order hf
  exact ⟨kd, cl, p, n, c, R, congrArg Value.agg (Array.ext' he), hk, hc, hR, hn⟩
end Go.Proofs.Ytddeomdmccnfbaa

/- indentureref04.Right. -/
namespace Go.Proofs.Ytddeomdmccnfbaa
open Go.RowKit

/-- Whether of the first so many numbers none is above the other list's. -/
def les (R S : List Int) : Nat → Bool
  | 0 => true
  | k + 1 => les R S k && decide (R.getD k 0 ≤ S.getD k 0)
theorem les_iff (R S : List Int) : ∀ n, les R S n = true ↔ ∀ k, k < n → R.getD k 0 ≤ S.getD k 0
  | 0 => ⟨fun _ k hk => by omega, fun _ => rfl⟩
  | n + 1 => by
    show (les R S n && decide (R.getD n 0 ≤ S.getD n 0)) = true ↔ _
    rw [Bool.and_eq_true, les_iff R S n, decide_eq_true_eq]
    constructor
    · rintro ⟨h1, h2⟩ k hk
      by_cases hkn : k = n
      · rw [hkn]; exact h2
      · exact h1 k (by omega)
    · intro h
      exact ⟨fun k hk => h k (by omega), h n (by omega)⟩
/-- Whether a box of such corners is right for so many dimensions. -/
def rightB (R S : List Int) (n m : Nat) (d : Int) : Bool := decide (1 ≤ d ∧ d ≤ 8 ∧ (n : Int) = d ∧ (m : Int) = d) && les R S n
theorem rightB_not {R S : List Int} {n m : Nat} {d : Int} (h : ¬ (1 ≤ d ∧ d ≤ 8 ∧ (n : Int) = d ∧ (m : Int) = d)) : rightB R S n m d = false := by
  unfold rightB
  rw [decide_eq_false h, Bool.false_and]
theorem rightB_les {R S : List Int} {n : Nat} (h : 1 ≤ n ∧ n ≤ 8) : rightB R S n n n = les R S n := by
  unfold rightB
  rw [decide_eq_true (by omega), Bool.true_and]
def RightRel (w0 : World) (R S : List Int) (n : Nat) (i : Value) (wr : World) : Prop := ∃ k j : Nat, k ≤ n ∧ i = .int .i64 k ∧ les R S k = true ∧ wr = w0.drewN j
theorem les_false {R S : List Int} {k n : Nat} (hk : k < n) (h : ¬ R.getD k 0 ≤ S.getD k 0) : les R S n = false := by
  cases e : les R S n with
  | false => rfl
  | true => exact absurd ((les_iff R S n).1 e k hk) h
theorem pair_alloc (w : World) (v u : Value) (t : TypeId) : (w.alloc (.cells #[v, u] t)).cell? ⟨w.heap.size, 0, none⟩ = some v ∧ (w.alloc (.cells #[v, u] t)).cell? ⟨w.heap.size, 1, none⟩ = some u :=
  ⟨cell_of_row _ _ 0 _ t (0, 0) (heap_alloc_new w _), cell_of_row _ _ 1 _ t (0, 0) (heap_alloc_new w _)⟩
set_option maxRecDepth 100000 in
set_option maxHeartbeats 1000000 in
theorem refright_any (p q : Option Addr) (n c m e : Nat) (R S : List Int) (d : Int) (w : World) (h : Ints w p n c R) (h2 : Ints w q m e S) :
    Calls Try.prog 9 #[.agg #[.slice p n c, .slice q m e], .int .i64 d] w fun e w' => e = .returned (.bool (rightB R S n m d)) ∧ Below w.heap.size w w' := by
  have hb : Below w.heap.size w (w.alloc (.cells #[.slice p n c, .slice q m e] 25)) := (Below.refl _ _).alloc (Nat.le_refl _) _
  obtain ⟨e0, e1⟩ := pair_alloc w (.slice p n c) (.slice q m e) 25
  have H1 := Lib.hid (h.later hb)
  have H2 := Lib.hid (h2.later hb)
  have HB := Lib.hid hb
  clear h h2 hb
  by_cases hd1 : d < 1
  · rw [rightB_not (by omega)]
    go_enter Try.func9, Try.ntmps9
    go_wp2_with fail
    go_ret
    exact ⟨rfl, HB.out⟩
  by_cases hd2 : 8 < d
  · rw [rightB_not (by omega)]
    go_enter Try.func9, Try.ntmps9
    go_wp2_with fail
    go_ret
    exact ⟨rfl, HB.out⟩
  by_cases hn : (n : Int) = d
  case neg =>
    rw [rightB_not (fun h => hn h.2.2.1)]
    go_enter Try.func9, Try.ntmps9
    go_wp2_with fail
    go_ret
    exact ⟨rfl, HB.out⟩
  by_cases hm : (m : Int) = d
  case neg =>
    rw [rightB_not (fun h => hm h.2.2.2)]
    go_enter Try.func9, Try.ntmps9
    go_wp2_with fail
    go_ret
    exact ⟨rfl, HB.out⟩
  subst hn
  obtain rfl : m = n := by omega
  rw [rightB_les (by omega)]
  clear hm
  go_enter Try.func9, Try.ntmps9
  go_wp2_with fail
  have HE0 := Lib.hid e0
  have HE1 := Lib.hid e1
  generalize hw0 : w.alloc (.cells #[.slice p m c, .slice q m e] 25) = w0 at *
  clear hw0
  go_loopw [5] (fun i wr => RightRel w0 R S m i wr) (fun i _ => m - (intOf i).toNat)
  case atStart => exact ⟨0, 0, by omega, rfl, rfl, rfl⟩
  case round =>
    obtain ⟨k, j, hk, rfl, hles, rfl⟩ := hrel
    have HL := Lib.hid hles
    clear hles
    by_cases hlt : k < m
    · obtain ⟨gx, o, rfl, hcx⟩ := H1.out.cell k hlt
      obtain ⟨gy, o2, rfl, hcy⟩ := H2.out.cell k hlt
      have i1 : (0 : Int) ≤ k ∧ (k : Int) < m := by omega
      have hf := fun h => les_false (R := R) (S := S) hlt h
      have hs : les R S (k + 1) = (les R S k && decide (R.getD k 0 ≤ S.getD k 0)) := rfl
      have HF := Lib.hid hf
      have HS := Lib.hid hs
      clear hf hs
      generalize R.getD k 0 = x at *
      generalize S.getD k 0 = y at *
      by_cases hgt : y < x
      · have hfl := HF.out (by omega)
        have HFL := Lib.hid hfl
        clear HF HS hfl
        go_upto_region 6 with fail
        go_quiet (fail)
        go_wp2_with fail
        go_ret
        exact ⟨congrArg (fun b => Ending.returned (.bool b)) HFL.out.symm, Below.drewN (Below.drewN HB.out _) _⟩
      · go_upto_region 6 with fail
        go_quiet (fail)
        go_wp2_with fail
        go_roundw
        case rel => exact ⟨k + 1, j + nq, by omega, by go_num, by rw [HS.out, HL.out, decide_eq_true (by omega)]; rfl, rfl⟩
        case measure => simp [intOf]; omega
    · obtain rfl : k = m := by omega
      go_wp2_with fail
      go_ret
      exact ⟨congrArg (fun b => Ending.returned (.bool b)) HL.out.symm, Below.drewN HB.out _⟩
end Go.Proofs.Ytddeomdmccnfbaa

/- Plain arithmetic of distances: no Go in sight. -/
namespace Go.Proofs.Ytddeomdmccnfbaa

theorem apart_comm (a b : Int) : apart a b = apart b a := by unfold apart; split <;> split <;> omega
theorem apart_tri (a b c : Int) : apart a b ≤ apart a c + apart c b := by unfold apart; split <;> split <;> split <;> omega
theorem apart_nonneg (a b : Int) : 0 ≤ apart a b := by unfold apart; split <;> omega
theorem apart_zero (a b : Int) : apart a b = 0 ↔ a = b := by unfold apart; split <;> omega
theorem tot_nonneg (f : Nat → Int) : ∀ n, (∀ k, k < n → 0 ≤ f k) → 0 ≤ tot f n
  | 0, _ => Int.le_refl 0
  | n + 1, h => by
    have := tot_nonneg f n (fun k hk => h k (by omega))
    have := h n (by omega)
    rw [tot_succ]; omega
theorem tot_lt (f : Nat → Int) : ∀ n : Nat, (∀ k, k < n → f k < 18446744073709551616) → tot f n ≤ n * 18446744073709551616
  | 0, _ => by show (0 : Int) ≤ _; omega
  | n + 1, h => by
    have := tot_lt f n (fun k hk => h k (by omega))
    have := h n (by omega)
    rw [tot_succ]; omega
theorem tot_mono (f g : Nat → Int) : ∀ n, (∀ k, k < n → f k ≤ g k) → tot f n ≤ tot g n
  | 0, _ => Int.le_refl 0
  | n + 1, h => by
    have := tot_mono f g n (fun k hk => h k (by omega))
    have := h n (by omega)
    rw [tot_succ, tot_succ]; omega
theorem tot_add (f g : Nat → Int) : ∀ n, tot (fun k => f k + g k) n = tot f n + tot g n
  | 0 => rfl
  | n + 1 => by
    have := tot_add f g n
    rw [tot_succ, tot_succ, tot_succ, this]; omega
theorem tot_zero (f : Nat → Int) : ∀ n, (∀ k, k < n → 0 ≤ f k) → (tot f n = 0 ↔ ∀ k, k < n → f k = 0)
  | 0, _ => ⟨fun _ k hk => by omega, fun _ => rfl⟩
  | n + 1, h => by
    have ih := tot_zero f n (fun k hk => h k (by omega))
    have h1 := tot_nonneg f n (fun k hk => h k (by omega))
    have h2 := h n (by omega)
    rw [tot_succ]
    constructor
    · intro e k hk
      have e1 : tot f n = 0 := by omega
      have e2 : f n = 0 := by omega
      by_cases hkn : k = n
      · rw [hkn]; exact e2
      · exact ih.1 e1 k (by omega)
    · intro e
      rw [ih.2 (fun k hk => e k (by omega)), e n (by omega)]
      rfl
/-- Whether the first so many numbers are the same. -/
def eqs (P Q : List Int) : Nat → Bool
  | 0 => true
  | k + 1 => eqs P Q k && (P.getD k 0 == Q.getD k 0)
theorem eqs_iff (P Q : List Int) : ∀ n, eqs P Q n = true ↔ ∀ k, k < n → P.getD k 0 = Q.getD k 0
  | 0 => ⟨fun _ k hk => by omega, fun _ => rfl⟩
  | n + 1 => by
    show (eqs P Q n && (P.getD n 0 == Q.getD n 0)) = true ↔ _
    rw [Bool.and_eq_true, eqs_iff P Q n, beq_iff_eq]
    constructor
    · rintro ⟨h1, h2⟩ k hk
      by_cases hkn : k = n
      · rw [hkn]; exact h2
      · exact h1 k (by omega)
    · intro h
      exact ⟨fun k hk => h k (by omega), h n (by omega)⟩
theorem zero_eqs (P Q : List Int) (n : Nat) : tot (fun k => apart (P.getD k 0) (Q.getD k 0)) n = 0 ↔ eqs P Q n = true := by
  rw [tot_zero _ n (fun k _ => apart_nonneg _ _), eqs_iff]
  exact ⟨fun h k hk => (apart_zero _ _).1 (h k hk), fun h k hk => (apart_zero _ _).2 (h k hk)⟩
theorem dV_inj {a : Int} {hi lo : Int} (h : dV a = .agg #[.int .u64 hi, .int .u64 lo]) : hi = a / 18446744073709551616 % 18446744073709551616 ∧ lo = a % 18446744073709551616 := by
  unfold dV at h
  simp only [Value.agg.injEq, Array.mk.injEq, List.cons.injEq, Value.int.injEq, true_and, and_true] at h
  exact ⟨h.1.symm, h.2.symm⟩
theorem dcmp_le {a b : Int} (h0 : 0 ≤ a) (h : a ≤ b) (hb : b < 340282366920938463463374607431768211456) {a1 a0 b1 b0 : Int} (ha : dV a = .agg #[.int .u64 a1, .int .u64 a0]) (hbb : dV b = .agg #[.int .u64 b1, .int .u64 b0]) : dcmp a1 a0 b1 b0 ≤ 0 := by
  obtain ⟨rfl, rfl⟩ := dV_inj ha
  obtain ⟨rfl, rfl⟩ := dV_inj hbb
  unfold dcmp
  split
  · omega
  · split
    · omega
    · rename_i h1 h2
      exfalso
      omega
theorem dV_eq_zero {a : Int} (h0 : 0 ≤ a) (hb : a < 340282366920938463463374607431768211456) {a1 a0 : Int} (ha : dV a = .agg #[.int .u64 a1, .int .u64 a0]) : decide (a1 = 0 ∧ a0 = 0) = decide (a = 0) := by
  obtain ⟨rfl, rfl⟩ := dV_inj ha
  rw [Bool.eq_iff_iff, decide_eq_true_iff, decide_eq_true_iff]
  omega
/-- d's high word on top of c and d's low word. -/
theorem add_high (c d c1 c0 d1 d0 b1 b0 : Int) (hd : dV d = .agg #[.int .u64 d1, .int .u64 d0]) (hb : dV (c + d0) = .agg #[.int .u64 b1, .int .u64 b0]) : dV (c + d) = .agg #[.int .u64 ((b1 + d1) % 18446744073709551616), .int .u64 b0] := by
  obtain ⟨rfl, rfl⟩ := dV_inj hd
  obtain ⟨rfl, rfl⟩ := dV_inj hb
  have e : (c + d) / 18446744073709551616 = (c + d % 18446744073709551616) / 18446744073709551616 + d / 18446744073709551616 := by omega
  have e2 : (c + d) % 18446744073709551616 = (c + d % 18446744073709551616) % 18446744073709551616 := by omega
  unfold dV
  rw [e, e2, Int.add_emod]
end Go.Proofs.Ytddeomdmccnfbaa

/- indentureref04: SameRow, Same, Has. -/
namespace Go.Proofs.Ytddeomdmccnfbaa
open Go.RowKit

theorem eqs_eq {R S : List Int} (h : R.length = S.length) (he : eqs R S R.length = true) : R = S := by
  apply List.ext_getElem h
  intro i h1 h2
  have := (eqs_iff R S R.length).1 he i h1
  simpa [List.getD_eq_getElem?_getD, h1, h2] using this
def SamRel (w : World) (R S : List Int) (n : Nat) (i : Value) (wr : World) : Prop := ∃ k j : Nat, k ≤ n ∧ i = .int .i64 k ∧ eqs R S k = true ∧ wr = w.drewN j
theorem ret_dec {p : Prop} [Decidable p] (h : p) : Ending.returned (.bool true) = Ending.returned (.bool (decide p)) := by rw [decide_eq_true h]
theorem ret_ndec {p : Prop} [Decidable p] (h : ¬ p) : Ending.returned (.bool false) = Ending.returned (.bool (decide p)) := by rw [decide_eq_false h]
set_option maxRecDepth 100000 in
set_option maxHeartbeats 1000000 in
theorem samerow_any (p q : Option Addr) (n c m e : Nat) (R S : List Int) (w : World) (h : Ints w p n c R) (h2 : Ints w q m e S) (hn9 : n ≤ 9223372036854775807) :
    Calls Try.prog 47 #[.slice p n c, .slice q m e] w fun e w' => e = .returned (.bool (decide (R = S))) ∧ ∃ j, w' = w.drewN j := by
  have H1 := Lib.hid h
  have H2 := Lib.hid h2
  clear h h2
  by_cases hn : (n : Int) = m
  case neg =>
    have hne : ¬ R = S := fun h => hn (by rw [H1.out.size, H2.out.size, h])
    have HNE := Lib.hid hne
    clear hne
    go_enter Try.func47, Try.ntmps47
    go_wp2_with fail
    go_ret
    exact ⟨ret_ndec HNE.out, 0, rfl⟩
  obtain rfl : m = n := by omega
  go_enter Try.func47, Try.ntmps47
  go_wp2_with fail
  go_loopw [5] (fun i wr => SamRel w R S m i wr) (fun i _ => m - (intOf i).toNat)
  case atStart => exact ⟨0, 0, by omega, rfl, rfl, rfl⟩
  case round =>
    obtain ⟨k, j, hk, rfl, heq, rfl⟩ := hrel
    have HL := Lib.hid heq
    clear heq
    by_cases hlt : k < m
    · obtain ⟨gx, o, rfl, hcx⟩ := H1.out.cell k hlt
      obtain ⟨gy, o2, rfl, hcy⟩ := H2.out.cell k hlt
      have i1 : (0 : Int) ≤ k ∧ (k : Int) < m := by omega
      have hs : eqs R S (k + 1) = (eqs R S k && (R.getD k 0 == S.getD k 0)) := rfl
      have HS := Lib.hid hs
      have HF := Lib.hid (show ¬ R.getD k 0 = S.getD k 0 → ¬ R = S from fun h h3 => h (by rw [h3]))
      clear hs
      generalize R.getD k 0 = x at *
      generalize S.getD k 0 = y at *
      by_cases hxy : x = y
      · subst hxy
        go_upto_region 6 with fail
        go_quiet (fail)
        go_wp2_with fail
        go_roundw
        case rel => exact ⟨k + 1, j + nq, by omega, by go_num, by rw [HS.out, HL.out]; simp, rfl⟩
        case measure => simp [intOf]; omega
      · go_upto_region 6 with fail
        go_quiet (fail)
        go_wp2_with fail
        go_ret
        exact ⟨ret_ndec (HF.out hxy), j + nq, by first | rfl | (simp only [World.drewN]; done) | simp [World.drewN_drewN]⟩
    · obtain rfl : k = m := by omega
      have he := HL.out
      rw [H1.out.size] at he
      have HE := Lib.hid (eqs_eq (H1.out.size.symm.trans H2.out.size) he)
      clear he
      go_wp2_with fail
      go_ret
      exact ⟨ret_dec HE.out, _, rfl⟩
/-- Whether a point is in a box. -/
def hasB (R S P : List Int) (n m l : Nat) : Bool := rightB R S n m l && (les R P l && les P S l)
theorem hasB_not {R S P : List Int} {n m l : Nat} (h : rightB R S n m l = false) : hasB R S P n m l = false := by unfold hasB; rw [h, Bool.false_and]
theorem hasB_right {R S P : List Int} {n m l : Nat} (h : rightB R S n m l = true) : hasB R S P n m l = (les R P l && les P S l) := by unfold hasB; rw [h, Bool.true_and]
theorem rightB_dims {R S : List Int} {n m : Nat} {d : Int} (h : rightB R S n m d = true) : 1 ≤ d ∧ d ≤ 8 ∧ (n : Int) = d ∧ (m : Int) = d := by
  unfold rightB at h
  rw [Bool.and_eq_true, decide_eq_true_eq] at h
  exact h.1
def HasRel (w1 : World) (R S P : List Int) (n : Nat) (i : Value) (wr : World) : Prop := ∃ k j : Nat, k ≤ n ∧ i = .int .i64 k ∧ les R P k = true ∧ les P S k = true ∧ wr = w1.drewN j
set_option maxRecDepth 100000 in
set_option maxHeartbeats 1000000 in
theorem refhas_any (p q s : Option Addr) (n c m e l f : Nat) (R S P : List Int) (w : World) (h : Ints w p n c R) (h2 : Ints w q m e S) (h3 : Ints w s l f P) :
    Calls Try.prog 10 #[.agg #[.slice p n c, .slice q m e], .slice s l f] w fun e w' => e = .returned (.bool (hasB R S P n m l)) ∧ Below w.heap.size w w' := by
  have hb : Below w.heap.size w (w.alloc (.cells #[.slice p n c, .slice q m e] 25)) := (Below.refl _ _).alloc (Nat.le_refl _) _
  obtain ⟨e0, e1⟩ := pair_alloc w (.slice p n c) (.slice q m e) 25
  have H1 := Lib.hid (h.later hb)
  have H2 := Lib.hid (h2.later hb)
  have H3 := Lib.hid (h3.later hb)
  have HB := Lib.hid hb
  clear h h2 h3 hb
  go_enter Try.func10, Try.ntmps10
  go_upto_region 1 with fail
  have hs0 : w.heap.size < (w.alloc (.cells #[.slice p n c, .slice q m e] 25)).heap.size := by simp
  generalize w.alloc (.cells #[.slice p n c, .slice q m e] 25) = w0 at *
  have HS0 := Lib.hid hs0
  clear hs0
  go_wp2_with fail
  refine (refright_any p q n c m e R S l w0 H1.out H2.out).mono ?_
  rintro _ w1 ⟨rfl, hb1⟩
  have f0 := (hb1.cell (p := ⟨w.heap.size, 0, none⟩) HS0.out).trans e0
  have f1 := (hb1.cell (p := ⟨w.heap.size, 1, none⟩) HS0.out).trans e1
  have G1 := Lib.hid (H1.out.later hb1)
  have G2 := Lib.hid (H2.out.later hb1)
  have G3 := Lib.hid (H3.out.later hb1)
  have B1 := Lib.hid (HB.out.trans (hb1.mono HB.out.size))
  clear hb1 e0 e1 H1 H2 H3 HB HS0
  by_cases hr : rightB R S n m l = true
  case neg =>
    have hr0 : rightB R S n m l = false := by simpa using hr
    have HH := Lib.hid (hasB_not (P := P) hr0)
    rw [hr0]
    clear hr hr0
    go_wp2_with fail
    go_ret
    exact ⟨congrArg (fun b => Ending.returned (.bool b)) HH.out.symm, B1.out⟩
  obtain ⟨d1, d2, d3, d4⟩ := rightB_dims hr
  have HH := Lib.hid (hasB_right (P := P) hr)
  rw [hr]
  obtain rfl : n = l := by omega
  obtain rfl : m = n := by omega
  clear hr d3 d4
  go_wp2_with fail
  go_loopw [5] (fun i wr => HasRel w1 R S P m i wr) (fun i _ => m - (intOf i).toNat)
  case atStart => exact ⟨0, 0, by omega, rfl, rfl, rfl, rfl⟩
  case round =>
    obtain ⟨k, j, hk, rfl, hl1, hl2, rfl⟩ := hrel
    have HL1 := Lib.hid hl1
    have HL2 := Lib.hid hl2
    clear hl1 hl2
    by_cases hlt : k < m
    · obtain ⟨gx, o, rfl, hcx⟩ := G1.out.cell k hlt
      obtain ⟨gy, o2, rfl, hcy⟩ := G2.out.cell k hlt
      obtain ⟨gz, o3, rfl, hcz⟩ := G3.out.cell k hlt
      have i1 : (0 : Int) ≤ k ∧ (k : Int) < m := by omega
      have s1 : les R P (k + 1) = (les R P k && decide (R.getD k 0 ≤ P.getD k 0)) := rfl
      have s2 : les P S (k + 1) = (les P S k && decide (P.getD k 0 ≤ S.getD k 0)) := rfl
      have HS1 := Lib.hid s1
      have HS2 := Lib.hid s2
      have HF1 := Lib.hid (fun h => les_false (R := R) (S := P) hlt h)
      have HF2 := Lib.hid (fun h => les_false (R := P) (S := S) hlt h)
      clear s1 s2
      generalize R.getD k 0 = x at *
      generalize S.getD k 0 = y at *
      generalize P.getD k 0 = z at *
      by_cases hzx : z < x
      · have HZ := Lib.hid (HF1.out (by omega))
        go_upto_region 6 with fail
        go_quiet (fail)
        go_wp2_with fail
        go_ret
        exact ⟨congrArg (fun b => Ending.returned (.bool b)) (by rw [HH.out, HZ.out]; rfl), Below.drewN B1.out _⟩
      · by_cases hyz : y < z
        · have HZ := Lib.hid (HF2.out (by omega))
          go_upto_region 6 with fail
          go_quiet (fail)
          go_wp2_with fail
          go_ret
          exact ⟨congrArg (fun b => Ending.returned (.bool b)) (by rw [HH.out, HZ.out, Bool.and_false]), Below.drewN B1.out _⟩
        · go_upto_region 6 with fail
          go_quiet (fail)
          go_wp2_with fail
          go_roundw
          case rel => exact ⟨k + 1, j + nq, by omega, by go_num, by rw [HS1.out, HL1.out, decide_eq_true (by omega)]; rfl, by rw [HS2.out, HL2.out, decide_eq_true (by omega)]; rfl, rfl⟩
          case measure => simp [intOf]; omega
    · obtain rfl : k = m := by omega
      go_wp2_with fail
      go_ret
      exact ⟨congrArg (fun b => Ending.returned (.bool b)) (by rw [HH.out, HL1.out, HL2.out]; rfl), Below.drewN B1.out _⟩
end Go.Proofs.Ytddeomdmccnfbaa
