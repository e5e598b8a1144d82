/- indentureref03.Sum. -/
import Derived.Test.YthmloljnpjolmaaDistWd
namespace Go.Proofs.Ythmloljnpjolmaa
open Go.RowKit

/-- The digits of 32 bits. -/
def limb (T i : Nat) : Nat := match i with
  | 0 => T % 4294967296
  | 1 => T / 4294967296 % 4294967296
  | 2 => T / 18446744073709551616 % 4294967296
  | _ => T / 79228162514264337593543950336 % 4294967296
theorem limb_lt (T i : Nat) : limb T i < 4294967296 := by
  unfold limb
  split <;> exact Nat.mod_lt _ (by decide)
def carry (T x : Nat) : Nat → Nat
  | 0 => 0
  | k + 1 => (limb T k + limb x k + carry T x k) / 4294967296
def smd (T x k : Nat) : Nat := (limb T k + limb x k + carry T x k) % 4294967296
theorem carry_le (T x k : Nat) : carry T x k ≤ 1 := by
  induction k with
  | zero => exact Nat.zero_le _
  | succ k ih =>
    show (limb T k + limb x k + carry T x k) / 4294967296 ≤ 1
    have := limb_lt T k
    have := limb_lt x k
    omega
theorem parts4 (T : Nat) : ∃ t4, T = limb T 0 + 4294967296 * limb T 1 + 18446744073709551616 * limb T 2 + 79228162514264337593543950336 * limb T 3 + 340282366920938463463374607431768211456 * t4 := by
  refine ⟨T / 340282366920938463463374607431768211456, ?_⟩
  unfold limb
  simp only
  omega
theorem limb_of (a b c d e : Nat) (ha : a < 4294967296) (hb : b < 4294967296) (hc : c < 4294967296) (hd : d < 4294967296) :
    limb (a + 4294967296 * b + 18446744073709551616 * c + 79228162514264337593543950336 * d + 340282366920938463463374607431768211456 * e) 0 = a ∧
    limb (a + 4294967296 * b + 18446744073709551616 * c + 79228162514264337593543950336 * d + 340282366920938463463374607431768211456 * e) 1 = b ∧
    limb (a + 4294967296 * b + 18446744073709551616 * c + 79228162514264337593543950336 * d + 340282366920938463463374607431768211456 * e) 2 = c ∧
    limb (a + 4294967296 * b + 18446744073709551616 * c + 79228162514264337593543950336 * d + 340282366920938463463374607431768211456 * e) 3 = d := by
  unfold limb
  refine ⟨?_, ?_, ?_, ?_⟩ <;> simp only <;> omega
theorem smd_limb (T x : Nat) : ∀ k, k < 4 → smd T x k = limb (T + x) k := by
  obtain ⟨t, ht⟩ := parts4 T
  obtain ⟨y, hy⟩ := parts4 x
  have s0 : smd T x 0 = (limb T 0 + limb x 0) % 4294967296 := rfl
  have c1 : carry T x 1 = (limb T 0 + limb x 0) / 4294967296 := rfl
  have s1 : smd T x 1 = (limb T 1 + limb x 1 + carry T x 1) % 4294967296 := rfl
  have c2 : carry T x 2 = (limb T 1 + limb x 1 + carry T x 1) / 4294967296 := rfl
  have s2 : smd T x 2 = (limb T 2 + limb x 2 + carry T x 2) % 4294967296 := rfl
  have c3 : carry T x 3 = (limb T 2 + limb x 2 + carry T x 2) / 4294967296 := rfl
  have s3 : smd T x 3 = (limb T 3 + limb x 3 + carry T x 3) % 4294967296 := rfl
  have e0 : limb T 0 + limb x 0 = smd T x 0 + 4294967296 * carry T x 1 := by omega
  have e1 : limb T 1 + limb x 1 + carry T x 1 = smd T x 1 + 4294967296 * carry T x 2 := by omega
  have e2 : limb T 2 + limb x 2 + carry T x 2 = smd T x 2 + 4294967296 * carry T x 3 := by omega
  obtain ⟨c4, e3⟩ : ∃ c4, limb T 3 + limb x 3 + carry T x 3 = smd T x 3 + 4294967296 * c4 := ⟨(limb T 3 + limb x 3 + carry T x 3) / 4294967296, by omega⟩
  have hs : T + x = smd T x 0 + 4294967296 * smd T x 1 + 18446744073709551616 * smd T x 2 + 79228162514264337593543950336 * smd T x 3 + 340282366920938463463374607431768211456 * (c4 + t + y) := by
    clear s0 c1 s1 c2 s2 c3 s3
    omega
  have l : ∀ k, smd T x k < 4294967296 := fun k => Nat.mod_lt _ (by decide)
  obtain ⟨r0, r1, r2, r3⟩ := limb_of _ _ _ _ (c4 + t + y) (l 0) (l 1) (l 2) (l 3)
  rw [← hs] at r0 r1 r2 r3
  intro k hk
  match k, hk with
  | 0, _ => exact r0.symm
  | 1, _ => exact r1.symm
  | 2, _ => exact r2.symm
  | 3, _ => exact r3.symm
theorem dV_limbs (T : Nat) : dV (T : Nat) = .agg #[.int .u64 ((limb T 2 : Nat) + 4294967296 * (limb T 3 : Nat)), .int .u64 ((limb T 0 : Nat) + 4294967296 * (limb T 1 : Nat))] := by
  unfold dV limb
  simp only
  congr 5 <;> omega
theorem Wd.mk' {w : World} {g n : Nat} {f : Nat → Nat} {C : Array Value} (h : w.heap[g]? = some (.cells C 35 (0, 0))) (h2 : n ≤ C.size ∧ ∀ i, i < n → C[i]? = some (.int .u64 (f i : Nat))) : Wd w g n f C := ⟨h, h2⟩
structure SumR (w : World) (R : List Int) (k T : Nat) (C : Array Value) (wr : World) : Prop where
  tot : tot (fun k => R.getD k 0) k = (T : Nat)
  wd : Wd wr (w.heap.size + 1) 4 (limb T) C
  two : Two wr w.heap.size (.int .u64 0) (.int .u64 0)
  below : Below w.heap.size w wr
def SumRel (w : World) (R : List Int) (n : Nat) (i : Value) (wr : World) : Prop := ∃ k T C, k ≤ n ∧ i = .int .i64 k ∧ SumR w R k T C wr
def CarRel (w : World) (g : Nat) (T x : Nat) (c i : Value) (wr : World) : Prop :=
  ∃ (k : Nat) (C : Array Value), k ≤ 4 ∧ i = .int .i64 k ∧ c = .int .u64 (carry T x k : Nat) ∧ Wd wr g 4 (fun i => if i < k then smd T x i else limb T i) C ∧ w.grownBy wr (some g)
set_option maxRecDepth 100000 in
set_option maxHeartbeats 1000000 in
theorem refsum_any (p : Option Addr) (n c : Nat) (R : List Int) (w : World) (h : Words w p n c R) (hn : n < 9223372036854775807) :
    Calls Try.prog 55 #[.slice p n c] w fun e w' => e = .returned (dV (tot (fun k => R.getD k 0) n)) ∧ Below w.heap.size w w' := by
  have H := Lib.hid h
  clear h
  go_enter Try.func55, Try.ntmps55
  go_wp2_with fail
  go_loopw [4] (fun i wr => SumRel w R n i wr) (fun i _ => n - (intOf i).toNat)
  case atStart =>
    have hb1 : Below w.heap.size w (w.alloc (.cells #[.int .u64 0, .int .u64 0] 37)) := (Below.refl _ _).alloc (Nat.le_refl _) _
    have s1 : (w.alloc (.cells #[.int .u64 0, .int .u64 0] 37)).heap.size = w.heap.size + 1 := by simp
    have t1 := zero_two w
    generalize w.alloc (.cells #[.int .u64 0, .int .u64 0] 37) = w1 at *
    have hn2 := heap_alloc_new w1 (.cells #[.int .u64 0, .int .u64 0, .int .u64 0, .int .u64 0] 35)
    rw [s1] at hn2
    have hb2 : Below w1.heap.size w1 (w1.alloc (.cells #[.int .u64 0, .int .u64 0, .int .u64 0, .int .u64 0] 35)) := (Below.refl _ _).alloc (Nat.le_refl _) _
    refine ⟨0, 0, _, by omega, rfl, rfl, ⟨hn2, Nat.le_refl _, fun i hi => ?_⟩, t1.later hb2 (by omega), hb1.trans (hb2.mono (by omega))⟩
    match i, hi with
    | 0, _ => rfl
    | 1, _ => rfl
    | 2, _ => rfl
    | 3, _ => rfl
  case round =>
    obtain ⟨k, T, C, hk, rfl, hR⟩ := hrel
    have HR := Lib.hid hR
    clear hR
    by_cases hlt : k < n
    · obtain ⟨gx, o, rfl, hcx⟩ := H.out.cell k hlt
      have hx64 := H.out.get k hlt
      have hcx := (HR.out.below.cell (p := ⟨gx, o + k, none⟩) (block_lt_of_cell hcx)).trans hcx
      obtain ⟨x, hx⟩ : ∃ x : Nat, R.getD k 0 = (x : Nat) := ⟨(R.getD k 0).toNat, by omega⟩
      rw [hx] at hcx hx64
      have HX := Lib.hid hx
      have b1 : (0 : Int) ≤ k ∧ (k : Int) < n := by omega
      obtain ⟨x1, hx1⟩ : ∃ y : Nat, (x : Int) / 4294967296 = y := ⟨x / 4294967296, by omega⟩
      clear hx
      have HX1 := Lib.hid hx1
      go_wp2_with fail
      go_region
      have hx1 := HX1.out
      have hwx : Wd ((wr.alloc (.cells #[.int .u64 ((x : Int) % 4294967296), .int .u64 (x1 : Nat), .int .u64 0, .int .u64 0] 35)).drew) wr.heap.size 4 (limb x) #[.int .u64 ((x : Int) % 4294967296), .int .u64 (x1 : Nat), .int .u64 0, .int .u64 0] := by
        refine ⟨heap_alloc_new wr _, Nat.le_refl _, fun i hi => ?_⟩
        match i, hi with
        | 0, _ => exact congrArg (fun z => some (Value.int .u64 z)) (show (x : Int) % 4294967296 = ((x % 4294967296 : Nat) : Int) from by omega)
        | 1, _ => exact congrArg (fun z => some (Value.int .u64 z)) (show ((x1 : Nat) : Int) = ((x / 4294967296 % 4294967296 : Nat) : Int) from by omega)
        | 2, _ => exact congrArg (fun z => some (Value.int .u64 z)) (show (0 : Int) = ((x / 18446744073709551616 % 4294967296 : Nat) : Int) from by omega)
        | 3, _ => exact congrArg (fun z => some (Value.int .u64 z)) (show (0 : Int) = ((x / 79228162514264337593543950336 % 4294967296 : Nat) : Int) from by omega)
      have hba : Below wr.heap.size wr ((wr.alloc (.cells #[.int .u64 ((x : Int) % 4294967296), .int .u64 (x1 : Nat), .int .u64 0, .int .u64 0] 35)).drew) := ((Below.refl _ _).alloc (Nat.le_refl _) _).drew
      clear hx1
      generalize (wr.alloc (.cells #[.int .u64 ((x : Int) % 4294967296), .int .u64 (x1 : Nat), .int .u64 0, .int .u64 0] 35)).drew = w1 at *
      have HWX := Lib.hid hwx
      have HWD := Lib.hid (HR.out.wd.later hba HR.out.wd.lt)
      have HTW := Lib.hid (HR.out.two.later hba HR.out.two.lt)
      have HBL := Lib.hid (HR.out.below.trans (hba.mono HR.out.below.size))
      have HNE := Lib.hid (show w.heap.size + 1 < wr.heap.size from HR.out.wd.lt)
      clear hwx hba hcx hx64
      generalize wr.heap.size = g2 at *
      go_wp2_with fail
      go_loopw [6, 7] (fun c i wx => CarRel w1 (w.heap.size + 1) T x c i wx) (fun _ i _ => 4 - (intOf i).toNat)
      case atStart => exact ⟨0, C, by omega, rfl, rfl, HWD.out.ext fun i _ => by rw [if_neg (by omega)], World.grownBy.refl _ _⟩
      case round =>
        obtain ⟨j, D, hj, rfl, rfl, h1, h2⟩ := hrel
        have H1 := Lib.hid h1
        have H2 := Lib.hid h2
        clear h1 h2
        by_cases hlt4 : j < 4
        · have b2 : (0 : Int) ≤ j ∧ (j : Int) < 4 := by omega
          have c0 := H1.out.cell j hlt4
          rw [if_neg (Nat.lt_irrefl j)] at c0
          have d0 := H1.out.free j
          have hnx := Wd.mk' ((H2.out.block _ HWX.out.lt (by simp; have := HNE.out; omega)).trans HWX.out.1) HWX.out.2
          have c1 := hnx.cell j hlt4
          have hca := carry_le T x j
          have hlT := limb_lt T j
          have hlx := limb_lt x j
          have hS := H1.out.set j (smd T x j)
          have HS := Lib.hid (hS.ext (f' := fun i => if i < j + 1 then smd T x i else limb T i) fun i _ => by
            by_cases e : i = j
            · rw [if_pos e, if_pos (by omega), e]
            · rw [if_neg e]
              by_cases e2 : i < j
              · rw [if_pos e2, if_pos (by omega)]
              · rw [if_neg e2, if_neg (by omega)])
          have HG := Lib.hid (grown_twice H2.out (grown_setCell wr (w.heap.size + 1) j (.int .u64 (smd T x j : Nat))))
          have hcar : carry T x (j + 1) = (limb T j + limb x j + carry T x j) / 4294967296 := rfl
          have hsm : smd T x j = (limb T j + limb x j + carry T x j) % 4294967296 := rfl
          obtain ⟨s, hs⟩ : ∃ s, s = limb T j + limb x j + carry T x j := ⟨_, rfl⟩
          rw [← hs] at hcar hsm
          have hsi : ((limb T j : Nat) : Int) + (limb x j : Nat) + (carry T x j : Nat) = (s : Nat) := by omega
          have hs34 : s < 8589934592 := by omega
          have hqi : (s : Int) / 4294967296 = (carry T x (j + 1) : Nat) := by omega
          have hri : (s : Int) % 4294967296 = (smd T x j : Nat) := by omega
          have HC1 := Lib.hid hqi
          clear hS hcar hsm hs hnx
          generalize limb T j = y0 at *
          generalize limb x j = y1 at *
          generalize carry T x j = y2 at *
          generalize smd T x j = y3 at *
          go_upto_region 10 with fail
          go_quiet (fail)
          go_wp2_with fail
          go_roundw
          case rel => exact ⟨j + 1, _, by omega, by go_num, rfl, ⟨HS.out.1, HS.out.2⟩, ⟨HG.out.os, HG.out.tape, HG.out.output, HG.out.size, HG.out.block⟩⟩
          case measure => simp [intOf]; omega
        · obtain rfl : j = 4 := by omega
          go_wp2_with fail
          go_roundw
          case rel =>
            refine ⟨k + 1, T + x, D, by omega, by go_num, ?_, H1.out.ext fun i hi => by rw [if_pos hi]; exact smd_limb T x i hi, ?_, ?_⟩
            · rw [tot_succ, HR.out.tot, HX.out]; rfl
            · exact (H2.out.block _ HTW.out.lt (by simp)).trans HTW.out
            · exact HBL.out.grown H2.out HBL.out.size (fun q hq => by simp at hq; omega)
          case measure => simp [intOf]; omega
    · obtain rfl : k = n := by omega
      have c0 := HR.out.wd.cell 0 (by omega)
      have c1 := HR.out.wd.cell 1 (by omega)
      have c2 := HR.out.wd.cell 2 (by omega)
      have c3 := HR.out.wd.cell 3 (by omega)
      have l0 := limb_lt T 0
      have l1 := limb_lt T 1
      have l2 := limb_lt T 2
      have l3 := limb_lt T 3
      have hdv := dV_limbs T
      rw [← HR.out.tot] at hdv
      generalize limb T 0 = y0 at *
      generalize limb T 1 = y1 at *
      generalize limb T 2 = y2 at *
      generalize limb T 3 = y3 at *
      obtain ⟨z0, z1, z2, z3⟩ := HR.out.two.facts
      have HDV := Lib.hid hdv
      clear hdv
      go_wp2_with fail
      go_still_tail 17, (by kernel_rfl)
      go_wp2_with fail
      exact ret_two 2 rfl w.heap.size _ _ rfl (HR.out.two.set (.int .u64 ((y2 : Int) + 4294967296 * (y3 : Nat))) (.int .u64 ((y0 : Int) + 4294967296 * (y1 : Nat)))) ⟨by rw [HDV.out], (Two.below HR.out.below (Nat.le_refl _) _ _).drew⟩
end Go.Proofs.Ythmloljnpjolmaa
