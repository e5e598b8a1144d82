/- morton.put: a bit is put into a row of bytes. -/
import Derived.Test.YtcekcoekbgdkaaaMorBit
namespace Go.Proofs.Ytcekcoekbgdkaaa
open Go.RowKit

theorem u8s_put (B : List Nat) (k x : Nat) : (u8s B).setIfInBounds k (.int .u8 (x : Nat)) = u8s (B.set k x) := by
  apply Array.ext'
  simp [u8s, List.map_set]
/-- What put leaves. -/
structure PutPost (w : World) (g : Nat) (B : List Nat) (w' : World) : Prop where
  row : w'.heap[g]? = some (.cells (u8s B) 5 (0, 0))
  grown : w.grownBy w' (some g)
theorem put_bits (x b r : Nat) (hx : x < 256) (hb : b < 2) (hr : r < 8) : bits .or .u8 (x : Int) ((b : Int) * 2 ^ r % 256) = ((x ||| b * 2 ^ r : Nat) : Int) := by
  have h1 : b * 2 ^ r < 256 := by
    have : 2 ^ r ≤ 2 ^ 7 := Nat.pow_le_pow_right (by omega) (by omega)
    rcases (show b = 0 ∨ b = 1 from by omega) with rfl | rfl <;> omega
  have h2 : (b : Int) * 2 ^ r % 256 = ((b * 2 ^ r : Nat) : Int) := by
    have : ((b * 2 ^ r : Nat) : Int) = (b : Int) * 2 ^ r := by simp
    omega
  rw [h2]
  exact u8_or_nat x (b * 2 ^ r) hx h1
set_option maxRecDepth 100000 in
set_option maxHeartbeats 1000000 in
theorem put_any (B : List Nat) (g n c p b : Nat) (w : World) (hg : w.heap[g]? = some (.cells (u8s B) 5 (0, 0))) (hB : Sm.allB B) (hn : B.length = n) (hp : p < 8 * n) (hb : b < 2) (hbig : n ≤ 1000) :
    Calls Try.prog 21 #[.slice (some ⟨g, 0, none⟩) n c, .int .i64 p, .int .u8 b] w fun e w' => e = .returned (.tuple #[]) ∧ PutPost w g (B.set (p / 8) (B.getD (p / 8) 0 ||| b * 2 ^ (7 - p % 8))) w' := by
  have hl : p / 8 < B.length := by omega
  have hc := u8s_cell hg (p / 8) hl
  have hf : w.frozen? ⟨g, p / 8, none⟩ = false := frozen_of_row w g _ _ _ hg
  have hx := Sm.getD_lt hB (by omega) (p / 8)
  have hs := heap_setCell_same w g (p / 8) _ _ (.int .u8 (B.getD (p / 8) 0 ||| b * 2 ^ (7 - p % 8) : Nat)) hg
  rw [u8s_put] at hs
  have HS := Lib.hid hs
  have HV := Lib.hid (put_bits (B.getD (p / 8) 0) b (7 - p % 8) hx hb (by omega))
  have HL := Lib.hid hn
  clear hs hg hB hn hl
  generalize B.getD (p / 8) 0 = x at *
  have i1 : (0 : Int) ≤ (p : Int) / 8 ∧ (p : Int) / 8 < n := by omega
  have i2 : ((p : Int) / 8).toNat = p / 8 := by omega
  go_enter Try.func21, Try.ntmps21
  go_wp2_with fail
  have q0 : (p : Int).tmod 8 = (p : Int) % 8 := Int.tmod_eq_emod_of_nonneg (by omega)
  have q1 : IntKind.i64.wrap ((p : Int) / 8) = (p : Int) / 8 := IntWalk.i64_in _ (by omega)
  have q2 : IntKind.i64.wrap (7 - (p : Int) % 8) = 7 - (p : Int) % 8 := IntWalk.i64_in _ (by omega)
  have q3 : (7 - (p : Int) % 8).toNat = 7 - p % 8 := by omega
  have q4 : (0 : Int) ≤ 7 - (p : Int) % 8 := by omega
  go_still_tail 12, (by kernel_rfl)
  clear q0 q1 q2 q3 q4
  go_wp2_with fail
  go_end0
  refine ⟨rfl, ?_⟩
  rw [HV.out]
  have hg := grown_setCell w g (p / 8) (.int .u8 (x ||| b * 2 ^ (7 - p % 8) : Nat))
  exact ⟨HS.out, hg.os, hg.tape, hg.output, hg.size, hg.block⟩
theorem put_at (B : List Nat) (g n c p b : Nat) (ip ib : Int) (w : World) (hg : w.heap[g]? = some (.cells (u8s B) 5 (0, 0))) (hB : Sm.allB B) (hn : B.length = n) (hp : p < 8 * n) (hb : b < 2) (hbig : n ≤ 1000) (hip : ip = (p : Nat)) (hib : ib = (b : Nat)) :
    Calls Try.prog 21 #[.slice (some ⟨g, 0, none⟩) n c, .int .i64 ip, .int .u8 ib] w fun e w' => e = .returned (.tuple #[]) ∧ PutPost w g (B.set (p / 8) (B.getD (p / 8) 0 ||| b * 2 ^ (7 - p % 8))) w' := by
  subst hip
  subst hib
  exact put_any B g n c p b w hg hB hn hp hb hbig
end Go.Proofs.Ytcekcoekbgdkaaa
