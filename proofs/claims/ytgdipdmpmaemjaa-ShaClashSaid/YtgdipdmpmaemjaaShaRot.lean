/- The contracts of the smallest functions of package sha: a word turned, the words that are given. -/
import Derived.Test.YtgdipdmpmaemjaaProg
import Derived.Test.YtgdipdmpmaemjaaShaMath
import Derived.Test.YtgdipdmpmaemjaaGen
import Derived.WalkKit
import Derived.WalkSpells
import Derived.WalkLawsBesides
import Derived.BigQuiet
import Derived.Deep.QuietTactic
import Derived.Lib.Hide
namespace Go.Proofs.Ytgdipdmpmaemjaa
open Go.RowKit

theorem ret_u32 {a b : Int} (h : a = b) : Ending.returned (.int .u32 a) = .returned (.int .u32 b) := by rw [h]
set_option maxHeartbeats 400000 in
theorem rot_any (x n : Nat) (k : Int) (w : World) (hx : x < 4294967296) (hn : 0 < n) (hn' : n < 32) (hk : bits .and .u64 (IntKind.u64.wrap k) 31 = ((32 - n : Nat) : Int)) :
    Calls Try.prog 35 #[.int .u32 x, .int .i64 k] w fun e w' => e = .returned (.int .u32 (Sm.rot n x)) ∧ w = w' := by
  obtain ⟨m, hm⟩ : ∃ m, m = 32 - n := ⟨_, rfl⟩
  rw [← hm] at hk
  have h1 : (0 : Int) ≤ m := by omega
  have h2 : (m : Int) ≤ 32 := by omega
  have h3 : (0 : Int) ≤ 32 - m := by omega
  have h4 : (32 - m : Int) ≤ 32 := by omega
  have HM := Lib.hid hm
  clear hm
  go_enter Try.func35, Try.ntmps35
  go_wp2
  go_ret
  refine ⟨ret_u32 ?_, rfl⟩
  have e := HM.out
  have e1 : (x : Int) * 2 ^ m % 4294967296 = ((x * 2 ^ (32 - n) % 4294967296 : Nat) : Int) := by
    rw [Int.natCast_emod, Int.natCast_mul, Int.natCast_pow, e]; rfl
  have e2 : (x : Int) / 2 ^ (32 - m) = ((x / 2 ^ n : Nat) : Int) := by
    have e3 : 32 - m = n := by omega
    rw [e3, Int.natCast_ediv, Int.natCast_pow]; rfl
  rw [e1, e2]
  exact u32_or_nat _ _ (Nat.mod_lt _ (by omega)) (Nat.lt_of_le_of_lt (Nat.div_le_self _ _) hx)
theorem rk2 : bits .and .u64 (IntKind.u64.wrap (-2)) 31 = ((32 - 2 : Nat) : Int) := by decide +kernel
theorem rk6 : bits .and .u64 (IntKind.u64.wrap (-6)) 31 = ((32 - 6 : Nat) : Int) := by decide +kernel
theorem rk7 : bits .and .u64 (IntKind.u64.wrap (-7)) 31 = ((32 - 7 : Nat) : Int) := by decide +kernel
theorem rk11 : bits .and .u64 (IntKind.u64.wrap (-11)) 31 = ((32 - 11 : Nat) : Int) := by decide +kernel
theorem rk13 : bits .and .u64 (IntKind.u64.wrap (-13)) 31 = ((32 - 13 : Nat) : Int) := by decide +kernel
theorem rk17 : bits .and .u64 (IntKind.u64.wrap (-17)) 31 = ((32 - 17 : Nat) : Int) := by decide +kernel
theorem rk18 : bits .and .u64 (IntKind.u64.wrap (-18)) 31 = ((32 - 18 : Nat) : Int) := by decide +kernel
theorem rk19 : bits .and .u64 (IntKind.u64.wrap (-19)) 31 = ((32 - 19 : Nat) : Int) := by decide +kernel
theorem rk22 : bits .and .u64 (IntKind.u64.wrap (-22)) 31 = ((32 - 22 : Nat) : Int) := by decide +kernel
theorem rk25 : bits .and .u64 (IntKind.u64.wrap (-25)) 31 = ((32 - 25 : Nat) : Int) := by decide +kernel
/-- A word turned by one of the ten numbers that SHA-256 names. -/
theorem rot_of (n x : Nat) (k : Int) (w : World) (hx : x < 4294967296) (hn : (k = -2 ∧ n = 2) ∨ (k = -6 ∧ n = 6) ∨ (k = -7 ∧ n = 7) ∨ (k = -11 ∧ n = 11) ∨ (k = -13 ∧ n = 13) ∨ (k = -17 ∧ n = 17) ∨ (k = -18 ∧ n = 18) ∨ (k = -19 ∧ n = 19) ∨ (k = -22 ∧ n = 22) ∨ (k = -25 ∧ n = 25)) :
    Calls Try.prog 35 #[.int .u32 x, .int .i64 k] w fun e w' => e = .returned (.int .u32 (Sm.rot n x)) ∧ w = w' := by
  rcases hn with ⟨rfl, rfl⟩ | ⟨rfl, rfl⟩ | ⟨rfl, rfl⟩ | ⟨rfl, rfl⟩ | ⟨rfl, rfl⟩ | ⟨rfl, rfl⟩ | ⟨rfl, rfl⟩ | ⟨rfl, rfl⟩ | ⟨rfl, rfl⟩ | ⟨rfl, rfl⟩
  · exact rot_any x 2 _ w hx (by omega) (by omega) rk2
  · exact rot_any x 6 _ w hx (by omega) (by omega) rk6
  · exact rot_any x 7 _ w hx (by omega) (by omega) rk7
  · exact rot_any x 11 _ w hx (by omega) (by omega) rk11
  · exact rot_any x 13 _ w hx (by omega) (by omega) rk13
  · exact rot_any x 17 _ w hx (by omega) (by omega) rk17
  · exact rot_any x 18 _ w hx (by omega) (by omega) rk18
  · exact rot_any x 19 _ w hx (by omega) (by omega) rk19
  · exact rot_any x 22 _ w hx (by omega) (by omega) rk22
  · exact rot_any x 25 _ w hx (by omega) (by omega) rk25
def u32s (l : List Nat) : Array Value := (l.map fun x => Value.int .u32 (x : Nat)).toArray
theorem A32 : Try.prog.underlying 32 = some (.array 8 31) := by kernel_rfl
theorem S32 : (Try.prog.info? 32).map (·.size) = some 8 := by kernel_rfl
theorem A62 : Try.prog.underlying 62 = some (.array 64 31) := by kernel_rfl
theorem S62 : (Try.prog.info? 62).map (·.size) = some 64 := by kernel_rfl
set_option maxHeartbeats 400000 in
theorem firstWords_any (w : World) :
    Calls Try.prog 23 #[] w fun e w' => e = .returned (.agg (u32s Sm.first.list)) ∧ Below w.heap.size w w' := by
  go_enter Try.func23, Try.ntmps23
  go_wp2
  exact ret_row 0 (by kernel_rfl) w.heap.size _ _ A32 S32 rfl (heap_alloc_new w _) rfl ⟨rfl, (Below.refl _ _).alloc (Nat.le_refl _) _⟩
end Go.Proofs.Ytgdipdmpmaemjaa
