/- math/bits.Len64. -/
import Derived.Test.YtcekcoekbgdkaaaMorBit
import Derived.Lib.BitFns
import Derived.Lib.Walk
import Derived.Lib.Strings
import Derived.Lib.Small
namespace Go.Proofs.Ytcekcoekbgdkaaa
open Go.RowKit

theorem tab_size : Lib.len8tab.size = 256 := by decide +kernel
theorem tab_get (k : Nat) (h : k < Lib.len8tab.size) : (Lib.len8tab[k]'h).toNat = Lib.bitLen k ∧ Lib.bitLen k ≤ 8 := by
  have hk : k < 256 := by rw [tab_size] at h; exact h
  have e := Lib.len8_eq ⟨k, hk⟩
  refine ⟨?_, Lib.bitLen_le8 ⟨k, hk⟩⟩
  unfold Lib.len8 at e
  simp only [Int.toNat_natCast] at e
  rw [getElem?_pos Lib.len8tab k h, Option.getD_some] at e
  exact Int.ofNat.inj e
/-- What Len64 tells of a number whose highest byte is looked up. -/
theorem tab_end (x y : Int) (s : Nat) (si : Int) (hsi : si = s) (h : y.toNat < Lib.len8tab.size) (hs : s ≤ 56) (hx : x.toNat < 18446744073709551616) (hp : 2 ^ s ≤ x.toNat) (hy : y.toNat = x.toNat / 2 ^ s) :
    wrap64 (si + wrap64 ((Lib.len8tab[y.toNat]'h).toNat : Int)) = (Lib.bitLen x.toNat : Int) := by
  obtain ⟨e, b⟩ := tab_get _ h
  have e2 := Lib.bitLen_shift s x.toNat hp hx
  rw [← hy] at e2
  rw [e, e2, hsi]
  generalize Lib.bitLen y.toNat = m at *
  clear e e2 hx hp hy h hsi
  unfold wrap64
  omega
theorem tab_low (x : Int) (h : x.toNat < Lib.len8tab.size) : wrap64 (wrap64 ((Lib.len8tab[x.toNat]'h).toNat : Int)) = (Lib.bitLen x.toNat : Int) := by
  obtain ⟨e, b⟩ := tab_get _ h
  rw [e]
  unfold wrap64
  omega
set_option maxRecDepth 100000 in
set_option maxHeartbeats 4000000 in
theorem len64_any (x : Int) (h0 : 0 ≤ x) (h1 : x ≤ 18446744073709551615) (w : World) :
    Calls Try.prog 24 #[.int .u64 x] w fun e w' => e = .returned (.int .i64 (Lib.bitLen x.toNat)) ∧ w' = w := by
  have hsz : (Lib.len8tab.size : Int) = 256 := by rw [tab_size]; rfl
  go_enter Try.func24, Try.ntmps24
  go_wp2
  · go_ret; exact ⟨ret_int (tab_end x _ 56 _ rfl _ (by omega) (by omega) (by omega) (by omega)), rfl⟩
  · go_ret; exact ⟨ret_int (tab_end x _ 48 _ rfl _ (by omega) (by omega) (by omega) (by omega)), rfl⟩
  · go_ret; exact ⟨ret_int (tab_end x _ 40 _ rfl _ (by omega) (by omega) (by omega) (by omega)), rfl⟩
  · go_ret; exact ⟨ret_int (tab_end x _ 32 _ rfl _ (by omega) (by omega) (by omega) (by omega)), rfl⟩
  · go_ret; exact ⟨ret_int (tab_end x _ 24 _ rfl _ (by omega) (by omega) (by omega) (by omega)), rfl⟩
  · go_ret; exact ⟨ret_int (tab_end x _ 16 _ rfl _ (by omega) (by omega) (by omega) (by omega)), rfl⟩
  · go_ret; exact ⟨ret_int (tab_end x _ 8 _ rfl _ (by omega) (by omega) (by omega) (by omega)), rfl⟩
  · go_ret; exact ⟨ret_int (tab_low x _), rfl⟩
end Go.Proofs.Ytcekcoekbgdkaaa
