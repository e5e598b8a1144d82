/- The examples of the chapter stand: the statements' first look says so. -/
import Derived.Test.YtgdipdmpmaemjaaShaHex
import Derived.Lib.SlBytesConst
namespace Go.Proofs.Ytgdipdmpmaemjaa
open Go.RowKit

def abcHex : ByteArray := ⟨#[98, 97, 55, 56, 49, 54, 98, 102, 56, 102, 48, 49, 99, 102, 101, 97, 52, 49, 52, 49, 52, 48, 100, 101, 53, 100, 97, 101, 50, 50, 50, 51, 98, 48, 48, 51, 54, 49, 97, 51, 57, 54, 49, 55, 55, 97, 57, 99, 98, 52, 49, 48, 102, 102, 54, 49, 102, 50, 48, 48, 49, 53, 97, 100]⟩
theorem abc_sum : Sm.sum [97, 98, 99] = [0xba, 0x78, 0x16, 0xbf, 0x8f, 0x01, 0xcf, 0xea, 0x41, 0x41, 0x40, 0xde, 0x5d, 0xae, 0x22, 0x23, 0xb0, 0x03, 0x61, 0xa3, 0x96, 0x17, 0x7a, 0x9c, 0xb4, 0x10, 0xff, 0x61, 0xf2, 0x00, 0x15, 0xad] := by decide +kernel
theorem abc_hex : strOfNums ((hexs (Sm.sum [97, 98, 99])).map Int.ofNat) = abcHex := by
  rw [abc_sum]
  decide +kernel
theorem sum_len (B : List Nat) : (Sm.sum B).length = 32 := by
  have h : (u8s (Sm.sum B)).size = 32 := rfl
  rw [u8s_size] at h
  exact h
theorem sum_ok (B : List Nat) : Sm.allB (Sm.sum B) := by
  intro x hx
  simp only [Sm.sum, Sm.bytesOf, List.mem_flatMap] at hx
  obtain ⟨w, _, hx⟩ := hx
  simp only [Sm.bytes4, List.mem_cons, List.not_mem_nil, or_false] at hx
  rcases hx with rfl | rfl | rfl | rfl <;> exact Nat.mod_lt _ (by omega)
def pre7 : ByteArray := ⟨#[7, 0, 0, 0, 0, 0, 0, 0, 1, 97, 0, 0, 0, 0, 0, 0, 0, 0]⟩
theorem pre7_str : strOfNums ((pre 7 [[97], []]).map Int.ofNat) = pre7 := by decide +kernel
theorem pre7_ok : Sm.allB (pre 7 [[97], []]) := by
  intro x hx
  have : ∀ y ∈ pre 7 [[97], []], y < 256 := by decide +kernel
  exact this x hx
set_option maxRecDepth 100000 in
set_option maxHeartbeats 1000000 in
theorem alive_any (w : World) :
    Calls Try.prog 8 #[] w fun e w' => e = .returned (.bool true) ∧ Below w.heap.size w w' := by
  have kc := fun (w : World) (C : Array Value) (n c : Nat) => Lib.run_convert_bytes_const (P := Try.prog) w 22 5 C n c A22 U5
  go_enter Try.func8, Try.ntmps8
  go_wp2_with fail
  refine (sum_any [97, 98, 99] (some ⟨w.heap.size, 0, none⟩) 3 3 _ (Bytes.row (L := [97, 98, 99]) (heap_alloc_new w _) (by intro x hx; simp at hx; omega)) (by simp)).mono ?_
  rintro _ w1 ⟨rfl, hb1⟩
  have HB1 := Lib.hid (((Below.refl w.heap.size w).alloc (Nat.le_refl _) _).trans (hb1.mono (by simp)))
  clear hb1
  go_wp2_with fail
  refine (hex_any (Sm.sum [97, 98, 99]) (sum_len _) (sum_ok _) w1).mono ?_
  rintro _ w2 ⟨rfl, hb2⟩
  have HB2 := Lib.hid (HB1.out.trans (hb2.mono HB1.out.size))
  clear hb2
  rw [abc_hex]
  unfold abcHex
  go_wp2_with fail
  have hT : Texts ((w2.alloc (.cells #[.int .u8 97] 5 (1, 2))).alloc (.cells #[.slice (some ⟨w2.heap.size, 0, none⟩) 1 1, .slice none 0 0] 22)) (some ⟨w2.heap.size + 1, 0, none⟩) 2 2 [[97], []] := by
    refine ⟨rfl, Nat.le_refl _, fun _ => ⟨w2.heap.size + 1, 0, rfl, fun i hi => ?_⟩⟩
    have h0 := heap_alloc2_old w2 (.cells #[.int .u8 97] 5 (1, 2)) (.cells #[.slice (some ⟨w2.heap.size, 0, none⟩) 1 1, .slice none 0 0] 22)
    have h1 := heap_alloc2_new w2 (.cells #[.int .u8 97] 5 (1, 2)) (.cells #[.slice (some ⟨w2.heap.size, 0, none⟩) 1 1, .slice none 0 0] 22)
    match i, hi with
    | 0, _ => exact ⟨_, _, _, cell_of_row _ _ 0 _ _ _ h1, (Bytes.row (L := [97]) h0 (by intro x hx; simp at hx; omega)).tx⟩
    | 1, _ => exact ⟨none, 0, 0, cell_of_row _ _ 1 _ _ _ h1, ⟨rfl, Nat.le_refl _, fun x hx => by simp at hx, Or.inl ⟨rfl, rfl⟩, fun _ h _ => by cases h⟩⟩
  refine (pre_any 7 (by omega) [[97], []] _ 2 2 _ hT (by decide)).mono ?_
  rintro _ w4 ⟨q, n, c, rfl, ho, hb4⟩
  have hn : n = 18 := by
    have h1 := ho.1
    rw [vals_length, Nat.mul_one] at h1
    exact h1.symm
  subst hn
  obtain ⟨g, cap, hv, _, _⟩ := ho.form (by omega)
  obtain ⟨rfl, rfl⟩ : q = some ⟨g, 0, none⟩ ∧ c = cap := by simpa using hv
  have hcv := convert_bytes (Bytes.of_owns ho pre7_ok) (by simp [pre])
  rw [pre7_str] at hcv
  unfold pre7 at hcv
  have HB4 := Lib.hid (((HB2.out.alloc HB2.out.size _).alloc (by have := HB2.out.size; simp; omega) _).trans (hb4.mono (by have := HB2.out.size; simp; omega)))
  clear hb4 ho hv hT
  go_wp2_with fail
  go_ret
  exact ⟨rfl, HB4.out⟩
end Go.Proofs.Ytgdipdmpmaemjaa
