/- Proved: whatever number it is handed, the Go function indenturelaw07.DiskMakes returns true (which disks may be is the document's, and a new one is zeros), and each argument reads afterwards as it read before. Conditions: none beyond the given row's own. -/
import Derived.Test.YtjlkddfihpdnmaaM2
/- The law DiskMakes, over whatever disk keeps the contracts. -/
namespace Go.Proofs.Ytjlkddfihpdnmaa.Dk
open Go.RowKit

variable {PD : World → Nat → (Nat → Prop) → D → Prop}
def MLoop (w1 : World) (n : Nat) (i : Value) (wr : World) : Prop := ∃ k : Nat, k ≤ n ∧ i = .int .i64 k ∧ wr = w1
set_option maxRecDepth 100000 in
set_option maxHeartbeats 4000000 in
theorem makes_any (A : Api PD) (n : Int) (w : World) (h1 : -9223372036854775808 ≤ n) (h2 : n ≤ 9223372036854775807) :
    Calls Try.prog 5 #[.int .i64 n] w fun e w' => e = .returned (.bool true) ∧ Below w.heap.size w w' := by
  go_enter Try.func5, Try.ntmps5
  go_wp2_with fail
  refine (alive_any A w).mono ?_
  rintro e w1 ⟨rfl, b1⟩
  have B1 := Lib.hid b1
  clear b1
  go_wp2_with fail
  by_cases hbad : n < 0 ∨ 4096 < n
  · refine (A.newBad n w1 hbad).mono ?_
    rintro e w2 ⟨rfl, b2⟩
    have B2 := Lib.hid (B1.out.trans (b2.mono B1.out.size))
    clear b2
    by_cases h0 : n < 0
    · clear hbad
      go_wp2_with fail
      go_ret
      exact ⟨rfl, B2.out⟩
    · have h4 : n > 4096 := by omega
      clear hbad
      go_wp2_with fail
      go_ret
      exact ⟨rfl, B2.out⟩
  · obtain ⟨m, rfl⟩ : ∃ m : Nat, n = m := ⟨n.toNat, by omega⟩
    have hm : m ≤ 4096 := by omega
    refine (A.new m w1 (by omega) (by omega)).mono ?_
    rintro e w2 ⟨g, P, rfl, d2, p2, b2⟩
    rw [show (m : Int).toNat = m from rfl] at d2
    have O2 := Lib.hid (show Own PD w w2 g P (D.new m) from ⟨d2, fun k hk => Nat.le_trans B1.out.size (p2 k hk), B1.out.trans (b2.mono B1.out.size)⟩)
    have n0 : ¬ (m : Int) < 0 := by omega
    have n4 : ¬ (m : Int) > 4096 := by omega
    clear d2 p2 b2 hbad h1 h2
    go_wp2_with fail
    refine (A.all O2.out.disk).mono ?_
    rintro e w3 ⟨p, c, rfl, m3, b3⟩
    rw [show (D.new m).n = m from rfl, show (D.new m).L = zeros (64 * m) from rfl] at *
    have O3 := Lib.hid (O2.out.later A b3)
    have T3 := Lib.hid m3.tx
    have hle := m3.le
    have S3 := Lib.hid (fun hn => m3.some hn)
    clear b3 m3
    go_wp2_with fail
    go_loopw [6] (fun i wr => MLoop w3 (64 * m) i wr) (fun i _ => 64 * m - (intOf i).toNat)
    case atStart => exact ⟨0, by omega, rfl, rfl⟩
    case round =>
      obtain ⟨k, hk, rfl, rfl⟩ := hrel
      by_cases hlt : k < 64 * m
      · obtain ⟨gb, ob, rfl⟩ := S3.out (by omega)
        have d1 := T3.out.cells k (.int .u8 0) (by rw [vals_get _ _ (by simpa [zeros] using hlt)]; simp [zeros, List.getD_eq_getElem?_getD, hlt])
        rw [Addr.add_mid] at d1
        have i1 : (0 : Int) ≤ k ∧ (k : Int) < ((64 * m : Nat) : Int) := by omega
        have i2 : (k : Int) < 64 * (m : Int) := by omega
        go_wp2_with fail
        go_roundw
        case rel => exact ⟨k + 1, by omega, by go_num, rfl⟩
        case measure => simp [intOf]; omega
      · obtain rfl : k = 64 * m := by omega
        have q1 : IntKind.i64.wrap (64 * (m : Int)) = 64 * (m : Int) := IntWalk.i64_in _ (by omega)
        have DL := A.len O3.out.disk
        rw [show (D.new m).n = m from rfl] at DL
        go_wp2_with fail
        refine DL.mono ?_
        rintro e w4 ⟨rfl, b4⟩
        have O4 := Lib.hid (O3.out.later A b4)
        clear b4
        go_wp2_with fail
        refine (A.dead O4.out.disk).mono ?_
        rintro e w5 ⟨rfl, b5⟩
        have O5 := Lib.hid (O4.out.later A b5)
        clear b5
        rw [show (D.new m).dead = false from rfl]
        go_wp2_with fail
        refine (A.writes O5.out.disk).mono ?_
        rintro e w6 ⟨rfl, b6⟩
        have HB := Lib.hid (O5.out.later A b6).low
        clear b6
        rw [show (D.new m).writes = 0 from rfl]
        go_wp2_with fail
        go_ret
        exact ⟨rfl, HB.out⟩
end Go.Proofs.Ytjlkddfihpdnmaa.Dk

/- Proved: whatever number it is handed, the Go function indenturelaw07.DiskMakes returns true (which disks may be is the document's, and a new one is zeros), and each argument reads afterwards as it read before. Conditions: none beyond the given row's own. -/
namespace Go.Proofs.Ytjlkddfihpdnmaa
open Go.ChangeShapes Go.WideShapes Go.ChangeAt Go.RowKit Go.Deep

set_option maxRecDepth 100000 in
theorem dkmakes_lifted (os : Os) (started : os.Started) (H : Type) (enc : TypeId × Value → H) :
    ReturnsInHanded {} Try.checked os 5 .any (Rows.diskMakesSpec.pre6 enc Try.prog Try.f5 Rows.diskMakesRow.domain false) (Rows.diskMakesSpec.post enc Try.prog Try.f5 false true false false) := by
  refine returnsInHanded_of_change (C := Try.checked) gen_own started (by kernel_rfl) Try.func5
    (ChangeSpec.witness6 (enc := enc) (C := Try.checked) false ⟨#[], #[.int .i64 0], []⟩ 8 (by kernel_rfl) (by kernel_rfl) (by kernel_rfl) (by kernel_rfl)) ?_
  intro W base args ds gs before hval0 hW _ _
  have hval : ∀ (j : Nat) t v, Try.f5.params[j]? = some t → args[j]? = some v → Value.okWide Try.prog W .any base t v := hval0
  have hW' := hW
  obtain ⟨p, q, hA0, hV, rfl, _, _⟩ := hW
  have hA : DataW.TrodAll enc Try.prog W 0 (fun _ => true) true Try.f5.params.toList args.toList ds p := hA0
  rw [Try.params5] at hA hval
  obtain ⟨v0, vs0, d0, ds0, p0, q0, hargs, rfl, rfl, h0, r0⟩ := trodAll_cons hA
  obtain ⟨rfl, rfl, rfl⟩ := trodAll_nil r0
  obtain rfl : args = #[v0] := by cases args; simp_all
  obtain ⟨rfl, rfl⟩ := trodVars_none hV
  obtain ⟨n0, rfl, rfl, rfl, hn0⟩ := open_int Try.underlying3 (hval 0 3 v0 rfl rfl) h0
  have k0 := h0
  have bn0 := bounds_i64 hn0
  clear hA0 hval0
  refine (Dk.makes_any Dk.api n0 W bn0.1 bn0.2).mono fun e W' ⟨he, bel⟩ => ?_
  subst he
  exact ⟨_, rfl, _, _, _, [], _, [], hW', trodAll_mk1 (shut_bool Try.underlying4 _),
    (trodAll_cons_mk (Below.trod gen_laidOut (by kernel_rfl) (of_decide_eq_true (by kernel_rfl)) k0 bel (fun x hx => by cases hx)) trodAll_mk0), rfl, bel.frame _, fun h => by cases h⟩
theorem dkmakes_holds : Rows.DiskMakesSaid :=
  OpenClaim.holds_of_wide 5 Try.f5 rfl rfl rfl rfl rfl rfl rfl ⟨rfl, rfl, rfl, rfl, rfl⟩ rfl rfl rfl rfl rfl (by kernel_rfl) Try.func5 (by kernel_rfl)
    (of_decide_eq_true (by kernel_rfl)) (by unfold Func.isWrapper; first | (rw [if_pos (by decide +kernel)]; kernel_rfl) | (rw [if_neg (by decide +kernel)]; exact ⟨rfl, rfl⟩))
    (fun os started H enc _ => dkmakes_lifted os started H enc)
end Go.Proofs.Ytjlkddfihpdnmaa
