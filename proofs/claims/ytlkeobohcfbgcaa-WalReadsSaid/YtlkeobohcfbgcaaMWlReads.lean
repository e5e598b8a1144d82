/- Proved: whatever texts, place, byte and bytes it is handed, the Go function indenturelaw08.WalReads returns true (the log of any sectors is the document's, or there is none), and each argument reads afterwards as it read before. Conditions: none beyond the given row's own. -/
import Derived.Test.YtlkeobohcfbgcaaM8
/- The law WalReads, over whatever log keeps the contracts. -/
namespace Go.Proofs.Ytlkeobohcfbgcaa.Wl
open Go.RowKit

theorem texts_ok' {w : World} {p : Option Addr} {n c : Nat} {L : List (List Nat)} (h : Texts w p n c L) : ∀ b ∈ L, Sm.allB b := fun b hb => by
  obtain ⟨j, hj, rfl⟩ := List.mem_iff_getElem.1 hb
  obtain ⟨g, o, q, m, d, _, _, ht⟩ := texts_at h (k := j) (by have := h.size; omega)
  have := ht.ok
  rwa [List.getD_eq_getElem?_getD, List.getElem?_eq_getElem hj] at this
theorem eql_self (D : List Nat) (hD : D.length = 32) (w : World) : (binOp .eql 44 (.agg (u8s D)) (.agg (u8s D))).run Try.prog w = .ok (.bool true) w := by
  rw [digest_eql D D hD hD w, decide_eq_true (rfl : D = D)]
variable {LD : World → Nat → (Nat → Prop) → Nat → Nat → G → Prop}
set_option maxRecDepth 100000 in
set_option maxHeartbeats 2500000 in
theorem reads_any (A : Api LD) (p q : Option Addr) (n c m d : Nat) (L : List (List Nat)) (at' : Int) (by' : Nat) (M : List Nat) (w : World) (hL : Texts w p n c L) (hM : Tx w q m d M) (hby : by' < 256) (h1 : -9223372036854775808 ≤ at') (h2 : at' ≤ 9223372036854775807) (hn : n ≤ 9223372036854775807) (hm : m ≤ 9223372036854775807) :
    Calls Try.prog 6 #[.slice p n c, .int .i64 at', .int .u8 by', .slice q m d] w fun e w' => e = .returned (.bool true) ∧ Below w.heap.size w w' := by
  have HL := Lib.hid hL
  have HM := Lib.hid hM
  have HN := Lib.hid hL.size
  have hnc := hL.le
  have hmd := hM.le
  obtain ⟨i5, hi, hi0, hi1, hi2⟩ := info_parts I5
  have HI := Lib.hid hi
  have HI0 := Lib.hid hi0
  have HI1 := Lib.hid hi1
  have HI2 := Lib.hid hi2
  clear hi hi0 hi1 hi2 hL hM
  go_enter Try.func6, Try.ntmps6
  go_wp2_with fail
  refine (walive_any A w).mono ?_
  rintro e w1 ⟨rfl, b1⟩
  have B1 := Lib.hid b1
  clear b1
  by_cases hn10 : (n : Int) > 10
  · go_wp2_with fail
    go_ret
    exact ⟨rfl, B1.out⟩
  · by_cases hm500 : (m : Int) > 500
    · go_wp2_with fail
      go_ret
      exact ⟨rfl, B1.out⟩
    · have hn10' : n ≤ 10 := by omega
      have hm500' : m ≤ 500 := by omega
      go_wp2_with fail
      go_loopw [9] (fun i wr => LenR w1 n L i wr) (fun i _ => n - (intOf i).toNat)
      case atStart => exact ⟨0, Nat.zero_le _, rfl, (fun j hj => by omega), rfl⟩
      case round =>
        obtain ⟨k, hk, rfl, hall, rfl⟩ := hrel
        have HA := Lib.hid hall
        clear hall
        by_cases hlt : k < n
        · have l1 : (k : Int) < n := by omega
          have i1 : (0 : Int) ≤ k ∧ (k : Int) < n := by omega
          obtain ⟨g1, o1, q1, m1, d1, rfl, hc1, ht1⟩ := texts_at (HL.out.later B1.out) hlt
          have hsz := ht1.size
          by_cases h300 : (m1 : Int) > 300
          · clear hsz ht1
            go_wp2_with fail
            go_ret
            exact ⟨rfl, B1.out⟩
          · have HNX := Lib.hid (show ∀ j, j < k + 1 → (L.getD j []).length ≤ 300 from fun j hj => by
              by_cases hjk : j = k
              · rw [hjk]; omega
              · exact HA.out j (by omega))
            clear hsz ht1
            go_wp2_with fail
            go_roundw
            case rel => exact ⟨k + 1, by omega, by go_num, HNX.out, rfl⟩
            case measure => simp [intOf]; omega
        · obtain rfl : k = n := by omega
          have l1 : ¬ (k : Int) < k := by omega
          have HALL := Lib.hid (show ∀ j, j < L.length → (L.getD j []).length ≤ 300 from fun j hj => HA.out j (by have := HN.out; omega))
          clear HA hlt
          generalize wr = wb at *
          generalize hmi : ((m : Nat) : Int) = mi at *
          clear hmi
          go_upto_region 10 with fail
          go_cut [10] from 40 to 130 (fun v wx => ∃ (n5 : Nat) (B5 : List Nat), n5 ≤ 4400 ∧ Out wb wx v n5 B5)
          case first =>
            go_wp2_with fail
            refine (rall_any L p k c wb (HL.out.later B1.out) (by omega) (mem_300 HALL.out)).mono ?_
            rintro e w4 hp
            obtain ⟨q4, c4, rfl, h4, b4⟩ := hp
            have HO4 := Lib.hid (show Out wb w4 (.slice q4 (all L L.length).length c4) (all L L.length).length (all L L.length) from ⟨rfl, h4, all_ok L (texts_ok' HL.out) _, b4⟩)
            have HLX := Lib.hid (show (all L L.length).length ≤ 3840 from by rw [all_length]; have := size_300 L HALL.out L.length (Nat.le_refl _); have := HN.out; omega)
            have HM4 := Lib.hid ((HM.out.later B1.out).later (b4))
            clear h4 b4
            generalize all L L.length = X at *
            cases q with
            | none =>
              obtain ⟨rfl, rfl⟩ : m = 0 ∧ d = 0 := by
                have := HM4.out.le
                rcases HM4.out.at' with ⟨_, h⟩ | ⟨x, h, _⟩
                · omega
                · cases h
              go_wp2_with (at_builtin; refine wpList_append_own_none (by rfl) (.tmp 41) (.tmp 42) 36 (by rfl) wb.heap.size 5 i5 1 A22 HI.out _ X.length _ (by rfl) HO4.out.own (by rfl) ?_)
              go_meet
              exact ⟨X.length, X, by have := HLX.out; omega, HO4.out⟩
            | some ad =>
              go_wp2_with (at_builtin; refine wpList_append_own_at _ (by rfl) (.tmp 41) (.tmp 42) 36 (by rfl) _ 5 i5 (.int .u8 0) 1 1 A22 HI.out HI0.out HI1.out HI2.out (by rfl) (by decide) _ _ _ (by rfl) HO4.out.own ad m d (vals M) (by rfl) (by rw [vals_length, ← HM4.out.size, Nat.mul_one]) HM4.out.cells (vals_one _) (by unfold maxLen; have := HLX.out; omega) (by have := HLX.out; omega) HO4.out.low.size ?_; intro v7 w7 hown7 hgrow7 _ _; have H7 := Lib.hid (HO4.out.put HM4.out.ok HM4.out.size.symm hown7 hgrow7); clear hown7 hgrow7)
              go_meet
              exact ⟨X.length + m, X ++ M, by have := HLX.out; omega, H7.out⟩
          case rest =>
            obtain ⟨n5, B5, hn5, hO5⟩ := hcut
            obtain ⟨q5, c5, rfl⟩ := hO5.form
            have H5 := Lib.hid (show PadR wb (.slice q5 n5 c5) wc from ⟨n5, q5, c5, B5, rfl, by omega, hO5⟩)
            clear hO5 hn5
            go_wp2_with fail
            go_loopw [10] (fun v wx => PadR wb v wx) (fun v _ => 6400 - lenOf v)
            case atStart => exact H5.out
            case round =>
              obtain ⟨y, q6, c6, B6, rfl, hy, hO6⟩ := hrel
              have HO := Lib.hid hO6
              clear hO6 H5
              have t64 : (y : Int).tmod 64 = ((y % 64 : Nat) : Int) := by rw [Int.tmod_eq_emod_of_nonneg (by omega)]; omega
              by_cases h64 : y % 64 = 0
              · rw [h64] at t64
                obtain ⟨N, hyN⟩ : ∃ N, y = 64 * N := ⟨y / 64, by omega⟩
                have HY := Lib.hid hyN
                clear h64 hyN
                go_upto_region 13 with fail
                clear t64
                go_cut [58] from 51 to 130 (fun cb wx => cb = .bool (decide (0 ≤ at' ∧ at' < (y : Int))) ∧ wx = wr)
                case first =>
                  by_cases h0 : at' ≥ 0
                  · by_cases hlty : at' < y
                    · go_wp2_with fail
                      go_meet
                      exact ⟨congrArg Value.bool (decide_eq_true (p := 0 ≤ at' ∧ at' < (y : Int)) ⟨h0, hlty⟩).symm, rfl⟩
                    · go_wp2_with fail
                      go_meet
                      exact ⟨congrArg Value.bool (decide_eq_false (p := 0 ≤ at' ∧ at' < (y : Int)) (by omega)).symm, rfl⟩
                  · go_wp2_with fail
                    go_meet
                    exact ⟨congrArg Value.bool (decide_eq_false (p := 0 ≤ at' ∧ at' < (y : Int)) (by omega)).symm, rfl⟩
                case rest =>
                  obtain ⟨rfl, rfl⟩ := hcut
                  go_upto_if 58 with fail
                  go_cut [10] from 58 to 130 (fun v wx => ∃ B7, v = .slice q6 y c6 ∧ Out wb wx (.slice q6 y c6) y B7)
                  case first =>
                    by_cases hin : 0 ≤ at' ∧ at' < (y : Int)
                    · rw [decide_eq_true hin]
                      obtain ⟨h0, hlty⟩ := hin
                      obtain ⟨z, rfl⟩ : ∃ z : Nat, at' = z := ⟨at'.toNat, by omega⟩
                      have hzy : z < y := by omega
                      obtain ⟨g6, rfl⟩ := out_at0 HO.out (by omega)
                      obtain ⟨g', o', hp', hc⟩ := tx_byte HO.out.tx hzy
                      cases hp'
                      rw [Nat.zero_add] at hc
                      have hf : wc.frozen? ⟨g6, z, none⟩ = false := by
                        rcases HO.out.own.2 with ⟨e, _⟩ | ⟨g', cap, cur, e, _, hh, _⟩
                        · cases e
                        · cases e; exact frozen_of_row wc g6 z _ _ hh
                      have i3 : (0 : Int) ≤ z ∧ (z : Int) < y := by omega
                      have hx8 : B6.getD z 0 < 256 := Sm.getD_lt HO.out.ok (by omega) _
                      obtain ⟨v, hv, hv8⟩ := xor_byte (B6.getD z 0) by' hx8 hby
                      generalize B6.getD z 0 = x at *
                      have HS := Lib.hid (out_set HO.out z hv8 hzy)
                      clear hx8
                      go_wp2_with fail
                      go_meet
                      exact ⟨_, rfl, HS.out⟩
                    · rw [decide_eq_false hin]
                      go_wp2_with fail
                      go_meet
                      exact ⟨B6, rfl, HO.out⟩
                  case rest =>
                    obtain ⟨B7, rfl, hO7⟩ := hcut
                    have HO7 := Lib.hid hO7
                    clear hO7 HO
                    have q64 : (y : Int).tdiv 64 = (N : Int) := by rw [Int.tdiv_eq_ediv_of_nonneg (by omega)]; have := HY.out; omega
                    have q64' : (y : Int) / 64 = (N : Int) := by have := HY.out; omega
                    have hN8 : N ≤ 100 := by have := HY.out; omega
                    go_wp2_with fail
                    refine (Dk.new_any N wc (by omega) (by omega)).mono ?_
                    rintro e w8 ⟨gd, P, rfl, d8, p8, b8⟩
                    rw [show (N : Int).toNat = N from rfl] at d8
                    have R8 := Lib.hid (show Rw wb w8 gd P (Dk.D.new N) q6 y c6 B7 N 0 from ⟨d8, fun k hk => Nat.le_trans HO7.out.low.size (p8 k hk), HO7.out.later b8, fun x hx hc => by
                      have h1 := p8 _ hc
                      have h2 := (HO7.out.own.lt x.block (by rw [hx]; rfl)).2
                      omega, rfl, rfl, rfl, by simp [Dk.D.new], rfl⟩)
                    have HBL := Lib.hid (show B7.length = 64 * N from by rw [← HO7.out.len]; exact HY.out)
                    have hyc : y ≤ c6 := HO7.out.tx.le
                    clear d8 p8 b8 HO7
                    go_wp2_with fail
                    go_loopw [13] (fun i wx => ∃ (j : Nat) (P : Nat → Prop) (s : Dk.D), j ≤ N ∧ i = .int .i64 j ∧ Rw wb wx gd P s q6 y c6 B7 N j) (fun i _ => N - (intOf i).toNat)
                    case atStart => exact ⟨0, P, _, Nat.zero_le _, rfl, R8.out⟩
                    case round =>
                      obtain ⟨j, P, s, hj, rfl, hRw⟩ := hrel
                      have HR := Lib.hid hRw
                      clear hRw R8
                      by_cases hjN : j < N
                      · have l5 : (j : Int) < N := by omega
                        have v1 : IntKind.i64.wrap (64 * (j : Int)) = 64 * (j : Int) := IntWalk.i64_in _ (by omega)
                        have v2 : IntKind.i64.wrap (64 * (j : Int) + 64) = 64 * (j : Int) + 64 := IntWalk.i64_in _ (by omega)
                        obtain ⟨g6, rfl⟩ := out_at0 HR.out.out (by have := HY.out; omega)
                        have hTX := ((HR.out.out.tx.bytes.drop (64 * j) (by have := HY.out; omega)).take 64 (by have := HY.out; omega)).tx
                        rw [Nat.zero_add] at hTX
                        have HTX := Lib.hid hTX
                        clear hTX
                        have s2 : (0 : Int) ≤ 64 * (j : Int) := by omega
                        have s3 : 64 * (j : Int) ≤ 64 * (j : Int) + 64 := by omega
                        have s4 : 64 * (j : Int) + 64 ≤ c6 := by have := HY.out; omega
                        have s5 : ¬ c6 = 64 * j := by have := HY.out; omega
                        have s6 : (64 * (j : Int) + 64).toNat = 64 * j + 64 := by omega
                        have s7 : (64 * (j : Int)).toNat = 64 * j := by omega
                        go_wp2_with fail
                        refine (Dk.write_any j ((B7.drop (64 * j)).take 64) (some ⟨g6, 64 * j, none⟩) 64 (c6 - 64 * j) HR.out.disk HTX.out (fun x hx => by cases hx; exact HR.out.off ⟨g6, 0, none⟩ rfl) (by rw [HR.out.writes]; omega)).mono ?_
                        rintro e w9 ⟨rfl, ⟨P9, d9, p9⟩, o9⟩
                        obtain ⟨hsay, s9, hR9⟩ := HR.out.write hjN HBL.out d9 p9 o9
                        rw [hsay]
                        have R9 := Lib.hid hR9
                        clear hR9 d9 p9 o9 hsay
                        go_wp2_with fail
                        go_roundw
                        case rel => exact ⟨j + 1, P9, s9, by omega, by go_num, R9.out⟩
                        case measure => simp [intOf]; omega
                      · obtain rfl : j = N := by omega
                        have l5 : ¬ (j : Int) < j := by omega
                        have HSL := Lib.hid (show s.L = B7 from by rw [HR.out.L, Nat.sub_self, List.take_of_length_le (by rw [HBL.out]; exact Nat.le_refl _)]; simp [zeros])
                        cases hrd : reads B7 with
                        | none =>
                          have HRD := Lib.hid hrd
                          clear hrd
                          go_wp2_with fail
                          refine (A.openNo HR.out.disk HR.out.dead (by rw [HSL.out]; exact HRD.out)).mono ?_
                          rintro e w9 ⟨rfl, b9⟩
                          have HO9 := Lib.hid (HR.out.out.later b9)
                          clear b9
                          go_wp2_with fail
                          refine (rread_any B7 q6 y c6 w9 HO9.out.tx (by omega) (by have := HY.out; omega)).mono ?_
                          rintro e w10 ⟨b10, ⟨_, rfl⟩ | ⟨R, q9, m9, cc, hR, _⟩⟩
                          · have HBE := Lib.hid (B1.out.trans ((HO9.out.later b10).low.mono B1.out.size))
                            clear b10
                            go_wp2_with fail
                            go_ret
                            exact ⟨rfl, HBE.out⟩
                          · rw [HRD.out] at hR
                            cases hR
                        | some R =>
                          have HRD := Lib.hid hrd
                          clear hrd
                          go_wp2_with fail
                          refine (A.openYes R HR.out.disk HR.out.dead (by rw [HSL.out]; exact HRD.out)).mono ?_
                          rintro e w9 ⟨gl, Q, rfl, l9, q9, b9⟩
                          have L9 := Lib.hid l9
                          have HO9 := Lib.hid (HR.out.out.later b9)
                          clear b9 l9 q9
                          go_wp2_with fail
                          refine (rread_any B7 q6 y c6 w9 HO9.out.tx (by omega) (by have := HY.out; omega)).mono ?_
                          rintro e w10 ⟨b10, ⟨hR, _⟩ | ⟨R', q9, m9, cc, hR, rfl, ht⟩⟩
                          · rw [HRD.out] at hR
                            cases hR
                          · rw [HRD.out] at hR
                            cases hR
                            have HO10 := Lib.hid (HO9.out.later b10)
                            have L10 := Lib.hid (A.keep (fun _ => False) L9.out (Dk.Only.of_below _ b10) (fun _ _ e => e))
                            have T10 := Lib.hid ht
                            obtain ⟨hsm, hsz⟩ := reads_inv HRD.out
                            have HSM := Lib.hid hsm
                            have HSZ := Lib.hid (show R.length ≤ 1000 from by have := len_le_size R R.length; have := HBL.out; omega)
                            have HMR := Lib.hid ht.size
                            have HQ9 := Lib.hid (fun w' => eql_self (last R R.length) (last_length R _) w')
                            clear b10 hsm hsz ht L9 HO9
                            go_wp2_with fail
                            refine (A.records L10.out).mono ?_
                            rintro e w11 ⟨q11, m11, c11, rfl, t11, b11⟩
                            have T11 := Lib.hid t11
                            have HO11 := Lib.hid (HO10.out.later b11)
                            have L11 := Lib.hid (A.keep (fun _ => False) L10.out (Dk.Only.of_below _ b11) (fun _ _ e => e))
                            have T10' := Lib.hid (T10.out.later b11)
                            have HM11 := Lib.hid (show m11 = R.length from t11.size)
                            clear t11 b11
                            go_wp2_with fail
                            refine (rsame_any R R q11 q9 m11 c11 m9 cc w11 T11.out T10'.out (by have := HSZ.out; have := HM11.out; omega) (by have := HSZ.out; have := HMR.out; omega)).mono ?_
                            rintro e w12 ⟨rfl, b12⟩
                            rw [decide_eq_true (show R = R from rfl)]
                            have HO12 := Lib.hid (HO11.out.later b12)
                            have L12 := Lib.hid (A.keep (fun _ => False) L11.out (Dk.Only.of_below _ b12) (fun _ _ e => e))
                            have T12 := Lib.hid (T10'.out.later b12)
                            clear b12
                            go_wp2_with fail
                            refine (A.last L12.out).mono ?_
                            rintro e w13 ⟨rfl, b13⟩
                            have HO13 := Lib.hid (HO12.out.later b13)
                            have T13 := Lib.hid (T12.out.later b13)
                            clear b13
                            go_wp2_with fail
                            refine (rlast_any R q9 m9 cc w13 T13.out (by have := HSZ.out; have := HMR.out; omega) HSM.out).mono ?_
                            rintro e w14 ⟨rfl, b14⟩
                            have HBE := Lib.hid (B1.out.trans ((HO13.out.later b14).low.mono B1.out.size))
                            clear b14
                            have hq := HQ9.out
                            generalize last R R.length = DD at *
                            go_wp2_with fail
                            go_ret
                            exact ⟨rfl, HBE.out⟩
              · have hy2 : y < 6400 := by omega
                generalize y % 64 = z at *
                have HN1 := Lib.hid (heap_alloc_new wr (.cells (u8s [0]) 5))
                have HOA := Lib.hid (HO.out.later ((Below.refl _ _).alloc (Nat.le_refl _) (.cells (u8s [0]) 5)))
                go_wp2_with (at_builtin; refine wpList_append_own_at _ (by rfl) (.tmp 48) (.tmp 49) 36 (by rfl) _ 5 i5 (.int .u8 0) 1 1 A22 HI.out HI0.out HI1.out HI2.out (by rfl) (by decide) _ _ _ (by rfl) HOA.out.own ⟨wr.heap.size, 0, none⟩ 1 1 (vals [0]) (by rfl) (by rw [vals_length, Nat.mul_one]; rfl) (cells_of_row (L := [0]) HN1.out) (vals_one _) (by unfold maxLen; omega) (by omega) HOA.out.low.size ?_; intro v7 w7 hown7 hgrow7 _ _; have H7 := Lib.hid (HOA.out.put (byte_ok (by omega)) rfl hown7 hgrow7); clear hown7 hgrow7)
                obtain ⟨q7, c8, rfl⟩ := H7.out.form
                go_roundw
                case rel => exact ⟨y + 1, q7, c8, B6 ++ [0], rfl, by omega, H7.out⟩
                case measure => simp [lenOf]; omega
end Go.Proofs.Ytlkeobohcfbgcaa.Wl

/- Proved: whatever texts, place, byte and bytes it is handed, the Go function indenturelaw08.WalReads returns true (the log of any sectors is the document's, or there is none), and each argument reads afterwards as it read before. Conditions: none beyond the given row's own. -/
namespace Go.Proofs.Ytlkeobohcfbgcaa
open Go.ChangeShapes Go.WideShapes Go.ChangeAt Go.RowKit Go.Deep

set_option maxRecDepth 100000 in
theorem wlreads_lifted (os : Os) (started : os.Started) (H : Type) (enc : TypeId × Value → H) :
    ReturnsInHanded {} Try.checked os 6 .any (Rows.walReadsSpec.pre6 enc Try.prog Try.f6 Rows.walReadsRow.domain false) (Rows.walReadsSpec.post enc Try.prog Try.f6 false true false false) := by
  refine returnsInHanded_of_change (C := Try.checked) gen_own started (by kernel_rfl) Try.func6
    (ChangeSpec.witness6 (enc := enc) (C := Try.checked) false ⟨#[], #[.slice none 0 0, .int .i64 0, .int .u8 0, .slice none 0 0], []⟩ 8 (by kernel_rfl) (by kernel_rfl) (by kernel_rfl) (by kernel_rfl)) ?_
  intro W base args ds gs before hval0 hW _ _
  have hval : ∀ (j : Nat) t v, Try.f6.params[j]? = some t → args[j]? = some v → Value.okWide Try.prog W .any base t v := hval0
  have hW' := hW
  obtain ⟨p, q, hA0, hV, rfl, _, _⟩ := hW
  have hA : DataW.TrodAll enc Try.prog W 0 (fun _ => true) true Try.f6.params.toList args.toList ds p := hA0
  rw [Try.params6] at hA hval
  obtain ⟨v0, vs0, d0, ds0, p0, q0, hargs, rfl, rfl, h0, r0⟩ := trodAll_cons hA
  obtain ⟨v1, vs1, d1, ds1, p1, q1, rfl, rfl, rfl, h1, r1⟩ := trodAll_cons r0
  obtain ⟨v2, vs2, d2, ds2, p2, q2, rfl, rfl, rfl, h2, r2⟩ := trodAll_cons r1
  obtain ⟨v3, vs3, d3, ds3, p3, q3, rfl, rfl, rfl, h3, r3⟩ := trodAll_cons r2
  obtain ⟨rfl, rfl, rfl⟩ := trodAll_nil r3
  obtain rfl : args = #[v0, v1, v2, v3] := by cases args; simp_all
  obtain ⟨rfl, rfl⟩ := trodVars_none hV
  obtain ⟨a0, len0, cap0, rfl⟩ := okWide_slice Try.underlying35 (hval 0 35 v0 rfl rfl)
  obtain ⟨n1, rfl, rfl, rfl, hn1⟩ := open_int Try.underlying3 (hval 1 3 v1 rfl rfl) h1
  obtain ⟨n2, rfl, rfl, rfl, hn2⟩ := open_int Try.underlying5 (hval 2 5 v2 rfl rfl) h2
  obtain ⟨a3, len3, cap3, rfl⟩ := okWide_slice Try.underlying36 (hval 3 36 v3 rfl rfl)
  have k0 := h0
  have k1 := h1
  have k2 := h2
  have k3 := h3
  have lt0 : ∀ x ∈ p0, x.block < W.heap.size := by obtain ⟨m, hm⟩ := k0; exact DataW.trod_lt m _ _ _ hm
  have lt3 : ∀ x ∈ p3, x.block < W.heap.size := by obtain ⟨m, hm⟩ := k3; exact DataW.trod_lt m _ _ _ hm
  obtain ⟨⟨L0, hL0⟩, hl0⟩ : (∃ L, Texts W a0 len0 cap0 L) ∧ len0 ≤ 9223372036854775807 := by
    obtain ⟨fuel, hf⟩ := h0
    exact open_texts hf
  have bn1 := bounds_i64 hn1
  have bn2 := bounds_u8 hn2
  obtain ⟨m2, rfl⟩ : ∃ m : Nat, n2 = m := ⟨n2.toNat, by omega⟩
  obtain ⟨⟨B3, hB3⟩, hl3⟩ : (∃ B, Tx W a3 len3 cap3 B) ∧ len3 ≤ 9223372036854775807 := by
    obtain ⟨fuel, hf⟩ := h3
    exact open_bytes hf
  clear hA0 hval0
  refine (Wl.reads_any Wl.wapi a0 a3 len0 cap0 len3 cap3 L0 n1 m2 B3 W hL0 hB3 (by omega) bn1.1 bn1.2 hl0 hl3).mono fun e W' ⟨he, bel⟩ => ?_
  subst he
  exact ⟨_, rfl, _, _, _, [], _, [], hW', trodAll_mk1 (shut_bool Try.underlying4 _),
    (trodAll_cons_mk (Below.trod gen_laidOut (by kernel_rfl) (of_decide_eq_true (by kernel_rfl)) k0 bel lt0) (trodAll_cons_mk (Below.trod gen_laidOut (by kernel_rfl) (of_decide_eq_true (by kernel_rfl)) k1 bel (fun x hx => by cases hx)) (trodAll_cons_mk (Below.trod gen_laidOut (by kernel_rfl) (of_decide_eq_true (by kernel_rfl)) k2 bel (fun x hx => by cases hx)) (trodAll_cons_mk (Below.trod gen_laidOut (by kernel_rfl) (of_decide_eq_true (by kernel_rfl)) k3 bel lt3) trodAll_mk0)))), rfl, bel.frame _, fun h => by cases h⟩
theorem wlreads_holds : Rows.WalReadsSaid :=
  OpenClaim.holds_of_wide 6 Try.f6 rfl rfl rfl rfl rfl rfl rfl ⟨rfl, rfl, rfl, rfl, rfl⟩ rfl rfl rfl rfl rfl (by kernel_rfl) Try.func6 (by kernel_rfl)
    (of_decide_eq_true (by kernel_rfl)) (by unfold Func.isWrapper; first | (rw [if_pos (by decide +kernel)]; kernel_rfl) | (rw [if_neg (by decide +kernel)]; exact ⟨rfl, rfl⟩))
    (fun os started H enc _ => wlreads_lifted os started H enc)
end Go.Proofs.Ytlkeobohcfbgcaa
