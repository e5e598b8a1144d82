/- Proved: whatever small number and steps it is handed, the Go function indenturelaw08.WalDies returns true (whatever dies, however often: the records that are read are those whose append told OK, and at most the one more that was under way, as a whole; opening turns nothing), and each argument reads afterwards as it read before. Conditions: none beyond the given row's own. -/
import Derived.Test.YtlkeobohcfbgcaaM8
import Derived.StillTailTactics
/- The law WalDies, over whatever log keeps the contracts. -/
namespace Go.Proofs.Ytlkeobohcfbgcaa.Wl
open Go.RowKit

theorem wpAnyH_mono {P : Program} {md : Region.Mode} {ops : Array Oper} {Q : Exit → Act → World → Prop} {S S' : World → Prop} (h : ∀ w, S' w → S w) : ∀ (fuel : Nat) (listed : Array Bool) (a : Act) (w : World), wpAnyH P md ops Q S' fuel listed a w → wpAnyH P md ops Q S fuel listed a w
  | 0, _, _, _, k => k
  | fuel + 1, _, _, _, k => ⟨k.1, fun i hi => wpOp_mono (fun a' w' h' => ⟨h _ h'.1, wpAnyH_mono h fuel _ a' w' h'.2⟩) (k.2 i hi)⟩
variable {LD : World → Nat → (Nat → Prop) → Nat → Nat → G → Prop}
theorem neq_self (D : List Nat) (hD : D.length = 32) (w : World) : (binOp .neq 44 (.agg (u8s D)) (.agg (u8s D))).run Try.prog w = .ok (.bool false) w := by
  rw [digest_neq D D hD hD w, decide_eq_true (rfl : D = D)]
  rfl
def DieR (LD : World → Nat → (Nat → Prop) → Nat → Nat → G → Prop) (w : World) (gd n : Nat) (x v i : Value) (wr : World) : Prop :=
  ∃ (k : Nat) (P : Nat → Prop) (s : Dk.D) (gl : Nat) (Q : Nat → Prop) (R : List (List Nat)) (m : Nat), k ≤ n ∧ k ≤ 30 ∧ i = .int .i64 k ∧ x = .pointer (some ⟨gl, 0, none⟩) ∧ Dv LD w wr gd P s gl Q ⟨R, false⟩ v m R ∧ s.dead = false ∧ Good s.L R ∧ s.writes ≤ 1600 * k ∧ m ≤ k
set_option maxRecDepth 100000 in
set_option maxHeartbeats 2500000 in
theorem dies_any (A : Api LD) (a : Nat) (p : Option Addr) (n c : Nat) (L : List Step) (w : World) (ha : a < 256) (hL : Steps w p n c L) (hn : n ≤ 9223372036854775807) :
    Calls Try.prog 5 #[.int .u8 a, .slice p n c] w fun e w' => e = .returned (.bool true) ∧ Below w.heap.size w w' := by
  have HL := Lib.hid hL
  have hnc := hL.le
  have t80 : (a : Int).tmod 80 = ((a % 80 : Nat) : Int) := by rw [Int.tmod_eq_emod_of_nonneg (by omega)]; omega
  have h80 : a % 80 < 80 := by omega
  clear hL
  go_enter Try.func5, Try.ntmps5
  go_wp2_with fail
  refine (walive_any A w).mono ?_
  rintro e w1 ⟨rfl, b1⟩
  have B1 := Lib.hid b1
  clear b1
  go_wp2_with fail
  refine (great_any p n c L w1 ⟨HL.out.size, HL.out.le, fun h => by
    obtain ⟨g, o, hp, hx⟩ := HL.out.at' h
    exact ⟨g, o, hp, fun i hi => ⟨fun j v hv => (B1.out.cell (block_lt_of_cell ((hx i hi).1 j v hv))).trans ((hx i hi).1 j v hv), ⟨(hx i hi).2.b.later B1.out, (hx i hi).2.bl, (hx i hi).2.k, (hx i hi).2.torn⟩⟩⟩⟩ hn).mono ?_
  rintro e w2 ⟨rfl, r, rfl, hr⟩
  cases r with
  | true =>
    clear hr
    go_wp2_with fail
    go_ret
    exact ⟨rfl, B1.out⟩
  | false =>
    have HGR := Lib.hid (hr rfl)
    clear hr
    generalize a % 80 = x at *
    go_wp2_with fail
    refine (Dk.new_any x w2 (by omega) (by omega)).mono ?_
    rintro e w3 ⟨gd, P, rfl, d3, p3, b3⟩
    rw [show (x : Int).toNat = x from rfl] at d3
    have D3 := Lib.hid d3
    have P3 := Lib.hid p3
    have B3 := Lib.hid b3
    clear d3 p3 b3
    go_wp2_with fail
    refine (A.openYes [] D3.out rfl (zeros_good x).reads).mono ?_
    rintro e w4 ⟨gl, Q, rfl, l4, q4, b4⟩
    have V4 := Lib.hid (show Dv LD w w4 gd P (Dk.D.new x) gl Q ⟨[], false⟩ (.slice none 0 0) 0 [] from ⟨⟨Dk.PD.keep (fun _ => False) D3.out (Dk.Only.of_below _ b4) (fun _ _ e => e), l4, fun k hp hq => by have := Dk.PD.lt D3.out k hp; have := q4 k hq; omega, fun k hk => hk.elim (fun e => Nat.le_trans B1.out.size (P3.out k e)) (fun e => Nat.le_trans B1.out.size (Nat.le_trans B3.out.size (q4 k e))), B1.out.trans ((B3.out.trans (b4.mono B3.out.size)).mono B1.out.size)⟩, ⟨rfl, [], World.ownsRow_nil _ _ _ _, fun i hi => by omega⟩, fun k hk => by cases hk⟩)
    clear l4 q4 b4 D3 P3 B3
    go_wp2_with fail
    go_loopw [7, 9, 10] (fun x v i wr => DieR LD w gd n x v i wr) (fun _ _ i _ => 30 - (intOf i).toNat)
    case atStart => exact ⟨0, P, _, gl, Q, [], 0, Nat.zero_le _, Nat.zero_le _, rfl, rfl, V4.out, rfl, zeros_good x, Nat.zero_le _, Nat.le_refl _⟩
    case round =>
      obtain ⟨k, P, s, gl, Q, R, m, hk, hk30, rfl, rfl, hV, hd, hG, hw, hmk⟩ := hrel
      have HV := Lib.hid hV
      have HD := Lib.hid hd
      have HG := Lib.hid hG
      have HW := Lib.hid hw
      clear hV hd hG hw V4
      by_cases hlt : k < n
      · have l1 : (k : Int) < n := by omega
        by_cases hlt2 : k < 30
        · have l2 : (k : Int) < 30 := by omega
          obtain ⟨go, oo, rfl⟩ := HL.out.base (by omega)
          obtain ⟨tok, tr⟩ := HL.out.four hlt
          have hbn := HGR.out k hlt (by omega)
          have TOK := Lib.hid tok
          have TR := Lib.hid tr
          have c1 := (HV.out.st.low.cell (block_lt_of_cell (tr 1 _ rfl))).trans (tr 1 _ rfl)
          have i1 : (0 : Int) ≤ k ∧ (k : Int) < n := by omega
          clear tok tr
          generalize L.getD k default = t at *
          go_upto_if 50 with fail
          go_cut [11] from 50 to 163 (fun _ wx => ∃ (P' : Nat → Prop) (s' : Dk.D), Dv LD w wx gd P' s' gl Q ⟨R, false⟩ u9 m R ∧ s'.dead = false ∧ Good s'.L R ∧ s'.writes ≤ 1600 * k)
          case first =>
            generalize hdd : t.dies = dd at *
            cases dd with
            | true =>
              have e2 := TR.out 2 _ rfl
              have e3 := TR.out 3 _ rfl
              have c2 := (HV.out.st.low.cell (block_lt_of_cell e2)).trans e2
              have c3 := (HV.out.st.low.cell (block_lt_of_cell e3)).trans e3
              clear e2 e3
              go_wp2_with fail
              go_still_tail 11, (by kernel_rfl)
              have HV := Lib.hid (HV.out.later A (Below.refl _ _).drew)
              go_wp2_with fail
              refine (Dk.fuse_any t.k t.torn HV.out.st.disk (by have := TOK.out.k; omega)).mono ?_
              rintro e w5 ⟨rfl, ⟨P5, d5, p5⟩, o5⟩
              have V5 := Lib.hid (HV.out.disk' A (show (s.fuse t.k t.torn).n = s.n from rfl) d5 p5 o5)
              clear d5 p5 o5
              go_wp2_with fail
              go_meet
              exact ⟨P5, _, V5.out, HD.out, HG.out, HW.out⟩
            | false =>
              go_wp2_with fail
              go_meet
              exact ⟨P, s, HV.out, HD.out, HG.out, HW.out⟩
          case rest =>
            clear HV HD HG HW c1
            obtain ⟨P', s', hV, hd, hG, hw⟩ := hcut
            obtain ⟨q9, c9, rfl, hmc⟩ := hV.hs.form
            have HV := Lib.hid hV
            have HD := Lib.hid hd
            have HG := Lib.hid hG
            have HW := Lib.hid hw
            have TB := Lib.hid TOK.out.b
            have e0 := TR.out 0 _ rfl
            rw [Nat.add_zero] at e0
            have c0 := (HV.out.st.low.cell (block_lt_of_cell e0)).trans e0
            have HAP := Lib.hid (aside TB.out HV.out.st.own)
            have HRM := Lib.hid (show R.length = m from HV.out.hs.len.symm)
            have HE0 := Lib.hid e0
            have hnb : need t.B.length ≤ 1565 := by have := TB.out.size; unfold need; omega
            clear hV hd hG hw e0
            go_wp2_with fail
            refine (A.append t.B t.bp t.bn t.bc HV.out.st.disk HV.out.st.log HV.out.st.apart (TB.out.later HV.out.st.low) HAP.out (by omega) (by have := HW.out; omega) (by have := HRM.out; simp only; omega)).mono ?_
            rintro e w5 ⟨rfl, P5, Q5, d5, l5, p5, q5, a5, o5⟩
            have V5 := Lib.hid (HV.out.app d5 l5 p5 q5 a5 o5)
            clear d5 l5 p5 q5 a5 o5 c0
            have hways := app_ways (R := R) (s := s') (b := t.B) (Dk.PD.okay HV.out.st.disk) HD.out HG.out TB.out.ok (by have := TB.out.size; omega)
            clear HV
            rcases hways with ⟨_, he⟩ | ⟨s6, he, hn6, hd6, hw6, hg6⟩ | ⟨s6, he, hdied⟩
            · rw [he] at V5 ⊢
              clear he
              go_wp2_with fail
              refine (Dk.dead_any V5.out.st.disk).mono ?_
              rintro e w6 ⟨rfl, b6⟩
              have V6 := Lib.hid (V5.out.later A b6)
              rw [show s'.dead = false from HD.out]
              clear b6 V5
              go_wp2_with fail
              go_roundw
              case rel => exact ⟨k + 1, P5, s', gl, Q5, R, m, by omega, by omega, by go_num, rfl, V6.out, HD.out, HG.out, by have := HW.out; omega, by omega⟩
              case measure => simp [intOf]; omega
            · rw [he] at V5 ⊢
              have HD6 := Lib.hid hd6
              have HG6 := Lib.hid hg6
              have HW6 := Lib.hid (show s6.writes ≤ 1600 * (k + 1) from by have := HW.out; omega)
              have c0 := (V5.out.st.low.cell (block_lt_of_cell HE0.out)).trans HE0.out
              have hb := (Below.refl w5.heap.size w5).alloc (Nat.le_refl _) (.cells #[.slice t.bp t.bn t.bc] 36)
              have V5A := Lib.hid (V5.out.later A hb)
              obtain ⟨hlen, hs, how, hall⟩ := V5A.out.hs
              have HOW := Lib.hid how
              have HALL := Lib.hid hall
              have HLO := Lib.hid V5A.out.st.low.size
              obtain ⟨i6, hj, hj0, hj1, hj2⟩ := info_parts IH
              have HJ := Lib.hid hj
              have HJ0 := Lib.hid hj0
              have HJ1 := Lib.hid hj1
              have HJ2 := Lib.hid hj2
              clear he hd6 hg6 hw6 hb how hall hlen V5 hj hj0 hj1 hj2
              go_wp2_with (at_builtin; refine wpList_append_own_at _ (by rfl) (.tmp 72) (.tmp 78) 35 (by rfl) w.heap.size 36 i6 (.slice none 0 0) 1 24 UL HJ.out HJ0.out HJ1.out HJ2.out (by rfl) (by decide) _ m _ (by rfl) HOW.out ⟨w5.heap.size, 0, none⟩ 1 1 [.slice t.bp t.bn t.bc] (by rfl) (by rfl) (cell_one_new w5 _ _) (by simp [Value.oneCell']) (by unfold maxLen; omega) (by omega) HLO.out ?_; intro v7 w7 hown7 hgrow7 _ hat7; have V7 := Lib.hid (V5A.out.list A (Hs.put (b := t.B) HRM.out.symm HOW.out HALL.out TB.out hown7) hgrow7 hat7); clear hown7 hgrow7 hat7)
              refine (Dk.dead_any V7.out.st.disk).mono ?_
              rintro e w8 ⟨rfl, b8⟩
              have V8 := Lib.hid (V7.out.later A b8)
              rw [show s6.dead = false from HD6.out]
              clear b8 V7
              go_wp2_with fail
              go_roundw
              case rel => exact ⟨k + 1, P5, s6, gl, Q5, R ++ [t.B], m + 1, by omega, by omega, by go_num, rfl, V8.out, HD6.out, HG6.out, HW6.out, by omega⟩
              case measure => simp [intOf]; omega
            · rw [he] at V5 ⊢
              have hdd := hdied.dead
              clear he
              go_wp2_with fail
              refine (Dk.dead_any V5.out.st.disk).mono ?_
              rintro e w6 ⟨rfl, b6⟩
              have V6 := Lib.hid (V5.out.later A b6)
              rw [hdd]
              clear b6 V5 hdd
              have HDI := Lib.hid hdied
              clear hdied
              go_wp2_with fail
              refine (A.append [] none 0 0 V6.out.st.disk V6.out.st.log V6.out.st.apart ⟨rfl, Nat.le_refl _, (fun x hx => by cases hx), Or.inl ⟨rfl, rfl⟩, fun x hx => by cases hx⟩ (fun _ h _ => by cases h) (by omega) (by have := HDI.out.writes; have := HW.out; omega) (by have := HRM.out; simp only; omega)).mono ?_
              rintro e w7 ⟨rfl, P7, Q7, d7, l7, p7, q7, a7, o7⟩
              have V7 := Lib.hid (V6.out.app d7 l7 p7 q7 a7 o7)
              rw [app_broken rfl] at V7 ⊢
              clear d7 l7 p7 q7 a7 o7 V6
              go_wp2_with fail
              refine (Dk.wake_any V7.out.st.disk).mono ?_
              rintro e w8 ⟨rfl, ⟨P8, d8, p8⟩, o8⟩
              have V8 := Lib.hid (V7.out.disk' A (show s6.wake.n = s6.n from rfl) d8 p8 o8)
              obtain ⟨R1, hR1, hg1⟩ : ∃ R1, (R1 = R ∨ R1 = R ++ [t.B]) ∧ Good s6.wake.L R1 := HDI.out.good.elim (fun h => ⟨R, Or.inl rfl, h⟩) (fun h => ⟨_, Or.inr rfl, h⟩)
              have HG1 := Lib.hid hg1
              have HDW := Lib.hid (show s6.wake.dead = false from rfl)
              have HWW := Lib.hid (show s6.wake.writes ≤ 1600 * (k + 1) from by have := HDI.out.writes; have := HW.out; show s6.writes ≤ _; omega)
              have HR1L := Lib.hid (show R1.length ≤ m + 1 from by have := HRM.out; exact hR1.elim (fun h => by rw [h]; omega) (fun h => by rw [h, List.length_append, List.length_singleton]; omega))
              clear d8 p8 o8 V7 hg1 HDI HW
              generalize s6.wake = sw at *
              go_wp2_with fail
              refine (Dk.all_any V8.out.st.disk).mono ?_
              rintro e w9 ⟨pa, ca, rfl, ma, b9⟩
              have V9 := Lib.hid (V8.out.later A b9)
              have MA := Lib.hid ma
              clear ma b9 V8
              go_wp2_with fail
              refine (A.openYes R1 V9.out.st.disk HDW.out HG1.out.reads).mono ?_
              rintro e w10 ⟨gx, Qx, rfl, lx, qx, b10⟩
              have HQX := Lib.hid (show ∀ k, Qx k → w.heap.size ≤ k ∧ ¬ P8 k ∧ (Value.slice q9 m c9).ownBlock ≠ some k from fun k hk => ⟨Nat.le_trans V9.out.st.low.size (qx k hk), fun hp => by have := Dk.PD.lt V9.out.st.disk k hp; have := qx k hk; omega, fun e => by have := (V9.out.hs.lt k e).2; have := qx k hk; omega⟩)
              have V10 := Lib.hid (V9.out.later A b10)
              have LX := Lib.hid lx
              have MA10 := Lib.hid (MA.out.later b10)
              clear lx b10 V9 MA qx
              go_wp2_with fail
              refine (A.openYes R1 V10.out.st.disk HDW.out HG1.out.reads).mono ?_
              rintro e w11 ⟨gy, Qy, rfl, ly, _, b11⟩
              have V11 := Lib.hid (V10.out.later A b11)
              have LX11 := Lib.hid (A.keep (fun _ => False) LX.out (Dk.Only.of_below _ b11) (fun _ _ e => e))
              have LY := Lib.hid ly
              have HT := Lib.hid (MA10.out.later b11).tx
              clear ly b11 V10 MA10 LX
              have HALL := Lib.hid (show ∀ w', Below w11.heap.size w11 w' → Calls Try.prog 18 #[.pointer (some ⟨gd, 0, none⟩)] w' fun e w'' => ∃ p c, e = .returned (.slice p (64 * sw.n) c) ∧ Tx w'' p (64 * sw.n) c sw.L ∧ Below w11.heap.size w11 w'' from fun w' hb => (Dk.all_any (V11.out.later A hb).st.disk).mono fun _e _w'' ⟨p, c, h1, h2, h3⟩ => ⟨p, c, h1, h2.tx, hb.trans (h3.mono hb.size)⟩)
              have HRX := Lib.hid (show ∀ w', Below w11.heap.size w11 w' → Calls Try.prog 23 #[.pointer (some ⟨gx, 0, none⟩)] w' fun e w'' => ∃ q m c, e = .returned (.slice q m c) ∧ Texts w'' q m c R1 ∧ Below w'.heap.size w' w'' from fun w' hb => A.records (A.keep (fun _ => False) LX11.out (Dk.Only.of_below _ hb) (fun _ _ e => e)))
              have HRY := Lib.hid (show ∀ w', Below w11.heap.size w11 w' → Calls Try.prog 23 #[.pointer (some ⟨gy, 0, none⟩)] w' fun e w'' => ∃ q m c, e = .returned (.slice q m c) ∧ Texts w'' q m c R1 ∧ Below w'.heap.size w' w'' from fun w' hb => A.records (A.keep (fun _ => False) LY.out (Dk.Only.of_below _ hb) (fun _ _ e => e)))
              go_upto_region 27 with fail
              go_cut [135] from 114 to 163 (fun cb wx => cb = .bool false ∧ Below w11.heap.size w11 wx)
              case first =>
                refine wp_region_held_drew (S := fun w' => Below w11.heap.size w11 w') (by kernel_rfl) (Below.refl _ _).drew (fun hHeld => ?_)
                refine wpAnyH_take (i := 0) (oi := ⟨some 114, .move (.tmp 14), _, _, _, _⟩) (v := ?_) rfl (by kernel_rfl) (by kernel_rfl) (by kernel_rfl) (fun _ _ _ h => h) (Or.inl ⟨by rfl, ?_⟩) (by assumption) ?_
                rotate_left
                · intro w' hSw
                  go_simp
                  try with_reducible rfl
                try simp only [Act.put, List.setIfInBounds_toArray, List.set_cons_zero, List.set_cons_succ]
                refine wpAnyH_take (i := 1) (oi := ⟨some 115, .binOp .neq 28 (.tmp 114) (.const (.int .i64 0)) 28, _, _, _, _⟩) (v := ?_) rfl (by kernel_rfl) (by kernel_rfl) (by kernel_rfl) (fun _ _ _ h => h) (Or.inl ⟨by rfl, ?_⟩) (by assumption) ?_
                rotate_left
                · intro w' hSw
                  go_simp
                  try with_reducible rfl
                try simp only [Act.put, List.setIfInBounds_toArray, List.set_cons_zero, List.set_cons_succ]
                refine wpAnyH_take (i := 2) (oi := ⟨some 116, .move (.tmp 115), _, _, _, _⟩) (v := ?_) rfl (by kernel_rfl) (by kernel_rfl) (by kernel_rfl) (fun _ _ _ h => h) (Or.inl ⟨by rfl, ?_⟩) (by assumption) ?_
                rotate_left
                · intro w' hSw
                  go_simp
                  try with_reducible rfl
                try simp only [Act.put, List.setIfInBounds_toArray, List.set_cons_zero, List.set_cons_succ]
                refine wpAnyH_take (i := 3) (oi := ⟨some 117, .move (.tmp 16), _, _, _, _⟩) (v := ?_) rfl (by kernel_rfl) (by kernel_rfl) (by kernel_rfl) (fun _ _ _ h => h) (Or.inl ⟨by rfl, ?_⟩) (by assumption) ?_
                rotate_left
                · intro w' hSw
                  go_simp
                  try with_reducible rfl
                try simp only [Act.put, List.setIfInBounds_toArray, List.set_cons_zero, List.set_cons_succ]
                refine wpAnyH_take (i := 4) (oi := ⟨some 118, .binOp .neq 28 (.tmp 117) (.const (.int .i64 0)) 28, _, _, _, _⟩) (v := ?_) rfl (by kernel_rfl) (by kernel_rfl) (by kernel_rfl) (fun _ _ _ h => h) (Or.inl ⟨by rfl, ?_⟩) (by assumption) ?_
                rotate_left
                · intro w' hSw
                  go_simp
                  try with_reducible rfl
                try simp only [Act.put, List.setIfInBounds_toArray, List.set_cons_zero, List.set_cons_succ]
                refine wpAnyH_take (i := 5) (oi := ⟨some 119, .pick (.tmp 116) (.const (.bool true)) (.tmp 118), _, _, _, _⟩) (v := ?_) rfl (by kernel_rfl) (by kernel_rfl) (by kernel_rfl) (fun _ _ _ h => h) (Or.inl ⟨by rfl, ?_⟩) (by assumption) ?_
                rotate_left
                · intro w' hSw
                  go_simp
                  try with_reducible rfl
                try simp only [Act.put, List.setIfInBounds_toArray, List.set_cons_zero, List.set_cons_succ]
                refine wpAnyH_take (i := 6) (oi := ⟨some 120, .move (.tmp 119), _, _, _, _⟩) (v := ?_) rfl (by kernel_rfl) (by kernel_rfl) (by kernel_rfl) (fun _ _ _ h => h) (Or.inl ⟨by rfl, ?_⟩) (by assumption) ?_
                rotate_left
                · intro w' hSw
                  go_simp
                  try with_reducible rfl
                try simp only [Act.put, List.setIfInBounds_toArray, List.set_cons_zero, List.set_cons_succ]
                refine wpAnyH_take (i := 7) (oi := ⟨some 121, .move (.tmp 5), _, _, _, _⟩) (v := ?_) rfl (by kernel_rfl) (by kernel_rfl) (by kernel_rfl) (fun _ _ _ h => h) (Or.inl ⟨by rfl, ?_⟩) (by assumption) ?_
                rotate_left
                · intro w' hSw
                  go_simp
                  try with_reducible rfl
                try simp only [Act.put, List.setIfInBounds_toArray, List.set_cons_zero, List.set_cons_succ]
                refine wpAnyH_take (i := 10) (oi := ⟨some 124, .move (.tmp 12), _, _, _, _⟩) (v := ?_) rfl (by kernel_rfl) (by kernel_rfl) (by kernel_rfl) (fun _ _ _ h => h) (Or.inl ⟨by rfl, ?_⟩) (by assumption) ?_
                rotate_left
                · intro w' hSw
                  go_simp
                  try with_reducible rfl
                try simp only [Act.put, List.setIfInBounds_toArray, List.set_cons_zero, List.set_cons_succ]
                refine wpAnyH_take (i := 11) (oi := ⟨some 125, .convert 36 9 (.tmp 124), _, _, _, _⟩) (v := ?_) rfl (by kernel_rfl) (by kernel_rfl) (by kernel_rfl) (fun _ _ _ h => h) (Or.inl ⟨by rfl, ?_⟩) (by assumption) ?_
                rotate_left
                · intro w' hSw
                  have hcv := convert_tx (HT.out.later hSw)
                  go_simp
                  try with_reducible rfl
                try simp only [Act.put, List.setIfInBounds_toArray, List.set_cons_zero, List.set_cons_succ]
                refine wpAnyH_ready (rs := [8]) (by kernel_rfl) (by simp) ?_
                refine AllReadyH.cons (o := ⟨some 122, .call ⟨.value (.func 18), #[.tmp 121], #[27]⟩, _, _, _, _⟩) rfl (fun K hK => ?_) AllReadyH.nil
                go_simp
                with_reducible refine (HALL.out _ ?hx).mono ?_
                case hx => exact hHeld
                rintro _ w122 ⟨p2, c2, rfl, ht2, hS122⟩
                try go_wp2_with fail
                refine hK.out _ _ hS122 (fun hHeld => ?_)
                clear hK K
                try simp only [Act.put, List.setIfInBounds_toArray, List.set_cons_zero, List.set_cons_succ]
                refine wpAnyH_mono (S' := fun w' => Below w11.heap.size w11 w' ∧ Tx w' p2 (64 * sw.n) c2 sw.L) (fun _ h => h.1) _ _ _ _ ?_
                have hHeld : Below w11.heap.size w11 w122 ∧ Tx w122 p2 (64 * sw.n) c2 sw.L := ⟨hS122, ht2⟩
                clear hS122 ht2
                refine wpAnyH_take (i := 9) (oi := ⟨some 123, .convert 36 9 (.tmp 122), _, _, _, _⟩) (v := ?_) rfl (by kernel_rfl) (by kernel_rfl) (by kernel_rfl) (fun _ _ _ h => h) (Or.inl ⟨by rfl, ?_⟩) (by assumption) ?_
                rotate_left
                · intro w' hSw
                  have hcv := convert_tx hSw.2
                  go_simp
                  try with_reducible rfl
                try simp only [Act.put, List.setIfInBounds_toArray, List.set_cons_zero, List.set_cons_succ]
                refine wpAnyH_take (i := 12) (oi := ⟨some 126, .binOp .neq 9 (.tmp 123) (.tmp 125) 9, _, _, _, _⟩) (v := ?_) rfl (by kernel_rfl) (by kernel_rfl) (by kernel_rfl) (fun _ _ _ h => h) (Or.inl ⟨by rfl, ?_⟩) (by assumption) ?_
                rotate_left
                · intro w' hSw
                  go_simp
                  try with_reducible rfl
                try simp only [Act.put, List.setIfInBounds_toArray, List.set_cons_zero, List.set_cons_succ]
                refine wpAnyH_take (i := 13) (oi := ⟨some 127, .pick (.tmp 120) (.const (.bool true)) (.tmp 126), _, _, _, _⟩) (v := ?_) rfl (by kernel_rfl) (by kernel_rfl) (by kernel_rfl) (fun _ _ _ h => h) (Or.inl ⟨by rfl, ?_⟩) (by assumption) ?_
                rotate_left
                · intro w' hSw
                  go_simp
                  try with_reducible rfl
                try simp only [Act.put, List.setIfInBounds_toArray, List.set_cons_zero, List.set_cons_succ]
                refine wpAnyH_take (i := 14) (oi := ⟨some 128, .move (.tmp 127), _, _, _, _⟩) (v := ?_) rfl (by kernel_rfl) (by kernel_rfl) (by kernel_rfl) (fun _ _ _ h => h) (Or.inl ⟨by rfl, ?_⟩) (by assumption) ?_
                rotate_left
                · intro w' hSw
                  go_simp
                  try with_reducible rfl
                try simp only [Act.put, List.setIfInBounds_toArray, List.set_cons_zero, List.set_cons_succ]
                refine wpAnyH_take (i := 15) (oi := ⟨some 129, .move (.tmp 13), _, _, _, _⟩) (v := ?_) rfl (by kernel_rfl) (by kernel_rfl) (by kernel_rfl) (fun _ _ _ h => h) (Or.inl ⟨by rfl, ?_⟩) (by assumption) ?_
                rotate_left
                · intro w' hSw
                  go_simp
                  try with_reducible rfl
                try simp only [Act.put, List.setIfInBounds_toArray, List.set_cons_zero, List.set_cons_succ]
                refine wpAnyH_take (i := 17) (oi := ⟨some 131, .move (.tmp 15), _, _, _, _⟩) (v := ?_) rfl (by kernel_rfl) (by kernel_rfl) (by kernel_rfl) (fun _ _ _ h => h) (Or.inl ⟨by rfl, ?_⟩) (by assumption) ?_
                rotate_left
                · intro w' hSw
                  go_simp
                  try with_reducible rfl
                try simp only [Act.put, List.setIfInBounds_toArray, List.set_cons_zero, List.set_cons_succ]
                refine wpAnyH_ready (rs := [16]) (by kernel_rfl) (by simp) ?_
                refine AllReadyH.cons (o := ⟨some 130, .call ⟨.value (.func 23), #[.tmp 129], #[31]⟩, _, _, _, _⟩) rfl (fun K hK => ?_) AllReadyH.nil
                go_simp
                with_reducible refine (HRX.out _ ?hx).mono ?_
                case hx => exact hHeld.1
                rintro _ w130 ⟨q3, m3, c3, rfl, ht3, hb130⟩
                have hS130 : Below w11.heap.size w11 w130 ∧ Tx w130 p2 (64 * sw.n) c2 sw.L := ⟨hHeld.1.trans (hb130.mono hHeld.1.size), hHeld.2.later hb130⟩
                try go_wp2_with fail
                refine hK.out _ _ hS130 (fun hHeld => ?_)
                clear hK K
                try simp only [Act.put, List.setIfInBounds_toArray, List.set_cons_zero, List.set_cons_succ]
                refine wpAnyH_mono (S' := fun w' => (Below w11.heap.size w11 w' ∧ Tx w' p2 (64 * sw.n) c2 sw.L) ∧ Texts w' q3 m3 c3 R1) (fun _ h => h.1) _ _ _ _ ?_
                have hHeld : (Below w11.heap.size w11 w130 ∧ Tx w130 p2 (64 * sw.n) c2 sw.L) ∧ Texts w130 q3 m3 c3 R1 := ⟨hS130, ht3⟩
                clear hS130 ht3
                refine wpAnyH_ready (rs := [18]) (by kernel_rfl) (by simp) ?_
                refine AllReadyH.cons (o := ⟨some 132, .call ⟨.value (.func 23), #[.tmp 131], #[31]⟩, _, _, _, _⟩) rfl (fun K hK => ?_) AllReadyH.nil
                go_simp
                with_reducible refine (HRY.out _ ?hx).mono ?_
                case hx => exact hHeld.1.1
                rintro _ w132 ⟨q4, m4, c4, rfl, ht4, hb132⟩
                have hS132 : (Below w11.heap.size w11 w132 ∧ Tx w132 p2 (64 * sw.n) c2 sw.L) ∧ Texts w132 q3 m3 c3 R1 := ⟨⟨hHeld.1.1.trans (hb132.mono hHeld.1.1.size), hHeld.1.2.later hb132⟩, hHeld.2.later hb132⟩
                try go_wp2_with fail
                refine hK.out _ _ hS132 (fun hHeld => ?_)
                clear hK K
                try simp only [Act.put, List.setIfInBounds_toArray, List.set_cons_zero, List.set_cons_succ]
                refine wpAnyH_mono (S' := fun w' => ((Below w11.heap.size w11 w' ∧ Tx w' p2 (64 * sw.n) c2 sw.L) ∧ Texts w' q3 m3 c3 R1) ∧ Texts w' q4 m4 c4 R1) (fun _ h => h.1) _ _ _ _ ?_
                have hHeld : ((Below w11.heap.size w11 w132 ∧ Tx w132 p2 (64 * sw.n) c2 sw.L) ∧ Texts w132 q3 m3 c3 R1) ∧ Texts w132 q4 m4 c4 R1 := ⟨hS132, ht4⟩
                clear hS132 ht4
                refine wpAnyH_ready (rs := [19]) (by kernel_rfl) (by simp) ?_
                refine AllReadyH.cons (o := ⟨some 133, .call ⟨.value (.func 22), #[.tmp 130, .tmp 132], #[35, 35]⟩, _, _, _, _⟩) rfl (fun K hK => ?_) AllReadyH.nil
                go_simp
                with_reducible refine (rsame_any R1 R1 q3 q4 m3 c3 m4 c4 _ hHeld.1.2 hHeld.2 (by have := HR1L.out; have := hHeld.1.2.size; omega) (by have := HR1L.out; have := hHeld.2.size; omega)).mono ?_
                rintro _ w133 ⟨rfl, hb133⟩
                rw [decide_eq_true (show R1 = R1 from rfl)]
                have hS133 : ((Below w11.heap.size w11 w133 ∧ Tx w133 p2 (64 * sw.n) c2 sw.L) ∧ Texts w133 q3 m3 c3 R1) ∧ Texts w133 q4 m4 c4 R1 := ⟨⟨⟨hHeld.1.1.1.trans (hb133.mono hHeld.1.1.1.size), hHeld.1.1.2.later hb133⟩, hHeld.1.2.later hb133⟩, hHeld.2.later hb133⟩
                try go_wp2_with fail
                refine hK.out _ _ hS133 (fun hHeld => ?_)
                clear hK K
                try simp only [Act.put, List.setIfInBounds_toArray, List.set_cons_zero, List.set_cons_succ]
                refine wpAnyH_take (i := 20) (oi := ⟨some 134, .unOp .not 4 (.tmp 133), _, _, _, _⟩) (v := ?_) rfl (by kernel_rfl) (by kernel_rfl) (by kernel_rfl) (fun _ _ _ h => h) (Or.inl ⟨by rfl, ?_⟩) (by assumption) ?_
                rotate_left
                · intro w' hSw
                  go_simp
                  try with_reducible rfl
                try simp only [Act.put, List.setIfInBounds_toArray, List.set_cons_zero, List.set_cons_succ]
                refine wpAnyH_take (i := 21) (oi := ⟨some 135, .pick (.tmp 128) (.const (.bool true)) (.tmp 134), _, _, _, _⟩) (v := ?_) rfl (by kernel_rfl) (by kernel_rfl) (by kernel_rfl) (fun _ _ _ h => h) (Or.inl ⟨by rfl, ?_⟩) (by assumption) ?_
                rotate_left
                · intro w' hSw
                  go_simp
                  try with_reducible rfl
                try simp only [Act.put, List.setIfInBounds_toArray, List.set_cons_zero, List.set_cons_succ]
                refine wpAnyH_done (by kernel_rfl) ?_ _
                try go_wp2_with fail
                go_meet
                exact ⟨rfl, hHeld.1.1.1⟩
              case rest =>
                obtain ⟨rfl, hbc⟩ := hcut
                have V12 := Lib.hid ((V11.out.later A hbc).reopen (gl' := gx) (Q' := Qx) (g' := ⟨R1, false⟩) (A.keep (fun _ => False) LX11.out (Dk.Only.of_below _ hbc) (fun _ _ e => e)) HQX.out)
                clear hbc V11 LX11 LY HT HALL HRX HRY HQX
                generalize wc = w12 at *
                go_wp2_with fail
                refine (A.recordsAt V12.out.st.log).mono ?_
                rintro e w13 ⟨q13, m13, c13, rfl, t13, b13⟩
                have T13 := Lib.hid t13
                have HM13 := Lib.hid (show m13 = R1.length from (t13 w13 (fun _ _ _ => rfl)).size)
                have V13 := Lib.hid (V12.out.later A b13)
                have HNO := Lib.hid (show ∀ k, (Qx k ∨ w12.heap.size ≤ k) → ¬ some k = (Value.slice q9 m c9).ownBlock from fun k hk e => hk.elim (V12.out.off k e.symm).2 (fun h => by have := (V12.out.hs.lt k e.symm).2; omega))
                clear t13 b13 V12
                have z1 : IntKind.i64.wrap ((m : Int) + 1) = (m : Int) + 1 := IntWalk.i64_in _ (by omega)
                have HQ9 := Lib.hid (fun w' => neq_self (last R1 R1.length) (last_length R1 _) w')
                have HSM := Lib.hid (show ∀ b ∈ R1, b.length ≤ 100000 from HG1.out.small)
                rcases hR1 with rfl | rfl
                · obtain rfl : m13 = m := by rw [HM13.out]; exact HRM.out
                  have f1 : ¬ (m13 : Int) = (m13 : Int) + 1 := by omega
                  have f2 : ((m13 : Int) == (m13 : Int) + 1) = false := by rw [beq_eq_false_iff_ne]; omega
                  have T14 := Lib.hid (T13.out w13 (fun _ _ _ => rfl))
                  clear T13 HNO
                  go_wp2_with fail
                  refine (rsame_any R1 R1 q13 q9 m13 c13 m13 c9 w13 T14.out (V13.out.hs.texts V13.out.st.low) (by omega) (by omega)).mono ?_
                  rintro e w14 ⟨rfl, b14⟩
                  rw [decide_eq_true (show R1 = R1 from rfl)]
                  have V15 := Lib.hid (V13.out.later A b14)
                  clear b14
                  go_wp2_with fail
                  refine (A.last V15.out.st.log).mono ?_
                  rintro e w15 ⟨rfl, b15⟩
                  have V16 := Lib.hid (V15.out.later A b15)
                  clear b15 V15
                  go_wp2_with fail
                  refine (rlast_any R1 q9 m13 c9 w15 (V16.out.hs.texts V16.out.st.low) (by omega) HSM.out).mono ?_
                  rintro e w16 ⟨rfl, b16⟩
                  have V17 := Lib.hid (V16.out.later A b16)
                  clear b16 V16
                  have hq := HQ9.out
                  generalize last R1 R1.length = DD at *
                  go_wp2_with fail
                  go_roundw
                  case rel => exact ⟨k + 1, P8, sw, gx, Qx, R1, m13, by omega, by omega, by go_num, rfl, V17.out, HDW.out, HG1.out, HWW.out, by omega⟩
                  case measure => simp [intOf]; omega
                · obtain rfl : m13 = m + 1 := by rw [HM13.out, List.length_append, HRM.out]; rfl
                  have f1 : ((m + 1 : Nat) : Int) = (m : Int) + 1 := by omega
                  have c0 := (V13.out.st.low.cell (block_lt_of_cell HE0.out)).trans HE0.out
                  have hb := (Below.refl w13.heap.size w13).alloc (Nat.le_refl _) (.cells #[.slice t.bp t.bn t.bc] 36)
                  have HBA := Lib.hid hb
                  have V13A := Lib.hid (V13.out.later A hb)
                  obtain ⟨hlen, hs, how, hall⟩ := V13A.out.hs
                  have HOW := Lib.hid how
                  have HAL := Lib.hid hall
                  have HLO := Lib.hid V13A.out.st.low.size
                  obtain ⟨i6, hj, hj0, hj1, hj2⟩ := info_parts IH
                  have HJ := Lib.hid hj
                  have HJ0 := Lib.hid hj0
                  have HJ1 := Lib.hid hj1
                  have HJ2 := Lib.hid hj2
                  clear hb how hall hlen V13 hj hj0 hj1 hj2
                  go_wp2_with (at_builtin; refine wpList_append_own_at _ (by rfl) (.tmp 144) (.tmp 150) 35 (by rfl) w.heap.size 36 i6 (.slice none 0 0) 1 24 UL HJ.out HJ0.out HJ1.out HJ2.out (by rfl) (by decide) _ m _ (by rfl) HOW.out ⟨w13.heap.size, 0, none⟩ 1 1 [.slice t.bp t.bn t.bc] (by rfl) (by rfl) (cell_one_new w13 _ _) (by simp [Value.oneCell']) (by unfold maxLen; omega) (by omega) HLO.out ?_; intro v7 w7 hown7 hgrow7 _ hat7; have V14 := Lib.hid (V13A.out.list A (Hs.put (b := t.B) HRM.out.symm HOW.out HAL.out TB.out hown7) hgrow7 hat7); have T14 := Lib.hid (T13.out w7 (fun k hk hlt => (hgrow7.block k (Nat.lt_of_lt_of_le hlt HBA.out.size) (HNO.out k hk)).trans (HBA.out.block k hlt))); clear hown7 hgrow7 hat7)
                  obtain ⟨q7, c7, rfl, hmc7⟩ := V14.out.hs.form
                  clear V13A T13 HNO HBA HOW HAL HLO
                  generalize R ++ [t.B] = R1 at *
                  refine (rsame_any R1 R1 q13 q7 (m + 1) c13 (m + 1) c7 w7 T14.out (V14.out.hs.texts V14.out.st.low) (by omega) (by omega)).mono ?_
                  rintro e w14 ⟨rfl, b14⟩
                  rw [decide_eq_true (show R1 = R1 from rfl)]
                  have V15 := Lib.hid (V14.out.later A b14)
                  clear b14
                  go_wp2_with fail
                  refine (A.last V15.out.st.log).mono ?_
                  rintro e w15 ⟨rfl, b15⟩
                  have V16 := Lib.hid (V15.out.later A b15)
                  clear b15 V15
                  go_wp2_with fail
                  refine (rlast_any R1 q7 (m + 1) c7 w15 (V16.out.hs.texts V16.out.st.low) (by omega) HSM.out).mono ?_
                  rintro e w16 ⟨rfl, b16⟩
                  have V17 := Lib.hid (V16.out.later A b16)
                  clear b16 V16
                  have hq := HQ9.out
                  generalize last R1 R1.length = DD at *
                  go_wp2_with fail
                  go_roundw
                  case rel => exact ⟨k + 1, P8, sw, gx, Qx, R1, (m + 1), by omega, by omega, by go_num, rfl, V17.out, HDW.out, HG1.out, HWW.out, by omega⟩
                  case measure => simp [intOf]; omega
        · have l2 : ¬ (k : Int) < 30 := by omega
          obtain ⟨q9, c9, rfl, hmc⟩ := HV.out.hs.form
          have HRM := Lib.hid (show R.length = m from HV.out.hs.len.symm)
          go_wp2_with fail
          refine (A.records HV.out.st.log).mono ?_
          rintro e w5 ⟨q5, m5, c5, rfl, t5, b5⟩
          have V5 := Lib.hid (HV.out.later A b5)
          have T5 := Lib.hid t5
          have HM5 := Lib.hid (show m5 = R.length from t5.size)
          clear b5 t5
          go_wp2_with fail
          refine (rsame_any R R q5 q9 m5 c5 m c9 w5 T5.out (V5.out.hs.texts V5.out.st.low) (by have := HM5.out; have := HRM.out; omega) (by omega)).mono ?_
          rintro e w6 ⟨rfl, b6⟩
          rw [decide_eq_true (show R = R from rfl)]
          have B6 := Lib.hid (V5.out.st.low.trans (b6.mono V5.out.st.low.size))
          clear b6
          go_wp2_with fail
          go_ret
          exact ⟨rfl, B6.out⟩
      · have l1 : ¬ (k : Int) < n := by omega
        obtain ⟨q9, c9, rfl, hmc⟩ := HV.out.hs.form
        have HRM := Lib.hid (show R.length = m from HV.out.hs.len.symm)
        go_wp2_with fail
        refine (A.records HV.out.st.log).mono ?_
        rintro e w5 ⟨q5, m5, c5, rfl, t5, b5⟩
        have V5 := Lib.hid (HV.out.later A b5)
        have T5 := Lib.hid t5
        have HM5 := Lib.hid (show m5 = R.length from t5.size)
        clear b5 t5
        go_wp2_with fail
        refine (rsame_any R R q5 q9 m5 c5 m c9 w5 T5.out (V5.out.hs.texts V5.out.st.low) (by have := HM5.out; have := HRM.out; omega) (by omega)).mono ?_
        rintro e w6 ⟨rfl, b6⟩
        rw [decide_eq_true (show R = R from rfl)]
        have B6 := Lib.hid (V5.out.st.low.trans (b6.mono V5.out.st.low.size))
        clear b6
        go_wp2_with fail
        go_ret
        exact ⟨rfl, B6.out⟩
end Go.Proofs.Ytlkeobohcfbgcaa.Wl

/- Proved: whatever small number and steps it is handed, the Go function indenturelaw08.WalDies returns true (whatever dies, however often: the records that are read are those whose append told OK, and at most the one more that was under way, as a whole; opening turns nothing), and each argument reads afterwards as it read before. Conditions: none beyond the given row's own. -/
namespace Go.Proofs.Ytlkeobohcfbgcaa
open Go.ChangeShapes Go.WideShapes Go.ChangeAt Go.RowKit Go.Deep

set_option maxRecDepth 100000 in
theorem wldies_lifted (os : Os) (started : os.Started) (H : Type) (enc : TypeId × Value → H) :
    ReturnsInHanded {} Try.checked os 5 .any (Rows.walDiesSpec.pre6 enc Try.prog Try.f5 Rows.walDiesRow.domain false) (Rows.walDiesSpec.post enc Try.prog Try.f5 false true false false) := by
  refine returnsInHanded_of_change (C := Try.checked) gen_own started (by kernel_rfl) Try.func5
    (ChangeSpec.witness6 (enc := enc) (C := Try.checked) false ⟨#[], #[.int .u8 0, .slice none 0 0], []⟩ 8 (by kernel_rfl) (by kernel_rfl) (by kernel_rfl) (by kernel_rfl)) ?_
  intro W base args ds gs before hval0 hW _ _
  have hval : ∀ (j : Nat) t v, Try.f5.params[j]? = some t → args[j]? = some v → Value.okWide Try.prog W .any base t v := hval0
  have hW' := hW
  obtain ⟨p, q, hA0, hV, rfl, _, _⟩ := hW
  have hA : DataW.TrodAll enc Try.prog W 0 (fun _ => true) true Try.f5.params.toList args.toList ds p := hA0
  rw [Try.params5] at hA hval
  obtain ⟨v0, vs0, d0, ds0, p0, q0, hargs, rfl, rfl, h0, r0⟩ := trodAll_cons hA
  obtain ⟨v1, vs1, d1, ds1, p1, q1, rfl, rfl, rfl, h1, r1⟩ := trodAll_cons r0
  obtain ⟨rfl, rfl, rfl⟩ := trodAll_nil r1
  obtain rfl : args = #[v0, v1] := by cases args; simp_all
  obtain ⟨rfl, rfl⟩ := trodVars_none hV
  obtain ⟨n0, rfl, rfl, rfl, hn0⟩ := open_int Try.underlying5 (hval 0 5 v0 rfl rfl) h0
  obtain ⟨a1, len1, cap1, rfl⟩ := okWide_slice Try.underlying25 (hval 1 25 v1 rfl rfl)
  have k0 := h0
  have k1 := h1
  have lt1 : ∀ x ∈ p1, x.block < W.heap.size := by obtain ⟨m, hm⟩ := k1; exact DataW.trod_lt m _ _ _ hm
  have bn0 := bounds_u8 hn0
  obtain ⟨m0, rfl⟩ : ∃ m : Nat, n0 = m := ⟨n0.toNat, by omega⟩
  obtain ⟨⟨L1, hL1⟩, hl1⟩ : (∃ L, Wl.Steps W a1 len1 cap1 L) ∧ len1 ≤ 9223372036854775807 := by
    obtain ⟨fuel, hf⟩ := h1
    exact Wl.open_steps hf
  clear hA0 hval0
  refine (Wl.dies_any Wl.wapi m0 a1 len1 cap1 L1 W (by omega) hL1 hl1).mono fun e W' ⟨he, bel⟩ => ?_
  subst he
  exact ⟨_, rfl, _, _, _, [], _, [], hW', trodAll_mk1 (shut_bool Try.underlying4 _),
    (trodAll_cons_mk (Below.trod gen_laidOut (by kernel_rfl) (of_decide_eq_true (by kernel_rfl)) k0 bel (fun x hx => by cases hx)) (trodAll_cons_mk (Below.trod gen_laidOut (by kernel_rfl) (of_decide_eq_true (by kernel_rfl)) k1 bel lt1) trodAll_mk0)), rfl, bel.frame _, fun h => by cases h⟩
theorem wldies_holds : Rows.WalDiesSaid :=
  OpenClaim.holds_of_wide 5 Try.f5 rfl rfl rfl rfl rfl rfl rfl ⟨rfl, rfl, rfl, rfl, rfl⟩ rfl rfl rfl rfl rfl (by kernel_rfl) Try.func5 (by kernel_rfl)
    (of_decide_eq_true (by kernel_rfl)) (by unfold Func.isWrapper; first | (rw [if_pos (by decide +kernel)]; kernel_rfl) | (rw [if_neg (by decide +kernel)]; exact ⟨rfl, rfl⟩))
    (fun os started H enc _ => wldies_lifted os started H enc)
end Go.Proofs.Ytlkeobohcfbgcaa
