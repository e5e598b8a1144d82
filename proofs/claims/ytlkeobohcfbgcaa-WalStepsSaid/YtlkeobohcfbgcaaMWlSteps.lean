/- Proved: whatever small number, steps and bytes it is handed, the Go function indenturelaw08.WalSteps returns true (an append needs no more writes than its record has sectors, and one; with a fuse of as many it doesn't die, if there is room), and each argument reads afterwards as it read before. Conditions: none beyond the given row's own. -/
import Derived.Test.YtlkeobohcfbgcaaM8
/- The law WalSteps, over whatever log keeps the contracts. -/
namespace Go.Proofs.Ytlkeobohcfbgcaa.Wl
open Go.RowKit

variable {LD : World → Nat → (Nat → Prop) → Nat → Nat → G → Prop}
/-- A living disk without a fuse and a log on it, of so many records. -/
structure Calm (LD : World → Nat → (Nat → Prop) → Nat → Nat → G → Prop) (w0 w : World) (gd : Nat) (P : Nat → Prop) (s : Dk.D) (gl : Nat) (Q : Nat → Prop) (R : List (List Nat)) (k : Nat) : Prop where
  st : St LD w0 w gd P s gl Q ⟨R, false⟩
  dead : s.dead = false
  left : s.left = -1
  good : Good s.L R
  writes : s.writes ≤ 1600 * k
  many : R.length ≤ k
theorem Calm.later (A : Api LD) {w0 w w' : World} {gd : Nat} {P : Nat → Prop} {s : Dk.D} {gl : Nat} {Q : Nat → Prop} {R : List (List Nat)} {k : Nat} (h : Calm LD w0 w gd P s gl Q R k) (hb : Below w.heap.size w w') : Calm LD w0 w' gd P s gl Q R k :=
  ⟨h.st.later A hb, h.dead, h.left, h.good, h.writes, h.many⟩
/-- An append on a calm disk: refused for want of room, or one more record. -/
theorem Calm.app {w0 w : World} {gd : Nat} {P : Nat → Prop} {s : Dk.D} {gl : Nat} {Q : Nat → Prop} {R : List (List Nat)} {k : Nat} (h : Calm LD w0 w gd P s gl Q R k) {b : List Nat} (hob : Sm.allB b) (hb : b.length ≤ 100000) :
    (s.n < G.used ⟨R, false⟩ + need b.length ∧ G.app ⟨R, false⟩ s b = ((s, ⟨R, false⟩), 12)) ∨ (G.used ⟨R, false⟩ + need b.length ≤ s.n ∧ ∃ s', G.app ⟨R, false⟩ s b = ((s', ⟨R ++ [b], false⟩), 0) ∧ Whole s s' R b) := by
  by_cases hf : s.n < G.used ⟨R, false⟩ + need b.length
  · exact Or.inl ⟨hf, app_full rfl hf⟩
  · exact Or.inr ⟨by omega, app_whole (Dk.PD.okay h.st.disk) h.dead h.good hob hb (by omega) (Or.inl (by rw [h.left]; decide))⟩
/-- Behind it the disk is calm. -/
theorem Calm.next {w0 w w' : World} {gd : Nat} {P P' : Nat → Prop} {s : Dk.D} {gl : Nat} {Q Q' : Nat → Prop} {R : List (List Nat)} {k : Nat} (h : Calm LD w0 w gd P s gl Q R k) {b : List Nat} (hob : Sm.allB b) (hb : b.length ≤ 100000)
    (hd : Dk.PD w' gd P' (G.app ⟨R, false⟩ s b).1.1) (hl : LD w' gl Q' gd s.n (G.app ⟨R, false⟩ s b).1.2) (hp : ∀ k, P' k → P k ∨ w.heap.size ≤ k) (hq : ∀ k, Q' k → Q k ∨ w.heap.size ≤ k) (ha : ∀ k, P' k → ¬ Q' k) (ho : Dk.Only (fun k => P k ∨ Q k) w w') : ∃ s' R', s'.n = s.n ∧ Calm LD w0 w' gd P' s' gl Q' R' (k + 1) := by
  have hs := h.st.app hd hl hp hq ha ho
  have hw := h.writes
  have hm := h.many
  have hnb : need b.length ≤ 1565 := by unfold need; omega
  rcases h.app hob hb with ⟨_, e⟩ | ⟨_, s', e, hW⟩
  · rw [e] at hs
    exact ⟨s, R, rfl, hs, h.dead, h.left, h.good, by omega, by omega⟩
  · rw [e] at hs
    have := hW.writes
    exact ⟨s', R ++ [b], hW.n, hs, hW.dead, (hW.left (by rw [h.left]; decide)).trans h.left, hW.good, by omega, by rw [List.length_append, List.length_singleton]; omega⟩
def StpR (LD : World → Nat → (Nat → Prop) → Nat → Nat → G → Prop) (w : World) (gd gl n N : Nat) (i : Value) (wr : World) : Prop :=
  ∃ (k : Nat) (P : Nat → Prop) (s : Dk.D) (Q : Nat → Prop) (R : List (List Nat)), k ≤ n ∧ k ≤ 20 ∧ i = .int .i64 k ∧ s.n = N ∧ Calm LD w wr gd P s gl Q R k
set_option maxRecDepth 100000 in
set_option maxHeartbeats 8000000 in
theorem steps_any (A : Api LD) (a : Nat) (p q : Option Addr) (n c m d : Nat) (L : List Step) (b : List Nat) (w : World) (ha : a < 256) (hL : Steps w p n c L) (hB : Tx w q m d b) (hn : n ≤ 9223372036854775807) (hm : m ≤ 9223372036854775807) :
    Calls Try.prog 7 #[.int .u8 a, .slice p n c, .slice q m d] w fun e w' => e = .returned (.bool true) ∧ Below w.heap.size w w' := by
  have HL := Lib.hid hL
  have HB := Lib.hid hB
  have hnc := hL.le
  have hmd := hB.le
  have t80 : (a : Int).tmod 80 = ((a % 80 : Nat) : Int) := by rw [Int.tmod_eq_emod_of_nonneg (by omega)]; omega
  have h80 : a % 80 < 80 := by omega
  clear hL hB
  go_enter Try.func7, Try.ntmps7
  go_wp2_with fail
  refine (walive_any A w).mono ?_
  rintro e w1 ⟨rfl, b1⟩
  have B1 := Lib.hid b1
  clear b1
  go_wp2_with fail
  refine (great_any p n c L w1 ⟨HL.out.size, HL.out.le, fun h => by
    obtain ⟨g, o, hp, hx⟩ := HL.out.at' h
    exact ⟨g, o, hp, fun i hi => ⟨fun j v hv => (B1.out.cell (block_lt_of_cell ((hx i hi).1 j v hv))).trans ((hx i hi).1 j v hv), ⟨(hx i hi).2.b.later B1.out, (hx i hi).2.bl, (hx i hi).2.k, (hx i hi).2.torn⟩⟩⟩⟩ hn).mono ?_
  rintro e w2 ⟨rfl, r, rfl, hr⟩
  cases r with
  | true =>
    clear hr
    go_wp2_with fail
    go_ret
    exact ⟨rfl, B1.out⟩
  | false =>
    have HGR := Lib.hid (hr rfl)
    clear hr
    by_cases hm1 : (m : Int) > 1000
    · go_wp2_with fail
      go_ret
      exact ⟨rfl, B1.out⟩
    · have hm8 : m ≤ 1000 := by omega
      have q80 : IntKind.i64.wrap (((a % 80 : Nat) : Int) + 1) = ((a % 80 + 1 : Nat) : Int) := by rw [IntWalk.i64_in _ (by omega)]; omega
      generalize a % 80 = x at *
      go_wp2_with fail
      refine (Dk.new_any ((x : Int) + 1) w2 (by omega) (by omega)).mono ?_
      rintro e w3 ⟨gd, P, rfl, d3, p3, b3⟩
      rw [show ((x : Int) + 1).toNat = x + 1 from by omega] at d3
      have D3 := Lib.hid d3
      have P3 := Lib.hid p3
      have B3 := Lib.hid b3
      clear d3 p3 b3
      go_wp2_with fail
      refine (A.openYes [] D3.out rfl (zeros_good (x + 1)).reads).mono ?_
      rintro e w4 ⟨gl, Q, rfl, l4, q4, b4⟩
      have C4 := Lib.hid (show Calm LD w w4 gd P (Dk.D.new (x + 1)) gl Q [] 0 from ⟨⟨Dk.PD.keep (fun _ => False) D3.out (Dk.Only.of_below _ b4) (fun _ _ e => e), l4, fun k hp hq => by have := Dk.PD.lt D3.out k hp; have := q4 k hq; omega, fun k hk => hk.elim (fun e => Nat.le_trans B1.out.size (P3.out k e)) (fun e => Nat.le_trans B1.out.size (Nat.le_trans B3.out.size (q4 k e))), B1.out.trans ((B3.out.trans (b4.mono B3.out.size)).mono B1.out.size)⟩, rfl, rfl, zeros_good (x + 1), Nat.zero_le _, Nat.le_refl _⟩)
      clear l4 q4 b4 D3 P3 B3
      go_wp2_with fail
      go_loopw [11] (fun i wr => StpR LD w gd gl n (x + 1) i wr) (fun i _ => 20 - (intOf i).toNat)
      case atStart => exact ⟨0, P, _, Q, [], Nat.zero_le _, Nat.zero_le _, rfl, rfl, C4.out⟩
      case round =>
        obtain ⟨k, P, s, Q, R, hk, hk20, rfl, hsn, hC⟩ := hrel
        have HC := Lib.hid hC
        clear hC C4
        have HAPB := Lib.hid (aside HB.out HC.out.st.own)
        have hmb : b.length = m := HB.out.size.symm
        have HNI := Lib.hid (show needI m = need m from needI_nat (by omega))
        have hnb : need m ≤ 1565 := by unfold need; omega
        by_cases hlt : k < n
        · have l1 : (k : Int) < n := by omega
          by_cases hlt2 : k < 20
          · have l2 : (k : Int) < 20 := by omega
            obtain ⟨go, oo, rfl⟩ := HL.out.base (by omega)
            obtain ⟨tok, tr⟩ := HL.out.four hlt
            have hbn := HGR.out k hlt (by omega)
            have c0 := (HC.out.st.low.cell (block_lt_of_cell (tr 0 _ rfl))).trans (tr 0 _ rfl)
            rw [Nat.add_zero] at c0
            have i1 : (0 : Int) ≤ k ∧ (k : Int) < n := by omega
            have TB := Lib.hid tok.b
            have HAP := Lib.hid (aside tok.b HC.out.st.own)
            clear tr tok
            generalize L.getD k default = t at *
            go_wp2_with fail
            refine (A.append t.B t.bp t.bn t.bc HC.out.st.disk HC.out.st.log HC.out.st.apart (TB.out.later HC.out.st.low) HAP.out (by omega) (by have := HC.out.writes; omega) (by have := HC.out.many; simp only; omega)).mono ?_
            rintro e w5 ⟨rfl, P5, Q5, d5, l5, p5, q5, a5, o5⟩
            obtain ⟨s5, R5, hn5, hC5⟩ := HC.out.next TB.out.ok (by have := TB.out.size; omega) d5 l5 p5 q5 a5 o5
            have C5 := Lib.hid hC5
            clear hC5 d5 l5 p5 q5 a5 o5
            go_wp2_with fail
            go_roundw
            case rel => exact ⟨k + 1, P5, s5, Q5, R5, by omega, by omega, by go_num, hn5.trans hsn, C5.out⟩
            case measure => simp [intOf]; omega
          · have l2 : ¬ (k : Int) < 20 := by omega
            have hk8 : k ≤ 20 := hk20
            clear hlt HGR
            generalize hnd : need m = nd at *
            have HND := Lib.hid hnd
            clear hnd
            have z1 : IntKind.i64.wrap ((nd : Int) + 1) = (nd : Int) + 1 := IntWalk.i64_in _ (by omega)
            go_wp2_with fail
            refine (Dk.writes_any HC.out.st.disk).mono ?_
            rintro e w5 ⟨rfl, b5⟩
            have C5 := Lib.hid (HC.out.later A b5)
            clear b5
            go_wp2_with fail
            refine (A.need m w5 (by omega) (by omega)).mono ?_
            rintro e w6 ⟨rfl, b6⟩
            rw [HNI.out]
            have C6 := Lib.hid (C5.out.later A b6)
            clear b6 C5
            go_wp2_with fail
            refine (A.free C6.out.st.disk C6.out.st.log).mono ?_
            rintro e w7 ⟨rfl, b7⟩
            have C7 := Lib.hid (C6.out.later A b7)
            clear b7 C6
            have HUS := Lib.hid (show G.used ⟨R, false⟩ ≤ s.n from by have h1 := A.fit C7.out.st.log; rw [used_size] at h1; omega)
            obtain ⟨fr, hfr⟩ : ∃ fr, fr = s.n - G.used ⟨R, false⟩ := ⟨_, rfl⟩
            rw [← hfr]
            have HFR := Lib.hid hfr
            clear hfr
            go_wp2_with fail
            refine (A.need m w7 (by omega) (by omega)).mono ?_
            rintro e w8 ⟨rfl, b8⟩
            rw [HNI.out]
            have C8 := Lib.hid (C7.out.later A b8)
            clear b8 C7
            go_wp2_with fail
            refine (Dk.fuse_any ((nd : Int) + 1) 0 C8.out.st.disk (by omega)).mono ?_
            rintro e w9 ⟨rfl, ⟨P9, d9, p9⟩, o9⟩
            have S9 := Lib.hid (C8.out.st.disk' A (show (s.fuse ((nd : Int) + 1) 0).n = s.n from rfl) d9 p9 o9)
            have HF := Lib.hid (show (s.fuse ((nd : Int) + 1) 0).left = (nd : Int) + 1 ∧ (s.fuse ((nd : Int) + 1) 0).writes = s.writes ∧ (s.fuse ((nd : Int) + 1) 0).n = s.n ∧ (s.fuse ((nd : Int) + 1) 0).L = s.L ∧ (s.fuse ((nd : Int) + 1) 0).dead = false from ⟨by simp only [Dk.D.fuse]; rw [if_neg (by omega)], rfl, rfl, rfl, C8.out.dead⟩)
            have HW := Lib.hid C8.out.writes
            have HMY := Lib.hid C8.out.many
            have HG := Lib.hid C8.out.good
            clear d9 p9 o9
            generalize s.fuse ((nd : Int) + 1) 0 = sf at *
            have HAP9 := Lib.hid (aside HB.out S9.out.own)
            go_wp2_with fail
            refine (A.append b q m d S9.out.disk S9.out.log S9.out.apart (HB.out.later S9.out.low) HAP9.out (by omega) (by rw [HF.out.2.1]; have := HW.out; omega) (by have := HMY.out; simp only; omega)).mono ?_
            rintro e w10 ⟨rfl, P10, Q10, d10, l10, p10, q10, a10, o10⟩
            have S10 := Lib.hid (S9.out.app d10 l10 p10 q10 a10 o10)
            clear d10 l10 p10 q10 a10 o10
            by_cases hroom : nd ≤ fr
            · have hrm : (nd : Int) ≤ fr := by omega
              obtain ⟨s', he, hWh⟩ := app_whole (R := R) (s := sf) (b := b) (Dk.PD.okay S9.out.disk) HF.out.2.2.2.2 (by rw [HF.out.2.2.2.1]; exact HG.out) HB.out.ok (by omega) (by rw [HF.out.2.2.1, hmb, HND.out]; have := HFR.out; have := HUS.out; omega) (Or.inr (by rw [HF.out.1, hmb, HND.out]; exact Int.le_refl _))
              have hwr := hWh.writes
              rw [HF.out.2.1, hmb, HND.out] at hwr
              rw [he] at S10 ⊢
              clear hWh he S9
              go_wp2_with fail
              refine (A.openNil w10).mono ?_
              rintro e w11 ⟨rfl, b11⟩
              have S11 := Lib.hid (S10.out.later A b11)
              clear b11 S10
              go_wp2_with fail
              refine (Dk.writes_any S11.out.disk).mono ?_
              rintro e w12 ⟨rfl, b12⟩
              have S12 := Lib.hid (S11.out.later A b12)
              clear b12 S11
              have hw8 : s.writes ≤ 40000 := by have := HW.out; omega
              have z2 : IntKind.i64.wrap ((s'.writes : Int) - (s.writes : Int)) = (s'.writes : Int) - (s.writes : Int) := IntWalk.i64_in _ (by omega)
              have z3 : (s'.writes : Int) - (s.writes : Int) ≤ (nd : Int) + 1 := by omega
              clear hwr hw8
              go_wp2_with fail
              refine (A.need m w12 (by omega) (by omega)).mono ?_
              rintro e w13 ⟨rfl, b13⟩
              rw [HNI.out]
              have B13 := Lib.hid (S12.out.low.trans (b13.mono S12.out.low.size))
              clear b13 S12
              go_wp2_with fail
              go_ret
              exact ⟨rfl, B13.out⟩
            · have hrm : ¬ (nd : Int) ≤ fr := by omega
              have he := app_full (g := ⟨R, false⟩) (s := sf) (b := b) rfl (by rw [HF.out.2.2.1, hmb, HND.out]; have := HFR.out; omega)
              rw [he] at S10 ⊢
              clear he S9
              go_wp2_with fail
              refine (Dk.writes_any S10.out.disk).mono ?_
              rintro e w11 ⟨rfl, b11⟩
              have B11 := Lib.hid (S10.out.low.trans (b11.mono S10.out.low.size))
              rw [HF.out.2.1]
              clear b11 S10
              go_wp2_with fail
              go_ret
              exact ⟨rfl, B11.out⟩
        · have l1 : ¬ (k : Int) < n := by omega
          have hk8 : k ≤ 20 := hk20
          clear hlt HGR
          generalize hnd : need m = nd at *
          have HND := Lib.hid hnd
          clear hnd
          have z1 : IntKind.i64.wrap ((nd : Int) + 1) = (nd : Int) + 1 := IntWalk.i64_in _ (by omega)
          go_wp2_with fail
          refine (Dk.writes_any HC.out.st.disk).mono ?_
          rintro e w5 ⟨rfl, b5⟩
          have C5 := Lib.hid (HC.out.later A b5)
          clear b5
          go_wp2_with fail
          refine (A.need m w5 (by omega) (by omega)).mono ?_
          rintro e w6 ⟨rfl, b6⟩
          rw [HNI.out]
          have C6 := Lib.hid (C5.out.later A b6)
          clear b6 C5
          go_wp2_with fail
          refine (A.free C6.out.st.disk C6.out.st.log).mono ?_
          rintro e w7 ⟨rfl, b7⟩
          have C7 := Lib.hid (C6.out.later A b7)
          clear b7 C6
          have HUS := Lib.hid (show G.used ⟨R, false⟩ ≤ s.n from by have h1 := A.fit C7.out.st.log; rw [used_size] at h1; omega)
          obtain ⟨fr, hfr⟩ : ∃ fr, fr = s.n - G.used ⟨R, false⟩ := ⟨_, rfl⟩
          rw [← hfr]
          have HFR := Lib.hid hfr
          clear hfr
          go_wp2_with fail
          refine (A.need m w7 (by omega) (by omega)).mono ?_
          rintro e w8 ⟨rfl, b8⟩
          rw [HNI.out]
          have C8 := Lib.hid (C7.out.later A b8)
          clear b8 C7
          go_wp2_with fail
          refine (Dk.fuse_any ((nd : Int) + 1) 0 C8.out.st.disk (by omega)).mono ?_
          rintro e w9 ⟨rfl, ⟨P9, d9, p9⟩, o9⟩
          have S9 := Lib.hid (C8.out.st.disk' A (show (s.fuse ((nd : Int) + 1) 0).n = s.n from rfl) d9 p9 o9)
          have HF := Lib.hid (show (s.fuse ((nd : Int) + 1) 0).left = (nd : Int) + 1 ∧ (s.fuse ((nd : Int) + 1) 0).writes = s.writes ∧ (s.fuse ((nd : Int) + 1) 0).n = s.n ∧ (s.fuse ((nd : Int) + 1) 0).L = s.L ∧ (s.fuse ((nd : Int) + 1) 0).dead = false from ⟨by simp only [Dk.D.fuse]; rw [if_neg (by omega)], rfl, rfl, rfl, C8.out.dead⟩)
          have HW := Lib.hid C8.out.writes
          have HMY := Lib.hid C8.out.many
          have HG := Lib.hid C8.out.good
          clear d9 p9 o9
          generalize s.fuse ((nd : Int) + 1) 0 = sf at *
          have HAP9 := Lib.hid (aside HB.out S9.out.own)
          go_wp2_with fail
          refine (A.append b q m d S9.out.disk S9.out.log S9.out.apart (HB.out.later S9.out.low) HAP9.out (by omega) (by rw [HF.out.2.1]; have := HW.out; omega) (by have := HMY.out; simp only; omega)).mono ?_
          rintro e w10 ⟨rfl, P10, Q10, d10, l10, p10, q10, a10, o10⟩
          have S10 := Lib.hid (S9.out.app d10 l10 p10 q10 a10 o10)
          clear d10 l10 p10 q10 a10 o10
          by_cases hroom : nd ≤ fr
          · have hrm : (nd : Int) ≤ fr := by omega
            obtain ⟨s', he, hWh⟩ := app_whole (R := R) (s := sf) (b := b) (Dk.PD.okay S9.out.disk) HF.out.2.2.2.2 (by rw [HF.out.2.2.2.1]; exact HG.out) HB.out.ok (by omega) (by rw [HF.out.2.2.1, hmb, HND.out]; have := HFR.out; have := HUS.out; omega) (Or.inr (by rw [HF.out.1, hmb, HND.out]; exact Int.le_refl _))
            have hwr := hWh.writes
            rw [HF.out.2.1, hmb, HND.out] at hwr
            rw [he] at S10 ⊢
            clear hWh he S9
            go_wp2_with fail
            refine (A.openNil w10).mono ?_
            rintro e w11 ⟨rfl, b11⟩
            have S11 := Lib.hid (S10.out.later A b11)
            clear b11 S10
            go_wp2_with fail
            refine (Dk.writes_any S11.out.disk).mono ?_
            rintro e w12 ⟨rfl, b12⟩
            have S12 := Lib.hid (S11.out.later A b12)
            clear b12 S11
            have hw8 : s.writes ≤ 40000 := by have := HW.out; omega
            have z2 : IntKind.i64.wrap ((s'.writes : Int) - (s.writes : Int)) = (s'.writes : Int) - (s.writes : Int) := IntWalk.i64_in _ (by omega)
            have z3 : (s'.writes : Int) - (s.writes : Int) ≤ (nd : Int) + 1 := by omega
            clear hwr hw8
            go_wp2_with fail
            refine (A.need m w12 (by omega) (by omega)).mono ?_
            rintro e w13 ⟨rfl, b13⟩
            rw [HNI.out]
            have B13 := Lib.hid (S12.out.low.trans (b13.mono S12.out.low.size))
            clear b13 S12
            go_wp2_with fail
            go_ret
            exact ⟨rfl, B13.out⟩
          · have hrm : ¬ (nd : Int) ≤ fr := by omega
            have he := app_full (g := ⟨R, false⟩) (s := sf) (b := b) rfl (by rw [HF.out.2.2.1, hmb, HND.out]; have := HFR.out; omega)
            rw [he] at S10 ⊢
            clear he S9
            go_wp2_with fail
            refine (Dk.writes_any S10.out.disk).mono ?_
            rintro e w11 ⟨rfl, b11⟩
            have B11 := Lib.hid (S10.out.low.trans (b11.mono S10.out.low.size))
            rw [HF.out.2.1]
            clear b11 S10
            go_wp2_with fail
            go_ret
            exact ⟨rfl, B11.out⟩
end Go.Proofs.Ytlkeobohcfbgcaa.Wl

/- Proved: whatever small number, steps and bytes it is handed, the Go function indenturelaw08.WalSteps returns true (an append needs no more writes than its record has sectors, and one; with a fuse of as many it doesn't die, if there is room), and each argument reads afterwards as it read before. Conditions: none beyond the given row's own. -/
namespace Go.Proofs.Ytlkeobohcfbgcaa
open Go.ChangeShapes Go.WideShapes Go.ChangeAt Go.RowKit Go.Deep

set_option maxRecDepth 100000 in
theorem wlsteps_lifted (os : Os) (started : os.Started) (H : Type) (enc : TypeId × Value → H) :
    ReturnsInHanded {} Try.checked os 7 .any (Rows.walStepsSpec.pre6 enc Try.prog Try.f7 Rows.walStepsRow.domain false) (Rows.walStepsSpec.post enc Try.prog Try.f7 false true false false) := by
  refine returnsInHanded_of_change (C := Try.checked) gen_own started (by kernel_rfl) Try.func7
    (ChangeSpec.witness6 (enc := enc) (C := Try.checked) false ⟨#[], #[.int .u8 0, .slice none 0 0, .slice none 0 0], []⟩ 8 (by kernel_rfl) (by kernel_rfl) (by kernel_rfl) (by kernel_rfl)) ?_
  intro W base args ds gs before hval0 hW _ _
  have hval : ∀ (j : Nat) t v, Try.f7.params[j]? = some t → args[j]? = some v → Value.okWide Try.prog W .any base t v := hval0
  have hW' := hW
  obtain ⟨p, q, hA0, hV, rfl, _, _⟩ := hW
  have hA : DataW.TrodAll enc Try.prog W 0 (fun _ => true) true Try.f7.params.toList args.toList ds p := hA0
  rw [Try.params7] at hA hval
  obtain ⟨v0, vs0, d0, ds0, p0, q0, hargs, rfl, rfl, h0, r0⟩ := trodAll_cons hA
  obtain ⟨v1, vs1, d1, ds1, p1, q1, rfl, rfl, rfl, h1, r1⟩ := trodAll_cons r0
  obtain ⟨v2, vs2, d2, ds2, p2, q2, rfl, rfl, rfl, h2, r2⟩ := trodAll_cons r1
  obtain ⟨rfl, rfl, rfl⟩ := trodAll_nil r2
  obtain rfl : args = #[v0, v1, v2] := by cases args; simp_all
  obtain ⟨rfl, rfl⟩ := trodVars_none hV
  obtain ⟨n0, rfl, rfl, rfl, hn0⟩ := open_int Try.underlying5 (hval 0 5 v0 rfl rfl) h0
  obtain ⟨a1, len1, cap1, rfl⟩ := okWide_slice Try.underlying25 (hval 1 25 v1 rfl rfl)
  obtain ⟨a2, len2, cap2, rfl⟩ := okWide_slice Try.underlying36 (hval 2 36 v2 rfl rfl)
  have k0 := h0
  have k1 := h1
  have k2 := h2
  have lt1 : ∀ x ∈ p1, x.block < W.heap.size := by obtain ⟨m, hm⟩ := k1; exact DataW.trod_lt m _ _ _ hm
  have lt2 : ∀ x ∈ p2, x.block < W.heap.size := by obtain ⟨m, hm⟩ := k2; exact DataW.trod_lt m _ _ _ hm
  have bn0 := bounds_u8 hn0
  obtain ⟨m0, rfl⟩ : ∃ m : Nat, n0 = m := ⟨n0.toNat, by omega⟩
  obtain ⟨⟨L1, hL1⟩, hl1⟩ : (∃ L, Wl.Steps W a1 len1 cap1 L) ∧ len1 ≤ 9223372036854775807 := by
    obtain ⟨fuel, hf⟩ := h1
    exact Wl.open_steps hf
  obtain ⟨⟨B2, hB2⟩, hl2⟩ : (∃ B, Tx W a2 len2 cap2 B) ∧ len2 ≤ 9223372036854775807 := by
    obtain ⟨fuel, hf⟩ := h2
    exact open_bytes hf
  clear hA0 hval0
  refine (Wl.steps_any Wl.wapi m0 a1 a2 len1 cap1 len2 cap2 L1 B2 W (by omega) hL1 hB2 hl1 hl2).mono fun e W' ⟨he, bel⟩ => ?_
  subst he
  exact ⟨_, rfl, _, _, _, [], _, [], hW', trodAll_mk1 (shut_bool Try.underlying4 _),
    (trodAll_cons_mk (Below.trod gen_laidOut (by kernel_rfl) (of_decide_eq_true (by kernel_rfl)) k0 bel (fun x hx => by cases hx)) (trodAll_cons_mk (Below.trod gen_laidOut (by kernel_rfl) (of_decide_eq_true (by kernel_rfl)) k1 bel lt1) (trodAll_cons_mk (Below.trod gen_laidOut (by kernel_rfl) (of_decide_eq_true (by kernel_rfl)) k2 bel lt2) trodAll_mk0))), rfl, bel.frame _, fun h => by cases h⟩
theorem wlsteps_holds : Rows.WalStepsSaid :=
  OpenClaim.holds_of_wide 7 Try.f7 rfl rfl rfl rfl rfl rfl rfl ⟨rfl, rfl, rfl, rfl, rfl⟩ rfl rfl rfl rfl rfl (by kernel_rfl) Try.func7 (by kernel_rfl)
    (of_decide_eq_true (by kernel_rfl)) (by unfold Func.isWrapper; first | (rw [if_pos (by decide +kernel)]; kernel_rfl) | (rw [if_neg (by decide +kernel)]; exact ⟨rfl, rfl⟩))
    (fun os started H enc _ => wlsteps_lifted os started H enc)
end Go.Proofs.Ytlkeobohcfbgcaa
