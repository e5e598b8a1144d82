/- Proved: whatever small number and steps it is handed, the Go function indenturelaw08.WalWrites returns true (without a death the bytes of the log on the disk are the document's, record by record, and each answer; what doesn't fit is refused, and nothing is written), and each argument reads afterwards as it read before. Conditions: none beyond the given row's own. -/
import Derived.Test.YtlkeobohcfbgcaaM8
import Derived.StillTailTactics
import Derived.Lib.Builder
/- The law WalWrites, over whatever log keeps the contracts. -/
namespace Go.Proofs.Ytlkeobohcfbgcaa.Wl
open Go.RowKit

variable {LD : World → Nat → (Nat → Prop) → Nat → Nat → G → Prop}
theorem wpAnyH_mono' {P : Program} {md : Region.Mode} {ops : Array Oper} {Q : Exit → Act → World → Prop} {S S' : World → Prop} (h : ∀ w, S' w → S w) : ∀ (fuel : Nat) (listed : Array Bool) (a : Act) (w : World), wpAnyH P md ops Q S' fuel listed a w → wpAnyH P md ops Q S fuel listed a w
  | 0, _, _, _, k => k
  | fuel + 1, _, _, _, k => ⟨k.1, fun i hi => wpOp_mono (fun a' w' h' => ⟨h _ h'.1, wpAnyH_mono' h fuel _ a' w' h'.2⟩) (k.2 i hi)⟩
theorem neq_self' (D : List Nat) (hD : D.length = 32) (w : World) : (binOp .neq 44 (.agg (u8s D)) (.agg (u8s D))).run Try.prog w = .ok (.bool false) w := by
  rw [digest_neq D D hD hD w, decide_eq_true (rfl : D = D)]
  rfl
theorem ptr_self (x : Addr) (w : World) : (binOp .neq 27 (.pointer (some x)) (.pointer (some x))).run Try.prog w = .ok (.bool false) w := by
  obtain ⟨j, hj⟩ := Option.isSome_iff_exists.1 (show (Try.prog.info? 60).isSome = true from by kernel_rfl)
  exact Lib.run_neq_ptr_same w x (by kernel_rfl : Try.prog.underlying 27 = some (.pointer 60)) hj
/-- A calm disk, its log, and the list of what it should hold. -/
structure Wr (LD : World → Nat → (Nat → Prop) → Nat → Nat → G → Prop) (w wr : World) (gd : Nat) (P : Nat → Prop) (s : Dk.D) (gl : Nat) (Q : Nat → Prop) (v : Value) (m : Nat) (R : List (List Nat)) (k : Nat) : Prop where
  dv : Dv LD w wr gd P s gl Q ⟨R, false⟩ v m R
  dead : s.dead = false
  left : s.left = -1
  good : Good s.L R
  writes : s.writes ≤ 1600 * k
  many : m ≤ k
  next : size R R.length < 64 * s.n → s.L.getD (size R R.length + 63) 0 = 0
theorem Dv.keepX (A : Api LD) {w wr w' : World} {gd : Nat} {P : Nat → Prop} {s : Dk.D} {gl : Nat} {Q : Nat → Prop} {g : G} {v : Value} {m : Nat} {R : List (List Nat)} (X : Nat → Prop) (h : Dv LD w wr gd P s gl Q g v m R) (ho : Dk.Only X wr w') (hx : ∀ k, X k → w.heap.size ≤ k ∧ ¬ P k ∧ ¬ Q k ∧ v.ownBlock ≠ some k) : Dv LD w w' gd P s gl Q g v m R :=
  ⟨⟨Dk.PD.keep X h.st.disk ho (fun k hk e => (hx k e).2.1 hk), A.keep X h.st.log ho (fun k hk e => (hx k e).2.2.1 hk), h.st.apart, h.st.own, h.st.low.trans (ho.below h.st.low.size (fun k e => (hx k e).1))⟩, h.hs.keep (fun k hk => ho.block k (h.hs.lt k hk).2 (fun e => (hx k e).2.2.2 hk)), h.off⟩
def IncR (LD : World → Nat → (Nat → Prop) → Nat → Nat → G → Prop) (w : World) (gd : Nat) (P : Nat → Prop) (s : Dk.D) (gl : Nat) (Q : Nat → Prop) (g : G) (v : Value) (m : Nat) (R : List (List Nat)) (base : Nat) (qb : Option Addr) (bn cb : Nat) (i : Value) (wx : World) : Prop :=
  ∃ (j : Nat) (B : List Nat), j ≤ bn ∧ i = .int .i64 j ∧ Dv LD w wx gd P s gl Q g v m R ∧ wx.ownsRow base 5 1 (.slice qb bn cb) bn (vals B) ∧ Sm.allB B ∧ B.length = bn
def WrtR (LD : World → Nat → (Nat → Prop) → Nat → Nat → G → Prop) (w : World) (gd gl n N : Nat) (v i : Value) (wr : World) : Prop :=
  ∃ (k : Nat) (P : Nat → Prop) (s : Dk.D) (Q : Nat → Prop) (R : List (List Nat)) (m : Nat), k ≤ n ∧ k ≤ 30 ∧ i = .int .i64 k ∧ s.n = N ∧ Wr LD w wr gd P s gl Q v m R k
set_option maxRecDepth 100000 in
set_option maxHeartbeats 2500000 in
theorem writes_any (A : Api LD) (a : Nat) (p : Option Addr) (n c : Nat) (L : List Step) (w : World) (ha : a < 256) (hL : Steps w p n c L) (hn : n ≤ 9223372036854775807) :
    Calls Try.prog 4 #[.int .u8 a, .slice p n c] w fun e w' => e = .returned (.bool true) ∧ Below w.heap.size w w' := by
  have HL := Lib.hid hL
  have hnc := hL.le
  have t60 : (a : Int).tmod 60 = ((a % 60 : Nat) : Int) := by rw [Int.tmod_eq_emod_of_nonneg (by omega)]; omega
  have h60 : a % 60 < 60 := by omega
  obtain ⟨i5, hi, hi0, hi1, hi2⟩ := info_parts I5
  have HI := Lib.hid hi
  have HI0 := Lib.hid hi0
  have HI1 := Lib.hid hi1
  have HI2 := Lib.hid hi2
  clear hL hi hi0 hi1 hi2
  go_enter Try.func4, Try.ntmps4
  go_wp2_with fail
  refine (walive_any A w).mono ?_
  rintro e w1 ⟨rfl, b1⟩
  have B1 := Lib.hid b1
  clear b1
  go_wp2_with fail
  refine (great_any p n c L w1 ⟨HL.out.size, HL.out.le, fun h => by
    obtain ⟨g, o, hp, hx⟩ := HL.out.at' h
    exact ⟨g, o, hp, fun i hi => ⟨fun j v hv => (B1.out.cell (block_lt_of_cell ((hx i hi).1 j v hv))).trans ((hx i hi).1 j v hv), ⟨(hx i hi).2.b.later B1.out, (hx i hi).2.bl, (hx i hi).2.k, (hx i hi).2.torn⟩⟩⟩⟩ hn).mono ?_
  rintro e w2 ⟨rfl, r, rfl, hr⟩
  cases r with
  | true =>
    clear hr
    go_wp2_with fail
    go_ret
    exact ⟨rfl, B1.out⟩
  | false =>
    have HGR := Lib.hid (hr rfl)
    clear hr
    generalize a % 60 = x at *
    go_wp2_with fail
    refine (Dk.new_any x w2 (by omega) (by omega)).mono ?_
    rintro e w3 ⟨gd, P, rfl, d3, p3, b3⟩
    rw [show (x : Int).toNat = x from rfl] at d3
    have D3 := Lib.hid d3
    have P3 := Lib.hid p3
    have B3 := Lib.hid b3
    clear d3 p3 b3
    go_wp2_with fail
    refine (A.openYes [] D3.out rfl (zeros_good x).reads).mono ?_
    rintro e w4 ⟨gl, Q, rfl, l4, q4, b4⟩
    have V4 := Lib.hid (show Dv LD w w4 gd P (Dk.D.new x) gl Q ⟨[], false⟩ (.slice none 0 0) 0 [] from ⟨⟨Dk.PD.keep (fun _ => False) D3.out (Dk.Only.of_below _ b4) (fun _ _ e => e), l4, fun k hp hq => by have := Dk.PD.lt D3.out k hp; have := q4 k hq; omega, fun k hk => hk.elim (fun e => Nat.le_trans B1.out.size (P3.out k e)) (fun e => Nat.le_trans B1.out.size (Nat.le_trans B3.out.size (q4 k e))), B1.out.trans ((B3.out.trans (b4.mono B3.out.size)).mono B1.out.size)⟩, ⟨rfl, [], World.ownsRow_nil _ _ _ _, fun i hi => by omega⟩, fun k hk => by cases hk⟩)
    clear l4 q4 b4 D3 P3 B3
    go_wp2_with fail
    refine (A.disk V4.out.st.log).mono ?_
    rintro e w5 ⟨rfl, b5⟩
    have V5 := Lib.hid (V4.out.later A b5)
    clear b5 V4
    have hps := fun w' => ptr_self ⟨gd, 0, none⟩ w'
    go_wp2_with fail
    clear hps
    go_loopw [9, 10] (fun v i wr => WrtR LD w gd gl n x v i wr) (fun _ i _ => 30 - (intOf i).toNat)
    case atStart => exact ⟨0, P, _, Q, [], 0, Nat.zero_le _, Nat.zero_le _, rfl, rfl, V5.out, rfl, rfl, zeros_good x, Nat.zero_le _, Nat.le_refl _, fun h => by
      rw [show size [] [].length = 0 from rfl] at h ⊢
      simp [Dk.D.new, zeros, List.getD_eq_getElem?_getD, List.getElem?_replicate]
      split <;> simp⟩
    case round =>
      obtain ⟨k, P, s, Q, R, m, hk, hk30, rfl, hsn, hW⟩ := hrel
      have HW := Lib.hid hW
      clear hW V5
      by_cases hlt : k < n
      · have l1 : (k : Int) < n := by omega
        by_cases hlt2 : k < 30
        · have l2 : (k : Int) < 30 := by omega
          obtain ⟨go, oo, rfl⟩ := HL.out.base (by omega)
          obtain ⟨tok, tr⟩ := HL.out.four hlt
          have hbn := HGR.out k hlt (by omega)
          have TOK := Lib.hid tok
          have TR := Lib.hid tr
          have i1 : (0 : Int) ≤ k ∧ (k : Int) < n := by omega
          clear tok tr
          generalize L.getD k default = t at *
          have TB := Lib.hid (TOK.out.b.later HW.out.dv.st.low)
          have e0 := TR.out 0 _ rfl
          rw [Nat.add_zero] at e0
          have HE0 := Lib.hid e0
          clear e0
          go_upto_region 13 with fail
          go_cut [11] from 54 to 149 (fun v wx => ∃ q c, v = .slice q t.bn c ∧ Out wr wx (.slice q t.bn c) t.bn t.B)
          case first =>
            have HBA := Lib.hid ((Below.refl wr.heap.size wr).alloc (Nat.le_refl _) (.cells #[] 5))
            have TA := Lib.hid (TB.out.later HBA.out)
            have HO := Lib.hid (show Out wr (wr.alloc (.cells #[] 5)) (.slice (some ⟨wr.heap.size, 0, none⟩) 0 0) 0 [] from ⟨rfl, owns_mk (L := []) (cap := 0) (n := 0) (heap_alloc_new wr (.cells (u8s []) 5)) rfl (Nat.le_refl _) (Nat.zero_le _) (Nat.le_refl _), (fun x hx => by cases hx), HBA.out⟩)
            have hlow := HW.out.dv.st.low.trans (HBA.out.mono HW.out.dv.st.low.size)
            have c0 := (hlow.cell (block_lt_of_cell HE0.out)).trans HE0.out
            clear hlow
            cases hbp : t.bp with
            | none =>
              obtain ⟨e1, e2⟩ : t.bn = 0 ∧ t.bc = 0 := by
                have := TB.out.le
                rcases TB.out.at' with ⟨_, h⟩ | ⟨x, h, _⟩
                · omega
                · rw [hbp] at h; cases h
              rw [hbp, e1, e2] at c0
              have HB0 := Lib.hid (show t.B = [] from List.eq_nil_of_length_eq_zero (by have := TB.out.size; omega))
              have HN0 := Lib.hid e1
              clear hbp e1 e2
              go_wp2_with (at_builtin; refine wpList_append_own_none (by rfl) (.tmp 54) (.tmp 59) 36 (by rfl) wr.heap.size 5 i5 1 A22 HI.out _ 0 _ (by rfl) HO.out.own (by rfl) ?_)
              go_meet
              exact ⟨_, _, by rw [HN0.out], by rw [HN0.out, HB0.out]; exact HO.out⟩
            | some ad =>
              rw [hbp] at c0
              have HAD := Lib.hid (show Tx (wr.alloc (.cells #[] 5)) (some ad) t.bn t.bc t.B from by rw [← hbp]; exact TA.out)
              clear hbp
              go_wp2_with (at_builtin; refine wpList_append_own_at _ (by rfl) (.tmp 54) (.tmp 59) 36 (by rfl) wr.heap.size 5 i5 (.int .u8 0) 1 1 A22 HI.out HI0.out HI1.out HI2.out (by rfl) (by decide) _ 0 _ (by rfl) HO.out.own ad t.bn t.bc (vals t.B) (by rfl) (by rw [vals_length, ← HAD.out.size, Nat.mul_one]) HAD.out.cells (vals_one _) (by unfold maxLen; omega) (by omega) HBA.out.size ?_; intro v7 w7 hown7 hgrow7 _ _; have O7 := Lib.hid (HO.out.put HAD.out.ok HAD.out.size.symm hown7 hgrow7); clear hown7 hgrow7)
              obtain ⟨q7, c7, rfl⟩ := O7.out.form
              go_meet
              have O8 := O7.out
              rw [Nat.zero_add, List.nil_append] at O8
              exact ⟨q7, c7, by rw [Nat.zero_add], O8⟩
          case rest =>
            obtain ⟨qb, cb, rfl, hO⟩ := hcut
            obtain ⟨q9, c9, rfl, hmc⟩ := HW.out.dv.hs.form
            have HOB := Lib.hid hO
            have D6 := Lib.hid (HW.out.dv.later A hO.low)
            clear hO
            generalize wc = w6 at *
            have HRM := Lib.hid (show R.length = m from HW.out.dv.hs.len.symm)
            have HAS := Lib.hid (show ∀ x, qb = some x → ¬ P x.block ∧ ¬ Q x.block from fun x hx => by
              have h1 := (HOB.out.own.lt x.block (by rw [hx]; rfl)).1
              exact ⟨fun e => by have := Dk.PD.lt HW.out.dv.st.disk _ e; omega, fun e => by have := A.lt HW.out.dv.st.log _ e; omega⟩)
            have hnb : need t.B.length ≤ 1565 := by have := TB.out.size; unfold need; omega
            go_wp2_with fail
            refine (A.append t.B qb t.bn cb D6.out.st.disk D6.out.st.log D6.out.st.apart HOB.out.tx (fun x hx _ => HAS.out x hx) (by omega) (by have := HW.out.writes; omega) (by have := HRM.out; have := HW.out.many; simp only; omega)).mono ?_
            rintro e w7 ⟨rfl, P7, Q7, d7, l7, p7, q7, a7, o7⟩
            have D7 := Lib.hid (D6.out.app d7 l7 p7 q7 a7 o7)
            have HNP := Lib.hid (show ∀ g, (Value.slice qb t.bn cb).ownBlock = some g → w.heap.size ≤ g ∧ ¬ P7 g ∧ ¬ Q7 g ∧ (Value.slice q9 m c9).ownBlock ≠ some g from fun g hg => by
              have h1 := HOB.out.own.lt g hg
              refine ⟨Nat.le_trans HW.out.dv.st.low.size h1.1, fun e => (p7 g e).elim (fun e => ?_) (fun e => ?_), fun e => (q7 g e).elim (fun e => ?_) (fun e => ?_), fun e => ?_⟩
              · have := Dk.PD.lt HW.out.dv.st.disk _ e; omega
              · omega
              · have := A.lt HW.out.dv.st.log _ e; omega
              · omega
              · have := (HW.out.dv.hs.lt g e).2; omega)
            have O7 := Lib.hid (owns_keep HOB.out.own (fun g hg => o7.block g (HOB.out.own.lt g hg).2 (fun e => by
              have h1 := HOB.out.own.lt g hg
              rcases e with e | e
              · have := Dk.PD.lt HW.out.dv.st.disk _ e; omega
              · have := A.lt HW.out.dv.st.log _ e; omega)))
            have HOK := Lib.hid HOB.out.ok
            have HBL := Lib.hid (show t.B.length = t.bn from TB.out.size.symm)
            clear d7 l7 p7 q7 a7 o7 D6 HAS HOB
            go_wp2_with fail
            generalize wr.heap.size = base at *
            go_loopw [13] (fun i wx => IncR LD w gd P7 (G.app ⟨R, false⟩ s t.B).1.1 gl Q7 (G.app ⟨R, false⟩ s t.B).1.2 (.slice q9 m c9) m R base qb t.bn cb i wx) (fun i _ => t.bn - (intOf i).toNat)
            case atStart => exact ⟨0, t.B, Nat.zero_le _, rfl, D7.out, O7.out, HOK.out, HBL.out⟩
            case round =>
              obtain ⟨j, B', hj, rfl, hD, hown, hok, hlen⟩ := hrel
              by_cases hjn : j < t.bn
              · have l5 : (j : Int) < t.bn := by omega
                obtain ⟨gb, rfl⟩ : ∃ gb, qb = some ⟨gb, 0, none⟩ := by
                  rcases hown.2 with ⟨_, h0⟩ | ⟨gb, cap, cur, e, _⟩
                  · omega
                  · cases e; exact ⟨gb, rfl⟩
                obtain ⟨g', o', hp', hx'⟩ := (Bytes.of_owns hown hok).ne (by intro e; rw [e] at hlen; simp at hlen; omega)
                obtain ⟨rfl, rfl⟩ : gb = g' ∧ 0 = o' := by simpa using hp'
                have c5 := hx' j (by omega)
                rw [Nat.zero_add] at c5
                have f5 := hown.frozenAt j
                have hst := hown.stored j (.int .u8 (((B'.getD j 0 + 1) % 256 : Nat) : Int))
                rw [← vals_set] at hst
                have HST := Lib.hid hst.1
                have HDX := Lib.hid (hD.keepX A (fun k => k = gb) (Dk.Only.setCell (P := fun k => k = gb) wr (a := ⟨gb, j, none⟩) rfl (.int .u8 (((B'.getD j 0 + 1) % 256 : Nat) : Int))) (fun k hk => by rw [hk]; exact HNP.out gb rfl))
                have HOK' := Lib.hid (set_ok hok j ((B'.getD j 0 + 1) % 256) (Nat.mod_lt _ (by omega)))
                have HLN := Lib.hid (show (B'.set j ((B'.getD j 0 + 1) % 256)).length = t.bn from by rw [List.length_set]; exact hlen)
                have i5' : (0 : Int) ≤ j ∧ (j : Int) < t.bn := by omega
                have q3 : IntKind.u8.wrap ((B'.getD j 0 : Int) + 1) = (((B'.getD j 0 + 1) % 256 : Nat) : Int) := by rw [IntKind.wrap_u8']; omega
                clear hst hD hown hok hx' hp' hlen
                generalize (B'.getD j 0 + 1) % 256 = z at *
                generalize B'.getD j 0 = y at *
                go_wp2_with fail
                go_roundw
                case rel => exact ⟨j + 1, _, by omega, by go_num, HDX.out, HST.out, HOK'.out, HLN.out⟩
                case measure => simp [intOf]; omega
              · have l5 : ¬ (j : Int) < t.bn := by omega
                have D8 := Lib.hid hD
                clear hD hown hok hlen O7 HOK HBL HNP
                generalize wr = w8 at *
                have HSM := Lib.hid (show ∀ b ∈ R, b.length ≤ 100000 from HW.out.good.small)
                have HUS := Lib.hid (show G.used ⟨R, false⟩ ≤ x from by have h1 := A.fit HW.out.dv.st.log; rw [used_size] at h1; omega)
                have HAL := Lib.hid (show (all R R.length).length = 64 * G.used ⟨R, false⟩ from by rw [all_length]; exact used_size ⟨R, false⟩)
                have HNI := Lib.hid (show needI t.bn = need t.bn from needI_nat (by omega))
                have HBL := Lib.hid (show t.B.length = t.bn from TB.out.size.symm)
                have HN7 := Lib.hid (show (G.app ⟨R, false⟩ s t.B).1.1.n = x from by rw [G.app_n]; exact hsn)
                have hmy := HW.out.many
                go_wp2_with fail
                refine (rall_any R q9 m c9 w8 (D8.out.hs.texts D8.out.st.low) (by omega) HSM.out).mono ?_
                rintro e w9 hp
                obtain ⟨q10, c10, rfl, h10, b10⟩ := hp
                have D9 := Lib.hid (D8.out.later A b10)
                rw [HAL.out]
                clear h10 b10 D8
                obtain ⟨us, hus⟩ : ∃ us, us = G.used ⟨R, false⟩ := ⟨_, rfl⟩
                rw [← hus]
                have hus60 : us < 60 := by have := HUS.out; omega
                have HU := Lib.hid hus
                clear hus
                have q64 : ((64 * us : Nat) : Int).tdiv 64 = (us : Int) := by rw [Int.tdiv_eq_ediv_of_nonneg (by omega)]; omega
                have q64' : (64 * (us : Int)).tdiv 64 = (us : Int) := by rw [Int.tdiv_eq_ediv_of_nonneg (by omega)]; omega
                obtain ⟨nd, hnd⟩ : ∃ nd, nd = need t.bn := ⟨_, rfl⟩
                have HND := Lib.hid hnd
                have hnd8 : nd ≤ 1565 := by rw [hnd, ← HBL.out]; exact hnb
                clear hnd
                have z1 : IntKind.i64.wrap ((us : Int) + (nd : Int)) = (us : Int) + (nd : Int) := IntWalk.i64_in _ (by omega)
                go_wp2_with fail
                refine (rneed_any t.bn _ (by omega) (by omega)).mono ?_
                rintro e w' ⟨rfl, rfl⟩
                rw [HNI.out, ← HND.out]
                go_wp2_with fail
                refine (Dk.len_any D9.out.st.disk).mono ?_
                rintro e w10 ⟨rfl, b10⟩
                have D10 := Lib.hid (D9.out.later A b10)
                rw [HN7.out]
                clear b10 D9
                obtain ⟨er, her⟩ : ∃ er, er = (G.app ⟨R, false⟩ s t.B).2 := ⟨_, rfl⟩
                rw [← her]
                have HER := Lib.hid her
                clear her
                go_upto_if 86 with fail
                go_cut [9] from 86 to 149 (fun v wx => ∃ (R' : List (List Nat)) (m' : Nat), Wr LD w wx gd P7 (G.app ⟨R, false⟩ s t.B).1.1 gl Q7 v m' R' (k + 1))
                case first =>
                  by_cases hf : (us : Int) + (nd : Int) > (x : Int)
                  · have he := app_full (g := ⟨R, false⟩) (s := s) (b := t.B) rfl (by rw [HBL.out, ← HND.out, ← HU.out]; omega)
                    have D11 := D10.out
                    rw [he] at D11
                    have D11 := Lib.hid D11
                    try rw [decide_eq_true hf]
                    have f1 : (er : Int) = 12 := by have := HER.out; rw [he] at this; omega
                    have f2 : ((er : Int) == 12) = true := by rw [f1]; rfl
                    clear f1
                    have HE := Lib.hid he
                    clear he
                    go_wp2_with fail
                    go_meet
                    exact ⟨R, m, by rw [HE.out]; exact ⟨D11.out, HW.out.dead, HW.out.left, HW.out.good, by have := HW.out.writes; simp only; omega, by omega, HW.out.next⟩⟩
                  · obtain ⟨s', he, hWh⟩ := app_whole (R := R) (s := s) (b := t.B) (Dk.PD.okay HW.out.dv.st.disk) HW.out.dead HW.out.good TB.out.ok (by rw [HBL.out]; omega) (by rw [HBL.out, ← HND.out, ← HU.out]; omega) (Or.inl (by rw [HW.out.left]; decide))
                    have D11 := D10.out
                    rw [he] at D11
                    have D11 := Lib.hid D11
                    have HWH := Lib.hid hWh
                    try rw [decide_eq_false hf]
                    have f1 : (er : Int) = 0 := by have := HER.out; rw [he] at this; omega
                    have f2 : ((er : Int) == 0) = true := by rw [f1]; rfl
                    clear f1
                    have HE := Lib.hid he
                    have c0 := (D11.out.st.low.cell (block_lt_of_cell HE0.out)).trans HE0.out
                    have hb := (Below.refl w10.heap.size w10).alloc (Nat.le_refl _) (.cells #[.slice t.bp t.bn t.bc] 36)
                    have DA := Lib.hid (D11.out.later A hb)
                    obtain ⟨hlen, hs, how, hall⟩ := DA.out.hs
                    have HOW := Lib.hid how
                    have HALL := Lib.hid hall
                    have HLO := Lib.hid DA.out.st.low.size
                    have TW := Lib.hid TOK.out.b
                    obtain ⟨i6, hj1, hj2, hj3, hj4⟩ := info_parts IH
                    have HJ := Lib.hid hj1
                    have HJ0 := Lib.hid hj2
                    have HJ1 := Lib.hid hj3
                    have HJ2 := Lib.hid hj4
                    clear he hWh hb how hall hlen hj1 hj2 hj3 hj4
                    go_wp2_with (at_builtin; refine wpList_append_own_at _ (by rfl) (.tmp 91) (.tmp 97) 35 (by rfl) w.heap.size 36 i6 (.slice none 0 0) 1 24 UL HJ.out HJ0.out HJ1.out HJ2.out (by rfl) (by decide) _ m _ (by rfl) HOW.out ⟨w10.heap.size, 0, none⟩ 1 1 [.slice t.bp t.bn t.bc] (by rfl) (by rfl) (cell_one_new w10 _ _) (by simp [Value.oneCell']) (by unfold maxLen; omega) (by omega) HLO.out ?_; intro v7 w11 hown7 hgrow7 _ hat7; have V7 := Lib.hid (DA.out.list A (Hs.put (b := t.B) HRM.out.symm HOW.out HALL.out TW.out hown7) hgrow7 hat7); clear hown7 hgrow7 hat7)
                    go_meet
                    have hsz : size (R ++ [t.B]) (R ++ [t.B]).length = 64 * (G.used ⟨R, false⟩ + need t.B.length) := by rw [← used_one]; exact used_size ⟨R ++ [t.B], false⟩
                    have hw2 := HWH.out.writes
                    have hw1 := HW.out.writes
                    exact ⟨R ++ [t.B], m + 1, by
                      rw [HE.out]
                      exact ⟨V7.out, HWH.out.dead, (HWH.out.left (by rw [HW.out.left]; decide)).trans HW.out.left, HWH.out.good, by simp only; omega, by omega, fun h => by
                        rw [hsz] at h ⊢
                        have hn := HWH.out.n
                        have h' : 64 * (G.used ⟨R, false⟩ + need t.B.length) < 64 * s'.n := h
                        exact HWH.out.next (by omega)⟩⟩
                case rest =>
                  obtain ⟨R', m', hW'⟩ := hcut
                  have W' := Lib.hid hW'
                  clear hW' D10
                  generalize (G.app ⟨R, false⟩ s t.B).1.1 = s7 at *
                  obtain ⟨q9', c9', rfl, hmc'⟩ := W'.out.dv.hs.form
                  have HRM' := Lib.hid (show R'.length = m' from W'.out.dv.hs.len.symm)
                  have HSM' := Lib.hid (show ∀ b ∈ R', b.length ≤ 100000 from W'.out.good.small)
                  have hmy' := W'.out.many
                  clear HRM HSM HUS HAL HNI HND HU HER
                  generalize wc = w11 at *
                  go_wp2_with fail
                  refine (rall_any R' q9' m' c9' w11 (W'.out.dv.hs.texts W'.out.dv.st.low) (by omega) HSM'.out).mono ?_
                  rintro e w12 hp
                  obtain ⟨qa, ca, rfl, ha, ba⟩ := hp
                  have V12 := Lib.hid (W'.out.dv.later A ba)
                  have HAO := Lib.hid (all_ok R' (by
                    intro b hb
                    obtain ⟨i, hi, rfl⟩ := List.getElem_of_mem hb
                    obtain ⟨_, hs, _, hall⟩ := W'.out.dv.hs
                    obtain ⟨_, _, _, _, ht⟩ := hall i (by have := HRM'.out; omega)
                    have := ht.ok
                    rwa [List.getD_eq_getElem?_getD, List.getElem?_eq_getElem hi] at this) R'.length)
                  have TW := Lib.hid (tx_of_owns ha HAO.out)
                  clear ha ba
                  obtain ⟨nw, hnw⟩ : ∃ nw, nw = (all R' R'.length).length := ⟨_, rfl⟩
                  obtain ⟨us', hus'⟩ : ∃ u, u = G.used ⟨R', false⟩ := ⟨_, rfl⟩
                  have hnw2 : nw = 64 * us' := by rw [hnw, all_length, hus']; exact used_size ⟨R', false⟩
                  have HU' := Lib.hid hus'
                  have HNW := Lib.hid hnw
                  have HN2 := Lib.hid hnw2
                  rw [← hnw] at TW
                  rw [← hnw]
                  clear hus' hnw hnw2
                  go_wp2_with fail
                  refine (Dk.all_any V12.out.st.disk).mono ?_
                  rintro e w13 ⟨pb, cb', rfl, mb, bb⟩
                  have V13 := Lib.hid (V12.out.later A bb)
                  have TW13 := Lib.hid (TW.out.later bb)
                  have TA13 := Lib.hid mb.tx
                  have hcbl := mb.le
                  clear mb bb V12 TW
                  obtain ⟨nb, hnb2⟩ : ∃ nb, nb = 64 * s7.n := ⟨_, rfl⟩
                  have HNB := Lib.hid hnb2
                  have hnbx : nb = 64 * x := by rw [hnb2, HN7.out]
                  have hnw2 := HN2.out
                  have hfit' : nw ≤ nb := by
                    have h1 := A.fit V13.out.st.log
                    rw [HNW.out, all_length, hnb2]
                    exact h1
                  rw [← hnb2] at TA13 hcbl
                  rw [← hnb2]
                  have TBW := Lib.hid (show Tx w13 pb nw cb' (all R' R'.length) from by
                    have h1 := TA13.out.take nw hfit'
                    rwa [show s7.L.take nw = all R' R'.length from by rw [HNW.out, all_length]; exact W'.out.good.pre] at h1)
                  have j1 : (nw : Int) ≤ (cb' : Int) := by omega
                  have hus'x : us' ≤ x := by omega
                  obtain ⟨fr, hfr⟩ : ∃ fr, fr = x - us' := ⟨_, rfl⟩
                  have z1 : IntKind.i64.wrap ((x : Int) - (us' : Int)) = (fr : Int) := by rw [IntWalk.i64_in _ (by omega)]; omega
                  have z2 : (nw : Int).tdiv 64 = (us' : Int) := by rw [Int.tdiv_eq_ediv_of_nonneg (by omega)]; omega
                  have z3 : IntKind.i64.wrap (us' : Int) = (us' : Int) := IntWalk.i64_in _ (by omega)
                  have hnb5 : nb ≤ 3840 := by omega
                  have HN63 := Lib.hid (show nw < nb → nw + 63 < nb from fun h => by omega)
                  obtain ⟨DD, hDD⟩ : ∃ DD, DD = last R' R'.length := ⟨_, rfl⟩
                  have HQ9 := Lib.hid (fun w' => neq_self' DD (by rw [hDD]; exact last_length _ _) w')
                  have HFR := Lib.hid (show ∀ w', Below w13.heap.size w13 w' → Calls Try.prog 19 #[.pointer (some ⟨gl, 0, none⟩)] w' fun e w'' => e = .returned (.int .i64 (fr : Int)) ∧ Below w13.heap.size w13 w'' from fun w' hb => (A.free (V13.out.later A hb).st.disk (V13.out.later A hb).st.log).mono fun e w'' ⟨h1, h2⟩ => ⟨by rw [h1, HN7.out, ← HU'.out, hfr], hb.trans (h2.mono hb.size)⟩)
                  have HLE := Lib.hid (show ∀ w', Below w13.heap.size w13 w' → Calls Try.prog 17 #[.pointer (some ⟨gd, 0, none⟩)] w' fun e w'' => e = .returned (.int .i64 (x : Int)) ∧ Below w13.heap.size w13 w'' from fun w' hb => (Dk.len_any (V13.out.later A hb).st.disk).mono fun e w'' ⟨h1, h2⟩ => ⟨by rw [h1, HN7.out], hb.trans (h2.mono hb.size)⟩)
                  have HLA := Lib.hid (show ∀ w', Below w13.heap.size w13 w' → Calls Try.prog 20 #[.pointer (some ⟨gl, 0, none⟩)] w' fun e w'' => e = .returned (.agg (u8s DD)) ∧ Below w13.heap.size w13 w'' from fun w' hb => (A.last (V13.out.later A hb).st.log).mono fun e w'' ⟨h1, h2⟩ => ⟨by rw [h1, hDD], hb.trans (h2.mono hb.size)⟩)
                  have HRL := Lib.hid (show ∀ w', Below w13.heap.size w13 w' → Calls Try.prog 21 #[.slice q9' m' c9'] w' fun e w'' => e = .returned (.agg (u8s DD)) ∧ Below w13.heap.size w13 w'' from fun w' hb => (rlast_any R' q9' m' c9' w' ((V13.out.later A hb).hs.texts (V13.out.later A hb).st.low) (by omega) HSM'.out).mono fun e w'' ⟨h1, h2⟩ => ⟨by rw [h1, hDD], hb.trans (h2.mono hb.size)⟩)
                  have HRC := Lib.hid (show ∀ w', Below w13.heap.size w13 w' → Calls Try.prog 23 #[.pointer (some ⟨gl, 0, none⟩)] w' fun e w'' => ∃ q m c, e = .returned (.slice q m c) ∧ Texts w'' q m c R' ∧ Below w'.heap.size w' w'' from fun w' hb => A.records (V13.out.later A hb).st.log)
                  have HTX := Lib.hid (show ∀ w', Below w13.heap.size w13 w' → Texts w' q9' m' c9' R' from fun w' hb => (V13.out.later A hb).hs.texts (V13.out.later A hb).st.low)
                  have HNX := Lib.hid W'.out.next
                  clear hfr hDD hnb2 hnbx hnw2
                  go_upto_region 27 with fail
                  go_cut [135] from 103 to 149 (fun v wx => v = .bool false ∧ Below w13.heap.size w13 wx)
                  case first =>
                    refine wp_region_held_drew (S := fun w' => Below w13.heap.size w13 w') (by kernel_rfl) (Below.refl _ _).drew (fun hHeld => ?_)
                    refine wpAnyH_take (i := 0) (oi := ⟨some 103, .move (.tmp 15), _, _, _, _⟩) (v := ?_) rfl (by kernel_rfl) (by kernel_rfl) (by kernel_rfl) (fun _ _ _ h => h) (Or.inl ⟨by rfl, ?_⟩) (by assumption) ?_
                    rotate_left
                    · intro w' hSw
                      go_simp
                      try with_reducible rfl
                    try simp only [Act.put, List.setIfInBounds_toArray, List.set_cons_zero, List.set_cons_succ]
                    refine wpAnyH_take (i := 1) (oi := ⟨some 104, .move (.tmp 14), _, _, _, _⟩) (v := ?_) rfl (by kernel_rfl) (by kernel_rfl) (by kernel_rfl) (fun _ _ _ h => h) (Or.inl ⟨by rfl, ?_⟩) (by assumption) ?_
                    rotate_left
                    · intro w' hSw
                      go_simp
                      try with_reducible rfl
                    try simp only [Act.put, List.setIfInBounds_toArray, List.set_cons_zero, List.set_cons_succ]
                    refine wpAnyH_take (i := 2) (oi := ⟨some 105, .call ⟨.builtin .len, #[.tmp 104], #[36]⟩, _, _, _, _⟩) (v := ?_) rfl (by kernel_rfl) (by kernel_rfl) (by kernel_rfl) (fun _ _ _ h => h) (Or.inl ⟨by rfl, ?_⟩) (by assumption) ?_
                    rotate_left
                    · intro w' hSw
                      go_simp
                      try with_reducible rfl
                    try simp only [Act.put, List.setIfInBounds_toArray, List.set_cons_zero, List.set_cons_succ]
                    refine wpAnyH_take (i := 3) (oi := ⟨some 106, .slice 36 (.tmp 103) none (some (.tmp 105)) none, _, _, _, _⟩) (v := ?_) rfl (by kernel_rfl) (by kernel_rfl) (by kernel_rfl) (fun _ _ _ h => h) (Or.inl ⟨by rfl, ?_⟩) (by assumption) ?_
                    rotate_left
                    · intro w' hSw
                      go_simp
                      try with_reducible rfl
                    try simp only [Act.put, List.setIfInBounds_toArray, List.set_cons_zero, List.set_cons_succ]
                    refine wpAnyH_take (i := 4) (oi := ⟨some 107, .convert 36 9 (.tmp 106), _, _, _, _⟩) (v := ?_) rfl (by kernel_rfl) (by kernel_rfl) (by kernel_rfl) (fun _ _ _ h => h) (Or.inl ⟨by rfl, ?_⟩) (by assumption) ?_
                    rotate_left
                    · intro w' hSw
                      have hcv := convert_tx (TBW.out.later hSw)
                      go_simp
                      try with_reducible rfl
                    try simp only [Act.put, List.setIfInBounds_toArray, List.set_cons_zero, List.set_cons_succ]
                    refine wpAnyH_take (i := 5) (oi := ⟨some 108, .move (.tmp 14), _, _, _, _⟩) (v := ?_) rfl (by kernel_rfl) (by kernel_rfl) (by kernel_rfl) (fun _ _ _ h => h) (Or.inl ⟨by rfl, ?_⟩) (by assumption) ?_
                    rotate_left
                    · intro w' hSw
                      go_simp
                      try with_reducible rfl
                    try simp only [Act.put, List.setIfInBounds_toArray, List.set_cons_zero, List.set_cons_succ]
                    refine wpAnyH_take (i := 6) (oi := ⟨some 109, .convert 36 9 (.tmp 108), _, _, _, _⟩) (v := ?_) rfl (by kernel_rfl) (by kernel_rfl) (by kernel_rfl) (fun _ _ _ h => h) (Or.inl ⟨by rfl, ?_⟩) (by assumption) ?_
                    rotate_left
                    · intro w' hSw
                      have hcv := convert_tx (TW13.out.later hSw)
                      go_simp
                      try with_reducible rfl
                    try simp only [Act.put, List.setIfInBounds_toArray, List.set_cons_zero, List.set_cons_succ]
                    refine wpAnyH_take (i := 7) (oi := ⟨some 110, .binOp .neq 9 (.tmp 107) (.tmp 109) 9, _, _, _, _⟩) (v := ?_) rfl (by kernel_rfl) (by kernel_rfl) (by kernel_rfl) (fun _ _ _ h => h) (Or.inl ⟨by rfl, ?_⟩) (by assumption) ?_
                    rotate_left
                    · intro w' hSw
                      go_simp
                      try with_reducible rfl
                    try simp only [Act.put, List.setIfInBounds_toArray, List.set_cons_zero, List.set_cons_succ]
                    refine wpAnyH_take (i := 8) (oi := ⟨some 111, .move (.tmp 110), _, _, _, _⟩) (v := ?_) rfl (by kernel_rfl) (by kernel_rfl) (by kernel_rfl) (fun _ _ _ h => h) (Or.inl ⟨by rfl, ?_⟩) (by assumption) ?_
                    rotate_left
                    · intro w' hSw
                      go_simp
                      try with_reducible rfl
                    try simp only [Act.put, List.setIfInBounds_toArray, List.set_cons_zero, List.set_cons_succ]
                    refine wpAnyH_take (i := 9) (oi := ⟨some 112, .move (.tmp 7), _, _, _, _⟩) (v := ?_) rfl (by kernel_rfl) (by kernel_rfl) (by kernel_rfl) (fun _ _ _ h => h) (Or.inl ⟨by rfl, ?_⟩) (by assumption) ?_
                    rotate_left
                    · intro w' hSw
                      go_simp
                      try with_reducible rfl
                    try simp only [Act.put, List.setIfInBounds_toArray, List.set_cons_zero, List.set_cons_succ]
                    refine wpAnyH_take (i := 11) (oi := ⟨some 114, .move (.tmp 5), _, _, _, _⟩) (v := ?_) rfl (by kernel_rfl) (by kernel_rfl) (by kernel_rfl) (fun _ _ _ h => h) (Or.inl ⟨by rfl, ?_⟩) (by assumption) ?_
                    rotate_left
                    · intro w' hSw
                      go_simp
                      try with_reducible rfl
                    try simp only [Act.put, List.setIfInBounds_toArray, List.set_cons_zero, List.set_cons_succ]
                    refine wpAnyH_take (i := 13) (oi := ⟨some 116, .move (.tmp 14), _, _, _, _⟩) (v := ?_) rfl (by kernel_rfl) (by kernel_rfl) (by kernel_rfl) (fun _ _ _ h => h) (Or.inl ⟨by rfl, ?_⟩) (by assumption) ?_
                    rotate_left
                    · intro w' hSw
                      go_simp
                      try with_reducible rfl
                    try simp only [Act.put, List.setIfInBounds_toArray, List.set_cons_zero, List.set_cons_succ]
                    refine wpAnyH_take (i := 14) (oi := ⟨some 117, .call ⟨.builtin .len, #[.tmp 116], #[36]⟩, _, _, _, _⟩) (v := ?_) rfl (by kernel_rfl) (by kernel_rfl) (by kernel_rfl) (fun _ _ _ h => h) (Or.inl ⟨by rfl, ?_⟩) (by assumption) ?_
                    rotate_left
                    · intro w' hSw
                      go_simp
                      try with_reducible rfl
                    try simp only [Act.put, List.setIfInBounds_toArray, List.set_cons_zero, List.set_cons_succ]
                    refine wpAnyH_take (i := 15) (oi := ⟨some 118, .binOp .quo 3 (.tmp 117) (.const (.int .i64 64)) 3, _, _, _, _⟩) (v := ?_) rfl (by kernel_rfl) (by kernel_rfl) (by kernel_rfl) (fun _ _ _ h => h) (Or.inl ⟨by rfl, ?_⟩) (by assumption) ?_
                    rotate_left
                    · intro w' hSw
                      go_simp
                      try with_reducible rfl
                    try simp only [Act.put, List.setIfInBounds_toArray, List.set_cons_zero, List.set_cons_succ]
                    refine wpAnyH_ready (rs := [10]) (by kernel_rfl) (by simp) ?_
                    refine AllReadyH.cons (o := ⟨some 113, .call ⟨.value (.func 19), #[.tmp 112], #[31]⟩, _, _, _, _⟩) rfl (fun K hK => ?_) AllReadyH.nil
                    go_simp
                    with_reducible refine (HFR.out _ ?hx).mono ?_
                    case hx => exact hHeld
                    rintro _ w113 ⟨rfl, hS113⟩
                    try go_wp2_with fail
                    refine hK.out _ _ hS113 (fun hHeld => ?_)
                    clear hK K
                    try simp only [Act.put, List.setIfInBounds_toArray, List.set_cons_zero, List.set_cons_succ]
                    refine wpAnyH_ready (rs := [12]) (by kernel_rfl) (by simp) ?_
                    refine AllReadyH.cons (o := ⟨some 115, .call ⟨.value (.func 17), #[.tmp 114], #[27]⟩, _, _, _, _⟩) rfl (fun K hK => ?_) AllReadyH.nil
                    go_simp
                    with_reducible refine (HLE.out _ ?hx).mono ?_
                    case hx => exact hHeld
                    rintro _ w115 ⟨rfl, hS115⟩
                    try go_wp2_with fail
                    refine hK.out _ _ hS115 (fun hHeld => ?_)
                    clear hK K
                    try simp only [Act.put, List.setIfInBounds_toArray, List.set_cons_zero, List.set_cons_succ]
                    refine wpAnyH_take (i := 16) (oi := ⟨some 119, .binOp .sub 3 (.tmp 115) (.tmp 118) 3, _, _, _, _⟩) (v := ?_) rfl (by kernel_rfl) (by kernel_rfl) (by kernel_rfl) (fun _ _ _ h => h) (Or.inl ⟨by rfl, ?_⟩) (by assumption) ?_
                    rotate_left
                    · intro w' hSw
                      go_simp
                      try with_reducible rfl
                    try simp only [Act.put, List.setIfInBounds_toArray, List.set_cons_zero, List.set_cons_succ]
                    refine wpAnyH_take (i := 17) (oi := ⟨some 120, .binOp .neq 3 (.tmp 113) (.tmp 119) 3, _, _, _, _⟩) (v := ?_) rfl (by kernel_rfl) (by kernel_rfl) (by kernel_rfl) (fun _ _ _ h => h) (Or.inl ⟨by rfl, ?_⟩) (by assumption) ?_
                    rotate_left
                    · intro w' hSw
                      go_simp
                      try with_reducible rfl
                    try simp only [Act.put, List.setIfInBounds_toArray, List.set_cons_zero, List.set_cons_succ]
                    refine wpAnyH_take (i := 18) (oi := ⟨some 121, .pick (.tmp 111) (.const (.bool true)) (.tmp 120), _, _, _, _⟩) (v := ?_) rfl (by kernel_rfl) (by kernel_rfl) (by kernel_rfl) (fun _ _ _ h => h) (Or.inl ⟨by rfl, ?_⟩) (by assumption) ?_
                    rotate_left
                    · intro w' hSw
                      go_simp
                      try with_reducible rfl
                    try simp only [Act.put, List.setIfInBounds_toArray, List.set_cons_zero, List.set_cons_succ]
                    refine wpAnyH_take (i := 19) (oi := ⟨some 122, .move (.tmp 121), _, _, _, _⟩) (v := ?_) rfl (by kernel_rfl) (by kernel_rfl) (by kernel_rfl) (fun _ _ _ h => h) (Or.inl ⟨by rfl, ?_⟩) (by assumption) ?_
                    rotate_left
                    · intro w' hSw
                      go_simp
                      try with_reducible rfl
                    try simp only [Act.put, List.setIfInBounds_toArray, List.set_cons_zero, List.set_cons_succ]
                    refine wpAnyH_take (i := 20) (oi := ⟨some 123, .move (.tmp 7), _, _, _, _⟩) (v := ?_) rfl (by kernel_rfl) (by kernel_rfl) (by kernel_rfl) (fun _ _ _ h => h) (Or.inl ⟨by rfl, ?_⟩) (by assumption) ?_
                    rotate_left
                    · intro w' hSw
                      go_simp
                      try with_reducible rfl
                    try simp only [Act.put, List.setIfInBounds_toArray, List.set_cons_zero, List.set_cons_succ]
                    refine wpAnyH_take (i := 22) (oi := ⟨some 125, .move (.tmp 9), _, _, _, _⟩) (v := ?_) rfl (by kernel_rfl) (by kernel_rfl) (by kernel_rfl) (fun _ _ _ h => h) (Or.inl ⟨by rfl, ?_⟩) (by assumption) ?_
                    rotate_left
                    · intro w' hSw
                      go_simp
                      try with_reducible rfl
                    try simp only [Act.put, List.setIfInBounds_toArray, List.set_cons_zero, List.set_cons_succ]
                    refine wpAnyH_ready (rs := [21]) (by kernel_rfl) (by simp) ?_
                    refine AllReadyH.cons (o := ⟨some 124, .call ⟨.value (.func 20), #[.tmp 123], #[31]⟩, _, _, _, _⟩) rfl (fun K hK => ?_) AllReadyH.nil
                    go_simp
                    with_reducible refine (HLA.out _ ?hx).mono ?_
                    case hx => exact hHeld
                    rintro _ w124 ⟨rfl, hS124⟩
                    try go_wp2_with fail
                    refine hK.out _ _ hS124 (fun hHeld => ?_)
                    clear hK K
                    try simp only [Act.put, List.setIfInBounds_toArray, List.set_cons_zero, List.set_cons_succ]
                    refine wpAnyH_ready (rs := [23]) (by kernel_rfl) (by simp) ?_
                    refine AllReadyH.cons (o := ⟨some 126, .call ⟨.value (.func 21), #[.tmp 125], #[35]⟩, _, _, _, _⟩) rfl (fun K hK => ?_) AllReadyH.nil
                    go_simp
                    with_reducible refine (HRL.out _ ?hx).mono ?_
                    case hx => exact hHeld
                    rintro _ w126 ⟨rfl, hS126⟩
                    try go_wp2_with fail
                    refine hK.out _ _ hS126 (fun hHeld => ?_)
                    clear hK K
                    try simp only [Act.put, List.setIfInBounds_toArray, List.set_cons_zero, List.set_cons_succ]
                    refine wpAnyH_take (i := 24) (oi := ⟨some 127, .binOp .neq 44 (.tmp 124) (.tmp 126) 44, _, _, _, _⟩) (v := ?_) rfl (by kernel_rfl) (by kernel_rfl) (by kernel_rfl) (fun _ _ _ h => h) (Or.inl ⟨by rfl, ?_⟩) (by assumption) ?_
                    rotate_left
                    · intro w' hSw
                      have hq9 := HQ9.out
                      go_simp
                      try with_reducible rfl
                    try simp only [Act.put, List.setIfInBounds_toArray, List.set_cons_zero, List.set_cons_succ]
                    refine wpAnyH_take (i := 25) (oi := ⟨some 128, .pick (.tmp 122) (.const (.bool true)) (.tmp 127), _, _, _, _⟩) (v := ?_) rfl (by kernel_rfl) (by kernel_rfl) (by kernel_rfl) (fun _ _ _ h => h) (Or.inl ⟨by rfl, ?_⟩) (by assumption) ?_
                    rotate_left
                    · intro w' hSw
                      go_simp
                      try with_reducible rfl
                    try simp only [Act.put, List.setIfInBounds_toArray, List.set_cons_zero, List.set_cons_succ]
                    refine wpAnyH_take (i := 26) (oi := ⟨some 129, .move (.tmp 128), _, _, _, _⟩) (v := ?_) rfl (by kernel_rfl) (by kernel_rfl) (by kernel_rfl) (fun _ _ _ h => h) (Or.inl ⟨by rfl, ?_⟩) (by assumption) ?_
                    rotate_left
                    · intro w' hSw
                      go_simp
                      try with_reducible rfl
                    try simp only [Act.put, List.setIfInBounds_toArray, List.set_cons_zero, List.set_cons_succ]
                    refine wpAnyH_take (i := 27) (oi := ⟨some 130, .move (.tmp 7), _, _, _, _⟩) (v := ?_) rfl (by kernel_rfl) (by kernel_rfl) (by kernel_rfl) (fun _ _ _ h => h) (Or.inl ⟨by rfl, ?_⟩) (by assumption) ?_
                    rotate_left
                    · intro w' hSw
                      go_simp
                      try with_reducible rfl
                    try simp only [Act.put, List.setIfInBounds_toArray, List.set_cons_zero, List.set_cons_succ]
                    refine wpAnyH_take (i := 29) (oi := ⟨some 132, .move (.tmp 9), _, _, _, _⟩) (v := ?_) rfl (by kernel_rfl) (by kernel_rfl) (by kernel_rfl) (fun _ _ _ h => h) (Or.inl ⟨by rfl, ?_⟩) (by assumption) ?_
                    rotate_left
                    · intro w' hSw
                      go_simp
                      try with_reducible rfl
                    try simp only [Act.put, List.setIfInBounds_toArray, List.set_cons_zero, List.set_cons_succ]
                    refine wpAnyH_ready (rs := [28]) (by kernel_rfl) (by simp) ?_
                    refine AllReadyH.cons (o := ⟨some 131, .call ⟨.value (.func 23), #[.tmp 130], #[31]⟩, _, _, _, _⟩) rfl (fun K hK => ?_) AllReadyH.nil
                    go_simp
                    with_reducible refine (HRC.out _ ?hx).mono ?_
                    case hx => exact hHeld
                    rintro _ w131 ⟨q3, m3, c3, rfl, ht3, hb131⟩
                    have hS131 : Below w13.heap.size w13 w131 := hHeld.trans (hb131.mono hHeld.size)
                    try go_wp2_with fail
                    refine hK.out _ _ hS131 (fun hHeld => ?_)
                    clear hK K
                    try simp only [Act.put, List.setIfInBounds_toArray, List.set_cons_zero, List.set_cons_succ]
                    refine wpAnyH_mono' (S' := fun w' => Below w13.heap.size w13 w' ∧ Texts w' q3 m3 c3 R') (fun _ h => h.1) _ _ _ _ ?_
                    have hHeld : Below w13.heap.size w13 w131 ∧ Texts w131 q3 m3 c3 R' := ⟨hS131, ht3⟩
                    clear hS131 ht3
                    refine wpAnyH_ready (rs := [30]) (by kernel_rfl) (by simp) ?_
                    refine AllReadyH.cons (o := ⟨some 133, .call ⟨.value (.func 22), #[.tmp 131, .tmp 132], #[35, 35]⟩, _, _, _, _⟩) rfl (fun K hK => ?_) AllReadyH.nil
                    go_simp
                    with_reducible refine (rsame_any R' R' q3 q9' m3 c3 m' c9' _ hHeld.2 (HTX.out _ hHeld.1) (by have := HRM'.out; have := hHeld.2.size; omega) (by have := HRM'.out; omega)).mono ?_
                    rintro _ w133 ⟨rfl, hb133⟩
                    rw [decide_eq_true (show R' = R' from rfl)]
                    have hS133 : Below w13.heap.size w13 w133 ∧ Texts w133 q3 m3 c3 R' := ⟨hHeld.1.trans (hb133.mono hHeld.1.size), hHeld.2.later hb133⟩
                    try go_wp2_with fail
                    refine hK.out _ _ hS133 (fun hHeld => ?_)
                    clear hK K
                    try simp only [Act.put, List.setIfInBounds_toArray, List.set_cons_zero, List.set_cons_succ]
                    refine wpAnyH_take (i := 31) (oi := ⟨some 134, .unOp .not 4 (.tmp 133), _, _, _, _⟩) (v := ?_) rfl (by kernel_rfl) (by kernel_rfl) (by kernel_rfl) (fun _ _ _ h => h) (Or.inl ⟨by rfl, ?_⟩) (by assumption) ?_
                    rotate_left
                    · intro w' hSw
                      go_simp
                      try with_reducible rfl
                    try simp only [Act.put, List.setIfInBounds_toArray, List.set_cons_zero, List.set_cons_succ]
                    refine wpAnyH_take (i := 32) (oi := ⟨some 135, .pick (.tmp 129) (.const (.bool true)) (.tmp 134), _, _, _, _⟩) (v := ?_) rfl (by kernel_rfl) (by kernel_rfl) (by kernel_rfl) (fun _ _ _ h => h) (Or.inl ⟨by rfl, ?_⟩) (by assumption) ?_
                    rotate_left
                    · intro w' hSw
                      go_simp
                      try with_reducible rfl
                    try simp only [Act.put, List.setIfInBounds_toArray, List.set_cons_zero, List.set_cons_succ]
                    refine wpAnyH_done (by kernel_rfl) ?_ _
                    try go_wp2_with fail
                    go_meet
                    exact ⟨rfl, hHeld.1⟩
                  case rest =>
                    obtain ⟨rfl, hbc⟩ := hcut
                    have V14 := Lib.hid (V13.out.later A hbc)
                    have TA14 := Lib.hid (TA13.out.later hbc)
                    clear hbc V13 TA13 TW13 TBW HFR HLE HLA HRL HRC HTX HQ9
                    generalize wc = w14 at *
                    by_cases hlt9 : nw < nb
                    · have l9 : (nb : Int) > (nw : Int) := by omega
                      have hl63 := HN63.out hlt9
                      have hL7 : s7.L.length = nb := TA14.out.size.symm
                      obtain ⟨gb, ob, rfl, hxb⟩ := TA14.out.bytes.ne (by intro e; rw [e] at hL7; simp at hL7; omega)
                      obtain ⟨z63, hz63⟩ : ∃ z, z = nw + 63 := ⟨_, rfl⟩
                      have q63 : IntKind.i64.wrap ((nw : Int) + 63) = (z63 : Int) := by rw [IntWalk.i64_in _ (by omega)]; omega
                      have i63 : (0 : Int) ≤ z63 ∧ (z63 : Int) < nb := by omega
                      have c63 := hxb z63 (by omega)
                      rw [show s7.L.getD z63 0 = 0 from by
                        rw [hz63, HNW.out, all_length]
                        exact HNX.out (by rw [← all_length, ← HNW.out, ← HNB.out]; exact hlt9)] at c63
                      clear hz63 hxb hL7
                      go_wp2_with fail
                      go_roundw
                      case rel => exact ⟨k + 1, P7, s7, Q7, R', m', by omega, by omega, by go_num, HN7.out, ⟨V14.out, W'.out.dead, W'.out.left, W'.out.good, W'.out.writes, W'.out.many, W'.out.next⟩⟩
                      case measure => simp [intOf]; omega
                    · have l9 : ¬ (nb : Int) > (nw : Int) := by omega
                      go_wp2_with fail
                      go_roundw
                      case rel => exact ⟨k + 1, P7, s7, Q7, R', m', by omega, by omega, by go_num, HN7.out, ⟨V14.out, W'.out.dead, W'.out.left, W'.out.good, W'.out.writes, W'.out.many, W'.out.next⟩⟩
                      case measure => simp [intOf]; omega
        · have l2 : ¬ (k : Int) < 30 := by omega
          go_wp2_with fail
          go_ret
          exact ⟨rfl, HW.out.dv.st.low⟩
      · have l1 : ¬ (k : Int) < n := by omega
        go_wp2_with fail
        go_ret
        exact ⟨rfl, HW.out.dv.st.low⟩
end Go.Proofs.Ytlkeobohcfbgcaa.Wl

/- Proved: whatever small number and steps it is handed, the Go function indenturelaw08.WalWrites returns true (without a death the bytes of the log on the disk are the document's, record by record, and each answer; what doesn't fit is refused, and nothing is written), and each argument reads afterwards as it read before. Conditions: none beyond the given row's own. -/
namespace Go.Proofs.Ytlkeobohcfbgcaa
open Go.ChangeShapes Go.WideShapes Go.ChangeAt Go.RowKit Go.Deep

set_option maxRecDepth 100000 in
theorem wlwrites_lifted (os : Os) (started : os.Started) (H : Type) (enc : TypeId × Value → H) :
    ReturnsInHanded {} Try.checked os 4 .any (Rows.walWritesSpec.pre6 enc Try.prog Try.f4 Rows.walWritesRow.domain false) (Rows.walWritesSpec.post enc Try.prog Try.f4 false true false false) := by
  refine returnsInHanded_of_change (C := Try.checked) gen_own started (by kernel_rfl) Try.func4
    (ChangeSpec.witness6 (enc := enc) (C := Try.checked) false ⟨#[], #[.int .u8 0, .slice none 0 0], []⟩ 8 (by kernel_rfl) (by kernel_rfl) (by kernel_rfl) (by kernel_rfl)) ?_
  intro W base args ds gs before hval0 hW _ _
  have hval : ∀ (j : Nat) t v, Try.f4.params[j]? = some t → args[j]? = some v → Value.okWide Try.prog W .any base t v := hval0
  have hW' := hW
  obtain ⟨p, q, hA0, hV, rfl, _, _⟩ := hW
  have hA : DataW.TrodAll enc Try.prog W 0 (fun _ => true) true Try.f4.params.toList args.toList ds p := hA0
  rw [Try.params4] at hA hval
  obtain ⟨v0, vs0, d0, ds0, p0, q0, hargs, rfl, rfl, h0, r0⟩ := trodAll_cons hA
  obtain ⟨v1, vs1, d1, ds1, p1, q1, rfl, rfl, rfl, h1, r1⟩ := trodAll_cons r0
  obtain ⟨rfl, rfl, rfl⟩ := trodAll_nil r1
  obtain rfl : args = #[v0, v1] := by cases args; simp_all
  obtain ⟨rfl, rfl⟩ := trodVars_none hV
  obtain ⟨n0, rfl, rfl, rfl, hn0⟩ := open_int Try.underlying5 (hval 0 5 v0 rfl rfl) h0
  obtain ⟨a1, len1, cap1, rfl⟩ := okWide_slice Try.underlying25 (hval 1 25 v1 rfl rfl)
  have k0 := h0
  have k1 := h1
  have lt1 : ∀ x ∈ p1, x.block < W.heap.size := by obtain ⟨m, hm⟩ := k1; exact DataW.trod_lt m _ _ _ hm
  have bn0 := bounds_u8 hn0
  obtain ⟨m0, rfl⟩ : ∃ m : Nat, n0 = m := ⟨n0.toNat, by omega⟩
  obtain ⟨⟨L1, hL1⟩, hl1⟩ : (∃ L, Wl.Steps W a1 len1 cap1 L) ∧ len1 ≤ 9223372036854775807 := by
    obtain ⟨fuel, hf⟩ := h1
    exact Wl.open_steps hf
  clear hA0 hval0
  refine (Wl.writes_any Wl.wapi m0 a1 len1 cap1 L1 W (by omega) hL1 hl1).mono fun e W' ⟨he, bel⟩ => ?_
  subst he
  exact ⟨_, rfl, _, _, _, [], _, [], hW', trodAll_mk1 (shut_bool Try.underlying4 _),
    (trodAll_cons_mk (Below.trod gen_laidOut (by kernel_rfl) (of_decide_eq_true (by kernel_rfl)) k0 bel (fun x hx => by cases hx)) (trodAll_cons_mk (Below.trod gen_laidOut (by kernel_rfl) (of_decide_eq_true (by kernel_rfl)) k1 bel lt1) trodAll_mk0)), rfl, bel.frame _, fun h => by cases h⟩
theorem wlwrites_holds : Rows.WalWritesSaid :=
  OpenClaim.holds_of_wide 4 Try.f4 rfl rfl rfl rfl rfl rfl rfl ⟨rfl, rfl, rfl, rfl, rfl⟩ rfl rfl rfl rfl rfl (by kernel_rfl) Try.func4 (by kernel_rfl)
    (of_decide_eq_true (by kernel_rfl)) (by unfold Func.isWrapper; first | (rw [if_pos (by decide +kernel)]; kernel_rfl) | (rw [if_neg (by decide +kernel)]; exact ⟨rfl, rfl⟩))
    (fun os started H enc _ => wlwrites_lifted os started H enc)
end Go.Proofs.Ytlkeobohcfbgcaa
