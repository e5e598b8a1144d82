/- ZpSkip, BoxRefG, ZpAliveH, ZpAlive, ZpBack. -/
import Derived.Test.YtbhpmigblkaihaaM5
import Derived.Deep.LoopGhost
/- The program: zrange.Skip. gen_skip.py writes it. -/
namespace Go.Proofs.Ytbhpmigblkaihaa.Zr
open Go.RowKit Go.Proofs.Ytbhpmigblkaihaa.Mo

set_option maxRecDepth 100000 in
set_option maxHeartbeats 1000000 in
theorem zskip_bad (L H : List Int) (p q1 q2 : Option Addr) (n cc n1 c1 n2 c2 : Nat) (w : World) (h1 : Ints w q1 n1 c1 L) (h2 : Ints w q2 n2 c2 H) (hn : n ≤ 1000000) (hr : ¬ (rightB L H n1 n2 n1 = true ∧ n = 8 * n1)) :
    Calls Try.prog 9 #[.slice p n cc, .agg #[.slice q1 n1 c1, .slice q2 n2 c2]] w fun e w' => e = .returned (.tuple #[.slice none 0 0, .bool false]) ∧ Below w.heap.size w w' := by
  have hb : Below w.heap.size w (w.alloc (.cells #[.slice q1 n1 c1, .slice q2 n2 c2] 26)) := (Below.refl _ _).alloc (Nat.le_refl _) _
  obtain ⟨e0, e1⟩ := pair_alloc w (.slice q1 n1 c1) (.slice q2 n2 c2) 26
  have H1 := Lib.hid (h1.later hb)
  have H2 := Lib.hid (h2.later hb)
  have HB := Lib.hid hb
  have HR := Lib.hid hr
  clear h1 h2 hb hr
  go_enter Try.func9, Try.ntmps9
  go_upto_region 1 with fail
  generalize w.alloc (.cells #[.slice q1 n1 c1, .slice q2 n2 c2] 26) = w1 at *
  go_wp2_with fail
  refine (zpoint_bad L H p q1 q2 n cc n1 c1 n2 c2 w1 H1.out H2.out hn HR.out).mono ?_
  rintro _ w2 ⟨rfl, hb2⟩
  have HB2 := Lib.hid (HB.out.trans (hb2.mono HB.out.size))
  clear hb2 e0 e1
  go_wp2_with fail
  go_ret2
  exact ⟨rfl, HB2.out⟩
set_option maxRecDepth 100000 in
set_option maxHeartbeats 4000000 in
theorem zskip_good (Q L H : List Int) (p q1 q2 : Option Addr) (d cc c1 c2 : Nat) (w : World) (hQ : Mm.inI Q) (lQ : Q.length = d) (h3 : Bytes w p (8 * d) cc (Mm.code Q)) (h1 : Ints w q1 d c1 L) (h2 : Ints w q2 d c2 H) (hr : rightB L H d d d = true) :
    Calls Try.prog 9 #[.slice p (8 * d : Nat) cc, .agg #[.slice q1 d c1, .slice q2 d c2]] w (FindPost w false L H Q) := by
  obtain ⟨hd1, hd8, -, -⟩ := rightB_dims hr
  have g1 : (1 : Nat) ≤ d := by omega
  have g8 : d ≤ 8 := by omega
  have lL := h1.size
  have hbx : BX L H := ⟨h1.ok, h2.ok, by rw [← h1.size]; exact h2.size.symm, by rw [← lL]; exact hr⟩
  have BXH := Lib.hid hbx
  have OKQ := Lib.hid hQ
  have LQ := Lib.hid lQ
  have LQL := Lib.hid (lQ.trans lL)
  have LL := Lib.hid lL
  have HR := Lib.hid hr
  have hs := bkh_start h1 h2
  have H3 := Lib.hid (h3.later ((Below.refl _ _).alloc (Nat.le_refl _) (.cells #[.slice q1 d c1, .slice q2 d c2] 26)) h3.lt)
  clear h1 h2 h3 hr hbx hQ lQ lL
  go_enter Try.func9, Try.ntmps9
  go_upto_region 1 with fail
  generalize w.alloc (.cells #[.slice q1 d c1, .slice q2 d c2] 26) = w1 at *
  have HS := Lib.hid hs
  obtain ⟨a0, a1⟩ := hs.cells
  clear hs
  go_wp2_with fail
  refine (zpoint_good (Mm.code Q) L H p q1 q2 d cc c1 c2 w1 H3.out HS.out.i1 HS.out.i2 HR.out).mono ?_
  rintro _ w2 ⟨q, c, rfl, hq, hb2⟩
  have hpc := Mm.point_code OKQ.out
  rw [LQ.out] at hpc
  rw [hpc] at hq
  have HQ := Lib.hid hq
  have HS2 := Lib.hid (HS.out.later hb2)
  clear hpc hq hb2 a0 a1 HS
  obtain ⟨a0, a1⟩ := HS2.out.cells
  go_wp2_with fail
  refine (ahead_any H Q q2 q d c2 c w2 HS2.out.i2 HQ.out g1 g8).mono ?_
  rintro e w2d ⟨rfl, j2, rfl⟩
  by_cases hc1 : Cm.cmpL (Mm.code H) (Mm.code Q) < 0
  · rw [decide_eq_true hc1]
    have HN := Lib.hid (none_from BXH.out OKQ.out LQL.out hc1)
    clear hc1
    go_wp2_with fail
    go_ret2
    exact ⟨false, _, rfl, Below.drewN HS2.out.low _, fun _ => ⟨rfl, HN.out⟩, fun h => by cases h⟩
  rw [decide_eq_false hc1]
  have HNEAR := Lib.hid (not_lt hc1)
  have HH := Lib.hid (show SkH w (w2.drewN j2) q d c Q q1 c1 q2 c2 L H from (⟨HS2.out.low, HS2.out.a, HS2.out.i1, HS2.out.i2, HQ.out⟩ : SkH w w2 q d c Q q1 c1 q2 c2 L H).later (Below.drewN (Below.refl _ _) _))
  clear hc1 a0 a1
  generalize w2.drewN j2 = w2d at *
  clear HS2 HQ
  go_wp2_with fail
  go_loopg [] (64 * d) (fun k wr => SkRel false w q d c Q L H k wr)
  case atStart => exact ⟨q1, c1, q2, c2, L, H, HH.out, BXH.out, LQL.out, fun X h => h, HNEAR.out, fun i hi => by have := LL.out; omega⟩
  case round =>
    obtain ⟨p1, e1, p2, e2, L', H', hk, hinv⟩ := hrel
    have HK := Lib.hid hk
    have HINV := Lib.hid hinv
    have RB := Lib.hid (show rightB L' H' d d d = true from by
      have := hinv.b.right
      rw [← hk.i1.size] at this
      exact this)
    clear hk hinv HH
    obtain ⟨a0, a1, -, -⟩ := HK.out.cells
    go_wp2_with fail
    refine (has_any p1 p2 q d e1 d e2 d c L' H' Q wr HK.out.i1 HK.out.i2 HK.out.iq).mono ?_
    rintro _ w3 ⟨rfl, hb3⟩
    have HK3 := Lib.hid (HK.out.later hb3)
    clear hb3 a0 a1
    cases hh : hasB L' H' Q d d d with
    | true =>
      have HIT := Lib.hid (HINV.out.hit Q (hit_self false OKQ.out ((hasB_in HK3.out.i1.size.symm LQ.out RB.out).1 hh)))
      clear hh
      go_wp2_with fail
      refine (zcodeof_any Q q d c w3 HK3.out.iq g1 g8).mono ?_
      rintro _ w9 ⟨g, rfl, -, hrow, hb9⟩
      have HROW := Lib.hid hrow
      have HB9 := Lib.hid (HK3.out.low.trans (hb9.mono HK3.out.low.size))
      clear hrow hb9
      go_wp2_with fail
      go_ret2
      exact find_told HIT.out LQ.out HROW.out HB9.out
    | false =>
      have HOUT := Lib.hid (show ¬ Zm.inB L' H' Q from fun h => by
        rw [(hasB_in HK3.out.i1.size.symm LQ.out RB.out).2 h] at hh
        cases hh)
      clear hh
      obtain ⟨a0, a1, -, -⟩ := HK3.out.cells
      go_wp2_with fail
      refine (ahead_any L' Q p1 q d e1 c w3 HK3.out.i1 HK3.out.iq g1 g8).mono ?_
      rintro e w4 ⟨rfl, j4, rfl⟩
      by_cases hc2 : Cm.cmpL (Mm.code L') (Mm.code Q) < 0
      case neg =>
        rw [decide_eq_false hc2]
        have HIT := Lib.hid (HINV.out.hit _ (show Hit false L' H' Q L' from first_lo HINV.out.b HINV.out.len hc2))
        have HK4 := Lib.hid (HK3.out.later (Below.drewN (Below.refl _ _) j4))
        clear hc2
        go_wp2_with fail
        refine (zcodeof_any L' p1 d e1 _ (HK4.out.i1) g1 g8).mono ?_
        rintro _ w9 ⟨g, rfl, -, hrow, hb9⟩
        have HROW := Lib.hid hrow
        have HB9 := Lib.hid (HK4.out.low.trans (hb9.mono HK4.out.low.size))
        clear hrow hb9
        go_wp2_with fail
        go_ret2
        exact find_told HIT.out LQ.out HROW.out HB9.out
      rw [decide_eq_true hc2]
      have HC2 := Lib.hid hc2
      have HK4 := Lib.hid (HK3.out.later (Below.drewN (Below.refl _ _) j4))
      clear hc2 a0 a1
      generalize w3.drewN j4 = w4 at *
      obtain ⟨a0, a1, -, -⟩ := HK4.out.cells
      go_wp2_with fail
      refine (zsplit_any L' H' p1 p2 d e1 e2 w4 HK4.out.i1 HK4.out.i2 RB.out).mono ?_
      rintro _ w5 ⟨ok, r1, r2, r3, r4, n1, s1, n2, s2, n3, s3, n4, s4, rfl, hb5, hno, hok⟩
      have HK5 := Lib.hid (HK4.out.later hb5)
      clear a0 a1
      cases ok with
      | false =>
        exfalso
        have hsame := Zm.bits_same HINV.out.b.l HINV.out.b.h HINV.out.b.len.symm (hno rfl).1
        have hq1 := HINV.out.near
        have hq2 := HC2.out
        simp only [Bool.false_eq_true, if_false] at hq1
        try rw [hsame] at hq1
        try rw [hsame] at hq2
        exact lt_not hq2 hq1
      | true =>
      obtain ⟨n, hn, ha, hne, i1, i2, i3, i4, -⟩ := hok rfl
      obtain rfl : d = n1 := by have := i1.size; rw [pLo_length, ← HK5.out.i1.size] at this; exact this.symm
      obtain rfl : d = n2 := by have := i2.size; rw [pHi_length, ← HK5.out.i1.size] at this; exact this.symm
      obtain rfl : d = n3 := by have := i3.size; rw [pLo_length, ← HK5.out.i1.size] at this; exact this.symm
      obtain rfl : d = n4 := by have := i4.size; rw [pHi_length, ← HK5.out.i1.size] at this; exact this.symm
      have HHV := Lib.hid (halves_of HINV.out.b hn ha hne)
      have HA := Lib.hid ha
      have HNE := Lib.hid hne
      have hw5 := sks_start HK5.out i1 i2 i3 i4
      clear hn ha hne i1 i2 i3 i4 hno hok hb5
      go_upto_region 8 with fail
      generalize (w5.alloc (.cells #[.slice r1 d s1, .slice r2 d s2] 26)).alloc (.cells #[.slice r3 d s3, .slice r4 d s4] 26) = w5a at *
      have HW5 := Lib.hid hw5
      obtain ⟨a0, a1, a2, a3⟩ := hw5.h.cells
      obtain ⟨b0, b1, b2, b3⟩ := hw5.cells
      have hw6 := HW5.out.put g1 HW5.out.i1 HW5.out.i2
      clear hw5
      go_upto_region 9 with fail
      generalize (w5a.setCell ⟨w.heap.size, 0, none⟩ _).setCell ⟨w.heap.size, 1, none⟩ _ = w6 at *
      have HW6 := Lib.hid hw6
      clear a0 a1 a2 a3 b0 b1 b2 b3 hw6
      obtain ⟨b0, b1, b2, b3⟩ := HW6.out.cells
      go_wp2_with fail
      refine (ahead_any (pHi L' H' L' n) Q r2 q d s2 c w6 HW6.out.i2 HW6.out.h.iq g1 g8).mono ?_
      rintro e w7 ⟨rfl, j7, rfl⟩
      have HW7 := Lib.hid (HW6.out.later (Below.drewN (Below.refl _ _) j7))
      clear b0 b1 b2 b3
      by_cases hc3 : Cm.cmpL (Mm.code (pHi L' H' L' n)) (Mm.code Q) < 0
      · rw [decide_eq_true hc3]
        obtain ⟨hlt, hinv⟩ := HINV.out.upper OKQ.out HHV.out HA.out HNE.out hc3
        have HI2 := Lib.hid hinv
        have HLT := Lib.hid hlt
        clear hc3 hinv hlt
        generalize w6.drewN j7 = w7 at *
        obtain ⟨a0, a1, a2, a3⟩ := HW7.out.h.cells
        obtain ⟨b0, b1, b2, b3⟩ := HW7.out.cells
        have HW8 := Lib.hid (HW7.out.put g1 HW7.out.i3 HW7.out.i4)
        go_wp2_with fail
        clear a0 a1 a2 a3 b0 b1 b2 b3
        go_roundg (64 * L'.length - (n + 1))
        case rel => exact ⟨_, _, _, _, _, _, HW8.out.h, HI2.out⟩
        case measure => exact HLT.out
      · rw [decide_eq_false hc3]
        obtain ⟨hlt, hinv⟩ := HINV.out.lower OKQ.out HHV.out HA.out HNE.out hc3
        have HI2 := Lib.hid hinv
        have HLT := Lib.hid hlt
        clear hc3 hinv hlt
        generalize w6.drewN j7 = w7 at *
        go_wp2_with fail
        go_roundg (64 * L'.length - (n + 1))
        case rel => exact ⟨_, _, _, _, _, _, HW7.out.h, HI2.out⟩
        case measure => exact HLT.out
end Go.Proofs.Ytbhpmigblkaihaa.Zr

/- indentureref04.Same. -/
namespace Go.Proofs.Ytbhpmigblkaihaa
open Go.RowKit

set_option maxRecDepth 100000 in
set_option maxHeartbeats 4000000 in
theorem refsame_any (p q r s : Option Addr) (n c m e k f l g : Nat) (R S T U : List Int) (w : World) (h1 : Ints w p n c R) (h2 : Ints w q m e S) (h3 : Ints w r k f T) (h4 : Ints w s l g U)
    (hn : n ≤ 9223372036854775807) (hm : m ≤ 9223372036854775807) :
    Calls Try.prog 19 #[.agg #[.slice p n c, .slice q m e], .agg #[.slice r k f, .slice s l g]] w fun e w' => e = .returned (.bool (decide (R = T ∧ S = U))) ∧ Below w.heap.size w w' := by
  have hb1 : Below w.heap.size w (w.alloc (.cells #[.slice p n c, .slice q m e] 26)) := (Below.refl _ _).alloc (Nat.le_refl _) _
  have hs1 : (w.alloc (.cells #[.slice p n c, .slice q m e] 26)).heap.size = w.heap.size + 1 := by simp
  obtain ⟨a0, a1⟩ := pair_alloc w (.slice p n c) (.slice q m e) 26
  go_enter Try.func19, Try.ntmps19
  go_upto_region 1 with fail
  generalize w.alloc (.cells #[.slice p n c, .slice q m e] 26) = w1 at *
  have hb2 : Below w1.heap.size w1 (w1.alloc (.cells #[.slice r k f, .slice s l g] 26)) := (Below.refl _ _).alloc (Nat.le_refl _) _
  obtain ⟨b0, b1⟩ := pair_alloc w1 (.slice r k f) (.slice s l g) 26
  rw [hs1] at b0 b1
  have c0 := (hb2.cell (p := ⟨w.heap.size, 0, none⟩) (by show w.heap.size < _; omega)).trans a0
  have c1 := (hb2.cell (p := ⟨w.heap.size, 1, none⟩) (by show w.heap.size < _; omega)).trans a1
  have H1 := Lib.hid ((h1.later hb1).later hb2)
  have H2 := Lib.hid ((h2.later hb1).later hb2)
  have H3 := Lib.hid ((h3.later hb1).later hb2)
  have H4 := Lib.hid ((h4.later hb1).later hb2)
  have HB := Lib.hid (hb1.trans (hb2.mono (by omega)))
  generalize w1.alloc (.cells #[.slice r k f, .slice s l g] 26) = w2 at *
  clear hb1 hs1 a0 a1 hb2 h1 h2 h3 h4
  clear w1
  by_cases hRT : R = T
  case neg =>
    have HN := Lib.hid (show ¬ (R = T ∧ S = U) from fun h => hRT h.1)
    have HR := Lib.hid hRT
    clear hRT
    go_wp2_with fail
    refine (samerow_any p r n c k f R T w2 H1.out H3.out hn).mono ?_
    rintro _ w3 ⟨rfl, j, rfl⟩
    rw [decide_eq_false HR.out]
    go_wp2_with fail
    go_ret
    exact ⟨ret_ndec HN.out, Below.drewN HB.out _⟩
  have HD := Lib.hid (show decide (S = U) = decide (R = T ∧ S = U) from decide_eq_decide.2 ⟨fun h => ⟨hRT, h⟩, fun h => h.2⟩)
  have HR := Lib.hid hRT
  clear hRT
  go_wp2_with fail
  refine (samerow_any p r n c k f R T w2 H1.out H3.out hn).mono ?_
  rintro _ w3 ⟨rfl, j, hw3⟩
  have HW := Lib.hid (show Below w2.heap.size w2 w3 by rw [hw3]; exact Below.drewN (Below.refl _ _) _)
  have d0 := (HW.out.cell (p := ⟨w.heap.size, 1, none⟩) (block_lt_of_cell c1)).trans c1
  have d1 := (HW.out.cell (p := ⟨w.heap.size + 1, 1, none⟩) (block_lt_of_cell b1)).trans b1
  have G2 := Lib.hid (H2.out.later HW.out)
  have G4 := Lib.hid (H4.out.later HW.out)
  have GB := Lib.hid (HB.out.trans (HW.out.mono HB.out.size))
  clear hw3 c0 c1 b0 b1
  rw [decide_eq_true HR.out]
  go_wp2_with fail
  refine (samerow_any q s m e l g S U w3 G2.out G4.out hm).mono ?_
  rintro _ w4 ⟨rfl, j2, hw4⟩
  have B4 := Lib.hid (show Below w.heap.size w w4 by rw [hw4]; exact Below.drewN GB.out _)
  clear hw4
  go_wp2_with fail
  go_ret
  exact ⟨congrArg (fun b => Ending.returned (.bool b)) HD.out, B4.out⟩
end Go.Proofs.Ytbhpmigblkaihaa

/- The chapter's examples of zrange: what they are, plainly; literals. -/
namespace Go.Proofs.Ytbhpmigblkaihaa.Zr
open Go.RowKit Go.Proofs.Ytbhpmigblkaihaa.Mo Zm Mm

theorem unique_first {L H : List Int} {m n : Nat} (h1 : ∀ i, i < m → cbit L i = cbit H i) (h2 : cbit L m ≠ cbit H m) (k1 : ∀ i, i < n → cbit L i = cbit H i) (k2 : cbit L n ≠ cbit H n) : m = n := by
  rcases Nat.lt_trichotomy m n with c | c | c
  · exact absurd (k1 m c) h2
  · exact c
  · exact absurd (h1 n c) k2
theorem ex_in {a b : Int} (ha : -9223372036854775808 ≤ a ∧ a ≤ 9223372036854775807) (hb : -9223372036854775808 ≤ b ∧ b ≤ 9223372036854775807) : inI [a, b] := fun x hx => by
  simp at hx
  rcases hx with rfl | rfl
  · exact ha
  · exact hb
theorem ex_bx : BX [0, 0] [1, 1] := ⟨ex_in (by omega) (by omega), ex_in (by omega) (by omega), rfl, by decide +kernel⟩
theorem ex_bx2 : BX [0, 0] [2, 0] := ⟨ex_in (by omega) (by omega), ex_in (by omega) (by omega), rfl, by decide +kernel⟩
theorem ex_split {n : Nat} (h1 : ∀ i, i < n → cbit [0, 0] i = cbit [1, 1] i) (h2 : cbit [0, 0] n ≠ cbit [1, 1] n) : pLo [0, 0] [0, 0] n = [0, 0] ∧ pHi [0, 0] [1, 1] [0, 0] n = [0, 1] ∧ pLo [0, 0] [1, 1] n = [1, 0] ∧ pHi [0, 0] [1, 1] [1, 1] n = [1, 1] := by
  have hu : ulk [0, 0] [1, 1] ([0, 0] : List Int).length = (0, 0 + 1) := by decide +kernel
  have w := way_of ex_bx.l ex_bx.h rfl hu
  have e := unique_first w.same w.ne h1 h2
  rw [← e]
  have c := cuts_of ex_bx w
  exact ⟨c.a1, c.a2, c.b1, c.b2⟩
theorem ex_not_same : ¬ ∀ i, i < 64 * ([0, 0] : List Int).length → cbit [0, 0] i = cbit [1, 1] i := fun h => by
  have := Zm.bits_same ex_bx.l ex_bx.h rfl h
  cases this
theorem ex_block : blockB [0, 0] [1, 1] 2 2 = true := by decide +kernel
theorem ex_noblock : blockB [0, 0] [2, 0] 2 2 = false := by decide +kernel
theorem ex_right : rightB [0, 0] [1, 1] 2 2 ((2 : Nat) : Int) = true := by decide +kernel
theorem ex_right2 : rightB [0, 0] [2, 0] 2 2 ((2 : Nat) : Int) = true := by decide +kernel
theorem ex_first : FirstIn [0, 0] [2, 0] [0, 1] [1, 0] := by
  refine ⟨rfl, ex_in (by omega) (by omega), ?_, by decide +kernel, fun Y lY hY hb hf => ?_⟩
  · intro k hk
    match k, hk with
    | 0, _ => exact ⟨by decide, by decide⟩
    | 1, _ => exact ⟨by decide, by decide⟩
  · match Y, lY with
    | [a, b], _ =>
      have h0 := hb 0 (by simp)
      have h1 := hb 1 (by simp)
      simp at h0 h1
      obtain rfl : b = 0 := by omega
      have ha : a = 0 ∨ 1 ≤ a := by omega
      rcases ha with rfl | ha
      · exact absurd hf (by decide +kernel)
      · refine code_mono (ex_in (by omega) (by omega)) hY rfl fun k hk => ?_
        match k, hk with
        | 0, _ => exact ha
        | 1, _ => exact Int.le_refl _
/-- A box that lies boxed. -/
structure BI (w : World) (g : Nat) (p q : Option Addr) (n c m e : Nat) (R S : List Int) : Prop where
  row : w.heap[g]? = some (.cells #[.slice p n c, .slice q m e] 26 (0, 0))
  i1 : Ints w p n c R
  i2 : Ints w q m e S
theorem BI.later {w w' : World} {g : Nat} {p q : Option Addr} {n c m e : Nat} {R S : List Int} (h : BI w g p q n c m e R S) (hb : Below w.heap.size w w') : BI w' g p q n c m e R S := ⟨(hb.block _ (Array.getElem?_eq_some_iff.1 h.row).1).trans h.row, h.i1.later hb, h.i2.later hb⟩
theorem BI.cells {w : World} {g : Nat} {p q : Option Addr} {n c m e : Nat} {R S : List Int} (h : BI w g p q n c m e R S) : w.cell? ⟨g, 0, none⟩ = some (.slice p n c) ∧ w.cell? ⟨g, 1, none⟩ = some (.slice q m e) := ⟨cell_of_row w g 0 _ _ _ h.row, cell_of_row w g 1 _ _ _ h.row⟩
theorem zlits (w : World) (a b c d : Int) (ha : -9223372036854775808 ≤ a ∧ a ≤ 9223372036854775807) (hb : -9223372036854775808 ≤ b ∧ b ≤ 9223372036854775807) (hc : -9223372036854775808 ≤ c ∧ c ≤ 9223372036854775807) (hd : -9223372036854775808 ≤ d ∧ d ≤ 9223372036854775807) :
    ∀ w', w' = (w.alloc (.cells #[.int .i64 a, .int .i64 b] 2)).alloc (.cells #[.int .i64 c, .int .i64 d] 2) →
    Ints w' (some ⟨w.heap.size, 0, none⟩) 2 2 [a, b] ∧ Ints w' (some ⟨w.heap.size + 1, 0, none⟩) 2 2 [c, d] ∧ Below w.heap.size w w' ∧ w'.heap.size = w.heap.size + 1 + 1 := by
  rintro w' rfl
  have h1 := lit2 w a b ha hb
  have hs : (w.alloc (.cells #[.int .i64 a, .int .i64 b] 2)).heap.size = w.heap.size + 1 := by simp
  have b1 : Below w.heap.size w (w.alloc (.cells #[.int .i64 a, .int .i64 b] 2)) := (Below.refl _ _).alloc (Nat.le_refl _) _
  generalize w.alloc (.cells #[.int .i64 a, .int .i64 b] 2) = w1 at *
  have h2 := lit2 w1 c d hc hd
  have b2 : Below w1.heap.size w1 (w1.alloc (.cells #[.int .i64 c, .int .i64 d] 2)) := (Below.refl _ _).alloc (Nat.le_refl _) _
  rw [hs] at h2
  exact ⟨h1.later b2, h2, b1.trans (b2.mono (by omega)), by simp; omega⟩
theorem zlitbox (w : World) (a b c d : Int) (ha : -9223372036854775808 ≤ a ∧ a ≤ 9223372036854775807) (hb : -9223372036854775808 ≤ b ∧ b ≤ 9223372036854775807) (hc : -9223372036854775808 ≤ c ∧ c ≤ 9223372036854775807) (hd : -9223372036854775808 ≤ d ∧ d ≤ 9223372036854775807) :
    ∀ w', w' = ((w.alloc (.cells #[.int .i64 a, .int .i64 b] 2)).alloc (.cells #[.int .i64 c, .int .i64 d] 2)).alloc (.cells #[.slice (some ⟨w.heap.size, 0, none⟩) 2 2, .slice (some ⟨w.heap.size + 1, 0, none⟩) 2 2] 26) →
    BI w' (w.heap.size + 1 + 1) (some ⟨w.heap.size, 0, none⟩) (some ⟨w.heap.size + 1, 0, none⟩) 2 2 2 2 [a, b] [c, d] ∧ Below w.heap.size w w' := by
  rintro w' rfl
  obtain ⟨h1, h2, h3, h4⟩ := zlits w a b c d ha hb hc hd _ rfl
  generalize (w.alloc (.cells #[.int .i64 a, .int .i64 b] 2)).alloc (.cells #[.int .i64 c, .int .i64 d] 2) = w1 at *
  have b1 : Below w1.heap.size w1 (w1.alloc (.cells #[.slice (some ⟨w.heap.size, 0, none⟩) 2 2, .slice (some ⟨w.heap.size + 1, 0, none⟩) 2 2] 26)) := (Below.refl _ _).alloc (Nat.le_refl _) _
  have h5 := heap_alloc_new w1 (.cells #[.slice (some ⟨w.heap.size, 0, none⟩) 2 2, .slice (some ⟨w.heap.size + 1, 0, none⟩) 2 2] 26 (0, 0))
  rw [h4] at h5
  exact ⟨⟨h5, h1.later b1, h2.later b1⟩, h3.trans (b1.mono (by omega))⟩
/-- A box that is asked whether it is another one of the same numbers. -/
theorem zsame {w0 w : World} (hW : Below w0.heap.size w0 w) {p q r s : Option Addr} {c e f g : Nat} {R S : List Int} (h1 : Ints w p 2 c R) (h2 : Ints w q 2 e S) (h3 : Ints w r 2 f R) (h4 : Ints w s 2 g S) :
    Calls Try.prog 19 #[.agg #[.slice p 2 c, .slice q 2 e], .agg #[.slice r 2 f, .slice s 2 g]] w fun e w' => e = .returned (.bool true) ∧ Below w0.heap.size w0 w' := by
  have := refsame_any p q r s 2 c 2 e 2 f 2 g R S R S w h1 h2 h3 h4 (by omega) (by omega)
  rw [decide_eq_true ⟨rfl, rfl⟩] at this
  exact this.mono fun e w' h => ⟨h.1, hW.trans (h.2.mono hW.size)⟩
/-- What is asked of the worlds may grow on the way. -/
theorem wpAnyH_mono {P : Program} {md : Region.Mode} {ops : Array Oper} {Q : Exit → Act → World → Prop} {S S' : World → Prop} (h : ∀ w, S' w → S w) : ∀ (fuel : Nat) (listed : Array Bool) (a : Act) (w : World), wpAnyH P md ops Q S' fuel listed a w → wpAnyH P md ops Q S fuel listed a w
  | 0, _, _, _, k => k
  | fuel + 1, _, _, _, k => ⟨k.1, fun i hi => wpOp_mono (fun a' w' h' => ⟨h _ h'.1, wpAnyH_mono h fuel _ a' w' h'.2⟩) (k.2 i hi)⟩
/-- The code of a point of two literals. -/
theorem code_lit {w0 w : World} (hW : Below w0.heap.size w0 w) {p : Option Addr} {c : Nat} {a b : Int} (h : Ints w p 2 c [a, b]) :
    Calls Try.prog 14 #[.slice p 2 c] w fun e w' => ∃ q c, e = .returned (.slice q 16 c) ∧ Bytes w' q 16 c (Mm.code [a, b]) ∧ Below w0.heap.size w0 w' := by
  refine (refcode_any [a, b] p 2 c w h (by omega)).mono ?_
  rintro e w' ⟨q, c, rfl, hq, hb⟩
  exact ⟨q, c, rfl, hq, hW.trans (hb.mono hW.size)⟩
theorem skip_lit {w0 w : World} (hW : Below w0.heap.size w0 w) {q q1 q2 : Option Addr} {cc c1 c2 : Nat} (h3 : Bytes w q 16 cc (Mm.code [0, 1])) (h1 : Ints w q1 2 c1 [0, 0]) (h2 : Ints w q2 2 c2 [2, 0]) :
    Calls Try.prog 9 #[.slice q 16 cc, .agg #[.slice q1 2 c1, .slice q2 2 c2]] w fun e w' => ∃ q c, e = .returned (.tuple #[.slice q 16 c, .bool true]) ∧ Bytes w' q 16 c (Mm.code [1, 0]) ∧ Below w0.heap.size w0 w' := by
  refine (zskip_good [0, 1] [0, 0] [2, 0] q q1 q2 2 cc c1 c2 w (ex_in (by omega) (by omega)) rfl h3 h1 h2 ex_right2).mono ?_
  rintro e w' ⟨ok, v, rfl, hb, hno, hok⟩
  cases ok with
  | false => exact absurd ex_first.from' ((hno rfl).2 [1, 0] rfl ex_first.ok ex_first.box)
  | true =>
    obtain ⟨X, q, c, hx, rfl, hq⟩ := hok rfl
    have := FirstIn.unique hx ex_first
    subst this
    exact ⟨q, c, rfl, hq, hW.trans (hb.mono hW.size)⟩
end Go.Proofs.Ytbhpmigblkaihaa.Zr

/- The chapter's examples stand: indenturelaw06.alive. gen_alive.py writes it. -/
namespace Go.Proofs.Ytbhpmigblkaihaa.Zr
open Go.RowKit Go.Proofs.Ytbhpmigblkaihaa.Mo

set_option maxRecDepth 100000 in
set_option maxHeartbeats 4000000 in
theorem zalive_any (w : World) :
    Calls Try.prog 8 #[] w fun e w' => e = .returned (.bool true) ∧ Below w.heap.size w w' := by
  go_enter Try.func8, Try.ntmps8
  go_upto_region 2 with fail
  obtain ⟨w1, hw1⟩ : ∃ w1, w1 = ((w.alloc (.cells #[.int .i64 0, .int .i64 0] 2)).alloc (.cells #[.int .i64 1, .int .i64 1] 2)).alloc (.cells #[.slice (some ⟨w.heap.size, 0, none⟩) 2 2, .slice (some ⟨w.heap.size + 1, 0, none⟩) 2 2] 26) := ⟨_, rfl⟩
  obtain ⟨h1, b1⟩ := zlitbox w 0 0 1 1 (by omega) (by omega) (by omega) (by omega) w1 hw1
  rw [← hw1]
  clear hw1
  have HA := Lib.hid h1
  have BB1 := Lib.hid b1
  clear h1 b1
  generalize w.heap.size + 1 + 1 = gb at *
  obtain ⟨pb, hpb⟩ : ∃ pb, pb = (some ⟨w.heap.size, 0, none⟩ : Option Addr) := ⟨_, rfl⟩
  obtain ⟨qb, hqb⟩ : ∃ qb, qb = (some ⟨w.heap.size + 1, 0, none⟩ : Option Addr) := ⟨_, rfl⟩
  rw [← hpb, ← hqb] at HA ⊢
  clear hpb hqb
  go_upto_region 3 with fail
  obtain ⟨w2, hw2⟩ : ∃ w2, w2 = ((w1.alloc (.cells #[.int .i64 0, .int .i64 0] 2)).alloc (.cells #[.int .i64 2, .int .i64 0] 2)).alloc (.cells #[.slice (some ⟨w1.heap.size, 0, none⟩) 2 2, .slice (some ⟨w1.heap.size + 1, 0, none⟩) 2 2] 26) := ⟨_, rfl⟩
  obtain ⟨h2, b2⟩ := zlitbox w1 0 0 2 0 (by omega) (by omega) (by omega) (by omega) w2 hw2
  rw [← hw2]
  clear hw2
  have HA2 := Lib.hid (HA.out.later b2)
  have HC2 := Lib.hid h2
  have BB2 := Lib.hid (BB1.out.trans (b2.mono BB1.out.size))
  clear h2 b2 HA BB1
  generalize w1.heap.size + 1 + 1 = gc at *
  obtain ⟨pc, hpc⟩ : ∃ pc, pc = (some ⟨w1.heap.size, 0, none⟩ : Option Addr) := ⟨_, rfl⟩
  obtain ⟨qc, hqc⟩ : ∃ qc, qc = (some ⟨w1.heap.size + 1, 0, none⟩ : Option Addr) := ⟨_, rfl⟩
  rw [← hpc, ← hqc] at HC2 ⊢
  clear hpc hqc
  clear w1
  obtain ⟨x0, x1⟩ := HA2.out.cells
  go_wp2_with fail
  refine (zsplit_any [0, 0] [1, 1] pb qb 2 2 2 w2 HA2.out.i1 HA2.out.i2 ex_right).mono ?_
  rintro _ w3 ⟨ok, p1, p2, p3, p4, n1, s1, n2, s2, n3, s3, n4, s4, rfl, hb3, hno, hok⟩
  cases ok with
  | false => exact absurd (hno rfl).1 ex_not_same
  | true =>
  obtain ⟨n, -, ha, hne, i1, i2, i3, i4, -⟩ := hok rfl
  obtain ⟨e1, e2, e3, e4⟩ := ex_split ha hne
  rw [e1] at i1
  rw [e2] at i2
  rw [e3] at i3
  rw [e4] at i4
  obtain rfl : n1 = 2 := i1.size
  obtain rfl : n2 = 2 := i2.size
  obtain rfl : n3 = 2 := i3.size
  obtain rfl : n4 = 2 := i4.size
  have HA3 := Lib.hid (HA2.out.later hb3)
  have HC3 := Lib.hid (HC2.out.later hb3)
  have BB3 := Lib.hid (BB2.out.trans (hb3.mono BB2.out.size))
  have J1 := Lib.hid i1
  have J2 := Lib.hid i2
  have J3 := Lib.hid i3
  have J4 := Lib.hid i4
  clear hb3 hno hok ha hne i1 i2 i3 i4 e1 e2 e3 e4 x0 x1 HA2 HC2 BB2 n
  clear w2
  go_upto_region 4 with fail
  have r1 := heap_alloc_new w3 (.cells #[.slice p1 2 s1, .slice p2 2 s2] 26 (0, 0))
  have b1 : Below w3.heap.size w3 (w3.alloc (.cells #[.slice p1 2 s1, .slice p2 2 s2] 26)) := (Below.refl _ _).alloc (Nat.le_refl _) _
  have z1 : (w3.alloc (.cells #[.slice p1 2 s1, .slice p2 2 s2] 26)).heap.size = w3.heap.size + 1 := by simp
  generalize w3.alloc (.cells #[.slice p1 2 s1, .slice p2 2 s2] 26) = wm at *
  have r2 := heap_alloc_new wm (.cells #[.slice p3 2 s3, .slice p4 2 s4] 26 (0, 0))
  have b2 : Below wm.heap.size wm (wm.alloc (.cells #[.slice p3 2 s3, .slice p4 2 s4] 26)) := (Below.refl _ _).alloc (Nat.le_refl _) _
  generalize wm.alloc (.cells #[.slice p3 2 s3, .slice p4 2 s4] 26) = w4 at *
  rw [z1] at r2
  have r3 := (b2.block _ (by omega)).trans r1
  have b3 := b1.trans (b2.mono b1.size)
  have HX4 := Lib.hid (show BI w4 w3.heap.size p1 p2 2 s1 2 s2 [0, 0] [0, 1] from ⟨r3, J1.out.later b3, J2.out.later b3⟩)
  have HY4 := Lib.hid (show BI w4 (w3.heap.size + 1) p3 p4 2 s3 2 s4 [1, 0] [1, 1] from ⟨r2, J3.out.later b3, J4.out.later b3⟩)
  have HA4 := Lib.hid (HA3.out.later b3)
  have HC4 := Lib.hid (HC3.out.later b3)
  have BB4 := Lib.hid (BB3.out.trans (b3.mono BB3.out.size))
  clear r1 r2 r3 b1 b2 b3 z1 J1 J2 J3 J4 HA3 HC3 BB3 wm
  generalize w3.heap.size + 1 = gy at *
  generalize w3.heap.size = gx at *
  clear w3
  have HF := Lib.hid (show ∀ w', Below w4.heap.size w4 w' → (Below w4.heap.size w4 w' ∧ w'.cell? ⟨gc, 0, none⟩ = some (.slice pc 2 2) ∧ w'.cell? ⟨gc, 1, none⟩ = some (.slice qc 2 2)) from fun w' hb => ⟨hb, (HC4.out.later hb).cells⟩)
  go_region_held3 (fun w' => Below w4.heap.size w4 w' ∧ w'.cell? ⟨gc, 0, none⟩ = some (.slice pc 2 2) ∧ w'.cell? ⟨gc, 1, none⟩ = some (.slice qc 2 2)) (first | assumption | exact HF.out _ (Below.refl _ _).drew | exact HF.out _ ((Below.refl _ _).drew.alloc (Nat.le_refl _) _)) ((first
    | (go_at_call 9; refine (skip_lit hb5 hq5 (HC4.out.later hb5).i1 (HC4.out.later hb5).i2).mono ?_; rintro _ w6 ⟨qz, cz, rfl, hqz, hb6⟩; have k6 := HF.out _ hb6)
    | (go_at_call 14; refine (code_lit (w0 := w4) (a := 0) (b := 1) ?hx ((lit2 w4 0 1 (by omega) (by omega)).later (Below.refl _ _).drew)).mono ?_; (case hx => exact ((Below.refl _ _).alloc (Nat.le_refl _) _).drew); rintro _ w5 ⟨q5, c5, rfl, hq5, hb5⟩; have k5 := HF.out _ hb5)))
  have HZ := Lib.hid hqz.tx
  have HA6 := Lib.hid (HA4.out.later hb6)
  have HC6 := Lib.hid (HC4.out.later hb6)
  have HX6 := Lib.hid (HX4.out.later hb6)
  have HY6 := Lib.hid (HY4.out.later hb6)
  have BB6 := Lib.hid (BB4.out.trans (hb6.mono BB4.out.size))
  clear hqz hb5 hb6 k5 k6 hq5 HF HA4 HC4 HX4 HY4 BB4
  have HG := Lib.hid (show ∀ w', Below w6.heap.size w6 w' → (Below w6.heap.size w6 w' ∧ w'.cell? ⟨gb, 0, none⟩ = some (.slice pb 2 2) ∧ w'.cell? ⟨gb, 1, none⟩ = some (.slice qb 2 2) ∧ w'.cell? ⟨gc, 0, none⟩ = some (.slice pc 2 2) ∧ w'.cell? ⟨gc, 1, none⟩ = some (.slice qc 2 2) ∧ w'.cell? ⟨gx, 0, none⟩ = some (.slice p1 2 s1) ∧ w'.cell? ⟨gx, 1, none⟩ = some (.slice p2 2 s2) ∧ w'.cell? ⟨gy, 0, none⟩ = some (.slice p3 2 s3) ∧ w'.cell? ⟨gy, 1, none⟩ = some (.slice p4 2 s4) ∧ (convert 22 9 (.slice qz 16 cz)).run Try.prog w' = .ok (.string (strOf (Mm.code [1, 0]))) w') from fun w' hb => by
    obtain ⟨a0, a1⟩ := (HA6.out.later hb).cells
    obtain ⟨c0, c1⟩ := (HC6.out.later hb).cells
    obtain ⟨x0, x1⟩ := (HX6.out.later hb).cells
    obtain ⟨y0, y1⟩ := (HY6.out.later hb).cells
    exact ⟨hb, a0, a1, c0, c1, x0, x1, y0, y1, convert_tx (HZ.out.later hb)⟩)
  have HK1 := Lib.hid (show ∀ w', Below w6.heap.size w6 w' → Calls Try.prog 20 #[.agg #[.slice pb 2 2, .slice qb 2 2]] w' fun e w'' => e = .returned (.bool true) ∧ Below w6.heap.size w6 w'' from fun w' hb => (zblock_any [0, 0] [1, 1] pb qb 2 2 2 2 w' (HA6.out.later hb).i1 (HA6.out.later hb).i2).mono fun e w'' h => ⟨by rw [h.1, ex_block], hb.trans (h.2.mono hb.size)⟩)
  have HK2 := Lib.hid (show ∀ w', Below w6.heap.size w6 w' → Calls Try.prog 20 #[.agg #[.slice pc 2 2, .slice qc 2 2]] w' fun e w'' => e = .returned (.bool false) ∧ Below w6.heap.size w6 w'' from fun w' hb => (zblock_any [0, 0] [2, 0] pc qc 2 2 2 2 w' (HC6.out.later hb).i1 (HC6.out.later hb).i2).mono fun e w'' h => ⟨by rw [h.1, ex_noblock], hb.trans (h.2.mono hb.size)⟩)
  go_upto_region 5 with fail
  refine wp_region_held_drew (S := fun w' => Below w6.heap.size w6 w') (by kernel_rfl) (Below.refl _ _).drew (fun hHeld => ?_)
  refine wpAnyH_take (i := 0) (oi := ⟨some 27, .load 26 (.tmp 1), _, _, _, _⟩) (v := ?_) rfl (by kernel_rfl) (by kernel_rfl) (by kernel_rfl) (fun _ _ _ h => h) (Or.inl ⟨by rfl, ?_⟩) (by assumption) ?_
  rotate_left
  · intro w' hSw
    obtain ⟨-, a0, a1, b0, b1, c0, c1, d0, d1, -⟩ := HG.out _ hSw
    go_simp
    try with_reducible rfl
  try simp only [Act.put, List.setIfInBounds_toArray, List.set_cons_zero, List.set_cons_succ]
  refine wpAnyH_ready (rs := [1]) (by kernel_rfl) (by simp) ?_
  refine AllReadyH.cons (o := ⟨some 28, .call ⟨.value (.func 20), #[.tmp 27], #[26]⟩, _, _, _, _⟩) rfl (fun K hK => ?_) AllReadyH.nil
  go_simp
  with_reducible refine (HK1.out _ ?hx).mono ?_
  case hx => exact hHeld
  rintro _ w28 ⟨rfl, hS28⟩
  try go_wp2_with fail
  refine hK.out _ _ hS28 (fun hHeld => ?_)
  clear hK K
  try simp only [Act.put, List.setIfInBounds_toArray, List.set_cons_zero, List.set_cons_succ]
  refine wpAnyH_take (i := 2) (oi := ⟨some 29, .move (.tmp 28), _, _, _, _⟩) (v := ?_) rfl (by kernel_rfl) (by kernel_rfl) (by kernel_rfl) (fun _ _ _ h => h) (Or.inl ⟨by rfl, ?_⟩) (by assumption) ?_
  rotate_left
  · intro w' hSw
    go_simp
    try with_reducible rfl
  try simp only [Act.put, List.setIfInBounds_toArray, List.set_cons_zero, List.set_cons_succ]
  refine wpAnyH_take (i := 3) (oi := ⟨some 30, .load 26 (.tmp 2), _, _, _, _⟩) (v := ?_) rfl (by kernel_rfl) (by kernel_rfl) (by kernel_rfl) (fun _ _ _ h => h) (Or.inl ⟨by rfl, ?_⟩) (by assumption) ?_
  rotate_left
  · intro w' hSw
    obtain ⟨-, a0, a1, b0, b1, c0, c1, d0, d1, -⟩ := HG.out _ hSw
    go_simp
    try with_reducible rfl
  try simp only [Act.put, List.setIfInBounds_toArray, List.set_cons_zero, List.set_cons_succ]
  refine wpAnyH_ready (rs := [4]) (by kernel_rfl) (by simp) ?_
  refine AllReadyH.cons (o := ⟨some 31, .call ⟨.value (.func 20), #[.tmp 30], #[26]⟩, _, _, _, _⟩) rfl (fun K hK => ?_) AllReadyH.nil
  go_simp
  with_reducible refine (HK2.out _ ?hx).mono ?_
  case hx => exact hHeld
  rintro _ w31 ⟨rfl, hS31⟩
  try go_wp2_with fail
  refine hK.out _ _ hS31 (fun hHeld => ?_)
  clear hK K
  try simp only [Act.put, List.setIfInBounds_toArray, List.set_cons_zero, List.set_cons_succ]
  refine wpAnyH_take (i := 5) (oi := ⟨some 32, .unOp .not 4 (.tmp 31), _, _, _, _⟩) (v := ?_) rfl (by kernel_rfl) (by kernel_rfl) (by kernel_rfl) (fun _ _ _ h => h) (Or.inl ⟨by rfl, ?_⟩) (by assumption) ?_
  rotate_left
  · intro w' hSw
    go_simp
    try with_reducible rfl
  try simp only [Act.put, List.setIfInBounds_toArray, List.set_cons_zero, List.set_cons_succ]
  refine wpAnyH_take (i := 6) (oi := ⟨some 33, .pick (.tmp 29) (.tmp 32) (.const (.bool false)), _, _, _, _⟩) (v := ?_) rfl (by kernel_rfl) (by kernel_rfl) (by kernel_rfl) (fun _ _ _ h => h) (Or.inl ⟨by rfl, ?_⟩) (by assumption) ?_
  rotate_left
  · intro w' hSw
    go_simp
    try with_reducible rfl
  try simp only [Act.put, List.setIfInBounds_toArray, List.set_cons_zero, List.set_cons_succ]
  refine wpAnyH_take (i := 7) (oi := ⟨some 34, .move (.tmp 33), _, _, _, _⟩) (v := ?_) rfl (by kernel_rfl) (by kernel_rfl) (by kernel_rfl) (fun _ _ _ h => h) (Or.inl ⟨by rfl, ?_⟩) (by assumption) ?_
  rotate_left
  · intro w' hSw
    go_simp
    try with_reducible rfl
  try simp only [Act.put, List.setIfInBounds_toArray, List.set_cons_zero, List.set_cons_succ]
  refine wpAnyH_take (i := 8) (oi := ⟨some 35, .move (.tmp 5), _, _, _, _⟩) (v := ?_) rfl (by kernel_rfl) (by kernel_rfl) (by kernel_rfl) (fun _ _ _ h => h) (Or.inl ⟨by rfl, ?_⟩) (by assumption) ?_
  rotate_left
  · intro w' hSw
    go_simp
    try with_reducible rfl
  try simp only [Act.put, List.setIfInBounds_toArray, List.set_cons_zero, List.set_cons_succ]
  refine wpAnyH_take (i := 9) (oi := ⟨some 36, .pick (.tmp 34) (.tmp 35) (.const (.bool false)), _, _, _, _⟩) (v := ?_) rfl (by kernel_rfl) (by kernel_rfl) (by kernel_rfl) (fun _ _ _ h => h) (Or.inl ⟨by rfl, ?_⟩) (by assumption) ?_
  rotate_left
  · intro w' hSw
    go_simp
    try with_reducible rfl
  try simp only [Act.put, List.setIfInBounds_toArray, List.set_cons_zero, List.set_cons_succ]
  refine wpAnyH_take (i := 10) (oi := ⟨some 37, .move (.tmp 36), _, _, _, _⟩) (v := ?_) rfl (by kernel_rfl) (by kernel_rfl) (by kernel_rfl) (fun _ _ _ h => h) (Or.inl ⟨by rfl, ?_⟩) (by assumption) ?_
  rotate_left
  · intro w' hSw
    go_simp
    try with_reducible rfl
  try simp only [Act.put, List.setIfInBounds_toArray, List.set_cons_zero, List.set_cons_succ]
  refine wpAnyH_take (i := 11) (oi := ⟨some 38, .load 26 (.tmp 3), _, _, _, _⟩) (v := ?_) rfl (by kernel_rfl) (by kernel_rfl) (by kernel_rfl) (fun _ _ _ h => h) (Or.inl ⟨by rfl, ?_⟩) (by assumption) ?_
  rotate_left
  · intro w' hSw
    obtain ⟨-, a0, a1, b0, b1, c0, c1, d0, d1, -⟩ := HG.out _ hSw
    go_simp
    try with_reducible rfl
  try simp only [Act.put, List.setIfInBounds_toArray, List.set_cons_zero, List.set_cons_succ]
  refine wpAnyH_ready (rs := [12, 13]) (by kernel_rfl) (by simp) ?_
  refine AllReadyH.cons (o := ⟨some 39, .buildSlice 24 2 #[(0, (.const (.int .i64 0))), (1, (.const (.int .i64 0)))], _, _, _, _⟩) rfl (fun K hK => ?_) (AllReadyH.cons (o := ⟨some 40, .buildSlice 24 2 #[(0, (.const (.int .i64 0))), (1, (.const (.int .i64 1)))], _, _, _, _⟩) rfl (fun K hK => ?_) AllReadyH.nil)
  ·
    go_simp
    have hal39 : Below w31.heap.size w31 (w31.alloc (.cells #[.int .i64 0, .int .i64 0] 2)) := (Below.refl _ _).alloc (Nat.le_refl _) _
    have hS39 : Below w6.heap.size w6 (w31.alloc (.cells #[.int .i64 0, .int .i64 0] 2)) := hHeld.alloc hHeld.size _
    have hlit39 := lit2 w31 0 0 (by omega) (by omega)
    generalize w31.alloc (.cells #[.int .i64 0, .int .i64 0] 2) = w39 at *
    try go_wp2_with fail
    refine hK.out _ _ hS39 (fun hHeld => ?_)
    clear hK K
    try simp only [Act.put, List.setIfInBounds_toArray, List.set_cons_zero, List.set_cons_succ]
    refine wpAnyH_ready (rs := [13]) (by kernel_rfl) (by simp) ?_
    refine AllReadyH.cons (o := ⟨some 40, .buildSlice 24 2 #[(0, (.const (.int .i64 0))), (1, (.const (.int .i64 1)))], _, _, _, _⟩) rfl (fun K hK => ?_) AllReadyH.nil
    go_simp
    have hal40 : Below w39.heap.size w39 (w39.alloc (.cells #[.int .i64 0, .int .i64 1] 2)) := (Below.refl _ _).alloc (Nat.le_refl _) _
    have hS40 : Below w6.heap.size w6 (w39.alloc (.cells #[.int .i64 0, .int .i64 1] 2)) := hHeld.alloc hHeld.size _
    have hlit40 := lit2 w39 0 1 (by omega) (by omega)
    generalize w39.alloc (.cells #[.int .i64 0, .int .i64 1] 2) = w40 at *
    try go_wp2_with fail
    refine hK.out _ _ hS40 (fun hHeld => ?_)
    clear hK K
    try simp only [Act.put, List.setIfInBounds_toArray, List.set_cons_zero, List.set_cons_succ]
    refine wpAnyH_take (i := 14) (oi := ⟨some 41, .build 26 #[(0, (.tmp 39)), (1, (.tmp 40))], _, _, _, _⟩) (v := ?_) rfl (by kernel_rfl) (by kernel_rfl) (by kernel_rfl) (fun _ _ _ h => h) (Or.inl ⟨by rfl, ?_⟩) (by assumption) ?_
    rotate_left
    · intro w' hSw
      go_simp
      try with_reducible rfl
    try simp only [Act.put, List.setIfInBounds_toArray, List.set_cons_zero, List.set_cons_succ]
    refine wpAnyH_ready (rs := [15]) (by kernel_rfl) (by simp) ?_
    refine AllReadyH.cons (o := ⟨some 42, .call ⟨.value (.func 19), #[.tmp 38, .tmp 41], #[26, 26]⟩, _, _, _, _⟩) rfl (fun K hK => ?_) AllReadyH.nil
    go_simp
    with_reducible refine (zsame (w0 := w6) hHeld (HX6.out.later hHeld).i1 (HX6.out.later hHeld).i2 (hlit39.later hal40) hlit40).mono ?_
    rintro _ w42 ⟨rfl, hS42⟩
    try go_wp2_with fail
    refine hK.out _ _ hS42 (fun hHeld => ?_)
    clear hK K
    try simp only [Act.put, List.setIfInBounds_toArray, List.set_cons_zero, List.set_cons_succ]
    refine wpAnyH_take (i := 16) (oi := ⟨some 43, .pick (.tmp 37) (.tmp 42) (.const (.bool false)), _, _, _, _⟩) (v := ?_) rfl (by kernel_rfl) (by kernel_rfl) (by kernel_rfl) (fun _ _ _ h => h) (Or.inl ⟨by rfl, ?_⟩) (by assumption) ?_
    rotate_left
    · intro w' hSw
      go_simp
      try with_reducible rfl
    try simp only [Act.put, List.setIfInBounds_toArray, List.set_cons_zero, List.set_cons_succ]
    refine wpAnyH_take (i := 17) (oi := ⟨some 44, .move (.tmp 43), _, _, _, _⟩) (v := ?_) rfl (by kernel_rfl) (by kernel_rfl) (by kernel_rfl) (fun _ _ _ h => h) (Or.inl ⟨by rfl, ?_⟩) (by assumption) ?_
    rotate_left
    · intro w' hSw
      go_simp
      try with_reducible rfl
    try simp only [Act.put, List.setIfInBounds_toArray, List.set_cons_zero, List.set_cons_succ]
    refine wpAnyH_take (i := 18) (oi := ⟨some 45, .load 26 (.tmp 4), _, _, _, _⟩) (v := ?_) rfl (by kernel_rfl) (by kernel_rfl) (by kernel_rfl) (fun _ _ _ h => h) (Or.inl ⟨by rfl, ?_⟩) (by assumption) ?_
    rotate_left
    · intro w' hSw
      obtain ⟨-, a0, a1, b0, b1, c0, c1, d0, d1, -⟩ := HG.out _ hSw
      go_simp
      try with_reducible rfl
    try simp only [Act.put, List.setIfInBounds_toArray, List.set_cons_zero, List.set_cons_succ]
    refine wpAnyH_ready (rs := [19, 20]) (by kernel_rfl) (by simp) ?_
    refine AllReadyH.cons (o := ⟨some 46, .buildSlice 24 2 #[(0, (.const (.int .i64 1))), (1, (.const (.int .i64 0)))], _, _, _, _⟩) rfl (fun K hK => ?_) (AllReadyH.cons (o := ⟨some 47, .buildSlice 24 2 #[(0, (.const (.int .i64 1))), (1, (.const (.int .i64 1)))], _, _, _, _⟩) rfl (fun K hK => ?_) AllReadyH.nil)
    ·
      go_simp
      have hal46 : Below w42.heap.size w42 (w42.alloc (.cells #[.int .i64 1, .int .i64 0] 2)) := (Below.refl _ _).alloc (Nat.le_refl _) _
      have hS46 : Below w6.heap.size w6 (w42.alloc (.cells #[.int .i64 1, .int .i64 0] 2)) := hHeld.alloc hHeld.size _
      have hlit46 := lit2 w42 1 0 (by omega) (by omega)
      generalize w42.alloc (.cells #[.int .i64 1, .int .i64 0] 2) = w46 at *
      try go_wp2_with fail
      refine hK.out _ _ hS46 (fun hHeld => ?_)
      clear hK K
      try simp only [Act.put, List.setIfInBounds_toArray, List.set_cons_zero, List.set_cons_succ]
      refine wpAnyH_ready (rs := [20]) (by kernel_rfl) (by simp) ?_
      refine AllReadyH.cons (o := ⟨some 47, .buildSlice 24 2 #[(0, (.const (.int .i64 1))), (1, (.const (.int .i64 1)))], _, _, _, _⟩) rfl (fun K hK => ?_) AllReadyH.nil
      go_simp
      have hal47 : Below w46.heap.size w46 (w46.alloc (.cells #[.int .i64 1, .int .i64 1] 2)) := (Below.refl _ _).alloc (Nat.le_refl _) _
      have hS47 : Below w6.heap.size w6 (w46.alloc (.cells #[.int .i64 1, .int .i64 1] 2)) := hHeld.alloc hHeld.size _
      have hlit47 := lit2 w46 1 1 (by omega) (by omega)
      generalize w46.alloc (.cells #[.int .i64 1, .int .i64 1] 2) = w47 at *
      try go_wp2_with fail
      refine hK.out _ _ hS47 (fun hHeld => ?_)
      clear hK K
      try simp only [Act.put, List.setIfInBounds_toArray, List.set_cons_zero, List.set_cons_succ]
      refine wpAnyH_take (i := 21) (oi := ⟨some 48, .build 26 #[(0, (.tmp 46)), (1, (.tmp 47))], _, _, _, _⟩) (v := ?_) rfl (by kernel_rfl) (by kernel_rfl) (by kernel_rfl) (fun _ _ _ h => h) (Or.inl ⟨by rfl, ?_⟩) (by assumption) ?_
      rotate_left
      · intro w' hSw
        go_simp
        try with_reducible rfl
      try simp only [Act.put, List.setIfInBounds_toArray, List.set_cons_zero, List.set_cons_succ]
      refine wpAnyH_ready (rs := [22]) (by kernel_rfl) (by simp) ?_
      refine AllReadyH.cons (o := ⟨some 49, .call ⟨.value (.func 19), #[.tmp 45, .tmp 48], #[26, 26]⟩, _, _, _, _⟩) rfl (fun K hK => ?_) AllReadyH.nil
      go_simp
      with_reducible refine (zsame (w0 := w6) hHeld (HY6.out.later hHeld).i1 (HY6.out.later hHeld).i2 (hlit46.later hal47) hlit47).mono ?_
      rintro _ w49 ⟨rfl, hS49⟩
      try go_wp2_with fail
      refine hK.out _ _ hS49 (fun hHeld => ?_)
      clear hK K
      try simp only [Act.put, List.setIfInBounds_toArray, List.set_cons_zero, List.set_cons_succ]
      refine wpAnyH_take (i := 23) (oi := ⟨some 50, .pick (.tmp 44) (.tmp 49) (.const (.bool false)), _, _, _, _⟩) (v := ?_) rfl (by kernel_rfl) (by kernel_rfl) (by kernel_rfl) (fun _ _ _ h => h) (Or.inl ⟨by rfl, ?_⟩) (by assumption) ?_
      rotate_left
      · intro w' hSw
        go_simp
        try with_reducible rfl
      try simp only [Act.put, List.setIfInBounds_toArray, List.set_cons_zero, List.set_cons_succ]
      refine wpAnyH_take (i := 24) (oi := ⟨some 51, .move (.tmp 50), _, _, _, _⟩) (v := ?_) rfl (by kernel_rfl) (by kernel_rfl) (by kernel_rfl) (fun _ _ _ h => h) (Or.inl ⟨by rfl, ?_⟩) (by assumption) ?_
      rotate_left
      · intro w' hSw
        go_simp
        try with_reducible rfl
      try simp only [Act.put, List.setIfInBounds_toArray, List.set_cons_zero, List.set_cons_succ]
      refine wpAnyH_take (i := 25) (oi := ⟨some 52, .move (.tmp 7), _, _, _, _⟩) (v := ?_) rfl (by kernel_rfl) (by kernel_rfl) (by kernel_rfl) (fun _ _ _ h => h) (Or.inl ⟨by rfl, ?_⟩) (by assumption) ?_
      rotate_left
      · intro w' hSw
        go_simp
        try with_reducible rfl
      try simp only [Act.put, List.setIfInBounds_toArray, List.set_cons_zero, List.set_cons_succ]
      refine wpAnyH_take (i := 26) (oi := ⟨some 53, .pick (.tmp 51) (.tmp 52) (.const (.bool false)), _, _, _, _⟩) (v := ?_) rfl (by kernel_rfl) (by kernel_rfl) (by kernel_rfl) (fun _ _ _ h => h) (Or.inl ⟨by rfl, ?_⟩) (by assumption) ?_
      rotate_left
      · intro w' hSw
        go_simp
        try with_reducible rfl
      try simp only [Act.put, List.setIfInBounds_toArray, List.set_cons_zero, List.set_cons_succ]
      refine wpAnyH_take (i := 27) (oi := ⟨some 54, .move (.tmp 53), _, _, _, _⟩) (v := ?_) rfl (by kernel_rfl) (by kernel_rfl) (by kernel_rfl) (fun _ _ _ h => h) (Or.inl ⟨by rfl, ?_⟩) (by assumption) ?_
      rotate_left
      · intro w' hSw
        go_simp
        try with_reducible rfl
      try simp only [Act.put, List.setIfInBounds_toArray, List.set_cons_zero, List.set_cons_succ]
      refine wpAnyH_take (i := 28) (oi := ⟨some 55, .move (.tmp 6), _, _, _, _⟩) (v := ?_) rfl (by kernel_rfl) (by kernel_rfl) (by kernel_rfl) (fun _ _ _ h => h) (Or.inl ⟨by rfl, ?_⟩) (by assumption) ?_
      rotate_left
      · intro w' hSw
        go_simp
        try with_reducible rfl
      try simp only [Act.put, List.setIfInBounds_toArray, List.set_cons_zero, List.set_cons_succ]
      refine wpAnyH_take (i := 29) (oi := ⟨some 56, .convert 22 9 (.tmp 55), _, _, _, _⟩) (v := ?_) rfl (by kernel_rfl) (by kernel_rfl) (by kernel_rfl) (fun _ _ _ h => h) (Or.inl ⟨by rfl, ?_⟩) (by assumption) ?_
      rotate_left
      · intro w' hSw
        obtain ⟨-, -, -, -, -, -, -, -, -, hcv⟩ := HG.out _ hSw
        go_simp
        try with_reducible rfl
      try simp only [Act.put, List.setIfInBounds_toArray, List.set_cons_zero, List.set_cons_succ]
      refine wpAnyH_ready (rs := [30]) (by kernel_rfl) (by simp) ?_
      refine AllReadyH.cons (o := ⟨some 57, .buildSlice 24 2 #[(0, (.const (.int .i64 1))), (1, (.const (.int .i64 0)))], _, _, _, _⟩) rfl (fun K hK => ?_) AllReadyH.nil
      go_simp
      have hal57 : Below w49.heap.size w49 (w49.alloc (.cells #[.int .i64 1, .int .i64 0] 2)) := (Below.refl _ _).alloc (Nat.le_refl _) _
      have hS57 : Below w6.heap.size w6 (w49.alloc (.cells #[.int .i64 1, .int .i64 0] 2)) := hHeld.alloc hHeld.size _
      have hlit57 := lit2 w49 1 0 (by omega) (by omega)
      generalize w49.alloc (.cells #[.int .i64 1, .int .i64 0] 2) = w57 at *
      try go_wp2_with fail
      refine hK.out _ _ hS57 (fun hHeld => ?_)
      clear hK K
      try simp only [Act.put, List.setIfInBounds_toArray, List.set_cons_zero, List.set_cons_succ]
      refine wpAnyH_ready (rs := [31]) (by kernel_rfl) (by simp) ?_
      refine AllReadyH.cons (o := ⟨some 58, .call ⟨.value (.func 14), #[.tmp 57], #[24]⟩, _, _, _, _⟩) rfl (fun K hK => ?_) AllReadyH.nil
      go_simp
      with_reducible refine (code_lit (w0 := w6) hHeld hlit57).mono ?_
      rintro _ w58 ⟨q11, c11, rfl, hq11, hS58⟩
      try go_wp2_with fail
      refine hK.out _ _ hS58 (fun hHeld => ?_)
      clear hK K
      try simp only [Act.put, List.setIfInBounds_toArray, List.set_cons_zero, List.set_cons_succ]
      refine wpAnyH_mono (S' := fun w' => Below w6.heap.size w6 w' ∧ Tx w' q11 16 c11 (Mm.code [1, 0])) (fun _ h => h.1) _ _ _ _ ?_
      have hHeld2 : Below w6.heap.size w6 w58 ∧ Tx w58 q11 16 c11 (Mm.code [1, 0]) := ⟨hS58, hq11.tx⟩
      refine wpAnyH_take (i := 32) (oi := ⟨some 59, .convert 22 9 (.tmp 58), _, _, _, _⟩) (v := ?_) rfl (by kernel_rfl) (by kernel_rfl) (by kernel_rfl) (fun _ _ _ h => h) (Or.inl ⟨by rfl, ?_⟩) (by assumption) ?_
      rotate_left
      · intro w' hSw
        have hcv := convert_tx hSw.2
        go_simp
        try with_reducible rfl
      try simp only [Act.put, List.setIfInBounds_toArray, List.set_cons_zero, List.set_cons_succ]
      refine wpAnyH_take (i := 33) (oi := ⟨some 60, .binOp .eql 9 (.tmp 56) (.tmp 59) 9, _, _, _, _⟩) (v := ?_) rfl (by kernel_rfl) (by kernel_rfl) (by kernel_rfl) (fun _ _ _ h => h) (Or.inl ⟨by rfl, ?_⟩) (by assumption) ?_
      rotate_left
      · intro w' hSw
        go_simp
        try with_reducible rfl
      try simp only [Act.put, List.setIfInBounds_toArray, List.set_cons_zero, List.set_cons_succ]
      refine wpAnyH_take (i := 34) (oi := ⟨some 61, .pick (.tmp 54) (.tmp 60) (.const (.bool false)), _, _, _, _⟩) (v := ?_) rfl (by kernel_rfl) (by kernel_rfl) (by kernel_rfl) (fun _ _ _ h => h) (Or.inl ⟨by rfl, ?_⟩) (by assumption) ?_
      rotate_left
      · intro w' hSw
        go_simp
        try with_reducible rfl
      try simp only [Act.put, List.setIfInBounds_toArray, List.set_cons_zero, List.set_cons_succ]
      refine wpAnyH_take (i := 35) (oi := ⟨some 0, .assign (.tmp 61), _, _, _, _⟩) (v := ?_) rfl (by kernel_rfl) (by kernel_rfl) (by kernel_rfl) (fun _ _ _ h => h) (Or.inl ⟨by rfl, ?_⟩) (by assumption) ?_
      rotate_left
      · intro w' hSw
        go_simp
        try with_reducible rfl
      try simp only [Act.put, List.setIfInBounds_toArray, List.set_cons_zero]
      refine wpAnyH_done (by kernel_rfl) ?_ _
      go_wp2_with fail
      go_ret
      exact ⟨by simp, BB6.out.trans (hS58.mono BB6.out.size)⟩
    ·
      go_simp
      have hal47 : Below w42.heap.size w42 (w42.alloc (.cells #[.int .i64 1, .int .i64 1] 2)) := (Below.refl _ _).alloc (Nat.le_refl _) _
      have hS47 : Below w6.heap.size w6 (w42.alloc (.cells #[.int .i64 1, .int .i64 1] 2)) := hHeld.alloc hHeld.size _
      have hlit47 := lit2 w42 1 1 (by omega) (by omega)
      generalize w42.alloc (.cells #[.int .i64 1, .int .i64 1] 2) = w47 at *
      try go_wp2_with fail
      refine hK.out _ _ hS47 (fun hHeld => ?_)
      clear hK K
      try simp only [Act.put, List.setIfInBounds_toArray, List.set_cons_zero, List.set_cons_succ]
      refine wpAnyH_ready (rs := [19]) (by kernel_rfl) (by simp) ?_
      refine AllReadyH.cons (o := ⟨some 46, .buildSlice 24 2 #[(0, (.const (.int .i64 1))), (1, (.const (.int .i64 0)))], _, _, _, _⟩) rfl (fun K hK => ?_) AllReadyH.nil
      go_simp
      have hal46 : Below w47.heap.size w47 (w47.alloc (.cells #[.int .i64 1, .int .i64 0] 2)) := (Below.refl _ _).alloc (Nat.le_refl _) _
      have hS46 : Below w6.heap.size w6 (w47.alloc (.cells #[.int .i64 1, .int .i64 0] 2)) := hHeld.alloc hHeld.size _
      have hlit46 := lit2 w47 1 0 (by omega) (by omega)
      generalize w47.alloc (.cells #[.int .i64 1, .int .i64 0] 2) = w46 at *
      try go_wp2_with fail
      refine hK.out _ _ hS46 (fun hHeld => ?_)
      clear hK K
      try simp only [Act.put, List.setIfInBounds_toArray, List.set_cons_zero, List.set_cons_succ]
      refine wpAnyH_take (i := 21) (oi := ⟨some 48, .build 26 #[(0, (.tmp 46)), (1, (.tmp 47))], _, _, _, _⟩) (v := ?_) rfl (by kernel_rfl) (by kernel_rfl) (by kernel_rfl) (fun _ _ _ h => h) (Or.inl ⟨by rfl, ?_⟩) (by assumption) ?_
      rotate_left
      · intro w' hSw
        go_simp
        try with_reducible rfl
      try simp only [Act.put, List.setIfInBounds_toArray, List.set_cons_zero, List.set_cons_succ]
      refine wpAnyH_ready (rs := [22]) (by kernel_rfl) (by simp) ?_
      refine AllReadyH.cons (o := ⟨some 49, .call ⟨.value (.func 19), #[.tmp 45, .tmp 48], #[26, 26]⟩, _, _, _, _⟩) rfl (fun K hK => ?_) AllReadyH.nil
      go_simp
      with_reducible refine (zsame (w0 := w6) hHeld (HY6.out.later hHeld).i1 (HY6.out.later hHeld).i2 hlit46 (hlit47.later hal46)).mono ?_
      rintro _ w49 ⟨rfl, hS49⟩
      try go_wp2_with fail
      refine hK.out _ _ hS49 (fun hHeld => ?_)
      clear hK K
      try simp only [Act.put, List.setIfInBounds_toArray, List.set_cons_zero, List.set_cons_succ]
      refine wpAnyH_take (i := 23) (oi := ⟨some 50, .pick (.tmp 44) (.tmp 49) (.const (.bool false)), _, _, _, _⟩) (v := ?_) rfl (by kernel_rfl) (by kernel_rfl) (by kernel_rfl) (fun _ _ _ h => h) (Or.inl ⟨by rfl, ?_⟩) (by assumption) ?_
      rotate_left
      · intro w' hSw
        go_simp
        try with_reducible rfl
      try simp only [Act.put, List.setIfInBounds_toArray, List.set_cons_zero, List.set_cons_succ]
      refine wpAnyH_take (i := 24) (oi := ⟨some 51, .move (.tmp 50), _, _, _, _⟩) (v := ?_) rfl (by kernel_rfl) (by kernel_rfl) (by kernel_rfl) (fun _ _ _ h => h) (Or.inl ⟨by rfl, ?_⟩) (by assumption) ?_
      rotate_left
      · intro w' hSw
        go_simp
        try with_reducible rfl
      try simp only [Act.put, List.setIfInBounds_toArray, List.set_cons_zero, List.set_cons_succ]
      refine wpAnyH_take (i := 25) (oi := ⟨some 52, .move (.tmp 7), _, _, _, _⟩) (v := ?_) rfl (by kernel_rfl) (by kernel_rfl) (by kernel_rfl) (fun _ _ _ h => h) (Or.inl ⟨by rfl, ?_⟩) (by assumption) ?_
      rotate_left
      · intro w' hSw
        go_simp
        try with_reducible rfl
      try simp only [Act.put, List.setIfInBounds_toArray, List.set_cons_zero, List.set_cons_succ]
      refine wpAnyH_take (i := 26) (oi := ⟨some 53, .pick (.tmp 51) (.tmp 52) (.const (.bool false)), _, _, _, _⟩) (v := ?_) rfl (by kernel_rfl) (by kernel_rfl) (by kernel_rfl) (fun _ _ _ h => h) (Or.inl ⟨by rfl, ?_⟩) (by assumption) ?_
      rotate_left
      · intro w' hSw
        go_simp
        try with_reducible rfl
      try simp only [Act.put, List.setIfInBounds_toArray, List.set_cons_zero, List.set_cons_succ]
      refine wpAnyH_take (i := 27) (oi := ⟨some 54, .move (.tmp 53), _, _, _, _⟩) (v := ?_) rfl (by kernel_rfl) (by kernel_rfl) (by kernel_rfl) (fun _ _ _ h => h) (Or.inl ⟨by rfl, ?_⟩) (by assumption) ?_
      rotate_left
      · intro w' hSw
        go_simp
        try with_reducible rfl
      try simp only [Act.put, List.setIfInBounds_toArray, List.set_cons_zero, List.set_cons_succ]
      refine wpAnyH_take (i := 28) (oi := ⟨some 55, .move (.tmp 6), _, _, _, _⟩) (v := ?_) rfl (by kernel_rfl) (by kernel_rfl) (by kernel_rfl) (fun _ _ _ h => h) (Or.inl ⟨by rfl, ?_⟩) (by assumption) ?_
      rotate_left
      · intro w' hSw
        go_simp
        try with_reducible rfl
      try simp only [Act.put, List.setIfInBounds_toArray, List.set_cons_zero, List.set_cons_succ]
      refine wpAnyH_take (i := 29) (oi := ⟨some 56, .convert 22 9 (.tmp 55), _, _, _, _⟩) (v := ?_) rfl (by kernel_rfl) (by kernel_rfl) (by kernel_rfl) (fun _ _ _ h => h) (Or.inl ⟨by rfl, ?_⟩) (by assumption) ?_
      rotate_left
      · intro w' hSw
        obtain ⟨-, -, -, -, -, -, -, -, -, hcv⟩ := HG.out _ hSw
        go_simp
        try with_reducible rfl
      try simp only [Act.put, List.setIfInBounds_toArray, List.set_cons_zero, List.set_cons_succ]
      refine wpAnyH_ready (rs := [30]) (by kernel_rfl) (by simp) ?_
      refine AllReadyH.cons (o := ⟨some 57, .buildSlice 24 2 #[(0, (.const (.int .i64 1))), (1, (.const (.int .i64 0)))], _, _, _, _⟩) rfl (fun K hK => ?_) AllReadyH.nil
      go_simp
      have hal57 : Below w49.heap.size w49 (w49.alloc (.cells #[.int .i64 1, .int .i64 0] 2)) := (Below.refl _ _).alloc (Nat.le_refl _) _
      have hS57 : Below w6.heap.size w6 (w49.alloc (.cells #[.int .i64 1, .int .i64 0] 2)) := hHeld.alloc hHeld.size _
      have hlit57 := lit2 w49 1 0 (by omega) (by omega)
      generalize w49.alloc (.cells #[.int .i64 1, .int .i64 0] 2) = w57 at *
      try go_wp2_with fail
      refine hK.out _ _ hS57 (fun hHeld => ?_)
      clear hK K
      try simp only [Act.put, List.setIfInBounds_toArray, List.set_cons_zero, List.set_cons_succ]
      refine wpAnyH_ready (rs := [31]) (by kernel_rfl) (by simp) ?_
      refine AllReadyH.cons (o := ⟨some 58, .call ⟨.value (.func 14), #[.tmp 57], #[24]⟩, _, _, _, _⟩) rfl (fun K hK => ?_) AllReadyH.nil
      go_simp
      with_reducible refine (code_lit (w0 := w6) hHeld hlit57).mono ?_
      rintro _ w58 ⟨q11, c11, rfl, hq11, hS58⟩
      try go_wp2_with fail
      refine hK.out _ _ hS58 (fun hHeld => ?_)
      clear hK K
      try simp only [Act.put, List.setIfInBounds_toArray, List.set_cons_zero, List.set_cons_succ]
      refine wpAnyH_mono (S' := fun w' => Below w6.heap.size w6 w' ∧ Tx w' q11 16 c11 (Mm.code [1, 0])) (fun _ h => h.1) _ _ _ _ ?_
      have hHeld2 : Below w6.heap.size w6 w58 ∧ Tx w58 q11 16 c11 (Mm.code [1, 0]) := ⟨hS58, hq11.tx⟩
      refine wpAnyH_take (i := 32) (oi := ⟨some 59, .convert 22 9 (.tmp 58), _, _, _, _⟩) (v := ?_) rfl (by kernel_rfl) (by kernel_rfl) (by kernel_rfl) (fun _ _ _ h => h) (Or.inl ⟨by rfl, ?_⟩) (by assumption) ?_
      rotate_left
      · intro w' hSw
        have hcv := convert_tx hSw.2
        go_simp
        try with_reducible rfl
      try simp only [Act.put, List.setIfInBounds_toArray, List.set_cons_zero, List.set_cons_succ]
      refine wpAnyH_take (i := 33) (oi := ⟨some 60, .binOp .eql 9 (.tmp 56) (.tmp 59) 9, _, _, _, _⟩) (v := ?_) rfl (by kernel_rfl) (by kernel_rfl) (by kernel_rfl) (fun _ _ _ h => h) (Or.inl ⟨by rfl, ?_⟩) (by assumption) ?_
      rotate_left
      · intro w' hSw
        go_simp
        try with_reducible rfl
      try simp only [Act.put, List.setIfInBounds_toArray, List.set_cons_zero, List.set_cons_succ]
      refine wpAnyH_take (i := 34) (oi := ⟨some 61, .pick (.tmp 54) (.tmp 60) (.const (.bool false)), _, _, _, _⟩) (v := ?_) rfl (by kernel_rfl) (by kernel_rfl) (by kernel_rfl) (fun _ _ _ h => h) (Or.inl ⟨by rfl, ?_⟩) (by assumption) ?_
      rotate_left
      · intro w' hSw
        go_simp
        try with_reducible rfl
      try simp only [Act.put, List.setIfInBounds_toArray, List.set_cons_zero, List.set_cons_succ]
      refine wpAnyH_take (i := 35) (oi := ⟨some 0, .assign (.tmp 61), _, _, _, _⟩) (v := ?_) rfl (by kernel_rfl) (by kernel_rfl) (by kernel_rfl) (fun _ _ _ h => h) (Or.inl ⟨by rfl, ?_⟩) (by assumption) ?_
      rotate_left
      · intro w' hSw
        go_simp
        try with_reducible rfl
      try simp only [Act.put, List.setIfInBounds_toArray, List.set_cons_zero]
      refine wpAnyH_done (by kernel_rfl) ?_ _
      go_wp2_with fail
      go_ret
      exact ⟨by simp, BB6.out.trans (hS58.mono BB6.out.size)⟩
  ·
    go_simp
    have hal40 : Below w31.heap.size w31 (w31.alloc (.cells #[.int .i64 0, .int .i64 1] 2)) := (Below.refl _ _).alloc (Nat.le_refl _) _
    have hS40 : Below w6.heap.size w6 (w31.alloc (.cells #[.int .i64 0, .int .i64 1] 2)) := hHeld.alloc hHeld.size _
    have hlit40 := lit2 w31 0 1 (by omega) (by omega)
    generalize w31.alloc (.cells #[.int .i64 0, .int .i64 1] 2) = w40 at *
    try go_wp2_with fail
    refine hK.out _ _ hS40 (fun hHeld => ?_)
    clear hK K
    try simp only [Act.put, List.setIfInBounds_toArray, List.set_cons_zero, List.set_cons_succ]
    refine wpAnyH_ready (rs := [12]) (by kernel_rfl) (by simp) ?_
    refine AllReadyH.cons (o := ⟨some 39, .buildSlice 24 2 #[(0, (.const (.int .i64 0))), (1, (.const (.int .i64 0)))], _, _, _, _⟩) rfl (fun K hK => ?_) AllReadyH.nil
    go_simp
    have hal39 : Below w40.heap.size w40 (w40.alloc (.cells #[.int .i64 0, .int .i64 0] 2)) := (Below.refl _ _).alloc (Nat.le_refl _) _
    have hS39 : Below w6.heap.size w6 (w40.alloc (.cells #[.int .i64 0, .int .i64 0] 2)) := hHeld.alloc hHeld.size _
    have hlit39 := lit2 w40 0 0 (by omega) (by omega)
    generalize w40.alloc (.cells #[.int .i64 0, .int .i64 0] 2) = w39 at *
    try go_wp2_with fail
    refine hK.out _ _ hS39 (fun hHeld => ?_)
    clear hK K
    try simp only [Act.put, List.setIfInBounds_toArray, List.set_cons_zero, List.set_cons_succ]
    refine wpAnyH_take (i := 14) (oi := ⟨some 41, .build 26 #[(0, (.tmp 39)), (1, (.tmp 40))], _, _, _, _⟩) (v := ?_) rfl (by kernel_rfl) (by kernel_rfl) (by kernel_rfl) (fun _ _ _ h => h) (Or.inl ⟨by rfl, ?_⟩) (by assumption) ?_
    rotate_left
    · intro w' hSw
      go_simp
      try with_reducible rfl
    try simp only [Act.put, List.setIfInBounds_toArray, List.set_cons_zero, List.set_cons_succ]
    refine wpAnyH_ready (rs := [15]) (by kernel_rfl) (by simp) ?_
    refine AllReadyH.cons (o := ⟨some 42, .call ⟨.value (.func 19), #[.tmp 38, .tmp 41], #[26, 26]⟩, _, _, _, _⟩) rfl (fun K hK => ?_) AllReadyH.nil
    go_simp
    with_reducible refine (zsame (w0 := w6) hHeld (HX6.out.later hHeld).i1 (HX6.out.later hHeld).i2 hlit39 (hlit40.later hal39)).mono ?_
    rintro _ w42 ⟨rfl, hS42⟩
    try go_wp2_with fail
    refine hK.out _ _ hS42 (fun hHeld => ?_)
    clear hK K
    try simp only [Act.put, List.setIfInBounds_toArray, List.set_cons_zero, List.set_cons_succ]
    refine wpAnyH_take (i := 16) (oi := ⟨some 43, .pick (.tmp 37) (.tmp 42) (.const (.bool false)), _, _, _, _⟩) (v := ?_) rfl (by kernel_rfl) (by kernel_rfl) (by kernel_rfl) (fun _ _ _ h => h) (Or.inl ⟨by rfl, ?_⟩) (by assumption) ?_
    rotate_left
    · intro w' hSw
      go_simp
      try with_reducible rfl
    try simp only [Act.put, List.setIfInBounds_toArray, List.set_cons_zero, List.set_cons_succ]
    refine wpAnyH_take (i := 17) (oi := ⟨some 44, .move (.tmp 43), _, _, _, _⟩) (v := ?_) rfl (by kernel_rfl) (by kernel_rfl) (by kernel_rfl) (fun _ _ _ h => h) (Or.inl ⟨by rfl, ?_⟩) (by assumption) ?_
    rotate_left
    · intro w' hSw
      go_simp
      try with_reducible rfl
    try simp only [Act.put, List.setIfInBounds_toArray, List.set_cons_zero, List.set_cons_succ]
    refine wpAnyH_take (i := 18) (oi := ⟨some 45, .load 26 (.tmp 4), _, _, _, _⟩) (v := ?_) rfl (by kernel_rfl) (by kernel_rfl) (by kernel_rfl) (fun _ _ _ h => h) (Or.inl ⟨by rfl, ?_⟩) (by assumption) ?_
    rotate_left
    · intro w' hSw
      obtain ⟨-, a0, a1, b0, b1, c0, c1, d0, d1, -⟩ := HG.out _ hSw
      go_simp
      try with_reducible rfl
    try simp only [Act.put, List.setIfInBounds_toArray, List.set_cons_zero, List.set_cons_succ]
    refine wpAnyH_ready (rs := [19, 20]) (by kernel_rfl) (by simp) ?_
    refine AllReadyH.cons (o := ⟨some 46, .buildSlice 24 2 #[(0, (.const (.int .i64 1))), (1, (.const (.int .i64 0)))], _, _, _, _⟩) rfl (fun K hK => ?_) (AllReadyH.cons (o := ⟨some 47, .buildSlice 24 2 #[(0, (.const (.int .i64 1))), (1, (.const (.int .i64 1)))], _, _, _, _⟩) rfl (fun K hK => ?_) AllReadyH.nil)
    ·
      go_simp
      have hal46 : Below w42.heap.size w42 (w42.alloc (.cells #[.int .i64 1, .int .i64 0] 2)) := (Below.refl _ _).alloc (Nat.le_refl _) _
      have hS46 : Below w6.heap.size w6 (w42.alloc (.cells #[.int .i64 1, .int .i64 0] 2)) := hHeld.alloc hHeld.size _
      have hlit46 := lit2 w42 1 0 (by omega) (by omega)
      generalize w42.alloc (.cells #[.int .i64 1, .int .i64 0] 2) = w46 at *
      try go_wp2_with fail
      refine hK.out _ _ hS46 (fun hHeld => ?_)
      clear hK K
      try simp only [Act.put, List.setIfInBounds_toArray, List.set_cons_zero, List.set_cons_succ]
      refine wpAnyH_ready (rs := [20]) (by kernel_rfl) (by simp) ?_
      refine AllReadyH.cons (o := ⟨some 47, .buildSlice 24 2 #[(0, (.const (.int .i64 1))), (1, (.const (.int .i64 1)))], _, _, _, _⟩) rfl (fun K hK => ?_) AllReadyH.nil
      go_simp
      have hal47 : Below w46.heap.size w46 (w46.alloc (.cells #[.int .i64 1, .int .i64 1] 2)) := (Below.refl _ _).alloc (Nat.le_refl _) _
      have hS47 : Below w6.heap.size w6 (w46.alloc (.cells #[.int .i64 1, .int .i64 1] 2)) := hHeld.alloc hHeld.size _
      have hlit47 := lit2 w46 1 1 (by omega) (by omega)
      generalize w46.alloc (.cells #[.int .i64 1, .int .i64 1] 2) = w47 at *
      try go_wp2_with fail
      refine hK.out _ _ hS47 (fun hHeld => ?_)
      clear hK K
      try simp only [Act.put, List.setIfInBounds_toArray, List.set_cons_zero, List.set_cons_succ]
      refine wpAnyH_take (i := 21) (oi := ⟨some 48, .build 26 #[(0, (.tmp 46)), (1, (.tmp 47))], _, _, _, _⟩) (v := ?_) rfl (by kernel_rfl) (by kernel_rfl) (by kernel_rfl) (fun _ _ _ h => h) (Or.inl ⟨by rfl, ?_⟩) (by assumption) ?_
      rotate_left
      · intro w' hSw
        go_simp
        try with_reducible rfl
      try simp only [Act.put, List.setIfInBounds_toArray, List.set_cons_zero, List.set_cons_succ]
      refine wpAnyH_ready (rs := [22]) (by kernel_rfl) (by simp) ?_
      refine AllReadyH.cons (o := ⟨some 49, .call ⟨.value (.func 19), #[.tmp 45, .tmp 48], #[26, 26]⟩, _, _, _, _⟩) rfl (fun K hK => ?_) AllReadyH.nil
      go_simp
      with_reducible refine (zsame (w0 := w6) hHeld (HY6.out.later hHeld).i1 (HY6.out.later hHeld).i2 (hlit46.later hal47) hlit47).mono ?_
      rintro _ w49 ⟨rfl, hS49⟩
      try go_wp2_with fail
      refine hK.out _ _ hS49 (fun hHeld => ?_)
      clear hK K
      try simp only [Act.put, List.setIfInBounds_toArray, List.set_cons_zero, List.set_cons_succ]
      refine wpAnyH_take (i := 23) (oi := ⟨some 50, .pick (.tmp 44) (.tmp 49) (.const (.bool false)), _, _, _, _⟩) (v := ?_) rfl (by kernel_rfl) (by kernel_rfl) (by kernel_rfl) (fun _ _ _ h => h) (Or.inl ⟨by rfl, ?_⟩) (by assumption) ?_
      rotate_left
      · intro w' hSw
        go_simp
        try with_reducible rfl
      try simp only [Act.put, List.setIfInBounds_toArray, List.set_cons_zero, List.set_cons_succ]
      refine wpAnyH_take (i := 24) (oi := ⟨some 51, .move (.tmp 50), _, _, _, _⟩) (v := ?_) rfl (by kernel_rfl) (by kernel_rfl) (by kernel_rfl) (fun _ _ _ h => h) (Or.inl ⟨by rfl, ?_⟩) (by assumption) ?_
      rotate_left
      · intro w' hSw
        go_simp
        try with_reducible rfl
      try simp only [Act.put, List.setIfInBounds_toArray, List.set_cons_zero, List.set_cons_succ]
      refine wpAnyH_take (i := 25) (oi := ⟨some 52, .move (.tmp 7), _, _, _, _⟩) (v := ?_) rfl (by kernel_rfl) (by kernel_rfl) (by kernel_rfl) (fun _ _ _ h => h) (Or.inl ⟨by rfl, ?_⟩) (by assumption) ?_
      rotate_left
      · intro w' hSw
        go_simp
        try with_reducible rfl
      try simp only [Act.put, List.setIfInBounds_toArray, List.set_cons_zero, List.set_cons_succ]
      refine wpAnyH_take (i := 26) (oi := ⟨some 53, .pick (.tmp 51) (.tmp 52) (.const (.bool false)), _, _, _, _⟩) (v := ?_) rfl (by kernel_rfl) (by kernel_rfl) (by kernel_rfl) (fun _ _ _ h => h) (Or.inl ⟨by rfl, ?_⟩) (by assumption) ?_
      rotate_left
      · intro w' hSw
        go_simp
        try with_reducible rfl
      try simp only [Act.put, List.setIfInBounds_toArray, List.set_cons_zero, List.set_cons_succ]
      refine wpAnyH_take (i := 27) (oi := ⟨some 54, .move (.tmp 53), _, _, _, _⟩) (v := ?_) rfl (by kernel_rfl) (by kernel_rfl) (by kernel_rfl) (fun _ _ _ h => h) (Or.inl ⟨by rfl, ?_⟩) (by assumption) ?_
      rotate_left
      · intro w' hSw
        go_simp
        try with_reducible rfl
      try simp only [Act.put, List.setIfInBounds_toArray, List.set_cons_zero, List.set_cons_succ]
      refine wpAnyH_take (i := 28) (oi := ⟨some 55, .move (.tmp 6), _, _, _, _⟩) (v := ?_) rfl (by kernel_rfl) (by kernel_rfl) (by kernel_rfl) (fun _ _ _ h => h) (Or.inl ⟨by rfl, ?_⟩) (by assumption) ?_
      rotate_left
      · intro w' hSw
        go_simp
        try with_reducible rfl
      try simp only [Act.put, List.setIfInBounds_toArray, List.set_cons_zero, List.set_cons_succ]
      refine wpAnyH_take (i := 29) (oi := ⟨some 56, .convert 22 9 (.tmp 55), _, _, _, _⟩) (v := ?_) rfl (by kernel_rfl) (by kernel_rfl) (by kernel_rfl) (fun _ _ _ h => h) (Or.inl ⟨by rfl, ?_⟩) (by assumption) ?_
      rotate_left
      · intro w' hSw
        obtain ⟨-, -, -, -, -, -, -, -, -, hcv⟩ := HG.out _ hSw
        go_simp
        try with_reducible rfl
      try simp only [Act.put, List.setIfInBounds_toArray, List.set_cons_zero, List.set_cons_succ]
      refine wpAnyH_ready (rs := [30]) (by kernel_rfl) (by simp) ?_
      refine AllReadyH.cons (o := ⟨some 57, .buildSlice 24 2 #[(0, (.const (.int .i64 1))), (1, (.const (.int .i64 0)))], _, _, _, _⟩) rfl (fun K hK => ?_) AllReadyH.nil
      go_simp
      have hal57 : Below w49.heap.size w49 (w49.alloc (.cells #[.int .i64 1, .int .i64 0] 2)) := (Below.refl _ _).alloc (Nat.le_refl _) _
      have hS57 : Below w6.heap.size w6 (w49.alloc (.cells #[.int .i64 1, .int .i64 0] 2)) := hHeld.alloc hHeld.size _
      have hlit57 := lit2 w49 1 0 (by omega) (by omega)
      generalize w49.alloc (.cells #[.int .i64 1, .int .i64 0] 2) = w57 at *
      try go_wp2_with fail
      refine hK.out _ _ hS57 (fun hHeld => ?_)
      clear hK K
      try simp only [Act.put, List.setIfInBounds_toArray, List.set_cons_zero, List.set_cons_succ]
      refine wpAnyH_ready (rs := [31]) (by kernel_rfl) (by simp) ?_
      refine AllReadyH.cons (o := ⟨some 58, .call ⟨.value (.func 14), #[.tmp 57], #[24]⟩, _, _, _, _⟩) rfl (fun K hK => ?_) AllReadyH.nil
      go_simp
      with_reducible refine (code_lit (w0 := w6) hHeld hlit57).mono ?_
      rintro _ w58 ⟨q11, c11, rfl, hq11, hS58⟩
      try go_wp2_with fail
      refine hK.out _ _ hS58 (fun hHeld => ?_)
      clear hK K
      try simp only [Act.put, List.setIfInBounds_toArray, List.set_cons_zero, List.set_cons_succ]
      refine wpAnyH_mono (S' := fun w' => Below w6.heap.size w6 w' ∧ Tx w' q11 16 c11 (Mm.code [1, 0])) (fun _ h => h.1) _ _ _ _ ?_
      have hHeld2 : Below w6.heap.size w6 w58 ∧ Tx w58 q11 16 c11 (Mm.code [1, 0]) := ⟨hS58, hq11.tx⟩
      refine wpAnyH_take (i := 32) (oi := ⟨some 59, .convert 22 9 (.tmp 58), _, _, _, _⟩) (v := ?_) rfl (by kernel_rfl) (by kernel_rfl) (by kernel_rfl) (fun _ _ _ h => h) (Or.inl ⟨by rfl, ?_⟩) (by assumption) ?_
      rotate_left
      · intro w' hSw
        have hcv := convert_tx hSw.2
        go_simp
        try with_reducible rfl
      try simp only [Act.put, List.setIfInBounds_toArray, List.set_cons_zero, List.set_cons_succ]
      refine wpAnyH_take (i := 33) (oi := ⟨some 60, .binOp .eql 9 (.tmp 56) (.tmp 59) 9, _, _, _, _⟩) (v := ?_) rfl (by kernel_rfl) (by kernel_rfl) (by kernel_rfl) (fun _ _ _ h => h) (Or.inl ⟨by rfl, ?_⟩) (by assumption) ?_
      rotate_left
      · intro w' hSw
        go_simp
        try with_reducible rfl
      try simp only [Act.put, List.setIfInBounds_toArray, List.set_cons_zero, List.set_cons_succ]
      refine wpAnyH_take (i := 34) (oi := ⟨some 61, .pick (.tmp 54) (.tmp 60) (.const (.bool false)), _, _, _, _⟩) (v := ?_) rfl (by kernel_rfl) (by kernel_rfl) (by kernel_rfl) (fun _ _ _ h => h) (Or.inl ⟨by rfl, ?_⟩) (by assumption) ?_
      rotate_left
      · intro w' hSw
        go_simp
        try with_reducible rfl
      try simp only [Act.put, List.setIfInBounds_toArray, List.set_cons_zero, List.set_cons_succ]
      refine wpAnyH_take (i := 35) (oi := ⟨some 0, .assign (.tmp 61), _, _, _, _⟩) (v := ?_) rfl (by kernel_rfl) (by kernel_rfl) (by kernel_rfl) (fun _ _ _ h => h) (Or.inl ⟨by rfl, ?_⟩) (by assumption) ?_
      rotate_left
      · intro w' hSw
        go_simp
        try with_reducible rfl
      try simp only [Act.put, List.setIfInBounds_toArray, List.set_cons_zero]
      refine wpAnyH_done (by kernel_rfl) ?_ _
      go_wp2_with fail
      go_ret
      exact ⟨by simp, BB6.out.trans (hS58.mono BB6.out.size)⟩
    ·
      go_simp
      have hal47 : Below w42.heap.size w42 (w42.alloc (.cells #[.int .i64 1, .int .i64 1] 2)) := (Below.refl _ _).alloc (Nat.le_refl _) _
      have hS47 : Below w6.heap.size w6 (w42.alloc (.cells #[.int .i64 1, .int .i64 1] 2)) := hHeld.alloc hHeld.size _
      have hlit47 := lit2 w42 1 1 (by omega) (by omega)
      generalize w42.alloc (.cells #[.int .i64 1, .int .i64 1] 2) = w47 at *
      try go_wp2_with fail
      refine hK.out _ _ hS47 (fun hHeld => ?_)
      clear hK K
      try simp only [Act.put, List.setIfInBounds_toArray, List.set_cons_zero, List.set_cons_succ]
      refine wpAnyH_ready (rs := [19]) (by kernel_rfl) (by simp) ?_
      refine AllReadyH.cons (o := ⟨some 46, .buildSlice 24 2 #[(0, (.const (.int .i64 1))), (1, (.const (.int .i64 0)))], _, _, _, _⟩) rfl (fun K hK => ?_) AllReadyH.nil
      go_simp
      have hal46 : Below w47.heap.size w47 (w47.alloc (.cells #[.int .i64 1, .int .i64 0] 2)) := (Below.refl _ _).alloc (Nat.le_refl _) _
      have hS46 : Below w6.heap.size w6 (w47.alloc (.cells #[.int .i64 1, .int .i64 0] 2)) := hHeld.alloc hHeld.size _
      have hlit46 := lit2 w47 1 0 (by omega) (by omega)
      generalize w47.alloc (.cells #[.int .i64 1, .int .i64 0] 2) = w46 at *
      try go_wp2_with fail
      refine hK.out _ _ hS46 (fun hHeld => ?_)
      clear hK K
      try simp only [Act.put, List.setIfInBounds_toArray, List.set_cons_zero, List.set_cons_succ]
      refine wpAnyH_take (i := 21) (oi := ⟨some 48, .build 26 #[(0, (.tmp 46)), (1, (.tmp 47))], _, _, _, _⟩) (v := ?_) rfl (by kernel_rfl) (by kernel_rfl) (by kernel_rfl) (fun _ _ _ h => h) (Or.inl ⟨by rfl, ?_⟩) (by assumption) ?_
      rotate_left
      · intro w' hSw
        go_simp
        try with_reducible rfl
      try simp only [Act.put, List.setIfInBounds_toArray, List.set_cons_zero, List.set_cons_succ]
      refine wpAnyH_ready (rs := [22]) (by kernel_rfl) (by simp) ?_
      refine AllReadyH.cons (o := ⟨some 49, .call ⟨.value (.func 19), #[.tmp 45, .tmp 48], #[26, 26]⟩, _, _, _, _⟩) rfl (fun K hK => ?_) AllReadyH.nil
      go_simp
      with_reducible refine (zsame (w0 := w6) hHeld (HY6.out.later hHeld).i1 (HY6.out.later hHeld).i2 hlit46 (hlit47.later hal46)).mono ?_
      rintro _ w49 ⟨rfl, hS49⟩
      try go_wp2_with fail
      refine hK.out _ _ hS49 (fun hHeld => ?_)
      clear hK K
      try simp only [Act.put, List.setIfInBounds_toArray, List.set_cons_zero, List.set_cons_succ]
      refine wpAnyH_take (i := 23) (oi := ⟨some 50, .pick (.tmp 44) (.tmp 49) (.const (.bool false)), _, _, _, _⟩) (v := ?_) rfl (by kernel_rfl) (by kernel_rfl) (by kernel_rfl) (fun _ _ _ h => h) (Or.inl ⟨by rfl, ?_⟩) (by assumption) ?_
      rotate_left
      · intro w' hSw
        go_simp
        try with_reducible rfl
      try simp only [Act.put, List.setIfInBounds_toArray, List.set_cons_zero, List.set_cons_succ]
      refine wpAnyH_take (i := 24) (oi := ⟨some 51, .move (.tmp 50), _, _, _, _⟩) (v := ?_) rfl (by kernel_rfl) (by kernel_rfl) (by kernel_rfl) (fun _ _ _ h => h) (Or.inl ⟨by rfl, ?_⟩) (by assumption) ?_
      rotate_left
      · intro w' hSw
        go_simp
        try with_reducible rfl
      try simp only [Act.put, List.setIfInBounds_toArray, List.set_cons_zero, List.set_cons_succ]
      refine wpAnyH_take (i := 25) (oi := ⟨some 52, .move (.tmp 7), _, _, _, _⟩) (v := ?_) rfl (by kernel_rfl) (by kernel_rfl) (by kernel_rfl) (fun _ _ _ h => h) (Or.inl ⟨by rfl, ?_⟩) (by assumption) ?_
      rotate_left
      · intro w' hSw
        go_simp
        try with_reducible rfl
      try simp only [Act.put, List.setIfInBounds_toArray, List.set_cons_zero, List.set_cons_succ]
      refine wpAnyH_take (i := 26) (oi := ⟨some 53, .pick (.tmp 51) (.tmp 52) (.const (.bool false)), _, _, _, _⟩) (v := ?_) rfl (by kernel_rfl) (by kernel_rfl) (by kernel_rfl) (fun _ _ _ h => h) (Or.inl ⟨by rfl, ?_⟩) (by assumption) ?_
      rotate_left
      · intro w' hSw
        go_simp
        try with_reducible rfl
      try simp only [Act.put, List.setIfInBounds_toArray, List.set_cons_zero, List.set_cons_succ]
      refine wpAnyH_take (i := 27) (oi := ⟨some 54, .move (.tmp 53), _, _, _, _⟩) (v := ?_) rfl (by kernel_rfl) (by kernel_rfl) (by kernel_rfl) (fun _ _ _ h => h) (Or.inl ⟨by rfl, ?_⟩) (by assumption) ?_
      rotate_left
      · intro w' hSw
        go_simp
        try with_reducible rfl
      try simp only [Act.put, List.setIfInBounds_toArray, List.set_cons_zero, List.set_cons_succ]
      refine wpAnyH_take (i := 28) (oi := ⟨some 55, .move (.tmp 6), _, _, _, _⟩) (v := ?_) rfl (by kernel_rfl) (by kernel_rfl) (by kernel_rfl) (fun _ _ _ h => h) (Or.inl ⟨by rfl, ?_⟩) (by assumption) ?_
      rotate_left
      · intro w' hSw
        go_simp
        try with_reducible rfl
      try simp only [Act.put, List.setIfInBounds_toArray, List.set_cons_zero, List.set_cons_succ]
      refine wpAnyH_take (i := 29) (oi := ⟨some 56, .convert 22 9 (.tmp 55), _, _, _, _⟩) (v := ?_) rfl (by kernel_rfl) (by kernel_rfl) (by kernel_rfl) (fun _ _ _ h => h) (Or.inl ⟨by rfl, ?_⟩) (by assumption) ?_
      rotate_left
      · intro w' hSw
        obtain ⟨-, -, -, -, -, -, -, -, -, hcv⟩ := HG.out _ hSw
        go_simp
        try with_reducible rfl
      try simp only [Act.put, List.setIfInBounds_toArray, List.set_cons_zero, List.set_cons_succ]
      refine wpAnyH_ready (rs := [30]) (by kernel_rfl) (by simp) ?_
      refine AllReadyH.cons (o := ⟨some 57, .buildSlice 24 2 #[(0, (.const (.int .i64 1))), (1, (.const (.int .i64 0)))], _, _, _, _⟩) rfl (fun K hK => ?_) AllReadyH.nil
      go_simp
      have hal57 : Below w49.heap.size w49 (w49.alloc (.cells #[.int .i64 1, .int .i64 0] 2)) := (Below.refl _ _).alloc (Nat.le_refl _) _
      have hS57 : Below w6.heap.size w6 (w49.alloc (.cells #[.int .i64 1, .int .i64 0] 2)) := hHeld.alloc hHeld.size _
      have hlit57 := lit2 w49 1 0 (by omega) (by omega)
      generalize w49.alloc (.cells #[.int .i64 1, .int .i64 0] 2) = w57 at *
      try go_wp2_with fail
      refine hK.out _ _ hS57 (fun hHeld => ?_)
      clear hK K
      try simp only [Act.put, List.setIfInBounds_toArray, List.set_cons_zero, List.set_cons_succ]
      refine wpAnyH_ready (rs := [31]) (by kernel_rfl) (by simp) ?_
      refine AllReadyH.cons (o := ⟨some 58, .call ⟨.value (.func 14), #[.tmp 57], #[24]⟩, _, _, _, _⟩) rfl (fun K hK => ?_) AllReadyH.nil
      go_simp
      with_reducible refine (code_lit (w0 := w6) hHeld hlit57).mono ?_
      rintro _ w58 ⟨q11, c11, rfl, hq11, hS58⟩
      try go_wp2_with fail
      refine hK.out _ _ hS58 (fun hHeld => ?_)
      clear hK K
      try simp only [Act.put, List.setIfInBounds_toArray, List.set_cons_zero, List.set_cons_succ]
      refine wpAnyH_mono (S' := fun w' => Below w6.heap.size w6 w' ∧ Tx w' q11 16 c11 (Mm.code [1, 0])) (fun _ h => h.1) _ _ _ _ ?_
      have hHeld2 : Below w6.heap.size w6 w58 ∧ Tx w58 q11 16 c11 (Mm.code [1, 0]) := ⟨hS58, hq11.tx⟩
      refine wpAnyH_take (i := 32) (oi := ⟨some 59, .convert 22 9 (.tmp 58), _, _, _, _⟩) (v := ?_) rfl (by kernel_rfl) (by kernel_rfl) (by kernel_rfl) (fun _ _ _ h => h) (Or.inl ⟨by rfl, ?_⟩) (by assumption) ?_
      rotate_left
      · intro w' hSw
        have hcv := convert_tx hSw.2
        go_simp
        try with_reducible rfl
      try simp only [Act.put, List.setIfInBounds_toArray, List.set_cons_zero, List.set_cons_succ]
      refine wpAnyH_take (i := 33) (oi := ⟨some 60, .binOp .eql 9 (.tmp 56) (.tmp 59) 9, _, _, _, _⟩) (v := ?_) rfl (by kernel_rfl) (by kernel_rfl) (by kernel_rfl) (fun _ _ _ h => h) (Or.inl ⟨by rfl, ?_⟩) (by assumption) ?_
      rotate_left
      · intro w' hSw
        go_simp
        try with_reducible rfl
      try simp only [Act.put, List.setIfInBounds_toArray, List.set_cons_zero, List.set_cons_succ]
      refine wpAnyH_take (i := 34) (oi := ⟨some 61, .pick (.tmp 54) (.tmp 60) (.const (.bool false)), _, _, _, _⟩) (v := ?_) rfl (by kernel_rfl) (by kernel_rfl) (by kernel_rfl) (fun _ _ _ h => h) (Or.inl ⟨by rfl, ?_⟩) (by assumption) ?_
      rotate_left
      · intro w' hSw
        go_simp
        try with_reducible rfl
      try simp only [Act.put, List.setIfInBounds_toArray, List.set_cons_zero, List.set_cons_succ]
      refine wpAnyH_take (i := 35) (oi := ⟨some 0, .assign (.tmp 61), _, _, _, _⟩) (v := ?_) rfl (by kernel_rfl) (by kernel_rfl) (by kernel_rfl) (fun _ _ _ h => h) (Or.inl ⟨by rfl, ?_⟩) (by assumption) ?_
      rotate_left
      · intro w' hSw
        go_simp
        try with_reducible rfl
      try simp only [Act.put, List.setIfInBounds_toArray, List.set_cons_zero]
      refine wpAnyH_done (by kernel_rfl) ?_ _
      go_wp2_with fail
      go_ret
      exact ⟨by simp, BB6.out.trans (hS58.mono BB6.out.size)⟩
end Go.Proofs.Ytbhpmigblkaihaa.Zr

/- The program: zrange.Back. gen_skip.py writes it. -/
namespace Go.Proofs.Ytbhpmigblkaihaa.Zr
open Go.RowKit Go.Proofs.Ytbhpmigblkaihaa.Mo

set_option maxRecDepth 100000 in
set_option maxHeartbeats 1000000 in
theorem zback_bad (L H : List Int) (p q1 q2 : Option Addr) (n cc n1 c1 n2 c2 : Nat) (w : World) (h1 : Ints w q1 n1 c1 L) (h2 : Ints w q2 n2 c2 H) (hn : n ≤ 1000000) (hr : ¬ (rightB L H n1 n2 n1 = true ∧ n = 8 * n1)) :
    Calls Try.prog 11 #[.slice p n cc, .agg #[.slice q1 n1 c1, .slice q2 n2 c2]] w fun e w' => e = .returned (.tuple #[.slice none 0 0, .bool false]) ∧ Below w.heap.size w w' := by
  have hb : Below w.heap.size w (w.alloc (.cells #[.slice q1 n1 c1, .slice q2 n2 c2] 26)) := (Below.refl _ _).alloc (Nat.le_refl _) _
  obtain ⟨e0, e1⟩ := pair_alloc w (.slice q1 n1 c1) (.slice q2 n2 c2) 26
  have H1 := Lib.hid (h1.later hb)
  have H2 := Lib.hid (h2.later hb)
  have HB := Lib.hid hb
  have HR := Lib.hid hr
  clear h1 h2 hb hr
  go_enter Try.func11, Try.ntmps11
  go_upto_region 1 with fail
  generalize w.alloc (.cells #[.slice q1 n1 c1, .slice q2 n2 c2] 26) = w1 at *
  go_wp2_with fail
  refine (zpoint_bad L H p q1 q2 n cc n1 c1 n2 c2 w1 H1.out H2.out hn HR.out).mono ?_
  rintro _ w2 ⟨rfl, hb2⟩
  have HB2 := Lib.hid (HB.out.trans (hb2.mono HB.out.size))
  clear hb2 e0 e1
  go_wp2_with fail
  go_ret2
  exact ⟨rfl, HB2.out⟩
set_option maxRecDepth 100000 in
set_option maxHeartbeats 4000000 in
theorem zback_good (Q L H : List Int) (p q1 q2 : Option Addr) (d cc c1 c2 : Nat) (w : World) (hQ : Mm.inI Q) (lQ : Q.length = d) (h3 : Bytes w p (8 * d) cc (Mm.code Q)) (h1 : Ints w q1 d c1 L) (h2 : Ints w q2 d c2 H) (hr : rightB L H d d d = true) :
    Calls Try.prog 11 #[.slice p (8 * d : Nat) cc, .agg #[.slice q1 d c1, .slice q2 d c2]] w (FindPost w true L H Q) := by
  obtain ⟨hd1, hd8, -, -⟩ := rightB_dims hr
  have g1 : (1 : Nat) ≤ d := by omega
  have g8 : d ≤ 8 := by omega
  have lL := h1.size
  have hbx : BX L H := ⟨h1.ok, h2.ok, by rw [← h1.size]; exact h2.size.symm, by rw [← lL]; exact hr⟩
  have BXH := Lib.hid hbx
  have OKQ := Lib.hid hQ
  have LQ := Lib.hid lQ
  have LQL := Lib.hid (lQ.trans lL)
  have LL := Lib.hid lL
  have HR := Lib.hid hr
  have hs := bkh_start h1 h2
  have H3 := Lib.hid (h3.later ((Below.refl _ _).alloc (Nat.le_refl _) (.cells #[.slice q1 d c1, .slice q2 d c2] 26)) h3.lt)
  clear h1 h2 h3 hr hbx hQ lQ lL
  go_enter Try.func11, Try.ntmps11
  go_upto_region 1 with fail
  generalize w.alloc (.cells #[.slice q1 d c1, .slice q2 d c2] 26) = w1 at *
  have HS := Lib.hid hs
  obtain ⟨a0, a1⟩ := hs.cells
  clear hs
  go_wp2_with fail
  refine (zpoint_good (Mm.code Q) L H p q1 q2 d cc c1 c2 w1 H3.out HS.out.i1 HS.out.i2 HR.out).mono ?_
  rintro _ w2 ⟨q, c, rfl, hq, hb2⟩
  have hpc := Mm.point_code OKQ.out
  rw [LQ.out] at hpc
  rw [hpc] at hq
  have HQ := Lib.hid hq
  have HS2 := Lib.hid (HS.out.later hb2)
  clear hpc hq hb2 a0 a1 HS
  obtain ⟨a0, a1⟩ := HS2.out.cells
  go_wp2_with fail
  refine (ahead_any Q L q q1 d c c1 w2 HQ.out HS2.out.i1 g1 g8).mono ?_
  rintro e w2d ⟨rfl, j2, rfl⟩
  by_cases hc1 : Cm.cmpL (Mm.code Q) (Mm.code L) < 0
  · rw [decide_eq_true hc1]
    have HN := Lib.hid (none_upto BXH.out OKQ.out LQL.out hc1)
    clear hc1
    go_wp2_with fail
    go_ret2
    exact ⟨false, _, rfl, Below.drewN HS2.out.low _, fun _ => ⟨rfl, HN.out⟩, fun h => by cases h⟩
  rw [decide_eq_false hc1]
  have HNEAR := Lib.hid (not_lt hc1)
  have HH := Lib.hid (show SkH w (w2.drewN j2) q d c Q q1 c1 q2 c2 L H from (⟨HS2.out.low, HS2.out.a, HS2.out.i1, HS2.out.i2, HQ.out⟩ : SkH w w2 q d c Q q1 c1 q2 c2 L H).later (Below.drewN (Below.refl _ _) _))
  clear hc1 a0 a1
  generalize w2.drewN j2 = w2d at *
  clear HS2 HQ
  go_wp2_with fail
  go_loopg [] (64 * d) (fun k wr => SkRel true w q d c Q L H k wr)
  case atStart => exact ⟨q1, c1, q2, c2, L, H, HH.out, BXH.out, LQL.out, fun X h => h, HNEAR.out, fun i hi => by have := LL.out; omega⟩
  case round =>
    obtain ⟨p1, e1, p2, e2, L', H', hk, hinv⟩ := hrel
    have HK := Lib.hid hk
    have HINV := Lib.hid hinv
    have RB := Lib.hid (show rightB L' H' d d d = true from by
      have := hinv.b.right
      rw [← hk.i1.size] at this
      exact this)
    clear hk hinv HH
    obtain ⟨a0, a1, -, -⟩ := HK.out.cells
    go_wp2_with fail
    refine (has_any p1 p2 q d e1 d e2 d c L' H' Q wr HK.out.i1 HK.out.i2 HK.out.iq).mono ?_
    rintro _ w3 ⟨rfl, hb3⟩
    have HK3 := Lib.hid (HK.out.later hb3)
    clear hb3 a0 a1
    cases hh : hasB L' H' Q d d d with
    | true =>
      have HIT := Lib.hid (HINV.out.hit Q (hit_self true OKQ.out ((hasB_in HK3.out.i1.size.symm LQ.out RB.out).1 hh)))
      clear hh
      go_wp2_with fail
      refine (zcodeof_any Q q d c w3 HK3.out.iq g1 g8).mono ?_
      rintro _ w9 ⟨g, rfl, -, hrow, hb9⟩
      have HROW := Lib.hid hrow
      have HB9 := Lib.hid (HK3.out.low.trans (hb9.mono HK3.out.low.size))
      clear hrow hb9
      go_wp2_with fail
      go_ret2
      exact find_told HIT.out LQ.out HROW.out HB9.out
    | false =>
      have HOUT := Lib.hid (show ¬ Zm.inB L' H' Q from fun h => by
        rw [(hasB_in HK3.out.i1.size.symm LQ.out RB.out).2 h] at hh
        cases hh)
      clear hh
      obtain ⟨a0, a1, -, -⟩ := HK3.out.cells
      go_wp2_with fail
      refine (ahead_any Q H' q p2 d c e2 w3 HK3.out.iq HK3.out.i2 g1 g8).mono ?_
      rintro e w4 ⟨rfl, j4, rfl⟩
      by_cases hc2 : Cm.cmpL (Mm.code Q) (Mm.code H') < 0
      case neg =>
        rw [decide_eq_false hc2]
        have HIT := Lib.hid (HINV.out.hit _ (show Hit true L' H' Q H' from last_hi HINV.out.b HINV.out.len hc2))
        have HK4 := Lib.hid (HK3.out.later (Below.drewN (Below.refl _ _) j4))
        clear hc2
        go_wp2_with fail
        refine (zcodeof_any H' p2 d e2 _ (HK4.out.i2) g1 g8).mono ?_
        rintro _ w9 ⟨g, rfl, -, hrow, hb9⟩
        have HROW := Lib.hid hrow
        have HB9 := Lib.hid (HK4.out.low.trans (hb9.mono HK4.out.low.size))
        clear hrow hb9
        go_wp2_with fail
        go_ret2
        exact find_told HIT.out LQ.out HROW.out HB9.out
      rw [decide_eq_true hc2]
      have HC2 := Lib.hid hc2
      have HK4 := Lib.hid (HK3.out.later (Below.drewN (Below.refl _ _) j4))
      clear hc2 a0 a1
      generalize w3.drewN j4 = w4 at *
      obtain ⟨a0, a1, -, -⟩ := HK4.out.cells
      go_wp2_with fail
      refine (zsplit_any L' H' p1 p2 d e1 e2 w4 HK4.out.i1 HK4.out.i2 RB.out).mono ?_
      rintro _ w5 ⟨ok, r1, r2, r3, r4, n1, s1, n2, s2, n3, s3, n4, s4, rfl, hb5, hno, hok⟩
      have HK5 := Lib.hid (HK4.out.later hb5)
      clear a0 a1
      cases ok with
      | false =>
        exfalso
        have hsame := Zm.bits_same HINV.out.b.l HINV.out.b.h HINV.out.b.len.symm (hno rfl).1
        have hq1 := HINV.out.near
        have hq2 := HC2.out
        simp only [if_true] at hq1
        try rw [hsame] at hq1
        try rw [hsame] at hq2
        exact lt_not hq2 hq1
      | true =>
      obtain ⟨n, hn, ha, hne, i1, i2, i3, i4, -⟩ := hok rfl
      obtain rfl : d = n1 := by have := i1.size; rw [pLo_length, ← HK5.out.i1.size] at this; exact this.symm
      obtain rfl : d = n2 := by have := i2.size; rw [pHi_length, ← HK5.out.i1.size] at this; exact this.symm
      obtain rfl : d = n3 := by have := i3.size; rw [pLo_length, ← HK5.out.i1.size] at this; exact this.symm
      obtain rfl : d = n4 := by have := i4.size; rw [pHi_length, ← HK5.out.i1.size] at this; exact this.symm
      have HHV := Lib.hid (halves_of HINV.out.b hn ha hne)
      have HA := Lib.hid ha
      have HNE := Lib.hid hne
      have hw5 := sks_start HK5.out i1 i2 i3 i4
      clear hn ha hne i1 i2 i3 i4 hno hok hb5
      go_upto_region 8 with fail
      generalize (w5.alloc (.cells #[.slice r1 d s1, .slice r2 d s2] 26)).alloc (.cells #[.slice r3 d s3, .slice r4 d s4] 26) = w5a at *
      have HW5 := Lib.hid hw5
      obtain ⟨a0, a1, a2, a3⟩ := hw5.h.cells
      obtain ⟨b0, b1, b2, b3⟩ := hw5.cells
      have hw6 := HW5.out.put g1 HW5.out.i3 HW5.out.i4
      clear hw5
      go_upto_region 9 with fail
      generalize (w5a.setCell ⟨w.heap.size, 0, none⟩ _).setCell ⟨w.heap.size, 1, none⟩ _ = w6 at *
      have HW6 := Lib.hid hw6
      clear a0 a1 a2 a3 b0 b1 b2 b3 hw6
      obtain ⟨b0, b1, b2, b3⟩ := HW6.out.cells
      go_wp2_with fail
      refine (ahead_any Q (pLo L' H' n) q r3 d c s3 w6 HW6.out.h.iq HW6.out.i3 g1 g8).mono ?_
      rintro e w7 ⟨rfl, j7, rfl⟩
      have HW7 := Lib.hid (HW6.out.later (Below.drewN (Below.refl _ _) j7))
      clear b0 b1 b2 b3
      by_cases hc3 : Cm.cmpL (Mm.code Q) (Mm.code (pLo L' H' n)) < 0
      · rw [decide_eq_true hc3]
        obtain ⟨hlt, hinv⟩ := HINV.out.lower OKQ.out HHV.out HA.out HNE.out hc3
        have HI2 := Lib.hid hinv
        have HLT := Lib.hid hlt
        clear hc3 hinv hlt
        generalize w6.drewN j7 = w7 at *
        obtain ⟨a0, a1, a2, a3⟩ := HW7.out.h.cells
        obtain ⟨b0, b1, b2, b3⟩ := HW7.out.cells
        have HW8 := Lib.hid (HW7.out.put g1 HW7.out.i1 HW7.out.i2)
        go_wp2_with fail
        clear a0 a1 a2 a3 b0 b1 b2 b3
        go_roundg (64 * L'.length - (n + 1))
        case rel => exact ⟨_, _, _, _, _, _, HW8.out.h, HI2.out⟩
        case measure => exact HLT.out
      · rw [decide_eq_false hc3]
        obtain ⟨hlt, hinv⟩ := HINV.out.upper OKQ.out HHV.out HA.out HNE.out hc3
        have HI2 := Lib.hid hinv
        have HLT := Lib.hid hlt
        clear hc3 hinv hlt
        generalize w6.drewN j7 = w7 at *
        go_wp2_with fail
        go_roundg (64 * L'.length - (n + 1))
        case rel => exact ⟨_, _, _, _, _, _, HW7.out.h, HI2.out⟩
        case measure => exact HLT.out
end Go.Proofs.Ytbhpmigblkaihaa.Zr
