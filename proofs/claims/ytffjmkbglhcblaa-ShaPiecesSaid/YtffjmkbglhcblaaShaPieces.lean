/- The walk of ShaPieces. -/
import Derived.Test.YtffjmkbglhcblaaShaEq
import Derived.Maps.AppendAt
import Derived.Deep.DeepMust
namespace Go.Proofs.Ytffjmkbglhcblaa
open Go.RowKit

theorem built0 : Try.prog.built 36 [] = some (stL zero8 (zeros 64) 0).toArray := by kernel_rfl
set_option maxRecDepth 100000 in
set_option maxHeartbeats 1000000 in
theorem new_any (w : World) :
    Calls Try.prog 11 #[] w fun e w' => e = .returned (.pointer (some ⟨w.heap.size, 0, none⟩)) ∧ w.alloc (.cells (stL zero8 (zeros 64) 0).toArray 36) = w' := by
  go_enter Try.func11, Try.ntmps11
  go_wp2_with (refine wpList_build (by rfl) 36 _ (by rfl) (by as_aux_lemma => kernel_rfl) ?_)
  go_ret
  exact ⟨rfl, rfl⟩
theorem len_any (T : List Nat) (g : Nat) (w : World) (hs : StateAt w g T) :
    Calls Try.prog 14 #[.pointer (some ⟨g, 0, none⟩)] w fun e w' => e = .returned (.int .u64 (T.length : Nat)) ∧ w = w' := by
  obtain ⟨v, bl, hh, hg⟩ := hs
  have hcl := st_len hg hh.size
  clear hg hh
  go_enter Try.func14, Try.ntmps14
  go_wp2_with fail
  go_ret
  exact ⟨rfl, rfl⟩
theorem own_ne {w : World} {base n g : Nat} {v : Value} {xs : List Value} {T : List Nat} (h : w.ownsRow base 5 1 v n xs) (hs : StateAt w g T) : v.ownBlock ≠ some g := by
  obtain ⟨sv, bl, _, hg⟩ := hs
  rcases h.2 with ⟨rfl, _⟩ | ⟨g', cap, cur, rfl, _, hg', _⟩
  · simp [Value.ownBlock]
  · intro e
    obtain rfl : g' = g := by simpa [Value.ownBlock] using e
    rw [hg] at hg'
    simp at hg'
theorem owns_form {w : World} {base n : Nat} {v : Value} {B : List Nat} (h : w.ownsRow base 5 1 v n (vals B)) (hB : Sm.allB B) : ∃ q c, v = .slice q n c ∧ Bytes w q n c B := by
  have hl : n = B.length := by have := h.1; rw [vals_length, Nat.mul_one] at this; exact this.symm
  rcases h.2 with ⟨rfl, h0⟩ | ⟨g, cap, cur, rfl, r⟩
  · subst h0
    have hb : B = [] := List.length_eq_zero_iff.1 hl.symm
    exact ⟨none, 0, rfl, ⟨hl, Nat.le_refl _, hB, Or.inl ⟨rfl, rfl⟩⟩⟩
  · exact ⟨_, cap, rfl, Bytes.of_owns h hB⟩
/-- What stands between two texts that are written. -/
structure PI (w wr : World) (gs gz : Nat) (T : List Nat) (v : Value) : Prop where
  below : Below w.heap.size w wr
  s : StateAt wr gs T
  z : StateAt wr gz T
  ls : w.heap.size ≤ gs
  lz : w.heap.size ≤ gz
  ne : gs ≠ gz
  own : wr.ownsRow w.heap.size 5 1 v T.length (vals T)
theorem PI.later {w wr w' : World} {gs gz : Nat} {T : List Nat} {v : Value} (h : PI w wr gs gz T v) (hb : Below wr.heap.size wr w') : PI w w' gs gz T v :=
  ⟨h.below.trans (hb.mono h.below.size), h.s.later hb, h.z.later hb, h.ls, h.lz, h.ne, owns_later h.own hb⟩
theorem StateAt.grown {w w' : World} {g gx : Nat} {T : List Nat} (h : StateAt w g T) (hg : w.grownBy w' (some gx)) (hne : gx ≠ g) : StateAt w' g T := by
  obtain ⟨v, bl, hh, hr⟩ := h
  exact ⟨v, bl, hh, (hg.block _ (Array.getElem?_eq_some_iff.1 hr).1 (by intro e; exact hne (by simpa using e.symm))).trans hr⟩
theorem PI.grown {w wr w' : World} {gs gz gx : Nat} {T : List Nat} {v : Value} (h : PI w wr gs gz T v) (hg : wr.grownBy w' (some gx)) (h1 : gx ≠ gs) (h2 : gx ≠ gz) (h3 : v.ownBlock ≠ some gx) (h4 : w.heap.size ≤ gx) : PI w w' gs gz T v :=
  ⟨h.below.grown hg h.below.size (fun k hk => by simp at hk; omega), h.s.grown hg h1, h.z.grown hg h2, h.ls, h.lz, h.ne, h.own.kept hg (Or.inr h3)⟩
theorem vals_set (B : List Nat) (j x : Nat) : vals (B.set j x) = (vals B).set j (.int .u8 (x : Nat)) := by simp [vals, List.map_set]
theorem set_ok {B : List Nat} (h : Sm.allB B) (j x : Nat) (hx : x < 256) : Sm.allB (B.set j x) := fun y hy => by
  rcases List.mem_or_eq_of_mem_set hy with h1 | rfl
  · exact h y h1
  · exact hx
theorem grown_twice {a b c : World} {r : Option Nat} (h : a.grownBy b r) (k : b.grownBy c r) : a.grownBy c r :=
  ⟨k.os.trans h.os, k.tape.trans h.tape, k.output.trans h.output, Nat.le_trans h.size k.size, fun i hi hne => (k.block i (Nat.lt_of_lt_of_le hi h.size) hne).trans (h.block i hi hne)⟩
def IRel (W4 : World) (gx n cx base : Nat) (i : Value) (W5 : World) : Prop :=
  ∃ (j : Nat) (B5 : List Nat), j ≤ n ∧ i = .int .i64 j ∧ W4.grownBy W5 (some gx) ∧ B5.length = n ∧ Sm.allB B5 ∧ W5.ownsRow base 5 1 (.slice (some ⟨gx, 0, none⟩) n cx) n (vals B5)
def PRel (w : World) (gs gz len : Nat) (v i : Value) (wr : World) : Prop :=
  ∃ (k : Nat) (T : List Nat), k ≤ 20 ∧ k ≤ len ∧ i = .int .i64 k ∧ T.length ≤ 500 * k ∧ PI w wr gs gz T v
set_option maxRecDepth 100000 in
set_option maxHeartbeats 1000000 in
theorem pieces_any (L : List (List Nat)) (p : Option Addr) (len cap : Nat) (w : World) (hL : Texts w p len cap L) (hlen : len ≤ 9223372036854775807) :
    Calls Try.prog 4 #[.slice p len cap] w fun e w' => e = .returned (.bool true) ∧ Below w.heap.size w w' := by
  obtain ⟨i5, hi, hi0, hi1, hi2⟩ := info_parts I5
  have HI := Lib.hid hi
  have HI0 := Lib.hid hi0
  have HI1 := Lib.hid hi1
  have HI2 := Lib.hid hi2
  have HL := Lib.hid hL
  clear hi hi0 hi1 hi2 hL
  go_enter Try.func4, Try.ntmps4
  go_wp2_with fail
  refine (alive_any w).mono ?_
  rintro _ w0 ⟨rfl, hb0⟩
  have HB0 := Lib.hid hb0
  clear hb0
  go_wp2_with fail
  refine (new_any w0).mono ?_
  rintro _ w1 ⟨rfl, rfl⟩
  go_wp2_with (refine wpList_build (by rfl) 36 _ (by rfl) (by as_aux_lemma => kernel_rfl) ?_)
  rw [built0, Option.getD_some]
  obtain ⟨gs, hgs⟩ : ∃ gs, gs = w0.heap.size := ⟨_, rfl⟩
  obtain ⟨gz, hgz⟩ : ∃ gz, gz = w0.heap.size + 1 := ⟨_, rfl⟩
  generalize hWB : (w0.alloc (.cells (stL zero8 (zeros 64) 0).toArray 36)).alloc (.cells (stL zero8 (zeros 64) 0).toArray 36) = WB
  have hP : PI w WB gs gz [] (.slice none 0 0) := by
    have hs := HB0.out.size
    subst hWB
    subst hgs
    subst hgz
    refine ⟨(HB0.out.alloc hs _).alloc (by simp; omega) _, state_zero (heap_alloc2_old _ _ _), state_zero (heap_alloc2_new _ _ _), hs, by omega, by omega, World.ownsRow_nil _ _ _ _⟩
  have hR : PRel w gs gz len (.slice none 0 0) (.int .i64 0) WB := ⟨0, [], by omega, by omega, rfl, by simp, hP⟩
  have HR := Lib.hid hR
  rw [← hgz, ← hgs]
  clear hgs hgz hWB hP hR HB0
  go_loopw [5, 6] (fun v i wr => PRel w gs gz len v i wr) (fun _ i _ => 20 - (intOf i).toNat)
  case atStart => exact HR.out
  case round =>
    obtain ⟨k, T, hk, hkl, rfl, hTl, hP⟩ := hrel
    have HP := Lib.hid hP
    clear hP HR
    by_cases hlt : k < len ∧ k < 20
    · obtain ⟨h1, h2⟩ := hlt
      obtain ⟨g, o, hp, hx⟩ := HL.out.at' (by intro e; have := HL.out.size; rw [e] at this; simp at this; omega)
      obtain ⟨q, n, c, hc, hb⟩ := hx k (by have := HL.out.size; omega)
      subst hp
      obtain ⟨tk, htk⟩ : ∃ tk, tk = L.getD k [] := ⟨_, rfl⟩
      rw [← htk] at hb
      have hgw := block_lt_of_cell hc
      have hcell : _ = some (Value.slice q n c) := (HP.out.below.cell (p := ⟨g, o + k, none⟩) hgw).trans hc
      have hcap0 := HL.out.le
      have HT := Lib.hid hb
      have HC := Lib.hid hc
      clear hx htk hc
      by_cases hn5 : 500 < n
      · clear hb
        go_wp2_with fail
        go_ret
        exact ⟨rfl, HP.out.below⟩
      · have HE := Lib.hid (show (wr.alloc (.cells #[] 5)).ownsRow wr.heap.size 5 1 (.slice (some ⟨wr.heap.size, 0, none⟩) 0 0) 0 [] from World.ownsRow_lit wr #[] 0 (Nat.le_refl _) (by unfold maxLen; omega) rfl)
        have hcell2 : (wr.alloc (.cells #[] 5)).cell? ⟨g, o + k, none⟩ = some (Value.slice q n c) := ((Below.refl wr.heap.size wr).alloc (Nat.le_refl _) _ |>.cell (p := ⟨g, o + k, none⟩) (Nat.lt_of_lt_of_le hgw HP.out.below.size)).trans hcell
        rcases hb.at' with ⟨hq, hc0⟩ | ⟨xt, hq, hxx⟩
        · subst hq
          subst hc0
          obtain rfl : n = 0 := by have := hb.le; omega
          have TK0 := Lib.hid (show tk = [] from List.length_eq_zero_iff.1 hb.size.symm)
          clear hb
          go_wp2_with (at_builtin; refine wpList_append_own_none (w := wr.alloc (.cells #[] 5)) (by rfl) (.tmp 33) (.tmp 37) 22 (by rfl) wr.heap.size 5 i5 1 A22 HI.out _ 0 [] (by rfl) HE.out (by rfl) ?_; generalize hW1 : wr.alloc (.cells #[] 5) = W1; obtain ⟨gx, hgx⟩ : ∃ gx, gx = wr.heap.size := ⟨_, rfl⟩)
          have hx : W1.ownsRow wr.heap.size 5 1 (.slice (some ⟨gx, 0, none⟩) 0 0) 0 (vals tk) := by rw [← hW1, hgx, TK0.out]; exact HE.out
          have hp1 : PI w W1 gs gz T u5 := by rw [← hW1]; exact HP.out.later ((Below.refl _ _).alloc (Nat.le_refl _) _)
          rw [← hgx]
          clear hW1 hgx
          have hgx1 : wr.heap.size ≤ gx := (hx.lt gx rfl).1
          have hxs : gx ≠ gs := by have := HP.out.s.lt; omega
          have hxz : gx ≠ gz := by have := HP.out.z.lt; omega
          have hxv : u5.ownBlock ≠ some gx := fun e => by have := (HP.out.own.lt _ e).2; omega
          have HX := Lib.hid hx
          have HP1 := Lib.hid hp1
          clear hx hp1
          go_wp2_with fail
          refine (write_any T tk gs (some ⟨gx, 0, none⟩) 0 0 W1 HP1.out.s (Bytes.of_owns HX.out HT.out.ok) (fun _ a ha => by cases ha; exact hxs) (by have := HT.out.size; simp; omega)).mono ?_
          rintro _ W2 ⟨rfl, hs2, hg2⟩
          have hz2 : StateAt W2 gz T := HP1.out.z.grown hg2 HP1.out.ne
          have hx2 := HX.out.kept hg2 (Or.inr (by simp [Value.ownBlock]; exact hxs))
          have ho2 := HP1.out.own.kept hg2 (Or.inr (own_ne HP1.out.own HP1.out.s))
          have hb2 := HP1.out.below.grown hg2 HP1.out.below.size (fun k hk => by have := HP1.out.ls; simp at hk; omega)
          have HS2 := Lib.hid hs2
          have HZ2 := Lib.hid hz2
          have HX2 := Lib.hid hx2
          have HO2 := Lib.hid ho2
          have HB2 := Lib.hid hb2
          clear hs2 hz2 hx2 ho2 hb2 hg2
          go_wp2_with fail
          refine (write_any T tk gz (some ⟨gx, 0, none⟩) 0 0 W2 HZ2.out (Bytes.of_owns HX2.out HT.out.ok) (fun _ a ha => by cases ha; exact hxz) (by have := HT.out.size; simp; omega)).mono ?_
          rintro _ W3 ⟨rfl, hz3, hg3⟩
          have hs3 : StateAt W3 gs (T ++ tk) := HS2.out.grown hg3 (Ne.symm HP1.out.ne)
          have hx3 := HX2.out.kept hg3 (Or.inr (by simp [Value.ownBlock]; exact hxz))
          have ho3 := HO2.out.kept hg3 (Or.inr (own_ne HO2.out HZ2.out))
          have hb3 := HB2.out.grown hg3 HB2.out.size (fun k hk => by have := HP1.out.lz; simp at hk; omega)
          have HS3 := Lib.hid hs3
          have HZ3 := Lib.hid hz3
          have HX3 := Lib.hid hx3
          have HO3 := Lib.hid ho3
          have HB3 := Lib.hid hb3
          clear hs3 hz3 hx3 ho3 hb3 hg3
          have hcell3 : W3.cell? ⟨g, o + k, none⟩ = some (.slice none 0 0) := (HB3.out.cell (p := ⟨g, o + k, none⟩) hgw).trans HC.out
          go_wp2_with (at_builtin; refine wpList_append_own_none (w := W3) (by rfl) (.tmp 45) (.tmp 49) 22 (by rfl) w.heap.size 5 i5 1 A22 HI.out _ T.length (vals T) (by rfl) HO3.out (by rfl) ?_)
          have hT0 : T ++ tk = T := by rw [TK0.out, List.append_nil]
          have HP4 := Lib.hid (show PI w W3 gs gz (T ++ tk) u5 from ⟨HB3.out, HS3.out, HZ3.out, HP1.out.ls, HP1.out.lz, HP1.out.ne, by rw [hT0]; exact HO3.out⟩)
          have HX4 := HX3
          have HXV := Lib.hid hxv
          have HXB := Lib.hid (Nat.le_trans HP.out.below.size hgx1)
          clear hxv hT0
          have hI0 : IRel W3 gx 0 0 wr.heap.size (.int .i64 0) W3 := ⟨0, tk, by omega, rfl, World.grownBy.refl _ _, HT.out.size.symm, HT.out.ok, HX4.out⟩
          have HI0' := Lib.hid hI0
          clear hI0
          go_loopw [8] (fun i W5 => IRel W3 gx 0 0 wr.heap.size i W5) (fun i _ => 0 - (intOf i).toNat)
          case atStart => exact HI0'.out
          case round =>
            obtain ⟨j, B5, hj, rfl, hg5, hl5, hbo5, ho5⟩ := hrel
            by_cases hjn : j < 0
            · exact absurd hjn (by omega)
            · rename_i W5 _
              have hp5 : PI w _ gs gz (T ++ tk) u5 := HP4.out.grown hg5 hxs hxz HXV.out HXB.out
              obtain ⟨T', hT'⟩ : ∃ T', T' = T ++ tk := ⟨_, rfl⟩
              rw [← hT'] at hp5
              have hTl' : T'.length ≤ 500 * (k + 1) := by rw [hT']; have := HT.out.size; simp; omega
              have hTok : Sm.allB T' := by obtain ⟨_, _, hh, _⟩ := hp5.s; exact hh.ok
              obtain ⟨q', c', hv', _⟩ := owns_form hp5.own hTok
              have hne : ∀ w', (binOp .neq 25 (.agg (u8s (Sm.sum T'))) (.agg (u8s (Sm.sum T')))).run Try.prog w' = .ok (.bool false) w' := fun w' => by rw [digest_neq _ _ (sum_len _) (sum_len _)]; simp
              have HP5 := Lib.hid hp5
              have HTO := Lib.hid hTok
              have HV := Lib.hid hv'
              have hTb : T'.length < 576460752303423488 := by omega
              clear hp5 hTok hg5 hl5 hbo5 ho5 HI0' hT'
              rw [hv']
              clear hv'
              go_wp2_with fail
              refine (done_any T' gs _ HP5.out.s hTb).mono ?_
              rintro _ W6 ⟨rfl, hb6⟩
              have HP6 := Lib.hid (HP5.out.later hb6)
              clear hb6
              go_wp2_with fail
              have hby6 : Bytes W6 q' T'.length c' T' := by
                obtain ⟨q2, c2, hv2, hb2⟩ := owns_form HP6.out.own HTO.out
                rw [HV.out] at hv2
                obtain ⟨rfl, rfl⟩ : q' = q2 ∧ c' = c2 := by simpa using hv2
                exact hb2
              refine (sum_any T' q' T'.length c' W6 hby6 hTb).mono ?_
              rintro _ W7 ⟨rfl, hb7⟩
              have HP7 := Lib.hid (HP6.out.later hb7)
              clear hb7 hby6
              go_wp2_with fail
              refine (done_any T' gz W7 HP7.out.z hTb).mono ?_
              rintro _ W8 ⟨rfl, hb8⟩
              have HP8 := Lib.hid (HP7.out.later hb8)
              clear hb8
              go_wp2_with fail
              refine (done_any T' gs W8 HP8.out.s hTb).mono ?_
              rintro _ W9 ⟨rfl, hb9⟩
              have HP9 := Lib.hid (HP8.out.later hb9)
              clear hb9
              go_wp2_with fail
              refine (len_any T' gs W9 HP9.out.s).mono ?_
              rintro _ W10 ⟨rfl, rfl⟩
              go_wp2_with fail
              go_roundw
              case rel => exact ⟨k + 1, T', by omega, by omega, by go_num, hTl', by rw [← HV.out]; exact HP9.out⟩
              case measure => simp [intOf]; omega

        · subst hq
          clear hb hxx
          go_wp2_with (at_builtin; refine wpList_append_own_at (wr.alloc (.cells #[] 5)) (by rfl) (.tmp 33) (.tmp 37) 22 (by rfl) wr.heap.size 5 i5 (.int .u8 0) 1 1 A22 HI.out HI0.out HI1.out HI2.out (by rfl) (by decide) _ 0 [] (by rfl) HE.out xt n c (vals tk) (by rfl) (by rw [vals_length, Nat.mul_one]; exact HT.out.size.symm) ((HT.out.later ((HP.out.below).alloc HP.out.below.size _)).cells) (vals_one _) (by unfold maxLen; omega) (by omega) (by simp) ?_; intro x W1 hx hgx hnil hat)
          rw [Nat.zero_add, List.nil_append] at hx
          have hgx0 : (wr.alloc (.cells #[] 5)).grownBy W1 (some wr.heap.size) := hgx
          have hp1 : PI w W1 gs gz T u5 := (HP.out.later ((Below.refl _ _).alloc (Nat.le_refl _) _)).grown hgx0 (by have := HP.out.s.lt; omega) (by have := HP.out.z.lt; omega) (fun e => by have := (HP.out.own.lt _ e).2; omega) HP.out.below.size
          obtain ⟨gx, cx, rfl⟩ : ∃ gx cx, x = .slice (some ⟨gx, 0, none⟩) n cx := by
            rcases hx.2 with ⟨h0, _⟩ | ⟨g', cap', cur, hv, _⟩
            · exact absurd (hnil.1 h0).1 (by simp)
            · exact ⟨g', cap', hv⟩
          clear hnil hat hgx hgx0
          have hgx1 : wr.heap.size ≤ gx := (hx.lt gx rfl).1
          have hxs : gx ≠ gs := by have := HP.out.s.lt; omega
          have hxz : gx ≠ gz := by have := HP.out.z.lt; omega
          have hxv : u5.ownBlock ≠ some gx := fun e => by have := (HP.out.own.lt _ e).2; omega
          have HX := Lib.hid hx
          have HP1 := Lib.hid hp1
          clear hx hp1
          go_wp2_with fail
          refine (write_any T tk gs (some ⟨gx, 0, none⟩) n cx W1 HP1.out.s (Bytes.of_owns HX.out HT.out.ok) (fun _ a ha => by cases ha; exact hxs) (by have := HT.out.size; simp; omega)).mono ?_
          rintro _ W2 ⟨rfl, hs2, hg2⟩
          have hz2 : StateAt W2 gz T := HP1.out.z.grown hg2 HP1.out.ne
          have hx2 := HX.out.kept hg2 (Or.inr (by simp [Value.ownBlock]; exact hxs))
          have ho2 := HP1.out.own.kept hg2 (Or.inr (own_ne HP1.out.own HP1.out.s))
          have hb2 := HP1.out.below.grown hg2 HP1.out.below.size (fun k hk => by have := HP1.out.ls; simp at hk; omega)
          have HS2 := Lib.hid hs2
          have HZ2 := Lib.hid hz2
          have HX2 := Lib.hid hx2
          have HO2 := Lib.hid ho2
          have HB2 := Lib.hid hb2
          clear hs2 hz2 hx2 ho2 hb2 hg2
          go_wp2_with fail
          refine (write_any T tk gz (some ⟨gx, 0, none⟩) n cx W2 HZ2.out (Bytes.of_owns HX2.out HT.out.ok) (fun _ a ha => by cases ha; exact hxz) (by have := HT.out.size; simp; omega)).mono ?_
          rintro _ W3 ⟨rfl, hz3, hg3⟩
          have hs3 : StateAt W3 gs (T ++ tk) := HS2.out.grown hg3 (Ne.symm HP1.out.ne)
          have hx3 := HX2.out.kept hg3 (Or.inr (by simp [Value.ownBlock]; exact hxz))
          have ho3 := HO2.out.kept hg3 (Or.inr (own_ne HO2.out HZ2.out))
          have hb3 := HB2.out.grown hg3 HB2.out.size (fun k hk => by have := HP1.out.lz; simp at hk; omega)
          have HS3 := Lib.hid hs3
          have HZ3 := Lib.hid hz3
          have HX3 := Lib.hid hx3
          have HO3 := Lib.hid ho3
          have HB3 := Lib.hid hb3
          clear hs3 hz3 hx3 ho3 hb3 hg3
          have hcell3 : W3.cell? ⟨g, o + k, none⟩ = some (.slice (some xt) n c) := (HB3.out.cell (p := ⟨g, o + k, none⟩) hgw).trans HC.out
          go_wp2_with (at_builtin; refine wpList_append_own_at W3 (by rfl) (.tmp 45) (.tmp 49) 22 (by rfl) w.heap.size 5 i5 (.int .u8 0) 1 1 A22 HI.out HI0.out HI1.out HI2.out (by rfl) (by decide) _ T.length (vals T) (by rfl) HO3.out xt n c (vals tk) (by rfl) (by rw [vals_length, Nat.mul_one]; exact HT.out.size.symm) ((HT.out.later HB3.out).cells) (vals_one _) (by unfold maxLen; omega) (by omega) HB3.out.size ?_; intro v4 W4 ho4 hg4 _ hat4)
          rw [← vals_append, show T.length + n = (T ++ tk).length from by have := HT.out.size; simp; omega] at ho4
          have hx4 := HX3.out.kept hg4 (Or.inr (by simp only [Value.ownBlock]; intro e; exact hxv e.symm))
          have hs4 : StateAt W4 gs (T ++ tk) := by
            obtain ⟨a1, a2, a3, a4⟩ := HS3.out
            exact ⟨a1, a2, a3, (hg4.block _ (Array.getElem?_eq_some_iff.1 a4).1 (Ne.symm (own_ne HO3.out ⟨a1, a2, a3, a4⟩))).trans a4⟩
          have hz4 : StateAt W4 gz (T ++ tk) := by
            obtain ⟨a1, a2, a3, a4⟩ := HZ3.out
            exact ⟨a1, a2, a3, (hg4.block _ (Array.getElem?_eq_some_iff.1 a4).1 (Ne.symm (own_ne HO3.out ⟨a1, a2, a3, a4⟩))).trans a4⟩
          have hxv4 : v4.ownBlock ≠ some gx := by
            rcases hat4 with e | e
            · rw [e]; exact hxv
            · rw [e]; have := (HX3.out.lt gx rfl).2; intro e2; simp at e2; omega
          have hb4 := HB3.out.grown hg4 HB3.out.size (fun k hk => (HO3.out.lt k hk).1)
          have HP4 := Lib.hid (show PI w W4 gs gz (T ++ tk) v4 from ⟨hb4, hs4, hz4, HP1.out.ls, HP1.out.lz, HP1.out.ne, ho4⟩)
          have HX4 := Lib.hid hx4
          have HXV := Lib.hid hxv4
          have HXB := Lib.hid (Nat.le_trans HP.out.below.size hgx1)
          clear ho4 hx4 hs4 hz4 hb4 hg4 hat4 hxv hxv4
          have hI0 : IRel W4 gx n cx wr.heap.size (.int .i64 0) W4 := ⟨0, tk, by omega, rfl, World.grownBy.refl _ _, HT.out.size.symm, HT.out.ok, HX4.out⟩
          have HI0' := Lib.hid hI0
          clear hI0
          go_loopw [8] (fun i W5 => IRel W4 gx n cx wr.heap.size i W5) (fun i _ => n - (intOf i).toNat)
          case atStart => exact HI0'.out
          case round =>
            obtain ⟨j, B5, hj, rfl, hg5, hl5, hbo5, ho5⟩ := hrel
            by_cases hjn : j < n
            · have hby := Bytes.of_owns ho5 hbo5
              obtain ⟨g', o', hp', hx'⟩ := hby.ne (by intro e; rw [e] at hl5; simp at hl5; omega)
              obtain ⟨rfl, rfl⟩ : gx = g' ∧ 0 = o' := by simpa using hp'
              have hc5 := hx' j (by omega)
              rw [Nat.zero_add] at hc5
              have hf5 := ho5.frozenAt j
              obtain ⟨b5, hb5⟩ : ∃ b, b = B5.getD j 0 := ⟨_, rfl⟩
              rw [← hb5] at hc5
              have hst5 := ho5.stored j (.int .u8 (((b5 + 1) % 256 : Nat) : Int))
              rw [← vals_set] at hst5
              have HST5 := Lib.hid hst5
              have HG5 := Lib.hid hg5
              have HL5 := Lib.hid hl5
              have HBO5 := Lib.hid hbo5
              clear hby hp' hx' hb5 hst5 hg5 hl5 hbo5 ho5 HI0'
              go_wp2_with fail
              rw [show ((b5 : Int) + 1) % 256 = (((b5 + 1) % 256 : Nat) : Int) from by omega]
              go_roundw
              case rel => exact ⟨j + 1, _, by omega, by go_num, grown_twice HG5.out HST5.out.2, by rw [List.length_set]; exact HL5.out, set_ok HBO5.out _ _ (Nat.mod_lt _ (by omega)), HST5.out.1⟩
              case measure => simp [intOf]; omega
            · rename_i W5 _
              have hp5 : PI w _ gs gz (T ++ tk) v4 := HP4.out.grown hg5 hxs hxz HXV.out HXB.out
              obtain ⟨T', hT'⟩ : ∃ T', T' = T ++ tk := ⟨_, rfl⟩
              rw [← hT'] at hp5
              have hTl' : T'.length ≤ 500 * (k + 1) := by rw [hT']; have := HT.out.size; simp; omega
              have hTok : Sm.allB T' := by obtain ⟨_, _, hh, _⟩ := hp5.s; exact hh.ok
              obtain ⟨q', c', hv', _⟩ := owns_form hp5.own hTok
              have hne : ∀ w', (binOp .neq 25 (.agg (u8s (Sm.sum T'))) (.agg (u8s (Sm.sum T')))).run Try.prog w' = .ok (.bool false) w' := fun w' => by rw [digest_neq _ _ (sum_len _) (sum_len _)]; simp
              have HP5 := Lib.hid hp5
              have HTO := Lib.hid hTok
              have HV := Lib.hid hv'
              have hTb : T'.length < 576460752303423488 := by omega
              clear hp5 hTok hg5 hl5 hbo5 ho5 HI0' hT'
              rw [hv']
              clear hv'
              go_wp2_with fail
              refine (done_any T' gs _ HP5.out.s hTb).mono ?_
              rintro _ W6 ⟨rfl, hb6⟩
              have HP6 := Lib.hid (HP5.out.later hb6)
              clear hb6
              go_wp2_with fail
              have hby6 : Bytes W6 q' T'.length c' T' := by
                obtain ⟨q2, c2, hv2, hb2⟩ := owns_form HP6.out.own HTO.out
                rw [HV.out] at hv2
                obtain ⟨rfl, rfl⟩ : q' = q2 ∧ c' = c2 := by simpa using hv2
                exact hb2
              refine (sum_any T' q' T'.length c' W6 hby6 hTb).mono ?_
              rintro _ W7 ⟨rfl, hb7⟩
              have HP7 := Lib.hid (HP6.out.later hb7)
              clear hb7 hby6
              go_wp2_with fail
              refine (done_any T' gz W7 HP7.out.z hTb).mono ?_
              rintro _ W8 ⟨rfl, hb8⟩
              have HP8 := Lib.hid (HP7.out.later hb8)
              clear hb8
              go_wp2_with fail
              refine (done_any T' gs W8 HP8.out.s hTb).mono ?_
              rintro _ W9 ⟨rfl, hb9⟩
              have HP9 := Lib.hid (HP8.out.later hb9)
              clear hb9
              go_wp2_with fail
              refine (len_any T' gs W9 HP9.out.s).mono ?_
              rintro _ W10 ⟨rfl, rfl⟩
              go_wp2_with fail
              go_roundw
              case rel => exact ⟨k + 1, T', by omega, by omega, by go_num, hTl', by rw [← HV.out]; exact HP9.out⟩
              case measure => simp [intOf]; omega

    · have hTb : T.length < 576460752303423488 := by omega
      have hTok : Sm.allB T := by obtain ⟨_, _, hh, _⟩ := HP.out.s; exact hh.ok
      obtain ⟨q', c', hv', _⟩ := owns_form HP.out.own hTok
      have heq : ∀ w', (binOp .eql 25 (.agg (u8s (Sm.sum T))) (.agg (u8s (Sm.sum T)))).run Try.prog w' = .ok (.bool true) w' := fun w' => by rw [digest_eql _ _ (sum_len _) (sum_len _)]; simp
      have heq0 : ∀ w', (binOp .eql 25 (.agg (u8s (Sm.sum []))) (.agg (u8s (Sm.sum [])))).run Try.prog w' = .ok (.bool true) w' := fun w' => by rw [digest_eql _ _ (sum_len _) (sum_len _)]; simp
      have HTO := Lib.hid hTok
      have HV := Lib.hid hv'
      clear hTok
      rw [hv']
      clear hv'
      by_cases hA : k < len
      all_goals
        first
          | (have hB : ¬ k < 20 := fun h => hlt ⟨hA, h⟩)
          | skip
        clear hlt
        go_wp2_with (refine wpList_build (by rfl) 36 _ (by rfl) (by as_aux_lemma => kernel_rfl) ?_)
        rw [built0, Option.getD_some]
        have HP1 := Lib.hid (HP.out.later ((Below.refl wr.heap.size wr).alloc (Nat.le_refl _) (.cells (stL zero8 (zeros 64) 0).toArray 36)))
        have HE1 := Lib.hid (state_zero (heap_alloc_new wr (.cells (stL zero8 (zeros 64) 0).toArray 36)))
        refine (done_any T gs _ HP1.out.s hTb).mono ?_
        rintro _ W6 ⟨rfl, hb6⟩
        have HP6 := Lib.hid (HP1.out.later hb6)
        have HE6 := Lib.hid (HE1.out.later hb6)
        clear hb6
        go_wp2_with fail
        have hby6 : Bytes W6 q' T.length c' T := by
          obtain ⟨q2, c2, hv2, hb2⟩ := owns_form HP6.out.own HTO.out
          rw [HV.out] at hv2
          obtain ⟨rfl, rfl⟩ : q' = q2 ∧ c' = c2 := by simpa using hv2
          exact hb2
        refine (sum_any T q' T.length c' W6 hby6 hTb).mono ?_
        rintro _ W7 ⟨rfl, hb7⟩
        have HP7 := Lib.hid (HP6.out.later hb7)
        have HE7 := Lib.hid (HE6.out.later hb7)
        clear hb7 hby6
        go_wp2_with fail
        refine (done_any [] wr.heap.size W7 HE7.out (by simp)).mono ?_
        rintro _ W8 ⟨rfl, hb8⟩
        have HP8 := Lib.hid (HP7.out.later hb8)
        clear hb8
        go_wp2_with fail
        refine (sum_any [] none 0 0 W8 ⟨rfl, Nat.le_refl _, fun x hx => by simp at hx, Or.inl ⟨rfl, rfl⟩⟩ (by simp)).mono ?_
        rintro _ W9 ⟨rfl, hb9⟩
        have HP9 := Lib.hid (HP8.out.later hb9)
        clear hb9
        go_wp2_with fail
        go_ret
        exact ⟨rfl, HP9.out.below⟩
end Go.Proofs.Ytffjmkbglhcblaa
