/- BoxRefF, BoxRows, AkOpen, DistMath, BoxRefC, BoxEach, GenCmp, BoxOrd, BoxRefD, BoxRefE, Dist1B, Dist5B, Dist6B, BoxLeastKey, BoxPlace, BoxStable. -/
import Derived.Test.YtnigfipjcnamfaaM1
import Derived.SizedLaws
import Derived.OpenShut
import Derived.Deep.Slices
import Derived.Sort.LotA
/- indentureref04.SameRows; lists of rows that lie in memory. -/
namespace Go.Proofs.Ytnigfipjcnamfaa
open Go.RowKit

/-- The numbers of the rows. -/
def nums (L : List Rw) : List (List Int) := L.map Rw.R
theorem nums_take_succ (L : List Rw) (k : Nat) (h : k < L.length) : nums (L.take (k + 1)) = nums (L.take k) ++ [(L.getD k default).R] := by
  unfold nums
  rw [List.take_succ_eq_append_getElem h, List.map_append, List.getD_eq_getElem?_getD, List.getElem?_eq_getElem h]
  rfl
def SrsRel (w : World) (L M : List Rw) (n : Nat) (i : Value) (wr : World) : Prop := ∃ k j : Nat, k ≤ n ∧ i = .int .i64 k ∧ nums (L.take k) = nums (M.take k) ∧ wr = w.drewN j
theorem nums_ne {L M : List Rw} {k : Nat} (hk : k < L.length) (hm : k < M.length) (h : ¬ (L.getD k default).R = (M.getD k default).R) : ¬ nums L = nums M := fun e => by
  have := congrArg (fun l => l.getD k []) e
  simp [nums, List.getD_eq_getElem?_getD, hk, hm] at this h
  exact h this
set_option maxRecDepth 100000 in
set_option maxHeartbeats 4000000 in
theorem samerows_any (p q : Option Addr) (n c m e : Nat) (L M : List Rw) (w : World) (h : RowsIn w p n c L) (h2 : RowsIn w q m e M) (hn9 : n ≤ 9223372036854775807) :
    Calls Try.prog 17 #[.slice p n c, .slice q m e] w fun e w' => e = .returned (.bool (decide (nums L = nums M))) ∧ ∃ j, w' = w.drewN j := by
  have H1 := Lib.hid h
  have H2 := Lib.hid h2
  clear h h2
  by_cases hn : (n : Int) = m
  case neg =>
    have HNE := Lib.hid (show ¬ nums L = nums M from fun h => hn (by
      have := congrArg List.length h
      simp [nums] at this
      rw [H1.out.size, H2.out.size, this]))
    go_enter Try.func17, Try.ntmps17
    go_wp2_with fail
    go_ret
    exact ⟨ret_ndec HNE.out, 0, rfl⟩
  obtain rfl : m = n := by omega
  go_enter Try.func17, Try.ntmps17
  go_wp2_with fail
  go_loopw [5] (fun i wr => SrsRel w L M m i wr) (fun i _ => m - (intOf i).toNat)
  case atStart => exact ⟨0, 0, by omega, rfl, rfl, rfl⟩
  case round =>
    obtain ⟨k, j, hk, rfl, heq, hwr⟩ := hrel
    have HL := Lib.hid heq
    have HW := Lib.hid hwr
    have G1 := Lib.hid (show RowsIn wr p m c L by rw [hwr]; exact H1.out.later (Below.drewN (Below.refl _ _) j))
    have G2 := Lib.hid (show RowsIn wr q m e M by rw [hwr]; exact H2.out.later (Below.drewN (Below.refl _ _) j))
    clear heq hwr
    by_cases hlt : k < m
    · obtain ⟨gx, o, rfl, hcx, hox⟩ := G1.out.cell k hlt
      obtain ⟨gy, o2, rfl, hcy, hoy⟩ := G2.out.cell k hlt
      have hkL : k < L.length := by rw [← H1.out.size]; exact hlt
      have hkM : k < M.length := by rw [← H2.out.size]; exact hlt
      have i1 : (0 : Int) ≤ k ∧ (k : Int) < m := by omega
      have HS1 := Lib.hid (nums_take_succ L k hkL)
      have HS2 := Lib.hid (nums_take_succ M k hkM)
      have HF := Lib.hid (fun h => nums_ne (L := L) (M := M) hkL hkM h)
      obtain ⟨t, htt⟩ : ∃ t, t = L.getD k default := ⟨_, rfl⟩
      obtain ⟨u, huu⟩ : ∃ u, u = M.getD k default := ⟨_, rfl⟩
      rw [← htt] at hcx hox HS1 HF
      rw [← huu] at hcy hoy HS2 HF
      unfold Rw.val at hcx hcy
      have hcall : ∀ i, Calls Try.prog 36 #[.slice t.p t.n t.c, .slice u.p u.n u.c] (wr.drewN i) fun e w' => e = .returned (.bool (decide (t.R = u.R))) ∧ ∃ m, w' = (wr.drewN i).drewN m := fun i =>
        samerow_any _ _ _ _ _ _ _ _ (wr.drewN i) (hox.ints.later (Below.drewN (Below.refl _ _) i)) (hoy.ints.later (Below.drewN (Below.refl _ _) i)) hox.top
      clear htt huu hox hoy hkL hkM
      by_cases hxy : t.R = u.R
      · rw [decide_eq_true hxy] at hcall
        have HC := Lib.hid hcall
        have HXY := Lib.hid hxy
        clear hcall hxy
        go_upto_region 6 with fail
        go_quiet ((go_at_call 36; exact Calls.quiet_of (HC.out _)))
        go_wp2_with fail
        go_roundw
        case rel => exact ⟨k + 1, j + nq, by omega, by go_num, by rw [HS1.out, HS2.out, HL.out, HXY.out], by rw [HW.out, World.drewN_drewN]⟩
        case measure => simp [intOf]; omega
      · rw [decide_eq_false hxy] at hcall
        have HC := Lib.hid hcall
        have HN := Lib.hid (HF.out hxy)
        clear hcall hxy
        go_upto_region 6 with fail
        go_quiet ((go_at_call 36; exact Calls.quiet_of (HC.out _)))
        go_wp2_with fail
        go_ret
        exact ⟨ret_ndec HN.out, j + nq, by rw [HW.out, World.drewN_drewN]⟩
    · obtain rfl : k = m := by omega
      have he := HL.out
      rw [List.take_of_length_le (by rw [H1.out.size]; exact Nat.le_refl _), List.take_of_length_le (by rw [H2.out.size]; exact Nat.le_refl _)] at he
      have HE := Lib.hid he
      clear he
      go_wp2_with fail
      go_ret
      exact ⟨ret_dec HE.out, j, HW.out⟩
end Go.Proofs.Ytnigfipjcnamfaa

/- An argument that is a list of rows, opened. -/
namespace Go.Proofs.Ytnigfipjcnamfaa
open Go.ChangeShapes Go.WideShapes Go.ChangeAt Go.RowKit Go.Deep

theorem URs : Try.prog.underlying 30 = some (.slice 23) := by kernel_rfl
/-- A list of rows, as the reading has it. -/
theorem open_rows {H : Type} {enc : TypeId × Value → H} {W : World} {base : Nat} {held : Bool} {fuel : Nat} {a0 : Option Addr} {len0 cap0 : Nat} {x : DataW H × List MemPlace}
    (h : DataW.trod enc Try.prog W base (fun _ => true) held fuel 30 (Value.slice a0 len0 cap0).cells.toList = some x) : (∃ L, RowsIn W a0 len0 cap0 L) ∧ len0 ≤ 9223372036854775807 := by
  rcases open_int_rows URs UR UI64 CRow CI64 h with ⟨hcs, _⟩ | ⟨a, len, cap, A, L, C, Z, hcs, _, hl, hm, _, hx⟩
  · simp [Value.cells] at hcs
    obtain ⟨rfl, rfl, rfl⟩ := hcs
    exact ⟨⟨[], ⟨rfl, Nat.le_refl _, fun t ht => absurd ht (by simp), Or.inl rfl⟩⟩, by omega⟩
  · simp [Value.cells] at hcs
    obtain ⟨rfl, rfl, rfl⟩ := hcs
    have hok : ∀ r, r < len0 → Rw.Ok W ⟨A r, L r, C r, (Z r).take (L r)⟩ := fun r hr => by
      obtain ⟨h1, h2, h3, h4, h5, h6, h7⟩ := hx r (by omega)
      refine ⟨⟨by show L r = _; rw [List.length_take]; omega, h2, fun y hy => bounds_i64 (h5 y (List.mem_of_mem_take hy)), ?_⟩, by show L r ≤ _; unfold maxLen at h3; omega⟩
      rcases Nat.eq_zero_or_pos (L r) with h0 | h0
      · exact Or.inl (by rw [h0, List.take_zero])
      · cases hA : A r with
        | none => have := h6 hA; exact absurd h0 (by omega)
        | some a' =>
          have h8 := (h7 a' hA).2
          have hsp := World.cell?_spot (h8 0 (by omega))
          obtain ⟨g, o, spot⟩ := a'
          have hspot : spot = none := by simpa [Addr.add] using hsp
          subst hspot
          refine Or.inr ⟨g, o, rfl, fun i hi => ?_⟩
          rw [List.length_take] at hi
          have := h8 i (by omega)
          rw [show (⟨g, o, none⟩ : Addr).add i = ⟨g, o + i, none⟩ from by unfold Addr.add; split <;> simp_all] at this
          rw [this, List.getD_eq_getElem?_getD, List.getD_eq_getElem?_getD, List.getElem?_take_of_lt (by omega)]
    refine ⟨⟨(List.range len0).map fun r => ⟨A r, L r, C r, (Z r).take (L r)⟩, ⟨by simp, hl, fun t ht => ?_, ?_⟩⟩, by unfold maxLen at hm; omega⟩
    · simp only [List.mem_map, List.mem_range] at ht
      obtain ⟨r, hr, rfl⟩ := ht
      exact hok r hr
    · rcases Nat.eq_zero_or_pos len0 with h0 | h0
      · exact Or.inl (by subst h0; rfl)
      · obtain ⟨g, o, spot⟩ := a
        have hspot : spot = none := by simpa [Addr.add] using World.cell?_spot (hx 0 (by omega)).1
        subst hspot
        refine Or.inr ⟨g, o, rfl, fun i hi => ?_⟩
        have hi' : i < len0 := by simpa using hi
        have h1 := (hx i (by omega)).1
        rw [← Addr.add_mid]
        simp only [List.getD_eq_getElem?_getD, List.getElem?_map, List.getElem?_range hi', Option.map_some, Option.getD_some, Rw.val]
        exact h1
theorem bytesI64 : Try.prog.bytesOf 2 = 8 := by kernel_rfl
theorem weightsAll_in {H : Type} {P : Program} {e : TypeId} : ∀ {l : List (DataW H)} {d : DataW H}, d ∈ l → ∀ n ∈ d.weights P e, n ∈ DataW.weightsAll P e l
  | d' :: r, d, hd, n, hn => by
    simp only [DataW.weightsAll, List.mem_append]
    rcases List.mem_cons.1 hd with rfl | h
    · exact Or.inl hn
    · exact Or.inr (weightsAll_in h n hn)
/-- What a row inside a list that is read takes at most. -/
theorem sized_row {H : Type} {P : Program} {ts : List TypeId} {ds : List (DataW H)} (h : (DataW.weightsEach P ts ds).all (· ≤ reachBytes) = true) {j : Nat} {t e q : TypeId} {elems spare e' sp' : List (DataW H)}
    (ht : ts[j]? = some t) (hd : ds[j]? = some (.slice elems spare)) (hu : P.underlying t = some (.slice e)) (hu2 : P.underlying e = some (.slice q)) (hx : DataW.slice e' sp' ∈ elems) : (e'.length + sp'.length) * P.bytesOf q ≤ reachBytes := by
  refine of_decide_eq_true (List.all_eq_true.1 h _ (DataW.weights_mem_each ht hd _ ?_))
  simp only [DataW.weights, hu, List.mem_cons, List.mem_append]
  exact Or.inr (Or.inl (weightsAll_in hx _ (by simp [DataW.weights, hu2])))
theorem open_rows2 {H : Type} {enc : TypeId × Value → H} {W : World} {base : Nat} {held : Bool} {fuel : Nat} {a0 : Option Addr} {len0 cap0 : Nat} {x : DataW H × List MemPlace} {ts : List TypeId} {ds : List (DataW H)} {j : Nat}
    (h : DataW.trod enc Try.prog W base (fun _ => true) held fuel 30 (Value.slice a0 len0 cap0).cells.toList = some x) (hsz : (DataW.weightsEach Try.prog ts ds).all (· ≤ reachBytes) = true) (ht : ts[j]? = some 30) (hd : ds[j]? = some x.1) :
    (∃ L, RowsIn W a0 len0 cap0 L ∧ ∀ t ∈ L, (t.p = none → t.c = 0) ∧ t.c * 8 ≤ 140737488351232) ∧ len0 ≤ 9223372036854775807 := by
  rcases open_int_rows URs UR UI64 CRow CI64 h with ⟨hcs, _⟩ | ⟨a, len, cap, A, L, C, Z, hcs, _, hl, hm, hx1, hx⟩
  · simp [Value.cells] at hcs
    obtain ⟨rfl, rfl, rfl⟩ := hcs
    exact ⟨⟨[], ⟨rfl, Nat.le_refl _, fun t ht => absurd ht (by simp), Or.inl rfl⟩, fun t ht => absurd ht (by simp)⟩, by omega⟩
  · simp [Value.cells] at hcs
    obtain ⟨rfl, rfl, rfl⟩ := hcs
    have hreach : ∀ r, r < len0 → C r * 8 ≤ 140737488351232 := fun r hr => by
      obtain ⟨h1, h2, h3, h4, h5, h6, h7⟩ := hx r (by omega)
      cases hA : A r with
      | none => rw [h6 hA]; omega
      | some a' =>
        rw [hx1] at hd
        have := sized_row (e' := lits .i64 ((Z r).take (L r))) (sp' := lits .i64 ((Z r).drop (L r))) hsz ht hd URs UR (by
          rw [List.mem_map]
          exact ⟨r, List.mem_range.2 hr, by rw [hA]; rfl⟩)
        rw [bytesI64] at this
        simp only [lits, List.length_map, List.length_take, List.length_drop, reachBytes] at this
        omega
    have hok : ∀ r, r < len0 → Rw.Ok W ⟨A r, L r, C r, (Z r).take (L r)⟩ := fun r hr => by
      obtain ⟨h1, h2, h3, h4, h5, h6, h7⟩ := hx r (by omega)
      refine ⟨⟨by show L r = _; rw [List.length_take]; omega, h2, fun y hy => bounds_i64 (h5 y (List.mem_of_mem_take hy)), ?_⟩, by show L r ≤ _; unfold maxLen at h3; omega⟩
      rcases Nat.eq_zero_or_pos (L r) with h0 | h0
      · exact Or.inl (by rw [h0, List.take_zero])
      · cases hA : A r with
        | none => have := h6 hA; exact absurd h0 (by omega)
        | some a' =>
          have h8 := (h7 a' hA).2
          have hsp := World.cell?_spot (h8 0 (by omega))
          obtain ⟨g, o, spot⟩ := a'
          have hspot : spot = none := by simpa [Addr.add] using hsp
          subst hspot
          refine Or.inr ⟨g, o, rfl, fun i hi => ?_⟩
          rw [List.length_take] at hi
          have := h8 i (by omega)
          rw [Addr.add_mid] at this
          rw [this, List.getD_eq_getElem?_getD, List.getD_eq_getElem?_getD, List.getElem?_take_of_lt (by omega)]
    refine ⟨⟨(List.range len0).map fun r => ⟨A r, L r, C r, (Z r).take (L r)⟩, ⟨by simp, hl, fun t ht => ?_, ?_⟩, fun t ht => ?_⟩, by unfold maxLen at hm; omega⟩
    · simp only [List.mem_map, List.mem_range] at ht
      obtain ⟨r, hr, rfl⟩ := ht
      exact hok r hr
    · rcases Nat.eq_zero_or_pos len0 with h0 | h0
      · exact Or.inl (by subst h0; rfl)
      · obtain ⟨g, o, spot⟩ := a
        have hspot : spot = none := by simpa [Addr.add] using World.cell?_spot (hx 0 (by omega)).1
        subst hspot
        refine Or.inr ⟨g, o, rfl, fun i hi => ?_⟩
        have hi' : i < len0 := by simpa using hi
        have h1 := (hx i (by omega)).1
        rw [← Addr.add_mid]
        simp only [List.getD_eq_getElem?_getD, List.getElem?_map, List.getElem?_range hi', Option.map_some, Option.getD_some, Rw.val]
        exact h1
    · simp only [List.mem_map, List.mem_range] at ht
      obtain ⟨r, hr, rfl⟩ := ht
      exact ⟨fun hA => (hx r (by omega)).2.2.2.2.2.1 hA, hreach r hr⟩
end Go.Proofs.Ytnigfipjcnamfaa

/- Arguments opened: a query, a kid. -/
namespace Go.Proofs.Ytnigfipjcnamfaa.Ak
open Go.ChangeShapes Go.WideShapes Go.ChangeAt Go.RowKit Go.Deep

theorem FQ : fieldsOf (Try.prog.underlying 29) = some [(0, 25), (2, 27), (5, 3), (6, 4)] := by kernel_rfl
theorem FK : fieldsOf (Try.prog.underlying 44) = some [(0, 42), (32, 25), (34, 3), (35, 3), (36, 23)] := by kernel_rfl
theorem CQ : Try.prog.cellsOf 29 = 7 := by kernel_rfl
theorem CK : Try.prog.cellsOf 44 = 37 := by kernel_rfl
theorem CBl : Try.prog.cellsOf 4 = 1 := by kernel_rfl
theorem CDg : Try.prog.cellsOf 42 = 32 := by kernel_rfl
theorem UBl : Try.prog.underlying 4 = some .bool := by kernel_rfl
section
variable {H : Type} {enc : TypeId × Value → H} {W : World} {base : Nat} {held : Bool} {fuel : Nat} {cs : List Value} {x : DataW H × List MemPlace}
set_option maxRecDepth 100000 in
theorem trod_fields {t : TypeId} {l : List (Nat × TypeId)} (hF : fieldsOf (Try.prog.underlying t) = some l) (h : DataW.trod enc Try.prog W base (fun _ => true) held fuel t cs = some x) :
    cs.length = Try.prog.cellsOf t ∧ ∃ n, ∀ (i o : Nat) (u : TypeId), l[i]? = some (o, u) → ∃ y, DataW.trod enc Try.prog W base (fun _ => true) held n u ((cs.drop o).take (Try.prog.cellsOf u)) = some y := by
  unfold fieldsOf at hF
  split at hF
  case h_2 => cases hF
  case h_1 fs hu =>
  simp only [Option.some.injEq] at hF
  obtain ⟨xs, n, _, _, hlen, hxs, hf⟩ := DataW.trod_struct hu h
  refine ⟨hlen, n, fun i o t hi => ?_⟩
  obtain ⟨f, h1, h2, h3⟩ := field_at hF hi
  have h4 := hf i f h1
  rw [h2, h3] at h4
  have hlt : i < xs.length := by rw [hxs]; exact (Array.getElem?_eq_some_iff.1 h1).1
  exact ⟨xs[i], by rw [h4, List.getElem?_eq_getElem hlt]⟩
set_option maxRecDepth 100000 in
theorem cut7 (cs : List Value) (h : cs.length = 7) : cs = (cs.take 2 ++ (cs.drop 2).take 3) ++ ((cs.drop 5).take 1 ++ (cs.drop 6).take 1) := by
  match cs, h with
  | [c0, c1, c2, c3, c4, c5, c6], _ => rfl
set_option maxRecDepth 100000 in
theorem cells_query (h : DataW.trod enc Try.prog W base (fun _ => true) held fuel 29 cs = some x) : ∃ p n c R q m e S kd cl a an ac A lim cnt, cs = [.slice p n c, .slice q m e, .int .u8 kd, .int .i64 cl, .slice a an ac, .int .i64 lim, .bool cnt] ∧
    (Ints W p n c R ∧ Ints W q m e S ∧ Ints W a an ac A) ∧ (0 ≤ kd ∧ kd ≤ 255) ∧ (-9223372036854775808 ≤ cl ∧ cl ≤ 9223372036854775807) ∧ (-9223372036854775808 ≤ lim ∧ lim ≤ 9223372036854775807) ∧ n ≤ 9223372036854775807 ∧ m ≤ 9223372036854775807 ∧ an ≤ 9223372036854775807 := by
  obtain ⟨hlen, n, get⟩ := trod_fields FQ h
  rw [CQ] at hlen
  obtain ⟨y0, h0⟩ := get 0 0 _ rfl
  obtain ⟨y1, h1⟩ := get 1 2 _ rfl
  obtain ⟨y2, h2⟩ := get 2 5 _ rfl
  obtain ⟨y3, h3⟩ := get 3 6 _ rfl
  rw [CB] at h0
  rw [CO] at h1
  rw [CInt] at h2
  rw [CBl] at h3
  obtain ⟨p, n, c, R, q, m, d, S, e0, hR, hS, hn, hm⟩ := cells_box h0
  obtain ⟨kd, cl, a, an, ac, A, e1, hk, hc, hA, han⟩ := cells_order h1
  obtain ⟨lim, e2, _, w2⟩ := DataW.trod_int UInt h2
  obtain ⟨cnt, e3, _⟩ := DataW.trod_bool UBl h3
  have b2 := bounds_i64 w2
  refine ⟨p, n, c, R, q, m, d, S, kd, cl, a, an, ac, A, lim, cnt, ?_, ⟨hR, hS, hA⟩, hk, hc, by omega, hn, hm, han⟩
  rw [cut7 cs hlen]
  rw [List.drop_zero] at e0
  rw [e0, e1, e2, e3]
  rfl
set_option maxRecDepth 100000 in
theorem cut37 (cs : List Value) (h : cs.length = 37) : cs = cs.take 32 ++ (((cs.drop 32).take 2 ++ (cs.drop 34).take 1) ++ ((cs.drop 35).take 1 ++ (cs.drop 36).take 1)) := by
  have e : ∀ (a b : Nat), cs.drop a = (cs.drop a).take b ++ cs.drop (a + b) := fun a b => by rw [← List.drop_drop]; exact (List.take_append_drop b _).symm
  have h36 : (cs.drop 36).take 1 = cs.drop 36 := List.take_of_length_le (by rw [List.length_drop]; omega)
  rw [h36, List.append_assoc, ← e 35 1, ← e 34 1, ← e 32 2]
  exact (List.take_append_drop 32 cs).symm
set_option maxRecDepth 100000 in
theorem cells_kid (h : DataW.trod enc Try.prog W base (fun _ => true) held fuel 44 cs = some x) : ∃ (D : List Value) (p : Option Addr) (n c : Nat) (R : List Int) (q : Option Addr) (m e : Nat) (S : List Int) (lv sz : Int) (a : Option Addr) (an ac : Nat) (A : List Int), D.length = 32 ∧ cs = D ++ [.slice p n c, .slice q m e, .int .i64 lv, .int .i64 sz, .slice a an ac] ∧
    (Ints W p n c R ∧ Ints W q m e S ∧ Ints W a an ac A) ∧ (-9223372036854775808 ≤ lv ∧ lv ≤ 9223372036854775807) ∧ n ≤ 9223372036854775807 ∧ m ≤ 9223372036854775807 ∧ an ≤ 9223372036854775807 := by
  obtain ⟨hlen, n, get⟩ := trod_fields FK h
  rw [CK] at hlen
  obtain ⟨y0, h0⟩ := get 1 32 _ rfl
  obtain ⟨y1, h1⟩ := get 2 34 _ rfl
  obtain ⟨y2, h2⟩ := get 3 35 _ rfl
  obtain ⟨y3, h3⟩ := get 4 36 _ rfl
  rw [CB] at h0
  rw [CInt] at h1 h2
  rw [CRow] at h3
  obtain ⟨p, n, c, R, q, m, d, S, e0, hR, hS, hn, hm⟩ := cells_box h0
  obtain ⟨lv, e1, _, w1⟩ := DataW.trod_int UInt h1
  obtain ⟨sz, e2, _, _⟩ := DataW.trod_int UInt h2
  obtain ⟨a, an, ac, A, e3, hA, han⟩ := cells_row h3
  have b1 := bounds_i64 w1
  refine ⟨cs.take 32, p, n, c, R, q, m, d, S, lv, sz, a, an, ac, A, by rw [List.length_take]; omega, ?_, ⟨hR, hS, hA⟩, by omega, hn, hm, han⟩
  conv => lhs; rw [cut37 cs hlen]
  rw [e0, e1, e2, e3]
  rfl
end
set_option maxRecDepth 100000 in
theorem open_query {H : Type} {enc : TypeId × Value → H} {W : World} {base b0 : Nat} {held : Bool} {r : Reach} {v : Value} {d : DataW H} {ps : List MemPlace}
    (hv : Value.okWide Try.prog W r b0 29 v) (h : DataW.Trod enc Try.prog W base (fun _ => true) held 29 v d ps) : ∃ p n c R q m e S kd cl a an ac A lim cnt, v = .agg #[.slice p n c, .slice q m e, .int .u8 kd, .int .i64 cl, .slice a an ac, .int .i64 lim, .bool cnt] ∧
    (Ints W p n c R ∧ Ints W q m e S ∧ Ints W a an ac A) ∧ (0 ≤ kd ∧ kd ≤ 255) ∧ (-9223372036854775808 ≤ cl ∧ cl ≤ 9223372036854775807) ∧ (-9223372036854775808 ≤ lim ∧ lim ≤ 9223372036854775807) ∧ n ≤ 9223372036854775807 ∧ m ≤ 9223372036854775807 ∧ an ≤ 9223372036854775807 := by
  have hp := FQ
  unfold fieldsOf at hp
  split at hp
  case h_2 => cases hp
  case h_1 fs hu =>
  simp only [Value.okWide, hu] at hv
  obtain ⟨cs, rfl, _, _⟩ := hv
  obtain ⟨fuel, hf⟩ := h
  obtain ⟨p, n, c, R, q, m, e, S, kd, cl, a, an, ac, A, lim, cnt, he, r⟩ := cells_query hf
  exact ⟨p, n, c, R, q, m, e, S, kd, cl, a, an, ac, A, lim, cnt, congrArg Value.agg (Array.ext' he), r⟩
set_option maxRecDepth 100000 in
theorem open_kid {H : Type} {enc : TypeId × Value → H} {W : World} {base b0 : Nat} {held : Bool} {r : Reach} {v : Value} {d : DataW H} {ps : List MemPlace}
    (hv : Value.okWide Try.prog W r b0 44 v) (h : DataW.Trod enc Try.prog W base (fun _ => true) held 44 v d ps) : ∃ (D : List Value) (p : Option Addr) (n c : Nat) (R : List Int) (q : Option Addr) (m e : Nat) (S : List Int) (lv sz : Int) (a : Option Addr) (an ac : Nat) (A : List Int), D.length = 32 ∧ v = .agg (D ++ ([.slice p n c, .slice q m e, .int .i64 lv, .int .i64 sz, .slice a an ac] : List Value)).toArray ∧
    (Ints W p n c R ∧ Ints W q m e S ∧ Ints W a an ac A) ∧ (-9223372036854775808 ≤ lv ∧ lv ≤ 9223372036854775807) ∧ n ≤ 9223372036854775807 ∧ m ≤ 9223372036854775807 ∧ an ≤ 9223372036854775807 := by
  have hp := FK
  unfold fieldsOf at hp
  split at hp
  case h_2 => cases hp
  case h_1 fs hu =>
  simp only [Value.okWide, hu] at hv
  obtain ⟨cs, rfl, _, _⟩ := hv
  obtain ⟨fuel, hf⟩ := h
  obtain ⟨D, p, n, c, R, q, m, e, S, lv, sz, a, an, ac, A, hD, he, r⟩ := cells_kid hf
  exact ⟨D, p, n, c, R, q, m, e, S, lv, sz, a, an, ac, A, hD, congrArg Value.agg (Array.ext' (by exact he)), r⟩
end Go.Proofs.Ytnigfipjcnamfaa.Ak

/- Plain arithmetic of distances: no Go in sight. -/
namespace Go.Proofs.Ytnigfipjcnamfaa

theorem apart_comm (a b : Int) : apart a b = apart b a := by unfold apart; split <;> split <;> omega
theorem apart_tri (a b c : Int) : apart a b ≤ apart a c + apart c b := by unfold apart; split <;> split <;> split <;> omega
theorem apart_nonneg (a b : Int) : 0 ≤ apart a b := by unfold apart; split <;> omega
theorem apart_zero (a b : Int) : apart a b = 0 ↔ a = b := by unfold apart; split <;> omega
theorem tot_nonneg (f : Nat → Int) : ∀ n, (∀ k, k < n → 0 ≤ f k) → 0 ≤ tot f n
  | 0, _ => Int.le_refl 0
  | n + 1, h => by
    have := tot_nonneg f n (fun k hk => h k (by omega))
    have := h n (by omega)
    rw [tot_succ]; omega
theorem tot_lt (f : Nat → Int) : ∀ n : Nat, (∀ k, k < n → f k < 18446744073709551616) → tot f n ≤ n * 18446744073709551616
  | 0, _ => by show (0 : Int) ≤ _; omega
  | n + 1, h => by
    have := tot_lt f n (fun k hk => h k (by omega))
    have := h n (by omega)
    rw [tot_succ]; omega
theorem tot_mono (f g : Nat → Int) : ∀ n, (∀ k, k < n → f k ≤ g k) → tot f n ≤ tot g n
  | 0, _ => Int.le_refl 0
  | n + 1, h => by
    have := tot_mono f g n (fun k hk => h k (by omega))
    have := h n (by omega)
    rw [tot_succ, tot_succ]; omega
theorem tot_add (f g : Nat → Int) : ∀ n, tot (fun k => f k + g k) n = tot f n + tot g n
  | 0 => rfl
  | n + 1 => by
    have := tot_add f g n
    rw [tot_succ, tot_succ, tot_succ, this]; omega
theorem tot_zero (f : Nat → Int) : ∀ n, (∀ k, k < n → 0 ≤ f k) → (tot f n = 0 ↔ ∀ k, k < n → f k = 0)
  | 0, _ => ⟨fun _ k hk => by omega, fun _ => rfl⟩
  | n + 1, h => by
    have ih := tot_zero f n (fun k hk => h k (by omega))
    have h1 := tot_nonneg f n (fun k hk => h k (by omega))
    have h2 := h n (by omega)
    rw [tot_succ]
    constructor
    · intro e k hk
      have e1 : tot f n = 0 := by omega
      have e2 : f n = 0 := by omega
      by_cases hkn : k = n
      · rw [hkn]; exact e2
      · exact ih.1 e1 k (by omega)
    · intro e
      rw [ih.2 (fun k hk => e k (by omega)), e n (by omega)]
      rfl
theorem zero_eqs (P Q : List Int) (n : Nat) : tot (fun k => apart (P.getD k 0) (Q.getD k 0)) n = 0 ↔ eqs P Q n = true := by
  rw [tot_zero _ n (fun k _ => apart_nonneg _ _), eqs_iff]
  exact ⟨fun h k hk => (apart_zero _ _).1 (h k hk), fun h k hk => (apart_zero _ _).2 (h k hk)⟩
theorem dV_inj {a : Int} {hi lo : Int} (h : dV a = .agg #[.int .u64 hi, .int .u64 lo]) : hi = a / 18446744073709551616 % 18446744073709551616 ∧ lo = a % 18446744073709551616 := by
  unfold dV at h
  simp only [Value.agg.injEq, Array.mk.injEq, List.cons.injEq, Value.int.injEq, true_and, and_true] at h
  exact ⟨h.1.symm, h.2.symm⟩
theorem dcmp_le {a b : Int} (h0 : 0 ≤ a) (h : a ≤ b) (hb : b < 340282366920938463463374607431768211456) {a1 a0 b1 b0 : Int} (ha : dV a = .agg #[.int .u64 a1, .int .u64 a0]) (hbb : dV b = .agg #[.int .u64 b1, .int .u64 b0]) : dcmp a1 a0 b1 b0 ≤ 0 := by
  obtain ⟨rfl, rfl⟩ := dV_inj ha
  obtain ⟨rfl, rfl⟩ := dV_inj hbb
  unfold dcmp
  split
  · omega
  · split
    · omega
    · rename_i h1 h2
      exfalso
      omega
theorem dV_eq_zero {a : Int} (h0 : 0 ≤ a) (hb : a < 340282366920938463463374607431768211456) {a1 a0 : Int} (ha : dV a = .agg #[.int .u64 a1, .int .u64 a0]) : decide (a1 = 0 ∧ a0 = 0) = decide (a = 0) := by
  obtain ⟨rfl, rfl⟩ := dV_inj ha
  rw [Bool.eq_iff_iff, decide_eq_true_iff, decide_eq_true_iff]
  omega
/-- d's high word on top of c and d's low word. -/
theorem add_high (c d c1 c0 d1 d0 b1 b0 : Int) (hd : dV d = .agg #[.int .u64 d1, .int .u64 d0]) (hb : dV (c + d0) = .agg #[.int .u64 b1, .int .u64 b0]) : dV (c + d) = .agg #[.int .u64 ((b1 + d1) % 18446744073709551616), .int .u64 b0] := by
  obtain ⟨rfl, rfl⟩ := dV_inj hd
  obtain ⟨rfl, rfl⟩ := dV_inj hb
  have e : (c + d) / 18446744073709551616 = (c + d % 18446744073709551616) / 18446744073709551616 + d / 18446744073709551616 := by omega
  have e2 : (c + d) % 18446744073709551616 = (c + d % 18446744073709551616) % 18446744073709551616 := by omega
  unfold dV
  rw [e, e2, Int.add_emod]
end Go.Proofs.Ytnigfipjcnamfaa

/- indentureref04.OrderRight. -/
namespace Go.Proofs.Ytnigfipjcnamfaa
open Go.RowKit

/-- Whether an order (its kind, its column, how many numbers its point has) is right for so many dimensions. -/
def ordP (kd cl : Int) (an : Nat) (d : Int) : Prop :=
  (1 ≤ d ∧ d ≤ 8) ∧ ((kd = 0 ∧ cl = 0 ∧ (an : Int) = 0) ∨ (kd = 1 ∧ 0 < cl ∧ cl ≤ d - 1 ∧ (an : Int) = 0) ∨ (kd = 2 ∧ 0 ≤ cl ∧ cl ≤ d - 1 ∧ (an : Int) = 0) ∨ (kd = 3 ∧ cl = 0 ∧ 1 < d ∧ (an : Int) = d - 1))
instance (kd cl : Int) (an : Nat) (d : Int) : Decidable (ordP kd cl an d) := by unfold ordP; infer_instance
theorem three_alloc (w : World) (v u x : Value) (t : TypeId) : (w.alloc (.cells #[v, u, x] t)).cell? ⟨w.heap.size, 0, none⟩ = some v ∧ (w.alloc (.cells #[v, u, x] t)).cell? ⟨w.heap.size, 1, none⟩ = some u ∧ (w.alloc (.cells #[v, u, x] t)).cell? ⟨w.heap.size, 2, none⟩ = some x :=
  ⟨cell_of_row _ _ 0 _ t (0, 0) (heap_alloc_new w _), cell_of_row _ _ 1 _ t (0, 0) (heap_alloc_new w _), cell_of_row _ _ 2 _ t (0, 0) (heap_alloc_new w _)⟩
set_option maxRecDepth 100000 in
set_option maxHeartbeats 4000000 in
theorem refordright_any (kd cl d : Int) (p : Option Addr) (an c : Nat) (w : World) :
    Calls Try.prog 20 #[.agg #[.int .u8 kd, .int .i64 cl, .slice p an c], .int .i64 d] w fun e w' => e = .returned (.bool (decide (ordP kd cl an d))) ∧ Below w.heap.size w w' := by
  have hb : Below w.heap.size w (w.alloc (.cells #[.int .u8 kd, .int .i64 cl, .slice p an c] 27)) := (Below.refl _ _).alloc (Nat.le_refl _) _
  obtain ⟨e0, e1, e2⟩ := three_alloc w (.int .u8 kd) (.int .i64 cl) (.slice p an c) 27
  have HB := Lib.hid hb
  clear hb
  by_cases hd1 : d < 1
  case pos =>
    go_enter Try.func20, Try.ntmps20
    go_wp2_with fail
    go_ret
    exact ⟨ret_ndec (by unfold ordP; omega), HB.out⟩
  by_cases hd2 : 8 < d
  case pos =>
    go_enter Try.func20, Try.ntmps20
    go_wp2_with fail
    go_ret
    exact ⟨ret_ndec (by unfold ordP; omega), HB.out⟩
  by_cases k0 : kd = 0
  case pos =>
    subst k0
    by_cases c0 : cl = 0
    case pos =>
      subst c0
      by_cases a0 : (an : Int) = 0
      case pos =>
        have qa0 : ((an : Int) == 0) = true := by simpa using a0
        go_enter Try.func20, Try.ntmps20
        go_wp2_with fail
        go_ret
        exact ⟨ret_dec (by unfold ordP; omega), HB.out⟩
      case neg =>
        have qa0 : ((an : Int) == 0) = false := by simpa using a0
        go_enter Try.func20, Try.ntmps20
        go_wp2_with fail
        go_ret
        exact ⟨ret_ndec (by unfold ordP; omega), HB.out⟩
    case neg =>
      have qc0 : (cl == 0) = false := by simpa using c0
      go_enter Try.func20, Try.ntmps20
      go_wp2_with fail
      go_ret
      exact ⟨ret_ndec (by unfold ordP; omega), HB.out⟩
  by_cases k1 : kd = 1
  case pos =>
    subst k1
    by_cases c0 : 0 < cl
    case pos =>
      by_cases c1 : cl ≤ d - 1
      case pos =>
        by_cases a0 : (an : Int) = 0
        case pos =>
          have qa0 : ((an : Int) == 0) = true := by simpa using a0
          go_enter Try.func20, Try.ntmps20
          go_wp2_with fail
          go_ret
          exact ⟨ret_dec (by unfold ordP; omega), HB.out⟩
        case neg =>
          have qa0 : ((an : Int) == 0) = false := by simpa using a0
          go_enter Try.func20, Try.ntmps20
          go_wp2_with fail
          go_ret
          exact ⟨ret_ndec (by unfold ordP; omega), HB.out⟩
      case neg =>
        go_enter Try.func20, Try.ntmps20
        go_wp2_with fail
        go_ret
        exact ⟨ret_ndec (by unfold ordP; omega), HB.out⟩
    case neg =>
      by_cases c2 : cl = 0
      case pos =>
        subst c2
        go_enter Try.func20, Try.ntmps20
        go_wp2_with fail
        go_ret
        exact ⟨ret_ndec (by unfold ordP; omega), HB.out⟩
      case neg =>
        have qc2 : (cl == 0) = false := by simpa using c2
        go_enter Try.func20, Try.ntmps20
        go_wp2_with fail
        go_ret
        exact ⟨ret_ndec (by unfold ordP; omega), HB.out⟩
  by_cases k2 : kd = 2
  case pos =>
    subst k2
    by_cases c0 : 0 < cl
    case pos =>
      by_cases c1 : cl ≤ d - 1
      case pos =>
        by_cases a0 : (an : Int) = 0
        case pos =>
          have qa0 : ((an : Int) == 0) = true := by simpa using a0
          go_enter Try.func20, Try.ntmps20
          go_wp2_with fail
          go_ret
          exact ⟨ret_dec (by unfold ordP; omega), HB.out⟩
        case neg =>
          have qa0 : ((an : Int) == 0) = false := by simpa using a0
          go_enter Try.func20, Try.ntmps20
          go_wp2_with fail
          go_ret
          exact ⟨ret_ndec (by unfold ordP; omega), HB.out⟩
      case neg =>
        go_enter Try.func20, Try.ntmps20
        go_wp2_with fail
        go_ret
        exact ⟨ret_ndec (by unfold ordP; omega), HB.out⟩
    case neg =>
      by_cases c2 : cl = 0
      case pos =>
        subst c2
        have c1 : (0 : Int) ≤ d - 1 := by omega
        by_cases a0 : (an : Int) = 0
        case pos =>
          have qa0 : ((an : Int) == 0) = true := by simpa using a0
          go_enter Try.func20, Try.ntmps20
          go_wp2_with fail
          go_ret
          exact ⟨ret_dec (by unfold ordP; omega), HB.out⟩
        case neg =>
          have qa0 : ((an : Int) == 0) = false := by simpa using a0
          go_enter Try.func20, Try.ntmps20
          go_wp2_with fail
          go_ret
          exact ⟨ret_ndec (by unfold ordP; omega), HB.out⟩
      case neg =>
        have qc2 : (cl == 0) = false := by simpa using c2
        go_enter Try.func20, Try.ntmps20
        go_wp2_with fail
        go_ret
        exact ⟨ret_ndec (by unfold ordP; omega), HB.out⟩
  by_cases k3 : kd = 3
  case pos =>
    subst k3
    by_cases c0 : cl = 0
    case pos =>
      subst c0
      by_cases d1 : 1 < d
      case pos =>
        by_cases a0 : (an : Int) = d - 1
        case pos =>
          have qa0 : ((an : Int) == d - 1) = true := by simpa using a0
          go_enter Try.func20, Try.ntmps20
          go_wp2_with fail
          go_ret
          exact ⟨ret_dec (by unfold ordP; omega), HB.out⟩
        case neg =>
          have qa0 : ((an : Int) == d - 1) = false := by simpa using a0
          go_enter Try.func20, Try.ntmps20
          go_wp2_with fail
          go_ret
          exact ⟨ret_ndec (by unfold ordP; omega), HB.out⟩
      case neg =>
        go_enter Try.func20, Try.ntmps20
        go_wp2_with fail
        go_ret
        exact ⟨ret_ndec (by unfold ordP; omega), HB.out⟩
    case neg =>
      have qc0 : (cl == 0) = false := by simpa using c0
      go_enter Try.func20, Try.ntmps20
      go_wp2_with fail
      go_ret
      exact ⟨ret_ndec (by unfold ordP; omega), HB.out⟩
  have qk0 : (kd == 0) = false := by simpa using k0
  have qk1 : (kd == 1) = false := by simpa using k1
  have qk2 : (kd == 2) = false := by simpa using k2
  have qk3 : (kd == 3) = false := by simpa using k3
  go_enter Try.func20, Try.ntmps20
  go_wp2_with fail
  go_ret
  exact ⟨ret_ndec (by unfold ordP; omega), HB.out⟩
end Go.Proofs.Ytnigfipjcnamfaa

/- box.dimensions; box.each over whatever function of the sides. -/
namespace Go.Proofs.Ytnigfipjcnamfaa
open Go.RowKit

set_option maxRecDepth 100000 in
theorem dimensions_any (d : Int) (w : World) :
    Calls Try.prog 37 #[.int .i64 d] w fun e w' => e = .returned (.bool (decide (1 ≤ d ∧ d ≤ 8))) ∧ w = w' := by
  by_cases h1 : 1 ≤ d
  · by_cases h2 : d ≤ 8
    · go_enter Try.func37, Try.ntmps37
      go_wp2_with fail
      go_ret
      exact ⟨ret_dec ⟨h1, h2⟩, rfl⟩
    · go_enter Try.func37, Try.ntmps37
      go_wp2_with fail
      go_ret
      exact ⟨ret_ndec (by omega), rfl⟩
  · go_enter Try.func37, Try.ntmps37
    go_wp2_with fail
    go_ret
    exact ⟨congrArg (fun b => Ending.returned (.bool b)) (by rw [decide_eq_false (show ¬ 1 ≤ d by omega)]; rfl), rfl⟩
/-- Whether all of the first so many hold. -/
def alls (f : Nat → Bool) : Nat → Bool
  | 0 => true
  | k + 1 => alls f k && f k
theorem alls_iff (f : Nat → Bool) : ∀ n, alls f n = true ↔ ∀ k, k < n → f k = true
  | 0 => ⟨fun _ k hk => by omega, fun _ => rfl⟩
  | n + 1 => by
    show (alls f n && f n) = true ↔ _
    rw [Bool.and_eq_true, alls_iff f n]
    constructor
    · rintro ⟨h1, h2⟩ k hk
      by_cases hkn : k = n
      · rw [hkn]; exact h2
      · exact h1 k (by omega)
    · intro h
      exact ⟨fun k hk => h k (by omega), h n (by omega)⟩
theorem alls_false {f : Nat → Bool} {k n : Nat} (hk : k < n) (h : f k = false) : alls f n = false := by
  cases e : alls f n with
  | false => rfl
  | true => rw [(alls_iff f n).1 e k hk] at h; cases h
theorem alls_les (R S : List Int) : ∀ n, alls (fun k => decide (R.getD k 0 ≤ S.getD k 0)) n = les R S n
  | 0 => rfl
  | n + 1 => by
    show (alls _ n && _) = (les R S n && _)
    rw [alls_les R S n]
theorem alls_and (f g : Nat → Bool) : ∀ n, alls (fun k => f k && g k) n = (alls f n && alls g n)
  | 0 => rfl
  | n + 1 => by
    show (alls _ n && (f n && g n)) = ((alls f n && f n) && (alls g n && g n))
    rw [alls_and f g n]
    cases alls f n <;> cases alls g n <;> cases f n <;> cases g n <;> rfl
/-- What the function of a side tells, and that it turns nothing. -/
def Asks (w : World) (n : Nat) (f : Nat → Bool) (F : Nat) (cap : Array Value) : Prop :=
  ∀ (k : Nat) (w' : World), k < n → Below w.heap.size w w' → Calls Try.prog F (#[.int .i64 k] ++ cap) w' fun e w'' => e = .returned (.bool (f k)) ∧ ∃ j, w'' = w'.drewN j
def EachRel (w : World) (f : Nat → Bool) (n : Nat) (i : Value) (wr : World) : Prop := ∃ k j : Nat, k ≤ n ∧ i = .int .i64 k ∧ alls f k = true ∧ wr = w.drewN j
set_option maxRecDepth 100000 in
set_option maxHeartbeats 1000000 in
theorem each_any (n : Nat) (hn : n < 9223372036854775807) (f : Nat → Bool) (F : Nat) (cap : Array Value) (hF : ∀ args w, (callFunc F args).run Try.prog w = .ok (.enter F args) w) (w : World) (hs : Asks w n f F cap) :
    Calls Try.prog 38 #[.int .i64 n, .func (.func F) #[] cap] w fun e w' => e = .returned (.bool (alls f n)) ∧ ∃ j, w' = w.drewN j := by
  have HS := Lib.hid hs
  clear hs
  go_enter Try.func38, Try.ntmps38
  go_wp2_with fail
  go_loopw [7] (fun i wr => EachRel w f n i wr) (fun i _ => n - (intOf i).toNat)
  case atStart => exact ⟨0, 0, by omega, rfl, rfl, rfl⟩
  case round =>
    obtain ⟨k, j, hk, rfl, hal, rfl⟩ := hrel
    have HA := Lib.hid hal
    clear hal
    by_cases hlt : k < n
    · have hc := HS.out k (w.drewN j) hlt (Below.drewN (Below.refl _ _) j)
      cases hfk : f k with
      | false =>
        rw [hfk] at hc
        have HC := Lib.hid hc
        have HX := Lib.hid (alls_false hlt hfk)
        clear hc hfk
        go_wp2_with (refine HC.out.mono ?_; rintro e w'' ⟨rfl, j2, rfl⟩)
        go_ret
        exact ⟨congrArg (fun b => Ending.returned (.bool b)) HX.out.symm, j + j2, rfl⟩
      | true =>
        rw [hfk] at hc
        have HC := Lib.hid hc
        have HX := Lib.hid (show alls f (k + 1) = true by show (alls f k && f k) = true; rw [HA.out, hfk]; rfl)
        clear hc hfk
        go_wp2_with (refine HC.out.mono ?_; rintro e w'' ⟨rfl, j2, rfl⟩)
        go_roundw
        case rel => exact ⟨k + 1, j + j2, by omega, by go_num, HX.out, rfl⟩
        case measure => simp [intOf]; omega
    · obtain rfl : k = n := by omega
      go_wp2_with fail
      go_ret
      exact ⟨congrArg (fun b => Ending.returned (.bool b)) HA.out.symm, j, rfl⟩
set_option maxRecDepth 100000 in
set_option maxHeartbeats 1000000 in
theorem rightside (B : Nat) (p q : Option Addr) (n c m e : Nat) (R S : List Int) (k : Nat) (hk : k < n) (hm : k < m) (w : World) (hB : BoxAt w B p n c q m e) (h : Ints w p n c R) (h2 : Ints w q m e S) :
    Calls Try.prog 39 #[.int .i64 k, .pointer (some ⟨B, 0, none⟩)] w fun e w' => e = .returned (.bool (decide (R.getD k 0 ≤ S.getD k 0))) ∧ ∃ j, w' = w.drewN j := by
  obtain ⟨hB0, hB1⟩ := hB
  obtain ⟨g, o, rfl, hc⟩ := h.cell k hk
  obtain ⟨g2, o2, rfl, hc2⟩ := h2.cell k hm
  clear h h2
  generalize R.getD k 0 = x at *
  generalize S.getD k 0 = y at *
  have b1 : (0 : Int) ≤ k ∧ (k : Int) < n := by omega
  have b2 : (0 : Int) ≤ k ∧ (k : Int) < m := by omega
  go_enter Try.func39, Try.ntmps39
  go_wp2_with fail
  go_quiet (fail)
  go_wp2_with fail
  go_ret
  exact ⟨rfl, _, rfl⟩
set_option maxRecDepth 100000 in
set_option maxHeartbeats 1000000 in
theorem right_any (p q : Option Addr) (n c m e : Nat) (R S : List Int) (d : Int) (w : World) (h : Ints w p n c R) (h2 : Ints w q m e S) :
    Calls Try.prog 18 #[.agg #[.slice p n c, .slice q m e], .int .i64 d] w fun e w' => e = .returned (.bool (rightB R S n m d)) ∧ Below w.heap.size w w' := by
  have hb : Below w.heap.size w (w.alloc (.cells #[.slice p n c, .slice q m e] 25)) := (Below.refl _ _).alloc (Nat.le_refl _) _
  obtain ⟨e0, e1⟩ := pair_alloc w (.slice p n c) (.slice q m e) 25
  have H1 := Lib.hid (h.later hb)
  have H2 := Lib.hid (h2.later hb)
  have HB := Lib.hid hb
  clear h h2 hb
  have hD := dimensions_any d
  by_cases hd : 1 ≤ d ∧ d ≤ 8
  case neg =>
    rw [decide_eq_false hd] at hD
    have HD := Lib.hid hD
    rw [rightB_not (by omega)]
    clear hD hd
    go_enter Try.func18, Try.ntmps18
    go_wp2_with ((go_at_call 37; refine (HD.out _).mono ?_; rintro _ w' ⟨rfl, rfl⟩))
    go_ret
    exact ⟨rfl, HB.out⟩
  rw [decide_eq_true hd] at hD
  have HD := Lib.hid hD
  clear hD
  by_cases hn : (n : Int) = d
  case neg =>
    rw [rightB_not (fun h => hn h.2.2.1)]
    have q1 : ((n : Int) == d) = false := by simpa using hn
    clear hd hn
    go_enter Try.func18, Try.ntmps18
    go_wp2_with ((go_at_call 37; refine (HD.out _).mono ?_; rintro _ w' ⟨rfl, rfl⟩))
    go_ret
    exact ⟨rfl, HB.out⟩
  subst hn
  by_cases hm : (m : Int) = n
  case neg =>
    rw [rightB_not (fun h => hm h.2.2.2)]
    have q1 : ((m : Int) == n) = false := by simpa using hm
    clear hd hm
    go_enter Try.func18, Try.ntmps18
    go_wp2_with ((go_at_call 37; refine (HD.out _).mono ?_; rintro _ w' ⟨rfl, rfl⟩))
    go_ret
    exact ⟨rfl, HB.out⟩
  obtain rfl : m = n := by omega
  rw [rightB_les (by omega)]
  have hn8 : m < 9223372036854775807 := by omega
  clear hm hd
  go_enter Try.func18, Try.ntmps18
  go_upto_region 1 with fail
  have hs0 : w.heap.size < (w.alloc (.cells #[.slice p m c, .slice q m e] 25)).heap.size := by simp
  generalize w.alloc (.cells #[.slice p m c, .slice q m e] 25) = w0 at *
  have HE := Lib.hid (each_any m hn8 (fun k => decide (R.getD k 0 ≤ S.getD k 0)) 39 #[.pointer (some ⟨w.heap.size, 0, none⟩)] (enter_side Try.func39 (by kernel_rfl) rfl) w0 (fun k w' hk hb => rightside w.heap.size p q m c m e R S k hk hk w' ⟨(hb.cell (p := ⟨w.heap.size, 0, none⟩) hs0).trans e0, (hb.cell (p := ⟨w.heap.size, 1, none⟩) hs0).trans e1⟩ (H1.out.later hb) (H2.out.later hb)))
  rw [alls_les] at HE
  go_wp2_with (first | (go_at_call 37; refine (HD.out _).mono ?_; rintro _ w' ⟨rfl, rfl⟩) | (go_at_call 38; refine HE.out.mono ?_; rintro _ w' ⟨rfl, j, rfl⟩))
  go_ret
  exact ⟨rfl, Below.drewN HB.out _⟩
end Go.Proofs.Ytnigfipjcnamfaa

/- cmp.Compare of int64s. -/
namespace Go.Proofs.Ytnigfipjcnamfaa
open Go.RowKit

/-- Which of two numbers is less. -/
def icmp (x y : Int) : Int := if x < y then -1 else if y < x then 1 else 0
set_option maxRecDepth 100000 in
theorem compare64_any (x y : Int) (w : World) :
    Calls Try.prog 57 #[.int .i64 x, .int .i64 y] w fun e w' => e = .returned (.int .i64 (icmp x y)) ∧ w = w' := by
  have hN : ∀ z w, Calls Try.prog 64 #[.int .i64 z] w fun e w' => e = .returned (.bool false) ∧ w = w' := fun z w => by
    have q : (z != z) = false := by simp
    go_enter Try.func64, Try.ntmps64
    go_wp2_with fail
    go_ret
    exact ⟨rfl, rfl⟩
  have HN := Lib.hid hN
  clear hN
  by_cases h1 : x < y
  · have HE := Lib.hid (show icmp x y = -1 by unfold icmp; rw [if_pos h1])
    go_enter Try.func57, Try.ntmps57
    go_wp2_with ((go_at_call 64; refine (HN.out _ _).mono ?_; rintro _ w' ⟨rfl, rfl⟩))
    go_ret
    exact ⟨by rw [HE.out]; rfl, rfl⟩
  · by_cases h2 : y < x
    · have HE := Lib.hid (show icmp x y = 1 by unfold icmp; rw [if_neg h1, if_pos h2])
      go_enter Try.func57, Try.ntmps57
      go_wp2_with ((go_at_call 64; refine (HN.out _ _).mono ?_; rintro _ w' ⟨rfl, rfl⟩))
      go_ret
      exact ⟨by rw [HE.out]; rfl, rfl⟩
    · have HE := Lib.hid (show icmp x y = 0 by unfold icmp; rw [if_neg h1, if_neg h2])
      go_enter Try.func57, Try.ntmps57
      go_wp2_with ((go_at_call 64; refine (HN.out _ _).mono ?_; rintro _ w' ⟨rfl, rfl⟩))
      go_ret
      exact ⟨by rw [HE.out]; rfl, rfl⟩
end Go.Proofs.Ytnigfipjcnamfaa

/- box.OrderRight; cmp.Compare of two numbers. -/
namespace Go.Proofs.Ytnigfipjcnamfaa
open Go.RowKit

theorem ret_decB {p : Prop} [Decidable p] {b : Bool} (h : b = true ↔ p) : Ending.returned (.bool b) = Ending.returned (.bool (decide p)) := by
  congr 2
  rw [Bool.eq_iff_iff, h, decide_eq_true_eq]
set_option maxRecDepth 100000 in
set_option maxHeartbeats 4000000 in
theorem ordright_any (kd cl d : Int) (p : Option Addr) (an c : Nat) (w : World) :
    Calls Try.prog 19 #[.agg #[.int .u8 kd, .int .i64 cl, .slice p an c], .int .i64 d] w fun e w' => e = .returned (.bool (decide (ordP kd cl an d))) ∧ Below w.heap.size w w' := by
  have hb : Below w.heap.size w (w.alloc (.cells #[.int .u8 kd, .int .i64 cl, .slice p an c] 27)) := (Below.refl _ _).alloc (Nat.le_refl _) _
  obtain ⟨e0, e1, e2⟩ := three_alloc w (.int .u8 kd) (.int .i64 cl) (.slice p an c) 27
  have HB := Lib.hid hb
  clear hb
  have hD := dimensions_any d
  by_cases hd : 1 ≤ d ∧ d ≤ 8
  case neg =>
    rw [decide_eq_false hd] at hD
    have HD := Lib.hid hD
    have HN := Lib.hid (show ¬ ordP kd cl an d from fun h => hd h.1)
    clear hD hd
    go_enter Try.func19, Try.ntmps19
    go_wp2_with ((go_at_call 37; refine (HD.out _).mono ?_; rintro _ w' ⟨rfl, rfl⟩))
    go_ret
    exact ⟨ret_ndec HN.out, HB.out⟩
  rw [decide_eq_true hd] at hD
  have HD := Lib.hid hD
  clear hD
  obtain ⟨hd1, hd2⟩ := hd
  by_cases k0 : kd = 0
  case pos =>
    subst k0
    by_cases c0 : cl = 0
    case pos =>
      subst c0
      by_cases a0 : (an : Int) = 0
      case pos =>
        have qa0 : ((an : Int) == 0) = true := by simpa using a0
        go_enter Try.func19, Try.ntmps19
        go_wp2_with ((go_at_call 37; refine (HD.out _).mono ?_; rintro _ w' ⟨rfl, rfl⟩))
        go_ret
        exact ⟨ret_dec (by unfold ordP; omega), HB.out⟩
      case neg =>
        have qa0 : ((an : Int) == 0) = false := by simpa using a0
        go_enter Try.func19, Try.ntmps19
        go_wp2_with ((go_at_call 37; refine (HD.out _).mono ?_; rintro _ w' ⟨rfl, rfl⟩))
        go_ret
        first | exact ⟨ret_ndec (by unfold ordP; omega), HB.out⟩ | exact ⟨ret_decB (by rw [decide_eq_true_eq]; unfold ordP; omega), HB.out⟩
    case neg =>
      have qc0 : (cl == 0) = false := by simpa using c0
      go_enter Try.func19, Try.ntmps19
      go_wp2_with ((go_at_call 37; refine (HD.out _).mono ?_; rintro _ w' ⟨rfl, rfl⟩))
      go_ret
      first | exact ⟨ret_ndec (by unfold ordP; omega), HB.out⟩ | exact ⟨ret_decB (by rw [decide_eq_true_eq]; unfold ordP; omega), HB.out⟩
  by_cases k1 : kd = 1
  case pos =>
    subst k1
    by_cases c0 : 1 ≤ cl
    case pos =>
      by_cases c1 : cl < d
      case pos =>
        by_cases a0 : (an : Int) = 0
        case pos =>
          have qa0 : ((an : Int) == 0) = true := by simpa using a0
          go_enter Try.func19, Try.ntmps19
          go_wp2_with ((go_at_call 37; refine (HD.out _).mono ?_; rintro _ w' ⟨rfl, rfl⟩))
          go_ret
          exact ⟨ret_dec (by unfold ordP; omega), HB.out⟩
        case neg =>
          have qa0 : ((an : Int) == 0) = false := by simpa using a0
          go_enter Try.func19, Try.ntmps19
          go_wp2_with ((go_at_call 37; refine (HD.out _).mono ?_; rintro _ w' ⟨rfl, rfl⟩))
          go_ret
          first | exact ⟨ret_ndec (by unfold ordP; omega), HB.out⟩ | exact ⟨ret_decB (by rw [decide_eq_true_eq]; unfold ordP; omega), HB.out⟩
      case neg =>
        go_enter Try.func19, Try.ntmps19
        go_wp2_with ((go_at_call 37; refine (HD.out _).mono ?_; rintro _ w' ⟨rfl, rfl⟩))
        go_ret
        first | exact ⟨ret_ndec (by unfold ordP; omega), HB.out⟩ | exact ⟨ret_decB (by rw [decide_eq_true_eq]; unfold ordP; omega), HB.out⟩
    case neg =>
      go_enter Try.func19, Try.ntmps19
      go_wp2_with ((go_at_call 37; refine (HD.out _).mono ?_; rintro _ w' ⟨rfl, rfl⟩))
      go_ret
      first | exact ⟨ret_ndec (by unfold ordP; omega), HB.out⟩ | exact ⟨ret_decB (by rw [decide_eq_true_eq]; unfold ordP; omega), HB.out⟩
  by_cases k2 : kd = 2
  case pos =>
    subst k2
    by_cases c0 : 0 ≤ cl
    case pos =>
      by_cases c1 : cl < d
      case pos =>
        by_cases a0 : (an : Int) = 0
        case pos =>
          have qa0 : ((an : Int) == 0) = true := by simpa using a0
          go_enter Try.func19, Try.ntmps19
          go_wp2_with ((go_at_call 37; refine (HD.out _).mono ?_; rintro _ w' ⟨rfl, rfl⟩))
          go_ret
          exact ⟨ret_dec (by unfold ordP; omega), HB.out⟩
        case neg =>
          have qa0 : ((an : Int) == 0) = false := by simpa using a0
          go_enter Try.func19, Try.ntmps19
          go_wp2_with ((go_at_call 37; refine (HD.out _).mono ?_; rintro _ w' ⟨rfl, rfl⟩))
          go_ret
          first | exact ⟨ret_ndec (by unfold ordP; omega), HB.out⟩ | exact ⟨ret_decB (by rw [decide_eq_true_eq]; unfold ordP; omega), HB.out⟩
      case neg =>
        go_enter Try.func19, Try.ntmps19
        go_wp2_with ((go_at_call 37; refine (HD.out _).mono ?_; rintro _ w' ⟨rfl, rfl⟩))
        go_ret
        first | exact ⟨ret_ndec (by unfold ordP; omega), HB.out⟩ | exact ⟨ret_decB (by rw [decide_eq_true_eq]; unfold ordP; omega), HB.out⟩
    case neg =>
      go_enter Try.func19, Try.ntmps19
      go_wp2_with ((go_at_call 37; refine (HD.out _).mono ?_; rintro _ w' ⟨rfl, rfl⟩))
      go_ret
      first | exact ⟨ret_ndec (by unfold ordP; omega), HB.out⟩ | exact ⟨ret_decB (by rw [decide_eq_true_eq]; unfold ordP; omega), HB.out⟩
  by_cases k3 : kd = 3
  case pos =>
    subst k3
    by_cases c0 : cl = 0
    case pos =>
      subst c0
      by_cases a0 : (an : Int) = d - 1
      case pos =>
        have qa0 : ((an : Int) == d - 1) = true := by simpa using a0
        by_cases d1 : 2 ≤ d
        case pos =>
          go_enter Try.func19, Try.ntmps19
          go_wp2_with ((go_at_call 37; refine (HD.out _).mono ?_; rintro _ w' ⟨rfl, rfl⟩))
          go_ret
          exact ⟨ret_dec (by unfold ordP; omega), HB.out⟩
        case neg =>
          go_enter Try.func19, Try.ntmps19
          go_wp2_with ((go_at_call 37; refine (HD.out _).mono ?_; rintro _ w' ⟨rfl, rfl⟩))
          go_ret
          first | exact ⟨ret_ndec (by unfold ordP; omega), HB.out⟩ | exact ⟨ret_decB (by rw [decide_eq_true_eq]; unfold ordP; omega), HB.out⟩
      case neg =>
        have qa0 : ((an : Int) == d - 1) = false := by simpa using a0
        go_enter Try.func19, Try.ntmps19
        go_wp2_with ((go_at_call 37; refine (HD.out _).mono ?_; rintro _ w' ⟨rfl, rfl⟩))
        go_ret
        first | exact ⟨ret_ndec (by unfold ordP; omega), HB.out⟩ | exact ⟨ret_decB (by rw [decide_eq_true_eq]; unfold ordP; omega), HB.out⟩
    case neg =>
      have qc0 : (cl == 0) = false := by simpa using c0
      go_enter Try.func19, Try.ntmps19
      go_wp2_with ((go_at_call 37; refine (HD.out _).mono ?_; rintro _ w' ⟨rfl, rfl⟩))
      go_ret
      first | exact ⟨ret_ndec (by unfold ordP; omega), HB.out⟩ | exact ⟨ret_decB (by rw [decide_eq_true_eq]; unfold ordP; omega), HB.out⟩
  have qk0 : (kd == 0) = false := by simpa using k0
  have qk1 : (kd == 1) = false := by simpa using k1
  have qk2 : (kd == 2) = false := by simpa using k2
  have qk3 : (kd == 3) = false := by simpa using k3
  go_enter Try.func19, Try.ntmps19
  go_wp2_with ((go_at_call 37; refine (HD.out _).mono ?_; rintro _ w' ⟨rfl, rfl⟩))
  go_ret
  first | exact ⟨ret_ndec (by unfold ordP; omega), HB.out⟩ | exact ⟨ret_decB (by rw [decide_eq_true_eq]; unfold ordP; omega), HB.out⟩
end Go.Proofs.Ytnigfipjcnamfaa

/- indentureref04.Key. -/
namespace Go.Proofs.Ytnigfipjcnamfaa
open Go.RowKit

/-- The key of a row in an order, as one number. -/
def keyI (kd cl : Int) (A P : List Int) (an n : Nat) : Int :=
  if ordP kd cl an n then (if kd = 3 then btw (P.drop 1) A (n - 1) an else if kd = 2 then 9223372036854775807 - P.getD cl.toNat 0 else P.getD cl.toNat 0 + 9223372036854775808) else 0
theorem Ints.tail {w : World} {p : Option Addr} {n c : Nat} {R : List Int} (h : Ints w p n c R) (hn : 1 ≤ n) : ∃ g o, p = some ⟨g, o, none⟩ ∧ Ints w (some ⟨g, o + 1, none⟩) (n - 1) (c - 1) (R.drop 1) := by
  have hs := h.size
  have hl := h.le
  obtain ⟨g, o, hp, hx⟩ := h.cell 0 (by omega)
  refine ⟨g, o, hp, by rw [List.length_drop, hs], by omega, fun x hx => h.ok x (List.mem_of_mem_drop hx), ?_⟩
  rcases h.at' with h0 | ⟨g', o', hp', hc⟩
  · rw [h0] at hs; simp at hs; omega
  · rw [hp] at hp'
    simp only [Option.some.injEq, Addr.mk.injEq] at hp'
    obtain ⟨rfl, rfl, _⟩ := hp'
    refine Or.inr ⟨g, o + 1, rfl, fun i hi => ?_⟩
    rw [List.length_drop] at hi
    have := hc (i + 1) (by omega)
    rw [show o + 1 + i = o + (i + 1) from by omega, this]
    simp [List.getD_eq_getElem?_getD, Nat.add_comm]
theorem dV_small (x : Int) (h : 0 ≤ x ∧ x < 18446744073709551616) : dV x = .agg #[.int .u64 0, .int .u64 x] := by
  unfold dV
  rw [show x / 18446744073709551616 = 0 from by omega, show x % 18446744073709551616 = x from by omega]
  rfl
set_option maxRecDepth 100000 in
set_option maxHeartbeats 4000000 in
theorem refkey_any (kd cl : Int) (q p : Option Addr) (an ac n c : Nat) (A P : List Int) (w : World) (hA : Ints w q an ac A) (hP : Ints w p n c P) :
    Calls Try.prog 34 #[.agg #[.int .u8 kd, .int .i64 cl, .slice q an ac], .slice p n c] w fun e w' => e = .returned (.tuple #[dV (keyI kd cl A P an n), .bool (decide (ordP kd cl an n))]) ∧ Below w.heap.size w w' := by
  have hb : Below w.heap.size w (w.alloc (.cells #[.int .u8 kd, .int .i64 cl, .slice q an ac] 27)) := (Below.refl _ _).alloc (Nat.le_refl _) _
  have hs : (w.alloc (.cells #[.int .u8 kd, .int .i64 cl, .slice q an ac] 27)).heap.size = w.heap.size + 1 := by simp
  obtain ⟨e0, e1, e2⟩ := three_alloc w (.int .u8 kd) (.int .i64 cl) (.slice q an ac) 27
  have hA1 := hA.later hb
  have hP1 := hP.later hb
  clear hA hP
  obtain ⟨hi, lo, hd⟩ := dV_two (keyI kd cl A P an n)
  rw [hd]
  have HD := Lib.hid hd
  clear hd
  go_enter Try.func34, Try.ntmps34
  go_upto_region 1 with fail
  generalize w.alloc (.cells #[.int .u8 kd, .int .i64 cl, .slice q an ac] 27) = w1 at *
  have t2 := zero_two w1
  have hb2 : Below w1.heap.size w1 (w1.alloc (.cells #[.int .u64 0, .int .u64 0] 64)) := (Below.refl _ _).alloc (Nat.le_refl _) _
  generalize w1.alloc (.cells #[.int .u64 0, .int .u64 0] 64) = w2 at *
  have hlt : ∀ k, (⟨w.heap.size, k, none⟩ : Addr).block < w1.heap.size := fun k => by show w.heap.size < _; omega
  have d0 := (hb2.cell (hlt 0)).trans e0
  have d1 := (hb2.cell (hlt 1)).trans e1
  have d2 := (hb2.cell (hlt 2)).trans e2
  have hA2 := hA1.later hb2
  have hP2 := hP1.later hb2
  have B2 := hb.trans (hb2.mono (by omega))
  have hs2 : w.heap.size + 1 < w2.heap.size := by have := t2.lt; omega
  rw [hs] at t2
  clear hb hb2 hlt hA1 hP1 hs e0 e1 e2
  clear w1
  have HA := Lib.hid hA2
  have HP := Lib.hid hP2
  have HB := Lib.hid B2
  have HT := Lib.hid t2
  have HS := Lib.hid hs2
  clear hA2 hP2 B2 t2 hs2
  go_wp2_with fail
  refine (refordright_any kd cl n q an ac w2).mono ?_
  rintro _ w3 ⟨rfl, hb3⟩
  have hlt : ∀ k, (⟨w.heap.size, k, none⟩ : Addr).block < w2.heap.size := fun k => by have := HS.out; show w.heap.size < _; omega
  have f0 := (hb3.cell (hlt 0)).trans d0
  have f1 := (hb3.cell (hlt 1)).trans d1
  have f2 := (hb3.cell (hlt 2)).trans d2
  have GA := Lib.hid (HA.out.later hb3)
  have GP := Lib.hid (HP.out.later hb3)
  have GT := Lib.hid (HT.out.later hb3 HS.out)
  have GB := Lib.hid (HB.out.trans (hb3.mono HB.out.size))
  have GS := Lib.hid (Nat.lt_of_lt_of_le HS.out hb3.size)
  clear hlt hb3 d0 d1 d2 HA HP HB HT HS
  obtain ⟨y0, y1, z0, z1⟩ := GT.out.facts
  by_cases ho : ordP kd cl an n
  case neg =>
    have hk : keyI kd cl A P an n = 0 := by unfold keyI; rw [if_neg ho]
    rw [hk] at HD
    obtain ⟨rfl, rfl⟩ : (0 : Int) = hi ∧ (0 : Int) = lo := by have := HD.out; simpa [dV] using this
    have HO := Lib.hid (decide_eq_false ho)
    rw [HO.out]
    clear ho hk
    go_wp2_with fail
    exact ret_two2 4 5 rfl (w.heap.size + 1) _ _ (.bool false) rfl rfl (GT.out.set _ _) ⟨congrArg (fun b => Ending.returned (.tuple #[.agg #[.int .u64 0, .int .u64 0], .bool b])) HO.out.symm, Two.below GB.out (by omega) _ _⟩
  have HO := Lib.hid (decide_eq_true ho)
  rw [HO.out]
  by_cases h3 : kd = 3
  case pos =>
    subst h3
    have hk : keyI 3 cl A P an n = btw (P.drop 1) A (n - 1) an := by unfold keyI; rw [if_pos ho, if_pos rfl]
    rw [hk] at HD
    have hdim : 1 < n ∧ n ≤ 8 ∧ okP (n - 1) an := by unfold okP; unfold ordP at ho; omega
    obtain ⟨dm1, dm2, d3⟩ := hdim
    obtain ⟨g, o, rfl, ht⟩ := GP.out.tail (by omega)
    have hc := fun w' (hb : Below w3.heap.size w3 w') => refbetween_any _ q (n - 1) (c - 1) an ac _ A w' (ht.later hb) (GA.out.later hb)
    rw [decide_eq_true d3, HD.out] at hc
    have HC := Lib.hid hc
    have hle := GP.out.le
    have n1 : (1 : Int) ≤ n := by omega
    have c1 : ¬ c = 1 := by omega
    clear hk ho d3 hc ht hle
    go_upto_region 4 with fail
    go_region_law (go_simp; go_at_call 53; refine (HC.out _ (by first | exact Below.refl _ _ | exact (Below.refl _ _).drew)).mono ?_; rintro e w4 ⟨rfl, hb4⟩; have Y1 := Lib.hid (show Two w4 (w.heap.size + 1) (.int .u64 0) (.int .u64 0) from (hb4.block _ GT.out.lt).trans GT.out); have Y3 := Lib.hid (GB.out.trans ((below_of (w := w3) hb4 rfl rfl rfl rfl).mono GB.out.size)); clear hb4; obtain ⟨y0, y1, y2, y3⟩ := Y1.out.facts)
    all_goals
      go_wp2_with fail
      exact ret_two2 4 5 rfl (w.heap.size + 1) _ _ (.bool true) rfl rfl (Y1.out.set _ _) ⟨congrArg (fun b => Ending.returned (.tuple #[.agg #[.int .u64 hi, .int .u64 lo], .bool b])) HO.out.symm, Two.below Y3.out (by omega) _ _⟩
  obtain ⟨j, rfl⟩ : ∃ j : Nat, cl = j := ⟨cl.toNat, by unfold ordP at ho; omega⟩
  have hj : j < n := by unfold ordP at ho; omega
  obtain ⟨g, o, rfl, hx⟩ := GP.out.cell j hj
  have hxb := GP.out.get j hj
  have i1 : (0 : Int) ≤ j ∧ (j : Int) < n := by omega
  by_cases h2 : kd = 2
  case pos =>
    subst h2
    have hk : keyI 2 j A P an n = 9223372036854775807 - P.getD j 0 := by unfold keyI; rw [if_pos ho, if_neg h3, if_pos rfl, Int.toNat_natCast]
    rw [hk] at HD
    generalize P.getD j 0 = x at *
    have hd := HD.out
    rw [dV_small _ (by omega)] at hd
    have e1 : (0 : Int) = hi ∧ 9223372036854775807 - x = lo := by simpa using hd
    obtain ⟨rfl, hlo⟩ := e1
    have q3 : ((2 : Int) == 3) = false := rfl
    have hw : IntKind.u64.wrap (18446744073709551615 - IntKind.u64.wrap (IntKind.u64.wrap x + 9223372036854775808)) = lo := by
      show (18446744073709551615 - (x % 18446744073709551616 + 9223372036854775808) % 18446744073709551616) % 18446744073709551616 = lo
      omega
    have HW := Lib.hid hw
    clear hk hd h3 ho hw
    go_wp2_with fail
    rw [HW.out]
    exact ret_two2 4 5 rfl (w.heap.size + 1) _ _ (.bool true) rfl rfl (GT.out.set _ _) ⟨congrArg (fun b => Ending.returned (.tuple #[.agg #[.int .u64 0, .int .u64 lo], .bool b])) HO.out.symm, Two.below GB.out (by omega) _ _⟩
  case neg =>
    have hk : keyI kd j A P an n = P.getD j 0 + 9223372036854775808 := by unfold keyI; rw [if_pos ho, if_neg h3, if_neg h2, Int.toNat_natCast]
    rw [hk] at HD
    generalize P.getD j 0 = x at *
    have hd := HD.out
    rw [dV_small _ (by omega)] at hd
    have e1 : (0 : Int) = hi ∧ x + 9223372036854775808 = lo := by simpa using hd
    obtain ⟨rfl, hlo⟩ := e1
    have q3 : (kd == 3) = false := by simpa using h3
    have q2 : (kd == 2) = false := by simpa using h2
    have hw : IntKind.u64.wrap (IntKind.u64.wrap x + 9223372036854775808) = lo := by
      show (x % 18446744073709551616 + 9223372036854775808) % 18446744073709551616 = lo
      omega
    have HW := Lib.hid hw
    clear hk hd ho hw
    go_wp2_with fail
    rw [HW.out]
    exact ret_two2 4 5 rfl (w.heap.size + 1) _ _ (.bool true) rfl rfl (GT.out.set _ _) ⟨congrArg (fun b => Ending.returned (.tuple #[.agg #[.int .u64 0, .int .u64 lo], .bool b])) HO.out.symm, Two.below GB.out (by omega) _ _⟩
end Go.Proofs.Ytnigfipjcnamfaa

/- indentureref04.Ahead. -/
namespace Go.Proofs.Ytnigfipjcnamfaa
open Go.RowKit

theorem dV_parts (K : Int) (h : 0 ≤ K ∧ K < 340282366920938463463374607431768211456) : ∃ hi lo : Int, dV K = .agg #[.int .u64 hi, .int .u64 lo] ∧ K = hi * 18446744073709551616 + lo ∧ 0 ≤ lo ∧ lo < 18446744073709551616 := by
  refine ⟨K / 18446744073709551616 % 18446744073709551616, K % 18446744073709551616, rfl, ?_, ?_, ?_⟩ <;> omega
theorem getD_ok {R : List Int} (h : ∀ x ∈ R, -9223372036854775808 ≤ x ∧ x ≤ 9223372036854775807) (k : Nat) : -9223372036854775808 ≤ R.getD k 0 ∧ R.getD k 0 ≤ 9223372036854775807 := by
  rw [List.getD_eq_getElem?_getD]
  by_cases hk : k < R.length
  · rw [List.getElem?_eq_getElem hk]
    exact h _ (List.getElem_mem hk)
  · rw [List.getElem?_eq_none (by omega)]
    simp
theorem key_bound (kd cl : Int) (A P : List Int) (an n : Nat) (hA : ∀ x ∈ A, -9223372036854775808 ≤ x ∧ x ≤ 9223372036854775807) (hP : ∀ x ∈ P, -9223372036854775808 ≤ x ∧ x ≤ 9223372036854775807) :
    0 ≤ keyI kd cl A P an n ∧ keyI kd cl A P an n < 340282366920938463463374607431768211456 := by
  have hc := getD_ok hP cl.toNat
  unfold keyI
  split
  · split
    · unfold btw
      split
      · rename_i hok
        have hap : ∀ k, k < n - 1 → 0 ≤ apart ((P.drop 1).getD k 0) (A.getD k 0) ∧ apart ((P.drop 1).getD k 0) (A.getD k 0) < 18446744073709551616 := fun k _ =>
          apart_word (getD_ok (fun x hx => hP x (List.mem_of_mem_drop hx)) k) (getD_ok hA k)
        have h1 := tot_nonneg _ (n - 1) (fun k hk => (hap k hk).1)
        have h2 := tot_lt _ (n - 1) (fun k hk => (hap k hk).2)
        have h3 : n - 1 ≤ 8 := hok.2.1
        omega
      · omega
    · split <;> omega
  · omega
/-- Whether a row is ahead of another one. -/
def aheadP (kd cl : Int) (A P Q : List Int) (an n m : Nat) : Prop :=
  ordP kd cl an n ∧ ordP kd cl an m ∧ n = m ∧ (keyI kd cl A P an n < keyI kd cl A Q an m ∨ keyI kd cl A P an n = keyI kd cl A Q an m ∧ P.getD 0 0 < Q.getD 0 0)
instance (kd cl : Int) (A P Q : List Int) (an n m : Nat) : Decidable (aheadP kd cl A P Q an n m) := by unfold aheadP; infer_instance
set_option maxRecDepth 100000 in
set_option maxHeartbeats 4000000 in
theorem refahead_any (kd cl : Int) (q p r : Option Addr) (an ac n c m e : Nat) (A P Q : List Int) (w : World) (hA : Ints w q an ac A) (hP : Ints w p n c P) (hQ : Ints w r m e Q) :
    Calls Try.prog 16 #[.agg #[.int .u8 kd, .int .i64 cl, .slice q an ac], .slice p n c, .slice r m e] w fun e w' => e = .returned (.bool (decide (aheadP kd cl A P Q an n m))) ∧ Below w.heap.size w w' := by
  have hb : Below w.heap.size w (w.alloc (.cells #[.int .u8 kd, .int .i64 cl, .slice q an ac] 27)) := (Below.refl _ _).alloc (Nat.le_refl _) _
  have hs : w.heap.size < (w.alloc (.cells #[.int .u8 kd, .int .i64 cl, .slice q an ac] 27)).heap.size := by simp
  obtain ⟨e0, e1, e2⟩ := three_alloc w (.int .u8 kd) (.int .i64 cl) (.slice q an ac) 27
  have hA1 := hA.later hb
  have hP1 := hP.later hb
  have hQ1 := hQ.later hb
  clear hA hP hQ
  obtain ⟨a1, b1, hd1, hk1, hb1, hb1'⟩ := dV_parts _ (key_bound kd cl A P an n hA1.ok hP1.ok)
  obtain ⟨a2, b2, hd2, hk2, hb2, hb2'⟩ := dV_parts _ (key_bound kd cl A Q an m hA1.ok hQ1.ok)
  have HD1 := Lib.hid hd1
  have HD2 := Lib.hid hd2
  clear hd1 hd2
  go_enter Try.func16, Try.ntmps16
  go_upto_region 1 with fail
  generalize w.alloc (.cells #[.int .u8 kd, .int .i64 cl, .slice q an ac] 27) = w1 at *
  have HA := Lib.hid hA1
  have HP := Lib.hid hP1
  have HQ := Lib.hid hQ1
  have HB := Lib.hid hb
  have HS := Lib.hid hs
  clear hA1 hP1 hQ1 hb hs
  have HK := Lib.hid (And.intro hk1 hk2)
  clear hk1 hk2
  go_wp2_with fail
  refine (refkey_any kd cl q p an ac n c A P w1 HA.out HP.out).mono ?_
  rintro _ w2 ⟨rfl, hb2⟩
  have hlt : ∀ k, (⟨w.heap.size, k, none⟩ : Addr).block < w1.heap.size := fun k => HS.out
  have f0 := (hb2.cell (hlt 0)).trans e0
  have f1 := (hb2.cell (hlt 1)).trans e1
  have f2 := (hb2.cell (hlt 2)).trans e2
  have GA := Lib.hid (HA.out.later hb2)
  have GP := Lib.hid (HP.out.later hb2)
  have GQ := Lib.hid (HQ.out.later hb2)
  have GB := Lib.hid (HB.out.trans (hb2.mono HB.out.size))
  have GS := Lib.hid (Nat.lt_of_lt_of_le HS.out hb2.size)
  clear hlt hb2 e0 e1 e2 HA HP HQ HB HS
  clear w1
  rw [HD1.out]
  have z := zero_two w2
  obtain ⟨y0, y1, z0, z1⟩ := z.facts
  go_upto_region 2 with fail
  clear z y0 y1 z0 z1
  have t3 : Two (w2.alloc (.cells #[.int .u64 a1, .int .u64 b1] 64)) w2.heap.size (.int .u64 a1) (.int .u64 b1) := heap_alloc_new w2 _
  have hb3 : Below w2.heap.size w2 (w2.alloc (.cells #[.int .u64 a1, .int .u64 b1] 64)) := (Below.refl _ _).alloc (Nat.le_refl _) _
  generalize w2.alloc (.cells #[.int .u64 a1, .int .u64 b1] 64) = w3 at *
  have d0 := (hb3.cell (p := ⟨w.heap.size, 0, none⟩) GS.out).trans f0
  have d1 := (hb3.cell (p := ⟨w.heap.size, 1, none⟩) GS.out).trans f1
  have d2 := (hb3.cell (p := ⟨w.heap.size, 2, none⟩) GS.out).trans f2
  have KA := Lib.hid (GA.out.later hb3)
  have KP := Lib.hid (GP.out.later hb3)
  have KQ := Lib.hid (GQ.out.later hb3)
  have KB := Lib.hid (GB.out.trans (hb3.mono GB.out.size))
  have KT := Lib.hid t3
  clear hb3 f0 f1 f2 GA GP GQ GB GS t3
  generalize w2.heap.size = g7 at *
  go_wp2_with fail
  refine (refkey_any kd cl q r an ac m e A Q w3 KA.out KQ.out).mono ?_
  rintro _ w4 ⟨rfl, hb4⟩
  have MP := Lib.hid (KP.out.later hb4)
  have MQ := Lib.hid (KQ.out.later hb4)
  have MB := Lib.hid (KB.out.trans (hb4.mono KB.out.size))
  have MT := Lib.hid (KT.out.later hb4 KT.out.lt)
  clear hb4 d0 d1 d2 KA KP KQ KB KT
  rw [HD2.out]
  have z := zero_two w4
  obtain ⟨y0, y1, z0, z1⟩ := z.facts
  go_upto_region 3 with fail
  clear z y0 y1 z0 z1
  have t5 : Two (w4.alloc (.cells #[.int .u64 a2, .int .u64 b2] 64)) w4.heap.size (.int .u64 a2) (.int .u64 b2) := heap_alloc_new w4 _
  have hb5 : Below w4.heap.size w4 (w4.alloc (.cells #[.int .u64 a2, .int .u64 b2] 64)) := (Below.refl _ _).alloc (Nat.le_refl _) _
  generalize w4.alloc (.cells #[.int .u64 a2, .int .u64 b2] 64) = w5 at *
  have NP := Lib.hid (MP.out.later hb5)
  have NQ := Lib.hid (MQ.out.later hb5)
  have NB := Lib.hid (MB.out.trans (hb5.mono MB.out.size))
  have NT := Lib.hid (MT.out.later hb5 MT.out.lt)
  have NU := Lib.hid t5
  clear hb5 MP MQ MB MT t5
  generalize w4.heap.size = g9 at *
  clear w4
  obtain ⟨y0, y1, -, -⟩ := NT.out.facts
  obtain ⟨z0, z1, -, -⟩ := NU.out.facts
  by_cases ho : ordP kd cl an n
  case neg =>
    have HN := Lib.hid (show ¬ aheadP kd cl A P Q an n m from fun h => ho h.1)
    rw [decide_eq_false ho]
    clear ho
    go_wp2_with fail
    go_ret
    exact ⟨ret_ndec HN.out, NB.out⟩
  by_cases ho2 : ordP kd cl an m
  case neg =>
    have HN := Lib.hid (show ¬ aheadP kd cl A P Q an n m from fun h => ho2 h.2.1)
    rw [decide_eq_true ho, decide_eq_false ho2]
    clear ho ho2
    go_wp2_with fail
    go_ret
    exact ⟨ret_ndec HN.out, NB.out⟩
  rw [decide_eq_true ho, decide_eq_true ho2]
  by_cases hnm : (n : Int) = m
  case neg =>
    have HN := Lib.hid (show ¬ aheadP kd cl A P Q an n m from fun h => hnm (by rw [h.2.2.1]))
    have q1 : ((n : Int) == m) = false := by simpa using hnm
    have q2 : ((n : Int) != m) = true := by simpa using hnm
    clear ho ho2
    go_wp2_with fail
    go_ret
    exact ⟨ret_ndec HN.out, NB.out⟩
  obtain rfl : m = n := by omega
  have hnn : 1 ≤ m := by unfold ordP at ho; omega
  have hap : aheadP kd cl A P Q an m m ↔ (a1 < a2 ∨ a1 = a2 ∧ b1 < b2) ∨ (a1 = a2 ∧ b1 = b2) ∧ P.getD 0 0 < Q.getD 0 0 := by
    unfold aheadP
    rw [HK.out.1, HK.out.2]
    constructor
    · rintro ⟨-, -, -, h | ⟨h, h'⟩⟩
      · exact Or.inl (by omega)
      · exact Or.inr ⟨by omega, h'⟩
    · rintro (h | ⟨h, h'⟩)
      · exact ⟨ho, ho2, rfl, Or.inl (by omega)⟩
      · exact ⟨ho, ho2, rfl, Or.inr ⟨by omega, h'⟩⟩
  have HAP := Lib.hid hap
  clear hap ho ho2 hnm HK hb1 hb1' hb2 hb2'
  obtain ⟨gp, op, rfl, hp0⟩ := NP.out.cell 0 (by omega)
  obtain ⟨gq, oq, rfl, hq0⟩ := NQ.out.cell 0 (by omega)
  have i1 : (0 : Int) < m := by omega
  rw [Nat.add_zero] at hp0 hq0
  generalize P.getD 0 0 = x at *
  generalize Q.getD 0 0 = y at *
  by_cases heq : a1 = a2 ∧ b1 = b2
  case pos =>
    have hne : ∀ w', (binOp .neq 64 (.agg #[.int .u64 a1, .int .u64 b1]) (.agg #[.int .u64 a2, .int .u64 b2])).run Try.prog w' = .ok (.bool false) w' := fun w' => by
      rw [dist_neq, decide_eq_true heq]
      rfl
    have HR := Lib.hid (show decide (x < y) = decide (aheadP kd cl A P Q an m m) from decide_eq_decide.2 ⟨fun h => HAP.out.2 (Or.inr ⟨heq, h⟩), fun h => by
      rcases HAP.out.1 h with h | ⟨_, h⟩
      · omega
      · exact h⟩)
    clear heq
    go_upto_region 7 with fail
    go_quiet (fail)
    go_wp2_with fail
    go_ret
    exact ⟨congrArg (fun b => Ending.returned (.bool b)) HR.out, Below.drewN NB.out _⟩
  case neg =>
    have hne : ∀ w', (binOp .neq 64 (.agg #[.int .u64 a1, .int .u64 b1]) (.agg #[.int .u64 a2, .int .u64 b2])).run Try.prog w' = .ok (.bool true) w' := fun w' => by
      rw [dist_neq, decide_eq_false heq]
      rfl
    have HR := Lib.hid (show decide (a1 < a2 ∨ a1 = a2 ∧ b1 < b2) = decide (aheadP kd cl A P Q an m m) from decide_eq_decide.2 ⟨fun h => HAP.out.2 (Or.inl h), fun h => by
      rcases HAP.out.1 h with h | ⟨h, _⟩
      · exact h
      · exact absurd h heq⟩)
    clear heq
    go_wp2_with fail
    refine (less_any a1 b1 a2 b2 w5).mono ?_
    rintro _ w6 ⟨rfl, hb6⟩
    have B6 := Lib.hid (NB.out.trans (hb6.mono NB.out.size))
    clear hb6
    go_wp2_with fail
    go_ret
    exact ⟨congrArg (fun b => Ending.returned (.bool b)) (Eq.trans (by simp) HR.out), B6.out⟩
end Go.Proofs.Ytnigfipjcnamfaa

/- dist.Gap. -/
namespace Go.Proofs.Ytnigfipjcnamfaa
open Go.RowKit

set_option maxRecDepth 100000 in
theorem gap_any (a b c : Int) (ha : -9223372036854775808 ≤ a ∧ a ≤ 9223372036854775807) (hb : -9223372036854775808 ≤ b ∧ b ≤ 9223372036854775807) (hc : -9223372036854775808 ≤ c ∧ c ≤ 9223372036854775807) (w : World) :
    Calls Try.prog 68 #[.int .i64 a, .int .i64 b, .int .i64 c] w fun e w' => e = .returned (.int .u64 (gap a b c)) ∧ w' = w := by
  by_cases h : a < b
  · go_enter Try.func68, Try.ntmps68
    go_wp2_with (go_at_call 60; refine (apart_any _ _ ha hb _).mono ?_; rintro e w' ⟨rfl, rfl⟩)
    go_ret
    refine ⟨ret_eq ?_, rfl⟩
    unfold gap
    rw [if_pos h]
  · by_cases h2 : c < a
    · go_enter Try.func68, Try.ntmps68
      go_wp2_with (go_at_call 60; refine (apart_any _ _ ha hc _).mono ?_; rintro e w' ⟨rfl, rfl⟩)
      go_ret
      refine ⟨ret_eq ?_, rfl⟩
      unfold gap
      rw [if_neg (by omega), if_pos h2]
    · go_enter Try.func68, Try.ntmps68
      go_wp2_with fail
      go_ret
      refine ⟨ret_eq ?_, rfl⟩
      unfold gap
      rw [if_neg (by omega), if_neg (by omega)]
end Go.Proofs.Ytnigfipjcnamfaa

/- dist.ToBox's function of a side. -/
namespace Go.Proofs.Ytnigfipjcnamfaa
open Go.RowKit

set_option maxRecDepth 100000 in
theorem toboxside (B C : Nat) (p q r : Option Addr) (n c m d l e : Nat) (R S T : List Int) (k : Nat) (hk : k < n) (hm : k < m) (hl : k < l) (w : World) (hB : w.cell? ⟨B, 0, none⟩ = some (.slice p n c)) (hC : BoxAt w C q m d r l e)
    (h : Ints w p n c R) (h2 : Ints w q m d S) (h3 : Ints w r l e T) :
    Calls Try.prog 67 #[.int .i64 k, .pointer (some ⟨B, 0, none⟩), .pointer (some ⟨C, 0, none⟩)] w fun e w' => e = .returned (.int .u64 (gap (R.getD k 0) (S.getD k 0) (T.getD k 0))) ∧ ∃ j, w' = w.drewN j := by
  obtain ⟨hC0, hC1⟩ := hC
  obtain ⟨g, o, rfl, hc⟩ := h.cell k hk
  obtain ⟨g2, o2, rfl, hc2⟩ := h2.cell k hm
  obtain ⟨g3, o3, rfl, hc3⟩ := h3.cell k hl
  have hx := h.get k hk
  have hy := h2.get k hm
  have hz := h3.get k hl
  clear h h2 h3
  generalize R.getD k 0 = x at *
  generalize S.getD k 0 = y at *
  generalize T.getD k 0 = z at *
  have b1 : (0 : Int) ≤ k ∧ (k : Int) < n := by omega
  have b2 : (0 : Int) ≤ k ∧ (k : Int) < m := by omega
  have b3 : (0 : Int) ≤ k ∧ (k : Int) < l := by omega
  go_enter Try.func67, Try.ntmps67
  go_wp2_with fail
  go_quiet ((go_at_call 68; exact Calls.quiet_of_same (gap_any _ _ _ hx hy hz _)))
  go_wp2_with fail
  go_ret
  exact ⟨rfl, _, rfl⟩
end Go.Proofs.Ytnigfipjcnamfaa

/- dist.ToBox. -/
namespace Go.Proofs.Ytnigfipjcnamfaa
open Go.RowKit

def tbx (R S T : List Int) (n m l : Nat) : Int := if okP n m ∧ n = l then tot (fun k => gap (R.getD k 0) (S.getD k 0) (T.getD k 0)) n else 0
def tbxE (n m l : Nat) : Int := if okP n m ∧ n = l then 0 else 1
theorem boxed2 (w : World) (v u : Value) (t : TypeId) : (w.alloc (.cells #[v, u] t)).cell? ⟨w.heap.size, 0, none⟩ = some v := cell_of_row _ _ 0 _ t (0, 0) (heap_alloc_new w _)
theorem boxed3 (w : World) (v u : Value) (t : TypeId) : (w.alloc (.cells #[v, u] t)).cell? ⟨w.heap.size, 1, none⟩ = some u := cell_of_row _ _ 1 _ t (0, 0) (heap_alloc_new w _)
set_option maxRecDepth 100000 in
set_option maxHeartbeats 1000000 in
theorem tobox_any (p q r : Option Addr) (n c m d l f : Nat) (R S T : List Int) (w : World) (h : Ints w p n c R) (h2 : Ints w q m d S) (h3 : Ints w r l f T) :
    Calls Try.prog 61 #[.slice p n c, .agg #[.slice q m d, .slice r l f]] w fun e w' => e = .returned (.tuple #[dV (tbx R S T n m l), .int .i64 (tbxE n m l)]) ∧ Below w.heap.size w w' := by
  have H := Lib.hid h
  have H2 := Lib.hid h2
  have H3 := Lib.hid h3
  clear h h2 h3
  obtain ⟨hi, lo, hd⟩ := dV_two (tbx R S T n m l)
  rw [hd]
  have HD := Lib.hid hd
  clear hd
  go_enter Try.func61, Try.ntmps61
  go_wp2_with fail
  have B1 : Below w.heap.size w (w.alloc (.cells #[.slice p n c] 23)) := (Below.refl _ _).alloc (Nat.le_refl _) _
  have c1 := boxed w (.slice p n c) 23
  have s1 : (w.alloc (.cells #[.slice p n c] 23)).heap.size = w.heap.size + 1 := by simp
  generalize w.alloc (.cells #[.slice p n c] 23) = w1 at *
  have B2 : Below w1.heap.size w1 (w1.alloc (.cells #[.slice q m d, .slice r l f] 25)) := (Below.refl _ _).alloc (Nat.le_refl _) _
  have c2 := boxed2 w1 (.slice q m d) (.slice r l f) 25
  have c3 := boxed3 w1 (.slice q m d) (.slice r l f) 25
  have s2 : (w1.alloc (.cells #[.slice q m d, .slice r l f] 25)).heap.size = w.heap.size + 1 + 1 := by simp; omega
  generalize w1.alloc (.cells #[.slice q m d, .slice r l f] 25) = w2 at *
  have t3 := zero_two w2
  have B3 : Below w2.heap.size w2 (w2.alloc (.cells #[.int .u64 0, .int .u64 0] 64)) := (Below.refl _ _).alloc (Nat.le_refl _) _
  have s3 : (w2.alloc (.cells #[.int .u64 0, .int .u64 0] 64)).heap.size = w.heap.size + 3 := by simp; omega
  generalize w2.alloc (.cells #[.int .u64 0, .int .u64 0] 64) = w3 at *
  rw [s1] at c2 c3
  rw [s2] at t3
  replace c1 := (B2.cell (p := ⟨w.heap.size, 0, none⟩) (by show w.heap.size < _; omega)).trans c1
  replace c1 := (B3.cell (p := ⟨w.heap.size, 0, none⟩) (by show w.heap.size < _; omega)).trans c1
  replace c2 := (B3.cell (p := ⟨w.heap.size + 1, 0, none⟩) (by show w.heap.size + 1 < _; omega)).trans c2
  replace c3 := (B3.cell (p := ⟨w.heap.size + 1, 1, none⟩) (by show w.heap.size + 1 < _; omega)).trans c3
  have BB := Lib.hid (B1.trans ((B2.trans (B3.mono (by omega))).mono (by omega)))
  clear B1 B2 B3 s1 s2
  refine (points_any p q n c m d w3).mono ?_
  rintro e w3 ⟨rfl, rfl⟩
  by_cases hok : okP n m ∧ n = l
  · have hE : tbxE n m l = 0 := by unfold tbxE; rw [if_pos hok]
    have hB : tbx R S T n m l = tot (fun k => gap (R.getD k 0) (S.getD k 0) (T.getD k 0)) n := by unfold tbx; rw [if_pos hok]
    rw [hB] at HD
    rw [show decide (1 ≤ n ∧ n ≤ 8 ∧ n = m) = true from decide_eq_true hok.1]
    obtain ⟨⟨k1, k2, rfl⟩, rfl⟩ := hok
    have HE := Lib.hid hE
    clear hE hB
    go_wp2_with fail
    refine (points_any p r n c n f w3).mono ?_
    rintro e w3 ⟨rfl, rfl⟩
    rw [show decide (1 ≤ n ∧ n ≤ 8 ∧ n = n) = true from decide_eq_true ⟨k1, k2, rfl⟩]
    go_wp2_with fail
    refine (together_any n (by omega) (fun k => gap (R.getD k 0) (S.getD k 0) (T.getD k 0)) (fun k hk => gap_word (H.out.get k hk) (H2.out.get k hk) (H3.out.get k hk)) 67 #[.pointer (some ⟨w.heap.size, 0, none⟩), .pointer (some ⟨w.heap.size + 1, 0, none⟩)] (enter_side Try.func67 (by kernel_rfl) rfl) w3 ?_).mono ?_
    · intro k w' hk hb
      have hc : w'.cell? ⟨w.heap.size, 0, none⟩ = some (.slice p n c) := (hb.cell (p := ⟨w.heap.size, 0, none⟩) (by show w.heap.size < _; omega)).trans c1
      have hc2 : w'.cell? ⟨w.heap.size + 1, 0, none⟩ = some (.slice q n d) := (hb.cell (p := ⟨w.heap.size + 1, 0, none⟩) (by show w.heap.size + 1 < _; omega)).trans c2
      have hc3 : w'.cell? ⟨w.heap.size + 1, 1, none⟩ = some (.slice r n f) := (hb.cell (p := ⟨w.heap.size + 1, 1, none⟩) (by show w.heap.size + 1 < _; omega)).trans c3
      have hbb : Below w.heap.size w w' := BB.out.trans (hb.mono (by omega))
      exact toboxside w.heap.size (w.heap.size + 1) p q r n c n d n f R S T k hk hk hk w' hc ⟨hc2, hc3⟩ (H.out.later hbb) (H2.out.later hbb) (H3.out.later hbb)
    · rintro e w4 ⟨rfl, hb3⟩
      rw [HD.out]
      replace t3 := t3.later hb3 (by omega)
      have B3 := Lib.hid (BB.out.trans (hb3.mono (by omega)))
      obtain ⟨y0, y1, y2, y3⟩ := t3.facts
      have T3 := Lib.hid t3
      clear t3 c1 c2 c3 hb3 s3 BB
      go_wp2_with fail
      exact ret_two2 4 5 rfl (w.heap.size + 1 + 1) _ _ (.int .i64 0) rfl rfl (T3.out.set _ _) ⟨by rw [HE.out], Two.below B3.out (by omega) _ _⟩
  · have hE : tbxE n m l = 1 := by unfold tbxE; rw [if_neg hok]
    have hB : tbx R S T n m l = 0 := by unfold tbx; rw [if_neg hok]
    rw [hB] at HD
    obtain ⟨rfl, rfl⟩ : (0 : Int) = hi ∧ (0 : Int) = lo := by have := HD.out; simpa [dV] using this
    obtain ⟨y0, y1, y2, y3⟩ := t3.facts
    have T3 := Lib.hid t3
    have HE := Lib.hid hE
    clear t3 hE hB
    by_cases hp : okP n m
    · rw [show decide (1 ≤ n ∧ n ≤ 8 ∧ n = m) = true from decide_eq_true hp]
      go_wp2_with fail
      refine (points_any p r n c l f w3).mono ?_
      rintro e w3 ⟨rfl, rfl⟩
      rw [show decide (1 ≤ n ∧ n ≤ 8 ∧ n = l) = false from decide_eq_false fun h => hok ⟨hp, h.2.2⟩]
      clear c1 c2 c3 s3 hok hp
      go_wp2_with fail
      exact ret_two2 4 5 rfl (w.heap.size + 1 + 1) _ _ (.int .i64 1) rfl rfl (T3.out.set _ _) ⟨by rw [HE.out], Two.below BB.out (by omega) _ _⟩
    · rw [show decide (1 ≤ n ∧ n ≤ 8 ∧ n = m) = false from decide_eq_false hp]
      clear c1 c2 c3 s3 hok hp
      go_wp2_with fail
      exact ret_two2 4 5 rfl (w.heap.size + 1 + 1) _ _ (.int .i64 1) rfl rfl (T3.out.set _ _) ⟨by rw [HE.out], Two.below BB.out (by omega) _ _⟩
end Go.Proofs.Ytnigfipjcnamfaa

/- box.leastKey, box.placeOf, box.place's compare. -/
namespace Go.Proofs.Ytnigfipjcnamfaa
open Go.RowKit

/-- The least key of the rows from one to another one, side by side. -/
def leastI (kd cl : Int) (A P Q : List Int) (an n : Nat) : Int :=
  if kd = 3 then tbx A (P.drop 1) (Q.drop 1) an (n - 1) (n - 1) else if kd = 2 then 9223372036854775807 - Q.getD cl.toNat 0 else P.getD cl.toNat 0 + 9223372036854775808
theorem gap_point (x p : Int) : gap x p p = apart p x := by
  unfold gap apart
  repeat' split
  all_goals omega
theorem tot_congr' (f g : Nat → Int) : ∀ n, (∀ k, k < n → f k = g k) → tot f n = tot g n
  | 0, _ => rfl
  | n + 1, h => by
    show tot f n + f n = tot g n + g n
    rw [tot_congr' f g n (fun k hk => h k (by omega)), h n (by omega)]
theorem least_key {kd cl : Int} {A P : List Int} {an n : Nat} (ho : ordP kd cl an n) : leastI kd cl A P P an n = keyI kd cl A P an n := by
  unfold leastI keyI
  rw [if_pos ho]
  split
  · have h : an = n - 1 ∧ 1 ≤ an ∧ an ≤ 8 := by unfold ordP at ho; omega
    obtain ⟨rfl, h1, h2⟩ := h
    unfold tbx btw
    rw [if_pos (show okP (n - 1) (n - 1) ∧ n - 1 = n - 1 from ⟨⟨h1, h2, rfl⟩, rfl⟩), if_pos (show okP (n - 1) (n - 1) from ⟨h1, h2, rfl⟩)]
    exact tot_congr' _ _ _ fun k _ => gap_point _ _
  · rfl
theorem two_fresh (w : World) (a b : Value) : Two (w.alloc (.cells #[a, b] 64)) w.heap.size a b := heap_alloc_new w _
set_option maxRecDepth 100000 in
set_option maxHeartbeats 4000000 in
theorem leastkey_any (kd cl : Int) (q p r : Option Addr) (an ac n c e : Nat) (A P Q : List Int) (w : World) (hA : Ints w q an ac A) (hP : Ints w p n c P) (hQ : Ints w r n e Q) (ho : ordP kd cl an n) :
    Calls Try.prog 54 #[.agg #[.int .u8 kd, .int .i64 cl, .slice q an ac], .slice p n c, .slice r n e] w fun e w' => e = .returned (dV (leastI kd cl A P Q an n)) ∧ Below w.heap.size w w' := by
  have hb : Below w.heap.size w (w.alloc (.cells #[.int .u8 kd, .int .i64 cl, .slice q an ac] 27)) := (Below.refl _ _).alloc (Nat.le_refl _) _
  have hs : (w.alloc (.cells #[.int .u8 kd, .int .i64 cl, .slice q an ac] 27)).heap.size = w.heap.size + 1 := by simp
  obtain ⟨e0, e1, e2⟩ := three_alloc w (.int .u8 kd) (.int .i64 cl) (.slice q an ac) 27
  have hA1 := hA.later hb
  have hP1 := hP.later hb
  have hQ1 := hQ.later hb
  clear hA hP hQ
  obtain ⟨hi, lo, hd⟩ := dV_two (leastI kd cl A P Q an n)
  rw [hd]
  have HD := Lib.hid hd
  clear hd
  go_enter Try.func54, Try.ntmps54
  go_upto_region 1 with fail
  generalize w.alloc (.cells #[.int .u8 kd, .int .i64 cl, .slice q an ac] 27) = w1 at *
  have t2 := zero_two w1
  have hb2 : Below w1.heap.size w1 (w1.alloc (.cells #[.int .u64 0, .int .u64 0] 64)) := (Below.refl _ _).alloc (Nat.le_refl _) _
  generalize w1.alloc (.cells #[.int .u64 0, .int .u64 0] 64) = w2 at *
  have hlt : ∀ k, (⟨w.heap.size, k, none⟩ : Addr).block < w1.heap.size := fun k => by show w.heap.size < _; omega
  have d0 := (hb2.cell (hlt 0)).trans e0
  have d1 := (hb2.cell (hlt 1)).trans e1
  have d2 := (hb2.cell (hlt 2)).trans e2
  have HA := Lib.hid (hA1.later hb2)
  have HP := Lib.hid (hP1.later hb2)
  have HQ := Lib.hid (hQ1.later hb2)
  have HB := Lib.hid (hb.trans (hb2.mono (by omega)))
  have HS := Lib.hid (show w.heap.size + 1 < w2.heap.size from by have := t2.lt; omega)
  rw [hs] at t2
  have HT := Lib.hid t2
  clear hb hb2 hlt hA1 hP1 hQ1 hs e0 e1 e2 t2
  clear w1
  obtain ⟨y0, y1, z0, z1⟩ := HT.out.facts
  by_cases h3 : kd = 3
  case pos =>
    subst h3
    have hk : leastI 3 cl A P Q an n = tbx A (P.drop 1) (Q.drop 1) an (n - 1) (n - 1) := by unfold leastI; rw [if_pos rfl]
    rw [hk] at HD
    have hdim : 1 < n ∧ n ≤ 8 ∧ an = n - 1 := by unfold ordP at ho; omega
    obtain ⟨dm1, dm2, d3⟩ := hdim
    obtain ⟨g, o, rfl, ht⟩ := HP.out.tail (by omega)
    obtain ⟨g', o', rfl, ht'⟩ := HQ.out.tail (by omega)
    have hE : tbxE an (n - 1) (n - 1) = 0 := by unfold tbxE; rw [if_pos (show okP an (n - 1) ∧ an = n - 1 from ⟨⟨by omega, by omega, d3⟩, d3⟩)]
    have hc := fun w' (hb : Below w2.heap.size w2 w') => tobox_any q _ _ an ac (n - 1) (c - 1) (n - 1) (e - 1) A _ _ w' (HA.out.later hb) (ht.later hb) (ht'.later hb)
    rw [hE, HD.out] at hc
    have HC := Lib.hid hc
    have hle := HP.out.le
    have hle' := HQ.out.le
    have n1 : (1 : Int) ≤ n := by omega
    have c1 : ¬ c = 1 := by omega
    have c2 : ¬ e = 1 := by omega
    have HST := Lib.hid (show ∀ w' w'' : World, (Below w2.heap.size w2 w' ∧ Two w' (w.heap.size + 1) (.int .u64 0) (.int .u64 0)) → Below w'.heap.size w' w'' → (Below w2.heap.size w2 w'' ∧ Two w'' (w.heap.size + 1) (.int .u64 0) (.int .u64 0)) from fun w' w'' h hb => ⟨h.1.trans (hb.mono h.1.size), h.2.later hb h.2.lt⟩)
    have d4 := (((Below.refl w2.heap.size w2).alloc (Nat.le_refl _) (.cells #[.int .u64 0, .int .u64 0] 64)).cell (p := ⟨w.heap.size, 2, none⟩) (by have := HS.out; show w.heap.size < _; omega)).trans d2
    clear hk ho d3 hc ht ht' hle hle' hE dm1 dm2
    go_upto_region 8 with fail
    go_cut [7] (fun s7 wx => ∃ gd : Nat, s7 = .pointer (some ⟨gd, 0, none⟩) ∧ Two wx gd (.int .u64 hi) (.int .u64 lo) ∧ gd ≠ w.heap.size + 1 ∧ Two wx (w.heap.size + 1) (.int .u64 0) (.int .u64 0) ∧ Below w2.heap.size w2 wx)
    case first =>
      go_region_law (go_simp; first
        | (go_at_call 61; refine (HC.out _ (Below.refl _ _).drew).mono ?_; rintro e w4 ⟨rfl, hb4⟩)
        | (go_at_call 61; refine (HC.out _ ((Below.refl _ _).alloc (Nat.le_refl _) _).drew).mono ?_; rintro e w4 ⟨rfl, hb4⟩; have tb : Two w4 w2.heap.size (.int .u64 0) (.int .u64 0) := Two.later (w := (w2.alloc (.cells #[.int .u64 0, .int .u64 0] 64)).drew) (zero_two w2) hb4 (by simp); have TB := Lib.hid tb; obtain ⟨u0, u1, u2, u3⟩ := tb.facts; clear tb))
      all_goals
        go_wp2_with fail
        go_meet
      · have t4 : Two w4 (w.heap.size + 1) (.int .u64 0) (.int .u64 0) := Two.later (w := w2.drew) HT.out hb4 HT.out.lt
        exact ⟨w4.heap.size, rfl, two_fresh _ _ _, Nat.ne_of_gt t4.lt, t4.later ((Below.refl w4.heap.size w4).alloc (Nat.le_refl _) _) t4.lt, ((Below.refl _ _).drew.trans hb4).alloc (by have := hb4.size; simpa using this) _⟩
      all_goals
        have hba : Below w2.heap.size w2 (w2.alloc (.cells #[.int .u64 0, .int .u64 0] 64)).drew := ((Below.refl _ _).alloc (Nat.le_refl _) _).drew
        have hbw : Below w2.heap.size w2 w4 := hba.trans (hb4.mono hba.size)
        have t4 : Two w4 (w.heap.size + 1) (.int .u64 0) (.int .u64 0) := HT.out.later hbw HT.out.lt
        have hne : w2.heap.size ≠ w.heap.size + 1 := Nat.ne_of_gt HT.out.lt
        exact ⟨w2.heap.size, rfl, TB.out.set _ _, hne, t4.other (Ne.symm hne) _ _, Two.below hbw (Nat.le_refl _) _ _⟩
    case rest =>
      obtain ⟨gd, rfl, g1, gne, g2, g3⟩ := hcut
      obtain ⟨wx, hwx⟩ : ∃ w3, w3 = wc := ⟨_, rfl⟩
      rw [← hwx] at g1 g2 g3 ⊢
      clear hwx
      have G2 := Lib.hid g2
      have G3 := Lib.hid (HB.out.trans (g3.mono HB.out.size))
      obtain ⟨y0, y1, z0, z1⟩ := g2.facts
      obtain ⟨x0, x1, _, _⟩ := g1.facts
      clear g1 g2 g3 d4 d0 d1 d2
      go_wp2_with fail
      exact ret_two 6 rfl (w.heap.size + 1) _ _ rfl (G2.out.set _ _) ⟨rfl, Two.below G3.out (by omega) _ _⟩
  obtain ⟨j, rfl⟩ : ∃ j : Nat, cl = j := ⟨cl.toNat, by unfold ordP at ho; omega⟩
  have hj : j < n := by unfold ordP at ho; omega
  obtain ⟨g, o, rfl, hx⟩ := HP.out.cell j hj
  obtain ⟨g', o', rfl, hy⟩ := HQ.out.cell j hj
  have hxb := HP.out.get j hj
  have hyb := HQ.out.get j hj
  have i1 : (0 : Int) ≤ j ∧ (j : Int) < n := by omega
  have q3 : (kd == 3) = false := by simpa using h3
  by_cases h2 : kd = 2
  case pos =>
    subst h2
    have hk : leastI 2 j A P Q an n = 9223372036854775807 - Q.getD j 0 := by unfold leastI; rw [if_neg h3, if_pos rfl, Int.toNat_natCast]
    rw [hk] at HD
    generalize Q.getD j 0 = y at *
    have hd := HD.out
    rw [dV_small _ (by omega)] at hd
    have e1 : (0 : Int) = hi ∧ 9223372036854775807 - y = lo := by simpa using hd
    obtain ⟨rfl, hlo⟩ := e1
    have ha := apart_any y 9223372036854775807 hyb (by omega)
    rw [show apart y 9223372036854775807 = lo by unfold apart; split <;> omega] at ha
    have HA2 := Lib.hid ha
    clear hk hd h3 ho ha hlo
    go_wp2_with ((go_at_call 60; refine (HA2.out _).mono ?_; rintro e w' ⟨rfl, rfl⟩))
    exact ret_two 6 rfl (w.heap.size + 1) _ _ rfl (HT.out.set _ _) ⟨rfl, Two.below HB.out (by omega) _ _⟩
  case neg =>
    have hk : leastI kd j A P Q an n = P.getD j 0 + 9223372036854775808 := by unfold leastI; rw [if_neg h3, if_neg h2, Int.toNat_natCast]
    rw [hk] at HD
    generalize P.getD j 0 = x at *
    have hd := HD.out
    rw [dV_small _ (by omega)] at hd
    have e1 : (0 : Int) = hi ∧ x + 9223372036854775808 = lo := by simpa using hd
    obtain ⟨rfl, hlo⟩ := e1
    have ha := apart_any x (-9223372036854775808) hxb (by omega)
    rw [show apart x (-9223372036854775808) = lo by unfold apart; split <;> omega] at ha
    have HA2 := Lib.hid ha
    have q2 : (kd == 2) = false := by simpa using h2
    have hcase : kd = 0 ∨ kd = 1 := by unfold ordP at ho; omega
    clear hk hd ho ha hlo
    rcases hcase with rfl | rfl
    · clear h3 h2 q2 q3
      go_wp2_with ((go_at_call 60; refine (HA2.out _).mono ?_; rintro e w' ⟨rfl, rfl⟩))
      exact ret_two 6 rfl (w.heap.size + 1) _ _ rfl (HT.out.set _ _) ⟨rfl, Two.below HB.out (by omega) _ _⟩
    · clear h3 h2 q2 q3
      go_wp2_with ((go_at_call 60; refine (HA2.out _).mono ?_; rintro e w' ⟨rfl, rfl⟩))
      exact ret_two 6 rfl (w.heap.size + 1) _ _ rfl (HT.out.set _ _) ⟨rfl, Two.below HB.out (by omega) _ _⟩
end Go.Proofs.Ytnigfipjcnamfaa

/- box.placeOf, box.place's compare; box.Key. -/
namespace Go.Proofs.Ytnigfipjcnamfaa
open Go.RowKit

/-- A place in an order. -/
def plV (K id : Int) : Value := .agg #[.int .u64 (K / 18446744073709551616 % 18446744073709551616), .int .u64 (K % 18446744073709551616), .int .i64 id]
theorem plV_parts {K hi lo : Int} (id : Int) (h : dV K = .agg #[.int .u64 hi, .int .u64 lo]) : plV K id = .agg #[.int .u64 hi, .int .u64 lo, .int .i64 id] := by
  unfold dV at h
  simp only [Value.agg.injEq, Array.mk.injEq, List.cons.injEq, Value.int.injEq, true_and, and_true] at h
  unfold plV
  rw [h.1, h.2]
/-- A block that holds a place. -/
def Tri (w : World) (g : Nat) (a b c : Value) : Prop := w.heap[g]? = some (.cells #[a, b, c] 74 (0, 0))
theorem Tri.facts {w : World} {g : Nat} {a b c : Value} (h : Tri w g a b c) : w.cell? ⟨g, 0, none⟩ = some a ∧ w.cell? ⟨g, 1, none⟩ = some b ∧ w.cell? ⟨g, 2, none⟩ = some c ∧ w.frozen? ⟨g, 0, none⟩ = false ∧ w.frozen? ⟨g, 1, none⟩ = false ∧ w.frozen? ⟨g, 2, none⟩ = false :=
  ⟨cell_of_row w g 0 _ _ _ h, cell_of_row w g 1 _ _ _ h, cell_of_row w g 2 _ _ _ h, frozen_of_row w g 0 _ _ h, frozen_of_row w g 1 _ _ h, frozen_of_row w g 2 _ _ h⟩
theorem Tri.set {w : World} {g : Nat} {a b c : Value} (h : Tri w g a b c) (x y z : Value) : Tri (((w.setCell ⟨g, 0, none⟩ x).setCell ⟨g, 1, none⟩ y).setCell ⟨g, 2, none⟩ z) g x y z :=
  heap_setCell_same _ g 2 _ _ z (heap_setCell_same _ g 1 _ _ y (heap_setCell_same w g 0 _ _ x h))
theorem Tri.lt {w : World} {g : Nat} {a b c : Value} (h : Tri w g a b c) : g < w.heap.size := (Array.getElem?_eq_some_iff.1 h).1
theorem Tri.later {w w' : World} {g : Nat} {a b c : Value} (h : Tri w g a b c) (hb : Below w.heap.size w w') : Tri w' g a b c := (hb.block _ h.lt).trans h
theorem Tri.fresh (w : World) (a b c : Value) : Tri (w.alloc (.cells #[a, b, c] 74)) w.heap.size a b c := heap_alloc_new w _
theorem Tri.below {B : Nat} {a w : World} (h : Below B a w) {g : Nat} (hg : B ≤ g) (x y z : Value) : Below B a (((w.setCell ⟨g, 0, none⟩ x).setCell ⟨g, 1, none⟩ y).setCell ⟨g, 2, none⟩ z) := ((h.setCell (p := ⟨g, 0, none⟩) hg x).setCell (p := ⟨g, 1, none⟩) hg y).setCell (p := ⟨g, 2, none⟩) hg z
theorem ret_tri {fn : Func} {P : Ending → World → Prop} (p : Tmp) (hr : fn.results = #[.cell p 74]) {tmps : Array Value} {w : World} (g : Nat) (a b c : Value)
    (hp : tmps.getD p undef = .pointer (some ⟨g, 0, none⟩)) (hg : Tri w g a b c) (h : P (.returned (.agg #[a, b, c])) w) : bodyPost Try.prog fn P .ret ⟨tmps, []⟩ w := by
  obtain ⟨r0, r1, r2, _, _⟩ := hg.facts
  refine bodyPost_ret (a := ⟨tmps, []⟩) (v := .agg #[a, b, c]) ?_ rfl h
  have hp' : tmps[p]?.getD undef = .pointer (some ⟨g, 0, none⟩) := by simpa using hp
  simp [results, hr, hp', go_sem, r0, r1, r2]
set_option maxRecDepth 100000 in
set_option maxHeartbeats 4000000 in
theorem placeof_any (kd cl : Int) (q p r : Option Addr) (an ac n c e : Nat) (A P Q : List Int) (w : World) (hA : Ints w q an ac A) (hP : Ints w p n c P) (hQ : Ints w r n e Q) (ho : ordP kd cl an n) :
    Calls Try.prog 42 #[.agg #[.int .u8 kd, .int .i64 cl, .slice q an ac], .slice p n c, .slice r n e] w fun e w' => e = .returned (plV (leastI kd cl A P Q an n) (P.getD 0 0)) ∧ Below w.heap.size w w' := by
  have hn1 : 1 ≤ n := by unfold ordP at ho; omega
  have hb : Below w.heap.size w (w.alloc (.cells #[.int .u8 kd, .int .i64 cl, .slice q an ac] 27)) := (Below.refl _ _).alloc (Nat.le_refl _) _
  have hs : (w.alloc (.cells #[.int .u8 kd, .int .i64 cl, .slice q an ac] 27)).heap.size = w.heap.size + 1 := by simp
  obtain ⟨e0, e1, e2⟩ := three_alloc w (.int .u8 kd) (.int .i64 cl) (.slice q an ac) 27
  have hA1 := hA.later hb
  have hP1 := hP.later hb
  have hQ1 := hQ.later hb
  clear hA hP hQ
  obtain ⟨hi, lo, hd⟩ := dV_two (leastI kd cl A P Q an n)
  rw [plV_parts _ hd]
  have HD := Lib.hid hd
  clear hd
  go_enter Try.func42, Try.ntmps42
  go_upto_region 1 with fail
  generalize w.alloc (.cells #[.int .u8 kd, .int .i64 cl, .slice q an ac] 27) = w1 at *
  have t2 := Tri.fresh w1 (.int .u64 0) (.int .u64 0) (.int .i64 0)
  have hb2 : Below w1.heap.size w1 (w1.alloc (.cells #[.int .u64 0, .int .u64 0, .int .i64 0] 74)) := (Below.refl _ _).alloc (Nat.le_refl _) _
  generalize w1.alloc (.cells #[.int .u64 0, .int .u64 0, .int .i64 0] 74) = w2 at *
  have hlt : ∀ k, (⟨w.heap.size, k, none⟩ : Addr).block < w1.heap.size := fun k => by show w.heap.size < _; omega
  have d0 := (hb2.cell (hlt 0)).trans e0
  have d1 := (hb2.cell (hlt 1)).trans e1
  have d2 := (hb2.cell (hlt 2)).trans e2
  have HA := Lib.hid (hA1.later hb2)
  have HP := Lib.hid (hP1.later hb2)
  have HQ := Lib.hid (hQ1.later hb2)
  have HB := Lib.hid (hb.trans (hb2.mono (by omega)))
  rw [hs] at t2
  have HT := Lib.hid t2
  clear hb hb2 hlt hA1 hP1 hQ1 hs e0 e1 e2 t2
  clear w1
  have hc := fun w' (hb : Below w2.heap.size w2 w') => leastkey_any kd cl q p r an ac n c e A P Q w' (HA.out.later hb) (HP.out.later hb) (HQ.out.later hb) ho
  rw [HD.out] at hc
  have HC := Lib.hid hc
  obtain ⟨g, o, rfl, hx⟩ := HP.out.cell 0 hn1
  rw [Nat.add_zero] at hx
  obtain ⟨x, hxx⟩ : ∃ x, x = P.getD 0 0 := ⟨_, rfl⟩
  rw [← hxx] at hx
  have HX := Lib.hid hxx
  clear hxx
  have i1 : 0 < n := by omega
  obtain ⟨y0, y1, y2, z0, z1, z2⟩ := HT.out.facts
  clear ho hc hn1
  go_region_law (go_simp; go_at_call 54; refine (HC.out _ (by first | exact Below.refl _ _ | exact (Below.refl _ _).drew)).mono ?_; rintro e w4 ⟨rfl, hb4⟩; have hb4 : Below w2.heap.size w2 w4 := (by first | exact hb4 | exact Below.trans (Below.drew (Below.refl _ _)) hb4); have hx4 := (hb4.cell (p := ⟨g, o, none⟩) (block_lt_of_cell hx)).trans hx; have T4 := Lib.hid (HT.out.later hb4); have B4 := Lib.hid (HB.out.trans (hb4.mono HB.out.size)); obtain ⟨u0, u1, u2, v0, v1, v2⟩ := T4.out.facts; clear hb4)
  all_goals
    go_wp2_with fail
    exact ret_tri 6 rfl (w.heap.size + 1) _ _ _ rfl (T4.out.set _ _ _) ⟨by rw [HX.out], Tri.below B4.out (by omega) _ _ _⟩
/-- Which of two places is ahead. -/
def pcmp (a b i c d j : Int) : Int := if dcmp a b c d = 0 then icmp i j else dcmp a b c d
set_option maxRecDepth 100000 in
set_option maxHeartbeats 1000000 in
theorem compare_any (a b i c d j : Int) (w : World) :
    Calls Try.prog 45 #[.agg #[.int .u64 a, .int .u64 b, .int .i64 i], .agg #[.int .u64 c, .int .u64 d, .int .i64 j]] w fun e w' => e = .returned (.int .i64 (pcmp a b i c d j)) ∧ Below w.heap.size w w' := by
  have t1 := Tri.fresh w (.int .u64 a) (.int .u64 b) (.int .i64 i)
  have hb1 : Below w.heap.size w (w.alloc (.cells #[.int .u64 a, .int .u64 b, .int .i64 i] 74)) := (Below.refl _ _).alloc (Nat.le_refl _) _
  have hs : (w.alloc (.cells #[.int .u64 a, .int .u64 b, .int .i64 i] 74)).heap.size = w.heap.size + 1 := by simp
  go_enter Try.func45, Try.ntmps45
  go_upto_region 1 with fail
  generalize w.alloc (.cells #[.int .u64 a, .int .u64 b, .int .i64 i] 74) = w1 at *
  have t2 := Tri.fresh w1 (.int .u64 c) (.int .u64 d) (.int .i64 j)
  have hb2 : Below w1.heap.size w1 (w1.alloc (.cells #[.int .u64 c, .int .u64 d, .int .i64 j] 74)) := (Below.refl _ _).alloc (Nat.le_refl _) _
  rw [hs] at t2
  generalize w1.alloc (.cells #[.int .u64 c, .int .u64 d, .int .i64 j] 74) = w2 at *
  have T1 := Lib.hid (t1.later hb2)
  have T2 := Lib.hid t2
  have HB := Lib.hid (hb1.trans (hb2.mono (by omega)))
  clear t1 hb1 hs t2 hb2
  clear w1
  obtain ⟨x0, x1, x2, _⟩ := T1.out.facts
  obtain ⟨y0, y1, y2, _⟩ := T2.out.facts
  obtain ⟨z, hz⟩ : ∃ z, z = dcmp a b c d := ⟨_, rfl⟩
  have hc := cmp_any a b c d w2
  have HP := Lib.hid (show pcmp a b i c d j = if z = 0 then icmp i j else z by rw [hz]; rfl)
  rw [← hz] at hc
  have HC := Lib.hid hc
  clear hc hz
  go_wp2_with fail
  refine HC.out.mono ?_
  rintro e w3 ⟨rfl, hb3⟩
  have U1 := Lib.hid (T1.out.later hb3)
  have U2 := Lib.hid (T2.out.later hb3)
  have B3 := Lib.hid (HB.out.trans (hb3.mono HB.out.size))
  clear x0 x1 x2 y0 y1 y2 hb3
  obtain ⟨x0, x1, x2, _⟩ := U1.out.facts
  obtain ⟨y0, y1, y2, _⟩ := U2.out.facts
  by_cases h0 : z = 0
  · have HR := Lib.hid (show pcmp a b i c d j = icmp i j by rw [HP.out, if_pos h0])
    subst h0
    have HK := Lib.hid (compare64_any i j)
    go_wp2_with ((go_at_call 57; refine (HK.out _).mono ?_; rintro _ w' ⟨rfl, rfl⟩))
    go_ret
    exact ⟨congrArg (fun b => Ending.returned (.int .i64 b)) HR.out.symm, B3.out⟩
  · have HR := Lib.hid (show pcmp a b i c d j = z by rw [HP.out, if_neg h0])
    have q : (z != 0) = true := by simpa using h0
    clear h0
    go_wp2_with fail
    go_ret
    exact ⟨congrArg (fun b => Ending.returned (.int .i64 b)) HR.out.symm, B3.out⟩
/-- The error that says whether something is. -/
def errOf (b : Bool) : Int := if b then 0 else 1
end Go.Proofs.Ytnigfipjcnamfaa

/- Plain lists: Go's stable sort, as functions over an array and a 'less'. No program is named here. -/
namespace Go.Proofs.Ytnigfipjcnamfaa.St
open Go.Sort
variable {α : Type} [Inhabited α]

theorem geq (d : Array α) {x y : Nat} (h : x = y) : d[x]! = d[y]! := by rw [h]
/-- Two ranges exchanged, number by number. -/
def swpR (d : Array α) (p q : Nat) : Nat → Array α
  | 0 => d
  | n + 1 => swp (swpR d p q n) (p + n) (q + n)
theorem swpR_size (d : Array α) (p q : Nat) : ∀ n, (swpR d p q n).size = d.size
  | 0 => rfl
  | n + 1 => by rw [swpR, swp_size, swpR_size d p q n]
theorem swpR_get (d : Array α) (p q : Nat) : ∀ n, p + n ≤ q → q + n ≤ d.size → ∀ k, (swpR d p q n)[k]! = if p ≤ k ∧ k < p + n then d[q + (k - p)]! else if q ≤ k ∧ k < q + n then d[p + (k - q)]! else d[k]!
  | 0, _, _, k => by
    rw [swpR, if_neg (by omega), if_neg (by omega)]
  | n + 1, h1, h2, k => by
    have ih := swpR_get d p q n (by omega) (by omega)
    rw [swpR, swp_get _ (by rw [swpR_size]; omega) (by rw [swpR_size]; omega), ih, ih, ih]
    by_cases hq : k = q + n
    · rw [if_pos hq, if_neg (by omega), if_neg (by omega), if_neg (by omega), if_pos (by omega)]
      exact geq d (by omega)
    · rw [if_neg hq]
      by_cases hp : k = p + n
      · rw [if_pos hp, if_neg (by omega), if_neg (by omega), if_pos (by omega)]
        exact geq d (by omega)
      · rw [if_neg hp]
        by_cases c1 : p ≤ k ∧ k < p + n
        · rw [if_pos c1, if_pos (by omega)]
        · rw [if_neg c1, if_neg (show ¬ (p ≤ k ∧ k < p + (n + 1)) by omega)]
          by_cases c2 : q ≤ k ∧ k < q + n
          · rw [if_pos c2, if_pos (show q ≤ k ∧ k < q + (n + 1) by omega)]
          · rw [if_neg c2, if_neg (show ¬ (q ≤ k ∧ k < q + (n + 1)) by omega)]
/-- Two blocks side by side, i and j long, that meet at m, exchanged. -/
def rot (m : Nat) : Nat → Nat → Nat → Array α → Array α
  | 0, _, _, d => d
  | f + 1, i, j, d => if i = j then swpR d (m - i) m i else if j < i then rot m f (i - j) j (swpR d (m - i) m j) else rot m f i (j - i) (swpR d (m - i) (m + j - i) i)
theorem rot_size (m : Nat) : ∀ f i j (d : Array α), (rot m f i j d).size = d.size
  | 0, _, _, _ => rfl
  | f + 1, i, j, d => by
    rw [rot]
    split
    · exact swpR_size _ _ _ _
    · split
      · rw [rot_size m f, swpR_size]
      · rw [rot_size m f, swpR_size]
theorem rot_get (m : Nat) : ∀ f i j (d : Array α), 1 ≤ i → 1 ≤ j → i + j ≤ f → i ≤ m → m + j ≤ d.size → ∀ k, (rot m f i j d)[k]! = if k < m - i ∨ m + j ≤ k then d[k]! else if k < m - i + j then d[k + i]! else d[k - j]!
  | 0, i, j, d, h1, h2, h3, _, _, k => by omega
  | f + 1, i, j, d, h1, h2, h3, h4, h5, k => by
    rw [rot]
    by_cases he : i = j
    · rw [if_pos he, swpR_get _ _ _ _ (by omega) (by omega)]
      by_cases c : k < m - i ∨ m + j ≤ k
      · rw [if_pos c, if_neg (by omega), if_neg (by omega)]
      · rw [if_neg c]
        by_cases c2 : k < m - i + j
        · rw [if_pos c2, if_pos (by omega)]
          exact geq d (by omega)
        · rw [if_neg c2, if_neg (by omega), if_pos (by omega)]
          exact geq d (by omega)
    · rw [if_neg he]
      by_cases hj : j < i
      · rw [if_pos hj, rot_get m f (i - j) j _ (by omega) h2 (by omega) (by omega) (by rw [swpR_size]; exact h5)]
        have g := swpR_get d (m - i) m j (by omega) (by omega)
        by_cases c : k < m - (i - j) ∨ m + j ≤ k
        · rw [if_pos c, g]
          by_cases c2 : k < m - i ∨ m + j ≤ k
          · rw [if_pos c2, if_neg (by omega), if_neg (by omega)]
          · rw [if_neg c2, if_pos (by omega), if_pos (by omega)]
            exact geq d (by omega)
        · rw [if_neg c, if_neg (show ¬ (k < m - i ∨ m + j ≤ k) by omega), if_neg (show ¬ k < m - i + j by omega)]
          by_cases c2 : k < m - (i - j) + j
          · rw [if_pos c2, g]
            by_cases c3 : k + (i - j) < m
            · rw [if_neg (by omega), if_neg (by omega)]
              exact geq d (by omega)
            · rw [if_neg (by omega), if_pos (by omega)]
              exact geq d (by omega)
          · rw [if_neg c2, g, if_neg (by omega), if_neg (by omega)]
      · rw [if_neg hj, rot_get m f i (j - i) _ h1 (by omega) (by omega) h4 (by rw [swpR_size]; omega)]
        have g := swpR_get d (m - i) (m + j - i) i (by omega) (by omega)
        by_cases c : k < m - i ∨ m + (j - i) ≤ k
        · rw [if_pos c, g]
          by_cases c2 : k < m - i ∨ m + j ≤ k
          · rw [if_pos c2, if_neg (by omega), if_neg (by omega)]
          · rw [if_neg c2, if_neg (show ¬ k < m - i + j by omega), if_neg (by omega), if_pos (by omega)]
            exact geq d (by omega)
        · rw [if_neg c, if_neg (show ¬ (k < m - i ∨ m + j ≤ k) by omega)]
          by_cases c2 : k < m - i + (j - i)
          · rw [if_pos c2, g, if_pos (show k < m - i + j by omega), if_neg (by omega), if_neg (by omega)]
          · rw [if_neg c2, g, if_pos (show k < m - i + j by omega), if_pos (by omega)]
            exact geq d (by omega)
/-- The first place, from lo on, before which 'yes' was met, and at which 'no' was: by halving. -/
def bs (f : Nat → Bool) : Nat → Nat → Nat → Nat
  | 0, lo, _ => lo
  | n + 1, lo, hi => if lo < hi then (if f ((lo + hi) / 2) then bs f n ((lo + hi) / 2 + 1) hi else bs f n lo ((lo + hi) / 2)) else lo
theorem bs_spec (f : Nat → Bool) (L H : Nat) : ∀ n lo hi, hi - lo ≤ n → L ≤ lo → lo ≤ hi → hi ≤ H → (lo = L ∨ f (lo - 1) = true) → (hi = H ∨ f hi = false) →
    L ≤ bs f n lo hi ∧ bs f n lo hi ≤ H ∧ (bs f n lo hi = L ∨ f (bs f n lo hi - 1) = true) ∧ (bs f n lo hi = H ∨ f (bs f n lo hi) = false)
  | 0, lo, hi, h, h1, h2, h3, h4, h5 => by
    obtain rfl : lo = hi := by omega
    exact ⟨h1, h3, h4, h5⟩
  | n + 1, lo, hi, h, h1, h2, h3, h4, h5 => by
    rw [bs]
    by_cases hl : lo < hi
    · rw [if_pos hl]
      cases hf : f ((lo + hi) / 2) with
      | true =>
        rw [if_pos rfl]
        exact bs_spec f L H n _ _ (by omega) (by omega) (by omega) h3 (Or.inr (by rw [Nat.add_sub_cancel]; exact hf)) h5
      | false =>
        rw [if_neg (by simp)]
        exact bs_spec f L H n _ _ (by omega) h1 (by omega) (by omega) h4 (Or.inr hf)
    · rw [if_neg hl]
      obtain rfl : lo = hi := by omega
      exact ⟨h1, h3, h4, h5⟩
/-! ### Permutations of a part, places told -/
theorem rot_perm (m : Nat) : ∀ f i j (d : Array α) (a b : Nat), 1 ≤ i → 1 ≤ j → i + j ≤ f → i ≤ m → m + j ≤ b → a ≤ m - i → b ≤ d.size → PermIn a b d (rot m f i j d)
  | 0, i, j, d, a, b, h1, h2, h3, _, _, _, _ => by omega
  | f + 1, i, j, d, a, b, h1, h2, h3, h4, h5, h6, h7 => by
    have hsw : ∀ (p q n : Nat) (d : Array α), a ≤ p → p + n ≤ q → q + n ≤ b → b ≤ d.size → PermIn a b d (swpR d p q n) := by
      intro p q n
      induction n with
      | zero => intro d _ _ _ _; exact permIn_refl d a b
      | succ n ih =>
        intro d h1 h2 h3 h4
        exact permIn_trans _ _ _ a b (ih d h1 (by omega) (by omega) h4) (swp_permIn _ a b _ _ (by omega) (by omega) (by omega) (by omega) (by rw [swpR_size]; exact h4))
    rw [rot]
    split
    · exact hsw _ _ _ _ (by omega) (by omega) (by omega) h7
    · split
      · exact permIn_trans _ _ _ a b (hsw _ _ _ _ (by omega) (by omega) (by omega) h7) (rot_perm m f (i - j) j _ a b (by omega) h2 (by omega) (by omega) h5 (by omega) (by rw [swpR_size]; exact h7))
      · exact permIn_trans _ _ _ a b (hsw _ _ _ _ (by omega) (by omega) (by omega) h7) (rot_perm m f i (j - i) _ a b h1 (by omega) (by omega) h4 (by omega) h6 (by rw [swpR_size]; exact h7))
section
variable (lt : α → α → Bool)
/-- What lies at a goes up to ahead of i. -/
def up (a : Nat) : Nat → Array α → Array α
  | 0, d => d
  | n + 1, d => swp (up a n d) (a + n) (a + n + 1)
/-- What lies at m goes down to i: n steps. -/
def down (m : Nat) : Nat → Array α → Array α
  | 0, d => d
  | n + 1, d => swp (down m n d) (m - n) (m - n - 1)
theorem up_size (a : Nat) : ∀ n (d : Array α), (up a n d).size = d.size
  | 0, _ => rfl
  | n + 1, d => by rw [up, swp_size, up_size a n d]
theorem down_size (m : Nat) : ∀ n (d : Array α), (down m n d).size = d.size
  | 0, _ => rfl
  | n + 1, d => by rw [down, swp_size, down_size m n d]
theorem up_get (a : Nat) : ∀ n (d : Array α), a + n < d.size → ∀ k, (up a n d)[k]! = if k < a ∨ a + n < k then d[k]! else if k < a + n then d[k + 1]! else d[a]!
  | 0, d, h, k => by
    rw [up]
    by_cases c : k < a ∨ a + 0 < k
    · rw [if_pos c]
    · rw [if_neg c, if_neg (by omega)]
      exact geq d (by omega)
  | n + 1, d, h, k => by
    have ih := up_get a n d (by omega)
    rw [up, swp_get _ (by rw [up_size]; omega) (by rw [up_size]; omega), ih, ih, ih]
    by_cases c1 : k = a + n + 1
    · rw [if_pos c1, if_neg (show ¬ (a + n < a ∨ a + n < a + n) by omega), if_neg (show ¬ a + n < a + n by omega), if_neg (show ¬ (k < a ∨ a + (n + 1) < k) by omega), if_neg (show ¬ k < a + (n + 1) by omega)]
    · rw [if_neg c1]
      by_cases c2 : k = a + n
      · rw [if_pos c2, if_pos (show a + n + 1 < a ∨ a + n < a + n + 1 by omega), if_neg (show ¬ (k < a ∨ a + (n + 1) < k) by omega), if_pos (show k < a + (n + 1) by omega)]
        exact geq d (by omega)
      · rw [if_neg c2]
        by_cases c3 : k < a ∨ a + n < k
        · rw [if_pos c3, if_pos (show k < a ∨ a + (n + 1) < k by omega)]
        · rw [if_neg c3, if_neg (show ¬ (k < a ∨ a + (n + 1) < k) by omega), if_pos (show k < a + n by omega), if_pos (show k < a + (n + 1) by omega)]
theorem down_get (m : Nat) : ∀ n (d : Array α), n ≤ m → m < d.size → ∀ k, (down m n d)[k]! = if k < m - n ∨ m < k then d[k]! else if m - n < k then d[k - 1]! else d[m]!
  | 0, d, h, _, k => by
    rw [down]
    by_cases c : k < m - 0 ∨ m < k
    · rw [if_pos c]
    · rw [if_neg c, if_neg (by omega)]
      exact geq d (by omega)
  | n + 1, d, h, h2, k => by
    have ih := down_get m n d (by omega) h2
    rw [down, swp_get _ (by rw [down_size]; omega) (by rw [down_size]; omega), ih, ih, ih]
    by_cases c1 : k = m - n - 1
    · rw [if_pos c1, if_neg (show ¬ (m - n < m - n ∨ m < m - n) by omega), if_neg (show ¬ m - n < m - n by omega), if_neg (show ¬ (k < m - (n + 1) ∨ m < k) by omega), if_neg (show ¬ m - (n + 1) < k by omega)]
    · rw [if_neg c1]
      by_cases c2 : k = m - n
      · rw [if_pos c2, if_pos (show m - n - 1 < m - n ∨ m < m - n - 1 by omega), if_neg (show ¬ (k < m - (n + 1) ∨ m < k) by omega), if_pos (show m - (n + 1) < k by omega)]
        exact geq d (by omega)
      · rw [if_neg c2]
        by_cases c3 : k < m - n ∨ m < k
        · rw [if_pos c3, if_pos (show k < m - (n + 1) ∨ m < k by omega)]
        · rw [if_neg c3, if_neg (show ¬ (k < m - (n + 1) ∨ m < k) by omega), if_pos (show m - n < k by omega), if_pos (show m - (n + 1) < k by omega)]
theorem up_perm (a0 b0 a : Nat) (ha : a0 ≤ a) : ∀ n (d : Array α), a + n < b0 → b0 ≤ d.size → PermIn a0 b0 d (up a n d)
  | 0, d, _, _ => permIn_refl d a0 b0
  | n + 1, d, h, hb => permIn_trans _ _ _ a0 b0 (up_perm a0 b0 a ha n d (by omega) hb) (swp_permIn _ a0 b0 _ _ (by omega) (by omega) (by omega) (by omega) (by rw [up_size]; exact hb))
theorem down_perm (a0 b0 m : Nat) (hm : m < b0) : ∀ n (d : Array α), a0 + n ≤ m → b0 ≤ d.size → PermIn a0 b0 d (down m n d)
  | 0, d, _, _ => permIn_refl d a0 b0
  | n + 1, d, h, hb => permIn_trans _ _ _ a0 b0 (down_perm a0 b0 m hm n d (by omega) hb) (swp_permIn _ a0 b0 _ _ (by omega) (by omega) (by omega) (by omega) (by rw [down_size]; exact hb))
end
end Go.Proofs.Ytnigfipjcnamfaa.St
