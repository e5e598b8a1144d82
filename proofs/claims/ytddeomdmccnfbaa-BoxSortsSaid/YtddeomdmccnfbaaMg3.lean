/- BoxRefF, BoxRows, BoxRefC, Dist1B, Dist5B, BoxEach, BoxOrd, BoxRefD. -/
import Derived.Test.YtddeomdmccnfbaaMg2
import Derived.SizedLaws
/- indentureref04.SameRows; lists of rows that lie in memory. -/
namespace Go.Proofs.Ytddeomdmccnfbaa
open Go.RowKit

/-- A row, as it lies in memory. -/
structure Rw where
  p : Option Addr
  (n c : Nat)
  R : List Int
instance : Inhabited Rw := ⟨⟨none, 0, 0, []⟩⟩
def Rw.val (t : Rw) : Value := .slice t.p t.n t.c
structure Rw.Ok (w : World) (t : Rw) : Prop where
  ints : Ints w t.p t.n t.c t.R
  top : t.n ≤ 9223372036854775807
/-- A list of rows that are known. -/
structure RowsIn (w : World) (p : Option Addr) (n c : Nat) (L : List Rw) : Prop where
  size : n = L.length
  le : n ≤ c
  each : ∀ t ∈ L, t.Ok w
  at' : L = [] ∨ ∃ g o, p = some ⟨g, o, none⟩ ∧ ∀ i, i < L.length → w.cell? ⟨g, o + i, none⟩ = some (L.getD i default).val
theorem Rw.Ok.later {w w' : World} {t : Rw} (h : t.Ok w) (hb : Below w.heap.size w w') : t.Ok w' := ⟨h.ints.later hb, h.top⟩
theorem RowsIn.later {w w' : World} {p : Option Addr} {n c : Nat} {L : List Rw} (h : RowsIn w p n c L) (hb : Below w.heap.size w w') : RowsIn w' p n c L :=
  ⟨h.size, h.le, fun t ht => (h.each t ht).later hb, h.at'.imp id fun ⟨g, o, hp, hx⟩ => ⟨g, o, hp, fun i hi => (hb.cell (p := ⟨g, o + i, none⟩) (block_lt_of_cell (hx i hi))).trans (hx i hi)⟩⟩
theorem RowsIn.cell {w : World} {p : Option Addr} {n c : Nat} {L : List Rw} (h : RowsIn w p n c L) (k : Nat) (hk : k < n) : ∃ g o, p = some ⟨g, o, none⟩ ∧ w.cell? ⟨g, o + k, none⟩ = some (L.getD k default).val ∧ (L.getD k default).Ok w := by
  have hk' : k < L.length := by rw [← h.size]; exact hk
  rcases h.at' with h0 | ⟨g, o, hp, hx⟩
  · rw [h0] at hk'; exact absurd hk' (by simp)
  · refine ⟨g, o, hp, hx k hk', ?_⟩
    rw [List.getD_eq_getElem?_getD, List.getElem?_eq_getElem hk']
    exact h.each _ (List.getElem_mem hk')
/-- The numbers of the rows. -/
def nums (L : List Rw) : List (List Int) := L.map Rw.R
theorem nums_take_succ (L : List Rw) (k : Nat) (h : k < L.length) : nums (L.take (k + 1)) = nums (L.take k) ++ [(L.getD k default).R] := by
  unfold nums
  rw [List.take_succ_eq_append_getElem h, List.map_append, List.getD_eq_getElem?_getD, List.getElem?_eq_getElem h]
  rfl
def SrsRel (w : World) (L M : List Rw) (n : Nat) (i : Value) (wr : World) : Prop := ∃ k j : Nat, k ≤ n ∧ i = .int .i64 k ∧ nums (L.take k) = nums (M.take k) ∧ wr = w.drewN j
theorem nums_ne {L M : List Rw} {k : Nat} (hk : k < L.length) (hm : k < M.length) (h : ¬ (L.getD k default).R = (M.getD k default).R) : ¬ nums L = nums M := fun e => by
  have := congrArg (fun l => l.getD k []) e
  simp [nums, List.getD_eq_getElem?_getD, hk, hm] at this h
  exact h this
set_option maxRecDepth 100000 in
set_option maxHeartbeats 4000000 in
theorem samerows_any (p q : Option Addr) (n c m e : Nat) (L M : List Rw) (w : World) (h : RowsIn w p n c L) (h2 : RowsIn w q m e M) (hn9 : n ≤ 9223372036854775807) :
    Calls Try.prog 25 #[.slice p n c, .slice q m e] w fun e w' => e = .returned (.bool (decide (nums L = nums M))) ∧ ∃ j, w' = w.drewN j := by
  have H1 := Lib.hid h
  have H2 := Lib.hid h2
  clear h h2
  by_cases hn : (n : Int) = m
  case neg =>
    have HNE := Lib.hid (show ¬ nums L = nums M from fun h => hn (by
      have := congrArg List.length h
      simp [nums] at this
      rw [H1.out.size, H2.out.size, this]))
    go_enter Try.func25, Try.ntmps25
    go_wp2_with fail
    go_ret
    exact ⟨ret_ndec HNE.out, 0, rfl⟩
  obtain rfl : m = n := by omega
  go_enter Try.func25, Try.ntmps25
  go_wp2_with fail
  go_loopw [5] (fun i wr => SrsRel w L M m i wr) (fun i _ => m - (intOf i).toNat)
  case atStart => exact ⟨0, 0, by omega, rfl, rfl, rfl⟩
  case round =>
    obtain ⟨k, j, hk, rfl, heq, hwr⟩ := hrel
    have HL := Lib.hid heq
    have HW := Lib.hid hwr
    have G1 := Lib.hid (show RowsIn wr p m c L by rw [hwr]; exact H1.out.later (Below.drewN (Below.refl _ _) j))
    have G2 := Lib.hid (show RowsIn wr q m e M by rw [hwr]; exact H2.out.later (Below.drewN (Below.refl _ _) j))
    clear heq hwr
    by_cases hlt : k < m
    · obtain ⟨gx, o, rfl, hcx, hox⟩ := G1.out.cell k hlt
      obtain ⟨gy, o2, rfl, hcy, hoy⟩ := G2.out.cell k hlt
      have hkL : k < L.length := by rw [← H1.out.size]; exact hlt
      have hkM : k < M.length := by rw [← H2.out.size]; exact hlt
      have i1 : (0 : Int) ≤ k ∧ (k : Int) < m := by omega
      have HS1 := Lib.hid (nums_take_succ L k hkL)
      have HS2 := Lib.hid (nums_take_succ M k hkM)
      have HF := Lib.hid (fun h => nums_ne (L := L) (M := M) hkL hkM h)
      obtain ⟨t, htt⟩ : ∃ t, t = L.getD k default := ⟨_, rfl⟩
      obtain ⟨u, huu⟩ : ∃ u, u = M.getD k default := ⟨_, rfl⟩
      rw [← htt] at hcx hox HS1 HF
      rw [← huu] at hcy hoy HS2 HF
      unfold Rw.val at hcx hcy
      have hcall : ∀ i, Calls Try.prog 47 #[.slice t.p t.n t.c, .slice u.p u.n u.c] (wr.drewN i) fun e w' => e = .returned (.bool (decide (t.R = u.R))) ∧ ∃ m, w' = (wr.drewN i).drewN m := fun i =>
        samerow_any _ _ _ _ _ _ _ _ (wr.drewN i) (hox.ints.later (Below.drewN (Below.refl _ _) i)) (hoy.ints.later (Below.drewN (Below.refl _ _) i)) hox.top
      clear htt huu hox hoy hkL hkM
      by_cases hxy : t.R = u.R
      · rw [decide_eq_true hxy] at hcall
        have HC := Lib.hid hcall
        have HXY := Lib.hid hxy
        clear hcall hxy
        go_upto_region 6 with fail
        go_quiet ((go_at_call 47; exact Calls.quiet_of (HC.out _)))
        go_wp2_with fail
        go_roundw
        case rel => exact ⟨k + 1, j + nq, by omega, by go_num, by rw [HS1.out, HS2.out, HL.out, HXY.out], by rw [HW.out, World.drewN_drewN]⟩
        case measure => simp [intOf]; omega
      · rw [decide_eq_false hxy] at hcall
        have HC := Lib.hid hcall
        have HN := Lib.hid (HF.out hxy)
        clear hcall hxy
        go_upto_region 6 with fail
        go_quiet ((go_at_call 47; exact Calls.quiet_of (HC.out _)))
        go_wp2_with fail
        go_ret
        exact ⟨ret_ndec HN.out, j + nq, by rw [HW.out, World.drewN_drewN]⟩
    · obtain rfl : k = m := by omega
      have he := HL.out
      rw [List.take_of_length_le (by rw [H1.out.size]; exact Nat.le_refl _), List.take_of_length_le (by rw [H2.out.size]; exact Nat.le_refl _)] at he
      have HE := Lib.hid he
      clear he
      go_wp2_with fail
      go_ret
      exact ⟨ret_dec HE.out, j, HW.out⟩
end Go.Proofs.Ytddeomdmccnfbaa

/- An argument that is a list of rows, opened. -/
namespace Go.Proofs.Ytddeomdmccnfbaa
open Go.ChangeShapes Go.WideShapes Go.ChangeAt Go.RowKit Go.Deep

theorem URs : Try.prog.underlying 52 = some (.slice 23) := by kernel_rfl
/-- A list of rows, as the reading has it. -/
theorem open_rows {H : Type} {enc : TypeId × Value → H} {W : World} {base : Nat} {held : Bool} {fuel : Nat} {a0 : Option Addr} {len0 cap0 : Nat} {x : DataW H × List MemPlace}
    (h : DataW.trod enc Try.prog W base (fun _ => true) held fuel 52 (Value.slice a0 len0 cap0).cells.toList = some x) : (∃ L, RowsIn W a0 len0 cap0 L) ∧ len0 ≤ 9223372036854775807 := by
  rcases open_int_rows URs UR UI64 CRow CI64 h with ⟨hcs, _⟩ | ⟨a, len, cap, A, L, C, Z, hcs, _, hl, hm, _, hx⟩
  · simp [Value.cells] at hcs
    obtain ⟨rfl, rfl, rfl⟩ := hcs
    exact ⟨⟨[], ⟨rfl, Nat.le_refl _, fun t ht => absurd ht (by simp), Or.inl rfl⟩⟩, by omega⟩
  · simp [Value.cells] at hcs
    obtain ⟨rfl, rfl, rfl⟩ := hcs
    have hok : ∀ r, r < len0 → Rw.Ok W ⟨A r, L r, C r, (Z r).take (L r)⟩ := fun r hr => by
      obtain ⟨h1, h2, h3, h4, h5, h6, h7⟩ := hx r (by omega)
      refine ⟨⟨by show L r = _; rw [List.length_take]; omega, h2, fun y hy => bounds_i64 (h5 y (List.mem_of_mem_take hy)), ?_⟩, by show L r ≤ _; unfold maxLen at h3; omega⟩
      rcases Nat.eq_zero_or_pos (L r) with h0 | h0
      · exact Or.inl (by rw [h0, List.take_zero])
      · cases hA : A r with
        | none => have := h6 hA; exact absurd h0 (by omega)
        | some a' =>
          have h8 := (h7 a' hA).2
          have hsp := World.cell?_spot (h8 0 (by omega))
          obtain ⟨g, o, spot⟩ := a'
          have hspot : spot = none := by simpa [Addr.add] using hsp
          subst hspot
          refine Or.inr ⟨g, o, rfl, fun i hi => ?_⟩
          rw [List.length_take] at hi
          have := h8 i (by omega)
          rw [show (⟨g, o, none⟩ : Addr).add i = ⟨g, o + i, none⟩ from by unfold Addr.add; split <;> simp_all] at this
          rw [this, List.getD_eq_getElem?_getD, List.getD_eq_getElem?_getD, List.getElem?_take_of_lt (by omega)]
    refine ⟨⟨(List.range len0).map fun r => ⟨A r, L r, C r, (Z r).take (L r)⟩, ⟨by simp, hl, fun t ht => ?_, ?_⟩⟩, by unfold maxLen at hm; omega⟩
    · simp only [List.mem_map, List.mem_range] at ht
      obtain ⟨r, hr, rfl⟩ := ht
      exact hok r hr
    · rcases Nat.eq_zero_or_pos len0 with h0 | h0
      · exact Or.inl (by subst h0; rfl)
      · obtain ⟨g, o, spot⟩ := a
        have hspot : spot = none := by simpa [Addr.add] using World.cell?_spot (hx 0 (by omega)).1
        subst hspot
        refine Or.inr ⟨g, o, rfl, fun i hi => ?_⟩
        have hi' : i < len0 := by simpa using hi
        have h1 := (hx i (by omega)).1
        rw [← Addr.add_mid]
        simp only [List.getD_eq_getElem?_getD, List.getElem?_map, List.getElem?_range hi', Option.map_some, Option.getD_some, Rw.val]
        exact h1
theorem bytesI64 : Try.prog.bytesOf 2 = 8 := by kernel_rfl
theorem weightsAll_in {H : Type} {P : Program} {e : TypeId} : ∀ {l : List (DataW H)} {d : DataW H}, d ∈ l → ∀ n ∈ d.weights P e, n ∈ DataW.weightsAll P e l
  | d' :: r, d, hd, n, hn => by
    simp only [DataW.weightsAll, List.mem_append]
    rcases List.mem_cons.1 hd with rfl | h
    · exact Or.inl hn
    · exact Or.inr (weightsAll_in h n hn)
/-- What a row inside a list that is read takes at most. -/
theorem sized_row {H : Type} {P : Program} {ts : List TypeId} {ds : List (DataW H)} (h : (DataW.weightsEach P ts ds).all (· ≤ reachBytes) = true) {j : Nat} {t e q : TypeId} {elems spare e' sp' : List (DataW H)}
    (ht : ts[j]? = some t) (hd : ds[j]? = some (.slice elems spare)) (hu : P.underlying t = some (.slice e)) (hu2 : P.underlying e = some (.slice q)) (hx : DataW.slice e' sp' ∈ elems) : (e'.length + sp'.length) * P.bytesOf q ≤ reachBytes := by
  refine of_decide_eq_true (List.all_eq_true.1 h _ (DataW.weights_mem_each ht hd _ ?_))
  simp only [DataW.weights, hu, List.mem_cons, List.mem_append]
  exact Or.inr (Or.inl (weightsAll_in hx _ (by simp [DataW.weights, hu2])))
theorem open_rows2 {H : Type} {enc : TypeId × Value → H} {W : World} {base : Nat} {held : Bool} {fuel : Nat} {a0 : Option Addr} {len0 cap0 : Nat} {x : DataW H × List MemPlace} {ts : List TypeId} {ds : List (DataW H)} {j : Nat}
    (h : DataW.trod enc Try.prog W base (fun _ => true) held fuel 52 (Value.slice a0 len0 cap0).cells.toList = some x) (hsz : (DataW.weightsEach Try.prog ts ds).all (· ≤ reachBytes) = true) (ht : ts[j]? = some 52) (hd : ds[j]? = some x.1) :
    (∃ L, RowsIn W a0 len0 cap0 L ∧ ∀ t ∈ L, (t.p = none → t.c = 0) ∧ t.c * 8 ≤ 140737488351232) ∧ len0 ≤ 9223372036854775807 := by
  rcases open_int_rows URs UR UI64 CRow CI64 h with ⟨hcs, _⟩ | ⟨a, len, cap, A, L, C, Z, hcs, _, hl, hm, hx1, hx⟩
  · simp [Value.cells] at hcs
    obtain ⟨rfl, rfl, rfl⟩ := hcs
    exact ⟨⟨[], ⟨rfl, Nat.le_refl _, fun t ht => absurd ht (by simp), Or.inl rfl⟩, fun t ht => absurd ht (by simp)⟩, by omega⟩
  · simp [Value.cells] at hcs
    obtain ⟨rfl, rfl, rfl⟩ := hcs
    have hreach : ∀ r, r < len0 → C r * 8 ≤ 140737488351232 := fun r hr => by
      obtain ⟨h1, h2, h3, h4, h5, h6, h7⟩ := hx r (by omega)
      cases hA : A r with
      | none => rw [h6 hA]; omega
      | some a' =>
        rw [hx1] at hd
        have := sized_row (e' := lits .i64 ((Z r).take (L r))) (sp' := lits .i64 ((Z r).drop (L r))) hsz ht hd URs UR (by
          rw [List.mem_map]
          exact ⟨r, List.mem_range.2 hr, by rw [hA]; rfl⟩)
        rw [bytesI64] at this
        simp only [lits, List.length_map, List.length_take, List.length_drop, reachBytes] at this
        omega
    have hok : ∀ r, r < len0 → Rw.Ok W ⟨A r, L r, C r, (Z r).take (L r)⟩ := fun r hr => by
      obtain ⟨h1, h2, h3, h4, h5, h6, h7⟩ := hx r (by omega)
      refine ⟨⟨by show L r = _; rw [List.length_take]; omega, h2, fun y hy => bounds_i64 (h5 y (List.mem_of_mem_take hy)), ?_⟩, by show L r ≤ _; unfold maxLen at h3; omega⟩
      rcases Nat.eq_zero_or_pos (L r) with h0 | h0
      · exact Or.inl (by rw [h0, List.take_zero])
      · cases hA : A r with
        | none => have := h6 hA; exact absurd h0 (by omega)
        | some a' =>
          have h8 := (h7 a' hA).2
          have hsp := World.cell?_spot (h8 0 (by omega))
          obtain ⟨g, o, spot⟩ := a'
          have hspot : spot = none := by simpa [Addr.add] using hsp
          subst hspot
          refine Or.inr ⟨g, o, rfl, fun i hi => ?_⟩
          rw [List.length_take] at hi
          have := h8 i (by omega)
          rw [Addr.add_mid] at this
          rw [this, List.getD_eq_getElem?_getD, List.getD_eq_getElem?_getD, List.getElem?_take_of_lt (by omega)]
    refine ⟨⟨(List.range len0).map fun r => ⟨A r, L r, C r, (Z r).take (L r)⟩, ⟨by simp, hl, fun t ht => ?_, ?_⟩, fun t ht => ?_⟩, by unfold maxLen at hm; omega⟩
    · simp only [List.mem_map, List.mem_range] at ht
      obtain ⟨r, hr, rfl⟩ := ht
      exact hok r hr
    · rcases Nat.eq_zero_or_pos len0 with h0 | h0
      · exact Or.inl (by subst h0; rfl)
      · obtain ⟨g, o, spot⟩ := a
        have hspot : spot = none := by simpa [Addr.add] using World.cell?_spot (hx 0 (by omega)).1
        subst hspot
        refine Or.inr ⟨g, o, rfl, fun i hi => ?_⟩
        have hi' : i < len0 := by simpa using hi
        have h1 := (hx i (by omega)).1
        rw [← Addr.add_mid]
        simp only [List.getD_eq_getElem?_getD, List.getElem?_map, List.getElem?_range hi', Option.map_some, Option.getD_some, Rw.val]
        exact h1
    · simp only [List.mem_map, List.mem_range] at ht
      obtain ⟨r, hr, rfl⟩ := ht
      exact ⟨fun hA => (hx r (by omega)).2.2.2.2.2.1 hA, hreach r hr⟩
end Go.Proofs.Ytddeomdmccnfbaa

/- indentureref04.OrderRight. -/
namespace Go.Proofs.Ytddeomdmccnfbaa
open Go.RowKit

/-- Whether an order (its kind, its column, how many numbers its point has) is right for so many dimensions. -/
def ordP (kd cl : Int) (an : Nat) (d : Int) : Prop :=
  (1 ≤ d ∧ d ≤ 8) ∧ ((kd = 0 ∧ cl = 0 ∧ (an : Int) = 0) ∨ (kd = 1 ∧ 0 < cl ∧ cl ≤ d - 1 ∧ (an : Int) = 0) ∨ (kd = 2 ∧ 0 ≤ cl ∧ cl ≤ d - 1 ∧ (an : Int) = 0) ∨ (kd = 3 ∧ cl = 0 ∧ 1 < d ∧ (an : Int) = d - 1))
instance (kd cl : Int) (an : Nat) (d : Int) : Decidable (ordP kd cl an d) := by unfold ordP; infer_instance
theorem three_alloc (w : World) (v u x : Value) (t : TypeId) : (w.alloc (.cells #[v, u, x] t)).cell? ⟨w.heap.size, 0, none⟩ = some v ∧ (w.alloc (.cells #[v, u, x] t)).cell? ⟨w.heap.size, 1, none⟩ = some u ∧ (w.alloc (.cells #[v, u, x] t)).cell? ⟨w.heap.size, 2, none⟩ = some x :=
  ⟨cell_of_row _ _ 0 _ t (0, 0) (heap_alloc_new w _), cell_of_row _ _ 1 _ t (0, 0) (heap_alloc_new w _), cell_of_row _ _ 2 _ t (0, 0) (heap_alloc_new w _)⟩
set_option maxRecDepth 100000 in
set_option maxHeartbeats 4000000 in
theorem refordright_any (kd cl d : Int) (p : Option Addr) (an c : Nat) (w : World) :
    Calls Try.prog 18 #[.agg #[.int .u8 kd, .int .i64 cl, .slice p an c], .int .i64 d] w fun e w' => e = .returned (.bool (decide (ordP kd cl an d))) ∧ Below w.heap.size w w' := by
  have hb : Below w.heap.size w (w.alloc (.cells #[.int .u8 kd, .int .i64 cl, .slice p an c] 34)) := (Below.refl _ _).alloc (Nat.le_refl _) _
  obtain ⟨e0, e1, e2⟩ := three_alloc w (.int .u8 kd) (.int .i64 cl) (.slice p an c) 34
  have HB := Lib.hid hb
  clear hb
  by_cases hd1 : d < 1
  case pos =>
    go_enter Try.func18, Try.ntmps18
    go_wp2_with fail
    go_ret
    exact ⟨ret_ndec (by unfold ordP; omega), HB.out⟩
  by_cases hd2 : 8 < d
  case pos =>
    go_enter Try.func18, Try.ntmps18
    go_wp2_with fail
    go_ret
    exact ⟨ret_ndec (by unfold ordP; omega), HB.out⟩
  by_cases k0 : kd = 0
  case pos =>
    subst k0
    by_cases c0 : cl = 0
    case pos =>
      subst c0
      by_cases a0 : (an : Int) = 0
      case pos =>
        have qa0 : ((an : Int) == 0) = true := by simpa using a0
        go_enter Try.func18, Try.ntmps18
        go_wp2_with fail
        go_ret
        exact ⟨ret_dec (by unfold ordP; omega), HB.out⟩
      case neg =>
        have qa0 : ((an : Int) == 0) = false := by simpa using a0
        go_enter Try.func18, Try.ntmps18
        go_wp2_with fail
        go_ret
        exact ⟨ret_ndec (by unfold ordP; omega), HB.out⟩
    case neg =>
      have qc0 : (cl == 0) = false := by simpa using c0
      go_enter Try.func18, Try.ntmps18
      go_wp2_with fail
      go_ret
      exact ⟨ret_ndec (by unfold ordP; omega), HB.out⟩
  by_cases k1 : kd = 1
  case pos =>
    subst k1
    by_cases c0 : 0 < cl
    case pos =>
      by_cases c1 : cl ≤ d - 1
      case pos =>
        by_cases a0 : (an : Int) = 0
        case pos =>
          have qa0 : ((an : Int) == 0) = true := by simpa using a0
          go_enter Try.func18, Try.ntmps18
          go_wp2_with fail
          go_ret
          exact ⟨ret_dec (by unfold ordP; omega), HB.out⟩
        case neg =>
          have qa0 : ((an : Int) == 0) = false := by simpa using a0
          go_enter Try.func18, Try.ntmps18
          go_wp2_with fail
          go_ret
          exact ⟨ret_ndec (by unfold ordP; omega), HB.out⟩
      case neg =>
        go_enter Try.func18, Try.ntmps18
        go_wp2_with fail
        go_ret
        exact ⟨ret_ndec (by unfold ordP; omega), HB.out⟩
    case neg =>
      by_cases c2 : cl = 0
      case pos =>
        subst c2
        go_enter Try.func18, Try.ntmps18
        go_wp2_with fail
        go_ret
        exact ⟨ret_ndec (by unfold ordP; omega), HB.out⟩
      case neg =>
        have qc2 : (cl == 0) = false := by simpa using c2
        go_enter Try.func18, Try.ntmps18
        go_wp2_with fail
        go_ret
        exact ⟨ret_ndec (by unfold ordP; omega), HB.out⟩
  by_cases k2 : kd = 2
  case pos =>
    subst k2
    by_cases c0 : 0 < cl
    case pos =>
      by_cases c1 : cl ≤ d - 1
      case pos =>
        by_cases a0 : (an : Int) = 0
        case pos =>
          have qa0 : ((an : Int) == 0) = true := by simpa using a0
          go_enter Try.func18, Try.ntmps18
          go_wp2_with fail
          go_ret
          exact ⟨ret_dec (by unfold ordP; omega), HB.out⟩
        case neg =>
          have qa0 : ((an : Int) == 0) = false := by simpa using a0
          go_enter Try.func18, Try.ntmps18
          go_wp2_with fail
          go_ret
          exact ⟨ret_ndec (by unfold ordP; omega), HB.out⟩
      case neg =>
        go_enter Try.func18, Try.ntmps18
        go_wp2_with fail
        go_ret
        exact ⟨ret_ndec (by unfold ordP; omega), HB.out⟩
    case neg =>
      by_cases c2 : cl = 0
      case pos =>
        subst c2
        have c1 : (0 : Int) ≤ d - 1 := by omega
        by_cases a0 : (an : Int) = 0
        case pos =>
          have qa0 : ((an : Int) == 0) = true := by simpa using a0
          go_enter Try.func18, Try.ntmps18
          go_wp2_with fail
          go_ret
          exact ⟨ret_dec (by unfold ordP; omega), HB.out⟩
        case neg =>
          have qa0 : ((an : Int) == 0) = false := by simpa using a0
          go_enter Try.func18, Try.ntmps18
          go_wp2_with fail
          go_ret
          exact ⟨ret_ndec (by unfold ordP; omega), HB.out⟩
      case neg =>
        have qc2 : (cl == 0) = false := by simpa using c2
        go_enter Try.func18, Try.ntmps18
        go_wp2_with fail
        go_ret
        exact ⟨ret_ndec (by unfold ordP; omega), HB.out⟩
  by_cases k3 : kd = 3
  case pos =>
    subst k3
    by_cases c0 : cl = 0
    case pos =>
      subst c0
      by_cases d1 : 1 < d
      case pos =>
        by_cases a0 : (an : Int) = d - 1
        case pos =>
          have qa0 : ((an : Int) == d - 1) = true := by simpa using a0
          go_enter Try.func18, Try.ntmps18
          go_wp2_with fail
          go_ret
          exact ⟨ret_dec (by unfold ordP; omega), HB.out⟩
        case neg =>
          have qa0 : ((an : Int) == d - 1) = false := by simpa using a0
          go_enter Try.func18, Try.ntmps18
          go_wp2_with fail
          go_ret
          exact ⟨ret_ndec (by unfold ordP; omega), HB.out⟩
      case neg =>
        go_enter Try.func18, Try.ntmps18
        go_wp2_with fail
        go_ret
        exact ⟨ret_ndec (by unfold ordP; omega), HB.out⟩
    case neg =>
      have qc0 : (cl == 0) = false := by simpa using c0
      go_enter Try.func18, Try.ntmps18
      go_wp2_with fail
      go_ret
      exact ⟨ret_ndec (by unfold ordP; omega), HB.out⟩
  have qk0 : (kd == 0) = false := by simpa using k0
  have qk1 : (kd == 1) = false := by simpa using k1
  have qk2 : (kd == 2) = false := by simpa using k2
  have qk3 : (kd == 3) = false := by simpa using k3
  go_enter Try.func18, Try.ntmps18
  go_wp2_with fail
  go_ret
  exact ⟨ret_ndec (by unfold ordP; omega), HB.out⟩
end Go.Proofs.Ytddeomdmccnfbaa

/- dist.Gap. -/
namespace Go.Proofs.Ytddeomdmccnfbaa
open Go.RowKit

set_option maxRecDepth 100000 in
theorem gap_any (a b c : Int) (ha : -9223372036854775808 ≤ a ∧ a ≤ 9223372036854775807) (hb : -9223372036854775808 ≤ b ∧ b ≤ 9223372036854775807) (hc : -9223372036854775808 ≤ c ∧ c ≤ 9223372036854775807) (w : World) :
    Calls Try.prog 63 #[.int .i64 a, .int .i64 b, .int .i64 c] w fun e w' => e = .returned (.int .u64 (gap a b c)) ∧ w' = w := by
  by_cases h : a < b
  · go_enter Try.func63, Try.ntmps63
    go_wp2_with (go_at_call 52; refine (apart_any _ _ ha hb _).mono ?_; rintro e w' ⟨rfl, rfl⟩)
    go_ret
    refine ⟨ret_eq ?_, rfl⟩
    unfold gap
    rw [if_pos h]
  · by_cases h2 : c < a
    · go_enter Try.func63, Try.ntmps63
      go_wp2_with (go_at_call 52; refine (apart_any _ _ ha hc _).mono ?_; rintro e w' ⟨rfl, rfl⟩)
      go_ret
      refine ⟨ret_eq ?_, rfl⟩
      unfold gap
      rw [if_neg (by omega), if_pos h2]
    · go_enter Try.func63, Try.ntmps63
      go_wp2_with fail
      go_ret
      refine ⟨ret_eq ?_, rfl⟩
      unfold gap
      rw [if_neg (by omega), if_neg (by omega)]
end Go.Proofs.Ytddeomdmccnfbaa

/- dist.ToBox's function of a side. -/
namespace Go.Proofs.Ytddeomdmccnfbaa
open Go.RowKit

/-- A box's corners: two slices. -/
def BoxAt (w : World) (B : Nat) (p : Option Addr) (n c : Nat) (q : Option Addr) (m d : Nat) : Prop := w.cell? ⟨B, 0, none⟩ = some (.slice p n c) ∧ w.cell? ⟨B, 1, none⟩ = some (.slice q m d)
set_option maxRecDepth 100000 in
theorem toboxside (B C : Nat) (p q r : Option Addr) (n c m d l e : Nat) (R S T : List Int) (k : Nat) (hk : k < n) (hm : k < m) (hl : k < l) (w : World) (hB : w.cell? ⟨B, 0, none⟩ = some (.slice p n c)) (hC : BoxAt w C q m d r l e)
    (h : Ints w p n c R) (h2 : Ints w q m d S) (h3 : Ints w r l e T) :
    Calls Try.prog 62 #[.int .i64 k, .pointer (some ⟨B, 0, none⟩), .pointer (some ⟨C, 0, none⟩)] w fun e w' => e = .returned (.int .u64 (gap (R.getD k 0) (S.getD k 0) (T.getD k 0))) ∧ ∃ j, w' = w.drewN j := by
  obtain ⟨hC0, hC1⟩ := hC
  obtain ⟨g, o, rfl, hc⟩ := h.cell k hk
  obtain ⟨g2, o2, rfl, hc2⟩ := h2.cell k hm
  obtain ⟨g3, o3, rfl, hc3⟩ := h3.cell k hl
  have hx := h.get k hk
  have hy := h2.get k hm
  have hz := h3.get k hl
  clear h h2 h3
  generalize R.getD k 0 = x at *
  generalize S.getD k 0 = y at *
  generalize T.getD k 0 = z at *
  have b1 : (0 : Int) ≤ k ∧ (k : Int) < n := by omega
  have b2 : (0 : Int) ≤ k ∧ (k : Int) < m := by omega
  have b3 : (0 : Int) ≤ k ∧ (k : Int) < l := by omega
  go_enter Try.func62, Try.ntmps62
  go_wp2_with fail
  go_quiet ((go_at_call 63; exact Calls.quiet_of_same (gap_any _ _ _ hx hy hz _)))
  go_wp2_with fail
  go_ret
  exact ⟨rfl, _, rfl⟩
end Go.Proofs.Ytddeomdmccnfbaa

/- box.dimensions; box.each over whatever function of the sides. -/
namespace Go.Proofs.Ytddeomdmccnfbaa
open Go.RowKit

set_option maxRecDepth 100000 in
theorem dimensions_any (d : Int) (w : World) :
    Calls Try.prog 30 #[.int .i64 d] w fun e w' => e = .returned (.bool (decide (1 ≤ d ∧ d ≤ 8))) ∧ w = w' := by
  by_cases h1 : 1 ≤ d
  · by_cases h2 : d ≤ 8
    · go_enter Try.func30, Try.ntmps30
      go_wp2_with fail
      go_ret
      exact ⟨ret_dec ⟨h1, h2⟩, rfl⟩
    · go_enter Try.func30, Try.ntmps30
      go_wp2_with fail
      go_ret
      exact ⟨ret_ndec (by omega), rfl⟩
  · go_enter Try.func30, Try.ntmps30
    go_wp2_with fail
    go_ret
    exact ⟨congrArg (fun b => Ending.returned (.bool b)) (by rw [decide_eq_false (show ¬ 1 ≤ d by omega)]; rfl), rfl⟩
/-- Whether all of the first so many hold. -/
def alls (f : Nat → Bool) : Nat → Bool
  | 0 => true
  | k + 1 => alls f k && f k
theorem alls_iff (f : Nat → Bool) : ∀ n, alls f n = true ↔ ∀ k, k < n → f k = true
  | 0 => ⟨fun _ k hk => by omega, fun _ => rfl⟩
  | n + 1 => by
    show (alls f n && f n) = true ↔ _
    rw [Bool.and_eq_true, alls_iff f n]
    constructor
    · rintro ⟨h1, h2⟩ k hk
      by_cases hkn : k = n
      · rw [hkn]; exact h2
      · exact h1 k (by omega)
    · intro h
      exact ⟨fun k hk => h k (by omega), h n (by omega)⟩
theorem alls_false {f : Nat → Bool} {k n : Nat} (hk : k < n) (h : f k = false) : alls f n = false := by
  cases e : alls f n with
  | false => rfl
  | true => rw [(alls_iff f n).1 e k hk] at h; cases h
theorem alls_les (R S : List Int) : ∀ n, alls (fun k => decide (R.getD k 0 ≤ S.getD k 0)) n = les R S n
  | 0 => rfl
  | n + 1 => by
    show (alls _ n && _) = (les R S n && _)
    rw [alls_les R S n]
theorem alls_and (f g : Nat → Bool) : ∀ n, alls (fun k => f k && g k) n = (alls f n && alls g n)
  | 0 => rfl
  | n + 1 => by
    show (alls _ n && (f n && g n)) = ((alls f n && f n) && (alls g n && g n))
    rw [alls_and f g n]
    cases alls f n <;> cases alls g n <;> cases f n <;> cases g n <;> rfl
/-- What the function of a side tells, and that it turns nothing. -/
def Asks (w : World) (n : Nat) (f : Nat → Bool) (F : Nat) (cap : Array Value) : Prop :=
  ∀ (k : Nat) (w' : World), k < n → Below w.heap.size w w' → Calls Try.prog F (#[.int .i64 k] ++ cap) w' fun e w'' => e = .returned (.bool (f k)) ∧ ∃ j, w'' = w'.drewN j
def EachRel (w : World) (f : Nat → Bool) (n : Nat) (i : Value) (wr : World) : Prop := ∃ k j : Nat, k ≤ n ∧ i = .int .i64 k ∧ alls f k = true ∧ wr = w.drewN j
set_option maxRecDepth 100000 in
set_option maxHeartbeats 1000000 in
theorem each_any (n : Nat) (hn : n < 9223372036854775807) (f : Nat → Bool) (F : Nat) (cap : Array Value) (hF : ∀ args w, (callFunc F args).run Try.prog w = .ok (.enter F args) w) (w : World) (hs : Asks w n f F cap) :
    Calls Try.prog 34 #[.int .i64 n, .func (.func F) #[] cap] w fun e w' => e = .returned (.bool (alls f n)) ∧ ∃ j, w' = w.drewN j := by
  have HS := Lib.hid hs
  clear hs
  go_enter Try.func34, Try.ntmps34
  go_wp2_with fail
  go_loopw [7] (fun i wr => EachRel w f n i wr) (fun i _ => n - (intOf i).toNat)
  case atStart => exact ⟨0, 0, by omega, rfl, rfl, rfl⟩
  case round =>
    obtain ⟨k, j, hk, rfl, hal, rfl⟩ := hrel
    have HA := Lib.hid hal
    clear hal
    by_cases hlt : k < n
    · have hc := HS.out k (w.drewN j) hlt (Below.drewN (Below.refl _ _) j)
      cases hfk : f k with
      | false =>
        rw [hfk] at hc
        have HC := Lib.hid hc
        have HX := Lib.hid (alls_false hlt hfk)
        clear hc hfk
        go_wp2_with (refine HC.out.mono ?_; rintro e w'' ⟨rfl, j2, rfl⟩)
        go_ret
        exact ⟨congrArg (fun b => Ending.returned (.bool b)) HX.out.symm, j + j2, rfl⟩
      | true =>
        rw [hfk] at hc
        have HC := Lib.hid hc
        have HX := Lib.hid (show alls f (k + 1) = true by show (alls f k && f k) = true; rw [HA.out, hfk]; rfl)
        clear hc hfk
        go_wp2_with (refine HC.out.mono ?_; rintro e w'' ⟨rfl, j2, rfl⟩)
        go_roundw
        case rel => exact ⟨k + 1, j + j2, by omega, by go_num, HX.out, rfl⟩
        case measure => simp [intOf]; omega
    · obtain rfl : k = n := by omega
      go_wp2_with fail
      go_ret
      exact ⟨congrArg (fun b => Ending.returned (.bool b)) HA.out.symm, j, rfl⟩
set_option maxRecDepth 100000 in
set_option maxHeartbeats 1000000 in
theorem rightside (B : Nat) (p q : Option Addr) (n c m e : Nat) (R S : List Int) (k : Nat) (hk : k < n) (hm : k < m) (w : World) (hB : BoxAt w B p n c q m e) (h : Ints w p n c R) (h2 : Ints w q m e S) :
    Calls Try.prog 51 #[.int .i64 k, .pointer (some ⟨B, 0, none⟩)] w fun e w' => e = .returned (.bool (decide (R.getD k 0 ≤ S.getD k 0))) ∧ ∃ j, w' = w.drewN j := by
  obtain ⟨hB0, hB1⟩ := hB
  obtain ⟨g, o, rfl, hc⟩ := h.cell k hk
  obtain ⟨g2, o2, rfl, hc2⟩ := h2.cell k hm
  clear h h2
  generalize R.getD k 0 = x at *
  generalize S.getD k 0 = y at *
  have b1 : (0 : Int) ≤ k ∧ (k : Int) < n := by omega
  have b2 : (0 : Int) ≤ k ∧ (k : Int) < m := by omega
  go_enter Try.func51, Try.ntmps51
  go_wp2_with fail
  go_quiet (fail)
  go_wp2_with fail
  go_ret
  exact ⟨rfl, _, rfl⟩
set_option maxRecDepth 100000 in
set_option maxHeartbeats 1000000 in
theorem right_any (p q : Option Addr) (n c m e : Nat) (R S : List Int) (d : Int) (w : World) (h : Ints w p n c R) (h2 : Ints w q m e S) :
    Calls Try.prog 37 #[.agg #[.slice p n c, .slice q m e], .int .i64 d] w fun e w' => e = .returned (.bool (rightB R S n m d)) ∧ Below w.heap.size w w' := by
  have hb : Below w.heap.size w (w.alloc (.cells #[.slice p n c, .slice q m e] 25)) := (Below.refl _ _).alloc (Nat.le_refl _) _
  obtain ⟨e0, e1⟩ := pair_alloc w (.slice p n c) (.slice q m e) 25
  have H1 := Lib.hid (h.later hb)
  have H2 := Lib.hid (h2.later hb)
  have HB := Lib.hid hb
  clear h h2 hb
  have hD := dimensions_any d
  by_cases hd : 1 ≤ d ∧ d ≤ 8
  case neg =>
    rw [decide_eq_false hd] at hD
    have HD := Lib.hid hD
    rw [rightB_not (by omega)]
    clear hD hd
    go_enter Try.func37, Try.ntmps37
    go_wp2_with ((go_at_call 30; refine (HD.out _).mono ?_; rintro _ w' ⟨rfl, rfl⟩))
    go_ret
    exact ⟨rfl, HB.out⟩
  rw [decide_eq_true hd] at hD
  have HD := Lib.hid hD
  clear hD
  by_cases hn : (n : Int) = d
  case neg =>
    rw [rightB_not (fun h => hn h.2.2.1)]
    have q1 : ((n : Int) == d) = false := by simpa using hn
    clear hd hn
    go_enter Try.func37, Try.ntmps37
    go_wp2_with ((go_at_call 30; refine (HD.out _).mono ?_; rintro _ w' ⟨rfl, rfl⟩))
    go_ret
    exact ⟨rfl, HB.out⟩
  subst hn
  by_cases hm : (m : Int) = n
  case neg =>
    rw [rightB_not (fun h => hm h.2.2.2)]
    have q1 : ((m : Int) == n) = false := by simpa using hm
    clear hd hm
    go_enter Try.func37, Try.ntmps37
    go_wp2_with ((go_at_call 30; refine (HD.out _).mono ?_; rintro _ w' ⟨rfl, rfl⟩))
    go_ret
    exact ⟨rfl, HB.out⟩
  obtain rfl : m = n := by omega
  rw [rightB_les (by omega)]
  have hn8 : m < 9223372036854775807 := by omega
  clear hm hd
  go_enter Try.func37, Try.ntmps37
  go_upto_region 1 with fail
  have hs0 : w.heap.size < (w.alloc (.cells #[.slice p m c, .slice q m e] 25)).heap.size := by simp
  generalize w.alloc (.cells #[.slice p m c, .slice q m e] 25) = w0 at *
  have HE := Lib.hid (each_any m hn8 (fun k => decide (R.getD k 0 ≤ S.getD k 0)) 51 #[.pointer (some ⟨w.heap.size, 0, none⟩)] (enter_side Try.func51 (by kernel_rfl) rfl) w0 (fun k w' hk hb => rightside w.heap.size p q m c m e R S k hk hk w' ⟨(hb.cell (p := ⟨w.heap.size, 0, none⟩) hs0).trans e0, (hb.cell (p := ⟨w.heap.size, 1, none⟩) hs0).trans e1⟩ (H1.out.later hb) (H2.out.later hb)))
  rw [alls_les] at HE
  go_wp2_with (first | (go_at_call 30; refine (HD.out _).mono ?_; rintro _ w' ⟨rfl, rfl⟩) | (go_at_call 34; refine HE.out.mono ?_; rintro _ w' ⟨rfl, j, rfl⟩))
  go_ret
  exact ⟨rfl, Below.drewN HB.out _⟩
end Go.Proofs.Ytddeomdmccnfbaa

/- box.OrderRight; cmp.Compare of two numbers. -/
namespace Go.Proofs.Ytddeomdmccnfbaa
open Go.RowKit

theorem ret_decB {p : Prop} [Decidable p] {b : Bool} (h : b = true ↔ p) : Ending.returned (.bool b) = Ending.returned (.bool (decide p)) := by
  congr 2
  rw [Bool.eq_iff_iff, h, decide_eq_true_eq]
set_option maxRecDepth 100000 in
set_option maxHeartbeats 4000000 in
theorem ordright_any (kd cl d : Int) (p : Option Addr) (an c : Nat) (w : World) :
    Calls Try.prog 17 #[.agg #[.int .u8 kd, .int .i64 cl, .slice p an c], .int .i64 d] w fun e w' => e = .returned (.bool (decide (ordP kd cl an d))) ∧ Below w.heap.size w w' := by
  have hb : Below w.heap.size w (w.alloc (.cells #[.int .u8 kd, .int .i64 cl, .slice p an c] 34)) := (Below.refl _ _).alloc (Nat.le_refl _) _
  obtain ⟨e0, e1, e2⟩ := three_alloc w (.int .u8 kd) (.int .i64 cl) (.slice p an c) 34
  have HB := Lib.hid hb
  clear hb
  have hD := dimensions_any d
  by_cases hd : 1 ≤ d ∧ d ≤ 8
  case neg =>
    rw [decide_eq_false hd] at hD
    have HD := Lib.hid hD
    have HN := Lib.hid (show ¬ ordP kd cl an d from fun h => hd h.1)
    clear hD hd
    go_enter Try.func17, Try.ntmps17
    go_wp2_with ((go_at_call 30; refine (HD.out _).mono ?_; rintro _ w' ⟨rfl, rfl⟩))
    go_ret
    exact ⟨ret_ndec HN.out, HB.out⟩
  rw [decide_eq_true hd] at hD
  have HD := Lib.hid hD
  clear hD
  obtain ⟨hd1, hd2⟩ := hd
  by_cases k0 : kd = 0
  case pos =>
    subst k0
    by_cases c0 : cl = 0
    case pos =>
      subst c0
      by_cases a0 : (an : Int) = 0
      case pos =>
        have qa0 : ((an : Int) == 0) = true := by simpa using a0
        go_enter Try.func17, Try.ntmps17
        go_wp2_with ((go_at_call 30; refine (HD.out _).mono ?_; rintro _ w' ⟨rfl, rfl⟩))
        go_ret
        exact ⟨ret_dec (by unfold ordP; omega), HB.out⟩
      case neg =>
        have qa0 : ((an : Int) == 0) = false := by simpa using a0
        go_enter Try.func17, Try.ntmps17
        go_wp2_with ((go_at_call 30; refine (HD.out _).mono ?_; rintro _ w' ⟨rfl, rfl⟩))
        go_ret
        first | exact ⟨ret_ndec (by unfold ordP; omega), HB.out⟩ | exact ⟨ret_decB (by rw [decide_eq_true_eq]; unfold ordP; omega), HB.out⟩
    case neg =>
      have qc0 : (cl == 0) = false := by simpa using c0
      go_enter Try.func17, Try.ntmps17
      go_wp2_with ((go_at_call 30; refine (HD.out _).mono ?_; rintro _ w' ⟨rfl, rfl⟩))
      go_ret
      first | exact ⟨ret_ndec (by unfold ordP; omega), HB.out⟩ | exact ⟨ret_decB (by rw [decide_eq_true_eq]; unfold ordP; omega), HB.out⟩
  by_cases k1 : kd = 1
  case pos =>
    subst k1
    by_cases c0 : 1 ≤ cl
    case pos =>
      by_cases c1 : cl < d
      case pos =>
        by_cases a0 : (an : Int) = 0
        case pos =>
          have qa0 : ((an : Int) == 0) = true := by simpa using a0
          go_enter Try.func17, Try.ntmps17
          go_wp2_with ((go_at_call 30; refine (HD.out _).mono ?_; rintro _ w' ⟨rfl, rfl⟩))
          go_ret
          exact ⟨ret_dec (by unfold ordP; omega), HB.out⟩
        case neg =>
          have qa0 : ((an : Int) == 0) = false := by simpa using a0
          go_enter Try.func17, Try.ntmps17
          go_wp2_with ((go_at_call 30; refine (HD.out _).mono ?_; rintro _ w' ⟨rfl, rfl⟩))
          go_ret
          first | exact ⟨ret_ndec (by unfold ordP; omega), HB.out⟩ | exact ⟨ret_decB (by rw [decide_eq_true_eq]; unfold ordP; omega), HB.out⟩
      case neg =>
        go_enter Try.func17, Try.ntmps17
        go_wp2_with ((go_at_call 30; refine (HD.out _).mono ?_; rintro _ w' ⟨rfl, rfl⟩))
        go_ret
        first | exact ⟨ret_ndec (by unfold ordP; omega), HB.out⟩ | exact ⟨ret_decB (by rw [decide_eq_true_eq]; unfold ordP; omega), HB.out⟩
    case neg =>
      go_enter Try.func17, Try.ntmps17
      go_wp2_with ((go_at_call 30; refine (HD.out _).mono ?_; rintro _ w' ⟨rfl, rfl⟩))
      go_ret
      first | exact ⟨ret_ndec (by unfold ordP; omega), HB.out⟩ | exact ⟨ret_decB (by rw [decide_eq_true_eq]; unfold ordP; omega), HB.out⟩
  by_cases k2 : kd = 2
  case pos =>
    subst k2
    by_cases c0 : 0 ≤ cl
    case pos =>
      by_cases c1 : cl < d
      case pos =>
        by_cases a0 : (an : Int) = 0
        case pos =>
          have qa0 : ((an : Int) == 0) = true := by simpa using a0
          go_enter Try.func17, Try.ntmps17
          go_wp2_with ((go_at_call 30; refine (HD.out _).mono ?_; rintro _ w' ⟨rfl, rfl⟩))
          go_ret
          exact ⟨ret_dec (by unfold ordP; omega), HB.out⟩
        case neg =>
          have qa0 : ((an : Int) == 0) = false := by simpa using a0
          go_enter Try.func17, Try.ntmps17
          go_wp2_with ((go_at_call 30; refine (HD.out _).mono ?_; rintro _ w' ⟨rfl, rfl⟩))
          go_ret
          first | exact ⟨ret_ndec (by unfold ordP; omega), HB.out⟩ | exact ⟨ret_decB (by rw [decide_eq_true_eq]; unfold ordP; omega), HB.out⟩
      case neg =>
        go_enter Try.func17, Try.ntmps17
        go_wp2_with ((go_at_call 30; refine (HD.out _).mono ?_; rintro _ w' ⟨rfl, rfl⟩))
        go_ret
        first | exact ⟨ret_ndec (by unfold ordP; omega), HB.out⟩ | exact ⟨ret_decB (by rw [decide_eq_true_eq]; unfold ordP; omega), HB.out⟩
    case neg =>
      go_enter Try.func17, Try.ntmps17
      go_wp2_with ((go_at_call 30; refine (HD.out _).mono ?_; rintro _ w' ⟨rfl, rfl⟩))
      go_ret
      first | exact ⟨ret_ndec (by unfold ordP; omega), HB.out⟩ | exact ⟨ret_decB (by rw [decide_eq_true_eq]; unfold ordP; omega), HB.out⟩
  by_cases k3 : kd = 3
  case pos =>
    subst k3
    by_cases c0 : cl = 0
    case pos =>
      subst c0
      by_cases a0 : (an : Int) = d - 1
      case pos =>
        have qa0 : ((an : Int) == d - 1) = true := by simpa using a0
        by_cases d1 : 2 ≤ d
        case pos =>
          go_enter Try.func17, Try.ntmps17
          go_wp2_with ((go_at_call 30; refine (HD.out _).mono ?_; rintro _ w' ⟨rfl, rfl⟩))
          go_ret
          exact ⟨ret_dec (by unfold ordP; omega), HB.out⟩
        case neg =>
          go_enter Try.func17, Try.ntmps17
          go_wp2_with ((go_at_call 30; refine (HD.out _).mono ?_; rintro _ w' ⟨rfl, rfl⟩))
          go_ret
          first | exact ⟨ret_ndec (by unfold ordP; omega), HB.out⟩ | exact ⟨ret_decB (by rw [decide_eq_true_eq]; unfold ordP; omega), HB.out⟩
      case neg =>
        have qa0 : ((an : Int) == d - 1) = false := by simpa using a0
        go_enter Try.func17, Try.ntmps17
        go_wp2_with ((go_at_call 30; refine (HD.out _).mono ?_; rintro _ w' ⟨rfl, rfl⟩))
        go_ret
        first | exact ⟨ret_ndec (by unfold ordP; omega), HB.out⟩ | exact ⟨ret_decB (by rw [decide_eq_true_eq]; unfold ordP; omega), HB.out⟩
    case neg =>
      have qc0 : (cl == 0) = false := by simpa using c0
      go_enter Try.func17, Try.ntmps17
      go_wp2_with ((go_at_call 30; refine (HD.out _).mono ?_; rintro _ w' ⟨rfl, rfl⟩))
      go_ret
      first | exact ⟨ret_ndec (by unfold ordP; omega), HB.out⟩ | exact ⟨ret_decB (by rw [decide_eq_true_eq]; unfold ordP; omega), HB.out⟩
  have qk0 : (kd == 0) = false := by simpa using k0
  have qk1 : (kd == 1) = false := by simpa using k1
  have qk2 : (kd == 2) = false := by simpa using k2
  have qk3 : (kd == 3) = false := by simpa using k3
  go_enter Try.func17, Try.ntmps17
  go_wp2_with ((go_at_call 30; refine (HD.out _).mono ?_; rintro _ w' ⟨rfl, rfl⟩))
  go_ret
  first | exact ⟨ret_ndec (by unfold ordP; omega), HB.out⟩ | exact ⟨ret_decB (by rw [decide_eq_true_eq]; unfold ordP; omega), HB.out⟩
/-- Which of two numbers is less. -/
def icmp (x y : Int) : Int := if x < y then -1 else if y < x then 1 else 0
set_option maxRecDepth 100000 in
theorem compare64_any (x y : Int) (w : World) :
    Calls Try.prog 57 #[.int .i64 x, .int .i64 y] w fun e w' => e = .returned (.int .i64 (icmp x y)) ∧ w = w' := by
  have hN : ∀ z w, Calls Try.prog 64 #[.int .i64 z] w fun e w' => e = .returned (.bool false) ∧ w = w' := fun z w => by
    have q : (z != z) = false := by simp
    go_enter Try.func64, Try.ntmps64
    go_wp2_with fail
    go_ret
    exact ⟨rfl, rfl⟩
  have HN := Lib.hid hN
  clear hN
  by_cases h1 : x < y
  · have HE := Lib.hid (show icmp x y = -1 by unfold icmp; rw [if_pos h1])
    go_enter Try.func57, Try.ntmps57
    go_wp2_with ((go_at_call 64; refine (HN.out _ _).mono ?_; rintro _ w' ⟨rfl, rfl⟩))
    go_ret
    exact ⟨by rw [HE.out]; rfl, rfl⟩
  · by_cases h2 : y < x
    · have HE := Lib.hid (show icmp x y = 1 by unfold icmp; rw [if_neg h1, if_pos h2])
      go_enter Try.func57, Try.ntmps57
      go_wp2_with ((go_at_call 64; refine (HN.out _ _).mono ?_; rintro _ w' ⟨rfl, rfl⟩))
      go_ret
      exact ⟨by rw [HE.out]; rfl, rfl⟩
    · have HE := Lib.hid (show icmp x y = 0 by unfold icmp; rw [if_neg h1, if_neg h2])
      go_enter Try.func57, Try.ntmps57
      go_wp2_with ((go_at_call 64; refine (HN.out _ _).mono ?_; rintro _ w' ⟨rfl, rfl⟩))
      go_ret
      exact ⟨by rw [HE.out]; rfl, rfl⟩
end Go.Proofs.Ytddeomdmccnfbaa

/- indentureref04.Key. -/
namespace Go.Proofs.Ytddeomdmccnfbaa
open Go.RowKit

/-- The key of a row in an order, as one number. -/
def keyI (kd cl : Int) (A P : List Int) (an n : Nat) : Int :=
  if ordP kd cl an n then (if kd = 3 then btw (P.drop 1) A (n - 1) an else if kd = 2 then 9223372036854775807 - P.getD cl.toNat 0 else P.getD cl.toNat 0 + 9223372036854775808) else 0
theorem Ints.tail {w : World} {p : Option Addr} {n c : Nat} {R : List Int} (h : Ints w p n c R) (hn : 1 ≤ n) : ∃ g o, p = some ⟨g, o, none⟩ ∧ Ints w (some ⟨g, o + 1, none⟩) (n - 1) (c - 1) (R.drop 1) := by
  have hs := h.size
  have hl := h.le
  obtain ⟨g, o, hp, hx⟩ := h.cell 0 (by omega)
  refine ⟨g, o, hp, by rw [List.length_drop, hs], by omega, fun x hx => h.ok x (List.mem_of_mem_drop hx), ?_⟩
  rcases h.at' with h0 | ⟨g', o', hp', hc⟩
  · rw [h0] at hs; simp at hs; omega
  · rw [hp] at hp'
    simp only [Option.some.injEq, Addr.mk.injEq] at hp'
    obtain ⟨rfl, rfl, _⟩ := hp'
    refine Or.inr ⟨g, o + 1, rfl, fun i hi => ?_⟩
    rw [List.length_drop] at hi
    have := hc (i + 1) (by omega)
    rw [show o + 1 + i = o + (i + 1) from by omega, this]
    simp [List.getD_eq_getElem?_getD, Nat.add_comm]
theorem dV_small (x : Int) (h : 0 ≤ x ∧ x < 18446744073709551616) : dV x = .agg #[.int .u64 0, .int .u64 x] := by
  unfold dV
  rw [show x / 18446744073709551616 = 0 from by omega, show x % 18446744073709551616 = x from by omega]
  rfl
set_option maxRecDepth 100000 in
set_option maxHeartbeats 4000000 in
theorem refkey_any (kd cl : Int) (q p : Option Addr) (an ac n c : Nat) (A P : List Int) (w : World) (hA : Ints w q an ac A) (hP : Ints w p n c P) :
    Calls Try.prog 16 #[.agg #[.int .u8 kd, .int .i64 cl, .slice q an ac], .slice p n c] w fun e w' => e = .returned (.tuple #[dV (keyI kd cl A P an n), .bool (decide (ordP kd cl an n))]) ∧ Below w.heap.size w w' := by
  have hb : Below w.heap.size w (w.alloc (.cells #[.int .u8 kd, .int .i64 cl, .slice q an ac] 34)) := (Below.refl _ _).alloc (Nat.le_refl _) _
  have hs : (w.alloc (.cells #[.int .u8 kd, .int .i64 cl, .slice q an ac] 34)).heap.size = w.heap.size + 1 := by simp
  obtain ⟨e0, e1, e2⟩ := three_alloc w (.int .u8 kd) (.int .i64 cl) (.slice q an ac) 34
  have hA1 := hA.later hb
  have hP1 := hP.later hb
  clear hA hP
  obtain ⟨hi, lo, hd⟩ := dV_two (keyI kd cl A P an n)
  rw [hd]
  have HD := Lib.hid hd
  clear hd
  go_enter Try.func16, Try.ntmps16
  go_upto_region 1 with fail
  generalize w.alloc (.cells #[.int .u8 kd, .int .i64 cl, .slice q an ac] 34) = w1 at *
  have t2 := zero_two w1
  have hb2 : Below w1.heap.size w1 (w1.alloc (.cells #[.int .u64 0, .int .u64 0] 37)) := (Below.refl _ _).alloc (Nat.le_refl _) _
  generalize w1.alloc (.cells #[.int .u64 0, .int .u64 0] 37) = w2 at *
  have hlt : ∀ k, (⟨w.heap.size, k, none⟩ : Addr).block < w1.heap.size := fun k => by show w.heap.size < _; omega
  have d0 := (hb2.cell (hlt 0)).trans e0
  have d1 := (hb2.cell (hlt 1)).trans e1
  have d2 := (hb2.cell (hlt 2)).trans e2
  have hA2 := hA1.later hb2
  have hP2 := hP1.later hb2
  have B2 := hb.trans (hb2.mono (by omega))
  have hs2 : w.heap.size + 1 < w2.heap.size := by have := t2.lt; omega
  rw [hs] at t2
  clear hb hb2 hlt hA1 hP1 hs e0 e1 e2
  clear w1
  have HA := Lib.hid hA2
  have HP := Lib.hid hP2
  have HB := Lib.hid B2
  have HT := Lib.hid t2
  have HS := Lib.hid hs2
  clear hA2 hP2 B2 t2 hs2
  go_wp2_with fail
  refine (refordright_any kd cl n q an ac w2).mono ?_
  rintro _ w3 ⟨rfl, hb3⟩
  have hlt : ∀ k, (⟨w.heap.size, k, none⟩ : Addr).block < w2.heap.size := fun k => by have := HS.out; show w.heap.size < _; omega
  have f0 := (hb3.cell (hlt 0)).trans d0
  have f1 := (hb3.cell (hlt 1)).trans d1
  have f2 := (hb3.cell (hlt 2)).trans d2
  have GA := Lib.hid (HA.out.later hb3)
  have GP := Lib.hid (HP.out.later hb3)
  have GT := Lib.hid (HT.out.later hb3 HS.out)
  have GB := Lib.hid (HB.out.trans (hb3.mono HB.out.size))
  have GS := Lib.hid (Nat.lt_of_lt_of_le HS.out hb3.size)
  clear hlt hb3 d0 d1 d2 HA HP HB HT HS
  obtain ⟨y0, y1, z0, z1⟩ := GT.out.facts
  by_cases ho : ordP kd cl an n
  case neg =>
    have hk : keyI kd cl A P an n = 0 := by unfold keyI; rw [if_neg ho]
    rw [hk] at HD
    obtain ⟨rfl, rfl⟩ : (0 : Int) = hi ∧ (0 : Int) = lo := by have := HD.out; simpa [dV] using this
    have HO := Lib.hid (decide_eq_false ho)
    rw [HO.out]
    clear ho hk
    go_wp2_with fail
    exact ret_two2 4 5 rfl (w.heap.size + 1) _ _ (.bool false) rfl rfl (GT.out.set _ _) ⟨congrArg (fun b => Ending.returned (.tuple #[.agg #[.int .u64 0, .int .u64 0], .bool b])) HO.out.symm, Two.below GB.out (by omega) _ _⟩
  have HO := Lib.hid (decide_eq_true ho)
  rw [HO.out]
  by_cases h3 : kd = 3
  case pos =>
    subst h3
    have hk : keyI 3 cl A P an n = btw (P.drop 1) A (n - 1) an := by unfold keyI; rw [if_pos ho, if_pos rfl]
    rw [hk] at HD
    have hdim : 1 < n ∧ n ≤ 8 ∧ okP (n - 1) an := by unfold okP; unfold ordP at ho; omega
    obtain ⟨dm1, dm2, d3⟩ := hdim
    obtain ⟨g, o, rfl, ht⟩ := GP.out.tail (by omega)
    have hc := fun w' (hb : Below w3.heap.size w3 w') => refbetween_any _ q (n - 1) (c - 1) an ac _ A w' (ht.later hb) (GA.out.later hb)
    rw [decide_eq_true d3, HD.out] at hc
    have HC := Lib.hid hc
    have hle := GP.out.le
    have n1 : (1 : Int) ≤ n := by omega
    have c1 : ¬ c = 1 := by omega
    clear hk ho d3 hc ht hle
    go_upto_region 4 with fail
    go_region_law (go_simp; go_at_call 40; refine (HC.out _ (by first | exact Below.refl _ _ | exact (Below.refl _ _).drew)).mono ?_; rintro e w4 ⟨rfl, hb4⟩; have Y1 := Lib.hid (show Two w4 (w.heap.size + 1) (.int .u64 0) (.int .u64 0) from (hb4.block _ GT.out.lt).trans GT.out); have Y3 := Lib.hid (GB.out.trans ((below_of (w := w3) hb4 rfl rfl rfl rfl).mono GB.out.size)); clear hb4; obtain ⟨y0, y1, y2, y3⟩ := Y1.out.facts)
    all_goals
      go_wp2_with fail
      exact ret_two2 4 5 rfl (w.heap.size + 1) _ _ (.bool true) rfl rfl (Y1.out.set _ _) ⟨congrArg (fun b => Ending.returned (.tuple #[.agg #[.int .u64 hi, .int .u64 lo], .bool b])) HO.out.symm, Two.below Y3.out (by omega) _ _⟩
  obtain ⟨j, rfl⟩ : ∃ j : Nat, cl = j := ⟨cl.toNat, by unfold ordP at ho; omega⟩
  have hj : j < n := by unfold ordP at ho; omega
  obtain ⟨g, o, rfl, hx⟩ := GP.out.cell j hj
  have hxb := GP.out.get j hj
  have i1 : (0 : Int) ≤ j ∧ (j : Int) < n := by omega
  by_cases h2 : kd = 2
  case pos =>
    subst h2
    have hk : keyI 2 j A P an n = 9223372036854775807 - P.getD j 0 := by unfold keyI; rw [if_pos ho, if_neg h3, if_pos rfl, Int.toNat_natCast]
    rw [hk] at HD
    generalize P.getD j 0 = x at *
    have hd := HD.out
    rw [dV_small _ (by omega)] at hd
    have e1 : (0 : Int) = hi ∧ 9223372036854775807 - x = lo := by simpa using hd
    obtain ⟨rfl, hlo⟩ := e1
    have q3 : ((2 : Int) == 3) = false := rfl
    have hw : IntKind.u64.wrap (18446744073709551615 - IntKind.u64.wrap (IntKind.u64.wrap x + 9223372036854775808)) = lo := by
      show (18446744073709551615 - (x % 18446744073709551616 + 9223372036854775808) % 18446744073709551616) % 18446744073709551616 = lo
      omega
    have HW := Lib.hid hw
    clear hk hd h3 ho hw
    go_wp2_with fail
    rw [HW.out]
    exact ret_two2 4 5 rfl (w.heap.size + 1) _ _ (.bool true) rfl rfl (GT.out.set _ _) ⟨congrArg (fun b => Ending.returned (.tuple #[.agg #[.int .u64 0, .int .u64 lo], .bool b])) HO.out.symm, Two.below GB.out (by omega) _ _⟩
  case neg =>
    have hk : keyI kd j A P an n = P.getD j 0 + 9223372036854775808 := by unfold keyI; rw [if_pos ho, if_neg h3, if_neg h2, Int.toNat_natCast]
    rw [hk] at HD
    generalize P.getD j 0 = x at *
    have hd := HD.out
    rw [dV_small _ (by omega)] at hd
    have e1 : (0 : Int) = hi ∧ x + 9223372036854775808 = lo := by simpa using hd
    obtain ⟨rfl, hlo⟩ := e1
    have q3 : (kd == 3) = false := by simpa using h3
    have q2 : (kd == 2) = false := by simpa using h2
    have hw : IntKind.u64.wrap (IntKind.u64.wrap x + 9223372036854775808) = lo := by
      show (x % 18446744073709551616 + 9223372036854775808) % 18446744073709551616 = lo
      omega
    have HW := Lib.hid hw
    clear hk hd ho hw
    go_wp2_with fail
    rw [HW.out]
    exact ret_two2 4 5 rfl (w.heap.size + 1) _ _ (.bool true) rfl rfl (GT.out.set _ _) ⟨congrArg (fun b => Ending.returned (.tuple #[.agg #[.int .u64 0, .int .u64 lo], .bool b])) HO.out.symm, Two.below GB.out (by omega) _ _⟩
end Go.Proofs.Ytddeomdmccnfbaa
