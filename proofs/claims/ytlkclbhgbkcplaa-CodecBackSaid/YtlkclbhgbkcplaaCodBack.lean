/- What the law CodecBack does. -/
import Derived.Test.YtlkclbhgbkcplaaCodBackW
import Derived.BigQuiet
namespace Go.Proofs.Ytlkclbhgbkcplaa
open Go.RowKit Go.BigFrame

/-- A writer that has refused nothing. -/
structure BW (w : World) (gw : Nat) (v : Value) (A : List Nat) (wr : World) : Prop where
  ws : WS wr w.heap.size gw v ⟨A, 0⟩
  low : Below w.heap.size w wr
  lg : w.heap.size ≤ gw
theorem owns_block' {w : World} {base n : Nat} {v : Value} {xs : List Value} (h : w.ownsRow base 5 1 v n xs) : ∀ k, v.ownBlock = some k → base ≤ k ∧ k < w.heap.size := h.lt
theorem BW.wrote {w : World} {gw : Nat} {v v' : Value} {A A' : List Nat} {wr w' : World} (h : BW w gw v A wr) (h1 : WS w' w.heap.size gw v' ⟨A', 0⟩) (h2 : WStep wr w' gw v v') : BW w gw v' A' w' :=
  ⟨h1, h.low.trans (h2.below h.lg (fun k hk => (h.ws.own.lt k hk).1) h.low.size), h.lg⟩
/-- The bytes of a part. -/
def tru (n : Int) : Nat := if n.tmod 2 = 0 then 1 else 0
def partB (t : Pt) : List Nat := [t.xb] ++ ([tru t.n] ++ (Cm.num t.v ++ ((Cm.be t.B.length 3 ++ t.B) ++ (t.D ++ rowB t.R))))
structure Small (t : Pt) : Prop where
  b : t.B.length ≤ 500
  r : t.R.length ≤ 255
theorem partB_length {t : Pt} (h : Small t) (hd : t.D.length = 32) : (partB t).length ≤ 2600 := by
  have := h.b
  have := h.r
  have e1 := Cm.num_length t.v
  have e2 := Cm.be_length t.B.length 3
  have e3 := rowB_length t.R
  simp only [partB, List.length_append, List.length_cons, List.length_nil, e1, e2, e3, hd]
  omega
def flat (L : List Pt) (k : Nat) : List Nat := (L.take k).flatMap partB
def rest (L : List Pt) (k K : Nat) : List Nat := ((L.take K).drop k).flatMap partB
theorem flat_succ (L : List Pt) (k : Nat) (hk : k < L.length) : flat L (k + 1) = flat L k ++ partB (L.getD k default) := by
  have e : L.getD k default = L[k] := by rw [List.getD_eq_getElem?_getD, List.getElem?_eq_getElem hk]; rfl
  rw [e]
  unfold flat
  rw [List.take_succ_eq_append_getElem hk, List.flatMap_append, List.flatMap_cons, List.flatMap_nil, List.append_nil]
theorem rest_zero (L : List Pt) (K : Nat) : rest L 0 K = flat L K := by unfold rest flat; rw [List.drop_zero]
theorem rest_end (L : List Pt) (K : Nat) (h : K ≤ L.length) : rest L K K = [] := by
  unfold rest
  rw [List.drop_eq_nil_of_le (by rw [List.length_take]; omega)]
  rfl
theorem rest_step (L : List Pt) (k K : Nat) (hk : k < K) (hK : K ≤ L.length) : rest L k K = partB (L.getD k default) ++ rest L (k + 1) K := by
  have hl : k < (L.take K).length := by rw [List.length_take]; omega
  have e : L.getD k default = (L.take K)[k] := by rw [List.getElem_take, List.getD_eq_getElem?_getD, List.getElem?_eq_getElem (by omega)]; rfl
  rw [e]
  unfold rest
  rw [List.drop_eq_getElem_cons hl, List.flatMap_cons]
theorem put_ok (A P : List Nat) : (St.mk A 0).put P = ⟨A ++ P, 0⟩ := rfl
theorem truth_ok (A : List Nat) (n : Int) : (St.mk A 0).truth (n.tmod 2 == 0) = ⟨A ++ [tru n], 0⟩ := by
  unfold St.truth tru
  rw [put_ok]
  by_cases h : n.tmod 2 = 0
  · rw [if_pos h, if_pos (by simpa using h)]
  · rw [if_neg h, if_neg (by simpa using h)]
theorem text_ok (A T : List Nat) (h : T.length ≤ 500) : (St.mk A 0).text T = ⟨A ++ (Cm.be T.length 3 ++ T), 0⟩ := by
  have e : (St.mk A 0).count (T.length : Int) = ⟨A ++ Cm.be T.length 3, 0⟩ := by
    unfold St.count
    rw [if_pos ⟨by omega, by omega⟩, Int.toNat_natCast, put_ok]
  unfold St.text
  rw [e, put_ok, List.append_assoc]
theorem row_ok (A : List Nat) (R : List Int) (h : R.length ≤ 255) : (St.mk A 0).row' R = ⟨A ++ rowB R, 0⟩ := by
  unfold St.row'
  rw [if_pos h, put_ok]
theorem tx_lt' {w : World} {p : Option Addr} {n c : Nat} {B : List Nat} (h : Tx w p n c B) {x : Addr} (hx : p = some x) (hn : B ≠ []) : x.block < w.heap.size := by
  subst hx
  cases B with
  | nil => exact absurd rfl hn
  | cons b B =>
    have := h.cells 0 (.int .u8 (b : Nat)) rfl
    have := block_lt_of_cell this
    simpa [Addr.add] using this
theorem ints_lt' {w : World} {p : Option Addr} {n c : Nat} {R : List Int} (h : Ints w p n c R) {x : Addr} (hx : p = some x) (hn : R ≠ []) : x.block < w.heap.size := by
  rcases h.at' with h0 | ⟨g, o, hp, hc⟩
  · exact absurd h0 hn
  · rw [hx] at hp
    cases hp
    exact block_lt_of_cell (hc 0 (List.length_pos_iff.2 hn))
theorem Tx.off {w wr : World} {gw : Nat} {v : Value} {A : List Nat} (b : BW w gw v A wr) {p : Option Addr} {n c : Nat} {B : List Nat} (h : Tx w p n c B) : ∀ x, p = some x → B ≠ [] → x.block ≠ gw ∧ v.ownBlock ≠ some x.block := fun x hx hn => by
  have hb := tx_lt' h hx hn
  exact ⟨fun e => by have := b.lg; omega, fun e => by have := (b.ws.own.lt _ e).1; omega⟩
theorem Ints.off {w wr : World} {gw : Nat} {v : Value} {A : List Nat} (b : BW w gw v A wr) {p : Option Addr} {n c : Nat} {R : List Int} (h : Ints w p n c R) : ∀ x, p = some x → R ≠ [] → x.block ≠ gw ∧ v.ownBlock ≠ some x.block := fun x hx hn => by
  have hb := ints_lt' h hx hn
  exact ⟨fun e => by have := b.lg; omega, fun e => by have := (b.ws.own.lt _ e).1; omega⟩
def WbRel (w : World) (gw len : Nat) (L : List Pt) (i : Value) (wr : World) : Prop :=
  ∃ (k : Nat) (v : Value), k ≤ len ∧ k ≤ 40 ∧ i = .int .i64 k ∧ (∀ j, j < k → Small (L.getD j default)) ∧ (flat L k).length ≤ k * 2600 ∧ BW w gw v (flat L k) wr
theorem tru_if (n : Int) : tru n = if (n.tmod 2 == 0) = true then 1 else 0 := by
  unfold tru
  by_cases h : n.tmod 2 = 0
  · rw [if_pos h, if_pos (by simpa using h)]
  · rw [if_neg h, if_neg (by simpa using h)]
theorem rest_len (L : List Pt) (j K : Nat) : (rest L j K).length ≤ (flat L K).length := by
  have e : flat L K = ((L.take K).take j).flatMap partB ++ rest L j K := by
    unfold flat rest
    rw [← List.flatMap_append, List.take_append_drop]
  rw [e, List.length_append]
  omega
theorem rd_off {w : World} {g : Nat} {s : Rd} {q : Option Addr} {n c : Nat} {B : List Nat} (hr : RSx w g s) (h : Tx w q n c B) : ∀ x, q = some x → B ≠ [] → x.block ≠ g := by
  obtain ⟨p, m, d, hr⟩ := hr
  exact tx_other hr.row h
theorem quiet_load_mid {a : Act} {C : World → Prop} {K : Act → Prop} {o : Oper} (ty : TypeId) (x : Operand) (ho : o.op = .load ty x) (b off : Nat) (hx : a.eval x = .pointer (some ⟨b, off, none⟩)) (cs : List Value) (d : TypeDesc)
    (hC : ∀ w, C w → w.rangeAt b off cs) (hu : Try.prog.underlying ty = some d) (hd : d.isRow = true) (hi : (Try.prog.info? ty).map (·.size) = some cs.length) (hK : K (a.put o.dst (.agg cs.toArray))) : o.quiet Try.prog a C K :=
  ⟨_, fun w hw => by
    unfold Oper.quietAt execOp
    simp only [ho, hx, Instr.loadAt, Instr.sureAddr, Sem.run_bind, Sem.run_pure, Result.andThen_ok, run_loadVar_mid w b off ty cs d (hC w hw) hu hd hi]
    exact ⟨rfl, rfl⟩, hK⟩
def RbRel (w : World) (gr len K : Nat) (L : List Pt) (i : Value) (wr : World) : Prop :=
  ∃ k : Nat, k ≤ K ∧ i = .int .i64 k ∧ RSx wr gr ⟨rest L k K, 0⟩ ∧ Below w.heap.size w wr
/-- A part's fields lie where the list says. -/
structure PtAt (w : World) (g o : Nat) (t : Pt) : Prop where
  x : w.cell? ⟨g, o + 1, none⟩ = some (.int .u8 t.xb)
  n : w.cell? ⟨g, o + 2, none⟩ = some (.int .i64 t.n)
  v : w.cell? ⟨g, o + 3, none⟩ = some (.int .i64 t.v)
  b : w.cell? ⟨g, o + 4, none⟩ = some (.slice t.bp t.bn t.bc)
  d : w.rangeAt g (o + 5) (vals t.D)
  r : w.cell? ⟨g, o + 37, none⟩ = some (.slice t.rp t.rn t.rc)
theorem PtAt.mk' {w : World} {g o : Nat} {t : Pt} (h : w.rangeAt g o t.cells) (hd : t.D.length = 32) : PtAt w g o t :=
  ⟨h 1 _ rfl, h 2 _ rfl, h 3 _ rfl, h 4 _ rfl, fun j u hu => by
    have hj : j < 32 := by have := (List.getElem?_eq_some_iff.1 hu).1; rw [vals_length] at this; omega
    have := h (5 + j) u (by
      rw [show 5 + j = j + 1 + 1 + 1 + 1 + 1 from by omega]
      simp only [Pt.cells, List.getElem?_cons_succ]
      rw [List.getElem?_append_left (by rw [vals_length]; omega)]
      exact hu)
    rw [← Nat.add_assoc] at this
    exact this, h 37 _ (by simp [Pt.cells, vals, hd])⟩
theorem PtAt.later {w w' : World} {g o : Nat} {t : Pt} (h : PtAt w g o t) {B : Nat} (hb : Below B w w') (hg : g < B) : PtAt w' g o t :=
  ⟨(hb.cell (p := ⟨g, o + 1, none⟩) hg).trans h.x, (hb.cell (p := ⟨g, o + 2, none⟩) hg).trans h.n, (hb.cell (p := ⟨g, o + 3, none⟩) hg).trans h.v, (hb.cell (p := ⟨g, o + 4, none⟩) hg).trans h.b,
    fun j u hu => (hb.cell (p := ⟨g, o + 5 + j, none⟩) hg).trans (h.d j u hu), (hb.cell (p := ⟨g, o + 37, none⟩) hg).trans h.r⟩
set_option maxRecDepth 100000 in
set_option maxHeartbeats 4000000 in
theorem back_any (L : List Pt) (p : Option Addr) (len cap : Nat) (w : World) (hL : Parts w p len cap L) (hl : len ≤ 9223372036854775807) :
    Calls Try.prog 4 #[.slice p len cap] w fun e w' => e = .returned (.bool true) ∧ Below w.heap.size w w' := by
  have HL := Lib.hid hL
  have HLE := Lib.hid hL.le
  clear hL
  go_enter Try.func4, Try.ntmps4
  go_wp2_with fail
  refine (alive_any w).mono ?_
  rintro _ w1 ⟨rfl, hb1⟩
  have B1 := Lib.hid hb1
  clear hb1
  have s2 := ws_new w1 w.heap.size
  have bb2 : Below w.heap.size w (w1.alloc (.cells #[.slice none 0 0, .int .i64 0] 28)) := B1.out.alloc B1.out.size _
  go_upto_region 4 with (refine wpList_build (by rfl) 28 _ (by rfl) (by as_aux_lemma => kernel_rfl) ?_)
  rw [w_built, Option.getD_some]
  obtain ⟨w2, hw2⟩ : ∃ w2, w2 = w1.alloc (.cells #[.slice none 0 0, .int .i64 0] 28) := ⟨_, rfl⟩
  rw [← hw2] at s2 bb2 ⊢
  have HST := Lib.hid (show WbRel w w1.heap.size len L (.int .i64 0) w2 from ⟨0, .slice none 0 0, by omega, by omega, rfl, fun j hj => by omega, by simp [flat], ⟨s2, bb2, B1.out.size⟩⟩)
  clear s2 bb2 hw2 B1
  generalize w1.heap.size = gw at *
  go_wp2_with fail
  go_loopw [4] (fun i wr => WbRel w gw len L i wr) (fun i _ => len - (intOf i).toNat)
  case atStart => exact HST.out
  case round =>
    obtain ⟨k, v, hk, hk40, rfl, hsm, hfl, hbw⟩ := hrel
    have HSM := Lib.hid hsm
    have HFL := Lib.hid hfl
    have HBW := Lib.hid hbw
    clear hsm hfl hbw HST
    by_cases hlt : k < len ∧ k < 40
    · obtain ⟨hlt, hlt4⟩ := hlt
      obtain ⟨g, o, hp, hx⟩ := HL.out.at' (by omega)
      obtain ⟨hr, ht⟩ := hx k hlt
      obtain ⟨t, htt⟩ : ∃ t, t = L.getD k default := ⟨_, rfl⟩
      rw [← htt] at hr ht
      subst hp
      have hpt := PtAt.mk' hr ht.dl
      have hg : g < w.heap.size := block_lt_of_cell hpt.x
      have HT := Lib.hid ht
      have HPT := Lib.hid hpt
      have HTT := Lib.hid htt
      have HG := Lib.hid hg
      have k4 : (k : Int) < 40 := by omega
      have hle := HLE.out
      have i1 : (0 : Int) ≤ k ∧ (k : Int) < len := by omega
      have P0 := Lib.hid (hpt.later HBW.out.low hg)
      clear hr ht hx htt hpt hg
      have c4 := P0.out.b
      have c37 := P0.out.r
      by_cases h5 : 500 < t.bn
      · have d5 : (500 : Int) < t.bn := by omega
        go_wp2_with fail
        go_ret
        exact ⟨rfl, HBW.out.low⟩
      have d5 : ¬ (500 : Int) < t.bn := by omega
      by_cases h2 : 255 < t.rn
      · have d2 : (255 : Int) < t.rn := by omega
        go_wp2_with fail
        go_ret
        exact ⟨rfl, HBW.out.low⟩
      have d2 : ¬ (255 : Int) < t.rn := by omega
      have HS := Lib.hid (show Small t from ⟨by rw [← HT.out.b.size]; omega, by rw [← HT.out.r.size]; omega⟩)
      obtain ⟨A, hA⟩ : ∃ A, A = flat L k := ⟨_, rfl⟩
      rw [← hA] at HBW HFL
      have HA := Lib.hid hA
      have hA1 : A.length ≤ 104000 := by have := HFL.out; omega
      clear hA
      have c1 := P0.out.x
      go_upto_region 9 with fail
      clear c4 c37
      have HLE0 := Lib.hid (show A.length ≤ 104000 + 0 * 600 from by omega)
      go_wp2_with fail
      clear c1
      refine (byte_any ⟨A, 0⟩ t.xb HT.out.xb w.heap.size gw v _ HBW.out.ws (by have := HLE0.out; simp only; omega) HBW.out.low.size).mono ?_
      rintro _ x1 hp
      obtain ⟨rfl, v1, hw1, k1⟩ := hp
      rw [put_ok] at hw1
      obtain ⟨A1, hA1⟩ : ∃ B, B = A ++ [t.xb] := ⟨_, rfl⟩
      rw [← hA1] at hw1
      have HA1 := Lib.hid hA1
      have BW1 := Lib.hid (HBW.out.wrote hw1 k1)
      have P1 := Lib.hid (HPT.out.later BW1.out.low HG.out)
      clear hA1 hw1 k1 P0 HBW
      have HLE1 := Lib.hid (show A1.length ≤ 104000 + 1 * 600 from by rw [HA1.out, List.length_append]; have := HLE0.out; simp; omega)
      have c1 := P1.out.n
      go_wp2_with fail
      clear c1
      refine (truth_any ⟨A1, 0⟩ (t.n.tmod 2 == 0) w.heap.size gw v1 _ BW1.out.ws (by have := HLE1.out; simp only; omega) BW1.out.low.size).mono ?_
      rintro _ x2 hp
      obtain ⟨rfl, v2, hw2, k2⟩ := hp
      rw [truth_ok] at hw2
      obtain ⟨A2, hA2⟩ : ∃ B, B = A1 ++ [tru t.n] := ⟨_, rfl⟩
      rw [← hA2] at hw2
      have HA2 := Lib.hid hA2
      have BW2 := Lib.hid (BW1.out.wrote hw2 k2)
      have P2 := Lib.hid (HPT.out.later BW2.out.low HG.out)
      clear hA2 hw2 k2 P1 BW1
      have HLE2 := Lib.hid (show A2.length ≤ 104000 + 2 * 600 from by rw [HA2.out, List.length_append]; have := HLE1.out; simp; omega)
      have c2 := P2.out.v
      go_wp2_with fail
      clear c2
      refine (num_any ⟨A2, 0⟩ t.v HT.out.v.1 HT.out.v.2 w.heap.size gw v2 _ BW2.out.ws (by have := HLE2.out; simp only; omega) BW2.out.low.size).mono ?_
      rintro _ x3 hp
      obtain ⟨rfl, v3, hw3, k3⟩ := hp
      rw [put_ok] at hw3
      obtain ⟨A3, hA3⟩ : ∃ B, B = A2 ++ Cm.num t.v := ⟨_, rfl⟩
      rw [← hA3] at hw3
      have HA3 := Lib.hid hA3
      have BW3 := Lib.hid (BW2.out.wrote hw3 k3)
      have P3 := Lib.hid (HPT.out.later BW3.out.low HG.out)
      clear hA3 hw3 k3 P2 BW2
      have HLE3 := Lib.hid (show A3.length ≤ 104000 + 3 * 600 from by rw [HA3.out, List.length_append]; have := HLE2.out; rw [Cm.num_length]; omega)
      have c3 := P3.out.b
      go_wp2_with fail
      clear c3
      refine (text_any ⟨A3, 0⟩ t.B t.bp t.bn t.bc w.heap.size gw v3 _ BW3.out.ws (HT.out.b.later BW3.out.low) (by have := HLE3.out; have := HS.out.b; simp only; omega) BW3.out.low.size (Tx.off BW3.out HT.out.b)).mono ?_
      rintro _ x4 hp
      obtain ⟨rfl, v4, hw4, k4⟩ := hp
      rw [text_ok _ _ HS.out.b] at hw4
      obtain ⟨A4, hA4⟩ : ∃ B, B = A3 ++ (Cm.be t.B.length 3 ++ t.B) := ⟨_, rfl⟩
      rw [← hA4] at hw4
      have HA4 := Lib.hid hA4
      have BW4 := Lib.hid (BW3.out.wrote hw4 k4)
      have P4 := Lib.hid (HPT.out.later BW4.out.low HG.out)
      clear hA4 hw4 k4 P3 BW3
      have HLE4 := Lib.hid (show A4.length ≤ 104000 + 4 * 600 from by rw [HA4.out, List.length_append]; have := HLE3.out; have := HS.out.b; rw [List.length_append, Cm.be_length]; omega)
      obtain ⟨fs, hfs⟩ : ∃ e, Try.prog.underlying 30 = some (.array 32 e) := ⟨_, A25⟩
      go_wp2_with (refine wpList_load_mid (by rfl) 30 _ (by rfl) g (o + k * 39 + 5) (by rfl) (vals t.D) _ P4.out.d A25 (by rfl) (by rw [vals_length, HT.out.dl]; exact S25) ?_)
      clear fs hfs
      rw [vals_toArray]
      refine (digestw_any ⟨A4, 0⟩ t.D HT.out.dl HT.out.db w.heap.size gw v4 _ BW4.out.ws (by have := HLE4.out; simp only; omega) BW4.out.low.size).mono ?_
      rintro _ x5 hp
      obtain ⟨rfl, v5, hw5, k5⟩ := hp
      rw [put_ok] at hw5
      obtain ⟨A5, hA5⟩ : ∃ B, B = A4 ++ t.D := ⟨_, rfl⟩
      rw [← hA5] at hw5
      have HA5 := Lib.hid hA5
      have BW5 := Lib.hid (BW4.out.wrote hw5 k5)
      have P5 := Lib.hid (HPT.out.later BW5.out.low HG.out)
      clear hA5 hw5 k5 P4 BW4
      have HLE5 := Lib.hid (show A5.length ≤ 104000 + 5 * 600 from by rw [HA5.out, List.length_append]; have := HLE4.out; have := HT.out.dl; omega)
      have c5 := P5.out.r
      go_wp2_with fail
      clear c5
      refine (roww_any ⟨A5, 0⟩ t.R t.rp t.rn t.rc w.heap.size gw v5 _ BW5.out.ws (HT.out.r.later BW5.out.low) (by have := HLE5.out; have := HS.out.r; simp only; omega) BW5.out.low.size (Ints.off BW5.out HT.out.r)).mono ?_
      rintro _ x6 hp
      obtain ⟨rfl, v6, hw6, k6⟩ := hp
      rw [row_ok _ _ HS.out.r] at hw6
      obtain ⟨A6, hA6⟩ : ∃ B, B = A5 ++ rowB t.R := ⟨_, rfl⟩
      rw [← hA6] at hw6
      have HA6 := Lib.hid hA6
      have BW6 := Lib.hid (BW5.out.wrote hw6 k6)
      have P6 := Lib.hid (HPT.out.later BW6.out.low HG.out)
      clear hA6 hw6 k6 P5 BW5
      have hflat : flat L (k + 1) = A6 := by
        rw [flat_succ L k (by rw [← HL.out.size]; exact hlt), ← HTT.out, ← HA.out, HA6.out, HA5.out, HA4.out, HA3.out, HA2.out, HA1.out]
        simp only [partB, List.append_assoc]
      have hlen : (flat L (k + 1)).length ≤ (k + 1) * 2600 := by
        rw [flat_succ L k (by rw [← HL.out.size]; exact hlt), ← HTT.out, ← HA.out, List.length_append]
        have := HFL.out
        have := partB_length HS.out HT.out.dl
        omega
      have HF := Lib.hid hflat
      have HLN := Lib.hid hlen
      clear hflat hlen
      go_wp2_with fail
      go_roundw
      case rel =>
        refine ⟨k + 1, v6, by omega, by omega, by go_num, fun j hj => ?_, HLN.out, by rw [HF.out]; exact BW6.out⟩
        by_cases q : j = k
        · rw [q, ← HTT.out]; exact HS.out
        · exact HSM.out j (by omega)
      case measure => simp [intOf]; omega
    · have HNLT := Lib.hid hlt
      clear hlt
      go_upto_region 5 with fail
      go_cut [24] from 17 to 86 (fun s wx => s = .bool false ∧ wx = wr)
      case first =>
        by_cases hlt : k < len
        · have k4 : ¬ (k : Int) < 40 := by have := HNLT.out; omega
          go_wp2_with fail
          go_meet
          exact ⟨rfl, rfl⟩
        · obtain rfl : k = len := by omega
          go_wp2_with fail
          go_meet
          exact ⟨rfl, rfl⟩
      case rest =>
        obtain ⟨rfl, rfl⟩ := hcut
        have hA1 : (flat L k).length ≤ 104000 := by have := HFL.out; omega
        have HA1 := Lib.hid hA1
        have HKL := Lib.hid (show k ≤ L.length from by rw [← HL.out.size]; exact hk)
        clear hA1
        go_wp2_with fail
        refine (wbytes_any ⟨flat L k, 0⟩ w.heap.size gw v wc HBW.out.ws (by have := HA1.out; simp only; omega)).mono ?_
        rintro _ x1 hp
        obtain ⟨q1, c1, rfl, ho1, hb1⟩ := hp
        have B1 := Lib.hid (HBW.out.low.trans (hb1.mono HBW.out.low.size))
        have hT1 := tx_of_owns ho1 HBW.out.ws.ok
        have hnew := rnew_any (flat L k) q1 (flat L k).length c1 x1 hT1 (by have := HA1.out; omega)
        have HNEW := Lib.hid hnew
        clear ho1 hb1 hT1 hnew
        go_wp2_with fail
        refine HNEW.out.mono ?_
        rintro _ x2 hp
        obtain ⟨gr, rfl, hgr, hrd, hb2⟩ := hp
        have B2 := Lib.hid (B1.out.trans (hb2.mono B1.out.size))
        have HGR := Lib.hid (Nat.le_trans B1.out.size hgr)
        rw [← rest_zero] at hrd
        have HRD := Lib.hid hrd
        clear hgr hrd hb2 B1 HBW HNEW
        go_wp2_with fail
        go_loopw [6] (fun i wr => RbRel w gr len k L i wr) (fun i _ => len - (intOf i).toNat)
        case atStart => exact ⟨0, by omega, rfl, HRD.out, B2.out⟩
        case round =>
          obtain ⟨j, hj, rfl, hrd, hlow⟩ := hrel
          have HR := Lib.hid hrd
          have HW := Lib.hid hlow
          clear hrd hlow HRD B2
          by_cases hjk : j < k
          · have hjl : j < len := by omega
            obtain ⟨g, o, hp, hx⟩ := HL.out.at' (by omega)
            obtain ⟨hr, ht⟩ := hx j hjl
            have hst := rest_step L j k hjk HKL.out
            have hsm := HSM.out j hjk
            obtain ⟨t, htt⟩ : ∃ t, t = L.getD j default := ⟨_, rfl⟩
            rw [← htt] at hr ht hst hsm
            subst hp
            have hpt := PtAt.mk' hr ht.dl
            have HG := Lib.hid (show g < w.heap.size from block_lt_of_cell hpt.x)
            have HT := Lib.hid ht
            have HS := Lib.hid hsm
            have HPT := Lib.hid hpt
            obtain ⟨S6, hS6⟩ : ∃ S, S = rest L (j + 1) k := ⟨_, rfl⟩
            obtain ⟨S5, hS5⟩ : ∃ S, S = rowB t.R ++ S6 := ⟨_, rfl⟩
            obtain ⟨S4, hS4⟩ : ∃ S, S = t.D ++ S5 := ⟨_, rfl⟩
            obtain ⟨S3, hS3⟩ : ∃ S, S = Cm.be t.B.length 3 ++ (t.B ++ S4) := ⟨_, rfl⟩
            obtain ⟨S2, hS2⟩ : ∃ S, S = Cm.num t.v ++ S3 := ⟨_, rfl⟩
            obtain ⟨S1, hS1⟩ : ∃ S, S = tru t.n :: S2 := ⟨_, rfl⟩
            have hst2 : rest L j k = t.xb :: S1 := by
              rw [hst, hS1, hS2, hS3, hS4, hS5, hS6]
              simp [partB]
            have hlen : S1.length ≤ 104000 ∧ S2.length ≤ 104000 ∧ S3.length ≤ 104000 ∧ S4.length ≤ 104000 ∧ S5.length ≤ 104000 ∧ S6.length ≤ 104000 := by
              have h0 := rest_len L j k
              rw [hst2, List.length_cons] at h0
              have h1 := HA1.out
              have e1 : S1.length = S2.length + 1 := by rw [hS1]; rfl
              have e2 : S2.length = 8 + S3.length := by rw [hS2, List.length_append, Cm.num_length]
              have e3 : S4.length ≤ S3.length := by rw [hS3, List.length_append, List.length_append]; omega
              have e4 : S5.length ≤ S4.length := by rw [hS4, List.length_append]; omega
              have e5 : S6.length ≤ S5.length := by rw [hS5, List.length_append]; omega
              omega
            have hr0 := HR.out
            rw [hst2] at hr0
            have HR0 := Lib.hid hr0
            have HLEN := Lib.hid hlen
            have HS1 := Lib.hid hS1
            have HS2 := Lib.hid hS2
            have HS3 := Lib.hid hS3
            have HS4 := Lib.hid hS4
            have HS5 := Lib.hid hS5
            have HS6 := Lib.hid hS6
            have i1 : (0 : Int) ≤ j ∧ (j : Int) < len := by omega
            have j4 : (j : Int) < 40 := by omega
            have hz := (zero_of_info Z25).1
            clear hr ht hx hst hsm htt hpt hst2 hlen hr0 hS1 hS2 hS3 hS4 hS5 hS6 HR
            go_wp2_with fail
            refine (byte_good t.xb HT.out.xb S1 gr wr HR0.out (by have := HLEN.out; simp only [List.length_cons]; omega)).mono ?_
            rintro _ x3 hp
            obtain ⟨rfl, h3, k3⟩ := hp
            have L3 := Lib.hid (HW.out.grown k3 HW.out.size (fun q hq => by simp at hq; have := HGR.out; omega))
            rw [HS1.out, tru_if] at h3
            have R3 := Lib.hid h3
            clear h3 k3 HW HR0
            obtain ⟨bt, hbt⟩ : ∃ b, (t.n.tmod 2 == 0) = b := ⟨_, rfl⟩
            rw [hbt] at R3
            have HBT := Lib.hid hbt
            clear hbt
            go_wp2_with fail
            refine (truth_good bt S2 gr x3 R3.out (by have := HLEN.out; omega)).mono ?_
            rintro _ x4 hp
            obtain ⟨rfl, h4, k4⟩ := hp
            have L4 := Lib.hid (L3.out.grown k4 L3.out.size (fun q hq => by simp at hq; have := HGR.out; omega))
            rw [HS2.out] at h4
            have R4 := Lib.hid h4
            clear h4 k4 L3 R3
            go_wp2_with fail
            refine (num_good t.v HT.out.v.1 HT.out.v.2 S3 gr x4 R4.out (by have := HLEN.out; omega)).mono ?_
            rintro _ x5 hp
            obtain ⟨rfl, h5, k5⟩ := hp
            have L5 := Lib.hid (L4.out.grown k5 L4.out.size (fun q hq => by simp at hq; have := HGR.out; omega))
            rw [HS3.out] at h5
            have R5 := Lib.hid h5
            clear h5 k5 L4 R4
            go_wp2_with fail
            refine (text_good t.B HS.out.b HT.out.b.ok S4 gr x5 R5.out (by have := HLEN.out; omega)).mono ?_
            rintro _ x6 hp
            obtain ⟨q6, c6, rfl, t6, h6, k6⟩ := hp
            have L6 := Lib.hid (L5.out.grown k6 L5.out.size (fun q hq => by simp at hq; have := HGR.out; omega))
            rw [HS4.out] at h6
            have R6 := Lib.hid h6
            have T6 := Lib.hid t6
            clear h6 k6 t6 L5 R5
            go_wp2_with fail
            refine (digest_good t.D HT.out.dl HT.out.db S5 gr x6 R6.out (by have := HLEN.out; omega)).mono ?_
            rintro _ x7 hp
            obtain ⟨rfl, h7, k7⟩ := hp
            have L7 := Lib.hid (L6.out.grown k7 L6.out.size (fun q hq => by simp at hq; have := HGR.out; omega))
            rw [HS5.out] at h7
            have R7 := Lib.hid h7
            have T7 := Lib.hid (T6.out.grown k7 (rd_off R6.out T6.out))
            clear h7 k7 L6 R6 T6
            go_wp2_with fail
            have ri : ∀ i, i < t.R.length → -9223372036854775808 ≤ t.R.getD i 0 ∧ t.R.getD i 0 ≤ 9223372036854775807 := fun i hi => HT.out.r.get i (by rw [HT.out.r.size]; exact hi)
            refine (row_good t.R HS.out.r ri S6 gr x7 R7.out (by have := HLEN.out; omega)).mono ?_
            rintro _ x8 hp
            obtain ⟨q8, c8, rfl, i8, h8, k8⟩ := hp
            have L8 := Lib.hid (L7.out.grown k8 L7.out.size (fun q hq => by simp at hq; have := HGR.out; omega))
            rw [HS6.out] at h8
            have R8 := Lib.hid h8
            have T8 := Lib.hid (T7.out.grown k8 (rd_off R7.out T7.out))
            have I8 := Lib.hid i8
            clear h8 k8 i8 ri L7 R7 T7
            go_upto_region 20 with (refine wpList_store_row (by rfl) 30 _ _ (by rfl) x8.heap.size (u8s t.D) (by rfl) (by rfl) _ _ (heap_alloc_new x8 _) (by rw [u8s_size, HT.out.dl]; exact S25) (by rw [u8s_size, u8s_size, HT.out.dl]; simp [zeros]) (u8s_one _) ?_; rw [setRow_alloc])
            have hba : Below x8.heap.size x8 (x8.alloc (.cells (u8s t.D) 30)) := (Below.refl _ _).alloc (Nat.le_refl _) _
            have hrow := heap_alloc_new x8 (.cells (u8s t.D) 30)
            have L9 := Lib.hid (L8.out.trans (hba.mono L8.out.size))
            have R9 := Lib.hid (R8.out.later hba)
            have hT9 := T8.out.later hba
            have hI9 := I8.out.later hba
            generalize x8.alloc (.cells (u8s t.D) 30) = x9 at *
            generalize x8.heap.size = gd at *
            obtain ⟨s9, hs9⟩ : ∃ s, strOf t.B = s := ⟨_, rfl⟩
            have hcv1 : ∀ n, (convert 25 9 (.slice q6 t.B.length c6)).run Try.prog (x9.drewN n) = .ok (.string s9) (x9.drewN n) := fun n => by
              rw [← hs9]
              exact convert_tx (Tx.heap hT9 (w' := x9.drewN n) rfl)
            have hB9 := HT.out.b.later L9.out
            have hcv2 : ∀ n, (convert 25 9 (.slice t.bp t.bn t.bc)).run Try.prog (x9.drewN n) = .ok (.string s9) (x9.drewN n) := fun n => by
              rw [← hs9]
              exact convert_tx (Tx.heap hB9 (w' := x9.drewN n) rfl)
            have hP9 := HPT.out.later L9.out HG.out
            obtain ⟨e1, e2, e3, e4, hrd, e6⟩ := hP9
            have hrg1 : ∀ w', (∃ n, w' = x9.drewN n) → w'.rangeAt gd 0 (vals t.D) := fun w' hw i u hu => by
              obtain ⟨n, rfl⟩ := hw
              rw [Nat.zero_add]
              exact (cell_of_row (x9.drewN n) gd i _ _ _ hrow).trans (by rw [← hu, ← u8s_toList, Array.getElem?_toList])
            have hrg2 : ∀ w', (∃ n, w' = x9.drewN n) → w'.rangeAt g (o + j * 39 + 5) (vals t.D) := fun w' hw i u hu => by
              obtain ⟨n, rfl⟩ := hw
              exact hrd i u hu
            have HRG1 := Lib.hid hrg1
            have HRG2 := Lib.hid hrg2
            have hneq : ∀ w', (binOp .neq 30 (.agg (u8s t.D)) (.agg (u8s t.D))).run Try.prog w' = .ok (.bool false) w' := fun w' => by
              have := digest_neq t.D t.D HT.out.dl HT.out.dl w'
              simpa using this
            have hsame : ∀ n, Calls Try.prog 29 #[.slice q8 t.R.length c8, .slice t.rp t.rn t.rc] (x9.drewN n) fun e w' => e = .returned (.bool true) ∧ ∃ m, w' = (x9.drewN n).drewN m := fun n => by
              have hh := HT.out.r.later L9.out
              rw [HT.out.r.size] at hh ⊢
              exact same_any q8 t.rp t.R.length c8 t.rc t.R (x9.drewN n) ⟨hI9.size, hI9.le, hI9.ok, hI9.at'⟩ ⟨hh.size, hh.le, hh.ok, hh.at'⟩ HS.out.r
            have hbt := HBT.out
            have HSAME := Lib.hid hsame
            have HTL := Lib.hid hT9
            generalize hlB : t.B.length = lB at *
            generalize hlR : t.R.length = lR at *
            clear hba hrow hT9 hI9 hs9 hB9 hrd hsame hz hlB hlR hrg1 hrg2
            refine wp_region_quiet_lit (by kernel_rfl) (by kernel_rfl) ?_
            repeat (go_big_quiet_step (fail))
            go_big_quiet_want
            refine quiet_load_mid 30 (.tmp 11) (by rfl) gd 0 (by rfl) (vals t.D) _ HRG1.out A25 (by rfl) (by rw [vals_length, HT.out.dl]; exact S25) ?_
            rw [vals_toArray]
            try simp only [Act.put, List.setIfInBounds_toArray, List.set_cons_zero, List.set_cons_succ]
            go_big_quiet_on
            repeat (go_big_quiet_step (fail))
            go_big_quiet_want
            refine quiet_load_mid 30 (.tmp 155) (by rfl) g (o + j * 39 + 5) (by rfl) (vals t.D) _ HRG2.out A25 (by rfl) (by rw [vals_length, HT.out.dl]; exact S25) ?_
            rw [vals_toArray]
            try simp only [Act.put, List.setIfInBounds_toArray, List.set_cons_zero, List.set_cons_succ]
            go_big_quiet_on
            repeat (go_big_quiet_step ((go_at_call 29; exact Calls.quiet_of (HSAME.out _))))
            refine wpQuiet_nil ?_
            intro _ hw'
            obtain ⟨nq, hw''⟩ := hw'
            subst hw''
            have LQ := Lib.hid (Below.drewN (n := nq) L9.out)
            have RQ := Lib.hid (R9.out.later (Below.drewN (n := nq) (Below.refl x9.heap.size x9)))
            clear HTL HSAME HRG1 HRG2 hneq e1 e2 e3 e4 e6 hcv1 hcv2 R9 L9 T8 I8 L8 R8
            go_wp2_with fail
            go_roundw
            case rel => exact ⟨j + 1, by omega, by go_num, RQ.out, LQ.out⟩
            case measure => simp [intOf]; omega
          · obtain rfl : j = k := by omega
            have hr0 := HR.out
            rw [rest_end L j HKL.out] at hr0
            have HR0 := Lib.hid hr0
            clear hr0 HR
            go_upto_region 17 with fail
            go_cut [97] from 90 to 168 (fun s wx => s = .bool false ∧ wx = wr)
            case first =>
              by_cases hlt : j < len
              · have k4 : ¬ (j : Int) < 40 := by have := HNLT.out; omega
                go_wp2_with fail
                go_meet
                exact ⟨rfl, rfl⟩
              · obtain rfl : j = len := by omega
                go_wp2_with fail
                go_meet
                exact ⟨rfl, rfl⟩
            case rest =>
              obtain ⟨rfl, rfl⟩ := hcut
              go_wp2_with fail
              refine (rend_any ⟨[], 0⟩ gr wc HR0.out).mono ?_
              rintro _ y1 hp
              obtain ⟨rfl, h1, k1⟩ := hp
              have L1 := Lib.hid (HW.out.grown k1 HW.out.size (fun q hq => by simp at hq; have := HGR.out; omega))
              have R1 := Lib.hid (show RSx y1 gr ⟨[], 0⟩ from h1)
              clear h1 k1 HW HR0
              have hz : ((Rd.mk [] 0).end.e : Int) = 0 := rfl
              rw [hz]
              clear hz
              go_wp2_with fail
              refine (rleft_any ⟨[], 0⟩ gr y1 R1.out).mono ?_
              rintro _ y2 hp
              obtain ⟨rfl, rfl⟩ := hp
              have hz : (((Rd.mk [] 0).R.length : Nat) : Int) = 0 := rfl
              rw [hz]
              clear hz
              go_wp2_with fail
              go_ret
              exact ⟨rfl, L1.out⟩
end Go.Proofs.Ytlkclbhgbkcplaa
