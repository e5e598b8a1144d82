/- What the law CodecWrites does. -/
import Derived.Test.YtbjidmocibjbnaaCodOwn
import Derived.Test.YtbjidmocibjbnaaCodParts
import Derived.Deep.CutBlock
namespace Go.Proofs.Ytbjidmocibjbnaa
open Go.RowKit

/-- A writer, and beside it the bytes that it should have written. -/
structure CW (w : World) (gw : Nat) (va v : Value) (A : List Nat) (s : St) (wr : World) : Prop where
  ws : WS wr w.heap.size gw v s
  all : wr.ownsRow w.heap.size 5 1 va A.length (vals A)
  ok : Sm.allB A
  ne : va.ownBlock ≠ some gw
  dis : ∀ b, va.ownBlock = some b → v.ownBlock ≠ some b
  low : Below w.heap.size w wr
  lg : w.heap.size ≤ gw
theorem owns_block {w : World} {base n : Nat} {v : Value} {xs : List Value} (h : w.ownsRow base 5 1 v n xs) : ∀ k, v.ownBlock = some k → base ≤ k ∧ k < w.heap.size := fun k hk => by
  rcases h.2 with ⟨rfl, _⟩ | ⟨g, cap, cur, rfl, hb, hg, _⟩
  · simp [Value.ownBlock] at hk
  · obtain rfl : g = k := by simpa [Value.ownBlock] using hk
    exact ⟨hb, (Array.getElem?_eq_some_iff.1 hg).1⟩
theorem CW.wrote {w : World} {gw : Nat} {va v v' : Value} {A : List Nat} {s s' : St} {wr w' : World} (h : CW w gw va v A s wr) (h1 : WS w' w.heap.size gw v' s') (h2 : WStep wr w' gw v v') : CW w gw va v' A s' w' :=
  ⟨h1, own_step h.all h2 h.ne h.dis, h.ok, h.ne, fun b hb e => by
    rcases h2.own b e with h3 | h3
    · exact h.dis b hb h3
    · have := (owns_block h.all b hb).2; omega,
    h.low.trans (h2.below h.lg (fun k hk => (owns_block h.ws.own k hk).1) h.low.size), h.lg⟩
theorem CW.later {w : World} {gw : Nat} {va v : Value} {A : List Nat} {s : St} {wr w' : World} (h : CW w gw va v A s wr) (hb : Below wr.heap.size wr w') : CW w gw va v A s w' :=
  ⟨h.ws.later hb, owns_later h.all hb, h.ok, h.ne, h.dis, h.low.trans (hb.mono h.low.size), h.lg⟩
theorem CW.put {w : World} {gw : Nat} {va va' v : Value} {A P : List Nat} {s : St} {wr w' : World} (h : CW w gw va v A s wr) (hP : Sm.allB P) (ho : w'.ownsRow w.heap.size 5 1 va' (A.length + P.length) (vals A ++ vals P))
    (hg : wr.grownBy w' va.ownBlock) (hat : va'.ownBlock = va.ownBlock ∨ va'.ownBlock = some wr.heap.size) : CW w gw va' v (A ++ P) s w' := by
  refine ⟨⟨(hg.block gw h.ws.lt (fun e => h.ne e.symm)).trans h.ws.row, h.ws.own.kept hg ?_, h.ws.ok, h.ws.nil⟩, by rw [List.length_append, vals_append]; exact ho, fun x hx => ?_, fun e => ?_, fun b hb e => ?_, h.low.grown hg h.low.size (fun k hk => (owns_block h.all k hk).1), h.lg⟩
  · cases hv : v.ownBlock with
    | none => exact Or.inl rfl
    | some b => exact Or.inr (fun e => h.dis b (by rw [← e]) hv)
  · rcases List.mem_append.1 hx with hx | hx
    · exact h.ok x hx
    · exact hP x hx
  · rcases hat with h1 | h1
    · exact h.ne (by rw [← h1, e])
    · rw [h1] at e
      have := h.ws.lt
      simp at e
      omega
  · rcases hat with h1 | h1
    · exact h.dis b (by rw [← h1, hb]) e
    · rw [h1] at hb
      have := (owns_block h.ws.own b e).2
      simp at hb
      omega
/-- What the writer holds beside the bytes: just them, or nothing, where something was refused. -/
def stOf (bad : Bool) (A : List Nat) : St := if bad then .no else ⟨A, 0⟩
theorem cell_part {w : World} {gx : Nat} {t : Pt} (h : w.heap[gx]? = some (.cells t.cells.toArray 34 (0, 0))) (j : Nat) (u : Value) (hu : t.cells[j]? = some u) : w.cell? ⟨gx, j, none⟩ = some u := by
  rw [cell_of_row w gx j _ _ _ h]; simpa using hu
theorem stOf_put (bd : Bool) (A P : List Nat) : (stOf bd A).put P = stOf bd (A ++ P) := by cases bd <;> rfl
theorem stOf_len (bd : Bool) (A : List Nat) : (stOf bd A).B.length ≤ A.length := by cases bd <;> simp [stOf, St.no]
theorem stOf_row (bd : Bool) (A : List Nat) (R : List Int) : (stOf bd A).row' R = stOf (bd || decide (255 < R.length)) (A ++ (R.length % 256 :: nums R)) := by
  unfold St.row'
  by_cases h : R.length ≤ 255
  · rw [if_pos h, stOf_put, decide_eq_false (by omega), Bool.or_false, Nat.mod_eq_of_lt (show R.length < 256 by omega)]
    rfl
  · rw [if_neg h, decide_eq_true (by omega), Bool.or_true]
    rfl
theorem Ints.step {w w' : World} {p : Option Addr} {n c : Nat} {R : List Int} (h : Ints w p n c R) {g : Nat} {v v' : Value} (hs : WStep w w' g v v') (hg : ∀ x, p = some x → R ≠ [] → x.block ≠ g ∧ v.ownBlock ≠ some x.block) : Ints w' p n c R :=
  ⟨h.size, h.le, h.ok, h.at'.elim Or.inl fun ⟨gx, o, hp, hx⟩ => by
    by_cases h0 : R = []
    · exact Or.inl h0
    · obtain ⟨e1, e2⟩ := hg _ hp h0
      exact Or.inr ⟨gx, o, hp, fun i hi => by
        rw [World.cell?_of_block (w := w) (w' := w') (a := ⟨gx, o + i, none⟩) (hs.block gx (block_lt_of_cell (hx i hi)) e1 e2)]
        exact hx i hi⟩⟩
theorem part_row {t : Pt} (h : t.D.length = 32) : t.cells[37]? = some (.slice t.rp t.rn t.rc) := by
  simp [Pt.cells, vals, h]
theorem part_digest {t : Pt} (h : t.D.length = 32) (j : Nat) (u : Value) (hu : (vals t.D)[j]? = some u) : t.cells[5 + j]? = some u := by
  have hj : j < 32 := by have := (List.getElem?_eq_some_iff.1 hu).1; rw [vals_length] at this; omega
  rw [show 5 + j = j + 1 + 1 + 1 + 1 + 1 from by omega]
  simp only [Pt.cells, List.getElem?_cons_succ]
  rw [List.getElem?_append_left (by rw [vals_length]; omega)]
  exact hu
theorem digest_range {w : World} {gx : Nat} {t : Pt} (h : w.heap[gx]? = some (.cells t.cells.toArray 34 (0, 0))) (hd : t.D.length = 32) : w.rangeAt gx 5 (vals t.D) := fun j v hv =>
  cell_part h (5 + j) v (part_digest hd j v hv)
theorem digest_tx {w : World} {gx : Nat} {t : Pt} (h : w.heap[gx]? = some (.cells t.cells.toArray 34 (0, 0))) (hd : t.D.length = 32) (hb : Sm.allB t.D) : Tx w (some ⟨gx, 5, none⟩) 32 32 t.D :=
  ⟨hd.symm, Nat.le_refl _, hb, Or.inr ⟨_, rfl, fun j u hu => by
    rw [show (⟨gx, 5, none⟩ : Addr).add j = ⟨gx, 5 + j, none⟩ from by unfold Addr.add; split <;> simp_all]
    exact digest_range h hd j u hu⟩, fun y hy hc => by cases hy; rfl⟩
theorem arr_slice5 (g : Nat) (w : World) : (Instr.sliceAt 30 (.pointer (some ⟨g, 5, none⟩)) none none none).run Try.prog w = .ok (.slice (some ⟨g, 5, none⟩) 32 32) w := by
  have hl : Try.prog.arrayLen 30 = 32 := by simp [Program.arrayLen]
  have he : Try.prog.elem 30 = 5 := by simp [Program.elem]
  have h1 := run_sliceAt_array_all (P := Try.prog) w 30 ⟨g, 5, none⟩ (by rw [hl, he]; exact A25)
  obtain ⟨i5, hi, _, hi1, _⟩ := info_parts I5
  have hs : (sizeOf 5).run Try.prog w = .ok 1 w := by simp [sizeOf, typeInfo, hi, hi1]
  rw [h1, hl, he, hs]
  simp [slicedAt, Addr.add]
theorem stOf_no (bd : Bool) (A : List Nat) (n : Int) (P : List Nat) (h : n < 0 ∨ 1048576 < n) : (stOf bd A).count n = stOf true (A ++ P) := by
  unfold St.count
  rw [if_neg (by omega)]
  rfl
theorem stOf_count (bd : Bool) (A : List Nat) (n : Int) (h1 : 0 ≤ n) (h2 : n ≤ 1048576) : (stOf bd A).count n = stOf bd (A ++ Cm.be n.toNat 3) := by
  unfold St.count
  rw [if_pos ⟨h1, h2⟩, stOf_put]
theorem refcount_int (n : Int) (h1 : 0 ≤ n) (h2 : n ≤ 9223372036854775807) (w : World) : Calls Try.prog 12 #[.int .i64 n] w (RefPost w (Cm.be n.toNat 3)) := by
  have := refcount_any n.toNat (by omega) w
  rw [show ((n.toNat : Nat) : Int) = n from by omega] at this
  exact this
theorem stOf_text (bd : Bool) (A T : List Nat) (h : T.length ≤ 1000) : (stOf bd A).text T = stOf bd (A ++ (Cm.be T.length 3 ++ T)) := by
  have e : (stOf bd A).count (T.length : Int) = (stOf bd A).put (Cm.be T.length 3) := by
    unfold St.count
    rw [if_pos ⟨by omega, by omega⟩, Int.toNat_natCast]
  unfold St.text
  rw [e, St.put_put, stOf_put]
def WrRel (w : World) (gw len : Nat) (all bad i : Value) (wr : World) : Prop :=
  ∃ (k : Nat) (v : Value) (A : List Nat) (bd : Bool), k ≤ len ∧ k ≤ 60 ∧ i = .int .i64 k ∧ bad = .bool bd ∧ A.length ≤ k * 4000 ∧ CW w gw all v A (stOf bd A) wr
theorem tx_lt {w : World} {p : Option Addr} {n c : Nat} {B : List Nat} (h : Tx w p n c B) {x : Addr} (hx : p = some x) (hn : B ≠ []) : x.block < w.heap.size := by
  subst hx
  cases B with
  | nil => exact absurd rfl hn
  | cons b B =>
    have := h.cells 0 (.int .u8 (b : Nat)) rfl
    have := block_lt_of_cell this
    simpa [Addr.add] using this
theorem ints_lt {w : World} {p : Option Addr} {n c : Nat} {R : List Int} (h : Ints w p n c R) {x : Addr} (hx : p = some x) (hn : R ≠ []) : x.block < w.heap.size := by
  rcases h.at' with h0 | ⟨g, o, hp, hc⟩
  · exact absurd h0 hn
  · rw [hx] at hp
    cases hp
    exact block_lt_of_cell (hc 0 (List.length_pos_iff.2 hn))
def pz : Array Value := (Pt.cells ⟨0, 0, 0, 0, none, 0, 0, [], zeros 32, none, 0, 0, [], 0⟩).toArray
theorem ZP : (Try.prog.info? 34).map (fun i => (i.zero, i.size)) = some (some (.agg pz), 39) := by kernel_rfl
theorem pz_size : pz.size = 39 := by kernel_rfl
theorem SP : (Try.prog.info? 34).map (·.size) = some 39 := by kernel_rfl
theorem UP : ∃ fs, Try.prog.underlying 34 = some (.struct fs) := by
  have hp := PF
  unfold fieldsOf at hp
  split at hp
  · rename_i fs hu; exact ⟨fs, hu⟩
  · cases hp
theorem Pt.cells_length {t : Pt} (h : t.D.length = 32) : t.cells.length = 39 := by simp [Pt.cells, vals, h]
theorem Pt.one (t : Pt) : t.cells.toArray.all (·.oneCell') = true := by
  simp [Pt.cells, vals, Value.oneCell']
set_option maxRecDepth 100000 in
set_option maxHeartbeats 4000000 in
theorem writes_any (L : List Pt) (p : Option Addr) (len cap : Nat) (w : World) (hL : Parts w p len cap L) (hl : len ≤ 9223372036854775807) :
    Calls Try.prog 3 #[.slice p len cap] w fun e w' => e = .returned (.bool true) ∧ Below w.heap.size w w' := by
  have HL := Lib.hid hL
  have HLE := Lib.hid hL.le
  obtain ⟨i5, hi, hi0, hi1, hi2⟩ := info_parts I5
  have HI := Lib.hid hi
  have HI0 := Lib.hid hi0
  have HI1 := Lib.hid hi1
  have HI2 := Lib.hid hi2
  obtain ⟨fs, hfs⟩ := UP
  have HFS := Lib.hid hfs
  have HZP := Lib.hid (zero_of_info ZP).1
  clear hL hi hi0 hi1 hi2 hfs
  go_enter Try.func3, Try.ntmps3
  go_wp2_with fail
  refine (alive_any w).mono ?_
  rintro _ w1 ⟨rfl, hb1⟩
  have B1 := Lib.hid hb1
  clear hb1
  have s2 := ws_new w1 w.heap.size
  have bb2 : Below w.heap.size w (w1.alloc (.cells #[.slice none 0 0, .int .i64 0] 28)) := B1.out.alloc B1.out.size _
  obtain ⟨w2, hw2⟩ : ∃ w2, w2 = w1.alloc (.cells #[.slice none 0 0, .int .i64 0] 28) := ⟨_, rfl⟩
  rw [← hw2] at s2 bb2
  have hst : WrRel w w1.heap.size len (.slice none 0 0) (.bool false) (.int .i64 0) w2 :=
    ⟨0, .slice none 0 0, [], false, by omega, by omega, rfl, rfl, by simp, ⟨s2, World.ownsRow_nil _ _ _ _, fun x hx => by simp at hx, by simp [Value.ownBlock], fun b hb => by simp [Value.ownBlock] at hb, bb2, B1.out.size⟩⟩
  have HW2 := Lib.hid hw2
  have HST := Lib.hid hst
  obtain ⟨gw, hgw⟩ : ∃ gw, gw = w1.heap.size := ⟨_, rfl⟩
  rw [← hgw] at HST
  have HGW := Lib.hid hgw
  clear s2 bb2 hst hw2
  go_upto_region 4 with (refine wpList_build (by rfl) 28 _ (by rfl) (by as_aux_lemma => kernel_rfl) ?_)
  rw [w_built, Option.getD_some, ← HW2.out, ← hgw]
  clear hgw
  go_wp2_with fail
  go_loopw [4, 5, 6] (fun all bad i wr => WrRel w gw len all bad i wr) (fun _ _ i _ => len - (intOf i).toNat)
  case atStart => exact HST.out
  case round =>
    obtain ⟨k, v, A, bd, hk, hk60, rfl, rfl, hA, hcw⟩ := hrel
    obtain ⟨va, hva⟩ : ∃ va, va = u4 := ⟨_, rfl⟩
    rw [← hva] at hcw ⊢
    clear hva
    have HCW := Lib.hid hcw
    have HA := Lib.hid hA
    clear hcw hA HST
    by_cases hlt : k < len ∧ k < 60
    · obtain ⟨hlt, hlt6⟩ := hlt
      obtain ⟨g, o, hp, hx⟩ := HL.out.at' (by omega)
      obtain ⟨hr, ht⟩ := hx k hlt
      obtain ⟨t, htt⟩ : ∃ t, t = L.getD k default := ⟨_, rfl⟩
      rw [← htt] at hr ht
      subst hp
      have k6 : (k : Int) < 60 := by omega
      have HP0 := Lib.hid hr
      have HT0 := Lib.hid ht
      have HTC := Lib.hid (Pt.cells_length ht.dl)
      clear hr ht htt hx
      have hle := HLE.out
      have hz := HZP.out
      go_upto_region 10 with (first | (refine wpList_store_row (by rfl) 34 (.tmp 7) (.tmp 25) (by rfl) wr.heap.size t.cells.toArray (by rfl) (by rfl) _ _ (heap_alloc_new wr _) (by rw [List.size_toArray, HTC.out]; exact SP) (by simp only [List.size_toArray, HTC.out, pz_size]) (Pt.one t) ?_; rw [setRow_alloc]) | (refine wpList_load_mid (by rfl) 34 _ (by rfl) g (o + k * 39) (by rfl) t.cells _ (fun j v hv => (HCW.out.low.cell (block_lt_of_cell (HP0.out j v hv))).trans (HP0.out j v hv)) HFS.out (by rfl) (by rw [HTC.out]; exact SP) ?_))
      have hlow := HCW.out.low
      have hba : Below wr.heap.size wr (wr.alloc (.cells t.cells.toArray 34)) := (Below.refl _ _).alloc (Nat.le_refl _) _
      have hrow := heap_alloc_new wr (.cells t.cells.toArray 34)
      obtain ⟨W3, hW3⟩ : ∃ W3, W3 = wr.alloc (.cells t.cells.toArray 34) := ⟨_, rfl⟩
      obtain ⟨gx, hgx⟩ : ∃ gx, gx = wr.heap.size := ⟨_, rfl⟩
      rw [← hW3] at hba hrow ⊢
      rw [← hgx] at hrow ⊢
      have H3 := Lib.hid (HCW.out.later hba)
      have T3 := Lib.hid ((HT0.out.later hlow).later hba)
      have HXR := Lib.hid hrow
      have HGX := Lib.hid (show gx ≠ gw ∧ v.ownBlock ≠ some gx ∧ va.ownBlock ≠ some gx from by
        rw [hgx]
        refine ⟨?_, fun e => ?_, fun e => ?_⟩
        · have := HCW.out.ws.lt; omega
        · have := (owns_block HCW.out.ws.own _ e).2; omega
        · have := (owns_block HCW.out.all _ e).2; omega)
      have cl : ∀ (j : Nat) (u : Value), t.cells[j]? = some u → W3.cell? ⟨gx, j, none⟩ = some u := fun j u hu => by
        rw [cell_of_row W3 gx j _ _ _ hrow]; simpa using hu
      have c4 := cl 4 _ rfl
      have c37 := cl 37 (.slice t.rp t.rn t.rc) (by
        have := T3.out.dl
        simp [Pt.cells, vals, this])
      have CL := Lib.hid cl
      have HTB := Lib.hid (show ∀ x, t.bp = some x → t.B ≠ [] → x.block ≠ gw ∧ v.ownBlock ≠ some x.block from fun x hx hn => by
        have hb := tx_lt HT0.out.b hx hn
        refine ⟨fun e => ?_, fun e => ?_⟩
        · have := HCW.out.lg; omega
        · have := (owns_block HCW.out.ws.own _ e).1; omega)
      have HRB := Lib.hid (show ∀ x, t.rp = some x → t.R ≠ [] → x.block ≠ gw ∧ v.ownBlock ≠ some x.block from fun x hx hn => by
        have hb := ints_lt HT0.out.r hx hn
        refine ⟨fun e => ?_, fun e => ?_⟩
        · have := HCW.out.lg; omega
        · have := (owns_block HCW.out.ws.own _ e).1; omega)
      clear hlow hba hrow hW3 hgx cl hz HCW HZP
      by_cases h1 : 1000 < t.bn
      · have d1 : (1000 : Int) < t.bn := by omega
        go_wp2_with fail
        go_ret
        exact ⟨rfl, H3.out.low⟩
      have d1 : ¬ (1000 : Int) < t.bn := by omega
      by_cases h2 : 400 < t.rn
      · have d2 : (400 : Int) < t.rn := by omega
        go_wp2_with fail
        go_ret
        exact ⟨rfl, H3.out.low⟩
      have d2 : ¬ (400 : Int) < t.rn := by omega
      have c0 := CL.out 0 _ rfl
      go_upto_block 2 with fail
      have HAL := Lib.hid (show A.length ≤ 240000 from by have := HA.out; omega)
      have HSB := Lib.hid (stOf_len bd A)
      go_cut [4, 5] from 38 to 134 (fun all bad wx => ∃ (v' : Value) (A' : List Nat) (bd' : Bool), bad = .bool bd' ∧ A'.length ≤ A.length + 4000 ∧ CW w gw all v' A' (stOf bd' A') wx)
      case first =>
        have HTX := Lib.hid (show ∀ x, t.bp = some x → t.B ≠ [] → x.block ≠ gw ∧ v.ownBlock ≠ some x.block from fun x hx hn => HTB.out x hx hn)
        have h7 : t.kind % 7 = 0 ∨ t.kind % 7 = 1 ∨ t.kind % 7 = 2 ∨ t.kind % 7 = 3 ∨ t.kind % 7 = 4 ∨ t.kind % 7 = 5 ∨ t.kind % 7 = 6 := by omega
        rcases h7 with h7 | h7 | h7 | h7 | h7 | h7 | h7
        · have q : (t.kind : Int) % 7 = 0 := by omega
          have c1 := CL.out 1 _ rfl
          go_wp2_with fail
          refine (byte_any _ t.xb T3.out.xb w.heap.size gw v _ H3.out.ws (by have := HSB.out; have := HAL.out; omega) H3.out.low.size).mono ?_
          rintro e w5 hp
          obtain ⟨rfl, v5, h5, k5⟩ := hp
          have H5 := Lib.hid (H3.out.wrote h5 k5)
          have HX5 := Lib.hid ((k5.block gx (Array.getElem?_eq_some_iff.1 HXR.out).1 HGX.out.1 HGX.out.2.1).trans HXR.out)
          have K5 := Lib.hid k5
          clear h5 k5
          have c1 := cell_part HX5.out 1 (.int .u8 t.xb) (rfl)
          have hal := HAL.out
          have HN := Lib.hid (heap_alloc_new w5 (.cells (u8s [t.xb]) 5))
          have HAA := Lib.hid (CW.later H5.out ((Below.refl _ _).alloc (Nat.le_refl _) (.cells (u8s [t.xb]) 5)))
          go_wp2_with (at_builtin; refine wpList_append_own_at _ (by rfl) (.tmp 61) (.tmp 64) 25 (by rfl) w.heap.size 5 i5 (.int .u8 0) 1 1 A22 HI.out HI0.out HI1.out HI2.out (by rfl) (by decide) _ A.length _ (by rfl) HAA.out.all ⟨w5.heap.size, 0, none⟩ 1 1 (vals [t.xb]) (by rfl) (by rw [vals_length, Nat.mul_one]; rfl) (cells_of_row (L := [t.xb]) HN.out) (vals_one _) (by unfold maxLen; omega) (by omega) HAA.out.low.size ?_; intro v7 w7 hown7 hgrow7 _ hat7; have H7 := Lib.hid (CW.put HAA.out (fun x hx => by have := T3.out.xb; simp at hx; omega) hown7 hgrow7 hat7); clear hown7 hgrow7 hat7)
          go_meet
          refine ⟨v5, A ++ [t.xb], bd, rfl, by rw [List.length_append]; simp, ?_⟩
          have h7 := H7.out
          rw [stOf_put] at h7
          exact h7
        · have q : (t.kind : Int) % 7 = 1 := by omega
          rcases (show t.xb % 2 = 1 ∨ t.xb % 2 = 0 from by omega) with hb | hb
          · skip
            have q2 : (t.xb : Int) % 2 = 1 := by omega
            have c1 := CL.out 1 _ rfl
            go_wp2_with fail
            refine (truth_any _ true w.heap.size gw v _ H3.out.ws (by have := HSB.out; have := HAL.out; omega) H3.out.low.size).mono ?_
            rintro e w5 hp
            obtain ⟨rfl, v5, h5, k5⟩ := hp
            have H5 := Lib.hid (H3.out.wrote h5 k5)
            have HX5 := Lib.hid ((k5.block gx (Array.getElem?_eq_some_iff.1 HXR.out).1 HGX.out.1 HGX.out.2.1).trans HXR.out)
            have K5 := Lib.hid k5
            clear h5 k5
            have c1 := cell_part HX5.out 1 (.int .u8 t.xb) (rfl)
            go_wp2_with fail
            obtain ⟨P, hP⟩ : ∃ P : List Nat, P = [1] := ⟨_, rfl⟩
            refine (show Calls Try.prog _ _ w5 (RefPost w5 P) from by rw [hP]; exact reftruth_any true w5).mono ?_
            rintro e w6 hp
            obtain ⟨q6, c6, rfl, h6, k6⟩ := hp
            have hPl : 0 < P.length ∧ P.length < 4000 := by rw [hP]; simp
            obtain ⟨y6, rfl⟩ := row_some h6 hPl.1
            have hPo : Sm.allB P := by rw [hP]; intro x hx; simp at hx; omega
            have H6 := Lib.hid (H5.out.later k6)
            have T6 := Lib.hid (tx_of_owns h6 hPo)
            have HP := Lib.hid hP
            have HPL := Lib.hid hPl
            have HPO := Lib.hid hPo
            have hpl := hPl.2
            have hal := HAL.out
            clear h6 k6 hP hPl hPo
            go_wp2_with (at_builtin; refine wpList_append_own_at _ (by rfl) (.tmp 74) (.tmp 79) 25 (by rfl) w.heap.size 5 i5 (.int .u8 0) 1 1 A22 HI.out HI0.out HI1.out HI2.out (by rfl) (by decide) _ A.length _ (by rfl) H6.out.all y6 P.length c6 (vals P) (by rfl) (by rw [vals_length, Nat.mul_one]) T6.out.cells (vals_one _) (by unfold maxLen; omega) (by omega) H6.out.low.size ?_; intro v7 w7 hown7 hgrow7 _ hat7; have H7 := Lib.hid (CW.put H6.out HPO.out hown7 hgrow7 hat7); clear hown7 hgrow7 hat7)
            go_meet
            refine ⟨v5, A ++ P, bd, rfl, by rw [List.length_append]; have := HPL.out.2; omega, ?_⟩
            have h7 := H7.out
            rw [St.truth, show (if true = true then 1 else 0 : Nat) = 1 from rfl, stOf_put, ← HP.out] at h7
            exact h7
          · skip
            have q2 : (t.xb : Int) % 2 = 0 := by omega
            have c1 := CL.out 1 _ rfl
            go_wp2_with fail
            refine (truth_any _ false w.heap.size gw v _ H3.out.ws (by have := HSB.out; have := HAL.out; omega) H3.out.low.size).mono ?_
            rintro e w5 hp
            obtain ⟨rfl, v5, h5, k5⟩ := hp
            have H5 := Lib.hid (H3.out.wrote h5 k5)
            have HX5 := Lib.hid ((k5.block gx (Array.getElem?_eq_some_iff.1 HXR.out).1 HGX.out.1 HGX.out.2.1).trans HXR.out)
            have K5 := Lib.hid k5
            clear h5 k5
            have c1 := cell_part HX5.out 1 (.int .u8 t.xb) (rfl)
            go_wp2_with fail
            obtain ⟨P, hP⟩ : ∃ P : List Nat, P = [0] := ⟨_, rfl⟩
            refine (show Calls Try.prog _ _ w5 (RefPost w5 P) from by rw [hP]; exact reftruth_any false w5).mono ?_
            rintro e w6 hp
            obtain ⟨q6, c6, rfl, h6, k6⟩ := hp
            have hPl : 0 < P.length ∧ P.length < 4000 := by rw [hP]; simp
            obtain ⟨y6, rfl⟩ := row_some h6 hPl.1
            have hPo : Sm.allB P := by rw [hP]; intro x hx; simp at hx; omega
            have H6 := Lib.hid (H5.out.later k6)
            have T6 := Lib.hid (tx_of_owns h6 hPo)
            have HP := Lib.hid hP
            have HPL := Lib.hid hPl
            have HPO := Lib.hid hPo
            have hpl := hPl.2
            have hal := HAL.out
            clear h6 k6 hP hPl hPo
            go_wp2_with (at_builtin; refine wpList_append_own_at _ (by rfl) (.tmp 74) (.tmp 79) 25 (by rfl) w.heap.size 5 i5 (.int .u8 0) 1 1 A22 HI.out HI0.out HI1.out HI2.out (by rfl) (by decide) _ A.length _ (by rfl) H6.out.all y6 P.length c6 (vals P) (by rfl) (by rw [vals_length, Nat.mul_one]) T6.out.cells (vals_one _) (by unfold maxLen; omega) (by omega) H6.out.low.size ?_; intro v7 w7 hown7 hgrow7 _ hat7; have H7 := Lib.hid (CW.put H6.out HPO.out hown7 hgrow7 hat7); clear hown7 hgrow7 hat7)
            go_meet
            refine ⟨v5, A ++ P, bd, rfl, by rw [List.length_append]; have := HPL.out.2; omega, ?_⟩
            have h7 := H7.out
            rw [St.truth, show (if false = true then 1 else 0 : Nat) = 0 from rfl, stOf_put, ← HP.out] at h7
            exact h7
        · have q : (t.kind : Int) % 7 = 2 := by omega
          cases bd
          · rcases (show t.n < 0 ∨ 1048576 < t.n ∨ (0 ≤ t.n ∧ t.n ≤ 1048576) from by omega) with hn | hn | hn
            · skip
              have d3 : t.n < 0 := by omega
              have c2 := CL.out 2 _ rfl
              go_wp2_with fail
              refine (count_any _ t.n T3.out.n.1 T3.out.n.2 w.heap.size gw v _ H3.out.ws (by have := HSB.out; have := HAL.out; omega) H3.out.low.size).mono ?_
              rintro e w5 hp
              obtain ⟨rfl, v5, h5, k5⟩ := hp
              have H5 := Lib.hid (H3.out.wrote h5 k5)
              have HX5 := Lib.hid ((k5.block gx (Array.getElem?_eq_some_iff.1 HXR.out).1 HGX.out.1 HGX.out.2.1).trans HXR.out)
              have K5 := Lib.hid k5
              clear h5 k5
              have c2 := cell_part HX5.out 2 (.int .i64 t.n) (rfl)
              go_wp2_with fail
              refine (refcount_neg t.n T3.out.n.1 (by omega) w5).mono ?_
              rintro e w6 ⟨P, hPo, hPl3, q6, c6, rfl, h6, k6⟩
              have hPl : 0 < P.length ∧ P.length < 4000 := by rw [hPl3]; omega
              have hP : P = P := rfl
              clear hPl3
              obtain ⟨y6, rfl⟩ := row_some h6 hPl.1
              have H6 := Lib.hid (H5.out.later k6)
              have T6 := Lib.hid (tx_of_owns h6 hPo)
              have HP := Lib.hid hP
              have HPL := Lib.hid hPl
              have HPO := Lib.hid hPo
              have hpl := hPl.2
              have hal := HAL.out
              clear h6 k6 hP hPl hPo
              go_wp2_with (at_builtin; refine wpList_append_own_at _ (by rfl) (.tmp 98) (.tmp 101) 25 (by rfl) w.heap.size 5 i5 (.int .u8 0) 1 1 A22 HI.out HI0.out HI1.out HI2.out (by rfl) (by decide) _ A.length _ (by rfl) H6.out.all y6 P.length c6 (vals P) (by rfl) (by rw [vals_length, Nat.mul_one]) T6.out.cells (vals_one _) (by unfold maxLen; omega) (by omega) H6.out.low.size ?_; intro v7 w7 hown7 hgrow7 _ hat7; have H7 := Lib.hid (CW.put H6.out HPO.out hown7 hgrow7 hat7); clear hown7 hgrow7 hat7)
              go_meet
              refine ⟨v5, A ++ P, true, rfl, by rw [List.length_append]; have := HPL.out.2; omega, ?_⟩
              have h7 := H7.out
              rw [stOf_no _ _ _ P (by omega)] at h7
              exact h7
            · skip
              have d3 : ¬ t.n < 0 := by omega
              have d4 : (1048576 : Int) < t.n := by omega
              have c2 := CL.out 2 _ rfl
              go_wp2_with fail
              refine (count_any _ t.n T3.out.n.1 T3.out.n.2 w.heap.size gw v _ H3.out.ws (by have := HSB.out; have := HAL.out; omega) H3.out.low.size).mono ?_
              rintro e w5 hp
              obtain ⟨rfl, v5, h5, k5⟩ := hp
              have H5 := Lib.hid (H3.out.wrote h5 k5)
              have HX5 := Lib.hid ((k5.block gx (Array.getElem?_eq_some_iff.1 HXR.out).1 HGX.out.1 HGX.out.2.1).trans HXR.out)
              have K5 := Lib.hid k5
              clear h5 k5
              have c2 := cell_part HX5.out 2 (.int .i64 t.n) (rfl)
              go_wp2_with fail
              obtain ⟨P, hP⟩ : ∃ P : List Nat, P = Cm.be t.n.toNat 3 := ⟨_, rfl⟩
              refine (show Calls Try.prog _ _ w5 (RefPost w5 P) from by rw [hP]; exact refcount_int t.n (by omega) T3.out.n.2 w5).mono ?_
              rintro e w6 hp
              obtain ⟨q6, c6, rfl, h6, k6⟩ := hp
              have hPl : 0 < P.length ∧ P.length < 4000 := by rw [hP]; rw [Cm.be_length]; omega
              obtain ⟨y6, rfl⟩ := row_some h6 hPl.1
              have hPo : Sm.allB P := by rw [hP]; exact Cm.be_ok _ _
              have H6 := Lib.hid (H5.out.later k6)
              have T6 := Lib.hid (tx_of_owns h6 hPo)
              have HP := Lib.hid hP
              have HPL := Lib.hid hPl
              have HPO := Lib.hid hPo
              have hpl := hPl.2
              have hal := HAL.out
              clear h6 k6 hP hPl hPo
              go_wp2_with (at_builtin; refine wpList_append_own_at _ (by rfl) (.tmp 98) (.tmp 101) 25 (by rfl) w.heap.size 5 i5 (.int .u8 0) 1 1 A22 HI.out HI0.out HI1.out HI2.out (by rfl) (by decide) _ A.length _ (by rfl) H6.out.all y6 P.length c6 (vals P) (by rfl) (by rw [vals_length, Nat.mul_one]) T6.out.cells (vals_one _) (by unfold maxLen; omega) (by omega) H6.out.low.size ?_; intro v7 w7 hown7 hgrow7 _ hat7; have H7 := Lib.hid (CW.put H6.out HPO.out hown7 hgrow7 hat7); clear hown7 hgrow7 hat7)
              go_meet
              refine ⟨v5, A ++ P, true, rfl, by rw [List.length_append]; have := HPL.out.2; omega, ?_⟩
              have h7 := H7.out
              rw [stOf_no _ _ _ P (by omega)] at h7
              exact h7
            · skip
              have d3 : ¬ t.n < 0 := by omega
              have d4 : ¬ (1048576 : Int) < t.n := by omega
              have d5 : decide (t.n < 0) = false := decide_eq_false d3
              have d6 : decide ((1048576 : Int) < t.n) = false := decide_eq_false d4
              have c2 := CL.out 2 _ rfl
              go_wp2_with fail
              refine (count_any _ t.n T3.out.n.1 T3.out.n.2 w.heap.size gw v _ H3.out.ws (by have := HSB.out; have := HAL.out; omega) H3.out.low.size).mono ?_
              rintro e w5 hp
              obtain ⟨rfl, v5, h5, k5⟩ := hp
              have H5 := Lib.hid (H3.out.wrote h5 k5)
              have HX5 := Lib.hid ((k5.block gx (Array.getElem?_eq_some_iff.1 HXR.out).1 HGX.out.1 HGX.out.2.1).trans HXR.out)
              have K5 := Lib.hid k5
              clear h5 k5
              have c2 := cell_part HX5.out 2 (.int .i64 t.n) (rfl)
              go_wp2_with fail
              obtain ⟨P, hP⟩ : ∃ P : List Nat, P = Cm.be t.n.toNat 3 := ⟨_, rfl⟩
              refine (show Calls Try.prog _ _ w5 (RefPost w5 P) from by rw [hP]; exact refcount_int t.n (by omega) T3.out.n.2 w5).mono ?_
              rintro e w6 hp
              obtain ⟨q6, c6, rfl, h6, k6⟩ := hp
              have hPl : 0 < P.length ∧ P.length < 4000 := by rw [hP]; rw [Cm.be_length]; omega
              obtain ⟨y6, rfl⟩ := row_some h6 hPl.1
              have hPo : Sm.allB P := by rw [hP]; exact Cm.be_ok _ _
              have H6 := Lib.hid (H5.out.later k6)
              have T6 := Lib.hid (tx_of_owns h6 hPo)
              have HP := Lib.hid hP
              have HPL := Lib.hid hPl
              have HPO := Lib.hid hPo
              have hpl := hPl.2
              have hal := HAL.out
              clear h6 k6 hP hPl hPo
              go_wp2_with (at_builtin; refine wpList_append_own_at _ (by rfl) (.tmp 98) (.tmp 101) 25 (by rfl) w.heap.size 5 i5 (.int .u8 0) 1 1 A22 HI.out HI0.out HI1.out HI2.out (by rfl) (by decide) _ A.length _ (by rfl) H6.out.all y6 P.length c6 (vals P) (by rfl) (by rw [vals_length, Nat.mul_one]) T6.out.cells (vals_one _) (by unfold maxLen; omega) (by omega) H6.out.low.size ?_; intro v7 w7 hown7 hgrow7 _ hat7; have H7 := Lib.hid (CW.put H6.out HPO.out hown7 hgrow7 hat7); clear hown7 hgrow7 hat7)
              go_meet
              refine ⟨v5, A ++ P, false, rfl, by rw [List.length_append]; have := HPL.out.2; omega, ?_⟩
              have h7 := H7.out
              rw [stOf_count _ _ _ (by omega) (by omega), ← HP.out] at h7
              exact h7
          · rcases (show t.n < 0 ∨ 1048576 < t.n ∨ (0 ≤ t.n ∧ t.n ≤ 1048576) from by omega) with hn | hn | hn
            · skip
              have d3 : t.n < 0 := by omega
              have c2 := CL.out 2 _ rfl
              go_wp2_with fail
              refine (count_any _ t.n T3.out.n.1 T3.out.n.2 w.heap.size gw v _ H3.out.ws (by have := HSB.out; have := HAL.out; omega) H3.out.low.size).mono ?_
              rintro e w5 hp
              obtain ⟨rfl, v5, h5, k5⟩ := hp
              have H5 := Lib.hid (H3.out.wrote h5 k5)
              have HX5 := Lib.hid ((k5.block gx (Array.getElem?_eq_some_iff.1 HXR.out).1 HGX.out.1 HGX.out.2.1).trans HXR.out)
              have K5 := Lib.hid k5
              clear h5 k5
              have c2 := cell_part HX5.out 2 (.int .i64 t.n) (rfl)
              go_wp2_with fail
              refine (refcount_neg t.n T3.out.n.1 (by omega) w5).mono ?_
              rintro e w6 ⟨P, hPo, hPl3, q6, c6, rfl, h6, k6⟩
              have hPl : 0 < P.length ∧ P.length < 4000 := by rw [hPl3]; omega
              have hP : P = P := rfl
              clear hPl3
              obtain ⟨y6, rfl⟩ := row_some h6 hPl.1
              have H6 := Lib.hid (H5.out.later k6)
              have T6 := Lib.hid (tx_of_owns h6 hPo)
              have HP := Lib.hid hP
              have HPL := Lib.hid hPl
              have HPO := Lib.hid hPo
              have hpl := hPl.2
              have hal := HAL.out
              clear h6 k6 hP hPl hPo
              go_wp2_with (at_builtin; refine wpList_append_own_at _ (by rfl) (.tmp 98) (.tmp 101) 25 (by rfl) w.heap.size 5 i5 (.int .u8 0) 1 1 A22 HI.out HI0.out HI1.out HI2.out (by rfl) (by decide) _ A.length _ (by rfl) H6.out.all y6 P.length c6 (vals P) (by rfl) (by rw [vals_length, Nat.mul_one]) T6.out.cells (vals_one _) (by unfold maxLen; omega) (by omega) H6.out.low.size ?_; intro v7 w7 hown7 hgrow7 _ hat7; have H7 := Lib.hid (CW.put H6.out HPO.out hown7 hgrow7 hat7); clear hown7 hgrow7 hat7)
              go_meet
              refine ⟨v5, A ++ P, true, rfl, by rw [List.length_append]; have := HPL.out.2; omega, ?_⟩
              have h7 := H7.out
              rw [stOf_no _ _ _ P (by omega)] at h7
              exact h7
            · skip
              have d3 : ¬ t.n < 0 := by omega
              have d4 : (1048576 : Int) < t.n := by omega
              have c2 := CL.out 2 _ rfl
              go_wp2_with fail
              refine (count_any _ t.n T3.out.n.1 T3.out.n.2 w.heap.size gw v _ H3.out.ws (by have := HSB.out; have := HAL.out; omega) H3.out.low.size).mono ?_
              rintro e w5 hp
              obtain ⟨rfl, v5, h5, k5⟩ := hp
              have H5 := Lib.hid (H3.out.wrote h5 k5)
              have HX5 := Lib.hid ((k5.block gx (Array.getElem?_eq_some_iff.1 HXR.out).1 HGX.out.1 HGX.out.2.1).trans HXR.out)
              have K5 := Lib.hid k5
              clear h5 k5
              have c2 := cell_part HX5.out 2 (.int .i64 t.n) (rfl)
              go_wp2_with fail
              obtain ⟨P, hP⟩ : ∃ P : List Nat, P = Cm.be t.n.toNat 3 := ⟨_, rfl⟩
              refine (show Calls Try.prog _ _ w5 (RefPost w5 P) from by rw [hP]; exact refcount_int t.n (by omega) T3.out.n.2 w5).mono ?_
              rintro e w6 hp
              obtain ⟨q6, c6, rfl, h6, k6⟩ := hp
              have hPl : 0 < P.length ∧ P.length < 4000 := by rw [hP]; rw [Cm.be_length]; omega
              obtain ⟨y6, rfl⟩ := row_some h6 hPl.1
              have hPo : Sm.allB P := by rw [hP]; exact Cm.be_ok _ _
              have H6 := Lib.hid (H5.out.later k6)
              have T6 := Lib.hid (tx_of_owns h6 hPo)
              have HP := Lib.hid hP
              have HPL := Lib.hid hPl
              have HPO := Lib.hid hPo
              have hpl := hPl.2
              have hal := HAL.out
              clear h6 k6 hP hPl hPo
              go_wp2_with (at_builtin; refine wpList_append_own_at _ (by rfl) (.tmp 98) (.tmp 101) 25 (by rfl) w.heap.size 5 i5 (.int .u8 0) 1 1 A22 HI.out HI0.out HI1.out HI2.out (by rfl) (by decide) _ A.length _ (by rfl) H6.out.all y6 P.length c6 (vals P) (by rfl) (by rw [vals_length, Nat.mul_one]) T6.out.cells (vals_one _) (by unfold maxLen; omega) (by omega) H6.out.low.size ?_; intro v7 w7 hown7 hgrow7 _ hat7; have H7 := Lib.hid (CW.put H6.out HPO.out hown7 hgrow7 hat7); clear hown7 hgrow7 hat7)
              go_meet
              refine ⟨v5, A ++ P, true, rfl, by rw [List.length_append]; have := HPL.out.2; omega, ?_⟩
              have h7 := H7.out
              rw [stOf_no _ _ _ P (by omega)] at h7
              exact h7
            · skip
              have d3 : ¬ t.n < 0 := by omega
              have d4 : ¬ (1048576 : Int) < t.n := by omega
              have d5 : decide (t.n < 0) = false := decide_eq_false d3
              have d6 : decide ((1048576 : Int) < t.n) = false := decide_eq_false d4
              have c2 := CL.out 2 _ rfl
              go_wp2_with fail
              refine (count_any _ t.n T3.out.n.1 T3.out.n.2 w.heap.size gw v _ H3.out.ws (by have := HSB.out; have := HAL.out; omega) H3.out.low.size).mono ?_
              rintro e w5 hp
              obtain ⟨rfl, v5, h5, k5⟩ := hp
              have H5 := Lib.hid (H3.out.wrote h5 k5)
              have HX5 := Lib.hid ((k5.block gx (Array.getElem?_eq_some_iff.1 HXR.out).1 HGX.out.1 HGX.out.2.1).trans HXR.out)
              have K5 := Lib.hid k5
              clear h5 k5
              have c2 := cell_part HX5.out 2 (.int .i64 t.n) (rfl)
              go_wp2_with fail
              obtain ⟨P, hP⟩ : ∃ P : List Nat, P = Cm.be t.n.toNat 3 := ⟨_, rfl⟩
              refine (show Calls Try.prog _ _ w5 (RefPost w5 P) from by rw [hP]; exact refcount_int t.n (by omega) T3.out.n.2 w5).mono ?_
              rintro e w6 hp
              obtain ⟨q6, c6, rfl, h6, k6⟩ := hp
              have hPl : 0 < P.length ∧ P.length < 4000 := by rw [hP]; rw [Cm.be_length]; omega
              obtain ⟨y6, rfl⟩ := row_some h6 hPl.1
              have hPo : Sm.allB P := by rw [hP]; exact Cm.be_ok _ _
              have H6 := Lib.hid (H5.out.later k6)
              have T6 := Lib.hid (tx_of_owns h6 hPo)
              have HP := Lib.hid hP
              have HPL := Lib.hid hPl
              have HPO := Lib.hid hPo
              have hpl := hPl.2
              have hal := HAL.out
              clear h6 k6 hP hPl hPo
              go_wp2_with (at_builtin; refine wpList_append_own_at _ (by rfl) (.tmp 98) (.tmp 101) 25 (by rfl) w.heap.size 5 i5 (.int .u8 0) 1 1 A22 HI.out HI0.out HI1.out HI2.out (by rfl) (by decide) _ A.length _ (by rfl) H6.out.all y6 P.length c6 (vals P) (by rfl) (by rw [vals_length, Nat.mul_one]) T6.out.cells (vals_one _) (by unfold maxLen; omega) (by omega) H6.out.low.size ?_; intro v7 w7 hown7 hgrow7 _ hat7; have H7 := Lib.hid (CW.put H6.out HPO.out hown7 hgrow7 hat7); clear hown7 hgrow7 hat7)
              go_meet
              refine ⟨v5, A ++ P, true, rfl, by rw [List.length_append]; have := HPL.out.2; omega, ?_⟩
              have h7 := H7.out
              rw [stOf_count _ _ _ (by omega) (by omega), ← HP.out] at h7
              exact h7
        · have q : (t.kind : Int) % 7 = 3 := by omega
          have c3 := CL.out 3 _ rfl
          go_wp2_with fail
          refine (num_any _ t.v T3.out.v.1 T3.out.v.2 w.heap.size gw v _ H3.out.ws (by have := HSB.out; have := HAL.out; omega) H3.out.low.size).mono ?_
          rintro e w5 hp
          obtain ⟨rfl, v5, h5, k5⟩ := hp
          have H5 := Lib.hid (H3.out.wrote h5 k5)
          have HX5 := Lib.hid ((k5.block gx (Array.getElem?_eq_some_iff.1 HXR.out).1 HGX.out.1 HGX.out.2.1).trans HXR.out)
          have K5 := Lib.hid k5
          clear h5 k5
          have c3 := cell_part HX5.out 3 (.int .i64 t.v) (rfl)
          go_wp2_with fail
          obtain ⟨P, hP⟩ : ∃ P : List Nat, P = Cm.num t.v := ⟨_, rfl⟩
          refine (show Calls Try.prog _ _ w5 (RefPost w5 P) from by rw [hP]; exact refnum_any t.v T3.out.v.1 T3.out.v.2 w5).mono ?_
          rintro e w6 hp
          obtain ⟨q6, c6, rfl, h6, k6⟩ := hp
          have hPl : 0 < P.length ∧ P.length < 4000 := by rw [hP]; rw [Cm.num_length]; omega
          obtain ⟨y6, rfl⟩ := row_some h6 hPl.1
          have hPo : Sm.allB P := by rw [hP]; exact Cm.num_ok _
          have H6 := Lib.hid (H5.out.later k6)
          have T6 := Lib.hid (tx_of_owns h6 hPo)
          have HP := Lib.hid hP
          have HPL := Lib.hid hPl
          have HPO := Lib.hid hPo
          have hpl := hPl.2
          have hal := HAL.out
          clear h6 k6 hP hPl hPo
          go_wp2_with (at_builtin; refine wpList_append_own_at _ (by rfl) (.tmp 109) (.tmp 112) 25 (by rfl) w.heap.size 5 i5 (.int .u8 0) 1 1 A22 HI.out HI0.out HI1.out HI2.out (by rfl) (by decide) _ A.length _ (by rfl) H6.out.all y6 P.length c6 (vals P) (by rfl) (by rw [vals_length, Nat.mul_one]) T6.out.cells (vals_one _) (by unfold maxLen; omega) (by omega) H6.out.low.size ?_; intro v7 w7 hown7 hgrow7 _ hat7; have H7 := Lib.hid (CW.put H6.out HPO.out hown7 hgrow7 hat7); clear hown7 hgrow7 hat7)
          go_meet
          refine ⟨v5, A ++ P, bd, rfl, by rw [List.length_append]; have := HPL.out.2; omega, ?_⟩
          have h7 := H7.out
          rw [stOf_put, ← HP.out] at h7
          exact h7
        · have q : (t.kind : Int) % 7 = 4 := by omega
          have c4 := CL.out 4 _ rfl
          have hbl : t.B.length ≤ 1000 := by rw [← T3.out.b.size]; omega
          go_wp2_with fail
          refine (text_any _ t.B t.bp t.bn t.bc w.heap.size gw v _ H3.out.ws T3.out.b (by have := HSB.out; have := HAL.out; omega) H3.out.low.size (fun x hx hn => HTX.out x hx hn)).mono ?_
          rintro e w5 hp
          obtain ⟨rfl, v5, h5, k5⟩ := hp
          have H5 := Lib.hid (H3.out.wrote h5 k5)
          have HX5 := Lib.hid ((k5.block gx (Array.getElem?_eq_some_iff.1 HXR.out).1 HGX.out.1 HGX.out.2.1).trans HXR.out)
          have K5 := Lib.hid k5
          clear h5 k5
          have c4 := cell_part HX5.out 4 (.slice t.bp t.bn t.bc) (rfl)
          have hT5 : Tx w5 t.bp t.bn t.bc t.B := T3.out.b.step K5.out (fun x hx hn => HTX.out x hx hn)
          have HT5 := Lib.hid hT5
          clear hT5
          go_wp2_with fail
          obtain ⟨P, hP⟩ : ∃ P : List Nat, P = Cm.be t.B.length 3 ++ t.B := ⟨_, rfl⟩
          refine (show Calls Try.prog _ _ w5 (RefPost w5 P) from by rw [hP]; exact reftext_any t.B t.bp t.bn t.bc w5 HT5.out (by omega)).mono ?_
          rintro e w6 hp
          obtain ⟨q6, c6, rfl, h6, k6⟩ := hp
          have hPl : 0 < P.length ∧ P.length < 4000 := by rw [hP]; rw [List.length_append, Cm.be_length]; omega
          obtain ⟨y6, rfl⟩ := row_some h6 hPl.1
          have hPo : Sm.allB P := by rw [hP]; exact fun x hx => (List.mem_append.1 hx).elim (Cm.be_ok _ _ x) (T3.out.b.ok x)
          have H6 := Lib.hid (H5.out.later k6)
          have T6 := Lib.hid (tx_of_owns h6 hPo)
          have HP := Lib.hid hP
          have HPL := Lib.hid hPl
          have HPO := Lib.hid hPo
          have hpl := hPl.2
          have hal := HAL.out
          clear h6 k6 hP hPl hPo
          go_wp2_with (at_builtin; refine wpList_append_own_at _ (by rfl) (.tmp 120) (.tmp 123) 25 (by rfl) w.heap.size 5 i5 (.int .u8 0) 1 1 A22 HI.out HI0.out HI1.out HI2.out (by rfl) (by decide) _ A.length _ (by rfl) H6.out.all y6 P.length c6 (vals P) (by rfl) (by rw [vals_length, Nat.mul_one]) T6.out.cells (vals_one _) (by unfold maxLen; omega) (by omega) H6.out.low.size ?_; intro v7 w7 hown7 hgrow7 _ hat7; have H7 := Lib.hid (CW.put H6.out HPO.out hown7 hgrow7 hat7); clear hown7 hgrow7 hat7)
          go_meet
          refine ⟨v5, A ++ P, bd, rfl, by rw [List.length_append]; have := HPL.out.2; omega, ?_⟩
          have h7 := H7.out
          rw [stOf_text _ _ _ hbl, ← HP.out] at h7
          exact h7
        · have q : (t.kind : Int) % 7 = 5 := by omega
          have hrg := digest_range HXR.out T3.out.dl
          have HRG := Lib.hid hrg
          clear hrg
          go_wp2_with (refine wpList_load_mid (by rfl) 30 _ (by rfl) gx 5 (by rfl) (vals t.D) _ HRG.out A25 (by rfl) (by rw [vals_length, T3.out.dl]; exact S25) ?_)
          refine (digestw_any _ t.D T3.out.dl T3.out.db w.heap.size gw v _ H3.out.ws (by have := HSB.out; have := HAL.out; omega) H3.out.low.size).mono ?_
          rintro e w5 hp
          obtain ⟨rfl, v5, h5, k5⟩ := hp
          have H5 := Lib.hid (H3.out.wrote h5 k5)
          have HX5 := Lib.hid ((k5.block gx (Array.getElem?_eq_some_iff.1 HXR.out).1 HGX.out.1 HGX.out.2.1).trans HXR.out)
          have K5 := Lib.hid k5
          clear h5 k5
          have hsl := fun w' => arr_slice5 gx w'
          have HT5 := Lib.hid (digest_tx HX5.out T3.out.dl T3.out.db)
          have hal := HAL.out
          go_wp2_with (at_builtin; refine wpList_append_own_at _ (by rfl) (.tmp 131) (.tmp 133) 25 (by rfl) w.heap.size 5 i5 (.int .u8 0) 1 1 A22 HI.out HI0.out HI1.out HI2.out (by rfl) (by decide) _ A.length _ (by rfl) H5.out.all ⟨gx, 5, none⟩ 32 32 (vals t.D) (by rfl) (by rw [vals_length, Nat.mul_one]; exact T3.out.dl) HT5.out.cells (vals_one _) (by unfold maxLen; omega) (by omega) H5.out.low.size ?_; intro v7 w7 hown7 hgrow7 _ hat7; have H7 := Lib.hid (CW.put H5.out T3.out.db (by rw [T3.out.dl]; exact hown7) hgrow7 hat7); clear hown7 hgrow7 hat7)
          go_meet
          refine ⟨v5, A ++ t.D, bd, rfl, by rw [List.length_append]; have := T3.out.dl; omega, ?_⟩
          have h7 := H7.out
          rw [stOf_put] at h7
          exact h7
        · have q : (t.kind : Int) % 7 = 6 := by omega
          cases bd
          · by_cases h255 : 255 < t.rn
            · have d3 : (255 : Int) < t.rn := by omega
              have c37 := cell_part HXR.out 37 (.slice t.rp t.rn t.rc) (part_row T3.out.dl)
              go_wp2_with fail
              refine (roww_any _ t.R t.rp t.rn t.rc w.heap.size gw v _ H3.out.ws T3.out.r (by have := HSB.out; have := HAL.out; have := T3.out.r.size; omega) H3.out.low.size (fun x hx hn => HRB.out x hx hn)).mono ?_
              rintro e w5 hp
              obtain ⟨rfl, v5, h5, k5⟩ := hp
              have H5 := Lib.hid (H3.out.wrote h5 k5)
              have HX5 := Lib.hid ((k5.block gx (Array.getElem?_eq_some_iff.1 HXR.out).1 HGX.out.1 HGX.out.2.1).trans HXR.out)
              have K5 := Lib.hid k5
              clear h5 k5
              have c37 := cell_part HX5.out 37 (.slice t.rp t.rn t.rc) (part_row T3.out.dl)
              have hR5 : Ints w5 t.rp t.rn t.rc t.R := T3.out.r.step K5.out (fun x hx hn => HRB.out x hx hn)
              have HR5 := Lib.hid hR5
              clear hR5
              go_wp2_with fail
              obtain ⟨P, hP⟩ : ∃ P : List Nat, P = (t.R.length % 256 :: nums t.R) := ⟨_, rfl⟩
              refine (show Calls Try.prog _ _ w5 (RefPost w5 P) from by rw [hP]; exact refrow_any t.R t.rp t.rn t.rc w5 HR5.out (by omega)).mono ?_
              rintro e w6 hp
              obtain ⟨q6, c6, rfl, h6, k6⟩ := hp
              have hPl : 0 < P.length ∧ P.length < 4000 := by rw [hP]; rw [List.length_cons, nums_length, ← T3.out.r.size]; omega
              obtain ⟨y6, rfl⟩ := row_some h6 hPl.1
              have hPo : Sm.allB P := by rw [hP]; exact fun x hx => (List.mem_cons.1 hx).elim (fun e => by rw [e]; omega) (nums_ok _ x)
              have H6 := Lib.hid (H5.out.later k6)
              have T6 := Lib.hid (tx_of_owns h6 hPo)
              have HP := Lib.hid hP
              have HPL := Lib.hid hPl
              have HPO := Lib.hid hPo
              have hpl := hPl.2
              have hal := HAL.out
              clear h6 k6 hP hPl hPo
              go_wp2_with (at_builtin; refine wpList_append_own_at _ (by rfl) (.tmp 50) (.tmp 53) 25 (by rfl) w.heap.size 5 i5 (.int .u8 0) 1 1 A22 HI.out HI0.out HI1.out HI2.out (by rfl) (by decide) _ A.length _ (by rfl) H6.out.all y6 P.length c6 (vals P) (by rfl) (by rw [vals_length, Nat.mul_one]) T6.out.cells (vals_one _) (by unfold maxLen; omega) (by omega) H6.out.low.size ?_; intro v7 w7 hown7 hgrow7 _ hat7; have H7 := Lib.hid (CW.put H6.out HPO.out hown7 hgrow7 hat7); clear hown7 hgrow7 hat7)
              go_meet
              refine ⟨v5, A ++ P, true, rfl, by rw [List.length_append]; have := HPL.out.2; omega, ?_⟩
              have h7 := H7.out
              rw [stOf_row, ← HP.out, decide_eq_true (p := 255 < t.R.length) (by rw [← T3.out.r.size]; omega)] at h7
              exact h7
            · have d3 : ¬ (255 : Int) < t.rn := by omega
              have d5 : decide ((255 : Int) < t.rn) = false := decide_eq_false d3
              have c37 := cell_part HXR.out 37 (.slice t.rp t.rn t.rc) (part_row T3.out.dl)
              go_wp2_with fail
              refine (roww_any _ t.R t.rp t.rn t.rc w.heap.size gw v _ H3.out.ws T3.out.r (by have := HSB.out; have := HAL.out; have := T3.out.r.size; omega) H3.out.low.size (fun x hx hn => HRB.out x hx hn)).mono ?_
              rintro e w5 hp
              obtain ⟨rfl, v5, h5, k5⟩ := hp
              have H5 := Lib.hid (H3.out.wrote h5 k5)
              have HX5 := Lib.hid ((k5.block gx (Array.getElem?_eq_some_iff.1 HXR.out).1 HGX.out.1 HGX.out.2.1).trans HXR.out)
              have K5 := Lib.hid k5
              clear h5 k5
              have c37 := cell_part HX5.out 37 (.slice t.rp t.rn t.rc) (part_row T3.out.dl)
              have hR5 : Ints w5 t.rp t.rn t.rc t.R := T3.out.r.step K5.out (fun x hx hn => HRB.out x hx hn)
              have HR5 := Lib.hid hR5
              clear hR5
              go_wp2_with fail
              obtain ⟨P, hP⟩ : ∃ P : List Nat, P = (t.R.length % 256 :: nums t.R) := ⟨_, rfl⟩
              refine (show Calls Try.prog _ _ w5 (RefPost w5 P) from by rw [hP]; exact refrow_any t.R t.rp t.rn t.rc w5 HR5.out (by omega)).mono ?_
              rintro e w6 hp
              obtain ⟨q6, c6, rfl, h6, k6⟩ := hp
              have hPl : 0 < P.length ∧ P.length < 4000 := by rw [hP]; rw [List.length_cons, nums_length, ← T3.out.r.size]; omega
              obtain ⟨y6, rfl⟩ := row_some h6 hPl.1
              have hPo : Sm.allB P := by rw [hP]; exact fun x hx => (List.mem_cons.1 hx).elim (fun e => by rw [e]; omega) (nums_ok _ x)
              have H6 := Lib.hid (H5.out.later k6)
              have T6 := Lib.hid (tx_of_owns h6 hPo)
              have HP := Lib.hid hP
              have HPL := Lib.hid hPl
              have HPO := Lib.hid hPo
              have hpl := hPl.2
              have hal := HAL.out
              clear h6 k6 hP hPl hPo
              go_wp2_with (at_builtin; refine wpList_append_own_at _ (by rfl) (.tmp 50) (.tmp 53) 25 (by rfl) w.heap.size 5 i5 (.int .u8 0) 1 1 A22 HI.out HI0.out HI1.out HI2.out (by rfl) (by decide) _ A.length _ (by rfl) H6.out.all y6 P.length c6 (vals P) (by rfl) (by rw [vals_length, Nat.mul_one]) T6.out.cells (vals_one _) (by unfold maxLen; omega) (by omega) H6.out.low.size ?_; intro v7 w7 hown7 hgrow7 _ hat7; have H7 := Lib.hid (CW.put H6.out HPO.out hown7 hgrow7 hat7); clear hown7 hgrow7 hat7)
              go_meet
              refine ⟨v5, A ++ P, false, rfl, by rw [List.length_append]; have := HPL.out.2; omega, ?_⟩
              have h7 := H7.out
              rw [stOf_row, ← HP.out, decide_eq_false (p := 255 < t.R.length) (by rw [← T3.out.r.size]; omega)] at h7
              exact h7
          · by_cases h255 : 255 < t.rn
            · have d3 : (255 : Int) < t.rn := by omega
              have c37 := cell_part HXR.out 37 (.slice t.rp t.rn t.rc) (part_row T3.out.dl)
              go_wp2_with fail
              refine (roww_any _ t.R t.rp t.rn t.rc w.heap.size gw v _ H3.out.ws T3.out.r (by have := HSB.out; have := HAL.out; have := T3.out.r.size; omega) H3.out.low.size (fun x hx hn => HRB.out x hx hn)).mono ?_
              rintro e w5 hp
              obtain ⟨rfl, v5, h5, k5⟩ := hp
              have H5 := Lib.hid (H3.out.wrote h5 k5)
              have HX5 := Lib.hid ((k5.block gx (Array.getElem?_eq_some_iff.1 HXR.out).1 HGX.out.1 HGX.out.2.1).trans HXR.out)
              have K5 := Lib.hid k5
              clear h5 k5
              have c37 := cell_part HX5.out 37 (.slice t.rp t.rn t.rc) (part_row T3.out.dl)
              have hR5 : Ints w5 t.rp t.rn t.rc t.R := T3.out.r.step K5.out (fun x hx hn => HRB.out x hx hn)
              have HR5 := Lib.hid hR5
              clear hR5
              go_wp2_with fail
              obtain ⟨P, hP⟩ : ∃ P : List Nat, P = (t.R.length % 256 :: nums t.R) := ⟨_, rfl⟩
              refine (show Calls Try.prog _ _ w5 (RefPost w5 P) from by rw [hP]; exact refrow_any t.R t.rp t.rn t.rc w5 HR5.out (by omega)).mono ?_
              rintro e w6 hp
              obtain ⟨q6, c6, rfl, h6, k6⟩ := hp
              have hPl : 0 < P.length ∧ P.length < 4000 := by rw [hP]; rw [List.length_cons, nums_length, ← T3.out.r.size]; omega
              obtain ⟨y6, rfl⟩ := row_some h6 hPl.1
              have hPo : Sm.allB P := by rw [hP]; exact fun x hx => (List.mem_cons.1 hx).elim (fun e => by rw [e]; omega) (nums_ok _ x)
              have H6 := Lib.hid (H5.out.later k6)
              have T6 := Lib.hid (tx_of_owns h6 hPo)
              have HP := Lib.hid hP
              have HPL := Lib.hid hPl
              have HPO := Lib.hid hPo
              have hpl := hPl.2
              have hal := HAL.out
              clear h6 k6 hP hPl hPo
              go_wp2_with (at_builtin; refine wpList_append_own_at _ (by rfl) (.tmp 50) (.tmp 53) 25 (by rfl) w.heap.size 5 i5 (.int .u8 0) 1 1 A22 HI.out HI0.out HI1.out HI2.out (by rfl) (by decide) _ A.length _ (by rfl) H6.out.all y6 P.length c6 (vals P) (by rfl) (by rw [vals_length, Nat.mul_one]) T6.out.cells (vals_one _) (by unfold maxLen; omega) (by omega) H6.out.low.size ?_; intro v7 w7 hown7 hgrow7 _ hat7; have H7 := Lib.hid (CW.put H6.out HPO.out hown7 hgrow7 hat7); clear hown7 hgrow7 hat7)
              go_meet
              refine ⟨v5, A ++ P, true, rfl, by rw [List.length_append]; have := HPL.out.2; omega, ?_⟩
              have h7 := H7.out
              rw [stOf_row, ← HP.out, decide_eq_true (p := 255 < t.R.length) (by rw [← T3.out.r.size]; omega)] at h7
              exact h7
            · have d3 : ¬ (255 : Int) < t.rn := by omega
              have d5 : decide ((255 : Int) < t.rn) = false := decide_eq_false d3
              have c37 := cell_part HXR.out 37 (.slice t.rp t.rn t.rc) (part_row T3.out.dl)
              go_wp2_with fail
              refine (roww_any _ t.R t.rp t.rn t.rc w.heap.size gw v _ H3.out.ws T3.out.r (by have := HSB.out; have := HAL.out; have := T3.out.r.size; omega) H3.out.low.size (fun x hx hn => HRB.out x hx hn)).mono ?_
              rintro e w5 hp
              obtain ⟨rfl, v5, h5, k5⟩ := hp
              have H5 := Lib.hid (H3.out.wrote h5 k5)
              have HX5 := Lib.hid ((k5.block gx (Array.getElem?_eq_some_iff.1 HXR.out).1 HGX.out.1 HGX.out.2.1).trans HXR.out)
              have K5 := Lib.hid k5
              clear h5 k5
              have c37 := cell_part HX5.out 37 (.slice t.rp t.rn t.rc) (part_row T3.out.dl)
              have hR5 : Ints w5 t.rp t.rn t.rc t.R := T3.out.r.step K5.out (fun x hx hn => HRB.out x hx hn)
              have HR5 := Lib.hid hR5
              clear hR5
              go_wp2_with fail
              obtain ⟨P, hP⟩ : ∃ P : List Nat, P = (t.R.length % 256 :: nums t.R) := ⟨_, rfl⟩
              refine (show Calls Try.prog _ _ w5 (RefPost w5 P) from by rw [hP]; exact refrow_any t.R t.rp t.rn t.rc w5 HR5.out (by omega)).mono ?_
              rintro e w6 hp
              obtain ⟨q6, c6, rfl, h6, k6⟩ := hp
              have hPl : 0 < P.length ∧ P.length < 4000 := by rw [hP]; rw [List.length_cons, nums_length, ← T3.out.r.size]; omega
              obtain ⟨y6, rfl⟩ := row_some h6 hPl.1
              have hPo : Sm.allB P := by rw [hP]; exact fun x hx => (List.mem_cons.1 hx).elim (fun e => by rw [e]; omega) (nums_ok _ x)
              have H6 := Lib.hid (H5.out.later k6)
              have T6 := Lib.hid (tx_of_owns h6 hPo)
              have HP := Lib.hid hP
              have HPL := Lib.hid hPl
              have HPO := Lib.hid hPo
              have hpl := hPl.2
              have hal := HAL.out
              clear h6 k6 hP hPl hPo
              go_wp2_with (at_builtin; refine wpList_append_own_at _ (by rfl) (.tmp 50) (.tmp 53) 25 (by rfl) w.heap.size 5 i5 (.int .u8 0) 1 1 A22 HI.out HI0.out HI1.out HI2.out (by rfl) (by decide) _ A.length _ (by rfl) H6.out.all y6 P.length c6 (vals P) (by rfl) (by rw [vals_length, Nat.mul_one]) T6.out.cells (vals_one _) (by unfold maxLen; omega) (by omega) H6.out.low.size ?_; intro v7 w7 hown7 hgrow7 _ hat7; have H7 := Lib.hid (CW.put H6.out HPO.out hown7 hgrow7 hat7); clear hown7 hgrow7 hat7)
              go_meet
              refine ⟨v5, A ++ P, true, rfl, by rw [List.length_append]; have := HPL.out.2; omega, ?_⟩
              have h7 := H7.out
              rw [stOf_row, ← HP.out, decide_eq_false (p := 255 < t.R.length) (by rw [← T3.out.r.size]; omega)] at h7
              exact h7
      case rest =>
        obtain ⟨v', A', bd', rfl, hA', hcw'⟩ := hcut
        have hal' : A'.length ≤ 250000 := by have := HAL.out; omega
        obtain ⟨q', d', rfl⟩ := slice_of_owns hcw'.all
        go_upto_region 35 with fail
        cases bd'
        · have hS0 : CW w gw (.slice q' A'.length d') v' A' (stOf false A') wc.drew := ⟨⟨hcw'.ws.row, hcw'.ws.own, hcw'.ws.ok, hcw'.ws.nil⟩, hcw'.all, hcw'.ok, hcw'.ne, hcw'.dis, ⟨hcw'.low.os, hcw'.low.tape, hcw'.low.output, hcw'.low.size, hcw'.low.block⟩, hcw'.lg⟩
          have hca : ∀ w', CW w gw (.slice q' A'.length d') v' A' (stOf false A') w' → (convert 25 9 (.slice q' A'.length d')).run Try.prog w' = .ok (.string (strOf A')) w' := fun w' h => convert_tx (tx_of_owns h.all h.ok)
          refine wp_region_held_drew (S := fun w' => CW w gw (.slice q' A'.length d') v' A' (stOf false A') w') (by kernel_rfl) hS0 (fun hHeld => ?_)
          refine wpAnyH_take (i := 0) (oi := ⟨some 135, .move (.tmp 5), _, _, _, _⟩) (v := ?_) rfl (by kernel_rfl) (by kernel_rfl) (by kernel_rfl) (fun _ _ _ h => h) (Or.inl ⟨by rfl, ?_⟩) (by assumption) ?_
          rotate_left
          · intro w' hSw
            go_simp
            try with_reducible rfl
          try simp only [Act.put, List.setIfInBounds_toArray, List.set_cons_zero, List.set_cons_succ]
          refine wpAnyH_take (i := 1) (oi := ⟨some 136, .move (.tmp 135), _, _, _, _⟩) (v := ?_) rfl (by kernel_rfl) (by kernel_rfl) (by kernel_rfl) (fun _ _ _ h => h) (Or.inl ⟨by rfl, ?_⟩) (by assumption) ?_
          rotate_left
          · intro w' hSw
            go_simp
            try with_reducible rfl
          try simp only [Act.put, List.setIfInBounds_toArray, List.set_cons_zero, List.set_cons_succ]
          refine wpAnyH_take (i := 2) (oi := ⟨some 137, .move (.tmp 3), _, _, _, _⟩) (v := undef) rfl (by kernel_rfl) (by kernel_rfl) (by kernel_rfl) (fun _ _ _ h => h) (Or.inr ⟨by rfl, rfl⟩) (by assumption) ?_
          try simp only [Act.put, List.setIfInBounds_toArray, List.set_cons_zero, List.set_cons_succ]
          refine wpAnyH_take (i := 3) (oi := ⟨some 138, .call ⟨.value (.func 20), #[.tmp 137], #[24]⟩, _, _, _, _⟩) (v := undef) rfl (by kernel_rfl) (by kernel_rfl) (by kernel_rfl) (fun _ _ _ h => h) (Or.inr ⟨by rfl, rfl⟩) (by assumption) ?_
          try simp only [Act.put, List.setIfInBounds_toArray, List.set_cons_zero, List.set_cons_succ]
          refine wpAnyH_take (i := 4) (oi := ⟨some 139, .binOp .neq 26 (.tmp 138) (.const (.int .i64 10)) 26, _, _, _, _⟩) (v := undef) rfl (by kernel_rfl) (by kernel_rfl) (by kernel_rfl) (fun _ _ _ h => h) (Or.inr ⟨by rfl, rfl⟩) (by assumption) ?_
          try simp only [Act.put, List.setIfInBounds_toArray, List.set_cons_zero, List.set_cons_succ]
          refine wpAnyH_take (i := 5) (oi := ⟨some 140, .move (.tmp 139), _, _, _, _⟩) (v := undef) rfl (by kernel_rfl) (by kernel_rfl) (by kernel_rfl) (fun _ _ _ h => h) (Or.inr ⟨by rfl, rfl⟩) (by assumption) ?_
          try simp only [Act.put, List.setIfInBounds_toArray, List.set_cons_zero, List.set_cons_succ]
          refine wpAnyH_take (i := 6) (oi := ⟨some 141, .move (.tmp 3), _, _, _, _⟩) (v := undef) rfl (by kernel_rfl) (by kernel_rfl) (by kernel_rfl) (fun _ _ _ h => h) (Or.inr ⟨by rfl, rfl⟩) (by assumption) ?_
          try simp only [Act.put, List.setIfInBounds_toArray, List.set_cons_zero, List.set_cons_succ]
          refine wpAnyH_take (i := 7) (oi := ⟨some 142, .call ⟨.value (.func 21), #[.tmp 141], #[24]⟩, _, _, _, _⟩) (v := undef) rfl (by kernel_rfl) (by kernel_rfl) (by kernel_rfl) (fun _ _ _ h => h) (Or.inr ⟨by rfl, rfl⟩) (by assumption) ?_
          try simp only [Act.put, List.setIfInBounds_toArray, List.set_cons_zero, List.set_cons_succ]
          refine wpAnyH_take (i := 8) (oi := ⟨some 143, .call ⟨.builtin .len, #[.tmp 142], #[25]⟩, _, _, _, _⟩) (v := undef) rfl (by kernel_rfl) (by kernel_rfl) (by kernel_rfl) (fun _ _ _ h => h) (Or.inr ⟨by rfl, rfl⟩) (by assumption) ?_
          try simp only [Act.put, List.setIfInBounds_toArray, List.set_cons_zero, List.set_cons_succ]
          refine wpAnyH_take (i := 9) (oi := ⟨some 144, .binOp .gtr 3 (.tmp 143) (.const (.int .i64 0)) 3, _, _, _, _⟩) (v := undef) rfl (by kernel_rfl) (by kernel_rfl) (by kernel_rfl) (fun _ _ _ h => h) (Or.inr ⟨by rfl, rfl⟩) (by assumption) ?_
          try simp only [Act.put, List.setIfInBounds_toArray, List.set_cons_zero, List.set_cons_succ]
          refine wpAnyH_take (i := 10) (oi := ⟨some 145, .pick (.tmp 140) (.const (.bool true)) (.tmp 144), _, _, _, _⟩) (v := undef) rfl (by kernel_rfl) (by kernel_rfl) (by kernel_rfl) (fun _ _ _ h => h) (Or.inr ⟨by rfl, rfl⟩) (by assumption) ?_
          try simp only [Act.put, List.setIfInBounds_toArray, List.set_cons_zero, List.set_cons_succ]
          refine wpAnyH_take (i := 11) (oi := ⟨some 146, .pick (.tmp 136) (.tmp 145) (.const (.bool false)), _, _, _, _⟩) (v := ?_) rfl (by kernel_rfl) (by kernel_rfl) (by kernel_rfl) (fun _ _ _ h => h) (Or.inl ⟨by rfl, ?_⟩) (by assumption) ?_
          rotate_left
          · intro w' hSw
            go_simp
            try with_reducible rfl
          try simp only [Act.put, List.setIfInBounds_toArray, List.set_cons_zero, List.set_cons_succ]
          refine wpAnyH_take (i := 12) (oi := ⟨some 147, .move (.tmp 146), _, _, _, _⟩) (v := ?_) rfl (by kernel_rfl) (by kernel_rfl) (by kernel_rfl) (fun _ _ _ h => h) (Or.inl ⟨by rfl, ?_⟩) (by assumption) ?_
          rotate_left
          · intro w' hSw
            go_simp
            try with_reducible rfl
          try simp only [Act.put, List.setIfInBounds_toArray, List.set_cons_zero, List.set_cons_succ]
          refine wpAnyH_take (i := 13) (oi := ⟨some 148, .move (.tmp 5), _, _, _, _⟩) (v := ?_) rfl (by kernel_rfl) (by kernel_rfl) (by kernel_rfl) (fun _ _ _ h => h) (Or.inl ⟨by rfl, ?_⟩) (by assumption) ?_
          rotate_left
          · intro w' hSw
            go_simp
            try with_reducible rfl
          try simp only [Act.put, List.setIfInBounds_toArray, List.set_cons_zero, List.set_cons_succ]
          refine wpAnyH_take (i := 14) (oi := ⟨some 149, .unOp .not 4 (.tmp 148), _, _, _, _⟩) (v := ?_) rfl (by kernel_rfl) (by kernel_rfl) (by kernel_rfl) (fun _ _ _ h => h) (Or.inl ⟨by rfl, ?_⟩) (by assumption) ?_
          rotate_left
          · intro w' hSw
            go_simp
            try with_reducible rfl
          try simp only [Act.put, List.setIfInBounds_toArray, List.set_cons_zero, List.set_cons_succ]
          refine wpAnyH_take (i := 15) (oi := ⟨some 150, .move (.tmp 149), _, _, _, _⟩) (v := ?_) rfl (by kernel_rfl) (by kernel_rfl) (by kernel_rfl) (fun _ _ _ h => h) (Or.inl ⟨by rfl, ?_⟩) (by assumption) ?_
          rotate_left
          · intro w' hSw
            go_simp
            try with_reducible rfl
          try simp only [Act.put, List.setIfInBounds_toArray, List.set_cons_zero, List.set_cons_succ]
          refine wpAnyH_take (i := 16) (oi := ⟨some 151, .move (.tmp 3), _, _, _, _⟩) (v := ?_) rfl (by kernel_rfl) (by kernel_rfl) (by kernel_rfl) (fun _ _ _ h => h) (Or.inl ⟨by rfl, ?_⟩) (by assumption) ?_
          rotate_left
          · intro w' hSw
            go_simp
            try with_reducible rfl
          try simp only [Act.put, List.setIfInBounds_toArray, List.set_cons_zero, List.set_cons_succ]
          refine wpAnyH_ready (rs := [17]) (by kernel_rfl) (by simp) ?_
          refine AllReadyH.cons (o := ⟨some 152, .call ⟨.value (.func 20), #[.tmp 151], #[24]⟩, _, _, _, _⟩) rfl (fun K hK => ?_) AllReadyH.nil
          go_simp
          refine (werr_any _ w.heap.size gw v' _ hHeld.ws).mono ?_
          rintro _ _ ⟨rfl, rfl⟩
          try go_wp2_with fail
          refine hK.out _ _ hHeld (fun hHeld => ?_)
          clear hK K
          try simp only [Act.put, List.setIfInBounds_toArray, List.set_cons_zero, List.set_cons_succ]
          refine wpAnyH_take (i := 18) (oi := ⟨some 153, .binOp .neq 26 (.tmp 152) (.const (.int .i64 0)) 26, _, _, _, _⟩) (v := ?_) rfl (by kernel_rfl) (by kernel_rfl) (by kernel_rfl) (fun _ _ _ h => h) (Or.inl ⟨by rfl, ?_⟩) (by assumption) ?_
          rotate_left
          · intro w' hSw
            go_simp
            try with_reducible rfl
          try simp only [Act.put, List.setIfInBounds_toArray, List.set_cons_zero, List.set_cons_succ]
          refine wpAnyH_take (i := 19) (oi := ⟨some 154, .move (.tmp 153), _, _, _, _⟩) (v := ?_) rfl (by kernel_rfl) (by kernel_rfl) (by kernel_rfl) (fun _ _ _ h => h) (Or.inl ⟨by rfl, ?_⟩) (by assumption) ?_
          rotate_left
          · intro w' hSw
            go_simp
            try with_reducible rfl
          try simp only [Act.put, List.setIfInBounds_toArray, List.set_cons_zero, List.set_cons_succ]
          refine wpAnyH_take (i := 20) (oi := ⟨some 155, .move (.tmp 3), _, _, _, _⟩) (v := ?_) rfl (by kernel_rfl) (by kernel_rfl) (by kernel_rfl) (fun _ _ _ h => h) (Or.inl ⟨by rfl, ?_⟩) (by assumption) ?_
          rotate_left
          · intro w' hSw
            go_simp
            try with_reducible rfl
          try simp only [Act.put, List.setIfInBounds_toArray, List.set_cons_zero, List.set_cons_succ]
          refine wpAnyH_take (i := 23) (oi := ⟨some 158, .move (.tmp 4), _, _, _, _⟩) (v := ?_) rfl (by kernel_rfl) (by kernel_rfl) (by kernel_rfl) (fun _ _ _ h => h) (Or.inl ⟨by rfl, ?_⟩) (by assumption) ?_
          rotate_left
          · intro w' hSw
            go_simp
            try with_reducible rfl
          try simp only [Act.put, List.setIfInBounds_toArray, List.set_cons_zero, List.set_cons_succ]
          refine wpAnyH_take (i := 24) (oi := ⟨some 159, .convert 25 9 (.tmp 158), _, _, _, _⟩) (v := ?_) rfl (by kernel_rfl) (by kernel_rfl) (by kernel_rfl) (fun _ _ _ h => h) (Or.inl ⟨by rfl, ?_⟩) (by assumption) ?_
          rotate_left
          · intro w' hSw
            go_simp
            try with_reducible rfl
          try simp only [Act.put, List.setIfInBounds_toArray, List.set_cons_zero, List.set_cons_succ]
          refine wpAnyH_ready (rs := [21]) (by kernel_rfl) (by simp) ?_
          refine AllReadyH.cons (o := ⟨some 156, .call ⟨.value (.func 21), #[.tmp 155], #[24]⟩, _, _, _, _⟩) rfl (fun K hK => ?_) AllReadyH.nil
          go_simp
          refine (show Calls Try.prog _ _ _ (ClonePost _ A') from wbytes_any (stOf false A') w.heap.size gw v' _ hHeld.ws (by show A'.length < _; omega)).mono ?_
          rintro _ w9 ⟨q9, c9, rfl, ho9, hb9⟩
          have hH9 := hHeld.later hb9
          have hx9 : Tx w9 q9 A'.length c9 A' := tx_of_owns ho9 hHeld.ok
          clear ho9 hb9
          try go_wp2_with fail
          refine hK.out _ _ hH9 (fun hHeld => ?_)
          clear hK K
          try simp only [Act.put, List.setIfInBounds_toArray, List.set_cons_zero, List.set_cons_succ]
          refine wpAnyH_mono (S' := fun w' => CW w gw (.slice q' A'.length d') v' A' (stOf false A') w' ∧ Tx w' q9 A'.length c9 A') (fun _ h => h.1) _ _ _ _ ?_
          have hHeld2 : CW w gw (.slice q' A'.length d') v' A' (stOf false A') w9 ∧ Tx w9 q9 A'.length c9 A' := ⟨hH9, hx9⟩
          have hc9 : ∀ w', Tx w' q9 A'.length c9 A' → (convert 25 9 (.slice q9 A'.length c9)).run Try.prog w' = .ok (.string (strOf A')) w' := fun w' h => convert_tx h
          refine wpAnyH_take (i := 22) (oi := ⟨some 157, .convert 25 9 (.tmp 156), _, _, _, _⟩) (v := ?_) rfl (by kernel_rfl) (by kernel_rfl) (by kernel_rfl) (fun _ _ _ h => h) (Or.inl ⟨by rfl, ?_⟩) (by assumption) ?_
          rotate_left
          · intro w' hSw
            obtain ⟨hS1, hS2⟩ := hSw
            go_simp
            try with_reducible rfl
          try simp only [Act.put, List.setIfInBounds_toArray, List.set_cons_zero, List.set_cons_succ]
          refine wpAnyH_take (i := 25) (oi := ⟨some 160, .binOp .neq 9 (.tmp 157) (.tmp 159) 9, _, _, _, _⟩) (v := ?_) rfl (by kernel_rfl) (by kernel_rfl) (by kernel_rfl) (fun _ _ _ h => h) (Or.inl ⟨by rfl, ?_⟩) (by assumption) ?_
          rotate_left
          · intro w' hSw
            obtain ⟨hS1, hS2⟩ := hSw
            go_simp
            try with_reducible rfl
          try simp only [Act.put, List.setIfInBounds_toArray, List.set_cons_zero, List.set_cons_succ]
          refine wpAnyH_take (i := 26) (oi := ⟨some 161, .pick (.tmp 154) (.const (.bool true)) (.tmp 160), _, _, _, _⟩) (v := ?_) rfl (by kernel_rfl) (by kernel_rfl) (by kernel_rfl) (fun _ _ _ h => h) (Or.inl ⟨by rfl, ?_⟩) (by assumption) ?_
          rotate_left
          · intro w' hSw
            obtain ⟨hS1, hS2⟩ := hSw
            go_simp
            try with_reducible rfl
          try simp only [Act.put, List.setIfInBounds_toArray, List.set_cons_zero, List.set_cons_succ]
          refine wpAnyH_take (i := 27) (oi := ⟨some 162, .pick (.tmp 150) (.tmp 161) (.const (.bool false)), _, _, _, _⟩) (v := ?_) rfl (by kernel_rfl) (by kernel_rfl) (by kernel_rfl) (fun _ _ _ h => h) (Or.inl ⟨by rfl, ?_⟩) (by assumption) ?_
          rotate_left
          · intro w' hSw
            obtain ⟨hS1, hS2⟩ := hSw
            go_simp
            try with_reducible rfl
          try simp only [Act.put, List.setIfInBounds_toArray, List.set_cons_zero, List.set_cons_succ]
          refine wpAnyH_take (i := 28) (oi := ⟨some 163, .pick (.tmp 147) (.const (.bool true)) (.tmp 162), _, _, _, _⟩) (v := ?_) rfl (by kernel_rfl) (by kernel_rfl) (by kernel_rfl) (fun _ _ _ h => h) (Or.inl ⟨by rfl, ?_⟩) (by assumption) ?_
          rotate_left
          · intro w' hSw
            obtain ⟨hS1, hS2⟩ := hSw
            go_simp
            try with_reducible rfl
          try simp only [Act.put, List.setIfInBounds_toArray, List.set_cons_zero, List.set_cons_succ]
          refine wpAnyH_done (by kernel_rfl) ?_ _
          go_wp2_with fail
          go_roundw
          case rel => exact ⟨k + 1, v', A', false, by omega, by omega, by go_num, rfl, by have := HA.out; omega, hH9⟩
          case measure => simp [intOf]; omega
        · have hS0 : CW w gw (.slice q' A'.length d') v' A' (stOf true A') wc.drew := ⟨⟨hcw'.ws.row, hcw'.ws.own, hcw'.ws.ok, hcw'.ws.nil⟩, hcw'.all, hcw'.ok, hcw'.ne, hcw'.dis, ⟨hcw'.low.os, hcw'.low.tape, hcw'.low.output, hcw'.low.size, hcw'.low.block⟩, hcw'.lg⟩
          refine wp_region_held_drew (S := fun w' => CW w gw (.slice q' A'.length d') v' A' (stOf true A') w') (by kernel_rfl) hS0 (fun hHeld => ?_)
          refine wpAnyH_take (i := 0) (oi := ⟨some 135, .move (.tmp 5), _, _, _, _⟩) (v := ?_) rfl (by kernel_rfl) (by kernel_rfl) (by kernel_rfl) (fun _ _ _ h => h) (Or.inl ⟨by rfl, ?_⟩) (by assumption) ?_
          rotate_left
          · intro w' hSw
            go_simp
            try with_reducible rfl
          try simp only [Act.put, List.setIfInBounds_toArray, List.set_cons_zero, List.set_cons_succ]
          refine wpAnyH_take (i := 1) (oi := ⟨some 136, .move (.tmp 135), _, _, _, _⟩) (v := ?_) rfl (by kernel_rfl) (by kernel_rfl) (by kernel_rfl) (fun _ _ _ h => h) (Or.inl ⟨by rfl, ?_⟩) (by assumption) ?_
          rotate_left
          · intro w' hSw
            go_simp
            try with_reducible rfl
          try simp only [Act.put, List.setIfInBounds_toArray, List.set_cons_zero, List.set_cons_succ]
          refine wpAnyH_take (i := 2) (oi := ⟨some 137, .move (.tmp 3), _, _, _, _⟩) (v := ?_) rfl (by kernel_rfl) (by kernel_rfl) (by kernel_rfl) (fun _ _ _ h => h) (Or.inl ⟨by rfl, ?_⟩) (by assumption) ?_
          rotate_left
          · intro w' hSw
            go_simp
            try with_reducible rfl
          try simp only [Act.put, List.setIfInBounds_toArray, List.set_cons_zero, List.set_cons_succ]
          refine wpAnyH_ready (rs := [3]) (by kernel_rfl) (by simp) ?_
          refine AllReadyH.cons (o := ⟨some 138, .call ⟨.value (.func 20), #[.tmp 137], #[24]⟩, _, _, _, _⟩) rfl (fun K hK => ?_) AllReadyH.nil
          go_simp
          refine (werr_any _ w.heap.size gw v' _ hHeld.ws).mono ?_
          rintro _ _ ⟨rfl, rfl⟩
          try go_wp2_with fail
          refine hK.out _ _ hHeld (fun hHeld => ?_)
          clear hK K
          try simp only [Act.put, List.setIfInBounds_toArray, List.set_cons_zero, List.set_cons_succ]
          refine wpAnyH_take (i := 4) (oi := ⟨some 139, .binOp .neq 26 (.tmp 138) (.const (.int .i64 10)) 26, _, _, _, _⟩) (v := ?_) rfl (by kernel_rfl) (by kernel_rfl) (by kernel_rfl) (fun _ _ _ h => h) (Or.inl ⟨by rfl, ?_⟩) (by assumption) ?_
          rotate_left
          · intro w' hSw
            go_simp
            try with_reducible rfl
          try simp only [Act.put, List.setIfInBounds_toArray, List.set_cons_zero, List.set_cons_succ]
          refine wpAnyH_take (i := 5) (oi := ⟨some 140, .move (.tmp 139), _, _, _, _⟩) (v := ?_) rfl (by kernel_rfl) (by kernel_rfl) (by kernel_rfl) (fun _ _ _ h => h) (Or.inl ⟨by rfl, ?_⟩) (by assumption) ?_
          rotate_left
          · intro w' hSw
            go_simp
            try with_reducible rfl
          try simp only [Act.put, List.setIfInBounds_toArray, List.set_cons_zero, List.set_cons_succ]
          refine wpAnyH_take (i := 6) (oi := ⟨some 141, .move (.tmp 3), _, _, _, _⟩) (v := ?_) rfl (by kernel_rfl) (by kernel_rfl) (by kernel_rfl) (fun _ _ _ h => h) (Or.inl ⟨by rfl, ?_⟩) (by assumption) ?_
          rotate_left
          · intro w' hSw
            go_simp
            try with_reducible rfl
          try simp only [Act.put, List.setIfInBounds_toArray, List.set_cons_zero, List.set_cons_succ]
          refine wpAnyH_ready (rs := [7]) (by kernel_rfl) (by simp) ?_
          refine AllReadyH.cons (o := ⟨some 142, .call ⟨.value (.func 21), #[.tmp 141], #[24]⟩, _, _, _, _⟩) rfl (fun K hK => ?_) AllReadyH.nil
          go_simp
          refine (show Calls Try.prog _ _ _ (ClonePost _ []) from wbytes_any (stOf true A') w.heap.size gw v' _ hHeld.ws (by show 0 < _; omega)).mono ?_
          rintro _ w9 ⟨q9, c9, rfl, ho9, hb9⟩
          have hH9 := hHeld.later hb9
          clear ho9 hb9
          try go_wp2_with fail
          refine hK.out _ _ hH9 (fun hHeld => ?_)
          clear hK K
          try simp only [Act.put, List.setIfInBounds_toArray, List.set_cons_zero, List.set_cons_succ]
          refine wpAnyH_take (i := 8) (oi := ⟨some 143, .call ⟨.builtin .len, #[.tmp 142], #[25]⟩, _, _, _, _⟩) (v := ?_) rfl (by kernel_rfl) (by kernel_rfl) (by kernel_rfl) (fun _ _ _ h => h) (Or.inl ⟨by rfl, ?_⟩) (by assumption) ?_
          rotate_left
          · intro w' hSw
            go_simp
            try with_reducible rfl
          try simp only [Act.put, List.setIfInBounds_toArray, List.set_cons_zero, List.set_cons_succ]
          refine wpAnyH_take (i := 9) (oi := ⟨some 144, .binOp .gtr 3 (.tmp 143) (.const (.int .i64 0)) 3, _, _, _, _⟩) (v := ?_) rfl (by kernel_rfl) (by kernel_rfl) (by kernel_rfl) (fun _ _ _ h => h) (Or.inl ⟨by rfl, ?_⟩) (by assumption) ?_
          rotate_left
          · intro w' hSw
            go_simp
            try with_reducible rfl
          try simp only [Act.put, List.setIfInBounds_toArray, List.set_cons_zero, List.set_cons_succ]
          refine wpAnyH_take (i := 10) (oi := ⟨some 145, .pick (.tmp 140) (.const (.bool true)) (.tmp 144), _, _, _, _⟩) (v := ?_) rfl (by kernel_rfl) (by kernel_rfl) (by kernel_rfl) (fun _ _ _ h => h) (Or.inl ⟨by rfl, ?_⟩) (by assumption) ?_
          rotate_left
          · intro w' hSw
            go_simp
            try with_reducible rfl
          try simp only [Act.put, List.setIfInBounds_toArray, List.set_cons_zero, List.set_cons_succ]
          refine wpAnyH_take (i := 11) (oi := ⟨some 146, .pick (.tmp 136) (.tmp 145) (.const (.bool false)), _, _, _, _⟩) (v := ?_) rfl (by kernel_rfl) (by kernel_rfl) (by kernel_rfl) (fun _ _ _ h => h) (Or.inl ⟨by rfl, ?_⟩) (by assumption) ?_
          rotate_left
          · intro w' hSw
            go_simp
            try with_reducible rfl
          try simp only [Act.put, List.setIfInBounds_toArray, List.set_cons_zero, List.set_cons_succ]
          refine wpAnyH_take (i := 12) (oi := ⟨some 147, .move (.tmp 146), _, _, _, _⟩) (v := ?_) rfl (by kernel_rfl) (by kernel_rfl) (by kernel_rfl) (fun _ _ _ h => h) (Or.inl ⟨by rfl, ?_⟩) (by assumption) ?_
          rotate_left
          · intro w' hSw
            go_simp
            try with_reducible rfl
          try simp only [Act.put, List.setIfInBounds_toArray, List.set_cons_zero, List.set_cons_succ]
          refine wpAnyH_take (i := 13) (oi := ⟨some 148, .move (.tmp 5), _, _, _, _⟩) (v := ?_) rfl (by kernel_rfl) (by kernel_rfl) (by kernel_rfl) (fun _ _ _ h => h) (Or.inl ⟨by rfl, ?_⟩) (by assumption) ?_
          rotate_left
          · intro w' hSw
            go_simp
            try with_reducible rfl
          try simp only [Act.put, List.setIfInBounds_toArray, List.set_cons_zero, List.set_cons_succ]
          refine wpAnyH_take (i := 14) (oi := ⟨some 149, .unOp .not 4 (.tmp 148), _, _, _, _⟩) (v := ?_) rfl (by kernel_rfl) (by kernel_rfl) (by kernel_rfl) (fun _ _ _ h => h) (Or.inl ⟨by rfl, ?_⟩) (by assumption) ?_
          rotate_left
          · intro w' hSw
            go_simp
            try with_reducible rfl
          try simp only [Act.put, List.setIfInBounds_toArray, List.set_cons_zero, List.set_cons_succ]
          refine wpAnyH_take (i := 15) (oi := ⟨some 150, .move (.tmp 149), _, _, _, _⟩) (v := ?_) rfl (by kernel_rfl) (by kernel_rfl) (by kernel_rfl) (fun _ _ _ h => h) (Or.inl ⟨by rfl, ?_⟩) (by assumption) ?_
          rotate_left
          · intro w' hSw
            go_simp
            try with_reducible rfl
          try simp only [Act.put, List.setIfInBounds_toArray, List.set_cons_zero, List.set_cons_succ]
          refine wpAnyH_take (i := 16) (oi := ⟨some 151, .move (.tmp 3), _, _, _, _⟩) (v := undef) rfl (by kernel_rfl) (by kernel_rfl) (by kernel_rfl) (fun _ _ _ h => h) (Or.inr ⟨by rfl, rfl⟩) (by assumption) ?_
          try simp only [Act.put, List.setIfInBounds_toArray, List.set_cons_zero, List.set_cons_succ]
          refine wpAnyH_take (i := 17) (oi := ⟨some 152, .call ⟨.value (.func 20), #[.tmp 151], #[24]⟩, _, _, _, _⟩) (v := undef) rfl (by kernel_rfl) (by kernel_rfl) (by kernel_rfl) (fun _ _ _ h => h) (Or.inr ⟨by rfl, rfl⟩) (by assumption) ?_
          try simp only [Act.put, List.setIfInBounds_toArray, List.set_cons_zero, List.set_cons_succ]
          refine wpAnyH_take (i := 18) (oi := ⟨some 153, .binOp .neq 26 (.tmp 152) (.const (.int .i64 0)) 26, _, _, _, _⟩) (v := undef) rfl (by kernel_rfl) (by kernel_rfl) (by kernel_rfl) (fun _ _ _ h => h) (Or.inr ⟨by rfl, rfl⟩) (by assumption) ?_
          try simp only [Act.put, List.setIfInBounds_toArray, List.set_cons_zero, List.set_cons_succ]
          refine wpAnyH_take (i := 19) (oi := ⟨some 154, .move (.tmp 153), _, _, _, _⟩) (v := undef) rfl (by kernel_rfl) (by kernel_rfl) (by kernel_rfl) (fun _ _ _ h => h) (Or.inr ⟨by rfl, rfl⟩) (by assumption) ?_
          try simp only [Act.put, List.setIfInBounds_toArray, List.set_cons_zero, List.set_cons_succ]
          refine wpAnyH_take (i := 20) (oi := ⟨some 155, .move (.tmp 3), _, _, _, _⟩) (v := undef) rfl (by kernel_rfl) (by kernel_rfl) (by kernel_rfl) (fun _ _ _ h => h) (Or.inr ⟨by rfl, rfl⟩) (by assumption) ?_
          try simp only [Act.put, List.setIfInBounds_toArray, List.set_cons_zero, List.set_cons_succ]
          refine wpAnyH_take (i := 21) (oi := ⟨some 156, .call ⟨.value (.func 21), #[.tmp 155], #[24]⟩, _, _, _, _⟩) (v := undef) rfl (by kernel_rfl) (by kernel_rfl) (by kernel_rfl) (fun _ _ _ h => h) (Or.inr ⟨by rfl, rfl⟩) (by assumption) ?_
          try simp only [Act.put, List.setIfInBounds_toArray, List.set_cons_zero, List.set_cons_succ]
          refine wpAnyH_take (i := 22) (oi := ⟨some 157, .convert 25 9 (.tmp 156), _, _, _, _⟩) (v := undef) rfl (by kernel_rfl) (by kernel_rfl) (by kernel_rfl) (fun _ _ _ h => h) (Or.inr ⟨by rfl, rfl⟩) (by assumption) ?_
          try simp only [Act.put, List.setIfInBounds_toArray, List.set_cons_zero, List.set_cons_succ]
          refine wpAnyH_take (i := 23) (oi := ⟨some 158, .move (.tmp 4), _, _, _, _⟩) (v := undef) rfl (by kernel_rfl) (by kernel_rfl) (by kernel_rfl) (fun _ _ _ h => h) (Or.inr ⟨by rfl, rfl⟩) (by assumption) ?_
          try simp only [Act.put, List.setIfInBounds_toArray, List.set_cons_zero, List.set_cons_succ]
          refine wpAnyH_take (i := 24) (oi := ⟨some 159, .convert 25 9 (.tmp 158), _, _, _, _⟩) (v := undef) rfl (by kernel_rfl) (by kernel_rfl) (by kernel_rfl) (fun _ _ _ h => h) (Or.inr ⟨by rfl, rfl⟩) (by assumption) ?_
          try simp only [Act.put, List.setIfInBounds_toArray, List.set_cons_zero, List.set_cons_succ]
          refine wpAnyH_take (i := 25) (oi := ⟨some 160, .binOp .neq 9 (.tmp 157) (.tmp 159) 9, _, _, _, _⟩) (v := undef) rfl (by kernel_rfl) (by kernel_rfl) (by kernel_rfl) (fun _ _ _ h => h) (Or.inr ⟨by rfl, rfl⟩) (by assumption) ?_
          try simp only [Act.put, List.setIfInBounds_toArray, List.set_cons_zero, List.set_cons_succ]
          refine wpAnyH_take (i := 26) (oi := ⟨some 161, .pick (.tmp 154) (.const (.bool true)) (.tmp 160), _, _, _, _⟩) (v := undef) rfl (by kernel_rfl) (by kernel_rfl) (by kernel_rfl) (fun _ _ _ h => h) (Or.inr ⟨by rfl, rfl⟩) (by assumption) ?_
          try simp only [Act.put, List.setIfInBounds_toArray, List.set_cons_zero, List.set_cons_succ]
          refine wpAnyH_take (i := 27) (oi := ⟨some 162, .pick (.tmp 150) (.tmp 161) (.const (.bool false)), _, _, _, _⟩) (v := ?_) rfl (by kernel_rfl) (by kernel_rfl) (by kernel_rfl) (fun _ _ _ h => h) (Or.inl ⟨by rfl, ?_⟩) (by assumption) ?_
          rotate_left
          · intro w' hSw
            go_simp
            try with_reducible rfl
          try simp only [Act.put, List.setIfInBounds_toArray, List.set_cons_zero, List.set_cons_succ]
          refine wpAnyH_take (i := 28) (oi := ⟨some 163, .pick (.tmp 147) (.const (.bool true)) (.tmp 162), _, _, _, _⟩) (v := ?_) rfl (by kernel_rfl) (by kernel_rfl) (by kernel_rfl) (fun _ _ _ h => h) (Or.inl ⟨by rfl, ?_⟩) (by assumption) ?_
          rotate_left
          · intro w' hSw
            go_simp
            try with_reducible rfl
          try simp only [Act.put, List.setIfInBounds_toArray, List.set_cons_zero, List.set_cons_succ]
          refine wpAnyH_done (by kernel_rfl) ?_ _
          go_wp2_with fail
          go_roundw
          case rel => exact ⟨k + 1, v', A', true, by omega, by omega, by go_num, rfl, by have := HA.out; omega, hH9⟩
          case measure => simp [intOf]; omega
    · by_cases hlt2 : k < len
      · have k6 : ¬ (k : Int) < 60 := by omega
        go_wp2_with fail
        go_ret
        exact ⟨rfl, HCW.out.low⟩
      · obtain rfl : k = len := by omega
        go_wp2_with fail
        go_ret
        exact ⟨rfl, HCW.out.low⟩
end Go.Proofs.Ytbjidmocibjbnaa
