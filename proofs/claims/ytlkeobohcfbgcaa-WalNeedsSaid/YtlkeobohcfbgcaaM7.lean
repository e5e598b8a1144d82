/- WpComing, WpPut, WpSmall, WpAppend, WpMark, DkLandAll, DkLandDead, WpOpen, WpRecords, WpApi, DkLandNew, WlAlive, GenTxRow, WlStepArg, WlGreat. -/
import Derived.Test.YtlkeobohcfbgcaaM6
import Derived.Deep.RegionHeld3
import Derived.Deep.RegionLaw
import Derived.Deep.AppendLies
import Derived.StillTailTactics
import Derived.Laws.OwnMore
import Derived.Lib.SlBytesConst
import Derived.OpenShut
import Derived.Deep.Slices
/- Package wal, as it landed: the record that comes. -/
namespace Go.Proofs.Ytlkeobohcfbgcaa.Wl
open Go.RowKit

theorem rec_built (k : Nat) (q : Option Addr) (m c : Nat) : ∀ (D : List Nat), D.length = 32 → Try.prog.built 65 [(0, .int .i64 (k : Int)), (1, .slice q m c), (2, .agg (u8s D))] = some (recA k q m c D)
  | [a0, a1, a2, a3, a4, a5, a6, a7, a8, a9, a10, a11, a12, a13, a14, a15, a16, a17, a18, a19, a20, a21, a22, a23, a24, a25, a26, a27, a28, a29, a30, a31], _ => by kernel_rfl
def rz : Array Value := recA 0 none 0 0 (zeros 32)
theorem Z65 : (Try.prog.info? 65).map (fun i => (i.zero, i.size)) = some (some (.agg rz), 34) := by kernel_rfl
theorem rz_size : rz.size = 34 := recA_size _ _ _ _ _ rfl
theorem log_slice (gl : Nat) (w : World) : (Instr.sliceAt 44 (.pointer (some ⟨gl, 2, none⟩)) none none none).run Try.prog w = .ok (.slice (some ⟨gl, 2, none⟩) 32 32) w := by
  have hl : Try.prog.arrayLen 44 = 32 := by simp [Program.arrayLen]
  have he : Try.prog.elem 44 = 5 := by simp [Program.elem]
  have h1 := run_sliceAt_array_all (P := Try.prog) w 44 ⟨gl, 2, none⟩ (by rw [hl, he]; exact A25)
  obtain ⟨i5, hi, _, hi1, _⟩ := info_parts I5
  have hs : (sizeOf 5).run Try.prog w = .ok 1 w := by simp [sizeOf, typeInfo, hi, hi1]
  rw [h1, hl, he, hs]
  simp [slicedAt, Addr.add]
theorem put_at0 (B P : List Nat) : (⟨B, 0⟩ : _root_.Go.Proofs.Ytlkeobohcfbgcaa.St).put P = ⟨B ++ P, 0⟩ := by unfold St.put; rw [if_pos rfl]
theorem op_build {P : Program} {ρ : Operand → Value} {o : Oper} {t : TypeId} {parts : Array (Nat × Operand)} {cells : Array Value} (ho : o.op = .build t parts) (h : P.built t (parts.map fun (i, x) => (i, ρ x)).toList = some cells) (w : World) : (execOp ρ o).run P w = .ok (.value (.agg cells)) w := by
  unfold execOp
  simp only [ho, Sem.run_bind, run_build w t _ cells h, Result.andThen_ok, Sem.run_pure]
/-- A record stands where a function tells one. -/
theorem ret_rec {fn : Func} {P : Ending → World → Prop} (p : Tmp) (hr : fn.results = #[.cell p 65]) {tmps : Array Value} {w : World} (g : Nat) (cs : Array Value) (hp : tmps.getD p undef = .pointer (some ⟨g, 0, none⟩)) (hg : w.heap[g]? = some (.cells cs 65 (0, 0))) (hs : cs.size = 34) (h : P (.returned (.agg cs)) w) : bodyPost Try.prog fn P .ret ⟨tmps, []⟩ w := by
  have hd : (match Try.prog.underlying 65 with | some (.struct _) => true | _ => false) = true := by kernel_rfl
  obtain ⟨fs, hu⟩ : ∃ fs, Try.prog.underlying 65 = some (.struct fs) := by
    generalize Try.prog.underlying 65 = x at hd
    cases x with
    | none => cases hd
    | some d => cases d <;> first | exact ⟨_, rfl⟩ | cases hd
  exact bodyPost_ret (a := ⟨tmps, []⟩) (v := .agg cs) (results_cell_row hr tmps w g _ cs (0, 0) (.struct fs) hp hg hu rfl (by rw [hs]; exact S34)) rfl h
theorem three_texts {w : World} {g : Nat} {q1 q2 q3 : Option Addr} {n1 c1 n2 c2 n3 c3 : Nat} {A B C : List Nat} (h : w.heap[g]? = some (.cells #[.slice q1 n1 c1, .slice q2 n2 c2, .slice q3 n3 c3] 36 (0, 0))) (h1 : Tx w q1 n1 c1 A) (h2 : Tx w q2 n2 c2 B) (h3 : Tx w q3 n3 c3 C) : Texts w (some ⟨g, 0, none⟩) 3 3 [A, B, C] :=
  ⟨rfl, Nat.le_refl _, fun _ => ⟨g, 0, rfl, fun i hi => by
    have h0 := fun j => cell_of_row w g j _ _ _ h
    match i, hi with
    | 0, _ => exact ⟨q1, n1, c1, h0 0, h1⟩
    | 1, _ => exact ⟨q2, n2, c2, h0 1, h2⟩
    | 2, _ => exact ⟨q3, n3, c3, h0 2, h3⟩⟩⟩
set_option maxRecDepth 100000 in
set_option maxHeartbeats 2500000 in
theorem coming_any {w : World} {gl gd : Nat} {v : Value} {hs : List Value} {g : G} (h : LA w gl gd v hs g) (b : List Nat) (p : Option Addr) (n c : Nat) (hT : Tx w p n c b) (hn : n ≤ 100000) (hk : g.R.length < 1099511627776) :
    Calls Try.prog 32 #[.pointer (some ⟨gl, 0, none⟩), .slice p n c] w fun e w' => e = .returned (.agg (recA g.R.length p n c (rsum (last g.R g.R.length) g.R.length b))) ∧ Below w.heap.size w w' := by
  obtain ⟨qv, cv, rfl, hcv⟩ := h.form
  have b1 := (Below.refl w.heap.size w).alloc (Nat.le_refl _) (.cells rz 65)
  have b2 := b1.alloc b1.size (.cells #[.slice none 0 0, .int .i64 0] 79)
  have s1 : (w.alloc (.cells rz 65)).heap.size = w.heap.size + 1 := by simp
  have s2 : ((w.alloc (.cells rz 65)).alloc (.cells #[.slice none 0 0, .int .i64 0] 79)).heap.size = w.heap.size + 1 + 1 := by simp
  have c1 := ((h.later b1)).c1
  have r2 : ((w.alloc (.cells rz 65)).alloc (.cells #[.slice none 0 0, .int .i64 0] 79)).heap[w.heap.size]? = some (.cells rz 65 (0, 0)) := (heap_alloc_old _ (.cells #[.slice none 0 0, .int .i64 0] 79) (by rw [s1]; exact Nat.lt_succ_self _)).trans (heap_alloc_new w (.cells rz 65))
  have r3 := heap_alloc_new (w.alloc (.cells rz 65)) (.cells #[.slice none 0 0, .int .i64 0] 79)
  rw [s1] at r3
  have HW2 := Lib.hid (show WS ((w.alloc (.cells rz 65)).alloc (.cells #[.slice none 0 0, .int .i64 0] 79)) w.heap.size (w.heap.size + 1) (.slice none 0 0) ⟨[], 0⟩ from ⟨r3, World.ownsRow_nil _ _ _ _, (fun x hx => by cases hx), fun h => absurd rfl h⟩)
  have HB2 := Lib.hid b2
  have HS2 := Lib.hid s2
  have HR2 := Lib.hid r2
  have HL := Lib.hid h
  have HT := Lib.hid hT
  have hz := (zero_of_info Z65).1
  have HRS := Lib.hid (show (rsum (last g.R g.R.length) g.R.length b) = Sm.sum (pre 87 [last g.R g.R.length, Cm.num g.R.length, b]) from rfl)
  have HN := Lib.hid (rsum_length (last g.R g.R.length) g.R.length b)
  clear b1 b2 s1 s2 r2 r3 h hT
  go_enter Try.func32, Try.ntmps32
  go_wp2_with fail
  clear hz c1
  generalize hW2 : (w.alloc (.cells rz 65)).alloc (.cells #[.slice none 0 0, .int .i64 0] 79) = w2 at *
  refine (num_any ⟨[], 0⟩ g.R.length (by omega) (by omega) w.heap.size (w.heap.size + 1) (.slice none 0 0) w2 HW2.out (by simp) HB2.out.size).mono ?_
  rintro e w3 ⟨rfl, v3, k3, l3⟩
  rw [put_at0, List.nil_append] at k3
  have K3 := Lib.hid k3
  have L3 := Lib.hid l3
  have B3 := Lib.hid (HB2.out.trans (l3.below (base := w.heap.size) (by omega) (fun k e => by simp [Value.ownBlock] at e) HB2.out.size))
  have R3 := Lib.hid ((l3.block w.heap.size (by have := HS2.out; omega) (by omega) (by simp [Value.ownBlock])).trans HR2.out)
  have G3 := Lib.hid (HL.out.later B3.out)
  have T3 := Lib.hid (HT.out.later B3.out)
  clear k3 l3 HW2 HL HT HR2
  go_upto_region 4 with fail
  refine wp_region_held_drew (S := fun _ => True) (by kernel_rfl) trivial (fun hHeld => ?_)
  refine wpAnyH_take (i := 0) (oi := ⟨some 14, .move (.tmp 5), _, _, _, _⟩) (v := ?_) rfl (by kernel_rfl) (by kernel_rfl) (by kernel_rfl) (fun _ _ _ h => h) (Or.inl ⟨by rfl, ?_⟩) (by assumption) ?_
  rotate_left
  · intro w' hSw
    go_simp
    try with_reducible rfl
  try simp only [Act.put, List.setIfInBounds_toArray, List.set_cons_zero, List.set_cons_succ]
  refine wpAnyH_take (i := 1) (oi := ⟨some 15, .move (.tmp 1), _, _, _, _⟩) (v := ?_) rfl (by kernel_rfl) (by kernel_rfl) (by kernel_rfl) (fun _ _ _ h => h) (Or.inl ⟨by rfl, ?_⟩) (by assumption) ?_
  rotate_left
  · intro w' hSw
    go_simp
    try with_reducible rfl
  try simp only [Act.put, List.setIfInBounds_toArray, List.set_cons_zero, List.set_cons_succ]
  refine wpAnyH_take (i := 2) (oi := ⟨some 16, .move (.tmp 0), _, _, _, _⟩) (v := ?_) rfl (by kernel_rfl) (by kernel_rfl) (by kernel_rfl) (fun _ _ _ h => h) (Or.inl ⟨by rfl, ?_⟩) (by assumption) ?_
  rotate_left
  · intro w' hSw
    go_simp
    try with_reducible rfl
  try simp only [Act.put, List.setIfInBounds_toArray, List.set_cons_zero, List.set_cons_succ]
  refine wpAnyH_take (i := 3) (oi := ⟨some 17, .nilCheck (.tmp 16), _, _, _, _⟩) (v := ?_) rfl (by kernel_rfl) (by kernel_rfl) (by kernel_rfl) (fun _ _ _ h => h) (Or.inl ⟨by rfl, ?_⟩) (by assumption) ?_
  rotate_left
  · intro w' hSw
    go_simp
    try with_reducible rfl
  try simp only [Act.put, List.setIfInBounds_toArray, List.set_cons_zero, List.set_cons_succ]
  refine wpAnyH_take (i := 4) (oi := ⟨some 18, .fieldAddr 62 (.tmp 17) 2, _, _, _, _⟩) (v := ?_) rfl (by kernel_rfl) (by kernel_rfl) (by kernel_rfl) (fun _ _ _ h => h) (Or.inl ⟨by rfl, ?_⟩) (by assumption) ?_
  rotate_left
  · intro w' hSw
    go_simp
    try with_reducible rfl
  try simp only [Act.put, List.setIfInBounds_toArray, List.set_cons_zero, List.set_cons_succ]
  refine wpAnyH_take (i := 5) (oi := ⟨some 19, .slice 44 (.tmp 18) none none none, _, _, _, _⟩) (v := ?_) rfl (by kernel_rfl) (by kernel_rfl) (by kernel_rfl) (fun _ _ _ h => h) (Or.inl ⟨by rfl, ?_⟩) (by assumption) ?_
  rotate_left
  · intro w' hSw
    have hsl := log_slice gl w'
    go_simp
    try with_reducible rfl
  try simp only [Act.put, List.setIfInBounds_toArray, List.set_cons_zero, List.set_cons_succ]
  refine wpAnyH_take (i := 7) (oi := ⟨some 21, .move (.tmp 1), _, _, _, _⟩) (v := ?_) rfl (by kernel_rfl) (by kernel_rfl) (by kernel_rfl) (fun _ _ _ h => h) (Or.inl ⟨by rfl, ?_⟩) (by assumption) ?_
  rotate_left
  · intro w' hSw
    go_simp
    try with_reducible rfl
  try simp only [Act.put, List.setIfInBounds_toArray, List.set_cons_zero, List.set_cons_succ]
  refine wpAnyH_ready (rs := [6]) (by kernel_rfl) (by simp) ?_
  refine AllReadyH.cons (o := ⟨some 20, .call ⟨.value (.func 46), #[.tmp 6], #[79]⟩, _, _, _, _⟩) rfl (fun K hK => ?_) AllReadyH.nil
  go_simp
  refine (wbytes_any ⟨_, 0⟩ w.heap.size (w.heap.size + 1) v3 _ (K3.out.later (Below.refl _ _).drew) (by simp [Cm.num_length])).mono ?_
  rintro _ w20 ⟨q20, c20, rfl, o20, b20⟩
  have B20 := Lib.hid (show Below w3.heap.size w3 w20 from (Below.refl _ _).drew.trans b20)
  have T20 := Lib.hid (show Tx w20 q20 8 c20 (Cm.num g.R.length) from by
    have := tx_of_owns o20 (Cm.num_ok g.R.length)
    rw [show (⟨Cm.num g.R.length, 0⟩ : _root_.Go.Proofs.Ytlkeobohcfbgcaa.St).B.length = 8 from Cm.num_length _] at this
    exact this)
  rw [show (⟨Cm.num g.R.length, 0⟩ : _root_.Go.Proofs.Ytlkeobohcfbgcaa.St).B.length = 8 from Cm.num_length _]
  clear o20 b20
  try go_wp2_with fail
  refine hK.out _ _ trivial (fun hHeld => ?_)
  clear hK K
  try simp only [Act.put, List.setIfInBounds_toArray, List.set_cons_zero, List.set_cons_succ]
  refine wpAnyH_ready (rs := [8]) (by kernel_rfl) (by simp) ?_
  refine AllReadyH.cons (o := ⟨some 22, .buildSlice 35 3 #[(0, (.tmp 19)), (1, (.tmp 20)), (2, (.tmp 21))], _, _, _, _⟩) rfl (fun K hK => ?_) AllReadyH.nil
  go_simp
  have hba := (Below.refl w20.heap.size w20).alloc (Nat.le_refl _) (.cells #[.slice (some ⟨gl, 2, none⟩) 32 32, .slice q20 8 c20, .slice p n c] 36)
  have B22 := Lib.hid (B20.out.trans (hba.mono B20.out.size))
  have TX22 := Lib.hid (three_texts (heap_alloc_new w20 (.cells #[.slice (some ⟨gl, 2, none⟩) 32 32, .slice q20 8 c20, .slice p n c] 36)) (G3.out.later B22.out).sumTx (T20.out.later hba) (T3.out.later B22.out))
  clear hba B20 T20
  generalize w20.alloc (.cells #[.slice (some ⟨gl, 2, none⟩) 32 32, .slice q20 8 c20, .slice p n c] 36) = w22 at *
  generalize w20.heap.size = g22 at *
  try go_wp2_with fail
  refine hK.out _ _ trivial (fun hHeld => ?_)
  clear hK K
  try simp only [Act.put, List.setIfInBounds_toArray, List.set_cons_zero, List.set_cons_succ]
  refine wpAnyH_ready (rs := [9]) (by kernel_rfl) (by simp) ?_
  refine AllReadyH.cons (o := ⟨some 23, .call ⟨.value (.func 45), #[.const (.int .u8 87), .tmp 22], #[5, 35]⟩, _, _, _, _⟩) rfl (fun K hK => ?_) AllReadyH.nil
  go_simp
  refine (hash_any 87 (by omega) [last g.R g.R.length, Cm.num g.R.length, b] _ 3 3 w22 TX22.out (by have := T3.out.size; simp [tot, pre, part_length, last_length, Cm.num_length]; omega)).mono ?_
  rintro _ w23 ⟨rfl, b23⟩
  rw [← HRS.out]
  have B23 := Lib.hid (B22.out.trans (b23.mono B22.out.size))
  clear b23 B22 TX22
  try go_wp2_with fail
  refine hK.out _ _ trivial (fun hHeld => ?_)
  clear hK K
  try simp only [Act.put, List.setIfInBounds_toArray, List.set_cons_zero, List.set_cons_succ]
  refine wpAnyH_take (i := 10) (oi := ⟨some 24, .build 65 #[(0, (.tmp 14)), (1, (.tmp 15)), (2, (.tmp 23))], _, _, _, _⟩) (v := ?_) rfl (by kernel_rfl) (by kernel_rfl) (by kernel_rfl) (fun _ _ _ h => h) (Or.inl ⟨by rfl, ?_⟩) (by assumption) ?_
  rotate_left
  · intro w' hSw
    refine Eq.trans (b := Result.ok (Next.value (.agg (recA g.R.length p n c (rsum (last g.R g.R.length) g.R.length b)))) w') ?_ ?_
    · apply op_build (t := 65) (parts := #[(0, .tmp 14), (1, .tmp 15), (2, .tmp 23)])
      · rfl
      · simp only [List.map_toArray, List.map_cons, List.map_nil]
        exact rec_built g.R.length p n c (rsum (last g.R g.R.length) g.R.length b) HN.out
    · with_reducible rfl
  try simp only [Act.put, List.setIfInBounds_toArray, List.set_cons_zero, List.set_cons_succ]
  refine wpAnyH_ready (rs := [11]) (by kernel_rfl) (by simp) ?_
  refine AllReadyH.cons (o := ⟨none, .store 65 (.tmp 4) (.tmp 24), _, _, _, _⟩) rfl (fun K hK => ?_) AllReadyH.nil
  have hrow := (B23.out.block w.heap.size (Array.getElem?_eq_some_iff.1 R3.out).1).trans R3.out
  have HR24 := Lib.hid (setRow_heap w23 w.heap.size _ (recA g.R.length p n c (rsum (last g.R g.R.length) g.R.length b)) _ _ hrow)
  have HBW := Lib.hid (Below.setRow (B := w.heap.size) (B3.out.trans (B23.out.mono B3.out.size)) (Nat.le_refl _) (recA g.R.length p n c (rsum (last g.R g.R.length) g.R.length b)))
  have hsz := recA_size g.R.length p n c (rsum (last g.R g.R.length) g.R.length b) HN.out
  refine wp_store_row 65 (.tmp 4) (.tmp 24) rfl w.heap.size (recA g.R.length p n c (rsum (last g.R g.R.length) g.R.length b)) rfl rfl _ _ hrow (by rw [hsz]; exact S34) (by rw [hsz]; exact rz_size) (recA_one _ _ _ _ _) ?_
  clear hrow hsz
  refine hK.out _ _ trivial (fun hHeld => ?_)
  clear hK K
  try simp only [Act.put]
  refine wpAnyH_done (by kernel_rfl) ?_ _
  go_wp2_with fail
  exact ret_rec 4 (by kernel_rfl) w.heap.size _ rfl HR24.out (recA_size g.R.length p n c (rsum (last g.R g.R.length) g.R.length b) HN.out) ⟨rfl, HBW.out⟩
end Go.Proofs.Ytlkeobohcfbgcaa.Wl

/- Package wal, as it landed: a record becomes the last one. -/
namespace Go.Proofs.Ytlkeobohcfbgcaa.Wl
open Go.RowKit

theorem lrow_put {w : World} {gl gd : Nat} {v v' : Value} {D : List Nat} {u : Nat} {br : Bool} (h : w.heap[gl]? = some (.cells (lrow gd v D u br) 62 (0, 0))) : (w.setCell ⟨gl, 1, none⟩ v').heap[gl]? = some (.cells (lrow gd v' D u br) 62 (0, 0)) := by
  have := heap_setCell_same w gl 1 _ _ v' h
  rw [this]
  congr 2
theorem lrow_sum {w : World} {gl gd : Nat} {v : Value} {D D' : List Nat} {u : Nat} {br : Bool} (h : w.heap[gl]? = some (.cells (lrow gd v D u br) 62 (0, 0))) (hD : D.length = 32) (hD' : D'.length = 32) : (w.setCells gl 2 (vals D')).heap[gl]? = some (.cells (lrow gd v D' u br) 62 (0, 0)) :=
  heap_setCells_same gl _ (vals D') [.pointer (some ⟨gd, 0, none⟩), v] (vals D) [.int .i64 (u : Int), .bool br] w h (by rw [vals_length, vals_length, hD, hD'])
theorem lrow_next {w : World} {gl gd : Nat} {v : Value} {D : List Nat} {u u' : Nat} {br : Bool} (h : w.heap[gl]? = some (.cells (lrow gd v D u br) 62 (0, 0))) (hD : D.length = 32) : (w.setCell ⟨gl, 34, none⟩ (.int .i64 (u' : Int))).heap[gl]? = some (.cells (lrow gd v D u' br) 62 (0, 0)) := by
  have := heap_setCell_same w gl 34 _ _ (.int .i64 (u' : Int)) h
  rw [this]
  congr 2
  have hl : (vals D).length = 32 := by rw [vals_length, hD]
  unfold lrow
  apply Array.ext'
  simp only [List.setIfInBounds_toArray]
  rw [List.set_append_right _ _ (by simp [hl])]
  simp [hl]
theorem lrow_broken {w : World} {gl gd : Nat} {v : Value} {D : List Nat} {u : Nat} {br br' : Bool} (h : w.heap[gl]? = some (.cells (lrow gd v D u br) 62 (0, 0))) (hD : D.length = 32) : (w.setCell ⟨gl, 35, none⟩ (.bool br')).heap[gl]? = some (.cells (lrow gd v D u br') 62 (0, 0)) := by
  have := heap_setCell_same w gl 35 _ _ (.bool br') h
  rw [this]
  congr 2
  have hl : (vals D).length = 32 := by rw [vals_length, hD]
  unfold lrow
  apply Array.ext'
  simp only [List.setIfInBounds_toArray]
  rw [List.set_append_right _ _ (by simp [hl])]
  simp [hl]
/-- What owns headers owns no log's row. -/
theorem own_log {w : World} {base gl n : Nat} {v : Value} {xs : List Value} {cs : Array Value} {fr : Nat × Nat} (h : w.ownsRow base 36 1 v n xs) (hr : w.heap[gl]? = some (.cells cs 62 fr)) : v.ownBlock ≠ some gl := by
  rcases h.2 with ⟨rfl, _⟩ | ⟨g', cap, cur, rfl, _, hg', _⟩
  · simp [Value.ownBlock]
  · intro e
    obtain rfl : g' = gl := by simpa [Value.ownBlock] using e
    rw [hr] at hg'
    simp at hg'
theorem own_setCell' {w : World} {base n : Nat} {e : TypeId} {v : Value} {xs : List Value} (h : w.ownsRow base e 1 v n xs) {a : Addr} (ha : v.ownBlock ≠ some a.block) (u : Value) : (w.setCell a u).ownsRow base e 1 v n xs := owns_keep h (fun g hg => heap_setCell_other _ _ _ _ (fun e => ha (by rw [hg, e])))
theorem only_setCells' {P : Nat → Prop} (w : World) {g : Nat} (hg : P g) (o : Nat) (vs : List Value) : Dk.Only P w (w.setCells g o vs) := by
  obtain ⟨h1, h2, h3, h4⟩ := size_setCells g vs o w
  exact ⟨h2, h3, h4, Nat.le_of_eq h1.symm, fun k _ hn => heap_setCells_other g vs o w k (fun e => hn (by rw [e]; exact hg))⟩
def PutPost (w : World) (gl gd : Nat) (v : Value) (hs : List Value) (g : G) (b : List Nat) (q : Option Addr) (e : Ending) (w' : World) : Prop :=
  e = .returned (.tuple #[]) ∧ ∃ v' hs', LA w' gl gd v' hs' ⟨g.R ++ [b], g.broken⟩ ∧ (∀ k, LQ gl v' hs' k → LQ gl v hs k ∨ w.heap.size ≤ k ∨ ∃ x : Addr, q = some x ∧ b ≠ [] ∧ k = x.block) ∧ Dk.Only (LQ gl v hs) w w'
/-- The records have one more. -/
structure PutMid (w1 wx : World) (gl gd : Nat) (v : Value) (hs : List Value) (g : G) (q : Option Addr) (m c : Nat) (v' : Value) : Prop where
  row : wx.heap[gl]? = some (.cells (lrow gd v' (last g.R g.R.length) g.used g.broken) 62 (0, 0))
  own : wx.ownsRow 0 36 1 v' (g.R.length + 1) (hs ++ [.slice q m c])
  at' : ∀ k, v'.ownBlock = some k → v.ownBlock = some k ∨ w1.heap.size ≤ k
  only : Dk.Only (fun k => k = gl ∨ v.ownBlock = some k) w1 wx
set_option maxRecDepth 100000 in
set_option maxHeartbeats 2500000 in
theorem put_log {w : World} {gl gd : Nat} {v : Value} {hs : List Value} {g : G} (h : LA w gl gd v hs g) (b : List Nat) (q : Option Addr) (m c k : Nat) (hT : Tx w q m c b) (hm : m ≤ 100000) (hx : ∀ x, q = some x → b ≠ [] → ¬ LQ gl v hs x.block) (hR : g.R.length < 100000) (hu : g.used < 1000000) :
    Calls Try.prog 36 #[.pointer (some ⟨gl, 0, none⟩), .agg (recA k q m c (rsum (last g.R g.R.length) g.R.length b))] w (PutPost w gl gd v hs g b q) := by
  obtain ⟨qv, cv, rfl, hcv⟩ := h.form
  have HD := Lib.hid (rsum_length (last g.R g.R.length) g.R.length b)
  have b1 := (Below.refl w.heap.size w).alloc (Nat.le_refl _) (.cells (recA k q m c (rsum (last g.R g.R.length) g.R.length b)) 65)
  have r1 := heap_alloc_new w (.cells (recA k q m c (rsum (last g.R g.R.length) g.R.length b)) 65)
  have HL0 := Lib.hid h
  have h1 := h.later b1
  have HT1 := Lib.hid (hT.later b1)
  have HT0 := Lib.hid hT
  have HS1 := Lib.hid (show (w.alloc (.cells (recA k q m c (rsum (last g.R g.R.length) g.R.length b)) 65)).heap.size = w.heap.size + 1 from by simp)
  have HB1 := Lib.hid b1
  have HL1 := Lib.hid h1
  have HR1 := Lib.hid r1
  have c1 := h1.c1
  have f1 := h1.fz 1
  have rc1 := rec_c1 r1
  have HLT := Lib.hid h.lt
  have HX := Lib.hid hx
  have HM := Lib.hid hT.size
  obtain ⟨i6, hj1, hj2, hj3, hj4⟩ := info_parts IH
  have HJ := Lib.hid hj1
  have HJ0 := Lib.hid hj2
  have HJ1 := Lib.hid hj3
  have HJ2 := Lib.hid hj4
  clear h hT hx b1 r1 h1 hj1 hj2 hj3 hj4
  generalize hDe : rsum (last g.R g.R.length) g.R.length b = D at *
  have HDE := Lib.hid hDe
  clear hDe
  go_enter Try.func36, Try.ntmps36
  go_upto_region 1 with fail
  generalize hw1 : w.alloc (.cells (recA k q m c D) 65) = w1 at *
  go_cut [12] from 4 to 14 (fun v' wx => PutMid w1 wx gl gd (.slice qv g.R.length cv) hs g q m c v')
  case first =>
    have HOA := Lib.hid (show ∀ o, (w1.drew.alloc o).ownsRow 0 36 1 (.slice qv g.R.length cv) g.R.length hs from fun o => owns_keep HL1.out.own (fun k hk => ((Below.refl w1.heap.size w1).drew.alloc (Nat.le_refl _) o).block k (HL1.out.own.lt k hk).2))
    have HOB := Lib.hid (fun o => (Below.refl w1.heap.size w1).drew.alloc (Nat.le_refl _) o)
    have HNG := Lib.hid (own_log HL1.out.own HL1.out.row)
    have HLT1 := Lib.hid HL1.out.lt
    have c1b := (((Below.refl w1.heap.size w1).alloc (Nat.le_refl _) (.cells #[.slice q m c] 36)).cell (p := ⟨gl, 1, none⟩) HLT1.out).trans c1
    go_region_law ((refine step_append_lies _ (by rfl) (.tmp 8) (.tmp 11) 35 (by rfl) 0 36 i6 (.slice none 0 0) 1 24 UL HJ.out HJ0.out HJ1.out HJ2.out (by rfl) (by decide) _ g.R.length hs (by rfl) (HOA.out _) ⟨w1.heap.size, 0, none⟩ 1 1 [.slice q m c] (by rfl) (by rfl) (cell_one_new w1.drew _ _) (by simp [Value.oneCell']) (by decide) (by unfold maxLen; omega) (by omega) (Nat.zero_le _) (w1.heap.size + 1) (by simp) ?_; intro gv cap w2 hown2 hgrow2 hat2 hlt2; have R2 := Lib.hid (((hgrow2.block gl (Nat.lt_of_lt_of_le HLT1.out (HOB.out _).size) (fun e => HNG.out e.symm)).trans ((HOB.out _).block gl HLT1.out)).trans HL1.out.row); have c2 := (cell_of_row w2 gl 1 _ _ _ R2.out).trans (lrow_get gd _ (last_length _ _) _ _).2.1; have f2 := frozen_of_row w2 gl 1 _ _ R2.out; have HO2 := Lib.hid hown2; have HG2 := Lib.hid hgrow2; have HA2 := Lib.hid hat2; have HL2 := Lib.hid hlt2; clear hown2 hgrow2 hat2 hlt2))
    all_goals
      go_wp2_with fail
      go_meet
      refine ⟨lrow_put R2.out, ?_, ?_, ?_⟩
      · exact own_setCell' HO2.out (own_log HO2.out R2.out) _
      · intro k hk
        simp [Value.ownBlock] at hk
        subst hk
        exact HA2.out.imp id (fun e => by omega)
      · exact ((Dk.Only.of_below _ (HOB.out _)).trans ⟨HG2.out.os, HG2.out.tape, HG2.out.output, HG2.out.size, fun k hk hn => HG2.out.block k hk (fun e => hn (Or.inr e.symm))⟩).trans (Dk.Only.setCell w2 (Or.inl rfl) _)
  case rest =>
    have HC := Lib.hid hcut
    have HRC := Lib.hid ((HC.out.only.block w.heap.size (by have := HS1.out; omega) (fun e => e.elim (fun e => by have := HLT.out; omega) (fun e => by have := (HL0.out.own.lt _ e).2; omega))).trans HR1.out)
    have HSUM := Lib.hid (rec_c2 HRC.out)
    have HVD := Lib.hid (show (vals D).length = 32 from by rw [vals_length]; exact HD.out)
    have HTH := Lib.hid (show wc.there gl 2 32 from fun j hj => there_row HC.out.row 2 32 (by simp [lrow, vals_length, last_length]) j hj)
    clear hcut c1 f1 rc1
    generalize u12 = v' at *
    go_upto_region 3 with (first | (refine wpList_load_mid (by rfl) 44 _ (by rfl) w.heap.size 2 (by rfl) (vals D) _ HSUM.out A25 (by rfl) (by rw [HVD.out]; exact S25) ?_) | (refine wpList_store_mid (by rfl) 44 (.tmp 19) (.tmp 17) (by rfl) gl 2 (vals D).toArray (by rfl) (by rfl) (by rw [List.size_toArray, HVD.out]; exact HTH.out) (by rw [List.size_toArray, HVD.out]; exact S25) (all_oneCell_toArray (vals_one _)) ?_))
    obtain ⟨z, hz⟩ : ∃ z, z = need b.length := ⟨_, rfl⟩
    have HZ := Lib.hid hz
    have hz6 : z ≤ 1564 := by have := HM.out; rw [hz]; unfold need; omega
    clear hz
    have R3 := Lib.hid (lrow_sum HC.out.row (last_length _ _) HD.out)
    have O3 := Lib.hid (only_setCells' (P := fun k => k = gl) wc rfl 2 (vals D))
    have HN := Lib.hid (show ∀ w', Calls Try.prog 9 #[.int .i64 (m : Int)] w' fun e w'' => e = .returned (.int .i64 (z : Int)) ∧ w'' = w' from fun w' => (wneed_any m w' (by omega) (by omega)).mono fun e w'' hp => by
      rw [HZ.out, ← HM.out, ← needI_nat hm]
      exact ⟨hp.1, hp.2.symm⟩)
    generalize hw3 : wc.setCells gl 2 (vals D) = w3 at *
    have c34 := (cell_of_row w3 gl 34 _ _ _ R3.out).trans (lrow_get gd v' HD.out _ _).2.2.1
    have f34 := frozen_of_row w3 gl 34 _ _ R3.out
    have rc1 := rec_c1 ((O3.out.block w.heap.size (Array.getElem?_eq_some_iff.1 HRC.out).1 (fun e => by have := HLT.out; omega)).trans HRC.out)
    have q1 : IntKind.i64.wrap ((g.used : Int) + (z : Int)) = (g.used : Int) + (z : Int) := IntWalk.i64_in _ (by omega)
    go_still_tail 11, (by kernel_rfl)
    still_call (HN.out _)
    repeat still_step
    refine wpStill_nil ?_
    change wpList _ _ _ _ _ w3.drew
    have r4 := lrow_next (u' := g.used + z) (show w3.drew.heap[gl]? = _ from R3.out) HD.out
    rw [show ((g.used + z : Nat) : Int) = (g.used : Int) + (z : Int) from by omega] at r4
    have R4 := Lib.hid r4
    have O4 := Lib.hid (Dk.Only.setCell (P := fun k => k = gl) w3.drew (a := ⟨gl, 34, none⟩) rfl (.int .i64 ((g.used : Int) + (z : Int))))
    clear r4
    have c34' : w3.drew.cell? ⟨gl, 34, none⟩ = some (.int .i64 (g.used : Int)) := c34
    have f34' : w3.drew.frozen? ⟨gl, 34, none⟩ = false := f34
    generalize hw4 : w3.drew = w4 at *
    clear c34 f34 rc1 HN
    go_wp2_with fail
    go_end0
    have O := Lib.hid (show Dk.Only (fun k => k = gl ∨ (Value.slice qv g.R.length cv).ownBlock = some k) w (w4.setCell ⟨gl, 34, none⟩ (.int .i64 ((g.used : Int) + (z : Int)))) from by
      have h3 : Dk.Only (fun k => k = gl) w3 w4 := by rw [← hw4]; exact Dk.Only.of_below _ (Below.refl _ _).drew
      have h4 := (O3.out.trans h3).trans O4.out
      exact ((Dk.Only.of_below _ HB1.out).trans HC.out.only).trans (h4.mono (fun k e => Or.inl e)))
    have hvo : v'.ownBlock ≠ some gl := own_log HC.out.own HC.out.row
    have hhl : hs.length = g.R.length := by have := HL0.out.own.1; omega
    have hne : ∀ x : Addr, q = some x → b ≠ [] → x.block ≠ gl ∧ (Value.slice qv g.R.length cv).ownBlock ≠ some x.block ∧ x.block < w.heap.size := fun x hq hb => by
      refine ⟨fun e => HX.out x hq hb (Or.inl e), fun e => HX.out x hq hb (Or.inr (Or.inl e)), ?_⟩
      rcases HT0.out.at' with ⟨e, _⟩ | ⟨y, hy, hc⟩
      · rw [hq] at e; cases e
      · rw [hq] at hy
        cases hy
        have h0 := block_lt_of_cell (hc 0 _ (vals_get _ 0 (List.length_pos_iff.2 hb)))
        rwa [show (x.add 0).block = x.block from by cases x; simp [Addr.add]] at h0
    have hold : ∀ (i : Nat) (x : Addr) (m' c' : Nat), hs[i]? = some (.slice (some x) m' c') → 0 < m' → x.block ≠ gl ∧ (Value.slice qv g.R.length cv).ownBlock ≠ some x.block ∧ x.block < w.heap.size := fun i x m' c' hi hm' =>
      ⟨(HL0.out.off i x m' c' hi hm').1, (HL0.out.off i x m' c' hi hm').2, HL0.out.blk _ (Or.inr (Or.inr ⟨i, x, m', c', hi, hm', rfl⟩))⟩
    have hat : ∀ k, v'.ownBlock = some k → (Value.slice qv g.R.length cv).ownBlock = some k ∨ w.heap.size ≤ k := fun k hk => (HC.out.at' k hk).imp id (fun e => by have := HS1.out; omega)
    have hbm : 0 < m → b ≠ [] := fun h e => by have := HM.out; rw [e] at this; simp at this; omega
    have hsplit : ∀ (i : Nat) (x : Addr) (m' c' : Nat), (hs ++ [Value.slice q m c])[i]? = some (.slice (some x) m' c') → hs[i]? = some (.slice (some x) m' c') ∨ (q = some x ∧ m' = m) := fun i x m' c' hi => by
      rw [List.getElem?_append] at hi
      split at hi
      · exact Or.inl hi
      · right
        have hi0 := (List.getElem?_eq_some_iff.1 hi).1
        have hi1 : i - hs.length = 0 := by simp at hi0; omega
        rw [hi1] at hi
        simp at hi
        exact ⟨hi.1, hi.2.1.symm⟩
    refine ⟨rfl, v', hs ++ [.slice q m c], ⟨?_, ?_, ?_, ?_, ?_⟩, ?_, O.out.mono (fun k e => e.elim Or.inl (fun e => Or.inr (Or.inl e)))⟩
    · show _ = some (Obj.cells (lrow gd v' (last (g.R ++ [b]) (g.R ++ [b]).length) (G.used ⟨g.R ++ [b], false⟩) g.broken) _ _)
      rw [last_one, HDE.out, used_one, ← HZ.out]
      exact R4.out
    · have h1 : w4.ownsRow 0 36 1 v' (g.R.length + 1) (hs ++ [.slice q m c]) := by
        rw [← hw4]
        exact owns_keep HC.out.own (fun k hk => O3.out.block k (HC.out.own.lt k hk).2 (fun e => hvo (by rw [← e]; exact hk)))
      have h2 := own_setCell' h1 (a := ⟨gl, 34, none⟩) hvo (.int .i64 ((g.used : Int) + (z : Int)))
      rw [List.length_append]
      exact h2
    · intro i hi
      by_cases hir : i < g.R.length
      · obtain ⟨q', m', c', h1, h2⟩ := HL0.out.text i hir
        refine ⟨q', m', c', by rw [List.getElem?_append_left (by omega)]; exact h1, ?_⟩
        show Tx _ q' m' c' ((g.R ++ [b]).getD i [])
        rw [getD_app g.R b hir]
        refine Dk.tx_keep h2 (fun x hq hB => ?_)
        subst hq
        obtain ⟨e1, e2, e3⟩ := hold i x m' c' h1 (by have := h2.size; have := List.length_pos_iff.2 hB; omega)
        exact O.out.block x.block e3 (fun e => e.elim e1 e2)
      · have hi' : i < (g.R ++ [b]).length := hi
        obtain rfl : i = g.R.length := by simp at hi'; omega
        refine ⟨q, m, c, by rw [List.getElem?_append_right (by omega), hhl]; simp, ?_⟩
        show Tx _ q m c ((g.R ++ [b]).getD g.R.length [])
        rw [getD_end g.R b]
        refine Dk.tx_keep HT0.out (fun x hq hB => ?_)
        obtain ⟨e1, e2, e3⟩ := hne x hq hB
        exact O.out.block x.block e3 (fun e => e.elim e1 e2)
    · intro x hx
      rcases List.mem_append.1 hx with hx | hx
      · exact HL0.out.small x hx
      · simp only [List.mem_cons, List.not_mem_nil, or_false] at hx
        rw [hx, ← HM.out]
        exact hm
    · intro i x m' c' hi hm'
      rcases hsplit i x m' c' hi with h | ⟨h, rfl⟩
      · obtain ⟨e1, e2, e3⟩ := hold i x m' c' h hm'
        exact ⟨e1, fun e => (hat _ e).elim e2 (fun e => by omega)⟩
      · obtain ⟨e1, e2, e3⟩ := hne x h (hbm hm')
        exact ⟨e1, fun e => (hat _ e).elim e2 (fun e => by omega)⟩
    · intro k hk
      rcases hk with hk | hk | ⟨i, x, m', c', hi, hm', rfl⟩
      · exact Or.inl (Or.inl hk)
      · exact (hat k hk).elim (fun e => Or.inl (Or.inr (Or.inl e))) (fun e => Or.inr (Or.inl e))
      · rcases hsplit i x m' c' hi with h | ⟨h, rfl⟩
        · exact Or.inl (Or.inr (Or.inr ⟨i, x, m', c', h, hm', rfl⟩))
        · exact Or.inr (Or.inr ⟨x, h, hbm hm', rfl⟩)
end Go.Proofs.Ytlkeobohcfbgcaa.Wl

/- Package wal, as it landed: Disk, Free, Last. -/
namespace Go.Proofs.Ytlkeobohcfbgcaa.Wl
open Go.RowKit

set_option maxHeartbeats 1000000 in
theorem disk_any {w : World} {gl gd : Nat} {v : Value} {hs : List Value} {g : G} (h : LA w gl gd v hs g) :
    Calls Try.prog 14 #[.pointer (some ⟨gl, 0, none⟩)] w fun e w' => e = .returned (.pointer (some ⟨gd, 0, none⟩)) ∧ w = w' := by
  have c0 := h.c0
  clear h
  go_enter Try.func14, Try.ntmps14
  go_wp2_with fail
  go_ret
  exact ⟨rfl, rfl⟩
set_option maxRecDepth 100000 in
set_option maxHeartbeats 1000000 in
theorem last_any {w : World} {gl gd : Nat} {v : Value} {hs : List Value} {g : G} (h : LA w gl gd v hs g) :
    Calls Try.prog 20 #[.pointer (some ⟨gl, 0, none⟩)] w fun e w' => e = .returned (.agg (u8s (last g.R g.R.length))) ∧ Below w.heap.size w w' := by
  have hz := (zero_of_info Z25).1
  have hb := (Below.refl w.heap.size w).alloc (Nat.le_refl _) (.cells (u8s (zeros 32)) 44)
  have HS := Lib.hid (h.later hb).sum
  have HB := Lib.hid hb
  have HL := Lib.hid (last_length g.R g.R.length)
  have HR := Lib.hid (heap_alloc_new w (.cells (u8s (zeros 32)) 44))
  clear h hb
  generalize last g.R g.R.length = D at *
  have HVD := Lib.hid (show (vals D).length = 32 from by rw [vals_length]; exact HL.out)
  go_enter Try.func20, Try.ntmps20
  go_wp2_with (first | (refine wpList_load_mid (by rfl) 44 _ (by rfl) gl 2 (by rfl) (vals D) _ HS.out A25 (by rfl) (by rw [HVD.out]; exact S25) ?_) | (refine wpList_store_row (by rfl) 44 _ _ (by rfl) w.heap.size (u8s D) (by rfl) (by rfl) _ _ HR.out (by rw [u8s_size, HL.out]; exact S25) (by rw [u8s_size, u8s_size, HL.out]; rfl) (u8s_one _) ?_))
  exact ret_row 2 (by kernel_rfl) w.heap.size _ _ A25 S25 rfl (setRow_heap _ _ _ _ _ _ HR.out) (by rw [u8s_size]; exact HL.out) ⟨rfl, Below.setRow HB.out (Nat.le_refl _) _⟩
set_option maxRecDepth 100000 in
set_option maxHeartbeats 1000000 in
theorem free_any {w : World} {gl gd : Nat} {v : Value} {hs : List Value} {g : G} {P : Nat → Prop} {s : Dk.D} (h : LA w gl gd v hs g) (hd : Dk.PD w gd P s) (hu : g.used ≤ s.n) :
    Calls Try.prog 19 #[.pointer (some ⟨gl, 0, none⟩)] w fun e w' => e = .returned (.int .i64 (s.n - g.used : Nat)) ∧ Below w.heap.size w w' := by
  have c0 := h.c0
  have c3 := h.c34
  have hn := (Dk.PD.okay hd).small
  have HD := Lib.hid (show ∀ w', Below w.heap.size w w' → Dk.PD w' gd P s from fun w' hb => Dk.PD.keep (fun _ => False) hd (Dk.Only.of_below _ hb) (fun _ _ e => e))
  have HLT := Lib.hid h.lt
  have q1 : IntKind.i64.wrap ((s.n : Int) - (g.used : Int)) = ((s.n - g.used : Nat) : Int) := by rw [IntWalk.i64_in _ (by omega)]; omega
  have HU := Lib.hid hu
  clear h hd
  go_enter Try.func19, Try.ntmps19
  go_upto_region 1 with fail
  refine wp_region_held_drew (S := fun w' => Below w.heap.size w w') (by kernel_rfl) (Below.refl _ _).drew (fun hHeld => ?_)
  refine wpAnyH_take (i := 0) (oi := ⟨some 3, .move (.tmp 0), _, _, _, _⟩) (v := ?_) rfl (by kernel_rfl) (by kernel_rfl) (by kernel_rfl) (fun _ _ _ h => h) (Or.inl ⟨by rfl, ?_⟩) (by assumption) ?_
  rotate_left
  · intro w' hSw
    go_simp
    try with_reducible rfl
  try simp only [Act.put, List.setIfInBounds_toArray, List.set_cons_zero, List.set_cons_succ]
  refine wpAnyH_take (i := 1) (oi := ⟨some 4, .nilCheck (.tmp 3), _, _, _, _⟩) (v := ?_) rfl (by kernel_rfl) (by kernel_rfl) (by kernel_rfl) (fun _ _ _ h => h) (Or.inl ⟨by rfl, ?_⟩) (by assumption) ?_
  rotate_left
  · intro w' hSw
    go_simp
    try with_reducible rfl
  try simp only [Act.put, List.setIfInBounds_toArray, List.set_cons_zero, List.set_cons_succ]
  refine wpAnyH_take (i := 2) (oi := ⟨some 5, .fieldAddr 62 (.tmp 4) 0, _, _, _, _⟩) (v := ?_) rfl (by kernel_rfl) (by kernel_rfl) (by kernel_rfl) (fun _ _ _ h => h) (Or.inl ⟨by rfl, ?_⟩) (by assumption) ?_
  rotate_left
  · intro w' hSw
    go_simp
    try with_reducible rfl
  try simp only [Act.put, List.setIfInBounds_toArray, List.set_cons_zero, List.set_cons_succ]
  refine wpAnyH_take (i := 3) (oi := ⟨some 6, .load 27 (.tmp 5), _, _, _, _⟩) (v := ?_) rfl (by kernel_rfl) (by kernel_rfl) (by kernel_rfl) (fun _ _ _ h => h) (Or.inl ⟨by rfl, ?_⟩) (by assumption) ?_
  rotate_left
  · intro w' hSw
    have c0' := (hSw.cell (p := ⟨gl, 0, none⟩) HLT.out).trans c0
    go_simp
    try with_reducible rfl
  try simp only [Act.put, List.setIfInBounds_toArray, List.set_cons_zero, List.set_cons_succ]
  refine wpAnyH_take (i := 5) (oi := ⟨some 8, .move (.tmp 0), _, _, _, _⟩) (v := ?_) rfl (by kernel_rfl) (by kernel_rfl) (by kernel_rfl) (fun _ _ _ h => h) (Or.inl ⟨by rfl, ?_⟩) (by assumption) ?_
  rotate_left
  · intro w' hSw
    go_simp
    try with_reducible rfl
  try simp only [Act.put, List.setIfInBounds_toArray, List.set_cons_zero, List.set_cons_succ]
  refine wpAnyH_take (i := 6) (oi := ⟨some 9, .nilCheck (.tmp 8), _, _, _, _⟩) (v := ?_) rfl (by kernel_rfl) (by kernel_rfl) (by kernel_rfl) (fun _ _ _ h => h) (Or.inl ⟨by rfl, ?_⟩) (by assumption) ?_
  rotate_left
  · intro w' hSw
    go_simp
    try with_reducible rfl
  try simp only [Act.put, List.setIfInBounds_toArray, List.set_cons_zero, List.set_cons_succ]
  refine wpAnyH_take (i := 7) (oi := ⟨some 10, .fieldAddr 62 (.tmp 9) 3, _, _, _, _⟩) (v := ?_) rfl (by kernel_rfl) (by kernel_rfl) (by kernel_rfl) (fun _ _ _ h => h) (Or.inl ⟨by rfl, ?_⟩) (by assumption) ?_
  rotate_left
  · intro w' hSw
    go_simp
    try with_reducible rfl
  try simp only [Act.put, List.setIfInBounds_toArray, List.set_cons_zero, List.set_cons_succ]
  refine wpAnyH_take (i := 8) (oi := ⟨some 11, .load 3 (.tmp 10), _, _, _, _⟩) (v := ?_) rfl (by kernel_rfl) (by kernel_rfl) (by kernel_rfl) (fun _ _ _ h => h) (Or.inl ⟨by rfl, ?_⟩) (by assumption) ?_
  rotate_left
  · intro w' hSw
    have c3' := (hSw.cell (p := ⟨gl, 34, none⟩) HLT.out).trans c3
    go_simp
    try with_reducible rfl
  try simp only [Act.put, List.setIfInBounds_toArray, List.set_cons_zero, List.set_cons_succ]
  refine wpAnyH_ready (rs := [4]) (by kernel_rfl) (by simp) ?_
  refine AllReadyH.cons (o := ⟨some 7, .call ⟨.value (.func 17), #[.tmp 6], #[27]⟩, _, _, _, _⟩) rfl (fun K hK => ?_) AllReadyH.nil
  go_simp
  refine (Dk.len_any (HD.out _ hHeld)).mono ?_
  rintro _ w7 ⟨rfl, b7⟩
  have hS7 : Below w.heap.size w w7 := hHeld.trans (b7.mono hHeld.size)
  try go_wp2_with fail
  refine hK.out _ _ hS7 (fun hHeld => ?_)
  clear hK K
  try simp only [Act.put, List.setIfInBounds_toArray, List.set_cons_zero, List.set_cons_succ]
  refine wpAnyH_take (i := 9) (oi := ⟨some 12, .binOp .sub 3 (.tmp 7) (.tmp 11) 3, _, _, _, _⟩) (v := ?_) rfl (by kernel_rfl) (by kernel_rfl) (by kernel_rfl) (fun _ _ _ h => h) (Or.inl ⟨by rfl, ?_⟩) (by assumption) ?_
  rotate_left
  · intro w' hSw
    go_simp
    try with_reducible rfl
  try simp only [Act.put, List.setIfInBounds_toArray, List.set_cons_zero, List.set_cons_succ]
  refine wpAnyH_take (i := 10) (oi := ⟨some 2, .assign (.tmp 12), _, _, _, _⟩) (v := ?_) rfl (by kernel_rfl) (by kernel_rfl) (by kernel_rfl) (fun _ _ _ h => h) (Or.inl ⟨by rfl, ?_⟩) (by assumption) ?_
  rotate_left
  · intro w' hSw
    go_simp
    try with_reducible rfl
  try simp only [Act.put, List.setIfInBounds_toArray, List.set_cons_zero, List.set_cons_succ]
  refine wpAnyH_done (by kernel_rfl) ?_ _
  go_wp2_with fail
  go_ret
  exact ⟨rfl, hHeld⟩
end Go.Proofs.Ytlkeobohcfbgcaa.Wl

/- Package wal, as it landed: Append. -/
namespace Go.Proofs.Ytlkeobohcfbgcaa.Wl
open Go.RowKit

theorem LA.breaks {w : World} {gl gd : Nat} {v : Value} {hs : List Value} {g : G} (h : LA w gl gd v hs g) : LA (w.setCell ⟨gl, 35, none⟩ (.bool true)) gl gd v hs ⟨g.R, true⟩ :=
  ⟨lrow_broken h.row (last_length _ _), own_setCell' h.own (own_log h.own h.row) _, fun i hi => by
    obtain ⟨q, m, c, h1, h2⟩ := h.text i hi
    refine ⟨q, m, c, h1, Dk.tx_keep h2 (fun x hq hb => heap_setCell_other _ _ _ _ ?_)⟩
    subst hq
    have hm : 0 < m := by have e := h2.size; have := List.length_pos_iff.2 hb; rw [e]; exact this
    exact (h.off i x m c h1 hm).1, h.small, h.off⟩
theorem rec_under : ∃ fs, Try.prog.underlying 65 = some (.struct fs) := by
  have hd : (match Try.prog.underlying 65 with | some (.struct _) => true | _ => false) = true := by kernel_rfl
  generalize Try.prog.underlying 65 = x at hd
  cases x with
  | none => cases hd
  | some d => cases d <;> first | exact ⟨_, rfl⟩ | cases hd
def AppPost (w : World) (gl gd : Nat) (P Q : Nat → Prop) (n : Nat) (r : (Dk.D × G) × Nat) (e : Ending) (w' : World) : Prop :=
  e = .returned (.int .i64 (r.2 : Nat)) ∧ ∃ P' Q', Dk.PD w' gd P' r.1.1 ∧ LD w' gl Q' gd n r.1.2 ∧ (∀ k, P' k → P k ∨ w.heap.size ≤ k) ∧ (∀ k, Q' k → Q k ∨ w.heap.size ≤ k) ∧ (∀ k, P' k → ¬ Q' k) ∧ Dk.Only (fun k => P k ∨ Q k) w w'
set_option maxRecDepth 100000 in
set_option maxHeartbeats 2500000 in
theorem append_any {w : World} {gd : Nat} {P : Nat → Prop} {s : Dk.D} {gl : Nat} {Q : Nat → Prop} {g : G} (b : List Nat) (p : Option Addr) (n c : Nat) (hd : Dk.PD w gd P s) (hl : LD w gl Q gd s.n g) (hap : ∀ k, P k → ¬ Q k) (hT : Tx w p n c b) (hx : ∀ x, p = some x → b ≠ [] → ¬ P x.block ∧ ¬ Q x.block) (hn : n ≤ 100000) (hw : s.writes < 900000) (hR : g.R.length < 100000) :
    Calls Try.prog 15 #[.pointer (some ⟨gl, 0, none⟩), .slice p n c] w (AppPost w gl gd P Q s.n (g.app s b)) := by
  obtain ⟨v, hs, h, hQ, hfit⟩ := hl
  have hss := (Dk.PD.okay hd).small
  have hu := used_size g
  have hus : g.used ≤ s.n := by omega
  have hsz := hT.size
  have c35 := h.c35
  have HL := Lib.hid h
  have HD := Lib.hid hd
  have HQ := Lib.hid hQ
  have HAP := Lib.hid hap
  have HT := Lib.hid hT
  have HX := Lib.hid hx
  have HFIT := Lib.hid hfit
  have HSZ := Lib.hid hsz
  have hn1 : ¬ (n : Int) > 100000 := by omega
  clear h hd hQ hap hT hx hfit hu hsz
  cases hbr : g.broken with
  | true =>
    rw [hbr] at c35
    have HE := Lib.hid (app_broken (s := s) (b := b) hbr)
    rw [HE.out]
    clear hbr
    go_enter Try.func15, Try.ntmps15
    go_wp2_with fail
    go_ret
    exact ⟨rfl, P, Q, HD.out, ⟨v, hs, HL.out, HQ.out, HFIT.out⟩, fun k e => Or.inl e, fun k e => Or.inl e, HAP.out, Dk.Only.refl _ _⟩
  | false =>
    rw [hbr] at c35
    have HBR := Lib.hid hbr
    have HN := Lib.hid ((needI_nat hn).trans (congrArg need HSZ.out))
    obtain ⟨z, hz⟩ : ∃ z, z = need b.length := ⟨_, rfl⟩
    have HZ := Lib.hid hz
    have hz6 : z ≤ 1564 := by have := HSZ.out; rw [hz]; unfold need; omega
    clear hz hbr
    go_enter Try.func15, Try.ntmps15
    go_wp2_with fail
    refine (wneed_any n w (by omega) (by omega)).mono ?_
    rintro e w1 ⟨rfl, rfl⟩
    rw [HN.out, ← HZ.out]
    go_wp2_with fail
    refine (free_any HL.out HD.out hus).mono ?_
    rintro e w2 ⟨rfl, b2⟩
    have L2 := Lib.hid (HL.out.later b2)
    have D2 := Lib.hid (Dk.PD.keep (fun _ => False) HD.out (Dk.Only.of_below _ b2) (fun _ _ e => e))
    have B2 := Lib.hid b2
    clear b2
    by_cases hfull : s.n < g.used + z
    · have l1 : (z : Int) > ((s.n - g.used : Nat) : Int) := by omega
      have HE := Lib.hid (app_full (s := s) (b := b) HBR.out (by rw [← HZ.out]; exact hfull))
      have HP := Lib.hid (show AppPost w gl gd P Q s.n (g.app s b) (.returned (.int .i64 12)) w2 from by
        rw [HE.out]
        exact ⟨rfl, P, Q, D2.out, ⟨v, hs, L2.out, HQ.out, HFIT.out⟩, fun k e => Or.inl e, fun k e => Or.inl e, HAP.out, Dk.Only.of_below _ B2.out⟩)
      go_wp2_with fail
      go_ret
      exact HP.out
    · have l1 : ¬ (z : Int) > ((s.n - g.used : Nat) : Int) := by omega
      go_wp2_with fail
      refine (clone_any b p n c w2 (HT.out.later B2.out) (by omega)).mono ?_
      rintro e w3 ⟨q, c', rfl, o3, b3⟩
      have L3 := Lib.hid (L2.out.later b3)
      have D3 := Lib.hid (Dk.PD.keep (fun _ => False) D2.out (Dk.Only.of_below _ b3) (fun _ _ e => e))
      have B3 := Lib.hid (B2.out.trans (b3.mono B2.out.size))
      have T3 := Lib.hid (tx_of_owns o3 HT.out.ok)
      have HQL := Lib.hid (show ∀ x, q = some x → w.heap.size ≤ x.block ∧ x.block < w3.heap.size from fun x hx' => by
        have := o3.lt x.block (by rw [hx']; rfl)
        have := B2.out.size
        omega)
      have hbl : b.length ≤ 100000 := by rw [← HSZ.out]; exact hn
      clear o3 b3 L2 D2 B2
      go_wp2_with fail
      refine (coming_any L3.out b q b.length c' T3.out hbl (by omega)).mono ?_
      rintro e w4 ⟨rfl, b4⟩
      obtain ⟨rc, hrc⟩ : ∃ rc, rc = recA g.R.length q b.length c' (rsum (last g.R g.R.length) g.R.length b) := ⟨_, rfl⟩
      rw [← hrc]
      have HRC := Lib.hid hrc
      have HRS := Lib.hid (show rc.size = 34 from by rw [hrc]; exact recA_size _ _ _ _ _ (rsum_length _ _ _))
      have HRA := Lib.hid (show rc.all (·.oneCell') = true from by rw [hrc]; exact recA_one _ _ _ _ _)
      have ba := (Below.refl w4.heap.size w4).alloc (Nat.le_refl _) (.cells rc 65)
      have B5 := Lib.hid ((B3.out.trans (b4.mono B3.out.size)).trans (ba.mono (Nat.le_trans B3.out.size b4.size)))
      have b35 := b4.trans (ba.mono b4.size)
      have L5 := Lib.hid (L3.out.later b35)
      have D5 := Lib.hid (Dk.PD.keep (fun _ => False) D3.out (Dk.Only.of_below _ b35) (fun _ _ e => e))
      have T5 := Lib.hid (T3.out.later b35)
      have h35 := b35.size
      have R5 := Lib.hid (heap_alloc_new w4 (.cells rc 65))
      have hz := (zero_of_info Z65).1
      have hrb : w.heap.size ≤ w4.heap.size := Nat.le_trans B3.out.size b4.size
      clear b4 ba b35 L3 D3 T3 hrc
      go_upto_region 8 with (refine wpList_store_row (by rfl) 65 (.tmp 5) (.tmp 26) (by rfl) w4.heap.size rc (by rfl) (by rfl) _ _ (heap_alloc_new w4 _) (by rw [HRS.out]; exact S34) (by rw [HRS.out]; exact rz_size) HRA.out ?_; rw [setRow_alloc])
      generalize w4.alloc (.cells rc 65) = w5 at *
      generalize w4.heap.size = rb at *
      obtain ⟨fs, hu65⟩ := rec_under
      have HU65 := Lib.hid hu65
      have HWL := Lib.hid (write_log L5.out D5.out (fun k hp hq => HAP.out k hp ((HQ.out k).2 hq)) b q b.length c' T5.out (fun x hx' hb hp => by have := (HQL.out x hx').1; have := Dk.PD.lt HD.out _ hp; omega) hbl hR (by rw [← HZ.out]; omega) (by omega))
      rw [← HRC.out] at HWL
      have hdn := doAll_n (plan s.n g.used (last g.R g.R.length) g.R.length b) s
      have HAG := Lib.hid (show g.app s b = if (doAll s (plan s.n g.used (last g.R g.R.length) g.R.length b)).2 = 0 then (((doAll s (plan s.n g.used (last g.R g.R.length) g.R.length b)).1, ⟨g.R ++ [b], false⟩), 0) else (((doAll s (plan s.n g.used (last g.R g.R.length) g.R.length b)).1, ⟨g.R, true⟩), (doAll s (plan s.n g.used (last g.R g.R.length) g.R.length b)).2) from by
        unfold G.app
        rw [if_neg (by rw [HBR.out]; simp), if_neg (by rw [← HZ.out]; exact hfull)])
      generalize g.app s b = ga at *
      generalize doAll s (plan s.n g.used (last g.R g.R.length) g.R.length b) = r at *
      obtain ⟨s6, er⟩ := r
      simp only at hdn
      clear hu65 hz
      go_wp2_with (refine wpList_load_row (by rfl) 65 (.tmp 5) (by rfl) rb (by rfl) 65 rc (0, 0) (.struct fs) R5.out HU65.out rfl (by rw [HRS.out]; exact S34) ?_)
      refine HWL.out.mono ?_
      rintro e w6 ⟨rfl, P6, d6, p6, o6⟩
      have L6 := Lib.hid (L5.out.keep o6 (fun k hk hp => HAP.out k hp ((HQ.out k).2 hk)))
      have D6 := Lib.hid d6
      have P6S := Lib.hid p6
      have O6 := Lib.hid o6
      have T6 := Lib.hid (Dk.tx_keep T5.out (fun x hx' _ => o6.block x.block (by have := HQL.out x hx'; omega) (fun hp => by have := HQL.out x hx'; have := Dk.PD.lt HD.out _ hp; omega)))
      have R6 := Lib.hid ((o6.block rb (Array.getElem?_eq_some_iff.1 R5.out).1 (fun hp => by
        have := Dk.PD.lt HD.out _ hp
        omega)).trans R5.out)
      have hqb : ∀ k, LQ gl v hs k → k < w.heap.size := fun k hk => HL.out.blk k hk
      have hpq : ∀ k, P6 k → ¬ LQ gl v hs k := fun k hk hq => by
        rcases p6 k hk with e | e
        · exact HAP.out k e ((HQ.out k).2 hq)
        · have := hqb k hq
          have := B5.out.size
          omega
      have HPQ := Lib.hid hpq
      have HQB := Lib.hid hqb
      have O06 := Lib.hid (show Dk.Only (fun k => P k ∨ Q k) w w6 from (Dk.Only.of_below _ B5.out).trans ⟨o6.os, o6.tape, o6.output, o6.size, fun k hk hn => o6.block k hk (fun e => hn (Or.inl e))⟩)
      clear d6 p6 o6 HWL L5 D5 T5 hpq hqb
      by_cases he : er = 0
      · subst he
        have HAG1 := Lib.hid (HAG.out.trans (if_pos rfl))
        clear HAG
        have hu6 : g.used < 1000000 := by omega
        have HPL := Lib.hid (put_log L6.out b q b.length c' g.R.length T6.out hbl (fun x hx' hb hq => by have := HQB.out _ hq; have := HQL.out x hx'; omega) hR hu6)
        rw [← HRC.out] at HPL
        go_wp2_with (refine wpList_load_row (by rfl) 65 (.tmp 5) (by rfl) rb (by rfl) 65 rc (0, 0) (.struct fs) R6.out HU65.out rfl (by rw [HRS.out]; exact S34) ?_)
        refine HPL.out.mono ?_
        rintro e w7 ⟨rfl, v', hs', l7, q7, o7⟩
        have L7 := Lib.hid l7
        have Q7 := Lib.hid q7
        have O7 := Lib.hid o7
        clear l7 q7 o7 HPL
        go_wp2_with fail
        go_ret
        rw [HAG1.out]
        have hz5 := B5.out.size
        have h56 := O6.out.size
        have l7' := L7.out
        rw [HBR.out] at l7'
        refine ⟨rfl, P6, LQ gl v' hs', Dk.PD.keep _ D6.out O7.out (fun k hk => HPQ.out k hk), ⟨v', hs', l7', fun k => Iff.rfl, ?_⟩, fun k hk => (P6S.out k hk).imp id (fun e => by omega), fun k hk => ?_, fun k hk hq => ?_, ?_⟩
        · show size (g.R ++ [b]) (g.R ++ [b]).length ≤ 64 * s.n
          rw [size_one, ← HZ.out, used_size g]
          omega
        · rcases Q7.out k hk with e | e | ⟨x, hx', _, rfl⟩
          · exact Or.inl ((HQ.out k).2 e)
          · exact Or.inr (by omega)
          · exact Or.inr (HQL.out x hx').1
        · have h1 := Dk.PD.lt D6.out k hk
          rcases Q7.out k hq with e | e | ⟨x, hx', _, rfl⟩
          · exact HPQ.out k hk e
          · omega
          · have h2 := HQL.out x hx'
            rcases P6S.out _ hk with e | e
            · have := Dk.PD.lt HD.out _ e; omega
            · omega
        · exact O06.out.trans ⟨O7.out.os, O7.out.tape, O7.out.output, O7.out.size, fun k hk hn => O7.out.block k hk (fun e => hn (Or.inr ((HQ.out k).2 e)))⟩
      · have he1 : ((er : Int) == 0) = false := by rw [beq_eq_false_iff_ne]; omega
        have c35' := L6.out.c35
        have f35' := L6.out.fz 35
        have HAG1 := Lib.hid (HAG.out.trans (if_neg he))
        clear he HAG
        go_wp2_with fail
        go_ret
        rw [HAG1.out]
        have hset := Dk.Only.setCell (P := fun k => k = gl) w6 (a := ⟨gl, 35, none⟩) rfl (.bool true)
        have hgl : ¬ P6 gl := fun e => HPQ.out gl e (Or.inl rfl)
        refine ⟨rfl, P6, Q, Dk.PD.keep (fun k => k = gl) D6.out hset (fun k hk e => hgl (by rw [← e]; exact hk)), ⟨v, hs, L6.out.breaks, HQ.out, HFIT.out⟩, fun k hk => (P6S.out k hk).imp id (fun e => by have := B5.out.size; omega), fun k hk => Or.inl hk, fun k hk hq => HPQ.out k hk ((HQ.out k).1 hq), ?_⟩
        exact O06.out.trans ⟨hset.os, hset.tape, hset.output, hset.size, fun k hk hn => hset.block k hk (fun e => hn (Or.inr ((HQ.out k).2 (Or.inl e))))⟩
end Go.Proofs.Ytlkeobohcfbgcaa.Wl

/- Package wal, as it landed: marked; bytes.Equal. -/
namespace Go.Proofs.Ytlkeobohcfbgcaa.Wl
open Go.RowKit

set_option maxRecDepth 100000 in
set_option maxHeartbeats 1000000 in
theorem marked_any (b : List Nat) (p : Option Addr) (n c : Nat) (w : World) (hT : Tx w p n c b) (hn : n = 0 ∨ 64 ≤ n) :
    Calls Try.prog 31 #[.slice p n c] w fun e w' => e = .returned (.bool (decide (0 < b.length ∧ b.getD 63 0 = 1))) ∧ w = w' := by
  have hs := hT.size
  by_cases h0 : n = 0
  · have HE := Lib.hid (show decide (0 < b.length ∧ b.getD 63 0 = 1) = false from decide_eq_false (by omega))
    rw [HE.out]
    subst h0
    clear hT hn hs
    go_enter Try.func31, Try.ntmps31
    go_wp2_with fail
    go_ret
    exact ⟨rfl, rfl⟩
  · obtain ⟨g, o, rfl, hx⟩ := hT.bytes.ne (by rintro rfl; simp at hs; omega)
    have c63 := hx 63 (by omega)
    have l1 : (n : Int) > 0 := by omega
    have i1 : (0 : Int) ≤ 63 ∧ (63 : Int) < n := by omega
    by_cases h1 : b.getD 63 0 = 1
    · have HE := Lib.hid (show decide (0 < b.length ∧ b.getD 63 0 = 1) = true from decide_eq_true (by omega))
      rw [HE.out]
      rw [h1] at c63
      clear hT hn hs hx h1 h0
      go_enter Try.func31, Try.ntmps31
      go_wp2_with fail
      go_ret
      exact ⟨rfl, rfl⟩
    · have HE := Lib.hid (show decide (0 < b.length ∧ b.getD 63 0 = 1) = false from decide_eq_false (by omega))
      rw [HE.out]
      have f1 : ((b.getD 63 0 : Int) == 1) = false := by rw [beq_eq_false_iff_ne]; omega
      clear hT hn hs hx h0
      generalize b.getD 63 0 = y at *
      go_enter Try.func31, Try.ntmps31
      go_wp2_with fail
      go_ret
      exact ⟨rfl, rfl⟩
set_option maxRecDepth 100000 in
set_option maxHeartbeats 1000000 in
theorem equal_any (a b : List Nat) (p q : Option Addr) (n c m d : Nat) (w : World) (ha : Tx w p n c a) (hb : Tx w q m d b) :
    Calls Try.prog 34 #[.slice p n c, .slice q m d] w fun e w' => e = .returned (.bool (decide (a = b))) ∧ w = w' := by
  have h1 := convert_tx ha
  have h2 := convert_tx hb
  have HE := Lib.hid (str_eq ha.ok hb.ok)
  rw [← HE.out]
  clear ha hb
  go_enter Try.func34, Try.ntmps34
  go_wp2_with fail
  go_ret
  exact ⟨rfl, rfl⟩
end Go.Proofs.Ytlkeobohcfbgcaa.Wl

/- Package disk, as it landed: All. -/
namespace Go.Proofs.Ytlkeobohcfbgcaa.Dk
open Go.RowKit

theorem make_all (m : Nat) (hm : m ≤ 1000000) (w : World) : (Instr.makeSlice 36 (.int .i64 0) (.int .i64 m)).run Try.prog w = .ok (.slice (some ⟨w.heap.size, 0, none⟩) 0 m) (w.alloc (.cells (u8s (zeros m)) 5)) := by
  obtain ⟨i5, hi, hi0, hi1, hi2⟩ := info_parts I5
  have := run_make (P := Try.prog) w 36 5 i5 _ A22 hi hi0 .i64 .i64 0 m (by omega) (by omega) (by rw [hi2]; omega) (by omega)
  rw [this, hi1]
  simp only [Int.toNat_natCast, Int.toNat_zero, Nat.mul_one, made_zeros]
/-- All under way: the first k sectors are there. -/
def AllRel (w : World) (s : D) (v i : Value) (wr : World) : Prop := ∃ k : Nat, k ≤ s.n ∧ i = .int .i64 k ∧ wr.ownsRow w.heap.size 5 1 v (64 * k) (vals (s.L.take (64 * k))) ∧ v ≠ .slice none 0 0 ∧ Below w.heap.size w wr
set_option maxRecDepth 100000 in
set_option maxHeartbeats 2000000 in
theorem all_any {w : World} {g : Nat} {P : Nat → Prop} {s : D} (h : PD w g P s) :
    Calls Try.prog 18 #[.pointer (some ⟨g, 0, none⟩)] w fun e w' => ∃ p c, e = .returned (.slice p (64 * s.n) c) ∧ Mine w' w.heap.size p (64 * s.n) c s.L ∧ Below w.heap.size w w' := by
  obtain ⟨p, c, E, lit, whole, torn, h, hP⟩ := h
  have hn := h.ok.small
  have M1 := make_all (64 * s.n) (by omega) w
  rw [show ((64 * s.n : Nat) : Int) = 64 * (s.n : Int) from by omega] at M1
  have q1 : IntKind.i64.wrap (64 * (s.n : Int)) = 64 * (s.n : Int) := IntWalk.i64_in _ (by omega)
  have q1' : IntKind.i64.wrap ((s.n : Int) * 64) = 64 * (s.n : Int) := by rw [Int.mul_comm]; exact q1
  have c0 := h.c0
  have hb := (Below.refl w.heap.size w).alloc (Nat.le_refl _) (.cells (u8s (zeros (64 * s.n))) 5)
  have c1 := (hb.cell (block_lt_of_cell c0)).trans c0
  have HO := Lib.hid (owns_mk (n := 0) (cap := 64 * s.n) (heap_alloc_new w (.cells (u8s (zeros (64 * s.n))) 5)) (by simp [zeros]) (Nat.zero_le _) (by unfold maxLen; omega) (Nat.le_refl _))
  have HB := Lib.hid hb
  have HD := Lib.hid h
  clear hP h hb
  obtain ⟨i5, hi, hi0, hi1, hi2⟩ := info_parts I5
  have HI := Lib.hid hi
  have HI0 := Lib.hid hi0
  have HI1 := Lib.hid hi1
  have HI2 := Lib.hid hi2
  clear hi hi0 hi1 hi2
  have hz := (zero_of_info SSZ).1
  go_enter Try.func18, Try.ntmps18
  go_wp2_with fail
  generalize w.alloc (.cells (u8s (zeros (64 * s.n))) 5) = w1 at *
  clear c0 c1 M1
  go_loopw [3, 18] (fun v i wr => AllRel w s v i wr) (fun _ i _ => s.n - (intOf i).toNat)
  case atStart => exact ⟨0, by omega, rfl, HO.out, by simp, HB.out⟩
  case round =>
    obtain ⟨k, hk, rfl, hv, hvn, hlow⟩ := hrel
    have HV := Lib.hid hv
    have HVN := Lib.hid hvn
    have HL := Lib.hid hlow
    clear hv hvn hlow
    by_cases hlt : k < s.n
    · have l1 : (k : Int) < s.n := by omega
      have i1 : (0 : Int) ≤ k ∧ (k : Int) < s.n := by omega
      obtain ⟨q, rfl, hr⟩ := (HD.out.keep (Q := fun _ => False) (Only.of_below _ HL.out) (fun e => e) (fun _ _ e => e)).range hlt
      have hsl := HD.out.ok.sect_length hlt
      rw [Nat.mul_comm] at hr
      have HR := Lib.hid hr
      have HSL := Lib.hid (show (vals (sect s k)).length = 64 from by rw [vals_length]; exact hsl)
      clear hr hsl
      go_upto_region 5 with (first | (refine wpList_store_row (by rfl) 74 (.tmp 5) (.tmp 21) (by rfl) wr.heap.size (vals (sect s k)).toArray (by rfl) (by rfl) _ _ (heap_alloc_new wr _) (by rw [List.size_toArray, HSL.out]; exact (zero_of_info SSZ).2) (by simp only [List.size_toArray, HSL.out, sz_size]) (all_oneCell_toArray (vals_one _)) ?_; rw [setRow_alloc]) | (refine wpList_load_mid (by rfl) 74 _ (by rfl) q (k * 64) (by rfl) (vals (sect s k)) _ HR.out UA (by rfl) (by rw [HSL.out]; exact (zero_of_info SSZ).2) ?_))
      have hba : Below wr.heap.size wr (wr.alloc (.cells (vals (sect s k)).toArray 74)) := (Below.refl _ _).alloc (Nat.le_refl _) _
      have hrow := heap_alloc_new wr (.cells (vals (sect s k)).toArray 74)
      generalize wr.alloc (.cells (vals (sect s k)).toArray 74) = w3 at *
      generalize wr.heap.size = gx at hrow ⊢
      have HO3 := Lib.hid (owns_later HV.out hba)
      have H3 := Lib.hid (low_later HL.out hba)
      have HX := Lib.hid (cells_of_row hrow)
      clear hba hrow hz
      go_wp2_with (at_builtin; refine wpList_append_own_at _ (by rfl) (.tmp 22) (.tmp 23) 36 (by rfl) w.heap.size 5 i5 (.int .u8 0) 1 1 A22 HI.out HI0.out HI1.out HI2.out (by rfl) (by decide) _ (64 * k) _ (by rfl) HO3.out ⟨gx, 0, none⟩ 64 64 (vals (sect s k)) (by rfl) HSL.out HX.out (vals_one _) (by unfold maxLen; omega) (by omega) H3.out.size ?_; intro v7 w7 hown7 hgrow7 hnil7 _; have O7 := Lib.hid hown7; have G7 := Lib.hid hgrow7; have N7 := Lib.hid (show v7 ≠ .slice none 0 0 from fun e => HVN.out (hnil7.1 e).1); clear hown7 hgrow7 hnil7)
      go_roundw
      case rel =>
        refine ⟨k + 1, by omega, by go_num, ?_, N7.out, ?_⟩
        · have := O7.out
          rw [← vals_append, ← HD.out.ok.take_succ hlt] at this
          exact this
        · rcases HO3.out.2 with ⟨e, _⟩ | ⟨g', cap, cur, e, hb, _⟩
          · exact absurd e HVN.out
          · have hg := G7.out
            rw [e] at hg
            exact grown_below H3.out hg hb
      case measure => simp [intOf]; omega
    · obtain rfl : k = s.n := by omega
      have hL : s.L.take (64 * s.n) = s.L := List.take_of_length_le (Nat.le_of_eq HD.out.ok.len)
      rcases HV.out.2 with ⟨e, _⟩ | ⟨g', cap, cur, rfl, hb, hg, hc, _, _, ht⟩
      · exact absurd e HVN.out
      · have HM := Lib.hid (show Mine wr w.heap.size (some ⟨g', 0, none⟩) (64 * s.n) cap s.L from ⟨HD.out.ok.len.symm, hc, HD.out.ok.bytes, Or.inr ⟨g', 0, _, cur, rfl, hb, hg, fun i hi => by
          have hi' : i < s.L.length := by have := HD.out.ok.len; omega
          have e := congrArg (fun l => l[i]?) ht
          rw [hL, vals_get s.L i hi', List.getElem?_take_of_lt (by omega)] at e
          rw [Nat.zero_add, ← Array.getElem?_toList]
          exact e⟩⟩)
        clear hb hg hc ht hL HV HVN hz
        go_wp2_with fail
        go_ret
        exact ⟨_, _, rfl, HM.out, HL.out⟩
end Go.Proofs.Ytlkeobohcfbgcaa.Dk

/- Package disk, as it landed: Dead. -/
namespace Go.Proofs.Ytlkeobohcfbgcaa.Dk
open Go.RowKit

set_option maxRecDepth 100000 in
set_option maxHeartbeats 1000000 in
theorem dead_any {w : World} {g : Nat} {P : Nat → Prop} {s : D} (h : PD w g P s) :
    Calls Try.prog 25 #[.pointer (some ⟨g, 0, none⟩)] w fun e w' => e = .returned (.bool s.dead) ∧ Below w.heap.size w w' := by
  obtain ⟨p, c, E, lit, whole, torn, h, hP⟩ := h
  have c4 := h.c4
  clear h hP
  go_enter Try.func25, Try.ntmps25
  go_wp2_with fail
  go_ret
  exact ⟨rfl, Below.refl _ _⟩
end Go.Proofs.Ytlkeobohcfbgcaa.Dk

/- Package wal, as it landed: Open. -/
namespace Go.Proofs.Ytlkeobohcfbgcaa.Wl
open Go.RowKit

theorem log_built (gd : Nat) : Try.prog.built 62 [(0, .pointer (some ⟨gd, 0, none⟩))] = some (lrow gd (.slice none 0 0) (zeros 32) 0 false) := by kernel_rfl
theorem op_load_rec' {ρ : Operand → Value} {o : Oper} {x : Operand} {w : World} {g : Nat} {rc : Array Value} (ho : o.op = .load 65 x) (hx : ρ x = .pointer (some ⟨g, 0, none⟩)) (hs : rc.size = 34) (h : w.heap[g]? = some (.cells rc 65 (0, 0))) : (execOp ρ o).run Try.prog w = .ok (.value (.agg rc)) w := by
  obtain ⟨fs, hu⟩ := rec_under
  unfold execOp
  simp only [ho, hx, Instr.loadAt, Instr.sureAddr, Sem.run_bind, Sem.run_pure, Result.andThen_ok, run_loadVar_row _ g _ 65 rc (0, 0) (.struct fs) h hu rfl (by rw [hs]; exact S34)]
theorem mine_lt {w : World} {base : Nat} {p : Option Addr} {n c : Nat} {B : List Nat} (h : Dk.Mine w base p n c B) : ∀ x, p = some x → x.block < w.heap.size ∧ base ≤ x.block := fun x hx => by
  rcases h.at' with ⟨h0, _⟩ | ⟨g, o, t, C, hp, hb, hh, _⟩
  · rw [h0] at hx; cases hx
  · rw [hp] at hx; cases hx; exact ⟨(Array.getElem?_eq_some_iff.1 hh).1, hb⟩
theorem tx_tail {w : World} {p : Option Addr} {n c : Nat} {B : List Nat} (h : Tx w p n c B) (k : Nat) (hk : k ≤ n) : Tx w (if c = k then p else Option.map (fun x => x.add k) p) (n - k) (c - k) (B.drop k) := by
  have hd := h.drop k hk
  have h1 := h.size
  have h2 := h.le
  split
  · next he =>
    have hB : B.drop k = [] := List.drop_eq_nil_of_le (by omega)
    refine ⟨hd.size, hd.le, hd.ok, ?_, fun x _ hc => by omega⟩
    cases p with
    | none => exact Or.inl ⟨rfl, by omega⟩
    | some x => exact Or.inr ⟨x, rfl, fun j u hu => by rw [hB] at hu; simp [vals] at hu⟩
  · exact hd
/-- A new log. -/
theorem LA.new {w : World} {gl gd : Nat} (h : w.heap[gl]? = some (.cells (lrow gd (.slice none 0 0) (zeros 32) 0 false) 62 (0, 0))) : LA w gl gd (.slice none 0 0) [] ⟨[], false⟩ :=
  ⟨h, World.ownsRow_nil _ _ _ _, fun i hi => absurd hi (Nat.not_lt_zero i), (fun b hb => by cases hb), (fun i q m c hi => by simp at hi)⟩
set_option maxHeartbeats 1000000 in
theorem open_nil (w : World) : Calls Try.prog 13 #[.pointer none] w fun e w' => e = .returned (.tuple #[.pointer none, .int .i64 1]) ∧ Below w.heap.size w w' := by
  go_enter Try.func13, Try.ntmps13
  go_wp2_with fail
  go_ret2
  exact ⟨rfl, Below.refl _ _⟩
set_option maxHeartbeats 1000000 in
theorem open_dead {w : World} {gd : Nat} {P : Nat → Prop} {s : Dk.D} (hd : Dk.PD w gd P s) (h1 : s.dead = true) : Calls Try.prog 13 #[.pointer (some ⟨gd, 0, none⟩)] w fun e w' => e = .returned (.tuple #[.pointer none, .int .i64 30]) ∧ Below w.heap.size w w' := by
  have HD := Lib.hid hd
  have H1 := Lib.hid h1
  clear hd h1
  go_enter Try.func13, Try.ntmps13
  go_wp2_with fail
  refine (Dk.dead_any HD.out).mono ?_
  rintro e w1 ⟨rfl, b1⟩
  have B1 := Lib.hid b1
  rw [H1.out]
  clear b1
  go_wp2_with fail
  go_ret2
  exact ⟨rfl, B1.out⟩
/-- Reading under way: the records R stand in the log; the sectors behind them are next. -/
structure OpR (w wa : World) (gd lg : Nat) (d : List Nat) (R : List (List Nat)) (v : Value) (hs : List Value) (wr : World) : Prop where
  log : LA wr lg gd v hs ⟨R, false⟩
  own : ∀ k, LQ lg v hs k → w.heap.size ≤ k
  off : ∀ k, LQ lg v hs k → k = lg ∨ wa.heap.size ≤ k
  low : Below w.heap.size w wr
  low2 : wa.heap.size ≤ wr.heap.size
  read : Read d R
def OpI (w wa : World) (gd lg : Nat) (p : Option Addr) (n c : Nat) (d : List Nat) (x : Value) (wr : World) : Prop := ∃ R v hs q m e, x = .slice q m e ∧ Tx wr q m e (d.drop (size R R.length)) ∧ OpR w wa gd lg d R v hs wr ∧ Tx wr p n c d
def lenOf : Value → Nat
  | .slice _ m _ => m
  | _ => 0
def OpenPost (w : World) (gd : Nat) (s : Dk.D) (e : Ending) (w' : World) : Prop :=
  (reads s.L = none ∧ e = .returned (.tuple #[.pointer none, .int .i64 31]) ∧ Below w.heap.size w w') ∨
  ∃ R gl v hs, reads s.L = some R ∧ e = .returned (.tuple #[.pointer (some ⟨gl, 0, none⟩), .int .i64 0]) ∧ LA w' gl gd v hs ⟨R, false⟩ ∧ size R R.length ≤ 64 * s.n ∧ (∀ k, LQ gl v hs k → w.heap.size ≤ k) ∧ Below w.heap.size w w'
set_option maxRecDepth 100000 in
set_option maxHeartbeats 2500000 in
theorem open_any {w : World} {gd : Nat} {P : Nat → Prop} {s : Dk.D} (hd : Dk.PD w gd P s) (h1 : s.dead = false) : Calls Try.prog 13 #[.pointer (some ⟨gd, 0, none⟩)] w (OpenPost w gd s) := by
  have HD := Lib.hid hd
  have H1 := Lib.hid h1
  have hok := Dk.PD.okay hd
  have hn := hok.small
  have HLEN := Lib.hid hok.len
  have HOK := Lib.hid hok.bytes
  obtain ⟨d, hsd⟩ : ∃ d, d = s.L := ⟨_, rfl⟩
  have HSD := Lib.hid hsd
  have hmod : d.length % 64 = 0 := by rw [hsd, HLEN.out]; omega
  have hdl : d.length = 64 * s.n := by rw [hsd]; exact HLEN.out
  have HMOD := Lib.hid hmod
  have HDL := Lib.hid hdl
  have hlb := log_built gd
  clear hd h1 hok hsd hmod hdl
  go_enter Try.func13, Try.ntmps13
  go_wp2_with fail
  refine (Dk.dead_any HD.out).mono ?_
  rintro e w1 ⟨rfl, b1⟩
  have B1 := Lib.hid b1
  have D1 := Lib.hid (Dk.PD.keep (fun _ => False) HD.out (Dk.Only.of_below _ b1) (fun _ _ e => e))
  rw [H1.out]
  clear b1 HD
  go_wp2_with fail
  have B2 := Lib.hid (B1.out.alloc B1.out.size (.cells (lrow gd (.slice none 0 0) (zeros 32) 0 false) 62))
  have b12 := (Below.refl w1.heap.size w1).alloc (Nat.le_refl _) (.cells (lrow gd (.slice none 0 0) (zeros 32) 0 false) 62)
  have L2 := Lib.hid (LA.new (heap_alloc_new w1 (.cells (lrow gd (.slice none 0 0) (zeros 32) 0 false) 62)))
  have D2 := Lib.hid (Dk.PD.keep (fun _ => False) D1.out (Dk.Only.of_below _ b12) (fun _ _ e => e))
  have HLG := Lib.hid (show w.heap.size ≤ w1.heap.size from B1.out.size)
  have hlr : lrow gd (.slice none 0 0) (zeros 32) 0 false = #[.pointer (some ⟨gd, 0, none⟩), .slice none 0 0, .int .u8 0, .int .u8 0, .int .u8 0, .int .u8 0, .int .u8 0, .int .u8 0, .int .u8 0, .int .u8 0, .int .u8 0, .int .u8 0, .int .u8 0, .int .u8 0, .int .u8 0, .int .u8 0, .int .u8 0, .int .u8 0, .int .u8 0, .int .u8 0, .int .u8 0, .int .u8 0, .int .u8 0, .int .u8 0, .int .u8 0, .int .u8 0, .int .u8 0, .int .u8 0, .int .u8 0, .int .u8 0, .int .u8 0, .int .u8 0, .int .u8 0, .int .u8 0, .int .i64 0, .bool false] := rfl
  rw [← hlr]
  generalize w1.alloc (.cells (lrow gd (.slice none 0 0) (zeros 32) 0 false) 62) = w2 at *
  generalize w1.heap.size = lg at *
  clear hlb hlr b12 D1 B1
  refine (Dk.all_any D2.out).mono ?_
  rintro e w3 ⟨p, c, rfl, m3, b3⟩
  rw [← HSD.out] at m3
  have hls : 64 * s.n = d.length := HDL.out.symm
  have hdl2 : d.length ≤ 262144 := by omega
  rw [hls] at m3
  rw [hls]
  have HMN := Lib.hid (show ∀ x, p = some x → x.block < w3.heap.size ∧ w2.heap.size ≤ x.block from mine_lt m3)
  have T3 := Lib.hid m3.tx
  have L3 := Lib.hid (L2.out.later b3)
  have B3 := Lib.hid (B2.out.trans (b3.mono B2.out.size))
  have HCL := Lib.hid m3.tx.le
  have HL2 := Lib.hid (show lg < w2.heap.size from L2.out.lt)
  clear m3 b3 L2 D2 hls
  go_wp2_with fail
  clear HLEN HOK H1
  go_loopw [6] (fun x wr => OpI w w3 gd lg p d.length c d x wr) (fun x _ => lenOf x)
  case atStart =>
    refine ⟨[], .slice none 0 0, [], p, d.length, c, rfl, T3.out, ⟨L3.out, fun k hk => ?_, fun k hk => ?_, B3.out, Nat.le_refl _, Read.zero d⟩, T3.out⟩
    · rcases hk with rfl | hk | ⟨i, q, m, c, hi, _⟩
      · exact HLG.out
      · simp [Value.ownBlock] at hk
      · simp at hi
    · rcases hk with rfl | hk | ⟨i, q, m, c, hi, _⟩
      · exact Or.inl rfl
      · simp [Value.ownBlock] at hk
      · simp at hi
  case round =>
    obtain ⟨R, v, hs, q, m, c6, rfl, t6, hop, ta⟩ := hrel
    have hR4 := hop.read.few
    have hms := t6.size
    rw [List.length_drop] at hms
    have hmm := size_mod R R.length
    have hml := hop.read.1
    have hm0 : m = 0 ∨ 64 ≤ m := by have := HMOD.out; omega
    have hmc := t6.le
    have T6 := Lib.hid t6
    have OP := Lib.hid hop
    have TA := Lib.hid ta
    have HMS := Lib.hid hms
    have HML := Lib.hid hml
    have HMM := Lib.hid hmm
    have hR5 : R.length ≤ 4096 := by omega
    have hm5 : m ≤ 262144 := by omega
    obtain ⟨b, hb⟩ : ∃ b, b = d.drop (size R R.length) := ⟨_, rfl⟩
    rw [← hb] at T6
    have HBD := Lib.hid hb
    have HMA := Lib.hid (show (0 < b.length ∧ b.getD 63 0 = 1) ↔ (size R R.length < d.length ∧ d.getD (size R R.length + 63) 0 = 1) from by
      rw [hb, List.length_drop, Sm.getD_drop]
      constructor <;> rintro ⟨h1, h2⟩ <;> exact ⟨by omega, h2⟩)
    clear t6 hop ta hms hml hmm hb hR4 T3 L3 B3
    go_wp2_with fail
    refine (marked_any b q m c6 wr T6.out hm0).mono ?_
    rintro e w4 ⟨rfl, rfl⟩
    by_cases hmk : 0 < b.length ∧ b.getD 63 0 = 1
    · rw [decide_eq_true hmk]
      have HMK := Lib.hid (HMA.out.1 hmk)
      have hbl : b.length = m := T6.out.size.symm
      have hm6 : 64 ≤ m := by omega
      clear hmk HMA
      go_wp2_with fail
      refine (text_wal b q m c6 wr T6.out hm6 (by omega)).mono ?_
      rintro e w5 ⟨q5, m5, c5, rfl, t5, x5, b5⟩
      have HST := Lib.hid (round_step HMOD.out HMK.out)
      rw [← HBD.out] at HST
      generalize textOf b = y at *
      have T5 := Lib.hid t5
      have X5 := Lib.hid (show ∀ x, q5 = some x → y ≠ [] → wr.heap.size ≤ x.block ∧ x.block < w5.heap.size from fun x hx hy => ⟨x5 x hx hy, by
        obtain ⟨g', o', hp', hc'⟩ := t5.bytes.ne hy
        rw [hx] at hp'
        cases hp'
        exact block_lt_of_cell (hc' 0 (List.length_pos_iff.2 hy))⟩)
      have B5 := Lib.hid b5
      have L5 := Lib.hid (OP.out.log.later b5)
      have hy5 : m5 ≤ 100000 := by rw [t5.size]; exact HST.out.1
      clear t5 x5 b5
      go_wp2_with fail
      refine (coming_any L5.out y q5 m5 c5 T5.out hy5 (by simp only; omega)).mono ?_
      rintro e w6 ⟨rfl, b6⟩
      obtain ⟨rc, hrc⟩ : ∃ rc, rc = recA R.length q5 m5 c5 (rsum (last R R.length) R.length y) := ⟨_, rfl⟩
      simp only
      rw [← hrc]
      have HRC := Lib.hid hrc
      have HRS := Lib.hid (show rc.size = 34 from by rw [hrc]; exact recA_size _ _ _ _ _ (rsum_length _ _ _))
      have HRA := Lib.hid (show rc.all (·.oneCell') = true from by rw [hrc]; exact recA_one _ _ _ _ _)
      have ba := (Below.refl w6.heap.size w6).alloc (Nat.le_refl _) (.cells rc 65)
      have b57 := b6.trans (ba.mono b6.size)
      have HWR := Lib.hid (Nat.le_trans B5.out.size b6.size)
      have B7 := Lib.hid (B5.out.trans (b57.mono B5.out.size))
      have L7 := Lib.hid (L5.out.later b57)
      have T7 := Lib.hid (T5.out.later b57)
      have R7 := Lib.hid (heap_alloc_new w6 (.cells rc 65))
      have hz := (zero_of_info Z65).1
      have HNW := Lib.hid (show w6.heap.size < (w6.alloc (.cells rc 65)).heap.size from (Array.getElem?_eq_some_iff.1 (heap_alloc_new w6 (.cells rc 65))).1)
      clear b6 ba b57 hrc L5 T5
      have q0 : (64 : Int) ≤ (c6 : Int) := by omega
      go_upto_region 10 with (refine wpList_store_row (by rfl) 65 (.tmp 7) (.tmp 32) (by rfl) w6.heap.size rc (by rfl) (by rfl) _ _ (heap_alloc_new w6 _) (by rw [HRS.out]; exact S34) (by rw [HRS.out]; exact rz_size) HRA.out ?_; rw [setRow_alloc])
      generalize w6.alloc (.cells rc 65) = w7 at *
      generalize w6.heap.size = rb at *
      have HFI := Lib.hid (show ∀ w', Tx w' q5 m5 c5 y → Calls Try.prog 35 #[.agg rc] w' (ClonePost w' (head (last R R.length) R.length y)) from fun w' ht => by
        rw [HRC.out, ← headOf_head]
        exact first_any R.length y _ q5 m5 c5 w' (by omega) ht hy5 (rsum_length _ _ _) (rsum_ok _ _ _))
      have T67 := Lib.hid ((T6.out.later B7.out).take 64 hm6)
      have HUS := Lib.hid (used_size (g := ⟨R, false⟩))
      obtain ⟨fs, hu65⟩ := rec_under
      have HU65 := Lib.hid hu65
      clear hu65 hz
      refine wp_region_held_drew (S := fun w' => w'.heap[rb]? = some (.cells rc 65 (0, 0))) (by kernel_rfl) R7.out (fun hHeld => ?_)
      refine wpAnyH_take (i := 0) (oi := ⟨some 33, .load 65 (.tmp 7), _, _, _, _⟩) (v := ?_) rfl (by kernel_rfl) (by kernel_rfl) (by kernel_rfl) (fun _ _ _ h => h) (Or.inl ⟨by rfl, ?_⟩) (by assumption) ?_
      rotate_left
      · intro w' hSw
        refine Eq.trans (b := Result.ok (Next.value (.agg rc)) w') ?_ ?_
        · exact op_load_rec' (x := .tmp 7) (by rfl) (by rfl) HRS.out hSw
        · with_reducible rfl
      try simp only [Act.put, List.setIfInBounds_toArray, List.set_cons_zero, List.set_cons_succ]
      refine wpAnyH_take (i := 2) (oi := ⟨some 35, .move (.tmp 6), _, _, _, _⟩) (v := ?_) rfl (by kernel_rfl) (by kernel_rfl) (by kernel_rfl) (fun _ _ _ h => h) (Or.inl ⟨by rfl, ?_⟩) (by assumption) ?_
      rotate_left
      · intro w' hSw
        go_simp
        try with_reducible rfl
      try simp only [Act.put, List.setIfInBounds_toArray, List.set_cons_zero, List.set_cons_succ]
      refine wpAnyH_take (i := 3) (oi := ⟨some 36, .slice 36 (.tmp 35) none (some (.const (.int .i64 64))) none, _, _, _, _⟩) (v := ?_) rfl (by kernel_rfl) (by kernel_rfl) (by kernel_rfl) (fun _ _ _ h => h) (Or.inl ⟨by rfl, ?_⟩) (by assumption) ?_
      rotate_left
      · intro w' hSw
        go_simp
        try with_reducible rfl
      try simp only [Act.put, List.setIfInBounds_toArray, List.set_cons_zero, List.set_cons_succ]
      refine wpAnyH_ready (rs := [1]) (by kernel_rfl) (by simp) ?_
      refine AllReadyH.cons (o := ⟨some 34, .call ⟨.value (.func 35), #[.tmp 33], #[65]⟩, _, _, _, _⟩) rfl (fun K hK => ?_) AllReadyH.nil
      go_simp
      refine (HFI.out _ (T7.out.later (Below.refl _ _).drew)).mono ?_
      rintro _ w34 ⟨q34, c34, rfl, o34, b34⟩
      have bb34 : Below w7.heap.size w7 w34 := (Below.refl w7.heap.size w7).drew.trans b34
      have R34 : w34.heap[rb]? = some (.cells rc 65 (0, 0)) := (bb34.block _ HNW.out).trans R7.out
      have B34 := Lib.hid bb34
      have T34 := Lib.hid (tx_of_owns o34 (head_ok _ _ T7.out.ok))
      clear o34 b34 bb34
      try go_wp2_with fail
      refine hK.out _ _ R34 (fun hHeld => ?_)
      clear hK K
      try simp only [Act.put, List.setIfInBounds_toArray, List.set_cons_zero, List.set_cons_succ]
      refine wpAnyH_ready (rs := [4]) (by kernel_rfl) (by simp) ?_
      refine AllReadyH.cons (o := ⟨some 37, .call ⟨.value (.func 34), #[.tmp 34, .tmp 36], #[36, 36]⟩, _, _, _, _⟩) rfl (fun K hK => ?_) AllReadyH.nil
      go_simp
      refine (equal_any (head (last R R.length) R.length y) (b.take 64) q34 q _ c34 64 c6 w34 T34.out (T67.out.later B34.out)).mono ?_
      rintro _ w37 ⟨rfl, rfl⟩
      try go_wp2_with fail
      refine hK.out _ _ R34 (fun hHeld => ?_)
      clear hK K
      try simp only [Act.put, List.setIfInBounds_toArray, List.set_cons_zero, List.set_cons_succ]
      refine wpAnyH_take (i := 5) (oi := ⟨some 38, .unOp .not 4 (.tmp 37), _, _, _, _⟩) (v := ?_) rfl (by kernel_rfl) (by kernel_rfl) (by kernel_rfl) (fun _ _ _ h => h) (Or.inl ⟨by rfl, ?_⟩) (by assumption) ?_
      rotate_left
      · intro w' hSw
        go_simp
        try with_reducible rfl
      try simp only [Act.put, List.setIfInBounds_toArray, List.set_cons_zero, List.set_cons_succ]
      refine wpAnyH_done (by kernel_rfl) ?_ _
      have W34 := Lib.hid (OP.out.low.trans ((B7.out.trans (B34.out.mono B7.out.size)).mono OP.out.low.size))
      by_cases hE : head (last R R.length) R.length y = b.take 64
      · rw [decide_eq_true hE]
        have hs2 := HST.out.2
        rw [if_pos hE] at hs2
        have HRM := Lib.hid (OP.out.read.more hs2.1 hs2.2)
        have L34 := Lib.hid (L7.out.later B34.out)
        have T34' := Lib.hid (T7.out.later B34.out)
        have HPL := Lib.hid (put_log L34.out y q5 m5 c5 R.length T34'.out hy5 (fun x hx' hy hq => by
          have h1 := OP.out.log.blk _ hq
          have h2 := (X5.out x hx' hy).1
          omega) (by show R.length < 100000; omega) (by have h1 : size R R.length = 64 * G.used ⟨R, false⟩ := HUS.out; have h2 := HML.out; omega))
        simp only at HPL
        rw [← HRC.out] at HPL
        have TA34 := Lib.hid (TA.out.later ((B7.out.trans (B34.out.mono B7.out.size))))
        clear hE hs2 hHeld T34 T34' HFI HST
        go_wp2_with (refine wpList_load_row (by rfl) 65 (.tmp 7) (by rfl) rb (by rfl) 65 rc (0, 0) (.struct fs) R34 HU65.out rfl (by rw [HRS.out]; exact S34) ?_)
        refine HPL.out.mono ?_
        rintro e w8 ⟨rfl, v8, hs8, l8, q8, o8⟩
        have l8' : LA w8 lg gd v8 hs8 ⟨R ++ [y], false⟩ := l8
        have hus8 := used_size ⟨R ++ [y], false⟩
        have c8 := l8'.c34
        have hle8 := HRM.out.1
        have hs1 := size_one R y
        have hny := need_pos y.length
        generalize hu8 : G.used ⟨R ++ [y], false⟩ = u8 at *
        have hus9 : size (R ++ [y]) (R ++ [y]).length = 64 * u8 := hus8
        obtain ⟨k8, hk8⟩ : ∃ k8, k8 = 64 * u8 := ⟨_, rfl⟩
        have q1 : IntKind.i64.wrap ((u8 : Int) * 64) = (k8 : Int) := by rw [IntWalk.i64_in _ (by omega)]; omega
        have j1 : (k8 : Int) ≤ (d.length : Int) := by omega
        have L8 := Lib.hid l8'
        have W8 := Lib.hid (W34.out.trans (show Below w.heap.size w34 w8 from o8.below W34.out.size (fun k hk => OP.out.own k hk)))
        have hpa : ∀ x, p = some x → ¬ LQ lg v hs x.block ∧ x.block < w34.heap.size := fun x hx => by
          have h1 := HMN.out x hx
          have h2 := HL2.out
          have h3 := OP.out.low2
          have h4 := B7.out.size
          have h5 := B34.out.size
          refine ⟨fun e => ?_, by omega⟩
          rcases OP.out.off _ e with e | e <;> omega
        have TA8 := Lib.hid (Dk.tx_keep TA34.out (fun x hx _ => o8.block x.block (hpa x hx).2 (hpa x hx).1))
        have OP8 := Lib.hid (show OpR w w3 gd lg d (R ++ [y]) v8 hs8 w8 from ⟨l8', fun k hk => by
          have h0 := OP.out.low.size
          have h1 := B7.out.size
          have h2 := B34.out.size
          rcases q8 k hk with e | e | ⟨x, hx, hy, rfl⟩
          · exact OP.out.own k e
          · omega
          · have := (X5.out x hx hy).1; omega, fun k hk => by
          have h0 := OP.out.low2
          have h1 := B7.out.size
          have h2 := B34.out.size
          rcases q8 k hk with e | e | ⟨x, hx, hy, rfl⟩
          · exact OP.out.off k e
          · exact Or.inr (by omega)
          · exact Or.inr (by have := (X5.out x hx hy).1; omega), W8.out, by
          have h0 := OP.out.low2
          have h1 := B7.out.size
          have h2 := B34.out.size
          have h3 := o8.size
          omega, HRM.out⟩)
        have TT8 := Lib.hid (tx_tail TA8.out k8 (by omega))
        have HK9 := Lib.hid (show k8 = size (R ++ [y]) (R ++ [y]).length from by omega)
        have HMM8 := Lib.hid (show d.length - k8 < m from by have := HMK.out.1; have := HMS.out; omega)
        clear l8 l8' q8 o8 hpa hus8 hus9 hle8 hs1 hny hk8
        go_wp2_with fail
        go_roundw
        case rel => exact ⟨R ++ [y], v8, hs8, _, _, _, rfl, by rw [← HK9.out]; exact TT8.out, OP8.out, TA8.out⟩
        case measure => exact HMM8.out
      · rw [decide_eq_false hE]
        have hs2 := HST.out.2
        rw [if_neg hE] at hs2
        have HRN := Lib.hid (OP.out.read.no hs2)
        clear hE hs2 hHeld
        go_wp2_with fail
        go_ret2
        exact Or.inl ⟨by rw [← HSD.out]; exact HRN.out, rfl, W34.out⟩
    · rw [decide_eq_false hmk]
      have HRD := Lib.hid (OP.out.read.stop (next_stop (fun h => hmk (HMA.out.2 h))))
      clear hmk
      go_wp2_with fail
      go_ret2
      refine Or.inr ⟨R, lg, v, hs, by rw [← HSD.out]; exact HRD.out, rfl, OP.out.log, by rw [← HDL.out]; exact HML.out, OP.out.own, OP.out.low⟩
end Go.Proofs.Ytlkeobohcfbgcaa.Wl

/- Package wal, as it landed: Records. -/
namespace Go.Proofs.Ytlkeobohcfbgcaa.Wl
open Go.RowKit

/-- The records stand as long as the blocks from a height on stand. -/
theorem Ls.textsAt {w1 w w'' : World} {q : Option Addr} {n c : Nat} {R : List (List Nat)} (h : Ls w1 w (.slice q n c) n R) (hk : ∀ k, w1.heap.size ≤ k → k < w.heap.size → w''.heap[k]? = w.heap[k]?) : Texts w'' q n c R := by
  have hf := h.form
  obtain ⟨h1, hs, h2, h3⟩ := h
  have h2' : w''.ownsRow w1.heap.size 36 1 (.slice q n c) n hs := owns_keep h2 (fun g hg => hk g (h2.lt g hg).1 (h2.lt g hg).2)
  refine ⟨h1, by obtain ⟨q', c', e, hc⟩ := hf; cases e; exact hc, fun hR => ?_⟩
  rcases h2'.2 with ⟨_, h0⟩ | ⟨g, cap, cur, e, _, hg, _, _, _, ht⟩
  · exact absurd (List.eq_nil_of_length_eq_zero (by omega)) hR
  · cases e
    refine ⟨g, 0, rfl, fun i hi => ?_⟩
    obtain ⟨q', m', c', h4, h5, h6⟩ := h3 i (by omega)
    refine ⟨q', m', c', ?_, Dk.tx_keep h5 (fun x hx _ => hk _ (h6 x hx).1 (h6 x hx).2.1)⟩
    rw [Nat.zero_add, cell_of_row w'' g i _ _ _ hg, ← h4, ← ht, List.getElem?_take_of_lt (by omega), Array.getElem?_toList]
theorem make_h (n : Nat) (hn : n ≤ 100000) (w : World) : ∃ cur, (Instr.makeSlice 35 (.int .i64 0) (.int .i64 n)).run Try.prog w = .ok (.slice (some ⟨w.heap.size, 0, none⟩) 0 n) (w.alloc (.cells cur 36)) ∧ cur.size = n := by
  obtain ⟨i6, hi, hi0, hi1, hi2⟩ := info_parts IH
  have := run_make (P := Try.prog) w 35 36 i6 _ UL hi hi0 .i64 .i64 0 n (by omega) (by omega) (by rw [hi2]; omega) (by omega)
  refine ⟨madeCells (Value.slice none 0 0).cells (n * i6.size), this.trans (by simp only [Int.toNat_natCast, Int.toNat_zero]), ?_⟩
  rw [size_madeCells, hi1, Nat.mul_one]
def RecRel (w : World) (R : List (List Nat)) (v i : Value) (wr : World) : Prop := ∃ k : Nat, k ≤ R.length ∧ i = .int .i64 k ∧ Ls w wr v k (R.take k) ∧ Below w.heap.size w wr
set_option maxRecDepth 100000 in
set_option maxHeartbeats 2500000 in
theorem records_any {w : World} {gl gd : Nat} {v : Value} {hs : List Value} {g : G} (h : LA w gl gd v hs g) (hR : g.R.length < 100000) :
    Calls Try.prog 23 #[.pointer (some ⟨gl, 0, none⟩)] w fun e w' => ∃ q m c, e = .returned (.slice q m c) ∧ Ls w w' (.slice q m c) m g.R ∧ Below w.heap.size w w' := by
  obtain ⟨qv, cv, rfl, hcv⟩ := h.form
  obtain ⟨cur, hmk, hcs⟩ := make_h g.R.length (by omega) w
  have hb := (Below.refl w.heap.size w).alloc (Nat.le_refl _) (.cells cur 36)
  have c1 := h.c1
  have c1b := (h.later hb).c1
  have HL := Lib.hid h
  have HLS := Lib.hid (show Ls w (w.alloc (.cells cur 36)) (.slice (some ⟨w.heap.size, 0, none⟩) 0 g.R.length) 0 [] from ⟨rfl, [], ⟨rfl, Or.inr ⟨w.heap.size, g.R.length, cur, rfl, Nat.le_refl _, heap_alloc_new w _, Nat.zero_le _, by unfold maxLen; omega, by omega, rfl⟩⟩, fun i hi => by omega⟩)
  have HB := Lib.hid hb
  obtain ⟨i6, hj1, hj2, hj3, hj4⟩ := info_parts IH
  have HJ := Lib.hid hj1
  have HJ0 := Lib.hid hj2
  have HJ1 := Lib.hid hj3
  have HJ2 := Lib.hid hj4
  clear h hb hj1 hj2 hj3 hj4
  go_enter Try.func23, Try.ntmps23
  go_wp2_with fail
  generalize w.alloc (.cells cur 36) = w1 at *
  clear c1 c1b hmk
  go_loopw [3, 17] (fun v i wr => RecRel w g.R v i wr) (fun _ i _ => g.R.length - (intOf i).toNat)
  case atStart => exact ⟨0, Nat.zero_le _, rfl, by rw [List.take_zero]; exact HLS.out, HB.out⟩
  case round =>
    obtain ⟨k, hk, rfl, hLs, hbw⟩ := hrel
    obtain ⟨q9, c9, rfl, hmc⟩ := hLs.form
    have LS := Lib.hid hLs
    have BW := Lib.hid hbw
    clear hLs hbw HLS
    by_cases hlt : k < g.R.length
    · have l1 : (k : Int) < (g.R.length : Int) := by omega
      have i1 : (0 : Int) ≤ k ∧ (k : Int) < (g.R.length : Int) := by omega
      have lw := HL.out.later BW.out
      obtain ⟨gv, rfl⟩ : ∃ gv, qv = some ⟨gv, 0, none⟩ := by
        rcases lw.own.2 with ⟨_, h0⟩ | ⟨gb, cap, cur, e, _⟩
        · omega
        · cases e; exact ⟨gb, rfl⟩
      obtain ⟨q, m, c, h1, h2⟩ := lw.text k hlt
      have hc := (World.ownsRow.cellAt lw.own k (by omega)).trans h1
      have T := Lib.hid h2
      have HBL := Lib.hid h2.size
      have hml : m ≤ 100000 := by
        rw [h2.size, List.getD_eq_getElem?_getD, List.getElem?_eq_getElem hlt]
        exact HL.out.small _ (List.getElem_mem hlt)
      clear lw h1 h2
      obtain ⟨bk, hbk⟩ : ∃ bk, bk = g.R.getD k [] := ⟨_, rfl⟩
      rw [← hbk] at T
      have HBK := Lib.hid hbk
      clear hbk HBL
      go_wp2_with fail
      refine (clone_any bk q m c wr T.out (by omega)).mono ?_
      rintro e w3 ⟨q3, c3, rfl, o3, b3⟩
      have hb19 := (Below.refl w3.heap.size w3).alloc (Nat.le_refl _) (.cells #[.slice q3 bk.length c3] 36)
      have L3 := LS.out.later b3
      obtain ⟨hlen, hss, how, hall⟩ := L3.later hb19
      have HOW := Lib.hid how
      have HALL := Lib.hid hall
      have HLEN := Lib.hid hlen
      have T3 := Lib.hid ((tx_of_owns o3 T.out.ok).later hb19)
      have B9 := Lib.hid ((BW.out.trans (b3.mono BW.out.size)).trans (hb19.mono (Nat.le_trans BW.out.size b3.size)))
      have HQ9 := Lib.hid (show ∀ x, q3 = some x → w.heap.size ≤ x.block ∧ x.block < (w3.alloc (.cells #[.slice q3 bk.length c3] 36)).heap.size ∧ (Value.slice q9 k c9).ownBlock ≠ some x.block from fun x hx => by
        have h1 := o3.lt x.block (by rw [hx]; rfl)
        have h2 := BW.out.size
        have h3 := hb19.size
        refine ⟨by omega, by omega, fun e => ?_⟩
        obtain ⟨_, hs0, how0, _⟩ := LS.out
        have := (how0.lt _ e).2
        omega)
      clear b3 o3 hb19 L3 how hall hlen
      go_wp2_with (at_builtin; refine wpList_append_own_at _ (by rfl) (.tmp 21) (.tmp 24) 35 (by rfl) w.heap.size 36 i6 (.slice none 0 0) 1 24 UL HJ.out HJ0.out HJ1.out HJ2.out (by rfl) (by decide) _ k _ (by rfl) HOW.out ⟨w3.heap.size, 0, none⟩ 1 1 [.slice q3 bk.length c3] (by rfl) (by rfl) (cell_one_new w3 _ _) (by simp [Value.oneCell']) (by unfold maxLen; omega) (by omega) B9.out.size ?_; intro v7 w7 hown7 hgrow7 _ hat7; have HLP := Lib.hid (Ls.put (b := bk) HLEN.out HOW.out HALL.out T3.out HQ9.out hown7 hgrow7 hat7); have B7 := Lib.hid (B9.out.grown hgrow7 B9.out.size (fun j hj => (HOW.out.lt j hj).1)); clear hown7 hgrow7 hat7)
      go_roundw
      case rel => exact ⟨k + 1, by omega, by go_num, by rw [take_getD g.R hlt, ← HBK.out]; exact HLP.out, B7.out⟩
      case measure => simp [intOf]; omega
    · obtain rfl : k = g.R.length := by omega
      have hl := LS.out
      rw [List.take_of_length_le (Nat.le_refl _)] at hl
      have HLF := Lib.hid hl
      clear hl LS
      go_wp2_with fail
      go_ret
      exact ⟨q9, _, c9, rfl, HLF.out, BW.out⟩
end Go.Proofs.Ytlkeobohcfbgcaa.Wl

/- Package wal, as it landed: all its contracts. -/
namespace Go.Proofs.Ytlkeobohcfbgcaa.Wl
open Go.RowKit

/-- A log in memory, on a disk of so many sectors. -/
def LN (w : World) (gl : Nat) (Q : Nat → Prop) (gd n : Nat) (g : G) : Prop := LD w gl Q gd n g ∧ n ≤ 4096
theorem wapi : Api LN where
  lt := fun h => h.1.lt
  fit := fun ⟨⟨_, _, _, _, h⟩, _⟩ => h
  keep := fun X h ho hx => ⟨h.1.keep X ho hx, h.2⟩
  need := fun n w h1 h2 => (wneed_any n w h1 h2).mono fun e w' ⟨he, hw⟩ => ⟨he, by subst hw; exact Below.refl _ _⟩
  openNil := open_nil
  openDead := open_dead
  openNo := fun hd h1 hr => (open_any hd h1).mono fun e w' h => by
    rcases h with ⟨_, he, hb⟩ | ⟨R, gl, v, hs, h2, _⟩
    · exact ⟨he, hb⟩
    · rw [hr] at h2; cases h2
  openYes := fun R hd h1 hr => (open_any hd h1).mono fun e w' h => by
    rcases h with ⟨h2, _⟩ | ⟨R', gl, v, hs, h2, he, hl, hsz, ho, hb⟩
    · rw [hr] at h2; cases h2
    · rw [hr] at h2
      cases h2
      exact ⟨gl, LQ gl v hs, he, ⟨⟨v, hs, hl, fun k => Iff.rfl, hsz⟩, (Dk.PD.okay hd).small⟩, ho, hb⟩
  append := fun b p n c hd hl hap hT hx hn hw hR => (append_any b p n c hd hl.1 hap hT hx hn hw hR).mono fun e w' ⟨he, P', Q', h1, h2, h3⟩ => ⟨he, P', Q', h1, ⟨h2, hl.2⟩, h3⟩
  free := fun {w gd P s gl Q g} hd hl => by
    obtain ⟨⟨v, hs, h, _, hf⟩, _⟩ := hl
    exact free_any h hd (by have := used_size g; omega)
  last := fun hl => by
    obtain ⟨⟨v, hs, h, _, _⟩, _⟩ := hl
    exact last_any h
  recordsAt := fun {w gl Q gd n g} hl => by
    obtain ⟨⟨v, hs, h, _, hf⟩, hn⟩ := hl
    refine (records_any h (by have := len_size g.R g.R.length; omega)).mono fun e w' ⟨q, m, c, he, hL, hb⟩ => ⟨q, m, c, he, fun w'' hk => ?_, hb⟩
    exact hL.textsAt (fun k h1 h2 => hk k (Or.inr h1) h2)
  disk := fun hl => by
    obtain ⟨⟨v, hs, h, _, _⟩, _⟩ := hl
    exact (disk_any h).mono fun e w' ⟨he, hw⟩ => ⟨he, by subst hw; exact Below.refl _ _⟩
end Go.Proofs.Ytlkeobohcfbgcaa.Wl

/- Package disk, as it landed: New. -/
namespace Go.Proofs.Ytlkeobohcfbgcaa.Dk
open Go.RowKit

set_option maxRecDepth 100000 in
set_option maxHeartbeats 1000000 in
theorem new_bad (n : Int) (w : World) (h : n < 0 ∨ 4096 < n) :
    Calls Try.prog 12 #[.int .i64 n] w fun e w' => e = .returned (.tuple #[.pointer none, .int .i64 1]) ∧ Below w.heap.size w w' := by
  by_cases h0 : n < 0
  · clear h
    go_enter Try.func12, Try.ntmps12
    go_wp2_with fail
    go_ret2
    exact ⟨rfl, Below.refl _ _⟩
  · have h4 : n > 4096 := by omega
    clear h
    go_enter Try.func12, Try.ntmps12
    go_wp2_with fail
    go_ret2
    exact ⟨rfl, Below.refl _ _⟩
set_option maxRecDepth 100000 in
set_option maxHeartbeats 1000000 in
theorem new_any (n : Int) (w : World) (h0 : 0 ≤ n) (h4 : n ≤ 4096) :
    Calls Try.prog 12 #[.int .i64 n] w fun e w' => ∃ g P, e = .returned (.tuple #[.pointer (some ⟨g, 0, none⟩), .int .i64 0]) ∧ PD w' g P (D.new n.toNat) ∧ (∀ k, P k → w.heap.size ≤ k) ∧ Below w.heap.size w w' := by
  obtain ⟨m, rfl⟩ : ∃ m : Nat, n = m := ⟨n.toNat, by omega⟩
  have hm : m ≤ 4096 := by omega
  have M1 := make_secs m hm w
  have n0 : ¬ (m : Int) < 0 := by omega
  have n4 : ¬ (m : Int) > 4096 := by omega
  go_enter Try.func12, Try.ntmps12
  go_wp2_with fail
  go_ret2
  have b1 := (Below.refl w.heap.size w).alloc (Nat.le_refl _) (.cells (u8s (zeros (64 * m))) 74)
  generalize hw1 : w.alloc (.cells (u8s (zeros (64 * m))) 74) = w1 at *
  have s1 : w1.heap.size = w.heap.size + 1 := by rw [← hw1]; simp
  have r1 : w1.heap[w.heap.size]? = some (.cells (u8s (zeros (64 * m))) 74 (0, 0)) := by rw [← hw1]; exact heap_alloc_new w _
  have b2 := b1.alloc b1.size (.cells (rowOf (some ⟨w.heap.size, 0, none⟩) m m false 0 0 false 0) 60)
  have r2 := heap_alloc_new w1 (.cells (rowOf (some ⟨w.heap.size, 0, none⟩) m m false 0 0 false 0) 60)
  rw [s1] at r2
  refine ⟨w.heap.size + 1, rfl, fun k => k = w.heap.size + 1 ∨ ∃ a, some (⟨w.heap.size, 0, none⟩ : Addr) = some a ∧ k = a.block, ⟨some ⟨w.heap.size, 0, none⟩, m, [], false, 0, 0, ⟨r2, Or.inr ⟨_, rfl, by omega, ?_⟩, fun _ => ⟨rfl, fun e => absurd e (show ¬ (0 : Int) ≤ -1 by omega)⟩, D.new_ok hm⟩, fun _ => Iff.rfl⟩, ?_, b2⟩
  · refine (heap_alloc_old w1 _ (by omega)).trans ?_
    rw [List.append_nil, vals_toArray]
    exact r1
  · rintro k (rfl | ⟨a, ha, rfl⟩)
    · omega
    · cases ha; exact Nat.le_refl _
end Go.Proofs.Ytlkeobohcfbgcaa.Dk

/- The examples of the chapter stand, over whatever log keeps the contracts. -/
namespace Go.Proofs.Ytlkeobohcfbgcaa.Wl
open Go.RowKit

variable {LD : World → Nat → (Nat → Prop) → Nat → Nat → G → Prop}
set_option maxRecDepth 100000 in
set_option maxHeartbeats 4000000 in
theorem walive_any (A : Api LD) (w : World) :
    Calls Try.prog 8 #[] w fun e w' => e = .returned (.bool true) ∧ Below w.heap.size w w' := by
  have kc := fun (w : World) (C : Array Value) (n c : Nat) => Lib.run_convert_bytes_const (P := Try.prog) w 36 5 C n c A22 U5
  go_enter Try.func8, Try.ntmps8
  go_wp2_with fail
  refine (Dk.new_any 3 w (by omega) (by omega)).mono ?_
  rintro e w1 ⟨gd, P, rfl, d1, p1, b1⟩
  rw [show (3 : Int).toNat = 3 from rfl] at d1
  have D1 := Lib.hid d1
  have P1 := Lib.hid p1
  have B1 := Lib.hid b1
  clear d1 p1 b1
  go_wp2_with fail
  refine (A.openYes [] D1.out rfl (zeros_good 3).reads).mono ?_
  rintro e w2 ⟨gl, Q, rfl, l2, q2, b2⟩
  have S2 := Lib.hid (show St LD w w2 gd P (Dk.D.new 3) gl Q ⟨[], false⟩ from ⟨Dk.PD.keep (fun _ => False) D1.out (Dk.Only.of_below _ b2) (fun _ _ e => e), l2, fun k hp hq => by have := Dk.PD.lt D1.out k hp; have := q2 k hq; omega, fun k hk => hk.elim (P1.out k) (fun e => Nat.le_trans B1.out.size (q2 k e)), B1.out.trans (b2.mono B1.out.size)⟩)
  clear l2 q2 b2 D1 P1 B1
  obtain ⟨s3, ha3, h3⟩ := app_whole (R := []) (s := Dk.D.new 3) (b := [97, 98, 99]) (Dk.D.new_ok (by omega)) rfl (zeros_good 3) (fun x hx => by simp at hx; omega) (by simp) (by decide) (Or.inl (by decide))
  have H3 := Lib.hid h3
  have HA3 := Lib.hid ha3
  clear h3 ha3
  go_wp2_with fail
  have hb3 := (Below.refl w2.heap.size w2).alloc (Nat.le_refl _) (.cells #[.int .u8 97, .int .u8 98, .int .u8 99] 5 (3, 4))
  have hr3 := heap_alloc_new w2 (.cells #[.int .u8 97, .int .u8 98, .int .u8 99] 5 (3, 4))
  have S3 := Lib.hid (S2.out.later A hb3)
  have T3 := Lib.hid (Bytes.row (L := [97, 98, 99]) hr3 (fun x hx => by simp at hx; omega)).tx
  have N3 := Lib.hid (show ¬ P w2.heap.size ∧ ¬ Q w2.heap.size from ⟨fun e => Nat.lt_irrefl _ (Dk.PD.lt S2.out.disk _ e), fun e => Nat.lt_irrefl _ (A.lt S2.out.log _ e)⟩)
  clear hb3 hr3 S2 kc
  generalize w2.alloc (.cells #[.int .u8 97, .int .u8 98, .int .u8 99] 5 (3, 4)) = w3 at *
  refine (A.append [97, 98, 99] _ 3 3 S3.out.disk S3.out.log S3.out.apart T3.out (fun x hx _ => by cases hx; exact N3.out) (by omega) (by decide) (by simp)).mono ?_
  rintro e w4 ⟨rfl, P4, Q4, d4, l4, p4, q4, a4, o4⟩
  rw [HA3.out]
  have S4 := Lib.hid (S3.out.app d4 l4 p4 q4 a4 o4)
  rw [HA3.out] at S4
  clear d4 l4 p4 q4 a4 o4 S3 T3 N3
  go_wp2_with fail
  refine (A.openYes [[97, 98, 99]] S4.out.disk H3.out.dead H3.out.good.reads).mono ?_
  rintro e w5 ⟨gl5, Q5, rfl, l5, q5, b5⟩
  have S5 := Lib.hid (S4.out.later A b5)
  have L5 := Lib.hid l5
  clear l5 q5 b5 S4
  have hn3 : s3.n = 3 := H3.out.n
  have hfr : s3.n - G.used ⟨[[97, 98, 99]], false⟩ = 2 := by rw [hn3]; decide
  have n0 : needI 0 = 1 := by decide
  have n1 : needI 19 = 1 := by decide
  have n2 : needI 20 = 2 := by decide
  have n3 : needI 83 = 2 := by decide
  have n4 : needI 84 = 3 := by decide
  clear hn3
  go_wp2_with fail
  refine (A.free S5.out.disk S5.out.log).mono ?_
  rintro e w6 ⟨rfl, b6⟩
  rw [show ([] : List (List Nat)) ++ [[97, 98, 99]] = [[97, 98, 99]] from rfl, hfr]
  have B6 := Lib.hid (S5.out.low.trans (b6.mono S5.out.low.size))
  have L6 := Lib.hid (A.keep (fun _ => False) L5.out (Dk.Only.of_below _ b6) (fun _ _ e => e))
  clear b6 hfr L5 S5
  go_wp2_with fail
  refine (A.need 0 w6 (by omega) (by omega)).mono ?_
  rintro e w7 ⟨rfl, b7⟩
  rw [n0]
  have B7 := Lib.hid (B6.out.trans (b7.mono B6.out.size))
  have L7 := Lib.hid (A.keep (fun _ => False) L6.out (Dk.Only.of_below _ b7) (fun _ _ e => e))
  clear b7 n0 L6
  go_wp2_with fail
  refine (A.need 19 w7 (by omega) (by omega)).mono ?_
  rintro e w8 ⟨rfl, b8⟩
  rw [n1]
  have B8 := Lib.hid (B7.out.trans (b8.mono B7.out.size))
  have L8 := Lib.hid (A.keep (fun _ => False) L7.out (Dk.Only.of_below _ b8) (fun _ _ e => e))
  clear b8 n1 L7
  go_wp2_with fail
  refine (A.need 20 w8 (by omega) (by omega)).mono ?_
  rintro e w9 ⟨rfl, b9⟩
  rw [n2]
  have B9 := Lib.hid (B8.out.trans (b9.mono B8.out.size))
  have L9 := Lib.hid (A.keep (fun _ => False) L8.out (Dk.Only.of_below _ b9) (fun _ _ e => e))
  clear b9 n2 L8
  go_wp2_with fail
  refine (A.need 83 w9 (by omega) (by omega)).mono ?_
  rintro e w10 ⟨rfl, b10⟩
  rw [n3]
  have B10 := Lib.hid (B9.out.trans (b10.mono B9.out.size))
  have L10 := Lib.hid (A.keep (fun _ => False) L9.out (Dk.Only.of_below _ b10) (fun _ _ e => e))
  clear b10 n3 L9
  go_wp2_with fail
  refine (A.need 84 w10 (by omega) (by omega)).mono ?_
  rintro e w11 ⟨rfl, b11⟩
  rw [n4]
  have B11 := Lib.hid (B10.out.trans (b11.mono B10.out.size))
  have L11 := Lib.hid (A.keep (fun _ => False) L10.out (Dk.Only.of_below _ b11) (fun _ _ e => e))
  clear b11 n4 L10
  go_wp2_with fail
  refine (A.records L11.out).mono ?_
  rintro e w12 ⟨q, m, c, rfl, tx, b12⟩
  obtain rfl : m = 1 := tx.size
  have B12 := Lib.hid (B11.out.trans (b12.mono B11.out.size))
  clear tx b12
  go_wp2_with fail
  go_ret
  exact ⟨rfl, B12.out⟩
end Go.Proofs.Ytlkeobohcfbgcaa.Wl

/- An argument that is bytes, opened. -/
namespace Go.Proofs.Ytlkeobohcfbgcaa
open Go.ChangeShapes Go.WideShapes Go.ChangeAt Go.RowKit Go.Deep

theorem C22 : Try.prog.cellsOf 36 = 1 := by kernel_rfl
/-- Bytes, as the reading has them. -/
theorem open_bytes {H : Type} {enc : TypeId × Value → H} {W : World} {base : Nat} {held : Bool} {fuel : Nat} {a0 : Option Addr} {len0 cap0 : Nat} {x : DataW H × List MemPlace}
    (h : DataW.trod enc Try.prog W base (fun _ => true) held fuel 36 (Value.slice a0 len0 cap0).cells.toList = some x) : (∃ B, Tx W a0 len0 cap0 B) ∧ len0 ≤ 9223372036854775807 := by
  rcases open_ints Try.underlying36 Try.underlying5 C5 h with ⟨hcs, _⟩ | ⟨a, len, cap, zs, hcs, _, hl, hm, hz, _, hx, hw⟩
  · simp [Value.cells] at hcs
    obtain ⟨rfl, rfl, rfl⟩ := hcs
    exact ⟨⟨[], rfl, Nat.le_refl _, fun x hx => by simp at hx, Or.inl ⟨rfl, rfl⟩, fun _ h _ => by cases h⟩, by omega⟩
  · simp [Value.cells] at hcs
    obtain ⟨rfl, rfl, rfl⟩ := hcs
    simp only [if_true] at hz
    refine ⟨⟨nats zs len0, by simp [nats]; omega, hl, nats_ok hw _, Or.inr ⟨a, rfl, fun j u hu => ?_⟩, fun y hy hc => ?_⟩, by unfold maxLen at hm; omega⟩
    · obtain ⟨hj, rfl⟩ := nats_get hw len0 j (by omega) u hu
      exact hx j (by omega)
    · cases hy
      have := World.cell?_spot (hx 0 (by omega))
      simpa [Addr.add] using this
end Go.Proofs.Ytlkeobohcfbgcaa

/- An argument that is a list of Steps, opened. -/
namespace Go.Proofs.Ytlkeobohcfbgcaa.Wl
open Go.ChangeShapes Go.WideShapes Go.ChangeAt Go.RowKit Go.Deep

/-- One Step, as it lies in memory: B, Dies, K, Torn. -/
structure Step where
  bp : Option Addr
  (bn bc : Nat)
  B : List Nat
  dies : Bool
  k : Int
  torn : Int
def Step.cells (t : Step) : List Value := [.slice t.bp t.bn t.bc, .bool t.dies, .int .i64 t.k, .int .i64 t.torn]
structure Step.Ok (w : World) (t : Step) : Prop where
  b : Tx w t.bp t.bn t.bc t.B
  bl : t.bn ≤ 9223372036854775807
  k : -9223372036854775808 ≤ t.k ∧ t.k ≤ 9223372036854775807
  torn : -9223372036854775808 ≤ t.torn ∧ t.torn ≤ 9223372036854775807
def fieldsOf : Option TypeDesc → Option (List (Nat × TypeId))
  | some (.struct fs) => some (fs.toList.map fun f => (f.offset, f.type))
  | _ => none
theorem field_at {fs : Array Field} {l : List (Nat × TypeId)} (h : fs.toList.map (fun f => (f.offset, f.type)) = l) {i o : Nat} {t : TypeId} (hi : l[i]? = some (o, t)) : ∃ f, fs[i]? = some f ∧ f.offset = o ∧ f.type = t := by
  subst h
  rw [List.getElem?_map, Option.map_eq_some_iff] at hi
  obtain ⟨f, hf, he⟩ := hi
  simp only [Prod.mk.injEq] at he
  exact ⟨f, by rw [← Array.getElem?_toList]; exact hf, he.1, he.2⟩
theorem PF : fieldsOf (Try.prog.underlying 38) = some [(0, 36), (1, 4), (2, 3), (3, 3)] := by kernel_rfl
theorem CP : Try.prog.cellsOf 38 = 4 := by kernel_rfl
theorem CI : Try.prog.cellsOf 3 = 1 := by kernel_rfl
theorem CB : Try.prog.cellsOf 4 = 1 := by kernel_rfl
theorem UI : Try.prog.underlying 3 = some (.int .i64) := by kernel_rfl
theorem UB : Try.prog.underlying 4 = some .bool := by kernel_rfl
theorem UPS : Try.prog.underlying 25 = some (.slice 38) := by kernel_rfl
section
variable {H : Type} {enc : TypeId × Value → H} {W : World} {base : Nat} {held : Bool} {fuel : Nat} {cs : List Value} {x : DataW H × List MemPlace}
theorem cells_bytes (h : DataW.trod enc Try.prog W base (fun _ => true) held fuel 36 cs = some x) : ∃ p n c B, cs = [.slice p n c] ∧ Tx W p n c B ∧ n ≤ 9223372036854775807 := by
  have h0 := h
  rcases open_ints Try.underlying36 Try.underlying5 C5 h with ⟨hcs, _⟩ | ⟨a, len, cap, zs, hcs, _⟩
  · rw [hcs] at h0
    obtain ⟨⟨B, hB⟩, hl⟩ := open_bytes (a0 := none) (len0 := 0) (cap0 := 0) h0
    exact ⟨_, _, _, B, hcs, hB, hl⟩
  · rw [hcs] at h0
    obtain ⟨⟨B, hB⟩, hl⟩ := open_bytes (a0 := some a) (len0 := len) (cap0 := cap) h0
    exact ⟨_, _, _, B, hcs, hB, hl⟩
theorem cells_step (h : DataW.trod enc Try.prog W base (fun _ => true) held fuel 38 cs = some x) : ∃ t : Step, cs = t.cells ∧ t.Ok W := by
  have hp := PF
  unfold fieldsOf at hp
  split at hp
  case h_2 => cases hp
  case h_1 fs hu =>
  simp only [Option.some.injEq] at hp
  obtain ⟨xs, n, _, _, hlen, hxs, hf⟩ := DataW.trod_struct hu h
  rw [CP] at hlen
  have get : ∀ (i o : Nat) (t : TypeId), ([(0, 36), (1, 4), (2, 3), (3, 3)] : List (Nat × TypeId))[i]? = some (o, t) →
      ∃ y, DataW.trod enc Try.prog W base (fun _ => true) held n t ((cs.drop o).take (Try.prog.cellsOf t)) = some y := fun i o t hi => by
    obtain ⟨f, h1, h2, h3⟩ := field_at hp hi
    have h4 := hf i f h1
    rw [h2, h3] at h4
    have hlt : i < xs.length := by rw [hxs]; exact (Array.getElem?_eq_some_iff.1 h1).1
    exact ⟨xs[i], by rw [h4, List.getElem?_eq_getElem hlt]⟩
  obtain ⟨y0, h0⟩ := get 0 0 _ rfl
  obtain ⟨y1, h1⟩ := get 1 1 _ rfl
  obtain ⟨y2, h2⟩ := get 2 2 _ rfl
  obtain ⟨y3, h3⟩ := get 3 3 _ rfl
  rw [C22] at h0
  rw [CB] at h1
  rw [CI] at h2 h3
  obtain ⟨bp, bn, bc, B, e0, hB, hBl⟩ := cells_bytes h0
  obtain ⟨a1, e1, _⟩ := DataW.trod_bool UB h1
  obtain ⟨a2, e2, _, w2⟩ := DataW.trod_int UI h2
  obtain ⟨a3, e3, _, w3⟩ := DataW.trod_int UI h3
  have cut : ∀ o n, cs.drop o = (cs.drop o).take n ++ cs.drop (o + n) := fun o n => by
    rw [← List.drop_drop]; exact (List.take_append_drop n _).symm
  have hall : cs = [.slice bp bn bc] ++ ([.bool a1] ++ ([.int .i64 a2] ++ ([.int .i64 a3] ++ []))) := by
    have := cut 0 1
    rw [List.drop_zero] at this
    rw [List.drop_zero] at e0
    rw [this, e0, cut 1 1, e1, cut 2 1, e2, cut 3 1, e3, List.drop_eq_nil_of_le (by omega)]
  exact ⟨⟨bp, bn, bc, B, a1, a2, a3⟩, hall, ⟨hB, hBl, bounds_i64 w2, bounds_i64 w3⟩⟩
end
instance : Inhabited Step := ⟨⟨none, 0, 0, [], false, 0, 0⟩⟩
/-- A list of Steps that lies in memory. -/
structure Steps (w : World) (p : Option Addr) (len cap : Nat) (L : List Step) : Prop where
  size : len = L.length
  le : len ≤ cap
  at' : len ≠ 0 → ∃ g o, p = some ⟨g, o, none⟩ ∧ ∀ i, i < len → w.rangeAt g (o + i * 4) (L.getD i default).cells ∧ (L.getD i default).Ok w
theorem open_steps {H : Type} {enc : TypeId × Value → H} {W : World} {base : Nat} {held : Bool} {fuel : Nat} {a0 : Option Addr} {len0 cap0 : Nat} {x : DataW H × List MemPlace}
    (h : DataW.trod enc Try.prog W base (fun _ => true) held fuel 25 (Value.slice a0 len0 cap0).cells.toList = some x) : (∃ L, Steps W a0 len0 cap0 L) ∧ len0 ≤ 9223372036854775807 := by
  rcases open_slice UPS h with ⟨hcs, _⟩ | ⟨a, len, cap, m, n, Dd, Pl, hcs, _, hl, hm, hmm, _, hx⟩
  · simp [Value.cells] at hcs
    obtain ⟨rfl, rfl, rfl⟩ := hcs
    exact ⟨⟨[], rfl, Nat.le_refl _, fun h => absurd rfl h⟩, by omega⟩
  · simp [Value.cells] at hcs
    obtain ⟨rfl, rfl, rfl⟩ := hcs
    simp only [if_true] at hmm
    rw [CP] at hx
    obtain ⟨V, hV⟩ := choose_lt (α := Step) (n := len0) (p := fun i t => W.cells? base (a.add (i * 4)) 4 = some t.cells ∧ t.Ok W) (fun i hi => by
      obtain ⟨cs', h1, h2⟩ := hx i (by omega)
      obtain ⟨t, rfl, ht⟩ := cells_step h2
      exact ⟨t, h1, ht⟩)
    refine ⟨⟨(List.range len0).map V, by simp, hl, fun hn => ?_⟩, by unfold maxLen at hm; omega⟩
    obtain ⟨g, o, spot⟩ := a
    have hspot : spot = none := by
      have h0 := (World.cells?_some (hV 0 (by omega)).1).2.2 0 (by omega)
      have := World.cell?_spot (h0.trans rfl)
      simpa [Addr.add] using this
    subst hspot
    refine ⟨g, o, rfl, fun i hi => ?_⟩
    have e : ((List.range len0).map V).getD i default = V i := by simp [List.getD_eq_getElem?_getD, hi]
    rw [e]
    refine ⟨fun j v hv => ?_, (hV i hi).2⟩
    obtain ⟨_, hlen, hc⟩ := World.cells?_some (hV i hi).1
    have hj : j < 4 := by rw [← hlen]; exact (List.getElem?_eq_some_iff.1 hv).1
    have := hc j hj
    have ap : ∀ b o n : Nat, (⟨b, o, none⟩ : Addr).add n = ⟨b, o + n, none⟩ := fun b o n => by unfold Addr.add; split <;> simp_all
    rw [hv, ap, ap] at this
    exact this
end Go.Proofs.Ytlkeobohcfbgcaa.Wl

/- The laws' Great: are steps greater than statements look at? -/
namespace Go.Proofs.Ytlkeobohcfbgcaa.Wl
open Go.RowKit

theorem Steps.four {w : World} {go oo n c : Nat} {L : List Step} (h : Steps w (some ⟨go, oo, none⟩) n c L) {k : Nat} (hk : k < n) : (L.getD k default).Ok w ∧ w.rangeAt go (oo + k * 4) (L.getD k default).cells := by
  obtain ⟨g, o, hp, hx⟩ := h.at' (by omega)
  cases hp
  exact ⟨(hx k hk).2, (hx k hk).1⟩
theorem Steps.base {w : World} {p : Option Addr} {n c : Nat} {L : List Step} (h : Steps w p n c L) (hn : n ≠ 0) : ∃ g o, p = some ⟨g, o, none⟩ := by
  obtain ⟨g, o, hp, _⟩ := h.at' hn
  exact ⟨g, o, hp⟩
def GreatPost (w : World) (n : Nat) (L : List Step) (e : Ending) (w' : World) : Prop :=
  w' = w ∧ ∃ r : Bool, e = .returned (.bool r) ∧ (r = false → ∀ j, j < n → j < 60 → (L.getD j default).bn ≤ 1000)
def GrR (w : World) (n : Nat) (L : List Step) (i : Value) (wr : World) : Prop :=
  ∃ k : Nat, k ≤ n ∧ k ≤ 60 ∧ i = .int .i64 k ∧ (∀ j, j < k → (L.getD j default).bn ≤ 1000) ∧ wr = w
set_option maxRecDepth 100000 in
set_option maxHeartbeats 1000000 in
theorem great_any (p : Option Addr) (n c : Nat) (L : List Step) (w : World) (hL : Steps w p n c L) (hn : n ≤ 9223372036854775807) :
    Calls Try.prog 11 #[.slice p n c] w (GreatPost w n L) := by
  have HL := Lib.hid hL
  have hnc := hL.le
  clear hL
  go_enter Try.func11, Try.ntmps11
  go_wp2_with fail
  go_loopw [3] (fun i wr => GrR w n L i wr) (fun i _ => 60 - (intOf i).toNat)
  case atStart => exact ⟨0, by omega, by omega, rfl, (fun j hj => by omega), rfl⟩
  case round =>
    obtain ⟨k, hk, hk60, rfl, hall, rfl⟩ := hrel
    have HA := Lib.hid hall
    clear hall
    by_cases hlt : k < n
    · have l1 : (k : Int) < n := by omega
      by_cases hlt2 : k < 60
      · have l2 : (k : Int) < 60 := by omega
        obtain ⟨go, oo, rfl⟩ := HL.out.base (by omega)
        obtain ⟨_, tr⟩ := HL.out.four hlt
        have c0 := tr 0 _ rfl
        rw [Nat.add_zero] at c0
        have i1 : (0 : Int) ≤ k ∧ (k : Int) < n := by omega
        have HNX := Lib.hid (show (L.getD k default).bn ≤ 1000 → ∀ j, j < k + 1 → (L.getD j default).bn ≤ 1000 from fun h j hj => by
          by_cases hjk : j = k
          · rw [hjk]; exact h
          · exact HA.out j (by omega))
        clear tr
        generalize L.getD k default = t at *
        by_cases hb : (t.bn : Int) > 1000
        · go_wp2_with fail
          go_ret
          exact ⟨rfl, true, rfl, fun h => by cases h⟩
        · go_wp2_with fail
          go_roundw
          case rel => exact ⟨k + 1, by omega, by omega, by go_num, HNX.out (by omega), rfl⟩
          case measure => simp [intOf]; omega
      · have l2 : ¬ (k : Int) < 60 := by omega
        go_wp2_with fail
        go_ret
        exact ⟨rfl, false, rfl, fun _ j _ hj => HA.out j (by omega)⟩
    · have l1 : ¬ (k : Int) < n := by omega
      go_wp2_with fail
      go_ret
      exact ⟨rfl, false, rfl, fun _ j hj _ => HA.out j (by omega)⟩
end Go.Proofs.Ytlkeobohcfbgcaa.Wl
