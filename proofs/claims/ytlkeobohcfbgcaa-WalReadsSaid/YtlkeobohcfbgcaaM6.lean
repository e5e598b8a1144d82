/- WpWrite, ShaWriteA, ShaWriteC, ShaWriteD, ShaDone, ShaHash. -/
import Derived.Test.YtlkeobohcfbgcaaM5
import Derived.Deep.RegionHeld3
/- Package wal, as it landed: a record comes to the disk. -/
namespace Go.Proofs.Ytlkeobohcfbgcaa.Wl
open Go.RowKit Go.Shelf
attribute [local go_sem] Oper.semAt_some

/-- The cells that are read while a record is written. -/
structure RdS (w : World) (gl gd u : Nat) (q : Option Addr) (m c : Nat) (rc : Array Value) (w' : World) : Prop where
  a0 : w'.cell? ⟨w.heap.size, 0, none⟩ = some (.pointer (some ⟨gl, 0, none⟩))
  a1 : w'.cell? ⟨gl, 0, none⟩ = some (.pointer (some ⟨gd, 0, none⟩))
  a2 : w'.cell? ⟨gl, 34, none⟩ = some (.int .i64 u)
  a3 : w'.cell? ⟨w.heap.size + 1, 1, none⟩ = some (.slice q m c)
  a4 : w'.heap[w.heap.size + 1]? = some (.cells rc 65 (0, 0))
theorem WW.rds {w wx : World} {gl gd : Nat} {P P' X : Nat → Prop} {s : Dk.D} {rc : Array Value} {er : Int} {v : Value} {hs : List Value} {g : G} {k : Nat} {q : Option Addr} {m c : Nat} {D : List Nat} (h : WW w wx gl gd P P' s rc er X) (hl : LA w gl gd v hs g) (hap : ∀ k, P k → ¬ LQ gl v hs k) (hrc : rc = recA k q m c D) : RdS w gl gd g.used q m c rc wx := by
  have hx := h.la hl hap
  have hb := h.b1
  exact ⟨(cell_of_row wx _ 0 _ _ _ h.b0).trans rfl, hx.c0, hx.c34, rec_c1 (by rw [hrc] at hb; exact hb), hb⟩
theorem RdS.later {w w' w'' : World} {gl gd u : Nat} {q : Option Addr} {m c : Nat} {rc : Array Value} (h : RdS w gl gd u q m c rc w') (hb : Below w'.heap.size w' w'') : RdS w gl gd u q m c rc w'' :=
  ⟨(hb.cell (block_lt_of_cell h.a0)).trans h.a0, (hb.cell (block_lt_of_cell h.a1)).trans h.a1, (hb.cell (block_lt_of_cell h.a2)).trans h.a2, (hb.cell (block_lt_of_cell h.a3)).trans h.a3, (hb.block _ (Array.getElem?_eq_some_iff.1 h.a4).1).trans h.a4⟩
def WrPost (w : World) (gd : Nat) (P : Nat → Prop) (r : Dk.D × Nat) (e : Ending) (w' : World) : Prop := e = .returned (.int .i64 (r.2 : Nat)) ∧ ∃ P', Dk.PD w' gd P' r.1 ∧ (∀ k, P' k → P k ∨ w.heap.size ≤ k) ∧ Dk.Only P w w'
theorem WW.post {w wx : World} {gl gd : Nat} {P P' X : Nat → Prop} {s : Dk.D} {rc : Array Value} {er : Nat} (h : WW w wx gl gd P P' s rc (er : Int) X) : WrPost w gd P (s, er) (.returned (.int .i64 (er : Int))) wx :=
  ⟨rfl, P', h.disk, fun k hk => (h.sub k hk).imp id (fun e => by omega), h.only⟩
/-- The error is told. -/
theorem ret_err {w2 : World} {tmps : Array Value} {g2 : Nat} {er : Int} {R : Ending → World → Prop} (hp : tmps.getD 4 undef = .pointer (some ⟨g2, 0, none⟩)) (hc : w2.cell? ⟨g2, 0, none⟩ = some (.int .i64 er)) (h : R (.returned (.int .i64 er)) w2) : bodyPostM Fence.wide 5 Try.prog Try.f38 R .ret ⟨tmps, []⟩ w2 := by
  refine ⟨.int .i64 er, ?_, h⟩
  have hp' : tmps[4]?.getD undef = .pointer (some ⟨g2, 0, none⟩) := by simpa using hp
  simp [results, Try.f38, go_sem, hp', hc]
theorem ret_mark {w2 : World} {tmps : Array Value} {g2 D : Nat} {er : Int} {R : Ending → World → Prop} (hp : tmps.getD 4 undef = .pointer (some ⟨g2, 0, none⟩)) (hc : w2.cell? ⟨g2, 0, none⟩ = some (.int .i64 er)) (hK : w2.heap[D]? = some (.deferred (some []))) (h : R (.returned (.int .i64 er)) (w2.putObj D (.deferred none))) : bodyPostM Fence.wide 5 Try.prog Try.f38 R .ret ⟨tmps, [{ target := .collected D, args := #[] }]⟩ w2 := by
  refine ⟨by simp, .inl ⟨_, _, rfl, run_takeDeferred hK, ?_⟩⟩
  refine ⟨.int .i64 er, ?_, h⟩
  have hp' : tmps[4]?.getD undef = .pointer (some ⟨g2, 0, none⟩) := by simpa using hp
  have hc' := cell_kept hc (grownBy_putObj' _ D (.deferred none)) (fun r e => by cases e; exact ⟨_, hK, rfl⟩)
  simp [results, Try.f38, go_sem, hp', hc']
theorem op_load_rec {ρ : Operand → Value} {o : Oper} {x : Operand} {w : World} {g : Nat} {rc : Array Value} (ho : o.op = .load 65 x) (hx : ρ x = .pointer (some ⟨g, 0, none⟩)) (hs : rc.size = 34) (h : w.heap[g]? = some (.cells rc 65 (0, 0))) : (execOp ρ o).run Try.prog w = .ok (.value (.agg rc)) w := by
  have hd : (match Try.prog.underlying 65 with | some (.struct _) => true | _ => false) = true := by kernel_rfl
  obtain ⟨fs, hu⟩ : ∃ fs, Try.prog.underlying 65 = some (.struct fs) := by
    generalize Try.prog.underlying 65 = x at hd
    cases x with
    | none => cases hd
    | some d => cases d <;> first | exact ⟨_, rfl⟩ | cases hd
  unfold execOp
  simp only [ho, hx, Instr.loadAt, Instr.sureAddr, Sem.run_bind, Sem.run_pure, Result.andThen_ok, run_loadVar_row _ g _ 65 rc (0, 0) (.struct fs) h hu rfl (by rw [hs]; exact S34)]
theorem wrs_length (u : Nat) (B pre : List Nat) : (wrs u B pre).length = pre.length := by simp [wrs]
section
variable (w : World) (gl gd : Nat) (P : Nat → Prop) (rc : Array Value) (X : Nat → Prop) (s6 : Dk.D) (u : Nat) (B : List Nat) (ab H : Nat)
/-- Between two rounds: these parts have come. -/
def WrI (pre : List Nat) (W : World) : Prop := ∃ P' s', WW w W gl gd P P' s' rc 0 X ∧ doAll s6 (wrs u B pre) = (s', 0) ∧ W.heap[ab]? = some (.cells #[.int .i64 ((u + pre.length : Nat) : Int)] 3 (0, 0)) ∧ H ≤ W.heap.size
/-- A write told an error. -/
def WrX (c : Code) (pre : List Nat) (W : World) : Prop := c = .ret ∧ ∃ P' s', ∃ er : Nat, WW w W gl gd P P' s' rc (er : Int) X ∧ doAll s6 (wrs u B pre) = (s', er) ∧ er ≠ 0
theorem wrI_own {H' : Nat} (hH : w.heap.size ≤ H') : OwnFrom H' (WrI w gl gd P rc X s6 u B ab H) := fun pre W W' row ⟨P', s', hV, hd, ha, hs⟩ hg hr => by
  refine ⟨P', s', hV.grown hg (fun r e => ⟨Nat.le_trans hH (hr r e).1, (hr r e).2⟩), hd, (hg.block ab (Array.getElem?_eq_some_iff.1 ha).1 (fun e => ?_)).trans ha, Nat.le_trans hs hg.size⟩
  obtain ⟨_, o, ho, hc⟩ := hr ab e.symm
  rw [ha] at ho
  cases ho
  cases hc
theorem wrX_own {H' : Nat} (hH : w.heap.size ≤ H') (c : Code) : OwnFrom H' (WrX w gl gd P rc X s6 u B c) := fun _pre _W _W' _row ⟨h, P', s', er, hV, r⟩ hg hr =>
  ⟨h, P', s', er, hV.grown hg (fun r e => ⟨Nat.le_trans hH (hr r e).1, (hr r e).2⟩), r⟩
end
set_option maxRecDepth 100000 in
set_option maxHeartbeats 2500000 in
theorem write_log {w : World} {gl gd : Nat} {v : Value} {hs : List Value} {g : G} {P : Nat → Prop} {s : Dk.D} (h : LA w gl gd v hs g) (hd : Dk.PD w gd P s) (hap : ∀ k, P k → ¬ LQ gl v hs k) (b : List Nat) (q : Option Addr) (m c : Nat) (hT : Tx w q m c b) (hx : ∀ x, q = some x → b ≠ [] → ¬ P x.block) (hm : m ≤ 100000) (hR : g.R.length < 100000) (hfit : g.used + need b.length ≤ s.n) (hw : s.writes < 990000) :
    Calls Try.prog 38 #[.pointer (some ⟨gl, 0, none⟩), .agg (recA g.R.length q m c (rsum (last g.R g.R.length) g.R.length b))] w (WrPost w gd P (doAll s (plan s.n g.used (last g.R g.R.length) g.R.length b))) := by
  have hn := (Dk.PD.okay hd).small
  obtain ⟨rc, hrc⟩ : ∃ rc, rc = recA g.R.length q m c (rsum (last g.R g.R.length) g.R.length b) := ⟨_, rfl⟩
  have HRC := Lib.hid hrc
  obtain ⟨k, hk⟩ : ∃ k, k = g.R.length := ⟨_, rfl⟩
  have HK := Lib.hid hk
  have HMB := Lib.hid hT.size
  obtain ⟨u, hu⟩ : ∃ u, u = g.used := ⟨_, rfl⟩
  have HU := Lib.hid hu
  obtain ⟨z, hz⟩ : ∃ z, z = need b.length := ⟨_, rfl⟩
  have HZ := Lib.hid hz
  have hz6 : 1 ≤ z ∧ z ≤ 1564 := by have := HMB.out; rw [hz]; unfold need; omega
  have hfit' : u + z ≤ s.n := by rw [hu, hz]; exact hfit
  obtain ⟨hz1, hz6⟩ := hz6
  have hLD := last_length g.R g.R.length
  rw [← hrc]
  rw [← hu]
  have b1 := (Below.refl w.heap.size w).alloc (Nat.le_refl _) (.cells #[.pointer (some ⟨gl, 0, none⟩)] 31)
  have b2 := b1.alloc b1.size (.cells rc 65)
  have b3 := b2.alloc b2.size (.cells #[.int .i64 0] 28)
  have s1 : (w.alloc (.cells #[.pointer (some ⟨gl, 0, none⟩)] 31)).heap.size = w.heap.size + 1 := by simp
  have s2 : ((w.alloc (.cells #[.pointer (some ⟨gl, 0, none⟩)] 31)).alloc (.cells rc 65)).heap.size = w.heap.size + 2 := by simp
  have r1 := heap_alloc_new w (.cells #[.pointer (some ⟨gl, 0, none⟩)] 31)
  have r2 := heap_alloc_new (w.alloc (.cells #[.pointer (some ⟨gl, 0, none⟩)] 31)) (.cells rc 65)
  have r3 := heap_alloc_new ((w.alloc (.cells #[.pointer (some ⟨gl, 0, none⟩)] 31)).alloc (.cells rc 65)) (.cells #[.int .i64 0] 28)
  have HV := Lib.hid (show WW w (((w.alloc (.cells #[.pointer (some ⟨gl, 0, none⟩)] 31)).alloc (.cells rc 65)).alloc (.cells #[.int .i64 0] 28)) gl gd P P s rc 0 (fun _ => False) from
    ⟨Dk.PD.keep (fun _ => False) hd (Dk.Only.of_below _ b3) (fun _ _ e => e), fun j hj => Or.inl hj, fun j hj => Dk.PD.lt hd j hj, Dk.Only.of_below _ b3,
      (Below.heap_alloc _ (.cells #[.int .i64 0] 28) _ (by rw [s2]; omega)).trans ((Below.heap_alloc _ (.cells rc 65) _ (by rw [s1]; omega)).trans r1),
      (Below.heap_alloc _ (.cells #[.int .i64 0] 28) _ (by rw [s2]; omega)).trans (by rw [s1] at r2; exact r2), by rw [s2] at r3; exact r3⟩)
  have HLA := Lib.hid h
  have HAP := Lib.hid hap
  have HT := Lib.hid hT
  have HX := Lib.hid hx
  have HB := Lib.hid b3
  clear b1 b2 b3 s1 s2 r1 r2 r3 h hd hap hT hx hrc hk hu hz hfit
  refine callsIn_wide.1 (callsIn_of_wp_marks (n := 5) Try.func38 rfl trivial ?_ rfl)
  simp only [Try.ntmps38, List.size_toArray, List.length_cons, List.length_nil, Nat.reduceAdd, Nat.reduceSub, Array.replicate_succ, Array.replicate_zero, List.push_toArray, List.append_toArray, List.nil_append, List.cons_append]
  refine wpIn_wide.2 ?_
  go_upto_region 1 with fail
  generalize hw3 : ((w.alloc (.cells #[.pointer (some ⟨gl, 0, none⟩)] 31)).alloc (.cells rc 65)).alloc (.cells #[.int .i64 0] 28) = w3 at *
  have HN := Lib.hid ((needI_nat hm).trans ((congrArg need HMB.out).trans HZ.out.symm))
  have HRD := Lib.hid (show ∀ wx P' s' er X, WW w wx gl gd P P' s' rc er X → RdS w gl gd u q m c rc wx from fun wx P' s' er X hv => by
    rw [HU.out]
    exact hv.rds HLA.out HAP.out HRC.out)
  have q1 : IntKind.i64.wrap ((u : Int) + (z : Int)) = (u : Int) + (z : Int) := IntWalk.i64_in _ (by omega)
  refine region_nrm (S := fun w' => Below w3.heap.size w3 w') (by kernel_rfl) (Below.refl _ _ |>.drew) (fun hHeld => ?_)
  refine wpAnyH_take (i := 0) (oi := ⟨some 10, .load 31 (.tmp 2), _, _, _, _⟩) (v := ?_) rfl (by kernel_rfl) (by kernel_rfl) (by kernel_rfl) (fun _ _ _ h => h) (Or.inl ⟨by rfl, ?_⟩) (by assumption) ?_
  rotate_left
  · intro w' hSw
    obtain ⟨e0, e1, e2, e3, _⟩ := (HRD.out _ _ _ _ _ HV.out).later hSw
    go_simp
    try with_reducible rfl
  try simp only [Act.put, List.setIfInBounds_toArray, List.set_cons_zero, List.set_cons_succ]
  refine wpAnyH_take (i := 1) (oi := ⟨some 11, .nilCheck (.tmp 10), _, _, _, _⟩) (v := ?_) rfl (by kernel_rfl) (by kernel_rfl) (by kernel_rfl) (fun _ _ _ h => h) (Or.inl ⟨by rfl, ?_⟩) (by assumption) ?_
  rotate_left
  · intro w' hSw
    go_simp
    try with_reducible rfl
  try simp only [Act.put, List.setIfInBounds_toArray, List.set_cons_zero, List.set_cons_succ]
  refine wpAnyH_take (i := 2) (oi := ⟨some 12, .fieldAddr 62 (.tmp 11) 3, _, _, _, _⟩) (v := ?_) rfl (by kernel_rfl) (by kernel_rfl) (by kernel_rfl) (fun _ _ _ h => h) (Or.inl ⟨by rfl, ?_⟩) (by assumption) ?_
  rotate_left
  · intro w' hSw
    go_simp
    try with_reducible rfl
  try simp only [Act.put, List.setIfInBounds_toArray, List.set_cons_zero, List.set_cons_succ]
  refine wpAnyH_take (i := 3) (oi := ⟨some 13, .load 3 (.tmp 12), _, _, _, _⟩) (v := ?_) rfl (by kernel_rfl) (by kernel_rfl) (by kernel_rfl) (fun _ _ _ h => h) (Or.inl ⟨by rfl, ?_⟩) (by assumption) ?_
  rotate_left
  · intro w' hSw
    obtain ⟨e0, e1, e2, e3, _⟩ := (HRD.out _ _ _ _ _ HV.out).later hSw
    go_simp
    try with_reducible rfl
  try simp only [Act.put, List.setIfInBounds_toArray, List.set_cons_zero, List.set_cons_succ]
  refine wpAnyH_take (i := 4) (oi := ⟨some 14, .fieldAddr 65 (.tmp 3) 1, _, _, _, _⟩) (v := ?_) rfl (by kernel_rfl) (by kernel_rfl) (by kernel_rfl) (fun _ _ _ h => h) (Or.inl ⟨by rfl, ?_⟩) (by assumption) ?_
  rotate_left
  · intro w' hSw
    go_simp
    try with_reducible rfl
  try simp only [Act.put, List.setIfInBounds_toArray, List.set_cons_zero, List.set_cons_succ]
  refine wpAnyH_take (i := 5) (oi := ⟨some 15, .load 36 (.tmp 14), _, _, _, _⟩) (v := ?_) rfl (by kernel_rfl) (by kernel_rfl) (by kernel_rfl) (fun _ _ _ h => h) (Or.inl ⟨by rfl, ?_⟩) (by assumption) ?_
  rotate_left
  · intro w' hSw
    obtain ⟨e0, e1, e2, e3, _⟩ := (HRD.out _ _ _ _ _ HV.out).later hSw
    go_simp
    try with_reducible rfl
  try simp only [Act.put, List.setIfInBounds_toArray, List.set_cons_zero, List.set_cons_succ]
  refine wpAnyH_take (i := 6) (oi := ⟨some 16, .call ⟨.builtin .len, #[.tmp 15], #[36]⟩, _, _, _, _⟩) (v := ?_) rfl (by kernel_rfl) (by kernel_rfl) (by kernel_rfl) (fun _ _ _ h => h) (Or.inl ⟨by rfl, ?_⟩) (by assumption) ?_
  rotate_left
  · intro w' hSw
    go_simp
    try with_reducible rfl
  try simp only [Act.put, List.setIfInBounds_toArray, List.set_cons_zero, List.set_cons_succ]
  refine wpAnyH_ready (rs := [7]) (by kernel_rfl) (by simp) ?_
  refine AllReadyH.cons (o := ⟨some 17, .call ⟨.value (.func 9), #[.tmp 16], #[3]⟩, _, _, _, _⟩) rfl (fun K hK => ?_) AllReadyH.nil
  go_simp
  refine (wneed_any m _ (by omega) (by omega)).mono ?_
  rintro _ w17 ⟨rfl, rfl⟩
  rw [HN.out]
  try go_wp2_with fail
  refine hK.out _ _ hHeld (fun hHeld => ?_)
  clear hK K
  try simp only [Act.put, List.setIfInBounds_toArray, List.set_cons_zero, List.set_cons_succ]
  refine wpAnyH_take (i := 8) (oi := ⟨some 18, .binOp .add 3 (.tmp 13) (.tmp 17) 3, _, _, _, _⟩) (v := ?_) rfl (by kernel_rfl) (by kernel_rfl) (by kernel_rfl) (fun _ _ _ h => h) (Or.inl ⟨by rfl, ?_⟩) (by assumption) ?_
  rotate_left
  · intro w' hSw
    go_simp
    try with_reducible rfl
  try simp only [Act.put, List.setIfInBounds_toArray, List.set_cons_zero, List.set_cons_succ]
  refine wpAnyH_take (i := 9) (oi := ⟨some 5, .assign (.tmp 18), _, _, _, _⟩) (v := ?_) rfl (by kernel_rfl) (by kernel_rfl) (by kernel_rfl) (fun _ _ _ h => h) (Or.inl ⟨by rfl, ?_⟩) (by assumption) ?_
  rotate_left
  · intro w' hSw
    go_simp
    try with_reducible rfl
  try simp only [Act.put, List.setIfInBounds_toArray, List.set_cons_zero, List.set_cons_succ]
  refine wpAnyH_done (by kernel_rfl) ?_ _
  refine nrm_normal ?_
  have V4 := Lib.hid (HV.out.later hHeld)
  clear HV hHeld
  generalize w3.drew = w4 at *
  rw [show w.heap.size + 1 + 1 = w.heap.size + 2 from rfl]
  have R4 := Lib.hid (HRD.out _ _ _ _ _ V4.out)
  have a0 := R4.out.a0
  have a1 := R4.out.a1
  go_wp2_with fail
  refine (Dk.len_any V4.out.disk).mono ?_
  rintro e w5 ⟨rfl, b5⟩
  have V5 := Lib.hid (V4.out.later b5)
  clear b5 V4 R4 a0 a1
  go_upto_if 25 with fail
  go_cut [6] from 25 to 35 (fun _ wx => ∃ P' s', WW w wx gl gd P P' s' rc 0 (fun _ => False) ∧ doAll s (zero s.n u b) = (s', 0))
  case first =>
    by_cases hz2 : u + z < s.n
    · have l1 : (u : Int) + (z : Int) < (s.n : Int) := by omega
      rw [decide_eq_true l1]
      go_upto_region 3 with fail
      refine region_nrm (S := fun w' => RdS w gl gd u q m c rc w') (by kernel_rfl) (HRD.out _ _ _ _ _ (V5.out.later (Below.refl _ _).drew)) (fun hHeld => ?_)
      refine wpAnyH_take (i := 0) (oi := ⟨some 26, .load 31 (.tmp 2), _, _, _, _⟩) (v := ?_) rfl (by kernel_rfl) (by kernel_rfl) (by kernel_rfl) (fun _ _ _ h => h) (Or.inl ⟨by rfl, ?_⟩) (by assumption) ?_
      rotate_left
      · intro w' hSw
        obtain ⟨e0, e1, e2, e3, _⟩ := hSw
        go_simp
        try with_reducible rfl
      try simp only [Act.put, List.setIfInBounds_toArray, List.set_cons_zero, List.set_cons_succ]
      refine wpAnyH_take (i := 1) (oi := ⟨some 27, .nilCheck (.tmp 26), _, _, _, _⟩) (v := ?_) rfl (by kernel_rfl) (by kernel_rfl) (by kernel_rfl) (fun _ _ _ h => h) (Or.inl ⟨by rfl, ?_⟩) (by assumption) ?_
      rotate_left
      · intro w' hSw
        go_simp
        try with_reducible rfl
      try simp only [Act.put, List.setIfInBounds_toArray, List.set_cons_zero, List.set_cons_succ]
      refine wpAnyH_take (i := 2) (oi := ⟨some 28, .fieldAddr 62 (.tmp 27) 0, _, _, _, _⟩) (v := ?_) rfl (by kernel_rfl) (by kernel_rfl) (by kernel_rfl) (fun _ _ _ h => h) (Or.inl ⟨by rfl, ?_⟩) (by assumption) ?_
      rotate_left
      · intro w' hSw
        go_simp
        try with_reducible rfl
      try simp only [Act.put, List.setIfInBounds_toArray, List.set_cons_zero, List.set_cons_succ]
      refine wpAnyH_take (i := 3) (oi := ⟨some 29, .load 27 (.tmp 28), _, _, _, _⟩) (v := ?_) rfl (by kernel_rfl) (by kernel_rfl) (by kernel_rfl) (fun _ _ _ h => h) (Or.inl ⟨by rfl, ?_⟩) (by assumption) ?_
      rotate_left
      · intro w' hSw
        obtain ⟨e0, e1, e2, e3, _⟩ := hSw
        go_simp
        try with_reducible rfl
      try simp only [Act.put, List.setIfInBounds_toArray, List.set_cons_zero, List.set_cons_succ]
      refine wpAnyH_take (i := 4) (oi := ⟨some 30, .move (.tmp 5), _, _, _, _⟩) (v := ?_) rfl (by kernel_rfl) (by kernel_rfl) (by kernel_rfl) (fun _ _ _ h => h) (Or.inl ⟨by rfl, ?_⟩) (by assumption) ?_
      rotate_left
      · intro w' hSw
        go_simp
        try with_reducible rfl
      try simp only [Act.put, List.setIfInBounds_toArray, List.set_cons_zero, List.set_cons_succ]
      refine wpAnyH_ready (rs := [5]) (by kernel_rfl) (by simp) ?_
      refine AllReadyH.cons (o := ⟨some 31, .call ⟨.value (.func 53), #[.const (.slice none 0 0), .const (.int .i64 64)], #[36, 3]⟩, _, _, _, _⟩) rfl (fun K hK => ?_) AllReadyH.nil
      go_simp
      refine (filled_any [] none 0 0 64 _ (nil_tx _) (by omega)).mono ?_
      rintro _ w31 ⟨rfl, r31, b31⟩
      rw [fill_nil] at r31
      have V31 := Lib.hid ((V5.out.later (Below.refl _ _).drew).later b31)
      have T31 := Lib.hid (Bytes.row r31 (zeros_ok 64)).tx
      have hS31 := HRD.out _ _ _ _ _ V31.out
      have HNB := Lib.hid (show ¬ P w5.drew.heap.size from fun e => by have := V31.out.base _ e; have := V5.out.size; have e2 : w5.drew.heap.size = w5.heap.size := rfl; omega)
      clear r31 b31
      rw [show w5.drew.heap.size = w5.heap.size from rfl] at *
      try go_wp2_with fail
      refine hK.out _ _ hS31 (fun hHeld => ?_)
      clear hK K
      try simp only [Act.put, List.setIfInBounds_toArray, List.set_cons_zero, List.set_cons_succ]
      refine wpAnyH_ready (rs := [6]) (by kernel_rfl) (by simp) ?_
      refine AllReadyH.cons (o := ⟨some 32, .call ⟨.value (.func 27), #[.tmp 29, .tmp 30, .tmp 31], #[27, 3, 36]⟩, _, _, _, _⟩) rfl (fun K hK => ?_) AllReadyH.nil
      go_simp
      refine (Dk.write_any ((u + z : Nat) : Int) (zeros 64) (some ⟨w5.heap.size, 0, none⟩) 64 64 V31.out.disk T31.out (fun x hx => by cases hx; exact HNB.out) (by omega)).mono ?_
      rintro _ w32 ⟨rfl, ⟨P32, d32, p32⟩, o32⟩
      have V32 := Lib.hid (V31.out.step (fun k e => e.elim) d32 p32 o32)
      have hS32 := HRD.out _ _ _ _ _ V32.out
      clear d32 p32 o32 V31 T31 HNB
      try go_wp2_with fail
      refine hK.out _ _ hS32 (fun hHeld => ?_)
      clear hK K
      try simp only [Act.put, List.setIfInBounds_toArray, List.set_cons_zero, List.set_cons_succ]
      refine wpAnyH_take (i := 7) (oi := ⟨some 6, .assign (.tmp 32), _, _, _, _⟩) (v := ?_) rfl (by kernel_rfl) (by kernel_rfl) (by kernel_rfl) (fun _ _ _ h => h) (Or.inl ⟨by rfl, ?_⟩) (by assumption) ?_
      rotate_left
      · intro w' hSw
        go_simp
        try with_reducible rfl
      try simp only [Act.put, List.setIfInBounds_toArray, List.set_cons_zero, List.set_cons_succ]
      refine wpAnyH_done (by kernel_rfl) ?_ _
      refine nrm_normal ?_
      have HZ1 := Lib.hid (show doAll s (zero s.n u b) = (s.write ((u + z : Nat) : Int) (zeros 64), s.says ((u : Int) + (z : Int)) 64) from by
        unfold zero
        rw [← HZ.out, if_pos hz2, doAll_one]
        rfl)
      have c2 : w32.cell? ⟨w.heap.size + 2, 0, none⟩ = some (.int .i64 0) := (cell_of_row w32 (w.heap.size + 2) 0 _ _ _ V32.out.b2).trans rfl
      have f2 : w32.frozen? ⟨w.heap.size + 2, 0, none⟩ = false := frozen_of_row w32 (w.heap.size + 2) 0 _ _ V32.out.b2
      clear hHeld hS32
      generalize s.says ((u : Int) + (z : Int)) 64 = er at *
      by_cases he : er = 0
      · have he1 : (er : Int) = 0 := by omega
        have HE := Lib.hid he
        rw [he1]
        clear he he1
        go_wp2_with fail
        go_meet
        exact ⟨P32, _, V32.out, by rw [HZ1.out, HE.out]⟩
      · have he1 : ((er : Int) == 0) = false := by rw [beq_eq_false_iff_ne]; omega
        have VE := Lib.hid (V32.out.err (er : Int))
        have ce := (cell_of_row _ (w.heap.size + 2) 0 _ _ _ VE.out.b2).trans rfl
        have HE := Lib.hid he
        clear he
        go_wp2_with fail
        refine ret_err rfl ce ?_
        have e1 : doAll s (plan s.n u (last g.R g.R.length) g.R.length b) = (s.write ((u + z : Nat) : Int) (zeros 64), er) := by
          rw [plan, doAll_app, HZ1.out, if_neg HE.out]
        rw [e1]
        exact VE.out.post
    · have l1 : ¬ (u : Int) + (z : Int) < (s.n : Int) := by omega
      have HZ0 := Lib.hid (show doAll s (zero s.n u b) = (s, 0) from by unfold zero; rw [← HZ.out, if_neg hz2]; rfl)
      rw [decide_eq_false l1]
      go_wp2_with fail
      go_meet
      exact ⟨P, s, V5.out, HZ0.out⟩
  case rest =>
    obtain ⟨P6, s6, hV6, hz6'⟩ := hcut
    have V6 := Lib.hid hV6
    have HZ6 := Lib.hid hz6'
    have hn6 : s6.n = s.n := by
      have := doAll_n (zero s.n u b) s
      rw [hz6'] at this
      exact this
    have hw6 : s6.writes ≤ s.writes + 1 := by
      have := writes_le (zero s.n u b) s
      rw [hz6'] at this
      have hzl : (zero s.n u b).length ≤ 1 := by unfold zero; split <;> simp
      simp only at this
      omega
    clear hV6 hz6' V5
    generalize wc = w6 at *
    have R6 := Lib.hid (HRD.out _ _ _ _ _ V6.out)
    have a0 := R6.out.a0
    have a2 := R6.out.a2
    go_upto_region 7 with fail
    have hba := (Below.refl w6.heap.size w6).alloc (Nat.le_refl _) (.cells #[.int .i64 (u : Int)] 3)
    have V7 := Lib.hid (V6.out.later hba)
    have A7 := Lib.hid (heap_alloc_new w6 (.cells #[.int .i64 (u : Int)] 3))
    clear hba a0 a2 R6
    generalize hw7 : w6.alloc (.cells #[.int .i64 (u : Int)] 3) = w7 at *
    obtain ⟨f, hf⟩ : ∃ f : Nat, f = min m 19 := ⟨_, rfl⟩
    have HF := Lib.hid hf
    have hf1 : f ≤ m ∧ f ≤ 19 := by rw [hf]; omega
    obtain ⟨hf1, hf2⟩ := hf1
    clear hf
    have hmc := HT.out.le
    have j1 : (f : Int) ≤ (m : Int) := by omega
    have R7 := Lib.hid (HRD.out _ _ _ _ _ V7.out)
    obtain ⟨bg, o, hp7⟩ : ∃ bg o, 0 < m - f → (if c = f then q else Option.map (fun x => x.add f) q) = some ⟨bg, o, none⟩ ∧ Tx w (some ⟨bg, o, none⟩) (m - f) (c - f) (b.drop f) ∧ ¬ P bg ∧ bg < w.heap.size := by
      by_cases h0 : m - f = 0
      · exact ⟨0, 0, fun h => by omega⟩
      · have hb : b ≠ [] := by intro e; have := HMB.out; rw [e] at this; simp at this; omega
        obtain ⟨g0, o0, hq, hc0⟩ := HT.out.bytes.ne hb
        refine ⟨g0, o0 + f, fun _ => ⟨?_, ?_, HX.out _ hq hb, block_lt_of_cell (hc0 0 (List.length_pos_iff.2 hb))⟩⟩
        · rw [if_neg (by omega), hq, Option.map_some, Addr.add_mid]
        · have := HT.out.drop f hf1
          rw [hq, Option.map_some, Addr.add_mid] at this
          exact this
    have HP7 := Lib.hid hp7
    clear hp7
    refine region_nrm (S := fun w' => Below w7.heap.size w7 w') (by kernel_rfl) (Below.refl _ _ |>.drew) (fun hHeld => ?_)
    refine wpAnyH_take (i := 0) (oi := ⟨some 40, .fieldAddr 65 (.tmp 3) 1, _, _, _, _⟩) (v := ?_) rfl (by kernel_rfl) (by kernel_rfl) (by kernel_rfl) (fun _ _ _ h => h) (Or.inl ⟨by rfl, ?_⟩) (by assumption) ?_
    rotate_left
    · intro w' hSw
      go_simp
      try with_reducible rfl
    try simp only [Act.put, List.setIfInBounds_toArray, List.set_cons_zero, List.set_cons_succ]
    refine wpAnyH_take (i := 1) (oi := ⟨some 41, .load 36 (.tmp 40), _, _, _, _⟩) (v := ?_) rfl (by kernel_rfl) (by kernel_rfl) (by kernel_rfl) (fun _ _ _ h => h) (Or.inl ⟨by rfl, ?_⟩) (by assumption) ?_
    rotate_left
    · intro w' hSw
      obtain ⟨e0, e1, e2, e3, _⟩ := R7.out.later hSw
      go_simp
      try with_reducible rfl
    try simp only [Act.put, List.setIfInBounds_toArray, List.set_cons_zero, List.set_cons_succ]
    refine wpAnyH_take (i := 2) (oi := ⟨some 42, .fieldAddr 65 (.tmp 3) 1, _, _, _, _⟩) (v := ?_) rfl (by kernel_rfl) (by kernel_rfl) (by kernel_rfl) (fun _ _ _ h => h) (Or.inl ⟨by rfl, ?_⟩) (by assumption) ?_
    rotate_left
    · intro w' hSw
      go_simp
      try with_reducible rfl
    try simp only [Act.put, List.setIfInBounds_toArray, List.set_cons_zero, List.set_cons_succ]
    refine wpAnyH_take (i := 3) (oi := ⟨some 43, .load 36 (.tmp 42), _, _, _, _⟩) (v := ?_) rfl (by kernel_rfl) (by kernel_rfl) (by kernel_rfl) (fun _ _ _ h => h) (Or.inl ⟨by rfl, ?_⟩) (by assumption) ?_
    rotate_left
    · intro w' hSw
      obtain ⟨e0, e1, e2, e3, _⟩ := R7.out.later hSw
      go_simp
      try with_reducible rfl
    try simp only [Act.put, List.setIfInBounds_toArray, List.set_cons_zero, List.set_cons_succ]
    refine wpAnyH_take (i := 4) (oi := ⟨some 44, .call ⟨.builtin .len, #[.tmp 43], #[36]⟩, _, _, _, _⟩) (v := ?_) rfl (by kernel_rfl) (by kernel_rfl) (by kernel_rfl) (fun _ _ _ h => h) (Or.inl ⟨by rfl, ?_⟩) (by assumption) ?_
    rotate_left
    · intro w' hSw
      go_simp
      try with_reducible rfl
    try simp only [Act.put, List.setIfInBounds_toArray, List.set_cons_zero, List.set_cons_succ]
    refine wpAnyH_ready (rs := [5]) (by kernel_rfl) (by simp) ?_
    refine AllReadyH.cons (o := ⟨some 45, .call ⟨.value (.func 30), #[.tmp 44], #[3]⟩, _, _, _, _⟩) rfl (fun K hK => ?_) AllReadyH.nil
    go_simp
    refine (infirst_any m _).mono ?_
    rintro _ w45 ⟨rfl, rfl⟩
    rw [← HF.out]
    try go_wp2_with fail
    refine hK.out _ _ hHeld (fun hHeld => ?_)
    clear hK K
    try simp only [Act.put, List.setIfInBounds_toArray, List.set_cons_zero, List.set_cons_succ]
    refine wpAnyH_take (i := 6) (oi := ⟨some 46, .slice 36 (.tmp 41) (some (.tmp 45)) none none, _, _, _, _⟩) (v := ?_) rfl (by kernel_rfl) (by kernel_rfl) (by kernel_rfl) (fun _ _ _ h => h) (Or.inl ⟨by rfl, ?_⟩) (by assumption) ?_
    rotate_left
    · intro w' hSw
      go_simp
      try with_reducible rfl
    try simp only [Act.put, List.setIfInBounds_toArray, List.set_cons_zero, List.set_cons_succ]
    refine wpAnyH_ready (rs := [7]) (by kernel_rfl) (by simp) ?_
    refine AllReadyH.cons (o := ⟨some 47, .call ⟨.value (.func 55), #[.tmp 46, .const (.int .i64 64)], #[36, 3]⟩, _, _, _, _⟩) rfl (fun K hK => ?_) AllReadyH.nil
    go_simp
    generalize (if c = f then q else Option.map (fun x => x.add f) q) = p7 at *
    refine (chunk_any p7 (m - f) (c - f) _).mono ?_
    rintro _ w47 ⟨rfl, hw47⟩
    have b47 : Below w7.heap.size w7 w47 := by
      rw [hw47]
      exact (((Below.refl w7.heap.size w7).drew.alloc (Nat.le_refl _) _).alloc (by simp) _)
    have cs47 : w47.heap[w7.heap.size]? = some (.cells #[.slice p7 (m - f) (c - f)] 36 (0, 0)) := by
      rw [hw47]
      exact (Below.heap_alloc _ _ _ (by simp)).trans (heap_alloc_new w7.drew _)
    have cn47 : w47.heap[w7.heap.size + 1]? = some (.cells #[.int .i64 64] 3 (0, 0)) := by
      rw [hw47]
      have := heap_alloc_new (w7.drew.alloc (.cells #[.slice p7 (m - f) (c - f)] 36)) (.cells #[.int .i64 64] 3)
      rwa [show (w7.drew.alloc (.cells #[.slice p7 (m - f) (c - f)] 36)).heap.size = w7.heap.size + 1 from by simp] at this
    clear hw47
    try go_wp2_with fail
    refine hK.out _ _ b47 (fun hHeld => ?_)
    clear hK K
    try simp only [Act.put, List.setIfInBounds_toArray, List.set_cons_zero, List.set_cons_succ]
    refine wpAnyH_done (by kernel_rfl) ?_ _
    refine nrm_normal ?_
    have hw7s : w7.drew.heap.size = w7.heap.size := rfl
    rw [hw7s] at *
    have h67 : w6.heap.size < w7.heap.size := (Array.getElem?_eq_some_iff.1 A7.out).1
    have V8 := Lib.hid ((V7.out.later b47).guard (Y := fun k => k = w6.heap.size ∨ k = w7.heap.size ∨ k = w7.heap.size + 1) (fun k hk => Or.inr (fun e => by
      have h1 := Dk.PD.lt V6.out.disk k e
      omega)))
    have A8 := Lib.hid ((b47.block _ (Array.getElem?_eq_some_iff.1 A7.out).1).trans A7.out)
    have hb8 : w7.heap.size + 1 < w47.heap.size := (Array.getElem?_eq_some_iff.1 cn47).1
    have hb6 : w.heap.size + 3 ≤ w6.heap.size := V6.out.size
    have CS := Lib.hid ((cell_of_row w47 _ 0 _ _ _ cs47).trans rfl)
    have CN := Lib.hid ((cell_of_row w47 _ 0 _ _ _ cn47).trans rfl)
    have HFI := Lib.hid (show ∀ w', Tx w' q m c b → Calls Try.prog 35 #[.agg rc] w' (ClonePost w' (head (last g.R g.R.length) g.R.length b)) from fun w' ht => by
      rw [HRC.out, ← headOf_head]
      exact first_any g.R.length b _ q m c w' (by omega) ht hm (rsum_length _ _ _) (rsum_ok _ _ _))
    have HRS := Lib.hid (show rc.size = 34 from by rw [HRC.out]; exact recA_size _ _ _ _ _ (rsum_length _ _ _))
    have HNB := Lib.hid (show ∀ n', n' = (m - f + 63) / 64 → wrs u (b.drop f) (upto n') = body u b (need b.length - 1) from fun n' hn' => by
      have h1 : f = min b.length 19 := by rw [← HMB.out]; exact HF.out
      rw [wrs_upto u b h1 n' (by rw [hn', HMB.out]; exact Nat.le_refl _)]
      congr 1
      rw [hn']
      unfold need
      have := HMB.out
      omega)
    clear b47 cs47 cn47 hw7s hw7 V7 R7 A7
    generalize w6.heap.size = ab at *
    generalize w7.heap.size = Bs at *
    generalize w47 = w8 at *
    go_wp2_with fail
    refine (wpIn_wide (n := 5)).1 ?_
    refine range_own (by omega) (gf := 69) (lb := #[.pointer (some ⟨Bs, 0, none⟩), .pointer (some ⟨Bs + 1, 0, none⟩)]) rfl (enters_of Try.func69 (by kernel_rfl) rfl) (chunk_stops 4 Bs (Bs + 1) bg o (m - f) (c - f) p7 (fun h => (HP7.out h).1) (by omega) (by omega) w8 CS.out CN.out) (fun h k => ⟨k.1.trans h.1, k.2.trans h.2⟩) (fun W l o o' hl _ _ _ => ⟨World.putObj_heap_other (by omega), World.putObj_heap_other (by omega)⟩) (Below.refl _ _) (fun _ => rfl)
      (WrI w gl gd P rc (fun k => k = ab ∨ k = Bs ∨ k = Bs + 1) s6 u (b.drop f) ab w8.heap.size) (WrX w gl gd P rc (fun k => k = ab ∨ k = Bs ∨ k = Bs + 1) s6 u (b.drop f)) (wrI_own _ _ _ _ _ _ _ _ _ _ _ (by omega)) (wrX_own _ _ _ _ _ _ _ _ _ (by omega)) ⟨P6, s6, V8.out, rfl, A8.out, Nat.le_refl _⟩ 48 8 (fun x => chunk bg o (m - f) x) ?assign ?body ?done ?stop
    case assign =>
      intro l x W K hK
      gi_wp2
      exact hK
    case body =>
      rintro l pre x W ⟨P', s', hV, hdo, hat, hsz⟩ hlen
      obtain ⟨pc, ec, hch, hec, hTc, hbg⟩ := chunk_tx (B := b.drop f) (o := o) (bg := bg) (c := c - f) (by rw [List.length_drop, HMB.out]) (fun h => hV.tx (HP7.out h).2.1 (fun x hx _ => by cases hx; exact (HP7.out h).2.2.1)) x
      have hpl : pre.length ≤ 1563 := by omega
      have hsw : s'.writes < 1000000 := by
        have := writes_le (wrs u (b.drop f) pre) s6
        rw [hdo, wrs_length] at this
        simp only at this
        omega
      have h0n : ∀ y, pc = some y → chB (b.drop f) x ≠ [] → y.block = bg := fun y hy _ => hbg y hy
      have VB := Lib.hid hV
      have HDO := Lib.hid hdo
      have HTC := Lib.hid hTc
      obtain ⟨av, hav⟩ : ∃ av, av = u + pre.length := ⟨_, rfl⟩
      rw [← hav] at hat
      have HAV := Lib.hid hav
      have hav2 : av ≤ 10000 := by omega
      have q9 : IntKind.i64.wrap ((av : Int) + 1) = (av : Int) + 1 := IntWalk.i64_in _ (by omega)
      have c7 := (cell_of_row W ab 0 _ _ _ hat).trans rfl
      have f7 := frozen_of_row W ab 0 _ _ hat
      have hset := Dk.Only.setCell (P := fun j => j = ab) W (a := ⟨ab, 0, none⟩) rfl (.int .i64 ((av : Int) + 1))
      have V9 := Lib.hid (hV.turn hb6 (Or.inl rfl) hset)
      have A9 := Lib.hid (heap_setCell_same W ab 0 _ _ (.int .i64 ((av : Int) + 1)) hat)
      have K9 := Lib.hid (show KeepsFrom w8.heap.size W (W.setCell ⟨ab, 0, none⟩ (.int .i64 ((av : Int) + 1))) ∧ KpC Bs (Bs + 1) W (W.setCell ⟨ab, 0, none⟩ (.int .i64 ((av : Int) + 1))) from ⟨(KeepsOthers.setCell W ⟨ab, 0, none⟩ _).from _, hset.block Bs (by omega) (by omega), hset.block (Bs + 1) (by omega) (by omega)⟩)
      have T9 := Lib.hid (show Tx (W.setCell ⟨ab, 0, none⟩ (.int .i64 ((av : Int) + 1))) pc ec ec (chB (b.drop f) x) from Dk.tx_keep hTc (fun y hy hb => hset.block y.block (by
        obtain ⟨z', o', hp', hc'⟩ := hTc.bytes.ne hb
        rw [hy] at hp'
        cases hp'
        exact block_lt_of_cell (hc' 0 (List.length_pos_iff.2 hb))) (fun e => by
        have h1 : 0 < m - f := by
          refine Nat.pos_of_ne_zero (fun h => hb ?_)
          unfold chB
          rw [if_neg (by rw [List.length_drop, ← HMB.out]; omega)]
        have := (HP7.out h1).2.2.2
        have := hbg y hy
        omega)))
      have HSZ9 := Lib.hid hset.size
      simp only [Act.put, List.setIfInBounds_toArray, List.set_cons_zero, List.set_cons_succ]
      rw [hch]
      clear hV hdo hat hset hav hTc hbg h0n
      generalize hW9 : W.setCell ⟨ab, 0, none⟩ (.int .i64 ((av : Int) + 1)) = W9 at *
      gi_wp2
      try rw [hW9]
      refine region_round (S := fun w' => RdS w gl gd u q m c rc w' ∧ w'.cell? ⟨ab, 0, none⟩ = some (.int .i64 ((av : Int) + 1))) (by kernel_rfl) (by rfl) ⟨(HRD.out _ _ _ _ _ V9.out).later (Below.refl _ _).drew, (cell_of_row W9 ab 0 _ _ _ A9.out).trans rfl⟩ (fun hHeld => ?_)
      refine wpAnyH_take (i := 0) (oi := ⟨some 51, .load 31 (.tmp 2), _, _, _, _⟩) (v := ?_) rfl (by kernel_rfl) (by kernel_rfl) (by kernel_rfl) (fun _ _ _ h => h) (Or.inl ⟨by rfl, ?_⟩) (by assumption) ?_
      rotate_left
      · intro w' hSw
        obtain ⟨⟨e0, e1, e2, e3, _⟩, e5⟩ := hSw
        go_simp
        try with_reducible rfl
      try simp only [Act.put, List.setIfInBounds_toArray, List.set_cons_zero, List.set_cons_succ]
      refine wpAnyH_take (i := 1) (oi := ⟨some 52, .nilCheck (.tmp 51), _, _, _, _⟩) (v := ?_) rfl (by kernel_rfl) (by kernel_rfl) (by kernel_rfl) (fun _ _ _ h => h) (Or.inl ⟨by rfl, ?_⟩) (by assumption) ?_
      rotate_left
      · intro w' hSw
        go_simp
        try with_reducible rfl
      try simp only [Act.put, List.setIfInBounds_toArray, List.set_cons_zero, List.set_cons_succ]
      refine wpAnyH_take (i := 2) (oi := ⟨some 53, .fieldAddr 62 (.tmp 52) 0, _, _, _, _⟩) (v := ?_) rfl (by kernel_rfl) (by kernel_rfl) (by kernel_rfl) (fun _ _ _ h => h) (Or.inl ⟨by rfl, ?_⟩) (by assumption) ?_
      rotate_left
      · intro w' hSw
        go_simp
        try with_reducible rfl
      try simp only [Act.put, List.setIfInBounds_toArray, List.set_cons_zero, List.set_cons_succ]
      refine wpAnyH_take (i := 3) (oi := ⟨some 54, .load 27 (.tmp 53), _, _, _, _⟩) (v := ?_) rfl (by kernel_rfl) (by kernel_rfl) (by kernel_rfl) (fun _ _ _ h => h) (Or.inl ⟨by rfl, ?_⟩) (by assumption) ?_
      rotate_left
      · intro w' hSw
        obtain ⟨⟨e0, e1, e2, e3, _⟩, e5⟩ := hSw
        go_simp
        try with_reducible rfl
      try simp only [Act.put, List.setIfInBounds_toArray, List.set_cons_zero, List.set_cons_succ]
      refine wpAnyH_take (i := 4) (oi := ⟨some 55, .load 3 (.tmp 7), _, _, _, _⟩) (v := ?_) rfl (by kernel_rfl) (by kernel_rfl) (by kernel_rfl) (fun _ _ _ h => h) (Or.inl ⟨by rfl, ?_⟩) (by assumption) ?_
      rotate_left
      · intro w' hSw
        obtain ⟨_, e5⟩ := hSw
        go_simp
        try with_reducible rfl
      try simp only [Act.put, List.setIfInBounds_toArray, List.set_cons_zero, List.set_cons_succ]
      refine wpAnyH_take (i := 5) (oi := ⟨some 56, .move (.tmp 8), _, _, _, _⟩) (v := ?_) rfl (by kernel_rfl) (by kernel_rfl) (by kernel_rfl) (fun _ _ _ h => h) (Or.inl ⟨by rfl, ?_⟩) (by assumption) ?_
      rotate_left
      · intro w' hSw
        go_simp
        try with_reducible rfl
      try simp only [Act.put, List.setIfInBounds_toArray, List.set_cons_zero, List.set_cons_succ]
      refine wpAnyH_ready (rs := [6]) (by kernel_rfl) (by simp) ?_
      refine AllReadyH.cons (o := ⟨some 57, .call ⟨.value (.func 53), #[.tmp 56, .const (.int .i64 64)], #[36, 3]⟩, _, _, _, _⟩) rfl (fun K hK => ?_) AllReadyH.nil
      go_simp
      refine (filled_any (chB (b.drop f) x) pc ec ec 64 _ (T9.out.later (Below.refl _ _).drew) (by omega)).mono ?_
      rintro _ w57 ⟨rfl, r57, b57⟩
      have bb57 : Below W9.heap.size W9 w57 := (Below.refl W9.heap.size W9).drew.trans b57
      have V57 := Lib.hid (V9.out.later bb57)
      have A57 := Lib.hid ((bb57.block ab (Array.getElem?_eq_some_iff.1 A9.out).1).trans A9.out)
      have T57 := Lib.hid (show Tx w57 (some ⟨W9.heap.size, 0, none⟩) 64 64 (fill (chB (b.drop f) x) 64) from by
        have := (Bytes.row r57 (fill_ok T9.out.ok 64)).tx
        rwa [fill_length] at this)
      have HS57 := Lib.hid (Nat.le_trans HSZ9.out bb57.size)
      have K57 := Lib.hid (show KeepsFrom w8.heap.size W w57 ∧ KpC Bs (Bs + 1) W w57 from ⟨K9.out.1.trans (keeps_below bb57), (bb57.block Bs (by have := HSZ9.out; omega)).trans K9.out.2.1, (bb57.block (Bs + 1) (by have := HSZ9.out; omega)).trans K9.out.2.2⟩)
      have HN57 := Lib.hid (show ¬ P' W9.heap.size from fun e => by have := Dk.PD.lt V9.out.disk _ e; omega)
      have hS57 : RdS w gl gd u q m c rc w57 ∧ w57.cell? ⟨ab, 0, none⟩ = some (.int .i64 ((av : Int) + 1)) := ⟨HRD.out _ _ _ _ _ V57.out, (cell_of_row w57 ab 0 _ _ _ A57.out).trans rfl⟩
      clear r57 b57 bb57
      rw [show W9.drew.heap.size = W9.heap.size from rfl] at *
      try go_wp2_with fail
      refine hK.out _ _ hS57 (fun hHeld => ?_)
      clear hK K
      try simp only [Act.put, List.setIfInBounds_toArray, List.set_cons_zero, List.set_cons_succ]
      refine wpAnyH_ready (rs := [7]) (by kernel_rfl) (by simp) ?_
      refine AllReadyH.cons (o := ⟨some 58, .call ⟨.value (.func 27), #[.tmp 54, .tmp 55, .tmp 57], #[27, 3, 36]⟩, _, _, _, _⟩) rfl (fun K hK => ?_) AllReadyH.nil
      go_simp
      refine (Dk.write_any ((av + 1 : Nat) : Int) (fill (chB (b.drop f) x) 64) (some ⟨W9.heap.size, 0, none⟩) 64 64 V57.out.disk T57.out (fun y hy => by cases hy; exact HN57.out) hsw).mono ?_
      rintro _ w58 ⟨rfl, ⟨P58, d58, p58⟩, o58⟩
      have V58 := Lib.hid (V57.out.step (fun k e => by have := HS57.out; rcases e with e | e | e <;> omega) d58 p58 o58)
      have A58 := Lib.hid ((o58.block ab (Array.getElem?_eq_some_iff.1 A57.out).1 (V57.out.none (by omega) (Or.inr (Or.inl rfl)))).trans A57.out)
      have K58 := Lib.hid (show KeepsFrom w8.heap.size W w58 ∧ KpC Bs (Bs + 1) W w58 from ⟨K57.out.1.trans (keeps_only o58 (pd_cells V57.out.disk)), (o58.block Bs (by have := HS57.out; omega) (V57.out.none (by omega) (Or.inr (Or.inr (Or.inl rfl))))).trans K57.out.2.1, (o58.block (Bs + 1) (by have := HS57.out; omega) (V57.out.none (by omega) (Or.inr (Or.inr (Or.inr rfl))))).trans K57.out.2.2⟩)
      have HS58 := Lib.hid (Nat.le_trans HS57.out o58.size)
      have hS58 : RdS w gl gd u q m c rc w58 ∧ w58.cell? ⟨ab, 0, none⟩ = some (.int .i64 ((av : Int) + 1)) := ⟨HRD.out _ _ _ _ _ V58.out, (cell_of_row w58 ab 0 _ _ _ A58.out).trans rfl⟩
      clear d58 p58 o58 V57 A57 T57 K57 HN57 HS57
      try go_wp2_with fail
      refine hK.out _ _ hS58 (fun hHeld => ?_)
      clear hK K
      try simp only [Act.put, List.setIfInBounds_toArray, List.set_cons_zero, List.set_cons_succ]
      refine wpAnyH_take (i := 8) (oi := ⟨some 9, .assign (.tmp 58), _, _, _, _⟩) (v := ?_) rfl (by kernel_rfl) (by kernel_rfl) (by kernel_rfl) (fun _ _ _ h => h) (Or.inl ⟨by rfl, ?_⟩) (by assumption) ?_
      rotate_left
      · intro w' hSw
        go_simp
        try with_reducible rfl
      try simp only [Act.put, List.setIfInBounds_toArray, List.set_cons_zero, List.set_cons_succ]
      refine wpAnyH_done (by kernel_rfl) ?_ _
      refine nrm_normal ?_
      have HW := Lib.hid (show doAll s6 (wrs u (b.drop f) (pre ++ [x])) = (s'.write ((av + 1 : Nat) : Int) (fill (chB (b.drop f) x) 64), s'.says ((av : Int) + 1) 64) from by
        rw [wrs_app, doAll_app, HDO.out, if_pos rfl, doAll_one, show u + 1 + pre.length = av + 1 from by have := HAV.out; omega]
        rfl)
      have c2 : w58.cell? ⟨w.heap.size + 2, 0, none⟩ = some (.int .i64 0) := (cell_of_row w58 (w.heap.size + 2) 0 _ _ _ V58.out.b2).trans rfl
      have f2 : w58.frozen? ⟨w.heap.size + 2, 0, none⟩ = false := frozen_of_row w58 (w.heap.size + 2) 0 _ _ V58.out.b2
      clear hHeld hS58 c7 f7 hW9
      generalize s'.says ((av : Int) + 1) 64 = er at *
      by_cases he : er = 0
      · have he1 : (er : Int) = 0 := by omega
        have HE := Lib.hid he
        rw [he1]
        clear he he1
        gi_wp2
        exact ⟨K58.out.1, K58.out.2, P58, _, V58.out, by rw [HW.out, HE.out], by
          have e : ((u + (pre ++ [x]).length : Nat) : Int) = (av : Int) + 1 := by have := HAV.out; simp; omega
          rw [e]
          exact A58.out, Nat.le_trans hsz HS58.out⟩
      · have he1 : ((er : Int) == 0) = false := by rw [beq_eq_false_iff_ne]; omega
        have HE := Lib.hid he
        clear he
        gi_wp2
        exact ⟨K58.out.1.trans ((KeepsOthers.setCell w58 ⟨w.heap.size + 2, 0, none⟩ _).from _), rfl, P58, _, er, V58.out.err (er : Int), HW.out, HE.out⟩
    case done =>
      rintro D xs W hD rfl ⟨P', s', hV, hdo, hat, hsz⟩ hK
      rw [HNB.out _ rfl] at hdo
      have hsw : s'.writes < 1000000 := by
        have := writes_le (body u b (need b.length - 1)) s6
        rw [hdo, body_length] at this
        have := HZ.out
        simp only at *
        omega
      have VD := Lib.hid hV
      have HDO := Lib.hid hdo
      have HKD := Lib.hid hK
      clear hV hdo hat hK
      go_upto_region 13 with fail
      refine region_nrm (S := fun w' => RdS w gl gd u q m c rc w') (by kernel_rfl) (HRD.out _ _ _ _ _ (VD.out.later (Below.refl _ _).drew)) (fun hHeld => ?_)
      refine wpAnyH_take (i := 0) (oi := ⟨some 62, .load 31 (.tmp 2), _, _, _, _⟩) (v := ?_) rfl (by kernel_rfl) (by kernel_rfl) (by kernel_rfl) (fun _ _ _ h => h) (Or.inl ⟨by rfl, ?_⟩) (by assumption) ?_
      rotate_left
      · intro w' hSw
        obtain ⟨e0, e1, e2, e3, _⟩ := hSw
        go_simp
        try with_reducible rfl
      try simp only [Act.put, List.setIfInBounds_toArray, List.set_cons_zero, List.set_cons_succ]
      refine wpAnyH_take (i := 1) (oi := ⟨some 63, .nilCheck (.tmp 62), _, _, _, _⟩) (v := ?_) rfl (by kernel_rfl) (by kernel_rfl) (by kernel_rfl) (fun _ _ _ h => h) (Or.inl ⟨by rfl, ?_⟩) (by assumption) ?_
      rotate_left
      · intro w' hSw
        go_simp
        try with_reducible rfl
      try simp only [Act.put, List.setIfInBounds_toArray, List.set_cons_zero, List.set_cons_succ]
      refine wpAnyH_take (i := 2) (oi := ⟨some 64, .fieldAddr 62 (.tmp 63) 0, _, _, _, _⟩) (v := ?_) rfl (by kernel_rfl) (by kernel_rfl) (by kernel_rfl) (fun _ _ _ h => h) (Or.inl ⟨by rfl, ?_⟩) (by assumption) ?_
      rotate_left
      · intro w' hSw
        go_simp
        try with_reducible rfl
      try simp only [Act.put, List.setIfInBounds_toArray, List.set_cons_zero, List.set_cons_succ]
      refine wpAnyH_take (i := 3) (oi := ⟨some 65, .load 27 (.tmp 64), _, _, _, _⟩) (v := ?_) rfl (by kernel_rfl) (by kernel_rfl) (by kernel_rfl) (fun _ _ _ h => h) (Or.inl ⟨by rfl, ?_⟩) (by assumption) ?_
      rotate_left
      · intro w' hSw
        obtain ⟨e0, e1, e2, e3, _⟩ := hSw
        go_simp
        try with_reducible rfl
      try simp only [Act.put, List.setIfInBounds_toArray, List.set_cons_zero, List.set_cons_succ]
      refine wpAnyH_take (i := 4) (oi := ⟨some 66, .load 31 (.tmp 2), _, _, _, _⟩) (v := ?_) rfl (by kernel_rfl) (by kernel_rfl) (by kernel_rfl) (fun _ _ _ h => h) (Or.inl ⟨by rfl, ?_⟩) (by assumption) ?_
      rotate_left
      · intro w' hSw
        obtain ⟨e0, e1, e2, e3, _⟩ := hSw
        go_simp
        try with_reducible rfl
      try simp only [Act.put, List.setIfInBounds_toArray, List.set_cons_zero, List.set_cons_succ]
      refine wpAnyH_take (i := 5) (oi := ⟨some 67, .nilCheck (.tmp 66), _, _, _, _⟩) (v := ?_) rfl (by kernel_rfl) (by kernel_rfl) (by kernel_rfl) (fun _ _ _ h => h) (Or.inl ⟨by rfl, ?_⟩) (by assumption) ?_
      rotate_left
      · intro w' hSw
        go_simp
        try with_reducible rfl
      try simp only [Act.put, List.setIfInBounds_toArray, List.set_cons_zero, List.set_cons_succ]
      refine wpAnyH_take (i := 6) (oi := ⟨some 68, .fieldAddr 62 (.tmp 67) 3, _, _, _, _⟩) (v := ?_) rfl (by kernel_rfl) (by kernel_rfl) (by kernel_rfl) (fun _ _ _ h => h) (Or.inl ⟨by rfl, ?_⟩) (by assumption) ?_
      rotate_left
      · intro w' hSw
        go_simp
        try with_reducible rfl
      try simp only [Act.put, List.setIfInBounds_toArray, List.set_cons_zero, List.set_cons_succ]
      refine wpAnyH_take (i := 7) (oi := ⟨some 69, .load 3 (.tmp 68), _, _, _, _⟩) (v := ?_) rfl (by kernel_rfl) (by kernel_rfl) (by kernel_rfl) (fun _ _ _ h => h) (Or.inl ⟨by rfl, ?_⟩) (by assumption) ?_
      rotate_left
      · intro w' hSw
        obtain ⟨e0, e1, e2, e3, _⟩ := hSw
        go_simp
        try with_reducible rfl
      try simp only [Act.put, List.setIfInBounds_toArray, List.set_cons_zero, List.set_cons_succ]
      refine wpAnyH_take (i := 8) (oi := ⟨some 70, .load 65 (.tmp 3), _, _, _, _⟩) (v := ?_) rfl (by kernel_rfl) (by kernel_rfl) (by kernel_rfl) (fun _ _ _ h => h) (Or.inl ⟨by rfl, ?_⟩) (by assumption) ?_
      rotate_left
      · intro w' hSw
        obtain ⟨_, _, _, _, e4⟩ := hSw
        refine Eq.trans (b := Result.ok (Next.value (.agg rc)) w') ?_ ?_
        · exact op_load_rec (x := .tmp 3) (by rfl) (by rfl) HRS.out e4
        · with_reducible rfl
      try simp only [Act.put, List.setIfInBounds_toArray, List.set_cons_zero, List.set_cons_succ]
      refine wpAnyH_ready (rs := [9]) (by kernel_rfl) (by simp) ?_
      refine AllReadyH.cons (o := ⟨some 71, .call ⟨.value (.func 35), #[.tmp 70], #[65]⟩, _, _, _, _⟩) rfl (fun K hK => ?_) AllReadyH.nil
      go_simp
      refine (HFI.out _ ((VD.out.later (Below.refl _ _).drew).tx HT.out HX.out)).mono ?_
      rintro _ w71 ⟨q71, c71, rfl, o71, b71⟩
      have bb71 : Below W.heap.size W w71 := (Below.refl W.heap.size W).drew.trans b71
      have V71 := Lib.hid (VD.out.later bb71)
      have T71 := Lib.hid (show Tx w71 q71 64 c71 (head (last g.R g.R.length) g.R.length b) from by
        have := tx_of_owns o71 (head_ok _ _ HT.out.ok)
        rwa [head_length] at this)
      have HN71 := Lib.hid (show ∀ y, q71 = some y → ¬ P' y.block from fun y hy e => by
        have h1 := (o71.lt y.block (by rw [hy]; rfl)).1
        have h2 := Dk.PD.lt VD.out.disk _ e
        have h3 : W.drew.heap.size = W.heap.size := rfl
        omega)
      have D71 := Lib.hid ((bb71.block D (Array.getElem?_eq_some_iff.1 HKD.out).1).trans HKD.out)
      have HS71 := Lib.hid (Nat.le_trans hsz bb71.size)
      have hS71 := HRD.out _ _ _ _ _ V71.out
      rw [head_length]
      clear o71 b71 bb71
      try go_wp2_with fail
      refine hK.out _ _ hS71 (fun hHeld => ?_)
      clear hK K
      try simp only [Act.put, List.setIfInBounds_toArray, List.set_cons_zero, List.set_cons_succ]
      refine wpAnyH_ready (rs := [10]) (by kernel_rfl) (by simp) ?_
      refine AllReadyH.cons (o := ⟨some 72, .call ⟨.value (.func 27), #[.tmp 65, .tmp 69, .tmp 71], #[27, 3, 36]⟩, _, _, _, _⟩) rfl (fun K hK => ?_) AllReadyH.nil
      go_simp
      refine (Dk.write_any ((u : Nat) : Int) (head (last g.R g.R.length) g.R.length b) q71 64 c71 V71.out.disk T71.out HN71.out hsw).mono ?_
      rintro _ w72 ⟨rfl, ⟨P72, d72, p72⟩, o72⟩
      have V72 := Lib.hid (V71.out.step (fun k e => by
        have h1 := HS71.out
        rcases e with e | e | e <;> omega) d72 p72 o72)
      have D72 := Lib.hid ((o72.block D (Array.getElem?_eq_some_iff.1 D71.out).1 (fun e => by
        obtain ⟨C, t, h⟩ := pd_cells V71.out.disk D e
        rw [D71.out] at h
        cases h)).trans D71.out)
      have hS72 := HRD.out _ _ _ _ _ V72.out
      have c2 : w72.cell? ⟨w.heap.size + 2, 0, none⟩ = some (.int .i64 0) := (cell_of_row w72 (w.heap.size + 2) 0 _ _ _ V72.out.b2).trans rfl
      have f2 : w72.frozen? ⟨w.heap.size + 2, 0, none⟩ = false := frozen_of_row w72 (w.heap.size + 2) 0 _ _ V72.out.b2
      clear d72 p72 o72
      try go_wp2_with fail
      refine hK.out _ _ hS72 (fun hHeld => ?_)
      clear hK K
      try simp only [Act.put, List.setIfInBounds_toArray, List.set_cons_zero, List.set_cons_succ]
      refine wpAnyH_ready (rs := [11]) (by kernel_rfl) (by simp) ?_
      refine AllReadyH.cons (o := ⟨none, .store 28 (.tmp 4) (.tmp 72), _, _, _, _⟩) rfl (fun K hK => ?_) AllReadyH.nil
      go_simp
      have HFN := Lib.hid (show doAll s (plan s.n u (last g.R g.R.length) g.R.length b) = (s'.write ((u : Nat) : Int) (head (last g.R g.R.length) g.R.length b), s'.says (u : Int) 64) from by
        rw [plan, doAll_app, HZ6.out, if_pos rfl, doAll_app, HDO.out, if_pos rfl, doAll_one])
      generalize s'.says (u : Int) 64 = er at *
      have VE := Lib.hid (V72.out.err (er : Int))
      have hSE := HRD.out _ _ _ _ _ VE.out
      have DE := Lib.hid ((heap_setCell_other w72 ⟨w.heap.size + 2, 0, none⟩ D (.int .i64 (er : Int)) (by show D ≠ w.heap.size + 2; omega)).trans D72.out)
      try go_wp2_with fail
      refine hK.out _ _ hSE (fun hHeld => ?_)
      clear hK K
      try simp only [Act.put, List.setIfInBounds_toArray, List.set_cons_zero, List.set_cons_succ]
      refine wpAnyH_done (by kernel_rfl) ?_ _
      refine nrm_normal ?_
      have ce : (w72.setCell ⟨w.heap.size + 2, 0, none⟩ (.int .i64 (er : Int))).cell? ⟨w.heap.size + 2, 0, none⟩ = some (.int .i64 (er : Int)) := (cell_of_row _ (w.heap.size + 2) 0 _ _ _ VE.out.b2).trans rfl
      clear hHeld hSE c2 f2 hS72
      go_wp2_with fail
      refine ret_mark rfl ce DE.out ?_
      rw [HFN.out]
      exact (VE.out.grown (grownBy_putObj' _ D (.deferred none)) (fun r e => by cases e; exact ⟨by omega, _, DE.out, rfl⟩)).post
    case stop =>
      rintro D cc pre W hD ⟨k', hk', rfl⟩ ⟨rfl, P', s', er, hV, hdo, her⟩ hK
      have h1 : f = min b.length 19 := by rw [← HMB.out]; exact HF.out
      have h2 : k' ≤ (b.length - f + 63) / 64 := by rw [← HMB.out]; exact hk'
      rw [wrs_upto u b h1 k' h2] at hdo
      refine wpIn_ret ?_
      have ce : W.cell? ⟨w.heap.size + 2, 0, none⟩ = some (.int .i64 (er : Int)) := (cell_of_row _ (w.heap.size + 2) 0 _ _ _ hV.b2).trans rfl
      refine ret_mark rfl ce hK ?_
      rw [plan, doAll_app, HZ6.out, if_pos rfl, body_fail hdo her (by unfold need; omega) _]
      exact (hV.grown (grownBy_putObj' _ D (.deferred none)) (fun r e => by cases e; exact ⟨by omega, _, hK, rfl⟩)).post
end Go.Proofs.Ytlkeobohcfbgcaa.Wl

/- The contract of State.Write: nothing was written so far. -/
namespace Go.Proofs.Ytlkeobohcfbgcaa
open Go.RowKit

set_option maxRecDepth 100000 in
set_option maxHeartbeats 1000000 in
theorem write_a (T B : List Nat) (g : Nat) (p : Option Addr) (len cap : Nat) (w : World) (hT : T = []) (v : Sm.V8) (bl : List Nat) (hh : Held T v bl)
    (hg : w.heap[g]? = some (.cells (stL v bl T.length).toArray 103 (0, 0)))
    (hB : Bytes w p len cap B) (hn : B ≠ [] → ∀ a, p = some a → a.block ≠ g) (hl : (T ++ B).length < 1152921504606846976) :
    Calls Try.prog 61 #[.pointer (some ⟨g, 0, none⟩), .slice p len cap] w fun e w' => e = .returned (.tuple #[]) ∧ StateAt w' g (T ++ B) ∧ w.grownBy w' (some g) := by
  subst hT
  have hcl : w.cell? ⟨g, 72, none⟩ = some (.int .u64 0) := st_len hg hh.size
  have hfl : w.frozen? ⟨g, 72, none⟩ = false := frozen_of_row w g _ _ _ hg
  have hlen := hB.size
  have hb1 : len < 1152921504606846976 := by simp at hl; omega
  have HLT := Lib.hid (show (([] : List Nat) ++ B).length = len from by simp; omega)
  have HG := Lib.hid hg
  have HTO := Lib.hid hh.ok
  have HBO := Lib.hid hh.bok
  have HSZ := Lib.hid hh.size
  have HB := Lib.hid hB
  clear hg hh hB hlen
  go_enter Try.func61, Try.ntmps61
  go_wp2_with fail
  refine (firstWords_any w).mono ?_
  rintro _ w2 ⟨rfl, hb2⟩
  have hg2 : w2.heap[g]? = _ := (hb2.block g (Array.getElem?_eq_some_iff.1 HG.out).1).trans HG.out
  have hst := st_store hg2 HSZ.out Sm.first
  have hg3 := st_set_words hg2 Sm.first
  have hcl2 : (w2.setCells g 0 (w32 Sm.first.list)).cell? ⟨g, 72, none⟩ = some (.int .u64 0) := st_len hg3 HSZ.out
  have hfl2 : (w2.setCells g 0 (w32 Sm.first.list)).frozen? ⟨g, 72, none⟩ = false := frozen_of_row _ g _ _ _ hg3
  have hu8 := size8 Sm.first
  have HB2 := Lib.hid hb2
  have HG3 := Lib.hid hg3
  clear hb2 hg2 hg3 hcl hfl
  go_wp2_with fail
  obtain ⟨v, hv⟩ : ∃ v, v = Sm.first := ⟨_, rfl⟩
  have HS := Lib.hid (show Start [] v from ⟨by rw [hv]; exact Sm.first_ok, rfl, hv⟩)
  have HVV := Lib.hid HS.out.1
  rw [← hv] at HG3 ⊢
  generalize hW1 : (w2.setCells g 0 (w32 v.list)).setCell ⟨g, 72, none⟩ (.int .u64 (len : Int)) = W1
  have hM : Mid w W1 g v bl len p len cap B := by
    subst hW1
    have h1 : w.grownBy (w2.setCells g 0 (w32 v.list)) (some g) := grown_setCells ⟨HB2.out.os, HB2.out.tape, HB2.out.output, HB2.out.size, fun k hk _ => HB2.out.block k hk⟩ 0 _
    have h2 : w.grownBy ((w2.setCells g 0 (w32 v.list)).setCell ⟨g, 72, none⟩ (.int .u64 (len : Int))) (some g) := grown_setCells h1 72 [.int .u64 (len : Int)]
    exact ⟨st_set_len HG3.out HSZ.out _, HSZ.out, HB.out.grown h2 hn, hn, h2⟩
  have HM := Lib.hid hM
  clear hW1 hM HG HB hst hcl2 hfl2 hu8 HG3 HB2 hv
  obtain ⟨F, hF⟩ : ∃ F, F = len - len % 64 := ⟨_, rfl⟩
  rw [show (len : Int) - (len : Int) % 64 = (F : Int) from by omega]
  have hFl : F ≤ len := by omega
  have hF64 : F % 64 = 0 := by omega
  have HF := Lib.hid hF
  have HF64 := Lib.hid hF64
  clear hF hF64
  rcases HM.out.bytes.at' with hc | ⟨gb, ob, hp, hx⟩
  · subst hc
    cases p with
    | none =>
      obtain rfl : len = 0 := by have := HM.out.bytes.le; omega
      obtain rfl : F = 0 := by omega
      obtain ⟨U, hU⟩ : ∃ U, U = Sm.blocks (B.take 0) v ((B.take 0).length / 64) := ⟨_, rfl⟩
      have HA := all_any v HVV.out (B.take 0) none 0 0 W1.drew ((HM.out.bytes.take 0 hFl).heap rfl) (by simp)
      rw [show ((0 : Nat) : Int) = 0 from rfl]
      rw [← hU] at HA
      have HAA := Lib.hid HA
      have HU := Lib.hid hU
      clear HA hU
      obtain ⟨a, b, c, d, e, f, h, k⟩ := v
      have c0 : W1.cell? ⟨g, 0, none⟩ = some (.int .u32 a) := st_cell HM.out.row 0 (by omega)
      have c1 : W1.cell? ⟨g, 1, none⟩ = some (.int .u32 b) := st_cell HM.out.row 1 (by omega)
      have c2 : W1.cell? ⟨g, 2, none⟩ = some (.int .u32 c) := st_cell HM.out.row 2 (by omega)
      have c3 : W1.cell? ⟨g, 3, none⟩ = some (.int .u32 d) := st_cell HM.out.row 3 (by omega)
      have c4 : W1.cell? ⟨g, 4, none⟩ = some (.int .u32 e) := st_cell HM.out.row 4 (by omega)
      have c5 : W1.cell? ⟨g, 5, none⟩ = some (.int .u32 f) := st_cell HM.out.row 5 (by omega)
      have c6 : W1.cell? ⟨g, 6, none⟩ = some (.int .u32 h) := st_cell HM.out.row 6 (by omega)
      have c7 : W1.cell? ⟨g, 7, none⟩ = some (.int .u32 k) := st_cell HM.out.row 7 (by omega)
      go_region_law ((go_simp; go_at_call 73; refine HAA.out.mono ?_; rintro _ w4 ⟨rfl, hb4⟩; have m4 := Lib.hid (HM.out.later (below_of hb4 rfl rfl rfl rfl)); clear hb4; have hst4 := st_store m4.out.row m4.out.size U; have hu8 := size8 U))
      generalize hW5 : w4.setCells g 0 (w32 U.list) = W5
      have m5 := m4.out.words U
      rw [hW5] at m5
      have M5 := Lib.hid m5
      clear hW5 m5 hst4 hu8 m4 c0 c1 c2 c3 c4 c5 c6 c7
      go_wp2_with fail
      have hcp := run_copy_none (P := Try.prog) W5.drew 36 36 3 5 (some ⟨g, 8, none⟩) none 64 64 0 0 A22 E5 (by rfl)
      go_still_tail 7, (by kernel_rfl)
      go_wp2_with fail
      go_end0
      have hfin := Held.next HS.out HTO.out M5.out.bytes.ok hl M5.out.bytes.size (show 0 = 0 - 0 % 64 from rfl) HU.out M5.out.size HBO.out
      have e1 : B.drop 0 = [] := List.drop_eq_nil_of_le (by have := M5.out.bytes.size; omega)
      rw [e1, Nat.sub_self, List.drop_zero, List.nil_append] at hfin
      refine ⟨rfl, ⟨U, bl, hfin, ?_⟩, ?_⟩
      · have h0 := HLT.out; (try simp only [List.nil_append] at h0); rw [h0]; exact M5.out.row
      · exact ⟨M5.out.grown.os, M5.out.grown.tape, M5.out.grown.output, M5.out.grown.size, M5.out.grown.block⟩
    | some x =>
      obtain rfl : len = 0 := by have := HM.out.bytes.le; omega
      obtain rfl : F = 0 := by omega
      obtain ⟨U, hU⟩ : ∃ U, U = Sm.blocks (B.take 0) v ((B.take 0).length / 64) := ⟨_, rfl⟩
      have HA := all_any v HVV.out (B.take 0) (some x) 0 0 W1.drew ((HM.out.bytes.take 0 hFl).heap rfl) (by simp)
      rw [show ((0 : Nat) : Int) = 0 from rfl]
      rw [← hU] at HA
      have HAA := Lib.hid HA
      have HU := Lib.hid hU
      clear HA hU
      obtain ⟨a, b, c, d, e, f, h, k⟩ := v
      have c0 : W1.cell? ⟨g, 0, none⟩ = some (.int .u32 a) := st_cell HM.out.row 0 (by omega)
      have c1 : W1.cell? ⟨g, 1, none⟩ = some (.int .u32 b) := st_cell HM.out.row 1 (by omega)
      have c2 : W1.cell? ⟨g, 2, none⟩ = some (.int .u32 c) := st_cell HM.out.row 2 (by omega)
      have c3 : W1.cell? ⟨g, 3, none⟩ = some (.int .u32 d) := st_cell HM.out.row 3 (by omega)
      have c4 : W1.cell? ⟨g, 4, none⟩ = some (.int .u32 e) := st_cell HM.out.row 4 (by omega)
      have c5 : W1.cell? ⟨g, 5, none⟩ = some (.int .u32 f) := st_cell HM.out.row 5 (by omega)
      have c6 : W1.cell? ⟨g, 6, none⟩ = some (.int .u32 h) := st_cell HM.out.row 6 (by omega)
      have c7 : W1.cell? ⟨g, 7, none⟩ = some (.int .u32 k) := st_cell HM.out.row 7 (by omega)
      go_region_law ((go_simp; go_at_call 73; refine HAA.out.mono ?_; rintro _ w4 ⟨rfl, hb4⟩; have m4 := Lib.hid (HM.out.later (below_of hb4 rfl rfl rfl rfl)); clear hb4; have hst4 := st_store m4.out.row m4.out.size U; have hu8 := size8 U))
      generalize hW5 : w4.setCells g 0 (w32 U.list) = W5
      have m5 := m4.out.words U
      rw [hW5] at m5
      have M5 := Lib.hid m5
      clear hW5 m5 hst4 hu8 m4 c0 c1 c2 c3 c4 c5 c6 c7
      go_wp2_with fail
      have hcp := run_copy_none (P := Try.prog) W5.drew 36 36 3 5 (some ⟨g, 8, none⟩) (some x) 64 64 0 0 A22 E5 (by rfl)
      go_still_tail 7, (by kernel_rfl)
      go_wp2_with fail
      go_end0
      have hfin := Held.next HS.out HTO.out M5.out.bytes.ok hl M5.out.bytes.size (show 0 = 0 - 0 % 64 from rfl) HU.out M5.out.size HBO.out
      have e1 : B.drop 0 = [] := List.drop_eq_nil_of_le (by have := M5.out.bytes.size; omega)
      rw [e1, Nat.sub_self, List.drop_zero, List.nil_append] at hfin
      refine ⟨rfl, ⟨U, bl, hfin, ?_⟩, ?_⟩
      · have h0 := HLT.out; (try simp only [List.nil_append] at h0); rw [h0]; exact M5.out.row
      · exact ⟨M5.out.grown.os, M5.out.grown.tape, M5.out.grown.output, M5.out.grown.size, M5.out.grown.block⟩
  · subst hp
    clear hx
    have hcap := HM.out.bytes.le
    have a1 : (0 : Int) ≤ F ∧ (F : Int) ≤ cap := by omega
    obtain ⟨U, hU⟩ : ∃ U, U = Sm.blocks (B.take F) v ((B.take F).length / 64) := ⟨_, rfl⟩
    have HA := all_any v HVV.out (B.take F) (some ⟨gb, ob, none⟩) F cap W1.drew ((HM.out.bytes.take F hFl).heap rfl) (by have := HF64.out; have := HM.out.bytes.size; simp; omega)
    rw [← hU] at HA
    have HAA := Lib.hid HA
    have HU := Lib.hid hU
    clear HA hU
    obtain ⟨a, b, c, d, e, f, h, k⟩ := v
    have c0 : W1.cell? ⟨g, 0, none⟩ = some (.int .u32 a) := st_cell HM.out.row 0 (by omega)
    have c1 : W1.cell? ⟨g, 1, none⟩ = some (.int .u32 b) := st_cell HM.out.row 1 (by omega)
    have c2 : W1.cell? ⟨g, 2, none⟩ = some (.int .u32 c) := st_cell HM.out.row 2 (by omega)
    have c3 : W1.cell? ⟨g, 3, none⟩ = some (.int .u32 d) := st_cell HM.out.row 3 (by omega)
    have c4 : W1.cell? ⟨g, 4, none⟩ = some (.int .u32 e) := st_cell HM.out.row 4 (by omega)
    have c5 : W1.cell? ⟨g, 5, none⟩ = some (.int .u32 f) := st_cell HM.out.row 5 (by omega)
    have c6 : W1.cell? ⟨g, 6, none⟩ = some (.int .u32 h) := st_cell HM.out.row 6 (by omega)
    have c7 : W1.cell? ⟨g, 7, none⟩ = some (.int .u32 k) := st_cell HM.out.row 7 (by omega)
    go_region_law ((go_simp; go_at_call 73; refine HAA.out.mono ?_; rintro _ w4 ⟨rfl, hb4⟩; have m4 := Lib.hid (HM.out.later (below_of hb4 rfl rfl rfl rfl)); clear hb4; have hst4 := st_store m4.out.row m4.out.size U; have hu8 := size8 U))
    generalize hW5 : w4.setCells g 0 (w32 U.list) = W5
    have m5 := m4.out.words U
    rw [hW5] at m5
    have M5 := Lib.hid m5
    clear hW5 m5 hst4 hu8 m4 c0 c1 c2 c3 c4 c5 c6 c7
    go_wp2_with fail
    rcases Nat.lt_or_eq_of_le (Nat.le_trans hFl hcap) with hcc | hcc
    · have hcp := st_copy M5.out F (by have := HF.out; omega) hcc
      go_still_tail 7, (by kernel_rfl)
      go_wp2_with fail
      go_end0
      have hlF : (B.drop F).length = len - F := by have := M5.out.bytes.size; simp; omega
      have hrow := st_set_block (W := W5.drew) M5.out.row M5.out.size 0 (B.drop F) (by have := HF.out; omega)
      have hfin := Held.next HS.out HTO.out M5.out.bytes.ok hl M5.out.bytes.size HF.out HU.out M5.out.size HBO.out
      refine ⟨rfl, ⟨U, _, hfin, ?_⟩, ?_⟩
      · rw [hlF] at hrow
        have h0 := HLT.out
        (try simp only [List.nil_append] at h0)
        rw [h0]
        simpa using hrow
      · exact grown_setCells (w1 := W5.drew) ⟨M5.out.grown.os, M5.out.grown.tape, M5.out.grown.output, M5.out.grown.size, M5.out.grown.block⟩ 8 _
    · subst hcc
      obtain rfl : len = F := by omega
      have hcp := run_copy_none (P := Try.prog) W5.drew 36 36 3 5 (some ⟨g, 8, none⟩) (some ⟨gb, ob, none⟩) 64 64 0 0 A22 E5 (by rfl)
      go_still_tail 7, (by kernel_rfl)
      go_wp2_with fail
      go_end0
      have hfin := Held.next HS.out HTO.out M5.out.bytes.ok hl M5.out.bytes.size HF.out HU.out M5.out.size HBO.out
      have e1 : B.drop len = [] := List.drop_eq_nil_of_le (by have := M5.out.bytes.size; omega)
      rw [e1, Nat.sub_self, List.drop_zero, List.nil_append] at hfin
      refine ⟨rfl, ⟨U, bl, hfin, ?_⟩, ?_⟩
      · have h0 := HLT.out; (try simp only [List.nil_append] at h0); rw [h0]; exact M5.out.row
      · exact ⟨M5.out.grown.os, M5.out.grown.tape, M5.out.grown.output, M5.out.grown.size, M5.out.grown.block⟩
end Go.Proofs.Ytlkeobohcfbgcaa

/- The contract of State.Write: a block is begun, and stays so. -/
namespace Go.Proofs.Ytlkeobohcfbgcaa
open Go.RowKit

set_option maxRecDepth 100000 in
set_option maxHeartbeats 1000000 in
theorem write_c (T B : List Nat) (g : Nat) (p : Option Addr) (len cap : Nat) (w : World) (r : Nat) (hr : T.length % 64 = r) (hr0 : 0 < r) (hs : r + len < 64) (v : Sm.V8) (bl : List Nat) (hh : Held T v bl)
    (hg : w.heap[g]? = some (.cells (stL v bl T.length).toArray 103 (0, 0)))
    (hB : Bytes w p len cap B) (hn : B ≠ [] → ∀ a, p = some a → a.block ≠ g) (hl : (T ++ B).length < 1152921504606846976) :
    Calls Try.prog 61 #[.pointer (some ⟨g, 0, none⟩), .slice p len cap] w fun e w' => e = .returned (.tuple #[]) ∧ StateAt w' g (T ++ B) ∧ w.grownBy w' (some g) := by
  have hL0 : ((T.length : Int) == 0) = false := by
    have : T ≠ [] := by rintro rfl; simp at hr; omega
    have := List.length_pos_iff.2 this
    simp; omega
  have hT : T ≠ [] := by rintro rfl; simp at hr; omega
  have hL1 : (T.length : Int) % 64 = (r : Int) := by omega
  have hcl : w.cell? ⟨g, 72, none⟩ = some (.int .u64 (T.length : Nat)) := st_len hg hh.size
  have hfl : w.frozen? ⟨g, 72, none⟩ = false := frozen_of_row w g _ _ _ hg
  have hsl := st_set_len hg hh.size (T.length + len)
  obtain ⟨N, hN⟩ : ∃ N, N = T.length := ⟨_, rfl⟩
  rw [← hN] at hcl hL0 hL1 hsl
  have hlen := hB.size
  have hb1 : N + len < 1152921504606846976 := by simp at hl; omega
  have HLT0 := Lib.hid (show (T ++ B).length = N + len from by simp; omega)
  have h0 : (0 : Int) < r ∧ (r : Int) < 64 := by omega
  have HBB := Lib.hid (hB.grown (grown_setCell w g 72 (.int .u64 ((N + len : Nat) : Int))) hn)
  have HH := Lib.hid hh
  have HSL := Lib.hid hsl
  have HR := Lib.hid hr
  have HT := Lib.hid hT
  have HN := Lib.hid hN
  have HLen := Lib.hid hlen
  clear hg hh hB hN hlen hsl hr hT
  have hlt : (r : Int) + len < 64 := by omega
  have hbs := block_slice g r (by omega)
  rcases HBB.out.at' with hc | ⟨gb, ob, hp, hx⟩
  · subst hc
    cases p with
    | none =>
      obtain rfl : len = 0 := by have := HBB.out.le; omega
      have hB0 : B = [] := List.length_eq_zero_iff.1 HLen.out.symm
      have hcp := run_copy_none (P := Try.prog) (w.setCell ⟨g, 72, none⟩ (.int .u64 (N : Int))) 36 36 3 5 (some ⟨g, 8 + r, none⟩) none (64 - r) (64 - r) 0 0 A22 E5 (Nat.zero_min _)
      have HB0 := Lib.hid hB0
      clear hB0
      go_enter Try.func61, Try.ntmps61
      go_wp2_with fail
      (try simp only [Exit.inBlock, Exit.then])
      refine bodyPost_ret (results_none rfl _ _ _) rfl ?_
      have hT2 : T ++ B = T := by rw [HB0.out, List.append_nil]
      refine ⟨rfl, ?_, grown_setCell _ _ _ _⟩
      rw [hT2]
      refine ⟨v, bl, HH.out, ?_⟩
      rw [← HN.out]
      exact HSL.out
    | some x =>
      obtain rfl : len = 0 := by have := HBB.out.le; omega
      have hB0 : B = [] := List.length_eq_zero_iff.1 HLen.out.symm
      have hcp := run_copy_none (P := Try.prog) (w.setCell ⟨g, 72, none⟩ (.int .u64 (N : Int))) 36 36 3 5 (some ⟨g, 8 + r, none⟩) (some x) (64 - r) (64 - r) 0 0 A22 E5 (Nat.zero_min _)
      have HB0 := Lib.hid hB0
      clear hB0
      go_enter Try.func61, Try.ntmps61
      go_wp2_with fail
      (try simp only [Exit.inBlock, Exit.then])
      refine bodyPost_ret (results_none rfl _ _ _) rfl ?_
      have hT2 : T ++ B = T := by rw [HB0.out, List.append_nil]
      refine ⟨rfl, ?_, grown_setCell _ _ _ _⟩
      rw [hT2]
      refine ⟨v, bl, HH.out, ?_⟩
      rw [← HN.out]
      exact HSL.out
  · subst hp
    clear hx
    have hcp := st_copy_in HSL.out HH.out.size HBB.out r len (by omega) (Nat.min_eq_left (by omega)).symm
    rw [show B.take len = B from List.take_of_length_le (by have := HLen.out; omega)] at hcp
    rw [show ((N + len : Nat) : Int) = (N : Int) + (len : Int) from by omega] at hcp
    go_enter Try.func61, Try.ntmps61
    go_wp2_with fail
    (try simp only [Exit.inBlock, Exit.then])
    refine bodyPost_ret (results_none rfl _ _ _) rfl ?_
    rw [show (N : Int) + (len : Int) = ((N + len : Nat) : Int) from by omega]
    have hrow := st_set_block HSL.out HH.out.size r B (by have := HLen.out; omega)
    refine ⟨rfl, ⟨v, _, HH.out.small HR.out hr0 (by have := HLen.out; omega) HBB.out.ok hl, ?_⟩, grown_setCells (grown_setCell _ _ _ _) _ _⟩
    rw [HLT0.out]
    exact hrow
end Go.Proofs.Ytlkeobohcfbgcaa

/- The contract of State.Write: a block is begun, and gets full. -/
namespace Go.Proofs.Ytlkeobohcfbgcaa
open Go.RowKit

set_option maxRecDepth 100000 in
set_option maxHeartbeats 1000000 in
theorem write_d (T B : List Nat) (g : Nat) (p : Option Addr) (len cap : Nat) (w : World) (r m : Nat) (hr : T.length % 64 = r) (hr0 : 0 < r) (hs : r + m = 64) (hml : m ≤ len) (v : Sm.V8) (bl : List Nat) (hh : Held T v bl)
    (hg : w.heap[g]? = some (.cells (stL v bl T.length).toArray 103 (0, 0)))
    (hB : Bytes w p len cap B) (hn : B ≠ [] → ∀ a, p = some a → a.block ≠ g) (hl : (T ++ B).length < 1152921504606846976) :
    Calls Try.prog 61 #[.pointer (some ⟨g, 0, none⟩), .slice p len cap] w fun e w' => e = .returned (.tuple #[]) ∧ StateAt w' g (T ++ B) ∧ w.grownBy w' (some g) := by
  have hL0 : ((T.length : Int) == 0) = false := by
    have : T ≠ [] := by rintro rfl; simp at hr; omega
    have := List.length_pos_iff.2 this
    simp; omega
  have hT : T ≠ [] := by rintro rfl; simp at hr; omega
  have hL1 : (T.length : Int) % 64 = (r : Int) := by omega
  have hcl : w.cell? ⟨g, 72, none⟩ = some (.int .u64 (T.length : Nat)) := st_len hg hh.size
  have hfl : w.frozen? ⟨g, 72, none⟩ = false := frozen_of_row w g _ _ _ hg
  have hsl := st_set_len hg hh.size (T.length + len)
  obtain ⟨N, hN⟩ : ∃ N, N = T.length := ⟨_, rfl⟩
  rw [← hN] at hcl hL0 hL1 hsl
  have hlen := hB.size
  have hb1 : N + len < 1152921504606846976 := by simp at hl; omega
  have HLT0 := Lib.hid (show (T ++ B).length = N + len from by simp; omega)
  have h0 : (0 : Int) < r ∧ (r : Int) < 64 := by omega
  have HBB := Lib.hid (hB.grown (grown_setCell w g 72 (.int .u64 ((N + len : Nat) : Int))) hn)
  have HH := Lib.hid hh
  have HSL := Lib.hid hsl
  have HR := Lib.hid hr
  have HT := Lib.hid hT
  have HN := Lib.hid hN
  have HLen := Lib.hid hlen
  clear hg hh hB hN hlen hsl hr hT
  have hbs := block_slice g r (by omega)
  obtain ⟨gb, ob, hp, hx⟩ := HBB.out.ne (by intro e; have := HLen.out; rw [e] at this; simp at this; omega)
  subst hp
  clear hx
  have hcp := st_copy_in HSL.out HH.out.size HBB.out r m (by omega) (by rw [show 64 - r = m from by omega]; exact (Nat.min_eq_right hml).symm)
  have HCPW := Lib.hid (show ((N + len : Nat) : Int) = (N : Int) + (len : Int) from by omega)
  rw [HCPW.out] at hcp
  have hm1 : (r : Int) + m = 64 := by omega
  have hm2 : (0 : Int) ≤ m ∧ (m : Int) ≤ len := by omega
  have hcap0 := HBB.out.le
  rcases Nat.lt_or_eq_of_le (Nat.le_trans hml hcap0) with hmc | hmc
  · go_enter Try.func61, Try.ntmps61
    go_wp2_with fail
    rw [← HCPW.out]
    generalize hW2 : (w.setCell ⟨g, 72, none⟩ (.int .u64 ((N + len : Nat) : Int))).setCells g (8 + r) (vals (B.take m)) = W2
    obtain ⟨bl2, hbl2⟩ : ∃ x, x = bl.take r ++ B.take m := ⟨_, rfl⟩
    have hlm : (B.take m).length = m := by have := HLen.out; simp; omega
    have hsz := HH.out.size
    have hM2 : Mid w W2 g v bl2 (N + len) (some ⟨gb, ob, none⟩) len cap B := by
      have hrow2 := st_set_block HSL.out hsz r (B.take m) (by omega)
      rw [hW2, hlm, List.drop_eq_nil_of_le (by omega), List.append_nil, ← hbl2] at hrow2
      have hgr : w.grownBy W2 (some g) := by rw [← hW2]; exact grown_setCells (grown_setCell _ _ _ _) _ _
      have hgr2 : (w.setCell ⟨g, 72, none⟩ (.int .u64 ((N + len : Nat) : Int))).grownBy W2 (some g) := by rw [← hW2]; exact grown_setCells (World.grownBy.refl _ _) _ _
      exact ⟨hrow2, by have := HLen.out; rw [hbl2]; simp [hsz]; omega, HBB.out.grown hgr2 hn, hn, hgr⟩
    have hbo2 : Sm.allB bl2 := by
      rw [hbl2]
      intro x hx
      rcases List.mem_append.1 hx with hx | hx
      · exact HH.out.bok x (List.mem_of_mem_take hx)
      · exact HBB.out.ok x (List.mem_of_mem_take hx)
    have hst2 := Start.block (B := B) HH.out HR.out hr0 hs (by have := HLen.out; omega)
    rw [← hbl2] at hst2
    obtain ⟨V2, hV2⟩ : ∃ V2, V2 = Sm.blocks bl2 v 1 := ⟨_, rfl⟩
    have HA2 := all_any v HH.out.vok bl2 (some ⟨g, 8, none⟩) 64 64 W2.drew ((Bytes.block hM2.row hM2.size hbo2).heap rfl) (by rw [hM2.size])
    rw [hM2.size, show 64 / 64 = 1 from rfl, ← hV2] at HA2
    rw [← hV2] at hst2
    have HAA2 := Lib.hid HA2
    have HM2 := Lib.hid hM2
    have HS2 := Lib.hid hst2
    have HVV2 := Lib.hid hst2.1
    have HBO2 := Lib.hid hbo2
    clear HA2 hM2 hst2 hbo2 hV2 hbl2 hW2 hsz hlm hcp hcl hfl hL0 hL1 HSL
    obtain ⟨a, b, c, d, e, f, h, k⟩ := v
    have c0 : W2.cell? ⟨g, 0, none⟩ = some (.int .u32 a) := st_cell HM2.out.row 0 (by omega)
    have c1 : W2.cell? ⟨g, 1, none⟩ = some (.int .u32 b) := st_cell HM2.out.row 1 (by omega)
    have c2 : W2.cell? ⟨g, 2, none⟩ = some (.int .u32 c) := st_cell HM2.out.row 2 (by omega)
    have c3 : W2.cell? ⟨g, 3, none⟩ = some (.int .u32 d) := st_cell HM2.out.row 3 (by omega)
    have c4 : W2.cell? ⟨g, 4, none⟩ = some (.int .u32 e) := st_cell HM2.out.row 4 (by omega)
    have c5 : W2.cell? ⟨g, 5, none⟩ = some (.int .u32 f) := st_cell HM2.out.row 5 (by omega)
    have c6 : W2.cell? ⟨g, 6, none⟩ = some (.int .u32 h) := st_cell HM2.out.row 6 (by omega)
    have c7 : W2.cell? ⟨g, 7, none⟩ = some (.int .u32 k) := st_cell HM2.out.row 7 (by omega)
    go_region_law ((go_simp; go_at_call 73; refine HAA2.out.mono ?_; rintro _ w3 ⟨rfl, hb4⟩; have m4 := Lib.hid (HM2.out.later (below_of hb4 rfl rfl rfl rfl)); clear hb4; have hst4 := st_store m4.out.row m4.out.size V2; have hu8 := size8 V2))
    generalize hW5 : w3.setCells g 0 (w32 V2.list) = W3
    have m5 := m4.out.words V2
    rw [hW5] at m5
    have HM3 := Lib.hid m5
    clear hW5 m5 hst4 hu8 m4 c0 c1 c2 c3 c4 c5 c6 c7
    go_wp2_with fail
    obtain ⟨T2, hT2⟩ : ∃ x, x = T ++ B.take m := ⟨_, rfl⟩
    obtain ⟨B2, hB2⟩ : ∃ x, x = B.drop m := ⟨_, rfl⟩
    have HET := Lib.hid (show T2 ++ B2 = T ++ B from by rw [hT2, hB2, List.append_assoc, List.take_append_drop])
    have hl2 : (T2 ++ B2).length < 1152921504606846976 := by rw [HET.out]; exact hl
    have HLT2 := Lib.hid (show (T2 ++ B2).length = N + len from by rw [HET.out]; exact HLT0.out)
    have HTO2 := Lib.hid (show Sm.allB T2 from by
      rw [hT2]
      intro x hx
      rcases List.mem_append.1 hx with hx | hx
      · exact HH.out.ok x hx
      · exact HBB.out.ok x (List.mem_of_mem_take hx))
    rw [← hT2] at HS2
    have hM4 : Mid w W3 g V2 bl2 (N + len) (some ⟨gb, ob + m, none⟩) (len - m) (cap - m) B2 := by
      have h0 := HM3.out
      exact ⟨h0.row, h0.size, by rw [hB2]; exact h0.bytes.drop m hml, (fun hb a ha => by cases ha; exact hn (by intro e0; rw [hB2, e0] at hb; simp at hb) ⟨gb, ob, none⟩ rfl), h0.grown⟩
    have HM4 := Lib.hid hM4
    clear hM4 HM3 hT2 hB2
    obtain ⟨len2, hlen2⟩ : ∃ x, x = len - m := ⟨_, rfl⟩
    obtain ⟨cap2, hcap2⟩ : ∃ x, x = cap - m := ⟨_, rfl⟩
    obtain ⟨ob2, hob2⟩ : ∃ x, x = ob + m := ⟨_, rfl⟩
    rw [← hlen2, ← hcap2, ← hob2] at HM4
    rw [← hlen2, ← hcap2, ← hob2]
    clear hlen2 hcap2 hob2 hm1 hm2 hcap0 hmc hbs HCPW HBB HR HT
    obtain ⟨F, hF⟩ : ∃ F, F = len2 - len2 % 64 := ⟨_, rfl⟩
    rw [show (len2 : Int) - (len2 : Int) % 64 = (F : Int) from by omega]
    have hFl : F ≤ len2 := by omega
    have hF64 : F % 64 = 0 := by omega
    have HF := Lib.hid hF
    have HF64 := Lib.hid hF64
    clear hF hF64
    have hcap := HM4.out.bytes.le
    have a1 : (0 : Int) ≤ F ∧ (F : Int) ≤ cap2 := by omega
    obtain ⟨U, hU⟩ : ∃ U, U = Sm.blocks (B2.take F) V2 ((B2.take F).length / 64) := ⟨_, rfl⟩
    have HA := all_any V2 HVV2.out (B2.take F) (some ⟨gb, ob2, none⟩) F cap2 W3.drew ((HM4.out.bytes.take F hFl).heap rfl) (by have := HF64.out; have := HM4.out.bytes.size; simp; omega)
    rw [← hU] at HA
    have HAA := Lib.hid HA
    have HU := Lib.hid hU
    clear HA hU
    obtain ⟨a, b, c, d, e, f, h, k⟩ := V2
    have c0 : W3.cell? ⟨g, 0, none⟩ = some (.int .u32 a) := st_cell HM4.out.row 0 (by omega)
    have c1 : W3.cell? ⟨g, 1, none⟩ = some (.int .u32 b) := st_cell HM4.out.row 1 (by omega)
    have c2 : W3.cell? ⟨g, 2, none⟩ = some (.int .u32 c) := st_cell HM4.out.row 2 (by omega)
    have c3 : W3.cell? ⟨g, 3, none⟩ = some (.int .u32 d) := st_cell HM4.out.row 3 (by omega)
    have c4 : W3.cell? ⟨g, 4, none⟩ = some (.int .u32 e) := st_cell HM4.out.row 4 (by omega)
    have c5 : W3.cell? ⟨g, 5, none⟩ = some (.int .u32 f) := st_cell HM4.out.row 5 (by omega)
    have c6 : W3.cell? ⟨g, 6, none⟩ = some (.int .u32 h) := st_cell HM4.out.row 6 (by omega)
    have c7 : W3.cell? ⟨g, 7, none⟩ = some (.int .u32 k) := st_cell HM4.out.row 7 (by omega)
    go_region_law ((go_simp; go_at_call 73; refine HAA.out.mono ?_; rintro _ w5 ⟨rfl, hb4⟩; have m4 := Lib.hid (HM4.out.later (below_of hb4 rfl rfl rfl rfl)); clear hb4; have hst4 := st_store m4.out.row m4.out.size U; have hu8 := size8 U))
    generalize hW5 : w5.setCells g 0 (w32 U.list) = W5
    have m5 := m4.out.words U
    rw [hW5] at m5
    have M5 := Lib.hid m5
    clear hW5 m5 hst4 hu8 m4 c0 c1 c2 c3 c4 c5 c6 c7
    go_wp2_with fail
    rcases Nat.lt_or_eq_of_le (Nat.le_trans hFl hcap) with hcc | hcc
    · have hcp := st_copy M5.out F (by have := HF.out; omega) hcc
      go_still_tail 7, (by kernel_rfl)
      go_wp2_with fail
      go_end0
      have hlF : (B2.drop F).length = len2 - F := by have := M5.out.bytes.size; simp; omega
      have hrow := st_set_block (W := W5.drew) M5.out.row M5.out.size 0 (B2.drop F) (by have := HF.out; omega)
      have hfin := Held.next HS2.out HTO2.out M5.out.bytes.ok hl2 M5.out.bytes.size HF.out HU.out M5.out.size HBO2.out
      refine ⟨rfl, ⟨U, _, (by rw [← HET.out]; exact hfin), ?_⟩, ?_⟩
      · rw [hlF] at hrow
        rw [← HET.out]
        have h0 := HLT2.out
        (try simp only [List.nil_append] at h0)
        rw [h0]
        simpa using hrow
      · exact grown_setCells (w1 := W5.drew) ⟨M5.out.grown.os, M5.out.grown.tape, M5.out.grown.output, M5.out.grown.size, M5.out.grown.block⟩ 8 _
    · subst hcc
      obtain rfl : len2 = F := by omega
      have hcp := run_copy_none (P := Try.prog) W5.drew 36 36 3 5 (some ⟨g, 8, none⟩) (some ⟨gb, ob2, none⟩) 64 64 0 0 A22 E5 (by rfl)
      go_still_tail 7, (by kernel_rfl)
      go_wp2_with fail
      go_end0
      have hfin := Held.next HS2.out HTO2.out M5.out.bytes.ok hl2 M5.out.bytes.size HF.out HU.out M5.out.size HBO2.out
      have e1 : B2.drop len2 = [] := List.drop_eq_nil_of_le (by have := M5.out.bytes.size; omega)
      rw [e1, Nat.sub_self, List.drop_zero, List.nil_append] at hfin
      refine ⟨rfl, ⟨U, bl2, (by rw [← HET.out]; exact hfin), ?_⟩, ?_⟩
      · rw [← HET.out]; have h0 := HLT2.out; (try simp only [List.nil_append] at h0); rw [h0]; exact M5.out.row
      · exact ⟨M5.out.grown.os, M5.out.grown.tape, M5.out.grown.output, M5.out.grown.size, M5.out.grown.block⟩
  · subst hmc
    obtain rfl : m = len := by omega
    go_enter Try.func61, Try.ntmps61
    go_wp2_with fail
    rw [← HCPW.out]
    generalize hW2 : (w.setCell ⟨g, 72, none⟩ (.int .u64 ((N + m : Nat) : Int))).setCells g (8 + r) (vals (B.take m)) = W2
    obtain ⟨bl2, hbl2⟩ : ∃ x, x = bl.take r ++ B.take m := ⟨_, rfl⟩
    have hlm : (B.take m).length = m := by have := HLen.out; simp; omega
    have hsz := HH.out.size
    have hM2 : Mid w W2 g v bl2 (N + m) (some ⟨gb, ob, none⟩) m m B := by
      have hrow2 := st_set_block HSL.out hsz r (B.take m) (by omega)
      rw [hW2, hlm, List.drop_eq_nil_of_le (by omega), List.append_nil, ← hbl2] at hrow2
      have hgr : w.grownBy W2 (some g) := by rw [← hW2]; exact grown_setCells (grown_setCell _ _ _ _) _ _
      have hgr2 : (w.setCell ⟨g, 72, none⟩ (.int .u64 ((N + m : Nat) : Int))).grownBy W2 (some g) := by rw [← hW2]; exact grown_setCells (World.grownBy.refl _ _) _ _
      exact ⟨hrow2, by have := HLen.out; rw [hbl2]; simp [hsz]; omega, HBB.out.grown hgr2 hn, hn, hgr⟩
    have hbo2 : Sm.allB bl2 := by
      rw [hbl2]
      intro x hx
      rcases List.mem_append.1 hx with hx | hx
      · exact HH.out.bok x (List.mem_of_mem_take hx)
      · exact HBB.out.ok x (List.mem_of_mem_take hx)
    have hst2 := Start.block (B := B) HH.out HR.out hr0 hs (by have := HLen.out; omega)
    rw [← hbl2] at hst2
    obtain ⟨V2, hV2⟩ : ∃ V2, V2 = Sm.blocks bl2 v 1 := ⟨_, rfl⟩
    have HA2 := all_any v HH.out.vok bl2 (some ⟨g, 8, none⟩) 64 64 W2.drew ((Bytes.block hM2.row hM2.size hbo2).heap rfl) (by rw [hM2.size])
    rw [hM2.size, show 64 / 64 = 1 from rfl, ← hV2] at HA2
    rw [← hV2] at hst2
    have HAA2 := Lib.hid HA2
    have HM2 := Lib.hid hM2
    have HS2 := Lib.hid hst2
    have HVV2 := Lib.hid hst2.1
    have HBO2 := Lib.hid hbo2
    clear HA2 hM2 hst2 hbo2 hV2 hbl2 hW2 hsz hlm hcp hcl hfl hL0 hL1 HSL
    obtain ⟨a, b, c, d, e, f, h, k⟩ := v
    have c0 : W2.cell? ⟨g, 0, none⟩ = some (.int .u32 a) := st_cell HM2.out.row 0 (by omega)
    have c1 : W2.cell? ⟨g, 1, none⟩ = some (.int .u32 b) := st_cell HM2.out.row 1 (by omega)
    have c2 : W2.cell? ⟨g, 2, none⟩ = some (.int .u32 c) := st_cell HM2.out.row 2 (by omega)
    have c3 : W2.cell? ⟨g, 3, none⟩ = some (.int .u32 d) := st_cell HM2.out.row 3 (by omega)
    have c4 : W2.cell? ⟨g, 4, none⟩ = some (.int .u32 e) := st_cell HM2.out.row 4 (by omega)
    have c5 : W2.cell? ⟨g, 5, none⟩ = some (.int .u32 f) := st_cell HM2.out.row 5 (by omega)
    have c6 : W2.cell? ⟨g, 6, none⟩ = some (.int .u32 h) := st_cell HM2.out.row 6 (by omega)
    have c7 : W2.cell? ⟨g, 7, none⟩ = some (.int .u32 k) := st_cell HM2.out.row 7 (by omega)
    go_region_law ((go_simp; go_at_call 73; refine HAA2.out.mono ?_; rintro _ w3 ⟨rfl, hb4⟩; have m4 := Lib.hid (HM2.out.later (below_of hb4 rfl rfl rfl rfl)); clear hb4; have hst4 := st_store m4.out.row m4.out.size V2; have hu8 := size8 V2))
    generalize hW5 : w3.setCells g 0 (w32 V2.list) = W3
    have m5 := m4.out.words V2
    rw [hW5] at m5
    have HM3 := Lib.hid m5
    clear hW5 m5 hst4 hu8 m4 c0 c1 c2 c3 c4 c5 c6 c7
    go_wp2_with fail
    obtain ⟨T2, hT2⟩ : ∃ x, x = T ++ B.take m := ⟨_, rfl⟩
    obtain ⟨B2, hB2⟩ : ∃ x, x = B.drop m := ⟨_, rfl⟩
    have HET := Lib.hid (show T2 ++ B2 = T ++ B from by rw [hT2, hB2, List.append_assoc, List.take_append_drop])
    have hl2 : (T2 ++ B2).length < 1152921504606846976 := by rw [HET.out]; exact hl
    have HLT2 := Lib.hid (show (T2 ++ B2).length = N + m from by rw [HET.out]; exact HLT0.out)
    have HTO2 := Lib.hid (show Sm.allB T2 from by
      rw [hT2]
      intro x hx
      rcases List.mem_append.1 hx with hx | hx
      · exact HH.out.ok x hx
      · exact HBB.out.ok x (List.mem_of_mem_take hx))
    rw [← hT2] at HS2
    have hM4 : Mid w W3 g V2 bl2 (N + m) (some ⟨gb, ob, none⟩) 0 0 B2 := by
      have h0 := HM3.out
      have hB0 : B2 = [] := by rw [hB2]; exact List.drop_eq_nil_of_le (by have := HLen.out; omega)
      exact ⟨h0.row, h0.size, by rw [hB0]; exact ⟨rfl, Nat.le_refl _, fun x hx => by simp at hx, Or.inr ⟨gb, ob, rfl, fun i hi => by simp at hi⟩⟩, fun hb => absurd hB0 hb, h0.grown⟩
    have HM4 := Lib.hid hM4
    have hFl : 0 ≤ 0 := Nat.le_refl _
    clear hM4 HM3 hT2 hB2 hm1 hm2 hcap0 hbs HCPW HBB HR HT
    obtain ⟨U, hU⟩ : ∃ U, U = Sm.blocks (B2.take 0) V2 ((B2.take 0).length / 64) := ⟨_, rfl⟩
    have HA := all_any V2 HVV2.out (B2.take 0) (some ⟨gb, ob, none⟩) 0 0 W3.drew ((HM4.out.bytes.take 0 hFl).heap rfl) (by simp)
    rw [← hU] at HA
    have HAA := Lib.hid HA
    have HU := Lib.hid hU
    clear HA hU
    obtain ⟨a, b, c, d, e, f, h, k⟩ := V2
    have c0 : W3.cell? ⟨g, 0, none⟩ = some (.int .u32 a) := st_cell HM4.out.row 0 (by omega)
    have c1 : W3.cell? ⟨g, 1, none⟩ = some (.int .u32 b) := st_cell HM4.out.row 1 (by omega)
    have c2 : W3.cell? ⟨g, 2, none⟩ = some (.int .u32 c) := st_cell HM4.out.row 2 (by omega)
    have c3 : W3.cell? ⟨g, 3, none⟩ = some (.int .u32 d) := st_cell HM4.out.row 3 (by omega)
    have c4 : W3.cell? ⟨g, 4, none⟩ = some (.int .u32 e) := st_cell HM4.out.row 4 (by omega)
    have c5 : W3.cell? ⟨g, 5, none⟩ = some (.int .u32 f) := st_cell HM4.out.row 5 (by omega)
    have c6 : W3.cell? ⟨g, 6, none⟩ = some (.int .u32 h) := st_cell HM4.out.row 6 (by omega)
    have c7 : W3.cell? ⟨g, 7, none⟩ = some (.int .u32 k) := st_cell HM4.out.row 7 (by omega)
    go_region_law ((go_simp; go_at_call 73; refine HAA.out.mono ?_; rintro _ w5 ⟨rfl, hb4⟩; have m4 := Lib.hid (HM4.out.later (below_of hb4 rfl rfl rfl rfl)); clear hb4; have hst4 := st_store m4.out.row m4.out.size U; have hu8 := size8 U))
    generalize hW5 : w5.setCells g 0 (w32 U.list) = W5
    have m5 := m4.out.words U
    rw [hW5] at m5
    have M5 := Lib.hid m5
    clear hW5 m5 hst4 hu8 m4 c0 c1 c2 c3 c4 c5 c6 c7
    go_wp2_with fail
    have hcp := run_copy_none (P := Try.prog) W5.drew 36 36 3 5 (some ⟨g, 8, none⟩) (some ⟨gb, ob, none⟩) 64 64 0 0 A22 E5 (by rfl)
    go_still_tail 7, (by kernel_rfl)
    go_wp2_with fail
    go_end0
    have hfin := Held.next HS2.out HTO2.out M5.out.bytes.ok hl2 M5.out.bytes.size (show 0 = 0 - 0 % 64 from rfl) HU.out M5.out.size HBO2.out
    have e1 : B2.drop 0 = [] := List.drop_eq_nil_of_le (by have := M5.out.bytes.size; omega)
    rw [e1, Nat.sub_self, List.drop_zero, List.nil_append] at hfin
    refine ⟨rfl, ⟨U, bl2, (by rw [← HET.out]; exact hfin), ?_⟩, ?_⟩
    · rw [← HET.out]; have h0 := HLT2.out; (try simp only [List.nil_append] at h0); rw [h0]; exact M5.out.row
    · exact ⟨M5.out.grown.os, M5.out.grown.tape, M5.out.grown.output, M5.out.grown.size, M5.out.grown.block⟩
end Go.Proofs.Ytlkeobohcfbgcaa

/- The contracts of State.Write (all cases), State.Done, State.Len and Sum. -/
namespace Go.Proofs.Ytlkeobohcfbgcaa
open Go.RowKit

theorem write_any (T B : List Nat) (g : Nat) (p : Option Addr) (len cap : Nat) (w : World) (hs : StateAt w g T)
    (hB : Bytes w p len cap B) (hn : B ≠ [] → ∀ a, p = some a → a.block ≠ g) (hl : (T ++ B).length < 1152921504606846976) :
    Calls Try.prog 61 #[.pointer (some ⟨g, 0, none⟩), .slice p len cap] w fun e w' => e = .returned (.tuple #[]) ∧ StateAt w' g (T ++ B) ∧ w.grownBy w' (some g) := by
  obtain ⟨v, bl, hh, hg⟩ := hs
  by_cases h0 : T = []
  · exact write_a T B g p len cap w h0 v bl hh hg hB hn hl
  · by_cases h1 : T.length % 64 = 0
    · exact write_b T B g p len cap w h0 h1 v bl hh hg hB hn hl
    · by_cases h2 : T.length % 64 + len < 64
      · exact write_c T B g p len cap w _ rfl (by omega) h2 v bl hh hg hB hn hl
      · exact write_d T B g p len cap w _ (64 - T.length % 64) rfl (by omega) (by omega) (by omega) v bl hh hg hB hn hl

theorem U36' : (match Try.prog.underlying 103 with | some (.struct _) => true | _ => false) = true := by kernel_rfl
theorem U36 : ∃ fs, Try.prog.underlying 103 = some (.struct fs) := by
  have h := U36'
  split at h
  · rename_i fs hfs; exact ⟨fs, hfs⟩
  · cases h
def zero8 : Sm.V8 := ⟨0, 0, 0, 0, 0, 0, 0, 0⟩
theorem Z36 : (Try.prog.info? 103).map (fun i => (i.zero, i.size)) = some (some (.agg (stL zero8 (zeros 64) 0).toArray), 73) := by kernel_rfl
/-- The zero State has nothing written. -/
theorem held_zero : Held [] zero8 (zeros 64) :=
  ⟨fun x hx => by simp at hx, ⟨by decide, by decide, by decide, by decide, by decide, by decide, by decide, by decide⟩, by decide, fun h => absurd rfl h, by simp [zeros], zeros_ok 64, by simp⟩
theorem state_zero {w : World} {g : Nat} (h : w.heap[g]? = some (.cells (stL zero8 (zeros 64) 0).toArray 103 (0, 0))) : StateAt w g [] := ⟨_, _, held_zero, h⟩
theorem stL_one (v : Sm.V8) (bl : List Nat) (L : Nat) : ((stL v bl L).toArray).all (·.oneCell') = true :=
  all_oneCell_toArray fun u hu => by
    simp only [stL, List.mem_append, List.mem_singleton] at hu
    rcases hu with (hu | hu) | rfl
    · exact u32_of_w32 _ u hu
    · exact vals_one _ u hu
    · rfl
theorem stL_size (v : Sm.V8) (bl : List Nat) (L : Nat) (h : bl.length = 64) : ((stL v bl L).toArray).size = 73 := by simp [stL_length v bl L h]
theorem StateAt.later {w w' : World} {g : Nat} {T : List Nat} (h : StateAt w g T) (hb : Below w.heap.size w w') : StateAt w' g T := by
  obtain ⟨v, bl, hh, hg⟩ := h
  exact ⟨v, bl, hh, (hb.block _ (Array.getElem?_eq_some_iff.1 hg).1).trans hg⟩
theorem StateAt.lt {w : World} {g : Nat} {T : List Nat} (h : StateAt w g T) : g < w.heap.size := by
  obtain ⟨v, bl, hh, hg⟩ := h
  exact (Array.getElem?_eq_some_iff.1 hg).1
theorem sum_size (B : List Nat) : (u8s (Sm.sum B)).size = 32 := rfl
theorem bytes4_len (v : Sm.V8) : (u8s (Sm.bytesOf v)).size = 32 := rfl
set_option maxRecDepth 100000 in
set_option maxHeartbeats 1000000 in
theorem done_any (T : List Nat) (g : Nat) (w : World) (hs : StateAt w g T) (hl : T.length < 576460752303423488) :
    Calls Try.prog 63 #[.pointer (some ⟨g, 0, none⟩)] w fun e w' => e = .returned (.agg (u8s (Sm.sum T))) ∧ Below w.heap.size w w' := by
  have hlt := hs.lt
  obtain ⟨v, bl, hh, hg⟩ := hs
  obtain ⟨fs, hu⟩ := U36
  have hz := (zero_of_info Z25).1
  have hz6 := (zero_of_info Z36).1
  have hg1 : (w.alloc (.cells (u8s (zeros 32)) 44)).heap[g]? = _ := (Below.heap_alloc w _ _ hlt).trans hg
  have hg2 : ((w.alloc (.cells (u8s (zeros 32)) 44)).alloc (.cells (stL v bl T.length).toArray 103)).heap[g]? = _ := (Below.heap_alloc _ _ _ (by simp; omega)).trans hg1
  have hcl : ((w.alloc (.cells (u8s (zeros 32)) 44)).alloc (.cells (stL v bl T.length).toArray 103)).cell? ⟨g, 72, none⟩ = some (.int .u64 (T.length : Nat)) := st_len hg2 hh.size
  have hS2 : StateAt ((w.alloc (.cells (u8s (zeros 32)) 44)).alloc (.cells (stL v bl T.length).toArray 103)) (w.heap.size + 1) T := ⟨v, bl, hh, heap_alloc2_new _ _ _⟩
  have hB2 : Below w.heap.size w ((w.alloc (.cells (u8s (zeros 32)) 44)).alloc (.cells (stL v bl T.length).toArray 103)) := ((Below.refl _ _).alloc (Nat.le_refl _) _).alloc (by simp) _
  have hR2 : ((w.alloc (.cells (u8s (zeros 32)) 44)).alloc (.cells (stL v bl T.length).toArray 103)).heap[w.heap.size]? = some (.cells (u8s (zeros 32)) 44 (0, 0)) := heap_alloc2_old _ _ _
  have HG1 := Lib.hid hg1
  have HS2 := Lib.hid hS2
  have HB2 := Lib.hid hB2
  have HR2 := Lib.hid hR2
  have HU := Lib.hid hu
  have HSZ := Lib.hid hh.size
  clear hu hg1 hg2 hh hg hS2 hB2 hR2
  go_enter Try.func63, Try.ntmps63
  go_wp2_with (first | (refine wpList_load_row (by rfl) 103 _ (by rfl) g (by rfl) 103 _ (0, 0) _ HG1.out HU.out (by rfl) (by rw [stL_size _ _ _ HSZ.out]; exact A36) ?_) | (refine wpList_store_row (by rfl) 103 _ _ (by rfl) (w.heap.size + 1) _ (by rfl) (by rfl) _ _ (by exact heap_alloc2_new _ _ _) (by rw [stL_size _ _ _ HSZ.out]; exact A36) (by rw [stL_size _ _ _ HSZ.out, stL_size _ _ _ (by simp [zeros])]) (stL_one _ _ _) ?_; rw [setRow_alloc2]))
  refine (filling_any T.length (by omega) _).mono ?_
  rintro _ w3 ⟨len, cap, rfl, hbf, hb3⟩
  rw [show ((w.alloc (.cells (u8s (zeros 32)) 44)).alloc (.cells (stL v bl T.length).toArray 103)).heap.size = w.heap.size + 2 from by simp] at hbf ⊢
  have hfl : (T ++ Sm.fill T.length).length < 1152921504606846976 := by simp [Sm.fill, Sm.bigs]; omega
  have hS3 := HS2.out.later hb3
  have hB3 := HB2.out.trans (hb3.mono HB2.out.size)
  have hR3 := (hb3.block _ (Array.getElem?_eq_some_iff.1 HR2.out).1).trans HR2.out
  have HS3 := Lib.hid hS3
  have HB3 := Lib.hid hB3
  have HR3 := Lib.hid hR3
  have HBF := Lib.hid hbf
  clear hS3 hB3 hR3 hb3 hbf hcl
  go_wp2_with fail
  refine (write_any T (Sm.fill T.length) (w.heap.size + 1) (some ⟨w.heap.size + 2, 0, none⟩) len cap w3 HS3.out HBF.out (fun _ a ha => by cases ha; show w.heap.size + 2 ≠ w.heap.size + 1; omega) hfl).mono ?_
  rintro _ w4 ⟨rfl, ⟨v4, bl4, hh4, hg4⟩, hgr⟩
  have hne : T ++ Sm.fill T.length ≠ [] := by simp [Sm.fill]
  have hlt4 : w.heap.size < w4.heap.size := Nat.lt_of_lt_of_le (Array.getElem?_eq_some_iff.1 HR3.out).1 hgr.size
  have hR4 : w4.heap[w.heap.size]? = _ := (hgr.block _ (Array.getElem?_eq_some_iff.1 HR3.out).1 (by simp)).trans HR3.out
  have hB4 : Below w.heap.size w w4 := ⟨hgr.os.trans HB3.out.os, hgr.tape.trans HB3.out.tape, hgr.output.trans HB3.out.output, Nat.le_trans HB3.out.size hgr.size, fun k hk => (hgr.block k (Nat.lt_of_lt_of_le hk HB3.out.size) (by simp; omega)).trans (HB3.out.block k hk)⟩
  have HV4 := Lib.hid hh4.vok
  have HW4 := Lib.hid (hh4.words hne)
  have HG4 := Lib.hid hg4
  have HR4 := Lib.hid hR4
  have HB4 := Lib.hid hB4
  clear hh4 hg4 hR4 hB4 hgr hne
  go_wp2_with (refine wpList_load_mid (by rfl) 101 _ (by rfl) (w.heap.size + 1) 0 (by rfl) (w32 v4.list) _ (st_words HG4.out) A32 (by rfl) (by exact S32) ?_)
  refine (bytesOf_any v4 HV4.out w4).mono ?_
  rintro _ w5 ⟨rfl, hb5⟩
  have hR5 := (hb5.block _ hlt4).trans HR4.out
  have HR5 := Lib.hid hR5
  have HB5 := Lib.hid (HB4.out.trans (hb5.mono HB4.out.size))
  clear hR5 hb5
  go_wp2_with (refine wpList_store_row (by rfl) 44 _ _ (by rfl) w.heap.size (u8s (Sm.bytesOf v4)) (by rfl) (by rfl) _ _ HR5.out (by rw [bytes4_len]; exact S25) (by rw [bytes4_len]; simp [u8s, zeros]) (u8s_one _) ?_)
  refine ret_row 2 (by kernel_rfl) w.heap.size _ _ A25 S25 rfl (setRow_heap _ _ _ _ _ _ HR5.out) (bytes4_len v4) ⟨?_, Below.setRow HB5.out (Nat.le_refl _) _⟩
  rw [HW4.out]
  rfl
end Go.Proofs.Ytlkeobohcfbgcaa

/- The contract of sha.Hash. -/
namespace Go.Proofs.Ytlkeobohcfbgcaa
open Go.RowKit

def HashRel (w : World) (tag len : Nat) (L : List (List Nat)) (i : Value) (wr : World) : Prop :=
  ∃ k : Nat, k ≤ len ∧ i = .int .i64 k ∧ StateAt wr (w.heap.size + 1) (pre tag (L.take k)) ∧ wr.heap[w.heap.size]? = some (.cells (u8s (zeros 32)) 44 (0, 0)) ∧ Below w.heap.size w wr
set_option maxRecDepth 100000 in
set_option maxHeartbeats 1000000 in
theorem hash_any (tag : Nat) (htag : tag < 256) (L : List (List Nat)) (p : Option Addr) (len cap : Nat) (w : World) (hL : Texts w p len cap L) (hl : tot L < 1099511627776) :
    Calls Try.prog 45 #[.int .u8 tag, .slice p len cap] w fun e w' => e = .returned (.agg (u8s (Sm.sum (pre tag L)))) ∧ Below w.heap.size w w' := by
  have hsz := hL.size
  have hle := hL.le
  have hlen : len < 1099511627776 := by have := len_le_tot L; omega
  have hz := (zero_of_info Z25).1
  have hz6 := (zero_of_info Z36).1
  have h59 := (zero_of_info Z59).1
  have HL := Lib.hid hL
  have HSZ := Lib.hid hsz
  clear hL hsz
  have hB2 : Below w.heap.size w ((w.alloc (.cells (u8s (zeros 32)) 44)).alloc (.cells (stL zero8 (zeros 64) 0).toArray 103)) := ((Below.refl _ _).alloc (Nat.le_refl _) _).alloc (by simp) _
  have hS2 : StateAt ((w.alloc (.cells (u8s (zeros 32)) 44)).alloc (.cells (stL zero8 (zeros 64) 0).toArray 103)) (w.heap.size + 1) [] := state_zero (heap_alloc2_new _ _ _)
  have hR2 : ((w.alloc (.cells (u8s (zeros 32)) 44)).alloc (.cells (stL zero8 (zeros 64) 0).toArray 103)).heap[w.heap.size]? = some (.cells (u8s (zeros 32)) 44 (0, 0)) := heap_alloc2_old _ _ _
  have HB2 := Lib.hid hB2
  have HS2 := Lib.hid hS2
  have HR2 := Lib.hid hR2
  clear hB2 hS2 hR2
  go_enter Try.func45, Try.ntmps45
  go_wp2_with fail
  generalize hWW : (w.alloc (.cells (u8s (zeros 32)) 44)).alloc (.cells (stL zero8 (zeros 64) 0).toArray 103) = WW
  have hsz2 : WW.heap.size = w.heap.size + 1 + 1 := by subst hWW; simp
  rw [hWW] at HB2 HS2 HR2
  have hs3 : StateAt (WW.alloc (.cells #[.int .u8 tag] 5)) (w.heap.size + 1) [] := HS2.out.later ((Below.refl _ _).alloc (Nat.le_refl _) _)
  have hb3 : Bytes (WW.alloc (.cells #[.int .u8 tag] 5)) (some ⟨w.heap.size + 1 + 1, 0, none⟩) 1 1 [tag] := by
    rw [← hsz2]
    exact Bytes.row (L := [tag]) (heap_alloc_new WW _) (by intro x hx; simp at hx; omega)
  have hB3 : Below w.heap.size w (WW.alloc (.cells #[.int .u8 tag] 5)) := HB2.out.alloc HB2.out.size _
  have hR3 : (WW.alloc (.cells #[.int .u8 tag] 5)).heap[w.heap.size]? = some (.cells (u8s (zeros 32)) 44 (0, 0)) := (Below.heap_alloc _ _ _ (by omega)).trans HR2.out
  refine (write_any [] [tag] (w.heap.size + 1) _ 1 1 _ hs3 hb3 (fun _ a ha => by cases ha; show w.heap.size + 1 + 1 ≠ w.heap.size + 1; omega) (by simp)).mono ?_
  rintro _ w4 ⟨rfl, hs4, hg4⟩
  have HB4 := Lib.hid (grown_below hB3 hg4 (by omega))
  have HR4 := Lib.hid ((hg4.block _ (Array.getElem?_eq_some_iff.1 hR3).1 (by simp)).trans hR3)
  have HS4 := Lib.hid hs4
  clear hs3 hb3 hB3 hR3 hs4 hg4 hWW hsz2 HB2 HS2 HR2
  go_wp2_with fail
  go_loopw [14] (fun i wr => HashRel w tag len L i wr) (fun i _ => len - (intOf i).toNat)
  case atStart => exact ⟨0, by omega, rfl, HS4.out, HR4.out, HB4.out⟩
  case round =>
    obtain ⟨k, hk, rfl, hs, hr, hb⟩ := hrel
    have HS := Lib.hid hs
    have HR := Lib.hid hr
    have HB := Lib.hid hb
    clear hs hr hb HB4 HR4 HS4
    by_cases hlt : k < len
    · obtain ⟨g, o, hp, hx⟩ := HL.out.at' (by intro e; have := HSZ.out; rw [e] at this; simp at this; omega)
      obtain ⟨q, n, c, h1, h2⟩ := hx k (by have := HSZ.out; omega)
      subst hp
      have e1 := tot_step L k (by have := HSZ.out; omega)
      have e2 := tot_take_le L (k + 1)
      have e3 : n = (L.getD k []).length := h2.size
      have hbk : ∀ a, q = some a → L.getD k [] ≠ [] → a.block < w.heap.size := fun a ha hn => by
        subst ha
        have := h2.cells 0 _ (vals_get _ 0 (List.length_pos_iff.2 hn))
        exact block_lt_of_cell this
      have hcell : wr.cell? ⟨g, o + k, none⟩ = some (.slice q n c) := (HB.out.cell (p := ⟨g, o + k, none⟩) (block_lt_of_cell h1)).trans h1
      have HT := Lib.hid h2
      have HBK := Lib.hid hbk
      have HE := Lib.hid (show tot (L.take k) + (8 + n) < 1099511627776 from by omega)
      have HE3 := Lib.hid e3
      have hn : n < 1099511627776 := by omega
      clear hx h1 h2 hbk e1 e2 e3
      go_wp2_with fail
      refine (bigEnd_any n (by omega) _).mono ?_
      rintro _ w3 ⟨rfl, hb3⟩
      have hs3 : StateAt (w3.alloc (.cells (u8s (Sm.bigs n)) 105)) (w.heap.size + 1) (pre tag (L.take k)) := (HS.out.later hb3).later ((Below.refl _ _).alloc (Nat.le_refl _) _)
      have hB3 : Below w.heap.size w (w3.alloc (.cells (u8s (Sm.bigs n)) 105)) := (HB.out.trans (hb3.mono HB.out.size)).alloc (Nat.le_trans HB.out.size hb3.size) _
      have hr3 := (hb3.block _ (Array.getElem?_eq_some_iff.1 HR.out).1).trans HR.out
      have hR3 : (w3.alloc (.cells (u8s (Sm.bigs n)) 105)).heap[w.heap.size]? = some (.cells (u8s (zeros 32)) 44 (0, 0)) := (Below.heap_alloc _ _ _ (Array.getElem?_eq_some_iff.1 hr3).1).trans hr3
      have hgs : w.heap.size + 1 < w3.heap.size := Nat.lt_of_lt_of_le HS.out.lt hb3.size
      have HS3 := Lib.hid hs3
      have HB3 := Lib.hid hB3
      have HR3 := Lib.hid hR3
      have HGS := Lib.hid hgs
      have HY3 := Lib.hid (Bytes.row (L := Sm.bigs n) (heap_alloc_new w3 (.cells (u8s (Sm.bigs n)) 105)) (bigs_all n))
      clear hs3 hB3 hR3 hr3 hgs hb3
      go_wp2_with (refine wpList_store_row (by rfl) 105 _ _ (by rfl) w3.heap.size (u8s (Sm.bigs n)) (by rfl) (by rfl) _ _ (heap_alloc_new _ _) (by exact S59) (by simp [u8s, zeros]; rfl) (u8s_one _) ?_; rw [setRow_alloc])
      refine (write_any (pre tag (L.take k)) (Sm.bigs n) (w.heap.size + 1) _ 8 8 _ HS3.out HY3.out (fun _ a ha => by cases ha; have := HGS.out; show w3.heap.size ≠ w.heap.size + 1; omega) (by have := HE.out; simp only [List.length_append, pre_length, Sm.bigs, List.length_cons, List.length_nil]; omega)).mono ?_
      rintro _ w5 ⟨rfl, hs5, hg5⟩
      have HB5 := Lib.hid (grown_below HB3.out hg5 (by omega))
      have HR5 := Lib.hid ((hg5.block _ (Array.getElem?_eq_some_iff.1 HR3.out).1 (by simp)).trans HR3.out)
      have HS5 := Lib.hid hs5
      clear hs5 hg5
      go_wp2_with fail
      refine (write_any (pre tag (L.take k) ++ Sm.bigs n) (L.getD k []) (w.heap.size + 1) q n c _ HS5.out (HT.out.later HB5.out).bytes (fun hne a ha => by have := HBK.out a ha hne; omega) (by have := HE.out; have := HE3.out; simp only [List.length_append, pre_length, Sm.bigs, List.length_cons, List.length_nil]; omega)).mono ?_
      rintro _ w6 ⟨rfl, hs6, hg6⟩
      have HB6 := Lib.hid (grown_below HB5.out hg6 (by omega))
      have HR6 := Lib.hid ((hg6.block _ (Array.getElem?_eq_some_iff.1 HR5.out).1 (by simp)).trans HR5.out)
      have HS6 := Lib.hid hs6
      clear hs6 hg6
      go_wp2_with fail
      go_roundw
      case rel =>
        refine ⟨k + 1, by omega, by go_num, ?_, HR6.out, HB6.out⟩
        have e := HS6.out
        rw [pre_step tag L k (by have := HSZ.out; omega), part, ← HE3.out, ← List.append_assoc]
        exact e
      case measure => simp [intOf]; omega
    · obtain rfl : k = len := by omega
      have hT : pre tag (L.take k) = pre tag L := by rw [List.take_of_length_le (by have := HSZ.out; omega)]
      rw [hT] at HS
      clear hT
      go_wp2_with fail
      refine (done_any (pre tag L) _ _ HS.out (by rw [pre_length]; omega)).mono ?_
      rintro _ w5 ⟨rfl, hb5⟩
      have HR5 := Lib.hid ((hb5.block _ (Array.getElem?_eq_some_iff.1 HR.out).1).trans HR.out)
      have HB5 := Lib.hid (HB.out.trans (hb5.mono HB.out.size))
      clear hb5
      go_wp2_with (refine wpList_store_row (by rfl) 44 _ _ (by rfl) w.heap.size (u8s (Sm.sum (pre tag L))) (by rfl) (by rfl) _ _ HR5.out (by rw [sum_size]; exact S25) (by rw [sum_size]; simp [u8s, zeros]) (u8s_one _) ?_)
      exact ret_row 4 (by kernel_rfl) w.heap.size _ _ A25 S25 rfl (setRow_heap _ _ _ _ _ _ HR5.out) (sum_size _) ⟨rfl, Below.setRow HB5.out (Nat.le_refl _) _⟩
end Go.Proofs.Ytlkeobohcfbgcaa
