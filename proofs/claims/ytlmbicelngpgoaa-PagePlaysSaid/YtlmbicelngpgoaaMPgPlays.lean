/- Proved: whatever list of steps it is handed, the Go function indenturelaw09.PagePlays returns true (whatever is put, got and given up, each answer, and all sums, are the document's), and each argument reads afterwards as it read before. Conditions: none beyond the given row's own. -/
import Derived.Test.YtlmbicelngpgoaaM6
import Derived.Deep.CutBlock
import Derived.IntWalk
/- The law PagePlays, over whatever store keeps the contracts. -/
namespace Go.Proofs.Ytlmbicelngpgoaa.Pg
open Go.RowKit

theorem put_few9 (s : S) (b : List Nat) : (s.put b).W.length ≤ s.W.length + 1 := by
  show (putW s.W b).length ≤ _
  unfold putW
  split
  · omega
  · simp
variable {PL : World → Nat → (Nat → Prop) → S → Prop}
/-- A store and the reference's list of the same pages. -/
structure Pl (PL : World → Nat → (Nat → Prop) → S → Prop) (w wr : World) (g : Nat) (Q : Nat → Prop) (s : S) (v : Value) (n : Nat) (L : List Pe) : Prop where
  st : St PL w wr g Q s
  pgs : Pgs w.heap.size wr v n L
  same : pagesOf L = s.W
  off : ∀ k, PU v L k → w.heap.size ≤ k ∧ ¬ Q k
  few : ∀ x ∈ s.W, x.2.length ≤ 300
theorem Pl.len {w wr : World} {g : Nat} {Q : Nat → Prop} {s : S} {v : Value} {n : Nat} {L : List Pe} (h : Pl PL w wr g Q s v n L) : s.W.length = n := by rw [← h.same, pagesOf_length, h.pgs.size]
theorem Pl.later (A : Api PL) {w wr w' : World} {g : Nat} {Q : Nat → Prop} {s : S} {v : Value} {n : Nat} {L : List Pe} (h : Pl PL w wr g Q s v n L) (hb : Below wr.heap.size wr w') : Pl PL w w' g Q s v n L :=
  ⟨h.st.later A hb, h.pgs.later hb, h.same, h.off, h.few⟩
/-- Behind a turning of what is neither the store's nor the list's. -/
theorem Pl.only (A : Api PL) {w wr w' : World} {g : Nat} {Q : Nat → Prop} {s : S} {v : Value} {n : Nat} {L : List Pe} (h : Pl PL w wr g Q s v n L) (X : Nat → Prop) (ho : Dk.Only X wr w') (hx : ∀ k, X k → w.heap.size ≤ k ∧ ¬ Q k ∧ ¬ PU v L k) : Pl PL w w' g Q s v n L :=
  ⟨⟨A.keep X h.st.at' ho (fun k hk e => (hx k e).2.1 hk), h.st.own, h.st.low.trans (ho.below h.st.low.size (fun k e => (hx k e).1))⟩, h.pgs.only ho (fun k hk e => (hx k e).2.2 hk), h.same, h.off, h.few⟩
theorem wpList_append_bytes {w : World} {ops : Array Oper} {rest : List Oper} {o : Oper} {a : Act} {Q : Exit → Act → World → Prop} (hg : o.guard = none) (s x : Operand)
    (ho : o.op = .call { callee := .builtin .append, args := #[s, x], argTypes := #[27, 27] })
    (base : Nat) (v : Value) (hs : a.eval s = v) (hown : w.ownsRow base 5 1 v 0 []) {p : Option Addr} {m c : Nat} {b : List Nat} (hx : a.eval x = .slice p m c) (hT : Tx w p m c b) (hm : m ≤ 100000) (hbase : base ≤ w.heap.size)
    (h : ∀ v' w', w'.ownsRow base 5 1 v' m (vals b) → w.grownBy w' v.ownBlock → wpList Try.prog ops Q rest (a.put o.dst v') w') : wpList Try.prog ops Q (o :: rest) a w :=
  wpList_plain hg fun _ hK => wp_append_bytes s x ho base v hs hown hx hT hm hbase (fun v' w' h1 h2 => hK _ _ (h v' w' h1 h2))
theorem neq_selfP (D : List Nat) (hD : D.length = 32) (w : World) : (binOp .neq 32 (.agg (u8s D)) (.agg (u8s D))).run Try.prog w = .ok (.bool false) w := by
  rw [digest_neq D D hD hD w, decide_eq_true (rfl : D = D)]
  rfl
theorem set_okP {B : List Nat} (h : Sm.allB B) (j x : Nat) (hx : x < 256) : Sm.allB (B.set j x) := fun y hy => by
  rcases List.mem_or_eq_of_mem_set hy with h1 | h1
  · exact h y h1
  · omega
/-- The bytes of a copy are turned, one by one. -/
def IncP (PL : World → Nat → (Nat → Prop) → S → Prop) (w : World) (g : Nat) (Q : Nat → Prop) (s : S) (v : Value) (n : Nat) (L : List Pe) (base : Nat) (qb : Option Addr) (bn cb : Nat) (i : Value) (wx : World) : Prop :=
  ∃ (j : Nat) (B : List Nat), j ≤ bn ∧ i = .int .i64 j ∧ Pl PL w wx g Q s v n L ∧ wx.ownsRow base 5 1 (.slice qb bn cb) bn (vals B) ∧ Sm.allB B ∧ B.length = bn
theorem owns_keepP {w w' : World} {base n size : Nat} {e : TypeId} {v : Value} {xs : List Value} (h : w.ownsRow base e size v n xs) (hb : ∀ g, v.ownBlock = some g → w'.heap[g]? = w.heap[g]?) : w'.ownsRow base e size v n xs := by
  refine ⟨h.1, ?_⟩
  rcases h.2 with h1 | ⟨g, cap, cur, h1, h2, h3, h4⟩
  · exact Or.inl h1
  · exact Or.inr ⟨g, cap, cur, h1, h2, (hb g (by rw [h1]; rfl)).trans h3, h4⟩
def SumR (PL : World → Nat → (Nat → Prop) → S → Prop) (w : World) (g : Nat) (Q : Nat → Prop) (s : S) (v : Value) (n : Nat) (L : List Pe) (q : Option Addr) (m c : Nat) (D : List (List Nat)) (i : Value) (wx : World) : Prop :=
  ∃ (k : Nat), k ≤ m ∧ i = .int .i64 k ∧ Pl PL w wx g Q s v n L ∧ Digs wx q m c D
theorem pgs_base {base base' : Nat} {w : World} {v : Value} {n : Nat} {L : List Pe} (h : Pgs base w v n L) (hb : base' ≤ base) : Pgs base' w v n L :=
  ⟨h.size, by
    refine ⟨h.own.1, ?_⟩
    rcases h.own.2 with h1 | ⟨g, cap, cur, h1, h2, h3⟩
    · exact Or.inl h1
    · exact Or.inr ⟨g, cap, cur, h1, Nat.le_trans hb h2, h3⟩, h.len, h.text⟩
/-- The sums that are gathered. -/
def KpL (w0 : World) (K : List (List Nat)) (v11 v12 : Value) (wx : World) : Prop :=
  ∃ k : Nat, k ≤ K.length ∧ v12 = .int .i64 k ∧ Below w0.heap.size w0 wx ∧ wx.ownsRow w0.heap.size 32 32 v11 k ((K.take k).flatMap vals)
theorem flat_digs_at : ∀ (K : List (List Nat)), (∀ d ∈ K, d.length = 32 ∧ Sm.allB d) → ∀ (i j : Nat), i < K.length → j < 32 → (K.flatMap vals)[i * 32 + j]? = (vals (K.getD i []))[j]?
  | [], _, _, _, h, _ => by simp at h
  | d :: K, hd, 0, j, _, hj => by
    rw [List.flatMap_cons, List.getElem?_append_left (by rw [vals_length, (hd d List.mem_cons_self).1]; omega), Nat.zero_mul, Nat.zero_add]
    rfl
  | d :: K, hd, i + 1, j, h, hj => by
    rw [List.flatMap_cons, List.getElem?_append_right (by rw [vals_length, (hd d List.mem_cons_self).1]; omega), vals_length, (hd d List.mem_cons_self).1, show (i + 1) * 32 + j - 32 = i * 32 + j from by omega]
    exact flat_digs_at K (fun x hx => hd x (List.mem_cons_of_mem _ hx)) i j (by simpa using h) hj
theorem digs_own {w : World} {base n : Nat} {v : Value} {K : List (List Nat)} (h : w.ownsRow base 32 32 v n (K.flatMap vals)) (hd : ∀ d ∈ K, d.length = 32 ∧ Sm.allB d) (hn : n = K.length) : ∃ q c, v = .slice q n c ∧ Digs w q n c K := by
  rcases h.2 with ⟨rfl, h0⟩ | ⟨g, cap, cur, rfl, _, hg, hnc, _, _, ht⟩
  · obtain rfl : K = [] := List.length_eq_zero_iff.1 (by omega)
    subst h0
    exact ⟨none, 0, rfl, Digs.nil w⟩
  · refine ⟨_, cap, rfl, hn, hnc, hd, fun _ => ⟨g, 0, rfl, fun i hi j u hu => ?_⟩⟩
    have hj : j < 32 := by
      have := (List.getElem?_eq_some_iff.1 hu).1
      have hm : K.getD i [] ∈ K := getD_memK hi
      rwa [vals_length, (hd _ hm).1] at this
    have h1 := flat_digs_at K hd i j hi hj
    rw [Nat.zero_add, cell_of_row w g _ _ _ _ hg, ← Array.getElem?_toList, ← hu, ← h1, ← ht, List.getElem?_take_of_lt (by omega)]
def PlR (PL : World → Nat → (Nat → Prop) → S → Prop) (w : World) (g n : Nat) (v4 v5 : Value) (wr : World) : Prop :=
  ∃ (i : Nat) (Q : Nat → Prop) (s : S) (L : List Pe) (m : Nat), i ≤ n ∧ i ≤ 40 ∧ v5 = .int .i64 i ∧ Pl PL w wr g Q s v4 m L ∧ m ≤ i
set_option maxRecDepth 100000 in
set_option maxHeartbeats 2000000 in
theorem plays_any (A : Api PL) (p : Option Addr) (n c : Nat) (T : List Op) (w : World) (hT : Ops w p n c T) (_hn : n ≤ 9223372036854775807) :
    Calls Try.prog 3 #[.slice p n c] w fun e w' => e = .returned (.bool true) ∧ Below w.heap.size w w' := by
  have HT := Lib.hid hT
  have hz := (zero_of_info Z25).1
  have HS := Lib.hid hT.size
  clear hT
  go_enter Try.func3, Try.ntmps3
  go_wp2_with fail
  refine (palive_any A w).mono ?_
  rintro e w1 ⟨rfl, b1⟩
  have B1 := Lib.hid b1
  clear b1
  go_wp2_with fail
  refine (A.new w1).mono ?_
  rintro e w2 ⟨g, Q, rfl, p2, q2, b2⟩
  have S2 := Lib.hid (show Pl PL w w2 g Q ⟨[], none⟩ (.slice none 0 0) 0 [] from ⟨⟨p2, fun k hk => Nat.le_trans B1.out.size (q2 k hk), B1.out.trans (b2.mono B1.out.size)⟩, Pgs.nil _ _, rfl, (fun k hk => by
    rcases hk with hk | ⟨e, he, _⟩
    · simp [Value.ownBlock] at hk
    · cases he), (fun x hx => by cases hx)⟩)
  clear p2 q2 b2
  go_wp2_with fail
  go_loopw [4, 5] (fun v4 v5 wr => PlR PL w g n v4 v5 wr) (fun _ v5 _ => 40 - (intOf v5).toNat)
  case atStart => exact ⟨0, Q, _, [], 0, Nat.zero_le _, Nat.zero_le _, rfl, S2.out, Nat.le_refl _⟩
  case round =>
    obtain ⟨i, Q, s, L, m, hi, hi40, rfl, hp, hm⟩ := hrel
    have P := Lib.hid hp
    clear hp S2
    by_cases hlt : i < n
    · have l1 : (i : Int) < n := by omega
      by_cases hlt2 : i < 40
      · have l2 : (i : Int) < 40 := by omega
        obtain ⟨go, oo, rfl, hx⟩ := HT.out.at' (by omega)
        obtain ⟨hr, hok⟩ := hx i hlt
        obtain ⟨t, ht⟩ : ∃ t, t = T.getD i default := ⟨_, rfl⟩
        rw [← ht] at hr hok
        have OK := Lib.hid hok
        have e0 := Lib.hid (hr 0 _ rfl)
        have e1 := Lib.hid (hr 1 _ rfl)
        have e2 := Lib.hid (hr 2 _ rfl)
        have c0 := (P.out.st.low.cell (block_lt_of_cell e0.out)).trans e0.out
        have c1 := (P.out.st.low.cell (block_lt_of_cell e1.out)).trans e1.out
        have c2 := (P.out.st.low.cell (block_lt_of_cell e2.out)).trans e2.out
        rw [Nat.add_zero] at c0
        have i1 : (0 : Int) ≤ i ∧ (i : Int) < n := by omega
        clear hr hok hx ht
        by_cases h3 : t.bn > 300
        · have l3 : (t.bn : Int) > 300 := by omega
          clear h3
          go_wp2_with fail
          go_ret
          exact ⟨rfl, P.out.st.low⟩
        · have l3 : ¬ (t.bn : Int) > 300 := by omega
          by_cases h4 : t.ln > 20
          · have l4 : (t.ln : Int) > 20 := by omega
            clear h3 h4
            go_wp2_with fail
            go_ret
            exact ⟨rfl, P.out.st.low⟩
          · have l4 : ¬ (t.ln : Int) > 20 := by omega
            have hb3 : t.bn ≤ 300 := by omega
            have hl4 : t.ln ≤ 20 := by omega
            clear h3 h4
            have hk5 : (t.kind : Int).tmod 5 = ((t.kind % 5 : Nat) : Int) := by rw [Int.tmod_eq_emod_of_nonneg (by omega)]; omega
            have hx5 : t.kind % 5 < 5 := by omega
            generalize t.kind % 5 = x at *
            go_upto_block 2 with fail
            clear c0 c1 c2 hk5
            go_cut [4, 6, 7, 8, 9, 10, 11, 12, 13, 14, 15] from 53 to 194 (fun v4 _ _ _ _ _ _ _ _ _ _ wx => ∃ (Q : Nat → Prop) (s : S) (L : List Pe) (m : Nat), Pl PL w wx g Q s v4 m L ∧ m ≤ i + 1)
            case first =>
              by_cases h3 : x = 3
              · subst h3
                have c1 := (P.out.st.low.cell (block_lt_of_cell e1.out)).trans e1.out
                obtain ⟨qv, cv, rfl, hmc, hqv⟩ := P.out.pgs.form
                have HQV := Lib.hid hqv
                have HMI := Lib.hid (show m ≤ i + 1 from by omega)
                have hmi : m ≤ 100000 := by omega
                clear hqv
                go_wp2_with fail
                refine (rsum_any t.B t.bp t.bn t.bc wr (OK.out.b.later P.out.st.low) (by omega)).mono ?_
                rintro e w4 ⟨rfl, b4⟩
                obtain ⟨D, hD⟩ : ∃ D, D = sumOf t.B := ⟨_, rfl⟩
                rw [← hD]
                have HDL := Lib.hid (show D.length = 32 from by rw [hD]; rfl)
                have HDO := Lib.hid (show Sm.allB D from by rw [hD]; exact sumOf_ok _)
                have hb5 := (Below.refl w4.heap.size w4).alloc (Nat.le_refl _) (.cells (u8s D) 32)
                have R5 := Lib.hid (heap_alloc_new w4 (.cells (u8s D) 32))
                have P5 := Lib.hid ((P.out.later A b4).later A hb5)
                clear hD b4 hb5 c1
                go_upto_region 21 with (refine wpList_store_row (by rfl) 32 (.tmp 6) (.tmp 88) (by rfl) w4.heap.size (u8s D) (by rfl) (by rfl) _ _ (heap_alloc_new w4 _) (by rw [u8s_size, HDL.out]; exact S25) (by rw [u8s_size, u8s_size, HDL.out]; rfl) (u8s_one _) ?_; rw [setRow_alloc])
                generalize w4.alloc (.cells (u8s D) 32) = w5 at *
                generalize w4.heap.size = dd at *
                go_wp2_with (refine wpList_load_row (by rfl) 32 (.tmp 6) (by rfl) dd (by rfl) 32 (u8s D) (0, 0) _ R5.out A25 rfl (by rw [u8s_size, HDL.out]; exact S25) ?_)
                by_cases hfd : idx D s.W < s.W.length
                · as_aux_lemma =>
                    obtain ⟨tt, htt⟩ : ∃ tt, tt = (s.W.getD (idx D s.W) default).2 := ⟨_, rfl⟩
                    have HTA := Lib.hid (show textAt s.W D = some tt from by rw [htt]; exact textAt_some hfd)
                    have HTF := Lib.hid (show tt.length ≤ 300 from by rw [htt]; exact P5.out.few _ (getD_mem hfd))
                    have HTO := Lib.hid (show Sm.allB tt from by rw [htt]; exact (A.ok P5.out.st.at').bytes _ (getD_mem hfd))
                    have HHD := Lib.hid (decide_eq_true hfd)
                    obtain ⟨ix, hix⟩ : ∃ ix, ix = idx D s.W := ⟨_, rfl⟩
                    have hixm : ix < m := by rw [hix, ← P.out.len]; exact hfd
                    have HFI := Lib.hid (show findI (pagesOf L) D = (ix : Int) from by rw [P.out.same, findI, if_pos hfd, hix])
                    have HTB := Lib.hid (show (L.getD ix default).b = tt from by
                      have h1 := pagesOf_at L (i := ix) (by rw [← P.out.pgs.size]; exact hixm)
                      rw [P.out.same] at h1
                      rw [htt, ← hix, h1])
                    clear htt hix hfd
                    obtain ⟨tn, htn⟩ : ∃ tn, tn = tt.length := ⟨_, rfl⟩
                    refine (A.get tt D P5.out.st.at' HDL.out HDO.out HTA.out).mono ?_
                    rintro e w6 ⟨q6, c6, rfl, o6, b6⟩
                    rw [← htn] at o6
                    rw [← htn]
                    have HTN := Lib.hid htn
                    have htl : tn ≤ 300 := by rw [htn]; exact HTF.out
                    have P6 := Lib.hid (P5.out.later A b6)
                    have R6 := Lib.hid ((b6.block _ (Array.getElem?_eq_some_iff.1 R5.out).1).trans R5.out)
                    have O6 := Lib.hid o6
                    have HNP := Lib.hid (show ∀ k, (Value.slice q6 tn c6).ownBlock = some k → w.heap.size ≤ k ∧ ¬ Q k ∧ ¬ PU (.slice qv m cv) L k from fun k hk => by
                      have h1 := (o6.lt k hk).1
                      have h2 := P5.out.st.low.size
                      refine ⟨by omega, fun e => ?_, fun e => ?_⟩
                      · have := A.lt P5.out.st.at' k e; omega
                      · have := P5.out.pgs.lt k e; omega)
                    clear o6 b6 P5 R5 htn
                    go_wp2_with (refine wpList_load_row (by rfl) 32 (.tmp 6) (by rfl) dd (by rfl) 32 (u8s D) (0, 0) _ R6.out A25 rfl (by rw [u8s_size, HDL.out]; exact S25) ?_)
                    refine (rfind_any P6.out.pgs D HDL.out (by omega)).mono ?_
                    rintro e w7 ⟨rfl, b7⟩
                    rw [HFI.out]
                    have P7 := Lib.hid (P6.out.later A b7)
                    have R7 := Lib.hid ((b7.block _ (Array.getElem?_eq_some_iff.1 R6.out).1).trans R6.out)
                    have O7 := Lib.hid (owns_keepP O6.out (fun k hk => b7.block k (O6.out.lt k hk).2))
                    have T7 := Lib.hid (tx_of_owns O7.out HTO.out)
                    clear b7 P6 R6 O6
                    obtain ⟨g9, rfl⟩ := HQV.out (by omega)
                    have HC := Lib.hid (P7.out.pgs.head hixm)
                    have TE := Lib.hid (show Tx w7 (L.getD ix default).q (L.getD ix default).m (L.getD ix default).c tt from by
                      have h1 := (P7.out.pgs.text _ (getD_memP (by rw [← P7.out.pgs.size]; exact hixm))).1
                      rw [HTB.out] at h1
                      exact h1)
                    generalize (L.getD ix default).q = eq at *
                    generalize (L.getD ix default).m = em at *
                    generalize (L.getD ix default).c = ec at *
                    have x1 : (ix : Int) ≥ 0 := by omega
                    have x2 : ¬ (ix : Int) < 0 := by omega
                    have x2d : decide ((ix : Int) < 0) = false := decide_eq_false x2
                    have x1d : decide ((ix : Int) ≥ 0) = true := decide_eq_true x1
                    have x3 : (0 : Int) ≤ ix ∧ (ix : Int) < (m : Nat) := by omega
                    go_upto_region 23 with fail
                    go_cut [135] from 98 to 135 (fun v wx => v = .bool false ∧ Below w7.heap.size w7 wx)
                    case first =>
                      refine wp_region_held_drew (S := fun w' => Below w7.heap.size w7 w') (by kernel_rfl) (Below.refl _ _).drew (fun hHeld => ?_)
                      refine wpAnyH_take (i := 0) (oi := ⟨some 98, .move (.tmp 3), _, _, _, _⟩) (v := ?_) rfl (by kernel_rfl) (by kernel_rfl) (by kernel_rfl) (fun _ _ _ h => h) (Or.inl ⟨by rfl, ?_⟩) (by assumption) ?_
                      rotate_left
                      · intro w' hSw
                        go_simp
                        try with_reducible rfl
                      try simp only [Act.put, List.setIfInBounds_toArray, List.set_cons_zero, List.set_cons_succ]
                      refine wpAnyH_take (i := 1) (oi := ⟨some 99, .load 32 (.tmp 6), _, _, _, _⟩) (v := ?_) rfl (by kernel_rfl) (by kernel_rfl) (by kernel_rfl) (fun _ _ _ h => h) (Or.inl ⟨by rfl, ?_⟩) (by assumption) ?_
                      rotate_left
                      · intro w' hSw
                        refine Eq.trans (b := Result.ok (Next.value (.agg (u8s D))) w') ?_ ?_
                        · exact op_load_dig (by rfl) (by rfl) HDL.out (range_of_row' ((hSw.block dd (Array.getElem?_eq_some_iff.1 R7.out).1).trans R7.out))
                        · with_reducible rfl
                      try simp only [Act.put, List.setIfInBounds_toArray, List.set_cons_zero, List.set_cons_succ]
                      refine wpAnyH_take (i := 3) (oi := ⟨some 101, .move (.tmp 9), _, _, _, _⟩) (v := ?_) rfl (by kernel_rfl) (by kernel_rfl) (by kernel_rfl) (fun _ _ _ h => h) (Or.inl ⟨by rfl, ?_⟩) (by assumption) ?_
                      rotate_left
                      · intro w' hSw
                        go_simp
                        try with_reducible rfl
                      try simp only [Act.put, List.setIfInBounds_toArray, List.set_cons_zero, List.set_cons_succ]
                      refine wpAnyH_take (i := 4) (oi := ⟨some 102, .binOp .geq 3 (.tmp 101) (.const (.int .i64 0)) 3, _, _, _, _⟩) (v := ?_) rfl (by kernel_rfl) (by kernel_rfl) (by kernel_rfl) (fun _ _ _ h => h) (Or.inl ⟨by rfl, ?_⟩) (by assumption) ?_
                      rotate_left
                      · intro w' hSw
                        go_simp
                        try with_reducible rfl
                      try simp only [Act.put, List.setIfInBounds_toArray, List.set_cons_zero, List.set_cons_succ]
                      refine wpAnyH_ready (rs := [2]) (by kernel_rfl) (by simp) ?_
                      refine AllReadyH.cons (o := ⟨some 100, .call ⟨.value (.func 11), #[.tmp 98, .tmp 99], #[24, 32]⟩, _, _, _, _⟩) rfl (fun K hK => ?_) AllReadyH.nil
                      go_simp
                      refine (A.has D (P7.out.later A hHeld).st.at' HDL.out HDO.out).mono ?_
                      rintro _ w100 ⟨rfl, b100⟩
                      rw [HHD.out]
                      have hS100 : Below w7.heap.size w7 w100 := hHeld.trans (b100.mono hHeld.size)
                      try go_wp2_with fail
                      refine hK.out _ _ hS100 (fun hHeld => ?_)
                      clear hK K
                      try simp only [Act.put, List.setIfInBounds_toArray, List.set_cons_zero, List.set_cons_succ]
                      refine wpAnyH_take (i := 5) (oi := ⟨some 103, .binOp .neq 4 (.tmp 100) (.tmp 102) 4, _, _, _, _⟩) (v := ?_) rfl (by kernel_rfl) (by kernel_rfl) (by kernel_rfl) (fun _ _ _ h => h) (Or.inl ⟨by rfl, ?_⟩) (by assumption) ?_
                      rotate_left
                      · intro w' hSw
                        go_simp
                        try with_reducible rfl
                      try simp only [Act.put, List.setIfInBounds_toArray, List.set_cons_zero, List.set_cons_succ]
                      refine wpAnyH_take (i := 6) (oi := ⟨some 104, .move (.tmp 103), _, _, _, _⟩) (v := ?_) rfl (by kernel_rfl) (by kernel_rfl) (by kernel_rfl) (fun _ _ _ h => h) (Or.inl ⟨by rfl, ?_⟩) (by assumption) ?_
                      rotate_left
                      · intro w' hSw
                        go_simp
                        try with_reducible rfl
                      try simp only [Act.put, List.setIfInBounds_toArray, List.set_cons_zero, List.set_cons_succ]
                      refine wpAnyH_take (i := 7) (oi := ⟨some 105, .move (.tmp 9), _, _, _, _⟩) (v := ?_) rfl (by kernel_rfl) (by kernel_rfl) (by kernel_rfl) (fun _ _ _ h => h) (Or.inl ⟨by rfl, ?_⟩) (by assumption) ?_
                      rotate_left
                      · intro w' hSw
                        go_simp
                        try with_reducible rfl
                      try simp only [Act.put, List.setIfInBounds_toArray, List.set_cons_zero, List.set_cons_succ]
                      refine wpAnyH_take (i := 8) (oi := ⟨some 106, .binOp .lss 3 (.tmp 105) (.const (.int .i64 0)) 3, _, _, _, _⟩) (v := ?_) rfl (by kernel_rfl) (by kernel_rfl) (by kernel_rfl) (fun _ _ _ h => h) (Or.inl ⟨by rfl, ?_⟩) (by assumption) ?_
                      rotate_left
                      · intro w' hSw
                        go_simp
                        try with_reducible rfl
                      try simp only [Act.put, List.setIfInBounds_toArray, List.set_cons_zero, List.set_cons_succ]
                      refine wpAnyH_take (i := 9) (oi := ⟨some 107, .move (.tmp 106), _, _, _, _⟩) (v := ?_) rfl (by kernel_rfl) (by kernel_rfl) (by kernel_rfl) (fun _ _ _ h => h) (Or.inl ⟨by rfl, ?_⟩) (by assumption) ?_
                      rotate_left
                      · intro w' hSw
                        go_simp
                        try with_reducible rfl
                      try simp only [Act.put, List.setIfInBounds_toArray, List.set_cons_zero, List.set_cons_succ]
                      refine wpAnyH_take (i := 10) (oi := ⟨some 108, .move (.tmp 7), _, _, _, _⟩) (v := undef) rfl (by kernel_rfl) (by kernel_rfl) (by kernel_rfl) (fun _ _ _ h => h) (Or.inr ⟨by rfl, rfl⟩) (by assumption) ?_
                      try simp only [Act.put, List.setIfInBounds_toArray, List.set_cons_zero, List.set_cons_succ]
                      refine wpAnyH_take (i := 11) (oi := ⟨some 109, .call ⟨.builtin .len, #[.tmp 108], #[27]⟩, _, _, _, _⟩) (v := undef) rfl (by kernel_rfl) (by kernel_rfl) (by kernel_rfl) (fun _ _ _ h => h) (Or.inr ⟨by rfl, rfl⟩) (by assumption) ?_
                      try simp only [Act.put, List.setIfInBounds_toArray, List.set_cons_zero, List.set_cons_succ]
                      refine wpAnyH_take (i := 12) (oi := ⟨some 110, .binOp .gtr 3 (.tmp 109) (.const (.int .i64 0)) 3, _, _, _, _⟩) (v := undef) rfl (by kernel_rfl) (by kernel_rfl) (by kernel_rfl) (fun _ _ _ h => h) (Or.inr ⟨by rfl, rfl⟩) (by assumption) ?_
                      try simp only [Act.put, List.setIfInBounds_toArray, List.set_cons_zero, List.set_cons_succ]
                      refine wpAnyH_take (i := 13) (oi := ⟨some 111, .move (.tmp 110), _, _, _, _⟩) (v := undef) rfl (by kernel_rfl) (by kernel_rfl) (by kernel_rfl) (fun _ _ _ h => h) (Or.inr ⟨by rfl, rfl⟩) (by assumption) ?_
                      try simp only [Act.put, List.setIfInBounds_toArray, List.set_cons_zero, List.set_cons_succ]
                      refine wpAnyH_take (i := 14) (oi := ⟨some 112, .move (.tmp 8), _, _, _, _⟩) (v := undef) rfl (by kernel_rfl) (by kernel_rfl) (by kernel_rfl) (fun _ _ _ h => h) (Or.inr ⟨by rfl, rfl⟩) (by assumption) ?_
                      try simp only [Act.put, List.setIfInBounds_toArray, List.set_cons_zero, List.set_cons_succ]
                      refine wpAnyH_take (i := 15) (oi := ⟨some 113, .binOp .neq 34 (.tmp 112) (.const (.int .i64 9)) 34, _, _, _, _⟩) (v := undef) rfl (by kernel_rfl) (by kernel_rfl) (by kernel_rfl) (fun _ _ _ h => h) (Or.inr ⟨by rfl, rfl⟩) (by assumption) ?_
                      try simp only [Act.put, List.setIfInBounds_toArray, List.set_cons_zero, List.set_cons_succ]
                      refine wpAnyH_take (i := 16) (oi := ⟨some 114, .pick (.tmp 111) (.const (.bool true)) (.tmp 113), _, _, _, _⟩) (v := undef) rfl (by kernel_rfl) (by kernel_rfl) (by kernel_rfl) (fun _ _ _ h => h) (Or.inr ⟨by rfl, rfl⟩) (by assumption) ?_
                      try simp only [Act.put, List.setIfInBounds_toArray, List.set_cons_zero, List.set_cons_succ]
                      refine wpAnyH_take (i := 17) (oi := ⟨some 115, .pick (.tmp 107) (.tmp 114) (.const (.bool false)), _, _, _, _⟩) (v := ?_) rfl (by kernel_rfl) (by kernel_rfl) (by kernel_rfl) (fun _ _ _ h => h) (Or.inl ⟨by rfl, ?_⟩) (by assumption) ?_
                      rotate_left
                      · intro w' hSw
                        go_simp
                        try with_reducible rfl
                      try simp only [Act.put, List.setIfInBounds_toArray, List.set_cons_zero, List.set_cons_succ]
                      refine wpAnyH_take (i := 18) (oi := ⟨some 116, .pick (.tmp 104) (.const (.bool true)) (.tmp 115), _, _, _, _⟩) (v := ?_) rfl (by kernel_rfl) (by kernel_rfl) (by kernel_rfl) (fun _ _ _ h => h) (Or.inl ⟨by rfl, ?_⟩) (by assumption) ?_
                      rotate_left
                      · intro w' hSw
                        go_simp
                        try with_reducible rfl
                      try simp only [Act.put, List.setIfInBounds_toArray, List.set_cons_zero, List.set_cons_succ]
                      refine wpAnyH_take (i := 19) (oi := ⟨some 117, .move (.tmp 116), _, _, _, _⟩) (v := ?_) rfl (by kernel_rfl) (by kernel_rfl) (by kernel_rfl) (fun _ _ _ h => h) (Or.inl ⟨by rfl, ?_⟩) (by assumption) ?_
                      rotate_left
                      · intro w' hSw
                        go_simp
                        try with_reducible rfl
                      try simp only [Act.put, List.setIfInBounds_toArray, List.set_cons_zero, List.set_cons_succ]
                      refine wpAnyH_take (i := 20) (oi := ⟨some 118, .move (.tmp 9), _, _, _, _⟩) (v := ?_) rfl (by kernel_rfl) (by kernel_rfl) (by kernel_rfl) (fun _ _ _ h => h) (Or.inl ⟨by rfl, ?_⟩) (by assumption) ?_
                      rotate_left
                      · intro w' hSw
                        go_simp
                        try with_reducible rfl
                      try simp only [Act.put, List.setIfInBounds_toArray, List.set_cons_zero, List.set_cons_succ]
                      refine wpAnyH_take (i := 21) (oi := ⟨some 119, .binOp .geq 3 (.tmp 118) (.const (.int .i64 0)) 3, _, _, _, _⟩) (v := ?_) rfl (by kernel_rfl) (by kernel_rfl) (by kernel_rfl) (fun _ _ _ h => h) (Or.inl ⟨by rfl, ?_⟩) (by assumption) ?_
                      rotate_left
                      · intro w' hSw
                        go_simp
                        try with_reducible rfl
                      try simp only [Act.put, List.setIfInBounds_toArray, List.set_cons_zero, List.set_cons_succ]
                      refine wpAnyH_take (i := 22) (oi := ⟨some 120, .move (.tmp 119), _, _, _, _⟩) (v := ?_) rfl (by kernel_rfl) (by kernel_rfl) (by kernel_rfl) (fun _ _ _ h => h) (Or.inl ⟨by rfl, ?_⟩) (by assumption) ?_
                      rotate_left
                      · intro w' hSw
                        go_simp
                        try with_reducible rfl
                      try simp only [Act.put, List.setIfInBounds_toArray, List.set_cons_zero, List.set_cons_succ]
                      refine wpAnyH_take (i := 23) (oi := ⟨some 121, .move (.tmp 8), _, _, _, _⟩) (v := ?_) rfl (by kernel_rfl) (by kernel_rfl) (by kernel_rfl) (fun _ _ _ h => h) (Or.inl ⟨by rfl, ?_⟩) (by assumption) ?_
                      rotate_left
                      · intro w' hSw
                        go_simp
                        try with_reducible rfl
                      try simp only [Act.put, List.setIfInBounds_toArray, List.set_cons_zero, List.set_cons_succ]
                      refine wpAnyH_take (i := 24) (oi := ⟨some 122, .binOp .neq 34 (.tmp 121) (.const (.int .i64 0)) 34, _, _, _, _⟩) (v := ?_) rfl (by kernel_rfl) (by kernel_rfl) (by kernel_rfl) (fun _ _ _ h => h) (Or.inl ⟨by rfl, ?_⟩) (by assumption) ?_
                      rotate_left
                      · intro w' hSw
                        go_simp
                        try with_reducible rfl
                      try simp only [Act.put, List.setIfInBounds_toArray, List.set_cons_zero, List.set_cons_succ]
                      refine wpAnyH_take (i := 25) (oi := ⟨some 123, .move (.tmp 122), _, _, _, _⟩) (v := ?_) rfl (by kernel_rfl) (by kernel_rfl) (by kernel_rfl) (fun _ _ _ h => h) (Or.inl ⟨by rfl, ?_⟩) (by assumption) ?_
                      rotate_left
                      · intro w' hSw
                        go_simp
                        try with_reducible rfl
                      try simp only [Act.put, List.setIfInBounds_toArray, List.set_cons_zero, List.set_cons_succ]
                      refine wpAnyH_take (i := 26) (oi := ⟨some 124, .move (.tmp 7), _, _, _, _⟩) (v := ?_) rfl (by kernel_rfl) (by kernel_rfl) (by kernel_rfl) (fun _ _ _ h => h) (Or.inl ⟨by rfl, ?_⟩) (by assumption) ?_
                      rotate_left
                      · intro w' hSw
                        go_simp
                        try with_reducible rfl
                      try simp only [Act.put, List.setIfInBounds_toArray, List.set_cons_zero, List.set_cons_succ]
                      refine wpAnyH_take (i := 27) (oi := ⟨some 125, .convert 27 9 (.tmp 124), _, _, _, _⟩) (v := ?_) rfl (by kernel_rfl) (by kernel_rfl) (by kernel_rfl) (fun _ _ _ h => h) (Or.inl ⟨by rfl, ?_⟩) (by assumption) ?_
                      rotate_left
                      · intro w' hSw
                        have hcv := convert_tx (T7.out.later hSw)
                        go_simp
                        try with_reducible rfl
                      try simp only [Act.put, List.setIfInBounds_toArray, List.set_cons_zero, List.set_cons_succ]
                      refine wpAnyH_take (i := 28) (oi := ⟨some 126, .move (.tmp 4), _, _, _, _⟩) (v := ?_) rfl (by kernel_rfl) (by kernel_rfl) (by kernel_rfl) (fun _ _ _ h => h) (Or.inl ⟨by rfl, ?_⟩) (by assumption) ?_
                      rotate_left
                      · intro w' hSw
                        go_simp
                        try with_reducible rfl
                      try simp only [Act.put, List.setIfInBounds_toArray, List.set_cons_zero, List.set_cons_succ]
                      refine wpAnyH_take (i := 29) (oi := ⟨some 127, .move (.tmp 9), _, _, _, _⟩) (v := ?_) rfl (by kernel_rfl) (by kernel_rfl) (by kernel_rfl) (fun _ _ _ h => h) (Or.inl ⟨by rfl, ?_⟩) (by assumption) ?_
                      rotate_left
                      · intro w' hSw
                        go_simp
                        try with_reducible rfl
                      try simp only [Act.put, List.setIfInBounds_toArray, List.set_cons_zero, List.set_cons_succ]
                      refine wpAnyH_take (i := 30) (oi := ⟨some 128, .indexAddr 26 (.tmp 126) (.tmp 127), _, _, _, _⟩) (v := ?_) rfl (by kernel_rfl) (by kernel_rfl) (by kernel_rfl) (fun _ _ _ h => h) (Or.inl ⟨by rfl, ?_⟩) (by assumption) ?_
                      rotate_left
                      · intro w' hSw
                        go_simp
                        try with_reducible rfl
                      try simp only [Act.put, List.setIfInBounds_toArray, List.set_cons_zero, List.set_cons_succ]
                      refine wpAnyH_take (i := 31) (oi := ⟨some 129, .fieldAddr 40 (.tmp 128) 1, _, _, _, _⟩) (v := ?_) rfl (by kernel_rfl) (by kernel_rfl) (by kernel_rfl) (fun _ _ _ h => h) (Or.inl ⟨by rfl, ?_⟩) (by assumption) ?_
                      rotate_left
                      · intro w' hSw
                        go_simp
                        try with_reducible rfl
                      try simp only [Act.put, List.setIfInBounds_toArray, List.set_cons_zero, List.set_cons_succ]
                      refine wpAnyH_take (i := 32) (oi := ⟨some 130, .load 27 (.tmp 129), _, _, _, _⟩) (v := ?_) rfl (by kernel_rfl) (by kernel_rfl) (by kernel_rfl) (fun _ _ _ h => h) (Or.inl ⟨by rfl, ?_⟩) (by assumption) ?_
                      rotate_left
                      · intro w' hSw
                        have hc := (hSw.cell (block_lt_of_cell HC.out)).trans HC.out
                        go_simp
                        try with_reducible rfl
                      try simp only [Act.put, List.setIfInBounds_toArray, List.set_cons_zero, List.set_cons_succ]
                      refine wpAnyH_take (i := 33) (oi := ⟨some 131, .convert 27 9 (.tmp 130), _, _, _, _⟩) (v := ?_) rfl (by kernel_rfl) (by kernel_rfl) (by kernel_rfl) (fun _ _ _ h => h) (Or.inl ⟨by rfl, ?_⟩) (by assumption) ?_
                      rotate_left
                      · intro w' hSw
                        have hcv := convert_tx (TE.out.later hSw)
                        go_simp
                        try with_reducible rfl
                      try simp only [Act.put, List.setIfInBounds_toArray, List.set_cons_zero, List.set_cons_succ]
                      refine wpAnyH_take (i := 34) (oi := ⟨some 132, .binOp .neq 9 (.tmp 125) (.tmp 131) 9, _, _, _, _⟩) (v := ?_) rfl (by kernel_rfl) (by kernel_rfl) (by kernel_rfl) (fun _ _ _ h => h) (Or.inl ⟨by rfl, ?_⟩) (by assumption) ?_
                      rotate_left
                      · intro w' hSw
                        go_simp
                        try with_reducible rfl
                      try simp only [Act.put, List.setIfInBounds_toArray, List.set_cons_zero, List.set_cons_succ]
                      refine wpAnyH_take (i := 35) (oi := ⟨some 133, .pick (.tmp 123) (.const (.bool true)) (.tmp 132), _, _, _, _⟩) (v := ?_) rfl (by kernel_rfl) (by kernel_rfl) (by kernel_rfl) (fun _ _ _ h => h) (Or.inl ⟨by rfl, ?_⟩) (by assumption) ?_
                      rotate_left
                      · intro w' hSw
                        go_simp
                        try with_reducible rfl
                      try simp only [Act.put, List.setIfInBounds_toArray, List.set_cons_zero, List.set_cons_succ]
                      refine wpAnyH_take (i := 36) (oi := ⟨some 134, .pick (.tmp 120) (.tmp 133) (.const (.bool false)), _, _, _, _⟩) (v := ?_) rfl (by kernel_rfl) (by kernel_rfl) (by kernel_rfl) (fun _ _ _ h => h) (Or.inl ⟨by rfl, ?_⟩) (by assumption) ?_
                      rotate_left
                      · intro w' hSw
                        go_simp
                        try with_reducible rfl
                      try simp only [Act.put, List.setIfInBounds_toArray, List.set_cons_zero, List.set_cons_succ]
                      refine wpAnyH_take (i := 37) (oi := ⟨some 135, .pick (.tmp 117) (.const (.bool true)) (.tmp 134), _, _, _, _⟩) (v := ?_) rfl (by kernel_rfl) (by kernel_rfl) (by kernel_rfl) (fun _ _ _ h => h) (Or.inl ⟨by rfl, ?_⟩) (by assumption) ?_
                      rotate_left
                      · intro w' hSw
                        go_simp
                        try with_reducible rfl
                      try simp only [Act.put, List.setIfInBounds_toArray, List.set_cons_zero, List.set_cons_succ]
                      refine wpAnyH_done (by kernel_rfl) ?_ _
                      try go_wp2_with fail
                      go_meet
                      exact ⟨rfl, hHeld⟩
                    case rest =>
                      obtain ⟨rfl, hbc⟩ := hcut
                      have P8 := Lib.hid (P7.out.later A hbc)
                      have O8 := Lib.hid (owns_keepP O7.out (fun k hk => hbc.block k (O7.out.lt k hk).2))
                      have HOK := Lib.hid HTO.out
                      clear hbc P7 O7 T7 R7 HC TE
                      generalize wc = w8 at *
                      generalize w5.heap.size = base at *
                      go_wp2_with fail
                      go_loopw [10] (fun i wx => IncP PL w g Q s (.slice (some ⟨g9, 0, none⟩) m cv) m L base q6 tn c6 i wx) (fun i _ => tn - (intOf i).toNat)
                      case atStart => exact ⟨0, tt, Nat.zero_le _, rfl, P8.out, O8.out, HOK.out, HTN.out.symm⟩
                      case round =>
                        obtain ⟨j, B', hj, rfl, hD, hown, hok, hlen⟩ := hrel
                        by_cases hjn : j < tn
                        · have l5 : (j : Int) < (tn : Nat) := by omega
                          obtain ⟨gb, rfl⟩ : ∃ gb, q6 = some ⟨gb, 0, none⟩ := by
                            rcases hown.2 with ⟨_, h0⟩ | ⟨gb, cap, cur, e, _⟩
                            · omega
                            · cases e; exact ⟨gb, rfl⟩
                          obtain ⟨g', o', hp', hx'⟩ := (Bytes.of_owns hown hok).ne (by intro e; rw [e] at hlen; simp at hlen; omega)
                          obtain ⟨rfl, rfl⟩ : gb = g' ∧ 0 = o' := by simpa using hp'
                          have c5 := hx' j (by omega)
                          rw [Nat.zero_add] at c5
                          have f5 := hown.frozenAt j
                          have hst := hown.stored j (.int .u8 (((B'.getD j 0 + 1) % 256 : Nat) : Int))
                          rw [← vals_set] at hst
                          have HST := Lib.hid hst.1
                          have HDX := Lib.hid (hD.only A (fun k => k = gb) (Dk.Only.setCell (P := fun k => k = gb) wr (a := ⟨gb, j, none⟩) rfl (.int .u8 (((B'.getD j 0 + 1) % 256 : Nat) : Int))) (fun k hk => by rw [hk]; exact HNP.out gb rfl))
                          have HOK' := Lib.hid (set_okP hok j ((B'.getD j 0 + 1) % 256) (Nat.mod_lt _ (by omega)))
                          have HLN := Lib.hid (show (B'.set j ((B'.getD j 0 + 1) % 256)).length = tn from by rw [List.length_set]; exact hlen)
                          have i5' : (0 : Int) ≤ j ∧ (j : Int) < (tn : Nat) := by omega
                          have q3 : IntKind.u8.wrap ((B'.getD j 0 : Int) + 1) = (((B'.getD j 0 + 1) % 256 : Nat) : Int) := by rw [IntKind.wrap_u8']; omega
                          clear hst hD hown hok hx' hp' hlen
                          generalize (B'.getD j 0 + 1) % 256 = z at *
                          generalize B'.getD j 0 = y at *
                          go_wp2_with fail
                          go_roundw
                          case rel => exact ⟨j + 1, _, by omega, by go_num, HDX.out, HST.out, HOK'.out, HLN.out⟩
                          case measure => simp [intOf]; omega
                        · have l5 : ¬ (j : Int) < (tn : Nat) := by omega
                          have D8 := Lib.hid hD
                          clear hD hown hok hlen
                          go_wp2_with fail
                          go_meet
                          exact ⟨Q, s, L, m, D8.out, HMI.out⟩
                · as_aux_lemma =>
                    have HTA := Lib.hid (textAt_none hfd)
                    have HHD := Lib.hid (decide_eq_false hfd)
                    have HFI := Lib.hid (show findI (pagesOf L) D = -1 from by rw [P.out.same, findI, if_neg hfd])
                    clear hfd
                    refine (A.getNo D P5.out.st.at' HDL.out HDO.out HTA.out).mono ?_
                    rintro e w6 ⟨q6, c6, rfl, b6⟩
                    have P6 := Lib.hid (P5.out.later A b6)
                    have R6 := Lib.hid ((b6.block _ (Array.getElem?_eq_some_iff.1 R5.out).1).trans R5.out)
                    clear b6 P5 R5
                    go_wp2_with (refine wpList_load_row (by rfl) 32 (.tmp 6) (by rfl) dd (by rfl) 32 (u8s D) (0, 0) _ R6.out A25 rfl (by rw [u8s_size, HDL.out]; exact S25) ?_)
                    refine (rfind_any P6.out.pgs D HDL.out (by omega)).mono ?_
                    rintro e w7 ⟨rfl, b7⟩
                    rw [HFI.out]
                    have P7 := Lib.hid (P6.out.later A b7)
                    have R7 := Lib.hid ((b7.block _ (Array.getElem?_eq_some_iff.1 R6.out).1).trans R6.out)
                    clear b7 P6 R6
                    go_upto_region 23 with fail
                    go_cut [135] from 98 to 135 (fun v wx => v = .bool false ∧ Below w7.heap.size w7 wx)
                    case first =>
                      refine wp_region_held_drew (S := fun w' => Below w7.heap.size w7 w') (by kernel_rfl) (Below.refl _ _).drew (fun hHeld => ?_)
                      refine wpAnyH_take (i := 0) (oi := ⟨some 98, .move (.tmp 3), _, _, _, _⟩) (v := ?_) rfl (by kernel_rfl) (by kernel_rfl) (by kernel_rfl) (fun _ _ _ h => h) (Or.inl ⟨by rfl, ?_⟩) (by assumption) ?_
                      rotate_left
                      · intro w' hSw
                        go_simp
                        try with_reducible rfl
                      try simp only [Act.put, List.setIfInBounds_toArray, List.set_cons_zero, List.set_cons_succ]
                      refine wpAnyH_take (i := 1) (oi := ⟨some 99, .load 32 (.tmp 6), _, _, _, _⟩) (v := ?_) rfl (by kernel_rfl) (by kernel_rfl) (by kernel_rfl) (fun _ _ _ h => h) (Or.inl ⟨by rfl, ?_⟩) (by assumption) ?_
                      rotate_left
                      · intro w' hSw
                        refine Eq.trans (b := Result.ok (Next.value (.agg (u8s D))) w') ?_ ?_
                        · exact op_load_dig (by rfl) (by rfl) HDL.out (range_of_row' ((hSw.block dd (Array.getElem?_eq_some_iff.1 R7.out).1).trans R7.out))
                        · with_reducible rfl
                      try simp only [Act.put, List.setIfInBounds_toArray, List.set_cons_zero, List.set_cons_succ]
                      refine wpAnyH_take (i := 3) (oi := ⟨some 101, .move (.tmp 9), _, _, _, _⟩) (v := ?_) rfl (by kernel_rfl) (by kernel_rfl) (by kernel_rfl) (fun _ _ _ h => h) (Or.inl ⟨by rfl, ?_⟩) (by assumption) ?_
                      rotate_left
                      · intro w' hSw
                        go_simp
                        try with_reducible rfl
                      try simp only [Act.put, List.setIfInBounds_toArray, List.set_cons_zero, List.set_cons_succ]
                      refine wpAnyH_take (i := 4) (oi := ⟨some 102, .binOp .geq 3 (.tmp 101) (.const (.int .i64 0)) 3, _, _, _, _⟩) (v := ?_) rfl (by kernel_rfl) (by kernel_rfl) (by kernel_rfl) (fun _ _ _ h => h) (Or.inl ⟨by rfl, ?_⟩) (by assumption) ?_
                      rotate_left
                      · intro w' hSw
                        go_simp
                        try with_reducible rfl
                      try simp only [Act.put, List.setIfInBounds_toArray, List.set_cons_zero, List.set_cons_succ]
                      refine wpAnyH_ready (rs := [2]) (by kernel_rfl) (by simp) ?_
                      refine AllReadyH.cons (o := ⟨some 100, .call ⟨.value (.func 11), #[.tmp 98, .tmp 99], #[24, 32]⟩, _, _, _, _⟩) rfl (fun K hK => ?_) AllReadyH.nil
                      go_simp
                      refine (A.has D (P7.out.later A hHeld).st.at' HDL.out HDO.out).mono ?_
                      rintro _ w100 ⟨rfl, b100⟩
                      rw [HHD.out]
                      have hS100 : Below w7.heap.size w7 w100 := hHeld.trans (b100.mono hHeld.size)
                      try go_wp2_with fail
                      refine hK.out _ _ hS100 (fun hHeld => ?_)
                      clear hK K
                      try simp only [Act.put, List.setIfInBounds_toArray, List.set_cons_zero, List.set_cons_succ]
                      refine wpAnyH_take (i := 5) (oi := ⟨some 103, .binOp .neq 4 (.tmp 100) (.tmp 102) 4, _, _, _, _⟩) (v := ?_) rfl (by kernel_rfl) (by kernel_rfl) (by kernel_rfl) (fun _ _ _ h => h) (Or.inl ⟨by rfl, ?_⟩) (by assumption) ?_
                      rotate_left
                      · intro w' hSw
                        go_simp
                        try with_reducible rfl
                      try simp only [Act.put, List.setIfInBounds_toArray, List.set_cons_zero, List.set_cons_succ]
                      refine wpAnyH_take (i := 6) (oi := ⟨some 104, .move (.tmp 103), _, _, _, _⟩) (v := ?_) rfl (by kernel_rfl) (by kernel_rfl) (by kernel_rfl) (fun _ _ _ h => h) (Or.inl ⟨by rfl, ?_⟩) (by assumption) ?_
                      rotate_left
                      · intro w' hSw
                        go_simp
                        try with_reducible rfl
                      try simp only [Act.put, List.setIfInBounds_toArray, List.set_cons_zero, List.set_cons_succ]
                      refine wpAnyH_take (i := 7) (oi := ⟨some 105, .move (.tmp 9), _, _, _, _⟩) (v := ?_) rfl (by kernel_rfl) (by kernel_rfl) (by kernel_rfl) (fun _ _ _ h => h) (Or.inl ⟨by rfl, ?_⟩) (by assumption) ?_
                      rotate_left
                      · intro w' hSw
                        go_simp
                        try with_reducible rfl
                      try simp only [Act.put, List.setIfInBounds_toArray, List.set_cons_zero, List.set_cons_succ]
                      refine wpAnyH_take (i := 8) (oi := ⟨some 106, .binOp .lss 3 (.tmp 105) (.const (.int .i64 0)) 3, _, _, _, _⟩) (v := ?_) rfl (by kernel_rfl) (by kernel_rfl) (by kernel_rfl) (fun _ _ _ h => h) (Or.inl ⟨by rfl, ?_⟩) (by assumption) ?_
                      rotate_left
                      · intro w' hSw
                        go_simp
                        try with_reducible rfl
                      try simp only [Act.put, List.setIfInBounds_toArray, List.set_cons_zero, List.set_cons_succ]
                      refine wpAnyH_take (i := 9) (oi := ⟨some 107, .move (.tmp 106), _, _, _, _⟩) (v := ?_) rfl (by kernel_rfl) (by kernel_rfl) (by kernel_rfl) (fun _ _ _ h => h) (Or.inl ⟨by rfl, ?_⟩) (by assumption) ?_
                      rotate_left
                      · intro w' hSw
                        go_simp
                        try with_reducible rfl
                      try simp only [Act.put, List.setIfInBounds_toArray, List.set_cons_zero, List.set_cons_succ]
                      refine wpAnyH_take (i := 10) (oi := ⟨some 108, .move (.tmp 7), _, _, _, _⟩) (v := ?_) rfl (by kernel_rfl) (by kernel_rfl) (by kernel_rfl) (fun _ _ _ h => h) (Or.inl ⟨by rfl, ?_⟩) (by assumption) ?_
                      rotate_left
                      · intro w' hSw
                        go_simp
                        try with_reducible rfl
                      try simp only [Act.put, List.setIfInBounds_toArray, List.set_cons_zero, List.set_cons_succ]
                      refine wpAnyH_take (i := 11) (oi := ⟨some 109, .call ⟨.builtin .len, #[.tmp 108], #[27]⟩, _, _, _, _⟩) (v := ?_) rfl (by kernel_rfl) (by kernel_rfl) (by kernel_rfl) (fun _ _ _ h => h) (Or.inl ⟨by rfl, ?_⟩) (by assumption) ?_
                      rotate_left
                      · intro w' hSw
                        go_simp
                        try with_reducible rfl
                      try simp only [Act.put, List.setIfInBounds_toArray, List.set_cons_zero, List.set_cons_succ]
                      refine wpAnyH_take (i := 12) (oi := ⟨some 110, .binOp .gtr 3 (.tmp 109) (.const (.int .i64 0)) 3, _, _, _, _⟩) (v := ?_) rfl (by kernel_rfl) (by kernel_rfl) (by kernel_rfl) (fun _ _ _ h => h) (Or.inl ⟨by rfl, ?_⟩) (by assumption) ?_
                      rotate_left
                      · intro w' hSw
                        go_simp
                        try with_reducible rfl
                      try simp only [Act.put, List.setIfInBounds_toArray, List.set_cons_zero, List.set_cons_succ]
                      refine wpAnyH_take (i := 13) (oi := ⟨some 111, .move (.tmp 110), _, _, _, _⟩) (v := ?_) rfl (by kernel_rfl) (by kernel_rfl) (by kernel_rfl) (fun _ _ _ h => h) (Or.inl ⟨by rfl, ?_⟩) (by assumption) ?_
                      rotate_left
                      · intro w' hSw
                        go_simp
                        try with_reducible rfl
                      try simp only [Act.put, List.setIfInBounds_toArray, List.set_cons_zero, List.set_cons_succ]
                      refine wpAnyH_take (i := 14) (oi := ⟨some 112, .move (.tmp 8), _, _, _, _⟩) (v := ?_) rfl (by kernel_rfl) (by kernel_rfl) (by kernel_rfl) (fun _ _ _ h => h) (Or.inl ⟨by rfl, ?_⟩) (by assumption) ?_
                      rotate_left
                      · intro w' hSw
                        go_simp
                        try with_reducible rfl
                      try simp only [Act.put, List.setIfInBounds_toArray, List.set_cons_zero, List.set_cons_succ]
                      refine wpAnyH_take (i := 15) (oi := ⟨some 113, .binOp .neq 34 (.tmp 112) (.const (.int .i64 9)) 34, _, _, _, _⟩) (v := ?_) rfl (by kernel_rfl) (by kernel_rfl) (by kernel_rfl) (fun _ _ _ h => h) (Or.inl ⟨by rfl, ?_⟩) (by assumption) ?_
                      rotate_left
                      · intro w' hSw
                        go_simp
                        try with_reducible rfl
                      try simp only [Act.put, List.setIfInBounds_toArray, List.set_cons_zero, List.set_cons_succ]
                      refine wpAnyH_take (i := 16) (oi := ⟨some 114, .pick (.tmp 111) (.const (.bool true)) (.tmp 113), _, _, _, _⟩) (v := ?_) rfl (by kernel_rfl) (by kernel_rfl) (by kernel_rfl) (fun _ _ _ h => h) (Or.inl ⟨by rfl, ?_⟩) (by assumption) ?_
                      rotate_left
                      · intro w' hSw
                        go_simp
                        try with_reducible rfl
                      try simp only [Act.put, List.setIfInBounds_toArray, List.set_cons_zero, List.set_cons_succ]
                      refine wpAnyH_take (i := 17) (oi := ⟨some 115, .pick (.tmp 107) (.tmp 114) (.const (.bool false)), _, _, _, _⟩) (v := ?_) rfl (by kernel_rfl) (by kernel_rfl) (by kernel_rfl) (fun _ _ _ h => h) (Or.inl ⟨by rfl, ?_⟩) (by assumption) ?_
                      rotate_left
                      · intro w' hSw
                        go_simp
                        try with_reducible rfl
                      try simp only [Act.put, List.setIfInBounds_toArray, List.set_cons_zero, List.set_cons_succ]
                      refine wpAnyH_take (i := 18) (oi := ⟨some 116, .pick (.tmp 104) (.const (.bool true)) (.tmp 115), _, _, _, _⟩) (v := ?_) rfl (by kernel_rfl) (by kernel_rfl) (by kernel_rfl) (fun _ _ _ h => h) (Or.inl ⟨by rfl, ?_⟩) (by assumption) ?_
                      rotate_left
                      · intro w' hSw
                        go_simp
                        try with_reducible rfl
                      try simp only [Act.put, List.setIfInBounds_toArray, List.set_cons_zero, List.set_cons_succ]
                      refine wpAnyH_take (i := 19) (oi := ⟨some 117, .move (.tmp 116), _, _, _, _⟩) (v := ?_) rfl (by kernel_rfl) (by kernel_rfl) (by kernel_rfl) (fun _ _ _ h => h) (Or.inl ⟨by rfl, ?_⟩) (by assumption) ?_
                      rotate_left
                      · intro w' hSw
                        go_simp
                        try with_reducible rfl
                      try simp only [Act.put, List.setIfInBounds_toArray, List.set_cons_zero, List.set_cons_succ]
                      refine wpAnyH_take (i := 20) (oi := ⟨some 118, .move (.tmp 9), _, _, _, _⟩) (v := ?_) rfl (by kernel_rfl) (by kernel_rfl) (by kernel_rfl) (fun _ _ _ h => h) (Or.inl ⟨by rfl, ?_⟩) (by assumption) ?_
                      rotate_left
                      · intro w' hSw
                        go_simp
                        try with_reducible rfl
                      try simp only [Act.put, List.setIfInBounds_toArray, List.set_cons_zero, List.set_cons_succ]
                      refine wpAnyH_take (i := 21) (oi := ⟨some 119, .binOp .geq 3 (.tmp 118) (.const (.int .i64 0)) 3, _, _, _, _⟩) (v := ?_) rfl (by kernel_rfl) (by kernel_rfl) (by kernel_rfl) (fun _ _ _ h => h) (Or.inl ⟨by rfl, ?_⟩) (by assumption) ?_
                      rotate_left
                      · intro w' hSw
                        go_simp
                        try with_reducible rfl
                      try simp only [Act.put, List.setIfInBounds_toArray, List.set_cons_zero, List.set_cons_succ]
                      refine wpAnyH_take (i := 22) (oi := ⟨some 120, .move (.tmp 119), _, _, _, _⟩) (v := ?_) rfl (by kernel_rfl) (by kernel_rfl) (by kernel_rfl) (fun _ _ _ h => h) (Or.inl ⟨by rfl, ?_⟩) (by assumption) ?_
                      rotate_left
                      · intro w' hSw
                        go_simp
                        try with_reducible rfl
                      try simp only [Act.put, List.setIfInBounds_toArray, List.set_cons_zero, List.set_cons_succ]
                      refine wpAnyH_take (i := 23) (oi := ⟨some 121, .move (.tmp 8), _, _, _, _⟩) (v := undef) rfl (by kernel_rfl) (by kernel_rfl) (by kernel_rfl) (fun _ _ _ h => h) (Or.inr ⟨by rfl, rfl⟩) (by assumption) ?_
                      try simp only [Act.put, List.setIfInBounds_toArray, List.set_cons_zero, List.set_cons_succ]
                      refine wpAnyH_take (i := 24) (oi := ⟨some 122, .binOp .neq 34 (.tmp 121) (.const (.int .i64 0)) 34, _, _, _, _⟩) (v := undef) rfl (by kernel_rfl) (by kernel_rfl) (by kernel_rfl) (fun _ _ _ h => h) (Or.inr ⟨by rfl, rfl⟩) (by assumption) ?_
                      try simp only [Act.put, List.setIfInBounds_toArray, List.set_cons_zero, List.set_cons_succ]
                      refine wpAnyH_take (i := 25) (oi := ⟨some 123, .move (.tmp 122), _, _, _, _⟩) (v := undef) rfl (by kernel_rfl) (by kernel_rfl) (by kernel_rfl) (fun _ _ _ h => h) (Or.inr ⟨by rfl, rfl⟩) (by assumption) ?_
                      try simp only [Act.put, List.setIfInBounds_toArray, List.set_cons_zero, List.set_cons_succ]
                      refine wpAnyH_take (i := 26) (oi := ⟨some 124, .move (.tmp 7), _, _, _, _⟩) (v := undef) rfl (by kernel_rfl) (by kernel_rfl) (by kernel_rfl) (fun _ _ _ h => h) (Or.inr ⟨by rfl, rfl⟩) (by assumption) ?_
                      try simp only [Act.put, List.setIfInBounds_toArray, List.set_cons_zero, List.set_cons_succ]
                      refine wpAnyH_take (i := 27) (oi := ⟨some 125, .convert 27 9 (.tmp 124), _, _, _, _⟩) (v := undef) rfl (by kernel_rfl) (by kernel_rfl) (by kernel_rfl) (fun _ _ _ h => h) (Or.inr ⟨by rfl, rfl⟩) (by assumption) ?_
                      try simp only [Act.put, List.setIfInBounds_toArray, List.set_cons_zero, List.set_cons_succ]
                      refine wpAnyH_take (i := 28) (oi := ⟨some 126, .move (.tmp 4), _, _, _, _⟩) (v := undef) rfl (by kernel_rfl) (by kernel_rfl) (by kernel_rfl) (fun _ _ _ h => h) (Or.inr ⟨by rfl, rfl⟩) (by assumption) ?_
                      try simp only [Act.put, List.setIfInBounds_toArray, List.set_cons_zero, List.set_cons_succ]
                      refine wpAnyH_take (i := 29) (oi := ⟨some 127, .move (.tmp 9), _, _, _, _⟩) (v := undef) rfl (by kernel_rfl) (by kernel_rfl) (by kernel_rfl) (fun _ _ _ h => h) (Or.inr ⟨by rfl, rfl⟩) (by assumption) ?_
                      try simp only [Act.put, List.setIfInBounds_toArray, List.set_cons_zero, List.set_cons_succ]
                      refine wpAnyH_take (i := 30) (oi := ⟨some 128, .indexAddr 26 (.tmp 126) (.tmp 127), _, _, _, _⟩) (v := undef) rfl (by kernel_rfl) (by kernel_rfl) (by kernel_rfl) (fun _ _ _ h => h) (Or.inr ⟨by rfl, rfl⟩) (by assumption) ?_
                      try simp only [Act.put, List.setIfInBounds_toArray, List.set_cons_zero, List.set_cons_succ]
                      refine wpAnyH_take (i := 31) (oi := ⟨some 129, .fieldAddr 40 (.tmp 128) 1, _, _, _, _⟩) (v := undef) rfl (by kernel_rfl) (by kernel_rfl) (by kernel_rfl) (fun _ _ _ h => h) (Or.inr ⟨by rfl, rfl⟩) (by assumption) ?_
                      try simp only [Act.put, List.setIfInBounds_toArray, List.set_cons_zero, List.set_cons_succ]
                      refine wpAnyH_take (i := 32) (oi := ⟨some 130, .load 27 (.tmp 129), _, _, _, _⟩) (v := undef) rfl (by kernel_rfl) (by kernel_rfl) (by kernel_rfl) (fun _ _ _ h => h) (Or.inr ⟨by rfl, rfl⟩) (by assumption) ?_
                      try simp only [Act.put, List.setIfInBounds_toArray, List.set_cons_zero, List.set_cons_succ]
                      refine wpAnyH_take (i := 33) (oi := ⟨some 131, .convert 27 9 (.tmp 130), _, _, _, _⟩) (v := undef) rfl (by kernel_rfl) (by kernel_rfl) (by kernel_rfl) (fun _ _ _ h => h) (Or.inr ⟨by rfl, rfl⟩) (by assumption) ?_
                      try simp only [Act.put, List.setIfInBounds_toArray, List.set_cons_zero, List.set_cons_succ]
                      refine wpAnyH_take (i := 34) (oi := ⟨some 132, .binOp .neq 9 (.tmp 125) (.tmp 131) 9, _, _, _, _⟩) (v := undef) rfl (by kernel_rfl) (by kernel_rfl) (by kernel_rfl) (fun _ _ _ h => h) (Or.inr ⟨by rfl, rfl⟩) (by assumption) ?_
                      try simp only [Act.put, List.setIfInBounds_toArray, List.set_cons_zero, List.set_cons_succ]
                      refine wpAnyH_take (i := 35) (oi := ⟨some 133, .pick (.tmp 123) (.const (.bool true)) (.tmp 132), _, _, _, _⟩) (v := undef) rfl (by kernel_rfl) (by kernel_rfl) (by kernel_rfl) (fun _ _ _ h => h) (Or.inr ⟨by rfl, rfl⟩) (by assumption) ?_
                      try simp only [Act.put, List.setIfInBounds_toArray, List.set_cons_zero, List.set_cons_succ]
                      refine wpAnyH_take (i := 36) (oi := ⟨some 134, .pick (.tmp 120) (.tmp 133) (.const (.bool false)), _, _, _, _⟩) (v := ?_) rfl (by kernel_rfl) (by kernel_rfl) (by kernel_rfl) (fun _ _ _ h => h) (Or.inl ⟨by rfl, ?_⟩) (by assumption) ?_
                      rotate_left
                      · intro w' hSw
                        go_simp
                        try with_reducible rfl
                      try simp only [Act.put, List.setIfInBounds_toArray, List.set_cons_zero, List.set_cons_succ]
                      refine wpAnyH_take (i := 37) (oi := ⟨some 135, .pick (.tmp 117) (.const (.bool true)) (.tmp 134), _, _, _, _⟩) (v := ?_) rfl (by kernel_rfl) (by kernel_rfl) (by kernel_rfl) (fun _ _ _ h => h) (Or.inl ⟨by rfl, ?_⟩) (by assumption) ?_
                      rotate_left
                      · intro w' hSw
                        go_simp
                        try with_reducible rfl
                      try simp only [Act.put, List.setIfInBounds_toArray, List.set_cons_zero, List.set_cons_succ]
                      refine wpAnyH_done (by kernel_rfl) ?_ _
                      try go_wp2_with fail
                      go_meet
                      exact ⟨rfl, hHeld⟩
                    case rest =>
                      obtain ⟨rfl, hbc⟩ := hcut
                      have P8 := Lib.hid (P7.out.later A hbc)
                      clear hbc P7 R7
                      generalize wc = w8 at *
                      go_wp2_with fail
                      go_loopw [10] (fun v wx => v = .int .i64 0 ∧ Pl PL w wx g Q s (.slice qv m cv) m L) (fun _ _ => 0)
                      case atStart => exact ⟨rfl, P8.out⟩
                      case round =>
                        obtain ⟨rfl, hP9⟩ := hrel
                        have P9 := Lib.hid hP9
                        clear hP9
                        go_wp2_with fail
                        go_meet
                        exact ⟨Q, s, L, m, P9.out, HMI.out⟩
              · by_cases h4 : x = 4
                · as_aux_lemma =>
                    subst h4
                    have f3 : ((4 : Int) == 3) = false := by decide
                    have HTL := Lib.hid (show t.L.length = t.ln from OK.out.l.size.symm)
                    obtain ⟨K, hK⟩ : ∃ K, K = t.L.map sumOf := ⟨_, rfl⟩
                    have HKL := Lib.hid (show K.length = t.ln from by rw [hK, List.length_map]; exact HTL.out)
                    have HKD := Lib.hid (show ∀ d ∈ K, d.length = 32 ∧ Sm.allB d from fun d hd => by
                      rw [hK] at hd
                      obtain ⟨x, _, rfl⟩ := List.mem_map.1 hd
                      exact ⟨rfl, sumOf_ok _⟩)
                    have HKX := Lib.hid (show ∀ k, k < t.ln → K.getD k [] = sumOf (t.L.getD k []) from fun k hk => by
                      have := HTL.out
                      rw [hK, List.getD_eq_getElem?_getD, List.getD_eq_getElem?_getD, List.getElem?_map, List.getElem?_eq_getElem (by omega)]
                      rfl)
                    obtain ⟨id0, hd0, hd1, hd2, hd3⟩ := info_parts IDG
                    have HD0 := Lib.hid hd0
                    have HD1 := Lib.hid hd1
                    have HD2 := Lib.hid hd2
                    have HD3 := Lib.hid hd3
                    clear hK hd0 hd1 hd2 hd3
                    obtain ⟨qv, cv, rfl, -, -⟩ := P.out.pgs.form
                    generalize wr = wa at *
                    go_wp2_with fail
                    go_loopw [11, 12] (fun v11 v12 wx => KpL wa K v11 v12 wx) (fun _ v12 _ => t.ln - (intOf v12).toNat)
                    case atStart => exact ⟨0, Nat.zero_le _, rfl, Below.refl _ _, World.ownsRow_nil _ _ _ _⟩
                    case round =>
                      obtain ⟨k, hk, rfl, hbx, hox⟩ := hrel
                      have BX := Lib.hid hbx
                      have OX := Lib.hid hox
                      have hk20 : k ≤ 20 := by have := HKL.out; omega
                      have LX := Lib.hid (P.out.st.low.trans (hbx.mono P.out.st.low.size))
                      have c2 := (LX.out.cell (block_lt_of_cell e2.out)).trans e2.out
                      clear hbx hox
                      by_cases hkl : k < t.ln
                      · have l6 : (k : Int) < (t.ln : Nat) := by omega
                        obtain ⟨lg, lo, hlp, hlx⟩ := OK.out.l.at' (by intro e; have := HTL.out; rw [e] at this; simp at this; omega)
                        obtain ⟨qk, nk, ck, hce, htx⟩ := hlx k (by have := HTL.out; omega)
                        have c6 := (LX.out.cell (block_lt_of_cell hce)).trans hce
                        have HTX := Lib.hid (htx.later LX.out)
                        have i6 : (0 : Int) ≤ k ∧ (k : Int) < (t.ln : Nat) := by omega
                        have HLP := Lib.hid hlp
                        clear hlx hce htx hlp
                        rw [HLP.out] at c2
                        by_cases h100 : nk > 100
                        · have l9 : (nk : Int) > 100 := by omega
                          clear h100
                          go_wp2_with fail
                          go_ret
                          exact ⟨rfl, LX.out⟩
                        · have l9 : ¬ (nk : Int) > 100 := by omega
                          have hnk : nk ≤ 100 := by omega
                          clear h100
                          go_wp2_with fail
                          refine (rsum_any (t.L.getD k []) qk nk ck wr HTX.out (by omega)).mono ?_
                          rintro e wy ⟨rfl, by1⟩
                          obtain ⟨D, hD⟩ : ∃ D, D = sumOf (t.L.getD k []) := ⟨_, rfl⟩
                          rw [← hD]
                          have HDL := Lib.hid (show D.length = 32 from by rw [hD]; rfl)
                          have HKK := Lib.hid (show K.take (k + 1) = K.take k ++ [D] from by rw [take_succ_getD K k (by have := HKL.out; omega), HKX.out k hkl, hD])
                          have BY := Lib.hid (BX.out.trans (by1.mono BX.out.size))
                          have OY := Lib.hid (owns_keepP OX.out (fun j hj => by1.block j (OX.out.lt j hj).2))
                          have hba := (Below.refl wy.heap.size wy).alloc (Nat.le_refl _) (.cells (u8s D) 32)
                          have hnw := heap_alloc_new wy (.cells (u8s D) 32)
                          have HNW := Lib.hid (show ∀ j u, (vals D)[j]? = some u → (wy.alloc (.cells (u8s D) 32)).cell? ((⟨wy.heap.size, 0, none⟩ : Addr).add j) = some u from fun j u hu => by
                            rw [Addr.add_mid, Nat.zero_add, cell_of_row _ wy.heap.size j _ _ _ hnw, u8s, List.getElem?_toArray]
                            exact hu)
                          have OZ := Lib.hid (OY.out.alloc (.cells (u8s D) 32))
                          have BZ := Lib.hid (BY.out.trans (hba.mono BY.out.size))
                          clear hD hba hnw by1 c2 c6
                          go_wp2_with (first
                            | (refine wpList_dig_one (by rfl) (.tmp 179) (by rfl) HDL.out (by rfl) ?_)
                            | (at_builtin; refine wpList_append_own_at _ (by rfl) (.tmp 170) (.tmp 180) 41 (by rfl) wa.heap.size 32 id0 _ 32 32 UDS HD0.out HD1.out HD2.out HD3.out (by rfl) (by decide) _ k ((K.take k).flatMap vals) (by rfl) OZ.out ⟨wy.heap.size, 0, none⟩ 1 1 (vals D) (by rfl) (by rw [vals_length, HDL.out]) HNW.out (vals_one _) (by unfold maxLen; omega) (by omega) (by exact BZ.out.size) ?_; intro v7 w7 hown7 hgrow7 _ _; have O7 := Lib.hid hown7; have B7 := Lib.hid (BZ.out.grown hgrow7 BZ.out.size (fun j hj => (OZ.out.lt j hj).1)); clear hown7 hgrow7))
                          go_roundw
                          case rel => exact ⟨k + 1, by have := HKL.out; omega, by go_num, B7.out, by rw [HKK.out, List.flatMap_append]; simpa using O7.out⟩
                          case measure => simp [intOf]; omega
                      · have l6 : ¬ (k : Int) < (t.ln : Nat) := by omega
                        have hkt : k = t.ln := by have := HKL.out; omega
                        have OK2 := Lib.hid (show wr.ownsRow wa.heap.size 32 32 u11 t.ln (K.flatMap vals) from by
                          have h1 := OX.out
                          rw [List.take_of_length_le (by have := HKL.out; omega), hkt] at h1
                          exact h1)
                        obtain ⟨q9, c9, h9, d9⟩ := digs_own OK2.out HKD.out HKL.out.symm
                        have P9 := Lib.hid (P.out.later A BX.out)
                        have D9 := Lib.hid d9
                        have X9 := Lib.hid (show ∀ x, q9 = some x → wa.heap.size ≤ x.block ∧ x.block < wr.heap.size from fun x hx => OK2.out.lt x.block (by rw [h9, hx]; rfl))
                        have hmi : m ≤ 100000 := by omega
                        have HMI := Lib.hid hm
                        clear d9 OK2 OX
                        subst h9
                        clear hkt
                        go_wp2_with fail
                        refine (rkeep_any P9.out.pgs hmi K q9 t.ln c9 D9.out (by omega)).mono ?_
                        rintro e w10 ⟨v10, n10, L10, rfl, pg10, same10, b10, pu10⟩
                        obtain ⟨q10, c10, rfl, -, -⟩ := pg10.form
                        have S10 := Lib.hid (P9.out.st.later A b10)
                        have PG10 := Lib.hid (pgs_base pg10 P9.out.st.low.size)
                        have SM10 := Lib.hid (show pagesOf L10 = (s.keep K).W from by rw [same10, P9.out.same]; rfl)
                        have OF10 := Lib.hid (show ∀ k, PU (.slice q10 n10 c10) L10 k → w.heap.size ≤ k ∧ ¬ Q k ∧ k < w10.heap.size from fun k hk => by
                          have hlt := pg10.lt k hk
                          rcases pu10 k hk with e | e
                          · exact ⟨(P9.out.off k e).1, (P9.out.off k e).2, hlt⟩
                          · have h1 := P9.out.st.low.size
                            exact ⟨by omega, fun hq => by have := A.lt P9.out.st.at' k hq; omega, hlt⟩)
                        have D10 := Lib.hid (D9.out.later b10)
                        have HN10 := Lib.hid (show (s.keep K).W.length = n10 from by rw [← SM10.out, pagesOf_length, PG10.out.size])
                        have HNL := Lib.hid P9.out.len
                        have hle : n10 ≤ m := by
                          rw [← HN10.out, ← HNL.out]
                          exact List.length_filter_le _ _
                        have HAS := Lib.hid (show ∀ x, q9 = some x → K ≠ [] → ¬ Q x.block from fun x hx _ hq => by
                          have h1 := (X9.out x hx).1
                          have h2 := A.lt P.out.st.at' _ hq
                          omega)
                        have HFW := Lib.hid (show ∀ x ∈ (s.keep K).W, x.2.length ≤ 300 from fun x hx => P9.out.few x ((List.mem_filter.1 hx).1))
                        clear pg10 same10 b10 pu10 P9 D9
                        go_wp2_with fail
                        refine (A.keepOp K q9 t.ln c9 S10.out.at' D10.out HAS.out (by omega) (by have := HNL.out; omega)).mono ?_
                        rintro e w11 ⟨rfl, Q11, p11, q11, o11⟩
                        have P11 := Lib.hid (show Pl PL w w11 g Q11 (s.keep K) (.slice q10 n10 c10) n10 L10 from ⟨S10.out.turned p11 q11 o11, PG10.out.only o11 (fun k hk => (OF10.out k hk).2.1), SM10.out, fun k hk => ⟨(OF10.out k hk).1, fun hq => (q11 k hq).elim (OF10.out k hk).2.1 (fun e => by have := (OF10.out k hk).2.2; omega)⟩, HFW.out⟩)
                        rw [HN10.out, HNL.out]
                        clear p11 q11 o11 S10 PG10 OF10 D10
                        have q7 : IntKind.i64.wrap ((m : Int) - (n10 : Int)) = ((m - n10 : Nat) : Int) := by rw [IntWalk.i64_in _ (by omega)]; omega
                        have HRI := Lib.hid (show n10 ≤ i + 1 from by have := HMI.out; omega)
                        clear hle
                        generalize m - n10 = dd at *
                        go_wp2_with fail
                        go_meet
                        exact ⟨Q11, s.keep K, L10, n10, P11.out, HRI.out⟩
                · as_aux_lemma =>
                    have f3 : ((x : Int) == 3) = false := by rw [beq_eq_false_iff_ne]; omega
                    have f4 : ((x : Int) == 4) = false := by rw [beq_eq_false_iff_ne]; omega
                    have c1 := (P.out.st.low.cell (block_lt_of_cell e1.out)).trans e1.out
                    clear h3 h4
                    have hba := (Below.refl wr.heap.size wr).alloc (Nat.le_refl _) (.cells #[] 5)
                    have B4 := Lib.hid hba
                    have O4 := Lib.hid (show (wr.alloc (.cells #[] 5)).ownsRow wr.heap.size 5 1 (.slice (some ⟨wr.heap.size, 0, none⟩) 0 0) 0 [] from owns_mk (L := []) (cap := 0) (n := 0) (heap_alloc_new wr (.cells (u8s []) 5)) rfl (Nat.le_refl _) (Nat.zero_le _) (Nat.le_refl _))
                    have T4 := Lib.hid ((OK.out.b.later P.out.st.low).later hba)
                    have c1a := (hba.cell (block_lt_of_cell c1)).trans c1
                    clear hba
                    go_upto_region 12 with (at_builtin; refine wpList_append_bytes (by rfl) (.tmp 53) (.tmp 58) (by rfl) wr.heap.size _ (by rfl) O4.out (by rfl) T4.out (by omega) B4.out.size ?_; intro v5 w5 o5 g5; have O5 := Lib.hid o5; have B5 := Lib.hid (B4.out.grown g5 B4.out.size (fun k hk => (O4.out.lt k hk).1)); clear o5 g5)
                    obtain ⟨q5, c5, rfl⟩ : ∃ q5 c5, v5 = .slice q5 t.bn c5 := by
                      rcases O5.out.2 with ⟨h1, h2⟩ | ⟨gb, cap, cur, h1, _⟩
                      · exact ⟨none, 0, by rw [h1, h2]⟩
                      · exact ⟨_, _, h1⟩
                    have HBL := Lib.hid (show t.B.length = t.bn from OK.out.b.size.symm)
                    have HOK := Lib.hid OK.out.b.ok
                    have T5 := Lib.hid (show Tx w5 q5 t.bn c5 t.B from by
                      have h1 := tx_of_owns O5.out HOK.out
                      exact h1)
                    have X5 := Lib.hid (show ∀ k, (Value.slice q5 t.bn c5).ownBlock = some k → wr.heap.size ≤ k ∧ k < w5.heap.size from fun k hk => O5.out.lt k hk)
                    have P5 := Lib.hid (P.out.later A B5.out)
                    have hmi : m ≤ 100000 := by omega
                    clear c1 c1a B4 O4 T4
                    go_wp2_with fail
                    refine (rput_any P5.out.pgs P5.out.st.low.size hmi t.B q5 t.bn c5 T5.out (by omega)).mono ?_
                    rintro e w6 ⟨v6, n6, L6, rfl, pg6, sm6, on6, pu6⟩
                    have HXQ := Lib.hid (show ∀ k, (Value.slice q5 t.bn c5).ownBlock = some k → w.heap.size ≤ k ∧ ¬ Q k ∧ ¬ PU u4 L k from fun k hk => by
                      have h1 := X5.out k hk
                      have h2 := P.out.st.low.size
                      refine ⟨by omega, fun e => ?_, fun e => ?_⟩
                      · have := A.lt P.out.st.at' k e; omega
                      · have := P.out.pgs.lt k e; omega)
                    have S6 := Lib.hid (show St PL w w6 g Q s from ⟨A.keep _ P5.out.st.at' on6 (fun k hk e => (P5.out.off k (Or.inl e)).2 hk), P5.out.st.own, P5.out.st.low.trans (on6.below P5.out.st.low.size (fun k e => (P5.out.off k (Or.inl e)).1))⟩)
                    have PG6 := Lib.hid pg6
                    have SM6 := Lib.hid (show pagesOf L6 = (s.put t.B).W from by rw [sm6, P.out.same]; rfl)
                    have OF6 := Lib.hid (show ∀ k, PU v6 L6 k → w.heap.size ≤ k ∧ ¬ Q k ∧ k < w6.heap.size from fun k hk => by
                      have hlt := pg6.lt k hk
                      rcases pu6 k hk with e | e
                      · exact ⟨(P5.out.off k e).1, (P5.out.off k e).2, hlt⟩
                      · have h1 := P5.out.st.low.size
                        exact ⟨by omega, fun hq => by have := A.lt P5.out.st.at' k hq; omega, hlt⟩)
                    have O6 := Lib.hid (owns_keepP O5.out (fun k hk => on6.block k (X5.out k hk).2 (fun e => (HXQ.out k hk).2.2 (Or.inl e))))
                    have T6 := Lib.hid (tx_of_owns O6.out HOK.out)
                    have HL6 := Lib.hid (show w5.heap.size ≤ w6.heap.size from on6.size)
                    have HNU := Lib.hid (show ∀ k, (Value.slice q5 t.bn c5).ownBlock = some k → ¬ PU v6 L6 k from fun k hk e => by
                      rcases pu6 k e with h | h
                      · exact (HXQ.out k hk).2.2 h
                      · have := (X5.out k hk).2; omega)
                    have HF6 := Lib.hid (put_few9 s t.B)
                    have HFW := Lib.hid (show ∀ x ∈ (s.put t.B).W, x.2.length ≤ 300 from fun x hx => by
                      simp only [S.put, putW] at hx
                      split at hx
                      · exact P.out.few x hx
                      · rcases List.mem_append.1 hx with hx | hx
                        · exact P.out.few x hx
                        · rw [List.mem_singleton.1 hx]
                          have := HBL.out
                          show t.B.length ≤ 300
                          omega)
                    have HLN0 := Lib.hid P.out.len
                    clear pg6 sm6 on6 pu6 P5 O5 T5
                    go_wp2_with fail
                    refine (A.put t.B q5 t.bn c5 S6.out.at' T6.out (fun x hx _ => (HXQ.out x.block (by rw [hx]; rfl)).2.1) (by omega) (by have := HLN0.out; omega)).mono ?_
                    rintro e w7 ⟨rfl, Q7, p7, q7, o7⟩
                    have P7 := Lib.hid (show Pl PL w w7 g Q7 (s.put t.B) v6 n6 L6 from ⟨S6.out.turned p7 q7 o7, PG6.out.only o7 (fun k hk => (OF6.out k hk).2.1), SM6.out, fun k hk => ⟨(OF6.out k hk).1, fun hq => (q7 k hq).elim (OF6.out k hk).2.1 (fun e => by have := (OF6.out k hk).2.2; omega)⟩, HFW.out⟩)
                    have O7 := Lib.hid (owns_keepP O6.out (fun k hk => o7.block k (by have := (X5.out k hk).2; have := HL6.out; omega) (HXQ.out k hk).2.1))
                    have T7 := Lib.hid (tx_of_owns O7.out HOK.out)
                    have HNP := Lib.hid (show ∀ k, (Value.slice q5 t.bn c5).ownBlock = some k → w.heap.size ≤ k ∧ ¬ Q7 k ∧ ¬ PU v6 L6 k from fun k hk => ⟨(HXQ.out k hk).1, fun hq => (q7 k hq).elim (HXQ.out k hk).2.1 (fun e => by have := (X5.out k hk).2; have := HL6.out; omega), HNU.out k hk⟩)
                    clear p7 q7 o7 S6 PG6 SM6 O6 T6
                    obtain ⟨D, hD⟩ : ∃ D, D = sumOf t.B := ⟨_, rfl⟩
                    rw [← hD]
                    have HDE := Lib.hid hD
                    have hqn := fun w' => neq_selfP D (by rw [hD]; rfl) w'
                    clear hD
                    go_wp2_with fail
                    refine (rsum_any t.B q5 t.bn c5 w7 T7.out (by omega)).mono ?_
                    rintro e w8 ⟨rfl, b8⟩
                    rw [← HDE.out]
                    have P8 := Lib.hid (P7.out.later A b8)
                    have O8 := Lib.hid (owns_keepP O7.out (fun k hk => b8.block k (O7.out.lt k hk).2))
                    have HMI := Lib.hid (show n6 ≤ i + 1 from by
                      have h1 := P8.out.len
                      have h2 := HF6.out
                      have h3 := HLN0.out
                      omega)
                    clear b8 P7 O7 T7
                    go_wp2_with fail
                    clear hqn
                    generalize wr.heap.size = base at *
                    go_loopw [15] (fun i wx => IncP PL w g Q7 (s.put t.B) v6 n6 L6 base q5 t.bn c5 i wx) (fun i _ => t.bn - (intOf i).toNat)
                    case atStart => exact ⟨0, t.B, Nat.zero_le _, rfl, P8.out, O8.out, HOK.out, HBL.out⟩
                    case round =>
                      obtain ⟨j, B', hj, rfl, hD, hown, hok, hlen⟩ := hrel
                      by_cases hjn : j < t.bn
                      · have l5 : (j : Int) < (t.bn : Nat) := by omega
                        obtain ⟨gb, rfl⟩ : ∃ gb, q5 = some ⟨gb, 0, none⟩ := by
                          rcases hown.2 with ⟨_, h0⟩ | ⟨gb, cap, cur, e, _⟩
                          · omega
                          · cases e; exact ⟨gb, rfl⟩
                        obtain ⟨g', o', hp', hx'⟩ := (Bytes.of_owns hown hok).ne (by intro e; rw [e] at hlen; simp at hlen; omega)
                        obtain ⟨rfl, rfl⟩ : gb = g' ∧ 0 = o' := by simpa using hp'
                        have c5 := hx' j (by omega)
                        rw [Nat.zero_add] at c5
                        have f5 := hown.frozenAt j
                        have hst := hown.stored j (.int .u8 (((B'.getD j 0 + 1) % 256 : Nat) : Int))
                        rw [← vals_set] at hst
                        have HST := Lib.hid hst.1
                        have HDX := Lib.hid (hD.only A (fun k => k = gb) (Dk.Only.setCell (P := fun k => k = gb) wr (a := ⟨gb, j, none⟩) rfl (.int .u8 (((B'.getD j 0 + 1) % 256 : Nat) : Int))) (fun k hk => by rw [hk]; exact HNP.out gb rfl))
                        have HOK' := Lib.hid (set_okP hok j ((B'.getD j 0 + 1) % 256) (Nat.mod_lt _ (by omega)))
                        have HLN := Lib.hid (show (B'.set j ((B'.getD j 0 + 1) % 256)).length = t.bn from by rw [List.length_set]; exact hlen)
                        have i5' : (0 : Int) ≤ j ∧ (j : Int) < (t.bn : Nat) := by omega
                        have q3 : IntKind.u8.wrap ((B'.getD j 0 : Int) + 1) = (((B'.getD j 0 + 1) % 256 : Nat) : Int) := by rw [IntKind.wrap_u8']; omega
                        clear hst hD hown hok hx' hp' hlen
                        generalize (B'.getD j 0 + 1) % 256 = z at *
                        generalize B'.getD j 0 = y at *
                        go_wp2_with fail
                        go_roundw
                        case rel => exact ⟨j + 1, _, by omega, by go_num, HDX.out, HST.out, HOK'.out, HLN.out⟩
                        case measure => simp [intOf]; omega
                      · have l5 : ¬ (j : Int) < (t.bn : Nat) := by omega
                        have D8 := Lib.hid hD
                        clear hD hown hok hlen
                        go_wp2_with fail
                        go_meet
                        exact ⟨Q7, (s.put t.B), L6, n6, D8.out, HMI.out⟩
            case rest =>
              as_aux_lemma =>
                obtain ⟨Q', s', L', m', hP', hm'⟩ := hcut
                have P' := Lib.hid hP'
                clear hP' P
                generalize wc = w3 at *
                obtain ⟨qv, cv, rfl, hmc, hqv⟩ := P'.out.pgs.form
                have HQV := Lib.hid hqv
                have HLN := Lib.hid P'.out.len
                have hm41 : m' ≤ 41 := by omega
                clear hqv
                go_wp2_with fail
                refine (A.sums P'.out.st.at' (by have := HLN.out; omega)).mono ?_
                rintro e w4 ⟨q4, c4, S4, rfl, dg4, hl4, hm4, hs4, b4⟩
                rw [HLN.out] at hl4
                rw [hl4] at dg4
                rw [hl4]
                have P4 := Lib.hid (P'.out.later A b4)
                have DG4 := Lib.hid dg4
                have HL4 := Lib.hid hl4
                have HM4 := Lib.hid hm4
                have HS4 := Lib.hid hs4
                clear dg4 hl4 hm4 hs4 b4
                go_wp2_with fail
                refine (A.len P4.out.st.at').mono ?_
                rintro e w5 ⟨rfl, b5⟩
                rw [HLN.out]
                have P5 := Lib.hid (P4.out.later A b5)
                have DG5 := Lib.hid (DG4.out.later b5)
                clear b5 P4 DG4
                go_wp2_with fail
                go_loopw [17] (fun v wx => SumR PL w g Q' s' (.slice qv m' cv) m' L' q4 m' c4 S4 v wx) (fun v _ => m' - (intOf v).toNat)
                case atStart => exact ⟨0, Nat.zero_le _, rfl, P5.out, DG5.out⟩
                case round =>
                  obtain ⟨k, hk, rfl, hP6, hD6⟩ := hrel
                  have P6 := Lib.hid hP6
                  have DG6 := Lib.hid hD6
                  clear hP6 hD6
                  by_cases hkm : k < m'
                  · have l6 : (k : Int) < (m' : Nat) := by omega
                    have i6 : (0 : Int) ≤ k ∧ (k : Int) < (m' : Nat) := by omega
                    obtain ⟨kg, ko, rfl, hKx⟩ := DG6.out.at' (by intro e; have := HL4.out; rw [e] at this; simp at this; omega)
                    obtain ⟨X, hX⟩ : ∃ X, X = S4.getD k [] := ⟨_, rfl⟩
                    have HX := Lib.hid hX
                    have HXM := Lib.hid (show X ∈ S4 from by rw [hX]; exact getD_memK (by have := HL4.out; omega))
                    have HXL := Lib.hid (DG6.out.len _ HXM.out)
                    have RX := Lib.hid (show wr.rangeAt kg (ko + k * 32) (vals X) from by rw [hX]; exact hKx k (by have := HL4.out; omega))
                    have HIX := Lib.hid (show idx X (pagesOf L') < (pagesOf L').length from idx_mem.2 (by rw [P6.out.same]; exact HM4.out X HXM.out))
                    obtain ⟨ix, hix⟩ : ∃ ix, ix = idx X (pagesOf L') := ⟨_, rfl⟩
                    have HFI := Lib.hid (show findI (pagesOf L') X = (ix : Int) from by rw [findI, if_pos HIX.out, hix])
                    have l7 : ¬ (ix : Int) < 0 := by omega
                    clear hX hix
                    by_cases hk0 : k = 0
                    · have l8 : ¬ (k : Int) > 0 := by omega
                      have l8n : ¬ 0 < k := by omega
                      have l8d : decide ((k : Int) > 0) = false := decide_eq_false l8
                      clear hk0 hKx
                      go_upto_region 47 with fail
                      go_cut [238] from 215 to 238 (fun v wx => v = .bool false ∧ Below wr.heap.size wr wx)
                      case first =>
                        refine wp_region_held_drew (S := fun w' => Below wr.heap.size wr w') (by kernel_rfl) (Below.refl _ _).drew (fun hHeld => ?_)
                        refine wpAnyH_take (i := 0) (oi := ⟨some 215, .move (.tmp 4), _, _, _, _⟩) (v := ?_) rfl (by kernel_rfl) (by kernel_rfl) (by kernel_rfl) (fun _ _ _ h => h) (Or.inl ⟨by rfl, ?_⟩) (by assumption) ?_
                        rotate_left
                        · intro w' hSw
                          go_simp
                          try with_reducible rfl
                        try simp only [Act.put, List.setIfInBounds_toArray, List.set_cons_zero, List.set_cons_succ]
                        refine wpAnyH_take (i := 1) (oi := ⟨some 216, .move (.tmp 16), _, _, _, _⟩) (v := ?_) rfl (by kernel_rfl) (by kernel_rfl) (by kernel_rfl) (fun _ _ _ h => h) (Or.inl ⟨by rfl, ?_⟩) (by assumption) ?_
                        rotate_left
                        · intro w' hSw
                          go_simp
                          try with_reducible rfl
                        try simp only [Act.put, List.setIfInBounds_toArray, List.set_cons_zero, List.set_cons_succ]
                        refine wpAnyH_take (i := 2) (oi := ⟨some 217, .move (.tmp 17), _, _, _, _⟩) (v := ?_) rfl (by kernel_rfl) (by kernel_rfl) (by kernel_rfl) (fun _ _ _ h => h) (Or.inl ⟨by rfl, ?_⟩) (by assumption) ?_
                        rotate_left
                        · intro w' hSw
                          go_simp
                          try with_reducible rfl
                        try simp only [Act.put, List.setIfInBounds_toArray, List.set_cons_zero, List.set_cons_succ]
                        refine wpAnyH_take (i := 3) (oi := ⟨some 218, .indexAddr 41 (.tmp 216) (.tmp 217), _, _, _, _⟩) (v := ?_) rfl (by kernel_rfl) (by kernel_rfl) (by kernel_rfl) (fun _ _ _ h => h) (Or.inl ⟨by rfl, ?_⟩) (by assumption) ?_
                        rotate_left
                        · intro w' hSw
                          go_simp
                          try with_reducible rfl
                        try simp only [Act.put, List.setIfInBounds_toArray, List.set_cons_zero, List.set_cons_succ]
                        refine wpAnyH_take (i := 4) (oi := ⟨some 219, .load 32 (.tmp 218), _, _, _, _⟩) (v := ?_) rfl (by kernel_rfl) (by kernel_rfl) (by kernel_rfl) (fun _ _ _ h => h) (Or.inl ⟨by rfl, ?_⟩) (by assumption) ?_
                        rotate_left
                        · intro w' hSw
                          refine Eq.trans (b := Result.ok (Next.value (.agg (u8s X))) w') ?_ ?_
                          · exact op_load_dig (by rfl) (by rfl) HXL.out.1 (fun j u hu => (hSw.cell (block_lt_of_cell (RX.out j u hu))).trans (RX.out j u hu))
                          · with_reducible rfl
                        try simp only [Act.put, List.setIfInBounds_toArray, List.set_cons_zero, List.set_cons_succ]
                        refine wpAnyH_ready (rs := [5]) (by kernel_rfl) (by simp) ?_
                        refine AllReadyH.cons (o := ⟨some 220, .call ⟨.value (.func 10), #[.tmp 215, .tmp 219], #[26, 32]⟩, _, _, _, _⟩) rfl (fun K hK => ?_) AllReadyH.nil
                        go_simp
                        refine (rfind_any (P6.out.pgs.later hHeld) X HXL.out.1 (by omega)).mono ?_
                        rintro _ w220 ⟨rfl, b220⟩
                        rw [HFI.out]
                        have hS220 : Below wr.heap.size wr w220 := hHeld.trans (b220.mono hHeld.size)
                        try go_wp2_with fail
                        refine hK.out _ _ hS220 (fun hHeld => ?_)
                        clear hK K
                        try simp only [Act.put, List.setIfInBounds_toArray, List.set_cons_zero, List.set_cons_succ]
                        refine wpAnyH_take (i := 6) (oi := ⟨some 221, .binOp .lss 3 (.tmp 220) (.const (.int .i64 0)) 3, _, _, _, _⟩) (v := ?_) rfl (by kernel_rfl) (by kernel_rfl) (by kernel_rfl) (fun _ _ _ h => h) (Or.inl ⟨by rfl, ?_⟩) (by assumption) ?_
                        rotate_left
                        · intro w' hSw
                          go_simp
                          try with_reducible rfl
                        try simp only [Act.put, List.setIfInBounds_toArray, List.set_cons_zero, List.set_cons_succ]
                        refine wpAnyH_take (i := 7) (oi := ⟨some 222, .move (.tmp 221), _, _, _, _⟩) (v := ?_) rfl (by kernel_rfl) (by kernel_rfl) (by kernel_rfl) (fun _ _ _ h => h) (Or.inl ⟨by rfl, ?_⟩) (by assumption) ?_
                        rotate_left
                        · intro w' hSw
                          go_simp
                          try with_reducible rfl
                        try simp only [Act.put, List.setIfInBounds_toArray, List.set_cons_zero, List.set_cons_succ]
                        refine wpAnyH_take (i := 8) (oi := ⟨some 223, .move (.tmp 17), _, _, _, _⟩) (v := ?_) rfl (by kernel_rfl) (by kernel_rfl) (by kernel_rfl) (fun _ _ _ h => h) (Or.inl ⟨by rfl, ?_⟩) (by assumption) ?_
                        rotate_left
                        · intro w' hSw
                          go_simp
                          try with_reducible rfl
                        try simp only [Act.put, List.setIfInBounds_toArray, List.set_cons_zero, List.set_cons_succ]
                        refine wpAnyH_take (i := 9) (oi := ⟨some 224, .binOp .gtr 3 (.tmp 223) (.const (.int .i64 0)) 3, _, _, _, _⟩) (v := ?_) rfl (by kernel_rfl) (by kernel_rfl) (by kernel_rfl) (fun _ _ _ h => h) (Or.inl ⟨by rfl, ?_⟩) (by assumption) ?_
                        rotate_left
                        · intro w' hSw
                          go_simp
                          try with_reducible rfl
                        try simp only [Act.put, List.setIfInBounds_toArray, List.set_cons_zero, List.set_cons_succ]
                        refine wpAnyH_take (i := 10) (oi := ⟨some 225, .move (.tmp 224), _, _, _, _⟩) (v := ?_) rfl (by kernel_rfl) (by kernel_rfl) (by kernel_rfl) (fun _ _ _ h => h) (Or.inl ⟨by rfl, ?_⟩) (by assumption) ?_
                        rotate_left
                        · intro w' hSw
                          go_simp
                          try with_reducible rfl
                        try simp only [Act.put, List.setIfInBounds_toArray, List.set_cons_zero, List.set_cons_succ]
                        refine wpAnyH_take (i := 11) (oi := ⟨some 226, .move (.tmp 16), _, _, _, _⟩) (v := undef) rfl (by kernel_rfl) (by kernel_rfl) (by kernel_rfl) (fun _ _ _ h => h) (Or.inr ⟨by rfl, rfl⟩) (by assumption) ?_
                        try simp only [Act.put, List.setIfInBounds_toArray, List.set_cons_zero, List.set_cons_succ]
                        refine wpAnyH_take (i := 12) (oi := ⟨some 227, .move (.tmp 17), _, _, _, _⟩) (v := undef) rfl (by kernel_rfl) (by kernel_rfl) (by kernel_rfl) (fun _ _ _ h => h) (Or.inr ⟨by rfl, rfl⟩) (by assumption) ?_
                        try simp only [Act.put, List.setIfInBounds_toArray, List.set_cons_zero, List.set_cons_succ]
                        refine wpAnyH_take (i := 13) (oi := ⟨some 228, .binOp .sub 3 (.tmp 227) (.const (.int .i64 1)) 3, _, _, _, _⟩) (v := undef) rfl (by kernel_rfl) (by kernel_rfl) (by kernel_rfl) (fun _ _ _ h => h) (Or.inr ⟨by rfl, rfl⟩) (by assumption) ?_
                        try simp only [Act.put, List.setIfInBounds_toArray, List.set_cons_zero, List.set_cons_succ]
                        refine wpAnyH_take (i := 14) (oi := ⟨some 229, .indexAddr 41 (.tmp 226) (.tmp 228), _, _, _, _⟩) (v := undef) rfl (by kernel_rfl) (by kernel_rfl) (by kernel_rfl) (fun _ _ _ h => h) (Or.inr ⟨by rfl, rfl⟩) (by assumption) ?_
                        try simp only [Act.put, List.setIfInBounds_toArray, List.set_cons_zero, List.set_cons_succ]
                        refine wpAnyH_take (i := 15) (oi := ⟨some 230, .slice 32 (.tmp 229) none none none, _, _, _, _⟩) (v := undef) rfl (by kernel_rfl) (by kernel_rfl) (by kernel_rfl) (fun _ _ _ h => h) (Or.inr ⟨by rfl, rfl⟩) (by assumption) ?_
                        try simp only [Act.put, List.setIfInBounds_toArray, List.set_cons_zero, List.set_cons_succ]
                        refine wpAnyH_take (i := 16) (oi := ⟨some 231, .move (.tmp 16), _, _, _, _⟩) (v := undef) rfl (by kernel_rfl) (by kernel_rfl) (by kernel_rfl) (fun _ _ _ h => h) (Or.inr ⟨by rfl, rfl⟩) (by assumption) ?_
                        try simp only [Act.put, List.setIfInBounds_toArray, List.set_cons_zero, List.set_cons_succ]
                        refine wpAnyH_take (i := 17) (oi := ⟨some 232, .move (.tmp 17), _, _, _, _⟩) (v := undef) rfl (by kernel_rfl) (by kernel_rfl) (by kernel_rfl) (fun _ _ _ h => h) (Or.inr ⟨by rfl, rfl⟩) (by assumption) ?_
                        try simp only [Act.put, List.setIfInBounds_toArray, List.set_cons_zero, List.set_cons_succ]
                        refine wpAnyH_take (i := 18) (oi := ⟨some 233, .indexAddr 41 (.tmp 231) (.tmp 232), _, _, _, _⟩) (v := undef) rfl (by kernel_rfl) (by kernel_rfl) (by kernel_rfl) (fun _ _ _ h => h) (Or.inr ⟨by rfl, rfl⟩) (by assumption) ?_
                        try simp only [Act.put, List.setIfInBounds_toArray, List.set_cons_zero, List.set_cons_succ]
                        refine wpAnyH_take (i := 19) (oi := ⟨some 234, .slice 32 (.tmp 233) none none none, _, _, _, _⟩) (v := undef) rfl (by kernel_rfl) (by kernel_rfl) (by kernel_rfl) (fun _ _ _ h => h) (Or.inr ⟨by rfl, rfl⟩) (by assumption) ?_
                        try simp only [Act.put, List.setIfInBounds_toArray, List.set_cons_zero, List.set_cons_succ]
                        refine wpAnyH_take (i := 20) (oi := ⟨some 235, .call ⟨.value (.func 18), #[.tmp 230, .tmp 234], #[27, 27]⟩, _, _, _, _⟩) (v := undef) rfl (by kernel_rfl) (by kernel_rfl) (by kernel_rfl) (fun _ _ _ h => h) (Or.inr ⟨by rfl, rfl⟩) (by assumption) ?_
                        try simp only [Act.put, List.setIfInBounds_toArray, List.set_cons_zero, List.set_cons_succ]
                        refine wpAnyH_take (i := 21) (oi := ⟨some 236, .binOp .geq 3 (.tmp 235) (.const (.int .i64 0)) 3, _, _, _, _⟩) (v := undef) rfl (by kernel_rfl) (by kernel_rfl) (by kernel_rfl) (fun _ _ _ h => h) (Or.inr ⟨by rfl, rfl⟩) (by assumption) ?_
                        try simp only [Act.put, List.setIfInBounds_toArray, List.set_cons_zero, List.set_cons_succ]
                        refine wpAnyH_take (i := 22) (oi := ⟨some 237, .pick (.tmp 225) (.tmp 236) (.const (.bool false)), _, _, _, _⟩) (v := ?_) rfl (by kernel_rfl) (by kernel_rfl) (by kernel_rfl) (fun _ _ _ h => h) (Or.inl ⟨by rfl, ?_⟩) (by assumption) ?_
                        rotate_left
                        · intro w' hSw
                          go_simp
                          try with_reducible rfl
                        try simp only [Act.put, List.setIfInBounds_toArray, List.set_cons_zero, List.set_cons_succ]
                        refine wpAnyH_take (i := 23) (oi := ⟨some 238, .pick (.tmp 222) (.const (.bool true)) (.tmp 237), _, _, _, _⟩) (v := ?_) rfl (by kernel_rfl) (by kernel_rfl) (by kernel_rfl) (fun _ _ _ h => h) (Or.inl ⟨by rfl, ?_⟩) (by assumption) ?_
                        rotate_left
                        · intro w' hSw
                          go_simp
                          try with_reducible rfl
                        try simp only [Act.put, List.setIfInBounds_toArray, List.set_cons_zero, List.set_cons_succ]
                        refine wpAnyH_done (by kernel_rfl) ?_ _
                        try go_wp2_with fail
                        go_meet
                        exact ⟨rfl, hHeld⟩
                      case rest =>
                        obtain ⟨rfl, hbc⟩ := hcut
                        have P7 := Lib.hid (P6.out.later A hbc)
                        have DG7 := Lib.hid (DG6.out.later hbc)
                        clear hbc P6 DG6 RX
                        go_wp2_with fail
                        go_roundw
                        case rel => exact ⟨k + 1, by omega, by go_num, P7.out, DG7.out⟩
                        case measure => simp [intOf]; omega
                    · have l8 : (k : Int) > 0 := by omega
                      have l8n : 0 < k := by omega
                      obtain ⟨j, hj⟩ : ∃ j, j = k - 1 := ⟨_, rfl⟩
                      obtain ⟨Y, hY⟩ : ∃ Y, Y = S4.getD j [] := ⟨_, rfl⟩
                      have HYL := Lib.hid (DG6.out.len Y (by rw [hY]; exact getD_memK (by have := HL4.out; omega)))
                      have RY := Lib.hid (show wr.rangeAt kg (ko + j * 32) (vals Y) from by rw [hY]; exact hKx j (by have := HL4.out; omega))
                      have HCM := Lib.hid (show Cm.cmpL Y X = -1 from by
                        have h1 := HS4.out j (by have := HL4.out; omega)
                        rw [← hY, show j + 1 = k from by omega, ← HX.out] at h1
                        exact h1)
                      have z9 : IntKind.i64.wrap ((k : Int) - 1) = (j : Int) := by rw [IntWalk.i64_in _ (by omega)]; omega
                      have i9 : (0 : Int) ≤ j ∧ (j : Int) < (m' : Nat) := by omega
                      clear hk0 hKx hj hY
                      go_upto_region 47 with fail
                      go_cut [238] from 215 to 238 (fun v wx => v = .bool false ∧ Below wr.heap.size wr wx)
                      case first =>
                        refine wp_region_held_drew (S := fun w' => Below wr.heap.size wr w') (by kernel_rfl) (Below.refl _ _).drew (fun hHeld => ?_)
                        refine wpAnyH_take (i := 0) (oi := ⟨some 215, .move (.tmp 4), _, _, _, _⟩) (v := ?_) rfl (by kernel_rfl) (by kernel_rfl) (by kernel_rfl) (fun _ _ _ h => h) (Or.inl ⟨by rfl, ?_⟩) (by assumption) ?_
                        rotate_left
                        · intro w' hSw
                          go_simp
                          try with_reducible rfl
                        try simp only [Act.put, List.setIfInBounds_toArray, List.set_cons_zero, List.set_cons_succ]
                        refine wpAnyH_take (i := 1) (oi := ⟨some 216, .move (.tmp 16), _, _, _, _⟩) (v := ?_) rfl (by kernel_rfl) (by kernel_rfl) (by kernel_rfl) (fun _ _ _ h => h) (Or.inl ⟨by rfl, ?_⟩) (by assumption) ?_
                        rotate_left
                        · intro w' hSw
                          go_simp
                          try with_reducible rfl
                        try simp only [Act.put, List.setIfInBounds_toArray, List.set_cons_zero, List.set_cons_succ]
                        refine wpAnyH_take (i := 2) (oi := ⟨some 217, .move (.tmp 17), _, _, _, _⟩) (v := ?_) rfl (by kernel_rfl) (by kernel_rfl) (by kernel_rfl) (fun _ _ _ h => h) (Or.inl ⟨by rfl, ?_⟩) (by assumption) ?_
                        rotate_left
                        · intro w' hSw
                          go_simp
                          try with_reducible rfl
                        try simp only [Act.put, List.setIfInBounds_toArray, List.set_cons_zero, List.set_cons_succ]
                        refine wpAnyH_take (i := 3) (oi := ⟨some 218, .indexAddr 41 (.tmp 216) (.tmp 217), _, _, _, _⟩) (v := ?_) rfl (by kernel_rfl) (by kernel_rfl) (by kernel_rfl) (fun _ _ _ h => h) (Or.inl ⟨by rfl, ?_⟩) (by assumption) ?_
                        rotate_left
                        · intro w' hSw
                          go_simp
                          try with_reducible rfl
                        try simp only [Act.put, List.setIfInBounds_toArray, List.set_cons_zero, List.set_cons_succ]
                        refine wpAnyH_take (i := 4) (oi := ⟨some 219, .load 32 (.tmp 218), _, _, _, _⟩) (v := ?_) rfl (by kernel_rfl) (by kernel_rfl) (by kernel_rfl) (fun _ _ _ h => h) (Or.inl ⟨by rfl, ?_⟩) (by assumption) ?_
                        rotate_left
                        · intro w' hSw
                          refine Eq.trans (b := Result.ok (Next.value (.agg (u8s X))) w') ?_ ?_
                          · exact op_load_dig (by rfl) (by rfl) HXL.out.1 (fun j u hu => (hSw.cell (block_lt_of_cell (RX.out j u hu))).trans (RX.out j u hu))
                          · with_reducible rfl
                        try simp only [Act.put, List.setIfInBounds_toArray, List.set_cons_zero, List.set_cons_succ]
                        refine wpAnyH_ready (rs := [5]) (by kernel_rfl) (by simp) ?_
                        refine AllReadyH.cons (o := ⟨some 220, .call ⟨.value (.func 10), #[.tmp 215, .tmp 219], #[26, 32]⟩, _, _, _, _⟩) rfl (fun K hK => ?_) AllReadyH.nil
                        go_simp
                        refine (rfind_any (P6.out.pgs.later hHeld) X HXL.out.1 (by omega)).mono ?_
                        rintro _ w220 ⟨rfl, b220⟩
                        rw [HFI.out]
                        have hS220 : Below wr.heap.size wr w220 := hHeld.trans (b220.mono hHeld.size)
                        try go_wp2_with fail
                        refine hK.out _ _ hS220 (fun hHeld => ?_)
                        clear hK K
                        try simp only [Act.put, List.setIfInBounds_toArray, List.set_cons_zero, List.set_cons_succ]
                        refine wpAnyH_take (i := 6) (oi := ⟨some 221, .binOp .lss 3 (.tmp 220) (.const (.int .i64 0)) 3, _, _, _, _⟩) (v := ?_) rfl (by kernel_rfl) (by kernel_rfl) (by kernel_rfl) (fun _ _ _ h => h) (Or.inl ⟨by rfl, ?_⟩) (by assumption) ?_
                        rotate_left
                        · intro w' hSw
                          go_simp
                          try with_reducible rfl
                        try simp only [Act.put, List.setIfInBounds_toArray, List.set_cons_zero, List.set_cons_succ]
                        refine wpAnyH_take (i := 7) (oi := ⟨some 222, .move (.tmp 221), _, _, _, _⟩) (v := ?_) rfl (by kernel_rfl) (by kernel_rfl) (by kernel_rfl) (fun _ _ _ h => h) (Or.inl ⟨by rfl, ?_⟩) (by assumption) ?_
                        rotate_left
                        · intro w' hSw
                          go_simp
                          try with_reducible rfl
                        try simp only [Act.put, List.setIfInBounds_toArray, List.set_cons_zero, List.set_cons_succ]
                        refine wpAnyH_take (i := 8) (oi := ⟨some 223, .move (.tmp 17), _, _, _, _⟩) (v := ?_) rfl (by kernel_rfl) (by kernel_rfl) (by kernel_rfl) (fun _ _ _ h => h) (Or.inl ⟨by rfl, ?_⟩) (by assumption) ?_
                        rotate_left
                        · intro w' hSw
                          go_simp
                          try with_reducible rfl
                        try simp only [Act.put, List.setIfInBounds_toArray, List.set_cons_zero, List.set_cons_succ]
                        refine wpAnyH_take (i := 9) (oi := ⟨some 224, .binOp .gtr 3 (.tmp 223) (.const (.int .i64 0)) 3, _, _, _, _⟩) (v := ?_) rfl (by kernel_rfl) (by kernel_rfl) (by kernel_rfl) (fun _ _ _ h => h) (Or.inl ⟨by rfl, ?_⟩) (by assumption) ?_
                        rotate_left
                        · intro w' hSw
                          go_simp
                          try with_reducible rfl
                        try simp only [Act.put, List.setIfInBounds_toArray, List.set_cons_zero, List.set_cons_succ]
                        refine wpAnyH_take (i := 10) (oi := ⟨some 225, .move (.tmp 224), _, _, _, _⟩) (v := ?_) rfl (by kernel_rfl) (by kernel_rfl) (by kernel_rfl) (fun _ _ _ h => h) (Or.inl ⟨by rfl, ?_⟩) (by assumption) ?_
                        rotate_left
                        · intro w' hSw
                          go_simp
                          try with_reducible rfl
                        try simp only [Act.put, List.setIfInBounds_toArray, List.set_cons_zero, List.set_cons_succ]
                        refine wpAnyH_take (i := 11) (oi := ⟨some 226, .move (.tmp 16), _, _, _, _⟩) (v := ?_) rfl (by kernel_rfl) (by kernel_rfl) (by kernel_rfl) (fun _ _ _ h => h) (Or.inl ⟨by rfl, ?_⟩) (by assumption) ?_
                        rotate_left
                        · intro w' hSw
                          go_simp
                          try with_reducible rfl
                        try simp only [Act.put, List.setIfInBounds_toArray, List.set_cons_zero, List.set_cons_succ]
                        refine wpAnyH_take (i := 12) (oi := ⟨some 227, .move (.tmp 17), _, _, _, _⟩) (v := ?_) rfl (by kernel_rfl) (by kernel_rfl) (by kernel_rfl) (fun _ _ _ h => h) (Or.inl ⟨by rfl, ?_⟩) (by assumption) ?_
                        rotate_left
                        · intro w' hSw
                          go_simp
                          try with_reducible rfl
                        try simp only [Act.put, List.setIfInBounds_toArray, List.set_cons_zero, List.set_cons_succ]
                        refine wpAnyH_take (i := 13) (oi := ⟨some 228, .binOp .sub 3 (.tmp 227) (.const (.int .i64 1)) 3, _, _, _, _⟩) (v := ?_) rfl (by kernel_rfl) (by kernel_rfl) (by kernel_rfl) (fun _ _ _ h => h) (Or.inl ⟨by rfl, ?_⟩) (by assumption) ?_
                        rotate_left
                        · intro w' hSw
                          go_simp
                          try with_reducible rfl
                        try simp only [Act.put, List.setIfInBounds_toArray, List.set_cons_zero, List.set_cons_succ]
                        refine wpAnyH_take (i := 14) (oi := ⟨some 229, .indexAddr 41 (.tmp 226) (.tmp 228), _, _, _, _⟩) (v := ?_) rfl (by kernel_rfl) (by kernel_rfl) (by kernel_rfl) (fun _ _ _ h => h) (Or.inl ⟨by rfl, ?_⟩) (by assumption) ?_
                        rotate_left
                        · intro w' hSw
                          go_simp
                          try with_reducible rfl
                        try simp only [Act.put, List.setIfInBounds_toArray, List.set_cons_zero, List.set_cons_succ]
                        refine wpAnyH_take (i := 15) (oi := ⟨some 230, .slice 32 (.tmp 229) none none none, _, _, _, _⟩) (v := ?_) rfl (by kernel_rfl) (by kernel_rfl) (by kernel_rfl) (fun _ _ _ h => h) (Or.inl ⟨by rfl, ?_⟩) (by assumption) ?_
                        rotate_left
                        · intro w' hSw
                          have hds := dig_slice kg (ko + j * 32) w'
                          go_simp
                          try with_reducible rfl
                        try simp only [Act.put, List.setIfInBounds_toArray, List.set_cons_zero, List.set_cons_succ]
                        refine wpAnyH_take (i := 16) (oi := ⟨some 231, .move (.tmp 16), _, _, _, _⟩) (v := ?_) rfl (by kernel_rfl) (by kernel_rfl) (by kernel_rfl) (fun _ _ _ h => h) (Or.inl ⟨by rfl, ?_⟩) (by assumption) ?_
                        rotate_left
                        · intro w' hSw
                          go_simp
                          try with_reducible rfl
                        try simp only [Act.put, List.setIfInBounds_toArray, List.set_cons_zero, List.set_cons_succ]
                        refine wpAnyH_take (i := 17) (oi := ⟨some 232, .move (.tmp 17), _, _, _, _⟩) (v := ?_) rfl (by kernel_rfl) (by kernel_rfl) (by kernel_rfl) (fun _ _ _ h => h) (Or.inl ⟨by rfl, ?_⟩) (by assumption) ?_
                        rotate_left
                        · intro w' hSw
                          go_simp
                          try with_reducible rfl
                        try simp only [Act.put, List.setIfInBounds_toArray, List.set_cons_zero, List.set_cons_succ]
                        refine wpAnyH_take (i := 18) (oi := ⟨some 233, .indexAddr 41 (.tmp 231) (.tmp 232), _, _, _, _⟩) (v := ?_) rfl (by kernel_rfl) (by kernel_rfl) (by kernel_rfl) (fun _ _ _ h => h) (Or.inl ⟨by rfl, ?_⟩) (by assumption) ?_
                        rotate_left
                        · intro w' hSw
                          go_simp
                          try with_reducible rfl
                        try simp only [Act.put, List.setIfInBounds_toArray, List.set_cons_zero, List.set_cons_succ]
                        refine wpAnyH_take (i := 19) (oi := ⟨some 234, .slice 32 (.tmp 233) none none none, _, _, _, _⟩) (v := ?_) rfl (by kernel_rfl) (by kernel_rfl) (by kernel_rfl) (fun _ _ _ h => h) (Or.inl ⟨by rfl, ?_⟩) (by assumption) ?_
                        rotate_left
                        · intro w' hSw
                          have hds := dig_slice kg (ko + k * 32) w'
                          go_simp
                          try with_reducible rfl
                        try simp only [Act.put, List.setIfInBounds_toArray, List.set_cons_zero, List.set_cons_succ]
                        refine wpAnyH_ready (rs := [20]) (by kernel_rfl) (by simp) ?_
                        refine AllReadyH.cons (o := ⟨some 235, .call ⟨.value (.func 18), #[.tmp 230, .tmp 234], #[27, 27]⟩, _, _, _, _⟩) rfl (fun K hK => ?_) AllReadyH.nil
                        go_simp
                        refine (cmp_any Y X _ _ 32 32 32 32 _ (dig_tx (fun j u hu => (hHeld.cell (block_lt_of_cell (RY.out j u hu))).trans (RY.out j u hu)) HYL.out) (dig_tx (fun j u hu => (hHeld.cell (block_lt_of_cell (RX.out j u hu))).trans (RX.out j u hu)) HXL.out) (by omega) (by omega)).mono ?_
                        rintro _ w235 ⟨rfl, b235⟩
                        rw [HCM.out]
                        have hS235 : Below wr.heap.size wr w235 := hHeld.trans (b235.mono hHeld.size)
                        try go_wp2_with fail
                        refine hK.out _ _ hS235 (fun hHeld => ?_)
                        clear hK K
                        try simp only [Act.put, List.setIfInBounds_toArray, List.set_cons_zero, List.set_cons_succ]
                        refine wpAnyH_take (i := 21) (oi := ⟨some 236, .binOp .geq 3 (.tmp 235) (.const (.int .i64 0)) 3, _, _, _, _⟩) (v := ?_) rfl (by kernel_rfl) (by kernel_rfl) (by kernel_rfl) (fun _ _ _ h => h) (Or.inl ⟨by rfl, ?_⟩) (by assumption) ?_
                        rotate_left
                        · intro w' hSw
                          go_simp
                          try with_reducible rfl
                        try simp only [Act.put, List.setIfInBounds_toArray, List.set_cons_zero, List.set_cons_succ]
                        refine wpAnyH_take (i := 22) (oi := ⟨some 237, .pick (.tmp 225) (.tmp 236) (.const (.bool false)), _, _, _, _⟩) (v := ?_) rfl (by kernel_rfl) (by kernel_rfl) (by kernel_rfl) (fun _ _ _ h => h) (Or.inl ⟨by rfl, ?_⟩) (by assumption) ?_
                        rotate_left
                        · intro w' hSw
                          go_simp
                          try with_reducible rfl
                        try simp only [Act.put, List.setIfInBounds_toArray, List.set_cons_zero, List.set_cons_succ]
                        refine wpAnyH_take (i := 23) (oi := ⟨some 238, .pick (.tmp 222) (.const (.bool true)) (.tmp 237), _, _, _, _⟩) (v := ?_) rfl (by kernel_rfl) (by kernel_rfl) (by kernel_rfl) (fun _ _ _ h => h) (Or.inl ⟨by rfl, ?_⟩) (by assumption) ?_
                        rotate_left
                        · intro w' hSw
                          go_simp
                          try with_reducible rfl
                        try simp only [Act.put, List.setIfInBounds_toArray, List.set_cons_zero, List.set_cons_succ]
                        refine wpAnyH_done (by kernel_rfl) ?_ _
                        try go_wp2_with fail
                        go_meet
                        exact ⟨rfl, hHeld⟩
                      case rest =>
                        obtain ⟨rfl, hbc⟩ := hcut
                        have P7 := Lib.hid (P6.out.later A hbc)
                        have DG7 := Lib.hid (DG6.out.later hbc)
                        clear hbc P6 DG6 RX RY
                        go_wp2_with fail
                        go_roundw
                        case rel => exact ⟨k + 1, by omega, by go_num, P7.out, DG7.out⟩
                        case measure => simp [intOf]; omega
                  · have l6 : ¬ (k : Int) < (m' : Nat) := by omega
                    go_wp2_with fail
                    go_roundw
                    case rel => exact ⟨i + 1, Q', s', L', m', by omega, by omega, by go_num, P6.out, hm'⟩
                    case measure => simp [intOf]; omega
      · have l2 : ¬ (i : Int) < 40 := by omega
        go_wp2_with fail
        go_ret
        exact ⟨rfl, P.out.st.low⟩
    · have l1 : ¬ (i : Int) < n := by omega
      go_wp2_with fail
      go_ret
      exact ⟨rfl, P.out.st.low⟩
end Go.Proofs.Ytlmbicelngpgoaa.Pg

/- Proved: whatever list of steps it is handed, the Go function indenturelaw09.PagePlays returns true (whatever is put, got and given up, each answer, and all sums, are the document's), and each argument reads afterwards as it read before. Conditions: none beyond the given row's own. -/
namespace Go.Proofs.Ytlmbicelngpgoaa
open Go.ChangeShapes Go.WideShapes Go.ChangeAt Go.RowKit Go.Deep

set_option maxRecDepth 100000 in
theorem pgplays_lifted (os : Os) (started : os.Started) (H : Type) (enc : TypeId × Value → H) :
    ReturnsInHanded {} Try.checked os 3 .any (Rows.pagePlaysSpec.pre6 enc Try.prog Try.f3 Rows.pagePlaysRow.domain false) (Rows.pagePlaysSpec.post enc Try.prog Try.f3 false true false false) := by
  refine returnsInHanded_of_change (C := Try.checked) gen_own started (by kernel_rfl) Try.func3
    (ChangeSpec.witness6 (enc := enc) (C := Try.checked) false ⟨#[], #[.slice none 0 0], []⟩ 8 (by kernel_rfl) (by kernel_rfl) (by kernel_rfl) (by kernel_rfl)) ?_
  intro W base args ds gs before hval0 hW _ _
  have hval : ∀ (j : Nat) t v, Try.f3.params[j]? = some t → args[j]? = some v → Value.okWide Try.prog W .any base t v := hval0
  have hW' := hW
  obtain ⟨p, q, hA0, hV, rfl, _, _⟩ := hW
  have hA : DataW.TrodAll enc Try.prog W 0 (fun _ => true) true Try.f3.params.toList args.toList ds p := hA0
  rw [Try.params3] at hA hval
  obtain ⟨v0, vs0, d0, ds0, p0, q0, hargs, rfl, rfl, h0, r0⟩ := trodAll_cons hA
  obtain ⟨rfl, rfl, rfl⟩ := trodAll_nil r0
  obtain rfl : args = #[v0] := by cases args; simp_all
  obtain ⟨rfl, rfl⟩ := trodVars_none hV
  obtain ⟨a0, len0, cap0, rfl⟩ := okWide_slice Try.underlying22 (hval 0 22 v0 rfl rfl)
  have k0 := h0
  have lt0 : ∀ x ∈ p0, x.block < W.heap.size := by obtain ⟨m, hm⟩ := k0; exact DataW.trod_lt m _ _ _ hm
  obtain ⟨⟨L0, hL0⟩, hl0⟩ : (∃ L, Pg.Ops W a0 len0 cap0 L) ∧ len0 ≤ 9223372036854775807 := by
    obtain ⟨fuel, hf⟩ := h0
    exact Pg.open_ops hf
  clear hA0 hval0
  refine (Pg.plays_any Pg.papi a0 len0 cap0 L0 W hL0 hl0).mono fun e W' ⟨he, bel⟩ => ?_
  subst he
  exact ⟨_, rfl, _, _, _, [], _, [], hW', trodAll_mk1 (shut_bool Try.underlying4 _),
    (trodAll_cons_mk (Below.trod gen_laidOut (by kernel_rfl) (of_decide_eq_true (by kernel_rfl)) k0 bel lt0) trodAll_mk0), rfl, bel.frame _, fun h => by cases h⟩
theorem pgplays_holds : Rows.PagePlaysSaid :=
  OpenClaim.holds_of_wide 3 Try.f3 rfl rfl rfl rfl rfl rfl rfl ⟨rfl, rfl, rfl, rfl, rfl⟩ rfl rfl rfl rfl rfl (by kernel_rfl) Try.func3 (by kernel_rfl)
    (of_decide_eq_true (by kernel_rfl)) (by unfold Func.isWrapper; first | (rw [if_pos (by decide +kernel)]; kernel_rfl) | (rw [if_neg (by decide +kernel)]; exact ⟨rfl, rfl⟩))
    (fun os started H enc _ => pgplays_lifted os started H enc)
end Go.Proofs.Ytlmbicelngpgoaa
