/- indentureref03.Text. -/
import Derived.Test.YtfkemphkhfhabaaDist9
namespace Go.Proofs.Ytfkemphkhfhabaa
open Go.RowKit

/-- Words in a block. -/
def Wd (w : World) (g : Nat) (n : Nat) (f : Nat → Nat) (C : Array Value) : Prop := w.heap[g]? = some (.cells C 23 (0, 0)) ∧ n ≤ C.size ∧ ∀ i, i < n → C[i]? = some (.int .u64 (f i : Nat))
theorem Wd.set {w : World} {g n : Nat} {f : Nat → Nat} {C : Array Value} (h : Wd w g n f C) (k x : Nat) : Wd (w.setCell ⟨g, k, none⟩ (.int .u64 (x : Nat))) g n (fun i => if i = k then x else f i) (C.setIfInBounds k (.int .u64 (x : Nat))) := by
  obtain ⟨h1, h2, h3⟩ := h
  refine ⟨heap_setCell_same w g k _ _ _ h1, by simpa using h2, fun i hi => ?_⟩
  rw [Array.getElem?_setIfInBounds]
  by_cases e : k = i
  · subst e
    rw [if_pos rfl, if_pos (by omega)]
    simp
  · rw [if_neg e, h3 i hi]
    simp [Ne.symm e]
theorem Wd.cell {w : World} {g n : Nat} {f : Nat → Nat} {C : Array Value} (h : Wd w g n f C) (k : Nat) (hk : k < n) : w.cell? ⟨g, k, none⟩ = some (.int .u64 (f k : Nat)) := by
  rw [cell_of_row w g k _ _ _ h.1]; exact h.2.2 k hk
theorem Wd.free {w : World} {g n : Nat} {f : Nat → Nat} {C : Array Value} (h : Wd w g n f C) (k : Nat) : w.frozen? ⟨g, k, none⟩ = false := frozen_of_row w g _ _ _ h.1
theorem Wd.ext {w : World} {g n : Nat} {f f' : Nat → Nat} {C : Array Value} (h : Wd w g n f C) (hf : ∀ i, i < n → f i = f' i) : Wd w g n f' C :=
  ⟨h.1, h.2.1, fun i hi => by rw [h.2.2 i hi, hf i hi]⟩
theorem Wd.later {w w' : World} {g n : Nat} {f : Nat → Nat} {C : Array Value} (h : Wd w g n f C) {m : Nat} (hb : Below m w w') (hg : g < m) : Wd w' g n f C := ⟨(hb.block _ hg).trans h.1, h.2⟩
theorem Wd.lt {w : World} {g n : Nat} {f : Nat → Nat} {C : Array Value} (h : Wd w g n f C) : g < w.heap.size := (Array.getElem?_eq_some_iff.1 h.1).1
/-- Long division by 10, limb by limb. -/
def lrem (a : Nat → Nat) : Nat → Nat
  | 0 => 0
  | i + 1 => (4294967296 * lrem a i + a i) % 10
def lquo (a : Nat → Nat) (i : Nat) : Nat := (4294967296 * lrem a i + a i) / 10
def lsome (a : Nat → Nat) : Nat → Bool
  | 0 => false
  | i + 1 => lsome a i || decide (0 < lquo a i)
theorem lrem_lt (a : Nat → Nat) (i : Nat) : lrem a i < 10 := by
  cases i with
  | zero => exact Nat.zero_lt_succ 9
  | succ i => exact Nat.mod_lt _ (by decide)
def limbs (a : Nat → Nat) : Nat := a 0 * 79228162514264337593543950336 + a 1 * 18446744073709551616 + a 2 * 4294967296 + a 3
theorem long_div (a : Nat → Nat) : limbs a / 10 = limbs (lquo a) ∧ limbs a % 10 = lrem a 4 := by
  have h0 : lquo a 0 = a 0 / 10 := by simp [lquo, lrem]
  have r1 : lrem a 1 = a 0 % 10 := by simp [lrem]
  have h1 : lquo a 1 = (4294967296 * lrem a 1 + a 1) / 10 := rfl
  have r2 : lrem a 2 = (4294967296 * lrem a 1 + a 1) % 10 := rfl
  have h2 : lquo a 2 = (4294967296 * lrem a 2 + a 2) / 10 := rfl
  have r3 : lrem a 3 = (4294967296 * lrem a 2 + a 2) % 10 := rfl
  have h3 : lquo a 3 = (4294967296 * lrem a 3 + a 3) / 10 := rfl
  have r4 : lrem a 4 = (4294967296 * lrem a 3 + a 3) % 10 := rfl
  unfold limbs
  generalize lquo a 0 = q0 at *
  generalize lquo a 1 = q1 at *
  generalize lquo a 2 = q2 at *
  generalize lquo a 3 = q3 at *
  generalize lrem a 1 = s1 at *
  generalize lrem a 2 = s2 at *
  generalize lrem a 3 = s3 at *
  generalize lrem a 4 = s4 at *
  generalize a 0 = a0 at *
  generalize a 1 = a1 at *
  generalize a 2 = a2 at *
  generalize a 3 = a3 at *
  have e0 : a0 = 10 * q0 + s1 := by omega
  have e1 : 4294967296 * s1 + a1 = 10 * q1 + s2 := by omega
  have e2 : 4294967296 * s2 + a2 = 10 * q2 + s3 := by omega
  have e3 : 4294967296 * s3 + a3 = 10 * q3 + s4 := by omega
  have l4 : s4 < 10 := by omega
  clear h0 r1 h1 r2 h2 r3 h3 r4
  omega
theorem lsome_iff (a : Nat → Nat) : lsome a 4 = true ↔ limbs (lquo a) ≠ 0 := by
  simp only [lsome, limbs, Bool.false_or, Bool.or_eq_true, decide_eq_true_eq]
  omega
theorem lquo_lt (a : Nat → Nat) (i : Nat) (h : a i < 4294967296) : lquo a i < 4294967296 := by
  have := lrem_lt a i
  unfold lquo
  omega
def a4 (x0 x1 x2 x3 : Nat) (i : Nat) : Nat := match i with
  | 0 => x0
  | 1 => x1
  | 2 => x2
  | _ => x3
def strLen : Value → Nat
  | .string b => b.size
  | _ => 0
def InRel (w : World) (g : Nat) (a : Nat → Nat) (l s i : Value) (wr : World) : Prop :=
  ∃ (k : Nat) (C : Array Value), k ≤ 4 ∧ i = .int .i64 k ∧ l = .int .u64 (lrem a k : Nat) ∧ s = .bool (lsome a k) ∧ Wd wr g 4 (fun i => if i < k then lquo a i else a i) C ∧ Below g w wr ∧ w.heap.size ≤ wr.heap.size
structure OutR (w : World) (N : Nat) (v : Value) (a : Nat → Nat) (S : List Nat) (C : Array Value) (wr : World) : Prop where
  str : v = .string (strOf S)
  told : decs N = decs (limbs a) ++ S
  ok : Sm.allB S
  small : ∀ i, i < 4 → a i < 4294967296
  few : limbs a < 10 ^ (39 - S.length)
  go : S.length = 0 ∨ limbs a ≠ 0
  wd : Wd wr (w.heap.size + 1) 4 a C
  below : Below w.heap.size w wr
def OutRel (w : World) (N : Nat) (v : Value) (wr : World) : Prop := ∃ a S C, OutR w N v a S C wr
theorem strOf_cons (d : Nat) (S : List Nat) : strOf [d] ++ strOf S = strOf (d :: S) := by
  apply ByteArray.ext
  rw [ByteArray.data_append]
  unfold strOf
  apply Array.ext'
  rw [Array.toList_append, strOfNums_data, strOfNums_data, strOfNums_data]
  rfl
set_option maxRecDepth 100000 in
set_option maxHeartbeats 1000000 in
theorem reftext_any (N : Nat) (hN : N < 340282366920938463463374607431768211456) (w : World) :
    Calls Try.prog 23 #[dV N] w fun e w' => e = .returned (.string (strOf (decs N))) ∧ Below w.heap.size w w' := by
  obtain ⟨hi, hhi⟩ : ∃ hi : Nat, hi = N / 18446744073709551616 := ⟨_, rfl⟩
  obtain ⟨lo, hlo⟩ : ∃ lo : Nat, lo = N % 18446744073709551616 := ⟨_, rfl⟩
  have b0 : hi < 18446744073709551616 := by omega
  have b1 : lo < 18446744073709551616 := by omega
  have hd : dV (N : Nat) = .agg #[.int .u64 hi, .int .u64 lo] := by
    unfold dV
    congr 5 <;> omega
  rw [hd]
  have HHI := Lib.hid hhi
  have HLO := Lib.hid hlo
  clear hhi hlo hd
  obtain ⟨x0, hx0⟩ : ∃ x : Nat, (hi : Int) / 4294967296 = x := ⟨hi / 4294967296, by omega⟩
  obtain ⟨x1, hx1⟩ : ∃ x : Nat, (hi : Int) % 4294967296 = x := ⟨hi % 4294967296, by omega⟩
  obtain ⟨x2, hx2⟩ : ∃ x : Nat, (lo : Int) / 4294967296 = x := ⟨lo / 4294967296, by omega⟩
  obtain ⟨x3, hx3⟩ : ∃ x : Nat, (lo : Int) % 4294967296 = x := ⟨lo % 4294967296, by omega⟩
  go_enter Try.func23, Try.ntmps23
  go_wp2_with fail
  have hR0 : OutR w N (.string ⟨#[]⟩) (a4 x0 x1 x2 x3) [] #[.int .u64 x0, .int .u64 x1, .int .u64 x2, .int .u64 x3] ((w.alloc (.cells #[.int .u64 hi, .int .u64 lo] 25)).alloc (.cells #[.int .u64 x0, .int .u64 x1, .int .u64 x2, .int .u64 x3] 23)) := by
    have hl : limbs (a4 x0 x1 x2 x3) = N := by
      show x0 * 79228162514264337593543950336 + x1 * 18446744073709551616 + x2 * 4294967296 + x3 = N
      have := HHI.out; have := HLO.out; omega
    refine ⟨rfl, by rw [hl, List.append_nil], fun x hx => by simp at hx, ?_, by rw [hl]; simp; omega, Or.inl rfl, ⟨?_, Nat.le_refl _, ?_⟩, ((Below.refl _ _).alloc (Nat.le_refl _) _).alloc (by simp) _⟩
    · intro i hi
      match i, hi with
      | 0, _ => show x0 < _; omega
      | 1, _ => show x1 < _; omega
      | 2, _ => show x2 < _; omega
      | 3, _ => show x3 < _; omega
    · have := heap_alloc_new (w.alloc (.cells #[.int .u64 hi, .int .u64 lo] 25)) (.cells #[.int .u64 x0, .int .u64 x1, .int .u64 x2, .int .u64 x3] 23)
      rw [show (w.alloc (.cells #[.int .u64 hi, .int .u64 lo] 25)).heap.size = w.heap.size + 1 from by simp] at this
      exact this
    · intro i hi
      match i, hi with
      | 0, _ => rfl
      | 1, _ => rfl
      | 2, _ => rfl
      | 3, _ => rfl
  generalize (w.alloc (.cells #[.int .u64 hi, .int .u64 lo] 25)).alloc (.cells #[.int .u64 x0, .int .u64 x1, .int .u64 x2, .int .u64 x3] 23) = w0 at *
  have HR0 := Lib.hid hR0
  clear hR0 hx0 hx1 hx2 hx3
  go_loopw [4] (fun v wr => OutRel w N v wr) (fun v _ => 40 - strLen v)
  case atStart => exact ⟨_, _, _, HR0.out⟩
  case round =>
    obtain ⟨a, S, C, hR⟩ := hrel
    obtain rfl := hR.str
    have HR := Lib.hid hR
    clear hR HR0
    go_wp2_with fail
    go_loopw [5, 6, 7] (fun l s i wx => InRel wr (w.heap.size + 1) a l s i wx) (fun _ _ i _ => 4 - (intOf i).toNat)
    case atStart => exact ⟨0, C, by omega, rfl, rfl, rfl, HR.out.wd.ext fun i _ => by rw [if_neg (by omega)], Below.refl _ _, Nat.le_refl _⟩
    case round =>
      obtain ⟨k, D, hk, rfl, rfl, rfl, h1, h2, h3⟩ := hrel
      have H1 := Lib.hid h1
      have H2 := Lib.hid h2
      have H3 := Lib.hid h3
      clear h1 h2 h3
      by_cases hlt : k < 4
      · have b1 : (0 : Int) ≤ k ∧ (k : Int) < 4 := by omega
        have hr10 := lrem_lt a k
        have hak := HR.out.small k hlt
        have hq := lquo_lt a k hak
        have c0 := H1.out.cell k hlt
        rw [if_neg (Nat.lt_irrefl k)] at c0
        have d0 := H1.out.free k
        have hS := H1.out.set k (lquo a k)
        have HS := Lib.hid (hS.ext (f' := fun i => if i < k + 1 then lquo a i else a i) fun i _ => by
          by_cases e : i = k
          · rw [if_pos e, if_pos (by omega), e]
          · rw [if_neg e]
            by_cases e2 : i < k
            · rw [if_pos e2, if_pos (by omega)]
            · rw [if_neg e2, if_neg (by omega)])
        have HB := Lib.hid (H2.out.setCell (p := ⟨w.heap.size + 1, k, none⟩) (Nat.le_refl _) (.int .u64 (lquo a k : Nat)))
        have hsome : lsome a (k + 1) = (lsome a k || decide (0 < lquo a k)) := rfl
        have hrem : lrem a (k + 1) = (4294967296 * lrem a k + a k) % 10 := rfl
        have hquo : lquo a k = (4294967296 * lrem a k + a k) / 10 := rfl
        obtain ⟨x, hx⟩ : ∃ x, x = 4294967296 * lrem a k + a k := ⟨_, rfl⟩
        rw [← hx] at hrem hquo
        have hxi : (4294967296 : Int) * (lrem a k : Nat) + (a k : Nat) = (x : Nat) := by omega
        have hqi : (x : Int) / 10 = (lquo a k : Nat) := by omega
        have hri : (x : Int) % 10 = (lrem a (k + 1) : Nat) := by omega
        have HSO := Lib.hid hsome
        clear hS hsome hrem hquo hx
        obtain ⟨r', hr'⟩ : ∃ r', r' = lrem a (k + 1) := ⟨_, rfl⟩
        rw [← hr'] at hri
        have HRR := Lib.hid hr'
        clear hr'
        obtain ⟨r, hrr⟩ : ∃ r, r = lrem a k := ⟨_, rfl⟩
        rw [← hrr] at hxi hr10 ⊢
        clear hrr
        generalize a k = y at *
        generalize lquo a k = q at *
        obtain ⟨b', hbb⟩ : ∃ b', b' = lsome a (k + 1) := ⟨_, rfl⟩
        have HBB := Lib.hid hbb
        have HSO := Lib.hid (hbb.trans HSO.out)
        have HRI := Lib.hid hri
        clear hbb
        cases hb : lsome a k with
        | true =>
          have hb' : b' = true := by rw [HSO.out, hb]; rfl
          subst hb'
          clear hb
          go_wp2_with fail
          go_roundw
          case rel => exact ⟨k + 1, _, by omega, by go_num, by rw [HRI.out, HRR.out], by rw [← HBB.out], HS.out, HB.out, by simpa using H3.out⟩
          case measure => simp [intOf]; omega
        | false =>
          by_cases hq0 : 0 < q
          · have hb' : b' = true := by rw [HSO.out, hb]; simp [hq0]
            subst hb'
            have hq1 : (0 : Int) < (q : Nat) := by omega
            clear hb
            go_wp2_with fail
            go_roundw
            case rel => exact ⟨k + 1, _, by omega, by go_num, by rw [HRI.out, HRR.out], by rw [← HBB.out], HS.out, HB.out, by simpa using H3.out⟩
            case measure => simp [intOf]; omega
          · have hb' : b' = false := by rw [HSO.out, hb]; simp [hq0]
            subst hb'
            obtain rfl : q = 0 := by omega
            clear hb
            go_wp2_with fail
            go_roundw
            case rel => exact ⟨k + 1, _, by omega, by go_num, by rw [HRI.out, HRR.out], by rw [← HBB.out], HS.out, HB.out, by simpa using H3.out⟩
            case measure => simp [intOf]; omega
      · obtain rfl : k = 4 := by omega
        have hlen : S.length < 39 := by
          rcases HR.out.go with h | h
          · omega
          · exact (pow_le HR.out.few (Or.inr h)).1
        have hlr := lrem_lt a 4
        have hdiv := Lib.hid (long_div a)
        obtain ⟨m, hm⟩ : ∃ m, m = lrem a 4 := ⟨_, rfl⟩
        rw [← hm] at hlr ⊢
        obtain ⟨d, hd⟩ : ∃ d : Nat, (48 : Int) + (m : Nat) = d := ⟨48 + m, by omega⟩
        have d256 : d < 58 := by omega
        have e8 : IntKind.u8.wrap ((48 : Int) + (m : Nat)) = (d : Nat) := by rw [IntKind.wrap_u8]; omega
        have HM := Lib.hid hm
        have HD := Lib.hid hd
        have hT : Tx (wr.alloc (.cells (u8s [d]) 5)) (some ⟨wr.heap.size, 0, none⟩) 1 1 [d] := (Bytes.row (L := [d]) (heap_alloc_new wr _) (by intro x hx; simp at hx; omega)).tx
        have hcv : (convert 54 9 (.slice (some ⟨wr.heap.size, 0, none⟩) 1 1)).run Try.prog (wr.alloc (.cells #[.int .u8 (d : Nat)] 5)) = .ok (.string (strOf [d])) (wr.alloc (.cells #[.int .u8 (d : Nat)] 5)) := convert_tx hT
        have s1 : (strOf [d]).size = 1 := strOf_size _
        have s2 : (strOf S).size = S.length := strOf_size _
        have hba : Below wr.heap.size wr (wr.alloc (.cells (u8s [d]) 5)) := (Below.refl _ _).alloc (Nat.le_refl _) _
        have hwd : Wd wr (w.heap.size + 1) 4 (lquo a) D := H1.out.ext fun i hi => by rw [if_pos hi]
        have HWD := Lib.hid (hwd.later hba hwd.lt)
        have HBW := Lib.hid (HR.out.below.trans ((H2.out.mono (by omega)).trans (hba.mono (by have := H2.out.size; have := H3.out; have := HR.out.below.size; omega))))
        clear hT hm hba hwd H1 H2 H3
        cases hb : lsome a 4 with
        | false =>
          have HBF := Lib.hid hb
          clear hb
          go_wp2_with fail
          go_ret
          refine ⟨?_, HBW.out⟩
          have hM : limbs a / 10 = 0 := by
            rw [hdiv.out.1]
            exact Classical.byContradiction fun h => by
              have := (lsome_iff a).2 h
              rw [HBF.out] at this
              cases this
          have e : decs N = d :: S := by
            rw [HR.out.told, decs, if_pos (by omega)]
            have := hdiv.out.2
            have := HM.out
            have := HD.out
            rw [show 48 + limbs a % 10 = d from by omega]
            rfl
          rw [e, ← strOf_cons]
          rfl
        | true =>
          have HBT := Lib.hid hb
          clear hb
          go_wp2_with fail
          have hM : limbs a / 10 ≠ 0 := by
            rw [hdiv.out.1]
            exact (lsome_iff a).1 HBT.out
          have hed : d = 48 + limbs a % 10 := by have := hdiv.out.2; have := HM.out; have := HD.out; omega
          have hpl := pow_le HR.out.few HR.out.go
          have hq4 : ∀ i, i < 4 → lquo a i < 4294967296 := fun i hi => lquo_lt a i (HR.out.small i hi)
          refine ⟨⟨lquo a, d :: S, D, ⟨by rw [strOf_cons], ?_, fun x hx => ?_, hq4, ?_, Or.inr ?_, HWD.out, HBW.out⟩⟩, ?_⟩
          · rw [HR.out.told, decs, if_neg (by omega), hdiv.out.1, hed, List.append_assoc]
            rfl
          · rcases List.mem_cons.1 hx with rfl | hx
            · omega
            · exact HR.out.ok x hx
          · rw [← hdiv.out.1]
            exact hpl.2
          · rw [← hdiv.out.1]
            exact hM
          · rw [strOf_cons]
            show 40 - (strOf (d :: S)).size < 40 - (strOf S).size
            rw [strOf_size, strOf_size, List.length_cons]
            omega
end Go.Proofs.Ytfkemphkhfhabaa
