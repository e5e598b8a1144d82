/- box.bounds, box.Least, box.Beyond. -/
import Derived.Test.YthmloljnpjolmaaBoxKeys
namespace Go.Proofs.Ythmloljnpjolmaa
open Go.RowKit

/-- Whether a box is right, and the order for its dimensions. -/
def boundsB (kd cl : Int) (R S : List Int) (an n m : Nat) : Bool := rightB R S n m n && decide (ordP kd cl an n)
theorem boundsB_ord {kd cl : Int} {R S : List Int} {an n m : Nat} (h : boundsB kd cl R S an n m = true) : rightB R S n m n = true ∧ ordP kd cl an n := by
  unfold boundsB at h
  rw [Bool.and_eq_true, decide_eq_true_eq] at h
  exact h
/-- An order and a box that lie boxed. -/
structure OB (w0 w : World) (a b : Nat) (kd cl : Int) (q : Option Addr) (an ac : Nat) (A : List Int) (p r : Option Addr) (n c m e : Nat) (R S : List Int) : Prop where
  o : OrdIn w0 w a kd cl q an ac A
  b : BoxIn w b p r n c m e R S
theorem OB.later {w0 w w' : World} {a b : Nat} {kd cl : Int} {q : Option Addr} {an ac : Nat} {A : List Int} {p r : Option Addr} {n c m e : Nat} {R S : List Int} (h : OB w0 w a b kd cl q an ac A p r n c m e R S) (hb : Below w.heap.size w w') : OB w0 w' a b kd cl q an ac A p r n c m e R S :=
  ⟨h.o.later hb, h.b.later hb⟩
theorem ob_of {w : World} {kd cl : Int} {q : Option Addr} {an ac : Nat} {A : List Int} {p r : Option Addr} {n c m e : Nat} {R S : List Int} (hA : Ints w q an ac A) (hR : Ints w p n c R) (hS : Ints w r m e S) :
    ∀ w2, w2 = (w.alloc (.cells #[.int .u8 kd, .int .i64 cl, .slice q an ac] 34)).alloc (.cells #[.slice p n c, .slice r m e] 25) →
    OB w w2 w.heap.size (w.heap.size + 1) kd cl q an ac A p r n c m e R S ∧ w2.heap.size = w.heap.size + 1 + 1 := by
  rintro w2 rfl
  have ho := ord_in (kd := kd) (cl := cl) hA
  have hs : (w.alloc (.cells #[.int .u8 kd, .int .i64 cl, .slice q an ac] 34)).heap.size = w.heap.size + 1 := by simp
  generalize w.alloc (.cells #[.int .u8 kd, .int .i64 cl, .slice q an ac] 34) = w1 at *
  have hb2 : Below w1.heap.size w1 (w1.alloc (.cells #[.slice p n c, .slice r m e] 25)) := (Below.refl _ _).alloc (Nat.le_refl _) _
  have hx := Bx.fresh w1 (.slice p n c) (.slice r m e)
  rw [hs] at hx
  exact ⟨⟨ho.later hb2, hx, (hR.later ho.below).later hb2, (hS.later ho.below).later hb2⟩, by simp; omega⟩
set_option maxRecDepth 100000 in
set_option maxHeartbeats 4000000 in
theorem bounds_any (kd cl : Int) (q p r : Option Addr) (an ac n c m e : Nat) (A R S : List Int) (w : World) (hA : Ints w q an ac A) (hR : Ints w p n c R) (hS : Ints w r m e S) :
    Calls Try.prog 43 #[.agg #[.int .u8 kd, .int .i64 cl, .slice q an ac], .agg #[.slice p n c, .slice r m e]] w fun e w' => e = .returned (.bool (boundsB kd cl R S an n m)) ∧ Below w.heap.size w w' := by
  go_enter Try.func43, Try.ntmps43
  go_upto_region 1 with fail
  obtain ⟨w2, hw2⟩ : ∃ w2, w2 = (w.alloc (.cells #[.int .u8 kd, .int .i64 cl, .slice q an ac] 34)).alloc (.cells #[.slice p n c, .slice r m e] 25) := ⟨_, rfl⟩
  have HF := Lib.hid (ob_of hA hR hS w2 hw2).1
  rw [← hw2]
  clear hw2 hA hR hS
  obtain ⟨b0, b1, -, -⟩ := HF.out.b.bx.facts
  go_wp2_with fail
  refine (right_any p r n c m e R S n w2 HF.out.b.i1 HF.out.b.i2).mono ?_
  rintro _ w3 ⟨rfl, hb3⟩
  have HG := Lib.hid (HF.out.later hb3)
  clear hb3 HF b0 b1
  obtain ⟨b0, b1, -, -⟩ := HG.out.b.bx.facts
  obtain ⟨x0, x1, x2⟩ := HG.out.o.cells
  cases hr : rightB R S n m n with
  | false =>
    have HR := Lib.hid (show boundsB kd cl R S an n m = false by unfold boundsB; rw [hr]; rfl)
    clear hr
    go_wp2_with fail
    go_ret
    exact ⟨congrArg (fun b => Ending.returned (.bool b)) HR.out.symm, HG.out.o.below⟩
  | true =>
    have HR := Lib.hid (show boundsB kd cl R S an n m = decide (ordP kd cl an n) by unfold boundsB; rw [hr]; rfl)
    clear hr
    go_wp2_with fail
    refine (ordright_any kd cl n q an ac w3).mono ?_
    rintro _ w4 ⟨rfl, hb4⟩
    have HB := Lib.hid (HG.out.o.below.trans (hb4.mono HG.out.o.below.size))
    clear hb4
    go_wp2_with fail
    go_ret
    exact ⟨congrArg (fun b => Ending.returned (.bool b)) HR.out.symm, HB.out⟩
def lstK (kd cl : Int) (A R S : List Int) (an n m : Nat) : Int := if boundsB kd cl R S an n m = true then leastI kd cl A R S an n else 0
def lstId (kd cl : Int) (R S : List Int) (an n m : Nat) : Int := if boundsB kd cl R S an n m = true then R.getD 0 0 else 0
theorem ret_two3 {fn : Func} {P : Ending → World → Prop} (p u v : Tmp) (hr : fn.results = #[.cell p 37, .tmp u, .tmp v]) {tmps : Array Value} {w : World} (g : Nat) (a b x y : Value)
    (hp : tmps.getD p undef = .pointer (some ⟨g, 0, none⟩)) (hu : tmps.getD u undef = x) (hv : tmps.getD v undef = y) (hg : Two w g a b) (h : P (.returned (.tuple #[.agg #[a, b], x, y])) w) : bodyPost Try.prog fn P .ret ⟨tmps, []⟩ w := by
  obtain ⟨r0, r1, _, _⟩ := hg.facts
  refine bodyPost_ret (a := ⟨tmps, []⟩) (v := .tuple #[.agg #[a, b], x, y]) ?_ rfl h
  have hp' : tmps[p]?.getD undef = .pointer (some ⟨g, 0, none⟩) := by simpa using hp
  have hu' : tmps[u]?.getD undef = x := by simpa using hu
  have hv' : tmps[v]?.getD undef = y := by simpa using hv
  simp [results, hr, hp', hu', hv', go_sem, r0, r1]
set_option maxRecDepth 100000 in
set_option maxHeartbeats 4000000 in
theorem least_any (kd cl : Int) (q p r : Option Addr) (an ac n c m e : Nat) (A R S : List Int) (w : World) (hA : Ints w q an ac A) (hR : Ints w p n c R) (hS : Ints w r m e S) :
    Calls Try.prog 21 #[.agg #[.int .u8 kd, .int .i64 cl, .slice q an ac], .agg #[.slice p n c, .slice r m e]] w fun e w' => e = .returned (.tuple #[dV (lstK kd cl A R S an n m), .int .i64 (lstId kd cl R S an n m), .int .i64 (errOf (boundsB kd cl R S an n m))]) ∧ Below w.heap.size w w' := by
  obtain ⟨hi, lo, hd⟩ := dV_two (lstK kd cl A R S an n m)
  rw [hd]
  have HD := Lib.hid hd
  clear hd
  go_enter Try.func21, Try.ntmps21
  go_upto_region 1 with fail
  obtain ⟨w1, hw1⟩ : ∃ w2, w2 = (w.alloc (.cells #[.int .u8 kd, .int .i64 cl, .slice q an ac] 34)).alloc (.cells #[.slice p n c, .slice r m e] 25) := ⟨_, rfl⟩
  obtain ⟨hF, hsz⟩ := ob_of hA hR hS w1 hw1
  rw [← hw1]
  clear hw1 hA hR hS
  have t2 := zero_two w1
  have hb2 : Below w1.heap.size w1 (w1.alloc (.cells #[.int .u64 0, .int .u64 0] 37)) := (Below.refl _ _).alloc (Nat.le_refl _) _
  rw [hsz] at t2
  generalize w1.alloc (.cells #[.int .u64 0, .int .u64 0] 37) = w2 at *
  have HF := Lib.hid (hF.later hb2)
  have HT := Lib.hid t2
  clear hb2 hF hsz t2
  clear w1
  obtain ⟨b0, b1, -, -⟩ := HF.out.b.bx.facts
  obtain ⟨x0, x1, x2⟩ := HF.out.o.cells
  go_wp2_with fail
  refine (bounds_any kd cl q p r an ac n c m e A R S w2 HF.out.o.i HF.out.b.i1 HF.out.b.i2).mono ?_
  rintro _ w3 ⟨rfl, hb3⟩
  have HG := Lib.hid (HF.out.later hb3)
  have GT := Lib.hid (HT.out.later hb3 HT.out.lt)
  clear hb3 HF HT b0 b1 x0 x1 x2
  obtain ⟨b0, b1, -, -⟩ := HG.out.b.bx.facts
  obtain ⟨x0, x1, x2⟩ := HG.out.o.cells
  obtain ⟨y0, y1, z0, z1⟩ := GT.out.facts
  cases hr : boundsB kd cl R S an n m with
  | false =>
    have hk : lstK kd cl A R S an n m = 0 := by unfold lstK; rw [if_neg (by rw [hr]; simp)]
    have HI := Lib.hid (show lstId kd cl R S an n m = 0 by unfold lstId; rw [if_neg (by rw [hr]; simp)])
    have HE := Lib.hid (show errOf (boundsB kd cl R S an n m) = 1 by rw [hr]; rfl)
    rw [hk] at HD
    obtain ⟨rfl, rfl⟩ : (0 : Int) = hi ∧ (0 : Int) = lo := by have := HD.out; simpa [dV] using this
    clear hr hk
    go_wp2_with fail
    exact ret_two3 4 5 6 rfl (w.heap.size + 1 + 1) _ _ (.int .i64 0) (.int .i64 1) rfl rfl rfl (GT.out.set _ _) ⟨by rw [HI.out, HE.out], Two.below HG.out.o.below (by omega) _ _⟩
  | true =>
    have hk : lstK kd cl A R S an n m = leastI kd cl A R S an n := by unfold lstK; rw [if_pos hr]
    have HI := Lib.hid (show lstId kd cl R S an n m = R.getD 0 0 by unfold lstId; rw [if_pos hr])
    have HE := Lib.hid (show errOf (boundsB kd cl R S an n m) = 0 by rw [hr]; rfl)
    obtain ⟨hr1, ho⟩ := boundsB_ord hr
    obtain ⟨d1, d2, d3, d4⟩ := rightB_dims hr1
    obtain rfl : m = n := by omega
    rw [hk] at HD
    have hp := placeof_any kd cl q p r an ac m c e A R S w3 HG.out.o.i HG.out.b.i1 HG.out.b.i2 ho
    obtain ⟨id, hid⟩ : ∃ id, id = R.getD 0 0 := ⟨_, rfl⟩
    rw [plV_parts _ HD.out, ← hid] at hp
    rw [← hid] at HI
    have HP := Lib.hid hp
    clear hid
    clear hr hk hr1 ho d1 d2 d3 d4 hp
    go_wp2_with fail
    refine HP.out.mono ?_
    rintro _ w4 ⟨rfl, hb4⟩
    have HK := Lib.hid (HG.out.later hb4)
    have KT := Lib.hid (GT.out.later hb4 GT.out.lt)
    clear hb4 HG GT b0 b1 x0 x1 x2 y0 y1 z0 z1 HP
    clear w3
    go_upto_region 4 with fail
    have t5 := Tri.fresh w4 (.int .u64 hi) (.int .u64 lo) (.int .i64 id)
    have b5 : Below w4.heap.size w4 (w4.alloc (.cells #[.int .u64 hi, .int .u64 lo, .int .i64 id] 66)) := (Below.refl _ _).alloc (Nat.le_refl _) _
    generalize w4.alloc (.cells #[.int .u64 hi, .int .u64 lo, .int .i64 id] 66) = w5 at *
    have LT := Lib.hid (KT.out.later b5 KT.out.lt)
    have LB := Lib.hid (HK.out.o.below.trans (b5.mono HK.out.o.below.size))
    have TT := Lib.hid t5
    clear b5 t5 KT HK
    generalize w4.heap.size = g5 at *
    clear w4
    obtain ⟨y0, y1, z0, z1⟩ := LT.out.facts
    obtain ⟨u0, u1, u2, -⟩ := TT.out.facts
    go_region
    all_goals
      go_wp2_with fail
      exact ret_two3 4 5 6 rfl (w.heap.size + 1 + 1) _ _ (.int .i64 id) (.int .i64 0) rfl rfl rfl (LT.out.set _ _) ⟨by rw [HI.out, HE.out], Below.drew (Two.below LB.out (by omega) _ _)⟩
/-- Whether all rows of a box are surely behind a row. -/
def beyP (kd cl : Int) (A R S P : List Int) (an n m l : Nat) : Prop :=
  boundsB kd cl R S an n m = true ∧ l = n ∧ (keyI kd cl A P an n < leastI kd cl A R S an n ∨ keyI kd cl A P an n = leastI kd cl A R S an n ∧ P.getD 0 0 < R.getD 0 0)
instance (kd cl : Int) (A R S P : List Int) (an n m l : Nat) : Decidable (beyP kd cl A R S P an n m l) := by unfold beyP; infer_instance
theorem least_bound (kd cl : Int) (A R S : List Int) (an n : Nat) (hA : ∀ x ∈ A, -9223372036854775808 ≤ x ∧ x ≤ 9223372036854775807) (hR : ∀ x ∈ R, -9223372036854775808 ≤ x ∧ x ≤ 9223372036854775807) (hS : ∀ x ∈ S, -9223372036854775808 ≤ x ∧ x ≤ 9223372036854775807) :
    0 ≤ leastI kd cl A R S an n ∧ leastI kd cl A R S an n < 340282366920938463463374607431768211456 := by
  have hc := getD_ok hR cl.toNat
  have hc2 := getD_ok hS cl.toNat
  unfold leastI
  split
  · unfold tbx
    split
    · rename_i hok
      have hap : ∀ k, k < an → 0 ≤ gap (A.getD k 0) ((R.drop 1).getD k 0) ((S.drop 1).getD k 0) ∧ gap (A.getD k 0) ((R.drop 1).getD k 0) ((S.drop 1).getD k 0) < 18446744073709551616 := fun k _ =>
        gap_word (getD_ok hA k) (getD_ok (fun x hx => hR x (List.mem_of_mem_drop hx)) k) (getD_ok (fun x hx => hS x (List.mem_of_mem_drop hx)) k)
      have h1 := tot_nonneg _ an (fun k hk => (hap k hk).1)
      have h2 := tot_lt _ an (fun k hk => (hap k hk).2)
      have h3 : an ≤ 8 := hok.1.2.1
      omega
    · omega
  · split <;> omega
set_option maxRecDepth 100000 in
set_option maxHeartbeats 4000000 in
theorem beyond_any (kd cl : Int) (q p r s : Option Addr) (an ac n c m e l f : Nat) (A R S P : List Int) (w : World) (hA : Ints w q an ac A) (hR : Ints w p n c R) (hS : Ints w r m e S) (hP : Ints w s l f P) :
    Calls Try.prog 22 #[.agg #[.int .u8 kd, .int .i64 cl, .slice q an ac], .agg #[.slice p n c, .slice r m e], .slice s l f] w fun e w' => e = .returned (.bool (decide (beyP kd cl A R S P an n m l))) ∧ Below w.heap.size w w' := by
  have HK1 := Lib.hid (key_bound kd cl A P an n hA.ok hP.ok)
  have HK2 := Lib.hid (least_bound kd cl A R S an n hA.ok hR.ok hS.ok)
  go_enter Try.func22, Try.ntmps22
  go_upto_region 1 with fail
  obtain ⟨w1, hw1⟩ : ∃ w2, w2 = (w.alloc (.cells #[.int .u8 kd, .int .i64 cl, .slice q an ac] 34)).alloc (.cells #[.slice p n c, .slice r m e] 25) := ⟨_, rfl⟩
  obtain ⟨hF, hsz⟩ := ob_of hA hR hS w1 hw1
  rw [← hw1]
  have HP := Lib.hid (hP.later hF.o.below)
  have HF := Lib.hid hF
  clear hw1 hA hR hS hF hsz hP
  obtain ⟨b0, b1, -, -⟩ := HF.out.b.bx.facts
  obtain ⟨x0, x1, x2⟩ := HF.out.o.cells
  go_wp2_with fail
  refine (bounds_any kd cl q p r an ac n c m e A R S w1 HF.out.o.i HF.out.b.i1 HF.out.b.i2).mono ?_
  rintro _ w2 ⟨rfl, hb2⟩
  have HG := Lib.hid (HF.out.later hb2)
  have GP := Lib.hid (HP.out.later hb2)
  clear hb2 HF HP b0 b1 x0 x1 x2
  clear w1
  obtain ⟨b0, b1, -, -⟩ := HG.out.b.bx.facts
  obtain ⟨x0, x1, x2⟩ := HG.out.o.cells
  cases hr : boundsB kd cl R S an n m with
  | false =>
    have HN := Lib.hid (show ¬ beyP kd cl A R S P an n m l from fun h => absurd h.1 (by rw [hr]; simp))
    clear hr
    go_wp2_with fail
    go_ret
    exact ⟨ret_ndec HN.out, HG.out.o.below⟩
  | true =>
  by_cases hl : (l : Int) = n
  case neg =>
    have q1 : ((l : Int) != n) = true := by simpa using hl
    have HN := Lib.hid (show ¬ beyP kd cl A R S P an n m l from fun h => hl (by have := h.2.1; omega))
    clear hr hl
    go_wp2_with fail
    go_ret
    exact ⟨ret_ndec HN.out, HG.out.o.below⟩
  obtain rfl : l = n := by omega
  obtain ⟨hr1, ho⟩ := boundsB_ord hr
  obtain ⟨d1, d2, d3, d4⟩ := rightB_dims hr1
  obtain rfl : m = l := by omega
  obtain ⟨a1, c1, hd1, hk1, hb1, hb1'⟩ := dV_parts _ HK1.out
  obtain ⟨a2, c2, hd2, hk2, hb2, hb2'⟩ := dV_parts _ HK2.out
  have hp1 := fun w' (hb : Below w2.heap.size w2 w') => placeof_any kd cl q s s an ac m f f A P P w' (HG.out.o.i.later hb) (GP.out.later hb) (GP.out.later hb) ho
  have hp2 := fun w' (hb : Below w2.heap.size w2 w') => placeof_any kd cl q p r an ac m c e A R S w' (HG.out.o.i.later hb) (HG.out.b.i1.later hb) (HG.out.b.i2.later hb) ho
  rw [least_key ho, plV_parts _ hd1] at hp1
  rw [plV_parts _ hd2] at hp2
  have HR := Lib.hid (show pcmp a1 c1 (P.getD 0 0) a2 c2 (R.getD 0 0) < 0 ↔ beyP kd cl A R S P an m m m from by
    rw [pcmp_neg hk1 hk2 ⟨hb1, hb1'⟩ ⟨hb2, hb2'⟩]
    exact ⟨fun h => ⟨hr, rfl, h⟩, fun h => h.2.2⟩)
  have hcm := fun w' => compare_any a1 c1 (P.getD 0 0) a2 c2 (R.getD 0 0) w'
  generalize P.getD 0 0 = i at *
  generalize R.getD 0 0 = j at *
  obtain ⟨z, hz⟩ : ∃ z, z = pcmp a1 c1 i a2 c2 j := ⟨_, rfl⟩
  rw [← hz] at HR hcm
  have HC := Lib.hid (show ∀ w', Below w2.heap.size w2 w' → Calls Try.prog 42 #[.agg #[.int .u64 a1, .int .u64 c1, .int .i64 i], .agg #[.int .u64 a2, .int .u64 c2, .int .i64 j]] w' fun e w'' => e = .returned (.int .i64 z) ∧ Below w2.heap.size w2 w'' from fun w' hb => (hcm w').mono fun e w'' h => ⟨h.1, hb.trans (h.2.mono hb.size)⟩)
  have H1 := Lib.hid (show ∀ w', Below w2.heap.size w2 w' → Calls Try.prog 41 #[.agg #[.int .u8 kd, .int .i64 cl, .slice q an ac], .slice s m f, .slice s m f] w' fun e w'' => e = .returned (.agg #[.int .u64 a1, .int .u64 c1, .int .i64 i]) ∧ Below w2.heap.size w2 w'' from fun w' hb => (hp1 w' hb).mono fun e w'' h => ⟨h.1, hb.trans (h.2.mono hb.size)⟩)
  have H2 := Lib.hid (show ∀ w', Below w2.heap.size w2 w' → Calls Try.prog 41 #[.agg #[.int .u8 kd, .int .i64 cl, .slice q an ac], .slice p m c, .slice r m e] w' fun e w'' => e = .returned (.agg #[.int .u64 a2, .int .u64 c2, .int .i64 j]) ∧ Below w2.heap.size w2 w'' from fun w' hb => (hp2 w' hb).mono fun e w'' h => ⟨h.1, hb.trans (h.2.mono hb.size)⟩)
  have HF := Lib.hid (show ∀ w', Below w2.heap.size w2 w' → (Below w2.heap.size w2 w' ∧ w'.cell? ⟨w.heap.size, 0, none⟩ = some (.int .u8 kd) ∧ w'.cell? ⟨w.heap.size, 1, none⟩ = some (.int .i64 cl) ∧ w'.cell? ⟨w.heap.size, 2, none⟩ = some (.slice q an ac) ∧ w'.cell? ⟨w.heap.size + 1, 0, none⟩ = some (.slice p m c) ∧ w'.cell? ⟨w.heap.size + 1, 1, none⟩ = some (.slice r m e)) from fun w' hb => ⟨hb, (HG.out.later hb).o.cells.1, (HG.out.later hb).o.cells.2.1, (HG.out.later hb).o.cells.2.2, (HG.out.later hb).b.bx.facts.1, (HG.out.later hb).b.bx.facts.2.1⟩)
  have q1 : ((m : Int) != m) = false := by simp
  clear ho hl hr hr1 hz hcm hp1 hp2 hd1 hd2 hk1 hk2 hb1 hb1' hb2 hb2' HK1 HK2 d1 d2 d3 d4
  go_upto_region 3 with fail
  go_region_held3 (fun w' => Below w2.heap.size w2 w' ∧ w'.cell? ⟨w.heap.size, 0, none⟩ = some (.int .u8 kd) ∧ w'.cell? ⟨w.heap.size, 1, none⟩ = some (.int .i64 cl) ∧ w'.cell? ⟨w.heap.size, 2, none⟩ = some (.slice q an ac) ∧ w'.cell? ⟨w.heap.size + 1, 0, none⟩ = some (.slice p m c) ∧ w'.cell? ⟨w.heap.size + 1, 1, none⟩ = some (.slice r m e)) (first | assumption | exact HF.out _ (Below.drew (Below.refl _ _)) | exact HF.out _ (Below.refl _ _)) ((first
    | (go_at_call 41; (with_reducible refine (H1.out _ ?hx1).mono ?_); (case hx1 => first | assumption | exact (Below.refl _ _).drew | exact Below.refl _ _); rintro _ w5 ⟨rfl, hb5⟩; have k5 := HF.out _ hb5)
    | (go_at_call 41; (with_reducible refine (H2.out _ ?hx2).mono ?_); (case hx2 => first | assumption | exact (Below.refl _ _).drew | exact Below.refl _ _); rintro _ w6 ⟨rfl, hb6⟩; have k6 := HF.out _ hb6)
    | (go_at_call 42; (with_reducible refine (HC.out _ ?hx3).mono ?_); (case hx3 => first | assumption | exact (Below.refl _ _).drew | exact Below.refl _ _); rintro _ w7 ⟨rfl, hb7⟩; have k7 := HF.out _ hb7)))
  all_goals
    go_wp2_with fail
    go_ret
    exact ⟨ret_decB (by rw [decide_eq_true_eq]; exact HR.out), HG.out.o.below.trans (hb7.mono HG.out.o.below.size)⟩
end Go.Proofs.Ythmloljnpjolmaa
