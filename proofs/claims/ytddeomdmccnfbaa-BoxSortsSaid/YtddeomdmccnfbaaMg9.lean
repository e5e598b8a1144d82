/- BoxLeastFn, BoxMath, BoxLeastMath, BoxNear, BoxClone, BoxSortGo, BoxTie. -/
import Derived.Test.YtddeomdmccnfbaaMg8
import Derived.Lib.MinMax
import Derived.Laws.OwnMore
import Derived.Lib.SliceRun
import Derived.Sort.LotA
/- box.bounds, box.Least, box.Beyond. -/
namespace Go.Proofs.Ytddeomdmccnfbaa
open Go.RowKit

/-- Whether a box is right, and the order for its dimensions. -/
def boundsB (kd cl : Int) (R S : List Int) (an n m : Nat) : Bool := rightB R S n m n && decide (ordP kd cl an n)
theorem boundsB_ord {kd cl : Int} {R S : List Int} {an n m : Nat} (h : boundsB kd cl R S an n m = true) : rightB R S n m n = true ∧ ordP kd cl an n := by
  unfold boundsB at h
  rw [Bool.and_eq_true, decide_eq_true_eq] at h
  exact h
/-- An order and a box that lie boxed. -/
structure OB (w0 w : World) (a b : Nat) (kd cl : Int) (q : Option Addr) (an ac : Nat) (A : List Int) (p r : Option Addr) (n c m e : Nat) (R S : List Int) : Prop where
  o : OrdIn w0 w a kd cl q an ac A
  b : BoxIn w b p r n c m e R S
theorem OB.later {w0 w w' : World} {a b : Nat} {kd cl : Int} {q : Option Addr} {an ac : Nat} {A : List Int} {p r : Option Addr} {n c m e : Nat} {R S : List Int} (h : OB w0 w a b kd cl q an ac A p r n c m e R S) (hb : Below w.heap.size w w') : OB w0 w' a b kd cl q an ac A p r n c m e R S :=
  ⟨h.o.later hb, h.b.later hb⟩
theorem ob_of {w : World} {kd cl : Int} {q : Option Addr} {an ac : Nat} {A : List Int} {p r : Option Addr} {n c m e : Nat} {R S : List Int} (hA : Ints w q an ac A) (hR : Ints w p n c R) (hS : Ints w r m e S) :
    ∀ w2, w2 = (w.alloc (.cells #[.int .u8 kd, .int .i64 cl, .slice q an ac] 34)).alloc (.cells #[.slice p n c, .slice r m e] 25) →
    OB w w2 w.heap.size (w.heap.size + 1) kd cl q an ac A p r n c m e R S ∧ w2.heap.size = w.heap.size + 1 + 1 := by
  rintro w2 rfl
  have ho := ord_in (kd := kd) (cl := cl) hA
  have hs : (w.alloc (.cells #[.int .u8 kd, .int .i64 cl, .slice q an ac] 34)).heap.size = w.heap.size + 1 := by simp
  generalize w.alloc (.cells #[.int .u8 kd, .int .i64 cl, .slice q an ac] 34) = w1 at *
  have hb2 : Below w1.heap.size w1 (w1.alloc (.cells #[.slice p n c, .slice r m e] 25)) := (Below.refl _ _).alloc (Nat.le_refl _) _
  have hx := Bx.fresh w1 (.slice p n c) (.slice r m e)
  rw [hs] at hx
  exact ⟨⟨ho.later hb2, hx, (hR.later ho.below).later hb2, (hS.later ho.below).later hb2⟩, by simp; omega⟩
set_option maxRecDepth 100000 in
set_option maxHeartbeats 4000000 in
theorem bounds_any (kd cl : Int) (q p r : Option Addr) (an ac n c m e : Nat) (A R S : List Int) (w : World) (hA : Ints w q an ac A) (hR : Ints w p n c R) (hS : Ints w r m e S) :
    Calls Try.prog 43 #[.agg #[.int .u8 kd, .int .i64 cl, .slice q an ac], .agg #[.slice p n c, .slice r m e]] w fun e w' => e = .returned (.bool (boundsB kd cl R S an n m)) ∧ Below w.heap.size w w' := by
  go_enter Try.func43, Try.ntmps43
  go_upto_region 1 with fail
  obtain ⟨w2, hw2⟩ : ∃ w2, w2 = (w.alloc (.cells #[.int .u8 kd, .int .i64 cl, .slice q an ac] 34)).alloc (.cells #[.slice p n c, .slice r m e] 25) := ⟨_, rfl⟩
  have HF := Lib.hid (ob_of hA hR hS w2 hw2).1
  rw [← hw2]
  clear hw2 hA hR hS
  obtain ⟨b0, b1, -, -⟩ := HF.out.b.bx.facts
  go_wp2_with fail
  refine (right_any p r n c m e R S n w2 HF.out.b.i1 HF.out.b.i2).mono ?_
  rintro _ w3 ⟨rfl, hb3⟩
  have HG := Lib.hid (HF.out.later hb3)
  clear hb3 HF b0 b1
  obtain ⟨b0, b1, -, -⟩ := HG.out.b.bx.facts
  obtain ⟨x0, x1, x2⟩ := HG.out.o.cells
  cases hr : rightB R S n m n with
  | false =>
    have HR := Lib.hid (show boundsB kd cl R S an n m = false by unfold boundsB; rw [hr]; rfl)
    clear hr
    go_wp2_with fail
    go_ret
    exact ⟨congrArg (fun b => Ending.returned (.bool b)) HR.out.symm, HG.out.o.below⟩
  | true =>
    have HR := Lib.hid (show boundsB kd cl R S an n m = decide (ordP kd cl an n) by unfold boundsB; rw [hr]; rfl)
    clear hr
    go_wp2_with fail
    refine (ordright_any kd cl n q an ac w3).mono ?_
    rintro _ w4 ⟨rfl, hb4⟩
    have HB := Lib.hid (HG.out.o.below.trans (hb4.mono HG.out.o.below.size))
    clear hb4
    go_wp2_with fail
    go_ret
    exact ⟨congrArg (fun b => Ending.returned (.bool b)) HR.out.symm, HB.out⟩
def lstK (kd cl : Int) (A R S : List Int) (an n m : Nat) : Int := if boundsB kd cl R S an n m = true then leastI kd cl A R S an n else 0
def lstId (kd cl : Int) (R S : List Int) (an n m : Nat) : Int := if boundsB kd cl R S an n m = true then R.getD 0 0 else 0
theorem ret_two3 {fn : Func} {P : Ending → World → Prop} (p u v : Tmp) (hr : fn.results = #[.cell p 37, .tmp u, .tmp v]) {tmps : Array Value} {w : World} (g : Nat) (a b x y : Value)
    (hp : tmps.getD p undef = .pointer (some ⟨g, 0, none⟩)) (hu : tmps.getD u undef = x) (hv : tmps.getD v undef = y) (hg : Two w g a b) (h : P (.returned (.tuple #[.agg #[a, b], x, y])) w) : bodyPost Try.prog fn P .ret ⟨tmps, []⟩ w := by
  obtain ⟨r0, r1, _, _⟩ := hg.facts
  refine bodyPost_ret (a := ⟨tmps, []⟩) (v := .tuple #[.agg #[a, b], x, y]) ?_ rfl h
  have hp' : tmps[p]?.getD undef = .pointer (some ⟨g, 0, none⟩) := by simpa using hp
  have hu' : tmps[u]?.getD undef = x := by simpa using hu
  have hv' : tmps[v]?.getD undef = y := by simpa using hv
  simp [results, hr, hp', hu', hv', go_sem, r0, r1]
set_option maxRecDepth 100000 in
set_option maxHeartbeats 4000000 in
theorem least_any (kd cl : Int) (q p r : Option Addr) (an ac n c m e : Nat) (A R S : List Int) (w : World) (hA : Ints w q an ac A) (hR : Ints w p n c R) (hS : Ints w r m e S) :
    Calls Try.prog 21 #[.agg #[.int .u8 kd, .int .i64 cl, .slice q an ac], .agg #[.slice p n c, .slice r m e]] w fun e w' => e = .returned (.tuple #[dV (lstK kd cl A R S an n m), .int .i64 (lstId kd cl R S an n m), .int .i64 (errOf (boundsB kd cl R S an n m))]) ∧ Below w.heap.size w w' := by
  obtain ⟨hi, lo, hd⟩ := dV_two (lstK kd cl A R S an n m)
  rw [hd]
  have HD := Lib.hid hd
  clear hd
  go_enter Try.func21, Try.ntmps21
  go_upto_region 1 with fail
  obtain ⟨w1, hw1⟩ : ∃ w2, w2 = (w.alloc (.cells #[.int .u8 kd, .int .i64 cl, .slice q an ac] 34)).alloc (.cells #[.slice p n c, .slice r m e] 25) := ⟨_, rfl⟩
  obtain ⟨hF, hsz⟩ := ob_of hA hR hS w1 hw1
  rw [← hw1]
  clear hw1 hA hR hS
  have t2 := zero_two w1
  have hb2 : Below w1.heap.size w1 (w1.alloc (.cells #[.int .u64 0, .int .u64 0] 37)) := (Below.refl _ _).alloc (Nat.le_refl _) _
  rw [hsz] at t2
  generalize w1.alloc (.cells #[.int .u64 0, .int .u64 0] 37) = w2 at *
  have HF := Lib.hid (hF.later hb2)
  have HT := Lib.hid t2
  clear hb2 hF hsz t2
  clear w1
  obtain ⟨b0, b1, -, -⟩ := HF.out.b.bx.facts
  obtain ⟨x0, x1, x2⟩ := HF.out.o.cells
  go_wp2_with fail
  refine (bounds_any kd cl q p r an ac n c m e A R S w2 HF.out.o.i HF.out.b.i1 HF.out.b.i2).mono ?_
  rintro _ w3 ⟨rfl, hb3⟩
  have HG := Lib.hid (HF.out.later hb3)
  have GT := Lib.hid (HT.out.later hb3 HT.out.lt)
  clear hb3 HF HT b0 b1 x0 x1 x2
  obtain ⟨b0, b1, -, -⟩ := HG.out.b.bx.facts
  obtain ⟨x0, x1, x2⟩ := HG.out.o.cells
  obtain ⟨y0, y1, z0, z1⟩ := GT.out.facts
  cases hr : boundsB kd cl R S an n m with
  | false =>
    have hk : lstK kd cl A R S an n m = 0 := by unfold lstK; rw [if_neg (by rw [hr]; simp)]
    have HI := Lib.hid (show lstId kd cl R S an n m = 0 by unfold lstId; rw [if_neg (by rw [hr]; simp)])
    have HE := Lib.hid (show errOf (boundsB kd cl R S an n m) = 1 by rw [hr]; rfl)
    rw [hk] at HD
    obtain ⟨rfl, rfl⟩ : (0 : Int) = hi ∧ (0 : Int) = lo := by have := HD.out; simpa [dV] using this
    clear hr hk
    go_wp2_with fail
    exact ret_two3 4 5 6 rfl (w.heap.size + 1 + 1) _ _ (.int .i64 0) (.int .i64 1) rfl rfl rfl (GT.out.set _ _) ⟨by rw [HI.out, HE.out], Two.below HG.out.o.below (by omega) _ _⟩
  | true =>
    have hk : lstK kd cl A R S an n m = leastI kd cl A R S an n := by unfold lstK; rw [if_pos hr]
    have HI := Lib.hid (show lstId kd cl R S an n m = R.getD 0 0 by unfold lstId; rw [if_pos hr])
    have HE := Lib.hid (show errOf (boundsB kd cl R S an n m) = 0 by rw [hr]; rfl)
    obtain ⟨hr1, ho⟩ := boundsB_ord hr
    obtain ⟨d1, d2, d3, d4⟩ := rightB_dims hr1
    obtain rfl : m = n := by omega
    rw [hk] at HD
    have hp := placeof_any kd cl q p r an ac m c e A R S w3 HG.out.o.i HG.out.b.i1 HG.out.b.i2 ho
    obtain ⟨id, hid⟩ : ∃ id, id = R.getD 0 0 := ⟨_, rfl⟩
    rw [plV_parts _ HD.out, ← hid] at hp
    rw [← hid] at HI
    have HP := Lib.hid hp
    clear hid
    clear hr hk hr1 ho d1 d2 d3 d4 hp
    go_wp2_with fail
    refine HP.out.mono ?_
    rintro _ w4 ⟨rfl, hb4⟩
    have HK := Lib.hid (HG.out.later hb4)
    have KT := Lib.hid (GT.out.later hb4 GT.out.lt)
    clear hb4 HG GT b0 b1 x0 x1 x2 y0 y1 z0 z1 HP
    clear w3
    go_upto_region 4 with fail
    have t5 := Tri.fresh w4 (.int .u64 hi) (.int .u64 lo) (.int .i64 id)
    have b5 : Below w4.heap.size w4 (w4.alloc (.cells #[.int .u64 hi, .int .u64 lo, .int .i64 id] 66)) := (Below.refl _ _).alloc (Nat.le_refl _) _
    generalize w4.alloc (.cells #[.int .u64 hi, .int .u64 lo, .int .i64 id] 66) = w5 at *
    have LT := Lib.hid (KT.out.later b5 KT.out.lt)
    have LB := Lib.hid (HK.out.o.below.trans (b5.mono HK.out.o.below.size))
    have TT := Lib.hid t5
    clear b5 t5 KT HK
    generalize w4.heap.size = g5 at *
    clear w4
    obtain ⟨y0, y1, z0, z1⟩ := LT.out.facts
    obtain ⟨u0, u1, u2, -⟩ := TT.out.facts
    go_region
    all_goals
      go_wp2_with fail
      exact ret_two3 4 5 6 rfl (w.heap.size + 1 + 1) _ _ (.int .i64 id) (.int .i64 0) rfl rfl rfl (LT.out.set _ _) ⟨by rw [HI.out, HE.out], Below.drew (Two.below LB.out (by omega) _ _)⟩
/-- Whether all rows of a box are surely behind a row. -/
def beyP (kd cl : Int) (A R S P : List Int) (an n m l : Nat) : Prop :=
  boundsB kd cl R S an n m = true ∧ l = n ∧ (keyI kd cl A P an n < leastI kd cl A R S an n ∨ keyI kd cl A P an n = leastI kd cl A R S an n ∧ P.getD 0 0 < R.getD 0 0)
instance (kd cl : Int) (A R S P : List Int) (an n m l : Nat) : Decidable (beyP kd cl A R S P an n m l) := by unfold beyP; infer_instance
theorem least_bound (kd cl : Int) (A R S : List Int) (an n : Nat) (hA : ∀ x ∈ A, -9223372036854775808 ≤ x ∧ x ≤ 9223372036854775807) (hR : ∀ x ∈ R, -9223372036854775808 ≤ x ∧ x ≤ 9223372036854775807) (hS : ∀ x ∈ S, -9223372036854775808 ≤ x ∧ x ≤ 9223372036854775807) :
    0 ≤ leastI kd cl A R S an n ∧ leastI kd cl A R S an n < 340282366920938463463374607431768211456 := by
  have hc := getD_ok hR cl.toNat
  have hc2 := getD_ok hS cl.toNat
  unfold leastI
  split
  · unfold tbx
    split
    · rename_i hok
      have hap : ∀ k, k < an → 0 ≤ gap (A.getD k 0) ((R.drop 1).getD k 0) ((S.drop 1).getD k 0) ∧ gap (A.getD k 0) ((R.drop 1).getD k 0) ((S.drop 1).getD k 0) < 18446744073709551616 := fun k _ =>
        gap_word (getD_ok hA k) (getD_ok (fun x hx => hR x (List.mem_of_mem_drop hx)) k) (getD_ok (fun x hx => hS x (List.mem_of_mem_drop hx)) k)
      have h1 := tot_nonneg _ an (fun k hk => (hap k hk).1)
      have h2 := tot_lt _ an (fun k hk => (hap k hk).2)
      have h3 : an ≤ 8 := hok.1.2.1
      omega
    · omega
  · split <;> omega
set_option maxRecDepth 100000 in
set_option maxHeartbeats 4000000 in
theorem beyond_any (kd cl : Int) (q p r s : Option Addr) (an ac n c m e l f : Nat) (A R S P : List Int) (w : World) (hA : Ints w q an ac A) (hR : Ints w p n c R) (hS : Ints w r m e S) (hP : Ints w s l f P) :
    Calls Try.prog 22 #[.agg #[.int .u8 kd, .int .i64 cl, .slice q an ac], .agg #[.slice p n c, .slice r m e], .slice s l f] w fun e w' => e = .returned (.bool (decide (beyP kd cl A R S P an n m l))) ∧ Below w.heap.size w w' := by
  have HK1 := Lib.hid (key_bound kd cl A P an n hA.ok hP.ok)
  have HK2 := Lib.hid (least_bound kd cl A R S an n hA.ok hR.ok hS.ok)
  go_enter Try.func22, Try.ntmps22
  go_upto_region 1 with fail
  obtain ⟨w1, hw1⟩ : ∃ w2, w2 = (w.alloc (.cells #[.int .u8 kd, .int .i64 cl, .slice q an ac] 34)).alloc (.cells #[.slice p n c, .slice r m e] 25) := ⟨_, rfl⟩
  obtain ⟨hF, hsz⟩ := ob_of hA hR hS w1 hw1
  rw [← hw1]
  have HP := Lib.hid (hP.later hF.o.below)
  have HF := Lib.hid hF
  clear hw1 hA hR hS hF hsz hP
  obtain ⟨b0, b1, -, -⟩ := HF.out.b.bx.facts
  obtain ⟨x0, x1, x2⟩ := HF.out.o.cells
  go_wp2_with fail
  refine (bounds_any kd cl q p r an ac n c m e A R S w1 HF.out.o.i HF.out.b.i1 HF.out.b.i2).mono ?_
  rintro _ w2 ⟨rfl, hb2⟩
  have HG := Lib.hid (HF.out.later hb2)
  have GP := Lib.hid (HP.out.later hb2)
  clear hb2 HF HP b0 b1 x0 x1 x2
  clear w1
  obtain ⟨b0, b1, -, -⟩ := HG.out.b.bx.facts
  obtain ⟨x0, x1, x2⟩ := HG.out.o.cells
  cases hr : boundsB kd cl R S an n m with
  | false =>
    have HN := Lib.hid (show ¬ beyP kd cl A R S P an n m l from fun h => absurd h.1 (by rw [hr]; simp))
    clear hr
    go_wp2_with fail
    go_ret
    exact ⟨ret_ndec HN.out, HG.out.o.below⟩
  | true =>
  by_cases hl : (l : Int) = n
  case neg =>
    have q1 : ((l : Int) != n) = true := by simpa using hl
    have HN := Lib.hid (show ¬ beyP kd cl A R S P an n m l from fun h => hl (by have := h.2.1; omega))
    clear hr hl
    go_wp2_with fail
    go_ret
    exact ⟨ret_ndec HN.out, HG.out.o.below⟩
  obtain rfl : l = n := by omega
  obtain ⟨hr1, ho⟩ := boundsB_ord hr
  obtain ⟨d1, d2, d3, d4⟩ := rightB_dims hr1
  obtain rfl : m = l := by omega
  obtain ⟨a1, c1, hd1, hk1, hb1, hb1'⟩ := dV_parts _ HK1.out
  obtain ⟨a2, c2, hd2, hk2, hb2, hb2'⟩ := dV_parts _ HK2.out
  have hp1 := fun w' (hb : Below w2.heap.size w2 w') => placeof_any kd cl q s s an ac m f f A P P w' (HG.out.o.i.later hb) (GP.out.later hb) (GP.out.later hb) ho
  have hp2 := fun w' (hb : Below w2.heap.size w2 w') => placeof_any kd cl q p r an ac m c e A R S w' (HG.out.o.i.later hb) (HG.out.b.i1.later hb) (HG.out.b.i2.later hb) ho
  rw [least_key ho, plV_parts _ hd1] at hp1
  rw [plV_parts _ hd2] at hp2
  have HR := Lib.hid (show pcmp a1 c1 (P.getD 0 0) a2 c2 (R.getD 0 0) < 0 ↔ beyP kd cl A R S P an m m m from by
    rw [pcmp_neg hk1 hk2 ⟨hb1, hb1'⟩ ⟨hb2, hb2'⟩]
    exact ⟨fun h => ⟨hr, rfl, h⟩, fun h => h.2.2⟩)
  have hcm := fun w' => compare_any a1 c1 (P.getD 0 0) a2 c2 (R.getD 0 0) w'
  generalize P.getD 0 0 = i at *
  generalize R.getD 0 0 = j at *
  obtain ⟨z, hz⟩ : ∃ z, z = pcmp a1 c1 i a2 c2 j := ⟨_, rfl⟩
  rw [← hz] at HR hcm
  have HC := Lib.hid (show ∀ w', Below w2.heap.size w2 w' → Calls Try.prog 42 #[.agg #[.int .u64 a1, .int .u64 c1, .int .i64 i], .agg #[.int .u64 a2, .int .u64 c2, .int .i64 j]] w' fun e w'' => e = .returned (.int .i64 z) ∧ Below w2.heap.size w2 w'' from fun w' hb => (hcm w').mono fun e w'' h => ⟨h.1, hb.trans (h.2.mono hb.size)⟩)
  have H1 := Lib.hid (show ∀ w', Below w2.heap.size w2 w' → Calls Try.prog 41 #[.agg #[.int .u8 kd, .int .i64 cl, .slice q an ac], .slice s m f, .slice s m f] w' fun e w'' => e = .returned (.agg #[.int .u64 a1, .int .u64 c1, .int .i64 i]) ∧ Below w2.heap.size w2 w'' from fun w' hb => (hp1 w' hb).mono fun e w'' h => ⟨h.1, hb.trans (h.2.mono hb.size)⟩)
  have H2 := Lib.hid (show ∀ w', Below w2.heap.size w2 w' → Calls Try.prog 41 #[.agg #[.int .u8 kd, .int .i64 cl, .slice q an ac], .slice p m c, .slice r m e] w' fun e w'' => e = .returned (.agg #[.int .u64 a2, .int .u64 c2, .int .i64 j]) ∧ Below w2.heap.size w2 w'' from fun w' hb => (hp2 w' hb).mono fun e w'' h => ⟨h.1, hb.trans (h.2.mono hb.size)⟩)
  have HF := Lib.hid (show ∀ w', Below w2.heap.size w2 w' → (Below w2.heap.size w2 w' ∧ w'.cell? ⟨w.heap.size, 0, none⟩ = some (.int .u8 kd) ∧ w'.cell? ⟨w.heap.size, 1, none⟩ = some (.int .i64 cl) ∧ w'.cell? ⟨w.heap.size, 2, none⟩ = some (.slice q an ac) ∧ w'.cell? ⟨w.heap.size + 1, 0, none⟩ = some (.slice p m c) ∧ w'.cell? ⟨w.heap.size + 1, 1, none⟩ = some (.slice r m e)) from fun w' hb => ⟨hb, (HG.out.later hb).o.cells.1, (HG.out.later hb).o.cells.2.1, (HG.out.later hb).o.cells.2.2, (HG.out.later hb).b.bx.facts.1, (HG.out.later hb).b.bx.facts.2.1⟩)
  have q1 : ((m : Int) != m) = false := by simp
  clear ho hl hr hr1 hz hcm hp1 hp2 hd1 hd2 hk1 hk2 hb1 hb1' hb2 hb2' HK1 HK2 d1 d2 d3 d4
  go_upto_region 3 with fail
  go_region_held3 (fun w' => Below w2.heap.size w2 w' ∧ w'.cell? ⟨w.heap.size, 0, none⟩ = some (.int .u8 kd) ∧ w'.cell? ⟨w.heap.size, 1, none⟩ = some (.int .i64 cl) ∧ w'.cell? ⟨w.heap.size, 2, none⟩ = some (.slice q an ac) ∧ w'.cell? ⟨w.heap.size + 1, 0, none⟩ = some (.slice p m c) ∧ w'.cell? ⟨w.heap.size + 1, 1, none⟩ = some (.slice r m e)) (first | assumption | exact HF.out _ (Below.drew (Below.refl _ _)) | exact HF.out _ (Below.refl _ _)) ((first
    | (go_at_call 41; (with_reducible refine (H1.out _ ?hx1).mono ?_); (case hx1 => first | assumption | exact (Below.refl _ _).drew | exact Below.refl _ _); rintro _ w5 ⟨rfl, hb5⟩; have k5 := HF.out _ hb5)
    | (go_at_call 41; (with_reducible refine (H2.out _ ?hx2).mono ?_); (case hx2 => first | assumption | exact (Below.refl _ _).drew | exact Below.refl _ _); rintro _ w6 ⟨rfl, hb6⟩; have k6 := HF.out _ hb6)
    | (go_at_call 42; (with_reducible refine (HC.out _ ?hx3).mono ?_); (case hx3 => first | assumption | exact (Below.refl _ _).drew | exact Below.refl _ _); rintro _ w7 ⟨rfl, hb7⟩; have k7 := HF.out _ hb7)))
  all_goals
    go_wp2_with fail
    go_ret
    exact ⟨ret_decB (by rw [decide_eq_true_eq]; exact HR.out), HG.out.o.below.trans (hb7.mono HG.out.o.below.size)⟩
end Go.Proofs.Ytddeomdmccnfbaa

/- Plain arithmetic of orders: no Go in sight. -/
namespace Go.Proofs.Ytddeomdmccnfbaa

theorem ahead_irrefl (kd cl : Int) (A P : List Int) (an n : Nat) : ¬ aheadP kd cl A P P an n n := by
  unfold aheadP
  rintro ⟨-, -, -, h | ⟨-, h⟩⟩ <;> omega
theorem ahead_asymm {kd cl : Int} {A P Q : List Int} {an n m : Nat} (h : aheadP kd cl A P Q an n m) : ¬ aheadP kd cl A Q P an m n := by
  unfold aheadP at h ⊢
  obtain ⟨-, -, -, h⟩ := h
  rintro ⟨-, -, -, h'⟩
  omega
theorem ahead_total {kd cl : Int} {A P Q : List Int} {an n : Nat} (ho : ordP kd cl an n) (hid : P.getD 0 0 ≠ Q.getD 0 0) : aheadP kd cl A P Q an n n ∨ aheadP kd cl A Q P an n n := by
  unfold aheadP
  by_cases h : keyI kd cl A P an n < keyI kd cl A Q an n ∨ keyI kd cl A P an n = keyI kd cl A Q an n ∧ P.getD 0 0 < Q.getD 0 0
  · exact Or.inl ⟨ho, ho, rfl, h⟩
  · exact Or.inr ⟨ho, ho, rfl, by omega⟩
theorem ahead_trans {kd cl : Int} {A P Q R : List Int} {an n m k : Nat} (h : aheadP kd cl A P Q an n m) (h' : aheadP kd cl A Q R an m k) : aheadP kd cl A P R an n k := by
  unfold aheadP at h h' ⊢
  obtain ⟨h1, h2, rfl, h3⟩ := h
  obtain ⟨h4, h5, rfl, h6⟩ := h'
  exact ⟨h1, h2, rfl, by omega⟩
end Go.Proofs.Ytddeomdmccnfbaa

/- Plain arithmetic: no point of a box has a lesser key than the nearest one. -/
namespace Go.Proofs.Ytddeomdmccnfbaa

/-- The numbers of the point of a box that has the least key. -/
def nearAt (kd cl : Int) (A R S : List Int) (i : Nat) : Int :=
  if kd = 2 then (if (i : Int) = cl then S.getD i 0 else R.getD i 0)
  else if kd = 3 then (if i = 0 then R.getD 0 0 else min (max (A.getD (i - 1) 0) (R.getD i 0)) (S.getD i 0))
  else R.getD i 0
theorem drop_getD (P : List Int) (k : Nat) : (P.drop 1).getD k 0 = P.getD (k + 1) 0 := by
  simp [List.getD_eq_getElem?_getD, List.getElem?_drop, Nat.add_comm]
theorem apart_near {a r s p : Int} (h1 : r ≤ p) (h2 : p ≤ s) : apart (min (max a r) s) a ≤ apart p a := by
  unfold apart
  split <;> split <;> omega
theorem near_least {kd cl : Int} {A R S P N : List Int} {an n : Nat} (ho : ordP kd cl an n) (hN : ∀ i, i < n → N.getD i 0 = nearAt kd cl A R S i)
    (h1 : les R P n = true) (h2 : les P S n = true) : keyI kd cl A N an n ≤ keyI kd cl A P an n := by
  have h1 := (les_iff R P n).1 h1
  have h2 := (les_iff P S n).1 h2
  have ho' := ho
  unfold ordP at ho'
  unfold keyI
  rw [if_pos ho, if_pos ho]
  by_cases h3 : kd = 3
  · rw [if_pos h3, if_pos h3]
    unfold btw
    split
    · refine tot_mono _ _ _ fun k hk => ?_
      rw [drop_getD, drop_getD, hN (k + 1) (by omega)]
      unfold nearAt
      rw [if_neg (by omega), if_pos h3, if_neg (by omega), Nat.add_sub_cancel]
      exact apart_near (h1 (k + 1) (by omega)) (h2 (k + 1) (by omega))
    · omega
  · rw [if_neg h3, if_neg h3]
    have hcl : cl.toNat < n := by omega
    have e1 := hN cl.toNat hcl
    have l1 := h1 cl.toNat hcl
    have l2 := h2 cl.toNat hcl
    unfold nearAt at e1
    by_cases h4 : kd = 2
    · rw [if_pos h4, if_pos (by omega)] at e1
      rw [if_pos h4, if_pos h4]
      omega
    · rw [if_neg h4, if_neg h3] at e1
      rw [if_neg h4, if_neg h4]
      omega
end Go.Proofs.Ytddeomdmccnfbaa

/- The nearest point of a box: plain arithmetic; a row of a call's own that is copied and written. -/
namespace Go.Proofs.Ytddeomdmccnfbaa
open Go.RowKit

theorem I2n : (Try.prog.info? 2).map (fun i => (i.zero, i.size, i.bytes)) = some (some (.int .i64 0), 1, 8) := by kernel_rfl
theorem URn : Try.prog.underlying 23 = some (.slice 2) := by kernel_rfl
def ivs (R : List Int) : List Value := R.map fun x => .int .i64 x
theorem ivs_length (R : List Int) : (ivs R).length = R.length := List.length_map ..
theorem ivs_get (R : List Int) (i : Nat) (h : i < R.length) : (ivs R)[i]? = some (.int .i64 (R.getD i 0)) := by
  simp [ivs, List.getD_eq_getElem?_getD, h]
theorem ivs_set (R : List Int) (k : Nat) (x : Int) : ivs (R.set k x) = (ivs R).set k (.int .i64 x) := by simp [ivs, List.map_set]
theorem ivs_one (R : List Int) : ∀ u ∈ ivs R, u.oneCell' = true := by
  intro u hu
  simp only [ivs, List.mem_map] at hu
  obtain ⟨x, _, rfl⟩ := hu
  rfl
theorem set_getD (R : List Int) (k i : Nat) (x : Int) (hk : k < R.length) : (R.set k x).getD i 0 = if i = k then x else R.getD i 0 := by
  simp only [List.getD_eq_getElem?_getD, List.getElem?_set]
  by_cases h : k = i
  · subst h; simp [hk]
  · rw [if_neg h, if_neg (Ne.symm h)]
/-- A row of a call's own, above a height. -/
def OwnRow (w : World) (base g n c : Nat) (N : List Int) : Prop := w.ownsRow base 2 1 (.slice (some ⟨g, 0, none⟩) n c) n (ivs N)
theorem own_form {w : World} {base n : Nat} {v : Value} {N : List Int} (h : w.ownsRow base 2 1 v n (ivs N)) (hn : 1 ≤ n) : ∃ g c, v = .slice (some ⟨g, 0, none⟩) n c ∧ OwnRow w base g n c N ∧ base ≤ g := by
  rcases h.2 with ⟨_, h0⟩ | ⟨g, cap, cur, hv, hb, r⟩
  · omega
  · exact ⟨g, cap, hv, by unfold OwnRow; rw [← hv]; exact h, hb⟩
theorem OwnRow.ints {w : World} {base g n c : Nat} {N : List Int} (h : OwnRow w base g n c N) (hN : ∀ x ∈ N, -9223372036854775808 ≤ x ∧ x ≤ 9223372036854775807) : Ints w (some ⟨g, 0, none⟩) n c N := by
  have hl : n = N.length := by have := h.1; rw [ivs_length, Nat.mul_one] at this; exact this.symm
  rcases h.2 with ⟨h1, _⟩ | ⟨g', cap, cur, hv, hb, hg, hle, hm, hs, ht⟩
  · simp at h1
  · obtain ⟨rfl, rfl⟩ : g = g' ∧ c = cap := by simpa using hv
    refine ⟨hl, hle, hN, Or.inr ⟨g, 0, rfl, fun i hi => ?_⟩⟩
    have := World.ownsRow.cellAt h i (by omega)
    rw [Nat.zero_add, this, ivs_get N i hi]
theorem OwnRow.length {w : World} {base g n c : Nat} {N : List Int} (h : OwnRow w base g n c N) : n = N.length := by have := h.1; rw [ivs_length, Nat.mul_one] at this; exact this.symm
theorem OwnRow.later {w w' : World} {base g n c : Nat} {N : List Int} (h : OwnRow w base g n c N) (hb : Below w.heap.size w w') : OwnRow w' base g n c N := by
  obtain ⟨h1, h2⟩ := h
  refine ⟨h1, h2.imp id ?_⟩
  rintro ⟨g, cap, cur, hv, hg, hh, r⟩
  exact ⟨g, cap, cur, hv, hg, (hb.block _ (Array.getElem?_eq_some_iff.1 hh).1).trans hh, r⟩
theorem OwnRow.set {w : World} {base g n c : Nat} {N : List Int} (h : OwnRow w base g n c N) (k : Nat) (x : Int) : OwnRow (w.setCell ⟨g, k, none⟩ (.int .i64 x)) base g n c (N.set k x) := by
  unfold OwnRow
  rw [ivs_set]
  exact (World.ownsRow.stored h k _).1
theorem own_empty (w : World) : (w.alloc (.cells #[] 2)).ownsRow w.heap.size 2 1 (.slice (some ⟨w.heap.size, 0, none⟩) 0 0) 0 [] :=
  ⟨rfl, Or.inr ⟨w.heap.size, 0, #[], rfl, Nat.le_refl _, heap_alloc_new w _, Nat.le_refl _, by unfold maxLen; omega, rfl, rfl⟩⟩
theorem Ints.news {w : World} {g o n c : Nat} {R : List Int} (h : Ints w (some ⟨g, o, none⟩) n c R) : ∀ j u, (ivs R)[j]? = some u → w.cell? ((⟨g, o, none⟩ : Addr).add j) = some u := fun j u hu => by
  have hj : j < R.length := by have := (List.getElem?_eq_some_iff.1 hu).1; simpa [ivs] using this
  rw [ivs_get _ _ hj] at hu
  rcases h.at' with h0 | ⟨g', o', hp, hx⟩
  · rw [h0] at hj; simp at hj
  · simp only [Option.some.injEq, Addr.mk.injEq, and_true] at hp
    obtain ⟨rfl, rfl⟩ := hp
    rw [Addr.add_mid, hx j hj, hu]
/-- How far the nearest point is told, when its first k numbers are. -/
def nearK (kd cl : Int) (A R S : List Int) (k i : Nat) : Int := if kd = 3 then (if i < k then nearAt kd cl A R S i else R.getD i 0) else nearAt kd cl A R S i
theorem near_ok {kd cl : Int} {A R S : List Int} (hA : ∀ x ∈ A, -9223372036854775808 ≤ x ∧ x ≤ 9223372036854775807) (hR : ∀ x ∈ R, -9223372036854775808 ≤ x ∧ x ≤ 9223372036854775807) (hS : ∀ x ∈ S, -9223372036854775808 ≤ x ∧ x ≤ 9223372036854775807) (i : Nat) :
    -9223372036854775808 ≤ nearAt kd cl A R S i ∧ nearAt kd cl A R S i ≤ 9223372036854775807 := by
  have h1 := getD_ok hA (i - 1)
  have h2 := getD_ok hR i
  have h3 := getD_ok hS i
  have h4 := getD_ok hR 0
  unfold nearAt
  repeat' split
  all_goals omega
theorem ok_of_getD {N : List Int} (h : ∀ i, i < N.length → -9223372036854775808 ≤ N.getD i 0 ∧ N.getD i 0 ≤ 9223372036854775807) : ∀ x ∈ N, -9223372036854775808 ≤ x ∧ x ≤ 9223372036854775807 := by
  intro x hx
  obtain ⟨i, hi, rfl⟩ := List.getElem_of_mem hx
  have := h i hi
  simpa [List.getD_eq_getElem?_getD, hi] using this
theorem gap_near' (a r s : Int) (h : r ≤ s) : gap a r s = apart (min (max a r) s) a := by
  unfold gap apart
  repeat' split
  all_goals omega
/-- The nearest point has the least key. -/
theorem near_key {kd cl : Int} {A R S N : List Int} {an n : Nat} (ho : ordP kd cl an n) (hN : ∀ i, i < n → N.getD i 0 = nearAt kd cl A R S i) (hRS : les R S n = true) : keyI kd cl A N an n = leastI kd cl A R S an n := by
  have hRS := (les_iff R S n).1 hRS
  have ho' := ho
  unfold ordP at ho'
  unfold keyI leastI
  rw [if_pos ho]
  by_cases h3 : kd = 3
  · rw [if_pos h3, if_pos h3]
    have hd : an = n - 1 ∧ 1 ≤ an ∧ an ≤ 8 := by omega
    obtain ⟨rfl, e1, e2⟩ := hd
    unfold tbx btw
    rw [if_pos (show okP (n - 1) (n - 1) ∧ n - 1 = n - 1 from ⟨⟨e1, e2, rfl⟩, rfl⟩), if_pos (show okP (n - 1) (n - 1) from ⟨e1, e2, rfl⟩)]
    refine tot_congr' _ _ _ fun k hk => ?_
    rw [drop_getD, drop_getD, drop_getD, hN (k + 1) (by omega), gap_near' _ _ _ (hRS (k + 1) (by omega))]
    unfold nearAt
    rw [if_neg (by omega), if_pos h3, if_neg (by omega), Nat.add_sub_cancel]
  · rw [if_neg h3, if_neg h3]
    have hcl : cl.toNat < n := by omega
    have e1 := hN cl.toNat hcl
    unfold nearAt at e1
    by_cases h4 : kd = 2
    · rw [if_pos h4, if_pos (by omega)] at e1
      rw [if_pos h4, if_pos h4, e1]
    · rw [if_neg h4, if_neg h3] at e1
      rw [if_neg h4, if_neg h4, e1]
end Go.Proofs.Ytddeomdmccnfbaa

/- slices.Clone of a row that isn't empty. -/
namespace Go.Proofs.Ytddeomdmccnfbaa
open Go.RowKit

set_option maxRecDepth 100000 in
set_option maxHeartbeats 1000000 in
theorem clone_any (p : Option Addr) (n c : Nat) (R : List Int) (w : World) (h : Ints w p n c R) (h1 : 1 ≤ n) (h8 : n ≤ 8) :
    Calls Try.prog 46 #[.slice p n c] w fun e w' => ∃ g cap, e = .returned (.slice (some ⟨g, 0, none⟩) n cap) ∧ OwnRow w' w.heap.size g n cap R ∧ w.heap.size ≤ g ∧ Below w.heap.size w w' := by
  obtain ⟨gR, oR, rfl, -⟩ := h.cell 0 (by omega)
  obtain ⟨i2, hi0, hi1, hi2, hi3⟩ := info_parts I2n
  have HI := Lib.hid hi0
  have HI0 := Lib.hid hi1
  have HI1 := Lib.hid hi2
  have HI2 := Lib.hid hi3
  clear hi0 hi1 hi2 hi3
  have hal : Below w.heap.size w (w.alloc (.cells #[] 2)) := (Below.refl _ _).alloc (Nat.le_refl _) _
  have HOE := Lib.hid (own_empty w)
  have HAL := Lib.hid hal
  have HNW := Lib.hid ((h.later hal).news)
  have HRL := Lib.hid (show (ivs R).length = n * 1 by rw [ivs_length, ← h.size, Nat.mul_one])
  have qn : ∀ w', (binOp .eql 23 (.slice (some ⟨gR, oR, none⟩) n c) (.slice none 0 0)).run Try.prog w' = .ok (.bool false) w' := fun w' => Go.Lib.run_eql_slice_nil w' _ _ _ _ _ _ _ URn
  clear hal h
  go_enter Try.func46, Try.ntmps46
  go_wp2_with ((at_builtin; (refine wpList_append_own_at _ (by rfl) (.tmp 5) (.tmp 6) 23 (by rfl) w.heap.size 2 i2 (.int .i64 0) 1 8 URn HI.out HI0.out HI1.out HI2.out (by rfl) (by decide) _ 0 [] (by rfl) HOE.out ⟨gR, oR, none⟩ n c (ivs R) (by rfl) HRL.out HNW.out (ivs_one R) (by unfold maxLen; omega) (by omega) (by simp) ?_); intro v7 w7 hown7 hgrow7 _ _; have O7 := Lib.hid hown7; have G7 := Lib.hid hgrow7; clear hown7 hgrow7))
  obtain ⟨gn, cn, rfl, hn7, hn8⟩ := own_form (w := w7) (base := w.heap.size) (n := n) (N := R) (by have h := O7.out; rw [Nat.zero_add, List.nil_append] at h; exact h) h1
  have hb7 : Below w.heap.size w w7 := HAL.out.grown G7.out (by simp) (fun k hk => by simp [Value.ownBlock] at hk; omega)
  go_ret
  exact ⟨gn, cn, rfl, hn7, hn8, hb7⟩
end Go.Proofs.Ytddeomdmccnfbaa

/- box.Sort. -/
namespace Go.Proofs.Ytddeomdmccnfbaa
open Go.RowKit

/-- A row with its place in an order. -/
def elOf (kd cl : Int) (A : List Int) (an : Nat) (t : Rw) : El :=
  ⟨keyI kd cl A t.R an t.n / 18446744073709551616 % 18446744073709551616, keyI kd cl A t.R an t.n % 18446744073709551616, t.R.getD 0 0, t.p, t.n, t.c, t.R⟩
def elsOf (kd cl : Int) (A : List Int) (an : Nat) (LR : List Rw) : List El := LR.map (elOf kd cl A an)
theorem elsOf_getD (kd cl : Int) (A : List Int) (an : Nat) (LR : List Rw) (k : Nat) (h : k < LR.length) : (elsOf kd cl A an LR).getD k default = elOf kd cl A an (LR.getD k default) := by
  simp [elsOf, List.getD_eq_getElem?_getD, h]
/-- Whether the order is right for all rows, and all have as many numbers. -/
def goodRow (kd cl : Int) (an : Nat) (LR : List Rw) (k : Nat) : Prop := ordP kd cl an (LR.getD k default).n ∧ (LR.getD k default).n = (LR.getD 0 default).n
instance (kd cl : Int) (an : Nat) (LR : List Rw) (k : Nat) : Decidable (goodRow kd cl an LR k) := by unfold goodRow; infer_instance
theorem made_els (n : Nat) (f : Nat → El) (hf : ∀ i, f i = default) : madeCells #[.int .u64 0, .int .u64 0, .int .i64 0, .slice none 0 0] (n * 4) = flatE f n := by
  apply Array.ext
  · simp [size_madeCells, flatE]; omega
  · intro i h1 h2
    have h3 : i < 4 * n := by rw [flatE_size] at h2; exact h2
    have e : (flatE f n)[i]? = some ((f (i / 4)).cell (i % 4)) := flatE_get f n i h3
    rw [Array.getElem?_eq_getElem h2] at e
    rw [Option.some.inj e, hf]
    simp only [madeCells, Array.getElem_ofFn]
    have : i % 4 = 0 ∨ i % 4 = 1 ∨ i % 4 = 2 ∨ i % 4 = 3 := by omega
    rcases this with h | h | h | h <;> simp [h] <;> rfl
theorem I72 : (Try.prog.info? 72).map (fun i => (i.zero, i.size, i.bytes)) = some (some (.agg #[.int .u64 0, .int .u64 0, .int .i64 0, .slice none 0 0]), 4, 48) := by kernel_rfl
theorem U70 : Try.prog.underlying 70 = some (.slice 72) := by kernel_rfl
theorem I23r : (Try.prog.info? 23).map (fun i => (i.zero, i.size, i.bytes)) = some (some (.slice none 0 0), 1, 24) := by kernel_rfl
theorem U52 : Try.prog.underlying 52 = some (.slice 23) := by kernel_rfl
theorem make_els (n : Nat) (hn : n ≤ 1000) (f : Nat → El) (hf : ∀ i, f i = default) (w : World) : (Instr.makeSlice 70 (.int .i64 n) (.int .i64 n)).run Try.prog w = .ok (.slice (some ⟨w.heap.size, 0, none⟩) n n) (w.alloc (.cells (flatE f n) 72)) := by
  obtain ⟨i2, hi, hi0, hi1, hi2⟩ := info_parts I72
  have := run_make (P := Try.prog) w 70 72 i2 _ U70 hi hi0 .i64 .i64 n n (by omega) (by omega) (by rw [hi2]; omega) (by omega)
  rw [this, hi1]
  simp only [Int.toNat_natCast, Value.cells, made_els n f hf]
/-- The first k elements. -/
def fillE (els : List El) (k : Nat) : Nat → El := fun j => if j < k then els.getD j default else default
/-- No row yet. -/
def noRow : Nat → Value := fun _ => .slice none 0 0
/-- The headers of a list of rows. -/
def heads (v : Nat → Value) (n : Nat) : Array Value := ((List.range n).map v).toArray
theorem heads_get (v : Nat → Value) (n i : Nat) (h : i < n) : (heads v n)[i]? = some (v i) := by simp [heads, h]
theorem heads_set (v : Nat → Value) (n k : Nat) (x : Value) : (heads v n).setIfInBounds k x = heads (fun i => if i = k then x else v i) n := by
  apply Array.ext'
  simp only [heads, Array.toList_setIfInBounds]
  apply List.ext_getElem (by simp)
  intro i h1 h2
  rw [List.getElem_set]
  by_cases hk : k = i
  · subst hk; simp
  · simp [hk, Ne.symm hk]
theorem made_heads (n : Nat) (v : Nat → Value) (hv : ∀ i, v i = .slice none 0 0) : madeCells #[.slice none 0 0] n = heads v n := by
  apply Array.ext
  · simp [size_madeCells, heads]
  · intro i h1 h2
    simp [madeCells, heads, hv, Nat.mod_one]
theorem make_heads (n : Nat) (hn : n ≤ 1000) (v : Nat → Value) (hv : ∀ i, v i = .slice none 0 0) (w : World) : (Instr.makeSlice 52 (.int .i64 n) (.int .i64 n)).run Try.prog w = .ok (.slice (some ⟨w.heap.size, 0, none⟩) n n) (w.alloc (.cells (heads v n) 23)) := by
  obtain ⟨i2, hi, hi0, hi1, hi2⟩ := info_parts I23r
  have := run_make (P := Try.prog) w 52 23 i2 _ U52 hi hi0 .i64 .i64 n n (by omega) (by omega) (by rw [hi2]; omega) (by omega)
  rw [this, hi1]
  simp only [Int.toNat_natCast, Value.cells, Nat.mul_one, made_heads n v hv]
/-- The list that Sort tells: rows of its own. -/
structure OwnRows (w : World) (gs n : Nat) (v : Nat → Value) (f : Nat → List Int) (k : Nat) : Prop where
  heads : w.heap[gs]? = some (.cells (heads v n) 23 (0, 0))
  rows : ∀ i, i < k → ∃ g c m, v i = .slice (some ⟨g, 0, none⟩) m c ∧ OwnRow w (gs + 1) g m c (f i) ∧ 1 ≤ m
theorem OwnRows.later {w w' : World} {gs n : Nat} {v : Nat → Value} {f : Nat → List Int} {k : Nat} (h : OwnRows w gs n v f k) (hb : Below w.heap.size w w') : OwnRows w' gs n v f k :=
  ⟨(hb.block _ (Array.getElem?_eq_some_iff.1 h.heads).1).trans h.heads, fun i hi => by
    obtain ⟨g, c, m, h1, h2, h3⟩ := h.rows i hi
    exact ⟨g, c, m, h1, h2.later hb, h3⟩⟩
theorem OwnRows.put {w : World} {gs n : Nat} {v : Nat → Value} {f : Nat → List Int} {k : Nat} (h : OwnRows w gs n v f k) {g c m : Nat} (hr : OwnRow w (gs + 1) g m c (f k)) (hm : 1 ≤ m) :
    OwnRows (w.setCell ⟨gs, k, none⟩ (.slice (some ⟨g, 0, none⟩) m c)) gs n (fun i => if i = k then .slice (some ⟨g, 0, none⟩) m c else v i) f (k + 1) := by
  refine ⟨?_, fun i hi => ?_⟩
  · rw [← heads_set]
    exact heap_setCell_same _ gs _ _ _ _ h.heads
  · by_cases hk : i = k
    · subst hk
      exact ⟨g, c, m, by simp, ownsRow_setCell_below hr (Nat.lt_succ_self _) _, hm⟩
    · obtain ⟨g1, c1, m1, h1, h2, h3⟩ := h.rows i (by omega)
      exact ⟨g1, c1, m1, by rw [if_neg hk]; exact h1, ownsRow_setCell_below h2 (Nat.lt_succ_self _) _, h3⟩
theorem OwnRow.base {w : World} {b b' g n c : Nat} {N : List Int} (h : OwnRow w b g n c N) (hb : b' ≤ b) : OwnRow w b' g n c N :=
  ⟨h.1, h.2.imp id fun ⟨g, cap, cur, hv, hl, r⟩ => ⟨g, cap, cur, hv, Nat.le_trans hb hl, r⟩⟩
def ordRows (kd cl : Int) (A : List Int) (an n : Nat) (LR : List Rw) : Nat → List Int := fun i => (LR.getD (St.stable (elt (elsOf kd cl A an LR)) n (Array.range n))[i]! default).R
def OutRel (kd cl : Int) (A : List Int) (an n : Nat) (LR : List Rw) (w5 : World) (gs : Nat) (i : Value) (wr : World) : Prop :=
  ∃ m v, m ≤ n ∧ i = .int .i64 m ∧ OwnRows wr gs n v (ordRows kd cl A an n LR) m ∧ Below w5.heap.size w5 wr
def SortPost (kd cl : Int) (A : List Int) (an n : Nat) (LR : List Rw) (w : World) (e : Ending) (w' : World) : Prop :=
  if ∀ k, k < n → goodRow kd cl an LR k then ∃ gs v, e = .returned (.slice (some ⟨gs, 0, none⟩) n n) ∧ w.heap.size ≤ gs ∧ OwnRows w' gs n v (ordRows kd cl A an n LR) n ∧ Below w.heap.size w w'
  else e = .returned (.slice none 0 0) ∧ Below w.heap.size w w'
theorem sort_bad {kd cl : Int} {A : List Int} {an n : Nat} {LR : List Rw} {w w' : World} (k : Nat) (hk : k < n) (h : ¬ goodRow kd cl an LR k) (hb : Below w.heap.size w w') : SortPost kd cl A an n LR w (.returned (.slice none 0 0)) w' := by
  unfold SortPost
  rw [if_neg (fun h' => h (h' k hk))]
  exact ⟨rfl, hb⟩
theorem fillE_put (els : List El) (k : Nat) (t : El) (ht : els.getD k default = t) (i : Nat) : upd (fillE els k) k t i = fillE els (k + 1) i := by
  unfold upd fillE
  by_cases h : i = k
  · rw [if_pos h, if_pos (by omega), h, ht]
  · rw [if_neg h]
    by_cases h2 : i < k
    · rw [if_pos h2, if_pos (by omega)]
    · rw [if_neg h2, if_neg (by omega)]
def FillRel (kd cl : Int) (A : List Int) (an n : Nat) (LR : List Rw) (w2 : World) (g : Nat) (i : Value) (wr : World) : Prop :=
  ∃ k, k ≤ n ∧ i = .int .i64 k ∧ RowE wr g (fillE (elsOf kd cl A an LR) k) n ∧ w2.grownBy wr (some g) ∧ ∀ j, j < k → goodRow kd cl an LR j
set_option maxRecDepth 100000 in
set_option maxHeartbeats 4000000 in
theorem sort_any (kd cl : Int) (q p : Option Addr) (an ac n c : Nat) (A : List Int) (LR : List Rw) (w : World) (hA : Ints w q an ac A) (hL : RowsIn w p n c LR) (hn : n ≤ 100) (hperm : ∀ m, m < n → (St.stable (elt (elsOf kd cl A an LR)) n (Array.range n))[m]! < n) :
    Calls Try.prog 24 #[.agg #[.int .u8 kd, .int .i64 cl, .slice q an ac], .slice p n c] w (SortPost kd cl A an n LR w) := by
  have M1 := make_els n (by omega) (fillE (elsOf kd cl A an LR) 0) (fun i => by simp [fillE])
  have ho := ord_in (kd := kd) (cl := cl) hA
  obtain ⟨w1, hw1⟩ : ∃ w1, w1 = w.alloc (.cells #[.int .u8 kd, .int .i64 cl, .slice q an ac] 34) := ⟨_, rfl⟩
  go_enter Try.func24, Try.ntmps24
  go_upto_region 1 with fail
  rw [← hw1] at ho ⊢
  have O1 := Lib.hid ho
  have L1 := Lib.hid (hL.later ho.below)
  clear ho hA hL hw1
  go_upto_region 2 with fail
  have r2 : RowE (w1.alloc (.cells (flatE (fillE (elsOf kd cl A an LR) 0) n) 72)) w1.heap.size _ n := heap_alloc_new w1 _
  have b2 : Below w1.heap.size w1 (w1.alloc (.cells (flatE (fillE (elsOf kd cl A an LR) 0) n) 72)) := (Below.refl _ _).alloc (Nat.le_refl _) _
  generalize w1.alloc (.cells (flatE (fillE (elsOf kd cl A an LR) 0) n) 72) = w2 at *
  have R2 := Lib.hid r2
  have B2 := Lib.hid b2
  clear r2 b2 M1
  obtain ⟨ge, hge⟩ : ∃ ge, ge = w1.heap.size := ⟨_, rfl⟩
  rw [← hge] at R2 ⊢
  have HGE := Lib.hid hge
  clear hge
  go_wp2_with fail
  go_loopw [16] (fun i wr => FillRel kd cl A an n LR w2 ge i wr) (fun i _ => n - (intOf i).toNat)
  case atStart => exact ⟨0, by omega, rfl, R2.out, ⟨rfl, rfl, rfl, Nat.le_refl _, fun _ _ _ => rfl⟩, fun j hj => by omega⟩
  case round =>
    obtain ⟨k, hk, rfl, hrow, hgr, hgood⟩ := hrel
    have HRW := Lib.hid hrow
    have HGR := Lib.hid hgr
    have HGD := Lib.hid hgood
    clear hrow hgr hgood R2
    have hb : Below w1.heap.size w1 wr := grown_below B2.out HGR.out (by rw [HGE.out]; exact Nat.le_refl _)
    have O3 := Lib.hid (O1.out.later hb)
    have L3 := Lib.hid (L1.out.later hb)
    clear hb
    by_cases hlt : k < n
    · obtain ⟨gL, oL, rfl, hck, hok⟩ := L3.out.cell k hlt
      obtain ⟨gL', oL', hgL, hc0, hok0⟩ := L3.out.cell 0 (by omega)
      simp only [Option.some.injEq, Addr.mk.injEq, and_true] at hgL
      obtain ⟨rfl, rfl⟩ := hgL
      rw [Nat.add_zero] at hc0
      have i1 : (0 : Int) ≤ k ∧ (k : Int) < n := by omega
      have i0 : 0 < n := by omega
      have hlen : k < LR.length := by rw [← L3.out.size]; exact hlt
      have hel := elsOf_getD kd cl A an LR k hlen
      obtain ⟨t, ht⟩ : ∃ t, t = LR.getD k default := ⟨_, rfl⟩
      obtain ⟨t0, ht0⟩ : ∃ t, t = LR.getD 0 default := ⟨_, rfl⟩
      have hgoodk : goodRow kd cl an LR k ↔ ordP kd cl an t.n ∧ t.n = t0.n := by unfold goodRow; rw [← ht, ← ht0]
      rw [← ht] at hck hok hel
      rw [← ht0] at hc0 hok0
      have OK := Lib.hid hok
      have HGK := Lib.hid hgoodk
      have HEL := Lib.hid hel
      obtain ⟨tp, tn, tc, tR⟩ := t
      obtain ⟨sp, sn, sc, sR⟩ := t0
      unfold Rw.val at hck hc0
      simp only at hck hc0
      obtain ⟨x0, x1, x2⟩ := O3.out.cells
      clear hok hok0 hel hgoodk ht ht0 hlen
      have hF : ∀ w', Below wr.heap.size wr w' → (Below wr.heap.size wr w' ∧ w'.cell? ⟨w.heap.size, 0, none⟩ = some (.int .u8 kd) ∧ w'.cell? ⟨w.heap.size, 1, none⟩ = some (.int .i64 cl) ∧ w'.cell? ⟨w.heap.size, 2, none⟩ = some (.slice q an ac) ∧ w'.cell? ⟨gL, oL, none⟩ = some (.slice sp sn sc)) := fun w' hb => ⟨hb, (hb.cell (p := ⟨w.heap.size, 0, none⟩) (block_lt_of_cell x0)).trans x0, (hb.cell (p := ⟨w.heap.size, 1, none⟩) (block_lt_of_cell x1)).trans x1, (hb.cell (p := ⟨w.heap.size, 2, none⟩) (block_lt_of_cell x2)).trans x2, (hb.cell (p := ⟨gL, oL, none⟩) (block_lt_of_cell hc0)).trans hc0⟩
      have HF := Lib.hid hF
      clear hF
      have H := Lib.hid (show ∀ w', Below wr.heap.size wr w' → Calls Try.prog 17 #[.agg #[.int .u8 kd, .int .i64 cl, .slice q an ac], .int .i64 tn] w' fun e w'' => e = .returned (.bool (decide (ordP kd cl an tn))) ∧ Below wr.heap.size wr w'' from fun w' hb => (ordright_any kd cl tn q an ac w').mono fun e w'' h => ⟨h.1, hb.trans (h.2.mono hb.size)⟩)
      go_wp2_with fail
      refine (H.out _ (Below.refl _ _)).mono ?_
      rintro _ w5 ⟨rfl, hb5⟩
      obtain ⟨-, y0, y1, y2, yc⟩ := HF.out _ hb5
      have B5 := Lib.hid hb5
      clear hb5 x0 x1 x2 hc0 HF H hck
      by_cases hP : ordP kd cl an tn
      · rw [decide_eq_true hP]
        have HP := Lib.hid hP
        clear hP
        by_cases hs : (tn : Int) = sn
        · have q1 : ((tn : Int) != sn) = false := by simpa using hs
          have HSN := Lib.hid hs
          clear hs
          go_wp2_with fail
          refine (placeof_any kd cl q tp tp an ac tn tc tc A tR tR w5 (O3.out.i.later B5.out) (OK.out.ints.later B5.out) (OK.out.ints.later B5.out) HP.out).mono ?_
          rintro _ w6 ⟨rfl, hb6⟩
          have HEL2 := HEL.out
          unfold elOf at HEL2
          rw [least_key HP.out]
          unfold plV
          have hr6 : RowE w6 ge (fillE (elsOf kd cl A an LR) k) n := ((B5.out.trans (hb6.mono B5.out.size)).block _ (Array.getElem?_eq_some_iff.1 HRW.out).1).trans HRW.out
          obtain ⟨el, hel⟩ : ∃ el, el = (elsOf kd cl A an LR).getD k default := ⟨_, rfl⟩
          rw [← hel] at HEL2
          have hput : RowE (putE w6 ge k el) ge (fillE (elsOf kd cl A an LR) (k + 1)) n := (hr6.put k el).congr fun i _ => fillE_put _ k el hel.symm i
          have hgr : w2.grownBy (putE w6 ge k el) (some ge) := grown_twice (grown_later HGR.out (B5.out.trans (hb6.mono B5.out.size))) (putE_grown _ _ _ _)
          obtain ⟨c0, c1, c2, c3, f0, f1, f2, f3⟩ := hr6.elem k hlt
          generalize fillE (elsOf kd cl A an LR) k k = old at c0 c1 c2 c3
          simp only at HEL2
          generalize keyI kd cl A tR an tn / 18446744073709551616 % 18446744073709551616 = hi at *
          generalize keyI kd cl A tR an tn % 18446744073709551616 = lo at *
          generalize tR.getD 0 0 = id at *
          obtain ⟨w7, hw7⟩ : ∃ w7, w7 = putE w6 ge k el := ⟨_, rfl⟩
          rw [← hw7] at hput hgr
          rw [HEL2] at hw7
          unfold putE at hw7
          simp only at hw7
          have HPUT := Lib.hid hput
          have HGR7 := Lib.hid hgr
          have HGD7 := Lib.hid (show ∀ j, j < k + 1 → goodRow kd cl an LR j from fun j hj => by
            by_cases h : j = k
            · subst h; exact (HGK.out).2 ⟨HP.out, by exact_mod_cast HSN.out⟩
            · exact HGD.out j (by omega))
          have HW7 := Lib.hid hw7
          clear hput hgr hr6 hel HEL2 HEL hw7 y0 y1 y2 yc q1 hb6 HGK HSN HP OK L1 L3 O1 O3 HRW HGR HGD
          go_wp2_with fail
          rw [← HW7.out]
          exact ⟨⟨k + 1, by omega, by go_num, HPUT.out, HGR7.out, HGD7.out⟩, by simp [intOf]; omega⟩
        · have q1 : ((tn : Int) != sn) = true := by simpa using hs
          have HSN := Lib.hid hs
          clear hs
          go_wp2_with fail
          go_ret
          exact sort_bad k hlt (fun h => HSN.out (by exact_mod_cast ((HGK.out).1 h).2)) (O3.out.below.trans (B5.out.mono O3.out.below.size))
      · rw [decide_eq_false hP]
        have HP := Lib.hid hP
        clear hP
        go_wp2_with fail
        go_ret
        exact sort_bad k hlt (fun h => HP.out ((HGK.out).1 h).1) (O3.out.below.trans (B5.out.mono O3.out.below.size))
    · obtain rfl : k = n := by omega
      have hs : SW (elsOf kd cl A an LR) w2 ge k (Array.range k) wr := ⟨HRW.out.congr fun i hi => by simp [fillE, hi], HGR.out, by simp⟩
      have HC := Lib.hid (sortstable_any (elsOf kd cl A an LR) w2 ge k k (by omega) (Array.range k) wr hs)
      clear hs HRW HGR O3 L3
      go_wp2_with fail
      refine HC.out.mono ?_
      rintro _ w5 ⟨rfl, hs5⟩
      have HS5 := Lib.hid hs5
      clear hs5 HC
      have M2 := make_heads k (by omega) noRow (fun _ => rfl) w5
      go_upto_region 11 with fail
      have hh : OwnRows (w5.alloc (.cells (heads noRow k) 23)) w5.heap.size k noRow (ordRows kd cl A an k LR) 0 := ⟨heap_alloc_new w5 _, fun i hi => by omega⟩
      have hb6 : Below w5.heap.size w5 (w5.alloc (.cells (heads noRow k) 23)) := (Below.refl _ _).alloc (Nat.le_refl _) _
      generalize w5.alloc (.cells (heads noRow k) 23) = w6 at *
      have H6 := Lib.hid hh
      have B6 := Lib.hid hb6
      clear hh hb6 M2
      obtain ⟨gs, hgs⟩ : ∃ gs, gs = w5.heap.size := ⟨_, rfl⟩
      rw [← hgs] at H6 ⊢
      have HGS := Lib.hid hgs
      clear hgs
      have b2 : Below w1.heap.size w1 w5 := grown_below B2.out HS5.out.grown (by rw [HGE.out]; exact Nat.le_refl _)
      have B15 := Lib.hid b2
      have B05 := Lib.hid (O1.out.below.trans (b2.mono O1.out.below.size))
      have L5 := Lib.hid (L1.out.later b2)
      clear b2 L1 O1 B2 HGE
      go_wp2_with fail
      go_loopw [52] (fun i wr => OutRel kd cl A an k LR w5 gs i wr) (fun i _ => k - (intOf i).toNat)
      case atStart => exact ⟨0, noRow, by omega, rfl, H6.out, B6.out⟩
      case round =>
        obtain ⟨m, v, hm, rfl, hrow, hb7⟩ := hrel
        have HRW := Lib.hid hrow
        have B7 := Lib.hid hb7
        clear hrow hb7 H6 B6
        by_cases hlt : m < k
        · obtain ⟨j, hj⟩ : ∃ j, j = (St.stable (elt (elsOf kd cl A an LR)) k (Array.range k))[m]! := ⟨_, rfl⟩
          have hjk : j < k := by rw [hj]; exact hperm m hlt
          have hs := HS5.out.later B7.out
          have ea : ElAt wr ge m ((elsOf kd cl A an LR).getD (St.stable (elt (elsOf kd cl A an LR)) k (Array.range k))[m]! default) := hs.row.elem m hlt
          rw [← hj, elsOf_getD kd cl A an LR j (by rw [← L5.out.size]; exact hjk)] at ea
          obtain ⟨_, _, -, -, hok⟩ := L5.out.cell j hjk
          have hg := (HGD.out j hjk).1
          have hf : ordRows kd cl A an k LR m = (LR.getD j default).R := by unfold ordRows; rw [← hj]
          have hor := hok.ints.later B7.out
          generalize LR.getD j default = t at *
          obtain ⟨tp, tn, tc, tR⟩ := t
          have hn8 : 1 ≤ tn ∧ tn ≤ 8 := by unfold ordP at hg; simp only at hg; omega
          unfold elOf at ea
          obtain ⟨c0, c1, c2, c3, -, -, -, -⟩ := ea
          simp only at c0 c1 c2 c3 hf hor
          generalize keyI kd cl A tR an tn / 18446744073709551616 % 18446744073709551616 = hi at *
          generalize keyI kd cl A tR an tn % 18446744073709551616 = lo at *
          generalize tR.getD 0 0 = id at *
          have OR := Lib.hid hor
          have HF := Lib.hid hf
          have HN8 := Lib.hid hn8
          have i1 : (0 : Int) ≤ m ∧ (m : Int) < k := by omega
          clear hs hok hg hf hor hj hjk hn8 hperm
          go_upto_region 14 with fail
          have hb8 : Below wr.heap.size wr (wr.alloc (.cells #[.int .u64 hi, .int .u64 lo, .int .i64 id, .slice tp tn tc] 72)) := (Below.refl _ _).alloc (Nat.le_refl _) _
          have c8 : (wr.alloc (.cells #[.int .u64 hi, .int .u64 lo, .int .i64 id, .slice tp tn tc] 72)).cell? ⟨wr.heap.size, 3, none⟩ = some (.slice tp tn tc) := (cell_of_row _ _ _ _ _ _ (heap_alloc_new wr _)).trans rfl
          generalize wr.alloc (.cells #[.int .u64 hi, .int .u64 lo, .int .i64 id, .slice tp tn tc] 72) = w8 at *
          have hgl : gs < wr.heap.size := (Array.getElem?_eq_some_iff.1 HRW.out.heads).1
          have R8 := Lib.hid (HRW.out.later hb8)
          have HC := Lib.hid (clone_any tp tn tc tR w8 (OR.out.later hb8) HN8.out.1 HN8.out.2)
          have HGL := Lib.hid (show gs + 1 ≤ w8.heap.size from Nat.lt_of_lt_of_le hgl hb8.size)
          have B8 := Lib.hid (B7.out.trans (hb8.mono B7.out.size))
          clear hgl hb8 c0 c1 c2 c3 HRW OR B7
          go_wp2_with fail
          refine HC.out.mono ?_
          rintro _ w9 ⟨g, cp, rfl, hown, -, hb9⟩
          have r9 := R8.out.later hb9
          have hput := r9.put (g := g) (c := cp) (m := tn) (by rw [HF.out]; exact OwnRow.base hown HGL.out) HN8.out.1
          have f9 : w9.frozen? ⟨gs, m, none⟩ = false := frozen_of_row w9 gs _ _ _ r9.heads
          have d9 : w9.cell? ⟨gs, m, none⟩ = some (v m) := (cell_of_row w9 gs _ _ _ _ r9.heads).trans (heads_get v k m hlt)
          have hb10 : Below w5.heap.size w5 (w9.setCell ⟨gs, m, none⟩ (.slice (some ⟨g, 0, none⟩) tn cp)) := grown_below (B8.out.trans (hb9.mono B8.out.size)) (grown_setCell w9 gs _ _) (by rw [HGS.out]; exact Nat.le_refl _)
          obtain ⟨w10, hw10⟩ : ∃ w10, w10 = w9.setCell ⟨gs, m, none⟩ (.slice (some ⟨g, 0, none⟩) tn cp) := ⟨_, rfl⟩
          rw [← hw10] at hput hb10
          have HPUT := Lib.hid hput
          have B10 := Lib.hid hb10
          have HW := Lib.hid hw10
          clear hput hb10 hw10 r9 hown hb9 R8 B8 HC HGL c8 HF HN8
          go_wp2_with fail
          rw [← HW.out]
          exact ⟨⟨m + 1, _, by omega, by go_num, HPUT.out, B10.out⟩, by simp [intOf]; omega⟩
        · obtain rfl : m = k := by omega
          go_wp2_with fail
          go_ret
          unfold SortPost
          rw [if_pos HGD.out]
          exact ⟨gs, v, rfl, by rw [HGS.out]; exact B05.out.size, HRW.out, B05.out.trans (B7.out.mono B05.out.size)⟩
end Go.Proofs.Ytddeomdmccnfbaa

/- A stable sort's order: ties are parted by the places at the start. Insertion sort of a rising part. -/
namespace Go.Proofs.Ytddeomdmccnfbaa.St
open Go.Sort

def tie (lt : Nat → Nat → Bool) (i j : Nat) : Bool := lt i j || (!lt j i && decide (i < j))
theorem tie_true {lt : Nat → Nat → Bool} {i j : Nat} : tie lt i j = true ↔ lt i j = true ∨ (lt j i = false ∧ i < j) := by simp [tie]
theorem tie_false {lt : Nat → Nat → Bool} {i j : Nat} : tie lt i j = false ↔ lt i j = false ∧ (lt j i = true ∨ j ≤ i) := by
  rw [← Bool.not_eq_true, tie_true]
  cases lt i j <;> cases lt j i <;> simp
theorem tie_swo {lt : Nat → Nat → Bool} (h : SWO lt) : SWO (tie lt) := by
  refine ⟨fun x => tie_false.2 ⟨h.irrefl x, Or.inr (Nat.le_refl _)⟩, fun x y z h1 h2 => ?_, fun x y z h1 h2 => ?_⟩
  · rw [tie_true] at h1 h2 ⊢
    rcases h1 with h1 | ⟨h1, h1'⟩ <;> rcases h2 with h2 | ⟨h2, h2'⟩
    · exact Or.inl (h.trans _ _ _ h1 h2)
    · by_cases c : lt x z = true
      · exact Or.inl c
      · rw [Bool.not_eq_true] at c
        rw [h.ntrans _ _ _ c h2] at h1
        exact absurd h1 (by simp)
    · by_cases c : lt x z = true
      · exact Or.inl c
      · rw [Bool.not_eq_true] at c
        rw [h.ntrans _ _ _ h1 c] at h2
        exact absurd h2 (by simp)
    · exact Or.inr ⟨h.ntrans _ _ _ h2 h1, by omega⟩
  · rw [tie_false] at h1 h2 ⊢
    refine ⟨h.ntrans _ _ _ h1.1 h2.1, ?_⟩
    by_cases c : lt z x = true
    · exact Or.inl c
    · rw [Bool.not_eq_true] at c
      have c1 := h.ntrans _ _ _ h2.1 c
      have c2 := h.ntrans _ _ _ c h1.1
      rw [c1] at h1
      rw [c2] at h2
      simp only [Bool.false_eq_true, false_or] at h1 h2
      exact Or.inr (Nat.le_trans h2.2 h1.2)
/-- No two are of one place. -/
theorem tie_eq {lt : Nat → Nat → Bool} (x y : Nat) (h1 : tie lt x y = false) (h2 : tie lt y x = false) : x = y := by
  rw [tie_false] at h1 h2
  rcases h1.2 with c | c
  · rw [h2.1] at c; exact absurd c (by simp)
  · rcases h2.2 with e | e
    · rw [h1.1] at e; exact absurd e (by simp)
    · omega
theorem tie_rising {lt : Nat → Nat → Bool} {i j : Nat} (h : j < i) : tie lt i j = lt i j := by
  unfold tie
  rw [decide_eq_false (by omega)]
  simp
theorem insInner_perm {lt : Nat → Nat → Bool} (a b : Nat) : ∀ (j : Nat) (d : Array Nat), a ≤ j → j < b → b ≤ d.size → PermIn a b d (insInner lt a j d)
  | 0, d, _, _, _ => by unfold insInner; exact permIn_refl d a b
  | j + 1, d, h1, h2, h3 => by
    unfold insInner
    split
    · rename_i hc
      simp only [Bool.and_eq_true, decide_eq_true_eq] at hc
      exact permIn_trans _ _ _ a b (swp_permIn d a b (j + 1) j h1 h2 (by omega) (by omega) h3) (insInner_perm a b j _ (by omega) (by omega) (by rw [swp_size]; exact h3))
    · exact permIn_refl d a b
theorem insInner_tie {lt : Nat → Nat → Bool} (a : Nat) : ∀ (j : Nat) (d : Array Nat), j < d.size → (∀ p, a ≤ p → p < j → d[p]! < d[j]!) → insInner lt a j d = insInner (tie lt) a j d
  | 0, d, _, _ => by unfold insInner; rfl
  | j + 1, d, h1, h2 => by
    unfold insInner
    by_cases c : j + 1 > a
    · rw [tie_rising (h2 j (by omega) (by omega)), insInner_tie a j (swp d (j + 1) j) (by rw [swp_size]; omega) ?_]
      intro p hp hpj
      rw [swp_get d h1 (by omega), swp_get d h1 (by omega), if_neg (by omega), if_neg (by omega), if_pos rfl]
      exact h2 p hp (by omega)
    · simp [c]
theorem insOuter_tie {lt : Nat → Nat → Bool} (a b : Nat) : ∀ (n i : Nat) (d : Array Nat), b - i = n → a ≤ i → b ≤ d.size → (∀ p q, a ≤ p → p < q → i ≤ q → q < b → d[p]! < d[q]!) → insOuter lt a b i d = insOuter (tie lt) a b i d
  | 0, i, d, h1, _, _, _ => by
    rw [insOuter, if_neg (by omega), insOuter, if_neg (by omega)]
  | n + 1, i, d, h1, h2, h3, h4 => by
    rw [insOuter, insOuter.eq_def (tie lt), if_pos (by omega), if_pos (by omega), insInner_tie a i d (by omega) (fun p hp hpi => h4 p i hp hpi (Nat.le_refl _) (by omega))]
    have hp := insInner_perm (lt := tie lt) a (i + 1) i d h2 (by omega) (by omega)
    refine insOuter_tie a b n (i + 1) _ (by omega) (by omega) (by rw [hp.1]; exact h3) fun p q h5 h6 h7 h8 => ?_
    rw [hp.2.1 q (Or.inr (by omega))]
    by_cases c : p < i + 1
    · exact permIn_all d _ a (i + 1) (fun x => x < d[q]!) (by omega) hp (fun k hk hk' => h4 k q hk (by omega) (by omega) h8) p h5 c
    · rw [hp.2.1 p (Or.inr (by omega))]
      exact h4 p q h5 h6 (by omega) h8
/-- A rising part is sorted by insertion as the order with parted ties asks. -/
theorem insertion_tie {lt : Nat → Nat → Bool} (hS : SWO lt) (d : Array Nat) (a b : Nat) (h1 : a ≤ b) (h2 : b ≤ d.size) (h3 : ∀ p q, a ≤ p → p < q → q < b → d[p]! < d[q]!) :
    PermIn a b d (insertionSort lt d a b) ∧ SortedIn (tie lt) a b (insertionSort lt d a b) := by
  have e : insertionSort lt d a b = insertionSort (tie lt) d a b := insOuter_tie a b _ (a + 1) d rfl (by omega) h2 fun p q h4 h5 h6 h7 => h3 p q h4 h5 h7
  rw [e]
  exact insertionSort_holds (tie_swo hS) d a b h1 h2
end Go.Proofs.Ytddeomdmccnfbaa.St
