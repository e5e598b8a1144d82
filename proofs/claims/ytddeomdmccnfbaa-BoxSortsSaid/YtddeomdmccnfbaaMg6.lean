/- BoxSym, BoxStab, BoxAhead. -/
import Derived.Test.YtddeomdmccnfbaaMg5
import Derived.Deep.CutBlock
/- slices' symmetric merge of rows with their places. -/
namespace Go.Proofs.Ytddeomdmccnfbaa
open Go.RowKit
open Go.Sort (insInner insOuter insertionSort swp)

def BsRel (L : List El) (w0 : World) (g n : Nat) (d : Array Nat) (f : Nat → Bool) (LO HI N : Nat) (lo hi : Value) (wr : World) : Prop :=
  ∃ (x y k : Nat), lo = .int .i64 x ∧ hi = .int .i64 y ∧ LO ≤ x ∧ x ≤ y ∧ y ≤ HI ∧ y - x ≤ k ∧ SW L w0 g n d wr ∧ St.bs f k x y = N
theorem bs_done {f : Nat → Bool} {k x y N : Nat} (h : St.bs f k x y = N) (hx : ¬ x < y) : x = N := by
  cases k with
  | zero => exact h
  | succ k => rw [St.bs, if_neg hx] at h; exact h
theorem bs_yes {f : Nat → Bool} {k x y N : Nat} (h : St.bs f k x y = N) (hx : x < y) (hk : y - x ≤ k) (hf : f ((x + y) / 2) = true) : ∃ k', y - ((x + y) / 2 + 1) ≤ k' ∧ St.bs f k' ((x + y) / 2 + 1) y = N := by
  cases k with
  | zero => omega
  | succ k => rw [St.bs, if_pos hx, if_pos hf] at h; exact ⟨k, by omega, h⟩
theorem bs_no {f : Nat → Bool} {k x y N : Nat} (h : St.bs f k x y = N) (hx : x < y) (hk : y - x ≤ k) (hf : f ((x + y) / 2) = false) : ∃ k', (x + y) / 2 - x ≤ k' ∧ St.bs f k' x ((x + y) / 2) = N := by
  cases k with
  | zero => omega
  | succ k => rw [St.bs, if_pos hx, if_neg (by rw [hf]; simp)] at h; exact ⟨k, by omega, h⟩
set_option maxRecDepth 100000 in
set_option maxHeartbeats 4000000 in
theorem symmerge_any (L : List El) (w0 : World) (g n cap : Nat) (hn : n ≤ 1000) : ∀ (F a m b : Nat) (d : Array Nat) (w : World), SW L w0 g n d w → a < m → m < b → b ≤ n → b - a ≤ F →
    Calls Try.prog 66 #[.slice (some ⟨g, 0, none⟩) n cap, .int .i64 a, .int .i64 m, .int .i64 b, .func (.func 45) #[] #[]] w fun e w' => e = .returned (.tuple #[]) ∧ SW L w0 g n (St.symM (elt L) F a m b d) w' := by
  intro F
  induction F with
  | zero => intro a m b d w _ h1 h2 _ h4; omega
  | succ F ih =>
  intro a m b d w h h1 h2 h3 h4
  have HS := Lib.hid h
  have IH := Lib.hid ih
  clear h ih
  have sz := HS.out.size
  have HSZ := Lib.hid sz
  clear sz
  by_cases c1 : m - a = 1
  case pos =>
    rw [show St.symM (elt L) (F + 1) a m b d = St.up a (St.bs (fun c => elt L d[c]! d[a]!) (b - m) m b - 1 - a) d from by rw [St.symM, if_pos c1]]
    obtain ⟨N, hN⟩ : ∃ N, N = St.bs (fun c => elt L d[c]! d[a]!) (b - m) m b := ⟨_, rfl⟩
    rw [← hN]
    have q0 : (((m : Int) - a) == 1) = true := by simp only [beq_iff_eq]; omega
    have HN := Lib.hid hN
    have hma : m = a + 1 := by omega
    have HMA := Lib.hid hma
    clear hN c1 hma
    go_enter Try.func66, Try.ntmps66
    go_upto_block 0 with fail
    clear q0
    have hma := HMA.out
    have ham : a < m ∧ m ≤ n := by omega
    clear hma
    go_cut [10] from 31 to 53 (fun s10 wx => s10 = .int .i64 N ∧ m ≤ N ∧ N ≤ b ∧ SW L w0 g n d wx)
    case first =>
      go_wp2_with fail
      go_loopw [10, 11] (fun lo hi wr => BsRel L w0 g n d (fun c => elt L d[c]! d[a]!) (m) (b) N lo hi wr) (fun lo hi _ => (intOf hi).toNat - (intOf lo).toNat)
      case atStart => exact ⟨m, b, b - m, rfl, rfl, Nat.le_refl _, by omega, Nat.le_refl _, Nat.le_refl _, HS.out, HN.out.symm⟩
      case round =>
        obtain ⟨x1, y1, k, rfl, rfl, l1, l2, l3, l4, hs, hb⟩ := hrel
        have HR := Lib.hid hs
        have HB := Lib.hid hb
        clear hs hb HS
        by_cases hlt : x1 < y1
        · obtain ⟨c, hc⟩ : ∃ c, c = (x1 + y1) / 2 := ⟨_, rfl⟩
          have hce : ((x1 : Int) + y1) / 2 = c := by omega
          have hc1 : x1 ≤ c ∧ c < y1 := by omega
          have HYES := Lib.hid (show (elt L d[c]! d[a]!) = true → ∃ k', y1 - (c + 1) ≤ k' ∧ St.bs (fun c => elt L d[c]! d[a]!) k' (c + 1) y1 = N from fun hf => by subst hc; exact bs_yes HB.out hlt l4 hf)
          have HNO := Lib.hid (show (elt L d[c]! d[a]!) = false → ∃ k', c - x1 ≤ k' ∧ St.bs (fun c => elt L d[c]! d[a]!) k' x1 c = N from fun hf => by subst hc; exact bs_no HB.out hlt l4 hf)
          have i1 : (0 : Int) ≤ c ∧ (c : Int) < n := by omega
          have HCE := Lib.hid hce
          clear hc hce
          go_upto_region 5 with fail
          rw [HCE.out]
          have i2 : (0 : Int) ≤ a ∧ (a : Int) < n := by omega
          obtain ⟨x, hx⟩ : ∃ x, x = L.getD (d)[c]! default := ⟨_, rfl⟩
          obtain ⟨y, hy⟩ : ∃ y, y = L.getD (d)[a]! default := ⟨_, rfl⟩
          have HX := Lib.hid hx
          have HY := Lib.hid hy
          have HTW := Lib.hid (show ∀ w', Below wr.heap.size wr w' → (Below wr.heap.size wr w' ∧ w'.cell? ⟨g, (c) * 4, none⟩ = some (.int .u64 x.hi) ∧ w'.cell? ⟨g, (c) * 4 + 1, none⟩ = some (.int .u64 x.lo) ∧ w'.cell? ⟨g, (c) * 4 + 2, none⟩ = some (.int .i64 x.id) ∧ w'.cell? ⟨g, (c) * 4 + 3, none⟩ = some (.slice x.p x.n x.c) ∧ w'.cell? ⟨g, (a) * 4, none⟩ = some (.int .u64 y.hi) ∧ w'.cell? ⟨g, (a) * 4 + 1, none⟩ = some (.int .u64 y.lo) ∧ w'.cell? ⟨g, (a) * 4 + 2, none⟩ = some (.int .i64 y.id) ∧ w'.cell? ⟨g, (a) * 4 + 3, none⟩ = some (.slice y.p y.n y.c)) from fun w' hb => ⟨hb, (HR.out.later hb).two (c) (a) (by omega) (by omega) x y HX.out HY.out⟩)
          have hc := sortfn_any x y
          unfold El.val at hc
          obtain ⟨z, hz⟩ : ∃ z, z = ecmp x y := ⟨_, rfl⟩
          rw [← hz] at hc
          have HC := Lib.hid (show ∀ w', Below wr.heap.size wr w' → Calls Try.prog 45 #[.agg #[.int .u64 x.hi, .int .u64 x.lo, .int .i64 x.id, .slice x.p x.n x.c], .agg #[.int .u64 y.hi, .int .u64 y.lo, .int .i64 y.id, .slice y.p y.n y.c]] w' fun e w'' => e = .returned (.int .i64 z) ∧ Below wr.heap.size wr w'' from fun w' hb => (hc w').mono fun e w'' h => ⟨h.1, hb.trans (h.2.mono hb.size)⟩)
          have HLT := Lib.hid (show elt L (d)[c]! (d)[a]! = decide (z < 0) by unfold elt; rw [hz, hx, hy])
          clear hx hy hc hz
          go_upto_region 5 with fail
          go_cut [50] from 40 to 49 (fun sv wx => sv = .bool (decide (z < 0)) ∧ SW L w0 g n (d) wx)
          case first =>
            go_region_held3 (fun w' => Below wr.heap.size wr w' ∧ w'.cell? ⟨g, (c) * 4, none⟩ = some (.int .u64 x.hi) ∧ w'.cell? ⟨g, (c) * 4 + 1, none⟩ = some (.int .u64 x.lo) ∧ w'.cell? ⟨g, (c) * 4 + 2, none⟩ = some (.int .i64 x.id) ∧ w'.cell? ⟨g, (c) * 4 + 3, none⟩ = some (.slice x.p x.n x.c) ∧ w'.cell? ⟨g, (a) * 4, none⟩ = some (.int .u64 y.hi) ∧ w'.cell? ⟨g, (a) * 4 + 1, none⟩ = some (.int .u64 y.lo) ∧ w'.cell? ⟨g, (a) * 4 + 2, none⟩ = some (.int .i64 y.id) ∧ w'.cell? ⟨g, (a) * 4 + 3, none⟩ = some (.slice y.p y.n y.c)) (first | assumption | exact HTW.out _ (Below.drew (Below.refl _ _)) | exact HTW.out _ (Below.refl _ _)) ((first
              | (go_at_call 45; (with_reducible refine (HC.out _ ?hx1).mono ?_); (case hx1 => first | assumption | exact (Below.refl _ _).drew | exact Below.refl _ _); rintro _ w7 ⟨rfl, hb7⟩; have k7 := HTW.out _ hb7)))
            all_goals
              go_wp2_with fail
              go_meet
              exact ⟨rfl, HR.out.later hb7⟩
          case rest =>
            obtain ⟨rfl, hs3⟩ := hcut
            obtain ⟨w3, hw3⟩ : ∃ w3, w3 = wc := ⟨_, rfl⟩
            rw [← hw3] at hs3 ⊢
            clear hw3
            have HR3 := Lib.hid hs3
            clear hs3 HTW HC HX HY HR
            clear x y
            by_cases hz : z < 0
            · obtain ⟨k', hk', hbs'⟩ := HYES.out (by rw [HLT.out]; exact decide_eq_true hz)
              have HBS := Lib.hid hbs'
              clear hbs' HLT HYES HNO
              go_wp2_with fail
              go_roundw
              case rel => exact ⟨c + 1, y1, k', by first | rfl | go_num, rfl, by omega, by omega, l3, hk', HR3.out, HBS.out⟩
              case measure => first | (simp [intOf]; done) | (simp [intOf]; omega)
            · obtain ⟨k', hk', hbs'⟩ := HNO.out (by rw [HLT.out]; exact decide_eq_false hz)
              have HBS := Lib.hid hbs'
              clear hbs' HLT HYES HNO
              go_wp2_with fail
              go_roundw
              case rel => exact ⟨x1, c, k', rfl, rfl, l1, by omega, by omega, hk', HR3.out, HBS.out⟩
              case measure => first | (simp [intOf]; done) | (simp [intOf]; omega)
        · obtain rfl : x1 = N := bs_done HB.out hlt
          go_wp2_with fail
          go_meet
          exact ⟨rfl, l1, by omega, HR.out⟩
    case rest =>
      obtain ⟨rfl, g1, g2, hs8⟩ := hcut
      obtain ⟨w8, hw8⟩ : ∃ w3, w3 = wc := ⟨_, rfl⟩
      rw [← hw8] at hs8 ⊢
      clear hw8 HS
      have HS := Lib.hid hs8
      clear hs8
      go_wp2_with fail
      go_loopw [13] (fun i wr => ∃ t : Nat, a + t ≤ N - 1 ∧ i = .int .i64 ((a : Int) + t) ∧ SW L w0 g n (St.up a t d) wr) (fun i _ => N - (intOf i).toNat)
      case atStart => exact ⟨0, by have := HMA.out; omega, by first | rfl | go_num | (congr 1; omega), HS.out⟩
      case round =>
        obtain ⟨k, hk, rfl, hs⟩ := hrel
        have HR := Lib.hid hs
        clear hs HS
        by_cases hlt : a + k < N - 1
        · have i1 : (0 : Int) ≤ (a : Int) + k ∧ (a : Int) + k < n := by omega
          have i2 : (0 : Int) ≤ (a : Int) + k + 1 ∧ (a : Int) + k + 1 < n := by omega
          have i3 : ((a : Int) + k).toNat = a + k := by omega
          have i4 : ((a : Int) + k + 1).toNat = a + k + 1 := by omega
          have i5 : (a : Int) + k < (N : Int) - 1 := by omega
          have hsw := HR.out.swap (a + k) (a + k + 1) (by omega) (by omega) (by omega)
          have ea := HR.out.row.elem (a + k) (by omega)
          have eb := HR.out.row.elem (a + k + 1) (by omega)
          have er0 := fun y => (HR.out.row.put (a + k) y).elem (a + k + 1) (by omega)
          obtain ⟨x, hxx⟩ : ∃ x, x = L.getD (St.up a k d)[a + k]! default := ⟨_, rfl⟩
          obtain ⟨y, hyy⟩ : ∃ y, y = L.getD (St.up a k d)[a + k + 1]! default := ⟨_, rfl⟩
          have er := er0 y
          rw [show upd (fun i => L.getD (St.up a k d)[i]! default) (a + k) y (a + k + 1) = y from by unfold upd; rw [if_neg (by omega), hyy]] at er
          rw [← hxx] at ea hsw
          rw [← hyy] at eb hsw
          have HSW := Lib.hid hsw
          unfold putE at er
          obtain ⟨a0, a1, a2, a3, a4, a5, a6, a7⟩ := ea
          obtain ⟨b0, b1, b2, b3, b4, b5, b6, b7⟩ := eb
          obtain ⟨r0, r1, r2, r3, r4, r5, r6, r7⟩ := er
          clear hsw er0 hxx hyy
          go_upto_region 11 with fail
          go_region
          all_goals
            have HS2 := HSW.out.later (Below.refl _ _).drew
            obtain ⟨w5, hw5⟩ : ∃ w5, w5 = (putE (putE wr g (a + k) y) g (a + k + 1) x).drew := ⟨_, rfl⟩
            rw [← hw5] at HS2
            unfold putE at hw5
            rw [← hw5]
            have HS5 := Lib.hid HS2
            clear HS2 hw5 a0 a1 a2 a3 a4 a5 a6 a7 b0 b1 b2 b3 b4 b5 b6 b7 r0 r1 r2 r3 r4 r5 r6 r7 i1 i2 i3 i4 i5
            go_wp2_with fail
            go_roundw
            case rel => exact ⟨k + 1, by omega, by first | rfl | go_num | (congr 1; omega), HS5.out⟩
            case measure => first | (simp [intOf]; done) | (simp [intOf]; omega)
        · have i5 : ¬ (a : Int) + k < (N : Int) - 1 := by omega
          obtain rfl : k = N - 1 - a := by omega
          go_wp2_with fail
          refine bodyPost_ret (results_none rfl _ _ _) rfl ?_
          exact ⟨rfl, HR.out⟩
  case neg =>
  have q0 : (((m : Int) - a) == 1) = false := by simp only [beq_eq_false_iff_ne, ne_eq]; omega
  by_cases c2 : b - m = 1
  case pos =>
    rw [show St.symM (elt L) (F + 1) a m b d = St.down m (m - St.bs (fun c => !elt L d[m]! d[c]!) (m - a) a m) d from by rw [St.symM, if_neg c1, if_pos c2]]
    obtain ⟨N, hN⟩ : ∃ N, N = St.bs (fun c => !elt L d[m]! d[c]!) (m - a) a m := ⟨_, rfl⟩
    rw [← hN]
    have q1 : (((b : Int) - m) == 1) = true := by simp only [beq_iff_eq]; omega
    have HN := Lib.hid hN
    have hmb : m < n := by omega
    clear hN c1 c2
    go_enter Try.func66, Try.ntmps66
    go_upto_block 4 with fail
    clear q0 q1
    go_cut [14] from 83 to 106 (fun s14 wx => s14 = .int .i64 N ∧ a ≤ N ∧ N ≤ m ∧ SW L w0 g n d wx)
    case first =>
      go_wp2_with fail
      go_loopw [14, 15] (fun lo hi wr => BsRel L w0 g n d (fun c => !elt L d[m]! d[c]!) (a) (m) N lo hi wr) (fun lo hi _ => (intOf hi).toNat - (intOf lo).toNat)
      case atStart => exact ⟨a, m, m - a, rfl, rfl, Nat.le_refl _, by omega, Nat.le_refl _, Nat.le_refl _, HS.out, HN.out.symm⟩
      case round =>
        obtain ⟨x1, y1, k, rfl, rfl, l1, l2, l3, l4, hs, hb⟩ := hrel
        have HR := Lib.hid hs
        have HB := Lib.hid hb
        clear hs hb HS
        by_cases hlt : x1 < y1
        · obtain ⟨c, hc⟩ : ∃ c, c = (x1 + y1) / 2 := ⟨_, rfl⟩
          have hce : ((x1 : Int) + y1) / 2 = c := by omega
          have hc1 : x1 ≤ c ∧ c < y1 := by omega
          have HYES := Lib.hid (show (!elt L d[m]! d[c]!) = true → ∃ k', y1 - (c + 1) ≤ k' ∧ St.bs (fun c => !elt L d[m]! d[c]!) k' (c + 1) y1 = N from fun hf => by subst hc; exact bs_yes HB.out hlt l4 hf)
          have HNO := Lib.hid (show (!elt L d[m]! d[c]!) = false → ∃ k', c - x1 ≤ k' ∧ St.bs (fun c => !elt L d[m]! d[c]!) k' x1 c = N from fun hf => by subst hc; exact bs_no HB.out hlt l4 hf)
          have i1 : (0 : Int) ≤ c ∧ (c : Int) < n := by omega
          have HCE := Lib.hid hce
          clear hc hce
          go_upto_region 17 with fail
          rw [HCE.out]
          have i2 : (0 : Int) ≤ m ∧ (m : Int) < n := by omega
          obtain ⟨x, hx⟩ : ∃ x, x = L.getD (d)[m]! default := ⟨_, rfl⟩
          obtain ⟨y, hy⟩ : ∃ y, y = L.getD (d)[c]! default := ⟨_, rfl⟩
          have HX := Lib.hid hx
          have HY := Lib.hid hy
          have HTW := Lib.hid (show ∀ w', Below wr.heap.size wr w' → (Below wr.heap.size wr w' ∧ w'.cell? ⟨g, (m) * 4, none⟩ = some (.int .u64 x.hi) ∧ w'.cell? ⟨g, (m) * 4 + 1, none⟩ = some (.int .u64 x.lo) ∧ w'.cell? ⟨g, (m) * 4 + 2, none⟩ = some (.int .i64 x.id) ∧ w'.cell? ⟨g, (m) * 4 + 3, none⟩ = some (.slice x.p x.n x.c) ∧ w'.cell? ⟨g, (c) * 4, none⟩ = some (.int .u64 y.hi) ∧ w'.cell? ⟨g, (c) * 4 + 1, none⟩ = some (.int .u64 y.lo) ∧ w'.cell? ⟨g, (c) * 4 + 2, none⟩ = some (.int .i64 y.id) ∧ w'.cell? ⟨g, (c) * 4 + 3, none⟩ = some (.slice y.p y.n y.c)) from fun w' hb => ⟨hb, (HR.out.later hb).two (m) (c) (by omega) (by omega) x y HX.out HY.out⟩)
          have hc := sortfn_any x y
          unfold El.val at hc
          obtain ⟨z, hz⟩ : ∃ z, z = ecmp x y := ⟨_, rfl⟩
          rw [← hz] at hc
          have HC := Lib.hid (show ∀ w', Below wr.heap.size wr w' → Calls Try.prog 45 #[.agg #[.int .u64 x.hi, .int .u64 x.lo, .int .i64 x.id, .slice x.p x.n x.c], .agg #[.int .u64 y.hi, .int .u64 y.lo, .int .i64 y.id, .slice y.p y.n y.c]] w' fun e w'' => e = .returned (.int .i64 z) ∧ Below wr.heap.size wr w'' from fun w' hb => (hc w').mono fun e w'' h => ⟨h.1, hb.trans (h.2.mono hb.size)⟩)
          have HLT := Lib.hid (show elt L (d)[m]! (d)[c]! = decide (z < 0) by unfold elt; rw [hz, hx, hy])
          clear hx hy hc hz
          obtain ⟨bz, hbz⟩ : ∃ b, b = !decide (z < 0) := ⟨_, rfl⟩
          have HBZ := Lib.hid hbz
          clear hbz
          go_upto_region 17 with fail
          go_cut [103] from 92 to 102 (fun sv wx => sv = .bool bz ∧ SW L w0 g n (d) wx)
          case first =>
            go_region_held3 (fun w' => Below wr.heap.size wr w' ∧ w'.cell? ⟨g, (m) * 4, none⟩ = some (.int .u64 x.hi) ∧ w'.cell? ⟨g, (m) * 4 + 1, none⟩ = some (.int .u64 x.lo) ∧ w'.cell? ⟨g, (m) * 4 + 2, none⟩ = some (.int .i64 x.id) ∧ w'.cell? ⟨g, (m) * 4 + 3, none⟩ = some (.slice x.p x.n x.c) ∧ w'.cell? ⟨g, (c) * 4, none⟩ = some (.int .u64 y.hi) ∧ w'.cell? ⟨g, (c) * 4 + 1, none⟩ = some (.int .u64 y.lo) ∧ w'.cell? ⟨g, (c) * 4 + 2, none⟩ = some (.int .i64 y.id) ∧ w'.cell? ⟨g, (c) * 4 + 3, none⟩ = some (.slice y.p y.n y.c)) (first | assumption | exact HTW.out _ (Below.drew (Below.refl _ _)) | exact HTW.out _ (Below.refl _ _)) ((first
              | (go_at_call 45; (with_reducible refine (HC.out _ ?hx1).mono ?_); (case hx1 => first | assumption | exact (Below.refl _ _).drew | exact Below.refl _ _); rintro _ w7 ⟨rfl, hb7⟩; have k7 := HTW.out _ hb7)))
            all_goals
              go_wp2_with fail
              go_meet
              exact ⟨congrArg Value.bool (by first | (rw [HBZ.out]; done) | (rw [HBZ.out]; simp; done) | (rw [HBZ.out, Bool.eq_iff_iff]; simp)), HR.out.later hb7⟩
          case rest =>
            obtain ⟨rfl, hs3⟩ := hcut
            obtain ⟨w3, hw3⟩ : ∃ w3, w3 = wc := ⟨_, rfl⟩
            rw [← hw3] at hs3 ⊢
            clear hw3
            have HR3 := Lib.hid hs3
            clear hs3 HTW HC HX HY HR
            clear x y
            cases bz with
            | true =>
              obtain ⟨k', hk', hbs'⟩ := HYES.out (by rw [HLT.out]; exact HBZ.out.symm)
              have HBS := Lib.hid hbs'
              clear HBZ hbs' HLT HYES HNO
              go_wp2_with fail
              go_roundw
              case rel => exact ⟨c + 1, y1, k', by first | rfl | go_num, rfl, by omega, by omega, l3, hk', HR3.out, HBS.out⟩
              case measure => first | (simp [intOf]; done) | (simp [intOf]; omega)
            | false =>
              obtain ⟨k', hk', hbs'⟩ := HNO.out (by rw [HLT.out]; exact HBZ.out.symm)
              have HBS := Lib.hid hbs'
              clear HBZ hbs' HLT HYES HNO
              go_wp2_with fail
              go_roundw
              case rel => exact ⟨x1, c, k', rfl, rfl, l1, by omega, by omega, hk', HR3.out, HBS.out⟩
              case measure => first | (simp [intOf]; done) | (simp [intOf]; omega)
        · obtain rfl : x1 = N := bs_done HB.out hlt
          go_wp2_with fail
          go_meet
          exact ⟨rfl, l1, by omega, HR.out⟩
    case rest =>
      obtain ⟨rfl, g1, g2, hs8⟩ := hcut
      obtain ⟨w8, hw8⟩ : ∃ w3, w3 = wc := ⟨_, rfl⟩
      rw [← hw8] at hs8 ⊢
      clear hw8 HS
      have HS := Lib.hid hs8
      clear hs8
      go_wp2_with fail
      go_loopw [17] (fun i wr => ∃ t : Nat, N + t ≤ m ∧ i = .int .i64 ((m : Int) - t) ∧ SW L w0 g n (St.down m t d) wr) (fun i _ => (intOf i).toNat)
      case atStart => exact ⟨0, by omega, by first | rfl | go_num | (congr 1; omega), HS.out⟩
      case round =>
        obtain ⟨k, hk, rfl, hs⟩ := hrel
        have HR := Lib.hid hs
        clear hs HS
        by_cases hlt : N + k < m
        · have i1 : (0 : Int) ≤ (m : Int) - k ∧ (m : Int) - k < n := by omega
          have i2 : (0 : Int) ≤ (m : Int) - k - 1 ∧ (m : Int) - k - 1 < n := by omega
          have i3 : ((m : Int) - k).toNat = m - k := by omega
          have i4 : ((m : Int) - k - 1).toNat = m - k - 1 := by omega
          have i5 : (N : Int) < (m : Int) - k := by omega
          have i6 : (1 : Int) ≤ (m : Int) - k := by omega
          have hsw := HR.out.swap (m - k) (m - k - 1) (by omega) (by omega) (by omega)
          have ea := HR.out.row.elem (m - k) (by omega)
          have eb := HR.out.row.elem (m - k - 1) (by omega)
          have er0 := fun y => (HR.out.row.put (m - k) y).elem (m - k - 1) (by omega)
          obtain ⟨x, hxx⟩ : ∃ x, x = L.getD (St.down m k d)[m - k]! default := ⟨_, rfl⟩
          obtain ⟨y, hyy⟩ : ∃ y, y = L.getD (St.down m k d)[m - k - 1]! default := ⟨_, rfl⟩
          have er := er0 y
          rw [show upd (fun i => L.getD (St.down m k d)[i]! default) (m - k) y (m - k - 1) = y from by unfold upd; rw [if_neg (by omega), hyy]] at er
          rw [← hxx] at ea hsw
          rw [← hyy] at eb hsw
          have HSW := Lib.hid hsw
          unfold putE at er
          obtain ⟨a0, a1, a2, a3, a4, a5, a6, a7⟩ := ea
          obtain ⟨b0, b1, b2, b3, b4, b5, b6, b7⟩ := eb
          obtain ⟨r0, r1, r2, r3, r4, r5, r6, r7⟩ := er
          clear hsw er0 hxx hyy
          go_upto_region 23 with fail
          go_region
          all_goals
            have HS2 := HSW.out.later (Below.refl _ _).drew
            obtain ⟨w5, hw5⟩ : ∃ w5, w5 = (putE (putE wr g (m - k) y) g (m - k - 1) x).drew := ⟨_, rfl⟩
            rw [← hw5] at HS2
            unfold putE at hw5
            rw [← hw5]
            have HS5 := Lib.hid HS2
            clear HS2 hw5 a0 a1 a2 a3 a4 a5 a6 a7 b0 b1 b2 b3 b4 b5 b6 b7 r0 r1 r2 r3 r4 r5 r6 r7 i2 i3 i4 i5 i6
            go_wp2_with fail
            go_roundw
            case rel => exact ⟨k + 1, by omega, by first | rfl | go_num | (congr 1; omega), HS5.out⟩
            case measure => first | (simp [intOf]; done) | (simp [intOf]; omega)
        · have i5 : ¬ (N : Int) < (m : Int) - k := by omega
          obtain rfl : k = m - N := by omega
          go_wp2_with fail
          refine bodyPost_ret (results_none rfl _ _ _) rfl ?_
          exact ⟨rfl, HR.out⟩
  case neg =>
  have q1 : (((b : Int) - m) == 1) = false := by simp only [beq_eq_false_iff_ne, ne_eq]; omega
  obtain ⟨M, hM⟩ : ∃ M, M = (a + b) / 2 := ⟨_, rfl⟩
  have hMe : ((a : Int) + b) / 2 = M := by omega
  have hM1 : a < M ∧ M < b := by omega
  obtain ⟨LO, hLO⟩ : ∃ x, x = (if M < m then M + m - b else a) := ⟨_, rfl⟩
  obtain ⟨HI, hHI⟩ : ∃ x, x = (if M < m then M else m) := ⟨_, rfl⟩
  have hLH : LO ≤ HI ∧ HI ≤ m ∧ HI ≤ M ∧ a ≤ LO ∧ M + m ≤ b + LO := by
    by_cases hm : M < m
    · rw [if_pos hm] at hLO hHI; omega
    · rw [if_neg hm] at hLO hHI; omega
  obtain ⟨N, hN⟩ : ∃ N, N = St.bs (fun c => !elt L d[M + m - 1 - c]! d[c]!) (HI - LO) LO HI := ⟨_, rfl⟩
  have hst : St.startOf (elt L) d a m b = N := by
    unfold St.startOf
    rw [← hM, hN, hLO, hHI]
    by_cases hm : M < m
    · rw [if_pos hm, if_pos hm, if_pos hm]
    · rw [if_neg hm, if_neg hm, if_neg hm]
  obtain ⟨E, hE⟩ : ∃ E, E = M + m - N := ⟨_, rfl⟩
  obtain ⟨RES, hRES⟩ : ∃ R, R = St.symM (elt L) (F + 1) a m b d := ⟨_, rfl⟩
  rw [← hRES]
  have HRES := Lib.hid (show RES = (if M < E ∧ E < b then St.symM (elt L) F M E b (if a < N ∧ N < M then St.symM (elt L) F a N M (St.rotIf m N E d) else St.rotIf m N E d) else (if a < N ∧ N < M then St.symM (elt L) F a N M (St.rotIf m N E d) else St.rotIf m N E d)) from by rw [hRES, St.symM, if_neg c1, if_neg c2, hst, ← hM, ← hE])
  clear hRES
  have HN := Lib.hid hN
  have HE := Lib.hid hE
  have HLO := Lib.hid hLO
  have HHI := Lib.hid hHI
  have HME := Lib.hid hMe
  have hab2 : a + b ≤ 2 * M + 1 := by omega
  clear hM hMe hLO hHI hN hst hE c1 c2
  go_enter Try.func66, Try.ntmps66
  go_upto_region 25 with fail
  rw [HME.out]
  clear q0 q1
  go_upto_if 140 with fail
  go_cut [20, 21] from 141 to 146 (fun s20 s21 wx => s20 = .int .i64 LO ∧ s21 = .int .i64 HI ∧ wx = w)
  case first =>
    by_cases hm : M < m
    · have e1 := HLO.out
      have e2 := HHI.out
      rw [if_pos hm] at e1 e2
      have e3 : (M : Int) + m - b = LO := by omega
      have E3 := Lib.hid e3
      have e4 : HI = M := e2
      subst e4
      clear e1 e2 e3
      go_wp2_with fail
      go_meet
      exact ⟨congrArg (Value.int .i64) E3.out, rfl, rfl⟩
    · have e1 := HLO.out
      have e2 := HHI.out
      rw [if_neg hm] at e1 e2
      have hm2 : m ≤ M := by omega
      subst e1 e2
      go_wp2_with fail
      go_meet
      exact ⟨rfl, rfl, rfl⟩
  case rest =>
  obtain ⟨rfl, rfl, hww⟩ := hcut
  obtain ⟨w1, hw1⟩ : ∃ w3, w3 = wc := ⟨_, rfl⟩
  rw [← hw1] at hww ⊢
  clear hw1
  subst hww
  clear HLO HHI
  go_upto_block 8 with fail
  go_cut [20] from 149 to 174 (fun s20 wx => s20 = .int .i64 N ∧ LO ≤ N ∧ N ≤ HI ∧ SW L w0 g n d wx)
  case first =>
    go_wp2_with fail
    go_loopw [20, 21] (fun lo hi wr => BsRel L w0 g n d (fun c => !elt L d[M + m - 1 - c]! d[c]!) (LO) (HI) N lo hi wr) (fun lo hi _ => (intOf hi).toNat - (intOf lo).toNat)
    case atStart => exact ⟨LO, HI, HI - LO, rfl, rfl, Nat.le_refl _, by omega, Nat.le_refl _, Nat.le_refl _, HS.out, HN.out.symm⟩
    case round =>
      obtain ⟨x1, y1, k, rfl, rfl, l1, l2, l3, l4, hs, hb⟩ := hrel
      have HR := Lib.hid hs
      have HB := Lib.hid hb
      clear hs hb HS
      by_cases hlt : x1 < y1
      · obtain ⟨c, hc⟩ : ∃ c, c = (x1 + y1) / 2 := ⟨_, rfl⟩
        have hce : ((x1 : Int) + y1) / 2 = c := by omega
        have hc1 : x1 ≤ c ∧ c < y1 := by omega
        have HYES := Lib.hid (show (!elt L d[M + m - 1 - c]! d[c]!) = true → ∃ k', y1 - (c + 1) ≤ k' ∧ St.bs (fun c => !elt L d[M + m - 1 - c]! d[c]!) k' (c + 1) y1 = N from fun hf => by subst hc; exact bs_yes HB.out hlt l4 hf)
        have HNO := Lib.hid (show (!elt L d[M + m - 1 - c]! d[c]!) = false → ∃ k', c - x1 ≤ k' ∧ St.bs (fun c => !elt L d[M + m - 1 - c]! d[c]!) k' x1 c = N from fun hf => by subst hc; exact bs_no HB.out hlt l4 hf)
        have i1 : (0 : Int) ≤ c ∧ (c : Int) < n := by omega
        have HCE := Lib.hid hce
        clear hc hce
        go_upto_region 35 with fail
        rw [HCE.out]
        obtain ⟨pj, hpj⟩ : ∃ pj, pj = M + m - 1 - c := ⟨_, rfl⟩
        rw [← hpj] at HYES HNO
        have i2 : (0 : Int) ≤ pj ∧ (pj : Int) < n := by omega
        have i4 : IntKind.i64.wrap ((M : Int) + m - 1 - c) = pj := by rw [show (M : Int) + m - 1 - c = pj by omega]; exact IntWalk.i64_in _ (by omega)
        clear hpj
        obtain ⟨x, hx⟩ : ∃ x, x = L.getD (d)[pj]! default := ⟨_, rfl⟩
        obtain ⟨y, hy⟩ : ∃ y, y = L.getD (d)[c]! default := ⟨_, rfl⟩
        have HX := Lib.hid hx
        have HY := Lib.hid hy
        have HTW := Lib.hid (show ∀ w', Below wr.heap.size wr w' → (Below wr.heap.size wr w' ∧ w'.cell? ⟨g, (pj) * 4, none⟩ = some (.int .u64 x.hi) ∧ w'.cell? ⟨g, (pj) * 4 + 1, none⟩ = some (.int .u64 x.lo) ∧ w'.cell? ⟨g, (pj) * 4 + 2, none⟩ = some (.int .i64 x.id) ∧ w'.cell? ⟨g, (pj) * 4 + 3, none⟩ = some (.slice x.p x.n x.c) ∧ w'.cell? ⟨g, (c) * 4, none⟩ = some (.int .u64 y.hi) ∧ w'.cell? ⟨g, (c) * 4 + 1, none⟩ = some (.int .u64 y.lo) ∧ w'.cell? ⟨g, (c) * 4 + 2, none⟩ = some (.int .i64 y.id) ∧ w'.cell? ⟨g, (c) * 4 + 3, none⟩ = some (.slice y.p y.n y.c)) from fun w' hb => ⟨hb, (HR.out.later hb).two (pj) (c) (by omega) (by omega) x y HX.out HY.out⟩)
        have hc := sortfn_any x y
        unfold El.val at hc
        obtain ⟨z, hz⟩ : ∃ z, z = ecmp x y := ⟨_, rfl⟩
        rw [← hz] at hc
        have HC := Lib.hid (show ∀ w', Below wr.heap.size wr w' → Calls Try.prog 45 #[.agg #[.int .u64 x.hi, .int .u64 x.lo, .int .i64 x.id, .slice x.p x.n x.c], .agg #[.int .u64 y.hi, .int .u64 y.lo, .int .i64 y.id, .slice y.p y.n y.c]] w' fun e w'' => e = .returned (.int .i64 z) ∧ Below wr.heap.size wr w'' from fun w' hb => (hc w').mono fun e w'' h => ⟨h.1, hb.trans (h.2.mono hb.size)⟩)
        have HLT := Lib.hid (show elt L (d)[pj]! (d)[c]! = decide (z < 0) by unfold elt; rw [hz, hx, hy])
        clear hx hy hc hz
        obtain ⟨bz, hbz⟩ : ∃ b, b = !decide (z < 0) := ⟨_, rfl⟩
        have HBZ := Lib.hid hbz
        clear hbz
        go_upto_region 35 with fail
        go_cut [171] from 158 to 170 (fun sv wx => sv = .bool bz ∧ SW L w0 g n (d) wx)
        case first =>
          go_region_held3 (fun w' => Below wr.heap.size wr w' ∧ w'.cell? ⟨g, (pj) * 4, none⟩ = some (.int .u64 x.hi) ∧ w'.cell? ⟨g, (pj) * 4 + 1, none⟩ = some (.int .u64 x.lo) ∧ w'.cell? ⟨g, (pj) * 4 + 2, none⟩ = some (.int .i64 x.id) ∧ w'.cell? ⟨g, (pj) * 4 + 3, none⟩ = some (.slice x.p x.n x.c) ∧ w'.cell? ⟨g, (c) * 4, none⟩ = some (.int .u64 y.hi) ∧ w'.cell? ⟨g, (c) * 4 + 1, none⟩ = some (.int .u64 y.lo) ∧ w'.cell? ⟨g, (c) * 4 + 2, none⟩ = some (.int .i64 y.id) ∧ w'.cell? ⟨g, (c) * 4 + 3, none⟩ = some (.slice y.p y.n y.c)) (first | assumption | exact HTW.out _ (Below.drew (Below.refl _ _)) | exact HTW.out _ (Below.refl _ _)) ((first
            | (go_at_call 45; (with_reducible refine (HC.out _ ?hx1).mono ?_); (case hx1 => first | assumption | exact (Below.refl _ _).drew | exact Below.refl _ _); rintro _ w7 ⟨rfl, hb7⟩; have k7 := HTW.out _ hb7)))
          all_goals
            go_wp2_with fail
            go_meet
            exact ⟨congrArg Value.bool (by first | (rw [HBZ.out]; done) | (rw [HBZ.out]; simp; done) | (rw [HBZ.out, Bool.eq_iff_iff]; simp)), HR.out.later hb7⟩
        case rest =>
          obtain ⟨rfl, hs3⟩ := hcut
          obtain ⟨w3, hw3⟩ : ∃ w3, w3 = wc := ⟨_, rfl⟩
          rw [← hw3] at hs3 ⊢
          clear hw3
          have HR3 := Lib.hid hs3
          clear hs3 HTW HC HX HY HR
          clear x y
          cases bz with
          | true =>
            obtain ⟨k', hk', hbs'⟩ := HYES.out (by rw [HLT.out]; exact HBZ.out.symm)
            have HBS := Lib.hid hbs'
            clear HBZ hbs' HLT HYES HNO
            go_wp2_with fail
            go_roundw
            case rel => exact ⟨c + 1, y1, k', by first | rfl | go_num, rfl, by omega, by omega, l3, hk', HR3.out, HBS.out⟩
            case measure => first | (simp [intOf]; done) | (simp [intOf]; omega)
          | false =>
            obtain ⟨k', hk', hbs'⟩ := HNO.out (by rw [HLT.out]; exact HBZ.out.symm)
            have HBS := Lib.hid hbs'
            clear HBZ hbs' HLT HYES HNO
            go_wp2_with fail
            go_roundw
            case rel => exact ⟨x1, c, k', rfl, rfl, l1, by omega, by omega, hk', HR3.out, HBS.out⟩
            case measure => first | (simp [intOf]; done) | (simp [intOf]; omega)
      · obtain rfl : x1 = N := bs_done HB.out hlt
        go_wp2_with fail
        go_meet
        exact ⟨rfl, l1, by omega, HR.out⟩
  case rest =>
  obtain ⟨rfl, g1, g2, hs8⟩ := hcut
  obtain ⟨wa0, hw8⟩ : ∃ w3, w3 = wc := ⟨_, rfl⟩
  rw [← hw8] at hs8 ⊢
  clear hw8 HS
  have HS := Lib.hid hs8
  clear hs8
  have hEe : (M : Int) + m - N = E := by have := HE.out; omega
  have HEE := Lib.hid hEe
  have hE1 : m ≤ E ∧ E ≤ b ∧ M ≤ E := by have := HE.out; omega
  clear hEe
  go_upto_region 39 with fail
  rw [HEE.out]
  obtain ⟨bz, hbz⟩ : ∃ b, b = decide (N < m ∧ m < E) := ⟨_, rfl⟩
  go_upto_region 39 with fail
  go_cut [185] from 178 to 184 (fun sv wx => sv = .bool bz ∧ wx = wa0)
  case first =>
    by_cases p1 : N < m
    · by_cases p2 : m < E
      · obtain rfl : bz = true := by rw [hbz]; exact decide_eq_true ⟨p1, p2⟩
        clear hbz
        go_wp2_with fail
        go_meet
        exact ⟨rfl, rfl⟩
      · obtain rfl : bz = false := by rw [hbz]; exact decide_eq_false (fun h => p2 h.2)
        clear hbz
        go_wp2_with fail
        go_meet
        exact ⟨rfl, rfl⟩
    · obtain rfl : bz = false := by rw [hbz]; exact decide_eq_false (fun h => p1 h.1)
      clear hbz
      go_wp2_with fail
      go_meet
      exact ⟨rfl, rfl⟩
  case rest =>
  obtain ⟨rfl, hww⟩ := hcut
  obtain ⟨wa1, hw1⟩ : ∃ w3, w3 = wc := ⟨_, rfl⟩
  rw [← hw1] at hww ⊢
  clear hw1
  subst hww
  have HBZ := Lib.hid hbz
  clear hbz
  go_upto_if 185 with fail
  go_cut [24] from 186 to 191 (fun sv wx => sv = .int .i64 E ∧ SW L w0 g n (St.rotIf m N E d) wx)
  case first =>
    cases bz with
    | true =>
      have hpp := of_decide_eq_true HBZ.out.symm
      obtain ⟨p1, p2⟩ := hpp
      have HC := Lib.hid (show Calls Try.prog 68 _ wa1 _ from rotate_any L w0 g n cap N m E d (.func (.func 45) #[] #[]) wa1 HS.out p1 p2 (by omega) hn)
      have HP := Lib.hid (show St.rot m (m - N + (E - m)) (m - N) (E - m) d = St.rotIf m N E d from by unfold St.rotIf; rw [if_pos ⟨p1, p2⟩])
      go_wp2_with fail
      refine HC.out.mono ?_
      rintro _ w7 ⟨rfl, hs7⟩
      rw [HP.out] at hs7
      have HS7 := Lib.hid hs7
      clear hs7
      go_wp2_with fail
      go_meet
      exact ⟨rfl, HS7.out⟩
    | false =>
      have hpp := of_decide_eq_false HBZ.out.symm
      have HP := Lib.hid (show d = St.rotIf m N E d from by unfold St.rotIf; rw [if_neg hpp])
      clear hpp
      go_wp2_with fail
      go_meet
      exact ⟨rfl, by rw [← HP.out]; exact HS.out⟩
  case rest =>
  obtain ⟨rfl, hs8⟩ := hcut
  obtain ⟨wa2, hw8⟩ : ∃ w3, w3 = wc := ⟨_, rfl⟩
  rw [← hw8] at hs8 ⊢
  clear hw8 HS HBZ
  have HS := Lib.hid hs8
  clear hs8
  obtain ⟨d1, hd1⟩ : ∃ d1, d1 = St.rotIf m N E d := ⟨_, rfl⟩
  rw [← hd1] at HS
  have HD1 := Lib.hid hd1
  clear hd1
  obtain ⟨wb0, hwb⟩ : ∃ x, x = wa2 := ⟨_, rfl⟩
  rw [← hwb] at HS ⊢
  clear hwb
  obtain ⟨bz, hbz⟩ : ∃ b, b = decide (a < N ∧ N < M) := ⟨_, rfl⟩
  go_upto_region 41 with fail
  go_cut [199] from 192 to 198 (fun sv wx => sv = .bool bz ∧ wx = wb0)
  case first =>
    by_cases p1 : a < N
    · by_cases p2 : N < M
      · obtain rfl : bz = true := by rw [hbz]; exact decide_eq_true ⟨p1, p2⟩
        clear hbz
        go_wp2_with fail
        go_meet
        exact ⟨rfl, rfl⟩
      · obtain rfl : bz = false := by rw [hbz]; exact decide_eq_false (fun h => p2 h.2)
        clear hbz
        go_wp2_with fail
        go_meet
        exact ⟨rfl, rfl⟩
    · obtain rfl : bz = false := by rw [hbz]; exact decide_eq_false (fun h => p1 h.1)
      clear hbz
      go_wp2_with fail
      go_meet
      exact ⟨rfl, rfl⟩
  case rest =>
  obtain ⟨rfl, hww⟩ := hcut
  obtain ⟨wb1, hw1⟩ : ∃ w3, w3 = wc := ⟨_, rfl⟩
  rw [← hw1] at hww ⊢
  clear hw1
  subst hww
  have HBZ := Lib.hid hbz
  clear hbz
  go_upto_if 199 with fail
  go_cut [24] from 200 to 205 (fun sv wx => sv = .int .i64 E ∧ SW L w0 g n (if a < N ∧ N < M then St.symM (elt L) F a N M d1 else d1) wx)
  case first =>
    cases bz with
    | true =>
      have hpp := of_decide_eq_true HBZ.out.symm
      obtain ⟨p1, p2⟩ := hpp
      have HC := Lib.hid (show Calls Try.prog 66 _ wb1 _ from IH.out a N M d1 wb1 HS.out p1 p2 (by omega) (by omega))
      have HP := Lib.hid (show St.symM (elt L) F a N M d1 = if a < N ∧ N < M then St.symM (elt L) F a N M d1 else d1 from by rw [if_pos ⟨p1, p2⟩])
      go_wp2_with fail
      refine HC.out.mono ?_
      rintro _ w7 ⟨rfl, hs7⟩
      rw [HP.out] at hs7
      have HS7 := Lib.hid hs7
      clear hs7
      go_wp2_with fail
      go_meet
      exact ⟨rfl, HS7.out⟩
    | false =>
      have hpp := of_decide_eq_false HBZ.out.symm
      have HP := Lib.hid (show d1 = if a < N ∧ N < M then St.symM (elt L) F a N M d1 else d1 from by rw [if_neg hpp])
      clear hpp
      go_wp2_with fail
      go_meet
      exact ⟨rfl, by rw [← HP.out]; exact HS.out⟩
  case rest =>
  obtain ⟨rfl, hs8⟩ := hcut
  obtain ⟨wb2, hw8⟩ : ∃ w3, w3 = wc := ⟨_, rfl⟩
  rw [← hw8] at hs8 ⊢
  clear hw8 HS HBZ
  have HS := Lib.hid hs8
  clear hs8
  obtain ⟨d2, hd2⟩ : ∃ d2, d2 = (if a < N ∧ N < M then St.symM (elt L) F a N M d1 else d1) := ⟨_, rfl⟩
  rw [← hd2] at HS
  have HD2 := Lib.hid hd2
  clear hd2
  by_cases pp : M < E ∧ E < b
  · have HC := Lib.hid (IH.out M E b d2 wb2 HS.out pp.1 pp.2 h3 (by omega))
    have p1 := pp.1
    have p2 := pp.2
    have HR2 := Lib.hid (show RES = St.symM (elt L) F M E b d2 from by rw [HRES.out, ← HD1.out, ← HD2.out, if_pos pp])
    clear pp
    go_wp2_with fail
    refine HC.out.mono ?_
    rintro _ w7 ⟨rfl, hs7⟩
    have HS7 := Lib.hid hs7
    clear hs7
    go_wp2_with fail
    go_end0
    exact ⟨rfl, by rw [HR2.out]; exact HS7.out⟩
  · have HR2 := Lib.hid (show RES = d2 from by rw [HRES.out, ← HD1.out, ← HD2.out, if_neg pp])
    by_cases p1 : M < E
    · have p2 : ¬ E < b := fun h => pp ⟨p1, h⟩
      clear pp
      go_wp2_with fail
      go_end0
      exact ⟨rfl, by rw [HR2.out]; exact HS.out⟩
    · clear pp
      go_wp2_with fail
      go_end0
      exact ⟨rfl, by rw [HR2.out]; exact HS.out⟩
end Go.Proofs.Ytddeomdmccnfbaa

/- slices' stable sort of rows with their places. -/
namespace Go.Proofs.Ytddeomdmccnfbaa
open Go.RowKit
open Go.Sort (insertionSort)

namespace St
def insB (lt : Nat → Nat → Bool) (n : Nat) : Nat → Nat → Array Nat → Array Nat
  | 0, _, d => d
  | f + 1, x, d => if x + 20 ≤ n then insB lt n f (x + 20) (insertionSort lt d x (x + 20)) else insertionSort lt d x n
def mergeP (lt : Nat → Nat → Bool) (s n : Nat) : Nat → Nat → Array Nat → Array Nat
  | 0, _, d => d
  | f + 1, x, d => if x + 2 * s ≤ n then mergeP lt s n f (x + 2 * s) (symM lt n x (x + s) (x + 2 * s) d) else if x + s < n then symM lt n x (x + s) n d else d
def stab (lt : Nat → Nat → Bool) (n : Nat) : Nat → Nat → Array Nat → Array Nat
  | 0, _, d => d
  | f + 1, s, d => if s < n then stab lt n f (2 * s) (mergeP lt s n (n + 1) 0 d) else d
/-- Go's stable sort. -/
def stable (lt : Nat → Nat → Bool) (n : Nat) (d : Array Nat) : Array Nat := stab lt n (n + 1) 20 (insB lt n (n + 1) 0 d)
end St
def SbRel (L : List El) (w0 : World) (g n : Nat) (RES : Array Nat) (a b : Value) (wr : World) : Prop :=
  ∃ (x f : Nat) (d : Array Nat), a = .int .i64 x ∧ b = .int .i64 ((x : Int) + 20) ∧ x ≤ n ∧ n - x < f ∧ SW L w0 g n d wr ∧ St.insB (elt L) n f x d = RES
def MpRel (L : List El) (w0 : World) (g n s : Nat) (RES : Array Nat) (a b : Value) (wr : World) : Prop :=
  ∃ (x f : Nat) (d : Array Nat), a = .int .i64 x ∧ b = .int .i64 ((x : Int) + 2 * s) ∧ x ≤ n ∧ n - x < f ∧ SW L w0 g n d wr ∧ St.mergeP (elt L) s n f x d = RES
def OtRel (L : List El) (w0 : World) (g n : Nat) (RES : Array Nat) (sv : Value) (wr : World) : Prop :=
  ∃ (s f : Nat) (d : Array Nat), sv = .int .i64 s ∧ 20 ≤ s ∧ s ≤ 2000 ∧ n < s + f ∧ SW L w0 g n d wr ∧ St.stab (elt L) n f s d = RES
set_option maxRecDepth 100000 in
set_option maxHeartbeats 4000000 in
theorem stable_any (L : List El) (w0 : World) (g n cap : Nat) (hn : n ≤ 1000) (d : Array Nat) (w : World) (h : SW L w0 g n d w) :
    Calls Try.prog 58 #[.slice (some ⟨g, 0, none⟩) n cap, .int .i64 n, .func (.func 45) #[] #[]] w fun e w' => e = .returned (.tuple #[]) ∧ SW L w0 g n (St.stable (elt L) n d) w' := by
  have HS := Lib.hid h
  clear h
  obtain ⟨RES, hRES⟩ : ∃ R, R = St.stable (elt L) n d := ⟨_, rfl⟩
  rw [← hRES]
  obtain ⟨INS, hINS⟩ : ∃ R, R = St.insB (elt L) n (n + 1) 0 d := ⟨_, rfl⟩
  have HI := Lib.hid hINS.symm
  have HR := Lib.hid (show St.stab (elt L) n (n + 1) 20 INS = RES from by rw [hRES, hINS]; rfl)
  clear hRES hINS
  go_enter Try.func58, Try.ntmps58
  go_wp2_with fail
  go_loopw [7, 8] (fun a b wr => SbRel L w0 g n INS a b wr) (fun a _ _ => n + 1 - (intOf a).toNat)
  case atStart => exact ⟨0, n + 1, d, rfl, rfl, by omega, by omega, HS.out, HI.out⟩
  case round =>
    obtain ⟨x, f, d1, rfl, rfl, hx, hf, hs, hr⟩ := hrel
    have HS1 := Lib.hid hs
    have HQ := Lib.hid hr
    clear hs hr HS
    obtain ⟨f', rfl⟩ : ∃ f', f = f' + 1 := ⟨f - 1, by omega⟩
    by_cases hlt : x + 20 ≤ n
    · have q1 : (x : Int) + 20 ≤ n := by omega
      have hc := insertion_any L w0 g n cap x (x + 20) d1 wr HS1.out (by omega) hlt hn
      rw [show ((x + 20 : Nat) : Int) = (x : Int) + 20 by omega] at hc
      have HC := Lib.hid hc
      have HE := Lib.hid (show St.insB (elt L) n f' (x + 20) (insertionSort (elt L) d1 x (x + 20)) = INS from by rw [← HQ.out, St.insB, if_pos hlt])
      clear hc
      go_wp2_with fail
      refine HC.out.mono ?_
      rintro _ w5 ⟨rfl, hs5⟩
      have HS5 := Lib.hid hs5
      clear hs5
      go_wp2_with fail
      go_roundw
      case rel => exact ⟨x + 20, f', _, by first | rfl | go_num, by first | rfl | go_num | (congr 1; omega), hlt, by omega, HS5.out, HE.out⟩
      case measure => first | (simp [intOf]; done) | (simp [intOf]; omega)
    · have q1 : ¬ (x : Int) + 20 ≤ n := by omega
      have hc := insertion_any L w0 g n cap x n d1 wr HS1.out hx (Nat.le_refl _) hn
      have HE := Lib.hid (show insertionSort (elt L) d1 x n = INS from by rw [← HQ.out, St.insB, if_neg hlt])
      rw [HE.out] at hc
      have HC := Lib.hid hc
      clear hc
      go_wp2_with fail
      refine HC.out.mono ?_
      rintro _ w5 ⟨rfl, hs5⟩
      have HS5 := Lib.hid hs5
      clear hs5 HS1 HQ HE HC HI q1 hlt hf
      go_wp2_with fail
      go_loopw [6] (fun sv wr => OtRel L w0 g n RES sv wr) (fun sv _ => n - (intOf sv).toNat)
      case atStart => exact ⟨20, n + 1, INS, rfl, by omega, by omega, by omega, HS5.out, HR.out⟩
      case round =>
        obtain ⟨s, f2, d2, rfl, hs1, hs2, hf2, hs, hr⟩ := hrel
        have HS2 := Lib.hid hs
        have HQ2 := Lib.hid hr
        clear hs hr HS5
        by_cases hsn : s < n
        · obtain ⟨f3, rfl⟩ : ∃ f3, f2 = f3 + 1 := ⟨f2 - 1, by omega⟩
          obtain ⟨MP, hMP⟩ : ∃ R, R = St.mergeP (elt L) s n (n + 1) 0 d2 := ⟨_, rfl⟩
          have HM := Lib.hid hMP.symm
          have HE2 := Lib.hid (show St.stab (elt L) n f3 (2 * s) MP = RES from by rw [← HQ2.out, St.stab, if_pos hsn, hMP])
          clear hMP
          go_wp2_with fail
          go_loopw [7, 8] (fun a b wr => MpRel L w0 g n s MP a b wr) (fun a _ _ => n + 1 - (intOf a).toNat)
          case atStart => exact ⟨0, n + 1, d2, rfl, by first | rfl | go_num | (congr 1; omega), by omega, by omega, HS2.out, HM.out⟩
          case round =>
            obtain ⟨y, f4, d3, rfl, rfl, hy, hf4, hs, hr⟩ := hrel
            have HS3 := Lib.hid hs
            have HQ3 := Lib.hid hr
            clear hs hr HS2
            obtain ⟨f5, rfl⟩ : ∃ f5, f4 = f5 + 1 := ⟨f4 - 1, by omega⟩
            by_cases hlt : y + 2 * s ≤ n
            · have q2 : (y : Int) + 2 * s ≤ n := by omega
              have hc := symmerge_any L w0 g n cap hn n y (y + s) (y + 2 * s) d3 wr HS3.out (by omega) (by omega) hlt (by omega)
              rw [show ((y + 2 * s : Nat) : Int) = (y : Int) + 2 * s by omega, show ((y + s : Nat) : Int) = (y : Int) + s by omega] at hc
              have HC := Lib.hid hc
              have HE := Lib.hid (show St.mergeP (elt L) s n f5 (y + 2 * s) (St.symM (elt L) n y (y + s) (y + 2 * s) d3) = MP from by rw [← HQ3.out, St.mergeP, if_pos hlt])
              clear hc
              go_wp2_with fail
              refine HC.out.mono ?_
              rintro _ w5 ⟨rfl, hs5⟩
              have HS6 := Lib.hid hs5
              clear hs5
              go_wp2_with fail
              go_roundw
              case rel => exact ⟨y + 2 * s, f5, _, congrArg (Value.int .i64) (by omega), congrArg (Value.int .i64) (by omega), hlt, by omega, HS6.out, HE.out⟩
              case measure => first | (simp [intOf]; done) | (simp [intOf]; omega)
            · have q2 : ¬ (y : Int) + 2 * s ≤ n := by omega
              by_cases hl2 : y + s < n
              · have q3 : (y : Int) + s < n := by omega
                have hc := symmerge_any L w0 g n cap hn n y (y + s) n d3 wr HS3.out (by omega) hl2 (Nat.le_refl _) (by omega)
                rw [show ((y + s : Nat) : Int) = (y : Int) + s by omega, show St.symM (elt L) n y (y + s) n d3 = MP from by rw [← HQ3.out, St.mergeP, if_neg hlt, if_pos hl2]] at hc
                have HC := Lib.hid hc
                clear hc
                go_wp2_with fail
                refine HC.out.mono ?_
                rintro _ w5 ⟨rfl, hs5⟩
                have HS6 := Lib.hid hs5
                clear hs5
                go_wp2_with fail
                go_roundw
                case rel => exact ⟨2 * s, f3, MP, congrArg (Value.int .i64) (by omega), by omega, by omega, by omega, HS6.out, HE2.out⟩
                case measure => first | (simp [intOf]; done) | (simp [intOf]; omega)
              · have q3 : ¬ (y : Int) + s < n := by omega
                have HE := Lib.hid (show d3 = MP from by rw [← HQ3.out, St.mergeP, if_neg hlt, if_neg hl2])
                go_wp2_with fail
                go_roundw
                case rel => exact ⟨2 * s, f3, MP, congrArg (Value.int .i64) (by omega), by omega, by omega, by omega, by rw [← HE.out]; exact HS3.out, HE2.out⟩
                case measure => first | (simp [intOf]; done) | (simp [intOf]; omega)
        · have HE := Lib.hid (show d2 = RES from by
            rw [← HQ2.out]
            cases f2 with
            | zero => rfl
            | succ f3 => rw [St.stab, if_neg hsn])
          go_wp2_with fail
          go_end0
          exact ⟨rfl, by rw [← HE.out]; exact HS2.out⟩
set_option maxRecDepth 100000 in
theorem sortstable_any (L : List El) (w0 : World) (g n cap : Nat) (hn : n ≤ 1000) (d : Array Nat) (w : World) (h : SW L w0 g n d w) :
    Calls Try.prog 44 #[.slice (some ⟨g, 0, none⟩) n cap, .func (.func 45) #[] #[]] w fun e w' => e = .returned (.tuple #[]) ∧ SW L w0 g n (St.stable (elt L) n d) w' := by
  have HC := Lib.hid (stable_any L w0 g n cap hn d w h)
  clear h
  go_enter Try.func44, Try.ntmps44
  go_wp2_with fail
  refine HC.out.mono ?_
  rintro _ w5 ⟨rfl, hs5⟩
  have HS := Lib.hid hs5
  clear hs5
  go_wp2_with fail
  go_end0
  exact ⟨rfl, HS.out⟩
end Go.Proofs.Ytddeomdmccnfbaa

/- box.Ahead. -/
namespace Go.Proofs.Ytddeomdmccnfbaa
open Go.RowKit

theorem dcmp_cases {a b c d : Int} (hb : 0 ≤ b ∧ b < 18446744073709551616) (hd : 0 ≤ d ∧ d < 18446744073709551616) :
    (dcmp a b c d = 0 ∧ a * 18446744073709551616 + b = c * 18446744073709551616 + d) ∨ (dcmp a b c d = -1 ∧ a * 18446744073709551616 + b < c * 18446744073709551616 + d) ∨ (dcmp a b c d = 1 ∧ c * 18446744073709551616 + d < a * 18446744073709551616 + b) := by
  unfold dcmp
  split
  · rename_i h
    obtain ⟨rfl, rfl⟩ := h
    exact Or.inl ⟨rfl, rfl⟩
  · split
    · exact Or.inr (Or.inl ⟨rfl, by omega⟩)
    · exact Or.inr (Or.inr ⟨rfl, by omega⟩)
/-- A place is ahead, if its key is less, or the same and its id less. -/
theorem pcmp_neg {a b i c d j K M : Int} (hK : K = a * 18446744073709551616 + b) (hM : M = c * 18446744073709551616 + d) (hb : 0 ≤ b ∧ b < 18446744073709551616) (hd : 0 ≤ d ∧ d < 18446744073709551616) :
    pcmp a b i c d j < 0 ↔ K < M ∨ K = M ∧ i < j := by
  unfold pcmp
  rcases dcmp_cases (a := a) (b := b) (c := c) (d := d) hb hd with ⟨h, h2⟩ | ⟨h, h2⟩ | ⟨h, h2⟩
  · rw [h, if_pos rfl]
    unfold icmp
    split
    · omega
    · split <;> omega
  · rw [h, if_neg (by omega)]; omega
  · rw [h, if_neg (by omega)]; omega
set_option maxRecDepth 100000 in
set_option maxHeartbeats 4000000 in
theorem ahead_any (kd cl : Int) (q p r : Option Addr) (an ac n c m e : Nat) (A P Q : List Int) (w : World) (hA : Ints w q an ac A) (hP : Ints w p n c P) (hQ : Ints w r m e Q) :
    Calls Try.prog 19 #[.agg #[.int .u8 kd, .int .i64 cl, .slice q an ac], .slice p n c, .slice r m e] w fun e w' => e = .returned (.bool (decide (aheadP kd cl A P Q an n m))) ∧ Below w.heap.size w w' := by
  have hb : Below w.heap.size w (w.alloc (.cells #[.int .u8 kd, .int .i64 cl, .slice q an ac] 34)) := (Below.refl _ _).alloc (Nat.le_refl _) _
  have hs : w.heap.size < (w.alloc (.cells #[.int .u8 kd, .int .i64 cl, .slice q an ac] 34)).heap.size := by simp
  obtain ⟨e0, e1, e2⟩ := three_alloc w (.int .u8 kd) (.int .i64 cl) (.slice q an ac) 34
  have HA := Lib.hid (hA.later hb)
  have HP := Lib.hid (hP.later hb)
  have HQ := Lib.hid (hQ.later hb)
  have HB := Lib.hid hb
  have HK1 := Lib.hid (key_bound kd cl A P an n hA.ok hP.ok)
  have HK2 := Lib.hid (key_bound kd cl A Q an m hA.ok hQ.ok)
  clear hA hP hQ hb
  go_enter Try.func19, Try.ntmps19
  go_upto_region 1 with fail
  generalize w.alloc (.cells #[.int .u8 kd, .int .i64 cl, .slice q an ac] 34) = w1 at *
  go_wp2_with fail
  refine (ordright_any kd cl n q an ac w1).mono ?_
  rintro _ w2 ⟨rfl, hb2⟩
  have f0 := (hb2.cell (p := ⟨w.heap.size, 0, none⟩) hs).trans e0
  have f1 := (hb2.cell (p := ⟨w.heap.size, 1, none⟩) hs).trans e1
  have f2 := (hb2.cell (p := ⟨w.heap.size, 2, none⟩) hs).trans e2
  have GA := Lib.hid (HA.out.later hb2)
  have GP := Lib.hid (HP.out.later hb2)
  have GQ := Lib.hid (HQ.out.later hb2)
  have GB := Lib.hid (HB.out.trans (hb2.mono HB.out.size))
  have hs2 := Nat.lt_of_lt_of_le hs hb2.size
  have HS2 := Lib.hid hs2
  clear hb2 e0 e1 e2 HA HP HQ HB hs hs2
  by_cases ho : ordP kd cl an n
  case neg =>
    rw [decide_eq_false ho]
    have HN := Lib.hid (show ¬ aheadP kd cl A P Q an n m from fun h => ho h.1)
    clear ho
    go_wp2_with fail
    go_ret
    exact ⟨ret_ndec HN.out, GB.out⟩
  rw [decide_eq_true ho]
  by_cases hm : (m : Int) = n
  case neg =>
    have q1 : ((n : Int) != m) = true := by simp only [bne_iff_ne, ne_eq]; omega
    have HN := Lib.hid (show ¬ aheadP kd cl A P Q an n m from fun h => hm (by have := h.2.2.1; omega))
    clear ho hm
    go_wp2_with fail
    go_ret
    exact ⟨ret_ndec HN.out, GB.out⟩
  obtain rfl : m = n := by omega
  obtain ⟨a1, b1, hd1, hk1, hb1, hb1'⟩ := dV_parts _ HK1.out
  obtain ⟨a2, b2, hd2, hk2, hb2, hb2'⟩ := dV_parts _ HK2.out
  have hp1 := fun w' (hb : Below w2.heap.size w2 w') => placeof_any kd cl q p p an ac m c c A P P w' (GA.out.later hb) (GP.out.later hb) (GP.out.later hb) ho
  have hp2 := fun w' (hb : Below w2.heap.size w2 w') => placeof_any kd cl q r r an ac m e e A Q Q w' (GA.out.later hb) (GQ.out.later hb) (GQ.out.later hb) ho
  rw [least_key ho, plV_parts _ hd1] at hp1
  rw [least_key ho, plV_parts _ hd2] at hp2
  have HR := Lib.hid (show pcmp a1 b1 (P.getD 0 0) a2 b2 (Q.getD 0 0) < 0 ↔ aheadP kd cl A P Q an m m from by
    rw [pcmp_neg hk1 hk2 ⟨hb1, hb1'⟩ ⟨hb2, hb2'⟩]
    exact ⟨fun h => ⟨ho, ho, rfl, h⟩, fun h => h.2.2.2⟩)
  have hcm := fun w' => compare_any a1 b1 (P.getD 0 0) a2 b2 (Q.getD 0 0) w'
  generalize P.getD 0 0 = i at *
  generalize Q.getD 0 0 = j at *
  obtain ⟨z, hz⟩ : ∃ z, z = pcmp a1 b1 i a2 b2 j := ⟨_, rfl⟩
  rw [← hz] at HR hcm
  have HC := Lib.hid (show ∀ w', Below w2.heap.size w2 w' → Calls Try.prog 42 #[.agg #[.int .u64 a1, .int .u64 b1, .int .i64 i], .agg #[.int .u64 a2, .int .u64 b2, .int .i64 j]] w' fun e w'' => e = .returned (.int .i64 z) ∧ Below w2.heap.size w2 w'' from fun w' hb => (hcm w').mono fun e w'' h => ⟨h.1, hb.trans (h.2.mono hb.size)⟩)
  have H1 := Lib.hid (show ∀ w', Below w2.heap.size w2 w' → Calls Try.prog 41 #[.agg #[.int .u8 kd, .int .i64 cl, .slice q an ac], .slice p m c, .slice p m c] w' fun e w'' => e = .returned (.agg #[.int .u64 a1, .int .u64 b1, .int .i64 i]) ∧ Below w2.heap.size w2 w'' from fun w' hb => (hp1 w' hb).mono fun e w'' h => ⟨h.1, hb.trans (h.2.mono hb.size)⟩)
  have H2 := Lib.hid (show ∀ w', Below w2.heap.size w2 w' → Calls Try.prog 41 #[.agg #[.int .u8 kd, .int .i64 cl, .slice q an ac], .slice r m e, .slice r m e] w' fun e w'' => e = .returned (.agg #[.int .u64 a2, .int .u64 b2, .int .i64 j]) ∧ Below w2.heap.size w2 w'' from fun w' hb => (hp2 w' hb).mono fun e w'' h => ⟨h.1, hb.trans (h.2.mono hb.size)⟩)
  have HF := Lib.hid (show ∀ w', Below w2.heap.size w2 w' → (Below w2.heap.size w2 w' ∧ w'.cell? ⟨w.heap.size, 0, none⟩ = some (.int .u8 kd) ∧ w'.cell? ⟨w.heap.size, 1, none⟩ = some (.int .i64 cl) ∧ w'.cell? ⟨w.heap.size, 2, none⟩ = some (.slice q an ac)) from fun w' hb => ⟨hb, (hb.cell (p := ⟨w.heap.size, 0, none⟩) HS2.out).trans f0, (hb.cell (p := ⟨w.heap.size, 1, none⟩) HS2.out).trans f1, (hb.cell (p := ⟨w.heap.size, 2, none⟩) HS2.out).trans f2⟩)
  have q1 : ((m : Int) != m) = false := by simp
  clear ho hm hz hcm hp1 hp2 hd1 hd2 hk1 hk2 hb1 hb1' hb2 hb2' HK1 HK2
  go_upto_region 3 with fail
  go_region_held3 (fun w' => Below w2.heap.size w2 w' ∧ w'.cell? ⟨w.heap.size, 0, none⟩ = some (.int .u8 kd) ∧ w'.cell? ⟨w.heap.size, 1, none⟩ = some (.int .i64 cl) ∧ w'.cell? ⟨w.heap.size, 2, none⟩ = some (.slice q an ac)) (first | assumption | exact HF.out _ (Below.drew (Below.refl _ _)) | exact HF.out _ (Below.refl _ _)) ((first
    | (go_at_call 41; (with_reducible refine (H1.out _ ?hx1).mono ?_); (case hx1 => first | assumption | exact (Below.refl _ _).drew | exact Below.refl _ _); rintro _ w5 ⟨rfl, hb5⟩; have k5 := HF.out _ hb5)
    | (go_at_call 41; (with_reducible refine (H2.out _ ?hx2).mono ?_); (case hx2 => first | assumption | exact (Below.refl _ _).drew | exact Below.refl _ _); rintro _ w6 ⟨rfl, hb6⟩; have k6 := HF.out _ hb6)
    | (go_at_call 42; (with_reducible refine (HC.out _ ?hx3).mono ?_); (case hx3 => first | assumption | exact (Below.refl _ _).drew | exact Below.refl _ _); rintro _ w7 ⟨rfl, hb7⟩; have k7 := HF.out _ hb7)))
  all_goals
    go_wp2_with fail
    go_ret
    exact ⟨ret_decB (by rw [decide_eq_true_eq]; exact HR.out), GB.out.trans (hb7.mono GB.out.size)⟩
end Go.Proofs.Ytddeomdmccnfbaa
