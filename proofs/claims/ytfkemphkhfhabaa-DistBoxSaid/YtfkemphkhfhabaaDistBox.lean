/- DistBox, walked. -/
import Derived.Shelf.Bytes.SlSmallAll
import Derived.Test.YtfkemphkhfhabaaDistThird
import Derived.Test.YtfkemphkhfhabaaDistPoints
import Derived.Maps.AppendAt
namespace Go.Proofs.Ytfkemphkhfhabaa
open Go.RowKit

def clamp (v lo hi : Int) : Int := min (max v lo) hi
theorem gap_le (p q lo hi : Int) (h : lo ≤ hi) : gap p lo hi ≤ apart p (clamp q lo hi) := by unfold gap apart clamp; split <;> (repeat' split) <;> omega
theorem gap_near (p lo hi : Int) (h : lo ≤ hi) : apart p (clamp p lo hi) = gap p lo hi := by unfold gap apart clamp; (repeat' split) <;> omega
theorem clamp_i64 {q lo hi : Int} (hq : -9223372036854775808 ≤ q ∧ q ≤ 9223372036854775807) (hl : -9223372036854775808 ≤ lo ∧ lo ≤ 9223372036854775807) (hh : -9223372036854775808 ≤ hi ∧ hi ≤ 9223372036854775807) : -9223372036854775808 ≤ clamp q lo hi ∧ clamp q lo hi ≤ 9223372036854775807 := by unfold clamp; omega
theorem URw : Try.prog.underlying 35 = some (.slice 2) := by kernel_rfl
theorem I2 : (Try.prog.info? 2).map (fun i => (i.zero, i.size, i.bytes)) = some (some (.int .i64 0), 1, 8) := by kernel_rfl
def ivals (R : List Int) : List Value := R.map fun x => .int .i64 x
theorem ivals_length (R : List Int) : (ivals R).length = R.length := List.length_map ..
theorem ivals_append (A B : List Int) : ivals (A ++ B) = ivals A ++ ivals B := List.map_append ..
theorem ints_of_owns {w : World} {base n : Nat} {v : Value} {R : List Int} (h : w.ownsRow base 2 1 v n (ivals R)) (hR : ∀ x ∈ R, -9223372036854775808 ≤ x ∧ x ≤ 9223372036854775807) : ∃ q c, v = .slice q n c ∧ Ints w q n c R := by
  have hl : n = R.length := by have := h.1; rw [ivals_length, Nat.mul_one] at this; exact this.symm
  rcases h.2 with ⟨rfl, h0⟩ | ⟨g, cap, cur, rfl, hb, hg, hle, hm, hs, ht⟩
  · subst h0
    have hb : R = [] := List.length_eq_zero_iff.1 hl.symm
    exact ⟨none, 0, rfl, ⟨hl, Nat.le_refl _, hR, Or.inl hb⟩⟩
  · refine ⟨_, cap, rfl, ⟨hl, hle, hR, Or.inr ⟨g, 0, rfl, fun i hi => ?_⟩⟩⟩
    rw [Nat.zero_add, cell_of_row w g i cur _ _ hg]
    have e : (cur.toList.take (n * 1))[i]? = (ivals R)[i]? := by rw [ht]
    rw [List.getElem?_take_of_lt (by omega), Array.getElem?_toList] at e
    rw [e]
    simp [ivals, List.getD_eq_getElem?_getD, hi]
theorem owns_grown {w w' : World} {r : Option Nat} {base : Nat} {u : Value} {n : Nat} {xs : List Value} (h : w.ownsRow base 2 1 u n xs) (hg : w.grownBy w' r) (hne : ∀ x, u.ownBlock = some x → r ≠ some x) : w'.ownsRow base 2 1 u n xs := by
  obtain ⟨h1, h2⟩ := h
  refine ⟨h1, h2.imp id ?_⟩
  rintro ⟨g, cap, cur, hv, hb, hh, r'⟩
  exact ⟨g, cap, cur, hv, hb, (hg.block g (Array.getElem?_eq_some_iff.1 hh).1 (Ne.symm (hne g (by rw [hv]; rfl)))).trans hh, r'⟩
theorem iowns_later {w w' : World} {base : Nat} {v : Value} {n : Nat} {xs : List Value} (h : w.ownsRow base 2 1 v n xs) (hb : Below w.heap.size w w') : w'.ownsRow base 2 1 v n xs := by
  obtain ⟨h1, h2⟩ := h
  refine ⟨h1, h2.imp id ?_⟩
  rintro ⟨g, cap, cur, hv, hg, hh, r⟩
  exact ⟨g, cap, cur, hv, hg, (hb.block _ (Array.getElem?_eq_some_iff.1 hh).1).trans hh, r⟩
/-- One number behind a row of the call's own: where the new row lies is told. -/
theorem app64 {o : Oper} {a : Act} {w : World} {K : Act → World → Prop} {Q : Exit → Act → World → Prop} (s x : Operand)
    (ho : o.op = .call { callee := .builtin .append, args := #[s, x], argTypes := #[35, 35] }) (base : Nat) (v : Value) (n : Nat) (R : List Int) (hs : a.eval s = v) (hown : w.ownsRow base 2 1 v n (ivals R))
    (g : Nat) (y : Int) (hx : a.eval x = .slice (some ⟨g, 0, none⟩) 1 1) (hy : w.cell? ⟨g, 0, none⟩ = some (.int .i64 y)) (hn : n ≤ 8) (hbase : base ≤ w.heap.size)
    (h : ∀ v' w', w'.ownsRow base 2 1 v' (n + 1) (ivals (R ++ [y])) → w.grownBy w' v.ownBlock → (v'.ownBlock = v.ownBlock ∨ v'.ownBlock = some w.heap.size) → K (a.put o.dst v') w') : o.wp Try.prog a w K Q := by
  obtain ⟨i, hi, hi0, hi1, hi2⟩ := info_parts I2
  obtain ⟨v', w', hr, h2, h3, _, h5⟩ := run_append_own_at (P := Try.prog) w base 35 o.type 2 i (.int .i64 0) 1 8 URw hi hi0 hi1 hi2 rfl (by decide) v n (ivals R) hown ⟨g, 0, none⟩ 1 1 (ivals [y]) rfl
    (fun j u hj => by
      match j, hj with
      | 0, hj => simp [ivals] at hj; rw [← hj, Addr.add_mid, Nat.zero_add]; exact hy)
    (fun u hu => by simp [ivals] at hu; rw [hu]; rfl) (by unfold maxLen; omega) (by omega) hbase
  unfold Oper.wp execOp
  simp only [ho, resolve, invoke, builtin, Sem.run_bind, Sem.run_pure, Result.andThen_ok, List.map_toArray, List.map_cons, List.map_nil, hs, hx, hr]
  exact h v' w' (by rw [ivals_append]; exact h2) h3 h5
structure BR (w : World) (s : Option Addr) (l e : Nat) (t : Option Addr) (l2 e2 : Nat) (g : Nat) (d1 d0 : Int) (f h : Nat → Int) (v u : Value) (k k' : Nat) (wr : World) : Prop where
  box : BoxAt wr w.heap.size s l e t l2 e2
  dist : Two wr g (.int .u64 d1) (.int .u64 d0)
  inn : wr.ownsRow (g + 1) 2 1 v k (ivals (firsts f k))
  near : wr.ownsRow (g + 1) 2 1 u k' (ivals (firsts h k'))
  off : ∀ x, v.ownBlock = some x → u.ownBlock ≠ some x
  low : Below w.heap.size w wr
  mid : w.heap.size < g
theorem BR.later {w : World} {s : Option Addr} {l e : Nat} {t : Option Addr} {l2 e2 : Nat} {g : Nat} {d1 d0 : Int} {f h : Nat → Int} {v u : Value} {k k' : Nat} {wr w' : World} (b : BR w s l e t l2 e2 g d1 d0 f h v u k k' wr) (hb : Below wr.heap.size wr w') : BR w s l e t l2 e2 g d1 d0 f h v u k k' w' :=
  ⟨b.box.later hb (by have := b.low.size; have := b.dist.lt; have := b.mid; omega), b.dist.later hb b.dist.lt, iowns_later b.inn hb, iowns_later b.near hb, b.off, b.low.trans (hb.mono b.low.size), b.mid⟩
theorem BR.apart' {w : World} {s : Option Addr} {l e : Nat} {t : Option Addr} {l2 e2 : Nat} {g : Nat} {d1 d0 : Int} {f h : Nat → Int} {v u : Value} {k k' : Nat} {wr : World} (b : BR w s l e t l2 e2 g d1 d0 f h v u k k' wr) : v.ownBlock ≠ some g ∧ v.ownBlock ≠ some w.heap.size ∧ u.ownBlock ≠ some g ∧ u.ownBlock ≠ some w.heap.size :=
  ⟨fun e => by have := (b.inn.lt g e).1; omega, fun e => by have := (b.inn.lt _ e).1; have := b.mid; omega, fun e => by have := (b.near.lt g e).1; omega, fun e => by have := (b.near.lt _ e).1; have := b.mid; omega⟩
theorem BoxAt.grown {w w' : World} {r : Option Nat} {B : Nat} {p : Option Addr} {n c : Nat} {q : Option Addr} {m d : Nat} (h : BoxAt w B p n c q m d) (hg : w.grownBy w' r) (hr : r ≠ some B) : BoxAt w' B p n c q m d :=
  ⟨(World.cell?_of_block (a := ⟨B, 0, none⟩) (hg.block B (block_lt_of_cell h.1) (Ne.symm hr))).trans h.1, (World.cell?_of_block (a := ⟨B, 1, none⟩) (hg.block B (block_lt_of_cell h.2) (Ne.symm hr))).trans h.2⟩
theorem BR.inn' {w : World} {s : Option Addr} {l e : Nat} {t : Option Addr} {l2 e2 : Nat} {g : Nat} {d1 d0 : Int} {f h : Nat → Int} {v u v' : Value} {k k' : Nat} {wr w' : World} (b : BR w s l e t l2 e2 g d1 d0 f h v u k k' wr)
    (ho : w'.ownsRow (g + 1) 2 1 v' (k + 1) (ivals (firsts f (k + 1)))) (hg : wr.grownBy w' v.ownBlock) (hv : v'.ownBlock = v.ownBlock ∨ v'.ownBlock = some wr.heap.size) : BR w s l e t l2 e2 g d1 d0 f h v' u (k + 1) k' w' :=
  ⟨b.box.grown hg b.apart'.2.1, (hg.block g b.dist.lt (Ne.symm b.apart'.1)).trans b.dist, ho, owns_grown b.near hg (fun x hx e => b.off x e hx), fun x hx hu => by
    rcases hv with hv | hv
    · exact b.off x (by rw [← hv]; exact hx) hu
    · rw [hv] at hx
      cases hx
      exact absurd (b.near.lt _ hu).2 (Nat.lt_irrefl _), b.low.grown hg b.low.size (fun q hq => by have := (b.inn.lt q hq).1; have := b.mid; omega), b.mid⟩
theorem BR.near' {w : World} {s : Option Addr} {l e : Nat} {t : Option Addr} {l2 e2 : Nat} {g : Nat} {d1 d0 : Int} {f h : Nat → Int} {v u u' : Value} {k k' : Nat} {wr w' : World} (b : BR w s l e t l2 e2 g d1 d0 f h v u k k' wr)
    (ho : w'.ownsRow (g + 1) 2 1 u' (k' + 1) (ivals (firsts h (k' + 1)))) (hg : wr.grownBy w' u.ownBlock) (hv : u'.ownBlock = u.ownBlock ∨ u'.ownBlock = some wr.heap.size) : BR w s l e t l2 e2 g d1 d0 f h v u' k (k' + 1) w' :=
  ⟨b.box.grown hg b.apart'.2.2.2, (hg.block g b.dist.lt (Ne.symm b.apart'.2.2.1)).trans b.dist, owns_grown b.inn hg (fun x hx e => b.off x hx e), ho, fun x hx hu => by
    rcases hv with hv | hv
    · exact b.off x hx (by rw [← hv]; exact hu)
    · rw [hv] at hu
      cases hu
      exact absurd (b.inn.lt _ hx).2 (Nat.lt_irrefl _), b.low.grown hg b.low.size (fun q hq => by have := (b.near.lt q hq).1; have := b.mid; omega), b.mid⟩
def BRel (w : World) (s : Option Addr) (l e : Nat) (t : Option Addr) (l2 e2 : Nat) (g : Nat) (d1 d0 : Int) (P Q S T : List Int) (n : Nat) (v u i : Value) (wr : World) : Prop :=
  ∃ k, k ≤ n ∧ i = .int .i64 k ∧ (∀ j, j < k → S.getD j 0 ≤ T.getD j 0) ∧ BR w s l e t l2 e2 g d1 d0 (fun j => clamp (Q.getD j 0) (S.getD j 0) (T.getD j 0)) (fun j => clamp (P.getD j 0) (S.getD j 0) (T.getD j 0)) v u k k wr
set_option maxRecDepth 100000 in
set_option maxHeartbeats 4000000 in
theorem dbox_any (p q s t : Option Addr) (n c m d l e l2 e2 : Nat) (P Q S T : List Int) (w : World) (hP : Ints w p n c P) (hQ : Ints w q m d Q) (hS : Ints w s l e S) (hT : Ints w t l2 e2 T) :
    Calls Try.prog 6 #[.slice p n c, .slice q m d, .agg #[.slice s l e, .slice t l2 e2]] w fun x w' => x = .returned (.bool true) ∧ Below w.heap.size w w' := by
  have H1 := Lib.hid hP
  have H2 := Lib.hid hQ
  have H3 := Lib.hid hS
  have H4 := Lib.hid hT
  clear hP hQ hS hT
  obtain ⟨d1, d0, hdd⟩ := dV_two (tbx P S T n l l2)
  obtain ⟨f2, hf2⟩ : ∃ f, f = tbxE n l l2 := ⟨_, rfl⟩
  have K1 : ∀ w, Ints w p n c P → Ints w s l e S → Ints w t l2 e2 T → Calls Try.prog 20 #[.slice p n c, .agg #[.slice s l e, .slice t l2 e2]] w fun x w' => x = .returned (.tuple #[.agg #[.int .u64 d1, .int .u64 d0], .int .i64 f2]) ∧ Below w.heap.size w w' := fun w h h2 h3 => by
    have := tobox_any p s t n c l e l2 e2 P S T w h h2 h3
    rw [hdd, ← hf2] at this
    exact this
  have K1 := Lib.hid K1
  have HDD := Lib.hid hdd
  have HF2 := Lib.hid hf2
  clear hdd hf2
  go_enter Try.func6, Try.ntmps6
  go_upto_region 1 with fail
  have hb1 : Below w.heap.size w (w.alloc (.cells #[.slice s l e, .slice t l2 e2] 37)) := (Below.refl _ _).alloc (Nat.le_refl _) _
  have x0 := boxed2 w (.slice s l e) (.slice t l2 e2) 37
  have x1 := boxed3 w (.slice s l e) (.slice t l2 e2) 37
  have z1 : (w.alloc (.cells #[.slice s l e, .slice t l2 e2] 37)).heap.size = w.heap.size + 1 := by simp
  generalize w.alloc (.cells #[.slice s l e, .slice t l2 e2] 37) = w1 at *
  have X1 := Lib.hid (show BoxAt w1 w.heap.size s l e t l2 e2 from ⟨x0, x1⟩)
  have B1 := Lib.hid hb1
  have Z1 := Lib.hid (show w.heap.size < w1.heap.size from by omega)
  clear hb1 x0 x1 z1
  go_wp2_with fail
  refine (alive_any w1).mono ?_
  rintro x w2 ⟨rfl, hb2⟩
  have B2 := Lib.hid (B1.out.trans (hb2.mono B1.out.size))
  have X2 := Lib.hid (X1.out.later hb2 Z1.out)
  have Z2 := Lib.hid (Nat.lt_of_lt_of_le Z1.out hb2.size)
  clear hb2 B1 X1 Z1
  obtain ⟨x0, x1⟩ := X2.out
  go_wp2_with fail
  clear x0 x1
  refine (K1.out w2 (H1.out.later B2.out) (H3.out.later B2.out) (H4.out.later B2.out)).mono ?_
  rintro x w3 ⟨rfl, hb3⟩
  have B3 := Lib.hid (B2.out.trans (hb3.mono B2.out.size))
  have X3 := Lib.hid (X2.out.later hb3 Z2.out)
  have Z3 := Lib.hid (Nat.lt_of_lt_of_le Z2.out hb3.size)
  clear hb3 B2 X2 Z2
  go_upto_region 4 with fail
  have t4 : Two (w3.alloc (.cells #[.int .u64 d1, .int .u64 d0] 25)) w3.heap.size (.int .u64 d1) (.int .u64 d0) := heap_alloc_new w3 _
  have hb4 : Below w3.heap.size w3 (w3.alloc (.cells #[.int .u64 d1, .int .u64 d0] 25)) := (Below.refl _ _).alloc (Nat.le_refl _) _
  generalize w3.alloc (.cells #[.int .u64 d1, .int .u64 d0] 25) = w4 at *
  have B4 := Lib.hid (B3.out.trans (hb4.mono B3.out.size))
  have X4 := Lib.hid (X3.out.later hb4 Z3.out)
  have ZG := Lib.hid Z3.out
  generalize w3.heap.size = g7 at *
  have T4 := Lib.hid t4
  clear t4 hb4 B3 X3 Z3
  by_cases hok : okP n l ∧ n = l2
  case neg =>
    obtain rfl : f2 = 1 := by rw [HF2.out]; unfold tbxE; rw [if_neg hok]
    clear hok
    go_wp2_with fail
    go_ret
    exact ⟨rfl, B4.out⟩
  case pos =>
  obtain rfl : f2 = 0 := by rw [HF2.out]; unfold tbxE; rw [if_pos hok]
  by_cases hmn : m = n
  case neg =>
    have g1 : ((m : Int) != n) = true := by simp; omega
    clear hok
    go_wp2_with fail
    go_ret
    exact ⟨rfl, B4.out⟩
  case pos =>
  subst hmn
  obtain ⟨⟨n1, n8, rfl⟩, rfl⟩ := hok
  have hdd := HDD.out
  rw [show tbx P S T m m m = tot (fun k => gap (P.getD k 0) (S.getD k 0) (T.getD k 0)) m from by unfold tbx; rw [if_pos ⟨⟨n1, n8, rfl⟩, rfl⟩]] at hdd
  have HD := Lib.hid hdd
  clear hdd HDD HF2 K1
  go_wp2_with fail
  go_loopw [9, 10, 11] (fun v u i wr => BRel w s m e t m e2 g7 d1 d0 P Q S T m v u i wr) (fun _ _ i _ => m - (intOf i).toNat)
  case atStart => exact ⟨0, by omega, rfl, fun j hj => by omega, X4.out, T4.out, World.ownsRow_nil _ _ _ _, World.ownsRow_nil _ _ _ _, fun x hx => by simp [Value.ownBlock] at hx, B4.out, ZG.out⟩
  case round =>
    obtain ⟨k, hk, rfl, hst, hbr⟩ := hrel
    have HST := Lib.hid hst
    have HBR := Lib.hid hbr
    clear hst hbr X4 T4 B4 ZG
    by_cases hlt : k < m
    · obtain ⟨gp, op, rfl, hcp⟩ := H1.out.cell k hlt
      obtain ⟨gq, oq, rfl, hcq⟩ := H2.out.cell k hlt
      obtain ⟨gs, os, rfl, hcs⟩ := H3.out.cell k hlt
      obtain ⟨gt, ot, rfl, hct⟩ := H4.out.cell k hlt
      have lp := block_lt_of_cell hcp
      have lq := block_lt_of_cell hcq
      have ls := block_lt_of_cell hcs
      have lt := block_lt_of_cell hct
      simp only at lp lq ls lt
      have i1 : (0 : Int) ≤ k ∧ (k : Int) < m := by omega
      have FQ := Lib.hid (firsts_succ (fun j => clamp (Q.getD j 0) (S.getD j 0) (T.getD j 0)) k)
      have FP := Lib.hid (firsts_succ (fun j => clamp (P.getD j 0) (S.getD j 0) (T.getD j 0)) k)
      have hss : S.getD k 0 = S.getD k 0 := rfl
      obtain ⟨xp, hxp⟩ : ∃ x, x = P.getD k 0 := ⟨_, rfl⟩
      obtain ⟨xq, hxq⟩ : ∃ x, x = Q.getD k 0 := ⟨_, rfl⟩
      obtain ⟨xs, hxs⟩ : ∃ x, x = S.getD k 0 := ⟨_, rfl⟩
      obtain ⟨xt, hxt⟩ : ∃ x, x = T.getD k 0 := ⟨_, rfl⟩
      rw [← hxp] at hcp FP
      rw [← hxq] at hcq FQ
      rw [← hxs] at hcs FP FQ
      rw [← hxt] at hct FP FQ
      have HXS := Lib.hid hxs
      have HXT := Lib.hid hxt
      clear hxp hxq hxs hxt hss
      have hcp := (HBR.out.low.cell (p := ⟨gp, op + k, none⟩) lp).trans hcp
      have hcq := (HBR.out.low.cell (p := ⟨gq, oq + k, none⟩) lq).trans hcq
      have hcs := (HBR.out.low.cell (p := ⟨gs, os + k, none⟩) ls).trans hcs
      have hct := (HBR.out.low.cell (p := ⟨gt, ot + k, none⟩) lt).trans hct
      obtain ⟨x0, x1⟩ := HBR.out.box
      by_cases hge : xt < xs
      · go_upto_region 10 with fail
        go_quiet (fail)
        go_wp2_with fail
        go_ret
        exact ⟨rfl, Below.drewN HBR.out.low _⟩
      · go_upto_region 10 with fail
        go_quiet (fail)
        have HB1 := Lib.hid (HBR.out.later (Below.drewN (Below.refl _ _) nq))
        have hcp : (wr.drewN nq).cell? ⟨gp, op + k, none⟩ = _ := hcp
        have hcq : (wr.drewN nq).cell? ⟨gq, oq + k, none⟩ = _ := hcq
        have hcs : (wr.drewN nq).cell? ⟨gs, os + k, none⟩ = _ := hcs
        have hct : (wr.drewN nq).cell? ⟨gt, ot + k, none⟩ = _ := hct
        clear x0 x1
        obtain ⟨x0, x1⟩ := HB1.out.box
        generalize wr.drewN nq = wa at *
        go_upto_region 12 with fail
        have KK : ∀ w', Below wa.heap.size wa w' → w'.cell? ⟨gq, oq + k, none⟩ = some (.int .i64 xq) ∧ w'.cell? ⟨gs, os + k, none⟩ = some (.int .i64 xs) ∧ w'.cell? ⟨gt, ot + k, none⟩ = some (.int .i64 xt) ∧ w'.cell? ⟨w.heap.size, 0, none⟩ = some (.slice (some ⟨gs, os, none⟩) m e) ∧ w'.cell? ⟨w.heap.size, 1, none⟩ = some (.slice (some ⟨gt, ot, none⟩) m e2) := fun w' hw =>
          ⟨(hw.cell (block_lt_of_cell hcq)).trans hcq, (hw.cell (block_lt_of_cell hcs)).trans hcs, (hw.cell (block_lt_of_cell hct)).trans hct, (hw.cell (block_lt_of_cell x0)).trans x0, (hw.cell (block_lt_of_cell x1)).trans x1⟩
        have hba : Below wa.heap.size wa ((wa.alloc (.cells #[.int .i64 (min (max xq xs) xt)] 2)).drew) := ((Below.refl _ _).alloc (Nat.le_refl _) _).drew
        have HKK := Lib.hid KK
        have HK1 := Lib.hid (KK _ hba)
        have HB2 := Lib.hid (HB1.out.later hba)
        have HY := Lib.hid (show ((wa.alloc (.cells #[.int .i64 (min (max xq xs) xt)] 2)).drew).cell? ⟨wa.heap.size, 0, none⟩ = some (.int .i64 (min (max xq xs) xt)) from boxed wa _ _)
        have HSZ := Lib.hid (show g7 + 1 ≤ ((wa.alloc (.cells #[.int .i64 (min (max xq xs) xt)] 2)).drew).heap.size from Nat.le_trans (HB1.out.dist.lt) hba.size)
        have HOFF := Lib.hid (show u9.ownBlock ≠ some gq ∧ u9.ownBlock ≠ some gs ∧ u9.ownBlock ≠ some gt from ⟨fun e => by have := (HB1.out.inn.lt _ e).1; have := HB1.out.mid; omega, fun e => by have := (HB1.out.inn.lt _ e).1; have := HB1.out.mid; omega, fun e => by have := (HB1.out.inn.lt _ e).1; have := HB1.out.mid; omega⟩)
        clear KK hba
        go_region_held3 (fun w' : World => w'.cell? ⟨gq, oq + k, none⟩ = some (.int .i64 xq) ∧ w'.cell? ⟨gs, os + k, none⟩ = some (.int .i64 xs) ∧ w'.cell? ⟨gt, ot + k, none⟩ = some (.int .i64 xt) ∧ w'.cell? ⟨w.heap.size, 0, none⟩ = some (.slice (some ⟨gs, os, none⟩) m e) ∧ w'.cell? ⟨w.heap.size, 1, none⟩ = some (.slice (some ⟨gt, ot, none⟩) m e2)) (first | assumption | exact HKK.out _ (Below.drew (Below.refl _ _)) | exact HK1.out) ((first
          | (rw [if_pos (by rfl)]; refine app64 (.tmp 50) (.tmp 67) (by rfl) (g7 + 1) _ k _ (by rfl) HB2.out.inn wa.heap.size _ (by rfl) HY.out (by omega) HSZ.out ?_; intro v7 w7 hown7 hgrow7 hat7; have O7 := Lib.hid hown7; have G7 := Lib.hid hgrow7; have A7 := Lib.hid hat7; have K7 : (fun w' : World => w'.cell? ⟨gq, oq + k, none⟩ = some (.int .i64 xq) ∧ w'.cell? ⟨gs, os + k, none⟩ = some (.int .i64 xs) ∧ w'.cell? ⟨gt, ot + k, none⟩ = some (.int .i64 xt) ∧ w'.cell? ⟨w.heap.size, 0, none⟩ = some (.slice (some ⟨gs, os, none⟩) m e) ∧ w'.cell? ⟨w.heap.size, 1, none⟩ = some (.slice (some ⟨gt, ot, none⟩) m e2)) w7 := kept5 hgrow7 HK1.out HOFF.out.1 HOFF.out.2.1 HOFF.out.2.2 HB2.out.apart'.2.1; clear hown7 hgrow7 hat7)))
        have HBN := Lib.hid (HB2.out.inn' (by rw [FQ.out]; exact O7.out) G7.out A7.out)
        have hcp := (World.cell?_of_block (a := ⟨gp, op + k, none⟩) (G7.out.block gp (by have := HSZ.out; have := HB2.out.mid; omega) (Ne.symm (fun e => by have := (HB2.out.inn.lt _ e).1; have := HB2.out.mid; omega)))).trans (((Below.refl wa.heap.size wa).alloc (Nat.le_refl _) (.cells #[.int .i64 (min (max xq xs) xt)] 2)).drew.cell (p := ⟨gp, op + k, none⟩) (block_lt_of_cell hcp) |>.trans hcp)
        obtain ⟨_, hcs, hct, x0, x1⟩ := kept5 G7.out HK1.out HOFF.out.1 HOFF.out.2.1 HOFF.out.2.2 HB2.out.apart'.2.1
        have HB3 := HBN
        clear HB1 HB2 HK1 HKK HY HSZ HOFF hcq O7 G7 A7
        go_wp2_with fail
        generalize w7 = wb at *
        go_upto_region 13 with fail
        have KK : ∀ w', Below wb.heap.size wb w' → w'.cell? ⟨gp, op + k, none⟩ = some (.int .i64 xp) ∧ w'.cell? ⟨gs, os + k, none⟩ = some (.int .i64 xs) ∧ w'.cell? ⟨gt, ot + k, none⟩ = some (.int .i64 xt) ∧ w'.cell? ⟨w.heap.size, 0, none⟩ = some (.slice (some ⟨gs, os, none⟩) m e) ∧ w'.cell? ⟨w.heap.size, 1, none⟩ = some (.slice (some ⟨gt, ot, none⟩) m e2) := fun w' hw =>
          ⟨(hw.cell (block_lt_of_cell hcp)).trans hcp, (hw.cell (block_lt_of_cell hcs)).trans hcs, (hw.cell (block_lt_of_cell hct)).trans hct, (hw.cell (block_lt_of_cell x0)).trans x0, (hw.cell (block_lt_of_cell x1)).trans x1⟩
        have hba : Below wb.heap.size wb ((wb.alloc (.cells #[.int .i64 (min (max xp xs) xt)] 2)).drew) := ((Below.refl _ _).alloc (Nat.le_refl _) _).drew
        have HKL := Lib.hid KK
        have HK2 := Lib.hid (KK _ hba)
        have HB4 := Lib.hid (HB3.out.later hba)
        have HY2 := Lib.hid (show ((wb.alloc (.cells #[.int .i64 (min (max xp xs) xt)] 2)).drew).cell? ⟨wb.heap.size, 0, none⟩ = some (.int .i64 (min (max xp xs) xt)) from boxed wb _ _)
        have HSY := Lib.hid (show g7 + 1 ≤ ((wb.alloc (.cells #[.int .i64 (min (max xp xs) xt)] 2)).drew).heap.size from Nat.le_trans (HB3.out.dist.lt) hba.size)
        have HOFG := Lib.hid (show u10.ownBlock ≠ some gp ∧ u10.ownBlock ≠ some gs ∧ u10.ownBlock ≠ some gt from ⟨fun e => by have := (HB3.out.near.lt _ e).1; have := HB3.out.mid; omega, fun e => by have := (HB3.out.near.lt _ e).1; have := HB3.out.mid; omega, fun e => by have := (HB3.out.near.lt _ e).1; have := HB3.out.mid; omega⟩)
        clear KK hba
        go_region_held3 (fun w' : World => w'.cell? ⟨gp, op + k, none⟩ = some (.int .i64 xp) ∧ w'.cell? ⟨gs, os + k, none⟩ = some (.int .i64 xs) ∧ w'.cell? ⟨gt, ot + k, none⟩ = some (.int .i64 xt) ∧ w'.cell? ⟨w.heap.size, 0, none⟩ = some (.slice (some ⟨gs, os, none⟩) m e) ∧ w'.cell? ⟨w.heap.size, 1, none⟩ = some (.slice (some ⟨gt, ot, none⟩) m e2)) (first | assumption | exact HKL.out _ (Below.drew (Below.refl _ _)) | exact HK2.out) ((first
          | (rw [if_pos (by rfl)]; refine app64 (.tmp 69) (.tmp 86) (by rfl) (g7 + 1) _ k _ (by rfl) HB4.out.near wb.heap.size _ (by rfl) HY2.out (by omega) HSY.out ?_; intro v8 w8 hown8 hgrow8 hat8; have O8 := Lib.hid hown8; have G8 := Lib.hid hgrow8; have A8 := Lib.hid hat8; have K8 : (fun w' : World => w'.cell? ⟨gp, op + k, none⟩ = some (.int .i64 xp) ∧ w'.cell? ⟨gs, os + k, none⟩ = some (.int .i64 xs) ∧ w'.cell? ⟨gt, ot + k, none⟩ = some (.int .i64 xt) ∧ w'.cell? ⟨w.heap.size, 0, none⟩ = some (.slice (some ⟨gs, os, none⟩) m e) ∧ w'.cell? ⟨w.heap.size, 1, none⟩ = some (.slice (some ⟨gt, ot, none⟩) m e2)) w8 := kept5 hgrow8 HK2.out HOFG.out.1 HOFG.out.2.1 HOFG.out.2.2 HB4.out.apart'.2.2.2; clear hown8 hgrow8 hat8)))
        have HBM := Lib.hid (HB4.out.near' (by rw [FP.out]; exact O8.out) G8.out A8.out)
        clear HB3 HB4 HK2 HKL HY2 HSY HOFG hcp O8 G8 A8 x0 x1 hcs hct HBN HBR
        go_wp2_with fail
        go_roundw
        case rel =>
          refine ⟨k + 1, by omega, by go_num, fun j hj => ?_, HBM.out⟩
          by_cases q : j = k
          · rw [q, ← HXS.out, ← HXT.out]; omega
          · exact HST.out j (by omega)
        case measure => simp [intOf]; omega
    · obtain rfl : k = m := by omega
      have cl : ∀ A : List Int, (∀ j, j < k → -9223372036854775808 ≤ A.getD j 0 ∧ A.getD j 0 ≤ 9223372036854775807) → ∀ x ∈ firsts (fun j => clamp (A.getD j 0) (S.getD j 0) (T.getD j 0)) k, -9223372036854775808 ≤ x ∧ x ≤ 9223372036854775807 := fun A hA x hx => by
        simp only [firsts, List.mem_map, List.mem_range] at hx
        obtain ⟨j, hj, rfl⟩ := hx
        exact clamp_i64 (hA j hj) (H3.out.get j hj) (H4.out.get j hj)
      have gP : ∀ j, j < k → -9223372036854775808 ≤ P.getD j 0 ∧ P.getD j 0 ≤ 9223372036854775807 := fun j hj => H1.out.get j hj
      have gQ : ∀ j, j < k → -9223372036854775808 ≤ Q.getD j 0 ∧ Q.getD j 0 ≤ 9223372036854775807 := fun j hj => H2.out.get j hj
      obtain ⟨qi, ci, hvi, hI⟩ := ints_of_owns HBR.out.inn (cl Q gQ)
      obtain ⟨qn, cn, hvn, hN⟩ := ints_of_owns HBR.out.near (cl P gP)
      subst hvi hvn
      obtain ⟨I, hIe⟩ : ∃ I, I = firsts (fun j => clamp (Q.getD j 0) (S.getD j 0) (T.getD j 0)) k := ⟨_, rfl⟩
      obtain ⟨N, hNe⟩ : ∃ N, N = firsts (fun j => clamp (P.getD j 0) (S.getD j 0) (T.getD j 0)) k := ⟨_, rfl⟩
      rw [← hIe] at hI
      rw [← hNe] at hN
      have hz : btwE k k = 0 := by unfold btwE; rw [if_pos ⟨n1, n8, rfl⟩]
      have hbt : ∀ A B : List Int, btw A B k k = tot (fun k => apart (A.getD k 0) (B.getD k 0)) k := fun A B => by unfold btw; rw [if_pos ⟨n1, n8, rfl⟩]
      obtain ⟨x1, x0, hxx⟩ := dV_two (btw P I k k)
      have KI : ∀ w, Ints w p k c P → Ints w qi k ci I → Calls Try.prog 18 #[.slice p k c, .slice qi k ci] w fun x w' => x = .returned (.tuple #[.agg #[.int .u64 x1, .int .u64 x0], .int .i64 0]) ∧ Below w.heap.size w w' := fun w h h2 => by
        have := between_any p qi k c k ci P I w h h2
        rw [hxx, hz] at this
        exact this
      have hyy : dV (btw P N k k) = .agg #[.int .u64 d1, .int .u64 d0] := by
        rw [hbt, ← HD.out]
        congr 1
        refine tot_congr _ _ k (fun j hj => ?_)
        rw [hNe, firsts_getD _ k j hj]
        exact gap_near _ _ _ (HST.out j hj)
      have KN : ∀ w, Ints w p k c P → Ints w qn k cn N → Calls Try.prog 18 #[.slice p k c, .slice qn k cn] w fun x w' => x = .returned (.tuple #[.agg #[.int .u64 d1, .int .u64 d0], .int .i64 0]) ∧ Below w.heap.size w w' := fun w h h2 => by
        have := between_any p qn k c k cn P N w h h2
        rw [hyy, hz] at this
        exact this
      have gI : ∀ j, j < k → -9223372036854775808 ≤ I.getD j 0 ∧ I.getD j 0 ≤ 9223372036854775807 := fun j hj => hI.get j hj
      have hle : dcmp d1 d0 x1 x0 ≤ 0 := by
        obtain ⟨p0, p1⟩ := btw_le P I k n8 gP gI
        rw [hbt] at hxx
        refine dcmp_le (tot_nonneg _ k (fun j hj => ?_)) (tot_mono _ _ k (fun j hj => ?_)) (by omega) HD.out hxx
        · exact (gap_word (gP j hj) (H3.out.get j hj) (H4.out.get j hj)).1
        · rw [hIe, firsts_getD _ k j hj]
          exact gap_le _ _ _ _ (HST.out j hj)
      have CM := fun w => cmp_any d1 d0 x1 x0 w
      obtain ⟨v, hv⟩ : ∃ v, v = dcmp d1 d0 x1 x0 := ⟨_, rfl⟩
      rw [← hv] at CM hle
      have q1 : ∀ w', (binOp .eql 25 (.agg #[.int .u64 d1, .int .u64 d0]) (.agg #[.int .u64 d1, .int .u64 d0])).run Try.prog w' = .ok (.bool true) w' := fun w' => by
        have := dist_eql d1 d0 d1 d0 w'
        simpa using this
      have HKI := Lib.hid KI
      have HKN := Lib.hid KN
      have HCM := Lib.hid CM
      have Q1 := Lib.hid q1
      have HLE := Lib.hid hle
      have HI := Lib.hid hI
      have HN := Lib.hid hN
      have B5 := Lib.hid HBR.out.low
      have GDT5 := Lib.hid HBR.out.dist
      have HP5 := Lib.hid (H1.out.later B5.out)
      clear cl gP gQ hI hN hIe hNe hz hbt hxx KI hyy KN gI hle CM hv q1 HBR HST HD H1 H2 H3 H4
      go_wp2_with fail
      refine (HKI.out wr HP5.out HI.out).mono ?_
      rintro x w6 ⟨rfl, hb6⟩
      have HP6 := Lib.hid (HP5.out.later hb6)
      have HN6 := Lib.hid (HN.out.later hb6)
      have B6 := Lib.hid (B5.out.trans (hb6.mono B5.out.size))
      have GDT6 := Lib.hid (GDT5.out.later hb6 GDT5.out.lt)
      clear hb6 B5 GDT5
      go_upto_region 15 with fail
      have t7 : Two (w6.alloc (.cells #[.int .u64 x1, .int .u64 x0] 25)) w6.heap.size (.int .u64 x1) (.int .u64 x0) := heap_alloc_new w6 _
      have hb7 : Below w6.heap.size w6 (w6.alloc (.cells #[.int .u64 x1, .int .u64 x0] 25)) := (Below.refl _ _).alloc (Nat.le_refl _) _
      generalize w6.alloc (.cells #[.int .u64 x1, .int .u64 x0] 25) = w7 at *
      have HP7 := Lib.hid (HP6.out.later hb7)
      have HN7 := Lib.hid (HN6.out.later hb7)
      have B7 := Lib.hid (B6.out.trans (hb7.mono B6.out.size))
      have GDT7 := Lib.hid (GDT6.out.later hb7 GDT6.out.lt)
      generalize w6.heap.size = gx at *
      have GXT7 := Lib.hid t7
      clear t7 hb7 B6 GDT6
      go_wp2_with fail
      refine (HKN.out w7 HP7.out HN7.out).mono ?_
      rintro x w8 ⟨rfl, hb8⟩
      have B8 := Lib.hid (B7.out.trans (hb8.mono B7.out.size))
      have GDT8 := Lib.hid (GDT7.out.later hb8 GDT7.out.lt)
      have GXT8 := Lib.hid (GXT7.out.later hb8 GXT7.out.lt)
      clear hb8 B7 GDT7 GXT7
      go_upto_region 16 with fail
      have t9 : Two (w8.alloc (.cells #[.int .u64 d1, .int .u64 d0] 25)) w8.heap.size (.int .u64 d1) (.int .u64 d0) := heap_alloc_new w8 _
      have hb9 : Below w8.heap.size w8 (w8.alloc (.cells #[.int .u64 d1, .int .u64 d0] 25)) := (Below.refl _ _).alloc (Nat.le_refl _) _
      generalize w8.alloc (.cells #[.int .u64 d1, .int .u64 d0] 25) = w9 at *
      have B9 := Lib.hid (B8.out.trans (hb9.mono B8.out.size))
      have GDT9 := Lib.hid (GDT8.out.later hb9 GDT8.out.lt)
      have GXT9 := Lib.hid (GXT8.out.later hb9 GXT8.out.lt)
      generalize w8.heap.size = gy at *
      have GYT9 := Lib.hid t9
      clear t9 hb9 B8 GDT8 GXT8
      obtain ⟨y0, y1, _, _⟩ := GDT9.out.facts
      obtain ⟨y2, y3, _, _⟩ := GXT9.out.facts
      obtain ⟨y4, y5, _, _⟩ := GYT9.out.facts
      have q1 := Q1.out
      have hle := HLE.out
      go_wp2_with (go_at_call 17; refine (HCM.out _).mono ?_; rintro x w10 ⟨rfl, hb10⟩; have z0 := (hb10.cell (p := ⟨g7, 0, none⟩) (block_lt_of_cell y0)).trans y0; have z1 := (hb10.cell (p := ⟨g7, 1, none⟩) (block_lt_of_cell y1)).trans y1; have z2 := (hb10.cell (p := ⟨gy, 0, none⟩) (block_lt_of_cell y4)).trans y4; have z3 := (hb10.cell (p := ⟨gy, 1, none⟩) (block_lt_of_cell y5)).trans y5)
      go_ret
      exact ⟨rfl, B9.out.trans (hb10.mono B9.out.size)⟩
end Go.Proofs.Ytfkemphkhfhabaa
