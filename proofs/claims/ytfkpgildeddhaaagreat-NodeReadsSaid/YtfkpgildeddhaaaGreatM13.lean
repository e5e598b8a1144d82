/- NdReSt, NdRow, NdRefRead, NdSides, NdBack. -/
import Derived.Test.YtfkpgildeddhaaaGreatM12
import Derived.Maps.AppendAt
import Derived.BigRegion
/- The states of indentureref10.Read's loops. gen_rread.py writes it. -/
namespace Go.Proofs.YtfkpgildeddhaaaGreat.Nd
open Go.RowKit Go.Proofs.YtfkpgildeddhaaaGreat.Dk

theorem tx_lt {w : World} {p : Option Addr} {n c : Nat} {B : List Nat} (h : Tx w p n c B) : ∀ x, p = some x → B ≠ [] → x.block < w.heap.size := fun x hx hB => by
  subst hx
  have h0 := h.cells 0 _ (vals_get _ 0 (List.length_pos_iff.2 hB))
  have e0 : x.add 0 = x := by simp [Addr.add]
  rw [e0] at h0
  exact block_lt_of_cell h0
/-- A kid under way in the block gx, while a reader is read. -/
structure NkSt (w0 w : World) (gx g : Nat) (k : Kd) (s : Rd) : Prop where
  row : w.heap[gx]? = some (.cells k.cells.toArray 43 (0, 0))
  rd : NSx w g s
  gr : w0.grownBy w (some g)
  len : k.sum.length = 32
  at' : w0.heap.size ≤ gx ∧ g < w0.heap.size
  lo : FrRw w (gx + 1) k.lo
  hi : FrRw w (gx + 1) k.hi
  key : FrRw w (gx + 1) k.key
section
variable {w0 w w' : World} {gx g : Nat} {k k' : Kd} {s s' : Rd}
theorem NkSt.call (h : NkSt w0 w gx g k s) (hr : NSx w' g s') (hg : w.grownBy w' (some g)) : NkSt w0 w' gx g k s' := by
  have h1 := h.at'
  have hk : ∀ j, gx + 1 ≤ j → j < w.heap.size → w'.heap[j]? = w.heap[j]? := fun j hj hl => hg.block j hl (by simp; omega)
  exact ⟨(hg.block gx (Array.getElem?_eq_some_iff.1 h.row).1 (by simp; omega)).trans h.row, hr, grown_twice h.gr hg, h.len, h1, h.lo.keep hk, h.hi.keep hk, h.key.keep hk⟩
theorem NkSt.put (h : NkSt w0 w gx g k s) (hr : w'.heap[gx]? = some (.cells k'.cells.toArray 43 (0, 0))) (ho : Only (fun j => j = gx) w w') (hl : k'.sum.length = 32) (h1 : FrRw w (gx + 1) k'.lo) (h2 : FrRw w (gx + 1) k'.hi) (h3 : FrRw w (gx + 1) k'.key) : NkSt w0 w' gx g k' s := by
  have ha := h.at'
  have hk : ∀ j, gx + 1 ≤ j → j < w.heap.size → w'.heap[j]? = w.heap[j]? := fun j hj hl => ho.block j hl (by omega)
  have hb : Below gx w w' := ho.below (by have := (Array.getElem?_eq_some_iff.1 h.row).1; omega) (fun j hj => by omega)
  exact ⟨hr, h.rd.low (hb.mono (by omega)), grown_new h.gr (B := gx) (by omega) hb hb.size, hl, ha, h1.keep hk, h2.keep hk, h3.keep hk⟩
theorem NkSt.cell (h : NkSt w0 w gx g k s) : KAt w gx 0 k := kat_row h.row h.len
end
/-- The loop over the entries. -/
structure Re1 (dm : Int) (wL : World) (gn g kind n1 : Nat) (T : List PE × Rd) (k : Nat) (E : List En) (v : Value) (s : Rd) (wr : World) : Prop where
  le : k ≤ n1
  row : wr.heap[gn]? = some (.cells #[.int .u8 kind, v, .slice none 0 0] 27 (0, 0))
  ents : Ens wL.heap.size wr v k E
  rd : NSx wr g s
  only : Only (fun j => j = gn ∨ j = g) wL wr
  run : readE dm (n1 - k) s (E.map En.pe) = T
  len : s.R.length < 1099511627776
def Re1R (dm : Int) (wL : World) (gn g kind n1 : Nat) (T : List PE × Rd) (i : Value) (wr : World) : Prop := ∃ k E v s, i = .int .i64 (k : Nat) ∧ Re1 dm wL gn g kind n1 T k E v s wr
structure Re2 (dm : Int) (wL : World) (gn g kind n2 : Nat) (v1 : Value) (T : List PK × Rd) (k : Nat) (K : List Kd) (v : Value) (s : Rd) (wr : World) : Prop where
  le : k ≤ n2
  row : wr.heap[gn]? = some (.cells #[.int .u8 kind, v1, v] 27 (0, 0))
  kids : Kds wL.heap.size wr v k K
  rd : NSx wr g s
  only : Only (fun j => j = gn ∨ j = g) wL wr
  run : readK dm (n2 - k) s (K.map Kd.pk) = T
  len : s.R.length < 1099511627776
def Re2R (dm : Int) (wL : World) (gn g kind n2 : Nat) (v1 : Value) (T : List PK × Rd) (i : Value) (wr : World) : Prop := ∃ k K v s, i = .int .i64 (k : Nat) ∧ Re2 dm wL gn g kind n2 v1 T k K v s wr
/-- One more entry. -/
theorem Re1.step {dm : Int} {wL wr w5 w7 : World} {gn g kind n1 : Nat} {T : List PE × Rd} {k : Nat} {E : List En} {v v7 : Value} {s : Rd} (h : Re1 dm wL gn g kind n1 T k E v s wr) (hk : k < n1) (hgn : gn < wL.heap.size) (hg : g < gn) {r : Rw} {lv : Bool}
    (hr : r.R = s.truth.rowV dm) (hlv : lv = s.truthV) (hfr : FrRw w5 wr.heap.size r) (h5 : NSx w5 g (s.entN dm)) (k5 : wr.grownBy w5 (some g)) {o : Obj}
    (hown : w7.ownsRow wL.heap.size 55 2 v7 (k + 1) (E.flatMap En.cells ++ En.cells ⟨r, lv⟩)) (hgr : (w5.alloc o).grownBy w7 v.ownBlock) (hat : v7.ownBlock = v.ownBlock ∨ v7.ownBlock = some (w5.alloc o).heap.size) (hl : (s.entN dm).R.length < 1099511627776) :
    Re1 dm wL gn g kind n1 T (k + 1) (E ++ [⟨r, lv⟩]) v7 (s.entN dm) (w7.setCell ⟨gn, 1, none⟩ v7) := by
  have hv := fun x e => h.ents.own.lt x e
  have hz6 : (w5.alloc o).heap.size = w5.heap.size + 1 := by simp
  have hb6 : Below w5.heap.size w5 (w5.alloc o) := (Below.refl _ _).alloc (Nat.le_refl _) _
  have e5 := h.ents.grown k5 (by omega)
  have e6 := e5.later hb6
  have hsz := h.only.size
  have hnew : ∀ q ∈ En.rows ⟨r, lv⟩, FrRw (w5.alloc o) wL.heap.size q ∧ ∀ x, q.p = some x → q.R ≠ [] → v.ownBlock ≠ some x.block := fun q hq => by
    obtain rfl : q = r := by simpa [En.rows] using hq
    refine ⟨(hfr.later hb6).base hsz, fun x hx hR e => ?_⟩
    have h1 := hfr.lo x hx hR
    have h2 := (hv _ e).2
    omega
  have e7 := e6.put hnew hown hgr hat
  have row5 := (k5.block gn (Array.getElem?_eq_some_iff.1 h.row).1 (by simp; omega)).trans h.row
  have row6 := (hb6.block gn (Array.getElem?_eq_some_iff.1 row5).1).trans row5
  have row7 := (hgr.block gn (Array.getElem?_eq_some_iff.1 row6).1 (fun e => by have := (hv _ e.symm).1; omega)).trans row6
  have row8 := heap_setCell_same w7 gn 1 _ _ v7 row7
  have hb7 : Below (g + 1) (w5.alloc o) w7 := ⟨hgr.os, hgr.tape, hgr.output, hgr.size, fun j hj => hgr.block j (by have := k5.size; omega) (fun e => by have := (hv _ e.symm).1; omega)⟩
  have hb8 : Below (g + 1) w7 (w7.setCell ⟨gn, 1, none⟩ v7) := (Below.refl _ _).setCell (p := ⟨gn, 1, none⟩) (by show g + 1 ≤ gn; omega) _
  refine ⟨hk, row8, e7.keep (fun j hj _ => heap_setCell_other _ _ _ _ (by show j ≠ gn; omega)), ((h5.later hb6).low hb7).low hb8, ?_, ?_, hl⟩
  · refine ⟨hgr.os.trans (k5.os.trans h.only.os), hgr.tape.trans (k5.tape.trans h.only.tape), hgr.output.trans (k5.output.trans h.only.output), ?_, fun j hj hn => ?_⟩
    · have := hgr.size; have := k5.size; simp only [World.setCell] at *; simp; omega
    · rw [heap_setCell_other _ _ _ _ (by show j ≠ gn; intro e; exact hn (Or.inl e))]
      have hjr : j < wr.heap.size := by omega
      have hj5 : j < w5.heap.size := by have := k5.size; omega
      rw [hgr.block j (by omega) (fun e => by have := (hv _ e.symm).1; omega), hb6.block j hj5, k5.block j hjr (by simp; intro e; exact hn (Or.inr e))]
      exact h.only.block j hj hn
  · rw [List.map_append, show n1 - (k + 1) = n1 - k - 1 by omega]
    have := h.run
    rw [readE_go (by omega)] at this
    rw [← this]
    show readE dm (n1 - k - 1) (s.entN dm) (E.map En.pe ++ [⟨r.R, lv⟩]) = _
    rw [hr, hlv]
    rfl
theorem Re2.step {dm : Int} {wL wr w5 w7 : World} {gn g kind n2 : Nat} {v1 : Value} {T : List PK × Rd} {k : Nat} {K : List Kd} {v v7 : Value} {s : Rd} (h : Re2 dm wL gn g kind n2 v1 T k K v s wr) (hk : k < n2) (hgn : gn < wL.heap.size) (hg : g < gn) {kd : Kd}
    (hpk : kd.pk = s.kidV dm) (hok : kd.Ok w5) (f1 : FrRw w5 wr.heap.size kd.lo) (f2 : FrRw w5 wr.heap.size kd.hi) (f3 : FrRw w5 wr.heap.size kd.key) (h5 : NSx w5 g (s.kidN dm)) (k5 : wr.grownBy w5 (some g)) {o : Obj}
    (hown : w7.ownsRow wL.heap.size 43 37 v7 (k + 1) (K.flatMap Kd.cells ++ kd.cells)) (hgr : (w5.alloc o).grownBy w7 v.ownBlock) (hat : v7.ownBlock = v.ownBlock ∨ v7.ownBlock = some (w5.alloc o).heap.size) (hl : (s.kidN dm).R.length < 1099511627776) :
    Re2 dm wL gn g kind n2 v1 T (k + 1) (K ++ [kd]) v7 (s.kidN dm) (w7.setCell ⟨gn, 2, none⟩ v7) := by
  have hv := fun x e => h.kids.lst.own.lt x e
  have hz6 : (w5.alloc o).heap.size = w5.heap.size + 1 := by simp
  have hb6 : Below w5.heap.size w5 (w5.alloc o) := (Below.refl _ _).alloc (Nat.le_refl _) _
  have e5 := h.kids.lst.grown k5 (by omega)
  have e6 := e5.later hb6
  have hsz := h.only.size
  have hnew : ∀ q ∈ Kd.rows kd, FrRw (w5.alloc o) wL.heap.size q ∧ ∀ x, q.p = some x → q.R ≠ [] → v.ownBlock ≠ some x.block := fun q hq => by
    have hq5 : FrRw w5 wr.heap.size q := by
      simp only [Kd.rows, List.mem_cons, List.not_mem_nil, or_false] at hq
      rcases hq with rfl | rfl | rfl <;> assumption
    refine ⟨(hq5.later hb6).base hsz, fun x hx hR e => ?_⟩
    have h1 := hq5.lo x hx hR
    have h2 := (hv _ e).2
    omega
  have e7 := e6.put hnew hown hgr hat
  have row5 := (k5.block gn (Array.getElem?_eq_some_iff.1 h.row).1 (by simp; omega)).trans h.row
  have row6 := (hb6.block gn (Array.getElem?_eq_some_iff.1 row5).1).trans row5
  have row7 := (hgr.block gn (Array.getElem?_eq_some_iff.1 row6).1 (fun e => by have := (hv _ e.symm).1; omega)).trans row6
  have row8 := heap_setCell_same w7 gn 2 _ _ v7 row7
  have hb7 : Below (g + 1) (w5.alloc o) w7 := ⟨hgr.os, hgr.tape, hgr.output, hgr.size, fun j hj => hgr.block j (by have := k5.size; omega) (fun e => by have := (hv _ e.symm).1; omega)⟩
  have hb8 : Below (g + 1) w7 (w7.setCell ⟨gn, 2, none⟩ v7) := (Below.refl _ _).setCell (p := ⟨gn, 2, none⟩) (by show g + 1 ≤ gn; omega) _
  refine ⟨hk, row8, ⟨e7.keep (fun j hj _ => heap_setCell_other _ _ _ _ (by show j ≠ gn; omega)), fun x hx => ?_⟩, ((h5.later hb6).low hb7).low hb8, ?_, ?_, hl⟩
  · rcases List.mem_append.1 hx with hx | hx
    · exact h.kids.good x hx
    · obtain rfl : x = kd := by simpa using hx
      exact ⟨hok.len, hok.ok, hok.live, hok.size⟩
  · refine ⟨hgr.os.trans (k5.os.trans h.only.os), hgr.tape.trans (k5.tape.trans h.only.tape), hgr.output.trans (k5.output.trans h.only.output), ?_, fun j hj hn => ?_⟩
    · have := hgr.size; have := k5.size; simp only [World.setCell] at *; simp; omega
    · rw [heap_setCell_other _ _ _ _ (by show j ≠ gn; intro e; exact hn (Or.inl e))]
      have hjr : j < wr.heap.size := by omega
      have hj5 : j < w5.heap.size := by have := k5.size; omega
      rw [hgr.block j (by omega) (fun e => by have := (hv _ e.symm).1; omega), hb6.block j hj5, k5.block j hjr (by simp; intro e; exact hn (Or.inr e))]
      exact h.only.block j hj hn
  · rw [List.map_append, show n2 - (k + 1) = n2 - k - 1 by omega]
    have := h.run
    rw [readK_go (by omega)] at this
    rw [← this, ← hpk]
    rfl
theorem wpList_app {P : Program} {w : World} {ops : Array Oper} {rest : List Oper} {o : Oper} {a : Act} {Q : Exit → Act → World → Prop} (hgd : o.guard = none) (s x : Operand) (t : TypeId)
    (ho : o.op = .call { callee := .builtin .append, args := #[s, x], argTypes := #[t, t] })
    (base : Nat) (e : TypeId) (i : TypeInfo) (z : Value) (size bytes : Nat) (ht : P.underlying t = some (.slice e)) (hi : P.info? e = some i) (hz : i.zero = some z)
    (hsize : i.size = size) (hby : i.bytes = bytes) (hzs : z.cells.size = size) (hsz : 0 < size)
    (v : Value) (n : Nat) (xs : List Value) (hs : a.eval s = v) (hown : w.ownsRow base e size v n xs)
    (ad : Addr) (m c : Nat) (news : List Value) (hx : a.eval x = .slice (some ad) m c) (hl : news.length = m * size) (hnews : ∀ j u, news[j]? = some u → w.cell? (ad.add j) = some u) (h1 : ∀ u ∈ news, u.oneCell' = true)
    (h63 : n + m ≤ maxLen) (hbytes : (n + m) * bytes ≤ 140737488355328) (hbase : base ≤ w.heap.size)
    (h : ∀ v' w', w'.ownsRow base e size v' (n + m) (xs ++ news) → w.grownBy w' v.ownBlock → (v'.ownBlock = v.ownBlock ∨ v'.ownBlock = some w.heap.size) → wpList P ops Q rest (a.put o.dst v') w') : wpList P ops Q (o :: rest) a w :=
  wpList_plain hgd fun _ hK => wp_append_at s x t ho base e i z size bytes ht hi hz hsize hby hzs hsz v n xs hs hown ad m c news hx hl hnews h1 h63 hbytes hbase fun v' w' a1 a2 a3 => hK _ _ (h v' w' a1 a2 a3)
theorem wpList_ent_one {w : World} {ops : Array Oper} {rest : List Oper} {o : Oper} {a : Act} {Q : Exit → Act → World → Prop} (hg : o.guard = none) (x : Operand) (ho : o.op = .buildSlice 24 1 #[(0, x)]) {q : Option Addr} {m c : Nat} {b : Bool} (hx : a.eval x = .agg #[.slice q m c, .bool b])
    (h : wpList Tryz.prog ops Q rest (a.put o.dst (.slice (some ⟨w.heap.size, 0, none⟩) 1 1)) (w.alloc (.cells #[.slice q m c, .bool b] 55))) : wpList Tryz.prog ops Q (o :: rest) a w :=
  wpList_plain hg fun _ hK => wp_ent_one x ho hx (hK _ _ h)
end Go.Proofs.YtfkpgildeddhaaaGreat.Nd

/- The reference's reader: a row of numbers. -/
namespace Go.Proofs.YtfkpgildeddhaaaGreat.Nd
open Go.RowKit

/-- What a row's reading leaves: a row of one's own above the height, the reader. -/
def NRow (w : World) (g : Nat) (L : List Int) (s : Rd) (e : Ending) (w' : World) : Prop :=
  ∃ v, e = .returned v ∧ w'.ownsRow w.heap.size 2 1 v L.length (ivs L) ∧ NSx w' g s ∧ w.grownBy w' (some g)
structure RowSt (w : World) (g : Nat) (n : Nat) (T : List Int × Rd) (k : Nat) (v : Value) (L : List Int) (s : Rd) (wr : World) : Prop where
  le : k ≤ n
  run : readN (n - k) s L = T
  cnt : L.length = k
  own : wr.ownsRow w.heap.size 2 1 v k (ivs L)
  rd : NSx wr g s
  gr : w.grownBy wr (some g)
  len : s.R.length < 1099511627776
def RowRel (w : World) (g : Nat) (n : Nat) (T : List Int × Rd) (v i : Value) (wr : World) : Prop := ∃ (k : Nat) (L : List Int) (s : Rd), i = .int .i64 k ∧ RowSt w g n T k v L s wr
set_option maxRecDepth 100000 in
set_option maxHeartbeats 2000000 in
theorem nrow_any (s : Rd) (most : Int) (g : Nat) (w : World) (hs : NSx w g s) (hl : s.R.length < 1099511627776) :
    Calls Tryz.prog 33 #[.pointer (some ⟨g, 0, none⟩), .int .i64 most] w (NRow w g (s.rowV most) (s.row most).2) := by
  obtain ⟨i2, hi, hi0, hi1, hi2⟩ := info_parts I2n
  have HI := Lib.hid hi
  have HI0 := Lib.hid hi0
  have HI1 := Lib.hid hi1
  have HI2 := Lib.hid hi2
  have HV := Lib.hid (nbyte_any s g w hs hl)
  have hgl := hs.lt
  have hok := hs
  obtain ⟨p0, n0, c0, hok⟩ := hok
  have hok := hok.tx.ok
  have hn := val1 hok
  have hrl := rowN_len s most
  have hr0 : readN (Cm.val (s.part 1)) (s.rowN most) [] = s.row most := rfl
  have hrv : s.rowV most = if (s.row most).2.e = 0 then (s.row most).1 else [] := rfl
  have hrn : s.rowN most = if (s.past 1).e = 0 ∧ most < (Cm.val (s.part 1) : Nat) then ⟨(s.past 1).R, 10⟩ else s.past 1 := rfl
  generalize s.rowV most = X at *
  generalize s.row most = T at *
  generalize s.rowN most = s2 at *
  generalize Cm.val (s.part 1) = n at *
  have HR0 := Lib.hid hr0
  have HRV := Lib.hid hrv
  have HRN := Lib.hid hrn
  clear hs hi hi0 hi1 hi2 hok hr0 hrv hrn
  have e8 : IntKind.i64.wrap (n : Int) = (n : Nat) := by rw [IntKind.wrap_i64]; omega
  go_enter Tryz.func33, Tryz.ntmps33
  go_wp2_with fail
  refine HV.out.mono ?_
  rintro e w1 hq
  obtain ⟨rfl, h2, h3⟩ := hq
  have h4 := h2.err
  have f4 := h2.fz 1
  have H2 := Lib.hid h2
  have H3 := Lib.hid h3
  clear h2 h3 HV
  by_cases he : (s.past 1).e = 0
  · rw [he] at h4
    by_cases hm : most < (n : Int)
    · have es : s2 = ⟨(s.past 1).R, 10⟩ := by rw [HRN.out, if_pos ⟨he, hm⟩]
      have h2 := H2.out.set 10
      rw [← es] at h2
      have HA := Lib.hid h2
      have HB := Lib.hid (grown_twice H3.out (grown_setCell w1 g 1 (.int .i64 (10 : Nat))))
      clear h2 es he HRN
      go_upto_region 4 with fail
      clear h4 f4 H2 H3
      generalize w1.setCell ⟨g, 1, none⟩ (.int .i64 _) = w2 at *
      go_wp2_with fail
      go_loopw [6, 7] (fun v i wr => RowRel w g n T v i wr) (fun _ i _ => n - (intOf i).toNat)
      case atStart => exact ⟨0, [], s2, rfl, by omega, by simpa using HR0.out, rfl, owns_nil _ _, HA.out, HB.out, Nat.lt_of_le_of_lt hrl hl⟩
      case round =>
        obtain ⟨k, L, sk, rfl, ST⟩ := hrel
        have hkn := ST.le
        have c1 := ST.rd.err
        have HST := Lib.hid ST
        clear ST
        by_cases hek : sk.e = 0
        · rw [hek] at c1
          by_cases hlt : k < n
          · have b1 : (k : Int) < n := by omega
            have HN := Lib.hid (nnum_any sk g wr HST.out.rd HST.out.len)
            have hst := readN_go (n := n - k) (L := L) hek (by omega)
            have HRUN := Lib.hid hst
            have HLN := Lib.hid (Rd.past_len sk 8)
            generalize sk.numV = x at *
            generalize sk.past 8 = t at *
            clear hst
            go_upto_region 8 with fail
            go_wp2_with (first
              | (refine HN.out.mono ?_; rintro e w5 hq; obtain ⟨rfl, h5, h6⟩ := hq;
                 have hba : Below w5.heap.size w5 (w5.alloc (.cells #[.int .i64 x] 2)) := (Below.refl _ _).alloc (Nat.le_refl _) _;
                 have own5 := ivs_owns_grown HST.out.own h6 hgl;
                 have O6 := Lib.hid (ivs_owns_later own5 hba);
                 have N6 := Lib.hid (show ∀ j u, (ivs [x])[j]? = some u → (w5.alloc (.cells #[.int .i64 x] 2)).cell? ((⟨w5.heap.size, 0, none⟩ : Addr).add j) = some u from cell_one_new w5 (.int .i64 x) 2);
                 have G6 := Lib.hid (grown_new (grown_twice HST.out.gr h6) (Nat.le_trans HST.out.gr.size h6.size) hba hba.size);
                 have A6 := Lib.hid (h5.later hba);
                 have S6 := Lib.hid (Nat.le_trans (Nat.le_trans HST.out.gr.size h6.size) hba.size);
                 clear h5 h6 own5 hba)
              | (at_builtin; refine wpList_append_own _ (by rfl) (.tmp 36) (.tmp 39) 39 (by rfl) w.heap.size 2 i2 (.int .i64 0) 1 8 URn HI.out HI0.out HI1.out HI2.out (by rfl) (by decide) _ k _ (by rfl) O6.out ⟨_, 0, none⟩ 1 1 (ivs [x]) (by rfl) (by rw [ivs_length]; rfl) N6.out (ivs_one _) (by unfold maxLen; omega) (by omega) S6.out ?_; intro v7 w7 hown7 hgrow7 _; have O7 := Lib.hid hown7; have G7 := Lib.hid hgrow7; clear hown7 hgrow7))
            have hown8 : w7.ownsRow w.heap.size 2 1 v7 (k + 1) (ivs (L ++ [x])) := by rw [ivs_append]; exact O7.out
            have HO8 := Lib.hid hown8
            clear hown8 O7
            go_roundw
            case rel =>
              refine ⟨k + 1, L ++ [x], t, by go_num, ⟨by omega, ?_, by rw [List.length_append, HST.out.cnt]; rfl, HO8.out, A6.out.low (below_own G7.out O6.out (by omega) (by have := A6.out.lt; omega)), grown_new G6.out (Nat.le_refl _) (below_own G7.out O6.out (Nat.le_refl _) S6.out) G7.out.size, Nat.lt_of_le_of_lt HLN.out HST.out.len⟩⟩
              rw [show n - (k + 1) = n - k - 1 from by omega, ← HRUN.out]
              exact HST.out.run
            case measure => simp [intOf]; omega
          · obtain rfl : k = n := by omega
            have c2 := HST.out.run
            rw [Nat.sub_self] at c2
            have c2 : (L, sk) = T := c2
            subst c2
            have hx : X = L := by rw [HRV.out, if_pos hek]
            subst hx
            go_wp2_with fail
            go_ret
            exact ⟨_, rfl, by rw [HST.out.cnt]; exact HST.out.own, HST.out.rd, HST.out.gr⟩
        · have c2 := HST.out.run
          rw [readN_no hek] at c2
          subst c2
          have hx : X = [] := by rw [HRV.out, if_neg hek]
          subst hx
          have b0 : ((sk.e : Int) == 0) = false := by simp; omega
          have b00 : ((sk.e : Int) != 0) = true := by simp; omega
          by_cases hlt : k < n
          · have b1 : (k : Int) < n := by omega
            go_wp2_with fail
            go_ret
            exact ⟨_, rfl, owns_nil _ _, HST.out.rd, HST.out.gr⟩
          · have b1 : ¬ (k : Int) < n := by omega
            go_wp2_with fail
            go_ret
            exact ⟨_, rfl, owns_nil _ _, HST.out.rd, HST.out.gr⟩

    · have es : s2 = s.past 1 := by rw [HRN.out, if_neg (fun h => hm h.2)]
      have h2 := H2.out
      rw [← es] at h2
      have HA := Lib.hid h2
      have HB := H3
      clear h2 es he HRN H2 H3
      go_wp2_with fail
      go_loopw [6, 7] (fun v i wr => RowRel w g n T v i wr) (fun _ i _ => n - (intOf i).toNat)
      case atStart => exact ⟨0, [], s2, rfl, by omega, by simpa using HR0.out, rfl, owns_nil _ _, HA.out, HB.out, Nat.lt_of_le_of_lt hrl hl⟩
      case round =>
        obtain ⟨k, L, sk, rfl, ST⟩ := hrel
        have hkn := ST.le
        have c1 := ST.rd.err
        have HST := Lib.hid ST
        clear ST
        by_cases hek : sk.e = 0
        · rw [hek] at c1
          by_cases hlt : k < n
          · have b1 : (k : Int) < n := by omega
            have HN := Lib.hid (nnum_any sk g wr HST.out.rd HST.out.len)
            have hst := readN_go (n := n - k) (L := L) hek (by omega)
            have HRUN := Lib.hid hst
            have HLN := Lib.hid (Rd.past_len sk 8)
            generalize sk.numV = x at *
            generalize sk.past 8 = t at *
            clear hst
            go_upto_region 8 with fail
            go_wp2_with (first
              | (refine HN.out.mono ?_; rintro e w5 hq; obtain ⟨rfl, h5, h6⟩ := hq;
                 have hba : Below w5.heap.size w5 (w5.alloc (.cells #[.int .i64 x] 2)) := (Below.refl _ _).alloc (Nat.le_refl _) _;
                 have own5 := ivs_owns_grown HST.out.own h6 hgl;
                 have O6 := Lib.hid (ivs_owns_later own5 hba);
                 have N6 := Lib.hid (show ∀ j u, (ivs [x])[j]? = some u → (w5.alloc (.cells #[.int .i64 x] 2)).cell? ((⟨w5.heap.size, 0, none⟩ : Addr).add j) = some u from cell_one_new w5 (.int .i64 x) 2);
                 have G6 := Lib.hid (grown_new (grown_twice HST.out.gr h6) (Nat.le_trans HST.out.gr.size h6.size) hba hba.size);
                 have A6 := Lib.hid (h5.later hba);
                 have S6 := Lib.hid (Nat.le_trans (Nat.le_trans HST.out.gr.size h6.size) hba.size);
                 clear h5 h6 own5 hba)
              | (at_builtin; refine wpList_append_own _ (by rfl) (.tmp 36) (.tmp 39) 39 (by rfl) w.heap.size 2 i2 (.int .i64 0) 1 8 URn HI.out HI0.out HI1.out HI2.out (by rfl) (by decide) _ k _ (by rfl) O6.out ⟨_, 0, none⟩ 1 1 (ivs [x]) (by rfl) (by rw [ivs_length]; rfl) N6.out (ivs_one _) (by unfold maxLen; omega) (by omega) S6.out ?_; intro v7 w7 hown7 hgrow7 _; have O7 := Lib.hid hown7; have G7 := Lib.hid hgrow7; clear hown7 hgrow7))
            have hown8 : w7.ownsRow w.heap.size 2 1 v7 (k + 1) (ivs (L ++ [x])) := by rw [ivs_append]; exact O7.out
            have HO8 := Lib.hid hown8
            clear hown8 O7
            go_roundw
            case rel =>
              refine ⟨k + 1, L ++ [x], t, by go_num, ⟨by omega, ?_, by rw [List.length_append, HST.out.cnt]; rfl, HO8.out, A6.out.low (below_own G7.out O6.out (by omega) (by have := A6.out.lt; omega)), grown_new G6.out (Nat.le_refl _) (below_own G7.out O6.out (Nat.le_refl _) S6.out) G7.out.size, Nat.lt_of_le_of_lt HLN.out HST.out.len⟩⟩
              rw [show n - (k + 1) = n - k - 1 from by omega, ← HRUN.out]
              exact HST.out.run
            case measure => simp [intOf]; omega
          · obtain rfl : k = n := by omega
            have c2 := HST.out.run
            rw [Nat.sub_self] at c2
            have c2 : (L, sk) = T := c2
            subst c2
            have hx : X = L := by rw [HRV.out, if_pos hek]
            subst hx
            go_wp2_with fail
            go_ret
            exact ⟨_, rfl, by rw [HST.out.cnt]; exact HST.out.own, HST.out.rd, HST.out.gr⟩
        · have c2 := HST.out.run
          rw [readN_no hek] at c2
          subst c2
          have hx : X = [] := by rw [HRV.out, if_neg hek]
          subst hx
          have b0 : ((sk.e : Int) == 0) = false := by simp; omega
          have b00 : ((sk.e : Int) != 0) = true := by simp; omega
          by_cases hlt : k < n
          · have b1 : (k : Int) < n := by omega
            go_wp2_with fail
            go_ret
            exact ⟨_, rfl, owns_nil _ _, HST.out.rd, HST.out.gr⟩
          · have b1 : ¬ (k : Int) < n := by omega
            go_wp2_with fail
            go_ret
            exact ⟨_, rfl, owns_nil _ _, HST.out.rd, HST.out.gr⟩

  · have es : s2 = s.past 1 := by rw [HRN.out, if_neg (fun h => he h.1)]
    have h2 := H2.out
    rw [← es] at h2
    have b0 : (((s.past 1).e : Int) == 0) = false := by simp; omega
    have HA := Lib.hid h2
    have HB := H3
    clear h2 es he HRN H2 H3
    go_wp2_with fail
    go_loopw [6, 7] (fun v i wr => RowRel w g n T v i wr) (fun _ i _ => n - (intOf i).toNat)
    case atStart => exact ⟨0, [], s2, rfl, by omega, by simpa using HR0.out, rfl, owns_nil _ _, HA.out, HB.out, Nat.lt_of_le_of_lt hrl hl⟩
    case round =>
      obtain ⟨k, L, sk, rfl, ST⟩ := hrel
      have hkn := ST.le
      have c1 := ST.rd.err
      have HST := Lib.hid ST
      clear ST
      by_cases hek : sk.e = 0
      · rw [hek] at c1
        by_cases hlt : k < n
        · have b1 : (k : Int) < n := by omega
          have HN := Lib.hid (nnum_any sk g wr HST.out.rd HST.out.len)
          have hst := readN_go (n := n - k) (L := L) hek (by omega)
          have HRUN := Lib.hid hst
          have HLN := Lib.hid (Rd.past_len sk 8)
          generalize sk.numV = x at *
          generalize sk.past 8 = t at *
          clear hst
          go_upto_region 8 with fail
          go_wp2_with (first
            | (refine HN.out.mono ?_; rintro e w5 hq; obtain ⟨rfl, h5, h6⟩ := hq;
               have hba : Below w5.heap.size w5 (w5.alloc (.cells #[.int .i64 x] 2)) := (Below.refl _ _).alloc (Nat.le_refl _) _;
               have own5 := ivs_owns_grown HST.out.own h6 hgl;
               have O6 := Lib.hid (ivs_owns_later own5 hba);
               have N6 := Lib.hid (show ∀ j u, (ivs [x])[j]? = some u → (w5.alloc (.cells #[.int .i64 x] 2)).cell? ((⟨w5.heap.size, 0, none⟩ : Addr).add j) = some u from cell_one_new w5 (.int .i64 x) 2);
               have G6 := Lib.hid (grown_new (grown_twice HST.out.gr h6) (Nat.le_trans HST.out.gr.size h6.size) hba hba.size);
               have A6 := Lib.hid (h5.later hba);
               have S6 := Lib.hid (Nat.le_trans (Nat.le_trans HST.out.gr.size h6.size) hba.size);
               clear h5 h6 own5 hba)
            | (at_builtin; refine wpList_append_own _ (by rfl) (.tmp 36) (.tmp 39) 39 (by rfl) w.heap.size 2 i2 (.int .i64 0) 1 8 URn HI.out HI0.out HI1.out HI2.out (by rfl) (by decide) _ k _ (by rfl) O6.out ⟨_, 0, none⟩ 1 1 (ivs [x]) (by rfl) (by rw [ivs_length]; rfl) N6.out (ivs_one _) (by unfold maxLen; omega) (by omega) S6.out ?_; intro v7 w7 hown7 hgrow7 _; have O7 := Lib.hid hown7; have G7 := Lib.hid hgrow7; clear hown7 hgrow7))
          have hown8 : w7.ownsRow w.heap.size 2 1 v7 (k + 1) (ivs (L ++ [x])) := by rw [ivs_append]; exact O7.out
          have HO8 := Lib.hid hown8
          clear hown8 O7
          go_roundw
          case rel =>
            refine ⟨k + 1, L ++ [x], t, by go_num, ⟨by omega, ?_, by rw [List.length_append, HST.out.cnt]; rfl, HO8.out, A6.out.low (below_own G7.out O6.out (by omega) (by have := A6.out.lt; omega)), grown_new G6.out (Nat.le_refl _) (below_own G7.out O6.out (Nat.le_refl _) S6.out) G7.out.size, Nat.lt_of_le_of_lt HLN.out HST.out.len⟩⟩
            rw [show n - (k + 1) = n - k - 1 from by omega, ← HRUN.out]
            exact HST.out.run
          case measure => simp [intOf]; omega
        · obtain rfl : k = n := by omega
          have c2 := HST.out.run
          rw [Nat.sub_self] at c2
          have c2 : (L, sk) = T := c2
          subst c2
          have hx : X = L := by rw [HRV.out, if_pos hek]
          subst hx
          go_wp2_with fail
          go_ret
          exact ⟨_, rfl, by rw [HST.out.cnt]; exact HST.out.own, HST.out.rd, HST.out.gr⟩
      · have c2 := HST.out.run
        rw [readN_no hek] at c2
        subst c2
        have hx : X = [] := by rw [HRV.out, if_neg hek]
        subst hx
        have b0 : ((sk.e : Int) == 0) = false := by simp; omega
        have b00 : ((sk.e : Int) != 0) = true := by simp; omega
        by_cases hlt : k < n
        · have b1 : (k : Int) < n := by omega
          go_wp2_with fail
          go_ret
          exact ⟨_, rfl, owns_nil _ _, HST.out.rd, HST.out.gr⟩
        · have b1 : ¬ (k : Int) < n := by omega
          go_wp2_with fail
          go_ret
          exact ⟨_, rfl, owns_nil _ _, HST.out.rd, HST.out.gr⟩
end Go.Proofs.YtfkpgildeddhaaaGreat.Nd

/- indentureref10.Read. -/
namespace Go.Proofs.YtfkpgildeddhaaaGreat.Nd
open Go.RowKit Go.Proofs.YtfkpgildeddhaaaGreat.Dk

theorem nrd_built (q : Option Addr) (m c : Nat) : Tryz.prog.built 70 [(0, .slice q m c)] = some #[.slice q m c, .int .i64 0] := by kernel_rfl
theorem ent_built (q : Option Addr) (m c : Nat) (b : Bool) : Tryz.prog.built 55 [(0, .slice q m c), (1, .bool b)] = some #[.slice q m c, .bool b] := by kernel_rfl
def RdPost (w : World) (B : List Nat) (d : Int) (e : Ending) (w' : World) : Prop :=
  Below w.heap.size w w' ∧
  (((rdN d B).good d ∧ ∃ kind p n c q m f E K, e = .returned (.tuple #[.agg #[.int .u8 (kind : Nat), .slice p n c, .slice q m f], .bool true]) ∧ EntsIn w' p n c E ∧ KidsIn w' q m f K ∧ pnOf kind E K = (rdN d B).node ∧ kind < 256) ∨
   (¬ (rdN d B).good d ∧ e = .returned (.tuple #[.agg #[.int .u8 0, .slice none 0 0, .slice none 0 0], .bool false])))
set_option maxRecDepth 100000 in
set_option maxHeartbeats 16000000 in
theorem rread_any (B : List Nat) (p : Option Addr) (n c : Nat) (dm : Int) (_hdm : In64 dm) (w : World) (hB : Tx w p n c B) (hl : n < 1099511627776) :
    Calls Tryz.prog 7 #[.slice p n c, .int .i64 dm] w (RdPost w B dm) := by
  have hbd := rdN_bounds (m := dm) hB.ok
  have hBl : B.length < 1099511627776 := by rw [← hB.size]; exact hl
  have hx0 : rdN dm B = ⟨Cm.val ((Rd.mk B 0).part 1), Cm.val (((Rd.mk B 0).past 1).part 1), (((Rd.mk B 0).past 1).past 1), readE dm (Cm.val (((Rd.mk B 0).past 1).part 1)) (((Rd.mk B 0).past 1).past 1) [], Cm.val ((readE dm (Cm.val (((Rd.mk B 0).past 1).part 1)) (((Rd.mk B 0).past 1).past 1) []).2.part 1), (readE dm (Cm.val (((Rd.mk B 0).past 1).part 1)) (((Rd.mk B 0).past 1).past 1) []).2.past 1, readK dm (Cm.val ((readE dm (Cm.val (((Rd.mk B 0).past 1).part 1)) (((Rd.mk B 0).past 1).past 1) []).2.part 1)) ((readE dm (Cm.val (((Rd.mk B 0).past 1).part 1)) (((Rd.mk B 0).past 1).past 1) []).2.past 1) []⟩ := rfl
  have HA0 := Lib.hid (fun w1 g (h : NSx w1 g ⟨B, 0⟩) => nbyte_any ⟨B, 0⟩ g w1 h hBl)
  have HA1 := Lib.hid (fun w1 g (h : NSx w1 g ((Rd.mk B 0).past 1)) => nbyte_any ((Rd.mk B 0).past 1) g w1 h (Nat.lt_of_le_of_lt hbd.2.2.2.2.2.2.2.2.2 hBl))
  generalize hxx : rdN dm B = x at *
  have hk0 : Cm.val ((Rd.mk B 0).part 1) = x.kind := by rw [hx0]
  have hk1 : Cm.val (((Rd.mk B 0).past 1).part 1) = x.n1 := by rw [hx0]
  have hk2 : (((Rd.mk B 0).past 1).past 1) = x.s2 := by rw [hx0]
  have hk3 : readE dm x.n1 x.s2 [] = x.T1 := by rw [hx0]
  have hk4 : Cm.val (x.T1.2.part 1) = x.n2 := by rw [hx0]
  have hk5 : x.T1.2.past 1 = x.s4 := by rw [hx0]
  have hk6 : readK dm x.n2 x.s4 [] = x.T2 := by rw [hx0]
  rw [hk0] at HA0
  rw [hk1, hk2] at HA1
  generalize (Rd.mk B 0).past 1 = s1 at *
  have HBD := Lib.hid hbd
  have HBL := Lib.hid hBl
  have HK3 := Lib.hid hk3
  have HK4 := Lib.hid hk4
  have HK5 := Lib.hid hk5
  have HK6 := Lib.hid hk6
  have HB := Lib.hid hB
  have HXX := Lib.hid hxx
  have HTL := Lib.hid (tx_lt hB)
  clear hbd hBl hx0 hk0 hk1 hk2 hk3 hk4 hk5 hk6 hB hxx
  obtain ⟨ie, hi, hi0, hi1, hi2⟩ := info_parts IEn
  have HI := Lib.hid hi
  have HI0 := Lib.hid hi0
  have HI1 := Lib.hid hi1
  have HI2 := Lib.hid hi2
  clear hi hi0 hi1 hi2
  obtain ⟨ik, hi, hi0, hi1, hi2⟩ := info_parts IKd
  have KI := Lib.hid hi
  have KI0 := Lib.hid hi0
  have KI1 := Lib.hid hi1
  have KI2 := Lib.hid hi2
  clear hi hi0 hi1 hi2
  have HZK := Lib.hid (zero_of_info kz)
  obtain ⟨dk, hdu, hdr⟩ := UKd
  have HKU := Lib.hid hdu
  have HKR := Lib.hid hdr
  clear hdu hdr
  have hb1 : Below w.heap.size w (w.alloc (.cells #[.int .u8 0, .slice none 0 0, .slice none 0 0] 27)) := (Below.refl _ _).alloc (Nat.le_refl _) _
  have r1 := heap_alloc_new w (.cells #[.int .u8 0, .slice none 0 0, .slice none 0 0] 27)
  have z1 : (w.alloc (.cells #[.int .u8 0, .slice none 0 0, .slice none 0 0] 27)).heap.size = w.heap.size + 1 := by simp
  have HB1 := Lib.hid hb1
  have R1 := Lib.hid r1
  have Z1 := Lib.hid z1
  clear hb1 r1 hl z1
  go_enter Tryz.func7, Tryz.ntmps7
  go_upto_region 1 with fail
  generalize w.alloc (.cells #[.int .u8 0, .slice none 0 0, .slice none 0 0] 27) = w1 at *
  have hb2 : Below w1.heap.size w1 (w1.alloc (.cells #[.slice p n c, .int .i64 0] 70)) := (Below.refl _ _).alloc (Nat.le_refl _) _
  have r2 := heap_alloc_new w1 (.cells #[.slice p n c, .int .i64 0] 70)
  go_upto_region 2 with fail
  have HR2 := Lib.hid (show NSx (w1.alloc (.cells #[.slice p n c, .int .i64 0] 70)) w1.heap.size ⟨B, 0⟩ from ⟨p, n, c, r2, (HB.out.later HB1.out).later hb2, fun y hy hB => by have := HTL.out y hy hB; have := Z1.out; show y.block < w1.heap.size; omega⟩)
  have R2 := Lib.hid ((hb2.block w.heap.size (by have := Z1.out; omega)).trans R1.out)
  have HB2 := Lib.hid (HB1.out.trans (hb2.mono HB1.out.size))
  generalize w1.alloc (.cells #[.slice p n c, .int .i64 0] 70) = w2 at *
  obtain ⟨g, hg⟩ : ∃ g, w1.heap.size = g := ⟨_, rfl⟩
  rw [hg] at HR2 ⊢
  have HGW := Lib.hid (show w.heap.size < g from by have := Z1.out; omega)
  clear hb2 r2 hg R1 HB1 Z1
  clear w1
  have A0 := Lib.hid (HA0.out w2 g HR2.out)
  clear HA0
  go_upto_region 3 with (go_at_call 31; refine A0.out.mono ?_; rintro e w3 ⟨rfl, h3, k3⟩; have HR3 := Lib.hid h3; have K3 := Lib.hid k3; clear h3 k3)
  have hg3 : g < w3.heap.size := HR3.out.lt
  have hb4 : Below w3.heap.size w3 (w3.alloc (.cells #[.int .u8 x.kind, .slice none 0 0, .slice none 0 0] 27)) := (Below.refl _ _).alloc (Nat.le_refl _) _
  have rn4 := heap_alloc_new w3 (.cells #[.int .u8 x.kind, .slice none 0 0, .slice none 0 0] 27)
  have hgw := HGW.out
  have R3 := Lib.hid ((K3.out.block w.heap.size (Array.getElem?_eq_some_iff.1 R2.out).1 (by simp; omega)).trans R2.out)
  have HB3 := Lib.hid (show Below w.heap.size w w3 from HB2.out.trans (below_grown K3.out (by omega) HB2.out.size))
  obtain ⟨gn, hgn⟩ : ∃ gn, gn = w3.heap.size := ⟨_, rfl⟩
  rw [← hgn] at rn4 hg3 hb4 ⊢
  have R4 := Lib.hid ((hb4.block w.heap.size (by omega)).trans R3.out)
  have HR4 := Lib.hid (HR3.out.later (by rw [← hgn]; exact hb4))
  have HB4 := Lib.hid (HB3.out.trans (hb4.mono (by omega)))
  have RN4 := Lib.hid rn4
  have HGG := Lib.hid (show w.heap.size < g ∧ g < gn from ⟨hgw, hg3⟩)
  clear hb4 rn4 hg3 hgw R2 R3 HR3 HB2 HB3 K3 A0 HR2 hgn HGW
  clear w2
  generalize w3.alloc (.cells #[.int .u8 x.kind, .slice none 0 0, .slice none 0 0] 27) = w4 at *
  clear w3
  have A0 := Lib.hid (HA1.out w4 g HR4.out)
  clear HA1
  have hn1 := HBD.out.2.1
  have hq1 : IntKind.i64.wrap (x.n1 : Int) = (x.n1 : Int) := IntWalk.i64_in _ (by omega)
  go_upto_region 4 with (go_at_call 31; refine A0.out.mono ?_; rintro e wL ⟨rfl, h3, k3⟩; have HR5 := Lib.hid h3; have K5 := Lib.hid k3; clear h3 k3)
  have hgn4 : gn < w4.heap.size := (Array.getElem?_eq_some_iff.1 RN4.out).1
  have RN5 := Lib.hid ((K5.out.block gn hgn4 (by simp; have := HGG.out; omega)).trans RN4.out)
  have RG5 := Lib.hid ((K5.out.block w.heap.size (Array.getElem?_eq_some_iff.1 R4.out).1 (by simp; have := HGG.out; omega)).trans R4.out)
  have HB5 := Lib.hid (show Below w.heap.size w wL from HB4.out.trans (below_grown K5.out (by have := HGG.out; omega) HB4.out.size))
  have HGL := Lib.hid (show gn < wL.heap.size from (Array.getElem?_eq_some_iff.1 RN5.out).1)
  have HLS := Lib.hid (show x.s2.R.length < 1099511627776 from Nat.lt_of_le_of_lt HBD.out.2.2.2.2.1 HBL.out)
  clear A0 R4 HR4 HB4 RN4 K5 hgn4 hq1
  clear w4
  go_wp2_with fail
  go_loopw [9] (fun i wr => Re1R dm wL gn g x.kind x.n1 x.T1 i wr) (fun i _ => x.n1 - (intOf i).toNat)
  case atStart => exact ⟨0, [], .slice none 0 0, x.s2, rfl, by omega, RN5.out, Lst.nil _, HR5.out, Only.refl _ _, by rw [Nat.sub_zero]; exact HK3.out, HLS.out⟩
  case round =>
    obtain ⟨k, E, v, s, rfl, hst⟩ := hrel
    have ST := Lib.hid hst
    obtain ⟨qv, cv, rfl, -⟩ := hst.ents.form
    have hle := hst.le
    clear hst RN5 HR5 HLS
    by_cases hlt : k < x.n1
    · have b1 : (k : Int) < x.n1 := by omega
      have hsok : Sm.allB s.R := by obtain ⟨p, n, c, h⟩ := ST.out.rd; exact h.tx.ok
      have hto := truth_R hsok
      have HT := Lib.hid (ntruth_any s g wr ST.out.rd ST.out.len)
      have HTW := Lib.hid (fun w5 (h : NSx w5 g s.truth) => nrow_any s.truth dm g w5 h (Nat.lt_of_le_of_lt hto.2 ST.out.len))
      have HNL := Lib.hid (show (s.entN dm).R.length < 1099511627776 from Nat.lt_of_le_of_lt (ent_R (m := dm) hsok).2 ST.out.len)
      have HRI := Lib.hid (rowV_in (m := dm) hto.1)
      have HRL := Lib.hid (rowV_len (m := dm) hto.1)
      have HGR := Lib.hid (show gn < wr.heap.size ∧ wL.heap.size ≤ wr.heap.size from ⟨(Array.getElem?_eq_some_iff.1 ST.out.row).1, ST.out.only.size⟩)
      have hk256 : k < 255 := by omega
      rw [show (s.truth.row dm).2 = s.entN dm from rfl] at HTW
      clear hsok hto
      go_upto_region 8 with (go_at_call 32; refine HT.out.mono ?_; rintro e w5 ⟨rfl, h3, k3⟩; have T5 := Lib.hid h3; have K5 := Lib.hid k3; clear h3 k3)
      have HW5 := Lib.hid (HTW.out w5 T5.out)
      clear HT HTW T5
      go_upto_region 9 with (go_at_call 33; refine HW5.out.mono ?_; rintro e w6 ⟨v6, rfl, o6, h6, k6⟩; obtain ⟨r6, rfl, hr6, -, hf6⟩ := fr_of_own o6 HRI.out (by have := HRL.out; omega); have H6 := Lib.hid h6; have RR6 := Lib.hid hr6; have FR6 := Lib.hid (hf6.base K5.out.size); have K6 := Lib.hid (grown_twice K5.out k6); clear h6 hr6 hf6 k6 o6; unfold Rw.val)
      have ROW6 := Lib.hid ((K6.out.block gn HGR.out.1 (by simp; have := HGG.out; omega)).trans ST.out.row)
      have OWN6 := Lib.hid ((ST.out.ents.grown K6.out (by have := HGL.out; have := HGG.out; omega)).own.alloc (.cells #[.slice r6.p r6.n r6.c, .bool s.truthV] 55))
      have t1 : w6.cell? ⟨gn, 1, none⟩ = some (.slice qv k cv) := cell_of_row w6 gn 1 _ _ _ ROW6.out
      have hb7 : Below w6.heap.size w6 (w6.alloc (.cells #[.slice r6.p r6.n r6.c, .bool s.truthV] 55)) := (Below.refl _ _).alloc (Nat.le_refl _) _
      have ROW7 := Lib.hid ((hb7.block gn (Array.getElem?_eq_some_iff.1 ROW6.out).1).trans ROW6.out)
      clear HW5 K5 hb7
      go_wp2_with (first
        | (refine wpList_build (cells := #[.slice r6.p r6.n r6.c, .bool s.truthV]) (by rfl) (by rfl) (by simp only [List.map_toArray, List.map_cons, List.map_nil]; exact ent_built _ _ _ _) ?_)
        | (refine wpList_ent_one (by rfl) (.tmp 37) (by rfl) (by rfl) ?_)
        | (refine wpList_app (by rfl) (.tmp 34) (.tmp 38) 24 (by rfl) wL.heap.size 55 ie (.agg #[.slice none 0 0, .bool false]) 2 32 UEs HI.out HI0.out HI1.out HI2.out (by rfl) (by decide) _ k _ (by rfl) OWN6.out ⟨w6.heap.size, 0, none⟩ 1 1 (En.cells ⟨r6, s.truthV⟩) (by rfl) (by rfl) (ent_news w6 ⟨r6, s.truthV⟩) En.one (by unfold maxLen; omega) (by omega) (by have h1 := HGR.out; have h2 := K6.out.size; simp; omega) ?_; intro v7 w7 hown7 hgrow7 hat7; have hv7 := fun y e => ST.out.ents.own.lt y e; have row7 := (hgrow7.block gn (Array.getElem?_eq_some_iff.1 ROW7.out).1 (fun e => by have := (hv7 _ e.symm).1; have := HGL.out; omega)).trans ROW7.out; have t7 := cell_of_row w7 gn 1 _ _ _ row7; have f7 := frozen_of_row w7 gn 1 _ _ row7; obtain ⟨q7, c7, rfl⟩ := lst_form hown7; have HO7 := Lib.hid hown7; have HG7 := Lib.hid hgrow7; have HT7 := Lib.hid hat7; clear hown7 hgrow7 hat7 hv7 row7))
      have ST9 := Lib.hid (ST.out.step hlt HGL.out HGG.out.2 RR6.out rfl FR6.out H6.out K6.out HO7.out HG7.out HT7.out HNL.out)
      go_roundw
      case rel => exact ⟨k + 1, _, _, _, by go_num, ST9.out⟩
      case measure => simp [intOf]; omega
    · obtain rfl : k = x.n1 := by omega
      have hrun := ST.out.run
      rw [Nat.sub_self] at hrun
      have hrun : (E.map En.pe, s) = x.T1 := hrun
      have HE1 := Lib.hid (show x.T1.1 = E.map En.pe from by rw [← hrun])
      have hs2 : s = x.T1.2 := by rw [← hrun]
      subst hs2
      have A0 := Lib.hid (nbyte_any x.T1.2 g wr ST.out.rd ST.out.len)
      rw [HK4.out, HK5.out] at A0
      have hn1k : x.n1 < 256 := hn1
      have hn2 := HBD.out.2.2.1
      have hq2 : IntKind.i64.wrap (x.n2 : Int) = (x.n2 : Int) := IntWalk.i64_in _ (by omega)
      clear hrun hlt hle hn1
      go_upto_region 11 with (go_at_call 31; refine A0.out.mono ?_; rintro e wM ⟨rfl, h3, k3⟩; have HR6 := Lib.hid h3; have K6 := Lib.hid k3; clear h3 k3)
      have RN6 := Lib.hid ((K6.out.block gn (Array.getElem?_eq_some_iff.1 ST.out.row).1 (by simp; have := HGG.out; omega)).trans ST.out.row)
      have HEN := Lib.hid (ST.out.ents.grown K6.out (by have := HGL.out; have := HGG.out; omega))
      have HON := Lib.hid (ST.out.only.trans (show Only (fun j => j = gn ∨ j = g) wr wM from ⟨K6.out.os, K6.out.tape, K6.out.output, K6.out.size, fun j hj hn => K6.out.block j hj (by simp; intro e; exact hn (Or.inr e))⟩))
      have HGM := Lib.hid (show gn < wM.heap.size from (Array.getElem?_eq_some_iff.1 RN6.out).1)
      have HLS := Lib.hid (show x.s4.R.length < 1099511627776 from Nat.lt_of_le_of_lt HBD.out.2.2.2.2.2.2.2.2.1 HBL.out)
      clear A0 ST K6 hq2
      clear wr
      generalize x.n1 = n1 at *
      obtain ⟨v1, hv1⟩ : ∃ v1 : Value, v1 = .slice qv n1 cv := ⟨_, rfl⟩
      rw [← hv1] at RN6 HEN
      have HV1 := Lib.hid hv1
      clear hv1
      go_wp2_with fail
      go_loopw [12] (fun i wr => Re2R dm wM gn g x.kind x.n2 v1 x.T2 i wr) (fun i _ => x.n2 - (intOf i).toNat)
      case atStart => exact ⟨0, [], .slice none 0 0, x.s4, rfl, by omega, RN6.out, ⟨Lst.nil _, fun k hk => by cases hk⟩, HR6.out, Only.refl _ _, by rw [Nat.sub_zero]; exact HK6.out, HLS.out⟩
      case round =>
        obtain ⟨k, K, v, s, rfl, hst⟩ := hrel
        have ST := Lib.hid hst
        obtain ⟨qv2, cv2, rfl, -⟩ := hst.kids.lst.form
        have hle := hst.le
        clear hst RN6 HR6 HLS
        by_cases hlt : k < x.n2
        · have b1 : (k : Int) < x.n2 := by omega
          have hok : Sm.allB s.R := by obtain ⟨p, n, c, h⟩ := ST.out.rd; exact h.tx.ok
          have hl := ST.out.len
          have HNL := Lib.hid (show (s.kidN dm).R.length < 1099511627776 from Nat.lt_of_le_of_lt (kid_R (m := dm) hok).2 ST.out.len)
          have HGR := Lib.hid (show gn < wr.heap.size ∧ wM.heap.size ≤ wr.heap.size from ⟨(Array.getElem?_eq_some_iff.1 ST.out.row).1, ST.out.only.size⟩)
          have hk256 : k < 255 := by omega
          have h1 := k1_R hok
          have h2 := k2_R hok
          have h3 := k3_R hok
          have h4 := k4_R (m := dm) hok
          have h5 := k5_R (m := dm) hok
          have HC1 := Lib.hid (countV_in (m := 1048576) h1.1 (by omega))
          have HC2 := Lib.hid (countV_in (m := 1048576) h2.1 (by omega))
          have HI3 := Lib.hid (rowV_in (m := dm) h3.1)
          have HI4 := Lib.hid (rowV_in (m := dm) h4.1)
          have HI5 := Lib.hid (rowV_in (m := dm) h5.1)
          have HL3 := Lib.hid (rowV_len (m := dm) h3.1)
          have HL4 := Lib.hid (rowV_len (m := dm) h4.1)
          have HL5 := Lib.hid (rowV_len (m := dm) h5.1)
          have HD1 := Lib.hid (digV_length s)
          have HD2 := Lib.hid (digV_ok hok)
          have HA0 := Lib.hid (fun w1 (h : NSx w1 g s) => ndigest_any s g w1 h hl)
          have HA1 := Lib.hid (fun w1 (h : NSx w1 g s.k1) => ncount_any s.k1 1048576 (by omega) g w1 h (Nat.lt_of_le_of_lt h1.2 hl))
          have HA2 := Lib.hid (fun w1 (h : NSx w1 g s.k2) => ncount_any s.k2 1048576 (by omega) g w1 h (Nat.lt_of_le_of_lt h2.2 hl))
          have HA3 := Lib.hid (fun w1 (h : NSx w1 g s.k3) => nrow_any s.k3 dm g w1 h (Nat.lt_of_le_of_lt h3.2 hl))
          have HA4 := Lib.hid (fun w1 (h : NSx w1 g (s.k4 dm)) => nrow_any (s.k4 dm) dm g w1 h (Nat.lt_of_le_of_lt h4.2 hl))
          have HA5 := Lib.hid (fun w1 (h : NSx w1 g (s.k5 dm)) => nrow_any (s.k5 dm) dm g w1 h (Nat.lt_of_le_of_lt h5.2 hl))
          obtain ⟨V, hV⟩ : ∃ V, s.kidV dm = V := ⟨_, rfl⟩
          obtain ⟨sN, hN⟩ : ∃ t, s.kidN dm = t := ⟨_, rfl⟩
          have HVN := Lib.hid (And.intro hV hN)
          have hV : (⟨s.digV, s.k3.rowV dm, (s.k4 dm).rowV dm, s.k1.countV 1048576, s.k2.countV 1048576, (s.k5 dm).rowV dm⟩ : PK) = V := hV
          have hN : ((s.k5 dm).row dm).2 = sN := hN
          rw [show s.past 32 = s.k1 from rfl] at HA0
          rw [show s.k1.count ((1048576 : Nat) : Int) = s.k2 from rfl, show s.k1.countV ((1048576 : Nat) : Int) = s.k1.countV 1048576 from rfl] at HA1
          rw [show s.k2.count ((1048576 : Nat) : Int) = s.k3 from rfl, show s.k2.countV ((1048576 : Nat) : Int) = s.k2.countV 1048576 from rfl] at HA2
          rw [show (s.k3.row dm).2 = s.k4 dm from rfl] at HA3
          rw [show ((s.k4 dm).row dm).2 = s.k5 dm from rfl] at HA4
          rw [hN] at HA5
          clear h1 h2 h3 h4 h5 hN hok hl
          have A0 := Lib.hid (HA0.out wr ST.out.rd)
          clear HA0
          generalize s.digV = D at *
          generalize s.k1.countV 1048576 = cl at *
          generalize s.k2.countV 1048576 = cz at *
          generalize s.k3.rowV dm = A3 at *
          generalize (s.k4 dm).rowV dm = A4 at *
          generalize (s.k5 dm).rowV dm = A5 at *
          generalize s.k1 = s1' at *
          generalize s.k2 = s2' at *
          generalize s.k3 = s3' at *
          generalize s.k4 dm = s4' at *
          generalize s.k5 dm = s5' at *
          have HV := Lib.hid hV
          clear hV
          have hzk := HZK.out.1
          have HCL0 := Lib.hid (show (⟨D, ⟨none, 0, 0, []⟩, ⟨none, 0, 0, []⟩, 0, 0, ⟨none, 0, 0, []⟩⟩ : Kd).cells.length = 37 from Kd.cells_length HD1.out)
          go_upto_region 15 with (first
            | (go_at_call 34; refine A0.out.mono ?_; rintro e w3 ⟨rfl, h3, k3⟩; have H3 := Lib.hid h3; have K3 := Lib.hid k3; clear h3 k3)
            | (refine wpList_build (cells := (⟨D, ⟨none, 0, 0, []⟩, ⟨none, 0, 0, []⟩, 0, 0, ⟨none, 0, 0, []⟩⟩ : Kd).cells.toArray) (by rfl) (by rfl) (by simp only [List.map_toArray, List.map_cons, List.map_nil]; exact kd_built_sum D HD1.out) ?_)
            | (refine wpList_store_row (by rfl) 43 (.tmp 13) (.tmp 51) (by rfl) w3.heap.size (⟨D, ⟨none, 0, 0, []⟩, ⟨none, 0, 0, []⟩, 0, 0, ⟨none, 0, 0, []⟩⟩ : Kd).cells.toArray (by rfl) (by rfl) _ _ (heap_alloc_new w3 _) (by rw [List.size_toArray, HCL0.out]; exact SKd) (by simp only [List.size_toArray, HCL0.out, kd0_size]) (all_oneCell_toArray Kd.one) ?_; rw [setRow_alloc]))
          have hb4 : Below w3.heap.size w3 (w3.alloc (.cells (⟨D, ⟨none, 0, 0, []⟩, ⟨none, 0, 0, []⟩, 0, 0, ⟨none, 0, 0, []⟩⟩ : Kd).cells.toArray 43)) := (Below.refl _ _).alloc (Nat.le_refl _) _
          have H4 := Lib.hid (show NkSt wr (w3.alloc (.cells (⟨D, ⟨none, 0, 0, []⟩, ⟨none, 0, 0, []⟩, 0, 0, ⟨none, 0, 0, []⟩⟩ : Kd).cells.toArray 43)) w3.heap.size g ⟨D, ⟨none, 0, 0, []⟩, ⟨none, 0, 0, []⟩, 0, 0, ⟨none, 0, 0, []⟩⟩ s1' from
            ⟨heap_alloc_new w3 _, H3.out.later hb4, grown_new K3.out (B := w3.heap.size) K3.out.size hb4 hb4.size, HD1.out, ⟨K3.out.size, ST.out.rd.lt⟩, fr_none _ _, fr_none _ _, fr_none _ _⟩)
          generalize w3.alloc (.cells (⟨D, ⟨none, 0, 0, []⟩, ⟨none, 0, 0, []⟩, 0, 0, ⟨none, 0, 0, []⟩⟩ : Kd).cells.toArray 43) = w4 at *
          generalize w3.heap.size = gx at *
          clear hb4 H3 K3 A0 hzk
          clear w3
          have A0 := Lib.hid (HA1.out w4 H4.out.rd)
          go_upto_region 16 with (go_at_call 35; refine A0.out.mono ?_; rintro e w5 ⟨rfl, h3, k3⟩; have H5 := Lib.hid (H4.out.call h3 k3); have c9 := H5.out.cell.live; rw [Nat.zero_add] at c9; have f9 := frozen_of_row w5 gx 34 _ _ H5.out.row; clear h3 k3)
          have r4 := heap_setCell_same w5 gx 34 _ _ (.int .i64 cl) H5.out.row
          rw [kd_set_live H5.out.len] at r4
          have H6 := Lib.hid (H5.out.put r4 (Only.setCell (P := fun j => j = gx) _ (a := ⟨gx, 34, none⟩) rfl _) H5.out.len H5.out.lo H5.out.hi H5.out.key)
          clear r4 c9 f9 A0 H5 H4
          generalize w5.setCell ⟨gx, 34, none⟩ (.int .i64 cl) = w6 at *
          have A0 := Lib.hid (HA2.out w6 H6.out.rd)
          go_upto_region 17 with (go_at_call 35; refine A0.out.mono ?_; rintro e w7 ⟨rfl, h3, k3⟩; have H7 := Lib.hid (H6.out.call h3 k3); have c9 := H7.out.cell.size; rw [Nat.zero_add] at c9; have f9 := frozen_of_row w7 gx 35 _ _ H7.out.row; clear h3 k3)
          have r4 := heap_setCell_same w7 gx 35 _ _ (.int .i64 cz) H7.out.row
          rw [kd_set_size H7.out.len] at r4
          have H8 := Lib.hid (H7.out.put r4 (Only.setCell (P := fun j => j = gx) _ (a := ⟨gx, 35, none⟩) rfl _) H7.out.len H7.out.lo H7.out.hi H7.out.key)
          clear r4 c9 f9 A0 H7 H6
          generalize w7.setCell ⟨gx, 35, none⟩ (.int .i64 cz) = w8 at *
          have A0 := Lib.hid (HA3.out w8 H8.out.rd)
          go_upto_region 18 with (go_at_call 33; refine A0.out.mono ?_; rintro e w9 ⟨v9, rfl, o9, h3, k3⟩; obtain ⟨q3, rfl, hr9, -, hf9⟩ := fr_of_own o9 HI3.out (by have := HL3.out; omega); have FR3 := Lib.hid hf9; have RR3 := Lib.hid hr9; have Z3 := Lib.hid (show gx + 1 ≤ w8.heap.size from (Array.getElem?_eq_some_iff.1 H8.out.row).1); have H9 := Lib.hid (H8.out.call h3 k3); have c9 := H9.out.cell.lo; rw [Nat.zero_add] at c9; have f9 := frozen_of_row w9 gx 32 _ _ H9.out.row; clear h3 k3 o9 hf9 hr9; unfold Rw.val at c9; unfold Rw.val)
          have r4 := heap_setCell_same w9 gx 32 _ _ q3.val H9.out.row
          rw [kd_set_lo H9.out.len] at r4
          have H10 := Lib.hid (H9.out.put r4 (Only.setCell (P := fun j => j = gx) _ (a := ⟨gx, 32, none⟩) rfl _) H9.out.len (FR3.out.base Z3.out) H9.out.hi H9.out.key)
          clear r4 c9 f9 A0 H9 H8 FR3 Z3
          unfold Rw.val at H10
          generalize w9.setCell ⟨gx, 32, none⟩ (.slice q3.p q3.n q3.c) = w10 at *
          have A0 := Lib.hid (HA4.out w10 H10.out.rd)
          go_upto_region 19 with (go_at_call 33; refine A0.out.mono ?_; rintro e w11 ⟨v9, rfl, o9, h3, k3⟩; obtain ⟨q4, rfl, hr9, -, hf9⟩ := fr_of_own o9 HI4.out (by have := HL4.out; omega); have FR4 := Lib.hid hf9; have RR4 := Lib.hid hr9; have Z4 := Lib.hid (show gx + 1 ≤ w10.heap.size from (Array.getElem?_eq_some_iff.1 H10.out.row).1); have H11 := Lib.hid (H10.out.call h3 k3); have c9 := H11.out.cell.hi; rw [Nat.zero_add] at c9; have f9 := frozen_of_row w11 gx 33 _ _ H11.out.row; clear h3 k3 o9 hf9 hr9; unfold Rw.val at c9; unfold Rw.val)
          have r4 := heap_setCell_same w11 gx 33 _ _ q4.val H11.out.row
          rw [kd_set_hi H11.out.len] at r4
          have H12 := Lib.hid (H11.out.put r4 (Only.setCell (P := fun j => j = gx) _ (a := ⟨gx, 33, none⟩) rfl _) H11.out.len H11.out.lo (FR4.out.base Z4.out) H11.out.key)
          clear r4 c9 f9 A0 H11 H10 FR4 Z4
          unfold Rw.val at H12
          generalize w11.setCell ⟨gx, 33, none⟩ (.slice q4.p q4.n q4.c) = w12 at *
          have A0 := Lib.hid (HA5.out w12 H12.out.rd)
          go_upto_region 20 with (go_at_call 33; refine A0.out.mono ?_; rintro e w13 ⟨v9, rfl, o9, h3, k3⟩; obtain ⟨q5, rfl, hr9, -, hf9⟩ := fr_of_own o9 HI5.out (by have := HL5.out; omega); have FR5 := Lib.hid hf9; have RR5 := Lib.hid hr9; have Z5 := Lib.hid (show gx + 1 ≤ w12.heap.size from (Array.getElem?_eq_some_iff.1 H12.out.row).1); have H13 := Lib.hid (H12.out.call h3 k3); have c9 := H13.out.cell.key; rw [Nat.zero_add] at c9; have f9 := frozen_of_row w13 gx 36 _ _ H13.out.row; clear h3 k3 o9 hf9 hr9; unfold Rw.val at c9; unfold Rw.val)
          have r4 := heap_setCell_same w13 gx 36 _ _ q5.val H13.out.row
          rw [kd_set_key H13.out.len] at r4
          have H14 := Lib.hid (H13.out.put r4 (Only.setCell (P := fun j => j = gx) _ (a := ⟨gx, 36, none⟩) rfl _) H13.out.len H13.out.lo H13.out.hi (FR5.out.base Z5.out))
          clear r4 c9 f9 A0 H13 H12 FR5 Z5
          unfold Rw.val at H14
          generalize w13.setCell ⟨gx, 36, none⟩ (.slice q5.p q5.n q5.c) = w14 at *
          have HF := Lib.hid (show NkSt wr w14 gx g (⟨D, q3, q4, cl, cz, q5⟩ : Kd) sN from H14.out)
          clear H14
          obtain ⟨kd, hkd⟩ : ∃ kd : Kd, (⟨D, q3, q4, cl, cz, q5⟩ : Kd) = kd := ⟨_, rfl⟩
          have HPK := Lib.hid (show kd.pk = V from by rw [← hkd, ← HV.out, ← RR3.out, ← RR4.out, ← RR5.out]; rfl)
          have HIN := Lib.hid (show In64 kd.live ∧ In64 kd.size ∧ Sm.allB kd.sum from by rw [← hkd]; exact ⟨⟨by have := HC1.out; show -9223372036854775808 ≤ cl; omega, by have := HC1.out; show cl ≤ 9223372036854775807; omega⟩, ⟨by have := HC2.out; show -9223372036854775808 ≤ cz; omega, by have := HC2.out; show cz ≤ 9223372036854775807; omega⟩, HD2.out⟩)
          rw [hkd] at HF
          clear hkd HA1 HA2 HA3 HA4 HA5 HC1 HC2 HI3 HI4 HI5 HL3 HL4 HL5 HD1 HD2 HV RR3 RR4 RR5 HCL0
          have HCL := Lib.hid (Kd.cells_length HF.out.len)
          have HRR := Lib.hid (range_kd HF.out.row)
          have HOK := Lib.hid (show kd.Ok w14 from ⟨HF.out.len, HIN.out.2.2, HF.out.lo.ok, HF.out.hi.ok, HF.out.key.ok, HIN.out.1, HIN.out.2.1⟩)
          have ROW14 := Lib.hid ((HF.out.gr.block gn HGR.out.1 (by simp; have := HGG.out; omega)).trans ST.out.row)
          have OWN14 := Lib.hid ((ST.out.kids.lst.grown HF.out.gr (by have := HGM.out; have := HGG.out; omega)).own.alloc (.cells kd.cells.toArray 43))
          have t2 : w14.cell? ⟨gn, 2, none⟩ = some (.slice qv2 k cv2) := cell_of_row w14 gn 2 _ _ _ ROW14.out
          have hb7 : Below w14.heap.size w14 (w14.alloc (.cells kd.cells.toArray 43)) := (Below.refl _ _).alloc (Nat.le_refl _) _
          have ROW15 := Lib.hid ((hb7.block gn (Array.getElem?_eq_some_iff.1 ROW14.out).1).trans ROW14.out)
          clear hb7
          go_wp2_with (first
            | (refine wpList_load_mid (by rfl) 43 (.tmp 13) (by rfl) gx 0 (by rfl) kd.cells dk HRR.out HKU.out HKR.out (by rw [HCL.out]; exact SKd) ?_)
            | (refine wpList_kid_one (by rfl) (.tmp 74) (by rfl) HF.out.len (by rfl) ?_)
            | (refine wpList_app (by rfl) (.tmp 73) (.tmp 75) 25 (by rfl) wM.heap.size 43 ik (.agg kd0.cells.toArray) 37 120 UKs KI.out KI0.out KI1.out KI2.out (by rfl) (by decide) _ k _ (by rfl) OWN14.out ⟨w14.heap.size, 0, none⟩ 1 1 kd.cells (by rfl) (by rw [HCL.out]) (kid_news w14 kd) Kd.one (by unfold maxLen; omega) (by omega) (by have h1 := HGR.out; have h2 := HF.out.gr.size; simp; omega) ?_; intro v7 w7 hown7 hgrow7 hat7; have hv7 := fun y e => ST.out.kids.lst.own.lt y e; have row7 := (hgrow7.block gn (Array.getElem?_eq_some_iff.1 ROW15.out).1 (fun e => by have := (hv7 _ e.symm).1; have := HGM.out; omega)).trans ROW15.out; have t7 := cell_of_row w7 gn 2 _ _ _ row7; have f7 := frozen_of_row w7 gn 2 _ _ row7; obtain ⟨q7, c7, rfl⟩ := lst_form hown7; have HO7 := Lib.hid hown7; have HG7 := Lib.hid hgrow7; have HT7 := Lib.hid hat7; clear hown7 hgrow7 hat7 hv7 row7))
          have hzw : wr.heap.size ≤ gx + 1 := by have := HF.out.at'.1; omega
          have ST9 := Lib.hid (ST.out.step hlt HGM.out HGG.out.2 (HPK.out.trans HVN.out.1.symm) HOK.out (HF.out.lo.base hzw) (HF.out.hi.base hzw) (HF.out.key.base hzw) (by rw [HVN.out.2]; exact HF.out.rd) HF.out.gr HO7.out HG7.out HT7.out HNL.out)
          go_roundw
          case rel => exact ⟨k + 1, _, _, _, by go_num, ST9.out⟩
          case measure => simp [intOf]; omega
        · obtain rfl : k = x.n2 := by omega
          have hrun := ST.out.run
          rw [Nat.sub_self] at hrun
          have hrun : (K.map Kd.pk, s) = x.T2 := hrun
          have HK1 := Lib.hid (show x.T2.1 = K.map Kd.pk from by rw [← hrun])
          have hs2 : s = x.T2.2 := by rw [← hrun]
          subst hs2
          have hn2k : x.n2 < 256 := hn2
          have HKN := Lib.hid (show ⟨x.kind, E.map En.pe, K.map Kd.pk⟩ = x.node from by unfold RdN.node; rw [HE1.out, HK1.out])
          have hkd256 := HBD.out.1
          have HGOOD := Lib.hid (show x.good dm ↔ x.T2.2.e = 0 ∧ x.T2.2.R = [] ∧ x.node.right dm = true from Iff.rfl)
          have HENS := Lib.hid (HEN.out.keep (w' := wr) (fun j hj hl => ST.out.only.block j hl (by have := HGL.out; have := HGG.out; omega)))
          have RGR := Lib.hid (show wr.heap[w.heap.size]? = some (.cells #[.int .u8 0, .slice none 0 0, .slice none 0 0] 27 (0, 0)) from
            (ST.out.only.block _ (by have := HGM.out; have := HGG.out; omega) (by have := HGG.out; omega)).trans ((HON.out.block _ (by have := HGL.out; have := HGG.out; omega) (by have := HGG.out; omega)).trans RG5.out))
          have HBR := Lib.hid (show Below w.heap.size w wr from (HB5.out.trans ((HON.out.trans (ST.out.only.mono fun j e => e)).below HB5.out.size (fun j e => by have := HGG.out; omega))))
          have HGB := Lib.hid (show wL.heap.size ≤ wM.heap.size from HON.out.size)
          have ROWN := Lib.hid ST.out.row
          have KIDS := Lib.hid ST.out.kids
          have HRD := Lib.hid ST.out.rd
          generalize x.T2.2 = sE at *
          obtain ⟨pr, nr, cr, hns⟩ := HRD.out
          have q0 := hns.rest
          have q1 := hns.err
          have HSZ := Lib.hid hns.tx.size
          clear hns HRD ST hrun hlt hle hn2 HEN HON HB5 RG5 HK6 HK5 HK4 HK3 HBD
          have hv1 := HV1.out
          subst hv1
          obtain ⟨du, hdu, hdr⟩ := UNo
          have HD := Lib.hid hdu
          have HDR := Lib.hid hdr
          clear hdu hdr
          by_cases he : sE.e = 0
          case neg =>
            have b2 : ((sE.e : Int) != 0) = true := by simp; omega
            have HNG := Lib.hid (show ¬ x.good dm from fun h => he (HGOOD.out.1 h).1)
            clear he
            have a0 := cell_of_row wr w.heap.size 0 _ _ _ RGR.out
            have a1 := cell_of_row wr w.heap.size 1 _ _ _ RGR.out
            have a2 := cell_of_row wr w.heap.size 2 _ _ _ RGR.out
            have f0 := frozen_of_row wr w.heap.size 0 _ _ RGR.out
            have f1 := frozen_of_row wr w.heap.size 1 _ _ RGR.out
            have f2 := frozen_of_row wr w.heap.size 2 _ _ RGR.out
            go_wp2_with fail
            obtain ⟨r1, r2⟩ := res_set (a' := .int .u8 0) (b' := .slice none 0 0) (c' := .slice none 0 0) RGR.out
            refine ret_str2 4 5 (by kernel_rfl) w.heap.size _ #[.int .u8 0, .slice none 0 0, .slice none 0 0] _ HD.out HDR.out SNo (by rfl) (by rfl) r1 ⟨HBR.out.trans (r2.below HBR.out.size (fun j e => by omega)), Or.inr ⟨by rw [HXX.out]; exact HNG.out, rfl⟩⟩
          have HE0 := Lib.hid he
          rw [he] at q1
          clear he
          by_cases hR : sE.R = []
          case neg =>
            have b3 : (0 : Int) < (nr : Int) := by have h1 := HSZ.out; have h2 := List.length_pos_iff.2 hR; omega
            have HNG := Lib.hid (show ¬ x.good dm from fun h => hR (HGOOD.out.1 h).2.1)
            clear hR
            have a0 := cell_of_row wr w.heap.size 0 _ _ _ RGR.out
            have a1 := cell_of_row wr w.heap.size 1 _ _ _ RGR.out
            have a2 := cell_of_row wr w.heap.size 2 _ _ _ RGR.out
            have f0 := frozen_of_row wr w.heap.size 0 _ _ RGR.out
            have f1 := frozen_of_row wr w.heap.size 1 _ _ RGR.out
            have f2 := frozen_of_row wr w.heap.size 2 _ _ RGR.out
            go_wp2_with fail
            obtain ⟨r1, r2⟩ := res_set (a' := .int .u8 0) (b' := .slice none 0 0) (c' := .slice none 0 0) RGR.out
            refine ret_str2 4 5 (by kernel_rfl) w.heap.size _ #[.int .u8 0, .slice none 0 0, .slice none 0 0] _ HD.out HDR.out SNo (by rfl) (by rfl) r1 ⟨HBR.out.trans (r2.below HBR.out.size (fun j e => by omega)), Or.inr ⟨by rw [HXX.out]; exact HNG.out, rfl⟩⟩
          have HR0 := Lib.hid hR
          have hnr : nr = 0 := by rw [HSZ.out, hR]; rfl
          rw [hnr] at q0
          clear hR hnr
          have t0 := cell_of_row wr gn 0 _ _ _ ROWN.out
          have t1 := cell_of_row wr gn 1 _ _ _ ROWN.out
          have t2 := cell_of_row wr gn 2 _ _ _ ROWN.out
          have hrt := rright_any x.kind qv n1 cv qv2 x.n2 cv2 E K dm wr (Ens.ents HENS.out (by omega)) (Kds.kids KIDS.out (by omega))
          rw [show pnOf x.kind E K = x.node from HKN.out] at hrt
          cases hX : x.node.right dm with
          | false =>
            have HNG := Lib.hid (show ¬ x.good dm from fun h => by have := (HGOOD.out.1 h).2.2; rw [hX] at this; cases this)
            rw [hX] at hrt
            have HRT := Lib.hid hrt
            clear hrt hX
            go_upto_region 22 with (go_at_call 18; refine HRT.out.mono ?_; rintro e w10 ⟨rfl, b10⟩; have R10 := Lib.hid ((b10.block _ (Array.getElem?_eq_some_iff.1 RGR.out).1).trans RGR.out); have B10 := Lib.hid (HBR.out.trans (b10.mono HBR.out.size)); clear b10)
            have a0 := cell_of_row w10 w.heap.size 0 _ _ _ R10.out
            have a1 := cell_of_row w10 w.heap.size 1 _ _ _ R10.out
            have a2 := cell_of_row w10 w.heap.size 2 _ _ _ R10.out
            have f0 := frozen_of_row w10 w.heap.size 0 _ _ R10.out
            have f1 := frozen_of_row w10 w.heap.size 1 _ _ R10.out
            have f2 := frozen_of_row w10 w.heap.size 2 _ _ R10.out
            go_wp2_with fail
            obtain ⟨r1, r2⟩ := res_set (a' := .int .u8 0) (b' := .slice none 0 0) (c' := .slice none 0 0) R10.out
            refine ret_str2 4 5 (by kernel_rfl) w.heap.size _ #[.int .u8 0, .slice none 0 0, .slice none 0 0] _ HD.out HDR.out SNo (by rfl) (by rfl) r1 ⟨B10.out.trans (r2.below B10.out.size (fun j e => by omega)), Or.inr ⟨by rw [HXX.out]; exact HNG.out, rfl⟩⟩
          | true =>
            have HYG := Lib.hid (show x.good dm from HGOOD.out.2 ⟨HE0.out, HR0.out, hX⟩)
            rw [hX] at hrt
            have HRT := Lib.hid hrt
            clear hrt hX
            go_upto_region 23 with (go_at_call 18; refine HRT.out.mono ?_; rintro e w10 ⟨rfl, b10⟩; have R10 := Lib.hid ((b10.block _ (Array.getElem?_eq_some_iff.1 RGR.out).1).trans RGR.out); have B10 := Lib.hid (HBR.out.trans (b10.mono HBR.out.size)); have RN10 := Lib.hid ((b10.block _ (Array.getElem?_eq_some_iff.1 ROWN.out).1).trans ROWN.out); have E10 := Lib.hid (HENS.out.later b10); have K10 := Lib.hid (show Kds wM.heap.size w10 (.slice qv2 x.n2 cv2) x.n2 K from ⟨KIDS.out.lst.later b10, KIDS.out.good⟩); clear b10 t0 t1 t2)
            have t0 := cell_of_row w10 gn 0 _ _ _ RN10.out
            have t1 := cell_of_row w10 gn 1 _ _ _ RN10.out
            have t2 := cell_of_row w10 gn 2 _ _ _ RN10.out
            have a0 := cell_of_row w10 w.heap.size 0 _ _ _ R10.out
            have a1 := cell_of_row w10 w.heap.size 1 _ _ _ R10.out
            have a2 := cell_of_row w10 w.heap.size 2 _ _ _ R10.out
            have f0 := frozen_of_row w10 w.heap.size 0 _ _ R10.out
            have f1 := frozen_of_row w10 w.heap.size 1 _ _ R10.out
            have f2 := frozen_of_row w10 w.heap.size 2 _ _ R10.out
            go_wp2_with fail
            obtain ⟨r1, r2⟩ := res_set (a' := .int .u8 x.kind) (b' := .slice qv n1 cv) (c' := .slice qv2 x.n2 cv2) R10.out
            have e11 := E10.out.keep (fun j hj hl => r2.block j hl (by have := HGL.out; have := HGG.out; omega))
            have k11 := K10.out.lst.keep (fun j hj hl => r2.block j hl (by have := HGM.out; have := HGG.out; omega))
            refine ret_str2 4 5 (by kernel_rfl) w.heap.size _ #[.int .u8 x.kind, .slice qv n1 cv, .slice qv2 x.n2 cv2] _ HD.out HDR.out SNo (by rfl) (by rfl) r1 ⟨B10.out.trans (r2.below B10.out.size (fun j e => by omega)), Or.inl ⟨by rw [HXX.out]; exact HYG.out, x.kind, qv, n1, cv, qv2, x.n2, cv2, E, K, rfl, Ens.ents e11 (by omega), Kds.kids ⟨k11, K10.out.good⟩ (by omega), by rw [HXX.out]; exact HKN.out, hkd256⟩⟩
end Go.Proofs.YtfkpgildeddhaaaGreat.Nd

/- A node's box holds all that it is of, and each of its sides is one of theirs, plainly. -/
namespace Go.Proofs.YtfkpgildeddhaaaGreat.Nd
open Go.RowKit

/-- A right box of so many numbers. -/
def Bx (d : Nat) (x : List Int × List Int) : Prop := rb x.1 x.2 = true ∧ x.1.length = d
theorem bx_iff {d : Nat} {x : List Int × List Int} : Bx d x ↔ 1 ≤ d ∧ d ≤ 8 ∧ x.1.length = d ∧ x.2.length = d ∧ ∀ i, i < d → x.1.getD i 0 ≤ x.2.getD i 0 := by
  unfold Bx rb rightB
  rw [Bool.and_eq_true, decide_eq_true_eq, les_iff]
  constructor
  · rintro ⟨⟨h1, h2⟩, h3⟩
    subst h3
    exact ⟨by omega, by omega, rfl, by omega, h2⟩
  · rintro ⟨h1, h2, h3, h4, h5⟩
    rw [h3, h4]
    exact ⟨⟨by omega, h5⟩, rfl⟩
theorem rb_nil : rb [] [] = false := rfl
/-- What a box is of boxes: the least one that holds them. -/
def Sides (d : Nat) (L : List (List Int × List Int)) (b : List Int × List Int) : Prop :=
  ((∀ x ∈ L, x = ([], [])) ∧ b = ([], [])) ∨
  (Bx d b ∧ (∀ x ∈ L, Bx d x → ∀ i, i < d → b.1.getD i 0 ≤ x.1.getD i 0 ∧ x.2.getD i 0 ≤ b.2.getD i 0) ∧ (∃ x ∈ L, Bx d x) ∧
   ∀ i, i < d → (∃ x ∈ L, Bx d x ∧ x.1.getD i 0 = b.1.getD i 0) ∧ ∃ x ∈ L, Bx d x ∧ x.2.getD i 0 = b.2.getD i 0)
theorem bx_nil {d : Nat} : ¬ Bx d ([], []) := fun h => by have := (bx_iff.1 h); simp at this; omega
theorem hull_nil_right {d : Nat} {b : List Int × List Int} (h : Bx d b) : hull b ([], []) = b := by
  unfold hull
  rw [if_pos ⟨h.1, rb_nil⟩]
theorem hull_nil_left {d : Nat} {b : List Int × List Int} (h : Bx d b) : hull ([], []) b = b := by
  unfold hull
  rw [if_neg (fun k => by have := k.1; rw [rb_nil] at this; cases this), if_pos ⟨h.1, rb_nil⟩]
theorem hull_nil : hull ([], []) ([], []) = ([], []) := rfl
theorem hull_two {d : Nat} {a b : List Int × List Int} (ha : Bx d a) (hb : Bx d b) : hull a b = (two min a.1 b.1 d, two max a.2 b.2 d) := by
  unfold hull
  rw [if_neg (fun k => by have := k.2; rw [hb.1] at this; cases this), if_neg (fun k => by have := k.2; rw [ha.1] at this; cases this), if_neg (fun k => by
    rcases k with k | k
    · rw [ha.1] at k; cases k
    · exact k (ha.2.trans hb.2.symm)), ha.2]
theorem bx_two {d : Nat} {a b : List Int × List Int} (ha : Bx d a) (_hb : Bx d b) : Bx d (two min a.1 b.1 d, two max a.2 b.2 d) := by
  have h1 := bx_iff.1 ha
  refine bx_iff.2 ⟨h1.1, h1.2.1, two_length _ _ _ _, two_length _ _ _ _, fun i hi => ?_⟩
  rw [two_getD _ _ _ _ _ hi, two_getD _ _ _ _ _ hi]
  have := h1.2.2.2.2 i hi
  omega
theorem sides_snoc {d : Nat} {L : List (List Int × List Int)} {b x : List Int × List Int} (h : Sides d L b) (hx : x = ([], []) ∨ Bx d x) : Sides d (L ++ [x]) (hull b x) := by
  rcases h with ⟨h1, rfl⟩ | ⟨h1, h2, h3, h4⟩
  · rcases hx with rfl | hx
    · refine Or.inl ⟨fun y hy => ?_, hull_nil⟩
      rcases List.mem_append.1 hy with hy | hy
      · exact h1 y hy
      · simpa using hy
    · rw [hull_nil_left hx]
      have hm : x ∈ L ++ [x] := by simp
      refine Or.inr ⟨hx, fun y hy hy2 i hi => ?_, ⟨x, hm, hx⟩, fun i hi => ⟨⟨x, hm, hx, rfl⟩, ⟨x, hm, hx, rfl⟩⟩⟩
      rcases List.mem_append.1 hy with hy | hy
      · exact absurd (h1 y hy ▸ hy2) bx_nil
      · obtain rfl : y = x := by simpa using hy
        exact ⟨Int.le_refl _, Int.le_refl _⟩
  · rcases hx with rfl | hx
    · rw [hull_nil_right h1]
      refine Or.inr ⟨h1, fun y hy hy2 i hi => ?_, ?_, fun i hi => ?_⟩
      · rcases List.mem_append.1 hy with hy | hy
        · exact h2 y hy hy2 i hi
        · obtain rfl : y = ([], []) := by simpa using hy
          exact absurd hy2 bx_nil
      · obtain ⟨y, hy, hy2⟩ := h3
        exact ⟨y, List.mem_append_left _ hy, hy2⟩
      · obtain ⟨⟨y, hy, hy2, e⟩, ⟨z, hz, hz2, e2⟩⟩ := h4 i hi
        exact ⟨⟨y, List.mem_append_left _ hy, hy2, e⟩, ⟨z, List.mem_append_left _ hz, hz2, e2⟩⟩
    · rw [hull_two h1 hx]
      have hm : x ∈ L ++ [x] := by simp
      refine Or.inr ⟨bx_two h1 hx, fun y hy hy2 i hi => ?_, ⟨x, hm, hx⟩, fun i hi => ?_⟩
      · show (two min b.1 x.1 d).getD i 0 ≤ _ ∧ _ ≤ (two max b.2 x.2 d).getD i 0
        rw [two_getD _ _ _ _ _ hi, two_getD _ _ _ _ _ hi]
        rcases List.mem_append.1 hy with hy | hy
        · have := h2 y hy hy2 i hi
          omega
        · obtain rfl : y = x := by simpa using hy
          omega
      · show (∃ y ∈ L ++ [x], Bx d y ∧ y.1.getD i 0 = (two min b.1 x.1 d).getD i 0) ∧ (∃ y ∈ L ++ [x], Bx d y ∧ y.2.getD i 0 = (two max b.2 x.2 d).getD i 0)
        rw [two_getD _ _ _ _ _ hi, two_getD _ _ _ _ _ hi]
        obtain ⟨⟨y, hy, hy2, e⟩, ⟨z, hz, hz2, e2⟩⟩ := h4 i hi
        constructor
        · by_cases hc : b.1.getD i 0 ≤ x.1.getD i 0
          · exact ⟨y, List.mem_append_left _ hy, hy2, by omega⟩
          · exact ⟨x, hm, hx, by omega⟩
        · by_cases hc : x.2.getD i 0 ≤ b.2.getD i 0
          · exact ⟨z, List.mem_append_left _ hz, hz2, by omega⟩
          · exact ⟨x, hm, hx, by omega⟩
theorem sides_fold {d : Nat} : ∀ (L M : List (List Int × List Int)) (b : List Int × List Int), Sides d M b → (∀ x ∈ L, x = ([], []) ∨ Bx d x) → Sides d (M ++ L) (L.foldl hull b)
  | [], M, b, h, _ => by rw [List.append_nil]; exact h
  | x :: L, M, b, h, hL => by
    have := sides_fold L (M ++ [x]) (hull b x) (sides_snoc h (hL x (by simp))) (fun y hy => hL y (by simp [hy]))
    rw [List.append_assoc] at this
    exact this
/-- The boxes that a node's box is of. -/
def PN.boxes (n : PN) : List (List Int × List Int) := (n.rows.filter PE.live).map (fun e => (e.row, e.row)) ++ n.kids.map fun k => (k.lo, k.hi)
theorem boxE_fold : ∀ (L : List PE) (b : List Int × List Int), L.foldl boxE b = ((L.filter PE.live).map fun e => (e.row, e.row)).foldl hull b
  | [], _ => rfl
  | e :: L, b => by
    rw [List.foldl_cons, boxE_fold L]
    cases he : e.live with
    | true => rw [List.filter_cons_of_pos he]; simp [boxE, he]
    | false => rw [List.filter_cons_of_neg (by simp [he])]; simp [boxE, he]
theorem boxes_fold (n : PN) : n.box = n.boxes.foldl hull ([], []) := by
  unfold PN.box PN.boxes boxR
  rw [List.foldl_append, ← boxE_fold, List.foldl_map]
  rfl
/-- Whether a side's number is one of the rows', of the kids'. -/
def mkE (A : List Int) (L : List PE) (i : Nat) : Bool := L.any fun e => e.live && (e.row.getD i 0 == A.getD i 0)
def mkK (f : PK → List Int) (A : List Int) (L : List PK) (i : Nat) : Bool := L.any fun k => !(k.live == 0) && ((f k).getD i 0 == A.getD i 0)
theorem right_split {n : PN} {d : Int} (h : n.right d = true) : 1 ≤ d ∧ d ≤ 8 ∧ (∀ e ∈ n.rows, (e.row.length : Int) = d) ∧ ∀ k ∈ n.kids, k.right d = true := by
  unfold PN.right at h
  split at h
  · cases h
  rename_i h1
  split at h
  · cases h
  rename_i h2
  split at h
  · cases h
  rename_i h3
  simp only [Bool.not_eq_false, List.all_eq_true] at h2 h3
  exact ⟨by omega, by omega, fun e he => by simpa [PE.long] using h2 e he, h3⟩
theorem kid_split {k : PK} {d : Nat} (h : k.right d = true) : 0 ≤ k.live ∧ (k.live = 0 → (k.lo, k.hi) = ([], [])) ∧ (k.live ≠ 0 → Bx d (k.lo, k.hi)) := by
  unfold PK.right at h
  split at h
  · rename_i e
    subst e
    exact ⟨Int.le_refl _, fun _ => rfl, fun h => absurd rfl h⟩
  split at h
  · cases h
  rename_i h1
  split at h
  · rename_i h2
    simp only [decide_eq_true_eq] at h
    exact ⟨by omega, fun _ => by rw [List.length_eq_zero_iff.1 (by omega : k.lo.length = 0), List.length_eq_zero_iff.1 (by omega : k.hi.length = 0)], fun h => absurd h2 h⟩
  · rename_i h2
    refine ⟨by omega, fun h => absurd h h2, fun _ => ?_⟩
    have hd := rightB_dims h
    have e : k.lo.length = d := by omega
    refine ⟨?_, e⟩
    show rightB k.lo k.hi k.lo.length k.hi.length k.lo.length = true
    rw [e] at h ⊢
    exact h
theorem sum_nn {α : Type} (f : α → Int) : ∀ L : List α, (∀ x ∈ L, 0 ≤ f x) → 0 ≤ (L.map f).sum
  | [], _ => by simp
  | y :: L, h => by
    have := h y (by simp)
    have := sum_nn f L fun x hx => h x (by simp [hx])
    rw [List.map_cons, List.sum_cons]
    omega
theorem sum_zero {α : Type} (f : α → Int) : ∀ L : List α, (∀ x ∈ L, 0 ≤ f x) → (L.map f).sum = 0 → ∀ x ∈ L, f x = 0
  | [], _, _ => by simp
  | y :: L, h, h0 => by
    have h1 := h y (by simp)
    have h2 : 0 ≤ (L.map f).sum := sum_nn f L fun x hx => h x (by simp [hx])
    rw [List.map_cons, List.sum_cons] at h0
    have h3 := sum_zero f L (fun x hx => h x (by simp [hx])) (by omega)
    intro x hx
    rcases List.mem_cons.1 hx with rfl | hx
    · omega
    · exact h3 x hx
/-- What the law asks of a node that may be. -/
theorem node_sides {n : PN} {d : Nat} (h : n.right d = true) :
    (n.live = 0 → n.box = ([], [])) ∧
    (n.live ≠ 0 → n.box.1.length = d ∧ n.box.2.length = d ∧ (∀ e ∈ n.rows, e.live = true → hasB n.box.1 n.box.2 e.row d d d = true) ∧
      (∀ k ∈ n.kids, k.live ≠ 0 → k.lo.length = d ∧ k.hi.length = d ∧ hasB n.box.1 n.box.2 k.lo d d d = true ∧ hasB n.box.1 n.box.2 k.hi d d d = true) ∧
      ∀ i, i < d → (mkE n.box.1 n.rows i || mkK PK.lo n.box.1 n.kids i) = true ∧ (mkE n.box.2 n.rows i || mkK PK.hi n.box.2 n.kids i) = true) := by
  obtain ⟨hd1, hd8, hr, hk⟩ := right_split h
  have hE : ∀ e ∈ n.rows, Bx d (e.row, e.row) := fun e he => by
    have hl : e.row.length = d := by have := hr e he; omega
    exact bx_iff.2 ⟨by omega, by omega, hl, hl, fun i _ => Int.le_refl _⟩
  have hall : ∀ x ∈ n.boxes, x = ([], []) ∨ Bx d x := fun x hx => by
    rcases List.mem_append.1 hx with hx | hx
    · obtain ⟨e, he, rfl⟩ := List.mem_map.1 hx
      exact Or.inr (hE e (List.mem_filter.1 he).1)
    · obtain ⟨k, hk', rfl⟩ := List.mem_map.1 hx
      have hks := kid_split (hk k hk')
      by_cases hl : k.live = 0
      · exact Or.inl (hks.2.1 hl)
      · exact Or.inr (hks.2.2 hl)
  have hs := sides_fold n.boxes [] ([], []) (d := d) (Or.inl ⟨(fun x hx => by cases hx), rfl⟩) hall
  rw [List.nil_append, ← boxes_fold] at hs
  have memE : ∀ e ∈ n.rows, e.live = true → (e.row, e.row) ∈ n.boxes := fun e he hl => List.mem_append_left _ (List.mem_map.2 ⟨e, List.mem_filter.2 ⟨he, hl⟩, rfl⟩)
  have memK : ∀ k ∈ n.kids, (k.lo, k.hi) ∈ n.boxes := fun k hk => List.mem_append_right _ (List.mem_map.2 ⟨k, hk, rfl⟩)
  have hnn : 0 ≤ liveR n.rows := (live_le n.rows).1
  have hkn : 0 ≤ (n.kids.map PK.live).sum := sum_nn PK.live n.kids fun k hk' => (kid_split (hk k hk')).1
  constructor
  · intro h0
    unfold PN.live at h0
    have hz := sum_zero PK.live n.kids (fun k hk' => (kid_split (hk k hk')).1) (by omega)
    have hz2 := sum_zero (fun e : PE => if e.live then (1 : Int) else 0) n.rows (fun e _ => by split <;> omega) (by unfold liveR at h0 hnn; omega)
    rcases hs with hs | hs
    · exact hs.2
    · obtain ⟨x, hx, hb⟩ := hs.2.2.1
      rcases List.mem_append.1 hx with hx | hx
      · obtain ⟨e, he, rfl⟩ := List.mem_map.1 hx
        have h1 := List.mem_filter.1 he
        have := hz2 e h1.1
        rw [if_pos h1.2] at this
        omega
      · obtain ⟨k, hk', rfl⟩ := List.mem_map.1 hx
        rw [(kid_split (hk k hk')).2.1 (hz k hk')] at hb
        exact absurd hb bx_nil
  · intro h0
    have hex : ∃ x ∈ n.boxes, Bx d x := by
      apply Classical.byContradiction
      intro hno
      apply h0
      unfold PN.live
      have z1 : liveR n.rows = 0 := by
        unfold liveR
        have : n.rows.map (fun e : PE => if e.live then (1 : Int) else 0) = n.rows.map fun _ => 0 := List.map_congr_left fun e he => by
          split
          · rename_i hl
            exact absurd ⟨_, memE e he hl, hE e he⟩ hno
          · rfl
        rw [this]
        induction n.rows with
        | nil => rfl
        | cons a l ih => rw [List.map_cons, List.sum_cons, ih]; rfl
      have z2 : (n.kids.map PK.live).sum = 0 := by
        have : n.kids.map PK.live = n.kids.map fun _ => (0 : Int) := List.map_congr_left fun k hk' => by
          apply Classical.byContradiction
          intro hl
          exact hno ⟨_, memK k hk', (kid_split (hk k hk')).2.2 hl⟩
        rw [this]
        induction n.kids with
        | nil => rfl
        | cons a l ih => rw [List.map_cons, List.sum_cons, ih]; rfl
      rw [z1, z2]
      rfl
    rcases hs with hs | ⟨hb, hin, -, hat⟩
    · obtain ⟨x, hx, hb⟩ := hex
      exact absurd (hs.1 x hx ▸ hb) bx_nil
    have hbi := bx_iff.1 hb
    have has : ∀ r : List Int, (∀ i, i < d → n.box.1.getD i 0 ≤ r.getD i 0 ∧ r.getD i 0 ≤ n.box.2.getD i 0) → hasB n.box.1 n.box.2 r d d d = true := fun r hr => by
      unfold hasB rightB
      rw [Bool.and_eq_true, Bool.and_eq_true, Bool.and_eq_true, decide_eq_true_eq, les_iff, les_iff, les_iff]
      exact ⟨⟨by omega, hbi.2.2.2.2⟩, fun i hi => (hr i hi).1, fun i hi => (hr i hi).2⟩
    refine ⟨hbi.2.2.1, hbi.2.2.2.1, fun e he hl => has _ fun i hi => hin _ (memE e he hl) (hE e he) i hi, fun k hk' hl => ?_, fun i hi => ?_⟩
    · have hbk := (kid_split (hk k hk')).2.2 hl
      have hbki := bx_iff.1 hbk
      have hh := hin _ (memK k hk') hbk
      refine ⟨hbki.2.2.1, hbki.2.2.2.1, has _ fun i hi => ⟨(hh i hi).1, ?_⟩, has _ fun i hi => ⟨?_, (hh i hi).2⟩⟩
      · exact Int.le_trans (hbki.2.2.2.2 i hi) (hh i hi).2
      · exact Int.le_trans (hh i hi).1 (hbki.2.2.2.2 i hi)
    · obtain ⟨⟨x, hx, hbx, e1⟩, ⟨y, hy, hby, e2⟩⟩ := hat i hi
      rw [Bool.or_eq_true, Bool.or_eq_true]
      constructor
      · rcases List.mem_append.1 hx with hx | hx
        · obtain ⟨e, he, rfl⟩ := List.mem_map.1 hx
          have h1 := List.mem_filter.1 he
          exact Or.inl (List.any_eq_true.2 ⟨e, h1.1, by rw [Bool.and_eq_true, beq_iff_eq]; exact ⟨h1.2, e1⟩⟩)
        · obtain ⟨k, hk', rfl⟩ := List.mem_map.1 hx
          refine Or.inr (List.any_eq_true.2 ⟨k, hk', ?_⟩)
          rw [Bool.and_eq_true, beq_iff_eq]
          refine ⟨?_, e1⟩
          by_cases hl : k.live = 0
          · rw [(kid_split (hk k hk')).2.1 hl] at hbx
            exact absurd hbx bx_nil
          · simp [hl]
      · rcases List.mem_append.1 hy with hy | hy
        · obtain ⟨e, he, rfl⟩ := List.mem_map.1 hy
          have h1 := List.mem_filter.1 he
          exact Or.inl (List.any_eq_true.2 ⟨e, h1.1, by rw [Bool.and_eq_true, beq_iff_eq]; exact ⟨h1.2, e2⟩⟩)
        · obtain ⟨k, hk', rfl⟩ := List.mem_map.1 hy
          refine Or.inr (List.any_eq_true.2 ⟨k, hk', ?_⟩)
          rw [Bool.and_eq_true, beq_iff_eq]
          refine ⟨?_, e2⟩
          by_cases hl : k.live = 0
          · rw [(kid_split (hk k hk')).2.1 hl] at hby
            exact absurd hby bx_nil
          · simp [hl]
end Go.Proofs.YtfkpgildeddhaaaGreat.Nd

/- Bytes that are read without an error are those of what was read; a limit doesn't matter where what was read keeps it. Plainly. -/
namespace Go.Proofs.YtfkpgildeddhaaaGreat.Nd
open Go.RowKit

theorem past_split {s : Rd} {n : Nat} (h : (s.past n).e = 0) : s.e = 0 ∧ s.R = s.part n ++ (s.past n).R ∧ (s.part n).length = n := by
  by_cases hf : s.fits n
  · unfold Rd.past Rd.part
    rw [if_pos hf, if_pos hf]
    exact ⟨hf.1, (List.take_append_drop n s.R).symm, by rw [List.length_take]; have := hf.2; omega⟩
  · exfalso
    unfold Rd.past at h
    rw [if_neg hf] at h
    unfold Rd.refuse at h
    split at h
    · simp at h
    · rename_i k
      exact k h
theorem byte_back {s : Rd} (h : (s.past 1).e = 0) : s.e = 0 ∧ s.R = Cm.val (s.part 1) :: (s.past 1).R := by
  obtain ⟨h0, h1, h2⟩ := past_split h
  rcases part1 s with hp | ⟨b, hp⟩
  · rw [hp] at h2
    simp at h2
  · rw [hp] at h1
    rw [hp, val_one]
    exact ⟨h0, h1⟩
theorem truth_back {s : Rd} (h : s.truth.e = 0) : s.e = 0 ∧ s.R = (if s.truthV then 1 else 0) :: s.truth.R := by
  unfold Rd.truth at h ⊢
  by_cases hc : (s.past 1).e = 0 ∧ 1 < Cm.val (s.part 1)
  · rw [if_pos hc] at h
    simp at h
  · rw [if_neg hc] at h ⊢
    obtain ⟨h0, h1⟩ := byte_back h
    have hv : Cm.val (s.part 1) = if s.truthV then 1 else 0 := by
      unfold Rd.truthV
      by_cases h2 : Cm.val (s.part 1) = 1
      · rw [decide_eq_true (show (s.past 1).e = 0 ∧ Cm.val (s.part 1) = 1 from ⟨h, h2⟩), if_pos rfl]
        exact h2
      · rw [decide_eq_false (fun k => h2 k.2)]
        have : ¬ 1 < Cm.val (s.part 1) := fun k => hc ⟨h, k⟩
        simp only [Bool.false_eq_true, if_false]
        omega
    rw [← hv]
    exact ⟨h0, h1⟩
theorem num_back {s : Rd} (hR : Sm.allB s.R) (h : (s.past 8).e = 0) : s.e = 0 ∧ s.R = Cm.num s.numV ++ (s.past 8).R := by
  obtain ⟨h0, h1, h2⟩ := past_split h
  have ho := Rd.part_ok hR 8
  have hn : s.part 8 ≠ [] := by
    intro e
    rw [e] at h2
    simp at h2
  have hv : Cm.num s.numV = s.part 8 := by
    unfold Cm.num Rd.numV
    rw [if_neg hn]
    have e : Cm.z64 (((Cm.val (s.part 8) : Nat) : Int) - 9223372036854775808) = Cm.val (s.part 8) := by
      unfold Cm.z64
      omega
    rw [e]
    have := Cm.be_val ho
    rw [h2] at this
    exact this
  rw [hv]
  exact ⟨h0, h1⟩
theorem readN_back : ∀ (n : Nat) (s : Rd) (L : List Int), Sm.allB s.R → (readN n s L).2.e = 0 → s.e = 0 ∧ ∃ M, (readN n s L).1 = L ++ M ∧ M.length = n ∧ s.R = Go.Proofs.YtfkpgildeddhaaaGreat.nums M ++ (readN n s L).2.R
  | 0, s, L, _, h => ⟨h, [], by simp [readN], rfl, rfl⟩
  | n + 1, s, L, hR, h => by
    by_cases he : s.e = 0
    · rw [readN_go he (Nat.succ_pos n), Nat.succ_sub_one] at h ⊢
      obtain ⟨h1, M, h2, h3, h4⟩ := readN_back n _ _ (past_okR hR) h
      obtain ⟨-, h5⟩ := num_back hR h1
      refine ⟨he, s.numV :: M, by rw [h2, List.append_assoc]; rfl, by rw [List.length_cons, h3], ?_⟩
      rw [h5, h4]
      show _ = (Cm.num s.numV ++ Go.Proofs.YtfkpgildeddhaaaGreat.nums M) ++ _
      rw [List.append_assoc]
    · rw [readN_no he] at h
      exact absurd h he
theorem row_back {s : Rd} {m : Int} (hR : Sm.allB s.R) (h : (s.row m).2.e = 0) : s.e = 0 ∧ s.R = rowBs (s.rowV m) ++ (s.row m).2.R ∧ ∀ m' : Int, ((s.rowV m).length : Int) ≤ m' → s.row m' = s.row m := by
  have h' : (readN (Cm.val (s.part 1)) (s.rowN m) []).2.e = 0 := h
  obtain ⟨he, M, h1, h2, h3⟩ := readN_back _ _ _ (rowN_okR hR) h'
  have hc : ¬ ((s.past 1).e = 0 ∧ m < (Cm.val (s.part 1) : Nat)) := by
    intro hc
    unfold Rd.rowN at he
    rw [if_pos hc] at he
    simp at he
  have hr : s.rowN m = s.past 1 := by
    unfold Rd.rowN
    rw [if_neg hc]
  have hv : s.rowV m = M := by
    unfold Rd.rowV
    rw [if_pos h]
    exact h1
  rw [hr] at he h3
  obtain ⟨h0, h4⟩ := byte_back he
  have h5 := val1 hR
  refine ⟨h0, ?_, fun m' hm' => ?_⟩
  · rw [h4, h3, hv]
    unfold rowBs
    rw [h2, Nat.mod_eq_of_lt h5]
    show _ = _ :: (Go.Proofs.YtfkpgildeddhaaaGreat.nums M ++ (readN (Cm.val (s.part 1)) (s.rowN m) []).2.R)
    rw [hr]
  · rw [hv, h2] at hm'
    have hr' : s.rowN m' = s.past 1 := by
      unfold Rd.rowN
      rw [if_neg (fun k => by have := k.2; omega)]
    unfold Rd.row
    rw [hr, hr']
theorem rowV_of {s : Rd} {m m' : Int} (h : s.row m' = s.row m) : s.rowV m' = s.rowV m := by
  unfold Rd.rowV
  rw [h]
theorem count_back {s : Rd} (hR : Sm.allB s.R) (h : (s.count 1048576).e = 0) : s.e = 0 ∧ s.R = Cm.be (s.countV 1048576).toNat 3 ++ (s.count 1048576).R := by
  unfold Rd.count at h ⊢
  unfold Rd.countV
  by_cases hc : min (1048576 : Int) 1048576 < (Cm.val (s.part 3) : Nat)
  · rw [if_pos hc] at h
    exfalso
    unfold Rd.refuse at h
    split at h
    · simp at h
    · rename_i k
      exact k h
  · rw [if_neg hc] at h ⊢
    rw [if_neg hc]
    obtain ⟨h0, h1, h2⟩ := past_split h
    have := Cm.be_val (Rd.part_ok hR 3)
    rw [h2] at this
    rw [Int.toNat_natCast, this]
    exact ⟨h0, h1⟩
theorem dig_back {s : Rd} (h : (s.past 32).e = 0) : s.e = 0 ∧ s.R = s.digV ++ (s.past 32).R := by
  obtain ⟨h0, h1, h2⟩ := past_split h
  have e : s.digV = s.part 32 := by
    unfold Rd.digV
    rw [h2]
    simp [zeros]
  rw [e]
  exact ⟨h0, h1⟩
theorem ent_back {s : Rd} {m : Int} (hR : Sm.allB s.R) (h : (s.entN m).e = 0) : s.e = 0 ∧ s.R = (s.entV m).bytes ++ (s.entN m).R ∧ ∀ m' : Int, ((s.entV m).row.length : Int) ≤ m' → s.entN m' = s.entN m ∧ s.entV m' = s.entV m := by
  obtain ⟨h1, h2, h3⟩ := row_back (truth_R hR).1 h
  obtain ⟨h4, h5⟩ := truth_back h1
  refine ⟨h4, ?_, fun m' hm' => ?_⟩
  · rw [h5, h2]
    rfl
  · have h6 := h3 m' hm'
    unfold Rd.entN Rd.entV
    rw [rowV_of h6, h6]
    exact ⟨rfl, rfl⟩
theorem kid_back {s : Rd} {m : Int} (hR : Sm.allB s.R) (h : (s.kidN m).e = 0) : s.e = 0 ∧ s.R = (s.kidV m).bytes ++ (s.kidN m).R ∧ ∀ m' : Int, ((s.kidV m).lo.length : Int) ≤ m' → ((s.kidV m).hi.length : Int) ≤ m' → ((s.kidV m).key.length : Int) ≤ m' → s.kidN m' = s.kidN m ∧ s.kidV m' = s.kidV m := by
  have e1 : s.past 32 = s.k1 := rfl
  have e2 : s.k1.count 1048576 = s.k2 := rfl
  have e3 : s.k2.count 1048576 = s.k3 := rfl
  have e4 : (s.k3.row m).2 = s.k4 m := rfl
  have e5 : ((s.k4 m).row m).2 = s.k5 m := rfl
  have e6 : ((s.k5 m).row m).2 = s.kidN m := rfl
  rw [← e6] at h
  obtain ⟨h5, r5, q5⟩ := row_back (k5_R hR).1 h
  rw [← e5] at h5
  obtain ⟨h4, r4, q4⟩ := row_back (k4_R hR).1 h5
  rw [← e4] at h4
  obtain ⟨h3, r3, q3⟩ := row_back (k3_R hR).1 h4
  rw [← e3] at h3
  obtain ⟨h2, r2⟩ := count_back (k2_R hR).1 h3
  rw [← e2] at h2
  obtain ⟨h1, r1⟩ := count_back (k1_R hR).1 h2
  rw [← e1] at h1
  obtain ⟨h0, r0⟩ := dig_back h1
  refine ⟨h0, ?_, fun m' l1 l2 l3 => ?_⟩
  · rw [r0, e1, r1, e2, r2, e3, r3, e4, r4, e5, r5, e6]
    unfold Rd.kidV PK.bytes
    simp only [List.append_assoc]
  · unfold Rd.kidV at l1 l2 l3
    simp only at l1 l2 l3
    have g3 := q3 m' l1
    have g4' : s.k4 m' = s.k4 m := by
      unfold Rd.k4
      rw [g3]
    have g4 := q4 m' l2
    have g5' : s.k5 m' = s.k5 m := by
      unfold Rd.k5
      rw [g4', g4]
    have g5 := q5 m' l3
    unfold Rd.kidN Rd.kidV
    rw [g5', g4', g5, rowV_of g5, rowV_of g4, rowV_of g3]
    exact ⟨rfl, rfl⟩
theorem readE_back {m : Int} : ∀ (n : Nat) (s : Rd) (L : List PE), Sm.allB s.R → (readE m n s L).2.e = 0 → s.e = 0 ∧ ∃ M, (readE m n s L).1 = L ++ M ∧ M.length = n ∧ s.R = M.flatMap PE.bytes ++ (readE m n s L).2.R ∧ ∀ m' : Int, (∀ e ∈ M, (e.row.length : Int) ≤ m') → readE m' n s L = readE m n s L
  | 0, s, L, _, h => ⟨h, [], by simp [readE], rfl, rfl, fun _ _ => rfl⟩
  | n + 1, s, L, hR, h => by
    have h' : (readE m n (s.entN m) (L ++ [s.entV m])).2.e = 0 := h
    obtain ⟨h1, M, h2, h3, h4, h5⟩ := readE_back n _ _ (ent_R (m := m) hR).1 h'
    obtain ⟨h6, h7, h8⟩ := ent_back hR h1
    refine ⟨h6, s.entV m :: M, ?_, by rw [List.length_cons, h3], ?_, fun m' hm' => ?_⟩
    · show (readE m n (s.entN m) (L ++ [s.entV m])).1 = _
      rw [h2, List.append_assoc]
      rfl
    · show _ = _ ++ (readE m n (s.entN m) (L ++ [s.entV m])).2.R
      rw [h7, h4, List.flatMap_cons]
      simp only [List.append_assoc]
    · show readE m' n (s.entN m') (L ++ [s.entV m']) = readE m n (s.entN m) (L ++ [s.entV m])
      obtain ⟨g1, g2⟩ := h8 m' (hm' _ (by simp))
      rw [g1, g2]
      exact h5 m' (fun e he => hm' e (by simp [he]))
theorem readK_back {m : Int} : ∀ (n : Nat) (s : Rd) (L : List PK), Sm.allB s.R → (readK m n s L).2.e = 0 → s.e = 0 ∧ ∃ M, (readK m n s L).1 = L ++ M ∧ M.length = n ∧ s.R = M.flatMap PK.bytes ++ (readK m n s L).2.R ∧ ∀ m' : Int, (∀ k ∈ M, (k.lo.length : Int) ≤ m' ∧ (k.hi.length : Int) ≤ m' ∧ (k.key.length : Int) ≤ m') → readK m' n s L = readK m n s L
  | 0, s, L, _, h => ⟨h, [], by simp [readK], rfl, rfl, fun _ _ => rfl⟩
  | n + 1, s, L, hR, h => by
    have h' : (readK m n (s.kidN m) (L ++ [s.kidV m])).2.e = 0 := h
    obtain ⟨h1, M, h2, h3, h4, h5⟩ := readK_back n _ _ (kid_R (m := m) hR).1 h'
    obtain ⟨h6, h7, h8⟩ := kid_back hR h1
    refine ⟨h6, s.kidV m :: M, ?_, by rw [List.length_cons, h3], ?_, fun m' hm' => ?_⟩
    · show (readK m n (s.kidN m) (L ++ [s.kidV m])).1 = _
      rw [h2, List.append_assoc]
      rfl
    · show _ = _ ++ (readK m n (s.kidN m) (L ++ [s.kidV m])).2.R
      rw [h7, h4, List.flatMap_cons]
      simp only [List.append_assoc]
    · show readK m' n (s.kidN m') (L ++ [s.kidV m']) = readK m n (s.kidN m) (L ++ [s.kidV m])
      obtain ⟨k1, k2, k3⟩ := hm' (s.kidV m) (by simp)
      obtain ⟨g1, g2⟩ := h8 m' k1 k2 k3
      rw [g1, g2]
      exact h5 m' (fun e he => hm' e (by simp [he]))
/-- What was read without an error, nothing left: the bytes are the node's; another limit that is kept reads the same. -/
theorem rdN_back {m : Int} {B : List Nat} (hB : Sm.allB B) (h : (rdN m B).T2.2.e = 0) (hR : (rdN m B).T2.2.R = []) :
    (rdN m B).node.bytes = B ∧ ∀ m' : Int, (∀ e ∈ (rdN m B).node.rows, (e.row.length : Int) ≤ m') → (∀ k ∈ (rdN m B).node.kids, (k.lo.length : Int) ≤ m' ∧ (k.hi.length : Int) ≤ m' ∧ (k.key.length : Int) ≤ m') → rdN m' B = rdN m B := by
  have b0 : Sm.allB (Rd.mk B 0).R := hB
  have a1 := past_okR (n := 1) b0
  have a2 := past_okR (n := 1) a1
  have a3 := readE_R (m := m) (Cm.val (((Rd.mk B 0).past 1).part 1)) (((Rd.mk B 0).past 1).past 1) [] a2
  have a4 := past_okR (n := 1) a3.1
  have n1 := val1 a1
  have n2 := val1 a3.1
  unfold RdN.node
  unfold rdN at h hR ⊢
  simp only at h hR ⊢
  obtain ⟨h4, K, e4, l4, r4, q4⟩ := readK_back (m := m) _ _ _ a4 h
  obtain ⟨h3, r3⟩ := byte_back h4
  obtain ⟨h2, E, e2, l2, r2, q2⟩ := readE_back (m := m) _ _ _ a2 h3
  obtain ⟨h1, r1⟩ := byte_back h2
  obtain ⟨h0, r0⟩ := byte_back h1
  have r0 : B = Cm.val ((Rd.mk B 0).part 1) :: ((Rd.mk B 0).past 1).R := r0
  rw [List.nil_append] at e4 e2
  rw [hR, List.append_nil] at r4
  constructor
  · unfold PN.bytes
    simp only
    rw [e2, e4, l2, l4, Nat.mod_eq_of_lt n1, Nat.mod_eq_of_lt n2, ← r4, ← r3, ← r2, ← r1, ← r0]
  · intro m' hE hK
    rw [e2] at hE
    rw [e4] at hK
    have g2 := q2 m' hE
    rw [g2, q4 m' hK]
theorem right_lens {n : PN} {d : Int} (h : n.right d = true) : (1 ≤ d ∧ d ≤ 8) ∧ (∀ e ∈ n.rows, (e.row.length : Int) ≤ d) ∧ ∀ k ∈ n.kids, (k.lo.length : Int) ≤ d ∧ (k.hi.length : Int) ≤ d ∧ (k.key.length : Int) ≤ d := by
  obtain ⟨h1, h8, hr, hk⟩ := right_split h
  refine ⟨⟨h1, h8⟩, fun e he => by rw [hr e he]; omega, fun k hkm => ?_⟩
  obtain ⟨D, rfl⟩ : ∃ D : Nat, d = D := ⟨d.toNat, by omega⟩
  have hks := kid_split (hk k hkm)
  have hbox : k.lo.length ≤ D ∧ k.hi.length ≤ D := by
    by_cases hl : k.live = 0
    · have := hks.2.1 hl
      simp only [Prod.mk.injEq] at this
      rw [this.1, this.2]
      exact ⟨by simp, by simp⟩
    · have hb := hks.2.2 hl
      have hd := rightB_dims hb.1
      have e2 : k.lo.length = D := hb.2
      exact ⟨by omega, by have := hd; simp only at this; omega⟩
  refine ⟨by omega, by omega, ?_⟩
  unfold PN.right at h
  split at h
  · cases h
  split at h
  · cases h
  split at h
  · cases h
  split at h
  · split at h
    · have := List.all_eq_true.1 h k hkm
      unfold PK.keyless at this
      simp only [decide_eq_true_eq] at this
      omega
    · cases h
  · split at h
    · split at h
      · rename_i h0
        rw [List.length_eq_zero_iff.1 h0.2.2] at hkm
        cases hkm
      · cases h
    · split at h
      · have := List.all_eq_true.1 h k hkm
        unfold PK.keyed at this
        simp only [Bool.and_eq_true, decide_eq_true_eq] at this
        omega
      · cases h
/-- Where a node that may be is read by one limit, it is by any other one that is no less than its dimensions. -/
theorem good_swap {m m' d : Int} {B : List Nat} (hB : Sm.allB B) (h : (rdN m B).good d) (hd : d ≤ m') : rdN m' B = rdN m B := by
  obtain ⟨h1, h2, h3⟩ := h
  obtain ⟨-, he, hk⟩ := right_lens h3
  exact (rdN_back hB h1 h2).2 m' (fun e hm => Int.le_trans (he e hm) hd) (fun k hm => ⟨Int.le_trans (hk k hm).1 hd, Int.le_trans (hk k hm).2.1 hd, Int.le_trans (hk k hm).2.2 hd⟩)
theorem good_same {d : Int} {B : List Nat} (hB : Sm.allB B) : (rdN 8 B).good d ↔ (rdN d B).good d := by
  constructor
  · intro h
    rw [good_swap hB h (Int.le_refl d)]
    exact h
  · intro h
    rw [good_swap hB h (right_lens h.2.2).1.2]
    exact h
theorem good_bytes {m d : Int} {B : List Nat} (hB : Sm.allB B) (h : (rdN m B).good d) : (rdN m B).node.bytes = B := (rdN_back hB h.1 h.2.1).1
end Go.Proofs.YtfkpgildeddhaaaGreat.Nd
