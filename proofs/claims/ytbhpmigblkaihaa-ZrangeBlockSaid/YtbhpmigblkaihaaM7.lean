/- ZpGather, ZrRanges, ZrRangesFn, ZpRanges, ZrFindBad, MorLess, ZlH, ZlFP, ZpSplitBad, ZlList. -/
import Derived.Test.YtbhpmigblkaihaaM6
/- The program: zrange.gather. gen_gather.py writes it. -/
namespace Go.Proofs.Ytbhpmigblkaihaa.Zr
open Go.RowKit

/-- A list of boxes of one's own, and where their corners lie. -/
structure GL (w : World) (B : Nat) (v : Value) (l : List BV) : Prop where
  own : w.ownsRow B 26 2 v l.length (bvs l)
  ok : ∀ b ∈ l, b.ok w ∧ (1 ≤ b.n ∧ 1 ≤ b.m) ∧ ∀ a, (b.p = some a ∨ b.q = some a) → v.ownBlock ≠ some a.block
def GatherPost (w : World) (B : Nat) (v0 : Value) (l0 : List BV) (k : Nat) (L H : List Int) (e : Ending) (w' : World) : Prop :=
  ∃ v l1, e = .returned v ∧ l1.map (fun b => (b.L, b.H)) = rgs k L H ∧ GL w' B v (l0 ++ l1) ∧ w.grownBy w' v0.ownBlock ∧ (v.ownBlock = v0.ownBlock ∨ ∃ g, v.ownBlock = some g ∧ w.heap.size ≤ g)
theorem below_grown {w w1 w2 : World} {r : Option Nat} (hb : Below w.heap.size w w1) (hg : w1.grownBy w2 r) : w.grownBy w2 r :=
  ⟨hg.os.trans hb.os, hg.tape.trans hb.tape, hg.output.trans hb.output, Nat.le_trans hb.size hg.size, fun k hk hne => (hg.block k (Nat.lt_of_lt_of_le hk hb.size) hne).trans (hb.block k hk)⟩
theorem grown_drew (w : World) (r : Option Nat) : w.grownBy w.drew r := ⟨rfl, rfl, rfl, Nat.le_refl _, fun _ _ _ => rfl⟩
theorem ints_stay {w w' : World} {p : Option Addr} {n c : Nat} {R : List Int} {r : Option Nat} (h : Ints w p n c R) (hg : w.grownBy w' r) (_h1 : 1 ≤ n) (hne : ∀ a, p = some a → r ≠ some a.block) : Ints w' p n c R :=
  ⟨h.size, h.le, h.ok, h.at'.imp id fun ⟨g, o, hp, hx⟩ => ⟨g, o, hp, fun i hi => by
    have hlt := block_lt_of_cell (hx i hi)
    have hbk := hg.block g hlt (fun e => hne _ hp e.symm)
    have := hx i hi
    simp only [World.cell?] at this ⊢
    rw [hbk]
    exact this⟩⟩
theorem grown_join {w w1 w2 : World} {v0 v1 : Value} (h1 : w.grownBy w1 v0.ownBlock) (ht : v1.ownBlock = v0.ownBlock ∨ ∃ g, v1.ownBlock = some g ∧ w.heap.size ≤ g) (h2 : w1.grownBy w2 v1.ownBlock) : w.grownBy w2 v0.ownBlock :=
  ⟨h2.os.trans h1.os, h2.tape.trans h1.tape, h2.output.trans h1.output, Nat.le_trans h1.size h2.size, fun k hk hne => (h2.block k (Nat.lt_of_lt_of_le hk h1.size) (fun e => by
    rcases ht with t | ⟨g, t, hg⟩
    · exact hne (e.trans t)
    · rw [t] at e
      simp only [Option.some.injEq] at e
      omega)).trans (h1.block k hk hne)⟩
theorem GL.later {w w' : World} {B : Nat} {v : Value} {l : List BV} (h : GL w B v l) (hb : Below w.heap.size w w') : GL w' B v l :=
  ⟨ownb_later h.own hb, fun b hm => ⟨⟨(h.ok b hm).1.1.later hb, (h.ok b hm).1.2.later hb⟩, (h.ok b hm).2⟩⟩
theorem gl_at {w w' : World} {B : Nat} {v : Value} {l : List BV} (h : GL w B v l) (hb : Below w.heap.size w w') : w'.ownsRow B 26 2 v l.length (bvs l) := ownb_later h.own hb
theorem ownb_alloc {w : World} {B : Nat} {v : Value} {n : Nat} {xs : List Value} (h : w.ownsRow B 26 2 v n xs) (O : Obj) : (w.alloc O).ownsRow B 26 2 v n xs := ownb_later h ((Below.refl _ _).alloc (Nat.le_refl _) _)
theorem leaf_news (w : World) (ga d ka gb kb : Nat) (L H : List Int) : ∀ j u, (bvs [⟨some ⟨ga, 0, none⟩, d, ka, some ⟨gb, 0, none⟩, d, kb, L, H⟩])[j]? = some u → (w.alloc (.cells #[.slice (some ⟨ga, 0, none⟩) d ka, .slice (some ⟨gb, 0, none⟩) d kb] 26)).cell? ((⟨w.heap.size, 0, none⟩ : Addr).add j) = some u := by
  intro j u hj
  rw [Addr.add_mid, Nat.zero_add, cell_of_row _ _ j _ _ _ (heap_alloc_new w _), List.getElem?_toArray]
  exact hj
theorem leaf_post {w w2 w3 w5 : World} {B : Nat} {v0 v' : Value} {l0 : List BV} {k ga gb d ka kb : Nat} {L H : List Int} (hgl : GL w B v0 l0) (hb : Below w.heap.size w w2) (hr : Rows2 w2 w3 ga gb d ka kb L H) (hd : 1 ≤ d) (hs : rgs k L H = [(L, H)])
    (ho : w5.ownsRow B 26 2 v' (l0.length + 1) (bvs l0 ++ bvs [⟨some ⟨ga, 0, none⟩, d, ka, some ⟨gb, 0, none⟩, d, kb, L, H⟩]))
    (hg : (w3.alloc (.cells #[.slice (some ⟨ga, 0, none⟩) d ka, .slice (some ⟨gb, 0, none⟩) d kb] 26)).grownBy w5 v0.ownBlock)
    (ht : v'.ownBlock = v0.ownBlock ∨ v'.ownBlock = some (w3.alloc (.cells #[.slice (some ⟨ga, 0, none⟩) d ka, .slice (some ⟨gb, 0, none⟩) d kb] 26)).heap.size) (hL : Mm.inI L) (hH : Mm.inI H) : GatherPost w B v0 l0 k L H (.returned v') w5 := by
  have h3 : Below w.heap.size w w3 := hb.trans (hr.low.mono hb.size)
  have b4 : Below w3.heap.size w3 (w3.alloc (.cells #[.slice (some ⟨ga, 0, none⟩) d ka, .slice (some ⟨gb, 0, none⟩) d kb] 26)) := (Below.refl _ _).alloc (Nat.le_refl _) _
  have z4 : (w3.alloc (.cells #[.slice (some ⟨ga, 0, none⟩) d ka, .slice (some ⟨gb, 0, none⟩) d kb] 26)).heap.size = w3.heap.size + 1 := by simp
  generalize w3.alloc (.cells #[.slice (some ⟨ga, 0, none⟩) d ka, .slice (some ⟨gb, 0, none⟩) d kb] 26) = w4 at *
  have h4 : Below w.heap.size w w4 := h3.trans (b4.mono h3.size)
  have hv0 : ∀ g, v0.ownBlock = some g → g < w.heap.size := fun g e => (hgl.own.lt g e).2
  have la := own_lt hr.o1
  have lb := own_lt hr.o2
  have s2 := hb.size
  have s3 := hr.low.size
  have e1 := hr.ge1
  have e2 := hr.ge2
  have new1 : Ints w4 (some ⟨ga, 0, none⟩) d ka L := (hr.o1.ints hL).later b4
  have new2 : Ints w4 (some ⟨gb, 0, none⟩) d kb H := (hr.o2.ints hH).later b4
  refine ⟨v', [⟨some ⟨ga, 0, none⟩, d, ka, some ⟨gb, 0, none⟩, d, kb, L, H⟩], rfl, hs.symm, ⟨by rw [List.length_append, bvs_append]; exact ho, ?_⟩, below_grown h4 hg, ht.imp id (fun e => ⟨_, e, by omega⟩)⟩
  have key : ∀ (b : BV), b.ok w4 → (1 ≤ b.n ∧ 1 ≤ b.m) → (∀ a, (b.p = some a ∨ b.q = some a) → v0.ownBlock ≠ some a.block) → b.ok w5 ∧ (1 ≤ b.n ∧ 1 ≤ b.m) ∧ ∀ a, (b.p = some a ∨ b.q = some a) → v'.ownBlock ≠ some a.block := fun b hok hn hne => by
    refine ⟨⟨ints_stay hok.1 hg hn.1 (fun a e => hne a (Or.inl e)), ints_stay hok.2 hg hn.2 (fun a e => hne a (Or.inr e))⟩, hn, fun a hq => ?_⟩
    rcases ht with t | t
    · rw [t]; exact hne a hq
    · rw [t]
      intro e
      simp only [Option.some.injEq] at e
      have : a.block < w4.heap.size := by
        rcases hq with hq | hq
        · have h := hok.1; rw [hq] at h; exact ints_lt h hn.1
        · have h := hok.2; rw [hq] at h; exact ints_lt h hn.2
      omega
  intro b hm
  rcases List.mem_append.1 hm with hm | hm
  · obtain ⟨k1, k2, k3⟩ := hgl.ok b hm
    exact key b ⟨k1.1.later h4, k1.2.later h4⟩ k2 k3
  · simp only [List.mem_singleton] at hm
    subst hm
    refine key _ ⟨new1, new2⟩ ⟨hd, hd⟩ fun a hq e => ?_
    have := hv0 _ e
    rcases hq with hq | hq
    · have : (⟨ga, 0, none⟩ : Addr) = a := by simpa using hq
      subst this
      simp only at *
      omega
    · have : (⟨gb, 0, none⟩ : Addr) = a := by simpa using hq
      subst this
      simp only at *
      omega
theorem no_own {w : World} {v0 v5 : Value} {p3 p4 : Option Addr} (ht : v5.ownBlock = v0.ownBlock ∨ ∃ g, v5.ownBlock = some g ∧ w.heap.size ≤ g) (h3 : ∀ a, p3 = some a → v0.ownBlock ≠ some a.block ∧ a.block < w.heap.size) (h4 : ∀ a, p4 = some a → v0.ownBlock ≠ some a.block ∧ a.block < w.heap.size) :
    ∀ a, (p3 = some a ∨ p4 = some a) → v5.ownBlock ≠ some a.block := by
  intro a hq
  have h : v0.ownBlock ≠ some a.block ∧ a.block < w.heap.size := hq.elim (h3 a) (h4 a)
  rcases ht with t | ⟨g, t, hg⟩
  · rw [t]; exact h.1
  · rw [t]
    intro e
    simp only [Option.some.injEq] at e
    omega
set_option maxRecDepth 100000 in
set_option maxHeartbeats 4000000 in
theorem gather_step (k : Nat) (hk : k ≤ 10) (ih : ∀ j, k = j + 1 → ∀ (B : Nat) (v0 : Value) (l0 : List BV) (L H : List Int) (q1 q2 : Option Addr) (d c1 c2 : Nat) (w : World), GL w B v0 l0 → B ≤ w.heap.size → l0.length + 2 ^ j ≤ 100000 → Ints w q1 d c1 L → Ints w q2 d c2 H → (∀ a, (q1 = some a ∨ q2 = some a) → v0.ownBlock ≠ some a.block) → rightB L H d d d = true →
      Calls Try.prog 39 #[v0, .agg #[.slice q1 d c1, .slice q2 d c2], .int .i64 j] w (GatherPost w B v0 l0 j L H))
    (B : Nat) (v0 : Value) (l0 : List BV) (L H : List Int) (q1 q2 : Option Addr) (d c1 c2 : Nat) (w : World) (hgl : GL w B v0 l0) (hB : B ≤ w.heap.size) (hlen : l0.length + 2 ^ k ≤ 100000) (h1 : Ints w q1 d c1 L) (h2 : Ints w q2 d c2 H) (hr : rightB L H d d d = true) :
    Calls Try.prog 39 #[v0, .agg #[.slice q1 d c1, .slice q2 d c2], .int .i64 k] w (GatherPost w B v0 l0 k L H) := by
  obtain ⟨hd1, hd8, -, -⟩ := rightB_dims hr
  have g1 : (1 : Nat) ≤ d := by omega
  have g8 : d ≤ 8 := by omega
  obtain ⟨i26, hi0, hi1, hi2, hi3⟩ := info_parts I26
  have HI := Lib.hid hi0
  have HI0 := Lib.hid hi1
  have HI1 := Lib.hid hi2
  have HI2 := Lib.hid hi3
  have OKL := Lib.hid h1.ok
  have OKH := Lib.hid h2.ok
  have LL := Lib.hid h1.size
  have LH := Lib.hid h2.size
  have hs := bkh_start h1 h2
  have HGL := Lib.hid hgl
  have HBS := Lib.hid hB
  have HLEN := Lib.hid (show l0.length + 2 ^ k ≤ 100000 ∧ 1 ≤ 2 ^ k from ⟨hlen, Nat.two_pow_pos k⟩)
  have HR := Lib.hid hr
  have IH := Lib.hid ih
  clear hi0 hi1 hi2 hi3 h1 h2 hgl hB hlen hr ih
  go_enter Try.func39, Try.ntmps39
  go_upto_region 1 with fail
  generalize w.alloc (.cells #[.slice q1 d c1, .slice q2 d c2] 26) = w1 at *
  have HS := Lib.hid hs
  clear hs
  cases k with
  | zero =>
    obtain ⟨a0, a1⟩ := HS.out.cells
    go_wp2_with (first
      | (go_at_call 47; refine (zclone_any L H q1 q2 d c1 c2 w1 HS.out.i1 HS.out.i2 g1 g8).mono ?_; rintro e w8 ⟨ga, ka, gb, kb, rfl, hr8⟩; have HR8 := Lib.hid hr8; have HON := Lib.hid (gl_at HGL.out (HS.out.low.trans (hr8.low.mono HS.out.low.size))); have HNW := Lib.hid (leaf_news w8 ga d ka gb kb L H); clear hr8)
      | (at_builtin; refine wpList_append_own_at _ (by rfl) (.tmp 16) (.tmp 19) 43 (by rfl) B 26 i26 (.agg #[.slice none 0 0, .slice none 0 0]) 2 48 U43 HI.out HI0.out HI1.out HI2.out (by rfl) (by decide) v0 l0.length (bvs l0) (by rfl) (ownb_alloc HON.out _) ⟨w8.heap.size, 0, none⟩ 1 1 (bvs [⟨some ⟨ga, 0, none⟩, d, ka, some ⟨gb, 0, none⟩, d, kb, L, H⟩]) (by rfl) (by rfl) HNW.out (bvs_one _) (by have := HLEN.out; unfold maxLen; omega) (by have := HLEN.out; omega) (by have := HBS.out; have := HS.out.low.size; have := HR8.out.low.size; simp; omega) ?_; intro v9 w9 hown9 hgrow9 _ htt9; have O9 := Lib.hid hown9; have G9 := Lib.hid hgrow9; have T9 := Lib.hid htt9; clear hown9 hgrow9 htt9))
    go_ret
    exact leaf_post HGL.out HS.out.low HR8.out g1 (by rfl) O9.out G9.out T9.out OKL.out OKH.out
  | succ j =>
    have hk0 : (((j + 1 : Nat) : Int) == 0) = false := by simp; omega
    have hk1 : (((j : Int) + 1) == 0) = false := by simp; omega
    have hk2 : ¬ (j : Int) + 1 = 0 := by omega
    obtain ⟨a0, a1⟩ := HS.out.cells
    go_wp2_with fail
    refine (zblock_any L H q1 q2 d c1 d c2 w1 HS.out.i1 HS.out.i2).mono ?_
    rintro _ w2 ⟨rfl, hb2⟩
    have HS2 := Lib.hid (HS.out.later hb2)
    clear hb2 a0 a1 HS
    have hbl : blockB L H d d = blockB L H L.length H.length := by rw [← LL.out, ← LH.out]
    cases hbb : blockB L H d d with
    | true =>
      have HBB := Lib.hid (hbl.symm.trans hbb)
      clear hbl hbb
      obtain ⟨a0, a1⟩ := HS2.out.cells
      go_wp2_with (first
        | (go_at_call 47; refine (zclone_any L H q1 q2 d c1 c2 w2 HS2.out.i1 HS2.out.i2 g1 g8).mono ?_; rintro e w8 ⟨ga, ka, gb, kb, rfl, hr8⟩; have HR8 := Lib.hid hr8; have HON := Lib.hid (gl_at HGL.out (HS2.out.low.trans (hr8.low.mono HS2.out.low.size))); have HNW := Lib.hid (leaf_news w8 ga d ka gb kb L H); clear hr8)
        | (at_builtin; refine wpList_append_own_at _ (by rfl) (.tmp 16) (.tmp 19) 43 (by rfl) B 26 i26 (.agg #[.slice none 0 0, .slice none 0 0]) 2 48 U43 HI.out HI0.out HI1.out HI2.out (by rfl) (by decide) v0 l0.length (bvs l0) (by rfl) (ownb_alloc HON.out _) ⟨w8.heap.size, 0, none⟩ 1 1 (bvs [⟨some ⟨ga, 0, none⟩, d, ka, some ⟨gb, 0, none⟩, d, kb, L, H⟩]) (by rfl) (by rfl) HNW.out (bvs_one _) (by have := HLEN.out; unfold maxLen; omega) (by have := HLEN.out; omega) (by have := HBS.out; have := HS2.out.low.size; have := HR8.out.low.size; simp; omega) ?_; intro v9 w9 hown9 hgrow9 _ htt9; have O9 := Lib.hid hown9; have G9 := Lib.hid hgrow9; have T9 := Lib.hid htt9; clear hown9 hgrow9 htt9))
      go_ret
      exact leaf_post HGL.out HS2.out.low HR8.out g1 (rgs_block HBB.out) O9.out G9.out T9.out OKL.out OKH.out
    | false =>
      have HBF := Lib.hid (hbl.symm.trans hbb)
      have HBF2 := Lib.hid hbb
      clear hbl hbb
      obtain ⟨a0, a1⟩ := HS2.out.cells
      go_wp2_with fail
      refine (zsplit_any L H q1 q2 d c1 c2 w2 HS2.out.i1 HS2.out.i2 HR.out).mono ?_
      rintro _ w3 ⟨ok, p1, p2, p3, p4, n1, s1, n2, s2, n3, s3, n4, s4, rfl, hb3, hno, hok⟩
      have HS3 := Lib.hid (HS2.out.later hb3)
      have HB23 := Lib.hid hb3
      cases ok with
      | false =>
        exfalso
        have hsame := (hno rfl).1
        have hE := Zm.bits_same OKL.out OKH.out (by rw [← LL.out, LH.out]) hsame
        have := HBF2.out
        unfold blockB at this
        rw [HR.out, Bool.true_and, bok_of _ (fun i hi hu => by rw [← hE, unl_false _ (fun _ _ => rfl)] at hu; cases hu), Bool.or_true] at this
        cases this
      | true =>
      obtain ⟨n, hn, ha, hne, i1, i2, i3, i4, hnew⟩ := hok rfl
      obtain rfl : d = n1 := by have := i1.size; rw [pLo_length, ← LL.out] at this; exact this.symm
      obtain rfl : d = n2 := by have := i2.size; rw [pHi_length, ← LL.out] at this; exact this.symm
      obtain rfl : d = n3 := by have := i3.size; rw [pLo_length, ← LL.out] at this; exact this.symm
      obtain rfl : d = n4 := by have := i4.size; rw [pHi_length, ← LL.out] at this; exact this.symm
      have hp := part_meets g8 LL.out LH.out OKL.out OKH.out HR.out (k := n) (by rw [LL.out]; exact hn) ha
      have RP1 := Lib.hid (part_right (C := L) g1 g8 LL.out hp.1)
      have RP2 := Lib.hid (part_right (C := H) g1 g8 LL.out hp.2)
      have HMORE := Lib.hid (rgs_more (k := j) hn ha hne HBF.out)
      have J1 := Lib.hid i1
      have J2 := Lib.hid i2
      have J3 := Lib.hid i3
      have J4 := Lib.hid i4
      have HNEW := Lib.hid hnew
      clear hn ha hne i1 i2 i3 i4 hnew hp hno hok hb3 a0 a1
      go_upto_region 4 with fail
      have r1 := heap_alloc_new w3 (.cells #[.slice p1 d s1, .slice p2 d s2] 26 (0, 0))
      have b1 : Below w3.heap.size w3 (w3.alloc (.cells #[.slice p1 d s1, .slice p2 d s2] 26)) := (Below.refl _ _).alloc (Nat.le_refl _) _
      have z1 : (w3.alloc (.cells #[.slice p1 d s1, .slice p2 d s2] 26)).heap.size = w3.heap.size + 1 := by simp
      generalize w3.alloc (.cells #[.slice p1 d s1, .slice p2 d s2] 26) = wm at *
      have r2 := heap_alloc_new wm (.cells #[.slice p3 d s3, .slice p4 d s4] 26 (0, 0))
      have b2 : Below wm.heap.size wm (wm.alloc (.cells #[.slice p3 d s3, .slice p4 d s4] 26)) := (Below.refl _ _).alloc (Nat.le_refl _) _
      generalize wm.alloc (.cells #[.slice p3 d s3, .slice p4 d s4] 26) = w4 at *
      rw [z1] at r2
      have r3 := (b2.block _ (by omega)).trans r1
      have b3 := b1.trans (b2.mono b1.size)
      have HLOW := Lib.hid (HS3.out.low.trans (b3.mono HS3.out.low.size))
      have HSZ := Lib.hid (show w.heap.size ≤ w4.heap.size from HLOW.out.size)
      have HGD := Lib.hid (HGL.out.later HLOW.out.drew)
      have HJ1 := Lib.hid (show Ints w4.drew p1 d s1 _ from (J1.out.later b3).later (Below.refl _ _).drew)
      have HJ2 := Lib.hid (show Ints w4.drew p2 d s2 _ from (J2.out.later b3).later (Below.refl _ _).drew)
      have HJ3 := Lib.hid (J3.out.later b3)
      have HJ4 := Lib.hid (J4.out.later b3)
      have hv0 : ∀ g, v0.ownBlock = some g → g < w.heap.size := fun g e => (HGL.out.own.lt g e).2
      have hs12 := HS2.out.low.size
      have hnv : ∀ a, (p1 = some a ∨ p2 = some a ∨ p3 = some a ∨ p4 = some a) → v0.ownBlock ≠ some a.block := fun a hq e => by
        have := hv0 _ e
        have := HNEW.out a hq
        omega
      have HNO1 := Lib.hid (show ∀ a, (p1 = some a ∨ p2 = some a) → v0.ownBlock ≠ some a.block from fun a hq => hnv a (hq.elim Or.inl (fun h => Or.inr (Or.inl h))))
      have HNO3 := Lib.hid (show ∀ a, p3 = some a → v0.ownBlock ≠ some a.block ∧ a.block < w4.drew.heap.size from fun a e => ⟨hnv a (Or.inr (Or.inr (Or.inl e))), by
        have h := HJ3.out
        rw [e] at h
        have t := ints_lt h g1
        exact t⟩)
      have HNO4 := Lib.hid (show ∀ a, p4 = some a → v0.ownBlock ≠ some a.block ∧ a.block < w4.drew.heap.size from fun a e => ⟨hnv a (Or.inr (Or.inr (Or.inr e))), by
        have h := HJ4.out
        rw [e] at h
        have t := ints_lt h g1
        exact t⟩)
      have h3s := HS3.out.low.size
      have HY := Lib.hid (show ∀ w', w4.grownBy w' v0.ownBlock → w'.cell? ⟨w3.heap.size, 0, none⟩ = some (.slice p1 d s1) ∧ w'.cell? ⟨w3.heap.size, 1, none⟩ = some (.slice p2 d s2) ∧ w'.cell? ⟨w3.heap.size + 1, 0, none⟩ = some (.slice p3 d s3) ∧ w'.cell? ⟨w3.heap.size + 1, 1, none⟩ = some (.slice p4 d s4) from fun w' hg => by
        have a := (hg.block _ (Array.getElem?_eq_some_iff.1 r3).1 (fun e => by have := hv0 _ e.symm; omega)).trans r3
        have b := (hg.block _ (Array.getElem?_eq_some_iff.1 r2).1 (fun e => by have := hv0 _ e.symm; omega)).trans r2
        exact ⟨cell_of_row _ _ 0 _ _ _ a, cell_of_row _ _ 1 _ _ _ a, cell_of_row _ _ 0 _ _ _ b, cell_of_row _ _ 1 _ _ _ b⟩)
      have hwj : IntKind.i64.wrap ((j : Int) + 1 - 1) = (j : Int) := by
        rw [IntKind.wrap_i64]
        omega
      have hwj2 : IntKind.i64.wrap (j : Int) = (j : Int) := by
        rw [IntKind.wrap_i64]
        omega
      clear r1 r2 r3 b1 b2 b3 z1 hv0 hs12 hnv h3s
      refine wp_region_held_drew (S := fun w' => w4.grownBy w' v0.ownBlock) (by kernel_rfl) (grown_drew _ _) (fun hHeld => ?_)
      refine wpAnyH_take (i := 0) (oi := ⟨some 27, .move (.tmp 0), _, _, _, _⟩) (v := ?_) rfl (by kernel_rfl) (by kernel_rfl) (by kernel_rfl) (fun _ _ _ h => h) (Or.inl ⟨by rfl, ?_⟩) (by assumption) ?_
      rotate_left
      · intro w' hSw
        go_simp
        try with_reducible rfl
      try simp only [Act.put, List.setIfInBounds_toArray, List.set_cons_zero, List.set_cons_succ]
      refine wpAnyH_take (i := 1) (oi := ⟨some 28, .load 26 (.tmp 7), _, _, _, _⟩) (v := ?_) rfl (by kernel_rfl) (by kernel_rfl) (by kernel_rfl) (fun _ _ _ h => h) (Or.inl ⟨by rfl, ?_⟩) (by assumption) ?_
      rotate_left
      · intro w' hSw
        obtain ⟨y0, y1, y2, y3⟩ := HY.out _ hSw
        go_simp
        try with_reducible rfl
      try simp only [Act.put, List.setIfInBounds_toArray, List.set_cons_zero, List.set_cons_succ]
      refine wpAnyH_take (i := 2) (oi := ⟨some 29, .move (.tmp 2), _, _, _, _⟩) (v := ?_) rfl (by kernel_rfl) (by kernel_rfl) (by kernel_rfl) (fun _ _ _ h => h) (Or.inl ⟨by rfl, ?_⟩) (by assumption) ?_
      rotate_left
      · intro w' hSw
        go_simp
        try with_reducible rfl
      try simp only [Act.put, List.setIfInBounds_toArray, List.set_cons_zero, List.set_cons_succ]
      refine wpAnyH_take (i := 3) (oi := ⟨some 30, .binOp .sub 3 (.tmp 29) (.const (.int .i64 1)) 3, _, _, _, _⟩) (v := ?_) rfl (by kernel_rfl) (by kernel_rfl) (by kernel_rfl) (fun _ _ _ h => h) (Or.inl ⟨by rfl, ?_⟩) (by assumption) ?_
      rotate_left
      · intro w' hSw
        go_simp
        try with_reducible rfl
      try simp only [Act.put, List.setIfInBounds_toArray, List.set_cons_zero, List.set_cons_succ]
      refine wpAnyH_take (i := 5) (oi := ⟨some 32, .load 26 (.tmp 8), _, _, _, _⟩) (v := ?_) rfl (by kernel_rfl) (by kernel_rfl) (by kernel_rfl) (fun _ _ _ h => h) (Or.inl ⟨by rfl, ?_⟩) (by assumption) ?_
      rotate_left
      · intro w' hSw
        obtain ⟨y0, y1, y2, y3⟩ := HY.out _ hSw
        go_simp
        try with_reducible rfl
      try simp only [Act.put, List.setIfInBounds_toArray, List.set_cons_zero, List.set_cons_succ]
      refine wpAnyH_take (i := 6) (oi := ⟨some 33, .move (.tmp 2), _, _, _, _⟩) (v := ?_) rfl (by kernel_rfl) (by kernel_rfl) (by kernel_rfl) (fun _ _ _ h => h) (Or.inl ⟨by rfl, ?_⟩) (by assumption) ?_
      rotate_left
      · intro w' hSw
        go_simp
        try with_reducible rfl
      try simp only [Act.put, List.setIfInBounds_toArray, List.set_cons_zero, List.set_cons_succ]
      refine wpAnyH_take (i := 7) (oi := ⟨some 34, .binOp .sub 3 (.tmp 33) (.const (.int .i64 1)) 3, _, _, _, _⟩) (v := ?_) rfl (by kernel_rfl) (by kernel_rfl) (by kernel_rfl) (fun _ _ _ h => h) (Or.inl ⟨by rfl, ?_⟩) (by assumption) ?_
      rotate_left
      · intro w' hSw
        go_simp
        try with_reducible rfl
      try simp only [Act.put, List.setIfInBounds_toArray, List.set_cons_zero, List.set_cons_succ]
      refine wpAnyH_ready (rs := [4]) (by kernel_rfl) (by simp) ?_
      refine AllReadyH.cons (o := ⟨some 31, .call ⟨.value (.func 39), #[.tmp 27, .tmp 28, .tmp 30], #[43, 26, 3]⟩, _, _, _, _⟩) rfl (fun K hK => ?_) AllReadyH.nil
      go_simp
      refine (IH.out j rfl B v0 l0 _ _ p1 p2 d s1 s2 w4.drew HGD.out (by have := HBS.out; have := HSZ.out; show B ≤ w4.heap.size; omega) (by have := HLEN.out; rw [Nat.pow_succ] at this; omega) HJ1.out HJ2.out HNO1.out RP1.out).mono ?_
      rintro _ w5 ⟨v5, l5, rfl, hm5, hgl5, hg5, ht5⟩
      have hg5 : w4.grownBy w5 v0.ownBlock := below_grown (Below.refl _ _).drew hg5
      try go_wp2_with fail
      refine hK.out _ _ hg5 (fun hHeld => ?_)
      clear hK K
      try simp only [Act.put, List.setIfInBounds_toArray, List.set_cons_zero, List.set_cons_succ]
      refine wpAnyH_ready (rs := [8]) (by kernel_rfl) (by simp) ?_
      refine AllReadyH.cons (o := ⟨some 35, .call ⟨.value (.func 39), #[.tmp 31, .tmp 32, .tmp 34], #[43, 26, 3]⟩, _, _, _, _⟩) rfl (fun K hK => ?_) AllReadyH.nil
      go_simp
      have len5 : (l0 ++ l5).length + 2 ^ j ≤ 100000 := by
        have h := rgs_length j (pLo L L n) (pHi L H L n)
        rw [← hm5, List.length_map] at h
        have := HLEN.out
        rw [Nat.pow_succ] at this
        rw [List.length_append]
        omega
      refine (IH.out j rfl B v5 (l0 ++ l5) _ _ p3 p4 d s3 s4 w5 hgl5 (by have := HBS.out; have := HSZ.out; have := hg5.size; omega) len5 (ints_stay HJ3.out hg5 g1 (fun a e => (HNO3.out a e).1)) (ints_stay HJ4.out hg5 g1 (fun a e => (HNO4.out a e).1)) (no_own ht5 HNO3.out HNO4.out) RP2.out).mono ?_
      rintro _ w6 ⟨v6, l6, rfl, hm6, hgl6, hg6, ht6⟩
      have hg46 := grown_join hg5 ht5 hg6
      try go_wp2_with fail
      refine hK.out _ _ hg46 (fun hHeld => ?_)
      clear hK K
      try simp only [Act.put, List.setIfInBounds_toArray, List.set_cons_zero, List.set_cons_succ]
      refine wpAnyH_take (i := 9) (oi := ⟨some 6, .assign (.tmp 35), _, _, _, _⟩) (v := ?_) rfl (by kernel_rfl) (by kernel_rfl) (by kernel_rfl) (fun _ _ _ h => h) (Or.inl ⟨by rfl, ?_⟩) (by assumption) ?_
      rotate_left
      · intro w' hSw
        go_simp
        try with_reducible rfl
      try simp only [Act.put, List.setIfInBounds_toArray, List.set_cons_zero, List.set_cons_succ]
      refine wpAnyH_done (by kernel_rfl) ?_ _
      go_wp2_with fail
      go_ret
      refine ⟨v6, l5 ++ l6, rfl, by rw [List.map_append, hm5, hm6, HMORE.out], by rw [← List.append_assoc]; exact hgl6, below_grown HLOW.out hg46, ?_⟩
      rcases ht6 with t | ⟨g, t, hg⟩
      · rcases ht5 with t5 | ⟨g, t5, hg⟩
        · exact Or.inl (t.trans t5)
        · exact Or.inr ⟨g, t.trans t5, Nat.le_trans HSZ.out hg⟩
      · exact Or.inr ⟨g, t, Nat.le_trans HSZ.out (Nat.le_trans hg5.size hg)⟩
theorem gather_any : ∀ (k : Nat), k ≤ 10 → ∀ (B : Nat) (v0 : Value) (l0 : List BV) (L H : List Int) (q1 q2 : Option Addr) (d c1 c2 : Nat) (w : World), GL w B v0 l0 → B ≤ w.heap.size → l0.length + 2 ^ k ≤ 100000 → Ints w q1 d c1 L → Ints w q2 d c2 H → (∀ a, (q1 = some a ∨ q2 = some a) → v0.ownBlock ≠ some a.block) → rightB L H d d d = true →
    Calls Try.prog 39 #[v0, .agg #[.slice q1 d c1, .slice q2 d c2], .int .i64 k] w (GatherPost w B v0 l0 k L H)
  | 0, hk => fun B v0 l0 L H q1 q2 d c1 c2 w a b c e f _ h => gather_step 0 hk (fun j e => by omega) B v0 l0 L H q1 q2 d c1 c2 w a b c e f h
  | k + 1, hk => fun B v0 l0 L H q1 q2 d c1 c2 w a b c e f _ h => gather_step (k + 1) hk (fun j e => by
      obtain rfl : k = j := by omega
      exact gather_any k (by omega)) B v0 l0 L H q1 q2 d c1 c2 w a b c e f h
end Go.Proofs.Ytbhpmigblkaihaa.Zr

/- indentureref06.Ranges. -/
namespace Go.Proofs.Ytbhpmigblkaihaa.Zr
open Go.RowKit Go.Proofs.Ytbhpmigblkaihaa.Mo
/-- The list that two lists make. -/
theorem ranges_join {w wa wb wc wd : World} {q1 q2 p1 p2 p3 p4 : Option Addr} {v1 v2 v3 : Value} {l1 l2 : List BV}
    (hba : Below w.heap.size w wa) (hbb : Below wa.heap.size wa wb) (hbc : Below wb.heap.size wb wc)
    (o1 : wb.ownsRow wa.heap.size 26 2 v1 l1.length (bvs l1)) (k1 : ∀ b ∈ l1, b.ok wb ∧ b.sep wa p1 p2 v1.ownBlock)
    (k2 : ∀ b ∈ l2, b.ok wc ∧ b.sep wb p3 p4 v2.ownBlock)
    (a3 : ∀ y, p3 = some y → y.block < wa.heap.size ∧ w.heap.size ≤ y.block) (a4 : ∀ y, p4 = some y → y.block < wa.heap.size ∧ w.heap.size ≤ y.block)
    (a1 : ∀ y, p1 = some y → w.heap.size ≤ y.block) (a2 : ∀ y, p2 = some y → w.heap.size ≤ y.block)
    (hl1 : ∀ b ∈ l1, 1 ≤ b.n ∧ 1 ≤ b.m) (hl2 : ∀ b ∈ l2, 1 ≤ b.n ∧ 1 ≤ b.m)
    (hg : wc.grownBy wd v1.ownBlock) (ht : v3.ownBlock = v1.ownBlock ∨ v3.ownBlock = some wc.heap.size) :
    ∀ b ∈ l1 ++ l2, b.ok wd ∧ b.sep w q1 q2 v3.ownBlock := by
  have hv1 : ∀ g, v1.ownBlock = some g → wa.heap.size ≤ g ∧ g < wb.heap.size := fun g e => o1.lt g e
  have hs1 := hba.size
  have hs2 := hbb.size
  have hs3 := hbc.size
  -- what lies in no block of the list stays
  have stay : ∀ (p : Option Addr) (n c : Nat) (R : List Int), Ints wc p n c R → 1 ≤ n → (∀ a, p = some a → v1.ownBlock ≠ some a.block) → Ints wd p n c R := fun p n c R h h1 hne =>
    ⟨h.size, h.le, h.ok, h.at'.imp id fun ⟨g, o, hp, hx⟩ => ⟨g, o, hp, fun i hi => by
      have hlt := block_lt_of_cell (hx i hi)
      have hbk := hg.block g hlt (fun e => hne _ hp e.symm)
      have := hx i hi
      simp only [World.cell?] at this ⊢
      rw [hbk]
      exact this⟩⟩
  have key : ∀ (b : BV), (1 ≤ b.n ∧ 1 ≤ b.m) → b.ok wc → (∀ a, (b.p = some a ∨ b.q = some a) → v1.ownBlock ≠ some a.block ∧ w.heap.size ≤ a.block) → b.ok wd ∧ b.sep w q1 q2 v3.ownBlock := fun b hnm hok hs => by
    refine ⟨⟨stay _ _ _ _ hok.1 hnm.1 (fun a e => (hs a (Or.inl e)).1), stay _ _ _ _ hok.2 hnm.2 (fun a e => (hs a (Or.inr e)).1)⟩, fun a hq => ⟨?_, Or.inl (hs a hq).2⟩⟩
    rcases ht with t | t
    · rw [t]; exact (hs a hq).1
    · rw [t]
      intro e
      simp only [Option.some.injEq] at e
      have : a.block < wc.heap.size := by
        rcases hq with hq | hq
        · have h := hok.1; rw [hq] at h; exact ints_lt h hnm.1
        · have h := hok.2; rw [hq] at h; exact ints_lt h hnm.2
      omega
  intro b hb
  rcases List.mem_append.1 hb with hb | hb
  · obtain ⟨hok, hsep⟩ := k1 b hb
    refine key b (hl1 b hb) ⟨hok.1.later hbc, hok.2.later hbc⟩ fun a hq => ⟨(hsep a hq).1, ?_⟩
    rcases (hsep a hq).2 with h | ⟨y, hy, e⟩
    · omega
    · rcases hy with hy | hy
      · have := a1 y hy; omega
      · have := a2 y hy; omega
  · obtain ⟨hok, hsep⟩ := k2 b hb
    refine key b (hl2 b hb) hok fun a hq => ?_
    have hd : (wb.heap.size ≤ a.block) ∨ (a.block < wa.heap.size ∧ w.heap.size ≤ a.block) := by
      rcases (hsep a hq).2 with h | ⟨y, hy, e⟩
      · exact Or.inl h
      · rcases hy with hy | hy
        · have := a3 y hy; exact Or.inr (by omega)
        · have := a4 y hy; exact Or.inr (by omega)
    refine ⟨fun e => ?_, by omega⟩
    have := hv1 _ e
    omega
end Go.Proofs.Ytbhpmigblkaihaa.Zr

/- indentureref06.Ranges: the walk. -/
namespace Go.Proofs.Ytbhpmigblkaihaa.Zr
open Go.RowKit Go.Proofs.Ytbhpmigblkaihaa.Mo
theorem rgs_dims : ∀ (k : Nat) (L H : List Int), H.length = L.length → ∀ x ∈ rgs k L H, x.1.length = L.length ∧ x.2.length = L.length
  | 0, L, H, h, x, hx => by
    simp [rgs] at hx
    subst hx
    exact ⟨rfl, h⟩
  | k + 1, L, H, h, x, hx => by
    unfold rgs at hx
    cases e : fu L H (64 * L.length) with
    | none =>
      rw [e] at hx
      simp at hx
      subst hx
      exact ⟨rfl, h⟩
    | some n =>
      rw [e] at hx
      simp only at hx
      split at hx
      · simp at hx
        subst hx
        exact ⟨rfl, h⟩
      · rcases List.mem_append.1 hx with hx | hx
        · have a := rgs_dims k (pLo L L n) (pHi L H L n) (by rw [pLo_length, pHi_length]) x hx
          rw [pLo_length] at a
          exact a
        · have a := rgs_dims k (pLo L H n) (pHi L H H n) (by rw [pLo_length, pHi_length]) x hx
          rw [pLo_length] at a
          exact a
theorem own_mono {w : World} {base base' : Nat} {v : Value} {n : Nat} {xs : List Value} (h : w.ownsRow base 26 2 v n xs) (hb : base' ≤ base) : w.ownsRow base' 26 2 v n xs := by
  obtain ⟨h1, h2⟩ := h
  refine ⟨h1, h2.imp id ?_⟩
  rintro ⟨g, cap, cur, rfl, hg, r⟩
  exact ⟨g, cap, cur, rfl, Nat.le_trans hb hg, r⟩
set_option maxRecDepth 100000 in
set_option maxHeartbeats 4000000 in
theorem ranges_step (k : Nat) (hk : k ≤ 10) (ih : ∀ j, k = j + 1 → ∀ (L H : List Int) (q1 q2 : Option Addr) (d c1 c2 : Nat) (w : World), Ints w q1 d c1 L → Ints w q2 d c2 H → rightB L H d d d = true → Calls Try.prog 23 #[.agg #[.slice q1 d c1, .slice q2 d c2], .int .i64 j] w (RangesPost w j L H q1 q2))
    (L H : List Int) (q1 q2 : Option Addr) (d c1 c2 : Nat) (w : World) (h1 : Ints w q1 d c1 L) (h2 : Ints w q2 d c2 H) (hr : rightB L H d d d = true) :
    Calls Try.prog 23 #[.agg #[.slice q1 d c1, .slice q2 d c2], .int .i64 k] w (RangesPost w k L H q1 q2) := by
  obtain ⟨hd1, hd8, -, -⟩ := rightB_dims hr
  have g1 : (1 : Nat) ≤ d := by omega
  have g8 : d ≤ 8 := by omega
  have hb : Below w.heap.size w (w.alloc (.cells #[.slice q1 d c1, .slice q2 d c2] 26)) := (Below.refl _ _).alloc (Nat.le_refl _) _
  obtain ⟨e0, e1⟩ := pair_alloc w (.slice q1 d c1) (.slice q2 d c2) 26
  have H1 := Lib.hid (h1.later hb)
  have H2 := Lib.hid (h2.later hb)
  have LL := Lib.hid h1.size
  have LH := Lib.hid h2.size
  have HB := Lib.hid hb
  have HR := Lib.hid hr
  have IH := Lib.hid ih
  have hs0 : w.heap.size < (w.alloc (.cells #[.slice q1 d c1, .slice q2 d c2] 26)).heap.size := by simp
  clear h1 h2 hb hr ih
  go_enter Try.func23, Try.ntmps23
  go_upto_region 1 with fail
  generalize w.alloc (.cells #[.slice q1 d c1, .slice q2 d c2] 26) = w1 at *
  have HS0 := Lib.hid hs0
  clear hs0
  go_wp2_with fail
  refine (rsplit_any L H q1 q2 d c1 c2 w1 H1.out H2.out HR.out).mono ?_
  rintro _ w2 ⟨ok, p1, p2, p3, p4, n1, s1, n2, s2, n3, s3, n4, s4, rfl, hb2, hno, hok⟩
  have HNO := Lib.hid hno
  have HOK := Lib.hid hok
  have B2 := Lib.hid (HB.out.trans (hb2.mono HB.out.size))
  have K1 := Lib.hid (H1.out.later hb2)
  have K2 := Lib.hid (H2.out.later hb2)
  have e0 := (hb2.cell (p := ⟨w.heap.size, 0, none⟩) HS0.out).trans e0
  have e1 := (hb2.cell (p := ⟨w.heap.size, 1, none⟩) HS0.out).trans e1
  have HS2 := Lib.hid (Nat.lt_of_lt_of_le HS0.out hb2.size)
  have HSW := Lib.hid hb2.size
  clear hno hok hb2 HB H1 H2
  go_upto_region 2 with fail
  have r1 := heap_alloc_new w2 (.cells #[.slice p1 n1 s1, .slice p2 n2 s2] 26 (0, 0))
  have b1 : Below w2.heap.size w2 (w2.alloc (.cells #[.slice p1 n1 s1, .slice p2 n2 s2] 26)) := (Below.refl _ _).alloc (Nat.le_refl _) _
  have z1 : (w2.alloc (.cells #[.slice p1 n1 s1, .slice p2 n2 s2] 26)).heap.size = w2.heap.size + 1 := by simp
  generalize w2.alloc (.cells #[.slice p1 n1 s1, .slice p2 n2 s2] 26) = wm at *
  have r2 := heap_alloc_new wm (.cells #[.slice p3 n3 s3, .slice p4 n4 s4] 26 (0, 0))
  have b2 : Below wm.heap.size wm (wm.alloc (.cells #[.slice p3 n3 s3, .slice p4 n4 s4] 26)) := (Below.refl _ _).alloc (Nat.le_refl _) _
  generalize wm.alloc (.cells #[.slice p3 n3 s3, .slice p4 n4 s4] 26) = w3 at *
  rw [z1] at r2
  have r3 := (b2.block _ (by omega)).trans r1
  have b3 := b1.trans (b2.mono b1.size)
  have R1 := Lib.hid r3
  have R2 := Lib.hid r2
  have B23 := Lib.hid b3
  have f0 := (b3.cell (p := ⟨w.heap.size, 0, none⟩) HS2.out).trans e0
  have f1 := (b3.cell (p := ⟨w.heap.size, 1, none⟩) HS2.out).trans e1
  have B3 := Lib.hid (B2.out.trans (b3.mono B2.out.size))
  have M1 := Lib.hid (K1.out.later b3)
  have M2 := Lib.hid (K2.out.later b3)
  have HS3 := Lib.hid (Nat.lt_of_lt_of_le HS2.out b3.size)
  clear r1 r2 r3 b1 b2 b3 z1 e0 e1
  have e0 := f0
  have e1 := f1
  clear f0 f1
  cases k with
  | zero =>
    go_wp2_with fail
    go_ret
    exact single_post B3.out M1.out M2.out g1 rfl
  | succ j =>
  have hk0 : (((j + 1 : Nat) : Int) == 0) = false := by simp; omega
  have hk1 : (((j : Int) + 1) == 0) = false := by simp; omega
  have hk2 : ¬ (j : Int) + 1 = 0 := by omega
  cases ok with
  | false =>
    have HA := Lib.hid (HNO.out rfl).1
    go_wp2_with fail
    go_ret
    exact single_post B3.out M1.out M2.out g1 (rgs_none HA.out)
  | true =>
    obtain ⟨n, hn, ha, hne, i1, i2, i3, i4, hnew⟩ := HOK.out rfl
    obtain rfl : n1 = d := by have := i1.size; rw [pLo_length, ← LL.out] at this; exact this
    obtain rfl : n2 = n1 := by have := i2.size; rw [pHi_length, ← LL.out] at this; exact this
    obtain rfl : n3 = n2 := by have := i3.size; rw [pLo_length, ← LL.out] at this; exact this
    obtain rfl : n4 = n3 := by have := i4.size; rw [pHi_length, ← LL.out] at this; exact this
    have hp := part_meets g8 LL.out LH.out M1.out.ok M2.out.ok HR.out (k := n) (by rw [LL.out]; exact hn) ha
    have RP1 := Lib.hid (part_right (C := L) g1 g8 LL.out hp.1)
    have RP2 := Lib.hid (part_right (C := H) g1 g8 LL.out hp.2)
    have J1 := Lib.hid (i1.later B23.out)
    have J2 := Lib.hid (i2.later B23.out)
    have J3 := Lib.hid (i3.later B23.out)
    have J4 := Lib.hid (i4.later B23.out)
    have HNEW := Lib.hid hnew
    have HA := Lib.hid ha
    have HNE := Lib.hid hne
    have HNN := Lib.hid hn
    clear hn ha hne i1 i2 i3 i4 hnew hp HNO HOK K1 K2
    go_wp2_with fail
    refine (rblock_any L H q1 q2 n4 c1 n4 c2 w3 M1.out M2.out).mono ?_
    rintro _ w4 ⟨rfl, hb4⟩
    have B4 := Lib.hid (B3.out.trans (hb4.mono B3.out.size))
    have e0 := (hb4.cell (p := ⟨w.heap.size, 0, none⟩) HS3.out).trans e0
    have e1 := (hb4.cell (p := ⟨w.heap.size, 1, none⟩) HS3.out).trans e1
    have hbl : blockB L H n4 n4 = blockB L H L.length H.length := by rw [← LL.out, ← LH.out]
    have X1 := Lib.hid (M1.out.later hb4)
    have X2 := Lib.hid (M2.out.later hb4)
    cases hbb : blockB L H n4 n4 with
    | true =>
      have HBB := Lib.hid (hbl.symm.trans hbb)
      clear hbl hbb hb4
      go_wp2_with fail
      go_ret
      exact single_post B4.out X1.out X2.out g1 (rgs_block HBB.out)
    | false =>
      have HMORE := Lib.hid (rgs_more (k := j) HNN.out HA.out HNE.out (hbl.symm.trans hbb))
      have HY := Lib.hid (show ∀ w', Below w4.heap.size w4 w' → w'.cell? ⟨w2.heap.size, 0, none⟩ = some (.slice p1 n4 s1) ∧ w'.cell? ⟨w2.heap.size, 1, none⟩ = some (.slice p2 n4 s2) ∧ w'.cell? ⟨w2.heap.size + 1, 0, none⟩ = some (.slice p3 n4 s3) ∧ w'.cell? ⟨w2.heap.size + 1, 1, none⟩ = some (.slice p4 n4 s4) from fun w' hb => by
        have hb' := hb4.trans (hb.mono hb4.size)
        have a := (hb'.block _ (Array.getElem?_eq_some_iff.1 R1.out).1).trans R1.out
        have b := (hb'.block _ (Array.getElem?_eq_some_iff.1 R2.out).1).trans R2.out
        exact ⟨cell_of_row _ _ 0 _ _ _ a, cell_of_row _ _ 1 _ _ _ a, cell_of_row _ _ 0 _ _ _ b, cell_of_row _ _ 1 _ _ _ b⟩)
      have HI1 := Lib.hid (show ∀ w', Below w4.heap.size w4 w' → Calls Try.prog 23 #[.agg #[.slice p1 n4 s1, .slice p2 n4 s2], .int .i64 j] w' (RangesPost w' j (pLo L L n) (pHi L H L n) p1 p2) from fun w' hb => IH.out j rfl _ _ p1 p2 n4 s1 s2 w' ((J1.out.later hb4).later hb) ((J2.out.later hb4).later hb) RP1.out)
      have HI2 := Lib.hid (show ∀ w', Below w4.heap.size w4 w' → Calls Try.prog 23 #[.agg #[.slice p3 n4 s3, .slice p4 n4 s4], .int .i64 j] w' (RangesPost w' j (pLo L H n) (pHi L H H n) p3 p4) from fun w' hb => IH.out j rfl _ _ p3 p4 n4 s3 s4 w' ((J3.out.later hb4).later hb) ((J4.out.later hb4).later hb) RP2.out)
      have hsz : w.heap.size ≤ w1.heap.size := Nat.le_of_lt HS0.out
      have HN1 := Lib.hid (show ∀ y, p1 = some y → w.heap.size ≤ y.block from fun y e => Nat.le_trans hsz (HNEW.out y (Or.inl e)))
      have HN2 := Lib.hid (show ∀ y, p2 = some y → w.heap.size ≤ y.block from fun y e => Nat.le_trans hsz (HNEW.out y (Or.inr (Or.inl e))))
      have HN3 := Lib.hid (show ∀ y, p3 = some y → y.block < w4.drew.heap.size ∧ w.heap.size ≤ y.block from fun y e => ⟨by
        have h := J3.out.later hb4
        rw [e] at h
        have t := ints_lt h g1
        exact t, Nat.le_trans hsz (HNEW.out y (Or.inr (Or.inr (Or.inl e))))⟩)
      have HN4 := Lib.hid (show ∀ y, p4 = some y → y.block < w4.drew.heap.size ∧ w.heap.size ≤ y.block from fun y e => ⟨by
        have h := J4.out.later hb4
        rw [e] at h
        have t := ints_lt h g1
        exact t, Nat.le_trans hsz (HNEW.out y (Or.inr (Or.inr (Or.inr e))))⟩)
      have hwj : IntKind.i64.wrap ((j : Int) + 1 - 1) = (j : Int) := by
        rw [IntKind.wrap_i64]
        omega
      have hwj2 : IntKind.i64.wrap (j : Int) = (j : Int) := by
        rw [IntKind.wrap_i64]
        omega
      clear hbl hbb hb4 hsz e0 e1
      go_upto_region 4 with fail
      refine wp_region_held_drew (S := fun w' => Below w4.heap.size w4 w') (by kernel_rfl) ⟨rfl, rfl, rfl, Nat.le_refl _, fun _ _ => rfl⟩ (fun hHeld => ?_)
      refine wpAnyH_take (i := 0) (oi := ⟨some 26, .load 26 (.tmp 5), _, _, _, _⟩) (v := ?_) rfl (by kernel_rfl) (by kernel_rfl) (by kernel_rfl) (fun _ _ _ h => h) (Or.inl ⟨by rfl, ?_⟩) (by assumption) ?_
      rotate_left
      · intro w' hSw
        obtain ⟨y0, y1, y2, y3⟩ := HY.out _ hSw
        go_simp
        try with_reducible rfl
      try simp only [Act.put, List.setIfInBounds_toArray, List.set_cons_zero, List.set_cons_succ]
      refine wpAnyH_take (i := 1) (oi := ⟨some 27, .move (.tmp 1), _, _, _, _⟩) (v := ?_) rfl (by kernel_rfl) (by kernel_rfl) (by kernel_rfl) (fun _ _ _ h => h) (Or.inl ⟨by rfl, ?_⟩) (by assumption) ?_
      rotate_left
      · intro w' hSw
        go_simp
        try with_reducible rfl
      try simp only [Act.put, List.setIfInBounds_toArray, List.set_cons_zero, List.set_cons_succ]
      refine wpAnyH_take (i := 2) (oi := ⟨some 28, .binOp .sub 3 (.tmp 27) (.const (.int .i64 1)) 3, _, _, _, _⟩) (v := ?_) rfl (by kernel_rfl) (by kernel_rfl) (by kernel_rfl) (fun _ _ _ h => h) (Or.inl ⟨by rfl, ?_⟩) (by assumption) ?_
      rotate_left
      · intro w' hSw
        go_simp
        try with_reducible rfl
      try simp only [Act.put, List.setIfInBounds_toArray, List.set_cons_zero, List.set_cons_succ]
      refine wpAnyH_take (i := 4) (oi := ⟨some 30, .load 26 (.tmp 6), _, _, _, _⟩) (v := ?_) rfl (by kernel_rfl) (by kernel_rfl) (by kernel_rfl) (fun _ _ _ h => h) (Or.inl ⟨by rfl, ?_⟩) (by assumption) ?_
      rotate_left
      · intro w' hSw
        obtain ⟨y0, y1, y2, y3⟩ := HY.out _ hSw
        go_simp
        try with_reducible rfl
      try simp only [Act.put, List.setIfInBounds_toArray, List.set_cons_zero, List.set_cons_succ]
      refine wpAnyH_take (i := 5) (oi := ⟨some 31, .move (.tmp 1), _, _, _, _⟩) (v := ?_) rfl (by kernel_rfl) (by kernel_rfl) (by kernel_rfl) (fun _ _ _ h => h) (Or.inl ⟨by rfl, ?_⟩) (by assumption) ?_
      rotate_left
      · intro w' hSw
        go_simp
        try with_reducible rfl
      try simp only [Act.put, List.setIfInBounds_toArray, List.set_cons_zero, List.set_cons_succ]
      refine wpAnyH_take (i := 6) (oi := ⟨some 32, .binOp .sub 3 (.tmp 31) (.const (.int .i64 1)) 3, _, _, _, _⟩) (v := ?_) rfl (by kernel_rfl) (by kernel_rfl) (by kernel_rfl) (fun _ _ _ h => h) (Or.inl ⟨by rfl, ?_⟩) (by assumption) ?_
      rotate_left
      · intro w' hSw
        go_simp
        try with_reducible rfl
      try simp only [Act.put, List.setIfInBounds_toArray, List.set_cons_zero, List.set_cons_succ]
      refine wpAnyH_ready (rs := [3]) (by kernel_rfl) (by simp) ?_
      refine AllReadyH.cons (o := ⟨some 29, .call ⟨.value (.func 23), #[.tmp 26, .tmp 28], #[26, 3]⟩, _, _, _, _⟩) rfl (fun K hK => ?_) AllReadyH.nil
      go_simp
      with_reducible refine (HI1.out _ ?hx1).mono ?_
      case hx1 => exact hHeld
      rintro _ w5 ⟨v5, l5, rfl, hm5, ho5, hk5, hb5⟩
      have hw5 : Below w4.heap.size w4 w5 := hHeld.trans (hb5.mono hHeld.size)
      have ho5 : w5.ownsRow w4.heap.size 26 2 v5 l5.length (bvs l5) := ho5
      try go_wp2_with fail
      refine hK.out _ _ hw5 (fun hHeld => ?_)
      clear hK K
      try simp only [Act.put, List.setIfInBounds_toArray, List.set_cons_zero, List.set_cons_succ]
      refine wpAnyH_ready (rs := [7]) (by kernel_rfl) (by simp) ?_
      refine AllReadyH.cons (o := ⟨some 33, .call ⟨.value (.func 23), #[.tmp 30, .tmp 32], #[26, 3]⟩, _, _, _, _⟩) rfl (fun K hK => ?_) AllReadyH.nil
      go_simp
      with_reducible refine (HI2.out _ ?hx2).mono ?_
      case hx2 => exact hHeld
      rintro _ w6 ⟨v6, l6, rfl, hm6, ho6, hk6, hb6⟩
      have hw6 : Below w4.heap.size w4 w6 := hHeld.trans (hb6.mono hHeld.size)
      try go_wp2_with fail
      refine hK.out _ _ hw6 (fun hHeld => ?_)
      clear hK K
      try simp only [Act.put, List.setIfInBounds_toArray, List.set_cons_zero, List.set_cons_succ]
      refine wpAnyH_ready (rs := [8]) (by kernel_rfl) (by simp) ?_
      refine AllReadyH.cons (o := ⟨some 34, .call ⟨.builtin .append, #[.tmp 29, .tmp 33], #[43, 43]⟩, _, _, _, _⟩) rfl (fun K hK => ?_) AllReadyH.nil
      rw [if_pos (by rfl)]
      have len5 : l5.length ≤ 1024 := by
        have h := rgs_length j (pLo L L n) (pHi L H L n)
        rw [← hm5, List.length_map] at h
        exact Nat.le_trans h (Nat.le_trans (Nat.pow_le_pow_right (by omega) (show j ≤ 10 by omega)) (by decide))
      have len6 : l6.length ≤ 1024 := by
        have h := rgs_length j (pLo L H n) (pHi L H H n)
        rw [← hm6, List.length_map] at h
        exact Nat.le_trans h (Nat.le_trans (Nat.pow_le_pow_right (by omega) (show j ≤ 10 by omega)) (by decide))
      have pos6 : 0 < l6.length := by
        have h := rgs_pos j (pLo L H n) (pHi L H H n)
        rw [← hm6, List.length_map] at h
        exact h
      refine appB (.tmp 29) (.tmp 33) (by rfl) w4.heap.size w5.heap.size v5 v6 l5.length l6.length l5 l6 (by rfl) (by rfl) (ownb_later ho5 hb6) ho6 pos6 rfl (by omega) hw6.size ?_
      intro v8 w8 ho8 hg8 ht8
      have hw8 : Below w4.heap.size w4 w8 := hw6.grown hg8 hw6.size (fun g e => ((ownb_later ho5 hb6).lt g e).1)
      refine hK.out _ _ hw8 (fun hHeld => ?_)
      clear hK K
      try simp only [Act.put, List.setIfInBounds_toArray, List.set_cons_zero, List.set_cons_succ]
      refine wpAnyH_take (i := 9) (oi := ⟨some 4, .assign (.tmp 34), _, _, _, _⟩) (v := ?_) rfl (by kernel_rfl) (by kernel_rfl) (by kernel_rfl) (fun _ _ _ h => h) (Or.inl ⟨by rfl, ?_⟩) (by assumption) ?_
      rotate_left
      · intro w' hSw
        go_simp
        try with_reducible rfl
      try simp only [Act.put, List.setIfInBounds_toArray, List.set_cons_zero, List.set_cons_succ]
      refine wpAnyH_done (by kernel_rfl) ?_ _
      go_wp2_with fail
      go_ret
      have hwa : Below w.heap.size w w4.drew := B4.out.drew
      have hl5 : ∀ b ∈ l5, 1 ≤ b.n ∧ 1 ≤ b.m := fun b hb => by
        have hx : (b.L, b.H) ∈ rgs j (pLo L L n) (pHi L H L n) := by rw [← hm5]; exact List.mem_map.2 ⟨b, hb, rfl⟩
        have h := rgs_dims j _ _ (by rw [pLo_length, pHi_length]) _ hx
        rw [pLo_length, ← LL.out] at h
        obtain ⟨⟨i1, i2⟩, -⟩ := hk5 b hb
        have h1 : b.L.length = n4 := h.1
        have h2 : b.H.length = n4 := h.2
        rw [i1.size, i2.size]
        omega
      have hl6 : ∀ b ∈ l6, 1 ≤ b.n ∧ 1 ≤ b.m := fun b hb => by
        have hx : (b.L, b.H) ∈ rgs j (pLo L H n) (pHi L H H n) := by rw [← hm6]; exact List.mem_map.2 ⟨b, hb, rfl⟩
        have h := rgs_dims j _ _ (by rw [pLo_length, pHi_length]) _ hx
        rw [pLo_length, ← LL.out] at h
        obtain ⟨⟨i1, i2⟩, -⟩ := hk6 b hb
        have h1 : b.L.length = n4 := h.1
        have h2 : b.H.length = n4 := h.2
        rw [i1.size, i2.size]
        omega
      refine ⟨v8, l5 ++ l6, rfl, by rw [List.map_append, hm5, hm6, HMORE.out], by rw [List.length_append]; exact own_mono ho8 B4.out.size, ranges_join hwa hb5 hb6 ho5 hk5 hk6 HN3.out HN4.out HN1.out HN2.out hl5 hl6 hg8 ht8, B4.out.trans (hw8.mono B4.out.size)⟩
theorem ranges_any : ∀ (k : Nat), k ≤ 10 → ∀ (L H : List Int) (q1 q2 : Option Addr) (d c1 c2 : Nat) (w : World), Ints w q1 d c1 L → Ints w q2 d c2 H → rightB L H d d d = true →
    Calls Try.prog 23 #[.agg #[.slice q1 d c1, .slice q2 d c2], .int .i64 k] w (RangesPost w k L H q1 q2)
  | 0, hk => fun L H q1 q2 d c1 c2 w h1 h2 hr => ranges_step 0 hk (fun j e => by omega) L H q1 q2 d c1 c2 w h1 h2 hr
  | k + 1, hk => fun L H q1 q2 d c1 c2 w h1 h2 hr => ranges_step (k + 1) hk (fun j e => by
      obtain rfl : k = j := by omega
      exact ranges_any k (by omega)) L H q1 q2 d c1 c2 w h1 h2 hr
end Go.Proofs.Ytbhpmigblkaihaa.Zr

/- The program: zrange.Ranges. -/
namespace Go.Proofs.Ytbhpmigblkaihaa.Zr
open Go.RowKit

def ZRangesPost (w : World) (k : Nat) (L H : List Int) (e : Ending) (w' : World) : Prop :=
  ∃ v l, e = .returned (.tuple #[v, .int .i64 0]) ∧ l.map (fun b => (b.L, b.H)) = rgs k L H ∧ GL w' w.heap.size v l ∧ Below w.heap.size w w'
set_option maxRecDepth 100000 in
set_option maxHeartbeats 1000000 in
theorem zranges_good (k : Nat) (hk : k ≤ 10) (L H : List Int) (q1 q2 : Option Addr) (d c1 c2 : Nat) (w : World) (h1 : Ints w q1 d c1 L) (h2 : Ints w q2 d c2 H) (hr : rightB L H d d d = true) :
    Calls Try.prog 22 #[.agg #[.slice q1 d c1, .slice q2 d c2], .int .i64 k] w (ZRangesPost w k L H) := by
  have hs := bkh_start h1 h2
  have HR := Lib.hid hr
  have b1 : ¬ (k : Int) < 0 := by omega
  have b2 : ¬ (10 : Int) < k := by omega
  clear h1 h2 hr
  go_enter Try.func22, Try.ntmps22
  go_upto_region 1 with fail
  generalize w.alloc (.cells #[.slice q1 d c1, .slice q2 d c2] 26) = w1 at *
  have HS := Lib.hid hs
  obtain ⟨a0, a1⟩ := hs.cells
  clear hs
  go_wp2_with fail
  refine (zright_any L H q1 q2 d c1 d c2 w1 HS.out.i1 HS.out.i2).mono ?_
  rintro _ w2 ⟨rfl, hb2⟩
  rw [HR.out]
  have HS2 := Lib.hid (HS.out.later hb2)
  clear hb2 a0 a1 HS
  obtain ⟨a0, a1⟩ := HS2.out.cells
  go_wp2_with fail
  have hgl : GL w2 w2.heap.size (.slice none 0 0) [] := ⟨World.ownsRow_nil _ _ _ _, fun b hm => by cases hm⟩
  have hp : 2 ^ k ≤ 2 ^ 10 := Nat.pow_le_pow_right (by omega) hk
  refine (gather_any k hk w2.heap.size (.slice none 0 0) [] L H q1 q2 d c1 c2 w2 hgl (Nat.le_refl _) (by simp; omega) HS2.out.i1 HS2.out.i2 (fun a _ e => by simp [Value.ownBlock] at e) HR.out).mono ?_
  rintro _ w3 ⟨v, l, rfl, hm, hgl3, hg3, -⟩
  have HM := Lib.hid hm
  have HG := Lib.hid hgl3
  have HB := Lib.hid (show Below w2.heap.size w2 w3 from ⟨hg3.os, hg3.tape, hg3.output, hg3.size, fun i hi => hg3.block i hi (fun e => by simp [Value.ownBlock] at e)⟩)
  clear hgl hp hm hgl3 hg3
  go_wp2_with fail
  go_ret2
  exact ⟨v, l, rfl, HM.out, ⟨own_mono HG.out.own HS2.out.low.size, HG.out.ok⟩, HS2.out.low.trans (HB.out.mono HS2.out.low.size)⟩
set_option maxRecDepth 100000 in
set_option maxHeartbeats 1000000 in
theorem zranges_bad (k : Int) (L H : List Int) (q1 q2 : Option Addr) (n1 c1 n2 c2 : Nat) (w : World) (h1 : Ints w q1 n1 c1 L) (h2 : Ints w q2 n2 c2 H) (hr : rightB L H n1 n2 n1 = false ∨ k < 0 ∨ 10 < k) :
    Calls Try.prog 22 #[.agg #[.slice q1 n1 c1, .slice q2 n2 c2], .int .i64 k] w fun e w' => e = .returned (.tuple #[.slice none 0 0, .int .i64 1]) ∧ Below w.heap.size w w' := by
  have hb : Below w.heap.size w (w.alloc (.cells #[.slice q1 n1 c1, .slice q2 n2 c2] 26)) := (Below.refl _ _).alloc (Nat.le_refl _) _
  obtain ⟨e0, e1⟩ := pair_alloc w (.slice q1 n1 c1) (.slice q2 n2 c2) 26
  have H1 := Lib.hid (h1.later hb)
  have H2 := Lib.hid (h2.later hb)
  have HB := Lib.hid hb
  have HR := Lib.hid hr
  clear h1 h2 hb hr
  go_enter Try.func22, Try.ntmps22
  go_upto_region 1 with fail
  generalize w.alloc (.cells #[.slice q1 n1 c1, .slice q2 n2 c2] 26) = w1 at *
  go_wp2_with fail
  refine (zright_any L H q1 q2 n1 c1 n2 c2 w1 H1.out H2.out).mono ?_
  rintro _ w2 ⟨rfl, hb2⟩
  have HB2 := Lib.hid (HB.out.trans (hb2.mono HB.out.size))
  clear hb2 e0 e1
  cases hrr : rightB L H n1 n2 n1 with
  | false =>
    clear hrr
    go_wp2_with fail
    go_ret2
    exact ⟨rfl, HB2.out⟩
  | true =>
    by_cases hk : k < 0
    · clear hrr
      go_wp2_with fail
      go_ret2
      exact ⟨rfl, HB2.out⟩
    · have hk2 : 10 < k := by
        rcases HR.out with h | h | h
        · rw [hrr] at h; cases h
        · exact absurd h hk
        · exact h
      clear hrr
      go_wp2_with fail
      go_ret2
      exact ⟨rfl, HB2.out⟩
end Go.Proofs.Ytbhpmigblkaihaa.Zr

/- indentureref06.Find of a box that isn't right, or of a list that is no code of its dimensions. -/
namespace Go.Proofs.Ytbhpmigblkaihaa.Zr
open Go.RowKit Go.Proofs.Ytbhpmigblkaihaa.Mo
set_option maxRecDepth 100000 in
set_option maxHeartbeats 4000000 in
theorem rfind_bad (back : Bool) (L H : List Int) (p q1 q2 : Option Addr) (n cc n1 c1 n2 c2 : Nat) (w : World) (h1 : Ints w q1 n1 c1 L) (h2 : Ints w q2 n2 c2 H) (_hn : n ≤ 1000000) (hr : ¬ (rightB L H n1 n2 n1 = true ∧ n = 8 * n1)) :
    Calls Try.prog 10 #[.slice p n cc, .agg #[.slice q1 n1 c1, .slice q2 n2 c2], .bool back] w fun e w' => e = .returned (.tuple #[.slice none 0 0, .bool false]) ∧ Below w.heap.size w w' := by
  have hb : Below w.heap.size w (w.alloc (.cells #[.slice q1 n1 c1, .slice q2 n2 c2] 26)) := (Below.refl _ _).alloc (Nat.le_refl _) _
  obtain ⟨e0, e1⟩ := pair_alloc w (.slice q1 n1 c1) (.slice q2 n2 c2) 26
  have H1 := Lib.hid (h1.later hb)
  have H2 := Lib.hid (h2.later hb)
  have HB := Lib.hid hb
  have HR := Lib.hid hr
  have hs0 : w.heap.size < (w.alloc (.cells #[.slice q1 n1 c1, .slice q2 n2 c2] 26)).heap.size := by simp
  clear h1 h2 hb hr
  go_enter Try.func10, Try.ntmps10
  go_upto_region 1 with fail
  generalize w.alloc (.cells #[.slice q1 n1 c1, .slice q2 n2 c2] 26) = w0 at *
  have HS0 := Lib.hid hs0
  clear hs0
  go_wp2_with fail
  refine (refright_any q1 q2 n1 c1 n2 c2 L H n1 w0 H1.out H2.out).mono ?_
  rintro _ w1 ⟨rfl, hb1⟩
  have B1 := Lib.hid (HB.out.trans (hb1.mono HB.out.size))
  clear hb1 e0 e1
  cases hrr : rightB L H n1 n2 n1 with
  | false =>
    go_wp2_with fail
    go_ret2
    exact ⟨rfl, B1.out⟩
  | true =>
    obtain ⟨d1, d2, -, -⟩ := rightB_dims hrr
    have hne : ¬ (n : Int) = 8 * n1 := fun e => HR.out ⟨hrr, by omega⟩
    have hnb : ((n : Int) != 8 * n1) = true := by simpa using hne
    clear hrr
    go_wp2_with fail
    go_ret2
    exact ⟨rfl, B1.out⟩
end Go.Proofs.Ytbhpmigblkaihaa.Zr

/- indentureref05.Less. -/
namespace Go.Proofs.Ytbhpmigblkaihaa.Mo
open Go.RowKit

theorem bytes_lt {x y : Nat} (hx : x < 256) (hy : y < 256) : (UInt8.ofNat x < UInt8.ofNat y) ↔ x < y := by
  rw [UInt8.lt_iff_toNat_lt, UInt8.toNat_ofNat', UInt8.toNat_ofNat', Nat.mod_eq_of_lt (by omega), Nat.mod_eq_of_lt (by omega)]
theorem strOf_list {A : List Nat} : (strOf A).data.toList = A.map UInt8.ofNat := by
  simp [strOf, strOfNums, Function.comp_def]
theorem less_cmp : ∀ (A B : List Nat), Sm.allB A → Sm.allB B → Op.bytesLess (A.map UInt8.ofNat) (B.map UInt8.ofNat) = decide (Cm.cmpL A B < 0)
  | [], [], _, _ => by simp [Op.bytesLess, Cm.cmpL]
  | [], _ :: _, _, _ => by simp [Op.bytesLess, Cm.cmpL]
  | _ :: _, [], _, _ => by simp [Op.bytesLess, Cm.cmpL]
  | x :: A, y :: B, hA, hB => by
    have hx := hA x (by simp)
    have hy := hB y (by simp)
    have ih := less_cmp A B (fun z hz => hA z (by simp [hz])) (fun z hz => hB z (by simp [hz]))
    rw [List.map_cons, List.map_cons, Op.bytesLess, ih, Cm.cmpL_cons]
    have e1 : (decide (UInt8.ofNat x < UInt8.ofNat y)) = decide (x < y) := decide_eq_decide.2 (bytes_lt hx hy)
    have e2 : (UInt8.ofNat x == UInt8.ofNat y) = decide (x = y) := by
      rw [Bool.eq_iff_iff, beq_iff_eq, decide_eq_true_iff]
      constructor
      · intro h
        have := congrArg UInt8.toNat h
        rw [UInt8.toNat_ofNat', UInt8.toNat_ofNat', Nat.mod_eq_of_lt (by omega), Nat.mod_eq_of_lt (by omega)] at this
        exact this
      · rintro rfl; rfl
    rw [e1, e2]
    by_cases h1 : x < y
    · rw [if_pos h1]; simp [h1]
    · by_cases h2 : y < x
      · rw [if_neg h1, if_pos h2]
        have h3 : ¬ x = y := by omega
        simp [h1, h3]
      · rw [if_neg h1, if_neg h2]
        have h3 : x = y := by omega
        simp [h3]
theorem str_less {A B : List Nat} (hA : Sm.allB A) (hB : Sm.allB B) : Op.bytesLess (strOf A).toList (strOf B).toList = decide (Cm.cmpL A B < 0) := by
  rw [ByteArray.toList_eq, ByteArray.toList_eq, strOf_list, strOf_list, less_cmp A B hA hB]
set_option maxRecDepth 100000 in
set_option maxHeartbeats 1000000 in
theorem less_any (A B : List Nat) (p q : Option Addr) (n c d : Nat) (w : World) (hA : Tx w p n c A) (hB : Tx w q n d B) :
    Calls Try.prog 15 #[.slice p n c, .slice q n d] w fun e w' => e = .returned (.bool (decide (Cm.cmpL A B < 0))) ∧ w' = w := by
  have h1 := convert_tx hA
  have h2 := convert_tx hB
  have hl := str_less hA.ok hB.ok
  clear hA hB
  generalize strOf A = sa at *
  generalize strOf B = sb at *
  generalize decide (Cm.cmpL A B < 0) = b at *
  go_enter Try.func15, Try.ntmps15
  go_wp2_with fail
  go_ret
  exact ⟨rfl, rfl⟩
end Go.Proofs.Ytbhpmigblkaihaa.Mo

/- What the laws of zrange call, said from an elder world on. -/
namespace Go.Proofs.Ytbhpmigblkaihaa.Zr
open Go.RowKit Go.Proofs.Ytbhpmigblkaihaa.Mo

theorem lcode {w0 w : World} (hW : Below w0.heap.size w0 w) {R : List Int} {p : Option Addr} {n c : Nat} (h : Ints w p n c R) (h8 : n ≤ 8) :
    Calls Try.prog 14 #[.slice p n c] w fun e w' => ∃ q c', e = .returned (.slice q (8 * n : Nat) c') ∧ Bytes w' q (8 * n) c' (Mm.code R) ∧ Below w0.heap.size w0 w' := by
  refine (refcode_any R p n c w h h8).mono ?_
  rintro e w' ⟨q, c', rfl, hq, hb⟩
  rw [Mm.code_length, ← h.size] at hq ⊢
  exact ⟨q, c', rfl, hq, hW.trans (hb.mono hW.size)⟩
theorem lpoint {w0 w : World} (hW : Below w0.heap.size w0 w) {B : List Nat} {p : Option Addr} {n c d : Nat} (h : Bytes w p n c B) (h1 : 1 ≤ d) (h8 : d ≤ 8) (hn : n = 8 * d) :
    Calls Try.prog 16 #[.slice p n c, .int .i64 d] w fun e w' => ∃ q c', e = .returned (.slice q d c') ∧ Ints w' q d c' (Mm.point B d) ∧ Below w0.heap.size w0 w' := by
  refine (refpoint_any B p n c d w h h1 h8 hn).mono ?_
  rintro e w' ⟨q, c', rfl, hq, hb⟩
  rw [Mm.point_length] at hq ⊢
  exact ⟨q, c', rfl, hq, hW.trans (hb.mono hW.size)⟩
theorem lhas {w0 w : World} (hW : Below w0.heap.size w0 w) {p q s : Option Addr} {n c m e l f : Nat} {R S P : List Int} (h : Ints w p n c R) (h2 : Ints w q m e S) (h3 : Ints w s l f P) :
    Calls Try.prog 13 #[.agg #[.slice p n c, .slice q m e], .slice s l f] w fun e w' => e = .returned (.bool (hasB R S P n m l)) ∧ Below w0.heap.size w0 w' :=
  (refhas_any p q s n c m e l f R S P w h h2 h3).mono fun _ _ h => ⟨h.1, hW.trans (h.2.mono hW.size)⟩
theorem lless {w0 w : World} (hW : Below w0.heap.size w0 w) {A B : List Nat} {p q : Option Addr} {n c d : Nat} (hA : Bytes w p n c A) (hB : Bytes w q n d B) :
    Calls Try.prog 15 #[.slice p n c, .slice q n d] w fun e w' => e = .returned (.bool (decide (Cm.cmpL A B < 0))) ∧ Below w0.heap.size w0 w' :=
  (less_any A B p q n c d w hA.tx hB.tx).mono fun _ _ h => ⟨h.1, by rw [h.2]; exact hW⟩
theorem lblock {w0 w : World} (hW : Below w0.heap.size w0 w) {q1 q2 : Option Addr} {n1 c1 n2 c2 : Nat} {L H : List Int} (h1 : Ints w q1 n1 c1 L) (h2 : Ints w q2 n2 c2 H) :
    Calls Try.prog 20 #[.agg #[.slice q1 n1 c1, .slice q2 n2 c2]] w fun e w' => e = .returned (.bool (blockB L H n1 n2)) ∧ Below w0.heap.size w0 w' :=
  (zblock_any L H q1 q2 n1 c1 n2 c2 w h1 h2).mono fun _ _ h => ⟨h.1, hW.trans (h.2.mono hW.size)⟩
theorem lrblock {w0 w : World} (hW : Below w0.heap.size w0 w) {q1 q2 : Option Addr} {n1 c1 n2 c2 : Nat} {L H : List Int} (h1 : Ints w q1 n1 c1 L) (h2 : Ints w q2 n2 c2 H) :
    Calls Try.prog 21 #[.agg #[.slice q1 n1 c1, .slice q2 n2 c2]] w fun e w' => e = .returned (.bool (blockB L H n1 n2)) ∧ Below w0.heap.size w0 w' :=
  (rblock_any L H q1 q2 n1 c1 n2 c2 w h1 h2).mono fun _ _ h => ⟨h.1, hW.trans (h.2.mono hW.size)⟩
theorem lright {w0 w : World} (hW : Below w0.heap.size w0 w) {p q : Option Addr} {n c m e : Nat} {R S : List Int} (d : Int) (h : Ints w p n c R) (h2 : Ints w q m e S) :
    Calls Try.prog 12 #[.agg #[.slice p n c, .slice q m e], .int .i64 d] w fun e w' => e = .returned (.bool (rightB R S n m d)) ∧ Below w0.heap.size w0 w' :=
  (refright_any p q n c m e R S d w h h2).mono fun _ _ h => ⟨h.1, hW.trans (h.2.mono hW.size)⟩
/-- The laws' box lies boxed in an elder world's reach. -/
theorem lbox {w w1 : World} {q1 q2 : Option Addr} {d m c1 c2 : Nat} {L H : List Int} (h1 : Ints w q1 d c1 L) (h2 : Ints w q2 m c2 H) (hw : w1 = w.alloc (.cells #[.slice q1 d c1, .slice q2 m c2] 26)) : BI w1 w.heap.size q1 q2 d c1 m c2 L H ∧ Below w.heap.size w w1 := by
  subst hw
  have b1 : Below w.heap.size w (w.alloc (.cells #[.slice q1 d c1, .slice q2 m c2] 26)) := (Below.refl _ _).alloc (Nat.le_refl _) _
  exact ⟨⟨heap_alloc_new w _, h1.later b1, h2.later b1⟩, b1⟩
end Go.Proofs.Ytbhpmigblkaihaa.Zr

/- What Skip, Back and Find tell, pinned. -/
namespace Go.Proofs.Ytbhpmigblkaihaa.Zr
open Go.RowKit Go.Proofs.Ytbhpmigblkaihaa.Mo Zm

/-- What is told of a code, or that there is none. -/
def FP (w0 : World) (X : List Nat) (ok : Bool) (e : Ending) (w' : World) : Prop := ∃ q n c, e = .returned (.tuple #[.slice q n c, .bool ok]) ∧ Tx w' q n c X ∧ Below w0.heap.size w0 w'
theorem tx_none (w : World) : Tx w none 0 0 [] := ⟨rfl, Nat.le_refl _, (fun x hx => by cases hx), Or.inl ⟨rfl, rfl⟩, fun x h => by cases h⟩
theorem hit_miss {back : Bool} {L H Q X : List Int} (h : Hit back L H Q X) (m : Miss back L H Q) : False := by
  cases back with
  | true => exact m X (LastIn.len h) (LastIn.ok h) (LastIn.box h) (LastIn.upto h)
  | false => exact m X (FirstIn.len h) (FirstIn.ok h) (FirstIn.box h) (FirstIn.from' h)
theorem find_pin (back : Bool) (L H Q : List Int) : ∃ X ok, ∀ (w0 w : World) e w', Below w0.heap.size w0 w → FindPost w back L H Q e w' → FP w0 X ok e w' := by
  by_cases hx : ∃ X, Hit back L H Q X
  · obtain ⟨X, hX⟩ := hx
    refine ⟨Mm.code X, true, ?_⟩
    rintro w0 w e w' hb ⟨ok, v, rfl, hb2, hno, hok⟩
    cases ok with
    | false => exact (hit_miss hX (hno rfl).2).elim
    | true =>
      obtain ⟨Y, q, c, hY, rfl, hq⟩ := hok rfl
      have := Hit.unique hY hX
      subst this
      exact ⟨q, _, c, rfl, hq.tx, hb.trans (hb2.mono hb.size)⟩
  · refine ⟨[], false, ?_⟩
    rintro w0 w e w' hb ⟨ok, v, rfl, hb2, hno, hok⟩
    cases ok with
    | false =>
      obtain ⟨rfl, -⟩ := hno rfl
      exact ⟨none, 0, 0, rfl, tx_none _, hb.trans (hb2.mono hb.size)⟩
    | true =>
      obtain ⟨Y, q, c, hY, -, -⟩ := hok rfl
      exact (hx ⟨Y, hY⟩).elim
theorem fp_bad {w0 w w' : World} {e : Ending} (hb : Below w0.heap.size w0 w) (h : e = .returned (.tuple #[.slice none 0 0, .bool false]) ∧ Below w.heap.size w w') : FP w0 [] false e w' :=
  ⟨none, 0, 0, h.1, tx_none _, hb.trans (h.2.mono hb.size)⟩
theorem zl_dims {X Y P : List Int} {n m l : Nat} (h : hasB X Y P n m l = true) : 1 ≤ l ∧ l ≤ 8 ∧ n = l ∧ m = l := by
  unfold hasB at h
  rw [Bool.and_eq_true] at h
  have := rightB_dims h.1
  omega
end Go.Proofs.Ytbhpmigblkaihaa.Zr

/- The program: zrange.Split of a box that isn't right. -/
namespace Go.Proofs.Ytbhpmigblkaihaa.Zr
open Go.RowKit
set_option maxRecDepth 100000 in
set_option maxHeartbeats 1000000 in
theorem zsplit_bad (L H : List Int) (q1 q2 : Option Addr) (d c1 m c2 : Nat) (w : World) (h1 : Ints w q1 d c1 L) (h2 : Ints w q2 m c2 H) (hr : rightB L H d m d = false) :
    Calls Try.prog 17 #[.agg #[.slice q1 d c1, .slice q2 m c2]] w fun e w' => e = .returned (.tuple #[.agg #[.slice none 0 0, .slice none 0 0], .agg #[.slice none 0 0, .slice none 0 0], .bool false]) ∧ Below w.heap.size w w' := by
  have HR := Lib.hid hr
  have hs := sh_start h1 h2
  clear h1 h2 hr
  go_enter Try.func17, Try.ntmps17
  go_upto_region 1 with fail
  generalize ((w.alloc (.cells #[.slice q1 d c1, .slice q2 m c2] 26)).alloc (.cells #[.slice none 0 0, .slice none 0 0] 26)).alloc (.cells #[.slice none 0 0, .slice none 0 0] 26) = w3 at *
  have HS := Lib.hid hs
  obtain ⟨a0, a1⟩ := hs.cells
  clear hs
  go_wp2_with fail
  refine (zright_any L H q1 q2 d c1 m c2 w3 HS.out.i1 HS.out.i2).mono ?_
  rintro _ w4 ⟨rfl, hb4⟩
  rw [HR.out]
  have HS4 := Lib.hid (HS.out.later hb4)
  clear hb4 a0 a1 HS
  obtain ⟨x0, x1, x2, x3, y0, y1, y2, y3⟩ := HS4.out.outs
  obtain ⟨w', hw', hb', r0, r1, s0, s1⟩ := HS4.out.told rfl (.slice none 0 0) (.slice none 0 0) (.slice none 0 0) (.slice none 0 0)
  have HB := Lib.hid hb'
  clear hb'
  go_wp2_with fail
  rw [← hw']
  exact zret_box3 2 3 4 rfl (w.heap.size + 1) (w.heap.size + 1 + 1) _ _ _ _ _ rfl rfl rfl r0 r1 s0 s1 ⟨rfl, HB.out⟩
end Go.Proofs.Ytbhpmigblkaihaa.Zr

/- Lists of ranges, plainly: which of them a point is in; where they lie. -/
namespace Go.Proofs.Ytbhpmigblkaihaa.Zr
open Go.RowKit Go.Proofs.Ytbhpmigblkaihaa.Mo Zm Mm

/-- The last place so far at which f holds, and how many there are. -/
def lastI (f : Nat → Bool) : Nat → Int
  | 0 => -1
  | i + 1 => if f i = true then (i : Int) else lastI f i
def cntI (f : Nat → Bool) : Nat → Nat
  | 0 => 0
  | i + 1 => if f i = true then cntI f i + 1 else cntI f i
theorem lastI_yes {f : Nat → Bool} {i : Nat} (h : f i = true) : lastI f (i + 1) = (i : Int) := if_pos h
theorem lastI_no {f : Nat → Bool} {i : Nat} (h : f i = false) : lastI f (i + 1) = lastI f i := if_neg (by rw [h]; decide)
theorem cntI_yes {f : Nat → Bool} {i : Nat} (h : f i = true) : cntI f (i + 1) = cntI f i + 1 := if_pos h
theorem cntI_no {f : Nat → Bool} {i : Nat} (h : f i = false) : cntI f (i + 1) = cntI f i := if_neg (by rw [h]; decide)
theorem cntI_le (f : Nat → Bool) : ∀ n, cntI f n ≤ n
  | 0 => Nat.le_refl _
  | n + 1 => by
    have := cntI_le f n
    cases h : f n with
    | true => rw [cntI_yes h]; omega
    | false => rw [cntI_no h]; omega
theorem none_I {f : Nat → Bool} : ∀ n, (∀ j, j < n → f j = false) → lastI f n = -1 ∧ cntI f n = 0
  | 0, _ => ⟨rfl, rfl⟩
  | n + 1, h => by
    have := none_I n fun j hj => h j (by omega)
    rw [lastI_no (h n (by omega)), cntI_no (h n (by omega))]
    exact this
theorem one_I {f : Nat → Bool} {j : Nat} (hj : f j = true) : ∀ n, j < n → (∀ i, i < n → f i = true → i = j) → lastI f n = (j : Int) ∧ cntI f n = 1
  | 0, h, _ => by omega
  | n + 1, h, hu => by
    by_cases e : n = j
    · subst e
      have := none_I (f := f) n fun i hi => by
        cases c : f i with
        | false => rfl
        | true =>
          have := hu i (by omega) c
          omega
      rw [lastI_yes hj, cntI_yes hj, this.2]
      exact ⟨rfl, rfl⟩
    · have hn : f n = false := by
        cases c : f n with
        | false => rfl
        | true => exact absurd (hu n (by omega) c) e
      rw [lastI_no hn, cntI_no hn]
      exact one_I hj n (by omega) fun i hi => hu i (by omega)
theorem some_I (f : Nat → Bool) : ∀ n, lastI f n = -1 ∨ ∃ j, j < n ∧ lastI f n = (j : Int) ∧ f j = true
  | 0 => Or.inl rfl
  | n + 1 => by
    cases c : f n with
    | true => exact Or.inr ⟨n, by omega, lastI_yes c, c⟩
    | false =>
      rw [lastI_no c]
      exact (some_I f n).imp id fun ⟨j, h1, h2⟩ => ⟨j, by omega, h2⟩
/-- The range at a place. -/
def rgAt (k : Nat) (R S : List Int) (i : Nat) : List Int × List Int := (rgs k R S).getD i ([], [])
theorem rgAt_get {k : Nat} {R S : List Int} {i : Nat} (h : i < (rgs k R S).length) : rgAt k R S i = (rgs k R S)[i] := by
  unfold rgAt
  rw [List.getD_eq_getElem?_getD, List.getElem?_eq_getElem h]
  rfl
def inRg (k : Nat) (R S P : List Int) (d l : Nat) (i : Nat) : Bool := hasB (rgAt k R S i).1 (rgAt k R S i).2 P d d l
theorem rgs_bx : ∀ (k : Nat) {L H : List Int}, BX L H → ∀ x ∈ rgs k L H, BX x.1 x.2 ∧ x.1.length = L.length
  | 0, L, H, b, x, hx => by
    simp [rgs] at hx
    subst hx
    exact ⟨b, rfl⟩
  | k + 1, L, H, b, x, hx => by
    unfold rgs at hx
    cases e : fu L H (64 * L.length) with
    | none =>
      rw [e] at hx
      simp at hx
      subst hx
      exact ⟨b, rfl⟩
    | some n =>
      obtain ⟨hn, he, -⟩ := fu_spec _ _ e
      obtain ⟨b1, b2⟩ := b.parts hn he
      rw [e] at hx
      simp only at hx
      split at hx
      · simp at hx
        subst hx
        exact ⟨b, rfl⟩
      · rcases List.mem_append.1 hx with hx | hx
        · have := rgs_bx k b1 x hx
          rw [pLo_length] at this
          exact this
        · have := rgs_bx k b2 x hx
          rw [pLo_length] at this
          exact this
section
variable {k d : Nat} {R S : List Int}
theorem inRg_iff (b : BX R S) (hd : R.length = d) {P : List Int} {i : Nat} (hi : i < (rgs k R S).length) (lP : P.length = d) : inRg k R S P d d i = true ↔ inB (rgs k R S)[i].1 (rgs k R S)[i].2 P := by
  obtain ⟨bx, hl⟩ := rgs_bx k b _ (List.getElem_mem hi)
  unfold inRg
  rw [rgAt_get hi]
  have hr := bx.right
  rw [hl, hd] at hr
  exact hasB_in (hl.trans hd) lP hr
theorem inRg_dims {P : List Int} {l i : Nat} (h : inRg k R S P d l i = true) : l = d := by
  unfold inRg at h
  have := zl_dims h
  omega
/-- Of a point of the box: it is in just one range; of another one: in none. -/
theorem rg_point (b : BX R S) (hd : R.length = d) {P : List Int} {l : Nat} (hP : inI P) (hl : l = P.length) :
    (hasB R S P d d l = true → ∃ j, j < (rgs k R S).length ∧ lastI (inRg k R S P d l) (rgs k R S).length = (j : Int) ∧ cntI (inRg k R S P d l) (rgs k R S).length = 1 ∧ inRg k R S P d l j = true) ∧
    (hasB R S P d d l = false → lastI (inRg k R S P d l) (rgs k R S).length = -1 ∧ cntI (inRg k R S P d l) (rgs k R S).length = 0) := by
  have hr := b.right
  rw [hd] at hr
  constructor
  · intro h
    obtain ⟨-, -, e, -⟩ := zl_dims h
    subst e
    have lP : P.length = d := hl.symm
    have hin := (hasB_in hd lP hr).1 h
    obtain ⟨x, hx, hxP⟩ := rgs_some k b hP (lP.trans hd.symm) hin
    obtain ⟨j, hj, rfl⟩ := List.mem_iff_getElem.1 hx
    have hf := (inRg_iff (d := d) b hd hj lP).2 hxP
    have := one_I hf (rgs k R S).length hj fun i hi h => rgs_one b hP (lP.trans hd.symm) hi hj ((inRg_iff b hd hi lP).1 h) hxP
    exact ⟨j, hj, this.1, this.2, hf⟩
  · intro h
    refine none_I _ fun j hj => ?_
    cases c : inRg k R S P d l j with
    | false => rfl
    | true =>
      have e := inRg_dims c
      subst e
      have lP : P.length = l := hl.symm
      have := rgs_sub k b hP (lP.trans hd.symm) _ (List.getElem_mem hj) ((inRg_iff b hd hj lP).1 c)
      rw [(hasB_in hd lP hr).2 this] at h
      cases h
theorem rg_order (b : BX R S) (hd : R.length = d) {P Q : List Int} {l l2 i j : Nat} (hP : inI P) (hl : l = P.length) (hQ : inI Q) (hl2 : l2 = Q.length) (hi : i < (rgs k R S).length) (hj : j < (rgs k R S).length) (h1 : inRg k R S P d l i = true) (h2 : inRg k R S Q d l2 j = true) (hij : i < j) : Cm.cmpL (code P) (code Q) < 0 := by
  have e1 := inRg_dims h1
  have e2 := inRg_dims h2
  subst e1
  have lP : P.length = l := hl.symm
  have lQ : Q.length = l := hl2.symm.trans e2
  subst e2
  have ho := List.pairwise_iff_getElem.1 (rgs_order k b) i j hi hj hij
  exact ho P Q hP hQ (lP.trans hd.symm) (lQ.trans hd.symm) ((inRg_iff b hd hi lP).1 h1) ((inRg_iff b hd hj lQ).1 h2)
end
theorem bvs_at : ∀ (l : List BV) (i : Nat) (b : BV), l[i]? = some b → (bvs l)[i * 2]? = some (.slice b.p b.n b.c) ∧ (bvs l)[i * 2 + 1]? = some (.slice b.q b.m b.e)
  | [], i, b, h => by simp at h
  | x :: l, 0, b, h => by
    simp at h
    subst h
    exact ⟨rfl, rfl⟩
  | x :: l, i + 1, b, h => by
    have ih := bvs_at l i b (by simpa using h)
    have e : bvs (x :: l) = .slice x.p x.n x.c :: .slice x.q x.m x.e :: bvs l := rfl
    rw [e, show (i + 1) * 2 = i * 2 + 1 + 1 from by omega]
    simpa using ih
/-- Where a told list's boxes lie. -/
theorem list_at {w : World} {base : Nat} {v : Value} {l : List BV} {k d : Nat} {R S : List Int} (ho : w.ownsRow base 26 2 v l.length (bvs l)) (hok : ∀ b ∈ l, b.ok w) (hm : l.map (fun b => (b.L, b.H)) = rgs k R S) (hb : BX R S) (hd : R.length = d) :
    ∃ g c, v = .slice (some ⟨g, 0, none⟩) (rgs k R S).length c ∧ ∀ i, i < (rgs k R S).length → ∃ p c1 q c2, ∀ w', Below w.heap.size w w' → w'.cell? ⟨g, i * 2, none⟩ = some (.slice p d c1) ∧ w'.cell? ⟨g, i * 2 + 1, none⟩ = some (.slice q d c2) ∧ Ints w' p d c1 (rgAt k R S i).1 ∧ Ints w' q d c2 (rgAt k R S i).2 := by
  have hlen : l.length = (rgs k R S).length := by rw [← hm, List.length_map]
  obtain ⟨g, c, rfl, -, hg, hcell⟩ := own_some ho (by rw [hlen]; exact rgs_pos k R S)
  refine ⟨g, c, by rw [hlen], fun i hi => ?_⟩
  have hi' : i < l.length := by omega
  have hb1 := List.getElem?_eq_getElem hi'
  obtain ⟨k1, k2⟩ := bvs_at l i _ hb1
  have c1 := hcell _ _ k1
  have c2 := hcell _ _ k2
  rw [Addr.add_mid, Nat.zero_add] at c1 c2
  obtain ⟨o1, o2⟩ := hok _ (List.getElem_mem hi')
  have hrg : rgAt k R S i = (l[i].L, l[i].H) := by
    rw [rgAt_get hi]
    simp only [← hm, List.getElem_map]
  obtain ⟨bx, hbl⟩ := rgs_bx k hb _ (List.getElem_mem hi)
  rw [← rgAt_get hi, hrg] at bx hbl
  have n1 : l[i].n = d := o1.size.trans (hbl.trans hd)
  have n2 : l[i].m = d := o2.size.trans (bx.len.trans (hbl.trans hd))
  rw [n1] at c1 o1
  rw [n2] at c2 o2
  rw [hrg]
  exact ⟨l[i].p, l[i].c, l[i].q, l[i].e, fun w' hw => ⟨(hw.cell (p := ⟨g, i * 2, none⟩) hg).trans c1, (hw.cell (p := ⟨g, i * 2 + 1, none⟩) hg).trans c2, o1.later hw, o2.later hw⟩⟩
end Go.Proofs.Ytbhpmigblkaihaa.Zr
