/- Proved: whatever two scripts it is handed, the Go function indenturelaw07.DiskCopies returns true (a copy has the same bytes, is alive without a fuse, and goes its own way), and each argument reads afterwards as it read before. Conditions: none beyond the given row's own. -/
import Derived.Test.YtjlkddfihpdnmaaM2
/- The law DiskCopies, over whatever disk keeps the contracts. -/
namespace Go.Proofs.Ytjlkddfihpdnmaa.Dk
open Go.RowKit

theorem Ops.facts {w : World} {go oo n c : Nat} {L : List Op} (h : Ops w (some ⟨go, oo, none⟩) n c L) {k : Nat} (hk : k < n) : ∃ t : Op, t.Ok w ∧ w.cell? ⟨go, oo + k * 5, none⟩ = some (.int .u8 t.kind) ∧ w.cell? ⟨go, oo + k * 5 + 1, none⟩ = some (.int .i64 t.i) ∧ w.cell? ⟨go, oo + k * 5 + 4, none⟩ = some (.int .i64 t.torn) := by
  obtain ⟨g, o, hp, hx⟩ := h.at' (by omega)
  cases hp
  obtain ⟨h1, h2⟩ := hx k hk
  exact ⟨_, h2, h1 0 _ rfl, h1 1 _ rfl, h1 4 _ rfl⟩
theorem Ops.some {w : World} {p : Option Addr} {n c : Nat} {L : List Op} (h : Ops w p n c L) (hn : n ≠ 0) : ∃ g o, p = some ⟨g, o, none⟩ := by
  obtain ⟨g, o, hp, _⟩ := h.at' hn
  exact ⟨g, o, hp⟩
variable {PD : World → Nat → (Nat → Prop) → D → Prop}
def C1 (PD : World → Nat → (Nat → Prop) → D → Prop) (w : World) (g n : Nat) (i : Value) (wr : World) : Prop :=
  ∃ (k : Nat) (P : Nat → Prop) (s : D), k ≤ n ∧ k ≤ 30 ∧ i = .int .i64 k ∧ Own PD w wr g P s ∧ s.n = 6 ∧ s.writes ≤ k
theorem calm_says {s : D} (hd : s.dead = false) (hl : s.left = -1) {i : Nat} (hi : i < s.n) : s.says i 64 = 0 := by
  simp [D.says, D.no, hd, hl, hi]
theorem calm_write {s : D} (hd : s.dead = false) (hl : s.left = -1) {i : Nat} (hi : i < s.n) {B : List Nat} (hB : B.length = 64) : (s.write i B).dead = false ∧ (s.write i B).left = -1 ∧ (s.write i B).n = s.n ∧ (s.write i B).writes = s.writes + 1 := by
  have e0 : s.no i B.length = 0 := by simp [D.no, hd, hB, hi]
  have e : s.write i B = s.put i B := by simp [D.write, e0]
  rw [e]
  exact ⟨by simp [D.put, hl], by simp [D.put, hl], rfl, rfl⟩
/-- The copy c goes its own way; the disk s stays, and so do the bytes that were told of it. -/
structure C2 (PD : World → Nat → (Nat → Prop) → D → Prop) (w wr : World) (g gc : Nat) (P Pc : Nat → Prop) (s sc : D) (p9 : Option Addr) (c9 k : Nat) : Prop where
  copy : Own PD w wr gc Pc sc
  n : sc.n = 6
  dead : sc.dead = false
  left : sc.left = -1
  few : sc.writes ≤ k
  disk : Own PD w wr g P s
  apart : ∀ k, P k → ¬ Pc k
  told : Safe wr Pc p9 384 c9 s.L
theorem C2.later (A : Api PD) {w wr w' : World} {g gc : Nat} {P Pc : Nat → Prop} {s sc : D} {p9 : Option Addr} {c9 k : Nat} (h : C2 PD w wr g gc P Pc s sc p9 c9 k) (hb : Below wr.heap.size wr w') : C2 PD w w' g gc P Pc s sc p9 c9 k :=
  ⟨h.copy.later A hb, h.n, h.dead, h.left, h.few, h.disk.later A hb, h.apart, h.told.later hb⟩
theorem C2.write (A : Api PD) {w wr w' : World} {g gc : Nat} {P Pc Pc' : Nat → Prop} {s sc : D} {p9 : Option Addr} {c9 k i : Nat} {B : List Nat} (h : C2 PD w wr g gc P Pc s sc p9 c9 k) (hi : i < 6) (hB : B.length = 64) (hd : PD w' gc Pc' (sc.write i B)) (hp : ∀ k, Pc' k → Pc k ∨ wr.heap.size ≤ k) (ho : Only Pc wr w') : C2 PD w w' g gc P Pc' s (sc.write i B) p9 c9 (k + 1) := by
  obtain ⟨a1, a2, a3, a4⟩ := calm_write h.dead h.left (i := i) (by rw [h.n]; exact hi) hB
  have hc := h.copy.turned hd hp ho
  have hf := h.few
  exact ⟨hc, a3.trans h.n, a1, a2, by omega, ⟨A.keep Pc h.disk.disk ho h.apart, h.disk.own, hc.low⟩, fun j hj hj' => by
    rcases hp j hj' with e | e
    · exact h.apart j hj e
    · have := A.lt h.disk.disk j hj
      omega, h.told.turned hp ho⟩
def C2R (PD : World → Nat → (Nat → Prop) → D → Prop) (w : World) (g gc : Nat) (P : Nat → Prop) (s : D) (p9 : Option Addr) (c9 m : Nat) (i : Value) (wr : World) : Prop :=
  ∃ (k : Nat) (Pc : Nat → Prop) (sc : D), k ≤ m ∧ k ≤ 30 ∧ i = .int .i64 k ∧ C2 PD w wr g gc P Pc s sc p9 c9 k
set_option maxRecDepth 100000 in
set_option maxHeartbeats 4000000 in
theorem copies_any (A : Api PD) (p q : Option Addr) (n c m d : Nat) (L M : List Op) (w : World) (hL : Ops w p n c L) (hM : Ops w q m d M) (hn : n ≤ 9223372036854775807) (hm : m ≤ 9223372036854775807) :
    Calls Try.prog 6 #[.slice p n c, .slice q m d] w fun e w' => e = .returned (.bool true) ∧ Below w.heap.size w w' := by
  have HL := Lib.hid hL
  have HM := Lib.hid hM
  have hnc := hL.le
  have hmd := hM.le
  clear hL hM
  go_enter Try.func6, Try.ntmps6
  go_wp2_with fail
  refine (alive_any A w).mono ?_
  rintro e w1 ⟨rfl, b1⟩
  have B1 := Lib.hid b1
  clear b1
  go_wp2_with fail
  refine (A.new 6 w1 (by omega) (by omega)).mono ?_
  rintro e w2 ⟨g, P, rfl, d2, p2, b2⟩
  have O2 := Lib.hid (show Own PD w w2 g P (D.new 6) from ⟨d2, fun k hk => Nat.le_trans B1.out.size (p2 k hk), B1.out.trans (b2.mono B1.out.size)⟩)
  clear d2 p2 b2 B1
  go_wp2_with fail
  go_loopw [7] (fun i wr => C1 PD w g n i wr) (fun i _ => 30 - (intOf i).toNat)
  case atStart => exact ⟨0, P, _, by omega, by omega, rfl, O2.out, rfl, Nat.le_refl _⟩
  case round =>
    obtain ⟨k, P, s, hk, hk30, rfl, hO, hs6, hsw⟩ := hrel
    have HO := Lib.hid hO
    clear hO
    by_cases hlt : k < n
    · have l1 : (k : Int) < n := by omega
      by_cases hlt2 : k < 30
      · have l2 : (k : Int) < 30 := by omega
        obtain ⟨go, oo, rfl⟩ := HL.out.some (by omega)
        obtain ⟨t, tok, c0, c1, c4⟩ := HL.out.facts hlt
        have cell : ∀ {a : Addr} {v : Value}, w.cell? a = some v → wr.cell? a = some v := fun h => (HO.out.low.cell (block_lt_of_cell h)).trans h
        have e1 := c1
        have e4 := c4
        have c0 := cell c0
        have c1 := cell c1
        have c4 := cell c4
        clear cell
        have i1 : (0 : Int) ≤ k ∧ (k : Int) < n := by omega
        have TOK := Lib.hid tok
        have hkind := tok.kind
        have t8 : (t.kind : Int).tmod 8 = ((t.kind % 8 : Nat) : Int) := by rw [Int.tmod_eq_emod_of_nonneg (by omega)]; omega
        clear tok
        have hr8 : t.kind % 8 < 8 := by omega
        generalize t.kind % 8 = r at *
        by_cases h6 : r = 6
        · subst h6
          go_wp2_with fail
          go_still_tail 11, (by kernel_rfl)
          have HO := Lib.hid (HO.out.later A (Below.refl _ _).drew)
          go_wp2_with fail
          refine (A.fuse t.i t.torn HO.out.disk (by have := TOK.out.i; omega)).mono ?_
          rintro e w3 ⟨rfl, ⟨P3, d3, p3⟩, o3⟩
          have O3 := Lib.hid (HO.out.turned d3 p3 o3)
          clear d3 p3 o3
          go_wp2_with fail
          go_roundw
          case rel => exact ⟨k + 1, P3, _, by omega, by omega, by go_num, O3.out, by rw [(s.fuse_n _ _).1]; exact hs6, by rw [(s.fuse_n _ _).2]; omega⟩
          case measure => simp [intOf]; omega
        · by_cases h7 : r = 7
          · subst h7
            go_wp2_with fail
            refine (A.wake HO.out.disk).mono ?_
            rintro e w3 ⟨rfl, ⟨P3, d3, p3⟩, o3⟩
            have O3 := Lib.hid (HO.out.turned d3 p3 o3)
            clear d3 p3 o3
            go_wp2_with fail
            go_roundw
            case rel => exact ⟨k + 1, P3, _, by omega, by omega, by go_num, O3.out, by exact hs6, by show s.writes ≤ k + 1; omega⟩
            case measure => simp [intOf]; omega
          · have r6 : ((r : Int) == 6) = false := by simp; omega
            have r7 : ((r : Int) == 7) = false := by simp; omega
            obtain ⟨x, hx, hx8⟩ : ∃ x : Nat, IntKind.u8.wrap t.torn = (x : Int) ∧ x < 256 := ⟨(IntKind.u8.wrap t.torn).toNat, by rw [IntKind.wrap_u8']; omega, by rw [IntKind.wrap_u8']; omega⟩
            have HOD := Lib.hid (HO.out.later A (Below.refl _ _).drew)
            have KC : ∀ w', Below w.heap.size w w' → Below w.heap.size w w' ∧ w'.cell? ⟨go, oo + k * 5 + 1, none⟩ = some (.int .i64 t.i) ∧ w'.cell? ⟨go, oo + k * 5 + 4, none⟩ = some (.int .i64 t.torn) := fun w' hb => ⟨hb, (hb.cell (block_lt_of_cell e1)).trans e1, (hb.cell (block_lt_of_cell e4)).trans e4⟩
            have HK := Lib.hid KC
            have hwn := s.write_n t.i (List.replicate 64 x)
            have ND : ∀ k, P k → k < wr.drew.heap.size := A.lt HOD.out.disk
            have HND := Lib.hid ND
            clear KC ND e1 e4
            go_wp2_with fail
            go_region_held3 (fun w' => Below w.heap.size w w' ∧ w'.cell? ⟨go, oo + k * 5 + 1, none⟩ = some (.int .i64 t.i) ∧ w'.cell? ⟨go, oo + k * 5 + 4, none⟩ = some (.int .i64 t.torn)) (first | assumption | exact HK.out _ HOD.out.low | exact HK.out _ (Own.low HO.out)) ((first
              | (go_at_call 22; refine (sector_any x wr.drew hx8).mono ?_; rintro _ w3 ⟨rfl, r3, b3⟩; have O3 := Lib.hid (HOD.out.later A b3); have T3 := Lib.hid (sector_tx r3 hx8); have N3 := Lib.hid (show ¬ P wr.drew.heap.size from fun e => Nat.lt_irrefl _ (HND.out _ e)); have k3 := HK.out _ O3.out.low; clear r3 b3)
              | (go_at_call 17; refine (A.write t.i (List.replicate 64 x) _ 64 64 O3.out.disk T3.out (fun x hx => by cases hx; exact N3.out) (by omega)).mono ?_; rintro _ w4 ⟨rfl, ⟨P4, d4, p4⟩, o4⟩; have O4 := Lib.hid (O3.out.turned d4 p4 o4); have k4 := HK.out _ O4.out.low; clear d4 p4 o4)))
            go_wp2_with fail
            go_roundw
            case rel => exact ⟨k + 1, P4, _, by omega, by omega, by go_num, O4.out, by rw [hwn.1]; exact hs6, by omega⟩
            case measure => simp [intOf]; omega
      · obtain rfl : k = 30 := by omega
        have hs := (A.ok HO.out.disk).len
        rw [hs6] at hs
        go_wp2_with fail
        refine (A.copy HO.out.disk).mono ?_
        rintro e w3 ⟨gc, Pc, tt, htt, rfl, dc, pc, bc⟩
        have OD := Lib.hid (HO.out.later A bc)
        have OC := Lib.hid (show Own PD w w3 gc Pc (s.copy tt) from ⟨dc, fun k hk => Nat.le_trans HO.out.low.size (pc k hk), OD.out.low⟩)
        have DJ := Lib.hid (show ∀ k, P k → ¬ Pc k from fun k hk hc => by have := A.lt HO.out.disk k hk; have := pc k hc; omega)
        clear dc pc bc
        go_wp2_with fail
        refine (A.all OD.out.disk).mono ?_
        rintro e w4 ⟨p9, c9, rfl, m9, b9⟩
        rw [hs6] at m9
        rw [hs6]
        have S9 := Lib.hid (m9.safe (P := Pc) (A.lt OC.out.disk))
        have OD4 := Lib.hid (OD.out.later A b9)
        have OC4 := Lib.hid (OC.out.later A b9)
        clear m9 b9 OD OC
        go_wp2_with fail
        refine (A.dead OD4.out.disk).mono ?_
        rintro e w6 ⟨rfl, b6⟩
        have OD6 := Lib.hid (OD4.out.later A b6)
        have OC6 := Lib.hid (OC4.out.later A b6)
        have S6 := Lib.hid (S9.out.later b6)
        have HT := Lib.hid S6.out.mine.tx
        clear b6 OD4 OC4 S9
        have HALL := Lib.hid (show ∀ w', Below w6.heap.size w6 w' → Calls Try.prog 21 #[.pointer (some ⟨gc, 0, none⟩)] w' fun e w'' => ∃ p c, e = .returned (.slice p 384 c) ∧ Tx w'' p 384 c s.L ∧ Below w6.heap.size w6 w'' from fun w' hb => by have h := all_tx A OC6.out hb; rw [show (s.copy tt).n = 6 from hs6] at h; exact h)
        have HDEAD := Lib.hid (show ∀ w', Below w6.heap.size w6 w' → Calls Try.prog 19 #[.pointer (some ⟨gc, 0, none⟩)] w' fun e w'' => e = .returned (.bool false) ∧ Below w'.heap.size w' w'' from fun w' hb => dead_at A OC6.out hb)
        have HWR := Lib.hid (show ∀ w', Below w6.heap.size w6 w' → Calls Try.prog 20 #[.pointer (some ⟨gc, 0, none⟩)] w' fun e w'' => e = .returned (.int .i64 0) ∧ Below w'.heap.size w' w'' from fun w' hb => writes_at A OC6.out hb)
        have HLEN := Lib.hid (show ∀ w', Below w6.heap.size w6 w' → Calls Try.prog 10 #[.pointer (some ⟨gc, 0, none⟩)] w' fun e w'' => e = .returned (.int .i64 6) ∧ Below w'.heap.size w' w'' from fun w' hb => by have h := len_at A OC6.out hb; rw [show (s.copy tt).n = 6 from hs6] at h; exact h)
        go_upto_region 15 with fail
        refine wp_region_held_drew (S := fun w' => Below w6.heap.size w6 w') (by kernel_rfl) (Below.refl _ _).drew (fun hHeld => ?_)
        refine wpAnyH_take (i := 0) (oi := ⟨some 73, .move (.tmp 8), _, _, _, _⟩) (v := ?_) rfl (by kernel_rfl) (by kernel_rfl) (by kernel_rfl) (fun _ _ _ h => h) (Or.inl ⟨by rfl, ?_⟩) (by assumption) ?_
        rotate_left
        · intro w' hSw
          go_simp
          try with_reducible rfl
        try simp only [Act.put, List.setIfInBounds_toArray, List.set_cons_zero, List.set_cons_succ]
        refine wpAnyH_take (i := 3) (oi := ⟨some 76, .move (.tmp 9), _, _, _, _⟩) (v := ?_) rfl (by kernel_rfl) (by kernel_rfl) (by kernel_rfl) (fun _ _ _ h => h) (Or.inl ⟨by rfl, ?_⟩) (by assumption) ?_
        rotate_left
        · intro w' hSw
          go_simp
          try with_reducible rfl
        try simp only [Act.put, List.setIfInBounds_toArray, List.set_cons_zero, List.set_cons_succ]
        refine wpAnyH_take (i := 4) (oi := ⟨some 77, .convert 31 9 (.tmp 76), _, _, _, _⟩) (v := ?_) rfl (by kernel_rfl) (by kernel_rfl) (by kernel_rfl) (fun _ _ _ h => h) (Or.inl ⟨by rfl, ?_⟩) (by assumption) ?_
        rotate_left
        · intro w' hSw
          have hcv := convert_tx (HT.out.later hSw)
          go_simp
          try with_reducible rfl
        try simp only [Act.put, List.setIfInBounds_toArray, List.set_cons_zero, List.set_cons_succ]
        refine wpAnyH_ready (rs := [1]) (by kernel_rfl) (by simp) ?_
        refine AllReadyH.cons (o := ⟨some 74, .call ⟨.value (.func 21), #[.tmp 73], #[24]⟩, _, _, _, _⟩) rfl (fun K hK => ?_) AllReadyH.nil
        go_simp
        with_reducible refine (HALL.out _ ?hx).mono ?_
        case hx => exact hHeld
        rintro _ w74 ⟨pa, ca, rfl, hta, hS74⟩
        try go_wp2_with fail
        refine hK.out _ _ hS74 (fun hHeld => ?_)
        clear hK K
        try simp only [Act.put, List.setIfInBounds_toArray, List.set_cons_zero, List.set_cons_succ]
        refine wpAnyH_mono (S' := fun w' => Below w6.heap.size w6 w' ∧ Tx w' pa 384 ca s.L) (fun _ h => h.1) _ _ _ _ ?_
        have hHeld : Below w6.heap.size w6 w74 ∧ Tx w74 pa 384 ca s.L := ⟨hS74, hta⟩
        refine wpAnyH_take (i := 2) (oi := ⟨some 75, .convert 31 9 (.tmp 74), _, _, _, _⟩) (v := ?_) rfl (by kernel_rfl) (by kernel_rfl) (by kernel_rfl) (fun _ _ _ h => h) (Or.inl ⟨by rfl, ?_⟩) (by assumption) ?_
        rotate_left
        · intro w' hSw
          have hcv := convert_tx hSw.2
          go_simp
          try with_reducible rfl
        try simp only [Act.put, List.setIfInBounds_toArray, List.set_cons_zero, List.set_cons_succ]
        refine wpAnyH_take (i := 5) (oi := ⟨some 78, .binOp .neq 9 (.tmp 75) (.tmp 77) 9, _, _, _, _⟩) (v := ?_) rfl (by kernel_rfl) (by kernel_rfl) (by kernel_rfl) (fun _ _ _ h => h) (Or.inl ⟨by rfl, ?_⟩) (by assumption) ?_
        rotate_left
        · intro w' hSw
          go_simp
          try with_reducible rfl
        try simp only [Act.put, List.setIfInBounds_toArray, List.set_cons_zero, List.set_cons_succ]
        refine wpAnyH_take (i := 6) (oi := ⟨some 79, .move (.tmp 78), _, _, _, _⟩) (v := ?_) rfl (by kernel_rfl) (by kernel_rfl) (by kernel_rfl) (fun _ _ _ h => h) (Or.inl ⟨by rfl, ?_⟩) (by assumption) ?_
        rotate_left
        · intro w' hSw
          go_simp
          try with_reducible rfl
        try simp only [Act.put, List.setIfInBounds_toArray, List.set_cons_zero, List.set_cons_succ]
        refine wpAnyH_take (i := 7) (oi := ⟨some 80, .move (.tmp 8), _, _, _, _⟩) (v := ?_) rfl (by kernel_rfl) (by kernel_rfl) (by kernel_rfl) (fun _ _ _ h => h) (Or.inl ⟨by rfl, ?_⟩) (by assumption) ?_
        rotate_left
        · intro w' hSw
          go_simp
          try with_reducible rfl
        try simp only [Act.put, List.setIfInBounds_toArray, List.set_cons_zero, List.set_cons_succ]
        refine wpAnyH_ready (rs := [8]) (by kernel_rfl) (by simp) ?_
        refine AllReadyH.cons (o := ⟨some 81, .call ⟨.value (.func 19), #[.tmp 80], #[24]⟩, _, _, _, _⟩) rfl (fun K hK => ?_) AllReadyH.nil
        go_simp
        with_reducible refine (HDEAD.out _ ?hx).mono ?_
        case hx => exact hHeld.1
        rintro _ w81 ⟨rfl, hb81⟩
        have hS81 : Below w6.heap.size w6 w81 ∧ Tx w81 pa 384 ca s.L := ⟨hHeld.1.trans (hb81.mono hHeld.1.size), hHeld.2.later hb81⟩
        try go_wp2_with fail
        refine hK.out _ _ hS81 (fun hHeld => ?_)
        clear hK K
        try simp only [Act.put, List.setIfInBounds_toArray, List.set_cons_zero, List.set_cons_succ]
        refine wpAnyH_take (i := 9) (oi := ⟨some 82, .pick (.tmp 79) (.const (.bool true)) (.tmp 81), _, _, _, _⟩) (v := ?_) rfl (by kernel_rfl) (by kernel_rfl) (by kernel_rfl) (fun _ _ _ h => h) (Or.inl ⟨by rfl, ?_⟩) (by assumption) ?_
        rotate_left
        · intro w' hSw
          go_simp
          try with_reducible rfl
        try simp only [Act.put, List.setIfInBounds_toArray, List.set_cons_zero, List.set_cons_succ]
        refine wpAnyH_take (i := 10) (oi := ⟨some 83, .move (.tmp 82), _, _, _, _⟩) (v := ?_) rfl (by kernel_rfl) (by kernel_rfl) (by kernel_rfl) (fun _ _ _ h => h) (Or.inl ⟨by rfl, ?_⟩) (by assumption) ?_
        rotate_left
        · intro w' hSw
          go_simp
          try with_reducible rfl
        try simp only [Act.put, List.setIfInBounds_toArray, List.set_cons_zero, List.set_cons_succ]
        refine wpAnyH_take (i := 11) (oi := ⟨some 84, .move (.tmp 8), _, _, _, _⟩) (v := ?_) rfl (by kernel_rfl) (by kernel_rfl) (by kernel_rfl) (fun _ _ _ h => h) (Or.inl ⟨by rfl, ?_⟩) (by assumption) ?_
        rotate_left
        · intro w' hSw
          go_simp
          try with_reducible rfl
        try simp only [Act.put, List.setIfInBounds_toArray, List.set_cons_zero, List.set_cons_succ]
        refine wpAnyH_ready (rs := [12]) (by kernel_rfl) (by simp) ?_
        refine AllReadyH.cons (o := ⟨some 85, .call ⟨.value (.func 20), #[.tmp 84], #[24]⟩, _, _, _, _⟩) rfl (fun K hK => ?_) AllReadyH.nil
        go_simp
        with_reducible refine (HWR.out _ ?hx).mono ?_
        case hx => exact hHeld.1
        rintro _ w85 ⟨rfl, hb85⟩
        have hS85 : Below w6.heap.size w6 w85 ∧ Tx w85 pa 384 ca s.L := ⟨hHeld.1.trans (hb85.mono hHeld.1.size), hHeld.2.later hb85⟩
        try go_wp2_with fail
        refine hK.out _ _ hS85 (fun hHeld => ?_)
        clear hK K
        try simp only [Act.put, List.setIfInBounds_toArray, List.set_cons_zero, List.set_cons_succ]
        refine wpAnyH_take (i := 13) (oi := ⟨some 86, .binOp .neq 3 (.tmp 85) (.const (.int .i64 0)) 3, _, _, _, _⟩) (v := ?_) rfl (by kernel_rfl) (by kernel_rfl) (by kernel_rfl) (fun _ _ _ h => h) (Or.inl ⟨by rfl, ?_⟩) (by assumption) ?_
        rotate_left
        · intro w' hSw
          go_simp
          try with_reducible rfl
        try simp only [Act.put, List.setIfInBounds_toArray, List.set_cons_zero, List.set_cons_succ]
        refine wpAnyH_take (i := 14) (oi := ⟨some 87, .pick (.tmp 83) (.const (.bool true)) (.tmp 86), _, _, _, _⟩) (v := ?_) rfl (by kernel_rfl) (by kernel_rfl) (by kernel_rfl) (fun _ _ _ h => h) (Or.inl ⟨by rfl, ?_⟩) (by assumption) ?_
        rotate_left
        · intro w' hSw
          go_simp
          try with_reducible rfl
        try simp only [Act.put, List.setIfInBounds_toArray, List.set_cons_zero, List.set_cons_succ]
        refine wpAnyH_take (i := 15) (oi := ⟨some 88, .move (.tmp 87), _, _, _, _⟩) (v := ?_) rfl (by kernel_rfl) (by kernel_rfl) (by kernel_rfl) (fun _ _ _ h => h) (Or.inl ⟨by rfl, ?_⟩) (by assumption) ?_
        rotate_left
        · intro w' hSw
          go_simp
          try with_reducible rfl
        try simp only [Act.put, List.setIfInBounds_toArray, List.set_cons_zero, List.set_cons_succ]
        refine wpAnyH_take (i := 16) (oi := ⟨some 89, .move (.tmp 8), _, _, _, _⟩) (v := ?_) rfl (by kernel_rfl) (by kernel_rfl) (by kernel_rfl) (fun _ _ _ h => h) (Or.inl ⟨by rfl, ?_⟩) (by assumption) ?_
        rotate_left
        · intro w' hSw
          go_simp
          try with_reducible rfl
        try simp only [Act.put, List.setIfInBounds_toArray, List.set_cons_zero, List.set_cons_succ]
        refine wpAnyH_ready (rs := [17]) (by kernel_rfl) (by simp) ?_
        refine AllReadyH.cons (o := ⟨some 90, .call ⟨.value (.func 10), #[.tmp 89], #[24]⟩, _, _, _, _⟩) rfl (fun K hK => ?_) AllReadyH.nil
        go_simp
        with_reducible refine (HLEN.out _ ?hx).mono ?_
        case hx => exact hHeld.1
        rintro _ w90 ⟨rfl, hb90⟩
        have hS90 : Below w6.heap.size w6 w90 ∧ Tx w90 pa 384 ca s.L := ⟨hHeld.1.trans (hb90.mono hHeld.1.size), hHeld.2.later hb90⟩
        try go_wp2_with fail
        refine hK.out _ _ hS90 (fun hHeld => ?_)
        clear hK K
        try simp only [Act.put, List.setIfInBounds_toArray, List.set_cons_zero, List.set_cons_succ]
        refine wpAnyH_take (i := 18) (oi := ⟨some 91, .binOp .neq 3 (.tmp 90) (.const (.int .i64 6)) 3, _, _, _, _⟩) (v := ?_) rfl (by kernel_rfl) (by kernel_rfl) (by kernel_rfl) (fun _ _ _ h => h) (Or.inl ⟨by rfl, ?_⟩) (by assumption) ?_
        rotate_left
        · intro w' hSw
          go_simp
          try with_reducible rfl
        try simp only [Act.put, List.setIfInBounds_toArray, List.set_cons_zero, List.set_cons_succ]
        refine wpAnyH_take (i := 19) (oi := ⟨some 92, .pick (.tmp 88) (.const (.bool true)) (.tmp 91), _, _, _, _⟩) (v := ?_) rfl (by kernel_rfl) (by kernel_rfl) (by kernel_rfl) (fun _ _ _ h => h) (Or.inl ⟨by rfl, ?_⟩) (by assumption) ?_
        rotate_left
        · intro w' hSw
          go_simp
          try with_reducible rfl
        try simp only [Act.put, List.setIfInBounds_toArray, List.set_cons_zero, List.set_cons_succ]
        refine wpAnyH_done (by kernel_rfl) ?_ _
        have hC0 := Lib.hid (show C2 PD w w90 g gc P Pc s (s.copy tt) p9 c9 0 from ⟨OC6.out.later A hS90.1, hs6, rfl, rfl, Nat.le_refl _, OD6.out.later A hS90.1, DJ.out, S6.out.later hS90.1⟩)
        clear hS90 hHeld OC6 OD6 S6 HT HALL HDEAD HWR HLEN
        go_wp2_with fail
        go_loopw [11] (fun i wr => C2R PD w g gc P s p9 c9 m i wr) (fun i _ => 30 - (intOf i).toNat)
        case atStart => exact ⟨0, Pc, _, by omega, by omega, rfl, hC0.out⟩
        case round =>
          obtain ⟨k, Px, sc, hk, hk30, rfl, hC⟩ := hrel
          have HC := Lib.hid hC
          clear hC
          by_cases hlt : k < m
          · have l1 : (k : Int) < m := by omega
            by_cases hlt2 : k < 30
            · have l2 : (k : Int) < 30 := by omega
              obtain ⟨go, oo, rfl⟩ := HM.out.some (by omega)
              obtain ⟨t, tok, c0, c1, c4⟩ := HM.out.facts hlt
              have c1 := (HC.out.copy.low.cell (block_lt_of_cell c1)).trans c1
              have c4 := (HC.out.copy.low.cell (block_lt_of_cell c4)).trans c4
              have i1 : (0 : Int) ≤ k ∧ (k : Int) < m := by omega
              clear tok c0
              obtain ⟨x, hx, hx8⟩ : ∃ x : Nat, IntKind.u8.wrap t.torn = (x : Int) ∧ x < 256 := ⟨(IntKind.u8.wrap t.torn).toNat, by rw [IntKind.wrap_u8']; omega, by rw [IntKind.wrap_u8']; omega⟩
              obtain ⟨y, hy⟩ : ∃ y : Nat, IntKind.u64.wrap t.i = (y : Int) := ⟨(IntKind.u64.wrap t.i).toNat, by rw [IntKind.wrap_u64]; omega⟩
              have t6 : (y : Int).tmod 6 = ((y % 6 : Nat) : Int) := by rw [Int.tmod_eq_emod_of_nonneg (by omega)]; omega
              have hy6 : y % 6 < 6 := by omega
              generalize y % 6 = z at *
              have t7 : IntKind.i64.wrap (z : Int) = z := IntWalk.i64_in _ (by omega)
              have t8 : IntKind.u64.wrap (z : Int) = z := by rw [IntKind.wrap_u64]; omega
              go_wp2_with fail
              refine (sector_any x wr hx8).mono ?_
              rintro e w93 ⟨rfl, r3, b3⟩
              have HC3 := Lib.hid (HC.out.later A b3)
              have T3 := Lib.hid (sector_tx r3 hx8)
              have N3 : ¬ Px wr.heap.size := fun e => Nat.lt_irrefl _ (A.lt HC.out.copy.disk _ e)
              clear r3 b3
              generalize wr.heap.size = gb at *
              go_wp2_with fail
              refine (A.write z (List.replicate 64 x) _ 64 64 HC3.out.copy.disk T3.out (fun x hx => by cases hx; exact N3) (by have := HC3.out.few; omega)).mono ?_
              rintro e w94 ⟨rfl, ⟨P4, d4, p4⟩, o4⟩
              have hsay := calm_says HC3.out.dead HC3.out.left (i := z) (by rw [HC3.out.n]; exact hy6)
              rw [hsay]
              have HC4 := Lib.hid (HC3.out.write A hy6 (by simp) d4 p4 o4)
              clear d4 p4 o4 hsay
              go_wp2_with fail
              go_roundw
              case rel => exact ⟨k + 1, P4, _, by omega, by omega, by go_num, HC4.out⟩
              case measure => simp [intOf]; omega
            · obtain rfl : k = 30 := by omega
              have HT := Lib.hid HC.out.told.mine.tx
              have HD := Lib.hid HC.out.disk
              have HALL := Lib.hid (show ∀ w', Below wr.heap.size wr w' → Calls Try.prog 21 #[.pointer (some ⟨g, 0, none⟩)] w' fun e w'' => ∃ p c, e = .returned (.slice p 384 c) ∧ Tx w'' p 384 c s.L ∧ Below wr.heap.size wr w'' from fun w' hb => by have h := all_tx A HD.out hb; rw [hs6] at h; exact h)
              have HDEAD := Lib.hid (show ∀ w', Below wr.heap.size wr w' → Calls Try.prog 19 #[.pointer (some ⟨g, 0, none⟩)] w' fun e w'' => e = .returned (.bool s.dead) ∧ Below w'.heap.size w' w'' from fun w' hb => dead_at A HD.out hb)
              go_upto_region 23 with fail
              refine wp_region_held_drew (S := fun w' => Below wr.heap.size wr w') (by kernel_rfl) (Below.refl _ _).drew (fun hHeld => ?_)
              refine wpAnyH_take (i := 0) (oi := ⟨some 122, .move (.tmp 5), _, _, _, _⟩) (v := ?_) rfl (by kernel_rfl) (by kernel_rfl) (by kernel_rfl) (fun _ _ _ h => h) (Or.inl ⟨by rfl, ?_⟩) (by assumption) ?_
              rotate_left
              · intro w' hSw
                go_simp
                try with_reducible rfl
              try simp only [Act.put, List.setIfInBounds_toArray, List.set_cons_zero, List.set_cons_succ]
              refine wpAnyH_take (i := 3) (oi := ⟨some 125, .move (.tmp 9), _, _, _, _⟩) (v := ?_) rfl (by kernel_rfl) (by kernel_rfl) (by kernel_rfl) (fun _ _ _ h => h) (Or.inl ⟨by rfl, ?_⟩) (by assumption) ?_
              rotate_left
              · intro w' hSw
                go_simp
                try with_reducible rfl
              try simp only [Act.put, List.setIfInBounds_toArray, List.set_cons_zero, List.set_cons_succ]
              refine wpAnyH_take (i := 4) (oi := ⟨some 126, .convert 31 9 (.tmp 125), _, _, _, _⟩) (v := ?_) rfl (by kernel_rfl) (by kernel_rfl) (by kernel_rfl) (fun _ _ _ h => h) (Or.inl ⟨by rfl, ?_⟩) (by assumption) ?_
              rotate_left
              · intro w' hSw
                have hcv := convert_tx (HT.out.later hSw)
                go_simp
                try with_reducible rfl
              try simp only [Act.put, List.setIfInBounds_toArray, List.set_cons_zero, List.set_cons_succ]
              refine wpAnyH_ready (rs := [1]) (by kernel_rfl) (by simp) ?_
              refine AllReadyH.cons (o := ⟨some 123, .call ⟨.value (.func 21), #[.tmp 122], #[24]⟩, _, _, _, _⟩) rfl (fun K hK => ?_) AllReadyH.nil
              go_simp
              with_reducible refine (HALL.out _ ?hx).mono ?_
              case hx => exact hHeld
              rintro _ w123 ⟨pa, ca, rfl, hta, hS123⟩
              try go_wp2_with fail
              refine hK.out _ _ hS123 (fun hHeld => ?_)
              clear hK K
              try simp only [Act.put, List.setIfInBounds_toArray, List.set_cons_zero, List.set_cons_succ]
              refine wpAnyH_mono (S' := fun w' => Below wr.heap.size wr w' ∧ Tx w' pa 384 ca s.L) (fun _ h => h.1) _ _ _ _ ?_
              have hHeld : Below wr.heap.size wr w123 ∧ Tx w123 pa 384 ca s.L := ⟨hS123, hta⟩
              refine wpAnyH_take (i := 2) (oi := ⟨some 124, .convert 31 9 (.tmp 123), _, _, _, _⟩) (v := ?_) rfl (by kernel_rfl) (by kernel_rfl) (by kernel_rfl) (fun _ _ _ h => h) (Or.inl ⟨by rfl, ?_⟩) (by assumption) ?_
              rotate_left
              · intro w' hSw
                have hcv := convert_tx hSw.2
                go_simp
                try with_reducible rfl
              try simp only [Act.put, List.setIfInBounds_toArray, List.set_cons_zero, List.set_cons_succ]
              refine wpAnyH_take (i := 5) (oi := ⟨some 127, .binOp .eql 9 (.tmp 124) (.tmp 126) 9, _, _, _, _⟩) (v := ?_) rfl (by kernel_rfl) (by kernel_rfl) (by kernel_rfl) (fun _ _ _ h => h) (Or.inl ⟨by rfl, ?_⟩) (by assumption) ?_
              rotate_left
              · intro w' hSw
                go_simp
                try with_reducible rfl
              try simp only [Act.put, List.setIfInBounds_toArray, List.set_cons_zero, List.set_cons_succ]
              refine wpAnyH_take (i := 6) (oi := ⟨some 128, .move (.tmp 127), _, _, _, _⟩) (v := ?_) rfl (by kernel_rfl) (by kernel_rfl) (by kernel_rfl) (fun _ _ _ h => h) (Or.inl ⟨by rfl, ?_⟩) (by assumption) ?_
              rotate_left
              · intro w' hSw
                go_simp
                try with_reducible rfl
              try simp only [Act.put, List.setIfInBounds_toArray, List.set_cons_zero, List.set_cons_succ]
              refine wpAnyH_take (i := 7) (oi := ⟨some 129, .move (.tmp 5), _, _, _, _⟩) (v := ?_) rfl (by kernel_rfl) (by kernel_rfl) (by kernel_rfl) (fun _ _ _ h => h) (Or.inl ⟨by rfl, ?_⟩) (by assumption) ?_
              rotate_left
              · intro w' hSw
                go_simp
                try with_reducible rfl
              try simp only [Act.put, List.setIfInBounds_toArray, List.set_cons_zero, List.set_cons_succ]
              refine wpAnyH_take (i := 9) (oi := ⟨some 131, .move (.tmp 10), _, _, _, _⟩) (v := ?_) rfl (by kernel_rfl) (by kernel_rfl) (by kernel_rfl) (fun _ _ _ h => h) (Or.inl ⟨by rfl, ?_⟩) (by assumption) ?_
              rotate_left
              · intro w' hSw
                go_simp
                try with_reducible rfl
              try simp only [Act.put, List.setIfInBounds_toArray, List.set_cons_zero, List.set_cons_succ]
              refine wpAnyH_ready (rs := [8]) (by kernel_rfl) (by simp) ?_
              refine AllReadyH.cons (o := ⟨some 130, .call ⟨.value (.func 19), #[.tmp 129], #[24]⟩, _, _, _, _⟩) rfl (fun K hK => ?_) AllReadyH.nil
              go_simp
              with_reducible refine (HDEAD.out _ ?hx).mono ?_
              case hx => exact hHeld.1
              rintro _ w130 ⟨rfl, hb130⟩
              have hS130 : Below wr.heap.size wr w130 ∧ Tx w130 pa 384 ca s.L := ⟨hHeld.1.trans (hb130.mono hHeld.1.size), hHeld.2.later hb130⟩
              try go_wp2_with fail
              refine hK.out _ _ hS130 (fun hHeld => ?_)
              clear hK K
              try simp only [Act.put, List.setIfInBounds_toArray, List.set_cons_zero, List.set_cons_succ]
              refine wpAnyH_take (i := 10) (oi := ⟨some 132, .binOp .eql 4 (.tmp 130) (.tmp 131) 4, _, _, _, _⟩) (v := ?_) rfl (by kernel_rfl) (by kernel_rfl) (by kernel_rfl) (fun _ _ _ h => h) (Or.inl ⟨by rfl, ?_⟩) (by assumption) ?_
              rotate_left
              · intro w' hSw
                go_simp
                try with_reducible rfl
              try simp only [Act.put, List.setIfInBounds_toArray, List.set_cons_zero, List.set_cons_succ]
              refine wpAnyH_take (i := 11) (oi := ⟨some 133, .pick (.tmp 128) (.tmp 132) (.const (.bool false)), _, _, _, _⟩) (v := ?_) rfl (by kernel_rfl) (by kernel_rfl) (by kernel_rfl) (fun _ _ _ h => h) (Or.inl ⟨by rfl, ?_⟩) (by assumption) ?_
              rotate_left
              · intro w' hSw
                go_simp
                try with_reducible rfl
              try simp only [Act.put, List.setIfInBounds_toArray, List.set_cons_zero, List.set_cons_succ]
              refine wpAnyH_take (i := 12) (oi := ⟨some 4, .assign (.tmp 133), _, _, _, _⟩) (v := ?_) rfl (by kernel_rfl) (by kernel_rfl) (by kernel_rfl) (fun _ _ _ h => h) (Or.inl ⟨by rfl, ?_⟩) (by assumption) ?_
              rotate_left
              · intro w' hSw
                go_simp
                try with_reducible rfl
              try simp only [Act.put, List.setIfInBounds_toArray, List.set_cons_zero, List.set_cons_succ]
              refine wpAnyH_done (by kernel_rfl) ?_ _
              go_wp2_with fail
              go_ret
              exact ⟨by simp, HD.out.low.trans (hS130.1.mono HD.out.low.size)⟩
          · obtain rfl : k = m := by omega
            have HT := Lib.hid HC.out.told.mine.tx
            have HD := Lib.hid HC.out.disk
            have HALL := Lib.hid (show ∀ w', Below wr.heap.size wr w' → Calls Try.prog 21 #[.pointer (some ⟨g, 0, none⟩)] w' fun e w'' => ∃ p c, e = .returned (.slice p 384 c) ∧ Tx w'' p 384 c s.L ∧ Below wr.heap.size wr w'' from fun w' hb => by have h := all_tx A HD.out hb; rw [hs6] at h; exact h)
            have HDEAD := Lib.hid (show ∀ w', Below wr.heap.size wr w' → Calls Try.prog 19 #[.pointer (some ⟨g, 0, none⟩)] w' fun e w'' => e = .returned (.bool s.dead) ∧ Below w'.heap.size w' w'' from fun w' hb => dead_at A HD.out hb)
            go_upto_region 23 with fail
            refine wp_region_held_drew (S := fun w' => Below wr.heap.size wr w') (by kernel_rfl) (Below.refl _ _).drew (fun hHeld => ?_)
            refine wpAnyH_take (i := 0) (oi := ⟨some 122, .move (.tmp 5), _, _, _, _⟩) (v := ?_) rfl (by kernel_rfl) (by kernel_rfl) (by kernel_rfl) (fun _ _ _ h => h) (Or.inl ⟨by rfl, ?_⟩) (by assumption) ?_
            rotate_left
            · intro w' hSw
              go_simp
              try with_reducible rfl
            try simp only [Act.put, List.setIfInBounds_toArray, List.set_cons_zero, List.set_cons_succ]
            refine wpAnyH_take (i := 3) (oi := ⟨some 125, .move (.tmp 9), _, _, _, _⟩) (v := ?_) rfl (by kernel_rfl) (by kernel_rfl) (by kernel_rfl) (fun _ _ _ h => h) (Or.inl ⟨by rfl, ?_⟩) (by assumption) ?_
            rotate_left
            · intro w' hSw
              go_simp
              try with_reducible rfl
            try simp only [Act.put, List.setIfInBounds_toArray, List.set_cons_zero, List.set_cons_succ]
            refine wpAnyH_take (i := 4) (oi := ⟨some 126, .convert 31 9 (.tmp 125), _, _, _, _⟩) (v := ?_) rfl (by kernel_rfl) (by kernel_rfl) (by kernel_rfl) (fun _ _ _ h => h) (Or.inl ⟨by rfl, ?_⟩) (by assumption) ?_
            rotate_left
            · intro w' hSw
              have hcv := convert_tx (HT.out.later hSw)
              go_simp
              try with_reducible rfl
            try simp only [Act.put, List.setIfInBounds_toArray, List.set_cons_zero, List.set_cons_succ]
            refine wpAnyH_ready (rs := [1]) (by kernel_rfl) (by simp) ?_
            refine AllReadyH.cons (o := ⟨some 123, .call ⟨.value (.func 21), #[.tmp 122], #[24]⟩, _, _, _, _⟩) rfl (fun K hK => ?_) AllReadyH.nil
            go_simp
            with_reducible refine (HALL.out _ ?hx).mono ?_
            case hx => exact hHeld
            rintro _ w123 ⟨pa, ca, rfl, hta, hS123⟩
            try go_wp2_with fail
            refine hK.out _ _ hS123 (fun hHeld => ?_)
            clear hK K
            try simp only [Act.put, List.setIfInBounds_toArray, List.set_cons_zero, List.set_cons_succ]
            refine wpAnyH_mono (S' := fun w' => Below wr.heap.size wr w' ∧ Tx w' pa 384 ca s.L) (fun _ h => h.1) _ _ _ _ ?_
            have hHeld : Below wr.heap.size wr w123 ∧ Tx w123 pa 384 ca s.L := ⟨hS123, hta⟩
            refine wpAnyH_take (i := 2) (oi := ⟨some 124, .convert 31 9 (.tmp 123), _, _, _, _⟩) (v := ?_) rfl (by kernel_rfl) (by kernel_rfl) (by kernel_rfl) (fun _ _ _ h => h) (Or.inl ⟨by rfl, ?_⟩) (by assumption) ?_
            rotate_left
            · intro w' hSw
              have hcv := convert_tx hSw.2
              go_simp
              try with_reducible rfl
            try simp only [Act.put, List.setIfInBounds_toArray, List.set_cons_zero, List.set_cons_succ]
            refine wpAnyH_take (i := 5) (oi := ⟨some 127, .binOp .eql 9 (.tmp 124) (.tmp 126) 9, _, _, _, _⟩) (v := ?_) rfl (by kernel_rfl) (by kernel_rfl) (by kernel_rfl) (fun _ _ _ h => h) (Or.inl ⟨by rfl, ?_⟩) (by assumption) ?_
            rotate_left
            · intro w' hSw
              go_simp
              try with_reducible rfl
            try simp only [Act.put, List.setIfInBounds_toArray, List.set_cons_zero, List.set_cons_succ]
            refine wpAnyH_take (i := 6) (oi := ⟨some 128, .move (.tmp 127), _, _, _, _⟩) (v := ?_) rfl (by kernel_rfl) (by kernel_rfl) (by kernel_rfl) (fun _ _ _ h => h) (Or.inl ⟨by rfl, ?_⟩) (by assumption) ?_
            rotate_left
            · intro w' hSw
              go_simp
              try with_reducible rfl
            try simp only [Act.put, List.setIfInBounds_toArray, List.set_cons_zero, List.set_cons_succ]
            refine wpAnyH_take (i := 7) (oi := ⟨some 129, .move (.tmp 5), _, _, _, _⟩) (v := ?_) rfl (by kernel_rfl) (by kernel_rfl) (by kernel_rfl) (fun _ _ _ h => h) (Or.inl ⟨by rfl, ?_⟩) (by assumption) ?_
            rotate_left
            · intro w' hSw
              go_simp
              try with_reducible rfl
            try simp only [Act.put, List.setIfInBounds_toArray, List.set_cons_zero, List.set_cons_succ]
            refine wpAnyH_take (i := 9) (oi := ⟨some 131, .move (.tmp 10), _, _, _, _⟩) (v := ?_) rfl (by kernel_rfl) (by kernel_rfl) (by kernel_rfl) (fun _ _ _ h => h) (Or.inl ⟨by rfl, ?_⟩) (by assumption) ?_
            rotate_left
            · intro w' hSw
              go_simp
              try with_reducible rfl
            try simp only [Act.put, List.setIfInBounds_toArray, List.set_cons_zero, List.set_cons_succ]
            refine wpAnyH_ready (rs := [8]) (by kernel_rfl) (by simp) ?_
            refine AllReadyH.cons (o := ⟨some 130, .call ⟨.value (.func 19), #[.tmp 129], #[24]⟩, _, _, _, _⟩) rfl (fun K hK => ?_) AllReadyH.nil
            go_simp
            with_reducible refine (HDEAD.out _ ?hx).mono ?_
            case hx => exact hHeld.1
            rintro _ w130 ⟨rfl, hb130⟩
            have hS130 : Below wr.heap.size wr w130 ∧ Tx w130 pa 384 ca s.L := ⟨hHeld.1.trans (hb130.mono hHeld.1.size), hHeld.2.later hb130⟩
            try go_wp2_with fail
            refine hK.out _ _ hS130 (fun hHeld => ?_)
            clear hK K
            try simp only [Act.put, List.setIfInBounds_toArray, List.set_cons_zero, List.set_cons_succ]
            refine wpAnyH_take (i := 10) (oi := ⟨some 132, .binOp .eql 4 (.tmp 130) (.tmp 131) 4, _, _, _, _⟩) (v := ?_) rfl (by kernel_rfl) (by kernel_rfl) (by kernel_rfl) (fun _ _ _ h => h) (Or.inl ⟨by rfl, ?_⟩) (by assumption) ?_
            rotate_left
            · intro w' hSw
              go_simp
              try with_reducible rfl
            try simp only [Act.put, List.setIfInBounds_toArray, List.set_cons_zero, List.set_cons_succ]
            refine wpAnyH_take (i := 11) (oi := ⟨some 133, .pick (.tmp 128) (.tmp 132) (.const (.bool false)), _, _, _, _⟩) (v := ?_) rfl (by kernel_rfl) (by kernel_rfl) (by kernel_rfl) (fun _ _ _ h => h) (Or.inl ⟨by rfl, ?_⟩) (by assumption) ?_
            rotate_left
            · intro w' hSw
              go_simp
              try with_reducible rfl
            try simp only [Act.put, List.setIfInBounds_toArray, List.set_cons_zero, List.set_cons_succ]
            refine wpAnyH_take (i := 12) (oi := ⟨some 4, .assign (.tmp 133), _, _, _, _⟩) (v := ?_) rfl (by kernel_rfl) (by kernel_rfl) (by kernel_rfl) (fun _ _ _ h => h) (Or.inl ⟨by rfl, ?_⟩) (by assumption) ?_
            rotate_left
            · intro w' hSw
              go_simp
              try with_reducible rfl
            try simp only [Act.put, List.setIfInBounds_toArray, List.set_cons_zero, List.set_cons_succ]
            refine wpAnyH_done (by kernel_rfl) ?_ _
            go_wp2_with fail
            go_ret
            exact ⟨by simp, HD.out.low.trans (hS130.1.mono HD.out.low.size)⟩
    · obtain rfl : k = n := by omega
      have hs := (A.ok HO.out.disk).len
      rw [hs6] at hs
      go_wp2_with fail
      refine (A.copy HO.out.disk).mono ?_
      rintro e w3 ⟨gc, Pc, tt, htt, rfl, dc, pc, bc⟩
      have OD := Lib.hid (HO.out.later A bc)
      have OC := Lib.hid (show Own PD w w3 gc Pc (s.copy tt) from ⟨dc, fun k hk => Nat.le_trans HO.out.low.size (pc k hk), OD.out.low⟩)
      have DJ := Lib.hid (show ∀ k, P k → ¬ Pc k from fun k hk hc => by have := A.lt HO.out.disk k hk; have := pc k hc; omega)
      clear dc pc bc
      go_wp2_with fail
      refine (A.all OD.out.disk).mono ?_
      rintro e w4 ⟨p9, c9, rfl, m9, b9⟩
      rw [hs6] at m9
      rw [hs6]
      have S9 := Lib.hid (m9.safe (P := Pc) (A.lt OC.out.disk))
      have OD4 := Lib.hid (OD.out.later A b9)
      have OC4 := Lib.hid (OC.out.later A b9)
      clear m9 b9 OD OC
      go_wp2_with fail
      refine (A.dead OD4.out.disk).mono ?_
      rintro e w6 ⟨rfl, b6⟩
      have OD6 := Lib.hid (OD4.out.later A b6)
      have OC6 := Lib.hid (OC4.out.later A b6)
      have S6 := Lib.hid (S9.out.later b6)
      have HT := Lib.hid S6.out.mine.tx
      clear b6 OD4 OC4 S9
      have HALL := Lib.hid (show ∀ w', Below w6.heap.size w6 w' → Calls Try.prog 21 #[.pointer (some ⟨gc, 0, none⟩)] w' fun e w'' => ∃ p c, e = .returned (.slice p 384 c) ∧ Tx w'' p 384 c s.L ∧ Below w6.heap.size w6 w'' from fun w' hb => by have h := all_tx A OC6.out hb; rw [show (s.copy tt).n = 6 from hs6] at h; exact h)
      have HDEAD := Lib.hid (show ∀ w', Below w6.heap.size w6 w' → Calls Try.prog 19 #[.pointer (some ⟨gc, 0, none⟩)] w' fun e w'' => e = .returned (.bool false) ∧ Below w'.heap.size w' w'' from fun w' hb => dead_at A OC6.out hb)
      have HWR := Lib.hid (show ∀ w', Below w6.heap.size w6 w' → Calls Try.prog 20 #[.pointer (some ⟨gc, 0, none⟩)] w' fun e w'' => e = .returned (.int .i64 0) ∧ Below w'.heap.size w' w'' from fun w' hb => writes_at A OC6.out hb)
      have HLEN := Lib.hid (show ∀ w', Below w6.heap.size w6 w' → Calls Try.prog 10 #[.pointer (some ⟨gc, 0, none⟩)] w' fun e w'' => e = .returned (.int .i64 6) ∧ Below w'.heap.size w' w'' from fun w' hb => by have h := len_at A OC6.out hb; rw [show (s.copy tt).n = 6 from hs6] at h; exact h)
      go_upto_region 15 with fail
      refine wp_region_held_drew (S := fun w' => Below w6.heap.size w6 w') (by kernel_rfl) (Below.refl _ _).drew (fun hHeld => ?_)
      refine wpAnyH_take (i := 0) (oi := ⟨some 73, .move (.tmp 8), _, _, _, _⟩) (v := ?_) rfl (by kernel_rfl) (by kernel_rfl) (by kernel_rfl) (fun _ _ _ h => h) (Or.inl ⟨by rfl, ?_⟩) (by assumption) ?_
      rotate_left
      · intro w' hSw
        go_simp
        try with_reducible rfl
      try simp only [Act.put, List.setIfInBounds_toArray, List.set_cons_zero, List.set_cons_succ]
      refine wpAnyH_take (i := 3) (oi := ⟨some 76, .move (.tmp 9), _, _, _, _⟩) (v := ?_) rfl (by kernel_rfl) (by kernel_rfl) (by kernel_rfl) (fun _ _ _ h => h) (Or.inl ⟨by rfl, ?_⟩) (by assumption) ?_
      rotate_left
      · intro w' hSw
        go_simp
        try with_reducible rfl
      try simp only [Act.put, List.setIfInBounds_toArray, List.set_cons_zero, List.set_cons_succ]
      refine wpAnyH_take (i := 4) (oi := ⟨some 77, .convert 31 9 (.tmp 76), _, _, _, _⟩) (v := ?_) rfl (by kernel_rfl) (by kernel_rfl) (by kernel_rfl) (fun _ _ _ h => h) (Or.inl ⟨by rfl, ?_⟩) (by assumption) ?_
      rotate_left
      · intro w' hSw
        have hcv := convert_tx (HT.out.later hSw)
        go_simp
        try with_reducible rfl
      try simp only [Act.put, List.setIfInBounds_toArray, List.set_cons_zero, List.set_cons_succ]
      refine wpAnyH_ready (rs := [1]) (by kernel_rfl) (by simp) ?_
      refine AllReadyH.cons (o := ⟨some 74, .call ⟨.value (.func 21), #[.tmp 73], #[24]⟩, _, _, _, _⟩) rfl (fun K hK => ?_) AllReadyH.nil
      go_simp
      with_reducible refine (HALL.out _ ?hx).mono ?_
      case hx => exact hHeld
      rintro _ w74 ⟨pa, ca, rfl, hta, hS74⟩
      try go_wp2_with fail
      refine hK.out _ _ hS74 (fun hHeld => ?_)
      clear hK K
      try simp only [Act.put, List.setIfInBounds_toArray, List.set_cons_zero, List.set_cons_succ]
      refine wpAnyH_mono (S' := fun w' => Below w6.heap.size w6 w' ∧ Tx w' pa 384 ca s.L) (fun _ h => h.1) _ _ _ _ ?_
      have hHeld : Below w6.heap.size w6 w74 ∧ Tx w74 pa 384 ca s.L := ⟨hS74, hta⟩
      refine wpAnyH_take (i := 2) (oi := ⟨some 75, .convert 31 9 (.tmp 74), _, _, _, _⟩) (v := ?_) rfl (by kernel_rfl) (by kernel_rfl) (by kernel_rfl) (fun _ _ _ h => h) (Or.inl ⟨by rfl, ?_⟩) (by assumption) ?_
      rotate_left
      · intro w' hSw
        have hcv := convert_tx hSw.2
        go_simp
        try with_reducible rfl
      try simp only [Act.put, List.setIfInBounds_toArray, List.set_cons_zero, List.set_cons_succ]
      refine wpAnyH_take (i := 5) (oi := ⟨some 78, .binOp .neq 9 (.tmp 75) (.tmp 77) 9, _, _, _, _⟩) (v := ?_) rfl (by kernel_rfl) (by kernel_rfl) (by kernel_rfl) (fun _ _ _ h => h) (Or.inl ⟨by rfl, ?_⟩) (by assumption) ?_
      rotate_left
      · intro w' hSw
        go_simp
        try with_reducible rfl
      try simp only [Act.put, List.setIfInBounds_toArray, List.set_cons_zero, List.set_cons_succ]
      refine wpAnyH_take (i := 6) (oi := ⟨some 79, .move (.tmp 78), _, _, _, _⟩) (v := ?_) rfl (by kernel_rfl) (by kernel_rfl) (by kernel_rfl) (fun _ _ _ h => h) (Or.inl ⟨by rfl, ?_⟩) (by assumption) ?_
      rotate_left
      · intro w' hSw
        go_simp
        try with_reducible rfl
      try simp only [Act.put, List.setIfInBounds_toArray, List.set_cons_zero, List.set_cons_succ]
      refine wpAnyH_take (i := 7) (oi := ⟨some 80, .move (.tmp 8), _, _, _, _⟩) (v := ?_) rfl (by kernel_rfl) (by kernel_rfl) (by kernel_rfl) (fun _ _ _ h => h) (Or.inl ⟨by rfl, ?_⟩) (by assumption) ?_
      rotate_left
      · intro w' hSw
        go_simp
        try with_reducible rfl
      try simp only [Act.put, List.setIfInBounds_toArray, List.set_cons_zero, List.set_cons_succ]
      refine wpAnyH_ready (rs := [8]) (by kernel_rfl) (by simp) ?_
      refine AllReadyH.cons (o := ⟨some 81, .call ⟨.value (.func 19), #[.tmp 80], #[24]⟩, _, _, _, _⟩) rfl (fun K hK => ?_) AllReadyH.nil
      go_simp
      with_reducible refine (HDEAD.out _ ?hx).mono ?_
      case hx => exact hHeld.1
      rintro _ w81 ⟨rfl, hb81⟩
      have hS81 : Below w6.heap.size w6 w81 ∧ Tx w81 pa 384 ca s.L := ⟨hHeld.1.trans (hb81.mono hHeld.1.size), hHeld.2.later hb81⟩
      try go_wp2_with fail
      refine hK.out _ _ hS81 (fun hHeld => ?_)
      clear hK K
      try simp only [Act.put, List.setIfInBounds_toArray, List.set_cons_zero, List.set_cons_succ]
      refine wpAnyH_take (i := 9) (oi := ⟨some 82, .pick (.tmp 79) (.const (.bool true)) (.tmp 81), _, _, _, _⟩) (v := ?_) rfl (by kernel_rfl) (by kernel_rfl) (by kernel_rfl) (fun _ _ _ h => h) (Or.inl ⟨by rfl, ?_⟩) (by assumption) ?_
      rotate_left
      · intro w' hSw
        go_simp
        try with_reducible rfl
      try simp only [Act.put, List.setIfInBounds_toArray, List.set_cons_zero, List.set_cons_succ]
      refine wpAnyH_take (i := 10) (oi := ⟨some 83, .move (.tmp 82), _, _, _, _⟩) (v := ?_) rfl (by kernel_rfl) (by kernel_rfl) (by kernel_rfl) (fun _ _ _ h => h) (Or.inl ⟨by rfl, ?_⟩) (by assumption) ?_
      rotate_left
      · intro w' hSw
        go_simp
        try with_reducible rfl
      try simp only [Act.put, List.setIfInBounds_toArray, List.set_cons_zero, List.set_cons_succ]
      refine wpAnyH_take (i := 11) (oi := ⟨some 84, .move (.tmp 8), _, _, _, _⟩) (v := ?_) rfl (by kernel_rfl) (by kernel_rfl) (by kernel_rfl) (fun _ _ _ h => h) (Or.inl ⟨by rfl, ?_⟩) (by assumption) ?_
      rotate_left
      · intro w' hSw
        go_simp
        try with_reducible rfl
      try simp only [Act.put, List.setIfInBounds_toArray, List.set_cons_zero, List.set_cons_succ]
      refine wpAnyH_ready (rs := [12]) (by kernel_rfl) (by simp) ?_
      refine AllReadyH.cons (o := ⟨some 85, .call ⟨.value (.func 20), #[.tmp 84], #[24]⟩, _, _, _, _⟩) rfl (fun K hK => ?_) AllReadyH.nil
      go_simp
      with_reducible refine (HWR.out _ ?hx).mono ?_
      case hx => exact hHeld.1
      rintro _ w85 ⟨rfl, hb85⟩
      have hS85 : Below w6.heap.size w6 w85 ∧ Tx w85 pa 384 ca s.L := ⟨hHeld.1.trans (hb85.mono hHeld.1.size), hHeld.2.later hb85⟩
      try go_wp2_with fail
      refine hK.out _ _ hS85 (fun hHeld => ?_)
      clear hK K
      try simp only [Act.put, List.setIfInBounds_toArray, List.set_cons_zero, List.set_cons_succ]
      refine wpAnyH_take (i := 13) (oi := ⟨some 86, .binOp .neq 3 (.tmp 85) (.const (.int .i64 0)) 3, _, _, _, _⟩) (v := ?_) rfl (by kernel_rfl) (by kernel_rfl) (by kernel_rfl) (fun _ _ _ h => h) (Or.inl ⟨by rfl, ?_⟩) (by assumption) ?_
      rotate_left
      · intro w' hSw
        go_simp
        try with_reducible rfl
      try simp only [Act.put, List.setIfInBounds_toArray, List.set_cons_zero, List.set_cons_succ]
      refine wpAnyH_take (i := 14) (oi := ⟨some 87, .pick (.tmp 83) (.const (.bool true)) (.tmp 86), _, _, _, _⟩) (v := ?_) rfl (by kernel_rfl) (by kernel_rfl) (by kernel_rfl) (fun _ _ _ h => h) (Or.inl ⟨by rfl, ?_⟩) (by assumption) ?_
      rotate_left
      · intro w' hSw
        go_simp
        try with_reducible rfl
      try simp only [Act.put, List.setIfInBounds_toArray, List.set_cons_zero, List.set_cons_succ]
      refine wpAnyH_take (i := 15) (oi := ⟨some 88, .move (.tmp 87), _, _, _, _⟩) (v := ?_) rfl (by kernel_rfl) (by kernel_rfl) (by kernel_rfl) (fun _ _ _ h => h) (Or.inl ⟨by rfl, ?_⟩) (by assumption) ?_
      rotate_left
      · intro w' hSw
        go_simp
        try with_reducible rfl
      try simp only [Act.put, List.setIfInBounds_toArray, List.set_cons_zero, List.set_cons_succ]
      refine wpAnyH_take (i := 16) (oi := ⟨some 89, .move (.tmp 8), _, _, _, _⟩) (v := ?_) rfl (by kernel_rfl) (by kernel_rfl) (by kernel_rfl) (fun _ _ _ h => h) (Or.inl ⟨by rfl, ?_⟩) (by assumption) ?_
      rotate_left
      · intro w' hSw
        go_simp
        try with_reducible rfl
      try simp only [Act.put, List.setIfInBounds_toArray, List.set_cons_zero, List.set_cons_succ]
      refine wpAnyH_ready (rs := [17]) (by kernel_rfl) (by simp) ?_
      refine AllReadyH.cons (o := ⟨some 90, .call ⟨.value (.func 10), #[.tmp 89], #[24]⟩, _, _, _, _⟩) rfl (fun K hK => ?_) AllReadyH.nil
      go_simp
      with_reducible refine (HLEN.out _ ?hx).mono ?_
      case hx => exact hHeld.1
      rintro _ w90 ⟨rfl, hb90⟩
      have hS90 : Below w6.heap.size w6 w90 ∧ Tx w90 pa 384 ca s.L := ⟨hHeld.1.trans (hb90.mono hHeld.1.size), hHeld.2.later hb90⟩
      try go_wp2_with fail
      refine hK.out _ _ hS90 (fun hHeld => ?_)
      clear hK K
      try simp only [Act.put, List.setIfInBounds_toArray, List.set_cons_zero, List.set_cons_succ]
      refine wpAnyH_take (i := 18) (oi := ⟨some 91, .binOp .neq 3 (.tmp 90) (.const (.int .i64 6)) 3, _, _, _, _⟩) (v := ?_) rfl (by kernel_rfl) (by kernel_rfl) (by kernel_rfl) (fun _ _ _ h => h) (Or.inl ⟨by rfl, ?_⟩) (by assumption) ?_
      rotate_left
      · intro w' hSw
        go_simp
        try with_reducible rfl
      try simp only [Act.put, List.setIfInBounds_toArray, List.set_cons_zero, List.set_cons_succ]
      refine wpAnyH_take (i := 19) (oi := ⟨some 92, .pick (.tmp 88) (.const (.bool true)) (.tmp 91), _, _, _, _⟩) (v := ?_) rfl (by kernel_rfl) (by kernel_rfl) (by kernel_rfl) (fun _ _ _ h => h) (Or.inl ⟨by rfl, ?_⟩) (by assumption) ?_
      rotate_left
      · intro w' hSw
        go_simp
        try with_reducible rfl
      try simp only [Act.put, List.setIfInBounds_toArray, List.set_cons_zero, List.set_cons_succ]
      refine wpAnyH_done (by kernel_rfl) ?_ _
      have hC0 := Lib.hid (show C2 PD w w90 g gc P Pc s (s.copy tt) p9 c9 0 from ⟨OC6.out.later A hS90.1, hs6, rfl, rfl, Nat.le_refl _, OD6.out.later A hS90.1, DJ.out, S6.out.later hS90.1⟩)
      clear hS90 hHeld OC6 OD6 S6 HT HALL HDEAD HWR HLEN
      go_wp2_with fail
      go_loopw [11] (fun i wr => C2R PD w g gc P s p9 c9 m i wr) (fun i _ => 30 - (intOf i).toNat)
      case atStart => exact ⟨0, Pc, _, by omega, by omega, rfl, hC0.out⟩
      case round =>
        obtain ⟨k, Px, sc, hk, hk30, rfl, hC⟩ := hrel
        have HC := Lib.hid hC
        clear hC
        by_cases hlt : k < m
        · have l1 : (k : Int) < m := by omega
          by_cases hlt2 : k < 30
          · have l2 : (k : Int) < 30 := by omega
            obtain ⟨go, oo, rfl⟩ := HM.out.some (by omega)
            obtain ⟨t, tok, c0, c1, c4⟩ := HM.out.facts hlt
            have c1 := (HC.out.copy.low.cell (block_lt_of_cell c1)).trans c1
            have c4 := (HC.out.copy.low.cell (block_lt_of_cell c4)).trans c4
            have i1 : (0 : Int) ≤ k ∧ (k : Int) < m := by omega
            clear tok c0
            obtain ⟨x, hx, hx8⟩ : ∃ x : Nat, IntKind.u8.wrap t.torn = (x : Int) ∧ x < 256 := ⟨(IntKind.u8.wrap t.torn).toNat, by rw [IntKind.wrap_u8']; omega, by rw [IntKind.wrap_u8']; omega⟩
            obtain ⟨y, hy⟩ : ∃ y : Nat, IntKind.u64.wrap t.i = (y : Int) := ⟨(IntKind.u64.wrap t.i).toNat, by rw [IntKind.wrap_u64]; omega⟩
            have t6 : (y : Int).tmod 6 = ((y % 6 : Nat) : Int) := by rw [Int.tmod_eq_emod_of_nonneg (by omega)]; omega
            have hy6 : y % 6 < 6 := by omega
            generalize y % 6 = z at *
            have t7 : IntKind.i64.wrap (z : Int) = z := IntWalk.i64_in _ (by omega)
            have t8 : IntKind.u64.wrap (z : Int) = z := by rw [IntKind.wrap_u64]; omega
            go_wp2_with fail
            refine (sector_any x wr hx8).mono ?_
            rintro e w93 ⟨rfl, r3, b3⟩
            have HC3 := Lib.hid (HC.out.later A b3)
            have T3 := Lib.hid (sector_tx r3 hx8)
            have N3 : ¬ Px wr.heap.size := fun e => Nat.lt_irrefl _ (A.lt HC.out.copy.disk _ e)
            clear r3 b3
            generalize wr.heap.size = gb at *
            go_wp2_with fail
            refine (A.write z (List.replicate 64 x) _ 64 64 HC3.out.copy.disk T3.out (fun x hx => by cases hx; exact N3) (by have := HC3.out.few; omega)).mono ?_
            rintro e w94 ⟨rfl, ⟨P4, d4, p4⟩, o4⟩
            have hsay := calm_says HC3.out.dead HC3.out.left (i := z) (by rw [HC3.out.n]; exact hy6)
            rw [hsay]
            have HC4 := Lib.hid (HC3.out.write A hy6 (by simp) d4 p4 o4)
            clear d4 p4 o4 hsay
            go_wp2_with fail
            go_roundw
            case rel => exact ⟨k + 1, P4, _, by omega, by omega, by go_num, HC4.out⟩
            case measure => simp [intOf]; omega
          · obtain rfl : k = 30 := by omega
            have HT := Lib.hid HC.out.told.mine.tx
            have HD := Lib.hid HC.out.disk
            have HALL := Lib.hid (show ∀ w', Below wr.heap.size wr w' → Calls Try.prog 21 #[.pointer (some ⟨g, 0, none⟩)] w' fun e w'' => ∃ p c, e = .returned (.slice p 384 c) ∧ Tx w'' p 384 c s.L ∧ Below wr.heap.size wr w'' from fun w' hb => by have h := all_tx A HD.out hb; rw [hs6] at h; exact h)
            have HDEAD := Lib.hid (show ∀ w', Below wr.heap.size wr w' → Calls Try.prog 19 #[.pointer (some ⟨g, 0, none⟩)] w' fun e w'' => e = .returned (.bool s.dead) ∧ Below w'.heap.size w' w'' from fun w' hb => dead_at A HD.out hb)
            go_upto_region 23 with fail
            refine wp_region_held_drew (S := fun w' => Below wr.heap.size wr w') (by kernel_rfl) (Below.refl _ _).drew (fun hHeld => ?_)
            refine wpAnyH_take (i := 0) (oi := ⟨some 122, .move (.tmp 5), _, _, _, _⟩) (v := ?_) rfl (by kernel_rfl) (by kernel_rfl) (by kernel_rfl) (fun _ _ _ h => h) (Or.inl ⟨by rfl, ?_⟩) (by assumption) ?_
            rotate_left
            · intro w' hSw
              go_simp
              try with_reducible rfl
            try simp only [Act.put, List.setIfInBounds_toArray, List.set_cons_zero, List.set_cons_succ]
            refine wpAnyH_take (i := 3) (oi := ⟨some 125, .move (.tmp 9), _, _, _, _⟩) (v := ?_) rfl (by kernel_rfl) (by kernel_rfl) (by kernel_rfl) (fun _ _ _ h => h) (Or.inl ⟨by rfl, ?_⟩) (by assumption) ?_
            rotate_left
            · intro w' hSw
              go_simp
              try with_reducible rfl
            try simp only [Act.put, List.setIfInBounds_toArray, List.set_cons_zero, List.set_cons_succ]
            refine wpAnyH_take (i := 4) (oi := ⟨some 126, .convert 31 9 (.tmp 125), _, _, _, _⟩) (v := ?_) rfl (by kernel_rfl) (by kernel_rfl) (by kernel_rfl) (fun _ _ _ h => h) (Or.inl ⟨by rfl, ?_⟩) (by assumption) ?_
            rotate_left
            · intro w' hSw
              have hcv := convert_tx (HT.out.later hSw)
              go_simp
              try with_reducible rfl
            try simp only [Act.put, List.setIfInBounds_toArray, List.set_cons_zero, List.set_cons_succ]
            refine wpAnyH_ready (rs := [1]) (by kernel_rfl) (by simp) ?_
            refine AllReadyH.cons (o := ⟨some 123, .call ⟨.value (.func 21), #[.tmp 122], #[24]⟩, _, _, _, _⟩) rfl (fun K hK => ?_) AllReadyH.nil
            go_simp
            with_reducible refine (HALL.out _ ?hx).mono ?_
            case hx => exact hHeld
            rintro _ w123 ⟨pa, ca, rfl, hta, hS123⟩
            try go_wp2_with fail
            refine hK.out _ _ hS123 (fun hHeld => ?_)
            clear hK K
            try simp only [Act.put, List.setIfInBounds_toArray, List.set_cons_zero, List.set_cons_succ]
            refine wpAnyH_mono (S' := fun w' => Below wr.heap.size wr w' ∧ Tx w' pa 384 ca s.L) (fun _ h => h.1) _ _ _ _ ?_
            have hHeld : Below wr.heap.size wr w123 ∧ Tx w123 pa 384 ca s.L := ⟨hS123, hta⟩
            refine wpAnyH_take (i := 2) (oi := ⟨some 124, .convert 31 9 (.tmp 123), _, _, _, _⟩) (v := ?_) rfl (by kernel_rfl) (by kernel_rfl) (by kernel_rfl) (fun _ _ _ h => h) (Or.inl ⟨by rfl, ?_⟩) (by assumption) ?_
            rotate_left
            · intro w' hSw
              have hcv := convert_tx hSw.2
              go_simp
              try with_reducible rfl
            try simp only [Act.put, List.setIfInBounds_toArray, List.set_cons_zero, List.set_cons_succ]
            refine wpAnyH_take (i := 5) (oi := ⟨some 127, .binOp .eql 9 (.tmp 124) (.tmp 126) 9, _, _, _, _⟩) (v := ?_) rfl (by kernel_rfl) (by kernel_rfl) (by kernel_rfl) (fun _ _ _ h => h) (Or.inl ⟨by rfl, ?_⟩) (by assumption) ?_
            rotate_left
            · intro w' hSw
              go_simp
              try with_reducible rfl
            try simp only [Act.put, List.setIfInBounds_toArray, List.set_cons_zero, List.set_cons_succ]
            refine wpAnyH_take (i := 6) (oi := ⟨some 128, .move (.tmp 127), _, _, _, _⟩) (v := ?_) rfl (by kernel_rfl) (by kernel_rfl) (by kernel_rfl) (fun _ _ _ h => h) (Or.inl ⟨by rfl, ?_⟩) (by assumption) ?_
            rotate_left
            · intro w' hSw
              go_simp
              try with_reducible rfl
            try simp only [Act.put, List.setIfInBounds_toArray, List.set_cons_zero, List.set_cons_succ]
            refine wpAnyH_take (i := 7) (oi := ⟨some 129, .move (.tmp 5), _, _, _, _⟩) (v := ?_) rfl (by kernel_rfl) (by kernel_rfl) (by kernel_rfl) (fun _ _ _ h => h) (Or.inl ⟨by rfl, ?_⟩) (by assumption) ?_
            rotate_left
            · intro w' hSw
              go_simp
              try with_reducible rfl
            try simp only [Act.put, List.setIfInBounds_toArray, List.set_cons_zero, List.set_cons_succ]
            refine wpAnyH_take (i := 9) (oi := ⟨some 131, .move (.tmp 10), _, _, _, _⟩) (v := ?_) rfl (by kernel_rfl) (by kernel_rfl) (by kernel_rfl) (fun _ _ _ h => h) (Or.inl ⟨by rfl, ?_⟩) (by assumption) ?_
            rotate_left
            · intro w' hSw
              go_simp
              try with_reducible rfl
            try simp only [Act.put, List.setIfInBounds_toArray, List.set_cons_zero, List.set_cons_succ]
            refine wpAnyH_ready (rs := [8]) (by kernel_rfl) (by simp) ?_
            refine AllReadyH.cons (o := ⟨some 130, .call ⟨.value (.func 19), #[.tmp 129], #[24]⟩, _, _, _, _⟩) rfl (fun K hK => ?_) AllReadyH.nil
            go_simp
            with_reducible refine (HDEAD.out _ ?hx).mono ?_
            case hx => exact hHeld.1
            rintro _ w130 ⟨rfl, hb130⟩
            have hS130 : Below wr.heap.size wr w130 ∧ Tx w130 pa 384 ca s.L := ⟨hHeld.1.trans (hb130.mono hHeld.1.size), hHeld.2.later hb130⟩
            try go_wp2_with fail
            refine hK.out _ _ hS130 (fun hHeld => ?_)
            clear hK K
            try simp only [Act.put, List.setIfInBounds_toArray, List.set_cons_zero, List.set_cons_succ]
            refine wpAnyH_take (i := 10) (oi := ⟨some 132, .binOp .eql 4 (.tmp 130) (.tmp 131) 4, _, _, _, _⟩) (v := ?_) rfl (by kernel_rfl) (by kernel_rfl) (by kernel_rfl) (fun _ _ _ h => h) (Or.inl ⟨by rfl, ?_⟩) (by assumption) ?_
            rotate_left
            · intro w' hSw
              go_simp
              try with_reducible rfl
            try simp only [Act.put, List.setIfInBounds_toArray, List.set_cons_zero, List.set_cons_succ]
            refine wpAnyH_take (i := 11) (oi := ⟨some 133, .pick (.tmp 128) (.tmp 132) (.const (.bool false)), _, _, _, _⟩) (v := ?_) rfl (by kernel_rfl) (by kernel_rfl) (by kernel_rfl) (fun _ _ _ h => h) (Or.inl ⟨by rfl, ?_⟩) (by assumption) ?_
            rotate_left
            · intro w' hSw
              go_simp
              try with_reducible rfl
            try simp only [Act.put, List.setIfInBounds_toArray, List.set_cons_zero, List.set_cons_succ]
            refine wpAnyH_take (i := 12) (oi := ⟨some 4, .assign (.tmp 133), _, _, _, _⟩) (v := ?_) rfl (by kernel_rfl) (by kernel_rfl) (by kernel_rfl) (fun _ _ _ h => h) (Or.inl ⟨by rfl, ?_⟩) (by assumption) ?_
            rotate_left
            · intro w' hSw
              go_simp
              try with_reducible rfl
            try simp only [Act.put, List.setIfInBounds_toArray, List.set_cons_zero, List.set_cons_succ]
            refine wpAnyH_done (by kernel_rfl) ?_ _
            go_wp2_with fail
            go_ret
            exact ⟨by simp, HD.out.low.trans (hS130.1.mono HD.out.low.size)⟩
        · obtain rfl : k = m := by omega
          have HT := Lib.hid HC.out.told.mine.tx
          have HD := Lib.hid HC.out.disk
          have HALL := Lib.hid (show ∀ w', Below wr.heap.size wr w' → Calls Try.prog 21 #[.pointer (some ⟨g, 0, none⟩)] w' fun e w'' => ∃ p c, e = .returned (.slice p 384 c) ∧ Tx w'' p 384 c s.L ∧ Below wr.heap.size wr w'' from fun w' hb => by have h := all_tx A HD.out hb; rw [hs6] at h; exact h)
          have HDEAD := Lib.hid (show ∀ w', Below wr.heap.size wr w' → Calls Try.prog 19 #[.pointer (some ⟨g, 0, none⟩)] w' fun e w'' => e = .returned (.bool s.dead) ∧ Below w'.heap.size w' w'' from fun w' hb => dead_at A HD.out hb)
          go_upto_region 23 with fail
          refine wp_region_held_drew (S := fun w' => Below wr.heap.size wr w') (by kernel_rfl) (Below.refl _ _).drew (fun hHeld => ?_)
          refine wpAnyH_take (i := 0) (oi := ⟨some 122, .move (.tmp 5), _, _, _, _⟩) (v := ?_) rfl (by kernel_rfl) (by kernel_rfl) (by kernel_rfl) (fun _ _ _ h => h) (Or.inl ⟨by rfl, ?_⟩) (by assumption) ?_
          rotate_left
          · intro w' hSw
            go_simp
            try with_reducible rfl
          try simp only [Act.put, List.setIfInBounds_toArray, List.set_cons_zero, List.set_cons_succ]
          refine wpAnyH_take (i := 3) (oi := ⟨some 125, .move (.tmp 9), _, _, _, _⟩) (v := ?_) rfl (by kernel_rfl) (by kernel_rfl) (by kernel_rfl) (fun _ _ _ h => h) (Or.inl ⟨by rfl, ?_⟩) (by assumption) ?_
          rotate_left
          · intro w' hSw
            go_simp
            try with_reducible rfl
          try simp only [Act.put, List.setIfInBounds_toArray, List.set_cons_zero, List.set_cons_succ]
          refine wpAnyH_take (i := 4) (oi := ⟨some 126, .convert 31 9 (.tmp 125), _, _, _, _⟩) (v := ?_) rfl (by kernel_rfl) (by kernel_rfl) (by kernel_rfl) (fun _ _ _ h => h) (Or.inl ⟨by rfl, ?_⟩) (by assumption) ?_
          rotate_left
          · intro w' hSw
            have hcv := convert_tx (HT.out.later hSw)
            go_simp
            try with_reducible rfl
          try simp only [Act.put, List.setIfInBounds_toArray, List.set_cons_zero, List.set_cons_succ]
          refine wpAnyH_ready (rs := [1]) (by kernel_rfl) (by simp) ?_
          refine AllReadyH.cons (o := ⟨some 123, .call ⟨.value (.func 21), #[.tmp 122], #[24]⟩, _, _, _, _⟩) rfl (fun K hK => ?_) AllReadyH.nil
          go_simp
          with_reducible refine (HALL.out _ ?hx).mono ?_
          case hx => exact hHeld
          rintro _ w123 ⟨pa, ca, rfl, hta, hS123⟩
          try go_wp2_with fail
          refine hK.out _ _ hS123 (fun hHeld => ?_)
          clear hK K
          try simp only [Act.put, List.setIfInBounds_toArray, List.set_cons_zero, List.set_cons_succ]
          refine wpAnyH_mono (S' := fun w' => Below wr.heap.size wr w' ∧ Tx w' pa 384 ca s.L) (fun _ h => h.1) _ _ _ _ ?_
          have hHeld : Below wr.heap.size wr w123 ∧ Tx w123 pa 384 ca s.L := ⟨hS123, hta⟩
          refine wpAnyH_take (i := 2) (oi := ⟨some 124, .convert 31 9 (.tmp 123), _, _, _, _⟩) (v := ?_) rfl (by kernel_rfl) (by kernel_rfl) (by kernel_rfl) (fun _ _ _ h => h) (Or.inl ⟨by rfl, ?_⟩) (by assumption) ?_
          rotate_left
          · intro w' hSw
            have hcv := convert_tx hSw.2
            go_simp
            try with_reducible rfl
          try simp only [Act.put, List.setIfInBounds_toArray, List.set_cons_zero, List.set_cons_succ]
          refine wpAnyH_take (i := 5) (oi := ⟨some 127, .binOp .eql 9 (.tmp 124) (.tmp 126) 9, _, _, _, _⟩) (v := ?_) rfl (by kernel_rfl) (by kernel_rfl) (by kernel_rfl) (fun _ _ _ h => h) (Or.inl ⟨by rfl, ?_⟩) (by assumption) ?_
          rotate_left
          · intro w' hSw
            go_simp
            try with_reducible rfl
          try simp only [Act.put, List.setIfInBounds_toArray, List.set_cons_zero, List.set_cons_succ]
          refine wpAnyH_take (i := 6) (oi := ⟨some 128, .move (.tmp 127), _, _, _, _⟩) (v := ?_) rfl (by kernel_rfl) (by kernel_rfl) (by kernel_rfl) (fun _ _ _ h => h) (Or.inl ⟨by rfl, ?_⟩) (by assumption) ?_
          rotate_left
          · intro w' hSw
            go_simp
            try with_reducible rfl
          try simp only [Act.put, List.setIfInBounds_toArray, List.set_cons_zero, List.set_cons_succ]
          refine wpAnyH_take (i := 7) (oi := ⟨some 129, .move (.tmp 5), _, _, _, _⟩) (v := ?_) rfl (by kernel_rfl) (by kernel_rfl) (by kernel_rfl) (fun _ _ _ h => h) (Or.inl ⟨by rfl, ?_⟩) (by assumption) ?_
          rotate_left
          · intro w' hSw
            go_simp
            try with_reducible rfl
          try simp only [Act.put, List.setIfInBounds_toArray, List.set_cons_zero, List.set_cons_succ]
          refine wpAnyH_take (i := 9) (oi := ⟨some 131, .move (.tmp 10), _, _, _, _⟩) (v := ?_) rfl (by kernel_rfl) (by kernel_rfl) (by kernel_rfl) (fun _ _ _ h => h) (Or.inl ⟨by rfl, ?_⟩) (by assumption) ?_
          rotate_left
          · intro w' hSw
            go_simp
            try with_reducible rfl
          try simp only [Act.put, List.setIfInBounds_toArray, List.set_cons_zero, List.set_cons_succ]
          refine wpAnyH_ready (rs := [8]) (by kernel_rfl) (by simp) ?_
          refine AllReadyH.cons (o := ⟨some 130, .call ⟨.value (.func 19), #[.tmp 129], #[24]⟩, _, _, _, _⟩) rfl (fun K hK => ?_) AllReadyH.nil
          go_simp
          with_reducible refine (HDEAD.out _ ?hx).mono ?_
          case hx => exact hHeld.1
          rintro _ w130 ⟨rfl, hb130⟩
          have hS130 : Below wr.heap.size wr w130 ∧ Tx w130 pa 384 ca s.L := ⟨hHeld.1.trans (hb130.mono hHeld.1.size), hHeld.2.later hb130⟩
          try go_wp2_with fail
          refine hK.out _ _ hS130 (fun hHeld => ?_)
          clear hK K
          try simp only [Act.put, List.setIfInBounds_toArray, List.set_cons_zero, List.set_cons_succ]
          refine wpAnyH_take (i := 10) (oi := ⟨some 132, .binOp .eql 4 (.tmp 130) (.tmp 131) 4, _, _, _, _⟩) (v := ?_) rfl (by kernel_rfl) (by kernel_rfl) (by kernel_rfl) (fun _ _ _ h => h) (Or.inl ⟨by rfl, ?_⟩) (by assumption) ?_
          rotate_left
          · intro w' hSw
            go_simp
            try with_reducible rfl
          try simp only [Act.put, List.setIfInBounds_toArray, List.set_cons_zero, List.set_cons_succ]
          refine wpAnyH_take (i := 11) (oi := ⟨some 133, .pick (.tmp 128) (.tmp 132) (.const (.bool false)), _, _, _, _⟩) (v := ?_) rfl (by kernel_rfl) (by kernel_rfl) (by kernel_rfl) (fun _ _ _ h => h) (Or.inl ⟨by rfl, ?_⟩) (by assumption) ?_
          rotate_left
          · intro w' hSw
            go_simp
            try with_reducible rfl
          try simp only [Act.put, List.setIfInBounds_toArray, List.set_cons_zero, List.set_cons_succ]
          refine wpAnyH_take (i := 12) (oi := ⟨some 4, .assign (.tmp 133), _, _, _, _⟩) (v := ?_) rfl (by kernel_rfl) (by kernel_rfl) (by kernel_rfl) (fun _ _ _ h => h) (Or.inl ⟨by rfl, ?_⟩) (by assumption) ?_
          rotate_left
          · intro w' hSw
            go_simp
            try with_reducible rfl
          try simp only [Act.put, List.setIfInBounds_toArray, List.set_cons_zero, List.set_cons_succ]
          refine wpAnyH_done (by kernel_rfl) ?_ _
          go_wp2_with fail
          go_ret
          exact ⟨by simp, HD.out.low.trans (hS130.1.mono HD.out.low.size)⟩
end Go.Proofs.Ytjlkddfihpdnmaa.Dk

/- Proved: whatever two scripts it is handed, the Go function indenturelaw07.DiskCopies returns true (a copy has the same bytes, is alive without a fuse, and goes its own way), and each argument reads afterwards as it read before. Conditions: none beyond the given row's own. -/
namespace Go.Proofs.Ytjlkddfihpdnmaa
open Go.ChangeShapes Go.WideShapes Go.ChangeAt Go.RowKit Go.Deep

set_option maxRecDepth 100000 in
theorem dkcopies_lifted (os : Os) (started : os.Started) (H : Type) (enc : TypeId × Value → H) :
    ReturnsInHanded {} Try.checked os 6 .any (Rows.diskCopiesSpec.pre6 enc Try.prog Try.f6 Rows.diskCopiesRow.domain false) (Rows.diskCopiesSpec.post enc Try.prog Try.f6 false true false false) := by
  refine returnsInHanded_of_change (C := Try.checked) gen_own started (by kernel_rfl) Try.func6
    (ChangeSpec.witness6 (enc := enc) (C := Try.checked) false ⟨#[], #[.slice none 0 0, .slice none 0 0], []⟩ 8 (by kernel_rfl) (by kernel_rfl) (by kernel_rfl) (by kernel_rfl)) ?_
  intro W base args ds gs before hval0 hW _ _
  have hval : ∀ (j : Nat) t v, Try.f6.params[j]? = some t → args[j]? = some v → Value.okWide Try.prog W .any base t v := hval0
  have hW' := hW
  obtain ⟨p, q, hA0, hV, rfl, _, _⟩ := hW
  have hA : DataW.TrodAll enc Try.prog W 0 (fun _ => true) true Try.f6.params.toList args.toList ds p := hA0
  rw [Try.params6] at hA hval
  obtain ⟨v0, vs0, d0, ds0, p0, q0, hargs, rfl, rfl, h0, r0⟩ := trodAll_cons hA
  obtain ⟨v1, vs1, d1, ds1, p1, q1, rfl, rfl, rfl, h1, r1⟩ := trodAll_cons r0
  obtain ⟨rfl, rfl, rfl⟩ := trodAll_nil r1
  obtain rfl : args = #[v0, v1] := by cases args; simp_all
  obtain ⟨rfl, rfl⟩ := trodVars_none hV
  obtain ⟨a0, len0, cap0, rfl⟩ := okWide_slice Try.underlying22 (hval 0 22 v0 rfl rfl)
  obtain ⟨a1, len1, cap1, rfl⟩ := okWide_slice Try.underlying22 (hval 1 22 v1 rfl rfl)
  have k0 := h0
  have k1 := h1
  have lt0 : ∀ x ∈ p0, x.block < W.heap.size := by obtain ⟨m, hm⟩ := k0; exact DataW.trod_lt m _ _ _ hm
  have lt1 : ∀ x ∈ p1, x.block < W.heap.size := by obtain ⟨m, hm⟩ := k1; exact DataW.trod_lt m _ _ _ hm
  obtain ⟨⟨L0, hL0⟩, hl0⟩ : (∃ L, Dk.Ops W a0 len0 cap0 L) ∧ len0 ≤ 9223372036854775807 := by
    obtain ⟨fuel, hf⟩ := h0
    exact Dk.open_ops hf
  obtain ⟨⟨L1, hL1⟩, hl1⟩ : (∃ L, Dk.Ops W a1 len1 cap1 L) ∧ len1 ≤ 9223372036854775807 := by
    obtain ⟨fuel, hf⟩ := h1
    exact Dk.open_ops hf
  clear hA0 hval0
  refine (Dk.copies_any Dk.api a0 a1 len0 cap0 len1 cap1 L0 L1 W hL0 hL1 hl0 hl1).mono fun e W' ⟨he, bel⟩ => ?_
  subst he
  exact ⟨_, rfl, _, _, _, [], _, [], hW', trodAll_mk1 (shut_bool Try.underlying4 _),
    (trodAll_cons_mk (Below.trod gen_laidOut (by kernel_rfl) (of_decide_eq_true (by kernel_rfl)) k0 bel lt0) (trodAll_cons_mk (Below.trod gen_laidOut (by kernel_rfl) (of_decide_eq_true (by kernel_rfl)) k1 bel lt1) trodAll_mk0)), rfl, bel.frame _, fun h => by cases h⟩
theorem dkcopies_holds : Rows.DiskCopiesSaid :=
  OpenClaim.holds_of_wide 6 Try.f6 rfl rfl rfl rfl rfl rfl rfl ⟨rfl, rfl, rfl, rfl, rfl⟩ rfl rfl rfl rfl rfl (by kernel_rfl) Try.func6 (by kernel_rfl)
    (of_decide_eq_true (by kernel_rfl)) (by unfold Func.isWrapper; first | (rw [if_pos (by decide +kernel)]; kernel_rfl) | (rw [if_neg (by decide +kernel)]; exact ⟨rfl, rfl⟩))
    (fun os started H enc _ => dkcopies_lifted os started H enc)
end Go.Proofs.Ytjlkddfihpdnmaa
