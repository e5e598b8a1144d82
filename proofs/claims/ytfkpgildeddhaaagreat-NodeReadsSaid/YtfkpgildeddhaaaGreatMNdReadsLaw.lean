/- Proved: whatever bytes and number it is handed, the Go function indenturelaw10.NodeReads returns true (which bytes are a node's, and of which, is the document's; writing it makes just these bytes), and each argument reads afterwards as it read before. Conditions: none beyond the given row's own. -/
import Derived.Test.YtfkpgildeddhaaaGreatM13
import Derived.BigRegion
import Derived.Deep.RegionHeld3
/- The law NodeReads. gen_reads.py writes it out of nd_reads.txt. -/
namespace Go.Proofs.YtfkpgildeddhaaaGreat.Nd
open Go.RowKit Go.Proofs.YtfkpgildeddhaaaGreat.Dk

theorem wpAnyH_mono {P : Program} {md : Region.Mode} {ops : Array Oper} {Q : Exit → Act → World → Prop} {S S' : World → Prop} (h : ∀ w, S' w → S w) : ∀ (fuel : Nat) (listed : Array Bool) (a : Act) (w : World), wpAnyH P md ops Q S' fuel listed a w → wpAnyH P md ops Q S fuel listed a w
  | 0, _, _, _, k => k
  | fuel + 1, _, _, _, k => ⟨k.1, fun i hi => wpOp_mono (fun a' w' h' => ⟨h _ h'.1, wpAnyH_mono h fuel _ a' w' h'.2⟩) (k.2 i hi)⟩
theorem few_of_right {w : World} {kind : Nat} {p : Option Addr} {n c : Nat} {q : Option Addr} {m f : Nat} {E : List En} {K : List Kd} {d : Int} (hE : EntsIn w p n c E) (hK : KidsIn w q m f K) (h : (pnOf kind E K).right d = true) : Few E K := by
  have hf := PN.fit h
  obtain ⟨h1, h2, h3⟩ := right_lens h
  have l1 := hf.rows
  have l2 := hf.kids
  simp only [pnOf, List.length_map] at l1 l2
  have g2 : ∀ e ∈ E, (e.row.R.length : Int) ≤ d := fun e he => h2 e.pe (List.mem_map.2 ⟨e, he, rfl⟩)
  have g3 : ∀ k ∈ K, (k.lo.R.length : Int) ≤ d ∧ (k.hi.R.length : Int) ≤ d ∧ (k.key.R.length : Int) ≤ d := fun k hk => h3 k.pk (List.mem_map.2 ⟨k, hk, rfl⟩)
  exact ⟨by omega, by omega, fun e he => by have := g2 e he; rw [(hE.each e he).ints.size]; omega, fun k hk => by have := (g3 k hk).1; rw [(hK.each k hk).lo.ints.size]; omega, fun k hk => by have := (g3 k hk).2.1; rw [(hK.each k hk).hi.ints.size]; omega, fun k hk => by have := (g3 k hk).2.2; rw [(hK.each k hk).key.ints.size]; omega⟩
set_option maxRecDepth 100000 in
set_option maxHeartbeats 16000000 in
theorem reads_any (B : List Nat) (p : Option Addr) (n c : Nat) (hl : n ≤ 9223372036854775807) (d : Int) (hd : In64 d) (w : World) (hB : Tx w p n c B) :
    Calls Tryz.prog 3 #[.slice p n c, .int .i64 d] w fun e w' => e = .returned (.bool true) ∧ Below w.heap.size w w' := by
  have HB := Lib.hid hB
  have HD := Lib.hid hd
  clear hB hd
  go_enter Tryz.func3, Tryz.ntmps3
  go_upto_region 3 with (go_at_call 5; refine (alive_any w).mono ?_; rintro _ w2 ⟨rfl, b2⟩; have HU2 := Lib.hid (show Up w.heap.size w w2 from ⟨b2, b2.size⟩); clear b2)
  by_cases hbig : 3000 < n
  · have b1 : (3000 : Int) < (n : Int) := by omega
    go_wp2_with fail
    go_ret
    first | exact ⟨rfl, HU2.out.1⟩ | exact ⟨rfl, HU2.out.1.drew⟩
  have b1 : ¬ (3000 : Int) < (n : Int) := by omega
  have hn : n < 1099511627776 := by omega
  have HB2 := Lib.hid (HB.out.later HU2.out.1)
  have HDEC := Lib.hid (decode_any B p n c d w2 HB2.out hn)
  have HRD := Lib.hid (fun w' (h : Below w2.heap.size w2 w') => rread_any B p n c d HD.out w' (HB2.out.later h) hn)
  have HOK := Lib.hid HB.out.ok
  clear hl hbig HB
  obtain ⟨du, hdu, hdr⟩ := UNo
  have HDU := Lib.hid hdu
  have HDR := Lib.hid hdr
  clear hdu hdr
  by_cases hg : (rdN d B).good d
  case neg =>
    have HG := Lib.hid hg
    have HG8 := Lib.hid (show ¬ (rdN 8 B).good d from fun h => hg ((good_same HOK.out).1 h))
    clear hg hn
    go_upto_region 6 with (go_at_call 6; refine HDEC.out.mono ?_; rintro e w3 ⟨b3, h3⟩; obtain rfl := ((h3.resolve_left (fun h => HG8.out h.1)).2); have HB3 := Lib.hid b3; clear b3 h3)
    have hba : Below w3.heap.size w3 (w3.alloc (.cells #[.int .u8 0, .slice none 0 0, .slice none 0 0] 27)) := (Below.refl _ _).alloc (Nat.le_refl _) _
    have rn := heap_alloc_new w3 (.cells #[.int .u8 0, .slice none 0 0, .slice none 0 0] 27)
    have HB4 := Lib.hid (HB3.out.trans (hba.mono HB3.out.size))
    generalize w3.alloc (.cells #[.int .u8 0, .slice none 0 0, .slice none 0 0] 27) = w4 at *
    generalize w3.heap.size = ga at *
    clear hba HB3
    clear w3
    have RN := Lib.hid rn
    clear rn
    have HR := Lib.hid (HRD.out w4 HB4.out)
    go_upto_region 7 with (go_at_call 7; refine HR.out.mono ?_; rintro e w5 ⟨b5, h5⟩; obtain rfl := ((h5.resolve_left (fun h => HG.out h.1)).2); have RN5 := Lib.hid ((b5.block _ (Array.getElem?_eq_some_iff.1 RN.out).1).trans RN.out); have HB5 := Lib.hid (HB4.out.trans (b5.mono HB4.out.size)); clear b5 h5)
    have hba : Below w5.heap.size w5 (w5.alloc (.cells #[.int .u8 0, .slice none 0 0, .slice none 0 0] 27)) := (Below.refl _ _).alloc (Nat.le_refl _) _
    have RN6 := Lib.hid ((hba.block _ (Array.getElem?_eq_some_iff.1 RN5.out).1).trans RN5.out)
    have HB6 := Lib.hid (HB5.out.trans (hba.mono HB5.out.size))
    generalize w5.alloc (.cells #[.int .u8 0, .slice none 0 0, .slice none 0 0] 27) = w6 at *
    generalize w5.heap.size = gb at *
    clear hba HB5 RN5 HR HB4 RN
    clear w5 w4
    have t0 := cell_of_row w6 ga 0 _ _ _ RN6.out
    have t1 := cell_of_row w6 ga 1 _ _ _ RN6.out
    have t2 := cell_of_row w6 ga 2 _ _ _ RN6.out
    go_wp2_with (go_at_call 8; refine (samenode_any 0 0 none none none none 0 0 0 0 0 0 0 0 [] [] [] [] w6 (ents_none _) (kids_none _) (ents_none _) (kids_none _)).mono ?_; rintro _ w7 ⟨rfl, b7⟩; rw [show decide (pnOf 0 [] [] = pnOf 0 [] []) = true from decide_eq_true rfl]; have HB7 := Lib.hid (HB6.out.trans (b7.mono HB6.out.size)); clear b7)
    go_ret
    first | exact ⟨rfl, (HU2.out.on HB7.out).1⟩ | exact ⟨rfl, (HU2.out.on HB7.out).1.drew⟩
  have HG := Lib.hid hg
  have HG8 := Lib.hid ((good_same HOK.out).2 hg)
  have HEQN := Lib.hid (show (rdN 8 B).node = (rdN d B).node from by rw [good_swap HOK.out hg (right_lens hg.2.2).1.2])
  have HBY := Lib.hid (good_bytes HOK.out hg)
  have HRT := Lib.hid hg.2.2
  clear hg hn
  go_upto_region 6 with (go_at_call 6; refine HDEC.out.mono ?_; rintro e w3 ⟨b3, h3⟩; obtain ⟨-, ka, pa, na, ca, qa, ma, fa, EA, KA, rfl, hin, hpn, hka⟩ := (h3.resolve_right (fun h => h.1 HG8.out)); have HIN := Lib.hid (hin w3 (fun _ _ _ => rfl)); have HPN := Lib.hid (hpn.trans HEQN.out); have HB3 := Lib.hid b3; clear b3 h3 hin hpn)
  have hba : Below w3.heap.size w3 (w3.alloc (.cells #[.int .u8 ka, .slice pa na ca, .slice qa ma fa] 27)) := (Below.refl _ _).alloc (Nat.le_refl _) _
  have hst := NodeAt.start w3 ka pa na ca qa ma fa
  have HEA := Lib.hid (HIN.out.1.later hba)
  have HKA := Lib.hid (HIN.out.2.later hba)
  have HB4 := Lib.hid (HB3.out.trans (hba.mono HB3.out.size))
  generalize w3.alloc (.cells #[.int .u8 ka, .slice pa na ca, .slice qa ma fa] 27) = w4 at *
  generalize w3.heap.size = ga at *
  clear hba HB3 HIN
  clear w3
  have NA := Lib.hid hst
  clear hst
  have HR := Lib.hid (HRD.out w4 HB4.out)
  go_upto_region 7 with (go_at_call 7; refine HR.out.mono ?_; rintro e w5 ⟨b5, h5⟩; obtain ⟨-, kb, pb, nb, cb, qb, mb, fb, EB, KB, rfl, heb, hkb, hpb, hk256⟩ := (h5.resolve_right (fun h => h.1 HG.out)); have HEB := Lib.hid heb; have HKB := Lib.hid hkb; have HPB := Lib.hid hpb; have HKL := Lib.hid hk256; have HB5 := Lib.hid b5; clear b5 h5 heb hkb hpb hk256)
  have hba : Below w5.heap.size w5 (w5.alloc (.cells #[.int .u8 kb, .slice pb nb cb, .slice qb mb fb] 27)) := (Below.refl _ _).alloc (Nat.le_refl _) _
  have hst := NodeAt.start w5 kb pb nb cb qb mb fb
  have h46 := HB5.out.trans (hba.mono HB5.out.size)
  have NA6 := Lib.hid (NA.out.later h46)
  have EA6 := Lib.hid (HEA.out.later h46)
  have KA6 := Lib.hid (HKA.out.later h46)
  have EB6 := Lib.hid (HEB.out.later hba)
  have KB6 := Lib.hid (HKB.out.later hba)
  have HB6 := Lib.hid (HB4.out.trans (h46.mono HB4.out.size))
  generalize w5.alloc (.cells #[.int .u8 kb, .slice pb nb cb, .slice qb mb fb] 27) = w6 at *
  generalize w5.heap.size = gb at *
  have NB6 := Lib.hid hst
  clear hba hst h46 HB5 HR HEA HKA HEB HKB HB4 NA hka
  clear w5 w4
  have HEQ := Lib.hid (show pnOf ka EA KA = pnOf kb EB KB from HPN.out.trans HPB.out.symm)
  have HRB := Lib.hid (show (pnOf kb EB KB).right d = true from by rw [HPB.out]; exact HRT.out)
  have HBB := Lib.hid (show (pnOf kb EB KB).bytes = B from by rw [HPB.out]; exact HBY.out)
  have HFW := Lib.hid (few_of_right EB6.out KB6.out HRB.out)
  have HLV := Lib.hid (show ∀ k ∈ KB, 0 ≤ k.live ∧ 0 ≤ k.size from fun k hk => by
    have h := right_kid ((PN.kinds HRB.out).2.2.1 k.pk (List.mem_map.2 ⟨k, hk, rfl⟩))
    exact ⟨h.1.1, h.2.1.1⟩)
  have HT6 := Lib.hid (HB2.out.later HB6.out)
  clear HPN HPB HEQN HBY HRT HDEC HRD HG HG8
  go_upto_region 9 with fail
  refine wp_region_held_drew (S := fun w' => Below w6.heap.size w6 w') (by kernel_rfl) (Below.refl _ _).drew (fun hHeld => ?_)
  refine wpAnyH_take (i := 0) (oi := ⟨some 35, .move (.tmp 6), _, _, _, _⟩) (v := ?_) rfl (by kernel_rfl) (by kernel_rfl) (by kernel_rfl) (fun _ _ _ h => h) (Or.inl ⟨by rfl, ?_⟩) (by assumption) ?_
  rotate_left
  · intro w' hSw
    go_simp
    try with_reducible rfl
  try simp only [Act.put, List.setIfInBounds_toArray, List.set_cons_zero, List.set_cons_succ]
  refine wpAnyH_take (i := 1) (oi := ⟨some 36, .binOp .eql 28 (.tmp 35) (.const (.int .i64 0)) 28, _, _, _, _⟩) (v := ?_) rfl (by kernel_rfl) (by kernel_rfl) (by kernel_rfl) (fun _ _ _ h => h) (Or.inl ⟨by rfl, ?_⟩) (by assumption) ?_
  rotate_left
  · intro w' hSw
    go_simp
    try with_reducible rfl
  try simp only [Act.put, List.setIfInBounds_toArray, List.set_cons_zero, List.set_cons_succ]
  refine wpAnyH_take (i := 2) (oi := ⟨some 37, .move (.tmp 36), _, _, _, _⟩) (v := ?_) rfl (by kernel_rfl) (by kernel_rfl) (by kernel_rfl) (fun _ _ _ h => h) (Or.inl ⟨by rfl, ?_⟩) (by assumption) ?_
  rotate_left
  · intro w' hSw
    go_simp
    try with_reducible rfl
  try simp only [Act.put, List.setIfInBounds_toArray, List.set_cons_zero, List.set_cons_succ]
  refine wpAnyH_take (i := 3) (oi := ⟨some 38, .load 27 (.tmp 5), _, _, _, _⟩) (v := ?_) rfl (by kernel_rfl) (by kernel_rfl) (by kernel_rfl) (fun _ _ _ h => h) (Or.inl ⟨by rfl, ?_⟩) (by assumption) ?_
  rotate_left
  · intro w' hSw
    obtain ⟨t0, t1, t2⟩ := (NA6.out.later hSw).cells
    go_simp
    try with_reducible rfl
  try simp only [Act.put, List.setIfInBounds_toArray, List.set_cons_zero, List.set_cons_succ]
  refine wpAnyH_take (i := 4) (oi := ⟨some 39, .load 27 (.tmp 7), _, _, _, _⟩) (v := ?_) rfl (by kernel_rfl) (by kernel_rfl) (by kernel_rfl) (fun _ _ _ h => h) (Or.inl ⟨by rfl, ?_⟩) (by assumption) ?_
  rotate_left
  · intro w' hSw
    obtain ⟨t0, t1, t2⟩ := (NB6.out.later hSw).cells
    go_simp
    try with_reducible rfl
  try simp only [Act.put, List.setIfInBounds_toArray, List.set_cons_zero, List.set_cons_succ]
  refine wpAnyH_ready (rs := [5]) (by kernel_rfl) (by simp) ?_
  refine AllReadyH.cons (o := ⟨some 40, .call ⟨.value (.func 8), #[.tmp 38, .tmp 39], #[27, 27]⟩, _, _, _, _⟩) rfl (fun K hK => ?_) AllReadyH.nil
  go_simp
  refine (samenode_any ka kb pa qa pb qb na ca ma fa nb cb mb fb EA EB KA KB _ (EA6.out.later hHeld) (KA6.out.later hHeld) (EB6.out.later hHeld) (KB6.out.later hHeld)).mono ?_
  rintro _ w9 ⟨rfl, b9⟩
  rw [show decide (pnOf ka EA KA = pnOf kb EB KB) = true from decide_eq_true HEQ.out]
  have hH := hHeld.trans (b9.mono hHeld.size)
  try go_wp2_with fail
  refine hK.out _ _ hH (fun hHeld => ?_)
  clear hK K
  try simp only [Act.put, List.setIfInBounds_toArray, List.set_cons_zero, List.set_cons_succ]
  clear b9
  refine wpAnyH_take (i := 6) (oi := ⟨some 41, .pick (.tmp 37) (.tmp 40) (.const (.bool false)), _, _, _, _⟩) (v := ?_) rfl (by kernel_rfl) (by kernel_rfl) (by kernel_rfl) (fun _ _ _ h => h) (Or.inl ⟨by rfl, ?_⟩) (by assumption) ?_
  rotate_left
  · intro w' hSw
    go_simp
    try with_reducible rfl
  try simp only [Act.put, List.setIfInBounds_toArray, List.set_cons_zero, List.set_cons_succ]
  refine wpAnyH_take (i := 7) (oi := ⟨some 42, .move (.tmp 41), _, _, _, _⟩) (v := ?_) rfl (by kernel_rfl) (by kernel_rfl) (by kernel_rfl) (fun _ _ _ h => h) (Or.inl ⟨by rfl, ?_⟩) (by assumption) ?_
  rotate_left
  · intro w' hSw
    go_simp
    try with_reducible rfl
  try simp only [Act.put, List.setIfInBounds_toArray, List.set_cons_zero, List.set_cons_succ]
  refine wpAnyH_take (i := 8) (oi := ⟨some 43, .load 27 (.tmp 7), _, _, _, _⟩) (v := ?_) rfl (by kernel_rfl) (by kernel_rfl) (by kernel_rfl) (fun _ _ _ h => h) (Or.inl ⟨by rfl, ?_⟩) (by assumption) ?_
  rotate_left
  · intro w' hSw
    obtain ⟨t0, t1, t2⟩ := (NB6.out.later hSw).cells
    go_simp
    try with_reducible rfl
  try simp only [Act.put, List.setIfInBounds_toArray, List.set_cons_zero, List.set_cons_succ]
  refine wpAnyH_take (i := 11) (oi := ⟨some 46, .move (.tmp 0), _, _, _, _⟩) (v := ?_) rfl (by kernel_rfl) (by kernel_rfl) (by kernel_rfl) (fun _ _ _ h => h) (Or.inl ⟨by rfl, ?_⟩) (by assumption) ?_
  rotate_left
  · intro w' hSw
    go_simp
    try with_reducible rfl
  try simp only [Act.put, List.setIfInBounds_toArray, List.set_cons_zero, List.set_cons_succ]
  refine wpAnyH_take (i := 12) (oi := ⟨some 47, .convert 22 9 (.tmp 46), _, _, _, _⟩) (v := ?_) rfl (by kernel_rfl) (by kernel_rfl) (by kernel_rfl) (fun _ _ _ h => h) (Or.inl ⟨by rfl, ?_⟩) (by assumption) ?_
  rotate_left
  · intro w' hSw
    have hc := convert_tx (HT6.out.later hSw)
    go_simp
    try with_reducible rfl
  try simp only [Act.put, List.setIfInBounds_toArray, List.set_cons_zero, List.set_cons_succ]
  refine wpAnyH_ready (rs := [9]) (by kernel_rfl) (by simp) ?_
  refine AllReadyH.cons (o := ⟨some 44, .call ⟨.value (.func 9), #[.tmp 43], #[27]⟩, _, _, _, _⟩) rfl (fun K hK => ?_) AllReadyH.nil
  go_simp
  refine (rbytes_any kb HKL.out pb nb cb qb mb fb EB KB _ (EB6.out.later hHeld) (KB6.out.later hHeld) HFW.out HLV.out).mono ?_
  rintro _ w10 ⟨q9, c9, rfl, o9, b10⟩
  rw [HBB.out] at o9 ⊢
  have hx9 := tx_of_owns o9 HOK.out
  have hH2 := hHeld.trans (b10.mono hHeld.size)
  try go_wp2_with fail
  refine hK.out _ _ hH2 (fun hHeld => ?_)
  clear hK K
  try simp only [Act.put, List.setIfInBounds_toArray, List.set_cons_zero, List.set_cons_succ]
  clear b10 o9
  refine wpAnyH_mono (S' := fun w' => Below w6.heap.size w6 w' ∧ Tx w' q9 B.length c9 B) (fun _ h => h.1) _ _ _ _ ?_
  have hHeld2 : Below w6.heap.size w6 w10 ∧ Tx w10 q9 B.length c9 B := ⟨hH2, hx9⟩
  refine wpAnyH_take (i := 10) (oi := ⟨some 45, .convert 22 9 (.tmp 44), _, _, _, _⟩) (v := ?_) rfl (by kernel_rfl) (by kernel_rfl) (by kernel_rfl) (fun _ _ _ h => h) (Or.inl ⟨by rfl, ?_⟩) (by assumption) ?_
  rotate_left
  · intro w' hSw
    have hc := convert_tx hSw.2
    go_simp
    try with_reducible rfl
  try simp only [Act.put, List.setIfInBounds_toArray, List.set_cons_zero, List.set_cons_succ]
  refine wpAnyH_take (i := 13) (oi := ⟨some 48, .binOp .eql 9 (.tmp 45) (.tmp 47) 9, _, _, _, _⟩) (v := ?_) rfl (by kernel_rfl) (by kernel_rfl) (by kernel_rfl) (fun _ _ _ h => h) (Or.inl ⟨by rfl, ?_⟩) (by assumption) ?_
  rotate_left
  · intro w' hSw
    refine Eq.trans (b := Result.ok (Next.value (.bool true)) w') ?_ ?_
    · go_simp
      try simp
    · with_reducible rfl
  try simp only [Act.put, List.setIfInBounds_toArray, List.set_cons_zero, List.set_cons_succ]
  refine wpAnyH_take (i := 14) (oi := ⟨some 49, .pick (.tmp 42) (.tmp 48) (.const (.bool false)), _, _, _, _⟩) (v := ?_) rfl (by kernel_rfl) (by kernel_rfl) (by kernel_rfl) (fun _ _ _ h => h) (Or.inl ⟨by rfl, ?_⟩) (by assumption) ?_
  rotate_left
  · intro w' hSw
    go_simp
    try with_reducible rfl
  try simp only [Act.put, List.setIfInBounds_toArray, List.set_cons_zero, List.set_cons_succ]
  refine wpAnyH_take (i := 15) (oi := ⟨some 4, .assign (.tmp 49), _, _, _, _⟩) (v := ?_) rfl (by kernel_rfl) (by kernel_rfl) (by kernel_rfl) (fun _ _ _ h => h) (Or.inl ⟨by rfl, ?_⟩) (by assumption) ?_
  rotate_left
  · intro w' hSw
    go_simp
    try with_reducible rfl
  try simp only [Act.put, List.setIfInBounds_toArray, List.set_cons_zero, List.set_cons_succ]
  refine wpAnyH_done (by kernel_rfl) ?_ _
  have HB9 := Lib.hid (HB6.out.trans (hHeld2.1.mono HB6.out.size))
  go_wp2_with fail
  go_ret
  first | exact ⟨rfl, (HU2.out.on HB9.out).1⟩ | exact ⟨rfl, (HU2.out.on HB9.out).1.drew⟩
end Go.Proofs.YtfkpgildeddhaaaGreat.Nd

/- Proved: whatever bytes and number it is handed, the Go function indenturelaw10.NodeReads returns true (which bytes are a node's, and of which, is the document's; writing it makes just these bytes), and each argument reads afterwards as it read before. Conditions: none beyond the given row's own. -/
namespace Go.Proofs.YtfkpgildeddhaaaGreat
open Go.ChangeShapes Go.WideShapes Go.ChangeAt Go.RowKit Go.Deep

set_option maxRecDepth 100000 in
theorem ndreads_lifted (os : Os) (started : os.Started) (H : Type) (enc : TypeId × Value → H) :
    ReturnsInHanded {} Tryz.checked os 3 .any (Rows.nodeReadsSpec.pre6 enc Tryz.prog Tryz.f3 Rows.nodeReadsRow.domain false) (Rows.nodeReadsSpec.post enc Tryz.prog Tryz.f3 false true false false) := by
  refine returnsInHanded_of_change (C := Tryz.checked) gen_own started (by kernel_rfl) Tryz.func3
    (ChangeSpec.witness6 (enc := enc) (C := Tryz.checked) false ⟨#[], #[.slice none 0 0, .int .i64 0], []⟩ 8 (by kernel_rfl) (by kernel_rfl) (by kernel_rfl) (by kernel_rfl)) ?_
  intro W base args ds gs before hval0 hW _ _
  have hval : ∀ (j : Nat) t v, Tryz.f3.params[j]? = some t → args[j]? = some v → Value.okWide Tryz.prog W .any base t v := hval0
  have hW' := hW
  obtain ⟨p, q, hA0, hV, rfl, _, _⟩ := hW
  have hA : DataW.TrodAll enc Tryz.prog W 0 (fun _ => true) true Tryz.f3.params.toList args.toList ds p := hA0
  rw [Tryz.params3] at hA hval
  obtain ⟨v0, vs0, d0, ds0, p0, q0, hargs, rfl, rfl, h0, r0⟩ := trodAll_cons hA
  obtain ⟨v1, vs1, d1, ds1, p1, q1, rfl, rfl, rfl, h1, r1⟩ := trodAll_cons r0
  obtain ⟨rfl, rfl, rfl⟩ := trodAll_nil r1
  obtain rfl : args = #[v0, v1] := by cases args; simp_all
  obtain ⟨rfl, rfl⟩ := trodVars_none hV
  obtain ⟨a0, len0, cap0, rfl⟩ := okWide_slice Tryz.underlying22 (hval 0 22 v0 rfl rfl)
  obtain ⟨n1, rfl, rfl, rfl, hn1⟩ := open_int Tryz.underlying3 (hval 1 3 v1 rfl rfl) h1
  have k0 := h0
  have k1 := h1
  have lt0 : ∀ x ∈ p0, x.block < W.heap.size := by obtain ⟨m, hm⟩ := k0; exact DataW.trod_lt m _ _ _ hm
  obtain ⟨⟨B0, hB0⟩, hl0⟩ : (∃ B, Tx W a0 len0 cap0 B) ∧ len0 ≤ 9223372036854775807 := by
    obtain ⟨fuel, hf⟩ := h0
    exact open_bytes hf
  have bn1 := bounds_i64 hn1
  clear hA0 hval0
  refine (Nd.reads_any B0 a0 len0 cap0 hl0 n1 bn1 W hB0).mono fun e W' ⟨he, bel⟩ => ?_
  subst he
  exact ⟨_, rfl, _, _, _, [], _, [], hW', trodAll_mk1 (shut_bool Tryz.underlying4 _),
    (trodAll_cons_mk (Below.trod gen_laidOut (by kernel_rfl) (of_decide_eq_true (by kernel_rfl)) k0 bel lt0) (trodAll_cons_mk (Below.trod gen_laidOut (by kernel_rfl) (of_decide_eq_true (by kernel_rfl)) k1 bel (fun x hx => by cases hx)) trodAll_mk0)), rfl, bel.frame _, fun h => by cases h⟩
theorem ndreads_holds : Rows.NodeReadsSaid :=
  OpenClaim.holds_of_wide 3 Tryz.f3 rfl rfl rfl rfl rfl rfl rfl ⟨rfl, rfl, rfl, rfl, rfl⟩ rfl rfl rfl rfl rfl (by kernel_rfl) Tryz.func3 (by kernel_rfl)
    (of_decide_eq_true (by kernel_rfl)) (by unfold Func.isWrapper; first | (rw [if_pos (by decide +kernel)]; kernel_rfl) | (rw [if_neg (by decide +kernel)]; exact ⟨rfl, rfl⟩))
    (fun os started H enc _ => ndreads_lifted os started H enc)
end Go.Proofs.YtfkpgildeddhaaaGreat
