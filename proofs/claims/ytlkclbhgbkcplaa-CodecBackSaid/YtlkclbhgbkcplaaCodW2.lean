/- The contracts of codec.Writer: Text, Digest, Row, Bytes, Err; bytes.Clone. -/
import Derived.Test.YtlkclbhgbkcplaaGenDg
import Derived.Test.YtlkclbhgbkcplaaCodW
namespace Go.Proofs.Ytlkclbhgbkcplaa
open Go.RowKit

theorem St.count_len (s : St) (n : Int) : (s.count n).B.length ≤ s.B.length + 3 := by
  unfold St.count
  split
  · have := St.put_len s (Cm.be n.toNat 3)
    rw [Cm.be_length] at this
    exact this
  · simp [St.no]
set_option maxRecDepth 100000 in
set_option maxHeartbeats 1000000 in
theorem text_any (s : St) (T : List Nat) (p : Option Addr) (n c : Nat) (base g : Nat) (v : Value) (w : World) (hs : WS w base g v s) (hT : Tx w p n c T) (hl : s.B.length + (3 + T.length) < 1099511627776) (hbw : base ≤ w.heap.size)
    (hg : ∀ x, p = some x → T ≠ [] → x.block ≠ g ∧ v.ownBlock ≠ some x.block) :
    Calls Try.prog 15 #[.pointer (some ⟨g, 0, none⟩), .slice p n c] w (WPost w base g v (s.text T)) := by
  have HS := Lib.hid hs
  have HT := Lib.hid hT
  have HL := Lib.hid hl
  have HG := Lib.hid hg
  have hn := hT.size
  have HN := Lib.hid hn
  clear hs hT hl hn hg
  go_enter Try.func15, Try.ntmps15
  go_wp2_with fail
  refine (count_any s n (by omega) (by have := HL.out; have := HN.out; omega) base g v _ HS.out (by have := HL.out; omega) hbw).mono ?_
  rintro e w1 hp
  obtain ⟨rfl, v2, h3, h4⟩ := hp
  have H3 := Lib.hid h3
  have H4 := Lib.hid h4
  have HT2 := Lib.hid (HT.out.step h4 HG.out)
  clear h3 h4
  go_wp2_with fail
  refine (put_any (s.count n) T base g v2 p n c _ H3.out HT2.out (by have := St.count_len s n; have := HL.out; omega) (Nat.le_trans hbw H4.out.size)).mono ?_
  rintro e w3 hp
  obtain ⟨rfl, v3, h5, h6⟩ := hp
  have H5 := Lib.hid h5
  have H6 := Lib.hid (H4.out.trans h6)
  clear h5 h6
  go_wp2_with fail
  go_end0
  refine ⟨rfl, v3, ?_, H6.out⟩
  unfold St.text
  rw [← HN.out]
  exact H5.out
theorem arr_slice (g : Nat) (w : World) : (Instr.sliceAt 30 (.pointer (some ⟨g, 0, none⟩)) none none none).run Try.prog w = .ok (.slice (some ⟨g, 0, none⟩) 32 32) w := by
  have hl : Try.prog.arrayLen 30 = 32 := by simp [Program.arrayLen]
  have he : Try.prog.elem 30 = 5 := by simp [Program.elem]
  have h1 := run_sliceAt_array_all (P := Try.prog) w 30 ⟨g, 0, none⟩ (by rw [hl, he]; exact A25)
  obtain ⟨i5, hi, _, hi1, _⟩ := info_parts I5
  have hs : (sizeOf 5).run Try.prog w = .ok 1 w := by simp [sizeOf, typeInfo, hi, hi1]
  rw [h1, hl, he, hs]
  simp [slicedAt, Addr.add]
set_option maxRecDepth 100000 in
set_option maxHeartbeats 1000000 in
theorem digestw_any (s : St) (d : List Nat) (hd : d.length = 32) (hdb : Sm.allB d) (base g : Nat) (v : Value) (w : World) (hs : WS w base g v s) (hl : s.B.length + 32 < 1099511627776) (hbw : base ≤ w.heap.size) :
    Calls Try.prog 17 #[.pointer (some ⟨g, 0, none⟩), .agg (u8s d)] w (WPost w base g v (s.put d)) := by
  have hsl := fun w' => arr_slice w.heap.size w'
  have hsa := hs.later ((Below.refl w.heap.size w).alloc (Nat.le_refl _) (.cells (u8s d) 30))
  have hB : Tx (w.alloc (.cells (u8s d) 30)) (some ⟨w.heap.size, 0, none⟩) d.length d.length d := (Bytes.row (L := d) (heap_alloc_new w _) hdb).tx
  rw [hd] at hB
  have HA := Lib.hid (WStep.alloc w g v (.cells (u8s d) 30))
  have HSA := Lib.hid hsa
  have HB := Lib.hid hB
  have HD := Lib.hid hd
  clear hsa hB hs hd
  go_enter Try.func17, Try.ntmps17
  go_wp2_with fail
  refine (put_any s d base g v _ 32 32 _ HSA.out HB.out (by have := HD.out; omega) (by simp; omega)).mono ?_
  rintro e w1 hp
  obtain ⟨rfl, v2, h3, h4⟩ := hp
  have H3 := Lib.hid h3
  have H4 := Lib.hid (HA.out.trans h4)
  clear h3 h4
  go_wp2_with fail
  go_end0
  exact ⟨rfl, v2, H3.out, H4.out⟩
set_option maxHeartbeats 1000000 in
theorem werr_any (s : St) (base g : Nat) (v : Value) (w : World) (hs : WS w base g v s) :
    Calls Try.prog 20 #[.pointer (some ⟨g, 0, none⟩)] w fun e w' => e = .returned (.int .i64 s.e) ∧ w = w' := by
  have h1 := hs.err
  clear hs
  go_enter Try.func20, Try.ntmps20
  go_wp2_with fail
  go_ret
  exact ⟨rfl, rfl⟩
def ClonePost (w : World) (B : List Nat) (e : Ending) (w' : World) : Prop := ∃ q c, e = .returned (.slice q B.length c) ∧ w'.ownsRow w.heap.size 5 1 (.slice q B.length c) B.length (vals B) ∧ Below w.heap.size w w'
set_option maxRecDepth 100000 in
set_option maxHeartbeats 1000000 in
theorem clone_any (B : List Nat) (p : Option Addr) (n c : Nat) (w : World) (hB : Tx w p n c B) (hl : n < 1099511627776) :
    Calls Try.prog 38 #[.slice p n c] w (ClonePost w B) := by
  have heq := fun w' => Lib.run_eql_slice_nil (P := Try.prog) w' 25 5 p n c 0 0 A22
  have hn := hB.size
  have hle := hB.le
  have HN := Lib.hid hn
  have HB := Lib.hid hB
  rcases hB.at' with ⟨hp, hc⟩ | ⟨x, hp, _⟩
  · subst hp
    subst hc
    obtain rfl : n = 0 := by omega
    have hB0 : B = [] := List.length_eq_zero_iff.1 hn.symm
    subst hB0
    clear hn hB
    go_enter Try.func38, Try.ntmps38
    go_wp2_with fail
    go_ret
    exact ⟨none, 0, rfl, World.ownsRow_nil _ _ _ _, Below.refl _ _⟩
  · subst hp
    obtain ⟨i5, hi, hi0, hi1, hi2⟩ := info_parts I5
    have HI := Lib.hid hi
    have HI0 := Lib.hid hi0
    have HI1 := Lib.hid hi1
    have HI2 := Lib.hid hi2
    clear hi hi0 hi1 hi2 hn hB hle
    have hE : (w.alloc (.cells #[] 5)).ownsRow w.heap.size 5 1 (.slice (some ⟨w.heap.size, 0, none⟩) 0 0) 0 (vals ([] : List Nat)) := owns_mk (L := []) (heap_alloc_new w _) rfl (Nat.le_refl _) (by unfold maxLen; omega) (Nat.le_refl _)
    have HE := Lib.hid hE
    clear hE
    go_enter Try.func38, Try.ntmps38
    go_wp2_with (at_builtin; refine wpList_append_own _ (by rfl) (.tmp 5) (.tmp 6) 25 (by rfl) w.heap.size 5 i5 (.int .u8 0) 1 1 A22 HI.out HI0.out HI1.out HI2.out (by rfl) (by decide) _ 0 [] (by rfl) HE.out x n c (vals B) (by rfl) (by rw [vals_length, Nat.mul_one]; exact HN.out.symm) ((HB.out.later ((Below.refl _ _).alloc (Nat.le_refl _) _)).cells) (vals_one _) (by unfold maxLen; omega) (by omega) (by simp) ?_; intro v2 w2 hown2 hgrow2 _; obtain ⟨q2, c2, hv2⟩ := slice_of_owns hown2; have HO3 := Lib.hid hown2; have HG3 := Lib.hid hgrow2; have HV3 := Lib.hid hv2; rw [hv2]; clear hown2 hgrow2 hv2)
    go_ret
    have e : n = B.length := HN.out
    subst e
    have ho := HO3.out
    rw [HV3.out, Nat.zero_add] at ho
    exact ⟨q2, c2, rfl, ho, ((Below.refl w.heap.size w).alloc (Nat.le_refl _) _).grown HG3.out (by simp) (fun k hk => by simp [Value.ownBlock] at hk; omega)⟩
set_option maxHeartbeats 1000000 in
theorem wbytes_any (s : St) (base g : Nat) (v : Value) (w : World) (hs : WS w base g v s) (hl : s.B.length < 1099511627776) :
    Calls Try.prog 21 #[.pointer (some ⟨g, 0, none⟩)] w (ClonePost w s.B) := by
  obtain ⟨q0, c0, hv0, hb⟩ := owns_form hs.own hs.ok
  subst hv0
  have h0 := hs.out
  have HB := Lib.hid hb.tx
  clear hs hb
  go_enter Try.func21, Try.ntmps21
  go_wp2_with fail
  refine (clone_any s.B q0 _ c0 _ HB.out hl).mono ?_
  rintro e w1 hp
  obtain ⟨q, c, rfl, ho, hb⟩ := hp
  have HO := Lib.hid ho
  have HB1 := Lib.hid hb
  clear ho hb
  go_wp2_with fail
  go_ret
  exact ⟨q, c, rfl, HO.out, HB1.out⟩
end Go.Proofs.Ytlkclbhgbkcplaa
