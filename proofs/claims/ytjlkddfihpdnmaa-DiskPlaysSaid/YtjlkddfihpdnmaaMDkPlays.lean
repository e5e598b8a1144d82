/- Proved: whatever number and script it is handed, the Go function indenturelaw07.DiskPlays returns true (whatever is written, read, and dies: each answer, and all bytes, are the document's), and each argument reads afterwards as it read before. Conditions: none beyond the given row's own. -/
import Derived.Test.YtjlkddfihpdnmaaM2
import Derived.Deep.CutBlock
import Derived.Deep.CutRange
/- The law DiskPlays, over whatever disk keeps the contracts. -/
namespace Go.Proofs.Ytjlkddfihpdnmaa.Dk
open Go.RowKit

variable {PD : World → Nat → (Nat → Prop) → D → Prop}
theorem Ops.five {w : World} {go oo n c : Nat} {L : List Op} (h : Ops w (some ⟨go, oo, none⟩) n c L) {k : Nat} (hk : k < n) : ∃ t : Op, t.Ok w ∧ w.rangeAt go (oo + k * 5) t.cells := by
  obtain ⟨g, o, hp, hx⟩ := h.at' (by omega)
  cases hp
  obtain ⟨h1, h2⟩ := hx k hk
  exact ⟨_, h2, h1⟩
theorem Ops.base {w : World} {p : Option Addr} {n c : Nat} {L : List Op} (h : Ops w p n c L) (hn : n ≠ 0) : ∃ g o, p = some ⟨g, o, none⟩ := by
  obtain ⟨g, o, hp, _⟩ := h.at' hn
  exact ⟨g, o, hp⟩
def PR (PD : World → Nat → (Nat → Prop) → D → Prop) (w : World) (g gr qr n : Nat) (i : Value) (wr : World) : Prop :=
  ∃ (k : Nat) (P : Nat → Prop) (s : D), k ≤ n ∧ k ≤ 80 ∧ i = .int .i64 k ∧ Both PD w wr g P s gr qr s ∧ s.writes ≤ k
set_option maxRecDepth 100000 in
set_option maxHeartbeats 4000000 in
theorem plays_any (A : Api PD) (a : Nat) (p : Option Addr) (n c : Nat) (L : List Op) (w : World) (ha : a < 256) (hL : Ops w p n c L) (hn : n ≤ 9223372036854775807) :
    Calls Try.prog 3 #[.int .u8 a, .slice p n c] w fun e w' => e = .returned (.bool true) ∧ Below w.heap.size w w' := by
  have HL := Lib.hid hL
  have hnc := hL.le
  have t20 : (a : Int).tmod 20 = ((a % 20 : Nat) : Int) := by rw [Int.tmod_eq_emod_of_nonneg (by omega)]; omega
  have h20 : a % 20 < 20 := by omega
  clear hL
  go_enter Try.func3, Try.ntmps3
  go_wp2_with fail
  refine (alive_any A w).mono ?_
  rintro e w1 ⟨rfl, b1⟩
  have B1 := Lib.hid b1
  clear b1
  generalize a % 20 = b at *
  go_wp2_with fail
  refine (A.new b w1 (by omega) (by omega)).mono ?_
  rintro e w2 ⟨g, P, rfl, d2, p2, b2⟩
  rw [show (b : Int).toNat = b from rfl] at d2
  have O2 := Lib.hid (show Own PD w w2 g P (D.new b) from ⟨d2, fun k hk => Nat.le_trans B1.out.size (p2 k hk), B1.out.trans (b2.mono B1.out.size)⟩)
  clear d2 p2 b2 B1
  go_wp2_with fail
  refine (rnew_any b w2 (by omega)).mono ?_
  rintro e w3 ⟨rfl, r3, b3⟩
  have HB := Lib.hid (show Both PD w w3 g P (D.new b) (w2.heap.size + 1) w2.heap.size (D.new b) from ⟨O2.out.later A b3, r3, ⟨Nat.le_succ_of_le O2.out.low.size, O2.out.low.size⟩, fun e => by have := A.lt O2.out.disk _ e; omega, fun e => by have := A.lt O2.out.disk _ e; omega⟩)
  clear r3 b3 O2
  generalize w2.heap.size + 1 = gr at *
  generalize w2.heap.size = qr at *
  have HK := Lib.hid (show ∀ w', Below w3.heap.size w3 w' → Below w3.heap.size w3 w' ∧ w'.cell? ⟨gr, 1, none⟩ = some (.int .i64 b) from fun w' hb => ⟨hb, (HB.out.later A hb).ref.c1⟩)
  have DL := A.len (HB.out.later A (Below.refl _ _).drew).own.disk
  rw [show (D.new b).n = b from rfl] at DL
  have HDL := Lib.hid DL
  clear DL
  go_wp2_with fail
  go_region_held3 (fun w' => Below w3.heap.size w3 w' ∧ w'.cell? ⟨gr, 1, none⟩ = some (.int .i64 b)) (first | assumption | exact HK.out _ (Below.refl _ _).drew) ((first
    | (go_at_call 10; refine HDL.out.mono ?_; rintro _ w4 ⟨rfl, b4⟩; have b4' := (Below.refl w3.heap.size w3).drew.trans (b4.mono (Nat.le_refl _)); have k4 := HK.out _ b4')))
  have H4 := Lib.hid (HB.out.later A b4')
  clear b4 b4' k4 HK HB
  go_upto_region 7 with fail
  go_wp2_with fail
  go_loopw [8] (fun i wr => PR PD w g gr qr n i wr) (fun i _ => 80 - (intOf i).toNat)
  case atStart => exact ⟨0, P, _, by omega, by omega, rfl, H4.out, Nat.le_refl _⟩
  case round =>
    obtain ⟨k, P, s, hk, hk80, rfl, hB, hsw⟩ := hrel
    have HB := Lib.hid hB
    clear hB
    by_cases hlt : k < n
    · have l1 : (k : Int) < n := by omega
      by_cases hlt2 : k < 80
      · have l2 : (k : Int) < 80 := by omega
        obtain ⟨go, oo, rfl⟩ := HL.out.base (by omega)
        obtain ⟨t, tok, tr⟩ := HL.out.five hlt
        have cell : ∀ {a : Addr} {v : Value}, w.cell? a = some v → wr.cell? a = some v := fun h => (HB.out.own.low.cell (block_lt_of_cell h)).trans h
        have c0 := cell (tr 0 _ rfl)
        have c1 := cell (tr 1 _ rfl)
        have c2 := cell (tr 2 _ rfl)
        have c3 := cell (tr 3 _ rfl)
        have c4 := cell (tr 4 _ rfl)
        rw [Nat.add_zero] at c0
        clear cell
        have i1 : (0 : Int) ≤ k ∧ (k : Int) < n := by omega
        have TOK := Lib.hid tok
        have TR := Lib.hid tr
        clear tok tr
        go_upto_region 11 with fail
        rw [show (#[.int .u8 t.kind, .int .i64 t.i, .slice t.bp t.bn t.bc, .bool t.whole, .int .i64 t.torn] : Array Value) = t.cells.toArray from rfl]
        have hba : Below wr.heap.size wr (wr.alloc (.cells t.cells.toArray 35)) := (Below.refl _ _).alloc (Nat.le_refl _) _
        have HR := Lib.hid (show Rd PD w (wr.alloc (.cells t.cells.toArray 35)) g P s gr qr s wr.heap.size t from
          ⟨HB.out.later A hba, heap_alloc_new wr _, HB.out.own.low.size, fun e => Nat.lt_irrefl _ (A.lt HB.out.own.disk _ e), fun e => by have := HB.out.ref.lt.1; omega, fun e => by have := HB.out.ref.lt.2; omega⟩)
        clear hba c0 c1 c2 c3 c4 HB
        generalize wr.alloc (.cells t.cells.toArray 35) = wa at *
        generalize wr.heap.size = gx at *
        have c0 : wa.cell? ⟨gx, 0, none⟩ = some (.int .u8 t.kind) := HR.out.cell 0
        have c2 : wa.cell? ⟨gx, 2, none⟩ = some (.slice t.bp t.bn t.bc) := HR.out.cell 2
        by_cases hbn : (t.bn : Int) > 300
        · go_wp2_with fail
          go_ret
          exact ⟨rfl, HR.out.low⟩
        · have hkind := TOK.out.kind
          have t8 : (t.kind : Int).tmod 8 = ((t.kind % 8 : Nat) : Int) := by rw [Int.tmod_eq_emod_of_nonneg (by omega)]; omega
          have hr8 : t.kind % 8 < 8 := by omega
          generalize t.kind % 8 = x at *
          go_upto_block 2 with fail
          clear c0 c2 t8 hkind
          have HBN := Lib.hid (show t.bn ≤ 300 from by omega)
          clear hbn
          go_cut [10, 11, 12, 13, 14, 15, 16] from 41 to 191 (fun _ _ _ _ _ _ _ wx => ∃ (P' : Nat → Prop) (s' : D), Both PD w wx g P' s' gr qr s' ∧ s'.writes ≤ k + 1)
          case first =>
            by_cases h6 : x = 6
            · subst h6
              have c1 : wa.cell? ⟨gx, 1, none⟩ = some (.int .i64 t.i) := HR.out.cell 1
              have c4 : wa.cell? ⟨gx, 4, none⟩ = some (.int .i64 t.torn) := HR.out.cell 4
              go_wp2_with fail
              refine (A.fuse t.i t.torn HR.out.both.own.disk (by have := TOK.out.i; omega)).mono ?_
              rintro e w5 ⟨rfl, ⟨P5, d5, p5⟩, o5⟩
              have HR5 := Lib.hid (HR.out.prog d5 p5 o5)
              clear d5 p5 o5 c1 c4
              have c1 : w5.cell? ⟨gx, 1, none⟩ = some (.int .i64 t.i) := HR5.out.cell 1
              have c4 : w5.cell? ⟨gx, 4, none⟩ = some (.int .i64 t.torn) := HR5.out.cell 4
              go_wp2_with fail
              refine (rfuse_any s t.i t.torn gr qr w5 HR5.out.both.ref (by have := TOK.out.i; omega)).mono ?_
              rintro e w6 ⟨rfl, d6, o6⟩
              have HR6 := Lib.hid (HR5.out.refs A d6 o6)
              clear d6 o6 c1 c4
              go_wp2_with fail
              go_meet
              exact ⟨P5, _, HR6.out.both, by show s.writes ≤ k + 1; omega⟩
            · by_cases h7 : x = 7
              · subst h7
                go_wp2_with fail
                refine (A.wake HR.out.both.own.disk).mono ?_
                rintro e w5 ⟨rfl, ⟨P5, d5, p5⟩, o5⟩
                have HR5 := Lib.hid (HR.out.prog d5 p5 o5)
                clear d5 p5 o5
                go_wp2_with fail
                refine (rwake_any s gr qr w5 HR5.out.both.ref).mono ?_
                rintro e w6 ⟨rfl, d6, o6⟩
                have HR6 := Lib.hid (HR5.out.refs A d6 o6)
                clear d6 o6
                go_wp2_with fail
                go_meet
                exact ⟨P5, _, HR6.out.both, by show s.writes ≤ k + 1; omega⟩
              · by_cases h4 : x = 4
                · subst h4
                  have c1 : wa.cell? ⟨gx, 1, none⟩ = some (.int .i64 t.i) := HR.out.cell 1
                  go_wp2_with fail
                  refine (A.read t.i HR.out.both.own.disk).mono ?_
                  rintro e w5 ⟨p5, n5, c5, rfl, m5, b5⟩
                  have HR5 := Lib.hid (HR.out.later A b5)
                  have M5 := Lib.hid m5
                  have AB := Lib.hid (HR.out.above A)
                  have AS := Lib.hid (show ∀ y, p5 = some y → Aside w P gr qr gx y.block from fun y hy => AB.out.aside (M5.out.base y hy))
                  have hn5 : n5 ≤ 64 := by have := m5.size; have := D.gives_le HR.out.both.ref.ok t.i; omega
                  have hc5 : n5 ≤ c5 := m5.le
                  clear m5 b5 c1
                  have c1 : w5.cell? ⟨gx, 1, none⟩ = some (.int .i64 t.i) := HR5.out.cell 1
                  go_wp2_with fail
                  refine (rread_tx s t.i gr qr w5 HR5.out.both.ref).mono ?_
                  rintro e w6 ⟨rfl, p6, n6, c6, rfl, t6⟩
                  have hv1 := convert_tx M5.out.tx
                  have hv2 := convert_tx t6
                  clear t6 c1
                  generalize wa.heap.size = base at *
                  generalize s.no t.i 64 = no at *
                  go_upto_region 37 with fail
                  clear hv1 hv2
                  go_wp2_with fail
                  go_loopw [14] (fun i wr => Over PD w g P s gr qr gx t base p5 n5 i wr) (fun i _ => n5 - (intOf i).toNat)
                  case atStart => exact ⟨0, Nat.zero_le _, rfl, HR5.out, M5.out.soft⟩
                  case round =>
                    obtain ⟨j, hj, rfl, hRj, hS⟩ := hrel
                    have HRJ := Lib.hid hRj
                    clear hRj
                    by_cases hjn : j < n5
                    · have l3 : (j : Int) < n5 := by omega
                      obtain ⟨gb, ob, rfl, hgb, _, hf, z, hz, hc⟩ := hS.cell hjn
                      have i3 : (0 : Int) ≤ j ∧ (j : Int) < n5 := by omega
                      have q3 : IntKind.u8.wrap ((z : Int) + 1) = (((z + 1) % 256 : Nat) : Int) := by rw [IntKind.wrap_u8']; omega
                      have HS := Lib.hid (hS.set j (z := (z + 1) % 256) (Nat.mod_lt _ (by omega)))
                      have HO := Lib.hid (Only.setCell (P := fun k => k = gb) ‹World› (a := ⟨gb, ob + j, none⟩) rfl (.int .u8 (((z + 1) % 256 : Nat) : Int)))
                      clear hS hgb
                      generalize (z + 1) % 256 = y at *
                      go_wp2_with fail
                      go_roundw
                      case rel => exact ⟨j + 1, by omega, by go_num, HRJ.out.wrote A (AS.out _ rfl) HO.out, HS.out⟩
                      case measure => simp [intOf]; omega
                    · obtain rfl : j = n5 := by omega
                      go_wp2_with fail
                      go_meet
                      exact ⟨_, _, HRJ.out.both, by omega⟩
                · by_cases h5 : x = 5
                  · subst h5
                    have c1 : wa.cell? ⟨gx, 1, none⟩ = some (.int .i64 t.i) := HR.out.cell 1
                    go_wp2_with fail
                    refine (A.read t.i HR.out.both.own.disk).mono ?_
                    rintro e w5 ⟨p5, n5, c5, rfl, m5, b5⟩
                    have HR5 := Lib.hid (HR.out.later A b5)
                    have M5 := Lib.hid m5
                    have AB := Lib.hid (HR.out.above A)
                    have AS := Lib.hid (show ∀ y, p5 = some y → Aside w P gr qr gx y.block from fun y hy => AB.out.aside (M5.out.base y hy))
                    have hn5 : n5 ≤ 64 := by have := m5.size; have := D.gives_le HR.out.both.ref.ok t.i; omega
                    have hc5 : n5 ≤ c5 := m5.le
                    clear m5 b5 c1
                    have c1 : w5.cell? ⟨gx, 1, none⟩ = some (.int .i64 t.i) := HR5.out.cell 1
                    go_wp2_with fail
                    refine (rread_tx s t.i gr qr w5 HR5.out.both.ref).mono ?_
                    rintro e w6 ⟨rfl, p6, n6, c6, rfl, t6⟩
                    have hv1 := convert_tx M5.out.tx
                    have hv2 := convert_tx t6
                    clear t6 c1
                    generalize wa.heap.size = base at *
                    generalize s.no t.i 64 = no at *
                    go_upto_region 37 with fail
                    clear hv1 hv2
                    go_wp2_with fail
                    go_loopw [14] (fun i wr => Over PD w g P s gr qr gx t base p5 n5 i wr) (fun i _ => n5 - (intOf i).toNat)
                    case atStart => exact ⟨0, Nat.zero_le _, rfl, HR5.out, M5.out.soft⟩
                    case round =>
                      obtain ⟨j, hj, rfl, hRj, hS⟩ := hrel
                      have HRJ := Lib.hid hRj
                      clear hRj
                      by_cases hjn : j < n5
                      · have l3 : (j : Int) < n5 := by omega
                        obtain ⟨gb, ob, rfl, hgb, _, hf, z, hz, hc⟩ := hS.cell hjn
                        have i3 : (0 : Int) ≤ j ∧ (j : Int) < n5 := by omega
                        have q3 : IntKind.u8.wrap ((z : Int) + 1) = (((z + 1) % 256 : Nat) : Int) := by rw [IntKind.wrap_u8']; omega
                        have HS := Lib.hid (hS.set j (z := (z + 1) % 256) (Nat.mod_lt _ (by omega)))
                        have HO := Lib.hid (Only.setCell (P := fun k => k = gb) ‹World› (a := ⟨gb, ob + j, none⟩) rfl (.int .u8 (((z + 1) % 256 : Nat) : Int)))
                        clear hS hgb
                        generalize (z + 1) % 256 = y at *
                        go_wp2_with fail
                        go_roundw
                        case rel => exact ⟨j + 1, by omega, by go_num, HRJ.out.wrote A (AS.out _ rfl) HO.out, HS.out⟩
                        case measure => simp [intOf]; omega
                      · obtain rfl : j = n5 := by omega
                        go_wp2_with fail
                        go_meet
                        exact ⟨_, _, HRJ.out.both, by omega⟩
                  · have r4 : ((x : Int) == 4) = false := by simp; omega
                    have r5 : ((x : Int) == 5) = false := by simp; omega
                    have r6 : ((x : Int) == 6) = false := by simp; omega
                    have r7 : ((x : Int) == 7) = false := by simp; omega
                    clear h4 h5 h6 h7
                    have AB := Lib.hid (HR.out.above A)
                    obtain ⟨i5, hi, hi0, hi1, hi2⟩ := info_parts I5
                    have HI := Lib.hid hi
                    have HI0 := Lib.hid hi0
                    have HI1 := Lib.hid hi1
                    have HI2 := Lib.hid hi2
                    clear hi hi0 hi1 hi2
                    have c2 : wa.cell? ⟨gx, 2, none⟩ = some (.slice t.bp t.bn t.bc) := HR.out.cell 2
                    go_upto_region 14 with fail
                    clear r4 r5 r6 r7
                    go_cut [15] from 41 to 191 (fun v wx => Fill PD w g P s gr qr gx t wa.heap.size v wx)
                    case first =>
                      have TB := Lib.hid ((TOK.out.b.later HR.out.low).later ((Below.refl wa.heap.size wa).alloc (Nat.le_refl _) (.cells #[] 5)))
                      have HO := Lib.hid (show (wa.alloc (.cells #[] 5)).ownsRow wa.heap.size 5 1 (.slice (some ⟨wa.heap.size, 0, none⟩) 0 0) 0 [] from owns_mk (L := []) (cap := 0) (n := 0) (heap_alloc_new wa (.cells (u8s []) 5)) rfl (Nat.le_refl _) (Nat.zero_le _) (Nat.le_refl _))
                      have HBA := Lib.hid ((Below.refl wa.heap.size wa).alloc (Nat.le_refl _) (.cells #[] 5))
                      have HRA := Lib.hid (HR.out.later A HBA.out)
                      have c2 : (wa.alloc (.cells #[] 5)).cell? ⟨gx, 2, none⟩ = some (.slice t.bp t.bn t.bc) := HRA.out.cell 2
                      have HSZ := Lib.hid TB.out.size
                      cases hbp : t.bp with
                      | none =>
                        obtain ⟨e1, e2⟩ : t.bn = 0 ∧ t.bc = 0 := by
                          have := TB.out.le
                          rcases TB.out.at' with ⟨_, h⟩ | ⟨x, h, _⟩
                          · omega
                          · rw [hbp] at h; cases h
                        rw [hbp, e1, e2] at c2
                        clear hbp e1 e2
                        go_wp2_with (at_builtin; refine wpList_append_own_none (by rfl) (.tmp 62) (.tmp 64) 31 (by rfl) wa.heap.size 5 i5 1 A22 HI.out _ 0 _ (by rfl) HO.out (by rfl) ?_)
                        go_meet
                        exact ⟨_, _, [], rfl, HO.out, (fun x hx => by cases hx), Nat.zero_le _, HRA.out, HBA.out.size⟩
                      | some ad =>
                        rw [hbp] at c2
                        have HAD := Lib.hid (show Tx (wa.alloc (.cells #[] 5)) (some ad) t.bn t.bc t.B from by rw [← hbp]; exact TB.out)
                        clear hbp
                        have HBN2 := Lib.hid (show t.bn * 1 ≤ 300 from by have := HBN.out; omega)
                        go_wp2_with (at_builtin; refine wpList_append_own_at _ (by rfl) (.tmp 62) (.tmp 64) 31 (by rfl) wa.heap.size 5 i5 (.int .u8 0) 1 1 A22 HI.out HI0.out HI1.out HI2.out (by rfl) (by decide) _ 0 _ (by rfl) HO.out ad t.bn t.bc (vals t.B) (by rfl) (by rw [vals_length, ← HAD.out.size, Nat.mul_one]) HAD.out.cells (vals_one _) (by unfold maxLen; have := HBN.out; omega) (by have := HBN.out; omega) HBA.out.size ?_; intro v7 w7 hown7 hgrow7 _ _; obtain ⟨q7, c7, rfl, _⟩ := owns_form hown7 HAD.out.ok; have O7 := Lib.hid hown7; have B7 := Lib.hid (grown_below HBA.out hgrow7 (Nat.le_refl _)); clear hown7 hgrow7)
                        go_meet
                        have O8 := O7.out
                        rw [Nat.zero_add, List.nil_append, HAD.out.size] at O8
                        exact ⟨q7, c7, t.B, by rw [HAD.out.size], O8, HAD.out.ok, by have := HBN.out; have := HAD.out.size; omega, HR.out.later A B7.out, B7.out.size⟩
                    case rest =>
                      have HF := Lib.hid hcut
                      clear hcut
                      go_wp2_with fail
                      generalize wa.heap.size = base at *
                      go_loopw [15] (fun v wr => Fill PD w g P s gr qr gx t base v wr) (fun v _ => 64 - lenOf v)
                      case atStart => exact HF.out
                      case round =>
                        obtain ⟨q, c7, B, rfl, hown, hok, hl, hR, hbs⟩ := hrel
                        have HOW := Lib.hid hown
                        have HOK := Lib.hid hok
                        have HRW := Lib.hid hR
                        have hle : B.length ≤ c7 := (own_mine hown hok).le
                        clear hown hok hR HF
                        have c3 : wr.cell? ⟨gx, 3, none⟩ = some (.bool t.whole) := HRW.out.cell 3
                        cases hwh : t.whole with
                        | false =>
                          rw [hwh] at c3
                          have M0 := Lib.hid (own_mine HOW.out HOK.out)
                          clear hwh
                          go_upto_region 19 with fail
                          have HRD := Lib.hid (HRW.out.later A (Below.refl _ _).drew)
                          have HMD := Lib.hid (M0.out.later (Below.refl _ _).drew)
                          have HW87 := Lib.hid (A.write t.i B q B.length c7 HRD.out.both.own.disk HMD.out.tx (fun x hx hP => by have := HMD.out.base x hx; have := AB.out.own _ hP; omega) (by omega))
                          have hSd : wr.drew.cell? ⟨gx, 1, none⟩ = some (.int .i64 t.i) := HRD.out.cell 1
                          have hsw9 := (s.write_n t.i B).2
                          refine wp_region_held_drew (S := fun w' => w'.cell? ⟨gx, 1, none⟩ = some (.int .i64 t.i)) (by kernel_rfl) hSd (fun hHeld => ?_)
                          refine wpAnyH_take (i := 0) (oi := ⟨some 83, .move (.tmp 5), _, _, _, _⟩) (v := ?_) rfl (by kernel_rfl) (by kernel_rfl) (by kernel_rfl) (fun _ _ _ h => h) (Or.inl ⟨by rfl, ?_⟩) (by assumption) ?_
                          rotate_left
                          · intro w' hSw
                            go_simp
                            try with_reducible rfl
                          try simp only [Act.put, List.setIfInBounds_toArray, List.set_cons_zero, List.set_cons_succ]
                          refine wpAnyH_take (i := 1) (oi := ⟨some 84, .fieldAddr 35 (.tmp 9) 1, _, _, _, _⟩) (v := ?_) rfl (by kernel_rfl) (by kernel_rfl) (by kernel_rfl) (fun _ _ _ h => h) (Or.inl ⟨by rfl, ?_⟩) (by assumption) ?_
                          rotate_left
                          · intro w' hSw
                            go_simp
                            try with_reducible rfl
                          try simp only [Act.put, List.setIfInBounds_toArray, List.set_cons_zero, List.set_cons_succ]
                          refine wpAnyH_take (i := 2) (oi := ⟨some 85, .load 3 (.tmp 84), _, _, _, _⟩) (v := ?_) rfl (by kernel_rfl) (by kernel_rfl) (by kernel_rfl) (fun _ _ _ h => h) (Or.inl ⟨by rfl, ?_⟩) (by assumption) ?_
                          rotate_left
                          · intro w' hSw
                            have hc := hSw
                            go_simp
                            try with_reducible rfl
                          try simp only [Act.put, List.setIfInBounds_toArray, List.set_cons_zero, List.set_cons_succ]
                          refine wpAnyH_take (i := 3) (oi := ⟨some 86, .move (.tmp 15), _, _, _, _⟩) (v := ?_) rfl (by kernel_rfl) (by kernel_rfl) (by kernel_rfl) (fun _ _ _ h => h) (Or.inl ⟨by rfl, ?_⟩) (by assumption) ?_
                          rotate_left
                          · intro w' hSw
                            go_simp
                            try with_reducible rfl
                          try simp only [Act.put, List.setIfInBounds_toArray, List.set_cons_zero, List.set_cons_succ]
                          refine wpAnyH_take (i := 5) (oi := ⟨some 88, .move (.tmp 7), _, _, _, _⟩) (v := ?_) rfl (by kernel_rfl) (by kernel_rfl) (by kernel_rfl) (fun _ _ _ h => h) (Or.inl ⟨by rfl, ?_⟩) (by assumption) ?_
                          rotate_left
                          · intro w' hSw
                            go_simp
                            try with_reducible rfl
                          try simp only [Act.put, List.setIfInBounds_toArray, List.set_cons_zero, List.set_cons_succ]
                          refine wpAnyH_take (i := 6) (oi := ⟨some 89, .fieldAddr 35 (.tmp 9) 1, _, _, _, _⟩) (v := ?_) rfl (by kernel_rfl) (by kernel_rfl) (by kernel_rfl) (fun _ _ _ h => h) (Or.inl ⟨by rfl, ?_⟩) (by assumption) ?_
                          rotate_left
                          · intro w' hSw
                            go_simp
                            try with_reducible rfl
                          try simp only [Act.put, List.setIfInBounds_toArray, List.set_cons_zero, List.set_cons_succ]
                          refine wpAnyH_take (i := 7) (oi := ⟨some 90, .load 3 (.tmp 89), _, _, _, _⟩) (v := ?_) rfl (by kernel_rfl) (by kernel_rfl) (by kernel_rfl) (fun _ _ _ h => h) (Or.inl ⟨by rfl, ?_⟩) (by assumption) ?_
                          rotate_left
                          · intro w' hSw
                            have hc := hSw
                            go_simp
                            try with_reducible rfl
                          try simp only [Act.put, List.setIfInBounds_toArray, List.set_cons_zero, List.set_cons_succ]
                          refine wpAnyH_take (i := 8) (oi := ⟨some 91, .move (.tmp 15), _, _, _, _⟩) (v := ?_) rfl (by kernel_rfl) (by kernel_rfl) (by kernel_rfl) (fun _ _ _ h => h) (Or.inl ⟨by rfl, ?_⟩) (by assumption) ?_
                          rotate_left
                          · intro w' hSw
                            go_simp
                            try with_reducible rfl
                          try simp only [Act.put, List.setIfInBounds_toArray, List.set_cons_zero, List.set_cons_succ]
                          refine wpAnyH_ready (rs := [4]) (by kernel_rfl) (by simp) ?_
                          refine AllReadyH.cons (o := ⟨some 87, .call ⟨.value (.func 17), #[.tmp 83, .tmp 85, .tmp 86], #[24, 3, 31]⟩, _, _, _, _⟩) rfl (fun K hK => ?_) AllReadyH.nil
                          go_simp
                          with_reducible refine HW87.out.mono ?_
                          rintro _ w87 ⟨rfl, ⟨P7, d7, p7⟩, o7⟩
                          have HR7 := Lib.hid (HRD.out.prog d7 p7 o7)
                          have M7 := Lib.hid (HMD.out.only o7 AB.out.own)
                          have AS := Lib.hid (show ∀ y, q = some y → Aside w P7 gr qr gx y.block from fun y hy => (AB.out.aside (HMD.out.base y hy)).turned p7 (HMD.out.lt y hy))
                          have hS87 : w87.cell? ⟨gx, 1, none⟩ = some (.int .i64 t.i) := HR7.out.cell 1
                          clear d7 p7 o7
                          try go_wp2_with fail
                          refine hK.out _ _ hS87 (fun hHeld => ?_)
                          clear hK K
                          try simp only [Act.put, List.setIfInBounds_toArray, List.set_cons_zero, List.set_cons_succ]
                          refine wpAnyH_ready (rs := [9]) (by kernel_rfl) (by simp) ?_
                          refine AllReadyH.cons (o := ⟨some 92, .call ⟨.value (.func 18), #[.tmp 88, .tmp 90, .tmp 91], #[28, 3, 31]⟩, _, _, _, _⟩) rfl (fun K hK => ?_) AllReadyH.nil
                          go_simp
                          with_reducible refine (rwrite_any s t.i B q B.length c7 gr qr w87 HR7.out.both.ref M7.out.tx (fun x hx => ⟨fun e => by have := M7.out.base x hx; have := AB.out.ref.1; omega, fun e => by have := M7.out.base x hx; have := AB.out.ref.2; omega⟩) (by omega)).mono ?_
                          rintro _ w92 ⟨rfl, d9, o9⟩
                          have HR9 := Lib.hid (HR7.out.refs A d9 o9)
                          have M9 := Lib.hid (M7.out.only o9 (fun k e => e.elim (fun e => by rw [e]; exact AB.out.ref.1) (fun e => by rw [e]; exact AB.out.ref.2)))
                          have hS92 : w92.cell? ⟨gx, 1, none⟩ = some (.int .i64 t.i) := HR9.out.cell 1
                          clear d9 o9
                          try go_wp2_with fail
                          refine hK.out _ _ hS92 (fun hHeld => ?_)
                          clear hK K
                          try simp only [Act.put, List.setIfInBounds_toArray, List.set_cons_zero, List.set_cons_succ]
                          refine wpAnyH_take (i := 10) (oi := ⟨some 93, .binOp .neq 3 (.tmp 87) (.tmp 92) 3, _, _, _, _⟩) (v := ?_) rfl (by kernel_rfl) (by kernel_rfl) (by kernel_rfl) (fun _ _ _ h => h) (Or.inl ⟨by rfl, ?_⟩) (by assumption) ?_
                          rotate_left
                          · intro w' hSw
                            go_simp
                            try with_reducible rfl
                          try simp only [Act.put, List.setIfInBounds_toArray, List.set_cons_zero, List.set_cons_succ]
                          refine wpAnyH_done (by kernel_rfl) ?_ _
                          clear hS92 hS87 hHeld hSd
                          go_wp2_with fail
                          go_loopw [16] (fun i wr => Over PD w g P7 (s.write t.i B) gr qr gx t base q B.length i wr) (fun i _ => B.length - (intOf i).toNat)
                          case atStart => exact ⟨0, Nat.zero_le _, rfl, HR9.out, M9.out.soft⟩
                          case round =>
                            obtain ⟨j, hj, rfl, hRj, hS⟩ := hrel
                            have HRJ := Lib.hid hRj
                            clear hRj
                            by_cases hjn : j < B.length
                            · have l3 : (j : Int) < B.length := by omega
                              obtain ⟨gb, ob, rfl, hgb, _, hf, z, hz, hc⟩ := hS.cell hjn
                              have i3 : (0 : Int) ≤ j ∧ (j : Int) < B.length := by omega
                              have q3 : IntKind.u8.wrap ((z : Int) + 1) = (((z + 1) % 256 : Nat) : Int) := by rw [IntKind.wrap_u8']; omega
                              have HS := Lib.hid (hS.set j (z := (z + 1) % 256) (Nat.mod_lt _ (by omega)))
                              have HO := Lib.hid (Only.setCell (P := fun k => k = gb) ‹World› (a := ⟨gb, ob + j, none⟩) rfl (.int .u8 (((z + 1) % 256 : Nat) : Int)))
                              clear hS hgb
                              generalize (z + 1) % 256 = y at *
                              go_wp2_with fail
                              go_roundw
                              case rel => exact ⟨j + 1, by omega, by go_num, HRJ.out.wrote A (AS.out _ rfl) HO.out, HS.out⟩
                              case measure => simp [intOf]; omega
                            · obtain rfl : j = B.length := by omega
                              go_wp2_with fail
                              go_meet
                              exact ⟨_, _, HRJ.out.both, by omega⟩
                        | true =>
                          rw [hwh] at c3
                          clear hwh
                          by_cases h64 : B.length < 64
                          · have l3 : (B.length : Int) < 64 := by omega
                            have q3 : IntKind.u8.wrap (B.length : Int) = (B.length : Int) := by rw [IntKind.wrap_u8']; omega
                            have HN := Lib.hid (heap_alloc_new wr (.cells (u8s [B.length]) 5))
                            have HBN := Lib.hid ((Below.refl wr.heap.size wr).alloc (Nat.le_refl _) (.cells (u8s [B.length]) 5))
                            have HRN := Lib.hid (HRW.out.later A HBN.out)
                            have HON := Lib.hid (owns_later HOW.out HBN.out)
                            have HK9 := Lib.hid (show Sm.allB (B ++ [B.length]) from fun x hx => by
                              rcases List.mem_append.1 hx with hx | hx
                              · exact HOK.out x hx
                              · simp at hx; omega)
                            go_wp2_with (at_builtin; refine wpList_append_own_at _ (by rfl) (.tmp 73) (.tmp 77) 31 (by rfl) base 5 i5 (.int .u8 0) 1 1 A22 HI.out HI0.out HI1.out HI2.out (by rfl) (by decide) _ B.length _ (by rfl) HON.out ⟨wr.heap.size, 0, none⟩ 1 1 (vals [B.length]) (by rfl) (by rw [vals_length, Nat.mul_one]; rfl) (cells_of_row (L := [B.length]) HN.out) (vals_one _) (by unfold maxLen; omega) (by omega) (Nat.le_trans hbs HBN.out.size) ?_; intro v7 w7 hown7 hgrow7 _ _; rw [← vals_append] at hown7; obtain ⟨q8, c8, rfl, _⟩ := owns_form hown7 HK9.out; have O7 := Lib.hid hown7; have G7 := Lib.hid (own_only HON.out hgrow7); clear hown7 hgrow7)
                            go_roundw
                            case rel =>
                              have O8 := O7.out
                              exact ⟨q8, c8, B ++ [B.length], by simp, by simpa using O8, HK9.out, by simp; omega, HRN.out.grew A AB.out G7.out, Nat.le_trans (Nat.le_trans hbs HBN.out.size) G7.out.size⟩
                            case measure => simp [lenOf]; omega
                          · have l3 : ¬ (B.length : Int) < 64 := by omega
                            have s1 : 64 ≤ c7 := by omega
                            have s2 : (64 : Int) ≤ c7 := by omega
                            have M0 := Lib.hid ((own_mine HOW.out HOK.out).take (m := 64) (by omega))
                            go_upto_region 19 with fail
                            have HRD := Lib.hid (HRW.out.later A (Below.refl _ _).drew)
                            have HMD := Lib.hid (M0.out.later (Below.refl _ _).drew)
                            have HW87 := Lib.hid (A.write t.i (B.take 64) q 64 c7 HRD.out.both.own.disk HMD.out.tx (fun x hx hP => by have := HMD.out.base x hx; have := AB.out.own _ hP; omega) (by omega))
                            have hSd : wr.drew.cell? ⟨gx, 1, none⟩ = some (.int .i64 t.i) := HRD.out.cell 1
                            have hsw9 := (s.write_n t.i (B.take 64)).2
                            refine wp_region_held_drew (S := fun w' => w'.cell? ⟨gx, 1, none⟩ = some (.int .i64 t.i)) (by kernel_rfl) hSd (fun hHeld => ?_)
                            refine wpAnyH_take (i := 0) (oi := ⟨some 83, .move (.tmp 5), _, _, _, _⟩) (v := ?_) rfl (by kernel_rfl) (by kernel_rfl) (by kernel_rfl) (fun _ _ _ h => h) (Or.inl ⟨by rfl, ?_⟩) (by assumption) ?_
                            rotate_left
                            · intro w' hSw
                              go_simp
                              try with_reducible rfl
                            try simp only [Act.put, List.setIfInBounds_toArray, List.set_cons_zero, List.set_cons_succ]
                            refine wpAnyH_take (i := 1) (oi := ⟨some 84, .fieldAddr 35 (.tmp 9) 1, _, _, _, _⟩) (v := ?_) rfl (by kernel_rfl) (by kernel_rfl) (by kernel_rfl) (fun _ _ _ h => h) (Or.inl ⟨by rfl, ?_⟩) (by assumption) ?_
                            rotate_left
                            · intro w' hSw
                              go_simp
                              try with_reducible rfl
                            try simp only [Act.put, List.setIfInBounds_toArray, List.set_cons_zero, List.set_cons_succ]
                            refine wpAnyH_take (i := 2) (oi := ⟨some 85, .load 3 (.tmp 84), _, _, _, _⟩) (v := ?_) rfl (by kernel_rfl) (by kernel_rfl) (by kernel_rfl) (fun _ _ _ h => h) (Or.inl ⟨by rfl, ?_⟩) (by assumption) ?_
                            rotate_left
                            · intro w' hSw
                              have hc := hSw
                              go_simp
                              try with_reducible rfl
                            try simp only [Act.put, List.setIfInBounds_toArray, List.set_cons_zero, List.set_cons_succ]
                            refine wpAnyH_take (i := 3) (oi := ⟨some 86, .move (.tmp 15), _, _, _, _⟩) (v := ?_) rfl (by kernel_rfl) (by kernel_rfl) (by kernel_rfl) (fun _ _ _ h => h) (Or.inl ⟨by rfl, ?_⟩) (by assumption) ?_
                            rotate_left
                            · intro w' hSw
                              go_simp
                              try with_reducible rfl
                            try simp only [Act.put, List.setIfInBounds_toArray, List.set_cons_zero, List.set_cons_succ]
                            refine wpAnyH_take (i := 5) (oi := ⟨some 88, .move (.tmp 7), _, _, _, _⟩) (v := ?_) rfl (by kernel_rfl) (by kernel_rfl) (by kernel_rfl) (fun _ _ _ h => h) (Or.inl ⟨by rfl, ?_⟩) (by assumption) ?_
                            rotate_left
                            · intro w' hSw
                              go_simp
                              try with_reducible rfl
                            try simp only [Act.put, List.setIfInBounds_toArray, List.set_cons_zero, List.set_cons_succ]
                            refine wpAnyH_take (i := 6) (oi := ⟨some 89, .fieldAddr 35 (.tmp 9) 1, _, _, _, _⟩) (v := ?_) rfl (by kernel_rfl) (by kernel_rfl) (by kernel_rfl) (fun _ _ _ h => h) (Or.inl ⟨by rfl, ?_⟩) (by assumption) ?_
                            rotate_left
                            · intro w' hSw
                              go_simp
                              try with_reducible rfl
                            try simp only [Act.put, List.setIfInBounds_toArray, List.set_cons_zero, List.set_cons_succ]
                            refine wpAnyH_take (i := 7) (oi := ⟨some 90, .load 3 (.tmp 89), _, _, _, _⟩) (v := ?_) rfl (by kernel_rfl) (by kernel_rfl) (by kernel_rfl) (fun _ _ _ h => h) (Or.inl ⟨by rfl, ?_⟩) (by assumption) ?_
                            rotate_left
                            · intro w' hSw
                              have hc := hSw
                              go_simp
                              try with_reducible rfl
                            try simp only [Act.put, List.setIfInBounds_toArray, List.set_cons_zero, List.set_cons_succ]
                            refine wpAnyH_take (i := 8) (oi := ⟨some 91, .move (.tmp 15), _, _, _, _⟩) (v := ?_) rfl (by kernel_rfl) (by kernel_rfl) (by kernel_rfl) (fun _ _ _ h => h) (Or.inl ⟨by rfl, ?_⟩) (by assumption) ?_
                            rotate_left
                            · intro w' hSw
                              go_simp
                              try with_reducible rfl
                            try simp only [Act.put, List.setIfInBounds_toArray, List.set_cons_zero, List.set_cons_succ]
                            refine wpAnyH_ready (rs := [4]) (by kernel_rfl) (by simp) ?_
                            refine AllReadyH.cons (o := ⟨some 87, .call ⟨.value (.func 17), #[.tmp 83, .tmp 85, .tmp 86], #[24, 3, 31]⟩, _, _, _, _⟩) rfl (fun K hK => ?_) AllReadyH.nil
                            go_simp
                            with_reducible refine HW87.out.mono ?_
                            rintro _ w87 ⟨rfl, ⟨P7, d7, p7⟩, o7⟩
                            have HR7 := Lib.hid (HRD.out.prog d7 p7 o7)
                            have M7 := Lib.hid (HMD.out.only o7 AB.out.own)
                            have AS := Lib.hid (show ∀ y, q = some y → Aside w P7 gr qr gx y.block from fun y hy => (AB.out.aside (HMD.out.base y hy)).turned p7 (HMD.out.lt y hy))
                            have hS87 : w87.cell? ⟨gx, 1, none⟩ = some (.int .i64 t.i) := HR7.out.cell 1
                            clear d7 p7 o7
                            try go_wp2_with fail
                            refine hK.out _ _ hS87 (fun hHeld => ?_)
                            clear hK K
                            try simp only [Act.put, List.setIfInBounds_toArray, List.set_cons_zero, List.set_cons_succ]
                            refine wpAnyH_ready (rs := [9]) (by kernel_rfl) (by simp) ?_
                            refine AllReadyH.cons (o := ⟨some 92, .call ⟨.value (.func 18), #[.tmp 88, .tmp 90, .tmp 91], #[28, 3, 31]⟩, _, _, _, _⟩) rfl (fun K hK => ?_) AllReadyH.nil
                            go_simp
                            with_reducible refine (rwrite_any s t.i (B.take 64) q 64 c7 gr qr w87 HR7.out.both.ref M7.out.tx (fun x hx => ⟨fun e => by have := M7.out.base x hx; have := AB.out.ref.1; omega, fun e => by have := M7.out.base x hx; have := AB.out.ref.2; omega⟩) (by omega)).mono ?_
                            rintro _ w92 ⟨rfl, d9, o9⟩
                            have HR9 := Lib.hid (HR7.out.refs A d9 o9)
                            have M9 := Lib.hid (M7.out.only o9 (fun k e => e.elim (fun e => by rw [e]; exact AB.out.ref.1) (fun e => by rw [e]; exact AB.out.ref.2)))
                            have hS92 : w92.cell? ⟨gx, 1, none⟩ = some (.int .i64 t.i) := HR9.out.cell 1
                            clear d9 o9
                            try go_wp2_with fail
                            refine hK.out _ _ hS92 (fun hHeld => ?_)
                            clear hK K
                            try simp only [Act.put, List.setIfInBounds_toArray, List.set_cons_zero, List.set_cons_succ]
                            refine wpAnyH_take (i := 10) (oi := ⟨some 93, .binOp .neq 3 (.tmp 87) (.tmp 92) 3, _, _, _, _⟩) (v := ?_) rfl (by kernel_rfl) (by kernel_rfl) (by kernel_rfl) (fun _ _ _ h => h) (Or.inl ⟨by rfl, ?_⟩) (by assumption) ?_
                            rotate_left
                            · intro w' hSw
                              go_simp
                              try with_reducible rfl
                            try simp only [Act.put, List.setIfInBounds_toArray, List.set_cons_zero, List.set_cons_succ]
                            refine wpAnyH_done (by kernel_rfl) ?_ _
                            clear hS92 hS87 hHeld hSd
                            go_wp2_with fail
                            go_loopw [16] (fun i wr => Over PD w g P7 (s.write t.i (B.take 64)) gr qr gx t base q 64 i wr) (fun i _ => 64 - (intOf i).toNat)
                            case atStart => exact ⟨0, Nat.zero_le _, rfl, HR9.out, M9.out.soft⟩
                            case round =>
                              obtain ⟨j, hj, rfl, hRj, hS⟩ := hrel
                              have HRJ := Lib.hid hRj
                              clear hRj
                              by_cases hjn : j < 64
                              · have l3 : (j : Int) < 64 := by omega
                                obtain ⟨gb, ob, rfl, hgb, _, hf, z, hz, hc⟩ := hS.cell hjn
                                have i3 : (0 : Int) ≤ j ∧ (j : Int) < 64 := by omega
                                have q3 : IntKind.u8.wrap ((z : Int) + 1) = (((z + 1) % 256 : Nat) : Int) := by rw [IntKind.wrap_u8']; omega
                                have HS := Lib.hid (hS.set j (z := (z + 1) % 256) (Nat.mod_lt _ (by omega)))
                                have HO := Lib.hid (Only.setCell (P := fun k => k = gb) ‹World› (a := ⟨gb, ob + j, none⟩) rfl (.int .u8 (((z + 1) % 256 : Nat) : Int)))
                                clear hS hgb
                                generalize (z + 1) % 256 = y at *
                                go_wp2_with fail
                                go_roundw
                                case rel => exact ⟨j + 1, by omega, by go_num, HRJ.out.wrote A (AS.out _ rfl) HO.out, HS.out⟩
                                case measure => simp [intOf]; omega
                              · obtain rfl : j = 64 := by omega
                                go_wp2_with fail
                                go_meet
                                exact ⟨_, _, HRJ.out.both, by omega⟩
          case rest =>
            obtain ⟨P5, s5, hB5, hw5⟩ := hcut
            have HB5 := Lib.hid hB5
            clear hB5
            go_upto_region 41 with fail
            have HALL := Lib.hid (show ∀ w', Below wc.heap.size wc w' → Calls Try.prog 21 #[.pointer (some ⟨g, 0, none⟩)] w' fun e w'' => ∃ p c, e = .returned (.slice p (64 * s5.n) c) ∧ Tx w'' p (64 * s5.n) c s5.L ∧ Below wc.heap.size wc w'' from fun w' hb => all_tx A HB5.out.own hb)
            have HDEAD := Lib.hid (show ∀ w', Below wc.heap.size wc w' → Calls Try.prog 19 #[.pointer (some ⟨g, 0, none⟩)] w' fun e w'' => e = .returned (.bool s5.dead) ∧ Below w'.heap.size w' w'' from fun w' hb => dead_at A HB5.out.own hb)
            have HWR := Lib.hid (show ∀ w', Below wc.heap.size wc w' → Calls Try.prog 20 #[.pointer (some ⟨g, 0, none⟩)] w' fun e w'' => e = .returned (.int .i64 s5.writes) ∧ Below w'.heap.size w' w'' from fun w' hb => writes_at A HB5.out.own hb)
            refine wp_region_held_drew (S := fun w' => Below wc.heap.size wc w') (by kernel_rfl) (Below.refl _ _).drew (fun hHeld => ?_)
            refine wpAnyH_take (i := 0) (oi := ⟨some 165, .move (.tmp 5), _, _, _, _⟩) (v := ?_) rfl (by kernel_rfl) (by kernel_rfl) (by kernel_rfl) (fun _ _ _ h => h) (Or.inl ⟨by rfl, ?_⟩) (by assumption) ?_
            rotate_left
            · intro w' hSw
              go_simp
              try with_reducible rfl
            try simp only [Act.put, List.setIfInBounds_toArray, List.set_cons_zero, List.set_cons_succ]
            refine wpAnyH_take (i := 2) (oi := ⟨some 167, .move (.tmp 7), _, _, _, _⟩) (v := ?_) rfl (by kernel_rfl) (by kernel_rfl) (by kernel_rfl) (fun _ _ _ h => h) (Or.inl ⟨by rfl, ?_⟩) (by assumption) ?_
            rotate_left
            · intro w' hSw
              go_simp
              try with_reducible rfl
            try simp only [Act.put, List.setIfInBounds_toArray, List.set_cons_zero, List.set_cons_succ]
            refine wpAnyH_take (i := 3) (oi := ⟨some 168, .nilCheck (.tmp 167), _, _, _, _⟩) (v := ?_) rfl (by kernel_rfl) (by kernel_rfl) (by kernel_rfl) (fun _ _ _ h => h) (Or.inl ⟨by rfl, ?_⟩) (by assumption) ?_
            rotate_left
            · intro w' hSw
              go_simp
              try with_reducible rfl
            try simp only [Act.put, List.setIfInBounds_toArray, List.set_cons_zero, List.set_cons_succ]
            refine wpAnyH_take (i := 4) (oi := ⟨some 169, .fieldAddr 33 (.tmp 168) 2, _, _, _, _⟩) (v := ?_) rfl (by kernel_rfl) (by kernel_rfl) (by kernel_rfl) (fun _ _ _ h => h) (Or.inl ⟨by rfl, ?_⟩) (by assumption) ?_
            rotate_left
            · intro w' hSw
              go_simp
              try with_reducible rfl
            try simp only [Act.put, List.setIfInBounds_toArray, List.set_cons_zero, List.set_cons_succ]
            refine wpAnyH_take (i := 5) (oi := ⟨some 170, .load 4 (.tmp 169), _, _, _, _⟩) (v := ?_) rfl (by kernel_rfl) (by kernel_rfl) (by kernel_rfl) (fun _ _ _ h => h) (Or.inl ⟨by rfl, ?_⟩) (by assumption) ?_
            rotate_left
            · intro w' hSw
              have hrf := (HB5.out.later A hSw).ref
              have hc := hrf.c2
              clear hrf
              go_simp
              try with_reducible rfl
            try simp only [Act.put, List.setIfInBounds_toArray, List.set_cons_zero, List.set_cons_succ]
            refine wpAnyH_ready (rs := [1]) (by kernel_rfl) (by simp) ?_
            refine AllReadyH.cons (o := ⟨some 166, .call ⟨.value (.func 19), #[.tmp 165], #[24]⟩, _, _, _, _⟩) rfl (fun K hK => ?_) AllReadyH.nil
            go_simp
            with_reducible refine (HDEAD.out _ ?hx).mono ?_
            case hx => exact hHeld
            rintro _ w166 ⟨rfl, hb166⟩
            have hS166 : Below wc.heap.size wc w166 := hHeld.trans (hb166.mono hHeld.size)
            try go_wp2_with fail
            refine hK.out _ _ hS166 (fun hHeld => ?_)
            clear hK K
            try simp only [Act.put, List.setIfInBounds_toArray, List.set_cons_zero, List.set_cons_succ]
            refine wpAnyH_take (i := 6) (oi := ⟨some 171, .binOp .neq 4 (.tmp 166) (.tmp 170) 4, _, _, _, _⟩) (v := ?_) rfl (by kernel_rfl) (by kernel_rfl) (by kernel_rfl) (fun _ _ _ h => h) (Or.inl ⟨by rfl, ?_⟩) (by assumption) ?_
            rotate_left
            · intro w' hSw
              go_simp
              try with_reducible rfl
            try simp only [Act.put, List.setIfInBounds_toArray, List.set_cons_zero, List.set_cons_succ]
            refine wpAnyH_take (i := 7) (oi := ⟨some 172, .move (.tmp 171), _, _, _, _⟩) (v := ?_) rfl (by kernel_rfl) (by kernel_rfl) (by kernel_rfl) (fun _ _ _ h => h) (Or.inl ⟨by rfl, ?_⟩) (by assumption) ?_
            rotate_left
            · intro w' hSw
              go_simp
              try with_reducible rfl
            try simp only [Act.put, List.setIfInBounds_toArray, List.set_cons_zero, List.set_cons_succ]
            refine wpAnyH_take (i := 8) (oi := ⟨some 173, .move (.tmp 5), _, _, _, _⟩) (v := ?_) rfl (by kernel_rfl) (by kernel_rfl) (by kernel_rfl) (fun _ _ _ h => h) (Or.inl ⟨by rfl, ?_⟩) (by assumption) ?_
            rotate_left
            · intro w' hSw
              go_simp
              try with_reducible rfl
            try simp only [Act.put, List.setIfInBounds_toArray, List.set_cons_zero, List.set_cons_succ]
            refine wpAnyH_take (i := 10) (oi := ⟨some 175, .move (.tmp 7), _, _, _, _⟩) (v := ?_) rfl (by kernel_rfl) (by kernel_rfl) (by kernel_rfl) (fun _ _ _ h => h) (Or.inl ⟨by rfl, ?_⟩) (by assumption) ?_
            rotate_left
            · intro w' hSw
              go_simp
              try with_reducible rfl
            try simp only [Act.put, List.setIfInBounds_toArray, List.set_cons_zero, List.set_cons_succ]
            refine wpAnyH_take (i := 11) (oi := ⟨some 176, .nilCheck (.tmp 175), _, _, _, _⟩) (v := ?_) rfl (by kernel_rfl) (by kernel_rfl) (by kernel_rfl) (fun _ _ _ h => h) (Or.inl ⟨by rfl, ?_⟩) (by assumption) ?_
            rotate_left
            · intro w' hSw
              go_simp
              try with_reducible rfl
            try simp only [Act.put, List.setIfInBounds_toArray, List.set_cons_zero, List.set_cons_succ]
            refine wpAnyH_take (i := 12) (oi := ⟨some 177, .fieldAddr 33 (.tmp 176) 5, _, _, _, _⟩) (v := ?_) rfl (by kernel_rfl) (by kernel_rfl) (by kernel_rfl) (fun _ _ _ h => h) (Or.inl ⟨by rfl, ?_⟩) (by assumption) ?_
            rotate_left
            · intro w' hSw
              go_simp
              try with_reducible rfl
            try simp only [Act.put, List.setIfInBounds_toArray, List.set_cons_zero, List.set_cons_succ]
            refine wpAnyH_take (i := 13) (oi := ⟨some 178, .load 3 (.tmp 177), _, _, _, _⟩) (v := ?_) rfl (by kernel_rfl) (by kernel_rfl) (by kernel_rfl) (fun _ _ _ h => h) (Or.inl ⟨by rfl, ?_⟩) (by assumption) ?_
            rotate_left
            · intro w' hSw
              have hrf := (HB5.out.later A hSw).ref
              have hc := hrf.c5
              clear hrf
              go_simp
              try with_reducible rfl
            try simp only [Act.put, List.setIfInBounds_toArray, List.set_cons_zero, List.set_cons_succ]
            refine wpAnyH_ready (rs := [9]) (by kernel_rfl) (by simp) ?_
            refine AllReadyH.cons (o := ⟨some 174, .call ⟨.value (.func 20), #[.tmp 173], #[24]⟩, _, _, _, _⟩) rfl (fun K hK => ?_) AllReadyH.nil
            go_simp
            with_reducible refine (HWR.out _ ?hx).mono ?_
            case hx => exact hHeld
            rintro _ w174 ⟨rfl, hb174⟩
            have hS174 : Below wc.heap.size wc w174 := hHeld.trans (hb174.mono hHeld.size)
            try go_wp2_with fail
            refine hK.out _ _ hS174 (fun hHeld => ?_)
            clear hK K
            try simp only [Act.put, List.setIfInBounds_toArray, List.set_cons_zero, List.set_cons_succ]
            refine wpAnyH_take (i := 14) (oi := ⟨some 179, .binOp .neq 3 (.tmp 174) (.tmp 178) 3, _, _, _, _⟩) (v := ?_) rfl (by kernel_rfl) (by kernel_rfl) (by kernel_rfl) (fun _ _ _ h => h) (Or.inl ⟨by rfl, ?_⟩) (by assumption) ?_
            rotate_left
            · intro w' hSw
              go_simp
              try with_reducible rfl
            try simp only [Act.put, List.setIfInBounds_toArray, List.set_cons_zero, List.set_cons_succ]
            refine wpAnyH_take (i := 15) (oi := ⟨some 180, .pick (.tmp 172) (.const (.bool true)) (.tmp 179), _, _, _, _⟩) (v := ?_) rfl (by kernel_rfl) (by kernel_rfl) (by kernel_rfl) (fun _ _ _ h => h) (Or.inl ⟨by rfl, ?_⟩) (by assumption) ?_
            rotate_left
            · intro w' hSw
              go_simp
              try with_reducible rfl
            try simp only [Act.put, List.setIfInBounds_toArray, List.set_cons_zero, List.set_cons_succ]
            refine wpAnyH_take (i := 16) (oi := ⟨some 181, .move (.tmp 180), _, _, _, _⟩) (v := ?_) rfl (by kernel_rfl) (by kernel_rfl) (by kernel_rfl) (fun _ _ _ h => h) (Or.inl ⟨by rfl, ?_⟩) (by assumption) ?_
            rotate_left
            · intro w' hSw
              go_simp
              try with_reducible rfl
            try simp only [Act.put, List.setIfInBounds_toArray, List.set_cons_zero, List.set_cons_succ]
            refine wpAnyH_take (i := 17) (oi := ⟨some 182, .move (.tmp 5), _, _, _, _⟩) (v := ?_) rfl (by kernel_rfl) (by kernel_rfl) (by kernel_rfl) (fun _ _ _ h => h) (Or.inl ⟨by rfl, ?_⟩) (by assumption) ?_
            rotate_left
            · intro w' hSw
              go_simp
              try with_reducible rfl
            try simp only [Act.put, List.setIfInBounds_toArray, List.set_cons_zero, List.set_cons_succ]
            refine wpAnyH_take (i := 20) (oi := ⟨some 185, .move (.tmp 7), _, _, _, _⟩) (v := ?_) rfl (by kernel_rfl) (by kernel_rfl) (by kernel_rfl) (fun _ _ _ h => h) (Or.inl ⟨by rfl, ?_⟩) (by assumption) ?_
            rotate_left
            · intro w' hSw
              go_simp
              try with_reducible rfl
            try simp only [Act.put, List.setIfInBounds_toArray, List.set_cons_zero, List.set_cons_succ]
            refine wpAnyH_take (i := 21) (oi := ⟨some 186, .nilCheck (.tmp 185), _, _, _, _⟩) (v := ?_) rfl (by kernel_rfl) (by kernel_rfl) (by kernel_rfl) (fun _ _ _ h => h) (Or.inl ⟨by rfl, ?_⟩) (by assumption) ?_
            rotate_left
            · intro w' hSw
              go_simp
              try with_reducible rfl
            try simp only [Act.put, List.setIfInBounds_toArray, List.set_cons_zero, List.set_cons_succ]
            refine wpAnyH_take (i := 22) (oi := ⟨some 187, .fieldAddr 33 (.tmp 186) 0, _, _, _, _⟩) (v := ?_) rfl (by kernel_rfl) (by kernel_rfl) (by kernel_rfl) (fun _ _ _ h => h) (Or.inl ⟨by rfl, ?_⟩) (by assumption) ?_
            rotate_left
            · intro w' hSw
              go_simp
              try with_reducible rfl
            try simp only [Act.put, List.setIfInBounds_toArray, List.set_cons_zero, List.set_cons_succ]
            refine wpAnyH_take (i := 23) (oi := ⟨some 188, .load 31 (.tmp 187), _, _, _, _⟩) (v := ?_) rfl (by kernel_rfl) (by kernel_rfl) (by kernel_rfl) (fun _ _ _ h => h) (Or.inl ⟨by rfl, ?_⟩) (by assumption) ?_
            rotate_left
            · intro w' hSw
              have hrf := (HB5.out.later A hSw).ref
              have hc := hrf.c0
              clear hrf
              go_simp
              try with_reducible rfl
            try simp only [Act.put, List.setIfInBounds_toArray, List.set_cons_zero, List.set_cons_succ]
            refine wpAnyH_take (i := 24) (oi := ⟨some 189, .convert 31 9 (.tmp 188), _, _, _, _⟩) (v := ?_) rfl (by kernel_rfl) (by kernel_rfl) (by kernel_rfl) (fun _ _ _ h => h) (Or.inl ⟨by rfl, ?_⟩) (by assumption) ?_
            rotate_left
            · intro w' hSw
              have hrf := (HB5.out.later A hSw).ref
              have hcv := convert_tx hrf.all
              clear hrf
              go_simp
              try with_reducible rfl
            try simp only [Act.put, List.setIfInBounds_toArray, List.set_cons_zero, List.set_cons_succ]
            refine wpAnyH_ready (rs := [18]) (by kernel_rfl) (by simp) ?_
            refine AllReadyH.cons (o := ⟨some 183, .call ⟨.value (.func 21), #[.tmp 182], #[24]⟩, _, _, _, _⟩) rfl (fun K hK => ?_) AllReadyH.nil
            go_simp
            with_reducible refine (HALL.out _ ?hx).mono ?_
            case hx => exact hHeld
            rintro _ w183 ⟨pa, ca, rfl, hta, hS183⟩
            try go_wp2_with fail
            refine hK.out _ _ hS183 (fun hHeld => ?_)
            clear hK K
            try simp only [Act.put, List.setIfInBounds_toArray, List.set_cons_zero, List.set_cons_succ]
            refine wpAnyH_mono (S' := fun w' => Below wc.heap.size wc w' ∧ Tx w' pa (64 * s5.n) ca s5.L) (fun _ h => h.1) _ _ _ _ ?_
            have hHeld : Below wc.heap.size wc w183 ∧ Tx w183 pa (64 * s5.n) ca s5.L := ⟨hS183, hta⟩
            refine wpAnyH_take (i := 19) (oi := ⟨some 184, .convert 31 9 (.tmp 183), _, _, _, _⟩) (v := ?_) rfl (by kernel_rfl) (by kernel_rfl) (by kernel_rfl) (fun _ _ _ h => h) (Or.inl ⟨by rfl, ?_⟩) (by assumption) ?_
            rotate_left
            · intro w' hSw
              have hcv := convert_tx hSw.2
              go_simp
              try with_reducible rfl
            try simp only [Act.put, List.setIfInBounds_toArray, List.set_cons_zero, List.set_cons_succ]
            refine wpAnyH_take (i := 25) (oi := ⟨some 190, .binOp .neq 9 (.tmp 184) (.tmp 189) 9, _, _, _, _⟩) (v := ?_) rfl (by kernel_rfl) (by kernel_rfl) (by kernel_rfl) (fun _ _ _ h => h) (Or.inl ⟨by rfl, ?_⟩) (by assumption) ?_
            rotate_left
            · intro w' hSw
              go_simp
              try with_reducible rfl
            try simp only [Act.put, List.setIfInBounds_toArray, List.set_cons_zero, List.set_cons_succ]
            refine wpAnyH_take (i := 26) (oi := ⟨some 191, .pick (.tmp 181) (.const (.bool true)) (.tmp 190), _, _, _, _⟩) (v := ?_) rfl (by kernel_rfl) (by kernel_rfl) (by kernel_rfl) (fun _ _ _ h => h) (Or.inl ⟨by rfl, ?_⟩) (by assumption) ?_
            rotate_left
            · intro w' hSw
              go_simp
              try with_reducible rfl
            try simp only [Act.put, List.setIfInBounds_toArray, List.set_cons_zero, List.set_cons_succ]
            refine wpAnyH_done (by kernel_rfl) ?_ _
            have HB6 := Lib.hid (HB5.out.later A hHeld.1)
            clear hHeld HALL HDEAD HWR HB5
            go_wp2_with fail
            go_roundw
            case rel => exact ⟨k + 1, P5, s5, by omega, by omega, by go_num, HB6.out, by omega⟩
            case measure => simp [intOf]; omega
      · obtain rfl : k = 80 := by omega
        go_wp2_with fail
        go_ret
        exact ⟨rfl, HB.out.own.low⟩
    · obtain rfl : k = n := by omega
      go_wp2_with fail
      go_ret
      exact ⟨rfl, HB.out.own.low⟩
end Go.Proofs.Ytjlkddfihpdnmaa.Dk

/- Proved: whatever number and script it is handed, the Go function indenturelaw07.DiskPlays returns true (whatever is written, read, and dies: each answer, and all bytes, are the document's), and each argument reads afterwards as it read before. Conditions: none beyond the given row's own. -/
namespace Go.Proofs.Ytjlkddfihpdnmaa
open Go.ChangeShapes Go.WideShapes Go.ChangeAt Go.RowKit Go.Deep

set_option maxRecDepth 100000 in
theorem dkplays_lifted (os : Os) (started : os.Started) (H : Type) (enc : TypeId × Value → H) :
    ReturnsInHanded {} Try.checked os 3 .any (Rows.diskPlaysSpec.pre6 enc Try.prog Try.f3 Rows.diskPlaysRow.domain false) (Rows.diskPlaysSpec.post enc Try.prog Try.f3 false true false false) := by
  refine returnsInHanded_of_change (C := Try.checked) gen_own started (by kernel_rfl) Try.func3
    (ChangeSpec.witness6 (enc := enc) (C := Try.checked) false ⟨#[], #[.int .u8 0, .slice none 0 0], []⟩ 8 (by kernel_rfl) (by kernel_rfl) (by kernel_rfl) (by kernel_rfl)) ?_
  intro W base args ds gs before hval0 hW _ _
  have hval : ∀ (j : Nat) t v, Try.f3.params[j]? = some t → args[j]? = some v → Value.okWide Try.prog W .any base t v := hval0
  have hW' := hW
  obtain ⟨p, q, hA0, hV, rfl, _, _⟩ := hW
  have hA : DataW.TrodAll enc Try.prog W 0 (fun _ => true) true Try.f3.params.toList args.toList ds p := hA0
  rw [Try.params3] at hA hval
  obtain ⟨v0, vs0, d0, ds0, p0, q0, hargs, rfl, rfl, h0, r0⟩ := trodAll_cons hA
  obtain ⟨v1, vs1, d1, ds1, p1, q1, rfl, rfl, rfl, h1, r1⟩ := trodAll_cons r0
  obtain ⟨rfl, rfl, rfl⟩ := trodAll_nil r1
  obtain rfl : args = #[v0, v1] := by cases args; simp_all
  obtain ⟨rfl, rfl⟩ := trodVars_none hV
  obtain ⟨n0, rfl, rfl, rfl, hn0⟩ := open_int Try.underlying5 (hval 0 5 v0 rfl rfl) h0
  obtain ⟨a1, len1, cap1, rfl⟩ := okWide_slice Try.underlying22 (hval 1 22 v1 rfl rfl)
  have k0 := h0
  have k1 := h1
  have lt1 : ∀ x ∈ p1, x.block < W.heap.size := by obtain ⟨m, hm⟩ := k1; exact DataW.trod_lt m _ _ _ hm
  have bn0 := bounds_u8 hn0
  obtain ⟨m0, rfl⟩ : ∃ m : Nat, n0 = m := ⟨n0.toNat, by omega⟩
  obtain ⟨⟨L1, hL1⟩, hl1⟩ : (∃ L, Dk.Ops W a1 len1 cap1 L) ∧ len1 ≤ 9223372036854775807 := by
    obtain ⟨fuel, hf⟩ := h1
    exact Dk.open_ops hf
  clear hA0 hval0
  refine (Dk.plays_any Dk.api m0 a1 len1 cap1 L1 W (by omega) hL1 hl1).mono fun e W' ⟨he, bel⟩ => ?_
  subst he
  exact ⟨_, rfl, _, _, _, [], _, [], hW', trodAll_mk1 (shut_bool Try.underlying4 _),
    (trodAll_cons_mk (Below.trod gen_laidOut (by kernel_rfl) (of_decide_eq_true (by kernel_rfl)) k0 bel (fun x hx => by cases hx)) (trodAll_cons_mk (Below.trod gen_laidOut (by kernel_rfl) (of_decide_eq_true (by kernel_rfl)) k1 bel lt1) trodAll_mk0)), rfl, bel.frame _, fun h => by cases h⟩
theorem dkplays_holds : Rows.DiskPlaysSaid :=
  OpenClaim.holds_of_wide 3 Try.f3 rfl rfl rfl rfl rfl rfl rfl ⟨rfl, rfl, rfl, rfl, rfl⟩ rfl rfl rfl rfl rfl (by kernel_rfl) Try.func3 (by kernel_rfl)
    (of_decide_eq_true (by kernel_rfl)) (by unfold Func.isWrapper; first | (rw [if_pos (by decide +kernel)]; kernel_rfl) | (rw [if_neg (by decide +kernel)]; exact ⟨rfl, rfl⟩))
    (fun os started H enc _ => dkplays_lifted os started H enc)
end Go.Proofs.Ytjlkddfihpdnmaa
