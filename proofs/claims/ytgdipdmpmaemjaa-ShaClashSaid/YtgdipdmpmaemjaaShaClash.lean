/- The contracts of bytes.Equal and sha.Clash. -/
import Derived.Test.YtgdipdmpmaemjaaShaSumsGo
namespace Go.Proofs.Ytgdipdmpmaemjaa
open Go.RowKit

set_option maxRecDepth 100000 in
set_option maxHeartbeats 1000000 in
theorem equal_any (A B : List Nat) (p q : Option Addr) (n c n2 c2 : Nat) (w : World) (hA : Tx w p n c A) (hB : Tx w q n2 c2 B) :
    Calls Try.prog 29 #[.slice p n c, .slice q n2 c2] w fun e w' => e = .returned (.bool (decide (A = B))) ∧ w' = w := by
  have h1 := convert_tx hA
  have h2 := convert_tx hB
  have hse := str_eq hA.ok hB.ok
  clear hA hB
  generalize decide (A = B) = E at hse ⊢
  generalize strOf A = s1 at *
  generalize strOf B = s2 at *
  go_enter Try.func29, Try.ntmps29
  go_wp2_with fail
  go_ret
  exact ⟨rfl, rfl⟩
/-- Two texts clash: they are unlike, and have one sum. -/
def clashes (A B : List Nat) : Bool := !decide (A = B) && decide (Sm.sum A = Sm.sum B)
theorem clashes_same (A : List Nat) : clashes A A = false := by simp [clashes]
set_option maxRecDepth 100000 in
set_option maxHeartbeats 1000000 in
theorem clash_any (A B : List Nat) (p q : Option Addr) (n c n2 c2 : Nat) (w : World) (hA : Tx w p n c A) (hB : Tx w q n2 c2 B) (hla : A.length < 1000000) (hlb : B.length < 1000000) :
    Calls Try.prog 20 #[.slice p n c, .slice q n2 c2] w fun e w' => e = .returned (.bool (clashes A B)) ∧ Below w.heap.size w w' := by
  have HA := Lib.hid hA
  have HB := Lib.hid hB
  clear hA hB
  obtain ⟨E, hE⟩ : ∃ E, E = decide (A = B) := ⟨_, rfl⟩
  obtain ⟨D, hD⟩ : ∃ D, D = decide (Sm.sum A = Sm.sum B) := ⟨_, rfl⟩
  have hcl : clashes A B = (!E && D) := by rw [hE, hD]; rfl
  rw [hcl]
  have HE := Lib.hid hE
  have HD := Lib.hid hD
  clear hcl hE hD
  go_enter Try.func20, Try.ntmps20
  go_wp2_with fail
  refine (equal_any A B p q n c n2 c2 w HA.out HB.out).mono ?_
  rintro _ _ ⟨rfl, rfl⟩
  rw [← HE.out]
  cases E
  · go_wp2_with fail
    refine (sum_any A p n c _ HA.out.bytes (by omega)).mono ?_
    rintro _ w1 ⟨rfl, hb1⟩
    have HB1 := Lib.hid hb1
    have HBB := Lib.hid (HB.out.later hb1)
    clear hb1
    go_wp2_with fail
    refine (sum_any B q n2 c2 _ HBB.out.bytes (by omega)).mono ?_
    rintro _ w2 ⟨rfl, hb2⟩
    have HB2 := Lib.hid (HB1.out.trans (hb2.mono HB1.out.size))
    have hq : ∀ w', (binOp .eql 25 (.agg (u8s (Sm.sum A))) (.agg (u8s (Sm.sum B)))).run Try.prog w' = .ok (.bool D) w' := fun w' => by rw [HD.out]; exact digest_eql _ _ rfl rfl w'
    clear hb2
    go_wp2_with fail
    go_ret
    exact ⟨by cases D <;> rfl, HB2.out⟩
  · go_wp2_with fail
    go_ret
    exact ⟨rfl, Below.refl _ _⟩
end Go.Proofs.Ytgdipdmpmaemjaa
