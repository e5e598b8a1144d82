/- BoxOf, BoxHullR, NlHull. -/
import Derived.Lib.MinMax
import Derived.Test.YtinihaflmdihaaaGreatW1
import Derived.Test.YtinihaflmdihaaaGreatW3
import Derived.Test.YtinihaflmdihaaaGreatW8
import Derived.Test.YtinihaflmdihaaaGreatW13
set_option maxRecDepth 100000
set_option maxHeartbeats 8000000
set_option linter.unusedVariables false
set_option linter.unusedSimpArgs false
namespace Go.Proofs.YtinihaflmdihaaaGreat
open Go.RowKit
open List renaming setIfInBounds_toArray → sA, set_cons_zero → sZ, set_cons_succ → sS
theorem ofside (B:Nat) (p:Option Addr) (n c:Nat) (R:List Int) (k:Nat) (hk:k<n) (w:World) (hB:w.cell? ⟨B,0,none⟩=some (.slice p n c)) (h:Ints w p n c R):
  Calls Tryz.prog 275 #[.int .i64 k,.pointer (some ⟨B,0,none⟩)] w fun e w'=>e= .returned (.tuple #[.int .i64 (R.getD k 0),.int .i64 (R.getD k 0)])∧∃j,w'=w.drewN j:=by
 obtain ⟨g1,o1,rfl,hc1⟩:=h.cell k hk
 clear h
 generalize R.getD k 0=xR at *
 have b1:(0:Int)≤k∧(k:Int)<n:=by omega
 go_enter Tryz.func275,Tryz.ntmps275
 go_wp2_with fail
 go_quiet (fail)
 go_wp2_with fail
 go_ret2
 exact ⟨rfl,_,rfl⟩
def Bx (w:World) (g:Nat) (a b:Value):Prop:=w.heap[g]? =some (.cells #[a,b] 32 (0,0))
theorem Bx.facts {w:World} {g:Nat} {a b:Value} (h:Bx w g a b):w.cell? ⟨g,0,none⟩=some a∧w.cell? ⟨g,1,none⟩=some b∧w.frozen? ⟨g,0,none⟩=false∧w.frozen? ⟨g,1,none⟩=false:=
 ⟨cell_of_row w g 0 _ _ _ h,cell_of_row w g 1 _ _ _ h,frozen_of_row w g 0 _ _ h,frozen_of_row w g 1 _ _ h⟩
theorem Bx.set {w:World} {g:Nat} {a b:Value} (h:Bx w g a b) (x y:Value):Bx ((w.setCell ⟨g,0,none⟩ x).setCell ⟨g,1,none⟩ y) g x y:=
 heap_setCell_same _ g 1 _ _ y (heap_setCell_same w g 0 _ _ x h)
theorem Bx.lt {w:World} {g:Nat} {a b:Value} (h:Bx w g a b):g<w.heap.size:=(Array.getElem?_eq_some_iff.1 h).1
theorem Bx.later {w w':World} {g:Nat} {a b:Value} (h:Bx w g a b) (hb:Below w.heap.size w w'):Bx w' g a b:=(hb.block _ h.lt).trans h
theorem Bx.fresh (w:World) (a b:Value):Bx (w.alloc (.cells #[a,b] 32)) w.heap.size a b:=heap_alloc_new w _
theorem RowAt.kept {w:World} {g k:Nat} {L:List Int} (h:RowAt w g L) (hk:g≠k) (x y:Value):RowAt ((w.setCell ⟨k,0,none⟩ x).setCell ⟨k,1,none⟩ y) g L:=
 (heap_setCell_other _ _ _ _ hk).trans ((heap_setCell_other _ _ _ _ hk).trans h)
theorem part_ok {f:Nat→Int} {n k:Nat} (h:∀i,i<n→ -9223372036854775808≤f i∧f i≤9223372036854775807):∀x∈part f n k,-9223372036854775808≤x∧x≤9223372036854775807:=by
 intro x hx
 simp only [part,List.mem_map,List.mem_range] at hx
 obtain ⟨i,hi,rfl⟩:=hx
 split
 ·exact h i hi
 ·omega
def MadeBox (w:World) (f g:Nat→Int) (n:Nat) (v:Value) (w':World):Prop:=
 ∃g1 g2:Nat,v= .agg #[.slice (some ⟨g1,0,none⟩) n n,.slice (some ⟨g2,0,none⟩) n n]∧Ints w' (some ⟨g1,0,none⟩) n n (part f n n)∧Ints w' (some ⟨g2,0,none⟩) n n (part g n n)∧Below w.heap.size w w'
theorem RowAt.part {w:World} {g n:Nat} {f:Nat→Int} (h:RowAt w g (part f n n)) (hf:∀i,i<n→ -9223372036854775808≤f i∧f i≤9223372036854775807):Ints w (some ⟨g,0,none⟩) n n (part f n n):=by
 have:=h.ints (part_ok hf)
 rw [part_length] at this
 exact this
theorem box_laid {w0 w w':World} {R g1 g2 n:Nat} {a b:Value} {f g:Nat→Int} (hx:Bx w R a b) (hR:w0.heap.size≤R) (hw:Below w0.heap.size w0 w) (hb:Below w.heap.size w w')
  (h1:RowAt w' g1 (part f n n)) (h2:RowAt w' g2 (part g n n)) (l1:w.heap.size<g1) (l2:w.heap.size<g2) (hf:∀i,i<n→ -9223372036854775808≤f i∧f i≤9223372036854775807) (hg:∀i,i<n→ -9223372036854775808≤g i∧g i≤9223372036854775807):
  Bx ((w'.setCell ⟨R,0,none⟩ (.slice (some ⟨g1,0,none⟩) n n)).setCell ⟨R,1,none⟩ (.slice (some ⟨g2,0,none⟩) n n)) R (.slice (some ⟨g1,0,none⟩) n n) (.slice (some ⟨g2,0,none⟩) n n)∧
  MadeBox w0 f g n (.agg #[.slice (some ⟨g1,0,none⟩) n n,.slice (some ⟨g2,0,none⟩) n n]) ((w'.setCell ⟨R,0,none⟩ (.slice (some ⟨g1,0,none⟩) n n)).setCell ⟨R,1,none⟩ (.slice (some ⟨g2,0,none⟩) n n)):=by
 have hlt:=hx.lt
 refine ⟨(hx.later hb).set _ _,g1,g2,rfl,(h1.kept (by omega) _ _).part hf,(h2.kept (by omega) _ _).part hg,?_⟩
 exact ((hw.trans (hb.mono hw.size)).setCell (p:=⟨R,0,none⟩) hR _).setCell (p:=⟨R,1,none⟩) hR _
theorem of_any (p:Option Addr) (n c:Nat) (R:List Int) (h:1≤n∧n≤8) (w:World) (hR:Ints w p n c R):
  Calls Tryz.prog 245 #[.slice p n c] w fun e w'=>∃v,e= .returned v∧MadeBox w (fun k=>R.getD k 0) (fun k=>R.getD k 0) n v w':=by
 have hD:=dimensions_any (n:Int)
 rw [decide_eq_true (show 1≤(n:Int)∧(n:Int)≤8 by omega)] at hD
 have HD:=Lib.hid hD
 have HR:=Lib.hid hR
 clear hD
 go_enter Tryz.func245,Tryz.ntmps245
 go_upto_region 1 with fail
 have x0:=boxed w (.slice p n c) 24
 have s0:(w.alloc (.cells #[.slice p n c] 24)).heap.size=w.heap.size+1:=by simp
 have b0:Below w.heap.size w (w.alloc (.cells #[.slice p n c] 24)):=(Below.refl _ _).alloc (Nat.le_refl _) _
 generalize w.alloc (.cells #[.slice p n c] 24)=w0 at *
 have x1:=Bx.fresh w0 (.slice none 0 0) (.slice none 0 0)
 have b1:Below w0.heap.size w0 (w0.alloc (.cells #[.slice none 0 0,.slice none 0 0] 32)):=(Below.refl _ _).alloc (Nat.le_refl _) _
 rw [s0] at x1
 generalize w0.alloc (.cells #[.slice none 0 0,.slice none 0 0] 32)=w1 at *
 have X:=Lib.hid x1
 have hb0:=(b1.cell (p:=⟨w.heap.size,0,none⟩) (by show w.heap.size<_;omega)).trans x0
 have B1:=Lib.hid (b0.trans (b1.mono (by omega)))
 clear x0 s0 b0 x1 b1
 clear w0
 have HE:=Lib.hid (build_any n h.1 h.2 (fun k=>R.getD k 0) (fun k=>R.getD k 0) 275 #[.pointer (some ⟨w.heap.size,0,none⟩)] (enter_side Tryz.func275 (by kernel_rfl) rfl) w1 (fun k w'' hk hb=>ofside w.heap.size p n c R k hk w'' ((hb.cell (p:=⟨w.heap.size,0,none⟩) (by have:=X.out.lt;show w.heap.size<_;omega)).trans hb0) ((hR.later B1.out).later hb)))
 clear h hR
 go_wp2_with ((go_at_call 263;refine (HD.out _).mono ?_;rintro _ w' ⟨rfl,rfl⟩))
 refine HE.out.mono ?_
 rintro _ w2 ⟨g1,g2,rfl,h1,h2,l1,l2,ne,hb⟩
 obtain ⟨c0,c1,c2,c3⟩:=(X.out.later hb).facts
 have HL:=Lib.hid (box_laid X.out (Nat.le_succ _) B1.out hb h1 h2 l1 l2 (fun _ hk=>HR.out.get _ hk) (fun _ hk=>HR.out.get _ hk))
 clear h1 h2 l1 l2 ne hb X B1 hb0
 go_wp2_with fail
 generalize (w2.setCell ⟨w.heap.size+1,0,none⟩ (.slice (some ⟨g1,0,none⟩) n n)).setCell ⟨w.heap.size+1,1,none⟩ (.slice (some ⟨g2,0,none⟩) n n)=w9 at *
 exact ret_box 2 rfl (w.heap.size+1) _ _ rfl HL.out.1 ⟨_,rfl,HL.out.2⟩
theorem hullside (B C:Nat) (p q r s:Option Addr) (n c e f g:Nat) (R S T U:List Int) (k:Nat) (hk:k<n) (w:World) (hB:BoxAt w B p n c q n e) (hC:BoxAt w C r n f s n g) (h1:Ints w p n c R) (h2:Ints w q n e S) (h3:Ints w r n f T) (h4:Ints w s n g U):
  Calls Tryz.prog 274 #[.int .i64 k,.pointer (some ⟨B,0,none⟩),.pointer (some ⟨C,0,none⟩)] w fun e w'=>e= .returned (.tuple #[.int .i64 (min (R.getD k 0) (T.getD k 0)),.int .i64 (max (S.getD k 0) (U.getD k 0))])∧∃j,w'=w.drewN j:=by
 obtain ⟨hB0,hB1⟩:=hB
 obtain ⟨hC0,hC1⟩:=hC
 obtain ⟨g1,o1,rfl,hc1⟩:=h1.cell k hk
 obtain ⟨g2,o2,rfl,hc2⟩:=h2.cell k hk
 obtain ⟨g3,o3,rfl,hc3⟩:=h3.cell k hk
 obtain ⟨g4,o4,rfl,hc4⟩:=h4.cell k hk
 clear h1 h2 h3 h4
 generalize R.getD k 0=xR at *
 generalize S.getD k 0=xS at *
 generalize T.getD k 0=xT at *
 generalize U.getD k 0=xU at *
 have b1:(0:Int)≤k∧(k:Int)<n:=by omega
 go_enter Tryz.func274,Tryz.ntmps274
 go_wp2_with fail
 go_quiet (fail)
 go_wp2_with fail
 go_ret2
 exact ⟨rfl,_,rfl⟩
theorem max_ok {x y:Int} (hx: -9223372036854775808≤x∧x≤9223372036854775807) (hy: -9223372036854775808≤y∧y≤9223372036854775807): -9223372036854775808≤max x y∧max x y≤9223372036854775807:=by omega
theorem min_ok {x y:Int} (hx: -9223372036854775808≤x∧x≤9223372036854775807) (hy: -9223372036854775808≤y∧y≤9223372036854775807): -9223372036854775808≤min x y∧min x y≤9223372036854775807:=by omega
end Go.Proofs.YtinihaflmdihaaaGreat
namespace Go.Proofs.YtinihaflmdihaaaGreat.Nd
open Go.RowKit Go.Proofs.YtinihaflmdihaaaGreat.Zr
open List renaming setIfInBounds_toArray → sA, set_cons_zero → sZ, set_cons_succ → sS
theorem two_part (f:Int→Int→Int) (R T:List Int) (n:Nat):part (fun i=>f (R.getD i 0) (T.getD i 0)) n n=two f R T n:=by
 unfold part two
 apply List.map_congr_left
 intro i hi
 rw [if_pos (List.mem_range.1 hi)]
theorem two_same {f:Int→Int→Int} (hf:∀x,f x x=x) (R:List Int):two f R R R.length=R:=by
 apply List.ext_getElem
 ·rw [two_length]
 ·intro i h1 h2
  simp [two,hf,List.getD_eq_getElem?_getD,h2]
def LBox (w:World) (A B:List Int) (v:Value) (w':World):Prop:=∃r1 r2:Rw,v= .agg #[r1.val,r2.val]∧r1.R=A∧r2.R=B∧FrRw w' w.heap.size r1∧FrRw w' w.heap.size r2∧Below w.heap.size w w'
theorem made_post {w w':World} {f g:Int→Int→Int} {R S T U:List Int} {n g1 g2:Nat} (h:MadeBox w (fun i=>f (R.getD i 0) (T.getD i 0)) (fun i=>g (S.getD i 0) (U.getD i 0)) n (.agg #[.slice (some ⟨g1,0,none⟩) n n,.slice (some ⟨g2,0,none⟩) n n]) w') (hn:n≤8) (l1:w.heap.size≤g1) (l2:w.heap.size≤g2):LBox w (two f R T n) (two g S U n) (.agg #[.slice (some ⟨g1,0,none⟩) n n,.slice (some ⟨g2,0,none⟩) n n]) w':=by
 obtain ⟨h1,h2,he,i1,i2,hb⟩:=h
 simp only [Value.agg.injEq,Array.mk.injEq,List.cons.injEq,Value.slice.injEq,Option.some.injEq,Addr.mk.injEq,and_true] at he
 obtain ⟨rfl,rfl⟩:=he
 rw [two_part] at i1
 rw [two_part] at i2
 refine ⟨⟨some ⟨g1,0,none⟩,n,n,two f R T n⟩,⟨some ⟨g2,0,none⟩,n,n,two g S U n⟩,rfl,rfl,rfl,⟨⟨i1,by show n≤_;omega⟩,fun x hx _=>?_⟩,⟨⟨i2,by show n≤_;omega⟩,fun x hx _=>?_⟩,hb⟩
 ·obtain rfl:x=⟨g1,0,none⟩:=by simpa using hx.symm
  exact l1
 ·obtain rfl:x=⟨g2,0,none⟩:=by simpa using hx.symm
  exact l2
theorem lbox_nil {w w':World} (h:Below w.heap.size w w'):LBox w [] [] (.agg #[.slice none 0 0,.slice none 0 0]) w':=⟨⟨none,0,0,[]⟩,⟨none,0,0,[]⟩,rfl,rfl,rfl,fr_none _ _,fr_none _ _,h⟩
theorem BH.overB {w:World} {g:Nat} {p q s t:Option Addr} {n c m e k f l h:Nat} {R S T U:List Int} (H:BH w g p q s t n c m e k f l h R S T U) {w0:World} (hg:g=w0.heap.size) (h1:Ints w0 p n c R) (h2:Ints w0 q m e S) (hl:Below w0.heap.size w0 w):
  BH ((w.setCell ⟨g+1,0,none⟩ (.slice p n c)).setCell ⟨g+1,1,none⟩ (.slice q m e)) g p q p q n c m e n c m e R S R S∧Below w0.heap.size w0 ((w.setCell ⟨g+1,0,none⟩ (.slice p n c)).setCell ⟨g+1,1,none⟩ (.slice q m e)):=by
 have hb:Below w0.heap.size w0 ((w.setCell ⟨g+1,0,none⟩ (.slice p n c)).setCell ⟨g+1,1,none⟩ (.slice q m e)):=(hl.setCell (p:=⟨g+1,0,none⟩) (by show w0.heap.size≤g+1;omega) _).setCell (p:=⟨g+1,1,none⟩) (by show w0.heap.size≤g+1;omega) _
 refine ⟨⟨?_,?_,?_,h1.later hb,h2.later hb,h1.later hb,h2.later hb⟩,hb⟩
 ·rw [heap_setCell_other _ _ _ _ (by show g≠g+1;omega),heap_setCell_other _ _ _ _ (by show g≠g+1;omega)];exact H.a
 ·exact heap_setCell_same _ (g+1) 1 _ _ _ (heap_setCell_same w (g+1) 0 _ _ _ H.b)
 ·rw [heap_setCell_other _ _ _ _ (by show g+2≠g+1;omega),heap_setCell_other _ _ _ _ (by show g+2≠g+1;omega)];exact H.r
theorem BH.overA {w:World} {g:Nat} {p q s t:Option Addr} {n c m e k f l h:Nat} {R S T U:List Int} (H:BH w g p q s t n c m e k f l h R S T U) {w0:World} (hg:g=w0.heap.size) (h1:Ints w0 s k f T) (h2:Ints w0 t l h U) (hl:Below w0.heap.size w0 w):
  BH ((w.setCell ⟨g,0,none⟩ (.slice s k f)).setCell ⟨g,1,none⟩ (.slice t l h)) g s t s t k f l h k f l h T U T U∧Below w0.heap.size w0 ((w.setCell ⟨g,0,none⟩ (.slice s k f)).setCell ⟨g,1,none⟩ (.slice t l h)):=by
 have hb:Below w0.heap.size w0 ((w.setCell ⟨g,0,none⟩ (.slice s k f)).setCell ⟨g,1,none⟩ (.slice t l h)):=(hl.setCell (p:=⟨g,0,none⟩) (by show w0.heap.size≤g;omega) _).setCell (p:=⟨g,1,none⟩) (by show w0.heap.size≤g;omega) _
 refine ⟨⟨?_,?_,?_,h1.later hb,h2.later hb,h1.later hb,h2.later hb⟩,hb⟩
 ·exact heap_setCell_same _ g 1 _ _ _ (heap_setCell_same w g 0 _ _ _ H.a)
 ·rw [heap_setCell_other _ _ _ _ (by show g+1≠g;omega),heap_setCell_other _ _ _ _ (by show g+1≠g;omega)];exact H.b
 ·rw [heap_setCell_other _ _ _ _ (by show g+2≠g;omega),heap_setCell_other _ _ _ _ (by show g+2≠g;omega)];exact H.r
theorem BH.ats {w:World} {g:Nat} {p q s t:Option Addr} {n c m e k f l h:Nat} {R S T U:List Int} (H:BH w g p q s t n c m e k f l h R S T U):BoxAt w g p n c q m e∧BoxAt w (g+1) s k f t l h:=
 ⟨⟨H.cells.1,H.cells.2.1⟩,⟨H.cells.2.2.1,H.cells.2.2.2.1⟩⟩
theorem hull_sides {w:World} {g:Nat} {p q s t:Option Addr} {n c e f h:Nat} {R S T U:List Int} (H:BH w g p q s t n c n e n f n h R S T U) (hd1:1≤n) (hd2:n≤8):
  Calls Tryz.prog 273 #[.int .i64 n,.func (.func 274) #[] #[.pointer (some ⟨g,0,none⟩),.pointer (some ⟨g+1,0,none⟩)]] w fun e w'=>∃g1 g2:Nat,e= .returned (.agg #[.slice (some ⟨g1,0,none⟩) n n,.slice (some ⟨g2,0,none⟩) n n])∧RowAt w' g1 (part (fun i=>min (R.getD i 0) (T.getD i 0)) n n)∧RowAt w' g2 (part (fun i=>max (S.getD i 0) (U.getD i 0)) n n)∧w.heap.size<g1∧w.heap.size<g2∧g1≠g2∧Below w.heap.size w w':=
 build_any n hd1 hd2 (fun i=>min (R.getD i 0) (T.getD i 0)) (fun i=>max (S.getD i 0) (U.getD i 0)) 274 #[.pointer (some ⟨g,0,none⟩),.pointer (some ⟨g+1,0,none⟩)] (enter_side Tryz.func274 (by kernel_rfl) rfl) w (fun j w' hj hb=>hullside g (g+1) p q s t n c e f h R S T U j hj w' (H.later hb).ats.1 (H.later hb).ats.2 (H.later hb).i1 (H.later hb).i2 (H.later hb).i3 (H.later hb).i4)
theorem rb_eq {R S:List Int} {n m:Nat} (h1:n=R.length) (h2:m=S.length):rightB R S n m n=rb R S:=by rw [h1,h2];rfl
theorem pair_rb {R S T U:List Int} {n m k l:Nat} (h1:n=R.length) (h2:m=S.length) (h3:k=T.length) (h4:l=U.length) (ha:rb R S=true) (hb:rb T U=true):pairB R S T U n m k l=decide (n=k):=by
 unfold pairB
 rw [rb_eq h1 h2,ha,Bool.true_and]
 by_cases h:n=k
 ·rw [decide_eq_true h,h,rb_eq h3 h4,hb]
 ·rw [decide_eq_false h]
  exact rightB_not (fun hh=>h (by omega))
theorem lhull_any (p q s t:Option Addr) (n c m e k f l h:Nat) (R S T U:List Int) (w:World) (h1:Ints w p n c R) (h2:Ints w q m e S) (h3:Ints w s k f T) (h4:Ints w t l h U):
  Calls Tryz.prog 244 #[.agg #[.slice p n c,.slice q m e],.agg #[.slice s k f,.slice t l h]] w fun e w'=>∃v,e= .returned v∧LBox w (hull (R,S) (T,U)).1 (hull (R,S) (T,U)).2 v w':=by
 obtain ⟨hs0,hb0,hz0⟩:=bh_start h1 h2 h3 h4
 obtain ⟨x1,hx1⟩:∃x,rb R S=x:=⟨_,rfl⟩
 obtain ⟨x2,hx2⟩:∃x,rb T U=x:=⟨_,rfl⟩
 have P1:=Lib.hid (show rightB R S n m n=x1 from by rw [rb_eq h1.size h2.size,hx1])
 have P2:=Lib.hid (show rightB T U k l k=x2 from by rw [rb_eq h3.size h4.size,hx2])
 have HH:=Lib.hid (show hull (R,S) (T,U)=if x1=true∧x2=false then (R,S) else if x2=true∧x1=false then (T,U) else if x1=false∨R.length≠T.length then ([],[]) else (two min R T R.length,two max S U R.length) from by rw [← hx1,← hx2];rfl)
 have HX1:=Lib.hid hx1
 have HX2:=Lib.hid hx2
 have H1:=Lib.hid h1
 have H2:=Lib.hid h2
 have H3:=Lib.hid h3
 have H4:=Lib.hid h4
 have HN1:=Lib.hid h1.size
 have HN3:=Lib.hid h3.size
 generalize hull (R,S) (T,U)=Z at *
 clear h1 h2 h3 h4 hx1 hx2
 go_enter Tryz.func244,Tryz.ntmps244
 go_upto_region 1 with fail
 generalize ((w.alloc (.cells #[.slice p n c,.slice q m e] 32)).alloc (.cells #[.slice s k f,.slice t l h] 32)).alloc (.cells #[.slice none 0 0,.slice none 0 0] 32)=w2 at *
 have HF:=Lib.hid hs0
 have HB:=Lib.hid hb0
 obtain ⟨b0,b1,b2,b3,-⟩:=hs0.cells
 clear hs0 hb0 hz0
 go_cut [5,6] (fun s5 s6 wx=>s5= .bool x1∧s6= .bool x2∧Below w2.heap.size w2 wx)
 case first=>
  have HS:=Lib.hid (show ∀w',(Below w2.heap.size w2 w')→Calls Tryz.prog 237 #[.agg #[.slice p n c,.slice q m e],.int .i64 n] w' fun e w''=>e= .returned (.bool x1)∧Below w2.heap.size w2 w'' from fun w' hb=>(right_any p q n c m e R S n w' (HF.out.later hb).i1 (HF.out.later hb).i2).mono (by rw [P1.out];rintro e w'' ⟨h,hb2⟩;exact ⟨h,hb.trans (hb2.mono hb.size)⟩))
  have HT:=Lib.hid (show ∀w',(Below w2.heap.size w2 w')→Calls Tryz.prog 237 #[.agg #[.slice s k f,.slice t l h],.int .i64 k] w' fun e w''=>e= .returned (.bool x2)∧Below w2.heap.size w2 w'' from fun w' hb=>(right_any s t k f l h T U k w' (HF.out.later hb).i3 (HF.out.later hb).i4).mono (by rw [P2.out];rintro e w'' ⟨h,hb2⟩;exact ⟨h,hb.trans (hb2.mono hb.size)⟩))
  go_region_held3 (fun w'=>Below w2.heap.size w2 w'∧w'.cell? ⟨w.heap.size,0,none⟩=some (.slice p n c)∧w'.cell? ⟨w.heap.size,1,none⟩=some (.slice q m e)∧w'.cell? ⟨w.heap.size+1,0,none⟩=some (.slice s k f)∧w'.cell? ⟨w.heap.size+1,1,none⟩=some (.slice t l h)) (first | assumption | exact ⟨(Below.refl _ _).drew,b0,b1,b2,b3⟩ | exact ⟨Below.refl _ _,b0,b1,b2,b3⟩) ((first
   | (go_at_call_of 237 (Value.agg #[.slice p n c,.slice q m e]);refine (HS.out _ (by first | assumption | exact (Below.refl _ _).drew | exact Below.refl _ _)).mono ?_;rintro _ w5 ⟨rfl,hb5⟩;have k5:Below w2.heap.size w2 w5∧w5.cell? ⟨w.heap.size,0,none⟩=some (.slice p n c)∧w5.cell? ⟨w.heap.size,1,none⟩=some (.slice q m e)∧w5.cell? ⟨w.heap.size+1,0,none⟩=some (.slice s k f)∧w5.cell? ⟨w.heap.size+1,1,none⟩=some (.slice t l h):=⟨hb5,(HF.out.later hb5).cells.1,(HF.out.later hb5).cells.2.1,(HF.out.later hb5).cells.2.2.1,(HF.out.later hb5).cells.2.2.2.1⟩)
   | (go_at_call_of 237 (Value.agg #[.slice s k f,.slice t l h]);refine (HT.out _ (by first | assumption | exact (Below.refl _ _).drew | exact Below.refl _ _)).mono ?_;rintro _ w6 ⟨rfl,hb6⟩;have k6:Below w2.heap.size w2 w6∧w6.cell? ⟨w.heap.size,0,none⟩=some (.slice p n c)∧w6.cell? ⟨w.heap.size,1,none⟩=some (.slice q m e)∧w6.cell? ⟨w.heap.size+1,0,none⟩=some (.slice s k f)∧w6.cell? ⟨w.heap.size+1,1,none⟩=some (.slice t l h):=⟨hb6,(HF.out.later hb6).cells.1,(HF.out.later hb6).cells.2.1,(HF.out.later hb6).cells.2.2.1,(HF.out.later hb6).cells.2.2.2.1⟩)))
  all_goals
   go_wp2_with fail
   go_meet
   exact ⟨rfl,rfl,by assumption⟩
 case rest=>
  obtain ⟨rfl,rfl,hbx⟩:=hcut
  obtain ⟨wx,hwx⟩:∃w3,w3=wc:=⟨_,rfl⟩
  rw [← hwx] at hbx ⊢
  clear hwx
  have HG:=Lib.hid (HF.out.later hbx)
  have HL:=Lib.hid (HB.out.trans (hbx.mono HB.out.size))
  clear hbx HF HB b0 b1 b2 b3
  clear w2
  obtain ⟨b0,b1,b2,b3,r0,r1,f0,f1⟩:=HG.out.cells
  have fa0:=frozen_of_row wx w.heap.size 0 _ _ HG.out.a
  have fa1:=frozen_of_row wx w.heap.size 1 _ _ HG.out.a
  have fb0:=frozen_of_row wx (w.heap.size+1) 0 _ _ HG.out.b
  have fb1:=frozen_of_row wx (w.heap.size+1) 1 _ _ HG.out.b
  cases x1 with
  | true=>
   have hd:=rb_len HX1.out
   have hm:m=n:=by rw [H2.out.size,H1.out.size];exact hd.2.2
   have hd1:1≤n:=by rw [H1.out.size];exact hd.1
   have hd2:n≤8:=by rw [H1.out.size];exact hd.2.1
   subst hm
   have HD8:=Lib.hid hd2
   clear hd
   cases x2 with
   | false=>
    have HZ:=Lib.hid (show Z=(R,S) from by rw [HH.out];rfl)
    go_upto_region 8 with fail
    obtain ⟨hbh,hlow⟩:=HG.out.overB rfl H1.out H2.out HL.out
    generalize (wx.setCell ⟨w.heap.size+1,0,none⟩ (.slice p m c)).setCell ⟨w.heap.size+1,1,none⟩ (.slice q m e)=w3 at *
    have HF:=Lib.hid hbh
    have HB:=Lib.hid hlow
    clear hbh hlow b0 b1 b2 b3 r0 r1 f0 f1 fa0 fa1 fb0 fb1 HG HL
    obtain ⟨b0,b1,-,-,-⟩:=HF.out.cells
    have HE:=Lib.hid (hull_sides HF.out hd1 hd2)
    go_wp2_with fail
    refine HE.out.mono ?_
    rintro _ w4 ⟨g1,g2,rfl,h1,h2,l1,l2,ne,hb⟩
    obtain ⟨d0,d1,d2,d3⟩:=(show Bx w4 (w.heap.size+2) (.slice none 0 0) (.slice none 0 0) from (HF.out.later hb).r).facts
    have HLD:=Lib.hid (box_laid (w0:=w) (show Bx w3 (w.heap.size+2) (.slice none 0 0) (.slice none 0 0) from HF.out.r) (show w.heap.size≤w.heap.size+2 by omega) HB.out hb h1 h2 l1 l2 (fun _ hk=>min_ok (HF.out.i1.get _ hk) (HF.out.i3.get _ hk)) (fun _ hk=>max_ok (HF.out.i2.get _ hk) (HF.out.i4.get _ hk)))
    have HG1:=Lib.hid (show w.heap.size≤g1∧w.heap.size≤g2 from ⟨by have:=HB.out.size;omega,by have:=HB.out.size;omega⟩)
    clear h1 h2 l1 l2 ne hb b0 b1
    go_wp2_with fail
    generalize (w4.setCell ⟨w.heap.size+2,0,none⟩ (.slice (some ⟨g1,0,none⟩) m m)).setCell ⟨w.heap.size+2,1,none⟩ (.slice (some ⟨g2,0,none⟩) m m)=w9 at *
    refine ret_box 4 rfl (w.heap.size+2) _ _ rfl HLD.out.1 ⟨_,rfl,?_⟩
    have hp:=made_post (R:=R) (S:=S) (T:=R) (U:=S) (f:=min) (g:=max) HLD.out.2 HD8.out HG1.out.1 HG1.out.2
    rw [HZ.out]
    rw [show two min R R m=R from by rw [H1.out.size];exact two_same (fun x=>by omega) R,show two max S S m=S from by rw [H2.out.size];exact two_same (fun x=>by omega) S] at hp
    exact hp
   | true=>
    have hpr:=pair_rb H1.out.size H2.out.size H3.out.size H4.out.size HX1.out HX2.out
    have hdT:=rb_len HX2.out
    by_cases hnk:m=k
    ·subst hnk
     rw [decide_eq_true rfl] at hpr
     have hlk:l=m:=by rw [H4.out.size,H3.out.size];exact hdT.2.2
     subst hlk
     have HZ:=Lib.hid (show Z=(two min R T l,two max S U l) from by
      rw [HH.out,if_neg (by simp),if_neg (by simp),if_neg (by rw [← H1.out.size,← H3.out.size];simp),← H1.out.size])
     have HPR:=Lib.hid hpr
     clear hpr hdT
     go_upto_region 8 with (go_at_call 272;refine (pair_any p q s t l c l e l f l h R S T U wx HG.out.i1 HG.out.i2 HG.out.i3 HG.out.i4).mono ?_;rw [HPR.out];rintro _ w3 ⟨rfl,hb3⟩;have HF:=Lib.hid (HG.out.later hb3);have HB:=Lib.hid (HL.out.trans (hb3.mono HL.out.size));clear hb3)
     clear b0 b1 b2 b3 r0 r1 f0 f1 fa0 fa1 fb0 fb1 HG HL
     obtain ⟨b0,b1,-,-,-⟩:=HF.out.cells
     have HE:=Lib.hid (hull_sides HF.out hd1 hd2)
     go_wp2_with fail
     refine HE.out.mono ?_
     rintro _ w4 ⟨g1,g2,rfl,h1,h2,l1,l2,ne,hb⟩
     obtain ⟨d0,d1,d2,d3⟩:=(show Bx w4 (w.heap.size+2) (.slice none 0 0) (.slice none 0 0) from (HF.out.later hb).r).facts
     have HLD:=Lib.hid (box_laid (w0:=w) (show Bx w3 (w.heap.size+2) (.slice none 0 0) (.slice none 0 0) from HF.out.r) (show w.heap.size≤w.heap.size+2 by omega) HB.out hb h1 h2 l1 l2 (fun _ hk=>min_ok (HF.out.i1.get _ hk) (HF.out.i3.get _ hk)) (fun _ hk=>max_ok (HF.out.i2.get _ hk) (HF.out.i4.get _ hk)))
     have HG1:=Lib.hid (show w.heap.size≤g1∧w.heap.size≤g2 from ⟨by have:=HB.out.size;omega,by have:=HB.out.size;omega⟩)
     clear h1 h2 l1 l2 ne hb b0 b1
     go_wp2_with fail
     generalize (w4.setCell ⟨w.heap.size+2,0,none⟩ (.slice (some ⟨g1,0,none⟩) l l)).setCell ⟨w.heap.size+2,1,none⟩ (.slice (some ⟨g2,0,none⟩) l l)=w9 at *
     refine ret_box 4 rfl (w.heap.size+2) _ _ rfl HLD.out.1 ⟨_,rfl,?_⟩
     have hp:=made_post (R:=R) (S:=S) (T:=T) (U:=U) (f:=min) (g:=max) HLD.out.2 HD8.out HG1.out.1 HG1.out.2
     rw [HZ.out]
     exact hp
    ·rw [decide_eq_false hnk] at hpr
     have HZ:=Lib.hid (show Z=([],[]) from by
      rw [HH.out,if_neg (by simp),if_neg (by simp),if_pos (Or.inr (by rw [← H1.out.size,← H3.out.size];exact hnk))])
     have HPR:=Lib.hid hpr
     clear hpr hdT hnk
     go_upto_region 7 with (go_at_call 272;refine (pair_any p q s t m c m e k f l h R S T U wx HG.out.i1 HG.out.i2 HG.out.i3 HG.out.i4).mono ?_;rw [HPR.out];rintro _ w3 ⟨rfl,hb3⟩;have HF:=Lib.hid (HG.out.later hb3);have HB:=Lib.hid (HL.out.trans (hb3.mono HL.out.size));clear hb3)
     clear b0 b1 b2 b3 r0 r1 f0 f1 fa0 fa1 fb0 fb1 HG HL
     obtain ⟨-,-,-,-,r0,r1,f0,f1⟩:=HF.out.cells
     go_wp2_with fail
     refine ret_box 4 rfl (w.heap.size+2) _ _ rfl ((show Bx w3 (w.heap.size+2) (.slice none 0 0) (.slice none 0 0) from HF.out.r).set _ _) ⟨_,rfl,?_⟩
     rw [HZ.out]
     exact lbox_nil ((HB.out.setCell (p:=⟨w.heap.size+2,0,none⟩) (by show w.heap.size≤w.heap.size+2;omega) _).setCell (p:=⟨w.heap.size+2,1,none⟩) (by show w.heap.size≤w.heap.size+2;omega) _)
  | false=>
   cases x2 with
   | true=>
    have hd:=rb_len HX2.out
    have hm:l=k:=by rw [H4.out.size,H3.out.size];exact hd.2.2
    have hd1:1≤k:=by rw [H3.out.size];exact hd.1
    have hd2:k≤8:=by rw [H3.out.size];exact hd.2.1
    subst hm
    have HD8:=Lib.hid hd2
    have HZ:=Lib.hid (show Z=(T,U) from by rw [HH.out];rfl)
    clear hd
    go_upto_region 8 with fail
    obtain ⟨hbh,hlow⟩:=HG.out.overA rfl H3.out H4.out HL.out
    generalize (wx.setCell ⟨w.heap.size,0,none⟩ (.slice s l f)).setCell ⟨w.heap.size,1,none⟩ (.slice t l h)=w3 at *
    have HF:=Lib.hid hbh
    have HB:=Lib.hid hlow
    clear hbh hlow b0 b1 b2 b3 r0 r1 f0 f1 fa0 fa1 fb0 fb1 HG HL
    obtain ⟨b0,b1,-,-,-⟩:=HF.out.cells
    have HE:=Lib.hid (hull_sides HF.out hd1 hd2)
    go_wp2_with fail
    refine HE.out.mono ?_
    rintro _ w4 ⟨g1,g2,rfl,h1,h2,l1,l2,ne,hb⟩
    obtain ⟨d0,d1,d2,d3⟩:=(show Bx w4 (w.heap.size+2) (.slice none 0 0) (.slice none 0 0) from (HF.out.later hb).r).facts
    have HLD:=Lib.hid (box_laid (w0:=w) (show Bx w3 (w.heap.size+2) (.slice none 0 0) (.slice none 0 0) from HF.out.r) (show w.heap.size≤w.heap.size+2 by omega) HB.out hb h1 h2 l1 l2 (fun _ hk=>min_ok (HF.out.i1.get _ hk) (HF.out.i3.get _ hk)) (fun _ hk=>max_ok (HF.out.i2.get _ hk) (HF.out.i4.get _ hk)))
    have HG1:=Lib.hid (show w.heap.size≤g1∧w.heap.size≤g2 from ⟨by have:=HB.out.size;omega,by have:=HB.out.size;omega⟩)
    clear h1 h2 l1 l2 ne hb b0 b1
    go_wp2_with fail
    generalize (w4.setCell ⟨w.heap.size+2,0,none⟩ (.slice (some ⟨g1,0,none⟩) l l)).setCell ⟨w.heap.size+2,1,none⟩ (.slice (some ⟨g2,0,none⟩) l l)=w9 at *
    refine ret_box 4 rfl (w.heap.size+2) _ _ rfl HLD.out.1 ⟨_,rfl,?_⟩
    have hp:=made_post (R:=T) (S:=U) (T:=T) (U:=U) (f:=min) (g:=max) HLD.out.2 HD8.out HG1.out.1 HG1.out.2
    rw [HZ.out]
    rw [show two min T T l=T from by rw [H3.out.size];exact two_same (fun x=>by omega) T,show two max U U l=U from by rw [H4.out.size];exact two_same (fun x=>by omega) U] at hp
    exact hp
   | false=>
    have hpr:pairB R S T U n m k l=false:=by unfold pairB;rw [P1.out];rfl
    have HZ:=Lib.hid (show Z=([],[]) from by rw [HH.out];rfl)
    have HPR:=Lib.hid hpr
    clear hpr
    go_upto_region 7 with (go_at_call 272;refine (pair_any p q s t n c m e k f l h R S T U wx HG.out.i1 HG.out.i2 HG.out.i3 HG.out.i4).mono ?_;rw [HPR.out];rintro _ w3 ⟨rfl,hb3⟩;have HF:=Lib.hid (HG.out.later hb3);have HB:=Lib.hid (HL.out.trans (hb3.mono HL.out.size));clear hb3)
    clear b0 b1 b2 b3 r0 r1 f0 f1 fa0 fa1 fb0 fb1 HG HL
    obtain ⟨-,-,-,-,r0,r1,f0,f1⟩:=HF.out.cells
    go_wp2_with fail
    refine ret_box 4 rfl (w.heap.size+2) _ _ rfl ((show Bx w3 (w.heap.size+2) (.slice none 0 0) (.slice none 0 0) from HF.out.r).set _ _) ⟨_,rfl,?_⟩
    rw [HZ.out]
    exact lbox_nil ((HB.out.setCell (p:=⟨w.heap.size+2,0,none⟩) (by show w.heap.size≤w.heap.size+2;omega) _).setCell (p:=⟨w.heap.size+2,1,none⟩) (by show w.heap.size≤w.heap.size+2;omega) _)
end Go.Proofs.YtinihaflmdihaaaGreat.Nd
