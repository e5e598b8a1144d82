/- BoxHullR, NlHull. -/
import Derived.Test.YtinihaflmdihaaaGreatL10
set_option maxRecDepth 100000
set_option maxHeartbeats 8000000
set_option linter.all false
namespace Go.Proofs.YtinihaflmdihaaaGreat
open Go.RowKit
theorem y2e (B C:Nat) (p q r s:Option Addr) (n c e f g:Nat) (R S T U:List Int) (k:Nat) (hk:k<n) (w:World) (hB:BoxAt w B p n c q n e) (hC:BoxAt w C r n f s n g) (h1:Ints w p n c R) (h2:Ints w q n e S) (h3:Ints w r n f T) (h4:Ints w s n g U):
  Calls Tryz.prog 274 #[.int .i64 k,.pointer (some ⟨B,0,none⟩),.pointer (some ⟨C,0,none⟩)] w fun e w'=>e= .returned (.tuple #[.int .i64 (min (R.getD k 0) (T.getD k 0)),.int .i64 (max (S.getD k 0) (U.getD k 0))])∧∃j,w'=w.drewN j:=by
 obtain ⟨L,G⟩:=hB
 obtain ⟨J,I⟩:=hC
 obtain ⟨Y,X,rfl,H⟩:=h1.cell k hk
 obtain ⟨N,Q,rfl,K⟩:=h2.cell k hk
 obtain ⟨P,O,rfl,E⟩:=h3.cell k hk
 obtain ⟨W,M,rfl,A⟩:=h4.cell k hk
 clear h1 h2 h3 h4
 generalize R.getD k 0=xR at *
 generalize S.getD k 0=xS at *
 generalize T.getD k 0=xT at *
 generalize U.getD k 0=xU at *
 have b1:(0:Int)≤k∧(k:Int)<n:=by omega
 go_enter Tryz.func274,Tryz.ntmps274
 go_wp2_with fail
 go_quiet (fail)
 go_wp2_with fail
 go_ret2
 exact ⟨rfl,_,rfl⟩
theorem y0t {x y:Int} (hx: -9223372036854775808≤x∧x≤9223372036854775807) (hy: -9223372036854775808≤y∧y≤9223372036854775807): -9223372036854775808≤max x y∧max x y≤9223372036854775807:=by omega
theorem y0u {x y:Int} (hx: -9223372036854775808≤x∧x≤9223372036854775807) (hy: -9223372036854775808≤y∧y≤9223372036854775807): -9223372036854775808≤min x y∧min x y≤9223372036854775807:=by omega
end Go.Proofs.YtinihaflmdihaaaGreat
namespace Go.Proofs.YtinihaflmdihaaaGreat.Nd
open Go.RowKit Go.Proofs.YtinihaflmdihaaaGreat.Zr
theorem x8l (f:Int→Int→Int) (R T:List Int) (n:Nat):part (fun i=>f (R.getD i 0) (T.getD i 0)) n n=two f R T n:=by
 unfold part two
 apply List.map_congr_left
 intro i hi
 rw [if_pos (List.mem_range.1 hi)]
theorem x4X {f:Int→Int→Int} (hf:∀x,f x x=x) (R:List Int):two f R R R.length=R:=by
 apply List.ext_getElem
 ·rw [x3g]
 ·intro i h1 h2
  simp [two,hf,List.getD_eq_getElem?_getD,h2]
def LBox (w:World) (A B:List Int) (v:Value) (w':World):Prop:=∃r1 r2:Rw,v= .agg #[r1.val,r2.val]∧r1.R=A∧r2.R=B∧FrRw w' w.heap.size r1∧FrRw w' w.heap.size r2∧Below w.heap.size w w'
theorem x51 {w w':World} {f g:Int→Int→Int} {R S T U:List Int} {n g1 g2:Nat} (h:x7z w (fun i=>f (R.getD i 0) (T.getD i 0)) (fun i=>g (S.getD i 0) (U.getD i 0)) n (.agg #[.slice (some ⟨g1,0,none⟩) n n,.slice (some ⟨g2,0,none⟩) n n]) w') (hn:n≤8) (l1:w.heap.size≤g1) (l2:w.heap.size≤g2):LBox w (two f R T n) (two g S U n) (.agg #[.slice (some ⟨g1,0,none⟩) n n,.slice (some ⟨g2,0,none⟩) n n]) w':=by
 obtain ⟨H,G,A,C,B,E⟩:=h
 simp only [Value.agg.injEq,Array.mk.injEq,List.cons.injEq,Value.slice.injEq,Option.some.injEq,Addr.mk.injEq,and_true] at A
 obtain ⟨rfl,rfl⟩:=A
 rw [x8l] at C
 rw [x8l] at B
 refine ⟨⟨some ⟨g1,0,none⟩,n,n,two f R T n⟩,⟨some ⟨g2,0,none⟩,n,n,two g S U n⟩,rfl,rfl,rfl,⟨⟨C,by show n≤_;omega⟩,fun x hx _=>?_⟩,⟨⟨B,by show n≤_;omega⟩,fun x hx _=>?_⟩,E⟩
 ·obtain rfl:x=⟨g1,0,none⟩:=by simpa using hx.symm
  exact l1
 ·obtain rfl:x=⟨g2,0,none⟩:=by simpa using hx.symm
  exact l2
theorem x8m {w w':World} (h:Below w.heap.size w w'):LBox w [] [] (.agg #[.slice none 0 0,.slice none 0 0]) w':=⟨⟨none,0,0,[]⟩,⟨none,0,0,[]⟩,rfl,rfl,rfl,x1p _ _,x1p _ _,h⟩
theorem BH.overB {w:World} {g:Nat} {p q s t:Option Addr} {n c m e k f l h:Nat} {R S T U:List Int} (H:BH w g p q s t n c m e k f l h R S T U) {w0:World} (hg:g=w0.heap.size) (h1:Ints w0 p n c R) (h2:Ints w0 q m e S) (hl:Below w0.heap.size w0 w):
  BH ((w.setCell ⟨g+1,0,none⟩ (.slice p n c)).setCell ⟨g+1,1,none⟩ (.slice q m e)) g p q p q n c m e n c m e R S R S∧Below w0.heap.size w0 ((w.setCell ⟨g+1,0,none⟩ (.slice p n c)).setCell ⟨g+1,1,none⟩ (.slice q m e)):=by
 have A:Below w0.heap.size w0 ((w.setCell ⟨g+1,0,none⟩ (.slice p n c)).setCell ⟨g+1,1,none⟩ (.slice q m e)):=(hl.setCell (p:=⟨g+1,0,none⟩) (by show w0.heap.size≤g+1;omega) _).setCell (p:=⟨g+1,1,none⟩) (by show w0.heap.size≤g+1;omega) _
 refine ⟨⟨?_,?_,?_,h1.later A,h2.later A,h1.later A,h2.later A⟩,A⟩
 ·rw [heap_setCell_other _ _ _ _ (by show g≠g+1;omega),heap_setCell_other _ _ _ _ (by show g≠g+1;omega)];exact H.a
 ·exact heap_setCell_same _ (g+1) 1 _ _ _ (heap_setCell_same w (g+1) 0 _ _ _ H.b)
 ·rw [heap_setCell_other _ _ _ _ (by show g+2≠g+1;omega),heap_setCell_other _ _ _ _ (by show g+2≠g+1;omega)];exact H.r
theorem BH.overA {w:World} {g:Nat} {p q s t:Option Addr} {n c m e k f l h:Nat} {R S T U:List Int} (H:BH w g p q s t n c m e k f l h R S T U) {w0:World} (hg:g=w0.heap.size) (h1:Ints w0 s k f T) (h2:Ints w0 t l h U) (hl:Below w0.heap.size w0 w):
  BH ((w.setCell ⟨g,0,none⟩ (.slice s k f)).setCell ⟨g,1,none⟩ (.slice t l h)) g s t s t k f l h k f l h T U T U∧Below w0.heap.size w0 ((w.setCell ⟨g,0,none⟩ (.slice s k f)).setCell ⟨g,1,none⟩ (.slice t l h)):=by
 have A:Below w0.heap.size w0 ((w.setCell ⟨g,0,none⟩ (.slice s k f)).setCell ⟨g,1,none⟩ (.slice t l h)):=(hl.setCell (p:=⟨g,0,none⟩) (by show w0.heap.size≤g;omega) _).setCell (p:=⟨g,1,none⟩) (by show w0.heap.size≤g;omega) _
 refine ⟨⟨?_,?_,?_,h1.later A,h2.later A,h1.later A,h2.later A⟩,A⟩
 ·exact heap_setCell_same _ g 1 _ _ _ (heap_setCell_same w g 0 _ _ _ H.a)
 ·rw [heap_setCell_other _ _ _ _ (by show g+1≠g;omega),heap_setCell_other _ _ _ _ (by show g+1≠g;omega)];exact H.b
 ·rw [heap_setCell_other _ _ _ _ (by show g+2≠g;omega),heap_setCell_other _ _ _ _ (by show g+2≠g;omega)];exact H.r
theorem BH.ats {w:World} {g:Nat} {p q s t:Option Addr} {n c m e k f l h:Nat} {R S T U:List Int} (H:BH w g p q s t n c m e k f l h R S T U):BoxAt w g p n c q m e∧BoxAt w (g+1) s k f t l h:=
 ⟨⟨H.cells.1,H.cells.2.1⟩,⟨H.cells.2.2.1,H.cells.2.2.2.1⟩⟩
theorem x3v {w:World} {g:Nat} {p q s t:Option Addr} {n c e f h:Nat} {R S T U:List Int} (H:BH w g p q s t n c n e n f n h R S T U) (hd1:1≤n) (hd2:n≤8):
  Calls Tryz.prog 273 #[.int .i64 n,.func (.func 274) #[] #[.pointer (some ⟨g,0,none⟩),.pointer (some ⟨g+1,0,none⟩)]] w fun e w'=>∃g1 g2:Nat,e= .returned (.agg #[.slice (some ⟨g1,0,none⟩) n n,.slice (some ⟨g2,0,none⟩) n n])∧RowAt w' g1 (part (fun i=>min (R.getD i 0) (T.getD i 0)) n n)∧RowAt w' g2 (part (fun i=>max (S.getD i 0) (U.getD i 0)) n n)∧w.heap.size<g1∧w.heap.size<g2∧g1≠g2∧Below w.heap.size w w':=
 x7I n hd1 hd2 (fun i=>min (R.getD i 0) (T.getD i 0)) (fun i=>max (S.getD i 0) (U.getD i 0)) 274 #[.pointer (some ⟨g,0,none⟩),.pointer (some ⟨g+1,0,none⟩)] (x3i Tryz.func274 (by kernel_rfl) rfl) w (fun j w' hj hb=>y2e g (g+1) p q s t n c e f h R S T U j hj w' (H.later hb).ats.1 (H.later hb).ats.2 (H.later hb).i1 (H.later hb).i2 (H.later hb).i3 (H.later hb).i4)
theorem rb_eq {R S:List Int} {n m:Nat} (h1:n=R.length) (h2:m=S.length):x0d R S n m n=rb R S:=by rw [h1,h2];rfl
theorem y4R {R S T U:List Int} {n m k l:Nat} (h1:n=R.length) (h2:m=S.length) (h3:k=T.length) (h4:l=U.length) (ha:rb R S=true) (hb:rb T U=true):pairB R S T U n m k l=decide (n=k):=by
 unfold pairB
 rw [rb_eq h1 h2,ha,Bool.true_and]
 by_cases h:n=k
 ·rw [decide_eq_true h,h,rb_eq h3 h4,hb]
 ·rw [decide_eq_false h]
  exact x12 (fun hh=>h (by omega))
theorem x52 (p q s t:Option Addr) (n c m e k f l h:Nat) (R S T U:List Int) (w:World) (h1:Ints w p n c R) (h2:Ints w q m e S) (h3:Ints w s k f T) (h4:Ints w t l h U):
  Calls Tryz.prog 244 #[.agg #[.slice p n c,.slice q m e],.agg #[.slice s k f,.slice t l h]] w fun e w'=>∃v,e= .returned v∧LBox w (hull (R,S) (T,U)).1 (hull (R,S) (T,U)).2 v w':=by
 obtain ⟨AO,AU,Aa⟩:=x8J h1 h2 h3 h4
 obtain ⟨x1,A6⟩:∃x,rb R S=x:=⟨_,rfl⟩
 obtain ⟨x2,A1⟩:∃x,rb T U=x:=⟨_,rfl⟩
 have P1:=yH (show x0d R S n m n=x1 from by rw [rb_eq h1.size h2.size,A6])
 have P2:=yH (show x0d T U k l k=x2 from by rw [rb_eq h3.size h4.size,A1])
 have HH:=yH (show hull (R,S) (T,U)=if x1=true∧x2=false then (R,S) else if x2=true∧x1=false then (T,U) else if x1=false∨R.length≠T.length then ([],[]) else (two min R T R.length,two max S U R.length) from by rw [← A6,← A1];rfl)
 have AV:=yH A6
 have AE:=yH A1
 have H1:=yH h1
 have H2:=yH h2
 have H3:=yH h3
 have H4:=yH h4
 have Ai:=yH h1.size
 have Aj:=yH h3.size
 generalize hull (R,S) (T,U)=Z at *
 clear h1 h2 h3 h4 A6 A1
 go_enter Tryz.func244,Tryz.ntmps244
 go_upto_region 1 with fail
 generalize ((w.alloc (.cells #[.slice p n c,.slice q m e] 32)).alloc (.cells #[.slice s k f,.slice t l h] 32)).alloc (.cells #[.slice none 0 0,.slice none 0 0] 32)=w2 at *
 have A:=yH AO
 have H:=yH AU
 obtain ⟨b0,b1,b2,u,-⟩:=AO.cells
 clear AO AU Aa
 go_cut [5,6] (fun s5 s6 P=>s5= .bool x1∧s6= .bool x2∧Below w2.heap.size w2 P)
 case first=>
  have HS:=yH (show ∀w',(Below w2.heap.size w2 w')→Calls Tryz.prog 237 #[.agg #[.slice p n c,.slice q m e],.int .i64 n] w' fun e X=>e= .returned (.bool x1)∧Below w2.heap.size w2 X from fun w' E=>(x2D p q n c m e R S n w' (A.out.later E).i1 (A.out.later E).i2).mono (by rw [P1.out];rintro e X ⟨h,AN⟩;exact ⟨h,E.trans (AN.mono E.size)⟩))
  have HT:=yH (show ∀w',(Below w2.heap.size w2 w')→Calls Tryz.prog 237 #[.agg #[.slice s k f,.slice t l h],.int .i64 k] w' fun e X=>e= .returned (.bool x2)∧Below w2.heap.size w2 X from fun w' E=>(x2D s t k f l h T U k w' (A.out.later E).i3 (A.out.later E).i4).mono (by rw [P2.out];rintro e X ⟨h,AN⟩;exact ⟨h,E.trans (AN.mono E.size)⟩))
  go_region_held3 (fun w'=>Below w2.heap.size w2 w'∧w'.cell? ⟨w.heap.size,0,none⟩=some (.slice p n c)∧w'.cell? ⟨w.heap.size,1,none⟩=some (.slice q m e)∧w'.cell? ⟨w.heap.size+1,0,none⟩=some (.slice s k f)∧w'.cell? ⟨w.heap.size+1,1,none⟩=some (.slice t l h)) (first | assumption | exact ⟨(Below.refl _ _).drew,b0,b1,b2,u⟩ | exact ⟨Below.refl _ _,b0,b1,b2,u⟩) ((first
   | (go_at_call_of 237 (Value.agg #[.slice p n c,.slice q m e]);refine (HS.out _ (by first | assumption | exact (Below.refl _ _).drew | exact Below.refl _ _)).mono ?_;rintro _ w5 ⟨rfl,o⟩;have k5:Below w2.heap.size w2 w5∧w5.cell? ⟨w.heap.size,0,none⟩=some (.slice p n c)∧w5.cell? ⟨w.heap.size,1,none⟩=some (.slice q m e)∧w5.cell? ⟨w.heap.size+1,0,none⟩=some (.slice s k f)∧w5.cell? ⟨w.heap.size+1,1,none⟩=some (.slice t l h):=⟨o,(A.out.later o).cells.1,(A.out.later o).cells.2.1,(A.out.later o).cells.2.2.1,(A.out.later o).cells.2.2.2.1⟩)
   | (go_at_call_of 237 (Value.agg #[.slice s k f,.slice t l h]);refine (HT.out _ (by first | assumption | exact (Below.refl _ _).drew | exact Below.refl _ _)).mono ?_;rintro _ w6 ⟨rfl,Y⟩;have k6:Below w2.heap.size w2 w6∧w6.cell? ⟨w.heap.size,0,none⟩=some (.slice p n c)∧w6.cell? ⟨w.heap.size,1,none⟩=some (.slice q m e)∧w6.cell? ⟨w.heap.size+1,0,none⟩=some (.slice s k f)∧w6.cell? ⟨w.heap.size+1,1,none⟩=some (.slice t l h):=⟨Y,(A.out.later Y).cells.1,(A.out.later Y).cells.2.1,(A.out.later Y).cells.2.2.1,(A.out.later Y).cells.2.2.2.1⟩)))
  all_goals
   go_wp2_with fail
   go_meet
   exact ⟨rfl,rfl,by assumption⟩
 case rest=>
  obtain ⟨rfl,rfl,A7⟩:=hcut
  obtain ⟨P,AR⟩:∃O,O=wc:=⟨_,rfl⟩
  rw [← AR] at A7 ⊢
  clear AR
  have B:=yH (A.out.later A7)
  have L:=yH (H.out.trans (A7.mono H.out.size))
  clear A7 A H b0 b1 b2 u
  clear w2
  obtain ⟨b0,b1,b2,u,r0,r1,f0,f1⟩:=B.out.cells
  have d:=frozen_of_row P w.heap.size 0 _ _ B.out.a
  have Q:=frozen_of_row P w.heap.size 1 _ _ B.out.a
  have i:=frozen_of_row P (w.heap.size+1) 0 _ _ B.out.b
  have W:=frozen_of_row P (w.heap.size+1) 1 _ _ B.out.b
  cases x1 with
  | true=>
   have y:=x6v AV.out
   have hm:m=n:=by rw [H2.out.size,H1.out.size];exact y.2.2
   have z:1≤n:=by rw [H1.out.size];exact y.1
   have M:n≤8:=by rw [H1.out.size];exact y.2.1
   subst hm
   have A0:=yH M
   clear y
   cases x2 with
   | false=>
    have HZ:=yH (show Z=(R,S) from by rw [HH.out];rfl)
    go_upto_region 8 with fail
    obtain ⟨N,J⟩:=B.out.overB rfl H1.out H2.out L.out
    generalize (P.setCell ⟨w.heap.size+1,0,none⟩ (.slice p m c)).setCell ⟨w.heap.size+1,1,none⟩ (.slice q m e)=O at *
    have A:=yH N
    have H:=yH J
    clear N J b0 b1 b2 u r0 r1 f0 f1 d Q i W B L
    obtain ⟨b0,b1,-,-,-⟩:=A.out.cells
    have HE:=yH (x3v A.out z M)
    go_wp2_with fail
    refine HE.out.mono ?_
    rintro _ w4 ⟨g1,g2,rfl,h1,h2,l1,l2,ne,E⟩
    obtain ⟨d0,d1,d2,d3⟩:=(show Bx w4 (w.heap.size+2) (.slice none 0 0) (.slice none 0 0) from (A.out.later E).r).facts
    have I:=yH (x4W (w0:=w) (show Bx O (w.heap.size+2) (.slice none 0 0) (.slice none 0 0) from A.out.r) (show w.heap.size≤w.heap.size+2 by omega) H.out E h1 h2 l1 l2 (fun _ hk=>y0u (A.out.i1.get _ hk) (A.out.i3.get _ hk)) (fun _ hk=>y0t (A.out.i2.get _ hk) (A.out.i4.get _ hk)))
    have K:=yH (show w.heap.size≤g1∧w.heap.size≤g2 from ⟨by have:=H.out.size;omega,by have:=H.out.size;omega⟩)
    clear h1 h2 l1 l2 ne E b0 b1
    go_wp2_with fail
    generalize (w4.setCell ⟨w.heap.size+2,0,none⟩ (.slice (some ⟨g1,0,none⟩) m m)).setCell ⟨w.heap.size+2,1,none⟩ (.slice (some ⟨g2,0,none⟩) m m)=w9 at *
    refine x31 4 rfl (w.heap.size+2) _ _ rfl I.out.1 ⟨_,rfl,?_⟩
    have hp:=x51 (R:=R) (S:=S) (T:=R) (U:=S) (f:=min) (g:=max) I.out.2 A0.out K.out.1 K.out.2
    rw [HZ.out]
    rw [show two min R R m=R from by rw [H1.out.size];exact x4X (fun x=>by omega) R,show two max S S m=S from by rw [H2.out.size];exact x4X (fun x=>by omega) S] at hp
    exact hp
   | true=>
    have G:=y4R H1.out.size H2.out.size H3.out.size H4.out.size AV.out AE.out
    have AK:=x6v AE.out
    by_cases hnk:m=k
    ·subst hnk
     rw [decide_eq_true rfl] at G
     have Ab:l=m:=by rw [H4.out.size,H3.out.size];exact AK.2.2
     subst Ab
     have HZ:=yH (show Z=(two min R T l,two max S U l) from by
      rw [HH.out,if_neg (by simp),if_neg (by simp),if_neg (by rw [← H1.out.size,← H3.out.size];simp),← H1.out.size])
     have j:=yH G
     clear G AK
     go_upto_region 8 with (go_at_call 272;refine (x6X p q s t l c l e l f l h R S T U P B.out.i1 B.out.i2 B.out.i3 B.out.i4).mono ?_;rw [j.out];rintro _ O ⟨rfl,C⟩;have A:=yH (B.out.later C);have H:=yH (L.out.trans (C.mono L.out.size));clear C)
     clear b0 b1 b2 u r0 r1 f0 f1 d Q i W B L
     obtain ⟨b0,b1,-,-,-⟩:=A.out.cells
     have HE:=yH (x3v A.out z M)
     go_wp2_with fail
     refine HE.out.mono ?_
     rintro _ w4 ⟨g1,g2,rfl,h1,h2,l1,l2,ne,E⟩
     obtain ⟨d0,d1,d2,d3⟩:=(show Bx w4 (w.heap.size+2) (.slice none 0 0) (.slice none 0 0) from (A.out.later E).r).facts
     have I:=yH (x4W (w0:=w) (show Bx O (w.heap.size+2) (.slice none 0 0) (.slice none 0 0) from A.out.r) (show w.heap.size≤w.heap.size+2 by omega) H.out E h1 h2 l1 l2 (fun _ hk=>y0u (A.out.i1.get _ hk) (A.out.i3.get _ hk)) (fun _ hk=>y0t (A.out.i2.get _ hk) (A.out.i4.get _ hk)))
     have K:=yH (show w.heap.size≤g1∧w.heap.size≤g2 from ⟨by have:=H.out.size;omega,by have:=H.out.size;omega⟩)
     clear h1 h2 l1 l2 ne E b0 b1
     go_wp2_with fail
     generalize (w4.setCell ⟨w.heap.size+2,0,none⟩ (.slice (some ⟨g1,0,none⟩) l l)).setCell ⟨w.heap.size+2,1,none⟩ (.slice (some ⟨g2,0,none⟩) l l)=w9 at *
     refine x31 4 rfl (w.heap.size+2) _ _ rfl I.out.1 ⟨_,rfl,?_⟩
     have hp:=x51 (R:=R) (S:=S) (T:=T) (U:=U) (f:=min) (g:=max) I.out.2 A0.out K.out.1 K.out.2
     rw [HZ.out]
     exact hp
    ·rw [decide_eq_false hnk] at G
     have HZ:=yH (show Z=([],[]) from by
      rw [HH.out,if_neg (by simp),if_neg (by simp),if_pos (Or.inr (by rw [← H1.out.size,← H3.out.size];exact hnk))])
     have j:=yH G
     clear G AK hnk
     go_upto_region 7 with (go_at_call 272;refine (x6X p q s t m c m e k f l h R S T U P B.out.i1 B.out.i2 B.out.i3 B.out.i4).mono ?_;rw [j.out];rintro _ O ⟨rfl,C⟩;have A:=yH (B.out.later C);have H:=yH (L.out.trans (C.mono L.out.size));clear C)
     clear b0 b1 b2 u r0 r1 f0 f1 d Q i W B L
     obtain ⟨-,-,-,-,r0,r1,f0,f1⟩:=A.out.cells
     go_wp2_with fail
     refine x31 4 rfl (w.heap.size+2) _ _ rfl ((show Bx O (w.heap.size+2) (.slice none 0 0) (.slice none 0 0) from A.out.r).set _ _) ⟨_,rfl,?_⟩
     rw [HZ.out]
     exact x8m ((H.out.setCell (p:=⟨w.heap.size+2,0,none⟩) (by show w.heap.size≤w.heap.size+2;omega) _).setCell (p:=⟨w.heap.size+2,1,none⟩) (by show w.heap.size≤w.heap.size+2;omega) _)
  | false=>
   cases x2 with
   | true=>
    have y:=x6v AE.out
    have hm:l=k:=by rw [H4.out.size,H3.out.size];exact y.2.2
    have z:1≤k:=by rw [H3.out.size];exact y.1
    have M:k≤8:=by rw [H3.out.size];exact y.2.1
    subst hm
    have A0:=yH M
    have HZ:=yH (show Z=(T,U) from by rw [HH.out];rfl)
    clear y
    go_upto_region 8 with fail
    obtain ⟨N,J⟩:=B.out.overA rfl H3.out H4.out L.out
    generalize (P.setCell ⟨w.heap.size,0,none⟩ (.slice s l f)).setCell ⟨w.heap.size,1,none⟩ (.slice t l h)=O at *
    have A:=yH N
    have H:=yH J
    clear N J b0 b1 b2 u r0 r1 f0 f1 d Q i W B L
    obtain ⟨b0,b1,-,-,-⟩:=A.out.cells
    have HE:=yH (x3v A.out z M)
    go_wp2_with fail
    refine HE.out.mono ?_
    rintro _ w4 ⟨g1,g2,rfl,h1,h2,l1,l2,ne,E⟩
    obtain ⟨d0,d1,d2,d3⟩:=(show Bx w4 (w.heap.size+2) (.slice none 0 0) (.slice none 0 0) from (A.out.later E).r).facts
    have I:=yH (x4W (w0:=w) (show Bx O (w.heap.size+2) (.slice none 0 0) (.slice none 0 0) from A.out.r) (show w.heap.size≤w.heap.size+2 by omega) H.out E h1 h2 l1 l2 (fun _ hk=>y0u (A.out.i1.get _ hk) (A.out.i3.get _ hk)) (fun _ hk=>y0t (A.out.i2.get _ hk) (A.out.i4.get _ hk)))
    have K:=yH (show w.heap.size≤g1∧w.heap.size≤g2 from ⟨by have:=H.out.size;omega,by have:=H.out.size;omega⟩)
    clear h1 h2 l1 l2 ne E b0 b1
    go_wp2_with fail
    generalize (w4.setCell ⟨w.heap.size+2,0,none⟩ (.slice (some ⟨g1,0,none⟩) l l)).setCell ⟨w.heap.size+2,1,none⟩ (.slice (some ⟨g2,0,none⟩) l l)=w9 at *
    refine x31 4 rfl (w.heap.size+2) _ _ rfl I.out.1 ⟨_,rfl,?_⟩
    have hp:=x51 (R:=T) (S:=U) (T:=T) (U:=U) (f:=min) (g:=max) I.out.2 A0.out K.out.1 K.out.2
    rw [HZ.out]
    rw [show two min T T l=T from by rw [H3.out.size];exact x4X (fun x=>by omega) T,show two max U U l=U from by rw [H4.out.size];exact x4X (fun x=>by omega) U] at hp
    exact hp
   | false=>
    have G:pairB R S T U n m k l=false:=by unfold pairB;rw [P1.out];rfl
    have HZ:=yH (show Z=([],[]) from by rw [HH.out];rfl)
    have j:=yH G
    clear G
    go_upto_region 7 with (go_at_call 272;refine (x6X p q s t n c m e k f l h R S T U P B.out.i1 B.out.i2 B.out.i3 B.out.i4).mono ?_;rw [j.out];rintro _ O ⟨rfl,C⟩;have A:=yH (B.out.later C);have H:=yH (L.out.trans (C.mono L.out.size));clear C)
    clear b0 b1 b2 u r0 r1 f0 f1 d Q i W B L
    obtain ⟨-,-,-,-,r0,r1,f0,f1⟩:=A.out.cells
    go_wp2_with fail
    refine x31 4 rfl (w.heap.size+2) _ _ rfl ((show Bx O (w.heap.size+2) (.slice none 0 0) (.slice none 0 0) from A.out.r).set _ _) ⟨_,rfl,?_⟩
    rw [HZ.out]
    exact x8m ((H.out.setCell (p:=⟨w.heap.size+2,0,none⟩) (by show w.heap.size≤w.heap.size+2;omega) _).setCell (p:=⟨w.heap.size+2,1,none⟩) (by show w.heap.size≤w.heap.size+2;omega) _)
end Go.Proofs.YtinihaflmdihaaaGreat.Nd
