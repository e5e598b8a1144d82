/- NlHull. -/
import Derived.Test.YtinihaflmdihaaaGreatK6
import Derived.Test.YtinihaflmdihaaaGreatK10
set_option maxRecDepth 100000
set_option maxHeartbeats 8000000
set_option linter.all false
namespace Go.Proofs.YtinihaflmdihaaaGreat.Nd
open Go.RowKit Go.Proofs.YtinihaflmdihaaaGreat.Zr
theorem two_part (f:Int→Int→Int) (R T:List Int) (n:Nat):part (fun i=>f (R.getD i 0) (T.getD i 0)) n n=two f R T n:=by
 unfold part two
 apply List.map_congr_left
 intro i hi
 rw [if_pos (List.mem_range.1 hi)]
theorem two_same {f:Int→Int→Int} (hf:∀x,f x x=x) (R:List Int):two f R R R.length=R:=by
 apply List.ext_getElem
 ·rw [two_length]
 ·intro i h1 h2
  simp [two,hf,List.getD_eq_getElem?_getD,h2]
def LBox (w:World) (A B:List Int) (v:Value) (w':World):Prop:=∃r1 r2:Rw,v= .agg #[r1.val,r2.val]∧r1.R=A∧r2.R=B∧FrRw w' w.heap.size r1∧FrRw w' w.heap.size r2∧Below w.heap.size w w'
theorem made_post {w w':World} {f g:Int→Int→Int} {R S T U:List Int} {n g1 g2:Nat} (h:MadeBox w (fun i=>f (R.getD i 0) (T.getD i 0)) (fun i=>g (S.getD i 0) (U.getD i 0)) n (.agg #[.slice (some ⟨g1,0,none⟩) n n,.slice (some ⟨g2,0,none⟩) n n]) w') (hn:n≤8) (l1:w.heap.size≤g1) (l2:w.heap.size≤g2):LBox w (two f R T n) (two g S U n) (.agg #[.slice (some ⟨g1,0,none⟩) n n,.slice (some ⟨g2,0,none⟩) n n]) w':=by
 obtain ⟨h1,h2,he,i1,i2,hb⟩:=h
 simp only [Value.agg.injEq,Array.mk.injEq,List.cons.injEq,Value.slice.injEq,Option.some.injEq,Addr.mk.injEq,and_true] at he
 obtain ⟨rfl,rfl⟩:=he
 rw [two_part] at i1
 rw [two_part] at i2
 refine ⟨⟨some ⟨g1,0,none⟩,n,n,two f R T n⟩,⟨some ⟨g2,0,none⟩,n,n,two g S U n⟩,rfl,rfl,rfl,⟨⟨i1,by show n≤_;omega⟩,fun x hx _=>?_⟩,⟨⟨i2,by show n≤_;omega⟩,fun x hx _=>?_⟩,hb⟩
 ·obtain rfl:x=⟨g1,0,none⟩:=by simpa using hx.symm
  exact l1
 ·obtain rfl:x=⟨g2,0,none⟩:=by simpa using hx.symm
  exact l2
theorem lbox_nil {w w':World} (h:Below w.heap.size w w'):LBox w [] [] (.agg #[.slice none 0 0,.slice none 0 0]) w':=⟨⟨none,0,0,[]⟩,⟨none,0,0,[]⟩,rfl,rfl,rfl,fr_none _ _,fr_none _ _,h⟩
theorem BH.overB {w:World} {g:Nat} {p q s t:Option Addr} {n c m e k f l h:Nat} {R S T U:List Int} (H:BH w g p q s t n c m e k f l h R S T U) {w0:World} (hg:g=w0.heap.size) (h1:Ints w0 p n c R) (h2:Ints w0 q m e S) (hl:Below w0.heap.size w0 w):
  BH ((w.setCell ⟨g+1,0,none⟩ (.slice p n c)).setCell ⟨g+1,1,none⟩ (.slice q m e)) g p q p q n c m e n c m e R S R S∧Below w0.heap.size w0 ((w.setCell ⟨g+1,0,none⟩ (.slice p n c)).setCell ⟨g+1,1,none⟩ (.slice q m e)):=by
 have hb:Below w0.heap.size w0 ((w.setCell ⟨g+1,0,none⟩ (.slice p n c)).setCell ⟨g+1,1,none⟩ (.slice q m e)):=(hl.setCell (p:=⟨g+1,0,none⟩) (by show w0.heap.size≤g+1;omega) _).setCell (p:=⟨g+1,1,none⟩) (by show w0.heap.size≤g+1;omega) _
 refine ⟨⟨?_,?_,?_,h1.later hb,h2.later hb,h1.later hb,h2.later hb⟩,hb⟩
 ·rw [heap_setCell_other _ _ _ _ (by show g≠g+1;omega),heap_setCell_other _ _ _ _ (by show g≠g+1;omega)];exact H.a
 ·exact heap_setCell_same _ (g+1) 1 _ _ _ (heap_setCell_same w (g+1) 0 _ _ _ H.b)
 ·rw [heap_setCell_other _ _ _ _ (by show g+2≠g+1;omega),heap_setCell_other _ _ _ _ (by show g+2≠g+1;omega)];exact H.r
theorem BH.overA {w:World} {g:Nat} {p q s t:Option Addr} {n c m e k f l h:Nat} {R S T U:List Int} (H:BH w g p q s t n c m e k f l h R S T U) {w0:World} (hg:g=w0.heap.size) (h1:Ints w0 s k f T) (h2:Ints w0 t l h U) (hl:Below w0.heap.size w0 w):
  BH ((w.setCell ⟨g,0,none⟩ (.slice s k f)).setCell ⟨g,1,none⟩ (.slice t l h)) g s t s t k f l h k f l h T U T U∧Below w0.heap.size w0 ((w.setCell ⟨g,0,none⟩ (.slice s k f)).setCell ⟨g,1,none⟩ (.slice t l h)):=by
 have hb:Below w0.heap.size w0 ((w.setCell ⟨g,0,none⟩ (.slice s k f)).setCell ⟨g,1,none⟩ (.slice t l h)):=(hl.setCell (p:=⟨g,0,none⟩) (by show w0.heap.size≤g;omega) _).setCell (p:=⟨g,1,none⟩) (by show w0.heap.size≤g;omega) _
 refine ⟨⟨?_,?_,?_,h1.later hb,h2.later hb,h1.later hb,h2.later hb⟩,hb⟩
 ·exact heap_setCell_same _ g 1 _ _ _ (heap_setCell_same w g 0 _ _ _ H.a)
 ·rw [heap_setCell_other _ _ _ _ (by show g+1≠g;omega),heap_setCell_other _ _ _ _ (by show g+1≠g;omega)];exact H.b
 ·rw [heap_setCell_other _ _ _ _ (by show g+2≠g;omega),heap_setCell_other _ _ _ _ (by show g+2≠g;omega)];exact H.r
theorem BH.ats {w:World} {g:Nat} {p q s t:Option Addr} {n c m e k f l h:Nat} {R S T U:List Int} (H:BH w g p q s t n c m e k f l h R S T U):BoxAt w g p n c q m e∧BoxAt w (g+1) s k f t l h:=
 ⟨⟨H.cells.1,H.cells.2.1⟩,⟨H.cells.2.2.1,H.cells.2.2.2.1⟩⟩
theorem hull_sides {w:World} {g:Nat} {p q s t:Option Addr} {n c e f h:Nat} {R S T U:List Int} (H:BH w g p q s t n c n e n f n h R S T U) (hd1:1≤n) (hd2:n≤8):
  Calls Tryz.prog 273 #[.int .i64 n,.func (.func 274) #[] #[.pointer (some ⟨g,0,none⟩),.pointer (some ⟨g+1,0,none⟩)]] w fun e w'=>∃g1 g2:Nat,e= .returned (.agg #[.slice (some ⟨g1,0,none⟩) n n,.slice (some ⟨g2,0,none⟩) n n])∧RowAt w' g1 (part (fun i=>min (R.getD i 0) (T.getD i 0)) n n)∧RowAt w' g2 (part (fun i=>max (S.getD i 0) (U.getD i 0)) n n)∧w.heap.size<g1∧w.heap.size<g2∧g1≠g2∧Below w.heap.size w w':=
 build_any n hd1 hd2 (fun i=>min (R.getD i 0) (T.getD i 0)) (fun i=>max (S.getD i 0) (U.getD i 0)) 274 #[.pointer (some ⟨g,0,none⟩),.pointer (some ⟨g+1,0,none⟩)] (enter_side Tryz.func274 (by kernel_rfl) rfl) w (fun j w' hj hb=>hullside g (g+1) p q s t n c e f h R S T U j hj w' (H.later hb).ats.1 (H.later hb).ats.2 (H.later hb).i1 (H.later hb).i2 (H.later hb).i3 (H.later hb).i4)
theorem rb_eq {R S:List Int} {n m:Nat} (h1:n=R.length) (h2:m=S.length):rightB R S n m n=rb R S:=by rw [h1,h2];rfl
theorem pair_rb {R S T U:List Int} {n m k l:Nat} (h1:n=R.length) (h2:m=S.length) (h3:k=T.length) (h4:l=U.length) (ha:rb R S=true) (hb:rb T U=true):pairB R S T U n m k l=decide (n=k):=by
 unfold pairB
 rw [rb_eq h1 h2,ha,Bool.true_and]
 by_cases h:n=k
 ·rw [decide_eq_true h,h,rb_eq h3 h4,hb]
 ·rw [decide_eq_false h]
  exact rightB_not (fun hh=>h (by omega))
theorem lhull_any (p q s t:Option Addr) (n c m e k f l h:Nat) (R S T U:List Int) (w:World) (h1:Ints w p n c R) (h2:Ints w q m e S) (h3:Ints w s k f T) (h4:Ints w t l h U):
  Calls Tryz.prog 244 #[.agg #[.slice p n c,.slice q m e],.agg #[.slice s k f,.slice t l h]] w fun e w'=>∃v,e= .returned v∧LBox w (hull (R,S) (T,U)).1 (hull (R,S) (T,U)).2 v w':=by
 obtain ⟨hs0,hb0,hz0⟩:=bh_start h1 h2 h3 h4
 obtain ⟨x1,hx1⟩:∃x,rb R S=x:=⟨_,rfl⟩
 obtain ⟨x2,hx2⟩:∃x,rb T U=x:=⟨_,rfl⟩
 have P1:=yH (show rightB R S n m n=x1 from by rw [rb_eq h1.size h2.size,hx1])
 have P2:=yH (show rightB T U k l k=x2 from by rw [rb_eq h3.size h4.size,hx2])
 have HH:=yH (show hull (R,S) (T,U)=if x1=true∧x2=false then (R,S) else if x2=true∧x1=false then (T,U) else if x1=false∨R.length≠T.length then ([],[]) else (two min R T R.length,two max S U R.length) from by rw [← hx1,← hx2];rfl)
 have HX1:=yH hx1
 have HX2:=yH hx2
 have H1:=yH h1
 have H2:=yH h2
 have H3:=yH h3
 have H4:=yH h4
 have HN1:=yH h1.size
 have HN3:=yH h3.size
 generalize hull (R,S) (T,U)=Z at *
 clear h1 h2 h3 h4 hx1 hx2
 go_enter Tryz.func244,Tryz.ntmps244
 go_upto_region 1 with fail
 generalize ((w.alloc (.cells #[.slice p n c,.slice q m e] 32)).alloc (.cells #[.slice s k f,.slice t l h] 32)).alloc (.cells #[.slice none 0 0,.slice none 0 0] 32)=w2 at *
 have HF:=yH hs0
 have HB:=yH hb0
 obtain ⟨b0,b1,b2,b3,-⟩:=hs0.cells
 clear hs0 hb0 hz0
 go_cut [5,6] (fun s5 s6 wx=>s5= .bool x1∧s6= .bool x2∧Below w2.heap.size w2 wx)
 case first=>
  have HS:=yH (show ∀w',(Below w2.heap.size w2 w')→Calls Tryz.prog 237 #[.agg #[.slice p n c,.slice q m e],.int .i64 n] w' fun e w''=>e= .returned (.bool x1)∧Below w2.heap.size w2 w'' from fun w' hb=>(right_any p q n c m e R S n w' (HF.out.later hb).i1 (HF.out.later hb).i2).mono (by rw [P1.out];rintro e w'' ⟨h,hb2⟩;exact ⟨h,hb.trans (hb2.mono hb.size)⟩))
  have HT:=yH (show ∀w',(Below w2.heap.size w2 w')→Calls Tryz.prog 237 #[.agg #[.slice s k f,.slice t l h],.int .i64 k] w' fun e w''=>e= .returned (.bool x2)∧Below w2.heap.size w2 w'' from fun w' hb=>(right_any s t k f l h T U k w' (HF.out.later hb).i3 (HF.out.later hb).i4).mono (by rw [P2.out];rintro e w'' ⟨h,hb2⟩;exact ⟨h,hb.trans (hb2.mono hb.size)⟩))
  go_region_held3 (fun w'=>Below w2.heap.size w2 w'∧w'.cell? ⟨w.heap.size,0,none⟩=some (.slice p n c)∧w'.cell? ⟨w.heap.size,1,none⟩=some (.slice q m e)∧w'.cell? ⟨w.heap.size+1,0,none⟩=some (.slice s k f)∧w'.cell? ⟨w.heap.size+1,1,none⟩=some (.slice t l h)) (first | assumption | exact ⟨(Below.refl _ _).drew,b0,b1,b2,b3⟩ | exact ⟨Below.refl _ _,b0,b1,b2,b3⟩) ((first
   | (go_at_call_of 237 (Value.agg #[.slice p n c,.slice q m e]);refine (HS.out _ (by first | assumption | exact (Below.refl _ _).drew | exact Below.refl _ _)).mono ?_;rintro _ w5 ⟨rfl,hb5⟩;have k5:Below w2.heap.size w2 w5∧w5.cell? ⟨w.heap.size,0,none⟩=some (.slice p n c)∧w5.cell? ⟨w.heap.size,1,none⟩=some (.slice q m e)∧w5.cell? ⟨w.heap.size+1,0,none⟩=some (.slice s k f)∧w5.cell? ⟨w.heap.size+1,1,none⟩=some (.slice t l h):=⟨hb5,(HF.out.later hb5).cells.1,(HF.out.later hb5).cells.2.1,(HF.out.later hb5).cells.2.2.1,(HF.out.later hb5).cells.2.2.2.1⟩)
   | (go_at_call_of 237 (Value.agg #[.slice s k f,.slice t l h]);refine (HT.out _ (by first | assumption | exact (Below.refl _ _).drew | exact Below.refl _ _)).mono ?_;rintro _ w6 ⟨rfl,hb6⟩;have k6:Below w2.heap.size w2 w6∧w6.cell? ⟨w.heap.size,0,none⟩=some (.slice p n c)∧w6.cell? ⟨w.heap.size,1,none⟩=some (.slice q m e)∧w6.cell? ⟨w.heap.size+1,0,none⟩=some (.slice s k f)∧w6.cell? ⟨w.heap.size+1,1,none⟩=some (.slice t l h):=⟨hb6,(HF.out.later hb6).cells.1,(HF.out.later hb6).cells.2.1,(HF.out.later hb6).cells.2.2.1,(HF.out.later hb6).cells.2.2.2.1⟩)))
  all_goals
   go_wp2_with fail
   go_meet
   exact ⟨rfl,rfl,by assumption⟩
 case rest=>
  obtain ⟨rfl,rfl,hbx⟩:=hcut
  obtain ⟨wx,hwx⟩:∃w3,w3=wc:=⟨_,rfl⟩
  rw [← hwx] at hbx ⊢
  clear hwx
  have HG:=yH (HF.out.later hbx)
  have HL:=yH (HB.out.trans (hbx.mono HB.out.size))
  clear hbx HF HB b0 b1 b2 b3
  clear w2
  obtain ⟨b0,b1,b2,b3,r0,r1,f0,f1⟩:=HG.out.cells
  have fa0:=frozen_of_row wx w.heap.size 0 _ _ HG.out.a
  have fa1:=frozen_of_row wx w.heap.size 1 _ _ HG.out.a
  have fb0:=frozen_of_row wx (w.heap.size+1) 0 _ _ HG.out.b
  have fb1:=frozen_of_row wx (w.heap.size+1) 1 _ _ HG.out.b
  cases x1 with
  | true=>
   have hd:=rb_len HX1.out
   have hm:m=n:=by rw [H2.out.size,H1.out.size];exact hd.2.2
   have hd1:1≤n:=by rw [H1.out.size];exact hd.1
   have hd2:n≤8:=by rw [H1.out.size];exact hd.2.1
   subst hm
   have HD8:=yH hd2
   clear hd
   cases x2 with
   | false=>
    have HZ:=yH (show Z=(R,S) from by rw [HH.out];rfl)
    go_upto_region 8 with fail
    obtain ⟨hbh,hlow⟩:=HG.out.overB rfl H1.out H2.out HL.out
    generalize (wx.setCell ⟨w.heap.size+1,0,none⟩ (.slice p m c)).setCell ⟨w.heap.size+1,1,none⟩ (.slice q m e)=w3 at *
    have HF:=yH hbh
    have HB:=yH hlow
    clear hbh hlow b0 b1 b2 b3 r0 r1 f0 f1 fa0 fa1 fb0 fb1 HG HL
    obtain ⟨b0,b1,-,-,-⟩:=HF.out.cells
    have HE:=yH (hull_sides HF.out hd1 hd2)
    go_wp2_with fail
    refine HE.out.mono ?_
    rintro _ w4 ⟨g1,g2,rfl,h1,h2,l1,l2,ne,hb⟩
    obtain ⟨d0,d1,d2,d3⟩:=(show Bx w4 (w.heap.size+2) (.slice none 0 0) (.slice none 0 0) from (HF.out.later hb).r).facts
    have HLD:=yH (box_laid (w0:=w) (show Bx w3 (w.heap.size+2) (.slice none 0 0) (.slice none 0 0) from HF.out.r) (show w.heap.size≤w.heap.size+2 by omega) HB.out hb h1 h2 l1 l2 (fun _ hk=>min_ok (HF.out.i1.get _ hk) (HF.out.i3.get _ hk)) (fun _ hk=>max_ok (HF.out.i2.get _ hk) (HF.out.i4.get _ hk)))
    have HG1:=yH (show w.heap.size≤g1∧w.heap.size≤g2 from ⟨by have:=HB.out.size;omega,by have:=HB.out.size;omega⟩)
    clear h1 h2 l1 l2 ne hb b0 b1
    go_wp2_with fail
    generalize (w4.setCell ⟨w.heap.size+2,0,none⟩ (.slice (some ⟨g1,0,none⟩) m m)).setCell ⟨w.heap.size+2,1,none⟩ (.slice (some ⟨g2,0,none⟩) m m)=w9 at *
    refine ret_box 4 rfl (w.heap.size+2) _ _ rfl HLD.out.1 ⟨_,rfl,?_⟩
    have hp:=made_post (R:=R) (S:=S) (T:=R) (U:=S) (f:=min) (g:=max) HLD.out.2 HD8.out HG1.out.1 HG1.out.2
    rw [HZ.out]
    rw [show two min R R m=R from by rw [H1.out.size];exact two_same (fun x=>by omega) R,show two max S S m=S from by rw [H2.out.size];exact two_same (fun x=>by omega) S] at hp
    exact hp
   | true=>
    have hpr:=pair_rb H1.out.size H2.out.size H3.out.size H4.out.size HX1.out HX2.out
    have hdT:=rb_len HX2.out
    by_cases hnk:m=k
    ·subst hnk
     rw [decide_eq_true rfl] at hpr
     have hlk:l=m:=by rw [H4.out.size,H3.out.size];exact hdT.2.2
     subst hlk
     have HZ:=yH (show Z=(two min R T l,two max S U l) from by
      rw [HH.out,if_neg (by simp),if_neg (by simp),if_neg (by rw [← H1.out.size,← H3.out.size];simp),← H1.out.size])
     have HPR:=yH hpr
     clear hpr hdT
     go_upto_region 8 with (go_at_call 272;refine (pair_any p q s t l c l e l f l h R S T U wx HG.out.i1 HG.out.i2 HG.out.i3 HG.out.i4).mono ?_;rw [HPR.out];rintro _ w3 ⟨rfl,hb3⟩;have HF:=yH (HG.out.later hb3);have HB:=yH (HL.out.trans (hb3.mono HL.out.size));clear hb3)
     clear b0 b1 b2 b3 r0 r1 f0 f1 fa0 fa1 fb0 fb1 HG HL
     obtain ⟨b0,b1,-,-,-⟩:=HF.out.cells
     have HE:=yH (hull_sides HF.out hd1 hd2)
     go_wp2_with fail
     refine HE.out.mono ?_
     rintro _ w4 ⟨g1,g2,rfl,h1,h2,l1,l2,ne,hb⟩
     obtain ⟨d0,d1,d2,d3⟩:=(show Bx w4 (w.heap.size+2) (.slice none 0 0) (.slice none 0 0) from (HF.out.later hb).r).facts
     have HLD:=yH (box_laid (w0:=w) (show Bx w3 (w.heap.size+2) (.slice none 0 0) (.slice none 0 0) from HF.out.r) (show w.heap.size≤w.heap.size+2 by omega) HB.out hb h1 h2 l1 l2 (fun _ hk=>min_ok (HF.out.i1.get _ hk) (HF.out.i3.get _ hk)) (fun _ hk=>max_ok (HF.out.i2.get _ hk) (HF.out.i4.get _ hk)))
     have HG1:=yH (show w.heap.size≤g1∧w.heap.size≤g2 from ⟨by have:=HB.out.size;omega,by have:=HB.out.size;omega⟩)
     clear h1 h2 l1 l2 ne hb b0 b1
     go_wp2_with fail
     generalize (w4.setCell ⟨w.heap.size+2,0,none⟩ (.slice (some ⟨g1,0,none⟩) l l)).setCell ⟨w.heap.size+2,1,none⟩ (.slice (some ⟨g2,0,none⟩) l l)=w9 at *
     refine ret_box 4 rfl (w.heap.size+2) _ _ rfl HLD.out.1 ⟨_,rfl,?_⟩
     have hp:=made_post (R:=R) (S:=S) (T:=T) (U:=U) (f:=min) (g:=max) HLD.out.2 HD8.out HG1.out.1 HG1.out.2
     rw [HZ.out]
     exact hp
    ·rw [decide_eq_false hnk] at hpr
     have HZ:=yH (show Z=([],[]) from by
      rw [HH.out,if_neg (by simp),if_neg (by simp),if_pos (Or.inr (by rw [← H1.out.size,← H3.out.size];exact hnk))])
     have HPR:=yH hpr
     clear hpr hdT hnk
     go_upto_region 7 with (go_at_call 272;refine (pair_any p q s t m c m e k f l h R S T U wx HG.out.i1 HG.out.i2 HG.out.i3 HG.out.i4).mono ?_;rw [HPR.out];rintro _ w3 ⟨rfl,hb3⟩;have HF:=yH (HG.out.later hb3);have HB:=yH (HL.out.trans (hb3.mono HL.out.size));clear hb3)
     clear b0 b1 b2 b3 r0 r1 f0 f1 fa0 fa1 fb0 fb1 HG HL
     obtain ⟨-,-,-,-,r0,r1,f0,f1⟩:=HF.out.cells
     go_wp2_with fail
     refine ret_box 4 rfl (w.heap.size+2) _ _ rfl ((show Bx w3 (w.heap.size+2) (.slice none 0 0) (.slice none 0 0) from HF.out.r).set _ _) ⟨_,rfl,?_⟩
     rw [HZ.out]
     exact lbox_nil ((HB.out.setCell (p:=⟨w.heap.size+2,0,none⟩) (by show w.heap.size≤w.heap.size+2;omega) _).setCell (p:=⟨w.heap.size+2,1,none⟩) (by show w.heap.size≤w.heap.size+2;omega) _)
  | false=>
   cases x2 with
   | true=>
    have hd:=rb_len HX2.out
    have hm:l=k:=by rw [H4.out.size,H3.out.size];exact hd.2.2
    have hd1:1≤k:=by rw [H3.out.size];exact hd.1
    have hd2:k≤8:=by rw [H3.out.size];exact hd.2.1
    subst hm
    have HD8:=yH hd2
    have HZ:=yH (show Z=(T,U) from by rw [HH.out];rfl)
    clear hd
    go_upto_region 8 with fail
    obtain ⟨hbh,hlow⟩:=HG.out.overA rfl H3.out H4.out HL.out
    generalize (wx.setCell ⟨w.heap.size,0,none⟩ (.slice s l f)).setCell ⟨w.heap.size,1,none⟩ (.slice t l h)=w3 at *
    have HF:=yH hbh
    have HB:=yH hlow
    clear hbh hlow b0 b1 b2 b3 r0 r1 f0 f1 fa0 fa1 fb0 fb1 HG HL
    obtain ⟨b0,b1,-,-,-⟩:=HF.out.cells
    have HE:=yH (hull_sides HF.out hd1 hd2)
    go_wp2_with fail
    refine HE.out.mono ?_
    rintro _ w4 ⟨g1,g2,rfl,h1,h2,l1,l2,ne,hb⟩
    obtain ⟨d0,d1,d2,d3⟩:=(show Bx w4 (w.heap.size+2) (.slice none 0 0) (.slice none 0 0) from (HF.out.later hb).r).facts
    have HLD:=yH (box_laid (w0:=w) (show Bx w3 (w.heap.size+2) (.slice none 0 0) (.slice none 0 0) from HF.out.r) (show w.heap.size≤w.heap.size+2 by omega) HB.out hb h1 h2 l1 l2 (fun _ hk=>min_ok (HF.out.i1.get _ hk) (HF.out.i3.get _ hk)) (fun _ hk=>max_ok (HF.out.i2.get _ hk) (HF.out.i4.get _ hk)))
    have HG1:=yH (show w.heap.size≤g1∧w.heap.size≤g2 from ⟨by have:=HB.out.size;omega,by have:=HB.out.size;omega⟩)
    clear h1 h2 l1 l2 ne hb b0 b1
    go_wp2_with fail
    generalize (w4.setCell ⟨w.heap.size+2,0,none⟩ (.slice (some ⟨g1,0,none⟩) l l)).setCell ⟨w.heap.size+2,1,none⟩ (.slice (some ⟨g2,0,none⟩) l l)=w9 at *
    refine ret_box 4 rfl (w.heap.size+2) _ _ rfl HLD.out.1 ⟨_,rfl,?_⟩
    have hp:=made_post (R:=T) (S:=U) (T:=T) (U:=U) (f:=min) (g:=max) HLD.out.2 HD8.out HG1.out.1 HG1.out.2
    rw [HZ.out]
    rw [show two min T T l=T from by rw [H3.out.size];exact two_same (fun x=>by omega) T,show two max U U l=U from by rw [H4.out.size];exact two_same (fun x=>by omega) U] at hp
    exact hp
   | false=>
    have hpr:pairB R S T U n m k l=false:=by unfold pairB;rw [P1.out];rfl
    have HZ:=yH (show Z=([],[]) from by rw [HH.out];rfl)
    have HPR:=yH hpr
    clear hpr
    go_upto_region 7 with (go_at_call 272;refine (pair_any p q s t n c m e k f l h R S T U wx HG.out.i1 HG.out.i2 HG.out.i3 HG.out.i4).mono ?_;rw [HPR.out];rintro _ w3 ⟨rfl,hb3⟩;have HF:=yH (HG.out.later hb3);have HB:=yH (HL.out.trans (hb3.mono HL.out.size));clear hb3)
    clear b0 b1 b2 b3 r0 r1 f0 f1 fa0 fa1 fb0 fb1 HG HL
    obtain ⟨-,-,-,-,r0,r1,f0,f1⟩:=HF.out.cells
    go_wp2_with fail
    refine ret_box 4 rfl (w.heap.size+2) _ _ rfl ((show Bx w3 (w.heap.size+2) (.slice none 0 0) (.slice none 0 0) from HF.out.r).set _ _) ⟨_,rfl,?_⟩
    rw [HZ.out]
    exact lbox_nil ((HB.out.setCell (p:=⟨w.heap.size+2,0,none⟩) (by show w.heap.size≤w.heap.size+2;omega) _).setCell (p:=⟨w.heap.size+2,1,none⟩) (by show w.heap.size≤w.heap.size+2;omega) _)
end Go.Proofs.YtinihaflmdihaaaGreat.Nd
