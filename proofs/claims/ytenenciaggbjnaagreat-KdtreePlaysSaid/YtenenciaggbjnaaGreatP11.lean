/- NlHull, NlTally, PgKey, PgPe. -/
import Derived.BigRegion
import Derived.Maps.RangeWalk
import Derived.DeepKeys4
import Derived.Test.YtenenciaggbjnaaGreatP10
set_option maxRecDepth 100000
set_option maxHeartbeats 8000000
set_option linter.all false
namespace Go.Proofs.YtenenciaggbjnaaGreat
namespace Nd
open Go.RowKit Zr
theorem y0J (f:Int->Int->Int) (R T:List Int) (n:Nat):part (fun i=>f (R.getD i 0) (T.getD i 0)) n n=two f R T n:=by
 unfold part two;apply List.map_congr_left;intro i hi;rw [if_pos (List.mem_range.1 hi)]
theorem x5I {f:Int->Int->Int} (hf:∀x,f x x=x) (R:List Int):two f R R R.length=R:=by
 apply List.ext_getElem
 ·rw [x4L]
 ·intro i h1 h2;simp [two,hf,jG,h2]
def LBox (w:World) (A B:List Int) (v:Value) (w':World):Prop:=∃r1 r2:Rw,v= .agg #[r1.val,r2.val]/\r1.R=A/\r2.R=B/\FrRw w' w.heap.size r1/\FrRw w' w.heap.size r2/\Below w.heap.size w w'
theorem x5s {w w':World} {f g:Int->Int->Int} {R S T U:List Int} {n g1 g2:Nat} (h:x9J w (fun i=>f (R.getD i 0) (T.getD i 0)) (fun i=>g (S.getD i 0) (U.getD i 0)) n (.agg #[.slice (some ⟨g1,0,none⟩) n n,.slice (some ⟨g2,0,none⟩) n n]) w') (hn:n<=8) (l1:w.heap.size<=g1) (l2:w.heap.size<=g2):LBox w (two f R T n) (two g S U n) (.agg #[.slice (some ⟨g1,0,none⟩) n n,.slice (some ⟨g2,0,none⟩) n n]) w':=by
 obtain ⟨H,G,B,A,C,E⟩:=h;simp only [Value.agg.injEq,Array.mk.injEq,List.cons.injEq,Value.slice.injEq,Option.some.injEq,Addr.mk.injEq,and_true] at B;obtain ⟨rfl,rfl⟩:=B;rw [y0J] at A;rw [y0J] at C;refine ⟨⟨some ⟨g1,0,none⟩,n,n,two f R T n⟩,⟨some ⟨g2,0,none⟩,n,n,two g S U n⟩,rfl,rfl,rfl,⟨⟨A,by show n<=_;omega⟩,fun x hx _=>?_⟩,⟨⟨C,by show n<=_;omega⟩,fun x hx _=>?_⟩,E⟩
 ·obtain rfl:x=⟨g1,0,none⟩:=by simpa using hx.symm
  exact l1
 ·obtain rfl:x=⟨g2,0,none⟩:=by simpa using hx.symm
  exact l2
theorem y0K {w w':World} (h:Below w.heap.size w w'):LBox w [] [] (.agg #[.slice none 0 0,.slice none 0 0]) w':=⟨⟨none,0,0,[]⟩,⟨none,0,0,[]⟩,rfl,rfl,rfl,x2H _ _,x2H _ _,h⟩
theorem BH.overB {w:World} {g:Nat} {p q s t:Option Addr} {n c m e k f l h:Nat} {R S T U:List Int} (H:BH w g p q s t n c m e k f l h R S T U) {w0:World} (hg:g=w0.heap.size) (h1:Ints w0 p n c R) (h2:Ints w0 q m e S) (hl:Below w0.heap.size w0 w):
  BH ((w.setCell ⟨g+1,0,none⟩ (.slice p n c)).setCell ⟨g+1,1,none⟩ (.slice q m e)) g p q p q n c m e n c m e R S R S/\Below w0.heap.size w0 ((w.setCell ⟨g+1,0,none⟩ (.slice p n c)).setCell ⟨g+1,1,none⟩ (.slice q m e)):=by
 have A:Below w0.heap.size w0 ((w.setCell ⟨g+1,0,none⟩ (.slice p n c)).setCell ⟨g+1,1,none⟩ (.slice q m e)):=(hl.setCell (p:=⟨g+1,0,none⟩) (by show w0.heap.size<=g+1;omega) _).setCell (p:=⟨g+1,1,none⟩) (by show w0.heap.size<=g+1;omega) _;refine ⟨⟨?_,?_,?_,h1.later A,h2.later A,h1.later A,h2.later A⟩,A⟩
 ·rw [kG _ _ _ _ (by show g≠g+1;omega),kG _ _ _ _ (by show g≠g+1;omega)];exact H.a
 ·exact jU _ (g+1) 1 _ _ _ (jU w (g+1) 0 _ _ _ H.b)
 ·rw [kG _ _ _ _ (by show g+2≠g+1;omega),kG _ _ _ _ (by show g+2≠g+1;omega)];exact H.r
theorem BH.overA {w:World} {g:Nat} {p q s t:Option Addr} {n c m e k f l h:Nat} {R S T U:List Int} (H:BH w g p q s t n c m e k f l h R S T U) {w0:World} (hg:g=w0.heap.size) (h1:Ints w0 s k f T) (h2:Ints w0 t l h U) (hl:Below w0.heap.size w0 w):
  BH ((w.setCell ⟨g,0,none⟩ (.slice s k f)).setCell ⟨g,1,none⟩ (.slice t l h)) g s t s t k f l h k f l h T U T U/\Below w0.heap.size w0 ((w.setCell ⟨g,0,none⟩ (.slice s k f)).setCell ⟨g,1,none⟩ (.slice t l h)):=by
 have A:Below w0.heap.size w0 ((w.setCell ⟨g,0,none⟩ (.slice s k f)).setCell ⟨g,1,none⟩ (.slice t l h)):=(hl.setCell (p:=⟨g,0,none⟩) (by show w0.heap.size<=g;omega) _).setCell (p:=⟨g,1,none⟩) (by show w0.heap.size<=g;omega) _;refine ⟨⟨?_,?_,?_,h1.later A,h2.later A,h1.later A,h2.later A⟩,A⟩
 ·exact jU _ g 1 _ _ _ (jU w g 0 _ _ _ H.a)
 ·rw [kG _ _ _ _ (by show g+1≠g;omega),kG _ _ _ _ (by show g+1≠g;omega)];exact H.b
 ·rw [kG _ _ _ _ (by show g+2≠g;omega),kG _ _ _ _ (by show g+2≠g;omega)];exact H.r
theorem BH.ats {w:World} {g:Nat} {p q s t:Option Addr} {n c m e k f l h:Nat} {R S T U:List Int} (H:BH w g p q s t n c m e k f l h R S T U):BoxAt w g p n c q m e/\BoxAt w (g+1) s k f t l h:=
 ⟨⟨H.cells.1,H.cells.2.1⟩,⟨H.cells.2.2.1,H.cells.2.2.2.1⟩⟩
theorem x4a {w:World} {g:Nat} {p q s t:Option Addr} {n c e f h:Nat} {R S T U:List Int} (H:BH w g p q s t n c n e n f n h R S T U) (hd1:1<=n) (hd2:n<=8):
  Calls Tryz.prog 323 #[.int .i64 n,.func (.func 324) #[] #[.pointer (some ⟨g,0,none⟩),.pointer (some ⟨g+1,0,none⟩)]] w fun e w'=>∃g1 g2:Nat,e= .returned (.agg #[.slice (some ⟨g1,0,none⟩) n n,.slice (some ⟨g2,0,none⟩) n n])/\RowAt w' g1 (part (fun i=>min (R.getD i 0) (T.getD i 0)) n n)/\RowAt w' g2 (part (fun i=>max (S.getD i 0) (U.getD i 0)) n n)/\w.heap.size<g1/\w.heap.size<g2/\g1≠g2/\Below w.heap.size w w':=
 x8a n hd1 hd2 (fun i=>min (R.getD i 0) (T.getD i 0)) (fun i=>max (S.getD i 0) (U.getD i 0)) 324 #[.pointer (some ⟨g,0,none⟩),.pointer (some ⟨g+1,0,none⟩)] (x4Q Tryz.func324 (by kernel_rfl) rfl) w (fun j w' hj hb=>y4L g (g+1) p q s t n c e f h R S T U j hj w' (H.later hb).ats.1 (H.later hb).ats.2 (H.later hb).i1 (H.later hb).i2 (H.later hb).i3 (H.later hb).i4)
theorem rb_eq {R S:List Int} {n m:Nat} (h1:n=R.length) (h2:m=S.length):x0g R S n m n=rb R S:=by rw [h1,h2];rfl
theorem y6E {R S T U:List Int} {n m k l:Nat} (h1:n=R.length) (h2:m=S.length) (h3:k=T.length) (h4:l=U.length) (ha:rb R S=true) (hb:rb T U=true):pairB R S T U n m k l=decide (n=k):=by
 unfold pairB;rw [rb_eq h1 h2,ha,Bool.true_and];by_cases h:n=k
 ·rw [kF h,h,rb_eq h3 h4,hb]
 ·rw [kE h];exact x1N (fun hh=>h (by omega))
theorem x8b (p q s t:Option Addr) (n c m e k f l h:Nat) (R S T U:List Int) (w:World) (h1:Ints w p n c R) (h2:Ints w q m e S) (h3:Ints w s k f T) (h4:Ints w t l h U):
  Calls Tryz.prog 299 #[.agg #[.slice p n c,.slice q m e],.agg #[.slice s k f,.slice t l h]] w fun e w'=>∃v,e= .returned v/\LBox w (hull (R,S) (T,U)).1 (hull (R,S) (T,U)).2 v w':=by
 obtain ⟨AK,AR,Aa⟩:=x9l h1 h2 h3 h4;obtain ⟨x1,A7⟩:∃x,rb R S=x:=⟨_,rfl⟩
 obtain ⟨x2,A3⟩:∃x,rb T U=x:=⟨_,rfl⟩
 have P1:=yH (show x0g R S n m n=x1 from by rw [rb_eq h1.size h2.size,A7]);have P2:=yH (show x0g T U k l k=x2 from by rw [rb_eq h3.size h4.size,A3]);have HH:=yH (show hull (R,S) (T,U)=if x1=true/\x2=false then (R,S) else if x2=true/\x1=false then (T,U) else if x1=false\/R.length≠T.length then ([],[]) else (two min R T R.length,two max S U R.length) from by rw [<- A7,<- A3];rfl);have AS:=yH A7;have AO:=yH A3;have H1:=yH h1;have H2:=yH h2;have H3:=yH h3;have H4:=yH h4;have Ag:=yH h1.size;have Ai:=yH h3.size;generalize hull (R,S) (T,U)=Z at *;clear h1 h2 h3 h4 A7 A3
 go_enter Tryz.func299,Tryz.ntmps299
 go_upto_region 1 with fail
 generalize ((w.alloc (.cells #[.slice p n c,.slice q m e] 32)).alloc (.cells #[.slice s k f,.slice t l h] 32)).alloc (.cells #[.slice none 0 0,.slice none 0 0] 32)=w2 at *;have A:=yH AK;have G:=yH AR;obtain ⟨b0,b1,b2,b3,-⟩:=AK.cells;clear AK AR Aa;go_cut [5,6] (fun s5 s6 N=>s5= .bool x1/\s6= .bool x2/\Below w2.heap.size w2 N)
 case first=>
  have HS:=yH (show ∀w',(Below w2.heap.size w2 w')->Calls Tryz.prog 123 #[.agg #[.slice p n c,.slice q m e],.int .i64 n] w' fun e Y=>e= .returned (.bool x1)/\Below w2.heap.size w2 Y from fun w' E=>(x2f p q n c m e R S n w' (A.later E).i1 (A.later E).i2).mono (by rw [P1.out];rintro e Y ⟨h,AE⟩;exact ⟨h,E.trans (AE.mono E.size)⟩));have HT:=yH (show ∀w',(Below w2.heap.size w2 w')->Calls Tryz.prog 123 #[.agg #[.slice s k f,.slice t l h],.int .i64 k] w' fun e Y=>e= .returned (.bool x2)/\Below w2.heap.size w2 Y from fun w' E=>(x2f s t k f l h T U k w' (A.later E).i3 (A.later E).i4).mono (by rw [P2.out];rintro e Y ⟨h,AE⟩;exact ⟨h,E.trans (AE.mono E.size)⟩))
  go_region_held3 (fun w'=>Below w2.heap.size w2 w'/\w'.cell? ⟨w.heap.size,0,none⟩=some (.slice p n c)/\w'.cell? ⟨w.heap.size,1,none⟩=some (.slice q m e)/\w'.cell? ⟨w.heap.size+1,0,none⟩=some (.slice s k f)/\w'.cell? ⟨w.heap.size+1,1,none⟩=some (.slice t l h)) (first | assumption | exact ⟨(jC _ _).drew,b0,b1,b2,b3⟩ | exact ⟨jC _ _,b0,b1,b2,b3⟩) ((first
   | (go_at_call_of 123 (Value.agg #[.slice p n c,.slice q m e]);refine (HS.out _ (by first | assumption | exact (jC _ _).drew | exact jC _ _)).mono ?_;rintro _ w5 ⟨rfl,X⟩;have k5:Below w2.heap.size w2 w5/\w5.cell? ⟨w.heap.size,0,none⟩=some (.slice p n c)/\w5.cell? ⟨w.heap.size,1,none⟩=some (.slice q m e)/\w5.cell? ⟨w.heap.size+1,0,none⟩=some (.slice s k f)/\w5.cell? ⟨w.heap.size+1,1,none⟩=some (.slice t l h):=⟨X,(A.later X).cells.1,(A.later X).cells.2.1,(A.later X).cells.2.2.1,(A.later X).cells.2.2.2.1⟩)
   | (go_at_call_of 123 (Value.agg #[.slice s k f,.slice t l h]);refine (HT.out _ (by first | assumption | exact (jC _ _).drew | exact jC _ _)).mono ?_;rintro _ w6 ⟨rfl,d⟩;have k6:Below w2.heap.size w2 w6/\w6.cell? ⟨w.heap.size,0,none⟩=some (.slice p n c)/\w6.cell? ⟨w.heap.size,1,none⟩=some (.slice q m e)/\w6.cell? ⟨w.heap.size+1,0,none⟩=some (.slice s k f)/\w6.cell? ⟨w.heap.size+1,1,none⟩=some (.slice t l h):=⟨d,(A.later d).cells.1,(A.later d).cells.2.1,(A.later d).cells.2.2.1,(A.later d).cells.2.2.2.1⟩)))
  all_goals
   go_wp2_with fail
   go_meet;exact ⟨rfl,rfl,by assumption⟩
 case rest=>
  obtain ⟨rfl,rfl,y⟩:=hcut;obtain ⟨N,AU⟩:∃o,o=wc:=⟨_,rfl⟩
  rw [<- AU] at y ⊢;clear AU;have B:=yH (A.later y);have L:=yH (G.trans (y.mono G.size));clear y A G b0 b1 b2 b3;clear w2;obtain ⟨b0,b1,b2,b3,r0,r1,f0,f1⟩:=B.cells;have O:=jS N w.heap.size 0 _ _ B.a;have i:=jS N w.heap.size 1 _ _ B.a;have W:=jS N (w.heap.size+1) 0 _ _ B.b;have P:=jS N (w.heap.size+1) 1 _ _ B.b;cases x1 with
  | true=>
   have hd:=x89 AS.out;have hm:m=n:=by rw [H2.size,H1.size];exact hd.2.2
   have u:1<=n:=by rw [H1.size];exact hd.1
   have M:n<=8:=by rw [H1.size];exact hd.2.1
   subst hm;have z:=yH M;clear hd;cases x2 with
   | false=>
    have HZ:=yH (show Z=(R,S) from by rw [HH.out];rfl);go_upto_region 8 with fail
    obtain ⟨j,I⟩:=B.overB rfl H1 H2 L;generalize (N.setCell ⟨w.heap.size+1,0,none⟩ (.slice p m c)).setCell ⟨w.heap.size+1,1,none⟩ (.slice q m e)=o at *;have A:=yH j;have G:=yH I;clear j I b0 b1 b2 b3 r0 r1 f0 f1 O i W P B L;obtain ⟨b0,b1,-,-,-⟩:=A.cells;have HE:=yH (x4a A u M);go_wp2_with fail
    refine HE.mono ?_;rintro _ w4 ⟨g1,g2,rfl,h1,h2,l1,l2,ne,E⟩;obtain ⟨d0,d1,d2,d3⟩:=(show Bx w4 (w.heap.size+2) (.slice none 0 0) (.slice none 0 0) from (A.later E).r).facts;have K:=yH (x5H (w0:=w) (show Bx o (w.heap.size+2) (.slice none 0 0) (.slice none 0 0) from A.r) (show w.heap.size<=w.heap.size+2 by omega) G E h1 h2 l1 l2 (fun _ hk=>y2a (A.i1.get _ hk) (A.i3.get _ hk)) (fun _ hk=>y2Z (A.i2.get _ hk) (A.i4.get _ hk)));have J:=yH (show w.heap.size<=g1/\w.heap.size<=g2 from ⟨by have:=G.size;omega,by have:=G.size;omega⟩);clear h1 h2 l1 l2 ne E b0 b1;go_wp2_with fail
    generalize (w4.setCell ⟨w.heap.size+2,0,none⟩ (.slice (some ⟨g1,0,none⟩) m m)).setCell ⟨w.heap.size+2,1,none⟩ (.slice (some ⟨g2,0,none⟩) m m)=w9 at *;refine x3l 4 rfl (w.heap.size+2) _ _ rfl K.1 ⟨_,rfl,?_⟩;have hp:=x5s (R:=R) (S:=S) (T:=R) (U:=S) (f:=min) (g:=max) K.2 z J.1 J.2;rw [HZ.out];rw [show two min R R m=R from by rw [H1.size];exact x5I (fun x=>by omega) R,show two max S S m=S from by rw [H2.size];exact x5I (fun x=>by omega) S] at hp;exact hp
   | true=>
    have H:=y6E H1.size H2.size H3.size H4.size AS AO;have AN:=x89 AO.out;by_cases hnk:m=k
    ·subst hnk;rw [kF rfl] at H;have Ab:l=m:=by rw [H4.size,H3.size];exact AN.2.2
     subst Ab;have HZ:=yH (show Z=(two min R T l,two max S U l) from by
      rw [HH.out,if_neg (by simp),if_neg (by simp),if_neg (by rw [<- H1.size,<- H3.size];simp),<- H1.size])
     have Q:=yH H;clear H AN;go_upto_region 8 with (go_at_call 322;refine (x7f p q s t l c l e l f l h R S T U N B.i1 B.i2 B.i3 B.i4).mono ?_;rw [Q.out];rintro _ o ⟨rfl,C⟩;have A:=yH (B.later C);have G:=yH (L.trans (C.mono L.size));clear C)
     clear b0 b1 b2 b3 r0 r1 f0 f1 O i W P B L;obtain ⟨b0,b1,-,-,-⟩:=A.cells;have HE:=yH (x4a A u M);go_wp2_with fail
     refine HE.mono ?_;rintro _ w4 ⟨g1,g2,rfl,h1,h2,l1,l2,ne,E⟩;obtain ⟨d0,d1,d2,d3⟩:=(show Bx w4 (w.heap.size+2) (.slice none 0 0) (.slice none 0 0) from (A.later E).r).facts;have K:=yH (x5H (w0:=w) (show Bx o (w.heap.size+2) (.slice none 0 0) (.slice none 0 0) from A.r) (show w.heap.size<=w.heap.size+2 by omega) G E h1 h2 l1 l2 (fun _ hk=>y2a (A.i1.get _ hk) (A.i3.get _ hk)) (fun _ hk=>y2Z (A.i2.get _ hk) (A.i4.get _ hk)));have J:=yH (show w.heap.size<=g1/\w.heap.size<=g2 from ⟨by have:=G.size;omega,by have:=G.size;omega⟩);clear h1 h2 l1 l2 ne E b0 b1;go_wp2_with fail
     generalize (w4.setCell ⟨w.heap.size+2,0,none⟩ (.slice (some ⟨g1,0,none⟩) l l)).setCell ⟨w.heap.size+2,1,none⟩ (.slice (some ⟨g2,0,none⟩) l l)=w9 at *;refine x3l 4 rfl (w.heap.size+2) _ _ rfl K.1 ⟨_,rfl,?_⟩;have hp:=x5s (R:=R) (S:=S) (T:=T) (U:=U) (f:=min) (g:=max) K.2 z J.1 J.2;rw [HZ.out];exact hp
    ·rw [kE hnk] at H;have HZ:=yH (show Z=([],[]) from by
      rw [HH.out,if_neg (by simp),if_neg (by simp),if_pos (Or.inr (by rw [<- H1.size,<- H3.size];exact hnk))])
     have Q:=yH H;clear H AN hnk;go_upto_region 7 with (go_at_call 322;refine (x7f p q s t m c m e k f l h R S T U N B.i1 B.i2 B.i3 B.i4).mono ?_;rw [Q.out];rintro _ o ⟨rfl,C⟩;have A:=yH (B.later C);have G:=yH (L.trans (C.mono L.size));clear C)
     clear b0 b1 b2 b3 r0 r1 f0 f1 O i W P B L;obtain ⟨-,-,-,-,r0,r1,f0,f1⟩:=A.cells;go_wp2_with fail
     refine x3l 4 rfl (w.heap.size+2) _ _ rfl ((show Bx o (w.heap.size+2) (.slice none 0 0) (.slice none 0 0) from A.r).set _ _) ⟨_,rfl,?_⟩;rw [HZ.out];exact y0K ((G.setCell (p:=⟨w.heap.size+2,0,none⟩) (by show w.heap.size<=w.heap.size+2;omega) _).setCell (p:=⟨w.heap.size+2,1,none⟩) (by show w.heap.size<=w.heap.size+2;omega) _)
  | false=>
   cases x2 with
   | true=>
    have hd:=x89 AO.out;have hm:l=k:=by rw [H4.size,H3.size];exact hd.2.2
    have u:1<=k:=by rw [H3.size];exact hd.1
    have M:k<=8:=by rw [H3.size];exact hd.2.1
    subst hm;have z:=yH M;have HZ:=yH (show Z=(T,U) from by rw [HH.out];rfl);clear hd;go_upto_region 8 with fail
    obtain ⟨j,I⟩:=B.overA rfl H3 H4 L;generalize (N.setCell ⟨w.heap.size,0,none⟩ (.slice s l f)).setCell ⟨w.heap.size,1,none⟩ (.slice t l h)=o at *;have A:=yH j;have G:=yH I;clear j I b0 b1 b2 b3 r0 r1 f0 f1 O i W P B L;obtain ⟨b0,b1,-,-,-⟩:=A.cells;have HE:=yH (x4a A u M);go_wp2_with fail
    refine HE.mono ?_;rintro _ w4 ⟨g1,g2,rfl,h1,h2,l1,l2,ne,E⟩;obtain ⟨d0,d1,d2,d3⟩:=(show Bx w4 (w.heap.size+2) (.slice none 0 0) (.slice none 0 0) from (A.later E).r).facts;have K:=yH (x5H (w0:=w) (show Bx o (w.heap.size+2) (.slice none 0 0) (.slice none 0 0) from A.r) (show w.heap.size<=w.heap.size+2 by omega) G E h1 h2 l1 l2 (fun _ hk=>y2a (A.i1.get _ hk) (A.i3.get _ hk)) (fun _ hk=>y2Z (A.i2.get _ hk) (A.i4.get _ hk)));have J:=yH (show w.heap.size<=g1/\w.heap.size<=g2 from ⟨by have:=G.size;omega,by have:=G.size;omega⟩);clear h1 h2 l1 l2 ne E b0 b1;go_wp2_with fail
    generalize (w4.setCell ⟨w.heap.size+2,0,none⟩ (.slice (some ⟨g1,0,none⟩) l l)).setCell ⟨w.heap.size+2,1,none⟩ (.slice (some ⟨g2,0,none⟩) l l)=w9 at *;refine x3l 4 rfl (w.heap.size+2) _ _ rfl K.1 ⟨_,rfl,?_⟩;have hp:=x5s (R:=T) (S:=U) (T:=T) (U:=U) (f:=min) (g:=max) K.2 z J.1 J.2;rw [HZ.out];rw [show two min T T l=T from by rw [H3.size];exact x5I (fun x=>by omega) T,show two max U U l=U from by rw [H4.size];exact x5I (fun x=>by omega) U] at hp;exact hp
   | false=>
    have H:pairB R S T U n m k l=false:=by unfold pairB;rw [P1.out];rfl
    have HZ:=yH (show Z=([],[]) from by rw [HH.out];rfl);have Q:=yH H;clear H;go_upto_region 7 with (go_at_call 322;refine (x7f p q s t n c m e k f l h R S T U N B.i1 B.i2 B.i3 B.i4).mono ?_;rw [Q.out];rintro _ o ⟨rfl,C⟩;have A:=yH (B.later C);have G:=yH (L.trans (C.mono L.size));clear C)
    clear b0 b1 b2 b3 r0 r1 f0 f1 O i W P B L;obtain ⟨-,-,-,-,r0,r1,f0,f1⟩:=A.cells;go_wp2_with fail
    refine x3l 4 rfl (w.heap.size+2) _ _ rfl ((show Bx o (w.heap.size+2) (.slice none 0 0) (.slice none 0 0) from A.r).set _ _) ⟨_,rfl,?_⟩;rw [HZ.out];exact y0K ((G.setCell (p:=⟨w.heap.size+2,0,none⟩) (by show w.heap.size<=w.heap.size+2;omega) _).setCell (p:=⟨w.heap.size+2,1,none⟩) (by show w.heap.size<=w.heap.size+2;omega) _)
end Nd
namespace Nd
open Go.RowKit Dk
open List renaming setIfInBounds_toArray -> yA, set_cons_zero -> yB, set_cons_succ -> yC
def Fsh (w:World) (kd:Kd):Prop:=∀r∈kd.rows,∀x,r.p=some x->r.R≠[]->w.heap.size<=x.block
theorem Fsh.start {w:World} {x:Int} {r:Rw} {B:Nat} {w':World} (h:FrRw w' B r) (hB:w.heap.size<=B):Fsh w ⟨zeros 32,⟨none,0,0,[]⟩,⟨none,0,0,[]⟩,0,x,r⟩:=fun r' hr' y hy hR=>by
 simp only [Kd.rows,jW,jV,or_false] at hr'
 rcases hr' with rfl | rfl | rfl
 ·exact absurd rfl hR
 ·exact absurd rfl hR
 ·exact jJ hB (h.lo y hy hR)
theorem Fsh.box {w w':World} {kd:Kd} {l z:Int} {r1 r2:Rw} {B:Nat} (h:Fsh w kd) (h1:FrRw w' B r1) (h2:FrRw w' B r2) (hB:w.heap.size<=B):Fsh w {kd with live:=l,size:=z,lo:=r1,hi:=r2}:=fun r' hr' y hy hR=>by
 simp only [Kd.rows,jW,jV,or_false] at hr'
 rcases hr' with rfl | rfl | rfl
 ·exact jJ hB (h1.lo y hy hR)
 ·exact jJ hB (h2.lo y hy hR)
 ·exact h _ (by simp [Kd.rows]) y hy hR
def Ta1 (w:World) (gn kind:Nat) (p:Option Addr) (n c:Nat) (q:Option Addr) (m f gr gx:Nat) (L:List PE) (KR:List Int) (i:Value) (wr:World):Prop:=
 ∃(k:Nat) (kd:Kd),k<=n/\i= .int .i64 k/\TaSt w wr gn kind p n c q m f gr gx kd/\kd.pk=⟨zeros 32,(boxR (L.take k)).1,(boxR (L.take k)).2,liveR (L.take k),n,KR⟩/\Fsh w kd
def Ta2 (w:World) (gn kind:Nat) (p:Option Addr) (n c:Nat) (q:Option Addr) (m f gr gx:Nat) (b:List Int×List Int) (lv:Int) (L:List PK) (KR:List Int) (i:Value) (wr:World):Prop:=
 ∃(k:Nat) (kd:Kd),k<=m/\i= .int .i64 k/\TaSt w wr gn kind p n c q m f gr gx kd/\kd.pk=⟨zeros 32,((L.take k).foldl boxK b).1,((L.take k).foldl boxK b).2,lv+((L.take k).map PK.live).sum,n+((L.take k).map PK.size).sum,KR⟩/\Fsh w kd
def y2b (w:World) (T:PK) (e:Ending) (w':World):Prop:=∃kd:Kd,e= .returned (.agg kd.cells.toArray)/\kd.pk=T/\kd.Ok w'/\Fsh w kd/\Below w.heap.size w w'
theorem x8c {R:List Int} {n:Nat} (h:n=R.length):part (fun k=>R.getD k 0) n n=R:=by
 subst h;apply List.ext_getElem
 ·simp [part]
 ·intro i h1 h2;simp [part,jG,h2]
theorem In64.nat {x:Nat} (h:x<=9223372036854775807):In64 (x:Int):=⟨by omega,by omega⟩
theorem x8d (kind:Nat) (p:Option Addr) (n c:Nat) (q:Option Addr) (m f:Nat) (E:List En) (K:List Kd) (d:Int) (w:World) (hE:EntsIn w p n c E) (hK:KidsIn w q m f K) (hr:(pnOf kind E K).right d=true):
  Calls Tryz.prog 255 #[.agg #[.int .u8 kind,.slice p n c,.slice q m f]] w (y2b w (pnOf kind E K).tally):=by
 have BA:=jA w (.cells #[.int .u8 kind,.slice p n c,.slice q m f] 97);have B5:=NodeAt.start w kind p n c q m f;have z1:(w.alloc (.cells #[.int .u8 kind,.slice p n c,.slice q m f] 97)).heap.size=w.heap.size+1:=by simp
 have As:=PN.fit hr;obtain ⟨hd,AY,Aa,-⟩:=PN.kinds hr;have AP:n<=4:=by have:=As.rows;simp only [pnOf,kH] at this;rw [hE.size];exact this
 have Ah:m<=4:=by have:=As.kids;simp only [pnOf,kH] at this;rw [hK.size];exact this
 have BG:=yH (show ∀e∈E,(e.row.R.length:Int)=d from fun e he=>AY _ (kJ.2 ⟨e,he,rfl⟩));have AZ:=yH (show ∀k∈K,(0<=k.live/\k.live<=1048576)/\(0<=k.size/\k.size<=1048576) from fun k hk=>by
  have h:=x5i (Aa _ (kJ.2 ⟨k,hk,rfl⟩));exact ⟨h.1,h.2.1⟩)
 have AS:=yH (fun w1 (h:Below w.heap.size w w1)=>y62 kind p n c q m f E K d w1 (hE.later h) (hK.later h) hr);have Am:(pnOf kind E K).tally=⟨zeros 32,((K.map Kd.pk).foldl boxK (boxR (E.map En.pe))).1,((K.map Kd.pk).foldl boxK (boxR (E.map En.pe))).2,liveR (E.map En.pe)+((K.map Kd.pk).map PK.live).sum,n+((K.map Kd.pk).map PK.size).sum,(pnOf kind E K).keyOf⟩:=by
  unfold PN.tally PN.box PN.live PN.size pnOf;simp only [kH];rw [<- hE.size]
 obtain ⟨T,hT⟩:∃T,(pnOf kind E K).tally=T:=⟨_,rfl⟩
 rw [hT] at Am ⊢;generalize (pnOf kind E K).keyOf=KR at *;have BY:=yH Am;have HD:=yH hd;have AN:=yH AP;have Bu:=yH Ah;have HE:=yH hE;have HK:=yH hK;have Aq:=yH hE.size;have BQ:=yH hK.size;obtain ⟨du,BO,B2⟩:=UKd;have Ab:=yH BO;have Af:=yH B2;have HZ:=yH (zero_of_info kz);clear hE hK hr As AY Aa Am hT hd AP Ah BO B2;have B4:=HZ.1
 go_enter Tryz.func255,Tryz.ntmps255
 go_upto_region 1 with fail
 have Ao:Below (w.heap.size+1) (w.alloc (.cells #[.int .u8 kind,.slice p n c,.slice q m f] 97)) ((w.alloc (.cells #[.int .u8 kind,.slice p n c,.slice q m f] 97)).alloc (.cells kd0.cells.toArray 34)):=(jC _ _).alloc (by omega) _;have r2:=jE (w.alloc (.cells #[.int .u8 kind,.slice p n c,.slice q m f] 97)) (.cells kd0.cells.toArray 34);rw [z1] at r2;have z2:((w.alloc (.cells #[.int .u8 kind,.slice p n c,.slice q m f] 97)).alloc (.cells kd0.cells.toArray 34)).heap.size=w.heap.size+2:=by simp
 have A3:=yH (B5.later (by rw [z1];exact Ao));have J:=yH (BA.trans (Ao.mono (by omega)));have Ap:=yH r2;have u:=yH z2;clear BA B5 z1 Ao r2 z2;generalize (w.alloc (.cells #[.int .u8 kind,.slice p n c,.slice q m f] 97)).alloc (.cells kd0.cells.toArray 34)=w2 at *;go_cut [3] (fun v3 wx=>∃(I:Nat) (O:Rw),v3= .pointer (some ⟨I,0,none⟩)/\O.R=KR/\TaSt w wx w.heap.size kind p n c q m f (w.heap.size+1) I ⟨zeros 32,⟨none,0,0,[]⟩,⟨none,0,0,[]⟩,0,n,O⟩/\Fsh w ⟨zeros 32,⟨none,0,0,[]⟩,⟨none,0,0,[]⟩,0,n,O⟩)
 case first=>
  refine kD (S:=fun w'=>NodeAt w' w.heap.size kind p n c q m f) (by kernel_rfl) (A3.later (jC _ _).drew) (fun hH=>?_);refine tK 0 ?_;refine tQ 1 ?_ ?_ ?_;rotate_left
  ·intro w' hSw;obtain ⟨t0,t1,t2⟩:=hSw.cells;go_simp;try with_reducible rfl
  refine tK 2 ?_;refine tQ 3 ?_ ?_ ?_;rotate_left
  ·intro w' hSw;obtain ⟨t0,t1,t2⟩:=hSw.cells;go_simp;try with_reducible rfl
  refine rY [4,6] ?_;refine rC (fun K hK=>?_) (rC (fun K hK=>?_) AllReadyH.nil)
  ·
   go_simp;have U:Below w2.heap.size w2 w2.drew:=(jC _ _).drew;refine (AS.out w2.drew (J.trans (U.mono J.size))).mono ?_;rintro _ w5 ⟨O,rfl,Y,A6,b5⟩;have At:=yH Y;have Z:=yH A6;have G:Below w2.heap.size w2 w5:=U.trans (b5.mono U.size);have L:=yH G;have AH:=yH (A3.later G);have AE:=yH (yK G Ap);clear Y A6 b5 G U;unfold Rw.val;try go_wp2_with fail
   refine hK.out _ _ AH (fun hH=>?_);clear hK K;try simp only [Act.put,yA,yB,yC]
   refine tQ 5 ?_ ?_ ?_;rotate_left
   ·intro w' hSw;refine Eq.trans (b:=Result.ok (Next.value (.agg (⟨zeros 32,⟨none,0,0,[]⟩,⟨none,0,0,[]⟩,0,n,O⟩:Kd).cells.toArray)) w') ?_ ?_
    ·apply x1A (t:=34) (parts:= #[(3,.tmp 10),(4,.tmp 12)])
     ·rfl
     ·simp only [kA,kB,kC];exact y04 n O.p O.n O.c O.R
    ·with_reducible rfl
   refine rO 6 fun K hK=>?_;go_simp;have M:=jA w5 (.cells kd0.cells.toArray 34);have AR:=yH (AH.later M);have Bh:=yH (yK M AE);have AL:=yH (jE w5 (.cells kd0.cells.toArray 34));have AJ:=yH (L.trans (M.mono L.size));have BE:=yH (Z.later M);clear M;try go_wp2_with fail
   refine hK.out _ _ AR (fun hH=>?_);clear hK K;try simp only [Act.put,yA,yB,yC]
   refine rO 7 fun K hK=>?_;refine wp_store_row 34 (.tmp 3) (.tmp 13) (by rfl) w5.heap.size (⟨zeros 32,⟨none,0,0,[]⟩,⟨none,0,0,[]⟩,0,n,O⟩:Kd).cells.toArray (by rfl) (by rfl) _ _ AL (by rw [jF,x7Y];exact SKd) (by rw [jF,jF,x02,x7Y]) (jN Kd.one) ?_;have W:=yH (y03 (w0:=w) (gr:=w.heap.size+1) (x:=n) AR Bh AL ⟨BE.ok,(fun x hx hR=>by have:=Z.lt x hx hR;omega),BE.away (by have:=u.out;have:=L.size;simp;omega)⟩ (J.trans (AJ.mono J.size)) ⟨jB _,by omega,by have:=J.size;have:=L.size;omega⟩ ⟨by have:=u.out;have:=L.size;omega,by have:=u.out;have:=L.size;omega,by omega⟩ (In64.nat (by have:=AN.out;omega)));refine hK.out _ _ W.node (fun hH=>?_);clear hK K;try simp only [Act.put]
   refine jD ?_;go_wp2_with fail
   go_meet;exact ⟨w5.heap.size,O,rfl,At.out,W.out,Fsh.start Z (by have:=J.size;simp;omega)⟩
  ·
   go_simp;have M:Below w2.drew.heap.size w2.drew (w2.drew.alloc (.cells kd0.cells.toArray 34)):=jA _ _;have AJ:=yH (show Below w2.heap.size w2 (w2.drew.alloc (.cells kd0.cells.toArray 34)) from (jC w2.heap.size w2).drew.trans M);have AR:=yH (A3.later AJ);have AL:=yH (show (w2.drew.alloc (.cells kd0.cells.toArray 34)).heap[w2.heap.size]? =some (.cells kd0.cells.toArray 34 (0,0)) from jE w2.drew (.cells kd0.cells.toArray 34));clear M;try go_wp2_with fail
   refine hK.out _ _ AR (fun hH=>?_);clear hK K;try simp only [Act.put,yA,yB,yC]
   refine rO 4 fun K hK=>?_;go_simp;have U:Below w2.heap.size w2 (w2.drew.alloc (.cells kd0.cells.toArray 34)):=AJ.out;refine (AS.out (w2.drew.alloc (.cells kd0.cells.toArray 34)) (J.trans (U.mono J.size))).mono ?_;rintro _ w5 ⟨O,rfl,Y,A6,b5⟩;have At:=yH Y;have Z:=yH A6;have G:Below w2.heap.size w2 w5:=U.trans (b5.mono U.size);have L:=yH G;have AH:=yH (A3.later G);have AE:=yH (yK G Ap);have BK:=yH ((b5.block _ (by simp)).trans AL.out);clear Y A6 b5 G U;unfold Rw.val;try go_wp2_with fail
   refine hK.out _ _ AH (fun hH=>?_);clear hK K;try simp only [Act.put,yA,yB,yC]
   refine tQ 5 ?_ ?_ ?_;rotate_left
   ·intro w' hSw;refine Eq.trans (b:=Result.ok (Next.value (.agg (⟨zeros 32,⟨none,0,0,[]⟩,⟨none,0,0,[]⟩,0,n,O⟩:Kd).cells.toArray)) w') ?_ ?_
    ·apply x1A (t:=34) (parts:= #[(3,.tmp 10),(4,.tmp 12)])
     ·rfl
     ·simp only [kA,kB,kC];exact y04 n O.p O.n O.c O.R
    ·with_reducible rfl
   refine rO 7 fun K hK=>?_;refine wp_store_row 34 (.tmp 3) (.tmp 13) (by rfl) w2.heap.size (⟨zeros 32,⟨none,0,0,[]⟩,⟨none,0,0,[]⟩,0,n,O⟩:Kd).cells.toArray (by rfl) (by rfl) _ _ BK (by rw [jF,x7Y];exact SKd) (by rw [jF,jF,x02,x7Y]) (jN Kd.one) ?_;have W:=yH (y03 (w0:=w) (gr:=w.heap.size+1) (x:=n) AH AE BK ⟨Z.ok,(Z.away (by simp)),Z.away (by have:=u.out;have:=L.size;simp;omega)⟩ (J.trans (L.mono J.size)) ⟨jB _,by omega,by have:=J.size;have:=L.size;omega⟩ ⟨by have:=u.out;have:=L.size;omega,by have:=u.out;have:=L.size;omega,by omega⟩ (In64.nat (by have:=AN.out;omega)));refine hK.out _ _ W.node (fun hH=>?_);clear hK K;try simp only [Act.put]
   refine jD ?_;go_wp2_with fail
   go_meet;exact ⟨w2.heap.size,O,rfl,At.out,W.out,Fsh.start Z (by have:=J.size;simp;omega)⟩
 case rest=>
  obtain ⟨I,O,rfl,Y,N,j⟩:=hcut;have HFS:=yH j;obtain ⟨wx,B9⟩:∃w3,w3=wc:=⟨_,rfl⟩
  rw [<- B9] at N ⊢;clear B9 Ap J A3 u;clear w2;obtain ⟨t0,t1,t2⟩:=N.node.cells;have HST:=yH N;have HPK0:=yH (show (⟨zeros 32,⟨none,0,0,[]⟩,⟨none,0,0,[]⟩,0,n,O⟩:Kd).pk=⟨zeros 32,(boxR ((E.map En.pe).take 0)).1,(boxR ((E.map En.pe).take 0)).2,liveR ((E.map En.pe).take 0),n,KR⟩ from by rw [<- Y];rfl);clear N Y j;go_wp2_with fail
  go_loopw [17] (fun i wr=>Ta1 w w.heap.size kind p n c q m f (w.heap.size+1) I (E.map En.pe) KR i wr) (fun i _=>n - (intOf i).toNat)
  case atStart=>exact ⟨0,_,by omega,rfl,HST.out,HPK0.out,HFS.out⟩
  case round=>
   obtain ⟨k,kd,hk,rfl,N,AB,j⟩:=hrel;have FS:=yH j;have ST:=yH N;have B:=yH AB;have AP:=AN.out;clear N AB j HFS HST HPK0 t0 t1 t2;by_cases hlt:k<n
   ·obtain ⟨g,o,rfl,c1,c2,l⟩:=HE.get k hlt;have c1:=(ST.low.cell (jI c1)).trans c1;have c2:=(ST.low.cell (jI c2)).trans c2;have i1:(0:Int)<=k/\(k:Int)<n:=by omega
    have C:k<E.length:=by rw [<- Aq.out];exact hlt
    have H:k<(E.map En.pe).length:=by rw [kH];exact C
    have AI:=yH (show boxR ((E.map En.pe).take (k+1))=boxE (boxR ((E.map En.pe).take k)) (E.getD k default).pe from by
     unfold boxR;rw [x3x boxE _ _ _ H,x1i En.pe E k C])
    have W:=yH (show liveR ((E.map En.pe).take (k+1))=liveR ((E.map En.pe).take k)+(if (E.getD k default).pe.live then (1:Int) else 0) from by
     unfold liveR;rw [x3E _ _ _ H,x1i En.pe E k C])
    have BS:=BG.out _ (getD_mem E k C);have Bc:=x4X ((E.map En.pe).take k);have Av:((E.map En.pe).take k).length<=4:=by rw [kX];omega
    generalize E.getD k default=e at *;have P:=yH l;have C9:=yH BS;have BI:e.row.n<=8/\1<=e.row.n:=by have:=l.ints.size;have:=HD.out;omega
    have AM:=yH BI;unfold Rw.val at c1;clear l BS BI;go_upto_region 5 with fail
    obtain ⟨z0,z1⟩:=x0a wr (.slice e.row.p e.row.n e.row.c) (.bool e.live) 101;have M:=jA wr (.cells #[.slice e.row.p e.row.n e.row.c,.bool e.live] 101);have SA:=yH (ST.later M);have B6:=yH (show wr.heap.size≠I from fun e=>by have:=(yL ST.row);omega);generalize wr.alloc (.cells #[.slice e.row.p e.row.n e.row.c,.bool e.live] 101)=wa at *;generalize wr.heap.size=ge at *;clear M c1 c2 ST;cases hlv:e.live with
    | false=>
     rw [hlv] at z1;have HP1:=yH (show kd.pk=⟨zeros 32,(boxR ((E.map En.pe).take (k+1))).1,(boxR ((E.map En.pe).take (k+1))).2,liveR ((E.map En.pe).take (k+1)),n,KR⟩ from by
      rw [AI.out,W.out,B.out];simp [boxE,En.pe,hlv])
     clear hlv;go_wp2_with fail
     go_roundw
     case rel=>exact ⟨k+1,kd,by omega,by go_num,SA.out,HP1.out,FS.out⟩
     case measure=>simp [intOf];omega
    | true=>
     rw [hlv] at z1;have B1:kd.live=liveR ((E.map En.pe).take k):=congrArg PK.live B;obtain ⟨lv,AA⟩:∃lv:Nat,kd.live=lv:=⟨kd.live.toNat,by omega⟩
     have C2:lv<=4:=by omega
     have AG:kd.lo.R=(boxR ((E.map En.pe).take k)).1:=congrArg PK.lo B;have AC:kd.hi.R=(boxR ((E.map En.pe).take k)).2:=congrArg PK.hi B;have HP1:=yH (show ∀r1 r2:Rw,r1.R=(hull (kd.lo.R,kd.hi.R) (e.row.R,e.row.R)).1->r2.R=(hull (kd.lo.R,kd.hi.R) (e.row.R,e.row.R)).2->({kd with live:=(lv:Int)+1,lo:=r1,hi:=r2}:Kd).pk=⟨zeros 32,(boxR ((E.map En.pe).take (k+1))).1,(boxR ((E.map En.pe).take (k+1))).2,liveR ((E.map En.pe).take (k+1)),n,KR⟩ from fun r1 r2 e1 e2=>by
      rw [AI.out,W.out,<- B1,AA];have e3:boxE (boxR ((E.map En.pe).take k)) e.pe=hull (kd.lo.R,kd.hi.R) (e.row.R,e.row.R):=by
       unfold boxE;rw [show e.pe.live=true from hlv,if_pos rfl,AG,AC];rfl
      rw [e3,<- e1,<- e2];have e4:=B.out;simp only [Kd.pk,PK.mk.injEq] at e4 ⊢;simp only [show e.pe.live=true from hlv,if_true,true_and];exact ⟨e4.1,e4.2.2.2.2⟩)
     have B3:=SA.cell.live;rw [Nat.zero_add,AA] at B3;have Ax:=jS wa I 34 _ _ SA.row;clear hlv B1 AA AG AC Bc Av;go_upto_region 7 with fail
     have SB:=yH (SA.setLive ((lv:Int)+1) ⟨by omega,by omega⟩);have z0:=(jX (w:=wa) (w':=wa.setCell ⟨I,34,none⟩ (.int .i64 ((lv:Int)+1))) (a:=⟨ge,0,none⟩) (kG _ _ _ _ B6)).trans z0;generalize wa.setCell ⟨I,34,none⟩ (.int .i64 ((lv:Int)+1))=wb at *;clear z1 B3 Ax SA;have Z0:=yH z0;clear z0;refine kD (S:=fun w'=>w'.cell? ⟨ge,0,none⟩=some (.slice e.row.p e.row.n e.row.c)) (by kernel_rfl) (show wb.drew.cell? ⟨ge,0,none⟩=_ from Z0.out) (fun hH=>?_);refine tK 0 ?_;refine tK 2 ?_;refine tQ 3 ?_ ?_ ?_;rotate_left
     ·intro w' hSw;have z0:=hSw;go_simp;try with_reducible rfl
     refine rY [1,4] ?_;refine rC (fun K hK=>?_) (rC (fun K hK=>?_) AllReadyH.nil)
     focus
      have b0:wb.drew.cell? ⟨I,32,none⟩=some (.slice kd.lo.p kd.lo.n kd.lo.c):=by have h9:=(SB.later (jC _ _).drew).cell.lo;rw [Nat.zero_add] at h9;exact h9
      have b1:wb.drew.cell? ⟨I,33,none⟩=some (.slice kd.hi.p kd.hi.n kd.hi.c):=by have h9:=(SB.later (jC _ _).drew).cell.hi;rw [Nat.zero_add] at h9;exact h9
      go_simp;refine hK.out _ _ hH (fun hH=>?_);clear hK K;try simp only [Act.put,yA,yB,yC]
      refine rO 4 fun K hK=>?_;go_simp;refine (y5X e.row.p e.row.n e.row.c e.row.R ⟨AM.2,AM.1⟩ wb.drew ((P.later (SB.low.trans ((jC _ _).drew.mono SB.low.size))).ints)).mono ?_;rintro _ w7 ⟨v7,rfl,g1,g2,rfl,z,v,b7⟩;have A7:=P.ints.size;rw [x8c A7] at z v;have I1:=yH z;have I2:=yH v;have s:Below wb.heap.size wb w7:=(jC wb.heap.size wb).drew.trans b7;have S7:=yH (SB.later s);have A5:=yH ((s.cell (jI Z0)).trans Z0.out);clear z v b7 A7 s;try go_wp2_with fail
     rotate_left
     focus
      go_simp;refine (y5X e.row.p e.row.n e.row.c e.row.R ⟨AM.2,AM.1⟩ wb.drew ((P.later (SB.low.trans ((jC _ _).drew.mono SB.low.size))).ints)).mono ?_;rintro _ w7 ⟨v7,rfl,g1,g2,rfl,z,v,b7⟩;have A7:=P.ints.size;rw [x8c A7] at z v;have I1:=yH z;have I2:=yH v;have s:Below wb.heap.size wb w7:=(jC wb.heap.size wb).drew.trans b7;have S7:=yH (SB.later s);have A5:=yH ((s.cell (jI Z0)).trans Z0.out);clear z v b7 A7 s;try go_wp2_with fail
      refine hK.out _ _ A5 (fun hH=>?_);clear hK K;try simp only [Act.put,yA,yB,yC]
      refine rO 1 fun K hK=>?_;have b0:w7.cell? ⟨I,32,none⟩=some (.slice kd.lo.p kd.lo.n kd.lo.c):=by have h9:=S7.cell.lo;rw [Nat.zero_add] at h9;exact h9
      have b1:w7.cell? ⟨I,33,none⟩=some (.slice kd.hi.p kd.hi.n kd.hi.c):=by have h9:=S7.cell.hi;rw [Nat.zero_add] at h9;exact h9
      go_simp
     rotate_left;all_goals
      refine hK.out _ _ A5 (fun hH=>?_);clear hK K;try simp only [Act.put,yA,yB,yC]
      refine rO 5 fun K hK=>?_;go_simp;refine (x8b kd.lo.p kd.hi.p (some ⟨g1,0,none⟩) (some ⟨g2,0,none⟩) kd.lo.n kd.lo.c kd.hi.n kd.hi.c e.row.n e.row.n e.row.n e.row.n kd.lo.R kd.hi.R e.row.R e.row.R w7 S7.ok.lo.ints S7.ok.hi.ints I1 I2).mono ?_;rintro _ w8 ⟨v8,rfl,r1,r2,rfl,e1,e2,AD,A2,b8⟩;have Bj:=yH e1;have Ba:=yH e2;have F1:=yH AD;have F2:=yH A2;have S8:=yH (S7.later b8);have BR:=yH ((b8.cell (jI A5)).trans A5.out);have Q:=yH (show I<w7.heap.size/\w.heap.size+1<w7.heap.size from ⟨(yL S7.row),(yL S7.res)⟩);clear e1 e2 AD A2 b8;try go_wp2_with fail
      refine hK.out _ _ BR (fun hH=>?_);clear hK K;try simp only [Act.put,yA,yB,yC]
      refine tK 6 ?_;refine rO 7 fun K hK=>?_;refine wp_store_mid 32 (.tmp 33) (.tmp 32) (by rfl) I 32 #[r1.val,r2.val] (by rfl) (by rfl) (x3y S8.row S8.ok.len r1 r2) IBx (x7Z r1 r2) ?_;have S9:=yH (S8.setBox (r1:=r1) (r2:=r2) ⟨F1.ok,F1.away Q.1,F1.away Q.2⟩ ⟨F2.ok,F2.away Q.1,F2.away Q.2⟩);have B8:=yH ((jX (w:=w8) (a:=⟨ge,0,none⟩) (x0X I [r1.val,r2.val] 32 w8 ge B6)).trans BR.out);refine hK.out _ _ B8 (fun hH=>?_);clear hK K;try simp only [Act.put]
      refine jD ?_;have HP2:=yH (HP1.out r1 r2 Bj Ba);have BP:=S9.out;clear S9 B8 hH;have S9:=yH BP;clear BP;generalize w8.setCells I 32 [r1.val,r2.val]=w9 at *;go_wp2_with fail
      go_roundw
      case rel=>exact ⟨k+1,_,by omega,by go_num,S9.out,HP2.out,FS.box F1 F2 (by have:=S7.low.size;omega)⟩
      case measure=>simp [intOf];omega
   ·obtain rfl:n=k:=by omega
    have e0:(E.map En.pe).take n=E.map En.pe:=kQ (by rw [kH,Aq.out];exact jB _);rw [e0] at B;have A4:=x4X (E.map En.pe);rw [kH,<- Aq.out] at A4;generalize boxR (E.map En.pe)=b0 at *;generalize liveR (E.map En.pe)=lv0 at *;have Be:=yH A4;obtain ⟨t0,t1,t2⟩:=ST.node.cells;have HPK0:=yH (show kd.pk=⟨zeros 32,(((K.map Kd.pk).take 0).foldl boxK b0).1,(((K.map Kd.pk).take 0).foldl boxK b0).2,lv0+(((K.map Kd.pk).take 0).map PK.live).sum,n+(((K.map Kd.pk).take 0).map PK.size).sum,KR⟩ from by
     rw [B.out];simp)
    clear e0 hlt hk A4 B;go_wp2_with fail
    go_loopw [38] (fun i wr=>Ta2 w w.heap.size kind p n c q m f (w.heap.size+1) I b0 lv0 (K.map Kd.pk) KR i wr) (fun i _=>m - (intOf i).toNat)
    case atStart=>exact ⟨0,kd,by omega,rfl,ST.out,HPK0.out,FS.out⟩
    case round=>
     obtain ⟨k,A,hk,rfl,N,AB,j⟩:=hrel;have FS2:=yH j;have S2:=yH N;have B:=yH AB;have Ah:=Bu.out;clear N AB j FS ST HPK0 t0 t1 t2;by_cases hlt:k<m
     ·obtain ⟨g,o,rfl,BL,l⟩:=HK.get k hlt;have i1:(0:Int)<=k/\(k:Int)<m:=by omega
      have C:k<K.length:=by rw [<- BQ.out];exact hlt
      have H:k<(K.map Kd.pk).length:=by rw [kH];exact C
      have AI:=yH (show ((K.map Kd.pk).take (k+1)).foldl boxK b0=boxK (((K.map Kd.pk).take k).foldl boxK b0) (K.getD k default).pk from by
       rw [x3x boxK _ _ _ H,x1i Kd.pk K k C])
      have Bg:=yH (show (((K.map Kd.pk).take (k+1)).map PK.live).sum=(((K.map Kd.pk).take k).map PK.live).sum+(K.getD k default).live from by
       rw [x3E PK.live _ _ H,x1i Kd.pk K k C];rfl)
      have Bm:=yH (show (((K.map Kd.pk).take (k+1)).map PK.size).sum=(((K.map Kd.pk).take k).map PK.size).sum+(K.getD k default).size from by
       rw [x3E PK.size _ _ H,x1i Kd.pk K k C];rfl)
      have Br:=AZ.out _ (getD_mem K k C);have A8:∀x∈(K.map Kd.pk).take k,(0<=x.live/\x.live<=1048576)/\(0<=x.size/\x.size<=1048576):=fun x hx=>by
       obtain ⟨y,hy,rfl⟩:=kJ.1 (List.mem_of_mem_take hx);exact AZ.out y hy
      have Bl:=x6l PK.live 1048576 _ (fun x hx=>(A8 x hx).1);have Bd:=x6l PK.size 1048576 _ (fun x hx=>(A8 x hx).2);have Av:((K.map Kd.pk).take k).length<=4:=by rw [kX];omega
      have BB:=Be.out;have AP:=AN.out;have Bt:A.live=lv0+(((K.map Kd.pk).take k).map PK.live).sum:=congrArg PK.live B;have BZ:A.size=n+(((K.map Kd.pk).take k).map PK.size).sum:=congrArg PK.size B;have AG:A.lo.R=(((K.map Kd.pk).take k).foldl boxK b0).1:=congrArg PK.lo B;have AC:A.hi.R=(((K.map Kd.pk).take k).foldl boxK b0).2:=congrArg PK.hi B;generalize K.getD k default=e at *;obtain ⟨a1,Ae⟩:∃a1:Nat,A.live=a1:=⟨A.live.toNat,by omega⟩
      obtain ⟨a2,Ac⟩:∃a2:Nat,e.live=a2:=⟨e.live.toNat,by omega⟩
      obtain ⟨a3,Ag⟩:∃a3:Nat,A.size=a3:=⟨A.size.toNat,by omega⟩
      obtain ⟨a4,Au⟩:∃a4:Nat,e.size=a4:=⟨e.size.toNat,by omega⟩
      have CE:a1+a2<=100000000:=by omega
      have CL:a3+a4<=100000000:=by omega
      have HP1:=yH (show ∀r1 r2:Rw,r1.R=(hull (A.lo.R,A.hi.R) (e.lo.R,e.hi.R)).1->r2.R=(hull (A.lo.R,A.hi.R) (e.lo.R,e.hi.R)).2->({A with live:=(a1:Int)+a2,size:=(a3:Int)+a4,lo:=r1,hi:=r2}:Kd).pk=⟨zeros 32,(((K.map Kd.pk).take (k+1)).foldl boxK b0).1,(((K.map Kd.pk).take (k+1)).foldl boxK b0).2,lv0+(((K.map Kd.pk).take (k+1)).map PK.live).sum,n+(((K.map Kd.pk).take (k+1)).map PK.size).sum,KR⟩ from fun r1 r2 e1 e2=>by
       rw [AI.out,Bg.out,Bm.out];have e3:boxK (((K.map Kd.pk).take k).foldl boxK b0) e.pk=hull (A.lo.R,A.hi.R) (e.lo.R,e.hi.R):=by
        unfold boxK;rw [AG,AC];rfl
       rw [e3,<- e1,<- e2];have e4:=B.out;simp only [Kd.pk,PK.mk.injEq] at e4 ⊢;refine ⟨e4.1,trivial,trivial,?_,?_,e4.2.2.2.2.2⟩
       ·rw [<- Ae,<- Ac];omega
       ·rw [<- Ag,<- Au];omega)
      have HR:=yH (x01 BL S2.low);have P:=yH l;have X:=yH (Kd.cells_length l.len);have Bk:=yH Ae;have Bp:=yH Ac;have Bs:=yH Ag;have Bq:=yH Au;have B4:=HZ.1;clear BL l Ae Ac Ag Au Bt BZ AG AC Bl Bd Av BB Br A8;go_upto_region 12 with (first
       | (refine jK (by rfl) 34 _ (by rfl) g (o+k*37) (by rfl) e.cells du HR Ab Af (by rw [X.out];exact SKd) ?_)
       | (refine jL (by rfl) 34 (.tmp 7) (.tmp 41) (by rfl) wr.heap.size e.cells.toArray (by rfl) (by rfl) _ _ (jE wr _) (by rw [jF,X.out];exact SKd) (by simp only [jF,X.out,x02]) (jN Kd.one) ?_;rw [x03]))
      have BC:=jE wr (.cells e.cells.toArray 34);have SA:=yH (S2.later (show Below wr.heap.size wr (wr.alloc (.cells e.cells.toArray 34)) from jA _ _));have B0:=yH (show wr.heap.size≠I from fun e=>by have:=(yL S2.row);omega);generalize wr.alloc (.cells e.cells.toArray 34)=wa at *;generalize wr.heap.size=gb at *;have RX:=yH BC;clear BC B4 S2;have x1:=SA.cell.live;have x2:=(x0N RX P.len).live;rw [Nat.zero_add,Bk.out] at x1;rw [Nat.zero_add,Bp.out] at x2;have Ax:=jS wa I 34 _ _ SA.row;go_upto_region 13 with fail
      have SB:=yH (SA.setLive ((a1:Int)+a2) ⟨by omega,by omega⟩);have RB:=yH ((show (wa.setCell ⟨I,34,none⟩ (.int .i64 ((a1:Int)+a2))).heap[gb]? =wa.heap[gb]? from kG _ _ _ _ B0).trans RX.out);generalize wa.setCell ⟨I,34,none⟩ (.int .i64 ((a1:Int)+a2))=wb at *;clear x1 x2 Ax SA RX;have x1:=SB.cell.size;have x2:=(x0N RB P.len).size;rw [Nat.zero_add] at x1;rw [show ({A with live:=(a1:Int)+a2}:Kd).size=(a3:Int) from Bs.out] at x1;rw [Nat.zero_add,Bq.out] at x2;have Bi:=jS wb I 35 _ _ SB.row;go_upto_region 14 with fail
      have SC:=yH (SB.setSize ((a3:Int)+a4) ⟨by omega,by omega⟩);have RC:=yH ((show (wb.setCell ⟨I,35,none⟩ (.int .i64 ((a3:Int)+a4))).heap[gb]? =wb.heap[gb]? from kG _ _ _ _ B0).trans RB.out);generalize wb.setCell ⟨I,35,none⟩ (.int .i64 ((a3:Int)+a4))=wc at *;clear x1 x2 Bi SB RB;have x1:=SC.cell.lo;have x2:=SC.cell.hi;have x3:=(x0N RC P.len).lo;have x4:=(x0N RC P.len).hi;simp only [Nat.zero_add,Rw.val] at x1 x2 x3 x4;have BD:=yH (P.later SC.low);go_wp2_with (first
       | (go_at_call 299;refine (x8b A.lo.p A.hi.p e.lo.p e.hi.p A.lo.n A.lo.c A.hi.n A.hi.c e.lo.n e.lo.c e.hi.n e.hi.c A.lo.R A.hi.R e.lo.R e.hi.R wc SC.ok.lo.ints SC.ok.hi.ints BD.lo.ints BD.hi.ints).mono ?_;rintro _ w8 ⟨v8,rfl,r1,r2,rfl,e1,e2,AD,A2,b8⟩;have HP2:=yH (HP1.out r1 r2 e1 e2);have F1:=yH AD;have F2:=yH A2;have S8:=yH (SC.later b8);have Q:=yH (show I<wc.heap.size/\w.heap.size+1<wc.heap.size from ⟨(yL SC.row),(yL SC.res)⟩);clear e1 e2 AD A2 b8)
       | (refine wpList_store_mid (by rfl) 32 (.tmp 59) (.tmp 58) (by rfl) I 32 #[r1.val,r2.val] (by rfl) (by rfl) (x3y S8.row S8.ok.len r1 r2) IBx (x7Z r1 r2) ?_;have S9:=yH (S8.setBox (r1:=r1) (r2:=r2) ⟨F1.ok,F1.away Q.1,F1.away Q.2⟩ ⟨F2.ok,F2.away Q.1,F2.away Q.2⟩)))
      go_roundw
      case rel=>exact ⟨k+1,_,by omega,by go_num,S9.out,HP2.out,FS2.box F1 F2 (by have:=SC.low.size;omega)⟩
      case measure=>simp [intOf];omega
     ·obtain rfl:m=k:=by omega
      have e0:(K.map Kd.pk).take m=K.map Kd.pk:=kQ (by rw [kH,BQ.out];exact jB _);rw [e0,<- BY.out] at B;have X:=yH (Kd.cells_length S2.ok.len);have Bb:=yH (x0E S2.row);clear e0;go_wp2_with (first
       | (refine jK (by rfl) 34 _ (by rfl) I 0 (by rfl) A.cells du Bb Ab Af (by rw [X.out];exact SKd) ?_)
       | (refine jL (by rfl) 34 _ _ (by rfl) (w.heap.size+1) A.cells.toArray (by rfl) (by rfl) _ _ S2.res (by rw [jF,X.out];exact SKd) (by simp only [jF,X.out,x02]) (jN Kd.one) ?_))
      have r9:=jT _ (w.heap.size+1) _ A.cells.toArray _ _ S2.res;have Bn:Below (w.heap.size+1) wr (wr.setRow (w.heap.size+1) A.cells.toArray):=Below.setRow (jC _ _) (jB _) _;have Al:∀r∈A.rows,r.Ok (wr.setRow (w.heap.size+1) A.cells.toArray):=fun r hr=>rw_keep (S2.rows r hr).1 (fun x hx hR=>setRow_other _ _ _ _ ((S2.rows r hr).2.2 x hx hR));refine x1U 2 (by kernel_rfl) (w.heap.size+1) _ _ Ab Af (by rw [jF,X.out];exact SKd) (by rfl) r9 ⟨A,rfl,B.out,⟨S2.ok.len,S2.ok.ok,Al _ (by simp [Kd.rows]),Al _ (by simp [Kd.rows]),Al _ (by simp [Kd.rows]),S2.ok.live,S2.ok.size⟩,FS2.out,S2.low.trans (Bn.mono (by omega))⟩
end Nd
namespace Pg
open Go.RowKit
theorem y6F:laidOutB Tryz.prog=true:=by kernel_rfl
theorem keyD:Go.Maps.Keyed Tryz.prog 30:=
 Go.Maps.Keyed.of_law (deep_law_laid y6F (m:=2) (by decide) (of_decide_eq_true (by kernel_rfl)) (by kernel_rfl) (by kernel_rfl))
def klit (d:List Nat):Lit:=.string (keyBytes (d.map fun x:Nat=>Lit.int .u8 (x:Int)))
theorem x8e {α β:Type} (f:α->Option β) (g:α->β):∀l:List α,(∀x∈l,f x=some (g x))->l.mapM f=some (l.map g)
 |[],_=>rfl
 | a::l,h=>by
  rw [List.mapM_cons,h a List.mem_cons_self,x8e f g l (fun x hx=>h x (List.mem_cons_of_mem _ hx))]
  rfl
theorem y7K:Tryz.prog.cellsOf 5=1:=by kernel_rfl
theorem y2c:Tryz.prog.cellsOf 30=32:=by kernel_rfl
theorem y6G (m:Nat) {x:Nat} (hx:x<256):Tryz.prog.keyLits (m+1) 5 [.int .u8 (x:Int)]=some [.int .u8 (x:Int)]:=by
 have A:(Lit.int .u8 (x:Int)).wf=true:=by simp [Lit.wf,IntKind.min,IntKind.max,IntKind.bits,IntKind.signed];omega
 unfold Program.keyLits;rw [U5];simp [A]
theorem y7L (m:Nat) {d:List Nat} (hd:d.length=32) (ho:Sm.allB d):Tryz.prog.keyLits (m+2) 30 (vals d)=some (d.map fun x:Nat=>Lit.int .u8 (x:Int)):=by
 unfold Program.keyLits;rw [A25];simp only [y2c,y7K,x00,hd,if_true,Nat.mul_one];rw [x8e _ (fun i=>[Lit.int .u8 ((d.getD i 0:Nat):Int)]) _ (fun i A=>by
  have A:i<32:=List.mem_range.1 A;have B:((vals d).drop i).take 1=[.int .u8 ((d.getD i 0:Nat):Int)]:=by
   rw [List.drop_eq_getElem_cons (by rw [x00];omega),List.take_succ_cons,List.take_zero];simp [vals,jG,hd,A]
  rw [B];refine y6G m (ho _ ?_);rw [jG,jM (by omega),Option.getD_some];exact kM _)]
 simp only [Option.map_some,Option.some.injEq];rw [<- hd];clear ho hd
 induction d with
 | nil=>rfl
 | cons x d ih=>rw [kI,List.range_succ_eq_map];simp [List.map_map] at ih ⊢;simpa [Function.comp_def] using ih
theorem x3m {d:List Nat} (hd:d.length=32) (ho:Sm.allB d):keyOf Tryz.prog 30 (.agg (u8s d))=some (klit d):=by
 have C:Tryz.prog.keyType 30=true:=by kernel_rfl
 have A:(Value.agg (u8s d)).formed Tryz.prog 30=true:=by simp [Value.formed,y2c,x0C,hd]
 have B:(Value.agg (u8s d)).cells.toList=vals d:=by simp [Value.cells,x38]
 obtain ⟨m,E⟩:∃m,Tryz.prog.types.size+1=m+2:=⟨Tryz.prog.types.size - 1,by have:0<Tryz.prog.types.size:=of_decide_eq_true (by kernel_rfl);omega⟩
 unfold keyOf;rw [A25,B,E,y7L m hd ho];simp [C,A,klit]
theorem x5J {a b:List Nat} (ha:a.length=32) (hao:Sm.allB a) (hb:b.length=32) (hbo:Sm.allB b) (h:klit a=klit b):a=b:=by
 have B:=keyD.inj (x3m ha hao) (h▸x3m hb hbo);have A:vals a=vals b:=by
  have:=congrArg (fun v:Value=>v.cells.toList) B
  simpa [Value.cells,x38] using this
 have C:∀x y:Nat,Value.int .u8 (x:Int)=Value.int .u8 (y:Int)->x=y:=fun x y e=>by cases e;rfl
 exact (List.map_inj_right C).1 A
theorem x5K (d:List Nat):WideAt.IsKeyLit (klit d):=trivial
structure Pe where
 d:List Nat
 q:Option Addr
 (m c:Nat)
 b:List Nat
instance:Inhabited Pe:=⟨⟨[],none,0,0,[]⟩⟩
def Pe.cells (e:Pe):List Value:=vals e.d++[.slice e.q e.m e.c]
def x0i (L:List Pe):Pages:=L.map fun e=>(e.d,e.b)
theorem x3Y (L:List Pe):(x0i L).length=L.length:=by simp [x0i]
theorem x6w (L:List Pe) {i:Nat} (h:i<L.length):(x0i L).getD i default=((L.getD i default).d,(L.getD i default).b):=by
 simp [x0i,jG,h]
end Pg
end Go.Proofs.YtenenciaggbjnaaGreat
