/- GenCmp, KdCmp, KdOrder, KdSortMath, KdSort, KdSorts, KdTakes, KdFork. -/
import Derived.BigQuiet
import Derived.BigRegion
import Derived.LoopN
import Derived.Shelf.Small.Bits
import Derived.Deep.MidRow
import Derived.Test.YtinihaflmdihaaaGreatK8
set_option maxRecDepth 100000
set_option maxHeartbeats 8000000
set_option linter.all false
namespace Go.Proofs.YtinihaflmdihaaaGreat
open Go.RowKit
def icmp (x y:Int):Int:=if x<y then -1 else if y<x then 1 else 0
theorem compare64_any (x y:Int) (w:World):
  Calls Tryz.prog 163 #[.int .i64 x,.int .i64 y] w fun e w'=>e= .returned (.int .i64 (icmp x y))∧w=w':=by
 have hN:∀z w,Calls Tryz.prog 220 #[.int .i64 z] w fun e w'=>e= .returned (.bool false)∧w=w':=fun z w=>by
  have q:(z !=z)=false:=by simp
  go_enter Tryz.func220,Tryz.ntmps220
  go_wp2_with fail
  go_ret
  exact ⟨rfl,rfl⟩
 have HN:=yH hN
 clear hN
 by_cases h1:x<y
 ·have HE:=yH (show icmp x y= -1 by unfold icmp;rw [if_pos h1])
  go_enter Tryz.func163,Tryz.ntmps163
  go_wp2_with ((go_at_call 220;refine (HN.out _ _).mono ?_;rintro _ w' ⟨rfl,rfl⟩))
  go_ret
  exact ⟨by rw [HE.out];rfl,rfl⟩
 ·by_cases h2:y<x
  ·have HE:=yH (show icmp x y=1 by unfold icmp;rw [if_neg h1,if_pos h2])
   go_enter Tryz.func163,Tryz.ntmps163
   go_wp2_with ((go_at_call 220;refine (HN.out _ _).mono ?_;rintro _ w' ⟨rfl,rfl⟩))
   go_ret
   exact ⟨by rw [HE.out];rfl,rfl⟩
  ·have HE:=yH (show icmp x y=0 by unfold icmp;rw [if_neg h1,if_neg h2])
   go_enter Tryz.func163,Tryz.ntmps163
   go_wp2_with ((go_at_call 220;refine (HN.out _ _).mono ?_;rintro _ w' ⟨rfl,rfl⟩))
   go_ret
   exact ⟨by rw [HE.out];rfl,rfl⟩
end Go.Proofs.YtinihaflmdihaaaGreat
namespace Go.Proofs.YtinihaflmdihaaaGreat.Kt
open Go.RowKit
def cmpL:List Int→List Int→Int
 |[],[]=>0
 |[],_::_=> -1
 | _::_,[]=>1
 | a::p,b::q=>if icmp a b=0 then cmpL p q else icmp a b
theorem cmpL_end {R S:List Int} {k:Nat} (hk:R.length≤k):cmpL (R.drop k) (S.drop k)=if R.length<S.length∧k<S.length then -1 else 0:=by
 rw [List.drop_eq_nil_of_le hk]
 by_cases h:k<S.length
 ·rw [if_pos ⟨by omega,h⟩,List.drop_eq_getElem_cons h]
  rfl
 ·rw [if_neg (fun h2=>h h2.2),List.drop_eq_nil_of_le (by omega)]
  rfl
theorem cmpL_over {R S:List Int} {k:Nat} (hk:k<R.length) (hs:S.length≤k):cmpL (R.drop k) (S.drop k)=1:=by
 rw [List.drop_eq_nil_of_le hs,List.drop_eq_getElem_cons hk]
 rfl
theorem cmpL_step {R S:List Int} {k:Nat} (hk:k<R.length) (hs:k<S.length):cmpL (R.drop k) (S.drop k)=if icmp (R.getD k 0) (S.getD k 0)=0 then cmpL (R.drop (k+1)) (S.drop (k+1)) else icmp (R.getD k 0) (S.getD k 0):=by
 rw [List.drop_eq_getElem_cons hk,List.drop_eq_getElem_cons hs,List.getD_eq_getElem?_getD,List.getD_eq_getElem?_getD,List.getElem?_eq_getElem hk,List.getElem?_eq_getElem hs]
 rfl
def SlcRel (w:World) (R S:List Int) (C:Int) (n m:Nat) (i:Value) (wr:World):Prop:=∃k:Nat,k≤n∧k≤m∧i= .int .i64 k∧cmpL (R.drop k) (S.drop k)=C∧wr=w
theorem ret_i {x y:Int} (h:x=y):Ending.returned (.int .i64 x)= .returned (.int .i64 y):=by rw [h]
theorem slcompare_any (p q:Option Addr) (n c m e:Nat) (R S:List Int) (w:World) (h1:Ints w p n c R) (h2:Ints w q m e S) (hn9:n≤9223372036854775807) (hm9:m≤9223372036854775807):
  Calls Tryz.prog 164 #[.slice p n c,.slice q m e] w fun e w'=>e= .returned (.int .i64 (cmpL R S))∧w'=w:=by
 have H1:=yH h1
 have H2:=yH h2
 have HN1:=yH h1.size
 have HN2:=yH h2.size
 obtain ⟨C,hC⟩:∃C,cmpL R S=C:=⟨_,rfl⟩
 rw [hC]
 have HC:=yH hC
 clear h1 h2 hC
 go_enter Tryz.func164,Tryz.ntmps164
 go_wp2_with fail
 go_loopw [5,6,7,8,11] (fun _ _ _ _ i wr=>SlcRel w R S C n m i wr) (fun _ _ _ _ i _=>n - (intOf i).toNat)
 case atStart=>exact ⟨0,by omega,by omega,rfl,HC.out,rfl⟩
 case round=>
  obtain ⟨k,hk,hkm,rfl,heq,rfl⟩:=hrel
  by_cases hlt:k<n
  ·obtain ⟨g1,o1,rfl,hcx⟩:=H1.out.cell k hlt
   have i1:(0:Int)≤k∧(k:Int)<n:=by omega
   by_cases hlm:k<m
   ·obtain ⟨g2,o2,rfl,hcy⟩:=H2.out.cell k hlm
    have i2:(0:Int)≤k∧(k:Int)<m:=by omega
    rw [cmpL_step (by rw [← HN1.out];exact hlt) (by rw [← HN2.out];exact hlm)] at heq
    have HEQ:=yH heq
    clear heq HC
    generalize R.getD k 0=x at *
    generalize S.getD k 0=y at *
    have HCM:=yH (compare64_any x y)
    generalize icmp x y=z at *
    by_cases hz:z=0
    ·have he:=HEQ.out
     rw [if_pos hz] at he
     have HE:=yH he
     subst hz
     clear he HEQ
     go_wp2_with (go_at_call 163;refine (HCM.out _).mono ?_;rintro _ w' ⟨rfl,rfl⟩)
     go_roundw
     case rel=>exact ⟨k+1,by omega,by omega,by go_num,HE.out,rfl⟩
     case measure=>simp [intOf];omega
    ·have he:=HEQ.out
     rw [if_neg hz] at he
     have b1:(z !=0)=true:=by simpa using hz
     have HE:=yH he
     clear he HEQ hz
     go_wp2_with (go_at_call 163;refine (HCM.out _).mono ?_;rintro _ w' ⟨rfl,rfl⟩)
     go_ret
     exact ⟨ret_i HE.out,rfl⟩
   ·have HE:=yH ((cmpL_over (S:=S) (by rw [← HN1.out];exact hlt) (by rw [← HN2.out];omega)).symm.trans heq)
    clear heq HC
    go_wp2_with fail
    go_ret
    exact ⟨ret_i HE.out,rfl⟩
  ·obtain rfl:k=n:=by omega
   rw [cmpL_end (by rw [← HN1.out];exact Nat.le_refl _),← HN1.out,← HN2.out] at heq
   by_cases hlm:k<m
   ·rw [if_pos ⟨hlm,hlm⟩] at heq
    have HE:=yH heq
    clear heq HC
    go_wp2_with fail
    go_ret
    exact ⟨ret_i HE.out,rfl⟩
   ·rw [if_neg (fun h=>hlm h.1)] at heq
    have HE:=yH heq
    clear heq HC
    go_wp2_with fail
    go_ret
    exact ⟨ret_i HE.out,rfl⟩
end Go.Proofs.YtinihaflmdihaaaGreat.Kt
namespace Go.Proofs.YtinihaflmdihaaaGreat.Kt
open Go.RowKit
open List renaming setIfInBounds_toArray → yA, set_cons_zero → yB, set_cons_succ → yC
def ordC (a:Nat) (R S:List Int):Int:=if icmp (R.getD a 0) (S.getD a 0)=0 then cmpL R S else icmp (R.getD a 0) (S.getD a 0)
theorem order1_any (p q:Option Addr) (n c m e:Nat) (R S:List Int) (a gf:Nat) (w:World) (h1:Ints w p n c R) (h2:Ints w q m e S) (hn:a<n) (hm:a<m) (hn9:n≤9223372036854775807) (hm9:m≤9223372036854775807) (hg:w.cell? ⟨gf,0,none⟩=some (.int .i64 a)):
  Calls Tryz.prog 162 #[.slice p n c,.slice q m e,.pointer (some ⟨gf,0,none⟩)] w fun e w'=>e= .returned (.int .i64 (ordC a R S))∧∃j,w'=w.drewN j:=by
 have HSC:=yH (fun j=>slcompare_any p q n c m e R S (w.drewN j) (h1.later (Below.drewN (Below.refl _ _) j)) (h2.later (Below.drewN (Below.refl _ _) j)) hn9 hm9)
 obtain ⟨gx,o,rfl,hcx⟩:=h1.cell a hn
 obtain ⟨gy,o2,rfl,hcy⟩:=h2.cell a hm
 have i1:(0:Int)≤a∧(a:Int)<n:=by omega
 have i2:(0:Int)≤a∧(a:Int)<m:=by omega
 obtain ⟨C,hC⟩:∃C,ordC a R S=C:=⟨_,rfl⟩
 rw [hC]
 unfold ordC at hC
 clear h1 h2 hn hm hn9 hm9
 generalize R.getD a 0=x at *
 generalize S.getD a 0=y at *
 have HCM:=yH (compare64_any x y)
 generalize icmp x y=z at *
 by_cases hz:z=0
 ·rw [if_pos hz] at hC
  subst hz
  rw [hC] at HSC
  clear hC
  go_enter Tryz.func162,Tryz.ntmps162
  go_upto_region 1 with fail
  refine wp_region_held_drew (S:=fun w'=>Below w.heap.size w w') (by kernel_rfl) (Below.refl _ _).drew (fun hHeld=>?_)
  refine tK 0 ?_
  refine tQ 1 ?_ ?_ ?_
  rotate_left
  ·intro w' hSw
   have c9:=(hSw.cell (block_lt_of_cell hg)).trans hg
   go_simp
   try with_reducible rfl
  refine tK 2 ?_
  refine tQ 3 ?_ ?_ ?_
  rotate_left
  ·intro w' hSw
   have c9:=(hSw.cell (block_lt_of_cell hcx)).trans hcx
   go_simp
   try with_reducible rfl
  refine tK 4 ?_
  refine tQ 5 ?_ ?_ ?_
  rotate_left
  ·intro w' hSw
   have c9:=(hSw.cell (block_lt_of_cell hg)).trans hg
   go_simp
   try with_reducible rfl
  refine tK 6 ?_
  refine tQ 7 ?_ ?_ ?_
  rotate_left
  ·intro w' hSw
   have c9:=(hSw.cell (block_lt_of_cell hcy)).trans hcy
   go_simp
   try with_reducible rfl
  refine rY [8] ?_
  refine rC (fun K hK=>?_) AllReadyH.nil
  go_simp
  refine (HCM.out _).mono ?_
  rintro _ w5 ⟨rfl,rfl⟩
  try go_wp2_with fail
  refine hK.out _ _ hHeld (fun hHeld=>?_)
  clear hK K
  try simp only [Act.put,yA,yB,yC]
  refine tK 9 ?_
  refine wpAnyH_done (by kernel_rfl) ?_ _
  go_wp2_with (go_at_call 164;refine (HSC.out _).mono ?_;rintro _ w' ⟨rfl,rfl⟩)
  go_ret
  exact ⟨rfl,_,rfl⟩
 ·rw [if_neg hz] at hC
  subst hC
  have b1:(z !=0)=true:=by simpa using hz
  clear hz
  go_enter Tryz.func162,Tryz.ntmps162
  go_upto_region 1 with fail
  refine wp_region_held_drew (S:=fun w'=>Below w.heap.size w w') (by kernel_rfl) (Below.refl _ _).drew (fun hHeld=>?_)
  refine tK 0 ?_
  refine tQ 1 ?_ ?_ ?_
  rotate_left
  ·intro w' hSw
   have c9:=(hSw.cell (block_lt_of_cell hg)).trans hg
   go_simp
   try with_reducible rfl
  refine tK 2 ?_
  refine tQ 3 ?_ ?_ ?_
  rotate_left
  ·intro w' hSw
   have c9:=(hSw.cell (block_lt_of_cell hcx)).trans hcx
   go_simp
   try with_reducible rfl
  refine tK 4 ?_
  refine tQ 5 ?_ ?_ ?_
  rotate_left
  ·intro w' hSw
   have c9:=(hSw.cell (block_lt_of_cell hg)).trans hg
   go_simp
   try with_reducible rfl
  refine tK 6 ?_
  refine tQ 7 ?_ ?_ ?_
  rotate_left
  ·intro w' hSw
   have c9:=(hSw.cell (block_lt_of_cell hcy)).trans hcy
   go_simp
   try with_reducible rfl
  refine rY [8] ?_
  refine rC (fun K hK=>?_) AllReadyH.nil
  go_simp
  refine (HCM.out _).mono ?_
  rintro _ w5 ⟨rfl,rfl⟩
  try go_wp2_with fail
  refine hK.out _ _ hHeld (fun hHeld=>?_)
  clear hK K
  try simp only [Act.put,yA,yB,yC]
  refine tK 9 ?_
  refine wpAnyH_done (by kernel_rfl) ?_ _
  go_wp2_with fail
  go_ret
  exact ⟨rfl,_,rfl⟩
theorem icmp_zero {x y:Int}:icmp x y=0↔x=y:=by
 unfold icmp
 split
 ·omega
 ·split<;>omega
theorem icmp_neg {x y:Int}:icmp x y<0↔x<y:=by
 unfold icmp
 split
 ·omega
 ·split<;>omega
theorem cmpL_lex:∀R S:List Int,R.length=S.length→(cmpL R S<0↔lexLt R S=true)
 |[],[],_=>by simp [cmpL,lexLt]
 |[],_::_,h=>by simp at h
 | _::_,[],h=>by simp at h
 | a::p,b::q,h=>by
  unfold cmpL lexLt
  by_cases hab:a=b
  ·rw [if_pos (icmp_zero.2 hab),if_pos hab]
   exact cmpL_lex p q (by simpa using h)
  ·rw [if_neg (fun h=>hab (icmp_zero.1 h)),if_neg hab,icmp_neg,decide_eq_true_iff]
theorem ordC_less {a:Nat} {R S:List Int} (h:R.length=S.length):ordC a R S<0↔lessP a R S=true:=by
 unfold ordC lessP
 by_cases hab:R.getD a 0=S.getD a 0
 ·rw [if_pos (icmp_zero.2 hab),if_pos hab]
  exact cmpL_lex R S h
 ·rw [if_neg (fun h=>hab (icmp_zero.1 h)),if_neg hab,icmp_neg,decide_eq_true_iff]
theorem lex_trans:∀R S U:List Int,lexLt R S=true→lexLt S U=true→lexLt R U=true
 |[],_,_,h,_=>by simp [lexLt] at h
 | _::_,[],_,h,_=>by simp [lexLt] at h
 | _::_,_::_,[],_,h=>by simp [lexLt] at h
 | a::p,b::q,c::r,h1,h2=>by
  unfold lexLt at *
  by_cases hab:a=b
  ·rw [if_pos hab] at h1
   by_cases hbc:b=c
   ·rw [if_pos hbc] at h2
    rw [if_pos (hab.trans hbc)]
    exact lex_trans p q r h1 h2
   ·rw [if_neg hbc] at h2
    rw [if_neg (by omega)]
    rw [decide_eq_true_iff] at *
    omega
  ·rw [if_neg hab] at h1
   rw [decide_eq_true_iff] at h1
   by_cases hbc:b=c
   ·rw [if_neg (by omega),decide_eq_true_iff]
    omega
   ·rw [if_neg hbc,decide_eq_true_iff] at h2
    rw [if_neg (by omega),decide_eq_true_iff]
    omega
theorem lex_total:∀R S:List Int,R.length=S.length→lexLt R S=false→lexLt S R=false→R=S
 |[],[],_,_,_=>rfl
 |[],_::_,h,_,_=>by simp at h
 | _::_,[],h,_,_=>by simp at h
 | a::p,b::q,h,h1,h2=>by
  unfold lexLt at h1 h2
  by_cases hab:a=b
  ·rw [if_pos hab] at h1
   rw [if_pos hab.symm] at h2
   rw [hab,lex_total p q (by simpa using h) h1 h2]
  ·rw [if_neg hab,decide_eq_false_iff_not] at h1
   rw [if_neg (fun e=>hab e.symm),decide_eq_false_iff_not] at h2
   omega
theorem less_irrefl (a:Nat) (R:List Int):lessP a R R=false:=by
 unfold lessP
 rw [if_pos rfl]
 exact lexLt_same R
theorem less_trans {a:Nat} {R S U:List Int} (h1:lessP a R S=true) (h2:lessP a S U=true):lessP a R U=true:=by
 unfold lessP at *
 by_cases hab:R.getD a 0=S.getD a 0
 ·rw [if_pos hab] at h1
  by_cases hbc:S.getD a 0=U.getD a 0
  ·rw [if_pos hbc] at h2
   rw [if_pos (hab.trans hbc)]
   exact lex_trans R S U h1 h2
  ·rw [if_neg hbc,decide_eq_true_iff] at h2
   rw [if_neg (by omega),decide_eq_true_iff]
   omega
 ·rw [if_neg hab,decide_eq_true_iff] at h1
  by_cases hbc:S.getD a 0=U.getD a 0
  ·rw [if_neg (by omega),decide_eq_true_iff]
   omega
  ·rw [if_neg hbc,decide_eq_true_iff] at h2
   rw [if_neg (by omega),decide_eq_true_iff]
   omega
theorem less_total {a:Nat} {R S:List Int} (h:R.length=S.length) (h1:lessP a R S=false) (h2:lessP a S R=false):R=S:=by
 unfold lessP at *
 by_cases hab:R.getD a 0=S.getD a 0
 ·rw [if_pos hab] at h1
  rw [if_pos hab.symm] at h2
  exact lex_total R S h h1 h2
 ·rw [if_neg hab,decide_eq_false_iff_not] at h1
  rw [if_neg (fun e=>hab e.symm),decide_eq_false_iff_not] at h2
  omega
theorem less_asymm {a:Nat} {R S:List Int} (h:lessP a R S=true):lessP a S R=false:=by
 rw [Bool.eq_false_iff]
 intro h2
 have:=less_trans h h2
 rw [less_irrefl] at this
 cases this
theorem less_ntrans {a:Nat} {R S U:List Int} (e1:R.length=S.length) (e2:S.length=U.length) (h1:lessP a R S=false) (h2:lessP a S U=false):lessP a R U=false:=by
 rw [Bool.eq_false_iff]
 intro h
 cases h3:lessP a S R with
 | true=>
  have:=less_trans h3 h
  rw [h2] at this
  cases this
 | false=>
  have:=less_total e1 h1 h3
  rw [this,h2] at h
  cases h
def Sorted (a:Nat) (L:List (List Int)):Prop:=L.Pairwise fun x y=>lessP a y x=false
theorem takeWhile_mem {α:Type} (f:α→Bool):∀(L:List α),∀x∈L.takeWhile f,f x=true
 |[],x,h=>by simp at h
 | y::L,x,h=>by
  rw [List.takeWhile_cons] at h
  split at h
  ·rename_i hy
   rcases List.mem_cons.1 h with rfl | h
   ·exact hy
   ·exact takeWhile_mem f L x h
  ·simp at h
theorem dropWhile_head {α:Type} (f:α→Bool):∀(L:List α),L.dropWhile f=[]∨∃x T,L.dropWhile f=x::T∧f x=false
 |[]=>Or.inl rfl
 | y::L=>by
  rw [List.dropWhile_cons]
  split
  ·exact dropWhile_head f L
  ·rename_i hy
   exact Or.inr ⟨y,L,rfl,by simpa using hy⟩
theorem insP_sorted {a d:Nat} {out:List (List Int)} {x:List Int} (h:Sorted a out) (hd:∀y∈out,y.length=d) (hx:x.length=d):Sorted a (insP a out x):=by
 unfold Sorted insP at *
 have hs:(out.takeWhile (fun y=>lessP a y x)++out.dropWhile (fun y=>lessP a y x)).Pairwise fun x y=>lessP a y x=false:=by
  rw [List.takeWhile_append_dropWhile]
  exact h
 have hm:∀y∈out.dropWhile (fun y=>lessP a y x),y∈out:=fun y hy=>(List.dropWhile_sublist _).mem hy
 rw [List.pairwise_append] at hs ⊢
 have hdw:∀y∈out.dropWhile (fun y=>lessP a y x),lessP a y x=false:=by
  rcases dropWhile_head (fun y=>lessP a y x) out with h0 | ⟨z,T,hz,hf⟩
  ·rw [h0]
   intro y hy
   cases hy
  ·have hz2:=hs.2.1
   rw [hz] at hz2 hm ⊢
   rw [List.pairwise_cons] at hz2
   intro y hy
   rcases List.mem_cons.1 hy with rfl | hy2
   ·exact hf
   ·exact less_ntrans ((hd _ (hm y hy)).trans (hd _ (hm z (by simp))).symm) ((hd _ (hm z (by simp))).trans hx.symm) (hz2.1 y hy2) hf
 refine ⟨hs.1,?_,fun y hy z hz=>?_⟩
 ·rw [List.pairwise_cons]
  exact ⟨hdw,hs.2.1⟩
 ·have h1:=takeWhile_mem _ _ y hy
  rcases List.mem_cons.1 hz with rfl | hz
  ·exact less_asymm h1
  ·exact hs.2.2 y hy z hz
theorem insP_dims {a d:Nat} {out:List (List Int)} {x:List Int} (hd:∀y∈out,y.length=d) (hx:x.length=d):∀y∈insP a out x,y.length=d:=fun y hy=>by
 rcases List.mem_cons.1 ((insP_perm a out x).mem_iff.1 hy) with rfl | h
 ·exact hx
 ·exact hd y h
theorem fold_sorted {a d:Nat}:∀(L out:List (List Int)),(∀y∈L,y.length=d)→(∀y∈out,y.length=d)→Sorted a out→Sorted a (L.foldl (insP a) out)
 |[],out,_,_,h=>h
 | x::L,out,hL,hd,h=>by
  rw [List.foldl_cons]
  exact fold_sorted L _ (fun y hy=>hL y (by simp [hy])) (insP_dims hd (hL x (by simp))) (insP_sorted h hd (hL x (by simp)))
theorem sortP_sorted {a d:Nat} {L:List (List Int)} (hL:∀y∈L,y.length=d):Sorted a (sortP a L):=fold_sorted L [] hL (fun y hy=>by cases hy) List.Pairwise.nil
theorem sorted_one {a d:Nat} {L M:List (List Int)} (hL:∀y∈L,y.length=d) (hp:M.Perm L) (hs:Sorted a M):M=sortP a L:=by
 have h2:=sortP_sorted (a:=a) hL
 have hp2:M.Perm (sortP a L):=hp.trans (sortP_perm a L).symm
 refine List.Perm.eq_of_pairwise (le:=fun x y=>lessP a y x=false) (fun x y hx hy h1 h2=>?_) hs h2 hp2
 have e1:=hL x (hp.mem_iff.1 hx)
 have e2:=hL y ((sortP_perm a L).mem_iff.1 hy)
 exact less_total (e1.trans e2.symm) h2 h1
end Go.Proofs.YtinihaflmdihaaaGreat.Kt
namespace Go.Proofs.YtinihaflmdihaaaGreat.Kt
open Go.Proofs Go.RowKit Go.Sort Go.Shelf Go.Proofs.YtinihaflmdihaaaGreat.Nd
def Seg (w:World) (g o:Nat) (L:List Rw):Prop:=∀j,j<L.length→w.cell? ⟨g,o+j,none⟩=some (L.getD j default).val∧w.frozen? ⟨g,o+j,none⟩=false
structure Turned (g o n:Nat) (w w':World):Prop where
 only:Dk.Only (fun k=>k=g) w w'
 cell:∀a:Addr,a.block≠g∨a.off<o∨o+n≤a.off→a.block<w.heap.size→w'.cell? a=w.cell? a
 frozen:∀a:Addr,a.block<w.heap.size→w'.frozen? a=w.frozen? a
abbrev RwE (w:World) (g d:Nat):={r:Rw//r.Ok w∧r.n=d∧Away g r}
section
variable {w:World} {g d a:Nat}
def encR (x:RwE w g d):Value:=x.1.val
theorem encR_one:OneCell (encR (w:=w) (g:=g) (d:=d)):=fun _=>rfl
def cfR (a:Nat) (x y:RwE w g d):Int:=ordC a x.1.R y.1.R
theorem rwe_len (x:RwE w g d):x.1.R.length=d:=by rw [← x.2.1.ints.size];exact x.2.2.1
theorem ltR (x y:RwE w g d):ltOf (cfR a) x y=lessP a x.1.R y.1.R:=by
 unfold ltOf cfR
 rw [Bool.eq_iff_iff,decide_eq_true_iff]
 exact ordC_less ((rwe_len x).trans (rwe_len y).symm)
theorem swoR:SWO (ltOf (cfR (w:=w) (g:=g) (d:=d) a)) where
 irrefl x:=by rw [ltR];exact less_irrefl _ _
 trans x y z h1 h2:=by rw [ltR] at *;exact less_trans h1 h2
 ntrans x y z h1 h2:=by rw [ltR] at *;exact less_ntrans ((rwe_len x).trans (rwe_len y).symm) ((rwe_len y).trans (rwe_len z).symm) h1 h2
end
section
variable {α:Type} [Inhabited α] {enc:α→Value} {w:World} {blk off n:Nat} {d:Array α} {os:Array Obj}
theorem sortWorld_only:Dk.Only (fun k=>k=blk) w (sortWorld enc w blk off n d os):=by
 refine ⟨rfl,rfl,rfl,?_,fun k hk hn=>?_⟩
 ·simp [sortWorld,grow,putRow,mapBlock,Sort.ahead]
 ·simp only [sortWorld,grow,putRow,mapBlock]
  rw [Array.getElem?_append_left (by simpa [Sort.ahead] using hk),Array.getElem?_modify,if_neg (fun e=>hn e.symm)]
  rfl
theorem sortWorld_turned:Turned blk off d.size w (sortWorld enc w blk off n d os):=by
 refine ⟨sortWorld_only,fun a h hb=>?_,fun a hb=>?_⟩
 ·unfold sortWorld
  rw [cell?_grow _ _ _ (by simpa [Sort.ahead] using hb),cell?_putRow_other _ _ _ _ _ _ h]
  rfl
 ·unfold sortWorld
  rw [frozen?_grow _ _ _ (by simpa [Sort.ahead] using hb),frozen?_putRow]
  rfl
theorem perm_gen {d d':Array α} (h:PermIn 0 d.size d d'):d'.toList.Perm d.toList:=by
 have h1:=h.2.2
 rw [Array.extract_size] at h1
 rwa [← h.1,Array.extract_size] at h1
end
theorem cmp_laysR (w:World) (g o size a d gf:Nat) (ha:a<d) (hf:w.cell? ⟨gf,0,none⟩=some (.int .i64 a)) (hfg:gf≠g) [Inhabited (RwE w g d)]:
  CmpLays1 Tryz.prog 162 #[.pointer (some ⟨gf,0,none⟩)] (encR (w:=w) (g:=g) (d:=d)) (cfR a) g o size w:=fun m os dk _ x y=>by
 have key:∀x:RwE w g d,x.1.Ok (sortWorld encR w g o m dk os):=fun x=>Nd.rw_keep x.2.1 fun z hz hR=>sortWorld_only.block _ (rw_lt x.2.1 z hz hR) (x.2.2.2 z hz hR)
 have h:=order1_any x.1.p y.1.p x.1.n x.1.c y.1.n y.1.c x.1.R y.1.R a gf (sortWorld encR w g o m dk os) (key x).ints (key y).ints (by rw [x.2.2.1];exact ha) (by rw [y.2.2.1];exact ha) (key x).top (key y).top ((sortWorld_turned.cell _ (Or.inl hfg) (block_lt_of_cell hf)).trans hf)
 refine Calls.mono h ?_
 rintro e w' ⟨he,j,hj⟩
 exact ⟨he,j,#[],by rw [hj,grow_empty]⟩
theorem attach_fst {L:List Rw} {P:Rw→Prop} (h:∀r∈L,P r):(L.attach.map fun r=>(⟨r.1,h r.1 r.2⟩:{r:Rw//P r})).map (·.1)=L:=by
 rw [List.map_map]
 exact List.attach_map_subtype_val L
theorem getD_fst {P:Rw→Prop} [Inhabited {r:Rw//P r}] (D:Array {r:Rw//P r}) (j:Nat) (hj:j<D.size):(D[j]!).1=(D.toList.map (·.1)).getD j default:=by
 rw [getElem!_pos D j hj,List.getD_eq_getElem?_getD,List.getElem?_map,List.getElem?_eq_getElem (by simpa using hj)]
 simp
theorem sortf_any (g o c a d gf:Nat) (L:List Rw) (w:World) (hne:L≠[]) (hS:Seg w g o L) (hok:∀r∈L,r.Ok w∧r.n=d∧Away g r) (ha:a<d) (hg:g<w.heap.size) (hf:w.cell? ⟨gf,0,none⟩=some (.int .i64 a)) (hfg:gf≠g) (hn:L.length≤1000000000):
  Calls Tryz.prog 118 #[.slice (some ⟨g,o,none⟩) L.length c,.func (.func 162) #[] #[.pointer (some ⟨gf,0,none⟩)]] w fun e w'=>e= .returned (.tuple #[])∧
   ∃M:List Rw,M.Perm L∧M.map Rw.R=sortP a (L.map Rw.R)∧Seg w' g o M∧Turned g o L.length w w':=by
 haveI:Inhabited (RwE w g d):=⟨⟨L.head hne,hok _ (List.head_mem hne)⟩⟩
 obtain ⟨D,hD⟩:∃D:Array (RwE w g d),D.toList.map (·.1)=L:=⟨(L.attach.map fun r=>(⟨r.1,hok r.1 r.2⟩:RwE w g d)).toArray,by rw [List.toList_toArray];exact attach_fst hok⟩
 have hsz:D.size=L.length:=by rw [← hD];simp
 have hH:Holds encR w g o D:=fun j hj=>by
  have h:=hS j (by omega)
  unfold encR
  rw [getD_fst D j hj,hD]
  exact h
 have h:=Any.slices_SortFunc (P:=Tryz.prog) sortLays encR encR_one (cfR a) swoR 162 #[.pointer (some ⟨gf,0,none⟩)] g o c D w (enters_of Tryz.func162 (by kernel_rfl) rfl) (cmp_laysR w g o D.size a d gf ha hf hfg) hH hg (by omega)
 rw [hsz] at h
 refine Calls.mono h ?_
 rintro e w' ⟨he,D',n,os,hp,hs,rfl⟩
 rw [← hsz] at hp hs
 have hpm:=(perm_gen hp).map (·.1)
 rw [hD] at hpm
 refine ⟨he,D'.toList.map (·.1),hpm,?_,fun j hj=>?_,by have:=sortWorld_turned (enc:=encR) (w:=w) (blk:=g) (off:=o) (n:=n) (d:=D') (os:=os);rw [hp.1,hsz] at this;exact this⟩
 ·refine sorted_one (d:=d) (fun y hy=>?_) (hpm.map Rw.R) ?_
  ·obtain ⟨r,hr,rfl⟩:=List.mem_map.1 hy
   rw [← (hok r hr).1.ints.size]
   exact (hok r hr).2.1
  ·unfold Sorted
   rw [List.pairwise_iff_getElem]
   intro i j hi hj hij
   simp only [List.length_map,Array.length_toList] at hi hj
   have h1:=hs i j (Nat.zero_le _) hij (by rw [← hp.1];exact hj)
   rw [ltR,getElem!_pos D' j hj,getElem!_pos D' i hi] at h1
   simpa using h1
 ·have hj':j<D'.size:=by simpa using hj
  have h1:=holds_sortWorld encR w g o n D D' os hg hH hp.1 j hj'
  unfold encR at h1
  rw [getD_fst D' j hj'] at h1
  exact h1
theorem ins_none (p:Option Addr) (c:Nat) (fv:Value) (w:World):Calls Tryz.prog 212 #[.slice p 0 c,.int .i64 0,.int .i64 0,fv] w fun e w'=>e= .returned (.tuple #[])∧w'=w:=by
 go_enter Tryz.func212,Tryz.ntmps212
 go_wp2_with fail
 refine wp_loop_rounds 1 ?_
 rw [rounds_succ]
 go_wp2_with fail
 go_end0
 exact ⟨rfl,rfl⟩
theorem pdq_none (p:Option Addr) (c:Nat) (l:Int) (fv:Value) (w:World):Calls Tryz.prog 161 #[.slice p 0 c,.int .i64 0,.int .i64 0,.int .i64 l,fv] w fun e w'=>e= .returned (.tuple #[])∧w'=w:=by
 have hi:=fun W=>ins_none p c fv W
 go_enter Tryz.func161,Tryz.ntmps161
 go_wp2_with fail
 refine wp_loop_rounds 1 ?_
 rw [rounds_succ]
 go_wp2_with (go_at_call 212;refine (hi _).mono ?_;rintro e w' ⟨rfl,rfl⟩)
 (try simp only [Exit.inBlock,Exit.then])
 refine bodyPost_ret (results_none rfl _ _ _) rfl ?_
 exact ⟨rfl,rfl⟩
theorem sort_none (p:Option Addr) (c:Nat) (fv:Value) (w:World):Calls Tryz.prog 118 #[.slice p 0 c,fv] w fun e w'=>e= .returned (.tuple #[])∧w'=w:=by
 have hp:=fun l W=>pdq_none p c l fv W
 have hl:∀W,Calls Tryz.prog 139 #[.int .u64 0] W fun e w'=>e= .returned (.int .i64 (Lib.bitLen 0:Nat))∧w'=W:=fun W=>
  Any.bits_Len (SlLaysF0.n15.bits (P:=Tryz.prog) (ρ:=sortRen) {sortLays with }) 0 W (by omega) (by omega)
 go_enter Tryz.func118,Tryz.ntmps118
 go_wp2_with (first | (go_at_call 139;refine (hl _).mono ?_;rintro e w' ⟨rfl,rfl⟩) | (go_at_call 161;refine (hp _ _).mono ?_;rintro e w' ⟨rfl,rfl⟩))
 go_end0
 exact ⟨rfl,rfl⟩
theorem Turned.after {g o n:Nat} {w w2 w':World} (hb:RowKit.Below w.heap.size w w2) (h:Turned g o n w2 w'):Turned g o n w w':=
 ⟨(Dk.Only.of_below _ hb).trans h.only,fun a ha hlt=>(h.cell a ha (Nat.lt_of_lt_of_le hlt hb.size)).trans (World.cell?_of_block (hb.block _ hlt)),fun a hlt=>(h.frozen a (Nat.lt_of_lt_of_le hlt hb.size)).trans (by unfold World.frozen?;rw [hb.block _ hlt])⟩
theorem Seg.later {w w':World} {g o:Nat} {L:List Rw} (h:Seg w g o L) (hb:RowKit.Below w.heap.size w w') (hg:g<w.heap.size):Seg w' g o L:=fun j hj=>
 ⟨(World.cell?_of_block (hb.block g hg)).trans (h j hj).1,(show w'.frozen? _=w.frozen? _ by unfold World.frozen?;rw [hb.block g hg]).trans (h j hj).2⟩
theorem STr:(Tryz.prog.info? 91).map (·.size)=some 2:=by kernel_rfl
theorem UTr0:(Tryz.prog.underlying 91).map (·.isRow)=some true:=by kernel_rfl
theorem UTr:∃d,Tryz.prog.underlying 91=some d∧d.isRow=true:=by
 have h:=UTr0
 revert h
 cases Tryz.prog.underlying 91 with
 | none=>intro h;cases h
 | some d=>intro h;exact ⟨d,rfl,by simpa using h⟩
theorem range_tr {w:World} {g:Nat} {x y:Value} {t:TypeId} (h:w.heap[g]? =some (.cells #[x,y] t (0,0))):w.rangeAt g 0 [x,y]:=fun j v hv=>by
 rw [Nat.zero_add,cell_of_row w g j _ _ _ h]
 simpa using hv
def OrdPost (w:World) (a:Nat) (e:Ending) (w':World):Prop:=∃gf,e= .returned (.func (.func 162) #[] #[.pointer (some ⟨gf,0,none⟩)])∧w.heap.size≤gf∧w'.cell? ⟨gf,0,none⟩=some (.int .i64 a)∧RowKit.Below w.heap.size w w'
theorem order_any (sp:Option Addr) (d t:Nat) (w:World) (hd:0<d) (ht:t≤1000000000):
  Calls Tryz.prog 119 #[.agg #[.pointer sp,.int .i64 d],.int .i64 t] w (OrdPost w (t%d)):=by
 have q1:(t:Int).tmod d=((t%d:Nat):Int):=by rw [Int.tmod_eq_emod_of_nonneg (by omega)];rfl
 have hne:¬(d:Int)=0:=by omega
 have hb1:RowKit.Below w.heap.size w (w.alloc (.cells #[.pointer sp,.int .i64 d] 91)):=(RowKit.Below.refl _ _).alloc (Nat.le_refl _) _
 have r1:=heap_alloc_new w (.cells #[.pointer sp,.int .i64 d] 91)
 have z1:w.heap.size<(w.alloc (.cells #[.pointer sp,.int .i64 d] 91)).heap.size:=by simp
 go_enter Tryz.func119,Tryz.ntmps119
 go_upto_region 1 with fail
 generalize w.alloc (.cells #[.pointer sp,.int .i64 d] 91)=w1 at *
 have c1:=cell_of_row w1 w.heap.size 1 _ _ _ r1
 go_wp2_with fail
 go_ret
 have hb2:RowKit.Below w1.heap.size w1 (w1.alloc (.cells #[.int .i64 ((t:Int)%d)] 3)):=(RowKit.Below.refl _ _).alloc (Nat.le_refl _) _
 exact ⟨w1.heap.size,rfl,hb1.size,cell_of_row _ w1.heap.size 0 _ _ _ (heap_alloc_new w1 _),hb1.trans (hb2.mono hb1.size)⟩
def TSortPost (w:World) (g o a:Nat) (L:List Rw) (e:Ending) (w':World):Prop:=e= .returned (.tuple #[])∧∃M:List Rw,M.Perm L∧M.map Rw.R=sortP a (L.map Rw.R)∧Seg w' g o M∧Turned g o L.length w w'
theorem tsort_any (sp:Option Addr) (d t g o c:Nat) (L:List Rw) (w:World) (hne:L≠[]) (hS:Seg w g o L) (hok:∀r∈L,r.Ok w∧r.n=d∧Away g r) (hd:0<d) (ht:t≤1000000000) (hg:g<w.heap.size) (hn:L.length≤1000000000):
  Calls Tryz.prog 73 #[.agg #[.pointer sp,.int .i64 d],.slice (some ⟨g,o,none⟩) L.length c,.int .i64 t] w (TSortPost w g o (t%d) L):=by
 have hb1:RowKit.Below w.heap.size w (w.alloc (.cells #[.pointer sp,.int .i64 d] 91)):=(RowKit.Below.refl _ _).alloc (Nat.le_refl _) _
 have r1:=heap_alloc_new w (.cells #[.pointer sp,.int .i64 d] 91)
 have HOR:=yH (fun w'=>order_any sp d t w' hd ht)
 have HSO:=yH (show ∀(gf:Nat) (w':World),RowKit.Below w.heap.size w w'→w'.cell? ⟨gf,0,none⟩=some (.int .i64 ((t%d:Nat):Int))→w.heap.size≤gf→Calls Tryz.prog 118 #[.slice (some ⟨g,o,none⟩) L.length c,.func (.func 162) #[] #[.pointer (some ⟨gf,0,none⟩)]] w' (TSortPost w g o (t%d) L) from fun gf w' hb hf hgf=>
  (sortf_any g o c (t%d) d gf L w' hne (hS.later hb hg) (fun r hr=>⟨(hok r hr).1.later hb,(hok r hr).2.1,(hok r hr).2.2⟩) (Nat.mod_lt _ hd) (Nat.lt_of_lt_of_le hg hb.size) hf (by omega) hn).mono fun e w'' ⟨he,M,h1,h2,h3,h4⟩=>⟨he,M,h1,h2,h3,h4.after hb⟩)
 generalize L.length=n at *
 clear hS hok
 obtain ⟨du,hdu,hdr⟩:=UTr
 have HDU:=yH hdu
 have HDR:=yH hdr
 clear hdu hdr
 go_enter Tryz.func73,Tryz.ntmps73
 go_upto_region 1 with fail
 generalize w.alloc (.cells #[.pointer sp,.int .i64 d] 91)=w1 at *
 have HB1:=yH hb1
 have R1:=yH (range_tr r1)
 clear hb1 r1
 go_wp2_with (first
  | (refine wpList_load_mid (by rfl) 91 _ (by rfl) w.heap.size 0 (by rfl) [.pointer sp,.int .i64 d] du R1.out HDU.out HDR.out STr ?_)
  | (go_at_call 119;refine (HOR.out _).mono ?_;rintro _ w2 ⟨gf,rfl,hgf,hcf,hb2⟩;have HC:=yH hcf;have HB2:=yH (HB1.out.trans (hb2.mono HB1.out.size));have HGF:=yH (Nat.le_trans HB1.out.size hgf);clear hgf hcf hb2)
  | (go_at_call 118;refine (HSO.out gf w2 HB2.out HC.out HGF.out).mono ?_;rintro _ w3 ⟨rfl,hM⟩;have HM:=yH hM;clear hM))
 go_end0
 exact ⟨rfl,HM.out⟩
theorem tsort_none (sp:Option Addr) (d t c:Nat) (p:Option Addr) (w:World) (hd:0<d) (ht:t≤1000000000):
  Calls Tryz.prog 73 #[.agg #[.pointer sp,.int .i64 d],.slice p 0 c,.int .i64 t] w fun e w'=>e= .returned (.tuple #[])∧RowKit.Below w.heap.size w w':=by
 have hb1:RowKit.Below w.heap.size w (w.alloc (.cells #[.pointer sp,.int .i64 d] 91)):=(RowKit.Below.refl _ _).alloc (Nat.le_refl _) _
 have r1:=heap_alloc_new w (.cells #[.pointer sp,.int .i64 d] 91)
 have HOR:=yH (fun w'=>order_any sp d t w' hd ht)
 have HSO:=yH (fun fv w'=>sort_none p c fv w')
 obtain ⟨du,hdu,hdr⟩:=UTr
 have HDU:=yH hdu
 have HDR:=yH hdr
 clear hdu hdr
 go_enter Tryz.func73,Tryz.ntmps73
 go_upto_region 1 with fail
 generalize w.alloc (.cells #[.pointer sp,.int .i64 d] 91)=w1 at *
 have HB1:=yH hb1
 have R1:=yH (range_tr r1)
 clear hb1 r1
 go_wp2_with (first
  | (refine wpList_load_mid (by rfl) 91 _ (by rfl) w.heap.size 0 (by rfl) [.pointer sp,.int .i64 d] du R1.out HDU.out HDR.out STr ?_)
  | (go_at_call 119;refine (HOR.out _).mono ?_;rintro _ w2 ⟨gf,rfl,hgf,hcf,hb2⟩;have HB2:=yH (HB1.out.trans (hb2.mono HB1.out.size));clear hgf hcf hb2)
  | (go_at_call 118;refine (HSO.out _ _).mono ?_;rintro _ w3 ⟨rfl,rfl⟩))
 go_end0
 exact ⟨rfl,HB2.out⟩
end Go.Proofs.YtinihaflmdihaaaGreat.Kt
namespace Go.Proofs.YtinihaflmdihaaaGreat.Kt
open Go.RowKit Go.Proofs.YtinihaflmdihaaaGreat.Nd
def AskR (w:World) (L:List Rw) (f:Rw→Bool) (F:Nat) (cap:Array Value):Prop:=∀r∈L,∀w',Below w.heap.size w w'→Calls Tryz.prog F (#[r.val]++cap) w' fun e w''=>e= .returned (.bool (f r))∧Below w'.heap.size w' w''
def IxRel (w:World) (L:List Rw) (f:Rw→Bool) (n:Nat) (i:Value) (wr:World):Prop:=∃k:Nat,k≤n∧i= .int .i64 k∧(∀j,j<k→f (L.getD j default)=false)∧Below w.heap.size w wr
def IxPost (w:World) (L:List Rw) (f:Rw→Bool) (e:Ending) (w':World):Prop:=∃i:Int,e= .returned (.int .i64 i)∧((0≤i∧∃r∈L,f r=true)∨(i= -1∧∀r∈L,f r=false))∧Below w.heap.size w w'
theorem index_any (p:Option Addr) (n c:Nat) (L:List Rw) (f:Rw→Bool) (F:Nat) (cap:Array Value) (hF:∀args w,(callFunc F args).run Tryz.prog w= .ok (.enter F args) w) (w:World) (hL:RowsIn w p n c L) (hn:n≤1000000000) (hs:AskR w L f F cap):
  Calls Tryz.prog 111 #[.slice p n c,.func (.func F) #[] cap] w (IxPost w L f):=by
 have HS:=yH hs
 have HL:=yH hL
 have HN:=yH hL.size
 clear hs hL
 go_enter Tryz.func111,Tryz.ntmps111
 go_wp2_with fail
 go_loopw [5,8] (fun _ i wr=>IxRel w L f n i wr) (fun _ i _=>n - (intOf i).toNat)
 case atStart=>exact ⟨0,by omega,rfl,(fun j hj=>by omega),Below.refl _ _⟩
 case round=>
  obtain ⟨k,hk,rfl,hal,hb⟩:=hrel
  have HA:=yH hal
  have HB:=yH hb
  clear hal hb
  by_cases hlt:k<n
  ·obtain ⟨g,o,rfl,c1,hok⟩:=(HL.out.later HB.out).cell k hlt
   have i1:(0:Int)≤k∧(k:Int)<n:=by omega
   have hlen:k<L.length:=by rw [← HN.out];exact hlt
   have hmem:L.getD k default∈L:=by
    rw [List.getD_eq_getElem?_getD,List.getElem?_eq_getElem hlen]
    exact List.getElem_mem hlen
   have hc:=HS.out _ hmem wr HB.out
   have HX:=yH (show f (L.getD k default)=false→∀j,j<k+1→f (L.getD j default)=false from fun h j hj=>by
    rcases Nat.lt_or_ge j k with h1 | h1
    ·exact HA.out j h1
    ·obtain rfl:j=k:=by omega
     exact h)
   have HM:=yH hmem
   clear hok hmem hlen
   generalize L.getD k default=r at *
   simp only [Rw.val] at c1
   unfold Rw.val at hc
   cases hfk:f r with
   | true=>
    rw [hfk] at hc
    have HC:=yH hc
    have HR:=yH (show ∃r∈L,f r=true from ⟨r,HM.out,hfk⟩)
    clear hc hfk HX
    go_wp2_with (refine HC.out.mono ?_;rintro e w'' ⟨rfl,b2⟩;have HB2:=yH (HB.out.trans (b2.mono HB.out.size));clear b2)
    go_ret
    exact ⟨k,rfl,Or.inl ⟨by omega,HR.out⟩,HB2.out⟩
   | false=>
    rw [hfk] at hc
    have HC:=yH hc
    have HX2:=yH (HX.out hfk)
    clear hc hfk HX
    go_wp2_with (refine HC.out.mono ?_;rintro e w'' ⟨rfl,b2⟩;have HB2:=yH (HB.out.trans (b2.mono HB.out.size));clear b2)
    go_roundw
    case rel=>exact ⟨k+1,by omega,by go_num,HX2.out,HB2.out⟩
    case measure=>simp [intOf];omega
  ·obtain rfl:n=k:=by omega
   have HW:=yH (show ∀r∈L,f r=false from fun r hr=>by
    obtain ⟨j,hj,rfl⟩:=List.getElem_of_mem hr
    have:=HA.out j (by rw [HN.out];exact hj)
    rwa [List.getD_eq_getElem?_getD,List.getElem?_eq_getElem hj] at this)
   go_wp2_with fail
   go_ret
   exact ⟨-1,rfl,Or.inr ⟨rfl,HW.out⟩,HB.out⟩
theorem contains_any (p:Option Addr) (n c:Nat) (L:List Rw) (f:Rw→Bool) (F:Nat) (cap:Array Value) (hF:∀args w,(callFunc F args).run Tryz.prog w= .ok (.enter F args) w) (w:World) (hL:RowsIn w p n c L) (hn:n≤1000000000) (hs:AskR w L f F cap):
  Calls Tryz.prog 117 #[.slice p n c,.func (.func F) #[] cap] w fun e w'=>e= .returned (.bool (L.any f))∧Below w.heap.size w w':=by
 have HI:=yH (index_any p n c L f F cap hF w hL hn hs)
 clear hL hs hF
 obtain ⟨b,hb⟩:∃b,L.any f=b:=⟨_,rfl⟩
 rw [hb]
 have HBB:=yH hb
 clear hb
 cases b with
 | true=>
  have HT:=yH (show ∀i:Int,((0≤i∧∃r∈L,f r=true)∨(i= -1∧∀r∈L,f r=false))→0≤i from fun i h=>by
   rcases h with h | h
   ·exact h.1
   ·obtain ⟨r,hr,hf⟩:=List.any_eq_true.1 HBB.out
    rw [h.2 r hr] at hf
    cases hf)
  go_enter Tryz.func117,Tryz.ntmps117
  go_wp2_with (go_at_call 111;refine HI.out.mono ?_;rintro _ w2 ⟨i,rfl,hi,b2⟩;have hx:=HT.out i hi;have HB2:=yH b2;clear hi b2)
  go_ret
  exact ⟨(by first | rfl | exact ret_b (decide_eq_true hx)),HB2.out⟩
 | false=>
  have HT:=yH (show ∀i:Int,((0≤i∧∃r∈L,f r=true)∨(i= -1∧∀r∈L,f r=false))→¬0≤i from fun i h=>by
   rcases h with h | h
   ·obtain ⟨r,hr,hf⟩:=h.2
    have:=List.any_eq_true.2 ⟨r,hr,hf⟩
    rw [HBB.out] at this
    cases this
   ·omega)
  go_enter Tryz.func117,Tryz.ntmps117
  go_wp2_with (go_at_call 111;refine HI.out.mono ?_;rintro _ w2 ⟨i,rfl,hi,b2⟩;have hx:=HT.out i hi;have HB2:=yH b2;clear hi b2)
  go_ret
  exact ⟨(by first | rfl | exact ret_b (decide_eq_false (by omega))),HB2.out⟩
theorem takes1_any (r:Rw) (gb:Nat) (d:Int) (w:World) (hb:w.cell? ⟨gb,1,none⟩=some (.int .i64 d)):
  Calls Tryz.prog 116 #[r.val,.pointer (some ⟨gb,0,none⟩)] w fun e w'=>e= .returned (.bool (decide ((r.n:Int)≠d)))∧w'=w:=by
 obtain ⟨p,n,c,R⟩:=r
 unfold Rw.val
 simp only
 have HX:=yH (show ((n:Int) !=d)=decide ((n:Int)≠d) from by rw [Bool.eq_iff_iff];simp)
 go_enter Tryz.func116,Tryz.ntmps116
 go_wp2_with fail
 go_ret
 exact ⟨ret_b HX.out,rfl⟩
def takesB (d:Int) (L:List Rw):Bool:=decide (1≤d∧d≤8)&& !(L.any fun r=>decide ((r.n:Int)≠d))
theorem takes_any (sp:Option Addr) (d:Int) (p:Option Addr) (n c:Nat) (L:List Rw) (w:World) (hL:RowsIn w p n c L) (hn:n≤1000000000):
  Calls Tryz.prog 72 #[.agg #[.pointer sp,.int .i64 d],.slice p n c] w fun e w'=>e= .returned (.bool (takesB d L))∧Below w.heap.size w w':=by
 have hb1:Below w.heap.size w (w.alloc (.cells #[.pointer sp,.int .i64 d] 91)):=(Below.refl _ _).alloc (Nat.le_refl _) _
 have r1:=heap_alloc_new w (.cells #[.pointer sp,.int .i64 d] 91)
 have HC:=yH (contains_any p n c L (fun r=>decide ((r.n:Int)≠d)) 116 #[.pointer (some ⟨w.heap.size,0,none⟩)] (fun args w=>by as_aux_lemma=>kernel_rfl) (w.alloc (.cells #[.pointer sp,.int .i64 d] 91)) (hL.later hb1) hn (fun r _ w' hb=>(takes1_any r w.heap.size d w' ((hb.cell (block_lt_of_cell (cell_of_row _ _ 1 _ _ _ r1))).trans (cell_of_row _ _ 1 _ _ _ r1))).mono fun e w'' ⟨he,hw⟩=>⟨he,by rw [hw];exact Below.refl _ _⟩))
 have HT:=yH (show takesB d L=(decide (1≤d∧d≤8)&& !(L.any fun r=>decide ((r.n:Int)≠d))) from rfl)
 generalize takesB d L=T at *
 generalize (L.any fun r=>decide ((r.n:Int)≠d))=b at *
 have HB1:=yH hb1
 clear hL hb1
 by_cases h1:1≤d
 ·by_cases h8:d≤8
  ·have HT2:=yH (show T= !b from by rw [HT.out,decide_eq_true ⟨h1,h8⟩];rfl)
   clear HT
   go_enter Tryz.func72,Tryz.ntmps72
   go_upto_region 1 with fail
   generalize w.alloc (.cells #[.pointer sp,.int .i64 d] 91)=w1 at *
   have c1:=cell_of_row w1 w.heap.size 1 _ _ _ r1
   go_wp2_with (go_at_call 117;refine HC.out.mono ?_;rintro _ w2 ⟨rfl,b2⟩;have HB2:=yH (HB1.out.trans (b2.mono HB1.out.size));clear b2)
   go_ret
   exact ⟨ret_b HT2.out.symm,HB2.out⟩
  ·have HT2:=yH (show T=false from by rw [HT.out,decide_eq_false (fun h=>h8 h.2)];rfl)
   clear HT HC
   go_enter Tryz.func72,Tryz.ntmps72
   go_upto_region 1 with fail
   generalize w.alloc (.cells #[.pointer sp,.int .i64 d] 91)=w1 at *
   have c1:=cell_of_row w1 w.heap.size 1 _ _ _ r1
   go_wp2_with fail
   go_ret
   exact ⟨ret_b HT2.out.symm,HB1.out⟩
 ·have HT2:=yH (show T=false from by rw [HT.out,decide_eq_false (fun h=>h1 h.1)];rfl)
  clear HT HC
  go_enter Tryz.func72,Tryz.ntmps72
  go_upto_region 1 with fail
  generalize w.alloc (.cells #[.pointer sp,.int .i64 d] 91)=w1 at *
  have c1:=cell_of_row w1 w.heap.size 1 _ _ _ r1
  go_wp2_with fail
  go_ret
  exact ⟨ret_b HT2.out.symm,HB1.out⟩
theorem wpList_ent_oneK {w:World} {ops:Array Oper} {rest:List Oper} {o:Oper} {a:Act} {Q:Exit→Act→World→Prop} (hg:o.guard=none) (x:Operand) (ho:o.op= .buildSlice 78 1 #[(0,x)]) {q:Option Addr} {m c:Nat} {b:Bool} (hx:a.eval x= .agg #[.slice q m c,.bool b])
  (h:wpList Tryz.prog ops Q rest (a.put o.dst (.slice (some ⟨w.heap.size,0,none⟩) 1 1)) (w.alloc (.cells #[.slice q m c,.bool b] 85))):wpList Tryz.prog ops Q (o::rest) a w:=
 wpList_plain hg fun _ hK=>wp_ent_one x ho hx (hK _ _ h)
theorem UEnt0:(Tryz.prog.underlying 85).map (·.isRow)=some true:=by kernel_rfl
theorem UEnt:∃d,Tryz.prog.underlying 85=some d∧d.isRow=true:=by
 have h:=UEnt0
 revert h
 cases Tryz.prog.underlying 85 with
 | none=>intro h;cases h
 | some d=>intro h;exact ⟨d,rfl,by simpa using h⟩
theorem SEnt:(Tryz.prog.info? 85).map (·.size)=some 2:=by kernel_rfl
theorem four_alloc (w:World) (A B C D:Obj):∃W,(((w.alloc A).alloc B).alloc C).alloc D=W∧W.heap[w.heap.size]? =some A∧W.heap[w.heap.size+1]? =some B∧W.heap[w.heap.size+2]? =some C∧W.heap[w.heap.size+3]? =some D∧Below w.heap.size w W:=by
 have hA:=heap_alloc_new w A
 have hB:=heap_alloc_new (w.alloc A) B
 have hC:=heap_alloc_new ((w.alloc A).alloc B) C
 have hD:=heap_alloc_new (((w.alloc A).alloc B).alloc C) D
 have sA:(w.alloc A).heap.size=w.heap.size+1:=by simp
 have sB:((w.alloc A).alloc B).heap.size=w.heap.size+2:=by simp
 have sC:(((w.alloc A).alloc B).alloc C).heap.size=w.heap.size+3:=by simp
 have b1:Below w.heap.size w (w.alloc A):=(Below.refl _ _).alloc (Nat.le_refl _) _
 have b2:Below (w.alloc A).heap.size (w.alloc A) ((w.alloc A).alloc B):=(Below.refl _ _).alloc (Nat.le_refl _) _
 have b3:Below ((w.alloc A).alloc B).heap.size ((w.alloc A).alloc B) (((w.alloc A).alloc B).alloc C):=(Below.refl _ _).alloc (Nat.le_refl _) _
 have b4:Below (((w.alloc A).alloc B).alloc C).heap.size (((w.alloc A).alloc B).alloc C) ((((w.alloc A).alloc B).alloc C).alloc D):=(Below.refl _ _).alloc (Nat.le_refl _) _
 have b34:=b3.trans (b4.mono b3.size)
 have b234:=b2.trans (b34.mono b2.size)
 rw [sA] at hB
 rw [sB] at hC
 rw [sC] at hD
 refine ⟨_,rfl,?_,?_,?_,hD,b1.trans (b234.mono b1.size)⟩
 ·exact (b234.block _ (by rw [sA];omega)).trans hA
 ·exact (b34.block _ (by rw [sB];omega)).trans hB
 ·exact (b4.block _ (by rw [sC];omega)).trans hC
def ForkPost (w:World) (r:Rw) (v:Bool) (a b:Kd) (e:Ending) (w':World):Prop:=∃ge gk:Nat,e= .returned (.agg #[.int .u8 1,.slice (some ⟨ge,0,none⟩) 1 1,.slice (some ⟨gk,0,none⟩) 2 2])∧EntsIn w' (some ⟨ge,0,none⟩) 1 1 [⟨r,v⟩]∧KidsIn w' (some ⟨gk,0,none⟩) 2 2 [a,b]∧Below w.heap.size w w'∧w'.heap[ge]? =some (.cells #[r.val,.bool v] 85 (0,0))∧w'.heap[gk]? =some (.cells (a.cells++b.cells).toArray 34 (0,0))∧w.heap.size≤ge∧ge<gk
theorem fork_any (r:Rw) (v:Bool) (a b:Kd) (w:World) (hr:r.Ok w) (ha:a.Ok w) (hb:b.Ok w):
  Calls Tryz.prog 110 #[.agg #[r.val,.bool v],.agg a.cells.toArray,.agg b.cells.toArray] w (ForkPost w r v a b):=by
 have HR:=yH hr
 have HA:=yH ha
 have HB:=yH hb
 clear hr ha hb
 obtain ⟨rp,rn,rc,rR⟩:=r
 unfold Rw.val
 simp only
 obtain ⟨de,hde,hdre⟩:=UEnt
 obtain ⟨dk,hdk,hdrk⟩:=UKd
 obtain ⟨dn,hdn,hdrn⟩:=UNode
 have HDE:=yH hde
 have HDRE:=yH hdre
 have HDK:=yH hdk
 have HDRK:=yH hdrk
 have HDN:=yH hdn
 have HDRN:=yH hdrn
 have HCA:=yH (Kd.cells_length HA.out.len)
 have HCB:=yH (Kd.cells_length HB.out.len)
 clear hde hdre hdk hdrk hdn hdrn
 obtain ⟨W,hW,r0,r1,r2,r3,b1⟩:=four_alloc w (.cells #[.slice rp rn rc,.bool v] 85) (.cells a.cells.toArray 34) (.cells b.cells.toArray 34) (.cells #[.int .u8 0,.slice none 0 0,.slice none 0 0] 81)
 have s1:w.heap.size+4≤W.heap.size:=(yL r3)
 go_enter Tryz.func110,Tryz.ntmps110
 go_upto_region 1 with fail
 clear hW
 have R0:=yH (range_tr r0)
 have R1:=yH (range_kd r1)
 have R2:=yH (range_kd r2)
 obtain ⟨W2,hW2⟩:∃W2,W.alloc (.cells #[.slice rp rn rc,.bool v] 85)=W2:=⟨_,rfl⟩
 have be:Below W.heap.size W W2:=by rw [← hW2];exact (Below.refl _ _).alloc (Nat.le_refl _) _
 have ne:=heap_alloc_new W (.cells #[.slice rp rn rc,.bool v] 85)
 rw [hW2] at ne
 obtain ⟨W3,hW3⟩:∃W3,W2.alloc (.cells (a.cells++b.cells).toArray 34)=W3:=⟨_,rfl⟩
 have bk:Below W2.heap.size W2 W3:=by rw [← hW3];exact (Below.refl _ _).alloc (Nat.le_refl _) _
 have nk:=heap_alloc_new W2 (.cells (a.cells++b.cells).toArray 34)
 rw [hW3] at nk
 have be3:=(bk.block _ (yL ne)).trans ne
 have b3:=b1.trans ((be.trans (bk.mono be.size)).mono b1.size)
 have z2:=(be.trans (bk.mono be.size)).block _ (yL r3)
 have R3:=yH (z2.trans r3)
 have R1b:=yH (range_kd ((be.block _ (yL r1)).trans r1))
 have R2b:=yH (range_kd ((be.block _ (yL r2)).trans r2))
 have BE3:=yH be3
 have NK:=yH nk
 have B3:=yH b3
 have SZ:=yH (show w.heap.size+4≤W2.heap.size from Nat.le_trans s1 be.size)
 have LT2:=yH (show W.heap.size<W2.heap.size from (yL ne))
 clear r0 r1 r2 r3 b1 be ne bk nk be3 b3 z2
 go_wp2_with (first
  | (refine wpList_load_mid (by rfl) 85 (.tmp 3) (by rfl) w.heap.size 0 (by rfl) [.slice rp rn rc,.bool v] de R0.out HDE.out HDRE.out SEnt ?_)
  | (refine wpList_ent_oneK (by rfl) (.tmp 7) (by rfl) (q:=rp) (m:=rn) (c:=rc) (b:=v) (by rfl) ?_;rw [hW2])
  | (refine wpList_load_mid (by rfl) 34 (.tmp 4) (by rfl) (w.heap.size+1) 0 (by rfl) a.cells dk R1b.out HDK.out HDRK.out (by rw [HCA.out];exact SKd) ?_)
  | (refine wpList_load_mid (by rfl) 34 (.tmp 5) (by rfl) (w.heap.size+2) 0 (by rfl) b.cells dk R2b.out HDK.out HDRK.out (by rw [HCB.out];exact SKd) ?_)
  | (refine wpList_kid_twoG (by rfl) (.tmp 9) (.tmp 10) (by rfl) (k:=a) (l:=b) HA.out.len HB.out.len (by rfl) (by rfl) ?_;rw [hW3])
  | (refine wpList_build (cells:= #[.int .u8 1,.slice (some ⟨W.heap.size,0,none⟩) 1 1,.slice (some ⟨W2.heap.size,0,none⟩) 2 2]) (by rfl) (by rfl) (by simp only [List.map_toArray,List.map_cons,List.map_nil];exact nd_built _ _ _ _ _ _) ?_)
  | (refine wpList_store_row (by rfl) 81 (.tmp 6) (.tmp 12) (by rfl) (w.heap.size+3) #[.int .u8 1,.slice (some ⟨W.heap.size,0,none⟩) 1 1,.slice (some ⟨W2.heap.size,0,none⟩) 2 2] (by rfl) (by rfl) _ _ R3.out SNode rfl (nd_one _ _ _ _ _ _) ?_))
 refine ret_str 6 (by kernel_rfl) (w.heap.size+3) _ #[.int .u8 1,.slice (some ⟨W.heap.size,0,none⟩) 1 1,.slice (some ⟨W2.heap.size,0,none⟩) 2 2] HDN.out HDRN.out SNode (by rfl) (setRow_heap _ _ _ _ _ _ R3.out) ?_
 have key:∀r:Rw,r.Ok w→r.Ok (W3.setRow (w.heap.size+3) #[.int .u8 1,.slice (some ⟨W.heap.size,0,none⟩) 1 1,.slice (some ⟨W2.heap.size,0,none⟩) 2 2]):=fun r hr=>Nd.rw_keep (hr.later B3.out) fun y hy hR=>setRow_other _ _ _ _ (away_ok hr (by omega) y hy hR)
 have keyd:∀kd:Kd,kd.Ok w→kd.Ok (W3.setRow (w.heap.size+3) #[.int .u8 1,.slice (some ⟨W.heap.size,0,none⟩) 1 1,.slice (some ⟨W2.heap.size,0,none⟩) 2 2]):=fun kd h=>⟨h.len,h.ok,key _ h.lo,key _ h.hi,key _ h.key,h.live,h.size⟩
 have he:=(setRow_other W3 (w.heap.size+3) W.heap.size #[.int .u8 1,.slice (some ⟨W.heap.size,0,none⟩) 1 1,.slice (some ⟨W2.heap.size,0,none⟩) 2 2] (by omega)).trans BE3.out
 have hk:=(setRow_other W3 (w.heap.size+3) W2.heap.size #[.int .u8 1,.slice (some ⟨W.heap.size,0,none⟩) 1 1,.slice (some ⟨W2.heap.size,0,none⟩) 2 2] (by have:=SZ.out;omega)).trans NK.out
 exact ⟨W.heap.size,W2.heap.size,rfl,ents_one he (key _ HR.out),kids_two hk (keyd _ HA.out) (keyd _ HB.out),B3.out.trans (Below.setRow (Below.refl _ _) (by omega) _),he,hk,by omega,by have:=LT2.out;omega⟩
end Go.Proofs.YtinihaflmdihaaaGreat.Kt
