/- KrSort, KtApp, KrAll, KrLay, GenOwn, BoxClone, GenDg, PgOp, CodMath, MorMath, MorBits, MorInts, GenTx. -/
import Derived.BigRegion
import Derived.Laws.AppendOwnNone
import Derived.Laws.OwnMore
import Derived.Lib.SliceRun
import Derived.Deep.MidRow
import Derived.Deep.RegionHeld3
import Derived.IntWalk
import Derived.Test.YtinihaflmdihaaaGreatL1
set_option maxRecDepth 100000
set_option maxHeartbeats 8000000
set_option linter.all false
namespace Go.Proofs.YtinihaflmdihaaaGreat.Kt
open Go.RowKit
open List renaming setIfInBounds_toArray → yA, set_cons_zero → yB, set_cons_succ → yC
theorem IRs:(Tryz.prog.info? 24).map (fun i=>(i.zero,i.size,i.bytes))=some (some (.slice none 0 0),1,24):=by kernel_rfl
theorem URSs:Tryz.prog.underlying 51=some (.slice 24):=by kernel_rfl
theorem y0B (a:Nat) (x:List Int):∀(out:List (List Int)) (j:Nat),j≤out.length→(∀t,t<j→lessP a (out.getD t []) x=true)→(j=out.length∨lessP a (out.getD j []) x=false)→insP a out x=out.take j++[x]++out.drop j
 |[],j,hj,_,_=>by
  obtain rfl:j=0:=by simpa using hj
  rfl
 | y::out,0,_,_,h=>by
  have h:lessP a y x=false:=by
   rcases h with h | h
   ·simp at h
   ·exact h
  unfold insP
  rw [List.takeWhile_cons_of_neg (by simp [h]),List.dropWhile_cons_of_neg (by simp [h])]
  rfl
 | y::out,j+1,hj,h1,h2=>by
  have B:lessP a y x=true:=h1 0 (by omega)
  have A:=y0B a x out j (by simpa using hj) (fun t ht=>h1 (t+1) (by omega)) (h2.imp (by simp) id)
  unfold insP at A ⊢
  rw [List.takeWhile_cons_of_pos (p:=fun y=>lessP a y x) B,List.dropWhile_cons_of_pos (p:=fun y=>lessP a y x) B,List.cons_append,A]
  rfl
theorem x9C (a:Nat) (L:List (List Int)) (x:List Int):sortP a (L++[x])=insP a (sortP a L) x:=by
 unfold sortP
 rw [List.foldl_append]
 rfl
theorem x4A (w:World) (p:Option Addr) (n c:Nat) (R:List Int):∀j u,(hds [⟨p,n,c,R⟩])[j]? =some u→(w.alloc (.cells #[.slice p n c] 24)).cell? ((⟨w.heap.size,0,none⟩:Addr).add j)=some u:=fun j u hu=>by
 have hj:j=0:=by have:=(List.getElem?_eq_some_iff.1 hu).1;simp [hds] at this;omega
 subst hj
 simp [hds,Rw.val] at hu
 rw [Addr.add_mid,← hu]
 exact cell_of_row _ _ 0 _ _ (0,0) (heap_alloc_new w _)
theorem y0C {w:World} {g o n c:Nat} {L:List Rw} (h:RowsIn w (some ⟨g,o,none⟩) n c L) (j:Nat):∀i u,(hds (L.drop j))[i]? =some u→w.cell? ((⟨g,o+j,none⟩:Addr).add i)=some u:=fun i u hu=>by
 have hi:i<(L.drop j).length:=by have:=(List.getElem?_eq_some_iff.1 hu).1;rw [x1Z] at this;exact this
 rw [List.length_drop] at hi
 rcases h.at' with C | ⟨H,G,B,E⟩
 ·rw [C] at hi
  simp at hi
 ·simp only [Option.some.injEq,Addr.mk.injEq,and_true] at B
  obtain ⟨rfl,rfl⟩:=B
  have:=E (j+i) (by omega)
  rw [Addr.add_mid,Nat.add_assoc,this]
  have A:j+i<L.length:=by omega
  simp [hds,List.getElem?_drop,A,-List.getD_eq_getElem?_getD] at hu
  rw [← hu,List.getD_eq_getElem?_getD,List.getElem?_eq_getElem A]
  rfl
def y28 (w:World) (a n:Nat) (LR:List Rw) (e:Ending) (w':World):Prop:=∃(O:List Rw) (v:Value),e= .returned v∧Own w.heap.size w' v n O∧O.map Rw.R=sortP a (LR.map Rw.R)∧(∀r∈O,r∈LR)∧Below w.heap.size w w'
def So1 (w:World) (a n:Nat) (LR:List Rw) (v i:Value) (wr:World):Prop:=∃(k:Nat) (O:List Rw),k≤n∧i= .int .i64 k∧Own w.heap.size wr v k O∧O.map Rw.R=sortP a ((LR.take k).map Rw.R)∧(∀r∈O,r∈LR)∧(k=0→v= .slice none 0 0)∧Below w.heap.size w wr
def So2 (a:Nat) (x:List Int) (w2:World) (O:List Rw) (v kv:Value) (wr:World):Prop:=∃j:Nat,j≤O.length∧kv= .int .i64 j∧wr.ownsRow w2.heap.size 24 1 v j (hds (O.take j))∧(∀t,t<j→lessP a (O.getD t default).R x=true)∧Below w2.heap.size w2 wr
theorem x4P {w w2 w':World} {a n k j y:Nat} {LR O:List Rw} {v:Value} (hL:∀r∈LR,r.Ok w) (hOL:∀r∈O,r∈LR) (hk:k<n) (hn:n=LR.length) (hlen:k=O.length) (hj:j≤O.length)
  (hi:(O.take j++[LR.getD k default]++O.drop j).map Rw.R=sortP a ((LR.take (k+1)).map Rw.R)) (ho:w'.ownsRow w2.heap.size 24 1 v y (hds (O.take j++[LR.getD k default]++O.drop j))) (hb1:Below w.heap.size w w2) (hb:Below w2.heap.size w2 w'):So1 w a n LR v (.int .i64 ((k:Int)+1)) w':=by
 have B:=hb1.trans (hb.mono hb1.size)
 have E:y=k+1:=by
  have:=ho.1
  rw [x1Z,Nat.mul_one,List.length_append,List.length_append,List.length_take,List.length_drop] at this
  simp at this
  omega
 subst E
 have C:∀r∈O.take j++[LR.getD k default]++O.drop j,r∈LR:=fun r A=>by
  rcases List.mem_append.1 A with A | A
  ·rcases List.mem_append.1 A with A | A
   ·exact hOL r (List.mem_of_mem_take A)
   ·rw [List.mem_singleton.1 A]
    exact x2C (by omega)
  ·exact hOL r (List.mem_of_mem_drop A)
 exact ⟨k+1,_,by omega,by go_num,(Own.base ⟨ho,fun r A=>(hL r (C r A)).later B⟩ hb1.size),hi,C,fun h=>by omega,B⟩
theorem y3e {a k j:Nat} {LR O:List Rw} (hk:k<LR.length) (hO:O.map Rw.R=sortP a ((LR.take k).map Rw.R)) (hj:j≤O.length) (h1:∀t,t<j→lessP a (O.getD t default).R (LR.getD k default).R=true) (h2:j=O.length∨lessP a (O.getD j default).R (LR.getD k default).R=false):
  (O.take j++[LR.getD k default]++O.drop j).map Rw.R=sortP a ((LR.take (k+1)).map Rw.R):=by
 have e:(LR.take (k+1)).map Rw.R=(LR.take k).map Rw.R++[(LR.getD k default).R]:=by
  rw [List.take_succ_eq_append_getElem hk,List.map_append,List.getD_eq_getElem?_getD,List.getElem?_eq_getElem hk]
  rfl
 have A:(O.map Rw.R).length=O.length:=by rw [List.length_map]
 rw [e,x9C,← hO,y0B a _ (O.map Rw.R) j (by rw [A];exact hj) (fun t ht=>by rw [x5Z (by omega)];exact h1 t ht) ?_]
 ·simp only [List.map_append,List.map_take,List.map_drop,List.map_cons,List.map_nil]
 ·rcases h2 with h2 | h2
  ·exact Or.inl (by rw [A];exact h2)
  ·rcases Nat.lt_or_ge j O.length with B | B
   ·exact Or.inr (by rw [x5Z B];exact h2)
   ·exact Or.inl (by rw [A];omega)
theorem y0D (p:Option Addr) (n c:Nat) (LR:List Rw) (a d:Nat) (w:World) (hL:RowsIn w p n c LR) (hd:∀r∈LR,r.n=d) (ha:a<d) (hn:n≤1000):
  Calls Tryz.prog 26 #[.slice p n c,.int .i64 a] w (y28 w a n LR):=by
 obtain ⟨P,W,Af,Ag,AY⟩:=info_parts IRs
 have HI:=yH W
 have X:=yH Af
 have b:=yH Ag
 have f:=yH AY
 have L1:=yH hL
 have HD:=yH hd
 have HA:=yH ha
 have HNL:=yH hL.size
 clear W Af Ag AY hL hd ha
 go_enter Tryz.func26,Tryz.ntmps26
 go_wp2_with fail
 go_loopw [5,6] (fun v i wr=>So1 w a n LR v i wr) (fun _ i _=>n - (intOf i).toNat)
 case atStart=>exact ⟨0,[],by omega,rfl,y3x _ _,rfl,(fun r hr=>by cases hr),fun _=>rfl,Below.refl _ _⟩
 case round=>
  obtain ⟨k,O,hk,rfl,z,AX,AV,hz,hb⟩:=hrel
  obtain ⟨q2,c2,rfl,o⟩:=z.rows
  have HLEN:=yH z.len
  have Aa:=yH z
  have AL:=yH o
  have AO:=yH AX
  have HOL:=yH AV
  have HZ:=yH hz
  have HBW:=yH hb
  have As:=o.le
  clear z AX AV hz hb o
  obtain ⟨A,Al⟩:∃A,A=wr:=⟨_,rfl⟩
  subst Al
  by_cases hlt:k<n
  ·obtain ⟨gL,oL,rfl,A5,A4⟩:=(L1.out.later HBW.out).cell k hlt
   have Ac:LR.getD k default∈LR:=x2C (by have:=HNL.out;omega)
   have AH:=yH (HD.out _ Ac)
   obtain ⟨t,ht⟩:∃t,t=LR.getD k default:=⟨_,rfl⟩
   rw [← ht] at A5 A4 AH
   have s:=yH ht
   obtain ⟨U,Q,R,l⟩:=t
   unfold Rw.val at A5
   simp only at A5 AH
   have I:=yH A5
   have Ad:=yH A4
   have i1:(0:Int)≤k∧(k:Int)<n:=by omega
   clear A5 A4 Ac ht
   go_wp2_with fail
   go_loopw [7,8] (fun v j wr=>So2 a l A O v j wr) (fun _ j _=>k - (intOf j).toNat)
   case atStart=>exact ⟨0,by omega,rfl,⟨rfl,Or.inl ⟨rfl,rfl⟩⟩,(fun t ht=>by omega),Below.refl _ _⟩
   case round=>
    obtain ⟨j,hj,rfl,AW,AD,Ae⟩:=hrel
    have HJ:=yH hj
    have M:=yH AW
    have A1:=yH AD
    have B:=yH Ae
    have Av:j≤k:=by rw [HLEN.out];exact hj
    clear AW AD Ae hj
    by_cases hjl:j<k
    ·obtain ⟨gO,oO,rfl,Y,A7⟩:=AL.out.cell j hjl
     have AC:O.getD j default∈O:=x2C (by have:=HLEN.out;omega)
     have AB:=yH (HD.out _ (HOL.out _ AC))
     obtain ⟨u,hu⟩:∃u,u=O.getD j default:=⟨_,rfl⟩
     rw [← hu] at Y A7 AB
     have AK:=yH hu
     obtain ⟨up,un,uc,uR⟩:=u
     unfold Rw.val at Y
     simp only at Y AB
     have A0:=yH Y
     have AE:=yH A7
     have H:=yH (show ∀w',Below A.heap.size A w'→Calls Tryz.prog 61 #[.slice up un uc,.slice U Q R,.int .i64 a] w' fun e w''=>e= .returned (.bool (lessP a uR l))∧∃x,w''=w'.drewN x from fun w' hb=>y0A up U un uc Q R uR l a w' (AE.out.ints.later hb) (Ad.out.ints.later hb) (by rw [AH.out,AB.out]) (by rw [AB.out];exact HA.out) AE.out.top)
     have j1:(0:Int)≤j∧(j:Int)<k:=by omega
     clear A7 AC hu Y
     go_upto_region 7 with fail
     cases hbv:lessP a uR l with
     | true=>
      have hc:=H.out
      rw [hbv] at hc
      have HC:=yH hc
      have AG:=yH hbv
      clear hc hbv H
      refine wp_region_held_drew (S:=fun w'=>Below A.heap.size A w') (by kernel_rfl) B.out.drew (fun hHeld=>?_)
      refine tK 0 ?_
      refine tK 1 ?_
      refine tK 2 ?_
      refine tK 3 ?_
      refine tK 4 ?_
      refine tK 5 ?_
      refine tK 6 ?_
      refine tK 7 ?_
      refine tQ 8 ?_ ?_ ?_
      rotate_left
      ·intro w' hSw
       have Y:=(hSw.cell (block_lt_of_cell A0.out)).trans A0.out
       go_simp
       try with_reducible rfl
      refine tK 9 ?_
      refine tK 10 ?_
      refine tK 11 ?_
      refine tQ 12 ?_ ?_ ?_
      rotate_left
      ·intro w' hSw
       have Ak:=(hSw.cell (block_lt_of_cell I.out)).trans I.out
       go_simp
       try with_reducible rfl
      refine tK 13 ?_
      refine rO 14 fun K hK=>?_
      go_simp
      refine (HC.out _ hHeld).mono ?_
      rintro _ w5 ⟨rfl,nx,m⟩
      have A6:Below A.heap.size A w5:=by rw [m];exact Below.drewN hHeld _
      have A3:Below wr.heap.size wr w5:=by rw [m];exact Below.drewN (Below.refl _ _).drew _
      clear m
      try go_wp2_with fail
      refine hK.out _ _ A6 (fun hHeld=>?_)
      clear hK K
      try simp only [Act.put,yA,yB,yC]
      refine tK 15 ?_
      refine wpAnyH_done (by kernel_rfl) ?_ _
      have b6:=hHeld
      obtain ⟨N,J⟩:∃N,N=w5:=⟨_,rfl⟩
      rw [← J] at b6 ⊢
      have g:=x2u M.out (show Below wr.heap.size wr N from by rw [J];exact A3)
      clear hHeld M B J A3 A6
      have M:=yH g
      have B:=yH b6
      have Y:=(B.out.cell (block_lt_of_cell A0.out)).trans A0.out
      have C:=yH B.out.size
      clear g b6
      go_wp2_with (at_builtin;refine wpList_append_own _ (by rfl) (.tmp 31) (.tmp 36) 51 (by rfl) A.heap.size 24 P (.slice none 0 0) 1 24 URSs HI.out X.out b.out f.out (by rfl) (by decide) _ j _ (by rfl) (M.out.alloc _) ⟨N.heap.size,0,none⟩ 1 1 (hds [⟨up,un,uc,uR⟩]) (by rfl) (by rfl) (x4A N up un uc uR) (x1Q _) (by unfold maxLen;omega) (by omega) (by have:=C.out;simp;omega) ?_;intro v7 w7 hown7 hgrow7 _)
      have E:Below A.heap.size A w7:=(B.out.alloc B.out.size _).grown hgrow7 (by have:=C.out;simp;omega) (fun i W=>((M.out.alloc (.cells #[.slice up un uc] 24)).lt i W).1)
      have e7:hds (O.take j)++hds [⟨up,un,uc,uR⟩]=hds (O.take (j+1)):=by
       rw [← x0c,AK.out]
       congr 1
       have AZ:j<O.length:=by have:=HLEN.out;omega
       rw [List.take_succ_eq_append_getElem AZ,List.getD_eq_getElem?_getD,List.getElem?_eq_getElem AZ]
       rfl
      rw [e7] at hown7
      go_roundw
      case rel=>exact ⟨j+1,by have:=HLEN.out;omega,by go_num,hown7,(fun t ht=>by
       rcases Nat.lt_or_ge t j with h | h
       ·exact A1.out t h
       ·obtain rfl:t=j:=by omega
        rw [← AK.out]
        exact AG.out),E⟩
      case measure=>simp [intOf];omega
     | false=>
      have hc:=H.out
      rw [hbv] at hc
      have HC:=yH hc
      have AG:=yH hbv
      clear hc hbv H
      refine wp_region_held_drew (S:=fun w'=>Below A.heap.size A w') (by kernel_rfl) B.out.drew (fun hHeld=>?_)
      refine tK 0 ?_
      refine tK 1 ?_
      refine tK 2 ?_
      refine tK 3 ?_
      refine tK 4 ?_
      refine tK 5 ?_
      refine tK 6 ?_
      refine tK 7 ?_
      refine tQ 8 ?_ ?_ ?_
      rotate_left
      ·intro w' hSw
       have Y:=(hSw.cell (block_lt_of_cell A0.out)).trans A0.out
       go_simp
       try with_reducible rfl
      refine tK 9 ?_
      refine tK 10 ?_
      refine tK 11 ?_
      refine tQ 12 ?_ ?_ ?_
      rotate_left
      ·intro w' hSw
       have Ak:=(hSw.cell (block_lt_of_cell I.out)).trans I.out
       go_simp
       try with_reducible rfl
      refine tK 13 ?_
      refine rO 14 fun K hK=>?_
      go_simp
      refine (HC.out _ hHeld).mono ?_
      rintro _ w5 ⟨rfl,nx,m⟩
      have A6:Below A.heap.size A w5:=by rw [m];exact Below.drewN hHeld _
      have A3:Below wr.heap.size wr w5:=by rw [m];exact Below.drewN (Below.refl _ _).drew _
      clear m
      try go_wp2_with fail
      refine hK.out _ _ A6 (fun hHeld=>?_)
      clear hK K
      try simp only [Act.put,yA,yB,yC]
      refine tK 15 ?_
      refine wpAnyH_done (by kernel_rfl) ?_ _
      have HINS:=yH (y3e (by rw [← HNL.out];exact hlt) AO.out HJ.out (by rw [← s.out];exact A1.out) (Or.inr (by rw [← s.out,← AK.out];exact AG.out)))
      have b6:=hHeld
      obtain ⟨N,J⟩:∃N,N=w5:=⟨_,rfl⟩
      rw [← J] at b6 ⊢
      have g:=x2u M.out (show Below wr.heap.size wr N from by rw [J];exact A3)
      clear hHeld M B J A3 A6
      have M:=yH g
      have B:=yH b6
      clear g b6
      have A8:=yH (show (hds (O.drop j)).length=(k - j)*1 by rw [x1Z,List.length_drop,← HLEN.out,Nat.mul_one])
      have y:=yH (fun (w':World) (hb:Below A.heap.size A w')=>y0C (AL.out.later hb) j)
      have cj:¬c2=j:=by omega
      clear j1
      have C:=yH B.out.size
      have Z:=(B.out.cell (block_lt_of_cell I.out)).trans I.out
      go_upto_region 11 with (at_builtin;refine wpList_append_own _ (by rfl) (.tmp 40) (.tmp 45) 51 (by rfl) A.heap.size 24 P (.slice none 0 0) 1 24 URSs HI.out X.out b.out f.out (by rfl) (by decide) _ j _ (by rfl) (M.out.alloc _) ⟨N.heap.size,0,none⟩ 1 1 (hds [⟨U,Q,R,l⟩]) (by rfl) (by rfl) (x4A N U Q R l) (x1Q _) (by unfold maxLen;omega) (by omega) (by have:=C.out;simp;omega) ?_;intro v7 w7 hown7 hgrow7 _)
      have E:Below A.heap.size A w7:=(B.out.alloc B.out.size _).grown hgrow7 (by have:=C.out;simp;omega) (fun i W=>((M.out.alloc (.cells #[.slice U Q R] 24)).lt i W).1)
      rw [← x0c] at hown7
      have L:=yH hown7
      have B7:=yH E
      clear hown7 hgrow7 E Z M
      have G:=yH B7.out.size
      go_wp2_with (at_builtin;refine wpList_append_own _ (by rfl) (.tmp 47) (.tmp 50) 51 (by rfl) A.heap.size 24 P (.slice none 0 0) 1 24 URSs HI.out X.out b.out f.out (by rfl) (by decide) _ (j+1) _ (by rfl) L.out ⟨gO,oO+j,none⟩ _ _ (hds (O.drop j)) (by rfl) A8.out (y.out _ B7.out) (x1Q _) (by unfold maxLen;omega) (by omega) G.out ?_;intro v8 w8 hown8 hgrow8 _)
      have hb8:Below A.heap.size A w8:=B7.out.grown hgrow8 G.out (fun i W=>(L.out.lt i W).1)
      rw [← x0c] at hown8
      rw [show (⟨U,Q,R,l⟩:Rw)=_ from s.out] at hown8
      go_roundw
      case rel=>exact x4P L1.out.each HOL.out hlt HNL.out HLEN.out HJ.out HINS.out hown8 HBW.out hb8
      case measure=>simp [intOf];omega
    ·obtain rfl:j=k:=by omega
     have HINS:=yH (y3e (by rw [← HNL.out];exact hlt) AO.out HJ.out (by rw [← s.out];exact A1.out) (Or.inl HLEN.out))
     have AJ:=yH (show O.drop j=[] from List.drop_of_length_le (by rw [← HLEN.out];exact Nat.le_refl _))
     have jj:¬(j:Int)<j:=by omega
     go_upto_region 7 with fail
     refine wp_region_held_drew (S:=fun w'=>Below A.heap.size A w') (by kernel_rfl) B.out.drew (fun hHeld=>?_)
     refine tK 0 ?_
     refine tK 1 ?_
     refine tK 2 ?_
     refine tK 3 ?_
     refine tK 4 ?_
     refine tF 5 ?_
     refine tF 6 ?_
     refine tF 7 ?_
     refine tF 8 ?_
     refine tF 9 ?_
     refine tF 10 ?_
     refine tF 11 ?_
     refine tF 12 ?_
     refine tF 13 ?_
     refine tF 14 ?_
     refine tK 15 ?_
     refine wpAnyH_done (by kernel_rfl) ?_ _
     have b6:=hHeld
     obtain ⟨N,J⟩:∃N,N=wr.drew:=⟨_,rfl⟩
     rw [← J] at b6 ⊢
     have g:=x2u M.out (show Below wr.heap.size wr N from by rw [J];exact (Below.refl _ _).drew)
     clear hHeld M B J jj
     have M:=yH g
     have B:=yH b6
     clear g b6
     rcases Nat.eq_zero_or_pos j with h0 | h0
     ·have hq:=HZ.out h0
      simp only [Value.slice.injEq] at hq
      obtain ⟨rfl,-,rfl⟩:=hq
      subst h0
      have C:=yH B.out.size
      have Z:=(B.out.cell (block_lt_of_cell I.out)).trans I.out
      rw [Nat.add_zero] at Z
      go_upto_region 11 with (at_builtin;refine wpList_append_own _ (by rfl) (.tmp 40) (.tmp 45) 51 (by rfl) A.heap.size 24 P (.slice none 0 0) 1 24 URSs HI.out X.out b.out f.out (by rfl) (by decide) _ 0 _ (by rfl) (M.out.alloc _) ⟨N.heap.size,0,none⟩ 1 1 (hds [⟨U,Q,R,l⟩]) (by rfl) (by rfl) (x4A N U Q R l) (x1Q _) (by unfold maxLen;omega) (by omega) (by have:=C.out;simp;omega) ?_;intro v7 w7 hown7 hgrow7 _)
      have E:Below A.heap.size A w7:=(B.out.alloc B.out.size _).grown hgrow7 (by have:=C.out;simp;omega) (fun i W=>((M.out.alloc (.cells #[.slice U Q R] 24)).lt i W).1)
      rw [← x0c] at hown7
      have L:=yH hown7
      have B7:=yH E
      clear hown7 hgrow7 E Z M
      go_wp2_with (at_builtin;refine wpList_append_own_none (by rfl) (.tmp 47) (.tmp 50) 51 (by rfl) A.heap.size 24 P 1 URSs HI.out _ (0+1) _ (by rfl) L.out (by rfl) ?_)
      have he:=L.out
      rw [show O.take 0++[⟨U,Q,R,l⟩]=O.take 0++[LR.getD 0 default]++O.drop 0 from by rw [AJ.out,List.append_nil,s.out]] at he
      go_roundw
      case rel=>exact x4P L1.out.each HOL.out hlt HNL.out HLEN.out HJ.out HINS.out he HBW.out B7.out
      case measure=>simp [intOf];omega
     ·obtain ⟨gO,oO,rfl,-,-⟩:=AL.out.cell 0 h0
      have A8:=yH (show (hds (O.drop j)).length=0*1 by rw [AJ.out];rfl)
      have y:=yH (fun (w':World) (_:Below A.heap.size A w') (x:Addr)=>show ∀i u,(hds (O.drop j))[i]? =some u→w'.cell? (x.add i)=some u from by rw [AJ.out];intro i u hu;simp [hds] at hu)
      by_cases cj:c2=j
      ·obtain rfl:j=c2:=cj.symm
       have C:=yH B.out.size
       have Z:=(B.out.cell (block_lt_of_cell I.out)).trans I.out
       go_upto_region 11 with (at_builtin;refine wpList_append_own _ (by rfl) (.tmp 40) (.tmp 45) 51 (by rfl) A.heap.size 24 P (.slice none 0 0) 1 24 URSs HI.out X.out b.out f.out (by rfl) (by decide) _ j _ (by rfl) (M.out.alloc _) ⟨N.heap.size,0,none⟩ 1 1 (hds [⟨U,Q,R,l⟩]) (by rfl) (by rfl) (x4A N U Q R l) (x1Q _) (by unfold maxLen;omega) (by omega) (by have:=C.out;simp;omega) ?_;intro v7 w7 hown7 hgrow7 _)
       have E:Below A.heap.size A w7:=(B.out.alloc B.out.size _).grown hgrow7 (by have:=C.out;simp;omega) (fun i W=>((M.out.alloc (.cells #[.slice U Q R] 24)).lt i W).1)
       rw [← x0c] at hown7
       have L:=yH hown7
       have B7:=yH E
       clear hown7 hgrow7 E Z M
       have G:=yH B7.out.size
       go_wp2_with (at_builtin;refine wpList_append_own _ (by rfl) (.tmp 47) (.tmp 50) 51 (by rfl) A.heap.size 24 P (.slice none 0 0) 1 24 URSs HI.out X.out b.out f.out (by rfl) (by decide) _ (j+1) _ (by rfl) L.out ⟨gO,oO,none⟩ _ _ (hds (O.drop j)) (by rfl) A8.out (y.out _ B7.out ⟨gO,oO,none⟩) (x1Q _) (by unfold maxLen;omega) (by omega) G.out ?_;intro v8 w8 hown8 hgrow8 _)
       have hb8:Below A.heap.size A w8:=B7.out.grown hgrow8 G.out (fun i W=>(L.out.lt i W).1)
       rw [← x0c] at hown8
       rw [show (⟨U,Q,R,l⟩:Rw)=_ from s.out] at hown8
       go_roundw
       case rel=>exact x4P L1.out.each HOL.out hlt HNL.out HLEN.out HJ.out HINS.out hown8 HBW.out hb8
       case measure=>simp [intOf];omega
      ·skip
       have C:=yH B.out.size
       have Z:=(B.out.cell (block_lt_of_cell I.out)).trans I.out
       go_upto_region 11 with (at_builtin;refine wpList_append_own _ (by rfl) (.tmp 40) (.tmp 45) 51 (by rfl) A.heap.size 24 P (.slice none 0 0) 1 24 URSs HI.out X.out b.out f.out (by rfl) (by decide) _ j _ (by rfl) (M.out.alloc _) ⟨N.heap.size,0,none⟩ 1 1 (hds [⟨U,Q,R,l⟩]) (by rfl) (by rfl) (x4A N U Q R l) (x1Q _) (by unfold maxLen;omega) (by omega) (by have:=C.out;simp;omega) ?_;intro v7 w7 hown7 hgrow7 _)
       have E:Below A.heap.size A w7:=(B.out.alloc B.out.size _).grown hgrow7 (by have:=C.out;simp;omega) (fun i W=>((M.out.alloc (.cells #[.slice U Q R] 24)).lt i W).1)
       rw [← x0c] at hown7
       have L:=yH hown7
       have B7:=yH E
       clear hown7 hgrow7 E Z M
       have G:=yH B7.out.size
       go_wp2_with (at_builtin;refine wpList_append_own _ (by rfl) (.tmp 47) (.tmp 50) 51 (by rfl) A.heap.size 24 P (.slice none 0 0) 1 24 URSs HI.out X.out b.out f.out (by rfl) (by decide) _ (j+1) _ (by rfl) L.out ⟨gO,oO+j,none⟩ _ _ (hds (O.drop j)) (by rfl) A8.out (y.out _ B7.out ⟨gO,oO+j,none⟩) (x1Q _) (by unfold maxLen;omega) (by omega) G.out ?_;intro v8 w8 hown8 hgrow8 _)
       have hb8:Below A.heap.size A w8:=B7.out.grown hgrow8 G.out (fun i W=>(L.out.lt i W).1)
       rw [← x0c] at hown8
       rw [show (⟨U,Q,R,l⟩:Rw)=_ from s.out] at hown8
       go_roundw
       case rel=>exact x4P L1.out.each HOL.out hlt HNL.out HLEN.out HJ.out HINS.out hown8 HBW.out hb8
       case measure=>simp [intOf];omega
  ·obtain rfl:k=n:=by omega
   have q:=AO.out
   rw [HNL.out,List.take_length] at q
   have AM:=yH q
   clear q
   go_wp2_with fail
   go_ret
   exact ⟨O,_,rfl,Aa.out,AM.out,HOL.out,HBW.out⟩
theorem x5a (p:Option Addr) (n c:Nat) (b:Bool) (x y:Option Addr):Tryz.prog.built 105 [(0,.slice p n c),(1,.bool b),(2,.pointer x),(3,.pointer y)]=some #[.slice p n c,.bool b,.pointer x,.pointer y]:=by kernel_rfl
theorem x1c {P:Program} {ρ:Operand→Value} {o:Oper} {t:TypeId} {parts:Array (Nat×Operand)} {cells:Array Value} (ho:o.op= .build t parts) (h:P.built t (parts.map fun (i,x)=>(i,ρ x)).toList=some cells) (w:World):
  (execOp ρ o).run P w= .ok (.value (.agg cells)) w:=by
 unfold execOp
 simp only [ho,Sem.run_bind,run_build w t _ cells h,Result.andThen_ok,Sem.run_pure]
theorem x9D (w:World) (q:Option Addr) (c:Nat):RowsIn w q 0 c []:=⟨rfl,Nat.zero_le _,(fun t ht=>by cases ht),Or.inl rfl⟩
theorem y0E {w:World} {g o n c:Nat} {L:List Rw} (h:RowsIn w (some ⟨g,o,none⟩) n c L) (m:Nat) (hm:m≤n):RowsIn w (some ⟨g,o,none⟩) m c (L.take m):=by
 have E:=h.size
 refine ⟨by rw [List.length_take];omega,Nat.le_trans hm h.le,fun t ht=>h.each t (List.mem_of_mem_take ht),?_⟩
 rcases h.at' with B | ⟨H,G,A,C⟩
 ·exact Or.inl (by rw [B];simp)
 ·simp only [Option.some.injEq,Addr.mk.injEq,and_true] at A
  obtain ⟨rfl,rfl⟩:=A
  refine Or.inr ⟨g,o,rfl,fun i hi=>?_⟩
  rw [List.length_take] at hi
  rw [C i (by omega),List.getD_eq_getElem?_getD,List.getD_eq_getElem?_getD,List.getElem?_take_of_lt (by omega)]
theorem y0F {w:World} {g o n c:Nat} {L:List Rw} (h:RowsIn w (some ⟨g,o,none⟩) n c L) (m:Nat) (hm:m≤n):RowsIn w (some ⟨g,o+m,none⟩) (n - m) (c - m) (L.drop m):=by
 have E:=h.size
 have H:=h.le
 refine ⟨by rw [List.length_drop];omega,by omega,fun t ht=>h.each t (List.mem_of_mem_drop ht),?_⟩
 rcases h.at' with B | ⟨I,G,A,C⟩
 ·exact Or.inl (by rw [B];simp)
 ·simp only [Option.some.injEq,Addr.mk.injEq,and_true] at A
  obtain ⟨rfl,rfl⟩:=A
  refine Or.inr ⟨g,o+m,rfl,fun i hi=>?_⟩
  rw [List.length_drop] at hi
  rw [Nat.add_assoc,C (m+i) (by omega),List.getD_eq_getElem?_getD,List.getD_eq_getElem?_getD,List.getElem?_drop]
def y3y (F:Nat→Prop) (w:World) (L:List (List Int)) (t:Nat) (e:Ending) (w':World):Prop:=∃q,e= .returned (.pointer q)∧TAt (fun k=>F k∨w.heap.size≤k) w' q (lay L t)∧Below w.heap.size w w'
theorem y29 {F:Nat→Prop} (N:Nat):∀(n:Nat) (p:Option Addr) (c t d:Nat) (LR:List Rw) (w:World),n≤N→RowsIn w p n c LR→(∀r∈LR,r.n=d∧RwIn F r)→0<d→N≤1000→t+N≤1000000→
  Calls Tryz.prog 34 #[.slice p n c,.int .i64 t] w (y3y F w (LR.map Rw.R) t):=by
 induction N with
 | zero=>
  intro n p c t d LR w hnN hL _ _ _ _
  obtain rfl:n=0:=by omega
  obtain rfl:LR=[]:=List.length_eq_zero_iff.1 hL.size.symm
  clear hL
  go_enter Tryz.func34,Tryz.ntmps34
  go_wp2_with fail
  go_ret
  exact ⟨none,rfl,.nil,Below.refl _ _⟩
 | succ N ih=>
  intro n p c t d LR w hnN hL hd hd0 hN ht
  by_cases hn0:n=0
  ·subst hn0
   obtain rfl:LR=[]:=List.length_eq_zero_iff.1 hL.size.symm
   clear hL ih
   go_enter Tryz.func34,Tryz.ntmps34
   go_wp2_with fail
   go_ret
   exact ⟨none,rfl,.nil,Below.refl _ _⟩
  have C:=hL.size
  have v:LR.map Rw.R≠[]:=fun h=>by
   have:=congrArg List.length h
   rw [List.length_map] at this
   simp at this
   rw [this] at C
   simp at C
   exact hn0 C
  obtain ⟨gL,oL,rfl,P,Z⟩:=hL.cell 0 (by omega)
  have a:LR.getD 0 default∈LR:=x2C (by omega)
  have I:=(hd _ a).1
  have J:((LR.map Rw.R).headD []).length=d:=by
   cases LR with
   | nil=>exact absurd rfl v
   | cons r L=>
    exact Z.ints.size.symm.trans I
  have A1:=x8G (t:=t) v
  rw [J,List.length_map,← C] at A1
  rw [Nat.add_zero] at P
  obtain ⟨u0,AM⟩:∃u,u=LR.getD 0 default:=⟨_,rfl⟩
  rw [← AM] at P I
  obtain ⟨up,U,uc,uR⟩:=u0
  unfold Rw.val at P
  simp only at P I
  subst I
  have i:=yH (y0D (some ⟨gL,oL,none⟩) n c LR (t%U) U w hL (fun r hr=>(hd r hr).1) (Nat.mod_lt _ hd0) (by omega))
  have y:=yH A1
  have HD:=yH hd
  have s:=yH hd0
  have IH:=yH ih
  have z:(t:Int).tmod U=((t%U:Nat):Int):=by rw [Int.tmod_eq_emod_of_nonneg (by omega)];rfl
  have AW:¬(U:Int)=0:=by omega
  have AO:¬(U:Int)= -1:=by omega
  have Am:((n:Int)==0)=false:=by simp;omega
  have i0:0<n:=by omega
  clear hL hd a J A1 C v Z AM ih
  go_enter Tryz.func34,Tryz.ntmps34
  go_upto_region 4 with (go_at_call 26;refine i.out.mono ?_;rintro e j ⟨O,v5,rfl,f,hO,AL,AP⟩;obtain ⟨q5,c5,rfl,B⟩:=f.rows)
  have A:=yH AP
  have A5:=yH B
  have HO:=yH hO
  have q:=yH AL
  have A2:=yH B.size
  have Ap:=B.le
  clear f hO AL AP B i z AW AO P
  go_upto_region 5 with fail
  obtain ⟨m,hm⟩:∃m,n/2=m:=⟨_,rfl⟩
  rw [hm] at y
  rw [show (n:Int)/2=(m:Int) from by omega]
  have Ad:m<n:=by omega
  have AG:=yH (show n - (m+1)≤N by omega)
  have AI:=yH (show m≤N by omega)
  clear hm
  obtain ⟨g5,o5,rfl,H,Q⟩:=A5.out.cell m Ad
  have g:O.getD m default∈O:=x2C (by have:=A2.out;omega)
  have A6:=(HD.out _ (q.out _ g)).2
  have W:=yH (show (O.map Rw.R).getD m []=(O.getD m default).R from x5Z (by have:=A2.out;omega))
  obtain ⟨u1,AN⟩:∃u,u=O.getD m default:=⟨_,rfl⟩
  rw [← AN] at H Q W A6
  obtain ⟨sp,sn,sc,sR⟩:=u1
  unfold Rw.val at H
  simp only at H W
  have X:=yH H
  have l:=yH Q
  have AQ:=yH A6
  have i1:(0:Int)≤m∧(m:Int)<n:=by omega
  have AJ:=yH (fun w' (hb:Below j.heap.size j w')=>IH.out m (some ⟨g5,o5,none⟩) c5 (t+1) U (O.take m) w' AI.out (y0E (A5.out.later hb) m (by omega)) (fun r hr=>HD.out r (q.out r (List.mem_of_mem_take hr))) s.out (by omega) (by omega))
  have AY:=yH (fun w' (hb:Below j.heap.size j w')=>IH.out (n - (m+1)) (some ⟨g5,o5+(m+1),none⟩) (c5 - (m+1)) (t+1) U (O.drop (m+1)) w' AG.out (y0F (A5.out.later hb) (m+1) (by omega)) (fun r hr=>HD.out r (q.out r (List.mem_of_mem_drop hr))) s.out (by omega) (by omega))
  have Aa:=yH (fun w' (h:n - (m+1)=0)=>IH.out 0 (some ⟨g5,o5,none⟩) 0 (t+1) U [] w' (by omega) (x9D _ _ _) (fun r hr=>by cases hr) s.out (by omega) (by omega))
  have Y:=yH (show lay (LR.map Rw.R) t= .fork sR true (lay ((O.take m).map Rw.R) (t+1)) (lay ((O.drop (m+1)).map Rw.R) (t+1)) from by
   rw [y.out,← HO.out,W.out,List.map_take,List.map_drop])
  have AZ:=yH (fun (h:n - (m+1)=0)=>show (O.drop (m+1)).map Rw.R=([]:List Rw).map Rw.R from by
   rw [List.drop_of_length_le (by have:=A2.out;omega)])
  clear H Q g AN A6 y AI AG IH W
  have q3:IntKind.i64.wrap ((t:Int)+1)=((t+1:Nat):Int):=by rw [IntWalk.i64_in _ (by omega)];rfl
  have q4:IntKind.i64.wrap ((m:Int)+1)=((m+1:Nat):Int):=by rw [IntWalk.i64_in _ (by omega)];rfl
  by_cases cj:c5=m+1
  ·subst cj
   have hz:n - (m+1)=0:=by omega
   refine wp_region_held_drew (S:=fun w'=>Below j.heap.size j w') (by kernel_rfl) (Below.refl _ _).drew (fun hHeld=>?_)
   refine tK 0 ?_
   refine tK 1 ?_
   refine tK 2 ?_
   refine tQ 3 ?_ ?_ ?_
   rotate_left
   ·intro w' hSw
    have H:=(hSw.cell (block_lt_of_cell X.out)).trans X.out
    go_simp
    try with_reducible rfl
   refine tK 4 ?_
   refine tK 5 ?_
   refine tQ 6 ?_ ?_ ?_
   rotate_left
   ·intro w' hSw
    have s1:(m:Int)≤(m:Int)+1:=by omega
    go_simp
    try with_reducible rfl
   refine tK 7 ?_
   refine tK 8 ?_
   refine tK 10 ?_
   refine tK 11 ?_
   refine tK 12 ?_
   refine tQ 13 ?_ ?_ ?_
   rotate_left
   ·intro w' hSw
    have s2:(0:Int)≤(m:Int)+1∧(m:Int)+1≤(n:Int):=by omega
    go_simp
    try with_reducible rfl
   refine tK 14 ?_
   refine tK 15 ?_
   refine rO 9 fun K hK=>?_
   go_simp
   refine (AJ.out _ hHeld).mono ?_
   rintro _ w6 ⟨z,rfl,t6,b6⟩
   have A0:=hHeld.trans (b6.mono hHeld.size)
   have T6:=yH (t6.wide (F':=fun k=>F k∨w.heap.size≤k) (fun k h=>h.imp id (fun h=>by have h1:=A.out.size;have h2:=hHeld.size;omega)))
   clear t6 b6
   try go_wp2_with fail
   refine hK.out _ _ A0 (fun hHeld=>?_)
   clear hK K
   try simp only [Act.put,yA,yB,yC]
   refine rO 16 fun K hK=>?_
   go_simp
   refine (Aa.out _ hz).mono ?_
   rintro _ M ⟨q2,rfl,t7,o⟩
   rw [← AZ.out hz] at t7
   have A4:=hHeld.trans (o.mono hHeld.size)
   have A3:=yH (T6.out.later o)
   have T7:=yH (t7.wide (F':=fun k=>F k∨w.heap.size≤k) (fun k h=>h.imp id (fun h=>by have h1:=A.out.size;have h2:=hHeld.size;omega)))
   clear t7 o
   try go_wp2_with fail
   refine hK.out _ _ A4 (fun hHeld=>?_)
   clear hK K
   try simp only [Act.put,yA,yB,yC]
   refine tQ 17 ?_ ?_ ?_
   rotate_left
   ·intro w' hSw
    refine Eq.trans (b:=Result.ok (Next.value (.agg #[.slice sp sn sc,.bool true,.pointer z,.pointer q2])) w') ?_ ?_
    ·apply x1c (t:=105) (parts:= #[(0,.tmp 24),(1,.const (.bool true)),(2,.tmp 30),(3,.tmp 37)])
     ·rfl
     ·simp only [List.map_toArray,List.map_cons,List.map_nil]
      exact x5a _ _ _ _ _ _
    ·with_reducible rfl
   refine rO 18 fun K hK=>?_
   go_simp
   have E:Below M.heap.size M (M.alloc (.cells #[.slice sp sn sc,.bool true,.pointer z,.pointer q2] 105)):=(Below.refl _ _).alloc (Nat.le_refl _) _
   have G:=hHeld.trans (E.mono hHeld.size)
   have T8:=yH (show TAt (fun k=>F k∨w.heap.size≤k) _ (some ⟨M.heap.size,0,none⟩) (.fork sR true (lay ((O.take m).map Rw.R) (t+1)) (lay ((O.drop (m+1)).map Rw.R) (t+1))) from TAt.fork (r:=⟨sp,sn,sc,sR⟩) (heap_alloc_new M _) (l.out.later G) (Or.inr (by have h1:=A.out.size;have h2:=hHeld.size;omega)) (fun x hx hr=>Or.inl (AQ.out x hx hr)) (A3.out.later E) (T7.out.later E))
   try go_wp2_with fail
   refine hK.out _ _ G (fun hHeld=>?_)
   clear hK K
   try simp only [Act.put,yA,yB,yC]
   refine tK 19 ?_
   refine wpAnyH_done (by kernel_rfl) ?_ _
   go_wp2_with fail
   go_ret
   exact ⟨_,rfl,by rw [Y.out];exact T8.out,A.out.trans (G.mono A.out.size)⟩
  ·refine wp_region_held_drew (S:=fun w'=>Below j.heap.size j w') (by kernel_rfl) (Below.refl _ _).drew (fun hHeld=>?_)
   refine tK 0 ?_
   refine tK 1 ?_
   refine tK 2 ?_
   refine tQ 3 ?_ ?_ ?_
   rotate_left
   ·intro w' hSw
    have H:=(hSw.cell (block_lt_of_cell X.out)).trans X.out
    go_simp
    try with_reducible rfl
   refine tK 4 ?_
   refine tK 5 ?_
   refine tQ 6 ?_ ?_ ?_
   rotate_left
   ·intro w' hSw
    have s1:(m:Int)≤(c5:Int):=by omega
    go_simp
    try with_reducible rfl
   refine tK 7 ?_
   refine tK 8 ?_
   refine tK 10 ?_
   refine tK 11 ?_
   refine tK 12 ?_
   refine tQ 13 ?_ ?_ ?_
   rotate_left
   ·intro w' hSw
    have s2:(0:Int)≤(m:Int)+1∧(m:Int)+1≤(n:Int):=by omega
    go_simp
    try with_reducible rfl
   refine tK 14 ?_
   refine tK 15 ?_
   refine rO 9 fun K hK=>?_
   go_simp
   refine (AJ.out _ hHeld).mono ?_
   rintro _ w6 ⟨z,rfl,t6,b6⟩
   have A0:=hHeld.trans (b6.mono hHeld.size)
   have T6:=yH (t6.wide (F':=fun k=>F k∨w.heap.size≤k) (fun k h=>h.imp id (fun h=>by have h1:=A.out.size;have h2:=hHeld.size;omega)))
   clear t6 b6
   try go_wp2_with fail
   refine hK.out _ _ A0 (fun hHeld=>?_)
   clear hK K
   try simp only [Act.put,yA,yB,yC]
   refine rO 16 fun K hK=>?_
   go_simp
   refine (AY.out _ hHeld).mono ?_
   rintro _ M ⟨q2,rfl,t7,o⟩
   have A4:=hHeld.trans (o.mono hHeld.size)
   have A3:=yH (T6.out.later o)
   have T7:=yH (t7.wide (F':=fun k=>F k∨w.heap.size≤k) (fun k h=>h.imp id (fun h=>by have h1:=A.out.size;have h2:=hHeld.size;omega)))
   clear t7 o
   try go_wp2_with fail
   refine hK.out _ _ A4 (fun hHeld=>?_)
   clear hK K
   try simp only [Act.put,yA,yB,yC]
   refine tQ 17 ?_ ?_ ?_
   rotate_left
   ·intro w' hSw
    refine Eq.trans (b:=Result.ok (Next.value (.agg #[.slice sp sn sc,.bool true,.pointer z,.pointer q2])) w') ?_ ?_
    ·apply x1c (t:=105) (parts:= #[(0,.tmp 24),(1,.const (.bool true)),(2,.tmp 30),(3,.tmp 37)])
     ·rfl
     ·simp only [List.map_toArray,List.map_cons,List.map_nil]
      exact x5a _ _ _ _ _ _
    ·with_reducible rfl
   refine rO 18 fun K hK=>?_
   go_simp
   have E:Below M.heap.size M (M.alloc (.cells #[.slice sp sn sc,.bool true,.pointer z,.pointer q2] 105)):=(Below.refl _ _).alloc (Nat.le_refl _) _
   have G:=hHeld.trans (E.mono hHeld.size)
   have T8:=yH (show TAt (fun k=>F k∨w.heap.size≤k) _ (some ⟨M.heap.size,0,none⟩) (.fork sR true (lay ((O.take m).map Rw.R) (t+1)) (lay ((O.drop (m+1)).map Rw.R) (t+1))) from TAt.fork (r:=⟨sp,sn,sc,sR⟩) (heap_alloc_new M _) (l.out.later G) (Or.inr (by have h1:=A.out.size;have h2:=hHeld.size;omega)) (fun x hx hr=>Or.inl (AQ.out x hx hr)) (A3.out.later E) (T7.out.later E))
   try go_wp2_with fail
   refine hK.out _ _ G (fun hHeld=>?_)
   clear hK K
   try simp only [Act.put,yA,yB,yC]
   refine tK 19 ?_
   refine wpAnyH_done (by kernel_rfl) ?_ _
   go_wp2_with fail
   go_ret
   exact ⟨_,rfl,by rw [Y.out];exact T8.out,A.out.trans (G.mono A.out.size)⟩
end Go.Proofs.YtinihaflmdihaaaGreat.Kt
namespace Go.Proofs.YtinihaflmdihaaaGreat
open Go.RowKit
theorem I2n:(Tryz.prog.info? 2).map (fun i=>(i.zero,i.size,i.bytes))=some (some (.int .i64 0),1,8):=by kernel_rfl
theorem URn:Tryz.prog.underlying 24=some (.slice 2):=by kernel_rfl
def ivs (R:List Int):List Value:=R.map fun x=>.int .i64 x
theorem x2V (R:List Int):(ivs R).length=R.length:=List.length_map ..
theorem y0G (R:List Int) (i:Nat) (h:i<R.length):(ivs R)[i]? =some (.int .i64 (R.getD i 0)):=by
 simp [ivs,List.getD_eq_getElem?_getD,h]
theorem y3z (R:List Int) (k:Nat) (x:Int):ivs (R.set k x)=(ivs R).set k (.int .i64 x):=by simp [ivs,List.map_set]
theorem y40 (R:List Int):∀u∈ivs R,u.oneCell'=true:=by
 intro u hu
 simp only [ivs,List.mem_map] at hu
 obtain ⟨x,_,rfl⟩:=hu
 rfl
def OwnRow (w:World) (base g n c:Nat) (N:List Int):Prop:=w.ownsRow base 2 1 (.slice (some ⟨g,0,none⟩) n c) n (ivs N)
theorem y2A {w:World} {base n:Nat} {v:Value} {N:List Int} (h:w.ownsRow base 2 1 v n (ivs N)) (hn:1≤n):∃g c,v= .slice (some ⟨g,0,none⟩) n c∧OwnRow w base g n c N∧base≤g:=by
 rcases h.2 with ⟨_,G⟩ | ⟨g,A,C,B,E,r⟩
 ·omega
 ·exact ⟨g,A,B,by unfold OwnRow;rw [← B];exact h,E⟩
theorem OwnRow.ints {w:World} {base g n c:Nat} {N:List Int} (h:OwnRow w base g n c N) (hN:∀x∈N,-9223372036854775808≤x∧x≤9223372036854775807):Ints w (some ⟨g,0,none⟩) n c N:=by
 have C:n=N.length:=by have:=h.1;rw [x2V,Nat.mul_one] at this;exact this.symm
 rcases h.2 with ⟨G,_⟩ | ⟨H,B,I,E,O,K,A,L,M,J⟩
 ·simp at G
 ·obtain ⟨rfl,rfl⟩:g=H∧c=B:=by simpa using E
  refine ⟨C,A,hN,Or.inr ⟨g,0,rfl,fun i hi=>?_⟩⟩
  have:=World.ownsRow.cellAt h i (by omega)
  rw [Nat.zero_add,this,y0G N i hi]
theorem OwnRow.length {w:World} {base g n c:Nat} {N:List Int} (h:OwnRow w base g n c N):n=N.length:=by have:=h.1;rw [x2V,Nat.mul_one] at this;exact this.symm
theorem OwnRow.later {w w':World} {base g n c:Nat} {N:List Int} (h:OwnRow w base g n c N) (hb:Below w.heap.size w w'):OwnRow w' base g n c N:=by
 obtain ⟨G,E⟩:=h
 refine ⟨G,E.imp id ?_⟩
 rintro ⟨g,B,A,H,I,C,r⟩
 exact ⟨g,B,A,H,I,(hb.block _ (yL C)).trans C,r⟩
theorem OwnRow.set {w:World} {base g n c:Nat} {N:List Int} (h:OwnRow w base g n c N) (k:Nat) (x:Int):OwnRow (w.setCell ⟨g,k,none⟩ (.int .i64 x)) base g n c (N.set k x):=by
 unfold OwnRow
 rw [y3z]
 exact (World.ownsRow.stored h k _).1
theorem y0H (w:World):(w.alloc (.cells #[] 2)).ownsRow w.heap.size 2 1 (.slice (some ⟨w.heap.size,0,none⟩) 0 0) 0 []:=
 ⟨rfl,Or.inr ⟨w.heap.size,0,#[],rfl,Nat.le_refl _,heap_alloc_new w _,Nat.le_refl _,by unfold maxLen;omega,rfl,rfl⟩⟩
theorem Ints.news {w:World} {g o n c:Nat} {R:List Int} (h:Ints w (some ⟨g,o,none⟩) n c R):∀j u,(ivs R)[j]? =some u→w.cell? ((⟨g,o,none⟩:Addr).add j)=some u:=fun j u hu=>by
 have hj:j<R.length:=by have:=(List.getElem?_eq_some_iff.1 hu).1;simpa [ivs] using this
 rw [y0G _ _ hj] at hu
 rcases h.at' with B | ⟨G,E,A,C⟩
 ·rw [B] at hj;simp at hj
 ·simp only [Option.some.injEq,Addr.mk.injEq,and_true] at A
  obtain ⟨rfl,rfl⟩:=A
  rw [Addr.add_mid,C j hj,hu]
theorem x4B (p:Option Addr) (n c:Nat) (R:List Int) (w:World) (h:Ints w p n c R) (h1:1≤n) (h8:n≤8):
  Calls Tryz.prog 271 #[.slice p n c] w fun e w'=>∃g cap,e= .returned (.slice (some ⟨g,0,none⟩) n cap)∧OwnRow w' w.heap.size g n cap R∧w.heap.size≤g∧Below w.heap.size w w':=by
 obtain ⟨W,X,rfl,-⟩:=h.cell 0 (by omega)
 obtain ⟨f,E,G,B,C⟩:=info_parts I2n
 have b:=yH E
 have U:=yH G
 have L:=yH B
 have Q:=yH C
 clear E G B C
 have A:Below w.heap.size w (w.alloc (.cells #[] 2)):=(Below.refl _ _).alloc (Nat.le_refl _) _
 have O:=yH (y0H w)
 have M:=yH A
 have K:=yH ((h.later A).news)
 have J:=yH (show (ivs R).length=n*1 by rw [x2V,← h.size,Nat.mul_one])
 have i:∀w',(binOp .eql 24 (.slice (some ⟨W,X,none⟩) n c) (.slice none 0 0)).run Tryz.prog w'= .ok (.bool false) w':=fun w'=>Go.Lib.run_eql_slice_nil w' _ _ _ _ _ _ _ URn
 clear A h
 go_enter Tryz.func271,Tryz.ntmps271
 go_wp2_with ((at_builtin;(refine wpList_append_own_at _ (by rfl) (.tmp 5) (.tmp 6) 24 (by rfl) w.heap.size 2 f (.int .i64 0) 1 8 URn b.out U.out L.out Q.out (by rfl) (by decide) _ 0 [] (by rfl) O.out ⟨W,X,none⟩ n c (ivs R) (by rfl) J.out K.out (y40 R) (by unfold maxLen;omega) (by omega) (by simp) ?_);intro v7 w7 hown7 hgrow7 _ _;have d:=yH hown7;have Z:=yH hgrow7;clear hown7 hgrow7))
 obtain ⟨a,Y,rfl,P,I⟩:=y2A (w:=w7) (base:=w.heap.size) (n:=n) (N:=R) (by have h:=d.out;rw [Nat.zero_add,List.nil_append] at h;exact h) h1
 have H:Below w.heap.size w w7:=M.out.grown Z.out (by simp) (fun k hk=>by simp [Value.ownBlock] at hk;omega)
 go_ret
 exact ⟨a,Y,rfl,P,I,H⟩
theorem A25:Tryz.prog.underlying 30=some (.array 32 5):=by kernel_rfl
theorem Z25:(Tryz.prog.info? 30).map (fun i=>(i.zero,i.size))=some (some (.agg (u8s (zeros 32))),32):=by kernel_rfl
theorem S25:(Tryz.prog.info? 30).map (·.size)=some 32:=by kernel_rfl
theorem x4C (a b:List Nat) (ha:a.length=32) (hb:b.length=32) (d:Nat) (w:World):(Op.equalIn (d+2) 30 (.agg (u8s a)) (.agg (u8s b))).run Tryz.prog w= .ok (decide (a=b)) w:=by
 obtain ⟨i,B,A⟩:∃i,Tryz.prog.info? 5=some i∧i.size=1:=by
  obtain ⟨C,B,_,A,_⟩:=info_parts I5
  exact ⟨C,B,A⟩
 rw [run_equalIn_array w (d+1) (u8s a) (u8s b) A25 B,C5,x5Y a b d w _ (fun i B=>by have:=List.mem_range.1 B;omega),y25 a b ha hb]
end Go.Proofs.YtinihaflmdihaaaGreat
namespace Go.Proofs.YtinihaflmdihaaaGreat.Pg
open Go.RowKit
theorem x0x {ρ:Operand→Value} {o:Oper} {x:Operand} {w:World} {g off:Nat} {D:List Nat} (ho:o.op= .load 30 x) (hx:ρ x= .pointer (some ⟨g,off,none⟩)) (hD:D.length=32) (h:w.rangeAt g off (vals D)):(execOp ρ o).run Tryz.prog w= .ok (.value (.agg (u8s D))) w:=by
 unfold execOp
 simp only [ho,hx,Instr.loadAt,Instr.sureAddr,Sem.run_bind,Sem.run_pure,Result.andThen_ok,run_loadVar_mid w g off 30 (vals D) _ h A25 rfl (by rw [x00,hD];exact S25),x06]
theorem x0i {w:World} {g:Nat} {D:List Nat} {t:TypeId} (h:w.heap[g]? =some (.cells (u8s D) t (0,0))):w.rangeAt g 0 (vals D):=fun j v hv=>by
 have hj:j<D.length:=by have:=(List.getElem?_eq_some_iff.1 hv).1;rwa [x00] at this
 rw [Nat.zero_add,x1k h j hj,← hv,x1S D j hj]
end Go.Proofs.YtinihaflmdihaaaGreat.Pg
namespace Go.Proofs.YtinihaflmdihaaaGreat.Cm
def be (n s:Nat):List Nat:=(List.range s).map fun i=>n/2^(8*(s - 1 - i))%256
theorem be_length (n s:Nat):(be n s).length=s:=by simp [be]
theorem be_get (n s i:Nat) (h:i<s):(be n s).getD i 0=n/2^(8*(s - 1 - i))%256:=by
 simp [be,List.getD_eq_getElem?_getD,h]
theorem be_take (n s i:Nat) (h:i<s):(be n s).take (i+1)=(be n s).take i++[n/2^(8*(s - 1 - i))%256]:=by
 rw [List.take_succ_eq_append_getElem (by rw [be_length];exact h)]
 simp [be]
theorem be_ok (n s:Nat):Sm.allB (be n s):=by
 intro x hx
 simp only [be,List.mem_map] at hx
 obtain ⟨i,_,rfl⟩:=hx
 exact Nat.mod_lt _ (by omega)
theorem x6F (n s:Nat):be n (s+1)=(n/2^(8*s)%256)::be n s:=by
 unfold be
 rw [List.range_succ_eq_map,List.map_cons,List.map_map]
 congr 1
 apply List.map_congr_left
 intro i _
 simp only [Function.comp_apply]
 rw [show s+1 - 1 - (i+1)=s - 1 - i from by omega]
def z64 (n:Int):Nat:=(n+9223372036854775808).toNat
theorem z64_lt {n:Int} (h1: -9223372036854775808≤n) (h2:n≤9223372036854775807):z64 n<18446744073709551616∧((z64 n:Nat):Int)=n+9223372036854775808:=by
 unfold z64;omega
theorem x8I {x:Nat} (h:x<2^63):x^^^2^63=2^63+x:=by
 apply Nat.eq_of_testBit_eq
 intro i
 rw [Nat.testBit_xor,Nat.testBit_two_pow]
 rcases Nat.lt_trichotomy i 63 with A | rfl | A
 ·rw [Nat.testBit_two_pow_add_gt A,decide_eq_false (by omega),Bool.xor_false]
 ·rw [Nat.testBit_two_pow_add_eq,decide_eq_true rfl,Bool.xor_true]
 ·have B:x.testBit i=false:=Nat.testBit_lt_two_pow (Nat.lt_trans h (Nat.pow_lt_pow_right (by omega) A))
  have C:(2^63+x).testBit i=false:=Nat.testBit_lt_two_pow (by
   have:2^64≤2^i:=Nat.pow_le_pow_right (by omega) A
   omega)
  rw [B,C,decide_eq_false (by omega),Bool.xor_false]
theorem y2B {x:Nat} (h:x<2^63):(2^63+x)^^^2^63=x:=by
 rw [← x8I h,Nat.xor_assoc,Nat.xor_self,Nat.xor_zero]
theorem wrap_u64 (n:Int):IntKind.u64.wrap n=n%18446744073709551616:=IntKind.wrap_u64 n
theorem sign_int {n:Int} (h1: -9223372036854775808≤n) (h2:n≤9223372036854775807):bits .xor .u64 (IntKind.u64.wrap n) 9223372036854775808=((z64 n:Nat):Int):=by
 rw [wrap_u64]
 by_cases h:0≤n
 ·obtain ⟨x,rfl⟩:∃x:Nat,n=x:=⟨n.toNat,by omega⟩
  have e:(x:Int)%18446744073709551616=(x:Nat):=by omega
  rw [e]
  have:=u64_xor_nat x 9223372036854775808 (by omega) (by omega)
  refine Eq.trans this ?_
  have A:x^^^9223372036854775808=9223372036854775808+x:=x8I (by omega)
  rw [A]
  unfold z64
  omega
 ·obtain ⟨x,B⟩:∃x:Nat,n=(x:Int) - 9223372036854775808:=⟨(n+9223372036854775808).toNat,by omega⟩
  subst B
  have e:((x:Int) - 9223372036854775808)%18446744073709551616=((9223372036854775808+x:Nat):Int):=by omega
  rw [e]
  have:=u64_xor_nat (9223372036854775808+x) 9223372036854775808 (by omega) (by omega)
  refine Eq.trans this ?_
  have A:(9223372036854775808+x)^^^9223372036854775808=x:=y2B (by omega)
  rw [A]
  unfold z64
  omega
def num (n:Int):List Nat:=be (z64 n) 8
theorem num_length (n:Int):(num n).length=8:=be_length _ _
theorem num_ok (n:Int):Sm.allB (num n):=be_ok _ _
def val (B:List Nat):Nat:=B.foldl (fun n b=>n*256+b) 0
theorem y0I (B:List Nat) (m:Nat):B.foldl (fun n b=>n*256+b) m=m*256^B.length+val B:=by
 induction B generalizing m with
 | nil=>simp [val]
 | cons b B ih=>
  unfold val
  rw [List.foldl_cons,List.foldl_cons,ih,ih (0*256+b),List.length_cons,Nat.pow_succ,Nat.zero_mul,Nat.zero_add,Nat.add_mul,Nat.mul_assoc,Nat.mul_comm 256]
  omega
theorem x6G (b:Nat) (B:List Nat):val (b::B)=b*256^B.length+val B:=by
 have:=y0I B (0*256+b)
 unfold val at this ⊢
 rw [List.foldl_cons,this]
 simp
theorem val_snoc (B:List Nat) (b:Nat):val (B++[b])=val B*256+b:=by
 unfold val;rw [List.foldl_append];rfl
theorem pow8 (s:Nat):(2:Nat)^(8*s)=256^s:=by rw [Nat.pow_mul]
theorem val_lt {B:List Nat} (h:Sm.allB B):val B<256^B.length:=by
 induction B with
 | nil=>simp [val]
 | cons b B ih=>
  have A:=h b (by simp)
  have C:=ih (fun x hx=>h x (by simp [hx]))
  rw [x6G,List.length_cons,Nat.pow_succ]
  have:b*256^B.length+256^B.length≤256^B.length*256:=by
   rw [Nat.mul_comm (256^B.length) 256,← Nat.succ_mul]
   exact Nat.mul_le_mul_right _ A
  omega
theorem val_be (n s:Nat):val (be n s)=n%256^s:=by
 induction s with
 | zero=>simp [be,val,Nat.mod_one]
 | succ s ih=>
  rw [x6F,x6G,be_length,ih,pow8,Nat.pow_succ,Nat.mod_mul]
  rw [Nat.mul_comm]
  omega
theorem be_val {B:List Nat} (h:Sm.allB B):be (val B) B.length=B:=by
 induction B with
 | nil=>simp [be]
 | cons b B ih=>
  have G:=h b (by simp)
  have C:Sm.allB B:=fun x hx=>h x (by simp [hx])
  have E:=val_lt C
  rw [List.length_cons,x6F,x6G,pow8]
  have I:0<256^B.length:=Nat.pow_pos (by omega)
  have H:(b*256^B.length+val B)/256^B.length=b:=by
   rw [Nat.mul_comm,Nat.mul_add_div I,Nat.div_eq_of_lt E];omega
  rw [H,Nat.mod_eq_of_lt G]
  congr 1
  have A:∀s m k:Nat,s≤k→be (m*256^k+val B) s=be (val B) s:=by
   intro s
   induction s with
   | zero=>intro m k _;simp [be]
   | succ s ihs=>
    intro m k hk
    rw [x6F,x6F,ihs m k (by omega),pow8]
    congr 1
    obtain ⟨j,rfl⟩:∃j,k=s+1+j:=⟨k - (s+1),by omega⟩
    have:m*256^(s+1+j)=256^s*(256*(m*256^j)):=by
     rw [Nat.pow_add,Nat.pow_succ]
     simp only [Nat.mul_assoc,Nat.mul_comm,Nat.mul_left_comm]
    rw [this,Nat.mul_add_div (Nat.pow_pos (by omega))]
    omega
  rw [A B.length b B.length (Nat.le_refl _)]
  exact ih C
def cmpL:List Nat→List Nat→Int
 |[],[]=>0
 |[],_::_=> -1
 | _::_,[]=>1
 | x::a,y::b=>if x<y then -1 else if y<x then 1 else cmpL a b
end Go.Proofs.YtinihaflmdihaaaGreat.Cm
namespace Go.Proofs.YtinihaflmdihaaaGreat.Mm
def bin (g:Nat→Nat):Nat→Nat
 | 0=>0
 | n+1=>2*bin g n+g n
def bytesOf (f:Nat→Nat) (n:Nat):List Nat:=(List.range n).map fun j=>bin (fun k=>f (8*j+k)) 8
def bitOf (B:List Nat) (i:Nat):Nat:=B.getD (i/8) 0/2^(7 - i%8)%2
def cbit (R:List Int) (i:Nat):Nat:=Cm.z64 (R.getD (i%R.length) 0)/2^(63 - i/R.length)%2
def code (R:List Int):List Nat:=bytesOf (cbit R) (8*R.length)
def numAt (f:Nat→Nat) (d k:Nat):Int:=(bin (fun l=>f (l*d+k)) 64:Nat) - 9223372036854775808
def point (B:List Nat) (d:Nat):List Int:=(List.range d).map (numAt (bitOf B) d)
def inI (R:List Int):Prop:=∀x∈R,-9223372036854775808≤x∧x≤9223372036854775807
end Go.Proofs.YtinihaflmdihaaaGreat.Mm
namespace Go.Proofs.YtinihaflmdihaaaGreat.Mo
open Go.RowKit
def i64s (L:List Int):Array Value:=(L.map (Value.int .i64)).toArray
theorem i64s_get (L:List Int) (i:Nat) (h:i<L.length):(i64s L)[i]? =some (.int .i64 (L.getD i 0)):=by
 simp [i64s,List.getD_eq_getElem?_getD,List.getElem?_eq_getElem h]
theorem i64s_put (L:List Int) (k:Nat) (x:Int):(i64s L).setIfInBounds k (.int .i64 x)=i64s (L.set k x):=by
 apply Array.ext'
 simp [i64s,List.map_set]
theorem i64s_ints {w:World} {g:Nat} {L:List Int} {t:TypeId} {fr:Nat×Nat} (hg:w.heap[g]? =some (.cells (i64s L) t fr)) (hL:Mm.inI L):Ints w (some ⟨g,0,none⟩) L.length L.length L:=
 ⟨rfl,Nat.le_refl _,hL,Or.inr ⟨g,0,rfl,fun i hi=>by rw [Nat.zero_add,cell_of_row w g i _ t fr hg,i64s_get L i hi]⟩⟩
theorem y2C (n:Nat):madeCells (Value.cells (.int .i64 0)) n=i64s (List.replicate n 0):=by
 apply Array.ext
 ·simp [size_madeCells,i64s]
 ·intro i h1 h2
  simp [madeCells,i64s,Value.cells,Nat.mod_one]
theorem I2:(Tryz.prog.info? 2).map (fun i=>(i.zero,i.size,i.bytes))=some (some (.int .i64 0),1,8):=by kernel_rfl
theorem URw:Tryz.prog.underlying 24=some (.slice 2):=by kernel_rfl
theorem make_row (m:Nat) (hm:m≤1000) (w:World):(Instr.makeSlice 24 (.int .i64 m) (.int .i64 m)).run Tryz.prog w= .ok (.slice (some ⟨w.heap.size,0,none⟩) m m) (w.alloc (.cells (i64s (List.replicate m 0)) 2)):=by
 obtain ⟨E,G,B,A,C⟩:=info_parts I2
 have:=run_make (P:=Tryz.prog) w 24 2 E _ URw G B .i64 .i64 m m (by omega) (by omega) (by rw [C];omega) (by omega)
 rw [this,A]
 simp only [Int.toNat_natCast,Nat.mul_one,y2C]
def ivals (L:List Int):List Value:=L.map (Value.int .i64)
theorem x3D (L:List Int):∀u∈ivals L,u.oneCell'=true:=by
 intro u hu
 simp only [ivals,List.mem_map] at hu
 obtain ⟨x,_,rfl⟩:=hu
 rfl
theorem x21 {w:World} {g:Nat} {L:List Int} {t:TypeId} (hg:w.heap[g]? =some (.cells (i64s L) t (0,0))):∀j u,(ivals L)[j]? =some u→w.cell? ((⟨g,0,none⟩:Addr).add j)=some u:=fun j u hu=>by
 rw [Addr.add_mid,Nat.zero_add,cell_of_row w g j _ _ _ hg,← Array.getElem?_toList]
 exact hu
theorem x4D {w:World} {base n:Nat} {v:Value} {L:List Int} (h:w.ownsRow base 2 1 v n (ivals L)) (hL:Mm.inI L):∃q c,v= .slice q n c∧Ints w q n c L:=by
 have B:n=L.length:=by have:=h.1;rw [ivals,List.length_map,Nat.mul_one] at this;exact this.symm
 rcases h.2 with ⟨rfl,J⟩ | ⟨g,E,A,rfl,G,I,C,K,M,H⟩
 ·subst J
  have G:L=[]:=List.length_eq_zero_iff.1 B.symm
  exact ⟨none,0,rfl,B,Nat.le_refl _,hL,Or.inl G⟩
 ·refine ⟨_,E,rfl,B,C,hL,Or.inr ⟨g,0,rfl,fun i hi=>?_⟩⟩
  rw [Nat.zero_add,cell_of_row w g i A _ _ I]
  have e:(A.toList.take (n*1))[i]? =(ivals L)[i]? :=by rw [H]
  rw [List.getElem?_take_of_lt (by omega)] at e
  simp [ivals,List.getElem?_eq_getElem hi] at e
  rw [e]
  simp [List.getD_eq_getElem?_getD,List.getElem?_eq_getElem hi]
end Go.Proofs.YtinihaflmdihaaaGreat.Mo
namespace Go.Proofs.YtinihaflmdihaaaGreat
open Go.RowKit
theorem A22:Tryz.prog.underlying 45=some (.slice 5):=by kernel_rfl
theorem x6H {w:World} {p:Option Addr} {n c:Nat} {B:List Nat} (h:Bytes w p n c B) (hB:B≠[]):(convert 45 9 (.slice p n c)).run Tryz.prog w= .ok (.string (strOfNums (B.map Int.ofNat))) w:=by
 obtain ⟨g,o,rfl,C⟩:=h.ne hB
 exact run_convert_bytes_arg (P:=Tryz.prog) w 45 5 A22 U5 g o n c (B.map Int.ofNat) (by rw [List.length_map];exact h.size.symm) (fun i hi=>by
  have A:i<B.length:=by have:=h.size;omega
  rw [C i A]
  simp [List.getD_eq_getElem?_getD,A]) 9 A9
theorem x5b {w:World} {p:Option Addr} {n c:Nat} {B:List Nat} (h:Tx w p n c B):(convert 45 9 (.slice p n c)).run Tryz.prog w= .ok (.string (strOf B)) w:=by
 by_cases hB:B=[]
 ·subst hB
  obtain rfl:n=0:=h.size
  rw [run_convert_bytes_string w _ _ _ _ _ _ A22 U5 A9]
  cases p with
  | none=>rfl
  | some x=>exact rfl
 ·exact x6H h.bytes hB
end Go.Proofs.YtinihaflmdihaaaGreat
