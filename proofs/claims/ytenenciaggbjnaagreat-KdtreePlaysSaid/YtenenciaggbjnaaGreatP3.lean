/- KrSort, KtApp, KrAll, KrLay, GenOwn, BoxClone, NdKd0, GenEqs, BoxRefB, BoxRefG. -/
import Derived.BigRegion
import Derived.Laws.AppendOwnNone
import Derived.Laws.OwnMore
import Derived.Lib.SliceRun
import Derived.Test.YtenenciaggbjnaaGreatP2
set_option maxRecDepth 100000
set_option maxHeartbeats 8000000
set_option linter.all false
namespace Go.Proofs.YtenenciaggbjnaaGreat
namespace Kt
open Go.RowKit
open List renaming setIfInBounds_toArray -> yA, set_cons_zero -> yB, set_cons_succ -> yC
theorem IRs:(Tryz.prog.info? 24).map (fun i=>(i.zero,i.size,i.bytes))=some (some (.slice none 0 0),1,24):=by kernel_rfl
theorem URSs:Tryz.prog.underlying 51=some (.slice 24):=by kernel_rfl
theorem y1u (a:Nat) (x:List Int):∀(out:List (List Int)) (j:Nat),j<=out.length->(∀t,t<j->lessP a (out.getD t []) x=true)->(j=out.length\/lessP a (out.getD j []) x=false)->insP a out x=out.take j++[x]++out.drop j
 |[],j,hj,_,_=>by
  obtain rfl:j=0:=by simpa using hj
  rfl
 | y::out,0,_,_,h=>by
  have h:lessP a y x=false:=by
   rcases h with h | h
   ·simp at h
   ·exact h
  unfold insP;rw [List.takeWhile_cons_of_neg (by simp [h]),List.dropWhile_cons_of_neg (by simp [h])];rfl
 | y::out,j+1,hj,h1,h2=>by
  have B:lessP a y x=true:=h1 0 (by omega);have A:=y1u a x out j (by simpa using hj) (fun t ht=>h1 (t+1) (by omega)) (h2.imp (by simp) id);unfold insP at A ⊢;rw [List.takeWhile_cons_of_pos (p:=fun y=>lessP a y x) B,List.dropWhile_cons_of_pos (p:=fun y=>lessP a y x) B,List.cons_append,A];rfl
theorem y0q (a:Nat) (L:List (List Int)) (x:List Int):sortP a (L++[x])=insP a (sortP a L) x:=by
 unfold sortP;rw [List.foldl_append];rfl
theorem x5Z (w:World) (p:Option Addr) (n c:Nat) (R:List Int):∀j u,(hds [⟨p,n,c,R⟩])[j]? =some u->(w.alloc (.cells #[.slice p n c] 24)).cell? ((⟨w.heap.size,0,none⟩:Addr).add j)=some u:=fun j u hu=>by
 have hj:j=0:=by have:=(List.getElem?_eq_some_iff.1 hu).1;simp [hds] at this;omega
 subst hj
 simp [hds,Rw.val] at hu
 rw [Addr.add_mid,<- hu]
 exact jH _ _ 0 _ _ (0,0) (jE w _)
theorem y1v {w:World} {g o n c:Nat} {L:List Rw} (h:RowsIn w (some ⟨g,o,none⟩) n c L) (j:Nat):∀i u,(hds (L.drop j))[i]? =some u->w.cell? ((⟨g,o+j,none⟩:Addr).add i)=some u:=fun i u hu=>by
 have hi:i<(L.drop j).length:=by have:=(List.getElem?_eq_some_iff.1 hu).1;rw [x1O] at this;exact this
 rw [kY] at hi
 rcases h.at' with E | ⟨H,G,B,C⟩
 ·rw [E] at hi
  simp at hi
 ·simp only [Option.some.injEq,Addr.mk.injEq,and_true] at B
  obtain ⟨rfl,rfl⟩:=B
  have:=C (j+i) (by omega)
  rw [Addr.add_mid,Nat.add_assoc,this]
  have A:j+i<L.length:=by omega
  simp [hds,List.getElem?_drop,A,-List.getD_eq_getElem?_getD] at hu
  rw [<- hu,jG,jM A]
  rfl
def x9t (w:World) (a n:Nat) (LR:List Rw) (e:Ending) (w':World):Prop:=∃(O:List Rw) (v:Value),e= .returned v/\Own w.heap.size w' v n O/\O.map Rw.R=sortP a (LR.map Rw.R)/\(∀r∈O,r∈LR)/\Below w.heap.size w w'
def So1 (w:World) (a n:Nat) (LR:List Rw) (v i:Value) (wr:World):Prop:=∃(k:Nat) (O:List Rw),k<=n/\i= .int .i64 k/\Own w.heap.size wr v k O/\O.map Rw.R=sortP a ((LR.take k).map Rw.R)/\(∀r∈O,r∈LR)/\(k=0->v= .slice none 0 0)/\Below w.heap.size w wr
def So2 (a:Nat) (x:List Int) (w2:World) (O:List Rw) (v kv:Value) (wr:World):Prop:=∃j:Nat,j<=O.length/\kv= .int .i64 j/\wr.ownsRow w2.heap.size 24 1 v j (hds (O.take j))/\(∀t,t<j->lessP a (O.getD t default).R x=true)/\Below w2.heap.size w2 wr
theorem x7O {w w2 w':World} {a n k j y:Nat} {LR O:List Rw} {v:Value} (hL:∀r∈LR,r.Ok w) (hOL:∀r∈O,r∈LR) (hk:k<n) (hn:n=LR.length) (hlen:k=O.length) (hj:j<=O.length)
  (hi:(O.take j++[LR.getD k default]++O.drop j).map Rw.R=sortP a ((LR.take (k+1)).map Rw.R)) (ho:w'.ownsRow w2.heap.size 24 1 v y (hds (O.take j++[LR.getD k default]++O.drop j))) (hb1:Below w.heap.size w w2) (hb:Below w2.heap.size w2 w'):So1 w a n LR v (.int .i64 ((k:Int)+1)) w':=by
 have C:=hb1.trans (hb.mono hb1.size);have E:y=k+1:=by
  have:=ho.1;rw [x1O,Nat.mul_one,jQ,jQ,kX,kY] at this;simp at this;omega
 subst E;have B:∀r∈O.take j++[LR.getD k default]++O.drop j,r∈LR:=fun r A=>by
  rcases jP.1 A with A | A
  ·rcases jP.1 A with A | A
   ·exact hOL r (List.mem_of_mem_take A)
   ·rw [kZ.1 A];exact x3e (by omega)
  ·exact hOL r (List.mem_of_mem_drop A)
 exact ⟨k+1,_,by omega,by go_num,(Own.base ⟨ho,fun r A=>(hL r (B r A)).later C⟩ hb1.size),hi,B,fun h=>by omega,C⟩
theorem y5Q {a k j:Nat} {LR O:List Rw} (hk:k<LR.length) (hO:O.map Rw.R=sortP a ((LR.take k).map Rw.R)) (hj:j<=O.length) (h1:∀t,t<j->lessP a (O.getD t default).R (LR.getD k default).R=true) (h2:j=O.length\/lessP a (O.getD j default).R (LR.getD k default).R=false):
  (O.take j++[LR.getD k default]++O.drop j).map Rw.R=sortP a ((LR.take (k+1)).map Rw.R):=by
 have e:(LR.take (k+1)).map Rw.R=(LR.take k).map Rw.R++[(LR.getD k default).R]:=by
  rw [List.take_succ_eq_append_getElem hk,List.map_append,jG,jM hk];rfl
 have A:(O.map Rw.R).length=O.length:=by rw [kH]
 rw [e,y0q,<- hO,y1u a _ (O.map Rw.R) j (by rw [A];exact hj) (fun t ht=>by rw [x6e (by omega)];exact h1 t ht) ?_]
 ·simp only [List.map_append,List.map_take,List.map_drop,kB,kC]
 ·rcases h2 with h2 | h2
  ·exact Or.inl (by rw [A];exact h2)
  ·rcases Nat.lt_or_ge j O.length with B | B
   ·exact Or.inr (by rw [x6e B];exact h2)
   ·exact Or.inl (by rw [A];omega)
theorem x8E (p:Option Addr) (n c:Nat) (LR:List Rw) (a d:Nat) (w:World) (hL:RowsIn w p n c LR) (hd:∀r∈LR,r.n=d) (ha:a<d) (hn:n<=1000):
  Calls Tryz.prog 30 #[.slice p n c,.int .i64 a] w (x9t w a n LR):=by
 obtain ⟨P,g,Ad,AX,Ae⟩:=info_parts IRs;have HI:=yH g;have Q:=yH Ad;have f:=yH AX;have U:=yH Ae;have L1:=yH hL;have HD:=yH hd;have HA:=yH ha;have HNL:=yH hL.size;clear g Ad AX Ae hL hd ha
 go_enter Tryz.func30,Tryz.ntmps30
 go_wp2_with fail
 go_loopw [5,6] (fun v i wr=>So1 w a n LR v i wr) (fun _ i _=>n - (intOf i).toNat)
 case atStart=>exact ⟨0,[],by omega,rfl,y5j _ _,rfl,(fun r hr=>by cases hr),fun _=>rfl,jC _ _⟩
 case round=>
  obtain ⟨k,O,hk,rfl,s,AY,Ag,hz,hb⟩:=hrel;obtain ⟨q2,c2,rfl,o⟩:=s.rows;have HLEN:=yH s.len;have Af:=yH s;have AH:=yH o;have AO:=yH AY;have HOL:=yH Ag;have HZ:=yH hz;have HBW:=yH hb;have As:=o.le;clear s AY Ag hz hb o;obtain ⟨A,Am⟩:∃A,A=wr:=⟨_,rfl⟩
  subst Am;by_cases hlt:k<n
  ·obtain ⟨gL,oL,rfl,A7,A2⟩:=(L1.out.later HBW.out).cell k hlt;have Aa:LR.getD k default∈LR:=x3e (by have:=HNL.out;omega);have AK:=yH (HD.out _ Aa);obtain ⟨t,ht⟩:∃t,t=LR.getD k default:=⟨_,rfl⟩
   rw [<- ht] at A7 A2 AK;have A0:=yH ht;obtain ⟨R,Z,Y,l⟩:=t;unfold Rw.val at A7;simp only at A7 AK;have G:=yH A7;have Ab:=yH A2;have i1:(0:Int)<=k/\(k:Int)<n:=by omega
   clear A7 A2 Aa ht;go_wp2_with fail
   go_loopw [7,8] (fun v j wr=>So2 a l A O v j wr) (fun _ j _=>k - (intOf j).toNat)
   case atStart=>exact ⟨0,by omega,rfl,⟨rfl,Or.inl ⟨rfl,rfl⟩⟩,(fun t ht=>by omega),jC _ _⟩
   case round=>
    obtain ⟨j,hj,rfl,AZ,AE,AV⟩:=hrel;have HJ:=yH hj;have L:=yH AZ;have A5:=yH AE;have B:=yH AV;have Ay:j<=k:=by rw [HLEN.out];exact hj
    clear AZ AE AV hj;by_cases hjl:j<k
    ·
     obtain ⟨gO,oO,rfl,X,A4⟩:=AH.out.cell j hjl;have AD:O.getD j default∈O:=x3e (by have:=HLEN.out;omega);have AB:=yH (HD.out _ (HOL.out _ AD));obtain ⟨u,hu⟩:∃u,u=O.getD j default:=⟨_,rfl⟩
     rw [<- hu] at X A4 AB;have AG:=yH hu;obtain ⟨up,un,uc,uR⟩:=u;unfold Rw.val at X;simp only at X AB;have z:=yH X;have AC:=yH A4;have H:=yH (show ∀w',Below A.heap.size A w'->Calls Tryz.prog 76 #[.slice up un uc,.slice R Z Y,.int .i64 a] w' fun e w''=>e= .returned (.bool (lessP a uR l))/\∃x,w''=w'.drewN x from fun w' hb=>x5Y up R un uc Z Y uR l a w' (AC.out.ints.later hb) (Ab.out.ints.later hb) (by rw [AK.out,AB.out]) (by rw [AB.out];exact HA.out) AC.out.top);have j1:(0:Int)<=j/\(j:Int)<k:=by omega
     clear A4 AD hu X;go_upto_region 7 with fail
     cases hbv:lessP a uR l with
     | true=>
      have hc:=H.out;rw [hbv] at hc;have HC:=yH hc;have AN:=yH hbv;clear hc hbv H;refine kD (S:=fun w'=>Below A.heap.size A w') (by kernel_rfl) B.out.drew (fun hH=>?_);refine tK 0 ?_;refine tK 1 ?_;refine tK 2 ?_;refine tK 3 ?_;refine tK 4 ?_;refine tK 5 ?_;refine tK 6 ?_;refine tK 7 ?_;refine tQ 8 ?_ ?_ ?_;rotate_left
      ·intro w' hSw;have X:=(hSw.cell (jI z.out)).trans z.out;go_simp;try with_reducible rfl
      refine tK 9 ?_;refine tK 10 ?_;refine tK 11 ?_;refine tQ 12 ?_ ?_ ?_;rotate_left
      ·intro w' hSw;have Al:=(hSw.cell (jI G.out)).trans G.out;go_simp;try with_reducible rfl
      refine tK 13 ?_;refine rO 14 fun K hK=>?_;go_simp;refine (HC.out _ hH).mono ?_;rintro _ w5 ⟨rfl,nx,m⟩;have A3:Below A.heap.size A w5:=by rw [m];exact Below.drewN hH _
      have A6:Below wr.heap.size wr w5:=by rw [m];exact Below.drewN (jC _ _).drew _
      clear m;try go_wp2_with fail
      refine hK.out _ _ A3 (fun hH=>?_);clear hK K;try simp only [Act.put,yA,yB,yC]
      refine tK 15 ?_;refine jD ?_;have b6:=hH;obtain ⟨N,J⟩:∃N,N=w5:=⟨_,rfl⟩
      rw [<- J] at b6 ⊢;have W:=x2U L.out (show Below wr.heap.size wr N from by rw [J];exact A6);clear hH L B J A6 A3;have L:=yH W;have B:=yH b6;have X:=(B.out.cell (jI z.out)).trans z.out;have C:=yH B.out.size;clear W b6;go_wp2_with (at_builtin;refine wpList_append_own _ (by rfl) (.tmp 31) (.tmp 36) 51 (by rfl) A.heap.size 24 P (.slice none 0 0) 1 24 URSs HI.out Q.out f.out U.out (by rfl) (by decide) _ j _ (by rfl) (L.out.alloc _) ⟨N.heap.size,0,none⟩ 1 1 (hds [⟨up,un,uc,uR⟩]) (by rfl) (by rfl) (x5Z N up un uc uR) (x1q _) (by unfold maxLen;omega) (by omega) (by have:=C.out;simp;omega) ?_;intro v7 w7 hown7 hgrow7 _)
      have E:Below A.heap.size A w7:=(B.out.alloc B.out.size _).grown hgrow7 (by have:=C.out;simp;omega) (fun i g=>((L.out.alloc (.cells #[.slice up un uc] 24)).lt i g).1);have e7:hds (O.take j)++hds [⟨up,un,uc,uR⟩]=hds (O.take (j+1)):=by
       rw [<- x0t,AG.out]
       congr 1
       have AW:j<O.length:=by have:=HLEN.out;omega
       rw [List.take_succ_eq_append_getElem AW,jG,jM AW];rfl
      rw [e7] at hown7;go_roundw
      case rel=>exact ⟨j+1,by have:=HLEN.out;omega,by go_num,hown7,(fun t ht=>by
       rcases Nat.lt_or_ge t j with h | h
       ·exact A5.out t h
       ·obtain rfl:t=j:=by omega
        rw [<- AG.out];exact AN.out),E⟩
      case measure=>simp [intOf];omega
     | false=>
      have hc:=H.out;rw [hbv] at hc;have HC:=yH hc;have AN:=yH hbv;clear hc hbv H;refine kD (S:=fun w'=>Below A.heap.size A w') (by kernel_rfl) B.out.drew (fun hH=>?_);refine tK 0 ?_;refine tK 1 ?_;refine tK 2 ?_;refine tK 3 ?_;refine tK 4 ?_;refine tK 5 ?_;refine tK 6 ?_;refine tK 7 ?_;refine tQ 8 ?_ ?_ ?_;rotate_left
      ·intro w' hSw;have X:=(hSw.cell (jI z.out)).trans z.out;go_simp;try with_reducible rfl
      refine tK 9 ?_;refine tK 10 ?_;refine tK 11 ?_;refine tQ 12 ?_ ?_ ?_;rotate_left
      ·intro w' hSw;have Al:=(hSw.cell (jI G.out)).trans G.out;go_simp;try with_reducible rfl
      refine tK 13 ?_;refine rO 14 fun K hK=>?_;go_simp;refine (HC.out _ hH).mono ?_;rintro _ w5 ⟨rfl,nx,m⟩;have A3:Below A.heap.size A w5:=by rw [m];exact Below.drewN hH _
      have A6:Below wr.heap.size wr w5:=by rw [m];exact Below.drewN (jC _ _).drew _
      clear m;try go_wp2_with fail
      refine hK.out _ _ A3 (fun hH=>?_);clear hK K;try simp only [Act.put,yA,yB,yC]
      refine tK 15 ?_;refine jD ?_;have HINS:=yH (y5Q (by rw [<- HNL.out];exact hlt) AO.out HJ.out (by rw [<- A0.out];exact A5.out) (Or.inr (by rw [<- A0.out,<- AG.out];exact AN.out)));have b6:=hH;obtain ⟨N,J⟩:∃N,N=w5:=⟨_,rfl⟩
      rw [<- J] at b6 ⊢;have W:=x2U L.out (show Below wr.heap.size wr N from by rw [J];exact A6);clear hH L B J A6 A3;have L:=yH W;have B:=yH b6;clear W b6;have A8:=yH (show (hds (O.drop j)).length=(k - j)*1 by rw [x1O,kY,<- HLEN.out,Nat.mul_one]);have y:=yH (fun (w':World) (hb:Below A.heap.size A w')=>y1v (AH.out.later hb) j);have cj:¬c2=j:=by omega
      clear j1;have C:=yH B.out.size;have b:=(B.out.cell (jI G.out)).trans G.out;go_upto_region 11 with (at_builtin;refine wpList_append_own _ (by rfl) (.tmp 40) (.tmp 45) 51 (by rfl) A.heap.size 24 P (.slice none 0 0) 1 24 URSs HI.out Q.out f.out U.out (by rfl) (by decide) _ j _ (by rfl) (L.out.alloc _) ⟨N.heap.size,0,none⟩ 1 1 (hds [⟨R,Z,Y,l⟩]) (by rfl) (by rfl) (x5Z N R Z Y l) (x1q _) (by unfold maxLen;omega) (by omega) (by have:=C.out;simp;omega) ?_;intro v7 w7 hown7 hgrow7 _)
      have E:Below A.heap.size A w7:=(B.out.alloc B.out.size _).grown hgrow7 (by have:=C.out;simp;omega) (fun i g=>((L.out.alloc (.cells #[.slice R Z Y] 24)).lt i g).1);rw [<- x0t] at hown7;have M:=yH hown7;have B7:=yH E;clear hown7 hgrow7 E b L;have I:=yH B7.out.size;go_wp2_with (at_builtin;refine wpList_append_own _ (by rfl) (.tmp 47) (.tmp 50) 51 (by rfl) A.heap.size 24 P (.slice none 0 0) 1 24 URSs HI.out Q.out f.out U.out (by rfl) (by decide) _ (j+1) _ (by rfl) M.out ⟨gO,oO+j,none⟩ _ _ (hds (O.drop j)) (by rfl) A8.out (y.out _ B7.out) (x1q _) (by unfold maxLen;omega) (by omega) I.out ?_;intro v8 w8 hown8 hgrow8 _)
      have hb8:Below A.heap.size A w8:=B7.out.grown hgrow8 I.out (fun i g=>(M.out.lt i g).1);rw [<- x0t] at hown8;rw [show (⟨R,Z,Y,l⟩:Rw)=_ from A0.out] at hown8;go_roundw
      case rel=>exact x7O L1.out.each HOL.out hlt HNL.out HLEN.out HJ.out HINS.out hown8 HBW.out hb8
      case measure=>simp [intOf];omega
    focus
     obtain rfl:j=k:=by omega
     have HINS:=yH (y5Q (by rw [<- HNL.out];exact hlt) AO.out HJ.out (by rw [<- A0.out];exact A5.out) (Or.inl HLEN.out));have AI:=yH (show O.drop j=[] from List.drop_of_length_le (by rw [<- HLEN.out];exact jB _));have jj:¬(j:Int)<j:=by omega
     go_upto_region 7 with fail
     refine kD (S:=fun w'=>Below A.heap.size A w') (by kernel_rfl) B.out.drew (fun hH=>?_);refine tK 0 ?_;refine tK 1 ?_;refine tK 2 ?_;refine tK 3 ?_;refine tK 4 ?_;refine tF 5 ?_;refine tF 6 ?_;refine tF 7 ?_;refine tF 8 ?_;refine tF 9 ?_;refine tF 10 ?_;refine tF 11 ?_;refine tF 12 ?_;refine tF 13 ?_;refine tF 14 ?_;refine tK 15 ?_;refine jD ?_;have b6:=hH;obtain ⟨N,J⟩:∃N,N=wr.drew:=⟨_,rfl⟩
     rw [<- J] at b6 ⊢;have W:=x2U L.out (show Below wr.heap.size wr N from by rw [J];exact (jC _ _).drew);clear hH L B J jj;have L:=yH W;have B:=yH b6;clear W b6;rcases Nat.eq_zero_or_pos j with h0 | h0
     ·
      have hq:=HZ.out h0;simp only [Value.slice.injEq] at hq;obtain ⟨rfl,-,rfl⟩:=hq;subst h0;have C:=yH B.out.size;have b:=(B.out.cell (jI G.out)).trans G.out;rw [Nat.add_zero] at b;go_upto_region 11 with (at_builtin;refine wpList_append_own _ (by rfl) (.tmp 40) (.tmp 45) 51 (by rfl) A.heap.size 24 P (.slice none 0 0) 1 24 URSs HI.out Q.out f.out U.out (by rfl) (by decide) _ 0 _ (by rfl) (L.out.alloc _) ⟨N.heap.size,0,none⟩ 1 1 (hds [⟨R,Z,Y,l⟩]) (by rfl) (by rfl) (x5Z N R Z Y l) (x1q _) (by unfold maxLen;omega) (by omega) (by have:=C.out;simp;omega) ?_;intro v7 w7 hown7 hgrow7 _)
      have E:Below A.heap.size A w7:=(B.out.alloc B.out.size _).grown hgrow7 (by have:=C.out;simp;omega) (fun i g=>((L.out.alloc (.cells #[.slice R Z Y] 24)).lt i g).1);rw [<- x0t] at hown7;have M:=yH hown7;have B7:=yH E;clear hown7 hgrow7 E b L;go_wp2_with (at_builtin;refine wpList_append_own_none (by rfl) (.tmp 47) (.tmp 50) 51 (by rfl) A.heap.size 24 P 1 URSs HI.out _ (0+1) _ (by rfl) M.out (by rfl) ?_)
      have he:=M.out;rw [show O.take 0++[⟨R,Z,Y,l⟩]=O.take 0++[LR.getD 0 default]++O.drop 0 from by rw [AI.out,kW,A0.out]] at he;go_roundw
      case rel=>exact x7O L1.out.each HOL.out hlt HNL.out HLEN.out HJ.out HINS.out he HBW.out B7.out
      case measure=>simp [intOf];omega
     ·
      obtain ⟨gO,oO,rfl,-,-⟩:=AH.out.cell 0 h0;have A8:=yH (show (hds (O.drop j)).length=0*1 by rw [AI.out];rfl);have y:=yH (fun (w':World) (_:Below A.heap.size A w') (x:Addr)=>show ∀i u,(hds (O.drop j))[i]? =some u->w'.cell? (x.add i)=some u from by rw [AI.out];intro i u hu;simp [hds] at hu);by_cases cj:c2=j
      focus
       obtain rfl:j=c2:=cj.symm;have C:=yH B.out.size;have b:=(B.out.cell (jI G.out)).trans G.out;go_upto_region 11 with (at_builtin;refine wpList_append_own _ (by rfl) (.tmp 40) (.tmp 45) 51 (by rfl) A.heap.size 24 P (.slice none 0 0) 1 24 URSs HI.out Q.out f.out U.out (by rfl) (by decide) _ j _ (by rfl) (L.out.alloc _) ⟨N.heap.size,0,none⟩ 1 1 (hds [⟨R,Z,Y,l⟩]) (by rfl) (by rfl) (x5Z N R Z Y l) (x1q _) (by unfold maxLen;omega) (by omega) (by have:=C.out;simp;omega) ?_;intro v7 w7 hown7 hgrow7 _)
       have E:Below A.heap.size A w7:=(B.out.alloc B.out.size _).grown hgrow7 (by have:=C.out;simp;omega) (fun i g=>((L.out.alloc (.cells #[.slice R Z Y] 24)).lt i g).1);rw [<- x0t] at hown7;have M:=yH hown7;have B7:=yH E;clear hown7 hgrow7 E b L;have I:=yH B7.out.size;go_wp2_with (at_builtin;refine wpList_append_own _ (by rfl) (.tmp 47) (.tmp 50) 51 (by rfl) A.heap.size 24 P (.slice none 0 0) 1 24 URSs HI.out Q.out f.out U.out (by rfl) (by decide) _ (j+1) _ (by rfl) M.out ⟨gO,oO,none⟩ _ _ (hds (O.drop j)) (by rfl) A8.out (y.out _ B7.out ⟨gO,oO,none⟩) (x1q _) (by unfold maxLen;omega) (by omega) I.out ?_;intro v8 w8 hown8 hgrow8 _)
      rotate_left
      focus
       skip
       have C:=yH B.out.size;have b:=(B.out.cell (jI G.out)).trans G.out;go_upto_region 11 with (at_builtin;refine wpList_append_own _ (by rfl) (.tmp 40) (.tmp 45) 51 (by rfl) A.heap.size 24 P (.slice none 0 0) 1 24 URSs HI.out Q.out f.out U.out (by rfl) (by decide) _ j _ (by rfl) (L.out.alloc _) ⟨N.heap.size,0,none⟩ 1 1 (hds [⟨R,Z,Y,l⟩]) (by rfl) (by rfl) (x5Z N R Z Y l) (x1q _) (by unfold maxLen;omega) (by omega) (by have:=C.out;simp;omega) ?_;intro v7 w7 hown7 hgrow7 _)
       have E:Below A.heap.size A w7:=(B.out.alloc B.out.size _).grown hgrow7 (by have:=C.out;simp;omega) (fun i g=>((L.out.alloc (.cells #[.slice R Z Y] 24)).lt i g).1);rw [<- x0t] at hown7;have M:=yH hown7;have B7:=yH E;clear hown7 hgrow7 E b L;have I:=yH B7.out.size;go_wp2_with (at_builtin;refine wpList_append_own _ (by rfl) (.tmp 47) (.tmp 50) 51 (by rfl) A.heap.size 24 P (.slice none 0 0) 1 24 URSs HI.out Q.out f.out U.out (by rfl) (by decide) _ (j+1) _ (by rfl) M.out ⟨gO,oO+j,none⟩ _ _ (hds (O.drop j)) (by rfl) A8.out (y.out _ B7.out ⟨gO,oO+j,none⟩) (x1q _) (by unfold maxLen;omega) (by omega) I.out ?_;intro v8 w8 hown8 hgrow8 _)
      rotate_left;all_goals
       have hb8:Below A.heap.size A w8:=B7.out.grown hgrow8 I.out (fun i g=>(M.out.lt i g).1);rw [<- x0t] at hown8;rw [show (⟨R,Z,Y,l⟩:Rw)=_ from A0.out] at hown8;go_roundw
       case rel=>exact x7O L1.out.each HOL.out hlt HNL.out HLEN.out HJ.out HINS.out hown8 HBW.out hb8
       case measure=>simp [intOf];omega
    rotate_left 2
  ·obtain rfl:k=n:=by omega
   have q:=AO.out;rw [HNL.out,List.take_length] at q;have AF:=yH q;clear q;go_wp2_with fail
   go_ret;exact ⟨O,_,rfl,Af.out,AF.out,HOL.out,HBW.out⟩
theorem y0r {w:World} {b b':Nat} {v:Value} {n:Nat} {xs:List Value} (h:w.ownsRow b 24 1 v n xs) (hb:b'<=b):w.ownsRow b' 24 1 v n xs:=
 ⟨h.1,h.2.imp id fun ⟨g,cap,cur,hv,hl,r⟩=>⟨g,cap,cur,hv,jJ hb hl,r⟩⟩
theorem x5a {w:World} {o:Oper} {a:Act} {K:Act->World->Prop} {Q:Exit->Act->World->Prop} (s x:Operand)
  (ho:o.op= .call {callee:=.builtin .append,args:= #[s,x],argTypes:= #[51,51]})
  {B B2:Nat} {v v2:Value} {n m:Nat} {O1 O2:List Rw} (hs:a.eval s=v) (hx:a.eval x=v2) (h1:w.ownsRow B 24 1 v n (hds O1)) (h2:w.ownsRow B2 24 1 v2 m (hds O2)) (hbig:n+m<=1000000) (hB:B<=w.heap.size)
  (h:∀v' w',w'.ownsRow B 24 1 v' (n+m) (hds (O1++O2))->Below B w w'->K (a.put o.dst v') w'):o.wp Tryz.prog a w K Q:=by
 obtain ⟨E,N,H,G,J⟩:=info_parts IRs;have M:m=O2.length:=by
  have:=h2.1;rw [x1O,Nat.mul_one] at this;exact this.symm
 rcases h2.2 with ⟨A,W⟩ | ⟨g,L,I,A,_,U,R,Z,_,X⟩
 ·subst W;obtain rfl:O2=[]:=jZ.1 M.symm;have C:=run_append_owned_none (P:=Tryz.prog) (w:=w) B 51 o.type 24 E 1 URSs N v n _ h1;have O:=h v w (by rw [kW];exact h1) (jC _ _);unfold Oper.wp;simp [execOp,ho,resolve,invoke,builtin,hs,hx,A,C,Result.andThen];exact O
 ·refine wp_append_own _ s x 51 ho B 24 E (.slice none 0 0) 1 24 URSs N H G J (by rfl) (by decide) v n _ hs h1 ⟨g,0,none⟩ m L (hds O2) (by rw [hx,A]) h2.1 (fun j u hu=>?_) (x1q _) (by unfold maxLen;omega) (by omega) hB (fun v' w' k1 k2 _=>h v' w' (by rw [x0t];exact k1) ((jC B w).grown k2 hB (fun k hk=>(h1.lt k hk).1)));have Y:j<O2.length:=by have:=(List.getElem?_eq_some_iff.1 hu).1;rw [x1O] at this;exact this
  rw [Addr.add_mid,Nat.zero_add,jH w g j _ _ _ U];have e:(I.toList.take (m*1))[j]? =(hds O2)[j]? :=by rw [X]
  rw [List.getElem?_take_of_lt (by omega),hu] at e
  simpa using e
theorem x5b {w:World} {ops:Array Oper} {rest:List Oper} {o:Oper} {a:Act} {Q:Exit->Act->World->Prop} (hgd:o.guard=none) (s x:Operand)
  (ho:o.op= .call {callee:=.builtin .append,args:= #[s,x],argTypes:= #[51,51]})
  {B B2:Nat} {v v2:Value} {n m:Nat} {O1 O2:List Rw} (hs:a.eval s=v) (hx:a.eval x=v2) (h1:w.ownsRow B 24 1 v n (hds O1)) (h2:w.ownsRow B2 24 1 v2 m (hds O2)) (hbig:n+m<=1000000) (hB:B<=w.heap.size)
  (h:∀v' w',w'.ownsRow B 24 1 v' (n+m) (hds (O1++O2))->Below B w w'->wpList Tryz.prog ops Q rest (a.put o.dst v') w'):wpList Tryz.prog ops Q (o::rest) a w:=
 wpList_plain hgd fun _ hK=>x5a s x ho hs hx h1 h2 hbig hB fun v' w' k1 k2=>hK _ _ (h v' w' k1 k2)
theorem y5k (w:World) (p:Option Addr) (n c:Nat) (R:List Int):(w.alloc (.cells #[.slice p n c] 24)).ownsRow w.heap.size 24 1 (.slice (some ⟨w.heap.size,0,none⟩) 1 1) 1 (hds [⟨p,n,c,R⟩]):=by
 refine ⟨rfl,Or.inr ⟨w.heap.size,1,#[.slice p n c],rfl,jB _,jE w _,jB _,by unfold maxLen;omega,rfl,rfl⟩⟩
theorem x9u:∀u:T,u.all.length<=u.size
 | .nil=>jB _
 | .fork p v l r=>by
  have h1:=x9u l
  have h2:=x9u r
  unfold T.all T.size
  cases v<;>simp<;>omega
def y1w (F:Nat->Prop) (w0 w:World) (u:T) (e:Ending) (w':World):Prop:=∃(O:List Rw) (v:Value),e= .returned v/\w'.ownsRow w.heap.size 24 1 v O.length (hds O)/\O.map Rw.R=u.all/\(∀r∈O,r.Ok w0/\RwIn F r)/\Below w.heap.size w w'
theorem x7P {F:Nat->Prop} (u:T):∀(p:Option Addr) (w0 w:World),TAt F w0 p u->Below w0.heap.size w0 w->u.size<=1000->Calls Tryz.prog 31 #[.pointer p] w (y1w F w0 w u):=by
 induction u with
 | nil=>
  intro p w0 w h _ _;obtain rfl:p=none:=by cases h;rfl
  clear h
  go_enter Tryz.func31,Tryz.ntmps31
  go_wp2_with fail
  go_ret;exact ⟨[],_,rfl,⟨rfl,Or.inl ⟨rfl,rfl⟩⟩,rfl,(fun r B=>by cases B),jC _ _⟩
 | fork x v l u ihl ihr=>
  intro p w0 w h hb0 hs;obtain ⟨g,r,a,b,rfl,rfl,C,s,-,J,o,B⟩:=h.go;have I:=(hb0.block g (yL C)).trans C;have hn:(T.fork r.R v l u).all=l.all++u.all++if v then [r.R] else []:=rfl;have m:(T.fork r.R v l u).size=1+l.size+u.size:=rfl;rw [m] at hs;have HL:=yH (fun w' (hb:Below w.heap.size w w')=>ihl a w0 w' o (hb0.trans (hb.mono hb0.size)) (by omega));have HR:=yH (fun w' (hb:Below w.heap.size w w')=>ihr b w0 w' B (hb0.trans (hb.mono hb0.size)) (by omega));have A:=yH I;have Q:=yH (And.intro s J);have L1:=yH (jJ (x9u l) (show l.size<=1000 by omega));have L2:=yH (jJ (x9u u) (show u.size<=1000 by omega));clear ihl ihr h o B s J I m hs C hn;obtain ⟨rp,j,rc,k⟩:=r
  go_enter Tryz.func31,Tryz.ntmps31
  go_upto_region 3 with fail
  refine kD (S:=fun w'=>Below w.heap.size w w') (by kernel_rfl) (jC _ _).drew (fun hH=>?_);refine tK 0 ?_;refine tK 1 ?_;refine tK 2 ?_;refine tQ 3 ?_ ?_ ?_;rotate_left
  ·intro w' hSw;have x2:=jH w' g 2 _ _ _ ((hSw.block g (yL A)).trans A.out);go_simp;try with_reducible rfl
  refine tK 5 ?_;refine tK 6 ?_;refine tK 7 ?_;refine tQ 8 ?_ ?_ ?_;rotate_left
  ·intro w' hSw;have x3:=jH w' g 3 _ _ _ ((hSw.block g (yL A)).trans A.out);go_simp;try with_reducible rfl
  refine rO 4 fun K hK=>?_;go_simp;refine (HL.out _ hH).mono ?_;rintro _ w5 ⟨e,v5,rfl,n,U,z,b5⟩;have Y:=hH.trans (b5.mono hH.size);have H5:=yH (y0r n hH.size);have H:=yH (show e.length<=1000 from by rw [<- kH (f:=Rw.R),U];exact L1.out);have q:=yH U;have K1:=yH z;clear n U z b5;try go_wp2_with fail
  refine hK.out _ _ Y (fun hH=>?_);clear hK K;try simp only [Act.put,yA,yB,yC]
  refine rO 9 fun K hK=>?_;go_simp;refine (HR.out _ hH).mono ?_;rintro _ w6 ⟨d,v6,rfl,t,i,y,X⟩;have W:=hH.trans (X.mono hH.size);have H6:=yH (x2U H5 X);have G6:=yH t;have L:=yH (show d.length<=1000 from by rw [<- kH (f:=Rw.R),i];exact L2.out);have E2:=yH i;have K2:=yH y;clear t i y X;try go_wp2_with fail
  refine hK.out _ _ W (fun hH=>?_);clear hK K;try simp only [Act.put,yA,yB,yC]
  refine rO 10 fun K hK=>?_;refine x5a (.tmp 10) (.tmp 15) (by rfl) (by rfl) (by rfl) H6 G6 (by have h1:=H.out;have h2:=L.out;omega) hH.size ?_;intro v7 w7 hown7 b7;have c:=hH.trans b7;have P:=yH hown7;have N:=yH c;clear hown7 b7;refine hK.out _ _ N (fun hH=>?_);clear hK K;try simp only [Act.put,yA,yB,yC]
  refine tK 11 ?_;refine jD ?_;obtain ⟨G,M⟩:∃G,G=w7:=⟨_,rfl⟩
  rw [<- M] at P N ⊢;clear M hH;have E:=(N.block g (yL A)).trans A.out;have x0:=jH G g 0 _ _ _ E;have x1:=jH G g 1 _ _ _ E;unfold Rw.val at x0;have O:=yH (show Below w.heap.size w G from N.out);clear E;cases v with
  | false=>
   go_wp2_with fail
   go_ret;exact ⟨e++d,v7,rfl,by rw [jQ];exact P.out,by rw [List.map_append,q.out,E2.out];simp [T.all],(fun r B=>(jP.1 B).elim (K1.out r) (K2.out r)),O.out⟩
  | true=>
   have A5:=H.out;have AD:=L.out;go_wp2_with (at_builtin;refine x5b (by rfl) (.tmp 21) (.tmp 26) (by rfl) (by rfl) (by rfl) (P.alloc _) (y5k G rp j rc k) (by omega) (by have:=O.size;simp;omega) ?_;intro v9 w9 hown9 b9)
   have Z:Below w.heap.size w w9:=(O.alloc O.size _).trans b9;go_ret;exact ⟨e++d++[⟨rp,j,rc,k⟩],v9,rfl,by rw [jQ,jQ];exact hown9,by rw [List.map_append,List.map_append,q.out,E2.out];rfl,(fun r B=>by
    rcases jP.1 B with B | B
    ·exact (jP.1 B).elim (K1.out r) (K2.out r)
    ·rw [kZ.1 B];exact Q.out),Z⟩
theorem x4O (p:Option Addr) (n c:Nat) (b:Bool) (x y:Option Addr):Tryz.prog.built 121 [(0,.slice p n c),(1,.bool b),(2,.pointer x),(3,.pointer y)]=some #[.slice p n c,.bool b,.pointer x,.pointer y]:=by kernel_rfl
theorem x1o {P:Program} {ρ:Operand->Value} {o:Oper} {t:TypeId} {parts:Array (Nat×Operand)} {cells:Array Value} (ho:o.op= .build t parts) (h:P.built t (parts.map fun (i,x)=>(i,ρ x)).toList=some cells) (w:World):
  (execOp ρ o).run P w= .ok (.value (.agg cells)) w:=by
 unfold execOp;simp only [ho,Sem.run_bind,run_build w t _ cells h,Result.andThen_ok,Sem.run_pure]
theorem y0s (w:World) (q:Option Addr) (c:Nat):RowsIn w q 0 c []:=⟨rfl,Nat.zero_le _,(fun t ht=>by cases ht),Or.inl rfl⟩
theorem y1x {w:World} {g o n c:Nat} {L:List Rw} (h:RowsIn w (some ⟨g,o,none⟩) n c L) (m:Nat) (hm:m<=n):RowsIn w (some ⟨g,o,none⟩) m c (L.take m):=by
 have E:=h.size;refine ⟨by rw [kX];omega,jJ hm h.le,fun t ht=>h.each t (List.mem_of_mem_take ht),?_⟩;rcases h.at' with C | ⟨H,G,A,B⟩
 ·exact Or.inl (by rw [C];simp)
 ·simp only [Option.some.injEq,Addr.mk.injEq,and_true] at A;obtain ⟨rfl,rfl⟩:=A;refine Or.inr ⟨g,o,rfl,fun i hi=>?_⟩;rw [kX] at hi;rw [B i (by omega),jG,jG,List.getElem?_take_of_lt (by omega)]
theorem y1y {w:World} {g o n c:Nat} {L:List Rw} (h:RowsIn w (some ⟨g,o,none⟩) n c L) (m:Nat) (hm:m<=n):RowsIn w (some ⟨g,o+m,none⟩) (n - m) (c - m) (L.drop m):=by
 have E:=h.size;have H:=h.le;refine ⟨by rw [kY];omega,by omega,fun t ht=>h.each t (List.mem_of_mem_drop ht),?_⟩;rcases h.at' with C | ⟨I,G,A,B⟩
 ·exact Or.inl (by rw [C];simp)
 ·simp only [Option.some.injEq,Addr.mk.injEq,and_true] at A;obtain ⟨rfl,rfl⟩:=A;refine Or.inr ⟨g,o+m,rfl,fun i hi=>?_⟩;rw [kY] at hi;rw [Nat.add_assoc,B (m+i) (by omega),jG,jG,List.getElem?_drop]
def y5l (F:Nat->Prop) (w:World) (L:List (List Int)) (t:Nat) (e:Ending) (w':World):Prop:=∃q,e= .returned (.pointer q)/\TAt (fun k=>F k\/w.heap.size<=k) w' q (lay L t)/\Below w.heap.size w w'
theorem x9v {F:Nat->Prop} (N:Nat):∀(n:Nat) (p:Option Addr) (c t d:Nat) (LR:List Rw) (w:World),n<=N->RowsIn w p n c LR->(∀r∈LR,r.n=d/\RwIn F r)->0<d->N<=1000->t+N<=1000000->
  Calls Tryz.prog 38 #[.slice p n c,.int .i64 t] w (y5l F w (LR.map Rw.R) t):=by
 induction N with
 | zero=>
  intro n p c t d LR w hnN hL _ _ _ _;obtain rfl:n=0:=by omega
  obtain rfl:LR=[]:=jZ.1 hL.size.symm;clear hL
  go_enter Tryz.func38,Tryz.ntmps38
  go_wp2_with fail
  go_ret;exact ⟨none,rfl,.nil,jC _ _⟩
 | succ N ih=>
  intro n p c t d LR w hnN hL hd hd0 hN ht;by_cases hn0:n=0
  ·subst hn0;obtain rfl:LR=[]:=jZ.1 hL.size.symm;clear hL ih
   go_enter Tryz.func38,Tryz.ntmps38
   go_wp2_with fail
   go_ret;exact ⟨none,rfl,.nil,jC _ _⟩
  have B:=hL.size;have q:LR.map Rw.R≠[]:=fun h=>by
   have:=congrArg List.length h;rw [kH] at this;simp at this;rw [this] at B;simp at B;exact hn0 B
  obtain ⟨gL,oL,rfl,H,Z⟩:=hL.cell 0 (by omega);have Y:LR.getD 0 default∈LR:=x3e (by omega);have E:=(hd _ Y).1;have J:((LR.map Rw.R).headD []).length=d:=by
   cases LR with
   | nil=>exact absurd rfl q
   | cons r L=>
    exact Z.ints.size.symm.trans E
  have s:=x9q (t:=t) q;rw [J,kH,<- B] at s;rw [Nat.add_zero] at H;obtain ⟨u0,A8⟩:∃u,u=LR.getD 0 default:=⟨_,rfl⟩
  rw [<- A8] at H E;obtain ⟨up,M,uc,uR⟩:=u0;unfold Rw.val at H;simp only at H E;subst E;have a:=yH (x8E (some ⟨gL,oL,none⟩) n c LR (t%M) M w hL (fun r hr=>(hd r hr).1) (Nat.mod_lt _ hd0) (by omega));have l:=yH s;have HD:=yH hd;have i:=yH hd0;have IH:=yH ih;have q1:(t:Int).tmod M=((t%M:Nat):Int):=by rw [Int.tmod_eq_emod_of_nonneg (by omega)];rfl
  have AL:¬(M:Int)=0:=by omega
  have AC:¬(M:Int)= -1:=by omega
  have Al:((n:Int)==0)=false:=by simp;omega
  have i0:0<n:=by omega
  clear hL hd Y J s B q Z A8 ih
  go_enter Tryz.func38,Tryz.ntmps38
  go_upto_region 4 with (go_at_call 30;refine a.mono ?_;rintro e X ⟨O,v5,rfl,W,hO,AA,AB⟩;obtain ⟨q5,c5,rfl,A⟩:=W.rows)
  have G:=yH AB;have y:=yH A;have HO:=yH hO;have j:=yH AA;have z:=yH A.size;have Ai:=A.le;clear W hO AA AB A a q1 AL AC H;go_upto_region 5 with fail
  obtain ⟨m,hm⟩:∃m,n/2=m:=⟨_,rfl⟩
  rw [hm] at l;rw [show (n:Int)/2=(m:Int) from by omega];have AK:m<n:=by omega
  have A6:=yH (show n - (m+1)<=N by omega);have A3:=yH (show m<=N by omega);clear hm;obtain ⟨g5,o5,rfl,C,I⟩:=y.cell m AK;have U:O.getD m default∈O:=x3e (by have:=z.out;omega);have g:=(HD.out _ (j.out _ U)).2;have Q:=yH (show (O.map Rw.R).getD m []=(O.getD m default).R from x6e (by have:=z.out;omega));obtain ⟨u1,AE⟩:∃u,u=O.getD m default:=⟨_,rfl⟩
  rw [<- AE] at C I Q g;obtain ⟨sp,sn,sc,sR⟩:=u1;unfold Rw.val at C;simp only at C Q;have P:=yH C;have AD:=yH I;have AN:=yH g;have i1:(0:Int)<=m/\(m:Int)<n:=by omega
  have A7:=yH (fun w' (hb:Below X.heap.size X w')=>IH.out m (some ⟨g5,o5,none⟩) c5 (t+1) M (O.take m) w' A3 (y1x (y.later hb) m (by omega)) (fun r hr=>HD.out r (j.out r (List.mem_of_mem_take hr))) i (by omega) (by omega));have AU:=yH (fun w' (hb:Below X.heap.size X w')=>IH.out (n - (m+1)) (some ⟨g5,o5+(m+1),none⟩) (c5 - (m+1)) (t+1) M (O.drop (m+1)) w' A6 (y1y (y.later hb) (m+1) (by omega)) (fun r hr=>HD.out r (j.out r (List.mem_of_mem_drop hr))) i (by omega) (by omega));have AJ:=yH (fun w' (h:n - (m+1)=0)=>IH.out 0 (some ⟨g5,o5,none⟩) 0 (t+1) M [] w' (by omega) (y0s _ _ _) (fun r hr=>by cases hr) i (by omega) (by omega));have A1:=yH (show lay (LR.map Rw.R) t= .fork sR true (lay ((O.take m).map Rw.R) (t+1)) (lay ((O.drop (m+1)).map Rw.R) (t+1)) from by
   rw [l.out,<- HO.out,Q.out,List.map_take,List.map_drop])
  have AT:=yH (fun (h:n - (m+1)=0)=>show (O.drop (m+1)).map Rw.R=([]:List Rw).map Rw.R from by
   rw [List.drop_of_length_le (by have:=z.out;omega)])
  clear C I U AE g l A3 A6 IH Q;have q3:IntKind.i64.wrap ((t:Int)+1)=((t+1:Nat):Int):=by rw [IntWalk.i64_in _ (by omega)];rfl
  have q4:IntKind.i64.wrap ((m:Int)+1)=((m+1:Nat):Int):=by rw [IntWalk.i64_in _ (by omega)];rfl
  by_cases cj:c5=m+1
  focus
   subst cj;have hz:n - (m+1)=0:=by omega
   refine kD (S:=fun w'=>Below X.heap.size X w') (by kernel_rfl) (jC _ _).drew (fun hH=>?_);refine tK 0 ?_;refine tK 1 ?_;refine tK 2 ?_;refine tQ 3 ?_ ?_ ?_;rotate_left
   ·intro w' hSw;have C:=(hSw.cell (jI P)).trans P.out;go_simp;try with_reducible rfl
   refine tK 4 ?_;refine tK 5 ?_;refine tQ 6 ?_ ?_ ?_;rotate_left
   ·intro w' hSw;have s1:(m:Int)<=(m:Int)+1:=by omega
    go_simp;try with_reducible rfl
   refine tK 7 ?_;refine tK 8 ?_;refine tK 10 ?_;refine tK 11 ?_;refine tK 12 ?_;refine tQ 13 ?_ ?_ ?_;rotate_left
   ·intro w' hSw;have s2:(0:Int)<=(m:Int)+1/\(m:Int)+1<=(n:Int):=by omega
    go_simp;try with_reducible rfl
   refine tK 14 ?_;refine tK 15 ?_;refine rO 9 fun K hK=>?_;go_simp;refine (A7.out _ hH).mono ?_;rintro _ w6 ⟨q1,rfl,t6,b6⟩;have v:=hH.trans (b6.mono hH.size);have T6:=yH (t6.wide (F':=fun k=>F k\/w.heap.size<=k) (fun k h=>h.imp id (fun h=>by have h1:=G.size;have h2:=hH.size;omega)));clear t6 b6;try go_wp2_with fail
   refine hK.out _ _ v (fun hH=>?_);clear hK K;try simp only [Act.put,yA,yB,yC]
   refine rO 16 fun K hK=>?_;go_simp;refine (AJ.out _ hz).mono ?_;rintro _ w7 ⟨q2,rfl,t7,b7⟩;rw [<- AT.out hz] at t7
  rotate_left
  focus
   refine kD (S:=fun w'=>Below X.heap.size X w') (by kernel_rfl) (jC _ _).drew (fun hH=>?_);refine tK 0 ?_;refine tK 1 ?_;refine tK 2 ?_;refine tQ 3 ?_ ?_ ?_;rotate_left
   ·intro w' hSw;have C:=(hSw.cell (jI P)).trans P.out;go_simp;try with_reducible rfl
   refine tK 4 ?_;refine tK 5 ?_;refine tQ 6 ?_ ?_ ?_;rotate_left
   ·intro w' hSw;have s1:(m:Int)<=(c5:Int):=by omega
    go_simp;try with_reducible rfl
   refine tK 7 ?_;refine tK 8 ?_;refine tK 10 ?_;refine tK 11 ?_;refine tK 12 ?_;refine tQ 13 ?_ ?_ ?_;rotate_left
   ·intro w' hSw;have s2:(0:Int)<=(m:Int)+1/\(m:Int)+1<=(n:Int):=by omega
    go_simp;try with_reducible rfl
   refine tK 14 ?_;refine tK 15 ?_;refine rO 9 fun K hK=>?_;go_simp;refine (A7.out _ hH).mono ?_;rintro _ w6 ⟨q1,rfl,t6,b6⟩;have v:=hH.trans (b6.mono hH.size);have T6:=yH (t6.wide (F':=fun k=>F k\/w.heap.size<=k) (fun k h=>h.imp id (fun h=>by have h1:=G.size;have h2:=hH.size;omega)));clear t6 b6;try go_wp2_with fail
   refine hK.out _ _ v (fun hH=>?_);clear hK K;try simp only [Act.put,yA,yB,yC]
   refine rO 16 fun K hK=>?_;go_simp;refine (AU.out _ hH).mono ?_;rintro _ w7 ⟨q2,rfl,t7,b7⟩
  rotate_left;all_goals
   have AX:=hH.trans (b7.mono hH.size);have AS:=yH (T6.later b7);have T7:=yH (t7.wide (F':=fun k=>F k\/w.heap.size<=k) (fun k h=>h.imp id (fun h=>by have h1:=G.size;have h2:=hH.size;omega)));clear t7 b7;try go_wp2_with fail
   refine hK.out _ _ AX (fun hH=>?_);clear hK K;try simp only [Act.put,yA,yB,yC]
   refine tQ 17 ?_ ?_ ?_;rotate_left
   ·intro w' hSw;refine Eq.trans (b:=Result.ok (Next.value (.agg #[.slice sp sn sc,.bool true,.pointer q1,.pointer q2])) w') ?_ ?_
    ·apply x1o (t:=121) (parts:= #[(0,.tmp 24),(1,.const (.bool true)),(2,.tmp 30),(3,.tmp 37)])
     ·rfl
     ·simp only [kA,kB,kC];exact x4O _ _ _ _ _ _
    ·with_reducible rfl
   refine rO 18 fun K hK=>?_;go_simp;have o:=jA w7 (.cells #[.slice sp sn sc,.bool true,.pointer q1,.pointer q2] 121);have f:=hH.trans (o.mono hH.size);have T8:=yH (show TAt (fun k=>F k\/w.heap.size<=k) _ (some ⟨w7.heap.size,0,none⟩) (.fork sR true (lay ((O.take m).map Rw.R) (t+1)) (lay ((O.drop (m+1)).map Rw.R) (t+1))) from TAt.fork (r:=⟨sp,sn,sc,sR⟩) (jE w7 _) (AD.later f) (Or.inr (by have h1:=G.size;have h2:=hH.size;omega)) (fun x hx hr=>Or.inl (AN.out x hx hr)) (AS.later o) (T7.later o));try go_wp2_with fail
   refine hK.out _ _ f (fun hH=>?_);clear hK K;try simp only [Act.put,yA,yB,yC]
   refine tK 19 ?_;refine jD ?_;go_wp2_with fail
   go_ret;exact ⟨_,rfl,by rw [A1.out];exact T8.out,G.trans (f.mono G.size)⟩
end Kt
section
open Go.RowKit
theorem I2n:(Tryz.prog.info? 2).map (fun i=>(i.zero,i.size,i.bytes))=some (some (.int .i64 0),1,8):=by kernel_rfl
theorem URn:Tryz.prog.underlying 24=some (.slice 2):=by kernel_rfl
def ivs (R:List Int):List Value:=R.map fun x=>.int .i64 x
theorem x3C (R:List Int):(ivs R).length=R.length:=kH ..
theorem y1z (R:List Int) (i:Nat) (h:i<R.length):(ivs R)[i]? =some (.int .i64 (R.getD i 0)):=by
 simp [ivs,jG,h]
theorem y5m (R:List Int) (k:Nat) (x:Int):ivs (R.set k x)=(ivs R).set k (.int .i64 x):=by simp [ivs,List.map_set]
theorem y5n (R:List Int):∀u∈ivs R,u.oneCell'=true:=by
 intro u hu;simp only [ivs,kJ] at hu;obtain ⟨x,_,rfl⟩:=hu;rfl
def OwnRow (w:World) (base g n c:Nat) (N:List Int):Prop:=w.ownsRow base 2 1 (.slice (some ⟨g,0,none⟩) n c) n (ivs N)
theorem y3u {w:World} {base n:Nat} {v:Value} {N:List Int} (h:w.ownsRow base 2 1 v n (ivs N)) (hn:1<=n):∃g c,v= .slice (some ⟨g,0,none⟩) n c/\OwnRow w base g n c N/\base<=g:=by
 rcases h.2 with ⟨_,G⟩ | ⟨g,A,C,B,E,r⟩
 ·omega
 ·exact ⟨g,A,B,by unfold OwnRow;rw [<- B];exact h,E⟩
theorem OwnRow.ints {w:World} {base g n c:Nat} {N:List Int} (h:OwnRow w base g n c N) (hN:∀x∈N,-9223372036854775808<=x/\x<=9223372036854775807):Ints w (some ⟨g,0,none⟩) n c N:=by
 have C:n=N.length:=by have:=h.1;rw [x3C,Nat.mul_one] at this;exact this.symm
 rcases h.2 with ⟨H,_⟩ | ⟨G,A,E,I,L,J,B,M,K,O⟩
 ·simp at H
 ·obtain ⟨rfl,rfl⟩:g=G/\c=A:=by simpa using I
  refine ⟨C,B,hN,Or.inr ⟨g,0,rfl,fun i hi=>?_⟩⟩;have:=World.ownsRow.cellAt h i (by omega);rw [Nat.zero_add,this,y1z N i hi]
theorem OwnRow.length {w:World} {base g n c:Nat} {N:List Int} (h:OwnRow w base g n c N):n=N.length:=by have:=h.1;rw [x3C,Nat.mul_one] at this;exact this.symm
theorem OwnRow.later {w w':World} {base g n c:Nat} {N:List Int} (h:OwnRow w base g n c N) (hb:Below w.heap.size w w'):OwnRow w' base g n c N:=by
 obtain ⟨H,E⟩:=h;refine ⟨H,E.imp id ?_⟩;rintro ⟨g,B,A,I,G,C,r⟩;exact ⟨g,B,A,I,G,(hb.block _ (yL C)).trans C,r⟩
theorem OwnRow.set {w:World} {base g n c:Nat} {N:List Int} (h:OwnRow w base g n c N) (k:Nat) (x:Int):OwnRow (w.setCell ⟨g,k,none⟩ (.int .i64 x)) base g n c (N.set k x):=by
 unfold OwnRow;rw [y5m];exact (World.ownsRow.stored h k _).1
theorem y20 (w:World):(w.alloc (.cells #[] 2)).ownsRow w.heap.size 2 1 (.slice (some ⟨w.heap.size,0,none⟩) 0 0) 0 []:=
 ⟨rfl,Or.inr ⟨w.heap.size,0,#[],rfl,jB _,jE w _,jB _,by unfold maxLen;omega,rfl,rfl⟩⟩
theorem Ints.news {w:World} {g o n c:Nat} {R:List Int} (h:Ints w (some ⟨g,o,none⟩) n c R):∀j u,(ivs R)[j]? =some u->w.cell? ((⟨g,o,none⟩:Addr).add j)=some u:=fun j u hu=>by
 have hj:j<R.length:=by have:=(List.getElem?_eq_some_iff.1 hu).1;simpa [ivs] using this
 rw [y1z _ _ hj] at hu
 rcases h.at' with C | ⟨G,E,A,B⟩
 ·rw [C] at hj;simp at hj
 ·simp only [Option.some.injEq,Addr.mk.injEq,and_true] at A
  obtain ⟨rfl,rfl⟩:=A
  rw [Addr.add_mid,B j hj,hu]
theorem x4z (p:Option Addr) (n c:Nat) (R:List Int) (w:World) (h:Ints w p n c R) (h1:1<=n) (h8:n<=8):
  Calls Tryz.prog 284 #[.slice p n c] w fun e w'=>∃g cap,e= .returned (.slice (some ⟨g,0,none⟩) n cap)/\OwnRow w' w.heap.size g n cap R/\w.heap.size<=g/\Below w.heap.size w w':=by
 obtain ⟨W,X,rfl,-⟩:=h.cell 0 (by omega);obtain ⟨f,C,B,G,E⟩:=info_parts I2n;have a:=yH C;have P:=yH B;have O:=yH G;have M:=yH E;clear C B G E;have A:=jA w (.cells #[] 2);have L:=yH (y20 w);have H:=yH A;have K:=yH ((h.later A).news);have U:=yH (show (ivs R).length=n*1 by rw [x3C,<- h.size,Nat.mul_one]);have i:∀w',(binOp .eql 24 (.slice (some ⟨W,X,none⟩) n c) (.slice none 0 0)).run Tryz.prog w'= .ok (.bool false) w':=fun w'=>Go.Lib.run_eql_slice_nil w' _ _ _ _ _ _ _ URn;clear A h
 go_enter Tryz.func284,Tryz.ntmps284
 go_wp2_with ((at_builtin;(refine wpList_append_own_at _ (by rfl) (.tmp 5) (.tmp 6) 24 (by rfl) w.heap.size 2 f (.int .i64 0) 1 8 URn a P O M (by rfl) (by decide) _ 0 [] (by rfl) L ⟨W,X,none⟩ n c (ivs R) (by rfl) U K (y5n R) (by unfold maxLen;omega) (by omega) (by simp) ?_);intro v7 w7 hown7 hgrow7 _ _;have b:=yH hown7;have d:=yH hgrow7;clear hown7 hgrow7))
 obtain ⟨Y,Z,rfl,Q,I⟩:=y3u (w:=w7) (base:=w.heap.size) (n:=n) (N:=R) (by have h:=b.out;rw [Nat.zero_add,kV] at h;exact h) h1;have J:Below w.heap.size w w7:=H.grown d.out (by simp) (fun k hk=>by simp [Value.ownBlock] at hk;omega);go_ret;exact ⟨Y,Z,rfl,Q,I,J⟩
end
namespace Nd
open Go.RowKit
theorem x05 {P:Program} {w:World} {ops:Array Oper} {rest:List Oper} {o:Oper} {a:Act} {Q:Exit->Act->World->Prop} (hgd:o.guard=Option.none) {t:TypeId} {parts:Array (Nat×Operand)} {cells:Array Value} (ho:o.op= .build t parts)
  (h:P.built t (parts.map fun (i,x)=>(i,a.eval x)).toList=some cells) (hk:wpList P ops Q rest (a.put o.dst (.agg cells)) w):wpList P ops Q (o::rest) a w:=
 wpList_plain hgd fun _ hK=>by
  unfold Oper.wp execOp
  simp only [ho,Sem.run_bind,run_build w t _ cells h,Result.andThen_ok,Sem.run_pure]
  exact hK _ _ hk
def kd0:Kd:=⟨zeros 32,⟨Option.none,0,0,[]⟩,⟨Option.none,0,0,[]⟩,0,0,⟨Option.none,0,0,[]⟩⟩
theorem x0T:Tryz.prog.built 34 []=some kd0.cells.toArray:=by kernel_rfl
theorem x5c (w:World):(⟨Option.none,0,0,[]⟩:Rw).Ok w:=⟨⟨rfl,jB _,fun x hx=>by simp at hx,Or.inl rfl⟩,by simp⟩
theorem x24 (w:World):kd0.Ok w:=⟨by simp [kd0,zeros],x2C 32,x5c w,x5c w,x5c w,⟨by simp [kd0],by simp [kd0]⟩,⟨by simp [kd0],by simp [kd0]⟩⟩
theorem x9w:kd0.pk=PK.none:=rfl
end Nd
section
open Go.RowKit
def eqs (P Q:List Int):Nat->Bool
 | 0=>true
 | k+1=>eqs P Q k&&(P.getD k 0==Q.getD k 0)
theorem y21 (P Q:List Int):∀n,eqs P Q n=true↔∀k,k<n->P.getD k 0=Q.getD k 0
 | 0=>⟨fun _ k hk=>by omega,fun _=>rfl⟩
 | n+1=>by
  show (eqs P Q n&&(P.getD n 0==Q.getD n 0))=true↔_
  rw [Bool.and_eq_true,y21 P Q n,beq_iff_eq]
  constructor
  ·rintro ⟨h1,h2⟩ k hk
   by_cases hkn:k=n
   ·rw [hkn];exact h2
   ·exact h1 k (by omega)
  ·intro h
   exact ⟨fun k hk=>h k (by omega),h n (by omega)⟩
theorem y5R {R S:List Int} (h:R.length=S.length) (he:eqs R S R.length=true):R=S:=by
 apply List.ext_getElem h;intro i h1 h2;have:=(y21 R S R.length).1 he i h1
 simpa [jG,h1,h2] using this
def y5S (w:World) (R S:List Int) (n:Nat) (i:Value) (wr:World):Prop:=∃k j:Nat,k<=n/\i= .int .i64 k/\eqs R S k=true/\wr=w.drewN j
theorem x7Q {p:Prop} [Decidable p] (h:p):Ending.returned (.bool true)=Ending.returned (.bool (decide p)):=by rw [kF h]
theorem x0e {p:Prop} [Decidable p] (h:¬p):Ending.returned (.bool false)=Ending.returned (.bool (decide p)):=by rw [kE h]
theorem x0y (p q:Option Addr) (n c m e:Nat) (R S:List Int) (w:World) (h:Ints w p n c R) (h2:Ints w q m e S) (hn9:n<=9223372036854775807):
  Calls Tryz.prog 32 #[.slice p n c,.slice q m e] w fun e w'=>e= .returned (.bool (decide (R=S)))/\∃j,w'=w.drewN j:=by
 have C:=yH h;have E:=yH h2;clear h h2;by_cases hn:(n:Int)=m
 case neg=>
  have B:¬R=S:=fun h=>hn (by rw [C.size,E.size,h]);have H:=yH B;clear B
  go_enter Tryz.func32,Tryz.ntmps32
  go_wp2_with fail
  go_ret;exact ⟨x0e H,0,rfl⟩
 obtain rfl:m=n:=by omega
 go_enter Tryz.func32,Tryz.ntmps32
 go_wp2_with fail
 go_loopw [5] (fun i wr=>y5S w R S m i wr) (fun i _=>m - (intOf i).toNat)
 case atStart=>exact ⟨0,0,by omega,rfl,rfl,rfl⟩
 case round=>
  obtain ⟨k,j,O,rfl,A,rfl⟩:=hrel;have HL:=yH A;clear A;by_cases hlt:k<m
  ·obtain ⟨P,o,rfl,J⟩:=C.cell k hlt;obtain ⟨Q,N,rfl,K⟩:=E.cell k hlt;have U:(0:Int)<=k/\(k:Int)<m:=by omega
   have I:eqs R S (k+1)=(eqs R S k&&(R.getD k 0==S.getD k 0)):=rfl;have HS:=yH I;have L:=yH (show ¬R.getD k 0=S.getD k 0->¬R=S from fun h h3=>h (by rw [h3]));clear I;generalize R.getD k 0=x at *;generalize S.getD k 0=y at *;by_cases hxy:x=y
   ·subst hxy;go_upto_region 6 with fail
    go_quiet (fail)
    go_wp2_with fail
    go_roundw
    case rel=>exact ⟨k+1,j+nq,by omega,by go_num,by rw [HS.out,HL.out];simp,rfl⟩
    case measure=>simp [intOf];omega
   ·go_upto_region 6 with fail
    go_quiet (fail)
    go_wp2_with fail
    go_ret;exact ⟨x0e (L.out hxy),j+nq,by first | rfl | (simp only [World.drewN];done) | simp [World.drewN_drewN]⟩
  ·obtain rfl:k=m:=by omega
   have G:=HL.out;rw [C.size] at G;have M:=yH (y5R (C.size.symm.trans E.size) G);clear G;go_wp2_with fail
   go_ret;exact ⟨x7Q M,_,rfl⟩
def hasB (R S P:List Int) (n m l:Nat):Bool:=x0g R S n m l&&(les R P l&&les P S l)
theorem x5d {R S:List Int} {n m:Nat} {d:Int} (h:x0g R S n m d=true):1<=d/\d<=8/\(n:Int)=d/\(m:Int)=d:=by
 unfold x0g at h;rw [Bool.and_eq_true,decide_eq_true_eq] at h;exact h.1
theorem x5e (p q r s:Option Addr) (n c m e k f l g:Nat) (R S T U:List Int) (w:World) (h1:Ints w p n c R) (h2:Ints w q m e S) (h3:Ints w r k f T) (h4:Ints w s l g U)
  (hn:n<=9223372036854775807) (hm:m<=9223372036854775807):
  Calls Tryz.prog 84 #[.agg #[.slice p n c,.slice q m e],.agg #[.slice r k f,.slice s l g]] w fun e w'=>e= .returned (.bool (decide (R=T/\S=U)))/\Below w.heap.size w w':=by
 have B:=jA w (.cells #[.slice p n c,.slice q m e] 32);have C:(w.alloc (.cells #[.slice p n c,.slice q m e] 32)).heap.size=w.heap.size+1:=by simp
 obtain ⟨M,N⟩:=x0a w (.slice p n c) (.slice q m e) 32
 go_enter Tryz.func84,Tryz.ntmps84
 go_upto_region 1 with fail
 generalize w.alloc (.cells #[.slice p n c,.slice q m e] 32)=w1 at *;have A:=jA w1 (.cells #[.slice r k f,.slice s l g] 32);obtain ⟨b0,b1⟩:=x0a w1 (.slice r k f) (.slice s l g) 32;rw [C] at b0 b1;have X:=(A.cell (p:=⟨w.heap.size,0,none⟩) (by show w.heap.size<_;omega)).trans M;have J:=(A.cell (p:=⟨w.heap.size,1,none⟩) (by show w.heap.size<_;omega)).trans N;have P:=yH ((h1.later B).later A);have Y:=yH ((h2.later B).later A);have O:=yH ((h3.later B).later A);have d:=yH ((h4.later B).later A);have I:=yH (B.trans (A.mono (by omega)));generalize w1.alloc (.cells #[.slice r k f,.slice s l g] 32)=w2 at *;clear B C M N A h1 h2 h3 h4;clear w1;by_cases hRT:R=T
 case neg=>
  have Q:=yH (show ¬(R=T/\S=U) from fun h=>hRT h.1);have L:=yH hRT;clear hRT;go_wp2_with fail
  refine (x0y p r n c k f R T w2 P O hn).mono ?_;rintro _ K ⟨rfl,j,rfl⟩;rw [kE L.out];go_wp2_with fail
  go_ret;exact ⟨x0e Q,Below.drewN I _⟩
 have i:=yH (show decide (S=U)=decide (R=T/\S=U) from decide_eq_decide.2 ⟨fun h=>⟨hRT,h⟩,fun h=>h.2⟩);have L:=yH hRT;clear hRT;go_wp2_with fail
 refine (x0y p r n c k f R T w2 P O hn).mono ?_;rintro _ K ⟨rfl,j,G⟩;have E:=yH (show Below w2.heap.size w2 K by rw [G];exact Below.drewN (jC _ _) _);have v:=(E.cell (p:=⟨w.heap.size,1,none⟩) (jI J)).trans J;have u:=(E.cell (p:=⟨w.heap.size+1,1,none⟩) (jI b1)).trans b1;have Z:=yH (Y.later E);have W:=yH (d.later E);have t:=yH (I.trans (E.mono I.size));clear G X J b0 b1;rw [kF L.out];go_wp2_with fail
 refine (x0y q s m e l g S U K Z W hm).mono ?_;rintro _ a ⟨rfl,x,H⟩;have o:=yH (show Below w.heap.size w a by rw [H];exact Below.drewN t _);clear H;go_wp2_with fail
 go_ret;exact ⟨congrArg (fun b=>Ending.returned (.bool b)) i,o.out⟩
end
end Go.Proofs.YtenenciaggbjnaaGreat
