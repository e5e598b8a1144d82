/- NlEachK, NlFns, NlShaped, NlRight, CodWRow, CodWTruth, CodClone, CodWBytes, NlWriteKid. -/
import Derived.Laws.AppendOwn
import Derived.Test.YtinihaflmdihaaaGreatL4
set_option maxRecDepth 100000
set_option maxHeartbeats 8000000
set_option linter.all false
namespace Go.Proofs.YtinihaflmdihaaaGreat.Nd
open Go.RowKit
theorem x71 (p:Option Addr) (n c:Nat) (K:List Kd) (f:PK→Bool) (F:Nat) (cap:Array Value) (hF:∀args w,(callFunc F args).run Tryz.prog w= .ok (.enter F args) w) (w:World) (hK:KidsIn w p n c K) (hs:AskK w K f F cap):
  Calls Tryz.prog 202 #[.slice p n c,.func (.func F) #[] cap] w fun e w'=>e= .returned (.bool ((K.map Kd.pk).all f))∧Below w.heap.size w w':=by
 have t:=yH hs
 have u:=yH hK
 have q:=yH hK.size
 have O:=yH hK.top
 obtain ⟨d,R,P⟩:=UKd
 have h:=yH R
 have J:=yH P
 have x:=yH (zero_of_info kz)
 clear hs hK R P
 go_enter Tryz.func202,Tryz.ntmps202
 go_wp2_with fail
 go_loopw [9] (fun i wr=>EaRel w n f (K.map Kd.pk) i wr) (fun i _=>n - (intOf i).toNat)
 case atStart=>exact ⟨0,by omega,rfl,rfl,Below.refl _ _⟩
 case round=>
  obtain ⟨k,z,rfl,N,l⟩:=hrel
  have m:=yH N
  have L:=yH l
  have r:=O.out
  clear N l
  by_cases hlt:k<n
  ·obtain ⟨g,o,rfl,M,I⟩:=(u.out.later L.out).get k hlt
   have y:(0:Int)≤k∧(k:Int)<n:=by omega
   have B:k<K.length:=by rw [← q.out];exact hlt
   have Z:=yH (x8Q Kd.pk f K k B)
   have X:=yH (x3G Kd.pk f K k B)
   have H:=getD_mem K k B
   generalize K.getD k default=e at *
   have E:Below wr.heap.size wr (wr.alloc (.cells e.cells.toArray 34)):=(Below.refl _ _).alloc (Nat.le_refl _) _
   have G:=t.out e _ H (I.later E) (L.out.trans (E.mono L.out.size))
   have C:=yH (L.out.trans (E.mono L.out.size))
   have v:=yH M
   have A:=yH (Kd.cells_length I.len)
   have U:=yH G
   have j:=x.out.1
   clear I H E M G
   go_upto_region 4 with (first
    | (refine wpList_load_mid (by rfl) 34 _ (by rfl) g (o+k*37) (by rfl) e.cells d v.out h.out J.out (by rw [A.out];exact SKd) ?_)
    | (refine wpList_store_row (by rfl) 34 (.tmp 6) (.tmp 12) (by rfl) wr.heap.size e.cells.toArray (by rfl) (by rfl) _ _ (heap_alloc_new wr _) (by rw [List.size_toArray,A.out];exact SKd) (by simp only [List.size_toArray,A.out,x01]) (all_oneCell_toArray Kd.one) ?_;rw [x04]))
   have Q:=yH (x0E (heap_alloc_new wr (.cells e.cells.toArray 34)))
   have G:=U.out
   generalize wr.alloc (.cells e.cells.toArray 34)=w1 at *
   clear j U
   cases hfk:f e.pk with
   | false=>
    rw [hfk] at G
    have a:=yH G
    have HXX:=yH (X.out hfk)
    clear G hfk X Z
    go_wp2_with (first
     | (refine wpList_load_mid (by rfl) 34 _ (by rfl) _ 0 (by rfl) e.cells d Q.out h.out J.out (by rw [A.out];exact SKd) ?_)
     | (refine a.out.mono ?_;rintro e Y ⟨rfl,W⟩))
    go_ret
    exact ⟨congrArg (fun b=>Ending.returned (.bool b)) HXX.out.symm,C.out.trans (W.mono C.out.size)⟩
   | true=>
    rw [hfk] at G
    have a:=yH G
    have HXX:=yH (show allT f (K.map Kd.pk) (k+1)=true by rw [Z.out,m.out,hfk];rfl)
    clear G hfk X Z
    go_wp2_with (first
     | (refine wpList_load_mid (by rfl) 34 _ (by rfl) _ 0 (by rfl) e.cells d Q.out h.out J.out (by rw [A.out];exact SKd) ?_)
     | (refine a.out.mono ?_;rintro e Y ⟨rfl,W⟩;have HB2:=yH (C.out.trans (W.mono C.out.size));clear W))
    go_roundw
    case rel=>exact ⟨k+1,by omega,by go_num,HXX.out,HB2.out⟩
    case measure=>simp [intOf];omega
  ·obtain rfl:n=k:=by omega
   have s:=yH (show allT f (K.map Kd.pk) n=(K.map Kd.pk).all f from by rw [q.out];exact x5e Kd.pk f K)
   go_wp2_with fail
   go_ret
   exact ⟨congrArg (fun b=>Ending.returned (.bool b)) (by rw [← s.out,m.out]),L.out⟩
theorem x9F (e:En) (w:World):
  Calls Tryz.prog 236 #[.agg #[e.row.val,.bool e.live]] w fun r w'=>r= .returned (.bool e.live)∧Below w.heap.size w w':=by
 have A:Below w.heap.size w (w.alloc (.cells #[e.row.val,.bool e.live] 85)):=(Below.refl _ _).alloc (Nat.le_refl _) _
 obtain ⟨C,E⟩:=x0W w e.row.val (.bool e.live) 85
 have B:=yH A
 clear A
 go_enter Tryz.func236,Tryz.ntmps236
 go_upto_region 1 with fail
 generalize w.alloc (.cells #[e.row.val,.bool e.live] 85)=w1 at *
 go_wp2_with fail
 go_ret
 exact ⟨rfl,B.out⟩
theorem x9G (e:En) (B:Nat) (d:Int) (w:World) (hB:w.cell? ⟨B,0,none⟩=some (.int .i64 d)) (he:e.row.Ok w):
  Calls Tryz.prog 201 #[.agg #[e.row.val,.bool e.live],.pointer (some ⟨B,0,none⟩)] w fun r w'=>r= .returned (.bool (e.pe.long d))∧Below w.heap.size w w':=by
 have A:Below w.heap.size w (w.alloc (.cells #[e.row.val,.bool e.live] 85)):=(Below.refl _ _).alloc (Nat.le_refl _) _
 obtain ⟨G,H⟩:=x0W w e.row.val (.bool e.live) 85
 have b0:=(A.cell (block_lt_of_cell hB)).trans hB
 have E:=yH A
 have C:=yH (show ((e.row.n:Int)==d)=e.pe.long d from by
  have:=he.ints.size
  rw [Bool.eq_iff_iff,beq_iff_eq]
  unfold PE.long En.pe
  rw [decide_eq_true_iff,← this])
 clear A hB he
 go_enter Tryz.func201,Tryz.ntmps201
 go_upto_region 1 with fail
 generalize w.alloc (.cells #[e.row.val,.bool e.live] 85)=w1 at *
 unfold Rw.val at G
 go_wp2_with fail
 go_ret
 exact ⟨by rw [← C.out];rfl,E.out⟩
theorem y0Q (k:Kd) (B:Nat) (d:Int) (w:World) (hB:w.cell? ⟨B,0,none⟩=some (.int .i64 d)) (hk:k.Ok w):
  Calls Tryz.prog 203 #[.agg k.cells.toArray,.pointer (some ⟨B,0,none⟩)] w fun r w'=>r= .returned (.bool (k.pk.right d))∧Below w.heap.size w w':=by
 have A:Below w.heap.size w (w.alloc (.cells k.cells.toArray 34)):=(Below.refl _ _).alloc (Nat.le_refl _) _
 have K:=heap_alloc_new w (.cells k.cells.toArray 34)
 have b0:=(A.cell (block_lt_of_cell hB)).trans hB
 obtain ⟨N,E,C⟩:=UKd
 have O:=yH E
 have I:=yH C
 have J:=yH A
 have H:=yH (hk.later A)
 have G:=yH (Kd.cells_length hk.len)
 clear A hB hk E C
 go_enter Tryz.func203,Tryz.ntmps203
 go_upto_region 1 with fail
 generalize w.alloc (.cells k.cells.toArray 34)=w1 at *
 have L:=yH (x0E K)
 clear K
 go_wp2_with (first
  | (refine wpList_load_mid (by rfl) 34 _ (by rfl) _ 0 (by rfl) k.cells N L.out O.out I.out (by rw [G.out];exact SKd) ?_)
  | (refine (y2H k d w1 H.out).mono ?_;rintro _ P ⟨rfl,M⟩))
 go_ret
 exact ⟨rfl,J.out.trans (M.mono J.out.size)⟩
def PK.keys (d:Int) (k:PK):Bool:=decide ((k.key.length:Int)=d)
theorem y0R (k:Kd) (B:Nat) (d:Int) (w:World) (hB:w.cell? ⟨B,0,none⟩=some (.int .i64 d)) (hk:k.Ok w):
  Calls Tryz.prog 262 #[.agg k.cells.toArray,.pointer (some ⟨B,0,none⟩)] w fun r w'=>r= .returned (.bool (k.pk.keys d))∧Below w.heap.size w w':=by
 have A:Below w.heap.size w (w.alloc (.cells k.cells.toArray 34)):=(Below.refl _ _).alloc (Nat.le_refl _) _
 have E:=heap_alloc_new w (.cells k.cells.toArray 34)
 have b0:=(A.cell (block_lt_of_cell hB)).trans hB
 have I:=yH A
 have G:((k.key.n:Int)==d)=k.pk.keys d:=by
  have:=hk.key.ints.size
  rw [Bool.eq_iff_iff,beq_iff_eq]
  unfold PK.keys Kd.pk
  rw [decide_eq_true_iff,← this]
 have J:=yH G
 have C:=yH hk.len
 clear A hB G hk
 go_enter Tryz.func262,Tryz.ntmps262
 go_upto_region 1 with fail
 generalize w.alloc (.cells k.cells.toArray 34)=w1 at *
 have H:=(x0M E C.out).key
 rw [Nat.zero_add] at H
 unfold Rw.val at H
 clear E
 go_wp2_with fail
 go_ret
 exact ⟨by rw [← J.out];rfl,I.out⟩
theorem x5f (p:Option Addr) (n c:Nat) (K:List Kd) (d:Int) (w:World) (hK:KidsIn w p n c K):
  Calls Tryz.prog 235 #[.slice p n c,.int .i64 d] w fun e w'=>e= .returned (.bool ((K.map Kd.pk).all (PK.keys d)))∧Below w.heap.size w w':=by
 have A:Below w.heap.size w (w.alloc (.cells #[.int .i64 d] 3)):=(Below.refl _ _).alloc (Nat.le_refl _) _
 have b0:=boxed w (.int .i64 d) 3
 have B:=x71 p n c K (PK.keys d) 262 #[.pointer (some ⟨w.heap.size,0,none⟩)] (fun args w=>by as_aux_lemma=>kernel_rfl) (w.alloc (.cells #[.int .i64 d] 3)) (hK.later A)
  (fun k w' _ hk hb=>y0R k w.heap.size d w' ((hb.cell (block_lt_of_cell b0)).trans b0) hk)
 obtain ⟨X,E⟩:∃X,(K.map Kd.pk).all (PK.keys d)=X:=⟨_,rfl⟩
 rw [E] at B ⊢
 have G:=yH B
 have C:=yH A
 clear B A hK b0 E
 go_enter Tryz.func235,Tryz.ntmps235
 go_upto_region 1 with fail
 generalize w.alloc (.cells #[.int .i64 d] 3)=w1 at *
 go_wp2_with (refine G.out.mono ?_;rintro e H ⟨rfl,I⟩)
 go_ret
 exact ⟨rfl,C.out.trans (I.mono C.out.size)⟩
def PN.shape (n:PN) (d:Int):Bool:=
 if n.kind=1 then decide (n.rows.length=1)&&decide (n.kids.length=2)&&n.kids.all (PK.keys 0)
 else if n.kind=2 then decide (1≤n.rows.length)&&decide (n.rows.length≤4)&&decide (n.kids.length=0)&&n.rows.all PE.live
 else if n.kind=3 then decide (n.rows.length=0)&&decide (2≤n.kids.length)&&decide (n.kids.length≤4)&&n.kids.all (PK.keys d)
 else false
theorem x72:∀K:List PK,K.all (PK.keys 0)=K.all PK.keyless:=fun K=>by
 congr 1
 funext k
 unfold PK.keys PK.keyless
 rw [Bool.eq_iff_iff,decide_eq_true_iff,decide_eq_true_iff]
 omega
theorem x9H {d:Int} (h:1≤d):∀K:List PK,K.all (PK.keys d)=K.all (PK.keyed d):=fun K=>by
 congr 1
 funext k
 unfold PK.keys PK.keyed
 by_cases e:k=PK.none
 ·subst e
  rw [decide_eq_false (show ¬((PK.none.key.length:Nat):Int)=d from by show ¬((0:Nat):Int)=d;omega)]
  rfl
 ·rw [decide_eq_false e]
  simp
theorem PN.right_shape (n:PN) (d:Int):n.right d=(decide (1≤d∧d≤8)&&n.shape d&&n.rows.all (PE.long d)&&n.kids.all (PK.right · d)):=by
 unfold PN.right PN.shape
 by_cases hd:1≤d∧d≤8
 ·rw [if_neg (by simpa using hd),decide_eq_true hd,x72,x9H hd.1]
  cases h1:n.rows.all (PE.long d)
  ·simp
  ·cases h2:n.kids.all (PK.right · d)
   ·simp
   ·simp only [Bool.true_eq_false,if_false,Bool.and_true,Bool.true_and]
    by_cases k1:n.kind=1
    ·rw [if_pos k1,if_pos k1]
     by_cases h:n.rows.length=1∧n.kids.length=2
     ·rw [if_pos h,decide_eq_true h.1,decide_eq_true h.2];rfl
     ·rw [if_neg h]
      by_cases h':n.rows.length=1
      ·rw [decide_eq_false (show ¬n.kids.length=2 from fun e=>h ⟨h',e⟩)];simp
      ·rw [decide_eq_false h'];rfl
    ·rw [if_neg k1,if_neg k1]
     by_cases k2:n.kind=2
     ·rw [if_pos k2,if_pos k2]
      by_cases h:0<n.rows.length∧n.rows.length<5∧n.kids.length=0
      ·rw [if_pos h,decide_eq_true (show 1≤n.rows.length by omega),decide_eq_true (show n.rows.length≤4 by omega),decide_eq_true h.2.2];rfl
      ·rw [if_neg h]
       by_cases a:1≤n.rows.length
       ·by_cases b:n.rows.length≤4
        ·rw [decide_eq_false (show ¬n.kids.length=0 by omega)];simp
        ·rw [decide_eq_false b];simp
       ·rw [decide_eq_false a];rfl
     ·rw [if_neg k2,if_neg k2]
      by_cases k3:n.kind=3
      ·rw [if_pos k3]
       by_cases h:n.rows.length=0∧1<n.kids.length∧n.kids.length<5
       ·rw [if_pos ⟨k3,h⟩,decide_eq_true h.1,decide_eq_true (show 2≤n.kids.length by omega),decide_eq_true (show n.kids.length≤4 by omega)];rfl
       ·rw [if_neg (fun e=>h e.2)]
        by_cases a:n.rows.length=0
        ·by_cases b:2≤n.kids.length
         ·rw [decide_eq_false (show ¬n.kids.length≤4 by omega)];simp
         ·rw [decide_eq_false b];simp
        ·rw [decide_eq_false a];rfl
      ·rw [if_neg (fun e=>k3 e.1),if_neg k3]
 ·rw [if_pos hd,decide_eq_false hd]
  rfl
theorem x7p (kind:Nat) (p:Option Addr) (n c:Nat) (q:Option Addr) (m f:Nat) (E:List En) (K:List Kd) (d:Int) (w:World) (hE:EntsIn w p n c E) (hK:KidsIn w q m f K):
  Calls Tryz.prog 199 #[.agg #[.int .u8 kind,.slice p n c,.slice q m f],.int .i64 d] w fun e w'=>e= .returned (.bool ((pnOf kind E K).shape d))∧Below w.heap.size w w':=by
 have G:Below w.heap.size w (w.alloc (.cells #[.int .u8 kind,.slice p n c,.slice q m f] 81)):=(Below.refl _ _).alloc (Nat.le_refl _) _
 have Q:=NodeAt.start w kind p n c q m f
 have b:=yH (hE.later G)
 have g:=yH (hK.later G)
 have B:=yH G
 have Y:=yH Q
 have A:(pnOf kind E K).shape d=if kind=1 then decide (n=1)&&decide (m=2)&&(K.map Kd.pk).all (PK.keys 0)
   else if kind=2 then decide (1≤n)&&decide (n≤4)&&decide (m=0)&&(E.map En.pe).all PE.live
   else if kind=3 then decide (n=0)&&decide (2≤m)&&decide (m≤4)&&(K.map Kd.pk).all (PK.keys d)
   else false:=by
  unfold PN.shape pnOf
  simp only [List.length_map]
  rw [← hE.size,← hK.size]
 have O:=yH (fun w1 (h:Below w.heap.size w w1)=>x5f q m f K 0 w1 (hK.later h))
 have P:=yH (fun w1 (h:Below w.heap.size w w1)=>x5f q m f K d w1 (hK.later h))
 have M:=yH (fun w1 (h:Below w.heap.size w w1)=>x6w p n c E PE.live 236 #[] (fun args w=>by as_aux_lemma=>kernel_rfl) w1 (hE.later h) (fun e w' _ _ _=>x9F e w'))
 generalize (pnOf kind E K).shape d=X at *
 generalize (K.map Kd.pk).all (PK.keys 0)=X0 at *
 generalize (K.map Kd.pk).all (PK.keys d)=XD at *
 generalize (E.map En.pe).all PE.live=XL at *
 have J:=yH A
 clear hE hK G Q A
 go_enter Tryz.func199,Tryz.ntmps199
 go_upto_region 1 with fail
 generalize w.alloc (.cells #[.int .u8 kind,.slice p n c,.slice q m f] 81)=w1 at *
 obtain ⟨Z,t1,t2⟩:=Y.out.cells
 by_cases k1:kind=1
 ·have A:=J.out
  rw [if_pos k1] at A
  subst k1
  by_cases h1:n=1
  ·subst h1
   by_cases h2:m=2
   ·subst h2
    have C:=yH A
    clear A
    go_wp2_with (refine (O.out w1 B.out).mono ?_;rintro e I ⟨rfl,H⟩)
    go_ret
    exact ⟨by rw [C.out];rfl,B.out.trans (H.mono B.out.size)⟩
   ·rw [decide_eq_false h2] at A
    have L:((m:Int)==2)=false:=by simp;omega
    obtain rfl:X=false:=by simpa using A
    clear A h2
    go_wp2_with fail
    go_ret
    exact ⟨rfl,B.out⟩
  ·rw [decide_eq_false h1] at A
   have N:((n:Int)==1)=false:=by simp;omega
   obtain rfl:X=false:=by simpa using A
   clear A h1
   go_wp2_with fail
   go_ret
   exact ⟨rfl,B.out⟩
 have U:((kind:Int)==1)=false:=by simp;omega
 by_cases k2:kind=2
 ·have A:=J.out
  rw [if_neg k1,if_pos k2] at A
  subst k2
  clear U k1
  by_cases h1:1≤n
  ·have N:(1:Int)≤n:=by omega
   by_cases h2:n≤4
   ·have L:(n:Int)≤4:=by omega
    by_cases h3:m=0
    ·subst h3
     rw [decide_eq_true h1,decide_eq_true h2] at A
     have C:=yH A
     clear A h1 h2
     go_wp2_with (refine (M.out w1 B.out).mono ?_;rintro e I ⟨rfl,H⟩)
     go_ret
     exact ⟨by rw [C.out];rfl,B.out.trans (H.mono B.out.size)⟩
    ·rw [decide_eq_false h3] at A
     have R:((m:Int)==0)=false:=by simp;omega
     obtain rfl:X=false:=by simpa using A
     clear A h3 h1 h2
     go_wp2_with fail
     go_ret
     exact ⟨rfl,B.out⟩
   ·rw [decide_eq_false h2] at A
    have L:¬(n:Int)≤4:=by omega
    obtain rfl:X=false:=by simpa using A
    clear A h2 h1
    go_wp2_with fail
    go_ret
    exact ⟨rfl,B.out⟩
  ·rw [decide_eq_false h1] at A
   have N:¬(1:Int)≤n:=by omega
   obtain rfl:X=false:=by simpa using A
   clear A h1
   go_wp2_with fail
   go_ret
   exact ⟨rfl,B.out⟩
 have W:((kind:Int)==2)=false:=by simp;omega
 by_cases k3:kind=3
 ·have A:=J.out
  rw [if_neg k1,if_neg k2,if_pos k3] at A
  subst k3
  clear U k1 W k2
  by_cases h1:n=0
  ·subst h1
   by_cases h2:2≤m
   ·have L:(2:Int)≤m:=by omega
    by_cases h3:m≤4
    ·have R:(m:Int)≤4:=by omega
     rw [decide_eq_true h2,decide_eq_true h3] at A
     have C:=yH A
     clear A h3 h2
     go_wp2_with (refine (P.out w1 B.out).mono ?_;rintro e I ⟨rfl,H⟩)
     go_ret
     exact ⟨by rw [C.out];rfl,B.out.trans (H.mono B.out.size)⟩
    ·rw [decide_eq_false h3] at A
     have R:¬(m:Int)≤4:=by omega
     obtain rfl:X=false:=by simpa using A
     clear A h3 h2
     go_wp2_with fail
     go_ret
     exact ⟨rfl,B.out⟩
   ·rw [decide_eq_false h2] at A
    have L:¬(2:Int)≤m:=by omega
    obtain rfl:X=false:=by simpa using A
    clear A h2
    go_wp2_with fail
    go_ret
    exact ⟨rfl,B.out⟩
  ·rw [decide_eq_false h1] at A
   have N:((n:Int)==0)=false:=by simp;omega
   obtain rfl:X=false:=by simpa using A
   clear A h1
   go_wp2_with fail
   go_ret
   exact ⟨rfl,B.out⟩
 have a:((kind:Int)==3)=false:=by simp;omega
 have A:=J.out
 rw [if_neg k1,if_neg k2,if_neg k3] at A
 subst A
 clear k1 k2 k3
 go_wp2_with fail
 go_ret
 exact ⟨rfl,B.out⟩
structure NR (w:World) (g kind:Nat) (p:Option Addr) (n c:Nat) (q:Option Addr) (m f:Nat) (d:Int):Prop where
 node:NodeAt w g kind p n c q m f
 dim:w.cell? ⟨g+1,0,none⟩=some (.int .i64 d)
theorem NR.later {w w':World} {g kind:Nat} {p:Option Addr} {n c:Nat} {q:Option Addr} {m f:Nat} {d:Int} (h:NR w g kind p n c q m f d) (hb:Below w.heap.size w w'):NR w' g kind p n c q m f d:=
 ⟨h.node.later hb,(hb.cell (block_lt_of_cell h.dim)).trans h.dim⟩
theorem x3l (kind:Nat) (p:Option Addr) (n c:Nat) (q:Option Addr) (m f:Nat) (E:List En) (K:List Kd) (d:Int) (w:World) (hE:EntsIn w p n c E) (hK:KidsIn w q m f K):
  Calls Tryz.prog 149 #[.agg #[.int .u8 kind,.slice p n c,.slice q m f],.int .i64 d] w fun e w'=>e= .returned (.bool ((pnOf kind E K).right d))∧Below w.heap.size w w':=by
 have U:Below w.heap.size w (w.alloc (.cells #[.int .u8 kind,.slice p n c,.slice q m f] 81)):=(Below.refl _ _).alloc (Nat.le_refl _) _
 have s:=NodeAt.start w kind p n c q m f
 have j:(w.alloc (.cells #[.int .u8 kind,.slice p n c,.slice q m f] 81)).heap.size=w.heap.size+1:=by simp
 have M:Below (w.heap.size+1) (w.alloc (.cells #[.int .u8 kind,.slice p n c,.slice q m f] 81)) ((w.alloc (.cells #[.int .u8 kind,.slice p n c,.slice q m f] 81)).alloc (.cells #[.int .i64 d] 3)):=(Below.refl _ _).alloc (by omega) _
 have b:=boxed (w.alloc (.cells #[.int .u8 kind,.slice p n c,.slice q m f] 81)) (.int .i64 d) 3
 rw [j] at b
 have Q:NR ((w.alloc (.cells #[.int .u8 kind,.slice p n c,.slice q m f] 81)).alloc (.cells #[.int .i64 d] 3)) w.heap.size kind p n c q m f d:=⟨s.later (by rw [j];exact M),b⟩
 have L:=U.trans (M.mono (by omega))
 have Y:=PN.right_shape (pnOf kind E K) d
 have r:=yH Y
 have W:=yH (fun w1 (h:Below w.heap.size w w1)=>x7p kind p n c q m f E K d w1 (hE.later h) (hK.later h))
 have R:=yH (fun w1 (h:Below w.heap.size w w1) (hc:w1.cell? ⟨w.heap.size+1,0,none⟩=some (.int .i64 d))=>x6w p n c E (PE.long d) 201 #[.pointer (some ⟨w.heap.size+1,0,none⟩)] (fun args w=>by as_aux_lemma=>kernel_rfl) w1 (hE.later h) (fun e w' _ he hb=>x9G e _ d w' ((hb.cell (block_lt_of_cell hc)).trans hc) he))
 have o:=yH (fun w1 (h:Below w.heap.size w w1) (hc:w1.cell? ⟨w.heap.size+1,0,none⟩=some (.int .i64 d))=>x71 q m f K (PK.right · d) 203 #[.pointer (some ⟨w.heap.size+1,0,none⟩)] (fun args w=>by as_aux_lemma=>kernel_rfl) w1 (hK.later h) (fun e w' _ he hb=>y0Q e _ d w' ((hb.cell (block_lt_of_cell hc)).trans hc) he))
 rw [show (pnOf kind E K).rows=E.map En.pe from rfl,show (pnOf kind E K).kids=K.map Kd.pk from rfl] at Y
 generalize (pnOf kind E K).right d=X at *
 generalize (pnOf kind E K).shape d=XS at *
 generalize (E.map En.pe).all (PE.long d)=XL at *
 generalize (K.map Kd.pk).all (PK.right · d)=XK at *
 have Z:=yH Y
 have I:=yH L
 have J:=yH Q
 clear hE hK U M L s Q b j Y r
 go_enter Tryz.func149,Tryz.ntmps149
 go_upto_region 1 with fail
 generalize (w.alloc (.cells #[.int .u8 kind,.slice p n c,.slice q m f] 81)).alloc (.cells #[.int .i64 d] 3)=w1 at *
 obtain ⟨l,t1,t2⟩:=J.out.node.cells
 have P:=J.out.dim
 by_cases h1:1≤d
 case neg=>
  have C:=Z.out
  rw [decide_eq_false (fun e=>h1 e.1)] at C
  obtain rfl:X=false:=by simpa using C
  clear C
  go_wp2_with fail
  go_ret
  exact ⟨rfl,I.out⟩
 by_cases h2:d≤8
 case neg=>
  have C:=Z.out
  rw [decide_eq_false (fun e=>h2 e.2)] at C
  obtain rfl:X=false:=by simpa using C
  clear C
  go_wp2_with fail
  go_ret
  exact ⟨rfl,I.out⟩
 have C:=Z.out
 rw [decide_eq_true ⟨h1,h2⟩] at C
 have B:=yH C
 clear C Z
 have i:=yH (W.out w1 I.out)
 clear W
 cases XS with
 | false=>
  obtain rfl:X=false:=by have:=B.out;simpa using this
  clear B
  go_wp2_with (go_at_call 199;refine i.out.mono ?_;rintro e a ⟨rfl,H⟩;have A:=yH (I.out.trans (H.mono I.out.size));clear H)
  go_ret
  exact ⟨rfl,A.out⟩
 | true=>
 cases XL with
 | false=>
  obtain rfl:X=false:=by have:=B.out;simpa using this
  clear B
  go_wp2_with (first
   | (go_at_call 199;refine i.out.mono ?_;rintro e a ⟨rfl,H⟩;have A:=yH (I.out.trans (H.mono I.out.size));have O:=yH (J.out.later H);obtain ⟨l,t1,t2⟩:=O.out.node.cells;have P:=O.out.dim;have k:=yH (R.out a A.out P);clear H)
   | (go_at_call 200;refine k.out.mono ?_;rintro e v ⟨rfl,N⟩;have G:=yH (A.out.trans (N.mono A.out.size));clear N))
  go_ret
  exact ⟨rfl,G.out⟩
 | true=>
 have x:=yH (show XK=X from by have:=B.out;simpa using this.symm)
 clear B
 go_wp2_with (first
  | (go_at_call 199;refine i.out.mono ?_;rintro e a ⟨rfl,H⟩;have A:=yH (I.out.trans (H.mono I.out.size));have O:=yH (J.out.later H);obtain ⟨l,t1,t2⟩:=O.out.node.cells;have P:=O.out.dim;have k:=yH (R.out a A.out P);clear H)
  | (go_at_call 200;refine k.out.mono ?_;rintro e v ⟨rfl,N⟩;have G:=yH (A.out.trans (N.mono A.out.size));have t:=yH (O.out.later N);obtain ⟨l,t1,t2⟩:=t.out.node.cells;have P:=t.out.dim;have y:=yH (o.out v G.out P);clear N)
  | (go_at_call 202;refine y.out.mono ?_;rintro e z ⟨rfl,u⟩;have g:=yH (G.out.trans (u.mono G.out.size));clear u))
 go_ret
 exact ⟨by rw [x.out];rfl,g.out⟩
end Go.Proofs.YtinihaflmdihaaaGreat.Nd
namespace Go.Proofs.YtinihaflmdihaaaGreat
open Go.RowKit
def St.row' (s:St) (R:List Int):St:=if R.length≤255 then s.put (rowB R) else .no
def y47 (w:World) (base g:Nat) (v:Value) (s:St) (R:List Int) (i:Value) (wr:World):Prop:=
 ∃(k:Nat) (v':Value),k≤R.length∧i= .int .i64 k∧WS wr base g v' (s.put (R.length::nums (R.take k)))∧WStep w wr g v v'
theorem x4Q (s:St) (R:List Int) (p:Option Addr) (n c:Nat) (base g:Nat) (v:Value) (w:World) (hs:WS w base g v s) (hR:Ints w p n c R) (hl:s.B.length+(1+8*R.length)<1099511627776) (hbw:base≤w.heap.size)
  (hg:∀x,p=some x→R≠[]→x.block≠g∧v.ownBlock≠some x.block):
  Calls Tryz.prog 240 #[.pointer (some ⟨g,0,none⟩),.slice p n c] w (WPost w base g v (s.row' R)):=by
 have b:=yH hs
 have W:=yH hR
 have u:=yH hl
 have y:=yH hg
 have HN:=yH hR.size
 have M:=yH hbw
 have hn:n<1099511627776:=by have:=hR.size;omega
 clear hs hR hl hg hbw
 go_enter Tryz.func240,Tryz.ntmps240
 by_cases h:255<n
 ·have b1:(255:Int)<n:=by omega
  go_wp2_with fail
  refine (x3k s base g v _ b.out).mono ?_
  rintro e w1 E
  obtain ⟨rfl,v2,K,J⟩:=E
  have H3:=yH K
  have H4:=yH J
  clear K J
  go_wp2_with fail
  go_end0
  refine ⟨rfl,v2,?_,H4.out⟩
  unfold St.row'
  rw [if_neg (by have:=HN.out;omega)]
  exact H3.out
 ·have b1:¬(255:Int)<n:=by omega
  go_wp2_with fail
  refine (x22 s n (by omega) base g v _ b.out (by have:=u.out;omega) M.out).mono ?_
  rintro e w1 E
  obtain ⟨rfl,v2,K,J⟩:=E
  have H3:=yH K
  have H4:=yH J
  clear K J
  go_wp2_with fail
  go_loopw [18] (fun i wr=>y47 w base g v s R i wr) (fun i _=>n - (intOf i).toNat)
  case atStart=>exact ⟨0,v2,by omega,rfl,by rw [← HN.out];exact H3.out,H4.out⟩
  case round=>
   obtain ⟨k,Y,hk,rfl,f,d⟩:=hrel
   rw [← HN.out] at hk
   have m:=yH f
   have N:=yH d
   clear f d H3 H4
   by_cases hlt:k<n
   ·have A:k<R.length:=by rw [← HN.out];exact hlt
    have P:=W.out.get k hlt
    rcases W.out.at' with z | ⟨U,o,E,q⟩
    ·rw [z] at A;exact absurd A (by simp)
    ·have L:R≠[]:=by rintro rfl;exact absurd A (by simp)
     obtain ⟨r,t⟩:=y.out _ E L
     subst E
     have I:=q k A
     have G:wr.cell? ⟨U,o+k,none⟩=some (.int .i64 (R.getD k 0)):=by
      rw [World.cell?_of_block (w:=w) (w':=wr) (a:=⟨U,o+k,none⟩) (N.out.block U (block_lt_of_cell I) r t)]
      exact I
     obtain ⟨x,H⟩:∃x,x=R.getD k 0:=⟨_,rfl⟩
     rw [← H] at G P
     have C:=St.put_len s (R.length::nums (R.take k))
     rw [List.length_cons,x2w,List.length_take_of_le (Nat.le_of_lt A)] at C
     have O:=yH H
     have X:=yH C
     have j:=yH P
     have Q:=yH W.out.le
     clear q I L r t H C P
     have A5:=Q.out
     go_wp2_with fail
     refine (y44 _ x j.out.1 j.out.2 base g Y _ m.out (by have:=X.out;have:=u.out;omega) (Nat.le_trans M.out N.out.size)).mono ?_
     rintro e w3 E
     obtain ⟨rfl,v3,Z,l⟩:=E
     have H5:=yH Z
     have H6:=yH (N.out.trans l)
     clear Z l
     go_wp2_with fail
     go_roundw
     case rel=>
      refine ⟨k+1,v3,by omega,by go_num,?_,H6.out⟩
      have:=H5.out
      rw [St.put_put,O.out,List.cons_append,← x70 R k A] at this
      exact this
     case measure=>simp [intOf];omega
   ·obtain rfl:k=n:=by omega
    go_wp2_with fail
    go_end0
    refine ⟨rfl,Y,?_,N.out⟩
    have:=m.out
    rw [List.take_of_length_le (by have:=HN.out;omega)] at this
    unfold St.row'
    rw [if_pos (by have:=HN.out;omega)]
    exact this
theorem y0S (s:St) (x:Bool) (base g:Nat) (v:Value) (w:World) (hs:WS w base g v s) (hl:s.B.length+1<1099511627776) (hbw:base≤w.heap.size):
  Calls Tryz.prog 239 #[.pointer (some ⟨g,0,none⟩),.bool x] w (WPost w base g v (s.truth x)):=by
 have J:=yH hs
 clear hs
 unfold St.truth
 cases x
 ·go_enter Tryz.func239,Tryz.ntmps239
  go_wp2_with fail
  refine (x22 s 0 (by omega) base g v _ J.out hl hbw).mono ?_
  rintro e K H
  obtain ⟨rfl,E,A,C⟩:=H
  have G:=yH A
  have I:=yH C
  clear A C
  go_wp2_with fail
  go_end0
  exact ⟨rfl,E,G.out,I.out⟩
 ·go_enter Tryz.func239,Tryz.ntmps239
  go_wp2_with fail
  refine (x22 s 1 (by omega) base g v _ J.out hl hbw).mono ?_
  rintro e K H
  obtain ⟨rfl,E,A,C⟩:=H
  have G:=yH A
  have I:=yH C
  clear A C
  go_wp2_with fail
  go_end0
  exact ⟨rfl,E,G.out,I.out⟩
def x73 (w:World) (B:List Nat) (e:Ending) (w':World):Prop:=∃q c,e= .returned (.slice q B.length c)∧w'.ownsRow w.heap.size 5 1 (.slice q B.length c) B.length (vals B)∧Below w.heap.size w w'
theorem x74 (B:List Nat) (p:Option Addr) (n c:Nat) (w:World) (hB:Tx w p n c B) (hl:n<1099511627776):
  Calls Tryz.prog 67 #[.slice p n c] w (x73 w B):=by
 have h:=fun w'=>Lib.run_eql_slice_nil (P:=Tryz.prog) w' 45 5 p n c 0 0 A22
 have H:=hB.size
 have Q:=hB.le
 have X:=yH H
 have g:=yH hB
 rcases hB.at' with ⟨K,a⟩ | ⟨x,K,_⟩
 ·subst K
  subst a
  obtain rfl:n=0:=by omega
  have O:B=[]:=List.length_eq_zero_iff.1 H.symm
  subst O
  clear H hB
  go_enter Tryz.func67,Tryz.ntmps67
  go_wp2_with fail
  go_ret
  exact ⟨none,0,rfl,World.ownsRow_nil _ _ _ _,Below.refl _ _⟩
 ·subst K
  obtain ⟨d,Y,E,G,C⟩:=info_parts I5
  have b:=yH Y
  have U:=yH E
  have J:=yH G
  have R:=yH C
  clear Y E G C H hB Q
  have Z:(w.alloc (.cells #[] 5)).ownsRow w.heap.size 5 1 (.slice (some ⟨w.heap.size,0,none⟩) 0 0) 0 (vals ([]:List Nat)):=x1b (L:=[]) (heap_alloc_new w _) rfl (Nat.le_refl _) (by unfold maxLen;omega) (Nat.le_refl _)
  have f:=yH Z
  clear Z
  go_enter Tryz.func67,Tryz.ntmps67
  go_wp2_with (at_builtin;refine wpList_append_own _ (by rfl) (.tmp 5) (.tmp 6) 45 (by rfl) w.heap.size 5 d (.int .u8 0) 1 1 A22 b.out U.out J.out R.out (by rfl) (by decide) _ 0 [] (by rfl) f.out x n c (vals B) (by rfl) (by rw [x00,Nat.mul_one];exact X.out.symm) ((g.out.later ((Below.refl _ _).alloc (Nat.le_refl _) _)).cells) (x0I _) (by unfold maxLen;omega) (by omega) (by simp) ?_;intro v2 w2 hown2 hgrow2 _;obtain ⟨j,i,A⟩:=x1T hown2;have M:=yH hown2;have I:=yH hgrow2;have N:=yH A;rw [A];clear hown2 hgrow2 A)
  go_ret
  have e:n=B.length:=X.out
  subst e
  have W:=M.out
  rw [N.out,Nat.zero_add] at W
  exact ⟨j,i,rfl,W,((Below.refl w.heap.size w).alloc (Nat.le_refl _) _).grown I.out (by simp) (fun k hk=>by simp [Value.ownBlock] at hk;omega)⟩
theorem x9I (s:St) (base g:Nat) (v:Value) (w:World) (hs:WS w base g v s) (hl:s.B.length<1099511627776):
  Calls Tryz.prog 242 #[.pointer (some ⟨g,0,none⟩)] w (x73 w s.B):=by
 obtain ⟨H,L,E,A⟩:=x6s hs.own hs.ok
 subst E
 have N:=hs.out
 have I:=yH A.tx
 clear hs A
 go_enter Tryz.func242,Tryz.ntmps242
 go_wp2_with fail
 refine (x74 s.B H _ L _ I.out hl).mono ?_
 rintro e M J
 obtain ⟨q,c,rfl,G,A⟩:=J
 have K:=yH G
 have C:=yH A
 clear G A
 go_wp2_with fail
 go_ret
 exact ⟨q,c,rfl,K.out,C.out⟩
end Go.Proofs.YtinihaflmdihaaaGreat
namespace Go.Proofs.YtinihaflmdihaaaGreat.Nd
open Go.RowKit
structure PK.Fit (k:PK):Prop where
 live:0≤k.live∧k.live≤1048576
 size:0≤k.size∧k.size≤1048576
 lo:k.lo.length≤8
 hi:k.hi.length≤8
 key:k.key.length≤8
theorem x23 {w:World} {x:Addr} {p:Option Addr} {n c:Nat} {R:List Int} (h:Ints w p n c R) (hx:p=some x) (hR:R≠[]):x.block<w.heap.size:=by
 rcases h.at' with B | ⟨g,o,A,C⟩
 ·exact absurd B hR
 ·rw [hx] at A
  obtain rfl:x=⟨g,o,Option.none⟩:=by simpa using A
  have:=C 0 (List.length_pos_iff.2 hR)
  exact block_lt_of_cell this
theorem y2J {R:List Int} (h:R.length≤8):rowB R=rowBs R:=by
 unfold rowB rowBs
 rw [Nat.mod_eq_of_lt (by omega)]
theorem x6J {s:St} {R:List Int} (h:R.length≤8):s.row' R=s.put (rowBs R):=by
 unfold St.row'
 rw [if_pos (by omega),y2J h]
theorem x75 {s:St} {n:Int} (h:0≤n∧n≤1048576):s.count n=s.put (Cm.be n.toNat 3):=by
 unfold St.count
 rw [if_pos h]
structure WkSt (w0:World) (gx:Nat) (kd:Kd) (w:World) (g:Nat) (v:Value) (s:St):Prop where
 ws:WS w w0.heap.size g v s
 row:w.heap[gx]? =some (.cells kd.cells.toArray 34 (0,0))
 ne:v.ownBlock≠some gx
 ng:gx≠g
 low:Below w0.heap.size w0 w
 lg:w0.heap.size≤g
theorem WkSt.step {w0 w w':World} {gx g:Nat} {kd:Kd} {v v':Value} {s s':St} (h:WkSt w0 gx kd w g v s) (hs:WS w' w0.heap.size g v' s') (k:WStep w w' g v v'):WkSt w0 gx kd w' g v' s':=
 ⟨hs,(k.block _ (yL h.row) h.ng h.ne).trans h.row,fun e=>by
  rcases k.own _ e with h1 | h1
  ·exact h.ne h1
  ·have:=(yL h.row)
   omega,h.ng,h.low.trans (k.below h.lg (fun j hj=>(h.ws.own.lt j hj).1) h.low.size),h.lg⟩
theorem WkSt.start {w0 w:World} {g:Nat} {kd:Kd} {v:Value} {s:St} (h:WS w w0.heap.size g v s) (hl:Below w0.heap.size w0 w) (hg:w0.heap.size≤g):WkSt w0 w.heap.size kd (w.alloc (.cells kd.cells.toArray 34)) g v s:=
 ⟨h.later ((Below.refl _ _).alloc (Nat.le_refl _) _),heap_alloc_new w _,(fun e=>by have:=(h.own.lt _ e).2;omega),(fun e=>by have:=h.lt;omega),hl.alloc hl.size _,hg⟩
theorem y2K (w0:World) (kd:Kd) (hk:kd.Ok w0) (hf:kd.pk.Fit) (s:St) (g:Nat) (v:Value) (w:World) (hs:WS w w0.heap.size g v s) (hl:s.B.length+2000<1099511627776) (hlow:Below w0.heap.size w0 w) (hg:w0.heap.size≤g):
  Calls Tryz.prog 241 #[.pointer (some ⟨g,0,Option.none⟩),.agg kd.cells.toArray] w (WPost w w0.heap.size g v (s.put kd.pk.bytes)):=by
 have o:=WkSt.start (kd:=kd) hs hlow hg
 have L:=yH hk.len
 have A3:=yH hk.ok
 have W:=yH hk
 have q:=yH hf
 have m:=yH hl
 have HA:=yH (WStep.alloc w g v (.cells kd.cells.toArray 34))
 have z:w.heap.size=w.heap.size:=rfl
 have p:=yH hk.live
 have r:=yH hk.size
 clear hk hf hl hs hlow hg
 go_enter Tryz.func241,Tryz.ntmps241
 go_upto_region 1 with fail
 generalize w.alloc (.cells kd.cells.toArray 34)=w1 at *
 generalize w.heap.size=gx at *
 have f:=yH o
 clear o z
 have E:s.B.length≤s.B.length+0:=by omega
 have K9:=yH (x0M f.out.row L.out)
 have H:=yH (x7o s kd.sum L.out A3.out w0.heap.size g v w1 f.out.ws (by have:=m.out;omega) f.out.low.size)
 clear E
 go_upto_region 2 with (first
  | (refine wpList_load_mid (by rfl) 30 _ (by rfl) _ 0 (by rfl) (vals kd.sum) _ K9.out.sum A25 (by rfl) (by rw [x00,L.out];exact S25) ?_;rw [x06])
  | (go_at_call 269;refine H.out.mono ?_;rintro _ w2 ⟨rfl,v1,O,K⟩;have a:=yH (f.out.step O K);have A5:=yH ((WStep.refl _ _ _).trans K);clear O K))
 have I:=St.put_len s kd.sum
 rw [L.out] at I
 have A:(s.put kd.sum).B.length≤s.B.length+32:=by omega
 have b:=yH A
 obtain ⟨s1,C⟩:∃s1,s.put kd.sum=s1:=⟨_,rfl⟩
 rw [C] at a b
 have A6:=yH C
 clear C I A H K9
 have E:s1.B.length≤s.B.length+32:=b.out
 have M:=(x0M a.out.row L.out).live
 rw [Nat.zero_add] at M
 have G:=x6z s1 kd.live p.out.1 p.out.2 w0.heap.size g v1 w2 a.out.ws (by have:=m.out;omega) a.out.low.size
 rw [x75 (n:=kd.live) q.out.live] at G
 have H:=yH G
 clear G
 clear E
 go_upto_region 3 with (go_at_call 270;refine H.out.mono ?_;rintro _ w3 ⟨rfl,v2,O,K⟩;have c:=yH (a.out.step O K);have AC:=yH ((WStep.refl _ _ _).trans K);clear O K)
 have I:=St.put_len s1 (Cm.be kd.live.toNat 3)
 rw [Cm.be_length] at I
 have A:(s1.put (Cm.be kd.live.toNat 3)).B.length≤s.B.length+35:=by have:=b.out;omega
 have d:=yH A
 obtain ⟨k,C⟩:∃k,s1.put (Cm.be kd.live.toNat 3)=k:=⟨_,rfl⟩
 rw [C] at c d
 have AB:=yH C
 clear C I A H M
 have E:k.B.length≤s.B.length+35:=d.out
 have M:=(x0M c.out.row L.out).size
 rw [Nat.zero_add] at M
 have G:=x6z k kd.size r.out.1 r.out.2 w0.heap.size g v2 w3 c.out.ws (by have:=m.out;omega) c.out.low.size
 rw [x75 (n:=kd.size) q.out.size] at G
 have H:=yH G
 clear G
 clear E
 go_upto_region 4 with (go_at_call 270;refine H.out.mono ?_;rintro _ w4 ⟨rfl,v3,O,K⟩;have U:=yH (c.out.step O K);have A8:=yH ((WStep.refl _ _ _).trans K);clear O K)
 have I:=St.put_len k (Cm.be kd.size.toNat 3)
 rw [Cm.be_length] at I
 have A:(k.put (Cm.be kd.size.toNat 3)).B.length≤s.B.length+38:=by have:=d.out;omega
 have Z:=yH A
 obtain ⟨i,C⟩:∃i,k.put (Cm.be kd.size.toNat 3)=i:=⟨_,rfl⟩
 rw [C] at U Z
 have y:=yH C
 clear C I A H M
 have E:i.B.length≤s.B.length+38:=Z.out
 have M:=(x0M U.out.row L.out).lo
 rw [Nat.zero_add] at M
 unfold Rw.val at M
 have J:=W.out.lo.later U.out.low
 have A:kd.lo.R.length≤8:=q.out.lo
 have G:=x4Q i kd.lo.R _ _ _ w0.heap.size g v3 w4 U.out.ws J.ints (by have:=m.out;omega) U.out.low.size (fun x hx hR=>by have h8:=x23 W.out.lo.ints hx hR;exact ⟨fun e=>by have:=U.out.lg;omega,fun e=>by have:=(U.out.ws.own.lt _ e).1;omega⟩)
 rw [x6J A] at G
 have H:=yH G
 have P:=yH A
 clear G J A
 clear E
 go_upto_region 5 with (go_at_call 240;refine H.out.mono ?_;rintro _ w5 ⟨rfl,v4,O,K⟩;have N:=yH (U.out.step O K);have AA:=yH ((WStep.refl _ _ _).trans K);clear O K)
 have I:=St.put_len i (rowBs kd.lo.R)
 rw [x0V] at I
 have A:(i.put (rowBs kd.lo.R)).B.length≤s.B.length+103:=by have:=Z.out;have:=P.out;omega
 have X:=yH A
 obtain ⟨l,C⟩:∃l,i.put (rowBs kd.lo.R)=l:=⟨_,rfl⟩
 rw [C] at N X
 have A1:=yH C
 clear C I A H M P
 have E:l.B.length≤s.B.length+103:=X.out
 have M:=(x0M N.out.row L.out).hi
 rw [Nat.zero_add] at M
 unfold Rw.val at M
 have J:=W.out.hi.later N.out.low
 have A:kd.hi.R.length≤8:=q.out.hi
 have G:=x4Q l kd.hi.R _ _ _ w0.heap.size g v4 w5 N.out.ws J.ints (by have:=m.out;omega) N.out.low.size (fun x hx hR=>by have h8:=x23 W.out.hi.ints hx hR;exact ⟨fun e=>by have:=N.out.lg;omega,fun e=>by have:=(N.out.ws.own.lt _ e).1;omega⟩)
 rw [x6J A] at G
 have H:=yH G
 have P:=yH A
 clear G J A
 clear E
 go_upto_region 6 with (go_at_call 240;refine H.out.mono ?_;rintro _ w6 ⟨rfl,v5,O,K⟩;have Q:=yH (N.out.step O K);have A7:=yH ((WStep.refl _ _ _).trans K);clear O K)
 have I:=St.put_len l (rowBs kd.hi.R)
 rw [x0V] at I
 have A:(l.put (rowBs kd.hi.R)).B.length≤s.B.length+168:=by have:=X.out;have:=P.out;omega
 have Y:=yH A
 obtain ⟨j,C⟩:∃j,l.put (rowBs kd.hi.R)=j:=⟨_,rfl⟩
 rw [C] at Q Y
 have A4:=yH C
 clear C I A H M P
 have E:j.B.length≤s.B.length+168:=Y.out
 have M:=(x0M Q.out.row L.out).key
 rw [Nat.zero_add] at M
 unfold Rw.val at M
 have J:=W.out.key.later Q.out.low
 have A:kd.key.R.length≤8:=q.out.key
 have G:=x4Q j kd.key.R _ _ _ w0.heap.size g v5 w6 Q.out.ws J.ints (by have:=m.out;omega) Q.out.low.size (fun x hx hR=>by have h8:=x23 W.out.key.ints hx hR;exact ⟨fun e=>by have:=Q.out.lg;omega,fun e=>by have:=(Q.out.ws.own.lt _ e).1;omega⟩)
 rw [x6J A] at G
 have H:=yH G
 have P:=yH A
 clear G J A
 clear E
 go_wp2_with (go_at_call 240;refine H.out.mono ?_;rintro _ w7 ⟨rfl,v6,O,K⟩;have t:=yH (Q.out.step O K);have A0:=yH ((WStep.refl _ _ _).trans K);clear O K)
 have I:=St.put_len j (rowBs kd.key.R)
 rw [x0V] at I
 have A:(j.put (rowBs kd.key.R)).B.length≤s.B.length+233:=by have:=Y.out;have:=P.out;omega
 have u:=yH A
 obtain ⟨s6,C⟩:∃s6,j.put (rowBs kd.key.R)=s6:=⟨_,rfl⟩
 rw [C] at t u
 have A2:=yH C
 clear C I A H M P
 go_end0
 refine ⟨rfl,v6,?_,((((((HA.out.trans A5.out).trans AC.out).trans A8.out).trans AA.out).trans A7.out).trans A0.out)⟩
 have h:=t.out.ws
 rw [← A2.out,← A4.out,← A1.out,← y.out,← AB.out,← A6.out] at h
 simp only [St.put_put] at h
 have e:kd.pk.bytes=kd.sum++Cm.be kd.live.toNat 3++Cm.be kd.size.toNat 3++rowBs kd.lo.R++rowBs kd.hi.R++rowBs kd.key.R:=by
  show kd.sum++(Cm.be kd.live.toNat 3++(Cm.be kd.size.toNat 3++(rowBs kd.lo.R++(rowBs kd.hi.R++rowBs kd.key.R))))=_
  simp only [List.append_assoc]
 rw [e]
 simpa only [List.append_assoc] using h
end Go.Proofs.YtinihaflmdihaaaGreat.Nd
