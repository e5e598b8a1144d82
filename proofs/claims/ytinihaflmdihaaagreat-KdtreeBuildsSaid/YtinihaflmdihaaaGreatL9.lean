/- KrNode, KdSortLay, GenCmp, KdCmp, KdOrder, KdSortMath, KdSort. -/
import Derived.BigRegion
import Derived.Shelf.SlSortCmp.Whole1
import Derived.BigQuiet
import Derived.LoopN
import Derived.Shelf.Small.Bits
import Derived.Test.YtinihaflmdihaaaGreatL8
set_option maxRecDepth 100000
set_option maxHeartbeats 8000000
set_option linter.all false
namespace Go.Proofs.YtinihaflmdihaaaGreat.Kt
open Go.RowKit Go.Proofs.YtinihaflmdihaaaGreat.Nd
open List renaming setIfInBounds_toArray → yA, set_cons_zero → yB, set_cons_succ → yC
theorem x3O (p q:Option Addr) (n c m f:Nat):Tryz.prog.built 81 [(0,.int .u8 1),(1,.slice p n c),(2,.slice q m f)]=some #[.int .u8 1,.slice p n c,.slice q m f]:=by kernel_rfl
theorem y2W (p:Option Addr) (n c:Nat) (b:Bool):Tryz.prog.built 85 [(0,.slice p n c),(1,.bool b)]=some #[.slice p n c,.bool b]:=by kernel_rfl
theorem y5I:(Tryz.prog.underlying 81).map (·.isRow)=some true:=by kernel_rfl
theorem UNode:∃d,Tryz.prog.underlying 81=some d∧d.isRow=true:=by
 have h:=y5I
 revert h
 cases Tryz.prog.underlying 81 with
 | none=>intro h;cases h
 | some d=>intro h;exact ⟨d,rfl,by simpa using h⟩
theorem SNode:(Tryz.prog.info? 81).map (·.size)=some 3:=by kernel_rfl
theorem x7B (p q:Option Addr) (n c m f:Nat):(#[.int .u8 1,.slice p n c,.slice q m f]:Array Value).all (·.oneCell')=true:=all_oneCell_toArray (cs:=[.int .u8 1,.slice p n c,.slice q m f]) fun u hu=>by
 simp only [List.mem_cons,List.not_mem_nil,or_false] at hu
 rcases hu with rfl | rfl | rfl<;>rfl
def y0f (F:Nat→Prop) (w:World) (N:PK) (e:Ending) (w':World):Prop:=∃kd:Kd,e= .returned (.agg kd.cells.toArray)∧kd.pk=N∧kd.Ok w'∧(∀X,X<w.heap.size→¬F X→∀r∈kd.rows,Away X r)∧Below w.heap.size w w'
def x7x (u:T):Prop:=∀(F:Nat→Prop) (p:Option Addr) (w:World),TAt F w p u→Calls Tryz.prog 22 #[.pointer p] w (y0f F w u.kid)
def x8d (F:Nat→Prop) (w:World) (N:PN) (e:Ending) (w':World):Prop:=∃(p q:Option Addr) (E:List En) (K:List Kd),e= .returned (.agg #[.int .u8 1,.slice p 1 1,.slice q 2 2])∧EntsIn w' p 1 1 E∧KidsIn w' q 2 2 K∧pnOf 1 E K=N∧(∀X,X<w.heap.size→¬F X→(∀e∈E,Away X e.row)∧∀k∈K,∀r∈k.rows,Away X r)∧Below w.heap.size w w'
structure NdSt (w x:World):Prop where
 low:Below w.heap.size w x
 res:x.heap[w.heap.size]? =some (.cells #[.int .u8 0,.slice none 0 0,.slice none 0 0] 81 (0,0))
theorem NdSt.lt {w x:World} (h:NdSt w x):w.heap.size+1≤x.heap.size:=(yL h.res)
theorem NdSt.later {w x y:World} (h:NdSt w x) (hb:Below x.heap.size x y):NdSt w y:=⟨h.low.trans (hb.mono h.low.size),(hb.block _ (yL h.res)).trans h.res⟩
theorem NdSt.start (w:World):NdSt w (w.alloc (.cells #[.int .u8 0,.slice none 0 0,.slice none 0 0] 81)):=⟨(Below.refl _ _).alloc (Nat.le_refl _) _,heap_alloc_new w _⟩
theorem y0g {w:World} {r:Rw} (h:r.Ok w) {X:Nat} (hX:w.heap.size≤X):Away X r:=fun _ hx hR e=>by have:=rw_lt h _ hx hR;omega
theorem x8e {w:World} {g m c:Nat} {q:Option Addr} {R:List Int} {b:Bool} {t:TypeId} (h:w.heap[g]? =some (.cells #[.slice q m c,.bool b] t (0,0))) (ok:(⟨q,m,c,R⟩:Rw).Ok w):EntsIn w (some ⟨g,0,none⟩) 1 1 [⟨⟨q,m,c,R⟩,b⟩]:=by
 refine ⟨rfl,Nat.le_refl _,by omega,fun e he=>?_,Or.inr ⟨g,0,rfl,fun i hi=>?_⟩⟩
 ·obtain rfl:=List.mem_singleton.1 he
  exact ok
 ·obtain rfl:i=0:=by simpa using hi
  exact ⟨cell_of_row w g 0 _ _ _ h,cell_of_row w g 1 _ _ _ h⟩
theorem x8f {F:Nat→Prop} {w x:World} {ge gk sn sc:Nat} {sp:Option Addr} {sR:List Int} {v:Bool} {kdl kdr:Kd} {l r:PK} (hst:NdSt w x) (ok0:(⟨sp,sn,sc,sR⟩:Rw).Ok w) (hF0:RwIn F ⟨sp,sn,sc,sR⟩) (hge:w.heap.size+1≤ge) (he:x.heap[ge]? =some (.cells #[.slice sp sn sc,.bool v] 85 (0,0))) (hgk:w.heap.size+1≤gk) (hk:x.heap[gk]? =some (.cells (kdl.cells++kdr.cells).toArray 34 (0,0)))
  (ol:kdl.Ok x) (or:kdr.Ok x) (pl:kdl.pk=l) (pr:kdr.pk=r) (wl:∀X,X<w.heap.size+1→¬(F X∧X<w.heap.size)→∀r∈kdl.rows,Away X r) (wr:∀X,X<w.heap.size+1→¬(F X∧X<w.heap.size)→∀r∈kdr.rows,Away X r) (N:Array Value):
  x8d F w (forkN sR v l r) (.returned (.agg #[.int .u8 1,.slice (some ⟨ge,0,none⟩) 1 1,.slice (some ⟨gk,0,none⟩) 2 2])) (x.setRow w.heap.size N):=by
 have A:∀kd:Kd,kd.Ok x→(∀r∈kd.rows,Away w.heap.size r)→kd.Ok (x.setRow w.heap.size N):=fun kd h ha=>by
  have B:∀r∈kd.rows,r.Ok x→r.Ok (x.setRow w.heap.size N):=fun r hr ho=>Nd.rw_keep ho fun y hy hR=>setRow_other _ _ _ _ (ha r hr y hy hR)
  exact ⟨h.len,h.ok,B _ (by simp [Kd.rows]) h.lo,B _ (by simp [Kd.rows]) h.hi,B _ (by simp [Kd.rows]) h.key,h.live,h.size⟩
 have G:∀r∈kdl.rows,Away w.heap.size r:=wl _ (by omega) (fun h=>by omega)
 have C:∀r∈kdr.rows,Away w.heap.size r:=wr _ (by omega) (fun h=>by omega)
 have E:(⟨sp,sn,sc,sR⟩:Rw).Ok (x.setRow w.heap.size N):=Nd.rw_keep (ok0.later hst.low) fun y hy hR=>setRow_other _ _ _ _ (y0g ok0 (Nat.le_refl _) y hy hR)
 refine ⟨_,_,[⟨⟨sp,sn,sc,sR⟩,v⟩],[kdl,kdr],rfl,x8e ((setRow_other _ _ _ _ (by omega)).trans he) E,x8c ((setRow_other _ _ _ _ (by omega)).trans hk) (A _ ol G) (A _ or C),by rw [← pl,← pr];rfl,fun X hX hF=>⟨fun e he=>?_,fun k hk r hr=>?_⟩,hst.low.trans (Below.setRow (Below.refl _ _) (Nat.le_refl _) _)⟩
 ·obtain rfl:=List.mem_singleton.1 he
  exact fun y hy hR e=>hF (e▸hF0 y hy hR)
 ·simp only [List.mem_cons,List.not_mem_nil,or_false] at hk
  rcases hk with rfl | rfl
  ·exact wl X (by omega) (fun h=>hF h.1) r hr
  ·exact wr X (by omega) (fun h=>hF h.1) r hr
theorem y0h (x:List Int) (v:Bool) (l u:T) (HKL:x7x l) (HKR:x7x u) (F:Nat→Prop) (p:Option Addr) (w:World) (h:TAt F w p (.fork x v l u)):
  Calls Tryz.prog 71 #[.pointer p] w (x8d F w (forkN x v l.kid u.kid)):=by
 obtain ⟨g,r0,a,b,rfl,rfl,AG,AH,-,AE,hl,hr⟩:=h.lt.go
 have HL:=yH (fun w' (hb:Below w.heap.size w w')=>HKL _ a w' (hl.later hb))
 have HR:=yH (fun w' (hb:Below w.heap.size w w')=>HKR _ b w' (hr.later hb))
 have M:=yH AG
 have o:=yH AH
 have z:=yH (show RwIn F r0 from fun y hy hR=>(AE y hy hR).1)
 clear HKL HKR h AG AH AE hl hr
 obtain ⟨W,Y,U,sR⟩:=r0
 unfold Rw.val at M
 simp only at M o z ⊢
 generalize l.kid=lk at *
 generalize u.kid=uk at *
 obtain ⟨dn,AJ,AI⟩:=UNode
 have A2:=yH AJ
 have A4:=yH AI
 clear AJ AI
 have Q:=yH (NdSt.start w)
 go_enter Tryz.func71,Tryz.ntmps71
 go_upto_region 1 with fail
 generalize w.alloc (.cells #[.int .u8 0,.slice none 0 0,.slice none 0 0] 81)=w1 at *
 have A0:=yH (Q.out.later (Below.refl _ _).drew)
 refine wp_region_held_drew (S:=fun w'=>Below w.heap.size w w') (by kernel_rfl) A0.out.low (fun hHeld=>?_)
 generalize w1.drew=x0 at *
 refine tK 0 ?_
 refine tK 1 ?_
 refine tK 2 ?_
 refine tQ 3 ?_ ?_ ?_
 rotate_left
 ·intro w' hSw
  have y0:=cell_of_row w' g 0 _ _ _ ((hSw.block g (yL M.out)).trans M.out)
  go_simp
  try with_reducible rfl
 refine tK 4 ?_
 refine tK 5 ?_
 refine tK 6 ?_
 refine tQ 7 ?_ ?_ ?_
 rotate_left
 ·intro w' hSw
  have y1:=cell_of_row w' g 1 _ _ _ ((hSw.block g (yL M.out)).trans M.out)
  go_simp
  try with_reducible rfl
 refine tQ 8 ?_ ?_ ?_
 rotate_left
 ·intro w' hSw
  refine Eq.trans (b:=Result.ok (Next.value (.agg #[.slice W Y U,.bool v])) w') ?_ ?_
  ·apply x1c (t:=85) (parts:= #[(0,.tmp 6),(1,.tmp 10)])
   ·rfl
   ·simp only [List.map_toArray,List.map_cons,List.map_nil]
    exact y2W _ _ _ _
  ·with_reducible rfl
 refine tK 10 ?_
 refine tK 11 ?_
 refine tK 12 ?_
 refine tQ 13 ?_ ?_ ?_
 rotate_left
 ·intro w' hSw
  have y2:=cell_of_row w' g 2 _ _ _ ((hSw.block g (yL M.out)).trans M.out)
  go_simp
  try with_reducible rfl
 refine tK 15 ?_
 refine tK 16 ?_
 refine tK 17 ?_
 refine tQ 18 ?_ ?_ ?_
 rotate_left
 ·intro w' hSw
  have y3:=cell_of_row w' g 3 _ _ _ ((hSw.block g (yL M.out)).trans M.out)
  go_simp
  try with_reducible rfl
 refine rY [9,14] ?_
 refine rC (fun K hK=>?_) (rC (fun K hK=>?_) AllReadyH.nil)
 ·
  refine x15 (.tmp 11) (by rfl) (q:=W) (m:=Y) (c:=U) (b:=v) (by rfl) ?_
  have b1:Below x0.heap.size x0 (x0.alloc (.cells #[.slice W Y U,.bool v] 85)):=(Below.refl _ _).alloc (Nat.le_refl _) _
  have A1:=hHeld.trans (b1.mono hHeld.size)
  have AM:=yH (heap_alloc_new x0 (.cells #[.slice W Y U,.bool v] 85))
  have Q:=yH (A0.out.later b1)
  clear b1
  refine hK.out _ _ A1 (fun hHeld=>?_)
  clear hK K
  try simp only [Act.put,yA,yB,yC]
  clear A1
  generalize x0.alloc (.cells #[.slice W Y U,.bool v] 85)=x1 at *
  refine rO 14 fun K hK=>?_
  go_simp
  refine (HL.out _ hHeld).mono ?_
  rintro _ R ⟨C,rfl,pl,ol,al,j⟩
  have n:=hHeld.trans (j.mono hHeld.size)
  have PL:=yH pl
  have WL:=yH (show ∀X,X<w.heap.size+1→¬(F X∧X<w.heap.size)→∀r∈C.rows,Away X r from fun X hX hF=>al X (Nat.lt_of_lt_of_le hX Q.out.lt) hF)
  have i:=yH ol
  have O:=yH (Q.out.later j)
  have A8:=yH (yK j AM.out)
  clear pl ol al j
  try go_wp2_with fail
  refine hK.out _ _ n (fun hHeld=>?_)
  clear hK K
  try simp only [Act.put,yA,yB,yC]
  refine rO 19 fun K hK=>?_
  go_simp
  refine (HR.out _ hHeld).mono ?_
  rintro _ E ⟨A,rfl,pr,or,ar,H⟩
  have P:=hHeld.trans (H.mono hHeld.size)
  have PR:=yH pr
  have WR:=yH (show ∀X,X<w.heap.size+1→¬(F X∧X<w.heap.size)→∀r∈A.rows,Away X r from fun X hX hF=>ar X (Nat.lt_of_lt_of_le hX O.out.lt) hF)
  have L:=yH or
  have J:=yH (O.out.later H)
  have s:=yH (yK H A8.out)
  have N:=yH (i.out.later H)
  clear pr or ar H
  try go_wp2_with fail
  refine hK.out _ _ P (fun hHeld=>?_)
  clear hK K
  try simp only [Act.put,yA,yB,yC]
  refine rO 20 fun K hK=>?_
  refine x1x (.tmp 17) (.tmp 22) (by rfl) (k:=C) (l:=A) N.out.len L.out.len (by rfl) (by rfl) ?_
  have G:Below E.heap.size E (E.alloc (.cells (C.cells++A.cells).toArray 34)):=(Below.refl _ _).alloc (Nat.le_refl _) _
  have I:=hHeld.trans (G.mono hHeld.size)
  have Z:=yH (heap_alloc_new E (.cells (C.cells++A.cells).toArray 34))
  have B:=yH (J.out.later G)
  have e:=yH (yK G s.out)
  have d:=yH (N.out.later G)
  have f:=yH (L.out.later G)
  clear G
  refine hK.out _ _ I (fun hHeld=>?_)
  clear hK K
  try simp only [Act.put,yA,yB,yC]
  clear I
  generalize E.alloc (.cells (C.cells++A.cells).toArray 34)=x4 at *
  refine tQ 21 ?_ ?_ ?_
  rotate_left
  ·intro w' hSw
   refine Eq.trans (b:=Result.ok (Next.value (.agg #[.int .u8 1,.slice (some ⟨x0.heap.size,0,none⟩) 1 1,.slice (some ⟨E.heap.size,0,none⟩) 2 2])) w') ?_ ?_
   ·apply x1c (t:=81) (parts:= #[(0,.const (.int .u8 1)),(1,.tmp 12),(2,.tmp 23)])
    ·rfl
    ·simp only [List.map_toArray,List.map_cons,List.map_nil]
     exact x3O _ _ _ _ _ _
   ·with_reducible rfl
  refine rO 22 fun K hK=>?_
  refine wp_store_row 81 (.tmp 2) (.tmp 24) (by rfl) w.heap.size #[.int .u8 1,.slice (some ⟨x0.heap.size,0,none⟩) 1 1,.slice (some ⟨E.heap.size,0,none⟩) 2 2] (by rfl) (by rfl) _ _ B.out.res SNode rfl (x7B _ _ _ _ _ _) ?_
  refine hK.out _ _ (B.out.low.trans (Below.setRow (Below.refl _ _) (Nat.le_refl _) _)) (fun hHeld=>?_)
  clear hK K
  try simp only [Act.put,yA,yB,yC]
  refine wpAnyH_done (by kernel_rfl) ?_ _
  go_wp2_with fail
  refine x1B 2 (by kernel_rfl) w.heap.size _ #[.int .u8 1,.slice (some ⟨x0.heap.size,0,none⟩) 1 1,.slice (some ⟨E.heap.size,0,none⟩) 2 2] A2.out A4.out SNode (by rfl) (setRow_heap _ _ _ _ _ _ B.out.res) ?_
  exact x8f B.out o.out z.out A0.out.lt e.out J.out.lt Z.out d.out f.out PL.out PR.out WL.out WR.out _
 ·
  go_simp
  refine (HL.out _ hHeld).mono ?_
  rintro _ x1 ⟨C,rfl,pl,ol,al,b1⟩
  have A1:=hHeld.trans (b1.mono hHeld.size)
  have PL:=yH pl
  have WL:=yH (show ∀X,X<w.heap.size+1→¬(F X∧X<w.heap.size)→∀r∈C.rows,Away X r from fun X hX hF=>al X (Nat.lt_of_lt_of_le hX A0.out.lt) hF)
  have AL:=yH ol
  have Q:=yH (A0.out.later b1)
  clear pl ol al b1
  try go_wp2_with fail
  refine hK.out _ _ A1 (fun hHeld=>?_)
  clear hK K
  try simp only [Act.put,yA,yB,yC]
  refine rY [9,19] ?_
  refine rC (fun K hK=>?_) (rC (fun K hK=>?_) AllReadyH.nil)
  ·
   refine x15 (.tmp 11) (by rfl) (q:=W) (m:=Y) (c:=U) (b:=v) (by rfl) ?_
   have j:Below x1.heap.size x1 (x1.alloc (.cells #[.slice W Y U,.bool v] 85)):=(Below.refl _ _).alloc (Nat.le_refl _) _
   have n:=hHeld.trans (j.mono hHeld.size)
   have A8:=yH (heap_alloc_new x1 (.cells #[.slice W Y U,.bool v] 85))
   have O:=yH (Q.out.later j)
   have i:=yH (AL.out.later j)
   clear j
   refine hK.out _ _ n (fun hHeld=>?_)
   clear hK K
   try simp only [Act.put,yA,yB,yC]
   clear n
   generalize x1.alloc (.cells #[.slice W Y U,.bool v] 85)=R at *
   refine rO 19 fun K hK=>?_
   go_simp
   refine (HR.out _ hHeld).mono ?_
   rintro _ E ⟨A,rfl,pr,or,ar,H⟩
   have P:=hHeld.trans (H.mono hHeld.size)
   have PR:=yH pr
   have WR:=yH (show ∀X,X<w.heap.size+1→¬(F X∧X<w.heap.size)→∀r∈A.rows,Away X r from fun X hX hF=>ar X (Nat.lt_of_lt_of_le hX O.out.lt) hF)
   have L:=yH or
   have J:=yH (O.out.later H)
   have s:=yH (yK H A8.out)
   have N:=yH (i.out.later H)
   clear pr or ar H
   try go_wp2_with fail
   refine hK.out _ _ P (fun hHeld=>?_)
   clear hK K
   try simp only [Act.put,yA,yB,yC]
   refine rO 20 fun K hK=>?_
   refine x1x (.tmp 17) (.tmp 22) (by rfl) (k:=C) (l:=A) N.out.len L.out.len (by rfl) (by rfl) ?_
   have G:Below E.heap.size E (E.alloc (.cells (C.cells++A.cells).toArray 34)):=(Below.refl _ _).alloc (Nat.le_refl _) _
   have I:=hHeld.trans (G.mono hHeld.size)
   have Z:=yH (heap_alloc_new E (.cells (C.cells++A.cells).toArray 34))
   have B:=yH (J.out.later G)
   have e:=yH (yK G s.out)
   have d:=yH (N.out.later G)
   have f:=yH (L.out.later G)
   clear G
   refine hK.out _ _ I (fun hHeld=>?_)
   clear hK K
   try simp only [Act.put,yA,yB,yC]
   clear I
   generalize E.alloc (.cells (C.cells++A.cells).toArray 34)=x4 at *
   refine tQ 21 ?_ ?_ ?_
   rotate_left
   ·intro w' hSw
    refine Eq.trans (b:=Result.ok (Next.value (.agg #[.int .u8 1,.slice (some ⟨x1.heap.size,0,none⟩) 1 1,.slice (some ⟨E.heap.size,0,none⟩) 2 2])) w') ?_ ?_
    ·apply x1c (t:=81) (parts:= #[(0,.const (.int .u8 1)),(1,.tmp 12),(2,.tmp 23)])
     ·rfl
     ·simp only [List.map_toArray,List.map_cons,List.map_nil]
      exact x3O _ _ _ _ _ _
    ·with_reducible rfl
   refine rO 22 fun K hK=>?_
   refine wp_store_row 81 (.tmp 2) (.tmp 24) (by rfl) w.heap.size #[.int .u8 1,.slice (some ⟨x1.heap.size,0,none⟩) 1 1,.slice (some ⟨E.heap.size,0,none⟩) 2 2] (by rfl) (by rfl) _ _ B.out.res SNode rfl (x7B _ _ _ _ _ _) ?_
   refine hK.out _ _ (B.out.low.trans (Below.setRow (Below.refl _ _) (Nat.le_refl _) _)) (fun hHeld=>?_)
   clear hK K
   try simp only [Act.put,yA,yB,yC]
   refine wpAnyH_done (by kernel_rfl) ?_ _
   go_wp2_with fail
   refine x1B 2 (by kernel_rfl) w.heap.size _ #[.int .u8 1,.slice (some ⟨x1.heap.size,0,none⟩) 1 1,.slice (some ⟨E.heap.size,0,none⟩) 2 2] A2.out A4.out SNode (by rfl) (setRow_heap _ _ _ _ _ _ B.out.res) ?_
   exact x8f B.out o.out z.out Q.out.lt e.out J.out.lt Z.out d.out f.out PL.out PR.out WL.out WR.out _
  ·
   go_simp
   refine (HR.out _ hHeld).mono ?_
   rintro _ R ⟨A,rfl,pr,or,ar,j⟩
   have n:=hHeld.trans (j.mono hHeld.size)
   have PR:=yH pr
   have WR:=yH (show ∀X,X<w.heap.size+1→¬(F X∧X<w.heap.size)→∀r∈A.rows,Away X r from fun X hX hF=>ar X (Nat.lt_of_lt_of_le hX Q.out.lt) hF)
   have A7:=yH or
   have O:=yH (Q.out.later j)
   have i:=yH (AL.out.later j)
   clear pr or ar j
   try go_wp2_with fail
   refine hK.out _ _ n (fun hHeld=>?_)
   clear hK K
   try simp only [Act.put,yA,yB,yC]
   refine rY [9,20] ?_
   refine rC (fun K hK=>?_) (rC (fun K hK=>?_) AllReadyH.nil)
   ·
    refine x15 (.tmp 11) (by rfl) (q:=W) (m:=Y) (c:=U) (b:=v) (by rfl) ?_
    have H:Below R.heap.size R (R.alloc (.cells #[.slice W Y U,.bool v] 85)):=(Below.refl _ _).alloc (Nat.le_refl _) _
    have P:=hHeld.trans (H.mono hHeld.size)
    have s:=yH (heap_alloc_new R (.cells #[.slice W Y U,.bool v] 85))
    have J:=yH (O.out.later H)
    have N:=yH (i.out.later H)
    have L:=yH (A7.out.later H)
    clear H
    refine hK.out _ _ P (fun hHeld=>?_)
    clear hK K
    try simp only [Act.put,yA,yB,yC]
    clear P
    generalize R.alloc (.cells #[.slice W Y U,.bool v] 85)=E at *
    refine rO 20 fun K hK=>?_
    refine x1x (.tmp 17) (.tmp 22) (by rfl) (k:=C) (l:=A) N.out.len L.out.len (by rfl) (by rfl) ?_
    have G:Below E.heap.size E (E.alloc (.cells (C.cells++A.cells).toArray 34)):=(Below.refl _ _).alloc (Nat.le_refl _) _
    have I:=hHeld.trans (G.mono hHeld.size)
    have Z:=yH (heap_alloc_new E (.cells (C.cells++A.cells).toArray 34))
    have B:=yH (J.out.later G)
    have e:=yH (yK G s.out)
    have d:=yH (N.out.later G)
    have f:=yH (L.out.later G)
    clear G
    refine hK.out _ _ I (fun hHeld=>?_)
    clear hK K
    try simp only [Act.put,yA,yB,yC]
    clear I
    generalize E.alloc (.cells (C.cells++A.cells).toArray 34)=x4 at *
    refine tQ 21 ?_ ?_ ?_
    rotate_left
    ·intro w' hSw
     refine Eq.trans (b:=Result.ok (Next.value (.agg #[.int .u8 1,.slice (some ⟨R.heap.size,0,none⟩) 1 1,.slice (some ⟨E.heap.size,0,none⟩) 2 2])) w') ?_ ?_
     ·apply x1c (t:=81) (parts:= #[(0,.const (.int .u8 1)),(1,.tmp 12),(2,.tmp 23)])
      ·rfl
      ·simp only [List.map_toArray,List.map_cons,List.map_nil]
       exact x3O _ _ _ _ _ _
     ·with_reducible rfl
    refine rO 22 fun K hK=>?_
    refine wp_store_row 81 (.tmp 2) (.tmp 24) (by rfl) w.heap.size #[.int .u8 1,.slice (some ⟨R.heap.size,0,none⟩) 1 1,.slice (some ⟨E.heap.size,0,none⟩) 2 2] (by rfl) (by rfl) _ _ B.out.res SNode rfl (x7B _ _ _ _ _ _) ?_
    refine hK.out _ _ (B.out.low.trans (Below.setRow (Below.refl _ _) (Nat.le_refl _) _)) (fun hHeld=>?_)
    clear hK K
    try simp only [Act.put,yA,yB,yC]
    refine wpAnyH_done (by kernel_rfl) ?_ _
    go_wp2_with fail
    refine x1B 2 (by kernel_rfl) w.heap.size _ #[.int .u8 1,.slice (some ⟨R.heap.size,0,none⟩) 1 1,.slice (some ⟨E.heap.size,0,none⟩) 2 2] A2.out A4.out SNode (by rfl) (setRow_heap _ _ _ _ _ _ B.out.res) ?_
    exact x8f B.out o.out z.out O.out.lt e.out J.out.lt Z.out d.out f.out PL.out PR.out WL.out WR.out _
   ·
    refine x1x (.tmp 17) (.tmp 22) (by rfl) (k:=C) (l:=A) i.out.len A7.out.len (by rfl) (by rfl) ?_
    have H:Below R.heap.size R (R.alloc (.cells (C.cells++A.cells).toArray 34)):=(Below.refl _ _).alloc (Nat.le_refl _) _
    have P:=hHeld.trans (H.mono hHeld.size)
    have AN:=yH (heap_alloc_new R (.cells (C.cells++A.cells).toArray 34))
    have J:=yH (O.out.later H)
    have N:=yH (i.out.later H)
    have L:=yH (A7.out.later H)
    clear H
    refine hK.out _ _ P (fun hHeld=>?_)
    clear hK K
    try simp only [Act.put,yA,yB,yC]
    clear P
    generalize R.alloc (.cells (C.cells++A.cells).toArray 34)=E at *
    refine rO 9 fun K hK=>?_
    refine x15 (.tmp 11) (by rfl) (q:=W) (m:=Y) (c:=U) (b:=v) (by rfl) ?_
    have G:Below E.heap.size E (E.alloc (.cells #[.slice W Y U,.bool v] 85)):=(Below.refl _ _).alloc (Nat.le_refl _) _
    have I:=hHeld.trans (G.mono hHeld.size)
    have e:=yH (heap_alloc_new E (.cells #[.slice W Y U,.bool v] 85))
    have B:=yH (J.out.later G)
    have d:=yH (N.out.later G)
    have f:=yH (L.out.later G)
    have Z:=yH (yK G AN.out)
    clear G
    refine hK.out _ _ I (fun hHeld=>?_)
    clear hK K
    try simp only [Act.put,yA,yB,yC]
    clear I
    generalize E.alloc (.cells #[.slice W Y U,.bool v] 85)=x4 at *
    refine tQ 21 ?_ ?_ ?_
    rotate_left
    ·intro w' hSw
     refine Eq.trans (b:=Result.ok (Next.value (.agg #[.int .u8 1,.slice (some ⟨E.heap.size,0,none⟩) 1 1,.slice (some ⟨R.heap.size,0,none⟩) 2 2])) w') ?_ ?_
     ·apply x1c (t:=81) (parts:= #[(0,.const (.int .u8 1)),(1,.tmp 12),(2,.tmp 23)])
      ·rfl
      ·simp only [List.map_toArray,List.map_cons,List.map_nil]
       exact x3O _ _ _ _ _ _
     ·with_reducible rfl
    refine rO 22 fun K hK=>?_
    refine wp_store_row 81 (.tmp 2) (.tmp 24) (by rfl) w.heap.size #[.int .u8 1,.slice (some ⟨E.heap.size,0,none⟩) 1 1,.slice (some ⟨R.heap.size,0,none⟩) 2 2] (by rfl) (by rfl) _ _ B.out.res SNode rfl (x7B _ _ _ _ _ _) ?_
    refine hK.out _ _ (B.out.low.trans (Below.setRow (Below.refl _ _) (Nat.le_refl _) _)) (fun hHeld=>?_)
    clear hK K
    try simp only [Act.put,yA,yB,yC]
    refine wpAnyH_done (by kernel_rfl) ?_ _
    go_wp2_with fail
    refine x1B 2 (by kernel_rfl) w.heap.size _ #[.int .u8 1,.slice (some ⟨E.heap.size,0,none⟩) 1 1,.slice (some ⟨R.heap.size,0,none⟩) 2 2] A2.out A4.out SNode (by rfl) (setRow_heap _ _ _ _ _ _ B.out.res) ?_
    exact x8f B.out o.out z.out J.out.lt e.out O.out.lt Z.out d.out f.out PL.out PR.out WL.out WR.out _
end Go.Proofs.YtinihaflmdihaaaGreat.Kt
namespace Go.Proofs.YtinihaflmdihaaaGreat.Kt
open Go.Proofs Go.Shelf
def y0i:Go.Shelf.Ren:=⟨fun | 6=>118 | 15=>139 | 14=>161 | 28=>184 | 29=>142 | 20=>212 | 21=>213 | 22=>214 | 23=>215 | 24=>216 | 25=>217 | 26=>218 | 27=>219 | 46=>252 | 47=>253 | 48=>254 | 49=>255 | 50=>256 | 57=>281 | n=>n,fun | 22=>51 | 24=>24 | 25=>173 | 3=>3 | 39=>198 | 0=>0 | 53=>241 | 55=>204 | 4=>4 | 46=>268 | 45=>267 | 50=>248 | 5=>5 | 9=>9 | 66=>309 | 70=>285 | 76=>330 | 77=>96 | n=>n,fun n=>n⟩
theorem x8g:SlLaysF.n6 Tryz.prog y0i where
 mixed:=by kernel_rfl
 f6:=⟨Tryz.f118.name,by kernel_rfl,Tryz.func118.trans (congrArg some (by kernel_rfl))⟩
 f14:=⟨Tryz.f161.name,by kernel_rfl,Tryz.func161.trans (congrArg some (by kernel_rfl))⟩
 f15:=Tryz.func139.trans (congrArg some (by kernel_rfl))
 f20:=⟨Tryz.f212.name,by kernel_rfl,Tryz.func212.trans (congrArg some (by kernel_rfl))⟩
 f21:=⟨Tryz.f213.name,by kernel_rfl,Tryz.func213.trans (congrArg some (by kernel_rfl))⟩
 f22:=⟨Tryz.f214.name,by kernel_rfl,Tryz.func214.trans (congrArg some (by kernel_rfl))⟩
 f23:=⟨Tryz.f215.name,by kernel_rfl,Tryz.func215.trans (congrArg some (by kernel_rfl))⟩
 f24:=⟨Tryz.f216.name,by kernel_rfl,Tryz.func216.trans (congrArg some (by kernel_rfl))⟩
 f25:=⟨Tryz.f217.name,by kernel_rfl,Tryz.func217.trans (congrArg some (by kernel_rfl))⟩
 f26:=⟨Tryz.f218.name,by kernel_rfl,Tryz.func218.trans (congrArg some (by kernel_rfl))⟩
 f27:=⟨Tryz.f219.name,by kernel_rfl,Tryz.func219.trans (congrArg some (by kernel_rfl))⟩
 f28:=Tryz.func184.trans (congrArg some (by kernel_rfl))
 f29:=Tryz.func142.trans (congrArg some (by kernel_rfl))
 f46:=⟨Tryz.f252.name,by kernel_rfl,Tryz.func252.trans (congrArg some (by kernel_rfl))⟩
 f47:=Tryz.func253.trans (congrArg some (by kernel_rfl))
 f48:=Tryz.func254.trans (congrArg some (by kernel_rfl))
 f49:=⟨Tryz.f255.name,by kernel_rfl,Tryz.func255.trans (congrArg some (by kernel_rfl))⟩
 f50:=⟨Tryz.f256.name,by kernel_rfl,Tryz.func256.trans (congrArg some (by kernel_rfl))⟩
 f57:=⟨Tryz.f281.name,by kernel_rfl,Tryz.func281.trans (congrArg some (by kernel_rfl))⟩
 t0:=Tryz.underlying0
 a0:=Tryz.isAgg0
 z0:=Tryz.sizeOf0
 v0:=Tryz.zeroValue0
 t3:=Tryz.underlying3
 a3:=Tryz.isAgg3
 z3:=Tryz.sizeOf3
 v3:=Tryz.zeroValue3
 t4:=Tryz.underlying4
 a4:=Tryz.isAgg4
 z4:=Tryz.sizeOf4
 v4:=Tryz.zeroValue4
 t5:=Tryz.underlying5
 a5:=Tryz.isAgg5
 z5:=Tryz.sizeOf5
 v5:=Tryz.zeroValue5
 t9:=Tryz.underlying9
 a9:=Tryz.isAgg9
 z9:=Tryz.sizeOf9
 v9:=Tryz.zeroValue9
 t22:=Tryz.underlying51
 a22:=Tryz.isAgg51
 z22:=Tryz.sizeOf51
 v22:=Tryz.zeroValue51
 a24:=Tryz.isAgg24
 z24:=Tryz.sizeOf24
 t25:=Tryz.underlying173
 a25:=Tryz.isAgg173
 z25:=Tryz.sizeOf173
 v25:=Tryz.zeroValue173
 t39:=Tryz.underlying198
 a39:=Tryz.isAgg198
 z39:=Tryz.sizeOf198
 v39:=Tryz.zeroValue198
 t45:=Tryz.underlying267
 a45:=Tryz.isAgg267
 z45:=Tryz.sizeOf267
 v45:=Tryz.zeroValue267
 t46:=Tryz.underlying268
 a46:=Tryz.isAgg268
 z46:=Tryz.sizeOf268
 v46:=Tryz.zeroValue268
 t50:=Tryz.underlying248
 a50:=Tryz.isAgg248
 z50:=Tryz.sizeOf248
 v50:=Tryz.zeroValue248
 t53:=Tryz.underlying241
 a53:=Tryz.isAgg241
 z53:=Tryz.sizeOf241
 v53:=Tryz.zeroValue241
 t55:=Tryz.underlying204
 a55:=Tryz.isAgg204
 z55:=Tryz.sizeOf204
 v55:=Tryz.zeroValue204
 t66:=Tryz.underlying309
 a66:=Tryz.isAgg309
 z66:=Tryz.sizeOf309
 v66:=Tryz.zeroValue309
 t70:=Tryz.underlying285
 a70:=Tryz.isAgg285
 z70:=Tryz.sizeOf285
 v70:=Tryz.zeroValue285
 t76:=Tryz.underlying330
 a76:=Tryz.isAgg330
 z76:=Tryz.sizeOf330
 v76:=Tryz.zeroValue330
 t77:=Tryz.underlying96
 a77:=Tryz.isAgg96
 z77:=Tryz.sizeOf96
 v77:=Tryz.zeroValue96
end Go.Proofs.YtinihaflmdihaaaGreat.Kt
namespace Go.Proofs.YtinihaflmdihaaaGreat
open Go.RowKit
def icmp (x y:Int):Int:=if x<y then -1 else if y<x then 1 else 0
theorem x3P (x y:Int) (w:World):
  Calls Tryz.prog 163 #[.int .i64 x,.int .i64 y] w fun e w'=>e= .returned (.int .i64 (icmp x y))∧w=w':=by
 have C:∀z w,Calls Tryz.prog 220 #[.int .i64 z] w fun e w'=>e= .returned (.bool false)∧w=w':=fun z w=>by
  have q:(z !=z)=false:=by simp
  go_enter Tryz.func220,Tryz.ntmps220
  go_wp2_with fail
  go_ret
  exact ⟨rfl,rfl⟩
 have B:=yH C
 clear C
 by_cases h1:x<y
 ·have A:=yH (show icmp x y= -1 by unfold icmp;rw [if_pos h1])
  go_enter Tryz.func163,Tryz.ntmps163
  go_wp2_with ((go_at_call 220;refine (B.out _ _).mono ?_;rintro _ w' ⟨rfl,rfl⟩))
  go_ret
  exact ⟨by rw [A.out];rfl,rfl⟩
 ·by_cases h2:y<x
  ·have A:=yH (show icmp x y=1 by unfold icmp;rw [if_neg h1,if_pos h2])
   go_enter Tryz.func163,Tryz.ntmps163
   go_wp2_with ((go_at_call 220;refine (B.out _ _).mono ?_;rintro _ w' ⟨rfl,rfl⟩))
   go_ret
   exact ⟨by rw [A.out];rfl,rfl⟩
  ·have A:=yH (show icmp x y=0 by unfold icmp;rw [if_neg h1,if_neg h2])
   go_enter Tryz.func163,Tryz.ntmps163
   go_wp2_with ((go_at_call 220;refine (B.out _ _).mono ?_;rintro _ w' ⟨rfl,rfl⟩))
   go_ret
   exact ⟨by rw [A.out];rfl,rfl⟩
end Go.Proofs.YtinihaflmdihaaaGreat
namespace Go.Proofs.YtinihaflmdihaaaGreat.Kt
open Go.RowKit
def cmpL:List Int→List Int→Int
 |[],[]=>0
 |[],_::_=> -1
 | _::_,[]=>1
 | a::p,b::q=>if icmp a b=0 then cmpL p q else icmp a b
theorem y2X {R S:List Int} {k:Nat} (hk:R.length≤k):cmpL (R.drop k) (S.drop k)=if R.length<S.length∧k<S.length then -1 else 0:=by
 rw [List.drop_eq_nil_of_le hk]
 by_cases h:k<S.length
 ·rw [if_pos ⟨by omega,h⟩,List.drop_eq_getElem_cons h]
  rfl
 ·rw [if_neg (fun h2=>h h2.2),List.drop_eq_nil_of_le (by omega)]
  rfl
theorem y0j {R S:List Int} {k:Nat} (hk:k<R.length) (hs:S.length≤k):cmpL (R.drop k) (S.drop k)=1:=by
 rw [List.drop_eq_nil_of_le hs,List.drop_eq_getElem_cons hk]
 rfl
theorem y0k {R S:List Int} {k:Nat} (hk:k<R.length) (hs:k<S.length):cmpL (R.drop k) (S.drop k)=if icmp (R.getD k 0) (S.getD k 0)=0 then cmpL (R.drop (k+1)) (S.drop (k+1)) else icmp (R.getD k 0) (S.getD k 0):=by
 rw [List.drop_eq_getElem_cons hk,List.drop_eq_getElem_cons hs,List.getD_eq_getElem?_getD,List.getD_eq_getElem?_getD,List.getElem?_eq_getElem hk,List.getElem?_eq_getElem hs]
 rfl
def y5J (w:World) (R S:List Int) (C:Int) (n m:Nat) (i:Value) (wr:World):Prop:=∃k:Nat,k≤n∧k≤m∧i= .int .i64 k∧cmpL (R.drop k) (S.drop k)=C∧wr=w
theorem ret_i {x y:Int} (h:x=y):Ending.returned (.int .i64 x)= .returned (.int .i64 y):=by rw [h]
theorem x6V (p q:Option Addr) (n c m e:Nat) (R S:List Int) (w:World) (h1:Ints w p n c R) (h2:Ints w q m e S) (hn9:n≤9223372036854775807) (hm9:m≤9223372036854775807):
  Calls Tryz.prog 164 #[.slice p n c,.slice q m e] w fun e w'=>e= .returned (.int .i64 (cmpL R S))∧w'=w:=by
 have M:=yH h1
 have N:=yH h2
 have B:=yH h1.size
 have G:=yH h2.size
 obtain ⟨C,J⟩:∃C,cmpL R S=C:=⟨_,rfl⟩
 rw [J]
 have HC:=yH J
 clear h1 h2 J
 go_enter Tryz.func164,Tryz.ntmps164
 go_wp2_with fail
 go_loopw [5,6,7,8,11] (fun _ _ _ _ i wr=>y5J w R S C n m i wr) (fun _ _ _ _ i _=>n - (intOf i).toNat)
 case atStart=>exact ⟨0,by omega,by omega,rfl,HC.out,rfl⟩
 case round=>
  obtain ⟨k,W,O,rfl,A,rfl⟩:=hrel
  by_cases hlt:k<n
  ·obtain ⟨Y,X,rfl,K⟩:=M.out.cell k hlt
   have U:(0:Int)≤k∧(k:Int)<n:=by omega
   by_cases hlm:k<m
   ·obtain ⟨P,Q,rfl,L⟩:=N.out.cell k hlm
    have Z:(0:Int)≤k∧(k:Int)<m:=by omega
    rw [y0k (by rw [← B.out];exact hlt) (by rw [← G.out];exact hlm)] at A
    have E:=yH A
    clear A HC
    generalize R.getD k 0=x at *
    generalize S.getD k 0=y at *
    have I:=yH (x3P x y)
    generalize icmp x y=z at *
    by_cases hz:z=0
    ·have H:=E.out
     rw [if_pos hz] at H
     have HE:=yH H
     subst hz
     clear H E
     go_wp2_with (go_at_call 163;refine (I.out _).mono ?_;rintro _ w' ⟨rfl,rfl⟩)
     go_roundw
     case rel=>exact ⟨k+1,by omega,by omega,by go_num,HE.out,rfl⟩
     case measure=>simp [intOf];omega
    ·have H:=E.out
     rw [if_neg hz] at H
     have b1:(z !=0)=true:=by simpa using hz
     have HE:=yH H
     clear H E hz
     go_wp2_with (go_at_call 163;refine (I.out _).mono ?_;rintro _ w' ⟨rfl,rfl⟩)
     go_ret
     exact ⟨ret_i HE.out,rfl⟩
   ·have HE:=yH ((y0j (S:=S) (by rw [← B.out];exact hlt) (by rw [← G.out];omega)).symm.trans A)
    clear A HC
    go_wp2_with fail
    go_ret
    exact ⟨ret_i HE.out,rfl⟩
  ·obtain rfl:k=n:=by omega
   rw [y2X (by rw [← B.out];exact Nat.le_refl _),← B.out,← G.out] at A
   by_cases hlm:k<m
   ·rw [if_pos ⟨hlm,hlm⟩] at A
    have HE:=yH A
    clear A HC
    go_wp2_with fail
    go_ret
    exact ⟨ret_i HE.out,rfl⟩
   ·rw [if_neg (fun h=>hlm h.1)] at A
    have HE:=yH A
    clear A HC
    go_wp2_with fail
    go_ret
    exact ⟨ret_i HE.out,rfl⟩
end Go.Proofs.YtinihaflmdihaaaGreat.Kt
namespace Go.Proofs.YtinihaflmdihaaaGreat.Kt
open Go.RowKit
open List renaming setIfInBounds_toArray → yA, set_cons_zero → yB, set_cons_succ → yC
def ordC (a:Nat) (R S:List Int):Int:=if icmp (R.getD a 0) (S.getD a 0)=0 then cmpL R S else icmp (R.getD a 0) (S.getD a 0)
theorem x5p (p q:Option Addr) (n c m e:Nat) (R S:List Int) (a gf:Nat) (w:World) (h1:Ints w p n c R) (h2:Ints w q m e S) (hn:a<n) (hm:a<m) (hn9:n≤9223372036854775807) (hm9:m≤9223372036854775807) (hg:w.cell? ⟨gf,0,none⟩=some (.int .i64 a)):
  Calls Tryz.prog 162 #[.slice p n c,.slice q m e,.pointer (some ⟨gf,0,none⟩)] w fun e w'=>e= .returned (.int .i64 (ordC a R S))∧∃j,w'=w.drewN j:=by
 have I:=yH (fun j=>x6V p q n c m e R S (w.drewN j) (h1.later (Below.drewN (Below.refl _ _) j)) (h2.later (Below.drewN (Below.refl _ _) j)) hn9 hm9)
 obtain ⟨N,o,rfl,A⟩:=h1.cell a hn
 obtain ⟨O,L,rfl,B⟩:=h2.cell a hm
 have M:(0:Int)≤a∧(a:Int)<n:=by omega
 have P:(0:Int)≤a∧(a:Int)<m:=by omega
 obtain ⟨C,E⟩:∃C,ordC a R S=C:=⟨_,rfl⟩
 rw [E]
 unfold ordC at E
 clear h1 h2 hn hm hn9 hm9
 generalize R.getD a 0=x at *
 generalize S.getD a 0=y at *
 have H:=yH (x3P x y)
 generalize icmp x y=z at *
 by_cases hz:z=0
 ·rw [if_pos hz] at E
  subst hz
  rw [E] at I
  clear E
  go_enter Tryz.func162,Tryz.ntmps162
  go_upto_region 1 with fail
  refine wp_region_held_drew (S:=fun w'=>Below w.heap.size w w') (by kernel_rfl) (Below.refl _ _).drew (fun hHeld=>?_)
  refine tK 0 ?_
  refine tQ 1 ?_ ?_ ?_
  rotate_left
  ·intro w' hSw
   have G:=(hSw.cell (block_lt_of_cell hg)).trans hg
   go_simp
   try with_reducible rfl
  refine tK 2 ?_
  refine tQ 3 ?_ ?_ ?_
  rotate_left
  ·intro w' hSw
   have G:=(hSw.cell (block_lt_of_cell A)).trans A
   go_simp
   try with_reducible rfl
  refine tK 4 ?_
  refine tQ 5 ?_ ?_ ?_
  rotate_left
  ·intro w' hSw
   have G:=(hSw.cell (block_lt_of_cell hg)).trans hg
   go_simp
   try with_reducible rfl
  refine tK 6 ?_
  refine tQ 7 ?_ ?_ ?_
  rotate_left
  ·intro w' hSw
   have G:=(hSw.cell (block_lt_of_cell B)).trans B
   go_simp
   try with_reducible rfl
  refine rO 8 fun K hK=>?_
  go_simp
  refine (H.out _).mono ?_
  rintro _ J ⟨rfl,rfl⟩
  try go_wp2_with fail
  refine hK.out _ _ hHeld (fun hHeld=>?_)
  clear hK K
  try simp only [Act.put,yA,yB,yC]
  refine tK 9 ?_
  refine wpAnyH_done (by kernel_rfl) ?_ _
  go_wp2_with (go_at_call 164;refine (I.out _).mono ?_;rintro _ w' ⟨rfl,rfl⟩)
  go_ret
  exact ⟨rfl,_,rfl⟩
 ·rw [if_neg hz] at E
  subst E
  have b1:(z !=0)=true:=by simpa using hz
  clear hz
  go_enter Tryz.func162,Tryz.ntmps162
  go_upto_region 1 with fail
  refine wp_region_held_drew (S:=fun w'=>Below w.heap.size w w') (by kernel_rfl) (Below.refl _ _).drew (fun hHeld=>?_)
  refine tK 0 ?_
  refine tQ 1 ?_ ?_ ?_
  rotate_left
  ·intro w' hSw
   have G:=(hSw.cell (block_lt_of_cell hg)).trans hg
   go_simp
   try with_reducible rfl
  refine tK 2 ?_
  refine tQ 3 ?_ ?_ ?_
  rotate_left
  ·intro w' hSw
   have G:=(hSw.cell (block_lt_of_cell A)).trans A
   go_simp
   try with_reducible rfl
  refine tK 4 ?_
  refine tQ 5 ?_ ?_ ?_
  rotate_left
  ·intro w' hSw
   have G:=(hSw.cell (block_lt_of_cell hg)).trans hg
   go_simp
   try with_reducible rfl
  refine tK 6 ?_
  refine tQ 7 ?_ ?_ ?_
  rotate_left
  ·intro w' hSw
   have G:=(hSw.cell (block_lt_of_cell B)).trans B
   go_simp
   try with_reducible rfl
  refine rO 8 fun K hK=>?_
  go_simp
  refine (H.out _).mono ?_
  rintro _ J ⟨rfl,rfl⟩
  try go_wp2_with fail
  refine hK.out _ _ hHeld (fun hHeld=>?_)
  clear hK K
  try simp only [Act.put,yA,yB,yC]
  refine tK 9 ?_
  refine wpAnyH_done (by kernel_rfl) ?_ _
  go_wp2_with fail
  go_ret
  exact ⟨rfl,_,rfl⟩
theorem x3Q {x y:Int}:icmp x y=0↔x=y:=by
 unfold icmp
 split
 ·omega
 ·split<;>omega
theorem x8h {x y:Int}:icmp x y<0↔x<y:=by
 unfold icmp
 split
 ·omega
 ·split<;>omega
theorem x8i:∀R S:List Int,R.length=S.length→(cmpL R S<0↔lexLt R S=true)
 |[],[],_=>by simp [cmpL,lexLt]
 |[],_::_,h=>by simp at h
 | _::_,[],h=>by simp at h
 | a::p,b::q,h=>by
  unfold cmpL lexLt
  by_cases hab:a=b
  ·rw [if_pos (x3Q.2 hab),if_pos hab]
   exact x8i p q (by simpa using h)
  ·rw [if_neg (fun h=>hab (x3Q.1 h)),if_neg hab,x8h,decide_eq_true_iff]
theorem y0l {a:Nat} {R S:List Int} (h:R.length=S.length):ordC a R S<0↔lessP a R S=true:=by
 unfold ordC lessP
 by_cases hab:R.getD a 0=S.getD a 0
 ·rw [if_pos (x3Q.2 hab),if_pos hab]
  exact x8i R S h
 ·rw [if_neg (fun h=>hab (x3Q.1 h)),if_neg hab,x8h,decide_eq_true_iff]
theorem x7C:∀R S U:List Int,lexLt R S=true→lexLt S U=true→lexLt R U=true
 |[],_,_,h,_=>by simp [lexLt] at h
 | _::_,[],_,h,_=>by simp [lexLt] at h
 | _::_,_::_,[],_,h=>by simp [lexLt] at h
 | a::p,b::q,c::r,h1,h2=>by
  unfold lexLt at *
  by_cases hab:a=b
  ·rw [if_pos hab] at h1
   by_cases hbc:b=c
   ·rw [if_pos hbc] at h2
    rw [if_pos (hab.trans hbc)]
    exact x7C p q r h1 h2
   ·rw [if_neg hbc] at h2
    rw [if_neg (by omega)]
    rw [decide_eq_true_iff] at *
    omega
  ·rw [if_neg hab] at h1
   rw [decide_eq_true_iff] at h1
   by_cases hbc:b=c
   ·rw [if_neg (by omega),decide_eq_true_iff]
    omega
   ·rw [if_neg hbc,decide_eq_true_iff] at h2
    rw [if_neg (by omega),decide_eq_true_iff]
    omega
theorem x7D:∀R S:List Int,R.length=S.length→lexLt R S=false→lexLt S R=false→R=S
 |[],[],_,_,_=>rfl
 |[],_::_,h,_,_=>by simp at h
 | _::_,[],h,_,_=>by simp at h
 | a::p,b::q,h,h1,h2=>by
  unfold lexLt at h1 h2
  by_cases hab:a=b
  ·rw [if_pos hab] at h1
   rw [if_pos hab.symm] at h2
   rw [hab,x7D p q (by simpa using h) h1 h2]
  ·rw [if_neg hab,decide_eq_false_iff_not] at h1
   rw [if_neg (fun e=>hab e.symm),decide_eq_false_iff_not] at h2
   omega
theorem x4w (a:Nat) (R:List Int):lessP a R R=false:=by
 unfold lessP
 rw [if_pos rfl]
 exact x3e R
theorem x3s {a:Nat} {R S U:List Int} (h1:lessP a R S=true) (h2:lessP a S U=true):lessP a R U=true:=by
 unfold lessP at *
 by_cases hab:R.getD a 0=S.getD a 0
 ·rw [if_pos hab] at h1
  by_cases hbc:S.getD a 0=U.getD a 0
  ·rw [if_pos hbc] at h2
   rw [if_pos (hab.trans hbc)]
   exact x7C R S U h1 h2
  ·rw [if_neg hbc,decide_eq_true_iff] at h2
   rw [if_neg (by omega),decide_eq_true_iff]
   omega
 ·rw [if_neg hab,decide_eq_true_iff] at h1
  by_cases hbc:S.getD a 0=U.getD a 0
  ·rw [if_neg (by omega),decide_eq_true_iff]
   omega
  ·rw [if_neg hbc,decide_eq_true_iff] at h2
   rw [if_neg (by omega),decide_eq_true_iff]
   omega
theorem x3t {a:Nat} {R S:List Int} (h:R.length=S.length) (h1:lessP a R S=false) (h2:lessP a S R=false):R=S:=by
 unfold lessP at *
 by_cases hab:R.getD a 0=S.getD a 0
 ·rw [if_pos hab] at h1
  rw [if_pos hab.symm] at h2
  exact x7D R S h h1 h2
 ·rw [if_neg hab,decide_eq_false_iff_not] at h1
  rw [if_neg (fun e=>hab e.symm),decide_eq_false_iff_not] at h2
  omega
theorem x9P {a:Nat} {R S:List Int} (h:lessP a R S=true):lessP a S R=false:=by
 rw [Bool.eq_false_iff]
 intro h2
 have:=x3s h h2
 rw [x4w] at this
 cases this
theorem x4x {a:Nat} {R S U:List Int} (e1:R.length=S.length) (e2:S.length=U.length) (h1:lessP a R S=false) (h2:lessP a S U=false):lessP a R U=false:=by
 rw [Bool.eq_false_iff]
 intro h
 cases h3:lessP a S R with
 | true=>
  have:=x3s h3 h
  rw [h2] at this
  cases this
 | false=>
  have:=x3t e1 h1 h3
  rw [this,h2] at h
  cases h
def x4F (a:Nat) (L:List (List Int)):Prop:=L.Pairwise fun x y=>lessP a y x=false
theorem x3R {α:Type} (f:α→Bool):∀(L:List α),∀x∈L.takeWhile f,f x=true
 |[],x,h=>by simp at h
 | y::L,x,h=>by
  rw [List.takeWhile_cons] at h
  split at h
  ·rename_i hy
   rcases List.mem_cons.1 h with rfl | h
   ·exact hy
   ·exact x3R f L x h
  ·simp at h
theorem x2n {α:Type} (f:α→Bool):∀(L:List α),L.dropWhile f=[]∨∃x T,L.dropWhile f=x::T∧f x=false
 |[]=>Or.inl rfl
 | y::L=>by
  rw [List.dropWhile_cons]
  split
  ·exact x2n f L
  ·rename_i hy
   exact Or.inr ⟨y,L,rfl,by simpa using hy⟩
theorem x7y {a d:Nat} {out:List (List Int)} {x:List Int} (h:x4F a out) (hd:∀y∈out,y.length=d) (hx:x.length=d):x4F a (insP a out x):=by
 unfold x4F insP at *
 have B:(out.takeWhile (fun y=>lessP a y x)++out.dropWhile (fun y=>lessP a y x)).Pairwise fun x y=>lessP a y x=false:=by
  rw [List.takeWhile_append_dropWhile]
  exact h
 have E:∀y∈out.dropWhile (fun y=>lessP a y x),y∈out:=fun y hy=>(List.dropWhile_sublist _).mem hy
 rw [List.pairwise_append] at B ⊢
 have G:∀y∈out.dropWhile (fun y=>lessP a y x),lessP a y x=false:=by
  rcases x2n (fun y=>lessP a y x) out with K | ⟨z,T,C,I⟩
  ·rw [K]
   intro y hy
   cases hy
  ·have A:=B.2.1
   rw [C] at A E ⊢
   rw [List.pairwise_cons] at A
   intro y hy
   rcases List.mem_cons.1 hy with rfl | H
   ·exact I
   ·exact x4x ((hd _ (E y hy)).trans (hd _ (E z (by simp))).symm) ((hd _ (E z (by simp))).trans hx.symm) (A.1 y H) I
 refine ⟨B.1,?_,fun y hy z C=>?_⟩
 ·rw [List.pairwise_cons]
  exact ⟨G,B.2.1⟩
 ·have J:=x3R _ _ y hy
  rcases List.mem_cons.1 C with rfl | C
  ·exact x9P J
  ·exact B.2.2 y hy z C
theorem y0m {a d:Nat} {out:List (List Int)} {x:List Int} (hd:∀y∈out,y.length=d) (hx:x.length=d):∀y∈insP a out x,y.length=d:=fun y hy=>by
 rcases List.mem_cons.1 ((x6t a out x).mem_iff.1 hy) with rfl | h
 ·exact hx
 ·exact hd y h
theorem x4y {a d:Nat}:∀(L out:List (List Int)),(∀y∈L,y.length=d)→(∀y∈out,y.length=d)→x4F a out→x4F a (L.foldl (insP a) out)
 |[],out,_,_,h=>h
 | x::L,out,hL,hd,h=>by
  rw [List.foldl_cons]
  exact x4y L _ (fun y hy=>hL y (by simp [hy])) (y0m hd (hL x (by simp))) (x7y h hd (hL x (by simp)))
theorem x2I {a d:Nat} {L:List (List Int)} (hL:∀y∈L,y.length=d):x4F a (sortP a L):=x4y L [] hL (fun y hy=>by cases hy) List.Pairwise.nil
theorem x5q {a d:Nat} {L M:List (List Int)} (hL:∀y∈L,y.length=d) (hp:M.Perm L) (hs:x4F a M):M=sortP a L:=by
 have B:=x2I (a:=a) hL
 have A:M.Perm (sortP a L):=hp.trans (x1Y a L).symm
 refine List.Perm.eq_of_pairwise (le:=fun x y=>lessP a y x=false) (fun x y hx hy h1 B=>?_) hs B A
 have E:=hL x (hp.mem_iff.1 hx)
 have C:=hL y ((x1Y a L).mem_iff.1 hy)
 exact x3t (E.trans C.symm) B h1
end Go.Proofs.YtinihaflmdihaaaGreat.Kt
namespace Go.Proofs.YtinihaflmdihaaaGreat.Kt
open Go.Proofs Go.RowKit Go.Sort Go.Shelf Go.Proofs.YtinihaflmdihaaaGreat.Nd
def Seg (w:World) (g o:Nat) (L:List Rw):Prop:=∀j,j<L.length→w.cell? ⟨g,o+j,none⟩=some (L.getD j default).val∧w.frozen? ⟨g,o+j,none⟩=false
structure Turned (g o n:Nat) (w w':World):Prop where
 only:Dk.Only (fun k=>k=g) w w'
 cell:∀a:Addr,a.block≠g∨a.off<o∨o+n≤a.off→a.block<w.heap.size→w'.cell? a=w.cell? a
 frozen:∀a:Addr,a.block<w.heap.size→w'.frozen? a=w.frozen? a
abbrev RwE (w:World) (g d:Nat):={r:Rw//r.Ok w∧r.n=d∧Away g r}
section
variable {w:World} {g d a:Nat}
def encR (x:RwE w g d):Value:=x.1.val
theorem y2Y:OneCell (encR (w:=w) (g:=g) (d:=d)):=fun _=>rfl
def cfR (a:Nat) (x y:RwE w g d):Int:=ordC a x.1.R y.1.R
theorem x3u (x:RwE w g d):x.1.R.length=d:=by rw [← x.2.1.ints.size];exact x.2.2.1
theorem ltR (x y:RwE w g d):ltOf (cfR a) x y=lessP a x.1.R y.1.R:=by
 unfold ltOf cfR
 rw [Bool.eq_iff_iff,decide_eq_true_iff]
 exact y0l ((x3u x).trans (x3u y).symm)
theorem swoR:SWO (ltOf (cfR (w:=w) (g:=g) (d:=d) a)) where
 irrefl x:=by rw [ltR];exact x4w _ _
 trans x y z h1 h2:=by rw [ltR] at *;exact x3s h1 h2
 ntrans x y z h1 h2:=by rw [ltR] at *;exact x4x ((x3u x).trans (x3u y).symm) ((x3u y).trans (x3u z).symm) h1 h2
end
section
variable {α:Type} [Inhabited α] {enc:α→Value} {w:World} {blk off n:Nat} {d:Array α} {os:Array Obj}
theorem x2o:Dk.Only (fun k=>k=blk) w (sortWorld enc w blk off n d os):=by
 refine ⟨rfl,rfl,rfl,?_,fun k hk hn=>?_⟩
 ·simp [sortWorld,grow,putRow,mapBlock,Sort.ahead]
 ·simp only [sortWorld,grow,putRow,mapBlock]
  rw [Array.getElem?_append_left (by simpa [Sort.ahead] using hk),Array.getElem?_modify,if_neg (fun e=>hn e.symm)]
  rfl
theorem x2A:Turned blk off d.size w (sortWorld enc w blk off n d os):=by
 refine ⟨x2o,fun a h hb=>?_,fun a hb=>?_⟩
 ·unfold sortWorld
  rw [cell?_grow _ _ _ (by simpa [Sort.ahead] using hb),cell?_putRow_other _ _ _ _ _ _ h]
  rfl
 ·unfold sortWorld
  rw [frozen?_grow _ _ _ (by simpa [Sort.ahead] using hb),frozen?_putRow]
  rfl
theorem y2Z {d d':Array α} (h:PermIn 0 d.size d d'):d'.toList.Perm d.toList:=by
 have A:=h.2.2
 rw [Array.extract_size] at A
 rwa [← h.1,Array.extract_size] at A
end
theorem y0n (w:World) (g o size a d gf:Nat) (ha:a<d) (hf:w.cell? ⟨gf,0,none⟩=some (.int .i64 a)) (hfg:gf≠g) [Inhabited (RwE w g d)]:
  CmpLays1 Tryz.prog 162 #[.pointer (some ⟨gf,0,none⟩)] (encR (w:=w) (g:=g) (d:=d)) (cfR a) g o size w:=fun m os dk _ x y=>by
 have key:∀x:RwE w g d,x.1.Ok (sortWorld encR w g o m dk os):=fun x=>Nd.rw_keep x.2.1 fun z hz hR=>x2o.block _ (rw_lt x.2.1 z hz hR) (x.2.2.2 z hz hR)
 have h:=x5p x.1.p y.1.p x.1.n x.1.c y.1.n y.1.c x.1.R y.1.R a gf (sortWorld encR w g o m dk os) (key x).ints (key y).ints (by rw [x.2.2.1];exact ha) (by rw [y.2.2.1];exact ha) (key x).top (key y).top ((x2A.cell _ (Or.inl hfg) (block_lt_of_cell hf)).trans hf)
 refine Calls.mono h ?_
 rintro e w' ⟨he,j,hj⟩
 exact ⟨he,j,#[],by rw [hj,grow_empty]⟩
theorem x9Q {L:List Rw} {P:Rw→Prop} (h:∀r∈L,P r):(L.attach.map fun r=>(⟨r.1,h r.1 r.2⟩:{r:Rw//P r})).map (·.1)=L:=by
 rw [List.map_map]
 exact List.attach_map_subtype_val L
theorem x8j {P:Rw→Prop} [Inhabited {r:Rw//P r}] (D:Array {r:Rw//P r}) (j:Nat) (hj:j<D.size):(D[j]!).1=(D.toList.map (·.1)).getD j default:=by
 rw [getElem!_pos D j hj,List.getD_eq_getElem?_getD,List.getElem?_map,List.getElem?_eq_getElem (by simpa using hj)]
 simp
theorem y0o (g o c a d gf:Nat) (L:List Rw) (w:World) (hne:L≠[]) (hS:Seg w g o L) (hok:∀r∈L,r.Ok w∧r.n=d∧Away g r) (ha:a<d) (hg:g<w.heap.size) (hf:w.cell? ⟨gf,0,none⟩=some (.int .i64 a)) (hfg:gf≠g) (hn:L.length≤1000000000):
  Calls Tryz.prog 118 #[.slice (some ⟨g,o,none⟩) L.length c,.func (.func 162) #[] #[.pointer (some ⟨gf,0,none⟩)]] w fun e w'=>e= .returned (.tuple #[])∧
   ∃M:List Rw,M.Perm L∧M.map Rw.R=sortP a (L.map Rw.R)∧Seg w' g o M∧Turned g o L.length w w':=by
 haveI:Inhabited (RwE w g d):=⟨⟨L.head hne,hok _ (List.head_mem hne)⟩⟩
 obtain ⟨D,I⟩:∃D:Array (RwE w g d),D.toList.map (·.1)=L:=⟨(L.attach.map fun r=>(⟨r.1,hok r.1 r.2⟩:RwE w g d)).toArray,by rw [List.toList_toArray];exact x9Q hok⟩
 have C:D.size=L.length:=by rw [← I];simp
 have J:Holds encR w g o D:=fun j hj=>by
  have h:=hS j (by omega)
  unfold encR
  rw [x8j D j hj,I]
  exact h
 have h:=Any.slices_SortFunc (P:=Tryz.prog) x8g encR y2Y (cfR a) swoR 162 #[.pointer (some ⟨gf,0,none⟩)] g o c D w (enters_of Tryz.func162 (by kernel_rfl) rfl) (y0n w g o D.size a d gf ha hf hfg) J hg (by omega)
 rw [C] at h
 refine Calls.mono h ?_
 rintro e w' ⟨O,B,n,os,G,N,rfl⟩
 rw [← C] at G N
 have A:=(y2Z G).map (·.1)
 rw [I] at A
 refine ⟨O,B.toList.map (·.1),A,?_,fun j hj=>?_,by have:=x2A (enc:=encR) (w:=w) (blk:=g) (off:=o) (n:=n) (d:=B) (os:=os);rw [G.1,C] at this;exact this⟩
 ·refine x5q (d:=d) (fun y hy=>?_) (A.map Rw.R) ?_
  ·obtain ⟨r,K,rfl⟩:=List.mem_map.1 hy
   rw [← (hok r K).1.ints.size]
   exact (hok r K).2.1
  ·unfold x4F
   rw [List.pairwise_iff_getElem]
   intro i j hi hj hij
   simp only [List.length_map,Array.length_toList] at hi hj
   have E:=N i j (Nat.zero_le _) hij (by rw [← G.1];exact hj)
   rw [ltR,getElem!_pos B j hj,getElem!_pos B i hi] at E
   simpa using E
 ·have H:j<B.size:=by simpa using hj
  have E:=holds_sortWorld encR w g o n D B os hg J G.1 j H
  unfold encR at E
  rw [x8j B j H] at E
  exact E
end Go.Proofs.YtinihaflmdihaaaGreat.Kt
