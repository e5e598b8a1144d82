/- KdGetV, KdDown, KdWay, KdEach, KtWay. -/
import Derived.BigRegion
import Derived.Deep.MidRow
import Derived.LoopN
import Derived.Test.YtinihaflmdihaaaGreatK21
set_option maxRecDepth 100000
set_option maxHeartbeats 8000000
set_option linter.all false
namespace Go.Proofs.YtinihaflmdihaaaGreat.Kt
open Go.RowKit Go.Proofs.YtinihaflmdihaaaGreat.Nd Go.Proofs.YtinihaflmdihaaaGreat.Dk Go.Proofs.YtinihaflmdihaaaGreat.Pg
open List renaming setIfInBounds_toArray → yA, set_cons_zero → yB, set_cons_succ → yC
def NodeBad (gs:Nat) (k:Kd) (d:Int) (w:World):Prop:=∀w',Below w.heap.size w w'→Calls Tryz.prog 52 #[.pointer (some ⟨gs,0,none⟩),.agg k.cells.toArray,.int .i64 d] w' fun e w''=>e= .returned (.tuple #[.agg #[.int .u8 0,.slice none 0 0,.slice none 0 0],.int .i64 21])∧Below w'.heap.size w' w''
def NodeGood (gs:Nat) (k:Kd) (d:Int) (N:PN) (w:World):Prop:=∀w',Below w.heap.size w w'→Calls Tryz.prog 52 #[.pointer (some ⟨gs,0,none⟩),.agg k.cells.toArray,.int .i64 d] w' fun e w''=>Below w'.heap.size w' w''∧∃p n c q m f E K mid,e= .returned (.tuple #[.agg #[.int .u8 N.kind,.slice p n c,.slice q m f],.int .i64 0])∧pnOf N.kind E K=N∧Fresh w'.heap.size mid w'' p n c q m f E K
theorem nodeBad_none {gs:Nat} {Q:Nat→Prop} {s:Pg.S} {k:Kd} {d:Int} {w:World} (hp:PL w gs Q s) (hk:k.Ok w) (ht:textAt s.W k.sum=none):NodeBad gs k d w:=fun w' hb=>
 Get_none k d w' (hp.keep (fun _=>False) (Only.of_below _ hb) (fun _ _ e=>e)) (hk.later hb) ht
theorem nodeBad_txt {gs:Nat} {Q:Nat→Prop} {s:Pg.S} {k:Kd} {d:Int} {w:World} {t:List Nat} {N:PN} (hp:PL w gs Q s) (hk:k.Ok w) (ht:textAt s.W k.sum=some t) (hN:Txt d t N) (hs:N.says≠k.pk):NodeBad gs k d w:=fun w' hb=>by
 have h:=Get_unlike k d t w' (hp.keep (fun _=>False) (Only.of_below _ hb) (fun _ _ e=>e)) (hk.later hb) ht hN.ok hN.len hN.good (by rw [hN.node];exact hN.size) (by rw [hN.node];exact hs)
 exact h
theorem nodeGood_txt {gs:Nat} {Q:Nat→Prop} {s:Pg.S} {k:Kd} {d:Int} {w:World} {t:List Nat} {N:PN} (hp:PL w gs Q s) (hk:k.Ok w) (ht:textAt s.W k.sum=some t) (hN:Txt d t N) (hs:N.says=k.pk):NodeGood gs k d N w:=fun w' hb=>by
 have h:=Get_good k d t w' (hp.keep (fun _=>False) (Only.of_below _ hb) (fun _ _ e=>e)) (hk.later hb) ht hN.ok hN.len hN.good (by rw [hN.node];exact hN.size) (by rw [hN.node];exact hs)
 refine h.mono ?_
 rintro e w'' ⟨hb2,kind,p,n,c,q,m,f,E,K,rfl,-,-,hpn,mid,hfr⟩
 rw [hN.node] at hpn
 have hkd:N.kind=kind:=by rw [← hpn];rfl
 rw [hkd]
 exact ⟨hb2,p,n,c,q,m,f,E,K,mid,rfl,hpn,hfr⟩
theorem kget_bad {g:Nat} {d:Int} (k:Kd) (ga oa:Nat) (w:World) (hk:k.Ok w) (hr:w.rangeAt ga oa k.cells) (he:k.pk≠PK.none) (hg:NodeBad g k d w):
  Calls Tryz.prog 120 #[.agg #[.pointer (some ⟨g,0,none⟩),.int .i64 d],.pointer (some ⟨ga,oa,none⟩)] w (GetZero w 21):=by
 obtain ⟨W,hW,r0,r1,b1⟩:=two_alloc w (.cells #[.pointer (some ⟨g,0,none⟩),.int .i64 d] 91) (.cells #[.int .u8 0,.slice none 0 0,.slice none 0 0] 81)
 have HEM:=yH (nempty_any k W (hk.later b1))
 rw [decide_eq_false he] at HEM
 have RK:=yH (range_later hr b1)
 have HGET:=yH (show ∀w',Below W.heap.size W w'→Calls Tryz.prog 52 #[.pointer (some ⟨g,0,none⟩),.agg k.cells.toArray,.int .i64 d] w' _ from fun w' hb=>hg w' (b1.trans (hb.mono b1.size)))
 have HCL:=yH (Kd.cells_length hk.len)
 have R0:=yH r0
 have R1:=yH r1
 have B1:=yH b1
 obtain ⟨du,hdu,hdr⟩:=UKd
 obtain ⟨dn,hdn,hdnr⟩:=UNo
 have HDU:=yH hdu
 have HDR:=yH hdr
 have HDN:=yH hdn
 have HDNR:=yH hdnr
 clear hk hr he hg r0 r1 b1 hdu hdr hdn hdnr
 go_enter Tryz.func120,Tryz.ntmps120
 go_upto_region 1 with fail
 clear hW
 go_upto_region 3 with (first
  | (refine wpList_load_mid (by rfl) 34 _ (by rfl) ga oa (by rfl) k.cells du RK.out HDU.out HDR.out (by rw [HCL.out];exact SKd) ?_)
  | (go_at_call 20;refine HEM.out.mono ?_;rintro _ w1 ⟨rfl,b3⟩;have B2:=yH b3;clear b3))
 have c0:=(B2.out.cell (block_lt_of_cell (cell_of_row W w.heap.size 0 _ _ _ R0.out))).trans (cell_of_row W w.heap.size 0 _ _ _ R0.out)
 have c1:=(B2.out.cell (block_lt_of_cell (cell_of_row W w.heap.size 1 _ _ _ R0.out))).trans (cell_of_row W w.heap.size 1 _ _ _ R0.out)
 have RK1:=yH (range_later RK.out B2.out)
 have HG1:=yH (fun w' (hb:Below w1.heap.size w1 w')=>HGET.out w' (B2.out.trans (hb.mono B2.out.size)))
 have RS:=yH ((B2.out.block _ (yL R1.out)).trans R1.out)
 have BW:=yH (B1.out.trans (B2.out.mono B1.out.size))
 have SW:=yH (show w.heap.size+2≤w1.heap.size from (yL RS.out))
 clear HGET HEM RK R0 R1 B1 B2
 refine wp_region_held_drew (S:=fun w'=>Below w1.heap.size w1 w') (by kernel_rfl) (Below.refl _ _).drew (fun hHeld=>?_)
 generalize w1.drew=x0 at *
 refine tK 0 ?_
 refine tQ 1 ?_ ?_ ?_
 rotate_left
 ·intro w' hSw
  have y:=(hSw.cell (block_lt_of_cell c0)).trans c0
  go_simp
  try with_reducible rfl
 refine tK 2 ?_
 refine tK 3 ?_
 refine tQ 4 ?_ ?_ ?_
 rotate_left
 ·intro w' hSw
  refine Eq.trans (b:=Result.ok (Next.value (.agg k.cells.toArray)) w') ?_ ?_
  ·exact op_load_mid 34 (.tmp 17) (by rfl) ga oa (by rfl) k.cells du (range_later RK1.out hSw) HDU.out HDR.out (by rw [HCL.out];exact SKd)
  ·with_reducible rfl
 refine tK 5 ?_
 refine tQ 6 ?_ ?_ ?_
 rotate_left
 ·intro w' hSw
  have y:=(hSw.cell (block_lt_of_cell c1)).trans c1
  go_simp
  try with_reducible rfl
 refine rY [7,11] ?_
 refine rC (fun K hK=>?_) (rC (fun K hK=>?_) AllReadyH.nil)
 ·
  go_simp
  refine (HG1.out _ hHeld).mono ?_
  rintro _ x1 ⟨rfl,b1⟩
  have hB1:=hHeld.trans (b1.mono hHeld.size)
  try go_wp2_with fail
  refine hK.out _ _ hB1 (fun hHeld=>?_)
  clear hK K
  try simp only [Act.put,yA,yB,yC]
  refine tK 8 ?_
  refine tK 9 ?_
  refine tK 10 ?_
  refine rY [11] ?_
  refine rC (fun K hK=>?_) AllReadyH.nil
  go_simp
  have b2:Below x1.heap.size x1 (x1.alloc (.cells #[.int .u8 0,.slice none 0 0,.slice none 0 0] 81)):=(Below.refl _ _).alloc (Nat.le_refl _) _
  have hB2:=hHeld.trans (b2.mono hHeld.size)
  have AN2:=yH (heap_alloc_new x1 (.cells #[.int .u8 0,.slice none 0 0,.slice none 0 0] 81))
  have AS:=yH hHeld.size
  try go_wp2_with fail
  refine hK.out _ _ hB2 (fun hHeld=>?_)
  clear hK K
  try simp only [Act.put,yA,yB,yC]
  generalize x1.alloc (.cells #[.int .u8 0,.slice none 0 0,.slice none 0 0] 81)=x2 at *
  refine rY [12] ?_
  refine rC (fun K hK=>?_) AllReadyH.nil
  refine wp_store_row 81 (.tmp 6) (.tmp 22) (by rfl) x1.heap.size #[.int .u8 0,.slice none 0 0,.slice none 0 0] (by rfl) (by rfl) _ _ AN2.out SNo rfl nd0_one ?_
  have hS:=Below.setRow hHeld AS.out #[.int .u8 0,.slice none 0 0,.slice none 0 0]
  have RY:=yH (setRow_heap _ _ _ #[.int .u8 0,.slice none 0 0,.slice none 0 0] _ _ AN2.out)
  refine hK.out _ _ hS (fun hHeld=>?_)
  clear hK K
  try simp only [Act.put,yA,yB,yC]
  generalize x2.setRow x1.heap.size #[.int .u8 0,.slice none 0 0,.slice none 0 0]=y1 at *
  refine tK 13 ?_
  refine wpAnyH_done (by kernel_rfl) ?_ _
  have R9:=yH ((hS.block _ (yL RS.out)).trans RS.out)
  go_wp2_with (first
   | (refine wpList_build (by rfl) (by rfl) nd0_built ?_)
   | (refine wpList_store_row (by rfl) 81 _ _ (by rfl) (w.heap.size+1) #[.int .u8 0,.slice none 0 0,.slice none 0 0] (by rfl) (by rfl) _ _ R9.out SNo rfl nd0_one ?_))
  refine ret_str2 4 5 (by kernel_rfl) (w.heap.size+1) _ #[.int .u8 0,.slice none 0 0,.slice none 0 0] _ HDN.out HDNR.out SNo (by rfl) (by rfl) (setRow_heap _ _ _ _ _ _ R9.out) ?_
  exact ⟨rfl,(BW.out.trans (hS.mono BW.out.size)).trans (Below.setRow (Below.refl _ _) (by omega) _)⟩
 ·
  go_simp
  have b1:Below x0.heap.size x0 (x0.alloc (.cells #[.int .u8 0,.slice none 0 0,.slice none 0 0] 81)):=(Below.refl _ _).alloc (Nat.le_refl _) _
  have hB1:=hHeld.trans (b1.mono hHeld.size)
  have AN1:=yH (heap_alloc_new x0 (.cells #[.int .u8 0,.slice none 0 0,.slice none 0 0] 81))
  have AS:=yH hHeld.size
  try go_wp2_with fail
  refine hK.out _ _ hB1 (fun hHeld=>?_)
  clear hK K
  try simp only [Act.put,yA,yB,yC]
  generalize x0.alloc (.cells #[.int .u8 0,.slice none 0 0,.slice none 0 0] 81)=x1 at *
  refine rY [7] ?_
  refine rC (fun K hK=>?_) AllReadyH.nil
  go_simp
  refine (HG1.out _ hHeld).mono ?_
  rintro _ x2 ⟨rfl,b2⟩
  have hB2:=hHeld.trans (b2.mono hHeld.size)
  have AN2:=yH ((b2.block _ (yL AN1.out)).trans AN1.out)
  try go_wp2_with fail
  refine hK.out _ _ hB2 (fun hHeld=>?_)
  clear hK K
  try simp only [Act.put,yA,yB,yC]
  refine tK 8 ?_
  refine tK 9 ?_
  refine tK 10 ?_
  refine rY [12] ?_
  refine rC (fun K hK=>?_) AllReadyH.nil
  refine wp_store_row 81 (.tmp 6) (.tmp 22) (by rfl) x0.heap.size #[.int .u8 0,.slice none 0 0,.slice none 0 0] (by rfl) (by rfl) _ _ AN2.out SNo rfl nd0_one ?_
  have hS:=Below.setRow hHeld AS.out #[.int .u8 0,.slice none 0 0,.slice none 0 0]
  have RY:=yH (setRow_heap _ _ _ #[.int .u8 0,.slice none 0 0,.slice none 0 0] _ _ AN2.out)
  refine hK.out _ _ hS (fun hHeld=>?_)
  clear hK K
  try simp only [Act.put,yA,yB,yC]
  generalize x2.setRow x0.heap.size #[.int .u8 0,.slice none 0 0,.slice none 0 0]=y1 at *
  refine tK 13 ?_
  refine wpAnyH_done (by kernel_rfl) ?_ _
  have R9:=yH ((hS.block _ (yL RS.out)).trans RS.out)
  go_wp2_with (first
   | (refine wpList_build (by rfl) (by rfl) nd0_built ?_)
   | (refine wpList_store_row (by rfl) 81 _ _ (by rfl) (w.heap.size+1) #[.int .u8 0,.slice none 0 0,.slice none 0 0] (by rfl) (by rfl) _ _ R9.out SNo rfl nd0_one ?_))
  refine ret_str2 4 5 (by kernel_rfl) (w.heap.size+1) _ #[.int .u8 0,.slice none 0 0,.slice none 0 0] _ HDN.out HDNR.out SNo (by rfl) (by rfl) (setRow_heap _ _ _ _ _ _ R9.out) ?_
  exact ⟨rfl,(BW.out.trans (hS.mono BW.out.size)).trans (Below.setRow (Below.refl _ _) (by omega) _)⟩
def GetFork (w:World) (N:PN) (e:Ending) (w':World):Prop:=∃p n c q m f E K mid,e= .returned (.tuple #[.agg #[.int .u8 1,.slice p n c,.slice q m f],.int .i64 0])∧pnOf 1 E K=N∧Fresh w.heap.size mid w' p n c q m f E K∧Below w.heap.size w w'
theorem nd3_one (kind:Nat) (p:Option Addr) (n c:Nat) (q:Option Addr) (m f:Nat):(#[.int .u8 kind,.slice p n c,.slice q m f]:Array Value).all (·.oneCell')=true:=all_oneCell_toArray (cs:=[.int .u8 kind,.slice p n c,.slice q m f]) fun u hu=>by
 simp only [List.mem_cons,List.not_mem_nil,or_false] at hu
 rcases hu with rfl | rfl | rfl<;>rfl
theorem kget_fork {g:Nat} {d:Int} {N:PN} (k:Kd) (ga oa:Nat) (w:World) (hk:k.Ok w) (hr:w.rangeAt ga oa k.cells) (he:k.pk≠PK.none) (hg:NodeGood g k d N w) (h1:N.kind=1):
  Calls Tryz.prog 120 #[.agg #[.pointer (some ⟨g,0,none⟩),.int .i64 d],.pointer (some ⟨ga,oa,none⟩)] w (GetFork w N):=by
 unfold NodeGood at hg
 rw [h1] at hg
 obtain ⟨W,hW,r0,r1,b1⟩:=two_alloc w (.cells #[.pointer (some ⟨g,0,none⟩),.int .i64 d] 91) (.cells #[.int .u8 0,.slice none 0 0,.slice none 0 0] 81)
 have HEM:=yH (nempty_any k W (hk.later b1))
 rw [decide_eq_false he] at HEM
 have RK:=yH (range_later hr b1)
 have HGET:=yH (show ∀w',Below W.heap.size W w'→Calls Tryz.prog 52 #[.pointer (some ⟨g,0,none⟩),.agg k.cells.toArray,.int .i64 d] w' _ from fun w' hb=>hg w' (b1.trans (hb.mono b1.size)))
 have HCL:=yH (Kd.cells_length hk.len)
 have R0:=yH r0
 have R1:=yH r1
 have B1:=yH b1
 obtain ⟨du,hdu,hdr⟩:=UKd
 obtain ⟨dn,hdn,hdnr⟩:=UNo
 have HDU:=yH hdu
 have HDR:=yH hdr
 have HDN:=yH hdn
 have HDNR:=yH hdnr
 clear hk hr he hg h1 r0 r1 b1 hdu hdr hdn hdnr
 go_enter Tryz.func120,Tryz.ntmps120
 go_upto_region 1 with fail
 clear hW
 go_upto_region 3 with (first
  | (refine wpList_load_mid (by rfl) 34 _ (by rfl) ga oa (by rfl) k.cells du RK.out HDU.out HDR.out (by rw [HCL.out];exact SKd) ?_)
  | (go_at_call 20;refine HEM.out.mono ?_;rintro _ w1 ⟨rfl,b3⟩;have B2:=yH b3;clear b3))
 have c0:=(B2.out.cell (block_lt_of_cell (cell_of_row W w.heap.size 0 _ _ _ R0.out))).trans (cell_of_row W w.heap.size 0 _ _ _ R0.out)
 have c1:=(B2.out.cell (block_lt_of_cell (cell_of_row W w.heap.size 1 _ _ _ R0.out))).trans (cell_of_row W w.heap.size 1 _ _ _ R0.out)
 have RK1:=yH (range_later RK.out B2.out)
 have HG1:=yH (fun w' (hb:Below w1.heap.size w1 w')=>HGET.out w' (B2.out.trans (hb.mono B2.out.size)))
 have RS:=yH ((B2.out.block _ (yL R1.out)).trans R1.out)
 have BW:=yH (B1.out.trans (B2.out.mono B1.out.size))
 have SW:=yH (show w.heap.size+2≤w1.heap.size from (yL RS.out))
 clear HGET HEM RK R0 R1 B1 B2
 refine wp_region_held_drew (S:=fun w'=>Below w1.heap.size w1 w') (by kernel_rfl) (Below.refl _ _).drew (fun hHeld=>?_)
 generalize w1.drew=x0 at *
 refine tK 0 ?_
 refine tQ 1 ?_ ?_ ?_
 rotate_left
 ·intro w' hSw
  have y:=(hSw.cell (block_lt_of_cell c0)).trans c0
  go_simp
  try with_reducible rfl
 refine tK 2 ?_
 refine tK 3 ?_
 refine tQ 4 ?_ ?_ ?_
 rotate_left
 ·intro w' hSw
  refine Eq.trans (b:=Result.ok (Next.value (.agg k.cells.toArray)) w') ?_ ?_
  ·exact op_load_mid 34 (.tmp 17) (by rfl) ga oa (by rfl) k.cells du (range_later RK1.out hSw) HDU.out HDR.out (by rw [HCL.out];exact SKd)
  ·with_reducible rfl
 refine tK 5 ?_
 refine tQ 6 ?_ ?_ ?_
 rotate_left
 ·intro w' hSw
  have y:=(hSw.cell (block_lt_of_cell c1)).trans c1
  go_simp
  try with_reducible rfl
 refine rY [7,11] ?_
 refine rC (fun K hK=>?_) (rC (fun K hK=>?_) AllReadyH.nil)
 ·
  go_simp
  refine (HG1.out _ hHeld).mono ?_
  rintro _ x1 ⟨b1,p,n,c,q,m,f,EE,KK,mid,rfl,hpn,hfr⟩
  have HPN:=yH hpn
  have HLE:=yH hfr.ents.low
  have HLK:=yH hfr.kids.low
  have FR1:=yH hfr
  have hB1:=hHeld.trans (b1.mono hHeld.size)
  have HBS:=yH (show w1.heap.size≤x0.heap.size from hHeld.size)
  clear hpn hfr
  try go_wp2_with fail
  refine hK.out _ _ hB1 (fun hHeld=>?_)
  clear hK K
  try simp only [Act.put,yA,yB,yC]
  refine tK 8 ?_
  refine tK 9 ?_
  refine tK 10 ?_
  refine rY [11] ?_
  refine rC (fun K hK=>?_) AllReadyH.nil
  go_simp
  have b2:Below x1.heap.size x1 (x1.alloc (.cells #[.int .u8 0,.slice none 0 0,.slice none 0 0] 81)):=(Below.refl _ _).alloc (Nat.le_refl _) _
  have hB2:=hHeld.trans (b2.mono hHeld.size)
  have AN2:=yH (heap_alloc_new x1 (.cells #[.int .u8 0,.slice none 0 0,.slice none 0 0] 81))
  have AS:=yH hHeld.size
  have FR2:=yH (FR1.out.later b2)
  try go_wp2_with fail
  refine hK.out _ _ hB2 (fun hHeld=>?_)
  clear hK K
  try simp only [Act.put,yA,yB,yC]
  generalize x1.alloc (.cells #[.int .u8 0,.slice none 0 0,.slice none 0 0] 81)=x2 at *
  refine rY [12] ?_
  refine rC (fun K hK=>?_) AllReadyH.nil
  refine wp_store_row 81 (.tmp 6) (.tmp 22) (by rfl) x1.heap.size #[.int .u8 1,.slice p n c,.slice q m f] (by rfl) (by rfl) _ _ AN2.out SNo rfl (nd3_one 1 p n c q m f) ?_
  have hS:=Below.setRow hHeld AS.out #[.int .u8 1,.slice p n c,.slice q m f]
  have RY:=yH (setRow_heap _ _ _ #[.int .u8 1,.slice p n c,.slice q m f] _ _ AN2.out)
  have FRS:=yH (FR2.out.keepIn HLE.out HLK.out (fun j h1 h2 _=>setRow_other x2 x1.heap.size j #[.int .u8 1,.slice p n c,.slice q m f] (by omega)))
  refine hK.out _ _ hS (fun hHeld=>?_)
  clear hK K
  try simp only [Act.put,yA,yB,yC]
  generalize x2.setRow x1.heap.size #[.int .u8 1,.slice p n c,.slice q m f]=y1 at *
  refine tK 13 ?_
  refine wpAnyH_done (by kernel_rfl) ?_ _
  have R9:=yH ((hS.block _ (yL RS.out)).trans RS.out)
  have yc0:=cell_of_row y1 x1.heap.size 0 _ _ _ RY.out
  have RYR:=yH (show y1.rangeAt x1.heap.size 0 [.int .u8 1,.slice p n c,.slice q m f] from range_nd RY.out)
  go_wp2_with (first
   | (refine wpList_load_mid (by rfl) 81 _ (by rfl) x1.heap.size 0 (by rfl) [.int .u8 1,.slice p n c,.slice q m f] dn RYR.out HDN.out HDNR.out SNo ?_)
   | (refine wpList_store_row (by rfl) 81 _ _ (by rfl) (w.heap.size+1) #[.int .u8 1,.slice p n c,.slice q m f] (by rfl) (by rfl) _ _ R9.out SNo rfl (nd3_one 1 p n c q m f) ?_))
  refine ret_str2 4 5 (by kernel_rfl) (w.heap.size+1) _ #[.int .u8 1,.slice p n c,.slice q m f] _ HDN.out HDNR.out SNo (by rfl) (by rfl) (setRow_heap _ _ _ _ _ _ R9.out) ?_
  exact ⟨p,n,c,q,m,f,EE,KK,mid,rfl,HPN.out,(FRS.out.keepIn HLE.out HLK.out (fun j h1 h2 _=>setRow_other y1 (w.heap.size+1) j _ (by have:=HBS.out;have:=SW.out;omega))).down (by have:=HBS.out;have:=SW.out;omega),(BW.out.trans (hS.mono BW.out.size)).trans (Below.setRow (Below.refl _ _) (by omega) _)⟩
 ·
  go_simp
  have b1:Below x0.heap.size x0 (x0.alloc (.cells #[.int .u8 0,.slice none 0 0,.slice none 0 0] 81)):=(Below.refl _ _).alloc (Nat.le_refl _) _
  have hB1:=hHeld.trans (b1.mono hHeld.size)
  have AN1:=yH (heap_alloc_new x0 (.cells #[.int .u8 0,.slice none 0 0,.slice none 0 0] 81))
  have AS:=yH hHeld.size
  try go_wp2_with fail
  refine hK.out _ _ hB1 (fun hHeld=>?_)
  clear hK K
  try simp only [Act.put,yA,yB,yC]
  generalize x0.alloc (.cells #[.int .u8 0,.slice none 0 0,.slice none 0 0] 81)=x1 at *
  refine rY [7] ?_
  refine rC (fun K hK=>?_) AllReadyH.nil
  go_simp
  refine (HG1.out _ hHeld).mono ?_
  rintro _ x2 ⟨b2,p,n,c,q,m,f,EE,KK,mid,rfl,hpn,hfr⟩
  have HPN:=yH hpn
  have HLE:=yH hfr.ents.low
  have HLK:=yH hfr.kids.low
  have FR2:=yH hfr
  have hB2:=hHeld.trans (b2.mono hHeld.size)
  have HAW:=yH (show x0.heap.size<x1.heap.size from (yL AN1.out))
  have HBS:=yH (show w1.heap.size≤x1.heap.size from hHeld.size)
  clear hpn hfr
  have AN2:=yH ((b2.block _ (yL AN1.out)).trans AN1.out)
  try go_wp2_with fail
  refine hK.out _ _ hB2 (fun hHeld=>?_)
  clear hK K
  try simp only [Act.put,yA,yB,yC]
  refine tK 8 ?_
  refine tK 9 ?_
  refine tK 10 ?_
  refine rY [12] ?_
  refine rC (fun K hK=>?_) AllReadyH.nil
  refine wp_store_row 81 (.tmp 6) (.tmp 22) (by rfl) x0.heap.size #[.int .u8 1,.slice p n c,.slice q m f] (by rfl) (by rfl) _ _ AN2.out SNo rfl (nd3_one 1 p n c q m f) ?_
  have hS:=Below.setRow hHeld AS.out #[.int .u8 1,.slice p n c,.slice q m f]
  have RY:=yH (setRow_heap _ _ _ #[.int .u8 1,.slice p n c,.slice q m f] _ _ AN2.out)
  have FRS:=yH (FR2.out.keepIn HLE.out HLK.out (fun j h1 h2 _=>setRow_other x2 x0.heap.size j #[.int .u8 1,.slice p n c,.slice q m f] (by have:=HAW.out;omega)))
  refine hK.out _ _ hS (fun hHeld=>?_)
  clear hK K
  try simp only [Act.put,yA,yB,yC]
  generalize x2.setRow x0.heap.size #[.int .u8 1,.slice p n c,.slice q m f]=y1 at *
  refine tK 13 ?_
  refine wpAnyH_done (by kernel_rfl) ?_ _
  have R9:=yH ((hS.block _ (yL RS.out)).trans RS.out)
  have yc0:=cell_of_row y1 x0.heap.size 0 _ _ _ RY.out
  have RYR:=yH (show y1.rangeAt x0.heap.size 0 [.int .u8 1,.slice p n c,.slice q m f] from range_nd RY.out)
  go_wp2_with (first
   | (refine wpList_load_mid (by rfl) 81 _ (by rfl) x0.heap.size 0 (by rfl) [.int .u8 1,.slice p n c,.slice q m f] dn RYR.out HDN.out HDNR.out SNo ?_)
   | (refine wpList_store_row (by rfl) 81 _ _ (by rfl) (w.heap.size+1) #[.int .u8 1,.slice p n c,.slice q m f] (by rfl) (by rfl) _ _ R9.out SNo rfl (nd3_one 1 p n c q m f) ?_))
  refine ret_str2 4 5 (by kernel_rfl) (w.heap.size+1) _ #[.int .u8 1,.slice p n c,.slice q m f] _ HDN.out HDNR.out SNo (by rfl) (by rfl) (setRow_heap _ _ _ _ _ _ R9.out) ?_
  exact ⟨p,n,c,q,m,f,EE,KK,mid,rfl,HPN.out,(FRS.out.keepIn HLE.out HLK.out (fun j h1 h2 _=>setRow_other y1 (w.heap.size+1) j _ (by have:=HBS.out;have:=SW.out;omega))).down (by have:=HBS.out;have:=SW.out;omega),(BW.out.trans (hS.mono BW.out.size)).trans (Below.setRow (Below.refl _ _) (by omega) _)⟩
theorem rows_one {w:World} {r:Rw} (hr:r.Ok w):RowsIn (w.alloc (.cells #[r.val] 24)) (some ⟨w.heap.size,0,none⟩) 1 1 [r]:=by
 have b1:Below w.heap.size w (w.alloc (.cells #[r.val] 24)):=(Below.refl _ _).alloc (Nat.le_refl _) _
 refine ⟨rfl,Nat.le_refl _,fun t ht=>?_,Or.inr ⟨w.heap.size,0,rfl,fun i hi=>?_⟩⟩
 ·obtain rfl:=List.mem_singleton.1 ht
  exact hr.later b1
 ·obtain rfl:i=0:=by simpa using hi
  exact cell_of_row _ _ 0 _ _ _ (heap_alloc_new w _)
def WayErr (w:World) (err:Int) (e:Ending) (w':World):Prop:=e= .returned (.tuple #[.slice none 0 0,.int .i64 err])∧Below w.heap.size w w'
def GetSays (sp:Option Addr) (d:Int) (ga oa:Nat) (err:Int) (w:World):Prop:=∀w',Below w.heap.size w w'→Calls Tryz.prog 120 #[.agg #[.pointer sp,.int .i64 d],.pointer (some ⟨ga,oa,none⟩)] w' (GetZero w' err)
theorem each_zero (sp:Option Addr) (d t err:Int) (ga oa:Nat) (fv:Value) (w:World) (hg:GetSays sp d ga oa err w):
  Calls Tryz.prog 74 #[.agg #[.pointer sp,.int .i64 d],.pointer (some ⟨ga,oa,none⟩),.int .i64 t,fv] w fun e w'=>e= .returned (.int .i64 err)∧Below w.heap.size w w':=by
 have b1:Below w.heap.size w (w.alloc (.cells #[.pointer sp,.int .i64 d] 91)):=(Below.refl _ _).alloc (Nat.le_refl _) _
 have r1:=heap_alloc_new w (.cells #[.pointer sp,.int .i64 d] 91)
 have HG:=yH (hg _ b1)
 have R1:=yH (range_tr r1)
 have B1:=yH b1
 obtain ⟨du,hdu,hdr⟩:=UTr
 have HDU:=yH hdu
 have HDR:=yH hdr
 clear hg b1 r1 hdu hdr
 go_enter Tryz.func74,Tryz.ntmps74
 go_upto_region 1 with fail
 generalize w.alloc (.cells #[.pointer sp,.int .i64 d] 91)=w1 at *
 go_upto_region 2 with (first
  | (refine wpList_load_mid (by rfl) 91 _ (by rfl) w.heap.size 0 (by rfl) [.pointer sp,.int .i64 d] du R1.out HDU.out HDR.out STr ?_)
  | (go_at_call 120;refine HG.out.mono ?_;rintro _ w3 ⟨rfl,b3⟩;have B3:=yH (B1.out.trans (b3.mono B1.out.size));clear b3)
  | (refine wpList_store_row (by rfl) 81 (.tmp 9) _ (by rfl) w3.heap.size #[.int .u8 0,.slice none 0 0,.slice none 0 0] (by rfl) (by rfl) _ _ (heap_alloc_new w3 _) SNo rfl nd0_one ?_;rw [setRow_alloc]))
 have hb4:Below w3.heap.size w3 (w3.alloc (.cells #[.int .u8 0,.slice none 0 0,.slice none 0 0] 81)):=(Below.refl _ _).alloc (Nat.le_refl _) _
 have hr4:=heap_alloc_new w3 (.cells #[.int .u8 0,.slice none 0 0,.slice none 0 0] 81)
 generalize w3.alloc (.cells #[.int .u8 0,.slice none 0 0,.slice none 0 0] 81)=w4 at *
 have B4:=yH (B3.out.trans (hb4.mono B3.out.size))
 have c1:=cell_of_row w4 w3.heap.size 1 _ _ _ hr4
 have c2:=cell_of_row w4 w3.heap.size 2 _ _ _ hr4
 clear hb4 hr4
 go_wp2_with fail
 refine wp_loop_rounds 1 ?_
 rw [rounds_succ]
 go_wp2_with fail
 refine wp_loop_rounds 1 ?_
 rw [rounds_succ]
 go_wp2_with fail
 (try simp only [Exit.inBlock,Exit.then])
 go_ret
 exact ⟨rfl,B4.out⟩
end Go.Proofs.YtinihaflmdihaaaGreat.Kt
namespace Go.Proofs.YtinihaflmdihaaaGreat.Kt
open Go.RowKit Go.Proofs.YtinihaflmdihaaaGreat.Nd Go.Proofs.YtinihaflmdihaaaGreat.Pg
structure St where
 row:List Int
 live:Bool
 l:V
 r:V
 side:Bool
 old:V
def wayV (d:Nat) (p:List Int):V→Nat→Option (List St×St)
 | .nil,_=>some ([],⟨p,false,.nil,.nil,false,.nil⟩)
 | .bad _,_=>none
 | .fork q v l r,t=>
  if ordC (t%d) p q=0 then some ([],⟨q,v,l,r,false,.fork q v l r⟩)
  else if 0<ordC (t%d) p q then (wayV d p r (t+1)).map fun x=>(⟨q,v,l,r,true,.fork q v l r⟩::x.1,x.2)
  else (wayV d p l (t+1)).map fun x=>(⟨q,v,l,r,false,.fork q v l r⟩::x.1,x.2)
def St.on (s:St):Int:=if s.side then s.r.kid.size else s.l.kid.size
def St.off (s:St):Int:=if s.side then s.l.kid.size else s.r.kid.size
def settle:Nat→List St→Nat×Int×Int
 | i,[]=>(i,0,0)
 | i,s::L=>
  if (s.on+(settle (i+1) L).2.2+s.off+1)*2/3+1<max (s.on+(settle (i+1) L).2.2) s.off then (i,s.old.kid.live+1,s.old.kid.live+1 - s.old.kid.size)
  else ((settle (i+1) L).1,s.on+(settle (i+1) L).2.2+s.off+1,s.on+(settle (i+1) L).2.2+s.off+1 - s.old.kid.size)
theorem settle_ge:∀(L:List St) (i:Nat),i≤(settle i L).1∧(settle i L).1≤i+L.length
 |[],i=>⟨Nat.le_refl _,Nat.le_refl _⟩
 | s::L,i=>by
  have h:=settle_ge L (i+1)
  unfold settle
  rw [List.length_cons]
  split
  ·exact ⟨Nat.le_refl _,by omega⟩
  ·exact ⟨by simp only;omega,by simp only;omega⟩
def raiseV:List St→V→V
 |[],k=>k
 | s::L,k=>if s.side then .fork s.row s.live s.l (raiseV L k) else .fork s.row s.live (raiseV L k) s.r
def V.rows:V→List (List Int)
 | .nil=>[]
 | .bad _=>[]
 | .fork p v l r=>(if v then [p] else [])++(l.rows++r.rows)
theorem rows_perm:∀u:T,(V.of u).rows.Perm u.all
 | .nil=>List.Perm.refl _
 | .fork p v l r=>by
  have h1:=rows_perm l
  have h2:=rows_perm r
  show ((if v then [p] else [])++((V.of l).rows++(V.of r).rows)).Perm (l.all++r.all++if v then [p] else [])
  exact List.perm_append_comm.trans ((h1.append h2).append_right _)
theorem sortP_same {a d:Nat} {L M:List (List Int)} (hL:∀y∈L,y.length=d) (hp:L.Perm M):sortP a L=sortP a M:=by
 have hM:∀y∈M,y.length=d:=fun y hy=>hL y (hp.mem_iff.2 hy)
 exact sorted_one hM ((sortP_perm a L).trans hp) (sortP_sorted hL)
theorem lay_perm {d:Nat} {L M:List (List Int)} {t:Nat} (hL:∀y∈L,y.length=d) (hp:L.Perm M):lay L t=lay M t:=by
 have hM:∀y∈M,y.length=d:=fun y hy=>hL y (hp.mem_iff.2 hy)
 by_cases h0:L=[]
 ·subst h0
  rw [List.nil_perm.1 hp]
 ·have h1:M≠[]:=fun e=>h0 (by rw [e] at hp;exact List.perm_nil.1 hp)
  have hd:∀ {K:List (List Int)},K≠[]→(∀y∈K,y.length=d)→(K.headD []).length=d:=fun {K} hK hy=>by
   cases K with
   | nil=>exact absurd rfl hK
   | cons x K=>exact hy x (by simp)
  rw [lay_go h0,lay_go h1,hd h0 hL,hd h1 hM,sortP_same hL hp,hp.length_eq]
theorem layP_all:∀(n:Nat) (L:List (List Int)) (t:Nat),L.length≤n→(layP n L t).all.Perm L
 | 0,L,t,h=>by
  obtain rfl:L=[]:=List.length_eq_zero_iff.1 (by omega)
  exact List.Perm.refl _
 | n+1,L,t,h=>by
  rw [layP]
  by_cases hL:L=[]
  ·rw [if_pos hL,hL]
   exact List.Perm.refl _
  ·rw [if_neg hL]
   have hp:=List.length_pos_iff.2 hL
   have l1:((sortP (t%(L.headD []).length) L).take (L.length/2)).length≤n:=by rw [List.length_take,sortP_length];omega
   have l2:((sortP (t%(L.headD []).length) L).drop (L.length/2+1)).length≤n:=by rw [List.length_drop,sortP_length];omega
   have h1:=layP_all n _ (t+1) l1
   have h2:=layP_all n _ (t+1) l2
   refine List.Perm.trans ?_ (sortP_perm (t%(L.headD []).length) L)
   generalize hS:sortP (t%(L.headD []).length) L=S at *
   have hs:S.length=L.length:=by rw [← hS,sortP_length]
   have hm:L.length/2<S.length:=by omega
   show ((layP n (S.take (L.length/2)) (t+1)).all++(layP n (S.drop (L.length/2+1)) (t+1)).all++[S.getD (L.length/2) []]).Perm S
   refine ((h1.append h2).append_right _).trans ?_
   have e:S=S.take (L.length/2)++S.getD (L.length/2) []::S.drop (L.length/2+1):=by
    rw [List.getD_eq_getElem?_getD,List.getElem?_eq_getElem hm]
    simp
   conv=>rhs;rw [e]
   rw [List.append_assoc]
   exact List.Perm.append_left _ (List.perm_append_singleton _ _)
theorem lay_all (L:List (List Int)) (t:Nat):(lay L t).all.Perm L:=layP_all _ L t (Nat.le_refl _)
theorem light_all (u:T) (t:Nat):(light u t).all.Perm u.all:=by
 cases u with
 | nil=>exact List.Perm.refl _
 | fork p v l r=>
  unfold light
  simp only
  split
  ·exact lay_all _ t
  ·exact List.Perm.refl _
theorem insert_all:∀(u:T) (p:List Int) (t:Nat),(insertT u p t).2=true→(insertT u p t).1.all.Perm (u.all++[p])
 | .nil,p,t,_=>List.Perm.refl _
 | .fork q v l r,p,t,h=>by
  unfold insertT at h ⊢
  split at h
  ·rename_i hq
   rw [if_pos hq]
   have hv:v=false:=by simpa using h
   refine (light_all (.fork q true l r) t).trans ?_
   subst hv hq
   show (l.all++r.all++[q]).Perm (l.all++r.all++[]++[q])
   rw [List.append_nil]
  ·rename_i hq
   rw [if_neg hq]
   split at h
   ·rename_i hl
    rw [if_pos hl]
    refine (light_all (.fork q v (insertT l p (t+1)).1 r) t).trans ?_
    show ((insertT l p (t+1)).1.all++r.all++if v then [q] else []).Perm (l.all++r.all++(if v then [q] else [])++[p])
    have ih:=insert_all l p (t+1) h
    refine ((ih.append_right _).append_right _).trans ?_
    rw [List.append_assoc,List.append_assoc,List.append_assoc,List.append_assoc]
    refine List.Perm.append_left _ ?_
    rw [← List.append_assoc r.all]
    exact List.perm_append_comm
   ·rename_i hl
    rw [if_neg hl]
    refine (light_all (.fork q v l (insertT r p (t+1)).1) t).trans ?_
    show (l.all++(insertT r p (t+1)).1.all++if v then [q] else []).Perm (l.all++r.all++(if v then [q] else [])++[p])
    have ih:=insert_all r p (t+1) h
    rw [List.append_assoc,List.append_assoc,List.append_assoc]
    refine List.Perm.append_left _ ?_
    refine (ih.append_right _).trans ?_
    rw [List.append_assoc]
    refine List.Perm.append_left _ ?_
    exact List.perm_append_comm
theorem ordC_zero {a:Nat} {R S:List Int} (h:R.length=S.length):ordC a R S=0↔R=S:=by
 constructor
 ·intro h0
  have h1:lessP a R S=false:=by rw [Bool.eq_false_iff,Ne,← ordC_less h];omega
  apply less_total h h1
  rw [Bool.eq_false_iff,Ne,← ordC_less h.symm]
  intro h2
  unfold ordC at h0 h2
  have key:∀ {x y:Int},icmp x y=0→icmp y x=0:=fun {x y} e=>icmp_zero.2 (icmp_zero.1 e).symm
  have keyL:∀A B:List Int,cmpL A B=0→cmpL B A=0:=by
   intro A
   induction A with
   | nil=>
    intro B h
    cases B with
    | nil=>rfl
    | cons b B=>simp [cmpL] at h
   | cons a A ih=>
    intro B h
    cases B with
    | nil=>simp [cmpL] at h
    | cons b B=>
     unfold cmpL at h ⊢
     by_cases hab:icmp a b=0
     ·rw [if_pos hab] at h
      rw [if_pos (key hab)]
      exact ih B h
     ·rw [if_neg hab] at h
      exact absurd h hab
  split at h0
  ·rename_i e
   rw [if_pos (key e),keyL _ _ h0] at h2
   exact absurd h2 (by decide)
  ·rename_i e
   exact e h0
 ·rintro rfl
  have hc:∀A:List Int,cmpL A A=0:=by
   intro A
   induction A with
   | nil=>rfl
   | cons a A ih=>
    unfold cmpL
    rw [if_pos (icmp_zero.2 rfl)]
    exact ih
  unfold ordC
  rw [if_pos (icmp_zero.2 rfl)]
  exact hc R
def F (side:Bool) (q:List Int) (v:Bool) (c o:T):T:=if side then .fork q v o c else .fork q v c o
theorem F_size (side:Bool) (q:List Int) (v:Bool) (c o:T):(F side q v c o).size=1+c.size+o.size:=by
 unfold F
 cases side
 ·rfl
 ·show 1+o.size+c.size=_
  omega
theorem F_all (side:Bool) (q:List Int) (v:Bool) (c o:T):(F side q v c o).all.Perm (c.all++(o.all++if v then [q] else [])):=by
 unfold F
 cases side
 ·show (c.all++o.all++_).Perm _
  rw [List.append_assoc]
 ·show (o.all++c.all++_).Perm _
  rw [← List.append_assoc]
  exact List.perm_append_comm.append_right _
theorem F_light (side:Bool) (q:List Int) (v:Bool) (c o:T) (t:Nat):light (F side q v c o) t=if 2*(1+c.size+o.size)/3+1<max c.size o.size then lay (F side q v c o).all t else F side q v c o:=by
 cases side
 ·rfl
 ·show (if 2*(1+o.size+c.size)/3+1<max o.size c.size then _ else _)=_
  rw [Nat.max_comm,show 1+o.size+c.size=1+c.size+o.size from by omega]
  rfl
def Goes (u u':T) (p:List Int) (t:Nat) (A:List St) (s:St):Prop:=
 (settle t (A++[s])).2.1=u'.size∧(settle t (A++[s])).2.2=u'.size - u.size∧
 (((settle t (A++[s])).1=t+(A++[s]).length∧raiseV A (.fork s.row true s.l s.r)=V.of u')∨
  ((settle t (A++[s])).1<t+(A++[s]).length∧∃st w,(A++[s])[(settle t (A++[s])).1 - t]? =some st∧st.old=V.of w∧raiseV ((A++[s]).take ((settle t (A++[s])).1 - t)) (V.of (lay ((V.of w).rows++[p]) (settle t (A++[s])).1))=V.of u'))
theorem goes_step {d:Nat} {side:Bool} {q:List Int} {v:Bool} {c c' o:T} {p:List Int} {t:Nat} {A:List St} {s:St} (hd:(F side q v c o).dims d) (hp:p.length=d) (hz:(F side q v c o).size<1048576)
  (hc:c'.all.Perm (c.all++[p])) (h:Goes c c' p (t+1) A s):Goes (F side q v c o) (light (F side q v c' o) t) p t (⟨q,v,V.of (if side then o else c),V.of (if side then c else o),side,V.of (F side q v c o)⟩::A) s:=by
 obtain ⟨h1,h2,h3⟩:=h
 have hzs:=F_size side q v c o
 have kc:((V.of c).kid.size)=c.size:=by rw [of_kid (by omega)];exact kid_size c (by omega)
 have ko:((V.of o).kid.size)=o.size:=by rw [of_kid (by omega)];exact kid_size o (by omega)
 have ku:((V.of (F side q v c o)).kid.size)=(1+c.size+o.size:Nat):=by rw [of_kid (by omega),kid_size _ (by omega),hzs]
 have kl:((V.of (F side q v c o)).kid.live)=((F side q v c o).all.length:Nat):=by rw [of_kid (by omega),kid_live _ (by omega),lives_all]
 have hge:=settle_ge (A++[s]) (t+1)
 have hon:(St.mk q v (V.of (if side then o else c)) (V.of (if side then c else o)) side (V.of (F side q v c o))).on=c.size:=by
  unfold St.on
  cases side
  ·exact kc
  ·exact kc
 have hoff:(St.mk q v (V.of (if side then o else c)) (V.of (if side then c else o)) side (V.of (F side q v c o))).off=o.size:=by
  unfold St.off
  cases side
  ·exact ko
  ·exact ko
 have hp2:(F side q v c' o).all.Perm ((V.of (F side q v c o)).rows++[p]):=by
  refine (F_all side q v c' o).trans ?_
  refine (hc.append_right _).trans ?_
  refine List.Perm.trans ?_ (((rows_perm _).trans (F_all side q v c o)).append_right [p]).symm
  rw [List.append_assoc,List.append_assoc]
  refine List.Perm.append_left _ ?_
  exact List.perm_append_comm
 have hd2:∀y∈(F side q v c' o).all,y.length=d:=fun y hy=>by
  have hy:=hp2.mem_iff.1 hy
  rcases List.mem_append.1 hy with hy | hy
  ·exact all_dims hd y ((rows_perm _).mem_iff.1 hy)
  ·rw [List.mem_singleton.1 hy];exact hp
 have hlay:=lay_perm (t:=t) hd2 hp2
 have hlen:(F side q v c' o).all.length=(F side q v c o).all.length+1:=by
  rw [hp2.length_eq,List.length_append,(rows_perm _).length_eq]
  rfl
 unfold Goes
 rw [List.cons_append]
 generalize hst:St.mk q v (V.of (if side then o else c)) (V.of (if side then c else o)) side (V.of (F side q v c o))=st at *
 have hold:st.old=V.of (F side q v c o):=by rw [← hst]
 unfold settle
 rw [hon,hoff,h2]
 have e1:((c.size:Int)+((c'.size:Int) - c.size)+o.size+1)=((1+c'.size+o.size:Nat):Int):=by omega
 have e2:((c.size:Int)+((c'.size:Int) - c.size))=(c'.size:Int):=by omega
 rw [e1,e2,F_light]
 by_cases hh:2*(1+c'.size+o.size)/3+1<max c'.size o.size
 ·have hh':((1+c'.size+o.size:Nat):Int)*2/3+1<max (c'.size:Int) o.size:=by omega
  rw [if_pos hh,if_pos hh']
  simp only
  rw [hold,kl,ku,lay_size,hlen,hzs]
  refine ⟨by omega,by omega,Or.inr ⟨by rw [List.length_cons];omega,st,F side q v c o,?_,hold,?_⟩⟩
  ·rw [Nat.sub_self]
   rfl
  ·rw [Nat.sub_self,List.take_zero,← hlay]
   rfl
 ·have hh':¬((1+c'.size+o.size:Nat):Int)*2/3+1<max (c'.size:Int) o.size:=by omega
  rw [if_neg hh,if_neg hh']
  simp only
  rw [hold,ku,F_size,hzs]
  have hrow:∀x y,raiseV (st::x) y=if side then .fork q v (V.of o) (raiseV x y) else .fork q v (raiseV x y) (V.of o):=fun x y=>by
   rw [← hst]
   show (if side then V.fork q v (V.of (if side then o else c)) (raiseV x y) else V.fork q v (raiseV x y) (V.of (if side then c else o)))=_
   cases side<;>rfl
  have hof:V.of (F side q v c' o)=if side then .fork q v (V.of o) (V.of c') else .fork q v (V.of c') (V.of o):=by cases side<;>rfl
  refine ⟨rfl,rfl,?_⟩
  rw [List.length_cons]
  rcases h3 with ⟨g1,g2⟩ | ⟨g1,st2,w,g2,g3,g4⟩
  ·refine Or.inl ⟨by omega,?_⟩
   rw [hrow,g2,hof]
  ·refine Or.inr ⟨by omega,st2,w,?_,g3,?_⟩
   ·rw [show (settle (t+1) (A++[s])).1 - t=((settle (t+1) (A++[s])).1 - (t+1))+1 from by omega,List.getElem?_cons_succ]
    exact g2
   ·rw [show (settle (t+1) (A++[s])).1 - t=((settle (t+1) (A++[s])).1 - (t+1))+1 from by omega,List.take_succ_cons,hrow,g4,hof]
theorem goes_end {d:Nat} {q:List Int} {l r:T} {t:Nat} (hd:(T.fork q false l r).dims d) (hz:(T.fork q false l r).size<1048576):Goes (.fork q false l r) (light (.fork q true l r) t) q t [] ⟨q,false,V.of l,V.of r,false,V.of (.fork q false l r)⟩:=by
 have hzz:(T.fork q false l r).size=1+l.size+r.size:=rfl
 have kl:(V.of l).kid.size=l.size:=by rw [of_kid (by omega)];exact kid_size l (by omega)
 have kr:(V.of r).kid.size=r.size:=by rw [of_kid (by omega)];exact kid_size r (by omega)
 have ku:(V.of (.fork q false l r)).kid.size=(1+l.size+r.size:Nat):=by rw [of_kid (by omega),kid_size _ (by omega),hzz]
 have kv:(V.of (.fork q false l r)).kid.live=((T.fork q false l r).all.length:Nat):=by rw [of_kid (by omega),kid_live _ (by omega),lives_all]
 have hp2:(T.fork q true l r).all.Perm ((V.of (.fork q false l r)).rows++[q]):=by
  refine List.Perm.trans ?_ ((rows_perm _).append_right [q]).symm
  show (l.all++r.all++[q]).Perm (l.all++r.all++[]++[q])
  rw [List.append_nil]
 have hlen:(T.fork q true l r).all.length=(T.fork q false l r).all.length+1:=by
  rw [hp2.length_eq,List.length_append,(rows_perm _).length_eq]
  rfl
 have hlay:=lay_perm (t:=t) (d:=d) (fun y hy=>all_dims (u:=.fork q true l r) ⟨hd.1,hd.2.1,hd.2.2⟩ y hy) hp2
 have hon:(St.mk q false (V.of l) (V.of r) false (V.of (.fork q false l r))).on=l.size:=kl
 have hoff:(St.mk q false (V.of l) (V.of r) false (V.of (.fork q false l r))).off=r.size:=kr
 have hold:(St.mk q false (V.of l) (V.of r) false (V.of (.fork q false l r))).old=V.of (.fork q false l r):=rfl
 have hrow:V.fork (St.mk q false (V.of l) (V.of r) false (V.of (.fork q false l r))).row true (St.mk q false (V.of l) (V.of r) false (V.of (.fork q false l r))).l (St.mk q false (V.of l) (V.of r) false (V.of (.fork q false l r))).r=V.of (.fork q true l r):=rfl
 have hs:settle (t+1) []=(t+1,0,0):=rfl
 unfold Goes
 rw [List.nil_append,hrow]
 generalize St.mk q false (V.of l) (V.of r) false (V.of (.fork q false l r))=st at *
 unfold settle light
 rw [hs,hon,hoff]
 have e1:((l.size:Int)+0+r.size+1)=((1+l.size+r.size:Nat):Int):=by omega
 simp only
 rw [e1,Int.add_zero]
 by_cases hh:2*(1+l.size+r.size)/3+1<max l.size r.size
 ·have hh':((1+l.size+r.size:Nat):Int)*2/3+1<max (l.size:Int) r.size:=by omega
  rw [if_pos hh,if_pos hh']
  simp only
  rw [hold,kv,ku,lay_size,hlen,hzz]
  refine ⟨by omega,by omega,Or.inr ⟨by simp,st,_,?_,hold,?_⟩⟩
  ·rw [Nat.sub_self]
   rfl
  ·rw [Nat.sub_self,List.take_zero,← hlay]
   rfl
 ·have hh':¬((1+l.size+r.size:Nat):Int)*2/3+1<max (l.size:Int) r.size:=by omega
  rw [if_neg hh,if_neg hh']
  simp only
  rw [hold,ku,hzz]
  exact ⟨by rw [show (T.fork q true l r).size=1+l.size+r.size from rfl],by rw [show (T.fork q true l r).size=1+l.size+r.size from rfl],Or.inl ⟨rfl,rfl⟩⟩
theorem way_insert {d:Nat} {p:List Int} (hp:p.length=d):∀(u:T) (t:Nat),u.dims d→u.size<1048576→∃A s,wayV d p (V.of u) t=some (A,s)∧s.live= !(insertT u p t).2∧(s.live=false→Goes u (insertT u p t).1 p t A s)
 | .nil,t,_,_=>⟨[],_,rfl,rfl,fun _=>⟨rfl,rfl,Or.inl ⟨rfl,rfl⟩⟩⟩
 | .fork q v l r,t,hd,hz=>by
  have hzz:(T.fork q v l r).size=1+l.size+r.size:=rfl
  have hl:p.length=q.length:=hp.trans hd.1.symm
  have hw:wayV d p (V.of (.fork q v l r)) t=(if ordC (t%d) p q=0 then some ([],⟨q,v,V.of l,V.of r,false,V.of (.fork q v l r)⟩)
   else if 0<ordC (t%d) p q then (wayV d p (V.of r) (t+1)).map fun x=>(⟨q,v,V.of l,V.of r,true,V.of (.fork q v l r)⟩::x.1,x.2)
   else (wayV d p (V.of l) (t+1)).map fun x=>(⟨q,v,V.of l,V.of r,false,V.of (.fork q v l r)⟩::x.1,x.2)):=rfl
  rw [hw]
  have hlt:=ordC_less (a:=t%d) hl
  unfold insertT
  rw [hp]
  by_cases h0:ordC (t%d) p q=0
  ·have hq:q=p:=((ordC_zero hl).1 h0).symm
   rw [if_pos h0,if_pos hq]
   refine ⟨[],_,rfl,by simp,fun hv=>?_⟩
   have hv:v=false:=hv
   subst hv hq
   exact goes_end hd hz
  ·have hq:¬q=p:=fun e=>h0 ((ordC_zero hl).2 e.symm)
   rw [if_neg h0,if_neg hq]
   by_cases h1:0<ordC (t%d) p q
   ·rw [if_pos h1,if_neg (fun e=>by have:=hlt.2 e;omega)]
    obtain ⟨A,s,h2,h3,h4⟩:=way_insert hp r (t+1) hd.2.2 (by omega)
    refine ⟨_::A,s,by rw [h2];rfl,h3,fun hs=>?_⟩
    have hi:(insertT r p (t+1)).2=true:=by rw [hs] at h3;simpa using h3.symm
    exact goes_step (side:=true) (c:=r) (o:=l) hd hp hz (insert_all r p (t+1) hi) (h4 hs)
   ·rw [if_neg h1,if_pos (hlt.1 (by omega))]
    obtain ⟨A,s,h2,h3,h4⟩:=way_insert hp l (t+1) hd.2.1 (by omega)
    refine ⟨_::A,s,by rw [h2];rfl,h3,fun hs=>?_⟩
    have hi:(insertT l p (t+1)).2=true:=by rw [hs] at h3;simpa using h3.symm
    exact goes_step (side:=false) (c:=l) (o:=r) hd hp hz (insert_all l p (t+1) hi) (h4 hs)
end Go.Proofs.YtinihaflmdihaaaGreat.Kt
