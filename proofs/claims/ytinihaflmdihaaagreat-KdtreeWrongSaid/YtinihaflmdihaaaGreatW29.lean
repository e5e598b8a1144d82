/- KdGetV, KdDown, KdWay, KdEach. -/
import Derived.BigRegion
import Derived.Deep.MidRow
import Derived.LoopN
import Derived.Test.YtinihaflmdihaaaGreatW1
import Derived.Test.YtinihaflmdihaaaGreatW23
import Derived.Test.YtinihaflmdihaaaGreatW25
import Derived.Test.YtinihaflmdihaaaGreatW27
import Derived.Test.YtinihaflmdihaaaGreatW28
set_option maxRecDepth 100000
set_option maxHeartbeats 8000000
set_option linter.unusedVariables false
set_option linter.unusedSimpArgs false
namespace Go.Proofs.YtinihaflmdihaaaGreat.Kt
open Go.RowKit Go.Proofs.YtinihaflmdihaaaGreat.Nd Go.Proofs.YtinihaflmdihaaaGreat.Dk Go.Proofs.YtinihaflmdihaaaGreat.Pg
open List renaming setIfInBounds_toArray → sA, set_cons_zero → sZ, set_cons_succ → sS
def NodeBad (gs:Nat) (k:Kd) (d:Int) (w:World):Prop:=∀w',Below w.heap.size w w'→Calls Tryz.prog 52 #[.pointer (some ⟨gs,0,none⟩),.agg k.cells.toArray,.int .i64 d] w' fun e w''=>e= .returned (.tuple #[.agg #[.int .u8 0,.slice none 0 0,.slice none 0 0],.int .i64 21])∧Below w'.heap.size w' w''
def NodeGood (gs:Nat) (k:Kd) (d:Int) (N:PN) (w:World):Prop:=∀w',Below w.heap.size w w'→Calls Tryz.prog 52 #[.pointer (some ⟨gs,0,none⟩),.agg k.cells.toArray,.int .i64 d] w' fun e w''=>Below w'.heap.size w' w''∧∃p n c q m f E K mid,e= .returned (.tuple #[.agg #[.int .u8 N.kind,.slice p n c,.slice q m f],.int .i64 0])∧pnOf N.kind E K=N∧Fresh w'.heap.size mid w'' p n c q m f E K
theorem nodeBad_none {gs:Nat} {Q:Nat→Prop} {s:Pg.S} {k:Kd} {d:Int} {w:World} (hp:PL w gs Q s) (hk:k.Ok w) (ht:textAt s.W k.sum=none):NodeBad gs k d w:=fun w' hb=>
 Get_none k d w' (hp.keep (fun _=>False) (Only.of_below _ hb) (fun _ _ e=>e)) (hk.later hb) ht
theorem nodeBad_txt {gs:Nat} {Q:Nat→Prop} {s:Pg.S} {k:Kd} {d:Int} {w:World} {t:List Nat} {N:PN} (hp:PL w gs Q s) (hk:k.Ok w) (ht:textAt s.W k.sum=some t) (hN:Txt d t N) (hs:N.says≠k.pk):NodeBad gs k d w:=fun w' hb=>by
 have h:=Get_unlike k d t w' (hp.keep (fun _=>False) (Only.of_below _ hb) (fun _ _ e=>e)) (hk.later hb) ht hN.ok hN.len hN.good (by rw [hN.node];exact hN.size) (by rw [hN.node];exact hs)
 exact h
theorem nodeGood_txt {gs:Nat} {Q:Nat→Prop} {s:Pg.S} {k:Kd} {d:Int} {w:World} {t:List Nat} {N:PN} (hp:PL w gs Q s) (hk:k.Ok w) (ht:textAt s.W k.sum=some t) (hN:Txt d t N) (hs:N.says=k.pk):NodeGood gs k d N w:=fun w' hb=>by
 have h:=Get_good k d t w' (hp.keep (fun _=>False) (Only.of_below _ hb) (fun _ _ e=>e)) (hk.later hb) ht hN.ok hN.len hN.good (by rw [hN.node];exact hN.size) (by rw [hN.node];exact hs)
 refine h.mono ?_
 rintro e w'' ⟨hb2,kind,p,n,c,q,m,f,E,K,rfl,-,-,hpn,mid,hfr⟩
 rw [hN.node] at hpn
 have hkd:N.kind=kind:=by rw [← hpn];rfl
 rw [hkd]
 exact ⟨hb2,p,n,c,q,m,f,E,K,mid,rfl,hpn,hfr⟩
theorem kget_bad {g:Nat} {d:Int} (k:Kd) (ga oa:Nat) (w:World) (hk:k.Ok w) (hr:w.rangeAt ga oa k.cells) (he:k.pk≠PK.none) (hg:NodeBad g k d w):
  Calls Tryz.prog 120 #[.agg #[.pointer (some ⟨g,0,none⟩),.int .i64 d],.pointer (some ⟨ga,oa,none⟩)] w (GetZero w 21):=by
 obtain ⟨W,hW,r0,r1,b1⟩:=two_alloc w (.cells #[.pointer (some ⟨g,0,none⟩),.int .i64 d] 91) (.cells #[.int .u8 0,.slice none 0 0,.slice none 0 0] 81)
 have HEM:=Lib.hid (nempty_any k W (hk.later b1))
 rw [decide_eq_false he] at HEM
 have RK:=Lib.hid (range_later hr b1)
 have HGET:=Lib.hid (show ∀w',Below W.heap.size W w'→Calls Tryz.prog 52 #[.pointer (some ⟨g,0,none⟩),.agg k.cells.toArray,.int .i64 d] w' _ from fun w' hb=>hg w' (b1.trans (hb.mono b1.size)))
 have HCL:=Lib.hid (Kd.cells_length hk.len)
 have R0:=Lib.hid r0
 have R1:=Lib.hid r1
 have B1:=Lib.hid b1
 obtain ⟨du,hdu,hdr⟩:=UKd
 obtain ⟨dn,hdn,hdnr⟩:=UNo
 have HDU:=Lib.hid hdu
 have HDR:=Lib.hid hdr
 have HDN:=Lib.hid hdn
 have HDNR:=Lib.hid hdnr
 clear hk hr he hg r0 r1 b1 hdu hdr hdn hdnr
 go_enter Tryz.func120,Tryz.ntmps120
 go_upto_region 1 with fail
 clear hW
 go_upto_region 3 with (first
  | (refine wpList_load_mid (by rfl) 34 _ (by rfl) ga oa (by rfl) k.cells du RK.out HDU.out HDR.out (by rw [HCL.out];exact SKd) ?_)
  | (go_at_call 20;refine HEM.out.mono ?_;rintro _ w1 ⟨rfl,b3⟩;have B2:=Lib.hid b3;clear b3))
 have c0:=(B2.out.cell (block_lt_of_cell (cell_of_row W w.heap.size 0 _ _ _ R0.out))).trans (cell_of_row W w.heap.size 0 _ _ _ R0.out)
 have c1:=(B2.out.cell (block_lt_of_cell (cell_of_row W w.heap.size 1 _ _ _ R0.out))).trans (cell_of_row W w.heap.size 1 _ _ _ R0.out)
 have RK1:=Lib.hid (range_later RK.out B2.out)
 have HG1:=Lib.hid (fun w' (hb:Below w1.heap.size w1 w')=>HGET.out w' (B2.out.trans (hb.mono B2.out.size)))
 have RS:=Lib.hid ((B2.out.block _ (Array.getElem?_eq_some_iff.1 R1.out).1).trans R1.out)
 have BW:=Lib.hid (B1.out.trans (B2.out.mono B1.out.size))
 have SW:=Lib.hid (show w.heap.size+2≤w1.heap.size from (Array.getElem?_eq_some_iff.1 RS.out).1)
 clear HGET HEM RK R0 R1 B1 B2
 refine wp_region_held_drew (S:=fun w'=>Below w1.heap.size w1 w') (by kernel_rfl) (Below.refl _ _).drew (fun hHeld=>?_)
 generalize w1.drew=x0 at *
 refine tK 0 ?_
 refine tQ 1 ?_ ?_ ?_
 rotate_left
 ·intro w' hSw
  have y:=(hSw.cell (block_lt_of_cell c0)).trans c0
  go_simp
  try with_reducible rfl
 refine tK 2 ?_
 refine tK 3 ?_
 refine tQ 4 ?_ ?_ ?_
 rotate_left
 ·intro w' hSw
  refine Eq.trans (b:=Result.ok (Next.value (.agg k.cells.toArray)) w') ?_ ?_
  ·exact op_load_mid 34 (.tmp 17) (by rfl) ga oa (by rfl) k.cells du (range_later RK1.out hSw) HDU.out HDR.out (by rw [HCL.out];exact SKd)
  ·with_reducible rfl
 refine tK 5 ?_
 refine tQ 6 ?_ ?_ ?_
 rotate_left
 ·intro w' hSw
  have y:=(hSw.cell (block_lt_of_cell c1)).trans c1
  go_simp
  try with_reducible rfl
 refine rY [7,11] ?_
 refine rC (fun K hK=>?_) (rC (fun K hK=>?_) AllReadyH.nil)
 ·
  go_simp
  refine (HG1.out _ hHeld).mono ?_
  rintro _ x1 ⟨rfl,b1⟩
  have hB1:=hHeld.trans (b1.mono hHeld.size)
  try go_wp2_with fail
  refine hK.out _ _ hB1 (fun hHeld=>?_)
  clear hK K
  try simp only [Act.put,sA,sZ,sS]
  refine tK 8 ?_
  refine tK 9 ?_
  refine tK 10 ?_
  refine rY [11] ?_
  refine rC (fun K hK=>?_) AllReadyH.nil
  go_simp
  have b2:Below x1.heap.size x1 (x1.alloc (.cells #[.int .u8 0,.slice none 0 0,.slice none 0 0] 81)):=(Below.refl _ _).alloc (Nat.le_refl _) _
  have hB2:=hHeld.trans (b2.mono hHeld.size)
  have AN2:=Lib.hid (heap_alloc_new x1 (.cells #[.int .u8 0,.slice none 0 0,.slice none 0 0] 81))
  have AS:=Lib.hid hHeld.size
  try go_wp2_with fail
  refine hK.out _ _ hB2 (fun hHeld=>?_)
  clear hK K
  try simp only [Act.put,sA,sZ,sS]
  generalize x1.alloc (.cells #[.int .u8 0,.slice none 0 0,.slice none 0 0] 81)=x2 at *
  refine rY [12] ?_
  refine rC (fun K hK=>?_) AllReadyH.nil
  refine wp_store_row 81 (.tmp 6) (.tmp 22) (by rfl) x1.heap.size #[.int .u8 0,.slice none 0 0,.slice none 0 0] (by rfl) (by rfl) _ _ AN2.out SNo rfl nd0_one ?_
  have hS:=Below.setRow hHeld AS.out #[.int .u8 0,.slice none 0 0,.slice none 0 0]
  have RY:=Lib.hid (setRow_heap _ _ _ #[.int .u8 0,.slice none 0 0,.slice none 0 0] _ _ AN2.out)
  refine hK.out _ _ hS (fun hHeld=>?_)
  clear hK K
  try simp only [Act.put,sA,sZ,sS]
  generalize x2.setRow x1.heap.size #[.int .u8 0,.slice none 0 0,.slice none 0 0]=y1 at *
  refine tK 13 ?_
  refine wpAnyH_done (by kernel_rfl) ?_ _
  have R9:=Lib.hid ((hS.block _ (Array.getElem?_eq_some_iff.1 RS.out).1).trans RS.out)
  go_wp2_with (first
   | (refine wpList_build (by rfl) (by rfl) nd0_built ?_)
   | (refine wpList_store_row (by rfl) 81 _ _ (by rfl) (w.heap.size+1) #[.int .u8 0,.slice none 0 0,.slice none 0 0] (by rfl) (by rfl) _ _ R9.out SNo rfl nd0_one ?_))
  refine ret_str2 4 5 (by kernel_rfl) (w.heap.size+1) _ #[.int .u8 0,.slice none 0 0,.slice none 0 0] _ HDN.out HDNR.out SNo (by rfl) (by rfl) (setRow_heap _ _ _ _ _ _ R9.out) ?_
  exact ⟨rfl,(BW.out.trans (hS.mono BW.out.size)).trans (Below.setRow (Below.refl _ _) (by omega) _)⟩
 ·
  go_simp
  have b1:Below x0.heap.size x0 (x0.alloc (.cells #[.int .u8 0,.slice none 0 0,.slice none 0 0] 81)):=(Below.refl _ _).alloc (Nat.le_refl _) _
  have hB1:=hHeld.trans (b1.mono hHeld.size)
  have AN1:=Lib.hid (heap_alloc_new x0 (.cells #[.int .u8 0,.slice none 0 0,.slice none 0 0] 81))
  have AS:=Lib.hid hHeld.size
  try go_wp2_with fail
  refine hK.out _ _ hB1 (fun hHeld=>?_)
  clear hK K
  try simp only [Act.put,sA,sZ,sS]
  generalize x0.alloc (.cells #[.int .u8 0,.slice none 0 0,.slice none 0 0] 81)=x1 at *
  refine rY [7] ?_
  refine rC (fun K hK=>?_) AllReadyH.nil
  go_simp
  refine (HG1.out _ hHeld).mono ?_
  rintro _ x2 ⟨rfl,b2⟩
  have hB2:=hHeld.trans (b2.mono hHeld.size)
  have AN2:=Lib.hid ((b2.block _ (Array.getElem?_eq_some_iff.1 AN1.out).1).trans AN1.out)
  try go_wp2_with fail
  refine hK.out _ _ hB2 (fun hHeld=>?_)
  clear hK K
  try simp only [Act.put,sA,sZ,sS]
  refine tK 8 ?_
  refine tK 9 ?_
  refine tK 10 ?_
  refine rY [12] ?_
  refine rC (fun K hK=>?_) AllReadyH.nil
  refine wp_store_row 81 (.tmp 6) (.tmp 22) (by rfl) x0.heap.size #[.int .u8 0,.slice none 0 0,.slice none 0 0] (by rfl) (by rfl) _ _ AN2.out SNo rfl nd0_one ?_
  have hS:=Below.setRow hHeld AS.out #[.int .u8 0,.slice none 0 0,.slice none 0 0]
  have RY:=Lib.hid (setRow_heap _ _ _ #[.int .u8 0,.slice none 0 0,.slice none 0 0] _ _ AN2.out)
  refine hK.out _ _ hS (fun hHeld=>?_)
  clear hK K
  try simp only [Act.put,sA,sZ,sS]
  generalize x2.setRow x0.heap.size #[.int .u8 0,.slice none 0 0,.slice none 0 0]=y1 at *
  refine tK 13 ?_
  refine wpAnyH_done (by kernel_rfl) ?_ _
  have R9:=Lib.hid ((hS.block _ (Array.getElem?_eq_some_iff.1 RS.out).1).trans RS.out)
  go_wp2_with (first
   | (refine wpList_build (by rfl) (by rfl) nd0_built ?_)
   | (refine wpList_store_row (by rfl) 81 _ _ (by rfl) (w.heap.size+1) #[.int .u8 0,.slice none 0 0,.slice none 0 0] (by rfl) (by rfl) _ _ R9.out SNo rfl nd0_one ?_))
  refine ret_str2 4 5 (by kernel_rfl) (w.heap.size+1) _ #[.int .u8 0,.slice none 0 0,.slice none 0 0] _ HDN.out HDNR.out SNo (by rfl) (by rfl) (setRow_heap _ _ _ _ _ _ R9.out) ?_
  exact ⟨rfl,(BW.out.trans (hS.mono BW.out.size)).trans (Below.setRow (Below.refl _ _) (by omega) _)⟩
def GetFork (w:World) (N:PN) (e:Ending) (w':World):Prop:=∃p n c q m f E K mid,e= .returned (.tuple #[.agg #[.int .u8 1,.slice p n c,.slice q m f],.int .i64 0])∧pnOf 1 E K=N∧Fresh w.heap.size mid w' p n c q m f E K∧Below w.heap.size w w'
theorem nd3_one (kind:Nat) (p:Option Addr) (n c:Nat) (q:Option Addr) (m f:Nat):(#[.int .u8 kind,.slice p n c,.slice q m f]:Array Value).all (·.oneCell')=true:=all_oneCell_toArray (cs:=[.int .u8 kind,.slice p n c,.slice q m f]) fun u hu=>by
 simp only [List.mem_cons,List.not_mem_nil,or_false] at hu
 rcases hu with rfl | rfl | rfl<;>rfl
theorem kget_fork {g:Nat} {d:Int} {N:PN} (k:Kd) (ga oa:Nat) (w:World) (hk:k.Ok w) (hr:w.rangeAt ga oa k.cells) (he:k.pk≠PK.none) (hg:NodeGood g k d N w) (h1:N.kind=1):
  Calls Tryz.prog 120 #[.agg #[.pointer (some ⟨g,0,none⟩),.int .i64 d],.pointer (some ⟨ga,oa,none⟩)] w (GetFork w N):=by
 unfold NodeGood at hg
 rw [h1] at hg
 obtain ⟨W,hW,r0,r1,b1⟩:=two_alloc w (.cells #[.pointer (some ⟨g,0,none⟩),.int .i64 d] 91) (.cells #[.int .u8 0,.slice none 0 0,.slice none 0 0] 81)
 have HEM:=Lib.hid (nempty_any k W (hk.later b1))
 rw [decide_eq_false he] at HEM
 have RK:=Lib.hid (range_later hr b1)
 have HGET:=Lib.hid (show ∀w',Below W.heap.size W w'→Calls Tryz.prog 52 #[.pointer (some ⟨g,0,none⟩),.agg k.cells.toArray,.int .i64 d] w' _ from fun w' hb=>hg w' (b1.trans (hb.mono b1.size)))
 have HCL:=Lib.hid (Kd.cells_length hk.len)
 have R0:=Lib.hid r0
 have R1:=Lib.hid r1
 have B1:=Lib.hid b1
 obtain ⟨du,hdu,hdr⟩:=UKd
 obtain ⟨dn,hdn,hdnr⟩:=UNo
 have HDU:=Lib.hid hdu
 have HDR:=Lib.hid hdr
 have HDN:=Lib.hid hdn
 have HDNR:=Lib.hid hdnr
 clear hk hr he hg h1 r0 r1 b1 hdu hdr hdn hdnr
 go_enter Tryz.func120,Tryz.ntmps120
 go_upto_region 1 with fail
 clear hW
 go_upto_region 3 with (first
  | (refine wpList_load_mid (by rfl) 34 _ (by rfl) ga oa (by rfl) k.cells du RK.out HDU.out HDR.out (by rw [HCL.out];exact SKd) ?_)
  | (go_at_call 20;refine HEM.out.mono ?_;rintro _ w1 ⟨rfl,b3⟩;have B2:=Lib.hid b3;clear b3))
 have c0:=(B2.out.cell (block_lt_of_cell (cell_of_row W w.heap.size 0 _ _ _ R0.out))).trans (cell_of_row W w.heap.size 0 _ _ _ R0.out)
 have c1:=(B2.out.cell (block_lt_of_cell (cell_of_row W w.heap.size 1 _ _ _ R0.out))).trans (cell_of_row W w.heap.size 1 _ _ _ R0.out)
 have RK1:=Lib.hid (range_later RK.out B2.out)
 have HG1:=Lib.hid (fun w' (hb:Below w1.heap.size w1 w')=>HGET.out w' (B2.out.trans (hb.mono B2.out.size)))
 have RS:=Lib.hid ((B2.out.block _ (Array.getElem?_eq_some_iff.1 R1.out).1).trans R1.out)
 have BW:=Lib.hid (B1.out.trans (B2.out.mono B1.out.size))
 have SW:=Lib.hid (show w.heap.size+2≤w1.heap.size from (Array.getElem?_eq_some_iff.1 RS.out).1)
 clear HGET HEM RK R0 R1 B1 B2
 refine wp_region_held_drew (S:=fun w'=>Below w1.heap.size w1 w') (by kernel_rfl) (Below.refl _ _).drew (fun hHeld=>?_)
 generalize w1.drew=x0 at *
 refine tK 0 ?_
 refine tQ 1 ?_ ?_ ?_
 rotate_left
 ·intro w' hSw
  have y:=(hSw.cell (block_lt_of_cell c0)).trans c0
  go_simp
  try with_reducible rfl
 refine tK 2 ?_
 refine tK 3 ?_
 refine tQ 4 ?_ ?_ ?_
 rotate_left
 ·intro w' hSw
  refine Eq.trans (b:=Result.ok (Next.value (.agg k.cells.toArray)) w') ?_ ?_
  ·exact op_load_mid 34 (.tmp 17) (by rfl) ga oa (by rfl) k.cells du (range_later RK1.out hSw) HDU.out HDR.out (by rw [HCL.out];exact SKd)
  ·with_reducible rfl
 refine tK 5 ?_
 refine tQ 6 ?_ ?_ ?_
 rotate_left
 ·intro w' hSw
  have y:=(hSw.cell (block_lt_of_cell c1)).trans c1
  go_simp
  try with_reducible rfl
 refine rY [7,11] ?_
 refine rC (fun K hK=>?_) (rC (fun K hK=>?_) AllReadyH.nil)
 ·
  go_simp
  refine (HG1.out _ hHeld).mono ?_
  rintro _ x1 ⟨b1,p,n,c,q,m,f,EE,KK,mid,rfl,hpn,hfr⟩
  have HPN:=Lib.hid hpn
  have HLE:=Lib.hid hfr.ents.low
  have HLK:=Lib.hid hfr.kids.low
  have FR1:=Lib.hid hfr
  have hB1:=hHeld.trans (b1.mono hHeld.size)
  have HBS:=Lib.hid (show w1.heap.size≤x0.heap.size from hHeld.size)
  clear hpn hfr
  try go_wp2_with fail
  refine hK.out _ _ hB1 (fun hHeld=>?_)
  clear hK K
  try simp only [Act.put,sA,sZ,sS]
  refine tK 8 ?_
  refine tK 9 ?_
  refine tK 10 ?_
  refine rY [11] ?_
  refine rC (fun K hK=>?_) AllReadyH.nil
  go_simp
  have b2:Below x1.heap.size x1 (x1.alloc (.cells #[.int .u8 0,.slice none 0 0,.slice none 0 0] 81)):=(Below.refl _ _).alloc (Nat.le_refl _) _
  have hB2:=hHeld.trans (b2.mono hHeld.size)
  have AN2:=Lib.hid (heap_alloc_new x1 (.cells #[.int .u8 0,.slice none 0 0,.slice none 0 0] 81))
  have AS:=Lib.hid hHeld.size
  have FR2:=Lib.hid (FR1.out.later b2)
  try go_wp2_with fail
  refine hK.out _ _ hB2 (fun hHeld=>?_)
  clear hK K
  try simp only [Act.put,sA,sZ,sS]
  generalize x1.alloc (.cells #[.int .u8 0,.slice none 0 0,.slice none 0 0] 81)=x2 at *
  refine rY [12] ?_
  refine rC (fun K hK=>?_) AllReadyH.nil
  refine wp_store_row 81 (.tmp 6) (.tmp 22) (by rfl) x1.heap.size #[.int .u8 1,.slice p n c,.slice q m f] (by rfl) (by rfl) _ _ AN2.out SNo rfl (nd3_one 1 p n c q m f) ?_
  have hS:=Below.setRow hHeld AS.out #[.int .u8 1,.slice p n c,.slice q m f]
  have RY:=Lib.hid (setRow_heap _ _ _ #[.int .u8 1,.slice p n c,.slice q m f] _ _ AN2.out)
  have FRS:=Lib.hid (FR2.out.keepIn HLE.out HLK.out (fun j h1 h2 _=>setRow_other x2 x1.heap.size j #[.int .u8 1,.slice p n c,.slice q m f] (by omega)))
  refine hK.out _ _ hS (fun hHeld=>?_)
  clear hK K
  try simp only [Act.put,sA,sZ,sS]
  generalize x2.setRow x1.heap.size #[.int .u8 1,.slice p n c,.slice q m f]=y1 at *
  refine tK 13 ?_
  refine wpAnyH_done (by kernel_rfl) ?_ _
  have R9:=Lib.hid ((hS.block _ (Array.getElem?_eq_some_iff.1 RS.out).1).trans RS.out)
  have yc0:=cell_of_row y1 x1.heap.size 0 _ _ _ RY.out
  have RYR:=Lib.hid (show y1.rangeAt x1.heap.size 0 [.int .u8 1,.slice p n c,.slice q m f] from range_nd RY.out)
  go_wp2_with (first
   | (refine wpList_load_mid (by rfl) 81 _ (by rfl) x1.heap.size 0 (by rfl) [.int .u8 1,.slice p n c,.slice q m f] dn RYR.out HDN.out HDNR.out SNo ?_)
   | (refine wpList_store_row (by rfl) 81 _ _ (by rfl) (w.heap.size+1) #[.int .u8 1,.slice p n c,.slice q m f] (by rfl) (by rfl) _ _ R9.out SNo rfl (nd3_one 1 p n c q m f) ?_))
  refine ret_str2 4 5 (by kernel_rfl) (w.heap.size+1) _ #[.int .u8 1,.slice p n c,.slice q m f] _ HDN.out HDNR.out SNo (by rfl) (by rfl) (setRow_heap _ _ _ _ _ _ R9.out) ?_
  exact ⟨p,n,c,q,m,f,EE,KK,mid,rfl,HPN.out,(FRS.out.keepIn HLE.out HLK.out (fun j h1 h2 _=>setRow_other y1 (w.heap.size+1) j _ (by have:=HBS.out;have:=SW.out;omega))).down (by have:=HBS.out;have:=SW.out;omega),(BW.out.trans (hS.mono BW.out.size)).trans (Below.setRow (Below.refl _ _) (by omega) _)⟩
 ·
  go_simp
  have b1:Below x0.heap.size x0 (x0.alloc (.cells #[.int .u8 0,.slice none 0 0,.slice none 0 0] 81)):=(Below.refl _ _).alloc (Nat.le_refl _) _
  have hB1:=hHeld.trans (b1.mono hHeld.size)
  have AN1:=Lib.hid (heap_alloc_new x0 (.cells #[.int .u8 0,.slice none 0 0,.slice none 0 0] 81))
  have AS:=Lib.hid hHeld.size
  try go_wp2_with fail
  refine hK.out _ _ hB1 (fun hHeld=>?_)
  clear hK K
  try simp only [Act.put,sA,sZ,sS]
  generalize x0.alloc (.cells #[.int .u8 0,.slice none 0 0,.slice none 0 0] 81)=x1 at *
  refine rY [7] ?_
  refine rC (fun K hK=>?_) AllReadyH.nil
  go_simp
  refine (HG1.out _ hHeld).mono ?_
  rintro _ x2 ⟨b2,p,n,c,q,m,f,EE,KK,mid,rfl,hpn,hfr⟩
  have HPN:=Lib.hid hpn
  have HLE:=Lib.hid hfr.ents.low
  have HLK:=Lib.hid hfr.kids.low
  have FR2:=Lib.hid hfr
  have hB2:=hHeld.trans (b2.mono hHeld.size)
  have HAW:=Lib.hid (show x0.heap.size<x1.heap.size from (Array.getElem?_eq_some_iff.1 AN1.out).1)
  have HBS:=Lib.hid (show w1.heap.size≤x1.heap.size from hHeld.size)
  clear hpn hfr
  have AN2:=Lib.hid ((b2.block _ (Array.getElem?_eq_some_iff.1 AN1.out).1).trans AN1.out)
  try go_wp2_with fail
  refine hK.out _ _ hB2 (fun hHeld=>?_)
  clear hK K
  try simp only [Act.put,sA,sZ,sS]
  refine tK 8 ?_
  refine tK 9 ?_
  refine tK 10 ?_
  refine rY [12] ?_
  refine rC (fun K hK=>?_) AllReadyH.nil
  refine wp_store_row 81 (.tmp 6) (.tmp 22) (by rfl) x0.heap.size #[.int .u8 1,.slice p n c,.slice q m f] (by rfl) (by rfl) _ _ AN2.out SNo rfl (nd3_one 1 p n c q m f) ?_
  have hS:=Below.setRow hHeld AS.out #[.int .u8 1,.slice p n c,.slice q m f]
  have RY:=Lib.hid (setRow_heap _ _ _ #[.int .u8 1,.slice p n c,.slice q m f] _ _ AN2.out)
  have FRS:=Lib.hid (FR2.out.keepIn HLE.out HLK.out (fun j h1 h2 _=>setRow_other x2 x0.heap.size j #[.int .u8 1,.slice p n c,.slice q m f] (by have:=HAW.out;omega)))
  refine hK.out _ _ hS (fun hHeld=>?_)
  clear hK K
  try simp only [Act.put,sA,sZ,sS]
  generalize x2.setRow x0.heap.size #[.int .u8 1,.slice p n c,.slice q m f]=y1 at *
  refine tK 13 ?_
  refine wpAnyH_done (by kernel_rfl) ?_ _
  have R9:=Lib.hid ((hS.block _ (Array.getElem?_eq_some_iff.1 RS.out).1).trans RS.out)
  have yc0:=cell_of_row y1 x0.heap.size 0 _ _ _ RY.out
  have RYR:=Lib.hid (show y1.rangeAt x0.heap.size 0 [.int .u8 1,.slice p n c,.slice q m f] from range_nd RY.out)
  go_wp2_with (first
   | (refine wpList_load_mid (by rfl) 81 _ (by rfl) x0.heap.size 0 (by rfl) [.int .u8 1,.slice p n c,.slice q m f] dn RYR.out HDN.out HDNR.out SNo ?_)
   | (refine wpList_store_row (by rfl) 81 _ _ (by rfl) (w.heap.size+1) #[.int .u8 1,.slice p n c,.slice q m f] (by rfl) (by rfl) _ _ R9.out SNo rfl (nd3_one 1 p n c q m f) ?_))
  refine ret_str2 4 5 (by kernel_rfl) (w.heap.size+1) _ #[.int .u8 1,.slice p n c,.slice q m f] _ HDN.out HDNR.out SNo (by rfl) (by rfl) (setRow_heap _ _ _ _ _ _ R9.out) ?_
  exact ⟨p,n,c,q,m,f,EE,KK,mid,rfl,HPN.out,(FRS.out.keepIn HLE.out HLK.out (fun j h1 h2 _=>setRow_other y1 (w.heap.size+1) j _ (by have:=HBS.out;have:=SW.out;omega))).down (by have:=HBS.out;have:=SW.out;omega),(BW.out.trans (hS.mono BW.out.size)).trans (Below.setRow (Below.refl _ _) (by omega) _)⟩
theorem meet_none {g:Nat} {Q:Nat→Prop} {s:Pg.S} (d:Int) (k:Kd) (ga oa:Nat) (wp p:Option Addr) (n c:Nat) (w:World) (hp:PL w g Q s) (hk:k.Ok w) (hr:w.rangeAt ga oa k.cells) (he:k.pk≠PK.none) (ht:textAt s.W k.sum=none):
  Calls Tryz.prog 152 #[.agg #[.pointer (some ⟨g,0,none⟩),.int .i64 d],.pointer wp,.pointer (some ⟨ga,oa,none⟩),.slice p n c] w fun e w'=>e= .returned (.tuple #[.pointer none,.int .i64 21])∧Below w.heap.size w w':=by
 have b1:Below w.heap.size w (w.alloc (.cells #[.pointer (some ⟨g,0,none⟩),.int .i64 d] 91)):=(Below.refl _ _).alloc (Nat.le_refl _) _
 have r1:=heap_alloc_new w (.cells #[.pointer (some ⟨g,0,none⟩),.int .i64 d] 91)
 have HG:=Lib.hid (kget_none d k ga oa _ (hp.keep (fun _=>False) (Only.of_below _ b1) (fun _ _ e=>e)) (hk.later b1) (range_later hr b1) he ht)
 have R1:=Lib.hid (range_tr r1)
 have B1:=Lib.hid b1
 obtain ⟨du,hdu,hdr⟩:=UTr
 have HDU:=Lib.hid hdu
 have HDR:=Lib.hid hdr
 clear hp hk hr he ht b1 r1 hdu hdr
 go_enter Tryz.func152,Tryz.ntmps152
 go_upto_region 1 with fail
 generalize w.alloc (.cells #[.pointer (some ⟨g,0,none⟩),.int .i64 d] 91)=w1 at *
 go_upto_region 2 with (first
  | (refine wpList_load_mid (by rfl) 91 _ (by rfl) w.heap.size 0 (by rfl) [.pointer (some ⟨g,0,none⟩),.int .i64 d] du R1.out HDU.out HDR.out STr ?_)
  | (go_at_call 120;refine HG.out.mono ?_;rintro _ w3 ⟨rfl,b3⟩;have B3:=Lib.hid (B1.out.trans (b3.mono B1.out.size));clear b3)
  | (refine wpList_store_row (by rfl) 81 (.tmp 10) _ (by rfl) w3.heap.size #[.int .u8 0,.slice none 0 0,.slice none 0 0] (by rfl) (by rfl) _ _ (heap_alloc_new w3 _) SNo rfl nd0_one ?_))
 have hb4:Below w3.heap.size w3 ((w3.alloc (.cells #[.int .u8 0,.slice none 0 0,.slice none 0 0] 81)).setRow w3.heap.size #[.int .u8 0,.slice none 0 0,.slice none 0 0]):=Below.setRow ((Below.refl _ _).alloc (Nat.le_refl _) _) (Nat.le_refl _) _
 generalize (w3.alloc (.cells #[.int .u8 0,.slice none 0 0,.slice none 0 0] 81)).setRow w3.heap.size #[.int .u8 0,.slice none 0 0,.slice none 0 0]=w4 at *
 have B4:=Lib.hid (B3.out.trans (hb4.mono B3.out.size))
 clear hb4
 go_wp2_with fail
 go_ret2
 exact ⟨rfl,B4.out⟩
theorem down_none {g:Nat} {Q:Nat→Prop} {s:Pg.S} (d:Int) (k:Kd) (ga oa:Nat) (wp p:Option Addr) (n c:Nat) (w:World) (hp:PL w g Q s) (hk:k.Ok w) (hr:w.rangeAt ga oa k.cells) (he:k.pk≠PK.none) (ht:textAt s.W k.sum=none):
  Calls Tryz.prog 106 #[.agg #[.pointer (some ⟨g,0,none⟩),.int .i64 d],.pointer wp,.pointer (some ⟨ga,oa,none⟩),.slice p n c] w fun e w'=>e= .returned (.int .i64 21)∧Below w.heap.size w w':=by
 have b1:Below w.heap.size w (w.alloc (.cells #[.pointer (some ⟨g,0,none⟩),.int .i64 d] 91)):=(Below.refl _ _).alloc (Nat.le_refl _) _
 have r1:=heap_alloc_new w (.cells #[.pointer (some ⟨g,0,none⟩),.int .i64 d] 91)
 have HG:=Lib.hid (meet_none d k ga oa wp p n c _ (hp.keep (fun _=>False) (Only.of_below _ b1) (fun _ _ e=>e)) (hk.later b1) (range_later hr b1) he ht)
 have R1:=Lib.hid (range_tr r1)
 have B1:=Lib.hid b1
 obtain ⟨du,hdu,hdr⟩:=UTr
 have HDU:=Lib.hid hdu
 have HDR:=Lib.hid hdr
 clear hp hk hr he ht b1 r1 hdu hdr
 go_enter Tryz.func106,Tryz.ntmps106
 go_upto_region 1 with fail
 generalize w.alloc (.cells #[.pointer (some ⟨g,0,none⟩),.int .i64 d] 91)=w1 at *
 go_wp2_with (first
  | (refine wpList_load_mid (by rfl) 91 _ (by rfl) w.heap.size 0 (by rfl) [.pointer (some ⟨g,0,none⟩),.int .i64 d] du R1.out HDU.out HDR.out STr ?_)
  | (go_at_call 152;refine HG.out.mono ?_;rintro _ w3 ⟨rfl,b3⟩;have B3:=Lib.hid (B1.out.trans (b3.mono B1.out.size));clear b3))
 go_ret
 exact ⟨rfl,B3.out⟩
theorem rows_one {w:World} {r:Rw} (hr:r.Ok w):RowsIn (w.alloc (.cells #[r.val] 24)) (some ⟨w.heap.size,0,none⟩) 1 1 [r]:=by
 have b1:Below w.heap.size w (w.alloc (.cells #[r.val] 24)):=(Below.refl _ _).alloc (Nat.le_refl _) _
 refine ⟨rfl,Nat.le_refl _,fun t ht=>?_,Or.inr ⟨w.heap.size,0,rfl,fun i hi=>?_⟩⟩
 ·obtain rfl:=List.mem_singleton.1 ht
  exact hr.later b1
 ·obtain rfl:i=0:=by simpa using hi
  exact cell_of_row _ _ 0 _ _ _ (heap_alloc_new w _)
def WayErr (w:World) (err:Int) (e:Ending) (w':World):Prop:=e= .returned (.tuple #[.slice none 0 0,.int .i64 err])∧Below w.heap.size w w'
theorem way_bad (sp:Option Addr) (d:Int) (k:Kd) (r:Rw) (w:World) (hr:r.Ok w) (hb:takesB d [r]=false):
  Calls Tryz.prog 53 #[.agg #[.pointer sp,.int .i64 d],.agg k.cells.toArray,r.val] w (WayErr w 1):=by
 obtain ⟨W,hW,r0,r1,b1⟩:=two_alloc w (.cells #[.pointer sp,.int .i64 d] 91) (.cells k.cells.toArray 34)
 have b2:Below W.heap.size W (W.alloc (.cells #[r.val] 24)):=(Below.refl _ _).alloc (Nat.le_refl _) _
 have HT:=Lib.hid (takes_any sp d _ 1 1 [r] _ (rows_one (hr.later b1)) (by omega))
 rw [hb] at HT
 have R0:=Lib.hid (range_tr r0)
 have B2:=Lib.hid (b1.trans (b2.mono b1.size))
 obtain ⟨rp,rn,rc,rR⟩:=r
 unfold Rw.val at HT B2 ⊢
 simp only at HT B2 ⊢
 obtain ⟨du,hdu,hdr⟩:=UTr
 have HDU:=Lib.hid hdu
 have HDR:=Lib.hid hdr
 clear hr hb r0 r1 b1 b2 hdu hdr
 go_enter Tryz.func53,Tryz.ntmps53
 go_upto_region 1 with fail
 clear hW
 go_wp2_with (first
  | (refine wpList_load_mid (by rfl) 91 _ (by rfl) w.heap.size 0 (by rfl) [.pointer sp,.int .i64 d] du R0.out HDU.out HDR.out STr ?_)
  | (go_at_call 72;refine HT.out.mono ?_;rintro _ w3 ⟨rfl,b3⟩;have B3:=Lib.hid (B2.out.trans (b3.mono B2.out.size));clear b3))
 go_ret2
 exact ⟨rfl,B3.out⟩
theorem way_none {g:Nat} {Q:Nat→Prop} {s:Pg.S} (d:Int) (k:Kd) (r:Rw) (w:World) (hp:PL w g Q s) (hk:k.Ok w) (hr:r.Ok w) (hb:takesB d [r]=true) (he:k.pk≠PK.none) (ht:textAt s.W k.sum=none):
  Calls Tryz.prog 53 #[.agg #[.pointer (some ⟨g,0,none⟩),.int .i64 d],.agg k.cells.toArray,r.val] w (WayErr w 21):=by
 obtain ⟨W,hW,r0,r1,b1⟩:=two_alloc w (.cells #[.pointer (some ⟨g,0,none⟩),.int .i64 d] 91) (.cells k.cells.toArray 34)
 have b2:Below W.heap.size W (W.alloc (.cells #[r.val] 24)):=(Below.refl _ _).alloc (Nat.le_refl _) _
 have HT:=Lib.hid (takes_any (some ⟨g,0,none⟩) d _ 1 1 [r] _ (rows_one (hr.later b1)) (by omega))
 rw [hb] at HT
 have R0:=Lib.hid (range_tr r0)
 have R0':=Lib.hid r0
 have B2:=Lib.hid b2
 have B1:=Lib.hid b1
 have HD:=Lib.hid (fun (w':World) (hx:Below W.heap.size W w') (wp p:Option Addr) (n c:Nat)=>down_none d k (w.heap.size+1) 0 wp p n c w' ((hp.keep (fun _=>False) (Only.of_below _ b1) (fun _ _ e=>e)).keep (fun _=>False) (Only.of_below _ hx) (fun _ _ e=>e)) ((hk.later b1).later hx) (range_later (range_kd r1) hx) he ht)
 obtain ⟨rp,rn,rc,rR⟩:=r
 unfold Rw.val at HT B2 ⊢
 simp only at HT B2 ⊢
 obtain ⟨du,hdu,hdr⟩:=UTr
 have HDU:=Lib.hid hdu
 have HDR:=Lib.hid hdr
 clear hp hk hr hb he ht r0 r1 b1 b2 hdu hdr
 go_enter Tryz.func53,Tryz.ntmps53
 go_upto_region 1 with fail
 clear hW
 go_upto_region 4 with (first
  | (refine wpList_load_mid (by rfl) 91 _ (by rfl) w.heap.size 0 (by rfl) [.pointer (some ⟨g,0,none⟩),.int .i64 d] du R0.out HDU.out HDR.out STr ?_)
  | (go_at_call 72;refine HT.out.mono ?_;rintro _ w3 ⟨rfl,b3⟩;have B3:=Lib.hid (B2.out.trans (b3.mono B2.out.size));clear b3))
 have hb4:Below w3.heap.size w3 (w3.alloc (.cells #[.slice none 0 0] 93)):=(Below.refl _ _).alloc (Nat.le_refl _) _
 generalize w3.alloc (.cells #[.slice none 0 0] 93)=w4 at *
 have B4:=Lib.hid (B3.out.trans (hb4.mono B3.out.size))
 have R4:=Lib.hid (range_tr ((B4.out.block _ (Array.getElem?_eq_some_iff.1 R0'.out).1).trans R0'.out))
 clear hb4
 go_wp2_with (first
  | (refine wpList_load_mid (by rfl) 91 _ (by rfl) w.heap.size 0 (by rfl) [.pointer (some ⟨g,0,none⟩),.int .i64 d] du R4.out HDU.out HDR.out STr ?_)
  | (go_at_call 106;refine (HD.out w4 B4.out _ _ _ _).mono ?_;rintro _ w5 ⟨rfl,b5⟩;have B5:=Lib.hid ((B1.out.trans (B4.out.mono B1.out.size)).trans (b5.mono (B1.out.trans (B4.out.mono B1.out.size)).size));clear b5))
 go_ret2
 exact ⟨rfl,B5.out⟩
def GetSays (sp:Option Addr) (d:Int) (ga oa:Nat) (err:Int) (w:World):Prop:=∀w',Below w.heap.size w w'→Calls Tryz.prog 120 #[.agg #[.pointer sp,.int .i64 d],.pointer (some ⟨ga,oa,none⟩)] w' (GetZero w' err)
theorem each_zero (sp:Option Addr) (d t err:Int) (ga oa:Nat) (fv:Value) (w:World) (hg:GetSays sp d ga oa err w):
  Calls Tryz.prog 74 #[.agg #[.pointer sp,.int .i64 d],.pointer (some ⟨ga,oa,none⟩),.int .i64 t,fv] w fun e w'=>e= .returned (.int .i64 err)∧Below w.heap.size w w':=by
 have b1:Below w.heap.size w (w.alloc (.cells #[.pointer sp,.int .i64 d] 91)):=(Below.refl _ _).alloc (Nat.le_refl _) _
 have r1:=heap_alloc_new w (.cells #[.pointer sp,.int .i64 d] 91)
 have HG:=Lib.hid (hg _ b1)
 have R1:=Lib.hid (range_tr r1)
 have B1:=Lib.hid b1
 obtain ⟨du,hdu,hdr⟩:=UTr
 have HDU:=Lib.hid hdu
 have HDR:=Lib.hid hdr
 clear hg b1 r1 hdu hdr
 go_enter Tryz.func74,Tryz.ntmps74
 go_upto_region 1 with fail
 generalize w.alloc (.cells #[.pointer sp,.int .i64 d] 91)=w1 at *
 go_upto_region 2 with (first
  | (refine wpList_load_mid (by rfl) 91 _ (by rfl) w.heap.size 0 (by rfl) [.pointer sp,.int .i64 d] du R1.out HDU.out HDR.out STr ?_)
  | (go_at_call 120;refine HG.out.mono ?_;rintro _ w3 ⟨rfl,b3⟩;have B3:=Lib.hid (B1.out.trans (b3.mono B1.out.size));clear b3)
  | (refine wpList_store_row (by rfl) 81 (.tmp 9) _ (by rfl) w3.heap.size #[.int .u8 0,.slice none 0 0,.slice none 0 0] (by rfl) (by rfl) _ _ (heap_alloc_new w3 _) SNo rfl nd0_one ?_;rw [setRow_alloc]))
 have hb4:Below w3.heap.size w3 (w3.alloc (.cells #[.int .u8 0,.slice none 0 0,.slice none 0 0] 81)):=(Below.refl _ _).alloc (Nat.le_refl _) _
 have hr4:=heap_alloc_new w3 (.cells #[.int .u8 0,.slice none 0 0,.slice none 0 0] 81)
 generalize w3.alloc (.cells #[.int .u8 0,.slice none 0 0,.slice none 0 0] 81)=w4 at *
 have B4:=Lib.hid (B3.out.trans (hb4.mono B3.out.size))
 have c1:=cell_of_row w4 w3.heap.size 1 _ _ _ hr4
 have c2:=cell_of_row w4 w3.heap.size 2 _ _ _ hr4
 clear hb4 hr4
 go_wp2_with fail
 refine wp_loop_rounds 1 ?_
 rw [rounds_succ]
 go_wp2_with fail
 refine wp_loop_rounds 1 ?_
 rw [rounds_succ]
 go_wp2_with fail
 (try simp only [Exit.inBlock,Exit.then])
 go_ret
 exact ⟨rfl,B4.out⟩
theorem rows_zero (sp:Option Addr) (d err:Int) (k:Kd) (w:World) (hg:∀W,Below w.heap.size w W→W.rangeAt (w.heap.size+1) 0 k.cells→GetSays sp d (w.heap.size+1) 0 err W):
  Calls Tryz.prog 57 #[.agg #[.pointer sp,.int .i64 d],.agg k.cells.toArray] w fun e w'=>e= .returned (.tuple #[.slice none 0 0,.int .i64 err])∧Below w.heap.size w w':=by
 obtain ⟨W,hW,r0,r1,b1⟩:=two_alloc w (.cells #[.pointer sp,.int .i64 d] 91) (.cells k.cells.toArray 34)
 have b2:Below W.heap.size W (W.alloc (.cells #[.slice none 0 0] 51)):=(Below.refl _ _).alloc (Nat.le_refl _) _
 have r2:=heap_alloc_new W (.cells #[.slice none 0 0] 51)
 have HE:=Lib.hid (fun fv t=>each_zero sp d t err (w.heap.size+1) 0 fv _ (hg _ (b1.trans (b2.mono b1.size)) (range_later (range_kd r1) b2)))
 have R0:=Lib.hid (range_tr ((b2.block _ (Array.getElem?_eq_some_iff.1 r0).1).trans r0))
 have R2:=Lib.hid r2
 have B2:=Lib.hid (b1.trans (b2.mono b1.size))
 obtain ⟨du,hdu,hdr⟩:=UTr
 have HDU:=Lib.hid hdu
 have HDR:=Lib.hid hdr
 clear hg r0 r1 b1 b2 r2 hdu hdr
 go_enter Tryz.func57,Tryz.ntmps57
 go_upto_region 1 with fail
 clear hW
 go_upto_region 2 with fail
 generalize W.alloc (.cells #[.slice none 0 0] 51)=w2 at *
 go_upto_region 3 with (first
  | (refine wpList_load_mid (by rfl) 91 _ (by rfl) w.heap.size 0 (by rfl) [.pointer sp,.int .i64 d] du R0.out HDU.out HDR.out STr ?_)
  | (go_at_call 74;refine (HE.out _ _).mono ?_;rintro _ w3 ⟨rfl,b3⟩;have R3:=Lib.hid ((b3.block _ (Array.getElem?_eq_some_iff.1 R2.out).1).trans R2.out);have B3:=Lib.hid (B2.out.trans (b3.mono B2.out.size));clear b3))
 have c1:w3.cell? ⟨W.heap.size,0,none⟩=some (.slice none 0 0):=cell_of_row w3 W.heap.size 0 _ _ _ R3.out
 go_wp2_with fail
 go_ret2
 exact ⟨rfl,B3.out⟩
end Go.Proofs.YtinihaflmdihaaaGreat.Kt
