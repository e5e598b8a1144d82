/- KdGetV, KdDown, KdWay, KdEach, KtWay, KdEachV. -/
import Derived.BigRegion
import Derived.Deep.MidRow
import Derived.LoopN
import Derived.Test.YtinihaflmdihaaaGreatL19
set_option maxRecDepth 100000
set_option maxHeartbeats 8000000
set_option linter.all false
namespace Go.Proofs.YtinihaflmdihaaaGreat.Kt
open Go.RowKit Go.Proofs.YtinihaflmdihaaaGreat.Nd Go.Proofs.YtinihaflmdihaaaGreat.Dk Go.Proofs.YtinihaflmdihaaaGreat.Pg
open List renaming setIfInBounds_toArray → yA, set_cons_zero → yB, set_cons_succ → yC
def NodeBad (gs:Nat) (k:Kd) (d:Int) (w:World):Prop:=∀w',Below w.heap.size w w'→Calls Tryz.prog 52 #[.pointer (some ⟨gs,0,none⟩),.agg k.cells.toArray,.int .i64 d] w' fun e w''=>e= .returned (.tuple #[.agg #[.int .u8 0,.slice none 0 0,.slice none 0 0],.int .i64 21])∧Below w'.heap.size w' w''
def NodeGood (gs:Nat) (k:Kd) (d:Int) (N:PN) (w:World):Prop:=∀w',Below w.heap.size w w'→Calls Tryz.prog 52 #[.pointer (some ⟨gs,0,none⟩),.agg k.cells.toArray,.int .i64 d] w' fun e w''=>Below w'.heap.size w' w''∧∃p n c q m f E K mid,e= .returned (.tuple #[.agg #[.int .u8 N.kind,.slice p n c,.slice q m f],.int .i64 0])∧pnOf N.kind E K=N∧Fresh w'.heap.size mid w'' p n c q m f E K
theorem x7R {gs:Nat} {Q:Nat→Prop} {s:Pg.S} {k:Kd} {d:Int} {w:World} (hp:PL w gs Q s) (hk:k.Ok w) (ht:x0O s.W k.sum=none):NodeBad gs k d w:=fun w' hb=>
 y2x k d w' (hp.keep (fun _=>False) (Only.of_below _ hb) (fun _ _ e=>e)) (hk.later hb) ht
theorem x88 {gs:Nat} {Q:Nat→Prop} {s:Pg.S} {k:Kd} {d:Int} {w:World} {t:List Nat} {N:PN} (hp:PL w gs Q s) (hk:k.Ok w) (ht:x0O s.W k.sum=some t) (hN:Txt d t N) (hs:N.says≠k.pk):NodeBad gs k d w:=fun w' hb=>by
 have h:=x9d k d t w' (hp.keep (fun _=>False) (Only.of_below _ hb) (fun _ _ e=>e)) (hk.later hb) ht hN.ok hN.len hN.good (by rw [hN.node];exact hN.size) (by rw [hN.node];exact hs)
 exact h
theorem x7S {gs:Nat} {Q:Nat→Prop} {s:Pg.S} {k:Kd} {d:Int} {w:World} {t:List Nat} {N:PN} (hp:PL w gs Q s) (hk:k.Ok w) (ht:x0O s.W k.sum=some t) (hN:Txt d t N) (hs:N.says=k.pk):NodeGood gs k d N w:=fun w' hb=>by
 have h:=y2y k d t w' (hp.keep (fun _=>False) (Only.of_below _ hb) (fun _ _ e=>e)) (hk.later hb) ht hN.ok hN.len hN.good (by rw [hN.node];exact hN.size) (by rw [hN.node];exact hs)
 refine h.mono ?_
 rintro e w'' ⟨hb2,kind,p,n,c,q,m,f,E,K,rfl,-,-,hpn,mid,hfr⟩
 rw [hN.node] at hpn
 have hkd:N.kind=kind:=by rw [← hpn];rfl
 rw [hkd]
 exact ⟨hb2,p,n,c,q,m,f,E,K,mid,rfl,hpn,hfr⟩
theorem y2z {g:Nat} {d:Int} (k:Kd) (ga oa:Nat) (w:World) (hk:k.Ok w) (hr:w.rangeAt ga oa k.cells) (he:k.pk≠PK.none) (hg:NodeBad g k d w):
  Calls Tryz.prog 120 #[.agg #[.pointer (some ⟨g,0,none⟩),.int .i64 d],.pointer (some ⟨ga,oa,none⟩)] w (x87 w 21):=by
 obtain ⟨W,u,o,p,b1⟩:=x0u w (.cells #[.pointer (some ⟨g,0,none⟩),.int .i64 d] 91) (.cells #[.int .u8 0,.slice none 0 0,.slice none 0 0] 81)
 have J:=yH (x1a k W (hk.later b1))
 rw [decide_eq_false he] at J
 have j:=yH (x02 hr b1)
 have B:=yH (show ∀w',Below W.heap.size W w'→Calls Tryz.prog 52 #[.pointer (some ⟨g,0,none⟩),.agg k.cells.toArray,.int .i64 d] w' _ from fun w' hb=>hg w' (b1.trans (hb.mono b1.size)))
 have N:=yH (Kd.cells_length hk.len)
 have U:=yH o
 have n:=yH p
 have B1:=yH b1
 obtain ⟨s,Y,Q⟩:=UKd
 obtain ⟨v,X,C⟩:=UNo
 have R:=yH Y
 have Z:=yH Q
 have O:=yH X
 have G:=yH C
 clear hk hr he hg o p b1 Y Q X C
 go_enter Tryz.func120,Tryz.ntmps120
 go_upto_region 1 with fail
 clear u
 go_upto_region 3 with (first
  | (refine wpList_load_mid (by rfl) 34 _ (by rfl) ga oa (by rfl) k.cells s j.out R.out Z.out (by rw [N.out];exact SKd) ?_)
  | (go_at_call 20;refine J.out.mono ?_;rintro _ M ⟨rfl,m⟩;have B2:=yH m;clear m))
 have r:=(B2.out.cell (block_lt_of_cell (cell_of_row W w.heap.size 0 _ _ _ U.out))).trans (cell_of_row W w.heap.size 0 _ _ _ U.out)
 have q:=(B2.out.cell (block_lt_of_cell (cell_of_row W w.heap.size 1 _ _ _ U.out))).trans (cell_of_row W w.heap.size 1 _ _ _ U.out)
 have l:=yH (x02 j.out B2.out)
 have P:=yH (fun w' (hb:Below M.heap.size M w')=>B.out w' (B2.out.trans (hb.mono B2.out.size)))
 have RS:=yH (yK B2.out n.out)
 have c:=yH (B1.out.trans (B2.out.mono B1.out.size))
 have x:=yH (show w.heap.size+2≤M.heap.size from (yL RS.out))
 clear B J j U n B1 B2
 refine wp_region_held_drew (S:=fun w'=>Below M.heap.size M w') (by kernel_rfl) (Below.refl _ _).drew (fun hHeld=>?_)
 generalize M.drew=x0 at *
 refine tK 0 ?_
 refine tQ 1 ?_ ?_ ?_
 rotate_left
 ·intro w' hSw
  have y:=(hSw.cell (block_lt_of_cell r)).trans r
  go_simp
  try with_reducible rfl
 refine tK 2 ?_
 refine tK 3 ?_
 refine tQ 4 ?_ ?_ ?_
 rotate_left
 ·intro w' hSw
  refine Eq.trans (b:=Result.ok (Next.value (.agg k.cells.toArray)) w') ?_ ?_
  ·exact x0A 34 (.tmp 17) (by rfl) ga oa (by rfl) k.cells s (x02 l.out hSw) R.out Z.out (by rw [N.out];exact SKd)
  ·with_reducible rfl
 refine tK 5 ?_
 refine tQ 6 ?_ ?_ ?_
 rotate_left
 ·intro w' hSw
  have y:=(hSw.cell (block_lt_of_cell q)).trans q
  go_simp
  try with_reducible rfl
 refine rY [7,11] ?_
 refine rC (fun K hK=>?_) (rC (fun K hK=>?_) AllReadyH.nil)
 ·
  go_simp
  refine (P.out _ hHeld).mono ?_
  rintro _ E ⟨rfl,b1⟩
  have I:=hHeld.trans (b1.mono hHeld.size)
  try go_wp2_with fail
  refine hK.out _ _ I (fun hHeld=>?_)
  clear hK K
  try simp only [Act.put,yA,yB,yC]
  refine tK 8 ?_
  refine tK 9 ?_
  refine tK 10 ?_
  refine rO 11 fun K hK=>?_
  go_simp
  have e:Below E.heap.size E (E.alloc (.cells #[.int .u8 0,.slice none 0 0,.slice none 0 0] 81)):=(Below.refl _ _).alloc (Nat.le_refl _) _
  have L:=hHeld.trans (e.mono hHeld.size)
  have A:=yH (heap_alloc_new E (.cells #[.int .u8 0,.slice none 0 0,.slice none 0 0] 81))
  have f:=yH hHeld.size
  try go_wp2_with fail
  refine hK.out _ _ L (fun hHeld=>?_)
  clear hK K
  try simp only [Act.put,yA,yB,yC]
  generalize E.alloc (.cells #[.int .u8 0,.slice none 0 0,.slice none 0 0] 81)=i at *
  refine rO 12 fun K hK=>?_
  refine wp_store_row 81 (.tmp 6) (.tmp 22) (by rfl) E.heap.size #[.int .u8 0,.slice none 0 0,.slice none 0 0] (by rfl) (by rfl) _ _ A.out SNo rfl x25 ?_
  have H:=Below.setRow hHeld f.out #[.int .u8 0,.slice none 0 0,.slice none 0 0]
  have t:=yH (setRow_heap _ _ _ #[.int .u8 0,.slice none 0 0,.slice none 0 0] _ _ A.out)
  refine hK.out _ _ H (fun hHeld=>?_)
  clear hK K
  try simp only [Act.put,yA,yB,yC]
  generalize i.setRow E.heap.size #[.int .u8 0,.slice none 0 0,.slice none 0 0]=y1 at *
  refine tK 13 ?_
  refine wpAnyH_done (by kernel_rfl) ?_ _
  have a:=yH (yK H RS.out)
  go_wp2_with (first
   | (refine x07 (by rfl) (by rfl) x2Q ?_)
   | (refine wpList_store_row (by rfl) 81 _ _ (by rfl) (w.heap.size+1) #[.int .u8 0,.slice none 0 0,.slice none 0 0] (by rfl) (by rfl) _ _ a.out SNo rfl x25 ?_))
  refine x0F 4 5 (by kernel_rfl) (w.heap.size+1) _ #[.int .u8 0,.slice none 0 0,.slice none 0 0] _ O.out G.out SNo (by rfl) (by rfl) (setRow_heap _ _ _ _ _ _ a.out) ?_
  exact ⟨rfl,(c.out.trans (H.mono c.out.size)).trans (Below.setRow (Below.refl _ _) (by omega) _)⟩
 ·
  go_simp
  have b1:Below x0.heap.size x0 (x0.alloc (.cells #[.int .u8 0,.slice none 0 0,.slice none 0 0] 81)):=(Below.refl _ _).alloc (Nat.le_refl _) _
  have I:=hHeld.trans (b1.mono hHeld.size)
  have h:=yH (heap_alloc_new x0 (.cells #[.int .u8 0,.slice none 0 0,.slice none 0 0] 81))
  have f:=yH hHeld.size
  try go_wp2_with fail
  refine hK.out _ _ I (fun hHeld=>?_)
  clear hK K
  try simp only [Act.put,yA,yB,yC]
  generalize x0.alloc (.cells #[.int .u8 0,.slice none 0 0,.slice none 0 0] 81)=E at *
  refine rO 7 fun K hK=>?_
  go_simp
  refine (P.out _ hHeld).mono ?_
  rintro _ i ⟨rfl,e⟩
  have L:=hHeld.trans (e.mono hHeld.size)
  have A:=yH (yK e h.out)
  try go_wp2_with fail
  refine hK.out _ _ L (fun hHeld=>?_)
  clear hK K
  try simp only [Act.put,yA,yB,yC]
  refine tK 8 ?_
  refine tK 9 ?_
  refine tK 10 ?_
  refine rO 12 fun K hK=>?_
  refine wp_store_row 81 (.tmp 6) (.tmp 22) (by rfl) x0.heap.size #[.int .u8 0,.slice none 0 0,.slice none 0 0] (by rfl) (by rfl) _ _ A.out SNo rfl x25 ?_
  have H:=Below.setRow hHeld f.out #[.int .u8 0,.slice none 0 0,.slice none 0 0]
  have t:=yH (setRow_heap _ _ _ #[.int .u8 0,.slice none 0 0,.slice none 0 0] _ _ A.out)
  refine hK.out _ _ H (fun hHeld=>?_)
  clear hK K
  try simp only [Act.put,yA,yB,yC]
  generalize i.setRow x0.heap.size #[.int .u8 0,.slice none 0 0,.slice none 0 0]=y1 at *
  refine tK 13 ?_
  refine wpAnyH_done (by kernel_rfl) ?_ _
  have a:=yH (yK H RS.out)
  go_wp2_with (first
   | (refine x07 (by rfl) (by rfl) x2Q ?_)
   | (refine wpList_store_row (by rfl) 81 _ _ (by rfl) (w.heap.size+1) #[.int .u8 0,.slice none 0 0,.slice none 0 0] (by rfl) (by rfl) _ _ a.out SNo rfl x25 ?_))
  refine x0F 4 5 (by kernel_rfl) (w.heap.size+1) _ #[.int .u8 0,.slice none 0 0,.slice none 0 0] _ O.out G.out SNo (by rfl) (by rfl) (setRow_heap _ _ _ _ _ _ a.out) ?_
  exact ⟨rfl,(c.out.trans (H.mono c.out.size)).trans (Below.setRow (Below.refl _ _) (by omega) _)⟩
def y4l (w:World) (N:PN) (e:Ending) (w':World):Prop:=∃p n c q m f E K mid,e= .returned (.tuple #[.agg #[.int .u8 1,.slice p n c,.slice q m f],.int .i64 0])∧pnOf 1 E K=N∧Fresh w.heap.size mid w' p n c q m f E K∧Below w.heap.size w w'
theorem x2R (kind:Nat) (p:Option Addr) (n c:Nat) (q:Option Addr) (m f:Nat):(#[.int .u8 kind,.slice p n c,.slice q m f]:Array Value).all (·.oneCell')=true:=all_oneCell_toArray (cs:=[.int .u8 kind,.slice p n c,.slice q m f]) fun u hu=>by
 simp only [List.mem_cons,List.not_mem_nil,or_false] at hu
 rcases hu with rfl | rfl | rfl<;>rfl
theorem x7T {g:Nat} {d:Int} {N:PN} (k:Kd) (ga oa:Nat) (w:World) (hk:k.Ok w) (hr:w.rangeAt ga oa k.cells) (he:k.pk≠PK.none) (hg:NodeGood g k d N w) (h1:N.kind=1):
  Calls Tryz.prog 120 #[.agg #[.pointer (some ⟨g,0,none⟩),.int .i64 d],.pointer (some ⟨ga,oa,none⟩)] w (y4l w N):=by
 unfold NodeGood at hg
 rw [h1] at hg
 obtain ⟨W,hW,r0,r1,b1⟩:=x0u w (.cells #[.pointer (some ⟨g,0,none⟩),.int .i64 d] 91) (.cells #[.int .u8 0,.slice none 0 0,.slice none 0 0] 81)
 have Q:=yH (x1a k W (hk.later b1))
 rw [decide_eq_false he] at Q
 have RK:=yH (x02 hr b1)
 have M:=yH (show ∀w',Below W.heap.size W w'→Calls Tryz.prog 52 #[.pointer (some ⟨g,0,none⟩),.agg k.cells.toArray,.int .i64 d] w' _ from fun w' hb=>hg w' (b1.trans (hb.mono b1.size)))
 have i:=yH (Kd.cells_length hk.len)
 have r:=yH r0
 have R1:=yH r1
 have B1:=yH b1
 obtain ⟨du,A0,v⟩:=UKd
 obtain ⟨dn,z,O⟩:=UNo
 have x:=yH A0
 have s:=yH v
 have L:=yH z
 have C:=yH O
 clear hk hr he hg h1 r0 r1 b1 A0 v z O
 go_enter Tryz.func120,Tryz.ntmps120
 go_upto_region 1 with fail
 clear hW
 go_upto_region 3 with (first
  | (refine wpList_load_mid (by rfl) 34 _ (by rfl) ga oa (by rfl) k.cells du RK.out x.out s.out (by rw [i.out];exact SKd) ?_)
  | (go_at_call 20;refine Q.out.mono ?_;rintro _ P ⟨rfl,b3⟩;have B2:=yH b3;clear b3))
 have c0:=(B2.out.cell (block_lt_of_cell (cell_of_row W w.heap.size 0 _ _ _ r.out))).trans (cell_of_row W w.heap.size 0 _ _ _ r.out)
 have c1:=(B2.out.cell (block_lt_of_cell (cell_of_row W w.heap.size 1 _ _ _ r.out))).trans (cell_of_row W w.heap.size 1 _ _ _ r.out)
 have AD:=yH (x02 RK.out B2.out)
 have u:=yH (fun w' (hb:Below P.heap.size P w')=>M.out w' (B2.out.trans (hb.mono B2.out.size)))
 have RS:=yH (yK B2.out R1.out)
 have BW:=yH (B1.out.trans (B2.out.mono B1.out.size))
 have SW:=yH (show w.heap.size+2≤P.heap.size from (yL RS.out))
 clear M Q RK r R1 B1 B2
 refine wp_region_held_drew (S:=fun w'=>Below P.heap.size P w') (by kernel_rfl) (Below.refl _ _).drew (fun hHeld=>?_)
 generalize P.drew=x0 at *
 refine tK 0 ?_
 refine tQ 1 ?_ ?_ ?_
 rotate_left
 ·intro w' hSw
  have y:=(hSw.cell (block_lt_of_cell c0)).trans c0
  go_simp
  try with_reducible rfl
 refine tK 2 ?_
 refine tK 3 ?_
 refine tQ 4 ?_ ?_ ?_
 rotate_left
 ·intro w' hSw
  refine Eq.trans (b:=Result.ok (Next.value (.agg k.cells.toArray)) w') ?_ ?_
  ·exact x0A 34 (.tmp 17) (by rfl) ga oa (by rfl) k.cells du (x02 AD.out hSw) x.out s.out (by rw [i.out];exact SKd)
  ·with_reducible rfl
 refine tK 5 ?_
 refine tQ 6 ?_ ?_ ?_
 rotate_left
 ·intro w' hSw
  have y:=(hSw.cell (block_lt_of_cell c1)).trans c1
  go_simp
  try with_reducible rfl
 refine rY [7,11] ?_
 refine rC (fun K hK=>?_) (rC (fun K hK=>?_) AllReadyH.nil)
 ·
  go_simp
  refine (u.out _ hHeld).mono ?_
  rintro _ B ⟨b1,p,n,c,q,m,f,EE,KK,Y,rfl,G,A⟩
  have h:=yH G
  have E:=yH A.ents.low
  have H:=yH A.kids.low
  have A8:=yH A
  have a:=hHeld.trans (b1.mono hHeld.size)
  have I:=yH (show P.heap.size≤x0.heap.size from hHeld.size)
  clear G A
  try go_wp2_with fail
  refine hK.out _ _ a (fun hHeld=>?_)
  clear hK K
  try simp only [Act.put,yA,yB,yC]
  refine tK 8 ?_
  refine tK 9 ?_
  refine tK 10 ?_
  refine rO 11 fun K hK=>?_
  go_simp
  have b2:Below B.heap.size B (B.alloc (.cells #[.int .u8 0,.slice none 0 0,.slice none 0 0] 81)):=(Below.refl _ _).alloc (Nat.le_refl _) _
  have U:=hHeld.trans (b2.mono hHeld.size)
  have J:=yH (heap_alloc_new B (.cells #[.int .u8 0,.slice none 0 0,.slice none 0 0] 81))
  have AS:=yH hHeld.size
  have X:=yH (A8.out.later b2)
  try go_wp2_with fail
  refine hK.out _ _ U (fun hHeld=>?_)
  clear hK K
  try simp only [Act.put,yA,yB,yC]
  generalize B.alloc (.cells #[.int .u8 0,.slice none 0 0,.slice none 0 0] 81)=l at *
  refine rO 12 fun K hK=>?_
  refine wp_store_row 81 (.tmp 6) (.tmp 22) (by rfl) B.heap.size #[.int .u8 1,.slice p n c,.slice q m f] (by rfl) (by rfl) _ _ J.out SNo rfl (x2R 1 p n c q m f) ?_
  have Z:=Below.setRow hHeld AS.out #[.int .u8 1,.slice p n c,.slice q m f]
  have o:=yH (setRow_heap _ _ _ #[.int .u8 1,.slice p n c,.slice q m f] _ _ J.out)
  have e:=yH (X.out.keepIn E.out H.out (fun j h1 h2 _=>setRow_other l B.heap.size j #[.int .u8 1,.slice p n c,.slice q m f] (by omega)))
  refine hK.out _ _ Z (fun hHeld=>?_)
  clear hK K
  try simp only [Act.put,yA,yB,yC]
  generalize l.setRow B.heap.size #[.int .u8 1,.slice p n c,.slice q m f]=y1 at *
  refine tK 13 ?_
  refine wpAnyH_done (by kernel_rfl) ?_ _
  have R9:=yH (yK Z RS.out)
  have A6:=cell_of_row y1 B.heap.size 0 _ _ _ o.out
  have R:=yH (show y1.rangeAt B.heap.size 0 [.int .u8 1,.slice p n c,.slice q m f] from x3V o.out)
  go_wp2_with (first
   | (refine wpList_load_mid (by rfl) 81 _ (by rfl) B.heap.size 0 (by rfl) [.int .u8 1,.slice p n c,.slice q m f] dn R.out L.out C.out SNo ?_)
   | (refine wpList_store_row (by rfl) 81 _ _ (by rfl) (w.heap.size+1) #[.int .u8 1,.slice p n c,.slice q m f] (by rfl) (by rfl) _ _ R9.out SNo rfl (x2R 1 p n c q m f) ?_))
  refine x0F 4 5 (by kernel_rfl) (w.heap.size+1) _ #[.int .u8 1,.slice p n c,.slice q m f] _ L.out C.out SNo (by rfl) (by rfl) (setRow_heap _ _ _ _ _ _ R9.out) ?_
  exact ⟨p,n,c,q,m,f,EE,KK,Y,rfl,h.out,(e.out.keepIn E.out H.out (fun j h1 h2 _=>setRow_other y1 (w.heap.size+1) j _ (by have:=I.out;have:=SW.out;omega))).down (by have:=I.out;have:=SW.out;omega),(BW.out.trans (Z.mono BW.out.size)).trans (Below.setRow (Below.refl _ _) (by omega) _)⟩
 ·
  go_simp
  have b1:Below x0.heap.size x0 (x0.alloc (.cells #[.int .u8 0,.slice none 0 0,.slice none 0 0] 81)):=(Below.refl _ _).alloc (Nat.le_refl _) _
  have a:=hHeld.trans (b1.mono hHeld.size)
  have t:=yH (heap_alloc_new x0 (.cells #[.int .u8 0,.slice none 0 0,.slice none 0 0] 81))
  have AS:=yH hHeld.size
  try go_wp2_with fail
  refine hK.out _ _ a (fun hHeld=>?_)
  clear hK K
  try simp only [Act.put,yA,yB,yC]
  generalize x0.alloc (.cells #[.int .u8 0,.slice none 0 0,.slice none 0 0] 81)=B at *
  refine rO 7 fun K hK=>?_
  go_simp
  refine (u.out _ hHeld).mono ?_
  rintro _ l ⟨b2,p,n,c,q,m,f,EE,KK,Y,rfl,G,A⟩
  have h:=yH G
  have E:=yH A.ents.low
  have H:=yH A.kids.low
  have X:=yH A
  have U:=hHeld.trans (b2.mono hHeld.size)
  have AA:=yH (show x0.heap.size<B.heap.size from (yL t.out))
  have I:=yH (show P.heap.size≤B.heap.size from hHeld.size)
  clear G A
  have J:=yH (yK b2 t.out)
  try go_wp2_with fail
  refine hK.out _ _ U (fun hHeld=>?_)
  clear hK K
  try simp only [Act.put,yA,yB,yC]
  refine tK 8 ?_
  refine tK 9 ?_
  refine tK 10 ?_
  refine rO 12 fun K hK=>?_
  refine wp_store_row 81 (.tmp 6) (.tmp 22) (by rfl) x0.heap.size #[.int .u8 1,.slice p n c,.slice q m f] (by rfl) (by rfl) _ _ J.out SNo rfl (x2R 1 p n c q m f) ?_
  have Z:=Below.setRow hHeld AS.out #[.int .u8 1,.slice p n c,.slice q m f]
  have o:=yH (setRow_heap _ _ _ #[.int .u8 1,.slice p n c,.slice q m f] _ _ J.out)
  have e:=yH (X.out.keepIn E.out H.out (fun j h1 h2 _=>setRow_other l x0.heap.size j #[.int .u8 1,.slice p n c,.slice q m f] (by have:=AA.out;omega)))
  refine hK.out _ _ Z (fun hHeld=>?_)
  clear hK K
  try simp only [Act.put,yA,yB,yC]
  generalize l.setRow x0.heap.size #[.int .u8 1,.slice p n c,.slice q m f]=y1 at *
  refine tK 13 ?_
  refine wpAnyH_done (by kernel_rfl) ?_ _
  have R9:=yH (yK Z RS.out)
  have A6:=cell_of_row y1 x0.heap.size 0 _ _ _ o.out
  have R:=yH (show y1.rangeAt x0.heap.size 0 [.int .u8 1,.slice p n c,.slice q m f] from x3V o.out)
  go_wp2_with (first
   | (refine wpList_load_mid (by rfl) 81 _ (by rfl) x0.heap.size 0 (by rfl) [.int .u8 1,.slice p n c,.slice q m f] dn R.out L.out C.out SNo ?_)
   | (refine wpList_store_row (by rfl) 81 _ _ (by rfl) (w.heap.size+1) #[.int .u8 1,.slice p n c,.slice q m f] (by rfl) (by rfl) _ _ R9.out SNo rfl (x2R 1 p n c q m f) ?_))
  refine x0F 4 5 (by kernel_rfl) (w.heap.size+1) _ #[.int .u8 1,.slice p n c,.slice q m f] _ L.out C.out SNo (by rfl) (by rfl) (setRow_heap _ _ _ _ _ _ R9.out) ?_
  exact ⟨p,n,c,q,m,f,EE,KK,Y,rfl,h.out,(e.out.keepIn E.out H.out (fun j h1 h2 _=>setRow_other y1 (w.heap.size+1) j _ (by have:=I.out;have:=SW.out;omega))).down (by have:=I.out;have:=SW.out;omega),(BW.out.trans (Z.mono BW.out.size)).trans (Below.setRow (Below.refl _ _) (by omega) _)⟩
theorem y30 {w:World} {r:Rw} (hr:r.Ok w):RowsIn (w.alloc (.cells #[r.val] 24)) (some ⟨w.heap.size,0,none⟩) 1 1 [r]:=by
 have b1:Below w.heap.size w (w.alloc (.cells #[r.val] 24)):=(Below.refl _ _).alloc (Nat.le_refl _) _
 refine ⟨rfl,Nat.le_refl _,fun t ht=>?_,Or.inr ⟨w.heap.size,0,rfl,fun i hi=>?_⟩⟩
 ·obtain rfl:=List.mem_singleton.1 ht
  exact hr.later b1
 ·obtain rfl:i=0:=by simpa using hi
  exact cell_of_row _ _ 0 _ _ _ (heap_alloc_new w _)
def y5S (w:World) (err:Int) (e:Ending) (w':World):Prop:=e= .returned (.tuple #[.slice none 0 0,.int .i64 err])∧Below w.heap.size w w'
def x5F (sp:Option Addr) (d:Int) (ga oa:Nat) (err:Int) (w:World):Prop:=∀w',Below w.heap.size w w'→Calls Tryz.prog 120 #[.agg #[.pointer sp,.int .i64 d],.pointer (some ⟨ga,oa,none⟩)] w' (x87 w' err)
theorem x7U (sp:Option Addr) (d t err:Int) (ga oa:Nat) (fv:Value) (w:World) (hg:x5F sp d ga oa err w):
  Calls Tryz.prog 74 #[.agg #[.pointer sp,.int .i64 d],.pointer (some ⟨ga,oa,none⟩),.int .i64 t,fv] w fun e w'=>e= .returned (.int .i64 err)∧Below w.heap.size w w':=by
 have b1:Below w.heap.size w (w.alloc (.cells #[.pointer sp,.int .i64 d] 91)):=(Below.refl _ _).alloc (Nat.le_refl _) _
 have K:=heap_alloc_new w (.cells #[.pointer sp,.int .i64 d] 91)
 have M:=yH (hg _ b1)
 have O:=yH (x09 K)
 have B1:=yH b1
 obtain ⟨P,E,C⟩:=UTr
 have H:=yH E
 have I:=yH C
 clear hg b1 K E C
 go_enter Tryz.func74,Tryz.ntmps74
 go_upto_region 1 with fail
 generalize w.alloc (.cells #[.pointer sp,.int .i64 d] 91)=w1 at *
 go_upto_region 2 with (first
  | (refine wpList_load_mid (by rfl) 91 _ (by rfl) w.heap.size 0 (by rfl) [.pointer sp,.int .i64 d] P O.out H.out I.out STr ?_)
  | (go_at_call 120;refine M.out.mono ?_;rintro _ A ⟨rfl,J⟩;have L:=yH (B1.out.trans (J.mono B1.out.size));clear J)
  | (refine wpList_store_row (by rfl) 81 (.tmp 9) _ (by rfl) A.heap.size #[.int .u8 0,.slice none 0 0,.slice none 0 0] (by rfl) (by rfl) _ _ (heap_alloc_new A _) SNo rfl x25 ?_;rw [x04]))
 have G:Below A.heap.size A (A.alloc (.cells #[.int .u8 0,.slice none 0 0,.slice none 0 0] 81)):=(Below.refl _ _).alloc (Nat.le_refl _) _
 have B:=heap_alloc_new A (.cells #[.int .u8 0,.slice none 0 0,.slice none 0 0] 81)
 generalize A.alloc (.cells #[.int .u8 0,.slice none 0 0,.slice none 0 0] 81)=w4 at *
 have N:=yH (L.out.trans (G.mono L.out.size))
 have Q:=cell_of_row w4 A.heap.size 1 _ _ _ B
 have R:=cell_of_row w4 A.heap.size 2 _ _ _ B
 clear G B
 go_wp2_with fail
 refine wp_loop_rounds 1 ?_
 rw [rounds_succ]
 go_wp2_with fail
 refine wp_loop_rounds 1 ?_
 rw [rounds_succ]
 go_wp2_with fail
 (try simp only [Exit.inBlock,Exit.then])
 go_ret
 exact ⟨rfl,N.out⟩
end Go.Proofs.YtinihaflmdihaaaGreat.Kt
namespace Go.Proofs.YtinihaflmdihaaaGreat.Kt
open Go.RowKit Go.Proofs.YtinihaflmdihaaaGreat.Nd Go.Proofs.YtinihaflmdihaaaGreat.Pg
structure St where
 row:List Int
 live:Bool
 l:V
 r:V
 side:Bool
 old:V
def wayV (d:Nat) (p:List Int):V→Nat→Option (List St×St)
 | .nil,_=>some ([],⟨p,false,.nil,.nil,false,.nil⟩)
 | .bad _,_=>none
 | .fork q v l r,t=>
  if ordC (t%d) p q=0 then some ([],⟨q,v,l,r,false,.fork q v l r⟩)
  else if 0<ordC (t%d) p q then (wayV d p r (t+1)).map fun x=>(⟨q,v,l,r,true,.fork q v l r⟩::x.1,x.2)
  else (wayV d p l (t+1)).map fun x=>(⟨q,v,l,r,false,.fork q v l r⟩::x.1,x.2)
def St.on (s:St):Int:=if s.side then s.r.kid.size else s.l.kid.size
def St.off (s:St):Int:=if s.side then s.l.kid.size else s.r.kid.size
def x0G:Nat→List St→Nat×Int×Int
 | i,[]=>(i,0,0)
 | i,s::L=>
  if (s.on+(x0G (i+1) L).2.2+s.off+1)*2/3+1<max (s.on+(x0G (i+1) L).2.2) s.off then (i,s.old.kid.live+1,s.old.kid.live+1 - s.old.kid.size)
  else ((x0G (i+1) L).1,s.on+(x0G (i+1) L).2.2+s.off+1,s.on+(x0G (i+1) L).2.2+s.off+1 - s.old.kid.size)
theorem x7V:∀(L:List St) (i:Nat),i≤(x0G i L).1∧(x0G i L).1≤i+L.length
 |[],i=>⟨Nat.le_refl _,Nat.le_refl _⟩
 | s::L,i=>by
  have h:=x7V L (i+1)
  unfold x0G
  rw [List.length_cons]
  split
  ·exact ⟨Nat.le_refl _,by omega⟩
  ·exact ⟨by simp only;omega,by simp only;omega⟩
def x1P:List St→V→V
 |[],k=>k
 | s::L,k=>if s.side then .fork s.row s.live s.l (x1P L k) else .fork s.row s.live (x1P L k) s.r
def V.rows:V→List (List Int)
 | .nil=>[]
 | .bad _=>[]
 | .fork p v l r=>(if v then [p] else [])++(l.rows++r.rows)
theorem x9g {a d:Nat} {L M:List (List Int)} (hL:∀y∈L,y.length=d) (hp:L.Perm M):sortP a L=sortP a M:=by
 have A:∀y∈M,y.length=d:=fun y hy=>hL y (hp.mem_iff.2 hy)
 exact x5q A ((x1Y a L).trans hp) (x2I hL)
theorem y31 {d:Nat} {L M:List (List Int)} {t:Nat} (hL:∀y∈L,y.length=d) (hp:L.Perm M):lay L t=lay M t:=by
 have C:∀y∈M,y.length=d:=fun y hy=>hL y (hp.mem_iff.2 hy)
 by_cases h0:L=[]
 ·subst h0
  rw [List.nil_perm.1 hp]
 ·have B:M≠[]:=fun e=>h0 (by rw [e] at hp;exact List.perm_nil.1 hp)
  have A:∀ {K:List (List Int)},K≠[]→(∀y∈K,y.length=d)→(K.headD []).length=d:=fun {K} hK hy=>by
   cases K with
   | nil=>exact absurd rfl hK
   | cons x K=>exact hy x (by simp)
  rw [x8G h0,x8G B,A h0 hL,A B C,x9g hL hp,hp.length_eq]
def F (side:Bool) (q:List Int) (v:Bool) (c o:T):T:=if side then .fork q v o c else .fork q v c o
end Go.Proofs.YtinihaflmdihaaaGreat.Kt
namespace Go.Proofs.YtinihaflmdihaaaGreat.Kt
open Go.RowKit Go.Proofs.YtinihaflmdihaaaGreat.Nd Go.Proofs.YtinihaflmdihaaaGreat.Dk Go.Proofs.YtinihaflmdihaaaGreat.Pg
open List renaming setIfInBounds_toArray → yA, set_cons_zero → yB, set_cons_succ → yC
abbrev Ent:=List Int×Bool×Nat
def V.ents:V→Nat→List Ent
 | .nil,_=>[]
 | .bad _,_=>[]
 | .fork p v l r,t=>(p,v,t)::(l.ents (t+1)++r.ents (t+1))
structure DoOk (B:Nat) (F:Nat) (cap:Array Value) (I:(Nat→Prop)→List Ent→World→Prop):Prop where
 lt:∀X L w,I X L w→∀k,X k→k<w.heap.size
 later:∀X L w w',I X L w→Below w.heap.size w w'→I X L w'
 run:∀X L w (r:Rw) (v:Bool) (t:Nat),I X L w→r.Ok w→(∀x,r.p=some x→r.R≠[]→¬X x.block∧B≤x.block)→t≤1000000000→L.length≤100000→
  Calls Tryz.prog F (#[.agg #[r.val,.bool v],.int .i64 t]++cap) w fun e w'=>e= .returned (.tuple #[])∧∃X',I X' (L++[(r.R,v,t)]) w'∧(∀k,X' k→X k∨w.heap.size≤k)∧Only X w w'
def x8v (w:World) (I:(Nat→Prop)→List Ent→World→Prop) (X:Nat→Prop) (L:List Ent) (u:V) (t:Nat) (e:Ending) (w':World):Prop:=
 ∃(err:Int) (M:List Ent) (X':Nat→Prop),e= .returned (.int .i64 err)∧I X' (L++M) w'∧(∀k,X' k→X k∨w.heap.size≤k)∧Only X w w'∧(u.whole=true→err=0∧M=u.ents t)∧(u.whole=false→err=21)∧(M.length:Int)≤u.kid.size
theorem x5G {gs:Nat} {d:Int} {k:Kd} {ga oa:Nat} {w:World} (hk:k.Ok w) (hr:w.rangeAt ga oa k.cells) (he:k.pk=PK.none):x5F (some ⟨gs,0,none⟩) d ga oa 0 w:=fun _ hb=>x9e _ d k ga oa _ (hk.later hb) (x02 hr hb) he
theorem NodeBad.later {gs:Nat} {k:Kd} {d:Int} {w w':World} (h:NodeBad gs k d w) (hb:Below w.heap.size w w'):NodeBad gs k d w':=fun w2 h2=>h w2 (hb.trans (h2.mono hb.size))
theorem NodeGood.later {gs:Nat} {k:Kd} {d:Int} {N:PN} {w w':World} (h:NodeGood gs k d N w) (hb:Below w.heap.size w w'):NodeGood gs k d N w':=fun w2 h2=>h w2 (hb.trans (h2.mono hb.size))
theorem x5H {gs:Nat} {d:Int} {k:Kd} {ga oa:Nat} {w:World} (hk:k.Ok w) (hr:w.rangeAt ga oa k.cells) (he:k.pk≠PK.none) (hg:NodeBad gs k d w):x5F (some ⟨gs,0,none⟩) d ga oa 21 w:=fun _ hb=>y2z k ga oa _ (hk.later hb) (x02 hr hb) he (hg.later hb)
def x4J (d:Nat) (W:Pages):Prop:=∀x∈W,∃N,Txt d x.2 N
theorem Forks.texts {d:Nat} {W:Pages} (h:Forks d W):x4J d W:=fun x hx=>by
 obtain ⟨N,hN,_⟩:=h x hx
 exact ⟨N,hN⟩
theorem y1J {N:PN} (h:1≤N.size):N.says≠PK.none:=fun e=>by
 have:N.size=0:=congrArg PK.size e
 omega
theorem x8w {gs d:Nat} {Q:Nat→Prop} {s:Pg.S} {k:Kd} {w:World} (hp:PL w gs Q s) (hW:x4J d s.W) (hk:k.Ok w) (hs:Sees s.W d (.bad k.pk)):NodeBad gs k d w:=by
 obtain ⟨E,C,G,B⟩:=hs
 cases ht:x0O s.W k.sum with
 | none=>exact x7R hp hk ht
 | some t=>
  obtain ⟨N,A⟩:∃N,Txt d t N:=by
   unfold x0O at ht
   split at ht
   ·rename_i hi
    have:=hW _ (Pg.getD_mem hi)
    rw [Option.some.inj ht] at this
    exact this
   ·cases ht
  exact x88 hp hk ht A (B t N ht A)
theorem x5I {gs d:Nat} {Q:Nat→Prop} {s:Pg.S} {k:Kd} {w:World} {p:List Int} {v:Bool} {l r:V} (hp:PL w gs Q s) (hk:k.Ok w) (he:k.pk=(V.fork p v l r).kid) (hs:Sees s.W d (.fork p v l r)):NodeGood gs k d (forkN p v l.kid r.kid) w:=by
 obtain ⟨B,A,E,C⟩:=hs
 refine x7S hp hk ?_ B he.symm
 rw [← A]
 exact congrArg (x0O s.W) (congrArg PK.sum he)
theorem x1F {d:Nat} {W:Pages} {u:V} (h:Sees W d u):0≤u.kid.size:=(x2e (x19 h).1).1
theorem x5J {E:List En} {KK:List Kd} {p:List Int} {v:Bool} {a b:PK} (h:pnOf 1 E KK=forkN p v a b):∃e k1 k2,E=[e]∧KK=[k1,k2]∧e.row.R=p∧e.live=v∧k1.pk=a∧k2.pk=b:=by
 unfold pnOf forkN at h
 simp only [PN.mk.injEq] at h
 obtain ⟨_,B,A⟩:=h
 match E,KK,B,A with
 |[e],[k1,k2],B,A=>
  simp only [List.map_cons,List.map_nil,List.cons.injEq,and_true] at B A
  exact ⟨e,k1,k2,rfl,rfl,congrArg PE.row B,congrArg PE.live B,A.1,A.2⟩
 |[],_,B,_=>simp at B
 | _::_::_,_,B,_=>simp at B
 |[_],[],_,A=>simp at A
 |[_],[_],_,A=>simp at A
 |[_],_::_::_::_,_,A=>simp at A
theorem x1i {B mid:Nat} {w:World} {p:Option Addr} {n c:Nat} {q:Option Addr} {m f:Nat} {e:En} {k1 k2:Kd} (h:Fresh B mid w p n c q m f [e] [k1,k2]):n=1∧m=2∧∃ge gk,p=some ⟨ge,0,none⟩∧q=some ⟨gk,0,none⟩∧w.rangeAt ge 0 [e.row.val,.bool e.live]∧w.rangeAt gk 0 k1.cells∧w.rangeAt gk 37 k2.cells∧e.row.Ok w∧k1.Ok w∧k2.Ok w∧B≤ge∧mid≤gk:=by
 have I:n=1:=h.ents.len
 have J:m=2:=h.kids.lst.len
 subst I J
 have K:=h.ents_in (by decide)
 have G:=h.kids_in (by decide)
 obtain ⟨ge,C,H⟩:=(h.ents.range (fun e _=>rfl)).resolve_left (by simp)
 obtain ⟨gk,A,E⟩:=(h.kids.lst.range (fun k E=>Kd.cells_length (h.kids.good k E).1)).resolve_left (by simp)
 refine ⟨rfl,rfl,ge,gk,C,A,(show w.rangeAt ge 0 e.cells from by have:=H 0 (by simp);simpa using this),by have:=E 0 (by simp);simpa using this,by have:=E 1 (by simp);simpa using this,K.each e (by simp),G.each k1 (by simp),G.each k2 (by simp),?_,?_⟩
 ·exact (h.ents.own.lt ge (by rw [C];rfl)).1
 ·exact (h.kids.lst.own.lt gk (by rw [A];rfl)).1
theorem x3X {gs d B:Nat} {Q:Nat→Prop} {s:Pg.S} {F:Nat} {cap:Array Value} {I:(Nat→Prop)→List Ent→World→Prop} (hW:x4J d s.W) (hF:∀args w,(callFunc F args).run Tryz.prog w= .ok (.enter F args) w) (hI:DoOk B F cap I):∀(u:V) (k:Kd) (ga oa t:Nat) (w:World) (X:Nat→Prop) (L:List Ent),PL w gs Q s→Sees s.W d u→k.Ok w→w.rangeAt ga oa k.cells→k.pk=u.kid→I X L w→(∀j,Q j→¬X j)→(t:Int)+u.kid.size≤1000000→(L.length:Int)+u.kid.size≤100000→B≤w.heap.size→
  Calls Tryz.prog 74 #[.agg #[.pointer (some ⟨gs,0,none⟩),.int .i64 d],.pointer (some ⟨ga,oa,none⟩),.int .i64 t,.func (.func F) #[] cap] w (x8v w I X L u t)
 | .nil,k,ga,oa,t,w,X,L,hp,hs,hk,hr,he,hi,hq,ht,hll,hbw=>by
  refine (x7U (some ⟨gs,0,none⟩) d t 0 ga oa (.func (.func F) #[] cap) w (x5G hk hr he)).mono ?_
  rintro e w' ⟨rfl,hb⟩
  exact ⟨0,[],X,rfl,by rw [List.append_nil];exact hI.later _ _ _ _ hi hb,fun _ h=>Or.inl h,Only.of_below _ hb,(fun _=>⟨rfl,rfl⟩),(fun h=>by cases h),Int.le_refl _⟩
 | .bad kk,k,ga,oa,t,w,X,L,hp,hs,hk,hr,he,hi,hq,ht,hll,hbw=>by
  have he':k.pk=kk:=he
  subst he'
  refine (x7U (some ⟨gs,0,none⟩) d t 21 ga oa (.func (.func F) #[] cap) w (x5H hk hr hs.1 (x8w hp hW hk hs))).mono ?_
  rintro e w' ⟨rfl,hb⟩
  exact ⟨21,[],X,rfl,by rw [List.append_nil];exact hI.later _ _ _ _ hi hb,fun _ h=>Or.inl h,Only.of_below _ hb,(fun h=>by cases h),(fun _=>rfl),(x2e hs.2.1).1⟩
 | .fork p v l r,k,ga,oa,t,w,X,L,hp,hs,hk,hr,he,hi,hq,ht,hll,hbw=>by
  have ih1:=x3X (gs:=gs) (Q:=Q) hW hF hI l
  have ih2:=x3X (gs:=gs) (Q:=Q) hW hF hI r
  have hgd:=x5I hp hk he hs
  have hsz:(V.fork p v l r).kid.size=1+(l.kid.size+r.kid.size):=x0Z p v l.kid r.kid
  have hz1:=x1F hs.2.2.1
  have hz2:=x1F hs.2.2.2
  have hne:k.pk≠PK.none:=by
   rw [he]
   exact y1J (by rw [x0Z];omega)
  have b1:Below w.heap.size w (w.alloc (.cells #[.pointer (some ⟨gs,0,none⟩),.int .i64 d] 91)):=(Below.refl _ _).alloc (Nat.le_refl _) _
  have r1:=heap_alloc_new w (.cells #[.pointer (some ⟨gs,0,none⟩),.int .i64 d] 91)
  have Az:=yH (x7T k ga oa _ (hk.later b1) (x02 hr b1) hne (hgd.later b1) rfl)
  have Ad:=yH ih1
  have BO:=yH ih2
  have HI:=yH (hI.later _ _ _ _ hi b1)
  have A4:=yH hI
  have HP:=yH hp
  have HS:=yH hs
  have HQ:=yH hq
  have HT:=yH (show (t:Int)+(1+(l.kid.size+r.kid.size))≤1000000∧0≤l.kid.size∧0≤r.kid.size∧(L.length:Int)+(1+(l.kid.size+r.kid.size))≤100000 from ⟨by omega,hz1,hz2,by omega⟩)
  have B8:=yH hsz
  have Ap:=yH hbw
  have Ah:=yH (hI.lt _ _ _ hi)
  have R1:=yH r1
  have Bj:=yH (x09 r1)
  have B1:=yH b1
  obtain ⟨du,BL,BJ⟩:=UTr
  obtain ⟨dn,Bo,AT⟩:=UNo
  obtain ⟨de,B4,Ab⟩:=UEnt
  have AQ:=yH BL
  have AO:=yH BJ
  have CQ:=yH Bo
  have CB:=yH AT
  have BC:=yH B4
  have AU:=yH Ab
  have q3:IntKind.i64.wrap ((t:Int)+1)=((t+1:Nat):Int):=by rw [IntWalk.i64_in _ (by omega)];rfl
  clear ih1 ih2 hgd hsz hz1 hz2 hne b1 r1 hp hs hk hr he hi hq ht hll hbw BL BJ Bo AT B4 Ab hI
  go_enter Tryz.func74,Tryz.ntmps74
  go_upto_region 1 with fail
  generalize w.alloc (.cells #[.pointer (some ⟨gs,0,none⟩),.int .i64 d] 91)=w1 at *
  go_upto_region 2 with (first
   | (refine wpList_load_mid (by rfl) 91 _ (by rfl) w.heap.size 0 (by rfl) [.pointer (some ⟨gs,0,none⟩),.int .i64 d] du Bj.out AQ.out AO.out STr ?_)
   | (go_at_call 120;refine Az.out.mono ?_;rintro _ J ⟨pe,ne,ce,pk,nk,ck,EE,KK,CP,rfl,Ax,Bd,b3⟩;have BK:=yH Ax;have A6:=yH Bd;have B3:=yH b3;clear b3 Ax Bd)
   | (refine wpList_store_row (by rfl) 81 (.tmp 9) _ (by rfl) J.heap.size #[.int .u8 1,.slice pe ne ce,.slice pk nk ck] (by rfl) (by rfl) _ _ (heap_alloc_new J _) SNo rfl (x2R 1 pe ne ce pk nk ck) ?_;rw [x04]))
  obtain ⟨e,k1,k2,rfl,rfl,hR,BA,Bf,BQ⟩:=x5J BK.out
  obtain ⟨rfl,rfl,ge,f,rfl,rfl,AH,Aa,AZ,AD,AW,Ac,BD,C2⟩:=x1i A6.out
  obtain ⟨⟨rp,rn,rc,rR⟩,lv⟩:=e
  simp only at hR BA AH AD
  subst hR BA
  unfold Rw.val at AH
  simp only at AH
  have c:Below J.heap.size J (J.alloc (.cells #[.int .u8 1,.slice (some ⟨ge,0,none⟩) 1 ce,.slice (some ⟨f,0,none⟩) 2 ck] 81)):=(Below.refl _ _).alloc (Nat.le_refl _) _
  have Al:=heap_alloc_new J (.cells #[.int .u8 1,.slice (some ⟨ge,0,none⟩) 1 ce,.slice (some ⟨f,0,none⟩) 2 ck] 81)
  have Ay:(J.alloc (.cells #[.int .u8 1,.slice (some ⟨ge,0,none⟩) 1 ce,.slice (some ⟨f,0,none⟩) 2 ck] 81)).heap.size=J.heap.size+1:=by simp
  generalize J.alloc (.cells #[.int .u8 1,.slice (some ⟨ge,0,none⟩) 1 ce,.slice (some ⟨f,0,none⟩) 2 ck] 81)=w4 at *
  have o:=B3.out.trans (c.mono B3.out.size)
  have Af:=yH o
  have BM:=yH (A4.out.later _ _ _ _ HI.out o)
  have Z:=yH (show ∀j,X j→j<w.heap.size from Ah.out)
  have BY:=yH (show w4.rangeAt ge 0 [.slice rp rn rc,.bool lv] from x02 AH c)
  have BX:=yH Al
  have Ar:=yH (x02 Aa c)
  have BT:=yH (x02 AZ c)
  have B0:=yH (show (⟨rp,rn,rc,rR⟩:Rw).Ok w4 from AD.later c)
  have Aj:=yH (AW.later c)
  have Ak:=yH (Ac.later c)
  have BV:=yH Bf
  have BZ:=yH BQ
  have A:=yH (show w.heap.size<w1.heap.size∧w1.heap.size≤J.heap.size∧w4.heap.size=J.heap.size+1∧w1.heap.size≤ge∧w1.heap.size≤f from ⟨(yL R1.out),B3.out.size,Ay,BD,by have:=A6.out.base;omega⟩)
  have BP:=yH (yK o R1.out)
  have BE:=yH (show ∀x,rp=some x→rR≠[]→¬X x.block∧B≤x.block from fun x hx hR0=>by
   have C:=(A6.out.ents.each ⟨⟨rp,rn,rc,rR⟩,lv⟩ (by simp) ⟨rp,rn,rc,rR⟩ (by simp [En.rows])).1.lo x hx hR0
   have h3:=A.out
   have h4:=Ap.out
   exact ⟨fun h=>by have:=Ah.out _ h;omega,by omega⟩)
  have Bm:=yH (show ∀kd∈[k1,k2],∀r∈kd.rows,∀x,r.p=some x→r.R≠[]→w1.heap.size≤x.block from fun kd hkd r hr x hx hR0=>by
   have C:=(A6.out.kids.lst.each kd hkd r hr).1.lo x hx hR0
   have:=A6.out.base
   omega)
  have c1:=cell_of_row w4 J.heap.size 1 _ _ _ Al
  clear AH Aa AZ AD AW Ac BD C2 c Al Ay o Bf BQ A6 BK HI Ah R1 Bj Az
  go_wp2_with fail
  refine wp_loop_rounds 2 ?_
  rw [rounds_succ]
  go_upto_region 5 with (first
   | (refine wpList_load_mid (by rfl) 85 _ (by rfl) ge 0 (by rfl) [.slice rp rn rc,.bool lv] de BY.out BC.out AU.out SEnt ?_)
   | (refine wpList_store_row (by rfl) 85 (.tmp 12) (.tmp 26) (by rfl) w4.heap.size #[.slice rp rn rc,.bool lv] (by rfl) (by rfl) _ _ (heap_alloc_new w4 _) SEnt rfl (by rfl) ?_;rw [x04]))
  have AS:Below w4.heap.size w4 (w4.alloc (.cells #[.slice rp rn rc,.bool lv] 85)):=(Below.refl _ _).alloc (Nat.le_refl _) _
  have Bb:=heap_alloc_new w4 (.cells #[.slice rp rn rc,.bool lv] 85)
  generalize w4.alloc (.cells #[.slice rp rn rc,.bool lv] 85)=w5 at *
  have A1:=yH (A4.out.run X L w5 ⟨rp,rn,rc,rR⟩ lv t (A4.out.later _ _ _ _ BM.out AS) (B0.out.later AS) BE.out (by have:=HT.out;omega) (by have:=HT.out;omega))
  have R5:=yH (x09 Bb)
  have B5:=yH AS
  unfold Rw.val at A1
  simp only at A1
  clear AS Bb BM B0 BE
  go_upto_region 6 with (first
   | (refine wpList_load_mid (by rfl) 85 _ (by rfl) w4.heap.size 0 (by rfl) [.slice rp rn rc,.bool lv] de R5.out BC.out AU.out SEnt ?_)
   | (refine A1.out.mono ?_;rintro _ H ⟨rfl,X6,Bl,BW,B7⟩;have Aq:=yH Bl;have C7:=yH BW;have Ai:=yH B7;clear Bl BW B7))
  have AM:=yH (show w4.heap.size<H.heap.size from Nat.lt_of_lt_of_le (by have h:=(block_lt_of_cell (R5.out 0 _ rfl):w4.heap.size<w5.heap.size);exact h) Ai.out.size)
  have Y:=yH (show ∀j,j<w4.heap.size→¬X j→H.heap[j]? =w4.heap[j]? from fun j hj hx=>(Ai.out.block j (by have:=B5.out.size;omega) hx).trans (B5.out.block j hj))
  have N:=yH (show ∀j,X6 j→X j∨w4.heap.size≤j from fun j hj=>(C7.out j hj).imp id (fun h=>by have:=B5.out.size;omega))
  have Ae:=yH ((Only.of_below X B5.out).trans Ai.out)
  have g:=yH ((Y.out J.heap.size (by have:=A.out;omega) (fun h=>by have:=Z.out _ h;have:=A.out;omega)).trans BX.out)
  have A7:=yH ((Y.out w.heap.size (by have:=A.out;omega) (fun h=>by have:=Z.out _ h;omega)).trans BP.out)
  have m:∀kd∈[k1,k2],kd.Ok w4→kd.Ok H:=fun kd hkd h=>by
   have i:∀r∈kd.rows,r.Ok H:=fun r hr=>Nd.rw_keep (x05 h r hr) fun y hy hR=>Y.out _ (rw_lt (x05 h r hr) y hy hR) (fun C=>by have:=Z.out _ C;have:=Bm.out kd hkd r hr y hy hR;have:=A.out;omega)
   exact ⟨h.len,h.ok,i _ (by simp [Kd.rows]),i _ (by simp [Kd.rows]),i _ (by simp [Kd.rows]),h.live,h.size⟩
  have AX:=yH (m k1 (by simp) Aj.out)
  have C0:=yH (show ∀r∈k2.rows,∀y,r.p=some y→r.R≠[]→¬X6 y.block from fun r hr y hy hR h=>(N.out _ h).elim (fun h=>by have:=Z.out _ h;have:=Bm.out k2 (by simp) r hr y hy hR;have:=A.out;omega) (fun h=>by have:=rw_lt (x05 Ak.out r hr) y hy hR;omega))
  have P:=yH (m k2 (by simp) Ak.out)
  have z:=yH (show f<w4.heap.size from block_lt_of_cell (Ar.out 0 _ (by rw [List.getElem?_eq_getElem (by rw [Kd.cells_length Aj.out.len];decide)])))
  have BU:=yH (show H.rangeAt f 0 k1.cells from fun j v hv=>(World.cell?_of_block (Y.out f z.out (fun C=>by have:=Z.out _ C;have:=A.out;omega))).trans (Ar.out j v hv))
  have B6:=yH (show H.rangeAt f 37 k2.cells from fun j v hv=>(World.cell?_of_block (Y.out f z.out (fun C=>by have:=Z.out _ C;have:=A.out;omega))).trans (BT.out j v hv))
  have At:=yH (show PL H gs Q s from ((HP.out.keep (fun _=>False) (Only.of_below _ B1.out) (fun _ _ e=>e)).keep (fun _=>False) (Only.of_below _ Af.out) (fun _ _ e=>e)).keep X Ae.out HQ.out)
  have B9:=yH (show ∀j,Q j→¬X6 j from fun j hj h=>(N.out j h).elim (HQ.out j hj) (fun h=>by have:=HP.out.lt j hj;have:=A.out;omega))
  have G:=yH (show Only X w H from ((Only.of_below X B1.out).trans (Only.of_below X Af.out)).trans Ae.out)
  have Bi:=yH (Ad.out k1 f 0 (t+1) H.drew X6 (L++[(rR,lv,t)]) (At.out.keep (fun _=>False) (Only.of_below _ (Below.refl _ _).drew) (fun _ _ e=>e)) HS.out.2.2.1 (AX.out.later (Below.refl _ _).drew) BU.out BV.out (A4.out.later _ _ _ _ Aq.out (Below.refl _ _).drew) B9.out (by have:=HT.out;omega) (by have:=HT.out;simp only [List.length_append,List.length_cons,List.length_nil];omega) (by have h1:=Ap.out;have C:=G.out.size;exact Nat.le_trans h1 C))
  have CI:=yH (A4.out.lt _ _ _ Aq.out)
  have CN:=yH (Kd.cells_length AX.out.len)
  clear m A1 R5 B5 Aj Ak Ar BT BX BP BY Ad Aq
  clear c1
  have c2:=cell_of_row H J.heap.size 2 _ _ _ g.out
  go_wp2_with fail
  rw [rounds_succ]
  go_wp2_with fail
  refine wp_loop_rounds 3 ?_
  rw [rounds_succ]
  have M:=yH (show ∀j,w.heap.size≤j→j<w4.heap.size→¬X6 j from fun j h1 C h=>(N.out j h).elim (fun h=>by have:=Z.out _ h;omega) (fun h=>by omega))
  cases hlw:l.whole with
  | false=>
   have n:=yH hlw
   clear hlw
   go_upto_region 11 with fail
   refine wp_region_held_drew (S:=fun w'=>∀j,j<H.heap.size→¬X6 j→w'.heap[j]? =H.heap[j]?) (by kernel_rfl) (fun _ _ _=>rfl) (fun hHeld=>?_)
   refine tQ 0 ?_ ?_ ?_
   rotate_left
   ·intro w' hSw
    refine Eq.trans (b:=Result.ok (Next.value (.agg #[.pointer (some ⟨gs,0,none⟩),.int .i64 d])) w') ?_ ?_
    ·exact x0A 91 (.tmp 4) (by rfl) w.heap.size 0 (by rfl) [.pointer (some ⟨gs,0,none⟩),.int .i64 d] du (x09 ((hSw w.heap.size (yL A7.out) (M.out _ (by have:=A.out;omega) (by have:=A.out;omega))).trans A7.out)) AQ.out AO.out STr
    ·with_reducible rfl
   refine tK 1 ?_
   refine tQ 2 ?_ ?_ ?_
   rotate_left
   ·intro w' hSw
    have y:w'.cell? ⟨J.heap.size,2,none⟩=some (.slice (some ⟨f,0,none⟩) 2 ck):=(World.cell?_of_block (hSw J.heap.size (yL g.out) (M.out _ (by have:=A.out;omega) (by have:=A.out;omega)))).trans (cell_of_row H J.heap.size 2 _ _ _ g.out)
    go_simp
    try with_reducible rfl
   refine tK 3 ?_
   refine tK 4 ?_
   refine tK 5 ?_
   refine tK 6 ?_
   refine tK 7 ?_
   refine rO 8 fun K hK=>?_
   go_simp
   refine Bi.out.mono ?_
   rintro _ U ⟨BR,M1,X7,rfl,AI,AC,AJ,AG,AP,a⟩
   obtain rfl:=AP n.out
   have Am:=yH AI
   have A0:=yH a
   have Ao:=yH AC
   have E:=yH AJ
   have hS:∀j,j<H.heap.size→¬X6 j→U.heap[j]? =H.heap[j]? :=fun j h1 C=>E.out.block j h1 C
   clear AI AC AJ AG AP a
   try go_wp2_with fail
   refine hK.out _ _ hS (fun hHeld=>?_)
   clear hK K
   try simp only [Act.put,yA,yB,yC]
   refine tK 9 ?_
   refine wpAnyH_done (by kernel_rfl) ?_ _
   go_wp2_with fail
   rw [rounds_succ]
   go_wp2_with fail
   rw [rounds_succ]
   go_wp2_with fail
   (try simp only [Exit.inBlock,Exit.then])
   go_ret
   refine ⟨21,(rR,lv,t)::M1,X7,rfl,by have h:=Am.out;rw [List.append_assoc] at h;exact h,fun j hj=>?_,?_,fun h=>?_,fun _=>rfl,?_⟩
   ·rcases Ao.out j hj with h | h
    ·exact (N.out j h).imp id fun h=>by have:=A.out;omega
    ·have C:H.heap.size≤j:=h
     have:=AM.out
     have:=A.out
     exact Or.inr (by omega)
   ·refine ⟨E.out.os.trans G.out.os,E.out.tape.trans G.out.tape,E.out.output.trans G.out.output,Nat.le_trans G.out.size E.out.size,fun j hj hn=>(E.out.block j (by have:=G.out.size;exact Nat.lt_of_lt_of_le hj this) (fun h=>(N.out j h).elim hn (fun h=>by have:=A.out;omega))).trans (G.out.block j hj hn)⟩
   ·have C:(l.whole&&r.whole)=true:=h
    rw [n.out] at C
    cases C
   ·rw [B8.out]
    have:=A0.out
    have:=HT.out
    simp only [List.length_cons]
    omega
  | true=>
   have n:=yH hlw
   clear hlw
   go_upto_region 11 with fail
   refine wp_region_held_drew (S:=fun w'=>∀j,j<H.heap.size→¬X6 j→w'.heap[j]? =H.heap[j]?) (by kernel_rfl) (fun _ _ _=>rfl) (fun hHeld=>?_)
   refine tQ 0 ?_ ?_ ?_
   rotate_left
   ·intro w' hSw
    refine Eq.trans (b:=Result.ok (Next.value (.agg #[.pointer (some ⟨gs,0,none⟩),.int .i64 d])) w') ?_ ?_
    ·exact x0A 91 (.tmp 4) (by rfl) w.heap.size 0 (by rfl) [.pointer (some ⟨gs,0,none⟩),.int .i64 d] du (x09 ((hSw w.heap.size (yL A7.out) (M.out _ (by have:=A.out;omega) (by have:=A.out;omega))).trans A7.out)) AQ.out AO.out STr
    ·with_reducible rfl
   refine tK 1 ?_
   refine tQ 2 ?_ ?_ ?_
   rotate_left
   ·intro w' hSw
    have y:w'.cell? ⟨J.heap.size,2,none⟩=some (.slice (some ⟨f,0,none⟩) 2 ck):=(World.cell?_of_block (hSw J.heap.size (yL g.out) (M.out _ (by have:=A.out;omega) (by have:=A.out;omega)))).trans (cell_of_row H J.heap.size 2 _ _ _ g.out)
    go_simp
    try with_reducible rfl
   refine tK 3 ?_
   refine tK 4 ?_
   refine tK 5 ?_
   refine tK 6 ?_
   refine tK 7 ?_
   refine rO 8 fun K hK=>?_
   go_simp
   refine Bi.out.mono ?_
   rintro _ U ⟨BR,M1,X7,rfl,AI,AC,AJ,AG,AP,a⟩
   obtain rfl:=(AG n.out).1
   obtain rfl:=(AG n.out).2
   have Am:=yH AI
   have A0:=yH a
   have Ao:=yH AC
   have E:=yH AJ
   have hS:∀j,j<H.heap.size→¬X6 j→U.heap[j]? =H.heap[j]? :=fun j h1 C=>E.out.block j h1 C
   clear AI AC AJ AG AP a
   try go_wp2_with fail
   refine hK.out _ _ hS (fun hHeld=>?_)
   clear hK K
   try simp only [Act.put,yA,yB,yC]
   refine tK 9 ?_
   refine wpAnyH_done (by kernel_rfl) ?_ _
   go_wp2_with fail
   have O:=yH (show Only X w U from ⟨E.out.os.trans G.out.os,E.out.tape.trans G.out.tape,E.out.output.trans G.out.output,Nat.le_trans G.out.size E.out.size,fun j hj hn=>(E.out.block j (by have:=G.out.size;exact Nat.lt_of_lt_of_le hj this) (fun h=>(N.out j h).elim hn (fun h=>by have:=A.out;omega))).trans (G.out.block j hj hn)⟩)
   have C4:=yH (show H.heap.size≤U.heap.size from E.out.size)
   have q:=yH (show ∀j,X7 j→X j∨w4.heap.size≤j from fun j hj=>(Ao.out j hj).elim (N.out j) (fun h=>Or.inr (by have C:H.heap.size≤j:=h;have:=AM.out;omega)))
   have A2:=yH (show ∀j,j<H.heap.size→¬X6 j→U.heap[j]? =H.heap[j]? from fun j h1 C=>E.out.block j h1 C)
   have Bn:=yH ((A2.out w.heap.size (yL A7.out) (M.out _ (by omega) (by have:=A.out;omega))).trans A7.out)
   have Bp:=yH ((A2.out J.heap.size (yL g.out) (M.out _ (by have:=A.out;omega) (by have:=A.out;omega))).trans g.out)
   have Ba:=yH (show U.rangeAt f 37 k2.cells from fun j v hv=>(World.cell?_of_block (A2.out f (by have:=z.out;have:=AM.out;omega) (M.out _ (by have:=A.out;omega) z.out))).trans (B6.out j v hv))
   have Au:=yH (show k2.Ok U from by
    have i:∀r∈k2.rows,r.Ok U:=fun r hr=>Nd.rw_keep (x05 P.out r hr) fun y hy hR=>A2.out _ (rw_lt (x05 P.out r hr) y hy hR) (C0.out r hr y hy hR)
    exact ⟨P.out.len,P.out.ok,i _ (by simp [Kd.rows]),i _ (by simp [Kd.rows]),i _ (by simp [Kd.rows]),P.out.live,P.out.size⟩)
   have Bs:=yH (show PL U gs Q s from (At.out.keep (fun _=>False) (Only.of_below _ (Below.refl _ _).drew) (fun _ _ e=>e)).keep X6 E.out B9.out)
   have Bz:=yH (show ∀j,Q j→¬X7 j from fun j hj h=>(q.out j h).elim (HQ.out j hj) (fun h=>by have:=HP.out.lt j hj;have:=A.out;omega))
   have BG:=yH (show ∀j,w.heap.size≤j→j<w4.heap.size→¬X7 j from fun j h1 C h=>(q.out j h).elim (fun h=>by have:=Z.out _ h;omega) (fun h=>by omega))
   have Bv:=yH (BO.out k2 f 37 (t+1) U.drew X7 (L++[(rR,lv,t)]++l.ents (t+1)) (Bs.out.keep (fun _=>False) (Only.of_below _ (Below.refl _ _).drew) (fun _ _ e=>e)) HS.out.2.2.2 (Au.out.later (Below.refl _ _).drew) Ba.out BZ.out (A4.out.later _ _ _ _ Am.out (Below.refl _ _).drew) Bz.out (by have:=HT.out;omega) (by have:=HT.out;have:=A0.out;simp only [List.length_append,List.length_cons,List.length_nil];omega) (by have h1:=Ap.out;have C:=O.out.size;exact Nat.le_trans h1 C))
   clear M
   have M:=BG
   rw [rounds_succ]
   go_upto_region 11 with fail
   refine wp_region_held_drew (S:=fun w'=>∀j,j<U.heap.size→¬X7 j→w'.heap[j]? =U.heap[j]?) (by kernel_rfl) (fun _ _ _=>rfl) (fun hHeld=>?_)
   refine tQ 0 ?_ ?_ ?_
   rotate_left
   ·intro w' hSw
    refine Eq.trans (b:=Result.ok (Next.value (.agg #[.pointer (some ⟨gs,0,none⟩),.int .i64 d])) w') ?_ ?_
    ·exact x0A 91 (.tmp 4) (by rfl) w.heap.size 0 (by rfl) [.pointer (some ⟨gs,0,none⟩),.int .i64 d] du (x09 ((hSw w.heap.size (yL Bn.out) (M.out _ (by have:=A.out;omega) (by have:=A.out;omega))).trans Bn.out)) AQ.out AO.out STr
    ·with_reducible rfl
   refine tK 1 ?_
   refine tQ 2 ?_ ?_ ?_
   rotate_left
   ·intro w' hSw
    have y:w'.cell? ⟨J.heap.size,2,none⟩=some (.slice (some ⟨f,0,none⟩) 2 ck):=(World.cell?_of_block (hSw J.heap.size (yL Bp.out) (M.out _ (by have:=A.out;omega) (by have:=A.out;omega)))).trans (cell_of_row U J.heap.size 2 _ _ _ Bp.out)
    go_simp
    try with_reducible rfl
   refine tK 3 ?_
   refine tK 4 ?_
   refine tK 5 ?_
   refine tK 6 ?_
   refine tK 7 ?_
   refine rO 8 fun K hK=>?_
   go_simp
   refine Bv.out.mono ?_
   rintro _ w8 ⟨BB,M2,X8,rfl,Bh,BN,Bg,BI,BS,AV⟩
   have By:=yH Bh
   have Bc:=yH AV
   have Br:=yH BN
   have A3:=yH Bg
   have Bt:=yH BI
   have C8:=yH BS
   have hS:∀j,j<U.heap.size→¬X7 j→w8.heap[j]? =U.heap[j]? :=fun j h1 C=>A3.out.block j h1 C
   clear Bh BN Bg BI BS AV
   try go_wp2_with fail
   refine hK.out _ _ hS (fun hHeld=>?_)
   clear hK K
   try simp only [Act.put,yA,yB,yC]
   refine tK 9 ?_
   refine wpAnyH_done (by kernel_rfl) ?_ _
   go_wp2_with fail
   rw [rounds_succ]
   go_wp2_with fail
   (try simp only [Exit.inBlock,Exit.then])
   go_ret
   refine ⟨BB,(rR,lv,t)::(l.ents (t+1)++M2),X8,rfl,by have h:=By.out;simp only [List.append_assoc] at h;exact h,fun j hj=>?_,?_,fun h=>?_,fun h=>?_,?_⟩
   ·rcases Br.out j hj with h | h
    ·exact (q.out j h).imp id fun h=>by have:=A.out;omega
    ·have C:U.heap.size≤j:=h
     have:=AM.out
     have:=C4.out
     have:=A.out
     exact Or.inr (by omega)
   ·refine ⟨A3.out.os.trans O.out.os,A3.out.tape.trans O.out.tape,A3.out.output.trans O.out.output,Nat.le_trans O.out.size A3.out.size,fun j hj hn=>(A3.out.block j (by have:=O.out.size;exact Nat.lt_of_lt_of_le hj this) (fun h=>(q.out j h).elim hn (fun h=>by have:=A.out;omega))).trans (O.out.block j hj hn)⟩
   ·have C:(l.whole&&r.whole)=true:=h
    rw [n.out,Bool.true_and] at C
    obtain ⟨h3,h4⟩:=Bt.out C
    exact ⟨h3,by rw [h4];rfl⟩
   ·have C:(l.whole&&r.whole)=false:=h
    rw [n.out,Bool.true_and] at C
    exact C8.out C
   ·rw [B8.out]
    have:=A0.out
    have:=Bc.out
    have:=HT.out
    simp only [List.length_cons,List.length_append]
    omega
end Go.Proofs.YtinihaflmdihaaaGreat.Kt
