/- KdMeetV. -/
import Derived.BigRegion
import Derived.Test.YtinihaflmdihaaaGreatW1
import Derived.Test.YtinihaflmdihaaaGreatW31
set_option maxRecDepth 100000
set_option maxHeartbeats 8000000
set_option linter.unusedVariables false
set_option linter.unusedSimpArgs false
namespace Go.Proofs.YtinihaflmdihaaaGreat.Kt
open Go.RowKit Go.Proofs.YtinihaflmdihaaaGreat.Nd Go.Proofs.YtinihaflmdihaaaGreat.Dk Go.Proofs.YtinihaflmdihaaaGreat.Pg
open List renaming setIfInBounds_toArray → sA, set_cons_zero → sZ, set_cons_succ → sS
def AsideR (bw:Nat) (v:Value) (A:List MSt) (r:Rw):Prop:=∀x,r.p=some x→r.R≠[]→x.block≠bw∧v.ownBlock≠some x.block∧∀a∈A,x.block≠a.ge∧x.block≠a.gk
def FarK (X:List Rw) (w:World) (m:MSt):Prop:=∀j,m.reads j→w.heap.size≤j∨∃r∈X,∃x,r.p=some x∧r.R≠[]∧j=x.block
def Met (B bw:Nat) (w:World) (v:Value) (A:List MSt) (s:St) (X:List Rw) (w':World) (m:MSt):Prop:=∃v',WaySt B bw w' v' (A++[m])∧Link m s∧Only (fun k=>k=bw∨v.ownBlock=some k) w w'∧(v'.ownBlock=v.ownBlock∨∃k,v'.ownBlock=some k∧w.heap.size≤k)∧w.heap.size≤m.ge∧w.heap.size≤m.gk∧FarK X w m
theorem spz:(Tryz.prog.info? 101).map (fun i=>(i.zero,i.size))=some (some (.agg sp0.toArray),41):=by kernel_rfl
theorem sp0_size:sp0.length=41:=rfl
theorem ent_built0 (p:Option Addr) (n c:Nat):Tryz.prog.built 85 [(0,.slice p n c)]=some #[.slice p n c,.bool false]:=by kernel_rfl
theorem kd0_rows {r:Rw} (h:r∈kd0.rows):r.p=none:=by
 simp only [Kd.rows,kd0,List.mem_cons,List.not_mem_nil,or_false] at h
 rcases h with rfl | rfl | rfl<;>rfl
theorem mst_fork {w:World} {ge gk:Nat} {r:Rw} (he:w.heap[ge]? =some (.cells #[r.val,.bool false] 85 (0,0))) (hk:w.heap[gk]? =some (.cells (kd0.cells++kd0.cells).toArray 34 (0,0))) (hn:ge≠gk) (hr:r.Ok w) (ha:∀x,r.p=some x→r.R≠[]→x.block≠ge∧x.block≠gk):(MSt.mk kd0 ge 1 gk 2 r false kd0 kd0 false).Ok w:=by
 have hT:∀ {g n:Nat} {cs:Array Value} {t:TypeId},w.heap[g]? =some (.cells cs t (0,0))→n≤cs.size→w.there g 0 n:=fun {g n cs t} hh hle j hj=>by
  refine ⟨?_,frozen_of_row w g _ _ _ hh⟩
  rw [cell_of_row w g _ _ _ _ hh,Nat.zero_add,Array.getElem?_eq_getElem (Nat.lt_of_lt_of_le hj hle)]
  rfl
 refine ⟨kd0_ok w,range_tr he,hT he (by simp),fun j u hu=>?_,fun j u hu=>?_,hT hk (by rw [List.size_toArray,List.length_append,kd0_size];exact Nat.le_refl _),hr,kd0_ok w,kd0_ok w,⟨Nat.le_refl _,Nat.le_refl _⟩,hn,fun x hx y hy hR=>?_⟩
 ·have hu:kd0.cells[j]? =some u:=hu
  rw [Nat.zero_add,cell_of_row w gk j _ _ _ hk]
  simp only [List.getElem?_toArray]
  rw [List.getElem?_append_left (List.getElem?_eq_some_iff.1 hu).1]
  exact hu
 ·have hu:kd0.cells[j]? =some u:=hu
  rw [cell_of_row w gk _ _ _ _ hk]
  simp only [List.getElem?_toArray]
  rw [List.getElem?_append_right (by rw [kd0_size];omega),kd0_size,Nat.add_sub_cancel_left]
  exact hu
 ·simp only [MSt.rows,List.mem_append,List.mem_cons] at hx
  rcases hx with h1 | rfl | h1 | h1
  ·rw [kd0_rows h1] at hy;cases hy
  ·exact ha y hy hR
  ·rw [kd0_rows h1] at hy;cases hy
  ·rw [kd0_rows h1] at hy;cases hy
theorem mst_nil_reads {ge ce gk ck:Nat} {r:Rw} {v:Bool} {k a b:Nat} (h:(MSt.mk kd0 ge ce gk ck r v kd0 kd0 false).reads k) (h1:(k=ge∨k=gk)→k≠a∧k≠b) (h2:∀y,r.p=some y→r.R≠[]→y.block≠a∧y.block≠b):k≠a∧k≠b:=by
 rcases h with h | h | ⟨x,hx,y,hy,hR,rfl⟩
 ·exact h1 (Or.inl h)
 ·exact h1 (Or.inr h)
 ·simp only [MSt.rows,List.mem_append,List.mem_cons] at hx
  rcases hx with h3 | rfl | h3 | h3
  ·rw [kd0_rows h3] at hy;cases hy
  ·exact h2 y hy hR
  ·rw [kd0_rows h3] at hy;cases hy
  ·rw [kd0_rows h3] at hy;cases hy
theorem far_nil {ge ce gk ck:Nat} {r:Rw} {v:Bool} {w:World} (h:w.heap.size≤ge∧w.heap.size≤gk):FarK [r] w (MSt.mk kd0 ge ce gk ck r v kd0 kd0 false):=fun j hj=>by
 rcases hj with rfl | rfl | ⟨x,hx,y,hy,hR,rfl⟩
 ·exact Or.inl h.1
 ·exact Or.inl h.2
 ·simp only [MSt.rows,List.mem_append,List.mem_cons] at hx
  rcases hx with h3 | rfl | h3 | h3
  ·rw [kd0_rows h3] at hy;cases hy
  ·exact Or.inr ⟨x,by simp,y,hy,hR,rfl⟩
  ·rw [kd0_rows h3] at hy;cases hy
  ·rw [kd0_rows h3] at hy;cases hy
theorem mst_nil_reads2 {ge ce gk ck:Nat} {r:Rw} {v:Bool} {k bw:Nat} {u:Value} (h:(MSt.mk kd0 ge ce gk ck r v kd0 kd0 false).reads k) (h1:(k=ge∨k=gk)→k≠bw∧u.ownBlock≠some k) (h2:∀y,r.p=some y→r.R≠[]→y.block≠bw∧u.ownBlock≠some y.block):k≠bw∧u.ownBlock≠some k:=by
 rcases h with h | h | ⟨x,hx,y,hy,hR,rfl⟩
 ·exact h1 (Or.inl h)
 ·exact h1 (Or.inr h)
 ·simp only [MSt.rows,List.mem_append,List.mem_cons] at hx
  rcases hx with h3 | rfl | h3 | h3
  ·rw [kd0_rows h3] at hy;cases hy
  ·exact h2 y hy hR
  ·rw [kd0_rows h3] at hy;cases hy
  ·rw [kd0_rows h3] at hy;cases hy
theorem meet_bad {g:Nat} (d:Int) (ga oa:Nat) (wp p:Option Addr) (n c:Nat) (w:World) (hg:GetSays (some ⟨g,0,none⟩) d ga oa 21 w):
  Calls Tryz.prog 152 #[.agg #[.pointer (some ⟨g,0,none⟩),.int .i64 d],.pointer wp,.pointer (some ⟨ga,oa,none⟩),.slice p n c] w fun e w'=>e= .returned (.tuple #[.pointer none,.int .i64 21])∧Below w.heap.size w w':=by
 have b1:Below w.heap.size w (w.alloc (.cells #[.pointer (some ⟨g,0,none⟩),.int .i64 d] 91)):=(Below.refl _ _).alloc (Nat.le_refl _) _
 have r1:=heap_alloc_new w (.cells #[.pointer (some ⟨g,0,none⟩),.int .i64 d] 91)
 have HG:=Lib.hid (hg _ b1)
 have R1:=Lib.hid (range_tr r1)
 have B1:=Lib.hid b1
 obtain ⟨du,hdu,hdr⟩:=UTr
 have HDU:=Lib.hid hdu
 have HDR:=Lib.hid hdr
 clear hg b1 r1 hdu hdr
 go_enter Tryz.func152,Tryz.ntmps152
 go_upto_region 1 with fail
 generalize w.alloc (.cells #[.pointer (some ⟨g,0,none⟩),.int .i64 d] 91)=w1 at *
 go_upto_region 2 with (first
  | (refine wpList_load_mid (by rfl) 91 _ (by rfl) w.heap.size 0 (by rfl) [.pointer (some ⟨g,0,none⟩),.int .i64 d] du R1.out HDU.out HDR.out STr ?_)
  | (go_at_call 120;refine HG.out.mono ?_;rintro _ w3 ⟨rfl,b3⟩;have B3:=Lib.hid (B1.out.trans (b3.mono B1.out.size));clear b3)
  | (refine wpList_store_row (by rfl) 81 (.tmp 10) _ (by rfl) w3.heap.size #[.int .u8 0,.slice none 0 0,.slice none 0 0] (by rfl) (by rfl) _ _ (heap_alloc_new w3 _) SNo rfl nd0_one ?_))
 have hb4:Below w3.heap.size w3 ((w3.alloc (.cells #[.int .u8 0,.slice none 0 0,.slice none 0 0] 81)).setRow w3.heap.size #[.int .u8 0,.slice none 0 0,.slice none 0 0]):=Below.setRow ((Below.refl _ _).alloc (Nat.le_refl _) _) (Nat.le_refl _) _
 generalize (w3.alloc (.cells #[.int .u8 0,.slice none 0 0,.slice none 0 0] 81)).setRow w3.heap.size #[.int .u8 0,.slice none 0 0,.slice none 0 0]=w4 at *
 have B4:=Lib.hid (B3.out.trans (hb4.mono B3.out.size))
 clear hb4
 go_wp2_with fail
 go_ret2
 exact ⟨rfl,B4.out⟩
theorem meet_nil {g B bw:Nat} {v:Value} {A:List MSt} (d:Int) (ga oa:Nat) (r:Rw) (w:World) (hg:GetSays (some ⟨g,0,none⟩) d ga oa 0 w) (hw:WaySt B bw w v A) (hB:B≤w.heap.size) (hr:r.Ok w) (ha:AsideR bw v A r) (hA:A.length≤100000):
  Calls Tryz.prog 152 #[.agg #[.pointer (some ⟨g,0,none⟩),.int .i64 d],.pointer (some ⟨bw,0,none⟩),.pointer (some ⟨ga,oa,none⟩),r.val] w fun e w'=>e= .returned (.tuple #[.pointer none,.int .i64 0])∧∃m,Met B bw w v A ⟨r.R,false,.nil,.nil,false,.nil⟩ [r] w' m:=by
 have b1:Below w.heap.size w (w.alloc (.cells #[.pointer (some ⟨g,0,none⟩),.int .i64 d] 91)):=(Below.refl _ _).alloc (Nat.le_refl _) _
 have r1:=heap_alloc_new w (.cells #[.pointer (some ⟨g,0,none⟩),.int .i64 d] 91)
 have HG:=Lib.hid (hg _ b1)
 have R1:=Lib.hid (range_tr r1)
 have B1:=Lib.hid b1
 have HW:=Lib.hid hw
 have HBB:=Lib.hid hB
 have HR:=Lib.hid hr
 have HAS:=Lib.hid ha
 have HA:=Lib.hid hA
 obtain ⟨rp,rn,rc,rR⟩:=r
 unfold Rw.val
 simp only
 obtain ⟨du,hdu,hdr⟩:=UTr
 have HDU:=Lib.hid hdu
 have HDR:=Lib.hid hdr
 clear hg hw hB hr ha hA b1 r1 hdu hdr
 go_enter Tryz.func152,Tryz.ntmps152
 go_upto_region 1 with fail
 generalize w.alloc (.cells #[.pointer (some ⟨g,0,none⟩),.int .i64 d] 91)=w1 at *
 go_upto_region 2 with (first
  | (refine wpList_load_mid (by rfl) 91 _ (by rfl) w.heap.size 0 (by rfl) [.pointer (some ⟨g,0,none⟩),.int .i64 d] du R1.out HDU.out HDR.out STr ?_)
  | (go_at_call 120;refine HG.out.mono ?_;rintro _ w3 ⟨rfl,b3⟩;have B3:=Lib.hid (B1.out.trans (b3.mono B1.out.size));clear b3)
  | (refine wpList_store_row (by rfl) 81 (.tmp 10) _ (by rfl) w3.heap.size #[.int .u8 0,.slice none 0 0,.slice none 0 0] (by rfl) (by rfl) _ _ (heap_alloc_new w3 _) SNo rfl nd0_one ?_;rw [setRow_alloc]))
 have hb4:Below w3.heap.size w3 (w3.alloc (.cells #[.int .u8 0,.slice none 0 0,.slice none 0 0] 81)):=(Below.refl _ _).alloc (Nat.le_refl _) _
 have hr4:=heap_alloc_new w3 (.cells #[.int .u8 0,.slice none 0 0,.slice none 0 0] 81)
 generalize w3.alloc (.cells #[.int .u8 0,.slice none 0 0,.slice none 0 0] 81)=w4 at *
 have B4:=Lib.hid (B3.out.trans (hb4.mono B3.out.size))
 have c0:=cell_of_row w4 w3.heap.size 0 _ _ _ hr4
 clear hb4 hr4
 go_upto_region 5 with fail
 clear c0
 have HW4:=Lib.hid (HW.out.later B4.out)
 have HR4:=Lib.hid (HR.out.later B4.out)
 refine wp_region_held_drew (S:=fun _=>True) (by kernel_rfl) (trivial) (fun hHeld=>?_)
 have HX0:=Lib.hid (HW4.out.later (Below.refl _ _).drew)
 have HB0:=Lib.hid (B4.out.trans ((Below.refl _ _).drew.mono B4.out.size))
 have HRX0:=Lib.hid (HR4.out.later (Below.refl _ _).drew)
 generalize w4.drew=x0 at *
 refine tK 0 ?_
 refine tK 1 ?_
 refine tK 2 ?_
 refine tK 4 ?_
 refine tQ 5 ?_ ?_ ?_
 rotate_left
 ·intro w' hSw
  refine Eq.trans (b:=Result.ok (Next.value (.agg #[.slice rp rn rc,.bool false])) w') ?_ ?_
  ·apply op_buildN (t:=85) (parts:= #[(0,.tmp 30)])
   ·rfl
   ·simp only [List.map_toArray,List.map_cons,List.map_nil]
    exact ent_built0 _ _ _
  ·with_reducible rfl
 refine tQ 6 ?_ ?_ ?_
 rotate_left
 ·intro w' hSw
  refine Eq.trans (b:=Result.ok (Next.value (.agg kd0.cells.toArray)) w') ?_ ?_
  ·apply op_buildN (t:=34) (parts:= #[])
   ·rfl
   ·simp only [List.map_toArray,List.map_nil]
    exact kd0_built
  ·with_reducible rfl
 refine tQ 7 ?_ ?_ ?_
 rotate_left
 ·intro w' hSw
  refine Eq.trans (b:=Result.ok (Next.value (.agg kd0.cells.toArray)) w') ?_ ?_
  ·apply op_buildN (t:=34) (parts:= #[])
   ·rfl
   ·simp only [List.map_toArray,List.map_nil]
    exact kd0_built
  ·with_reducible rfl
 refine rY [3,8] ?_
 refine rC (fun K hK=>?_) (rC (fun K hK=>?_) AllReadyH.nil)
 ·
  have cbw:x0.cell? ⟨bw,0,none⟩=some v:=cell_of_row x0 bw 0 _ _ _ HX0.out.box
  go_simp
  refine hK.out _ _ trivial (fun hHeld=>?_)
  clear hK K
  try simp only [Act.put,sA,sZ,sS]
  refine rY [8] ?_
  refine rC (fun K hK=>?_) AllReadyH.nil
  go_simp
  refine (fork_any ⟨rp,rn,rc,rR⟩ false kd0 kd0 x0 HRX0.out (kd0_ok _) (kd0_ok _)).mono ?_
  rintro _ x1 ⟨ge,gk,rfl,hE,hK,hb,he,hk,hge,hgk⟩
  have HX1:=Lib.hid (HX0.out.later hb)
  have HB1:=Lib.hid (HB0.out.trans (hb.mono HB0.out.size))
  have HRX1:=Lib.hid (HRX0.out.later hb)
  have HM:=Lib.hid (show (MSt.mk kd0 ge 1 gk 2 ⟨rp,rn,rc,rR⟩ false kd0 kd0 false).Ok x1 from mst_fork he hk (by omega) HRX1.out (fun z hz hR=>by have:=rw_lt HRX0.out z hz hR;omega))
  have HGE:=Lib.hid (show x0.heap.size≤ge∧ge<gk from ⟨hge,hgk⟩)
  have HGEW:=Lib.hid (show w.heap.size≤ge∧w.heap.size≤gk by have:=HB0.out.size;omega)
  clear hE hK hb he hk hge hgk
  try go_wp2_with fail
  refine hK.out _ _ trivial (fun hHeld=>?_)
  clear hK K
  try simp only [Act.put,sA,sZ,sS]
  refine tQ 9 ?_ ?_ ?_
  rotate_left
  ·intro w' hSw
   refine Eq.trans (b:=Result.ok (Next.value (.agg (MSt.mk kd0 ge 1 gk 2 ⟨rp,rn,rc,rR⟩ false kd0 kd0 false).cells.toArray)) w') ?_ ?_
   ·apply op_buildN (t:=101) (parts:= #[(1,.tmp 34)])
    ·rfl
    ·simp only [List.map_toArray,List.map_cons,List.map_nil]
     exact sp_built0 _ _ _ _
   ·with_reducible rfl
  refine rY [10] ?_
  refine rC (fun K hK=>?_) AllReadyH.nil
  refine wp_step_one (.tmp 35) (by rfl) (m:=MSt.mk kd0 ge 1 gk 2 ⟨rp,rn,rc,rR⟩ false kd0 kd0 false) (by simp [kd0,zeros]) (by rfl) ?_
  refine hK.out _ _ trivial (fun hHeld=>?_)
  clear hK K
  try simp only [Act.put,sA,sZ,sS]
  refine rY [11] ?_
  refine rC (fun K hK=>?_) AllReadyH.nil
  refine wp_app_step HX1.out (m:=MSt.mk kd0 ge 1 gk 2 ⟨rp,rn,rc,rR⟩ false kd0 kd0 false) (by simp [kd0,zeros]) (.tmp 29) (.tmp 36) (by rfl) (by rfl) (by rfl) HA.out ?_
  intro q7 c7 w7 hown7 hg7 hat7
  refine hK.out _ _ trivial (fun hHeld=>?_)
  clear hK K
  try simp only [Act.put,sA,sZ,sS]
  have HFK:=HB0.out.size
  obtain ⟨hws,honly,hbox⟩:=way_put HX1.out HM.out (by have:=HBB.out;have:=HB1.out.size;omega) hown7 hg7 hat7 (HX1.out.way.snoc HM.out (N:=x0.heap.size) (by have:=HBB.out;omega) (fun a ha k hk=>by have:=(HX0.out.way.each a ha).lt k hk;omega) (by have:=HGE.out;exact ⟨this.1,Nat.le_trans this.1 (Nat.le_of_lt this.2)⟩) (fun a ha k hk=>mst_nil_reads hk (fun e=>by have:=(HX0.out.way.each a ha).lt _ (Or.inl rfl);have:=(HX0.out.way.each a ha).lt _ (Or.inr (Or.inl rfl));have:=HGE.out;omega) (fun y hy hR=>(HAS.out y hy hR).2.2 a ha))) (fun k hk=>mst_nil_reads2 hk (fun e=>⟨fun e2=>by have:=(Array.getElem?_eq_some_iff.1 HX0.out.box).1;have:=HGE.out;omega,fun e2=>by have:=(HX0.out.own.lt _ e2).2;have:=HGE.out;omega⟩) (fun y hy hR=>⟨(HAS.out y hy hR).1,(HAS.out y hy hR).2.1⟩))
  have HWS:=Lib.hid hws
  have HON:=Lib.hid honly
  have HBX:=Lib.hid hbox
  have HAT:=Lib.hid hat7
  clear hws honly hbox hown7 hg7 hat7 HFK
  refine tK 12 ?_
  refine rY [13] ?_
  refine rC (fun K hK=>?_) AllReadyH.nil
  have cbw:w7.cell? ⟨bw,0,none⟩=some v:=cell_of_row w7 bw 0 _ _ _ HBX.out
  have fbw:=frozen_of_row w7 bw 0 _ _ HBX.out
  go_simp
  refine hK.out _ _ trivial (fun hHeld=>?_)
  clear hK K
  try simp only [Act.put,sA,sZ,sS]
  refine wpAnyH_done (by kernel_rfl) ?_ _
  generalize w7.setCell ⟨bw,0,none⟩ (.slice q7 (A.length+1) c7)=w8 at *
  go_wp2_with fail
  go_ret2
  refine ⟨rfl,_,_,HWS.out,⟨rfl,rfl,rfl,rfl,rfl,rfl⟩,(Only.of_below _ HB1.out).trans HON.out,?_,HGEW.out.1,HGEW.out.2,far_nil HGEW.out⟩
  rcases HAT.out with h | h
  ·exact Or.inl h
  ·exact Or.inr ⟨_,h,by have:=HB1.out.size;omega⟩
 ·
  go_simp
  refine (fork_any ⟨rp,rn,rc,rR⟩ false kd0 kd0 x0 HRX0.out (kd0_ok _) (kd0_ok _)).mono ?_
  rintro _ x1 ⟨ge,gk,rfl,hE,hK,hb,he,hk,hge,hgk⟩
  have HX1:=Lib.hid (HX0.out.later hb)
  have HB1:=Lib.hid (HB0.out.trans (hb.mono HB0.out.size))
  have HRX1:=Lib.hid (HRX0.out.later hb)
  have HM:=Lib.hid (show (MSt.mk kd0 ge 1 gk 2 ⟨rp,rn,rc,rR⟩ false kd0 kd0 false).Ok x1 from mst_fork he hk (by omega) HRX1.out (fun z hz hR=>by have:=rw_lt HRX0.out z hz hR;omega))
  have HGE:=Lib.hid (show x0.heap.size≤ge∧ge<gk from ⟨hge,hgk⟩)
  have HGEW:=Lib.hid (show w.heap.size≤ge∧w.heap.size≤gk by have:=HB0.out.size;omega)
  clear hE hK hb he hk hge hgk
  try go_wp2_with fail
  refine hK.out _ _ trivial (fun hHeld=>?_)
  clear hK K
  try simp only [Act.put,sA,sZ,sS]
  refine tQ 9 ?_ ?_ ?_
  rotate_left
  ·intro w' hSw
   refine Eq.trans (b:=Result.ok (Next.value (.agg (MSt.mk kd0 ge 1 gk 2 ⟨rp,rn,rc,rR⟩ false kd0 kd0 false).cells.toArray)) w') ?_ ?_
   ·apply op_buildN (t:=101) (parts:= #[(1,.tmp 34)])
    ·rfl
    ·simp only [List.map_toArray,List.map_cons,List.map_nil]
     exact sp_built0 _ _ _ _
   ·with_reducible rfl
  refine rY [3,10] ?_
  refine rC (fun K hK=>?_) (rC (fun K hK=>?_) AllReadyH.nil)
  ·
   have cbw:x1.cell? ⟨bw,0,none⟩=some v:=cell_of_row x1 bw 0 _ _ _ HX1.out.box
   go_simp
   refine hK.out _ _ trivial (fun hHeld=>?_)
   clear hK K
   try simp only [Act.put,sA,sZ,sS]
   refine rY [10] ?_
   refine rC (fun K hK=>?_) AllReadyH.nil
   refine wp_step_one (.tmp 35) (by rfl) (m:=MSt.mk kd0 ge 1 gk 2 ⟨rp,rn,rc,rR⟩ false kd0 kd0 false) (by simp [kd0,zeros]) (by rfl) ?_
   refine hK.out _ _ trivial (fun hHeld=>?_)
   clear hK K
   try simp only [Act.put,sA,sZ,sS]
   refine rY [11] ?_
   refine rC (fun K hK=>?_) AllReadyH.nil
   refine wp_app_step HX1.out (m:=MSt.mk kd0 ge 1 gk 2 ⟨rp,rn,rc,rR⟩ false kd0 kd0 false) (by simp [kd0,zeros]) (.tmp 29) (.tmp 36) (by rfl) (by rfl) (by rfl) HA.out ?_
   intro q7 c7 w7 hown7 hg7 hat7
   refine hK.out _ _ trivial (fun hHeld=>?_)
   clear hK K
   try simp only [Act.put,sA,sZ,sS]
   have HFK:=HB0.out.size
   obtain ⟨hws,honly,hbox⟩:=way_put HX1.out HM.out (by have:=HBB.out;have:=HB1.out.size;omega) hown7 hg7 hat7 (HX1.out.way.snoc HM.out (N:=x0.heap.size) (by have:=HBB.out;omega) (fun a ha k hk=>by have:=(HX0.out.way.each a ha).lt k hk;omega) (by have:=HGE.out;exact ⟨this.1,Nat.le_trans this.1 (Nat.le_of_lt this.2)⟩) (fun a ha k hk=>mst_nil_reads hk (fun e=>by have:=(HX0.out.way.each a ha).lt _ (Or.inl rfl);have:=(HX0.out.way.each a ha).lt _ (Or.inr (Or.inl rfl));have:=HGE.out;omega) (fun y hy hR=>(HAS.out y hy hR).2.2 a ha))) (fun k hk=>mst_nil_reads2 hk (fun e=>⟨fun e2=>by have:=(Array.getElem?_eq_some_iff.1 HX0.out.box).1;have:=HGE.out;omega,fun e2=>by have:=(HX0.out.own.lt _ e2).2;have:=HGE.out;omega⟩) (fun y hy hR=>⟨(HAS.out y hy hR).1,(HAS.out y hy hR).2.1⟩))
   have HWS:=Lib.hid hws
   have HON:=Lib.hid honly
   have HBX:=Lib.hid hbox
   have HAT:=Lib.hid hat7
   clear hws honly hbox hown7 hg7 hat7 HFK
   refine tK 12 ?_
   refine rY [13] ?_
   refine rC (fun K hK=>?_) AllReadyH.nil
   have cbw:w7.cell? ⟨bw,0,none⟩=some v:=cell_of_row w7 bw 0 _ _ _ HBX.out
   have fbw:=frozen_of_row w7 bw 0 _ _ HBX.out
   go_simp
   refine hK.out _ _ trivial (fun hHeld=>?_)
   clear hK K
   try simp only [Act.put,sA,sZ,sS]
   refine wpAnyH_done (by kernel_rfl) ?_ _
   generalize w7.setCell ⟨bw,0,none⟩ (.slice q7 (A.length+1) c7)=w8 at *
   go_wp2_with fail
   go_ret2
   refine ⟨rfl,_,_,HWS.out,⟨rfl,rfl,rfl,rfl,rfl,rfl⟩,(Only.of_below _ HB1.out).trans HON.out,?_,HGEW.out.1,HGEW.out.2,far_nil HGEW.out⟩
   rcases HAT.out with h | h
   ·exact Or.inl h
   ·exact Or.inr ⟨_,h,by have:=HB1.out.size;omega⟩
  ·
   refine wp_step_one (.tmp 35) (by rfl) (m:=MSt.mk kd0 ge 1 gk 2 ⟨rp,rn,rc,rR⟩ false kd0 kd0 false) (by simp [kd0,zeros]) (by rfl) ?_
   refine hK.out _ _ trivial (fun hHeld=>?_)
   clear hK K
   try simp only [Act.put,sA,sZ,sS]
   refine rY [3] ?_
   refine rC (fun K hK=>?_) AllReadyH.nil
   have cbw:(x1.alloc (.cells (MSt.mk kd0 ge 1 gk 2 ⟨rp,rn,rc,rR⟩ false kd0 kd0 false).cells.toArray 101)).cell? ⟨bw,0,none⟩=some v:=cell_of_row _ bw 0 _ _ _ (HX1.out.later ((Below.refl _ _).alloc (Nat.le_refl _) _)).box
   go_simp
   refine hK.out _ _ trivial (fun hHeld=>?_)
   clear hK K
   try simp only [Act.put,sA,sZ,sS]
   refine rY [11] ?_
   refine rC (fun K hK=>?_) AllReadyH.nil
   refine wp_app_step HX1.out (m:=MSt.mk kd0 ge 1 gk 2 ⟨rp,rn,rc,rR⟩ false kd0 kd0 false) (by simp [kd0,zeros]) (.tmp 29) (.tmp 36) (by rfl) (by rfl) (by rfl) HA.out ?_
   intro q7 c7 w7 hown7 hg7 hat7
   refine hK.out _ _ trivial (fun hHeld=>?_)
   clear hK K
   try simp only [Act.put,sA,sZ,sS]
   have HFK:=HB0.out.size
   obtain ⟨hws,honly,hbox⟩:=way_put HX1.out HM.out (by have:=HBB.out;have:=HB1.out.size;omega) hown7 hg7 hat7 (HX1.out.way.snoc HM.out (N:=x0.heap.size) (by have:=HBB.out;omega) (fun a ha k hk=>by have:=(HX0.out.way.each a ha).lt k hk;omega) (by have:=HGE.out;exact ⟨this.1,Nat.le_trans this.1 (Nat.le_of_lt this.2)⟩) (fun a ha k hk=>mst_nil_reads hk (fun e=>by have:=(HX0.out.way.each a ha).lt _ (Or.inl rfl);have:=(HX0.out.way.each a ha).lt _ (Or.inr (Or.inl rfl));have:=HGE.out;omega) (fun y hy hR=>(HAS.out y hy hR).2.2 a ha))) (fun k hk=>mst_nil_reads2 hk (fun e=>⟨fun e2=>by have:=(Array.getElem?_eq_some_iff.1 HX0.out.box).1;have:=HGE.out;omega,fun e2=>by have:=(HX0.out.own.lt _ e2).2;have:=HGE.out;omega⟩) (fun y hy hR=>⟨(HAS.out y hy hR).1,(HAS.out y hy hR).2.1⟩))
   have HWS:=Lib.hid hws
   have HON:=Lib.hid honly
   have HBX:=Lib.hid hbox
   have HAT:=Lib.hid hat7
   clear hws honly hbox hown7 hg7 hat7 HFK
   refine tK 12 ?_
   refine rY [13] ?_
   refine rC (fun K hK=>?_) AllReadyH.nil
   have cbw:w7.cell? ⟨bw,0,none⟩=some v:=cell_of_row w7 bw 0 _ _ _ HBX.out
   have fbw:=frozen_of_row w7 bw 0 _ _ HBX.out
   go_simp
   refine hK.out _ _ trivial (fun hHeld=>?_)
   clear hK K
   try simp only [Act.put,sA,sZ,sS]
   refine wpAnyH_done (by kernel_rfl) ?_ _
   generalize w7.setCell ⟨bw,0,none⟩ (.slice q7 (A.length+1) c7)=w8 at *
   go_wp2_with fail
   go_ret2
   refine ⟨rfl,_,_,HWS.out,⟨rfl,rfl,rfl,rfl,rfl,rfl⟩,(Only.of_below _ HB1.out).trans HON.out,?_,HGEW.out.1,HGEW.out.2,far_nil HGEW.out⟩
   rcases HAT.out with h | h
   ·exact Or.inl h
   ·exact Or.inr ⟨_,h,by have:=HB1.out.size;omega⟩
end Go.Proofs.YtinihaflmdihaaaGreat.Kt
