/- NlTally. -/
import Derived.BigRegion
import Derived.Test.YtinihaflmdihaaaGreatW1
import Derived.Test.YtinihaflmdihaaaGreatW10
import Derived.Test.YtinihaflmdihaaaGreatW14
set_option maxRecDepth 100000
set_option maxHeartbeats 8000000
set_option linter.unusedVariables false
set_option linter.unusedSimpArgs false
namespace Go.Proofs.YtinihaflmdihaaaGreat.Nd
open Go.RowKit Go.Proofs.YtinihaflmdihaaaGreat.Dk
open List renaming setIfInBounds_toArray → sA, set_cons_zero → sZ, set_cons_succ → sS
def Fsh (w:World) (kd:Kd):Prop:=∀r∈kd.rows,∀x,r.p=some x→r.R≠[]→w.heap.size≤x.block
theorem Fsh.start {w:World} {x:Int} {r:Rw} {B:Nat} {w':World} (h:FrRw w' B r) (hB:w.heap.size≤B):Fsh w ⟨zeros 32,⟨none,0,0,[]⟩,⟨none,0,0,[]⟩,0,x,r⟩:=fun r' hr' y hy hR=>by
 simp only [Kd.rows,List.mem_cons,List.not_mem_nil,or_false] at hr'
 rcases hr' with rfl | rfl | rfl
 ·exact absurd rfl hR
 ·exact absurd rfl hR
 ·exact Nat.le_trans hB (h.lo y hy hR)
theorem Fsh.box {w w':World} {kd:Kd} {l z:Int} {r1 r2:Rw} {B:Nat} (h:Fsh w kd) (h1:FrRw w' B r1) (h2:FrRw w' B r2) (hB:w.heap.size≤B):Fsh w {kd with live:=l,size:=z,lo:=r1,hi:=r2}:=fun r' hr' y hy hR=>by
 simp only [Kd.rows,List.mem_cons,List.not_mem_nil,or_false] at hr'
 rcases hr' with rfl | rfl | rfl
 ·exact Nat.le_trans hB (h1.lo y hy hR)
 ·exact Nat.le_trans hB (h2.lo y hy hR)
 ·exact h _ (by simp [Kd.rows]) y hy hR
def Ta1 (w:World) (gn kind:Nat) (p:Option Addr) (n c:Nat) (q:Option Addr) (m f gr gx:Nat) (L:List PE) (KR:List Int) (i:Value) (wr:World):Prop:=
 ∃(k:Nat) (kd:Kd),k≤n∧i= .int .i64 k∧TaSt w wr gn kind p n c q m f gr gx kd∧kd.pk=⟨zeros 32,(boxR (L.take k)).1,(boxR (L.take k)).2,liveR (L.take k),n,KR⟩∧Fsh w kd
def Ta2 (w:World) (gn kind:Nat) (p:Option Addr) (n c:Nat) (q:Option Addr) (m f gr gx:Nat) (b:List Int×List Int) (lv:Int) (L:List PK) (KR:List Int) (i:Value) (wr:World):Prop:=
 ∃(k:Nat) (kd:Kd),k≤m∧i= .int .i64 k∧TaSt w wr gn kind p n c q m f gr gx kd∧kd.pk=⟨zeros 32,((L.take k).foldl boxK b).1,((L.take k).foldl boxK b).2,lv+((L.take k).map PK.live).sum,n+((L.take k).map PK.size).sum,KR⟩∧Fsh w kd
def TallyPost (w:World) (T:PK) (e:Ending) (w':World):Prop:=∃kd:Kd,e= .returned (.agg kd.cells.toArray)∧kd.pk=T∧kd.Ok w'∧Fsh w kd∧Below w.heap.size w w'
theorem part_self {R:List Int} {n:Nat} (h:n=R.length):part (fun k=>R.getD k 0) n n=R:=by
 subst h
 apply List.ext_getElem
 ·simp [part]
 ·intro i h1 h2
  simp [part,List.getD_eq_getElem?_getD,h2]
theorem In64.nat {x:Nat} (h:x≤9223372036854775807):In64 (x:Int):=⟨by omega,by omega⟩
theorem tally_any (kind:Nat) (p:Option Addr) (n c:Nat) (q:Option Addr) (m f:Nat) (E:List En) (K:List Kd) (d:Int) (w:World) (hE:EntsIn w p n c E) (hK:KidsIn w q m f K) (hr:(pnOf kind E K).right d=true):
  Calls Tryz.prog 206 #[.agg #[.int .u8 kind,.slice p n c,.slice q m f]] w (TallyPost w (pnOf kind E K).tally):=by
 have hb1:Below w.heap.size w (w.alloc (.cells #[.int .u8 kind,.slice p n c,.slice q m f] 81)):=(Below.refl _ _).alloc (Nat.le_refl _) _
 have hn1:=NodeAt.start w kind p n c q m f
 have z1:(w.alloc (.cells #[.int .u8 kind,.slice p n c,.slice q m f] 81)).heap.size=w.heap.size+1:=by simp
 have hft:=PN.fit hr
 obtain ⟨hd,hrow,hkid,-⟩:=PN.kinds hr
 have hn4:n≤4:=by have:=hft.rows;simp only [pnOf,List.length_map] at this;rw [hE.size];exact this
 have hm4:m≤4:=by have:=hft.kids;simp only [pnOf,List.length_map] at this;rw [hK.size];exact this
 have HROW:=Lib.hid (show ∀e∈E,(e.row.R.length:Int)=d from fun e he=>hrow _ (List.mem_map.2 ⟨e,he,rfl⟩))
 have HKID:=Lib.hid (show ∀k∈K,(0≤k.live∧k.live≤1048576)∧(0≤k.size∧k.size≤1048576) from fun k hk=>by
  have h:=right_kid (hkid _ (List.mem_map.2 ⟨k,hk,rfl⟩))
  exact ⟨h.1,h.2.1⟩)
 have HKEY:=Lib.hid (fun w1 (h:Below w.heap.size w w1)=>key_any kind p n c q m f E K d w1 (hE.later h) (hK.later h) hr)
 have htl:(pnOf kind E K).tally=⟨zeros 32,((K.map Kd.pk).foldl boxK (boxR (E.map En.pe))).1,((K.map Kd.pk).foldl boxK (boxR (E.map En.pe))).2,liveR (E.map En.pe)+((K.map Kd.pk).map PK.live).sum,n+((K.map Kd.pk).map PK.size).sum,(pnOf kind E K).keyOf⟩:=by
  unfold PN.tally PN.box PN.live PN.size pnOf
  simp only [List.length_map]
  rw [← hE.size]
 obtain ⟨T,hT⟩:∃T,(pnOf kind E K).tally=T:=⟨_,rfl⟩
 rw [hT] at htl ⊢
 generalize (pnOf kind E K).keyOf=KR at *
 have HTL:=Lib.hid htl
 have HD:=Lib.hid hd
 have HN4:=Lib.hid hn4
 have HM4:=Lib.hid hm4
 have HE:=Lib.hid hE
 have HK:=Lib.hid hK
 have HES:=Lib.hid hE.size
 have HKS:=Lib.hid hK.size
 obtain ⟨du,hdu,hdr⟩:=UKd
 have HDU:=Lib.hid hdu
 have HDR:=Lib.hid hdr
 have HZ:=Lib.hid (zero_of_info kz)
 clear hE hK hr hft hrow hkid htl hT hd hn4 hm4 hdu hdr
 have hz0:=HZ.out.1
 go_enter Tryz.func206,Tryz.ntmps206
 go_upto_region 1 with fail
 have hb2:Below (w.heap.size+1) (w.alloc (.cells #[.int .u8 kind,.slice p n c,.slice q m f] 81)) ((w.alloc (.cells #[.int .u8 kind,.slice p n c,.slice q m f] 81)).alloc (.cells kd0.cells.toArray 34)):=(Below.refl _ _).alloc (by omega) _
 have r2:=heap_alloc_new (w.alloc (.cells #[.int .u8 kind,.slice p n c,.slice q m f] 81)) (.cells kd0.cells.toArray 34)
 rw [z1] at r2
 have z2:((w.alloc (.cells #[.int .u8 kind,.slice p n c,.slice q m f] 81)).alloc (.cells kd0.cells.toArray 34)).heap.size=w.heap.size+2:=by simp
 have HN2:=Lib.hid (hn1.later (by rw [z1];exact hb2))
 have HB2:=Lib.hid (hb1.trans (hb2.mono (by omega)))
 have HR2:=Lib.hid r2
 have HZ2:=Lib.hid z2
 clear hb1 hn1 z1 hb2 r2 z2
 generalize (w.alloc (.cells #[.int .u8 kind,.slice p n c,.slice q m f] 81)).alloc (.cells kd0.cells.toArray 34)=w2 at *
 go_cut [3] (fun v3 wx=>∃(gx:Nat) (r5:Rw),v3= .pointer (some ⟨gx,0,none⟩)∧r5.R=KR∧TaSt w wx w.heap.size kind p n c q m f (w.heap.size+1) gx ⟨zeros 32,⟨none,0,0,[]⟩,⟨none,0,0,[]⟩,0,n,r5⟩∧Fsh w ⟨zeros 32,⟨none,0,0,[]⟩,⟨none,0,0,[]⟩,0,n,r5⟩)
 case first=>
  refine wp_region_held_drew (S:=fun w'=>NodeAt w' w.heap.size kind p n c q m f) (by kernel_rfl) (HN2.out.later (Below.refl _ _).drew) (fun hHeld=>?_)
  refine tK 0 ?_
  refine tQ 1 ?_ ?_ ?_
  rotate_left
  ·intro w' hSw
   obtain ⟨t0,t1,t2⟩:=hSw.cells
   go_simp
   try with_reducible rfl
  refine tK 2 ?_
  refine tQ 3 ?_ ?_ ?_
  rotate_left
  ·intro w' hSw
   obtain ⟨t0,t1,t2⟩:=hSw.cells
   go_simp
   try with_reducible rfl
  refine rY [4,6] ?_
  refine rC (fun K hK=>?_) (rC (fun K hK=>?_) AllReadyH.nil)
  ·
   go_simp
   have hbw:Below w2.heap.size w2 w2.drew:=(Below.refl _ _).drew
   refine (HKEY.out w2.drew (HB2.out.trans (hbw.mono HB2.out.size))).mono ?_
   rintro _ w5 ⟨r5,rfl,hr5,hf5,b5⟩
   have HR5:=Lib.hid hr5
   have HF5:=Lib.hid hf5
   have hb25:Below w2.heap.size w2 w5:=hbw.trans (b5.mono hbw.size)
   have HB5:=Lib.hid hb25
   have HN5:=Lib.hid (HN2.out.later hb25)
   have HRS5:=Lib.hid ((hb25.block _ (Array.getElem?_eq_some_iff.1 HR2.out).1).trans HR2.out)
   clear hr5 hf5 b5 hb25 hbw
   unfold Rw.val
   try go_wp2_with fail
   refine hK.out _ _ HN5.out (fun hHeld=>?_)
   clear hK K
   try simp only [Act.put,sA,sZ,sS]
   refine tQ 5 ?_ ?_ ?_
   rotate_left
   ·intro w' hSw
    refine Eq.trans (b:=Result.ok (Next.value (.agg (⟨zeros 32,⟨none,0,0,[]⟩,⟨none,0,0,[]⟩,0,n,r5⟩:Kd).cells.toArray)) w') ?_ ?_
    ·apply op_buildN (t:=34) (parts:= #[(3,.tmp 10),(4,.tmp 12)])
     ·rfl
     ·simp only [List.map_toArray,List.map_cons,List.map_nil]
      exact kd_built n r5.p r5.n r5.c r5.R
    ·with_reducible rfl
   refine rY [6] ?_
   refine rC (fun K hK=>?_) AllReadyH.nil
   go_simp
   have hba:Below w5.heap.size w5 (w5.alloc (.cells kd0.cells.toArray 34)):=(Below.refl _ _).alloc (Nat.le_refl _) _
   have HNA:=Lib.hid (HN5.out.later hba)
   have HRA:=Lib.hid ((hba.block _ (Array.getElem?_eq_some_iff.1 HRS5.out).1).trans HRS5.out)
   have HXA:=Lib.hid (heap_alloc_new w5 (.cells kd0.cells.toArray 34))
   have HBA:=Lib.hid (HB5.out.trans (hba.mono HB5.out.size))
   have HFA:=Lib.hid (HF5.out.later hba)
   clear hba
   try go_wp2_with fail
   refine hK.out _ _ HNA.out (fun hHeld=>?_)
   clear hK K
   try simp only [Act.put,sA,sZ,sS]
   refine rY [7] ?_
   refine rC (fun K hK=>?_) AllReadyH.nil
   refine wp_store_row 34 (.tmp 3) (.tmp 13) (by rfl) w5.heap.size (⟨zeros 32,⟨none,0,0,[]⟩,⟨none,0,0,[]⟩,0,n,r5⟩:Kd).cells.toArray (by rfl) (by rfl) _ _ HXA.out (by rw [List.size_toArray,kdN_len];exact SKd) (by rw [List.size_toArray,List.size_toArray,kd0_size,kdN_len]) (all_oneCell_toArray Kd.one) ?_
   have HTS:=Lib.hid (ta_start (w0:=w) (gr:=w.heap.size+1) (x:=n) HNA.out HRA.out HXA.out ⟨HFA.out.ok,(fun x hx hR=>by have:=HF5.out.lt x hx hR;omega),HFA.out.away (by have:=HZ2.out;have:=HB5.out.size;simp;omega)⟩ (HB2.out.trans (HBA.out.mono HB2.out.size)) ⟨Nat.le_refl _,by omega,by have:=HB2.out.size;have:=HB5.out.size;omega⟩ ⟨by have:=HZ2.out;have:=HB5.out.size;omega,by have:=HZ2.out;have:=HB5.out.size;omega,by omega⟩ (In64.nat (by have:=HN4.out;omega)))
   refine hK.out _ _ HTS.out.node (fun hHeld=>?_)
   clear hK K
   try simp only [Act.put]
   refine wpAnyH_done (by kernel_rfl) ?_ _
   go_wp2_with fail
   go_meet
   exact ⟨w5.heap.size,r5,rfl,HR5.out,HTS.out,Fsh.start HF5.out (by have:=HB2.out.size;simp;omega)⟩
  ·
   go_simp
   have hba:Below w2.drew.heap.size w2.drew (w2.drew.alloc (.cells kd0.cells.toArray 34)):=(Below.refl _ _).alloc (Nat.le_refl _) _
   have HBA:=Lib.hid (show Below w2.heap.size w2 (w2.drew.alloc (.cells kd0.cells.toArray 34)) from (Below.refl w2.heap.size w2).drew.trans hba)
   have HNA:=Lib.hid (HN2.out.later HBA.out)
   have HXA:=Lib.hid (show (w2.drew.alloc (.cells kd0.cells.toArray 34)).heap[w2.heap.size]? =some (.cells kd0.cells.toArray 34 (0,0)) from heap_alloc_new w2.drew (.cells kd0.cells.toArray 34))
   clear hba
   try go_wp2_with fail
   refine hK.out _ _ HNA.out (fun hHeld=>?_)
   clear hK K
   try simp only [Act.put,sA,sZ,sS]
   refine rY [4] ?_
   refine rC (fun K hK=>?_) AllReadyH.nil
   go_simp
   have hbw:Below w2.heap.size w2 (w2.drew.alloc (.cells kd0.cells.toArray 34)):=HBA.out
   refine (HKEY.out (w2.drew.alloc (.cells kd0.cells.toArray 34)) (HB2.out.trans (hbw.mono HB2.out.size))).mono ?_
   rintro _ w5 ⟨r5,rfl,hr5,hf5,b5⟩
   have HR5:=Lib.hid hr5
   have HF5:=Lib.hid hf5
   have hb25:Below w2.heap.size w2 w5:=hbw.trans (b5.mono hbw.size)
   have HB5:=Lib.hid hb25
   have HN5:=Lib.hid (HN2.out.later hb25)
   have HRS5:=Lib.hid ((hb25.block _ (Array.getElem?_eq_some_iff.1 HR2.out).1).trans HR2.out)
   have HX5:=Lib.hid ((b5.block _ (by simp)).trans HXA.out)
   clear hr5 hf5 b5 hb25 hbw
   unfold Rw.val
   try go_wp2_with fail
   refine hK.out _ _ HN5.out (fun hHeld=>?_)
   clear hK K
   try simp only [Act.put,sA,sZ,sS]
   refine tQ 5 ?_ ?_ ?_
   rotate_left
   ·intro w' hSw
    refine Eq.trans (b:=Result.ok (Next.value (.agg (⟨zeros 32,⟨none,0,0,[]⟩,⟨none,0,0,[]⟩,0,n,r5⟩:Kd).cells.toArray)) w') ?_ ?_
    ·apply op_buildN (t:=34) (parts:= #[(3,.tmp 10),(4,.tmp 12)])
     ·rfl
     ·simp only [List.map_toArray,List.map_cons,List.map_nil]
      exact kd_built n r5.p r5.n r5.c r5.R
    ·with_reducible rfl
   refine rY [7] ?_
   refine rC (fun K hK=>?_) AllReadyH.nil
   refine wp_store_row 34 (.tmp 3) (.tmp 13) (by rfl) w2.heap.size (⟨zeros 32,⟨none,0,0,[]⟩,⟨none,0,0,[]⟩,0,n,r5⟩:Kd).cells.toArray (by rfl) (by rfl) _ _ HX5.out (by rw [List.size_toArray,kdN_len];exact SKd) (by rw [List.size_toArray,List.size_toArray,kd0_size,kdN_len]) (all_oneCell_toArray Kd.one) ?_
   have HTS:=Lib.hid (ta_start (w0:=w) (gr:=w.heap.size+1) (x:=n) HN5.out HRS5.out HX5.out ⟨HF5.out.ok,(HF5.out.away (by simp)),HF5.out.away (by have:=HZ2.out;have:=HB5.out.size;simp;omega)⟩ (HB2.out.trans (HB5.out.mono HB2.out.size)) ⟨Nat.le_refl _,by omega,by have:=HB2.out.size;have:=HB5.out.size;omega⟩ ⟨by have:=HZ2.out;have:=HB5.out.size;omega,by have:=HZ2.out;have:=HB5.out.size;omega,by omega⟩ (In64.nat (by have:=HN4.out;omega)))
   refine hK.out _ _ HTS.out.node (fun hHeld=>?_)
   clear hK K
   try simp only [Act.put]
   refine wpAnyH_done (by kernel_rfl) ?_ _
   go_wp2_with fail
   go_meet
   exact ⟨w2.heap.size,r5,rfl,HR5.out,HTS.out,Fsh.start HF5.out (by have:=HB2.out.size;simp;omega)⟩
 case rest=>
  obtain ⟨gx,r5,rfl,hr5,hst,hfs⟩:=hcut
  have HFS:=Lib.hid hfs
  obtain ⟨wx,hwx⟩:∃w3,w3=wc:=⟨_,rfl⟩
  rw [← hwx] at hst ⊢
  clear hwx HR2 HB2 HN2 HZ2
  clear w2
  obtain ⟨t0,t1,t2⟩:=hst.node.cells
  have HST:=Lib.hid hst
  have HPK0:=Lib.hid (show (⟨zeros 32,⟨none,0,0,[]⟩,⟨none,0,0,[]⟩,0,n,r5⟩:Kd).pk=⟨zeros 32,(boxR ((E.map En.pe).take 0)).1,(boxR ((E.map En.pe).take 0)).2,liveR ((E.map En.pe).take 0),n,KR⟩ from by rw [← hr5];rfl)
  clear hst hr5 hfs
  go_wp2_with fail
  go_loopw [17] (fun i wr=>Ta1 w w.heap.size kind p n c q m f (w.heap.size+1) gx (E.map En.pe) KR i wr) (fun i _=>n - (intOf i).toNat)
  case atStart=>exact ⟨0,_,by omega,rfl,HST.out,HPK0.out,HFS.out⟩
  case round=>
   obtain ⟨k,kd,hk,rfl,hst,hpk,hfs⟩:=hrel
   have FS:=Lib.hid hfs
   have ST:=Lib.hid hst
   have PKS:=Lib.hid hpk
   have hn4:=HN4.out
   clear hst hpk hfs HFS HST HPK0 t0 t1 t2
   by_cases hlt:k<n
   ·obtain ⟨g,o,rfl,c1,c2,hok⟩:=HE.out.get k hlt
    have c1:=(ST.out.low.cell (block_lt_of_cell c1)).trans c1
    have c2:=(ST.out.low.cell (block_lt_of_cell c2)).trans c2
    have i1:(0:Int)≤k∧(k:Int)<n:=by omega
    have hlen:k<E.length:=by rw [← HES.out];exact hlt
    have hlenm:k<(E.map En.pe).length:=by rw [List.length_map];exact hlen
    have HTB:=Lib.hid (show boxR ((E.map En.pe).take (k+1))=boxE (boxR ((E.map En.pe).take k)) (E.getD k default).pe from by
     unfold boxR
     rw [take_fold boxE _ _ _ hlenm,map_getD En.pe E k hlen])
    have HTS:=Lib.hid (show liveR ((E.map En.pe).take (k+1))=liveR ((E.map En.pe).take k)+(if (E.getD k default).pe.live then (1:Int) else 0) from by
     unfold liveR
     rw [take_sum _ _ _ hlenm,map_getD En.pe E k hlen])
    have hdl:=HROW.out _ (getD_mem E k hlen)
    have hll:=live_le ((E.map En.pe).take k)
    have hlk:((E.map En.pe).take k).length≤4:=by rw [List.length_take];omega
    generalize E.getD k default=e at *
    have HOK:=Lib.hid hok
    have HDL:=Lib.hid hdl
    have he8:e.row.n≤8∧1≤e.row.n:=by have:=hok.ints.size;have:=HD.out;omega
    have HE8:=Lib.hid he8
    unfold Rw.val at c1
    clear hok hdl he8
    go_upto_region 5 with fail
    obtain ⟨z0,z1⟩:=pair_alloc wr (.slice e.row.p e.row.n e.row.c) (.bool e.live) 85
    have hba:Below wr.heap.size wr (wr.alloc (.cells #[.slice e.row.p e.row.n e.row.c,.bool e.live] 85)):=(Below.refl _ _).alloc (Nat.le_refl _) _
    have SA:=Lib.hid (ST.out.later hba)
    have HGE:=Lib.hid (show wr.heap.size≠gx from fun e=>by have:=(Array.getElem?_eq_some_iff.1 ST.out.row).1;omega)
    generalize wr.alloc (.cells #[.slice e.row.p e.row.n e.row.c,.bool e.live] 85)=wa at *
    generalize wr.heap.size=ge at *
    clear hba c1 c2 ST
    cases hlv:e.live with
    | false=>
     rw [hlv] at z1
     have HP1:=Lib.hid (show kd.pk=⟨zeros 32,(boxR ((E.map En.pe).take (k+1))).1,(boxR ((E.map En.pe).take (k+1))).2,liveR ((E.map En.pe).take (k+1)),n,KR⟩ from by
      rw [HTB.out,HTS.out,PKS.out]
      simp [boxE,En.pe,hlv])
     clear hlv
     go_wp2_with fail
     go_roundw
     case rel=>exact ⟨k+1,kd,by omega,by go_num,SA.out,HP1.out,FS.out⟩
     case measure=>simp [intOf];omega
    | true=>
     rw [hlv] at z1
     have hkl:kd.live=liveR ((E.map En.pe).take k):=congrArg PK.live PKS.out
     obtain ⟨lv,hlvn⟩:∃lv:Nat,kd.live=lv:=⟨kd.live.toNat,by omega⟩
     have hlv4:lv≤4:=by omega
     have hlo:kd.lo.R=(boxR ((E.map En.pe).take k)).1:=congrArg PK.lo PKS.out
     have hhi:kd.hi.R=(boxR ((E.map En.pe).take k)).2:=congrArg PK.hi PKS.out
     have HP1:=Lib.hid (show ∀r1 r2:Rw,r1.R=(hull (kd.lo.R,kd.hi.R) (e.row.R,e.row.R)).1→r2.R=(hull (kd.lo.R,kd.hi.R) (e.row.R,e.row.R)).2→({kd with live:=(lv:Int)+1,lo:=r1,hi:=r2}:Kd).pk=⟨zeros 32,(boxR ((E.map En.pe).take (k+1))).1,(boxR ((E.map En.pe).take (k+1))).2,liveR ((E.map En.pe).take (k+1)),n,KR⟩ from fun r1 r2 e1 e2=>by
      rw [HTB.out,HTS.out,← hkl,hlvn]
      have e3:boxE (boxR ((E.map En.pe).take k)) e.pe=hull (kd.lo.R,kd.hi.R) (e.row.R,e.row.R):=by
       unfold boxE
       rw [show e.pe.live=true from hlv,if_pos rfl,hlo,hhi]
       rfl
      rw [e3,← e1,← e2]
      have e4:=PKS.out
      simp only [Kd.pk,PK.mk.injEq] at e4 ⊢
      simp only [show e.pe.live=true from hlv,if_true,true_and]
      exact ⟨e4.1,e4.2.2.2.2⟩)
     have c34:=SA.out.cell.live
     rw [Nat.zero_add,hlvn] at c34
     have f34:=frozen_of_row wa gx 34 _ _ SA.out.row
     clear hlv hkl hlvn hlo hhi hll hlk
     go_upto_region 7 with fail
     have SB:=Lib.hid (SA.out.setLive ((lv:Int)+1) ⟨by omega,by omega⟩)
     have z0:=(World.cell?_of_block (w:=wa) (w':=wa.setCell ⟨gx,34,none⟩ (.int .i64 ((lv:Int)+1))) (a:=⟨ge,0,none⟩) (heap_setCell_other _ _ _ _ HGE.out)).trans z0
     generalize wa.setCell ⟨gx,34,none⟩ (.int .i64 ((lv:Int)+1))=wb at *
     clear z1 c34 f34 SA
     have Z0:=Lib.hid z0
     clear z0
     refine wp_region_held_drew (S:=fun w'=>w'.cell? ⟨ge,0,none⟩=some (.slice e.row.p e.row.n e.row.c)) (by kernel_rfl) (show wb.drew.cell? ⟨ge,0,none⟩=_ from Z0.out) (fun hHeld=>?_)
     refine tK 0 ?_
     refine tK 2 ?_
     refine tQ 3 ?_ ?_ ?_
     rotate_left
     ·intro w' hSw
      have z0:=hSw
      go_simp
      try with_reducible rfl
     refine rY [1,4] ?_
     refine rC (fun K hK=>?_) (rC (fun K hK=>?_) AllReadyH.nil)
     ·
      have b0:wb.drew.cell? ⟨gx,32,none⟩=some (.slice kd.lo.p kd.lo.n kd.lo.c):=by have h9:=(SB.out.later (Below.refl _ _).drew).cell.lo;rw [Nat.zero_add] at h9;exact h9
      have b1:wb.drew.cell? ⟨gx,33,none⟩=some (.slice kd.hi.p kd.hi.n kd.hi.c):=by have h9:=(SB.out.later (Below.refl _ _).drew).cell.hi;rw [Nat.zero_add] at h9;exact h9
      go_simp
      refine hK.out _ _ hHeld (fun hHeld=>?_)
      clear hK K
      try simp only [Act.put,sA,sZ,sS]
      refine rY [4] ?_
      refine rC (fun K hK=>?_) AllReadyH.nil
      go_simp
      refine (of_any e.row.p e.row.n e.row.c e.row.R ⟨HE8.out.2,HE8.out.1⟩ wb.drew ((HOK.out.later (SB.out.low.trans ((Below.refl _ _).drew.mono SB.out.low.size))).ints)).mono ?_
      rintro _ w7 ⟨v7,rfl,g1,g2,rfl,i1',i2',b7⟩
      have hle:=HOK.out.ints.size
      rw [part_self hle] at i1' i2'
      have I1:=Lib.hid i1'
      have I2:=Lib.hid i2'
      have hb7:Below wb.heap.size wb w7:=(Below.refl wb.heap.size wb).drew.trans b7
      have S7:=Lib.hid (SB.out.later hb7)
      have HZ7:=Lib.hid ((hb7.cell (block_lt_of_cell Z0.out)).trans Z0.out)
      clear i1' i2' b7 hle hb7
      try go_wp2_with fail
      refine hK.out _ _ HZ7.out (fun hHeld=>?_)
      clear hK K
      try simp only [Act.put,sA,sZ,sS]
      refine rY [5] ?_
      refine rC (fun K hK=>?_) AllReadyH.nil
      go_simp
      refine (lhull_any kd.lo.p kd.hi.p (some ⟨g1,0,none⟩) (some ⟨g2,0,none⟩) kd.lo.n kd.lo.c kd.hi.n kd.hi.c e.row.n e.row.n e.row.n e.row.n kd.lo.R kd.hi.R e.row.R e.row.R w7 S7.out.ok.lo.ints S7.out.ok.hi.ints I1.out I2.out).mono ?_
      rintro _ w8 ⟨v8,rfl,r1,r2,rfl,e1,e2,fr1,fr2,b8⟩
      have HE1:=Lib.hid e1
      have HE2:=Lib.hid e2
      have F1:=Lib.hid fr1
      have F2:=Lib.hid fr2
      have S8:=Lib.hid (S7.out.later b8)
      have HZ8:=Lib.hid ((b8.cell (block_lt_of_cell HZ7.out)).trans HZ7.out)
      have HLT:=Lib.hid (show gx<w7.heap.size∧w.heap.size+1<w7.heap.size from ⟨(Array.getElem?_eq_some_iff.1 S7.out.row).1,(Array.getElem?_eq_some_iff.1 S7.out.res).1⟩)
      clear e1 e2 fr1 fr2 b8
      try go_wp2_with fail
      refine hK.out _ _ HZ8.out (fun hHeld=>?_)
      clear hK K
      try simp only [Act.put,sA,sZ,sS]
      refine tK 6 ?_
      refine rY [7] ?_
      refine rC (fun K hK=>?_) AllReadyH.nil
      refine wp_store_mid 32 (.tmp 33) (.tmp 32) (by rfl) gx 32 #[r1.val,r2.val] (by rfl) (by rfl) (kd_there2 S8.out.row S8.out.ok.len r1 r2) IBx (box_one r1 r2) ?_
      have S9:=Lib.hid (S8.out.setBox (r1:=r1) (r2:=r2) ⟨F1.out.ok,F1.out.away HLT.out.1,F1.out.away HLT.out.2⟩ ⟨F2.out.ok,F2.out.away HLT.out.1,F2.out.away HLT.out.2⟩)
      have HZ9:=Lib.hid ((World.cell?_of_block (w:=w8) (a:=⟨ge,0,none⟩) (heap_setCells_other gx [r1.val,r2.val] 32 w8 ge HGE.out)).trans HZ8.out)
      refine hK.out _ _ HZ9.out (fun hHeld=>?_)
      clear hK K
      try simp only [Act.put]
      refine wpAnyH_done (by kernel_rfl) ?_ _
      have HP2:=Lib.hid (HP1.out r1 r2 HE1.out HE2.out)
      have S9':=S9.out
      clear S9 HZ9 hHeld
      have S9:=Lib.hid S9'
      clear S9'
      generalize w8.setCells gx 32 [r1.val,r2.val]=w9 at *
      go_wp2_with fail
      go_roundw
      case rel=>exact ⟨k+1,_,by omega,by go_num,S9.out,HP2.out,FS.out.box F1.out F2.out (by have:=S7.out.low.size;omega)⟩
      case measure=>simp [intOf];omega
     ·
      go_simp
      refine (of_any e.row.p e.row.n e.row.c e.row.R ⟨HE8.out.2,HE8.out.1⟩ wb.drew ((HOK.out.later (SB.out.low.trans ((Below.refl _ _).drew.mono SB.out.low.size))).ints)).mono ?_
      rintro _ w7 ⟨v7,rfl,g1,g2,rfl,i1',i2',b7⟩
      have hle:=HOK.out.ints.size
      rw [part_self hle] at i1' i2'
      have I1:=Lib.hid i1'
      have I2:=Lib.hid i2'
      have hb7:Below wb.heap.size wb w7:=(Below.refl wb.heap.size wb).drew.trans b7
      have S7:=Lib.hid (SB.out.later hb7)
      have HZ7:=Lib.hid ((hb7.cell (block_lt_of_cell Z0.out)).trans Z0.out)
      clear i1' i2' b7 hle hb7
      try go_wp2_with fail
      refine hK.out _ _ HZ7.out (fun hHeld=>?_)
      clear hK K
      try simp only [Act.put,sA,sZ,sS]
      refine rY [1] ?_
      refine rC (fun K hK=>?_) AllReadyH.nil
      have b0:w7.cell? ⟨gx,32,none⟩=some (.slice kd.lo.p kd.lo.n kd.lo.c):=by have h9:=S7.out.cell.lo;rw [Nat.zero_add] at h9;exact h9
      have b1:w7.cell? ⟨gx,33,none⟩=some (.slice kd.hi.p kd.hi.n kd.hi.c):=by have h9:=S7.out.cell.hi;rw [Nat.zero_add] at h9;exact h9
      go_simp
      refine hK.out _ _ HZ7.out (fun hHeld=>?_)
      clear hK K
      try simp only [Act.put,sA,sZ,sS]
      refine rY [5] ?_
      refine rC (fun K hK=>?_) AllReadyH.nil
      go_simp
      refine (lhull_any kd.lo.p kd.hi.p (some ⟨g1,0,none⟩) (some ⟨g2,0,none⟩) kd.lo.n kd.lo.c kd.hi.n kd.hi.c e.row.n e.row.n e.row.n e.row.n kd.lo.R kd.hi.R e.row.R e.row.R w7 S7.out.ok.lo.ints S7.out.ok.hi.ints I1.out I2.out).mono ?_
      rintro _ w8 ⟨v8,rfl,r1,r2,rfl,e1,e2,fr1,fr2,b8⟩
      have HE1:=Lib.hid e1
      have HE2:=Lib.hid e2
      have F1:=Lib.hid fr1
      have F2:=Lib.hid fr2
      have S8:=Lib.hid (S7.out.later b8)
      have HZ8:=Lib.hid ((b8.cell (block_lt_of_cell HZ7.out)).trans HZ7.out)
      have HLT:=Lib.hid (show gx<w7.heap.size∧w.heap.size+1<w7.heap.size from ⟨(Array.getElem?_eq_some_iff.1 S7.out.row).1,(Array.getElem?_eq_some_iff.1 S7.out.res).1⟩)
      clear e1 e2 fr1 fr2 b8
      try go_wp2_with fail
      refine hK.out _ _ HZ8.out (fun hHeld=>?_)
      clear hK K
      try simp only [Act.put,sA,sZ,sS]
      refine tK 6 ?_
      refine rY [7] ?_
      refine rC (fun K hK=>?_) AllReadyH.nil
      refine wp_store_mid 32 (.tmp 33) (.tmp 32) (by rfl) gx 32 #[r1.val,r2.val] (by rfl) (by rfl) (kd_there2 S8.out.row S8.out.ok.len r1 r2) IBx (box_one r1 r2) ?_
      have S9:=Lib.hid (S8.out.setBox (r1:=r1) (r2:=r2) ⟨F1.out.ok,F1.out.away HLT.out.1,F1.out.away HLT.out.2⟩ ⟨F2.out.ok,F2.out.away HLT.out.1,F2.out.away HLT.out.2⟩)
      have HZ9:=Lib.hid ((World.cell?_of_block (w:=w8) (a:=⟨ge,0,none⟩) (heap_setCells_other gx [r1.val,r2.val] 32 w8 ge HGE.out)).trans HZ8.out)
      refine hK.out _ _ HZ9.out (fun hHeld=>?_)
      clear hK K
      try simp only [Act.put]
      refine wpAnyH_done (by kernel_rfl) ?_ _
      have HP2:=Lib.hid (HP1.out r1 r2 HE1.out HE2.out)
      have S9':=S9.out
      clear S9 HZ9 hHeld
      have S9:=Lib.hid S9'
      clear S9'
      generalize w8.setCells gx 32 [r1.val,r2.val]=w9 at *
      go_wp2_with fail
      go_roundw
      case rel=>exact ⟨k+1,_,by omega,by go_num,S9.out,HP2.out,FS.out.box F1.out F2.out (by have:=S7.out.low.size;omega)⟩
      case measure=>simp [intOf];omega
   ·obtain rfl:n=k:=by omega
    have e0:(E.map En.pe).take n=E.map En.pe:=List.take_of_length_le (by rw [List.length_map,HES.out];exact Nat.le_refl _)
    rw [e0] at PKS
    have hlvE:=live_le (E.map En.pe)
    rw [List.length_map,← HES.out] at hlvE
    generalize boxR (E.map En.pe)=b0 at *
    generalize liveR (E.map En.pe)=lv0 at *
    have HLV:=Lib.hid hlvE
    obtain ⟨t0,t1,t2⟩:=ST.out.node.cells
    have HPK0:=Lib.hid (show kd.pk=⟨zeros 32,(((K.map Kd.pk).take 0).foldl boxK b0).1,(((K.map Kd.pk).take 0).foldl boxK b0).2,lv0+(((K.map Kd.pk).take 0).map PK.live).sum,n+(((K.map Kd.pk).take 0).map PK.size).sum,KR⟩ from by
     rw [PKS.out]
     simp)
    clear e0 hlt hk hlvE PKS
    go_wp2_with fail
    go_loopw [38] (fun i wr=>Ta2 w w.heap.size kind p n c q m f (w.heap.size+1) gx b0 lv0 (K.map Kd.pk) KR i wr) (fun i _=>m - (intOf i).toNat)
    case atStart=>exact ⟨0,kd,by omega,rfl,ST.out,HPK0.out,FS.out⟩
    case round=>
     obtain ⟨k,kd2,hk,rfl,hst,hpk,hfs⟩:=hrel
     have FS2:=Lib.hid hfs
     have S2:=Lib.hid hst
     have PKS:=Lib.hid hpk
     have hm4:=HM4.out
     clear hst hpk hfs FS ST HPK0 t0 t1 t2
     by_cases hlt:k<m
     ·obtain ⟨g,o,rfl,hrg,hok⟩:=HK.out.get k hlt
      have i1:(0:Int)≤k∧(k:Int)<m:=by omega
      have hlen:k<K.length:=by rw [← HKS.out];exact hlt
      have hlenm:k<(K.map Kd.pk).length:=by rw [List.length_map];exact hlen
      have HTB:=Lib.hid (show ((K.map Kd.pk).take (k+1)).foldl boxK b0=boxK (((K.map Kd.pk).take k).foldl boxK b0) (K.getD k default).pk from by
       rw [take_fold boxK _ _ _ hlenm,map_getD Kd.pk K k hlen])
      have HTV:=Lib.hid (show (((K.map Kd.pk).take (k+1)).map PK.live).sum=(((K.map Kd.pk).take k).map PK.live).sum+(K.getD k default).live from by
       rw [take_sum PK.live _ _ hlenm,map_getD Kd.pk K k hlen]
       rfl)
      have HTZ:=Lib.hid (show (((K.map Kd.pk).take (k+1)).map PK.size).sum=(((K.map Kd.pk).take k).map PK.size).sum+(K.getD k default).size from by
       rw [take_sum PK.size _ _ hlenm,map_getD Kd.pk K k hlen]
       rfl)
      have hkb:=HKID.out _ (getD_mem K k hlen)
      have hall:∀x∈(K.map Kd.pk).take k,(0≤x.live∧x.live≤1048576)∧(0≤x.size∧x.size≤1048576):=fun x hx=>by
       obtain ⟨y,hy,rfl⟩:=List.mem_map.1 (List.mem_of_mem_take hx)
       exact HKID.out y hy
      have hs1:=sum_le PK.live 1048576 _ (fun x hx=>(hall x hx).1)
      have hs2:=sum_le PK.size 1048576 _ (fun x hx=>(hall x hx).2)
      have hlk:((K.map Kd.pk).take k).length≤4:=by rw [List.length_take];omega
      have hlv0:=HLV.out
      have hn4:=HN4.out
      have hvl:kd2.live=lv0+(((K.map Kd.pk).take k).map PK.live).sum:=congrArg PK.live PKS.out
      have hvz:kd2.size=n+(((K.map Kd.pk).take k).map PK.size).sum:=congrArg PK.size PKS.out
      have hlo:kd2.lo.R=(((K.map Kd.pk).take k).foldl boxK b0).1:=congrArg PK.lo PKS.out
      have hhi:kd2.hi.R=(((K.map Kd.pk).take k).foldl boxK b0).2:=congrArg PK.hi PKS.out
      generalize K.getD k default=e at *
      obtain ⟨a1,ha1⟩:∃a1:Nat,kd2.live=a1:=⟨kd2.live.toNat,by omega⟩
      obtain ⟨a2,ha2⟩:∃a2:Nat,e.live=a2:=⟨e.live.toNat,by omega⟩
      obtain ⟨a3,ha3⟩:∃a3:Nat,kd2.size=a3:=⟨kd2.size.toNat,by omega⟩
      obtain ⟨a4,ha4⟩:∃a4:Nat,e.size=a4:=⟨e.size.toNat,by omega⟩
      have hq1:a1+a2≤100000000:=by omega
      have hq2:a3+a4≤100000000:=by omega
      have HP1:=Lib.hid (show ∀r1 r2:Rw,r1.R=(hull (kd2.lo.R,kd2.hi.R) (e.lo.R,e.hi.R)).1→r2.R=(hull (kd2.lo.R,kd2.hi.R) (e.lo.R,e.hi.R)).2→({kd2 with live:=(a1:Int)+a2,size:=(a3:Int)+a4,lo:=r1,hi:=r2}:Kd).pk=⟨zeros 32,(((K.map Kd.pk).take (k+1)).foldl boxK b0).1,(((K.map Kd.pk).take (k+1)).foldl boxK b0).2,lv0+(((K.map Kd.pk).take (k+1)).map PK.live).sum,n+(((K.map Kd.pk).take (k+1)).map PK.size).sum,KR⟩ from fun r1 r2 e1 e2=>by
       rw [HTB.out,HTV.out,HTZ.out]
       have e3:boxK (((K.map Kd.pk).take k).foldl boxK b0) e.pk=hull (kd2.lo.R,kd2.hi.R) (e.lo.R,e.hi.R):=by
        unfold boxK
        rw [hlo,hhi]
        rfl
       rw [e3,← e1,← e2]
       have e4:=PKS.out
       simp only [Kd.pk,PK.mk.injEq] at e4 ⊢
       refine ⟨e4.1,trivial,trivial,?_,?_,e4.2.2.2.2.2⟩
       ·rw [← ha1,← ha2];omega
       ·rw [← ha3,← ha4];omega)
      have HR:=Lib.hid (range_later hrg S2.out.low)
      have HOK:=Lib.hid hok
      have HCL:=Lib.hid (Kd.cells_length hok.len)
      have HA1:=Lib.hid ha1
      have HA2:=Lib.hid ha2
      have HA3:=Lib.hid ha3
      have HA4:=Lib.hid ha4
      have hz0:=HZ.out.1
      clear hrg hok ha1 ha2 ha3 ha4 hvl hvz hlo hhi hs1 hs2 hlk hlv0 hkb hall
      go_upto_region 12 with (first
       | (refine wpList_load_mid (by rfl) 34 _ (by rfl) g (o+k*37) (by rfl) e.cells du HR.out HDU.out HDR.out (by rw [HCL.out];exact SKd) ?_)
       | (refine wpList_store_row (by rfl) 34 (.tmp 7) (.tmp 41) (by rfl) wr.heap.size e.cells.toArray (by rfl) (by rfl) _ _ (heap_alloc_new wr _) (by rw [List.size_toArray,HCL.out];exact SKd) (by simp only [List.size_toArray,HCL.out,kd0_size]) (all_oneCell_toArray Kd.one) ?_;rw [setRow_alloc]))
      have hrx:=heap_alloc_new wr (.cells e.cells.toArray 34)
      have SA:=Lib.hid (S2.out.later (show Below wr.heap.size wr (wr.alloc (.cells e.cells.toArray 34)) from (Below.refl _ _).alloc (Nat.le_refl _) _))
      have HGB:=Lib.hid (show wr.heap.size≠gx from fun e=>by have:=(Array.getElem?_eq_some_iff.1 S2.out.row).1;omega)
      generalize wr.alloc (.cells e.cells.toArray 34)=wa at *
      generalize wr.heap.size=gb at *
      have RX:=Lib.hid hrx
      clear hrx hz0 S2
      have x1:=SA.out.cell.live
      have x2:=(kat_row RX.out HOK.out.len).live
      rw [Nat.zero_add,HA1.out] at x1
      rw [Nat.zero_add,HA2.out] at x2
      have f34:=frozen_of_row wa gx 34 _ _ SA.out.row
      go_upto_region 13 with fail
      have SB:=Lib.hid (SA.out.setLive ((a1:Int)+a2) ⟨by omega,by omega⟩)
      have RB:=Lib.hid ((show (wa.setCell ⟨gx,34,none⟩ (.int .i64 ((a1:Int)+a2))).heap[gb]? =wa.heap[gb]? from heap_setCell_other _ _ _ _ HGB.out).trans RX.out)
      generalize wa.setCell ⟨gx,34,none⟩ (.int .i64 ((a1:Int)+a2))=wb at *
      clear x1 x2 f34 SA RX
      have x1:=SB.out.cell.size
      have x2:=(kat_row RB.out HOK.out.len).size
      rw [Nat.zero_add] at x1
      rw [show ({kd2 with live:=(a1:Int)+a2}:Kd).size=(a3:Int) from HA3.out] at x1
      rw [Nat.zero_add,HA4.out] at x2
      have f35:=frozen_of_row wb gx 35 _ _ SB.out.row
      go_upto_region 14 with fail
      have SC:=Lib.hid (SB.out.setSize ((a3:Int)+a4) ⟨by omega,by omega⟩)
      have RC:=Lib.hid ((show (wb.setCell ⟨gx,35,none⟩ (.int .i64 ((a3:Int)+a4))).heap[gb]? =wb.heap[gb]? from heap_setCell_other _ _ _ _ HGB.out).trans RB.out)
      generalize wb.setCell ⟨gx,35,none⟩ (.int .i64 ((a3:Int)+a4))=wc at *
      clear x1 x2 f35 SB RB
      have x1:=SC.out.cell.lo
      have x2:=SC.out.cell.hi
      have x3:=(kat_row RC.out HOK.out.len).lo
      have x4:=(kat_row RC.out HOK.out.len).hi
      simp only [Nat.zero_add,Rw.val] at x1 x2 x3 x4
      have HOC:=Lib.hid (HOK.out.later SC.out.low)
      go_wp2_with (first
       | (go_at_call 244;refine (lhull_any kd2.lo.p kd2.hi.p e.lo.p e.hi.p kd2.lo.n kd2.lo.c kd2.hi.n kd2.hi.c e.lo.n e.lo.c e.hi.n e.hi.c kd2.lo.R kd2.hi.R e.lo.R e.hi.R wc SC.out.ok.lo.ints SC.out.ok.hi.ints HOC.out.lo.ints HOC.out.hi.ints).mono ?_;rintro _ w8 ⟨v8,rfl,r1,r2,rfl,e1,e2,fr1,fr2,b8⟩;have HP2:=Lib.hid (HP1.out r1 r2 e1 e2);have F1:=Lib.hid fr1;have F2:=Lib.hid fr2;have S8:=Lib.hid (SC.out.later b8);have HLT:=Lib.hid (show gx<wc.heap.size∧w.heap.size+1<wc.heap.size from ⟨(Array.getElem?_eq_some_iff.1 SC.out.row).1,(Array.getElem?_eq_some_iff.1 SC.out.res).1⟩);clear e1 e2 fr1 fr2 b8)
       | (refine wpList_store_mid (by rfl) 32 (.tmp 59) (.tmp 58) (by rfl) gx 32 #[r1.val,r2.val] (by rfl) (by rfl) (kd_there2 S8.out.row S8.out.ok.len r1 r2) IBx (box_one r1 r2) ?_;have S9:=Lib.hid (S8.out.setBox (r1:=r1) (r2:=r2) ⟨F1.out.ok,F1.out.away HLT.out.1,F1.out.away HLT.out.2⟩ ⟨F2.out.ok,F2.out.away HLT.out.1,F2.out.away HLT.out.2⟩)))
      go_roundw
      case rel=>exact ⟨k+1,_,by omega,by go_num,S9.out,HP2.out,FS2.out.box F1.out F2.out (by have:=SC.out.low.size;omega)⟩
      case measure=>simp [intOf];omega
     ·obtain rfl:m=k:=by omega
      have e0:(K.map Kd.pk).take m=K.map Kd.pk:=List.take_of_length_le (by rw [List.length_map,HKS.out];exact Nat.le_refl _)
      rw [e0,← HTL.out] at PKS
      have HCL:=Lib.hid (Kd.cells_length S2.out.ok.len)
      have HRR:=Lib.hid (range_kd S2.out.row)
      clear e0
      go_wp2_with (first
       | (refine wpList_load_mid (by rfl) 34 _ (by rfl) gx 0 (by rfl) kd2.cells du HRR.out HDU.out HDR.out (by rw [HCL.out];exact SKd) ?_)
       | (refine wpList_store_row (by rfl) 34 _ _ (by rfl) (w.heap.size+1) kd2.cells.toArray (by rfl) (by rfl) _ _ S2.out.res (by rw [List.size_toArray,HCL.out];exact SKd) (by simp only [List.size_toArray,HCL.out,kd0_size]) (all_oneCell_toArray Kd.one) ?_))
      have r9:=setRow_heap _ (w.heap.size+1) _ kd2.cells.toArray _ _ S2.out.res
      have hb9:Below (w.heap.size+1) wr (wr.setRow (w.heap.size+1) kd2.cells.toArray):=Below.setRow (Below.refl _ _) (Nat.le_refl _) _
      have hrw:∀r∈kd2.rows,r.Ok (wr.setRow (w.heap.size+1) kd2.cells.toArray):=fun r hr=>rw_keep (S2.out.rows r hr).1 (fun x hx hR=>setRow_other _ _ _ _ ((S2.out.rows r hr).2.2 x hx hR))
      refine ret_str 2 (by kernel_rfl) (w.heap.size+1) _ _ HDU.out HDR.out (by rw [List.size_toArray,HCL.out];exact SKd) (by rfl) r9 ⟨kd2,rfl,PKS.out,⟨S2.out.ok.len,S2.out.ok.ok,hrw _ (by simp [Kd.rows]),hrw _ (by simp [Kd.rows]),hrw _ (by simp [Kd.rows]),S2.out.ok.live,S2.out.ok.size⟩,FS2.out,S2.out.low.trans (hb9.mono (by omega))⟩
end Go.Proofs.YtinihaflmdihaaaGreat.Nd
