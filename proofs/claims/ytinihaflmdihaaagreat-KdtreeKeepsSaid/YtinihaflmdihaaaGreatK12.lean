/- NlTally, PgKey, PgPe, PgMap. -/
import Derived.BigRegion
import Derived.Maps.RangeWalk
import Derived.DeepKeys4
import Derived.Test.YtinihaflmdihaaaGreatK8
import Derived.Test.YtinihaflmdihaaaGreatK11
set_option maxRecDepth 100000
set_option maxHeartbeats 8000000
set_option linter.all false
namespace Go.Proofs.YtinihaflmdihaaaGreat.Nd
open Go.RowKit Go.Proofs.YtinihaflmdihaaaGreat.Dk
open List renaming setIfInBounds_toArray → yA, set_cons_zero → yB, set_cons_succ → yC
def Fsh (w:World) (kd:Kd):Prop:=∀r∈kd.rows,∀x,r.p=some x→r.R≠[]→w.heap.size≤x.block
theorem Fsh.start {w:World} {x:Int} {r:Rw} {B:Nat} {w':World} (h:FrRw w' B r) (hB:w.heap.size≤B):Fsh w ⟨zeros 32,⟨none,0,0,[]⟩,⟨none,0,0,[]⟩,0,x,r⟩:=fun r' hr' y hy hR=>by
 simp only [Kd.rows,List.mem_cons,List.not_mem_nil,or_false] at hr'
 rcases hr' with rfl | rfl | rfl
 ·exact absurd rfl hR
 ·exact absurd rfl hR
 ·exact Nat.le_trans hB (h.lo y hy hR)
theorem Fsh.box {w w':World} {kd:Kd} {l z:Int} {r1 r2:Rw} {B:Nat} (h:Fsh w kd) (h1:FrRw w' B r1) (h2:FrRw w' B r2) (hB:w.heap.size≤B):Fsh w {kd with live:=l,size:=z,lo:=r1,hi:=r2}:=fun r' hr' y hy hR=>by
 simp only [Kd.rows,List.mem_cons,List.not_mem_nil,or_false] at hr'
 rcases hr' with rfl | rfl | rfl
 ·exact Nat.le_trans hB (h1.lo y hy hR)
 ·exact Nat.le_trans hB (h2.lo y hy hR)
 ·exact h _ (by simp [Kd.rows]) y hy hR
def Ta1 (w:World) (gn kind:Nat) (p:Option Addr) (n c:Nat) (q:Option Addr) (m f gr gx:Nat) (L:List PE) (KR:List Int) (i:Value) (wr:World):Prop:=
 ∃(k:Nat) (kd:Kd),k≤n∧i= .int .i64 k∧TaSt w wr gn kind p n c q m f gr gx kd∧kd.pk=⟨zeros 32,(boxR (L.take k)).1,(boxR (L.take k)).2,liveR (L.take k),n,KR⟩∧Fsh w kd
def Ta2 (w:World) (gn kind:Nat) (p:Option Addr) (n c:Nat) (q:Option Addr) (m f gr gx:Nat) (b:List Int×List Int) (lv:Int) (L:List PK) (KR:List Int) (i:Value) (wr:World):Prop:=
 ∃(k:Nat) (kd:Kd),k≤m∧i= .int .i64 k∧TaSt w wr gn kind p n c q m f gr gx kd∧kd.pk=⟨zeros 32,((L.take k).foldl boxK b).1,((L.take k).foldl boxK b).2,lv+((L.take k).map PK.live).sum,n+((L.take k).map PK.size).sum,KR⟩∧Fsh w kd
def TallyPost (w:World) (T:PK) (e:Ending) (w':World):Prop:=∃kd:Kd,e= .returned (.agg kd.cells.toArray)∧kd.pk=T∧kd.Ok w'∧Fsh w kd∧Below w.heap.size w w'
theorem part_self {R:List Int} {n:Nat} (h:n=R.length):part (fun k=>R.getD k 0) n n=R:=by
 subst h
 apply List.ext_getElem
 ·simp [part]
 ·intro i h1 h2
  simp [part,List.getD_eq_getElem?_getD,h2]
theorem In64.nat {x:Nat} (h:x≤9223372036854775807):In64 (x:Int):=⟨by omega,by omega⟩
theorem tally_any (kind:Nat) (p:Option Addr) (n c:Nat) (q:Option Addr) (m f:Nat) (E:List En) (K:List Kd) (d:Int) (w:World) (hE:EntsIn w p n c E) (hK:KidsIn w q m f K) (hr:(pnOf kind E K).right d=true):
  Calls Tryz.prog 206 #[.agg #[.int .u8 kind,.slice p n c,.slice q m f]] w (TallyPost w (pnOf kind E K).tally):=by
 have hb1:Below w.heap.size w (w.alloc (.cells #[.int .u8 kind,.slice p n c,.slice q m f] 81)):=(Below.refl _ _).alloc (Nat.le_refl _) _
 have hn1:=NodeAt.start w kind p n c q m f
 have z1:(w.alloc (.cells #[.int .u8 kind,.slice p n c,.slice q m f] 81)).heap.size=w.heap.size+1:=by simp
 have hft:=PN.fit hr
 obtain ⟨hd,hrow,hkid,-⟩:=PN.kinds hr
 have hn4:n≤4:=by have:=hft.rows;simp only [pnOf,List.length_map] at this;rw [hE.size];exact this
 have hm4:m≤4:=by have:=hft.kids;simp only [pnOf,List.length_map] at this;rw [hK.size];exact this
 have HROW:=yH (show ∀e∈E,(e.row.R.length:Int)=d from fun e he=>hrow _ (List.mem_map.2 ⟨e,he,rfl⟩))
 have HKID:=yH (show ∀k∈K,(0≤k.live∧k.live≤1048576)∧(0≤k.size∧k.size≤1048576) from fun k hk=>by
  have h:=right_kid (hkid _ (List.mem_map.2 ⟨k,hk,rfl⟩))
  exact ⟨h.1,h.2.1⟩)
 have HKEY:=yH (fun w1 (h:Below w.heap.size w w1)=>key_any kind p n c q m f E K d w1 (hE.later h) (hK.later h) hr)
 have htl:(pnOf kind E K).tally=⟨zeros 32,((K.map Kd.pk).foldl boxK (boxR (E.map En.pe))).1,((K.map Kd.pk).foldl boxK (boxR (E.map En.pe))).2,liveR (E.map En.pe)+((K.map Kd.pk).map PK.live).sum,n+((K.map Kd.pk).map PK.size).sum,(pnOf kind E K).keyOf⟩:=by
  unfold PN.tally PN.box PN.live PN.size pnOf
  simp only [List.length_map]
  rw [← hE.size]
 obtain ⟨T,hT⟩:∃T,(pnOf kind E K).tally=T:=⟨_,rfl⟩
 rw [hT] at htl ⊢
 generalize (pnOf kind E K).keyOf=KR at *
 have HTL:=yH htl
 have HD:=yH hd
 have HN4:=yH hn4
 have HM4:=yH hm4
 have HE:=yH hE
 have HK:=yH hK
 have HES:=yH hE.size
 have HKS:=yH hK.size
 obtain ⟨du,hdu,hdr⟩:=UKd
 have HDU:=yH hdu
 have HDR:=yH hdr
 have HZ:=yH (zero_of_info kz)
 clear hE hK hr hft hrow hkid htl hT hd hn4 hm4 hdu hdr
 have hz0:=HZ.out.1
 go_enter Tryz.func206,Tryz.ntmps206
 go_upto_region 1 with fail
 have hb2:Below (w.heap.size+1) (w.alloc (.cells #[.int .u8 kind,.slice p n c,.slice q m f] 81)) ((w.alloc (.cells #[.int .u8 kind,.slice p n c,.slice q m f] 81)).alloc (.cells kd0.cells.toArray 34)):=(Below.refl _ _).alloc (by omega) _
 have r2:=heap_alloc_new (w.alloc (.cells #[.int .u8 kind,.slice p n c,.slice q m f] 81)) (.cells kd0.cells.toArray 34)
 rw [z1] at r2
 have z2:((w.alloc (.cells #[.int .u8 kind,.slice p n c,.slice q m f] 81)).alloc (.cells kd0.cells.toArray 34)).heap.size=w.heap.size+2:=by simp
 have HN2:=yH (hn1.later (by rw [z1];exact hb2))
 have HB2:=yH (hb1.trans (hb2.mono (by omega)))
 have HR2:=yH r2
 have HZ2:=yH z2
 clear hb1 hn1 z1 hb2 r2 z2
 generalize (w.alloc (.cells #[.int .u8 kind,.slice p n c,.slice q m f] 81)).alloc (.cells kd0.cells.toArray 34)=w2 at *
 go_cut [3] (fun v3 wx=>∃(gx:Nat) (r5:Rw),v3= .pointer (some ⟨gx,0,none⟩)∧r5.R=KR∧TaSt w wx w.heap.size kind p n c q m f (w.heap.size+1) gx ⟨zeros 32,⟨none,0,0,[]⟩,⟨none,0,0,[]⟩,0,n,r5⟩∧Fsh w ⟨zeros 32,⟨none,0,0,[]⟩,⟨none,0,0,[]⟩,0,n,r5⟩)
 case first=>
  refine wp_region_held_drew (S:=fun w'=>NodeAt w' w.heap.size kind p n c q m f) (by kernel_rfl) (HN2.out.later (Below.refl _ _).drew) (fun hHeld=>?_)
  refine tK 0 ?_
  refine tQ 1 ?_ ?_ ?_
  rotate_left
  ·intro w' hSw
   obtain ⟨t0,t1,t2⟩:=hSw.cells
   go_simp
   try with_reducible rfl
  refine tK 2 ?_
  refine tQ 3 ?_ ?_ ?_
  rotate_left
  ·intro w' hSw
   obtain ⟨t0,t1,t2⟩:=hSw.cells
   go_simp
   try with_reducible rfl
  refine rY [4,6] ?_
  refine rC (fun K hK=>?_) (rC (fun K hK=>?_) AllReadyH.nil)
  ·
   go_simp
   have hbw:Below w2.heap.size w2 w2.drew:=(Below.refl _ _).drew
   refine (HKEY.out w2.drew (HB2.out.trans (hbw.mono HB2.out.size))).mono ?_
   rintro _ w5 ⟨r5,rfl,hr5,hf5,b5⟩
   have HR5:=yH hr5
   have HF5:=yH hf5
   have hb25:Below w2.heap.size w2 w5:=hbw.trans (b5.mono hbw.size)
   have HB5:=yH hb25
   have HN5:=yH (HN2.out.later hb25)
   have HRS5:=yH ((hb25.block _ (yL HR2.out)).trans HR2.out)
   clear hr5 hf5 b5 hb25 hbw
   unfold Rw.val
   try go_wp2_with fail
   refine hK.out _ _ HN5.out (fun hHeld=>?_)
   clear hK K
   try simp only [Act.put,yA,yB,yC]
   refine tQ 5 ?_ ?_ ?_
   rotate_left
   ·intro w' hSw
    refine Eq.trans (b:=Result.ok (Next.value (.agg (⟨zeros 32,⟨none,0,0,[]⟩,⟨none,0,0,[]⟩,0,n,r5⟩:Kd).cells.toArray)) w') ?_ ?_
    ·apply op_buildN (t:=34) (parts:= #[(3,.tmp 10),(4,.tmp 12)])
     ·rfl
     ·simp only [List.map_toArray,List.map_cons,List.map_nil]
      exact kd_built n r5.p r5.n r5.c r5.R
    ·with_reducible rfl
   refine rY [6] ?_
   refine rC (fun K hK=>?_) AllReadyH.nil
   go_simp
   have hba:Below w5.heap.size w5 (w5.alloc (.cells kd0.cells.toArray 34)):=(Below.refl _ _).alloc (Nat.le_refl _) _
   have HNA:=yH (HN5.out.later hba)
   have HRA:=yH ((hba.block _ (yL HRS5.out)).trans HRS5.out)
   have HXA:=yH (heap_alloc_new w5 (.cells kd0.cells.toArray 34))
   have HBA:=yH (HB5.out.trans (hba.mono HB5.out.size))
   have HFA:=yH (HF5.out.later hba)
   clear hba
   try go_wp2_with fail
   refine hK.out _ _ HNA.out (fun hHeld=>?_)
   clear hK K
   try simp only [Act.put,yA,yB,yC]
   refine rY [7] ?_
   refine rC (fun K hK=>?_) AllReadyH.nil
   refine wp_store_row 34 (.tmp 3) (.tmp 13) (by rfl) w5.heap.size (⟨zeros 32,⟨none,0,0,[]⟩,⟨none,0,0,[]⟩,0,n,r5⟩:Kd).cells.toArray (by rfl) (by rfl) _ _ HXA.out (by rw [List.size_toArray,kdN_len];exact SKd) (by rw [List.size_toArray,List.size_toArray,kd0_size,kdN_len]) (all_oneCell_toArray Kd.one) ?_
   have HTS:=yH (ta_start (w0:=w) (gr:=w.heap.size+1) (x:=n) HNA.out HRA.out HXA.out ⟨HFA.out.ok,(fun x hx hR=>by have:=HF5.out.lt x hx hR;omega),HFA.out.away (by have:=HZ2.out;have:=HB5.out.size;simp;omega)⟩ (HB2.out.trans (HBA.out.mono HB2.out.size)) ⟨Nat.le_refl _,by omega,by have:=HB2.out.size;have:=HB5.out.size;omega⟩ ⟨by have:=HZ2.out;have:=HB5.out.size;omega,by have:=HZ2.out;have:=HB5.out.size;omega,by omega⟩ (In64.nat (by have:=HN4.out;omega)))
   refine hK.out _ _ HTS.out.node (fun hHeld=>?_)
   clear hK K
   try simp only [Act.put]
   refine wpAnyH_done (by kernel_rfl) ?_ _
   go_wp2_with fail
   go_meet
   exact ⟨w5.heap.size,r5,rfl,HR5.out,HTS.out,Fsh.start HF5.out (by have:=HB2.out.size;simp;omega)⟩
  ·
   go_simp
   have hba:Below w2.drew.heap.size w2.drew (w2.drew.alloc (.cells kd0.cells.toArray 34)):=(Below.refl _ _).alloc (Nat.le_refl _) _
   have HBA:=yH (show Below w2.heap.size w2 (w2.drew.alloc (.cells kd0.cells.toArray 34)) from (Below.refl w2.heap.size w2).drew.trans hba)
   have HNA:=yH (HN2.out.later HBA.out)
   have HXA:=yH (show (w2.drew.alloc (.cells kd0.cells.toArray 34)).heap[w2.heap.size]? =some (.cells kd0.cells.toArray 34 (0,0)) from heap_alloc_new w2.drew (.cells kd0.cells.toArray 34))
   clear hba
   try go_wp2_with fail
   refine hK.out _ _ HNA.out (fun hHeld=>?_)
   clear hK K
   try simp only [Act.put,yA,yB,yC]
   refine rY [4] ?_
   refine rC (fun K hK=>?_) AllReadyH.nil
   go_simp
   have hbw:Below w2.heap.size w2 (w2.drew.alloc (.cells kd0.cells.toArray 34)):=HBA.out
   refine (HKEY.out (w2.drew.alloc (.cells kd0.cells.toArray 34)) (HB2.out.trans (hbw.mono HB2.out.size))).mono ?_
   rintro _ w5 ⟨r5,rfl,hr5,hf5,b5⟩
   have HR5:=yH hr5
   have HF5:=yH hf5
   have hb25:Below w2.heap.size w2 w5:=hbw.trans (b5.mono hbw.size)
   have HB5:=yH hb25
   have HN5:=yH (HN2.out.later hb25)
   have HRS5:=yH ((hb25.block _ (yL HR2.out)).trans HR2.out)
   have HX5:=yH ((b5.block _ (by simp)).trans HXA.out)
   clear hr5 hf5 b5 hb25 hbw
   unfold Rw.val
   try go_wp2_with fail
   refine hK.out _ _ HN5.out (fun hHeld=>?_)
   clear hK K
   try simp only [Act.put,yA,yB,yC]
   refine tQ 5 ?_ ?_ ?_
   rotate_left
   ·intro w' hSw
    refine Eq.trans (b:=Result.ok (Next.value (.agg (⟨zeros 32,⟨none,0,0,[]⟩,⟨none,0,0,[]⟩,0,n,r5⟩:Kd).cells.toArray)) w') ?_ ?_
    ·apply op_buildN (t:=34) (parts:= #[(3,.tmp 10),(4,.tmp 12)])
     ·rfl
     ·simp only [List.map_toArray,List.map_cons,List.map_nil]
      exact kd_built n r5.p r5.n r5.c r5.R
    ·with_reducible rfl
   refine rY [7] ?_
   refine rC (fun K hK=>?_) AllReadyH.nil
   refine wp_store_row 34 (.tmp 3) (.tmp 13) (by rfl) w2.heap.size (⟨zeros 32,⟨none,0,0,[]⟩,⟨none,0,0,[]⟩,0,n,r5⟩:Kd).cells.toArray (by rfl) (by rfl) _ _ HX5.out (by rw [List.size_toArray,kdN_len];exact SKd) (by rw [List.size_toArray,List.size_toArray,kd0_size,kdN_len]) (all_oneCell_toArray Kd.one) ?_
   have HTS:=yH (ta_start (w0:=w) (gr:=w.heap.size+1) (x:=n) HN5.out HRS5.out HX5.out ⟨HF5.out.ok,(HF5.out.away (by simp)),HF5.out.away (by have:=HZ2.out;have:=HB5.out.size;simp;omega)⟩ (HB2.out.trans (HB5.out.mono HB2.out.size)) ⟨Nat.le_refl _,by omega,by have:=HB2.out.size;have:=HB5.out.size;omega⟩ ⟨by have:=HZ2.out;have:=HB5.out.size;omega,by have:=HZ2.out;have:=HB5.out.size;omega,by omega⟩ (In64.nat (by have:=HN4.out;omega)))
   refine hK.out _ _ HTS.out.node (fun hHeld=>?_)
   clear hK K
   try simp only [Act.put]
   refine wpAnyH_done (by kernel_rfl) ?_ _
   go_wp2_with fail
   go_meet
   exact ⟨w2.heap.size,r5,rfl,HR5.out,HTS.out,Fsh.start HF5.out (by have:=HB2.out.size;simp;omega)⟩
 case rest=>
  obtain ⟨gx,r5,rfl,hr5,hst,hfs⟩:=hcut
  have HFS:=yH hfs
  obtain ⟨wx,hwx⟩:∃w3,w3=wc:=⟨_,rfl⟩
  rw [← hwx] at hst ⊢
  clear hwx HR2 HB2 HN2 HZ2
  clear w2
  obtain ⟨t0,t1,t2⟩:=hst.node.cells
  have HST:=yH hst
  have HPK0:=yH (show (⟨zeros 32,⟨none,0,0,[]⟩,⟨none,0,0,[]⟩,0,n,r5⟩:Kd).pk=⟨zeros 32,(boxR ((E.map En.pe).take 0)).1,(boxR ((E.map En.pe).take 0)).2,liveR ((E.map En.pe).take 0),n,KR⟩ from by rw [← hr5];rfl)
  clear hst hr5 hfs
  go_wp2_with fail
  go_loopw [17] (fun i wr=>Ta1 w w.heap.size kind p n c q m f (w.heap.size+1) gx (E.map En.pe) KR i wr) (fun i _=>n - (intOf i).toNat)
  case atStart=>exact ⟨0,_,by omega,rfl,HST.out,HPK0.out,HFS.out⟩
  case round=>
   obtain ⟨k,kd,hk,rfl,hst,hpk,hfs⟩:=hrel
   have FS:=yH hfs
   have ST:=yH hst
   have PKS:=yH hpk
   have hn4:=HN4.out
   clear hst hpk hfs HFS HST HPK0 t0 t1 t2
   by_cases hlt:k<n
   ·obtain ⟨g,o,rfl,c1,c2,hok⟩:=HE.out.get k hlt
    have c1:=(ST.out.low.cell (block_lt_of_cell c1)).trans c1
    have c2:=(ST.out.low.cell (block_lt_of_cell c2)).trans c2
    have i1:(0:Int)≤k∧(k:Int)<n:=by omega
    have hlen:k<E.length:=by rw [← HES.out];exact hlt
    have hlenm:k<(E.map En.pe).length:=by rw [List.length_map];exact hlen
    have HTB:=yH (show boxR ((E.map En.pe).take (k+1))=boxE (boxR ((E.map En.pe).take k)) (E.getD k default).pe from by
     unfold boxR
     rw [take_fold boxE _ _ _ hlenm,map_getD En.pe E k hlen])
    have HTS:=yH (show liveR ((E.map En.pe).take (k+1))=liveR ((E.map En.pe).take k)+(if (E.getD k default).pe.live then (1:Int) else 0) from by
     unfold liveR
     rw [take_sum _ _ _ hlenm,map_getD En.pe E k hlen])
    have hdl:=HROW.out _ (getD_mem E k hlen)
    have hll:=live_le ((E.map En.pe).take k)
    have hlk:((E.map En.pe).take k).length≤4:=by rw [List.length_take];omega
    generalize E.getD k default=e at *
    have HOK:=yH hok
    have HDL:=yH hdl
    have he8:e.row.n≤8∧1≤e.row.n:=by have:=hok.ints.size;have:=HD.out;omega
    have HE8:=yH he8
    unfold Rw.val at c1
    clear hok hdl he8
    go_upto_region 5 with fail
    obtain ⟨z0,z1⟩:=pair_alloc wr (.slice e.row.p e.row.n e.row.c) (.bool e.live) 85
    have hba:Below wr.heap.size wr (wr.alloc (.cells #[.slice e.row.p e.row.n e.row.c,.bool e.live] 85)):=(Below.refl _ _).alloc (Nat.le_refl _) _
    have SA:=yH (ST.out.later hba)
    have HGE:=yH (show wr.heap.size≠gx from fun e=>by have:=(yL ST.out.row);omega)
    generalize wr.alloc (.cells #[.slice e.row.p e.row.n e.row.c,.bool e.live] 85)=wa at *
    generalize wr.heap.size=ge at *
    clear hba c1 c2 ST
    cases hlv:e.live with
    | false=>
     rw [hlv] at z1
     have HP1:=yH (show kd.pk=⟨zeros 32,(boxR ((E.map En.pe).take (k+1))).1,(boxR ((E.map En.pe).take (k+1))).2,liveR ((E.map En.pe).take (k+1)),n,KR⟩ from by
      rw [HTB.out,HTS.out,PKS.out]
      simp [boxE,En.pe,hlv])
     clear hlv
     go_wp2_with fail
     go_roundw
     case rel=>exact ⟨k+1,kd,by omega,by go_num,SA.out,HP1.out,FS.out⟩
     case measure=>simp [intOf];omega
    | true=>
     rw [hlv] at z1
     have hkl:kd.live=liveR ((E.map En.pe).take k):=congrArg PK.live PKS.out
     obtain ⟨lv,hlvn⟩:∃lv:Nat,kd.live=lv:=⟨kd.live.toNat,by omega⟩
     have hlv4:lv≤4:=by omega
     have hlo:kd.lo.R=(boxR ((E.map En.pe).take k)).1:=congrArg PK.lo PKS.out
     have hhi:kd.hi.R=(boxR ((E.map En.pe).take k)).2:=congrArg PK.hi PKS.out
     have HP1:=yH (show ∀r1 r2:Rw,r1.R=(hull (kd.lo.R,kd.hi.R) (e.row.R,e.row.R)).1→r2.R=(hull (kd.lo.R,kd.hi.R) (e.row.R,e.row.R)).2→({kd with live:=(lv:Int)+1,lo:=r1,hi:=r2}:Kd).pk=⟨zeros 32,(boxR ((E.map En.pe).take (k+1))).1,(boxR ((E.map En.pe).take (k+1))).2,liveR ((E.map En.pe).take (k+1)),n,KR⟩ from fun r1 r2 e1 e2=>by
      rw [HTB.out,HTS.out,← hkl,hlvn]
      have e3:boxE (boxR ((E.map En.pe).take k)) e.pe=hull (kd.lo.R,kd.hi.R) (e.row.R,e.row.R):=by
       unfold boxE
       rw [show e.pe.live=true from hlv,if_pos rfl,hlo,hhi]
       rfl
      rw [e3,← e1,← e2]
      have e4:=PKS.out
      simp only [Kd.pk,PK.mk.injEq] at e4 ⊢
      simp only [show e.pe.live=true from hlv,if_true,true_and]
      exact ⟨e4.1,e4.2.2.2.2⟩)
     have c34:=SA.out.cell.live
     rw [Nat.zero_add,hlvn] at c34
     have f34:=frozen_of_row wa gx 34 _ _ SA.out.row
     clear hlv hkl hlvn hlo hhi hll hlk
     go_upto_region 7 with fail
     have SB:=yH (SA.out.setLive ((lv:Int)+1) ⟨by omega,by omega⟩)
     have z0:=(World.cell?_of_block (w:=wa) (w':=wa.setCell ⟨gx,34,none⟩ (.int .i64 ((lv:Int)+1))) (a:=⟨ge,0,none⟩) (heap_setCell_other _ _ _ _ HGE.out)).trans z0
     generalize wa.setCell ⟨gx,34,none⟩ (.int .i64 ((lv:Int)+1))=wb at *
     clear z1 c34 f34 SA
     have Z0:=yH z0
     clear z0
     refine wp_region_held_drew (S:=fun w'=>w'.cell? ⟨ge,0,none⟩=some (.slice e.row.p e.row.n e.row.c)) (by kernel_rfl) (show wb.drew.cell? ⟨ge,0,none⟩=_ from Z0.out) (fun hHeld=>?_)
     refine tK 0 ?_
     refine tK 2 ?_
     refine tQ 3 ?_ ?_ ?_
     rotate_left
     ·intro w' hSw
      have z0:=hSw
      go_simp
      try with_reducible rfl
     refine rY [1,4] ?_
     refine rC (fun K hK=>?_) (rC (fun K hK=>?_) AllReadyH.nil)
     ·
      have b0:wb.drew.cell? ⟨gx,32,none⟩=some (.slice kd.lo.p kd.lo.n kd.lo.c):=by have h9:=(SB.out.later (Below.refl _ _).drew).cell.lo;rw [Nat.zero_add] at h9;exact h9
      have b1:wb.drew.cell? ⟨gx,33,none⟩=some (.slice kd.hi.p kd.hi.n kd.hi.c):=by have h9:=(SB.out.later (Below.refl _ _).drew).cell.hi;rw [Nat.zero_add] at h9;exact h9
      go_simp
      refine hK.out _ _ hHeld (fun hHeld=>?_)
      clear hK K
      try simp only [Act.put,yA,yB,yC]
      refine rY [4] ?_
      refine rC (fun K hK=>?_) AllReadyH.nil
      go_simp
      refine (of_any e.row.p e.row.n e.row.c e.row.R ⟨HE8.out.2,HE8.out.1⟩ wb.drew ((HOK.out.later (SB.out.low.trans ((Below.refl _ _).drew.mono SB.out.low.size))).ints)).mono ?_
      rintro _ w7 ⟨v7,rfl,g1,g2,rfl,i1',i2',b7⟩
      have hle:=HOK.out.ints.size
      rw [part_self hle] at i1' i2'
      have I1:=yH i1'
      have I2:=yH i2'
      have hb7:Below wb.heap.size wb w7:=(Below.refl wb.heap.size wb).drew.trans b7
      have S7:=yH (SB.out.later hb7)
      have HZ7:=yH ((hb7.cell (block_lt_of_cell Z0.out)).trans Z0.out)
      clear i1' i2' b7 hle hb7
      try go_wp2_with fail
      refine hK.out _ _ HZ7.out (fun hHeld=>?_)
      clear hK K
      try simp only [Act.put,yA,yB,yC]
      refine rY [5] ?_
      refine rC (fun K hK=>?_) AllReadyH.nil
      go_simp
      refine (lhull_any kd.lo.p kd.hi.p (some ⟨g1,0,none⟩) (some ⟨g2,0,none⟩) kd.lo.n kd.lo.c kd.hi.n kd.hi.c e.row.n e.row.n e.row.n e.row.n kd.lo.R kd.hi.R e.row.R e.row.R w7 S7.out.ok.lo.ints S7.out.ok.hi.ints I1.out I2.out).mono ?_
      rintro _ w8 ⟨v8,rfl,r1,r2,rfl,e1,e2,fr1,fr2,b8⟩
      have HE1:=yH e1
      have HE2:=yH e2
      have F1:=yH fr1
      have F2:=yH fr2
      have S8:=yH (S7.out.later b8)
      have HZ8:=yH ((b8.cell (block_lt_of_cell HZ7.out)).trans HZ7.out)
      have HLT:=yH (show gx<w7.heap.size∧w.heap.size+1<w7.heap.size from ⟨(yL S7.out.row),(yL S7.out.res)⟩)
      clear e1 e2 fr1 fr2 b8
      try go_wp2_with fail
      refine hK.out _ _ HZ8.out (fun hHeld=>?_)
      clear hK K
      try simp only [Act.put,yA,yB,yC]
      refine tK 6 ?_
      refine rY [7] ?_
      refine rC (fun K hK=>?_) AllReadyH.nil
      refine wp_store_mid 32 (.tmp 33) (.tmp 32) (by rfl) gx 32 #[r1.val,r2.val] (by rfl) (by rfl) (kd_there2 S8.out.row S8.out.ok.len r1 r2) IBx (box_one r1 r2) ?_
      have S9:=yH (S8.out.setBox (r1:=r1) (r2:=r2) ⟨F1.out.ok,F1.out.away HLT.out.1,F1.out.away HLT.out.2⟩ ⟨F2.out.ok,F2.out.away HLT.out.1,F2.out.away HLT.out.2⟩)
      have HZ9:=yH ((World.cell?_of_block (w:=w8) (a:=⟨ge,0,none⟩) (heap_setCells_other gx [r1.val,r2.val] 32 w8 ge HGE.out)).trans HZ8.out)
      refine hK.out _ _ HZ9.out (fun hHeld=>?_)
      clear hK K
      try simp only [Act.put]
      refine wpAnyH_done (by kernel_rfl) ?_ _
      have HP2:=yH (HP1.out r1 r2 HE1.out HE2.out)
      have S9':=S9.out
      clear S9 HZ9 hHeld
      have S9:=yH S9'
      clear S9'
      generalize w8.setCells gx 32 [r1.val,r2.val]=w9 at *
      go_wp2_with fail
      go_roundw
      case rel=>exact ⟨k+1,_,by omega,by go_num,S9.out,HP2.out,FS.out.box F1.out F2.out (by have:=S7.out.low.size;omega)⟩
      case measure=>simp [intOf];omega
     ·
      go_simp
      refine (of_any e.row.p e.row.n e.row.c e.row.R ⟨HE8.out.2,HE8.out.1⟩ wb.drew ((HOK.out.later (SB.out.low.trans ((Below.refl _ _).drew.mono SB.out.low.size))).ints)).mono ?_
      rintro _ w7 ⟨v7,rfl,g1,g2,rfl,i1',i2',b7⟩
      have hle:=HOK.out.ints.size
      rw [part_self hle] at i1' i2'
      have I1:=yH i1'
      have I2:=yH i2'
      have hb7:Below wb.heap.size wb w7:=(Below.refl wb.heap.size wb).drew.trans b7
      have S7:=yH (SB.out.later hb7)
      have HZ7:=yH ((hb7.cell (block_lt_of_cell Z0.out)).trans Z0.out)
      clear i1' i2' b7 hle hb7
      try go_wp2_with fail
      refine hK.out _ _ HZ7.out (fun hHeld=>?_)
      clear hK K
      try simp only [Act.put,yA,yB,yC]
      refine rY [1] ?_
      refine rC (fun K hK=>?_) AllReadyH.nil
      have b0:w7.cell? ⟨gx,32,none⟩=some (.slice kd.lo.p kd.lo.n kd.lo.c):=by have h9:=S7.out.cell.lo;rw [Nat.zero_add] at h9;exact h9
      have b1:w7.cell? ⟨gx,33,none⟩=some (.slice kd.hi.p kd.hi.n kd.hi.c):=by have h9:=S7.out.cell.hi;rw [Nat.zero_add] at h9;exact h9
      go_simp
      refine hK.out _ _ HZ7.out (fun hHeld=>?_)
      clear hK K
      try simp only [Act.put,yA,yB,yC]
      refine rY [5] ?_
      refine rC (fun K hK=>?_) AllReadyH.nil
      go_simp
      refine (lhull_any kd.lo.p kd.hi.p (some ⟨g1,0,none⟩) (some ⟨g2,0,none⟩) kd.lo.n kd.lo.c kd.hi.n kd.hi.c e.row.n e.row.n e.row.n e.row.n kd.lo.R kd.hi.R e.row.R e.row.R w7 S7.out.ok.lo.ints S7.out.ok.hi.ints I1.out I2.out).mono ?_
      rintro _ w8 ⟨v8,rfl,r1,r2,rfl,e1,e2,fr1,fr2,b8⟩
      have HE1:=yH e1
      have HE2:=yH e2
      have F1:=yH fr1
      have F2:=yH fr2
      have S8:=yH (S7.out.later b8)
      have HZ8:=yH ((b8.cell (block_lt_of_cell HZ7.out)).trans HZ7.out)
      have HLT:=yH (show gx<w7.heap.size∧w.heap.size+1<w7.heap.size from ⟨(yL S7.out.row),(yL S7.out.res)⟩)
      clear e1 e2 fr1 fr2 b8
      try go_wp2_with fail
      refine hK.out _ _ HZ8.out (fun hHeld=>?_)
      clear hK K
      try simp only [Act.put,yA,yB,yC]
      refine tK 6 ?_
      refine rY [7] ?_
      refine rC (fun K hK=>?_) AllReadyH.nil
      refine wp_store_mid 32 (.tmp 33) (.tmp 32) (by rfl) gx 32 #[r1.val,r2.val] (by rfl) (by rfl) (kd_there2 S8.out.row S8.out.ok.len r1 r2) IBx (box_one r1 r2) ?_
      have S9:=yH (S8.out.setBox (r1:=r1) (r2:=r2) ⟨F1.out.ok,F1.out.away HLT.out.1,F1.out.away HLT.out.2⟩ ⟨F2.out.ok,F2.out.away HLT.out.1,F2.out.away HLT.out.2⟩)
      have HZ9:=yH ((World.cell?_of_block (w:=w8) (a:=⟨ge,0,none⟩) (heap_setCells_other gx [r1.val,r2.val] 32 w8 ge HGE.out)).trans HZ8.out)
      refine hK.out _ _ HZ9.out (fun hHeld=>?_)
      clear hK K
      try simp only [Act.put]
      refine wpAnyH_done (by kernel_rfl) ?_ _
      have HP2:=yH (HP1.out r1 r2 HE1.out HE2.out)
      have S9':=S9.out
      clear S9 HZ9 hHeld
      have S9:=yH S9'
      clear S9'
      generalize w8.setCells gx 32 [r1.val,r2.val]=w9 at *
      go_wp2_with fail
      go_roundw
      case rel=>exact ⟨k+1,_,by omega,by go_num,S9.out,HP2.out,FS.out.box F1.out F2.out (by have:=S7.out.low.size;omega)⟩
      case measure=>simp [intOf];omega
   ·obtain rfl:n=k:=by omega
    have e0:(E.map En.pe).take n=E.map En.pe:=List.take_of_length_le (by rw [List.length_map,HES.out];exact Nat.le_refl _)
    rw [e0] at PKS
    have hlvE:=live_le (E.map En.pe)
    rw [List.length_map,← HES.out] at hlvE
    generalize boxR (E.map En.pe)=b0 at *
    generalize liveR (E.map En.pe)=lv0 at *
    have HLV:=yH hlvE
    obtain ⟨t0,t1,t2⟩:=ST.out.node.cells
    have HPK0:=yH (show kd.pk=⟨zeros 32,(((K.map Kd.pk).take 0).foldl boxK b0).1,(((K.map Kd.pk).take 0).foldl boxK b0).2,lv0+(((K.map Kd.pk).take 0).map PK.live).sum,n+(((K.map Kd.pk).take 0).map PK.size).sum,KR⟩ from by
     rw [PKS.out]
     simp)
    clear e0 hlt hk hlvE PKS
    go_wp2_with fail
    go_loopw [38] (fun i wr=>Ta2 w w.heap.size kind p n c q m f (w.heap.size+1) gx b0 lv0 (K.map Kd.pk) KR i wr) (fun i _=>m - (intOf i).toNat)
    case atStart=>exact ⟨0,kd,by omega,rfl,ST.out,HPK0.out,FS.out⟩
    case round=>
     obtain ⟨k,kd2,hk,rfl,hst,hpk,hfs⟩:=hrel
     have FS2:=yH hfs
     have S2:=yH hst
     have PKS:=yH hpk
     have hm4:=HM4.out
     clear hst hpk hfs FS ST HPK0 t0 t1 t2
     by_cases hlt:k<m
     ·obtain ⟨g,o,rfl,hrg,hok⟩:=HK.out.get k hlt
      have i1:(0:Int)≤k∧(k:Int)<m:=by omega
      have hlen:k<K.length:=by rw [← HKS.out];exact hlt
      have hlenm:k<(K.map Kd.pk).length:=by rw [List.length_map];exact hlen
      have HTB:=yH (show ((K.map Kd.pk).take (k+1)).foldl boxK b0=boxK (((K.map Kd.pk).take k).foldl boxK b0) (K.getD k default).pk from by
       rw [take_fold boxK _ _ _ hlenm,map_getD Kd.pk K k hlen])
      have HTV:=yH (show (((K.map Kd.pk).take (k+1)).map PK.live).sum=(((K.map Kd.pk).take k).map PK.live).sum+(K.getD k default).live from by
       rw [take_sum PK.live _ _ hlenm,map_getD Kd.pk K k hlen]
       rfl)
      have HTZ:=yH (show (((K.map Kd.pk).take (k+1)).map PK.size).sum=(((K.map Kd.pk).take k).map PK.size).sum+(K.getD k default).size from by
       rw [take_sum PK.size _ _ hlenm,map_getD Kd.pk K k hlen]
       rfl)
      have hkb:=HKID.out _ (getD_mem K k hlen)
      have hall:∀x∈(K.map Kd.pk).take k,(0≤x.live∧x.live≤1048576)∧(0≤x.size∧x.size≤1048576):=fun x hx=>by
       obtain ⟨y,hy,rfl⟩:=List.mem_map.1 (List.mem_of_mem_take hx)
       exact HKID.out y hy
      have hs1:=sum_le PK.live 1048576 _ (fun x hx=>(hall x hx).1)
      have hs2:=sum_le PK.size 1048576 _ (fun x hx=>(hall x hx).2)
      have hlk:((K.map Kd.pk).take k).length≤4:=by rw [List.length_take];omega
      have hlv0:=HLV.out
      have hn4:=HN4.out
      have hvl:kd2.live=lv0+(((K.map Kd.pk).take k).map PK.live).sum:=congrArg PK.live PKS.out
      have hvz:kd2.size=n+(((K.map Kd.pk).take k).map PK.size).sum:=congrArg PK.size PKS.out
      have hlo:kd2.lo.R=(((K.map Kd.pk).take k).foldl boxK b0).1:=congrArg PK.lo PKS.out
      have hhi:kd2.hi.R=(((K.map Kd.pk).take k).foldl boxK b0).2:=congrArg PK.hi PKS.out
      generalize K.getD k default=e at *
      obtain ⟨a1,ha1⟩:∃a1:Nat,kd2.live=a1:=⟨kd2.live.toNat,by omega⟩
      obtain ⟨a2,ha2⟩:∃a2:Nat,e.live=a2:=⟨e.live.toNat,by omega⟩
      obtain ⟨a3,ha3⟩:∃a3:Nat,kd2.size=a3:=⟨kd2.size.toNat,by omega⟩
      obtain ⟨a4,ha4⟩:∃a4:Nat,e.size=a4:=⟨e.size.toNat,by omega⟩
      have hq1:a1+a2≤100000000:=by omega
      have hq2:a3+a4≤100000000:=by omega
      have HP1:=yH (show ∀r1 r2:Rw,r1.R=(hull (kd2.lo.R,kd2.hi.R) (e.lo.R,e.hi.R)).1→r2.R=(hull (kd2.lo.R,kd2.hi.R) (e.lo.R,e.hi.R)).2→({kd2 with live:=(a1:Int)+a2,size:=(a3:Int)+a4,lo:=r1,hi:=r2}:Kd).pk=⟨zeros 32,(((K.map Kd.pk).take (k+1)).foldl boxK b0).1,(((K.map Kd.pk).take (k+1)).foldl boxK b0).2,lv0+(((K.map Kd.pk).take (k+1)).map PK.live).sum,n+(((K.map Kd.pk).take (k+1)).map PK.size).sum,KR⟩ from fun r1 r2 e1 e2=>by
       rw [HTB.out,HTV.out,HTZ.out]
       have e3:boxK (((K.map Kd.pk).take k).foldl boxK b0) e.pk=hull (kd2.lo.R,kd2.hi.R) (e.lo.R,e.hi.R):=by
        unfold boxK
        rw [hlo,hhi]
        rfl
       rw [e3,← e1,← e2]
       have e4:=PKS.out
       simp only [Kd.pk,PK.mk.injEq] at e4 ⊢
       refine ⟨e4.1,trivial,trivial,?_,?_,e4.2.2.2.2.2⟩
       ·rw [← ha1,← ha2];omega
       ·rw [← ha3,← ha4];omega)
      have HR:=yH (range_later hrg S2.out.low)
      have HOK:=yH hok
      have HCL:=yH (Kd.cells_length hok.len)
      have HA1:=yH ha1
      have HA2:=yH ha2
      have HA3:=yH ha3
      have HA4:=yH ha4
      have hz0:=HZ.out.1
      clear hrg hok ha1 ha2 ha3 ha4 hvl hvz hlo hhi hs1 hs2 hlk hlv0 hkb hall
      go_upto_region 12 with (first
       | (refine wpList_load_mid (by rfl) 34 _ (by rfl) g (o+k*37) (by rfl) e.cells du HR.out HDU.out HDR.out (by rw [HCL.out];exact SKd) ?_)
       | (refine wpList_store_row (by rfl) 34 (.tmp 7) (.tmp 41) (by rfl) wr.heap.size e.cells.toArray (by rfl) (by rfl) _ _ (heap_alloc_new wr _) (by rw [List.size_toArray,HCL.out];exact SKd) (by simp only [List.size_toArray,HCL.out,kd0_size]) (all_oneCell_toArray Kd.one) ?_;rw [setRow_alloc]))
      have hrx:=heap_alloc_new wr (.cells e.cells.toArray 34)
      have SA:=yH (S2.out.later (show Below wr.heap.size wr (wr.alloc (.cells e.cells.toArray 34)) from (Below.refl _ _).alloc (Nat.le_refl _) _))
      have HGB:=yH (show wr.heap.size≠gx from fun e=>by have:=(yL S2.out.row);omega)
      generalize wr.alloc (.cells e.cells.toArray 34)=wa at *
      generalize wr.heap.size=gb at *
      have RX:=yH hrx
      clear hrx hz0 S2
      have x1:=SA.out.cell.live
      have x2:=(kat_row RX.out HOK.out.len).live
      rw [Nat.zero_add,HA1.out] at x1
      rw [Nat.zero_add,HA2.out] at x2
      have f34:=frozen_of_row wa gx 34 _ _ SA.out.row
      go_upto_region 13 with fail
      have SB:=yH (SA.out.setLive ((a1:Int)+a2) ⟨by omega,by omega⟩)
      have RB:=yH ((show (wa.setCell ⟨gx,34,none⟩ (.int .i64 ((a1:Int)+a2))).heap[gb]? =wa.heap[gb]? from heap_setCell_other _ _ _ _ HGB.out).trans RX.out)
      generalize wa.setCell ⟨gx,34,none⟩ (.int .i64 ((a1:Int)+a2))=wb at *
      clear x1 x2 f34 SA RX
      have x1:=SB.out.cell.size
      have x2:=(kat_row RB.out HOK.out.len).size
      rw [Nat.zero_add] at x1
      rw [show ({kd2 with live:=(a1:Int)+a2}:Kd).size=(a3:Int) from HA3.out] at x1
      rw [Nat.zero_add,HA4.out] at x2
      have f35:=frozen_of_row wb gx 35 _ _ SB.out.row
      go_upto_region 14 with fail
      have SC:=yH (SB.out.setSize ((a3:Int)+a4) ⟨by omega,by omega⟩)
      have RC:=yH ((show (wb.setCell ⟨gx,35,none⟩ (.int .i64 ((a3:Int)+a4))).heap[gb]? =wb.heap[gb]? from heap_setCell_other _ _ _ _ HGB.out).trans RB.out)
      generalize wb.setCell ⟨gx,35,none⟩ (.int .i64 ((a3:Int)+a4))=wc at *
      clear x1 x2 f35 SB RB
      have x1:=SC.out.cell.lo
      have x2:=SC.out.cell.hi
      have x3:=(kat_row RC.out HOK.out.len).lo
      have x4:=(kat_row RC.out HOK.out.len).hi
      simp only [Nat.zero_add,Rw.val] at x1 x2 x3 x4
      have HOC:=yH (HOK.out.later SC.out.low)
      go_wp2_with (first
       | (go_at_call 244;refine (lhull_any kd2.lo.p kd2.hi.p e.lo.p e.hi.p kd2.lo.n kd2.lo.c kd2.hi.n kd2.hi.c e.lo.n e.lo.c e.hi.n e.hi.c kd2.lo.R kd2.hi.R e.lo.R e.hi.R wc SC.out.ok.lo.ints SC.out.ok.hi.ints HOC.out.lo.ints HOC.out.hi.ints).mono ?_;rintro _ w8 ⟨v8,rfl,r1,r2,rfl,e1,e2,fr1,fr2,b8⟩;have HP2:=yH (HP1.out r1 r2 e1 e2);have F1:=yH fr1;have F2:=yH fr2;have S8:=yH (SC.out.later b8);have HLT:=yH (show gx<wc.heap.size∧w.heap.size+1<wc.heap.size from ⟨(yL SC.out.row),(yL SC.out.res)⟩);clear e1 e2 fr1 fr2 b8)
       | (refine wpList_store_mid (by rfl) 32 (.tmp 59) (.tmp 58) (by rfl) gx 32 #[r1.val,r2.val] (by rfl) (by rfl) (kd_there2 S8.out.row S8.out.ok.len r1 r2) IBx (box_one r1 r2) ?_;have S9:=yH (S8.out.setBox (r1:=r1) (r2:=r2) ⟨F1.out.ok,F1.out.away HLT.out.1,F1.out.away HLT.out.2⟩ ⟨F2.out.ok,F2.out.away HLT.out.1,F2.out.away HLT.out.2⟩)))
      go_roundw
      case rel=>exact ⟨k+1,_,by omega,by go_num,S9.out,HP2.out,FS2.out.box F1.out F2.out (by have:=SC.out.low.size;omega)⟩
      case measure=>simp [intOf];omega
     ·obtain rfl:m=k:=by omega
      have e0:(K.map Kd.pk).take m=K.map Kd.pk:=List.take_of_length_le (by rw [List.length_map,HKS.out];exact Nat.le_refl _)
      rw [e0,← HTL.out] at PKS
      have HCL:=yH (Kd.cells_length S2.out.ok.len)
      have HRR:=yH (range_kd S2.out.row)
      clear e0
      go_wp2_with (first
       | (refine wpList_load_mid (by rfl) 34 _ (by rfl) gx 0 (by rfl) kd2.cells du HRR.out HDU.out HDR.out (by rw [HCL.out];exact SKd) ?_)
       | (refine wpList_store_row (by rfl) 34 _ _ (by rfl) (w.heap.size+1) kd2.cells.toArray (by rfl) (by rfl) _ _ S2.out.res (by rw [List.size_toArray,HCL.out];exact SKd) (by simp only [List.size_toArray,HCL.out,kd0_size]) (all_oneCell_toArray Kd.one) ?_))
      have r9:=setRow_heap _ (w.heap.size+1) _ kd2.cells.toArray _ _ S2.out.res
      have hb9:Below (w.heap.size+1) wr (wr.setRow (w.heap.size+1) kd2.cells.toArray):=Below.setRow (Below.refl _ _) (Nat.le_refl _) _
      have hrw:∀r∈kd2.rows,r.Ok (wr.setRow (w.heap.size+1) kd2.cells.toArray):=fun r hr=>rw_keep (S2.out.rows r hr).1 (fun x hx hR=>setRow_other _ _ _ _ ((S2.out.rows r hr).2.2 x hx hR))
      refine ret_str 2 (by kernel_rfl) (w.heap.size+1) _ _ HDU.out HDR.out (by rw [List.size_toArray,HCL.out];exact SKd) (by rfl) r9 ⟨kd2,rfl,PKS.out,⟨S2.out.ok.len,S2.out.ok.ok,hrw _ (by simp [Kd.rows]),hrw _ (by simp [Kd.rows]),hrw _ (by simp [Kd.rows]),S2.out.ok.live,S2.out.ok.size⟩,FS2.out,S2.out.low.trans (hb9.mono (by omega))⟩
end Go.Proofs.YtinihaflmdihaaaGreat.Nd
namespace Go.Proofs.YtinihaflmdihaaaGreat.Pg
open Go.RowKit
theorem laidOut:laidOutB Tryz.prog=true:=by kernel_rfl
theorem keyD:Go.Maps.Keyed Tryz.prog 30:=
 Go.Maps.Keyed.of_law (deep_law_laid laidOut (m:=2) (by decide) (of_decide_eq_true (by kernel_rfl)) (by kernel_rfl) (by kernel_rfl))
def klit (d:List Nat):Lit:=.string (keyBytes (d.map fun x:Nat=>Lit.int .u8 (x:Int)))
theorem mapM_some {α β:Type} (f:α→Option β) (g:α→β):∀l:List α,(∀x∈l,f x=some (g x))→l.mapM f=some (l.map g)
 |[],_=>rfl
 | a::l,h=>by
  rw [List.mapM_cons,h a List.mem_cons_self,mapM_some f g l (fun x hx=>h x (List.mem_cons_of_mem _ hx))]
  rfl
theorem cells5:Tryz.prog.cellsOf 5=1:=by kernel_rfl
theorem cells32:Tryz.prog.cellsOf 30=32:=by kernel_rfl
theorem lits_u8 (m:Nat) {x:Nat} (hx:x<256):Tryz.prog.keyLits (m+1) 5 [.int .u8 (x:Int)]=some [.int .u8 (x:Int)]:=by
 have hw:(Lit.int .u8 (x:Int)).wf=true:=by simp [Lit.wf,IntKind.min,IntKind.max,IntKind.bits,IntKind.signed];omega
 unfold Program.keyLits
 rw [U5]
 simp [hw]
theorem lits_d (m:Nat) {d:List Nat} (hd:d.length=32) (ho:Sm.allB d):Tryz.prog.keyLits (m+2) 30 (vals d)=some (d.map fun x:Nat=>Lit.int .u8 (x:Int)):=by
 unfold Program.keyLits
 rw [A25]
 simp only [cells32,cells5,vals_length,hd,if_true,Nat.mul_one]
 rw [mapM_some _ (fun i=>[Lit.int .u8 ((d.getD i 0:Nat):Int)]) _ (fun i hi=>by
  have hi:i<32:=List.mem_range.1 hi
  have h1:((vals d).drop i).take 1=[.int .u8 ((d.getD i 0:Nat):Int)]:=by
   rw [List.drop_eq_getElem_cons (by rw [vals_length];omega),List.take_succ_cons,List.take_zero]
   simp [vals,List.getD_eq_getElem?_getD,hd,hi]
  rw [h1]
  refine lits_u8 m (ho _ ?_)
  rw [List.getD_eq_getElem?_getD,List.getElem?_eq_getElem (by omega),Option.getD_some]
  exact List.getElem_mem _)]
 simp only [Option.map_some,Option.some.injEq]
 rw [← hd]
 clear ho hd
 induction d with
 | nil=>rfl
 | cons x d ih=>rw [List.length_cons,List.range_succ_eq_map];simp [List.map_map] at ih ⊢;simpa [Function.comp_def] using ih
theorem klit_of {d:List Nat} (hd:d.length=32) (ho:Sm.allB d):keyOf Tryz.prog 30 (.agg (u8s d))=some (klit d):=by
 have h1:Tryz.prog.keyType 30=true:=by kernel_rfl
 have h2:(Value.agg (u8s d)).formed Tryz.prog 30=true:=by simp [Value.formed,cells32,u8s_size,hd]
 have h3:(Value.agg (u8s d)).cells.toList=vals d:=by simp [Value.cells,u8s_toList]
 obtain ⟨m,hm⟩:∃m,Tryz.prog.types.size+1=m+2:=⟨Tryz.prog.types.size - 1,by have:0<Tryz.prog.types.size:=of_decide_eq_true (by kernel_rfl);omega⟩
 unfold keyOf
 rw [A25,h3,hm,lits_d m hd ho]
 simp [h1,h2,klit]
theorem klit_inj {a b:List Nat} (ha:a.length=32) (hao:Sm.allB a) (hb:b.length=32) (hbo:Sm.allB b) (h:klit a=klit b):a=b:=by
 have h1:=keyD.inj (klit_of ha hao) (h▸klit_of hb hbo)
 have h2:vals a=vals b:=by
  have:=congrArg (fun v:Value=>v.cells.toList) h1
  simpa [Value.cells,u8s_toList] using this
 have h3:∀x y:Nat,Value.int .u8 (x:Int)=Value.int .u8 (y:Int)→x=y:=fun x y e=>by cases e;rfl
 exact (List.map_inj_right h3).1 h2
theorem klit_key (d:List Nat):WideAt.IsKeyLit (klit d):=trivial
structure Pe where
 d:List Nat
 q:Option Addr
 (m c:Nat)
 b:List Nat
instance:Inhabited Pe:=⟨⟨[],none,0,0,[]⟩⟩
def Pe.cells (e:Pe):List Value:=vals e.d++[.slice e.q e.m e.c]
def pagesOf (L:List Pe):Pages:=L.map fun e=>(e.d,e.b)
theorem pagesOf_length (L:List Pe):(pagesOf L).length=L.length:=by simp [pagesOf]
theorem pagesOf_at (L:List Pe) {i:Nat} (h:i<L.length):(pagesOf L).getD i default=((L.getD i default).d,(L.getD i default).b):=by
 simp [pagesOf,List.getD_eq_getElem?_getD,h]
def sliceR:Value→Option (DataW Value×List MemPlace)
 | .slice p n c=>some (.held (.slice p n c),[])
 | _=>none
theorem sliceR_inv {v:Value} {z:DataW Value×List MemPlace} (h:sliceR v=some z):∃p n c,v= .slice p n c∧z=(.held (.slice p n c),[]):=by
 unfold sliceR at h
 split at h
 ·cases h;exact ⟨_,_,_,rfl,rfl⟩
 ·cases h
def Pe.hd (e:Pe):Value:=.slice e.q e.m e.c
structure Reads (D:DataW Value) (L:List Pe):Prop where
 tidy:Go.Maps.Tidy D
 len:∀e∈L,e.d.length=32∧Sm.allB e.d
 one:(L.map (·.d)).Nodup
 at':∀e∈L,∀z,D.atKey (klit e.d) z= .held e.hd
 key:∀kl,Go.Maps.has D kl=true→∃e∈L,kl=klit e.d
 size:Go.Maps.size D=L.length
theorem Reads.nil:Reads (.map []) []:=⟨Go.Maps.tidy_empty,(fun e he=>by cases he),List.nodup_nil,(fun e he=>by cases he),(fun kl h=>by cases h),rfl⟩
theorem pagesOf_fst (L:List Pe):(pagesOf L).map (·.1)=L.map (·.d):=by simp [pagesOf,Function.comp_def]
theorem Reads.has_mem {D:DataW Value} {L:List Pe} (h:Reads D L) {d:List Nat} (hd:d.length=32) (ho:Sm.allB d):Go.Maps.has D (klit d)=true↔d∈L.map (·.d):=by
 constructor
 ·intro hh
  obtain ⟨e,he,hk⟩:=h.key _ hh
  rw [klit_inj hd ho (h.len e he).1 (h.len e he).2 hk]
  exact List.mem_map_of_mem he
 ·intro hm
  obtain ⟨e,he,rfl⟩:=List.mem_map.1 hm
  exact Go.Maps.has_true_of_atKey (h.at' e he)
theorem Reads.has {D:DataW Value} {L:List Pe} (h:Reads D L) {d:List Nat} (hd:d.length=32) (ho:Sm.allB d):Go.Maps.has D (klit d)=decide (idx d (pagesOf L)<(pagesOf L).length):=by
 rw [Bool.eq_iff_iff,h.has_mem hd ho,decide_eq_true_iff,idx_mem,pagesOf_fst]
theorem Reads.got {D:DataW Value} {L:List Pe} (h:Reads D L) {d:List Nat} (hi:idx d (pagesOf L)<(pagesOf L).length):∃e∈L,e.d=d∧(∀z,D.atKey (klit d) z= .held e.hd)∧textAt (pagesOf L) d=some e.b:=by
 have h1:idx d (pagesOf L)<L.length:=by rwa [pagesOf_length] at hi
 have h2:=idx_at hi
 rw [pagesOf_at L h1] at h2
 have hm:L.getD (idx d (pagesOf L)) default∈L:=by
  rw [List.getD_eq_getElem?_getD,List.getElem?_eq_getElem h1]
  exact List.getElem_mem _
 refine ⟨_,hm,h2,?_,?_⟩
 ·have:=h.at' _ hm
  simp only at h2
  rwa [h2] at this
 ·rw [textAt_some hi,pagesOf_at L h1]
theorem Reads.put {D:DataW Value} {L:List Pe} (h:Reads D L) {e:Pe} (hd:e.d.length=32) (ho:Sm.allB e.d) (hn:e.d∉L.map (·.d)):Reads (D.put (klit e.d) (.held e.hd)) (L++[e]):=by
 have hno:Go.Maps.has D (klit e.d)=false:=by
  rw [← Bool.not_eq_true,h.has_mem hd ho]
  exact hn
 have hne:∀x∈L,klit x.d≠klit e.d:=fun x hx he=>hn (by rw [← klit_inj (h.len x hx).1 (h.len x hx).2 hd ho he];exact List.mem_map_of_mem hx)
 refine ⟨h.tidy.put (klit_key _) _,?_,?_,?_,?_,?_⟩
 ·intro x hx
  rcases List.mem_append.1 hx with hx | hx
  ·exact h.len x hx
  ·rw [List.mem_singleton.1 hx];exact ⟨hd,ho⟩
 ·rw [List.map_append,List.nodup_append]
  refine ⟨h.one,by simp,fun a ha c hc hac=>hn ?_⟩
  simp only [List.map_cons,List.map_nil,List.mem_singleton] at hc
  rw [← hc,← hac]
  exact ha
 ·intro x hx z
  rcases List.mem_append.1 hx with hx | hx
  ·rw [Go.Maps.atKey_put_other (hne x hx),h.at' x hx]
  ·rw [List.mem_singleton.1 hx,Go.Maps.atKey_put_same h.tidy.isMap (klit_key _)]
 ·intro kl hk
  by_cases he:kl=klit e.d
  ·exact ⟨e,by simp,he⟩
  ·rw [Go.Maps.has_put_other he] at hk
   obtain ⟨x,hx,hxe⟩:=h.key kl hk
   exact ⟨x,List.mem_append_left _ hx,hxe⟩
 ·rw [Go.Maps.size_put h.tidy,hno,h.size,List.length_append]
  rfl
def but (L:List Pe) (d:List Nat):List Pe:=L.filter fun x=>decide (x.d≠d)
theorem but_length {L:List Pe} (hn:(L.map (·.d)).Nodup) {e:Pe} (he:e∈L):(but L e.d).length+1=L.length:=by
 induction L with
 | nil=>cases he
 | cons x L ih=>
  rw [List.map_cons,List.nodup_cons] at hn
  rcases List.mem_cons.1 he with rfl | he
  ·have:but (e::L) e.d=L:=by
    unfold but
    rw [List.filter_cons_of_neg (by simp),List.filter_eq_self]
    intro y hy
    refine decide_eq_true (fun h=>hn.1 ?_)
    rw [← h]
    exact List.mem_map_of_mem (f:=(·.d)) hy
   rw [this,List.length_cons]
  ·have hx:x.d≠e.d:=fun h=>hn.1 (by rw [h];exact List.mem_map_of_mem (f:=(·.d)) he)
   unfold but at ih ⊢
   rw [List.filter_cons_of_pos (by simpa using hx),List.length_cons,List.length_cons,ih hn.2 he]
theorem Reads.del {D:DataW Value} {L:List Pe} (h:Reads D L) {e:Pe} (he:e∈L):Reads (D.del (klit e.d)) (but L e.d):=by
 have hm:∀x,x∈but L e.d↔x∈L∧x.d≠e.d:=fun x=>by rw [but,List.mem_filter,decide_eq_true_iff]
 have hne:∀x∈L,x.d≠e.d→klit x.d≠klit e.d:=fun x hx hxe h2=>hxe (klit_inj (h.len x hx).1 (h.len x hx).2 (h.len e he).1 (h.len e he).2 h2)
 refine ⟨h.tidy.del _,?_,?_,?_,?_,?_⟩
 ·intro x hx
  exact h.len x ((hm x).1 hx).1
 ·exact List.Nodup.sublist (List.Sublist.map _ List.filter_sublist) h.one
 ·intro x hx z
  rw [Go.Maps.atKey_del_other (hne x ((hm x).1 hx).1 ((hm x).1 hx).2),h.at' x ((hm x).1 hx).1]
 ·intro kl hk
  have hkl:kl≠klit e.d:=by
   rintro rfl
   rw [Go.Maps.has_del_same] at hk
   cases hk
  rw [Go.Maps.has_del_other hkl] at hk
  obtain ⟨x,hx,rfl⟩:=h.key kl hk
  exact ⟨x,(hm x).2 ⟨hx,fun h2=>hkl (by rw [h2])⟩,rfl⟩
 ·have h1:=Go.Maps.size_del (k:=klit e.d) h.tidy
  rw [Go.Maps.has_true_of_atKey (h.at' e he),if_pos rfl,h.size] at h1
  have:=but_length h.one he
  omega
theorem Reads.next {D:DataW Value} {L:List Pe} (h:Reads D L) {v:Value} {kl:Lit} (hk:keyOf Tryz.prog 30 v=some kl) {y:DataW Value} (ha:∀z,D.atKey kl z=y):∃e∈L,v= .agg (u8s e.d)∧kl=klit e.d:=by
 obtain ⟨e,he,rfl⟩:=h.key kl (Go.Maps.has_true_of_atKey ha)
 exact ⟨e,he,keyD.inj hk (klit_of (h.len e he).1 (h.len e he).2),rfl⟩
theorem sameKey_klit {a b:List Nat} (ha:a.length=32) (hao:Sm.allB a) (hb:b.length=32) (hbo:Sm.allB b):(klit a).sameKey (klit b)=decide (a=b):=by
 by_cases h:a=b
 ·subst h
  rw [WideAt.sameKey_self (klit_key _)]
  simp
 ·rw [Go.Maps.sameKey_ne (fun e=>h (klit_inj ha hao hb hbo e))]
  simp [h]
end Go.Proofs.YtinihaflmdihaaaGreat.Pg
