/- NlEncode, CodR, CodRV, CodRByte, CodRLow, CodRCount, NdRd. -/
import Derived.Lib.BitFns
import Derived.Lib.MinMax
import Derived.Test.YtinihaflmdihaaaGreatW1
import Derived.Test.YtinihaflmdihaaaGreatW2
import Derived.Test.YtinihaflmdihaaaGreatW4
import Derived.Test.YtinihaflmdihaaaGreatW6
set_option maxRecDepth 100000
set_option maxHeartbeats 8000000
set_option linter.unusedVariables false
set_option linter.unusedSimpArgs false
namespace Go.Proofs.YtinihaflmdihaaaGreat.Nd
open Go.RowKit Go.Proofs.YtinihaflmdihaaaGreat.Wl
open List renaming setIfInBounds_toArray → sA, set_cons_zero → sZ, set_cons_succ → sS
theorem right_kid {k:PK} {d:Int} (h:k.right d=true):(0≤k.live∧k.live≤1048576)∧(0≤k.size∧k.size≤1048576)∧k.lo.length≤8∧k.hi.length≤8:=by
 unfold PK.right at h
 split at h
 ·rename_i h0
  rw [h0]
  simp [PK.none]
 ·split at h
  ·cases h
  ·split at h
   ·have:=of_decide_eq_true h
    omega
   ·have:=rightB_dims h
    omega
structure PN.Fit (n:PN):Prop where
 rows:n.rows.length≤4
 kids:n.kids.length≤4
 row:∀e∈n.rows,e.row.length≤8
 kid:∀k∈n.kids,k.Fit
theorem PN.fit {n:PN} {d:Int} (h:n.right d=true):n.Fit:=by
 rw [PN.right_shape,Bool.and_eq_true,Bool.and_eq_true,Bool.and_eq_true,decide_eq_true_iff] at h
 obtain ⟨⟨⟨hd,hs⟩,hr⟩,hk⟩:=h
 have hrow:∀e∈n.rows,e.row.length≤8:=fun e he=>by
  have:=of_decide_eq_true (List.all_eq_true.1 hr e he)
  omega
 have key:∀(x:Int),x≤8→n.kids.all (PK.keys x)=true→∀k∈n.kids,k.Fit:=fun x hx hh k hkm=>by
  have h1:=right_kid (List.all_eq_true.1 hk k hkm)
  have h2:=of_decide_eq_true (List.all_eq_true.1 hh k hkm)
  exact ⟨h1.1,h1.2.1,h1.2.2.1,h1.2.2.2,by omega⟩
 unfold PN.shape at hs
 split at hs
 ·rw [Bool.and_eq_true,Bool.and_eq_true,decide_eq_true_iff,decide_eq_true_iff] at hs
  exact ⟨by omega,by omega,hrow,key 0 (by omega) hs.2⟩
 ·split at hs
  ·rw [Bool.and_eq_true,Bool.and_eq_true,Bool.and_eq_true,decide_eq_true_iff,decide_eq_true_iff,decide_eq_true_iff] at hs
   exact ⟨by omega,by omega,hrow,fun k hkm=>by rw [List.length_eq_zero_iff.1 hs.1.2] at hkm;cases hkm⟩
  ·split at hs
   ·rw [Bool.and_eq_true,Bool.and_eq_true,Bool.and_eq_true,decide_eq_true_iff,decide_eq_true_iff,decide_eq_true_iff] at hs
    exact ⟨by omega,by omega,hrow,key d hd.2 hs.2⟩
   ·cases hs
structure EcSt (w0 w:World) (gn kind:Nat) (p:Option Addr) (n c:Nat) (q:Option Addr) (m f:Nat) (g:Nat) (v:Value) (s:St):Prop where
 ws:WS w w0.heap.size g v s
 node:NodeAt w gn kind p n c q m f
 ne:v.ownBlock≠some gn
 ng:gn≠g
 low:Below w0.heap.size w0 w
 lg:w0.heap.size≤g
section
variable {w0 w w':World} {gn kind:Nat} {p:Option Addr} {n c:Nat} {q:Option Addr} {m f g:Nat} {v v':Value} {s s':St}
theorem EcSt.step (h:EcSt w0 w gn kind p n c q m f g v s) (hs:WS w' w0.heap.size g v' s') (k:WStep w w' g v v'):EcSt w0 w' gn kind p n c q m f g v' s':=
 ⟨hs,⟨(k.block _ (Array.getElem?_eq_some_iff.1 h.node.row).1 h.ng h.ne).trans h.node.row⟩,fun e=>by
  rcases k.own _ e with h1 | h1
  ·exact h.ne h1
  ·have:=(Array.getElem?_eq_some_iff.1 h.node.row).1
   omega,h.ng,h.low.trans (k.below h.lg (fun j hj=>(h.ws.own.lt j hj).1) h.low.size),h.lg⟩
theorem EcSt.later (h:EcSt w0 w gn kind p n c q m f g v s) (hb:Below w.heap.size w w'):EcSt w0 w' gn kind p n c q m f g v s:=
 ⟨h.ws.later hb,h.node.later hb,h.ne,h.ng,h.low.trans (hb.mono h.low.size),h.lg⟩
theorem EcSt.cell_keep {x:Nat} {o:Nat} {u:Value} (_h:EcSt w0 w gn kind p n c q m f g v s) (k:WStep w w' g v v') (hx:x≠g) (hv:v.ownBlock≠some x) (hc:w.cell? ⟨x,o,Option.none⟩=some u):w'.cell? ⟨x,o,Option.none⟩=some u:=
 (World.cell?_of_block (w:=w) (w':=w') (a:=⟨x,o,Option.none⟩) (k.block x (block_lt_of_cell hc) hx hv)).trans hc
theorem EcSt.fresh (h:EcSt w0 w gn kind p n c q m f g v s):w.heap.size≠g∧v.ownBlock≠some w.heap.size:=
 ⟨fun e=>by have:=h.ws.lt;omega,fun e=>by have:=(h.ws.own.lt _ e).2;omega⟩
end
def Ec1 (w0:World) (gn kind:Nat) (p:Option Addr) (n c:Nat) (q:Option Addr) (m f g:Nat) (E:List En) (H:List Nat) (i:Value) (wr:World):Prop:=
 ∃(k:Nat) (v:Value) (X:List Nat),k≤n∧i= .int .i64 k∧X=H++(E.take k).flatMap (fun e=>e.pe.bytes)∧X.length≤2+70*k∧EcSt w0 wr gn kind p n c q m f g v ⟨X,0⟩
def Ec2 (w0:World) (gn kind:Nat) (p:Option Addr) (n c:Nat) (q:Option Addr) (m f g:Nat) (K:List Kd) (H:List Nat) (i:Value) (wr:World):Prop:=
 ∃(k:Nat) (v:Value) (X:List Nat),k≤m∧i= .int .i64 k∧X=H++(K.take k).flatMap (fun e=>e.pk.bytes)∧X.length≤1000+300*k∧EcSt w0 wr gn kind p n c q m f g v ⟨X,0⟩
theorem kid_bytes_len {k:PK} (h:k.Fit) (hs:k.sum.length=32):k.bytes.length≤300:=by
 unfold PK.bytes
 simp only [List.length_append,Cm.be_length,rowBs_length,hs]
 have:=h.lo;have:=h.hi;have:=h.key
 omega
def EncPost (w:World) (n:PN) (d:Int) (e:Ending) (w':World):Prop:=
 Below w.heap.size w w'∧
 ((n.right d=true∧∃q c,e= .returned (.tuple #[.slice q n.bytes.length c,.int .i64 0])∧w'.ownsRow w.heap.size 5 1 (.slice q n.bytes.length c) n.bytes.length (vals n.bytes)∧Sm.allB n.bytes)∨
  (n.right d=false∧e= .returned (.tuple #[.slice Option.none 0 0,.int .i64 1])))
theorem encode_any (kind:Nat) (hkd:kind<256) (p:Option Addr) (n c:Nat) (q:Option Addr) (m f:Nat) (E:List En) (K:List Kd) (d:Int) (w:World) (hE:EntsIn w p n c E) (hK:KidsIn w q m f K):
  Calls Tryz.prog 205 #[.agg #[.int .u8 kind,.slice p n c,.slice q m f],.int .i64 d] w (EncPost w (pnOf kind E K) d):=by
 have hb1:Below w.heap.size w (w.alloc (.cells #[.int .u8 kind,.slice p n c,.slice q m f] 81)):=(Below.refl _ _).alloc (Nat.le_refl _) _
 have hn:=NodeAt.start w kind p n c q m f
 have HRT:=Lib.hid (nright_any kind p n c q m f E K d _ (hE.later hb1) (hK.later hb1))
 obtain ⟨X,hX⟩:∃X,(pnOf kind E K).right d=X:=⟨_,rfl⟩
 rw [hX] at HRT
 have HB:=Lib.hid hb1
 have HN:=Lib.hid hn
 have HEW:=Lib.hid hE
 have HKW:=Lib.hid hK
 have HES:=Lib.hid hE.size
 have HKS:=Lib.hid hK.size
 obtain ⟨du,hdu,hdr⟩:=UKd
 have HD:=Lib.hid hdu
 have HDR:=Lib.hid hdr
 have HZ:=Lib.hid (zero_of_info kz)
 clear hE hK hb1 hn hdu hdr
 cases X with
 | false=>
  have HX:=Lib.hid hX
  clear hX
  go_enter Tryz.func205,Tryz.ntmps205
  go_upto_region 1 with fail
  generalize w.alloc (.cells #[.int .u8 kind,.slice p n c,.slice q m f] 81)=w1 at *
  obtain ⟨t0,t1,t2⟩:=HN.out.cells
  go_wp2_with (go_at_call 149;refine HRT.out.mono ?_;rintro e w2 ⟨rfl,b2⟩;have HB2:=Lib.hid (HB.out.trans (b2.mono HB.out.size));clear b2)
  go_ret2
  exact ⟨HB2.out,Or.inr ⟨HX.out,rfl⟩⟩
 | true=>
 have hft:=PN.fit hX
 have HX:=Lib.hid hX
 have hn4:n≤4:=by have:=hft.rows;simp only [pnOf,List.length_map] at this;rw [HES.out];exact this
 have hm4:m≤4:=by have:=hft.kids;simp only [pnOf,List.length_map] at this;rw [HKS.out];exact this
 have HFR:=Lib.hid (show ∀e∈E,e.row.R.length≤8 from fun e he=>hft.row _ (List.mem_map.2 ⟨e,he,rfl⟩))
 have HFK:=Lib.hid (show ∀k∈K,k.pk.Fit from fun k hk=>hft.kid _ (List.mem_map.2 ⟨k,hk,rfl⟩))
 clear hX hft
 have e8:IntKind.u8.wrap (n:Int)=(n:Nat):=by rw [IntKind.wrap_u8];omega
 have e9:IntKind.u8.wrap (m:Int)=(m:Nat):=by rw [IntKind.wrap_u8];omega
 have HKD:=Lib.hid hkd
 have HN4:=Lib.hid hn4
 have HM4:=Lib.hid hm4
 clear hkd hn4 hm4
 go_enter Tryz.func205,Tryz.ntmps205
 go_upto_region 1 with fail
 generalize w.alloc (.cells #[.int .u8 kind,.slice p n c,.slice q m f] 81)=w1 at *
 obtain ⟨t0,t1,t2⟩:=HN.out.cells
 go_upto_region 3 with (go_at_call 149;refine HRT.out.mono ?_;rintro e w2 ⟨rfl,b2⟩;have HB2:=Lib.hid (HB.out.trans (b2.mono HB.out.size));have HN2:=Lib.hid (HN.out.later b2);clear b2)
 clear t0 t1 t2 HRT HN HB
 have hgn:w.heap.size<w2.heap.size:=(Array.getElem?_eq_some_iff.1 HN2.out.row).1
 have hec:EcSt w (w2.alloc (.cells #[.slice Option.none 0 0,.int .i64 0] 291)) w.heap.size kind p n c q m f w2.heap.size (.slice Option.none 0 0) ⟨[],0⟩:=
  ⟨⟨heap_alloc_new w2 _,World.ownsRow_nil _ _ _ _,(fun x hx=>by cases hx),(fun h=>absurd rfl h)⟩,HN2.out.later ((Below.refl _ _).alloc (Nat.le_refl _) _),by simp [Value.ownBlock],by omega,HB2.out.alloc HB2.out.size _,HB2.out.size⟩
 go_upto_region 4 with fail
 generalize w2.alloc (.cells #[.slice Option.none 0 0,.int .i64 0] 291)=w3 at *
 generalize w2.heap.size=g at *
 have HC3:=Lib.hid hec
 obtain ⟨t0,t1,t2⟩:=hec.node.cells
 clear hec
 -- the kind,how many rows
 go_upto_region 5 with (go_at_call 238;refine (byte_any ⟨[],0⟩ kind HKD.out w.heap.size g _ w3 HC3.out.ws (by simp) HC3.out.low.size).mono ?_;rintro _ w4 ⟨rfl,v4,h9,k9⟩;have HC4:=Lib.hid (HC3.out.step h9 k9);clear h9 k9)
 clear t0 t1 t2
 obtain ⟨t0,t1,t2⟩:=HC4.out.node.cells
 go_upto_region 6 with (go_at_call 238;refine (byte_any _ n (by have:=HN4.out;omega) w.heap.size g _ w4 HC4.out.ws (by simp [St.put]) HC4.out.low.size).mono ?_;rintro _ w5 ⟨rfl,v5,h9,k9⟩;have hc5:=HC4.out.step h9 k9;rw [show (((St.mk [] 0).put [kind]).put [n])=⟨[kind,n],0⟩ from rfl] at hc5;have HC5:=Lib.hid hc5;clear h9 k9 hc5)
 clear t0 t1 t2 HC4 HC3
 obtain ⟨t0,t1,t2⟩:=HC5.out.node.cells
 go_wp2_with fail
 go_loopw [26] (fun i wr=>Ec1 w w.heap.size kind p n c q m f g E [kind,n] i wr) (fun i _=>n - (intOf i).toNat)
 case atStart=>exact ⟨0,v5,[kind,n],by omega,rfl,by simp,by simp,HC5.out⟩
 case round=>
  obtain ⟨k,v,Y,hk,rfl,hY,hYl,hec⟩:=hrel
  have HC:=Lib.hid hec
  have HY:=Lib.hid hY
  have HYL:=Lib.hid hYl
  have hn4:=HN4.out
  clear hec hY hYl HC5 t0 t1 t2
  by_cases hlt:k<n
  ·obtain ⟨g1,o1,rfl,c1,c2,hok⟩:=HEW.out.get k hlt
   have i1:(0:Int)≤k∧(k:Int)<n:=by omega
   have hlen:k<E.length:=by rw [← HES.out];exact hlt
   have HS:=Lib.hid (flat_succ (fun e:En=>e.pe.bytes) E k hlen)
   have hr8:=HFR.out _ (getD_mem E k hlen)
   have c1:=(HC.out.low.cell (block_lt_of_cell c1)).trans c1
   have c2:=(HC.out.low.cell (block_lt_of_cell c2)).trans c2
   generalize E.getD k default=e at *
   have HOK:=Lib.hid hok
   have HR8:=Lib.hid hr8
   simp only [Rw.val] at c1
   clear hok hr8
   go_upto_region 9 with fail
   obtain ⟨z0,z1⟩:=pair_alloc wr (.slice e.row.p e.row.n e.row.c) (.bool e.live) 85
   have HCA:=Lib.hid (HC.out.later (show Below wr.heap.size wr (wr.alloc (.cells #[.slice e.row.p e.row.n e.row.c,.bool e.live] 85)) from (Below.refl _ _).alloc (Nat.le_refl _) _))
   have HFX:=Lib.hid HC.out.fresh
   generalize wr.alloc (.cells #[.slice e.row.p e.row.n e.row.c,.bool e.live] 85)=wa at *
   generalize wr.heap.size=gx at *
   clear c1 c2
   go_upto_region 10 with (go_at_call 239;refine (truth_any ⟨Y,0⟩ e.live w.heap.size g _ wa HCA.out.ws (by have:=HYL.out;simp only [];omega) HCA.out.low.size).mono ?_;rintro _ w6 ⟨rfl,v6,h9,k9⟩;have z0:=HCA.out.cell_keep k9 HFX.out.1 HFX.out.2 z0;have HC6:=Lib.hid (HCA.out.step h9 k9);have HO6:=Lib.hid (show w6.heap.size≥wa.heap.size from k9.size);clear h9 k9)
   have HR6:=Lib.hid (show (St.mk Y 0).truth e.live=⟨Y++[if e.live then 1 else 0],0⟩ from rfl)
   rw [HR6.out] at HC6
   clear z1 HCA HR6
   have hrow:=roww_any ⟨Y++[if e.live then 1 else 0],0⟩ e.row.R _ _ _ w.heap.size g v6 w6 HC6.out.ws (HOK.out.later HC6.out.low).ints (by have:=HYL.out;have:=HR8.out;simp only [List.length_append,List.length_cons,List.length_nil];omega) HC6.out.low.size (fun x hx hR=>by have h8:=rintsLt HOK.out.ints hx hR;exact ⟨fun e=>by have:=HC6.out.lg;omega,fun e=>by have:=(HC6.out.ws.own.lt _ e).1;omega⟩)
   rw [put_row HR8.out] at hrow
   have HROW:=Lib.hid hrow
   clear hrow
   go_wp2_with (go_at_call 240;refine HROW.out.mono ?_;rintro _ w7 ⟨rfl,v7,h9,k9⟩;have HC7:=Lib.hid (HC6.out.step h9 k9);clear h9 k9)
   go_roundw
   case rel=>
    refine ⟨k+1,v7,(Y++[if e.live then 1 else 0])++rowBs e.row.R,by omega,by go_num,?_,?_,HC7.out⟩
    ·rw [HS.out,HY.out]
     cases hlv:e.live<;>simp [PE.bytes,En.pe,hlv]
    ·have:=HYL.out
     have:=HR8.out
     simp only [List.length_append,List.length_cons,List.length_nil,rowBs_length]
     omega
   case measure=>simp [intOf];omega
  ·obtain rfl:n=k:=by omega
   have e0:E.take n=E:=List.take_of_length_le (by rw [← HES.out];exact Nat.le_refl _)
   rw [e0] at HY
   have HYB:=Lib.hid (show Y.length≤300 from by have:=HYL.out;omega)
   clear e0 hlt hk HYL
   obtain ⟨t0,t1,t2⟩:=HC.out.node.cells
   go_upto_region 13 with (go_at_call 238;refine (byte_any ⟨Y,0⟩ m (by have:=HM4.out;omega) w.heap.size g _ wr HC.out.ws (by have:=HYB.out;simp only [];omega) HC.out.low.size).mono ?_;rintro _ w5 ⟨rfl,v5,h9,k9⟩;have hc5:=HC.out.step h9 k9;rw [show ((St.mk Y 0).put [m])=⟨Y++[m],0⟩ from rfl] at hc5;have HC5:=Lib.hid hc5;clear h9 k9 hc5)
   clear t0 t1 t2 HC
   obtain ⟨t0,t1,t2⟩:=HC5.out.node.cells
   go_wp2_with fail
   go_loopw [45] (fun i wr=>Ec2 w w.heap.size kind p n c q m f g K (Y++[m]) i wr) (fun i _=>m - (intOf i).toNat)
   case atStart=>exact ⟨0,v5,Y++[m],by omega,rfl,by simp,by have:=HYB.out;simp;omega,HC5.out⟩
   case round=>
    obtain ⟨k,v,Z,hk,rfl,hZ,hZl,hec⟩:=hrel
    have HC:=Lib.hid hec
    have HZ':=Lib.hid hZ
    have HZL:=Lib.hid hZl
    have hm4:=HM4.out
    clear hec hZ hZl HC5 t0 t1 t2
    by_cases hlt:k<m
    ·obtain ⟨g1,o1,rfl,hrg,hok⟩:=HKW.out.get k hlt
     have i1:(0:Int)≤k∧(k:Int)<m:=by omega
     have hlen:k<K.length:=by rw [← HKS.out];exact hlt
     have HS:=Lib.hid (flat_succ (fun e:Kd=>e.pk.bytes) K k hlen)
     have hfit:=HFK.out _ (getD_mem K k hlen)
     generalize K.getD k default=e at *
     have HR:=Lib.hid (range_later hrg HC.out.low)
     have HOK:=Lib.hid hok
     have HFIT:=Lib.hid hfit
     have HCL:=Lib.hid (Kd.cells_length hok.len)
     have hz0:=HZ.out.1
     clear hok hfit hrg
     go_upto_region 16 with (first
      | (refine wpList_load_mid (by rfl) 34 _ (by rfl) g1 (o1+k*37) (by rfl) e.cells du HR.out HD.out HDR.out (by rw [HCL.out];exact SKd) ?_)
      | (refine wpList_store_row (by rfl) 34 (.tmp 10) (.tmp 48) (by rfl) wr.heap.size e.cells.toArray (by rfl) (by rfl) _ _ (heap_alloc_new wr _) (by rw [List.size_toArray,HCL.out];exact SKd) (by simp only [List.size_toArray,HCL.out,kd0_size]) (all_oneCell_toArray Kd.one) ?_;rw [setRow_alloc]))
     have HRR:=Lib.hid (range_kd (heap_alloc_new wr (.cells e.cells.toArray 34)))
     have HCA:=Lib.hid (HC.out.later (show Below wr.heap.size wr (wr.alloc (.cells e.cells.toArray 34)) from (Below.refl _ _).alloc (Nat.le_refl _) _))
     generalize wr.alloc (.cells e.cells.toArray 34)=wa at *
     clear hz0 HC
     have HW:=Lib.hid (wkid_any w e HOK.out HFIT.out ⟨Z,0⟩ g v wa HCA.out.ws (by have:=HZL.out;simp only [];omega) HCA.out.low HCA.out.lg)
     go_wp2_with (first
      | (refine wpList_load_mid (by rfl) 34 _ (by rfl) _ 0 (by rfl) e.cells du HRR.out HD.out HDR.out (by rw [HCL.out];exact SKd) ?_)
      | (go_at_call 241;refine HW.out.mono ?_;rintro _ w7 ⟨rfl,v7,h9,k9⟩;have HC7:=Lib.hid (HCA.out.step h9 k9);clear h9 k9))
     go_roundw
     case rel=>
      refine ⟨k+1,v7,Z++e.pk.bytes,by omega,by go_num,?_,?_,HC7.out⟩
      ·rw [HS.out,HZ'.out]
       simp
      ·have:=HZL.out
       have:=kid_bytes_len HFIT.out HOK.out.len
       simp only [List.length_append]
       omega
     case measure=>simp [intOf];omega
    ·obtain rfl:m=k:=by omega
     have e0:K.take m=K:=List.take_of_length_le (by rw [← HKS.out];exact Nat.le_refl _)
     rw [e0] at HZ'
     have he:Z=(pnOf kind E K).bytes:=by
      have hn9:=HES.out
      have hm9:=HKS.out
      have hn4:=HN4.out
      rw [HZ'.out,HY.out]
      unfold PN.bytes pnOf
      simp only [List.length_map,List.flatMap_map]
      rw [← hn9,← hm9,Nat.mod_eq_of_lt (show n<256 by omega),Nat.mod_eq_of_lt (show m<256 by omega)]
      simp
     rw [he] at HC
     have HLZ:=Lib.hid (show (pnOf kind E K).bytes.length<1099511627776 from by rw [← he];have:=HZL.out;omega)
     clear he HZ' HY e0
     go_wp2_with (go_at_call 242;refine (wbytes_any ⟨(pnOf kind E K).bytes,0⟩ w.heap.size g v wr HC.out.ws HLZ.out).mono ?_;rintro _ w7 ⟨q7,c7,rfl,o7,b7⟩;have HO7:=Lib.hid o7;have HB7:=Lib.hid b7;clear o7 b7)
     go_ret2
     exact ⟨HC.out.low.trans (HB7.out.mono HC.out.low.size),Or.inl ⟨HX.out,q7,c7,rfl,owns_base HO7.out HC.out.low.size,HC.out.ws.ok⟩⟩
end Go.Proofs.YtinihaflmdihaaaGreat.Nd
namespace Go.Proofs.YtinihaflmdihaaaGreat
open Go.RowKit
open List renaming setIfInBounds_toArray → sA, set_cons_zero → sZ, set_cons_succ → sS
structure RS (w:World) (g:Nat) (p:Option Addr) (n c:Nat) (s:Rd):Prop where
 row:w.heap[g]? =some (.cells #[.slice p n c,.int .i64 s.e] 251 (0,0))
 tx:Tx w p n c s.R
 lo:∀x,p=some x→s.R≠[]→x.block<g
def RSx (w:World) (g:Nat) (s:Rd):Prop:=∃p n c,RS w g p n c s
theorem RS.lt {w:World} {g:Nat} {p:Option Addr} {n c:Nat} {s:Rd} (h:RS w g p n c s):g<w.heap.size:=(Array.getElem?_eq_some_iff.1 h.row).1
theorem RS.err {w:World} {g:Nat} {p:Option Addr} {n c:Nat} {s:Rd} (h:RS w g p n c s):w.cell? ⟨g,1,none⟩=some (.int .i64 s.e):=(cell_of_row w g 1 _ _ _ h.row).trans rfl
theorem RS.rest {w:World} {g:Nat} {p:Option Addr} {n c:Nat} {s:Rd} (h:RS w g p n c s):w.cell? ⟨g,0,none⟩=some (.slice p n c):=(cell_of_row w g 0 _ _ _ h.row).trans rfl
theorem RS.fz {w:World} {g:Nat} {p:Option Addr} {n c:Nat} {s:Rd} (h:RS w g p n c s) (j:Nat):w.frozen? ⟨g,j,none⟩=false:=frozen_of_row w g j _ _ h.row
theorem RS.later {w w':World} {g:Nat} {p:Option Addr} {n c:Nat} {s:Rd} (h:RS w g p n c s) (hb:Below w.heap.size w w'):RS w' g p n c s:=
 ⟨(hb.block _ h.lt).trans h.row,h.tx.later hb,h.lo⟩
theorem RSx.later {w w':World} {g:Nat} {s:Rd} (h:RSx w g s) (hb:Below w.heap.size w w'):RSx w' g s:=by
 obtain ⟨p,n,c,h⟩:=h
 exact ⟨p,n,c,h.later hb⟩
theorem RSx.lt {w:World} {g:Nat} {s:Rd} (h:RSx w g s):g<w.heap.size:=by
 obtain ⟨p,n,c,h⟩:=h
 exact h.lt
theorem tx_other {w:World} {g:Nat} {p q:Option Addr} {n c m d:Nat} {e:Nat} {B:List Nat} (hr:w.heap[g]? =some (.cells #[.slice p n c,.int .i64 e] 251 (0,0))) (h:Tx w q m d B):∀x,q=some x→B≠[]→x.block≠g:=by
 intro x hx hB hg
 subst hx
 have h0:=h.cells 0 _ (vals_get _ 0 (List.length_pos_iff.2 hB))
 have e0:x.add 0=x:=by simp [Addr.add]
 rw [e0] at h0
 simp only [World.cell?,hg,hr] at h0
 split at h0<;>simp_all
 match hx:x.off with
 | 0=>rw [hx] at h0;simp at h0
 | 1=>rw [hx] at h0;simp at h0
 | k+2=>rw [hx] at h0;simp at h0
def RPost (w:World) (g:Nat) (v:Value) (s:Rd) (e:Ending) (w':World):Prop:=e= .returned v∧RSx w' g s∧w.grownBy w' (some g)
theorem rrefuse_any (s:Rd) (k:Nat) (g:Nat) (w:World) (hs:RSx w g s):
  Calls Tryz.prog 198 #[.pointer (some ⟨g,0,none⟩),.int .i64 k] w (RPost w g (.tuple #[]) (s.refuse k)):=by
 obtain ⟨p,n,c,hs⟩:=hs
 have h1:=hs.err
 have f1:=hs.fz 1
 have HS:=Lib.hid hs
 clear hs
 by_cases he:s.e=0
 ·have e:s.refuse k=⟨s.R,k⟩:=by unfold Rd.refuse;rw [if_pos he]
  rw [he] at h1
  rw [e]
  clear he e
  go_enter Tryz.func198,Tryz.ntmps198
  go_wp2_with fail
  go_end0
  have r1:=heap_setCell_same w g 1 _ _ (.int .i64 k) HS.out.row
  refine ⟨rfl,⟨p,n,c,r1,HS.out.tx.grown (grown_setCell w g 1 _) (tx_other HS.out.row HS.out.tx),HS.out.lo⟩,grown_setCell w g 1 _⟩
 ·have e:s.refuse k=s:=by unfold Rd.refuse;rw [if_neg he]
  have b1:((s.e:Int)==0)=false:=by simp;omega
  rw [e]
  clear he e
  go_enter Tryz.func198,Tryz.ntmps198
  go_wp2_with fail
  go_end0
  exact ⟨rfl,⟨p,n,c,HS.out⟩,⟨rfl,rfl,rfl,Nat.le_refl _,fun _ _ _=>rfl⟩⟩
def TakePost (w:World) (g:Nat) (s:Rd) (n:Nat) (e:Ending) (w':World):Prop:=∃q c,e= .returned (.slice q (s.part n).length c)∧Tx w' q (s.part n).length c (s.part n)∧RSx w' g (s.past n)∧w.grownBy w' (some g)
theorem take_any (s:Rd) (n:Nat) (g:Nat) (w:World) (hs:RSx w g s) (hn:n<9223372036854775808) (hl:s.R.length<1099511627776):
  Calls Tryz.prog 232 #[.pointer (some ⟨g,0,none⟩),.int .i64 n] w (TakePost w g s n):=by
 obtain ⟨p,m,c,hs⟩:=hs
 have h0:=hs.rest
 have h1:=hs.err
 have hm:=hs.tx.size
 have hmc:=hs.tx.le
 have hml:m<1099511627776:=by omega
 have HM:=Lib.hid hm
 have HS:=Lib.hid hs
 clear hs hm
 by_cases hlt:m<n
 ·have b1:(m:Int)<n:=by omega
  have e:¬s.fits n:=fun h=>by have:=h.2;have:=HM.out;omega
  have e1:s.part n=[]:=by unfold Rd.part;rw [if_neg e]
  have e2:s.past n=s.refuse 20:=by unfold Rd.past;rw [if_neg e]
  unfold TakePost
  rw [e1,e2]
  clear e e1 e2 h1
  go_enter Tryz.func232,Tryz.ntmps232
  go_wp2_with fail
  refine (rrefuse_any s 20 g _ ⟨p,m,c,HS.out⟩).mono ?_
  rintro e w1 hp
  obtain ⟨rfl,⟨p1,m1,c1,h2⟩,h3⟩:=hp
  have h4:=h2.err
  have b2:(((s.refuse 20).e:Int) !=0)=true:=by
   unfold Rd.refuse
   split<;>simp
   assumption
  have H2:=Lib.hid h2
  have H3:=Lib.hid h3
  clear h2 h3
  go_wp2_with fail
  go_ret
  exact ⟨none,0,rfl,tx_nil _,⟨p1,m1,c1,H2.out⟩,H3.out⟩
 ·have b1:¬(m:Int)<n:=by omega
  by_cases he:s.e=0
  ·have e:s.fits n:=⟨he,by have:=HM.out;omega⟩
   have e1:s.part n=s.R.take n:=by unfold Rd.part;rw [if_pos e]
   have e2:s.past n=⟨s.R.drop n,0⟩:=by unfold Rd.past;rw [if_pos e]
   have e3:(s.R.take n).length=n:=by rw [List.length_take];have:=HM.out;omega
   unfold TakePost
   rw [e1,e2,e3]
   rw [he] at h1
   clear e e1 e2 e3
   have f0:=HS.out.fz 0
   have HE:=Lib.hid he
   clear he
   have b3:(0:Int)≤n:=by omega
   by_cases hcn:c=n
   ·subst hcn
    obtain rfl:m=c:=by omega
    go_enter Tryz.func232,Tryz.ntmps232
    go_wp2_with fail
    go_ret
    have r1:=heap_setCell_same w g 0 _ _ (.slice p 0 0) HS.out.row
    rw [HE.out] at r1
    have hd:s.R.drop m=[]:=List.drop_eq_nil_of_le (by have:=HM.out;omega)
    refine ⟨p,m,rfl,(HS.out.tx.take m (Nat.le_refl _)).grown (grown_setCell w g 0 _) (tx_other HS.out.row (HS.out.tx.take m (Nat.le_refl _))),?_,grown_setCell w g 0 _⟩
    rw [hd]
    exact ⟨p,0,0,r1,HS.out.tx.nothing.grown (grown_setCell w g 0 _) (fun x hx h=>absurd rfl h),fun x hx h=>absurd rfl h⟩
   ·go_enter Tryz.func232,Tryz.ntmps232
    go_wp2_with fail
    go_ret
    have r1:=heap_setCell_same w g 0 _ _ (.slice (Option.map (fun x=>x.add n) p) (m - n) (c - n)) HS.out.row
    rw [HE.out] at r1
    have t1:=HS.out.tx.take n (by omega)
    have t2:=HS.out.tx.drop n (by omega)
    exact ⟨p,c,rfl,t1.grown (grown_setCell w g 0 _) (tx_other HS.out.row t1),⟨_,_,_,r1,t2.grown (grown_setCell w g 0 _) (tx_other HS.out.row t2),fun x hx h=>lo_drop HS.out.lo n x hx h⟩,grown_setCell w g 0 _⟩
  ·have e:¬s.fits n:=fun h=>he h.1
   have e1:s.part n=[]:=by unfold Rd.part;rw [if_neg e]
   have e2:s.past n=s:=by unfold Rd.past Rd.refuse;rw [if_neg e,if_neg he]
   have b2:((s.e:Int) !=0)=true:=by simp;omega
   unfold TakePost
   rw [e1,e2]
   clear e e1 e2 he
   go_enter Tryz.func232,Tryz.ntmps232
   go_wp2_with fail
   go_ret
   exact ⟨none,0,rfl,tx_nil _,⟨p,m,c,HS.out⟩,grown_same _ _⟩
theorem shl8_or {m b:Nat} (hm:m<72057594037927936) (hb:b<256):bits .or .u64 ((m:Int)*256) (b:Int)=((m*256+b:Nat):Int):=by
 rw [show (m:Int)*256=((m*256:Nat):Int) from by omega,u64_or_nat _ _ (by omega) (by omega)]
 have:m*256||| b=m*256+b:=by
  have h:=Nat.shiftLeft_add_eq_or_of_lt (i:=8) (b:=b) (by omega) m
  rw [Nat.shiftLeft_eq] at h
  exact h.symm
 rw [this]
def RVRel (w:World) (g:Nat) (s:Rd) (B:List Nat) (q:Option Addr) (c:Nat) (a i:Value) (wr:World):Prop:=
 ∃k:Nat,k≤B.length∧i= .int .i64 k∧a= .int .u64 (Cm.val (B.take k):Nat)∧Tx wr q B.length c B∧RSx wr g s∧w.grownBy wr (some g)
theorem rvalue_any (s:Rd) (n:Nat) (g:Nat) (w:World) (hs:RSx w g s) (hn:n≤8) (hl:s.R.length<1099511627776):
  Calls Tryz.prog 193 #[.pointer (some ⟨g,0,none⟩),.int .i64 n] w (RPost w g (.int .u64 (Cm.val (s.part n):Nat)) (s.past n)):=by
 have HS:=Lib.hid hs
 have HL:=Lib.hid hl
 clear hs hl
 go_enter Tryz.func193,Tryz.ntmps193
 go_wp2_with fail
 refine (take_any s n g _ HS.out (by omega) HL.out).mono ?_
 rintro e w1 hp
 obtain ⟨q,c,rfl,h1,h2,h3⟩:=hp
 have hpl:=Rd.part_len s n
 generalize s.part n=B at *
 generalize s.past n=s1 at *
 have H1:=Lib.hid h1
 have H2:=Lib.hid h2
 have H3:=Lib.hid h3
 clear h1 h2 h3 HS
 go_wp2_with fail
 go_loopw [5,12] (fun a i wr=>RVRel w g s1 B q c a i wr) (fun _ i _=>B.length - (intOf i).toNat)
 case atStart=>exact ⟨0,by omega,rfl,rfl,H1.out,H2.out,H3.out⟩
 case round=>
  obtain ⟨k,hk,rfl,rfl,h4,h5,h6⟩:=hrel
  have H4:=Lib.hid h4
  have H5:=Lib.hid h5
  have H6:=Lib.hid h6
  clear h4 h5 h6 H1 H2 H3
  by_cases hlt:k<B.length
  ·obtain ⟨g1,o1,hp,hx⟩:=H4.out.bytes.ne (by rintro rfl;simp at hlt)
   subst hp
   have hc:=hx k hlt
   have hle:=H4.out.le
   have hb8:B.getD k 0<256:=Sm.getD_lt H4.out.ok (by omega) k
   have hvl:Cm.val (B.take k)<256^(B.take k).length:=Cm.val_lt (fun x hx=>H4.out.ok x (List.mem_of_mem_take hx))
   have hv7:Cm.val (B.take k)<72057594037927936:=Nat.lt_of_lt_of_le hvl (pow256 _ (by rw [List.length_take];omega))
   have hst:Cm.val (B.take (k+1))=Cm.val (B.take k)*256+B.getD k 0:=by rw [take_snoc B k hlt,Cm.val_snoc]
   have HST:=Lib.hid hst
   clear hst hvl hx
   generalize Cm.val (B.take k)=m at *
   generalize B.getD k 0=b at *
   have hor:=shl8_or hv7 hb8
   have HOR:=Lib.hid hor
   clear hor
   go_wp2_with fail
   rw [HOR.out]
   go_roundw
   case rel=>exact ⟨k+1,by omega,by go_num,by rw [HST.out],H4.out,H5.out,H6.out⟩
   case measure=>simp [intOf];omega
  ·obtain rfl:k=B.length:=by omega
   rw [List.take_length]
   go_wp2_with fail
   go_ret
   exact ⟨rfl,H5.out,H6.out⟩
theorem rbyte_any (s:Rd) (g:Nat) (w:World) (hs:RSx w g s) (hl:s.R.length<1099511627776):
  Calls Tryz.prog 145 #[.pointer (some ⟨g,0,none⟩)] w (RPost w g (.int .u8 (Cm.val (s.part 1):Nat)) (s.past 1)):=by
 have hok:Sm.allB s.R:=by obtain ⟨p,n,c,h⟩:=hs;exact h.tx.ok
 have h3:=val1 hok
 have hv:=rvalue_any s 1 g w hs (by omega) hl
 generalize Cm.val (s.part 1)=x at *
 have HV:=Lib.hid hv
 have e8:IntKind.u8.wrap (x:Int)=(x:Nat):=by rw [IntKind.wrap_u8];omega
 clear hs hv hok
 go_enter Tryz.func145,Tryz.ntmps145
 go_wp2_with fail
 refine HV.out.mono ?_
 rintro e w1 hp
 obtain ⟨rfl,h1,h2⟩:=hp
 have H1:=Lib.hid h1
 have H2:=Lib.hid h2
 clear h1 h2
 go_wp2_with fail
 go_ret
 exact ⟨rfl,H1.out,H2.out⟩
theorem sign_back {n:Int} (h1: -9223372036854775808≤n) (h2:n≤9223372036854775807):IntKind.i64.wrap (bits .xor .u64 ((Cm.z64 n:Nat):Int) 9223372036854775808)=n:=by
 have hz:=(Cm.z64_lt h1 h2).2
 by_cases h:n<0
 ·have:=Cm.sign_int (n:=n+9223372036854775808) (by omega) (by omega)
  rw [Cm.wrap_u64,show (n+9223372036854775808)%18446744073709551616=((Cm.z64 n:Nat):Int) from by omega] at this
  rw [this,(Cm.z64_lt (n:=n+9223372036854775808) (by omega) (by omega)).2,IntKind.wrap_i64]
  omega
 ·have:=Cm.sign_int (n:=n - 9223372036854775808) (by omega) (by omega)
  rw [Cm.wrap_u64,show (n - 9223372036854775808)%18446744073709551616=((Cm.z64 n:Nat):Int) from by omega] at this
  rw [this,(Cm.z64_lt (n:=n - 9223372036854775808) (by omega) (by omega)).2,IntKind.wrap_i64]
  omega
theorem RSx.low {w w':World} {g:Nat} {s:Rd} (h:RSx w g s) (hb:Below (g+1) w w'):RSx w' g s:=by
 obtain ⟨p,n,c,h⟩:=h
 refine ⟨p,n,c,(hb.block g (Nat.lt_succ_self g)).trans h.row,⟨h.tx.size,h.tx.le,h.tx.ok,h.tx.at'.imp id fun ⟨x,hp,hx⟩=>⟨x,hp,fun j u hu=>?_⟩,h.tx.sp⟩,h.lo⟩
 have hB:s.R≠[]:=by rintro e;rw [e] at hu;simp [vals] at hu
 have hb2:(x.add j).block=x.block:=by cases x;simp [Addr.add];split<;>rfl
 exact (hb.cell (p:=x.add j) (by rw [hb2];exact Nat.lt_succ_of_lt (h.lo x hp hB))).trans (hx j u hu)
theorem below_setCells {w:World} (k o:Nat) (vs:List Value) (B:Nat) (hB:B≤k):Below B w (w.setCells k o vs):=by
 obtain ⟨h1,h2,h3,h4⟩:=size_setCells k vs o w
 exact ⟨h2,h3,h4,by omega,fun j hj=>heap_setCells_other k vs o w j (by omega)⟩
theorem atmost_any (s:Rd) (most n:Int) (g:Nat) (w:World) (hs:RSx w g s):
  Calls Tryz.prog 233 #[.pointer (some ⟨g,0,none⟩),.int .i64 most,.int .i64 n] w (RPost w g (.int .i64 (if most<n then 0 else n)) (if most<n then s.refuse 10 else s)):=by
 have HS:=Lib.hid hs
 clear hs
 by_cases h:most<n
 ·rw [if_pos h,if_pos h]
  go_enter Tryz.func233,Tryz.ntmps233
  go_wp2_with fail
  refine (rrefuse_any s 10 g _ HS.out).mono ?_
  rintro e w1 hp
  obtain ⟨rfl,h2,h3⟩:=hp
  have H2:=Lib.hid h2
  have H3:=Lib.hid h3
  clear h2 h3
  go_wp2_with fail
  go_ret
  exact ⟨rfl,H2.out,H3.out⟩
 ·rw [if_neg h,if_neg h]
  go_enter Tryz.func233,Tryz.ntmps233
  go_wp2_with fail
  go_ret
  exact ⟨rfl,HS.out,grown_same _ _⟩
theorem rcount_any (s:Rd) (most:Int) (g:Nat) (w:World) (hs:RSx w g s) (hl:s.R.length<1099511627776):
  Calls Tryz.prog 197 #[.pointer (some ⟨g,0,none⟩),.int .i64 most] w (RPost w g (.int .i64 (s.countV most)) (s.count most)):=by
 have hok:Sm.allB s.R:=by obtain ⟨p,n,c,h⟩:=hs;exact h.tx.ok
 have h3:=val3 hok
 have hva:=rvalue_any s 3 g w hs (by omega) hl
 clear hs hok
 by_cases hc:min most 1048576<((Cm.val (s.part 3):Nat):Int)
 ·have e1:s.countV most=0:=by unfold Rd.countV;rw [if_pos hc]
  have e2:s.count most=(s.past 3).refuse 10:=by unfold Rd.count;rw [if_pos hc]
  rw [e1,e2]
  clear e1 e2
  generalize Cm.val (s.part 3)=m at *
  have HC:=Lib.hid hc
  clear hc
  go_enter Tryz.func197,Tryz.ntmps197
  go_wp2_with fail
  refine hva.mono ?_
  rintro e w1 hp
  obtain ⟨rfl,h4,h5⟩:=hp
  have H4:=Lib.hid h4
  have H5:=Lib.hid h5
  clear h4 h5 hva
  go_wp2_with fail
  have hat:=atmost_any (s.past 3) (min most 1048576) m g _ H4.out
  rw [if_pos HC.out,if_pos HC.out] at hat
  refine hat.mono ?_
  rintro e w2 hp
  obtain ⟨rfl,h6,h7⟩:=hp
  have H6:=Lib.hid h6
  have H7:=Lib.hid (grown_twice H5.out h7)
  clear h6 h7 hat
  go_wp2_with fail
  go_ret
  exact ⟨rfl,H6.out,H7.out⟩
 ·have e1:s.countV most=((Cm.val (s.part 3):Nat):Int):=by unfold Rd.countV;rw [if_neg hc]
  have e2:s.count most=s.past 3:=by unfold Rd.count;rw [if_neg hc]
  rw [e1,e2]
  clear e1 e2
  generalize Cm.val (s.part 3)=m at *
  have HC:=Lib.hid hc
  clear hc
  go_enter Tryz.func197,Tryz.ntmps197
  go_wp2_with fail
  refine hva.mono ?_
  rintro e w1 hp
  obtain ⟨rfl,h4,h5⟩:=hp
  have H4:=Lib.hid h4
  have H5:=Lib.hid h5
  clear h4 h5 hva
  go_wp2_with fail
  have hat:=atmost_any (s.past 3) (min most 1048576) m g _ H4.out
  rw [if_neg (Int.not_lt.mpr HC.out),if_neg (Int.not_lt.mpr HC.out)] at hat
  refine hat.mono ?_
  rintro e w2 hp
  obtain ⟨rfl,h6,h7⟩:=hp
  have H6:=Lib.hid h6
  have H7:=Lib.hid (grown_twice H5.out h7)
  clear h6 h7 hat
  go_wp2_with fail
  go_ret
  exact ⟨rfl,H6.out,H7.out⟩
end Go.Proofs.YtinihaflmdihaaaGreat
namespace Go.Proofs.YtinihaflmdihaaaGreat.Nd
open Go.RowKit
open List renaming setIfInBounds_toArray → sA, set_cons_zero → sZ, set_cons_succ → sS
theorem part1 (s:Rd):s.part 1=[]∨∃b,s.part 1=[b]:=by
 have h:=Rd.part_len s 1
 match hp:s.part 1 with
 |[]=>exact Or.inl rfl
 |[b]=>exact Or.inr ⟨b,rfl⟩
 | a::b::L=>rw [hp] at h;simp at h
theorem val_one (b:Nat):Cm.val [b]=b:=by simp [Cm.val]
def _root_.Go.Proofs.YtinihaflmdihaaaGreat.Rd.truth (s:Rd):Rd:=if (s.past 1).e=0∧1<Cm.val (s.part 1) then ⟨(s.past 1).R,21⟩ else s.past 1
def _root_.Go.Proofs.YtinihaflmdihaaaGreat.Rd.truthV (s:Rd):Bool:=decide ((s.past 1).e=0∧Cm.val (s.part 1)=1)
theorem part_nk (s:Rd) (n:Nat):s.part n=[]∨(s.part n).length=n:=by
 unfold Rd.part
 split
 ·rename_i h
  exact Or.inr (by rw [List.length_take];have:=h.2;omega)
 ·exact Or.inl rfl
def _root_.Go.Proofs.YtinihaflmdihaaaGreat.Rd.numV (s:Rd):Int:=if s.part 8=[] then 0 else ((Cm.val (s.part 8):Nat):Int) - 9223372036854775808
theorem pow256' (k:Nat) (h:k≤8):256^k≤18446744073709551616:=Nat.le_trans (Nat.pow_le_pow_right (by omega) h) (by decide)
def _root_.Go.Proofs.YtinihaflmdihaaaGreat.Rd.digV (s:Rd):List Nat:=s.part 32++zeros (32 - (s.part 32).length)
theorem digV_length (s:Rd):s.digV.length=32:=by
 have:=Rd.part_len s 32
 simp [Rd.digV,zeros]
 omega
theorem digV_ok {s:Rd} (h:Sm.allB s.R):Sm.allB s.digV:=by
 intro x hx
 rcases List.mem_append.1 hx with k | k
 ·exact Rd.part_ok h 32 x k
 ·exact zeros_ok _ x k
def readN:Nat→Rd→List Int→List Int×Rd
 | 0,s,L=>(L,s)
 | n+1,s,L=>if s.e=0 then readN n (s.past 8) (L++[s.numV]) else (L,s)
theorem readN_go {n:Nat} {s:Rd} {L:List Int} (h:s.e=0) (hn:0<n):readN n s L=readN (n - 1) (s.past 8) (L++[s.numV]):=by
 obtain ⟨m,rfl⟩:∃m,n=m+1:=⟨n - 1,by omega⟩
 show (if s.e=0 then _ else _)=_
 rw [if_pos h]
 rfl
theorem readN_no {n:Nat} {s:Rd} {L:List Int} (h:s.e≠0):readN n s L=(L,s):=by
 cases n with
 | zero=>rfl
 | succ n=>
  show (if s.e=0 then _ else _)=_
  rw [if_neg h]
def _root_.Go.Proofs.YtinihaflmdihaaaGreat.Rd.rowN (s:Rd) (most:Int):Rd:=if (s.past 1).e=0∧most<(Cm.val (s.part 1):Nat) then ⟨(s.past 1).R,10⟩ else s.past 1
def _root_.Go.Proofs.YtinihaflmdihaaaGreat.Rd.row (s:Rd) (most:Int):List Int×Rd:=readN (Cm.val (s.part 1)) (s.rowN most) []
def _root_.Go.Proofs.YtinihaflmdihaaaGreat.Rd.rowV (s:Rd) (most:Int):List Int:=if (s.row most).2.e=0 then (s.row most).1 else []
theorem rowN_len (s:Rd) (most:Int):(s.rowN most).R.length≤s.R.length:=by
 unfold Rd.rowN
 split
 ·exact Rd.past_len s 1
 ·exact Rd.past_len s 1
theorem owns_nil (w:World) (base:Nat):w.ownsRow base 2 1 (.slice none 0 0) 0 (ivs []):=⟨rfl,Or.inl ⟨rfl,rfl⟩⟩
theorem ivs_append (A B:List Int):ivs (A++B)=ivs A++ivs B:=List.map_append ..
end Go.Proofs.YtinihaflmdihaaaGreat.Nd
