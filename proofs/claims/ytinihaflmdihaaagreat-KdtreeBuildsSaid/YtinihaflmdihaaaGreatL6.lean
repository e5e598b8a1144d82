/- NlEncode, CodR, CodRV, CodRByte, CodRLow, CodRCount, NdRd, NlReads, NlRow, CodDgCopy, NlDigest. -/
import Derived.Lib.BitFns
import Derived.Lib.MinMax
import Derived.Test.YtinihaflmdihaaaGreatL5
set_option maxRecDepth 100000
set_option maxHeartbeats 8000000
set_option linter.all false
namespace Go.Proofs.YtinihaflmdihaaaGreat.Nd
open Go.RowKit Go.Proofs.YtinihaflmdihaaaGreat.Wl
theorem x4q {k:PK} {d:Int} (h:k.right d=true):(0≤k.live∧k.live≤1048576)∧(0≤k.size∧k.size≤1048576)∧k.lo.length≤8∧k.hi.length≤8:=by
 unfold PK.right at h
 split at h
 ·rename_i h0
  rw [h0]
  simp [PK.none]
 ·split at h
  ·cases h
  ·split at h
   ·have:=of_decide_eq_true h
    omega
   ·have:=x4l h
    omega
structure PN.Fit (n:PN):Prop where
 rows:n.rows.length≤4
 kids:n.kids.length≤4
 row:∀e∈n.rows,e.row.length≤8
 kid:∀k∈n.kids,k.Fit
theorem PN.fit {n:PN} {d:Int} (h:n.right d=true):n.Fit:=by
 rw [PN.right_shape,Bool.and_eq_true,Bool.and_eq_true,Bool.and_eq_true,decide_eq_true_iff] at h
 obtain ⟨⟨⟨G,A⟩,I⟩,H⟩:=h
 have B:∀e∈n.rows,e.row.length≤8:=fun e he=>by
  have:=of_decide_eq_true (List.all_eq_true.1 I e he)
  omega
 have C:∀(x:Int),x≤8→n.kids.all (PK.keys x)=true→∀k∈n.kids,k.Fit:=fun x hx hh k hkm=>by
  have E:=x4q (List.all_eq_true.1 H k hkm)
  have J:=of_decide_eq_true (List.all_eq_true.1 hh k hkm)
  exact ⟨E.1,E.2.1,E.2.2.1,E.2.2.2,by omega⟩
 unfold PN.shape at A
 split at A
 ·rw [Bool.and_eq_true,Bool.and_eq_true,decide_eq_true_iff,decide_eq_true_iff] at A
  exact ⟨by omega,by omega,B,C 0 (by omega) A.2⟩
 ·split at A
  ·rw [Bool.and_eq_true,Bool.and_eq_true,Bool.and_eq_true,decide_eq_true_iff,decide_eq_true_iff,decide_eq_true_iff] at A
   exact ⟨by omega,by omega,B,fun k hkm=>by rw [List.length_eq_zero_iff.1 A.1.2] at hkm;cases hkm⟩
  ·split at A
   ·rw [Bool.and_eq_true,Bool.and_eq_true,Bool.and_eq_true,decide_eq_true_iff,decide_eq_true_iff,decide_eq_true_iff] at A
    exact ⟨by omega,by omega,B,C d G.2 A.2⟩
   ·cases A
structure EcSt (w0 w:World) (gn kind:Nat) (p:Option Addr) (n c:Nat) (q:Option Addr) (m f:Nat) (g:Nat) (v:Value) (s:St):Prop where
 ws:WS w w0.heap.size g v s
 node:NodeAt w gn kind p n c q m f
 ne:v.ownBlock≠some gn
 ng:gn≠g
 low:Below w0.heap.size w0 w
 lg:w0.heap.size≤g
section
variable {w0 w w':World} {gn kind:Nat} {p:Option Addr} {n c:Nat} {q:Option Addr} {m f g:Nat} {v v':Value} {s s':St}
theorem EcSt.step (h:EcSt w0 w gn kind p n c q m f g v s) (hs:WS w' w0.heap.size g v' s') (k:WStep w w' g v v'):EcSt w0 w' gn kind p n c q m f g v' s':=
 ⟨hs,⟨(k.block _ (yL h.node.row) h.ng h.ne).trans h.node.row⟩,fun e=>by
  rcases k.own _ e with h1 | h1
  ·exact h.ne h1
  ·have:=(yL h.node.row)
   omega,h.ng,h.low.trans (k.below h.lg (fun j hj=>(h.ws.own.lt j hj).1) h.low.size),h.lg⟩
theorem EcSt.later (h:EcSt w0 w gn kind p n c q m f g v s) (hb:Below w.heap.size w w'):EcSt w0 w' gn kind p n c q m f g v s:=
 ⟨h.ws.later hb,h.node.later hb,h.ne,h.ng,h.low.trans (hb.mono h.low.size),h.lg⟩
theorem EcSt.cell_keep {x:Nat} {o:Nat} {u:Value} (_h:EcSt w0 w gn kind p n c q m f g v s) (k:WStep w w' g v v') (hx:x≠g) (hv:v.ownBlock≠some x) (hc:w.cell? ⟨x,o,Option.none⟩=some u):w'.cell? ⟨x,o,Option.none⟩=some u:=
 (World.cell?_of_block (w:=w) (w':=w') (a:=⟨x,o,Option.none⟩) (k.block x (block_lt_of_cell hc) hx hv)).trans hc
theorem EcSt.fresh (h:EcSt w0 w gn kind p n c q m f g v s):w.heap.size≠g∧v.ownBlock≠some w.heap.size:=
 ⟨fun e=>by have:=h.ws.lt;omega,fun e=>by have:=(h.ws.own.lt _ e).2;omega⟩
end
def Ec1 (w0:World) (gn kind:Nat) (p:Option Addr) (n c:Nat) (q:Option Addr) (m f g:Nat) (E:List En) (H:List Nat) (i:Value) (wr:World):Prop:=
 ∃(k:Nat) (v:Value) (X:List Nat),k≤n∧i= .int .i64 k∧X=H++(E.take k).flatMap (fun e=>e.pe.bytes)∧X.length≤2+70*k∧EcSt w0 wr gn kind p n c q m f g v ⟨X,0⟩
def Ec2 (w0:World) (gn kind:Nat) (p:Option Addr) (n c:Nat) (q:Option Addr) (m f g:Nat) (K:List Kd) (H:List Nat) (i:Value) (wr:World):Prop:=
 ∃(k:Nat) (v:Value) (X:List Nat),k≤m∧i= .int .i64 k∧X=H++(K.take k).flatMap (fun e=>e.pk.bytes)∧X.length≤1000+300*k∧EcSt w0 wr gn kind p n c q m f g v ⟨X,0⟩
theorem x3J {k:PK} (h:k.Fit) (hs:k.sum.length=32):k.bytes.length≤300:=by
 unfold PK.bytes
 simp only [List.length_append,Cm.be_length,x0V,hs]
 have:=h.lo;have:=h.hi;have:=h.key
 omega
def y48 (w:World) (n:PN) (d:Int) (e:Ending) (w':World):Prop:=
 Below w.heap.size w w'∧
 ((n.right d=true∧∃q c,e= .returned (.tuple #[.slice q n.bytes.length c,.int .i64 0])∧w'.ownsRow w.heap.size 5 1 (.slice q n.bytes.length c) n.bytes.length (vals n.bytes)∧Sm.allB n.bytes)∨
  (n.right d=false∧e= .returned (.tuple #[.slice Option.none 0 0,.int .i64 1])))
theorem x6K {n:PN} (hk:n.kind<256) (h:∀k∈n.kids,Sm.allB k.sum):Sm.allB n.bytes:=by
 intro x A
 unfold PN.bytes at A
 simp only [List.mem_cons,List.mem_append,List.mem_flatMap] at A
 rcases A with rfl | rfl | ⟨e,_,A⟩ | rfl | ⟨k,B,A⟩
 ·exact hk
 ·exact Nat.mod_lt _ (by omega)
 ·unfold PE.bytes at A
  rcases List.mem_cons.1 A with rfl | A
  ·split<;>omega
  ·exact x0v _ x A
 ·exact Nat.mod_lt _ (by omega)
 ·unfold PK.bytes at A
  simp only [List.mem_append] at A
  rcases A with A | A | A | A | A | A
  ·exact h k B x A
  ·exact Cm.be_ok _ _ x A
  ·exact Cm.be_ok _ _ x A
  ·exact x0v _ x A
  ·exact x0v _ x A
  ·exact x0v _ x A
theorem x5g (kind:Nat) (hkd:kind<256) (p:Option Addr) (n c:Nat) (q:Option Addr) (m f:Nat) (E:List En) (K:List Kd) (d:Int) (w:World) (hE:EntsIn w p n c E) (hK:KidsIn w q m f K):
  Calls Tryz.prog 205 #[.agg #[.int .u8 kind,.slice p n c,.slice q m f],.int .i64 d] w (y48 w (pnOf kind E K) d):=by
 have r:Below w.heap.size w (w.alloc (.cells #[.int .u8 kind,.slice p n c,.slice q m f] 81)):=(Below.refl _ _).alloc (Nat.le_refl _) _
 have hn:=NodeAt.start w kind p n c q m f
 have j:=yH (x3l kind p n c q m f E K d _ (hE.later r) (hK.later r))
 obtain ⟨X,hX⟩:∃X,(pnOf kind E K).right d=X:=⟨_,rfl⟩
 rw [hX] at j
 have HB:=yH r
 have HN:=yH hn
 have Ag:=yH hE
 have AT:=yH hK
 have t:=yH hE.size
 have u:=yH hK.size
 obtain ⟨du,AL,AJ⟩:=UKd
 have HD:=yH AL
 have AE:=yH AJ
 have HZ:=yH (zero_of_info kz)
 clear hE hK r hn AL AJ
 cases X with
 | false=>
  have HX:=yH hX
  clear hX
  go_enter Tryz.func205,Tryz.ntmps205
  go_upto_region 1 with fail
  generalize w.alloc (.cells #[.int .u8 kind,.slice p n c,.slice q m f] 81)=w1 at *
  obtain ⟨N,t1,t2⟩:=HN.out.cells
  go_wp2_with (go_at_call 149;refine j.out.mono ?_;rintro e w2 ⟨rfl,b2⟩;have P:=yH (HB.out.trans (b2.mono HB.out.size));clear b2)
  go_ret2
  exact ⟨P.out,Or.inr ⟨HX.out,rfl⟩⟩
 | true=>
 have U:=PN.fit hX
 have HX:=yH hX
 have l:n≤4:=by have:=U.rows;simp only [pnOf,List.length_map] at this;rw [t.out];exact this
 have A3:m≤4:=by have:=U.kids;simp only [pnOf,List.length_map] at this;rw [u.out];exact this
 have AW:=yH (show ∀e∈E,e.row.R.length≤8 from fun e he=>U.row _ (List.mem_map.2 ⟨e,he,rfl⟩))
 have AU:=yH (show ∀k∈K,k.pk.Fit from fun k hk=>U.kid _ (List.mem_map.2 ⟨k,hk,rfl⟩))
 clear hX U
 have e8:IntKind.u8.wrap (n:Int)=(n:Nat):=by rw [IntKind.wrap_u8];omega
 have e9:IntKind.u8.wrap (m:Int)=(m:Nat):=by rw [IntKind.wrap_u8];omega
 have Ac:=yH hkd
 have A2:=yH l
 have AG:=yH A3
 clear hkd l A3
 go_enter Tryz.func205,Tryz.ntmps205
 go_upto_region 1 with fail
 generalize w.alloc (.cells #[.int .u8 kind,.slice p n c,.slice q m f] 81)=w1 at *
 obtain ⟨N,t1,t2⟩:=HN.out.cells
 go_upto_region 3 with (go_at_call 149;refine j.out.mono ?_;rintro e w2 ⟨rfl,b2⟩;have P:=yH (HB.out.trans (b2.mono HB.out.size));have AK:=yH (HN.out.later b2);clear b2)
 clear N t1 t2 j HN HB
 have Au:w.heap.size<w2.heap.size:=(yL AK.out.row)
 have B:EcSt w (w2.alloc (.cells #[.slice Option.none 0 0,.int .i64 0] 291)) w.heap.size kind p n c q m f w2.heap.size (.slice Option.none 0 0) ⟨[],0⟩:=
  ⟨⟨heap_alloc_new w2 _,World.ownsRow_nil _ _ _ _,(fun x hx=>by cases hx),(fun h=>absurd rfl h)⟩,AK.out.later ((Below.refl _ _).alloc (Nat.le_refl _) _),by simp [Value.ownBlock],by omega,P.out.alloc P.out.size _,P.out.size⟩
 go_upto_region 4 with fail
 generalize w2.alloc (.cells #[.slice Option.none 0 0,.int .i64 0] 291)=w3 at *
 generalize w2.heap.size=g at *
 have o:=yH B
 obtain ⟨N,t1,t2⟩:=B.node.cells
 clear B
 -- the kind,how many rows
 go_upto_region 5 with (go_at_call 238;refine (x22 ⟨[],0⟩ kind Ac.out w.heap.size g _ w3 o.out.ws (by simp) o.out.low.size).mono ?_;rintro _ w4 ⟨rfl,v4,H,G⟩;have O:=yH (o.out.step H G);clear H G)
 clear N t1 t2
 obtain ⟨N,t1,t2⟩:=O.out.node.cells
 go_upto_region 6 with (go_at_call 238;refine (x22 _ n (by have:=A2.out;omega) w.heap.size g _ w4 O.out.ws (by simp [St.put]) O.out.low.size).mono ?_;rintro _ w5 ⟨rfl,v5,H,G⟩;have L:=O.out.step H G;rw [show (((St.mk [] 0).put [kind]).put [n])=⟨[kind,n],0⟩ from rfl] at L;have HC5:=yH L;clear H G L)
 clear N t1 t2 O o
 obtain ⟨N,t1,t2⟩:=HC5.out.node.cells
 go_wp2_with fail
 go_loopw [26] (fun i wr=>Ec1 w w.heap.size kind p n c q m f g E [kind,n] i wr) (fun i _=>n - (intOf i).toNat)
 case atStart=>exact ⟨0,v5,[kind,n],by omega,rfl,by simp,by simp,HC5.out⟩
 case round=>
  obtain ⟨k,v,Y,hk,rfl,hY,AO,B⟩:=hrel
  have C:=yH B
  have HY:=yH hY
  have a:=yH AO
  have l:=A2.out
  clear B hY AO HC5 N t1 t2
  by_cases hlt:k<n
  ·obtain ⟨g1,o1,rfl,c1,c2,M⟩:=Ag.out.get k hlt
   have i1:(0:Int)≤k∧(k:Int)<n:=by omega
   have I:k<E.length:=by rw [← t.out];exact hlt
   have HS:=yH (x3I (fun e:En=>e.pe.bytes) E k I)
   have AD:=AW.out _ (getD_mem E k I)
   have c1:=(C.out.low.cell (block_lt_of_cell c1)).trans c1
   have c2:=(C.out.low.cell (block_lt_of_cell c2)).trans c2
   generalize E.getD k default=e at *
   have W:=yH M
   have A0:=yH AD
   simp only [Rw.val] at c1
   clear M AD
   go_upto_region 9 with fail
   obtain ⟨z0,z1⟩:=x0W wr (.slice e.row.p e.row.n e.row.c) (.bool e.live) 85
   have A:=yH (C.out.later (show Below wr.heap.size wr (wr.alloc (.cells #[.slice e.row.p e.row.n e.row.c,.bool e.live] 85)) from (Below.refl _ _).alloc (Nat.le_refl _) _))
   have AF:=yH C.out.fresh
   generalize wr.alloc (.cells #[.slice e.row.p e.row.n e.row.c,.bool e.live] 85)=wa at *
   generalize wr.heap.size=gx at *
   clear c1 c2
   go_upto_region 10 with (go_at_call 239;refine (y0S ⟨Y,0⟩ e.live w.heap.size g _ wa A.out.ws (by have:=a.out;simp only [];omega) A.out.low.size).mono ?_;rintro _ w6 ⟨rfl,v6,H,G⟩;have z0:=A.out.cell_keep G AF.out.1 AF.out.2 z0;have J:=yH (A.out.step H G);have Az:=yH (show w6.heap.size≥wa.heap.size from G.size);clear H G)
   have AB:=yH (show (St.mk Y 0).truth e.live=⟨Y++[if e.live then 1 else 0],0⟩ from rfl)
   rw [AB.out] at J
   clear z1 A AB
   have Q:=x4Q ⟨Y++[if e.live then 1 else 0],0⟩ e.row.R _ _ _ w.heap.size g v6 w6 J.out.ws (W.out.later J.out.low).ints (by have:=a.out;have:=A0.out;simp only [List.length_append,List.length_cons,List.length_nil];omega) J.out.low.size (fun x hx hR=>by have h8:=x23 W.out.ints hx hR;exact ⟨fun e=>by have:=J.out.lg;omega,fun e=>by have:=(J.out.ws.own.lt _ e).1;omega⟩)
   rw [x6J A0.out] at Q
   have A8:=yH Q
   clear Q
   go_wp2_with (go_at_call 240;refine A8.out.mono ?_;rintro _ w7 ⟨rfl,v7,H,G⟩;have A1:=yH (J.out.step H G);clear H G)
   go_roundw
   case rel=>
    refine ⟨k+1,v7,(Y++[if e.live then 1 else 0])++rowBs e.row.R,by omega,by go_num,?_,?_,A1.out⟩
    ·rw [HS.out,HY.out]
     cases hlv:e.live<;>simp [PE.bytes,En.pe,hlv]
    ·have:=a.out
     have:=A0.out
     simp only [List.length_append,List.length_cons,List.length_nil,x0V]
     omega
   case measure=>simp [intOf];omega
  ·obtain rfl:n=k:=by omega
   have e0:E.take n=E:=List.take_of_length_le (by rw [← t.out];exact Nat.le_refl _)
   rw [e0] at HY
   have HYB:=yH (show Y.length≤300 from by have:=a.out;omega)
   clear e0 hlt hk a
   obtain ⟨N,t1,t2⟩:=C.out.node.cells
   go_upto_region 13 with (go_at_call 238;refine (x22 ⟨Y,0⟩ m (by have:=AG.out;omega) w.heap.size g _ wr C.out.ws (by have:=HYB.out;simp only [];omega) C.out.low.size).mono ?_;rintro _ w5 ⟨rfl,v5,H,G⟩;have L:=C.out.step H G;rw [show ((St.mk Y 0).put [m])=⟨Y++[m],0⟩ from rfl] at L;have HC5:=yH L;clear H G L)
   clear N t1 t2 C
   obtain ⟨N,t1,t2⟩:=HC5.out.node.cells
   go_wp2_with fail
   go_loopw [45] (fun i wr=>Ec2 w w.heap.size kind p n c q m f g K (Y++[m]) i wr) (fun i _=>m - (intOf i).toNat)
   case atStart=>exact ⟨0,v5,Y++[m],by omega,rfl,by simp,by have:=HYB.out;simp;omega,HC5.out⟩
   case round=>
    obtain ⟨k,v,Z,hk,rfl,hZ,AN,B⟩:=hrel
    have C:=yH B
    have s:=yH hZ
    have A5:=yH AN
    have A3:=AG.out
    clear B hZ AN HC5 N t1 t2
    by_cases hlt:k<m
    ·obtain ⟨g1,o1,rfl,AH,M⟩:=AT.out.get k hlt
     have i1:(0:Int)≤k∧(k:Int)<m:=by omega
     have I:k<K.length:=by rw [← u.out];exact hlt
     have HS:=yH (x3I (fun e:Kd=>e.pk.bytes) K k I)
     have z:=AU.out _ (getD_mem K k I)
     generalize K.getD k default=e at *
     have HR:=yH (x02 AH C.out.low)
     have W:=yH M
     have y:=yH z
     have b:=yH (Kd.cells_length M.len)
     have AZ:=HZ.out.1
     clear M z AH
     go_upto_region 16 with (first
      | (refine wpList_load_mid (by rfl) 34 _ (by rfl) g1 (o1+k*37) (by rfl) e.cells du HR.out HD.out AE.out (by rw [b.out];exact SKd) ?_)
      | (refine wpList_store_row (by rfl) 34 (.tmp 10) (.tmp 48) (by rfl) wr.heap.size e.cells.toArray (by rfl) (by rfl) _ _ (heap_alloc_new wr _) (by rw [List.size_toArray,b.out];exact SKd) (by simp only [List.size_toArray,b.out,x01]) (all_oneCell_toArray Kd.one) ?_;rw [x04]))
     have AX:=yH (x0E (heap_alloc_new wr (.cells e.cells.toArray 34)))
     have A:=yH (C.out.later (show Below wr.heap.size wr (wr.alloc (.cells e.cells.toArray 34)) from (Below.refl _ _).alloc (Nat.le_refl _) _))
     generalize wr.alloc (.cells e.cells.toArray 34)=wa at *
     clear AZ C
     have HW:=yH (y2K w e W.out y.out ⟨Z,0⟩ g v wa A.out.ws (by have:=A5.out;simp only [];omega) A.out.low A.out.lg)
     go_wp2_with (first
      | (refine wpList_load_mid (by rfl) 34 _ (by rfl) _ 0 (by rfl) e.cells du AX.out HD.out AE.out (by rw [b.out];exact SKd) ?_)
      | (go_at_call 241;refine HW.out.mono ?_;rintro _ w7 ⟨rfl,v7,H,G⟩;have A1:=yH (A.out.step H G);clear H G))
     go_roundw
     case rel=>
      refine ⟨k+1,v7,Z++e.pk.bytes,by omega,by go_num,?_,?_,A1.out⟩
      ·rw [HS.out,s.out]
       simp
      ·have:=A5.out
       have:=x3J y.out W.out.len
       simp only [List.length_append]
       omega
     case measure=>simp [intOf];omega
    ·obtain rfl:m=k:=by omega
     have e0:K.take m=K:=List.take_of_length_le (by rw [← u.out];exact Nat.le_refl _)
     rw [e0] at s
     have he:Z=(pnOf kind E K).bytes:=by
      have Ab:=t.out
      have Aa:=u.out
      have l:=A2.out
      rw [s.out,HY.out]
      unfold PN.bytes pnOf
      simp only [List.length_map,List.flatMap_map]
      rw [← Ab,← Aa,Nat.mod_eq_of_lt (show n<256 by omega),Nat.mod_eq_of_lt (show m<256 by omega)]
      simp
     rw [he] at C
     have AY:=yH (show (pnOf kind E K).bytes.length<1099511627776 from by rw [← he];have:=A5.out;omega)
     clear he s HY e0
     go_wp2_with (go_at_call 242;refine (x9I ⟨(pnOf kind E K).bytes,0⟩ w.heap.size g v wr C.out.ws AY.out).mono ?_;rintro _ w7 ⟨q7,c7,rfl,o7,b7⟩;have Ah:=yH o7;have Ad:=yH b7;clear o7 b7)
     go_ret2
     exact ⟨C.out.low.trans (Ad.out.mono C.out.low.size),Or.inl ⟨HX.out,q7,c7,rfl,x6x Ah.out C.out.low.size,C.out.ws.ok⟩⟩
end Go.Proofs.YtinihaflmdihaaaGreat.Nd
namespace Go.Proofs.YtinihaflmdihaaaGreat
open Go.RowKit
structure RS (w:World) (g:Nat) (p:Option Addr) (n c:Nat) (s:Rd):Prop where
 row:w.heap[g]? =some (.cells #[.slice p n c,.int .i64 s.e] 251 (0,0))
 tx:Tx w p n c s.R
 lo:∀x,p=some x→s.R≠[]→x.block<g
def RSx (w:World) (g:Nat) (s:Rd):Prop:=∃p n c,RS w g p n c s
theorem RS.lt {w:World} {g:Nat} {p:Option Addr} {n c:Nat} {s:Rd} (h:RS w g p n c s):g<w.heap.size:=(yL h.row)
theorem RS.err {w:World} {g:Nat} {p:Option Addr} {n c:Nat} {s:Rd} (h:RS w g p n c s):w.cell? ⟨g,1,none⟩=some (.int .i64 s.e):=(cell_of_row w g 1 _ _ _ h.row).trans rfl
theorem RS.rest {w:World} {g:Nat} {p:Option Addr} {n c:Nat} {s:Rd} (h:RS w g p n c s):w.cell? ⟨g,0,none⟩=some (.slice p n c):=(cell_of_row w g 0 _ _ _ h.row).trans rfl
theorem RS.fz {w:World} {g:Nat} {p:Option Addr} {n c:Nat} {s:Rd} (h:RS w g p n c s) (j:Nat):w.frozen? ⟨g,j,none⟩=false:=frozen_of_row w g j _ _ h.row
theorem RS.later {w w':World} {g:Nat} {p:Option Addr} {n c:Nat} {s:Rd} (h:RS w g p n c s) (hb:Below w.heap.size w w'):RS w' g p n c s:=
 ⟨(hb.block _ h.lt).trans h.row,h.tx.later hb,h.lo⟩
theorem RSx.later {w w':World} {g:Nat} {s:Rd} (h:RSx w g s) (hb:Below w.heap.size w w'):RSx w' g s:=by
 obtain ⟨p,n,c,h⟩:=h
 exact ⟨p,n,c,h.later hb⟩
theorem RSx.lt {w:World} {g:Nat} {s:Rd} (h:RSx w g s):g<w.heap.size:=by
 obtain ⟨p,n,c,h⟩:=h
 exact h.lt
theorem x4R {w:World} {g:Nat} {p q:Option Addr} {n c m d:Nat} {e:Nat} {B:List Nat} (hr:w.heap[g]? =some (.cells #[.slice p n c,.int .i64 e] 251 (0,0))) (h:Tx w q m d B):∀x,q=some x→B≠[]→x.block≠g:=by
 intro x hx hB hg
 subst hx
 have A:=h.cells 0 _ (x1S _ 0 (List.length_pos_iff.2 hB))
 have C:x.add 0=x:=by simp [Addr.add]
 rw [C] at A
 simp only [World.cell?,hg,hr] at A
 split at A<;>simp_all
 match hx:x.off with
 | 0=>rw [hx] at A;simp at A
 | 1=>rw [hx] at A;simp at A
 | k+2=>rw [hx] at A;simp at A
def RPost (w:World) (g:Nat) (v:Value) (s:Rd) (e:Ending) (w':World):Prop:=e= .returned v∧RSx w' g s∧w.grownBy w' (some g)
theorem x24 (s:Rd) (k:Nat) (g:Nat) (w:World) (hs:RSx w g s):
  Calls Tryz.prog 198 #[.pointer (some ⟨g,0,none⟩),.int .i64 k] w (RPost w g (.tuple #[]) (s.refuse k)):=by
 obtain ⟨p,n,c,hs⟩:=hs
 have B:=hs.err
 have E:=hs.fz 1
 have A:=yH hs
 clear hs
 by_cases he:s.e=0
 ·have e:s.refuse k=⟨s.R,k⟩:=by unfold Rd.refuse;rw [if_pos he]
  rw [he] at B
  rw [e]
  clear he e
  go_enter Tryz.func198,Tryz.ntmps198
  go_wp2_with fail
  go_end0
  have C:=heap_setCell_same w g 1 _ _ (.int .i64 k) A.out.row
  refine ⟨rfl,⟨p,n,c,C,A.out.tx.grown (x0D w g 1 _) (x4R A.out.row A.out.tx),A.out.lo⟩,x0D w g 1 _⟩
 ·have e:s.refuse k=s:=by unfold Rd.refuse;rw [if_neg he]
  have b1:((s.e:Int)==0)=false:=by simp;omega
  rw [e]
  clear he e
  go_enter Tryz.func198,Tryz.ntmps198
  go_wp2_with fail
  go_end0
  exact ⟨rfl,⟨p,n,c,A.out⟩,⟨rfl,rfl,rfl,Nat.le_refl _,fun _ _ _=>rfl⟩⟩
def x3K (w:World) (g:Nat) (s:Rd) (n:Nat) (e:Ending) (w':World):Prop:=∃q c,e= .returned (.slice q (s.part n).length c)∧Tx w' q (s.part n).length c (s.part n)∧RSx w' g (s.past n)∧w.grownBy w' (some g)
theorem x8R (s:Rd) (n:Nat) (g:Nat) (w:World) (hs:RSx w g s) (hn:n<9223372036854775808) (hl:s.R.length<1099511627776):
  Calls Tryz.prog 232 #[.pointer (some ⟨g,0,none⟩),.int .i64 n] w (x3K w g s n):=by
 obtain ⟨p,m,c,hs⟩:=hs
 have f:=hs.rest
 have K:=hs.err
 have I:=hs.tx.size
 have P:=hs.tx.le
 have Y:m<1099511627776:=by omega
 have G:=yH I
 have A:=yH hs
 clear hs I
 by_cases hlt:m<n
 ·have b1:(m:Int)<n:=by omega
  have e:¬s.fits n:=fun h=>by have:=h.2;have:=G.out;omega
  have B:s.part n=[]:=by unfold Rd.part;rw [if_neg e]
  have C:s.past n=s.refuse 20:=by unfold Rd.past;rw [if_neg e]
  unfold x3K
  rw [B,C]
  clear e B C K
  go_enter Tryz.func232,Tryz.ntmps232
  go_wp2_with fail
  refine (x24 s 20 g _ ⟨p,m,c,A.out⟩).mono ?_
  rintro e j X
  obtain ⟨rfl,⟨U,O,W,H⟩,L⟩:=X
  have d:=H.err
  have Z:(((s.refuse 20).e:Int) !=0)=true:=by
   unfold Rd.refuse
   split<;>simp
   assumption
  have a:=yH H
  have Q:=yH L
  clear H L
  go_wp2_with fail
  go_ret
  exact ⟨none,0,rfl,y3i _,⟨U,O,W,a.out⟩,Q.out⟩
 ·have b1:¬(m:Int)<n:=by omega
  by_cases he:s.e=0
  ·have e:s.fits n:=⟨he,by have:=G.out;omega⟩
   have B:s.part n=s.R.take n:=by unfold Rd.part;rw [if_pos e]
   have C:s.past n=⟨s.R.drop n,0⟩:=by unfold Rd.past;rw [if_pos e]
   have J:(s.R.take n).length=n:=by rw [List.length_take];have:=G.out;omega
   unfold x3K
   rw [B,C,J]
   rw [he] at K
   clear e B C J
   have i:=A.out.fz 0
   have M:=yH he
   clear he
   have b:(0:Int)≤n:=by omega
   by_cases hcn:c=n
   ·subst hcn
    obtain rfl:m=c:=by omega
    go_enter Tryz.func232,Tryz.ntmps232
    go_wp2_with fail
    go_ret
    have E:=heap_setCell_same w g 0 _ _ (.slice p 0 0) A.out.row
    rw [M.out] at E
    have N:s.R.drop m=[]:=List.drop_eq_nil_of_le (by have:=G.out;omega)
    refine ⟨p,m,rfl,(A.out.tx.take m (Nat.le_refl _)).grown (x0D w g 0 _) (x4R A.out.row (A.out.tx.take m (Nat.le_refl _))),?_,x0D w g 0 _⟩
    rw [N]
    exact ⟨p,0,0,E,A.out.tx.nothing.grown (x0D w g 0 _) (fun x hx h=>absurd rfl h),fun x hx h=>absurd rfl h⟩
   ·go_enter Tryz.func232,Tryz.ntmps232
    go_wp2_with fail
    go_ret
    have E:=heap_setCell_same w g 0 _ _ (.slice (Option.map (fun x=>x.add n) p) (m - n) (c - n)) A.out.row
    rw [M.out] at E
    have t1:=A.out.tx.take n (by omega)
    have t2:=A.out.tx.drop n (by omega)
    exact ⟨p,c,rfl,t1.grown (x0D w g 0 _) (x4R A.out.row t1),⟨_,_,_,E,t2.grown (x0D w g 0 _) (x4R A.out.row t2),fun x hx h=>y43 A.out.lo n x hx h⟩,x0D w g 0 _⟩
  ·have e:¬s.fits n:=fun h=>he h.1
   have B:s.part n=[]:=by unfold Rd.part;rw [if_neg e]
   have C:s.past n=s:=by unfold Rd.past Rd.refuse;rw [if_neg e,if_neg he]
   have Z:((s.e:Int) !=0)=true:=by simp;omega
   unfold x3K
   rw [B,C]
   clear e B C he
   go_enter Tryz.func232,Tryz.ntmps232
   go_wp2_with fail
   go_ret
   exact ⟨none,0,rfl,y3i _,⟨p,m,c,A.out⟩,x3j _ _⟩
theorem y49 {m b:Nat} (hm:m<72057594037927936) (hb:b<256):bits .or .u64 ((m:Int)*256) (b:Int)=((m*256+b:Nat):Int):=by
 rw [show (m:Int)*256=((m*256:Nat):Int) from by omega,u64_or_nat _ _ (by omega) (by omega)]
 have:m*256||| b=m*256+b:=by
  have h:=Nat.shiftLeft_add_eq_or_of_lt (i:=8) (b:=b) (by omega) m
  rw [Nat.shiftLeft_eq] at h
  exact h.symm
 rw [this]
def RVRel (w:World) (g:Nat) (s:Rd) (B:List Nat) (q:Option Addr) (c:Nat) (a i:Value) (wr:World):Prop:=
 ∃k:Nat,k≤B.length∧i= .int .i64 k∧a= .int .u64 (Cm.val (B.take k):Nat)∧Tx wr q B.length c B∧RSx wr g s∧w.grownBy wr (some g)
theorem x3m (s:Rd) (n:Nat) (g:Nat) (w:World) (hs:RSx w g s) (hn:n≤8) (hl:s.R.length<1099511627776):
  Calls Tryz.prog 193 #[.pointer (some ⟨g,0,none⟩),.int .i64 n] w (RPost w g (.int .u64 (Cm.val (s.part n):Nat)) (s.past n)):=by
 have O:=yH hs
 have Y:=yH hl
 clear hs hl
 go_enter Tryz.func193,Tryz.ntmps193
 go_wp2_with fail
 refine (x8R s n g _ O.out (by omega) Y.out).mono ?_
 rintro e d I
 obtain ⟨q,c,rfl,Q,P,U⟩:=I
 have W:=Rd.part_len s n
 generalize s.part n=B at *
 generalize s.past n=s1 at *
 have H1:=yH Q
 have H2:=yH P
 have H3:=yH U
 clear Q P U O
 go_wp2_with fail
 go_loopw [5,12] (fun a i wr=>RVRel w g s1 B q c a i wr) (fun _ i _=>B.length - (intOf i).toNat)
 case atStart=>exact ⟨0,by omega,rfl,rfl,H1.out,H2.out,H3.out⟩
 case round=>
  obtain ⟨k,f,rfl,rfl,L,N,M⟩:=hrel
  have H4:=yH L
  have H5:=yH N
  have H6:=yH M
  clear L N M H1 H2 H3
  by_cases hlt:k<B.length
  ·obtain ⟨j,h,I,G⟩:=H4.out.bytes.ne (by rintro rfl;simp at hlt)
   subst I
   have Z:=G k hlt
   have X:=H4.out.le
   have K:B.getD k 0<256:=Sm.getD_lt H4.out.ok (by omega) k
   have E:Cm.val (B.take k)<256^(B.take k).length:=Cm.val_lt (fun x G=>H4.out.ok x (List.mem_of_mem_take G))
   have H:Cm.val (B.take k)<72057594037927936:=Nat.lt_of_lt_of_le E (y5B _ (by rw [List.length_take];omega))
   have A:Cm.val (B.take (k+1))=Cm.val (B.take k)*256+B.getD k 0:=by rw [y0O B k hlt,Cm.val_snoc]
   have HST:=yH A
   clear A E G
   generalize Cm.val (B.take k)=m at *
   generalize B.getD k 0=b at *
   have C:=y49 H K
   have J:=yH C
   clear C
   go_wp2_with fail
   rw [J.out]
   go_roundw
   case rel=>exact ⟨k+1,by omega,by go_num,by rw [HST.out],H4.out,H5.out,H6.out⟩
   case measure=>simp [intOf];omega
  ·obtain rfl:k=B.length:=by omega
   rw [List.take_length]
   go_wp2_with fail
   go_ret
   exact ⟨rfl,H5.out,H6.out⟩
theorem x2E (s:Rd) (g:Nat) (w:World) (hs:RSx w g s) (hl:s.R.length<1099511627776):
  Calls Tryz.prog 145 #[.pointer (some ⟨g,0,none⟩)] w (RPost w g (.int .u8 (Cm.val (s.part 1):Nat)) (s.past 1)):=by
 have A:Sm.allB s.R:=by obtain ⟨p,n,c,h⟩:=hs;exact h.tx.ok
 have L:=val1 A
 have B:=x3m s 1 g w hs (by omega) hl
 generalize Cm.val (s.part 1)=x at *
 have I:=yH B
 have M:IntKind.u8.wrap (x:Int)=(x:Nat):=by rw [IntKind.wrap_u8];omega
 clear hs B A
 go_enter Tryz.func145,Tryz.ntmps145
 go_wp2_with fail
 refine I.out.mono ?_
 rintro e K G
 obtain ⟨rfl,E,C⟩:=G
 have H:=yH E
 have J:=yH C
 clear E C
 go_wp2_with fail
 go_ret
 exact ⟨rfl,H.out,J.out⟩
theorem y0T {n:Int} (h1: -9223372036854775808≤n) (h2:n≤9223372036854775807):IntKind.i64.wrap (bits .xor .u64 ((Cm.z64 n:Nat):Int) 9223372036854775808)=n:=by
 have A:=(Cm.z64_lt h1 h2).2
 by_cases h:n<0
 ·have:=Cm.sign_int (n:=n+9223372036854775808) (by omega) (by omega)
  rw [Cm.wrap_u64,show (n+9223372036854775808)%18446744073709551616=((Cm.z64 n:Nat):Int) from by omega] at this
  rw [this,(Cm.z64_lt (n:=n+9223372036854775808) (by omega) (by omega)).2,IntKind.wrap_i64]
  omega
 ·have:=Cm.sign_int (n:=n - 9223372036854775808) (by omega) (by omega)
  rw [Cm.wrap_u64,show (n - 9223372036854775808)%18446744073709551616=((Cm.z64 n:Nat):Int) from by omega] at this
  rw [this,(Cm.z64_lt (n:=n - 9223372036854775808) (by omega) (by omega)).2,IntKind.wrap_i64]
  omega
theorem RSx.low {w w':World} {g:Nat} {s:Rd} (h:RSx w g s) (hb:Below (g+1) w w'):RSx w' g s:=by
 obtain ⟨p,n,c,h⟩:=h
 refine ⟨p,n,c,(hb.block g (Nat.lt_succ_self g)).trans h.row,⟨h.tx.size,h.tx.le,h.tx.ok,h.tx.at'.imp id fun ⟨x,hp,hx⟩=>⟨x,hp,fun j u hu=>?_⟩,h.tx.sp⟩,h.lo⟩
 have B:s.R≠[]:=by rintro e;rw [e] at hu;simp [vals] at hu
 have A:(x.add j).block=x.block:=by cases x;simp [Addr.add];split<;>rfl
 exact (hb.cell (p:=x.add j) (by rw [A];exact Nat.lt_succ_of_lt (h.lo x hp B))).trans (hx j u hu)
theorem x5S {w:World} (k o:Nat) (vs:List Value) (B:Nat) (hB:B≤k):Below B w (w.setCells k o vs):=by
 obtain ⟨G,C,E,A⟩:=x0R k vs o w
 exact ⟨C,E,A,by omega,fun j hj=>x0L k vs o w j (by omega)⟩
theorem x3n (s:Rd) (most n:Int) (g:Nat) (w:World) (hs:RSx w g s):
  Calls Tryz.prog 233 #[.pointer (some ⟨g,0,none⟩),.int .i64 most,.int .i64 n] w (RPost w g (.int .i64 (if most<n then 0 else n)) (if most<n then s.refuse 10 else s)):=by
 have A:=yH hs
 clear hs
 by_cases h:most<n
 ·rw [if_pos h,if_pos h]
  go_enter Tryz.func233,Tryz.ntmps233
  go_wp2_with fail
  refine (x24 s 10 g _ A.out).mono ?_
  rintro e I G
  obtain ⟨rfl,B,C⟩:=G
  have H:=yH B
  have E:=yH C
  clear B C
  go_wp2_with fail
  go_ret
  exact ⟨rfl,H.out,E.out⟩
 ·rw [if_neg h,if_neg h]
  go_enter Tryz.func233,Tryz.ntmps233
  go_wp2_with fail
  go_ret
  exact ⟨rfl,A.out,x3j _ _⟩
theorem x5h (s:Rd) (most:Int) (g:Nat) (w:World) (hs:RSx w g s) (hl:s.R.length<1099511627776):
  Calls Tryz.prog 197 #[.pointer (some ⟨g,0,none⟩),.int .i64 most] w (RPost w g (.int .i64 (s.countV most)) (s.count most)):=by
 have M:Sm.allB s.R:=by obtain ⟨p,n,c,h⟩:=hs;exact h.tx.ok
 have X:=val3 M
 have B:=x3m s 3 g w hs (by omega) hl
 clear hs M
 by_cases hc:min most 1048576<((Cm.val (s.part 3):Nat):Int)
 ·have K:s.countV most=0:=by unfold Rd.countV;rw [if_pos hc]
  have L:s.count most=(s.past 3).refuse 10:=by unfold Rd.count;rw [if_pos hc]
  rw [K,L]
  clear K L
  generalize Cm.val (s.part 3)=m at *
  have H:=yH hc
  clear hc
  go_enter Tryz.func197,Tryz.ntmps197
  go_wp2_with fail
  refine B.mono ?_
  rintro e U C
  obtain ⟨rfl,E,J⟩:=C
  have P:=yH E
  have N:=yH J
  clear E J B
  go_wp2_with fail
  have A:=x3n (s.past 3) (min most 1048576) m g _ P.out
  rw [if_pos H.out,if_pos H.out] at A
  refine A.mono ?_
  rintro e W C
  obtain ⟨rfl,G,I⟩:=C
  have O:=yH G
  have Q:=yH (x0a N.out I)
  clear G I A
  go_wp2_with fail
  go_ret
  exact ⟨rfl,O.out,Q.out⟩
 ·have K:s.countV most=((Cm.val (s.part 3):Nat):Int):=by unfold Rd.countV;rw [if_neg hc]
  have L:s.count most=s.past 3:=by unfold Rd.count;rw [if_neg hc]
  rw [K,L]
  clear K L
  generalize Cm.val (s.part 3)=m at *
  have H:=yH hc
  clear hc
  go_enter Tryz.func197,Tryz.ntmps197
  go_wp2_with fail
  refine B.mono ?_
  rintro e U C
  obtain ⟨rfl,E,J⟩:=C
  have P:=yH E
  have N:=yH J
  clear E J B
  go_wp2_with fail
  have A:=x3n (s.past 3) (min most 1048576) m g _ P.out
  rw [if_neg (Int.not_lt.mpr H.out),if_neg (Int.not_lt.mpr H.out)] at A
  refine A.mono ?_
  rintro e W C
  obtain ⟨rfl,G,I⟩:=C
  have O:=yH G
  have Q:=yH (x0a N.out I)
  clear G I A
  go_wp2_with fail
  go_ret
  exact ⟨rfl,O.out,Q.out⟩
end Go.Proofs.YtinihaflmdihaaaGreat
namespace Go.Proofs.YtinihaflmdihaaaGreat.Nd
open Go.RowKit
theorem part1 (s:Rd):s.part 1=[]∨∃b,s.part 1=[b]:=by
 have h:=Rd.part_len s 1
 match hp:s.part 1 with
 |[]=>exact Or.inl rfl
 |[b]=>exact Or.inr ⟨b,rfl⟩
 | a::b::L=>rw [hp] at h;simp at h
theorem x3o (b:Nat):Cm.val [b]=b:=by simp [Cm.val]
def _root_.Go.Proofs.YtinihaflmdihaaaGreat.Rd.truth (s:Rd):Rd:=if (s.past 1).e=0∧1<Cm.val (s.part 1) then ⟨(s.past 1).R,21⟩ else s.past 1
def _root_.Go.Proofs.YtinihaflmdihaaaGreat.Rd.truthV (s:Rd):Bool:=decide ((s.past 1).e=0∧Cm.val (s.part 1)=1)
theorem y4A (s:Rd) (n:Nat):s.part n=[]∨(s.part n).length=n:=by
 unfold Rd.part
 split
 ·rename_i h
  exact Or.inr (by rw [List.length_take];have:=h.2;omega)
 ·exact Or.inl rfl
def _root_.Go.Proofs.YtinihaflmdihaaaGreat.Rd.numV (s:Rd):Int:=if s.part 8=[] then 0 else ((Cm.val (s.part 8):Nat):Int) - 9223372036854775808
theorem y4B (k:Nat) (h:k≤8):256^k≤18446744073709551616:=Nat.le_trans (Nat.pow_le_pow_right (by omega) h) (by decide)
def _root_.Go.Proofs.YtinihaflmdihaaaGreat.Rd.digV (s:Rd):List Nat:=s.part 32++zeros (32 - (s.part 32).length)
theorem x2y (s:Rd):s.digV.length=32:=by
 have:=Rd.part_len s 32
 simp [Rd.digV,zeros]
 omega
theorem y0U {s:Rd} (h:Sm.allB s.R):Sm.allB s.digV:=by
 intro x hx
 rcases List.mem_append.1 hx with k | k
 ·exact Rd.part_ok h 32 x k
 ·exact x1l _ x k
def readN:Nat→Rd→List Int→List Int×Rd
 | 0,s,L=>(L,s)
 | n+1,s,L=>if s.e=0 then readN n (s.past 8) (L++[s.numV]) else (L,s)
theorem x6L {n:Nat} {s:Rd} {L:List Int} (h:s.e=0) (hn:0<n):readN n s L=readN (n - 1) (s.past 8) (L++[s.numV]):=by
 obtain ⟨m,rfl⟩:∃m,n=m+1:=⟨n - 1,by omega⟩
 show (if s.e=0 then _ else _)=_
 rw [if_pos h]
 rfl
theorem x4S {n:Nat} {s:Rd} {L:List Int} (h:s.e≠0):readN n s L=(L,s):=by
 cases n with
 | zero=>rfl
 | succ n=>
  show (if s.e=0 then _ else _)=_
  rw [if_neg h]
def _root_.Go.Proofs.YtinihaflmdihaaaGreat.Rd.rowN (s:Rd) (most:Int):Rd:=if (s.past 1).e=0∧most<(Cm.val (s.part 1):Nat) then ⟨(s.past 1).R,10⟩ else s.past 1
def _root_.Go.Proofs.YtinihaflmdihaaaGreat.Rd.row (s:Rd) (most:Int):List Int×Rd:=readN (Cm.val (s.part 1)) (s.rowN most) []
def _root_.Go.Proofs.YtinihaflmdihaaaGreat.Rd.rowV (s:Rd) (most:Int):List Int:=if (s.row most).2.e=0 then (s.row most).1 else []
theorem y2L (s:Rd) (most:Int):(s.rowN most).R.length≤s.R.length:=by
 unfold Rd.rowN
 split
 ·exact Rd.past_len s 1
 ·exact Rd.past_len s 1
theorem y2M (w:World) (base:Nat):w.ownsRow base 2 1 (.slice none 0 0) 0 (ivs []):=⟨rfl,Or.inl ⟨rfl,rfl⟩⟩
theorem x9J (A B:List Int):ivs (A++B)=ivs A++ivs B:=List.map_append ..
theorem x7q {s:Rd} (h:Cm.val (s.part 1)≠0):(s.past 1).e=0:=by
 unfold Rd.part at h
 unfold Rd.past
 split at h
 ·rename_i k;rw [if_pos k]
 ·exact absurd rfl h
theorem x9K (s:Rd) (g:Nat) (w:World) (hs:RSx w g s) (hl:s.R.length<1099511627776):
  Calls Tryz.prog 194 #[.pointer (some ⟨g,0,none⟩)] w (RPost w g (.bool s.truthV) s.truth):=by
 have M:=yH (x2E s g w hs hl)
 clear hs
 by_cases hx:1<Cm.val (s.part 1)
 ·have J:=x7q (s:=s) (by omega)
  have E:s.truthV=false:=by unfold Rd.truthV;exact decide_eq_false (by omega)
  have G:s.truth=(s.past 1).refuse 21:=by unfold Rd.truth Rd.refuse;rw [if_pos ⟨J,hx⟩,if_pos J]
  rw [E,G]
  clear E G J
  have b1:(1:Int)<(Cm.val (s.part 1):Nat):=by omega
  have U:(((Cm.val (s.part 1):Nat):Int)==1)=false:=by simp;omega
  generalize Cm.val (s.part 1)=x at *
  clear hx
  go_enter Tryz.func194,Tryz.ntmps194
  go_wp2_with fail
  refine M.out.mono ?_
  rintro e O A
  obtain ⟨rfl,C,B⟩:=A
  have H:=yH C
  have I:=yH B
  clear C B
  go_wp2_with fail
  refine (x24 (s.past 1) 21 g _ H.out).mono ?_
  rintro e W A
  obtain ⟨rfl,L,K⟩:=A
  have P:=yH L
  have Q:=yH (x0a I.out K)
  clear L K
  go_wp2_with fail
  go_ret
  exact ⟨rfl,P.out,Q.out⟩
 ·have G:s.truth=s.past 1:=by unfold Rd.truth;rw [if_neg (fun h=>hx h.2)]
  have E:(((Cm.val (s.part 1):Nat):Int)==1)=s.truthV:=by
   unfold Rd.truthV
   rw [Bool.eq_iff_iff,beq_iff_eq,decide_eq_true_iff]
   constructor
   ·intro h;exact ⟨x7q (by omega),by omega⟩
   ·intro h;omega
  rw [G]
  have b1:¬(1:Int)<(Cm.val (s.part 1):Nat):=by omega
  generalize s.truthV=X at *
  generalize Cm.val (s.part 1)=x at *
  clear hx G
  have N:=yH E
  clear E
  go_enter Tryz.func194,Tryz.ntmps194
  go_wp2_with fail
  refine M.out.mono ?_
  rintro e O A
  obtain ⟨rfl,C,B⟩:=A
  have H:=yH C
  have I:=yH B
  clear C B
  go_wp2_with fail
  go_ret
  exact ⟨by rw [← N.out];rfl,H.out,I.out⟩
theorem y2N {s:Rd} {n:Nat} (hn:0<n) (h:(s.past n).e=0):s.part n≠[]:=by
 unfold Rd.past Rd.refuse at h
 unfold Rd.part
 split at h
 ·rename_i k
  rw [if_pos k]
  intro e
  have A:=congrArg List.length e
  rw [List.length_take,List.length_nil] at A
  have B:=k.2
  omega
 ·split at h
  ·cases h
  ·rename_i k;exact absurd h k
theorem y2O {s:Rd} {n:Nat} (h:(s.past n).e≠0):s.part n=[]:=by
 unfold Rd.past at h
 unfold Rd.part
 split at h
 ·exact absurd rfl h
 ·rename_i k;rw [if_neg k]
theorem y0V {s:Rd} (h:Sm.allB s.R): -9223372036854775808≤s.numV∧s.numV≤9223372036854775807:=by
 have B:=Cm.val_lt (Rd.part_ok h 8)
 have A:=y4B _ (Rd.part_len s 8)
 unfold Rd.numV
 split<;>omega
theorem y2P (s:Rd) (g:Nat) (w:World) (hs:RSx w g s) (hl:s.R.length<1099511627776):
  Calls Tryz.prog 234 #[.pointer (some ⟨g,0,none⟩)] w (RPost w g (.int .i64 s.numV) (s.past 8)):=by
 have E:Sm.allB s.R:=by obtain ⟨p,n,c,h⟩:=hs;exact h.tx.ok
 have U:=yH (x3m s 8 g w hs (by omega) hl)
 have B:=y0V E
 clear hs
 by_cases he:(s.past 8).e=0
 ·have G:=y2N (n:=8) (by omega) he
  have O:Cm.z64 s.numV=Cm.val (s.part 8):=by
   unfold Cm.z64 Rd.numV
   rw [if_neg G]
   omega
  have A:=y0T B.1 B.2
  rw [O] at A
  have L:=yH A
  have W:=yH he
  clear G O A B E he
  generalize s.numV=x at *
  generalize Cm.val (s.part 8)=z at *
  go_enter Tryz.func234,Tryz.ntmps234
  go_wp2_with fail
  refine U.out.mono ?_
  rintro e X G
  obtain ⟨rfl,⟨M,I,J,C⟩,H⟩:=G
  have P:=C.err
  rw [W.out] at P
  have K:=yH C
  have N:=yH H
  have A:=L.out
  clear C H
  go_wp2_with fail
  go_ret
  exact ⟨rfl,⟨M,I,J,K.out⟩,N.out⟩
 ·have Q:s.numV=0:=by unfold Rd.numV;rw [if_pos (y2O he)]
  have b1:(((s.past 8).e:Int) !=0)=true:=by simp;omega
  rw [Q]
  clear Q B E he
  generalize Cm.val (s.part 8)=z at *
  go_enter Tryz.func234,Tryz.ntmps234
  go_wp2_with fail
  refine U.out.mono ?_
  rintro e X G
  obtain ⟨rfl,⟨M,I,J,C⟩,H⟩:=G
  have P:=C.err
  have K:=yH C
  have N:=yH H
  clear C H
  go_wp2_with fail
  go_ret
  exact ⟨rfl,⟨M,I,J,K.out⟩,N.out⟩
def LRow (w:World) (g:Nat) (L:List Int) (s:Rd) (e:Ending) (w':World):Prop:=
 ∃v,e= .returned v∧w'.ownsRow w.heap.size 2 1 v L.length (ivs L)∧RSx w' g s∧w.grownBy w' (some g)
structure LrSt (w:World) (g gr n:Nat) (T:List Int×Rd) (k:Nat) (C:Array Value) (s:Rd) (wr:World):Prop where
 row:wr.heap[gr]? =some (.cells C 2 (0,0))
 size:C.size=n
 rd:RSx wr g s
 grown:w.grownBy wr (some g)
 len:s.R.length<1099511627776
 run:(∃L,s.e=0∧L.length=k∧C.toList.take k=ivs L∧readN (n - k) s L=T)∨(s.e≠0∧T.2=s)
def LrRel (w:World) (g gr n:Nat) (T:List Int×Rd) (i:Value) (wr:World):Prop:=∃k C s,k≤n∧i= .int .i64 k∧LrSt w g gr n T k C s wr
theorem y2Q {s:Rd} {n:Nat} (h:s.e≠0):s.past n=s:=by
 unfold Rd.past Rd.refuse
 rw [if_neg (fun k=>h k.1),if_neg h]
theorem y4C {s:Rd} {n k:Nat} {T:List Int×Rd} {C:Array Value} (hk:k<n) (hC:C.size=n) (h:(∃L,s.e=0∧L.length=k∧C.toList.take k=ivs L∧readN (n - k) s L=T)∨(s.e≠0∧T.2=s)):
  (∃L,(s.past 8).e=0∧L.length=k+1∧(C.setIfInBounds k (.int .i64 s.numV)).toList.take (k+1)=ivs L∧readN (n - (k+1)) (s.past 8) L=T)∨((s.past 8).e≠0∧T.2=s.past 8):=by
 rcases h with ⟨L,A,G,M,B⟩ | ⟨A,I⟩
 ·have H:=x6L (n:=n - k) (L:=L) A (by omega)
  rw [H] at B
  by_cases h8:(s.past 8).e=0
  ·refine Or.inl ⟨L++[s.numV],h8,by rw [List.length_append,G];rfl,?_,by rw [show n - (k+1)=n - k - 1 by omega];exact B⟩
   have E:k<(C.setIfInBounds k (.int .i64 s.numV)).toList.length:=by simp [hC,hk]
   have J:(C.setIfInBounds k (.int .i64 s.numV)).toList.take k=C.toList.take k:=by
    rw [Array.toList_setIfInBounds,List.take_set_of_le (Nat.le_refl _)]
   have K:(C.setIfInBounds k (.int .i64 s.numV)).toList[k]= .int .i64 s.numV:=by
    simp [Array.toList_setIfInBounds]
   rw [List.take_succ_eq_append_getElem E,J,K,M,x9J]
   rfl
  ·refine Or.inr ⟨h8,?_⟩
   rw [x4S h8] at B
   rw [← B]
 ·rw [y2Q A]
  exact Or.inr ⟨A,I⟩
theorem x4T (s:Rd) (g:Nat) (w:World) (hs:RSx w g s) (hl:s.R.length<1099511627776):
  Calls Tryz.prog 195 #[.pointer (some ⟨g,0,none⟩),.int .i64 8] w (LRow w g (s.rowV 8) (s.row 8).2):=by
 have v:Sm.allB s.R:=by obtain ⟨p,n,c,h⟩:=hs;exact h.tx.ok
 have HB:=yH (x2E s g w hs hl)
 have Y:=Rd.past_len s 1
 -- how many numbers are read,and with what
 obtain ⟨m,s2,hm,a,hT,Ak⟩:∃(m:Nat) (s2:Rd),(if (8:Int)<(Cm.val (s.part 1):Nat) then (0:Int) else (Cm.val (s.part 1):Nat))=(m:Int)∧(if (8:Int)<(Cm.val (s.part 1):Nat) then (s.past 1).refuse 10 else s.past 1)=s2∧(readN m s2 []=s.row 8∨(s2.e≠0∧(s.row 8).2=s2))∧m≤8:=by
  have I:s.row 8=readN (Cm.val (s.part 1)) (s.rowN 8) []:=rfl
  by_cases h:(8:Int)<(Cm.val (s.part 1):Nat)
  ·have G:=x7q (s:=s) (by omega)
   refine ⟨0,_,if_pos h,if_pos h,Or.inr ?_,by omega⟩
   have e1:s.rowN 8=⟨(s.past 1).R,10⟩:=by unfold Rd.rowN;rw [if_pos ⟨G,h⟩]
   have e2:(s.past 1).refuse 10=⟨(s.past 1).R,10⟩:=by unfold Rd.refuse;rw [if_pos G]
   rw [e2,I,e1,x4S (by simp)]
   exact ⟨by simp,rfl⟩
  ·refine ⟨Cm.val (s.part 1),_,if_neg h,if_neg h,Or.inl ?_,by omega⟩
   have e1:s.rowN 8=s.past 1:=by unfold Rd.rowN;rw [if_neg (fun k=>h k.2)]
   rw [I,e1]
 have hV:s.rowV 8=if (s.row 8).2.e=0 then (s.row 8).1 else []:=rfl
 have P:s2.R.length<1099511627776:=by
  rw [← a]
  split
  ·exact Nat.lt_of_le_of_lt (Rd.refuse_len _ _) (Nat.lt_of_le_of_lt Y hl)
  ·exact Nat.lt_of_le_of_lt Y hl
 have r:=yH (fun w1 (h:RSx w1 g (s.past 1))=>by
  have:=x3n (s.past 1) 8 (Cm.val (s.part 1):Nat) g w1 h
  rw [hm,a] at this
  exact this)
 have HT:=yH hT
 have HV:=yH hV
 have AJ:=val1 v
 generalize s.rowV 8=X at *
 generalize s.row 8=T at *
 generalize Cm.val (s.part 1)=cnt at *
 have A7:=yH P
 obtain ⟨i2,hi,y,z,j⟩:=info_parts I2n
 have HI:=yH hi
 have AC:=yH y
 have AK:=yH z
 have AM:=yH j
 have e8:IntKind.i64.wrap (cnt:Int)=(cnt:Nat):=by rw [IntKind.wrap_i64];omega
 clear hs v Y hm a hT hV P hi y z j hl
 go_enter Tryz.func195,Tryz.ntmps195
 go_wp2_with fail
 refine HB.out.mono ?_
 rintro e w1 o
 obtain ⟨rfl,h1,h2⟩:=o
 have HA:=yH (r.out w1 h1)
 have H2:=yH h2
 clear h1 h2
 go_wp2_with fail
 refine HA.out.mono ?_
 rintro e Q o
 obtain ⟨rfl,h3,h4⟩:=o
 have hg:g<Q.heap.size:=h3.lt
 have H3:=yH h3
 have H4:=yH (x0a H2.out h4)
 clear h3 h4
 go_wp2_with (at_make;refine wpList_make_full _ (by rfl) _ _ 24 (by rfl) Q.heap.size 2 i2 (.int .i64 0) 1 URn HI.out AC.out AK.out .i64 .i64 _ _ m (by rfl) (by rfl) (by rfl) (by rfl) (by rw [AM.out];omega) (by unfold maxLen;omega) (Nat.le_refl _) ?_;intro w3 hown3 hgrow3;have O3:=yH hown3;have b:=yH hgrow3;clear hown3 hgrow3)
 have H:Below Q.heap.size Q w3:=⟨b.out.os,b.out.tape,b.out.output,b.out.size,fun k hk=>b.out.block k hk (by simp)⟩
 have f:=x0s (w:=w) H4.out H4.out.size H H.size
 have d:=H3.out.later H
 obtain ⟨cur,O,q⟩:∃cur,w3.heap[Q.heap.size]? =some (.cells cur 2 (0,0))∧cur.size=m:=by
  rcases O3.out.2 with ⟨h1,_⟩ | ⟨k,Ai,cur,hv,_,l,_,_,An,_⟩
  ·simp at h1
  ·simp only [Value.slice.injEq,Option.some.injEq,Addr.mk.injEq,true_and,and_true] at hv
   obtain ⟨rfl,rfl⟩:=hv
   exact ⟨cur,l,by omega⟩
 have K:=yH (show g<Q.heap.size∧w.heap.size≤Q.heap.size from ⟨hg,H4.out.size⟩)
 generalize Q.heap.size=gr at *
 have HR3:=yH (show LrSt w g gr m T 0 cur s2 w3 from ⟨O,q,d,f,A7.out,by
  by_cases G:s2.e=0
  ·rcases HT.out with h | h
   ·exact Or.inl ⟨[],G,rfl,rfl,h⟩
   ·exact absurd G h.1
  ·rcases HT.out with h | h
   ·rw [x4S G] at h
    exact Or.inr ⟨G,by rw [← h]⟩
   ·exact Or.inr h⟩)
 clear H f d O q O3 b H3 H4 H2 hg HB HA r HT e8
 go_loopw [16] (fun i wr=>LrRel w g gr m T i wr) (fun i _=>m - (intOf i).toNat)
 case atStart=>exact ⟨0,cur,s2,by omega,rfl,HR3.out⟩
 case round=>
  obtain ⟨k,C,M,hk,rfl,I⟩:=hrel
  have E:=yH I
  clear I HR3
  by_cases hlt:k<m
  ·have N:=y2P M g wr E.out.rd E.out.len
   have AL:=yH (y4C hlt E.out.size E.out.run)
   have AH:=yH (Nat.lt_of_le_of_lt (Rd.past_len M 8) E.out.len)
   have A1:=yH N
   have i1:(0:Int)≤k∧(k:Int)<m:=by omega
   clear N
   generalize M.numV=x at *
   generalize M.past 8=t at *
   go_wp2_with fail
   refine A1.out.mono ?_
   rintro e w4 o
   obtain ⟨rfl,h5,W⟩:=o
   have A:=(W.block gr (yL E.out.row) (by simp;have:=K.out.1;omega)).trans E.out.row
   obtain ⟨u,hu⟩:∃u,w4.cell? ⟨gr,k,none⟩=some u:=by
    rw [cell_of_row w4 gr k _ _ _ A]
    exact ⟨_,Array.getElem?_eq_getElem (by rw [E.out.size];exact hlt)⟩
   have hf:=frozen_of_row w4 gr k _ _ A
   have J:=heap_setCell_same w4 gr k _ _ (.int .i64 x) A
   have H5:=yH h5
   have H6:=yH (x0a E.out.grown W)
   have U:=yH J
   clear h5 W A J
   go_wp2_with fail
   go_roundw
   case rel=>
    refine ⟨k+1,_,t,by omega,by go_num,U.out,by simp [E.out.size],H5.out.low ((Below.refl _ _).setCell (p:=⟨gr,k,none⟩) (by have:=K.out.1;show g+1≤gr;omega) _),x0s H6.out (B:=gr) K.out.2 ((Below.refl _ _).setCell (p:=⟨gr,k,none⟩) (Nat.le_refl _) _) (by simp [World.setCell]),AH.out,AL.out⟩
   case measure=>simp [intOf];omega
  ·obtain rfl:m=k:=by omega
   have AB:=E.out.rd
   obtain ⟨p6,n6,c6,W⟩:=AB
   have h7:=W.err
   have H6:=yH W
   clear W
   by_cases G:M.e=0
   ·rw [G] at h7
    rcases E.out.run with ⟨L,_,hl,hc,I⟩ | ⟨AE,_⟩
    ·rw [Nat.sub_self] at I
     have I:(L,M)=T:=I
     have HX:=yH (show X=L from by rw [HV.out,← I,if_pos G])
     have Z:=yH (show T.2=M from by rw [← I])
     have HC:=yH hc
     have A0:=yH hl
     clear I hc hl G
     go_wp2_with fail
     go_ret
     rw [HX.out,Z.out]
     refine ⟨_,rfl,?_,⟨p6,n6,c6,H6.out⟩,E.out.grown⟩
     rw [A0.out]
     exact ⟨by rw [x2V,A0.out,Nat.mul_one],Or.inr ⟨gr,m,C,rfl,K.out.2,E.out.row,Nat.le_refl _,by unfold maxLen;omega,by rw [E.out.size,Nat.mul_one],by rw [Nat.mul_one];exact HC.out⟩⟩
    ·exact absurd G AE
   ·have ht:T.2=M:=by
     rcases E.out.run with ⟨L,AF,_⟩ | ⟨_,h⟩
     ·exact absurd AF G
     ·exact h
    have hx:X=[]:=by rw [HV.out,if_neg (by rw [ht];exact G)]
    have b1:((M.e:Int) !=0)=true:=by simp;omega
    have HX:=yH hx
    have Z:=yH ht
    clear G ht hx
    go_wp2_with fail
    go_ret
    rw [HX.out,Z.out]
    exact ⟨_,rfl,y2M _ _,⟨p6,n6,c6,H6.out⟩,E.out.grown⟩
end Go.Proofs.YtinihaflmdihaaaGreat.Nd
namespace Go.Proofs.YtinihaflmdihaaaGreat
open Go.RowKit
theorem y4D {w:World} {q:Option Addr} {n c:Nat} {B:List Nat} (h:Tx w q n c B) (hB:B≠[]):∃x,q=some x:=by
 rcases h.at' with ⟨_,C⟩ | ⟨x,A,_⟩
 ·have:=h.size
  have:=h.le
  exact absurd (List.length_eq_zero_iff.1 (by omega)) hB
 ·exact ⟨x,A⟩
theorem x7r {W:World} {g:Nat} {Z D:List Nat} {x:Addr} {c:Nat} (hg:W.heap[g]? =some (.cells (u8s Z) 30 (0,0))) (hZ:Z.length=32) (hD:D.length=32) (h:Tx W (some x) 32 c D):
  (Builtin.copy_ #[45,45] 3 #[.slice (some ⟨g,0,none⟩) 32 32,.slice (some x) 32 c]).run Tryz.prog W= .ok (goInt 32) (W.setCells g 0 (vals D)):=by
 have:=run_copy_cells (P:=Tryz.prog) W 45 45 3 5 g 0 32 32 x 32 c (vals D) A22 E5 (by rw [x00,hD];rfl) h.cells
  (fun j hj=>by rw [x00,hD] at hj;rw [Nat.zero_add,x1k hg j (by omega)];rfl) (fun j _=>frozen_of_row W g _ _ _ hg) (x0I D)
 rw [x00,hD] at this
 exact this
theorem x9L {W:World} {g:Nat} {Z D:List Nat} (hg:W.heap[g]? =some (.cells (u8s Z) 30 (0,0))) (hZ:Z.length=32) (hD:D.length=32):(W.setCells g 0 (vals D)).heap[g]? =some (.cells (u8s D) 30 (0,0)):=by
 have:=x0Q g 30 (vals D) [] (vals Z) [] W (by simpa [x06] using hg) (by rw [x00,x00,hZ,hD])
 simpa [x06] using this
end Go.Proofs.YtinihaflmdihaaaGreat
namespace Go.Proofs.YtinihaflmdihaaaGreat.Nd
open Go.RowKit
theorem x7s (s:Rd) (g:Nat) (w:World) (hs:RSx w g s) (hl:s.R.length<1099511627776):
  Calls Tryz.prog 196 #[.pointer (some ⟨g,0,none⟩)] w (RPost w g (.agg (u8s s.digV)) (s.past 32)):=by
 have r:=(zero_of_info Z25).1
 have v:=fun w'=>x4p (w.heap.size+1) w'
 have y:g<w.heap.size:=hs.lt
 have t:=yH hs
 have f:s.digV=s.part 32++zeros (32 - (s.part 32).length):=rfl
 have b:=x2y s
 have Z:=y4A s 32
 generalize s.digV=D at *
 have H:=yH b
 have M:=yH Z
 have J:=yH f
 clear hs b Z f
 go_enter Tryz.func196,Tryz.ntmps196
 go_upto_region 2 with fail
 have a:Below w.heap.size w (w.alloc (.cells (u8s (zeros 32)) 30)):=(Below.refl _ _).alloc (Nat.le_refl _) _
 have o:=heap_alloc_new w (.cells (u8s (zeros 32)) 30)
 have p:(w.alloc (.cells (u8s (zeros 32)) 30)).heap.size=w.heap.size+1:=by simp
 generalize w.alloc (.cells (u8s (zeros 32)) 30)=w1 at *
 have O:Below w1.heap.size w1 (w1.alloc (.cells (u8s (zeros 32)) 30)):=(Below.refl _ _).alloc (Nat.le_refl _) _
 have i:=heap_alloc_new w1 (.cells (u8s (zeros 32)) 30)
 rw [p] at i
 generalize w1.alloc (.cells (u8s (zeros 32)) 30)=w2 at *
 have G:Below w.heap.size w w2:=a.trans (O.mono (by omega))
 have Q:=yH ((O.block w.heap.size (by omega)).trans o)
 have U:=yH i
 have B2:=yH G
 have j:=x8R s 32 g w2.drew (t.out.later (Below.drew G)) (by omega) hl
 unfold x3K at j
 have W:=yH j
 clear a O o i p G j r
 rcases M.out with I | I
 ·have l:D=zeros 32:=by rw [J.out,I];rfl
  subst l
  rw [I] at W
  clear I M J
  go_region_law (go_simp;go_at_call 232;refine W.out.mono ?_;rintro e X I;obtain ⟨q,c,rfl,Y,d,L⟩:=I;have A:=(L.block (w.heap.size+1) (yL U.out) (by simp;omega)).trans U.out;have N:=run_copy_none (P:=Tryz.prog) X 45 45 3 5 (some ⟨w.heap.size+1,0,none⟩) q 32 32 0 c A22 E5 (by rfl);have h:=yH d;have C:=yH L;have B:=yH A;clear Y d L A)
  all_goals
   have m:=yH (x0a (x1L B2.out (some g)) (show w2.grownBy X (some g) from ⟨C.out.os,C.out.tape,C.out.output,C.out.size,C.out.block⟩))
   have E:=yH ((C.out.block w.heap.size (yL Q.out) (by simp;omega)).trans Q.out)
   clear C N Q U W
   go_wp2_with (first
    | (refine wpList_load_row (by rfl) 30 _ (by rfl) (w.heap.size+1) (by rfl) 30 _ (0,0) _ B.out A25 (by rfl) (by rw [x08,H.out];exact S25) ?_)
    | (refine wpList_store_row (by rfl) 30 _ _ (by rfl) w.heap.size (u8s (zeros 32)) (by rfl) (by rfl) _ _ E.out (by rw [x08,H.out];exact S25) rfl (x0b _) ?_))
   refine x0h 2 (by kernel_rfl) w.heap.size _ _ A25 S25 rfl (setRow_heap _ _ _ _ _ _ E.out) (by rw [x08,H.out]) ⟨rfl,?_,?_⟩
   ·exact h.out.low (Below.setRow (Below.refl _ _) (by omega) _)
   ·exact x0s m.out (Nat.le_refl _) (Below.setRow (Below.refl _ _) (Nat.le_refl _) _) (by simp)
 ·have l:s.part 32=D:=by rw [J.out,I];simp [zeros]
  rw [l,H.out] at W
  clear I M J
  go_region_law (go_simp;go_at_call 232;refine W.out.mono ?_;rintro e X I;obtain ⟨q,c,rfl,Y,d,L⟩:=I;obtain ⟨x,rfl⟩:=y4D Y (by intro e;have:=H.out;rw [e] at this;simp at this);have A:=(L.block (w.heap.size+1) (yL U.out) (by simp;omega)).trans U.out;have N:=x7r A (by simp [zeros]) H.out Y;have h:=yH d;have C:=yH L;have B:=yH A;clear Y d L A)
  all_goals
   have n:=x9L B.out (by simp [zeros]) H.out
   have K:=x5S (w:=X) (w.heap.size+1) 0 (vals D) (w.heap.size+1) (Nat.le_refl _)
   have k:=yH (h.out.low (K.mono (by omega)))
   have m:=yH (x0s (x0a (x1L B2.out (some g)) (show w2.grownBy X (some g) from ⟨C.out.os,C.out.tape,C.out.output,C.out.size,C.out.block⟩)) (show w.heap.size≤w.heap.size+1 by omega) K (by rw [(x0R _ _ _ _).1];exact Nat.le_refl _))
   have E:=yH (((K.block w.heap.size (by omega)).trans (C.out.block w.heap.size (yL Q.out) (by simp;omega))).trans Q.out)
   generalize X.setCells (w.heap.size+1) 0 (vals D)=w4 at *
   have u:=yH n
   clear n K h C B N Q U W
   go_wp2_with (first
    | (refine wpList_load_row (by rfl) 30 _ (by rfl) (w.heap.size+1) (by rfl) 30 _ (0,0) _ u.out A25 (by rfl) (by rw [x08,H.out];exact S25) ?_)
    | (refine wpList_store_row (by rfl) 30 _ _ (by rfl) w.heap.size (u8s D) (by rfl) (by rfl) _ _ E.out (by rw [x08,H.out];exact S25) (by rw [x08,x08,H.out];simp [zeros]) (x0b _) ?_))
   refine x0h 2 (by kernel_rfl) w.heap.size _ _ A25 S25 rfl (setRow_heap _ _ _ _ _ _ E.out) (by rw [x08,H.out]) ⟨rfl,?_,?_⟩
   ·exact k.out.low (Below.setRow (Below.refl _ _) (by omega) _)
   ·exact x0s m.out (Nat.le_refl _) (Below.setRow (Below.refl _ _) (Nat.le_refl _) _) (by simp)
end Go.Proofs.YtinihaflmdihaaaGreat.Nd
