/- DkMath, NlReadKid, NdLst, NdTally. -/
import Derived.Maps.AppendAt
import Derived.Great.BuildSlice
import Derived.Test.YtinihaflmdihaaaGreatK6
set_option maxRecDepth 100000
set_option maxHeartbeats 8000000
set_option linter.all false
namespace Go.Proofs.YtinihaflmdihaaaGreat.Dk
open Go.RowKit
def over (L:List Nat) (o:Nat) (P:List Nat):List Nat:=L.take o++P++L.drop (o+P.length)
theorem over_length {L P:List Nat} {o:Nat} (h:o+P.length≤L.length):(over L o P).length=L.length:=by
 simp [over];omega
theorem over_ok {L P:List Nat} {o:Nat} (h:Sm.allB L) (k:Sm.allB P):Sm.allB (over L o P):=fun x hx=>by
 simp only [over,List.mem_append] at hx
 rcases hx with (hx | hx) | hx
 ·exact h x (List.mem_of_mem_take hx)
 ·exact k x hx
 ·exact h x (List.mem_of_mem_drop hx)
structure D where
 L:List Nat
 n:Nat
 dead:Bool
 left:Int
 torn:Nat
 writes:Nat
structure D.ok (s:D):Prop where
 len:s.L.length=64*s.n
 bytes:Sm.allB s.L
 small:s.n≤4096
 torn:s.torn≤64
 left: -1≤s.left∧s.left<9223372036854775808
def D.new (n:Nat):D:=⟨zeros (64*n),n,false,-1,0,0⟩
theorem D.new_ok {n:Nat} (h:n≤4096):(D.new n).ok:=⟨by simp [D.new,zeros],zeros_ok _,h,by simp [D.new],by simp [D.new]⟩
def D.many (s:D):Nat:=if s.left=0 then s.torn else 64
def D.put (s:D) (i:Nat) (B:List Nat):D:=
 {s with L:=over s.L (64*i) (B.take s.many),dead:=decide (s.left=0),left:=if s.left=0 then -1 else if s.left>0 then s.left - 1 else s.left,writes:=s.writes+1}
def D.no (s:D) (i:Int) (m:Nat):Nat:=if s.dead=true then 30 else if i<0∨(s.n:Int)≤i then 9 else if m≠64 then 1 else 0
def D.says (s:D) (i:Int) (m:Nat):Nat:=if s.no i m=0 then (if s.left=0 then 30 else 0) else s.no i m
theorem D.put_ok {s:D} (h:s.ok) {i:Nat} {B:List Nat} (hi:i<s.n) (hB:Sm.allB B) (hl:B.length=64):(s.put i B).ok:=by
 have ht:s.many≤64:=by
  have:=h.torn
  unfold D.many
  split<;>omega
 have hL:=h.len
 refine ⟨?_,over_ok h.bytes (fun x hx=>hB x (List.mem_of_mem_take hx)),h.small,h.torn,?_⟩
 ·show (over s.L (64*i) (B.take s.many)).length=64*s.n
  rw [over_length (by rw [List.length_take];omega),hL]
 ·have:=h.left
  simp only [D.put]
  split
  ·omega
  ·split<;>omega
structure Only (P:Nat→Prop) (w w':World):Prop where
 os:w'.os=w.os
 tape:w'.tape=w.tape
 output:w'.output=w.output
 size:w.heap.size≤w'.heap.size
 block:∀k,k<w.heap.size→¬P k→w'.heap[k]? =w.heap[k]?
theorem Only.refl (P:Nat→Prop) (w:World):Only P w w:=⟨rfl,rfl,rfl,Nat.le_refl _,fun _ _ _=>rfl⟩
theorem Only.trans {P:Nat→Prop} {a b c:World} (h:Only P a b) (k:Only P b c):Only P a c:=
 ⟨k.os.trans h.os,k.tape.trans h.tape,k.output.trans h.output,Nat.le_trans h.size k.size,fun i hi hp=>(k.block i (Nat.lt_of_lt_of_le hi h.size) hp).trans (h.block i hi hp)⟩
theorem Only.mono {P Q:Nat→Prop} {w w':World} (h:Only P w w') (hq:∀k,P k→Q k):Only Q w w':=
 ⟨h.os,h.tape,h.output,h.size,fun k hk hn=>h.block k hk (fun hp=>hn (hq k hp))⟩
theorem Only.of_below (P:Nat→Prop) {w w':World} (h:Below w.heap.size w w'):Only P w w':=⟨h.os,h.tape,h.output,h.size,fun k hk _=>h.block k hk⟩
theorem Only.setCell {P:Nat→Prop} (w:World) {a:Addr} (ha:P a.block) (v:Value):Only P w (w.setCell a v):=
 ⟨rfl,rfl,rfl,by simp [World.setCell],fun k _ hn=>heap_setCell_other _ _ _ _ (fun e=>hn (by rw [e];exact ha))⟩
theorem Only.below {P:Nat→Prop} {w w':World} {base:Nat} (h:Only P w w') (hs:base≤w.heap.size) (hp:∀k,P k→base≤k):Below base w w':=
 ⟨h.os,h.tape,h.output,h.size,fun k hk=>h.block k (by omega) (fun e=>by have:=hp k e;omega)⟩
theorem tx_keep {w w':World} {p:Option Addr} {n c:Nat} {B:List Nat} (h:Tx w p n c B) (hk:∀x,p=some x→B≠[]→w'.heap[x.block]? =w.heap[x.block]?):Tx w' p n c B:=
 ⟨h.size,h.le,h.ok,h.at'.imp id fun ⟨x,hp,hx⟩=>⟨x,hp,fun j u hu=>by
  have h1:=hx j u hu
  have hB:B≠[]:=by rintro rfl;simp [vals] at hu
  have hb:(x.add j).block=x.block:=by cases x;simp [Addr.add];split<;>rfl
  rw [World.cell?_of_block (w:=w) (by rw [hb];exact hk x hp hB)]
  exact h1⟩,h.sp⟩
end Go.Proofs.YtinihaflmdihaaaGreat.Dk
namespace Go.Proofs.YtinihaflmdihaaaGreat.Nd
open Go.RowKit Go.Proofs.YtinihaflmdihaaaGreat.Dk
section
variable {k:Kd} (h:k.sum.length=32)
include h
theorem kd_set_lo (r:Rw):k.cells.toArray.setIfInBounds 32 r.val=({k with lo:=r}:Kd).cells.toArray:=by simp [Kd.cells,vals_length,h]
theorem kd_set_hi (r:Rw):k.cells.toArray.setIfInBounds 33 r.val=({k with hi:=r}:Kd).cells.toArray:=by simp [Kd.cells,vals_length,h]
theorem kd_set_live (x:Int):k.cells.toArray.setIfInBounds 34 (.int .i64 x)=({k with live:=x}:Kd).cells.toArray:=by simp [Kd.cells,vals_length,h]
theorem kd_set_size (x:Int):k.cells.toArray.setIfInBounds 35 (.int .i64 x)=({k with size:=x}:Kd).cells.toArray:=by simp [Kd.cells,vals_length,h]
theorem kd_set_key (r:Rw):k.cells.toArray.setIfInBounds 36 r.val=({k with key:=r}:Kd).cells.toArray:=by simp [Kd.cells,vals_length,h]
end
structure KdSt (w0 w:World) (gx g:Nat) (k:Kd) (s:Rd):Prop where
 res:w.heap[gx]? =some (.cells kd0.cells.toArray 34 (0,0))
 row:w.heap[gx+1]? =some (.cells k.cells.toArray 34 (0,0))
 rd:RSx w g s
 gr:w0.grownBy w (some g)
 len:k.sum.length=32
 at':w0.heap.size=gx∧g<gx
 lo:FrRw w (gx+2) k.lo
 hi:FrRw w (gx+2) k.hi
 key:FrRw w (gx+2) k.key
section
variable {w0 w w':World} {gx g:Nat} {k k':Kd} {s s':Rd}
theorem KdSt.call (h:KdSt w0 w gx g k s) (hr:RSx w' g s') (hg:w.grownBy w' (some g)):KdSt w0 w' gx g k s':=by
 have h1:=h.at'
 have hk:∀j,gx+2≤j→j<w.heap.size→w'.heap[j]? =w.heap[j]? :=fun j hj hl=>hg.block j hl (by simp;omega)
 exact ⟨(hg.block gx (yL h.res) (by simp;omega)).trans h.res,(hg.block (gx+1) (yL h.row) (by simp;omega)).trans h.row,hr,grown_twice h.gr hg,h.len,h1,h.lo.keep hk,h.hi.keep hk,h.key.keep hk⟩
theorem KdSt.put (h:KdSt w0 w gx g k s) (hr:w'.heap[gx+1]? =some (.cells k'.cells.toArray 34 (0,0))) (ho:Only (fun j=>j=gx+1) w w') (hl:k'.sum.length=32) (h1:FrRw w (gx+2) k'.lo) (h2:FrRw w (gx+2) k'.hi) (h3:FrRw w (gx+2) k'.key):KdSt w0 w' gx g k' s:=by
 have ha:=h.at'
 have hk:∀j,gx+2≤j→j<w.heap.size→w'.heap[j]? =w.heap[j]? :=fun j hj hl=>ho.block j hl (by omega)
 have hb:Below (gx+1) w w':=ho.below (by have:=(yL h.row);omega) (fun j hj=>by omega)
 exact ⟨(hb.block gx (by omega)).trans h.res,hr,h.rd.low (hb.mono (by omega)),grown_new h.gr (B:=gx+1) (by omega) hb hb.size,hl,ha,h1.keep hk,h2.keep hk,h3.keep hk⟩
theorem KdSt.cell (h:KdSt w0 w gx g k s):KAt w (gx+1) 0 k:=kat_row h.row h.len
end
theorem only_cells (w:World) (g o:Nat) (vs:List Value):Only (fun j=>j=g) w (w.setCells g o vs):=by
 obtain ⟨h1,h2,h3,h4⟩:=size_setCells g vs o w
 exact ⟨h2,h3,h4,by omega,fun j _ hj=>heap_setCells_other g vs o w j hj⟩
theorem kd_there {w:World} {g:Nat} {k:Kd} (h:w.heap[g]? =some (.cells k.cells.toArray 34 (0,0))) (hl:k.sum.length=32):w.there g 0 32:=fun j hj=>by
 refine ⟨?_,frozen_of_row w g _ _ _ h⟩
 rw [cell_of_row w g _ _ _ _ h]
 rw [Array.getElem?_eq_getElem (by rw [List.size_toArray,Kd.cells_length hl];omega)]
 rfl
theorem kd_sum {w:World} {g:Nat} {k:Kd} {D:List Nat} (h:w.heap[g]? =some (.cells k.cells.toArray 34 (0,0))) (hl:k.sum.length=32) (hD:D.length=32):(w.setCells g 0 (vals D)).heap[g]? =some (.cells ({k with sum:=D}:Kd).cells.toArray 34 (0,0)):=by
 have:=heap_setCells_same g 34 (vals D) [] (vals k.sum) [k.lo.val,k.hi.val,.int .i64 k.live,.int .i64 k.size,k.key.val] w (by simpa [Kd.cells] using h) (by rw [vals_length,vals_length,hl,hD])
 simpa [Kd.cells] using this
def RKid (w:World) (g:Nat) (k:PK) (s:Rd) (e:Ending) (w':World):Prop:=
 ∃kd:Kd,e= .returned (.agg kd.cells.toArray)∧kd.pk=k∧kd.Ok w'∧FrRw w' w.heap.size kd.lo∧FrRw w' w.heap.size kd.hi∧FrRw w' w.heap.size kd.key∧RSx w' g s∧w.grownBy w' (some g)
theorem readKid_any (s:Rd) (g:Nat) (w:World) (hs:RSx w g s) (hl:s.R.length<1099511627776):
  Calls Tryz.prog 147 #[.pointer (some ⟨g,0,none⟩)] w (RKid w g (s.kidV 8) (s.kidN 8)):=by
 have hok:Sm.allB s.R:=by obtain ⟨p,n,c,h⟩:=hs;exact h.tx.ok
 obtain ⟨V,hV⟩:∃V,s.kidV 8=V:=⟨_,rfl⟩
 obtain ⟨sN,hN⟩:∃t,s.kidN 8=t:=⟨_,rfl⟩
 rw [hV,hN]
 have hV:(⟨s.digV,s.k3.rowV 8,(s.k4 8).rowV 8,s.k1.countV 1048576,s.k2.countV 1048576,(s.k5 8).rowV 8⟩:PK)=V:=hV
 have hN:((s.k5 8).row 8).2=sN:=hN
 have h1:=k1_R hok
 have h2:=k2_R hok
 have h3:=k3_R hok
 have h4:=k4_R (m:=8) hok
 have h5:=k5_R (m:=8) hok
 have HC1:=yH (countV_in (m:=1048576) h1.1 (by omega))
 have HC2:=yH (countV_in (m:=1048576) h2.1 (by omega))
 have HI3:=yH (rowV_in (m:=8) h3.1)
 have HI4:=yH (rowV_in (m:=8) h4.1)
 have HI5:=yH (rowV_in (m:=8) h5.1)
 have HL3:=yH (rowV_len (m:=8) h3.1)
 have HL4:=yH (rowV_len (m:=8) h4.1)
 have HL5:=yH (rowV_len (m:=8) h5.1)
 have HD1:=yH (digV_length s)
 have HD2:=yH (digV_ok hok)
 have HA0:=yH (fun w1 (h:RSx w1 g s)=>ldigest_any s g w1 h hl)
 have HA1:=yH (fun w1 (h:RSx w1 g s.k1)=>rcount_any s.k1 1048576 g w1 h (Nat.lt_of_le_of_lt h1.2 hl))
 have HA2:=yH (fun w1 (h:RSx w1 g s.k2)=>rcount_any s.k2 1048576 g w1 h (Nat.lt_of_le_of_lt h2.2 hl))
 have HA3:=yH (fun w1 (h:RSx w1 g s.k3)=>lrow_any s.k3 g w1 h (Nat.lt_of_le_of_lt h3.2 hl))
 have HA4:=yH (fun w1 (h:RSx w1 g (s.k4 8))=>lrow_any (s.k4 8) g w1 h (Nat.lt_of_le_of_lt h4.2 hl))
 have HA5:=yH (fun w1 (h:RSx w1 g (s.k5 8))=>lrow_any (s.k5 8) g w1 h (Nat.lt_of_le_of_lt h5.2 hl))
 rw [show s.past 32=s.k1 from rfl] at HA0
 rw [show s.k1.count 1048576=s.k2 from rfl] at HA1
 rw [show s.k2.count 1048576=s.k3 from rfl] at HA2
 rw [show (s.k3.row 8).2=s.k4 8 from rfl] at HA3
 rw [show ((s.k4 8).row 8).2=s.k5 8 from rfl] at HA4
 rw [hN] at HA5
 clear h1 h2 h3 h4 h5 hN hok
 generalize s.digV=D at *
 generalize s.k1.countV 1048576=cl at *
 generalize s.k2.countV 1048576=cz at *
 generalize s.k3.rowV 8=A3 at *
 generalize (s.k4 8).rowV 8=A4 at *
 generalize (s.k5 8).rowV 8=A5 at *
 generalize s.k1=s1 at *
 generalize s.k2=s2 at *
 generalize s.k3=s3 at *
 generalize s.k4 8=s4 at *
 generalize s.k5 8=s5 at *
 have HV:=yH hV
 clear hV
 have hz:=(zero_of_info kz).1
 have hg:g<w.heap.size:=hs.lt
 have hb1:Below w.heap.size w (w.alloc (.cells kd0.cells.toArray 34)):=(Below.refl _ _).alloc (Nat.le_refl _) _
 have r1:=heap_alloc_new w (.cells kd0.cells.toArray 34)
 have z1:(w.alloc (.cells kd0.cells.toArray 34)).heap.size=w.heap.size+1:=by simp
 go_enter Tryz.func147,Tryz.ntmps147
 go_upto_region 1 with fail
 generalize w.alloc (.cells kd0.cells.toArray 34)=w1 at *
 have hb2:Below w1.heap.size w1 (w1.alloc (.cells kd0.cells.toArray 34)):=(Below.refl _ _).alloc (Nat.le_refl _) _
 have r2:=heap_alloc_new w1 (.cells kd0.cells.toArray 34)
 rw [z1] at r2
 go_upto_region 2 with fail
 generalize w1.alloc (.cells kd0.cells.toArray 34)=w2 at *
 have hb12:Below w.heap.size w w2:=hb1.trans (hb2.mono (by omega))
 obtain ⟨gx,hgx⟩:∃gx,gx=w.heap.size:=⟨_,rfl⟩
 have H2:=yH (show KdSt w w2 gx g kd0 s from by
  rw [hgx]
  exact ⟨(hb2.block w.heap.size (by omega)).trans r1,r2,hs.later hb12,grown_of_below hb12 _,by simp [kd0,zeros],⟨rfl,hg⟩,fr_none _ _,fr_none _ _,fr_none _ _⟩)
 have HGX:=yH hgx
 rw [← hgx]
 clear hb1 r1 z1 hb2 r2 hb12 hs hl hg hgx hz
 clear w1
 have A0:=yH (HA0.out w2 H2.out.rd)
 go_upto_region 3 with (first
  | (go_at_call 196;refine A0.out.mono ?_;rintro e w3 ⟨rfl,h3,k3⟩;have H3:=yH (H2.out.call h3 k3);clear h3 k3)
  | (refine wpList_store_mid (by rfl) 30 _ _ (by rfl) (gx+1) 0 (u8s D) (by rfl) (by rfl) (by rw [u8s_size,HD1.out];exact kd_there H3.out.row H3.out.len) (by rw [u8s_size,HD1.out];exact S25) (u8s_one _) ?_))
 have r4:=kd_sum (D:=D) H3.out.row H3.out.len HD1.out
 have H4:=yH (H3.out.put (k':={kd0 with sum:=D}) r4 (only_cells _ _ _ _) HD1.out (fr_none _ _) (fr_none _ _) (fr_none _ _))
 clear r4 H3 A0 H2
 rw [show (u8s D).toList=vals D from rfl]
 generalize w3.setCells (gx+1) 0 (vals D)=w4 at *
 have A0:=yH (HA1.out w4 H4.out.rd)
 go_upto_region 4 with (go_at_call 197;refine A0.out.mono ?_;rintro e w5 ⟨rfl,h3,k3⟩;have H5:=yH (H4.out.call h3 k3);have c9:=H5.out.cell.live;rw [Nat.zero_add] at c9;have f9:=frozen_of_row w5 (gx+1) 34 _ _ H5.out.row;clear h3 k3)
 have r4:=heap_setCell_same w5 (gx+1) 34 _ _ (.int .i64 cl) H5.out.row
 rw [kd_set_live H5.out.len] at r4
 have H6:=yH (H5.out.put r4 (Only.setCell (P:=fun j=>j=gx+1) _ (a:=⟨gx+1,34,none⟩) rfl _) H5.out.len H5.out.lo H5.out.hi H5.out.key)
 clear r4 c9 f9 A0 H5 H4
 generalize w5.setCell ⟨gx+1,34,none⟩ (.int .i64 cl)=w6 at *
 have A0:=yH (HA2.out w6 H6.out.rd)
 go_upto_region 5 with (go_at_call 197;refine A0.out.mono ?_;rintro e w7 ⟨rfl,h3,k3⟩;have H7:=yH (H6.out.call h3 k3);have c9:=H7.out.cell.size;rw [Nat.zero_add] at c9;have f9:=frozen_of_row w7 (gx+1) 35 _ _ H7.out.row;clear h3 k3)
 have r4:=heap_setCell_same w7 (gx+1) 35 _ _ (.int .i64 cz) H7.out.row
 rw [kd_set_size H7.out.len] at r4
 have H8:=yH (H7.out.put r4 (Only.setCell (P:=fun j=>j=gx+1) _ (a:=⟨gx+1,35,none⟩) rfl _) H7.out.len H7.out.lo H7.out.hi H7.out.key)
 clear r4 c9 f9 A0 H7 H6
 generalize w7.setCell ⟨gx+1,35,none⟩ (.int .i64 cz)=w8 at *
 have A0:=yH (HA3.out w8 H8.out.rd)
 go_upto_region 6 with (go_at_call 195;refine A0.out.mono ?_;rintro e w9 ⟨v9,rfl,o9,h3,k3⟩;obtain ⟨q3,rfl,hr9,-,hf9⟩:=fr_of_own o9 HI3.out (by have:=HL3.out;omega);have FR3:=yH hf9;have RR3:=yH hr9;have Z3:=yH (show gx+2≤w8.heap.size from (yL H8.out.row));have H9:=yH (H8.out.call h3 k3);have c9:=H9.out.cell.lo;rw [Nat.zero_add] at c9;have f9:=frozen_of_row w9 (gx+1) 32 _ _ H9.out.row;clear h3 k3 o9 hf9 hr9;unfold Rw.val at c9;unfold Rw.val)
 have r4:=heap_setCell_same w9 (gx+1) 32 _ _ q3.val H9.out.row
 rw [kd_set_lo H9.out.len] at r4
 have H10:=yH (H9.out.put r4 (Only.setCell (P:=fun j=>j=gx+1) _ (a:=⟨gx+1,32,none⟩) rfl _) H9.out.len (FR3.out.base Z3.out) H9.out.hi H9.out.key)
 clear r4 c9 f9 A0 H9 H8 FR3 Z3
 unfold Rw.val at H10
 generalize w9.setCell ⟨gx+1,32,none⟩ (.slice q3.p q3.n q3.c)=w10 at *
 have A0:=yH (HA4.out w10 H10.out.rd)
 go_upto_region 7 with (go_at_call 195;refine A0.out.mono ?_;rintro e w11 ⟨v9,rfl,o9,h3,k3⟩;obtain ⟨q4,rfl,hr9,-,hf9⟩:=fr_of_own o9 HI4.out (by have:=HL4.out;omega);have FR4:=yH hf9;have RR4:=yH hr9;have Z4:=yH (show gx+2≤w10.heap.size from (yL H10.out.row));have H11:=yH (H10.out.call h3 k3);have c9:=H11.out.cell.hi;rw [Nat.zero_add] at c9;have f9:=frozen_of_row w11 (gx+1) 33 _ _ H11.out.row;clear h3 k3 o9 hf9 hr9;unfold Rw.val at c9;unfold Rw.val)
 have r4:=heap_setCell_same w11 (gx+1) 33 _ _ q4.val H11.out.row
 rw [kd_set_hi H11.out.len] at r4
 have H12:=yH (H11.out.put r4 (Only.setCell (P:=fun j=>j=gx+1) _ (a:=⟨gx+1,33,none⟩) rfl _) H11.out.len H11.out.lo (FR4.out.base Z4.out) H11.out.key)
 clear r4 c9 f9 A0 H11 H10 FR4 Z4
 unfold Rw.val at H12
 generalize w11.setCell ⟨gx+1,33,none⟩ (.slice q4.p q4.n q4.c)=w12 at *
 have A0:=yH (HA5.out w12 H12.out.rd)
 go_upto_region 8 with (go_at_call 195;refine A0.out.mono ?_;rintro e w13 ⟨v9,rfl,o9,h3,k3⟩;obtain ⟨q5,rfl,hr9,-,hf9⟩:=fr_of_own o9 HI5.out (by have:=HL5.out;omega);have FR5:=yH hf9;have RR5:=yH hr9;have Z5:=yH (show gx+2≤w12.heap.size from (yL H12.out.row));have H13:=yH (H12.out.call h3 k3);have c9:=H13.out.cell.key;rw [Nat.zero_add] at c9;have f9:=frozen_of_row w13 (gx+1) 36 _ _ H13.out.row;clear h3 k3 o9 hf9 hr9;unfold Rw.val at c9;unfold Rw.val)
 have r4:=heap_setCell_same w13 (gx+1) 36 _ _ q5.val H13.out.row
 rw [kd_set_key H13.out.len] at r4
 have H14:=yH (H13.out.put r4 (Only.setCell (P:=fun j=>j=gx+1) _ (a:=⟨gx+1,36,none⟩) rfl _) H13.out.len H13.out.lo H13.out.hi (FR5.out.base Z5.out))
 clear r4 c9 f9 A0 H13 H12 FR5 Z5
 unfold Rw.val at H14
 generalize w13.setCell ⟨gx+1,36,none⟩ (.slice q5.p q5.n q5.c)=w14 at *
 have HF:=yH (show KdSt w w14 gx g (⟨D,q3,q4,cl,cz,q5⟩:Kd) sN from H14.out)
 clear H14
 obtain ⟨kd,hkd⟩:∃kd:Kd,(⟨D,q3,q4,cl,cz,q5⟩:Kd)=kd:=⟨_,rfl⟩
 have HPK:=yH (show kd.pk=V from by rw [← hkd,← HV.out,← RR3.out,← RR4.out,← RR5.out];rfl)
 have HIN:=yH (show In64 kd.live∧In64 kd.size∧Sm.allB kd.sum from by rw [← hkd];exact ⟨⟨by have:=HC1.out;show -9223372036854775808≤cl;omega,by have:=HC1.out;show cl≤9223372036854775807;omega⟩,⟨by have:=HC2.out;show -9223372036854775808≤cz;omega,by have:=HC2.out;show cz≤9223372036854775807;omega⟩,HD2.out⟩)
 rw [hkd] at HF
 clear hkd
 obtain ⟨du,hdu,hdr⟩:=UKd
 have HD:=yH hdu
 have HDR:=yH hdr
 have HCL:=yH (Kd.cells_length HF.out.len)
 have HRR:=yH (range_kd HF.out.row)
 clear hdu hdr
 go_wp2_with (first
  | (refine wpList_load_mid (by rfl) 34 _ (by rfl) _ 0 (by rfl) kd.cells du HRR.out HD.out HDR.out (by rw [HCL.out];exact SKd) ?_)
  | (refine wpList_store_row (by rfl) 34 _ _ (by rfl) gx kd.cells.toArray (by rfl) (by rfl) _ _ HF.out.res (by rw [List.size_toArray,HCL.out];exact SKd) (by simp only [List.size_toArray,HCL.out,kd0_size]) (all_oneCell_toArray Kd.one) ?_))
 have r9:=setRow_heap _ gx _ kd.cells.toArray _ _ HF.out.res
 have hb9:Below gx w14 (w14.setRow gx kd.cells.toArray):=Below.setRow (Below.refl _ _) (Nat.le_refl _) _
 have hfr:∀r:Rw,FrRw w14 (gx+2) r→FrRw (w14.setRow gx kd.cells.toArray) w.heap.size r:=fun r h=>(h.keep (fun j hj _=>setRow_other _ _ _ _ (by omega))).base (by have:=HGX.out;omega)
 have f1:=hfr _ HF.out.lo
 have f2:=hfr _ HF.out.hi
 have f3:=hfr _ HF.out.key
 refine ret_str 2 (by kernel_rfl) gx _ _ HD.out HDR.out (by rw [List.size_toArray,HCL.out];exact SKd) (by rfl) r9 ⟨kd,rfl,HPK.out,⟨HF.out.len,HIN.out.2.2,f1.ok,f2.ok,f3.ok,HIN.out.1,HIN.out.2.1⟩,f1,f2,f3,HF.out.rd.low (hb9.mono (by have:=HF.out.at';omega)),grown_new HF.out.gr (show w.heap.size≤gx by have:=HGX.out;omega) hb9 hb9.size⟩
end Go.Proofs.YtinihaflmdihaaaGreat.Nd
namespace Go.Proofs.YtinihaflmdihaaaGreat.Nd
open Go.RowKit
theorem UEs:Tryz.prog.underlying 78=some (.slice 85):=by kernel_rfl
theorem UKs:Tryz.prog.underlying 79=some (.slice 34):=by kernel_rfl
theorem IEn:(Tryz.prog.info? 85).map (fun i=>(i.zero,i.size,i.bytes))=some (some (.agg #[.slice none 0 0,.bool false]),2,32):=by kernel_rfl
theorem IKd:(Tryz.prog.info? 34).map (fun i=>(i.zero,i.size,i.bytes))=some (some (.agg kd0.cells.toArray),37,120):=by kernel_rfl
def En.cells (e:En):List Value:=[e.row.val,.bool e.live]
def Kd.rows (k:Kd):List Rw:=[k.lo,k.hi,k.key]
def En.rows (e:En):List Rw:=[e.row]
structure Lst {α:Type} (t:TypeId) (sz:Nat) (cells:α→List Value) (rows:α→List Rw) (B:Nat) (w:World) (v:Value) (n:Nat) (L:List α):Prop where
 len:n=L.length
 own:w.ownsRow B t sz v n (L.flatMap cells)
 each:∀e∈L,∀r∈rows e,FrRw w B r∧∀x,r.p=some x→r.R≠[]→v.ownBlock≠some x.block
section
variable {α:Type} {t:TypeId} {sz:Nat} {cells:α→List Value} {rows:α→List Rw} {B:Nat} {w w':World} {v v':Value} {n:Nat} {L:List α}
theorem Lst.nil (w:World):Lst t sz cells rows B w (.slice none 0 0) 0 ([]:List α):=⟨rfl,World.ownsRow_nil _ _ _ _,fun e he=>by cases he⟩
theorem Lst.keep (h:Lst t sz cells rows B w v n L) (hk:∀k,B≤k→k<w.heap.size→w'.heap[k]? =w.heap[k]?):Lst t sz cells rows B w' v n L:=by
 refine ⟨h.len,⟨h.own.1,h.own.2.imp id ?_⟩,fun e he r hr=>⟨(h.each e he r hr).1.keep hk,(h.each e he r hr).2⟩⟩
 rintro ⟨g,cap,cur,hv,hg,hh,r⟩
 exact ⟨g,cap,cur,hv,hg,(hk g hg (yL hh)).trans hh,r⟩
theorem Lst.later (h:Lst t sz cells rows B w v n L) (hb:Below w.heap.size w w'):Lst t sz cells rows B w' v n L:=h.keep fun k _ hk=>hb.block k hk
theorem Lst.grown (h:Lst t sz cells rows B w v n L) {g:Nat} (hg:w.grownBy w' (some g)) (hlt:g<B):Lst t sz cells rows B w' v n L:=h.keep fun k hB hk=>hg.block k hk (by simp;omega)
theorem Lst.put (h:Lst t sz cells rows B w v n L) {e:α} (he:∀r∈rows e,FrRw w B r∧∀x,r.p=some x→r.R≠[]→v.ownBlock≠some x.block) (hown:w'.ownsRow B t sz v' (n+1) (L.flatMap cells++cells e)) (hg:w.grownBy w' v.ownBlock) (hat:v'.ownBlock=v.ownBlock∨v'.ownBlock=some w.heap.size):Lst t sz cells rows B w' v' (n+1) (L++[e]):=by
 have key:∀r:Rw,(FrRw w B r∧∀x,r.p=some x→r.R≠[]→v.ownBlock≠some x.block)→FrRw w' B r∧∀x,r.p=some x→r.R≠[]→v'.ownBlock≠some x.block:=fun r hr=>by
  refine ⟨⟨rw_keep hr.1.ok fun x hx hR=>hg.block _ (hr.1.lt x hx hR) (fun e=>hr.2 x hx hR e.symm),hr.1.lo⟩,fun x hx hR e=>?_⟩
  rcases hat with h1 | h1
  ·exact hr.2 x hx hR (h1.symm.trans e)
  ·rw [h1] at e
   have:=hr.1.lt x hx hR
   have e':w.heap.size=x.block:=Option.some.inj e
   omega
 refine ⟨by rw [List.length_append,← h.len];rfl,by rw [List.flatMap_append];simpa using hown,fun e' he' r hr=>?_⟩
 rcases List.mem_append.1 he' with h1 | h1
 ·exact key r (h.each e' h1 r hr)
 ·simp only [List.mem_cons,List.not_mem_nil,or_false] at h1
  subst h1
  exact key r (he r hr)
theorem Lst.form (h:Lst t sz cells rows B w v n L):∃q c,v= .slice q n c∧n≤c:=by
 rcases h.own.2 with ⟨rfl,h0⟩ | ⟨g,cap,cur,rfl,_,_,hc,_⟩
 ·exact ⟨none,0,by rw [h0],by omega⟩
 ·exact ⟨_,cap,rfl,hc⟩
theorem flat_get (hc:∀e∈L,(cells e).length=sz):∀(i j:Nat) (u:Value) [Inhabited α],i<L.length→(cells (L.getD i default))[j]? =some u→(L.flatMap cells)[i*sz+j]? =some u:=by
 intro i j u _ hi hj
 induction L generalizing i with
 | nil=>simp at hi
 | cons a L ih=>
  have ha:=hc a (by simp)
  rw [List.flatMap_cons]
  cases i with
  | zero=>
   rw [Nat.zero_mul,Nat.zero_add]
   have hj:(cells a)[j]? =some u:=by simpa using hj
   rw [List.getElem?_append_left (List.getElem?_eq_some_iff.1 hj).1]
   exact hj
  | succ i=>
   rw [List.getElem?_append_right (by rw [ha,Nat.succ_mul];omega),ha,Nat.succ_mul,show i*sz+sz+j - sz=i*sz+j by omega]
   exact ih (fun e he=>hc e (by simp [he])) i (by simpa using hi) (by simpa using hj)
theorem Lst.range [Inhabited α] {q:Option Addr} {c:Nat} (h:Lst t sz cells rows B w (.slice q n c) n L) (hc:∀e∈L,(cells e).length=sz):L=[]∨∃g,q=some ⟨g,0,none⟩∧∀i,i<L.length→w.rangeAt g (i*sz) (cells (L.getD i default)):=by
 rcases h.own.2 with ⟨_,h0⟩ | ⟨g,cap,cur,hv,hb,hg,hle,hm,hs,ht⟩
 ·exact Or.inl (List.length_eq_zero_iff.1 (by rw [← h.len];exact h0))
 ·simp only [Value.slice.injEq,true_and] at hv
  obtain ⟨rfl,rfl⟩:=hv
  refine Or.inr ⟨g,rfl,fun i hi j u hu=>?_⟩
  have hx:=flat_get hc i j u hi hu
  have hlt:=(List.getElem?_eq_some_iff.1 hx).1
  rw [World.ownsRow.cellAt h.own (i*sz+j) (by rw [← h.own.1];exact hlt),hx]
end
abbrev Ens (B:Nat):=Lst 85 2 En.cells En.rows B
structure Kds (B:Nat) (w:World) (v:Value) (n:Nat) (K:List Kd):Prop where
 lst:Lst 34 37 Kd.cells Kd.rows B w v n K
 good:∀k∈K,k.sum.length=32∧Sm.allB k.sum∧In64 k.live∧In64 k.size
theorem Ens.ents {B:Nat} {w:World} {q:Option Addr} {n c:Nat} {E:List En} (h:Ens B w (.slice q n c) n E) (hn:n≤9223372036854775807):EntsIn w q n c E:=by
 have hf:n≤c:=by
  obtain ⟨q',c',e,hc⟩:=h.form
  cases e
  exact hc
 refine ⟨h.len,hf,hn,fun e he=>(h.each e he e.row (by simp [En.rows])).1.ok,?_⟩
 rcases h.range (fun e _=>rfl) with h0 | ⟨g,hq,hx⟩
 ·exact Or.inl h0
 ·exact Or.inr ⟨g,0,hq,fun i hi=>⟨by have:=hx i hi 0 _ rfl;simpa using this,by have:=hx i hi 1 _ rfl;simpa using this⟩⟩
theorem Kds.kids {B:Nat} {w:World} {q:Option Addr} {n c:Nat} {K:List Kd} (h:Kds B w (.slice q n c) n K) (hn:n≤9223372036854775807):KidsIn w q n c K:=by
 have hf:n≤c:=by
  obtain ⟨q',c',e,hc⟩:=h.lst.form
  cases e
  exact hc
 have hr:=fun k hk r hr=>(h.lst.each k hk r hr).1.ok
 refine ⟨h.lst.len,hf,hn,fun k hk=>⟨(h.good k hk).1,(h.good k hk).2.1,hr k hk k.lo (by simp [Kd.rows]),hr k hk k.hi (by simp [Kd.rows]),hr k hk k.key (by simp [Kd.rows]),(h.good k hk).2.2.1,(h.good k hk).2.2.2⟩,?_⟩
 rcases h.lst.range (fun k hk=>Kd.cells_length (h.good k hk).1) with h0 | ⟨g,hq,hx⟩
 ·exact Or.inl h0
 ·exact Or.inr ⟨g,0,hq,fun i hi=>by have:=hx i hi;simpa using this⟩
theorem ent_fill (q:Option Addr) (m c:Nat) (b:Bool):Instr.fill (fun i=>some (i*2,2)) ((Array.range (1*2)).map ((Value.agg #[.slice none 0 0,.bool false]).cells[·%(Value.agg #[.slice none 0 0,.bool false]).cells.size]!)) [(0,.agg #[.slice q m c,.bool b])]=some #[.slice q m c,.bool b]:=by kernel_rfl
theorem kid_fill (q1 q2 q3:Option Addr) (m1 c1 m2 c2 m3 c3:Nat) (x y:Int):∀(D:List Nat),D.length=32→Instr.fill (fun i=>some (i*37,37)) ((Array.range (1*37)).map ((Value.agg kd0.cells.toArray).cells[·%(Value.agg kd0.cells.toArray).cells.size]!)) [(0,.agg (vals D++[Value.slice q1 m1 c1,.slice q2 m2 c2,.int .i64 x,.int .i64 y,.slice q3 m3 c3]).toArray)]=some ((vals D++[Value.slice q1 m1 c1,.slice q2 m2 c2,.int .i64 x,.int .i64 y,.slice q3 m3 c3]).toArray)
 |[a0,a1,a2,a3,a4,a5,a6,a7,a8,a9,a10,a11,a12,a13,a14,a15,a16,a17,a18,a19,a20,a21,a22,a23,a24,a25,a26,a27,a28,a29,a30,a31],_=>by kernel_rfl
theorem wp_ent_one {w:World} {o:Oper} {a:Act} {K:Act→World→Prop} {Q:Exit→Act→World→Prop} (x:Operand) (ho:o.op= .buildSlice 78 1 #[(0,x)]) {q:Option Addr} {m c:Nat} {b:Bool} (hx:a.eval x= .agg #[.slice q m c,.bool b])
  (h:K (a.put o.dst (.slice (some ⟨w.heap.size,0,none⟩) 1 1)) (w.alloc (.cells #[.slice q m c,.bool b] 85))):o.wp Tryz.prog a w K Q:=by
 obtain ⟨i,hi,hi0,hi1,hi2⟩:=info_parts IEn
 refine wp_buildSlice 78 85 1 #[(0,x)] ho _ i _ UEs hi hi0 (by rw [hi1];omega) (by rw [hi1];omega) ?_ h
 rw [hi1]
 simp only [List.map_toArray,List.map_cons,List.map_nil,hx]
 exact ent_fill q m c b
theorem wp_kid_one {w:World} {o:Oper} {a:Act} {K:Act→World→Prop} {Q:Exit→Act→World→Prop} (x:Operand) (ho:o.op= .buildSlice 79 1 #[(0,x)]) {k:Kd} (hk:k.sum.length=32) (hx:a.eval x= .agg k.cells.toArray)
  (h:K (a.put o.dst (.slice (some ⟨w.heap.size,0,none⟩) 1 1)) (w.alloc (.cells k.cells.toArray 34))):o.wp Tryz.prog a w K Q:=by
 obtain ⟨i,hi,hi0,hi1,hi2⟩:=info_parts IKd
 refine wp_buildSlice 79 34 1 #[(0,x)] ho k.cells.toArray i _ UKs hi hi0 (by rw [hi1];omega) (by rw [hi1];omega) ?_ h
 rw [hi1]
 simp only [List.map_toArray,List.map_cons,List.map_nil,hx]
 exact kid_fill _ _ _ _ _ _ _ _ _ _ _ k.sum hk
theorem En.one {e:En}:∀u∈e.cells,u.oneCell'=true:=by
 intro u hu
 simp only [En.cells,List.mem_cons,List.not_mem_nil,or_false] at hu
 rcases hu with rfl | rfl<;>rfl
theorem ent_news (w:World) (e:En):∀j u,e.cells[j]? =some u→(w.alloc (.cells #[.slice e.row.p e.row.n e.row.c,.bool e.live] 85)).cell? ((⟨w.heap.size,0,none⟩:Addr).add j)=some u:=fun j u hu=>by
 rw [Addr.add_mid,Nat.zero_add,cell_of_row _ w.heap.size j _ _ _ (heap_alloc_new w _)]
 simpa [En.cells,Rw.val] using hu
theorem kid_news (w:World) (k:Kd):∀j u,k.cells[j]? =some u→(w.alloc (.cells k.cells.toArray 34)).cell? ((⟨w.heap.size,0,none⟩:Addr).add j)=some u:=fun j u hu=>by
 rw [Addr.add_mid,Nat.zero_add,cell_of_row _ w.heap.size j _ _ _ (heap_alloc_new w _)]
 simpa using hu
end Go.Proofs.YtinihaflmdihaaaGreat.Nd
namespace Go.Proofs.YtinihaflmdihaaaGreat.Nd
open Go.RowKit Go.Proofs.YtinihaflmdihaaaGreat.Dk
def boxE (b:List Int×List Int) (e:PE):List Int×List Int:=if e.live then hull b (e.row,e.row) else b
def boxK (b:List Int×List Int) (k:PK):List Int×List Int:=hull b (k.lo,k.hi)
def boxR (L:List PE):List Int×List Int:=L.foldl boxE ([],[])
def liveR (L:List PE):Int:=(L.map fun e=>if e.live then (1:Int) else 0).sum
def PN.box (n:PN):List Int×List Int:=n.kids.foldl boxK (boxR n.rows)
def PN.live (n:PN):Int:=liveR n.rows+(n.kids.map PK.live).sum
def PN.size (n:PN):Int:=n.rows.length+(n.kids.map PK.size).sum
def PN.tally (n:PN):PK:=⟨zeros 32,n.box.1,n.box.2,n.live,n.size,n.keyOf⟩
theorem take_fold {α β:Type} [Inhabited α] (f:β→α→β) (b:β) (L:List α) (k:Nat) (h:k<L.length):(L.take (k+1)).foldl f b=f ((L.take k).foldl f b) (L.getD k default):=by
 rw [List.take_succ_eq_append_getElem h,List.foldl_append,List.getD_eq_getElem?_getD,List.getElem?_eq_getElem h]
 rfl
theorem take_sum {α:Type} [Inhabited α] (f:α→Int) (L:List α) (k:Nat) (h:k<L.length):((L.take (k+1)).map f).sum=((L.take k).map f).sum+f (L.getD k default):=by
 rw [List.take_succ_eq_append_getElem h,List.map_append,List.sum_append,List.getD_eq_getElem?_getD,List.getElem?_eq_getElem h]
 simp
theorem map_getD {α β:Type} [Inhabited α] [Inhabited β] (g:α→β) (L:List α) (k:Nat) (h:k<L.length):(L.map g).getD k default=g (L.getD k default):=by
 rw [List.getD_eq_getElem?_getD,List.getD_eq_getElem?_getD,List.getElem?_map,List.getElem?_eq_getElem h]
 rfl
instance:Inhabited PE:=⟨⟨[],false⟩⟩
instance:Inhabited PK:=⟨PK.none⟩
theorem sum_le {α:Type} (f:α→Int) (B:Int):∀L:List α,(∀x∈L,0≤f x∧f x≤B)→0≤(L.map f).sum∧(L.map f).sum≤B*L.length
 |[],_=>by simp
 | x::L,h=>by
  have h1:=h x (by simp)
  have h2:=sum_le f B L (fun y hy=>h y (by simp [hy]))
  simp only [List.map_cons,List.sum_cons,List.length_cons,Int.natCast_add,Int.natCast_one,Int.mul_add,Int.mul_one]
  omega
theorem live_le (L:List PE):0≤liveR L∧liveR L≤L.length:=by
 have:=sum_le (fun e:PE=>if e.live then (1:Int) else 0) 1 L (fun e _=>by split<;>omega)
 unfold liveR
 omega
def Away (X:Nat) (r:Rw):Prop:=∀x,r.p=some x→r.R≠[]→x.block≠X
theorem FrRw.away {w:World} {base X:Nat} {r:Rw} (h:FrRw w base r) (hX:X<base):Away X r:=fun x hx hR=>by have:=h.lo x hx hR;omega
theorem away_nil (X:Nat) {r:Rw} (h:r.R=[]):Away X r:=fun _ _ hR=>absurd h hR
structure TaSt (w0 w:World) (gn kind:Nat) (p:Option Addr) (n c:Nat) (q:Option Addr) (m f gr gx:Nat) (kd:Kd):Prop where
 node:NodeAt w gn kind p n c q m f
 res:w.heap[gr]? =some (.cells kd0.cells.toArray 34 (0,0))
 row:w.heap[gx]? =some (.cells kd.cells.toArray 34 (0,0))
 ok:kd.Ok w
 away:∀r∈kd.rows,Away gx r∧Away gr r
 low:Below w0.heap.size w0 w
 ge:w0.heap.size≤gn∧w0.heap.size≤gr∧w0.heap.size≤gx
 ne:gn≠gx∧gr≠gx∧gn≠gr
section
variable {w0 w w':World} {gn kind:Nat} {p:Option Addr} {n c:Nat} {q:Option Addr} {m f gr gx:Nat} {kd kd':Kd}
theorem TaSt.later (h:TaSt w0 w gn kind p n c q m f gr gx kd) (hb:Below w.heap.size w w'):TaSt w0 w' gn kind p n c q m f gr gx kd:=
 ⟨h.node.later hb,(hb.block _ (yL h.res)).trans h.res,(hb.block _ (yL h.row)).trans h.row,h.ok.later hb,h.away,h.low.trans (hb.mono h.low.size),h.ge,h.ne⟩
theorem TaSt.cell (h:TaSt w0 w gn kind p n c q m f gr gx kd):KAt w gx 0 kd:=kat_row h.row h.ok.len
theorem TaSt.turn (h:TaSt w0 w gn kind p n c q m f gr gx kd) (hrow:w'.heap[gx]? =some (.cells kd'.cells.toArray 34 (0,0))) (ho:Only (fun j=>j=gx) w w') (hs:kd'.sum=kd.sum) (hr:∀r∈kd'.rows,r.Ok w∧Away gx r∧Away gr r) (hl:In64 kd'.live) (hz:In64 kd'.size):TaSt w0 w' gn kind p n c q m f gr gx kd':=by
 have key:∀r:Rw,r.Ok w∧Away gx r∧Away gr r→r.Ok w':=fun r hr=>rw_keep hr.1 fun x hx hR=>ho.block _ (by
  rcases hr.1.ints.at' with h0 | ⟨g,o,hp,hc⟩
  ·exact absurd h0 hR
  ·rw [hx] at hp
   obtain rfl:x=⟨g,o,Option.none⟩:=by simpa using hp
   have:=hc 0 (List.length_pos_iff.2 hR)
   exact block_lt_of_cell this) (hr.2.1 x hx hR)
 refine ⟨⟨(ho.block _ (yL h.node.row) h.ne.1).trans h.node.row⟩,(ho.block _ (yL h.res) h.ne.2.1).trans h.res,hrow,⟨by rw [hs];exact h.ok.len,by rw [hs];exact h.ok.ok,key _ (hr _ (by simp [Kd.rows])),key _ (hr _ (by simp [Kd.rows])),key _ (hr _ (by simp [Kd.rows])),hl,hz⟩,fun r hm=>(hr r hm).2,h.low.trans (ho.below (by have:=h.low.size;omega) (fun j e=>by rw [e];exact h.ge.2.2)),h.ge,h.ne⟩
theorem TaSt.rows (h:TaSt w0 w gn kind p n c q m f gr gx kd):∀r∈kd.rows,r.Ok w∧Away gx r∧Away gr r:=fun r hr=>by
 refine ⟨?_,h.away r hr⟩
 simp only [Kd.rows,List.mem_cons,List.not_mem_nil,or_false] at hr
 rcases hr with rfl | rfl | rfl
 ·exact h.ok.lo
 ·exact h.ok.hi
 ·exact h.ok.key
theorem TaSt.setLive (h:TaSt w0 w gn kind p n c q m f gr gx kd) (x:Int) (hx:In64 x):TaSt w0 (w.setCell ⟨gx,34,none⟩ (.int .i64 x)) gn kind p n c q m f gr gx {kd with live:=x}:=by
 have r:=heap_setCell_same w gx 34 _ _ (.int .i64 x) h.row
 rw [kd_set_live h.ok.len] at r
 exact h.turn r (Only.setCell (P:=fun j=>j=gx) _ (a:=⟨gx,34,none⟩) rfl _) rfl h.rows hx h.ok.size
theorem TaSt.setSize (h:TaSt w0 w gn kind p n c q m f gr gx kd) (x:Int) (hx:In64 x):TaSt w0 (w.setCell ⟨gx,35,none⟩ (.int .i64 x)) gn kind p n c q m f gr gx {kd with size:=x}:=by
 have r:=heap_setCell_same w gx 35 _ _ (.int .i64 x) h.row
 rw [kd_set_size h.ok.len] at r
 exact h.turn r (Only.setCell (P:=fun j=>j=gx) _ (a:=⟨gx,35,none⟩) rfl _) rfl h.rows h.ok.live hx
theorem kd_box {w:World} {g:Nat} {k:Kd} {r1 r2:Rw} (h:w.heap[g]? =some (.cells k.cells.toArray 34 (0,0))) (hl:k.sum.length=32):(w.setCells g 32 [r1.val,r2.val]).heap[g]? =some (.cells ({k with lo:=r1,hi:=r2}:Kd).cells.toArray 34 (0,0)):=by
 have:=heap_setCells_same g 34 [r1.val,r2.val] (vals k.sum) [k.lo.val,k.hi.val] [.int .i64 k.live,.int .i64 k.size,k.key.val] w (by simpa [Kd.cells] using h) rfl
 rw [vals_length,hl] at this
 simpa [Kd.cells] using this
theorem kd_there2 {w:World} {g:Nat} {k:Kd} (h:w.heap[g]? =some (.cells k.cells.toArray 34 (0,0))) (hl:k.sum.length=32) (r1 r2:Rw):w.there g 32 (#[r1.val,r2.val]:Array Value).size:=fun j hj=>by
 refine ⟨?_,frozen_of_row w g _ _ _ h⟩
 have hj:j<2:=hj
 rw [cell_of_row w g _ _ _ _ h]
 rw [Array.getElem?_eq_getElem (by rw [List.size_toArray,Kd.cells_length hl];omega)]
 rfl
theorem TaSt.setBox (h:TaSt w0 w gn kind p n c q m f gr gx kd) {r1 r2:Rw} (h1:r1.Ok w∧Away gx r1∧Away gr r1) (h2:r2.Ok w∧Away gx r2∧Away gr r2):TaSt w0 (w.setCells gx 32 [r1.val,r2.val]) gn kind p n c q m f gr gx {kd with lo:=r1,hi:=r2}:=by
 refine h.turn (kd_box h.row h.ok.len) (only_cells _ _ _ _) rfl (fun r hr=>?_) h.ok.live h.ok.size
 simp only [Kd.rows,List.mem_cons,List.not_mem_nil,or_false] at hr
 rcases hr with rfl | rfl | rfl
 ·exact h1
 ·exact h2
 ·exact h.rows _ (by simp [Kd.rows])
end
theorem kdN_len (x:Int) (r:Rw):(⟨zeros 32,⟨none,0,0,[]⟩,⟨none,0,0,[]⟩,0,x,r⟩:Kd).cells.length=37:=Kd.cells_length (by simp [zeros])
section
variable {w0 w w':World} {gn kind:Nat} {p:Option Addr} {n c:Nat} {q:Option Addr} {m f gr gx:Nat}
theorem ta_start {r:Rw} {x:Int} {O:Array Value} (hn:NodeAt w gn kind p n c q m f) (hr:w.heap[gr]? =some (.cells kd0.cells.toArray 34 (0,0))) (hx:w.heap[gx]? =some (.cells O 34 (0,0))) (hro:r.Ok w∧Away gx r∧Away gr r) (hl:Below w0.heap.size w0 w) (ge:w0.heap.size≤gn∧w0.heap.size≤gr∧w0.heap.size≤gx) (ne:gn≠gx∧gr≠gx∧gn≠gr) (h64:In64 x):
  TaSt w0 (w.setRow gx (⟨zeros 32,⟨none,0,0,[]⟩,⟨none,0,0,[]⟩,0,x,r⟩:Kd).cells.toArray) gn kind p n c q m f gr gx ⟨zeros 32,⟨none,0,0,[]⟩,⟨none,0,0,[]⟩,0,x,r⟩:=by
 have hb:Below gx w (w.setRow gx (⟨zeros 32,⟨none,0,0,[]⟩,⟨none,0,0,[]⟩,0,x,r⟩:Kd).cells.toArray):=Below.setRow (Below.refl _ _) (Nat.le_refl _) _
 refine ⟨⟨(setRow_other _ _ _ _ ne.1).trans hn.row⟩,(setRow_other _ _ _ _ ne.2.1).trans hr,setRow_heap _ _ _ _ _ _ hx,⟨by simp [zeros],zeros_ok 32,rw0_ok _,rw0_ok _,rw_keep hro.1 (fun y hy hR=>setRow_other _ _ _ _ (hro.2.1 y hy hR)),⟨by show -9223372036854775808≤(0:Int);omega,by show (0:Int)≤9223372036854775807;omega⟩,h64⟩,fun r' hr'=>?_,hl.trans (hb.mono ge.2.2),ge,ne⟩
 simp only [Kd.rows,List.mem_cons,List.not_mem_nil,or_false] at hr'
 rcases hr' with rfl | rfl | rfl
 ·exact ⟨away_nil _ rfl,away_nil _ rfl⟩
 ·exact ⟨away_nil _ rfl,away_nil _ rfl⟩
 ·exact hro.2
theorem IBx:(Tryz.prog.info? 32).map (·.size)=some 2:=by kernel_rfl
theorem box_one (r1 r2:Rw):(#[r1.val,r2.val]:Array Value).all (·.oneCell')=true:=by
 simp [Rw.val,Value.oneCell']
end
theorem op_buildN {P:Program} {ρ:Operand→Value} {o:Oper} {t:TypeId} {parts:Array (Nat×Operand)} {cells:Array Value} (ho:o.op= .build t parts) (h:P.built t (parts.map fun (i,x)=>(i,ρ x)).toList=some cells) (w:World):
  (execOp ρ o).run P w= .ok (.value (.agg cells)) w:=by
 unfold execOp
 simp only [ho,Sem.run_bind,run_build w t _ cells h,Result.andThen_ok,Sem.run_pure]
theorem kd_built (x:Int) (p:Option Addr) (n c:Nat) (R:List Int):Tryz.prog.built 34 [(3,.int .i64 x),(4,.slice p n c)]=some (⟨zeros 32,⟨none,0,0,[]⟩,⟨none,0,0,[]⟩,0,x,⟨p,n,c,R⟩⟩:Kd).cells.toArray:=by kernel_rfl
end Go.Proofs.YtinihaflmdihaaaGreat.Nd
