/- NlKey, DkMath, NlReadKid, NdLst. -/
import Derived.Maps.AppendAt
import Derived.Great.BuildSlice
import Derived.Test.YtinihaflmdihaaaGreatW1
import Derived.Test.YtinihaflmdihaaaGreatW2
import Derived.Test.YtinihaflmdihaaaGreatW5
import Derived.Test.YtinihaflmdihaaaGreatW7
import Derived.Test.YtinihaflmdihaaaGreatW8
set_option maxRecDepth 100000
set_option maxHeartbeats 8000000
set_option linter.unusedVariables false
set_option linter.unusedSimpArgs false
namespace Go.Proofs.YtinihaflmdihaaaGreat.Nd
open Go.RowKit
open List renaming setIfInBounds_toArray → sA, set_cons_zero → sZ, set_cons_succ → sS
def PN.keyOf (n:PN):List Int:=if n.kind=2 then (n.rows.headD ⟨[],false⟩).row else if n.kind=3 then (n.kids.headD PK.none).key else []
theorem PN.kinds {n:PN} {d:Int} (h:n.right d=true):(1≤d∧d≤8)∧(∀e∈n.rows,(e.row.length:Int)=d)∧(∀k∈n.kids,k.right d=true)∧
  ((n.kind=1∧n.rows.length=1∧n.kids.length=2)∨(n.kind=2∧1≤n.rows.length∧n.rows.length≤4∧n.kids.length=0)∨(n.kind=3∧n.rows.length=0∧2≤n.kids.length∧n.kids.length≤4∧∀k∈n.kids,(k.key.length:Int)=d)):=by
 rw [PN.right_shape,Bool.and_eq_true,Bool.and_eq_true,Bool.and_eq_true,decide_eq_true_iff] at h
 obtain ⟨⟨⟨hd,hs⟩,hr⟩,hk⟩:=h
 refine ⟨hd,fun e he=>of_decide_eq_true (List.all_eq_true.1 hr e he),fun k hkm=>List.all_eq_true.1 hk k hkm,?_⟩
 unfold PN.shape at hs
 split at hs
 ·rename_i k1
  rw [Bool.and_eq_true,Bool.and_eq_true,decide_eq_true_iff,decide_eq_true_iff] at hs
  exact Or.inl ⟨k1,hs.1.1,hs.1.2⟩
 ·split at hs
  ·rename_i k2
   rw [Bool.and_eq_true,Bool.and_eq_true,Bool.and_eq_true,decide_eq_true_iff,decide_eq_true_iff,decide_eq_true_iff] at hs
   exact Or.inr (Or.inl ⟨k2,hs.1.1.1,hs.1.1.2,hs.1.2⟩)
  ·split at hs
   ·rename_i k3
    rw [Bool.and_eq_true,Bool.and_eq_true,Bool.and_eq_true,decide_eq_true_iff,decide_eq_true_iff,decide_eq_true_iff] at hs
    exact Or.inr (Or.inr ⟨k3,hs.1.1.1,hs.1.1.2,hs.1.2,fun k hkm=>of_decide_eq_true (List.all_eq_true.1 hs.2 k hkm)⟩)
   ·cases hs
def KeyPost (w:World) (R:List Int) (e:Ending) (w':World):Prop:=∃r:Rw,e= .returned r.val∧r.R=R∧FrRw w' w.heap.size r∧Below w.heap.size w w'
theorem fr_own {w:World} {base g n c:Nat} {R:List Int} (h:OwnRow w base g n c R) (hR:∀x∈R,-9223372036854775808≤x∧x≤9223372036854775807) (hg:base≤g) (hn:n≤8):FrRw w base ⟨some ⟨g,0,none⟩,n,c,R⟩:=by
 refine ⟨⟨h.ints hR,by show n≤_;omega⟩,fun x hx _=>?_⟩
 obtain rfl:x=⟨g,0,none⟩:=by simpa using hx.symm
 exact hg
theorem key_any (kind:Nat) (p:Option Addr) (n c:Nat) (q:Option Addr) (m f:Nat) (E:List En) (K:List Kd) (d:Int) (w:World) (hE:EntsIn w p n c E) (hK:KidsIn w q m f K) (hr:(pnOf kind E K).right d=true):
  Calls Tryz.prog 243 #[.agg #[.int .u8 kind,.slice p n c,.slice q m f]] w (KeyPost w (pnOf kind E K).keyOf):=by
 have hb1:Below w.heap.size w (w.alloc (.cells #[.int .u8 kind,.slice p n c,.slice q m f] 81)):=(Below.refl _ _).alloc (Nat.le_refl _) _
 have hn:=NodeAt.start w kind p n c q m f
 obtain ⟨hd,hrow,hkid,hk⟩:=PN.kinds hr
 have HE:=Lib.hid (hE.later hb1)
 have HK:=Lib.hid (hK.later hb1)
 have HB:=Lib.hid hb1
 have HN:=Lib.hid hn
 have HES:=Lib.hid hE.size
 have HKS:=Lib.hid hK.size
 clear hr hb1 hn hE hK
 rcases hk with ⟨k1,-,-⟩ | ⟨k2,h1,h2,-⟩ | ⟨k3,-,h1,h2,hkey⟩
 ·obtain rfl:kind=1:=k1
  have HKO:=Lib.hid (show (pnOf 1 E K).keyOf=[] from rfl)
  clear hrow hkid
  go_enter Tryz.func243,Tryz.ntmps243
  go_upto_region 1 with fail
  generalize w.alloc (.cells #[.int .u8 (1:Nat),.slice p n c,.slice q m f] 81)=w1 at *
  obtain ⟨t0,t1,t2⟩:=HN.out.cells
  go_wp2_with fail
  go_ret
  exact ⟨⟨none,0,0,[]⟩,rfl,HKO.out.symm,fr_none _ _,HB.out⟩
 ·obtain rfl:kind=2:=k2
  have hn1:1≤n:=by rw [HES.out];simpa [pnOf] using h1
  obtain ⟨g,o,rfl,c1,c2,hok⟩:=HE.out.get 0 (by omega)
  obtain ⟨e,E',rfl⟩:∃e E',E=e::E':=by
   cases E with
   | nil=>have:=HES.out;simp at this;omega
   | cons e E'=>exact ⟨e,E',rfl⟩
  have HKO:=Lib.hid (show (pnOf 2 (e::E') K).keyOf=e.row.R from rfl)
  have hlen:=hrow e.pe (by simp [pnOf])
  have hlen:(e.row.R.length:Int)=d:=hlen
  simp only [List.getD_cons_zero,Nat.zero_mul,Nat.add_zero] at c1 hok
  have hrn:=hok.ints.size
  have HC:=Lib.hid (rowclone_any e.row.p e.row.n e.row.c e.row.R _ hok.ints (by omega) (by omega))
  have HIN:=Lib.hid hok.ints.ok
  have HN8:=Lib.hid (show e.row.n≤8 from by omega)
  have i1:(0:Int)<n:=by omega
  unfold Rw.val at c1
  clear hrow hkid c2 hlen hrn hok h1 h2
  go_enter Tryz.func243,Tryz.ntmps243
  go_upto_region 1 with fail
  generalize w.alloc (.cells #[.int .u8 (2:Nat),.slice (some ⟨g,o,none⟩) n c,.slice q m f] 81)=w1 at *
  obtain ⟨t0,t1,t2⟩:=HN.out.cells
  go_wp2_with (go_at_call 271;refine HC.out.mono ?_;rintro _ w2 ⟨g2,k2,rfl,o2,hg2,b2⟩;have HF2:=Lib.hid (fr_own o2 HIN.out hg2 HN8.out);have HB2:=Lib.hid (HB.out.trans (b2.mono HB.out.size));clear o2 hg2 b2)
  go_ret
  exact ⟨⟨some ⟨g2,0,none⟩,e.row.n,k2,e.row.R⟩,rfl,HKO.out.symm,HF2.out.base HB.out.size,HB2.out⟩
 ·obtain rfl:kind=3:=k3
  have hn1:2≤m:=by rw [HKS.out];simpa [pnOf] using h1
  obtain ⟨g,o,rfl,hrg,hok⟩:=HK.out.get 0 (by omega)
  obtain ⟨e,K',rfl⟩:∃e K',K=e::K':=by
   cases K with
   | nil=>have:=HKS.out;simp at this;omega
   | cons e K'=>exact ⟨e,K',rfl⟩
  have HKO:=Lib.hid (show (pnOf 3 E (e::K')).keyOf=e.key.R from rfl)
  have hlen:=hkey e.pk (by simp [pnOf])
  have hlen:(e.key.R.length:Int)=d:=hlen
  simp only [List.getD_cons_zero,Nat.zero_mul,Nat.add_zero] at hrg hok
  have c1:=(kat_of hrg hok.len).key
  have hrn:=hok.key.ints.size
  have HC:=Lib.hid (rowclone_any e.key.p e.key.n e.key.c e.key.R _ hok.key.ints (by omega) (by omega))
  have HIN:=Lib.hid hok.key.ints.ok
  have HN8:=Lib.hid (show e.key.n≤8 from by omega)
  have i1:(0:Int)<m:=by omega
  unfold Rw.val at c1
  clear hrow hkid hrg hlen hrn hok h1 h2 hkey
  go_enter Tryz.func243,Tryz.ntmps243
  go_upto_region 1 with fail
  generalize w.alloc (.cells #[.int .u8 (3:Nat),.slice p n c,.slice (some ⟨g,o,none⟩) m f] 81)=w1 at *
  obtain ⟨t0,t1,t2⟩:=HN.out.cells
  go_wp2_with (go_at_call 271;refine HC.out.mono ?_;rintro _ w2 ⟨g2,k2,rfl,o2,hg2,b2⟩;have HF2:=Lib.hid (fr_own o2 HIN.out hg2 HN8.out);have HB2:=Lib.hid (HB.out.trans (b2.mono HB.out.size));clear o2 hg2 b2)
  go_ret
  exact ⟨⟨some ⟨g2,0,none⟩,e.key.n,k2,e.key.R⟩,rfl,HKO.out.symm,HF2.out.base HB.out.size,HB2.out⟩
end Go.Proofs.YtinihaflmdihaaaGreat.Nd
namespace Go.Proofs.YtinihaflmdihaaaGreat.Dk
open Go.RowKit
open List renaming setIfInBounds_toArray → sA, set_cons_zero → sZ, set_cons_succ → sS
def over (L:List Nat) (o:Nat) (P:List Nat):List Nat:=L.take o++P++L.drop (o+P.length)
theorem over_length {L P:List Nat} {o:Nat} (h:o+P.length≤L.length):(over L o P).length=L.length:=by
 simp [over];omega
theorem over_ok {L P:List Nat} {o:Nat} (h:Sm.allB L) (k:Sm.allB P):Sm.allB (over L o P):=fun x hx=>by
 simp only [over,List.mem_append] at hx
 rcases hx with (hx | hx) | hx
 ·exact h x (List.mem_of_mem_take hx)
 ·exact k x hx
 ·exact h x (List.mem_of_mem_drop hx)
structure D where
 L:List Nat
 n:Nat
 dead:Bool
 left:Int
 torn:Nat
 writes:Nat
structure D.ok (s:D):Prop where
 len:s.L.length=64*s.n
 bytes:Sm.allB s.L
 small:s.n≤4096
 torn:s.torn≤64
 left: -1≤s.left∧s.left<9223372036854775808
def D.new (n:Nat):D:=⟨zeros (64*n),n,false,-1,0,0⟩
theorem D.new_ok {n:Nat} (h:n≤4096):(D.new n).ok:=⟨by simp [D.new,zeros],zeros_ok _,h,by simp [D.new],by simp [D.new]⟩
def D.fuse (s:D) (k torn:Int):D:={s with left:=if k<0 then -1 else k,torn:=if torn<0 then 0 else if torn>64 then 64 else torn.toNat}
def D.many (s:D):Nat:=if s.left=0 then s.torn else 64
def D.put (s:D) (i:Nat) (B:List Nat):D:=
 {s with L:=over s.L (64*i) (B.take s.many),dead:=decide (s.left=0),left:=if s.left=0 then -1 else if s.left>0 then s.left - 1 else s.left,writes:=s.writes+1}
def D.no (s:D) (i:Int) (m:Nat):Nat:=if s.dead=true then 30 else if i<0∨(s.n:Int)≤i then 9 else if m≠64 then 1 else 0
def D.write (s:D) (i:Int) (B:List Nat):D:=if s.no i B.length=0 then s.put i.toNat B else s
def D.says (s:D) (i:Int) (m:Nat):Nat:=if s.no i m=0 then (if s.left=0 then 30 else 0) else s.no i m
theorem D.put_ok {s:D} (h:s.ok) {i:Nat} {B:List Nat} (hi:i<s.n) (hB:Sm.allB B) (hl:B.length=64):(s.put i B).ok:=by
 have ht:s.many≤64:=by
  have:=h.torn
  unfold D.many
  split<;>omega
 have hL:=h.len
 refine ⟨?_,over_ok h.bytes (fun x hx=>hB x (List.mem_of_mem_take hx)),h.small,h.torn,?_⟩
 ·show (over s.L (64*i) (B.take s.many)).length=64*s.n
  rw [over_length (by rw [List.length_take];omega),hL]
 ·have:=h.left
  simp only [D.put]
  split
  ·omega
  ·split<;>omega
structure Only (P:Nat→Prop) (w w':World):Prop where
 os:w'.os=w.os
 tape:w'.tape=w.tape
 output:w'.output=w.output
 size:w.heap.size≤w'.heap.size
 block:∀k,k<w.heap.size→¬P k→w'.heap[k]? =w.heap[k]?
theorem Only.refl (P:Nat→Prop) (w:World):Only P w w:=⟨rfl,rfl,rfl,Nat.le_refl _,fun _ _ _=>rfl⟩
theorem Only.trans {P:Nat→Prop} {a b c:World} (h:Only P a b) (k:Only P b c):Only P a c:=
 ⟨k.os.trans h.os,k.tape.trans h.tape,k.output.trans h.output,Nat.le_trans h.size k.size,fun i hi hp=>(k.block i (Nat.lt_of_lt_of_le hi h.size) hp).trans (h.block i hi hp)⟩
theorem Only.mono {P Q:Nat→Prop} {w w':World} (h:Only P w w') (hq:∀k,P k→Q k):Only Q w w':=
 ⟨h.os,h.tape,h.output,h.size,fun k hk hn=>h.block k hk (fun hp=>hn (hq k hp))⟩
theorem Only.of_below (P:Nat→Prop) {w w':World} (h:Below w.heap.size w w'):Only P w w':=⟨h.os,h.tape,h.output,h.size,fun k hk _=>h.block k hk⟩
theorem Only.setCell {P:Nat→Prop} (w:World) {a:Addr} (ha:P a.block) (v:Value):Only P w (w.setCell a v):=
 ⟨rfl,rfl,rfl,by simp [World.setCell],fun k _ hn=>heap_setCell_other _ _ _ _ (fun e=>hn (by rw [e];exact ha))⟩
theorem Only.below {P:Nat→Prop} {w w':World} {base:Nat} (h:Only P w w') (hs:base≤w.heap.size) (hp:∀k,P k→base≤k):Below base w w':=
 ⟨h.os,h.tape,h.output,h.size,fun k hk=>h.block k (by omega) (fun e=>by have:=hp k e;omega)⟩
theorem tx_keep {w w':World} {p:Option Addr} {n c:Nat} {B:List Nat} (h:Tx w p n c B) (hk:∀x,p=some x→B≠[]→w'.heap[x.block]? =w.heap[x.block]?):Tx w' p n c B:=
 ⟨h.size,h.le,h.ok,h.at'.imp id fun ⟨x,hp,hx⟩=>⟨x,hp,fun j u hu=>by
  have h1:=hx j u hu
  have hB:B≠[]:=by rintro rfl;simp [vals] at hu
  have hb:(x.add j).block=x.block:=by cases x;simp [Addr.add];split<;>rfl
  rw [World.cell?_of_block (w:=w) (by rw [hb];exact hk x hp hB)]
  exact h1⟩,h.sp⟩
end Go.Proofs.YtinihaflmdihaaaGreat.Dk
namespace Go.Proofs.YtinihaflmdihaaaGreat.Nd
open Go.RowKit Go.Proofs.YtinihaflmdihaaaGreat.Dk
open List renaming setIfInBounds_toArray → sA, set_cons_zero → sZ, set_cons_succ → sS
section
variable {k:Kd} (h:k.sum.length=32)
include h
theorem kd_set_lo (r:Rw):k.cells.toArray.setIfInBounds 32 r.val=({k with lo:=r}:Kd).cells.toArray:=by simp [Kd.cells,vals_length,h]
theorem kd_set_hi (r:Rw):k.cells.toArray.setIfInBounds 33 r.val=({k with hi:=r}:Kd).cells.toArray:=by simp [Kd.cells,vals_length,h]
theorem kd_set_live (x:Int):k.cells.toArray.setIfInBounds 34 (.int .i64 x)=({k with live:=x}:Kd).cells.toArray:=by simp [Kd.cells,vals_length,h]
theorem kd_set_size (x:Int):k.cells.toArray.setIfInBounds 35 (.int .i64 x)=({k with size:=x}:Kd).cells.toArray:=by simp [Kd.cells,vals_length,h]
theorem kd_set_key (r:Rw):k.cells.toArray.setIfInBounds 36 r.val=({k with key:=r}:Kd).cells.toArray:=by simp [Kd.cells,vals_length,h]
end
structure KdSt (w0 w:World) (gx g:Nat) (k:Kd) (s:Rd):Prop where
 res:w.heap[gx]? =some (.cells kd0.cells.toArray 34 (0,0))
 row:w.heap[gx+1]? =some (.cells k.cells.toArray 34 (0,0))
 rd:RSx w g s
 gr:w0.grownBy w (some g)
 len:k.sum.length=32
 at':w0.heap.size=gx∧g<gx
 lo:FrRw w (gx+2) k.lo
 hi:FrRw w (gx+2) k.hi
 key:FrRw w (gx+2) k.key
section
variable {w0 w w':World} {gx g:Nat} {k k':Kd} {s s':Rd}
theorem KdSt.call (h:KdSt w0 w gx g k s) (hr:RSx w' g s') (hg:w.grownBy w' (some g)):KdSt w0 w' gx g k s':=by
 have h1:=h.at'
 have hk:∀j,gx+2≤j→j<w.heap.size→w'.heap[j]? =w.heap[j]? :=fun j hj hl=>hg.block j hl (by simp;omega)
 exact ⟨(hg.block gx (Array.getElem?_eq_some_iff.1 h.res).1 (by simp;omega)).trans h.res,(hg.block (gx+1) (Array.getElem?_eq_some_iff.1 h.row).1 (by simp;omega)).trans h.row,hr,grown_twice h.gr hg,h.len,h1,h.lo.keep hk,h.hi.keep hk,h.key.keep hk⟩
theorem KdSt.put (h:KdSt w0 w gx g k s) (hr:w'.heap[gx+1]? =some (.cells k'.cells.toArray 34 (0,0))) (ho:Only (fun j=>j=gx+1) w w') (hl:k'.sum.length=32) (h1:FrRw w (gx+2) k'.lo) (h2:FrRw w (gx+2) k'.hi) (h3:FrRw w (gx+2) k'.key):KdSt w0 w' gx g k' s:=by
 have ha:=h.at'
 have hk:∀j,gx+2≤j→j<w.heap.size→w'.heap[j]? =w.heap[j]? :=fun j hj hl=>ho.block j hl (by omega)
 have hb:Below (gx+1) w w':=ho.below (by have:=(Array.getElem?_eq_some_iff.1 h.row).1;omega) (fun j hj=>by omega)
 exact ⟨(hb.block gx (by omega)).trans h.res,hr,h.rd.low (hb.mono (by omega)),grown_new h.gr (B:=gx+1) (by omega) hb hb.size,hl,ha,h1.keep hk,h2.keep hk,h3.keep hk⟩
theorem KdSt.cell (h:KdSt w0 w gx g k s):KAt w (gx+1) 0 k:=kat_row h.row h.len
end
theorem only_cells (w:World) (g o:Nat) (vs:List Value):Only (fun j=>j=g) w (w.setCells g o vs):=by
 obtain ⟨h1,h2,h3,h4⟩:=size_setCells g vs o w
 exact ⟨h2,h3,h4,by omega,fun j _ hj=>heap_setCells_other g vs o w j hj⟩
theorem kd_there {w:World} {g:Nat} {k:Kd} (h:w.heap[g]? =some (.cells k.cells.toArray 34 (0,0))) (hl:k.sum.length=32):w.there g 0 32:=fun j hj=>by
 refine ⟨?_,frozen_of_row w g _ _ _ h⟩
 rw [cell_of_row w g _ _ _ _ h]
 rw [Array.getElem?_eq_getElem (by rw [List.size_toArray,Kd.cells_length hl];omega)]
 rfl
theorem kd_sum {w:World} {g:Nat} {k:Kd} {D:List Nat} (h:w.heap[g]? =some (.cells k.cells.toArray 34 (0,0))) (hl:k.sum.length=32) (hD:D.length=32):(w.setCells g 0 (vals D)).heap[g]? =some (.cells ({k with sum:=D}:Kd).cells.toArray 34 (0,0)):=by
 have:=heap_setCells_same g 34 (vals D) [] (vals k.sum) [k.lo.val,k.hi.val,.int .i64 k.live,.int .i64 k.size,k.key.val] w (by simpa [Kd.cells] using h) (by rw [vals_length,vals_length,hl,hD])
 simpa [Kd.cells] using this
def RKid (w:World) (g:Nat) (k:PK) (s:Rd) (e:Ending) (w':World):Prop:=
 ∃kd:Kd,e= .returned (.agg kd.cells.toArray)∧kd.pk=k∧kd.Ok w'∧FrRw w' w.heap.size kd.lo∧FrRw w' w.heap.size kd.hi∧FrRw w' w.heap.size kd.key∧RSx w' g s∧w.grownBy w' (some g)
theorem readKid_any (s:Rd) (g:Nat) (w:World) (hs:RSx w g s) (hl:s.R.length<1099511627776):
  Calls Tryz.prog 147 #[.pointer (some ⟨g,0,none⟩)] w (RKid w g (s.kidV 8) (s.kidN 8)):=by
 have hok:Sm.allB s.R:=by obtain ⟨p,n,c,h⟩:=hs;exact h.tx.ok
 obtain ⟨V,hV⟩:∃V,s.kidV 8=V:=⟨_,rfl⟩
 obtain ⟨sN,hN⟩:∃t,s.kidN 8=t:=⟨_,rfl⟩
 rw [hV,hN]
 have hV:(⟨s.digV,s.k3.rowV 8,(s.k4 8).rowV 8,s.k1.countV 1048576,s.k2.countV 1048576,(s.k5 8).rowV 8⟩:PK)=V:=hV
 have hN:((s.k5 8).row 8).2=sN:=hN
 have h1:=k1_R hok
 have h2:=k2_R hok
 have h3:=k3_R hok
 have h4:=k4_R (m:=8) hok
 have h5:=k5_R (m:=8) hok
 have HC1:=Lib.hid (countV_in (m:=1048576) h1.1 (by omega))
 have HC2:=Lib.hid (countV_in (m:=1048576) h2.1 (by omega))
 have HI3:=Lib.hid (rowV_in (m:=8) h3.1)
 have HI4:=Lib.hid (rowV_in (m:=8) h4.1)
 have HI5:=Lib.hid (rowV_in (m:=8) h5.1)
 have HL3:=Lib.hid (rowV_len (m:=8) h3.1)
 have HL4:=Lib.hid (rowV_len (m:=8) h4.1)
 have HL5:=Lib.hid (rowV_len (m:=8) h5.1)
 have HD1:=Lib.hid (digV_length s)
 have HD2:=Lib.hid (digV_ok hok)
 have HA0:=Lib.hid (fun w1 (h:RSx w1 g s)=>ldigest_any s g w1 h hl)
 have HA1:=Lib.hid (fun w1 (h:RSx w1 g s.k1)=>rcount_any s.k1 1048576 g w1 h (Nat.lt_of_le_of_lt h1.2 hl))
 have HA2:=Lib.hid (fun w1 (h:RSx w1 g s.k2)=>rcount_any s.k2 1048576 g w1 h (Nat.lt_of_le_of_lt h2.2 hl))
 have HA3:=Lib.hid (fun w1 (h:RSx w1 g s.k3)=>lrow_any s.k3 g w1 h (Nat.lt_of_le_of_lt h3.2 hl))
 have HA4:=Lib.hid (fun w1 (h:RSx w1 g (s.k4 8))=>lrow_any (s.k4 8) g w1 h (Nat.lt_of_le_of_lt h4.2 hl))
 have HA5:=Lib.hid (fun w1 (h:RSx w1 g (s.k5 8))=>lrow_any (s.k5 8) g w1 h (Nat.lt_of_le_of_lt h5.2 hl))
 rw [show s.past 32=s.k1 from rfl] at HA0
 rw [show s.k1.count 1048576=s.k2 from rfl] at HA1
 rw [show s.k2.count 1048576=s.k3 from rfl] at HA2
 rw [show (s.k3.row 8).2=s.k4 8 from rfl] at HA3
 rw [show ((s.k4 8).row 8).2=s.k5 8 from rfl] at HA4
 rw [hN] at HA5
 clear h1 h2 h3 h4 h5 hN hok
 generalize s.digV=D at *
 generalize s.k1.countV 1048576=cl at *
 generalize s.k2.countV 1048576=cz at *
 generalize s.k3.rowV 8=A3 at *
 generalize (s.k4 8).rowV 8=A4 at *
 generalize (s.k5 8).rowV 8=A5 at *
 generalize s.k1=s1 at *
 generalize s.k2=s2 at *
 generalize s.k3=s3 at *
 generalize s.k4 8=s4 at *
 generalize s.k5 8=s5 at *
 have HV:=Lib.hid hV
 clear hV
 have hz:=(zero_of_info kz).1
 have hg:g<w.heap.size:=hs.lt
 have hb1:Below w.heap.size w (w.alloc (.cells kd0.cells.toArray 34)):=(Below.refl _ _).alloc (Nat.le_refl _) _
 have r1:=heap_alloc_new w (.cells kd0.cells.toArray 34)
 have z1:(w.alloc (.cells kd0.cells.toArray 34)).heap.size=w.heap.size+1:=by simp
 go_enter Tryz.func147,Tryz.ntmps147
 go_upto_region 1 with fail
 generalize w.alloc (.cells kd0.cells.toArray 34)=w1 at *
 have hb2:Below w1.heap.size w1 (w1.alloc (.cells kd0.cells.toArray 34)):=(Below.refl _ _).alloc (Nat.le_refl _) _
 have r2:=heap_alloc_new w1 (.cells kd0.cells.toArray 34)
 rw [z1] at r2
 go_upto_region 2 with fail
 generalize w1.alloc (.cells kd0.cells.toArray 34)=w2 at *
 have hb12:Below w.heap.size w w2:=hb1.trans (hb2.mono (by omega))
 obtain ⟨gx,hgx⟩:∃gx,gx=w.heap.size:=⟨_,rfl⟩
 have H2:=Lib.hid (show KdSt w w2 gx g kd0 s from by
  rw [hgx]
  exact ⟨(hb2.block w.heap.size (by omega)).trans r1,r2,hs.later hb12,grown_of_below hb12 _,by simp [kd0,zeros],⟨rfl,hg⟩,fr_none _ _,fr_none _ _,fr_none _ _⟩)
 have HGX:=Lib.hid hgx
 rw [← hgx]
 clear hb1 r1 z1 hb2 r2 hb12 hs hl hg hgx hz
 clear w1
 have A0:=Lib.hid (HA0.out w2 H2.out.rd)
 go_upto_region 3 with (first
  | (go_at_call 196;refine A0.out.mono ?_;rintro e w3 ⟨rfl,h3,k3⟩;have H3:=Lib.hid (H2.out.call h3 k3);clear h3 k3)
  | (refine wpList_store_mid (by rfl) 30 _ _ (by rfl) (gx+1) 0 (u8s D) (by rfl) (by rfl) (by rw [u8s_size,HD1.out];exact kd_there H3.out.row H3.out.len) (by rw [u8s_size,HD1.out];exact S25) (u8s_one _) ?_))
 have r4:=kd_sum (D:=D) H3.out.row H3.out.len HD1.out
 have H4:=Lib.hid (H3.out.put (k':={kd0 with sum:=D}) r4 (only_cells _ _ _ _) HD1.out (fr_none _ _) (fr_none _ _) (fr_none _ _))
 clear r4 H3 A0 H2
 rw [show (u8s D).toList=vals D from rfl]
 generalize w3.setCells (gx+1) 0 (vals D)=w4 at *
 have A0:=Lib.hid (HA1.out w4 H4.out.rd)
 go_upto_region 4 with (go_at_call 197;refine A0.out.mono ?_;rintro e w5 ⟨rfl,h3,k3⟩;have H5:=Lib.hid (H4.out.call h3 k3);have c9:=H5.out.cell.live;rw [Nat.zero_add] at c9;have f9:=frozen_of_row w5 (gx+1) 34 _ _ H5.out.row;clear h3 k3)
 have r4:=heap_setCell_same w5 (gx+1) 34 _ _ (.int .i64 cl) H5.out.row
 rw [kd_set_live H5.out.len] at r4
 have H6:=Lib.hid (H5.out.put r4 (Only.setCell (P:=fun j=>j=gx+1) _ (a:=⟨gx+1,34,none⟩) rfl _) H5.out.len H5.out.lo H5.out.hi H5.out.key)
 clear r4 c9 f9 A0 H5 H4
 generalize w5.setCell ⟨gx+1,34,none⟩ (.int .i64 cl)=w6 at *
 have A0:=Lib.hid (HA2.out w6 H6.out.rd)
 go_upto_region 5 with (go_at_call 197;refine A0.out.mono ?_;rintro e w7 ⟨rfl,h3,k3⟩;have H7:=Lib.hid (H6.out.call h3 k3);have c9:=H7.out.cell.size;rw [Nat.zero_add] at c9;have f9:=frozen_of_row w7 (gx+1) 35 _ _ H7.out.row;clear h3 k3)
 have r4:=heap_setCell_same w7 (gx+1) 35 _ _ (.int .i64 cz) H7.out.row
 rw [kd_set_size H7.out.len] at r4
 have H8:=Lib.hid (H7.out.put r4 (Only.setCell (P:=fun j=>j=gx+1) _ (a:=⟨gx+1,35,none⟩) rfl _) H7.out.len H7.out.lo H7.out.hi H7.out.key)
 clear r4 c9 f9 A0 H7 H6
 generalize w7.setCell ⟨gx+1,35,none⟩ (.int .i64 cz)=w8 at *
 have A0:=Lib.hid (HA3.out w8 H8.out.rd)
 go_upto_region 6 with (go_at_call 195;refine A0.out.mono ?_;rintro e w9 ⟨v9,rfl,o9,h3,k3⟩;obtain ⟨q3,rfl,hr9,-,hf9⟩:=fr_of_own o9 HI3.out (by have:=HL3.out;omega);have FR3:=Lib.hid hf9;have RR3:=Lib.hid hr9;have Z3:=Lib.hid (show gx+2≤w8.heap.size from (Array.getElem?_eq_some_iff.1 H8.out.row).1);have H9:=Lib.hid (H8.out.call h3 k3);have c9:=H9.out.cell.lo;rw [Nat.zero_add] at c9;have f9:=frozen_of_row w9 (gx+1) 32 _ _ H9.out.row;clear h3 k3 o9 hf9 hr9;unfold Rw.val at c9;unfold Rw.val)
 have r4:=heap_setCell_same w9 (gx+1) 32 _ _ q3.val H9.out.row
 rw [kd_set_lo H9.out.len] at r4
 have H10:=Lib.hid (H9.out.put r4 (Only.setCell (P:=fun j=>j=gx+1) _ (a:=⟨gx+1,32,none⟩) rfl _) H9.out.len (FR3.out.base Z3.out) H9.out.hi H9.out.key)
 clear r4 c9 f9 A0 H9 H8 FR3 Z3
 unfold Rw.val at H10
 generalize w9.setCell ⟨gx+1,32,none⟩ (.slice q3.p q3.n q3.c)=w10 at *
 have A0:=Lib.hid (HA4.out w10 H10.out.rd)
 go_upto_region 7 with (go_at_call 195;refine A0.out.mono ?_;rintro e w11 ⟨v9,rfl,o9,h3,k3⟩;obtain ⟨q4,rfl,hr9,-,hf9⟩:=fr_of_own o9 HI4.out (by have:=HL4.out;omega);have FR4:=Lib.hid hf9;have RR4:=Lib.hid hr9;have Z4:=Lib.hid (show gx+2≤w10.heap.size from (Array.getElem?_eq_some_iff.1 H10.out.row).1);have H11:=Lib.hid (H10.out.call h3 k3);have c9:=H11.out.cell.hi;rw [Nat.zero_add] at c9;have f9:=frozen_of_row w11 (gx+1) 33 _ _ H11.out.row;clear h3 k3 o9 hf9 hr9;unfold Rw.val at c9;unfold Rw.val)
 have r4:=heap_setCell_same w11 (gx+1) 33 _ _ q4.val H11.out.row
 rw [kd_set_hi H11.out.len] at r4
 have H12:=Lib.hid (H11.out.put r4 (Only.setCell (P:=fun j=>j=gx+1) _ (a:=⟨gx+1,33,none⟩) rfl _) H11.out.len H11.out.lo (FR4.out.base Z4.out) H11.out.key)
 clear r4 c9 f9 A0 H11 H10 FR4 Z4
 unfold Rw.val at H12
 generalize w11.setCell ⟨gx+1,33,none⟩ (.slice q4.p q4.n q4.c)=w12 at *
 have A0:=Lib.hid (HA5.out w12 H12.out.rd)
 go_upto_region 8 with (go_at_call 195;refine A0.out.mono ?_;rintro e w13 ⟨v9,rfl,o9,h3,k3⟩;obtain ⟨q5,rfl,hr9,-,hf9⟩:=fr_of_own o9 HI5.out (by have:=HL5.out;omega);have FR5:=Lib.hid hf9;have RR5:=Lib.hid hr9;have Z5:=Lib.hid (show gx+2≤w12.heap.size from (Array.getElem?_eq_some_iff.1 H12.out.row).1);have H13:=Lib.hid (H12.out.call h3 k3);have c9:=H13.out.cell.key;rw [Nat.zero_add] at c9;have f9:=frozen_of_row w13 (gx+1) 36 _ _ H13.out.row;clear h3 k3 o9 hf9 hr9;unfold Rw.val at c9;unfold Rw.val)
 have r4:=heap_setCell_same w13 (gx+1) 36 _ _ q5.val H13.out.row
 rw [kd_set_key H13.out.len] at r4
 have H14:=Lib.hid (H13.out.put r4 (Only.setCell (P:=fun j=>j=gx+1) _ (a:=⟨gx+1,36,none⟩) rfl _) H13.out.len H13.out.lo H13.out.hi (FR5.out.base Z5.out))
 clear r4 c9 f9 A0 H13 H12 FR5 Z5
 unfold Rw.val at H14
 generalize w13.setCell ⟨gx+1,36,none⟩ (.slice q5.p q5.n q5.c)=w14 at *
 have HF:=Lib.hid (show KdSt w w14 gx g (⟨D,q3,q4,cl,cz,q5⟩:Kd) sN from H14.out)
 clear H14
 obtain ⟨kd,hkd⟩:∃kd:Kd,(⟨D,q3,q4,cl,cz,q5⟩:Kd)=kd:=⟨_,rfl⟩
 have HPK:=Lib.hid (show kd.pk=V from by rw [← hkd,← HV.out,← RR3.out,← RR4.out,← RR5.out];rfl)
 have HIN:=Lib.hid (show In64 kd.live∧In64 kd.size∧Sm.allB kd.sum from by rw [← hkd];exact ⟨⟨by have:=HC1.out;show -9223372036854775808≤cl;omega,by have:=HC1.out;show cl≤9223372036854775807;omega⟩,⟨by have:=HC2.out;show -9223372036854775808≤cz;omega,by have:=HC2.out;show cz≤9223372036854775807;omega⟩,HD2.out⟩)
 rw [hkd] at HF
 clear hkd
 obtain ⟨du,hdu,hdr⟩:=UKd
 have HD:=Lib.hid hdu
 have HDR:=Lib.hid hdr
 have HCL:=Lib.hid (Kd.cells_length HF.out.len)
 have HRR:=Lib.hid (range_kd HF.out.row)
 clear hdu hdr
 go_wp2_with (first
  | (refine wpList_load_mid (by rfl) 34 _ (by rfl) _ 0 (by rfl) kd.cells du HRR.out HD.out HDR.out (by rw [HCL.out];exact SKd) ?_)
  | (refine wpList_store_row (by rfl) 34 _ _ (by rfl) gx kd.cells.toArray (by rfl) (by rfl) _ _ HF.out.res (by rw [List.size_toArray,HCL.out];exact SKd) (by simp only [List.size_toArray,HCL.out,kd0_size]) (all_oneCell_toArray Kd.one) ?_))
 have r9:=setRow_heap _ gx _ kd.cells.toArray _ _ HF.out.res
 have hb9:Below gx w14 (w14.setRow gx kd.cells.toArray):=Below.setRow (Below.refl _ _) (Nat.le_refl _) _
 have hfr:∀r:Rw,FrRw w14 (gx+2) r→FrRw (w14.setRow gx kd.cells.toArray) w.heap.size r:=fun r h=>(h.keep (fun j hj _=>setRow_other _ _ _ _ (by omega))).base (by have:=HGX.out;omega)
 have f1:=hfr _ HF.out.lo
 have f2:=hfr _ HF.out.hi
 have f3:=hfr _ HF.out.key
 refine ret_str 2 (by kernel_rfl) gx _ _ HD.out HDR.out (by rw [List.size_toArray,HCL.out];exact SKd) (by rfl) r9 ⟨kd,rfl,HPK.out,⟨HF.out.len,HIN.out.2.2,f1.ok,f2.ok,f3.ok,HIN.out.1,HIN.out.2.1⟩,f1,f2,f3,HF.out.rd.low (hb9.mono (by have:=HF.out.at';omega)),grown_new HF.out.gr (show w.heap.size≤gx by have:=HGX.out;omega) hb9 hb9.size⟩
end Go.Proofs.YtinihaflmdihaaaGreat.Nd
namespace Go.Proofs.YtinihaflmdihaaaGreat.Nd
open Go.RowKit
open List renaming setIfInBounds_toArray → sA, set_cons_zero → sZ, set_cons_succ → sS
theorem UEs:Tryz.prog.underlying 78=some (.slice 85):=by kernel_rfl
theorem UKs:Tryz.prog.underlying 79=some (.slice 34):=by kernel_rfl
theorem IEn:(Tryz.prog.info? 85).map (fun i=>(i.zero,i.size,i.bytes))=some (some (.agg #[.slice none 0 0,.bool false]),2,32):=by kernel_rfl
theorem IKd:(Tryz.prog.info? 34).map (fun i=>(i.zero,i.size,i.bytes))=some (some (.agg kd0.cells.toArray),37,120):=by kernel_rfl
def En.cells (e:En):List Value:=[e.row.val,.bool e.live]
def Kd.rows (k:Kd):List Rw:=[k.lo,k.hi,k.key]
def En.rows (e:En):List Rw:=[e.row]
structure Lst {α:Type} (t:TypeId) (sz:Nat) (cells:α→List Value) (rows:α→List Rw) (B:Nat) (w:World) (v:Value) (n:Nat) (L:List α):Prop where
 len:n=L.length
 own:w.ownsRow B t sz v n (L.flatMap cells)
 each:∀e∈L,∀r∈rows e,FrRw w B r∧∀x,r.p=some x→r.R≠[]→v.ownBlock≠some x.block
section
variable {α:Type} {t:TypeId} {sz:Nat} {cells:α→List Value} {rows:α→List Rw} {B:Nat} {w w':World} {v v':Value} {n:Nat} {L:List α}
theorem Lst.nil (w:World):Lst t sz cells rows B w (.slice none 0 0) 0 ([]:List α):=⟨rfl,World.ownsRow_nil _ _ _ _,fun e he=>by cases he⟩
theorem Lst.keep (h:Lst t sz cells rows B w v n L) (hk:∀k,B≤k→k<w.heap.size→w'.heap[k]? =w.heap[k]?):Lst t sz cells rows B w' v n L:=by
 refine ⟨h.len,⟨h.own.1,h.own.2.imp id ?_⟩,fun e he r hr=>⟨(h.each e he r hr).1.keep hk,(h.each e he r hr).2⟩⟩
 rintro ⟨g,cap,cur,hv,hg,hh,r⟩
 exact ⟨g,cap,cur,hv,hg,(hk g hg (Array.getElem?_eq_some_iff.1 hh).1).trans hh,r⟩
theorem Lst.later (h:Lst t sz cells rows B w v n L) (hb:Below w.heap.size w w'):Lst t sz cells rows B w' v n L:=h.keep fun k _ hk=>hb.block k hk
theorem Lst.grown (h:Lst t sz cells rows B w v n L) {g:Nat} (hg:w.grownBy w' (some g)) (hlt:g<B):Lst t sz cells rows B w' v n L:=h.keep fun k hB hk=>hg.block k hk (by simp;omega)
theorem Lst.put (h:Lst t sz cells rows B w v n L) {e:α} (he:∀r∈rows e,FrRw w B r∧∀x,r.p=some x→r.R≠[]→v.ownBlock≠some x.block) (hown:w'.ownsRow B t sz v' (n+1) (L.flatMap cells++cells e)) (hg:w.grownBy w' v.ownBlock) (hat:v'.ownBlock=v.ownBlock∨v'.ownBlock=some w.heap.size):Lst t sz cells rows B w' v' (n+1) (L++[e]):=by
 have key:∀r:Rw,(FrRw w B r∧∀x,r.p=some x→r.R≠[]→v.ownBlock≠some x.block)→FrRw w' B r∧∀x,r.p=some x→r.R≠[]→v'.ownBlock≠some x.block:=fun r hr=>by
  refine ⟨⟨rw_keep hr.1.ok fun x hx hR=>hg.block _ (hr.1.lt x hx hR) (fun e=>hr.2 x hx hR e.symm),hr.1.lo⟩,fun x hx hR e=>?_⟩
  rcases hat with h1 | h1
  ·exact hr.2 x hx hR (h1.symm.trans e)
  ·rw [h1] at e
   have:=hr.1.lt x hx hR
   have e':w.heap.size=x.block:=Option.some.inj e
   omega
 refine ⟨by rw [List.length_append,← h.len];rfl,by rw [List.flatMap_append];simpa using hown,fun e' he' r hr=>?_⟩
 rcases List.mem_append.1 he' with h1 | h1
 ·exact key r (h.each e' h1 r hr)
 ·simp only [List.mem_cons,List.not_mem_nil,or_false] at h1
  subst h1
  exact key r (he r hr)
theorem Lst.form (h:Lst t sz cells rows B w v n L):∃q c,v= .slice q n c∧n≤c:=by
 rcases h.own.2 with ⟨rfl,h0⟩ | ⟨g,cap,cur,rfl,_,_,hc,_⟩
 ·exact ⟨none,0,by rw [h0],by omega⟩
 ·exact ⟨_,cap,rfl,hc⟩
theorem flat_get (hc:∀e∈L,(cells e).length=sz):∀(i j:Nat) (u:Value) [Inhabited α],i<L.length→(cells (L.getD i default))[j]? =some u→(L.flatMap cells)[i*sz+j]? =some u:=by
 intro i j u _ hi hj
 induction L generalizing i with
 | nil=>simp at hi
 | cons a L ih=>
  have ha:=hc a (by simp)
  rw [List.flatMap_cons]
  cases i with
  | zero=>
   rw [Nat.zero_mul,Nat.zero_add]
   have hj:(cells a)[j]? =some u:=by simpa using hj
   rw [List.getElem?_append_left (List.getElem?_eq_some_iff.1 hj).1]
   exact hj
  | succ i=>
   rw [List.getElem?_append_right (by rw [ha,Nat.succ_mul];omega),ha,Nat.succ_mul,show i*sz+sz+j - sz=i*sz+j by omega]
   exact ih (fun e he=>hc e (by simp [he])) i (by simpa using hi) (by simpa using hj)
theorem Lst.range [Inhabited α] {q:Option Addr} {c:Nat} (h:Lst t sz cells rows B w (.slice q n c) n L) (hc:∀e∈L,(cells e).length=sz):L=[]∨∃g,q=some ⟨g,0,none⟩∧∀i,i<L.length→w.rangeAt g (i*sz) (cells (L.getD i default)):=by
 rcases h.own.2 with ⟨_,h0⟩ | ⟨g,cap,cur,hv,hb,hg,hle,hm,hs,ht⟩
 ·exact Or.inl (List.length_eq_zero_iff.1 (by rw [← h.len];exact h0))
 ·simp only [Value.slice.injEq,true_and] at hv
  obtain ⟨rfl,rfl⟩:=hv
  refine Or.inr ⟨g,rfl,fun i hi j u hu=>?_⟩
  have hx:=flat_get hc i j u hi hu
  have hlt:=(List.getElem?_eq_some_iff.1 hx).1
  rw [World.ownsRow.cellAt h.own (i*sz+j) (by rw [← h.own.1];exact hlt),hx]
end
abbrev Ens (B:Nat):=Lst 85 2 En.cells En.rows B
structure Kds (B:Nat) (w:World) (v:Value) (n:Nat) (K:List Kd):Prop where
 lst:Lst 34 37 Kd.cells Kd.rows B w v n K
 good:∀k∈K,k.sum.length=32∧Sm.allB k.sum∧In64 k.live∧In64 k.size
theorem Ens.ents {B:Nat} {w:World} {q:Option Addr} {n c:Nat} {E:List En} (h:Ens B w (.slice q n c) n E) (hn:n≤9223372036854775807):EntsIn w q n c E:=by
 have hf:n≤c:=by
  obtain ⟨q',c',e,hc⟩:=h.form
  cases e
  exact hc
 refine ⟨h.len,hf,hn,fun e he=>(h.each e he e.row (by simp [En.rows])).1.ok,?_⟩
 rcases h.range (fun e _=>rfl) with h0 | ⟨g,hq,hx⟩
 ·exact Or.inl h0
 ·exact Or.inr ⟨g,0,hq,fun i hi=>⟨by have:=hx i hi 0 _ rfl;simpa using this,by have:=hx i hi 1 _ rfl;simpa using this⟩⟩
theorem Kds.kids {B:Nat} {w:World} {q:Option Addr} {n c:Nat} {K:List Kd} (h:Kds B w (.slice q n c) n K) (hn:n≤9223372036854775807):KidsIn w q n c K:=by
 have hf:n≤c:=by
  obtain ⟨q',c',e,hc⟩:=h.lst.form
  cases e
  exact hc
 have hr:=fun k hk r hr=>(h.lst.each k hk r hr).1.ok
 refine ⟨h.lst.len,hf,hn,fun k hk=>⟨(h.good k hk).1,(h.good k hk).2.1,hr k hk k.lo (by simp [Kd.rows]),hr k hk k.hi (by simp [Kd.rows]),hr k hk k.key (by simp [Kd.rows]),(h.good k hk).2.2.1,(h.good k hk).2.2.2⟩,?_⟩
 rcases h.lst.range (fun k hk=>Kd.cells_length (h.good k hk).1) with h0 | ⟨g,hq,hx⟩
 ·exact Or.inl h0
 ·exact Or.inr ⟨g,0,hq,fun i hi=>by have:=hx i hi;simpa using this⟩
theorem ent_fill (q:Option Addr) (m c:Nat) (b:Bool):Instr.fill (fun i=>some (i*2,2)) ((Array.range (1*2)).map ((Value.agg #[.slice none 0 0,.bool false]).cells[·%(Value.agg #[.slice none 0 0,.bool false]).cells.size]!)) [(0,.agg #[.slice q m c,.bool b])]=some #[.slice q m c,.bool b]:=by kernel_rfl
theorem kid_fill (q1 q2 q3:Option Addr) (m1 c1 m2 c2 m3 c3:Nat) (x y:Int):∀(D:List Nat),D.length=32→Instr.fill (fun i=>some (i*37,37)) ((Array.range (1*37)).map ((Value.agg kd0.cells.toArray).cells[·%(Value.agg kd0.cells.toArray).cells.size]!)) [(0,.agg (vals D++[Value.slice q1 m1 c1,.slice q2 m2 c2,.int .i64 x,.int .i64 y,.slice q3 m3 c3]).toArray)]=some ((vals D++[Value.slice q1 m1 c1,.slice q2 m2 c2,.int .i64 x,.int .i64 y,.slice q3 m3 c3]).toArray)
 |[a0,a1,a2,a3,a4,a5,a6,a7,a8,a9,a10,a11,a12,a13,a14,a15,a16,a17,a18,a19,a20,a21,a22,a23,a24,a25,a26,a27,a28,a29,a30,a31],_=>by kernel_rfl
theorem wp_ent_one {w:World} {o:Oper} {a:Act} {K:Act→World→Prop} {Q:Exit→Act→World→Prop} (x:Operand) (ho:o.op= .buildSlice 78 1 #[(0,x)]) {q:Option Addr} {m c:Nat} {b:Bool} (hx:a.eval x= .agg #[.slice q m c,.bool b])
  (h:K (a.put o.dst (.slice (some ⟨w.heap.size,0,none⟩) 1 1)) (w.alloc (.cells #[.slice q m c,.bool b] 85))):o.wp Tryz.prog a w K Q:=by
 obtain ⟨i,hi,hi0,hi1,hi2⟩:=info_parts IEn
 refine wp_buildSlice 78 85 1 #[(0,x)] ho _ i _ UEs hi hi0 (by rw [hi1];omega) (by rw [hi1];omega) ?_ h
 rw [hi1]
 simp only [List.map_toArray,List.map_cons,List.map_nil,hx]
 exact ent_fill q m c b
theorem wp_kid_one {w:World} {o:Oper} {a:Act} {K:Act→World→Prop} {Q:Exit→Act→World→Prop} (x:Operand) (ho:o.op= .buildSlice 79 1 #[(0,x)]) {k:Kd} (hk:k.sum.length=32) (hx:a.eval x= .agg k.cells.toArray)
  (h:K (a.put o.dst (.slice (some ⟨w.heap.size,0,none⟩) 1 1)) (w.alloc (.cells k.cells.toArray 34))):o.wp Tryz.prog a w K Q:=by
 obtain ⟨i,hi,hi0,hi1,hi2⟩:=info_parts IKd
 refine wp_buildSlice 79 34 1 #[(0,x)] ho k.cells.toArray i _ UKs hi hi0 (by rw [hi1];omega) (by rw [hi1];omega) ?_ h
 rw [hi1]
 simp only [List.map_toArray,List.map_cons,List.map_nil,hx]
 exact kid_fill _ _ _ _ _ _ _ _ _ _ _ k.sum hk
theorem En.one {e:En}:∀u∈e.cells,u.oneCell'=true:=by
 intro u hu
 simp only [En.cells,List.mem_cons,List.not_mem_nil,or_false] at hu
 rcases hu with rfl | rfl<;>rfl
theorem ent_news (w:World) (e:En):∀j u,e.cells[j]? =some u→(w.alloc (.cells #[.slice e.row.p e.row.n e.row.c,.bool e.live] 85)).cell? ((⟨w.heap.size,0,none⟩:Addr).add j)=some u:=fun j u hu=>by
 rw [Addr.add_mid,Nat.zero_add,cell_of_row _ w.heap.size j _ _ _ (heap_alloc_new w _)]
 simpa [En.cells,Rw.val] using hu
theorem kid_news (w:World) (k:Kd):∀j u,k.cells[j]? =some u→(w.alloc (.cells k.cells.toArray 34)).cell? ((⟨w.heap.size,0,none⟩:Addr).add j)=some u:=fun j u hu=>by
 rw [Addr.add_mid,Nat.zero_add,cell_of_row _ w.heap.size j _ _ _ (heap_alloc_new w _)]
 simpa using hu
end Go.Proofs.YtinihaflmdihaaaGreat.Nd
