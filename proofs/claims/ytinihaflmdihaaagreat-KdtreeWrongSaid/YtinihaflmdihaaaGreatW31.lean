/- KtWayM, KdClone, KdCols, KdStep. -/
import Derived.Lib.SliceRun
import Derived.Maps.AppendAt
import Derived.Great.BuildSlice
import Derived.Test.YtinihaflmdihaaaGreatW1
import Derived.Test.YtinihaflmdihaaaGreatW2
import Derived.Test.YtinihaflmdihaaaGreatW12
import Derived.Test.YtinihaflmdihaaaGreatW29
import Derived.Test.YtinihaflmdihaaaGreatW30
set_option maxRecDepth 100000
set_option maxHeartbeats 8000000
set_option linter.unusedVariables false
set_option linter.unusedSimpArgs false
namespace Go.Proofs.YtinihaflmdihaaaGreat.Kt
open Go.RowKit Go.Proofs.YtinihaflmdihaaaGreat.Nd Go.Proofs.YtinihaflmdihaaaGreat.Dk Go.Proofs.YtinihaflmdihaaaGreat.Pg
open List renaming setIfInBounds_toArray → sA, set_cons_zero → sZ, set_cons_succ → sS
structure MSt where
 kid:Kd
 ge:Nat
 ce:Nat
 gk:Nat
 ck:Nat
 row:Rw
 live:Bool
 k1:Kd
 k2:Kd
 side:Bool
instance:Inhabited MSt:=⟨⟨default,0,0,0,0,default,false,default,default,false⟩⟩
def MSt.sideN (m:MSt):Nat:=if m.side then 1 else 0
def MSt.cells (m:MSt):List Value:=m.kid.cells++[.int .u8 1,.slice (some ⟨m.ge,0,none⟩) 1 m.ce,.slice (some ⟨m.gk,0,none⟩) 2 m.ck,.int .i64 m.sideN]
def MSt.rows (m:MSt):List Rw:=m.kid.rows++m.row::(m.k1.rows++m.k2.rows)
def MSt.reads (m:MSt) (k:Nat):Prop:=k=m.ge∨k=m.gk∨∃r∈m.rows,∃x,r.p=some x∧r.R≠[]∧k=x.block
structure MSt.Ok (w:World) (m:MSt):Prop where
 kid:m.kid.Ok w
 ent:w.rangeAt m.ge 0 [m.row.val,.bool m.live]
 entT:w.there m.ge 0 2
 kid1:w.rangeAt m.gk 0 m.k1.cells
 kid2:w.rangeAt m.gk 37 m.k2.cells
 kidT:w.there m.gk 0 74
 row:m.row.Ok w
 k1:m.k1.Ok w
 k2:m.k2.Ok w
 caps:1≤m.ce∧2≤m.ck
 ne:m.ge≠m.gk
 apart:∀r∈m.rows,∀x,r.p=some x→r.R≠[]→x.block≠m.ge∧x.block≠m.gk
theorem MSt.cells_length {m:MSt} (h:m.kid.sum.length=32):m.cells.length=41:=by
 unfold MSt.cells
 rw [List.length_append,Kd.cells_length h]
 rfl
theorem there_keep {w w':World} {g o n:Nat} (h:w.there g o n) (hk:w'.heap[g]? =w.heap[g]?):w'.there g o n:=fun j hj=>by
 obtain ⟨h1,h2⟩:=h j hj
 refine ⟨by rw [World.cell?_of_block hk];exact h1,?_⟩
 rw [← h2]
 unfold World.frozen?
 rw [hk]
theorem range_keep {w w':World} {g o:Nat} {cs:List Value} (h:w.rangeAt g o cs) (hk:w'.heap[g]? =w.heap[g]?):w'.rangeAt g o cs:=fun j v hv=>(World.cell?_of_block hk).trans (h j v hv)
theorem kd_keep {w w':World} {k:Kd} (h:k.Ok w) (hk:∀r∈k.rows,∀x,r.p=some x→r.R≠[]→w'.heap[x.block]? =w.heap[x.block]?):k.Ok w':=by
 have key:∀r∈k.rows,r.Ok w':=fun r hr=>Nd.rw_keep (kd_rows_ok h r hr) (hk r hr)
 exact ⟨h.len,h.ok,key _ (by simp [Kd.rows]),key _ (by simp [Kd.rows]),key _ (by simp [Kd.rows]),h.live,h.size⟩
theorem MSt.Ok.keep {w w':World} {m:MSt} (h:m.Ok w) (hk:∀k,m.reads k→w'.heap[k]? =w.heap[k]?):m.Ok w':=by
 have hg:=hk m.ge (Or.inl rfl)
 have hkk:=hk m.gk (Or.inr (Or.inl rfl))
 have hr:∀r∈m.rows,∀x,r.p=some x→r.R≠[]→w'.heap[x.block]? =w.heap[x.block]? :=fun r hr x hx hR=>hk _ (Or.inr (Or.inr ⟨r,hr,x,hx,hR,rfl⟩))
 exact ⟨kd_keep h.kid fun r h1=>hr r (by simp [MSt.rows,h1]),range_keep h.ent hg,there_keep h.entT hg,range_keep h.kid1 hkk,range_keep h.kid2 hkk,there_keep h.kidT hkk,Nd.rw_keep h.row (hr _ (by simp [MSt.rows])),kd_keep h.k1 fun r h1=>hr r (by simp [MSt.rows,h1]),kd_keep h.k2 fun r h1=>hr r (by simp [MSt.rows,h1]),h.caps,h.ne,h.apart⟩
theorem MSt.Ok.lt {w:World} {m:MSt} (h:m.Ok w):∀k,m.reads k→k<w.heap.size:=fun k hk=>by
 rcases hk with rfl | rfl | ⟨r,hr,x,hx,hR,rfl⟩
 ·exact block_lt_of_cell (h.ent 0 _ rfl)
 ·exact block_lt_of_cell (h.kid1 0 _ (List.getElem?_eq_getElem (by rw [Kd.cells_length h.k1.len];decide)))
 ·have key:∀r∈m.rows,r.Ok w:=fun r hr=>by
   simp only [MSt.rows,List.mem_append,List.mem_cons] at hr
   rcases hr with h1 | rfl | h1 | h1
   ·exact kd_rows_ok h.kid r h1
   ·exact h.row
   ·exact kd_rows_ok h.k1 r h1
   ·exact kd_rows_ok h.k2 r h1
  exact rw_lt (key r hr) x hx hR
theorem MSt.Ok.later {w w':World} {m:MSt} (h:m.Ok w) (hb:Below w.heap.size w w'):m.Ok w':=h.keep fun k hk=>hb.block k (h.lt k hk)
structure Link (m:MSt) (s:St):Prop where
 row:s.row=m.row.R
 live:s.live=m.live
 l:s.l.kid=m.k1.pk
 r:s.r.kid=m.k2.pk
 side:s.side=m.side
 old:s.old.kid=m.kid.pk
inductive Links:List MSt→List St→Prop
 | nil:Links [] []
 | cons {m:MSt} {s:St} {A:List MSt} {L:List St} (h:Link m s) (t:Links A L):Links (m::A) (s::L)
theorem Links.length {A:List MSt} {L:List St} (h:Links A L):A.length=L.length:=by
 induction h with
 | nil=>rfl
 | cons _ _ ih=>simp [ih]
theorem Links.append {A B:List MSt} {L M:List St} (h:Links A L) (h2:Links B M):Links (A++B) (L++M):=by
 induction h with
 | nil=>exact h2
 | cons h _ ih=>exact .cons h ih
theorem Links.take {A:List MSt} {L:List St} (h:Links A L):∀n,Links (A.take n) (L.take n):=by
 induction h with
 | nil=>intro n;simp;exact .nil
 | cons h _ ih=>
  intro n
  cases n with
  | zero=>exact .nil
  | succ n=>exact .cons h (ih n)
theorem Links.get {A:List MSt} {L:List St} (h:Links A L):∀(i:Nat) (s:St),L[i]? =some s→∃m,A[i]? =some m∧Link m s:=by
 induction h with
 | nil=>intro i s hs;simp at hs
 | cons h _ ih=>
  intro i s hs
  cases i with
  | zero=>
   simp only [List.getElem?_cons_zero,Option.some.injEq] at hs
   subst hs
   exact ⟨_,rfl,h⟩
  | succ i=>exact ih i s (by simpa using hs)
structure WayM (B:Nat) (w:World) (A:List MSt):Prop where
 each:∀m∈A,m.Ok w
 new:∀m∈A,B≤m.ge∧B≤m.gk
 part:A.Pairwise fun a b=>(¬a.reads b.ge∧¬a.reads b.gk)∧(¬(∃k,b.reads k∧(k=a.ge∨k=a.gk)))
theorem WayM.keep {B:Nat} {w w':World} {A:List MSt} (h:WayM B w A) (hk:∀m∈A,∀k,m.reads k→w'.heap[k]? =w.heap[k]?):WayM B w' A:=⟨fun m hm=>(h.each m hm).keep (hk m hm),h.new,h.part⟩
theorem WayM.later {B:Nat} {w w':World} {A:List MSt} (h:WayM B w A) (hb:Below w.heap.size w w'):WayM B w' A:=⟨fun m hm=>(h.each m hm).later hb,h.new,h.part⟩
theorem WayM.snoc {B:Nat} {w:World} {A:List MSt} {m:MSt} {N:Nat} (h:WayM B w A) (hm:m.Ok w) (hB:B≤N) (hlt:∀a∈A,∀k,a.reads k→k<N) (hnew:N≤m.ge∧N≤m.gk) (hr:∀a∈A,∀k,m.reads k→k≠a.ge∧k≠a.gk):WayM B w (A++[m]):=by
 refine ⟨fun x hx=>?_,fun x hx=>?_,?_⟩
 ·rcases List.mem_append.1 hx with hx | hx
  ·exact h.each x hx
  ·rw [List.mem_singleton.1 hx];exact hm
 ·rcases List.mem_append.1 hx with hx | hx
  ·exact h.new x hx
  ·rw [List.mem_singleton.1 hx];exact ⟨Nat.le_trans hB hnew.1,Nat.le_trans hB hnew.2⟩
 ·rw [List.pairwise_append]
  refine ⟨h.part,List.pairwise_singleton _ _,fun a ha b hb=>?_⟩
  rw [List.mem_singleton.1 hb]
  refine ⟨⟨fun e=>by have:=hlt a ha _ e;omega,fun e=>by have:=hlt a ha _ e;omega⟩,fun ⟨k,h1,h2⟩=>?_⟩
  obtain ⟨h3,h4⟩:=hr a ha k h1
  exact h2.elim h3 h4
structure WaySt (B bw:Nat) (w:World) (v:Value) (A:List MSt):Prop where
 box:w.heap[bw]? =some (.cells #[v] 93 (0,0))
 own:w.ownsRow B 101 41 v A.length (A.flatMap MSt.cells)
 ne:v.ownBlock≠some bw
 way:WayM B w A
 aside:∀m∈A,∀k,m.reads k→k≠bw∧v.ownBlock≠some k
 low:B≤bw
theorem WaySt.later {B bw:Nat} {w w':World} {v:Value} {A:List MSt} (h:WaySt B bw w v A) (hb:Below w.heap.size w w'):WaySt B bw w' v A:=by
 refine ⟨(hb.block _ (Array.getElem?_eq_some_iff.1 h.box).1).trans h.box,⟨h.own.1,h.own.2.imp id ?_⟩,h.ne,h.way.later hb,h.aside,h.low⟩
 rintro ⟨g,cap,cur,hv,hg,hh,r⟩
 exact ⟨g,cap,cur,hv,hg,(hb.block _ (Array.getElem?_eq_some_iff.1 hh).1).trans hh,r⟩
theorem mst_fresh {B mid:Nat} {w:World} {ge gk ce ck:Nat} {e:En} {k1 k2:Kd} {k:Kd} (h:Fresh B mid w (some ⟨ge,0,none⟩) 1 ce (some ⟨gk,0,none⟩) 2 ck [e] [k1,k2]) (hk:k.Ok w) (hkr:∀r∈k.rows,∀x,r.p=some x→r.R≠[]→x.block<B) (side:Bool):(MSt.mk k ge ce gk ck e.row e.live k1 k2 side).Ok w∧B≤ge∧B≤gk∧∀j,(MSt.mk k ge ce gk ck e.row e.live k1 k2 side).reads j→B≤j∨∃r∈k.rows,∃x,r.p=some x∧r.R≠[]∧j=x.block:=by
 obtain ⟨-,-,ge',gk',h1,h2,hE,hK1,hK2,hro,ho1,ho2,hbe,hbk⟩:=fresh_parts h
 simp only [Option.some.injEq,Addr.mk.injEq,and_true] at h1 h2
 subst h1 h2
 have hge:ge<mid:=h.low.1 ge rfl
 have there:∀ {t:TypeId} {sz n c g:Nat} {xs:List Value} {B:Nat},w.ownsRow B t sz (.slice (some ⟨g,0,none⟩) n c) n xs→w.there g 0 (n*sz)∧n≤c:=fun {t sz n c g xs B} ho=>by
  rcases ho.2 with ⟨hv,_⟩ | ⟨g',cap,cur,hv,_,hh,hle,_,hs,_⟩
  ·cases hv
  ·simp only [Value.slice.injEq,Option.some.injEq,Addr.mk.injEq,and_true,true_and] at hv
   obtain ⟨rfl,rfl⟩:=hv
   refine ⟨fun j hj=>⟨?_,frozen_of_row w g _ _ _ hh⟩,hle⟩
   rw [cell_of_row w g _ _ _ _ hh,Nat.zero_add,Array.getElem?_eq_getElem (by rw [hs];exact Nat.lt_of_lt_of_le hj (Nat.mul_le_mul_right _ hle))]
   rfl
 have tE:=there h.ents.own
 have tK:=there h.kids.lst.own
 have rE:∀x,e.row.p=some x→e.row.R≠[]→B≤x.block∧x.block<mid∧x.block≠ge:=fun x hx hR=>by
  have h1:=h.ents.each e (by simp) e.row (by simp [En.rows])
  exact ⟨h1.1.lo x hx hR,h.low.2 e (by simp) e.row (by simp [En.rows]) x hx hR,fun e2=>h1.2 x hx hR (by rw [e2];rfl)⟩
 have rK:∀kk∈[k1,k2],∀r∈kk.rows,∀x,r.p=some x→r.R≠[]→mid≤x.block∧x.block≠gk:=fun kk hkk r hr x hx hR=>by
  have h1:=h.kids.lst.each kk hkk r hr
  exact ⟨h1.1.lo x hx hR,fun e2=>h1.2 x hx hR (by rw [e2];rfl)⟩
 have hbm:=h.base
 refine ⟨⟨hk,hE,tE.1,hK1,hK2,tK.1,hro,ho1,ho2,⟨tE.2,tK.2⟩,by simp only;omega,fun r hr x hx hR=>?_⟩,hbe,by omega,fun j hj=>?_⟩
 ·simp only [MSt.rows,List.mem_append,List.mem_cons] at hr
  rcases hr with h1 | rfl | h1 | h1
  ·have:=hkr r h1 x hx hR
   exact ⟨by simp only;omega,by simp only;omega⟩
  ·have:=rE x hx hR
   exact ⟨this.2.2,by simp only;omega⟩
  ·have:=rK k1 (by simp) r h1 x hx hR
   exact ⟨by simp only;omega,this.2⟩
  ·have:=rK k2 (by simp) r h1 x hx hR
   exact ⟨by simp only;omega,this.2⟩
 ·rcases hj with rfl | rfl | ⟨r,hr,x,hx,hR,rfl⟩
  ·exact Or.inl hbe
  ·exact Or.inl (Nat.le_trans hbm hbk)
  ·simp only [MSt.rows,List.mem_append,List.mem_cons] at hr
   rcases hr with h1 | rfl | h1 | h1
   ·exact Or.inr ⟨r,h1,x,hx,hR,rfl⟩
   ·exact Or.inl (rE x hx hR).1
   ·have:=(rK k1 (by simp) r h1 x hx hR).1
    exact Or.inl (by omega)
   ·have:=(rK k2 (by simp) r h1 x hx hR).1
    exact Or.inl (by omega)
end Go.Proofs.YtinihaflmdihaaaGreat.Kt
namespace Go.Proofs.YtinihaflmdihaaaGreat.Kt
open Go.RowKit
open List renaming setIfInBounds_toArray → sA, set_cons_zero → sZ, set_cons_succ → sS
theorem own_empty_rows (w:World):(w.alloc (.cells #[] 24)).ownsRow w.heap.size 24 1 (.slice (some ⟨w.heap.size,0,none⟩) 0 0) 0 []:=
 ⟨rfl,Or.inr ⟨w.heap.size,0,#[],rfl,Nat.le_refl _,heap_alloc_new w _,Nat.le_refl _,by unfold maxLen;omega,rfl,rfl⟩⟩
theorem own_seg {w:World} {base n:Nat} {v:Value} {L:List Rw} (h:w.ownsRow base 24 1 v n (hds L)) (hn:1≤n):∃g c,v= .slice (some ⟨g,0,none⟩) n c∧n=L.length∧n≤c∧base≤g∧g<w.heap.size∧Seg w g 0 L:=by
 have hl:n=L.length:=by have:=h.1;rw [hds_length,Nat.mul_one] at this;exact this.symm
 rcases h.2 with ⟨rfl,h0⟩ | ⟨g,cap,cur,rfl,hb,hg,hle,hm,hs,ht⟩
 ·omega
 ·refine ⟨g,cap,rfl,hl,hle,hb,(Array.getElem?_eq_some_iff.1 hg).1,fun j hj=>⟨?_,frozen_of_row w g _ _ _ hg⟩⟩
  rw [Nat.zero_add,cell_of_row w g j cur _ _ hg]
  have e:(cur.toList.take (n*1))[j]? =(hds L)[j]? :=by rw [ht]
  rw [List.getElem?_take_of_lt (by omega)] at e
  simp only [hds,List.getElem?_map,List.getElem?_eq_getElem hj] at e
  rw [List.getD_eq_getElem?_getD,List.getElem?_eq_getElem hj]
  simpa using e
def ClonePostK (w:World) (L:List Rw) (e:Ending) (w':World):Prop:=∃g c,e= .returned (.slice (some ⟨g,0,none⟩) L.length c)∧L.length≤c∧w.heap.size≤g∧g<w'.heap.size∧Seg w' g 0 L∧Below w.heap.size w w'
theorem clone_rows (p:Option Addr) (n c:Nat) (L:List Rw) (w:World) (h:RowsIn w p n c L) (h1:1≤n) (h8:n≤1048576):
  Calls Tryz.prog 76 #[.slice p n c] w (ClonePostK w L):=by
 obtain ⟨gR,oR,rfl,-⟩:=h.cell 0 (by omega)
 obtain ⟨i2,hi0,hi1,hi2,hi3⟩:=info_parts IRs
 have HI:=Lib.hid hi0
 have HI0:=Lib.hid hi1
 have HI1:=Lib.hid hi2
 have HI2:=Lib.hid hi3
 clear hi0 hi1 hi2 hi3
 have hal:Below w.heap.size w (w.alloc (.cells #[] 24)):=(Below.refl _ _).alloc (Nat.le_refl _) _
 have HOE:=Lib.hid (own_empty_rows w)
 have HAL:=Lib.hid hal
 have HNW:=Lib.hid (hd_tail (h.later hal) 0)
 have HLN:=Lib.hid h.size
 have HRL:=Lib.hid (show (hds (L.drop 0)).length=n*1 by rw [List.drop_zero,hds_length,← h.size,Nat.mul_one])
 have qn:∀w',(binOp .eql 51 (.slice (some ⟨gR,oR,none⟩) n c) (.slice none 0 0)).run Tryz.prog w'= .ok (.bool false) w':=fun w'=>Go.Lib.run_eql_slice_nil w' _ _ _ _ _ _ _ URSs
 clear hal h
 go_enter Tryz.func76,Tryz.ntmps76
 go_wp2_with ((at_builtin;(refine wpList_append_own_at _ (by rfl) (.tmp 5) (.tmp 6) 51 (by rfl) w.heap.size 24 i2 (.slice none 0 0) 1 24 URSs HI.out HI0.out HI1.out HI2.out (by rfl) (by decide) _ 0 [] (by rfl) HOE.out ⟨gR,oR+0,none⟩ n c (hds (L.drop 0)) (by rfl) HRL.out HNW.out (hds_one _) (by unfold maxLen;omega) (by omega) (by simp) ?_);intro v7 w7 hown7 hgrow7 _ _;have O7:=Lib.hid hown7;have G7:=Lib.hid hgrow7;clear hown7 hgrow7))
 obtain ⟨gn,cn,rfl,hn,hc,hb,hlt,hseg⟩:=own_seg (w:=w7) (base:=w.heap.size) (n:=n) (L:=L) (by have h:=O7.out;rw [Nat.zero_add,List.nil_append,List.drop_zero] at h;exact h) h1
 have hb7:Below w.heap.size w w7:=HAL.out.grown G7.out (by simp) (fun k hk=>by simp [Value.ownBlock] at hk;omega)
 go_ret
 exact ⟨gn,cn,by rw [← hn];rfl,by omega,hb,hlt,hseg,hb7⟩
end Go.Proofs.YtinihaflmdihaaaGreat.Kt
namespace Go.Proofs.YtinihaflmdihaaaGreat.Kt
open Go.RowKit Go.Proofs.YtinihaflmdihaaaGreat.Nd Go.Proofs.YtinihaflmdihaaaGreat.Dk Go.Proofs.YtinihaflmdihaaaGreat.Pg
open List renaming setIfInBounds_toArray → sA, set_cons_zero → sZ, set_cons_succ → sS
def liveE (L:List Ent):List (List Int):=(L.filter fun e=>e.2.1).map (·.1)
theorem liveE_append (L M:List Ent):liveE (L++M)=liveE L++liveE M:=by simp [liveE]
structure ColAt (B b:Nat) (X:Nat→Prop) (L:List Ent) (w:World) (v:Value) (O:List Rw):Prop where
 row:w.heap[b]? =some (.cells #[v] 51 (0,0))
 own:w.ownsRow 0 24 1 v O.length (hds O)
 ok:∀r∈O,r.Ok w∧∀x,r.p=some x→r.R≠[]→¬X x.block∧B≤x.block
 are:O.map Rw.R=liveE L
 mine:∀k,X k↔k=b∨v.ownBlock=some k
 ne:v.ownBlock≠some b
 few:O.length≤1000000
def ColI (B b:Nat) (X:Nat→Prop) (L:List Ent) (w:World):Prop:=∃v O,ColAt B b X L w v O
theorem own0_later {w w':World} {v:Value} {n:Nat} {xs:List Value} (h:w.ownsRow 0 24 1 v n xs) (hk:∀k,v.ownBlock=some k→w'.heap[k]? =w.heap[k]?):w'.ownsRow 0 24 1 v n xs:=by
 obtain ⟨h1,h2⟩:=h
 refine ⟨h1,h2.imp id ?_⟩
 rintro ⟨g,cap,cur,hv,hg,hh,r⟩
 exact ⟨g,cap,cur,hv,hg,(hk g (by rw [hv];rfl)).trans hh,r⟩
theorem ColAt.lt {B b:Nat} {X:Nat→Prop} {L:List Ent} {w:World} {v:Value} {O:List Rw} (h:ColAt B b X L w v O):∀k,X k→k<w.heap.size:=fun k hk=>by
 rcases (h.mine k).1 hk with rfl | e
 ·exact (Array.getElem?_eq_some_iff.1 h.row).1
 ·exact (h.own.lt k e).2
theorem ColAt.later {B b:Nat} {X:Nat→Prop} {L:List Ent} {w w':World} {v:Value} {O:List Rw} (h:ColAt B b X L w v O) (hb:Below w.heap.size w w'):ColAt B b X L w' v O:=
 ⟨(hb.block _ (Array.getElem?_eq_some_iff.1 h.row).1).trans h.row,own0_later h.own fun k e=>hb.block k (h.own.lt k e).2,fun r hr=>⟨(h.ok r hr).1.later hb,(h.ok r hr).2⟩,h.are,h.mine,h.ne,h.few⟩
theorem row_boxed {w:World} {b:Nat} {v v':Value} {t:TypeId} (h:w.heap[b]? =some (.cells #[v] t (0,0))):(w.setCell ⟨b,0,none⟩ v').heap[b]? =some (.cells #[v'] t (0,0)):=heap_setCell_same w b 0 _ _ v' h
theorem rowsDo {B b:Nat} (X:Nat→Prop) (L:List Ent) (w:World) (r:Rw) (lv:Bool) (t:Nat) (hi:ColI B b X L w) (hl:L.length≤100000) (hr:r.Ok w) (hx:∀x,r.p=some x→r.R≠[]→¬X x.block∧B≤x.block):
  Calls Tryz.prog 109 #[.agg #[r.val,.bool lv],.int .i64 t,.pointer (some ⟨b,0,none⟩)] w fun e w'=>e= .returned (.tuple #[])∧∃X',ColI B b X' (L++[(r.R,lv,t)]) w'∧(∀k,X' k→X k∨w.heap.size≤k)∧Only X w w':=by
 obtain ⟨v,O,hc⟩:=hi
 have hol:O.length≤L.length:=by
  have:=congrArg List.length hc.are
  rw [List.length_map] at this
  rw [this]
  unfold liveE
  rw [List.length_map]
  exact List.length_filter_le _ _
 obtain ⟨rp,rn,rc,rR⟩:=r
 unfold Rw.val
 simp only
 have b1:Below w.heap.size w (w.alloc (.cells #[.slice rp rn rc,.bool lv] 85)):=(Below.refl _ _).alloc (Nat.le_refl _) _
 have r1:=heap_alloc_new w (.cells #[.slice rp rn rc,.bool lv] 85)
 have s1:(w.alloc (.cells #[.slice rp rn rc,.bool lv] 85)).heap.size=w.heap.size+1:=by simp
 have HC:=Lib.hid (hc.later b1)
 have HXLT:=Lib.hid hc.lt
 have HR:=Lib.hid (hr.later b1)
 have HX:=Lib.hid hx
 have HL:=Lib.hid hl
 have HOL:=Lib.hid hol
 have B1:=Lib.hid b1
 obtain ⟨i23,hi0,hi1,hi2,hi3⟩:=info_parts IRs
 have HI:=Lib.hid hi0
 have HI0:=Lib.hid hi1
 have HI1:=Lib.hid hi2
 have HI2:=Lib.hid hi3
 clear hc hr hx hl hol hi0 hi1 hi2 hi3
 go_enter Tryz.func109,Tryz.ntmps109
 go_upto_region 1 with fail
 generalize w.alloc (.cells #[.slice rp rn rc,.bool lv] 85)=w1 at *
 have c0:=cell_of_row w1 w.heap.size 0 _ _ _ r1
 have c1:=cell_of_row w1 w.heap.size 1 _ _ _ r1
 have HS1:=Lib.hid s1
 clear r1 b1 s1
 cases lv with
 | false=>
  go_wp2_with fail
  go_end0
  exact ⟨rfl,X,⟨v,O,⟨HC.out.row,HC.out.own,HC.out.ok,by rw [liveE_append,HC.out.are];simp [liveE],HC.out.mine,HC.out.ne,HC.out.few⟩⟩,fun k h=>Or.inl h,Only.of_below _ B1.out⟩
 | true=>
  have cb:=cell_of_row w1 b 0 _ _ _ HC.out.row
  have HA:=Lib.hid (heap_alloc_new w1 (.cells #[.slice rp rn rc] 24))
  have bA:Below w1.heap.size w1 (w1.alloc (.cells #[.slice rp rn rc] 24)):=(Below.refl _ _).alloc (Nat.le_refl _) _
  have hOA:(w1.alloc (.cells #[.slice rp rn rc] 24)).ownsRow 0 24 1 v O.length (hds O):=own0_later HC.out.own fun k e=>bA.block k (HC.out.own.lt k e).2
  have HOA:=Lib.hid hOA
  have BA:=Lib.hid bA
  clear hOA bA
  go_upto_region 2 with fail
  go_wp2_with ((at_builtin;refine wpList_append_own_at _ (by rfl) (.tmp 7) (.tmp 10) 51 (by rfl) 0 24 i23 (.slice none 0 0) 1 24 URSs HI.out HI0.out HI1.out HI2.out (by rfl) (by decide) _ O.length _ (by rfl) HOA.out ⟨w1.heap.size,0,none⟩ 1 1 (hds [⟨rp,rn,rc,rR⟩]) (by rfl) (by rfl) (hd_new w1 rp rn rc rR) (hds_one _) (by have h1:=HL.out;have h2:=HOL.out;unfold maxLen;omega) (by have h1:=HL.out;have h2:=HOL.out;omega) (Nat.zero_le _) ?_);intro v7 w7 hown7 hgrow7 _ hat7;obtain ⟨q7,c7,rfl⟩:=lst_form hown7;have cb7:w7.cell? ⟨b,0,none⟩=some v:=(World.cell?_of_block ((hgrow7.block b (Nat.lt_of_lt_of_le (Array.getElem?_eq_some_iff.1 HC.out.row).1 BA.out.size) (fun e=>HC.out.ne e.symm)).trans (BA.out.block b (Array.getElem?_eq_some_iff.1 HC.out.row).1))).trans cb;have HRB7:=Lib.hid (((hgrow7.block b (Nat.lt_of_lt_of_le (Array.getElem?_eq_some_iff.1 HC.out.row).1 BA.out.size) (fun e=>HC.out.ne e.symm)).trans (BA.out.block b (Array.getElem?_eq_some_iff.1 HC.out.row).1)).trans HC.out.row);have fb7:=frozen_of_row w7 b 0 _ _ HRB7.out;have O7:=Lib.hid hown7;have G7:=Lib.hid hgrow7;have AT7:=Lib.hid hat7;clear hown7 hgrow7 hat7)
  have hs7:w1.heap.size+1≤w7.heap.size:=by have:=G7.out.size;simpa using this
  have hrb:=row_boxed (v':=.slice q7 (O.length+1) c7) HRB7.out
  have ho8:Only (fun k=>k=b) w7 (w7.setCell ⟨b,0,none⟩ (.slice q7 (O.length+1) c7)):=Only.setCell (P:=fun j=>j=b) w7 (a:=⟨b,0,none⟩) rfl _
  generalize w7.setCell ⟨b,0,none⟩ (.slice q7 (O.length+1) c7)=w8 at *
  go_end0
  have hne:(Value.slice q7 (O.length+1) c7).ownBlock≠some b:=fun e=>by
   rcases AT7.out with h | h
   ·exact HC.out.ne (h.symm.trans e)
   ·rw [h] at e
    have e:=Option.some.inj e
    have h2:=(Array.getElem?_eq_some_iff.1 HC.out.row).1
    have h3:=BA.out.size
    omega
  have hsA:=BA.out.size
  have hnew:∀k,(Value.slice q7 (O.length+1) c7).ownBlock=some k→v.ownBlock=some k∨w1.heap.size+1≤k:=fun k e=>by
   rcases AT7.out with h | h
   ·exact Or.inl (h.symm.trans e)
   ·rw [h] at e
    have e:=Option.some.inj e
    refine Or.inr ?_
    rw [← e]
    simp
  have hall:Only X w1 w8:=by
   have hg:=G7.out
   refine ⟨ho8.os.trans (hg.os.trans BA.out.os),ho8.tape.trans (hg.tape.trans BA.out.tape),ho8.output.trans (hg.output.trans BA.out.output),by have:=ho8.size;omega,fun k hk hn=>?_⟩
   have hkb:k≠b:=fun e=>hn ((HC.out.mine k).2 (Or.inl e))
   rw [ho8.block k (by omega) hkb,hg.block k (by omega) (fun e=>hn ((HC.out.mine k).2 (Or.inr e.symm)))]
   exact BA.out.block k hk
  have hrk:∀r:Rw,r.Ok w1→(∀x,r.p=some x→r.R≠[]→¬X x.block∧B≤x.block)→r.Ok w8:=fun r h1 h2=>Nd.rw_keep h1 fun y hy hR=>hall.block _ (rw_lt h1 y hy hR) (h2 y hy hR).1
  have how:=O7.out
  refine ⟨rfl,fun k=>k=b∨(Value.slice q7 (O.length+1) c7).ownBlock=some k,⟨.slice q7 (O.length+1) c7,O++[⟨rp,rn,rc,rR⟩],⟨hrb,?_,fun r hr=>?_,?_,fun k=>Iff.rfl,hne,?_⟩⟩,fun k hk=>?_,?_⟩
  ·rw [List.length_append,hds_append]
   exact own0_later how fun k e=>ho8.block k ((how.lt k e).2) (fun e2=>hne (by rw [e,e2]))
  ·have key:∀r:Rw,r.Ok w1→(∀x,r.p=some x→r.R≠[]→¬X x.block∧B≤x.block)→∀x,r.p=some x→r.R≠[]→¬(x.block=b∨(Value.slice q7 (O.length+1) c7).ownBlock=some x.block)∧B≤x.block:=fun r h1 h2 x hx hR=>⟨fun h=>by
    rcases h with h | h
    ·exact (h2 x hx hR).1 ((HC.out.mine _).2 (Or.inl h))
    ·rcases hnew _ h with h | h
     ·exact (h2 x hx hR).1 ((HC.out.mine _).2 (Or.inr h))
     ·have:=rw_lt h1 x hx hR
      omega,(h2 x hx hR).2⟩
   rcases List.mem_append.1 hr with hr | hr
   ·exact ⟨hrk r (HC.out.ok r hr).1 (HC.out.ok r hr).2,key r (HC.out.ok r hr).1 (HC.out.ok r hr).2⟩
   ·rw [List.mem_singleton.1 hr]
    exact ⟨hrk _ HR.out HX.out,key _ HR.out HX.out⟩
  ·rw [List.map_append,HC.out.are,liveE_append]
   rfl
  ·rw [List.length_append]
   have h1:=HL.out
   have h2:=HOL.out
   simp only [List.length_cons,List.length_nil]
   omega
  ·rcases hk with rfl | hk
   ·exact Or.inl ((HC.out.mine _).2 (Or.inl rfl))
   ·rcases hnew k hk with h | h
    ·exact Or.inl ((HC.out.mine _).2 (Or.inr h))
    ·have:=HS1.out
     exact Or.inr (by omega)
  ·exact (Only.of_below X B1.out).trans hall
theorem rows_do {B b:Nat}:DoOk B 109 #[.pointer (some ⟨b,0,none⟩)] (ColI B b) where
 lt:=fun X L w ⟨v,O,h⟩=>h.lt
 later:=fun X L w w' ⟨v,O,h⟩ hb=>⟨v,O,h.later hb⟩
 run:=fun X L w r v t hi hr hx ht hl=>by
  have h:=rowsDo X L w r v t hi hl hr hx
  exact h
theorem rows_enter:∀args w,(callFunc 109 args).run Tryz.prog w= .ok (.enter 109 args) w:=enters_of Tryz.func109 (by kernel_rfl) rfl
def deepE (L:List Ent):Nat:=L.foldl (fun m e=>max m e.2.2) 0
theorem deepE_snoc (L:List Ent) (e:Ent):deepE (L++[e])=max (deepE L) e.2.2:=by simp [deepE]
def TopI (b:Nat) (X:Nat→Prop) (L:List Ent) (w:World):Prop:=w.heap[b]? =some (.cells #[.int .i64 (deepE L)] 3 (0,0))∧(∀k,X k↔k=b)
theorem topDo {b:Nat} (X:Nat→Prop) (L:List Ent) (w:World) (r:Rw) (lv:Bool) (t:Nat) (hi:TopI b X L w) (ht:t≤1000000000):
  Calls Tryz.prog 75 #[.agg #[r.val,.bool lv],.int .i64 t,.pointer (some ⟨b,0,none⟩)] w fun e w'=>e= .returned (.tuple #[])∧∃X',TopI b X' (L++[(r.R,lv,t)]) w'∧(∀k,X' k→X k∨w.heap.size≤k)∧Only X w w':=by
 obtain ⟨hc,hm⟩:=hi
 obtain ⟨rp,rn,rc,rR⟩:=r
 unfold Rw.val
 simp only
 have b1:Below w.heap.size w (w.alloc (.cells #[.slice rp rn rc,.bool lv] 85)):=(Below.refl _ _).alloc (Nat.le_refl _) _
 have RB:=Lib.hid ((b1.block _ (Array.getElem?_eq_some_iff.1 hc).1).trans hc)
 have HM:=Lib.hid hm
 have B1:=Lib.hid b1
 have HD:=Lib.hid (deepE_snoc L (rR,lv,t))
 clear hc hm b1
 generalize deepE L=D at *
 go_enter Tryz.func75,Tryz.ntmps75
 go_upto_region 1 with fail
 generalize w.alloc (.cells #[.slice rp rn rc,.bool lv] 85)=w1 at *
 have cb:=cell_of_row w1 b 0 _ _ _ RB.out
 have fb:=frozen_of_row w1 b 0 _ _ RB.out
 go_wp2_with fail
 have hrb:=row_boxed (v':=.int .i64 (max (D:Int) t)) RB.out
 have ho8:Only (fun k=>k=b) w1 (w1.setCell ⟨b,0,none⟩ (.int .i64 (max (D:Int) t))):=Only.setCell (P:=fun j=>j=b) w1 (a:=⟨b,0,none⟩) rfl _
 go_end0
 refine ⟨rfl,X,⟨?_,HM.out⟩,fun k h=>Or.inl h,(Only.of_below X B1.out).trans (ho8.mono fun k e=>(HM.out k).2 e)⟩
 rw [HD.out]
 have e:((max D t:Nat):Int)=max (D:Int) t:=by omega
 rw [e]
 exact hrb
theorem top_do {B b:Nat}:DoOk B 75 #[.pointer (some ⟨b,0,none⟩)] (TopI b) where
 lt:=fun X L w ⟨h,hm⟩ k hk=>by
  rw [(hm k).1 hk]
  exact (Array.getElem?_eq_some_iff.1 h).1
 later:=fun X L w w' ⟨h,hm⟩ hb=>⟨(hb.block _ (Array.getElem?_eq_some_iff.1 h).1).trans h,hm⟩
 run:=fun X L w r v t hi hr hx ht hl=>by
  have h:=topDo X L w r v t hi ht
  exact h
theorem top_enter:∀args w,(callFunc 75 args).run Tryz.prog w= .ok (.enter 75 args) w:=enters_of Tryz.func75 (by kernel_rfl) rfl
theorem UWy:Tryz.prog.underlying 93=some (.slice 101):=by kernel_rfl
def sp0:List Value:=kd0.cells++[.int .u8 0,.slice none 0 0,.slice none 0 0,.int .i64 0]
theorem ISp:(Tryz.prog.info? 101).map (fun i=>(i.zero,i.size,i.bytes))=some (some (.agg sp0.toArray),41,184):=by kernel_rfl
theorem USp0:(Tryz.prog.underlying 101).map (·.isRow)=some true:=by kernel_rfl
theorem USp:∃d,Tryz.prog.underlying 101=some d∧d.isRow=true:=by
 have h:=USp0
 revert h
 cases Tryz.prog.underlying 101 with
 | none=>intro h;cases h
 | some d=>intro h;exact ⟨d,rfl,by simpa using h⟩
theorem SSp:(Tryz.prog.info? 101).map (·.size)=some 41:=by kernel_rfl
theorem sp_built0 (ge gk:Nat) (ce ck:Nat):Tryz.prog.built 101 [(1,.agg #[.int .u8 1,.slice (some ⟨ge,0,none⟩) 1 ce,.slice (some ⟨gk,0,none⟩) 2 ck])]=some (kd0.cells++[Value.int .u8 1,.slice (some ⟨ge,0,none⟩) 1 ce,.slice (some ⟨gk,0,none⟩) 2 ck,.int .i64 0]).toArray:=by kernel_rfl
theorem sp_built1 (q1 q2 q3:Option Addr) (m1 c1 m2 c2 m3 c3:Nat) (x y:Int) (ge gk ce ck:Nat):∀(D:List Nat),D.length=32→Tryz.prog.built 101 [(0,.agg (vals D++[Value.slice q1 m1 c1,.slice q2 m2 c2,.int .i64 x,.int .i64 y,.slice q3 m3 c3]).toArray),(1,.agg #[.int .u8 1,.slice (some ⟨ge,0,none⟩) 1 ce,.slice (some ⟨gk,0,none⟩) 2 ck])]=some ((vals D++[Value.slice q1 m1 c1,.slice q2 m2 c2,.int .i64 x,.int .i64 y,.slice q3 m3 c3])++[Value.int .u8 1,.slice (some ⟨ge,0,none⟩) 1 ce,.slice (some ⟨gk,0,none⟩) 2 ck,.int .i64 0]).toArray
 |[a0,a1,a2,a3,a4,a5,a6,a7,a8,a9,a10,a11,a12,a13,a14,a15,a16,a17,a18,a19,a20,a21,a22,a23,a24,a25,a26,a27,a28,a29,a30,a31],_=>by kernel_rfl
theorem sp_fill (q1 q2 q3:Option Addr) (m1 c1 m2 c2 m3 c3:Nat) (x y z:Int) (ge gk ce ck:Nat):∀(D:List Nat),D.length=32→Instr.fill (fun i=>some (i*41,41)) ((Array.range (1*41)).map ((Value.agg sp0.toArray).cells[·%(Value.agg sp0.toArray).cells.size]!)) [(0,.agg ((vals D++[Value.slice q1 m1 c1,.slice q2 m2 c2,.int .i64 x,.int .i64 y,.slice q3 m3 c3])++[Value.int .u8 1,.slice (some ⟨ge,0,none⟩) 1 ce,.slice (some ⟨gk,0,none⟩) 2 ck,.int .i64 z]).toArray)]=some ((vals D++[Value.slice q1 m1 c1,.slice q2 m2 c2,.int .i64 x,.int .i64 y,.slice q3 m3 c3])++[Value.int .u8 1,.slice (some ⟨ge,0,none⟩) 1 ce,.slice (some ⟨gk,0,none⟩) 2 ck,.int .i64 z]).toArray
 |[a0,a1,a2,a3,a4,a5,a6,a7,a8,a9,a10,a11,a12,a13,a14,a15,a16,a17,a18,a19,a20,a21,a22,a23,a24,a25,a26,a27,a28,a29,a30,a31],_=>by kernel_rfl
theorem wp_step_one {w:World} {o:Oper} {a:Act} {K:Act→World→Prop} {Q:Exit→Act→World→Prop} (x:Operand) (ho:o.op= .buildSlice 93 1 #[(0,x)]) {m:MSt} (hm:m.kid.sum.length=32) (hx:a.eval x= .agg m.cells.toArray)
  (h:K (a.put o.dst (.slice (some ⟨w.heap.size,0,none⟩) 1 1)) (w.alloc (.cells m.cells.toArray 101))):o.wp Tryz.prog a w K Q:=by
 obtain ⟨i,hi,hi0,hi1,hi2⟩:=info_parts ISp
 refine wp_buildSlice 93 101 1 #[(0,x)] ho m.cells.toArray i _ UWy hi hi0 (by rw [hi1];omega) (by rw [hi1];omega) ?_ h
 rw [hi1]
 simp only [List.map_toArray,List.map_cons,List.map_nil,hx]
 exact sp_fill _ _ _ _ _ _ _ _ _ _ _ _ _ _ _ _ m.kid.sum hm
theorem MSt.one {m:MSt}:∀u∈m.cells,u.oneCell'=true:=by
 intro u hu
 unfold MSt.cells at hu
 rcases List.mem_append.1 hu with hu | hu
 ·exact Kd.one u hu
 ·simp only [List.mem_cons,List.not_mem_nil,or_false] at hu
  rcases hu with rfl | rfl | rfl | rfl<;>rfl
theorem step_news (w:World) (m:MSt):∀j u,m.cells[j]? =some u→(w.alloc (.cells m.cells.toArray 101)).cell? ((⟨w.heap.size,0,none⟩:Addr).add j)=some u:=fun j u hu=>by
 rw [Addr.add_mid,Nat.zero_add,cell_of_row _ w.heap.size j _ _ _ (heap_alloc_new w _)]
 simpa using hu
theorem wp_app_step {B bw:Nat} {w:World} {v:Value} {A:List MSt} {m:MSt} (h:WaySt B bw w v A) (hm:m.kid.sum.length=32) {o:Oper} {a:Act} {K:Act→World→Prop} {Q:Exit→Act→World→Prop} (s x:Operand)
  (ho:o.op= .call {callee:=.builtin .append,args:= #[s,x],argTypes:= #[93,93]}) (hs:a.eval s=v) (hx:a.eval x= .slice (some ⟨w.heap.size,0,none⟩) 1 1) (hlen:A.length≤100000)
  (hK:∀q c w',w'.ownsRow B 101 41 (.slice q (A.length+1) c) (A.length+1) ((A++[m]).flatMap MSt.cells)→(w.alloc (.cells m.cells.toArray 101)).grownBy w' v.ownBlock→((Value.slice q (A.length+1) c).ownBlock=v.ownBlock∨(Value.slice q (A.length+1) c).ownBlock=some (w.heap.size+1))→K (a.put o.dst (.slice q (A.length+1) c)) w'):o.wp Tryz.prog a (w.alloc (.cells m.cells.toArray 101)) K Q:=by
 obtain ⟨i,hi,hi0,hi1,hi2⟩:=info_parts ISp
 have hb:Below w.heap.size w (w.alloc (.cells m.cells.toArray 101)):=(Below.refl _ _).alloc (Nat.le_refl _) _
 have ho2:=(h.later hb).own
 refine wp_append_at s x 93 ho B 101 i _ 41 184 UWy hi hi0 hi1 hi2 (by rfl) (by decide) v A.length _ hs ho2 ⟨w.heap.size,0,none⟩ 1 1 m.cells hx (by rw [MSt.cells_length hm]) (step_news w m) MSt.one (by unfold maxLen;omega) (by omega) (by have:=h.low;have:=(Array.getElem?_eq_some_iff.1 h.box).1;simp;omega) fun v' w' h1 h2 h3=>?_
 obtain ⟨q,c,rfl⟩:=lst_form h1
 refine hK q c w' (by rw [List.flatMap_append];simpa using h1) h2 ?_
 simpa using h3
theorem way_put {B bw:Nat} {w w':World} {v:Value} {A:List MSt} {m:MSt} {q:Option Addr} {c:Nat} (h:WaySt B bw w v A) (hm:m.Ok w) (hlt:B≤w.heap.size) (ho:w'.ownsRow B 101 41 (.slice q (A.length+1) c) (A.length+1) ((A++[m]).flatMap MSt.cells)) (hg:(w.alloc (.cells m.cells.toArray 101)).grownBy w' v.ownBlock) (hat:(Value.slice q (A.length+1) c).ownBlock=v.ownBlock∨(Value.slice q (A.length+1) c).ownBlock=some (w.heap.size+1))
  (hnew:WayM B w (A++[m])) (hx:∀k,m.reads k→k≠bw∧v.ownBlock≠some k):
  WaySt B bw (w'.setCell ⟨bw,0,none⟩ (.slice q (A.length+1) c)) (.slice q (A.length+1) c) (A++[m])∧Only (fun k=>k=bw∨v.ownBlock=some k) w (w'.setCell ⟨bw,0,none⟩ (.slice q (A.length+1) c))∧w'.heap[bw]? =some (.cells #[v] 93 (0,0)):=by
 have hb:Below w.heap.size w (w.alloc (.cells m.cells.toArray 101)):=(Below.refl _ _).alloc (Nat.le_refl _) _
 have hbwl:=(Array.getElem?_eq_some_iff.1 h.box).1
 have hbox:w'.heap[bw]? =some (.cells #[v] 93 (0,0)):=(hg.block bw (Nat.lt_of_lt_of_le hbwl hb.size) (fun e=>h.ne e.symm)).trans ((hb.block bw hbwl).trans h.box)
 have hne:(Value.slice q (A.length+1) c).ownBlock≠some bw:=fun e=>by
  rcases hat with h1 | h1
  ·exact h.ne (h1.symm.trans e)
  ·rw [h1] at e
   have:=Option.some.inj e
   omega
 have ho8:Only (fun k=>k=bw) w' (w'.setCell ⟨bw,0,none⟩ (.slice q (A.length+1) c)):=Only.setCell (P:=fun j=>j=bw) w' (a:=⟨bw,0,none⟩) rfl _
 have hall:Only (fun k=>k=bw∨v.ownBlock=some k) w (w'.setCell ⟨bw,0,none⟩ (.slice q (A.length+1) c)):=
  ⟨ho8.os.trans (hg.os.trans hb.os),ho8.tape.trans (hg.tape.trans hb.tape),ho8.output.trans (hg.output.trans hb.output),Nat.le_trans hb.size (Nat.le_trans hg.size ho8.size),fun k hk hn=>
   (ho8.block k (Nat.lt_of_lt_of_le hk (Nat.le_trans hb.size hg.size)) (fun e=>hn (Or.inl e))).trans ((hg.block k (Nat.lt_of_lt_of_le hk hb.size) (fun e=>hn (Or.inr e.symm))).trans (hb.block k hk))⟩
 have hasd:∀x∈A++[m],∀k,x.reads k→k≠bw∧v.ownBlock≠some k:=fun x hx' k hk=>by
  rcases List.mem_append.1 hx' with h1 | h1
  ·exact h.aside x h1 k hk
  ·rw [List.mem_singleton.1 h1] at hk
   exact hx k hk
 refine ⟨⟨row_boxed hbox,?_,hne,hnew.keep fun x hx' k hk=>hall.block k ((hnew.each x hx').lt k hk) (fun e=>e.elim (hasd x hx' k hk).1 (hasd x hx' k hk).2),fun x hx' k hk=>⟨(hasd x hx' k hk).1,fun e=>?_⟩,h.low⟩,hall,hbox⟩
 ·obtain ⟨h1,h2⟩:=ho
  rw [List.length_append]
  refine ⟨h1,h2.imp id ?_⟩
  rintro ⟨g,cap,cur,hv,hg',hh,r⟩
  refine ⟨g,cap,cur,hv,hg',(ho8.block g (Array.getElem?_eq_some_iff.1 hh).1 (fun e=>hne (by rw [hv,← e];rfl))).trans hh,r⟩
 ·rcases hat with h1 | h1
  ·exact (hasd x hx' k hk).2 (h1.symm.trans e)
  ·rw [h1] at e
   have:=Option.some.inj e
   have:=(hnew.each x hx').lt k hk
   omega
end Go.Proofs.YtinihaflmdihaaaGreat.Kt
