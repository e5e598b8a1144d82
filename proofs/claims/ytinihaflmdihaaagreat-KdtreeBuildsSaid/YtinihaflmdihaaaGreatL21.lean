/- KtWayM, KdClone, KdCols, KdStep, KdMeetV. -/
import Derived.Lib.SliceRun
import Derived.Maps.AppendAt
import Derived.Great.BuildSlice
import Derived.BigRegion
import Derived.Test.YtinihaflmdihaaaGreatL20
set_option maxRecDepth 100000
set_option maxHeartbeats 8000000
set_option linter.all false
namespace Go.Proofs.YtinihaflmdihaaaGreat.Kt
open Go.RowKit Go.Proofs.YtinihaflmdihaaaGreat.Nd Go.Proofs.YtinihaflmdihaaaGreat.Dk Go.Proofs.YtinihaflmdihaaaGreat.Pg
structure MSt where
 kid:Kd
 ge:Nat
 ce:Nat
 gk:Nat
 ck:Nat
 row:Rw
 live:Bool
 k1:Kd
 k2:Kd
 side:Bool
instance:Inhabited MSt:=⟨⟨default,0,0,0,0,default,false,default,default,false⟩⟩
def MSt.sideN (m:MSt):Nat:=if m.side then 1 else 0
def MSt.cells (m:MSt):List Value:=m.kid.cells++[.int .u8 1,.slice (some ⟨m.ge,0,none⟩) 1 m.ce,.slice (some ⟨m.gk,0,none⟩) 2 m.ck,.int .i64 m.sideN]
def MSt.rows (m:MSt):List Rw:=m.kid.rows++m.row::(m.k1.rows++m.k2.rows)
def MSt.reads (m:MSt) (k:Nat):Prop:=k=m.ge∨k=m.gk∨∃r∈m.rows,∃x,r.p=some x∧r.R≠[]∧k=x.block
structure MSt.Ok (w:World) (m:MSt):Prop where
 kid:m.kid.Ok w
 ent:w.rangeAt m.ge 0 [m.row.val,.bool m.live]
 entT:w.there m.ge 0 2
 kid1:w.rangeAt m.gk 0 m.k1.cells
 kid2:w.rangeAt m.gk 37 m.k2.cells
 kidT:w.there m.gk 0 74
 row:m.row.Ok w
 k1:m.k1.Ok w
 k2:m.k2.Ok w
 caps:1≤m.ce∧2≤m.ck
 ne:m.ge≠m.gk
 apart:∀r∈m.rows,∀x,r.p=some x→r.R≠[]→x.block≠m.ge∧x.block≠m.gk
theorem MSt.cells_length {m:MSt} (h:m.kid.sum.length=32):m.cells.length=41:=by
 unfold MSt.cells
 rw [List.length_append,Kd.cells_length h]
 rfl
theorem x2g {w w':World} {g o n:Nat} (h:w.there g o n) (hk:w'.heap[g]? =w.heap[g]?):w'.there g o n:=fun j hj=>by
 obtain ⟨h1,h2⟩:=h j hj
 refine ⟨by rw [World.cell?_of_block hk];exact h1,?_⟩
 rw [← h2]
 unfold World.frozen?
 rw [hk]
theorem x0Y {w w':World} {g o:Nat} {cs:List Value} (h:w.rangeAt g o cs) (hk:w'.heap[g]? =w.heap[g]?):w'.rangeAt g o cs:=fun j v hv=>(World.cell?_of_block hk).trans (h j v hv)
theorem x1I {w w':World} {k:Kd} (h:k.Ok w) (hk:∀r∈k.rows,∀x,r.p=some x→r.R≠[]→w'.heap[x.block]? =w.heap[x.block]?):k.Ok w':=by
 have A:∀r∈k.rows,r.Ok w':=fun r hr=>Nd.rw_keep (x05 h r hr) (hk r hr)
 exact ⟨h.len,h.ok,A _ (by simp [Kd.rows]),A _ (by simp [Kd.rows]),A _ (by simp [Kd.rows]),h.live,h.size⟩
theorem MSt.Ok.keep {w w':World} {m:MSt} (h:m.Ok w) (hk:∀k,m.reads k→w'.heap[k]? =w.heap[k]?):m.Ok w':=by
 have C:=hk m.ge (Or.inl rfl)
 have A:=hk m.gk (Or.inr (Or.inl rfl))
 have B:∀r∈m.rows,∀x,r.p=some x→r.R≠[]→w'.heap[x.block]? =w.heap[x.block]? :=fun r B x hx hR=>hk _ (Or.inr (Or.inr ⟨r,B,x,hx,hR,rfl⟩))
 exact ⟨x1I h.kid fun r h1=>B r (by simp [MSt.rows,h1]),x0Y h.ent C,x2g h.entT C,x0Y h.kid1 A,x0Y h.kid2 A,x2g h.kidT A,Nd.rw_keep h.row (B _ (by simp [MSt.rows])),x1I h.k1 fun r h1=>B r (by simp [MSt.rows,h1]),x1I h.k2 fun r h1=>B r (by simp [MSt.rows,h1]),h.caps,h.ne,h.apart⟩
theorem MSt.Ok.lt {w:World} {m:MSt} (h:m.Ok w):∀k,m.reads k→k<w.heap.size:=fun k hk=>by
 rcases hk with rfl | rfl | ⟨r,hr,x,hx,hR,rfl⟩
 ·exact block_lt_of_cell (h.ent 0 _ rfl)
 ·exact block_lt_of_cell (h.kid1 0 _ (List.getElem?_eq_getElem (by rw [Kd.cells_length h.k1.len];decide)))
 ·have key:∀r∈m.rows,r.Ok w:=fun r hr=>by
   simp only [MSt.rows,List.mem_append,List.mem_cons] at hr
   rcases hr with h1 | rfl | h1 | h1
   ·exact x05 h.kid r h1
   ·exact h.row
   ·exact x05 h.k1 r h1
   ·exact x05 h.k2 r h1
  exact rw_lt (key r hr) x hx hR
theorem MSt.Ok.later {w w':World} {m:MSt} (h:m.Ok w) (hb:Below w.heap.size w w'):m.Ok w':=h.keep fun k hk=>hb.block k (h.lt k hk)
structure Link (m:MSt) (s:St):Prop where
 row:s.row=m.row.R
 live:s.live=m.live
 l:s.l.kid=m.k1.pk
 r:s.r.kid=m.k2.pk
 side:s.side=m.side
 old:s.old.kid=m.kid.pk
inductive Links:List MSt→List St→Prop
 | nil:Links [] []
 | cons {m:MSt} {s:St} {A:List MSt} {L:List St} (h:Link m s) (t:Links A L):Links (m::A) (s::L)
theorem Links.length {A:List MSt} {L:List St} (h:Links A L):A.length=L.length:=by
 induction h with
 | nil=>rfl
 | cons _ _ ih=>simp [ih]
theorem Links.append {A B:List MSt} {L M:List St} (h:Links A L) (h2:Links B M):Links (A++B) (L++M):=by
 induction h with
 | nil=>exact h2
 | cons h _ ih=>exact .cons h ih
theorem Links.take {A:List MSt} {L:List St} (h:Links A L):∀n,Links (A.take n) (L.take n):=by
 induction h with
 | nil=>intro n;simp;exact .nil
 | cons h _ ih=>
  intro n
  cases n with
  | zero=>exact .nil
  | succ n=>exact .cons h (ih n)
theorem Links.get {A:List MSt} {L:List St} (h:Links A L):∀(i:Nat) (s:St),L[i]? =some s→∃m,A[i]? =some m∧Link m s:=by
 induction h with
 | nil=>intro i s hs;simp at hs
 | cons h _ ih=>
  intro i s hs
  cases i with
  | zero=>
   simp only [List.getElem?_cons_zero,Option.some.injEq] at hs
   subst hs
   exact ⟨_,rfl,h⟩
  | succ i=>exact ih i s (by simpa using hs)
structure WayM (B:Nat) (w:World) (A:List MSt):Prop where
 each:∀m∈A,m.Ok w
 new:∀m∈A,B≤m.ge∧B≤m.gk
 part:A.Pairwise fun a b=>(¬a.reads b.ge∧¬a.reads b.gk)∧(¬(∃k,b.reads k∧(k=a.ge∨k=a.gk)))
theorem WayM.keep {B:Nat} {w w':World} {A:List MSt} (h:WayM B w A) (hk:∀m∈A,∀k,m.reads k→w'.heap[k]? =w.heap[k]?):WayM B w' A:=⟨fun m hm=>(h.each m hm).keep (hk m hm),h.new,h.part⟩
theorem WayM.later {B:Nat} {w w':World} {A:List MSt} (h:WayM B w A) (hb:Below w.heap.size w w'):WayM B w' A:=⟨fun m hm=>(h.each m hm).later hb,h.new,h.part⟩
theorem WayM.snoc {B:Nat} {w:World} {A:List MSt} {m:MSt} {N:Nat} (h:WayM B w A) (hm:m.Ok w) (hB:B≤N) (hlt:∀a∈A,∀k,a.reads k→k<N) (hnew:N≤m.ge∧N≤m.gk) (hr:∀a∈A,∀k,m.reads k→k≠a.ge∧k≠a.gk):WayM B w (A++[m]):=by
 refine ⟨fun x C=>?_,fun x C=>?_,?_⟩
 ·rcases List.mem_append.1 C with C | C
  ·exact h.each x C
  ·rw [List.mem_singleton.1 C];exact hm
 ·rcases List.mem_append.1 C with C | C
  ·exact h.new x C
  ·rw [List.mem_singleton.1 C];exact ⟨Nat.le_trans hB hnew.1,Nat.le_trans hB hnew.2⟩
 ·rw [List.pairwise_append]
  refine ⟨h.part,List.pairwise_singleton _ _,fun a ha b hb=>?_⟩
  rw [List.mem_singleton.1 hb]
  refine ⟨⟨fun e=>by have:=hlt a ha _ e;omega,fun e=>by have:=hlt a ha _ e;omega⟩,fun ⟨k,h1,h2⟩=>?_⟩
  obtain ⟨G,E⟩:=hr a ha k h1
  exact h2.elim G E
structure WaySt (B bw:Nat) (w:World) (v:Value) (A:List MSt):Prop where
 box:w.heap[bw]? =some (.cells #[v] 93 (0,0))
 own:w.ownsRow B 101 41 v A.length (A.flatMap MSt.cells)
 ne:v.ownBlock≠some bw
 way:WayM B w A
 aside:∀m∈A,∀k,m.reads k→k≠bw∧v.ownBlock≠some k
 low:B≤bw
theorem WaySt.later {B bw:Nat} {w w':World} {v:Value} {A:List MSt} (h:WaySt B bw w v A) (hb:Below w.heap.size w w'):WaySt B bw w' v A:=by
 refine ⟨(hb.block _ (yL h.box)).trans h.box,⟨h.own.1,h.own.2.imp id ?_⟩,h.ne,h.way.later hb,h.aside,h.low⟩
 rintro ⟨g,E,C,H,I,G,r⟩
 exact ⟨g,E,C,H,I,(hb.block _ (yL G)).trans G,r⟩
theorem y1K {B mid:Nat} {w:World} {ge gk ce ck:Nat} {e:En} {k1 k2:Kd} {k:Kd} (h:Fresh B mid w (some ⟨ge,0,none⟩) 1 ce (some ⟨gk,0,none⟩) 2 ck [e] [k1,k2]) (hk:k.Ok w) (hkr:∀r∈k.rows,∀x,r.p=some x→r.R≠[]→x.block<B) (side:Bool):(MSt.mk k ge ce gk ck e.row e.live k1 k2 side).Ok w∧B≤ge∧B≤gk∧∀j,(MSt.mk k ge ce gk ck e.row e.live k1 k2 side).reads j→B≤j∨∃r∈k.rows,∃x,r.p=some x∧r.R≠[]∧j=x.block:=by
 obtain ⟨-,-,i,l,A,a,m,M,N,Q,P,O,I,W⟩:=x1i h
 simp only [Option.some.injEq,Addr.mk.injEq,and_true] at A a
 subst A a
 have b:ge<mid:=h.low.1 ge rfl
 have G:∀ {t:TypeId} {sz n c g:Nat} {xs:List Value} {B:Nat},w.ownsRow B t sz (.slice (some ⟨g,0,none⟩) n c) n xs→w.there g 0 (n*sz)∧n≤c:=fun {t sz n c g xs B} ho=>by
  rcases ho.2 with ⟨L,_⟩ | ⟨q,o,f,L,_,Z,J,_,d,_⟩
  ·cases L
  ·simp only [Value.slice.injEq,Option.some.injEq,Addr.mk.injEq,and_true,true_and] at L
   obtain ⟨rfl,rfl⟩:=L
   refine ⟨fun j hj=>⟨?_,frozen_of_row w g _ _ _ Z⟩,J⟩
   rw [cell_of_row w g _ _ _ _ Z,Nat.zero_add,Array.getElem?_eq_getElem (by rw [d];exact Nat.lt_of_lt_of_le hj (Nat.mul_le_mul_right _ J))]
   rfl
 have X:=G h.ents.own
 have tK:=G h.kids.lst.own
 have Y:∀x,e.row.p=some x→e.row.R≠[]→B≤x.block∧x.block<mid∧x.block≠ge:=fun x C E=>by
  have A:=h.ents.each e (by simp) e.row (by simp [En.rows])
  exact ⟨A.1.lo x C E,h.low.2 e (by simp) e.row (by simp [En.rows]) x C E,fun e2=>A.2 x C E (by rw [e2];rfl)⟩
 have K:∀kk∈[k1,k2],∀r∈kk.rows,∀x,r.p=some x→r.R≠[]→mid≤x.block∧x.block≠gk:=fun kk hkk r H x C E=>by
  have A:=h.kids.lst.each kk hkk r H
  exact ⟨A.1.lo x C E,fun e2=>A.2 x C E (by rw [e2];rfl)⟩
 have U:=h.base
 refine ⟨⟨hk,m,X.1,M,N,tK.1,Q,P,O,⟨X.2,tK.2⟩,by simp only;omega,fun r H x C E=>?_⟩,I,by omega,fun j hj=>?_⟩
 ·simp only [MSt.rows,List.mem_append,List.mem_cons] at H
  rcases H with A | rfl | A | A
  ·have:=hkr r A x C E
   exact ⟨by simp only;omega,by simp only;omega⟩
  ·have:=Y x C E
   exact ⟨this.2.2,by simp only;omega⟩
  ·have:=K k1 (by simp) r A x C E
   exact ⟨by simp only;omega,this.2⟩
  ·have:=K k2 (by simp) r A x C E
   exact ⟨by simp only;omega,this.2⟩
 ·rcases hj with rfl | rfl | ⟨r,H,x,C,E,rfl⟩
  ·exact Or.inl I
  ·exact Or.inl (Nat.le_trans U W)
  ·simp only [MSt.rows,List.mem_append,List.mem_cons] at H
   rcases H with A | rfl | A | A
   ·exact Or.inr ⟨r,A,x,C,E,rfl⟩
   ·exact Or.inl (Y x C E).1
   ·have:=(K k1 (by simp) r A x C E).1
    exact Or.inl (by omega)
   ·have:=(K k2 (by simp) r A x C E).1
    exact Or.inl (by omega)
end Go.Proofs.YtinihaflmdihaaaGreat.Kt
namespace Go.Proofs.YtinihaflmdihaaaGreat.Kt
open Go.RowKit
theorem x5W (w:World):(w.alloc (.cells #[] 24)).ownsRow w.heap.size 24 1 (.slice (some ⟨w.heap.size,0,none⟩) 0 0) 0 []:=
 ⟨rfl,Or.inr ⟨w.heap.size,0,#[],rfl,Nat.le_refl _,heap_alloc_new w _,Nat.le_refl _,by unfold maxLen;omega,rfl,rfl⟩⟩
theorem x89 {w:World} {base n:Nat} {v:Value} {L:List Rw} (h:w.ownsRow base 24 1 v n (hds L)) (hn:1≤n):∃g c,v= .slice (some ⟨g,0,none⟩) n c∧n=L.length∧n≤c∧base≤g∧g<w.heap.size∧Seg w g 0 L:=by
 have G:n=L.length:=by have:=h.1;rw [x1Z,Nat.mul_one] at this;exact this.symm
 rcases h.2 with ⟨rfl,M⟩ | ⟨g,E,A,rfl,I,B,C,J,K,H⟩
 ·omega
 ·refine ⟨g,E,rfl,G,C,I,(yL B),fun j hj=>⟨?_,frozen_of_row w g _ _ _ B⟩⟩
  rw [Nat.zero_add,cell_of_row w g j A _ _ B]
  have e:(A.toList.take (n*1))[j]? =(hds L)[j]? :=by rw [H]
  rw [List.getElem?_take_of_lt (by omega)] at e
  simp only [hds,List.getElem?_map,List.getElem?_eq_getElem hj] at e
  rw [List.getD_eq_getElem?_getD,List.getElem?_eq_getElem hj]
  simpa using e
def x9h (w:World) (L:List Rw) (e:Ending) (w':World):Prop:=∃g c,e= .returned (.slice (some ⟨g,0,none⟩) L.length c)∧L.length≤c∧w.heap.size≤g∧g<w'.heap.size∧Seg w' g 0 L∧Below w.heap.size w w'
theorem x9i (p:Option Addr) (n c:Nat) (L:List Rw) (w:World) (h:RowsIn w p n c L) (h1:1≤n) (h8:n≤1048576):
  Calls Tryz.prog 76 #[.slice p n c] w (x9h w L):=by
 obtain ⟨U,W,rfl,-⟩:=h.cell 0 (by omega)
 obtain ⟨f,G,H,B,E⟩:=info_parts IRs
 have d:=yH G
 have R:=yH H
 have N:=yH B
 have Q:=yH E
 clear G H B E
 have A:Below w.heap.size w (w.alloc (.cells #[] 24)):=(Below.refl _ _).alloc (Nat.le_refl _) _
 have P:=yH (x5W w)
 have O:=yH A
 have M:=yH (y0C (h.later A) 0)
 have g:=yH h.size
 have K:=yH (show (hds (L.drop 0)).length=n*1 by rw [List.drop_zero,x1Z,← h.size,Nat.mul_one])
 have j:∀w',(binOp .eql 51 (.slice (some ⟨U,W,none⟩) n c) (.slice none 0 0)).run Tryz.prog w'= .ok (.bool false) w':=fun w'=>Go.Lib.run_eql_slice_nil w' _ _ _ _ _ _ _ URSs
 clear A h
 go_enter Tryz.func76,Tryz.ntmps76
 go_wp2_with ((at_builtin;(refine wpList_append_own_at _ (by rfl) (.tmp 5) (.tmp 6) 51 (by rfl) w.heap.size 24 f (.slice none 0 0) 1 24 URSs d.out R.out N.out Q.out (by rfl) (by decide) _ 0 [] (by rfl) P.out ⟨U,W+0,none⟩ n c (hds (L.drop 0)) (by rfl) K.out M.out (x1Q _) (by unfold maxLen;omega) (by omega) (by simp) ?_);intro v7 w7 hown7 hgrow7 _ _;have e:=yH hown7;have Z:=yH hgrow7;clear hown7 hgrow7))
 obtain ⟨b,X,rfl,Y,i,a,J,C⟩:=x89 (w:=w7) (base:=w.heap.size) (n:=n) (L:=L) (by have h:=e.out;rw [Nat.zero_add,List.nil_append,List.drop_zero] at h;exact h) h1
 have I:Below w.heap.size w w7:=O.out.grown Z.out (by simp) (fun k hk=>by simp [Value.ownBlock] at hk;omega)
 go_ret
 exact ⟨b,X,by rw [← Y];rfl,by omega,a,J,C,I⟩
end Go.Proofs.YtinihaflmdihaaaGreat.Kt
namespace Go.Proofs.YtinihaflmdihaaaGreat.Kt
open Go.RowKit Go.Proofs.YtinihaflmdihaaaGreat.Nd Go.Proofs.YtinihaflmdihaaaGreat.Dk Go.Proofs.YtinihaflmdihaaaGreat.Pg
def liveE (L:List Ent):List (List Int):=(L.filter fun e=>e.2.1).map (·.1)
theorem x1o (L M:List Ent):liveE (L++M)=liveE L++liveE M:=by simp [liveE]
structure ColAt (B b:Nat) (X:Nat→Prop) (L:List Ent) (w:World) (v:Value) (O:List Rw):Prop where
 row:w.heap[b]? =some (.cells #[v] 51 (0,0))
 own:w.ownsRow 0 24 1 v O.length (hds O)
 ok:∀r∈O,r.Ok w∧∀x,r.p=some x→r.R≠[]→¬X x.block∧B≤x.block
 are:O.map Rw.R=liveE L
 mine:∀k,X k↔k=b∨v.ownBlock=some k
 ne:v.ownBlock≠some b
 few:O.length≤1000000
def ColI (B b:Nat) (X:Nat→Prop) (L:List Ent) (w:World):Prop:=∃v O,ColAt B b X L w v O
theorem x41 {w w':World} {v:Value} {n:Nat} {xs:List Value} (h:w.ownsRow 0 24 1 v n xs) (hk:∀k,v.ownBlock=some k→w'.heap[k]? =w.heap[k]?):w'.ownsRow 0 24 1 v n xs:=by
 obtain ⟨G,E⟩:=h
 refine ⟨G,E.imp id ?_⟩
 rintro ⟨g,B,A,C,H,I,r⟩
 exact ⟨g,B,A,C,H,(hk g (by rw [C];rfl)).trans I,r⟩
theorem ColAt.lt {B b:Nat} {X:Nat→Prop} {L:List Ent} {w:World} {v:Value} {O:List Rw} (h:ColAt B b X L w v O):∀k,X k→k<w.heap.size:=fun k hk=>by
 rcases (h.mine k).1 hk with rfl | e
 ·exact (yL h.row)
 ·exact (h.own.lt k e).2
theorem ColAt.later {B b:Nat} {X:Nat→Prop} {L:List Ent} {w w':World} {v:Value} {O:List Rw} (h:ColAt B b X L w v O) (hb:Below w.heap.size w w'):ColAt B b X L w' v O:=
 ⟨(hb.block _ (yL h.row)).trans h.row,x41 h.own fun k e=>hb.block k (h.own.lt k e).2,fun r hr=>⟨(h.ok r hr).1.later hb,(h.ok r hr).2⟩,h.are,h.mine,h.ne,h.few⟩
theorem x5K {w:World} {b:Nat} {v v':Value} {t:TypeId} (h:w.heap[b]? =some (.cells #[v] t (0,0))):(w.setCell ⟨b,0,none⟩ v').heap[b]? =some (.cells #[v'] t (0,0)):=heap_setCell_same w b 0 _ _ v' h
theorem y5T {B b:Nat} (X:Nat→Prop) (L:List Ent) (w:World) (r:Rw) (lv:Bool) (t:Nat) (hi:ColI B b X L w) (hl:L.length≤100000) (hr:r.Ok w) (hx:∀x,r.p=some x→r.R≠[]→¬X x.block∧B≤x.block):
  Calls Tryz.prog 109 #[.agg #[r.val,.bool lv],.int .i64 t,.pointer (some ⟨b,0,none⟩)] w fun e w'=>e= .returned (.tuple #[])∧∃X',ColI B b X' (L++[(r.R,lv,t)]) w'∧(∀k,X' k→X k∨w.heap.size≤k)∧Only X w w':=by
 obtain ⟨v,O,u⟩:=hi
 have q:O.length≤L.length:=by
  have:=congrArg List.length u.are
  rw [List.length_map] at this
  rw [this]
  unfold liveE
  rw [List.length_map]
  exact List.length_filter_le _ _
 obtain ⟨H,E,I,rR⟩:=r
 unfold Rw.val
 simp only
 have b1:Below w.heap.size w (w.alloc (.cells #[.slice H E I,.bool lv] 85)):=(Below.refl _ _).alloc (Nat.le_refl _) _
 have r1:=heap_alloc_new w (.cells #[.slice H E I,.bool lv] 85)
 have s1:(w.alloc (.cells #[.slice H E I,.bool lv] 85)).heap.size=w.heap.size+1:=by simp
 have A:=yH (u.later b1)
 have AG:=yH u.lt
 have HR:=yH (hr.later b1)
 have HX:=yH hx
 have HL:=yH hl
 have Y:=yH q
 have B1:=yH b1
 obtain ⟨AA,n,o,f,g⟩:=info_parts IRs
 have HI:=yH n
 have A3:=yH o
 have A5:=yH f
 have AC:=yH g
 clear u hr hx hl q n o f g
 go_enter Tryz.func109,Tryz.ntmps109
 go_upto_region 1 with fail
 generalize w.alloc (.cells #[.slice H E I,.bool lv] 85)=w1 at *
 have c0:=cell_of_row w1 w.heap.size 0 _ _ _ r1
 have c1:=cell_of_row w1 w.heap.size 1 _ _ _ r1
 have A7:=yH s1
 clear r1 b1 s1
 cases lv with
 | false=>
  go_wp2_with fail
  go_end0
  exact ⟨rfl,X,⟨v,O,⟨A.out.row,A.out.own,A.out.ok,by rw [x1o,A.out.are];simp [liveE],A.out.mine,A.out.ne,A.out.few⟩⟩,fun k h=>Or.inl h,Only.of_below _ B1.out⟩
 | true=>
  have cb:=cell_of_row w1 b 0 _ _ _ A.out.row
  have HA:=yH (heap_alloc_new w1 (.cells #[.slice H E I] 24))
  have bA:Below w1.heap.size w1 (w1.alloc (.cells #[.slice H E I] 24)):=(Below.refl _ _).alloc (Nat.le_refl _) _
  have Z:(w1.alloc (.cells #[.slice H E I] 24)).ownsRow 0 24 1 v O.length (hds O):=x41 A.out.own fun k e=>bA.block k (A.out.own.lt k e).2
  have A0:=yH Z
  have G:=yH bA
  clear Z bA
  go_upto_region 2 with fail
  go_wp2_with ((at_builtin;refine wpList_append_own_at _ (by rfl) (.tmp 7) (.tmp 10) 51 (by rfl) 0 24 AA (.slice none 0 0) 1 24 URSs HI.out A3.out A5.out AC.out (by rfl) (by decide) _ O.length _ (by rfl) A0.out ⟨w1.heap.size,0,none⟩ 1 1 (hds [⟨H,E,I,rR⟩]) (by rfl) (by rfl) (x4A w1 H E I rR) (x1Q _) (by have W:=HL.out;have J:=Y.out;unfold maxLen;omega) (by have W:=HL.out;have J:=Y.out;omega) (Nat.zero_le _) ?_);intro v7 w7 hown7 hgrow7 _ hat7;obtain ⟨Q,U,rfl⟩:=x1E hown7;have AK:w7.cell? ⟨b,0,none⟩=some v:=(World.cell?_of_block ((hgrow7.block b (Nat.lt_of_lt_of_le (yL A.out.row) G.out.size) (fun e=>A.out.ne e.symm)).trans (G.out.block b (yL A.out.row)))).trans cb;have K:=yH (((hgrow7.block b (Nat.lt_of_lt_of_le (yL A.out.row) G.out.size) (fun e=>A.out.ne e.symm)).trans (G.out.block b (yL A.out.row))).trans A.out.row);have AN:=frozen_of_row w7 b 0 _ _ K.out;have O7:=yH hown7;have G7:=yH hgrow7;have c:=yH hat7;clear hown7 hgrow7 hat7)
  have AL:w1.heap.size+1≤w7.heap.size:=by have:=G7.out.size;simpa using this
  have A1:=x5K (v':=.slice Q (O.length+1) U) K.out
  have C:Only (fun k=>k=b) w7 (w7.setCell ⟨b,0,none⟩ (.slice Q (O.length+1) U)):=Only.setCell (P:=fun j=>j=b) w7 (a:=⟨b,0,none⟩) rfl _
  generalize w7.setCell ⟨b,0,none⟩ (.slice Q (O.length+1) U)=w8 at *
  go_end0
  have l:(Value.slice Q (O.length+1) U).ownBlock≠some b:=fun e=>by
   rcases c.out with h | h
   ·exact A.out.ne (h.symm.trans e)
   ·rw [h] at e
    have e:=Option.some.inj e
    have J:=(yL A.out.row)
    have h3:=G.out.size
    omega
  have AM:=G.out.size
  have N:∀k,(Value.slice Q (O.length+1) U).ownBlock=some k→v.ownBlock=some k∨w1.heap.size+1≤k:=fun k e=>by
   rcases c.out with h | h
   ·exact Or.inl (h.symm.trans e)
   ·rw [h] at e
    have e:=Option.some.inj e
    refine Or.inr ?_
    rw [← e]
    simp
  have M:Only X w1 w8:=by
   have z:=G7.out
   refine ⟨C.os.trans (z.os.trans G.out.os),C.tape.trans (z.tape.trans G.out.tape),C.output.trans (z.output.trans G.out.output),by have:=C.size;omega,fun k i hn=>?_⟩
   have A2:k≠b:=fun e=>hn ((A.out.mine k).2 (Or.inl e))
   rw [C.block k (by omega) A2,z.block k (by omega) (fun e=>hn ((A.out.mine k).2 (Or.inr e.symm)))]
   exact G.out.block k i
  have s:∀r:Rw,r.Ok w1→(∀x,r.p=some x→r.R≠[]→¬X x.block∧B≤x.block)→r.Ok w8:=fun r W J=>Nd.rw_keep W fun y hy hR=>M.block _ (rw_lt W y hy hR) (J y hy hR).1
  have d:=O7.out
  refine ⟨rfl,fun k=>k=b∨(Value.slice Q (O.length+1) U).ownBlock=some k,⟨.slice Q (O.length+1) U,O++[⟨H,E,I,rR⟩],⟨A1,?_,fun r hr=>?_,?_,fun k=>Iff.rfl,l,?_⟩⟩,fun k i=>?_,?_⟩
  ·rw [List.length_append,x0c]
   exact x41 d fun k e=>C.block k ((d.lt k e).2) (fun e2=>l (by rw [e,e2]))
  ·have m:∀r:Rw,r.Ok w1→(∀x,r.p=some x→r.R≠[]→¬X x.block∧B≤x.block)→∀x,r.p=some x→r.R≠[]→¬(x.block=b∨(Value.slice Q (O.length+1) U).ownBlock=some x.block)∧B≤x.block:=fun r W J x hx hR=>⟨fun h=>by
    rcases h with h | h
    ·exact (J x hx hR).1 ((A.out.mine _).2 (Or.inl h))
    ·rcases N _ h with h | h
     ·exact (J x hx hR).1 ((A.out.mine _).2 (Or.inr h))
     ·have:=rw_lt W x hx hR
      omega,(J x hx hR).2⟩
   rcases List.mem_append.1 hr with hr | hr
   ·exact ⟨s r (A.out.ok r hr).1 (A.out.ok r hr).2,m r (A.out.ok r hr).1 (A.out.ok r hr).2⟩
   ·rw [List.mem_singleton.1 hr]
    exact ⟨s _ HR.out HX.out,m _ HR.out HX.out⟩
  ·rw [List.map_append,A.out.are,x1o]
   rfl
  ·rw [List.length_append]
   have W:=HL.out
   have J:=Y.out
   simp only [List.length_cons,List.length_nil]
   omega
  ·rcases i with rfl | i
   ·exact Or.inl ((A.out.mine _).2 (Or.inl rfl))
   ·rcases N k i with h | h
    ·exact Or.inl ((A.out.mine _).2 (Or.inr h))
    ·have:=A7.out
     exact Or.inr (by omega)
  ·exact (Only.of_below X B1.out).trans M
theorem y4m {B b:Nat}:DoOk B 109 #[.pointer (some ⟨b,0,none⟩)] (ColI B b) where
 lt:=fun X L w ⟨v,O,h⟩=>h.lt
 later:=fun X L w w' ⟨v,O,h⟩ hb=>⟨v,O,h.later hb⟩
 run:=fun X L w r v t hi hr hx ht hl=>by
  have h:=y5T X L w r v t hi hl hr hx
  exact h
theorem x9j:∀args w,(callFunc 109 args).run Tryz.prog w= .ok (.enter 109 args) w:=enters_of Tryz.func109 (by kernel_rfl) rfl
def deepE (L:List Ent):Nat:=L.foldl (fun m e=>max m e.2.2) 0
theorem x9k (L:List Ent) (e:Ent):deepE (L++[e])=max (deepE L) e.2.2:=by simp [deepE]
def TopI (b:Nat) (X:Nat→Prop) (L:List Ent) (w:World):Prop:=w.heap[b]? =some (.cells #[.int .i64 (deepE L)] 3 (0,0))∧(∀k,X k↔k=b)
theorem topDo {b:Nat} (X:Nat→Prop) (L:List Ent) (w:World) (r:Rw) (lv:Bool) (t:Nat) (hi:TopI b X L w) (ht:t≤1000000000):
  Calls Tryz.prog 75 #[.agg #[r.val,.bool lv],.int .i64 t,.pointer (some ⟨b,0,none⟩)] w fun e w'=>e= .returned (.tuple #[])∧∃X',TopI b X' (L++[(r.R,lv,t)]) w'∧(∀k,X' k→X k∨w.heap.size≤k)∧Only X w w':=by
 obtain ⟨K,I⟩:=hi
 obtain ⟨H,E,J,M⟩:=r
 unfold Rw.val
 simp only
 have b1:Below w.heap.size w (w.alloc (.cells #[.slice H E J,.bool lv] 85)):=(Below.refl _ _).alloc (Nat.le_refl _) _
 have A:=yH (yK b1 K)
 have G:=yH I
 have B1:=yH b1
 have N:=yH (x9k L (M,lv,t))
 clear K I b1
 generalize deepE L=D at *
 go_enter Tryz.func75,Tryz.ntmps75
 go_upto_region 1 with fail
 generalize w.alloc (.cells #[.slice H E J,.bool lv] 85)=w1 at *
 have Q:=cell_of_row w1 b 0 _ _ _ A.out
 have O:=frozen_of_row w1 b 0 _ _ A.out
 go_wp2_with fail
 have C:=x5K (v':=.int .i64 (max (D:Int) t)) A.out
 have B:Only (fun k=>k=b) w1 (w1.setCell ⟨b,0,none⟩ (.int .i64 (max (D:Int) t))):=Only.setCell (P:=fun j=>j=b) w1 (a:=⟨b,0,none⟩) rfl _
 go_end0
 refine ⟨rfl,X,⟨?_,G.out⟩,fun k h=>Or.inl h,(Only.of_below X B1.out).trans (B.mono fun k e=>(G.out k).2 e)⟩
 rw [N.out]
 have e:((max D t:Nat):Int)=max (D:Int) t:=by omega
 rw [e]
 exact C
theorem y5U {B b:Nat}:DoOk B 75 #[.pointer (some ⟨b,0,none⟩)] (TopI b) where
 lt:=fun X L w ⟨h,hm⟩ k hk=>by
  rw [(hm k).1 hk]
  exact (yL h)
 later:=fun X L w w' ⟨h,hm⟩ hb=>⟨(hb.block _ (yL h)).trans h,hm⟩
 run:=fun X L w r v t hi hr hx ht hl=>by
  have h:=topDo X L w r v t hi ht
  exact h
theorem y1L:∀args w,(callFunc 75 args).run Tryz.prog w= .ok (.enter 75 args) w:=enters_of Tryz.func75 (by kernel_rfl) rfl
theorem UWy:Tryz.prog.underlying 93=some (.slice 101):=by kernel_rfl
def sp0:List Value:=kd0.cells++[.int .u8 0,.slice none 0 0,.slice none 0 0,.int .i64 0]
theorem ISp:(Tryz.prog.info? 101).map (fun i=>(i.zero,i.size,i.bytes))=some (some (.agg sp0.toArray),41,184):=by kernel_rfl
theorem USp0:(Tryz.prog.underlying 101).map (·.isRow)=some true:=by kernel_rfl
theorem USp:∃d,Tryz.prog.underlying 101=some d∧d.isRow=true:=by
 have h:=USp0
 revert h
 cases Tryz.prog.underlying 101 with
 | none=>intro h;cases h
 | some d=>intro h;exact ⟨d,rfl,by simpa using h⟩
theorem SSp:(Tryz.prog.info? 101).map (·.size)=some 41:=by kernel_rfl
theorem x7W (ge gk:Nat) (ce ck:Nat):Tryz.prog.built 101 [(1,.agg #[.int .u8 1,.slice (some ⟨ge,0,none⟩) 1 ce,.slice (some ⟨gk,0,none⟩) 2 ck])]=some (kd0.cells++[Value.int .u8 1,.slice (some ⟨ge,0,none⟩) 1 ce,.slice (some ⟨gk,0,none⟩) 2 ck,.int .i64 0]).toArray:=by kernel_rfl
theorem y1M (q1 q2 q3:Option Addr) (m1 c1 m2 c2 m3 c3:Nat) (x y:Int) (ge gk ce ck:Nat):∀(D:List Nat),D.length=32→Tryz.prog.built 101 [(0,.agg (vals D++[Value.slice q1 m1 c1,.slice q2 m2 c2,.int .i64 x,.int .i64 y,.slice q3 m3 c3]).toArray),(1,.agg #[.int .u8 1,.slice (some ⟨ge,0,none⟩) 1 ce,.slice (some ⟨gk,0,none⟩) 2 ck])]=some ((vals D++[Value.slice q1 m1 c1,.slice q2 m2 c2,.int .i64 x,.int .i64 y,.slice q3 m3 c3])++[Value.int .u8 1,.slice (some ⟨ge,0,none⟩) 1 ce,.slice (some ⟨gk,0,none⟩) 2 ck,.int .i64 0]).toArray
 |[a0,a1,a2,a3,a4,a5,a6,a7,a8,a9,a10,a11,a12,a13,a14,a15,a16,a17,a18,a19,a20,a21,a22,a23,a24,a25,a26,a27,a28,a29,a30,a31],_=>by kernel_rfl
theorem y4n (q1 q2 q3:Option Addr) (m1 c1 m2 c2 m3 c3:Nat) (x y z:Int) (ge gk ce ck:Nat):∀(D:List Nat),D.length=32→Instr.fill (fun i=>some (i*41,41)) ((Array.range (1*41)).map ((Value.agg sp0.toArray).cells[·%(Value.agg sp0.toArray).cells.size]!)) [(0,.agg ((vals D++[Value.slice q1 m1 c1,.slice q2 m2 c2,.int .i64 x,.int .i64 y,.slice q3 m3 c3])++[Value.int .u8 1,.slice (some ⟨ge,0,none⟩) 1 ce,.slice (some ⟨gk,0,none⟩) 2 ck,.int .i64 z]).toArray)]=some ((vals D++[Value.slice q1 m1 c1,.slice q2 m2 c2,.int .i64 x,.int .i64 y,.slice q3 m3 c3])++[Value.int .u8 1,.slice (some ⟨ge,0,none⟩) 1 ce,.slice (some ⟨gk,0,none⟩) 2 ck,.int .i64 z]).toArray
 |[a0,a1,a2,a3,a4,a5,a6,a7,a8,a9,a10,a11,a12,a13,a14,a15,a16,a17,a18,a19,a20,a21,a22,a23,a24,a25,a26,a27,a28,a29,a30,a31],_=>by kernel_rfl
theorem x0y {w:World} {o:Oper} {a:Act} {K:Act→World→Prop} {Q:Exit→Act→World→Prop} (x:Operand) (ho:o.op= .buildSlice 93 1 #[(0,x)]) {m:MSt} (hm:m.kid.sum.length=32) (hx:a.eval x= .agg m.cells.toArray)
  (h:K (a.put o.dst (.slice (some ⟨w.heap.size,0,none⟩) 1 1)) (w.alloc (.cells m.cells.toArray 101))):o.wp Tryz.prog a w K Q:=by
 obtain ⟨i,E,B,A,C⟩:=info_parts ISp
 refine wp_buildSlice 93 101 1 #[(0,x)] ho m.cells.toArray i _ UWy E B (by rw [A];omega) (by rw [A];omega) ?_ h
 rw [A]
 simp only [List.map_toArray,List.map_cons,List.map_nil,hx]
 exact y4n _ _ _ _ _ _ _ _ _ _ _ _ _ _ _ _ m.kid.sum hm
theorem MSt.one {m:MSt}:∀u∈m.cells,u.oneCell'=true:=by
 intro u A
 unfold MSt.cells at A
 rcases List.mem_append.1 A with A | A
 ·exact Kd.one u A
 ·simp only [List.mem_cons,List.not_mem_nil,or_false] at A
  rcases A with rfl | rfl | rfl | rfl<;>rfl
theorem y1N (w:World) (m:MSt):∀j u,m.cells[j]? =some u→(w.alloc (.cells m.cells.toArray 101)).cell? ((⟨w.heap.size,0,none⟩:Addr).add j)=some u:=fun j u hu=>by
 rw [Addr.add_mid,Nat.zero_add,cell_of_row _ w.heap.size j _ _ _ (heap_alloc_new w _)]
 simpa using hu
theorem x0z {B bw:Nat} {w:World} {v:Value} {A:List MSt} {m:MSt} (h:WaySt B bw w v A) (hm:m.kid.sum.length=32) {o:Oper} {a:Act} {K:Act→World→Prop} {Q:Exit→Act→World→Prop} (s x:Operand)
  (ho:o.op= .call {callee:=.builtin .append,args:= #[s,x],argTypes:= #[93,93]}) (hs:a.eval s=v) (hx:a.eval x= .slice (some ⟨w.heap.size,0,none⟩) 1 1) (hlen:A.length≤100000)
  (hK:∀q c w',w'.ownsRow B 101 41 (.slice q (A.length+1) c) (A.length+1) ((A++[m]).flatMap MSt.cells)→(w.alloc (.cells m.cells.toArray 101)).grownBy w' v.ownBlock→((Value.slice q (A.length+1) c).ownBlock=v.ownBlock∨(Value.slice q (A.length+1) c).ownBlock=some (w.heap.size+1))→K (a.put o.dst (.slice q (A.length+1) c)) w'):o.wp Tryz.prog a (w.alloc (.cells m.cells.toArray 101)) K Q:=by
 obtain ⟨i,I,C,E,H⟩:=info_parts ISp
 have J:Below w.heap.size w (w.alloc (.cells m.cells.toArray 101)):=(Below.refl _ _).alloc (Nat.le_refl _) _
 have G:=(h.later J).own
 refine x0N s x 93 ho B 101 i _ 41 184 UWy I C E H (by rfl) (by decide) v A.length _ hs G ⟨w.heap.size,0,none⟩ 1 1 m.cells hx (by rw [MSt.cells_length hm]) (y1N w m) MSt.one (by unfold maxLen;omega) (by omega) (by have:=h.low;have:=(yL h.box);simp;omega) fun v' w' h1 h2 h3=>?_
 obtain ⟨q,c,rfl⟩:=x1E h1
 refine hK q c w' (by rw [List.flatMap_append];simpa using h1) h2 ?_
 simpa using h3
theorem x38 {B bw:Nat} {w w':World} {v:Value} {A:List MSt} {m:MSt} {q:Option Addr} {c:Nat} (h:WaySt B bw w v A) (hm:m.Ok w) (hlt:B≤w.heap.size) (ho:w'.ownsRow B 101 41 (.slice q (A.length+1) c) (A.length+1) ((A++[m]).flatMap MSt.cells)) (hg:(w.alloc (.cells m.cells.toArray 101)).grownBy w' v.ownBlock) (hat:(Value.slice q (A.length+1) c).ownBlock=v.ownBlock∨(Value.slice q (A.length+1) c).ownBlock=some (w.heap.size+1))
  (hnew:WayM B w (A++[m])) (hx:∀k,m.reads k→k≠bw∧v.ownBlock≠some k):
  WaySt B bw (w'.setCell ⟨bw,0,none⟩ (.slice q (A.length+1) c)) (.slice q (A.length+1) c) (A++[m])∧Only (fun k=>k=bw∨v.ownBlock=some k) w (w'.setCell ⟨bw,0,none⟩ (.slice q (A.length+1) c))∧w'.heap[bw]? =some (.cells #[v] 93 (0,0)):=by
 have H:Below w.heap.size w (w.alloc (.cells m.cells.toArray 101)):=(Below.refl _ _).alloc (Nat.le_refl _) _
 have J:=(yL h.box)
 have I:w'.heap[bw]? =some (.cells #[v] 93 (0,0)):=(hg.block bw (Nat.lt_of_lt_of_le J H.size) (fun e=>h.ne e.symm)).trans ((H.block bw J).trans h.box)
 have L:(Value.slice q (A.length+1) c).ownBlock≠some bw:=fun e=>by
  rcases hat with E | E
  ·exact h.ne (E.symm.trans e)
  ·rw [E] at e
   have:=Option.some.inj e
   omega
 have G:Only (fun k=>k=bw) w' (w'.setCell ⟨bw,0,none⟩ (.slice q (A.length+1) c)):=Only.setCell (P:=fun j=>j=bw) w' (a:=⟨bw,0,none⟩) rfl _
 have K:Only (fun k=>k=bw∨v.ownBlock=some k) w (w'.setCell ⟨bw,0,none⟩ (.slice q (A.length+1) c)):=
  ⟨G.os.trans (hg.os.trans H.os),G.tape.trans (hg.tape.trans H.tape),G.output.trans (hg.output.trans H.output),Nat.le_trans H.size (Nat.le_trans hg.size G.size),fun k hk hn=>
   (G.block k (Nat.lt_of_lt_of_le hk (Nat.le_trans H.size hg.size)) (fun e=>hn (Or.inl e))).trans ((hg.block k (Nat.lt_of_lt_of_le hk H.size) (fun e=>hn (Or.inr e.symm))).trans (H.block k hk))⟩
 have C:∀x∈A++[m],∀k,x.reads k→k≠bw∧v.ownBlock≠some k:=fun x hx' k hk=>by
  rcases List.mem_append.1 hx' with E | E
  ·exact h.aside x E k hk
  ·rw [List.mem_singleton.1 E] at hk
   exact hx k hk
 refine ⟨⟨x5K I,?_,L,hnew.keep fun x hx' k hk=>K.block k ((hnew.each x hx').lt k hk) (fun e=>e.elim (C x hx' k hk).1 (C x hx' k hk).2),fun x hx' k hk=>⟨(C x hx' k hk).1,fun e=>?_⟩,h.low⟩,K,I⟩
 ·obtain ⟨E,U⟩:=ho
  rw [List.length_append]
  refine ⟨E,U.imp id ?_⟩
  rintro ⟨g,O,N,Q,M,R,r⟩
  refine ⟨g,O,N,Q,M,(G.block g (yL R) (fun e=>L (by rw [Q,← e];rfl))).trans R,r⟩
 ·rcases hat with E | E
  ·exact (C x hx' k hk).2 (E.symm.trans e)
  ·rw [E] at e
   have:=Option.some.inj e
   have:=(hnew.each x hx').lt k hk
   omega
end Go.Proofs.YtinihaflmdihaaaGreat.Kt
namespace Go.Proofs.YtinihaflmdihaaaGreat.Kt
open Go.RowKit Go.Proofs.YtinihaflmdihaaaGreat.Nd Go.Proofs.YtinihaflmdihaaaGreat.Dk Go.Proofs.YtinihaflmdihaaaGreat.Pg
open List renaming setIfInBounds_toArray → yA, set_cons_zero → yB, set_cons_succ → yC
def x3Y (bw:Nat) (v:Value) (A:List MSt) (r:Rw):Prop:=∀x,r.p=some x→r.R≠[]→x.block≠bw∧v.ownBlock≠some x.block∧∀a∈A,x.block≠a.ge∧x.block≠a.gk
def FarK (X:List Rw) (w:World) (m:MSt):Prop:=∀j,m.reads j→w.heap.size≤j∨∃r∈X,∃x,r.p=some x∧r.R≠[]∧j=x.block
def Met (B bw:Nat) (w:World) (v:Value) (A:List MSt) (s:St) (X:List Rw) (w':World) (m:MSt):Prop:=∃v',WaySt B bw w' v' (A++[m])∧Link m s∧Only (fun k=>k=bw∨v.ownBlock=some k) w w'∧(v'.ownBlock=v.ownBlock∨∃k,v'.ownBlock=some k∧w.heap.size≤k)∧w.heap.size≤m.ge∧w.heap.size≤m.gk∧FarK X w m
theorem spz:(Tryz.prog.info? 101).map (fun i=>(i.zero,i.size))=some (some (.agg sp0.toArray),41):=by kernel_rfl
theorem y32:sp0.length=41:=rfl
theorem x9l (p:Option Addr) (n c:Nat):Tryz.prog.built 85 [(0,.slice p n c)]=some #[.slice p n c,.bool false]:=by kernel_rfl
theorem x0w {r:Rw} (h:r∈kd0.rows):r.p=none:=by
 simp only [Kd.rows,kd0,List.mem_cons,List.not_mem_nil,or_false] at h
 rcases h with rfl | rfl | rfl<;>rfl
theorem x8x {w:World} {ge gk:Nat} {r:Rw} (he:w.heap[ge]? =some (.cells #[r.val,.bool false] 85 (0,0))) (hk:w.heap[gk]? =some (.cells (kd0.cells++kd0.cells).toArray 34 (0,0))) (hn:ge≠gk) (hr:r.Ok w) (ha:∀x,r.p=some x→r.R≠[]→x.block≠ge∧x.block≠gk):(MSt.mk kd0 ge 1 gk 2 r false kd0 kd0 false).Ok w:=by
 have C:∀ {g n:Nat} {cs:Array Value} {t:TypeId},w.heap[g]? =some (.cells cs t (0,0))→n≤cs.size→w.there g 0 n:=fun {g n cs t} hh hle j hj=>by
  refine ⟨?_,frozen_of_row w g _ _ _ hh⟩
  rw [cell_of_row w g _ _ _ _ hh,Nat.zero_add,Array.getElem?_eq_getElem (Nat.lt_of_lt_of_le hj hle)]
  rfl
 refine ⟨x1u w,x09 he,C he (by simp),fun j u A=>?_,fun j u A=>?_,C hk (by rw [List.size_toArray,List.length_append,x01];exact Nat.le_refl _),hr,x1u w,x1u w,⟨Nat.le_refl _,Nat.le_refl _⟩,hn,fun x hx y hy hR=>?_⟩
 ·have A:kd0.cells[j]? =some u:=A
  rw [Nat.zero_add,cell_of_row w gk j _ _ _ hk]
  simp only [List.getElem?_toArray]
  rw [List.getElem?_append_left (List.getElem?_eq_some_iff.1 A).1]
  exact A
 ·have A:kd0.cells[j]? =some u:=A
  rw [cell_of_row w gk _ _ _ _ hk]
  simp only [List.getElem?_toArray]
  rw [List.getElem?_append_right (by rw [x01];omega),x01,Nat.add_sub_cancel_left]
  exact A
 ·simp only [MSt.rows,List.mem_append,List.mem_cons] at hx
  rcases hx with B | rfl | B | B
  ·rw [x0w B] at hy;cases hy
  ·exact ha y hy hR
  ·rw [x0w B] at hy;cases hy
  ·rw [x0w B] at hy;cases hy
theorem x26 {ge ce gk ck:Nat} {r:Rw} {v:Bool} {k a b:Nat} (h:(MSt.mk kd0 ge ce gk ck r v kd0 kd0 false).reads k) (h1:(k=ge∨k=gk)→k≠a∧k≠b) (h2:∀y,r.p=some y→r.R≠[]→y.block≠a∧y.block≠b):k≠a∧k≠b:=by
 rcases h with h | h | ⟨x,C,y,A,E,rfl⟩
 ·exact h1 (Or.inl h)
 ·exact h1 (Or.inr h)
 ·simp only [MSt.rows,List.mem_append,List.mem_cons] at C
  rcases C with B | rfl | B | B
  ·rw [x0w B] at A;cases A
  ·exact h2 y A E
  ·rw [x0w B] at A;cases A
  ·rw [x0w B] at A;cases A
theorem x8A {ge ce gk ck:Nat} {r:Rw} {v:Bool} {w:World} (h:w.heap.size≤ge∧w.heap.size≤gk):FarK [r] w (MSt.mk kd0 ge ce gk ck r v kd0 kd0 false):=fun j hj=>by
 rcases hj with rfl | rfl | ⟨x,hx,y,hy,hR,rfl⟩
 ·exact Or.inl h.1
 ·exact Or.inl h.2
 ·simp only [MSt.rows,List.mem_append,List.mem_cons] at hx
  rcases hx with h3 | rfl | h3 | h3
  ·rw [x0w h3] at hy;cases hy
  ·exact Or.inr ⟨x,by simp,y,hy,hR,rfl⟩
  ·rw [x0w h3] at hy;cases hy
  ·rw [x0w h3] at hy;cases hy
theorem x1t {ge ce gk ck:Nat} {r:Rw} {v:Bool} {k bw:Nat} {u:Value} (h:(MSt.mk kd0 ge ce gk ck r v kd0 kd0 false).reads k) (h1:(k=ge∨k=gk)→k≠bw∧u.ownBlock≠some k) (h2:∀y,r.p=some y→r.R≠[]→y.block≠bw∧u.ownBlock≠some y.block):k≠bw∧u.ownBlock≠some k:=by
 rcases h with h | h | ⟨x,C,y,A,E,rfl⟩
 ·exact h1 (Or.inl h)
 ·exact h1 (Or.inr h)
 ·simp only [MSt.rows,List.mem_append,List.mem_cons] at C
  rcases C with B | rfl | B | B
  ·rw [x0w B] at A;cases A
  ·exact h2 y A E
  ·rw [x0w B] at A;cases A
  ·rw [x0w B] at A;cases A
theorem y33 {g:Nat} (d:Int) (ga oa:Nat) (wp p:Option Addr) (n c:Nat) (w:World) (hg:x5F (some ⟨g,0,none⟩) d ga oa 21 w):
  Calls Tryz.prog 152 #[.agg #[.pointer (some ⟨g,0,none⟩),.int .i64 d],.pointer wp,.pointer (some ⟨ga,oa,none⟩),.slice p n c] w fun e w'=>e= .returned (.tuple #[.pointer none,.int .i64 21])∧Below w.heap.size w w':=by
 have b1:Below w.heap.size w (w.alloc (.cells #[.pointer (some ⟨g,0,none⟩),.int .i64 d] 91)):=(Below.refl _ _).alloc (Nat.le_refl _) _
 have J:=heap_alloc_new w (.cells #[.pointer (some ⟨g,0,none⟩),.int .i64 d] 91)
 have L:=yH (hg _ b1)
 have N:=yH (x09 J)
 have B1:=yH b1
 obtain ⟨O,C,B⟩:=UTr
 have G:=yH C
 have H:=yH B
 clear hg b1 J C B
 go_enter Tryz.func152,Tryz.ntmps152
 go_upto_region 1 with fail
 generalize w.alloc (.cells #[.pointer (some ⟨g,0,none⟩),.int .i64 d] 91)=w1 at *
 go_upto_region 2 with (first
  | (refine wpList_load_mid (by rfl) 91 _ (by rfl) w.heap.size 0 (by rfl) [.pointer (some ⟨g,0,none⟩),.int .i64 d] O N.out G.out H.out STr ?_)
  | (go_at_call 120;refine L.out.mono ?_;rintro _ A ⟨rfl,I⟩;have K:=yH (B1.out.trans (I.mono B1.out.size));clear I)
  | (refine wpList_store_row (by rfl) 81 (.tmp 10) _ (by rfl) A.heap.size #[.int .u8 0,.slice none 0 0,.slice none 0 0] (by rfl) (by rfl) _ _ (heap_alloc_new A _) SNo rfl x25 ?_))
 have E:Below A.heap.size A ((A.alloc (.cells #[.int .u8 0,.slice none 0 0,.slice none 0 0] 81)).setRow A.heap.size #[.int .u8 0,.slice none 0 0,.slice none 0 0]):=Below.setRow ((Below.refl _ _).alloc (Nat.le_refl _) _) (Nat.le_refl _) _
 generalize (A.alloc (.cells #[.int .u8 0,.slice none 0 0,.slice none 0 0] 81)).setRow A.heap.size #[.int .u8 0,.slice none 0 0,.slice none 0 0]=w4 at *
 have M:=yH (K.out.trans (E.mono K.out.size))
 clear E
 go_wp2_with fail
 go_ret2
 exact ⟨rfl,M.out⟩
theorem y34 {g B bw:Nat} {v:Value} {A:List MSt} (d:Int) (ga oa:Nat) (r:Rw) (w:World) (hg:x5F (some ⟨g,0,none⟩) d ga oa 0 w) (hw:WaySt B bw w v A) (hB:B≤w.heap.size) (hr:r.Ok w) (ha:x3Y bw v A r) (hA:A.length≤100000):
  Calls Tryz.prog 152 #[.agg #[.pointer (some ⟨g,0,none⟩),.int .i64 d],.pointer (some ⟨bw,0,none⟩),.pointer (some ⟨ga,oa,none⟩),r.val] w fun e w'=>e= .returned (.tuple #[.pointer none,.int .i64 0])∧∃m,Met B bw w v A ⟨r.R,false,.nil,.nil,false,.nil⟩ [r] w' m:=by
 have b1:Below w.heap.size w (w.alloc (.cells #[.pointer (some ⟨g,0,none⟩),.int .i64 d] 91)):=(Below.refl _ _).alloc (Nat.le_refl _) _
 have r1:=heap_alloc_new w (.cells #[.pointer (some ⟨g,0,none⟩),.int .i64 d] 91)
 have HG:=yH (hg _ b1)
 have R1:=yH (x09 r1)
 have B1:=yH b1
 have HW:=yH hw
 have j:=yH hB
 have HR:=yH hr
 have Q:=yH ha
 have HA:=yH hA
 obtain ⟨f,c,i,l⟩:=r
 unfold Rw.val
 simp only
 obtain ⟨du,A7,A6⟩:=UTr
 have AE:=yH A7
 have AG:=yH A6
 clear hg hw hB hr ha hA b1 r1 A7 A6
 go_enter Tryz.func152,Tryz.ntmps152
 go_upto_region 1 with fail
 generalize w.alloc (.cells #[.pointer (some ⟨g,0,none⟩),.int .i64 d] 91)=w1 at *
 go_upto_region 2 with (first
  | (refine wpList_load_mid (by rfl) 91 _ (by rfl) w.heap.size 0 (by rfl) [.pointer (some ⟨g,0,none⟩),.int .i64 d] du R1.out AE.out AG.out STr ?_)
  | (go_at_call 120;refine HG.out.mono ?_;rintro _ w3 ⟨rfl,b3⟩;have B3:=yH (B1.out.trans (b3.mono B1.out.size));clear b3)
  | (refine wpList_store_row (by rfl) 81 (.tmp 10) _ (by rfl) w3.heap.size #[.int .u8 0,.slice none 0 0,.slice none 0 0] (by rfl) (by rfl) _ _ (heap_alloc_new w3 _) SNo rfl x25 ?_;rw [x04]))
 have AB:Below w3.heap.size w3 (w3.alloc (.cells #[.int .u8 0,.slice none 0 0,.slice none 0 0] 81)):=(Below.refl _ _).alloc (Nat.le_refl _) _
 have A5:=heap_alloc_new w3 (.cells #[.int .u8 0,.slice none 0 0,.slice none 0 0] 81)
 generalize w3.alloc (.cells #[.int .u8 0,.slice none 0 0,.slice none 0 0] 81)=w4 at *
 have B4:=yH (B3.out.trans (AB.mono B3.out.size))
 have c0:=cell_of_row w4 w3.heap.size 0 _ _ _ A5
 clear AB A5
 go_upto_region 5 with fail
 clear c0
 have AI:=yH (HW.out.later B4.out)
 have AF:=yH (HR.out.later B4.out)
 refine wp_region_held_drew (S:=fun _=>True) (by kernel_rfl) (trivial) (fun hHeld=>?_)
 have E:=yH (AI.out.later (Below.refl _ _).drew)
 have U:=yH (B4.out.trans ((Below.refl _ _).drew.mono B4.out.size))
 have P:=yH (AF.out.later (Below.refl _ _).drew)
 generalize w4.drew=x0 at *
 refine tK 0 ?_
 refine tK 1 ?_
 refine tK 2 ?_
 refine tK 4 ?_
 refine tQ 5 ?_ ?_ ?_
 rotate_left
 ·intro w' hSw
  refine Eq.trans (b:=Result.ok (Next.value (.agg #[.slice f c i,.bool false])) w') ?_ ?_
  ·apply x0t (t:=85) (parts:= #[(0,.tmp 30)])
   ·rfl
   ·simp only [List.map_toArray,List.map_cons,List.map_nil]
    exact x9l _ _ _
  ·with_reducible rfl
 refine tQ 6 ?_ ?_ ?_
 rotate_left
 ·intro w' hSw
  refine Eq.trans (b:=Result.ok (Next.value (.agg kd0.cells.toArray)) w') ?_ ?_
  ·apply x0t (t:=34) (parts:= #[])
   ·rfl
   ·simp only [List.map_toArray,List.map_nil]
    exact x0T
  ·with_reducible rfl
 refine tQ 7 ?_ ?_ ?_
 rotate_left
 ·intro w' hSw
  refine Eq.trans (b:=Result.ok (Next.value (.agg kd0.cells.toArray)) w') ?_ ?_
  ·apply x0t (t:=34) (parts:= #[])
   ·rfl
   ·simp only [List.map_toArray,List.map_nil]
    exact x0T
  ·with_reducible rfl
 refine rY [3,8] ?_
 refine rC (fun K C=>?_) (rC (fun K C=>?_) AllReadyH.nil)
 ·
  have q:x0.cell? ⟨bw,0,none⟩=some v:=cell_of_row x0 bw 0 _ _ _ E.out.box
  go_simp
  refine C.out _ _ trivial (fun hHeld=>?_)
  clear C K
  try simp only [Act.put,yA,yB,yC]
  refine rO 8 fun K C=>?_
  go_simp
  refine (x6W ⟨f,c,i,l⟩ false kd0 kd0 x0 P.out (x1u _) (x1u _)).mono ?_
  rintro _ x1 ⟨W,Z,rfl,hE,C,hb,he,M,x,s⟩
  have L:=yH (E.out.later hb)
  have O:=yH (U.out.trans (hb.mono U.out.size))
  have u:=yH (P.out.later hb)
  have HM:=yH (show (MSt.mk kd0 W 1 Z 2 ⟨f,c,i,l⟩ false kd0 kd0 false).Ok x1 from x8x he M (by omega) u.out (fun z hz hR=>by have:=rw_lt P.out z hz hR;omega))
  have I:=yH (show x0.heap.size≤W∧W<Z from ⟨x,s⟩)
  have H:=yH (show w.heap.size≤W∧w.heap.size≤Z by have:=U.out.size;omega)
  clear hE C hb he M x s
  try go_wp2_with fail
  refine C.out _ _ trivial (fun hHeld=>?_)
  clear C K
  try simp only [Act.put,yA,yB,yC]
  refine tQ 9 ?_ ?_ ?_
  rotate_left
  ·intro w' hSw
   refine Eq.trans (b:=Result.ok (Next.value (.agg (MSt.mk kd0 W 1 Z 2 ⟨f,c,i,l⟩ false kd0 kd0 false).cells.toArray)) w') ?_ ?_
   ·apply x0t (t:=101) (parts:= #[(1,.tmp 34)])
    ·rfl
    ·simp only [List.map_toArray,List.map_cons,List.map_nil]
     exact x7W _ _ _ _
   ·with_reducible rfl
  refine rO 10 fun K C=>?_
  refine x0y (.tmp 35) (by rfl) (m:=MSt.mk kd0 W 1 Z 2 ⟨f,c,i,l⟩ false kd0 kd0 false) (by simp [kd0,zeros]) (by rfl) ?_
  refine C.out _ _ trivial (fun hHeld=>?_)
  clear C K
  try simp only [Act.put,yA,yB,yC]
  refine rO 11 fun K C=>?_
  refine x0z L.out (m:=MSt.mk kd0 W 1 Z 2 ⟨f,c,i,l⟩ false kd0 kd0 false) (by simp [kd0,zeros]) (.tmp 29) (.tmp 36) (by rfl) (by rfl) (by rfl) HA.out ?_
  intro q7 c7 w7 hown7 hg7 hat7
  refine C.out _ _ trivial (fun hHeld=>?_)
  clear C K
  try simp only [Act.put,yA,yB,yC]
  have p:=U.out.size
  obtain ⟨Y,G,J⟩:=x38 L.out HM.out (by have:=j.out;have:=O.out.size;omega) hown7 hg7 hat7 (L.out.way.snoc HM.out (N:=x0.heap.size) (by have:=j.out;omega) (fun a ha k M=>by have:=(E.out.way.each a ha).lt k M;omega) (by have:=I.out;exact ⟨this.1,Nat.le_trans this.1 (Nat.le_of_lt this.2)⟩) (fun a ha k M=>x26 M (fun e=>by have:=(E.out.way.each a ha).lt _ (Or.inl rfl);have:=(E.out.way.each a ha).lt _ (Or.inr (Or.inl rfl));have:=I.out;omega) (fun y hy hR=>(Q.out y hy hR).2.2 a ha))) (fun k M=>x1t M (fun e=>⟨fun e2=>by have:=(yL E.out.box);have:=I.out;omega,fun e2=>by have:=(E.out.own.lt _ e2).2;have:=I.out;omega⟩) (fun y hy hR=>⟨(Q.out y hy hR).1,(Q.out y hy hR).2.1⟩))
  have n:=yH Y
  have A0:=yH G
  have X:=yH J
  have o:=yH hat7
  clear Y G J hown7 hg7 hat7 p
  refine tK 12 ?_
  refine rO 13 fun K C=>?_
  have q:w7.cell? ⟨bw,0,none⟩=some v:=cell_of_row w7 bw 0 _ _ _ X.out
  have AA:=frozen_of_row w7 bw 0 _ _ X.out
  go_simp
  refine C.out _ _ trivial (fun hHeld=>?_)
  clear C K
  try simp only [Act.put,yA,yB,yC]
  refine wpAnyH_done (by kernel_rfl) ?_ _
  generalize w7.setCell ⟨bw,0,none⟩ (.slice q7 (A.length+1) c7)=w8 at *
  go_wp2_with fail
  go_ret2
  refine ⟨rfl,_,_,n.out,⟨rfl,rfl,rfl,rfl,rfl,rfl⟩,(Only.of_below _ O.out).trans A0.out,?_,H.out.1,H.out.2,x8A H.out⟩
  rcases o.out with h | h
  ·exact Or.inl h
  ·exact Or.inr ⟨_,h,by have:=O.out.size;omega⟩
 ·
  go_simp
  refine (x6W ⟨f,c,i,l⟩ false kd0 kd0 x0 P.out (x1u _) (x1u _)).mono ?_
  rintro _ x1 ⟨W,Z,rfl,hE,C,hb,he,M,x,s⟩
  have L:=yH (E.out.later hb)
  have O:=yH (U.out.trans (hb.mono U.out.size))
  have u:=yH (P.out.later hb)
  have HM:=yH (show (MSt.mk kd0 W 1 Z 2 ⟨f,c,i,l⟩ false kd0 kd0 false).Ok x1 from x8x he M (by omega) u.out (fun z hz hR=>by have:=rw_lt P.out z hz hR;omega))
  have I:=yH (show x0.heap.size≤W∧W<Z from ⟨x,s⟩)
  have H:=yH (show w.heap.size≤W∧w.heap.size≤Z by have:=U.out.size;omega)
  clear hE C hb he M x s
  try go_wp2_with fail
  refine C.out _ _ trivial (fun hHeld=>?_)
  clear C K
  try simp only [Act.put,yA,yB,yC]
  refine tQ 9 ?_ ?_ ?_
  rotate_left
  ·intro w' hSw
   refine Eq.trans (b:=Result.ok (Next.value (.agg (MSt.mk kd0 W 1 Z 2 ⟨f,c,i,l⟩ false kd0 kd0 false).cells.toArray)) w') ?_ ?_
   ·apply x0t (t:=101) (parts:= #[(1,.tmp 34)])
    ·rfl
    ·simp only [List.map_toArray,List.map_cons,List.map_nil]
     exact x7W _ _ _ _
   ·with_reducible rfl
  refine rY [3,10] ?_
  refine rC (fun K C=>?_) (rC (fun K C=>?_) AllReadyH.nil)
  ·
   have q:x1.cell? ⟨bw,0,none⟩=some v:=cell_of_row x1 bw 0 _ _ _ L.out.box
   go_simp
   refine C.out _ _ trivial (fun hHeld=>?_)
   clear C K
   try simp only [Act.put,yA,yB,yC]
   refine rO 10 fun K C=>?_
   refine x0y (.tmp 35) (by rfl) (m:=MSt.mk kd0 W 1 Z 2 ⟨f,c,i,l⟩ false kd0 kd0 false) (by simp [kd0,zeros]) (by rfl) ?_
   refine C.out _ _ trivial (fun hHeld=>?_)
   clear C K
   try simp only [Act.put,yA,yB,yC]
   refine rO 11 fun K C=>?_
   refine x0z L.out (m:=MSt.mk kd0 W 1 Z 2 ⟨f,c,i,l⟩ false kd0 kd0 false) (by simp [kd0,zeros]) (.tmp 29) (.tmp 36) (by rfl) (by rfl) (by rfl) HA.out ?_
   intro q7 c7 w7 hown7 hg7 hat7
   refine C.out _ _ trivial (fun hHeld=>?_)
   clear C K
   try simp only [Act.put,yA,yB,yC]
   have p:=U.out.size
   obtain ⟨Y,G,J⟩:=x38 L.out HM.out (by have:=j.out;have:=O.out.size;omega) hown7 hg7 hat7 (L.out.way.snoc HM.out (N:=x0.heap.size) (by have:=j.out;omega) (fun a ha k M=>by have:=(E.out.way.each a ha).lt k M;omega) (by have:=I.out;exact ⟨this.1,Nat.le_trans this.1 (Nat.le_of_lt this.2)⟩) (fun a ha k M=>x26 M (fun e=>by have:=(E.out.way.each a ha).lt _ (Or.inl rfl);have:=(E.out.way.each a ha).lt _ (Or.inr (Or.inl rfl));have:=I.out;omega) (fun y hy hR=>(Q.out y hy hR).2.2 a ha))) (fun k M=>x1t M (fun e=>⟨fun e2=>by have:=(yL E.out.box);have:=I.out;omega,fun e2=>by have:=(E.out.own.lt _ e2).2;have:=I.out;omega⟩) (fun y hy hR=>⟨(Q.out y hy hR).1,(Q.out y hy hR).2.1⟩))
   have n:=yH Y
   have A0:=yH G
   have X:=yH J
   have o:=yH hat7
   clear Y G J hown7 hg7 hat7 p
   refine tK 12 ?_
   refine rO 13 fun K C=>?_
   have q:w7.cell? ⟨bw,0,none⟩=some v:=cell_of_row w7 bw 0 _ _ _ X.out
   have AA:=frozen_of_row w7 bw 0 _ _ X.out
   go_simp
   refine C.out _ _ trivial (fun hHeld=>?_)
   clear C K
   try simp only [Act.put,yA,yB,yC]
   refine wpAnyH_done (by kernel_rfl) ?_ _
   generalize w7.setCell ⟨bw,0,none⟩ (.slice q7 (A.length+1) c7)=w8 at *
   go_wp2_with fail
   go_ret2
   refine ⟨rfl,_,_,n.out,⟨rfl,rfl,rfl,rfl,rfl,rfl⟩,(Only.of_below _ O.out).trans A0.out,?_,H.out.1,H.out.2,x8A H.out⟩
   rcases o.out with h | h
   ·exact Or.inl h
   ·exact Or.inr ⟨_,h,by have:=O.out.size;omega⟩
  ·
   refine x0y (.tmp 35) (by rfl) (m:=MSt.mk kd0 W 1 Z 2 ⟨f,c,i,l⟩ false kd0 kd0 false) (by simp [kd0,zeros]) (by rfl) ?_
   refine C.out _ _ trivial (fun hHeld=>?_)
   clear C K
   try simp only [Act.put,yA,yB,yC]
   refine rO 3 fun K C=>?_
   have q:(x1.alloc (.cells (MSt.mk kd0 W 1 Z 2 ⟨f,c,i,l⟩ false kd0 kd0 false).cells.toArray 101)).cell? ⟨bw,0,none⟩=some v:=cell_of_row _ bw 0 _ _ _ (L.out.later ((Below.refl _ _).alloc (Nat.le_refl _) _)).box
   go_simp
   refine C.out _ _ trivial (fun hHeld=>?_)
   clear C K
   try simp only [Act.put,yA,yB,yC]
   refine rO 11 fun K C=>?_
   refine x0z L.out (m:=MSt.mk kd0 W 1 Z 2 ⟨f,c,i,l⟩ false kd0 kd0 false) (by simp [kd0,zeros]) (.tmp 29) (.tmp 36) (by rfl) (by rfl) (by rfl) HA.out ?_
   intro q7 c7 w7 hown7 hg7 hat7
   refine C.out _ _ trivial (fun hHeld=>?_)
   clear C K
   try simp only [Act.put,yA,yB,yC]
   have p:=U.out.size
   obtain ⟨Y,G,J⟩:=x38 L.out HM.out (by have:=j.out;have:=O.out.size;omega) hown7 hg7 hat7 (L.out.way.snoc HM.out (N:=x0.heap.size) (by have:=j.out;omega) (fun a ha k M=>by have:=(E.out.way.each a ha).lt k M;omega) (by have:=I.out;exact ⟨this.1,Nat.le_trans this.1 (Nat.le_of_lt this.2)⟩) (fun a ha k M=>x26 M (fun e=>by have:=(E.out.way.each a ha).lt _ (Or.inl rfl);have:=(E.out.way.each a ha).lt _ (Or.inr (Or.inl rfl));have:=I.out;omega) (fun y hy hR=>(Q.out y hy hR).2.2 a ha))) (fun k M=>x1t M (fun e=>⟨fun e2=>by have:=(yL E.out.box);have:=I.out;omega,fun e2=>by have:=(E.out.own.lt _ e2).2;have:=I.out;omega⟩) (fun y hy hR=>⟨(Q.out y hy hR).1,(Q.out y hy hR).2.1⟩))
   have n:=yH Y
   have A0:=yH G
   have X:=yH J
   have o:=yH hat7
   clear Y G J hown7 hg7 hat7 p
   refine tK 12 ?_
   refine rO 13 fun K C=>?_
   have q:w7.cell? ⟨bw,0,none⟩=some v:=cell_of_row w7 bw 0 _ _ _ X.out
   have AA:=frozen_of_row w7 bw 0 _ _ X.out
   go_simp
   refine C.out _ _ trivial (fun hHeld=>?_)
   clear C K
   try simp only [Act.put,yA,yB,yC]
   refine wpAnyH_done (by kernel_rfl) ?_ _
   generalize w7.setCell ⟨bw,0,none⟩ (.slice q7 (A.length+1) c7)=w8 at *
   go_wp2_with fail
   go_ret2
   refine ⟨rfl,_,_,n.out,⟨rfl,rfl,rfl,rfl,rfl,rfl⟩,(Only.of_below _ O.out).trans A0.out,?_,H.out.1,H.out.2,x8A H.out⟩
   rcases o.out with h | h
   ·exact Or.inl h
   ·exact Or.inr ⟨_,h,by have:=O.out.size;omega⟩
end Go.Proofs.YtinihaflmdihaaaGreat.Kt
