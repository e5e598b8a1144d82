/- Tk, Gen0, Gen, GenRow, GenInts, MorOpen, GenRw, KlOpen, KtMath, KtTree, KrLess. -/
import Derived.Deep.RegionHeld
import Derived.Lib.Hide
import Derived.Laws.BitsAllLaws
import Derived.Test.YtinihaflmdihaaaGreatProg
import Derived.WalkKit
import Derived.WalkSpells
import Derived.WalkLawsBesides
import Derived.BigQuiet
import Derived.Deep.QuietTactic
import Derived.StillTailTactics
import Derived.Deep.WholeRow
import Derived.Deep.MidRow
import Derived.Deep.RegionHeld3
import Derived.Deep.RegionLaw
import Derived.Deep.AppendLies
import Derived.Laws.AppendOwnNone
import Derived.ChangeKeysEq
import Derived.Lib.SlBytesConst
import Derived.Maps.AppendAt
import Derived.Deep.DeepMust
import Derived.Deep.DeepCutAuto
import Derived.Test.YtinihaflmdihaaaGreatRows
import Derived.ProofKit
import Derived.OpenShut
import Derived.ShutString
import Derived.ChangeOld
import Derived.Deep.Matrix
import Derived.Laws.AppendOwn
set_option maxRecDepth 100000
set_option maxHeartbeats 8000000
set_option linter.all false
namespace Go.Proofs.YtinihaflmdihaaaGreat
theorem yH {p:Prop} (h:p):RowKit.Hid p:=h
theorem yL {α:Type} {xs:Array α} {i:Nat} {x:α} (h:xs[i]? =some x):i<xs.size:=(Array.getElem?_eq_some_iff.1 h).1
section
variable {P:Program} {ops:Array Oper} {Q:Exit→Act→World→Prop} {md:Region.Mode} {S:World→Prop} {fuel:Nat} {listed:Array Bool} {a:Act} {w:World} {d:Option Tmp} {op:Op} {ty:TypeId} {pos:String} {af:Array Edge} {gd:Option (Nat×Bool)}
theorem tQ (i:Nat) {a':Act} (v:Value) (hr:∀w,S w→(execOp a.eval ⟨d,op,ty,pos,af,gd⟩).run P w= .ok (.value v) w) (h:wpAnyH P md ops Q S fuel (listed.setIfInBounds i true) a' w)
  (hi:ops[i]? =some ⟨d,op,ty,pos,af,gd⟩:=by rfl) (h1:Region.noSelect ops=true:=by kernel_rfl) (h2:Region.free md ops listed i=true:=by kernel_rfl) (h3:(Region.ready md ops listed).contains i=true:=by kernel_rfl)
  (hQ:∀c a w,Q (.panic c) (a.put d v) w→Q (.panic c) a w:=by exact fun _ _ _ h=>h) (hw:Region.wanted ⟨d,op,ty,pos,af,gd⟩ (yielded ops a.tmps)=true:=by rfl)
  (ha:a.put d v=a':=by (simp only [Act.put,List.setIfInBounds_toArray,List.set_cons_zero,List.set_cons_succ];try with_reducible rfl)) (hS:S w:=by assumption):wpAnyH P md ops Q S (fuel+1) listed a w:=
 wpAnyH_take hi h1 h2 h3 hQ (Or.inl ⟨hw,hr⟩) hS (ha.symm▸h)
theorem tK (i:Nat) {a':Act} {v:Value} (h:wpAnyH P md ops Q S fuel (listed.setIfInBounds i true) a' w)
  (hi:ops[i]? =some ⟨d,op,ty,pos,af,gd⟩:=by rfl) (h1:Region.noSelect ops=true:=by kernel_rfl) (h2:Region.free md ops listed i=true:=by kernel_rfl) (h3:(Region.ready md ops listed).contains i=true:=by kernel_rfl)
  (hQ:∀c a w,Q (.panic c) (a.put d v) w→Q (.panic c) a w:=by exact fun _ _ _ h=>h) (hw:Region.wanted ⟨d,op,ty,pos,af,gd⟩ (yielded ops a.tmps)=true:=by rfl)
  (hr:∀w,S w→(execOp a.eval ⟨d,op,ty,pos,af,gd⟩).run P w= .ok (.value v) w:=by (intro w' hSw;go_simp;try with_reducible rfl))
  (ha:a.put d v=a':=by (simp only [Act.put,List.setIfInBounds_toArray,List.set_cons_zero,List.set_cons_succ];try with_reducible rfl)) (hS:S w:=by assumption):wpAnyH P md ops Q S (fuel+1) listed a w:=
 wpAnyH_take hi h1 h2 h3 hQ (Or.inl ⟨hw,hr⟩) hS (ha.symm▸h)
theorem tF (i:Nat) {a':Act} (h:wpAnyH P md ops Q S fuel (listed.setIfInBounds i true) a' w)
  (hi:ops[i]? =some ⟨d,op,ty,pos,af,gd⟩:=by rfl) (h1:Region.noSelect ops=true:=by kernel_rfl) (h2:Region.free md ops listed i=true:=by kernel_rfl) (h3:(Region.ready md ops listed).contains i=true:=by kernel_rfl)
  (hQ:∀c a w,Q (.panic c) (a.put d undef) w→Q (.panic c) a w:=by exact fun _ _ _ h=>h) (hw:Region.wanted ⟨d,op,ty,pos,af,gd⟩ (yielded ops a.tmps)=false:=by rfl)
  (ha:a.put d undef=a':=by (simp only [Act.put,List.setIfInBounds_toArray,List.set_cons_zero,List.set_cons_succ];try with_reducible rfl)) (hS:S w:=by assumption):wpAnyH P md ops Q S (fuel+1) listed a w:=
 wpAnyH_take hi h1 h2 h3 hQ (Or.inr ⟨hw,rfl⟩) hS (ha.symm▸h)
theorem rY (rs:List Nat) (h:AllReadyH P md ops Q S fuel listed a w rs) (hr:Region.ready md ops listed=rs:=by kernel_rfl) (hn:rs≠[]:=by simp):wpAnyH P md ops Q S (fuel+1) listed a w:=wpAnyH_ready hr hn h
theorem rC {i:Nat} {rs:List Nat}
  (h:∀K':Act→World→Prop,Shut (∀a w,S w→(S w→wpAnyH P md ops Q S fuel (listed.setIfInBounds i true) a w)→K' a w)→if Region.wanted ⟨d,op,ty,pos,af,gd⟩ (yielded ops a.tmps)=true then Oper.wp P ⟨d,op,ty,pos,af,gd⟩ a w K' Q else K' (a.put d undef) w)
  (hs:AllReadyH P md ops Q S fuel listed a w rs) (ho:ops[i]? =some ⟨d,op,ty,pos,af,gd⟩:=by rfl):AllReadyH P md ops Q S fuel listed a w (i::rs):=AllReadyH.cons ho h hs
theorem rO (i:Nat)
  (h:∀K':Act→World→Prop,Shut (∀a w,S w→(S w→wpAnyH P md ops Q S fuel (listed.setIfInBounds i true) a w)→K' a w)→if Region.wanted ⟨d,op,ty,pos,af,gd⟩ (yielded ops a.tmps)=true then Oper.wp P ⟨d,op,ty,pos,af,gd⟩ a w K' Q else K' (a.put d undef) w)
  (hr:Region.ready md ops listed=[i]:=by kernel_rfl) (ho:ops[i]? =some ⟨d,op,ty,pos,af,gd⟩:=by rfl):wpAnyH P md ops Q S (fuel+1) listed a w:=wpAnyH_ready hr (by simp) (AllReadyH.cons ho h AllReadyH.nil)
end
theorem yK {w w':World} {g:Nat} {o:Obj} (hb:RowKit.Below w.heap.size w w') (h:w.heap[g]? =some o):w'.heap[g]? =some o:=(hb.block _ (yL h)).trans h
end Go.Proofs.YtinihaflmdihaaaGreat
namespace Go.Proofs.YtinihaflmdihaaaGreat.Sm
def allB (l:List Nat):Prop:=∀x∈l,x<256
theorem getD_lt {l:List Nat} {m:Nat} (h:∀x∈l,x<m) (hm:0<m) (i:Nat):l.getD i 0<m:=by
 rw [List.getD_eq_getElem?_getD]
 cases hh:l[i]? with
 | none=>simpa using hm
 | some x=>simpa using h x (List.mem_of_getElem? hh)
theorem allB_drop {l:List Nat} (h:allB l) (n:Nat):allB (l.drop n):=fun x hx=>h x (List.mem_of_mem_drop hx)
theorem y06 (B:List Nat) (n i:Nat) (h:i<n):(B.take n).getD i 0=B.getD i 0:=by
 simp [List.getD_eq_getElem?_getD,List.getElem?_take_of_lt h]
theorem x6p (B:List Nat) (n i:Nat):(B.drop n).getD i 0=B.getD (n+i) 0:=by
 simp [List.getD_eq_getElem?_getD]
theorem x6B (A B:List Nat) (i:Nat) (h:i<A.length):(A++B).getD i 0=A.getD i 0:=by
 rw [List.getD_eq_getElem?_getD,List.getD_eq_getElem?_getD,List.getElem?_append_left h]
end Go.Proofs.YtinihaflmdihaaaGreat.Sm
namespace Go.Proofs.YtinihaflmdihaaaGreat
open Go.RowKit
def u8s (l:List Nat):Array Value:=(l.map fun x=>Value.int .u8 (x:Nat)).toArray
theorem x0h {fn:Func} {P:Ending→World→Prop} (p:Tmp) {ty:TypeId} (hr:fn.results= #[.cell p ty]) {tmps:Array Value} {w:World} (g:Nat) (t:TypeId) (cs:Array Value) {n:Nat} {e:TypeId}
  (hu:Tryz.prog.underlying ty=some (.array n e)) (hi:(Tryz.prog.info? ty).map (·.size)=some n)
  (hp:tmps.getD p undef= .pointer (some ⟨g,0,none⟩)) (hg:w.heap[g]? =some (.cells cs t (0,0)))
  (hn:cs.size=n) (h:P (.returned (.agg cs)) w):bodyPost Tryz.prog fn P .ret ⟨tmps,[]⟩ w:=
 bodyPost_ret (a:=⟨tmps,[]⟩) (v:=.agg cs) (results_cell_row hr tmps w g t cs (0,0) (.array n e) hp hg hu rfl (by rw [hn];exact hi)) rfl h
theorem x04 (w:World) (old cs:Array Value) (t:TypeId):(w.alloc (.cells old t (0,0))).setRow w.heap.size cs=w.alloc (.cells cs t (0,0)):=by
 unfold World.setRow World.alloc
 congr 1
 apply Array.ext
 ·simp
 ·intro k h1 h2
  simp only [Array.getElem_modify,Array.getElem_push]
  by_cases hk:k=w.heap.size
  ·subst hk;simp
  ·have:k<w.heap.size:=by simp at h1;omega
   simp [this,Ne.symm hk]
structure SameHeap (w w':World):Prop where
 below:Below w.heap.size w w'
 heap:w'.heap=w.heap
theorem SameHeap.refl (w:World):SameHeap w w:=⟨Below.refl _ _,rfl⟩
theorem SameHeap.drewN {a w:World} (h:SameHeap a w) (n:Nat):SameHeap a (w.drewN n):=by
 induction n with
 | zero=>exact h
 | succ n ih=>exact ⟨ih.below.drew,ih.heap⟩
theorem SameHeap.cell {a w:World} (h:SameHeap a w) (p:Addr):w.cell? p=a.cell? p:=by simp only [World.cell?,h.heap]
theorem SameHeap.frozen {a w:World} (h:SameHeap a w) (p:Addr):w.frozen? p=a.frozen? p:=by simp only [World.frozen?,h.heap]
theorem Below.setRow {B:Nat} {a w:World} (h:Below B a w) {g:Nat} (hg:B≤g) (cs:Array Value):Below B a (w.setRow g cs):=
 h.trans ⟨rfl,rfl,rfl,by simp,fun k hk=>setRow_other _ _ _ _ (by omega)⟩
def bytesAt (w:World) (g o:Nat) (B:List Nat):Prop:=∀i,i<B.length→w.cell? ⟨g,o+i,none⟩=some (.int .u8 (B.getD i 0:Nat))
def zeros (n:Nat):List Nat:=List.replicate n 0
theorem x1X {n:Nat} (h:0<n):zeros n=0::zeros (n - 1):=by
 cases n with
 | zero=>omega
 | succ n=>rfl
theorem x6q {l:List Nat} (r:List Nat) (i:Nat) (h:i<l.length):(l++r).getD i 0=l.getD i 0:=by
 rw [List.getD_eq_getElem?_getD,List.getD_eq_getElem?_getD,List.getElem?_append_left h]
structure Bytes (w:World) (p:Option Addr) (len cap:Nat) (B:List Nat):Prop where
 size:len=B.length
 le:len≤cap
 ok:Sm.allB B
 at':cap=0∨∃g o,p=some ⟨g,o,none⟩∧bytesAt w g o B
theorem Bytes.ne {w:World} {p:Option Addr} {len cap:Nat} {B:List Nat} (h:Bytes w p len cap B) (hn:B≠[]):∃g o,p=some ⟨g,o,none⟩∧bytesAt w g o B:=by
 rcases h.at' with C | A
 ·have:=h.size
  have:=h.le
  exact absurd (List.length_eq_zero_iff.1 (by omega)) hn
 ·exact A
theorem Bytes.later {w w':World} {p:Option Addr} {len cap:Nat} {B:List Nat} (h:Bytes w p len cap B) {H:Nat} (hb:Below H w w') (hH:∀g o,p=some ⟨g,o,none⟩→B≠[]→g<H):Bytes w' p len cap B:=
 ⟨h.size,h.le,h.ok,h.at'.imp id fun ⟨g,o,hp,hx⟩=>⟨g,o,hp,fun i hi=>(hb.cell (p:=⟨g,o+i,none⟩) (hH g o hp (by intro e;rw [e] at hi;simp at hi))).trans (hx i hi)⟩⟩
theorem Bytes.lt {w:World} {p:Option Addr} {len cap:Nat} {B:List Nat} (h:Bytes w p len cap B):∀g o,p=some ⟨g,o,none⟩→B≠[]→g<w.heap.size:=fun g o hp hn=>by
 obtain ⟨g',o',hp',hx⟩:=h.ne hn
 rw [hp] at hp'
 obtain ⟨rfl,rfl⟩:g=g'∧o=o':=by simpa using hp'
 exact block_lt_of_cell (hx 0 (List.length_pos_iff.2 hn))
theorem bytesAt.drop {w:World} {g o:Nat} {B:List Nat} (h:bytesAt w g o B) (n:Nat):bytesAt w g (o+n) (B.drop n):=fun i hi=>by
 have h1:n+i<B.length:=by simp at hi;omega
 have:=h (n+i) h1
 rw [Nat.add_assoc,this]
 simp [List.getD_eq_getElem?_getD]
def lenOf:Value→Nat
 | .slice _ n _=>n
 | _=>0
theorem y07 (l:List Nat) (i:Nat) (h:i<l.length):(u8s l)[i]? =some (.int .u8 (l.getD i 0:Nat)):=by
 simp [u8s,List.getD_eq_getElem?_getD,List.getElem?_eq_getElem h]
theorem x1k {w:World} {g:Nat} {l:List Nat} {t:TypeId} {fr:Nat×Nat} (hg:w.heap[g]? =some (.cells (u8s l) t fr)) (i:Nat) (h:i<l.length):w.cell? ⟨g,i,none⟩=some (.int .u8 (l.getD i 0:Nat)):=by
 rw [cell_of_row w g i _ t fr hg,y07 l i h]
theorem x6C (p r:List Nat) (y x k:Nat) (hk:p.length=k):(u8s (p++y::r)).setIfInBounds k (.int .u8 (x:Nat))=u8s (p++x::r):=by
 subst hk
 apply Array.ext'
 simp [u8s]
theorem x0b (l:List Nat):(u8s l).all (·.oneCell')=true:=by simp [u8s,Value.oneCell']
theorem x08 (l:List Nat):(u8s l).size=l.length:=by simp [u8s]
theorem x4e {P:Program} {t e:TypeId} {n:Nat} (ht:P.underlying t=some (.array n e)) {d:TypeDesc} (hd:P.underlying e=some d) (hnd:(match d with | .struct _=>false | .array _ _=>false | _=>true)=true)
  (hs:(P.info? e).map (·.size)=some 1) (cs:Array Value) (k:Nat) (hk:k<n) (v:Value) (hv:cs[k]? =some v) (w:World):
  (Instr.index t (.agg cs) (.int .i64 k)).run P w= .ok v w:=by
 have A:(isAgg e).run P w= .ok false w:=by
  unfold isAgg
  rw [Sem.run_bind,run_underlying hd w]
  cases d<;>simp_all
 cases hq:P.info? e with
 | none=>simp [hq] at hs
 | some i=>
  have B:i.size=1:=by simpa [hq] using hs
  have C:(0:Int)≤k∧(k:Int)<n:=by omega
  simp [Instr.index,run_underlying ht,asIntOf,C,part,sizeOf,typeInfo,hq,B,A,hv,Sem.run_bind]
  intro h
  omega
theorem U5:Tryz.prog.underlying 5=some (.int .u8):=by kernel_rfl
theorem I5:(Tryz.prog.info? 5).map (fun i=>(i.zero,i.size,i.bytes))=some (some (.int .u8 0),1,1):=by kernel_rfl
def vals (l:List Nat):List Value:=l.map fun x=>Value.int .u8 (x:Nat)
theorem x00 (l:List Nat):(vals l).length=l.length:=by simp [vals]
theorem x1S (l:List Nat) (i:Nat) (h:i<l.length):(vals l)[i]? =some (.int .u8 (l.getD i 0:Nat)):=by
 simp [vals,List.getD_eq_getElem?_getD,List.getElem?_eq_getElem h]
theorem Bytes.of_owns {w:World} {base g n cap:Nat} {B:List Nat} (h:w.ownsRow base 5 1 (.slice (some ⟨g,0,none⟩) n cap) n (vals B)) (hB:Sm.allB B):Bytes w (some ⟨g,0,none⟩) n cap B:=by
 obtain ⟨G,H⟩:=h
 have J:n=B.length:=by simpa [x00] using G.symm
 rcases H with ⟨L,_⟩ | ⟨N,A,C,I,Q,M,E,O,P,K⟩
 ·simp at L
 ·obtain ⟨rfl,rfl⟩:g=N∧cap=A:=by simpa using I
  refine ⟨J,E,hB,Or.inr ⟨g,0,rfl,fun i hi=>?_⟩⟩
  rw [Nat.zero_add,cell_of_row w g i C _ _ M]
  have e:(C.toList.take (n*1))[i]? =(vals B)[i]? :=by rw [K]
  rw [x1S B i hi,List.getElem?_take_of_lt (by omega)] at e
  simpa using e
theorem x9A (n:Nat):madeCells (Value.cells (.int .u8 0)) n=u8s (zeros n):=by
 apply Array.ext
 ·simp [size_madeCells,u8s,zeros]
 ·intro i h1 h2
  simp [madeCells,u8s,zeros,Value.cells,Nat.mod_one]
theorem x2U (l:List Nat):(u8s l).toList=vals l:=by simp [u8s,vals]
theorem x0I (l:List Nat):∀u∈vals l,u.oneCell'=true:=by
 intro u hu
 simp only [vals,List.mem_map] at hu
 obtain ⟨x,_,rfl⟩:=hu
 rfl
theorem x1b {w:World} {base g n cap:Nat} {L:List Nat} (hg:w.heap[g]? =some (.cells (u8s L) 5 (0,0))) (hL:L.length=cap) (hn:n≤cap) (hm:cap≤maxLen) (hb:base≤g):
  w.ownsRow base 5 1 (.slice (some ⟨g,0,none⟩) n cap) n (vals (L.take n)):=by
 refine ⟨by simp [vals];omega,Or.inr ⟨g,cap,u8s L,rfl,hb,hg,hn,hm,by rw [x08];omega,?_⟩⟩
 rw [x2U,Nat.mul_one]
 simp [vals]
theorem x0o {w:World} {g:Nat} {L:List Nat} {t:TypeId} (hg:w.heap[g]? =some (.cells (u8s L) t (0,0))):∀j u,(vals L)[j]? =some u→w.cell? ((⟨g,0,none⟩:Addr).add j)=some u:=fun j u hu=>by
 rw [Addr.add_mid,Nat.zero_add,cell_of_row w g j _ _ _ hg,← Array.getElem?_toList,x2U]
 exact hu
theorem x0L (g:Nat):∀(vs:List Value) (o:Nat) (w:World) (k:Nat),k≠g→(w.setCells g o vs).heap[k]? =w.heap[k]?
 |[],_,_,_,_=>rfl
 | v::r,o,w,k,h=>by
  rw [World.setCells,x0L g r (o+1) _ k h,heap_setCell_other _ _ _ _ h]
theorem x0Q (g:Nat) (t:TypeId):∀(vs A B C:List Value) (w:World),w.heap[g]? =some (.cells (A++B++C).toArray t (0,0))→vs.length=B.length→
  (w.setCells g A.length vs).heap[g]? =some (.cells (A++vs++C).toArray t (0,0))
 |[],A,B,C,w,h,hl=>by
  obtain rfl:B=[]:=List.length_eq_zero_iff.1 (by simpa using hl.symm)
  exact h
 | v::r,A,B,C,w,h,hl=>by
  match B,hl with
  | b::B,hl=>
   have h1:=heap_setCell_same w g A.length _ _ v h
   have e:((A++b::B++C).toArray).setIfInBounds A.length v=((A++[v])++B++C).toArray:=by
    apply Array.ext'
    simp
   rw [e] at h1
   have:=x0Q g t r (A++[v]) B C _ h1 (by simpa using hl)
   rw [World.setCells]
   simpa using this
theorem x0R (g:Nat):∀(vs:List Value) (o:Nat) (w:World),(w.setCells g o vs).heap.size=w.heap.size∧(w.setCells g o vs).os=w.os∧(w.setCells g o vs).tape=w.tape∧(w.setCells g o vs).output=w.output
 |[],_,_=>⟨rfl,rfl,rfl,rfl⟩
 | v::r,o,w=>by
  obtain ⟨h1,h2,h3,h4⟩:=x0R g r (o+1) (w.setCell ⟨g,o,none⟩ v)
  rw [World.setCells]
  exact ⟨h1.trans (by simp [World.setCell]),h2.trans rfl,h3.trans rfl,h4.trans rfl⟩
theorem x2s {w:World} {g:Nat} {t:TypeId} (A B C:List Value) (h:w.heap[g]? =some (.cells (A++B++C).toArray t (0,0))):w.rangeAt g A.length B:=fun j v hv=>by
 have hj:j<B.length:=(List.getElem?_eq_some_iff.1 hv).1
 rw [cell_of_row w g _ _ t _ h]
 rw [List.getElem?_eq_getElem hj] at hv
 simpa [hj,List.getElem?_append_right,List.getElem?_append] using hv
theorem x4f {w:World} {g:Nat} {t:TypeId} {C:Array Value} (h:w.heap[g]? =some (.cells C t (0,0))) (o n:Nat) (hn:o+n≤C.size):w.there g o n:=fun j hj=>by
 refine ⟨?_,frozen_of_row w g _ _ t h⟩
 rw [cell_of_row w g _ _ t _ h,Array.getElem?_eq_getElem (by omega)]
 rfl
theorem x06 (l:List Nat):(vals l).toArray=u8s l:=rfl
theorem bytesAt.take {w:World} {g o:Nat} {B:List Nat} (h:bytesAt w g o B) (n:Nat):bytesAt w g o (B.take n):=fun i hi=>by
 have h1:i<B.length:=by simp at hi;omega
 rw [h i h1]
 have A:i<n:=by simp at hi;omega
 simp [List.getD_eq_getElem?_getD,List.getElem?_take_of_lt A]
theorem Bytes.take {w:World} {p:Option Addr} {len cap:Nat} {B:List Nat} (h:Bytes w p len cap B) (n:Nat) (hn:n≤len):Bytes w p n cap (B.take n):=
 ⟨by have:=h.size;simp;omega,by have:=h.le;omega,fun x hx=>h.ok x (List.mem_of_mem_take hx),h.at'.imp id fun ⟨g,o,hp,hx⟩=>⟨g,o,hp,hx.take n⟩⟩
theorem x0J {w w1:World} {g:Nat} (h:w.grownBy w1 (some g)) (o:Nat) (vs:List Value):w.grownBy (w1.setCells g o vs) (some g):=by
 obtain ⟨C,B,E,A⟩:=x0R g vs o w1
 exact ⟨B.trans h.os,E.trans h.tape,A.trans h.output,by rw [C];exact h.size,fun k hk hne=>(x0L g vs o w1 k (by intro e;exact hne (by rw [e]))).trans (h.block k hk hne)⟩
theorem x7k {w w1 w2:World} {r:Option Nat} (h:w.grownBy w1 r) (hb:Below w1.heap.size w1 w2):w.grownBy w2 r:=
 ⟨hb.os.trans h.os,hb.tape.trans h.tape,hb.output.trans h.output,Nat.le_trans h.size hb.size,fun k hk hne=>(hb.block k (Nat.lt_of_lt_of_le hk h.size)).trans (h.block k hk hne)⟩
theorem Bytes.grown {w w':World} {p:Option Addr} {len cap:Nat} {B:List Nat} (h:Bytes w p len cap B) {g:Nat} (hg:w.grownBy w' (some g)) (hn:B≠[]→∀a,p=some a→a.block≠g):Bytes w' p len cap B:=
 ⟨h.size,h.le,h.ok,h.at'.imp id fun ⟨b,o,hp,hx⟩=>⟨b,o,hp,fun i hi=>by
  have h1:=hx i hi
  have hb:w'.heap[b]? =w.heap[b]? :=hg.block b (block_lt_of_cell h1) (by intro e;exact hn (by intro e0;rw [e0] at hi;simp at hi) _ hp (by simpa using e))
  rw [World.cell?_of_block (w:=w) (w':=w') (a:=⟨b,o+i,none⟩) hb]
  exact h1⟩⟩
theorem x0D (w:World) (g o:Nat) (u:Value):w.grownBy (w.setCell ⟨g,o,none⟩ u) (some g):=
 ⟨rfl,rfl,rfl,by simp [World.setCell],fun k _ hne=>heap_setCell_other _ _ _ _ (by intro e;exact hne (by rw [e]))⟩
theorem Bytes.heap {w w':World} {p:Option Addr} {len cap:Nat} {B:List Nat} (h:Bytes w p len cap B) (e:w'.heap=w.heap):Bytes w' p len cap B:=
 ⟨h.size,h.le,h.ok,h.at'.imp id fun ⟨b,o,hp,hx⟩=>⟨b,o,hp,fun i hi=>by
  have h1:=hx i hi
  simp only [World.cell?,e] at h1 ⊢
  exact h1⟩⟩
theorem E5:(Tryz.prog.info? 5).map (·.size)=some 1:=by kernel_rfl
theorem y08 (B:List Nat) (n:Nat):vals (B.drop n)=(vals B).drop n:=by simp [vals]
theorem Bytes.drop {w:World} {g o ln cp:Nat} {B:List Nat} (h:Bytes w (some ⟨g,o,none⟩) ln cp B) (m:Nat) (hl:m≤ln):Bytes w (some ⟨g,o+m,none⟩) (ln - m) (cp - m) (B.drop m):=by
 have I:=h.size
 have H:=h.le
 refine ⟨by simp;omega,by omega,Sm.allB_drop h.ok m,Or.inr ⟨g,o+m,rfl,?_⟩⟩
 rcases h.at' with J | ⟨G,A,E,C⟩
 ·intro i hi
  simp only [List.length_drop] at hi
  omega
 ·obtain ⟨rfl,rfl⟩:g=G∧o=A:=by simpa using E
  exact C.drop m
theorem x1K {w w1 w2:World} (hb:Below w1.heap.size w1 w2) (e:w1.heap=w.heap) (e1:w1.os=w.os) (e2:w1.tape=w.tape) (e3:w1.output=w.output):Below w.heap.size w w2:=
 ⟨hb.os.trans e1,hb.tape.trans e2,hb.output.trans e3,by rw [← e];exact hb.size,fun k hk=>by rw [hb.block k (by rw [e];exact hk),e]⟩
theorem x6D (w:World) (A:Obj) (old cs:Array Value) (t:TypeId):((w.alloc A).alloc (.cells old t (0,0))).setRow (w.heap.size+1) cs=(w.alloc A).alloc (.cells cs t (0,0)):=by
 have:=x04 (w.alloc A) old cs t
 rw [show (w.alloc A).heap.size=w.heap.size+1 from by simp] at this
 exact this
theorem x1l (n:Nat):Sm.allB (zeros n):=fun x hx=>by
 have:=(List.mem_replicate.1 hx).2
 omega
structure Tx (w:World) (p:Option Addr) (len cap:Nat) (B:List Nat):Prop where
 size:len=B.length
 le:len≤cap
 ok:Sm.allB B
 at':(p=none∧cap=0)∨∃x,p=some x∧∀j u,(vals B)[j]? =some u→w.cell? (x.add j)=some u
 sp:∀x,p=some x→0<cap→x.spot=none
theorem Tx.later {w w':World} {p:Option Addr} {len cap:Nat} {B:List Nat} (h:Tx w p len cap B) (hb:Below w.heap.size w w'):Tx w' p len cap B:=
 ⟨h.size,h.le,h.ok,h.at'.imp id fun ⟨x,hp,hx⟩=>⟨x,hp,fun j u hu=>(hb.cell (p:=x.add j) (block_lt_of_cell (hx j u hu))).trans (hx j u hu)⟩,h.sp⟩
theorem Tx.cells {w:World} {x:Addr} {n c:Nat} {B:List Nat} (h:Tx w (some x) n c B):∀j u,(vals B)[j]? =some u→w.cell? (x.add j)=some u:=by
 rcases h.at' with ⟨A,_⟩ | ⟨y,A,C⟩
 ·cases A
 ·cases A;exact C
structure Texts (w:World) (p:Option Addr) (len cap:Nat) (L:List (List Nat)):Prop where
 size:len=L.length
 le:len≤cap
 at':L≠[]→∃g o,p=some ⟨g,o,none⟩∧∀i,i<L.length→∃q n c,w.cell? ⟨g,o+i,none⟩=some (.slice q n c)∧Tx w q n c (L.getD i [])
theorem Texts.later {w w':World} {p:Option Addr} {len cap:Nat} {L:List (List Nat)} (h:Texts w p len cap L) (hb:Below w.heap.size w w'):Texts w' p len cap L:=
 ⟨h.size,h.le,fun hn=>by
  obtain ⟨g,o,hp,hx⟩:=h.at' hn
  refine ⟨g,o,hp,fun i hi=>?_⟩
  obtain ⟨q,n,c,h1,h2⟩:=hx i hi
  exact ⟨q,n,c,(hb.cell (p:=⟨g,o+i,none⟩) (block_lt_of_cell h1)).trans h1,h2.later hb⟩⟩
theorem x5R (L:List (List Nat)) (k:Nat) (h:k<L.length):L.take (k+1)=L.take k++[L.getD k []]:=by
 rw [List.take_succ_eq_append_getElem h,List.getD_eq_getElem?_getD,List.getElem?_eq_getElem h];rfl
theorem x0p (A B:List Nat):vals (A++B)=vals A++vals B:=by simp [vals]
theorem x3d {w w':World} {base:Nat} {v:Value} {n:Nat} {xs:List Value} (h:w.ownsRow base 5 1 v n xs) (hb:Below w.heap.size w w'):w'.ownsRow base 5 1 v n xs:=by
 obtain ⟨G,E⟩:=h
 refine ⟨G,E.imp id ?_⟩
 rintro ⟨g,B,A,H,I,C,r⟩
 exact ⟨g,B,A,H,I,(hb.block _ (yL C)).trans C,r⟩
theorem Bytes.cells {w:World} {g o n c:Nat} {B:List Nat} (h:Bytes w (some ⟨g,o,none⟩) n c B):∀j u,(vals B)[j]? =some u→w.cell? ((⟨g,o,none⟩:Addr).add j)=some u:=fun j u hu=>by
 have hj:j<B.length:=by have:=(List.getElem?_eq_some_iff.1 hu).1;simpa [vals] using this
 obtain ⟨G,A,E,C⟩:=h.ne (by intro e;rw [e] at hj;simp at hj)
 obtain ⟨rfl,rfl⟩:g=G∧o=A:=by simpa using E
 rw [x1S _ _ hj] at hu
 rw [Addr.add_mid,C j hj,hu]
theorem Bytes.tx {w:World} {p:Option Addr} {n c:Nat} {B:List Nat} (h:Bytes w p n c B):Tx w p n c B:=by
 have C:=h.size
 have A:=h.le
 rcases h.at' with G | ⟨g,o,H,E⟩
 ·refine ⟨C,A,h.ok,?_,fun _ _ h3=>by omega⟩
  cases p with
  | none=>exact Or.inl ⟨rfl,G⟩
  | some x=>
   refine Or.inr ⟨x,rfl,fun j u hu=>?_⟩
   have:=(List.getElem?_eq_some_iff.1 hu).1
   rw [x00] at this
   omega
 ·subst H
  exact ⟨C,A,h.ok,Or.inr ⟨_,rfl,h.cells⟩,fun x E _=>by cases E;rfl⟩
theorem Tx.bytes {w:World} {p:Option Addr} {n c:Nat} {B:List Nat} (h:Tx w p n c B):Bytes w p n c B:=by
 refine ⟨h.size,h.le,h.ok,?_⟩
 rcases h.at' with ⟨_,I⟩ | ⟨x,C,E⟩
 ·exact Or.inl I
 ·rcases Nat.eq_zero_or_pos c with A | A
  ·exact Or.inl A
  ·have H:=h.sp x C A
   obtain ⟨g,o,G⟩:=x
   obtain rfl:G=none:=H
   exact Or.inr ⟨g,o,C,fun i hi=>by rw [← Addr.add_mid];exact E i _ (x1S B i hi)⟩
theorem A9:Tryz.prog.underlying 9=some .string:=by kernel_rfl
theorem C5:Tryz.prog.cellsOf 5=1:=by kernel_rfl
theorem x4g (l:List Nat) (i:Nat) (h:i<l.length) (w:World):(_root_.Go.part 5 (u8s l) (i*1)).run Tryz.prog w= .ok (.int .u8 (l.getD i 0:Nat)) w:=by
 have A:(isAgg 5).run Tryz.prog w= .ok false w:=by
  unfold isAgg
  rw [Sem.run_bind,run_underlying U5 w]
  rfl
 have:=y07 l i h
 simp [_root_.Go.part,Sem.run_bind,A,this]
theorem x5Y (a b:List Nat) (d:Nat) (w:World):∀is:List Nat,(∀i∈is,i<a.length∧i<b.length)→(Op.eqItems (d+1) 5 1 (u8s a) (u8s b) is).run Tryz.prog w= .ok (is.all fun i=>a.getD i 0==b.getD i 0) w
 |[],_=>rfl
 | i::is,h=>by
  have h1:=h i (by simp)
  have ih:=x5Y a b d w is (fun j hj=>h j (by simp [hj]))
  have e1:(Op.equalIn (d+1) 5 (.int .u8 (a.getD i 0:Nat)) (.int .u8 (b.getD i 0:Nat))).run Tryz.prog w= .ok (a.getD i 0==b.getD i 0) w:=by
   rw [run_equalIn_int w d 5 .u8 .u8 _ _ U5]
   congr 1
   rw [Bool.eq_iff_iff]
   simp only [beq_iff_eq]
   omega
  simp only [Op.eqItems,Sem.run_bind,x4g a i h1.1,x4g b i h1.2,Result.andThen_ok,e1]
  cases hc:(a.getD i 0==b.getD i 0)
  ·simp only [List.all_cons,hc,Bool.false_and]
   rfl
  ·simp only [List.all_cons,hc,Bool.true_and,Bool.not_true,Bool.false_eq_true,if_false]
   exact ih
theorem y25 (a b:List Nat) (ha:a.length=32) (hb:b.length=32):((List.range 32).all fun i=>a.getD i 0==b.getD i 0)=decide (a=b):=by
 rw [Bool.eq_iff_iff]
 simp only [List.all_eq_true,List.mem_range,beq_iff_eq,decide_eq_true_eq]
 constructor
 ·intro h
  apply List.ext_getElem (by omega)
  intro i h1 h2
  have:=h i (by omega)
  simpa [List.getD_eq_getElem?_getD,List.getElem?_eq_getElem h1,List.getElem?_eq_getElem h2] using this
 ·rintro rfl i _
  rfl
theorem Bytes.row {w:World} {g:Nat} {L:List Nat} {t:TypeId} {fr:Nat×Nat} (hg:w.heap[g]? =some (.cells (u8s L) t fr)) (hL:Sm.allB L):Bytes w (some ⟨g,0,none⟩) L.length L.length L:=
 ⟨rfl,Nat.le_refl _,hL,Or.inr ⟨g,0,rfl,fun i hi=>by rw [Nat.zero_add];exact x1k hg i hi⟩⟩
def txt (s:ByteArray):List Nat:=s.data.toList.map UInt8.toNat
def strOf (l:List Nat):ByteArray:=strOfNums (l.map Int.ofNat)
theorem x6r {l:List Nat} (h:Sm.allB l):txt (strOf l)=l:=by
 unfold txt strOf
 rw [strOfNums_data,List.map_map,List.map_map]
 conv=>rhs;rw [← List.map_id l]
 apply List.map_congr_left
 intro x hx
 have:=h x hx
 simp
 omega
theorem x2t {w wr w':World} {g:Nat} (h:Below w.heap.size w wr) (hg:wr.grownBy w' (some g)) (hl:w.heap.size≤g):Below w.heap.size w w':=
 h.grown hg h.size (fun k hk=>by simp at hk;omega)
theorem x6s {w:World} {base n:Nat} {v:Value} {B:List Nat} (h:w.ownsRow base 5 1 v n (vals B)) (hB:Sm.allB B):∃q c,v= .slice q n c∧Bytes w q n c B:=by
 have C:n=B.length:=by have:=h.1;rw [x00,Nat.mul_one] at this;exact this.symm
 rcases h.2 with ⟨rfl,E⟩ | ⟨g,A,G,rfl,r⟩
 ·subst E
  have H:B=[]:=List.length_eq_zero_iff.1 C.symm
  exact ⟨none,0,rfl,⟨C,Nat.le_refl _,hB,Or.inl rfl⟩⟩
 ·exact ⟨_,A,rfl,Bytes.of_owns h hB⟩
theorem x0a {a b c:World} {r:Option Nat} (h:a.grownBy b r) (k:b.grownBy c r):a.grownBy c r:=
 ⟨k.os.trans h.os,k.tape.trans h.tape,k.output.trans h.output,Nat.le_trans h.size k.size,fun i hi hne=>(k.block i (Nat.lt_of_lt_of_le hi h.size) hne).trans (h.block i hi hne)⟩
theorem y26 {A B:List Nat} (hA:Sm.allB A) (hB:Sm.allB B):strOf A=strOf B↔A=B:=by
 constructor
 ·intro h
  rw [← x6r hA,← x6r hB,h]
 ·rintro rfl
  rfl
theorem Tx.heap {w w':World} {p:Option Addr} {n c:Nat} {B:List Nat} (h:Tx w p n c B) (e:w'.heap=w.heap):Tx w' p n c B:=
 ⟨h.size,h.le,h.ok,h.at'.imp id fun ⟨x,hp,hx⟩=>⟨x,hp,fun j u hu=>by have:=hx j u hu;simp only [World.cell?,e] at this ⊢;exact this⟩,h.sp⟩
theorem y59 {A B:List Nat} (hA:Sm.allB A) (hB:Sm.allB B):((strOf A).toList==(strOf B).toList)=decide (A=B):=by
 rw [Bool.eq_iff_iff,beq_iff_eq,decide_eq_true_iff,ByteArray.toList_eq,ByteArray.toList_eq]
 constructor
 ·intro h
  apply (y26 hA hB).1
  cases hA':strOf A
  cases hB':strOf B
  rw [hA',hB'] at h
  congr 1
  exact Array.ext' h
 ·rintro rfl
  rfl
theorem Below.drewN {B:Nat} {a w:World} (h:Below B a w) (n:Nat):Below B a (w.drewN n):=⟨h.os,h.tape,h.output,h.size,h.block⟩
theorem x0H {w:World} {base n:Nat} {q:Option Addr} {c:Nat} {B:List Nat} (h:w.ownsRow base 5 1 (.slice q n c) n (vals B)) (hB:Sm.allB B):Tx w q n c B:=by
 have C:n=B.length:=by have:=h.1;rw [x00,Nat.mul_one] at this;exact this.symm
 rcases h.2 with ⟨A,H⟩ | ⟨g,G,E,A,r⟩
 ·simp at A
  obtain ⟨rfl,rfl,rfl⟩:=A
  exact ⟨C,Nat.le_refl _,hB,Or.inl ⟨rfl,rfl⟩,fun _ h _=>by cases h⟩
 ·simp at A
  obtain ⟨rfl,rfl⟩:=A
  exact (Bytes.of_owns h hB).tx
end Go.Proofs.YtinihaflmdihaaaGreat
namespace Go.Proofs.YtinihaflmdihaaaGreat
open Go.ChangeShapes Go.WideShapes Go.ChangeAt Go.RowKit Go.Deep
theorem y3w:ownKnob Tryz.prog.godebug=none:=by kernel_rfl
theorem x4h:laidOutB Tryz.prog=true:=by kernel_rfl
end Go.Proofs.YtinihaflmdihaaaGreat
namespace Go.Proofs.YtinihaflmdihaaaGreat
open Go.RowKit
structure Ints (w:World) (p:Option Addr) (n c:Nat) (R:List Int):Prop where
 size:n=R.length
 le:n≤c
 ok:∀x∈R,-9223372036854775808≤x∧x≤9223372036854775807
 at':R=[]∨∃g o,p=some ⟨g,o,none⟩∧∀i,i<R.length→w.cell? ⟨g,o+i,none⟩=some (.int .i64 (R.getD i 0))
theorem Ints.later {w w':World} {p:Option Addr} {n c:Nat} {R:List Int} (h:Ints w p n c R) (hb:Below w.heap.size w w'):Ints w' p n c R:=
 ⟨h.size,h.le,h.ok,h.at'.imp id fun ⟨g,o,hp,hx⟩=>⟨g,o,hp,fun i hi=>(hb.cell (p:=⟨g,o+i,none⟩) (block_lt_of_cell (hx i hi))).trans (hx i hi)⟩⟩
theorem Ints.get {w:World} {p:Option Addr} {n c:Nat} {R:List Int} (h:Ints w p n c R) (k:Nat) (hk:k<n): -9223372036854775808≤R.getD k 0∧R.getD k 0≤9223372036854775807:=by
 have A:k<R.length:=by rw [← h.size];exact hk
 rw [List.getD_eq_getElem?_getD,List.getElem?_eq_getElem A]
 exact h.ok _ (List.getElem_mem A)
theorem Ints.cell {w:World} {p:Option Addr} {n c:Nat} {R:List Int} (h:Ints w p n c R) (k:Nat) (hk:k<n):∃g o,p=some ⟨g,o,none⟩∧w.cell? ⟨g,o+k,none⟩=some (.int .i64 (R.getD k 0)):=by
 have A:k<R.length:=by rw [← h.size];exact hk
 rcases h.at' with B | ⟨g,o,E,C⟩
 ·rw [B] at A;exact absurd A (by simp)
 ·exact ⟨g,o,E,C k A⟩
end Go.Proofs.YtinihaflmdihaaaGreat
namespace Go.Proofs.YtinihaflmdihaaaGreat
open Go.ChangeShapes Go.WideShapes Go.ChangeAt Go.RowKit Go.Deep
theorem CI64:Tryz.prog.cellsOf 2=1:=by kernel_rfl
theorem UI64:Tryz.prog.underlying 2=some (.int .i64):=by kernel_rfl
theorem UR:Tryz.prog.underlying 24=some (.slice 2):=by kernel_rfl
end Go.Proofs.YtinihaflmdihaaaGreat
namespace Go.Proofs.YtinihaflmdihaaaGreat
open Go.RowKit
structure Rw where
 p:Option Addr
 (n c:Nat)
 R:List Int
instance:Inhabited Rw:=⟨⟨none,0,0,[]⟩⟩
def Rw.val (t:Rw):Value:=.slice t.p t.n t.c
structure Rw.Ok (w:World) (t:Rw):Prop where
 ints:Ints w t.p t.n t.c t.R
 top:t.n≤9223372036854775807
structure RowsIn (w:World) (p:Option Addr) (n c:Nat) (L:List Rw):Prop where
 size:n=L.length
 le:n≤c
 each:∀t∈L,t.Ok w
 at':L=[]∨∃g o,p=some ⟨g,o,none⟩∧∀i,i<L.length→w.cell? ⟨g,o+i,none⟩=some (L.getD i default).val
theorem Rw.Ok.later {w w':World} {t:Rw} (h:t.Ok w) (hb:Below w.heap.size w w'):t.Ok w':=⟨h.ints.later hb,h.top⟩
theorem RowsIn.later {w w':World} {p:Option Addr} {n c:Nat} {L:List Rw} (h:RowsIn w p n c L) (hb:Below w.heap.size w w'):RowsIn w' p n c L:=
 ⟨h.size,h.le,fun t ht=>(h.each t ht).later hb,h.at'.imp id fun ⟨g,o,hp,hx⟩=>⟨g,o,hp,fun i hi=>(hb.cell (p:=⟨g,o+i,none⟩) (block_lt_of_cell (hx i hi))).trans (hx i hi)⟩⟩
theorem RowsIn.cell {w:World} {p:Option Addr} {n c:Nat} {L:List Rw} (h:RowsIn w p n c L) (k:Nat) (hk:k<n):∃g o,p=some ⟨g,o,none⟩∧w.cell? ⟨g,o+k,none⟩=some (L.getD k default).val∧(L.getD k default).Ok w:=by
 have A:k<L.length:=by rw [← h.size];exact hk
 rcases h.at' with B | ⟨g,o,E,C⟩
 ·rw [B] at A;exact absurd A (by simp)
 ·refine ⟨g,o,E,C k A,?_⟩
  rw [List.getD_eq_getElem?_getD,List.getElem?_eq_getElem A]
  exact h.each _ (List.getElem_mem A)
end Go.Proofs.YtinihaflmdihaaaGreat
namespace Go.Proofs.YtinihaflmdihaaaGreat.Kt
open Go.ChangeShapes Go.WideShapes Go.ChangeAt Go.RowKit Go.Deep
theorem URs1:Tryz.prog.underlying 51=some (.slice 24):=by kernel_rfl
theorem CRow1:Tryz.prog.cellsOf 24=1:=by kernel_rfl
theorem open_rowsK {H:Type} {enc:TypeId×Value→H} {W:World} {base:Nat} {held:Bool} {fuel:Nat} {a0:Option Addr} {len0 cap0:Nat} {x:DataW H×List MemPlace}
  (h:DataW.trod enc Tryz.prog W base (fun _=>true) held fuel 51 (Value.slice a0 len0 cap0).cells.toList=some x):(∃L,RowsIn W a0 len0 cap0 L∧(a0=none→cap0=0))∧len0≤9223372036854775807:=by
 rcases open_int_rows URs1 UR UI64 CRow1 CI64 h with ⟨G,_⟩ | ⟨a,f,j,A,L,C,Z,G,_,R,U,_,J⟩
 ·simp [Value.cells] at G
  obtain ⟨rfl,rfl,rfl⟩:=G
  exact ⟨⟨[],⟨rfl,Nat.le_refl _,fun t ht=>absurd ht (by simp),Or.inl rfl⟩,fun _=>rfl⟩,by omega⟩
 ·simp [Value.cells] at G
  obtain ⟨rfl,rfl,rfl⟩:=G
  have N:∀r,r<len0→Rw.Ok W ⟨A r,L r,C r,(Z r).take (L r)⟩:=fun r P=>by
   obtain ⟨Q,c,d,k,b,X,Y⟩:=J r (by omega)
   refine ⟨⟨by show L r=_;rw [List.length_take];omega,c,fun y hy=>bounds_i64 (b y (List.mem_of_mem_take hy)),?_⟩,by show L r≤_;unfold maxLen at d;omega⟩
   rcases Nat.eq_zero_or_pos (L r) with I | I
   ·exact Or.inl (by rw [I,List.take_zero])
   ·cases hA:A r with
    | none=>have:=X hA;exact absurd I (by omega)
    | some a'=>
     have O:=(Y a' hA).2
     have M:=World.cell?_spot (O 0 (by omega))
     obtain ⟨g,o,E⟩:=a'
     have B:E=none:=by simpa [Addr.add] using M
     subst B
     refine Or.inr ⟨g,o,rfl,fun i hi=>?_⟩
     rw [List.length_take] at hi
     have:=O i (by omega)
     rw [show (⟨g,o,none⟩:Addr).add i=⟨g,o+i,none⟩ from by unfold Addr.add;split<;>simp_all] at this
     rw [this,List.getD_eq_getElem?_getD,List.getD_eq_getElem?_getD,List.getElem?_take_of_lt (by omega)]
  refine ⟨⟨(List.range len0).map fun r=>⟨A r,L r,C r,(Z r).take (L r)⟩,⟨by simp,R,fun t ht=>?_,?_⟩,fun e=>by cases e⟩,by unfold maxLen at U;omega⟩
  ·simp only [List.mem_map,List.mem_range] at ht
   obtain ⟨r,P,rfl⟩:=ht
   exact N r P
  ·rcases Nat.eq_zero_or_pos len0 with I | I
   ·exact Or.inl (by subst I;rfl)
   ·obtain ⟨g,o,E⟩:=a
    have B:E=none:=by simpa [Addr.add] using World.cell?_spot (J 0 (by omega)).1
    subst B
    refine Or.inr ⟨g,o,rfl,fun i hi=>?_⟩
    have K:i<len0:=by simpa using hi
    have Q:=(J i (by omega)).1
    rw [← Addr.add_mid]
    simp only [List.getD_eq_getElem?_getD,List.getElem?_map,List.getElem?_range K,Option.map_some,Option.getD_some,Rw.val]
    exact Q
end Go.Proofs.YtinihaflmdihaaaGreat.Kt
namespace Go.Proofs.YtinihaflmdihaaaGreat.Kt
open Go.RowKit
def lexLt:List Int→List Int→Bool
 | a::p,b::q=>if a=b then lexLt p q else decide (a<b)
 | _,_=>false
def lessP (k:Nat) (p q:List Int):Bool:=if p.getD k 0=q.getD k 0 then lexLt p q else decide (p.getD k 0<q.getD k 0)
def insP (k:Nat) (out:List (List Int)) (x:List Int):List (List Int):=out.takeWhile (fun y=>lessP k y x)++x::out.dropWhile (fun y=>lessP k y x)
def sortP (k:Nat) (L:List (List Int)):List (List Int):=L.foldl (insP k) []
inductive T where
 | nil:T
 | fork (row:List Int) (live:Bool) (l r:T):T
def T.size:T→Nat
 | .nil=>0
 | .fork _ _ l r=>1+l.size+r.size
def T.all:T→List (List Int)
 | .nil=>[]
 | .fork p v l r=>l.all++r.all++if v then [p] else []
def T.height:T→Nat
 | .nil=>0
 | .fork _ _ l r=>1+max l.height r.height
def layP:Nat→List (List Int)→Nat→T
 | 0,_,_=>.nil
 | n+1,L,t=>if L=[] then .nil else .fork ((sortP (t%(L.headD []).length) L).getD (L.length/2) []) true (layP n ((sortP (t%(L.headD []).length) L).take (L.length/2)) (t+1)) (layP n ((sortP (t%(L.headD []).length) L).drop (L.length/2+1)) (t+1))
def lay (L:List (List Int)) (t:Nat):T:=layP L.length L t
theorem x1j {α:Type} (f:α→Bool) (L:List α):(L.takeWhile f).length+(L.dropWhile f).length=L.length:=by
 rw [← List.length_append,List.takeWhile_append_dropWhile]
theorem x7l (k:Nat) (out:List (List Int)) (x:List Int):(insP k out x).length=out.length+1:=by
 unfold insP
 have:=x1j (fun y=>lessP k y x) out
 rw [List.length_append,List.length_cons]
 omega
theorem x4i (k:Nat):∀(L out:List (List Int)),(L.foldl (insP k) out).length=out.length+L.length
 |[],out=>by simp
 | x::L,out=>by
  rw [List.foldl_cons,x4i k L,x7l,List.length_cons]
  omega
theorem x0g (k:Nat) (L:List (List Int)):(sortP k L).length=L.length:=by
 unfold sortP
 rw [x4i]
 simp
theorem x6t (k:Nat) (out:List (List Int)) (x:List Int):(insP k out x).Perm (x::out):=by
 unfold insP
 have h:out.takeWhile (fun y=>lessP k y x)++out.dropWhile (fun y=>lessP k y x)=out:=List.takeWhile_append_dropWhile
 exact (List.perm_middle).trans (by rw [h])
theorem x6u (k:Nat):∀(L out:List (List Int)),(L.foldl (insP k) out).Perm (L++out)
 |[],out=>List.Perm.refl _
 | x::L,out=>by
  rw [List.foldl_cons]
  refine (x6u k L _).trans ?_
  exact ((x6t k out x).append_left L).trans List.perm_middle
theorem x1Y (k:Nat) (L:List (List Int)):(sortP k L).Perm L:=by
 have:=x6u k L []
 rwa [List.append_nil] at this
theorem x3C:∀(n m:Nat) (L:List (List Int)) (t:Nat),L.length≤n→L.length≤m→layP n L t=layP m L t
 | 0,0,_,_,_,_=>rfl
 | 0,m+1,L,t,h,_=>by
  have:L=[]:=List.length_eq_zero_iff.1 (by omega)
  rw [this]
  simp [layP]
 | n+1,0,L,t,_,h=>by
  have:L=[]:=List.length_eq_zero_iff.1 (by omega)
  rw [this]
  simp [layP]
 | n+1,m+1,L,t,h1,h2=>by
  rw [layP,layP]
  by_cases hL:L=[]
  ·rw [if_pos hL,if_pos hL]
  ·rw [if_neg hL,if_neg hL]
   have hp:=List.length_pos_iff.2 hL
   have l1:((sortP (t%(L.headD []).length) L).take (L.length/2)).length≤L.length/2:=by rw [List.length_take];omega
   have A:((sortP (t%(L.headD []).length) L).drop (L.length/2+1)).length≤L.length - (L.length/2+1):=by rw [List.length_drop,x0g];omega
   rw [x3C n m _ (t+1) (by omega) (by omega),x3C n m _ (t+1) (by omega) (by omega)]
theorem x8G {L:List (List Int)} {t:Nat} (hL:L≠[]):lay L t= .fork ((sortP (t%(L.headD []).length) L).getD (L.length/2) []) true (lay ((sortP (t%(L.headD []).length) L).take (L.length/2)) (t+1)) (lay ((sortP (t%(L.headD []).length) L).drop (L.length/2+1)) (t+1)):=by
 have C:=List.length_pos_iff.2 hL
 unfold lay
 obtain ⟨n,A⟩:∃n,L.length=n+1:=⟨L.length - 1,by omega⟩
 have E:((sortP (t%(L.headD []).length) L).take (L.length/2)).length≤L.length/2:=by rw [List.length_take];omega
 have B:((sortP (t%(L.headD []).length) L).drop (L.length/2+1)).length≤L.length - (L.length/2+1):=by rw [List.length_drop,x0g];omega
 conv=>lhs;rw [A,layP,if_neg hL]
 rw [x3C n _ _ (t+1) (by omega) (Nat.le_refl _),x3C n _ _ (t+1) (by omega) (Nat.le_refl _)]
def T.dims (d:Nat):T→Prop
 | .nil=>True
 | .fork p _ l r=>p.length=d∧l.dims d∧r.dims d
theorem x4j {d:Nat}:∀(n:Nat) (L:List (List Int)) (t:Nat),(∀p∈L,p.length=d)→(layP n L t).dims d
 | 0,_,_,_=>trivial
 | n+1,L,t,h=>by
  rw [layP]
  by_cases hL:L=[]
  ·rw [if_pos hL]
   trivial
  ·rw [if_neg hL]
   have hm:∀p∈sortP (t%(L.headD []).length) L,p.length=d:=fun p hp=>h p ((x1Y _ L).mem_iff.1 hp)
   have hp:=List.length_pos_iff.2 hL
   refine ⟨hm _ ?_,x4j n _ _ (fun p hp=>hm p (List.mem_of_mem_take hp)),x4j n _ _ (fun p hp=>hm p (List.mem_of_mem_drop hp))⟩
   rw [List.getD_eq_getElem?_getD,List.getElem?_eq_getElem (by rw [x0g];omega)]
   exact List.getElem_mem _
theorem x6E {d:Nat} {L:List (List Int)} {t:Nat} (h:∀p∈L,p.length=d):(lay L t).dims d:=x4j _ L t h
def RwIn (F:Nat→Prop) (r:Rw):Prop:=∀x,r.p=some x→r.R≠[]→F x.block
inductive TAt (F:Nat→Prop) (w:World):Option Addr→T→Prop
 | nil:TAt F w none .nil
 | fork {g:Nat} {r:Rw} {v:Bool} {p q:Option Addr} {l u:T} (row:w.heap[g]? =some (.cells #[r.val,.bool v,.pointer p,.pointer q] 105 (0,0))) (ok:r.Ok w) (hg:F g) (hF:RwIn F r) (hl:TAt F w p l) (hr:TAt F w q u):TAt F w (some ⟨g,0,none⟩) (.fork r.R v l u)
section
variable {F F':Nat→Prop} {w w':World} {p:Option Addr} {u:T}
theorem rw_lt {r:Rw} (h:r.Ok w):∀x,r.p=some x→r.R≠[]→x.block<w.heap.size:=fun x hx hR=>by
 rcases h.ints.at' with h0 | ⟨g,o,hp,hc⟩
 ·exact absurd h0 hR
 ·rw [hx] at hp
  obtain rfl:x=⟨g,o,none⟩:=by simpa using hp
  exact block_lt_of_cell (hc 0 (List.length_pos_iff.2 hR))
theorem y27 {r:Rw} (h:r.Ok w) (hF:RwIn F r) (hk:∀k,F k→k<w.heap.size→w'.heap[k]? =w.heap[k]?):r.Ok w':=
 ⟨⟨h.ints.size,h.ints.le,h.ints.ok,by
  have hlt:=rw_lt h
  refine h.ints.at'.imp id fun ⟨g,o,hp,hx⟩=>⟨g,o,hp,fun i hi=>?_⟩
  have hR:r.R≠[]:=by rintro e;rw [e] at hi;simp at hi
  rw [World.cell?_of_block (w:=w) (w':=w') (a:=⟨g,o+i,none⟩) (hk g (hF ⟨g,o,none⟩ hp hR) (hlt ⟨g,o,none⟩ hp hR))]
  exact hx i hi⟩,h.top⟩
theorem TAt.keep (h:TAt F w p u) (hk:∀k,F k→k<w.heap.size→w'.heap[k]? =w.heap[k]?):TAt F w' p u:=by
 induction h with
 | nil=>exact .nil
 | fork row ok hg hF _ _ h1 h2=>exact .fork ((hk _ hg (yL row)).trans row) (y27 ok hF hk) hg hF h1 h2
theorem TAt.later (h:TAt F w p u) (hb:Below w.heap.size w w'):TAt F w' p u:=h.keep fun k _ hk=>hb.block k hk
theorem TAt.wide (h:TAt F w p u) (hF:∀k,F k→F' k):TAt F' w p u:=by
 induction h with
 | nil=>exact .nil
 | fork row ok hg hR _ _ h1 h2=>exact .fork row ok (hF _ hg) (fun x hx hr=>hF _ (hR x hx hr)) h1 h2
theorem TAt.lt (h:TAt F w p u):TAt (fun k=>F k∧k<w.heap.size) w p u:=by
 induction h with
 | nil=>exact .nil
 | fork row ok hg hR _ _ h1 h2=>exact .fork row ok ⟨hg,(yL row)⟩ (fun x hx hr=>⟨hR x hx hr,rw_lt ok x hx hr⟩) h1 h2
theorem TAt.go {x:List Int} {v:Bool} {l u:T} (h:TAt F w p (.fork x v l u)):∃(g:Nat) (r:Rw) (a b:Option Addr),p=some ⟨g,0,none⟩∧x=r.R∧w.heap[g]? =some (.cells #[r.val,.bool v,.pointer a,.pointer b] 105 (0,0))∧r.Ok w∧F g∧RwIn F r∧TAt F w a l∧TAt F w b u:=by
 cases h with
 | fork row ok hg hR hl hr=>exact ⟨_,_,_,_,rfl,rfl,row,ok,hg,hR,hl,hr⟩
end
def hds (L:List Rw):List Value:=L.map Rw.val
theorem x1Z (L:List Rw):(hds L).length=L.length:=by simp [hds]
theorem x0c (A B:List Rw):hds (A++B)=hds A++hds B:=by simp [hds]
theorem x1Q (L:List Rw):∀u∈hds L,u.oneCell'=true:=by
 intro u hu
 simp only [hds,List.mem_map] at hu
 obtain ⟨x,_,rfl⟩:=hu
 rfl
structure Own (B:Nat) (w:World) (v:Value) (n:Nat) (L:List Rw):Prop where
 own:w.ownsRow B 24 1 v n (hds L)
 ok:∀r∈L,r.Ok w
section
variable {B:Nat} {w w':World} {v:Value} {n:Nat} {L:List Rw}
theorem Own.len (h:Own B w v n L):n=L.length:=by
 have:=h.own.1
 rw [x1Z,Nat.mul_one] at this
 exact this.symm
theorem Own.later (h:Own B w v n L) (hb:Below w.heap.size w w'):Own B w' v n L:=by
 obtain ⟨H,G⟩:=h.own
 refine ⟨⟨H,G.imp id ?_⟩,fun r hr=>(h.ok r hr).later hb⟩
 rintro ⟨g,C,A,I,J,E,r⟩
 exact ⟨g,C,A,I,J,(hb.block _ (yL E)).trans E,r⟩
theorem Own.base {B':Nat} (h:Own B w v n L) (hB:B'≤B):Own B' w v n L:=
 ⟨⟨h.own.1,h.own.2.imp id fun ⟨g,cap,cur,hv,hl,r⟩=>⟨g,cap,cur,hv,Nat.le_trans hB hl,r⟩⟩,h.ok⟩
theorem y3x (B:Nat) (w:World):Own B w (.slice none 0 0) 0 []:=⟨⟨rfl,Or.inl ⟨rfl,rfl⟩⟩,fun r hr=>by cases hr⟩
theorem Own.form (h:Own B w v n L):∃q c,v= .slice q n c:=by
 rcases h.own.2 with ⟨rfl,C⟩ | ⟨g,A,E,rfl,_⟩
 ·exact ⟨none,0,by rw [C]⟩
 ·exact ⟨_,A,rfl⟩
theorem x2u {w w':World} {base:Nat} {v:Value} {n:Nat} {xs:List Value} (h:w.ownsRow base 24 1 v n xs) (hb:Below w.heap.size w w'):w'.ownsRow base 24 1 v n xs:=by
 obtain ⟨G,E⟩:=h
 refine ⟨G,E.imp id ?_⟩
 rintro ⟨g,B,A,H,I,C,r⟩
 exact ⟨g,B,A,H,I,(hb.block _ (yL C)).trans C,r⟩
theorem Own.rows (h:Own B w v n L):∃q c,v= .slice q n c∧RowsIn w q n c L:=by
 have C:=h.len
 rcases h.own.2 with ⟨rfl,J⟩ | ⟨g,G,A,rfl,N,I,E,K,M,H⟩
 ·subst J
  exact ⟨none,0,rfl,C,Nat.le_refl _,h.ok,Or.inl (List.length_eq_zero_iff.1 C.symm)⟩
 ·refine ⟨_,G,rfl,C,E,h.ok,Or.inr ⟨g,0,rfl,fun i hi=>?_⟩⟩
  rw [Nat.zero_add,cell_of_row w g i A _ _ I]
  have e:(A.toList.take (n*1))[i]? =(hds L)[i]? :=by rw [H]
  rw [List.getElem?_take_of_lt (by omega)] at e
  simp [hds,List.getElem?_eq_getElem hi] at e
  rw [e]
  simp [List.getD_eq_getElem?_getD,List.getElem?_eq_getElem hi]
end
theorem x5Z {L:List Rw} {i:Nat} (h:i<L.length):(L.map Rw.R).getD i []=(L.getD i default).R:=by
 rw [List.getD_eq_getElem?_getD,List.getD_eq_getElem?_getD,List.getElem?_map,List.getElem?_eq_getElem h]
 rfl
theorem x2C {L:List Rw} {i:Nat} (h:i<L.length):L.getD i default∈L:=by
 rw [List.getD_eq_getElem?_getD,List.getElem?_eq_getElem h]
 exact List.getElem_mem h
theorem x3e:∀R:List Int,lexLt R R=false
 |[]=>rfl
 | x::R=>by
  unfold lexLt
  rw [if_pos rfl]
  exact x3e R
theorem x8H:∀(R S:List Int) (k:Nat),R.length=S.length→k<R.length→R.take k=S.take k→R.getD k 0≠S.getD k 0→lexLt R S=decide (R.getD k 0<S.getD k 0)
 |[],_,k,_,h,_,_=>by simp at h
 | x::R,[],k,h,_,_,_=>by simp at h
 | x::R,y::S,0,_,_,_,h=>by
  have h:x≠y:=h
  unfold lexLt
  rw [if_neg h]
  rfl
 | x::R,y::S,k+1,hl,hk,ht,h=>by
  have ht:x::R.take k=y::S.take k:=ht
  simp only [List.cons.injEq] at ht
  unfold lexLt
  rw [if_pos ht.1]
  exact x8H R S k (by simpa using hl) (by simpa using hk) ht.2 h
theorem y09 {R S:List Int} {k:Nat} (hl:R.length=S.length) (hk:k<R.length) (ht:R.take k=S.take k) (h:R.getD k 0=S.getD k 0):R.take (k+1)=S.take (k+1):=by
 rw [List.take_succ_eq_append_getElem hk,List.take_succ_eq_append_getElem (by omega),ht]
 rw [List.getD_eq_getElem?_getD,List.getD_eq_getElem?_getD,List.getElem?_eq_getElem hk,List.getElem?_eq_getElem (by omega)] at h
 simp only [Option.getD_some] at h
 rw [h]
theorem x9B {R S:List Int} {k:Nat} (hl:R.length=S.length) (hk:k=R.length) (ht:R.take k=S.take k):R=S:=by
 rw [List.take_of_length_le (by omega),List.take_of_length_le (by omega)] at ht
 exact ht
def y5A (w:World) (R S:List Int) (n:Nat) (i:Value) (wr:World):Prop:=∃(k j:Nat),k≤n∧i= .int .i64 k∧R.take k=S.take k∧wr=w.drewN j
theorem ret_b {x:Bool} {y:Bool} (h:x=y):Ending.returned (.bool x)= .returned (.bool y):=by rw [h]
theorem y0A (p q:Option Addr) (n c m e:Nat) (R S:List Int) (a:Nat) (w:World) (h1:Ints w p n c R) (h2:Ints w q m e S) (hmn:m=n) (ha:a<n) (hn9:n≤9223372036854775807):
  Calls Tryz.prog 61 #[.slice p n c,.slice q m e,.int .i64 a] w fun e w'=>e= .returned (.bool (lessP a R S))∧∃j,w'=w.drewN j:=by
 subst hmn
 have Q:=yH h1
 have U:=yH h2
 have A:=yH h1.size
 have B:=yH h2.size
 obtain ⟨f,o,rfl,E⟩:=h1.cell a ha
 obtain ⟨g,b,rfl,G⟩:=h2.cell a ha
 have X:(0:Int)≤a∧(a:Int)<m:=by omega
 have C:lessP a R S=if R.getD a 0=S.getD a 0 then lexLt R S else decide (R.getD a 0<S.getD a 0):=rfl
 clear h1 h2 ha
 generalize R.getD a 0=x0 at *
 generalize S.getD a 0=y0 at *
 go_enter Tryz.func61,Tryz.ntmps61
 by_cases hxy:x0=y0
 case neg=>
  rw [if_neg hxy] at C
  have K:=yH C
  have b1:(x0 !=y0)=true:=by simpa using hxy
  clear C hxy
  go_upto_region 1 with fail
  go_quiet (fail)
  go_upto_region 2 with fail
  go_quiet (fail)
  go_wp2_with fail
  go_ret
  refine ⟨ret_b K.out.symm,?_⟩
  first | exact ⟨_,rfl⟩ | (simp only [World.drewN_drewN];exact ⟨_,rfl⟩)
 rw [if_pos hxy] at C
 have K:=yH C
 subst hxy
 clear C
 go_upto_region 1 with fail
 go_quiet (fail)
 clear E G X
 go_wp2_with fail
 go_loopw [7] (fun i wr=>y5A w R S m i wr) (fun i _=>m - (intOf i).toNat)
 case atStart=>exact ⟨0,_,by omega,rfl,rfl,rfl⟩
 case round=>
  obtain ⟨k,j,l,rfl,I,rfl⟩:=hrel
  have O:=yH I
  clear I
  by_cases hlt:k<m
  ·obtain ⟨s,r,H,E⟩:=Q.out.cell k hlt
   obtain ⟨Y,Z,J,G⟩:=U.out.cell k hlt
   simp only [Option.some.injEq,Addr.mk.injEq,and_true] at H J
   obtain ⟨rfl,rfl⟩:=H
   obtain ⟨rfl,rfl⟩:=J
   have d:(0:Int)≤k∧(k:Int)<m:=by omega
   have L:=yH (fun (h:R.getD k 0≠S.getD k 0)=>x8H R S k (by rw [← A.out,← B.out]) (by rw [← A.out];exact hlt) O.out h)
   have M:=yH (fun (h:R.getD k 0=S.getD k 0)=>y09 (by rw [← A.out,← B.out]) (by rw [← A.out];exact hlt) O.out h)
   generalize R.getD k 0=x at *
   generalize S.getD k 0=y at *
   by_cases hxy:x=y
   ·have HM2:=yH (M.out hxy)
    subst hxy
    clear L M
    go_upto_region 6 with fail
    go_quiet (fail)
    go_wp2_with fail
    go_roundw
    case rel=>exact ⟨k+1,_,by omega,by go_num,HM2.out,by first | rfl | simp [World.drewN_drewN]⟩
    case measure=>simp [intOf];omega
   ·have b1:(x !=y)=true:=by simpa using hxy
    have N:=yH (L.out hxy)
    clear L M hxy
    go_upto_region 6 with fail
    go_quiet (fail)
    go_upto_region 7 with fail
    go_quiet (fail)
    go_wp2_with fail
    go_ret
    refine ⟨ret_b (by rw [K.out,N.out]),?_⟩
    first | exact ⟨_,rfl⟩ | (simp only [World.drewN_drewN];exact ⟨_,rfl⟩)
  ·obtain rfl:k=m:=by omega
   have P:=x9B (by rw [← A.out,← B.out]) A.out O.out
   have W:=yH (show lexLt R S=false from by rw [P];exact x3e S)
   clear P
   go_wp2_with fail
   go_ret
   exact ⟨ret_b (by rw [K.out,W.out]),_,rfl⟩
end Go.Proofs.YtinihaflmdihaaaGreat.Kt
