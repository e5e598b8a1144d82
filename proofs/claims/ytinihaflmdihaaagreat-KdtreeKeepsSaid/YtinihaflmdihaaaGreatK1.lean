/- Tk, Gen0, Gen, GenRow, GenDigest, GenInts, GenRw, GenDg, PgOp, CodMath, MorMath, MorBits, MorInts, GenTx. -/
import Derived.Deep.RegionHeld
import Derived.Lib.Hide
import Derived.Laws.BitsAllLaws
import Derived.Test.YtinihaflmdihaaaGreatProg
import Derived.WalkKit
import Derived.WalkSpells
import Derived.WalkLawsBesides
import Derived.BigQuiet
import Derived.Deep.QuietTactic
import Derived.StillTailTactics
import Derived.Deep.WholeRow
import Derived.Deep.MidRow
import Derived.Deep.RegionHeld3
import Derived.Deep.RegionLaw
import Derived.Deep.AppendLies
import Derived.Laws.AppendOwnNone
import Derived.ChangeKeysEq
import Derived.Lib.SlBytesConst
import Derived.Maps.AppendAt
import Derived.Deep.DeepMust
import Derived.Deep.DeepCutAuto
import Derived.Test.YtinihaflmdihaaaGreatRows
import Derived.ProofKit
import Derived.OpenShut
import Derived.ShutString
import Derived.ChangeOld
import Derived.Deep.Matrix
import Derived.IntWalk
set_option maxRecDepth 100000
set_option maxHeartbeats 8000000
set_option linter.all false
namespace Go.Proofs.YtinihaflmdihaaaGreat
theorem yH {p:Prop} (h:p):RowKit.Hid p:=h
theorem yL {α:Type} {xs:Array α} {i:Nat} {x:α} (h:xs[i]? =some x):i<xs.size:=(Array.getElem?_eq_some_iff.1 h).1
section
variable {P:Program} {ops:Array Oper} {Q:Exit→Act→World→Prop} {md:Region.Mode} {S:World→Prop} {fuel:Nat} {listed:Array Bool} {a:Act} {w:World} {d:Option Tmp} {op:Op} {ty:TypeId} {pos:String} {af:Array Edge} {gd:Option (Nat×Bool)}
theorem tQ (i:Nat) {a':Act} (v:Value) (hr:∀w,S w→(execOp a.eval ⟨d,op,ty,pos,af,gd⟩).run P w= .ok (.value v) w) (h:wpAnyH P md ops Q S fuel (listed.setIfInBounds i true) a' w)
  (hi:ops[i]? =some ⟨d,op,ty,pos,af,gd⟩:=by rfl) (h1:Region.noSelect ops=true:=by kernel_rfl) (h2:Region.free md ops listed i=true:=by kernel_rfl) (h3:(Region.ready md ops listed).contains i=true:=by kernel_rfl)
  (hQ:∀c a w,Q (.panic c) (a.put d v) w→Q (.panic c) a w:=by exact fun _ _ _ h=>h) (hw:Region.wanted ⟨d,op,ty,pos,af,gd⟩ (yielded ops a.tmps)=true:=by rfl)
  (ha:a.put d v=a':=by (simp only [Act.put,List.setIfInBounds_toArray,List.set_cons_zero,List.set_cons_succ];try with_reducible rfl)) (hS:S w:=by assumption):wpAnyH P md ops Q S (fuel+1) listed a w:=
 wpAnyH_take hi h1 h2 h3 hQ (Or.inl ⟨hw,hr⟩) hS (ha.symm▸h)
theorem tK (i:Nat) {a':Act} {v:Value} (h:wpAnyH P md ops Q S fuel (listed.setIfInBounds i true) a' w)
  (hi:ops[i]? =some ⟨d,op,ty,pos,af,gd⟩:=by rfl) (h1:Region.noSelect ops=true:=by kernel_rfl) (h2:Region.free md ops listed i=true:=by kernel_rfl) (h3:(Region.ready md ops listed).contains i=true:=by kernel_rfl)
  (hQ:∀c a w,Q (.panic c) (a.put d v) w→Q (.panic c) a w:=by exact fun _ _ _ h=>h) (hw:Region.wanted ⟨d,op,ty,pos,af,gd⟩ (yielded ops a.tmps)=true:=by rfl)
  (hr:∀w,S w→(execOp a.eval ⟨d,op,ty,pos,af,gd⟩).run P w= .ok (.value v) w:=by (intro w' hSw;go_simp;try with_reducible rfl))
  (ha:a.put d v=a':=by (simp only [Act.put,List.setIfInBounds_toArray,List.set_cons_zero,List.set_cons_succ];try with_reducible rfl)) (hS:S w:=by assumption):wpAnyH P md ops Q S (fuel+1) listed a w:=
 wpAnyH_take hi h1 h2 h3 hQ (Or.inl ⟨hw,hr⟩) hS (ha.symm▸h)
theorem tF (i:Nat) {a':Act} (h:wpAnyH P md ops Q S fuel (listed.setIfInBounds i true) a' w)
  (hi:ops[i]? =some ⟨d,op,ty,pos,af,gd⟩:=by rfl) (h1:Region.noSelect ops=true:=by kernel_rfl) (h2:Region.free md ops listed i=true:=by kernel_rfl) (h3:(Region.ready md ops listed).contains i=true:=by kernel_rfl)
  (hQ:∀c a w,Q (.panic c) (a.put d undef) w→Q (.panic c) a w:=by exact fun _ _ _ h=>h) (hw:Region.wanted ⟨d,op,ty,pos,af,gd⟩ (yielded ops a.tmps)=false:=by rfl)
  (ha:a.put d undef=a':=by (simp only [Act.put,List.setIfInBounds_toArray,List.set_cons_zero,List.set_cons_succ];try with_reducible rfl)) (hS:S w:=by assumption):wpAnyH P md ops Q S (fuel+1) listed a w:=
 wpAnyH_take hi h1 h2 h3 hQ (Or.inr ⟨hw,rfl⟩) hS (ha.symm▸h)
theorem rY (rs:List Nat) (h:AllReadyH P md ops Q S fuel listed a w rs) (hr:Region.ready md ops listed=rs:=by kernel_rfl) (hn:rs≠[]:=by simp):wpAnyH P md ops Q S (fuel+1) listed a w:=wpAnyH_ready hr hn h
theorem rC {i:Nat} {rs:List Nat}
  (h:∀K':Act→World→Prop,Shut (∀a w,S w→(S w→wpAnyH P md ops Q S fuel (listed.setIfInBounds i true) a w)→K' a w)→if Region.wanted ⟨d,op,ty,pos,af,gd⟩ (yielded ops a.tmps)=true then Oper.wp P ⟨d,op,ty,pos,af,gd⟩ a w K' Q else K' (a.put d undef) w)
  (hs:AllReadyH P md ops Q S fuel listed a w rs) (ho:ops[i]? =some ⟨d,op,ty,pos,af,gd⟩:=by rfl):AllReadyH P md ops Q S fuel listed a w (i::rs):=AllReadyH.cons ho h hs
end
end Go.Proofs.YtinihaflmdihaaaGreat
namespace Go.Proofs.YtinihaflmdihaaaGreat.Sm
def allB (l:List Nat):Prop:=∀x∈l,x<256
theorem getD_lt {l:List Nat} {m:Nat} (h:∀x∈l,x<m) (hm:0<m) (i:Nat):l.getD i 0<m:=by
 rw [List.getD_eq_getElem?_getD]
 cases hh:l[i]? with
 | none=>simpa using hm
 | some x=>simpa using h x (List.mem_of_getElem? hh)
theorem allB_drop {l:List Nat} (h:allB l) (n:Nat):allB (l.drop n):=fun x hx=>h x (List.mem_of_mem_drop hx)
theorem getD_take (B:List Nat) (n i:Nat) (h:i<n):(B.take n).getD i 0=B.getD i 0:=by
 simp [List.getD_eq_getElem?_getD,List.getElem?_take_of_lt h]
theorem getD_drop (B:List Nat) (n i:Nat):(B.drop n).getD i 0=B.getD (n+i) 0:=by
 simp [List.getD_eq_getElem?_getD]
theorem getD_app_left (A B:List Nat) (i:Nat) (h:i<A.length):(A++B).getD i 0=A.getD i 0:=by
 rw [List.getD_eq_getElem?_getD,List.getD_eq_getElem?_getD,List.getElem?_append_left h]
end Go.Proofs.YtinihaflmdihaaaGreat.Sm
namespace Go.Proofs.YtinihaflmdihaaaGreat
open Go.RowKit
def u8s (l:List Nat):Array Value:=(l.map fun x=>Value.int .u8 (x:Nat)).toArray
theorem ret_row {fn:Func} {P:Ending→World→Prop} (p:Tmp) {ty:TypeId} (hr:fn.results= #[.cell p ty]) {tmps:Array Value} {w:World} (g:Nat) (t:TypeId) (cs:Array Value) {n:Nat} {e:TypeId}
  (hu:Tryz.prog.underlying ty=some (.array n e)) (hi:(Tryz.prog.info? ty).map (·.size)=some n)
  (hp:tmps.getD p undef= .pointer (some ⟨g,0,none⟩)) (hg:w.heap[g]? =some (.cells cs t (0,0)))
  (hn:cs.size=n) (h:P (.returned (.agg cs)) w):bodyPost Tryz.prog fn P .ret ⟨tmps,[]⟩ w:=
 bodyPost_ret (a:=⟨tmps,[]⟩) (v:=.agg cs) (results_cell_row hr tmps w g t cs (0,0) (.array n e) hp hg hu rfl (by rw [hn];exact hi)) rfl h
theorem setRow_alloc (w:World) (old cs:Array Value) (t:TypeId):(w.alloc (.cells old t (0,0))).setRow w.heap.size cs=w.alloc (.cells cs t (0,0)):=by
 unfold World.setRow World.alloc
 congr 1
 apply Array.ext
 ·simp
 ·intro k h1 h2
  simp only [Array.getElem_modify,Array.getElem_push]
  by_cases hk:k=w.heap.size
  ·subst hk;simp
  ·have:k<w.heap.size:=by simp at h1;omega
   simp [this,Ne.symm hk]
structure SameHeap (w w':World):Prop where
 below:Below w.heap.size w w'
 heap:w'.heap=w.heap
theorem SameHeap.refl (w:World):SameHeap w w:=⟨Below.refl _ _,rfl⟩
theorem SameHeap.drewN {a w:World} (h:SameHeap a w) (n:Nat):SameHeap a (w.drewN n):=by
 induction n with
 | zero=>exact h
 | succ n ih=>exact ⟨ih.below.drew,ih.heap⟩
theorem SameHeap.cell {a w:World} (h:SameHeap a w) (p:Addr):w.cell? p=a.cell? p:=by simp only [World.cell?,h.heap]
theorem SameHeap.frozen {a w:World} (h:SameHeap a w) (p:Addr):w.frozen? p=a.frozen? p:=by simp only [World.frozen?,h.heap]
theorem Below.setRow {B:Nat} {a w:World} (h:Below B a w) {g:Nat} (hg:B≤g) (cs:Array Value):Below B a (w.setRow g cs):=
 h.trans ⟨rfl,rfl,rfl,by simp,fun k hk=>setRow_other _ _ _ _ (by omega)⟩
def bytesAt (w:World) (g o:Nat) (B:List Nat):Prop:=∀i,i<B.length→w.cell? ⟨g,o+i,none⟩=some (.int .u8 (B.getD i 0:Nat))
def zeros (n:Nat):List Nat:=List.replicate n 0
theorem zeros_succ {n:Nat} (h:0<n):zeros n=0::zeros (n - 1):=by
 cases n with
 | zero=>omega
 | succ n=>rfl
theorem getD_left {l:List Nat} (r:List Nat) (i:Nat) (h:i<l.length):(l++r).getD i 0=l.getD i 0:=by
 rw [List.getD_eq_getElem?_getD,List.getD_eq_getElem?_getD,List.getElem?_append_left h]
structure Bytes (w:World) (p:Option Addr) (len cap:Nat) (B:List Nat):Prop where
 size:len=B.length
 le:len≤cap
 ok:Sm.allB B
 at':cap=0∨∃g o,p=some ⟨g,o,none⟩∧bytesAt w g o B
theorem Bytes.ne {w:World} {p:Option Addr} {len cap:Nat} {B:List Nat} (h:Bytes w p len cap B) (hn:B≠[]):∃g o,p=some ⟨g,o,none⟩∧bytesAt w g o B:=by
 rcases h.at' with hc | h1
 ·have:=h.size
  have:=h.le
  exact absurd (List.length_eq_zero_iff.1 (by omega)) hn
 ·exact h1
theorem Bytes.later {w w':World} {p:Option Addr} {len cap:Nat} {B:List Nat} (h:Bytes w p len cap B) {H:Nat} (hb:Below H w w') (hH:∀g o,p=some ⟨g,o,none⟩→B≠[]→g<H):Bytes w' p len cap B:=
 ⟨h.size,h.le,h.ok,h.at'.imp id fun ⟨g,o,hp,hx⟩=>⟨g,o,hp,fun i hi=>(hb.cell (p:=⟨g,o+i,none⟩) (hH g o hp (by intro e;rw [e] at hi;simp at hi))).trans (hx i hi)⟩⟩
theorem Bytes.lt {w:World} {p:Option Addr} {len cap:Nat} {B:List Nat} (h:Bytes w p len cap B):∀g o,p=some ⟨g,o,none⟩→B≠[]→g<w.heap.size:=fun g o hp hn=>by
 obtain ⟨g',o',hp',hx⟩:=h.ne hn
 rw [hp] at hp'
 obtain ⟨rfl,rfl⟩:g=g'∧o=o':=by simpa using hp'
 exact block_lt_of_cell (hx 0 (List.length_pos_iff.2 hn))
theorem bytesAt.drop {w:World} {g o:Nat} {B:List Nat} (h:bytesAt w g o B) (n:Nat):bytesAt w g (o+n) (B.drop n):=fun i hi=>by
 have h1:n+i<B.length:=by simp at hi;omega
 have:=h (n+i) h1
 rw [Nat.add_assoc,this]
 simp [List.getD_eq_getElem?_getD]
def lenOf:Value→Nat
 | .slice _ n _=>n
 | _=>0
theorem u8s_get (l:List Nat) (i:Nat) (h:i<l.length):(u8s l)[i]? =some (.int .u8 (l.getD i 0:Nat)):=by
 simp [u8s,List.getD_eq_getElem?_getD,List.getElem?_eq_getElem h]
theorem u8s_cell {w:World} {g:Nat} {l:List Nat} {t:TypeId} {fr:Nat×Nat} (hg:w.heap[g]? =some (.cells (u8s l) t fr)) (i:Nat) (h:i<l.length):w.cell? ⟨g,i,none⟩=some (.int .u8 (l.getD i 0:Nat)):=by
 rw [cell_of_row w g i _ t fr hg,u8s_get l i h]
theorem u8s_set (p r:List Nat) (y x k:Nat) (hk:p.length=k):(u8s (p++y::r)).setIfInBounds k (.int .u8 (x:Nat))=u8s (p++x::r):=by
 subst hk
 apply Array.ext'
 simp [u8s]
theorem u8s_one (l:List Nat):(u8s l).all (·.oneCell')=true:=by simp [u8s,Value.oneCell']
theorem u8s_size (l:List Nat):(u8s l).size=l.length:=by simp [u8s]
theorem run_index_array {P:Program} {t e:TypeId} {n:Nat} (ht:P.underlying t=some (.array n e)) {d:TypeDesc} (hd:P.underlying e=some d) (hnd:(match d with | .struct _=>false | .array _ _=>false | _=>true)=true)
  (hs:(P.info? e).map (·.size)=some 1) (cs:Array Value) (k:Nat) (hk:k<n) (v:Value) (hv:cs[k]? =some v) (w:World):
  (Instr.index t (.agg cs) (.int .i64 k)).run P w= .ok v w:=by
 have hagg:(isAgg e).run P w= .ok false w:=by
  unfold isAgg
  rw [Sem.run_bind,run_underlying hd w]
  cases d<;>simp_all
 cases hq:P.info? e with
 | none=>simp [hq] at hs
 | some i=>
  have hsz:i.size=1:=by simpa [hq] using hs
  have hb:(0:Int)≤k∧(k:Int)<n:=by omega
  simp [Instr.index,run_underlying ht,asIntOf,hb,part,sizeOf,typeInfo,hq,hsz,hagg,hv,Sem.run_bind]
  intro h
  omega
theorem U5:Tryz.prog.underlying 5=some (.int .u8):=by kernel_rfl
theorem I5:(Tryz.prog.info? 5).map (fun i=>(i.zero,i.size,i.bytes))=some (some (.int .u8 0),1,1):=by kernel_rfl
def vals (l:List Nat):List Value:=l.map fun x=>Value.int .u8 (x:Nat)
theorem vals_length (l:List Nat):(vals l).length=l.length:=by simp [vals]
theorem vals_get (l:List Nat) (i:Nat) (h:i<l.length):(vals l)[i]? =some (.int .u8 (l.getD i 0:Nat)):=by
 simp [vals,List.getD_eq_getElem?_getD,List.getElem?_eq_getElem h]
theorem Bytes.of_owns {w:World} {base g n cap:Nat} {B:List Nat} (h:w.ownsRow base 5 1 (.slice (some ⟨g,0,none⟩) n cap) n (vals B)) (hB:Sm.allB B):Bytes w (some ⟨g,0,none⟩) n cap B:=by
 obtain ⟨hl,h2⟩:=h
 have hn:n=B.length:=by simpa [vals_length] using hl.symm
 rcases h2 with ⟨h3,_⟩ | ⟨g',cap',cur,hv,hb,hg,hle,hm,hs,ht⟩
 ·simp at h3
 ·obtain ⟨rfl,rfl⟩:g=g'∧cap=cap':=by simpa using hv
  refine ⟨hn,hle,hB,Or.inr ⟨g,0,rfl,fun i hi=>?_⟩⟩
  rw [Nat.zero_add,cell_of_row w g i cur _ _ hg]
  have e:(cur.toList.take (n*1))[i]? =(vals B)[i]? :=by rw [ht]
  rw [vals_get B i hi,List.getElem?_take_of_lt (by omega)] at e
  simpa using e
theorem made_zeros (n:Nat):madeCells (Value.cells (.int .u8 0)) n=u8s (zeros n):=by
 apply Array.ext
 ·simp [size_madeCells,u8s,zeros]
 ·intro i h1 h2
  simp [madeCells,u8s,zeros,Value.cells,Nat.mod_one]
theorem u8s_toList (l:List Nat):(u8s l).toList=vals l:=by simp [u8s,vals]
theorem vals_one (l:List Nat):∀u∈vals l,u.oneCell'=true:=by
 intro u hu
 simp only [vals,List.mem_map] at hu
 obtain ⟨x,_,rfl⟩:=hu
 rfl
theorem owns_mk {w:World} {base g n cap:Nat} {L:List Nat} (hg:w.heap[g]? =some (.cells (u8s L) 5 (0,0))) (hL:L.length=cap) (hn:n≤cap) (hm:cap≤maxLen) (hb:base≤g):
  w.ownsRow base 5 1 (.slice (some ⟨g,0,none⟩) n cap) n (vals (L.take n)):=by
 refine ⟨by simp [vals];omega,Or.inr ⟨g,cap,u8s L,rfl,hb,hg,hn,hm,by rw [u8s_size];omega,?_⟩⟩
 rw [u8s_toList,Nat.mul_one]
 simp [vals]
theorem cells_of_row {w:World} {g:Nat} {L:List Nat} {t:TypeId} (hg:w.heap[g]? =some (.cells (u8s L) t (0,0))):∀j u,(vals L)[j]? =some u→w.cell? ((⟨g,0,none⟩:Addr).add j)=some u:=fun j u hu=>by
 rw [Addr.add_mid,Nat.zero_add,cell_of_row w g j _ _ _ hg,← Array.getElem?_toList,u8s_toList]
 exact hu
theorem heap_setCells_other (g:Nat):∀(vs:List Value) (o:Nat) (w:World) (k:Nat),k≠g→(w.setCells g o vs).heap[k]? =w.heap[k]?
 |[],_,_,_,_=>rfl
 | v::r,o,w,k,h=>by
  rw [World.setCells,heap_setCells_other g r (o+1) _ k h,heap_setCell_other _ _ _ _ h]
theorem heap_setCells_same (g:Nat) (t:TypeId):∀(vs A B C:List Value) (w:World),w.heap[g]? =some (.cells (A++B++C).toArray t (0,0))→vs.length=B.length→
  (w.setCells g A.length vs).heap[g]? =some (.cells (A++vs++C).toArray t (0,0))
 |[],A,B,C,w,h,hl=>by
  obtain rfl:B=[]:=List.length_eq_zero_iff.1 (by simpa using hl.symm)
  exact h
 | v::r,A,B,C,w,h,hl=>by
  match B,hl with
  | b::B,hl=>
   have h1:=heap_setCell_same w g A.length _ _ v h
   have e:((A++b::B++C).toArray).setIfInBounds A.length v=((A++[v])++B++C).toArray:=by
    apply Array.ext'
    simp
   rw [e] at h1
   have:=heap_setCells_same g t r (A++[v]) B C _ h1 (by simpa using hl)
   rw [World.setCells]
   simpa using this
theorem size_setCells (g:Nat):∀(vs:List Value) (o:Nat) (w:World),(w.setCells g o vs).heap.size=w.heap.size∧(w.setCells g o vs).os=w.os∧(w.setCells g o vs).tape=w.tape∧(w.setCells g o vs).output=w.output
 |[],_,_=>⟨rfl,rfl,rfl,rfl⟩
 | v::r,o,w=>by
  obtain ⟨h1,h2,h3,h4⟩:=size_setCells g r (o+1) (w.setCell ⟨g,o,none⟩ v)
  rw [World.setCells]
  exact ⟨h1.trans (by simp [World.setCell]),h2.trans rfl,h3.trans rfl,h4.trans rfl⟩
theorem rangeAt_row {w:World} {g:Nat} {t:TypeId} (A B C:List Value) (h:w.heap[g]? =some (.cells (A++B++C).toArray t (0,0))):w.rangeAt g A.length B:=fun j v hv=>by
 have hj:j<B.length:=(List.getElem?_eq_some_iff.1 hv).1
 rw [cell_of_row w g _ _ t _ h]
 rw [List.getElem?_eq_getElem hj] at hv
 simpa [hj,List.getElem?_append_right,List.getElem?_append] using hv
theorem there_row {w:World} {g:Nat} {t:TypeId} {C:Array Value} (h:w.heap[g]? =some (.cells C t (0,0))) (o n:Nat) (hn:o+n≤C.size):w.there g o n:=fun j hj=>by
 refine ⟨?_,frozen_of_row w g _ _ t h⟩
 rw [cell_of_row w g _ _ t _ h,Array.getElem?_eq_getElem (by omega)]
 rfl
theorem vals_toArray (l:List Nat):(vals l).toArray=u8s l:=rfl
theorem bytesAt.take {w:World} {g o:Nat} {B:List Nat} (h:bytesAt w g o B) (n:Nat):bytesAt w g o (B.take n):=fun i hi=>by
 have h1:i<B.length:=by simp at hi;omega
 rw [h i h1]
 have h2:i<n:=by simp at hi;omega
 simp [List.getD_eq_getElem?_getD,List.getElem?_take_of_lt h2]
theorem Bytes.take {w:World} {p:Option Addr} {len cap:Nat} {B:List Nat} (h:Bytes w p len cap B) (n:Nat) (hn:n≤len):Bytes w p n cap (B.take n):=
 ⟨by have:=h.size;simp;omega,by have:=h.le;omega,fun x hx=>h.ok x (List.mem_of_mem_take hx),h.at'.imp id fun ⟨g,o,hp,hx⟩=>⟨g,o,hp,hx.take n⟩⟩
theorem grown_setCells {w w1:World} {g:Nat} (h:w.grownBy w1 (some g)) (o:Nat) (vs:List Value):w.grownBy (w1.setCells g o vs) (some g):=by
 obtain ⟨h1,h2,h3,h4⟩:=size_setCells g vs o w1
 exact ⟨h2.trans h.os,h3.trans h.tape,h4.trans h.output,by rw [h1];exact h.size,fun k hk hne=>(heap_setCells_other g vs o w1 k (by intro e;exact hne (by rw [e]))).trans (h.block k hk hne)⟩
theorem grown_later {w w1 w2:World} {r:Option Nat} (h:w.grownBy w1 r) (hb:Below w1.heap.size w1 w2):w.grownBy w2 r:=
 ⟨hb.os.trans h.os,hb.tape.trans h.tape,hb.output.trans h.output,Nat.le_trans h.size hb.size,fun k hk hne=>(hb.block k (Nat.lt_of_lt_of_le hk h.size)).trans (h.block k hk hne)⟩
theorem Bytes.grown {w w':World} {p:Option Addr} {len cap:Nat} {B:List Nat} (h:Bytes w p len cap B) {g:Nat} (hg:w.grownBy w' (some g)) (hn:B≠[]→∀a,p=some a→a.block≠g):Bytes w' p len cap B:=
 ⟨h.size,h.le,h.ok,h.at'.imp id fun ⟨b,o,hp,hx⟩=>⟨b,o,hp,fun i hi=>by
  have h1:=hx i hi
  have hb:w'.heap[b]? =w.heap[b]? :=hg.block b (block_lt_of_cell h1) (by intro e;exact hn (by intro e0;rw [e0] at hi;simp at hi) _ hp (by simpa using e))
  rw [World.cell?_of_block (w:=w) (w':=w') (a:=⟨b,o+i,none⟩) hb]
  exact h1⟩⟩
theorem grown_setCell (w:World) (g o:Nat) (u:Value):w.grownBy (w.setCell ⟨g,o,none⟩ u) (some g):=
 ⟨rfl,rfl,rfl,by simp [World.setCell],fun k _ hne=>heap_setCell_other _ _ _ _ (by intro e;exact hne (by rw [e]))⟩
theorem Bytes.heap {w w':World} {p:Option Addr} {len cap:Nat} {B:List Nat} (h:Bytes w p len cap B) (e:w'.heap=w.heap):Bytes w' p len cap B:=
 ⟨h.size,h.le,h.ok,h.at'.imp id fun ⟨b,o,hp,hx⟩=>⟨b,o,hp,fun i hi=>by
  have h1:=hx i hi
  simp only [World.cell?,e] at h1 ⊢
  exact h1⟩⟩
theorem E5:(Tryz.prog.info? 5).map (·.size)=some 1:=by kernel_rfl
theorem vals_drop (B:List Nat) (n:Nat):vals (B.drop n)=(vals B).drop n:=by simp [vals]
theorem Bytes.drop {w:World} {g o ln cp:Nat} {B:List Nat} (h:Bytes w (some ⟨g,o,none⟩) ln cp B) (m:Nat) (hl:m≤ln):Bytes w (some ⟨g,o+m,none⟩) (ln - m) (cp - m) (B.drop m):=by
 have h1:=h.size
 have h2:=h.le
 refine ⟨by simp;omega,by omega,Sm.allB_drop h.ok m,Or.inr ⟨g,o+m,rfl,?_⟩⟩
 rcases h.at' with hc | ⟨g',o',hp,hx⟩
 ·intro i hi
  simp only [List.length_drop] at hi
  omega
 ·obtain ⟨rfl,rfl⟩:g=g'∧o=o':=by simpa using hp
  exact hx.drop m
theorem below_of {w w1 w2:World} (hb:Below w1.heap.size w1 w2) (e:w1.heap=w.heap) (e1:w1.os=w.os) (e2:w1.tape=w.tape) (e3:w1.output=w.output):Below w.heap.size w w2:=
 ⟨hb.os.trans e1,hb.tape.trans e2,hb.output.trans e3,by rw [← e];exact hb.size,fun k hk=>by rw [hb.block k (by rw [e];exact hk),e]⟩
theorem setRow_alloc2 (w:World) (A:Obj) (old cs:Array Value) (t:TypeId):((w.alloc A).alloc (.cells old t (0,0))).setRow (w.heap.size+1) cs=(w.alloc A).alloc (.cells cs t (0,0)):=by
 have:=setRow_alloc (w.alloc A) old cs t
 rw [show (w.alloc A).heap.size=w.heap.size+1 from by simp] at this
 exact this
theorem zeros_ok (n:Nat):Sm.allB (zeros n):=fun x hx=>by
 have:=(List.mem_replicate.1 hx).2
 omega
structure Tx (w:World) (p:Option Addr) (len cap:Nat) (B:List Nat):Prop where
 size:len=B.length
 le:len≤cap
 ok:Sm.allB B
 at':(p=none∧cap=0)∨∃x,p=some x∧∀j u,(vals B)[j]? =some u→w.cell? (x.add j)=some u
 sp:∀x,p=some x→0<cap→x.spot=none
theorem Tx.later {w w':World} {p:Option Addr} {len cap:Nat} {B:List Nat} (h:Tx w p len cap B) (hb:Below w.heap.size w w'):Tx w' p len cap B:=
 ⟨h.size,h.le,h.ok,h.at'.imp id fun ⟨x,hp,hx⟩=>⟨x,hp,fun j u hu=>(hb.cell (p:=x.add j) (block_lt_of_cell (hx j u hu))).trans (hx j u hu)⟩,h.sp⟩
theorem Tx.cells {w:World} {x:Addr} {n c:Nat} {B:List Nat} (h:Tx w (some x) n c B):∀j u,(vals B)[j]? =some u→w.cell? (x.add j)=some u:=by
 rcases h.at' with ⟨hp,_⟩ | ⟨y,hp,hx⟩
 ·cases hp
 ·cases hp;exact hx
structure Texts (w:World) (p:Option Addr) (len cap:Nat) (L:List (List Nat)):Prop where
 size:len=L.length
 le:len≤cap
 at':L≠[]→∃g o,p=some ⟨g,o,none⟩∧∀i,i<L.length→∃q n c,w.cell? ⟨g,o+i,none⟩=some (.slice q n c)∧Tx w q n c (L.getD i [])
theorem Texts.later {w w':World} {p:Option Addr} {len cap:Nat} {L:List (List Nat)} (h:Texts w p len cap L) (hb:Below w.heap.size w w'):Texts w' p len cap L:=
 ⟨h.size,h.le,fun hn=>by
  obtain ⟨g,o,hp,hx⟩:=h.at' hn
  refine ⟨g,o,hp,fun i hi=>?_⟩
  obtain ⟨q,n,c,h1,h2⟩:=hx i hi
  exact ⟨q,n,c,(hb.cell (p:=⟨g,o+i,none⟩) (block_lt_of_cell h1)).trans h1,h2.later hb⟩⟩
theorem take_succ_getD (L:List (List Nat)) (k:Nat) (h:k<L.length):L.take (k+1)=L.take k++[L.getD k []]:=by
 rw [List.take_succ_eq_append_getElem h,List.getD_eq_getElem?_getD,List.getElem?_eq_getElem h];rfl
theorem vals_append (A B:List Nat):vals (A++B)=vals A++vals B:=by simp [vals]
theorem owns_later {w w':World} {base:Nat} {v:Value} {n:Nat} {xs:List Value} (h:w.ownsRow base 5 1 v n xs) (hb:Below w.heap.size w w'):w'.ownsRow base 5 1 v n xs:=by
 obtain ⟨h1,h2⟩:=h
 refine ⟨h1,h2.imp id ?_⟩
 rintro ⟨g,cap,cur,hv,hg,hh,r⟩
 exact ⟨g,cap,cur,hv,hg,(hb.block _ (yL hh)).trans hh,r⟩
theorem Bytes.cells {w:World} {g o n c:Nat} {B:List Nat} (h:Bytes w (some ⟨g,o,none⟩) n c B):∀j u,(vals B)[j]? =some u→w.cell? ((⟨g,o,none⟩:Addr).add j)=some u:=fun j u hu=>by
 have hj:j<B.length:=by have:=(List.getElem?_eq_some_iff.1 hu).1;simpa [vals] using this
 obtain ⟨g',o',hp,hx⟩:=h.ne (by intro e;rw [e] at hj;simp at hj)
 obtain ⟨rfl,rfl⟩:g=g'∧o=o':=by simpa using hp
 rw [vals_get _ _ hj] at hu
 rw [Addr.add_mid,hx j hj,hu]
theorem Bytes.tx {w:World} {p:Option Addr} {n c:Nat} {B:List Nat} (h:Bytes w p n c B):Tx w p n c B:=by
 have h1:=h.size
 have h2:=h.le
 rcases h.at' with hc | ⟨g,o,hp,hx⟩
 ·refine ⟨h1,h2,h.ok,?_,fun _ _ h3=>by omega⟩
  cases p with
  | none=>exact Or.inl ⟨rfl,hc⟩
  | some x=>
   refine Or.inr ⟨x,rfl,fun j u hu=>?_⟩
   have:=(List.getElem?_eq_some_iff.1 hu).1
   rw [vals_length] at this
   omega
 ·subst hp
  exact ⟨h1,h2,h.ok,Or.inr ⟨_,rfl,h.cells⟩,fun x hx _=>by cases hx;rfl⟩
theorem Tx.bytes {w:World} {p:Option Addr} {n c:Nat} {B:List Nat} (h:Tx w p n c B):Bytes w p n c B:=by
 refine ⟨h.size,h.le,h.ok,?_⟩
 rcases h.at' with ⟨_,hc⟩ | ⟨x,hp,hx⟩
 ·exact Or.inl hc
 ·rcases Nat.eq_zero_or_pos c with h0 | h0
  ·exact Or.inl h0
  ·have hs:=h.sp x hp h0
   obtain ⟨g,o,sp⟩:=x
   obtain rfl:sp=none:=hs
   exact Or.inr ⟨g,o,hp,fun i hi=>by rw [← Addr.add_mid];exact hx i _ (vals_get B i hi)⟩
theorem A9:Tryz.prog.underlying 9=some .string:=by kernel_rfl
theorem C5:Tryz.prog.cellsOf 5=1:=by kernel_rfl
theorem run_part_u8 (l:List Nat) (i:Nat) (h:i<l.length) (w:World):(_root_.Go.part 5 (u8s l) (i*1)).run Tryz.prog w= .ok (.int .u8 (l.getD i 0:Nat)) w:=by
 have hagg:(isAgg 5).run Tryz.prog w= .ok false w:=by
  unfold isAgg
  rw [Sem.run_bind,run_underlying U5 w]
  rfl
 have:=u8s_get l i h
 simp [_root_.Go.part,Sem.run_bind,hagg,this]
theorem eqItems_u8 (a b:List Nat) (d:Nat) (w:World):∀is:List Nat,(∀i∈is,i<a.length∧i<b.length)→(Op.eqItems (d+1) 5 1 (u8s a) (u8s b) is).run Tryz.prog w= .ok (is.all fun i=>a.getD i 0==b.getD i 0) w
 |[],_=>rfl
 | i::is,h=>by
  have h1:=h i (by simp)
  have ih:=eqItems_u8 a b d w is (fun j hj=>h j (by simp [hj]))
  have e1:(Op.equalIn (d+1) 5 (.int .u8 (a.getD i 0:Nat)) (.int .u8 (b.getD i 0:Nat))).run Tryz.prog w= .ok (a.getD i 0==b.getD i 0) w:=by
   rw [run_equalIn_int w d 5 .u8 .u8 _ _ U5]
   congr 1
   rw [Bool.eq_iff_iff]
   simp only [beq_iff_eq]
   omega
  simp only [Op.eqItems,Sem.run_bind,run_part_u8 a i h1.1,run_part_u8 b i h1.2,Result.andThen_ok,e1]
  cases hc:(a.getD i 0==b.getD i 0)
  ·simp only [List.all_cons,hc,Bool.false_and]
   rfl
  ·simp only [List.all_cons,hc,Bool.true_and,Bool.not_true,Bool.false_eq_true,if_false]
   exact ih
theorem all_getD (a b:List Nat) (ha:a.length=32) (hb:b.length=32):((List.range 32).all fun i=>a.getD i 0==b.getD i 0)=decide (a=b):=by
 rw [Bool.eq_iff_iff]
 simp only [List.all_eq_true,List.mem_range,beq_iff_eq,decide_eq_true_eq]
 constructor
 ·intro h
  apply List.ext_getElem (by omega)
  intro i h1 h2
  have:=h i (by omega)
  simpa [List.getD_eq_getElem?_getD,List.getElem?_eq_getElem h1,List.getElem?_eq_getElem h2] using this
 ·rintro rfl i _
  rfl
theorem Bytes.row {w:World} {g:Nat} {L:List Nat} {t:TypeId} {fr:Nat×Nat} (hg:w.heap[g]? =some (.cells (u8s L) t fr)) (hL:Sm.allB L):Bytes w (some ⟨g,0,none⟩) L.length L.length L:=
 ⟨rfl,Nat.le_refl _,hL,Or.inr ⟨g,0,rfl,fun i hi=>by rw [Nat.zero_add];exact u8s_cell hg i hi⟩⟩
def txt (s:ByteArray):List Nat:=s.data.toList.map UInt8.toNat
def strOf (l:List Nat):ByteArray:=strOfNums (l.map Int.ofNat)
theorem txt_strOf {l:List Nat} (h:Sm.allB l):txt (strOf l)=l:=by
 unfold txt strOf
 rw [strOfNums_data,List.map_map,List.map_map]
 conv=>rhs;rw [← List.map_id l]
 apply List.map_congr_left
 intro x hx
 have:=h x hx
 simp
 omega
theorem grown_below {w wr w':World} {g:Nat} (h:Below w.heap.size w wr) (hg:wr.grownBy w' (some g)) (hl:w.heap.size≤g):Below w.heap.size w w':=
 h.grown hg h.size (fun k hk=>by simp at hk;omega)
theorem owns_form {w:World} {base n:Nat} {v:Value} {B:List Nat} (h:w.ownsRow base 5 1 v n (vals B)) (hB:Sm.allB B):∃q c,v= .slice q n c∧Bytes w q n c B:=by
 have hl:n=B.length:=by have:=h.1;rw [vals_length,Nat.mul_one] at this;exact this.symm
 rcases h.2 with ⟨rfl,h0⟩ | ⟨g,cap,cur,rfl,r⟩
 ·subst h0
  have hb:B=[]:=List.length_eq_zero_iff.1 hl.symm
  exact ⟨none,0,rfl,⟨hl,Nat.le_refl _,hB,Or.inl rfl⟩⟩
 ·exact ⟨_,cap,rfl,Bytes.of_owns h hB⟩
theorem grown_twice {a b c:World} {r:Option Nat} (h:a.grownBy b r) (k:b.grownBy c r):a.grownBy c r:=
 ⟨k.os.trans h.os,k.tape.trans h.tape,k.output.trans h.output,Nat.le_trans h.size k.size,fun i hi hne=>(k.block i (Nat.lt_of_lt_of_le hi h.size) hne).trans (h.block i hi hne)⟩
theorem strOf_eq {A B:List Nat} (hA:Sm.allB A) (hB:Sm.allB B):strOf A=strOf B↔A=B:=by
 constructor
 ·intro h
  rw [← txt_strOf hA,← txt_strOf hB,h]
 ·rintro rfl
  rfl
theorem Tx.heap {w w':World} {p:Option Addr} {n c:Nat} {B:List Nat} (h:Tx w p n c B) (e:w'.heap=w.heap):Tx w' p n c B:=
 ⟨h.size,h.le,h.ok,h.at'.imp id fun ⟨x,hp,hx⟩=>⟨x,hp,fun j u hu=>by have:=hx j u hu;simp only [World.cell?,e] at this ⊢;exact this⟩,h.sp⟩
theorem str_eq {A B:List Nat} (hA:Sm.allB A) (hB:Sm.allB B):((strOf A).toList==(strOf B).toList)=decide (A=B):=by
 rw [Bool.eq_iff_iff,beq_iff_eq,decide_eq_true_iff,ByteArray.toList_eq,ByteArray.toList_eq]
 constructor
 ·intro h
  apply (strOf_eq hA hB).1
  cases hA':strOf A
  cases hB':strOf B
  rw [hA',hB'] at h
  congr 1
  exact Array.ext' h
 ·rintro rfl
  rfl
theorem Below.drewN {B:Nat} {a w:World} (h:Below B a w) (n:Nat):Below B a (w.drewN n):=⟨h.os,h.tape,h.output,h.size,h.block⟩
theorem tx_of_owns {w:World} {base n:Nat} {q:Option Addr} {c:Nat} {B:List Nat} (h:w.ownsRow base 5 1 (.slice q n c) n (vals B)) (hB:Sm.allB B):Tx w q n c B:=by
 have hl:n=B.length:=by have:=h.1;rw [vals_length,Nat.mul_one] at this;exact this.symm
 rcases h.2 with ⟨h1,h0⟩ | ⟨g,cap,cur,h1,r⟩
 ·simp at h1
  obtain ⟨rfl,rfl,rfl⟩:=h1
  exact ⟨hl,Nat.le_refl _,hB,Or.inl ⟨rfl,rfl⟩,fun _ h _=>by cases h⟩
 ·simp at h1
  obtain ⟨rfl,rfl⟩:=h1
  exact (Bytes.of_owns h hB).tx
end Go.Proofs.YtinihaflmdihaaaGreat
namespace Go.Proofs.YtinihaflmdihaaaGreat
open Go.ChangeShapes Go.WideShapes Go.ChangeAt Go.RowKit Go.Deep
theorem gen_own:ownKnob Tryz.prog.godebug=none:=by kernel_rfl
theorem gen_laidOut:laidOutB Tryz.prog=true:=by kernel_rfl
end Go.Proofs.YtinihaflmdihaaaGreat
namespace Go.Proofs.YtinihaflmdihaaaGreat
open Go.RowKit
structure Ints (w:World) (p:Option Addr) (n c:Nat) (R:List Int):Prop where
 size:n=R.length
 le:n≤c
 ok:∀x∈R,-9223372036854775808≤x∧x≤9223372036854775807
 at':R=[]∨∃g o,p=some ⟨g,o,none⟩∧∀i,i<R.length→w.cell? ⟨g,o+i,none⟩=some (.int .i64 (R.getD i 0))
theorem Ints.later {w w':World} {p:Option Addr} {n c:Nat} {R:List Int} (h:Ints w p n c R) (hb:Below w.heap.size w w'):Ints w' p n c R:=
 ⟨h.size,h.le,h.ok,h.at'.imp id fun ⟨g,o,hp,hx⟩=>⟨g,o,hp,fun i hi=>(hb.cell (p:=⟨g,o+i,none⟩) (block_lt_of_cell (hx i hi))).trans (hx i hi)⟩⟩
theorem Ints.get {w:World} {p:Option Addr} {n c:Nat} {R:List Int} (h:Ints w p n c R) (k:Nat) (hk:k<n): -9223372036854775808≤R.getD k 0∧R.getD k 0≤9223372036854775807:=by
 have hk':k<R.length:=by rw [← h.size];exact hk
 rw [List.getD_eq_getElem?_getD,List.getElem?_eq_getElem hk']
 exact h.ok _ (List.getElem_mem hk')
theorem Ints.cell {w:World} {p:Option Addr} {n c:Nat} {R:List Int} (h:Ints w p n c R) (k:Nat) (hk:k<n):∃g o,p=some ⟨g,o,none⟩∧w.cell? ⟨g,o+k,none⟩=some (.int .i64 (R.getD k 0)):=by
 have hk':k<R.length:=by rw [← h.size];exact hk
 rcases h.at' with h0 | ⟨g,o,hp,hx⟩
 ·rw [h0] at hk';exact absurd hk' (by simp)
 ·exact ⟨g,o,hp,hx k hk'⟩
structure Rw where
 p:Option Addr
 (n c:Nat)
 R:List Int
instance:Inhabited Rw:=⟨⟨none,0,0,[]⟩⟩
def Rw.val (t:Rw):Value:=.slice t.p t.n t.c
structure Rw.Ok (w:World) (t:Rw):Prop where
 ints:Ints w t.p t.n t.c t.R
 top:t.n≤9223372036854775807
structure RowsIn (w:World) (p:Option Addr) (n c:Nat) (L:List Rw):Prop where
 size:n=L.length
 le:n≤c
 each:∀t∈L,t.Ok w
 at':L=[]∨∃g o,p=some ⟨g,o,none⟩∧∀i,i<L.length→w.cell? ⟨g,o+i,none⟩=some (L.getD i default).val
theorem Rw.Ok.later {w w':World} {t:Rw} (h:t.Ok w) (hb:Below w.heap.size w w'):t.Ok w':=⟨h.ints.later hb,h.top⟩
theorem RowsIn.later {w w':World} {p:Option Addr} {n c:Nat} {L:List Rw} (h:RowsIn w p n c L) (hb:Below w.heap.size w w'):RowsIn w' p n c L:=
 ⟨h.size,h.le,fun t ht=>(h.each t ht).later hb,h.at'.imp id fun ⟨g,o,hp,hx⟩=>⟨g,o,hp,fun i hi=>(hb.cell (p:=⟨g,o+i,none⟩) (block_lt_of_cell (hx i hi))).trans (hx i hi)⟩⟩
theorem RowsIn.cell {w:World} {p:Option Addr} {n c:Nat} {L:List Rw} (h:RowsIn w p n c L) (k:Nat) (hk:k<n):∃g o,p=some ⟨g,o,none⟩∧w.cell? ⟨g,o+k,none⟩=some (L.getD k default).val∧(L.getD k default).Ok w:=by
 have hk':k<L.length:=by rw [← h.size];exact hk
 rcases h.at' with h0 | ⟨g,o,hp,hx⟩
 ·rw [h0] at hk';exact absurd hk' (by simp)
 ·refine ⟨g,o,hp,hx k hk',?_⟩
  rw [List.getD_eq_getElem?_getD,List.getElem?_eq_getElem hk']
  exact h.each _ (List.getElem_mem hk')
theorem A25:Tryz.prog.underlying 30=some (.array 32 5):=by kernel_rfl
theorem Z25:(Tryz.prog.info? 30).map (fun i=>(i.zero,i.size))=some (some (.agg (u8s (zeros 32))),32):=by kernel_rfl
theorem S25:(Tryz.prog.info? 30).map (·.size)=some 32:=by kernel_rfl
theorem digest_equal (a b:List Nat) (ha:a.length=32) (hb:b.length=32) (d:Nat) (w:World):(Op.equalIn (d+2) 30 (.agg (u8s a)) (.agg (u8s b))).run Tryz.prog w= .ok (decide (a=b)) w:=by
 obtain ⟨i,hi,hi1⟩:∃i,Tryz.prog.info? 5=some i∧i.size=1:=by
  obtain ⟨i5,hi,_,hi1,_⟩:=info_parts I5
  exact ⟨i5,hi,hi1⟩
 rw [run_equalIn_array w (d+1) (u8s a) (u8s b) A25 hi,C5,eqItems_u8 a b d w _ (fun i hi=>by have:=List.mem_range.1 hi;omega),all_getD a b ha hb]
end Go.Proofs.YtinihaflmdihaaaGreat
namespace Go.Proofs.YtinihaflmdihaaaGreat.Pg
open Go.RowKit
theorem op_load_dig {ρ:Operand→Value} {o:Oper} {x:Operand} {w:World} {g off:Nat} {D:List Nat} (ho:o.op= .load 30 x) (hx:ρ x= .pointer (some ⟨g,off,none⟩)) (hD:D.length=32) (h:w.rangeAt g off (vals D)):(execOp ρ o).run Tryz.prog w= .ok (.value (.agg (u8s D))) w:=by
 unfold execOp
 simp only [ho,hx,Instr.loadAt,Instr.sureAddr,Sem.run_bind,Sem.run_pure,Result.andThen_ok,run_loadVar_mid w g off 30 (vals D) _ h A25 rfl (by rw [vals_length,hD];exact S25),vals_toArray]
theorem range_of_row' {w:World} {g:Nat} {D:List Nat} {t:TypeId} (h:w.heap[g]? =some (.cells (u8s D) t (0,0))):w.rangeAt g 0 (vals D):=fun j v hv=>by
 have hj:j<D.length:=by have:=(List.getElem?_eq_some_iff.1 hv).1;rwa [vals_length] at this
 rw [Nat.zero_add,u8s_cell h j hj,← hv,vals_get D j hj]
end Go.Proofs.YtinihaflmdihaaaGreat.Pg
namespace Go.Proofs.YtinihaflmdihaaaGreat.Cm
def be (n s:Nat):List Nat:=(List.range s).map fun i=>n/2^(8*(s - 1 - i))%256
theorem be_length (n s:Nat):(be n s).length=s:=by simp [be]
theorem be_take (n s i:Nat) (h:i<s):(be n s).take (i+1)=(be n s).take i++[n/2^(8*(s - 1 - i))%256]:=by
 rw [List.take_succ_eq_append_getElem (by rw [be_length];exact h)]
 simp [be]
theorem be_ok (n s:Nat):Sm.allB (be n s):=by
 intro x hx
 simp only [be,List.mem_map] at hx
 obtain ⟨i,_,rfl⟩:=hx
 exact Nat.mod_lt _ (by omega)
theorem be_succ (n s:Nat):be n (s+1)=(n/2^(8*s)%256)::be n s:=by
 unfold be
 rw [List.range_succ_eq_map,List.map_cons,List.map_map]
 congr 1
 apply List.map_congr_left
 intro i _
 simp only [Function.comp_apply]
 rw [show s+1 - 1 - (i+1)=s - 1 - i from by omega]
def z64 (n:Int):Nat:=(n+9223372036854775808).toNat
theorem z64_lt {n:Int} (h1: -9223372036854775808≤n) (h2:n≤9223372036854775807):z64 n<18446744073709551616∧((z64 n:Nat):Int)=n+9223372036854775808:=by
 unfold z64;omega
theorem xor63_lo {x:Nat} (h:x<2^63):x^^^2^63=2^63+x:=by
 apply Nat.eq_of_testBit_eq
 intro i
 rw [Nat.testBit_xor,Nat.testBit_two_pow]
 rcases Nat.lt_trichotomy i 63 with hi | rfl | hi
 ·rw [Nat.testBit_two_pow_add_gt hi,decide_eq_false (by omega),Bool.xor_false]
 ·rw [Nat.testBit_two_pow_add_eq,decide_eq_true rfl,Bool.xor_true]
 ·have e1:x.testBit i=false:=Nat.testBit_lt_two_pow (Nat.lt_trans h (Nat.pow_lt_pow_right (by omega) hi))
  have e2:(2^63+x).testBit i=false:=Nat.testBit_lt_two_pow (by
   have:2^64≤2^i:=Nat.pow_le_pow_right (by omega) hi
   omega)
  rw [e1,e2,decide_eq_false (by omega),Bool.xor_false]
theorem xor63_hi {x:Nat} (h:x<2^63):(2^63+x)^^^2^63=x:=by
 rw [← xor63_lo h,Nat.xor_assoc,Nat.xor_self,Nat.xor_zero]
theorem wrap_u64 (n:Int):IntKind.u64.wrap n=n%18446744073709551616:=IntKind.wrap_u64 n
theorem sign_int {n:Int} (h1: -9223372036854775808≤n) (h2:n≤9223372036854775807):bits .xor .u64 (IntKind.u64.wrap n) 9223372036854775808=((z64 n:Nat):Int):=by
 rw [wrap_u64]
 by_cases h:0≤n
 ·obtain ⟨x,rfl⟩:∃x:Nat,n=x:=⟨n.toNat,by omega⟩
  have e:(x:Int)%18446744073709551616=(x:Nat):=by omega
  rw [e]
  have:=u64_xor_nat x 9223372036854775808 (by omega) (by omega)
  refine Eq.trans this ?_
  have e2:x^^^9223372036854775808=9223372036854775808+x:=xor63_lo (by omega)
  rw [e2]
  unfold z64
  omega
 ·obtain ⟨x,hx⟩:∃x:Nat,n=(x:Int) - 9223372036854775808:=⟨(n+9223372036854775808).toNat,by omega⟩
  subst hx
  have e:((x:Int) - 9223372036854775808)%18446744073709551616=((9223372036854775808+x:Nat):Int):=by omega
  rw [e]
  have:=u64_xor_nat (9223372036854775808+x) 9223372036854775808 (by omega) (by omega)
  refine Eq.trans this ?_
  have e2:(9223372036854775808+x)^^^9223372036854775808=x:=xor63_hi (by omega)
  rw [e2]
  unfold z64
  omega
def num (n:Int):List Nat:=be (z64 n) 8
theorem num_length (n:Int):(num n).length=8:=be_length _ _
theorem num_ok (n:Int):Sm.allB (num n):=be_ok _ _
def val (B:List Nat):Nat:=B.foldl (fun n b=>n*256+b) 0
theorem foldl_val (B:List Nat) (m:Nat):B.foldl (fun n b=>n*256+b) m=m*256^B.length+val B:=by
 induction B generalizing m with
 | nil=>simp [val]
 | cons b B ih=>
  unfold val
  rw [List.foldl_cons,List.foldl_cons,ih,ih (0*256+b),List.length_cons,Nat.pow_succ,Nat.zero_mul,Nat.zero_add,Nat.add_mul,Nat.mul_assoc,Nat.mul_comm 256]
  omega
theorem val_cons (b:Nat) (B:List Nat):val (b::B)=b*256^B.length+val B:=by
 have:=foldl_val B (0*256+b)
 unfold val at this ⊢
 rw [List.foldl_cons,this]
 simp
theorem val_snoc (B:List Nat) (b:Nat):val (B++[b])=val B*256+b:=by
 unfold val;rw [List.foldl_append];rfl
theorem pow8 (s:Nat):(2:Nat)^(8*s)=256^s:=by rw [Nat.pow_mul]
theorem val_lt {B:List Nat} (h:Sm.allB B):val B<256^B.length:=by
 induction B with
 | nil=>simp [val]
 | cons b B ih=>
  have h1:=h b (by simp)
  have h2:=ih (fun x hx=>h x (by simp [hx]))
  rw [val_cons,List.length_cons,Nat.pow_succ]
  have:b*256^B.length+256^B.length≤256^B.length*256:=by
   rw [Nat.mul_comm (256^B.length) 256,← Nat.succ_mul]
   exact Nat.mul_le_mul_right _ h1
  omega
theorem val_be (n s:Nat):val (be n s)=n%256^s:=by
 induction s with
 | zero=>simp [be,val,Nat.mod_one]
 | succ s ih=>
  rw [be_succ,val_cons,be_length,ih,pow8,Nat.pow_succ,Nat.mod_mul]
  rw [Nat.mul_comm]
  omega
theorem be_val {B:List Nat} (h:Sm.allB B):be (val B) B.length=B:=by
 induction B with
 | nil=>simp [be]
 | cons b B ih=>
  have h1:=h b (by simp)
  have hB:Sm.allB B:=fun x hx=>h x (by simp [hx])
  have h2:=val_lt hB
  rw [List.length_cons,be_succ,val_cons,pow8]
  have hp:0<256^B.length:=Nat.pow_pos (by omega)
  have e1:(b*256^B.length+val B)/256^B.length=b:=by
   rw [Nat.mul_comm,Nat.mul_add_div hp,Nat.div_eq_of_lt h2];omega
  rw [e1,Nat.mod_eq_of_lt h1]
  congr 1
  have key:∀s m k:Nat,s≤k→be (m*256^k+val B) s=be (val B) s:=by
   intro s
   induction s with
   | zero=>intro m k _;simp [be]
   | succ s ihs=>
    intro m k hk
    rw [be_succ,be_succ,ihs m k (by omega),pow8]
    congr 1
    obtain ⟨j,rfl⟩:∃j,k=s+1+j:=⟨k - (s+1),by omega⟩
    have:m*256^(s+1+j)=256^s*(256*(m*256^j)):=by
     rw [Nat.pow_add,Nat.pow_succ]
     simp only [Nat.mul_assoc,Nat.mul_comm,Nat.mul_left_comm]
    rw [this,Nat.mul_add_div (Nat.pow_pos (by omega))]
    omega
  rw [key B.length b B.length (Nat.le_refl _)]
  exact ih hB
def cmpL:List Nat→List Nat→Int
 |[],[]=>0
 |[],_::_=> -1
 | _::_,[]=>1
 | x::a,y::b=>if x<y then -1 else if y<x then 1 else cmpL a b
end Go.Proofs.YtinihaflmdihaaaGreat.Cm
namespace Go.Proofs.YtinihaflmdihaaaGreat.Mm
def bin (g:Nat→Nat):Nat→Nat
 | 0=>0
 | n+1=>2*bin g n+g n
def bytesOf (f:Nat→Nat) (n:Nat):List Nat:=(List.range n).map fun j=>bin (fun k=>f (8*j+k)) 8
def bitOf (B:List Nat) (i:Nat):Nat:=B.getD (i/8) 0/2^(7 - i%8)%2
def cbit (R:List Int) (i:Nat):Nat:=Cm.z64 (R.getD (i%R.length) 0)/2^(63 - i/R.length)%2
def code (R:List Int):List Nat:=bytesOf (cbit R) (8*R.length)
def numAt (f:Nat→Nat) (d k:Nat):Int:=(bin (fun l=>f (l*d+k)) 64:Nat) - 9223372036854775808
def point (B:List Nat) (d:Nat):List Int:=(List.range d).map (numAt (bitOf B) d)
def inI (R:List Int):Prop:=∀x∈R,-9223372036854775808≤x∧x≤9223372036854775807
end Go.Proofs.YtinihaflmdihaaaGreat.Mm
namespace Go.Proofs.YtinihaflmdihaaaGreat.Mo
open Go.RowKit
def i64s (L:List Int):Array Value:=(L.map (Value.int .i64)).toArray
theorem i64s_get (L:List Int) (i:Nat) (h:i<L.length):(i64s L)[i]? =some (.int .i64 (L.getD i 0)):=by
 simp [i64s,List.getD_eq_getElem?_getD,List.getElem?_eq_getElem h]
theorem i64s_put (L:List Int) (k:Nat) (x:Int):(i64s L).setIfInBounds k (.int .i64 x)=i64s (L.set k x):=by
 apply Array.ext'
 simp [i64s,List.map_set]
theorem i64s_ints {w:World} {g:Nat} {L:List Int} {t:TypeId} {fr:Nat×Nat} (hg:w.heap[g]? =some (.cells (i64s L) t fr)) (hL:Mm.inI L):Ints w (some ⟨g,0,none⟩) L.length L.length L:=
 ⟨rfl,Nat.le_refl _,hL,Or.inr ⟨g,0,rfl,fun i hi=>by rw [Nat.zero_add,cell_of_row w g i _ t fr hg,i64s_get L i hi]⟩⟩
theorem made_i64 (n:Nat):madeCells (Value.cells (.int .i64 0)) n=i64s (List.replicate n 0):=by
 apply Array.ext
 ·simp [size_madeCells,i64s]
 ·intro i h1 h2
  simp [madeCells,i64s,Value.cells,Nat.mod_one]
theorem I2:(Tryz.prog.info? 2).map (fun i=>(i.zero,i.size,i.bytes))=some (some (.int .i64 0),1,8):=by kernel_rfl
theorem URw:Tryz.prog.underlying 24=some (.slice 2):=by kernel_rfl
theorem make_row (m:Nat) (hm:m≤1000) (w:World):(Instr.makeSlice 24 (.int .i64 m) (.int .i64 m)).run Tryz.prog w= .ok (.slice (some ⟨w.heap.size,0,none⟩) m m) (w.alloc (.cells (i64s (List.replicate m 0)) 2)):=by
 obtain ⟨i5,hi,hi0,hi1,hi2⟩:=info_parts I2
 have:=run_make (P:=Tryz.prog) w 24 2 i5 _ URw hi hi0 .i64 .i64 m m (by omega) (by omega) (by rw [hi2];omega) (by omega)
 rw [this,hi1]
 simp only [Int.toNat_natCast,Nat.mul_one,made_i64]
def ivals (L:List Int):List Value:=L.map (Value.int .i64)
theorem ints_of_owns {w:World} {base n:Nat} {v:Value} {L:List Int} (h:w.ownsRow base 2 1 v n (ivals L)) (hL:Mm.inI L):∃q c,v= .slice q n c∧Ints w q n c L:=by
 have hl:n=L.length:=by have:=h.1;rw [ivals,List.length_map,Nat.mul_one] at this;exact this.symm
 rcases h.2 with ⟨rfl,h0⟩ | ⟨g,cap,cur,rfl,hb,hg,hle,hm,hs,ht⟩
 ·subst h0
  have hb:L=[]:=List.length_eq_zero_iff.1 hl.symm
  exact ⟨none,0,rfl,hl,Nat.le_refl _,hL,Or.inl hb⟩
 ·refine ⟨_,cap,rfl,hl,hle,hL,Or.inr ⟨g,0,rfl,fun i hi=>?_⟩⟩
  rw [Nat.zero_add,cell_of_row w g i cur _ _ hg]
  have e:(cur.toList.take (n*1))[i]? =(ivals L)[i]? :=by rw [ht]
  rw [List.getElem?_take_of_lt (by omega)] at e
  simp [ivals,List.getElem?_eq_getElem hi] at e
  rw [e]
  simp [List.getD_eq_getElem?_getD,List.getElem?_eq_getElem hi]
end Go.Proofs.YtinihaflmdihaaaGreat.Mo
namespace Go.Proofs.YtinihaflmdihaaaGreat
open Go.RowKit
theorem A22:Tryz.prog.underlying 45=some (.slice 5):=by kernel_rfl
theorem convert_bytes {w:World} {p:Option Addr} {n c:Nat} {B:List Nat} (h:Bytes w p n c B) (hB:B≠[]):(convert 45 9 (.slice p n c)).run Tryz.prog w= .ok (.string (strOfNums (B.map Int.ofNat))) w:=by
 obtain ⟨g,o,rfl,hx⟩:=h.ne hB
 exact run_convert_bytes_arg (P:=Tryz.prog) w 45 5 A22 U5 g o n c (B.map Int.ofNat) (by rw [List.length_map];exact h.size.symm) (fun i hi=>by
  have hi2:i<B.length:=by have:=h.size;omega
  rw [hx i hi2]
  simp [List.getD_eq_getElem?_getD,hi2]) 9 A9
theorem convert_tx {w:World} {p:Option Addr} {n c:Nat} {B:List Nat} (h:Tx w p n c B):(convert 45 9 (.slice p n c)).run Tryz.prog w= .ok (.string (strOf B)) w:=by
 by_cases hB:B=[]
 ·subst hB
  obtain rfl:n=0:=h.size
  rw [run_convert_bytes_string w _ _ _ _ _ _ A22 U5 A9]
  cases p with
  | none=>rfl
  | some x=>exact rfl
 ·exact convert_bytes h.bytes hB
end Go.Proofs.YtinihaflmdihaaaGreat
