/- Tk, Tk2, Gen0, Gen, GenRow, GenDigest, GenInts, GenRw, GenDg, PgOp, CodMath, MorMath, MorBits, MorInts, GenTx, ZrTwo. -/
import Derived.Deep.RegionHeld
import Derived.Lib.Hide
import Derived.BigRegion
import Derived.Deep.DeepCutAuto
import Derived.Deep.MidRow
import Derived.Deep.WholeRow
import Derived.Laws.BitsAllLaws
import Derived.Test.YtenenciaggbjnaaGreatProg
import Derived.WalkKit
import Derived.WalkSpells
import Derived.WalkLawsBesides
import Derived.BigQuiet
import Derived.Deep.QuietTactic
import Derived.StillTailTactics
import Derived.Deep.RegionHeld3
import Derived.Deep.RegionLaw
import Derived.Deep.AppendLies
import Derived.Laws.AppendOwnNone
import Derived.ChangeKeysEq
import Derived.Lib.SlBytesConst
import Derived.Maps.AppendAt
import Derived.Deep.DeepMust
import Derived.Test.YtenenciaggbjnaaGreatRows
import Derived.ProofKit
import Derived.OpenShut
import Derived.ShutString
import Derived.ChangeOld
import Derived.Deep.Matrix
import Derived.IntWalk
set_option maxRecDepth 100000
set_option maxHeartbeats 8000000
set_option linter.all false
namespace Go.Proofs.YtenenciaggbjnaaGreat
theorem yH {p:Prop} (h:p):RowKit.Hid p:=h
theorem yL {α:Type} {xs:Array α} {i:Nat} {x:α} (h:xs[i]? =some x):i<xs.size:=(Array.getElem?_eq_some_iff.1 h).1
section
variable {P:Program} {ops:Array Oper} {Q:Exit->Act->World->Prop} {md:Region.Mode} {S:World->Prop} {fuel:Nat} {listed:Array Bool} {a:Act} {w:World} {d:Option Tmp} {op:Op} {ty:TypeId} {pos:String} {af:Array Edge} {gd:Option (Nat×Bool)}
theorem tQ (i:Nat) {a':Act} (v:Value) (hr:∀w,S w->(execOp a.eval ⟨d,op,ty,pos,af,gd⟩).run P w= .ok (.value v) w) (h:wpAnyH P md ops Q S fuel (listed.setIfInBounds i true) a' w)
  (hi:ops[i]? =some ⟨d,op,ty,pos,af,gd⟩:=by rfl) (h1:Region.noSelect ops=true:=by kernel_rfl) (h2:Region.free md ops listed i=true:=by kernel_rfl) (h3:(Region.ready md ops listed).contains i=true:=by kernel_rfl)
  (hQ:∀c a w,Q (.panic c) (a.put d v) w->Q (.panic c) a w:=by exact fun _ _ _ h=>h) (hw:Region.wanted ⟨d,op,ty,pos,af,gd⟩ (yielded ops a.tmps)=true:=by rfl)
  (ha:a.put d v=a':=by (simp only [Act.put,List.setIfInBounds_toArray,List.set_cons_zero,List.set_cons_succ];try with_reducible rfl)) (hS:S w:=by assumption):wpAnyH P md ops Q S (fuel+1) listed a w:=
 wpAnyH_take hi h1 h2 h3 hQ (Or.inl ⟨hw,hr⟩) hS (ha.symm▸h)
theorem tK (i:Nat) {a':Act} {v:Value} (h:wpAnyH P md ops Q S fuel (listed.setIfInBounds i true) a' w)
  (hi:ops[i]? =some ⟨d,op,ty,pos,af,gd⟩:=by rfl) (h1:Region.noSelect ops=true:=by kernel_rfl) (h2:Region.free md ops listed i=true:=by kernel_rfl) (h3:(Region.ready md ops listed).contains i=true:=by kernel_rfl)
  (hQ:∀c a w,Q (.panic c) (a.put d v) w->Q (.panic c) a w:=by exact fun _ _ _ h=>h) (hw:Region.wanted ⟨d,op,ty,pos,af,gd⟩ (yielded ops a.tmps)=true:=by rfl)
  (hr:∀w,S w->(execOp a.eval ⟨d,op,ty,pos,af,gd⟩).run P w= .ok (.value v) w:=by (intro w' hSw;go_simp;try with_reducible rfl))
  (ha:a.put d v=a':=by (simp only [Act.put,List.setIfInBounds_toArray,List.set_cons_zero,List.set_cons_succ];try with_reducible rfl)) (hS:S w:=by assumption):wpAnyH P md ops Q S (fuel+1) listed a w:=
 wpAnyH_take hi h1 h2 h3 hQ (Or.inl ⟨hw,hr⟩) hS (ha.symm▸h)
theorem tF (i:Nat) {a':Act} (h:wpAnyH P md ops Q S fuel (listed.setIfInBounds i true) a' w)
  (hi:ops[i]? =some ⟨d,op,ty,pos,af,gd⟩:=by rfl) (h1:Region.noSelect ops=true:=by kernel_rfl) (h2:Region.free md ops listed i=true:=by kernel_rfl) (h3:(Region.ready md ops listed).contains i=true:=by kernel_rfl)
  (hQ:∀c a w,Q (.panic c) (a.put d undef) w->Q (.panic c) a w:=by exact fun _ _ _ h=>h) (hw:Region.wanted ⟨d,op,ty,pos,af,gd⟩ (yielded ops a.tmps)=false:=by rfl)
  (ha:a.put d undef=a':=by (simp only [Act.put,List.setIfInBounds_toArray,List.set_cons_zero,List.set_cons_succ];try with_reducible rfl)) (hS:S w:=by assumption):wpAnyH P md ops Q S (fuel+1) listed a w:=
 wpAnyH_take hi h1 h2 h3 hQ (Or.inr ⟨hw,rfl⟩) hS (ha.symm▸h)
theorem rY (rs:List Nat) (h:AllReadyH P md ops Q S fuel listed a w rs) (hr:Region.ready md ops listed=rs:=by kernel_rfl) (hn:rs≠[]:=by simp):wpAnyH P md ops Q S (fuel+1) listed a w:=wpAnyH_ready hr hn h
theorem rC {i:Nat} {rs:List Nat}
  (h:∀K':Act->World->Prop,Shut (∀a w,S w->(S w->wpAnyH P md ops Q S fuel (listed.setIfInBounds i true) a w)->K' a w)->if Region.wanted ⟨d,op,ty,pos,af,gd⟩ (yielded ops a.tmps)=true then Oper.wp P ⟨d,op,ty,pos,af,gd⟩ a w K' Q else K' (a.put d undef) w)
  (hs:AllReadyH P md ops Q S fuel listed a w rs) (ho:ops[i]? =some ⟨d,op,ty,pos,af,gd⟩:=by rfl):AllReadyH P md ops Q S fuel listed a w (i::rs):=AllReadyH.cons ho h hs
theorem rO (i:Nat)
  (h:∀K':Act->World->Prop,Shut (∀a w,S w->(S w->wpAnyH P md ops Q S fuel (listed.setIfInBounds i true) a w)->K' a w)->if Region.wanted ⟨d,op,ty,pos,af,gd⟩ (yielded ops a.tmps)=true then Oper.wp P ⟨d,op,ty,pos,af,gd⟩ a w K' Q else K' (a.put d undef) w)
  (hr:Region.ready md ops listed=[i]:=by kernel_rfl) (ho:ops[i]? =some ⟨d,op,ty,pos,af,gd⟩:=by rfl):wpAnyH P md ops Q S (fuel+1) listed a w:=wpAnyH_ready hr (by simp) (AllReadyH.cons ho h AllReadyH.nil)
end
theorem yK {w w':World} {g:Nat} {o:Obj} (hb:RowKit.Below w.heap.size w w') (h:w.heap[g]? =some o):w'.heap[g]? =some o:=(hb.block _ (yL h)).trans h
section
open Go.RowKit
theorem jA (w:World) (o:Obj):Below w.heap.size w (w.alloc o):=(Below.refl _ _).alloc (Nat.le_refl _) _
theorem jD {P:Program} {ops:Array Oper} {Q:Exit->Act->World->Prop} {md:Region.Mode} {S:World->Prop} {listed:Array Bool} {a:Act} {w:World} {fuel:Nat} (h:Q Exit.normal a w) (hr:Region.ready md ops listed=[]:=by kernel_rfl):wpAnyH P md ops Q S fuel listed a w:=wpAnyH_done hr h fuel
abbrev jB:= @Nat.le_refl
abbrev jC:= @Below.refl
abbrev jE:= @heap_alloc_new
abbrev jF:= @List.size_toArray
abbrev jG:= @List.getD_eq_getElem?_getD
abbrev jH:= @cell_of_row
abbrev jI:= @block_lt_of_cell
abbrev jJ:= @Nat.le_trans
abbrev jK:= @wpList_load_mid
abbrev jL:= @wpList_store_row
abbrev jM:= @List.getElem?_eq_getElem
abbrev jN:= @all_oneCell_toArray
abbrev jO:= @Nat.lt_of_lt_of_le
abbrev jP:= @List.mem_append
abbrev jQ:= @List.length_append
abbrev jR:= @List.append_assoc
abbrev jS:= @frozen_of_row
abbrev jT:= @setRow_heap
abbrev jU:= @heap_setCell_same
abbrev jV:= @List.not_mem_nil
abbrev jW:= @List.mem_cons
abbrev jX:= @World.cell?_of_block
abbrev jY:= @decide_eq_true_iff
abbrev jZ:= @List.length_eq_zero_iff
abbrev kA:= @List.map_toArray
abbrev kB:= @List.map_cons
abbrev kC:= @List.map_nil
abbrev kD:= @wp_region_held_drew
abbrev kE:= @decide_eq_false
abbrev kF:= @decide_eq_true
abbrev kG:= @heap_setCell_other
abbrev kH:= @List.length_map
abbrev kI:= @List.length_cons
abbrev kJ:= @List.mem_map
abbrev kK:= @Array.getElem?_eq_some_iff
abbrev kL:= @wpList_load_row
abbrev kM:= @List.getElem_mem
abbrev kN:= @List.getElem?_map
abbrev kO:= @List.mem_of_getElem?
abbrev kP:= @List.length_pos_iff
abbrev kQ:= @List.take_of_length_le
abbrev kR:= @List.getElem?_append_left
abbrev kS:= @List.getElem?_append_right
abbrev kT:= @List.length_replicate
abbrev kU:= @List.take_add_one
abbrev kV:= @List.nil_append
abbrev kW:= @List.append_nil
abbrev kX:= @List.length_take
abbrev kY:= @List.length_drop
abbrev kZ:= @List.mem_singleton
end
namespace Sm
def allB (l:List Nat):Prop:=∀x∈l,x<256
theorem getD_lt {l:List Nat} {m:Nat} (h:∀x∈l,x<m) (hm:0<m) (i:Nat):l.getD i 0<m:=by
 rw [jG];cases hh:l[i]? with
 | none=>simpa using hm
 | some x=>simpa using h x (kO hh)
theorem allB_drop {l:List Nat} (h:allB l) (n:Nat):allB (l.drop n):=fun x hx=>h x (List.mem_of_mem_drop hx)
theorem y1m (B:List Nat) (n i:Nat) (h:i<n):(B.take n).getD i 0=B.getD i 0:=by
 simp [jG,List.getElem?_take_of_lt h]
theorem x84 (B:List Nat) (n i:Nat):(B.drop n).getD i 0=B.getD (n+i) 0:=by
 simp [jG]
theorem x7G (A B:List Nat) (i:Nat) (h:i<A.length):(A++B).getD i 0=A.getD i 0:=by
 rw [jG,jG,kR h]
end Sm
section
open Go.RowKit
def u8s (l:List Nat):Array Value:=(l.map fun x=>Value.int .u8 (x:Nat)).toArray
theorem x0n {fn:Func} {P:Ending->World->Prop} (p:Tmp) {ty:TypeId} (hr:fn.results= #[.cell p ty]) {tmps:Array Value} {w:World} (g:Nat) (t:TypeId) (cs:Array Value) {n:Nat} {e:TypeId}
  (hu:Tryz.prog.underlying ty=some (.array n e)) (hi:(Tryz.prog.info? ty).map (·.size)=some n)
  (hp:tmps.getD p undef= .pointer (some ⟨g,0,none⟩)) (hg:w.heap[g]? =some (.cells cs t (0,0)))
  (hn:cs.size=n) (h:P (.returned (.agg cs)) w):bodyPost Tryz.prog fn P .ret ⟨tmps,[]⟩ w:=
 bodyPost_ret (a:=⟨tmps,[]⟩) (v:=.agg cs) (results_cell_row hr tmps w g t cs (0,0) (.array n e) hp hg hu rfl (by rw [hn];exact hi)) rfl h
theorem x03 (w:World) (old cs:Array Value) (t:TypeId):(w.alloc (.cells old t (0,0))).setRow w.heap.size cs=w.alloc (.cells cs t (0,0)):=by
 unfold World.setRow World.alloc
 congr 1
 apply Array.ext
 ·simp
 ·intro k h1 h2;simp only [Array.getElem_modify,Array.getElem_push];by_cases hk:k=w.heap.size
  ·subst hk;simp
  ·have:k<w.heap.size:=by simp at h1;omega
   simp [this,Ne.symm hk]
structure SameHeap (w w':World):Prop where
 below:Below w.heap.size w w'
 heap:w'.heap=w.heap
theorem SameHeap.refl (w:World):SameHeap w w:=⟨jC _ _,rfl⟩
theorem SameHeap.drewN {a w:World} (h:SameHeap a w) (n:Nat):SameHeap a (w.drewN n):=by
 induction n with
 | zero=>exact h
 | succ n ih=>exact ⟨ih.below.drew,ih.heap⟩
theorem SameHeap.cell {a w:World} (h:SameHeap a w) (p:Addr):w.cell? p=a.cell? p:=by simp only [World.cell?,h.heap]
theorem SameHeap.frozen {a w:World} (h:SameHeap a w) (p:Addr):w.frozen? p=a.frozen? p:=by simp only [World.frozen?,h.heap]
theorem Below.setRow {B:Nat} {a w:World} (h:Below B a w) {g:Nat} (hg:B<=g) (cs:Array Value):Below B a (w.setRow g cs):=
 h.trans ⟨rfl,rfl,rfl,by simp,fun k hk=>setRow_other _ _ _ _ (by omega)⟩
def bytesAt (w:World) (g o:Nat) (B:List Nat):Prop:=∀i,i<B.length->w.cell? ⟨g,o+i,none⟩=some (.int .u8 (B.getD i 0:Nat))
def zeros (n:Nat):List Nat:=List.replicate n 0
theorem x20 {n:Nat} (h:0<n):zeros n=0::zeros (n - 1):=by
 cases n with
 | zero=>omega
 | succ n=>rfl
theorem x85 {l:List Nat} (r:List Nat) (i:Nat) (h:i<l.length):(l++r).getD i 0=l.getD i 0:=by
 rw [jG,jG,kR h]
structure Bytes (w:World) (p:Option Addr) (len cap:Nat) (B:List Nat):Prop where
 size:len=B.length
 le:len<=cap
 ok:Sm.allB B
 at':cap=0\/∃g o,p=some ⟨g,o,none⟩/\bytesAt w g o B
theorem Bytes.ne {w:World} {p:Option Addr} {len cap:Nat} {B:List Nat} (h:Bytes w p len cap B) (hn:B≠[]):∃g o,p=some ⟨g,o,none⟩/\bytesAt w g o B:=by
 rcases h.at' with C | A
 ·have:=h.size;have:=h.le;exact absurd (jZ.1 (by omega)) hn
 ·exact A
theorem Bytes.later {w w':World} {p:Option Addr} {len cap:Nat} {B:List Nat} (h:Bytes w p len cap B) {H:Nat} (hb:Below H w w') (hH:∀g o,p=some ⟨g,o,none⟩->B≠[]->g<H):Bytes w' p len cap B:=
 ⟨h.size,h.le,h.ok,h.at'.imp id fun ⟨g,o,hp,hx⟩=>⟨g,o,hp,fun i hi=>(hb.cell (p:=⟨g,o+i,none⟩) (hH g o hp (by intro e;rw [e] at hi;simp at hi))).trans (hx i hi)⟩⟩
theorem Bytes.lt {w:World} {p:Option Addr} {len cap:Nat} {B:List Nat} (h:Bytes w p len cap B):∀g o,p=some ⟨g,o,none⟩->B≠[]->g<w.heap.size:=fun g o hp hn=>by
 obtain ⟨g',o',hp',hx⟩:=h.ne hn
 rw [hp] at hp'
 obtain ⟨rfl,rfl⟩:g=g'/\o=o':=by simpa using hp'
 exact jI (hx 0 (kP.2 hn))
theorem bytesAt.drop {w:World} {g o:Nat} {B:List Nat} (h:bytesAt w g o B) (n:Nat):bytesAt w g (o+n) (B.drop n):=fun i hi=>by
 have h1:n+i<B.length:=by simp at hi;omega
 have:=h (n+i) h1
 rw [Nat.add_assoc,this]
 simp [jG]
def lenOf:Value->Nat
 | .slice _ n _=>n
 | _=>0
theorem y1n (l:List Nat) (i:Nat) (h:i<l.length):(u8s l)[i]? =some (.int .u8 (l.getD i 0:Nat)):=by
 simp [u8s,jG,jM h]
theorem x2B {w:World} {g:Nat} {l:List Nat} {t:TypeId} {fr:Nat×Nat} (hg:w.heap[g]? =some (.cells (u8s l) t fr)) (i:Nat) (h:i<l.length):w.cell? ⟨g,i,none⟩=some (.int .u8 (l.getD i 0:Nat)):=by
 rw [jH w g i _ t fr hg,y1n l i h]
theorem x7H (p r:List Nat) (y x k:Nat) (hk:p.length=k):(u8s (p++y::r)).setIfInBounds k (.int .u8 (x:Nat))=u8s (p++x::r):=by
 subst hk;apply Array.ext';simp [u8s]
theorem x0f (l:List Nat):(u8s l).all (·.oneCell')=true:=by simp [u8s,Value.oneCell']
theorem x0C (l:List Nat):(u8s l).size=l.length:=by simp [u8s]
theorem x5S {P:Program} {t e:TypeId} {n:Nat} (ht:P.underlying t=some (.array n e)) {d:TypeDesc} (hd:P.underlying e=some d) (hnd:(match d with | .struct _=>false | .array _ _=>false | _=>true)=true)
  (hs:(P.info? e).map (·.size)=some 1) (cs:Array Value) (k:Nat) (hk:k<n) (v:Value) (hv:cs[k]? =some v) (w:World):
  (Instr.index t (.agg cs) (.int .i64 k)).run P w= .ok v w:=by
 have A:(isAgg e).run P w= .ok false w:=by
  unfold isAgg;rw [Sem.run_bind,run_underlying hd w];cases d<;>simp_all
 cases hq:P.info? e with
 | none=>simp [hq] at hs
 | some i=>
  have B:i.size=1:=by simpa [hq] using hs
  have C:(0:Int)<=k/\(k:Int)<n:=by omega
  simp [Instr.index,run_underlying ht,asIntOf,C,part,sizeOf,typeInfo,hq,B,A,hv,Sem.run_bind];intro h;omega
theorem U5:Tryz.prog.underlying 5=some (.int .u8):=by kernel_rfl
theorem I5:(Tryz.prog.info? 5).map (fun i=>(i.zero,i.size,i.bytes))=some (some (.int .u8 0),1,1):=by kernel_rfl
def vals (l:List Nat):List Value:=l.map fun x=>Value.int .u8 (x:Nat)
theorem x00 (l:List Nat):(vals l).length=l.length:=by simp [vals]
theorem x1u (l:List Nat) (i:Nat) (h:i<l.length):(vals l)[i]? =some (.int .u8 (l.getD i 0:Nat)):=by
 simp [vals,jG,jM h]
theorem Bytes.of_owns {w:World} {base g n cap:Nat} {B:List Nat} (h:w.ownsRow base 5 1 (.slice (some ⟨g,0,none⟩) n cap) n (vals B)) (hB:Sm.allB B):Bytes w (some ⟨g,0,none⟩) n cap B:=by
 obtain ⟨I,G⟩:=h;have L:n=B.length:=by simpa [x00] using I.symm
 rcases G with ⟨J,_⟩ | ⟨K,C,A,M,P,H,E,Q,O,N⟩
 ·simp at J
 ·obtain ⟨rfl,rfl⟩:g=K/\cap=C:=by simpa using M
  refine ⟨L,E,hB,Or.inr ⟨g,0,rfl,fun i hi=>?_⟩⟩;rw [Nat.zero_add,jH w g i A _ _ H];have e:(A.toList.take (n*1))[i]? =(vals B)[i]? :=by rw [N]
  rw [x1u B i hi,List.getElem?_take_of_lt (by omega)] at e
  simpa using e
theorem y0o (n:Nat):madeCells (Value.cells (.int .u8 0)) n=u8s (zeros n):=by
 apply Array.ext
 ·simp [size_madeCells,u8s,zeros]
 ·intro i h1 h2;simp [madeCells,u8s,zeros,Value.cells,Nat.mod_one]
theorem x38 (l:List Nat):(u8s l).toList=vals l:=by simp [u8s,vals]
theorem x0L (l:List Nat):∀u∈vals l,u.oneCell'=true:=by
 intro u hu;simp only [vals,kJ] at hu;obtain ⟨x,_,rfl⟩:=hu;rfl
theorem x23 {w:World} {base g n cap:Nat} {L:List Nat} (hg:w.heap[g]? =some (.cells (u8s L) 5 (0,0))) (hL:L.length=cap) (hn:n<=cap) (hm:cap<=maxLen) (hb:base<=g):
  w.ownsRow base 5 1 (.slice (some ⟨g,0,none⟩) n cap) n (vals (L.take n)):=by
 refine ⟨by simp [vals];omega,Or.inr ⟨g,cap,u8s L,rfl,hb,hg,hn,hm,by rw [x0C];omega,?_⟩⟩;rw [x38,Nat.mul_one];simp [vals]
theorem x0v {w:World} {g:Nat} {L:List Nat} {t:TypeId} (hg:w.heap[g]? =some (.cells (u8s L) t (0,0))):∀j u,(vals L)[j]? =some u->w.cell? ((⟨g,0,none⟩:Addr).add j)=some u:=fun j u hu=>by
 rw [Addr.add_mid,Nat.zero_add,jH w g j _ _ _ hg,<- Array.getElem?_toList,x38]
 exact hu
theorem x0X (g:Nat):∀(vs:List Value) (o:Nat) (w:World) (k:Nat),k≠g->(w.setCells g o vs).heap[k]? =w.heap[k]?
 |[],_,_,_,_=>rfl
 | v::r,o,w,k,h=>by
  rw [World.setCells,x0X g r (o+1) _ k h,kG _ _ _ _ h]
theorem x0R (g:Nat) (t:TypeId):∀(vs A B C:List Value) (w:World),w.heap[g]? =some (.cells (A++B++C).toArray t (0,0))->vs.length=B.length->
  (w.setCells g A.length vs).heap[g]? =some (.cells (A++vs++C).toArray t (0,0))
 |[],A,B,C,w,h,hl=>by
  obtain rfl:B=[]:=jZ.1 (by simpa using hl.symm)
  exact h
 | v::r,A,B,C,w,h,hl=>by
  match B,hl with
  | b::B,hl=>
   have h1:=jU w g A.length _ _ v h
   have e:((A++b::B++C).toArray).setIfInBounds A.length v=((A++[v])++B++C).toArray:=by
    apply Array.ext';simp
   rw [e] at h1;have:=x0R g t r (A++[v]) B C _ h1 (by simpa using hl);rw [World.setCells]
   simpa using this
theorem x0S (g:Nat):∀(vs:List Value) (o:Nat) (w:World),(w.setCells g o vs).heap.size=w.heap.size/\(w.setCells g o vs).os=w.os/\(w.setCells g o vs).tape=w.tape/\(w.setCells g o vs).output=w.output
 |[],_,_=>⟨rfl,rfl,rfl,rfl⟩
 | v::r,o,w=>by
  obtain ⟨h1,h2,h3,h4⟩:=x0S g r (o+1) (w.setCell ⟨g,o,none⟩ v)
  rw [World.setCells]
  exact ⟨h1.trans (by simp [World.setCell]),h2.trans rfl,h3.trans rfl,h4.trans rfl⟩
theorem x3b {w:World} {g:Nat} {t:TypeId} (A B C:List Value) (h:w.heap[g]? =some (.cells (A++B++C).toArray t (0,0))):w.rangeAt g A.length B:=fun j v hv=>by
 have hj:j<B.length:=(List.getElem?_eq_some_iff.1 hv).1
 rw [jH w g _ _ t _ h]
 rw [jM hj] at hv
 simpa [hj,kS,List.getElem?_append] using hv
theorem x5T {w:World} {g:Nat} {t:TypeId} {C:Array Value} (h:w.heap[g]? =some (.cells C t (0,0))) (o n:Nat) (hn:o+n<=C.size):w.there g o n:=fun j hj=>by
 refine ⟨?_,jS w g _ _ t h⟩
 rw [jH w g _ _ t _ h,Array.getElem?_eq_getElem (by omega)]
 rfl
theorem x07 (l:List Nat):(vals l).toArray=u8s l:=rfl
theorem bytesAt.take {w:World} {g o:Nat} {B:List Nat} (h:bytesAt w g o B) (n:Nat):bytesAt w g o (B.take n):=fun i hi=>by
 have h1:i<B.length:=by simp at hi;omega
 rw [h i h1]
 have A:i<n:=by simp at hi;omega
 simp [jG,List.getElem?_take_of_lt A]
theorem Bytes.take {w:World} {p:Option Addr} {len cap:Nat} {B:List Nat} (h:Bytes w p len cap B) (n:Nat) (hn:n<=len):Bytes w p n cap (B.take n):=
 ⟨by have:=h.size;simp;omega,by have:=h.le;omega,fun x hx=>h.ok x (List.mem_of_mem_take hx),h.at'.imp id fun ⟨g,o,hp,hx⟩=>⟨g,o,hp,hx.take n⟩⟩
theorem x0M {w w1:World} {g:Nat} (h:w.grownBy w1 (some g)) (o:Nat) (vs:List Value):w.grownBy (w1.setCells g o vs) (some g):=by
 obtain ⟨B,A,E,C⟩:=x0S g vs o w1;exact ⟨A.trans h.os,E.trans h.tape,C.trans h.output,by rw [B];exact h.size,fun k hk hne=>(x0X g vs o w1 k (by intro e;exact hne (by rw [e]))).trans (h.block k hk hne)⟩
theorem x93 {w w1 w2:World} {r:Option Nat} (h:w.grownBy w1 r) (hb:Below w1.heap.size w1 w2):w.grownBy w2 r:=
 ⟨hb.os.trans h.os,hb.tape.trans h.tape,hb.output.trans h.output,jJ h.size hb.size,fun k hk hne=>(hb.block k (jO hk h.size)).trans (h.block k hk hne)⟩
theorem Bytes.grown {w w':World} {p:Option Addr} {len cap:Nat} {B:List Nat} (h:Bytes w p len cap B) {g:Nat} (hg:w.grownBy w' (some g)) (hn:B≠[]->∀a,p=some a->a.block≠g):Bytes w' p len cap B:=
 ⟨h.size,h.le,h.ok,h.at'.imp id fun ⟨b,o,hp,hx⟩=>⟨b,o,hp,fun i hi=>by
  have h1:=hx i hi
  have hb:w'.heap[b]? =w.heap[b]? :=hg.block b (jI h1) (by intro e;exact hn (by intro e0;rw [e0] at hi;simp at hi) _ hp (by simpa using e))
  rw [jX (w:=w) (w':=w') (a:=⟨b,o+i,none⟩) hb]
  exact h1⟩⟩
theorem x0H (w:World) (g o:Nat) (u:Value):w.grownBy (w.setCell ⟨g,o,none⟩ u) (some g):=
 ⟨rfl,rfl,rfl,by simp [World.setCell],fun k _ hne=>kG _ _ _ _ (by intro e;exact hne (by rw [e]))⟩
theorem Bytes.heap {w w':World} {p:Option Addr} {len cap:Nat} {B:List Nat} (h:Bytes w p len cap B) (e:w'.heap=w.heap):Bytes w' p len cap B:=
 ⟨h.size,h.le,h.ok,h.at'.imp id fun ⟨b,o,hp,hx⟩=>⟨b,o,hp,fun i hi=>by
  have h1:=hx i hi
  simp only [World.cell?,e] at h1 ⊢
  exact h1⟩⟩
theorem E5:(Tryz.prog.info? 5).map (·.size)=some 1:=by kernel_rfl
theorem y1o (B:List Nat) (n:Nat):vals (B.drop n)=(vals B).drop n:=by simp [vals]
theorem Bytes.drop {w:World} {g o ln cp:Nat} {B:List Nat} (h:Bytes w (some ⟨g,o,none⟩) ln cp B) (m:Nat) (hl:m<=ln):Bytes w (some ⟨g,o+m,none⟩) (ln - m) (cp - m) (B.drop m):=by
 have J:=h.size;have H:=h.le;refine ⟨by simp;omega,by omega,Sm.allB_drop h.ok m,Or.inr ⟨g,o+m,rfl,?_⟩⟩;rcases h.at' with I | ⟨C,E,G,A⟩
 ·intro i hi;simp only [kY] at hi;omega
 ·obtain ⟨rfl,rfl⟩:g=C/\o=E:=by simpa using G
  exact A.drop m
theorem x1g {w w1 w2:World} (hb:Below w1.heap.size w1 w2) (e:w1.heap=w.heap) (e1:w1.os=w.os) (e2:w1.tape=w.tape) (e3:w1.output=w.output):Below w.heap.size w w2:=
 ⟨hb.os.trans e1,hb.tape.trans e2,hb.output.trans e3,by rw [<- e];exact hb.size,fun k hk=>by rw [hb.block k (by rw [e];exact hk),e]⟩
theorem x7I (w:World) (A:Obj) (old cs:Array Value) (t:TypeId):((w.alloc A).alloc (.cells old t (0,0))).setRow (w.heap.size+1) cs=(w.alloc A).alloc (.cells cs t (0,0)):=by
 have:=x03 (w.alloc A) old cs t;rw [show (w.alloc A).heap.size=w.heap.size+1 from by simp] at this;exact this
theorem x2C (n:Nat):Sm.allB (zeros n):=fun x hx=>by
 have:=(List.mem_replicate.1 hx).2
 omega
structure Tx (w:World) (p:Option Addr) (len cap:Nat) (B:List Nat):Prop where
 size:len=B.length
 le:len<=cap
 ok:Sm.allB B
 at':(p=none/\cap=0)\/∃x,p=some x/\∀j u,(vals B)[j]? =some u->w.cell? (x.add j)=some u
 sp:∀x,p=some x->0<cap->x.spot=none
theorem Tx.later {w w':World} {p:Option Addr} {len cap:Nat} {B:List Nat} (h:Tx w p len cap B) (hb:Below w.heap.size w w'):Tx w' p len cap B:=
 ⟨h.size,h.le,h.ok,h.at'.imp id fun ⟨x,hp,hx⟩=>⟨x,hp,fun j u hu=>(hb.cell (p:=x.add j) (jI (hx j u hu))).trans (hx j u hu)⟩,h.sp⟩
theorem Tx.cells {w:World} {x:Addr} {n c:Nat} {B:List Nat} (h:Tx w (some x) n c B):∀j u,(vals B)[j]? =some u->w.cell? (x.add j)=some u:=by
 rcases h.at' with ⟨A,_⟩ | ⟨y,A,C⟩
 ·cases A
 ·cases A;exact C
structure Texts (w:World) (p:Option Addr) (len cap:Nat) (L:List (List Nat)):Prop where
 size:len=L.length
 le:len<=cap
 at':L≠[]->∃g o,p=some ⟨g,o,none⟩/\∀i,i<L.length->∃q n c,w.cell? ⟨g,o+i,none⟩=some (.slice q n c)/\Tx w q n c (L.getD i [])
theorem Texts.later {w w':World} {p:Option Addr} {len cap:Nat} {L:List (List Nat)} (h:Texts w p len cap L) (hb:Below w.heap.size w w'):Texts w' p len cap L:=
 ⟨h.size,h.le,fun hn=>by
  obtain ⟨g,o,hp,hx⟩:=h.at' hn
  refine ⟨g,o,hp,fun i hi=>?_⟩
  obtain ⟨q,n,c,h1,h2⟩:=hx i hi
  exact ⟨q,n,c,(hb.cell (p:=⟨g,o+i,none⟩) (jI h1)).trans h1,h2.later hb⟩⟩
theorem x6R (L:List (List Nat)) (k:Nat) (h:k<L.length):L.take (k+1)=L.take k++[L.getD k []]:=by
 rw [List.take_succ_eq_append_getElem h,jG,jM h];rfl
theorem x0w (A B:List Nat):vals (A++B)=vals A++vals B:=by simp [vals]
theorem x4J {w w':World} {base:Nat} {v:Value} {n:Nat} {xs:List Value} (h:w.ownsRow base 5 1 v n xs) (hb:Below w.heap.size w w'):w'.ownsRow base 5 1 v n xs:=by
 obtain ⟨H,E⟩:=h;refine ⟨H,E.imp id ?_⟩;rintro ⟨g,B,A,I,G,C,r⟩;exact ⟨g,B,A,I,G,(hb.block _ (yL C)).trans C,r⟩
theorem Bytes.cells {w:World} {g o n c:Nat} {B:List Nat} (h:Bytes w (some ⟨g,o,none⟩) n c B):∀j u,(vals B)[j]? =some u->w.cell? ((⟨g,o,none⟩:Addr).add j)=some u:=fun j u hu=>by
 have hj:j<B.length:=by have:=(List.getElem?_eq_some_iff.1 hu).1;simpa [vals] using this
 obtain ⟨E,C,G,A⟩:=h.ne (by intro e;rw [e] at hj;simp at hj)
 obtain ⟨rfl,rfl⟩:g=E/\o=C:=by simpa using G
 rw [x1u _ _ hj] at hu
 rw [Addr.add_mid,A j hj,hu]
theorem Bytes.tx {w:World} {p:Option Addr} {n c:Nat} {B:List Nat} (h:Bytes w p n c B):Tx w p n c B:=by
 have E:=h.size;have C:=h.le;rcases h.at' with G | ⟨g,o,H,A⟩
 ·refine ⟨E,C,h.ok,?_,fun _ _ h3=>by omega⟩;cases p with
  | none=>exact Or.inl ⟨rfl,G⟩
  | some x=>
   refine Or.inr ⟨x,rfl,fun j u hu=>?_⟩;have:=(List.getElem?_eq_some_iff.1 hu).1;rw [x00] at this;omega
 ·subst H;exact ⟨E,C,h.ok,Or.inr ⟨_,rfl,h.cells⟩,fun x A _=>by cases A;rfl⟩
theorem Tx.bytes {w:World} {p:Option Addr} {n c:Nat} {B:List Nat} (h:Tx w p n c B):Bytes w p n c B:=by
 refine ⟨h.size,h.le,h.ok,?_⟩;rcases h.at' with ⟨_,H⟩ | ⟨x,C,E⟩
 ·exact Or.inl H
 ·rcases Nat.eq_zero_or_pos c with A | A
  ·exact Or.inl A
  ·have G:=h.sp x C A;obtain ⟨g,o,I⟩:=x;obtain rfl:I=none:=G;exact Or.inr ⟨g,o,C,fun i hi=>by rw [<- Addr.add_mid];exact E i _ (x1u B i hi)⟩
theorem A9:Tryz.prog.underlying 9=some .string:=by kernel_rfl
theorem C5:Tryz.prog.cellsOf 5=1:=by kernel_rfl
theorem x5U (l:List Nat) (i:Nat) (h:i<l.length) (w:World):(_root_.Go.part 5 (u8s l) (i*1)).run Tryz.prog w= .ok (.int .u8 (l.getD i 0:Nat)) w:=by
 have A:(isAgg 5).run Tryz.prog w= .ok false w:=by
  unfold isAgg;rw [Sem.run_bind,run_underlying U5 w];rfl
 have:=y1n l i h;simp [_root_.Go.part,Sem.run_bind,A,this]
theorem x6a (a b:List Nat) (d:Nat) (w:World):∀is:List Nat,(∀i∈is,i<a.length/\i<b.length)->(Op.eqItems (d+1) 5 1 (u8s a) (u8s b) is).run Tryz.prog w= .ok (is.all fun i=>a.getD i 0==b.getD i 0) w
 |[],_=>rfl
 | i::is,h=>by
  have h1:=h i (by simp)
  have ih:=x6a a b d w is (fun j hj=>h j (by simp [hj]))
  have e1:(Op.equalIn (d+1) 5 (.int .u8 (a.getD i 0:Nat)) (.int .u8 (b.getD i 0:Nat))).run Tryz.prog w= .ok (a.getD i 0==b.getD i 0) w:=by
   rw [run_equalIn_int w d 5 .u8 .u8 _ _ U5]
   congr 1
   rw [Bool.eq_iff_iff];simp only [beq_iff_eq];omega
  simp only [Op.eqItems,Sem.run_bind,x5U a i h1.1,x5U b i h1.2,Result.andThen_ok,e1];cases hc:(a.getD i 0==b.getD i 0)
  ·simp only [List.all_cons,hc,Bool.false_and];rfl
  ·simp only [List.all_cons,hc,Bool.true_and,Bool.not_true,Bool.false_eq_true,if_false];exact ih
theorem y3m (a b:List Nat) (ha:a.length=32) (hb:b.length=32):((List.range 32).all fun i=>a.getD i 0==b.getD i 0)=decide (a=b):=by
 rw [Bool.eq_iff_iff];simp only [List.all_eq_true,List.mem_range,beq_iff_eq,decide_eq_true_eq];constructor
 ·intro h;apply List.ext_getElem (by omega);intro i h1 h2;have:=h i (by omega)
  simpa [jG,jM h1,jM h2] using this
 ·rintro rfl i _;rfl
theorem Bytes.row {w:World} {g:Nat} {L:List Nat} {t:TypeId} {fr:Nat×Nat} (hg:w.heap[g]? =some (.cells (u8s L) t fr)) (hL:Sm.allB L):Bytes w (some ⟨g,0,none⟩) L.length L.length L:=
 ⟨rfl,jB _,hL,Or.inr ⟨g,0,rfl,fun i hi=>by rw [Nat.zero_add];exact x2B hg i hi⟩⟩
def txt (s:ByteArray):List Nat:=s.data.toList.map UInt8.toNat
def strOf (l:List Nat):ByteArray:=strOfNums (l.map Int.ofNat)
theorem x86 {l:List Nat} (h:Sm.allB l):txt (strOf l)=l:=by
 unfold txt strOf;rw [strOfNums_data,List.map_map,List.map_map]
 conv=>rhs;rw [<- List.map_id l]
 apply List.map_congr_left;intro x hx;have:=h x hx;simp;omega
theorem x3c {w wr w':World} {g:Nat} (h:Below w.heap.size w wr) (hg:wr.grownBy w' (some g)) (hl:w.heap.size<=g):Below w.heap.size w w':=
 h.grown hg h.size (fun k hk=>by simp at hk;omega)
theorem x87 {w:World} {base n:Nat} {v:Value} {B:List Nat} (h:w.ownsRow base 5 1 v n (vals B)) (hB:Sm.allB B):∃q c,v= .slice q n c/\Bytes w q n c B:=by
 have C:n=B.length:=by have:=h.1;rw [x00,Nat.mul_one] at this;exact this.symm
 rcases h.2 with ⟨rfl,G⟩ | ⟨g,A,E,rfl,r⟩
 ·subst G;have H:B=[]:=jZ.1 C.symm;exact ⟨none,0,rfl,⟨C,jB _,hB,Or.inl rfl⟩⟩
 ·exact ⟨_,A,rfl,Bytes.of_owns h hB⟩
theorem x0o {a b c:World} {r:Option Nat} (h:a.grownBy b r) (k:b.grownBy c r):a.grownBy c r:=
 ⟨k.os.trans h.os,k.tape.trans h.tape,k.output.trans h.output,jJ h.size k.size,fun i hi hne=>(k.block i (jO hi h.size) hne).trans (h.block i hi hne)⟩
theorem y3n {A B:List Nat} (hA:Sm.allB A) (hB:Sm.allB B):strOf A=strOf B↔A=B:=by
 constructor
 ·intro h;rw [<- x86 hA,<- x86 hB,h]
 ·rintro rfl;rfl
theorem Tx.heap {w w':World} {p:Option Addr} {n c:Nat} {B:List Nat} (h:Tx w p n c B) (e:w'.heap=w.heap):Tx w' p n c B:=
 ⟨h.size,h.le,h.ok,h.at'.imp id fun ⟨x,hp,hx⟩=>⟨x,hp,fun j u hu=>by have:=hx j u hu;simp only [World.cell?,e] at this ⊢;exact this⟩,h.sp⟩
theorem y77 {A B:List Nat} (hA:Sm.allB A) (hB:Sm.allB B):((strOf A).toList==(strOf B).toList)=decide (A=B):=by
 rw [Bool.eq_iff_iff,beq_iff_eq,jY,ByteArray.toList_eq,ByteArray.toList_eq];constructor
 ·intro h;apply (y3n hA hB).1;cases hA':strOf A
  cases hB':strOf B
  rw [hA',hB'] at h
  congr 1
  exact Array.ext' h
 ·rintro rfl;rfl
theorem Below.drewN {B:Nat} {a w:World} (h:Below B a w) (n:Nat):Below B a (w.drewN n):=⟨h.os,h.tape,h.output,h.size,h.block⟩
theorem x0K {w:World} {base n:Nat} {q:Option Addr} {c:Nat} {B:List Nat} (h:w.ownsRow base 5 1 (.slice q n c) n (vals B)) (hB:Sm.allB B):Tx w q n c B:=by
 have C:n=B.length:=by have:=h.1;rw [x00,Nat.mul_one] at this;exact this.symm
 rcases h.2 with ⟨A,H⟩ | ⟨g,G,E,A,r⟩
 ·simp at A;obtain ⟨rfl,rfl,rfl⟩:=A;exact ⟨C,jB _,hB,Or.inl ⟨rfl,rfl⟩,fun _ h _=>by cases h⟩
 ·simp at A;obtain ⟨rfl,rfl⟩:=A;exact (Bytes.of_owns h hB).tx
end
section
open Go.ChangeShapes Go.WideShapes Go.ChangeAt Go.RowKit Go.Deep
theorem y5i:ownKnob Tryz.prog.godebug=none:=by kernel_rfl
theorem x3d:laidOutB Tryz.prog=true:=by kernel_rfl
end
section
open Go.RowKit
structure Ints (w:World) (p:Option Addr) (n c:Nat) (R:List Int):Prop where
 size:n=R.length
 le:n<=c
 ok:∀x∈R,-9223372036854775808<=x/\x<=9223372036854775807
 at':R=[]\/∃g o,p=some ⟨g,o,none⟩/\∀i,i<R.length->w.cell? ⟨g,o+i,none⟩=some (.int .i64 (R.getD i 0))
theorem Ints.later {w w':World} {p:Option Addr} {n c:Nat} {R:List Int} (h:Ints w p n c R) (hb:Below w.heap.size w w'):Ints w' p n c R:=
 ⟨h.size,h.le,h.ok,h.at'.imp id fun ⟨g,o,hp,hx⟩=>⟨g,o,hp,fun i hi=>(hb.cell (p:=⟨g,o+i,none⟩) (jI (hx i hi))).trans (hx i hi)⟩⟩
theorem Ints.get {w:World} {p:Option Addr} {n c:Nat} {R:List Int} (h:Ints w p n c R) (k:Nat) (hk:k<n): -9223372036854775808<=R.getD k 0/\R.getD k 0<=9223372036854775807:=by
 have A:k<R.length:=by rw [<- h.size];exact hk
 rw [jG,jM A];exact h.ok _ (kM A)
theorem Ints.cell {w:World} {p:Option Addr} {n c:Nat} {R:List Int} (h:Ints w p n c R) (k:Nat) (hk:k<n):∃g o,p=some ⟨g,o,none⟩/\w.cell? ⟨g,o+k,none⟩=some (.int .i64 (R.getD k 0)):=by
 have A:k<R.length:=by rw [<- h.size];exact hk
 rcases h.at' with E | ⟨g,o,C,B⟩
 ·rw [E] at A;exact absurd A (by simp)
 ·exact ⟨g,o,C,B k A⟩
structure Rw where
 p:Option Addr
 (n c:Nat)
 R:List Int
instance:Inhabited Rw:=⟨⟨none,0,0,[]⟩⟩
def Rw.val (t:Rw):Value:=.slice t.p t.n t.c
structure Rw.Ok (w:World) (t:Rw):Prop where
 ints:Ints w t.p t.n t.c t.R
 top:t.n<=9223372036854775807
structure RowsIn (w:World) (p:Option Addr) (n c:Nat) (L:List Rw):Prop where
 size:n=L.length
 le:n<=c
 each:∀t∈L,t.Ok w
 at':L=[]\/∃g o,p=some ⟨g,o,none⟩/\∀i,i<L.length->w.cell? ⟨g,o+i,none⟩=some (L.getD i default).val
theorem Rw.Ok.later {w w':World} {t:Rw} (h:t.Ok w) (hb:Below w.heap.size w w'):t.Ok w':=⟨h.ints.later hb,h.top⟩
theorem RowsIn.later {w w':World} {p:Option Addr} {n c:Nat} {L:List Rw} (h:RowsIn w p n c L) (hb:Below w.heap.size w w'):RowsIn w' p n c L:=
 ⟨h.size,h.le,fun t ht=>(h.each t ht).later hb,h.at'.imp id fun ⟨g,o,hp,hx⟩=>⟨g,o,hp,fun i hi=>(hb.cell (p:=⟨g,o+i,none⟩) (jI (hx i hi))).trans (hx i hi)⟩⟩
theorem RowsIn.cell {w:World} {p:Option Addr} {n c:Nat} {L:List Rw} (h:RowsIn w p n c L) (k:Nat) (hk:k<n):∃g o,p=some ⟨g,o,none⟩/\w.cell? ⟨g,o+k,none⟩=some (L.getD k default).val/\(L.getD k default).Ok w:=by
 have A:k<L.length:=by rw [<- h.size];exact hk
 rcases h.at' with E | ⟨g,o,C,B⟩
 ·rw [E] at A;exact absurd A (by simp)
 ·refine ⟨g,o,C,B k A,?_⟩;rw [jG,jM A];exact h.each _ (kM A)
theorem A25:Tryz.prog.underlying 30=some (.array 32 5):=by kernel_rfl
theorem Z25:(Tryz.prog.info? 30).map (fun i=>(i.zero,i.size))=some (some (.agg (u8s (zeros 32))),32):=by kernel_rfl
theorem S25:(Tryz.prog.info? 30).map (·.size)=some 32:=by kernel_rfl
theorem x4w (a b:List Nat) (ha:a.length=32) (hb:b.length=32) (d:Nat) (w:World):(Op.equalIn (d+2) 30 (.agg (u8s a)) (.agg (u8s b))).run Tryz.prog w= .ok (decide (a=b)) w:=by
 obtain ⟨i,B,A⟩:∃i,Tryz.prog.info? 5=some i/\i.size=1:=by
  obtain ⟨C,B,_,A,_⟩:=info_parts I5;exact ⟨C,B,A⟩
 rw [run_equalIn_array w (d+1) (u8s a) (u8s b) A25 B,C5,x6a a b d w _ (fun i B=>by have:=List.mem_range.1 B;omega),y3m a b ha hb]
end
namespace Pg
open Go.RowKit
theorem x1I {ρ:Operand->Value} {o:Oper} {x:Operand} {w:World} {g off:Nat} {D:List Nat} (ho:o.op= .load 30 x) (hx:ρ x= .pointer (some ⟨g,off,none⟩)) (hD:D.length=32) (h:w.rangeAt g off (vals D)):(execOp ρ o).run Tryz.prog w= .ok (.value (.agg (u8s D))) w:=by
 unfold execOp;simp only [ho,hx,Instr.loadAt,Instr.sureAddr,Sem.run_bind,Sem.run_pure,Result.andThen_ok,run_loadVar_mid w g off 30 (vals D) _ h A25 rfl (by rw [x00,hD];exact S25),x07]
theorem x0p {w:World} {g:Nat} {D:List Nat} {t:TypeId} (h:w.heap[g]? =some (.cells (u8s D) t (0,0))):w.rangeAt g 0 (vals D):=fun j v hv=>by
 have hj:j<D.length:=by have:=(List.getElem?_eq_some_iff.1 hv).1;rwa [x00] at this
 rw [Nat.zero_add,x2B h j hj,<- hv,x1u D j hj]
end Pg
namespace Cm
def be (n s:Nat):List Nat:=(List.range s).map fun i=>n/2^(8*(s - 1 - i))%256
theorem be_length (n s:Nat):(be n s).length=s:=by simp [be]
theorem be_get (n s i:Nat) (h:i<s):(be n s).getD i 0=n/2^(8*(s - 1 - i))%256:=by
 simp [be,jG,h]
theorem be_take (n s i:Nat) (h:i<s):(be n s).take (i+1)=(be n s).take i++[n/2^(8*(s - 1 - i))%256]:=by
 rw [List.take_succ_eq_append_getElem (by rw [be_length];exact h)];simp [be]
theorem be_ok (n s:Nat):Sm.allB (be n s):=by
 intro x hx;simp only [be,kJ] at hx;obtain ⟨i,_,rfl⟩:=hx;exact Nat.mod_lt _ (by omega)
theorem x7J (n s:Nat):be n (s+1)=(n/2^(8*s)%256)::be n s:=by
 unfold be;rw [List.range_succ_eq_map,kB,List.map_map]
 congr 1
 apply List.map_congr_left;intro i _;simp only [Function.comp_apply];rw [show s+1 - 1 - (i+1)=s - 1 - i from by omega]
def z64 (n:Int):Nat:=(n+9223372036854775808).toNat
theorem z64_lt {n:Int} (h1: -9223372036854775808<=n) (h2:n<=9223372036854775807):z64 n<18446744073709551616/\((z64 n:Nat):Int)=n+9223372036854775808:=by
 unfold z64;omega
theorem x9k {x:Nat} (h:x<2^63):x^^^2^63=2^63+x:=by
 apply Nat.eq_of_testBit_eq;intro i;rw [Nat.testBit_xor,Nat.testBit_two_pow];rcases Nat.lt_trichotomy i 63 with A | rfl | A
 ·rw [Nat.testBit_two_pow_add_gt A,kE (by omega),Bool.xor_false]
 ·rw [Nat.testBit_two_pow_add_eq,kF rfl,Bool.xor_true]
 ·have B:x.testBit i=false:=Nat.testBit_lt_two_pow (Nat.lt_trans h (Nat.pow_lt_pow_right (by omega) A));have C:(2^63+x).testBit i=false:=Nat.testBit_lt_two_pow (by
   have:2^64<=2^i:=Nat.pow_le_pow_right (by omega) A;omega)
  rw [B,C,kE (by omega),Bool.xor_false]
theorem y3o {x:Nat} (h:x<2^63):(2^63+x)^^^2^63=x:=by
 rw [<- x9k h,Nat.xor_assoc,Nat.xor_self,Nat.xor_zero]
theorem wrap_u64 (n:Int):IntKind.u64.wrap n=n%18446744073709551616:=IntKind.wrap_u64 n
theorem sign_int {n:Int} (h1: -9223372036854775808<=n) (h2:n<=9223372036854775807):bits .xor .u64 (IntKind.u64.wrap n) 9223372036854775808=((z64 n:Nat):Int):=by
 rw [wrap_u64];by_cases h:0<=n
 ·obtain ⟨x,rfl⟩:∃x:Nat,n=x:=⟨n.toNat,by omega⟩
  have e:(x:Int)%18446744073709551616=(x:Nat):=by omega
  rw [e];have:=u64_xor_nat x 9223372036854775808 (by omega) (by omega);refine Eq.trans this ?_;have A:x^^^9223372036854775808=9223372036854775808+x:=x9k (by omega);rw [A];unfold z64;omega
 ·obtain ⟨x,B⟩:∃x:Nat,n=(x:Int) - 9223372036854775808:=⟨(n+9223372036854775808).toNat,by omega⟩
  subst B;have e:((x:Int) - 9223372036854775808)%18446744073709551616=((9223372036854775808+x:Nat):Int):=by omega
  rw [e];have:=u64_xor_nat (9223372036854775808+x) 9223372036854775808 (by omega) (by omega);refine Eq.trans this ?_;have A:(9223372036854775808+x)^^^9223372036854775808=x:=y3o (by omega);rw [A];unfold z64;omega
def num (n:Int):List Nat:=be (z64 n) 8
theorem num_length (n:Int):(num n).length=8:=be_length _ _
theorem num_ok (n:Int):Sm.allB (num n):=be_ok _ _
def val (B:List Nat):Nat:=B.foldl (fun n b=>n*256+b) 0
theorem y1p (B:List Nat) (m:Nat):B.foldl (fun n b=>n*256+b) m=m*256^B.length+val B:=by
 induction B generalizing m with
 | nil=>simp [val]
 | cons b B ih=>
  unfold val;rw [List.foldl_cons,List.foldl_cons,ih,ih (0*256+b),kI,Nat.pow_succ,Nat.zero_mul,Nat.zero_add,Nat.add_mul,Nat.mul_assoc,Nat.mul_comm 256];omega
theorem x7K (b:Nat) (B:List Nat):val (b::B)=b*256^B.length+val B:=by
 have:=y1p B (0*256+b);unfold val at this ⊢;rw [List.foldl_cons,this];simp
theorem val_snoc (B:List Nat) (b:Nat):val (B++[b])=val B*256+b:=by
 unfold val;rw [List.foldl_append];rfl
theorem pow8 (s:Nat):(2:Nat)^(8*s)=256^s:=by rw [Nat.pow_mul]
theorem val_lt {B:List Nat} (h:Sm.allB B):val B<256^B.length:=by
 induction B with
 | nil=>simp [val]
 | cons b B ih=>
  have A:=h b (by simp);have C:=ih (fun x hx=>h x (by simp [hx]));rw [x7K,kI,Nat.pow_succ];have:b*256^B.length+256^B.length<=256^B.length*256:=by
   rw [Nat.mul_comm (256^B.length) 256,<- Nat.succ_mul];exact Nat.mul_le_mul_right _ A
  omega
theorem val_be (n s:Nat):val (be n s)=n%256^s:=by
 induction s with
 | zero=>simp [be,val,Nat.mod_one]
 | succ s ih=>
  rw [x7J,x7K,be_length,ih,pow8,Nat.pow_succ,Nat.mod_mul];rw [Nat.mul_comm];omega
theorem be_val {B:List Nat} (h:Sm.allB B):be (val B) B.length=B:=by
 induction B with
 | nil=>simp [be]
 | cons b B ih=>
  have G:=h b (by simp);have C:Sm.allB B:=fun x hx=>h x (by simp [hx]);have E:=val_lt C;rw [kI,x7J,x7K,pow8];have H:0<256^B.length:=Nat.pow_pos (by omega);have I:(b*256^B.length+val B)/256^B.length=b:=by
   rw [Nat.mul_comm,Nat.mul_add_div H,Nat.div_eq_of_lt E];omega
  rw [I,Nat.mod_eq_of_lt G]
  congr 1
  have A:∀s m k:Nat,s<=k->be (m*256^k+val B) s=be (val B) s:=by
   intro s
   induction s with
   | zero=>intro m k _;simp [be]
   | succ s ihs=>
    intro m k hk;rw [x7J,x7J,ihs m k (by omega),pow8]
    congr 1
    obtain ⟨j,rfl⟩:∃j,k=s+1+j:=⟨k - (s+1),by omega⟩
    have:m*256^(s+1+j)=256^s*(256*(m*256^j)):=by
     rw [Nat.pow_add,Nat.pow_succ];simp only [Nat.mul_assoc,Nat.mul_comm,Nat.mul_left_comm]
    rw [this,Nat.mul_add_div (Nat.pow_pos (by omega))];omega
  rw [A B.length b B.length (jB _)];exact ih C
def cmpL:List Nat->List Nat->Int
 |[],[]=>0
 |[],_::_=> -1
 | _::_,[]=>1
 | x::a,y::b=>if x<y then -1 else if y<x then 1 else cmpL a b
end Cm
namespace Mm
def bin (g:Nat->Nat):Nat->Nat
 | 0=>0
 | n+1=>2*bin g n+g n
def bytesOf (f:Nat->Nat) (n:Nat):List Nat:=(List.range n).map fun j=>bin (fun k=>f (8*j+k)) 8
def bitOf (B:List Nat) (i:Nat):Nat:=B.getD (i/8) 0/2^(7 - i%8)%2
def cbit (R:List Int) (i:Nat):Nat:=Cm.z64 (R.getD (i%R.length) 0)/2^(63 - i/R.length)%2
def code (R:List Int):List Nat:=bytesOf (cbit R) (8*R.length)
def numAt (f:Nat->Nat) (d k:Nat):Int:=(bin (fun l=>f (l*d+k)) 64:Nat) - 9223372036854775808
def point (B:List Nat) (d:Nat):List Int:=(List.range d).map (numAt (bitOf B) d)
def inI (R:List Int):Prop:=∀x∈R,-9223372036854775808<=x/\x<=9223372036854775807
end Mm
namespace Mo
open Go.RowKit
def i64s (L:List Int):Array Value:=(L.map (Value.int .i64)).toArray
theorem i64s_get (L:List Int) (i:Nat) (h:i<L.length):(i64s L)[i]? =some (.int .i64 (L.getD i 0)):=by
 simp [i64s,jG,jM h]
theorem i64s_put (L:List Int) (k:Nat) (x:Int):(i64s L).setIfInBounds k (.int .i64 x)=i64s (L.set k x):=by
 apply Array.ext';simp [i64s,List.map_set]
theorem i64s_ints {w:World} {g:Nat} {L:List Int} {t:TypeId} {fr:Nat×Nat} (hg:w.heap[g]? =some (.cells (i64s L) t fr)) (hL:Mm.inI L):Ints w (some ⟨g,0,none⟩) L.length L.length L:=
 ⟨rfl,jB _,hL,Or.inr ⟨g,0,rfl,fun i hi=>by rw [Nat.zero_add,jH w g i _ t fr hg,i64s_get L i hi]⟩⟩
theorem y3p (n:Nat):madeCells (Value.cells (.int .i64 0)) n=i64s (List.replicate n 0):=by
 apply Array.ext
 ·simp [size_madeCells,i64s]
 ·intro i h1 h2;simp [madeCells,i64s,Value.cells,Nat.mod_one]
theorem I2:(Tryz.prog.info? 2).map (fun i=>(i.zero,i.size,i.bytes))=some (some (.int .i64 0),1,8):=by kernel_rfl
theorem URw:Tryz.prog.underlying 24=some (.slice 2):=by kernel_rfl
theorem make_row (m:Nat) (hm:m<=1000) (w:World):(Instr.makeSlice 24 (.int .i64 m) (.int .i64 m)).run Tryz.prog w= .ok (.slice (some ⟨w.heap.size,0,none⟩) m m) (w.alloc (.cells (i64s (List.replicate m 0)) 2)):=by
 obtain ⟨E,G,B,A,C⟩:=info_parts I2;have:=run_make (P:=Tryz.prog) w 24 2 E _ URw G B .i64 .i64 m m (by omega) (by omega) (by rw [C];omega) (by omega);rw [this,A];simp only [Int.toNat_natCast,Nat.mul_one,y3p]
def ivals (L:List Int):List Value:=L.map (Value.int .i64)
theorem x88 (L:List Int):∀u∈ivals L,u.oneCell'=true:=by
 intro u hu;simp only [ivals,kJ] at hu;obtain ⟨x,_,rfl⟩:=hu;rfl
theorem x5V {w:World} {g:Nat} {L:List Int} {t:TypeId} (hg:w.heap[g]? =some (.cells (i64s L) t (0,0))):∀j u,(ivals L)[j]? =some u->w.cell? ((⟨g,0,none⟩:Addr).add j)=some u:=fun j u hu=>by
 rw [Addr.add_mid,Nat.zero_add,jH w g j _ _ _ hg,<- Array.getElem?_toList]
 exact hu
theorem x4x {w:World} {base n:Nat} {v:Value} {L:List Int} (h:w.ownsRow base 2 1 v n (ivals L)) (hL:Mm.inI L):∃q c,v= .slice q n c/\Ints w q n c L:=by
 have B:n=L.length:=by have:=h.1;rw [ivals,kH,Nat.mul_one] at this;exact this.symm
 rcases h.2 with ⟨rfl,I⟩ | ⟨g,C,A,rfl,G,H,E,M,K,J⟩
 ·subst I;have G:L=[]:=jZ.1 B.symm;exact ⟨none,0,rfl,B,jB _,hL,Or.inl G⟩
 ·refine ⟨_,C,rfl,B,E,hL,Or.inr ⟨g,0,rfl,fun i hi=>?_⟩⟩;rw [Nat.zero_add,jH w g i A _ _ H];have e:(A.toList.take (n*1))[i]? =(ivals L)[i]? :=by rw [J]
  rw [List.getElem?_take_of_lt (by omega)] at e;simp [ivals,jM hi] at e;rw [e];simp [jG,jM hi]
end Mo
section
open Go.RowKit
theorem A22:Tryz.prog.underlying 45=some (.slice 5):=by kernel_rfl
theorem x7L {w:World} {p:Option Addr} {n c:Nat} {B:List Nat} (h:Bytes w p n c B) (hB:B≠[]):(convert 45 9 (.slice p n c)).run Tryz.prog w= .ok (.string (strOfNums (B.map Int.ofNat))) w:=by
 obtain ⟨g,o,rfl,C⟩:=h.ne hB;exact run_convert_bytes_arg (P:=Tryz.prog) w 45 5 A22 U5 g o n c (B.map Int.ofNat) (by rw [kH];exact h.size.symm) (fun i hi=>by
  have A:i<B.length:=by have:=h.size;omega
  rw [C i A];simp [jG,A]) 9 A9
theorem x6b {w:World} {p:Option Addr} {n c:Nat} {B:List Nat} (h:Tx w p n c B):(convert 45 9 (.slice p n c)).run Tryz.prog w= .ok (.string (strOf B)) w:=by
 by_cases hB:B=[]
 ·subst hB;obtain rfl:n=0:=h.size;rw [run_convert_bytes_string w _ _ _ _ _ _ A22 U5 A9];cases p with
  | none=>rfl
  | some x=>exact rfl
 ·exact x7L h.bytes hB
end
namespace Zr
open Go.RowKit Mo
theorem x1n {w w':World} {base:Nat} {e:TypeId} {v:Value} {n:Nat} {xs:List Value} (h:w.ownsRow base e 1 v n xs) (hk:∀g,v.ownBlock=some g->w'.heap[g]? =w.heap[g]?):w'.ownsRow base e 1 v n xs:=by
 obtain ⟨G,C⟩:=h;refine ⟨G,C.imp id ?_⟩;rintro ⟨g,B,A,rfl,E,H,r⟩;exact ⟨g,B,A,rfl,E,(hk g rfl).trans H,r⟩
structure TwoR (w0 w:World) (gb:Nat) (u v:Value) (nu nv:Nat) (A B:List Int):Prop where
 row:w.heap[gb]? =some (.cells #[u,v] 32 (0,0))
 own1:w.ownsRow (gb+1) 2 1 u nu (ivals A)
 own2:w.ownsRow (gb+1) 2 1 v nv (ivals B)
 apart:∀g,u.ownBlock=some g->v.ownBlock≠some g
 low:Below w0.heap.size w0 w
 ge:w0.heap.size<=gb
theorem TwoR.lt {w0 w:World} {gb:Nat} {u v:Value} {nu nv:Nat} {A B:List Int} (h:TwoR w0 w gb u v nu nv A B):gb<w.heap.size:=(yL h.row)
theorem TwoR.facts {w0 w:World} {gb:Nat} {u v:Value} {nu nv:Nat} {A B:List Int} (h:TwoR w0 w gb u v nu nv A B):w.cell? ⟨gb,0,none⟩=some u/\w.cell? ⟨gb,1,none⟩=some v/\w.frozen? ⟨gb,0,none⟩=false/\w.frozen? ⟨gb,1,none⟩=false:=
 ⟨jH w gb 0 _ _ _ h.row,jH w gb 1 _ _ _ h.row,jS w gb _ _ _ h.row,jS w gb _ _ _ h.row⟩
theorem TwoR.start (w0 w:World) (hb:Below w0.heap.size w0 w):TwoR w0 (w.alloc (.cells #[.slice none 0 0,.slice none 0 0] 32)) w.heap.size (.slice none 0 0) (.slice none 0 0) 0 0 [] []:=
 ⟨jE w _,World.ownsRow_nil _ _ _ _,World.ownsRow_nil _ _ _ _,fun g h=>by simp [Value.ownBlock] at h,hb.alloc hb.size _,hb.size⟩
theorem TwoR.later {w0 w w':World} {gb:Nat} {u v:Value} {nu nv:Nat} {A B:List Int} (h:TwoR w0 w gb u v nu nv A B) (hb:Below w.heap.size w w'):TwoR w0 w' gb u v nu nv A B:=
 ⟨(hb.block _ h.lt).trans h.row,x1n h.own1 (fun g hg=>hb.block g (h.own1.lt g hg).2),x1n h.own2 (fun g hg=>hb.block g (h.own2.lt g hg).2),h.apart,h.low.trans (hb.mono h.low.size),h.ge⟩
theorem TwoR.left {w0 w w2:World} {O:Obj} {gb:Nat} {u v u':Value} {nu nv:Nat} {A B:List Int} {x:Int} (h:TwoR w0 w gb u v nu nv A B) (ho:w2.ownsRow (gb+1) 2 1 u' (nu+1) (ivals A++ivals [x])) (hg:(w.alloc O).grownBy w2 u.ownBlock) (ht:u'.ownBlock=u.ownBlock\/u'.ownBlock=some (w.alloc O).heap.size):
  (w2.cell? ⟨gb,0,none⟩=some u/\w2.frozen? ⟨gb,0,none⟩=false)/\TwoR w0 (w2.setCell ⟨gb,0,none⟩ u') gb u' v (nu+1) nv (A++[x]) B:=by
 have E:=jA w O;have L:(w.alloc O).heap.size=w.heap.size+1:=by simp
 have G:=h.lt;have H:∀g,u.ownBlock=some g->gb+1<=g/\g<w.heap.size:=fun g e=>h.own1.lt g e;have I:∀g,v.ownBlock=some g->gb+1<=g/\g<w.heap.size:=fun g e=>h.own2.lt g e;have J:w2.heap[gb]? =w.heap[gb]? :=(hg.block gb (by omega) (fun e=>by have:=H gb e.symm;omega)).trans (E.block gb G);have C:=J.trans h.row;have K:∀g,v.ownBlock=some g->(w2.setCell ⟨gb,0,none⟩ u').heap[g]? =w.heap[g]? :=fun g e=>by
  have:=I g e;rw [kG _ _ _ _ (by show g≠gb;omega),hg.block g (by omega) (fun e2=>h.apart g e2.symm e),E.block g (by omega)]
 refine ⟨⟨jH w2 gb 0 _ _ _ C,jS w2 gb _ _ _ C⟩,jU w2 gb 0 _ _ u' C,?_,x1n h.own2 K,fun g e e2=>?_,((h.low.alloc h.low.size O).grown hg (by have:=h.low.size;omega) (fun g e=>by have:=(H g e).1;have:=h.ge;omega)).setCell h.ge _,h.ge⟩
 ·rw [show ivals (A++[x])=ivals A++ivals [x] from by simp [ivals]];exact x1n ho fun g e=>kG _ _ _ _ (by show g≠gb;have:=(ho.lt g e).1;omega)
 ·have:=I g e2;rcases ht with t | t
  ·exact h.apart g (by rw [<- t];exact e) e2
  ·rw [t] at e;simp only [Option.some.injEq] at e;omega
theorem TwoR.right {w0 w w2:World} {O:Obj} {gb:Nat} {u v v':Value} {nu nv:Nat} {A B:List Int} {x:Int} (h:TwoR w0 w gb u v nu nv A B) (ho:w2.ownsRow (gb+1) 2 1 v' (nv+1) (ivals B++ivals [x])) (hg:(w.alloc O).grownBy w2 v.ownBlock) (ht:v'.ownBlock=v.ownBlock\/v'.ownBlock=some (w.alloc O).heap.size):
  (w2.cell? ⟨gb,1,none⟩=some v/\w2.frozen? ⟨gb,1,none⟩=false)/\TwoR w0 (w2.setCell ⟨gb,1,none⟩ v') gb u v' nu (nv+1) A (B++[x]):=by
 have E:=jA w O;have L:(w.alloc O).heap.size=w.heap.size+1:=by simp
 have G:=h.lt;have H:∀g,u.ownBlock=some g->gb+1<=g/\g<w.heap.size:=fun g e=>h.own1.lt g e;have I:∀g,v.ownBlock=some g->gb+1<=g/\g<w.heap.size:=fun g e=>h.own2.lt g e;have J:w2.heap[gb]? =w.heap[gb]? :=(hg.block gb (by omega) (fun e=>by have:=I gb e.symm;omega)).trans (E.block gb G);have C:=J.trans h.row;have K:∀g,u.ownBlock=some g->(w2.setCell ⟨gb,1,none⟩ v').heap[g]? =w.heap[g]? :=fun g e=>by
  have:=H g e;rw [kG _ _ _ _ (by show g≠gb;omega),hg.block g (by omega) (fun e2=>h.apart g e e2.symm),E.block g (by omega)]
 refine ⟨⟨jH w2 gb 1 _ _ _ C,jS w2 gb _ _ _ C⟩,jU w2 gb 1 _ _ v' C,x1n h.own1 K,?_,fun g e e2=>?_,((h.low.alloc h.low.size O).grown hg (by have:=h.low.size;omega) (fun g e=>by have:=(I g e).1;have:=h.ge;omega)).setCell h.ge _,h.ge⟩
 ·rw [show ivals (B++[x])=ivals B++ivals [x] from by simp [ivals]];exact x1n ho fun g e=>kG _ _ _ _ (by show g≠gb;have:=(ho.lt g e).1;omega)
 ·have:=H g e;rcases ht with t | t
  ·exact h.apart g e (by rw [<- t];exact e2)
  ·rw [t] at e2;simp only [Option.some.injEq] at e2;omega
def x7M (w:World) (A B:List Int) (v:Value) (w':World):Prop:=∃p c q e,v= .agg #[.slice p A.length c,.slice q B.length e]/\Ints w' p A.length c A/\Ints w' q B.length e B/\Below w.heap.size w w'
theorem TwoR.done {w0 w:World} {gb:Nat} {u v:Value} {nu nv:Nat} {A B:List Int} (h:TwoR w0 w gb u v nu nv A B) (hA:Mm.inI A) (hB:Mm.inI B):x7M w0 A B (.agg #[u,v]) w:=by
 have C:nu=A.length:=by have:=h.own1.1;rw [ivals,kH,Nat.mul_one] at this;exact this.symm
 have E:nv=B.length:=by have:=h.own2.1;rw [ivals,kH,Nat.mul_one] at this;exact this.symm
 obtain ⟨p,c,rfl,H⟩:=x4x h.own1 hA;obtain ⟨q,e,rfl,G⟩:=x4x h.own2 hB;subst C;subst E;exact ⟨p,c,q,e,rfl,H,G,h.low⟩
theorem x3p {fn:Func} {P:Ending->World->Prop} (p:Tmp) (hr:fn.results= #[.cell p 32]) {tmps:Array Value} {w:World} (g:Nat) (a b:Value)
  (hp:tmps.getD p undef= .pointer (some ⟨g,0,none⟩)) (r0:w.cell? ⟨g,0,none⟩=some a) (r1:w.cell? ⟨g,1,none⟩=some b) (h:P (.returned (.agg #[a,b])) w):bodyPost Tryz.prog fn P .ret ⟨tmps,[]⟩ w:=by
 refine bodyPost_ret (a:=⟨tmps,[]⟩) (v:=.agg #[a,b]) ?_ rfl h;have A:tmps[p]?.getD undef= .pointer (some ⟨g,0,none⟩):=by simpa using hp
 simp [results,hr,A,go_sem,r0,r1]
end Zr
end Go.Proofs.YtenenciaggbjnaaGreat
