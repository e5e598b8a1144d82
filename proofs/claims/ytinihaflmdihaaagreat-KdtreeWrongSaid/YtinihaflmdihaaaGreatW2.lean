/- KlOpen, KtMath, KtTree, KrLess, KrSort, KtApp, KrAll, KrLay, GenOwn, BoxClone, GenDg, PgOp, CodMath, MorMath, MorBits, MorInts, GenTx. -/
import Derived.Laws.AppendOwn
import Derived.BigQuiet
import Derived.BigRegion
import Derived.Laws.AppendOwnNone
import Derived.Laws.OwnMore
import Derived.Lib.SliceRun
import Derived.Deep.MidRow
import Derived.Deep.RegionHeld3
import Derived.IntWalk
import Derived.Test.YtinihaflmdihaaaGreatW1
set_option maxRecDepth 100000
set_option maxHeartbeats 8000000
set_option linter.unusedVariables false
set_option linter.unusedSimpArgs false
namespace Go.Proofs.YtinihaflmdihaaaGreat.Kt
open Go.ChangeShapes Go.WideShapes Go.ChangeAt Go.RowKit Go.Deep
open List renaming setIfInBounds_toArray → sA, set_cons_zero → sZ, set_cons_succ → sS
theorem URs1:Tryz.prog.underlying 51=some (.slice 24):=by kernel_rfl
theorem CRow1:Tryz.prog.cellsOf 24=1:=by kernel_rfl
theorem open_rowsK {H:Type} {enc:TypeId×Value→H} {W:World} {base:Nat} {held:Bool} {fuel:Nat} {a0:Option Addr} {len0 cap0:Nat} {x:DataW H×List MemPlace}
  (h:DataW.trod enc Tryz.prog W base (fun _=>true) held fuel 51 (Value.slice a0 len0 cap0).cells.toList=some x):(∃L,RowsIn W a0 len0 cap0 L∧(a0=none→cap0=0))∧len0≤9223372036854775807:=by
 rcases open_int_rows URs1 UR UI64 CRow1 CI64 h with ⟨hcs,_⟩ | ⟨a,len,cap,A,L,C,Z,hcs,_,hl,hm,_,hx⟩
 ·simp [Value.cells] at hcs
  obtain ⟨rfl,rfl,rfl⟩:=hcs
  exact ⟨⟨[],⟨rfl,Nat.le_refl _,fun t ht=>absurd ht (by simp),Or.inl rfl⟩,fun _=>rfl⟩,by omega⟩
 ·simp [Value.cells] at hcs
  obtain ⟨rfl,rfl,rfl⟩:=hcs
  have hok:∀r,r<len0→Rw.Ok W ⟨A r,L r,C r,(Z r).take (L r)⟩:=fun r hr=>by
   obtain ⟨h1,h2,h3,h4,h5,h6,h7⟩:=hx r (by omega)
   refine ⟨⟨by show L r=_;rw [List.length_take];omega,h2,fun y hy=>bounds_i64 (h5 y (List.mem_of_mem_take hy)),?_⟩,by show L r≤_;unfold maxLen at h3;omega⟩
   rcases Nat.eq_zero_or_pos (L r) with h0 | h0
   ·exact Or.inl (by rw [h0,List.take_zero])
   ·cases hA:A r with
    | none=>have:=h6 hA;exact absurd h0 (by omega)
    | some a'=>
     have h8:=(h7 a' hA).2
     have hsp:=World.cell?_spot (h8 0 (by omega))
     obtain ⟨g,o,spot⟩:=a'
     have hspot:spot=none:=by simpa [Addr.add] using hsp
     subst hspot
     refine Or.inr ⟨g,o,rfl,fun i hi=>?_⟩
     rw [List.length_take] at hi
     have:=h8 i (by omega)
     rw [show (⟨g,o,none⟩:Addr).add i=⟨g,o+i,none⟩ from by unfold Addr.add;split<;>simp_all] at this
     rw [this,List.getD_eq_getElem?_getD,List.getD_eq_getElem?_getD,List.getElem?_take_of_lt (by omega)]
  refine ⟨⟨(List.range len0).map fun r=>⟨A r,L r,C r,(Z r).take (L r)⟩,⟨by simp,hl,fun t ht=>?_,?_⟩,fun e=>by cases e⟩,by unfold maxLen at hm;omega⟩
  ·simp only [List.mem_map,List.mem_range] at ht
   obtain ⟨r,hr,rfl⟩:=ht
   exact hok r hr
  ·rcases Nat.eq_zero_or_pos len0 with h0 | h0
   ·exact Or.inl (by subst h0;rfl)
   ·obtain ⟨g,o,spot⟩:=a
    have hspot:spot=none:=by simpa [Addr.add] using World.cell?_spot (hx 0 (by omega)).1
    subst hspot
    refine Or.inr ⟨g,o,rfl,fun i hi=>?_⟩
    have hi':i<len0:=by simpa using hi
    have h1:=(hx i (by omega)).1
    rw [← Addr.add_mid]
    simp only [List.getD_eq_getElem?_getD,List.getElem?_map,List.getElem?_range hi',Option.map_some,Option.getD_some,Rw.val]
    exact h1
end Go.Proofs.YtinihaflmdihaaaGreat.Kt
namespace Go.Proofs.YtinihaflmdihaaaGreat.Kt
open Go.RowKit
open List renaming setIfInBounds_toArray → sA, set_cons_zero → sZ, set_cons_succ → sS
def lexLt:List Int→List Int→Bool
 | a::p,b::q=>if a=b then lexLt p q else decide (a<b)
 | _,_=>false
def lessP (k:Nat) (p q:List Int):Bool:=if p.getD k 0=q.getD k 0 then lexLt p q else decide (p.getD k 0<q.getD k 0)
def insP (k:Nat) (out:List (List Int)) (x:List Int):List (List Int):=out.takeWhile (fun y=>lessP k y x)++x::out.dropWhile (fun y=>lessP k y x)
def sortP (k:Nat) (L:List (List Int)):List (List Int):=L.foldl (insP k) []
inductive T where
 | nil:T
 | fork (row:List Int) (live:Bool) (l r:T):T
def T.size:T→Nat
 | .nil=>0
 | .fork _ _ l r=>1+l.size+r.size
def T.all:T→List (List Int)
 | .nil=>[]
 | .fork p v l r=>l.all++r.all++if v then [p] else []
def T.height:T→Nat
 | .nil=>0
 | .fork _ _ l r=>1+max l.height r.height
def layP:Nat→List (List Int)→Nat→T
 | 0,_,_=>.nil
 | n+1,L,t=>if L=[] then .nil else .fork ((sortP (t%(L.headD []).length) L).getD (L.length/2) []) true (layP n ((sortP (t%(L.headD []).length) L).take (L.length/2)) (t+1)) (layP n ((sortP (t%(L.headD []).length) L).drop (L.length/2+1)) (t+1))
def lay (L:List (List Int)) (t:Nat):T:=layP L.length L t
theorem takeWhile_dropWhile_length {α:Type} (f:α→Bool) (L:List α):(L.takeWhile f).length+(L.dropWhile f).length=L.length:=by
 rw [← List.length_append,List.takeWhile_append_dropWhile]
theorem insP_length (k:Nat) (out:List (List Int)) (x:List Int):(insP k out x).length=out.length+1:=by
 unfold insP
 have:=takeWhile_dropWhile_length (fun y=>lessP k y x) out
 rw [List.length_append,List.length_cons]
 omega
theorem fold_length (k:Nat):∀(L out:List (List Int)),(L.foldl (insP k) out).length=out.length+L.length
 |[],out=>by simp
 | x::L,out=>by
  rw [List.foldl_cons,fold_length k L,insP_length,List.length_cons]
  omega
theorem sortP_length (k:Nat) (L:List (List Int)):(sortP k L).length=L.length:=by
 unfold sortP
 rw [fold_length]
 simp
theorem insP_perm (k:Nat) (out:List (List Int)) (x:List Int):(insP k out x).Perm (x::out):=by
 unfold insP
 have h:out.takeWhile (fun y=>lessP k y x)++out.dropWhile (fun y=>lessP k y x)=out:=List.takeWhile_append_dropWhile
 exact (List.perm_middle).trans (by rw [h])
theorem fold_perm (k:Nat):∀(L out:List (List Int)),(L.foldl (insP k) out).Perm (L++out)
 |[],out=>List.Perm.refl _
 | x::L,out=>by
  rw [List.foldl_cons]
  refine (fold_perm k L _).trans ?_
  exact ((insP_perm k out x).append_left L).trans List.perm_middle
theorem sortP_perm (k:Nat) (L:List (List Int)):(sortP k L).Perm L:=by
 have:=fold_perm k L []
 rwa [List.append_nil] at this
theorem layP_fuel:∀(n m:Nat) (L:List (List Int)) (t:Nat),L.length≤n→L.length≤m→layP n L t=layP m L t
 | 0,0,_,_,_,_=>rfl
 | 0,m+1,L,t,h,_=>by
  have:L=[]:=List.length_eq_zero_iff.1 (by omega)
  rw [this]
  simp [layP]
 | n+1,0,L,t,_,h=>by
  have:L=[]:=List.length_eq_zero_iff.1 (by omega)
  rw [this]
  simp [layP]
 | n+1,m+1,L,t,h1,h2=>by
  rw [layP,layP]
  by_cases hL:L=[]
  ·rw [if_pos hL,if_pos hL]
  ·rw [if_neg hL,if_neg hL]
   have hp:=List.length_pos_iff.2 hL
   have l1:((sortP (t%(L.headD []).length) L).take (L.length/2)).length≤L.length/2:=by rw [List.length_take];omega
   have l2:((sortP (t%(L.headD []).length) L).drop (L.length/2+1)).length≤L.length - (L.length/2+1):=by rw [List.length_drop,sortP_length];omega
   rw [layP_fuel n m _ (t+1) (by omega) (by omega),layP_fuel n m _ (t+1) (by omega) (by omega)]
theorem lay_go {L:List (List Int)} {t:Nat} (hL:L≠[]):lay L t= .fork ((sortP (t%(L.headD []).length) L).getD (L.length/2) []) true (lay ((sortP (t%(L.headD []).length) L).take (L.length/2)) (t+1)) (lay ((sortP (t%(L.headD []).length) L).drop (L.length/2+1)) (t+1)):=by
 have hp:=List.length_pos_iff.2 hL
 unfold lay
 obtain ⟨n,hn⟩:∃n,L.length=n+1:=⟨L.length - 1,by omega⟩
 have l1:((sortP (t%(L.headD []).length) L).take (L.length/2)).length≤L.length/2:=by rw [List.length_take];omega
 have l2:((sortP (t%(L.headD []).length) L).drop (L.length/2+1)).length≤L.length - (L.length/2+1):=by rw [List.length_drop,sortP_length];omega
 conv=>lhs;rw [hn,layP,if_neg hL]
 rw [layP_fuel n _ _ (t+1) (by omega) (Nat.le_refl _),layP_fuel n _ _ (t+1) (by omega) (Nat.le_refl _)]
def T.dims (d:Nat):T→Prop
 | .nil=>True
 | .fork p _ l r=>p.length=d∧l.dims d∧r.dims d
theorem layP_dims {d:Nat}:∀(n:Nat) (L:List (List Int)) (t:Nat),(∀p∈L,p.length=d)→(layP n L t).dims d
 | 0,_,_,_=>trivial
 | n+1,L,t,h=>by
  rw [layP]
  by_cases hL:L=[]
  ·rw [if_pos hL]
   trivial
  ·rw [if_neg hL]
   have hm:∀p∈sortP (t%(L.headD []).length) L,p.length=d:=fun p hp=>h p ((sortP_perm _ L).mem_iff.1 hp)
   have hp:=List.length_pos_iff.2 hL
   refine ⟨hm _ ?_,layP_dims n _ _ (fun p hp=>hm p (List.mem_of_mem_take hp)),layP_dims n _ _ (fun p hp=>hm p (List.mem_of_mem_drop hp))⟩
   rw [List.getD_eq_getElem?_getD,List.getElem?_eq_getElem (by rw [sortP_length];omega)]
   exact List.getElem_mem _
theorem lay_dims {d:Nat} {L:List (List Int)} {t:Nat} (h:∀p∈L,p.length=d):(lay L t).dims d:=layP_dims _ L t h
def RwIn (F:Nat→Prop) (r:Rw):Prop:=∀x,r.p=some x→r.R≠[]→F x.block
inductive TAt (F:Nat→Prop) (w:World):Option Addr→T→Prop
 | nil:TAt F w none .nil
 | fork {g:Nat} {r:Rw} {v:Bool} {p q:Option Addr} {l u:T} (row:w.heap[g]? =some (.cells #[r.val,.bool v,.pointer p,.pointer q] 105 (0,0))) (ok:r.Ok w) (hg:F g) (hF:RwIn F r) (hl:TAt F w p l) (hr:TAt F w q u):TAt F w (some ⟨g,0,none⟩) (.fork r.R v l u)
section
variable {F F':Nat→Prop} {w w':World} {p:Option Addr} {u:T}
theorem rw_lt {r:Rw} (h:r.Ok w):∀x,r.p=some x→r.R≠[]→x.block<w.heap.size:=fun x hx hR=>by
 rcases h.ints.at' with h0 | ⟨g,o,hp,hc⟩
 ·exact absurd h0 hR
 ·rw [hx] at hp
  obtain rfl:x=⟨g,o,none⟩:=by simpa using hp
  exact block_lt_of_cell (hc 0 (List.length_pos_iff.2 hR))
theorem rw_keepT {r:Rw} (h:r.Ok w) (hF:RwIn F r) (hk:∀k,F k→k<w.heap.size→w'.heap[k]? =w.heap[k]?):r.Ok w':=
 ⟨⟨h.ints.size,h.ints.le,h.ints.ok,by
  have hlt:=rw_lt h
  refine h.ints.at'.imp id fun ⟨g,o,hp,hx⟩=>⟨g,o,hp,fun i hi=>?_⟩
  have hR:r.R≠[]:=by rintro e;rw [e] at hi;simp at hi
  rw [World.cell?_of_block (w:=w) (w':=w') (a:=⟨g,o+i,none⟩) (hk g (hF ⟨g,o,none⟩ hp hR) (hlt ⟨g,o,none⟩ hp hR))]
  exact hx i hi⟩,h.top⟩
theorem TAt.keep (h:TAt F w p u) (hk:∀k,F k→k<w.heap.size→w'.heap[k]? =w.heap[k]?):TAt F w' p u:=by
 induction h with
 | nil=>exact .nil
 | fork row ok hg hF _ _ h1 h2=>exact .fork ((hk _ hg (Array.getElem?_eq_some_iff.1 row).1).trans row) (rw_keepT ok hF hk) hg hF h1 h2
theorem TAt.later (h:TAt F w p u) (hb:Below w.heap.size w w'):TAt F w' p u:=h.keep fun k _ hk=>hb.block k hk
theorem TAt.wide (h:TAt F w p u) (hF:∀k,F k→F' k):TAt F' w p u:=by
 induction h with
 | nil=>exact .nil
 | fork row ok hg hR _ _ h1 h2=>exact .fork row ok (hF _ hg) (fun x hx hr=>hF _ (hR x hx hr)) h1 h2
theorem TAt.lt (h:TAt F w p u):TAt (fun k=>F k∧k<w.heap.size) w p u:=by
 induction h with
 | nil=>exact .nil
 | fork row ok hg hR _ _ h1 h2=>exact .fork row ok ⟨hg,(Array.getElem?_eq_some_iff.1 row).1⟩ (fun x hx hr=>⟨hR x hx hr,rw_lt ok x hx hr⟩) h1 h2
end
def hds (L:List Rw):List Value:=L.map Rw.val
theorem hds_length (L:List Rw):(hds L).length=L.length:=by simp [hds]
theorem hds_append (A B:List Rw):hds (A++B)=hds A++hds B:=by simp [hds]
theorem hds_one (L:List Rw):∀u∈hds L,u.oneCell'=true:=by
 intro u hu
 simp only [hds,List.mem_map] at hu
 obtain ⟨x,_,rfl⟩:=hu
 rfl
structure Own (B:Nat) (w:World) (v:Value) (n:Nat) (L:List Rw):Prop where
 own:w.ownsRow B 24 1 v n (hds L)
 ok:∀r∈L,r.Ok w
section
variable {B:Nat} {w w':World} {v:Value} {n:Nat} {L:List Rw}
theorem Own.len (h:Own B w v n L):n=L.length:=by
 have:=h.own.1
 rw [hds_length,Nat.mul_one] at this
 exact this.symm
theorem Own.later (h:Own B w v n L) (hb:Below w.heap.size w w'):Own B w' v n L:=by
 obtain ⟨h1,h2⟩:=h.own
 refine ⟨⟨h1,h2.imp id ?_⟩,fun r hr=>(h.ok r hr).later hb⟩
 rintro ⟨g,cap,cur,hv,hg,hh,r⟩
 exact ⟨g,cap,cur,hv,hg,(hb.block _ (Array.getElem?_eq_some_iff.1 hh).1).trans hh,r⟩
theorem Own.base {B':Nat} (h:Own B w v n L) (hB:B'≤B):Own B' w v n L:=
 ⟨⟨h.own.1,h.own.2.imp id fun ⟨g,cap,cur,hv,hl,r⟩=>⟨g,cap,cur,hv,Nat.le_trans hB hl,r⟩⟩,h.ok⟩
theorem Own.form (h:Own B w v n L):∃q c,v= .slice q n c:=by
 rcases h.own.2 with ⟨rfl,h0⟩ | ⟨g,cap,cur,rfl,_⟩
 ·exact ⟨none,0,by rw [h0]⟩
 ·exact ⟨_,cap,rfl⟩
theorem Own.rows (h:Own B w v n L):∃q c,v= .slice q n c∧RowsIn w q n c L:=by
 have hl:=h.len
 rcases h.own.2 with ⟨rfl,h0⟩ | ⟨g,cap,cur,rfl,hb,hg,hle,hm,hs,ht⟩
 ·subst h0
  exact ⟨none,0,rfl,hl,Nat.le_refl _,h.ok,Or.inl (List.length_eq_zero_iff.1 hl.symm)⟩
 ·refine ⟨_,cap,rfl,hl,hle,h.ok,Or.inr ⟨g,0,rfl,fun i hi=>?_⟩⟩
  rw [Nat.zero_add,cell_of_row w g i cur _ _ hg]
  have e:(cur.toList.take (n*1))[i]? =(hds L)[i]? :=by rw [ht]
  rw [List.getElem?_take_of_lt (by omega)] at e
  simp [hds,List.getElem?_eq_getElem hi] at e
  rw [e]
  simp [List.getD_eq_getElem?_getD,List.getElem?_eq_getElem hi]
end
theorem getD_R {L:List Rw} {i:Nat} (h:i<L.length):(L.map Rw.R).getD i []=(L.getD i default).R:=by
 rw [List.getD_eq_getElem?_getD,List.getD_eq_getElem?_getD,List.getElem?_map,List.getElem?_eq_getElem h]
 rfl
theorem getD_in {L:List Rw} {i:Nat} (h:i<L.length):L.getD i default∈L:=by
 rw [List.getD_eq_getElem?_getD,List.getElem?_eq_getElem h]
 exact List.getElem_mem h
theorem lexLt_same:∀R:List Int,lexLt R R=false
 |[]=>rfl
 | x::R=>by
  unfold lexLt
  rw [if_pos rfl]
  exact lexLt_same R
theorem ret_b {x:Bool} {y:Bool} (h:x=y):Ending.returned (.bool x)= .returned (.bool y):=by rw [h]
theorem IRs:(Tryz.prog.info? 24).map (fun i=>(i.zero,i.size,i.bytes))=some (some (.slice none 0 0),1,24):=by kernel_rfl
theorem URSs:Tryz.prog.underlying 51=some (.slice 24):=by kernel_rfl
theorem hd_new (w:World) (p:Option Addr) (n c:Nat) (R:List Int):∀j u,(hds [⟨p,n,c,R⟩])[j]? =some u→(w.alloc (.cells #[.slice p n c] 24)).cell? ((⟨w.heap.size,0,none⟩:Addr).add j)=some u:=fun j u hu=>by
 have hj:j=0:=by have:=(List.getElem?_eq_some_iff.1 hu).1;simp [hds] at this;omega
 subst hj
 simp [hds,Rw.val] at hu
 rw [Addr.add_mid,← hu]
 exact cell_of_row _ _ 0 _ _ (0,0) (heap_alloc_new w _)
theorem hd_tail {w:World} {g o n c:Nat} {L:List Rw} (h:RowsIn w (some ⟨g,o,none⟩) n c L) (j:Nat):∀i u,(hds (L.drop j))[i]? =some u→w.cell? ((⟨g,o+j,none⟩:Addr).add i)=some u:=fun i u hu=>by
 have hi:i<(L.drop j).length:=by have:=(List.getElem?_eq_some_iff.1 hu).1;rw [hds_length] at this;exact this
 rw [List.length_drop] at hi
 rcases h.at' with h0 | ⟨g',o',hp,hx⟩
 ·rw [h0] at hi
  simp at hi
 ·simp only [Option.some.injEq,Addr.mk.injEq,and_true] at hp
  obtain ⟨rfl,rfl⟩:=hp
  have:=hx (j+i) (by omega)
  rw [Addr.add_mid,Nat.add_assoc,this]
  have h2:j+i<L.length:=by omega
  simp [hds,List.getElem?_drop,h2,-List.getD_eq_getElem?_getD] at hu
  rw [← hu,List.getD_eq_getElem?_getD,List.getElem?_eq_getElem h2]
  rfl
theorem own_one (w:World) (p:Option Addr) (n c:Nat) (R:List Int):(w.alloc (.cells #[.slice p n c] 24)).ownsRow w.heap.size 24 1 (.slice (some ⟨w.heap.size,0,none⟩) 1 1) 1 (hds [⟨p,n,c,R⟩]):=by
 refine ⟨rfl,Or.inr ⟨w.heap.size,1,#[.slice p n c],rfl,Nat.le_refl _,heap_alloc_new w _,Nat.le_refl _,by unfold maxLen;omega,rfl,rfl⟩⟩
end Go.Proofs.YtinihaflmdihaaaGreat.Kt
namespace Go.Proofs.YtinihaflmdihaaaGreat
open Go.RowKit
open List renaming setIfInBounds_toArray → sA, set_cons_zero → sZ, set_cons_succ → sS
theorem I2n:(Tryz.prog.info? 2).map (fun i=>(i.zero,i.size,i.bytes))=some (some (.int .i64 0),1,8):=by kernel_rfl
theorem URn:Tryz.prog.underlying 24=some (.slice 2):=by kernel_rfl
def ivs (R:List Int):List Value:=R.map fun x=>.int .i64 x
theorem ivs_length (R:List Int):(ivs R).length=R.length:=List.length_map ..
theorem ivs_get (R:List Int) (i:Nat) (h:i<R.length):(ivs R)[i]? =some (.int .i64 (R.getD i 0)):=by
 simp [ivs,List.getD_eq_getElem?_getD,h]
theorem ivs_set (R:List Int) (k:Nat) (x:Int):ivs (R.set k x)=(ivs R).set k (.int .i64 x):=by simp [ivs,List.map_set]
theorem ivs_one (R:List Int):∀u∈ivs R,u.oneCell'=true:=by
 intro u hu
 simp only [ivs,List.mem_map] at hu
 obtain ⟨x,_,rfl⟩:=hu
 rfl
def OwnRow (w:World) (base g n c:Nat) (N:List Int):Prop:=w.ownsRow base 2 1 (.slice (some ⟨g,0,none⟩) n c) n (ivs N)
theorem own_form {w:World} {base n:Nat} {v:Value} {N:List Int} (h:w.ownsRow base 2 1 v n (ivs N)) (hn:1≤n):∃g c,v= .slice (some ⟨g,0,none⟩) n c∧OwnRow w base g n c N∧base≤g:=by
 rcases h.2 with ⟨_,h0⟩ | ⟨g,cap,cur,hv,hb,r⟩
 ·omega
 ·exact ⟨g,cap,hv,by unfold OwnRow;rw [← hv];exact h,hb⟩
theorem OwnRow.ints {w:World} {base g n c:Nat} {N:List Int} (h:OwnRow w base g n c N) (hN:∀x∈N,-9223372036854775808≤x∧x≤9223372036854775807):Ints w (some ⟨g,0,none⟩) n c N:=by
 have hl:n=N.length:=by have:=h.1;rw [ivs_length,Nat.mul_one] at this;exact this.symm
 rcases h.2 with ⟨h1,_⟩ | ⟨g',cap,cur,hv,hb,hg,hle,hm,hs,ht⟩
 ·simp at h1
 ·obtain ⟨rfl,rfl⟩:g=g'∧c=cap:=by simpa using hv
  refine ⟨hl,hle,hN,Or.inr ⟨g,0,rfl,fun i hi=>?_⟩⟩
  have:=World.ownsRow.cellAt h i (by omega)
  rw [Nat.zero_add,this,ivs_get N i hi]
theorem OwnRow.length {w:World} {base g n c:Nat} {N:List Int} (h:OwnRow w base g n c N):n=N.length:=by have:=h.1;rw [ivs_length,Nat.mul_one] at this;exact this.symm
theorem OwnRow.later {w w':World} {base g n c:Nat} {N:List Int} (h:OwnRow w base g n c N) (hb:Below w.heap.size w w'):OwnRow w' base g n c N:=by
 obtain ⟨h1,h2⟩:=h
 refine ⟨h1,h2.imp id ?_⟩
 rintro ⟨g,cap,cur,hv,hg,hh,r⟩
 exact ⟨g,cap,cur,hv,hg,(hb.block _ (Array.getElem?_eq_some_iff.1 hh).1).trans hh,r⟩
theorem OwnRow.set {w:World} {base g n c:Nat} {N:List Int} (h:OwnRow w base g n c N) (k:Nat) (x:Int):OwnRow (w.setCell ⟨g,k,none⟩ (.int .i64 x)) base g n c (N.set k x):=by
 unfold OwnRow
 rw [ivs_set]
 exact (World.ownsRow.stored h k _).1
theorem own_empty (w:World):(w.alloc (.cells #[] 2)).ownsRow w.heap.size 2 1 (.slice (some ⟨w.heap.size,0,none⟩) 0 0) 0 []:=
 ⟨rfl,Or.inr ⟨w.heap.size,0,#[],rfl,Nat.le_refl _,heap_alloc_new w _,Nat.le_refl _,by unfold maxLen;omega,rfl,rfl⟩⟩
theorem Ints.news {w:World} {g o n c:Nat} {R:List Int} (h:Ints w (some ⟨g,o,none⟩) n c R):∀j u,(ivs R)[j]? =some u→w.cell? ((⟨g,o,none⟩:Addr).add j)=some u:=fun j u hu=>by
 have hj:j<R.length:=by have:=(List.getElem?_eq_some_iff.1 hu).1;simpa [ivs] using this
 rw [ivs_get _ _ hj] at hu
 rcases h.at' with h0 | ⟨g',o',hp,hx⟩
 ·rw [h0] at hj;simp at hj
 ·simp only [Option.some.injEq,Addr.mk.injEq,and_true] at hp
  obtain ⟨rfl,rfl⟩:=hp
  rw [Addr.add_mid,hx j hj,hu]
theorem rowclone_any (p:Option Addr) (n c:Nat) (R:List Int) (w:World) (h:Ints w p n c R) (h1:1≤n) (h8:n≤8):
  Calls Tryz.prog 271 #[.slice p n c] w fun e w'=>∃g cap,e= .returned (.slice (some ⟨g,0,none⟩) n cap)∧OwnRow w' w.heap.size g n cap R∧w.heap.size≤g∧Below w.heap.size w w':=by
 obtain ⟨gR,oR,rfl,-⟩:=h.cell 0 (by omega)
 obtain ⟨i2,hi0,hi1,hi2,hi3⟩:=info_parts I2n
 have HI:=Lib.hid hi0
 have HI0:=Lib.hid hi1
 have HI1:=Lib.hid hi2
 have HI2:=Lib.hid hi3
 clear hi0 hi1 hi2 hi3
 have hal:Below w.heap.size w (w.alloc (.cells #[] 2)):=(Below.refl _ _).alloc (Nat.le_refl _) _
 have HOE:=Lib.hid (own_empty w)
 have HAL:=Lib.hid hal
 have HNW:=Lib.hid ((h.later hal).news)
 have HRL:=Lib.hid (show (ivs R).length=n*1 by rw [ivs_length,← h.size,Nat.mul_one])
 have qn:∀w',(binOp .eql 24 (.slice (some ⟨gR,oR,none⟩) n c) (.slice none 0 0)).run Tryz.prog w'= .ok (.bool false) w':=fun w'=>Go.Lib.run_eql_slice_nil w' _ _ _ _ _ _ _ URn
 clear hal h
 go_enter Tryz.func271,Tryz.ntmps271
 go_wp2_with ((at_builtin;(refine wpList_append_own_at _ (by rfl) (.tmp 5) (.tmp 6) 24 (by rfl) w.heap.size 2 i2 (.int .i64 0) 1 8 URn HI.out HI0.out HI1.out HI2.out (by rfl) (by decide) _ 0 [] (by rfl) HOE.out ⟨gR,oR,none⟩ n c (ivs R) (by rfl) HRL.out HNW.out (ivs_one R) (by unfold maxLen;omega) (by omega) (by simp) ?_);intro v7 w7 hown7 hgrow7 _ _;have O7:=Lib.hid hown7;have G7:=Lib.hid hgrow7;clear hown7 hgrow7))
 obtain ⟨gn,cn,rfl,hn7,hn8⟩:=own_form (w:=w7) (base:=w.heap.size) (n:=n) (N:=R) (by have h:=O7.out;rw [Nat.zero_add,List.nil_append] at h;exact h) h1
 have hb7:Below w.heap.size w w7:=HAL.out.grown G7.out (by simp) (fun k hk=>by simp [Value.ownBlock] at hk;omega)
 go_ret
 exact ⟨gn,cn,rfl,hn7,hn8,hb7⟩
theorem A25:Tryz.prog.underlying 30=some (.array 32 5):=by kernel_rfl
theorem Z25:(Tryz.prog.info? 30).map (fun i=>(i.zero,i.size))=some (some (.agg (u8s (zeros 32))),32):=by kernel_rfl
theorem S25:(Tryz.prog.info? 30).map (·.size)=some 32:=by kernel_rfl
theorem digest_equal (a b:List Nat) (ha:a.length=32) (hb:b.length=32) (d:Nat) (w:World):(Op.equalIn (d+2) 30 (.agg (u8s a)) (.agg (u8s b))).run Tryz.prog w= .ok (decide (a=b)) w:=by
 obtain ⟨i,hi,hi1⟩:∃i,Tryz.prog.info? 5=some i∧i.size=1:=by
  obtain ⟨i5,hi,_,hi1,_⟩:=info_parts I5
  exact ⟨i5,hi,hi1⟩
 rw [run_equalIn_array w (d+1) (u8s a) (u8s b) A25 hi,C5,eqItems_u8 a b d w _ (fun i hi=>by have:=List.mem_range.1 hi;omega),all_getD a b ha hb]
end Go.Proofs.YtinihaflmdihaaaGreat
namespace Go.Proofs.YtinihaflmdihaaaGreat.Pg
open Go.RowKit
open List renaming setIfInBounds_toArray → sA, set_cons_zero → sZ, set_cons_succ → sS
theorem op_load_dig {ρ:Operand→Value} {o:Oper} {x:Operand} {w:World} {g off:Nat} {D:List Nat} (ho:o.op= .load 30 x) (hx:ρ x= .pointer (some ⟨g,off,none⟩)) (hD:D.length=32) (h:w.rangeAt g off (vals D)):(execOp ρ o).run Tryz.prog w= .ok (.value (.agg (u8s D))) w:=by
 unfold execOp
 simp only [ho,hx,Instr.loadAt,Instr.sureAddr,Sem.run_bind,Sem.run_pure,Result.andThen_ok,run_loadVar_mid w g off 30 (vals D) _ h A25 rfl (by rw [vals_length,hD];exact S25),vals_toArray]
theorem range_of_row' {w:World} {g:Nat} {D:List Nat} {t:TypeId} (h:w.heap[g]? =some (.cells (u8s D) t (0,0))):w.rangeAt g 0 (vals D):=fun j v hv=>by
 have hj:j<D.length:=by have:=(List.getElem?_eq_some_iff.1 hv).1;rwa [vals_length] at this
 rw [Nat.zero_add,u8s_cell h j hj,← hv,vals_get D j hj]
end Go.Proofs.YtinihaflmdihaaaGreat.Pg
namespace Go.Proofs.YtinihaflmdihaaaGreat.Cm
open List renaming setIfInBounds_toArray → sA, set_cons_zero → sZ, set_cons_succ → sS
def be (n s:Nat):List Nat:=(List.range s).map fun i=>n/2^(8*(s - 1 - i))%256
theorem be_length (n s:Nat):(be n s).length=s:=by simp [be]
theorem be_take (n s i:Nat) (h:i<s):(be n s).take (i+1)=(be n s).take i++[n/2^(8*(s - 1 - i))%256]:=by
 rw [List.take_succ_eq_append_getElem (by rw [be_length];exact h)]
 simp [be]
theorem be_ok (n s:Nat):Sm.allB (be n s):=by
 intro x hx
 simp only [be,List.mem_map] at hx
 obtain ⟨i,_,rfl⟩:=hx
 exact Nat.mod_lt _ (by omega)
theorem be_succ (n s:Nat):be n (s+1)=(n/2^(8*s)%256)::be n s:=by
 unfold be
 rw [List.range_succ_eq_map,List.map_cons,List.map_map]
 congr 1
 apply List.map_congr_left
 intro i _
 simp only [Function.comp_apply]
 rw [show s+1 - 1 - (i+1)=s - 1 - i from by omega]
def z64 (n:Int):Nat:=(n+9223372036854775808).toNat
theorem z64_lt {n:Int} (h1: -9223372036854775808≤n) (h2:n≤9223372036854775807):z64 n<18446744073709551616∧((z64 n:Nat):Int)=n+9223372036854775808:=by
 unfold z64;omega
theorem xor63_lo {x:Nat} (h:x<2^63):x^^^2^63=2^63+x:=by
 apply Nat.eq_of_testBit_eq
 intro i
 rw [Nat.testBit_xor,Nat.testBit_two_pow]
 rcases Nat.lt_trichotomy i 63 with hi | rfl | hi
 ·rw [Nat.testBit_two_pow_add_gt hi,decide_eq_false (by omega),Bool.xor_false]
 ·rw [Nat.testBit_two_pow_add_eq,decide_eq_true rfl,Bool.xor_true]
 ·have e1:x.testBit i=false:=Nat.testBit_lt_two_pow (Nat.lt_trans h (Nat.pow_lt_pow_right (by omega) hi))
  have e2:(2^63+x).testBit i=false:=Nat.testBit_lt_two_pow (by
   have:2^64≤2^i:=Nat.pow_le_pow_right (by omega) hi
   omega)
  rw [e1,e2,decide_eq_false (by omega),Bool.xor_false]
theorem xor63_hi {x:Nat} (h:x<2^63):(2^63+x)^^^2^63=x:=by
 rw [← xor63_lo h,Nat.xor_assoc,Nat.xor_self,Nat.xor_zero]
theorem wrap_u64 (n:Int):IntKind.u64.wrap n=n%18446744073709551616:=IntKind.wrap_u64 n
theorem sign_int {n:Int} (h1: -9223372036854775808≤n) (h2:n≤9223372036854775807):bits .xor .u64 (IntKind.u64.wrap n) 9223372036854775808=((z64 n:Nat):Int):=by
 rw [wrap_u64]
 by_cases h:0≤n
 ·obtain ⟨x,rfl⟩:∃x:Nat,n=x:=⟨n.toNat,by omega⟩
  have e:(x:Int)%18446744073709551616=(x:Nat):=by omega
  rw [e]
  have:=u64_xor_nat x 9223372036854775808 (by omega) (by omega)
  refine Eq.trans this ?_
  have e2:x^^^9223372036854775808=9223372036854775808+x:=xor63_lo (by omega)
  rw [e2]
  unfold z64
  omega
 ·obtain ⟨x,hx⟩:∃x:Nat,n=(x:Int) - 9223372036854775808:=⟨(n+9223372036854775808).toNat,by omega⟩
  subst hx
  have e:((x:Int) - 9223372036854775808)%18446744073709551616=((9223372036854775808+x:Nat):Int):=by omega
  rw [e]
  have:=u64_xor_nat (9223372036854775808+x) 9223372036854775808 (by omega) (by omega)
  refine Eq.trans this ?_
  have e2:(9223372036854775808+x)^^^9223372036854775808=x:=xor63_hi (by omega)
  rw [e2]
  unfold z64
  omega
def num (n:Int):List Nat:=be (z64 n) 8
theorem num_length (n:Int):(num n).length=8:=be_length _ _
theorem num_ok (n:Int):Sm.allB (num n):=be_ok _ _
def val (B:List Nat):Nat:=B.foldl (fun n b=>n*256+b) 0
theorem foldl_val (B:List Nat) (m:Nat):B.foldl (fun n b=>n*256+b) m=m*256^B.length+val B:=by
 induction B generalizing m with
 | nil=>simp [val]
 | cons b B ih=>
  unfold val
  rw [List.foldl_cons,List.foldl_cons,ih,ih (0*256+b),List.length_cons,Nat.pow_succ,Nat.zero_mul,Nat.zero_add,Nat.add_mul,Nat.mul_assoc,Nat.mul_comm 256]
  omega
theorem val_cons (b:Nat) (B:List Nat):val (b::B)=b*256^B.length+val B:=by
 have:=foldl_val B (0*256+b)
 unfold val at this ⊢
 rw [List.foldl_cons,this]
 simp
theorem val_snoc (B:List Nat) (b:Nat):val (B++[b])=val B*256+b:=by
 unfold val;rw [List.foldl_append];rfl
theorem pow8 (s:Nat):(2:Nat)^(8*s)=256^s:=by rw [Nat.pow_mul]
theorem val_lt {B:List Nat} (h:Sm.allB B):val B<256^B.length:=by
 induction B with
 | nil=>simp [val]
 | cons b B ih=>
  have h1:=h b (by simp)
  have h2:=ih (fun x hx=>h x (by simp [hx]))
  rw [val_cons,List.length_cons,Nat.pow_succ]
  have:b*256^B.length+256^B.length≤256^B.length*256:=by
   rw [Nat.mul_comm (256^B.length) 256,← Nat.succ_mul]
   exact Nat.mul_le_mul_right _ h1
  omega
theorem val_be (n s:Nat):val (be n s)=n%256^s:=by
 induction s with
 | zero=>simp [be,val,Nat.mod_one]
 | succ s ih=>
  rw [be_succ,val_cons,be_length,ih,pow8,Nat.pow_succ,Nat.mod_mul]
  rw [Nat.mul_comm]
  omega
theorem be_val {B:List Nat} (h:Sm.allB B):be (val B) B.length=B:=by
 induction B with
 | nil=>simp [be]
 | cons b B ih=>
  have h1:=h b (by simp)
  have hB:Sm.allB B:=fun x hx=>h x (by simp [hx])
  have h2:=val_lt hB
  rw [List.length_cons,be_succ,val_cons,pow8]
  have hp:0<256^B.length:=Nat.pow_pos (by omega)
  have e1:(b*256^B.length+val B)/256^B.length=b:=by
   rw [Nat.mul_comm,Nat.mul_add_div hp,Nat.div_eq_of_lt h2];omega
  rw [e1,Nat.mod_eq_of_lt h1]
  congr 1
  have key:∀s m k:Nat,s≤k→be (m*256^k+val B) s=be (val B) s:=by
   intro s
   induction s with
   | zero=>intro m k _;simp [be]
   | succ s ihs=>
    intro m k hk
    rw [be_succ,be_succ,ihs m k (by omega),pow8]
    congr 1
    obtain ⟨j,rfl⟩:∃j,k=s+1+j:=⟨k - (s+1),by omega⟩
    have:m*256^(s+1+j)=256^s*(256*(m*256^j)):=by
     rw [Nat.pow_add,Nat.pow_succ]
     simp only [Nat.mul_assoc,Nat.mul_comm,Nat.mul_left_comm]
    rw [this,Nat.mul_add_div (Nat.pow_pos (by omega))]
    omega
  rw [key B.length b B.length (Nat.le_refl _)]
  exact ih hB
def cmpL:List Nat→List Nat→Int
 |[],[]=>0
 |[],_::_=> -1
 | _::_,[]=>1
 | x::a,y::b=>if x<y then -1 else if y<x then 1 else cmpL a b
end Go.Proofs.YtinihaflmdihaaaGreat.Cm
namespace Go.Proofs.YtinihaflmdihaaaGreat.Mm
open List renaming setIfInBounds_toArray → sA, set_cons_zero → sZ, set_cons_succ → sS
def bin (g:Nat→Nat):Nat→Nat
 | 0=>0
 | n+1=>2*bin g n+g n
def bytesOf (f:Nat→Nat) (n:Nat):List Nat:=(List.range n).map fun j=>bin (fun k=>f (8*j+k)) 8
def bitOf (B:List Nat) (i:Nat):Nat:=B.getD (i/8) 0/2^(7 - i%8)%2
def cbit (R:List Int) (i:Nat):Nat:=Cm.z64 (R.getD (i%R.length) 0)/2^(63 - i/R.length)%2
def code (R:List Int):List Nat:=bytesOf (cbit R) (8*R.length)
def numAt (f:Nat→Nat) (d k:Nat):Int:=(bin (fun l=>f (l*d+k)) 64:Nat) - 9223372036854775808
def point (B:List Nat) (d:Nat):List Int:=(List.range d).map (numAt (bitOf B) d)
def inI (R:List Int):Prop:=∀x∈R,-9223372036854775808≤x∧x≤9223372036854775807
end Go.Proofs.YtinihaflmdihaaaGreat.Mm
namespace Go.Proofs.YtinihaflmdihaaaGreat.Mo
open Go.RowKit
open List renaming setIfInBounds_toArray → sA, set_cons_zero → sZ, set_cons_succ → sS
def i64s (L:List Int):Array Value:=(L.map (Value.int .i64)).toArray
theorem i64s_get (L:List Int) (i:Nat) (h:i<L.length):(i64s L)[i]? =some (.int .i64 (L.getD i 0)):=by
 simp [i64s,List.getD_eq_getElem?_getD,List.getElem?_eq_getElem h]
theorem made_i64 (n:Nat):madeCells (Value.cells (.int .i64 0)) n=i64s (List.replicate n 0):=by
 apply Array.ext
 ·simp [size_madeCells,i64s]
 ·intro i h1 h2
  simp [madeCells,i64s,Value.cells,Nat.mod_one]
theorem I2:(Tryz.prog.info? 2).map (fun i=>(i.zero,i.size,i.bytes))=some (some (.int .i64 0),1,8):=by kernel_rfl
theorem URw:Tryz.prog.underlying 24=some (.slice 2):=by kernel_rfl
theorem make_row (m:Nat) (hm:m≤1000) (w:World):(Instr.makeSlice 24 (.int .i64 m) (.int .i64 m)).run Tryz.prog w= .ok (.slice (some ⟨w.heap.size,0,none⟩) m m) (w.alloc (.cells (i64s (List.replicate m 0)) 2)):=by
 obtain ⟨i5,hi,hi0,hi1,hi2⟩:=info_parts I2
 have:=run_make (P:=Tryz.prog) w 24 2 i5 _ URw hi hi0 .i64 .i64 m m (by omega) (by omega) (by rw [hi2];omega) (by omega)
 rw [this,hi1]
 simp only [Int.toNat_natCast,Nat.mul_one,made_i64]
def ivals (L:List Int):List Value:=L.map (Value.int .i64)
theorem ints_of_owns {w:World} {base n:Nat} {v:Value} {L:List Int} (h:w.ownsRow base 2 1 v n (ivals L)) (hL:Mm.inI L):∃q c,v= .slice q n c∧Ints w q n c L:=by
 have hl:n=L.length:=by have:=h.1;rw [ivals,List.length_map,Nat.mul_one] at this;exact this.symm
 rcases h.2 with ⟨rfl,h0⟩ | ⟨g,cap,cur,rfl,hb,hg,hle,hm,hs,ht⟩
 ·subst h0
  have hb:L=[]:=List.length_eq_zero_iff.1 hl.symm
  exact ⟨none,0,rfl,hl,Nat.le_refl _,hL,Or.inl hb⟩
 ·refine ⟨_,cap,rfl,hl,hle,hL,Or.inr ⟨g,0,rfl,fun i hi=>?_⟩⟩
  rw [Nat.zero_add,cell_of_row w g i cur _ _ hg]
  have e:(cur.toList.take (n*1))[i]? =(ivals L)[i]? :=by rw [ht]
  rw [List.getElem?_take_of_lt (by omega)] at e
  simp [ivals,List.getElem?_eq_getElem hi] at e
  rw [e]
  simp [List.getD_eq_getElem?_getD,List.getElem?_eq_getElem hi]
end Go.Proofs.YtinihaflmdihaaaGreat.Mo
namespace Go.Proofs.YtinihaflmdihaaaGreat
open Go.RowKit
open List renaming setIfInBounds_toArray → sA, set_cons_zero → sZ, set_cons_succ → sS
theorem A22:Tryz.prog.underlying 45=some (.slice 5):=by kernel_rfl
theorem convert_bytes {w:World} {p:Option Addr} {n c:Nat} {B:List Nat} (h:Bytes w p n c B) (hB:B≠[]):(convert 45 9 (.slice p n c)).run Tryz.prog w= .ok (.string (strOfNums (B.map Int.ofNat))) w:=by
 obtain ⟨g,o,rfl,hx⟩:=h.ne hB
 exact run_convert_bytes_arg (P:=Tryz.prog) w 45 5 A22 U5 g o n c (B.map Int.ofNat) (by rw [List.length_map];exact h.size.symm) (fun i hi=>by
  have hi2:i<B.length:=by have:=h.size;omega
  rw [hx i hi2]
  simp [List.getD_eq_getElem?_getD,hi2]) 9 A9
theorem convert_tx {w:World} {p:Option Addr} {n c:Nat} {B:List Nat} (h:Tx w p n c B):(convert 45 9 (.slice p n c)).run Tryz.prog w= .ok (.string (strOf B)) w:=by
 by_cases hB:B=[]
 ·subst hB
  obtain rfl:n=0:=h.size
  rw [run_convert_bytes_string w _ _ _ _ _ _ A22 U5 A9]
  cases p with
  | none=>rfl
  | some x=>exact rfl
 ·exact convert_bytes h.bytes hB
end Go.Proofs.YtinihaflmdihaaaGreat
