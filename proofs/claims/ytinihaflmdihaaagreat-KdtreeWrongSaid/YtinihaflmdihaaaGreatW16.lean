/- PgKey, PgPe, PgMap, PgLand, PgNew, PgLook. -/
import Derived.Maps.RangeWalk
import Derived.DeepKeys4
import Derived.Maps.OwnSet
import Derived.Test.YtinihaflmdihaaaGreatW1
import Derived.Test.YtinihaflmdihaaaGreatW2
import Derived.Test.YtinihaflmdihaaaGreatW9
import Derived.Test.YtinihaflmdihaaaGreatW10
set_option maxRecDepth 100000
set_option maxHeartbeats 8000000
set_option linter.unusedVariables false
set_option linter.unusedSimpArgs false
namespace Go.Proofs.YtinihaflmdihaaaGreat.Pg
open Go.RowKit
open List renaming setIfInBounds_toArray → sA, set_cons_zero → sZ, set_cons_succ → sS
theorem laidOut:laidOutB Tryz.prog=true:=by kernel_rfl
theorem keyD:Go.Maps.Keyed Tryz.prog 30:=
 Go.Maps.Keyed.of_law (deep_law_laid laidOut (m:=2) (by decide) (of_decide_eq_true (by kernel_rfl)) (by kernel_rfl) (by kernel_rfl))
def klit (d:List Nat):Lit:=.string (keyBytes (d.map fun x:Nat=>Lit.int .u8 (x:Int)))
theorem mapM_some {α β:Type} (f:α→Option β) (g:α→β):∀l:List α,(∀x∈l,f x=some (g x))→l.mapM f=some (l.map g)
 |[],_=>rfl
 | a::l,h=>by
  rw [List.mapM_cons,h a List.mem_cons_self,mapM_some f g l (fun x hx=>h x (List.mem_cons_of_mem _ hx))]
  rfl
theorem cells5:Tryz.prog.cellsOf 5=1:=by kernel_rfl
theorem cells32:Tryz.prog.cellsOf 30=32:=by kernel_rfl
theorem lits_u8 (m:Nat) {x:Nat} (hx:x<256):Tryz.prog.keyLits (m+1) 5 [.int .u8 (x:Int)]=some [.int .u8 (x:Int)]:=by
 have hw:(Lit.int .u8 (x:Int)).wf=true:=by simp [Lit.wf,IntKind.min,IntKind.max,IntKind.bits,IntKind.signed];omega
 unfold Program.keyLits
 rw [U5]
 simp [hw]
theorem lits_d (m:Nat) {d:List Nat} (hd:d.length=32) (ho:Sm.allB d):Tryz.prog.keyLits (m+2) 30 (vals d)=some (d.map fun x:Nat=>Lit.int .u8 (x:Int)):=by
 unfold Program.keyLits
 rw [A25]
 simp only [cells32,cells5,vals_length,hd,if_true,Nat.mul_one]
 rw [mapM_some _ (fun i=>[Lit.int .u8 ((d.getD i 0:Nat):Int)]) _ (fun i hi=>by
  have hi:i<32:=List.mem_range.1 hi
  have h1:((vals d).drop i).take 1=[.int .u8 ((d.getD i 0:Nat):Int)]:=by
   rw [List.drop_eq_getElem_cons (by rw [vals_length];omega),List.take_succ_cons,List.take_zero]
   simp [vals,List.getD_eq_getElem?_getD,hd,hi]
  rw [h1]
  refine lits_u8 m (ho _ ?_)
  rw [List.getD_eq_getElem?_getD,List.getElem?_eq_getElem (by omega),Option.getD_some]
  exact List.getElem_mem _)]
 simp only [Option.map_some,Option.some.injEq]
 rw [← hd]
 clear ho hd
 induction d with
 | nil=>rfl
 | cons x d ih=>rw [List.length_cons,List.range_succ_eq_map];simp [List.map_map] at ih ⊢;simpa [Function.comp_def] using ih
theorem klit_of {d:List Nat} (hd:d.length=32) (ho:Sm.allB d):keyOf Tryz.prog 30 (.agg (u8s d))=some (klit d):=by
 have h1:Tryz.prog.keyType 30=true:=by kernel_rfl
 have h2:(Value.agg (u8s d)).formed Tryz.prog 30=true:=by simp [Value.formed,cells32,u8s_size,hd]
 have h3:(Value.agg (u8s d)).cells.toList=vals d:=by simp [Value.cells,u8s_toList]
 obtain ⟨m,hm⟩:∃m,Tryz.prog.types.size+1=m+2:=⟨Tryz.prog.types.size - 1,by have:0<Tryz.prog.types.size:=of_decide_eq_true (by kernel_rfl);omega⟩
 unfold keyOf
 rw [A25,h3,hm,lits_d m hd ho]
 simp [h1,h2,klit]
theorem klit_inj {a b:List Nat} (ha:a.length=32) (hao:Sm.allB a) (hb:b.length=32) (hbo:Sm.allB b) (h:klit a=klit b):a=b:=by
 have h1:=keyD.inj (klit_of ha hao) (h▸klit_of hb hbo)
 have h2:vals a=vals b:=by
  have:=congrArg (fun v:Value=>v.cells.toList) h1
  simpa [Value.cells,u8s_toList] using this
 have h3:∀x y:Nat,Value.int .u8 (x:Int)=Value.int .u8 (y:Int)→x=y:=fun x y e=>by cases e;rfl
 exact (List.map_inj_right h3).1 h2
theorem klit_key (d:List Nat):WideAt.IsKeyLit (klit d):=trivial
structure Pe where
 d:List Nat
 q:Option Addr
 (m c:Nat)
 b:List Nat
instance:Inhabited Pe:=⟨⟨[],none,0,0,[]⟩⟩
def Pe.cells (e:Pe):List Value:=vals e.d++[.slice e.q e.m e.c]
def pagesOf (L:List Pe):Pages:=L.map fun e=>(e.d,e.b)
theorem pagesOf_length (L:List Pe):(pagesOf L).length=L.length:=by simp [pagesOf]
theorem pagesOf_at (L:List Pe) {i:Nat} (h:i<L.length):(pagesOf L).getD i default=((L.getD i default).d,(L.getD i default).b):=by
 simp [pagesOf,List.getD_eq_getElem?_getD,h]
theorem cells_length {e:Pe} (h:e.d.length=32):e.cells.length=33:=by simp [Pe.cells,vals_length,h]
def sliceR:Value→Option (DataW Value×List MemPlace)
 | .slice p n c=>some (.held (.slice p n c),[])
 | _=>none
theorem sliceR_inv {v:Value} {z:DataW Value×List MemPlace} (h:sliceR v=some z):∃p n c,v= .slice p n c∧z=(.held (.slice p n c),[]):=by
 unfold sliceR at h
 split at h
 ·cases h;exact ⟨_,_,_,rfl,rfl⟩
 ·cases h
def Pe.hd (e:Pe):Value:=.slice e.q e.m e.c
structure Reads (D:DataW Value) (L:List Pe):Prop where
 tidy:Go.Maps.Tidy D
 len:∀e∈L,e.d.length=32∧Sm.allB e.d
 one:(L.map (·.d)).Nodup
 at':∀e∈L,∀z,D.atKey (klit e.d) z= .held e.hd
 key:∀kl,Go.Maps.has D kl=true→∃e∈L,kl=klit e.d
 size:Go.Maps.size D=L.length
theorem Reads.nil:Reads (.map []) []:=⟨Go.Maps.tidy_empty,(fun e he=>by cases he),List.nodup_nil,(fun e he=>by cases he),(fun kl h=>by cases h),rfl⟩
theorem pagesOf_fst (L:List Pe):(pagesOf L).map (·.1)=L.map (·.d):=by simp [pagesOf,Function.comp_def]
theorem Reads.has_mem {D:DataW Value} {L:List Pe} (h:Reads D L) {d:List Nat} (hd:d.length=32) (ho:Sm.allB d):Go.Maps.has D (klit d)=true↔d∈L.map (·.d):=by
 constructor
 ·intro hh
  obtain ⟨e,he,hk⟩:=h.key _ hh
  rw [klit_inj hd ho (h.len e he).1 (h.len e he).2 hk]
  exact List.mem_map_of_mem he
 ·intro hm
  obtain ⟨e,he,rfl⟩:=List.mem_map.1 hm
  exact Go.Maps.has_true_of_atKey (h.at' e he)
theorem Reads.has {D:DataW Value} {L:List Pe} (h:Reads D L) {d:List Nat} (hd:d.length=32) (ho:Sm.allB d):Go.Maps.has D (klit d)=decide (idx d (pagesOf L)<(pagesOf L).length):=by
 rw [Bool.eq_iff_iff,h.has_mem hd ho,decide_eq_true_iff,idx_mem,pagesOf_fst]
theorem Reads.got {D:DataW Value} {L:List Pe} (h:Reads D L) {d:List Nat} (hi:idx d (pagesOf L)<(pagesOf L).length):∃e∈L,e.d=d∧(∀z,D.atKey (klit d) z= .held e.hd)∧textAt (pagesOf L) d=some e.b:=by
 have h1:idx d (pagesOf L)<L.length:=by rwa [pagesOf_length] at hi
 have h2:=idx_at hi
 rw [pagesOf_at L h1] at h2
 have hm:L.getD (idx d (pagesOf L)) default∈L:=by
  rw [List.getD_eq_getElem?_getD,List.getElem?_eq_getElem h1]
  exact List.getElem_mem _
 refine ⟨_,hm,h2,?_,?_⟩
 ·have:=h.at' _ hm
  simp only at h2
  rwa [h2] at this
 ·rw [textAt_some hi,pagesOf_at L h1]
theorem Reads.put {D:DataW Value} {L:List Pe} (h:Reads D L) {e:Pe} (hd:e.d.length=32) (ho:Sm.allB e.d) (hn:e.d∉L.map (·.d)):Reads (D.put (klit e.d) (.held e.hd)) (L++[e]):=by
 have hno:Go.Maps.has D (klit e.d)=false:=by
  rw [← Bool.not_eq_true,h.has_mem hd ho]
  exact hn
 have hne:∀x∈L,klit x.d≠klit e.d:=fun x hx he=>hn (by rw [← klit_inj (h.len x hx).1 (h.len x hx).2 hd ho he];exact List.mem_map_of_mem hx)
 refine ⟨h.tidy.put (klit_key _) _,?_,?_,?_,?_,?_⟩
 ·intro x hx
  rcases List.mem_append.1 hx with hx | hx
  ·exact h.len x hx
  ·rw [List.mem_singleton.1 hx];exact ⟨hd,ho⟩
 ·rw [List.map_append,List.nodup_append]
  refine ⟨h.one,by simp,fun a ha c hc hac=>hn ?_⟩
  simp only [List.map_cons,List.map_nil,List.mem_singleton] at hc
  rw [← hc,← hac]
  exact ha
 ·intro x hx z
  rcases List.mem_append.1 hx with hx | hx
  ·rw [Go.Maps.atKey_put_other (hne x hx),h.at' x hx]
  ·rw [List.mem_singleton.1 hx,Go.Maps.atKey_put_same h.tidy.isMap (klit_key _)]
 ·intro kl hk
  by_cases he:kl=klit e.d
  ·exact ⟨e,by simp,he⟩
  ·rw [Go.Maps.has_put_other he] at hk
   obtain ⟨x,hx,hxe⟩:=h.key kl hk
   exact ⟨x,List.mem_append_left _ hx,hxe⟩
 ·rw [Go.Maps.size_put h.tidy,hno,h.size,List.length_append]
  rfl
def but (L:List Pe) (d:List Nat):List Pe:=L.filter fun x=>decide (x.d≠d)
theorem Reads.next {D:DataW Value} {L:List Pe} (h:Reads D L) {v:Value} {kl:Lit} (hk:keyOf Tryz.prog 30 v=some kl) {y:DataW Value} (ha:∀z,D.atKey kl z=y):∃e∈L,v= .agg (u8s e.d)∧kl=klit e.d:=by
 obtain ⟨e,he,rfl⟩:=h.key kl (Go.Maps.has_true_of_atKey ha)
 exact ⟨e,he,keyD.inj hk (klit_of (h.len e he).1 (h.len e he).2),rfl⟩
theorem sameKey_klit {a b:List Nat} (ha:a.length=32) (hao:Sm.allB a) (hb:b.length=32) (hbo:Sm.allB b):(klit a).sameKey (klit b)=decide (a=b):=by
 by_cases h:a=b
 ·subst h
  rw [WideAt.sameKey_self (klit_key _)]
  simp
 ·rw [Go.Maps.sameKey_ne (fun e=>h (klit_inj ha hao hb hbo e))]
  simp [h]
structure TQ (Q:Nat→Prop) (w:World) (p:Option Addr) (m c:Nat) (b:List Nat):Prop where
 tx:Tx w p m c b
 own:∀x,p=some x→b≠[]→Q x.block
 le:b.length≤100000
theorem TQ.keep {Q:Nat→Prop} {w w':World} {p:Option Addr} {m c:Nat} {b:List Nat} (h:TQ Q w p m c b) (hk:∀k,Q k→w'.heap[k]? =w.heap[k]?):TQ Q w' p m c b:=
 ⟨Dk.tx_keep h.tx (fun x hx hb=>hk _ (h.own x hx hb)),h.own,h.le⟩
theorem TQ.wide {Q Q':Nat→Prop} {w:World} {p:Option Addr} {m c:Nat} {b:List Nat} (h:TQ Q w p m c b) (hq:∀k,Q k→Q' k):TQ Q' w p m c b:=⟨h.tx,fun x hx hb=>hq _ (h.own x hx hb),h.le⟩
structure MapAt (Q:Nat→Prop) (w:World) (b:Nat) (L:List Pe):Prop where
 mine:Q b
 map:∃D,w.ownsMap Tryz.prog 30 sliceR b L.length D∧Reads D L
 text:∀e∈L,TQ Q w e.q e.m e.c e.b
theorem map_keep {w w':World} {b n:Nat} {D:DataW Value} (h:w.ownsMap Tryz.prog 30 sliceR b n D) (hk:w'.heap[b]? =w.heap[b]?):w'.ownsMap Tryz.prog 30 sliceR b n D:=by
 obtain ⟨es,clock,hb,r⟩:=h
 exact ⟨es,clock,hk.trans hb,r⟩
theorem MapAt.keep {Q:Nat→Prop} {w w':World} {b:Nat} {L:List Pe} (h:MapAt Q w b L) (hk:∀k,Q k→w'.heap[k]? =w.heap[k]?):MapAt Q w' b L:=by
 obtain ⟨D,hm,hr⟩:=h.map
 exact ⟨h.mine,⟨D,map_keep hm (hk _ h.mine),hr⟩,fun e he=>(h.text e he).keep hk⟩
theorem MapAt.wide {Q Q':Nat→Prop} {w:World} {b:Nat} {L:List Pe} (h:MapAt Q w b L) (hq:∀k,Q k→Q' k):MapAt Q' w b L:=⟨hq _ h.mine,h.map,fun e he=>(h.text e he).wide hq⟩
structure PairAt (Q:Nat→Prop) (w:World) (c:Nat) (x y:List Nat):Prop where
 mine:Q c
 row:∃p m k q n l,w.heap[c]? =some (.cells #[.slice p m k,.slice q n l] 112 (0,0))∧TQ Q w p m k x∧TQ Q w q n l y
theorem PairAt.keep {Q:Nat→Prop} {w w':World} {c:Nat} {x y:List Nat} (h:PairAt Q w c x y) (hk:∀k,Q k→w'.heap[k]? =w.heap[k]?):PairAt Q w' c x y:=by
 obtain ⟨p,m,k,q,n,l,h1,h2,h3⟩:=h.row
 exact ⟨h.mine,p,m,k,q,n,l,(hk _ h.mine).trans h1,h2.keep hk,h3.keep hk⟩
theorem PairAt.wide {Q Q':Nat→Prop} {w:World} {c:Nat} {x y:List Nat} (h:PairAt Q w c x y) (hq:∀k,Q k→Q' k):PairAt Q' w c x y:=by
 obtain ⟨p,m,k,q,n,l,h1,h2,h3⟩:=h.row
 exact ⟨hq _ h.mine,p,m,k,q,n,l,h1,h2.wide hq,h3.wide hq⟩
def MapsAt (Q:Nat→Prop) (w:World) (mp:Option Nat) (W:Pages):Prop:=(mp=none∧W=[])∨∃b L,mp=some b∧pagesOf L=W∧MapAt Q w b L
def ClashAt (Q:Nat→Prop) (w:World) (cl:Option Addr) (x:Option (List Nat×List Nat)):Prop:=(cl=none∧x=none)∨∃c a b,cl=some ⟨c,0,none⟩∧x=some (a,b)∧PairAt Q w c a b
theorem MapsAt.keep {Q:Nat→Prop} {w w':World} {mp:Option Nat} {W:Pages} (h:MapsAt Q w mp W) (hk:∀k,Q k→w'.heap[k]? =w.heap[k]?):MapsAt Q w' mp W:=
 h.imp id fun ⟨b,L,h1,h2,h3⟩=>⟨b,L,h1,h2,h3.keep hk⟩
theorem MapsAt.wide {Q Q':Nat→Prop} {w:World} {mp:Option Nat} {W:Pages} (h:MapsAt Q w mp W) (hq:∀k,Q k→Q' k):MapsAt Q' w mp W:=
 h.imp id fun ⟨b,L,h1,h2,h3⟩=>⟨b,L,h1,h2,h3.wide hq⟩
theorem ClashAt.keep {Q:Nat→Prop} {w w':World} {cl:Option Addr} {x:Option (List Nat×List Nat)} (h:ClashAt Q w cl x) (hk:∀k,Q k→w'.heap[k]? =w.heap[k]?):ClashAt Q w' cl x:=
 h.imp id fun ⟨c,a,b,h1,h2,h3⟩=>⟨c,a,b,h1,h2,h3.keep hk⟩
theorem ClashAt.wide {Q Q':Nat→Prop} {w:World} {cl:Option Addr} {x:Option (List Nat×List Nat)} (h:ClashAt Q w cl x) (hq:∀k,Q k→Q' k):ClashAt Q' w cl x:=
 h.imp id fun ⟨c,a,b,h1,h2,h3⟩=>⟨c,a,b,h1,h2,h3.wide hq⟩
structure SAt (Q:Nat→Prop) (w:World) (g:Nat) (mp:Option Nat) (cl:Option Addr) (s:S):Prop where
 row:w.heap[g]? =some (.cells #[.map mp,.pointer cl] 89 (0,0))
 pages:MapsAt Q w mp s.W
 clash:ClashAt Q w cl s.cl
 mine:Q g
 lt:∀k,Q k→k<w.heap.size
 ok:s.ok
def PL (w:World) (g:Nat) (Q:Nat→Prop) (s:S):Prop:=∃mp cl,SAt Q w g mp cl s
section
variable {Q Q' X:Nat→Prop} {w w':World} {g:Nat} {mp:Option Nat} {cl:Option Addr} {s:S}
theorem SAt.c0 (h:SAt Q w g mp cl s):w.cell? ⟨g,0,none⟩=some (.map mp):=(cell_of_row w g 0 _ _ _ h.row).trans rfl
theorem SAt.c1 (h:SAt Q w g mp cl s):w.cell? ⟨g,1,none⟩=some (.pointer cl):=(cell_of_row w g 1 _ _ _ h.row).trans rfl
theorem SAt.keep (h:SAt Q w g mp cl s) (hs:w.heap.size≤w'.heap.size) (hk:∀k,Q k→w'.heap[k]? =w.heap[k]?):SAt Q w' g mp cl s:=
 ⟨(hk _ h.mine).trans h.row,h.pages.keep hk,h.clash.keep hk,h.mine,fun k hq=>Nat.lt_of_lt_of_le (h.lt k hq) hs,h.ok⟩
theorem SAt.later (h:SAt Q w g mp cl s) (hb:Below w.heap.size w w'):SAt Q w' g mp cl s:=h.keep hb.size (fun k hq=>hb.block k (h.lt k hq))
theorem SAt.only (h:SAt Q w g mp cl s) (ho:Dk.Only X w w') (hx:∀k,Q k→¬X k):SAt Q w' g mp cl s:=h.keep ho.size (fun k hq=>ho.block k (h.lt k hq) (hx k hq))
theorem PL.lt (h:PL w g Q s):∀k,Q k→k<w.heap.size:=by obtain ⟨_,_,h⟩:=h;exact h.lt
theorem PL.keep (X:Nat→Prop) (h:PL w g Q s) (ho:Dk.Only X w w') (hx:∀k,Q k→¬X k):PL w' g Q s:=by
 obtain ⟨mp,cl,h⟩:=h
 exact ⟨mp,cl,h.only ho hx⟩
theorem text_not_row {p:Option Addr} {m c:Nat} {b:List Nat} (h:Tx w p m c b) {x:Addr} (hx:p=some x) (hb:b≠[]) {k:Nat} {a1:Option Nat} {a2:Option Addr} {t:TypeId} {fr:Nat×Nat} (hk:w.heap[k]? =some (.cells #[.map a1,.pointer a2] t fr)):x.block≠k:=by
 rintro rfl
 obtain ⟨g,o,hp,hc⟩:=h.bytes.ne hb
 rw [hx] at hp
 cases hp
 have h1:=hc 0 (List.length_pos_iff.2 hb)
 rw [Nat.add_zero,cell_of_row w g o _ _ _ hk] at h1
 rcases o with _ | _ | o<;>simp at h1
theorem text_not_map {p:Option Addr} {m c:Nat} {b:List Nat} (h:Tx w p m c b) {x:Addr} (hx:p=some x) (hb:b≠[]) {k:Nat} {es:Array MapEntry} {cl:Nat} (hk:w.heap[k]? =some (.map es cl)):x.block≠k:=by
 rintro rfl
 obtain ⟨g,o,hp,hc⟩:=h.bytes.ne hb
 rw [hx] at hp
 cases hp
 have h1:=hc 0 (List.length_pos_iff.2 hb)
 simp [World.cell?,hk] at h1
theorem TQ.turn {k:Nat} {p:Option Addr} {m c:Nat} {b:List Nat} (h:TQ Q w p m c b) (ho:Dk.Only (fun j=>j=k) w w') (hne:∀x,p=some x→b≠[]→x.block≠k):TQ Q w' p m c b:=
 ⟨Dk.tx_keep h.tx (fun x hx hb=>ho.block _ (by
  obtain ⟨g',o',hp,hc⟩:=h.tx.bytes.ne hb
  rw [hx] at hp
  cases hp
  exact block_lt_of_cell (hc 0 (List.length_pos_iff.2 hb))) (hne x hx hb)),h.own,h.le⟩
theorem PairAt.turn_map {k c:Nat} {x y:List Nat} {es:Array MapEntry} {ck:Nat} (h:PairAt Q w c x y) (hk:w.heap[k]? =some (.map es ck)) (ho:Dk.Only (fun j=>j=k) w w'):PairAt Q w' c x y:=by
 obtain ⟨p,m,l,q,n,d,h1,h2,h3⟩:=h.row
 have hc:c<w.heap.size:=(Array.getElem?_eq_some_iff.1 h1).1
 refine ⟨h.mine,p,m,l,q,n,d,(ho.block c hc (fun e=>?_)).trans h1,h2.turn ho (fun z hz hb=>text_not_map h2.tx hz hb hk),h3.turn ho (fun z hz hb=>text_not_map h3.tx hz hb hk)⟩
 rw [e,hk] at h1
 cases h1
theorem PairAt.turn_row {k c:Nat} {x y:List Nat} {a1:Option Nat} {a2:Option Addr} {t:TypeId} {fr:Nat×Nat} (h:PairAt Q w c x y) (hk:w.heap[k]? =some (.cells #[.map a1,.pointer a2] t fr)) (ho:Dk.Only (fun j=>j=k) w w'):PairAt Q w' c x y:=by
 obtain ⟨p,m,l,q,n,d,h1,h2,h3⟩:=h.row
 have hc:c<w.heap.size:=(Array.getElem?_eq_some_iff.1 h1).1
 refine ⟨h.mine,p,m,l,q,n,d,(ho.block c hc (fun e=>?_)).trans h1,h2.turn ho (fun z hz hb=>text_not_row h2.tx hz hb hk),h3.turn ho (fun z hz hb=>text_not_row h3.tx hz hb hk)⟩
 rw [e,hk] at h1
 simp at h1
theorem ClashAt.turn_map {k:Nat} {es:Array MapEntry} {ck:Nat} {cx:Option (List Nat×List Nat)} (h:ClashAt Q w cl cx) (hk:w.heap[k]? =some (.map es ck)) (ho:Dk.Only (fun j=>j=k) w w'):ClashAt Q w' cl cx:=
 h.imp id fun ⟨c,a,b,h1,h2,h3⟩=>⟨c,a,b,h1,h2,h3.turn_map hk ho⟩
theorem ClashAt.turn_row {k:Nat} {a1:Option Nat} {a2:Option Addr} {t:TypeId} {fr:Nat×Nat} {cx:Option (List Nat×List Nat)} (h:ClashAt Q w cl cx) (hk:w.heap[k]? =some (.cells #[.map a1,.pointer a2] t fr)) (ho:Dk.Only (fun j=>j=k) w w'):ClashAt Q w' cl cx:=
 h.imp id fun ⟨c,a,b,h1,h2,h3⟩=>⟨c,a,b,h1,h2,h3.turn_row hk ho⟩
theorem MapAt.turn_row {k b:Nat} {L:List Pe} {a1:Option Nat} {a2:Option Addr} {t:TypeId} {fr:Nat×Nat} (h:MapAt Q w b L) (hk:w.heap[k]? =some (.cells #[.map a1,.pointer a2] t fr)) (ho:Dk.Only (fun j=>j=k) w w'):MapAt Q w' b L:=by
 obtain ⟨D,hm,hr⟩:=h.map
 refine ⟨h.mine,⟨D,map_keep hm (ho.block b hm.lt (fun e=>?_)),hr⟩,fun e he=>(h.text e he).turn ho (fun z hz hb=>text_not_row (h.text e he).tx hz hb hk)⟩
 obtain ⟨es,ck,h1,_⟩:=hm
 rw [e,hk] at h1
 cases h1
theorem MapsAt.turn_row {k:Nat} {a1:Option Nat} {a2:Option Addr} {t:TypeId} {fr:Nat×Nat} {W:Pages} (h:MapsAt Q w mp W) (hk:w.heap[k]? =some (.cells #[.map a1,.pointer a2] t fr)) (ho:Dk.Only (fun j=>j=k) w w'):MapsAt Q w' mp W:=
 h.imp id fun ⟨b,L,h1,h2,h3⟩=>⟨b,L,h1,h2,h3.turn_row hk ho⟩
end
theorem UST:Tryz.prog.underlying 86=some (.map 30 45):=by kernel_rfl
theorem SAt.made (w:World):SAt (fun k=>k=w.heap.size) (w.alloc (.cells #[.map none,.pointer none] 89)) w.heap.size none none ⟨[],none⟩:=
 ⟨heap_alloc_new w _,Or.inl ⟨rfl,rfl⟩,Or.inl ⟨rfl,rfl⟩,rfl,(fun k hk=>by subst hk;simp),S.new_ok⟩
theorem new_any (w:World):Calls Tryz.prog 13 #[] w fun e w'=>∃g Q,e= .returned (.pointer (some ⟨g,0,none⟩))∧PL w' g Q ⟨[],none⟩∧(∀k,Q k→w.heap.size≤k)∧Below w.heap.size w w':=by
 have hm:=SAt.made w
 have hb:=(Below.refl w.heap.size w).alloc (Nat.le_refl _) (.cells #[.map none,.pointer none] 89)
 go_enter Tryz.func13,Tryz.ntmps13
 go_wp2_with fail
 go_ret
 exact ⟨_,_,rfl,⟨_,_,hm⟩,(fun k hk=>by omega),hb⟩
theorem zeroTx (w:World):(zeroValue 45).run Tryz.prog w= .ok (.slice none 0 0) w:=by kernel_rfl
theorem look_any {Q:Nat→Prop} {w:World} {mp:Option Nat} {W:Pages} (h:MapsAt Q w mp W) {d:List Nat} (hd:d.length=32) (ho:Sm.allB d):
  ∃p m c,(∀w',w'.heap=w.heap→(Instr.lookup 86 (.map mp) (.agg (u8s d)) true).run Tryz.prog w'= .ok (.tuple #[.slice p m c,.bool (decide (idx d W<W.length))]) w')∧
   (textAt W d=none→p=none∧m=0∧c=0)∧∀t,textAt W d=some t→TQ Q w p m c t:=by
 rcases h with ⟨rfl,rfl⟩ | ⟨b,L,rfl,rfl,hM⟩
 ·refine ⟨none,0,0,fun w' _=>?_,fun _=>⟨rfl,rfl,rfl⟩,fun t ht=>by simp [textAt] at ht⟩
  have:=Go.Maps.look_nil (w:=w') true keyD UST (zeroTx w') (klit_of hd ho)
  simpa using this
 ·obtain ⟨D,hm,hr⟩:=hM.map
  have hh:=hr.has hd ho
  by_cases hi:idx d (pagesOf L)<(pagesOf L).length
  ·obtain ⟨e,he,hed,ha,ht⟩:=hr.got hi
   refine ⟨e.q,e.m,e.c,fun w' hw=>?_,fun h0=>(by rw [ht] at h0;cases h0),fun t h0=>?_⟩
   ·obtain ⟨v,ps,hrun,hv⟩:=(map_keep (w':=w') hm (by rw [hw])).look_ok keyD UST (zeroTx w') (zd:=.held (.slice none 0 0)) rfl (klit_of hd ho)
    rw [ha] at hv
    obtain ⟨p,m,c,rfl,hz⟩:=sliceR_inv hv
    have h1:DataW.held e.hd=DataW.held (.slice p m c):=congrArg Prod.fst hz
    have h2:e.hd= .slice p m c:=DataW.held.inj h1
    rw [hrun,hh,← h2]
    rfl
   ·rw [ht] at h0
    cases h0
    exact hM.text e he
  ·refine ⟨none,0,0,fun w' hw=>?_,fun _=>⟨rfl,rfl,rfl⟩,fun t h0=>(by rw [textAt_none hi] at h0;cases h0)⟩
   obtain ⟨v,ps,hrun,hv⟩:=(map_keep (w':=w') hm (by rw [hw])).look_ok keyD UST (zeroTx w') (zd:=.held (.slice none 0 0)) rfl (klit_of hd ho)
   rw [Go.Maps.atKey_of_not_has (by rw [hh];exact decide_eq_false hi)] at hv
   obtain ⟨p,m,c,rfl,hz⟩:=sliceR_inv hv
   have h1:DataW.held (Value.slice none 0 0)=DataW.held (.slice p m c):=congrArg Prod.fst hz
   have h2:Value.slice none 0 0= .slice p m c:=DataW.held.inj h1
   rw [hrun,hh,← h2]
theorem op_look {ρ:Operand→Value} {o:Oper} {m x:Operand} {w:World} {mp:Option Nat} {d:List Nat} {u:Value} (ho:o.op= .lookup 86 m x true) (hm:ρ m= .map mp) (hx:ρ x= .agg (u8s d))
  (hr:(Instr.lookup 86 (.map mp) (.agg (u8s d)) true).run Tryz.prog w= .ok u w):(execOp ρ o).run Tryz.prog w= .ok (.value u) w:=by
 unfold execOp
 simp only [ho,hm,hx,hr,Sem.run_bind,Sem.run_pure,Result.andThen_ok]
end Go.Proofs.YtinihaflmdihaaaGreat.Pg
