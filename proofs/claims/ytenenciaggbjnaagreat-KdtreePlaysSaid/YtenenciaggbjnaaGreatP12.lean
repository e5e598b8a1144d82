/- PgMap, PgLand, PgNew, PgLook, PgAdd, PgClone, PgGet, PgPre, ShaRot, ShaTurn. -/
import Derived.Maps.OwnSet
import Derived.Carry
import Derived.Maps.AppendAt
import Derived.Lib.SliceRun
import Derived.Laws.OwnMore
import Derived.Test.YtenenciaggbjnaaGreatProg
import Derived.WalkKit
import Derived.WalkSpells
import Derived.WalkLawsBesides
import Derived.BigQuiet
import Derived.Deep.QuietTactic
import Derived.Lib.Hide
import Derived.Test.YtenenciaggbjnaaGreatP11
set_option maxRecDepth 100000
set_option maxHeartbeats 8000000
set_option linter.all false
namespace Go.Proofs.YtenenciaggbjnaaGreat
namespace Pg
open Go.RowKit
def x2l:Value->Option (DataW Value×List MemPlace)
 | .slice p n c=>some (.held (.slice p n c),[])
 | _=>none
theorem x6x {v:Value} {z:DataW Value×List MemPlace} (h:x2l v=some z):∃p n c,v= .slice p n c/\z=(.held (.slice p n c),[]):=by
 unfold x2l at h;split at h
 ·cases h;exact ⟨_,_,_,rfl,rfl⟩
 ·cases h
def Pe.hd (e:Pe):Value:=.slice e.q e.m e.c
structure Reads (D:DataW Value) (L:List Pe):Prop where
 tidy:Go.Maps.Tidy D
 len:∀e∈L,e.d.length=32/\Sm.allB e.d
 one:(L.map (·.d)).Nodup
 at':∀e∈L,∀z,D.atKey (klit e.d) z= .held e.hd
 key:∀kl,Go.Maps.has D kl=true->∃e∈L,kl=klit e.d
 size:Go.Maps.size D=L.length
theorem Reads.nil:Reads (.map []) []:=⟨Go.Maps.tidy_empty,(fun e he=>by cases he),List.nodup_nil,(fun e he=>by cases he),(fun kl h=>by cases h),rfl⟩
theorem x5t (L:List Pe):(x0i L).map (·.1)=L.map (·.d):=by simp [x0i,Function.comp_def]
theorem Reads.has_mem {D:DataW Value} {L:List Pe} (h:Reads D L) {d:List Nat} (hd:d.length=32) (ho:Sm.allB d):Go.Maps.has D (klit d)=true↔d∈L.map (·.d):=by
 constructor
 ·intro hh;obtain ⟨e,A,B⟩:=h.key _ hh;rw [x5J hd ho (h.len e A).1 (h.len e A).2 B];exact List.mem_map_of_mem A
 ·intro hm;obtain ⟨e,A,rfl⟩:=kJ.1 hm;exact Go.Maps.has_true_of_atKey (h.at' e A)
theorem Reads.has {D:DataW Value} {L:List Pe} (h:Reads D L) {d:List Nat} (hd:d.length=32) (ho:Sm.allB d):Go.Maps.has D (klit d)=decide (idx d (x0i L)<(x0i L).length):=by
 rw [Bool.eq_iff_iff,h.has_mem hd ho,jY,x9G,x5t]
theorem Reads.got {D:DataW Value} {L:List Pe} (h:Reads D L) {d:List Nat} (hi:idx d (x0i L)<(x0i L).length):∃e∈L,e.d=d/\(∀z,D.atKey (klit d) z= .held e.hd)/\x0J (x0i L) d=some e.b:=by
 have B:idx d (x0i L)<L.length:=by rwa [x3Y] at hi
 have A:=x6n hi;rw [x6w L B] at A;have C:L.getD (idx d (x0i L)) default∈L:=by
  rw [jG,jM B];exact kM _
 refine ⟨_,C,A,?_,?_⟩
 ·have:=h.at' _ C;simp only at A
  rwa [A] at this
 ·rw [x25 hi,x6w L B]
theorem Reads.put {D:DataW Value} {L:List Pe} (h:Reads D L) {e:Pe} (hd:e.d.length=32) (ho:Sm.allB e.d) (hn:e.d∉L.map (·.d)):Reads (D.put (klit e.d) (.held e.hd)) (L++[e]):=by
 have C:Go.Maps.has D (klit e.d)=false:=by
  rw [<- Bool.not_eq_true,h.has_mem hd ho];exact hn
 have E:∀x∈L,klit x.d≠klit e.d:=fun x A he=>hn (by rw [<- x5J (h.len x A).1 (h.len x A).2 hd ho he];exact List.mem_map_of_mem A);refine ⟨h.tidy.put (x5K _) _,?_,?_,?_,?_,?_⟩
 ·intro x A;rcases jP.1 A with A | A
  ·exact h.len x A
  ·rw [kZ.1 A];exact ⟨hd,ho⟩
 ·rw [List.map_append,List.nodup_append];refine ⟨h.one,by simp,fun a ha c hc hac=>hn ?_⟩;simp only [kB,kC,kZ] at hc;rw [<- hc,<- hac];exact ha
 ·intro x A z;rcases jP.1 A with A | A
  ·rw [Go.Maps.atKey_put_other (E x A),h.at' x A]
  ·rw [kZ.1 A,Go.Maps.atKey_put_same h.tidy.isMap (x5K _)]
 ·intro kl hk;by_cases he:kl=klit e.d
  ·exact ⟨e,by simp,he⟩
  ·rw [Go.Maps.has_put_other he] at hk;obtain ⟨x,A,B⟩:=h.key kl hk;exact ⟨x,List.mem_append_left _ A,B⟩
 ·rw [Go.Maps.size_put h.tidy,C,h.size,jQ];rfl
def but (L:List Pe) (d:List Nat):List Pe:=L.filter fun x=>decide (x.d≠d)
theorem y17 {L:List Pe} (hn:(L.map (·.d)).Nodup) {e:Pe} (he:e∈L):(but L e.d).length+1=L.length:=by
 induction L with
 | nil=>cases he
 | cons x L ih=>
  rw [kB,List.nodup_cons] at hn;rcases jW.1 he with rfl | he
  ·have:but (e::L) e.d=L:=by
    unfold but;rw [List.filter_cons_of_neg (by simp),List.filter_eq_self];intro y hy;refine kF (fun h=>hn.1 ?_);rw [<- h];exact List.mem_map_of_mem (f:=(·.d)) hy
   rw [this,kI]
  ·have A:x.d≠e.d:=fun h=>hn.1 (by rw [h];exact List.mem_map_of_mem (f:=(·.d)) he);unfold but at ih ⊢;rw [List.filter_cons_of_pos (by simpa using A),kI,kI,ih hn.2 he]
theorem Reads.del {D:DataW Value} {L:List Pe} (h:Reads D L) {e:Pe} (he:e∈L):Reads (D.del (klit e.d)) (but L e.d):=by
 have C:∀x,x∈but L e.d↔x∈L/\x.d≠e.d:=fun x=>by rw [but,List.mem_filter,jY]
 have E:∀x∈L,x.d≠e.d->klit x.d≠klit e.d:=fun x A hxe h2=>hxe (x5J (h.len x A).1 (h.len x A).2 (h.len e he).1 (h.len e he).2 h2);refine ⟨h.tidy.del _,?_,?_,?_,?_,?_⟩
 ·intro x A;exact h.len x ((C x).1 A).1
 ·exact List.Nodup.sublist (List.Sublist.map _ List.filter_sublist) h.one
 ·intro x A z;rw [Go.Maps.atKey_del_other (E x ((C x).1 A).1 ((C x).1 A).2),h.at' x ((C x).1 A).1]
 ·intro kl hk;have B:kl≠klit e.d:=by
   rintro rfl;rw [Go.Maps.has_del_same] at hk;cases hk
  rw [Go.Maps.has_del_other B] at hk;obtain ⟨x,A,rfl⟩:=h.key kl hk;exact ⟨x,(C x).2 ⟨A,fun h2=>B (by rw [h2])⟩,rfl⟩
 ·have G:=Go.Maps.size_del (k:=klit e.d) h.tidy;rw [Go.Maps.has_true_of_atKey (h.at' e he),if_pos rfl,h.size] at G;have:=y17 h.one he;omega
theorem Reads.next {D:DataW Value} {L:List Pe} (h:Reads D L) {v:Value} {kl:Lit} (hk:keyOf Tryz.prog 30 v=some kl) {y:DataW Value} (ha:∀z,D.atKey kl z=y):∃e∈L,v= .agg (u8s e.d)/\kl=klit e.d:=by
 obtain ⟨e,A,rfl⟩:=h.key kl (Go.Maps.has_true_of_atKey ha);exact ⟨e,A,keyD.inj hk (x3m (h.len e A).1 (h.len e A).2),rfl⟩
theorem x8f {a b:List Nat} (ha:a.length=32) (hao:Sm.allB a) (hb:b.length=32) (hbo:Sm.allB b):(klit a).sameKey (klit b)=decide (a=b):=by
 by_cases h:a=b
 ·subst h;rw [WideAt.sameKey_self (x5K _)];simp
 ·rw [Go.Maps.sameKey_ne (fun e=>h (x5J ha hao hb hbo e))];simp [h]
structure TQ (Q:Nat->Prop) (w:World) (p:Option Addr) (m c:Nat) (b:List Nat):Prop where
 tx:Tx w p m c b
 own:∀x,p=some x->b≠[]->Q x.block
 le:b.length<=100000
theorem TQ.keep {Q:Nat->Prop} {w w':World} {p:Option Addr} {m c:Nat} {b:List Nat} (h:TQ Q w p m c b) (hk:∀k,Q k->w'.heap[k]? =w.heap[k]?):TQ Q w' p m c b:=
 ⟨Dk.tx_keep h.tx (fun x hx hb=>hk _ (h.own x hx hb)),h.own,h.le⟩
theorem TQ.wide {Q Q':Nat->Prop} {w:World} {p:Option Addr} {m c:Nat} {b:List Nat} (h:TQ Q w p m c b) (hq:∀k,Q k->Q' k):TQ Q' w p m c b:=⟨h.tx,fun x hx hb=>hq _ (h.own x hx hb),h.le⟩
structure MapAt (Q:Nat->Prop) (w:World) (b:Nat) (L:List Pe):Prop where
 mine:Q b
 map:∃D,w.ownsMap Tryz.prog 30 x2l b L.length D/\Reads D L
 text:∀e∈L,TQ Q w e.q e.m e.c e.b
theorem x44 {w w':World} {b n:Nat} {D:DataW Value} (h:w.ownsMap Tryz.prog 30 x2l b n D) (hk:w'.heap[b]? =w.heap[b]?):w'.ownsMap Tryz.prog 30 x2l b n D:=by
 obtain ⟨B,A,C,r⟩:=h;exact ⟨B,A,hk.trans C,r⟩
theorem MapAt.keep {Q:Nat->Prop} {w w':World} {b:Nat} {L:List Pe} (h:MapAt Q w b L) (hk:∀k,Q k->w'.heap[k]? =w.heap[k]?):MapAt Q w' b L:=by
 obtain ⟨D,A,B⟩:=h.map;exact ⟨h.mine,⟨D,x44 A (hk _ h.mine),B⟩,fun e he=>(h.text e he).keep hk⟩
theorem MapAt.wide {Q Q':Nat->Prop} {w:World} {b:Nat} {L:List Pe} (h:MapAt Q w b L) (hq:∀k,Q k->Q' k):MapAt Q' w b L:=⟨hq _ h.mine,h.map,fun e he=>(h.text e he).wide hq⟩
structure PairAt (Q:Nat->Prop) (w:World) (c:Nat) (x y:List Nat):Prop where
 mine:Q c
 row:∃p m k q n l,w.heap[c]? =some (.cells #[.slice p m k,.slice q n l] 128 (0,0))/\TQ Q w p m k x/\TQ Q w q n l y
theorem PairAt.keep {Q:Nat->Prop} {w w':World} {c:Nat} {x y:List Nat} (h:PairAt Q w c x y) (hk:∀k,Q k->w'.heap[k]? =w.heap[k]?):PairAt Q w' c x y:=by
 obtain ⟨p,m,k,q,n,l,C,A,B⟩:=h.row;exact ⟨h.mine,p,m,k,q,n,l,(hk _ h.mine).trans C,A.keep hk,B.keep hk⟩
theorem PairAt.wide {Q Q':Nat->Prop} {w:World} {c:Nat} {x y:List Nat} (h:PairAt Q w c x y) (hq:∀k,Q k->Q' k):PairAt Q' w c x y:=by
 obtain ⟨p,m,k,q,n,l,C,A,B⟩:=h.row;exact ⟨hq _ h.mine,p,m,k,q,n,l,C,A.wide hq,B.wide hq⟩
def MapsAt (Q:Nat->Prop) (w:World) (mp:Option Nat) (W:Pages):Prop:=(mp=none/\W=[])\/∃b L,mp=some b/\x0i L=W/\MapAt Q w b L
def ClashAt (Q:Nat->Prop) (w:World) (cl:Option Addr) (x:Option (List Nat×List Nat)):Prop:=(cl=none/\x=none)\/∃c a b,cl=some ⟨c,0,none⟩/\x=some (a,b)/\PairAt Q w c a b
theorem MapsAt.keep {Q:Nat->Prop} {w w':World} {mp:Option Nat} {W:Pages} (h:MapsAt Q w mp W) (hk:∀k,Q k->w'.heap[k]? =w.heap[k]?):MapsAt Q w' mp W:=
 h.imp id fun ⟨b,L,h1,h2,h3⟩=>⟨b,L,h1,h2,h3.keep hk⟩
theorem MapsAt.wide {Q Q':Nat->Prop} {w:World} {mp:Option Nat} {W:Pages} (h:MapsAt Q w mp W) (hq:∀k,Q k->Q' k):MapsAt Q' w mp W:=
 h.imp id fun ⟨b,L,h1,h2,h3⟩=>⟨b,L,h1,h2,h3.wide hq⟩
theorem ClashAt.keep {Q:Nat->Prop} {w w':World} {cl:Option Addr} {x:Option (List Nat×List Nat)} (h:ClashAt Q w cl x) (hk:∀k,Q k->w'.heap[k]? =w.heap[k]?):ClashAt Q w' cl x:=
 h.imp id fun ⟨c,a,b,h1,h2,h3⟩=>⟨c,a,b,h1,h2,h3.keep hk⟩
theorem ClashAt.wide {Q Q':Nat->Prop} {w:World} {cl:Option Addr} {x:Option (List Nat×List Nat)} (h:ClashAt Q w cl x) (hq:∀k,Q k->Q' k):ClashAt Q' w cl x:=
 h.imp id fun ⟨c,a,b,h1,h2,h3⟩=>⟨c,a,b,h1,h2,h3.wide hq⟩
structure SAt (Q:Nat->Prop) (w:World) (g:Nat) (mp:Option Nat) (cl:Option Addr) (s:S):Prop where
 row:w.heap[g]? =some (.cells #[.map mp,.pointer cl] 105 (0,0))
 pages:MapsAt Q w mp s.W
 clash:ClashAt Q w cl s.cl
 mine:Q g
 lt:∀k,Q k->k<w.heap.size
 ok:s.ok
def PL (w:World) (g:Nat) (Q:Nat->Prop) (s:S):Prop:=∃mp cl,SAt Q w g mp cl s
section
variable {Q Q' X:Nat->Prop} {w w':World} {g:Nat} {mp:Option Nat} {cl:Option Addr} {s:S}
theorem SAt.c0 (h:SAt Q w g mp cl s):w.cell? ⟨g,0,none⟩=some (.map mp):=(jH w g 0 _ _ _ h.row).trans rfl
theorem SAt.c1 (h:SAt Q w g mp cl s):w.cell? ⟨g,1,none⟩=some (.pointer cl):=(jH w g 1 _ _ _ h.row).trans rfl
theorem SAt.keep (h:SAt Q w g mp cl s) (hs:w.heap.size<=w'.heap.size) (hk:∀k,Q k->w'.heap[k]? =w.heap[k]?):SAt Q w' g mp cl s:=
 ⟨(hk _ h.mine).trans h.row,h.pages.keep hk,h.clash.keep hk,h.mine,fun k hq=>jO (h.lt k hq) hs,h.ok⟩
theorem SAt.later (h:SAt Q w g mp cl s) (hb:Below w.heap.size w w'):SAt Q w' g mp cl s:=h.keep hb.size (fun k hq=>hb.block k (h.lt k hq))
theorem SAt.only (h:SAt Q w g mp cl s) (ho:Dk.Only X w w') (hx:∀k,Q k->¬X k):SAt Q w' g mp cl s:=h.keep ho.size (fun k hq=>ho.block k (h.lt k hq) (hx k hq))
theorem PL.lt (h:PL w g Q s):∀k,Q k->k<w.heap.size:=by obtain ⟨_,_,h⟩:=h;exact h.lt
theorem PL.keep (X:Nat->Prop) (h:PL w g Q s) (ho:Dk.Only X w w') (hx:∀k,Q k->¬X k):PL w' g Q s:=by
 obtain ⟨A,B,h⟩:=h;exact ⟨A,B,h.only ho hx⟩
theorem x1R {p:Option Addr} {m c:Nat} {b:List Nat} (h:Tx w p m c b) {x:Addr} (hx:p=some x) (hb:b≠[]) {k:Nat} {a1:Option Nat} {a2:Option Addr} {t:TypeId} {fr:Nat×Nat} (hk:w.heap[k]? =some (.cells #[.map a1,.pointer a2] t fr)):x.block≠k:=by
 rintro rfl;obtain ⟨g,o,B,C⟩:=h.bytes.ne hb;rw [hx] at B;cases B
 have A:=C 0 (kP.2 hb);rw [Nat.add_zero,jH w g o _ _ _ hk] at A;rcases o with _ | _ | o<;>simp at A
theorem x2E {p:Option Addr} {m c:Nat} {b:List Nat} (h:Tx w p m c b) {x:Addr} (hx:p=some x) (hb:b≠[]) {k:Nat} {es:Array MapEntry} {cl:Nat} (hk:w.heap[k]? =some (.map es cl)):x.block≠k:=by
 rintro rfl;obtain ⟨g,o,A,B⟩:=h.bytes.ne hb;rw [hx] at A;cases A
 have C:=B 0 (kP.2 hb);simp [World.cell?,hk] at C
theorem TQ.turn {k:Nat} {p:Option Addr} {m c:Nat} {b:List Nat} (h:TQ Q w p m c b) (ho:Dk.Only (fun j=>j=k) w w') (hne:∀x,p=some x->b≠[]->x.block≠k):TQ Q w' p m c b:=
 ⟨Dk.tx_keep h.tx (fun x hx hb=>ho.block _ (by
  obtain ⟨g',o',hp,hc⟩:=h.tx.bytes.ne hb
  rw [hx] at hp
  cases hp
  exact jI (hc 0 (kP.2 hb))) (hne x hx hb)),h.own,h.le⟩
theorem PairAt.turn_map {k c:Nat} {x y:List Nat} {es:Array MapEntry} {ck:Nat} (h:PairAt Q w c x y) (hk:w.heap[k]? =some (.map es ck)) (ho:Dk.Only (fun j=>j=k) w w'):PairAt Q w' c x y:=by
 obtain ⟨p,m,l,q,n,d,A,B,C⟩:=h.row;have E:c<w.heap.size:=(yL A)
 refine ⟨h.mine,p,m,l,q,n,d,(ho.block c E (fun e=>?_)).trans A,B.turn ho (fun z hz hb=>x2E B.tx hz hb hk),C.turn ho (fun z hz hb=>x2E C.tx hz hb hk)⟩;rw [e,hk] at A;cases A
theorem PairAt.turn_row {k c:Nat} {x y:List Nat} {a1:Option Nat} {a2:Option Addr} {t:TypeId} {fr:Nat×Nat} (h:PairAt Q w c x y) (hk:w.heap[k]? =some (.cells #[.map a1,.pointer a2] t fr)) (ho:Dk.Only (fun j=>j=k) w w'):PairAt Q w' c x y:=by
 obtain ⟨p,m,l,q,n,d,A,B,C⟩:=h.row;have E:c<w.heap.size:=(yL A)
 refine ⟨h.mine,p,m,l,q,n,d,(ho.block c E (fun e=>?_)).trans A,B.turn ho (fun z hz hb=>x1R B.tx hz hb hk),C.turn ho (fun z hz hb=>x1R C.tx hz hb hk)⟩;rw [e,hk] at A;simp at A
theorem ClashAt.turn_map {k:Nat} {es:Array MapEntry} {ck:Nat} {cx:Option (List Nat×List Nat)} (h:ClashAt Q w cl cx) (hk:w.heap[k]? =some (.map es ck)) (ho:Dk.Only (fun j=>j=k) w w'):ClashAt Q w' cl cx:=
 h.imp id fun ⟨c,a,b,h1,h2,h3⟩=>⟨c,a,b,h1,h2,h3.turn_map hk ho⟩
theorem ClashAt.turn_row {k:Nat} {a1:Option Nat} {a2:Option Addr} {t:TypeId} {fr:Nat×Nat} {cx:Option (List Nat×List Nat)} (h:ClashAt Q w cl cx) (hk:w.heap[k]? =some (.cells #[.map a1,.pointer a2] t fr)) (ho:Dk.Only (fun j=>j=k) w w'):ClashAt Q w' cl cx:=
 h.imp id fun ⟨c,a,b,h1,h2,h3⟩=>⟨c,a,b,h1,h2,h3.turn_row hk ho⟩
theorem MapAt.turn_row {k b:Nat} {L:List Pe} {a1:Option Nat} {a2:Option Addr} {t:TypeId} {fr:Nat×Nat} (h:MapAt Q w b L) (hk:w.heap[k]? =some (.cells #[.map a1,.pointer a2] t fr)) (ho:Dk.Only (fun j=>j=k) w w'):MapAt Q w' b L:=by
 obtain ⟨D,A,C⟩:=h.map;refine ⟨h.mine,⟨D,x44 A (ho.block b A.lt (fun e=>?_)),C⟩,fun e he=>(h.text e he).turn ho (fun z hz hb=>x1R (h.text e he).tx hz hb hk)⟩;obtain ⟨E,G,B,_⟩:=A;rw [e,hk] at B;cases B
theorem MapsAt.turn_row {k:Nat} {a1:Option Nat} {a2:Option Addr} {t:TypeId} {fr:Nat×Nat} {W:Pages} (h:MapsAt Q w mp W) (hk:w.heap[k]? =some (.cells #[.map a1,.pointer a2] t fr)) (ho:Dk.Only (fun j=>j=k) w w'):MapsAt Q w' mp W:=
 h.imp id fun ⟨b,L,h1,h2,h3⟩=>⟨b,L,h1,h2,h3.turn_row hk ho⟩
end
theorem UST:Tryz.prog.underlying 102=some (.map 30 45):=by kernel_rfl
theorem SAt.made (w:World):SAt (fun k=>k=w.heap.size) (w.alloc (.cells #[.map none,.pointer none] 105)) w.heap.size none none ⟨[],none⟩:=
 ⟨jE w _,Or.inl ⟨rfl,rfl⟩,Or.inl ⟨rfl,rfl⟩,rfl,(fun k hk=>by subst hk;simp),S.new_ok⟩
theorem new_any (w:World):Calls Tryz.prog 17 #[] w fun e w'=>∃g Q,e= .returned (.pointer (some ⟨g,0,none⟩))/\PL w' g Q ⟨[],none⟩/\(∀k,Q k->w.heap.size<=k)/\Below w.heap.size w w':=by
 have B:=SAt.made w;have A:=(jC w.heap.size w).alloc (jB _) (.cells #[.map none,.pointer none] 105)
 go_enter Tryz.func17,Tryz.ntmps17
 go_wp2_with fail
 go_ret;exact ⟨_,_,rfl,⟨_,_,B⟩,(fun k hk=>by omega),A⟩
theorem y2d (w:World):(zeroValue 45).run Tryz.prog w= .ok (.slice none 0 0) w:=by kernel_rfl
theorem x7g {Q:Nat->Prop} {w:World} {mp:Option Nat} {W:Pages} (h:MapsAt Q w mp W) {d:List Nat} (hd:d.length=32) (ho:Sm.allB d):
  ∃p m c,(∀w',w'.heap=w.heap->(Instr.lookup 102 (.map mp) (.agg (u8s d)) true).run Tryz.prog w'= .ok (.tuple #[.slice p m c,.bool (decide (idx d W<W.length))]) w')/\
   (x0J W d=none->p=none/\m=0/\c=0)/\∀t,x0J W d=some t->TQ Q w p m c t:=by
 rcases h with ⟨rfl,rfl⟩ | ⟨b,L,rfl,rfl,K⟩
 ·refine ⟨none,0,0,fun w' _=>?_,fun _=>⟨rfl,rfl,rfl⟩,fun t C=>by simp [x0J] at C⟩;have:=Go.Maps.look_nil (w:=w') true keyD UST (y2d w') (x3m hd ho)
  simpa using this
 ·obtain ⟨D,J,M⟩:=K.map;have I:=M.has hd ho;by_cases hi:idx d (x0i L)<(x0i L).length
  ·obtain ⟨e,N,O,R,C⟩:=M.got hi;refine ⟨e.q,e.m,e.c,fun w' hw=>?_,fun h0=>(by rw [C] at h0;cases h0),fun t h0=>?_⟩
   ·obtain ⟨v,P,A,B⟩:=(x44 (w':=w') J (by rw [hw])).look_ok keyD UST (y2d w') (zd:=.held (.slice none 0 0)) rfl (x3m hd ho);rw [R] at B;obtain ⟨p,m,c,rfl,G⟩:=x6x B;have E:DataW.held e.hd=DataW.held (.slice p m c):=congrArg Prod.fst G;have H:e.hd= .slice p m c:=DataW.held.inj E;rw [A,I,<- H];rfl
   ·rw [C] at h0;cases h0
    exact K.text e N
  ·refine ⟨none,0,0,fun w' hw=>?_,fun _=>⟨rfl,rfl,rfl⟩,fun t h0=>(by rw [x3j hi] at h0;cases h0)⟩;obtain ⟨v,P,A,B⟩:=(x44 (w':=w') J (by rw [hw])).look_ok keyD UST (y2d w') (zd:=.held (.slice none 0 0)) rfl (x3m hd ho);rw [Go.Maps.atKey_of_not_has (by rw [I];exact kE hi)] at B;obtain ⟨p,m,c,rfl,G⟩:=x6x B;have E:DataW.held (Value.slice none 0 0)=DataW.held (.slice p m c):=congrArg Prod.fst G;have H:Value.slice none 0 0= .slice p m c:=DataW.held.inj E;rw [A,I,<- H]
theorem x7h {ρ:Operand->Value} {o:Oper} {m x:Operand} {w:World} {mp:Option Nat} {d:List Nat} {u:Value} (ho:o.op= .lookup 102 m x true) (hm:ρ m= .map mp) (hx:ρ x= .agg (u8s d))
  (hr:(Instr.lookup 102 (.map mp) (.agg (u8s d)) true).run Tryz.prog w= .ok u w):(execOp ρ o).run Tryz.prog w= .ok (.value u) w:=by
 unfold execOp;simp only [ho,hm,hx,hr,Sem.run_bind,Sem.run_pure,Result.andThen_ok]
theorem x5u {w w':World} {b:Nat} (h:w.mapTurned w' b):Dk.Only (fun j=>j=b) w w':=by
 have A:=h.grown;exact ⟨A.os,A.tape,A.output,A.size,fun k hk hn=>A.block k hk (fun e=>hn (Option.some.inj e))⟩
theorem x5v {w:World} {o:Oper} {a:Act} {K:Act->World->Prop} {Q:Exit->Act->World->Prop} (m x v:Operand) (ho:o.op= .mapUpdate 102 m x v) {b n:Nat} {D:DataW Value} (hm:a.eval m= .map (some b))
  (hown:w.ownsMap Tryz.prog 30 x2l b n D) (hn:n<maxLen) {d:List Nat} {p:Option Addr} {l c:Nat} (hx:a.eval x= .agg (u8s d)) (hv:a.eval v= .slice p l c) (hd:d.length=32) (hdo:Sm.allB d)
  (h:∀w',w'.ownsMap Tryz.prog 30 x2l b (n+1) (D.put (klit d) (.held (.slice p l c)))->w.mapTurned w' b->K (a.put o.dst undef) w'):o.wp Tryz.prog a w K Q:=by
 obtain ⟨w',A,B,C⟩:=hown.store keyD UST hn (x3m hd hdo) (val:=.slice p l c) rfl;unfold Oper.wp;simp [execOp,ho,hm,hx,hv,A,Result.andThen];exact h w' B C
theorem x2m (mp:Option Nat) (w:World):(binOp .eql 102 (.map mp) (.map none)).run Tryz.prog w= .ok (.bool mp.isNone) w:=by
 cases mp<;>kernel_rfl
section
variable {Q QX:Nat->Prop} {w w':World} {g b:Nat} {cl:Option Addr} {s:S} {L:List Pe} {D:DataW Value} {e:Pe}
theorem SAt.stored (h:SAt Q w g (some b) cl s) (hM:MapAt Q w b L) (hW:x0i L=s.W) (hr:Reads D L) (hown:w.ownsMap Tryz.prog 30 x2l b L.length D)
  (hown':w'.ownsMap Tryz.prog 30 x2l b (L.length+1) (D.put (klit e.d) (.held e.hd))) (ho:Dk.Only (fun j=>j=b) w w') (hd:e.d.length=32) (hdo:Sm.allB e.d) (hn:e.d∉L.map (·.d))
  (ht:TQ QX w e.q e.m e.c e.b) (hlt:∀k,QX k->k<w.heap.size) (hok:S.ok ⟨s.W++[(e.d,e.b)],s.cl⟩):SAt (fun k=>Q k\/QX k) w' g (some b) cl ⟨s.W++[(e.d,e.b)],s.cl⟩:=by
 obtain ⟨E,G,B,-⟩:=hown;have C:g<w.heap.size:=h.lt g h.mine;refine ⟨(ho.block g C (fun e=>?_)).trans h.row,Or.inr ⟨b,L++[e],rfl,by rw [<- hW];simp [x0i],⟨Or.inl hM.mine,⟨_,?_,hr.put hd hdo hn⟩,fun x A=>?_⟩⟩,(h.clash.turn_map B ho).wide (fun _ k=>Or.inl k),Or.inl h.mine,fun k hk=>?_,hok⟩
 ·have:=h.row;rw [e,B] at this;cases this
 ·rw [jQ];exact hown'
 ·rcases jP.1 A with A | A
  ·exact ((hM.text x A).turn ho (fun z hz hz'=>x2E (hM.text x A).tx hz hz' B)).wide (fun _ k=>Or.inl k)
  ·rw [kZ.1 A];exact (ht.turn ho (fun z hz hz'=>x2E ht.tx hz hz' B)).wide (fun _ k=>Or.inr k)
 ·exact jO (hk.elim (h.lt k) (hlt k)) ho.size
theorem SAt.f0 {mp:Option Nat} (h:SAt Q w g mp cl s):w.frozen? ⟨g,0,none⟩=false:=jS w g 0 _ _ h.row
theorem SAt.mapped (h:SAt Q w g none cl s):s.W=[]/\SAt (fun k=>Q k\/k=w.heap.size) ((w.alloc (.map #[] 0)).setCell ⟨g,0,none⟩ (.map (some w.heap.size))) g (some w.heap.size) cl s/\
  MapAt (fun k=>Q k\/k=w.heap.size) ((w.alloc (.map #[] 0)).setCell ⟨g,0,none⟩ (.map (some w.heap.size))) w.heap.size []/\
  ((w.alloc (.map #[] 0)).setCell ⟨g,0,none⟩ (.map (some w.heap.size))).ownsMap Tryz.prog 30 x2l w.heap.size 0 (.map [])/\
  Dk.Only (fun j=>j=g) w ((w.alloc (.map #[] 0)).setCell ⟨g,0,none⟩ (.map (some w.heap.size))):=by
 have M:g<w.heap.size:=h.lt g h.mine;have J:s.W=[]:=by
  rcases h.pages with ⟨_,C⟩ | ⟨b,L,C,_⟩
  ·exact C
  ·cases C
 have I:=(jC w.heap.size w).alloc (jB _) (.map #[] 0);have C:=h.later I;have A:=Dk.Only.setCell (P:=fun j=>j=g) (w.alloc (.map #[] 0)) (a:=⟨g,0,none⟩) rfl (.map (some w.heap.size));have G:=A.size;rw [World.size_alloc] at G;have E:=jU (w.alloc (.map #[] 0)) g 0 _ _ (.map (some w.heap.size)) C.row;have B:=x44 (World.ownsMap_made w Tryz.prog 30 x2l) (A.block w.heap.size (by simp) (by omega));have K:MapAt (fun k=>Q k\/k=w.heap.size) ((w.alloc (.map #[] 0)).setCell ⟨g,0,none⟩ (.map (some w.heap.size))) w.heap.size []:=⟨Or.inr rfl,⟨_,B,Reads.nil⟩,fun e he=>by cases he⟩
 refine ⟨J,⟨E,Or.inr ⟨_,_,rfl,by rw [J];rfl,K⟩,?_,Or.inl h.mine,?_,h.ok⟩,K,B,(Dk.Only.of_below _ I).trans A⟩
 ·exact (C.clash.turn_row C.row A).wide (fun _ k=>Or.inl k)
 ·intro k H;rcases H with H | rfl
  ·have:=h.lt k H;omega
  ·omega
end
theorem y0L {P Q:Nat->Prop} {w w':World} (h:Dk.Only P w w') (hp:∀k,P k->Q k\/w.heap.size<=k):Dk.Only Q w w':=
 ⟨h.os,h.tape,h.output,h.size,fun k hk hn=>h.block k hk (fun e=>(hp k e).elim hn (fun h2=>absurd hk (Nat.not_lt.2 h2)))⟩
def Mst (g:Nat) (w w':World):Prop:=∀b,w.cell? ⟨g,0,none⟩=some (.map (some b))->w'.cell? ⟨g,0,none⟩=some (.map (some b))
theorem Mst.keep {g:Nat} {a b w c:World} (h:Mst g a b) (h1:a.heap[g]? =w.heap[g]?) (h2:c.heap[g]? =b.heap[g]?):Mst g w c:=fun x hx=>(jX (w:=b) (a:=⟨g,0,none⟩) h2).trans (h x ((jX (w:=w) (a:=⟨g,0,none⟩) h1).trans hx))
def y6H (Q QX:Nat->Prop) (w:World) (g:Nat) (mp:Option Nat) (cl:Option Addr) (s:S) (d b:List Nat) (w':World):Prop:=
 (∃mp',SAt (fun k=>Q k\/QX k\/w.heap.size<=k/\k<w'.heap.size) w' g mp' cl ⟨s.W++[(d,b)],s.cl⟩/\∀b,mp=some b->mp'=some b)/\Dk.Only Q w w'
theorem SAt.wide {Q Q':Nat->Prop} {w:World} {g:Nat} {mp:Option Nat} {cl:Option Addr} {s:S} (h:SAt Q w g mp cl s) (hq:∀k,Q k->Q' k) (hl:∀k,Q' k->k<w.heap.size):SAt Q' w g mp cl s:=
 ⟨h.row,h.pages.wide hq,h.clash.wide hq,hq _ h.mine,hl,h.ok⟩
theorem y6I {Q QX:Nat->Prop} {w:World} {g:Nat} {mp:Option Nat} {cl:Option Addr} {s:S} (h:SAt Q w g mp cl s) {d b:List Nat} (hd:d.length=32) (hdo:Sm.allB d) (hn:¬idx d s.W<s.W.length) {q:Option Addr} {m c:Nat} (ht:TQ QX w q m c b)
  (hlt:∀k,QX k->k<w.heap.size) (hok:S.ok ⟨s.W++[(d,b)],s.cl⟩) (hsm:s.W.length<100000):
  Calls Tryz.prog 304 #[.pointer (some ⟨g,0,none⟩),.agg (u8s d),.slice q m c] w fun e w'=>e= .returned (.tuple #[])/\y6H Q QX w g mp cl s d b w':=by
 have C:=(jC w.heap.size w).alloc (jB _) (.cells (u8s d) 30);have H:=h.later C;have u:=yH C;have M:=yH (jE w (.cells (u8s d) 30));have i:=yH hd;have x:=yH (TQ.keep (w':=w.alloc (.cells (u8s d) 30)) ht (fun k A=>C.block k (hlt k A)));have y:=yH (show g<w.heap.size from h.lt g h.mine);have N:=yH hlt;have l:=yH h.lt;have p:=yH hok;have A2:=yH h.mine;clear C hd ht hlt hok;cases mp with
 | some bm=>
  obtain ⟨L,U,Z⟩:∃L,x0i L=s.W/\MapAt Q (w.alloc (.cells (u8s d) 30)) bm L:=by
   rcases H.pages with ⟨Y,_⟩ | ⟨b',L,Y,h3,h4⟩
   ·cases Y
   ·cases Y;exact ⟨L,h3,h4⟩
  obtain ⟨D,E,hr⟩:=Z.map;have AI:L.length<100000:=by rw [<- U,x3Y] at hsm;exact hsm
  have HN:=yH (show d∉L.map (·.d) from fun hm=>hn (by rw [x9G,<- U,x5t];exact hm));have f:=yH H.c0;have v:=H.c0;have R:=yH H;have t:=yH Z;have HW:=yH U;have HR:=yH hr;have O:=yH E;clear h H Z U hr E hn;have qn:=fun w'=>x2m (some bm) w';simp only [Option.isNone_some] at qn
  go_enter Tryz.func304,Tryz.ntmps304
  go_wp2_with fail
  generalize w.alloc (.cells (u8s d) 30)=w1 at *;generalize hbk:w.heap.size=bk at *;go_upto_region 3 with fail
  refine kD (S:=fun w'=>w'.cell? ⟨g,0,none⟩=some (.map (some bm))/\w'.heap[bk]? =some (.cells (u8s d) 30 (0,0))) (by kernel_rfl) ⟨f.out,M.out⟩ (fun hH=>?_);refine tK 0 ?_;refine tK 1 ?_;refine tK 2 ?_;refine tQ 3 ?_ ?_ ?_;rotate_left
  ·intro w' hSw;have v:=hSw.1;go_simp;try with_reducible rfl
  refine tQ 4 ?_ ?_ ?_;rotate_left
  ·intro w' hSw;refine Eq.trans (b:=Result.ok (Next.value (.agg (u8s d))) w') ?_ ?_
   ·exact x1I (by rfl) (by rfl) i (x0p hSw.2)
   ·with_reducible rfl
  refine tK 5 ?_;refine rO 6 fun K hK=>?_;refine x5v (.tmp 18) (.tmp 19) (.tmp 20) (by rfl) (by rfl) O (by unfold maxLen;omega) (by rfl) (by rfl) i hdo (fun w3 hown3 hturn3=>?_);have B:=x5u hturn3;have I:=yH (show Dk.Only (fun j=>j=bm) w1 w3 from ⟨B.os,B.tape,B.output,B.size,B.block⟩);clear B;have P:=yH hown3;obtain ⟨AD,A7,C,-⟩:=O.out;have S3:w3.cell? ⟨g,0,none⟩=some (.map (some bm))/\w3.heap[bk]? =some (.cells (u8s d) 30 (0,0)):=by
   have G:=R.row;have e1:g≠bm:=fun e=>by rw [e,C] at G;cases G
   have e2:bk≠bm:=fun e=>by have h:=M.out;rw [e,C] at h;cases h
   exact ⟨(jX (w:=w1) (a:=⟨g,0,none⟩) (I.block g (yL G) e1)).trans f.out,(I.block bk (yL M) e2).trans M.out⟩
  clear hown3 hturn3 C;refine hK.out _ _ S3 (fun hH=>?_);clear hK K;try simp only [Act.put]
  refine jD ?_;go_wp2_with fail
  go_end0
  have SS:=R.stored (e:=⟨d,q,m,c,b⟩) t HW HR O P I i hdo HN x (fun k A=>jO (N.out k A) (hbk▸u.size)) p;have AB:=I.size;exact ⟨rfl,⟨_,SS.wide (fun k A=>A.elim Or.inl (fun e=>Or.inr (Or.inl e))) (fun k A=>by
   have h0:=u.size;rcases A with A | A | A
   ·have:=l.out k A;omega
   ·have:=N.out k A;omega
   ·exact A.2),fun b e=>e⟩,((Dk.Only.of_below _ (by rw [hbk];exact u.out)).trans (I.mono (fun k e=>by rw [e];exact t.mine)))⟩
 | none=>
  have X:(w.alloc (.cells (u8s d) 30)).heap.size=w.heap.size+1:=by simp
  obtain ⟨U,Y,Z,E,J⟩:=H.mapped;have hN:d∉([]:List Pe).map (·.d):=by simp
  have v:=H.c0;have cA:=(H.later ((jC _ _).alloc (jB _) (.map #[] 0))).c0;have fA:=(H.later ((jC _ _).alloc (jB _) (.map #[] 0))).f0;have f:=yH Y.c0;have R:=yH Y;have t:=yH Z;have HW:=yH (show x0i []=s.W from by rw [U];rfl);have HR:=yH Reads.nil;have O:=yH E;have HN:=yH hN;have R2:=yH ((J.block w.heap.size (by rw [X];omega) (by have:=y.out;omega)).trans M.out);have n:=yH (x.turn J (fun z hz hz'=>x1R x.tx hz hz' H.row));have o:=yH (show w.heap.size+1<=_ from by rw [<- X];exact J.size);have r:=yH ((Dk.Only.of_below _ u).trans J);have AE:= @run_makeMap Tryz.prog;have qn:=fun w'=>x2m none w';simp only [Option.isNone_none] at qn;clear h H Y Z E hn U hN J M x
  go_enter Tryz.func304,Tryz.ntmps304
  go_upto_region 3 with fail
  rw [X] at f R t O R2 n o r;have M:=R2;clear R2 AE cA fA v;generalize ((w.alloc (.cells (u8s d) 30)).alloc (.map #[] 0)).setCell ⟨g,0,none⟩ (.map (some (w.heap.size+1)))=w2 at *;generalize hbk:w.heap.size=bk at *;refine kD (S:=fun w'=>w'.cell? ⟨g,0,none⟩=some (.map (some (bk+1)))/\w'.heap[bk]? =some (.cells (u8s d) 30 (0,0))) (by kernel_rfl) ⟨f.out,M.out⟩ (fun hH=>?_);refine tK 0 ?_;refine tK 1 ?_;refine tK 2 ?_;refine tQ 3 ?_ ?_ ?_;rotate_left
  ·intro w' hSw;have v:=hSw.1;go_simp;try with_reducible rfl
  refine tQ 4 ?_ ?_ ?_;rotate_left
  ·intro w' hSw;refine Eq.trans (b:=Result.ok (Next.value (.agg (u8s d))) w') ?_ ?_
   ·exact x1I (by rfl) (by rfl) i (x0p hSw.2)
   ·with_reducible rfl
  refine tK 5 ?_;refine rO 6 fun K hK=>?_;refine x5v (.tmp 18) (.tmp 19) (.tmp 20) (by rfl) (by rfl) O (by unfold maxLen;omega) (by rfl) (by rfl) i hdo (fun w3 hown3 hturn3=>?_);have B:=x5u hturn3;have I:=yH (show Dk.Only (fun j=>j=(bk+1)) w2 w3 from ⟨B.os,B.tape,B.output,B.size,B.block⟩);clear B;have P:=yH hown3;obtain ⟨AD,A7,C,-⟩:=O.out;have S3:w3.cell? ⟨g,0,none⟩=some (.map (some (bk+1)))/\w3.heap[bk]? =some (.cells (u8s d) 30 (0,0)):=by
   have G:=R.row;have e1:g≠(bk+1):=fun e=>by rw [e,C] at G;cases G
   have e2:bk≠(bk+1):=fun e=>by have h:=M.out;rw [e,C] at h;cases h
   exact ⟨(jX (w:=w2) (a:=⟨g,0,none⟩) (I.block g (yL G) e1)).trans f.out,(I.block bk (yL M) e2).trans M.out⟩
  clear hown3 hturn3 C;refine hK.out _ _ S3 (fun hH=>?_);clear hK K;try simp only [Act.put]
  refine jD ?_;go_wp2_with fail
  go_end0
  have SS:=R.stored (e:=⟨d,q,m,c,b⟩) t HW HR O P I i hdo HN n (fun k A=>jO (N.out k A) (Nat.le_of_succ_le o)) p;have AB:=I.size;have AL:=R.lt (bk+1) (Or.inr rfl);exact ⟨rfl,⟨_,SS.wide (fun k A=>by
   rcases A with (A | A) | A
   ·exact Or.inl A
   ·exact Or.inr (Or.inr ⟨by omega,by omega⟩)
   ·exact Or.inr (Or.inl A)) (fun k A=>by
   rcases A with A | A | A
   ·have:=l.out k A;omega
   ·have:=N.out k A;omega
   ·exact A.2),fun b e=>(by cases e)⟩,y0L ((r.mono (Q:=fun k=>Q k\/k=bk+1) (fun k e=>Or.inl (by rw [e];exact A2.out))).trans (I.mono (fun k e=>Or.inr e))) (fun k e=>e.imp id (fun e=>by omega))⟩
theorem x2P {w:World} {p:Option Addr} {n c:Nat} {B:List Nat} (h:Tx w p n c B) (hn:n<=100000):
  Calls Tryz.prog 82 #[.slice p n c] w fun e w'=>∃q d,e= .returned (.slice q n d)/\w'.ownsRow w.heap.size 5 1 (.slice q n d) n (vals B)/\Below w.heap.size w w':=by
 cases p with
 | none=>
  have g:c=0:=by
   rcases h.at' with ⟨_,l⟩ | ⟨y,m,_⟩
   ·exact l
   ·cases m
  have R:n=0:=by have:=h.le;omega
  have Z:B=[]:=List.eq_nil_of_length_eq_zero (by have:=h.size;omega);subst g R Z;have o:∀w',(binOp .eql 45 (.slice none 0 0) (.slice none 0 0)).run Tryz.prog w'= .ok (.bool true) w':=fun w'=>Go.Lib.run_eql_slice_nil w' _ _ _ _ _ _ _ A22;clear h
  go_enter Tryz.func82,Tryz.ntmps82
  go_wp2_with fail
  go_ret;exact ⟨none,0,rfl,World.ownsRow_nil _ _ _ _,jC _ _⟩
 | some ad=>
  have o:∀w',(binOp .eql 45 (.slice (some ad) n c) (.slice none 0 0)).run Tryz.prog w'= .ok (.bool false) w':=fun w'=>Go.Lib.run_eql_slice_nil w' _ _ _ _ _ _ _ A22;obtain ⟨a,X,G,E,H⟩:=info_parts I5;have f:=yH X;have Q:=yH G;have P:=yH E;have O:=yH H;clear X G E H;have C:=(jC w.heap.size w).alloc (jB _) (.cells #[] 5);have A:=yH C;have I:=yH (show (w.alloc (.cells #[] 5)).ownsRow w.heap.size 5 1 (.slice (some ⟨w.heap.size,0,none⟩) 0 0) 0 [] from x23 (L:=[]) (cap:=0) (n:=0) (jE w (.cells (u8s []) 5)) rfl (jB _) (Nat.zero_le _) (jB _));have N:=yH ((h.later C).cells);have j:=yH (show (vals B).length=n*1 from by rw [x00,<- h.size,Nat.mul_one]);clear C h
  go_enter Tryz.func82,Tryz.ntmps82
  go_wp2_with ((at_builtin;(refine wpList_append_own_at _ (by rfl) (.tmp 5) (.tmp 6) 45 (by rfl) w.heap.size 5 a (.int .u8 0) 1 1 A22 f Q P O (by rfl) (by decide) _ 0 [] (by rfl) I ad n c (vals B) (by rfl) j N (x0L _) (by unfold maxLen;omega) (by omega) A.size ?_);intro v7 w7 hown7 hgrow7 _ _;have i:=yH hown7;have r:=yH hgrow7;clear hown7 hgrow7))
  have M:Below w.heap.size w w7:=A.grown r.out A.size (fun k hk=>(I.lt k hk).1);have U:=i.out;rw [Nat.zero_add,kV] at U;obtain ⟨K,W,rfl⟩:∃K W,v7= .slice K n W:=by
   rcases U.2 with ⟨J,b⟩ | ⟨s,cap,Y,J,_⟩
   ·exact ⟨none,0,by rw [J,b]⟩
   ·exact ⟨_,_,J⟩
  go_ret;exact ⟨K,W,rfl,U,M⟩
theorem x8g {W:Pages} {d t:List Nat} (h:x0J W d=some t):idx d W<W.length:=by
 unfold x0J at h;split at h
 ·assumption
 ·cases h
theorem y2e {W:Pages} {d:List Nat} (h:x0J W d=none):¬idx d W<W.length:=by
 unfold x0J at h;split at h
 ·cases h
 ·assumption
theorem y2f {w:World} {g:Nat} {Q:Nat->Prop} {s:S} (t d:List Nat) (h:PL w g Q s) (hd:d.length=32) (ho:Sm.allB d) (ht:x0J s.W d=some t):
  Calls Tryz.prog 128 #[.pointer (some ⟨g,0,none⟩),.agg (u8s d)] w fun e w'=>∃q c,e= .returned (.tuple #[.slice q t.length c,.int .i64 0])/\w'.ownsRow w.heap.size 5 1 (.slice q t.length c) t.length (vals t)/\Below w.heap.size w w':=by
 obtain ⟨l,m,h⟩:=h;have C:=(jC w.heap.size w).alloc (jB _) (.cells (u8s d) 30);obtain ⟨M,U,L,E,-,H⟩:=x7g (h.later C).pages hd ho;rw [kF (x8g ht)] at E;have G:=H t ht;obtain rfl:U=t.length:=G.tx.size;have O:=yH C;have j:=yH (jE w (.cells (u8s d) 30));have K:=yH (h.later C).c0;have X:=yH E;have Z:=yH hd;have I:=yH G;clear h C E hd H G ht
 go_enter Tryz.func128,Tryz.ntmps128
 go_wp2_with fail
 generalize w.alloc (.cells (u8s d) 30)=w1 at *;generalize hbk:w.heap.size=bk at *;go_upto_region 1 with fail
 refine kD (S:=fun w'=>w'.heap=w1.heap) (by kernel_rfl) rfl (fun hH=>?_);refine tK 0 ?_;refine tK 1 ?_;refine tK 2 ?_;refine tQ 3 ?_ ?_ ?_;rotate_left
 ·intro w' hSw;have n:=(jX (w:=w1) (a:=⟨g,0,none⟩) (by rw [hSw])).trans K.out;go_simp;try with_reducible rfl
 refine tQ 4 ?_ ?_ ?_;rotate_left
 ·intro w' hSw;refine Eq.trans (b:=Result.ok (Next.value (.agg (u8s d))) w') ?_ ?_
  ·exact x1I (by rfl) (by rfl) Z (x0p ((congrArg (fun h=>h[bk]?) hSw).trans j.out))
  ·with_reducible rfl
 refine tQ 5 ?_ ?_ ?_;rotate_left
 ·intro w' hSw;refine Eq.trans (b:=Result.ok (Next.value (.tuple #[.slice M t.length L,.bool true])) w') ?_ ?_
  ·exact x7h (by rfl) (by rfl) (by rfl) (X.out w' hSw)
  ·with_reducible rfl
 refine tK 6 ?_;refine tK 7 ?_;refine tK 8 ?_;refine tK 9 ?_;refine tK 10 ?_;refine jD ?_;have B:=yH (O.drew);have N:=yH (I.tx.later (jC _ _).drew);have HN:=I.le;clear hH;generalize w1.drew=w2 at *;go_wp2_with (go_at_call 82;with_reducible refine (x2P N.out ?hx).mono ?_;(case hx=>exact HN);rintro _ w3 ⟨q3,c3,rfl,o3,b3⟩)
 go_ret2;rw [hbk];have A:bk<=w2.heap.size:=by rw [<- hbk];exact B.size
 refine ⟨q3,c3,rfl,⟨o3.1,?_⟩,B.trans (b3.mono A)⟩;rcases o3.2 with J | ⟨P,k,Y,f,R,i⟩
 ·exact Or.inl J
 ·exact Or.inr ⟨P,k,Y,f,jJ A R,i⟩
theorem y4M {w:World} {g:Nat} {Q:Nat->Prop} {s:S} (d:List Nat) (h:PL w g Q s) (hd:d.length=32) (ho:Sm.allB d) (ht:x0J s.W d=none):
  Calls Tryz.prog 128 #[.pointer (some ⟨g,0,none⟩),.agg (u8s d)] w fun e w'=>∃q c,e= .returned (.tuple #[.slice q 0 c,.int .i64 9])/\Below w.heap.size w w':=by
 obtain ⟨M,N,h⟩:=h;have A:=(jC w.heap.size w).alloc (jB _) (.cells (u8s d) 30);obtain ⟨J,C,I,B,-,-⟩:=x7g (h.later A).pages hd ho;rw [kE (y2e ht)] at B;have K:=yH A;have L:=yH (jE w (.cells (u8s d) 30));have G:=yH (h.later A).c0;have E:=yH B;have H:=yH hd;clear h A B hd ht
 go_enter Tryz.func128,Tryz.ntmps128
 go_wp2_with fail
 generalize w.alloc (.cells (u8s d) 30)=w1 at *;generalize hbk:w.heap.size=bk at *;go_upto_region 1 with fail
 refine kD (S:=fun w'=>w'.heap=w1.heap) (by kernel_rfl) rfl (fun hH=>?_);refine tK 0 ?_;refine tK 1 ?_;refine tK 2 ?_;refine tQ 3 ?_ ?_ ?_;rotate_left
 ·intro w' hSw;have O:=(jX (w:=w1) (a:=⟨g,0,none⟩) (by rw [hSw])).trans G.out;go_simp;try with_reducible rfl
 refine tQ 4 ?_ ?_ ?_;rotate_left
 ·intro w' hSw;refine Eq.trans (b:=Result.ok (Next.value (.agg (u8s d))) w') ?_ ?_
  ·exact x1I (by rfl) (by rfl) H (x0p ((congrArg (fun h=>h[bk]?) hSw).trans L.out))
  ·with_reducible rfl
 refine tQ 5 ?_ ?_ ?_;rotate_left
 ·intro w' hSw;refine Eq.trans (b:=Result.ok (Next.value (.tuple #[.slice J C I,.bool false])) w') ?_ ?_
  ·exact x7h (by rfl) (by rfl) (by rfl) (E.out w' hSw)
  ·with_reducible rfl
 refine tK 6 ?_;refine tK 7 ?_;refine tK 8 ?_;refine tK 9 ?_;refine tK 10 ?_;refine jD ?_;go_wp2_with fail
 go_ret2;exact ⟨none,0,rfl,by rw [hbk];exact K.drew⟩
theorem y0M {w:World} {g:Nat} {q:Option Addr} {n c:Nat} {A:List Nat} (h:w.heap[g]? =some (.cells #[.slice q n c] 45 (0,0))) (h1:Tx w q n c A):Texts w (some ⟨g,0,none⟩) 1 1 [A]:=
 ⟨rfl,jB _,fun _=>⟨g,0,rfl,fun i hi=>by
  have h0:=fun j=>jH w g j _ _ _ h
  match i,hi with
  | 0,_=>exact ⟨q,n,c,h0 0,h1⟩⟩⟩
theorem y7M {L:List (List Nat)} (tag:Nat) (ht:tag<256) (h:∀b∈L,Sm.allB b):Sm.allB (pre tag L):=by
 intro x hx;simp only [pre,jW,List.mem_flatMap,tpart,jP] at hx;rcases hx with rfl | ⟨t,A,B | B⟩
 ·exact ht
 ·exact y06 _ x B
 ·exact h t A x B
theorem y2g (a:Nat) (b:List Nat):(pre a [b]).length=9+b.length:=by
 rw [pre,kI,List.flatMap_cons,List.flatMap_nil,kW,x2i];omega
theorem y2h (b:List Nat):tot [b]=9+b.length:=y2g 0 b
end Pg
section
open Go.RowKit
theorem y2i {a b:Int} (h:a=b):Ending.returned (.int .u32 a)= .returned (.int .u32 b):=by rw [h]
theorem x2I (x n:Nat) (k:Int) (w:World) (hx:x<4294967296) (hn:0<n) (hn':n<32) (hk:bits .and .u64 (IntKind.u64.wrap k) 31=((32 - n:Nat):Int)):
  Calls Tryz.prog 336 #[.int .u32 x,.int .i64 k] w fun e w'=>e= .returned (.int .u32 (Sm.rot n x))/\w=w':=by
 obtain ⟨m,A⟩:∃m,m=32 - n:=⟨_,rfl⟩
 rw [<- A] at hk;have J:(0:Int)<=m:=by omega
 have H:(m:Int)<=32:=by omega
 have I:(0:Int)<=32 - m:=by omega
 have K:(32 - m:Int)<=32:=by omega
 have E:=yH A;clear A
 go_enter Tryz.func336,Tryz.ntmps336
 go_wp2
 go_ret;refine ⟨y2i ?_,rfl⟩;have e:=E.out;have B:(x:Int)*2^m%4294967296=((x*2^(32 - n)%4294967296:Nat):Int):=by
  rw [Int.natCast_emod,Int.natCast_mul,Int.natCast_pow,e];rfl
 have G:(x:Int)/2^(32 - m)=((x/2^n:Nat):Int):=by
  have C:32 - m=n:=by omega
  rw [C,Int.natCast_ediv,Int.natCast_pow];rfl
 rw [B,G];exact u32_or_nat _ _ (Nat.mod_lt _ (by omega)) (Nat.lt_of_le_of_lt (Nat.div_le_self _ _) hx)
theorem rk2:bits .and .u64 (IntKind.u64.wrap (-2)) 31=((32 - 2:Nat):Int):=by decide+kernel
theorem rk6:bits .and .u64 (IntKind.u64.wrap (-6)) 31=((32 - 6:Nat):Int):=by decide+kernel
theorem rk7:bits .and .u64 (IntKind.u64.wrap (-7)) 31=((32 - 7:Nat):Int):=by decide+kernel
theorem rk11:bits .and .u64 (IntKind.u64.wrap (-11)) 31=((32 - 11:Nat):Int):=by decide+kernel
theorem rk13:bits .and .u64 (IntKind.u64.wrap (-13)) 31=((32 - 13:Nat):Int):=by decide+kernel
theorem rk17:bits .and .u64 (IntKind.u64.wrap (-17)) 31=((32 - 17:Nat):Int):=by decide+kernel
theorem rk18:bits .and .u64 (IntKind.u64.wrap (-18)) 31=((32 - 18:Nat):Int):=by decide+kernel
theorem rk19:bits .and .u64 (IntKind.u64.wrap (-19)) 31=((32 - 19:Nat):Int):=by decide+kernel
theorem rk22:bits .and .u64 (IntKind.u64.wrap (-22)) 31=((32 - 22:Nat):Int):=by decide+kernel
theorem rk25:bits .and .u64 (IntKind.u64.wrap (-25)) 31=((32 - 25:Nat):Int):=by decide+kernel
theorem x3Z (n x:Nat) (k:Int) (w:World) (hx:x<4294967296) (hn:(k= -2/\n=2)\/(k= -6/\n=6)\/(k= -7/\n=7)\/(k= -11/\n=11)\/(k= -13/\n=13)\/(k= -17/\n=17)\/(k= -18/\n=18)\/(k= -19/\n=19)\/(k= -22/\n=22)\/(k= -25/\n=25)):
  Calls Tryz.prog 336 #[.int .u32 x,.int .i64 k] w fun e w'=>e= .returned (.int .u32 (Sm.rot n x))/\w=w':=by
 rcases hn with ⟨rfl,rfl⟩ | ⟨rfl,rfl⟩ | ⟨rfl,rfl⟩ | ⟨rfl,rfl⟩ | ⟨rfl,rfl⟩ | ⟨rfl,rfl⟩ | ⟨rfl,rfl⟩ | ⟨rfl,rfl⟩ | ⟨rfl,rfl⟩ | ⟨rfl,rfl⟩
 ·exact x2I x 2 _ w hx (by omega) (by omega) rk2
 ·exact x2I x 6 _ w hx (by omega) (by omega) rk6
 ·exact x2I x 7 _ w hx (by omega) (by omega) rk7
 ·exact x2I x 11 _ w hx (by omega) (by omega) rk11
 ·exact x2I x 13 _ w hx (by omega) (by omega) rk13
 ·exact x2I x 17 _ w hx (by omega) (by omega) rk17
 ·exact x2I x 18 _ w hx (by omega) (by omega) rk18
 ·exact x2I x 19 _ w hx (by omega) (by omega) rk19
 ·exact x2I x 22 _ w hx (by omega) (by omega) rk22
 ·exact x2I x 25 _ w hx (by omega) (by omega) rk25
def u32s (l:List Nat):Array Value:=(l.map fun x=>Value.int .u32 (x:Nat)).toArray
theorem A32:Tryz.prog.underlying 356=some (.array 8 282):=by kernel_rfl
theorem S32:(Tryz.prog.info? 356).map (·.size)=some 8:=by kernel_rfl
theorem A62:Tryz.prog.underlying 387=some (.array 64 282):=by kernel_rfl
theorem S62:(Tryz.prog.info? 387).map (·.size)=some 64:=by kernel_rfl
theorem x6U (w:World):
  Calls Tryz.prog 326 #[] w fun e w'=>e= .returned (.agg (u32s Sm.first.list))/\Below w.heap.size w w':=by
 go_enter Tryz.func326,Tryz.ntmps326
 go_wp2
 exact x0n 0 (by kernel_rfl) w.heap.size _ _ A32 S32 rfl (jE w _) rfl ⟨rfl,jA _ _⟩
theorem rot2 (x:Nat) (w:World) (hx:x<4294967296):Calls Tryz.prog 336 #[.int .u32 x,.int .i64 (-2)] w fun e w'=>e= .returned (.int .u32 (Sm.rot 2 x))/\w=w':=x3Z 2 x _ w hx (by omega)
theorem rot6 (x:Nat) (w:World) (hx:x<4294967296):Calls Tryz.prog 336 #[.int .u32 x,.int .i64 (-6)] w fun e w'=>e= .returned (.int .u32 (Sm.rot 6 x))/\w=w':=x3Z 6 x _ w hx (by omega)
theorem rot11 (x:Nat) (w:World) (hx:x<4294967296):Calls Tryz.prog 336 #[.int .u32 x,.int .i64 (-11)] w fun e w'=>e= .returned (.int .u32 (Sm.rot 11 x))/\w=w':=x3Z 11 x _ w hx (by omega)
theorem rot13 (x:Nat) (w:World) (hx:x<4294967296):Calls Tryz.prog 336 #[.int .u32 x,.int .i64 (-13)] w fun e w'=>e= .returned (.int .u32 (Sm.rot 13 x))/\w=w':=x3Z 13 x _ w hx (by omega)
theorem rot22 (x:Nat) (w:World) (hx:x<4294967296):Calls Tryz.prog 336 #[.int .u32 x,.int .i64 (-22)] w fun e w'=>e= .returned (.int .u32 (Sm.rot 22 x))/\w=w':=x3Z 22 x _ w hx (by omega)
theorem rot25 (x:Nat) (w:World) (hx:x<4294967296):Calls Tryz.prog 336 #[.int .u32 x,.int .i64 (-25)] w fun e w'=>e= .returned (.int .u32 (Sm.rot 25 x))/\w=w':=x3Z 25 x _ w hx (by omega)
theorem rot7 (x:Nat) (w:World) (hx:x<4294967296):Calls Tryz.prog 336 #[.int .u32 x,.int .i64 (-7)] w fun e w'=>e= .returned (.int .u32 (Sm.rot 7 x))/\w=w':=x3Z 7 x _ w hx (by omega)
theorem rot18 (x:Nat) (w:World) (hx:x<4294967296):Calls Tryz.prog 336 #[.int .u32 x,.int .i64 (-18)] w fun e w'=>e= .returned (.int .u32 (Sm.rot 18 x))/\w=w':=x3Z 18 x _ w hx (by omega)
theorem rot17 (x:Nat) (w:World) (hx:x<4294967296):Calls Tryz.prog 336 #[.int .u32 x,.int .i64 (-17)] w fun e w'=>e= .returned (.int .u32 (Sm.rot 17 x))/\w=w':=x3Z 17 x _ w hx (by omega)
theorem rot19 (x:Nat) (w:World) (hx:x<4294967296):Calls Tryz.prog 336 #[.int .u32 x,.int .i64 (-19)] w fun e w'=>e= .returned (.int .u32 (Sm.rot 19 x))/\w=w':=x3Z 19 x _ w hx (by omega)
theorem x7i (l:List Nat) (i:Nat) (h:i<l.length):(u32s l)[i]? =some (.int .u32 (l.getD i 0:Nat)):=by
 simp [u32s,jG,jM h]
theorem x0O {w:World} {g:Nat} {l:List Nat} {t:TypeId} {fr:Nat×Nat} (hg:w.heap[g]? =some (.cells (u32s l) t fr)) (i:Nat) (h:i<l.length):w.cell? ⟨g,i,none⟩=some (.int .u32 (l.getD i 0:Nat)):=by
 rw [jH w g i _ t fr hg,x7i l i h]
theorem y5Y {a b:Int} (h:a=b):Value.int .u32 a=Value.int .u32 b:=by rw [h]
structure Facts (w WB:World) (gw gk:Nat) (W K:List Nat) (A:Array Value):Prop where
 below:Below w.heap.size w WB
 cw:∀i,i<64->WB.cell? ⟨gw,i,none⟩=some (.int .u32 (W.getD i 0:Nat))
 ck:∀i,i<64->WB.cell? ⟨gk,i,none⟩=some (.int .u32 (K.getD i 0:Nat))
 box:WB.heap[w.heap.size]? =some (.cells A 356 (0,0))
 res:∃C,WB.heap[w.heap.size+1]? =some (.cells C 356 (0,0))/\C.size=8
theorem Facts.mk' (w:World) (nq gw gk:Nat) (W K:List Nat) (A C:Array Value)
  (cw:∀i,i<64->w.cell? ⟨gw,i,none⟩=some (.int .u32 (W.getD i 0:Nat)))
  (ck:∀i,i<64->w.cell? ⟨gk,i,none⟩=some (.int .u32 (K.getD i 0:Nat)))
  (bw:gw<w.heap.size) (bk:gk<w.heap.size) (hC:C.size=8:=by rfl):
  Facts w (World.drewN ((w.alloc (.cells A 356)).alloc (.cells C 356)) nq) gw gk W K A:=by
 have B:Below w.heap.size w ((w.alloc (.cells A 356)).alloc (.cells C 356)):=(jA _ _).alloc (by simp) _;refine ⟨B.trans ⟨rfl,rfl,rfl,jB _,fun _ _=>rfl⟩,fun i hi=>?_,fun i hi=>?_,?_,C,?_,hC⟩
 ·exact (B.cell (p:=⟨gw,i,none⟩) bw).trans (cw i hi)
 ·exact (B.cell (p:=⟨gk,i,none⟩) bk).trans (ck i hi)
 ·exact heap_alloc2_old w _ _
 ·exact heap_alloc2_new w _ _
def y2j (K W:List Nat) (v:Sm.V8) (W0:World) (a b c d e f g h i:Value) (wr:World):Prop:=
 ∃k:Nat,k<=64/\i= .int .i64 k/\a= .int .u32 (Sm.rounds K W v k).a/\b= .int .u32 (Sm.rounds K W v k).b/\c= .int .u32 (Sm.rounds K W v k).c/\d= .int .u32 (Sm.rounds K W v k).d/\e= .int .u32 (Sm.rounds K W v k).e/\f= .int .u32 (Sm.rounds K W v k).f/\g= .int .u32 (Sm.rounds K W v k).g/\h= .int .u32 (Sm.rounds K W v k).h/\SameHeap W0 wr
theorem y0N (v:Sm.V8) (hv:v.ok) (W K:List Nat) (hW:Sm.allW W) (hK:Sm.allW K) (lW:W.length=64) (lK:K.length=64) (gw gk:Nat) (w:World)
  (hw:w.heap[gw]? =some (.cells (u32s W) 387 (0,0))) (hk:w.heap[gk]? =some (.cells (u32s K) 387 (0,0))):
  Calls Tryz.prog 335 #[.agg (u32s v.list),.pointer (some ⟨gw,0,none⟩),.pointer (some ⟨gk,0,none⟩)] w fun e w'=>e= .returned (.agg (u32s (Sm.turn K W v).list))/\Below w.heap.size w w':=by
 obtain ⟨a,b,c,d,e,f,g,h⟩:=v;have R:∀i,i<64->w.cell? ⟨gw,i,none⟩=some (.int .u32 (W.getD i 0:Nat)):=fun i hi=>x0O hw i (by omega);have U:∀i,i<64->w.cell? ⟨gk,i,none⟩=some (.int .u32 (K.getD i 0:Nat)):=fun i hi=>x0O hk i (by omega);have l:gw<w.heap.size:=(yL hw)
 have o:gk<w.heap.size:=(yL hk)
 have j:=yH R;have y:=yH U;have LW:=yH lW;have LK:=yH lK;have HW:=yH hW;have HK:=yH hK;have Z:=yH hv;clear R U lW lK hW hK hv hw hk;show Calls Tryz.prog 335 #[.agg #[.int .u32 a,.int .u32 b,.int .u32 c,.int .u32 d,.int .u32 e,.int .u32 f,.int .u32 g,.int .u32 h],.pointer (some ⟨gw,0,none⟩),.pointer (some ⟨gk,0,none⟩)] w _
 go_enter Tryz.func335,Tryz.ntmps335
 go_wp2_with fail
 go_quiet (fail)
 go_wp2_with fail
 generalize hWB:World.drewN ((w.alloc (.cells #[.int .u32 a,.int .u32 b,.int .u32 c,.int .u32 d,.int .u32 e,.int .u32 f,.int .u32 g,.int .u32 h] 356)).alloc (.cells #[.int .u32 0,.int .u32 0,.int .u32 0,.int .u32 0,.int .u32 0,.int .u32 0,.int .u32 0,.int .u32 0] 356)) nq=WB;have P:Facts w WB gw gk W K #[.int .u32 a,.int .u32 b,.int .u32 c,.int .u32 d,.int .u32 e,.int .u32 f,.int .u32 g,.int .u32 h]:=by
  subst hWB;exact Facts.mk' w nq gw gk W K _ _ j y l o
 have H:=yH P;clear P hWB;go_loopw [7,8,9,10,11,12,13,14,38] (fun a' b' c' d' e' f' g' h' i wr=>y2j K W ⟨a,b,c,d,e,f,g,h⟩ WB a' b' c' d' e' f' g' h' i wr) (fun _ _ _ _ _ _ _ _ i _=>64 - (intOf i).toNat)
 case atStart=>exact ⟨0,by omega,rfl,rfl,rfl,rfl,rfl,rfl,rfl,rfl,rfl,SameHeap.refl _⟩
 case round=>
  obtain ⟨k,hk,rfl,rfl,rfl,rfl,rfl,rfl,rfl,rfl,rfl,Q⟩:=hrel;have J:(Sm.rounds K W ⟨a,b,c,d,e,f,g,h⟩ k).ok:=Sm.rounds_ok Z.out k;have G:=yH Q;clear Q;by_cases hlt:k<64
  ·obtain ⟨u,E⟩:∃u,u=Sm.rounds K W ⟨a,b,c,d,e,f,g,h⟩ k:=⟨_,rfl⟩
   rw [<- E] at J ⊢;have B:=yH E;clear E;have X:=yH J;obtain ⟨N,hb,hc,hd,M,hf,hg,hh⟩:=J;have xw:=(G.cell ⟨gw,k,none⟩).trans (H.cw k hlt);have z:=(G.cell ⟨gk,k,none⟩).trans (H.ck k hlt);go_wp2_with (go_at_call 336;first | ((with_reducible refine (rot6 _ _ M).mono ?_);rintro _ _ ⟨rfl,rfl⟩) | ((with_reducible refine (rot11 _ _ M).mono ?_);rintro _ _ ⟨rfl,rfl⟩) | ((with_reducible refine (rot25 _ _ M).mono ?_);rintro _ _ ⟨rfl,rfl⟩))
   go_quiet (fail)
   go_wp2_with (go_at_call 336;first | ((with_reducible refine (rot2 _ _ N).mono ?_);rintro _ _ ⟨rfl,rfl⟩) | ((with_reducible refine (rot13 _ _ N).mono ?_);rintro _ _ ⟨rfl,rfl⟩) | ((with_reducible refine (rot22 _ _ N).mono ?_);rintro _ _ ⟨rfl,rfl⟩))
   go_roundw
   case rel=>
    show y2j _ _ _ _ _ _ _ _ _ _ _ _ _ _
    rw [<- jG,<- jG,Sm.t1_int X,Sm.t2_int X.out];refine ⟨k+1,by omega,by go_num,?_,?_,?_,?_,?_,?_,?_,?_,G.drewN _⟩
    ·rw [Sm.rounds,<- B.out];exact y5Y (by simp only [Sm.step];omega)
    ·rw [Sm.rounds,<- B.out];rfl
    ·rw [Sm.rounds,<- B.out];rfl
    ·rw [Sm.rounds,<- B.out];rfl
    ·rw [Sm.rounds,<- B.out];exact y5Y (by simp only [Sm.step];omega)
    ·rw [Sm.rounds,<- B.out];rfl
    ·rw [Sm.rounds,<- B.out];rfl
    ·rw [Sm.rounds,<- B.out];rfl
   case measure=>simp [intOf];omega
  ·obtain rfl:k=64:=by omega
   obtain ⟨u,E⟩:∃u,u=Sm.rounds K W ⟨a,b,c,d,e,f,g,h⟩ 64:=⟨_,rfl⟩
   rw [<- E] at J ⊢;have B:=yH E;clear E J;have A:wr.heap[w.heap.size]? =some (.cells (u32s [a,b,c,d,e,f,g,h]) 356 (0,0)):=by rw [G.heap];exact H.box
   obtain ⟨C,O,I⟩:=H.res;rw [<- G.heap] at O;have Y:=yH O;have L:=yH I;clear O I;have m:=x0O A 0 (by simp);have t:=x0O A 1 (by simp);have s:=x0O A 2 (by simp);have p:=x0O A 3 (by simp);have x:=x0O A 4 (by simp);have r:=x0O A 5 (by simp);have n:=x0O A 6 (by simp);have q:=x0O A 7 (by simp);clear A;simp only [List.getD_cons_zero,List.getD_cons_succ] at m t s p x r n q;go_wp2_with (refine jL (by rfl) 356 _ _ (by rfl) (w.heap.size+1) _ (by rfl) (by rfl) _ _ Y (by exact S32) (by exact L.out) (by simp [Value.oneCell']) ?_)
   refine x0n 6 (by kernel_rfl) (w.heap.size+1) _ _ A32 S32 rfl (jT _ _ _ _ _ _ Y) (by rfl) ?_;refine ⟨?_,?_⟩
   ·rw [Sm.turn,<- B.out];simp only [u32s,Sm.add8,Sm.V8.list,kB,kC,Int.natCast_emod,Int.natCast_add];rfl
   ·exact Below.setRow ((H.below).trans (G.below.mono H.below.size)) (by omega) _
end
end Go.Proofs.YtenenciaggbjnaaGreat
