/- PgLand, PgNew, PgLook, PgAdd, PgClone, PgGet, PgPre, ShaRot. -/
import Derived.Maps.OwnSet
import Derived.Carry
import Derived.Maps.AppendAt
import Derived.Lib.SliceRun
import Derived.Laws.OwnMore
import Derived.Test.YtinihaflmdihaaaGreatProg
import Derived.WalkKit
import Derived.WalkSpells
import Derived.WalkLawsBesides
import Derived.BigQuiet
import Derived.Deep.QuietTactic
import Derived.Lib.Hide
import Derived.Test.YtinihaflmdihaaaGreatK12
set_option maxRecDepth 100000
set_option maxHeartbeats 8000000
set_option linter.all false
namespace Go.Proofs.YtinihaflmdihaaaGreat.Pg
open Go.RowKit
structure TQ (Q:Nat→Prop) (w:World) (p:Option Addr) (m c:Nat) (b:List Nat):Prop where
 tx:Tx w p m c b
 own:∀x,p=some x→b≠[]→Q x.block
 le:b.length≤100000
theorem TQ.keep {Q:Nat→Prop} {w w':World} {p:Option Addr} {m c:Nat} {b:List Nat} (h:TQ Q w p m c b) (hk:∀k,Q k→w'.heap[k]? =w.heap[k]?):TQ Q w' p m c b:=
 ⟨Dk.tx_keep h.tx (fun x hx hb=>hk _ (h.own x hx hb)),h.own,h.le⟩
theorem TQ.wide {Q Q':Nat→Prop} {w:World} {p:Option Addr} {m c:Nat} {b:List Nat} (h:TQ Q w p m c b) (hq:∀k,Q k→Q' k):TQ Q' w p m c b:=⟨h.tx,fun x hx hb=>hq _ (h.own x hx hb),h.le⟩
structure MapAt (Q:Nat→Prop) (w:World) (b:Nat) (L:List Pe):Prop where
 mine:Q b
 map:∃D,w.ownsMap Tryz.prog 30 sliceR b L.length D∧Reads D L
 text:∀e∈L,TQ Q w e.q e.m e.c e.b
theorem map_keep {w w':World} {b n:Nat} {D:DataW Value} (h:w.ownsMap Tryz.prog 30 sliceR b n D) (hk:w'.heap[b]? =w.heap[b]?):w'.ownsMap Tryz.prog 30 sliceR b n D:=by
 obtain ⟨es,clock,hb,r⟩:=h
 exact ⟨es,clock,hk.trans hb,r⟩
theorem MapAt.keep {Q:Nat→Prop} {w w':World} {b:Nat} {L:List Pe} (h:MapAt Q w b L) (hk:∀k,Q k→w'.heap[k]? =w.heap[k]?):MapAt Q w' b L:=by
 obtain ⟨D,hm,hr⟩:=h.map
 exact ⟨h.mine,⟨D,map_keep hm (hk _ h.mine),hr⟩,fun e he=>(h.text e he).keep hk⟩
theorem MapAt.wide {Q Q':Nat→Prop} {w:World} {b:Nat} {L:List Pe} (h:MapAt Q w b L) (hq:∀k,Q k→Q' k):MapAt Q' w b L:=⟨hq _ h.mine,h.map,fun e he=>(h.text e he).wide hq⟩
structure PairAt (Q:Nat→Prop) (w:World) (c:Nat) (x y:List Nat):Prop where
 mine:Q c
 row:∃p m k q n l,w.heap[c]? =some (.cells #[.slice p m k,.slice q n l] 112 (0,0))∧TQ Q w p m k x∧TQ Q w q n l y
theorem PairAt.keep {Q:Nat→Prop} {w w':World} {c:Nat} {x y:List Nat} (h:PairAt Q w c x y) (hk:∀k,Q k→w'.heap[k]? =w.heap[k]?):PairAt Q w' c x y:=by
 obtain ⟨p,m,k,q,n,l,h1,h2,h3⟩:=h.row
 exact ⟨h.mine,p,m,k,q,n,l,(hk _ h.mine).trans h1,h2.keep hk,h3.keep hk⟩
theorem PairAt.wide {Q Q':Nat→Prop} {w:World} {c:Nat} {x y:List Nat} (h:PairAt Q w c x y) (hq:∀k,Q k→Q' k):PairAt Q' w c x y:=by
 obtain ⟨p,m,k,q,n,l,h1,h2,h3⟩:=h.row
 exact ⟨hq _ h.mine,p,m,k,q,n,l,h1,h2.wide hq,h3.wide hq⟩
def MapsAt (Q:Nat→Prop) (w:World) (mp:Option Nat) (W:Pages):Prop:=(mp=none∧W=[])∨∃b L,mp=some b∧pagesOf L=W∧MapAt Q w b L
def ClashAt (Q:Nat→Prop) (w:World) (cl:Option Addr) (x:Option (List Nat×List Nat)):Prop:=(cl=none∧x=none)∨∃c a b,cl=some ⟨c,0,none⟩∧x=some (a,b)∧PairAt Q w c a b
theorem MapsAt.keep {Q:Nat→Prop} {w w':World} {mp:Option Nat} {W:Pages} (h:MapsAt Q w mp W) (hk:∀k,Q k→w'.heap[k]? =w.heap[k]?):MapsAt Q w' mp W:=
 h.imp id fun ⟨b,L,h1,h2,h3⟩=>⟨b,L,h1,h2,h3.keep hk⟩
theorem MapsAt.wide {Q Q':Nat→Prop} {w:World} {mp:Option Nat} {W:Pages} (h:MapsAt Q w mp W) (hq:∀k,Q k→Q' k):MapsAt Q' w mp W:=
 h.imp id fun ⟨b,L,h1,h2,h3⟩=>⟨b,L,h1,h2,h3.wide hq⟩
theorem ClashAt.keep {Q:Nat→Prop} {w w':World} {cl:Option Addr} {x:Option (List Nat×List Nat)} (h:ClashAt Q w cl x) (hk:∀k,Q k→w'.heap[k]? =w.heap[k]?):ClashAt Q w' cl x:=
 h.imp id fun ⟨c,a,b,h1,h2,h3⟩=>⟨c,a,b,h1,h2,h3.keep hk⟩
theorem ClashAt.wide {Q Q':Nat→Prop} {w:World} {cl:Option Addr} {x:Option (List Nat×List Nat)} (h:ClashAt Q w cl x) (hq:∀k,Q k→Q' k):ClashAt Q' w cl x:=
 h.imp id fun ⟨c,a,b,h1,h2,h3⟩=>⟨c,a,b,h1,h2,h3.wide hq⟩
structure SAt (Q:Nat→Prop) (w:World) (g:Nat) (mp:Option Nat) (cl:Option Addr) (s:S):Prop where
 row:w.heap[g]? =some (.cells #[.map mp,.pointer cl] 89 (0,0))
 pages:MapsAt Q w mp s.W
 clash:ClashAt Q w cl s.cl
 mine:Q g
 lt:∀k,Q k→k<w.heap.size
 ok:s.ok
def PL (w:World) (g:Nat) (Q:Nat→Prop) (s:S):Prop:=∃mp cl,SAt Q w g mp cl s
section
variable {Q Q' X:Nat→Prop} {w w':World} {g:Nat} {mp:Option Nat} {cl:Option Addr} {s:S}
theorem SAt.c0 (h:SAt Q w g mp cl s):w.cell? ⟨g,0,none⟩=some (.map mp):=(cell_of_row w g 0 _ _ _ h.row).trans rfl
theorem SAt.c1 (h:SAt Q w g mp cl s):w.cell? ⟨g,1,none⟩=some (.pointer cl):=(cell_of_row w g 1 _ _ _ h.row).trans rfl
theorem SAt.keep (h:SAt Q w g mp cl s) (hs:w.heap.size≤w'.heap.size) (hk:∀k,Q k→w'.heap[k]? =w.heap[k]?):SAt Q w' g mp cl s:=
 ⟨(hk _ h.mine).trans h.row,h.pages.keep hk,h.clash.keep hk,h.mine,fun k hq=>Nat.lt_of_lt_of_le (h.lt k hq) hs,h.ok⟩
theorem SAt.later (h:SAt Q w g mp cl s) (hb:Below w.heap.size w w'):SAt Q w' g mp cl s:=h.keep hb.size (fun k hq=>hb.block k (h.lt k hq))
theorem SAt.only (h:SAt Q w g mp cl s) (ho:Dk.Only X w w') (hx:∀k,Q k→¬X k):SAt Q w' g mp cl s:=h.keep ho.size (fun k hq=>ho.block k (h.lt k hq) (hx k hq))
theorem PL.lt (h:PL w g Q s):∀k,Q k→k<w.heap.size:=by obtain ⟨_,_,h⟩:=h;exact h.lt
theorem PL.keep (X:Nat→Prop) (h:PL w g Q s) (ho:Dk.Only X w w') (hx:∀k,Q k→¬X k):PL w' g Q s:=by
 obtain ⟨mp,cl,h⟩:=h
 exact ⟨mp,cl,h.only ho hx⟩
theorem text_not_row {p:Option Addr} {m c:Nat} {b:List Nat} (h:Tx w p m c b) {x:Addr} (hx:p=some x) (hb:b≠[]) {k:Nat} {a1:Option Nat} {a2:Option Addr} {t:TypeId} {fr:Nat×Nat} (hk:w.heap[k]? =some (.cells #[.map a1,.pointer a2] t fr)):x.block≠k:=by
 rintro rfl
 obtain ⟨g,o,hp,hc⟩:=h.bytes.ne hb
 rw [hx] at hp
 cases hp
 have h1:=hc 0 (List.length_pos_iff.2 hb)
 rw [Nat.add_zero,cell_of_row w g o _ _ _ hk] at h1
 rcases o with _ | _ | o<;>simp at h1
theorem text_not_map {p:Option Addr} {m c:Nat} {b:List Nat} (h:Tx w p m c b) {x:Addr} (hx:p=some x) (hb:b≠[]) {k:Nat} {es:Array MapEntry} {cl:Nat} (hk:w.heap[k]? =some (.map es cl)):x.block≠k:=by
 rintro rfl
 obtain ⟨g,o,hp,hc⟩:=h.bytes.ne hb
 rw [hx] at hp
 cases hp
 have h1:=hc 0 (List.length_pos_iff.2 hb)
 simp [World.cell?,hk] at h1
theorem TQ.turn {k:Nat} {p:Option Addr} {m c:Nat} {b:List Nat} (h:TQ Q w p m c b) (ho:Dk.Only (fun j=>j=k) w w') (hne:∀x,p=some x→b≠[]→x.block≠k):TQ Q w' p m c b:=
 ⟨Dk.tx_keep h.tx (fun x hx hb=>ho.block _ (by
  obtain ⟨g',o',hp,hc⟩:=h.tx.bytes.ne hb
  rw [hx] at hp
  cases hp
  exact block_lt_of_cell (hc 0 (List.length_pos_iff.2 hb))) (hne x hx hb)),h.own,h.le⟩
theorem PairAt.turn_map {k c:Nat} {x y:List Nat} {es:Array MapEntry} {ck:Nat} (h:PairAt Q w c x y) (hk:w.heap[k]? =some (.map es ck)) (ho:Dk.Only (fun j=>j=k) w w'):PairAt Q w' c x y:=by
 obtain ⟨p,m,l,q,n,d,h1,h2,h3⟩:=h.row
 have hc:c<w.heap.size:=(yL h1)
 refine ⟨h.mine,p,m,l,q,n,d,(ho.block c hc (fun e=>?_)).trans h1,h2.turn ho (fun z hz hb=>text_not_map h2.tx hz hb hk),h3.turn ho (fun z hz hb=>text_not_map h3.tx hz hb hk)⟩
 rw [e,hk] at h1
 cases h1
theorem PairAt.turn_row {k c:Nat} {x y:List Nat} {a1:Option Nat} {a2:Option Addr} {t:TypeId} {fr:Nat×Nat} (h:PairAt Q w c x y) (hk:w.heap[k]? =some (.cells #[.map a1,.pointer a2] t fr)) (ho:Dk.Only (fun j=>j=k) w w'):PairAt Q w' c x y:=by
 obtain ⟨p,m,l,q,n,d,h1,h2,h3⟩:=h.row
 have hc:c<w.heap.size:=(yL h1)
 refine ⟨h.mine,p,m,l,q,n,d,(ho.block c hc (fun e=>?_)).trans h1,h2.turn ho (fun z hz hb=>text_not_row h2.tx hz hb hk),h3.turn ho (fun z hz hb=>text_not_row h3.tx hz hb hk)⟩
 rw [e,hk] at h1
 simp at h1
theorem ClashAt.turn_map {k:Nat} {es:Array MapEntry} {ck:Nat} {cx:Option (List Nat×List Nat)} (h:ClashAt Q w cl cx) (hk:w.heap[k]? =some (.map es ck)) (ho:Dk.Only (fun j=>j=k) w w'):ClashAt Q w' cl cx:=
 h.imp id fun ⟨c,a,b,h1,h2,h3⟩=>⟨c,a,b,h1,h2,h3.turn_map hk ho⟩
theorem ClashAt.turn_row {k:Nat} {a1:Option Nat} {a2:Option Addr} {t:TypeId} {fr:Nat×Nat} {cx:Option (List Nat×List Nat)} (h:ClashAt Q w cl cx) (hk:w.heap[k]? =some (.cells #[.map a1,.pointer a2] t fr)) (ho:Dk.Only (fun j=>j=k) w w'):ClashAt Q w' cl cx:=
 h.imp id fun ⟨c,a,b,h1,h2,h3⟩=>⟨c,a,b,h1,h2,h3.turn_row hk ho⟩
theorem MapAt.turn_row {k b:Nat} {L:List Pe} {a1:Option Nat} {a2:Option Addr} {t:TypeId} {fr:Nat×Nat} (h:MapAt Q w b L) (hk:w.heap[k]? =some (.cells #[.map a1,.pointer a2] t fr)) (ho:Dk.Only (fun j=>j=k) w w'):MapAt Q w' b L:=by
 obtain ⟨D,hm,hr⟩:=h.map
 refine ⟨h.mine,⟨D,map_keep hm (ho.block b hm.lt (fun e=>?_)),hr⟩,fun e he=>(h.text e he).turn ho (fun z hz hb=>text_not_row (h.text e he).tx hz hb hk)⟩
 obtain ⟨es,ck,h1,_⟩:=hm
 rw [e,hk] at h1
 cases h1
theorem MapsAt.turn_row {k:Nat} {a1:Option Nat} {a2:Option Addr} {t:TypeId} {fr:Nat×Nat} {W:Pages} (h:MapsAt Q w mp W) (hk:w.heap[k]? =some (.cells #[.map a1,.pointer a2] t fr)) (ho:Dk.Only (fun j=>j=k) w w'):MapsAt Q w' mp W:=
 h.imp id fun ⟨b,L,h1,h2,h3⟩=>⟨b,L,h1,h2,h3.turn_row hk ho⟩
end
theorem UST:Tryz.prog.underlying 86=some (.map 30 45):=by kernel_rfl
theorem SAt.made (w:World):SAt (fun k=>k=w.heap.size) (w.alloc (.cells #[.map none,.pointer none] 89)) w.heap.size none none ⟨[],none⟩:=
 ⟨heap_alloc_new w _,Or.inl ⟨rfl,rfl⟩,Or.inl ⟨rfl,rfl⟩,rfl,(fun k hk=>by subst hk;simp),S.new_ok⟩
theorem new_any (w:World):Calls Tryz.prog 13 #[] w fun e w'=>∃g Q,e= .returned (.pointer (some ⟨g,0,none⟩))∧PL w' g Q ⟨[],none⟩∧(∀k,Q k→w.heap.size≤k)∧Below w.heap.size w w':=by
 have hm:=SAt.made w
 have hb:=(Below.refl w.heap.size w).alloc (Nat.le_refl _) (.cells #[.map none,.pointer none] 89)
 go_enter Tryz.func13,Tryz.ntmps13
 go_wp2_with fail
 go_ret
 exact ⟨_,_,rfl,⟨_,_,hm⟩,(fun k hk=>by omega),hb⟩
theorem zeroTx (w:World):(zeroValue 45).run Tryz.prog w= .ok (.slice none 0 0) w:=by kernel_rfl
theorem look_any {Q:Nat→Prop} {w:World} {mp:Option Nat} {W:Pages} (h:MapsAt Q w mp W) {d:List Nat} (hd:d.length=32) (ho:Sm.allB d):
  ∃p m c,(∀w',w'.heap=w.heap→(Instr.lookup 86 (.map mp) (.agg (u8s d)) true).run Tryz.prog w'= .ok (.tuple #[.slice p m c,.bool (decide (idx d W<W.length))]) w')∧
   (textAt W d=none→p=none∧m=0∧c=0)∧∀t,textAt W d=some t→TQ Q w p m c t:=by
 rcases h with ⟨rfl,rfl⟩ | ⟨b,L,rfl,rfl,hM⟩
 ·refine ⟨none,0,0,fun w' _=>?_,fun _=>⟨rfl,rfl,rfl⟩,fun t ht=>by simp [textAt] at ht⟩
  have:=Go.Maps.look_nil (w:=w') true keyD UST (zeroTx w') (klit_of hd ho)
  simpa using this
 ·obtain ⟨D,hm,hr⟩:=hM.map
  have hh:=hr.has hd ho
  by_cases hi:idx d (pagesOf L)<(pagesOf L).length
  ·obtain ⟨e,he,hed,ha,ht⟩:=hr.got hi
   refine ⟨e.q,e.m,e.c,fun w' hw=>?_,fun h0=>(by rw [ht] at h0;cases h0),fun t h0=>?_⟩
   ·obtain ⟨v,ps,hrun,hv⟩:=(map_keep (w':=w') hm (by rw [hw])).look_ok keyD UST (zeroTx w') (zd:=.held (.slice none 0 0)) rfl (klit_of hd ho)
    rw [ha] at hv
    obtain ⟨p,m,c,rfl,hz⟩:=sliceR_inv hv
    have h1:DataW.held e.hd=DataW.held (.slice p m c):=congrArg Prod.fst hz
    have h2:e.hd= .slice p m c:=DataW.held.inj h1
    rw [hrun,hh,← h2]
    rfl
   ·rw [ht] at h0
    cases h0
    exact hM.text e he
  ·refine ⟨none,0,0,fun w' hw=>?_,fun _=>⟨rfl,rfl,rfl⟩,fun t h0=>(by rw [textAt_none hi] at h0;cases h0)⟩
   obtain ⟨v,ps,hrun,hv⟩:=(map_keep (w':=w') hm (by rw [hw])).look_ok keyD UST (zeroTx w') (zd:=.held (.slice none 0 0)) rfl (klit_of hd ho)
   rw [Go.Maps.atKey_of_not_has (by rw [hh];exact decide_eq_false hi)] at hv
   obtain ⟨p,m,c,rfl,hz⟩:=sliceR_inv hv
   have h1:DataW.held (Value.slice none 0 0)=DataW.held (.slice p m c):=congrArg Prod.fst hz
   have h2:Value.slice none 0 0= .slice p m c:=DataW.held.inj h1
   rw [hrun,hh,← h2]
theorem op_look {ρ:Operand→Value} {o:Oper} {m x:Operand} {w:World} {mp:Option Nat} {d:List Nat} {u:Value} (ho:o.op= .lookup 86 m x true) (hm:ρ m= .map mp) (hx:ρ x= .agg (u8s d))
  (hr:(Instr.lookup 86 (.map mp) (.agg (u8s d)) true).run Tryz.prog w= .ok u w):(execOp ρ o).run Tryz.prog w= .ok (.value u) w:=by
 unfold execOp
 simp only [ho,hm,hx,hr,Sem.run_bind,Sem.run_pure,Result.andThen_ok]
theorem only_turned {w w':World} {b:Nat} (h:w.mapTurned w' b):Dk.Only (fun j=>j=b) w w':=by
 have hg:=h.grown
 exact ⟨hg.os,hg.tape,hg.output,hg.size,fun k hk hn=>hg.block k hk (fun e=>hn (Option.some.inj e))⟩
theorem wp_mapStore {w:World} {o:Oper} {a:Act} {K:Act→World→Prop} {Q:Exit→Act→World→Prop} (m x v:Operand) (ho:o.op= .mapUpdate 86 m x v) {b n:Nat} {D:DataW Value} (hm:a.eval m= .map (some b))
  (hown:w.ownsMap Tryz.prog 30 sliceR b n D) (hn:n<maxLen) {d:List Nat} {p:Option Addr} {l c:Nat} (hx:a.eval x= .agg (u8s d)) (hv:a.eval v= .slice p l c) (hd:d.length=32) (hdo:Sm.allB d)
  (h:∀w',w'.ownsMap Tryz.prog 30 sliceR b (n+1) (D.put (klit d) (.held (.slice p l c)))→w.mapTurned w' b→K (a.put o.dst undef) w'):o.wp Tryz.prog a w K Q:=by
 obtain ⟨w',hrun,r1,r2⟩:=hown.store keyD UST hn (klit_of hd hdo) (val:=.slice p l c) rfl
 unfold Oper.wp
 simp [execOp,ho,hm,hx,hv,hrun,Result.andThen]
 exact h w' r1 r2
theorem run_eql_map_nil (mp:Option Nat) (w:World):(binOp .eql 86 (.map mp) (.map none)).run Tryz.prog w= .ok (.bool mp.isNone) w:=by
 cases mp<;>kernel_rfl
section
variable {Q QX:Nat→Prop} {w w':World} {g b:Nat} {cl:Option Addr} {s:S} {L:List Pe} {D:DataW Value} {e:Pe}
theorem SAt.stored (h:SAt Q w g (some b) cl s) (hM:MapAt Q w b L) (hW:pagesOf L=s.W) (hr:Reads D L) (hown:w.ownsMap Tryz.prog 30 sliceR b L.length D)
  (hown':w'.ownsMap Tryz.prog 30 sliceR b (L.length+1) (D.put (klit e.d) (.held e.hd))) (ho:Dk.Only (fun j=>j=b) w w') (hd:e.d.length=32) (hdo:Sm.allB e.d) (hn:e.d∉L.map (·.d))
  (ht:TQ QX w e.q e.m e.c e.b) (hlt:∀k,QX k→k<w.heap.size) (hok:S.ok ⟨s.W++[(e.d,e.b)],s.cl⟩):SAt (fun k=>Q k∨QX k) w' g (some b) cl ⟨s.W++[(e.d,e.b)],s.cl⟩:=by
 obtain ⟨es,ck,hb,-⟩:=hown
 have hg:g<w.heap.size:=h.lt g h.mine
 refine ⟨(ho.block g hg (fun e=>?_)).trans h.row,Or.inr ⟨b,L++[e],rfl,by rw [← hW];simp [pagesOf],⟨Or.inl hM.mine,⟨_,?_,hr.put hd hdo hn⟩,fun x hx=>?_⟩⟩,(h.clash.turn_map hb ho).wide (fun _ k=>Or.inl k),Or.inl h.mine,fun k hk=>?_,hok⟩
 ·have:=h.row
  rw [e,hb] at this
  cases this
 ·rw [List.length_append]
  exact hown'
 ·rcases List.mem_append.1 hx with hx | hx
  ·exact ((hM.text x hx).turn ho (fun z hz hz'=>text_not_map (hM.text x hx).tx hz hz' hb)).wide (fun _ k=>Or.inl k)
  ·rw [List.mem_singleton.1 hx]
   exact (ht.turn ho (fun z hz hz'=>text_not_map ht.tx hz hz' hb)).wide (fun _ k=>Or.inr k)
 ·exact Nat.lt_of_lt_of_le (hk.elim (h.lt k) (hlt k)) ho.size
theorem SAt.f0 {mp:Option Nat} (h:SAt Q w g mp cl s):w.frozen? ⟨g,0,none⟩=false:=frozen_of_row w g 0 _ _ h.row
theorem SAt.mapped (h:SAt Q w g none cl s):s.W=[]∧SAt (fun k=>Q k∨k=w.heap.size) ((w.alloc (.map #[] 0)).setCell ⟨g,0,none⟩ (.map (some w.heap.size))) g (some w.heap.size) cl s∧
  MapAt (fun k=>Q k∨k=w.heap.size) ((w.alloc (.map #[] 0)).setCell ⟨g,0,none⟩ (.map (some w.heap.size))) w.heap.size []∧
  ((w.alloc (.map #[] 0)).setCell ⟨g,0,none⟩ (.map (some w.heap.size))).ownsMap Tryz.prog 30 sliceR w.heap.size 0 (.map [])∧
  Dk.Only (fun j=>j=g) w ((w.alloc (.map #[] 0)).setCell ⟨g,0,none⟩ (.map (some w.heap.size))):=by
 have hg:g<w.heap.size:=h.lt g h.mine
 have hW:s.W=[]:=by
  rcases h.pages with ⟨_,h1⟩ | ⟨b,L,h1,_⟩
  ·exact h1
  ·cases h1
 have hb:=(Below.refl w.heap.size w).alloc (Nat.le_refl _) (.map #[] 0)
 have h1:=h.later hb
 have hset:=Dk.Only.setCell (P:=fun j=>j=g) (w.alloc (.map #[] 0)) (a:=⟨g,0,none⟩) rfl (.map (some w.heap.size))
 have hsz:=hset.size
 rw [World.size_alloc] at hsz
 have hrow:=heap_setCell_same (w.alloc (.map #[] 0)) g 0 _ _ (.map (some w.heap.size)) h1.row
 have hown:=map_keep (World.ownsMap_made w Tryz.prog 30 sliceR) (hset.block w.heap.size (by simp) (by omega))
 have hM:MapAt (fun k=>Q k∨k=w.heap.size) ((w.alloc (.map #[] 0)).setCell ⟨g,0,none⟩ (.map (some w.heap.size))) w.heap.size []:=⟨Or.inr rfl,⟨_,hown,Reads.nil⟩,fun e he=>by cases he⟩
 refine ⟨hW,⟨hrow,Or.inr ⟨_,_,rfl,by rw [hW];rfl,hM⟩,?_,Or.inl h.mine,?_,h.ok⟩,hM,hown,(Dk.Only.of_below _ hb).trans hset⟩
 ·exact (h1.clash.turn_row h1.row hset).wide (fun _ k=>Or.inl k)
 ·intro k hk
  rcases hk with hk | rfl
  ·have:=h.lt k hk;omega
  ·omega
end
theorem only_old {P Q:Nat→Prop} {w w':World} (h:Dk.Only P w w') (hp:∀k,P k→Q k∨w.heap.size≤k):Dk.Only Q w w':=
 ⟨h.os,h.tape,h.output,h.size,fun k hk hn=>h.block k hk (fun e=>(hp k e).elim hn (fun h2=>absurd hk (Nat.not_lt.2 h2)))⟩
def Mst (g:Nat) (w w':World):Prop:=∀b,w.cell? ⟨g,0,none⟩=some (.map (some b))→w'.cell? ⟨g,0,none⟩=some (.map (some b))
theorem Mst.keep {g:Nat} {a b w c:World} (h:Mst g a b) (h1:a.heap[g]? =w.heap[g]?) (h2:c.heap[g]? =b.heap[g]?):Mst g w c:=fun x hx=>(World.cell?_of_block (w:=b) (a:=⟨g,0,none⟩) h2).trans (h x ((World.cell?_of_block (w:=w) (a:=⟨g,0,none⟩) h1).trans hx))
def AddPost (Q QX:Nat→Prop) (w:World) (g:Nat) (mp:Option Nat) (cl:Option Addr) (s:S) (d b:List Nat) (w':World):Prop:=
 (∃mp',SAt (fun k=>Q k∨QX k∨w.heap.size≤k∧k<w'.heap.size) w' g mp' cl ⟨s.W++[(d,b)],s.cl⟩∧∀b,mp=some b→mp'=some b)∧Dk.Only Q w w'
theorem SAt.wide {Q Q':Nat→Prop} {w:World} {g:Nat} {mp:Option Nat} {cl:Option Addr} {s:S} (h:SAt Q w g mp cl s) (hq:∀k,Q k→Q' k) (hl:∀k,Q' k→k<w.heap.size):SAt Q' w g mp cl s:=
 ⟨h.row,h.pages.wide hq,h.clash.wide hq,hq _ h.mine,hl,h.ok⟩
theorem add_any {Q QX:Nat→Prop} {w:World} {g:Nat} {mp:Option Nat} {cl:Option Addr} {s:S} (h:SAt Q w g mp cl s) {d b:List Nat} (hd:d.length=32) (hdo:Sm.allB d) (hn:¬idx d s.W<s.W.length) {q:Option Addr} {m c:Nat} (ht:TQ QX w q m c b)
  (hlt:∀k,QX k→k<w.heap.size) (hok:S.ok ⟨s.W++[(d,b)],s.cl⟩) (hsm:s.W.length<100000):
  Calls Tryz.prog 249 #[.pointer (some ⟨g,0,none⟩),.agg (u8s d),.slice q m c] w fun e w'=>e= .returned (.tuple #[])∧AddPost Q QX w g mp cl s d b w':=by
 have hb0:=(Below.refl w.heap.size w).alloc (Nat.le_refl _) (.cells (u8s d) 30)
 have h1:=h.later hb0
 have HB:=yH hb0
 have R1:=yH (heap_alloc_new w (.cells (u8s d) 30))
 have HD:=yH hd
 have HT:=yH (TQ.keep (w':=w.alloc (.cells (u8s d) 30)) ht (fun k hk=>hb0.block k (hlt k hk)))
 have HGB:=yH (show g<w.heap.size from h.lt g h.mine)
 have HLT:=yH hlt
 have HQL:=yH h.lt
 have HOK:=yH hok
 have HQG:=yH h.mine
 clear hb0 hd ht hlt hok
 cases mp with
 | some bm=>
  obtain ⟨L,hW,hM⟩:∃L,pagesOf L=s.W∧MapAt Q (w.alloc (.cells (u8s d) 30)) bm L:=by
   rcases h1.pages with ⟨h2,_⟩ | ⟨b',L,h2,h3,h4⟩
   ·cases h2
   ·cases h2;exact ⟨L,h3,h4⟩
  obtain ⟨D,hown,hr⟩:=hM.map
  have hln:L.length<100000:=by rw [← hW,pagesOf_length] at hsm;exact hsm
  have HN:=yH (show d∉L.map (·.d) from fun hm=>hn (by rw [idx_mem,← hW,pagesOf_fst];exact hm))
  have C0:=yH h1.c0
  have c0:=h1.c0
  have H1:=yH h1
  have HM:=yH hM
  have HW:=yH hW
  have HR:=yH hr
  have HO:=yH hown
  clear h h1 hM hW hr hown hn
  have qn:=fun w'=>run_eql_map_nil (some bm) w'
  simp only [Option.isNone_some] at qn
  go_enter Tryz.func249,Tryz.ntmps249
  go_wp2_with fail
  generalize w.alloc (.cells (u8s d) 30)=w1 at *
  generalize hbk:w.heap.size=bk at *
  go_upto_region 3 with fail
  refine wp_region_held_drew (S:=fun w'=>w'.cell? ⟨g,0,none⟩=some (.map (some bm))∧w'.heap[bk]? =some (.cells (u8s d) 30 (0,0))) (by kernel_rfl) ⟨C0.out,R1.out⟩ (fun hHeld=>?_)
  refine tK 0 ?_
  refine tK 1 ?_
  refine tK 2 ?_
  refine tQ 3 ?_ ?_ ?_
  rotate_left
  ·intro w' hSw
   have c0:=hSw.1
   go_simp
   try with_reducible rfl
  refine tQ 4 ?_ ?_ ?_
  rotate_left
  ·intro w' hSw
   refine Eq.trans (b:=Result.ok (Next.value (.agg (u8s d))) w') ?_ ?_
   ·exact op_load_dig (by rfl) (by rfl) HD.out (range_of_row' hSw.2)
   ·with_reducible rfl
  refine tK 5 ?_
  refine rY [6] ?_
  refine rC (fun K hK=>?_) AllReadyH.nil
  refine wp_mapStore (.tmp 18) (.tmp 19) (.tmp 20) (by rfl) (by rfl) HO.out (by unfold maxLen;omega) (by rfl) (by rfl) HD.out hdo (fun w3 hown3 hturn3=>?_)
  have hot:=only_turned hturn3
  have O3:=yH (show Dk.Only (fun j=>j=bm) w1 w3 from ⟨hot.os,hot.tape,hot.output,hot.size,hot.block⟩)
  clear hot
  have HO3:=yH hown3
  obtain ⟨es0,ck0,hb0,-⟩:=HO.out
  have S3:w3.cell? ⟨g,0,none⟩=some (.map (some bm))∧w3.heap[bk]? =some (.cells (u8s d) 30 (0,0)):=by
   have hgr:=H1.out.row
   have e1:g≠bm:=fun e=>by rw [e,hb0] at hgr;cases hgr
   have e2:bk≠bm:=fun e=>by have h:=R1.out;rw [e,hb0] at h;cases h
   exact ⟨(World.cell?_of_block (w:=w1) (a:=⟨g,0,none⟩) (O3.out.block g (yL hgr) e1)).trans C0.out,(O3.out.block bk (yL R1.out) e2).trans R1.out⟩
  clear hown3 hturn3 hb0
  refine hK.out _ _ S3 (fun hHeld=>?_)
  clear hK K
  try simp only [Act.put]
  refine wpAnyH_done (by kernel_rfl) ?_ _
  go_wp2_with fail
  go_end0
  have SS:=H1.out.stored (e:=⟨d,q,m,c,b⟩) HM.out HW.out HR.out HO.out HO3.out O3.out HD.out hdo HN.out HT.out (fun k hk=>Nat.lt_of_lt_of_le (HLT.out k hk) (hbk▸HB.out.size)) HOK.out
  have hz3:=O3.out.size
  exact ⟨rfl,⟨_,SS.wide (fun k hk=>hk.elim Or.inl (fun e=>Or.inr (Or.inl e))) (fun k hk=>by
   have h0:=HB.out.size
   rcases hk with hk | hk | hk
   ·have:=HQL.out k hk;omega
   ·have:=HLT.out k hk;omega
   ·exact hk.2),fun b e=>e⟩,((Dk.Only.of_below _ (by rw [hbk];exact HB.out)).trans (O3.out.mono (fun k e=>by rw [e];exact HM.out.mine)))⟩
 | none=>
  have hbg:(w.alloc (.cells (u8s d) 30)).heap.size=w.heap.size+1:=by simp
  obtain ⟨hW,h2,hM,hown,ho2⟩:=h1.mapped
  have hN:d∉([]:List Pe).map (·.d):=by simp
  have c0:=h1.c0
  have cA:=(h1.later ((Below.refl _ _).alloc (Nat.le_refl _) (.map #[] 0))).c0
  have fA:=(h1.later ((Below.refl _ _).alloc (Nat.le_refl _) (.map #[] 0))).f0
  have C0:=yH h2.c0
  have H1:=yH h2
  have HM:=yH hM
  have HW:=yH (show pagesOf []=s.W from by rw [hW];rfl)
  have HR:=yH Reads.nil
  have HO:=yH hown
  have HN:=yH hN
  have R2:=yH ((ho2.block w.heap.size (by rw [hbg];omega) (by have:=HGB.out;omega)).trans R1.out)
  have HT2:=yH (HT.out.turn ho2 (fun z hz hz'=>text_not_row HT.out.tx hz hz' h1.row))
  have HZ2:=yH (show w.heap.size+1≤_ from by rw [← hbg];exact ho2.size)
  have HOW:=yH ((Dk.Only.of_below _ HB.out).trans ho2)
  have hmm:= @run_makeMap Tryz.prog
  have qn:=fun w'=>run_eql_map_nil none w'
  simp only [Option.isNone_none] at qn
  clear h h1 h2 hM hown hn hW hN ho2 R1 HT
  go_enter Tryz.func249,Tryz.ntmps249
  go_upto_region 3 with fail
  rw [hbg] at C0 H1 HM HO R2 HT2 HZ2 HOW
  have R1:=R2
  clear R2 hmm cA fA c0
  generalize ((w.alloc (.cells (u8s d) 30)).alloc (.map #[] 0)).setCell ⟨g,0,none⟩ (.map (some (w.heap.size+1)))=w2 at *
  generalize hbk:w.heap.size=bk at *
  refine wp_region_held_drew (S:=fun w'=>w'.cell? ⟨g,0,none⟩=some (.map (some (bk+1)))∧w'.heap[bk]? =some (.cells (u8s d) 30 (0,0))) (by kernel_rfl) ⟨C0.out,R1.out⟩ (fun hHeld=>?_)
  refine tK 0 ?_
  refine tK 1 ?_
  refine tK 2 ?_
  refine tQ 3 ?_ ?_ ?_
  rotate_left
  ·intro w' hSw
   have c0:=hSw.1
   go_simp
   try with_reducible rfl
  refine tQ 4 ?_ ?_ ?_
  rotate_left
  ·intro w' hSw
   refine Eq.trans (b:=Result.ok (Next.value (.agg (u8s d))) w') ?_ ?_
   ·exact op_load_dig (by rfl) (by rfl) HD.out (range_of_row' hSw.2)
   ·with_reducible rfl
  refine tK 5 ?_
  refine rY [6] ?_
  refine rC (fun K hK=>?_) AllReadyH.nil
  refine wp_mapStore (.tmp 18) (.tmp 19) (.tmp 20) (by rfl) (by rfl) HO.out (by unfold maxLen;omega) (by rfl) (by rfl) HD.out hdo (fun w3 hown3 hturn3=>?_)
  have hot:=only_turned hturn3
  have O3:=yH (show Dk.Only (fun j=>j=(bk+1)) w2 w3 from ⟨hot.os,hot.tape,hot.output,hot.size,hot.block⟩)
  clear hot
  have HO3:=yH hown3
  obtain ⟨es0,ck0,hb0,-⟩:=HO.out
  have S3:w3.cell? ⟨g,0,none⟩=some (.map (some (bk+1)))∧w3.heap[bk]? =some (.cells (u8s d) 30 (0,0)):=by
   have hgr:=H1.out.row
   have e1:g≠(bk+1):=fun e=>by rw [e,hb0] at hgr;cases hgr
   have e2:bk≠(bk+1):=fun e=>by have h:=R1.out;rw [e,hb0] at h;cases h
   exact ⟨(World.cell?_of_block (w:=w2) (a:=⟨g,0,none⟩) (O3.out.block g (yL hgr) e1)).trans C0.out,(O3.out.block bk (yL R1.out) e2).trans R1.out⟩
  clear hown3 hturn3 hb0
  refine hK.out _ _ S3 (fun hHeld=>?_)
  clear hK K
  try simp only [Act.put]
  refine wpAnyH_done (by kernel_rfl) ?_ _
  go_wp2_with fail
  go_end0
  have SS:=H1.out.stored (e:=⟨d,q,m,c,b⟩) HM.out HW.out HR.out HO.out HO3.out O3.out HD.out hdo HN.out HT2.out (fun k hk=>Nat.lt_of_lt_of_le (HLT.out k hk) (Nat.le_of_succ_le HZ2.out)) HOK.out
  have hz3:=O3.out.size
  have hz2:=H1.out.lt (bk+1) (Or.inr rfl)
  exact ⟨rfl,⟨_,SS.wide (fun k hk=>by
   rcases hk with (hk | hk) | hk
   ·exact Or.inl hk
   ·exact Or.inr (Or.inr ⟨by omega,by omega⟩)
   ·exact Or.inr (Or.inl hk)) (fun k hk=>by
   rcases hk with hk | hk | hk
   ·have:=HQL.out k hk;omega
   ·have:=HLT.out k hk;omega
   ·exact hk.2),fun b e=>(by cases e)⟩,only_old ((HOW.out.mono (Q:=fun k=>Q k∨k=bk+1) (fun k e=>Or.inl (by rw [e];exact HQG.out))).trans (O3.out.mono (fun k e=>Or.inr e))) (fun k e=>e.imp id (fun e=>by omega))⟩
theorem bclone_any {w:World} {p:Option Addr} {n c:Nat} {B:List Nat} (h:Tx w p n c B) (hn:n≤100000):
  Calls Tryz.prog 67 #[.slice p n c] w fun e w'=>∃q d,e= .returned (.slice q n d)∧w'.ownsRow w.heap.size 5 1 (.slice q n d) n (vals B)∧Below w.heap.size w w':=by
 cases p with
 | none=>
  have hc:c=0:=by
   rcases h.at' with ⟨_,h0⟩ | ⟨y,hy,_⟩
   ·exact h0
   ·cases hy
  have hm0:n=0:=by have:=h.le;omega
  have hb:B=[]:=List.eq_nil_of_length_eq_zero (by have:=h.size;omega)
  subst hc hm0 hb
  have qn:∀w',(binOp .eql 45 (.slice none 0 0) (.slice none 0 0)).run Tryz.prog w'= .ok (.bool true) w':=fun w'=>Go.Lib.run_eql_slice_nil w' _ _ _ _ _ _ _ A22
  clear h
  go_enter Tryz.func67,Tryz.ntmps67
  go_wp2_with fail
  go_ret
  exact ⟨none,0,rfl,World.ownsRow_nil _ _ _ _,Below.refl _ _⟩
 | some ad=>
  have qn:∀w',(binOp .eql 45 (.slice (some ad) n c) (.slice none 0 0)).run Tryz.prog w'= .ok (.bool false) w':=fun w'=>Go.Lib.run_eql_slice_nil w' _ _ _ _ _ _ _ A22
  obtain ⟨i5,hi,hi0,hi1,hi2⟩:=info_parts I5
  have HI:=yH hi
  have HI0:=yH hi0
  have HI1:=yH hi1
  have HI2:=yH hi2
  clear hi hi0 hi1 hi2
  have hba:=(Below.refl w.heap.size w).alloc (Nat.le_refl _) (.cells #[] 5)
  have B15:=yH hba
  have O15:=yH (show (w.alloc (.cells #[] 5)).ownsRow w.heap.size 5 1 (.slice (some ⟨w.heap.size,0,none⟩) 0 0) 0 [] from owns_mk (L:=[]) (cap:=0) (n:=0) (heap_alloc_new w (.cells (u8s []) 5)) rfl (Nat.le_refl _) (Nat.zero_le _) (Nat.le_refl _))
  have HNW:=yH ((h.later hba).cells)
  have HL:=yH (show (vals B).length=n*1 from by rw [vals_length,← h.size,Nat.mul_one])
  clear hba h
  go_enter Tryz.func67,Tryz.ntmps67
  go_wp2_with ((at_builtin;(refine wpList_append_own_at _ (by rfl) (.tmp 5) (.tmp 6) 45 (by rfl) w.heap.size 5 i5 (.int .u8 0) 1 1 A22 HI.out HI0.out HI1.out HI2.out (by rfl) (by decide) _ 0 [] (by rfl) O15.out ad n c (vals B) (by rfl) HL.out HNW.out (vals_one _) (by unfold maxLen;omega) (by omega) B15.out.size ?_);intro v7 w7 hown7 hgrow7 _ _;have O7:=yH hown7;have G7:=yH hgrow7;clear hown7 hgrow7))
  have hb7:Below w.heap.size w w7:=B15.out.grown G7.out B15.out.size (fun k hk=>(O15.out.lt k hk).1)
  have ho:=O7.out
  rw [Nat.zero_add,List.nil_append] at ho
  obtain ⟨q7,c7,rfl⟩:∃q7 c7,v7= .slice q7 n c7:=by
   rcases ho.2 with ⟨h1,h2⟩ | ⟨gb,cap,cur,h1,_⟩
   ·exact ⟨none,0,by rw [h1,h2]⟩
   ·exact ⟨_,_,h1⟩
  go_ret
  exact ⟨q7,c7,rfl,ho,hb7⟩
theorem textAt_lt {W:Pages} {d t:List Nat} (h:textAt W d=some t):idx d W<W.length:=by
 unfold textAt at h
 split at h
 ·assumption
 ·cases h
theorem textAt_ge {W:Pages} {d:List Nat} (h:textAt W d=none):¬idx d W<W.length:=by
 unfold textAt at h
 split at h
 ·cases h
 ·assumption
theorem get_any {w:World} {g:Nat} {Q:Nat→Prop} {s:S} (t d:List Nat) (h:PL w g Q s) (hd:d.length=32) (ho:Sm.allB d) (ht:textAt s.W d=some t):
  Calls Tryz.prog 103 #[.pointer (some ⟨g,0,none⟩),.agg (u8s d)] w fun e w'=>∃q c,e= .returned (.tuple #[.slice q t.length c,.int .i64 0])∧w'.ownsRow w.heap.size 5 1 (.slice q t.length c) t.length (vals t)∧Below w.heap.size w w':=by
 obtain ⟨mp,cl,h⟩:=h
 have hb:=(Below.refl w.heap.size w).alloc (Nat.le_refl _) (.cells (u8s d) 30)
 obtain ⟨pp,mm,cc,hl,-,hq⟩:=look_any (h.later hb).pages hd ho
 rw [decide_eq_true (textAt_lt ht)] at hl
 have hT:=hq t ht
 obtain rfl:mm=t.length:=hT.tx.size
 have HB:=yH hb
 have R1:=yH (heap_alloc_new w (.cells (u8s d) 30))
 have C0:=yH (h.later hb).c0
 have HL:=yH hl
 have HD:=yH hd
 have HT:=yH hT
 clear h hb hl hd hq hT ht
 go_enter Tryz.func103,Tryz.ntmps103
 go_wp2_with fail
 generalize w.alloc (.cells (u8s d) 30)=w1 at *
 generalize hbk:w.heap.size=bk at *
 go_upto_region 1 with fail
 refine wp_region_held_drew (S:=fun w'=>w'.heap=w1.heap) (by kernel_rfl) rfl (fun hHeld=>?_)
 refine tK 0 ?_
 refine tK 1 ?_
 refine tK 2 ?_
 refine tQ 3 ?_ ?_ ?_
 rotate_left
 ·intro w' hSw
  have c0:=(World.cell?_of_block (w:=w1) (a:=⟨g,0,none⟩) (by rw [hSw])).trans C0.out
  go_simp
  try with_reducible rfl
 refine tQ 4 ?_ ?_ ?_
 rotate_left
 ·intro w' hSw
  refine Eq.trans (b:=Result.ok (Next.value (.agg (u8s d))) w') ?_ ?_
  ·exact op_load_dig (by rfl) (by rfl) HD.out (range_of_row' ((congrArg (fun h=>h[bk]?) hSw).trans R1.out))
  ·with_reducible rfl
 refine tQ 5 ?_ ?_ ?_
 rotate_left
 ·intro w' hSw
  refine Eq.trans (b:=Result.ok (Next.value (.tuple #[.slice pp t.length cc,.bool true])) w') ?_ ?_
  ·exact op_look (by rfl) (by rfl) (by rfl) (HL.out w' hSw)
  ·with_reducible rfl
 refine tK 6 ?_
 refine tK 7 ?_
 refine tK 8 ?_
 refine tK 9 ?_
 refine tK 10 ?_
 refine wpAnyH_done (by kernel_rfl) ?_ _
 have HB2:=yH (HB.out.drew)
 have T2:=yH (HT.out.tx.later (Below.refl _ _).drew)
 have HN:=HT.out.le
 clear hHeld
 generalize w1.drew=w2 at *
 go_wp2_with (go_at_call 67;with_reducible refine (bclone_any T2.out ?hx).mono ?_;(case hx=>exact HN);rintro _ w3 ⟨q3,c3,rfl,o3,b3⟩)
 go_ret2
 rw [hbk]
 have hsz:bk≤w2.heap.size:=by rw [← hbk];exact HB2.out.size
 refine ⟨q3,c3,rfl,⟨o3.1,?_⟩,HB2.out.trans (b3.mono hsz)⟩
 rcases o3.2 with h3 | ⟨ga,ca,cu,h4,h5,h6⟩
 ·exact Or.inl h3
 ·exact Or.inr ⟨ga,ca,cu,h4,Nat.le_trans hsz h5,h6⟩
theorem get_none {w:World} {g:Nat} {Q:Nat→Prop} {s:S} (d:List Nat) (h:PL w g Q s) (hd:d.length=32) (ho:Sm.allB d) (ht:textAt s.W d=none):
  Calls Tryz.prog 103 #[.pointer (some ⟨g,0,none⟩),.agg (u8s d)] w fun e w'=>∃q c,e= .returned (.tuple #[.slice q 0 c,.int .i64 9])∧Below w.heap.size w w':=by
 obtain ⟨mp,cl,h⟩:=h
 have hb:=(Below.refl w.heap.size w).alloc (Nat.le_refl _) (.cells (u8s d) 30)
 obtain ⟨pp,mm,cc,hl,-,-⟩:=look_any (h.later hb).pages hd ho
 rw [decide_eq_false (textAt_ge ht)] at hl
 have HB:=yH hb
 have R1:=yH (heap_alloc_new w (.cells (u8s d) 30))
 have C0:=yH (h.later hb).c0
 have HL:=yH hl
 have HD:=yH hd
 clear h hb hl hd ht
 go_enter Tryz.func103,Tryz.ntmps103
 go_wp2_with fail
 generalize w.alloc (.cells (u8s d) 30)=w1 at *
 generalize hbk:w.heap.size=bk at *
 go_upto_region 1 with fail
 refine wp_region_held_drew (S:=fun w'=>w'.heap=w1.heap) (by kernel_rfl) rfl (fun hHeld=>?_)
 refine tK 0 ?_
 refine tK 1 ?_
 refine tK 2 ?_
 refine tQ 3 ?_ ?_ ?_
 rotate_left
 ·intro w' hSw
  have c0:=(World.cell?_of_block (w:=w1) (a:=⟨g,0,none⟩) (by rw [hSw])).trans C0.out
  go_simp
  try with_reducible rfl
 refine tQ 4 ?_ ?_ ?_
 rotate_left
 ·intro w' hSw
  refine Eq.trans (b:=Result.ok (Next.value (.agg (u8s d))) w') ?_ ?_
  ·exact op_load_dig (by rfl) (by rfl) HD.out (range_of_row' ((congrArg (fun h=>h[bk]?) hSw).trans R1.out))
  ·with_reducible rfl
 refine tQ 5 ?_ ?_ ?_
 rotate_left
 ·intro w' hSw
  refine Eq.trans (b:=Result.ok (Next.value (.tuple #[.slice pp mm cc,.bool false])) w') ?_ ?_
  ·exact op_look (by rfl) (by rfl) (by rfl) (HL.out w' hSw)
  ·with_reducible rfl
 refine tK 6 ?_
 refine tK 7 ?_
 refine tK 8 ?_
 refine tK 9 ?_
 refine tK 10 ?_
 refine wpAnyH_done (by kernel_rfl) ?_ _
 go_wp2_with fail
 go_ret2
 exact ⟨none,0,rfl,by rw [hbk];exact HB.out.drew⟩
theorem one_text {w:World} {g:Nat} {q:Option Addr} {n c:Nat} {A:List Nat} (h:w.heap[g]? =some (.cells #[.slice q n c] 45 (0,0))) (h1:Tx w q n c A):Texts w (some ⟨g,0,none⟩) 1 1 [A]:=
 ⟨rfl,Nat.le_refl _,fun _=>⟨g,0,rfl,fun i hi=>by
  have h0:=fun j=>cell_of_row w g j _ _ _ h
  match i,hi with
  | 0,_=>exact ⟨q,n,c,h0 0,h1⟩⟩⟩
theorem pre_one (a:Nat) (b:List Nat):(pre a [b]).length=9+b.length:=by
 rw [pre,List.length_cons,List.flatMap_cons,List.flatMap_nil,List.append_nil,tpart_length]
 omega
theorem tot_one (b:List Nat):tot [b]=9+b.length:=pre_one 0 b
end Go.Proofs.YtinihaflmdihaaaGreat.Pg
namespace Go.Proofs.YtinihaflmdihaaaGreat
open Go.RowKit
theorem ret_u32 {a b:Int} (h:a=b):Ending.returned (.int .u32 a)= .returned (.int .u32 b):=by rw [h]
theorem rot_any (x n:Nat) (k:Int) (w:World) (hx:x<4294967296) (hn:0<n) (hn':n<32) (hk:bits .and .u64 (IntKind.u64.wrap k) 31=((32 - n:Nat):Int)):
  Calls Tryz.prog 286 #[.int .u32 x,.int .i64 k] w fun e w'=>e= .returned (.int .u32 (Sm.rot n x))∧w=w':=by
 obtain ⟨m,hm⟩:∃m,m=32 - n:=⟨_,rfl⟩
 rw [← hm] at hk
 have h1:(0:Int)≤m:=by omega
 have h2:(m:Int)≤32:=by omega
 have h3:(0:Int)≤32 - m:=by omega
 have h4:(32 - m:Int)≤32:=by omega
 have HM:=yH hm
 clear hm
 go_enter Tryz.func286,Tryz.ntmps286
 go_wp2
 go_ret
 refine ⟨ret_u32 ?_,rfl⟩
 have e:=HM.out
 have e1:(x:Int)*2^m%4294967296=((x*2^(32 - n)%4294967296:Nat):Int):=by
  rw [Int.natCast_emod,Int.natCast_mul,Int.natCast_pow,e];rfl
 have e2:(x:Int)/2^(32 - m)=((x/2^n:Nat):Int):=by
  have e3:32 - m=n:=by omega
  rw [e3,Int.natCast_ediv,Int.natCast_pow];rfl
 rw [e1,e2]
 exact u32_or_nat _ _ (Nat.mod_lt _ (by omega)) (Nat.lt_of_le_of_lt (Nat.div_le_self _ _) hx)
theorem rk2:bits .and .u64 (IntKind.u64.wrap (-2)) 31=((32 - 2:Nat):Int):=by decide+kernel
theorem rk6:bits .and .u64 (IntKind.u64.wrap (-6)) 31=((32 - 6:Nat):Int):=by decide+kernel
theorem rk7:bits .and .u64 (IntKind.u64.wrap (-7)) 31=((32 - 7:Nat):Int):=by decide+kernel
theorem rk11:bits .and .u64 (IntKind.u64.wrap (-11)) 31=((32 - 11:Nat):Int):=by decide+kernel
theorem rk13:bits .and .u64 (IntKind.u64.wrap (-13)) 31=((32 - 13:Nat):Int):=by decide+kernel
theorem rk17:bits .and .u64 (IntKind.u64.wrap (-17)) 31=((32 - 17:Nat):Int):=by decide+kernel
theorem rk18:bits .and .u64 (IntKind.u64.wrap (-18)) 31=((32 - 18:Nat):Int):=by decide+kernel
theorem rk19:bits .and .u64 (IntKind.u64.wrap (-19)) 31=((32 - 19:Nat):Int):=by decide+kernel
theorem rk22:bits .and .u64 (IntKind.u64.wrap (-22)) 31=((32 - 22:Nat):Int):=by decide+kernel
theorem rk25:bits .and .u64 (IntKind.u64.wrap (-25)) 31=((32 - 25:Nat):Int):=by decide+kernel
theorem rot_of (n x:Nat) (k:Int) (w:World) (hx:x<4294967296) (hn:(k= -2∧n=2)∨(k= -6∧n=6)∨(k= -7∧n=7)∨(k= -11∧n=11)∨(k= -13∧n=13)∨(k= -17∧n=17)∨(k= -18∧n=18)∨(k= -19∧n=19)∨(k= -22∧n=22)∨(k= -25∧n=25)):
  Calls Tryz.prog 286 #[.int .u32 x,.int .i64 k] w fun e w'=>e= .returned (.int .u32 (Sm.rot n x))∧w=w':=by
 rcases hn with ⟨rfl,rfl⟩ | ⟨rfl,rfl⟩ | ⟨rfl,rfl⟩ | ⟨rfl,rfl⟩ | ⟨rfl,rfl⟩ | ⟨rfl,rfl⟩ | ⟨rfl,rfl⟩ | ⟨rfl,rfl⟩ | ⟨rfl,rfl⟩ | ⟨rfl,rfl⟩
 ·exact rot_any x 2 _ w hx (by omega) (by omega) rk2
 ·exact rot_any x 6 _ w hx (by omega) (by omega) rk6
 ·exact rot_any x 7 _ w hx (by omega) (by omega) rk7
 ·exact rot_any x 11 _ w hx (by omega) (by omega) rk11
 ·exact rot_any x 13 _ w hx (by omega) (by omega) rk13
 ·exact rot_any x 17 _ w hx (by omega) (by omega) rk17
 ·exact rot_any x 18 _ w hx (by omega) (by omega) rk18
 ·exact rot_any x 19 _ w hx (by omega) (by omega) rk19
 ·exact rot_any x 22 _ w hx (by omega) (by omega) rk22
 ·exact rot_any x 25 _ w hx (by omega) (by omega) rk25
def u32s (l:List Nat):Array Value:=(l.map fun x=>Value.int .u32 (x:Nat)).toArray
theorem A32:Tryz.prog.underlying 300=some (.array 8 241):=by kernel_rfl
theorem S32:(Tryz.prog.info? 300).map (·.size)=some 8:=by kernel_rfl
theorem A62:Tryz.prog.underlying 334=some (.array 64 241):=by kernel_rfl
theorem S62:(Tryz.prog.info? 334).map (·.size)=some 64:=by kernel_rfl
theorem firstWords_any (w:World):
  Calls Tryz.prog 276 #[] w fun e w'=>e= .returned (.agg (u32s Sm.first.list))∧Below w.heap.size w w':=by
 go_enter Tryz.func276,Tryz.ntmps276
 go_wp2
 exact ret_row 0 (by kernel_rfl) w.heap.size _ _ A32 S32 rfl (heap_alloc_new w _) rfl ⟨rfl,(Below.refl _ _).alloc (Nat.le_refl _) _⟩
end Go.Proofs.YtinihaflmdihaaaGreat
