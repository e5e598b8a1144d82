/- PgLook, PgAdd, PgClone, PgGet, PgPre, ShaRot, ShaTurn, ShaSched, ShaKs. -/
import Derived.Carry
import Derived.Maps.AppendAt
import Derived.Lib.SliceRun
import Derived.Laws.OwnMore
import Derived.Test.YtinihaflmdihaaaGreatProg
import Derived.WalkKit
import Derived.WalkSpells
import Derived.WalkLawsBesides
import Derived.BigQuiet
import Derived.Deep.QuietTactic
import Derived.Lib.Hide
import Derived.StillTailTactics
import Derived.Deep.WholeRow
import Derived.Deep.MidRow
import Derived.Test.YtinihaflmdihaaaGreatL12
set_option maxRecDepth 100000
set_option maxHeartbeats 8000000
set_option linter.all false
namespace Go.Proofs.YtinihaflmdihaaaGreat.Pg
open Go.RowKit
theorem y0x (w:World):(zeroValue 45).run Tryz.prog w= .ok (.slice none 0 0) w:=by kernel_rfl
theorem x6Z {Q:Nat→Prop} {w:World} {mp:Option Nat} {W:Pages} (h:MapsAt Q w mp W) {d:List Nat} (hd:d.length=32) (ho:Sm.allB d):
  ∃p m c,(∀w',w'.heap=w.heap→(Instr.lookup 86 (.map mp) (.agg (u8s d)) true).run Tryz.prog w'= .ok (.tuple #[.slice p m c,.bool (decide (idx d W<W.length))]) w')∧
   (x0O W d=none→p=none∧m=0∧c=0)∧∀t,x0O W d=some t→TQ Q w p m c t:=by
 rcases h with ⟨rfl,rfl⟩ | ⟨b,L,rfl,rfl,J⟩
 ·refine ⟨none,0,0,fun w' _=>?_,fun _=>⟨rfl,rfl,rfl⟩,fun t C=>by simp [x0O] at C⟩
  have:=Go.Maps.look_nil (w:=w') true keyD UST (y0x w') (x32 hd ho)
  simpa using this
 ·obtain ⟨D,K,M⟩:=J.map
  have G:=M.has hd ho
  by_cases hi:idx d (x0e L)<(x0e L).length
  ·obtain ⟨e,O,N,P,C⟩:=M.got hi
   refine ⟨e.q,e.m,e.c,fun w' hw=>?_,fun h0=>(by rw [C] at h0;cases h0),fun t h0=>?_⟩
   ·obtain ⟨v,R,A,B⟩:=(x2Z (w':=w') K (by rw [hw])).look_ok keyD UST (y0x w') (zd:=.held (.slice none 0 0)) rfl (x32 hd ho)
    rw [P] at B
    obtain ⟨p,m,c,rfl,E⟩:=x5u B
    have I:DataW.held e.hd=DataW.held (.slice p m c):=congrArg Prod.fst E
    have H:e.hd= .slice p m c:=DataW.held.inj I
    rw [A,G,← H]
    rfl
   ·rw [C] at h0
    cases h0
    exact J.text e O
  ·refine ⟨none,0,0,fun w' hw=>?_,fun _=>⟨rfl,rfl,rfl⟩,fun t h0=>(by rw [x2z hi] at h0;cases h0)⟩
   obtain ⟨v,R,A,B⟩:=(x2Z (w':=w') K (by rw [hw])).look_ok keyD UST (y0x w') (zd:=.held (.slice none 0 0)) rfl (x32 hd ho)
   rw [Go.Maps.atKey_of_not_has (by rw [G];exact decide_eq_false hi)] at B
   obtain ⟨p,m,c,rfl,E⟩:=x5u B
   have I:DataW.held (Value.slice none 0 0)=DataW.held (.slice p m c):=congrArg Prod.fst E
   have H:Value.slice none 0 0= .slice p m c:=DataW.held.inj I
   rw [A,G,← H]
theorem x6a {ρ:Operand→Value} {o:Oper} {m x:Operand} {w:World} {mp:Option Nat} {d:List Nat} {u:Value} (ho:o.op= .lookup 86 m x true) (hm:ρ m= .map mp) (hx:ρ x= .agg (u8s d))
  (hr:(Instr.lookup 86 (.map mp) (.agg (u8s d)) true).run Tryz.prog w= .ok u w):(execOp ρ o).run Tryz.prog w= .ok (.value u) w:=by
 unfold execOp
 simp only [ho,hm,hx,hr,Sem.run_bind,Sem.run_pure,Result.andThen_ok]
theorem x54 {w w':World} {b:Nat} (h:w.mapTurned w' b):Dk.Only (fun j=>j=b) w w':=by
 have A:=h.grown
 exact ⟨A.os,A.tape,A.output,A.size,fun k hk hn=>A.block k hk (fun e=>hn (Option.some.inj e))⟩
theorem x55 {w:World} {o:Oper} {a:Act} {K:Act→World→Prop} {Q:Exit→Act→World→Prop} (m x v:Operand) (ho:o.op= .mapUpdate 86 m x v) {b n:Nat} {D:DataW Value} (hm:a.eval m= .map (some b))
  (hown:w.ownsMap Tryz.prog 30 x2K b n D) (hn:n<maxLen) {d:List Nat} {p:Option Addr} {l c:Nat} (hx:a.eval x= .agg (u8s d)) (hv:a.eval v= .slice p l c) (hd:d.length=32) (hdo:Sm.allB d)
  (h:∀w',w'.ownsMap Tryz.prog 30 x2K b (n+1) (D.put (klit d) (.held (.slice p l c)))→w.mapTurned w' b→K (a.put o.dst undef) w'):o.wp Tryz.prog a w K Q:=by
 obtain ⟨w',A,C,B⟩:=hown.store keyD UST hn (x32 hd hdo) (val:=.slice p l c) rfl
 unfold Oper.wp
 simp [execOp,ho,hm,hx,hv,A,Result.andThen]
 exact h w' C B
theorem x2L (mp:Option Nat) (w:World):(binOp .eql 86 (.map mp) (.map none)).run Tryz.prog w= .ok (.bool mp.isNone) w:=by
 cases mp<;>kernel_rfl
section
variable {Q QX:Nat→Prop} {w w':World} {g b:Nat} {cl:Option Addr} {s:S} {L:List Pe} {D:DataW Value} {e:Pe}
theorem SAt.stored (h:SAt Q w g (some b) cl s) (hM:MapAt Q w b L) (hW:x0e L=s.W) (hr:Reads D L) (hown:w.ownsMap Tryz.prog 30 x2K b L.length D)
  (hown':w'.ownsMap Tryz.prog 30 x2K b (L.length+1) (D.put (klit e.d) (.held e.hd))) (ho:Dk.Only (fun j=>j=b) w w') (hd:e.d.length=32) (hdo:Sm.allB e.d) (hn:e.d∉L.map (·.d))
  (ht:TQ QX w e.q e.m e.c e.b) (hlt:∀k,QX k→k<w.heap.size) (hok:S.ok ⟨s.W++[(e.d,e.b)],s.cl⟩):SAt (fun k=>Q k∨QX k) w' g (some b) cl ⟨s.W++[(e.d,e.b)],s.cl⟩:=by
 obtain ⟨E,G,B,-⟩:=hown
 have C:g<w.heap.size:=h.lt g h.mine
 refine ⟨(ho.block g C (fun e=>?_)).trans h.row,Or.inr ⟨b,L++[e],rfl,by rw [← hW];simp [x0e],⟨Or.inl hM.mine,⟨_,?_,hr.put hd hdo hn⟩,fun x A=>?_⟩⟩,(h.clash.turn_map B ho).wide (fun _ k=>Or.inl k),Or.inl h.mine,fun k hk=>?_,hok⟩
 ·have:=h.row
  rw [e,B] at this
  cases this
 ·rw [List.length_append]
  exact hown'
 ·rcases List.mem_append.1 A with A | A
  ·exact ((hM.text x A).turn ho (fun z hz hz'=>x1m (hM.text x A).tx hz hz' B)).wide (fun _ k=>Or.inl k)
  ·rw [List.mem_singleton.1 A]
   exact (ht.turn ho (fun z hz hz'=>x1m ht.tx hz hz' B)).wide (fun _ k=>Or.inr k)
 ·exact Nat.lt_of_lt_of_le (hk.elim (h.lt k) (hlt k)) ho.size
theorem SAt.f0 {mp:Option Nat} (h:SAt Q w g mp cl s):w.frozen? ⟨g,0,none⟩=false:=frozen_of_row w g 0 _ _ h.row
theorem SAt.mapped (h:SAt Q w g none cl s):s.W=[]∧SAt (fun k=>Q k∨k=w.heap.size) ((w.alloc (.map #[] 0)).setCell ⟨g,0,none⟩ (.map (some w.heap.size))) g (some w.heap.size) cl s∧
  MapAt (fun k=>Q k∨k=w.heap.size) ((w.alloc (.map #[] 0)).setCell ⟨g,0,none⟩ (.map (some w.heap.size))) w.heap.size []∧
  ((w.alloc (.map #[] 0)).setCell ⟨g,0,none⟩ (.map (some w.heap.size))).ownsMap Tryz.prog 30 x2K w.heap.size 0 (.map [])∧
  Dk.Only (fun j=>j=g) w ((w.alloc (.map #[] 0)).setCell ⟨g,0,none⟩ (.map (some w.heap.size))):=by
 have M:g<w.heap.size:=h.lt g h.mine
 have J:s.W=[]:=by
  rcases h.pages with ⟨_,C⟩ | ⟨b,L,C,_⟩
  ·exact C
  ·cases C
 have K:=(Below.refl w.heap.size w).alloc (Nat.le_refl _) (.map #[] 0)
 have C:=h.later K
 have A:=Dk.Only.setCell (P:=fun j=>j=g) (w.alloc (.map #[] 0)) (a:=⟨g,0,none⟩) rfl (.map (some w.heap.size))
 have H:=A.size
 rw [World.size_alloc] at H
 have E:=heap_setCell_same (w.alloc (.map #[] 0)) g 0 _ _ (.map (some w.heap.size)) C.row
 have B:=x2Z (World.ownsMap_made w Tryz.prog 30 x2K) (A.block w.heap.size (by simp) (by omega))
 have I:MapAt (fun k=>Q k∨k=w.heap.size) ((w.alloc (.map #[] 0)).setCell ⟨g,0,none⟩ (.map (some w.heap.size))) w.heap.size []:=⟨Or.inr rfl,⟨_,B,Reads.nil⟩,fun e he=>by cases he⟩
 refine ⟨J,⟨E,Or.inr ⟨_,_,rfl,by rw [J];rfl,I⟩,?_,Or.inl h.mine,?_,h.ok⟩,I,B,(Dk.Only.of_below _ K).trans A⟩
 ·exact (C.clash.turn_row C.row A).wide (fun _ k=>Or.inl k)
 ·intro k G
  rcases G with G | rfl
  ·have:=h.lt k G;omega
  ·omega
end
theorem x8n {P Q:Nat→Prop} {w w':World} (h:Dk.Only P w w') (hp:∀k,P k→Q k∨w.heap.size≤k):Dk.Only Q w w':=
 ⟨h.os,h.tape,h.output,h.size,fun k hk hn=>h.block k hk (fun e=>(hp k e).elim hn (fun h2=>absurd hk (Nat.not_lt.2 h2)))⟩
def Mst (g:Nat) (w w':World):Prop:=∀b,w.cell? ⟨g,0,none⟩=some (.map (some b))→w'.cell? ⟨g,0,none⟩=some (.map (some b))
theorem Mst.keep {g:Nat} {a b w c:World} (h:Mst g a b) (h1:a.heap[g]? =w.heap[g]?) (h2:c.heap[g]? =b.heap[g]?):Mst g w c:=fun x hx=>(World.cell?_of_block (w:=b) (a:=⟨g,0,none⟩) h2).trans (h x ((World.cell?_of_block (w:=w) (a:=⟨g,0,none⟩) h1).trans hx))
def y4U (Q QX:Nat→Prop) (w:World) (g:Nat) (mp:Option Nat) (cl:Option Addr) (s:S) (d b:List Nat) (w':World):Prop:=
 (∃mp',SAt (fun k=>Q k∨QX k∨w.heap.size≤k∧k<w'.heap.size) w' g mp' cl ⟨s.W++[(d,b)],s.cl⟩∧∀b,mp=some b→mp'=some b)∧Dk.Only Q w w'
theorem SAt.wide {Q Q':Nat→Prop} {w:World} {g:Nat} {mp:Option Nat} {cl:Option Addr} {s:S} (h:SAt Q w g mp cl s) (hq:∀k,Q k→Q' k) (hl:∀k,Q' k→k<w.heap.size):SAt Q' w g mp cl s:=
 ⟨h.row,h.pages.wide hq,h.clash.wide hq,hq _ h.mine,hl,h.ok⟩
theorem y4V {Q QX:Nat→Prop} {w:World} {g:Nat} {mp:Option Nat} {cl:Option Addr} {s:S} (h:SAt Q w g mp cl s) {d b:List Nat} (hd:d.length=32) (hdo:Sm.allB d) (hn:¬idx d s.W<s.W.length) {q:Option Addr} {m c:Nat} (ht:TQ QX w q m c b)
  (hlt:∀k,QX k→k<w.heap.size) (hok:S.ok ⟨s.W++[(d,b)],s.cl⟩) (hsm:s.W.length<100000):
  Calls Tryz.prog 249 #[.pointer (some ⟨g,0,none⟩),.agg (u8s d),.slice q m c] w fun e w'=>e= .returned (.tuple #[])∧y4U Q QX w g mp cl s d b w':=by
 have C:=(Below.refl w.heap.size w).alloc (Nat.le_refl _) (.cells (u8s d) 30)
 have M:=h.later C
 have u:=yH C
 have H:=yH (heap_alloc_new w (.cells (u8s d) 30))
 have i:=yH hd
 have v:=yH (TQ.keep (w':=w.alloc (.cells (u8s d) 30)) ht (fun k A=>C.block k (hlt k A)))
 have A2:=yH (show g<w.heap.size from h.lt g h.mine)
 have N:=yH hlt
 have t:=yH h.lt
 have n:=yH hok
 have A6:=yH h.mine
 clear C hd ht hlt hok
 cases mp with
 | some bm=>
  obtain ⟨L,X,Z⟩:∃L,x0e L=s.W∧MapAt Q (w.alloc (.cells (u8s d) 30)) bm L:=by
   rcases M.pages with ⟨P,_⟩ | ⟨b',L,P,h3,h4⟩
   ·cases P
   ·cases P;exact ⟨L,h3,h4⟩
  obtain ⟨D,E,hr⟩:=Z.map
  have AM:L.length<100000:=by rw [← X,x1q] at hsm;exact hsm
  have HN:=yH (show d∉L.map (·.d) from fun hm=>hn (by rw [x7w,← X,x53];exact hm))
  have f:=yH M.c0
  have x:=M.c0
  have R:=yH M
  have o:=yH Z
  have HW:=yH X
  have HR:=yH hr
  have O:=yH E
  clear h M Z X hr E hn
  have qn:=fun w'=>x2L (some bm) w'
  simp only [Option.isNone_some] at qn
  go_enter Tryz.func249,Tryz.ntmps249
  go_wp2_with fail
  generalize w.alloc (.cells (u8s d) 30)=w1 at *
  generalize hbk:w.heap.size=bk at *
  go_upto_region 3 with fail
  refine wp_region_held_drew (S:=fun w'=>w'.cell? ⟨g,0,none⟩=some (.map (some bm))∧w'.heap[bk]? =some (.cells (u8s d) 30 (0,0))) (by kernel_rfl) ⟨f.out,H.out⟩ (fun hHeld=>?_)
  refine tK 0 ?_
  refine tK 1 ?_
  refine tK 2 ?_
  refine tQ 3 ?_ ?_ ?_
  rotate_left
  ·intro w' hSw
   have x:=hSw.1
   go_simp
   try with_reducible rfl
  refine tQ 4 ?_ ?_ ?_
  rotate_left
  ·intro w' hSw
   refine Eq.trans (b:=Result.ok (Next.value (.agg (u8s d))) w') ?_ ?_
   ·exact x0x (by rfl) (by rfl) i.out (x0i hSw.2)
   ·with_reducible rfl
  refine tK 5 ?_
  refine rO 6 fun K hK=>?_
  refine x55 (.tmp 18) (.tmp 19) (.tmp 20) (by rfl) (by rfl) O.out (by unfold maxLen;omega) (by rfl) (by rfl) i.out hdo (fun w3 hown3 hturn3=>?_)
  have B:=x54 hturn3
  have I:=yH (show Dk.Only (fun j=>j=bm) w1 w3 from ⟨B.os,B.tape,B.output,B.size,B.block⟩)
  clear B
  have U:=yH hown3
  obtain ⟨A7,AB,C,-⟩:=O.out
  have S3:w3.cell? ⟨g,0,none⟩=some (.map (some bm))∧w3.heap[bk]? =some (.cells (u8s d) 30 (0,0)):=by
   have G:=R.out.row
   have e1:g≠bm:=fun e=>by rw [e,C] at G;cases G
   have e2:bk≠bm:=fun e=>by have h:=H.out;rw [e,C] at h;cases h
   exact ⟨(World.cell?_of_block (w:=w1) (a:=⟨g,0,none⟩) (I.out.block g (yL G) e1)).trans f.out,(I.out.block bk (yL H.out) e2).trans H.out⟩
  clear hown3 hturn3 C
  refine hK.out _ _ S3 (fun hHeld=>?_)
  clear hK K
  try simp only [Act.put]
  refine wpAnyH_done (by kernel_rfl) ?_ _
  go_wp2_with fail
  go_end0
  have SS:=R.out.stored (e:=⟨d,q,m,c,b⟩) o.out HW.out HR.out O.out U.out I.out i.out hdo HN.out v.out (fun k A=>Nat.lt_of_lt_of_le (N.out k A) (hbk▸u.out.size)) n.out
  have A0:=I.out.size
  exact ⟨rfl,⟨_,SS.wide (fun k A=>A.elim Or.inl (fun e=>Or.inr (Or.inl e))) (fun k A=>by
   have h0:=u.out.size
   rcases A with A | A | A
   ·have:=t.out k A;omega
   ·have:=N.out k A;omega
   ·exact A.2),fun b e=>e⟩,((Dk.Only.of_below _ (by rw [hbk];exact u.out)).trans (I.out.mono (fun k e=>by rw [e];exact o.out.mine)))⟩
 | none=>
  have Y:(w.alloc (.cells (u8s d) 30)).heap.size=w.heap.size+1:=by simp
  obtain ⟨X,P,Z,E,J⟩:=M.mapped
  have hN:d∉([]:List Pe).map (·.d):=by simp
  have x:=M.c0
  have cA:=(M.later ((Below.refl _ _).alloc (Nat.le_refl _) (.map #[] 0))).c0
  have fA:=(M.later ((Below.refl _ _).alloc (Nat.le_refl _) (.map #[] 0))).f0
  have f:=yH P.c0
  have R:=yH P
  have o:=yH Z
  have HW:=yH (show x0e []=s.W from by rw [X];rfl)
  have HR:=yH Reads.nil
  have O:=yH E
  have HN:=yH hN
  have R2:=yH ((J.block w.heap.size (by rw [Y];omega) (by have:=A2.out;omega)).trans H.out)
  have r:=yH (v.out.turn J (fun z hz hz'=>x16 v.out.tx hz hz' M.row))
  have l:=yH (show w.heap.size+1≤_ from by rw [← Y];exact J.size)
  have p:=yH ((Dk.Only.of_below _ u.out).trans J)
  have y:= @run_makeMap Tryz.prog
  have qn:=fun w'=>x2L none w'
  simp only [Option.isNone_none] at qn
  clear h M P Z E hn X hN J H v
  go_enter Tryz.func249,Tryz.ntmps249
  go_upto_region 3 with fail
  rw [Y] at f R o O R2 r l p
  have H:=R2
  clear R2 y cA fA x
  generalize ((w.alloc (.cells (u8s d) 30)).alloc (.map #[] 0)).setCell ⟨g,0,none⟩ (.map (some (w.heap.size+1)))=w2 at *
  generalize hbk:w.heap.size=bk at *
  refine wp_region_held_drew (S:=fun w'=>w'.cell? ⟨g,0,none⟩=some (.map (some (bk+1)))∧w'.heap[bk]? =some (.cells (u8s d) 30 (0,0))) (by kernel_rfl) ⟨f.out,H.out⟩ (fun hHeld=>?_)
  refine tK 0 ?_
  refine tK 1 ?_
  refine tK 2 ?_
  refine tQ 3 ?_ ?_ ?_
  rotate_left
  ·intro w' hSw
   have x:=hSw.1
   go_simp
   try with_reducible rfl
  refine tQ 4 ?_ ?_ ?_
  rotate_left
  ·intro w' hSw
   refine Eq.trans (b:=Result.ok (Next.value (.agg (u8s d))) w') ?_ ?_
   ·exact x0x (by rfl) (by rfl) i.out (x0i hSw.2)
   ·with_reducible rfl
  refine tK 5 ?_
  refine rO 6 fun K hK=>?_
  refine x55 (.tmp 18) (.tmp 19) (.tmp 20) (by rfl) (by rfl) O.out (by unfold maxLen;omega) (by rfl) (by rfl) i.out hdo (fun w3 hown3 hturn3=>?_)
  have B:=x54 hturn3
  have I:=yH (show Dk.Only (fun j=>j=(bk+1)) w2 w3 from ⟨B.os,B.tape,B.output,B.size,B.block⟩)
  clear B
  have U:=yH hown3
  obtain ⟨A7,AB,C,-⟩:=O.out
  have S3:w3.cell? ⟨g,0,none⟩=some (.map (some (bk+1)))∧w3.heap[bk]? =some (.cells (u8s d) 30 (0,0)):=by
   have G:=R.out.row
   have e1:g≠(bk+1):=fun e=>by rw [e,C] at G;cases G
   have e2:bk≠(bk+1):=fun e=>by have h:=H.out;rw [e,C] at h;cases h
   exact ⟨(World.cell?_of_block (w:=w2) (a:=⟨g,0,none⟩) (I.out.block g (yL G) e1)).trans f.out,(I.out.block bk (yL H.out) e2).trans H.out⟩
  clear hown3 hturn3 C
  refine hK.out _ _ S3 (fun hHeld=>?_)
  clear hK K
  try simp only [Act.put]
  refine wpAnyH_done (by kernel_rfl) ?_ _
  go_wp2_with fail
  go_end0
  have SS:=R.out.stored (e:=⟨d,q,m,c,b⟩) o.out HW.out HR.out O.out U.out I.out i.out hdo HN.out r.out (fun k A=>Nat.lt_of_lt_of_le (N.out k A) (Nat.le_of_succ_le l.out)) n.out
  have A0:=I.out.size
  have AI:=R.out.lt (bk+1) (Or.inr rfl)
  exact ⟨rfl,⟨_,SS.wide (fun k A=>by
   rcases A with (A | A) | A
   ·exact Or.inl A
   ·exact Or.inr (Or.inr ⟨by omega,by omega⟩)
   ·exact Or.inr (Or.inl A)) (fun k A=>by
   rcases A with A | A | A
   ·have:=t.out k A;omega
   ·have:=N.out k A;omega
   ·exact A.2),fun b e=>(by cases e)⟩,x8n ((p.out.mono (Q:=fun k=>Q k∨k=bk+1) (fun k e=>Or.inl (by rw [e];exact A6.out))).trans (I.out.mono (fun k e=>Or.inr e))) (fun k e=>e.imp id (fun e=>by omega))⟩
theorem x1y {w:World} {p:Option Addr} {n c:Nat} {B:List Nat} (h:Tx w p n c B) (hn:n≤100000):
  Calls Tryz.prog 67 #[.slice p n c] w fun e w'=>∃q d,e= .returned (.slice q n d)∧w'.ownsRow w.heap.size 5 1 (.slice q n d) n (vals B)∧Below w.heap.size w w':=by
 cases p with
 | none=>
  have b:c=0:=by
   rcases h.at' with ⟨_,a⟩ | ⟨y,i,_⟩
   ·exact a
   ·cases i
  have Q:n=0:=by have:=h.le;omega
  have Z:B=[]:=List.eq_nil_of_length_eq_zero (by have:=h.size;omega)
  subst b Q Z
  have j:∀w',(binOp .eql 45 (.slice none 0 0) (.slice none 0 0)).run Tryz.prog w'= .ok (.bool true) w':=fun w'=>Go.Lib.run_eql_slice_nil w' _ _ _ _ _ _ _ A22
  clear h
  go_enter Tryz.func67,Tryz.ntmps67
  go_wp2_with fail
  go_ret
  exact ⟨none,0,rfl,World.ownsRow_nil _ _ _ _,Below.refl _ _⟩
 | some ad=>
  have j:∀w',(binOp .eql 45 (.slice (some ad) n c) (.slice none 0 0)).run Tryz.prog w'= .ok (.bool false) w':=fun w'=>Go.Lib.run_eql_slice_nil w' _ _ _ _ _ _ _ A22
  obtain ⟨g,X,H,I,G⟩:=info_parts I5
  have f:=yH X
  have W:=yH H
  have O:=yH I
  have R:=yH G
  clear X H I G
  have C:=(Below.refl w.heap.size w).alloc (Nat.le_refl _) (.cells #[] 5)
  have A:=yH C
  have E:=yH (show (w.alloc (.cells #[] 5)).ownsRow w.heap.size 5 1 (.slice (some ⟨w.heap.size,0,none⟩) 0 0) 0 [] from x1b (L:=[]) (cap:=0) (n:=0) (heap_alloc_new w (.cells (u8s []) 5)) rfl (Nat.le_refl _) (Nat.zero_le _) (Nat.le_refl _))
  have N:=yH ((h.later C).cells)
  have r:=yH (show (vals B).length=n*1 from by rw [x00,← h.size,Nat.mul_one])
  clear C h
  go_enter Tryz.func67,Tryz.ntmps67
  go_wp2_with ((at_builtin;(refine wpList_append_own_at _ (by rfl) (.tmp 5) (.tmp 6) 45 (by rfl) w.heap.size 5 g (.int .u8 0) 1 1 A22 f.out W.out O.out R.out (by rfl) (by decide) _ 0 [] (by rfl) E.out ad n c (vals B) (by rfl) r.out N.out (x0I _) (by unfold maxLen;omega) (by omega) A.out.size ?_);intro v7 w7 hown7 hgrow7 _ _;have m:=yH hown7;have Y:=yH hgrow7;clear hown7 hgrow7))
  have K:Below w.heap.size w w7:=A.out.grown Y.out A.out.size (fun k hk=>(E.out.lt k hk).1)
  have M:=m.out
  rw [Nat.zero_add,List.nil_append] at M
  obtain ⟨U,J,rfl⟩:∃U J,v7= .slice U n J:=by
   rcases M.2 with ⟨P,l⟩ | ⟨s,cap,o,P,_⟩
   ·exact ⟨none,0,by rw [P,l]⟩
   ·exact ⟨_,_,P⟩
  go_ret
  exact ⟨U,J,rfl,M,K⟩
theorem x7N {W:Pages} {d t:List Nat} (h:x0O W d=some t):idx d W<W.length:=by
 unfold x0O at h
 split at h
 ·assumption
 ·cases h
theorem y0y {W:Pages} {d:List Nat} (h:x0O W d=none):¬idx d W<W.length:=by
 unfold x0O at h
 split at h
 ·cases h
 ·assumption
theorem y0z {w:World} {g:Nat} {Q:Nat→Prop} {s:S} (t d:List Nat) (h:PL w g Q s) (hd:d.length=32) (ho:Sm.allB d) (ht:x0O s.W d=some t):
  Calls Tryz.prog 103 #[.pointer (some ⟨g,0,none⟩),.agg (u8s d)] w fun e w'=>∃q c,e= .returned (.tuple #[.slice q t.length c,.int .i64 0])∧w'.ownsRow w.heap.size 5 1 (.slice q t.length c) t.length (vals t)∧Below w.heap.size w w':=by
 obtain ⟨m,n,h⟩:=h
 have C:=(Below.refl w.heap.size w).alloc (Nat.le_refl _) (.cells (u8s d) 30)
 obtain ⟨K,Z,N,E,-,H⟩:=x6Z (h.later C).pages hd ho
 rw [decide_eq_true (x7N ht)] at E
 have G:=H t ht
 obtain rfl:Z=t.length:=G.tx.size
 have Y:=yH C
 have M:=yH (heap_alloc_new w (.cells (u8s d) 30))
 have P:=yH (h.later C).c0
 have i:=yH E
 have U:=yH hd
 have I:=yH G
 clear h C E hd H G ht
 go_enter Tryz.func103,Tryz.ntmps103
 go_wp2_with fail
 generalize w.alloc (.cells (u8s d) 30)=w1 at *
 generalize hbk:w.heap.size=bk at *
 go_upto_region 1 with fail
 refine wp_region_held_drew (S:=fun w'=>w'.heap=w1.heap) (by kernel_rfl) rfl (fun hHeld=>?_)
 refine tK 0 ?_
 refine tK 1 ?_
 refine tK 2 ?_
 refine tQ 3 ?_ ?_ ?_
 rotate_left
 ·intro w' hSw
  have l:=(World.cell?_of_block (w:=w1) (a:=⟨g,0,none⟩) (by rw [hSw])).trans P.out
  go_simp
  try with_reducible rfl
 refine tQ 4 ?_ ?_ ?_
 rotate_left
 ·intro w' hSw
  refine Eq.trans (b:=Result.ok (Next.value (.agg (u8s d))) w') ?_ ?_
  ·exact x0x (by rfl) (by rfl) U.out (x0i ((congrArg (fun h=>h[bk]?) hSw).trans M.out))
  ·with_reducible rfl
 refine tQ 5 ?_ ?_ ?_
 rotate_left
 ·intro w' hSw
  refine Eq.trans (b:=Result.ok (Next.value (.tuple #[.slice K t.length N,.bool true])) w') ?_ ?_
  ·exact x6a (by rfl) (by rfl) (by rfl) (i.out w' hSw)
  ·with_reducible rfl
 refine tK 6 ?_
 refine tK 7 ?_
 refine tK 8 ?_
 refine tK 9 ?_
 refine tK 10 ?_
 refine wpAnyH_done (by kernel_rfl) ?_ _
 have B:=yH (Y.out.drew)
 have j:=yH (I.out.tx.later (Below.refl _ _).drew)
 have HN:=I.out.le
 clear hHeld
 generalize w1.drew=w2 at *
 go_wp2_with (go_at_call 67;with_reducible refine (x1y j.out ?hx).mono ?_;(case hx=>exact HN);rintro _ w3 ⟨q3,c3,rfl,o3,b3⟩)
 go_ret2
 rw [hbk]
 have A:bk≤w2.heap.size:=by rw [← hbk];exact B.out.size
 refine ⟨q3,c3,rfl,⟨o3.1,?_⟩,B.out.trans (b3.mono A)⟩
 rcases o3.2 with f | ⟨k,R,O,J,X,L⟩
 ·exact Or.inl f
 ·exact Or.inr ⟨k,R,O,J,Nat.le_trans A X,L⟩
theorem y2f {w:World} {g:Nat} {Q:Nat→Prop} {s:S} (d:List Nat) (h:PL w g Q s) (hd:d.length=32) (ho:Sm.allB d) (ht:x0O s.W d=none):
  Calls Tryz.prog 103 #[.pointer (some ⟨g,0,none⟩),.agg (u8s d)] w fun e w'=>∃q c,e= .returned (.tuple #[.slice q 0 c,.int .i64 9])∧Below w.heap.size w w':=by
 obtain ⟨N,O,h⟩:=h
 have A:=(Below.refl w.heap.size w).alloc (Nat.le_refl _) (.cells (u8s d) 30)
 obtain ⟨G,E,H,B,-,-⟩:=x6Z (h.later A).pages hd ho
 rw [decide_eq_false (y0y ht)] at B
 have C:=yH A
 have J:=yH (heap_alloc_new w (.cells (u8s d) 30))
 have K:=yH (h.later A).c0
 have I:=yH B
 have L:=yH hd
 clear h A B hd ht
 go_enter Tryz.func103,Tryz.ntmps103
 go_wp2_with fail
 generalize w.alloc (.cells (u8s d) 30)=w1 at *
 generalize hbk:w.heap.size=bk at *
 go_upto_region 1 with fail
 refine wp_region_held_drew (S:=fun w'=>w'.heap=w1.heap) (by kernel_rfl) rfl (fun hHeld=>?_)
 refine tK 0 ?_
 refine tK 1 ?_
 refine tK 2 ?_
 refine tQ 3 ?_ ?_ ?_
 rotate_left
 ·intro w' hSw
  have M:=(World.cell?_of_block (w:=w1) (a:=⟨g,0,none⟩) (by rw [hSw])).trans K.out
  go_simp
  try with_reducible rfl
 refine tQ 4 ?_ ?_ ?_
 rotate_left
 ·intro w' hSw
  refine Eq.trans (b:=Result.ok (Next.value (.agg (u8s d))) w') ?_ ?_
  ·exact x0x (by rfl) (by rfl) L.out (x0i ((congrArg (fun h=>h[bk]?) hSw).trans J.out))
  ·with_reducible rfl
 refine tQ 5 ?_ ?_ ?_
 rotate_left
 ·intro w' hSw
  refine Eq.trans (b:=Result.ok (Next.value (.tuple #[.slice G E H,.bool false])) w') ?_ ?_
  ·exact x6a (by rfl) (by rfl) (by rfl) (I.out w' hSw)
  ·with_reducible rfl
 refine tK 6 ?_
 refine tK 7 ?_
 refine tK 8 ?_
 refine tK 9 ?_
 refine tK 10 ?_
 refine wpAnyH_done (by kernel_rfl) ?_ _
 go_wp2_with fail
 go_ret2
 exact ⟨none,0,rfl,by rw [hbk];exact C.out.drew⟩
theorem x8o {w:World} {g:Nat} {q:Option Addr} {n c:Nat} {A:List Nat} (h:w.heap[g]? =some (.cells #[.slice q n c] 45 (0,0))) (h1:Tx w q n c A):Texts w (some ⟨g,0,none⟩) 1 1 [A]:=
 ⟨rfl,Nat.le_refl _,fun _=>⟨g,0,rfl,fun i hi=>by
  have h0:=fun j=>cell_of_row w g j _ _ _ h
  match i,hi with
  | 0,_=>exact ⟨q,n,c,h0 0,h1⟩⟩⟩
theorem y5O {L:List (List Nat)} (tag:Nat) (ht:tag<256) (h:∀b∈L,Sm.allB b):Sm.allB (pre tag L):=by
 intro x hx
 simp only [pre,List.mem_cons,List.mem_flatMap,tpart,List.mem_append] at hx
 rcases hx with rfl | ⟨t,B,A | A⟩
 ·exact ht
 ·exact x8X _ x A
 ·exact h t B x A
theorem y10 (a:Nat) (b:List Nat):(pre a [b]).length=9+b.length:=by
 rw [pre,List.length_cons,List.flatMap_cons,List.flatMap_nil,List.append_nil,x2H]
 omega
theorem y11 (b:List Nat):tot [b]=9+b.length:=y10 0 b
end Go.Proofs.YtinihaflmdihaaaGreat.Pg
namespace Go.Proofs.YtinihaflmdihaaaGreat
open Go.RowKit
theorem y12 {a b:Int} (h:a=b):Ending.returned (.int .u32 a)= .returned (.int .u32 b):=by rw [h]
theorem x1r (x n:Nat) (k:Int) (w:World) (hx:x<4294967296) (hn:0<n) (hn':n<32) (hk:bits .and .u64 (IntKind.u64.wrap k) 31=((32 - n:Nat):Int)):
  Calls Tryz.prog 286 #[.int .u32 x,.int .i64 k] w fun e w'=>e= .returned (.int .u32 (Sm.rot n x))∧w=w':=by
 obtain ⟨m,A⟩:∃m,m=32 - n:=⟨_,rfl⟩
 rw [← A] at hk
 have I:(0:Int)≤m:=by omega
 have H:(m:Int)≤32:=by omega
 have J:(0:Int)≤32 - m:=by omega
 have K:(32 - m:Int)≤32:=by omega
 have B:=yH A
 clear A
 go_enter Tryz.func286,Tryz.ntmps286
 go_wp2
 go_ret
 refine ⟨y12 ?_,rfl⟩
 have e:=B.out
 have C:(x:Int)*2^m%4294967296=((x*2^(32 - n)%4294967296:Nat):Int):=by
  rw [Int.natCast_emod,Int.natCast_mul,Int.natCast_pow,e];rfl
 have G:(x:Int)/2^(32 - m)=((x/2^n:Nat):Int):=by
  have E:32 - m=n:=by omega
  rw [E,Int.natCast_ediv,Int.natCast_pow];rfl
 rw [C,G]
 exact u32_or_nat _ _ (Nat.mod_lt _ (by omega)) (Nat.lt_of_le_of_lt (Nat.div_le_self _ _) hx)
theorem rk2:bits .and .u64 (IntKind.u64.wrap (-2)) 31=((32 - 2:Nat):Int):=by decide+kernel
theorem rk6:bits .and .u64 (IntKind.u64.wrap (-6)) 31=((32 - 6:Nat):Int):=by decide+kernel
theorem rk7:bits .and .u64 (IntKind.u64.wrap (-7)) 31=((32 - 7:Nat):Int):=by decide+kernel
theorem rk11:bits .and .u64 (IntKind.u64.wrap (-11)) 31=((32 - 11:Nat):Int):=by decide+kernel
theorem rk13:bits .and .u64 (IntKind.u64.wrap (-13)) 31=((32 - 13:Nat):Int):=by decide+kernel
theorem rk17:bits .and .u64 (IntKind.u64.wrap (-17)) 31=((32 - 17:Nat):Int):=by decide+kernel
theorem rk18:bits .and .u64 (IntKind.u64.wrap (-18)) 31=((32 - 18:Nat):Int):=by decide+kernel
theorem rk19:bits .and .u64 (IntKind.u64.wrap (-19)) 31=((32 - 19:Nat):Int):=by decide+kernel
theorem rk22:bits .and .u64 (IntKind.u64.wrap (-22)) 31=((32 - 22:Nat):Int):=by decide+kernel
theorem rk25:bits .and .u64 (IntKind.u64.wrap (-25)) 31=((32 - 25:Nat):Int):=by decide+kernel
theorem x2p (n x:Nat) (k:Int) (w:World) (hx:x<4294967296) (hn:(k= -2∧n=2)∨(k= -6∧n=6)∨(k= -7∧n=7)∨(k= -11∧n=11)∨(k= -13∧n=13)∨(k= -17∧n=17)∨(k= -18∧n=18)∨(k= -19∧n=19)∨(k= -22∧n=22)∨(k= -25∧n=25)):
  Calls Tryz.prog 286 #[.int .u32 x,.int .i64 k] w fun e w'=>e= .returned (.int .u32 (Sm.rot n x))∧w=w':=by
 rcases hn with ⟨rfl,rfl⟩ | ⟨rfl,rfl⟩ | ⟨rfl,rfl⟩ | ⟨rfl,rfl⟩ | ⟨rfl,rfl⟩ | ⟨rfl,rfl⟩ | ⟨rfl,rfl⟩ | ⟨rfl,rfl⟩ | ⟨rfl,rfl⟩ | ⟨rfl,rfl⟩
 ·exact x1r x 2 _ w hx (by omega) (by omega) rk2
 ·exact x1r x 6 _ w hx (by omega) (by omega) rk6
 ·exact x1r x 7 _ w hx (by omega) (by omega) rk7
 ·exact x1r x 11 _ w hx (by omega) (by omega) rk11
 ·exact x1r x 13 _ w hx (by omega) (by omega) rk13
 ·exact x1r x 17 _ w hx (by omega) (by omega) rk17
 ·exact x1r x 18 _ w hx (by omega) (by omega) rk18
 ·exact x1r x 19 _ w hx (by omega) (by omega) rk19
 ·exact x1r x 22 _ w hx (by omega) (by omega) rk22
 ·exact x1r x 25 _ w hx (by omega) (by omega) rk25
def u32s (l:List Nat):Array Value:=(l.map fun x=>Value.int .u32 (x:Nat)).toArray
theorem A32:Tryz.prog.underlying 300=some (.array 8 241):=by kernel_rfl
theorem S32:(Tryz.prog.info? 300).map (·.size)=some 8:=by kernel_rfl
theorem A62:Tryz.prog.underlying 334=some (.array 64 241):=by kernel_rfl
theorem S62:(Tryz.prog.info? 334).map (·.size)=some 64:=by kernel_rfl
theorem x5U (w:World):
  Calls Tryz.prog 276 #[] w fun e w'=>e= .returned (.agg (u32s Sm.first.list))∧Below w.heap.size w w':=by
 go_enter Tryz.func276,Tryz.ntmps276
 go_wp2
 exact x0h 0 (by kernel_rfl) w.heap.size _ _ A32 S32 rfl (heap_alloc_new w _) rfl ⟨rfl,(Below.refl _ _).alloc (Nat.le_refl _) _⟩
theorem rot2 (x:Nat) (w:World) (hx:x<4294967296):Calls Tryz.prog 286 #[.int .u32 x,.int .i64 (-2)] w fun e w'=>e= .returned (.int .u32 (Sm.rot 2 x))∧w=w':=x2p 2 x _ w hx (by omega)
theorem rot6 (x:Nat) (w:World) (hx:x<4294967296):Calls Tryz.prog 286 #[.int .u32 x,.int .i64 (-6)] w fun e w'=>e= .returned (.int .u32 (Sm.rot 6 x))∧w=w':=x2p 6 x _ w hx (by omega)
theorem rot11 (x:Nat) (w:World) (hx:x<4294967296):Calls Tryz.prog 286 #[.int .u32 x,.int .i64 (-11)] w fun e w'=>e= .returned (.int .u32 (Sm.rot 11 x))∧w=w':=x2p 11 x _ w hx (by omega)
theorem rot13 (x:Nat) (w:World) (hx:x<4294967296):Calls Tryz.prog 286 #[.int .u32 x,.int .i64 (-13)] w fun e w'=>e= .returned (.int .u32 (Sm.rot 13 x))∧w=w':=x2p 13 x _ w hx (by omega)
theorem rot22 (x:Nat) (w:World) (hx:x<4294967296):Calls Tryz.prog 286 #[.int .u32 x,.int .i64 (-22)] w fun e w'=>e= .returned (.int .u32 (Sm.rot 22 x))∧w=w':=x2p 22 x _ w hx (by omega)
theorem rot25 (x:Nat) (w:World) (hx:x<4294967296):Calls Tryz.prog 286 #[.int .u32 x,.int .i64 (-25)] w fun e w'=>e= .returned (.int .u32 (Sm.rot 25 x))∧w=w':=x2p 25 x _ w hx (by omega)
theorem rot7 (x:Nat) (w:World) (hx:x<4294967296):Calls Tryz.prog 286 #[.int .u32 x,.int .i64 (-7)] w fun e w'=>e= .returned (.int .u32 (Sm.rot 7 x))∧w=w':=x2p 7 x _ w hx (by omega)
theorem rot18 (x:Nat) (w:World) (hx:x<4294967296):Calls Tryz.prog 286 #[.int .u32 x,.int .i64 (-18)] w fun e w'=>e= .returned (.int .u32 (Sm.rot 18 x))∧w=w':=x2p 18 x _ w hx (by omega)
theorem rot17 (x:Nat) (w:World) (hx:x<4294967296):Calls Tryz.prog 286 #[.int .u32 x,.int .i64 (-17)] w fun e w'=>e= .returned (.int .u32 (Sm.rot 17 x))∧w=w':=x2p 17 x _ w hx (by omega)
theorem rot19 (x:Nat) (w:World) (hx:x<4294967296):Calls Tryz.prog 286 #[.int .u32 x,.int .i64 (-19)] w fun e w'=>e= .returned (.int .u32 (Sm.rot 19 x))∧w=w':=x2p 19 x _ w hx (by omega)
theorem x6b (l:List Nat) (i:Nat) (h:i<l.length):(u32s l)[i]? =some (.int .u32 (l.getD i 0:Nat)):=by
 simp [u32s,List.getD_eq_getElem?_getD,List.getElem?_eq_getElem h]
theorem x0K {w:World} {g:Nat} {l:List Nat} {t:TypeId} {fr:Nat×Nat} (hg:w.heap[g]? =some (.cells (u32s l) t fr)) (i:Nat) (h:i<l.length):w.cell? ⟨g,i,none⟩=some (.int .u32 (l.getD i 0:Nat)):=by
 rw [cell_of_row w g i _ t fr hg,x6b l i h]
theorem y3n {a b:Int} (h:a=b):Value.int .u32 a=Value.int .u32 b:=by rw [h]
structure Facts (w WB:World) (gw gk:Nat) (W K:List Nat) (A:Array Value):Prop where
 below:Below w.heap.size w WB
 cw:∀i,i<64→WB.cell? ⟨gw,i,none⟩=some (.int .u32 (W.getD i 0:Nat))
 ck:∀i,i<64→WB.cell? ⟨gk,i,none⟩=some (.int .u32 (K.getD i 0:Nat))
 box:WB.heap[w.heap.size]? =some (.cells A 300 (0,0))
 res:∃C,WB.heap[w.heap.size+1]? =some (.cells C 300 (0,0))∧C.size=8
theorem Facts.mk' (w:World) (nq gw gk:Nat) (W K:List Nat) (A C:Array Value)
  (cw:∀i,i<64→w.cell? ⟨gw,i,none⟩=some (.int .u32 (W.getD i 0:Nat)))
  (ck:∀i,i<64→w.cell? ⟨gk,i,none⟩=some (.int .u32 (K.getD i 0:Nat)))
  (bw:gw<w.heap.size) (bk:gk<w.heap.size) (hC:C.size=8:=by rfl):
  Facts w (World.drewN ((w.alloc (.cells A 300)).alloc (.cells C 300)) nq) gw gk W K A:=by
 have B:Below w.heap.size w ((w.alloc (.cells A 300)).alloc (.cells C 300)):=((Below.refl _ _).alloc (Nat.le_refl _) _).alloc (by simp) _
 refine ⟨B.trans ⟨rfl,rfl,rfl,Nat.le_refl _,fun _ _=>rfl⟩,fun i hi=>?_,fun i hi=>?_,?_,C,?_,hC⟩
 ·exact (B.cell (p:=⟨gw,i,none⟩) bw).trans (cw i hi)
 ·exact (B.cell (p:=⟨gk,i,none⟩) bk).trans (ck i hi)
 ·exact heap_alloc2_old w _ _
 ·exact heap_alloc2_new w _ _
def y13 (K W:List Nat) (v:Sm.V8) (W0:World) (a b c d e f g h i:Value) (wr:World):Prop:=
 ∃k:Nat,k≤64∧i= .int .i64 k∧a= .int .u32 (Sm.rounds K W v k).a∧b= .int .u32 (Sm.rounds K W v k).b∧c= .int .u32 (Sm.rounds K W v k).c∧d= .int .u32 (Sm.rounds K W v k).d∧e= .int .u32 (Sm.rounds K W v k).e∧f= .int .u32 (Sm.rounds K W v k).f∧g= .int .u32 (Sm.rounds K W v k).g∧h= .int .u32 (Sm.rounds K W v k).h∧SameHeap W0 wr
theorem x8p (v:Sm.V8) (hv:v.ok) (W K:List Nat) (hW:Sm.allW W) (hK:Sm.allW K) (lW:W.length=64) (lK:K.length=64) (gw gk:Nat) (w:World)
  (hw:w.heap[gw]? =some (.cells (u32s W) 334 (0,0))) (hk:w.heap[gk]? =some (.cells (u32s K) 334 (0,0))):
  Calls Tryz.prog 285 #[.agg (u32s v.list),.pointer (some ⟨gw,0,none⟩),.pointer (some ⟨gk,0,none⟩)] w fun e w'=>e= .returned (.agg (u32s (Sm.turn K W v).list))∧Below w.heap.size w w':=by
 obtain ⟨a,b,c,d,e,f,g,h⟩:=v
 have Y:∀i,i<64→w.cell? ⟨gw,i,none⟩=some (.int .u32 (W.getD i 0:Nat)):=fun i hi=>x0K hw i (by omega)
 have X:∀i,i<64→w.cell? ⟨gk,i,none⟩=some (.int .u32 (K.getD i 0:Nat)):=fun i hi=>x0K hk i (by omega)
 have q:gw<w.heap.size:=(yL hw)
 have t:gk<w.heap.size:=(yL hk)
 have Z:=yH Y
 have n:=yH X
 have z:=yH lW
 have LK:=yH lK
 have HW:=yH hW
 have HK:=yH hK
 have y:=yH hv
 clear Y X lW lK hW hK hv hw hk
 show Calls Tryz.prog 285 #[.agg #[.int .u32 a,.int .u32 b,.int .u32 c,.int .u32 d,.int .u32 e,.int .u32 f,.int .u32 g,.int .u32 h],.pointer (some ⟨gw,0,none⟩),.pointer (some ⟨gk,0,none⟩)] w _
 go_enter Tryz.func285,Tryz.ntmps285
 go_wp2_with fail
 go_quiet (fail)
 go_wp2_with fail
 generalize hWB:World.drewN ((w.alloc (.cells #[.int .u32 a,.int .u32 b,.int .u32 c,.int .u32 d,.int .u32 e,.int .u32 f,.int .u32 g,.int .u32 h] 300)).alloc (.cells #[.int .u32 0,.int .u32 0,.int .u32 0,.int .u32 0,.int .u32 0,.int .u32 0,.int .u32 0,.int .u32 0] 300)) nq=WB
 have P:Facts w WB gw gk W K #[.int .u32 a,.int .u32 b,.int .u32 c,.int .u32 d,.int .u32 e,.int .u32 f,.int .u32 g,.int .u32 h]:=by
  subst hWB
  exact Facts.mk' w nq gw gk W K _ _ Z.out n.out q t
 have G:=yH P
 clear P hWB
 go_loopw [7,8,9,10,11,12,13,14,38] (fun a' b' c' d' e' f' g' h' i wr=>y13 K W ⟨a,b,c,d,e,f,g,h⟩ WB a' b' c' d' e' f' g' h' i wr) (fun _ _ _ _ _ _ _ _ i _=>64 - (intOf i).toNat)
 case atStart=>exact ⟨0,by omega,rfl,rfl,rfl,rfl,rfl,rfl,rfl,rfl,rfl,SameHeap.refl _⟩
 case round=>
  obtain ⟨k,hk,rfl,rfl,rfl,rfl,rfl,rfl,rfl,rfl,rfl,Q⟩:=hrel
  have I:(Sm.rounds K W ⟨a,b,c,d,e,f,g,h⟩ k).ok:=Sm.rounds_ok y.out k
  have H:=yH Q
  clear Q
  by_cases hlt:k<64
  ·obtain ⟨u,E⟩:∃u,u=Sm.rounds K W ⟨a,b,c,d,e,f,g,h⟩ k:=⟨_,rfl⟩
   rw [← E] at I ⊢
   have B:=yH E
   clear E
   have U:=yH I
   obtain ⟨M,hb,hc,hd,O,hf,hg,hh⟩:=I
   have xw:=(H.out.cell ⟨gw,k,none⟩).trans (G.out.cw k hlt)
   have xk:=(H.out.cell ⟨gk,k,none⟩).trans (G.out.ck k hlt)
   go_wp2_with (go_at_call 286;first | ((with_reducible refine (rot6 _ _ O).mono ?_);rintro _ _ ⟨rfl,rfl⟩) | ((with_reducible refine (rot11 _ _ O).mono ?_);rintro _ _ ⟨rfl,rfl⟩) | ((with_reducible refine (rot25 _ _ O).mono ?_);rintro _ _ ⟨rfl,rfl⟩))
   go_quiet (fail)
   go_wp2_with (go_at_call 286;first | ((with_reducible refine (rot2 _ _ M).mono ?_);rintro _ _ ⟨rfl,rfl⟩) | ((with_reducible refine (rot13 _ _ M).mono ?_);rintro _ _ ⟨rfl,rfl⟩) | ((with_reducible refine (rot22 _ _ M).mono ?_);rintro _ _ ⟨rfl,rfl⟩))
   go_roundw
   case rel=>
    show y13 _ _ _ _ _ _ _ _ _ _ _ _ _ _
    rw [← List.getD_eq_getElem?_getD,← List.getD_eq_getElem?_getD,Sm.t1_int U.out,Sm.t2_int U.out]
    refine ⟨k+1,by omega,by go_num,?_,?_,?_,?_,?_,?_,?_,?_,H.out.drewN _⟩
    ·rw [Sm.rounds,← B.out];exact y3n (by simp only [Sm.step];omega)
    ·rw [Sm.rounds,← B.out];rfl
    ·rw [Sm.rounds,← B.out];rfl
    ·rw [Sm.rounds,← B.out];rfl
    ·rw [Sm.rounds,← B.out];exact y3n (by simp only [Sm.step];omega)
    ·rw [Sm.rounds,← B.out];rfl
    ·rw [Sm.rounds,← B.out];rfl
    ·rw [Sm.rounds,← B.out];rfl
   case measure=>simp [intOf];omega
  ·obtain rfl:k=64:=by omega
   obtain ⟨u,E⟩:∃u,u=Sm.rounds K W ⟨a,b,c,d,e,f,g,h⟩ 64:=⟨_,rfl⟩
   rw [← E] at I ⊢
   have B:=yH E
   clear E I
   have A:wr.heap[w.heap.size]? =some (.cells (u32s [a,b,c,d,e,f,g,h]) 300 (0,0)):=by rw [H.out.heap];exact G.out.box
   obtain ⟨C,L,J⟩:=G.out.res
   rw [← H.out.heap] at L
   have R:=yH L
   have N:=yH J
   clear L J
   have p:=x0K A 0 (by simp)
   have o:=x0K A 1 (by simp)
   have l:=x0K A 2 (by simp)
   have r:=x0K A 3 (by simp)
   have j:=x0K A 4 (by simp)
   have s:=x0K A 5 (by simp)
   have x:=x0K A 6 (by simp)
   have m:=x0K A 7 (by simp)
   clear A
   simp only [List.getD_cons_zero,List.getD_cons_succ] at p o l r j s x m
   go_wp2_with (refine wpList_store_row (by rfl) 300 _ _ (by rfl) (w.heap.size+1) _ (by rfl) (by rfl) _ _ R.out (by exact S32) (by exact N.out) (by simp [Value.oneCell']) ?_)
   refine x0h 6 (by kernel_rfl) (w.heap.size+1) _ _ A32 S32 rfl (setRow_heap _ _ _ _ _ _ R.out) (by rfl) ?_
   refine ⟨?_,?_⟩
   ·rw [Sm.turn,← B.out]
    simp only [u32s,Sm.add8,Sm.V8.list,List.map_cons,List.map_nil,Int.natCast_emod,Int.natCast_add]
    rfl
   ·exact Below.setRow ((G.out.below).trans (H.out.below.mono G.out.below.size)) (by omega) _
structure SFacts (w WB:World) (gb ob:Nat) (B:List Nat) (L:List Nat):Prop where
 below:Below w.heap.size w WB
 bytes:bytesAt WB gb ob B
 res:∃C,WB.heap[w.heap.size]? =some (.cells C 334 (0,0))∧C.size=64
 lt:gb<w.heap.size
 row:WB.heap[w.heap.size+1]? =some (.cells (u32s L) 334 (0,0))
theorem SFacts.drewN {w WB:World} {gb ob:Nat} {B L:List Nat} (h:SFacts w WB gb ob B L) (n:Nat):SFacts w (WB.drewN n) gb ob B L:=
 ⟨h.below.trans ⟨rfl,rfl,rfl,Nat.le_refl _,fun _ _=>rfl⟩,h.bytes,h.res,h.lt,h.row⟩
theorem SFacts.mk' (w:World) (gb ob:Nat) (B:List Nat) (hw:bytesAt w gb ob B) (hl:0<B.length):SFacts w ((w.alloc (.cells (u32s (zeros 64)) 334)).alloc (.cells (u32s (zeros 64)) 334)) gb ob B (zeros 64):=by
 have A:Below w.heap.size w ((w.alloc (.cells (u32s (zeros 64)) 334)).alloc (.cells (u32s (zeros 64)) 334)):=((Below.refl _ _).alloc (Nat.le_refl _) _).alloc (by simp) _
 refine ⟨A,fun i hi=>?_,⟨_,heap_alloc2_old w _ _,by simp [u32s,zeros]⟩,block_lt_of_cell (hw 0 hl),heap_alloc2_new w _ _⟩
 have:=hw i hi
 exact (A.cell (p:=⟨gb,ob+i,none⟩) (block_lt_of_cell this)).trans this
theorem x6c (p r:List Nat) (y x k:Nat) (hk:p.length=k):(u32s (p++y::r)).setIfInBounds k (.int .u32 (x:Nat))=u32s (p++x::r):=by
 subst hk
 apply Array.ext'
 simp [u32s]
theorem SFacts.store {w WB:World} {gb ob:Nat} {B p r:List Nat} {y:Nat} (h:SFacts w WB gb ob B (p++y::r)) (k:Nat) (hk:p.length=k) (x:Nat):
  SFacts w (WB.setCell ⟨w.heap.size+1,k,none⟩ (.int .u32 (x:Nat))) gb ob B (p++x::r):=by
 obtain ⟨C,E,A⟩:=h.res
 refine ⟨h.below.setCell (by show w.heap.size≤w.heap.size+1;omega) _,fun i hi=>?_,⟨C,?_,A⟩,h.lt,?_⟩
 ·rw [World.cell?_setCell_other _ _ _ _ (by intro e;have G:w.heap.size+1=gb:=congrArg Addr.block e;have:=h.lt;omega)]
  exact h.bytes i hi
 ·rw [heap_setCell_other _ _ _ _ (by show w.heap.size≠w.heap.size+1;omega)];exact E
 ·rw [heap_setCell_same _ _ _ _ _ _ h.row,x6c p r y x k hk]
def SRel2 (w:World) (gb ob:Nat) (B:List Nat) (i:Value) (wr:World):Prop:=
 ∃k:Nat,k≤48∧i= .int .i64 ((16+k:Nat):Int)∧SFacts w wr gb ob B (Sm.more (Sm.words B 16) k++zeros (48 - k))
theorem x2a (l:List Nat):(u32s l).all (·.oneCell')=true:=by simp [u32s,Value.oneCell']
theorem x17 (B:List Nat):(u32s (Sm.sched B)).size=64:=by simp [u32s,Sm.length_sched]
def SRel1 (w:World) (gb ob:Nat) (B:List Nat) (i:Value) (wr:World):Prop:=
 ∃k:Nat,k≤16∧i= .int .i64 k∧SFacts w wr gb ob B (Sm.words B k++zeros (64 - k))
theorem Z62:(Tryz.prog.info? 334).map (fun i=>(i.zero,i.size))=some (some (.agg (u32s (zeros 64))),64):=by kernel_rfl
theorem x7O (B:List Nat) (hB:Sm.allB B) (lB:64≤B.length) (gb ob cap:Nat) (hcap:64≤cap) (w:World) (hw:bytesAt w gb ob B):
  Calls Tryz.prog 284 #[.slice (some ⟨gb,ob,none⟩) 64 cap] w fun e w'=>e= .returned (.agg (u32s (Sm.sched B)))∧Below w.heap.size w w':=by
 have c:=yH hB
 have a:=yH lB
 have HW:=yH hw
 clear hB lB hw
 have hz:=(zero_of_info Z62).1
 go_enter Tryz.func284,Tryz.ntmps284
 go_wp2_with fail
 generalize hWB:(w.alloc (.cells (u32s (zeros 64)) 334)).alloc (.cells (u32s (zeros 64)) 334)=WB
 have FB:SFacts w WB gb ob B (zeros 64):=by
  subst hWB
  exact SFacts.mk' w gb ob B HW.out (by have:=a.out;omega)
 have FF:=yH FB
 clear FB hWB hz
 go_loopw [11] (fun i wr=>SRel1 w gb ob B i wr) (fun i _=>16 - (intOf i).toNat)
 case atStart=>exact ⟨0,by omega,rfl,FF.out⟩
 case round=>
  obtain ⟨k,hk,rfl,Z⟩:=hrel
  have HS:=yH Z
  clear Z FF
  by_cases hlt:k<16
  ·have b:wr.cell? ⟨gb,ob+4*k,none⟩=_:=HS.out.bytes (4*k) (by have:=a.out;omega)
   have m:wr.cell? ⟨gb,ob+4*k+1,none⟩=_:=HS.out.bytes (4*k+1) (by have:=a.out;omega)
   have g2:wr.cell? ⟨gb,ob+4*k+2,none⟩=_:=HS.out.bytes (4*k+2) (by have:=a.out;omega)
   have g3:wr.cell? ⟨gb,ob+4*k+3,none⟩=_:=HS.out.bytes (4*k+3) (by have:=a.out;omega)
   obtain ⟨P,E⟩:∃x,x=B.getD (4*k) 0:=⟨_,rfl⟩
   obtain ⟨W,G⟩:∃x,x=B.getD (4*k+1) 0:=⟨_,rfl⟩
   obtain ⟨x2,M⟩:∃x,x=B.getD (4*k+2) 0:=⟨_,rfl⟩
   obtain ⟨x3,K⟩:∃x,x=B.getD (4*k+3) 0:=⟨_,rfl⟩
   have b0:P<256:=by rw [E];exact Sm.getD_lt c.out (by omega) _
   have b1:W<256:=by rw [G];exact Sm.getD_lt c.out (by omega) _
   have b2:x2<256:=by rw [M];exact Sm.getD_lt c.out (by omega) _
   have b3:x3<256:=by rw [K];exact Sm.getD_lt c.out (by omega) _
   rw [← E] at b
   rw [← G] at m
   rw [← M] at g2
   rw [← K] at g3
   have s:=yH E
   have X1:=yH G
   have X2:=yH M
   have X3:=yH K
   clear E G M K
   have Q:wr.cell? ⟨w.heap.size+1,k,none⟩=_:=x0K HS.out.row k (by simp [Sm.length_words,zeros];omega)
   have U:wr.frozen? ⟨w.heap.size+1,k,none⟩=false:=frozen_of_row wr _ k _ _ HS.out.row
   have HL:(0:Int)≤k∧(k:Int)<64:=by omega
   go_wp2_with fail
   rw [show 4*k+4 - 4*k=4 from by omega]
   go_still_tail 24,(by kernel_rfl)
   go_wp2_with fail
   go_roundw
   case rel=>
    show SRel1 _ _ _ _ _ _
    rw [Sm.word_int b0 b1 b2 b3]
    refine ⟨k+1,by omega,by go_num,?_⟩
    have e:Sm.words B (k+1)++zeros (64 - (k+1))=Sm.words B k++(P*16777216+W*65536+x2*256+x3)::zeros (64 - (k+1)):=by
     rw [Sm.words,s.out,X1.out,X2.out,X3.out,List.append_assoc];rfl
    rw [e]
    refine (SFacts.store (y:=0) ?_ k (Sm.length_words B k) _).drewN 1
    rw [show 64 - (k+1)=64 - k - 1 from by omega,← x1X (by omega)]
    exact HS.out
   case measure=>simp [intOf];omega
  ·obtain rfl:k=16:=by omega
   rw [show ((16:Nat):Int)=16 from rfl]
   go_wp2_with fail
   go_loopw [6] (fun i wr=>SRel2 w gb ob B i wr) (fun i _=>64 - (intOf i).toNat)
   case atStart=>exact ⟨0,by omega,rfl,HS.out⟩
   case round=>
    obtain ⟨k,AW,rfl,Z⟩:=hrel
    have J:=yH Z
    clear Z HS hk hlt
    by_cases hlt:k<48
    ·obtain ⟨l,d⟩:∃l,l=Sm.more (Sm.words B 16) k:=⟨_,rfl⟩
     have I:=yH J.out
     rw [← d] at I
     have ll:l.length=16+k:=by rw [d];simp [Sm.length_more,Sm.length_words]
     have lw:Sm.allW l:=by rw [d];exact Sm.more_ok (Sm.words_ok c.out 16) k
     have HL:=yH d
     have n:=yH ll
     have h:=yH lw
     clear d ll lw J
     have A:∀i,i<16+k→wr.cell? ⟨w.heap.size+1,i,none⟩=some (.int .u32 (l.getD i 0:Nat)):=fun i hi=>by
      rw [x0K I.out.row i (by simp [n.out,zeros];omega),x6q _ _ (by rw [n.out];omega)]
     obtain ⟨j,q⟩:∃j,j=16+k:=⟨_,rfl⟩
     rw [← q] at A ⊢
     have Q:wr.cell? ⟨w.heap.size+1,j,none⟩=_:=x0K I.out.row j (by simp [n.out,zeros];omega)
     have U:wr.frozen? ⟨w.heap.size+1,j,none⟩=false:=frozen_of_row wr _ _ _ _ I.out.row
     have b:=A (j - 16) (by omega)
     have m:=A (j - 15) (by omega)
     have t:=A (j - 7) (by omega)
     have g:=A (j - 2) (by omega)
     clear A
     have i0:(0:Int)≤(j:Int) - 16∧(j:Int) - 16<64:=by omega
     have i1:(0:Int)≤(j:Int) - 15∧(j:Int) - 15<64:=by omega
     have i9:(0:Int)≤(j:Int) - 7∧(j:Int) - 7<64:=by omega
     have AK:(0:Int)≤(j:Int) - 2∧(j:Int) - 2<64:=by omega
     have ij:(0:Int)≤(j:Int)∧(j:Int)<64:=by omega
     have HJ:=yH q
     clear q
     obtain ⟨P,E⟩:∃x,x=l.getD (j - 16) 0:=⟨_,rfl⟩
     obtain ⟨W,G⟩:∃x,x=l.getD (j - 15) 0:=⟨_,rfl⟩
     obtain ⟨f,L⟩:∃x,x=l.getD (j - 7) 0:=⟨_,rfl⟩
     obtain ⟨N,H⟩:∃x,x=l.getD (j - 2) 0:=⟨_,rfl⟩
     have w0:P<4294967296:=by rw [E];exact Sm.getD_lt h.out (by omega) _
     have r:W<4294967296:=by rw [G];exact Sm.getD_lt h.out (by omega) _
     have w9:f<4294967296:=by rw [L];exact Sm.getD_lt h.out (by omega) _
     have R:N<4294967296:=by rw [H];exact Sm.getD_lt h.out (by omega) _
     rw [← E] at b
     rw [← G] at m
     rw [← L] at t
     rw [← H] at g
     have s:=yH E
     have X1:=yH G
     have X9:=yH L
     have A0:=yH H
     clear E G L H
     go_wp2_with fail
     go_quiet (fail)
     go_wp2_with (go_at_call 286;first | ((with_reducible refine (rot7 _ _ r).mono ?_);rintro _ _ ⟨rfl,rfl⟩) | ((with_reducible refine (rot18 _ _ r).mono ?_);rintro _ _ ⟨rfl,rfl⟩) | ((with_reducible refine (rot17 _ _ R).mono ?_);rintro _ _ ⟨rfl,rfl⟩) | ((with_reducible refine (rot19 _ _ R).mono ?_);rintro _ _ ⟨rfl,rfl⟩))
     generalize hW2:wr.drewN nq=W2
     have f0:W2.cell? ⟨w.heap.size+1,j - 16,none⟩=some (.int .u32 (P:Nat)):=by rw [← hW2];exact b
     have f9:W2.cell? ⟨w.heap.size+1,j - 7,none⟩=some (.int .u32 (f:Nat)):=by rw [← hW2];exact t
     have AP:W2.cell? ⟨w.heap.size+1,j,none⟩=some (.int .u32 ((l++zeros (48 - k)).getD j 0:Nat)):=by rw [← hW2];exact Q
     have AD:W2.frozen? ⟨w.heap.size+1,j,none⟩=false:=by rw [← hW2];exact U
     have Y:SFacts w W2 gb ob B (l++zeros (48 - k)):=by rw [← hW2];exact I.out.drewN nq
     have z:=yH Y
     clear hW2 b m t g Q U Y I
     have u:IntKind.i64.wrap ((j:Int) - 16)=(j:Int) - 16:=IntWalk.i64_in _ (by omega)
     have q7:IntKind.i64.wrap ((j:Int) - 7)=(j:Int) - 7:=IntWalk.i64_in _ (by omega)
     have o:((j:Int) - 16).toNat=j - 16:=by omega
     have p7:((j:Int) - 7).toNat=j - 7:=by omega
     have AI:(16:Int)≤j:=by omega
     have r7:(7:Int)≤j:=by omega
     go_still_tail 15,(by kernel_rfl)
     clear u q7 o p7
     go_wp2_with fail
     go_roundw
     case rel=>
      show SRel2 _ _ _ _ _ _
      rw [Sm.s0_int r,Sm.s1_int R]
      have ej:=HJ.out
      have e0:j - 16=k:=by omega
      have e1:j - 15=k+1:=by omega
      have e9:j - 7=k+9:=by omega
      have v:j - 2=k+14:=by omega
      have ev:(((P:Nat):Int)+(Sm.s0 W:Nat)+(f:Nat)+(Sm.s1 N:Nat))%4294967296=(((P+Sm.s0 W+f+Sm.s1 N)%4294967296:Nat):Int):=by omega
      rw [ev]
      refine ⟨k+1,by omega,by rw [ej];go_num,?_⟩
      have e:Sm.more (Sm.words B 16) (k+1)++zeros (48 - (k+1))=l++((P+Sm.s0 W+f+Sm.s1 N)%4294967296)::zeros (48 - (k+1)):=by
       rw [Sm.more,← HL.out,s.out,X1.out,X9.out,A0.out,e0,e1,e9,v,List.append_assoc];rfl
      rw [e]
      refine (SFacts.store (y:=0) ?_ j (by rw [n.out];omega) _).drewN 1
      rw [show 48 - (k+1)=48 - k - 1 from by omega,← x1X (by omega)]
      exact z.out
     case measure=>simp [intOf];omega
    ·obtain rfl:k=48:=by omega
     obtain ⟨C,hC,X⟩:=J.out.res
     have O:wr.heap[w.heap.size+1]? =some (.cells (u32s (Sm.sched B)) 334 (0,0)):=by
      have:=J.out.row
      rw [show zeros (48 - 48)=[] from rfl,List.append_nil] at this
      exact this
     have HC:=yH hC
     have p:=yH X
     have HR:=yH O
     clear hC X O
     go_wp2_with (first | (refine wpList_load_row (by rfl) 334 _ (by rfl) (w.heap.size+1) (by rfl) 334 _ (0,0) _ HR.out A62 (by rfl) (by rw [x17];exact S62) ?_) | (refine wpList_store_row (by rfl) 334 _ _ (by rfl) (w.heap.size) (u32s (Sm.sched B)) (by rfl) (by rfl) _ _ HC.out (by rw [x17];exact S62) (by rw [x17];exact p.out) (x2a _) ?_))
     refine x0h 2 (by kernel_rfl) w.heap.size _ _ A62 S62 rfl (setRow_heap _ _ _ _ _ _ HC.out) (x17 B) ⟨rfl,?_⟩
     exact Below.setRow J.out.below (Nat.le_refl _) _
theorem y3o:(u32s Sm.ks).all (·.oneCell')=true:=by kernel_rfl
theorem x5V (w:World):
  Calls Tryz.prog 283 #[] w fun e w'=>e= .returned (.agg (u32s Sm.ks))∧Below w.heap.size w w':=by
 go_enter Tryz.func283,Tryz.ntmps283
 go_wp2_with (refine wpList_store_row (by rfl) 334 _ _ (by rfl) w.heap.size (u32s Sm.ks) (by rfl) (by as_aux_lemma=>kernel_rfl) _ _ (heap_alloc_new w _) S62 (by rfl) y3o ?_;rw [x04])
 exact x0h 0 (by kernel_rfl) w.heap.size _ _ A62 S62 rfl (heap_alloc_new w _) rfl ⟨rfl,(Below.refl _ _).alloc (Nat.le_refl _) _⟩
end Go.Proofs.YtinihaflmdihaaaGreat
