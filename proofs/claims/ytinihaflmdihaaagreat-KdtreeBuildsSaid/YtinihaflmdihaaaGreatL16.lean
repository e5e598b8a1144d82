/- PgPutL, NlSayPut, NlPut, KdPut, KtSizes, KtPages. -/
import Derived.Test.YtinihaflmdihaaaGreatL15
set_option maxRecDepth 100000
set_option maxHeartbeats 8000000
set_option linter.all false
namespace Go.Proofs.YtinihaflmdihaaaGreat.Pg
open Go.RowKit
open List renaming setIfInBounds_toArray → yA, set_cons_zero → yB, set_cons_succ → yC
section
variable {Q QX:Nat→Prop} {w:World} {g:Nat} {mp:Option Nat} {cl:Option Addr} {s:S}
theorem SAt.f1 (h:SAt Q w g mp cl s):w.frozen? ⟨g,1,none⟩=false:=frozen_of_row w g 1 _ _ h.row
theorem SAt.aside {k:Nat} {w':World} (h:SAt Q w g mp cl s) (ho:Dk.Only (fun j=>j=k) w w') (hk:¬Q k):SAt Q w' g mp cl s:=h.only ho (fun _ hj e=>hk (e▸hj))
theorem SAt.clashed {p q:Option Addr} {m c n d:Nat} {t b:List Nat} (h:SAt Q w g mp cl s) (h1:TQ Q w p m c t) (h2:TQ QX w q n d b) (hlt:∀k,QX k→k<w.heap.size) (hok:S.ok ⟨s.W,some (t,b)⟩):
  SAt (fun k=>Q k∨QX k∨k=w.heap.size) ((w.alloc (.cells #[.slice p m c,.slice q n d] 112)).setCell ⟨g,1,none⟩ (.pointer (some ⟨w.heap.size,0,none⟩))) g mp (some ⟨w.heap.size,0,none⟩) ⟨s.W,some (t,b)⟩∧
  Dk.Only (fun j=>j=g) w ((w.alloc (.cells #[.slice p m c,.slice q n d] 112)).setCell ⟨g,1,none⟩ (.pointer (some ⟨w.heap.size,0,none⟩))):=by
 have J:g<w.heap.size:=h.lt g h.mine
 have H:=(Below.refl w.heap.size w).alloc (Nat.le_refl _) (.cells #[.slice p m c,.slice q n d] 112)
 have G:=heap_alloc_new w (.cells #[.slice p m c,.slice q n d] 112)
 have C:=h.later H
 have t1:=h1.keep (w':=w.alloc (.cells #[.slice p m c,.slice q n d] 112)) (fun k B=>H.block k (h.lt k B))
 have t2:=h2.keep (w':=w.alloc (.cells #[.slice p m c,.slice q n d] 112)) (fun k B=>H.block k (hlt k B))
 have A:=Dk.Only.setCell (P:=fun j=>j=g) (w.alloc (.cells #[.slice p m c,.slice q n d] 112)) (a:=⟨g,1,none⟩) rfl (.pointer (some ⟨w.heap.size,0,none⟩))
 have I:=A.size
 rw [World.size_alloc] at I
 have E:=heap_setCell_same (w.alloc (.cells #[.slice p m c,.slice q n d] 112)) g 1 _ _ (.pointer (some ⟨w.heap.size,0,none⟩)) C.row
 refine ⟨⟨E,(C.pages.turn_row C.row A).wide (fun _ k=>Or.inl k),Or.inr ⟨_,_,_,rfl,rfl,⟨Or.inr (Or.inr rfl),p,m,c,q,n,d,(A.block _ (by simp) (by omega)).trans G,(t1.turn A (fun z hz hz'=>x16 t1.tx hz hz' C.row)).wide (fun _ k=>Or.inl k),(t2.turn A (fun z hz hz'=>x16 t2.tx hz hz' C.row)).wide (fun _ k=>Or.inr (Or.inl k))⟩⟩,Or.inl h.mine,?_,hok⟩,(Dk.Only.of_below _ H).trans A⟩
 intro k B
 rcases B with B | B | rfl
 ·have:=h.lt k B;omega
 ·have:=hlt k B;omega
 ·omega
end
theorem x7P {w w':World} {q:Option Addr} {n c:Nat} {B:List Nat} (ho:w'.ownsRow w.heap.size 5 1 (.slice q n c) n (vals B)) (hn:n=B.length) (hB:Sm.allB B) (hl:B.length≤100000):TQ (fun k=>w.heap.size≤k∧k<w'.heap.size) w' q n c B:=
 ⟨by subst hn;exact x0H ho hB,fun x hx _=>ho.lt x.block (by rw [hx];rfl),hl⟩
theorem x0C (w:World) (g:Nat) (cs:Array Value):Dk.Only (fun j=>j=g) w (w.setRow g cs):=
 ⟨rfl,rfl,rfl,by simp [World.setRow],fun k _ hn=>by simp only [World.setRow];rw [Array.getElem?_modify,if_neg (fun e=>hn e.symm)]⟩
theorem PL.mine {w:World} {g:Nat} {Q:Nat→Prop} {s:S} (h:PL w g Q s):Q g:=by obtain ⟨_,_,h⟩:=h;exact h.mine
def x33 (Q:Nat→Prop) (w:World) (g:Nat) (s':S) (w':World):Prop:=(∃Q',PL w' g Q' s'∧∀k,Q' k→Q k∨w.heap.size≤k)∧Dk.Only Q w w'∧Mst g w w'
theorem x1h {w wX:World} {g r4:Nat} {Q Q':Nat→Prop} {mp0 mp:Option Nat} {cl:Option Addr} {s':S} (h0:w.cell? ⟨g,0,none⟩=some (.map mp0)) (hm:∀b,mp0=some b→mp=some b) (h:SAt Q' wX g mp cl s') (ho:Dk.Only Q w wX) (hn:¬Q' r4) (hq:∀k,Q' k→Q k∨w.heap.size≤k) (hr:w.heap.size≤r4) (cs:Array Value):x33 Q w g s' (wX.setRow r4 cs):=
 ⟨⟨Q',⟨_,_,h.aside (x0C wX r4 cs) hn⟩,hq⟩,x8n ((ho.mono (Q:=fun k=>Q k∨k=r4) (fun k e=>Or.inl e)).trans ((x0C wX r4 cs).mono (fun k e=>Or.inr e))) (fun k e=>e.imp id (fun e=>by omega)),fun b hb=>by
  rw [h0] at hb
  have e:=hm b (by simpa using hb)
  rw [← e]
  exact (h.aside (x0C wX r4 cs) hn).c0⟩
theorem pput_any {w:World} {g:Nat} {Q:Nat→Prop} {s:S} (b:List Nat) (p:Option Addr) (n c:Nat) (h:PL w g Q s) (hT:Tx w p n c b) (hn:n≤100000) (hsm:s.W.length<100000):
  Calls Tryz.prog 208 #[.pointer (some ⟨g,0,none⟩),.slice p n c] w fun e w'=>e= .returned (.agg (u8s (sumOf b)))∧x33 Q w g (s.put b) w':=by
 obtain ⟨mp,cl,h⟩:=h
 have Z:=yH h.c0
 have hz:=(zero_of_info Z25).1
 obtain ⟨D,hD⟩:∃D,D=sumOf b:=⟨_,rfl⟩
 have A:=yH (show D.length=32 from by rw [hD];rfl)
 have AV:=yH (show Sm.allB D from by rw [hD];exact x3N b)
 have m:=yH (show n=b.length from hT.size)
 have h0:=(Below.refl w.heap.size w).alloc (Nat.le_refl _) (.cells (u8s (zeros 32)) 30)
 have A3:=yH h0
 have R0:=yH (heap_alloc_new w (.cells (u8s (zeros 32)) 30))
 have T0:=yH (hT.later h0)
 have H0:=yH (h.later h0)
 have G:=yH h.lt
 have AM:=yH hT.ok
 have j:=yH hD
 have AK:=yH (S.put_ok h.ok hT.ok)
 clear h hT h0 hD
 go_enter Tryz.func208,Tryz.ntmps208
 go_wp2_with fail
 generalize w.alloc (.cells (u8s (zeros 32)) 30)=w1 at *
 generalize hr4:w.heap.size=r4 at *
 refine (x8r b p n c w1 T0.out hn).mono ?_
 rintro _ o ⟨rfl,b2⟩
 rw [← j.out]
 have A0:=yH (A3.out.trans (b2.mono (hr4▸A3.out.size)))
 have R2:=yH (yK b2 R0.out)
 have T2:=yH (T0.out.later b2)
 have H2:=yH (H0.out.later b2)
 have C:=(Below.refl o.heap.size o).alloc (Nat.le_refl _) (.cells (u8s D) 30)
 have U:=yH (A0.out.trans (C.mono (hr4▸A0.out.size)))
 have R3:=yH (yK C R2.out)
 have T3:=yH (T2.out.later C)
 have H3:=yH (H2.out.later C)
 have R5:=yH (heap_alloc_new o (.cells (u8s D) 30))
 have RZ:=yH (heap_alloc_new o (.cells (u8s (zeros 32)) 30))
 have AY:=yH (x04 o (u8s (zeros 32)) (u8s D) 30)
 have v:=yH (show r4<o.heap.size from by have:=(yL R2.out);exact this)
 clear C b2 A3 R0 T0 H0 A0 R2 T2 H2
 go_upto_region 2 with (refine wpList_store_row (by rfl) 30 _ _ (by rfl) o.heap.size (u8s D) (by rfl) (by rfl) _ _ RZ.out (by rw [x08,A.out];exact S25) (by rw [x08,x08,A.out];rfl) (x0b _) ?_)
 rw [AY.out]
 generalize o.alloc (.cells (u8s D) 30)=w3 at *
 generalize o.heap.size=r5 at *
 clear RZ AY
 obtain ⟨pp,mm,cc,hl,Y,X⟩:=x6Z H3.out.pages A.out AV.out
 have AS:=yH H3.out.c0
 have AU:=yH Y
 have A6:=yH X
 clear Y X
 simp only [Act.put]
 have O:∀s':S,s'=s→x33 Q w g s' (w3.setRow r4 (u8s D)):=fun s' e=>by
  rw [e]
  exact x1h Z.out (fun b e=>e) H3.out (Dk.Only.of_below _ (by rw [hr4];exact U.out)) (fun e=>by have:=G.out _ e;omega) (fun k hk=>Or.inl hk) (by omega) _
 have AG:=yH O
 clear O
 by_cases hi:idx D s.W<s.W.length
 ·rw [decide_eq_true hi] at hl
  have HL:=yH hl
  obtain ⟨t,ht⟩:∃t,x0O s.W D=some t:=⟨_,x1f hi⟩
  have HT:=yH (A6.out t ht)
  have Ac:=yH ht
  have B0:mm≤100000:=by have:=HT.out.tx.size;have:=HT.out.le;omega
  clear hl ht hi A6 AU
  refine wp_region_held_drew (S:=fun w'=>w'.heap=w3.heap) (by kernel_rfl) rfl (fun hHeld=>?_)
  refine tK 0 ?_
  refine tK 1 ?_
  refine tK 2 ?_
  refine tQ 3 ?_ ?_ ?_
  rotate_left
  ·intro w' hSw
   have c0:=(World.cell?_of_block (w:=w3) (a:=⟨g,0,none⟩) (by rw [hSw])).trans AS.out
   go_simp
   try with_reducible rfl
  refine tQ 4 ?_ ?_ ?_
  rotate_left
  ·intro w' hSw
   refine Eq.trans (b:=Result.ok (Next.value (.agg (u8s D))) w') ?_ ?_
   ·exact x0x (by rfl) (by rfl) A.out (x0i ((congrArg (fun h=>h[r5]?) hSw).trans R5.out))
   ·with_reducible rfl
  refine tQ 5 ?_ ?_ ?_
  rotate_left
  ·intro w' hSw
   refine Eq.trans (b:=Result.ok (Next.value (.tuple #[.slice pp mm cc,.bool true])) w') ?_ ?_
   ·exact x6a (by rfl) (by rfl) (by rfl) (HL.out w' hSw)
   ·with_reducible rfl
  refine tK 6 ?_
  refine tK 7 ?_
  refine tK 8 ?_
  refine tK 9 ?_
  refine tK 10 ?_
  refine wpAnyH_done (by kernel_rfl) ?_ _
  have d:=yH (U.out.drew)
  have H:=yH (show w3.drew.heap[r5]? =_ from R5.out)
  have B:=yH (show w3.drew.heap[r4]? =_ from R3.out)
  have T5:=yH (T3.out.later (Below.refl _ _).drew)
  have R:=yH (H3.out.later (Below.refl _ _).drew)
  have I:=yH (show ∀s':S,s'=s→x33 Q w g s' (w3.drew.setRow r4 (u8s D)) from fun s' e=>by
   rw [e]
   exact x1h Z.out (fun b e=>e) R.out (Dk.Only.of_below _ (by rw [hr4];exact d.out)) (fun e=>by have:=G.out _ e;omega) (fun k hk=>Or.inl hk) (by omega) _)
  have z:=yH (HT.out.keep (w':=w3.drew) (fun _ _=>rfl))
  have C1:=R.out.c1
  clear hHeld U R5 R3 T3 H3 HL AG HT
  generalize w3.drew=w5 at *
  have A2:=yH z.out.tx
  have y:=yH (show s.put b=⟨s.W,match s.cl with | some x=>some x | none=>if t=b then none else some (t,b)⟩ from by
   have i:idx (sumOf b) s.W<s.W.length:=by rw [← j.out];exact x7N Ac.out
   have h2:x0O s.W (sumOf b)=some t:=by rw [← j.out];exact Ac.out
   unfold S.put putW
   rw [if_pos i,h2]
   cases s.cl<;>rfl)
  cases cl with
  | some ca=>
   have HS:=yH (show s.put b=s from by
    rw [y.out]
    rcases R.out.clash with ⟨i,_⟩ | ⟨_,a,b',_,h2,_⟩
    ·cases i
    ·cases s with | mk W c=>cases h2;rfl)
   go_wp2_with (first | (refine wpList_load_row (by rfl) 30 (.tmp 5) (by rfl) r5 (by rfl) 30 (u8s D) (0,0) _ H.out A25 rfl (by rw [x08,A.out];exact S25) ?_) | (refine wpList_store_row (by rfl) 30 _ _ (by rfl) r4 (u8s D) (by rfl) (by rfl) _ _ B.out (by rw [x08,A.out];exact S25) (by rw [x08,x08,A.out];rfl) (x0b _) ?_))
   exact x0h 4 (by kernel_rfl) r4 _ _ A25 S25 rfl (setRow_heap _ _ _ _ _ _ B.out) (by rw [x08];exact A.out) ⟨by rw [j.out],I.out _ HS.out⟩
  | none=>
   have f:s.cl=none:=by
    rcases R.out.clash with ⟨_,i⟩ | ⟨_,_,_,i,_⟩
    ·exact i
    ·cases i
   by_cases htb:t=b
   ·have HS:=yH (show s.put b=s from by
     rw [y.out,if_pos htb,f]
     cases s with | mk W c=>cases f;rfl)
    have A5:=yH (decide_eq_true htb)
    clear htb f
    go_wp2_with (first | (refine wpList_load_row (by rfl) 30 (.tmp 5) (by rfl) r5 (by rfl) 30 (u8s D) (0,0) _ H.out A25 rfl (by rw [x08,A.out];exact S25) ?_) | (refine wpList_store_row (by rfl) 30 _ _ (by rfl) r4 (u8s D) (by rfl) (by rfl) _ _ B.out (by rw [x08,A.out];exact S25) (by rw [x08,x08,A.out];rfl) (x0b _) ?_) | (go_at_call 250;refine (x5y A2.out T5.out).mono ?_;rintro _ _ ⟨rfl,rfl⟩;rw [A5.out]))
    exact x0h 4 (by kernel_rfl) r4 _ _ A25 S25 rfl (setRow_heap _ _ _ _ _ _ B.out) (by rw [x08];exact A.out) ⟨by rw [j.out],I.out _ HS.out⟩
   ·have HS:=yH (show s.put b=⟨s.W,some (t,b)⟩ from by rw [y.out,f];simp only [if_neg htb])
    have A5:=yH (decide_eq_false htb)
    clear htb f
    have Al:=yH (show S.ok ⟨s.W,some (t,b)⟩ from by rw [← HS.out];exact AK.out)
    go_upto_region 6 with (first | (go_at_call 250;refine (x5y A2.out T5.out).mono ?_;rintro _ _ ⟨rfl,rfl⟩;rw [A5.out]))
    go_wp2_with fail
    refine (x1y T5.out hn).mono ?_
    rintro _ N ⟨AZ,Aa,rfl,AX,E⟩
    have Ab:=x7P AX m.out AM.out (by rw [← m.out];exact hn)
    have q:=R.out.later E
    have r:=z.out.keep (w':=N) (fun k hk=>E.block k (R.out.lt k hk))
    obtain ⟨AW,l⟩:=q.clashed r Ab (fun k hk=>hk.2) Al.out
    have C:=(Below.refl N.heap.size N).alloc (Nat.le_refl _) (.cells #[.slice pp mm cc,.slice AZ n Aa] 112)
    have cA:=(q.later C).c1
    have fA:=(q.later C).f1
    have BC:g<r4:=G.out _ R.out.mine
    have P:=yH ((l.block r4 (Nat.lt_of_lt_of_le (yL B.out) E.size) (by omega)).trans (yK E B.out))
    have A7:=yH ((l.block r5 (Nat.lt_of_lt_of_le (yL H.out) E.size) (by have:=v.out;omega)).trans (yK E H.out))
    have M:=yH (show x33 Q w g (s.put b) (((N.alloc (.cells #[.slice pp mm cc,.slice AZ n Aa] 112)).setCell ⟨g,1,none⟩ (.pointer (some ⟨N.heap.size,0,none⟩))).setRow r4 (u8s D)) from by
     rw [HS.out]
     have An:r4<w5.heap.size:=(yL B.out)
     have Ap:w.heap.size≤w5.heap.size:=by omega
     have B7:=E.size
     refine x1h Z.out (fun b e=>e) AW ((Dk.Only.of_below _ (by rw [hr4];exact d.out.trans (E.mono (by omega)))).trans (l.mono (fun k e=>by rw [e];exact R.out.mine))) (fun e=>?_) (fun k hk=>?_) (by omega) _
     ·rcases e with e | ⟨e,_⟩ | e
      ·have:=G.out _ e;omega
      ·omega
      ·omega
     ·rcases hk with e | ⟨e,_⟩ | e
      ·exact Or.inl e
      ·right;omega
      ·right;omega)
    clear AX E Ab q r AW l C z A2 C1
    go_wp2_with (first | (refine wpList_load_row (by rfl) 30 (.tmp 5) (by rfl) r5 (by rfl) 30 (u8s D) (0,0) _ A7.out A25 rfl (by rw [x08,A.out];exact S25) ?_) | (refine wpList_store_row (by rfl) 30 _ _ (by rfl) r4 (u8s D) (by rfl) (by rfl) _ _ P.out (by rw [x08,A.out];exact S25) (by rw [x08,x08,A.out];rfl) (x0b _) ?_))
    exact x0h 4 (by kernel_rfl) r4 _ _ A25 S25 rfl (setRow_heap _ _ _ _ _ _ P.out) (by rw [x08];exact A.out) ⟨by rw [j.out],M.out⟩
 ·rw [decide_eq_false hi] at hl
  have HL:=yH hl
  have B4:=yH (x2z hi)
  have AF:=yH hi
  clear hl hi A6 AU
  refine wp_region_held_drew (S:=fun w'=>w'.heap=w3.heap) (by kernel_rfl) rfl (fun hHeld=>?_)
  refine tK 0 ?_
  refine tK 1 ?_
  refine tK 2 ?_
  refine tQ 3 ?_ ?_ ?_
  rotate_left
  ·intro w' hSw
   have c0:=(World.cell?_of_block (w:=w3) (a:=⟨g,0,none⟩) (by rw [hSw])).trans AS.out
   go_simp
   try with_reducible rfl
  refine tQ 4 ?_ ?_ ?_
  rotate_left
  ·intro w' hSw
   refine Eq.trans (b:=Result.ok (Next.value (.agg (u8s D))) w') ?_ ?_
   ·exact x0x (by rfl) (by rfl) A.out (x0i ((congrArg (fun h=>h[r5]?) hSw).trans R5.out))
   ·with_reducible rfl
  refine tQ 5 ?_ ?_ ?_
  rotate_left
  ·intro w' hSw
   refine Eq.trans (b:=Result.ok (Next.value (.tuple #[.slice pp mm cc,.bool false])) w') ?_ ?_
   ·exact x6a (by rfl) (by rfl) (by rfl) (HL.out w' hSw)
   ·with_reducible rfl
  refine tK 6 ?_
  refine tK 7 ?_
  refine tK 8 ?_
  refine tK 9 ?_
  refine tK 10 ?_
  refine wpAnyH_done (by kernel_rfl) ?_ _
  have d:=yH (U.out.drew)
  have H:=yH (show w3.drew.heap[r5]? =_ from R5.out)
  have B:=yH (show w3.drew.heap[r4]? =_ from R3.out)
  have T5:=yH (T3.out.later (Below.refl _ _).drew)
  have R:=yH (H3.out.later (Below.refl _ _).drew)
  have I:=yH (show ∀s':S,s'=s→x33 Q w g s' (w3.drew.setRow r4 (u8s D)) from fun s' e=>by
   rw [e]
   exact x1h Z.out (fun b e=>e) R.out (Dk.Only.of_below _ (by rw [hr4];exact d.out)) (fun e=>by have:=G.out _ e;omega) (fun k hk=>Or.inl hk) (by omega) _)
  have u:=yH (show s.put b=⟨s.W++[(D,b)],s.cl⟩ from by
   have i:¬idx (sumOf b) s.W<s.W.length:=by rw [← j.out];exact AF.out
   have h2:x0O s.W (sumOf b)=none:=x2z i
   unfold S.put putW
   rw [if_neg i,h2,← j.out]
   cases s.cl<;>rfl)
  clear hHeld U R5 R3 T3 H3 HL AG I
  generalize w3.drew=w5 at *
  go_upto_region 4 with fail
  refine wp_region_held_drew (S:=fun w'=>w'.heap[r5]? =some (.cells (u8s D) 30 (0,0))) (by kernel_rfl) H.out (fun hHeld=>?_)
  refine tK 0 ?_
  refine tQ 1 ?_ ?_ ?_
  rotate_left
  ·intro w' hSw
   refine Eq.trans (b:=Result.ok (Next.value (.agg (u8s D))) w') ?_ ?_
   ·exact x0x (by rfl) (by rfl) A.out (x0i hSw)
   ·with_reducible rfl
  refine tK 2 ?_
  refine rO 3 fun K hK=>?_
  go_simp
  refine (x1y (T5.out.later (Below.refl _ _).drew) hn).mono ?_
  rintro _ Aq ⟨B5,B6,rfl,AI,AR⟩
  have J:=(Below.refl w5.heap.size w5).drew.trans AR
  have L:=yH J
  have AT:=yH (x7P (w:=w5.drew) AI m.out AM.out (by rw [← m.out];exact hn))
  have AO:=yH (R.out.later J)
  have AH:Aq.heap[r5]? =some (.cells (u8s D) 30 (0,0)):=(J.block _ (yL H.out)).trans H.out
  have HC:=yH AH
  clear AI AR J
  try go_wp2_with fail
  refine hK.out _ _ AH (fun hHeld=>?_)
  clear hK K
  try simp only [Act.put,yA,yB,yC]
  refine rO 4 fun K hK=>?_
  go_simp
  refine (y4V AO.out A.out AV.out AF.out AT.out (fun k hk=>hk.2) (by rw [← u.out];exact AK.out) hsm).mono ?_
  rintro _ AP ⟨rfl,A8⟩
  have As:AP.heap[r5]? =some (.cells (u8s D) 30 (0,0)):=(A8.2.block _ (yL HC.out) (fun e=>by have:=G.out _ e;have:=v.out;omega)).trans HC.out
  have A1:=yH A8
  clear A8
  try go_wp2_with fail
  refine hK.out _ _ As (fun hHeld=>?_)
  clear hK K
  try simp only [Act.put,yA,yB,yC]
  refine wpAnyH_done (by kernel_rfl) ?_ _
  have A7:=yH hHeld
  have P:=yH ((A1.out.2.block _ (Nat.lt_of_lt_of_le (yL B.out) L.out.size) (fun e=>by have:=G.out _ e;omega)).trans (yK L.out B.out))
  have M:=yH (show x33 Q w g (s.put b) (AP.setRow r4 (u8s D)) from by
   obtain ⟨⟨B3,Am,AN⟩,ho⟩:=A1.out
   rw [u.out]
   have An:r4<w5.heap.size:=(yL B.out)
   have Ap:w.heap.size≤w5.heap.size:=by omega
   have B8:w5.drew.heap.size=w5.heap.size:=rfl
   refine x1h Z.out AN Am ((Dk.Only.of_below _ (by rw [hr4];exact d.out.trans (L.out.mono (by omega)))).trans ho) (fun e=>?_) (fun k hk=>?_) (by omega) _
   ·rcases e with e | ⟨e,_⟩ | ⟨e,_⟩
    ·have:=G.out _ e;omega
    ·omega
    ·have:=L.out.size;omega
   ·rcases hk with e | ⟨e,_⟩ | ⟨e,_⟩
    ·exact Or.inl e
    ·right;omega
    ·have:=L.out.size;right;omega)
  clear A1 L AT AO hHeld HC
  go_wp2_with (first | (refine wpList_load_row (by rfl) 30 (.tmp 5) (by rfl) r5 (by rfl) 30 (u8s D) (0,0) _ A7.out A25 rfl (by rw [x08,A.out];exact S25) ?_) | (refine wpList_store_row (by rfl) 30 _ _ (by rfl) r4 (u8s D) (by rfl) (by rfl) _ _ P.out (by rw [x08,A.out];exact S25) (by rw [x08,x08,A.out];rfl) (x0b _) ?_))
  exact x0h 4 (by kernel_rfl) r4 _ _ A25 S25 rfl (setRow_heap _ _ _ _ _ _ P.out) (by rw [x08];exact A.out) ⟨by rw [j.out],M.out⟩
end Go.Proofs.YtinihaflmdihaaaGreat.Pg
namespace Go.Proofs.YtinihaflmdihaaaGreat.Nd
open Go.RowKit Go.Proofs.YtinihaflmdihaaaGreat.Dk Go.Proofs.YtinihaflmdihaaaGreat.Pg
def Aw (Q:Nat→Prop) (kd:Kd):Prop:=∀r∈kd.rows,∀x,r.p=some x→r.R≠[]→¬Q x.block
def y15 (w:World) (g:Nat) (Q:Nat→Prop) (s:Pg.S) (N:PN) (d:Int) (e:Ending) (w':World):Prop:=
 ((N.right d=true∧N.size≤1048576)∧∃kd:Kd,e= .returned (.tuple #[.agg kd.cells.toArray,.int .i64 0])∧kd.pk=N.says∧kd.Ok w'∧Fsh w kd∧(∃Q',PL w' g Q' (s.put N.bytes)∧(∀k,Q' k→Q k∨w.heap.size≤k)∧Aw Q' kd)∧Only Q w w'∧Mst g w w')∨
 (¬(N.right d=true∧N.size≤1048576)∧e= .returned (.tuple #[.agg kd0.cells.toArray,.int .i64 1])∧Below w.heap.size w w')
theorem x3y {w w':World} {g:Nat} {Q:Nat→Prop} {s:Pg.S} {N:PN} {d:Int} (h:¬(N.right d=true∧N.size≤1048576)) (hb:Below w.heap.size w w'):y15 w g Q s N d (.returned (.tuple #[.agg kd0.cells.toArray,.int .i64 1])) w':=Or.inr ⟨h,rfl,hb⟩
theorem y4d (kind:Nat) (hkd:kind<256) (p:Option Addr) (n c:Nat) (q:Option Addr) (m f:Nat) (E:List En) (K:List Kd) (d:Int) (w:World) (hE:EntsIn w p n c E) (hK:KidsIn w q m f K) {g:Nat} {Q:Nat→Prop} {s:Pg.S} (hp:PL w g Q s) (hsl:s.W.length<100000):
  Calls Tryz.prog 150 #[.agg #[.int .u8 kind,.slice p n c,.slice q m f],.int .i64 d,.func (.func 208) #[.pointer (some ⟨g,0,none⟩)] #[]] w (y15 w g Q s (pnOf kind E K) d):=by
 have AQ:=yH hp
 have O:=yH (show ∀k,Q k→k<w.heap.size from hp.lt)
 have Ay:=yH hsl
 clear hp hsl
 have AS:Below w.heap.size w (w.alloc (.cells #[.int .u8 kind,.slice p n c,.slice q m f] 81)):=(Below.refl _ _).alloc (Nat.le_refl _) _
 have Ab:=NodeAt.start w kind p n c q m f
 have z1:(w.alloc (.cells #[.int .u8 kind,.slice p n c,.slice q m f] 81)).heap.size=w.heap.size+1:=by simp
 have BB:=yH hkd
 have HE:=yH hE
 have HK:=yH hK
 obtain ⟨du,AW,AU⟩:=UKd
 have z:=yH AW
 have v:=yH AU
 have HZ:=yH (zero_of_info kz)
 clear hkd hE hK AW AU
 have BM:=HZ.out.1
 go_enter Tryz.func150,Tryz.ntmps150
 go_upto_region 1 with fail
 have A7:Below (w.heap.size+1) (w.alloc (.cells #[.int .u8 kind,.slice p n c,.slice q m f] 81)) ((w.alloc (.cells #[.int .u8 kind,.slice p n c,.slice q m f] 81)).alloc (.cells kd0.cells.toArray 34)):=(Below.refl _ _).alloc (by omega) _
 have r2:=heap_alloc_new (w.alloc (.cells #[.int .u8 kind,.slice p n c,.slice q m f] 81)) (.cells kd0.cells.toArray 34)
 rw [z1] at r2
 have AD:=yH (Ab.later (by rw [z1];exact A7))
 have J:=yH (AS.trans (A7.mono (by omega)))
 have AB:=yH r2
 clear AS Ab z1 A7 r2
 generalize (w.alloc (.cells #[.int .u8 kind,.slice p n c,.slice q m f] 81)).alloc (.cells kd0.cells.toArray 34)=w2 at *
 have i:=yH (x5g kind BB.out p n c q m f E K d w2 (HE.out.later J.out) (HK.out.later J.out))
 have A3:=yH (fun l (h:Below w.heap.size w l) (hr:(pnOf kind E K).right d=true)=>x7K kind p n c q m f E K d l (HE.out.later h) (HK.out.later h) hr)
 have BA:=yH (fun (hr:(pnOf kind E K).right d=true)=>x1N (PN.fit hr) (fun k hk=>by obtain ⟨y,hy,rfl⟩:=List.mem_map.1 hk;exact (HK.out.each y hy).len))
 generalize pnOf kind E K=N at *
 obtain ⟨t0,t1,t2⟩:=AD.out.cells
 cases hr:N.right d with
 | false=>
  have AC:=yH (show ¬(N.right d=true∧N.size≤1048576) from fun h=>by rw [hr] at h;exact absurd h.1 (by simp))
  have a:=yH hr
  clear hr
  go_wp2_with (first
   | (go_at_call 205;refine i.out.mono ?_;rintro e l ⟨b3,h3⟩;obtain rfl:e= .returned (.tuple #[.slice Option.none 0 0,.int .i64 1]):=(h3.elim (fun h=>by rw [a.out] at h;exact absurd h.1 (by simp)) (fun h=>h.2));have U:=yH (yK b3 AB.out);have P:=yH (J.out.trans (b3.mono J.out.size));clear b3 h3)
   | (refine x07 (by rfl) (by rfl) x0T ?_)
   | (refine wpList_store_row (by rfl) 34 _ _ (by rfl) (w.heap.size+1) kd0.cells.toArray (by rfl) (by rfl) _ _ U.out (by rw [List.size_toArray,x01];exact SKd) rfl (all_oneCell_toArray Kd.one) ?_))
  have r9:=setRow_heap _ (w.heap.size+1) _ kd0.cells.toArray _ _ U.out
  have AE:Below (w.heap.size+1) l (l.setRow (w.heap.size+1) kd0.cells.toArray):=Below.setRow (Below.refl _ _) (Nat.le_refl _) _
  refine x0F 6 7 (by kernel_rfl) (w.heap.size+1) _ kd0.cells.toArray _ z.out v.out (by rw [List.size_toArray,x01];exact SKd) (by rfl) (by rfl) r9 ?_
  exact x3y AC.out (P.out.trans (AE.mono (by omega)))
 | true=>
  have a:=yH hr
  have Au:=yH (BA.out hr)
  clear hr
  go_upto_region 5 with (first
   | (go_at_call 205;refine i.out.mono ?_;rintro e l ⟨b3,h3⟩;obtain ⟨q9,c9,rfl,o9,Aj⟩:=(h3.elim (fun h=>h.2) (fun h=>by rw [a.out] at h;exact absurd h.1 (by simp)));have Aa:=yH (x0H o9 Aj);have Ak:=yH (AD.out.later b3);have U:=yH (yK b3 AB.out);have P:=yH (J.out.trans (b3.mono J.out.size));obtain ⟨t0,t1,t2⟩:=Ak.out.cells;have AJ:=yH (A3.out l P.out a.out);clear b3 h3 o9 Aj)
   | (go_at_call 206;refine AJ.out.mono ?_;rintro e M ⟨B,rfl,Ah,A4,AL,b4⟩;have Ae:=yH Ah;have G:=yH A4;have Az:=yH AL;have AZ:=yH (Aa.out.later b4);have Ai:=yH (yK b4 U.out);have A8:=yH (P.out.trans (b4.mono P.out.size));have AY:=yH b4.size;clear Ah A4 AL b4)
   | (refine wpList_store_row (by rfl) 34 (.tmp 10) (.tmp 22) (by rfl) M.heap.size B.cells.toArray (by rfl) (by rfl) _ _ (heap_alloc_new M _) (by rw [List.size_toArray,Kd.cells_length G.out.len];exact SKd) (by simp only [List.size_toArray,Kd.cells_length G.out.len,x01]) (all_oneCell_toArray Kd.one) ?_;rw [x04]))
  have Am:=heap_alloc_new M (.cells B.cells.toArray 34)
  have Z:Below M.heap.size M (M.alloc (.cells B.cells.toArray 34)):=(Below.refl _ _).alloc (Nat.le_refl _) _
  have Av:=yH (AZ.out.later Z)
  have u:=yH (yK Z Ai.out)
  have I:=yH (A8.out.trans (Z.mono A8.out.size))
  have H:=yH (G.out.later Z)
  have AA:=yH Am
  have C:=yH (show w.heap.size+1<l.heap.size∧l.heap.size≤M.heap.size from ⟨(yL U.out),AY.out⟩)
  have t:=yH (show ∀r∈B.rows,r.Ok M∧(∀x,r.p=some x→r.R≠[]→l.heap.size≤x.block∧x.block<M.heap.size) from fun r hr=>by
   have AK:r.Ok M:=by
    simp only [Kd.rows,List.mem_cons,List.not_mem_nil,or_false] at hr
    rcases hr with rfl | rfl | rfl
    ·exact G.out.lo
    ·exact G.out.hi
    ·exact G.out.key
   exact ⟨AK,fun x hx hR=>⟨Az.out r hr x hx hR,x23 AK.ints hx hR⟩⟩)
  have AR:M.heap.size<(M.alloc (.cells B.cells.toArray 34)).heap.size:=by simp
  have A5:=yH AR
  generalize M.alloc (.cells B.cells.toArray 34)=w5 at *
  clear Am Z AR AZ Ai Aa U Ak AJ i A3 AB AD J t0 t1 t2 P A8
  generalize M.heap.size=gk at *
  have Ap:=(x0M AA.out H.out.len).size
  rw [Nat.zero_add] at Ap
  have Af:B.size=N.size:=congrArg PK.size Ae.out
  by_cases hz:1048576<B.size
  ·have AC:=yH (show ¬(N.right d=true∧N.size≤1048576) from fun h=>by have:=h.2;omega)
   clear Af
   go_wp2_with (first
    | (refine x07 (by rfl) (by rfl) x0T ?_)
    | (refine wpList_store_row (by rfl) 34 _ _ (by rfl) (w.heap.size+1) kd0.cells.toArray (by rfl) (by rfl) _ _ u.out (by rw [List.size_toArray,x01];exact SKd) rfl (all_oneCell_toArray Kd.one) ?_))
   have r9:=setRow_heap _ (w.heap.size+1) _ kd0.cells.toArray _ _ u.out
   have AE:Below (w.heap.size+1) w5 (w5.setRow (w.heap.size+1) kd0.cells.toArray):=Below.setRow (Below.refl _ _) (Nat.le_refl _) _
   refine x0F 6 7 (by kernel_rfl) (w.heap.size+1) _ kd0.cells.toArray _ z.out v.out (by rw [List.size_toArray,x01];exact SKd) (by rfl) (by rfl) r9 ?_
   exact x3y AC.out (I.out.trans (AE.mono (by omega)))
  ·have B0:=yH (show N.right d=true∧N.size≤1048576 from ⟨a.out,by omega⟩)
   obtain ⟨D,hD⟩:∃D,D=sumOf N.bytes:=⟨_,rfl⟩
   have AO:=yH hD
   have X:=yH (show D.length=32 from by rw [hD];rfl)
   have B9:=yH (show Sm.allB D from by rw [hD];exact x3N _)
   clear Af hD
   have AH:=yH (x05 H.out)
   have Aq:=yH (AQ.out.keep (fun _=>False) (Only.of_below _ I.out) (fun _ _ e=>e))
   have AF:=Pg.pput_any N.bytes q9 N.bytes.length c9 Aq.out Av.out Au.out Ay.out
   rw [← AO.out] at AF
   have B4:=yH AF
   clear AF
   go_upto_region 8 with (first
    | (go_at_call 208;refine B4.out.mono ?_;rintro e w6 ⟨rfl,⟨Q6,AX,AM⟩,b,A1⟩;have AI:=yH A1;clear A1;have An:=yH ((b.block _ (yL AA.out) (fun h=>by have:=O.out _ h;have:=C.out;omega)).trans AA.out);have AG:=yH ((b.block _ (yL u.out) (fun h=>by have:=O.out _ h;omega)).trans u.out);have A0:=yH (show ∀r∈B.rows,r.Ok w6 from fun r hr=>rw_keep (AH.out r hr) (fun x hx hR=>by have h9:=(t.out r hr).2 x hx hR;exact b.block _ (by have:=A5.out;omega) (fun h=>by have:=O.out _ h;have:=C.out;omega)));have At:=yH AX;have A6:=yH AM;have A:=yH b;clear AX AM b)
    | (refine wpList_store_mid (by rfl) 30 _ _ (by rfl) gk 0 (u8s D) (by rfl) (by rfl) (by rw [x08,X.out];exact x6O An.out H.out.len) (by rw [x08,X.out];exact S25) (x0b _) ?_))
   have r7:=y0a (D:=D) An.out H.out.len X.out
   have o7:=x13 w6 gk 0 (vals D)
   rw [show (u8s D).toList=vals D from rfl]
   have Ar:=yH o7
   have B6:=yH r7
   have AN:=yH ((o7.block _ (yL AG.out) (by have:=C.out;omega)).trans AG.out)
   clear o7 r7
   generalize w6.setCells gk 0 (vals D)=w7 at *
   have o:=yH (show ({B with sum:=D}:Kd).cells.length=37 from Kd.cells_length X.out)
   have B8:=yH (x0E B6.out)
   clear Ap
   go_wp2_with (first
    | (refine wpList_load_mid (by rfl) 34 _ (by rfl) gk 0 (by rfl) ({B with sum:=D}:Kd).cells du B8.out z.out v.out (by rw [o.out];exact SKd) ?_)
    | (refine wpList_store_row (by rfl) 34 _ _ (by rfl) (w.heap.size+1) ({B with sum:=D}:Kd).cells.toArray (by rfl) (by rfl) _ _ AN.out (by rw [List.size_toArray,o.out];exact SKd) (by simp only [List.size_toArray,o.out,x01]) (all_oneCell_toArray Kd.one) ?_))
   have r9:=setRow_heap _ (w.heap.size+1) _ ({B with sum:=D}:Kd).cells.toArray _ _ AN.out
   have Y:∀r∈B.rows,r.Ok (w7.setRow (w.heap.size+1) ({B with sum:=D}:Kd).cells.toArray):=fun r hr=>rw_keep (A0.out r hr) (fun x hx hR=>by
    have h9:=(t.out r hr).2 x hx hR
    have BC:x.block<w6.heap.size:=x23 (A0.out r hr).ints hx hR
    rw [setRow_other _ _ _ _ (by have:=C.out;omega)]
    exact Ar.out.block _ BC (by omega))
   refine x0F 6 7 (by kernel_rfl) (w.heap.size+1) _ ({B with sum:=D}:Kd).cells.toArray _ z.out v.out (by rw [List.size_toArray,o.out];exact SKd) (by rfl) (by rfl) r9 ?_
   have Al:({B with sum:=D}:Kd).Ok (w7.setRow (w.heap.size+1) ({B with sum:=D}:Kd).cells.toArray):=⟨X.out,B9.out,Y _ (by simp [Kd.rows]),Y _ (by simp [Kd.rows]),Y _ (by simp [Kd.rows]),H.out.live,H.out.size⟩
   have Ao:({B with sum:=D}:Kd).pk=N.says:=by
    have e4:=Ae.out
    unfold PN.says
    rw [← e4,← AO.out]
    rfl
   have B7:Fsh w ({B with sum:=D}:Kd):=fun r hr x hx hR=>by have:=((t.out r hr).2 x hx hR).1;have:=C.out;omega
   have L:Only (fun j=>j=gk∨j=w.heap.size+1) w6 (w7.setRow (w.heap.size+1) ({B with sum:=D}:Kd).cells.toArray):=(Ar.out.mono (fun j e=>Or.inl e)).trans ((x0C w7 (w.heap.size+1) _).mono (fun j e=>Or.inr e))
   have AT:=I.out.size
   have AP:g<w.heap.size:=O.out g (PL.mine AQ.out)
   refine Or.inl ⟨B0.out,_,rfl,Ao,Al,B7,⟨Q6,At.out.keep _ L (fun k hk e=>?_),fun k hk=>(A6.out k hk).imp id (fun h=>by omega),fun r hr x hx hR h=>by
    have h9:=(t.out r hr).2 x hx hR
    rcases A6.out _ h with h | h
    ·have:=O.out _ h
     have:=C.out
     omega
    ·have:=A5.out
     omega⟩,?_,AI.out.keep (I.out.block g AP) (L.block g (Nat.lt_of_lt_of_le AP (Nat.le_trans AT A.out.size)) (by have:=C.out;omega))⟩
   ·rcases A6.out k hk with h | h
    ·have:=O.out k h;have:=C.out;rcases e with e | e<;>omega
    ·have:=A5.out;have:=C.out;rcases e with e | e<;>omega
   ·refine ⟨L.os.trans (A.out.os.trans I.out.os),L.tape.trans (A.out.tape.trans I.out.tape),L.output.trans (A.out.output.trans I.out.output),Nat.le_trans AT (Nat.le_trans A.out.size L.size),fun k hk hn=>?_⟩
    have h6:=A.out.size
    rw [L.block k (by omega) (by have:=C.out;omega),A.out.block k (by omega) hn]
    exact I.out.block k hk
theorem y4e (kind:Nat) (hkd:kind<256) (p:Option Addr) (n c:Nat) (q:Option Addr) (m f:Nat) (E:List En) (K:List Kd) (d:Int) (w:World) (hE:EntsIn w p n c E) (hK:KidsIn w q m f K) {g:Nat} {Q:Nat→Prop} {s:Pg.S} (hp:PL w g Q s) (hsl:s.W.length<100000):
  Calls Tryz.prog 154 #[.pointer (some ⟨g,0,none⟩),.agg #[.int .u8 kind,.slice p n c,.slice q m f],.int .i64 d] w (y15 w g Q s (pnOf kind E K) d):=by
 have t:=yH hp
 have X:=yH (show ∀k,Q k→k<w.heap.size from hp.lt)
 have AN:=yH hsl
 clear hp hsl
 have v:Below w.heap.size w (w.alloc (.cells #[.int .u8 kind,.slice p n c,.slice q m f] 81)):=(Below.refl _ _).alloc (Nat.le_refl _) _
 have i:=NodeAt.start w kind p n c q m f
 have z1:(w.alloc (.cells #[.int .u8 kind,.slice p n c,.slice q m f] 81)).heap.size=w.heap.size+1:=by simp
 have AM:=yH hkd
 have HE:=yH hE
 have HK:=yH hK
 obtain ⟨du,A2,y⟩:=UKd
 have z:=yH A2
 have A3:=yH y
 have HZ:=yH (zero_of_info kz)
 clear hkd hE hK A2 y
 have AR:=HZ.out.1
 go_enter Tryz.func154,Tryz.ntmps154
 go_upto_region 1 with fail
 have Z:Below (w.heap.size+1) (w.alloc (.cells #[.int .u8 kind,.slice p n c,.slice q m f] 81)) ((w.alloc (.cells #[.int .u8 kind,.slice p n c,.slice q m f] 81)).alloc (.cells kd0.cells.toArray 34)):=(Below.refl _ _).alloc (by omega) _
 have r2:=heap_alloc_new (w.alloc (.cells #[.int .u8 kind,.slice p n c,.slice q m f] 81)) (.cells kd0.cells.toArray 34)
 rw [z1] at r2
 have AI:=yH (i.later (by rw [z1];exact Z))
 have A:=yH (v.trans (Z.mono (by omega)))
 have L:=yH r2
 clear v i z1 Z r2
 generalize (w.alloc (.cells #[.int .u8 kind,.slice p n c,.slice q m f] 81)).alloc (.cells kd0.cells.toArray 34)=w2 at *
 have l:=yH (t.out.keep (fun _=>False) (Only.of_below _ A.out) (fun _ _ e=>e))
 have O:=yH (y4d kind AM.out p n c q m f E K d w2 (HE.out.later A.out) (HK.out.later A.out) l.out AN.out)
 generalize pnOf kind E K=N at *
 obtain ⟨t0,t1,t2⟩:=AI.out.cells
 have M:=yH (show w.heap.size+1<w2.heap.size from (yL L.out))
 by_cases hg:N.right d=true∧N.size≤1048576
 ·have b:=yH hg
  clear hg
  go_wp2_with (first
   | (go_at_call 150;refine O.out.mono ?_;rintro e a h3;obtain ⟨-,J,rfl,A1,U,A4,⟨Q6,A5,A7,A8⟩,Y,P⟩:=(h3.resolve_right (fun h=>absurd b.out h.1));have A0:=yH P;clear P;have G:=yH ((Y.block _ (yL L.out) (fun h=>by have:=X.out _ h;omega)).trans L.out);have AB:=yH A5;have AD:=yH A8;have A6:=yH A7;have B:=yH Y;clear A5 A7 A8 Y h3;have R:=yH (Kd.cells_length U.len);have AG:=yH A1;have H:=yH U;have j:=yH A4;clear A1 U A4)
   | (refine wpList_store_row (by rfl) 34 _ _ (by rfl) (w.heap.size+1) J.cells.toArray (by rfl) (by rfl) _ _ G.out (by rw [List.size_toArray,R.out];exact SKd) (by simp only [List.size_toArray,R.out,x01]) (all_oneCell_toArray Kd.one) ?_))
  have r9:=setRow_heap _ (w.heap.size+1) _ J.cells.toArray _ _ G.out
  have I:∀r∈J.rows,r.Ok (a.setRow (w.heap.size+1) J.cells.toArray):=fun r hr=>rw_keep (x05 H.out r hr) (fun x hx hR=>setRow_other _ _ _ _ (by have:=j.out r hr x hx hR;have:=M.out;omega))
  refine x0F 6 7 (by kernel_rfl) (w.heap.size+1) _ J.cells.toArray _ z.out A3.out (by rw [List.size_toArray,R.out];exact SKd) (by rfl) (by rfl) r9 ?_
  have o:J.Ok (a.setRow (w.heap.size+1) J.cells.toArray):=⟨H.out.len,H.out.ok,I _ (by simp [Kd.rows]),I _ (by simp [Kd.rows]),I _ (by simp [Kd.rows]),H.out.live,H.out.size⟩
  have AH:Fsh w J:=fun r hr x hx hR=>by have:=j.out r hr x hx hR;have:=M.out;omega
  have C:=x0C a (w.heap.size+1) J.cells.toArray
  have u:g<w.heap.size:=X.out g (PL.mine t.out)
  refine Or.inl ⟨b.out,J,rfl,AG.out,o,AH,⟨Q6,AB.out.keep _ C (fun k hk e=>?_),fun k hk=>(A6.out k hk).imp id (fun h=>by have:=A.out.size;omega),AD.out⟩,?_,A0.out.keep (A.out.block g u) (C.block g (Nat.lt_of_lt_of_le u (Nat.le_trans A.out.size B.out.size)) (by omega))⟩
  ·rcases A6.out k hk with h | h
   ·have:=X.out k h;omega
   ·have:=M.out;omega
  ·refine ⟨C.os.trans (B.out.os.trans A.out.os),C.tape.trans (B.out.tape.trans A.out.tape),C.output.trans (B.out.output.trans A.out.output),Nat.le_trans A.out.size (Nat.le_trans B.out.size C.size),fun k hk hn=>?_⟩
   have h6:=B.out.size
   have h2:=M.out
   rw [C.block k (by omega) (by omega),B.out.block k (by omega) hn]
   exact A.out.block k hk
 ·have b:=yH hg
  clear hg
  go_wp2_with (first
   | (go_at_call 150;refine O.out.mono ?_;rintro e a h3;obtain ⟨-,rfl,b3⟩:=(h3.resolve_left (fun h=>absurd h.1 b.out));have G:=yH (yK b3 L.out);have AL:=yH (A.out.trans (b3.mono A.out.size));clear b3)
   | (refine wpList_store_row (by rfl) 34 _ _ (by rfl) (w.heap.size+1) kd0.cells.toArray (by rfl) (by rfl) _ _ G.out (by rw [List.size_toArray,x01];exact SKd) rfl (all_oneCell_toArray Kd.one) ?_))
  have r9:=setRow_heap _ (w.heap.size+1) _ kd0.cells.toArray _ _ G.out
  have AK:Below (w.heap.size+1) a (a.setRow (w.heap.size+1) kd0.cells.toArray):=Below.setRow (Below.refl _ _) (Nat.le_refl _) _
  refine x0F 6 7 (by kernel_rfl) (w.heap.size+1) _ kd0.cells.toArray _ z.out A3.out (by rw [List.size_toArray,x01];exact SKd) (by rfl) (by rfl) r9 ?_
  exact x3y b.out (AL.out.trans (AK.mono (by omega)))
end Go.Proofs.YtinihaflmdihaaaGreat.Nd
namespace Go.Proofs.YtinihaflmdihaaaGreat.Kt
open Go.RowKit Go.Proofs.YtinihaflmdihaaaGreat.Nd Go.Proofs.YtinihaflmdihaaaGreat.Dk Go.Proofs.YtinihaflmdihaaaGreat.Pg
theorem x37 (w:World) (A B C:Obj):∃W,((w.alloc A).alloc B).alloc C=W∧W.heap[w.heap.size]? =some A∧W.heap[w.heap.size+1]? =some B∧W.heap[w.heap.size+2]? =some C∧Below w.heap.size w W:=by
 have M:=heap_alloc_new w A
 have L:=heap_alloc_new (w.alloc A) B
 have G:=heap_alloc_new ((w.alloc A).alloc B) C
 have J:(w.alloc A).heap.size=w.heap.size+1:=by simp
 have I:((w.alloc A).alloc B).heap.size=w.heap.size+2:=by simp
 have b1:Below w.heap.size w (w.alloc A):=(Below.refl _ _).alloc (Nat.le_refl _) _
 have K:Below (w.alloc A).heap.size (w.alloc A) ((w.alloc A).alloc B):=(Below.refl _ _).alloc (Nat.le_refl _) _
 have H:Below ((w.alloc A).alloc B).heap.size ((w.alloc A).alloc B) (((w.alloc A).alloc B).alloc C):=(Below.refl _ _).alloc (Nat.le_refl _) _
 have E:=K.trans (H.mono K.size)
 rw [J] at L
 rw [I] at G
 refine ⟨_,rfl,?_,?_,G,b1.trans (E.mono b1.size)⟩
 ·exact (E.block _ (by rw [J];omega)).trans M
 ·exact (H.block _ (by rw [I];omega)).trans L
theorem x3V {w:World} {g:Nat} {x y z:Value} {t:TypeId} (h:w.heap[g]? =some (.cells #[x,y,z] t (0,0))):w.rangeAt g 0 [x,y,z]:=fun j v hv=>by
 rw [Nat.zero_add,cell_of_row w g j _ _ _ h]
 simpa using hv
def y2j (w:World) (g:Nat) (Q:Nat→Prop) (s:Pg.S) (N:PN) (e:Ending) (w':World):Prop:=
 ∃kd:Kd,e= .returned (.agg kd.cells.toArray)∧kd.pk=N.says∧kd.Ok w'∧Fsh w kd∧(∃Q',PL w' g Q' (s.put N.bytes)∧(∀k,Q' k→Q k∨w.heap.size≤k)∧Aw Q' kd)∧Only Q w w'∧Mst g w w'
theorem x6e (kind:Nat) (hkd:kind<256) (p:Option Addr) (n c:Nat) (q:Option Addr) (m f:Nat) (E:List En) (K:List Kd) (d:Int) (w:World) (hE:EntsIn w p n c E) (hK:KidsIn w q m f K) {g:Nat} {Q:Nat→Prop} {s:Pg.S} (hp:PL w g Q s) (hsl:s.W.length<100000) (hgood:(pnOf kind E K).right d=true∧(pnOf kind E K).size≤1048576):
  Calls Tryz.prog 108 #[.agg #[.pointer (some ⟨g,0,none⟩),.int .i64 d],.agg #[.int .u8 kind,.slice p n c,.slice q m f]] w (y2j w g Q s (pnOf kind E K)):=by
 obtain ⟨W,hW,r0,r1,r2,b1⟩:=x37 w (.cells #[.pointer (some ⟨g,0,none⟩),.int .i64 d] 91) (.cells #[.int .u8 kind,.slice p n c,.slice q m f] 81) (.cells kd0.cells.toArray 34)
 have v:=yH (show ∀k,Q k→k<w.heap.size from hp.lt)
 have o:g<w.heap.size:=hp.lt g (PL.mine hp)
 have O:=yH o
 clear o
 have i:=yH (y4e kind hkd p n c q m f E K d W (hE.later b1) (hK.later b1) (hp.keep (fun _=>False) (Only.of_below _ b1) (fun _ _ e=>e)) hsl)
 generalize pnOf kind E K=N at *
 have HG:=yH hgood
 have S2:=yH (show w.heap.size+3≤W.heap.size from (yL r2))
 have B1:=yH b1
 obtain ⟨dk,b,X⟩:=UKd
 obtain ⟨dn,y,R⟩:=UNode
 have A0:=yH b
 have P:=yH X
 have A3:=yH y
 have j:=yH R
 have HZ:=yH (zero_of_info kz)
 have AQ:=HZ.out.1
 clear hp hsl hgood hE hK b X y R b1
 go_enter Tryz.func108,Tryz.ntmps108
 go_upto_region 1 with fail
 clear hW
 have c0:=cell_of_row W w.heap.size 0 _ _ _ r0
 have c1:=cell_of_row W w.heap.size 1 _ _ _ r0
 have R1:=yH (x3V r1)
 have R2:=yH r2
 clear r0 r1 r2
 go_upto_region 2 with (first
  | (refine wpList_load_mid (by rfl) 81 _ (by rfl) (w.heap.size+1) 0 (by rfl) [.int .u8 kind,.slice p n c,.slice q m f] dn R1.out A3.out j.out SNode ?_)
  | (go_at_call 154;refine i.out.mono ?_;rintro e H h3;obtain ⟨-,L,rfl,u,Y,A1,M,z,U⟩:=(h3.resolve_right (fun h=>absurd HG.out h.1));have A6:=yH u;have I:=yH Y;have a:=yH A1;have t:=yH U;clear U;have AA:=yH M;have G:=yH z;have C:=yH (Kd.cells_length Y.len);clear h3 u Y A1 M z)
  | (refine wpList_store_row (by rfl) 34 (.tmp 5) _ (by rfl) H.heap.size L.cells.toArray (by rfl) (by rfl) _ _ (heap_alloc_new H _) (by rw [List.size_toArray,C.out];exact SKd) (by simp only [List.size_toArray,C.out,x01]) (all_oneCell_toArray Kd.one) ?_))
 have Z:Below H.heap.size H ((H.alloc (.cells kd0.cells.toArray 34)).setRow H.heap.size L.cells.toArray):=Below.setRow ((Below.refl _ _).alloc (Nat.le_refl _) _) (Nat.le_refl _) _
 have l:=setRow_heap _ H.heap.size _ L.cells.toArray _ _ (heap_alloc_new H (.cells kd0.cells.toArray 34))
 generalize (H.alloc (.cells kd0.cells.toArray 34)).setRow H.heap.size L.cells.toArray=w4 at *
 have A7:=yH (x0E l)
 have R3:=yH ((G.out.block _ (yL R2.out) (fun h=>by have:=v.out _ h;omega)).trans R2.out)
 have R4:=yH (yK Z R3.out)
 have B4:=yH Z
 clear Z l c0 c1
 go_wp2_with (first
  | (refine wpList_load_mid (by rfl) 34 _ (by rfl) H.heap.size 0 (by rfl) L.cells dk A7.out A0.out P.out (by rw [C.out];exact SKd) ?_)
  | (refine wpList_store_row (by rfl) 34 _ _ (by rfl) (w.heap.size+2) L.cells.toArray (by rfl) (by rfl) _ _ R4.out (by rw [List.size_toArray,C.out];exact SKd) (by simp only [List.size_toArray,C.out,x01]) (all_oneCell_toArray Kd.one) ?_))
 refine x1B 4 (by kernel_rfl) (w.heap.size+2) _ L.cells.toArray A0.out P.out (by rw [List.size_toArray,C.out];exact SKd) (by rfl) (setRow_heap _ _ _ _ _ _ R4.out) ?_
 have s3:=G.out.size
 have s2:=S2.out
 have J:∀r∈L.rows,r.Ok (w4.setRow (w.heap.size+2) L.cells.toArray):=fun r hr=>Nd.rw_keep ((x05 I.out r hr).later B4.out) (fun x hx hR=>setRow_other _ _ _ _ (by have:=a.out r hr x hx hR;omega))
 have B:=x0C w4 (w.heap.size+2) L.cells.toArray
 have A:Only (fun _=>False) H w4:=Only.of_below _ B4.out
 obtain ⟨Q6,A8,M,AB⟩:=AA.out
 refine ⟨L,rfl,A6.out,⟨I.out.len,I.out.ok,J _ (by simp [Kd.rows]),J _ (by simp [Kd.rows]),J _ (by simp [Kd.rows]),I.out.live,I.out.size⟩,fun r hr x hx hR=>by have:=a.out r hr x hx hR;omega,⟨Q6,(A8.keep _ A (fun _ _ e=>e)).keep _ B (fun k hk e=>?_),fun k hk=>(M k hk).imp id (fun h=>by omega),AB⟩,?_,t.out.keep (B1.out.block g O.out) ((B.block g (Nat.lt_of_lt_of_le O.out (Nat.le_trans B1.out.size (Nat.le_trans s3 A.size))) (by have:=O.out;omega)).trans (A.block g (Nat.lt_of_lt_of_le O.out (Nat.le_trans B1.out.size s3)) (fun h=>h)))⟩
 ·rcases M k hk with h | h
  ·have:=v.out k h;omega
  ·omega
 ·refine ⟨B.os.trans (A.os.trans (G.out.os.trans B1.out.os)),B.tape.trans (A.tape.trans (G.out.tape.trans B1.out.tape)),B.output.trans (A.output.trans (G.out.output.trans B1.out.output)),Nat.le_trans B1.out.size (Nat.le_trans s3 (Nat.le_trans A.size B.size)),fun k hk hn=>?_⟩
  rw [B.block k (by have:=A.size;omega) (by omega),A.block k (by omega) (fun h=>h),G.out.block k (by omega) hn]
  exact B1.out.block k hk
end Go.Proofs.YtinihaflmdihaaaGreat.Kt
namespace Go.Proofs.YtinihaflmdihaaaGreat.Kt
open Go.RowKit
theorem x58:∀(n:Nat) (L:List (List Int)) (t:Nat),L.length≤n→(layP n L t).size=L.length
 | 0,L,t,h=>by
  obtain rfl:L=[]:=List.length_eq_zero_iff.1 (by omega)
  rfl
 | n+1,L,t,h=>by
  rw [layP]
  by_cases hL:L=[]
  ·rw [if_pos hL,hL]
   rfl
  ·rw [if_neg hL]
   have hp:=List.length_pos_iff.2 hL
   have l1:((sortP (t%(L.headD []).length) L).take (L.length/2)).length=L.length/2:=by rw [List.length_take,x0g];omega
   have A:((sortP (t%(L.headD []).length) L).drop (L.length/2+1)).length=L.length - (L.length/2+1):=by rw [List.length_drop,x0g]
   show 1+(layP n _ (t+1)).size+(layP n _ (t+1)).size=_
   rw [x58 n _ (t+1) (by omega),x58 n _ (t+1) (by omega),l1,A]
   omega
theorem x2c (L:List (List Int)) (t:Nat):(lay L t).size=L.length:=x58 _ L t (Nat.le_refl _)
end Go.Proofs.YtinihaflmdihaaaGreat.Kt
namespace Go.Proofs.YtinihaflmdihaaaGreat.Kt
open Go.RowKit Go.Proofs.YtinihaflmdihaaaGreat.Nd Go.Proofs.YtinihaflmdihaaaGreat.Pg
def T.pages:T→List (List Nat)
 | .nil=>[]
 | .fork p v l r=>l.pages++r.pages++[(forkN p v l.kid r.kid).bytes]
theorem x0S:∀u:T,u.pages.length=u.size
 | .nil=>rfl
 | .fork p v l r=>by
  have h1:=x0S l
  have h2:=x0S r
  unfold T.pages T.size
  simp only [List.length_append,List.length_cons,List.length_nil]
  omega
theorem x0Z (p:List Int) (v:Bool) (a b:PK):(forkN p v a b).size=1+(a.size+b.size):=by
 show ((1:Nat):Int)+(a.size+(b.size+0))=_
 omega
theorem x0n:∀u:T,u.size≤1048576→u.kid.size=u.size
 | .nil,_=>rfl
 | .fork p v l r,h=>by
  have hz:(T.fork p v l r).size=1+l.size+r.size:=rfl
  have h1:=x0n l (by omega)
  have h2:=x0n r (by omega)
  have hf:=x0Z p v l.kid r.kid
  unfold T.kid
  rw [if_pos (by omega)]
  show (forkN p v l.kid r.kid).size=_
  omega
def T.lives:T→Nat
 | .nil=>0
 | .fork _ v l r=>(if v then 1 else 0)+l.lives+r.lives
theorem x6f:∀u:T,u.size≤1048576→u.kid.live=u.lives
 | .nil,_=>rfl
 | .fork p v l r,h=>by
  have hz:(T.fork p v l r).size=1+l.size+r.size:=rfl
  have h1:=x6f l (by omega)
  have h2:=x6f r (by omega)
  have h3:=x0n l (by omega)
  have h4:=x0n r (by omega)
  have hf:=x0Z p v l.kid r.kid
  unfold T.kid
  rw [if_pos (by omega)]
  show ((if v then (1:Int) else 0)+0)+(l.kid.live+(r.kid.live+0))=_
  unfold T.lives
  cases v<;>simp<;>omega
theorem y16 {d:Nat} (hd:1≤d∧d≤8) {p:List Int} {v:Bool} {l r:T} (h:(T.fork p v l r).dims d) (hs:(T.fork p v l r).size≤1048576):(forkN p v l.kid r.kid).right d=true∧(forkN p v l.kid r.kid).size≤1048576:=by
 have H:(T.fork p v l r).size=1+l.size+r.size:=rfl
 have G:=x0Z p v l.kid r.kid
 have C:=x0n l (by omega)
 have E:=x0n r (by omega)
 have A:=x1C hd l h.2.1
 have B:=x1C hd r h.2.2
 exact ⟨x1H hd h.1 A.1 B.1 A.2 B.2,by omega⟩
theorem x8s {p:List Int} {v:Bool} {l r:T} (hs:(T.fork p v l r).size≤1048576):(T.fork p v l r).kid=(forkN p v l.kid r.kid).says:=by
 have C:(T.fork p v l r).size=1+l.size+r.size:=rfl
 have B:=x0Z p v l.kid r.kid
 have E:=x0n l (by omega)
 have A:=x0n r (by omega)
 show (if (forkN p v l.kid r.kid).size≤1048576 then (forkN p v l.kid r.kid).says else PK.none)=_
 rw [if_pos (by omega)]
end Go.Proofs.YtinihaflmdihaaaGreat.Kt
