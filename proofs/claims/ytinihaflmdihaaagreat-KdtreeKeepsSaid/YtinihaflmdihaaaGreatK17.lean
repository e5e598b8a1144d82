/- PgPutL, NlSayPut, NlPut, KdPut. -/
import Derived.Test.YtinihaflmdihaaaGreatK9
import Derived.Test.YtinihaflmdihaaaGreatK16
set_option maxRecDepth 100000
set_option maxHeartbeats 8000000
set_option linter.all false
namespace Go.Proofs.YtinihaflmdihaaaGreat.Pg
open Go.RowKit
open List renaming setIfInBounds_toArray → yA, set_cons_zero → yB, set_cons_succ → yC
section
variable {Q QX:Nat→Prop} {w:World} {g:Nat} {mp:Option Nat} {cl:Option Addr} {s:S}
theorem SAt.f1 (h:SAt Q w g mp cl s):w.frozen? ⟨g,1,none⟩=false:=frozen_of_row w g 1 _ _ h.row
theorem SAt.aside {k:Nat} {w':World} (h:SAt Q w g mp cl s) (ho:Dk.Only (fun j=>j=k) w w') (hk:¬Q k):SAt Q w' g mp cl s:=h.only ho (fun _ hj e=>hk (e▸hj))
theorem SAt.clashed {p q:Option Addr} {m c n d:Nat} {t b:List Nat} (h:SAt Q w g mp cl s) (h1:TQ Q w p m c t) (h2:TQ QX w q n d b) (hlt:∀k,QX k→k<w.heap.size) (hok:S.ok ⟨s.W,some (t,b)⟩):
  SAt (fun k=>Q k∨QX k∨k=w.heap.size) ((w.alloc (.cells #[.slice p m c,.slice q n d] 112)).setCell ⟨g,1,none⟩ (.pointer (some ⟨w.heap.size,0,none⟩))) g mp (some ⟨w.heap.size,0,none⟩) ⟨s.W,some (t,b)⟩∧
  Dk.Only (fun j=>j=g) w ((w.alloc (.cells #[.slice p m c,.slice q n d] 112)).setCell ⟨g,1,none⟩ (.pointer (some ⟨w.heap.size,0,none⟩))):=by
 have hg:g<w.heap.size:=h.lt g h.mine
 have hb:=(Below.refl w.heap.size w).alloc (Nat.le_refl _) (.cells #[.slice p m c,.slice q n d] 112)
 have hnew:=heap_alloc_new w (.cells #[.slice p m c,.slice q n d] 112)
 have h3:=h.later hb
 have t1:=h1.keep (w':=w.alloc (.cells #[.slice p m c,.slice q n d] 112)) (fun k hk=>hb.block k (h.lt k hk))
 have t2:=h2.keep (w':=w.alloc (.cells #[.slice p m c,.slice q n d] 112)) (fun k hk=>hb.block k (hlt k hk))
 have hset:=Dk.Only.setCell (P:=fun j=>j=g) (w.alloc (.cells #[.slice p m c,.slice q n d] 112)) (a:=⟨g,1,none⟩) rfl (.pointer (some ⟨w.heap.size,0,none⟩))
 have hsz:=hset.size
 rw [World.size_alloc] at hsz
 have hrow:=heap_setCell_same (w.alloc (.cells #[.slice p m c,.slice q n d] 112)) g 1 _ _ (.pointer (some ⟨w.heap.size,0,none⟩)) h3.row
 refine ⟨⟨hrow,(h3.pages.turn_row h3.row hset).wide (fun _ k=>Or.inl k),Or.inr ⟨_,_,_,rfl,rfl,⟨Or.inr (Or.inr rfl),p,m,c,q,n,d,(hset.block _ (by simp) (by omega)).trans hnew,(t1.turn hset (fun z hz hz'=>text_not_row t1.tx hz hz' h3.row)).wide (fun _ k=>Or.inl k),(t2.turn hset (fun z hz hz'=>text_not_row t2.tx hz hz' h3.row)).wide (fun _ k=>Or.inr (Or.inl k))⟩⟩,Or.inl h.mine,?_,hok⟩,(Dk.Only.of_below _ hb).trans hset⟩
 intro k hk
 rcases hk with hk | hk | rfl
 ·have:=h.lt k hk;omega
 ·have:=hlt k hk;omega
 ·omega
end
theorem tq_of_own {w w':World} {q:Option Addr} {n c:Nat} {B:List Nat} (ho:w'.ownsRow w.heap.size 5 1 (.slice q n c) n (vals B)) (hn:n=B.length) (hB:Sm.allB B) (hl:B.length≤100000):TQ (fun k=>w.heap.size≤k∧k<w'.heap.size) w' q n c B:=
 ⟨by subst hn;exact tx_of_owns ho hB,fun x hx _=>ho.lt x.block (by rw [hx];rfl),hl⟩
theorem only_setRow (w:World) (g:Nat) (cs:Array Value):Dk.Only (fun j=>j=g) w (w.setRow g cs):=
 ⟨rfl,rfl,rfl,by simp [World.setRow],fun k _ hn=>by simp only [World.setRow];rw [Array.getElem?_modify,if_neg (fun e=>hn e.symm)]⟩
theorem PL.mine {w:World} {g:Nat} {Q:Nat→Prop} {s:S} (h:PL w g Q s):Q g:=by obtain ⟨_,_,h⟩:=h;exact h.mine
def PutPost (Q:Nat→Prop) (w:World) (g:Nat) (s':S) (w':World):Prop:=(∃Q',PL w' g Q' s'∧∀k,Q' k→Q k∨w.heap.size≤k)∧Dk.Only Q w w'∧Mst g w w'
theorem putPost_fin {w wX:World} {g r4:Nat} {Q Q':Nat→Prop} {mp0 mp:Option Nat} {cl:Option Addr} {s':S} (h0:w.cell? ⟨g,0,none⟩=some (.map mp0)) (hm:∀b,mp0=some b→mp=some b) (h:SAt Q' wX g mp cl s') (ho:Dk.Only Q w wX) (hn:¬Q' r4) (hq:∀k,Q' k→Q k∨w.heap.size≤k) (hr:w.heap.size≤r4) (cs:Array Value):PutPost Q w g s' (wX.setRow r4 cs):=
 ⟨⟨Q',⟨_,_,h.aside (only_setRow wX r4 cs) hn⟩,hq⟩,only_old ((ho.mono (Q:=fun k=>Q k∨k=r4) (fun k e=>Or.inl e)).trans ((only_setRow wX r4 cs).mono (fun k e=>Or.inr e))) (fun k e=>e.imp id (fun e=>by omega)),fun b hb=>by
  rw [h0] at hb
  have e:=hm b (by simpa using hb)
  rw [← e]
  exact (h.aside (only_setRow wX r4 cs) hn).c0⟩
theorem pput_any {w:World} {g:Nat} {Q:Nat→Prop} {s:S} (b:List Nat) (p:Option Addr) (n c:Nat) (h:PL w g Q s) (hT:Tx w p n c b) (hn:n≤100000) (hsm:s.W.length<100000):
  Calls Tryz.prog 208 #[.pointer (some ⟨g,0,none⟩),.slice p n c] w fun e w'=>e= .returned (.agg (u8s (sumOf b)))∧PutPost Q w g (s.put b) w':=by
 obtain ⟨mp,cl,h⟩:=h
 have HC0:=yH h.c0
 have hz:=(zero_of_info Z25).1
 obtain ⟨D,hD⟩:∃D,D=sumOf b:=⟨_,rfl⟩
 have HDL:=yH (show D.length=32 from by rw [hD];rfl)
 have HDO:=yH (show Sm.allB D from by rw [hD];exact sumOf_ok b)
 have HNB:=yH (show n=b.length from hT.size)
 have h0:=(Below.refl w.heap.size w).alloc (Nat.le_refl _) (.cells (u8s (zeros 32)) 30)
 have HB0:=yH h0
 have R0:=yH (heap_alloc_new w (.cells (u8s (zeros 32)) 30))
 have T0:=yH (hT.later h0)
 have H0:=yH (h.later h0)
 have HQL:=yH h.lt
 have HTO:=yH hT.ok
 have HD:=yH hD
 have HOK:=yH (S.put_ok h.ok hT.ok)
 clear h hT h0 hD
 go_enter Tryz.func208,Tryz.ntmps208
 go_wp2_with fail
 generalize w.alloc (.cells (u8s (zeros 32)) 30)=w1 at *
 generalize hr4:w.heap.size=r4 at *
 refine (sum_any' b p n c w1 T0.out hn).mono ?_
 rintro _ w2 ⟨rfl,b2⟩
 rw [← HD.out]
 have HB2:=yH (HB0.out.trans (b2.mono (hr4▸HB0.out.size)))
 have R2:=yH ((b2.block _ (yL R0.out)).trans R0.out)
 have T2:=yH (T0.out.later b2)
 have H2:=yH (H0.out.later b2)
 have hba:=(Below.refl w2.heap.size w2).alloc (Nat.le_refl _) (.cells (u8s D) 30)
 have HB3:=yH (HB2.out.trans (hba.mono (hr4▸HB2.out.size)))
 have R3:=yH ((hba.block _ (yL R2.out)).trans R2.out)
 have T3:=yH (T2.out.later hba)
 have H3:=yH (H2.out.later hba)
 have R5:=yH (heap_alloc_new w2 (.cells (u8s D) 30))
 have RZ:=yH (heap_alloc_new w2 (.cells (u8s (zeros 32)) 30))
 have HSR:=yH (setRow_alloc w2 (u8s (zeros 32)) (u8s D) 30)
 have HR45:=yH (show r4<w2.heap.size from by have:=(yL R2.out);exact this)
 clear hba b2 HB0 R0 T0 H0 HB2 R2 T2 H2
 go_upto_region 2 with (refine wpList_store_row (by rfl) 30 _ _ (by rfl) w2.heap.size (u8s D) (by rfl) (by rfl) _ _ RZ.out (by rw [u8s_size,HDL.out];exact S25) (by rw [u8s_size,u8s_size,HDL.out];rfl) (u8s_one _) ?_)
 rw [HSR.out]
 generalize w2.alloc (.cells (u8s D) 30)=w3 at *
 generalize w2.heap.size=r5 at *
 clear RZ HSR
 obtain ⟨pp,mm,cc,hl,hnone,hsome⟩:=look_any H3.out.pages HDL.out HDO.out
 have C03:=yH H3.out.c0
 have HNN:=yH hnone
 have HSS:=yH hsome
 clear hnone hsome
 simp only [Act.put]
 have hkeep:∀s':S,s'=s→PutPost Q w g s' (w3.setRow r4 (u8s D)):=fun s' e=>by
  rw [e]
  exact putPost_fin HC0.out (fun b e=>e) H3.out (Dk.Only.of_below _ (by rw [hr4];exact HB3.out)) (fun e=>by have:=HQL.out _ e;omega) (fun k hk=>Or.inl hk) (by omega) _
 have HKE:=yH hkeep
 clear hkeep
 by_cases hi:idx D s.W<s.W.length
 ·rw [decide_eq_true hi] at hl
  have HL:=yH hl
  obtain ⟨t,ht⟩:∃t,textAt s.W D=some t:=⟨_,textAt_some hi⟩
  have HT:=yH (HSS.out t ht)
  have HPT:=yH ht
  have hmt:mm≤100000:=by have:=HT.out.tx.size;have:=HT.out.le;omega
  clear hl ht hi HSS HNN
  refine wp_region_held_drew (S:=fun w'=>w'.heap=w3.heap) (by kernel_rfl) rfl (fun hHeld=>?_)
  refine tK 0 ?_
  refine tK 1 ?_
  refine tK 2 ?_
  refine tQ 3 ?_ ?_ ?_
  rotate_left
  ·intro w' hSw
   have c0:=(World.cell?_of_block (w:=w3) (a:=⟨g,0,none⟩) (by rw [hSw])).trans C03.out
   go_simp
   try with_reducible rfl
  refine tQ 4 ?_ ?_ ?_
  rotate_left
  ·intro w' hSw
   refine Eq.trans (b:=Result.ok (Next.value (.agg (u8s D))) w') ?_ ?_
   ·exact op_load_dig (by rfl) (by rfl) HDL.out (range_of_row' ((congrArg (fun h=>h[r5]?) hSw).trans R5.out))
   ·with_reducible rfl
  refine tQ 5 ?_ ?_ ?_
  rotate_left
  ·intro w' hSw
   refine Eq.trans (b:=Result.ok (Next.value (.tuple #[.slice pp mm cc,.bool true])) w') ?_ ?_
   ·exact op_look (by rfl) (by rfl) (by rfl) (HL.out w' hSw)
   ·with_reducible rfl
  refine tK 6 ?_
  refine tK 7 ?_
  refine tK 8 ?_
  refine tK 9 ?_
  refine tK 10 ?_
  refine wpAnyH_done (by kernel_rfl) ?_ _
  have HB5:=yH (HB3.out.drew)
  have R55:=yH (show w3.drew.heap[r5]? =_ from R5.out)
  have R35:=yH (show w3.drew.heap[r4]? =_ from R3.out)
  have T5:=yH (T3.out.later (Below.refl _ _).drew)
  have H5:=yH (H3.out.later (Below.refl _ _).drew)
  have HKE5:=yH (show ∀s':S,s'=s→PutPost Q w g s' (w3.drew.setRow r4 (u8s D)) from fun s' e=>by
   rw [e]
   exact putPost_fin HC0.out (fun b e=>e) H5.out (Dk.Only.of_below _ (by rw [hr4];exact HB5.out)) (fun e=>by have:=HQL.out _ e;omega) (fun k hk=>Or.inl hk) (by omega) _)
  have HT5:=yH (HT.out.keep (w':=w3.drew) (fun _ _=>rfl))
  have C1:=H5.out.c1
  clear hHeld HB3 R5 R3 T3 H3 HL HKE HT
  generalize w3.drew=w5 at *
  have HTT:=yH HT5.out.tx
  have HCL:=yH (show s.put b=⟨s.W,match s.cl with | some x=>some x | none=>if t=b then none else some (t,b)⟩ from by
   have h1:idx (sumOf b) s.W<s.W.length:=by rw [← HD.out];exact textAt_lt HPT.out
   have h2:textAt s.W (sumOf b)=some t:=by rw [← HD.out];exact HPT.out
   unfold S.put putW
   rw [if_pos h1,h2]
   cases s.cl<;>rfl)
  cases cl with
  | some ca=>
   have HS:=yH (show s.put b=s from by
    rw [HCL.out]
    rcases H5.out.clash with ⟨h1,_⟩ | ⟨_,a,b',_,h2,_⟩
    ·cases h1
    ·cases s with | mk W c=>cases h2;rfl)
   go_wp2_with (first | (refine wpList_load_row (by rfl) 30 (.tmp 5) (by rfl) r5 (by rfl) 30 (u8s D) (0,0) _ R55.out A25 rfl (by rw [u8s_size,HDL.out];exact S25) ?_) | (refine wpList_store_row (by rfl) 30 _ _ (by rfl) r4 (u8s D) (by rfl) (by rfl) _ _ R35.out (by rw [u8s_size,HDL.out];exact S25) (by rw [u8s_size,u8s_size,HDL.out];rfl) (u8s_one _) ?_))
   exact ret_row 4 (by kernel_rfl) r4 _ _ A25 S25 rfl (setRow_heap _ _ _ _ _ _ R35.out) (by rw [u8s_size];exact HDL.out) ⟨by rw [HD.out],HKE5.out _ HS.out⟩
  | none=>
   have hcn:s.cl=none:=by
    rcases H5.out.clash with ⟨_,h1⟩ | ⟨_,_,_,h1,_⟩
    ·exact h1
    ·cases h1
   by_cases htb:t=b
   ·have HS:=yH (show s.put b=s from by
     rw [HCL.out,if_pos htb,hcn]
     cases s with | mk W c=>cases hcn;rfl)
    have HEQ:=yH (decide_eq_true htb)
    clear htb hcn
    go_wp2_with (first | (refine wpList_load_row (by rfl) 30 (.tmp 5) (by rfl) r5 (by rfl) 30 (u8s D) (0,0) _ R55.out A25 rfl (by rw [u8s_size,HDL.out];exact S25) ?_) | (refine wpList_store_row (by rfl) 30 _ _ (by rfl) r4 (u8s D) (by rfl) (by rfl) _ _ R35.out (by rw [u8s_size,HDL.out];exact S25) (by rw [u8s_size,u8s_size,HDL.out];rfl) (u8s_one _) ?_) | (go_at_call 250;refine (bequal_any HTT.out T5.out).mono ?_;rintro _ _ ⟨rfl,rfl⟩;rw [HEQ.out]))
    exact ret_row 4 (by kernel_rfl) r4 _ _ A25 S25 rfl (setRow_heap _ _ _ _ _ _ R35.out) (by rw [u8s_size];exact HDL.out) ⟨by rw [HD.out],HKE5.out _ HS.out⟩
   ·have HS:=yH (show s.put b=⟨s.W,some (t,b)⟩ from by rw [HCL.out,hcn];simp only [if_neg htb])
    have HEQ:=yH (decide_eq_false htb)
    clear htb hcn
    have OKC:=yH (show S.ok ⟨s.W,some (t,b)⟩ from by rw [← HS.out];exact HOK.out)
    go_upto_region 6 with (first | (go_at_call 250;refine (bequal_any HTT.out T5.out).mono ?_;rintro _ _ ⟨rfl,rfl⟩;rw [HEQ.out]))
    go_wp2_with fail
    refine (bclone_any T5.out hn).mono ?_
    rintro _ w42 ⟨q42,c42,rfl,o42,b42⟩
    have T42:=tq_of_own o42 HNB.out HTO.out (by rw [← HNB.out];exact hn)
    have H42:=H5.out.later b42
    have HT42:=HT5.out.keep (w':=w42) (fun k hk=>b42.block k (H5.out.lt k hk))
    obtain ⟨HCX,hoX⟩:=H42.clashed HT42 T42 (fun k hk=>hk.2) OKC.out
    have hba:=(Below.refl w42.heap.size w42).alloc (Nat.le_refl _) (.cells #[.slice pp mm cc,.slice q42 n c42] 112)
    have cA:=(H42.later hba).c1
    have fA:=(H42.later hba).f1
    have hg4:g<r4:=HQL.out _ H5.out.mine
    have RR4:=yH ((hoX.block r4 (Nat.lt_of_lt_of_le (yL R35.out) b42.size) (by omega)).trans ((b42.block _ (yL R35.out)).trans R35.out))
    have RR5:=yH ((hoX.block r5 (Nat.lt_of_lt_of_le (yL R55.out) b42.size) (by have:=HR45.out;omega)).trans ((b42.block _ (yL R55.out)).trans R55.out))
    have HFIN:=yH (show PutPost Q w g (s.put b) (((w42.alloc (.cells #[.slice pp mm cc,.slice q42 n c42] 112)).setCell ⟨g,1,none⟩ (.pointer (some ⟨w42.heap.size,0,none⟩))).setRow r4 (u8s D)) from by
     rw [HS.out]
     have hs5:r4<w5.heap.size:=(yL R35.out)
     have hbw:w.heap.size≤w5.heap.size:=by omega
     have hb4:=b42.size
     refine putPost_fin HC0.out (fun b e=>e) HCX ((Dk.Only.of_below _ (by rw [hr4];exact HB5.out.trans (b42.mono (by omega)))).trans (hoX.mono (fun k e=>by rw [e];exact H5.out.mine))) (fun e=>?_) (fun k hk=>?_) (by omega) _
     ·rcases e with e | ⟨e,_⟩ | e
      ·have:=HQL.out _ e;omega
      ·omega
      ·omega
     ·rcases hk with e | ⟨e,_⟩ | e
      ·exact Or.inl e
      ·right;omega
      ·right;omega)
    clear o42 b42 T42 H42 HT42 HCX hoX hba HT5 HTT C1
    go_wp2_with (first | (refine wpList_load_row (by rfl) 30 (.tmp 5) (by rfl) r5 (by rfl) 30 (u8s D) (0,0) _ RR5.out A25 rfl (by rw [u8s_size,HDL.out];exact S25) ?_) | (refine wpList_store_row (by rfl) 30 _ _ (by rfl) r4 (u8s D) (by rfl) (by rfl) _ _ RR4.out (by rw [u8s_size,HDL.out];exact S25) (by rw [u8s_size,u8s_size,HDL.out];rfl) (u8s_one _) ?_))
    exact ret_row 4 (by kernel_rfl) r4 _ _ A25 S25 rfl (setRow_heap _ _ _ _ _ _ RR4.out) (by rw [u8s_size];exact HDL.out) ⟨by rw [HD.out],HFIN.out⟩
 ·rw [decide_eq_false hi] at hl
  have HL:=yH hl
  have HPN:=yH (textAt_none hi)
  have HNI:=yH hi
  clear hl hi HSS HNN
  refine wp_region_held_drew (S:=fun w'=>w'.heap=w3.heap) (by kernel_rfl) rfl (fun hHeld=>?_)
  refine tK 0 ?_
  refine tK 1 ?_
  refine tK 2 ?_
  refine tQ 3 ?_ ?_ ?_
  rotate_left
  ·intro w' hSw
   have c0:=(World.cell?_of_block (w:=w3) (a:=⟨g,0,none⟩) (by rw [hSw])).trans C03.out
   go_simp
   try with_reducible rfl
  refine tQ 4 ?_ ?_ ?_
  rotate_left
  ·intro w' hSw
   refine Eq.trans (b:=Result.ok (Next.value (.agg (u8s D))) w') ?_ ?_
   ·exact op_load_dig (by rfl) (by rfl) HDL.out (range_of_row' ((congrArg (fun h=>h[r5]?) hSw).trans R5.out))
   ·with_reducible rfl
  refine tQ 5 ?_ ?_ ?_
  rotate_left
  ·intro w' hSw
   refine Eq.trans (b:=Result.ok (Next.value (.tuple #[.slice pp mm cc,.bool false])) w') ?_ ?_
   ·exact op_look (by rfl) (by rfl) (by rfl) (HL.out w' hSw)
   ·with_reducible rfl
  refine tK 6 ?_
  refine tK 7 ?_
  refine tK 8 ?_
  refine tK 9 ?_
  refine tK 10 ?_
  refine wpAnyH_done (by kernel_rfl) ?_ _
  have HB5:=yH (HB3.out.drew)
  have R55:=yH (show w3.drew.heap[r5]? =_ from R5.out)
  have R35:=yH (show w3.drew.heap[r4]? =_ from R3.out)
  have T5:=yH (T3.out.later (Below.refl _ _).drew)
  have H5:=yH (H3.out.later (Below.refl _ _).drew)
  have HKE5:=yH (show ∀s':S,s'=s→PutPost Q w g s' (w3.drew.setRow r4 (u8s D)) from fun s' e=>by
   rw [e]
   exact putPost_fin HC0.out (fun b e=>e) H5.out (Dk.Only.of_below _ (by rw [hr4];exact HB5.out)) (fun e=>by have:=HQL.out _ e;omega) (fun k hk=>Or.inl hk) (by omega) _)
  have HPUT:=yH (show s.put b=⟨s.W++[(D,b)],s.cl⟩ from by
   have h1:¬idx (sumOf b) s.W<s.W.length:=by rw [← HD.out];exact HNI.out
   have h2:textAt s.W (sumOf b)=none:=textAt_none h1
   unfold S.put putW
   rw [if_neg h1,h2,← HD.out]
   cases s.cl<;>rfl)
  clear hHeld HB3 R5 R3 T3 H3 HL HKE HKE5
  generalize w3.drew=w5 at *
  go_upto_region 4 with fail
  refine wp_region_held_drew (S:=fun w'=>w'.heap[r5]? =some (.cells (u8s D) 30 (0,0))) (by kernel_rfl) R55.out (fun hHeld=>?_)
  refine tK 0 ?_
  refine tQ 1 ?_ ?_ ?_
  rotate_left
  ·intro w' hSw
   refine Eq.trans (b:=Result.ok (Next.value (.agg (u8s D))) w') ?_ ?_
   ·exact op_load_dig (by rfl) (by rfl) HDL.out (range_of_row' hSw)
   ·with_reducible rfl
  refine tK 2 ?_
  refine rY [3] ?_
  refine rC (fun K hK=>?_) AllReadyH.nil
  go_simp
  refine (bclone_any (T5.out.later (Below.refl _ _).drew) hn).mono ?_
  rintro _ w25 ⟨q25,c25,rfl,o25,b25⟩
  have b25':=(Below.refl w5.heap.size w5).drew.trans b25
  have B25:=yH b25'
  have T25:=yH (tq_of_own (w:=w5.drew) o25 HNB.out HTO.out (by rw [← HNB.out];exact hn))
  have H25:=yH (H5.out.later b25')
  have R25:w25.heap[r5]? =some (.cells (u8s D) 30 (0,0)):=(b25'.block _ (yL R55.out)).trans R55.out
  have HC:=yH R25
  clear o25 b25 b25'
  try go_wp2_with fail
  refine hK.out _ _ R25 (fun hHeld=>?_)
  clear hK K
  try simp only [Act.put,yA,yB,yC]
  refine rY [4] ?_
  refine rC (fun K hK=>?_) AllReadyH.nil
  go_simp
  refine (add_any H25.out HDL.out HDO.out HNI.out T25.out (fun k hk=>hk.2) (by rw [← HPUT.out];exact HOK.out) hsm).mono ?_
  rintro _ w26 ⟨rfl,p26⟩
  have R26:w26.heap[r5]? =some (.cells (u8s D) 30 (0,0)):=(p26.2.block _ (yL HC.out) (fun e=>by have:=HQL.out _ e;have:=HR45.out;omega)).trans HC.out
  have P26:=yH p26
  clear p26
  try go_wp2_with fail
  refine hK.out _ _ R26 (fun hHeld=>?_)
  clear hK K
  try simp only [Act.put,yA,yB,yC]
  refine wpAnyH_done (by kernel_rfl) ?_ _
  have RR5:=yH hHeld
  have RR4:=yH ((P26.out.2.block _ (Nat.lt_of_lt_of_le (yL R35.out) B25.out.size) (fun e=>by have:=HQL.out _ e;omega)).trans ((B25.out.block _ (yL R35.out)).trans R35.out))
  have HFIN:=yH (show PutPost Q w g (s.put b) (w26.setRow r4 (u8s D)) from by
   obtain ⟨⟨mp',h26,hm26⟩,ho⟩:=P26.out
   rw [HPUT.out]
   have hs5:r4<w5.heap.size:=(yL R35.out)
   have hbw:w.heap.size≤w5.heap.size:=by omega
   have hsw:w5.drew.heap.size=w5.heap.size:=rfl
   refine putPost_fin HC0.out hm26 h26 ((Dk.Only.of_below _ (by rw [hr4];exact HB5.out.trans (B25.out.mono (by omega)))).trans ho) (fun e=>?_) (fun k hk=>?_) (by omega) _
   ·rcases e with e | ⟨e,_⟩ | ⟨e,_⟩
    ·have:=HQL.out _ e;omega
    ·omega
    ·have:=B25.out.size;omega
   ·rcases hk with e | ⟨e,_⟩ | ⟨e,_⟩
    ·exact Or.inl e
    ·right;omega
    ·have:=B25.out.size;right;omega)
  clear P26 B25 T25 H25 hHeld HC
  go_wp2_with (first | (refine wpList_load_row (by rfl) 30 (.tmp 5) (by rfl) r5 (by rfl) 30 (u8s D) (0,0) _ RR5.out A25 rfl (by rw [u8s_size,HDL.out];exact S25) ?_) | (refine wpList_store_row (by rfl) 30 _ _ (by rfl) r4 (u8s D) (by rfl) (by rfl) _ _ RR4.out (by rw [u8s_size,HDL.out];exact S25) (by rw [u8s_size,u8s_size,HDL.out];rfl) (u8s_one _) ?_))
  exact ret_row 4 (by kernel_rfl) r4 _ _ A25 S25 rfl (setRow_heap _ _ _ _ _ _ RR4.out) (by rw [u8s_size];exact HDL.out) ⟨by rw [HD.out],HFIN.out⟩
end Go.Proofs.YtinihaflmdihaaaGreat.Pg
namespace Go.Proofs.YtinihaflmdihaaaGreat.Nd
open Go.RowKit Go.Proofs.YtinihaflmdihaaaGreat.Dk Go.Proofs.YtinihaflmdihaaaGreat.Pg
def Aw (Q:Nat→Prop) (kd:Kd):Prop:=∀r∈kd.rows,∀x,r.p=some x→r.R≠[]→¬Q x.block
def SayPut (w:World) (g:Nat) (Q:Nat→Prop) (s:Pg.S) (N:PN) (d:Int) (e:Ending) (w':World):Prop:=
 ((N.right d=true∧N.size≤1048576)∧∃kd:Kd,e= .returned (.tuple #[.agg kd.cells.toArray,.int .i64 0])∧kd.pk=N.says∧kd.Ok w'∧Fsh w kd∧(∃Q',PL w' g Q' (s.put N.bytes)∧(∀k,Q' k→Q k∨w.heap.size≤k)∧Aw Q' kd)∧Only Q w w'∧Mst g w w')∨
 (¬(N.right d=true∧N.size≤1048576)∧e= .returned (.tuple #[.agg kd0.cells.toArray,.int .i64 1])∧Below w.heap.size w w')
theorem sayput_bad {w w':World} {g:Nat} {Q:Nat→Prop} {s:Pg.S} {N:PN} {d:Int} (h:¬(N.right d=true∧N.size≤1048576)) (hb:Below w.heap.size w w'):SayPut w g Q s N d (.returned (.tuple #[.agg kd0.cells.toArray,.int .i64 1])) w':=Or.inr ⟨h,rfl,hb⟩
theorem say_put (kind:Nat) (hkd:kind<256) (p:Option Addr) (n c:Nat) (q:Option Addr) (m f:Nat) (E:List En) (K:List Kd) (d:Int) (w:World) (hE:EntsIn w p n c E) (hK:KidsIn w q m f K) {g:Nat} {Q:Nat→Prop} {s:Pg.S} (hp:PL w g Q s) (hsl:s.W.length<100000):
  Calls Tryz.prog 150 #[.agg #[.int .u8 kind,.slice p n c,.slice q m f],.int .i64 d,.func (.func 208) #[.pointer (some ⟨g,0,none⟩)] #[]] w (SayPut w g Q s (pnOf kind E K) d):=by
 have HPL:=yH hp
 have HQL:=yH (show ∀k,Q k→k<w.heap.size from hp.lt)
 have HSL:=yH hsl
 clear hp hsl
 have hb1:Below w.heap.size w (w.alloc (.cells #[.int .u8 kind,.slice p n c,.slice q m f] 81)):=(Below.refl _ _).alloc (Nat.le_refl _) _
 have hn1:=NodeAt.start w kind p n c q m f
 have z1:(w.alloc (.cells #[.int .u8 kind,.slice p n c,.slice q m f] 81)).heap.size=w.heap.size+1:=by simp
 have HKD:=yH hkd
 have HE:=yH hE
 have HK:=yH hK
 obtain ⟨du,hdu,hdr⟩:=UKd
 have HDU:=yH hdu
 have HDR:=yH hdr
 have HZ:=yH (zero_of_info kz)
 clear hkd hE hK hdu hdr
 have hz0:=HZ.out.1
 go_enter Tryz.func150,Tryz.ntmps150
 go_upto_region 1 with fail
 have hb2:Below (w.heap.size+1) (w.alloc (.cells #[.int .u8 kind,.slice p n c,.slice q m f] 81)) ((w.alloc (.cells #[.int .u8 kind,.slice p n c,.slice q m f] 81)).alloc (.cells kd0.cells.toArray 34)):=(Below.refl _ _).alloc (by omega) _
 have r2:=heap_alloc_new (w.alloc (.cells #[.int .u8 kind,.slice p n c,.slice q m f] 81)) (.cells kd0.cells.toArray 34)
 rw [z1] at r2
 have HN2:=yH (hn1.later (by rw [z1];exact hb2))
 have HB2:=yH (hb1.trans (hb2.mono (by omega)))
 have HR2:=yH r2
 clear hb1 hn1 z1 hb2 r2
 generalize (w.alloc (.cells #[.int .u8 kind,.slice p n c,.slice q m f] 81)).alloc (.cells kd0.cells.toArray 34)=w2 at *
 have HENC:=yH (encode_any kind HKD.out p n c q m f E K d w2 (HE.out.later HB2.out) (HK.out.later HB2.out))
 have HTAL:=yH (fun w3 (h:Below w.heap.size w w3) (hr:(pnOf kind E K).right d=true)=>tally_any kind p n c q m f E K d w3 (HE.out.later h) (HK.out.later h) hr)
 have HLN:=yH (fun (hr:(pnOf kind E K).right d=true)=>node_bytes_len (PN.fit hr) (fun k hk=>by obtain ⟨y,hy,rfl⟩:=List.mem_map.1 hk;exact (HK.out.each y hy).len))
 generalize pnOf kind E K=N at *
 obtain ⟨t0,t1,t2⟩:=HN2.out.cells
 cases hr:N.right d with
 | false=>
  have HNR:=yH (show ¬(N.right d=true∧N.size≤1048576) from fun h=>by rw [hr] at h;exact absurd h.1 (by simp))
  have HRR:=yH hr
  clear hr
  go_wp2_with (first
   | (go_at_call 205;refine HENC.out.mono ?_;rintro e w3 ⟨b3,h3⟩;obtain rfl:e= .returned (.tuple #[.slice Option.none 0 0,.int .i64 1]):=(h3.elim (fun h=>by rw [HRR.out] at h;exact absurd h.1 (by simp)) (fun h=>h.2));have HR3:=yH ((b3.block _ (yL HR2.out)).trans HR2.out);have HB3:=yH (HB2.out.trans (b3.mono HB2.out.size));clear b3 h3)
   | (refine wpList_build (by rfl) (by rfl) kd0_built ?_)
   | (refine wpList_store_row (by rfl) 34 _ _ (by rfl) (w.heap.size+1) kd0.cells.toArray (by rfl) (by rfl) _ _ HR3.out (by rw [List.size_toArray,kd0_size];exact SKd) rfl (all_oneCell_toArray Kd.one) ?_))
  have r9:=setRow_heap _ (w.heap.size+1) _ kd0.cells.toArray _ _ HR3.out
  have hb9:Below (w.heap.size+1) w3 (w3.setRow (w.heap.size+1) kd0.cells.toArray):=Below.setRow (Below.refl _ _) (Nat.le_refl _) _
  refine ret_str2 6 7 (by kernel_rfl) (w.heap.size+1) _ kd0.cells.toArray _ HDU.out HDR.out (by rw [List.size_toArray,kd0_size];exact SKd) (by rfl) (by rfl) r9 ?_
  exact sayput_bad HNR.out (HB3.out.trans (hb9.mono (by omega)))
 | true=>
  have HRR:=yH hr
  have HLB:=yH (HLN.out hr)
  clear hr
  go_upto_region 5 with (first
   | (go_at_call 205;refine HENC.out.mono ?_;rintro e w3 ⟨b3,h3⟩;obtain ⟨q9,c9,rfl,o9,ok9⟩:=(h3.elim (fun h=>h.2) (fun h=>by rw [HRR.out] at h;exact absurd h.1 (by simp)));have HT3:=yH (tx_of_owns o9 ok9);have HN3:=yH (HN2.out.later b3);have HR3:=yH ((b3.block _ (yL HR2.out)).trans HR2.out);have HB3:=yH (HB2.out.trans (b3.mono HB2.out.size));obtain ⟨t0,t1,t2⟩:=HN3.out.cells;have HTL:=yH (HTAL.out w3 HB3.out HRR.out);clear b3 h3 o9 ok9)
   | (go_at_call 206;refine HTL.out.mono ?_;rintro e w4 ⟨kd,rfl,hpk,hok4,hfs,b4⟩;have HPK:=yH hpk;have HOK4:=yH hok4;have HFS:=yH hfs;have HT4:=yH (HT3.out.later b4);have HR4:=yH ((b4.block _ (yL HR3.out)).trans HR3.out);have HB4:=yH (HB3.out.trans (b4.mono HB3.out.size));have HS34:=yH b4.size;clear hpk hok4 hfs b4)
   | (refine wpList_store_row (by rfl) 34 (.tmp 10) (.tmp 22) (by rfl) w4.heap.size kd.cells.toArray (by rfl) (by rfl) _ _ (heap_alloc_new w4 _) (by rw [List.size_toArray,Kd.cells_length HOK4.out.len];exact SKd) (by simp only [List.size_toArray,Kd.cells_length HOK4.out.len,kd0_size]) (all_oneCell_toArray Kd.one) ?_;rw [setRow_alloc]))
  have hrx:=heap_alloc_new w4 (.cells kd.cells.toArray 34)
  have hba:Below w4.heap.size w4 (w4.alloc (.cells kd.cells.toArray 34)):=(Below.refl _ _).alloc (Nat.le_refl _) _
  have HT5:=yH (HT4.out.later hba)
  have HR5:=yH ((hba.block _ (yL HR4.out)).trans HR4.out)
  have HB5:=yH (HB4.out.trans (hba.mono HB4.out.size))
  have HOK5:=yH (HOK4.out.later hba)
  have HXR:=yH hrx
  have HGX:=yH (show w.heap.size+1<w3.heap.size∧w3.heap.size≤w4.heap.size from ⟨(yL HR3.out),HS34.out⟩)
  have HFX:=yH (show ∀r∈kd.rows,r.Ok w4∧(∀x,r.p=some x→r.R≠[]→w3.heap.size≤x.block∧x.block<w4.heap.size) from fun r hr=>by
   have hro:r.Ok w4:=by
    simp only [Kd.rows,List.mem_cons,List.not_mem_nil,or_false] at hr
    rcases hr with rfl | rfl | rfl
    ·exact HOK4.out.lo
    ·exact HOK4.out.hi
    ·exact HOK4.out.key
   exact ⟨hro,fun x hx hR=>⟨HFS.out r hr x hx hR,rintsLt hro.ints hx hR⟩⟩)
  have hsz:w4.heap.size<(w4.alloc (.cells kd.cells.toArray 34)).heap.size:=by simp
  have HSZ:=yH hsz
  generalize w4.alloc (.cells kd.cells.toArray 34)=w5 at *
  clear hrx hba hsz HT4 HR4 HT3 HR3 HN3 HTL HENC HTAL HR2 HN2 HB2 t0 t1 t2 HB3 HB4
  generalize w4.heap.size=gk at *
  have c35:=(kat_row HXR.out HOK5.out.len).size
  rw [Nat.zero_add] at c35
  have hks:kd.size=N.size:=congrArg PK.size HPK.out
  by_cases hz:1048576<kd.size
  ·have HNR:=yH (show ¬(N.right d=true∧N.size≤1048576) from fun h=>by have:=h.2;omega)
   clear hks
   go_wp2_with (first
    | (refine wpList_build (by rfl) (by rfl) kd0_built ?_)
    | (refine wpList_store_row (by rfl) 34 _ _ (by rfl) (w.heap.size+1) kd0.cells.toArray (by rfl) (by rfl) _ _ HR5.out (by rw [List.size_toArray,kd0_size];exact SKd) rfl (all_oneCell_toArray Kd.one) ?_))
   have r9:=setRow_heap _ (w.heap.size+1) _ kd0.cells.toArray _ _ HR5.out
   have hb9:Below (w.heap.size+1) w5 (w5.setRow (w.heap.size+1) kd0.cells.toArray):=Below.setRow (Below.refl _ _) (Nat.le_refl _) _
   refine ret_str2 6 7 (by kernel_rfl) (w.heap.size+1) _ kd0.cells.toArray _ HDU.out HDR.out (by rw [List.size_toArray,kd0_size];exact SKd) (by rfl) (by rfl) r9 ?_
   exact sayput_bad HNR.out (HB5.out.trans (hb9.mono (by omega)))
  ·have HGD:=yH (show N.right d=true∧N.size≤1048576 from ⟨HRR.out,by omega⟩)
   obtain ⟨D,hD⟩:∃D,D=sumOf N.bytes:=⟨_,rfl⟩
   have HDE:=yH hD
   have HDL:=yH (show D.length=32 from by rw [hD];rfl)
   have HDO:=yH (show Sm.allB D from by rw [hD];exact sumOf_ok _)
   clear hks hD
   have HRO5:=yH (kd_rows_ok HOK5.out)
   have HPL5:=yH (HPL.out.keep (fun _=>False) (Only.of_below _ HB5.out) (fun _ _ e=>e))
   have hsm:=Pg.pput_any N.bytes q9 N.bytes.length c9 HPL5.out HT5.out HLB.out HSL.out
   rw [← HDE.out] at hsm
   have HSM:=yH hsm
   clear hsm
   go_upto_region 8 with (first
    | (go_at_call 208;refine HSM.out.mono ?_;rintro e w6 ⟨rfl,⟨Q6,hp6,hq6⟩,ho6,hms6⟩;have HMS6:=yH hms6;clear hms6;have HX6:=yH ((ho6.block _ (yL HXR.out) (fun h=>by have:=HQL.out _ h;have:=HGX.out;omega)).trans HXR.out);have HR6:=yH ((ho6.block _ (yL HR5.out) (fun h=>by have:=HQL.out _ h;omega)).trans HR5.out);have HRW6:=yH (show ∀r∈kd.rows,r.Ok w6 from fun r hr=>rw_keep (HRO5.out r hr) (fun x hx hR=>by have h9:=(HFX.out r hr).2 x hx hR;exact ho6.block _ (by have:=HSZ.out;omega) (fun h=>by have:=HQL.out _ h;have:=HGX.out;omega)));have HP6:=yH hp6;have HQ6:=yH hq6;have HOO6:=yH ho6;clear hp6 hq6 ho6)
    | (refine wpList_store_mid (by rfl) 30 _ _ (by rfl) gk 0 (u8s D) (by rfl) (by rfl) (by rw [u8s_size,HDL.out];exact kd_there HX6.out HOK5.out.len) (by rw [u8s_size,HDL.out];exact S25) (u8s_one _) ?_))
   have r7:=kd_sum (D:=D) HX6.out HOK5.out.len HDL.out
   have o7:=only_cells w6 gk 0 (vals D)
   rw [show (u8s D).toList=vals D from rfl]
   have HO7:=yH o7
   have HX7:=yH r7
   have HR7:=yH ((o7.block _ (yL HR6.out) (by have:=HGX.out;omega)).trans HR6.out)
   clear o7 r7
   generalize w6.setCells gk 0 (vals D)=w7 at *
   have HCL:=yH (show ({kd with sum:=D}:Kd).cells.length=37 from Kd.cells_length HDL.out)
   have HRG:=yH (range_kd HX7.out)
   clear c35
   go_wp2_with (first
    | (refine wpList_load_mid (by rfl) 34 _ (by rfl) gk 0 (by rfl) ({kd with sum:=D}:Kd).cells du HRG.out HDU.out HDR.out (by rw [HCL.out];exact SKd) ?_)
    | (refine wpList_store_row (by rfl) 34 _ _ (by rfl) (w.heap.size+1) ({kd with sum:=D}:Kd).cells.toArray (by rfl) (by rfl) _ _ HR7.out (by rw [List.size_toArray,HCL.out];exact SKd) (by simp only [List.size_toArray,HCL.out,kd0_size]) (all_oneCell_toArray Kd.one) ?_))
   have r9:=setRow_heap _ (w.heap.size+1) _ ({kd with sum:=D}:Kd).cells.toArray _ _ HR7.out
   have hrow:∀r∈kd.rows,r.Ok (w7.setRow (w.heap.size+1) ({kd with sum:=D}:Kd).cells.toArray):=fun r hr=>rw_keep (HRW6.out r hr) (fun x hx hR=>by
    have h9:=(HFX.out r hr).2 x hx hR
    have hs6:x.block<w6.heap.size:=rintsLt (HRW6.out r hr).ints hx hR
    rw [setRow_other _ _ _ _ (by have:=HGX.out;omega)]
    exact HO7.out.block _ hs6 (by omega))
   refine ret_str2 6 7 (by kernel_rfl) (w.heap.size+1) _ ({kd with sum:=D}:Kd).cells.toArray _ HDU.out HDR.out (by rw [List.size_toArray,HCL.out];exact SKd) (by rfl) (by rfl) r9 ?_
   have hkok:({kd with sum:=D}:Kd).Ok (w7.setRow (w.heap.size+1) ({kd with sum:=D}:Kd).cells.toArray):=⟨HDL.out,HDO.out,hrow _ (by simp [Kd.rows]),hrow _ (by simp [Kd.rows]),hrow _ (by simp [Kd.rows]),HOK5.out.live,HOK5.out.size⟩
   have hkpk:({kd with sum:=D}:Kd).pk=N.says:=by
    have e4:=HPK.out
    unfold PN.says
    rw [← e4,← HDE.out]
    rfl
   have hkf:Fsh w ({kd with sum:=D}:Kd):=fun r hr x hx hR=>by have:=((HFX.out r hr).2 x hx hR).1;have:=HGX.out;omega
   have ho9:Only (fun j=>j=gk∨j=w.heap.size+1) w6 (w7.setRow (w.heap.size+1) ({kd with sum:=D}:Kd).cells.toArray):=(HO7.out.mono (fun j e=>Or.inl e)).trans ((only_setRow w7 (w.heap.size+1) _).mono (fun j e=>Or.inr e))
   have hs5:=HB5.out.size
   have hgl:g<w.heap.size:=HQL.out g (PL.mine HPL.out)
   refine Or.inl ⟨HGD.out,_,rfl,hkpk,hkok,hkf,⟨Q6,HP6.out.keep _ ho9 (fun k hk e=>?_),fun k hk=>(HQ6.out k hk).imp id (fun h=>by omega),fun r hr x hx hR h=>by
    have h9:=(HFX.out r hr).2 x hx hR
    rcases HQ6.out _ h with h | h
    ·have:=HQL.out _ h
     have:=HGX.out
     omega
    ·have:=HSZ.out
     omega⟩,?_,HMS6.out.keep (HB5.out.block g hgl) (ho9.block g (Nat.lt_of_lt_of_le hgl (Nat.le_trans hs5 HOO6.out.size)) (by have:=HGX.out;omega))⟩
   ·rcases HQ6.out k hk with h | h
    ·have:=HQL.out k h;have:=HGX.out;rcases e with e | e<;>omega
    ·have:=HSZ.out;have:=HGX.out;rcases e with e | e<;>omega
   ·refine ⟨ho9.os.trans (HOO6.out.os.trans HB5.out.os),ho9.tape.trans (HOO6.out.tape.trans HB5.out.tape),ho9.output.trans (HOO6.out.output.trans HB5.out.output),Nat.le_trans hs5 (Nat.le_trans HOO6.out.size ho9.size),fun k hk hn=>?_⟩
    have h6:=HOO6.out.size
    rw [ho9.block k (by omega) (by have:=HGX.out;omega),HOO6.out.block k (by omega) hn]
    exact HB5.out.block k hk
theorem Put_any (kind:Nat) (hkd:kind<256) (p:Option Addr) (n c:Nat) (q:Option Addr) (m f:Nat) (E:List En) (K:List Kd) (d:Int) (w:World) (hE:EntsIn w p n c E) (hK:KidsIn w q m f K) {g:Nat} {Q:Nat→Prop} {s:Pg.S} (hp:PL w g Q s) (hsl:s.W.length<100000):
  Calls Tryz.prog 154 #[.pointer (some ⟨g,0,none⟩),.agg #[.int .u8 kind,.slice p n c,.slice q m f],.int .i64 d] w (SayPut w g Q s (pnOf kind E K) d):=by
 have HPL:=yH hp
 have HQL:=yH (show ∀k,Q k→k<w.heap.size from hp.lt)
 have HSL:=yH hsl
 clear hp hsl
 have hb1:Below w.heap.size w (w.alloc (.cells #[.int .u8 kind,.slice p n c,.slice q m f] 81)):=(Below.refl _ _).alloc (Nat.le_refl _) _
 have hn1:=NodeAt.start w kind p n c q m f
 have z1:(w.alloc (.cells #[.int .u8 kind,.slice p n c,.slice q m f] 81)).heap.size=w.heap.size+1:=by simp
 have HKD:=yH hkd
 have HE:=yH hE
 have HK:=yH hK
 obtain ⟨du,hdu,hdr⟩:=UKd
 have HDU:=yH hdu
 have HDR:=yH hdr
 have HZ:=yH (zero_of_info kz)
 clear hkd hE hK hdu hdr
 have hz0:=HZ.out.1
 go_enter Tryz.func154,Tryz.ntmps154
 go_upto_region 1 with fail
 have hb2:Below (w.heap.size+1) (w.alloc (.cells #[.int .u8 kind,.slice p n c,.slice q m f] 81)) ((w.alloc (.cells #[.int .u8 kind,.slice p n c,.slice q m f] 81)).alloc (.cells kd0.cells.toArray 34)):=(Below.refl _ _).alloc (by omega) _
 have r2:=heap_alloc_new (w.alloc (.cells #[.int .u8 kind,.slice p n c,.slice q m f] 81)) (.cells kd0.cells.toArray 34)
 rw [z1] at r2
 have HN2:=yH (hn1.later (by rw [z1];exact hb2))
 have HB2:=yH (hb1.trans (hb2.mono (by omega)))
 have HR2:=yH r2
 clear hb1 hn1 z1 hb2 r2
 generalize (w.alloc (.cells #[.int .u8 kind,.slice p n c,.slice q m f] 81)).alloc (.cells kd0.cells.toArray 34)=w2 at *
 have HPL2:=yH (HPL.out.keep (fun _=>False) (Only.of_below _ HB2.out) (fun _ _ e=>e))
 have HSAY:=yH (say_put kind HKD.out p n c q m f E K d w2 (HE.out.later HB2.out) (HK.out.later HB2.out) HPL2.out HSL.out)
 generalize pnOf kind E K=N at *
 obtain ⟨t0,t1,t2⟩:=HN2.out.cells
 have HS2:=yH (show w.heap.size+1<w2.heap.size from (yL HR2.out))
 by_cases hg:N.right d=true∧N.size≤1048576
 ·have HG:=yH hg
  clear hg
  go_wp2_with (first
   | (go_at_call 150;refine HSAY.out.mono ?_;rintro e w3 h3;obtain ⟨-,kd,rfl,hpk,hok,hfs,⟨Q6,hp6,hq6,haw⟩,ho6,hms6⟩:=(h3.resolve_right (fun h=>absurd HG.out h.1));have HMS6:=yH hms6;clear hms6;have HR3:=yH ((ho6.block _ (yL HR2.out) (fun h=>by have:=HQL.out _ h;omega)).trans HR2.out);have HP6:=yH hp6;have HAW:=yH haw;have HQ6:=yH hq6;have HO6:=yH ho6;clear hp6 hq6 haw ho6 h3;have HCL:=yH (Kd.cells_length hok.len);have HPK:=yH hpk;have HOK:=yH hok;have HFS:=yH hfs;clear hpk hok hfs)
   | (refine wpList_store_row (by rfl) 34 _ _ (by rfl) (w.heap.size+1) kd.cells.toArray (by rfl) (by rfl) _ _ HR3.out (by rw [List.size_toArray,HCL.out];exact SKd) (by simp only [List.size_toArray,HCL.out,kd0_size]) (all_oneCell_toArray Kd.one) ?_))
  have r9:=setRow_heap _ (w.heap.size+1) _ kd.cells.toArray _ _ HR3.out
  have hrow:∀r∈kd.rows,r.Ok (w3.setRow (w.heap.size+1) kd.cells.toArray):=fun r hr=>rw_keep (kd_rows_ok HOK.out r hr) (fun x hx hR=>setRow_other _ _ _ _ (by have:=HFS.out r hr x hx hR;have:=HS2.out;omega))
  refine ret_str2 6 7 (by kernel_rfl) (w.heap.size+1) _ kd.cells.toArray _ HDU.out HDR.out (by rw [List.size_toArray,HCL.out];exact SKd) (by rfl) (by rfl) r9 ?_
  have hkok:kd.Ok (w3.setRow (w.heap.size+1) kd.cells.toArray):=⟨HOK.out.len,HOK.out.ok,hrow _ (by simp [Kd.rows]),hrow _ (by simp [Kd.rows]),hrow _ (by simp [Kd.rows]),HOK.out.live,HOK.out.size⟩
  have hkf:Fsh w kd:=fun r hr x hx hR=>by have:=HFS.out r hr x hx hR;have:=HS2.out;omega
  have ho9:=only_setRow w3 (w.heap.size+1) kd.cells.toArray
  have hgl:g<w.heap.size:=HQL.out g (PL.mine HPL.out)
  refine Or.inl ⟨HG.out,kd,rfl,HPK.out,hkok,hkf,⟨Q6,HP6.out.keep _ ho9 (fun k hk e=>?_),fun k hk=>(HQ6.out k hk).imp id (fun h=>by have:=HB2.out.size;omega),HAW.out⟩,?_,HMS6.out.keep (HB2.out.block g hgl) (ho9.block g (Nat.lt_of_lt_of_le hgl (Nat.le_trans HB2.out.size HO6.out.size)) (by omega))⟩
  ·rcases HQ6.out k hk with h | h
   ·have:=HQL.out k h;omega
   ·have:=HS2.out;omega
  ·refine ⟨ho9.os.trans (HO6.out.os.trans HB2.out.os),ho9.tape.trans (HO6.out.tape.trans HB2.out.tape),ho9.output.trans (HO6.out.output.trans HB2.out.output),Nat.le_trans HB2.out.size (Nat.le_trans HO6.out.size ho9.size),fun k hk hn=>?_⟩
   have h6:=HO6.out.size
   have h2:=HS2.out
   rw [ho9.block k (by omega) (by omega),HO6.out.block k (by omega) hn]
   exact HB2.out.block k hk
 ·have HG:=yH hg
  clear hg
  go_wp2_with (first
   | (go_at_call 150;refine HSAY.out.mono ?_;rintro e w3 h3;obtain ⟨-,rfl,b3⟩:=(h3.resolve_left (fun h=>absurd h.1 HG.out));have HR3:=yH ((b3.block _ (yL HR2.out)).trans HR2.out);have HB3:=yH (HB2.out.trans (b3.mono HB2.out.size));clear b3)
   | (refine wpList_store_row (by rfl) 34 _ _ (by rfl) (w.heap.size+1) kd0.cells.toArray (by rfl) (by rfl) _ _ HR3.out (by rw [List.size_toArray,kd0_size];exact SKd) rfl (all_oneCell_toArray Kd.one) ?_))
  have r9:=setRow_heap _ (w.heap.size+1) _ kd0.cells.toArray _ _ HR3.out
  have hb9:Below (w.heap.size+1) w3 (w3.setRow (w.heap.size+1) kd0.cells.toArray):=Below.setRow (Below.refl _ _) (Nat.le_refl _) _
  refine ret_str2 6 7 (by kernel_rfl) (w.heap.size+1) _ kd0.cells.toArray _ HDU.out HDR.out (by rw [List.size_toArray,kd0_size];exact SKd) (by rfl) (by rfl) r9 ?_
  exact sayput_bad HG.out (HB3.out.trans (hb9.mono (by omega)))
end Go.Proofs.YtinihaflmdihaaaGreat.Nd
namespace Go.Proofs.YtinihaflmdihaaaGreat.Kt
open Go.RowKit Go.Proofs.YtinihaflmdihaaaGreat.Nd Go.Proofs.YtinihaflmdihaaaGreat.Dk Go.Proofs.YtinihaflmdihaaaGreat.Pg
theorem three_alloc (w:World) (A B C:Obj):∃W,((w.alloc A).alloc B).alloc C=W∧W.heap[w.heap.size]? =some A∧W.heap[w.heap.size+1]? =some B∧W.heap[w.heap.size+2]? =some C∧Below w.heap.size w W:=by
 have hA:=heap_alloc_new w A
 have hB:=heap_alloc_new (w.alloc A) B
 have hC:=heap_alloc_new ((w.alloc A).alloc B) C
 have sA:(w.alloc A).heap.size=w.heap.size+1:=by simp
 have sB:((w.alloc A).alloc B).heap.size=w.heap.size+2:=by simp
 have b1:Below w.heap.size w (w.alloc A):=(Below.refl _ _).alloc (Nat.le_refl _) _
 have b2:Below (w.alloc A).heap.size (w.alloc A) ((w.alloc A).alloc B):=(Below.refl _ _).alloc (Nat.le_refl _) _
 have b3:Below ((w.alloc A).alloc B).heap.size ((w.alloc A).alloc B) (((w.alloc A).alloc B).alloc C):=(Below.refl _ _).alloc (Nat.le_refl _) _
 have b23:=b2.trans (b3.mono b2.size)
 rw [sA] at hB
 rw [sB] at hC
 refine ⟨_,rfl,?_,?_,hC,b1.trans (b23.mono b1.size)⟩
 ·exact (b23.block _ (by rw [sA];omega)).trans hA
 ·exact (b3.block _ (by rw [sB];omega)).trans hB
theorem range_nd {w:World} {g:Nat} {x y z:Value} {t:TypeId} (h:w.heap[g]? =some (.cells #[x,y,z] t (0,0))):w.rangeAt g 0 [x,y,z]:=fun j v hv=>by
 rw [Nat.zero_add,cell_of_row w g j _ _ _ h]
 simpa using hv
def PutPostK (w:World) (g:Nat) (Q:Nat→Prop) (s:Pg.S) (N:PN) (e:Ending) (w':World):Prop:=
 ∃kd:Kd,e= .returned (.agg kd.cells.toArray)∧kd.pk=N.says∧kd.Ok w'∧Fsh w kd∧(∃Q',PL w' g Q' (s.put N.bytes)∧(∀k,Q' k→Q k∨w.heap.size≤k)∧Aw Q' kd)∧Only Q w w'∧Mst g w w'
theorem kput_any (kind:Nat) (hkd:kind<256) (p:Option Addr) (n c:Nat) (q:Option Addr) (m f:Nat) (E:List En) (K:List Kd) (d:Int) (w:World) (hE:EntsIn w p n c E) (hK:KidsIn w q m f K) {g:Nat} {Q:Nat→Prop} {s:Pg.S} (hp:PL w g Q s) (hsl:s.W.length<100000) (hgood:(pnOf kind E K).right d=true∧(pnOf kind E K).size≤1048576):
  Calls Tryz.prog 108 #[.agg #[.pointer (some ⟨g,0,none⟩),.int .i64 d],.agg #[.int .u8 kind,.slice p n c,.slice q m f]] w (PutPostK w g Q s (pnOf kind E K)):=by
 obtain ⟨W,hW,r0,r1,r2,b1⟩:=three_alloc w (.cells #[.pointer (some ⟨g,0,none⟩),.int .i64 d] 91) (.cells #[.int .u8 kind,.slice p n c,.slice q m f] 81) (.cells kd0.cells.toArray 34)
 have HQL:=yH (show ∀k,Q k→k<w.heap.size from hp.lt)
 have hgl:g<w.heap.size:=hp.lt g (PL.mine hp)
 have HGL:=yH hgl
 clear hgl
 have HPUT:=yH (Put_any kind hkd p n c q m f E K d W (hE.later b1) (hK.later b1) (hp.keep (fun _=>False) (Only.of_below _ b1) (fun _ _ e=>e)) hsl)
 generalize pnOf kind E K=N at *
 have HG:=yH hgood
 have S2:=yH (show w.heap.size+3≤W.heap.size from (yL r2))
 have B1:=yH b1
 obtain ⟨dk,hdk,hdrk⟩:=UKd
 obtain ⟨dn,hdn,hdrn⟩:=UNode
 have HDK:=yH hdk
 have HDRK:=yH hdrk
 have HDN:=yH hdn
 have HDRN:=yH hdrn
 have HZ:=yH (zero_of_info kz)
 have hz0:=HZ.out.1
 clear hp hsl hgood hE hK hdk hdrk hdn hdrn b1
 go_enter Tryz.func108,Tryz.ntmps108
 go_upto_region 1 with fail
 clear hW
 have c0:=cell_of_row W w.heap.size 0 _ _ _ r0
 have c1:=cell_of_row W w.heap.size 1 _ _ _ r0
 have R1:=yH (range_nd r1)
 have R2:=yH r2
 clear r0 r1 r2
 go_upto_region 2 with (first
  | (refine wpList_load_mid (by rfl) 81 _ (by rfl) (w.heap.size+1) 0 (by rfl) [.int .u8 kind,.slice p n c,.slice q m f] dn R1.out HDN.out HDRN.out SNode ?_)
  | (go_at_call 154;refine HPUT.out.mono ?_;rintro e w3 h3;obtain ⟨-,kd,rfl,hpk,hok,hfs,hq6,ho6,hms6⟩:=(h3.resolve_right (fun h=>absurd HG.out h.1));have HPK:=yH hpk;have HOK:=yH hok;have HFS:=yH hfs;have HMS6:=yH hms6;clear hms6;have HQ6:=yH hq6;have HO6:=yH ho6;have HCL:=yH (Kd.cells_length hok.len);clear h3 hpk hok hfs hq6 ho6)
  | (refine wpList_store_row (by rfl) 34 (.tmp 5) _ (by rfl) w3.heap.size kd.cells.toArray (by rfl) (by rfl) _ _ (heap_alloc_new w3 _) (by rw [List.size_toArray,HCL.out];exact SKd) (by simp only [List.size_toArray,HCL.out,kd0_size]) (all_oneCell_toArray Kd.one) ?_))
 have hb4:Below w3.heap.size w3 ((w3.alloc (.cells kd0.cells.toArray 34)).setRow w3.heap.size kd.cells.toArray):=Below.setRow ((Below.refl _ _).alloc (Nat.le_refl _) _) (Nat.le_refl _) _
 have hr4:=setRow_heap _ w3.heap.size _ kd.cells.toArray _ _ (heap_alloc_new w3 (.cells kd0.cells.toArray 34))
 generalize (w3.alloc (.cells kd0.cells.toArray 34)).setRow w3.heap.size kd.cells.toArray=w4 at *
 have HRR:=yH (range_kd hr4)
 have R3:=yH ((HO6.out.block _ (yL R2.out) (fun h=>by have:=HQL.out _ h;omega)).trans R2.out)
 have R4:=yH ((hb4.block _ (yL R3.out)).trans R3.out)
 have B4:=yH hb4
 clear hb4 hr4 c0 c1
 go_wp2_with (first
  | (refine wpList_load_mid (by rfl) 34 _ (by rfl) w3.heap.size 0 (by rfl) kd.cells dk HRR.out HDK.out HDRK.out (by rw [HCL.out];exact SKd) ?_)
  | (refine wpList_store_row (by rfl) 34 _ _ (by rfl) (w.heap.size+2) kd.cells.toArray (by rfl) (by rfl) _ _ R4.out (by rw [List.size_toArray,HCL.out];exact SKd) (by simp only [List.size_toArray,HCL.out,kd0_size]) (all_oneCell_toArray Kd.one) ?_))
 refine ret_str 4 (by kernel_rfl) (w.heap.size+2) _ kd.cells.toArray HDK.out HDRK.out (by rw [List.size_toArray,HCL.out];exact SKd) (by rfl) (setRow_heap _ _ _ _ _ _ R4.out) ?_
 have s3:=HO6.out.size
 have s2:=S2.out
 have hrow:∀r∈kd.rows,r.Ok (w4.setRow (w.heap.size+2) kd.cells.toArray):=fun r hr=>Nd.rw_keep ((kd_rows_ok HOK.out r hr).later B4.out) (fun x hx hR=>setRow_other _ _ _ _ (by have:=HFS.out r hr x hx hR;omega))
 have ho9:=only_setRow w4 (w.heap.size+2) kd.cells.toArray
 have ho4:Only (fun _=>False) w3 w4:=Only.of_below _ B4.out
 obtain ⟨Q6,hp6,hq6,haw⟩:=HQ6.out
 refine ⟨kd,rfl,HPK.out,⟨HOK.out.len,HOK.out.ok,hrow _ (by simp [Kd.rows]),hrow _ (by simp [Kd.rows]),hrow _ (by simp [Kd.rows]),HOK.out.live,HOK.out.size⟩,fun r hr x hx hR=>by have:=HFS.out r hr x hx hR;omega,⟨Q6,(hp6.keep _ ho4 (fun _ _ e=>e)).keep _ ho9 (fun k hk e=>?_),fun k hk=>(hq6 k hk).imp id (fun h=>by omega),haw⟩,?_,HMS6.out.keep (B1.out.block g HGL.out) ((ho9.block g (Nat.lt_of_lt_of_le HGL.out (Nat.le_trans B1.out.size (Nat.le_trans s3 ho4.size))) (by have:=HGL.out;omega)).trans (ho4.block g (Nat.lt_of_lt_of_le HGL.out (Nat.le_trans B1.out.size s3)) (fun h=>h)))⟩
 ·rcases hq6 k hk with h | h
  ·have:=HQL.out k h;omega
  ·omega
 ·refine ⟨ho9.os.trans (ho4.os.trans (HO6.out.os.trans B1.out.os)),ho9.tape.trans (ho4.tape.trans (HO6.out.tape.trans B1.out.tape)),ho9.output.trans (ho4.output.trans (HO6.out.output.trans B1.out.output)),Nat.le_trans B1.out.size (Nat.le_trans s3 (Nat.le_trans ho4.size ho9.size)),fun k hk hn=>?_⟩
  rw [ho9.block k (by have:=ho4.size;omega) (by omega),ho4.block k (by omega) (fun h=>h),HO6.out.block k (by omega) hn]
  exact B1.out.block k hk
end Go.Proofs.YtinihaflmdihaaaGreat.Kt
