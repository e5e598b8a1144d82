/- ShaHash, PgHashS, PgBEq, PgPutL. -/
import Derived.Test.YtinihaflmdihaaaGreatW1
import Derived.Test.YtinihaflmdihaaaGreatW2
import Derived.Test.YtinihaflmdihaaaGreatW10
import Derived.Test.YtinihaflmdihaaaGreatW17
import Derived.Test.YtinihaflmdihaaaGreatW21
set_option maxRecDepth 100000
set_option maxHeartbeats 8000000
set_option linter.unusedVariables false
set_option linter.unusedSimpArgs false
namespace Go.Proofs.YtinihaflmdihaaaGreat
open Go.RowKit
open List renaming setIfInBounds_toArray → sA, set_cons_zero → sZ, set_cons_succ → sS
def HashRel (w:World) (tag len:Nat) (L:List (List Nat)) (i:Value) (wr:World):Prop:=
 ∃k:Nat,k≤len∧i= .int .i64 k∧StateAt wr (w.heap.size+1) (pre tag (L.take k))∧wr.heap[w.heap.size]? =some (.cells (u8s (zeros 32)) 30 (0,0))∧Below w.heap.size w wr
theorem hash_any (tag:Nat) (htag:tag<256) (L:List (List Nat)) (p:Option Addr) (len cap:Nat) (w:World) (hL:Texts w p len cap L) (hl:tot L<1099511627776):
  Calls Tryz.prog 207 #[.int .u8 tag,.slice p len cap] w fun e w'=>e= .returned (.agg (u8s (Sm.sum (pre tag L))))∧Below w.heap.size w w':=by
 have hsz:=hL.size
 have hle:=hL.le
 have hlen:len<1099511627776:=by have:=len_le_tot L;omega
 have hz:=(zero_of_info Z25).1
 have hz6:=(zero_of_info Z36).1
 have h59:=(zero_of_info Z59).1
 have HL:=Lib.hid hL
 have HSZ:=Lib.hid hsz
 clear hL hsz
 have hB2:Below w.heap.size w ((w.alloc (.cells (u8s (zeros 32)) 30)).alloc (.cells (stL zero8 (zeros 64) 0).toArray 303)):=((Below.refl _ _).alloc (Nat.le_refl _) _).alloc (by simp) _
 have hS2:StateAt ((w.alloc (.cells (u8s (zeros 32)) 30)).alloc (.cells (stL zero8 (zeros 64) 0).toArray 303)) (w.heap.size+1) []:=state_zero (heap_alloc2_new _ _ _)
 have hR2:((w.alloc (.cells (u8s (zeros 32)) 30)).alloc (.cells (stL zero8 (zeros 64) 0).toArray 303)).heap[w.heap.size]? =some (.cells (u8s (zeros 32)) 30 (0,0)):=heap_alloc2_old _ _ _
 have HB2:=Lib.hid hB2
 have HS2:=Lib.hid hS2
 have HR2:=Lib.hid hR2
 clear hB2 hS2 hR2
 go_enter Tryz.func207,Tryz.ntmps207
 go_wp2_with fail
 generalize hWW:(w.alloc (.cells (u8s (zeros 32)) 30)).alloc (.cells (stL zero8 (zeros 64) 0).toArray 303)=WW
 have hsz2:WW.heap.size=w.heap.size+1+1:=by subst hWW;simp
 rw [hWW] at HB2 HS2 HR2
 have hs3:StateAt (WW.alloc (.cells #[.int .u8 tag] 5)) (w.heap.size+1) []:=HS2.out.later ((Below.refl _ _).alloc (Nat.le_refl _) _)
 have hb3:Bytes (WW.alloc (.cells #[.int .u8 tag] 5)) (some ⟨w.heap.size+1+1,0,none⟩) 1 1 [tag]:=by
  rw [← hsz2]
  exact Bytes.row (L:=[tag]) (heap_alloc_new WW _) (by intro x hx;simp at hx;omega)
 have hB3:Below w.heap.size w (WW.alloc (.cells #[.int .u8 tag] 5)):=HB2.out.alloc HB2.out.size _
 have hR3:(WW.alloc (.cells #[.int .u8 tag] 5)).heap[w.heap.size]? =some (.cells (u8s (zeros 32)) 30 (0,0)):=(Below.heap_alloc _ _ _ (by omega)).trans HR2.out
 refine (write_any [] [tag] (w.heap.size+1) _ 1 1 _ hs3 hb3 (fun _ a ha=>by cases ha;show w.heap.size+1+1≠w.heap.size+1;omega) (by simp)).mono ?_
 rintro _ w4 ⟨rfl,hs4,hg4⟩
 have HB4:=Lib.hid (grown_below hB3 hg4 (by omega))
 have HR4:=Lib.hid ((hg4.block _ (Array.getElem?_eq_some_iff.1 hR3).1 (by simp)).trans hR3)
 have HS4:=Lib.hid hs4
 clear hs3 hb3 hB3 hR3 hs4 hg4 hWW hsz2 HB2 HS2 HR2
 go_wp2_with fail
 go_loopw [14] (fun i wr=>HashRel w tag len L i wr) (fun i _=>len - (intOf i).toNat)
 case atStart=>exact ⟨0,by omega,rfl,HS4.out,HR4.out,HB4.out⟩
 case round=>
  obtain ⟨k,hk,rfl,hs,hr,hb⟩:=hrel
  have HS:=Lib.hid hs
  have HR:=Lib.hid hr
  have HB:=Lib.hid hb
  clear hs hr hb HB4 HR4 HS4
  by_cases hlt:k<len
  ·obtain ⟨g,o,hp,hx⟩:=HL.out.at' (by intro e;have:=HSZ.out;rw [e] at this;simp at this;omega)
   obtain ⟨q,n,c,h1,h2⟩:=hx k (by have:=HSZ.out;omega)
   subst hp
   have e1:=tot_step L k (by have:=HSZ.out;omega)
   have e2:=tot_take_le L (k+1)
   have e3:n=(L.getD k []).length:=h2.size
   have hbk:∀a,q=some a→L.getD k []≠[]→a.block<w.heap.size:=fun a ha hn=>by
    subst ha
    have:=h2.cells 0 _ (vals_get _ 0 (List.length_pos_iff.2 hn))
    exact block_lt_of_cell this
   have hcell:wr.cell? ⟨g,o+k,none⟩=some (.slice q n c):=(HB.out.cell (p:=⟨g,o+k,none⟩) (block_lt_of_cell h1)).trans h1
   have HT:=Lib.hid h2
   have HBK:=Lib.hid hbk
   have HE:=Lib.hid (show tot (L.take k)+(8+n)<1099511627776 from by omega)
   have HE3:=Lib.hid e3
   have hn:n<1099511627776:=by omega
   clear hx h1 h2 hbk e1 e2 e3
   go_wp2_with fail
   refine (bigEnd_any n (by omega) _).mono ?_
   rintro _ w3 ⟨rfl,hb3⟩
   have hs3:StateAt (w3.alloc (.cells (u8s (Sm.bigs n)) 305)) (w.heap.size+1) (pre tag (L.take k)):=(HS.out.later hb3).later ((Below.refl _ _).alloc (Nat.le_refl _) _)
   have hB3:Below w.heap.size w (w3.alloc (.cells (u8s (Sm.bigs n)) 305)):=(HB.out.trans (hb3.mono HB.out.size)).alloc (Nat.le_trans HB.out.size hb3.size) _
   have hr3:=(hb3.block _ (Array.getElem?_eq_some_iff.1 HR.out).1).trans HR.out
   have hR3:(w3.alloc (.cells (u8s (Sm.bigs n)) 305)).heap[w.heap.size]? =some (.cells (u8s (zeros 32)) 30 (0,0)):=(Below.heap_alloc _ _ _ (Array.getElem?_eq_some_iff.1 hr3).1).trans hr3
   have hgs:w.heap.size+1<w3.heap.size:=Nat.lt_of_lt_of_le HS.out.lt hb3.size
   have HS3:=Lib.hid hs3
   have HB3:=Lib.hid hB3
   have HR3:=Lib.hid hR3
   have HGS:=Lib.hid hgs
   have HY3:=Lib.hid (Bytes.row (L:=Sm.bigs n) (heap_alloc_new w3 (.cells (u8s (Sm.bigs n)) 305)) (bigs_all n))
   clear hs3 hB3 hR3 hr3 hgs hb3
   go_wp2_with (refine wpList_store_row (by rfl) 305 _ _ (by rfl) w3.heap.size (u8s (Sm.bigs n)) (by rfl) (by rfl) _ _ (heap_alloc_new _ _) (by exact S59) (by simp [u8s,zeros];rfl) (u8s_one _) ?_;rw [setRow_alloc])
   refine (write_any (pre tag (L.take k)) (Sm.bigs n) (w.heap.size+1) _ 8 8 _ HS3.out HY3.out (fun _ a ha=>by cases ha;have:=HGS.out;show w3.heap.size≠w.heap.size+1;omega) (by have:=HE.out;simp only [List.length_append,pre_length,Sm.bigs,List.length_cons,List.length_nil];omega)).mono ?_
   rintro _ w5 ⟨rfl,hs5,hg5⟩
   have HB5:=Lib.hid (grown_below HB3.out hg5 (by omega))
   have HR5:=Lib.hid ((hg5.block _ (Array.getElem?_eq_some_iff.1 HR3.out).1 (by simp)).trans HR3.out)
   have HS5:=Lib.hid hs5
   clear hs5 hg5
   go_wp2_with fail
   refine (write_any (pre tag (L.take k)++Sm.bigs n) (L.getD k []) (w.heap.size+1) q n c _ HS5.out (HT.out.later HB5.out).bytes (fun hne a ha=>by have:=HBK.out a ha hne;omega) (by have:=HE.out;have:=HE3.out;simp only [List.length_append,pre_length,Sm.bigs,List.length_cons,List.length_nil];omega)).mono ?_
   rintro _ w6 ⟨rfl,hs6,hg6⟩
   have HB6:=Lib.hid (grown_below HB5.out hg6 (by omega))
   have HR6:=Lib.hid ((hg6.block _ (Array.getElem?_eq_some_iff.1 HR5.out).1 (by simp)).trans HR5.out)
   have HS6:=Lib.hid hs6
   clear hs6 hg6
   go_wp2_with fail
   go_roundw
   case rel=>
    refine ⟨k+1,by omega,by go_num,?_,HR6.out,HB6.out⟩
    have e:=HS6.out
    rw [pre_step tag L k (by have:=HSZ.out;omega),tpart,← HE3.out,← List.append_assoc]
    exact e
   case measure=>simp [intOf];omega
  ·obtain rfl:k=len:=by omega
   have hT:pre tag (L.take k)=pre tag L:=by rw [List.take_of_length_le (by have:=HSZ.out;omega)]
   rw [hT] at HS
   clear hT
   go_wp2_with fail
   refine (done_any (pre tag L) _ _ HS.out (by rw [pre_length];omega)).mono ?_
   rintro _ w5 ⟨rfl,hb5⟩
   have HR5:=Lib.hid ((hb5.block _ (Array.getElem?_eq_some_iff.1 HR.out).1).trans HR.out)
   have HB5:=Lib.hid (HB.out.trans (hb5.mono HB.out.size))
   clear hb5
   go_wp2_with (refine wpList_store_row (by rfl) 30 _ _ (by rfl) w.heap.size (u8s (Sm.sum (pre tag L))) (by rfl) (by rfl) _ _ HR5.out (by rw [sum_size];exact S25) (by rw [sum_size];simp [u8s,zeros]) (u8s_one _) ?_)
   exact ret_row 4 (by kernel_rfl) w.heap.size _ _ A25 S25 rfl (setRow_heap _ _ _ _ _ _ HR5.out) (sum_size _) ⟨rfl,Below.setRow HB5.out (Nat.le_refl _) _⟩
end Go.Proofs.YtinihaflmdihaaaGreat
namespace Go.Proofs.YtinihaflmdihaaaGreat.Pg
open Go.RowKit
open List renaming setIfInBounds_toArray → sA, set_cons_zero → sZ, set_cons_succ → sS
theorem sum_any' (b:List Nat) (p:Option Addr) (n c:Nat) (w:World) (hT:Tx w p n c b) (hn:n≤100000):
  Calls Tryz.prog 151 #[.slice p n c] w fun e w'=>e= .returned (.agg (u8s (sumOf b)))∧Below w.heap.size w w':=by
 have hz:=(zero_of_info Z25).1
 have h0:=(Below.refl w.heap.size w).alloc (Nat.le_refl _) (.cells (u8s (zeros 32)) 30)
 have hb:=(Below.refl (w.alloc (.cells (u8s (zeros 32)) 30)).heap.size (w.alloc (.cells (u8s (zeros 32)) 30))).alloc (Nat.le_refl _) (.cells #[.slice p n c] 45)
 have TX:=Lib.hid (one_text (heap_alloc_new (w.alloc (.cells (u8s (zeros 32)) 30)) (.cells #[.slice p n c] 45)) ((hT.later h0).later hb))
 have B1:=Lib.hid (h0.trans (hb.mono h0.size))
 have HR:=Lib.hid ((heap_alloc_old (w.alloc (.cells (u8s (zeros 32)) 30)) (.cells #[.slice p n c] 45) (Array.getElem?_eq_some_iff.1 (heap_alloc_new w (.cells (u8s (zeros 32)) 30))).1).trans (heap_alloc_new w (.cells (u8s (zeros 32)) 30)))
 have HL:=Lib.hid hT.size
 clear hT hb h0
 go_enter Tryz.func151,Tryz.ntmps151
 go_wp2_with fail
 rw [show (w.alloc (.cells (u8s (zeros 32)) 30)).heap.size=w.heap.size+1 from by simp] at TX
 generalize (w.alloc (.cells (u8s (zeros 32)) 30)).alloc (.cells #[.slice p n c] 45)=w1 at *
 refine (hash_any 80 (by omega) [b] _ 1 1 w1 TX.out (by have:=HL.out;rw [tot_one];omega)).mono ?_
 rintro e w3 ⟨rfl,b3⟩
 have B3:=Lib.hid (B1.out.trans (b3.mono B1.out.size))
 have R3:=Lib.hid ((b3.block _ (Array.getElem?_eq_some_iff.1 HR.out).1).trans HR.out)
 obtain ⟨D,hD⟩:∃D,D=sumOf b:=⟨_,rfl⟩
 rw [show Sm.sum (pre 80 [b])=D from hD.symm]
 have HDH:=Lib.hid (show D.length=32 from by rw [hD];rfl)
 have HDE:=Lib.hid hD
 clear b3 hD
 go_wp2_with (refine wpList_store_row (by rfl) 30 _ _ (by rfl) w.heap.size (u8s D) (by rfl) (by rfl) _ _ R3.out (by rw [u8s_size,HDH.out];exact S25) (by rw [u8s_size,u8s_size,HDH.out];rfl) (u8s_one _) ?_)
 exact ret_row 2 (by kernel_rfl) w.heap.size _ _ A25 S25 rfl (setRow_heap _ _ _ _ _ _ R3.out) (by rw [u8s_size];exact HDH.out) ⟨by rw [HDE.out],Below.setRow B3.out (Nat.le_refl _) _⟩
theorem bequal_any {a b:List Nat} {p q:Option Addr} {n c m d:Nat} {w:World} (ha:Tx w p n c a) (hb:Tx w q m d b):
  Calls Tryz.prog 250 #[.slice p n c,.slice q m d] w fun e w'=>e= .returned (.bool (decide (a=b)))∧w=w':=by
 have h1:=convert_tx ha
 have h2:=convert_tx hb
 have HE:=Lib.hid (str_eq ha.ok hb.ok)
 rw [← HE.out]
 clear ha hb
 go_enter Tryz.func250,Tryz.ntmps250
 go_wp2_with fail
 go_ret
 exact ⟨rfl,rfl⟩
section
variable {Q QX:Nat→Prop} {w:World} {g:Nat} {mp:Option Nat} {cl:Option Addr} {s:S}
theorem SAt.f1 (h:SAt Q w g mp cl s):w.frozen? ⟨g,1,none⟩=false:=frozen_of_row w g 1 _ _ h.row
theorem SAt.aside {k:Nat} {w':World} (h:SAt Q w g mp cl s) (ho:Dk.Only (fun j=>j=k) w w') (hk:¬Q k):SAt Q w' g mp cl s:=h.only ho (fun _ hj e=>hk (e▸hj))
theorem SAt.clashed {p q:Option Addr} {m c n d:Nat} {t b:List Nat} (h:SAt Q w g mp cl s) (h1:TQ Q w p m c t) (h2:TQ QX w q n d b) (hlt:∀k,QX k→k<w.heap.size) (hok:S.ok ⟨s.W,some (t,b)⟩):
  SAt (fun k=>Q k∨QX k∨k=w.heap.size) ((w.alloc (.cells #[.slice p m c,.slice q n d] 112)).setCell ⟨g,1,none⟩ (.pointer (some ⟨w.heap.size,0,none⟩))) g mp (some ⟨w.heap.size,0,none⟩) ⟨s.W,some (t,b)⟩∧
  Dk.Only (fun j=>j=g) w ((w.alloc (.cells #[.slice p m c,.slice q n d] 112)).setCell ⟨g,1,none⟩ (.pointer (some ⟨w.heap.size,0,none⟩))):=by
 have hg:g<w.heap.size:=h.lt g h.mine
 have hb:=(Below.refl w.heap.size w).alloc (Nat.le_refl _) (.cells #[.slice p m c,.slice q n d] 112)
 have hnew:=heap_alloc_new w (.cells #[.slice p m c,.slice q n d] 112)
 have h3:=h.later hb
 have t1:=h1.keep (w':=w.alloc (.cells #[.slice p m c,.slice q n d] 112)) (fun k hk=>hb.block k (h.lt k hk))
 have t2:=h2.keep (w':=w.alloc (.cells #[.slice p m c,.slice q n d] 112)) (fun k hk=>hb.block k (hlt k hk))
 have hset:=Dk.Only.setCell (P:=fun j=>j=g) (w.alloc (.cells #[.slice p m c,.slice q n d] 112)) (a:=⟨g,1,none⟩) rfl (.pointer (some ⟨w.heap.size,0,none⟩))
 have hsz:=hset.size
 rw [World.size_alloc] at hsz
 have hrow:=heap_setCell_same (w.alloc (.cells #[.slice p m c,.slice q n d] 112)) g 1 _ _ (.pointer (some ⟨w.heap.size,0,none⟩)) h3.row
 refine ⟨⟨hrow,(h3.pages.turn_row h3.row hset).wide (fun _ k=>Or.inl k),Or.inr ⟨_,_,_,rfl,rfl,⟨Or.inr (Or.inr rfl),p,m,c,q,n,d,(hset.block _ (by simp) (by omega)).trans hnew,(t1.turn hset (fun z hz hz'=>text_not_row t1.tx hz hz' h3.row)).wide (fun _ k=>Or.inl k),(t2.turn hset (fun z hz hz'=>text_not_row t2.tx hz hz' h3.row)).wide (fun _ k=>Or.inr (Or.inl k))⟩⟩,Or.inl h.mine,?_,hok⟩,(Dk.Only.of_below _ hb).trans hset⟩
 intro k hk
 rcases hk with hk | hk | rfl
 ·have:=h.lt k hk;omega
 ·have:=hlt k hk;omega
 ·omega
end
theorem tq_of_own {w w':World} {q:Option Addr} {n c:Nat} {B:List Nat} (ho:w'.ownsRow w.heap.size 5 1 (.slice q n c) n (vals B)) (hn:n=B.length) (hB:Sm.allB B) (hl:B.length≤100000):TQ (fun k=>w.heap.size≤k∧k<w'.heap.size) w' q n c B:=
 ⟨by subst hn;exact tx_of_owns ho hB,fun x hx _=>ho.lt x.block (by rw [hx];rfl),hl⟩
theorem only_setRow (w:World) (g:Nat) (cs:Array Value):Dk.Only (fun j=>j=g) w (w.setRow g cs):=
 ⟨rfl,rfl,rfl,by simp [World.setRow],fun k _ hn=>by simp only [World.setRow];rw [Array.getElem?_modify,if_neg (fun e=>hn e.symm)]⟩
theorem PL.mine {w:World} {g:Nat} {Q:Nat→Prop} {s:S} (h:PL w g Q s):Q g:=by obtain ⟨_,_,h⟩:=h;exact h.mine
def PutPost (Q:Nat→Prop) (w:World) (g:Nat) (s':S) (w':World):Prop:=(∃Q',PL w' g Q' s'∧∀k,Q' k→Q k∨w.heap.size≤k)∧Dk.Only Q w w'∧Mst g w w'
theorem putPost_fin {w wX:World} {g r4:Nat} {Q Q':Nat→Prop} {mp0 mp:Option Nat} {cl:Option Addr} {s':S} (h0:w.cell? ⟨g,0,none⟩=some (.map mp0)) (hm:∀b,mp0=some b→mp=some b) (h:SAt Q' wX g mp cl s') (ho:Dk.Only Q w wX) (hn:¬Q' r4) (hq:∀k,Q' k→Q k∨w.heap.size≤k) (hr:w.heap.size≤r4) (cs:Array Value):PutPost Q w g s' (wX.setRow r4 cs):=
 ⟨⟨Q',⟨_,_,h.aside (only_setRow wX r4 cs) hn⟩,hq⟩,only_old ((ho.mono (Q:=fun k=>Q k∨k=r4) (fun k e=>Or.inl e)).trans ((only_setRow wX r4 cs).mono (fun k e=>Or.inr e))) (fun k e=>e.imp id (fun e=>by omega)),fun b hb=>by
  rw [h0] at hb
  have e:=hm b (by simpa using hb)
  rw [← e]
  exact (h.aside (only_setRow wX r4 cs) hn).c0⟩
theorem pput_any {w:World} {g:Nat} {Q:Nat→Prop} {s:S} (b:List Nat) (p:Option Addr) (n c:Nat) (h:PL w g Q s) (hT:Tx w p n c b) (hn:n≤100000) (hsm:s.W.length<100000):
  Calls Tryz.prog 208 #[.pointer (some ⟨g,0,none⟩),.slice p n c] w fun e w'=>e= .returned (.agg (u8s (sumOf b)))∧PutPost Q w g (s.put b) w':=by
 obtain ⟨mp,cl,h⟩:=h
 have HC0:=Lib.hid h.c0
 have hz:=(zero_of_info Z25).1
 obtain ⟨D,hD⟩:∃D,D=sumOf b:=⟨_,rfl⟩
 have HDL:=Lib.hid (show D.length=32 from by rw [hD];rfl)
 have HDO:=Lib.hid (show Sm.allB D from by rw [hD];exact sumOf_ok b)
 have HNB:=Lib.hid (show n=b.length from hT.size)
 have h0:=(Below.refl w.heap.size w).alloc (Nat.le_refl _) (.cells (u8s (zeros 32)) 30)
 have HB0:=Lib.hid h0
 have R0:=Lib.hid (heap_alloc_new w (.cells (u8s (zeros 32)) 30))
 have T0:=Lib.hid (hT.later h0)
 have H0:=Lib.hid (h.later h0)
 have HQL:=Lib.hid h.lt
 have HTO:=Lib.hid hT.ok
 have HD:=Lib.hid hD
 have HOK:=Lib.hid (S.put_ok h.ok hT.ok)
 clear h hT h0 hD
 go_enter Tryz.func208,Tryz.ntmps208
 go_wp2_with fail
 generalize w.alloc (.cells (u8s (zeros 32)) 30)=w1 at *
 generalize hr4:w.heap.size=r4 at *
 refine (sum_any' b p n c w1 T0.out hn).mono ?_
 rintro _ w2 ⟨rfl,b2⟩
 rw [← HD.out]
 have HB2:=Lib.hid (HB0.out.trans (b2.mono (hr4▸HB0.out.size)))
 have R2:=Lib.hid ((b2.block _ (Array.getElem?_eq_some_iff.1 R0.out).1).trans R0.out)
 have T2:=Lib.hid (T0.out.later b2)
 have H2:=Lib.hid (H0.out.later b2)
 have hba:=(Below.refl w2.heap.size w2).alloc (Nat.le_refl _) (.cells (u8s D) 30)
 have HB3:=Lib.hid (HB2.out.trans (hba.mono (hr4▸HB2.out.size)))
 have R3:=Lib.hid ((hba.block _ (Array.getElem?_eq_some_iff.1 R2.out).1).trans R2.out)
 have T3:=Lib.hid (T2.out.later hba)
 have H3:=Lib.hid (H2.out.later hba)
 have R5:=Lib.hid (heap_alloc_new w2 (.cells (u8s D) 30))
 have RZ:=Lib.hid (heap_alloc_new w2 (.cells (u8s (zeros 32)) 30))
 have HSR:=Lib.hid (setRow_alloc w2 (u8s (zeros 32)) (u8s D) 30)
 have HR45:=Lib.hid (show r4<w2.heap.size from by have:=(Array.getElem?_eq_some_iff.1 R2.out).1;exact this)
 clear hba b2 HB0 R0 T0 H0 HB2 R2 T2 H2
 go_upto_region 2 with (refine wpList_store_row (by rfl) 30 _ _ (by rfl) w2.heap.size (u8s D) (by rfl) (by rfl) _ _ RZ.out (by rw [u8s_size,HDL.out];exact S25) (by rw [u8s_size,u8s_size,HDL.out];rfl) (u8s_one _) ?_)
 rw [HSR.out]
 generalize w2.alloc (.cells (u8s D) 30)=w3 at *
 generalize w2.heap.size=r5 at *
 clear RZ HSR
 obtain ⟨pp,mm,cc,hl,hnone,hsome⟩:=look_any H3.out.pages HDL.out HDO.out
 have C03:=Lib.hid H3.out.c0
 have HNN:=Lib.hid hnone
 have HSS:=Lib.hid hsome
 clear hnone hsome
 simp only [Act.put]
 have hkeep:∀s':S,s'=s→PutPost Q w g s' (w3.setRow r4 (u8s D)):=fun s' e=>by
  rw [e]
  exact putPost_fin HC0.out (fun b e=>e) H3.out (Dk.Only.of_below _ (by rw [hr4];exact HB3.out)) (fun e=>by have:=HQL.out _ e;omega) (fun k hk=>Or.inl hk) (by omega) _
 have HKE:=Lib.hid hkeep
 clear hkeep
 by_cases hi:idx D s.W<s.W.length
 ·rw [decide_eq_true hi] at hl
  have HL:=Lib.hid hl
  obtain ⟨t,ht⟩:∃t,textAt s.W D=some t:=⟨_,textAt_some hi⟩
  have HT:=Lib.hid (HSS.out t ht)
  have HPT:=Lib.hid ht
  have hmt:mm≤100000:=by have:=HT.out.tx.size;have:=HT.out.le;omega
  clear hl ht hi HSS HNN
  refine wp_region_held_drew (S:=fun w'=>w'.heap=w3.heap) (by kernel_rfl) rfl (fun hHeld=>?_)
  refine tK 0 ?_
  refine tK 1 ?_
  refine tK 2 ?_
  refine tQ 3 ?_ ?_ ?_
  rotate_left
  ·intro w' hSw
   have c0:=(World.cell?_of_block (w:=w3) (a:=⟨g,0,none⟩) (by rw [hSw])).trans C03.out
   go_simp
   try with_reducible rfl
  refine tQ 4 ?_ ?_ ?_
  rotate_left
  ·intro w' hSw
   refine Eq.trans (b:=Result.ok (Next.value (.agg (u8s D))) w') ?_ ?_
   ·exact op_load_dig (by rfl) (by rfl) HDL.out (range_of_row' ((congrArg (fun h=>h[r5]?) hSw).trans R5.out))
   ·with_reducible rfl
  refine tQ 5 ?_ ?_ ?_
  rotate_left
  ·intro w' hSw
   refine Eq.trans (b:=Result.ok (Next.value (.tuple #[.slice pp mm cc,.bool true])) w') ?_ ?_
   ·exact op_look (by rfl) (by rfl) (by rfl) (HL.out w' hSw)
   ·with_reducible rfl
  refine tK 6 ?_
  refine tK 7 ?_
  refine tK 8 ?_
  refine tK 9 ?_
  refine tK 10 ?_
  refine wpAnyH_done (by kernel_rfl) ?_ _
  have HB5:=Lib.hid (HB3.out.drew)
  have R55:=Lib.hid (show w3.drew.heap[r5]? =_ from R5.out)
  have R35:=Lib.hid (show w3.drew.heap[r4]? =_ from R3.out)
  have T5:=Lib.hid (T3.out.later (Below.refl _ _).drew)
  have H5:=Lib.hid (H3.out.later (Below.refl _ _).drew)
  have HKE5:=Lib.hid (show ∀s':S,s'=s→PutPost Q w g s' (w3.drew.setRow r4 (u8s D)) from fun s' e=>by
   rw [e]
   exact putPost_fin HC0.out (fun b e=>e) H5.out (Dk.Only.of_below _ (by rw [hr4];exact HB5.out)) (fun e=>by have:=HQL.out _ e;omega) (fun k hk=>Or.inl hk) (by omega) _)
  have HT5:=Lib.hid (HT.out.keep (w':=w3.drew) (fun _ _=>rfl))
  have C1:=H5.out.c1
  clear hHeld HB3 R5 R3 T3 H3 HL HKE HT
  generalize w3.drew=w5 at *
  have HTT:=Lib.hid HT5.out.tx
  have HCL:=Lib.hid (show s.put b=⟨s.W,match s.cl with | some x=>some x | none=>if t=b then none else some (t,b)⟩ from by
   have h1:idx (sumOf b) s.W<s.W.length:=by rw [← HD.out];exact textAt_lt HPT.out
   have h2:textAt s.W (sumOf b)=some t:=by rw [← HD.out];exact HPT.out
   unfold S.put putW
   rw [if_pos h1,h2]
   cases s.cl<;>rfl)
  cases cl with
  | some ca=>
   have HS:=Lib.hid (show s.put b=s from by
    rw [HCL.out]
    rcases H5.out.clash with ⟨h1,_⟩ | ⟨_,a,b',_,h2,_⟩
    ·cases h1
    ·cases s with | mk W c=>cases h2;rfl)
   go_wp2_with (first | (refine wpList_load_row (by rfl) 30 (.tmp 5) (by rfl) r5 (by rfl) 30 (u8s D) (0,0) _ R55.out A25 rfl (by rw [u8s_size,HDL.out];exact S25) ?_) | (refine wpList_store_row (by rfl) 30 _ _ (by rfl) r4 (u8s D) (by rfl) (by rfl) _ _ R35.out (by rw [u8s_size,HDL.out];exact S25) (by rw [u8s_size,u8s_size,HDL.out];rfl) (u8s_one _) ?_))
   exact ret_row 4 (by kernel_rfl) r4 _ _ A25 S25 rfl (setRow_heap _ _ _ _ _ _ R35.out) (by rw [u8s_size];exact HDL.out) ⟨by rw [HD.out],HKE5.out _ HS.out⟩
  | none=>
   have hcn:s.cl=none:=by
    rcases H5.out.clash with ⟨_,h1⟩ | ⟨_,_,_,h1,_⟩
    ·exact h1
    ·cases h1
   by_cases htb:t=b
   ·have HS:=Lib.hid (show s.put b=s from by
     rw [HCL.out,if_pos htb,hcn]
     cases s with | mk W c=>cases hcn;rfl)
    have HEQ:=Lib.hid (decide_eq_true htb)
    clear htb hcn
    go_wp2_with (first | (refine wpList_load_row (by rfl) 30 (.tmp 5) (by rfl) r5 (by rfl) 30 (u8s D) (0,0) _ R55.out A25 rfl (by rw [u8s_size,HDL.out];exact S25) ?_) | (refine wpList_store_row (by rfl) 30 _ _ (by rfl) r4 (u8s D) (by rfl) (by rfl) _ _ R35.out (by rw [u8s_size,HDL.out];exact S25) (by rw [u8s_size,u8s_size,HDL.out];rfl) (u8s_one _) ?_) | (go_at_call 250;refine (bequal_any HTT.out T5.out).mono ?_;rintro _ _ ⟨rfl,rfl⟩;rw [HEQ.out]))
    exact ret_row 4 (by kernel_rfl) r4 _ _ A25 S25 rfl (setRow_heap _ _ _ _ _ _ R35.out) (by rw [u8s_size];exact HDL.out) ⟨by rw [HD.out],HKE5.out _ HS.out⟩
   ·have HS:=Lib.hid (show s.put b=⟨s.W,some (t,b)⟩ from by rw [HCL.out,hcn];simp only [if_neg htb])
    have HEQ:=Lib.hid (decide_eq_false htb)
    clear htb hcn
    have OKC:=Lib.hid (show S.ok ⟨s.W,some (t,b)⟩ from by rw [← HS.out];exact HOK.out)
    go_upto_region 6 with (first | (go_at_call 250;refine (bequal_any HTT.out T5.out).mono ?_;rintro _ _ ⟨rfl,rfl⟩;rw [HEQ.out]))
    go_wp2_with fail
    refine (bclone_any T5.out hn).mono ?_
    rintro _ w42 ⟨q42,c42,rfl,o42,b42⟩
    have T42:=tq_of_own o42 HNB.out HTO.out (by rw [← HNB.out];exact hn)
    have H42:=H5.out.later b42
    have HT42:=HT5.out.keep (w':=w42) (fun k hk=>b42.block k (H5.out.lt k hk))
    obtain ⟨HCX,hoX⟩:=H42.clashed HT42 T42 (fun k hk=>hk.2) OKC.out
    have hba:=(Below.refl w42.heap.size w42).alloc (Nat.le_refl _) (.cells #[.slice pp mm cc,.slice q42 n c42] 112)
    have cA:=(H42.later hba).c1
    have fA:=(H42.later hba).f1
    have hg4:g<r4:=HQL.out _ H5.out.mine
    have RR4:=Lib.hid ((hoX.block r4 (Nat.lt_of_lt_of_le (Array.getElem?_eq_some_iff.1 R35.out).1 b42.size) (by omega)).trans ((b42.block _ (Array.getElem?_eq_some_iff.1 R35.out).1).trans R35.out))
    have RR5:=Lib.hid ((hoX.block r5 (Nat.lt_of_lt_of_le (Array.getElem?_eq_some_iff.1 R55.out).1 b42.size) (by have:=HR45.out;omega)).trans ((b42.block _ (Array.getElem?_eq_some_iff.1 R55.out).1).trans R55.out))
    have HFIN:=Lib.hid (show PutPost Q w g (s.put b) (((w42.alloc (.cells #[.slice pp mm cc,.slice q42 n c42] 112)).setCell ⟨g,1,none⟩ (.pointer (some ⟨w42.heap.size,0,none⟩))).setRow r4 (u8s D)) from by
     rw [HS.out]
     have hs5:r4<w5.heap.size:=(Array.getElem?_eq_some_iff.1 R35.out).1
     have hbw:w.heap.size≤w5.heap.size:=by omega
     have hb4:=b42.size
     refine putPost_fin HC0.out (fun b e=>e) HCX ((Dk.Only.of_below _ (by rw [hr4];exact HB5.out.trans (b42.mono (by omega)))).trans (hoX.mono (fun k e=>by rw [e];exact H5.out.mine))) (fun e=>?_) (fun k hk=>?_) (by omega) _
     ·rcases e with e | ⟨e,_⟩ | e
      ·have:=HQL.out _ e;omega
      ·omega
      ·omega
     ·rcases hk with e | ⟨e,_⟩ | e
      ·exact Or.inl e
      ·right;omega
      ·right;omega)
    clear o42 b42 T42 H42 HT42 HCX hoX hba HT5 HTT C1
    go_wp2_with (first | (refine wpList_load_row (by rfl) 30 (.tmp 5) (by rfl) r5 (by rfl) 30 (u8s D) (0,0) _ RR5.out A25 rfl (by rw [u8s_size,HDL.out];exact S25) ?_) | (refine wpList_store_row (by rfl) 30 _ _ (by rfl) r4 (u8s D) (by rfl) (by rfl) _ _ RR4.out (by rw [u8s_size,HDL.out];exact S25) (by rw [u8s_size,u8s_size,HDL.out];rfl) (u8s_one _) ?_))
    exact ret_row 4 (by kernel_rfl) r4 _ _ A25 S25 rfl (setRow_heap _ _ _ _ _ _ RR4.out) (by rw [u8s_size];exact HDL.out) ⟨by rw [HD.out],HFIN.out⟩
 ·rw [decide_eq_false hi] at hl
  have HL:=Lib.hid hl
  have HPN:=Lib.hid (textAt_none hi)
  have HNI:=Lib.hid hi
  clear hl hi HSS HNN
  refine wp_region_held_drew (S:=fun w'=>w'.heap=w3.heap) (by kernel_rfl) rfl (fun hHeld=>?_)
  refine tK 0 ?_
  refine tK 1 ?_
  refine tK 2 ?_
  refine tQ 3 ?_ ?_ ?_
  rotate_left
  ·intro w' hSw
   have c0:=(World.cell?_of_block (w:=w3) (a:=⟨g,0,none⟩) (by rw [hSw])).trans C03.out
   go_simp
   try with_reducible rfl
  refine tQ 4 ?_ ?_ ?_
  rotate_left
  ·intro w' hSw
   refine Eq.trans (b:=Result.ok (Next.value (.agg (u8s D))) w') ?_ ?_
   ·exact op_load_dig (by rfl) (by rfl) HDL.out (range_of_row' ((congrArg (fun h=>h[r5]?) hSw).trans R5.out))
   ·with_reducible rfl
  refine tQ 5 ?_ ?_ ?_
  rotate_left
  ·intro w' hSw
   refine Eq.trans (b:=Result.ok (Next.value (.tuple #[.slice pp mm cc,.bool false])) w') ?_ ?_
   ·exact op_look (by rfl) (by rfl) (by rfl) (HL.out w' hSw)
   ·with_reducible rfl
  refine tK 6 ?_
  refine tK 7 ?_
  refine tK 8 ?_
  refine tK 9 ?_
  refine tK 10 ?_
  refine wpAnyH_done (by kernel_rfl) ?_ _
  have HB5:=Lib.hid (HB3.out.drew)
  have R55:=Lib.hid (show w3.drew.heap[r5]? =_ from R5.out)
  have R35:=Lib.hid (show w3.drew.heap[r4]? =_ from R3.out)
  have T5:=Lib.hid (T3.out.later (Below.refl _ _).drew)
  have H5:=Lib.hid (H3.out.later (Below.refl _ _).drew)
  have HKE5:=Lib.hid (show ∀s':S,s'=s→PutPost Q w g s' (w3.drew.setRow r4 (u8s D)) from fun s' e=>by
   rw [e]
   exact putPost_fin HC0.out (fun b e=>e) H5.out (Dk.Only.of_below _ (by rw [hr4];exact HB5.out)) (fun e=>by have:=HQL.out _ e;omega) (fun k hk=>Or.inl hk) (by omega) _)
  have HPUT:=Lib.hid (show s.put b=⟨s.W++[(D,b)],s.cl⟩ from by
   have h1:¬idx (sumOf b) s.W<s.W.length:=by rw [← HD.out];exact HNI.out
   have h2:textAt s.W (sumOf b)=none:=textAt_none h1
   unfold S.put putW
   rw [if_neg h1,h2,← HD.out]
   cases s.cl<;>rfl)
  clear hHeld HB3 R5 R3 T3 H3 HL HKE HKE5
  generalize w3.drew=w5 at *
  go_upto_region 4 with fail
  refine wp_region_held_drew (S:=fun w'=>w'.heap[r5]? =some (.cells (u8s D) 30 (0,0))) (by kernel_rfl) R55.out (fun hHeld=>?_)
  refine tK 0 ?_
  refine tQ 1 ?_ ?_ ?_
  rotate_left
  ·intro w' hSw
   refine Eq.trans (b:=Result.ok (Next.value (.agg (u8s D))) w') ?_ ?_
   ·exact op_load_dig (by rfl) (by rfl) HDL.out (range_of_row' hSw)
   ·with_reducible rfl
  refine tK 2 ?_
  refine rY [3] ?_
  refine rC (fun K hK=>?_) AllReadyH.nil
  go_simp
  refine (bclone_any (T5.out.later (Below.refl _ _).drew) hn).mono ?_
  rintro _ w25 ⟨q25,c25,rfl,o25,b25⟩
  have b25':=(Below.refl w5.heap.size w5).drew.trans b25
  have B25:=Lib.hid b25'
  have T25:=Lib.hid (tq_of_own (w:=w5.drew) o25 HNB.out HTO.out (by rw [← HNB.out];exact hn))
  have H25:=Lib.hid (H5.out.later b25')
  have R25:w25.heap[r5]? =some (.cells (u8s D) 30 (0,0)):=(b25'.block _ (Array.getElem?_eq_some_iff.1 R55.out).1).trans R55.out
  have HC:=Lib.hid R25
  clear o25 b25 b25'
  try go_wp2_with fail
  refine hK.out _ _ R25 (fun hHeld=>?_)
  clear hK K
  try simp only [Act.put,sA,sZ,sS]
  refine rY [4] ?_
  refine rC (fun K hK=>?_) AllReadyH.nil
  go_simp
  refine (add_any H25.out HDL.out HDO.out HNI.out T25.out (fun k hk=>hk.2) (by rw [← HPUT.out];exact HOK.out) hsm).mono ?_
  rintro _ w26 ⟨rfl,p26⟩
  have R26:w26.heap[r5]? =some (.cells (u8s D) 30 (0,0)):=(p26.2.block _ (Array.getElem?_eq_some_iff.1 HC.out).1 (fun e=>by have:=HQL.out _ e;have:=HR45.out;omega)).trans HC.out
  have P26:=Lib.hid p26
  clear p26
  try go_wp2_with fail
  refine hK.out _ _ R26 (fun hHeld=>?_)
  clear hK K
  try simp only [Act.put,sA,sZ,sS]
  refine wpAnyH_done (by kernel_rfl) ?_ _
  have RR5:=Lib.hid hHeld
  have RR4:=Lib.hid ((P26.out.2.block _ (Nat.lt_of_lt_of_le (Array.getElem?_eq_some_iff.1 R35.out).1 B25.out.size) (fun e=>by have:=HQL.out _ e;omega)).trans ((B25.out.block _ (Array.getElem?_eq_some_iff.1 R35.out).1).trans R35.out))
  have HFIN:=Lib.hid (show PutPost Q w g (s.put b) (w26.setRow r4 (u8s D)) from by
   obtain ⟨⟨mp',h26,hm26⟩,ho⟩:=P26.out
   rw [HPUT.out]
   have hs5:r4<w5.heap.size:=(Array.getElem?_eq_some_iff.1 R35.out).1
   have hbw:w.heap.size≤w5.heap.size:=by omega
   have hsw:w5.drew.heap.size=w5.heap.size:=rfl
   refine putPost_fin HC0.out hm26 h26 ((Dk.Only.of_below _ (by rw [hr4];exact HB5.out.trans (B25.out.mono (by omega)))).trans ho) (fun e=>?_) (fun k hk=>?_) (by omega) _
   ·rcases e with e | ⟨e,_⟩ | ⟨e,_⟩
    ·have:=HQL.out _ e;omega
    ·omega
    ·have:=B25.out.size;omega
   ·rcases hk with e | ⟨e,_⟩ | ⟨e,_⟩
    ·exact Or.inl e
    ·right;omega
    ·have:=B25.out.size;right;omega)
  clear P26 B25 T25 H25 hHeld HC
  go_wp2_with (first | (refine wpList_load_row (by rfl) 30 (.tmp 5) (by rfl) r5 (by rfl) 30 (u8s D) (0,0) _ RR5.out A25 rfl (by rw [u8s_size,HDL.out];exact S25) ?_) | (refine wpList_store_row (by rfl) 30 _ _ (by rfl) r4 (u8s D) (by rfl) (by rfl) _ _ RR4.out (by rw [u8s_size,HDL.out];exact S25) (by rw [u8s_size,u8s_size,HDL.out];rfl) (u8s_one _) ?_))
  exact ret_row 4 (by kernel_rfl) r4 _ _ A25 S25 rfl (setRow_heap _ _ _ _ _ _ RR4.out) (by rw [u8s_size];exact HDL.out) ⟨by rw [HD.out],HFIN.out⟩
end Go.Proofs.YtinihaflmdihaaaGreat.Pg
