/- NlSaySum, NlSay, NlGetNone, NlGet, NlGetUn, KdGet, KtSee. -/
import Derived.BigRegion
import Derived.Deep.MidRow
import Derived.Test.YtinihaflmdihaaaGreatL18
set_option maxRecDepth 100000
set_option maxHeartbeats 8000000
set_option linter.all false
namespace Go.Proofs.YtinihaflmdihaaaGreat.Nd
open Go.RowKit Go.Proofs.YtinihaflmdihaaaGreat.Dk Go.Proofs.YtinihaflmdihaaaGreat.Pg
def y1G (w:World) (N:PN) (d:Int) (e:Ending) (w':World):Prop:=
 Below w.heap.size w w'∧
 (((N.right d=true∧N.size≤1048576)∧∃kd:Kd,e= .returned (.tuple #[.agg kd.cells.toArray,.int .i64 0])∧kd.pk=N.says∧kd.Ok w'∧Fsh w kd)∨
  (¬(N.right d=true∧N.size≤1048576)∧e= .returned (.tuple #[.agg kd0.cells.toArray,.int .i64 1])))
theorem x3z {w w':World} {N:PN} {d:Int} (h:¬(N.right d=true∧N.size≤1048576)) (hb:Below w.heap.size w w'):y1G w N d (.returned (.tuple #[.agg kd0.cells.toArray,.int .i64 1])) w':=⟨hb,Or.inr ⟨h,rfl⟩⟩
theorem y4k (kind:Nat) (hkd:kind<256) (p:Option Addr) (n c:Nat) (q:Option Addr) (m f:Nat) (E:List En) (K:List Kd) (d:Int) (w:World) (hE:EntsIn w p n c E) (hK:KidsIn w q m f K):
  Calls Tryz.prog 150 #[.agg #[.int .u8 kind,.slice p n c,.slice q m f],.int .i64 d,.func (.func 151) #[] #[]] w (y1G w (pnOf kind E K) d):=by
 have AS:Below w.heap.size w (w.alloc (.cells #[.int .u8 kind,.slice p n c,.slice q m f] 81)):=(Below.refl _ _).alloc (Nat.le_refl _) _
 have A2:=NodeAt.start w kind p n c q m f
 have z1:(w.alloc (.cells #[.int .u8 kind,.slice p n c,.slice q m f] 81)).heap.size=w.heap.size+1:=by simp
 have An:=yH hkd
 have HE:=yH hE
 have HK:=yH hK
 obtain ⟨du,AV,AT⟩:=UKd
 have Z:=yH AV
 have Y:=yH AT
 have HZ:=yH (zero_of_info kz)
 clear hkd hE hK AV AT
 have B5:=HZ.out.1
 go_enter Tryz.func150,Tryz.ntmps150
 go_upto_region 1 with fail
 have v:Below (w.heap.size+1) (w.alloc (.cells #[.int .u8 kind,.slice p n c,.slice q m f] 81)) ((w.alloc (.cells #[.int .u8 kind,.slice p n c,.slice q m f] 81)).alloc (.cells kd0.cells.toArray 34)):=(Below.refl _ _).alloc (by omega) _
 have r2:=heap_alloc_new (w.alloc (.cells #[.int .u8 kind,.slice p n c,.slice q m f] 81)) (.cells kd0.cells.toArray 34)
 rw [z1] at r2
 have t:=yH (A2.later (by rw [z1];exact v))
 have G:=yH (AS.trans (v.mono (by omega)))
 have o:=yH r2
 clear AS A2 z1 v r2
 generalize (w.alloc (.cells #[.int .u8 kind,.slice p n c,.slice q m f] 81)).alloc (.cells kd0.cells.toArray 34)=w2 at *
 have Q:=yH (x5g kind An.out p n c q m f E K d w2 (HE.out.later G.out) (HK.out.later G.out))
 have b:=yH (fun U (h:Below w.heap.size w U) (hr:(pnOf kind E K).right d=true)=>x7K kind p n c q m f E K d U (HE.out.later h) (HK.out.later h) hr)
 have Am:=yH (fun (hr:(pnOf kind E K).right d=true)=>x1N (PN.fit hr) (fun k hk=>by obtain ⟨y,hy,rfl⟩:=List.mem_map.1 hk;exact (HK.out.each y hy).len))
 generalize pnOf kind E K=N at *
 obtain ⟨t0,t1,t2⟩:=t.out.cells
 cases hr:N.right d with
 | false=>
  have s:=yH (show ¬(N.right d=true∧N.size≤1048576) from fun h=>by rw [hr] at h;exact absurd h.1 (by simp))
  have P:=yH hr
  clear hr
  go_wp2_with (first
   | (go_at_call 205;refine Q.out.mono ?_;rintro e U ⟨a,h3⟩;obtain rfl:e= .returned (.tuple #[.slice Option.none 0 0,.int .i64 1]):=(h3.elim (fun h=>by rw [P.out] at h;exact absurd h.1 (by simp)) (fun h=>h.2));have I:=yH (yK a o.out);have J:=yH (G.out.trans (a.mono G.out.size));clear a h3)
   | (refine x07 (by rfl) (by rfl) x0T ?_)
   | (refine wpList_store_row (by rfl) 34 _ _ (by rfl) (w.heap.size+1) kd0.cells.toArray (by rfl) (by rfl) _ _ I.out (by rw [List.size_toArray,x01];exact SKd) rfl (all_oneCell_toArray Kd.one) ?_))
  have r9:=setRow_heap _ (w.heap.size+1) _ kd0.cells.toArray _ _ I.out
  have z:Below (w.heap.size+1) U (U.setRow (w.heap.size+1) kd0.cells.toArray):=Below.setRow (Below.refl _ _) (Nat.le_refl _) _
  refine x0F 6 7 (by kernel_rfl) (w.heap.size+1) _ kd0.cells.toArray _ Z.out Y.out (by rw [List.size_toArray,x01];exact SKd) (by rfl) (by rfl) r9 ?_
  exact x3z s.out (J.out.trans (z.mono (by omega)))
 | true=>
  have P:=yH hr
  have Ad:=yH (Am.out hr)
  clear hr
  go_upto_region 5 with (first
   | (go_at_call 205;refine Q.out.mono ?_;rintro e U ⟨a,h3⟩;obtain ⟨q9,c9,rfl,o9,AG⟩:=(h3.elim (fun h=>h.2) (fun h=>by rw [P.out] at h;exact absurd h.1 (by simp)));have Aa:=yH (x0H o9 AG);have AM:=yH (t.out.later a);have I:=yH (yK a o.out);have J:=yH (G.out.trans (a.mono G.out.size));obtain ⟨t0,t1,t2⟩:=AM.out.cells;have AF:=yH (b.out U J.out P.out);clear a h3 o9 AG)
   | (go_at_call 206;refine AF.out.mono ?_;rintro e H ⟨B,rfl,AD,i,AI,b4⟩;have A6:=yH AD;have A:=yH i;have Ap:=yH AI;have AY:=yH (Aa.out.later b4);have AE:=yH (yK b4 I.out);have l:=yH (J.out.trans (b4.mono J.out.size));have AX:=yH b4.size;clear AD i AI b4)
   | (refine wpList_store_row (by rfl) 34 (.tmp 10) (.tmp 22) (by rfl) H.heap.size B.cells.toArray (by rfl) (by rfl) _ _ (heap_alloc_new H _) (by rw [List.size_toArray,Kd.cells_length A.out.len];exact SKd) (by simp only [List.size_toArray,Kd.cells_length A.out.len,x01]) (all_oneCell_toArray Kd.one) ?_;rw [x04]))
  have AO:=heap_alloc_new H (.cells B.cells.toArray 34)
  have O:Below H.heap.size H (H.alloc (.cells B.cells.toArray 34)):=(Below.refl _ _).alloc (Nat.le_refl _) _
  have Ae:=yH (AY.out.later O)
  have u:=yH (yK O AE.out)
  have A0:=yH (l.out.trans (O.mono l.out.size))
  have C:=yH (A.out.later O)
  have A4:=yH AO
  have X:=yH (show w.heap.size+1<U.heap.size∧U.heap.size≤H.heap.size from ⟨(yL I.out),AX.out⟩)
  have AJ:=yH (show ∀r∈B.rows,r.Ok H∧(∀x,r.p=some x→r.R≠[]→U.heap.size≤x.block∧x.block<H.heap.size) from fun r hr=>by
   have AH:r.Ok H:=by
    simp only [Kd.rows,List.mem_cons,List.not_mem_nil,or_false] at hr
    rcases hr with rfl | rfl | rfl
    ·exact A.out.lo
    ·exact A.out.hi
    ·exact A.out.key
   exact ⟨AH,fun x hx hR=>⟨Ap.out r hr x hx hR,x23 AH.ints hx hR⟩⟩)
  have AR:H.heap.size<(H.alloc (.cells B.cells.toArray 34)).heap.size:=by simp
  have B6:=yH AR
  generalize H.alloc (.cells B.cells.toArray 34)=w5 at *
  clear AO O AR AY AE Aa I AM AF Q b o t G t0 t1 t2 J l
  generalize H.heap.size=gk at *
  have AW:=(x0M A4.out C.out.len).size
  rw [Nat.zero_add] at AW
  have A8:B.size=N.size:=congrArg PK.size A6.out
  by_cases hz:1048576<B.size
  ·have s:=yH (show ¬(N.right d=true∧N.size≤1048576) from fun h=>by have:=h.2;omega)
   clear A8
   go_wp2_with (first
    | (refine x07 (by rfl) (by rfl) x0T ?_)
    | (refine wpList_store_row (by rfl) 34 _ _ (by rfl) (w.heap.size+1) kd0.cells.toArray (by rfl) (by rfl) _ _ u.out (by rw [List.size_toArray,x01];exact SKd) rfl (all_oneCell_toArray Kd.one) ?_))
   have r9:=setRow_heap _ (w.heap.size+1) _ kd0.cells.toArray _ _ u.out
   have z:Below (w.heap.size+1) w5 (w5.setRow (w.heap.size+1) kd0.cells.toArray):=Below.setRow (Below.refl _ _) (Nat.le_refl _) _
   refine x0F 6 7 (by kernel_rfl) (w.heap.size+1) _ kd0.cells.toArray _ Z.out Y.out (by rw [List.size_toArray,x01];exact SKd) (by rfl) (by rfl) r9 ?_
   exact x3z s.out (A0.out.trans (z.mono (by omega)))
  ·have As:=yH (show N.right d=true∧N.size≤1048576 from ⟨P.out,by omega⟩)
   obtain ⟨D,hD⟩:∃D,D=sumOf N.bytes:=⟨_,rfl⟩
   have AL:=yH hD
   have L:=yH (show D.length=32 from by rw [hD];rfl)
   have Al:=yH (show Sm.allB D from by rw [hD];exact x3N _)
   clear A8 hD
   have AC:=yH (x05 C.out)
   have A1:=x8r N.bytes q9 N.bytes.length c9 w5 Ae.out Ad.out
   rw [← AL.out] at A1
   have Af:=yH A1
   clear A1
   go_upto_region 8 with (first
    | (go_at_call 151;refine Af.out.mono ?_;rintro e w6 ⟨rfl,b6⟩;have AP:=yH (yK b6 A4.out);have A7:=yH (yK b6 u.out);have g:=yH (show ∀r∈B.rows,r.Ok w6 from fun r hr=>(AC.out r hr).later b6);have AB:=yH (A0.out.trans (b6.mono A0.out.size));clear b6)
    | (refine wpList_store_mid (by rfl) 30 _ _ (by rfl) gk 0 (u8s D) (by rfl) (by rfl) (by rw [x08,L.out];exact x6O AP.out C.out.len) (by rw [x08,L.out];exact S25) (x0b _) ?_))
   have r7:=y0a (D:=D) AP.out C.out.len L.out
   have o7:=x13 w6 gk 0 (vals D)
   rw [show (u8s D).toList=vals D from rfl]
   have AZ:=yH o7
   have Ai:=yH r7
   have AK:=yH ((o7.block _ (yL A7.out) (by have:=X.out;omega)).trans A7.out)
   clear o7 r7
   generalize w6.setCells gk 0 (vals D)=w7 at *
   have W:=yH (show ({B with sum:=D}:Kd).cells.length=37 from Kd.cells_length L.out)
   have Ak:=yH (x0E Ai.out)
   clear AW
   go_wp2_with (first
    | (refine wpList_load_mid (by rfl) 34 _ (by rfl) gk 0 (by rfl) ({B with sum:=D}:Kd).cells du Ak.out Z.out Y.out (by rw [W.out];exact SKd) ?_)
    | (refine wpList_store_row (by rfl) 34 _ _ (by rfl) (w.heap.size+1) ({B with sum:=D}:Kd).cells.toArray (by rfl) (by rfl) _ _ AK.out (by rw [List.size_toArray,W.out];exact SKd) (by simp only [List.size_toArray,W.out,x01]) (all_oneCell_toArray Kd.one) ?_))
   have r9:=setRow_heap _ (w.heap.size+1) _ ({B with sum:=D}:Kd).cells.toArray _ _ AK.out
   have M:∀r∈B.rows,r.Ok (w7.setRow (w.heap.size+1) ({B with sum:=D}:Kd).cells.toArray):=fun r hr=>rw_keep (g.out r hr) (fun x hx hR=>by
    have h9:=(AJ.out r hr).2 x hx hR
    have Aq:x.block<w6.heap.size:=x23 (g.out r hr).ints hx hR
    rw [setRow_other _ _ _ _ (by have:=X.out;omega)]
    exact AZ.out.block _ Aq (by omega))
   refine x0F 6 7 (by kernel_rfl) (w.heap.size+1) _ ({B with sum:=D}:Kd).cells.toArray _ Z.out Y.out (by rw [List.size_toArray,W.out];exact SKd) (by rfl) (by rfl) r9 ?_
   have AN:({B with sum:=D}:Kd).Ok (w7.setRow (w.heap.size+1) ({B with sum:=D}:Kd).cells.toArray):=⟨L.out,Al.out,M _ (by simp [Kd.rows]),M _ (by simp [Kd.rows]),M _ (by simp [Kd.rows]),C.out.live,C.out.size⟩
   have AQ:({B with sum:=D}:Kd).pk=N.says:=by
    have e4:=A6.out
    unfold PN.says
    rw [← e4,← AL.out]
    rfl
   have Aj:Fsh w ({B with sum:=D}:Kd):=fun r hr x hx hR=>by have:=((AJ.out r hr).2 x hx hR).1;have:=X.out;omega
   have Ao:Below w.heap.size w w7:=AB.out.trans (AZ.out.below AB.out.size (fun j e=>by have:=X.out;omega))
   exact ⟨Below.setRow Ao (by omega) _,Or.inl ⟨As.out,_,rfl,AQ,AN,Aj⟩⟩
theorem y1H (kind:Nat) (hkd:kind<256) (p:Option Addr) (n c:Nat) (q:Option Addr) (m f:Nat) (E:List En) (K:List Kd) (d:Int) (w:World) (hE:EntsIn w p n c E) (hK:KidsIn w q m f K):
  Calls Tryz.prog 105 #[.agg #[.int .u8 kind,.slice p n c,.slice q m f],.int .i64 d] w (y1G w (pnOf kind E K) d):=by
 have Y:Below w.heap.size w (w.alloc (.cells #[.int .u8 kind,.slice p n c,.slice q m f] 81)):=(Below.refl _ _).alloc (Nat.le_refl _) _
 have U:=NodeAt.start w kind p n c q m f
 have z1:(w.alloc (.cells #[.int .u8 kind,.slice p n c,.slice q m f] 81)).heap.size=w.heap.size+1:=by simp
 have z:=yH hkd
 have HE:=yH hE
 have HK:=yH hK
 obtain ⟨du,i,Z⟩:=UKd
 have a:=yH i
 have j:=yH Z
 have HZ:=yH (zero_of_info kz)
 clear hkd hE hK i Z
 have A5:=HZ.out.1
 go_enter Tryz.func105,Tryz.ntmps105
 go_upto_region 1 with fail
 have P:Below (w.heap.size+1) (w.alloc (.cells #[.int .u8 kind,.slice p n c,.slice q m f] 81)) ((w.alloc (.cells #[.int .u8 kind,.slice p n c,.slice q m f] 81)).alloc (.cells kd0.cells.toArray 34)):=(Below.refl _ _).alloc (by omega) _
 have o:=heap_alloc_new (w.alloc (.cells #[.int .u8 kind,.slice p n c,.slice q m f] 81)) (.cells kd0.cells.toArray 34)
 rw [z1] at o
 have v:=yH (U.later (by rw [z1];exact P))
 have A:=yH (Y.trans (P.mono (by omega)))
 have J:=yH o
 clear Y U z1 P o
 generalize (w.alloc (.cells #[.int .u8 kind,.slice p n c,.slice q m f] 81)).alloc (.cells kd0.cells.toArray 34)=w2 at *
 have I:=yH (y4k kind z.out p n c q m f E K d w2 (HE.out.later A.out) (HK.out.later A.out))
 generalize pnOf kind E K=N at *
 obtain ⟨t0,t1,t2⟩:=v.out.cells
 have l:=yH (show w.heap.size+1<w2.heap.size from (yL J.out))
 by_cases hg:N.right d=true∧N.size≤1048576
 ·have R:=yH hg
  clear hg
  go_wp2_with (first
   | (go_at_call 150;refine I.out.mono ?_;rintro e b ⟨L,s⟩;obtain ⟨H,rfl,g,O,k⟩:=(s.elim (fun h=>h.2) (fun h=>absurd R.out h.1));have B:=yH (yK L J.out);have Q:=yH (A.out.trans (L.mono A.out.size));clear L;have M:=yH (Kd.cells_length O.len);have t:=yH g;have C:=yH O;have W:=yH k;clear g O k)
   | (refine wpList_store_row (by rfl) 34 _ _ (by rfl) (w.heap.size+1) H.cells.toArray (by rfl) (by rfl) _ _ B.out (by rw [List.size_toArray,M.out];exact SKd) (by simp only [List.size_toArray,M.out,x01]) (all_oneCell_toArray Kd.one) ?_))
  have y:=setRow_heap _ (w.heap.size+1) _ H.cells.toArray _ _ B.out
  have G:∀r∈H.rows,r.Ok (b.setRow (w.heap.size+1) H.cells.toArray):=fun r hr=>rw_keep (x05 C.out r hr) (fun x hx hR=>setRow_other _ _ _ _ (by have:=W.out r hr x hx hR;have:=l.out;omega))
  refine x0F 4 5 (by kernel_rfl) (w.heap.size+1) _ H.cells.toArray _ a.out j.out (by rw [List.size_toArray,M.out];exact SKd) (by rfl) (by rfl) y ?_
  have X:H.Ok (b.setRow (w.heap.size+1) H.cells.toArray):=⟨C.out.len,C.out.ok,G _ (by simp [Kd.rows]),G _ (by simp [Kd.rows]),G _ (by simp [Kd.rows]),C.out.live,C.out.size⟩
  have u:Fsh w H:=fun r hr x hx hR=>by have:=W.out r hr x hx hR;have:=l.out;omega
  exact ⟨Below.setRow Q.out (by omega) _,Or.inl ⟨R.out,H,rfl,t.out,X,u⟩⟩
 ·have R:=yH hg
  clear hg
  go_wp2_with (first
   | (go_at_call 150;refine I.out.mono ?_;rintro e b ⟨L,s⟩;obtain rfl:e= .returned (.tuple #[.agg kd0.cells.toArray,.int .i64 1]):=(s.elim (fun h=>absurd h.1 R.out) (fun h=>h.2));have B:=yH (yK L J.out);have Q:=yH (A.out.trans (L.mono A.out.size));clear L)
   | (refine wpList_store_row (by rfl) 34 _ _ (by rfl) (w.heap.size+1) kd0.cells.toArray (by rfl) (by rfl) _ _ B.out (by rw [List.size_toArray,x01];exact SKd) rfl (all_oneCell_toArray Kd.one) ?_))
  have y:=setRow_heap _ (w.heap.size+1) _ kd0.cells.toArray _ _ B.out
  have A0:Below (w.heap.size+1) b (b.setRow (w.heap.size+1) kd0.cells.toArray):=Below.setRow (Below.refl _ _) (Nat.le_refl _) _
  refine x0F 4 5 (by kernel_rfl) (w.heap.size+1) _ kd0.cells.toArray _ a.out j.out (by rw [List.size_toArray,x01];exact SKd) (by rfl) (by rfl) y ?_
  exact x3z R.out (Q.out.trans (A0.mono (by omega)))
theorem x2Q:Tryz.prog.built 81 []=some #[.int .u8 0,.slice none 0 0,.slice none 0 0]:=by kernel_rfl
theorem x25:(#[.int .u8 0,.slice none 0 0,.slice none 0 0]:Array Value).all (·.oneCell')=true:=all_oneCell_toArray (cs:=[.int .u8 0,.slice none 0 0,.slice none 0 0]) fun u hu=>by
 simp only [List.mem_cons,List.not_mem_nil,or_false] at hu
 rcases hu with rfl | rfl | rfl<;>rfl
theorem y2x {g:Nat} {Q:Nat→Prop} {s:Pg.S} (k:Kd) (d:Int) (w:World) (hp:PL w g Q s) (hk:k.Ok w) (ht:x0O s.W k.sum=none):
  Calls Tryz.prog 52 #[.pointer (some ⟨g,0,none⟩),.agg k.cells.toArray,.int .i64 d] w fun e w'=>e= .returned (.tuple #[.agg #[.int .u8 0,.slice none 0 0,.slice none 0 0],.int .i64 21])∧Below w.heap.size w w':=by
 have J:Below w.heap.size w (w.alloc (.cells k.cells.toArray 34)):=(Below.refl _ _).alloc (Nat.le_refl _) _
 have Z:=heap_alloc_new w (.cells k.cells.toArray 34)
 have a:(w.alloc (.cells k.cells.toArray 34)).heap.size=w.heap.size+1:=by simp
 have G:Below (w.heap.size+1) (w.alloc (.cells k.cells.toArray 34)) ((w.alloc (.cells k.cells.toArray 34)).alloc (.cells #[.int .u8 0,.slice none 0 0,.slice none 0 0] 81)):=(Below.refl _ _).alloc (by omega) _
 have P:=heap_alloc_new (w.alloc (.cells k.cells.toArray 34)) (.cells #[.int .u8 0,.slice none 0 0,.slice none 0 0] 81)
 rw [a] at P
 have U:=yH ((G.block _ (by omega)).trans Z)
 have M:=yH P
 have E:=yH (J.trans (G.mono (by omega)))
 have Y:=yH hp
 have H:=yH hk.len
 have R:=yH hk.ok
 have b:=yH ht
 obtain ⟨h,L,C⟩:=UNo
 have O:=yH L
 have K:=yH C
 clear J Z a G P hp hk ht L C
 go_enter Tryz.func52,Tryz.ntmps52
 go_upto_region 1 with fail
 generalize (w.alloc (.cells k.cells.toArray 34)).alloc (.cells #[.int .u8 0,.slice none 0 0,.slice none 0 0] 81)=w2 at *
 have c:=yH (x0M U.out H.out)
 have B:=yH (Y.out.keep (fun _=>False) (Only.of_below _ E.out) (fun _ _ e=>e))
 have I:=yH (y2f k.sum B.out H.out R.out b.out)
 clear Y B
 go_wp2_with (first
  | (refine wpList_load_mid (by rfl) 30 _ (by rfl) _ 0 (by rfl) (vals k.sum) _ c.out.sum A25 (by rfl) (by rw [x00,H.out];exact S25) ?_;rw [x06])
  | (go_at_call 103;refine I.out.mono ?_;rintro e i ⟨f,j,rfl,N⟩;have A:=yH (yK N M.out);have X:=yH (E.out.trans (N.mono E.out.size));clear N)
  | (refine x07 (by rfl) (by rfl) x2Q ?_)
  | (refine wpList_store_row (by rfl) 81 _ _ (by rfl) (w.heap.size+1) #[.int .u8 0,.slice none 0 0,.slice none 0 0] (by rfl) (by rfl) _ _ A.out SNo rfl x25 ?_))
 refine x0F 6 7 (by kernel_rfl) (w.heap.size+1) _ #[.int .u8 0,.slice none 0 0,.slice none 0 0] _ O.out K.out SNo (by rfl) (by rfl) (setRow_heap _ _ _ _ _ _ A.out) ?_
 exact ⟨rfl,X.out.trans (Below.setRow (Below.refl _ _) (by omega) _)⟩
theorem y2y {g:Nat} {Q:Nat→Prop} {s:Pg.S} (k:Kd) (d:Int) (t:List Nat) (w:World) (hp:PL w g Q s) (hk:k.Ok w) (ht:x0O s.W k.sum=some t) (hto:Sm.allB t) (htl:t.length≤100000) (hgood:(rdN 8 t).good d) (hz:(rdN 8 t).node.size≤1048576) (hsay:(rdN 8 t).node.says=k.pk):
  Calls Tryz.prog 52 #[.pointer (some ⟨g,0,none⟩),.agg k.cells.toArray,.int .i64 d] w fun e w'=>Below w.heap.size w w'∧∃kind p n c q m f E K,e= .returned (.tuple #[.agg #[.int .u8 (kind:Nat),.slice p n c,.slice q m f],.int .i64 0])∧EntsIn w' p n c E∧KidsIn w' q m f K∧pnOf kind E K=(rdN 8 t).node∧∃mid,Fresh w.heap.size mid w' p n c q m f E K:=by
 have AL:Below w.heap.size w (w.alloc (.cells k.cells.toArray 34)):=(Below.refl _ _).alloc (Nat.le_refl _) _
 have r1:=heap_alloc_new w (.cells k.cells.toArray 34)
 have z1:(w.alloc (.cells k.cells.toArray 34)).heap.size=w.heap.size+1:=by simp
 have A6:Below (w.heap.size+1) (w.alloc (.cells k.cells.toArray 34)) ((w.alloc (.cells k.cells.toArray 34)).alloc (.cells #[.int .u8 0,.slice none 0 0,.slice none 0 0] 81)):=(Below.refl _ _).alloc (by omega) _
 have r2:=heap_alloc_new (w.alloc (.cells k.cells.toArray 34)) (.cells #[.int .u8 0,.slice none 0 0,.slice none 0 0] 81)
 rw [z1] at r2
 have A5:=yH ((A6.block _ (by omega)).trans r1)
 have Aa:=yH r2
 have J:=yH (AL.trans (A6.mono (by omega)))
 have HP:=yH hp
 have L:=yH hk.len
 have B3:=yH hk.ok
 have Ax:=yH hk
 have HT:=yH ht
 have At:=yH hto
 have Ap:=yH htl
 have Au:=yH hgood
 have Ai:=yH (show (rdN 8 t).node.right d=true∧(rdN 8 t).node.size≤1048576 from ⟨hgood.2.2,hz⟩)
 have Ad:=yH hsay
 obtain ⟨N,hN⟩:∃N,(rdN 8 t).node=N:=⟨_,rfl⟩
 rw [hN] at Ai Ad ⊢
 have B4:=yH hN
 clear hN
 obtain ⟨du,AQ,AN⟩:=UKd
 have Af:=yH AQ
 have AY:=yH AN
 obtain ⟨dn,Ag,U⟩:=UNo
 have As:=yH Ag
 have AP:=yH U
 have HZ:=yH (zero_of_info kz)
 clear AL r1 z1 A6 r2 hp hk ht hto htl hgood hz hsay AQ AN Ag U
 have Aq:=HZ.out.1
 go_enter Tryz.func52,Tryz.ntmps52
 go_upto_region 1 with fail
 generalize (w.alloc (.cells k.cells.toArray 34)).alloc (.cells #[.int .u8 0,.slice none 0 0,.slice none 0 0] 81)=w2 at *
 have K2:=yH (x0M A5.out L.out)
 have R:=yH (HP.out.keep (fun _=>False) (Only.of_below _ J.out) (fun _ _ e=>e))
 have P:=yH (y0z t k.sum R.out L.out B3.out HT.out)
 clear HP R
 go_upto_region 4 with (first
  | (refine wpList_load_mid (by rfl) 30 _ (by rfl) _ 0 (by rfl) (vals k.sum) _ K2.out.sum A25 (by rfl) (by rw [x00,L.out];exact S25) ?_;rw [x06])
  | (go_at_call 103;refine P.out.mono ?_;rintro e w3 ⟨q3,c3,rfl,o3,b3⟩;have AS:=yH (x0H o3 At.out);have u:=yH (yK b3 A5.out);have I:=yH (yK b3 Aa.out);have A7:=yH (J.out.trans (b3.mono J.out.size));clear o3 b3))
 have Y:=yH (x64 t q3 t.length c3 d w3 AS.out (by have:=Ap.out;omega))
 clear K2 P A5 Aa J
 go_upto_region 7 with (go_at_call 104;refine Y.out.mono ?_;rintro e G ⟨b4,h4⟩;obtain ⟨kind,p,n,c,q,m,f,E,K,rfl,AZ,A0,H,mid,x⟩:=(h4.elim (fun h=>h.2) (fun h=>absurd Au.out h.1));rw [B4.out] at A0;have AU:=yH AZ;have AO:=yH A0;have AA:=yH H;have AF:=yH x;have v:=yH (yK b4 u.out);have r:=yH (yK b4 I.out);have A8:=yH (A7.out.trans (b4.mono A7.out.size));have BJ:=yH b4.size;have b:=yH (show w.heap.size+1<w3.heap.size from (yL I.out));clear b4 h4 AZ A0 H x)
 have A:Below G.heap.size G (G.alloc (.cells #[.int .u8 (kind:Nat),.slice p n c,.slice q m f] 81)):=(Below.refl _ _).alloc (Nat.le_refl _) _
 have A3:=yH (NodeAt.start G kind p n c q m f)
 have i:=yH (yK A v.out)
 have Z:=yH (yK A r.out)
 have AB:=yH (A8.out.trans (A.mono A8.out.size))
 have AR:=yH (AU.out (G.alloc (.cells #[.int .u8 (kind:Nat),.slice p n c,.slice q m f] 81)) (fun j _ hj=>A.block j hj))
 have Ay:=yH (show ∀j,j<G.heap.size→(G.alloc (.cells #[.int .u8 (kind:Nat),.slice p n c,.slice q m f] 81)).heap[j]? =G.heap[j]? from fun j hj=>A.block j hj)
 have AM:G.heap.size<(G.alloc (.cells #[.int .u8 (kind:Nat),.slice p n c,.slice q m f] 81)).heap.size:=by simp
 have Av:=yH AM
 generalize G.alloc (.cells #[.int .u8 (kind:Nat),.slice p n c,.slice q m f] 81)=w5 at *
 clear A AM v r u I A8 AS Y A7
 obtain ⟨t0,t1,t2⟩:=A3.out.cells
 have hsay:=y1H kind AA.out p n c q m f E K d w5 AR.out.1 AR.out.2
 rw [AO.out] at hsay
 have a:=yH hsay
 clear hsay
 go_upto_region 8 with (first
  | (go_at_call 105;refine a.out.mono ?_;rintro e C ⟨z,h6⟩;obtain ⟨O,rfl,AX,A4,-⟩:=(h6.elim (fun h=>h.2) (fun h=>absurd Ai.out h.1));have B0:=yH AX;have AI:=yH A4;have y:=yH (Kd.cells_length A4.len);have AG:=yH (A3.out.later z);have o:=yH (yK z i.out);have X:=yH (yK z Z.out);have A1:=yH (AB.out.trans (z.mono AB.out.size));have AT:=yH (show w5.heap.size≤C.heap.size∧∀j,j<w5.heap.size→C.heap[j]? =w5.heap[j]? from ⟨z.size,fun j hj=>z.block j hj⟩);clear z h6 AX A4)
  | (refine wpList_store_row (by rfl) 34 (.tmp 11) (.tmp 35) (by rfl) C.heap.size O.cells.toArray (by rfl) (by rfl) _ _ (heap_alloc_new C _) (by rw [List.size_toArray,y.out];exact SKd) (by simp only [List.size_toArray,y.out,x01]) (all_oneCell_toArray Kd.one) ?_;rw [x04]))
 have A:Below C.heap.size C (C.alloc (.cells O.cells.toArray 34)):=(Below.refl _ _).alloc (Nat.le_refl _) _
 have Ab:=heap_alloc_new C (.cells O.cells.toArray 34)
 have B6:=yH (AG.out.later A)
 have AK:=yH (x0E (yK A o.out))
 have Ar:=yH (x0E Ab)
 have AH:=yH (yK A X.out)
 have A2:=yH (A1.out.trans (A.mono A1.out.size))
 have AJ:=yH (AI.out.later A)
 have Ac:=yH (Ax.out.later A2.out)
 have Ae:=yH (show C.heap.size≤(C.alloc (.cells O.cells.toArray 34)).heap.size∧∀j,j<C.heap.size→(C.alloc (.cells O.cells.toArray 34)).heap[j]? =C.heap[j]? from ⟨A.size,fun j hj=>A.block j hj⟩)
 generalize C.alloc (.cells O.cells.toArray 34)=w7 at *
 generalize C.heap.size=g6 at *
 have Am:=yH (Kd.cells_length L.out)
 have Az:=yH (decide_eq_true (show O.pk=k.pk from by rw [B0.out,Ad.out]))
 clear A Ab AG o X A1 AI AB i Z A3 a t0 t1 t2 Aq
 go_upto_region 10 with (first
  | (refine x0k (by rfl) 34 _ (by rfl) g6 0 (by rfl) O.cells du Ar.out Af.out AY.out (by rw [y.out];exact SKd) ?_)
  | (refine x0k (by rfl) 34 _ (by rfl) w.heap.size 0 (by rfl) k.cells du AK.out Af.out AY.out (by rw [Am.out];exact SKd) ?_)
  | (go_at_call 68;refine (x4n O k w7 AJ.out Ac.out).mono ?_;rintro e M ⟨rfl,b8⟩;rw [Az.out];have An:=yH (B6.out.later b8);have B:=yH (yK b8 AH.out);have Ah:=yH (A2.out.trans (b8.mono A2.out.size));have AE:=yH (show w7.heap.size≤M.heap.size∧∀j,j<w7.heap.size→M.heap[j]? =w7.heap[j]? from ⟨b8.size,fun j hj=>b8.block j hj⟩);clear b8))
 obtain ⟨t0,t1,t2⟩:=An.out.cells
 have a0:=cell_of_row M (w.heap.size+1) 0 _ _ _ B.out
 have a1:=cell_of_row M (w.heap.size+1) 1 _ _ _ B.out
 have a2:=cell_of_row M (w.heap.size+1) 2 _ _ _ B.out
 have f0:=frozen_of_row M (w.heap.size+1) 0 _ _ B.out
 have f1:=frozen_of_row M (w.heap.size+1) 1 _ _ B.out
 have f2:=frozen_of_row M (w.heap.size+1) 2 _ _ B.out
 go_wp2_with fail
 obtain ⟨r1,r2⟩:=x5E (a':=.int .u8 (kind:Nat)) (b':=.slice p n c) (c':=.slice q m f) B.out
 have AV:∀j,w3.heap.size≤j→j<G.heap.size→(((M.setCell ⟨w.heap.size+1,0,none⟩ (.int .u8 (kind:Nat))).setCell ⟨w.heap.size+1,1,none⟩ (.slice p n c)).setCell ⟨w.heap.size+1,2,none⟩ (.slice q m f)).heap[j]? =G.heap[j]? :=fun j hj hj4=>by
  have h5:=Av.out
  have h6:=AT.out.1
  have h7:=Ae.out.1
  have h8:=AE.out.1
  have h3:=b.out
  rw [r2.block j (by omega) (by omega),AE.out.2 j (by omega),Ae.out.2 j (by omega),AT.out.2 j (by omega)]
  exact Ay.out j hj4
 have l:=AU.out _ AV
 exact x0F 6 7 (by kernel_rfl) (w.heap.size+1) _ #[.int .u8 (kind:Nat),.slice p n c,.slice q m f] _ As.out AP.out SNo (by rfl) (by rfl) r1 ⟨Ah.out.trans (r2.below Ah.out.size (fun j e=>by omega)),kind,p,n,c,q,m,f,E,K,rfl,l.1,l.2,AO.out,mid,(AF.out.keep AV).down (by have:=b.out;omega)⟩
theorem x9d {g:Nat} {Q:Nat→Prop} {s:Pg.S} (k:Kd) (d:Int) (t:List Nat) (w:World) (hp:PL w g Q s) (hk:k.Ok w) (ht:x0O s.W k.sum=some t) (hto:Sm.allB t) (htl:t.length≤100000) (hgood:(rdN 8 t).good d) (hz:(rdN 8 t).node.size≤1048576) (hsay:(rdN 8 t).node.says≠k.pk):
  Calls Tryz.prog 52 #[.pointer (some ⟨g,0,none⟩),.agg k.cells.toArray,.int .i64 d] w fun e w'=>e= .returned (.tuple #[.agg #[.int .u8 0,.slice none 0 0,.slice none 0 0],.int .i64 21])∧Below w.heap.size w w':=by
 have AI:Below w.heap.size w (w.alloc (.cells k.cells.toArray 34)):=(Below.refl _ _).alloc (Nat.le_refl _) _
 have r1:=heap_alloc_new w (.cells k.cells.toArray 34)
 have z1:(w.alloc (.cells k.cells.toArray 34)).heap.size=w.heap.size+1:=by simp
 have A5:Below (w.heap.size+1) (w.alloc (.cells k.cells.toArray 34)) ((w.alloc (.cells k.cells.toArray 34)).alloc (.cells #[.int .u8 0,.slice none 0 0,.slice none 0 0] 81)):=(Below.refl _ _).alloc (by omega) _
 have r2:=heap_alloc_new (w.alloc (.cells k.cells.toArray 34)) (.cells #[.int .u8 0,.slice none 0 0,.slice none 0 0] 81)
 rw [z1] at r2
 have A4:=yH ((A5.block _ (by omega)).trans r1)
 have AT:=yH r2
 have L:=yH (AI.trans (A5.mono (by omega)))
 have HP:=yH hp
 have M:=yH hk.len
 have Ar:=yH hk.ok
 have An:=yH hk
 have HT:=yH ht
 have Ak:=yH hto
 have Ag:=yH htl
 have Al:=yH hgood
 have Aa:=yH (show (rdN 8 t).node.right d=true∧(rdN 8 t).node.size≤1048576 from ⟨hgood.2.2,hz⟩)
 have AW:=yH hsay
 obtain ⟨N,hN⟩:∃N,(rdN 8 t).node=N:=⟨_,rfl⟩
 rw [hN] at Aa AW
 have As:=yH hN
 clear hN
 obtain ⟨du,AM,AK⟩:=UKd
 have AX:=yH AM
 have AR:=yH AK
 obtain ⟨dn,AY,U⟩:=UNo
 have Aj:=yH AY
 have AL:=yH U
 have HZ:=yH (zero_of_info kz)
 clear AI r1 z1 A5 r2 hp hk ht hto htl hgood hz hsay AM AK AY U
 have Ah:=HZ.out.1
 go_enter Tryz.func52,Tryz.ntmps52
 go_upto_region 1 with fail
 generalize (w.alloc (.cells k.cells.toArray 34)).alloc (.cells #[.int .u8 0,.slice none 0 0,.slice none 0 0] 81)=w2 at *
 have K2:=yH (x0M A4.out M.out)
 have R:=yH (HP.out.keep (fun _=>False) (Only.of_below _ L.out) (fun _ _ e=>e))
 have P:=yH (y0z t k.sum R.out M.out Ar.out HT.out)
 clear HP R
 go_upto_region 4 with (first
  | (refine wpList_load_mid (by rfl) 30 _ (by rfl) _ 0 (by rfl) (vals k.sum) _ K2.out.sum A25 (by rfl) (by rw [x00,M.out];exact S25) ?_;rw [x06])
  | (go_at_call 103;refine P.out.mono ?_;rintro e w3 ⟨q3,c3,rfl,o3,b3⟩;have AO:=yH (x0H o3 Ak.out);have r:=yH (yK b3 A4.out);have I:=yH (yK b3 AT.out);have A6:=yH (L.out.trans (b3.mono L.out.size));clear o3 b3))
 have Y:=yH (x64 t q3 t.length c3 d w3 AO.out (by have:=Ag.out;omega))
 clear K2 P A4 AT L
 go_upto_region 7 with (go_at_call 104;refine Y.out.mono ?_;rintro e J ⟨b4,h4⟩;obtain ⟨B,p,n,c,q,m,f,E,K,rfl,AS,z,H,BA,v⟩:=(h4.elim (fun h=>h.2) (fun h=>absurd Al.out h.1));rw [As.out] at z;have Aq:=yH AS;have Am:=yH z;have A8:=yH H;have Au:=yH v;have u:=yH (yK b4 r.out);have o:=yH (yK b4 I.out);have A7:=yH (A6.out.trans (b4.mono A6.out.size));have BI:=yH b4.size;have Az:=yH (show w.heap.size+1<w3.heap.size from (yL I.out));clear b4 h4 AS z H v)
 have A:Below J.heap.size J (J.alloc (.cells #[.int .u8 (B:Nat),.slice p n c,.slice q m f] 81)):=(Below.refl _ _).alloc (Nat.le_refl _) _
 have A2:=yH (NodeAt.start J B p n c q m f)
 have i:=yH (yK A u.out)
 have Z:=yH (yK A o.out)
 have AA:=yH (A7.out.trans (A.mono A7.out.size))
 have AN:=yH (Aq.out (J.alloc (.cells #[.int .u8 (B:Nat),.slice p n c,.slice q m f] 81)) (fun j _ hj=>A.block j hj))
 have BD:=yH (show ∀j,j<J.heap.size→(J.alloc (.cells #[.int .u8 (B:Nat),.slice p n c,.slice q m f] 81)).heap[j]? =J.heap[j]? from fun j hj=>A.block j hj)
 have AJ:J.heap.size<(J.alloc (.cells #[.int .u8 (B:Nat),.slice p n c,.slice q m f] 81)).heap.size:=by simp
 have BC:=yH AJ
 generalize J.alloc (.cells #[.int .u8 (B:Nat),.slice p n c,.slice q m f] 81)=w5 at *
 clear A AJ u o r I A7 AO Y A6
 obtain ⟨t0,t1,t2⟩:=A2.out.cells
 have hsay:=y1H B A8.out p n c q m f E K d w5 AN.out.1 AN.out.2
 rw [Am.out] at hsay
 have b:=yH hsay
 clear hsay
 go_upto_region 8 with (first
  | (go_at_call 105;refine b.out.mono ?_;rintro e G ⟨y,h6⟩;obtain ⟨O,rfl,AQ,A3,-⟩:=(h6.elim (fun h=>h.2) (fun h=>absurd Aa.out h.1));have Ap:=yH AQ;have AF:=yH A3;have x:=yH (Kd.cells_length A3.len);have AD:=yH (A2.out.later y);have l:=yH (yK y i.out);have X:=yH (yK y Z.out);have A0:=yH (AA.out.trans (y.mono AA.out.size));have BG:=yH (show w5.heap.size≤G.heap.size∧∀j,j<w5.heap.size→G.heap[j]? =w5.heap[j]? from ⟨y.size,fun j hj=>y.block j hj⟩);clear y h6 AQ A3)
  | (refine wpList_store_row (by rfl) 34 (.tmp 11) (.tmp 35) (by rfl) G.heap.size O.cells.toArray (by rfl) (by rfl) _ _ (heap_alloc_new G _) (by rw [List.size_toArray,x.out];exact SKd) (by simp only [List.size_toArray,x.out,x01]) (all_oneCell_toArray Kd.one) ?_;rw [x04]))
 have A:Below G.heap.size G (G.alloc (.cells O.cells.toArray 34)):=(Below.refl _ _).alloc (Nat.le_refl _) _
 have AU:=heap_alloc_new G (.cells O.cells.toArray 34)
 have At:=yH (AD.out.later A)
 have AH:=yH (x0E (yK A l.out))
 have Ai:=yH (x0E AU)
 have AE:=yH (yK A X.out)
 have A1:=yH (A0.out.trans (A.mono A0.out.size))
 have AG:=yH (AF.out.later A)
 have AV:=yH (An.out.later A1.out)
 have BJ:=yH (show G.heap.size≤(G.alloc (.cells O.cells.toArray 34)).heap.size∧∀j,j<G.heap.size→(G.alloc (.cells O.cells.toArray 34)).heap[j]? =G.heap[j]? from ⟨A.size,fun j hj=>A.block j hj⟩)
 generalize G.alloc (.cells O.cells.toArray 34)=w7 at *
 generalize G.heap.size=g6 at *
 have Ae:=yH (Kd.cells_length M.out)
 have Ao:=yH (decide_eq_false (show ¬O.pk=k.pk from by rw [Ap.out];exact AW.out))
 clear A AU AD l X A0 AF AA i Z A2 b t0 t1 t2 Ah
 go_upto_region 9 with (first
  | (refine x0k (by rfl) 34 _ (by rfl) g6 0 (by rfl) O.cells du Ai.out AX.out AR.out (by rw [x.out];exact SKd) ?_)
  | (refine x0k (by rfl) 34 _ (by rfl) w.heap.size 0 (by rfl) k.cells du AH.out AX.out AR.out (by rw [Ae.out];exact SKd) ?_)
  | (go_at_call 68;refine (x4n O k w7 AG.out AV.out).mono ?_;rintro e a ⟨rfl,b8⟩;rw [Ao.out];have Af:=yH (At.out.later b8);have C:=yH (yK b8 AE.out);have AZ:=yH (A1.out.trans (b8.mono A1.out.size));have B7:=yH (show w7.heap.size≤a.heap.size∧∀j,j<w7.heap.size→a.heap[j]? =w7.heap[j]? from ⟨b8.size,fun j hj=>b8.block j hj⟩);clear b8))
 clear Af
 have a0:=cell_of_row a (w.heap.size+1) 0 _ _ _ C.out
 have a1:=cell_of_row a (w.heap.size+1) 1 _ _ _ C.out
 have a2:=cell_of_row a (w.heap.size+1) 2 _ _ _ C.out
 have f0:=frozen_of_row a (w.heap.size+1) 0 _ _ C.out
 have f1:=frozen_of_row a (w.heap.size+1) 1 _ _ C.out
 have f2:=frozen_of_row a (w.heap.size+1) 2 _ _ C.out
 go_wp2_with (refine x07 (by rfl) (by rfl) x2Q ?_)
 obtain ⟨r1,r2⟩:=x5E (a':=.int .u8 0) (b':=.slice none 0 0) (c':=.slice none 0 0) C.out
 exact x0F 6 7 (by kernel_rfl) (w.heap.size+1) _ #[.int .u8 0,.slice none 0 0,.slice none 0 0] _ Aj.out AL.out SNo (by rfl) (by rfl) r1 ⟨rfl,AZ.out.trans (r2.below AZ.out.size (fun j e=>by omega))⟩
end Go.Proofs.YtinihaflmdihaaaGreat.Nd
namespace Go.Proofs.YtinihaflmdihaaaGreat.Kt
open Go.RowKit Go.Proofs.YtinihaflmdihaaaGreat.Nd Go.Proofs.YtinihaflmdihaaaGreat.Dk Go.Proofs.YtinihaflmdihaaaGreat.Pg
theorem x0u (w:World) (A B:Obj):∃W,(w.alloc A).alloc B=W∧W.heap[w.heap.size]? =some A∧W.heap[w.heap.size+1]? =some B∧Below w.heap.size w W:=by
 have H:=heap_alloc_new w A
 have G:=heap_alloc_new (w.alloc A) B
 have C:(w.alloc A).heap.size=w.heap.size+1:=by simp
 have b1:Below w.heap.size w (w.alloc A):=(Below.refl _ _).alloc (Nat.le_refl _) _
 have E:Below (w.alloc A).heap.size (w.alloc A) ((w.alloc A).alloc B):=(Below.refl _ _).alloc (Nat.le_refl _) _
 rw [C] at G
 exact ⟨_,rfl,(E.block _ (by rw [C];omega)).trans H,G,b1.trans (E.mono b1.size)⟩
def x87 (w:World) (err:Int) (e:Ending) (w':World):Prop:=e= .returned (.tuple #[.agg #[.int .u8 0,.slice none 0 0,.slice none 0 0],.int .i64 err])∧Below w.heap.size w w'
theorem x9e (sp:Option Addr) (d:Int) (k:Kd) (ga oa:Nat) (w:World) (hk:k.Ok w) (hr:w.rangeAt ga oa k.cells) (he:k.pk=PK.none):
  Calls Tryz.prog 120 #[.agg #[.pointer sp,.int .i64 d],.pointer (some ⟨ga,oa,none⟩)] w (x87 w 0):=by
 obtain ⟨W,Y,X,O,b1⟩:=x0u w (.cells #[.pointer sp,.int .i64 d] 91) (.cells #[.int .u8 0,.slice none 0 0,.slice none 0 0] 81)
 have H:=yH (x1a k W (hk.later b1))
 rw [decide_eq_true he] at H
 have U:=yH (x02 hr b1)
 have J:=yH (Kd.cells_length hk.len)
 have P:=yH O
 have B1:=yH b1
 obtain ⟨Q,G,B⟩:=UKd
 obtain ⟨a,E,A⟩:=UNo
 have I:=yH G
 have L:=yH B
 have M:=yH E
 have C:=yH A
 clear hk hr he X O b1 G B E A
 go_enter Tryz.func120,Tryz.ntmps120
 go_upto_region 1 with fail
 clear Y
 go_wp2_with (first
  | (refine wpList_load_mid (by rfl) 34 _ (by rfl) ga oa (by rfl) k.cells Q U.out I.out L.out (by rw [J.out];exact SKd) ?_)
  | (go_at_call 20;refine H.out.mono ?_;rintro _ Z ⟨rfl,K⟩;have N:=yH (yK K P.out);have R:=yH (B1.out.trans (K.mono B1.out.size));clear K)
  | (refine x07 (by rfl) (by rfl) x2Q ?_)
  | (refine wpList_store_row (by rfl) 81 _ _ (by rfl) (w.heap.size+1) #[.int .u8 0,.slice none 0 0,.slice none 0 0] (by rfl) (by rfl) _ _ N.out SNo rfl x25 ?_))
 refine x0F 4 5 (by kernel_rfl) (w.heap.size+1) _ #[.int .u8 0,.slice none 0 0,.slice none 0 0] _ M.out C.out SNo (by rfl) (by rfl) (setRow_heap _ _ _ _ _ _ N.out) ?_
 exact ⟨rfl,R.out.trans (Below.setRow (Below.refl _ _) (by omega) _)⟩
end Go.Proofs.YtinihaflmdihaaaGreat.Kt
namespace Go.Proofs.YtinihaflmdihaaaGreat.Kt
open Go.RowKit Go.Proofs.YtinihaflmdihaaaGreat.Nd Go.Proofs.YtinihaflmdihaaaGreat.Pg
inductive V where
 | nil:V
 | bad (k:PK):V
 | fork (row:List Int) (live:Bool) (l r:V):V
def V.kid:V→PK
 | .nil=>PK.none
 | .bad k=>k
 | .fork p v l r=>(forkN p v l.kid r.kid).says
def V.of:T→V
 | .nil=>.nil
 | .fork p v l r=>.fork p v (V.of l) (V.of r)
def V.whole:V→Bool
 | .nil=>true
 | .bad _=>false
 | .fork _ _ l r=>l.whole&&r.whole
theorem x4b:∀u:T,(V.of u).whole=true
 | .nil=>rfl
 | .fork p v l r=>by
  show ((V.of l).whole&&(V.of r).whole)=true
  rw [x4b l,x4b r]
  rfl
theorem x2r:∀ {u:T},u.size≤1048576→(V.of u).kid=u.kid
 | .nil,_=>rfl
 | .fork p v l r,h=>by
  have hz:(T.fork p v l r).size=1+l.size+r.size:=rfl
  rw [x8s h]
  show (forkN p v (V.of l).kid (V.of r).kid).says=_
  rw [x2r (show l.size≤1048576 by omega),x2r (show r.size≤1048576 by omega)]
def Sees (W:Pages) (d:Nat):V→Prop
 | .nil=>True
 | .bad k=>k≠PK.none∧k.right d=true∧k.key=[]∧∀t N,x0O W k.sum=some t→Txt d t N→N.says≠k
 | .fork p v l r=>Txt d (forkN p v l.kid r.kid).bytes (forkN p v l.kid r.kid)∧x0O W (sumOf (forkN p v l.kid r.kid).bytes)=some (forkN p v l.kid r.kid).bytes∧Sees W d l∧Sees W d r
def Forks (d:Nat) (W:Pages):Prop:=∀x∈W,∃N,Txt d x.2 N∧N.kind=1
theorem x2e {k:PK} {d:Int} (h:k.right d=true):0≤k.size∧k.size≤1048576:=by
 unfold PK.right at h
 split at h
 ·rename_i e
  rw [e]
  exact ⟨Int.le_refl _,by decide⟩
 ·split at h
  ·cases h
  ·omega
theorem x9f {W:Pages} {d t:List Nat} (b:List Nat) (h:x0O W d=some t):x0O (putW W b) d=some t:=by
 unfold putW
 split
 ·exact h
 ·unfold x0O at h ⊢
  split at h
  ·rename_i hi
   have e:idx d (W++[(sumOf b,b)])=idx d W:=by
    refine y3l (by rw [List.length_append];omega) ?_ fun j hj=>?_
    ·rw [List.getD_eq_getElem?_getD,List.getElem?_append_left hi,← List.getD_eq_getElem?_getD]
     exact x5l hi
    ·rw [List.getD_eq_getElem?_getD,List.getElem?_append_left (by omega),← List.getD_eq_getElem?_getD]
     exact x1v hj
   rw [e,if_pos (by rw [List.length_append];omega),List.getD_eq_getElem?_getD,List.getElem?_append_left hi,← List.getD_eq_getElem?_getD]
   exact h
  ·cases h
theorem x7Q {d t:List Nat}:∀(L:List (List Nat)) {s:Pg.S},x0O s.W d=some t→x0O (L.foldl Pg.S.put s).W d=some t
 |[],_,h=>h
 | b::L,s,h=>x7Q L (s:=s.put b) (x9f b h)
theorem y1I {s:Pg.S} {b:List Nat} (h:(s.put b).cl=none):s.cl=none:=by
 unfold Pg.S.put at h
 cases hc:s.cl with
 | none=>rfl
 | some x=>rw [hc] at h;cases h
theorem x40:∀(L:List (List Nat)) {s:Pg.S},(L.foldl Pg.S.put s).cl=none→s.cl=none
 |[],_,h=>h
 | b::L,s,h=>y1I (x40 L (s:=s.put b) h)
theorem x6i:∀(L:List (List Nat)) {s:Pg.S},(L.foldl Pg.S.put s).cl=none→∀b∈L,x0O (L.foldl Pg.S.put s).W (sumOf b)=some b
 |[],_,_,b,hb=>by cases hb
 | a::L,s,h,b,hb=>by
  rcases List.mem_cons.1 hb with rfl | hb
  ·exact x7Q L (s:=s.put b) (y4M (x40 L (s:=s.put b) h))
  ·exact x6i L (s:=s.put a) h b hb
theorem x2f {d:Nat}:∀(L:List (List Nat)) {s:Pg.S},Forks d s.W→(∀b∈L,∃N,Txt d b N∧N.kind=1)→Forks d (L.foldl Pg.S.put s).W
 |[],_,h,_=>h
 | b::L,s,h,hL=>by
  refine x2f L (s:=s.put b) (fun x hx=>?_) fun c hc=>hL c (by simp [hc])
  have hx:x∈putW s.W b:=hx
  unfold putW at hx
  split at hx
  ·exact h x hx
  ·rcases List.mem_append.1 hx with hx | hx
   ·exact h x hx
   ·rw [List.mem_singleton.1 hx]
    exact hL b (by simp)
theorem x19 {d:Nat} {W:Pages}:∀ {u:V},Sees W d u→u.kid.right d=true∧u.kid.key=[]
 | .nil,_=>⟨rfl,rfl⟩
 | .bad k,h=>⟨h.2.1,h.2.2.1⟩
 | .fork p v l r,h=>by
  refine ⟨x1w h.1.right ?_ h.1.size,rfl⟩
  have hl:=x2e (x19 h.2.2.1).1
  have hr:=x2e (x19 h.2.2.2).1
  rw [x0Z]
  omega
end Go.Proofs.YtinihaflmdihaaaGreat.Kt
