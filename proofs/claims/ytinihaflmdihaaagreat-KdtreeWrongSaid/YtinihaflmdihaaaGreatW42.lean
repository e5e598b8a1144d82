/- KdRowsV, KdTwice, KdBuildBad. -/
import Derived.BigRegion
import Derived.Test.YtinihaflmdihaaaGreatW1
import Derived.Test.YtinihaflmdihaaaGreatW2
import Derived.Test.YtinihaflmdihaaaGreatW3
import Derived.Test.YtinihaflmdihaaaGreatW31
import Derived.Test.YtinihaflmdihaaaGreatW41
set_option maxRecDepth 100000
set_option maxHeartbeats 8000000
set_option linter.unusedVariables false
set_option linter.unusedSimpArgs false
namespace Go.Proofs.YtinihaflmdihaaaGreat.Kt
open Go.RowKit Go.Proofs.YtinihaflmdihaaaGreat.Nd Go.Proofs.YtinihaflmdihaaaGreat.Dk Go.Proofs.YtinihaflmdihaaaGreat.Pg
open List renaming setIfInBounds_toArray → sA, set_cons_zero → sZ, set_cons_succ → sS
theorem liveE_ents:∀(u:V) (t:Nat),liveE (u.ents t)=u.rows
 | .nil,_=>rfl
 | .bad _,_=>rfl
 | .fork p v l r,t=>by
  show liveE ((p,v,t)::(l.ents (t+1)++r.ents (t+1)))=(if v then [p] else [])++(l.rows++r.rows)
  rw [show (p,v,t)::(l.ents (t+1)++r.ents (t+1))=[(p,v,t)]++(l.ents (t+1)++r.ents (t+1)) from rfl,liveE_append,liveE_append,liveE_ents l,liveE_ents r]
  cases v<;>rfl
theorem foldl_max:∀(L:List Ent) (a:Nat),L.foldl (fun m e=>max m e.2.2) a=max a (deepE L)
 |[],a=>by simp [deepE]
 | e::L,a=>by
  unfold deepE
  rw [List.foldl_cons,List.foldl_cons,foldl_max L,foldl_max L]
  omega
theorem deepE_append (L M:List Ent):deepE (L++M)=max (deepE L) (deepE M):=by
 unfold deepE
 rw [List.foldl_append,foldl_max M]
 rfl
theorem deepE_ents:∀(u:T) (t:Nat),1≤t→deepE ((V.of u).ents t)=if u.height=0 then 0 else t - 1+u.height
 | .nil,t,_=>rfl
 | .fork p v l r,t,ht=>by
  show deepE ([(p,v,t)]++((V.of l).ents (t+1)++(V.of r).ents (t+1)))=_
  rw [deepE_append,deepE_append,deepE_ents l (t+1) (by omega),deepE_ents r (t+1) (by omega)]
  have h1:deepE [(p,v,t)]=t:=by simp [deepE]
  have h2:(T.fork p v l r).height=1+max l.height r.height:=rfl
  rw [h1,h2]
  split<;>split<;>split<;>omega
def RowsPost (w:World) (u:V) (e:Ending) (w':World):Prop:=∃(err:Int) (q:Option Addr) (c:Nat) (O:List Rw),e= .returned (.tuple #[.slice q O.length c,.int .i64 err])∧w'.ownsRow w.heap.size 24 1 (.slice q O.length c) O.length (hds O)∧(∀r∈O,r.Ok w'∧∀x,r.p=some x→r.R≠[]→(Value.slice q O.length c).ownBlock≠some x.block∧w.heap.size≤x.block)∧(u.whole=true→err=0∧O.map Rw.R=u.rows)∧(u.whole=false→err=21)∧(O.length:Int)≤u.kid.size∧Below w.heap.size w w'
theorem rows_any {gs d:Nat} {Q:Nat→Prop} {s:Pg.S} (hW:TextsK d s.W) (u:V) (k:Kd) (w:World) (hp:PL w gs Q s) (hs:Sees s.W d u) (hk:k.Ok w) (he:k.pk=u.kid) (hz:u.kid.size≤90000):
  Calls Tryz.prog 57 #[.agg #[.pointer (some ⟨gs,0,none⟩),.int .i64 d],.agg k.cells.toArray] w (RowsPost w u):=by
 obtain ⟨W,hW0,r0,r1,b1⟩:=two_alloc w (.cells #[.pointer (some ⟨gs,0,none⟩),.int .i64 d] 91) (.cells k.cells.toArray 34)
 have b2:Below W.heap.size W (W.alloc (.cells #[.slice none 0 0] 51)):=(Below.refl _ _).alloc (Nat.le_refl _) _
 have r2:=heap_alloc_new W (.cells #[.slice none 0 0] 51)
 have b12:=b1.trans (b2.mono b1.size)
 have hcol:ColI w.heap.size W.heap.size (fun k=>k=W.heap.size) [] (W.alloc (.cells #[.slice none 0 0] 51)):=⟨.slice none 0 0,[],⟨r2,⟨rfl,Or.inl ⟨rfl,rfl⟩⟩,(fun r hr=>by cases hr),rfl,fun k=>⟨Or.inl,fun h=>h.elim id (fun h=>by cases h)⟩,(fun h=>by cases h),by simp⟩⟩
 have HE:=Lib.hid (keach_any (gs:=gs) (Q:=Q) (B:=w.heap.size) hW rows_enter (rows_do (B:=w.heap.size) (b:=W.heap.size)) u k (w.heap.size+1) 0 0 (W.alloc (.cells #[.slice none 0 0] 51)) (fun k=>k=W.heap.size) [] (hp.keep (fun _=>False) (Only.of_below _ b12) (fun _ _ e=>e)) hs (hk.later b12) (range_later (range_kd r1) b2) he hcol (fun j hj e=>by have:=hp.lt j hj;have:=b1.size;omega) (by omega) (by simp;omega) b12.size)
 have R0:=Lib.hid (range_tr ((b2.block _ (Array.getElem?_eq_some_iff.1 r0).1).trans r0))
 have B2:=Lib.hid b12
 have HWS:=Lib.hid (show w.heap.size+2≤W.heap.size from (Array.getElem?_eq_some_iff.1 r1).1)
 obtain ⟨du,hdu,hdr⟩:=UTr
 have HDU:=Lib.hid hdu
 have HDR:=Lib.hid hdr
 clear hW hp hs hk he hz r0 r1 b1 b2 r2 b12 hcol hdu hdr
 go_enter Tryz.func57,Tryz.ntmps57
 go_upto_region 1 with fail
 clear hW0
 go_upto_region 2 with fail
 generalize W.alloc (.cells #[.slice none 0 0] 51)=w2 at *
 go_upto_region 3 with (first
  | (refine wpList_load_mid (by rfl) 91 _ (by rfl) w.heap.size 0 (by rfl) [.pointer (some ⟨gs,0,none⟩),.int .i64 d] du R0.out HDU.out HDR.out STr ?_)
  | (go_at_call 74;refine HE.out.mono ?_;rintro _ w3 ⟨err,M,X3,rfl,⟨v,O,hcol⟩,hx,ho,hw,hb,hml⟩;have HC:=Lib.hid hcol;have HX:=Lib.hid hx;have HO:=Lib.hid ho;have HW:=Lib.hid hw;have HB:=Lib.hid hb;have HML:=Lib.hid hml;clear hcol hx ho hw hb hml))
 obtain ⟨q3,c3,rfl⟩:=lst_form HC.out.own
 have c1:=cell_of_row w3 W.heap.size 0 _ _ _ HC.out.row
 go_wp2_with fail
 go_ret2
 have hbl:Below w.heap.size w w3:=B2.out.trans (HO.out.below B2.out.size (fun k e=>by have:=HWS.out;omega))
 refine ⟨err,q3,c3,O,rfl,?_,fun r hr=>⟨(HC.out.ok r hr).1,fun x hx hR=>⟨fun e=>?_,((HC.out.ok r hr).2 x hx hR).2⟩⟩,fun h=>?_,HB.out,?_,hbl⟩
 ·obtain ⟨h1,h2⟩:=HC.out.own
  refine ⟨h1,h2.imp id ?_⟩
  rintro ⟨g,cap,cur,hv,hg,hh,r⟩
  refine ⟨g,cap,cur,hv,?_,hh,r⟩
  have hX:X3 g:=(HC.out.mine g).2 (Or.inr (by rw [hv];rfl))
  have:=HWS.out
  have:=B2.out.size
  rcases HX.out g hX with h | h
  ·omega
  ·omega
 ·exact ((HC.out.ok r hr).2 x hx hR).1 ((HC.out.mine _).2 (Or.inr e))
 ·obtain ⟨h1,h2⟩:=HW.out h
  refine ⟨h1,?_⟩
  rw [HC.out.are,h2,List.nil_append,liveE_ents]
 ·have h1:=HC.out.are
  have h2:=congrArg List.length h1
  rw [List.length_map,List.nil_append] at h2
  have h3:(liveE M).length≤M.length:=by
   unfold liveE
   rw [List.length_map]
   exact List.length_filter_le _ _
  have:=HML.out
  omega
theorem Height_any {gs d:Nat} {Q:Nat→Prop} {s:Pg.S} (hd:1≤d∧d≤8) (hW:TextsK d s.W) (u:V) (k:Kd) (w:World) (hp:PL w gs Q s) (hs:Sees s.W d u) (hk:k.Ok w) (he:k.pk=u.kid) (hz:u.kid.size≤90000):
  Calls Tryz.prog 24 #[.pointer (some ⟨gs,0,none⟩),.agg k.cells.toArray,.int .i64 d] w fun e w'=>Below w.heap.size w w'∧((u.whole=true→e= .returned (.tuple #[.int .i64 (deepE (u.ents 1)),.int .i64 0]))∧(u.whole=false→e= .returned (.tuple #[.int .i64 0,.int .i64 21]))):=by
 have b1:Below w.heap.size w (w.alloc (.cells k.cells.toArray 34)):=(Below.refl _ _).alloc (Nat.le_refl _) _
 have r1:=heap_alloc_new w (.cells k.cells.toArray 34)
 have HT:=Lib.hid (fun w'=>takes_any (some ⟨gs,0,none⟩) d none 0 0 [] w' (rows_nil w') (by omega))
 rw [show takesB d []=true from by unfold takesB;rw [decide_eq_true (by omega)];rfl] at HT
 have HE:=Lib.hid (fun (w':World) (hb:Below w.heap.size w w') (hr:w'.rangeAt w.heap.size 0 k.cells) (b:Nat) (hbl:w.heap.size≤b) (hr2:w'.heap[b]? =some (.cells #[.int .i64 (0:Nat)] 3 (0,0)))=>keach_any (gs:=gs) (Q:=Q) (B:=0) hW top_enter (top_do (B:=0) (b:=b)) u k w.heap.size 0 1 w' (fun k=>k=b) [] (hp.keep (fun _=>False) (Only.of_below _ hb) (fun _ _ e=>e)) hs (hk.later hb) hr he ⟨hr2,fun _=>Iff.rfl⟩ (fun j hj e=>by have:=hp.lt j hj;omega) (by omega) (by simp;omega) (Nat.zero_le _))
 have R1:=Lib.hid r1
 have B1:=Lib.hid b1
 have HWB:=Lib.hid (show u.whole=true∨u.whole=false from by cases u.whole<;>simp)
 obtain ⟨du,hdu,hdr⟩:=UTr
 obtain ⟨dk,hdk,hdkr⟩:=UKd
 have HDU:=Lib.hid hdu
 have HDR:=Lib.hid hdr
 have HDK:=Lib.hid hdk
 have HDKR:=Lib.hid hdkr
 clear hd hW hp hs hk he hz b1 r1 hdu hdr hdk hdkr
 go_enter Tryz.func24,Tryz.ntmps24
 go_upto_region 1 with fail
 generalize w.alloc (.cells k.cells.toArray 34)=w1 at *
 go_upto_region 2 with (first
  | (refine wpList_build (cells:= #[.pointer (some ⟨gs,0,none⟩),.int .i64 d]) (by rfl) (by rfl) (by simp only [List.map_toArray,List.map_cons,List.map_nil];exact tr_built _ _) ?_)
  | (refine wpList_store_row (by rfl) 91 (.tmp 8) (.tmp 13) (by rfl) w1.heap.size #[.pointer (some ⟨gs,0,none⟩),.int .i64 d] (by rfl) (by rfl) _ _ (heap_alloc_new w1 _) STr rfl (tr_one _ _) ?_;rw [setRow_alloc]))
 have hb2:Below w1.heap.size w1 (w1.alloc (.cells #[.pointer (some ⟨gs,0,none⟩),.int .i64 d] 91)):=(Below.refl _ _).alloc (Nat.le_refl _) _
 have hr2:=heap_alloc_new w1 (.cells #[.pointer (some ⟨gs,0,none⟩),.int .i64 d] 91)
 generalize w1.alloc (.cells #[.pointer (some ⟨gs,0,none⟩),.int .i64 d] 91)=w2 at *
 have R2:=Lib.hid hr2
 have R2a:=Lib.hid (range_tr hr2)
 have R12:=Lib.hid ((hb2.block _ (Array.getElem?_eq_some_iff.1 R1.out).1).trans R1.out)
 have B2:=Lib.hid (B1.out.trans (hb2.mono B1.out.size))
 clear hb2 hr2
 go_upto_region 4 with (first
  | (refine wpList_load_mid (by rfl) 91 (.tmp 8) (by rfl) w1.heap.size 0 (by rfl) [.pointer (some ⟨gs,0,none⟩),.int .i64 d] du R2a.out HDU.out HDR.out STr ?_)
  | (go_at_call 72;refine (HT.out w2).mono ?_;rintro _ w3 ⟨rfl,b3⟩;have B3:=Lib.hid (B2.out.trans (b3.mono B2.out.size));have R3:=Lib.hid ((b3.block _ (Array.getElem?_eq_some_iff.1 R2.out).1).trans R2.out);have R13:=Lib.hid ((b3.block _ (Array.getElem?_eq_some_iff.1 R12.out).1).trans R12.out);clear b3))
 go_upto_region 5 with fail
 have hb4:Below w3.heap.size w3 (w3.alloc (.cells #[.int .i64 0] 3)):=(Below.refl _ _).alloc (Nat.le_refl _) _
 have hr4:=heap_alloc_new w3 (.cells #[.int .i64 0] 3)
 have hE5:Calls Tryz.prog 74 #[.agg #[.pointer (some ⟨gs,0,none⟩),.int .i64 d],.pointer (some ⟨w.heap.size,0,none⟩),.int .i64 1,.func (.func 75) #[] #[.pointer (some ⟨w3.heap.size,0,none⟩)]] (w3.alloc (.cells #[.int .i64 0] 3)) (EachPost (w3.alloc (.cells #[.int .i64 0] 3)) (TopI w3.heap.size) (fun k=>k=w3.heap.size) [] u 1):=HE.out _ (B3.out.trans (hb4.mono B3.out.size)) (range_kd ((hb4.block _ (Array.getElem?_eq_some_iff.1 R13.out).1).trans R13.out)) w3.heap.size B3.out.size hr4
 have HE5:=Lib.hid hE5
 have R4:=Lib.hid (range_tr ((hb4.block _ (Array.getElem?_eq_some_iff.1 R3.out).1).trans R3.out))
 have B4:=Lib.hid (B3.out.trans (hb4.mono B3.out.size))
 have HZ3:=Lib.hid B3.out.size
 clear hE5 hb4 hr4 HE HT
 generalize w3.alloc (.cells #[.int .i64 0] 3)=w4 at *
 rcases HWB.out with hwh | hwh
 ·have HWH:=Lib.hid hwh
  clear hwh
  go_upto_region 6 with (first
   | (refine wpList_load_mid (by rfl) 91 (.tmp 8) (by rfl) w1.heap.size 0 (by rfl) [.pointer (some ⟨gs,0,none⟩),.int .i64 d] du R4.out HDU.out HDR.out STr ?_)
   | (go_at_call 74;refine HE5.out.mono ?_;rintro _ w5 ⟨err,M,X5,rfl,⟨hc,hm⟩,hx,ho,hw,hb,hml⟩;obtain ⟨rfl,rfl⟩:=hw HWH.out;have HC:=Lib.hid hc;have HO:=Lib.hid ho;clear hc hm hx ho hw hb hml))
  have c1:=cell_of_row w5 w3.heap.size 0 _ _ _ HC.out
  rw [List.nil_append] at c1
  have HHW:=Lib.hid (show u.whole=true→u.whole=false→False from fun h1 h2=>by rw [h1] at h2;cases h2)
  obtain ⟨D,hD⟩:∃D,deepE (u.ents 1)=D:=⟨_,rfl⟩
  rw [hD] at c1
  have HDE:=Lib.hid hD
  clear hD
  go_wp2_with fail
  go_ret2
  exact ⟨B4.out.trans (HO.out.below B4.out.size (fun k e=>by have:=HZ3.out;omega)),(fun _=>by rw [HDE.out];rfl),(fun h=>(HHW.out HWH.out h).elim)⟩
 ·have HWH:=Lib.hid hwh
  clear hwh
  go_upto_region 6 with (first
   | (refine wpList_load_mid (by rfl) 91 (.tmp 8) (by rfl) w1.heap.size 0 (by rfl) [.pointer (some ⟨gs,0,none⟩),.int .i64 d] du R4.out HDU.out HDR.out STr ?_)
   | (go_at_call 74;refine HE5.out.mono ?_;rintro _ w5 ⟨err,M,X5,rfl,hi,hx,ho,hw,hb,hml⟩;obtain rfl:=hb HWH.out;have HO:=Lib.hid ho;clear hi hx ho hw hb hml))
  go_wp2_with fail
  go_ret2
  exact ⟨B4.out.trans (HO.out.below B4.out.size (fun k e=>by have:=HZ3.out;omega)),(fun h=>by rw [HWH.out] at h;cases h),(fun _=>rfl)⟩
end Go.Proofs.YtinihaflmdihaaaGreat.Kt
namespace Go.Proofs.YtinihaflmdihaaaGreat.Kt
open Go.RowKit Go.Proofs.YtinihaflmdihaaaGreat.Nd
open List renaming setIfInBounds_toArray → sA, set_cons_zero → sZ, set_cons_succ → sS
def Twice (L:List Rw):Prop:=∃j,j+1<L.length∧(L.getD j default).R=(L.getD (j+1) default).R
def TwRel (w:World) (L:List Rw) (n:Nat) (i:Value) (wr:World):Prop:=∃k m:Nat,(k+1≤n∨k=0)∧i= .int .i64 k∧(∀j,j<k→(L.getD j default).R≠(L.getD (j+1) default).R)∧wr=w.drewN m
def TwPost (w:World) (L:List Rw) (e:Ending) (w':World):Prop:=∃b:Bool,e= .returned (.bool b)∧(b=true↔Twice L)∧∃j,w'=w.drewN j
theorem twice_any (p:Option Addr) (n c:Nat) (L:List Rw) (w:World) (h:RowsIn w p n c L) (hn:n≤1000000000):
  Calls Tryz.prog 77 #[.slice p n c] w (TwPost w L):=by
 have H:=Lib.hid h
 have HN:=Lib.hid h.size
 have q1:IntKind.i64.wrap ((n:Int) - 1)=(n:Int) - 1:=IntWalk.i64_in _ (by omega)
 clear h
 go_enter Tryz.func77,Tryz.ntmps77
 go_wp2_with fail
 go_loopw [3,7] (fun _ i wr=>TwRel w L n i wr) (fun _ i _=>n - (intOf i).toNat)
 case atStart=>exact ⟨0,0,Or.inr rfl,rfl,(fun j hj=>by omega),rfl⟩
 case round=>
  obtain ⟨k,m,hk,rfl,heq,rfl⟩:=hrel
  have HB:=Lib.hid (show Below w.heap.size w (w.drewN m) from Below.drewN (Below.refl _ _) m)
  have HEQ:=Lib.hid heq
  clear heq
  by_cases hlt:k+1<n
  ·have b1:(k:Int)<(n:Int) - 1:=by omega
   obtain ⟨g,o,rfl,c1,ok1⟩:=H.out.cell k (by omega)
   obtain ⟨g',o',hp,c2,ok2⟩:=H.out.cell (k+1) hlt
   simp only [Option.some.injEq,Addr.mk.injEq,and_true] at hp
   obtain ⟨rfl,rfl⟩:=hp
   have i1:(0:Int)≤k∧(k:Int)<n:=by omega
   have i2:(0:Int)≤(k:Int)+1∧(k:Int)+1<n:=by omega
   have q2:IntKind.i64.wrap ((k:Int)+1)=(k:Int)+1:=IntWalk.i64_in _ (by omega)
   have q3:((k:Int)+1).toNat=k+1:=by omega
   have C1:=Lib.hid c1
   have C2:=Lib.hid c2
   have HX:=Lib.hid (show ∀b:Bool,b=decide ((L.getD k default).R=(L.getD (k+1) default).R)→b=true→Twice L from fun b hb h=>⟨k,by rw [← HN.out];exact hlt,by rw [h] at hb;exact of_decide_eq_true hb.symm⟩)
   have HY:=Lib.hid (show decide ((L.getD k default).R=(L.getD (k+1) default).R)=false→∀j,j<k+1→(L.getD j default).R≠(L.getD (j+1) default).R from fun h j hj=>by
    rcases Nat.lt_or_ge j k with h1 | h1
    ·exact HEQ.out j h1
    ·obtain rfl:j=k:=by omega
     exact of_decide_eq_false h)
   have HQ:=Lib.hid (fun w' (hb:Below w.heap.size w w')=>sleq_any _ _ _ _ _ _ _ _ w' (ok1.ints.later hb) (ok2.ints.later hb) ok1.top)
   clear c1 c2 ok1 ok2
   generalize L.getD k default=r1 at *
   generalize L.getD (k+1) default=r2 at *
   obtain ⟨p1,n1,cc1,R1⟩:=r1
   obtain ⟨p2,n2,cc2,R2⟩:=r2
   unfold Rw.val at C1 C2
   simp only at C1 C2 HX HY HQ
   cases hb:decide (R1=R2) with
   | true=>
    rw [hb] at HQ
    have HT:=Lib.hid (HX.out true hb.symm rfl)
    clear hb HX HY HEQ
    go_upto_region 4 with fail
    refine wp_region_held_drew (S:=fun w'=>Below w.heap.size w w') (by kernel_rfl) HB.out.drew (fun hHeld=>?_)
    refine tK 0 ?_
    refine tK 1 ?_
    refine tK 2 ?_
    refine tQ 3 ?_ ?_ ?_
    rotate_left
    ·intro w' hSw
     have c9:=(hSw.cell (block_lt_of_cell C1.out)).trans C1.out
     go_simp
     try with_reducible rfl
    refine tK 4 ?_
    refine tK 5 ?_
    refine tK 6 ?_
    refine tK 7 ?_
    refine tQ 8 ?_ ?_ ?_
    rotate_left
    ·intro w' hSw
     have c9:=(hSw.cell (block_lt_of_cell C2.out)).trans C2.out
     go_simp
     try with_reducible rfl
    refine rY [9] ?_
    refine rC (fun K hK=>?_) AllReadyH.nil
    go_simp
    refine (HQ.out _ hHeld).mono ?_
    rintro _ w5 ⟨rfl,j5,rfl⟩
    try go_wp2_with fail
    refine hK.out _ _ (Below.drewN (Below.refl _ _) _) (fun hHeld=>?_)
    clear hK K
    try simp only [Act.put,sA,sZ,sS]
    refine wpAnyH_done (by kernel_rfl) ?_ _
    go_wp2_with fail
    go_ret
    exact ⟨true,rfl,⟨fun _=>HT.out,fun _=>rfl⟩,_,rfl⟩
   | false=>
    rw [hb] at HQ
    have HZ:=Lib.hid (HY.out hb)
    clear hb HX HY HEQ
    go_upto_region 4 with fail
    refine wp_region_held_drew (S:=fun w'=>Below w.heap.size w w') (by kernel_rfl) HB.out.drew (fun hHeld=>?_)
    refine tK 0 ?_
    refine tK 1 ?_
    refine tK 2 ?_
    refine tQ 3 ?_ ?_ ?_
    rotate_left
    ·intro w' hSw
     have c9:=(hSw.cell (block_lt_of_cell C1.out)).trans C1.out
     go_simp
     try with_reducible rfl
    refine tK 4 ?_
    refine tK 5 ?_
    refine tK 6 ?_
    refine tK 7 ?_
    refine tQ 8 ?_ ?_ ?_
    rotate_left
    ·intro w' hSw
     have c9:=(hSw.cell (block_lt_of_cell C2.out)).trans C2.out
     go_simp
     try with_reducible rfl
    refine rY [9] ?_
    refine rC (fun K hK=>?_) AllReadyH.nil
    go_simp
    refine (HQ.out _ hHeld).mono ?_
    rintro _ w5 ⟨rfl,j5,rfl⟩
    try go_wp2_with fail
    refine hK.out _ _ (Below.drewN (Below.refl _ _) _) (fun hHeld=>?_)
    clear hK K
    try simp only [Act.put,sA,sZ,sS]
    refine wpAnyH_done (by kernel_rfl) ?_ _
    go_wp2_with fail
    go_roundw
    case rel=>exact ⟨k+1,_,Or.inl hlt,by go_num,HZ.out,rfl⟩
    case measure=>simp [intOf];omega
  ·have b1:¬(k:Int)<(n:Int) - 1:=by omega
   have HT:=Lib.hid (show ¬Twice L from fun ⟨j,hj,he⟩=>HEQ.out j (by rw [← HN.out] at hj;omega) he)
   go_wp2_with fail
   go_ret
   exact ⟨false,rfl,⟨(fun h=>by cases h),fun h=>absurd h HT.out⟩,_,rfl⟩
end Go.Proofs.YtinihaflmdihaaaGreat.Kt
namespace Go.Proofs.YtinihaflmdihaaaGreat.Kt
open Go.RowKit Go.Proofs.YtinihaflmdihaaaGreat.Nd Go.Proofs.YtinihaflmdihaaaGreat.Dk Go.Proofs.YtinihaflmdihaaaGreat.Pg
open List renaming setIfInBounds_toArray → sA, set_cons_zero → sZ, set_cons_succ → sS
theorem wpList_load_midK {ops:Array Oper} {rest:List Oper} {o:Oper} {a:Act} {w:World} {Q:Exit→Act→World→Prop} (hw:Region.wanted o (yielded ops a.tmps)=true) (ty:TypeId) (x:Operand) (ho:o.op= .load ty x)
  (b i:Nat) (hx:a.eval x= .pointer (some ⟨b,i,none⟩)) (cs:List Value) (d:TypeDesc) (hc:w.rangeAt b i cs)
  (hu:Tryz.prog.underlying ty=some d) (hd:d.isRow=true) (hi:(Tryz.prog.info? ty).map (·.size)=some cs.length)
  (h:wpList Tryz.prog ops Q rest (a.put o.dst (.agg cs.toArray)) w):wpList Tryz.prog ops Q (o::rest) a w:=
 BigFrame.wpList_want hw fun _ hK=>wp_load_mid ty x ho b i hx cs d hc hu hd hi (hK _ _ h)
theorem Build_bad (sp:Option Addr) (d:Int) (p:Option Addr) (n c:Nat) (L:List Rw) (w:World) (hL:RowsIn w p n c L) (hn:n≤1048576) (ht:takesB d L=false):
  Calls Tryz.prog 32 #[.pointer sp,.slice p n c,.int .i64 d] w fun e w'=>e= .returned (.tuple #[.agg kd0.cells.toArray,.int .i64 1])∧Below w.heap.size w w':=by
 have b1:Below w.heap.size w (w.alloc (.cells kd0.cells.toArray 34)):=(Below.refl _ _).alloc (Nat.le_refl _) _
 have r1:=heap_alloc_new w (.cells kd0.cells.toArray 34)
 have HT:=Lib.hid (fun w' (hb:Below w.heap.size w w')=>takes_any sp d p n c L w' (hL.later hb) (by omega))
 rw [ht] at HT
 have R1:=Lib.hid r1
 have B1:=Lib.hid b1
 have e1:¬(n:Int)>1048576:=by omega
 obtain ⟨du,hdu,hdr⟩:=UTr
 obtain ⟨dk,hdk,hdkr⟩:=UKd
 have HDU:=Lib.hid hdu
 have HDR:=Lib.hid hdr
 have HDK:=Lib.hid hdk
 have HDKR:=Lib.hid hdkr
 have HZ:=Lib.hid (zero_of_info kz)
 have hz0:=HZ.out.1
 clear hL ht b1 r1 hdu hdr hdk hdkr
 go_enter Tryz.func32,Tryz.ntmps32
 go_upto_region 1 with fail
 generalize w.alloc (.cells kd0.cells.toArray 34)=w1 at *
 go_upto_region 2 with (first
  | (refine wpList_build (cells:= #[.pointer sp,.int .i64 d]) (by rfl) (by rfl) (by simp only [List.map_toArray,List.map_cons,List.map_nil];exact tr_built _ _) ?_)
  | (refine wpList_store_row (by rfl) 91 (.tmp 8) (.tmp 12) (by rfl) w1.heap.size #[.pointer sp,.int .i64 d] (by rfl) (by rfl) _ _ (heap_alloc_new w1 _) STr rfl (tr_one _ _) ?_;rw [setRow_alloc]))
 have hb2:Below w1.heap.size w1 (w1.alloc (.cells #[.pointer sp,.int .i64 d] 91)):=(Below.refl _ _).alloc (Nat.le_refl _) _
 have hr2:=heap_alloc_new w1 (.cells #[.pointer sp,.int .i64 d] 91)
 generalize w1.alloc (.cells #[.pointer sp,.int .i64 d] 91)=w2 at *
 have R2:=Lib.hid (range_tr hr2)
 have R12:=Lib.hid ((hb2.block _ (Array.getElem?_eq_some_iff.1 R1.out).1).trans R1.out)
 have B2:=Lib.hid (B1.out.trans (hb2.mono B1.out.size))
 clear hb2 hr2
 go_wp2_with (first
  | (refine wpList_load_midK (by rfl) 91 (.tmp 8) (by rfl) w1.heap.size 0 (by rfl) [.pointer sp,.int .i64 d] du R2.out HDU.out HDR.out STr ?_)
  | (go_at_call 72;refine (HT.out w2 B2.out).mono ?_;rintro _ w3 ⟨rfl,b3⟩;have B3:=Lib.hid (B2.out.trans (b3.mono B2.out.size));have R3:=Lib.hid ((b3.block _ (Array.getElem?_eq_some_iff.1 R12.out).1).trans R12.out);clear b3)
  | (refine wpList_build (by rfl) (by rfl) kd0_built ?_)
  | (refine wpList_store_row (by rfl) 34 _ _ (by rfl) w.heap.size kd0.cells.toArray (by rfl) (by rfl) _ _ R3.out (by rw [List.size_toArray,kd0_size];exact SKd) rfl (all_oneCell_toArray Kd.one) ?_))
 refine ret_str2 6 7 (by kernel_rfl) w.heap.size _ kd0.cells.toArray _ HDK.out HDKR.out (by rw [List.size_toArray,kd0_size];exact SKd) (by rfl) (by rfl) (setRow_heap _ _ _ _ _ _ R3.out) ?_
 exact ⟨rfl,B3.out.trans (Below.setRow (Below.refl _ _) (Nat.le_refl _) _)⟩
end Go.Proofs.YtinihaflmdihaaaGreat.Kt
