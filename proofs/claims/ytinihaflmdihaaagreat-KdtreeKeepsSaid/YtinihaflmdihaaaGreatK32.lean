/- KdRowsT, KdInsV, KdDelLay, KdDelFn. -/
import Derived.Shelf.SlicesE.DeleteFunc
import Derived.Test.YtinihaflmdihaaaGreatK29
import Derived.Test.YtinihaflmdihaaaGreatK31
set_option maxRecDepth 100000
set_option maxHeartbeats 8000000
set_option linter.all false
namespace Go.Proofs.YtinihaflmdihaaaGreat.Kt
open Go.RowKit Go.Proofs.YtinihaflmdihaaaGreat.Nd Go.Proofs.YtinihaflmdihaaaGreat.Dk Go.Proofs.YtinihaflmdihaaaGreat.Pg
theorem sees_dims {d:Nat} {W:Pages}:∀ {u:V},Sees W d u→∀y∈u.rows,y.length=d
 | .nil,_,y,hy=>by cases hy
 | .bad _,_,y,hy=>by cases hy
 | .fork p v l r,h,y,hy=>by
  have hy:y∈(if v then [p] else [])++(l.rows++r.rows):=hy
  rcases List.mem_append.1 hy with hy | hy
  ·have hp:=(right_split h.1.right).2.2.1 ⟨p,v⟩ (by simp [forkN])
   have hy:y=p:=by cases v<;>simp at hy;exact hy
   rw [hy]
   simp only at hp
   omega
  ·rcases List.mem_append.1 hy with hy | hy
   ·exact sees_dims h.2.2.1 y hy
   ·exact sees_dims h.2.2.2 y hy
def RowsTold (w:World) (u:V) (e:Ending) (w':World):Prop:=Below w.heap.size w w'∧
 (u.whole=true→∃(q:Option Addr) (c:Nat) (M:List Rw),e= .returned (.tuple #[.slice q M.length c,.int .i64 0])∧RowsIn w' q M.length c M∧M.map Rw.R=sortP 0 u.rows∧(∀r∈M,∀x,r.p=some x→r.R≠[]→w.heap.size≤x.block)∧(M≠[]→∃g o,q=some ⟨g,o,none⟩∧w.heap.size≤g))∧
 (u.whole=false→e= .returned (.tuple #[.slice none 0 0,.int .i64 21]))
theorem Rows_any {gs d:Nat} {Q:Nat→Prop} {s:Pg.S} (hd:1≤d∧d≤8) (hW:TextsK d s.W) (u:V) (k:Kd) (w:World) (hp:PL w gs Q s) (hs:Sees s.W d u) (hk:k.Ok w) (he:k.pk=u.kid) (hz:u.kid.size≤90000):
  Calls Tryz.prog 23 #[.pointer (some ⟨gs,0,none⟩),.agg k.cells.toArray,.int .i64 d] w (RowsTold w u):=by
 have b1:Below w.heap.size w (w.alloc (.cells k.cells.toArray 34)):=(Below.refl _ _).alloc (Nat.le_refl _) _
 have r1:=heap_alloc_new w (.cells k.cells.toArray 34)
 have HT:=yH (fun w'=>takes_any (some ⟨gs,0,none⟩) d none 0 0 [] w' (rows_nil w') (by omega))
 rw [show takesB d []=true from by unfold takesB;rw [decide_eq_true (by omega)];rfl] at HT
 have HE:=yH (fun (w':World) (hb:Below w.heap.size w w')=>rows_any (gs:=gs) (Q:=Q) hW u k w' (hp.keep (fun _=>False) (Only.of_below _ hb) (fun _ _ e=>e)) hs (hk.later hb) he hz)
 have HDM:=yH (show ∀y∈u.rows,y.length=d from sees_dims hs)
 have HCL:=yH (Kd.cells_length hk.len)
 have HDD:=yH hd
 have HZZ:=yH hz
 have R1:=yH r1
 have B1:=yH b1
 have HWB:=yH (show u.whole=true∨u.whole=false from by cases u.whole<;>simp)
 obtain ⟨du,hdu,hdr⟩:=UTr
 obtain ⟨dk,hdk,hdkr⟩:=UKd
 have HDU:=yH hdu
 have HDR:=yH hdr
 have HDK:=yH hdk
 have HDKR:=yH hdkr
 clear hd hW hp hs hk he hz b1 r1 hdu hdr hdk hdkr
 go_enter Tryz.func23,Tryz.ntmps23
 go_upto_region 1 with fail
 generalize w.alloc (.cells k.cells.toArray 34)=w1 at *
 go_upto_region 2 with (first
  | (refine wpList_build (cells:= #[.pointer (some ⟨gs,0,none⟩),.int .i64 d]) (by rfl) (by rfl) (by simp only [List.map_toArray,List.map_cons,List.map_nil];exact tr_built _ _) ?_)
  | (refine wpList_store_row (by rfl) 91 (.tmp 8) (.tmp 13) (by rfl) w1.heap.size #[.pointer (some ⟨gs,0,none⟩),.int .i64 d] (by rfl) (by rfl) _ _ (heap_alloc_new w1 _) STr rfl (tr_one _ _) ?_;rw [setRow_alloc]))
 have hb2:Below w1.heap.size w1 (w1.alloc (.cells #[.pointer (some ⟨gs,0,none⟩),.int .i64 d] 91)):=(Below.refl _ _).alloc (Nat.le_refl _) _
 have hr2:=heap_alloc_new w1 (.cells #[.pointer (some ⟨gs,0,none⟩),.int .i64 d] 91)
 generalize w1.alloc (.cells #[.pointer (some ⟨gs,0,none⟩),.int .i64 d] 91)=w2 at *
 have R2:=yH hr2
 have R2a:=yH (range_tr hr2)
 have R12:=yH ((hb2.block _ (yL R1.out)).trans R1.out)
 have B2:=yH (B1.out.trans (hb2.mono B1.out.size))
 clear hb2 hr2
 go_upto_region 4 with (first
  | (refine wpList_load_mid (by rfl) 91 (.tmp 8) (by rfl) w1.heap.size 0 (by rfl) [.pointer (some ⟨gs,0,none⟩),.int .i64 d] du R2a.out HDU.out HDR.out STr ?_)
  | (go_at_call 72;refine (HT.out w2).mono ?_;rintro _ w3 ⟨rfl,b3⟩;have B3:=yH (B2.out.trans (b3.mono B2.out.size));have R3:=yH ((b3.block _ (yL R2.out)).trans R2.out);have R13:=yH ((b3.block _ (yL R12.out)).trans R12.out);clear b3))
 have R3t:=yH (range_tr R3.out)
 have R13t:=yH (range_kd R13.out)
 rcases HWB.out with hwh | hwh
 ·have HWH:=yH hwh
  clear hwh
  go_upto_region 5 with (first
   | (refine wpList_load_mid (by rfl) 91 (.tmp 8) (by rfl) w1.heap.size 0 (by rfl) [.pointer (some ⟨gs,0,none⟩),.int .i64 d] du R3t.out HDU.out HDR.out STr ?_)
   | (refine wpList_load_mid (by rfl) 34 _ (by rfl) w.heap.size 0 (by rfl) k.cells dk R13t.out HDK.out HDKR.out (by rw [HCL.out];exact SKd) ?_)
   | (go_at_call 57;refine (HE.out w3 B3.out).mono ?_;rintro _ w4 ⟨err,q,c,O,rfl,hown,hok,hw,hb,hlz,hbl⟩;obtain ⟨rfl,hre⟩:=hw HWH.out;have HOWN:=yH hown;have HOK:=yH hok;have HRE:=yH hre;have HLZ:=yH hlz;have B4:=yH (B3.out.trans (hbl.mono B3.out.size));have R4:=yH ((hbl.block _ (yL R3.out)).trans R3.out);clear hown hok hw hb hre hlz hbl))
  have R4t:=yH (range_tr R4.out)
  have HS3:=yH (show w.heap.size≤w3.heap.size∧w1.heap.size<w3.heap.size from ⟨B3.out.size,(yL R3.out)⟩)
  by_cases h0:O.length=0
  ·have hO:=List.length_eq_zero_iff.1 h0
   subst hO
   have HSO:=yH (tsort_none (some ⟨gs,0,none⟩) d 0 c q w4 (by have:=HDD.out;omega) (by omega))
   have hR0:=HRE.out
   have HR0:=yH hR0
   clear hR0 h0
   simp only [List.length_nil]
   go_wp2_with (first
    | (refine wpList_load_mid (by rfl) 91 (.tmp 8) (by rfl) w1.heap.size 0 (by rfl) [.pointer (some ⟨gs,0,none⟩),.int .i64 d] du R4t.out HDU.out HDR.out STr ?_)
    | (go_at_call 73;refine HSO.out.mono ?_;rintro _ w5 ⟨rfl,b5⟩;have B5:=yH (B4.out.trans (b5.mono B4.out.size));clear b5))
   go_ret2
   refine ⟨B5.out,fun _=>⟨q,c,[],rfl,⟨rfl,Nat.zero_le _,(fun r hr=>by cases hr),Or.inl rfl⟩,?_,(fun r hr=>by cases hr),fun h=>absurd rfl h⟩,fun h=>by rw [HWH.out] at h;cases h⟩
   have h:=HR0.out
   rw [List.map_nil] at h
   rw [List.map_nil,← h]
   rfl
  ·obtain ⟨g,c',hv,hn,hc,hgb,hgl,hseg⟩:=own_seg HOWN.out (by omega)
   simp only [Value.slice.injEq,true_and] at hv
   obtain ⟨rfl,rfl⟩:=hv
   have hO:O≠[]:=fun e=>h0 (by rw [e];rfl)
   have HSO:=yH (tsort_any (some ⟨gs,0,none⟩) d 0 g 0 c O w4 hO hseg (fun r hr=>⟨(HOK.out r hr).1,by
    have h1:=(HOK.out r hr).1.ints.size
    have h2:=HDM.out r.R (by rw [← HRE.out];exact List.mem_map_of_mem hr)
    omega,fun x hx hR e=>((HOK.out r hr).2 x hx hR).1 (by rw [e];rfl)⟩) (by have:=HDD.out;omega) (by omega) hgl (by have:=HLZ.out;have:=HZZ.out;omega))
   rw [Nat.zero_mod] at HSO
   have HGB:=yH (show w3.heap.size≤g∧O.length≤c from ⟨hgb,hc⟩)
   obtain ⟨n,hnn⟩:∃n,n=O.length:=⟨_,rfl⟩
   rw [← hnn] at HSO HGB ⊢
   have HNN:=yH hnn
   clear h0 hO hn hc hgb hgl hseg hnn
   go_wp2_with (first
    | (refine wpList_load_mid (by rfl) 91 (.tmp 8) (by rfl) w1.heap.size 0 (by rfl) [.pointer (some ⟨gs,0,none⟩),.int .i64 d] du R4t.out HDU.out HDR.out STr ?_)
    | (go_at_call 73;refine HSO.out.mono ?_;rintro _ w5 ⟨rfl,M,hM1,hM2,hM3,hM4⟩;have HM1:=yH hM1;have HM2:=yH hM2;have HM3:=yH hM3;have HM4:=yH hM4;clear hM1 hM2 hM3 hM4))
   go_ret2
   have hml:M.length=n:=HM1.out.length_eq.trans HNN.out.symm
   have hok5:∀r∈M,r.Ok w5:=fun r hr=>by
    have h:=HOK.out r (HM1.out.mem_iff.1 hr)
    exact Nd.rw_keep h.1 fun y hy hR=>HM4.out.only.block _ (rw_lt h.1 y hy hR) (fun e=>(h.2 y hy hR).1 (by rw [e];rfl))
   have hs3:=HS3.out
   have hgb:=HGB.out
   refine ⟨B4.out.trans (HM4.out.only.below B4.out.size (fun k e=>by omega)),fun _=>⟨some ⟨g,0,none⟩,c,M,by rw [hml];rfl,rows_of_seg HM3.out hok5 (by omega),by rw [HM2.out,HRE.out],fun r hr x hx hR=>?_,fun _=>⟨g,0,rfl,by omega⟩⟩,fun h=>by rw [HWH.out] at h;cases h⟩
   have h:=((HOK.out r (HM1.out.mem_iff.1 hr)).2 x hx hR).2
   omega
 ·have HWH:=yH hwh
  clear hwh
  go_wp2_with (first
   | (refine wpList_load_mid (by rfl) 91 (.tmp 8) (by rfl) w1.heap.size 0 (by rfl) [.pointer (some ⟨gs,0,none⟩),.int .i64 d] du R3t.out HDU.out HDR.out STr ?_)
   | (refine wpList_load_mid (by rfl) 34 _ (by rfl) w.heap.size 0 (by rfl) k.cells dk R13t.out HDK.out HDKR.out (by rw [HCL.out];exact SKd) ?_)
   | (go_at_call 57;refine (HE.out w3 B3.out).mono ?_;rintro _ w4 ⟨err,q,c,O,rfl,hown,hok,hw,hb,hlz,hbl⟩;obtain rfl:=hb HWH.out;have B4:=yH (B3.out.trans (hbl.mono B3.out.size));clear hown hok hw hb hlz hbl))
  go_ret2
  exact ⟨B4.out,fun h=>(by rw [HWH.out] at h;cases h),fun _=>rfl⟩
end Go.Proofs.YtinihaflmdihaaaGreat.Kt
namespace Go.Proofs.YtinihaflmdihaaaGreat.Kt
open Go.RowKit Go.Shelf Go.Proofs.YtinihaflmdihaaaGreat.Nd Go.Proofs.YtinihaflmdihaaaGreat.Dk Go.Proofs.YtinihaflmdihaaaGreat.Pg
open List renaming setIfInBounds_toArray → yA, set_cons_zero → yB, set_cons_succ → yC
theorem puts_ne {s:Pg.S} {L:List (List Nat)} (h:L≠[]):(puts s L).W≠[]:=by
 obtain ⟨M,b,rfl⟩:∃M b,L=M++[b]:=⟨L.dropLast,L.getLast h,(List.dropLast_concat_getLast h).symm⟩
 rw [puts_append]
 exact s_put_ne (puts s M) b
def endV (s:St) (lv:Bool):V:=.fork s.row lv s.l s.r
def endN (s:St) (lv:Bool):PN:=forkN s.row lv s.l.kid s.r.kid
def insV (d:Nat) (p:List Int) (u:V):Int ⊕ (V×List (List Nat)):=
 match wayV d p u 0 with
 | none=>.inl 21
 | some x=>if x.2.live then .inl 8
  else if (settle 0 (x.1++[x.2])).1=x.1.length+1 then .inr (raiseV x.1 (endV x.2 true),(endN x.2 true).bytes::raiseP x.1 (endV x.2 true))
  else if ((x.1++[x.2]).getD (settle 0 (x.1++[x.2])).1 x.2).old.whole then
   .inr (raiseV ((x.1++[x.2]).take (settle 0 (x.1++[x.2])).1) (V.of (lay (((x.1++[x.2]).getD (settle 0 (x.1++[x.2])).1 x.2).old.rows++[p]) (settle 0 (x.1++[x.2])).1)),
    (lay (((x.1++[x.2]).getD (settle 0 (x.1++[x.2])).1 x.2).old.rows++[p]) (settle 0 (x.1++[x.2])).1).pages++raiseP ((x.1++[x.2]).take (settle 0 (x.1++[x.2])).1) (V.of (lay (((x.1++[x.2]).getD (settle 0 (x.1++[x.2])).1 x.2).old.rows++[p]) (settle 0 (x.1++[x.2])).1)))
  else .inl 21
def ChgPost (w:World) (gs:Nat) (Q:Nat→Prop) (s:Pg.S) (o:Int ⊕ (V×List (List Nat))) (e:Ending) (w':World):Prop:=
 match o with
 | .inl err=>e= .returned (.tuple #[.agg kd0.cells.toArray,.int .i64 err])∧Below w.heap.size w w'
 | .inr x=>Told2 w gs Q x.1 (puts s x.2) e w'
theorem links_getD {A:List MSt} {L:List St} (h:Links A L) (i:Nat) (hi:i<A.length) (x:St):Link (A.getD i default) (L.getD i x):=by
 have hl:=h.length
 have e:=List.getElem?_eq_getElem (l:=L) (i:=i) (by omega)
 obtain ⟨m,hm,hk⟩:=h.get i _ e
 rw [List.getD_eq_getElem?_getD,List.getD_eq_getElem?_getD,hm,e]
 exact hk
theorem range_kid {w:World} {b o:Nat} {m:MSt} (h:w.rangeAt b o m.cells):w.rangeAt b o m.kid.cells:=fun j v hv=>h j v (by
 unfold MSt.cells
 rw [List.getElem?_append_left (List.getElem?_eq_some_iff.1 hv).1]
 exact hv)
theorem Insert_any {gs d:Nat} {Q:Nat→Prop} {s:Pg.S} (hd:1≤d∧d≤8) (hW:TextsK d s.W) (u:V) (k:Kd) (r:Rw) (w:World) (hp:PL w gs Q s) (hs:Sees s.W d u) (hk:k.Ok w) (he:k.pk=u.kid) (hr:r.Ok w) (hrd:r.n=d) (hz:u.kid.size≤900) (hka:Aw Q k) (hra:∀y,r.p=some y→r.R≠[]→¬Q y.block) (hsl:s.W.length≤60000):
  Calls Tryz.prog 15 #[.pointer (some ⟨gs,0,none⟩),.agg k.cells.toArray,r.val,.int .i64 d] w (ChgPost w gs Q s (insV d r.R u)):=by
 have hway:∀w',Below w.heap.size w w'→Calls Tryz.prog 53 #[.agg #[.pointer (some ⟨gs,0,none⟩),.int .i64 d],.agg k.cells.toArray,r.val] w' (WayRes w' Q (wayV d r.R u 0)):=fun w' hb=>way_any hd hW u k r w' (hp.keep (fun _=>False) (Only.of_below _ hb) (fun _ _ e=>e)) hs (hk.later hb) he (hr.later hb) hrd (by omega) hka hra
 have hrR:r.R.length=d:=by have:=hr.ints.size;omega
 cases hO:wayV d r.R u 0 with
 | none=>
  unfold insV
  rw [hO] at hway ⊢
  refine (Insert_err (some ⟨gs,0,none⟩) d k r 21 w hk (fun w' hb=>(hway w' hb).mono ?_) (by decide)).mono fun e w' h=>h
  rintro e w2 ⟨h1,h2,-⟩
  exact ⟨h2 rfl,h1⟩
 | some X=>
  obtain ⟨L,s'⟩:=X
  rw [hO] at hway
  obtain ⟨⟨hst0,hst1,-⟩,hso,hln⟩:=way_settle u 0 hs L s' hO
  have hsteps:=way_steps (Z:=((u.kid.size.toNat:Nat):Int)) hrR (by omega) u 0 hs (by omega) L s' hO
  have hZ:u.kid.size.toNat≤900:=by omega
  have hsz0:=sees_size hs
  have hsge:=settle_ge (L++[s']) 0
  obtain ⟨hh,hhE⟩:∃hh,hh=(settle 0 (L++[s'])).1:=⟨_,rfl⟩
  have hins:insV d r.R u=if s'.live then .inl 8
    else if hh=L.length+1 then .inr (raiseV L (endV s' true),(endN s' true).bytes::raiseP L (endV s' true))
    else if ((L++[s']).getD hh s').old.whole then
     .inr (raiseV ((L++[s']).take hh) (V.of (lay (((L++[s']).getD hh s').old.rows++[r.R]) hh)),(lay (((L++[s']).getD hh s').old.rows++[r.R]) hh).pages++raiseP ((L++[s']).take hh) (V.of (lay (((L++[s']).getD hh s').old.rows++[r.R]) hh)))
    else .inl 21:=by
   unfold insV
   rw [hO,hhE]
  rw [hins]
  clear hins
  generalize hOUT:(if s'.live then (Sum.inl 8:Int ⊕ (V×List (List Nat))) else _)=OUT
  have HOUT:=yH hOUT
  clear hOUT
  obtain ⟨W,hW0,r0,r1,b1⟩:=two_alloc w (.cells k.cells.toArray 34) (.cells kd0.cells.toArray 34)
  have HWAY:=yH hway
  have HCL:=yH (Kd.cells_length hk.len)
  have R0:=yH r0
  have R1:=yH r1
  have B1:=yH b1
  have HQL:=yH (show ∀k,Q k→k<w.heap.size from hp.lt)
  have HPL:=yH hp
  have HWT:=yH hW
  have HDD:=yH hd
  have HRO:=yH hr
  have HRD:=yH hrd
  have HRA:=yH hra
  have HSL:=yH hsl
  have HSO:=yH hso
  have HLN:=yH hln
  have HSTP:=yH hsteps
  have HZB:=yH hZ
  have HZU:=yH (show u.kid.size≤900 from hz)
  have HSGE:=yH (show hh≤L.length+1 by rw [hhE];have:=hsge.2;simp at this;omega)
  have HHE:=yH hhE
  obtain ⟨sz,hsz⟩:∃sz,sz=(settle 0 (L++[s'])).2.1:=⟨_,rfl⟩
  have HSZE:=yH hsz
  have hsz1:0≤sz∧sz≤901:=by rw [hsz];omega
  have hszf:¬sz>1048576:=by omega
  obtain ⟨rp,rn,rc,rR⟩:=r
  unfold Rw.val at HWAY ⊢
  simp only at HWAY hrR HOUT ⊢
  obtain ⟨du,hdu,hdr⟩:=UTr
  obtain ⟨dk,hdk,hdkr⟩:=UKd
  have HDU:=yH hdu
  have HDR:=yH hdr
  have HDK:=yH hdk
  have HDKR:=yH hdkr
  have HZK:=yH (zero_of_info kz)
  have hz0:=HZK.out.1
  have HRR:=yH hrR
  clear hd hW hp hs hk he hr hrd hz hka hra hsl hway hst0 hst1 hso hln hsteps hZ hsz0 hsge hhE r0 r1 b1 hsz hdu hdr hdk hdkr hO hrR
  go_enter Tryz.func15,Tryz.ntmps15
  go_upto_region 1 with fail
  clear hW0
  go_upto_region 2 with (first
   | (refine wpList_build (cells:= #[.pointer (some ⟨gs,0,none⟩),.int .i64 d]) (by rfl) (by rfl) (by simp only [List.map_toArray,List.map_cons,List.map_nil];exact tr_built _ _) ?_)
   | (refine wpList_store_row (by rfl) 91 (.tmp 10) (.tmp 18) (by rfl) W.heap.size #[.pointer (some ⟨gs,0,none⟩),.int .i64 d] (by rfl) (by rfl) _ _ (heap_alloc_new W _) STr rfl (tr_one _ _) ?_;rw [setRow_alloc]))
  have hb2:Below W.heap.size W (W.alloc (.cells #[.pointer (some ⟨gs,0,none⟩),.int .i64 d] 91)):=(Below.refl _ _).alloc (Nat.le_refl _) _
  have hr2:=heap_alloc_new W (.cells #[.pointer (some ⟨gs,0,none⟩),.int .i64 d] 91)
  generalize W.alloc (.cells #[.pointer (some ⟨gs,0,none⟩),.int .i64 d] 91)=w2 at *
  obtain ⟨bt,hbt⟩:∃bt,bt=W.heap.size:=⟨_,rfl⟩
  rw [← hbt] at hr2 ⊢
  have HBT:=yH (show w.heap.size+2≤bt∧bt<w2.heap.size from ⟨by rw [hbt];exact (yL R1.out),(yL hr2)⟩)
  have T2:=yH hr2
  have R2:=yH (range_tr hr2)
  have RK2:=yH (range_kd ((hb2.block _ (yL R0.out)).trans R0.out))
  have RS2:=yH ((hb2.block _ (yL R1.out)).trans R1.out)
  have B2:=yH (B1.out.trans (hb2.mono B1.out.size))
  clear hb2 hr2 hbt R0 R1 B1
  go_upto_region 3 with (first
   | (refine wpList_load_mid (by rfl) 91 _ (by rfl) bt 0 (by rfl) [.pointer (some ⟨gs,0,none⟩),.int .i64 d] du R2.out HDU.out HDR.out STr ?_)
   | (refine wpList_load_mid (by rfl) 34 _ (by rfl) w.heap.size 0 (by rfl) k.cells dk RK2.out HDK.out HDKR.out (by rw [HCL.out];exact SKd) ?_)
   | (go_at_call 53;refine (HWAY.out w2 B2.out).mono ?_;rintro _ w3 ⟨b3,-,hsm⟩;obtain ⟨q5,c5,A5,bw5,rfl,hws,hlk,hfq⟩:=hsm L s' rfl;have HWS:=yH hws;have HLK:=yH hlk;have HFQ:=yH hfq;have B23:=yH b3;have B3:=yH (B2.out.trans (b3.mono B2.out.size));clear b3 hsm hws hlk hfq))
  obtain ⟨n5,hn5⟩:∃n5,n5=A5.length:=⟨_,rfl⟩
  have HN5:=yH hn5
  have HNL:=yH (show n5=L.length+1 by rw [hn5,HLK.out.length];simp)
  obtain ⟨hgm,hszm⟩:=links_good HLK.out HSTP.out
  have HGM:=yH hgm
  have HN9:=yH (show n5≤901 by have h1:=HLN.out;have h2:=HNL.out;have h3:=HZU.out;rw [List.length_append] at h1;simp at h1;omega)
  have HLV:=yH (show Calls Tryz.prog 54 #[.slice q5 n5 c5] w3 fun e w'=>e= .returned (.bool s'.live)∧w'=w3 from by
   obtain ⟨A0,m,hA,hl0,hlm⟩:=links_last HLK.out
   have hws:=HWS.out
   rw [hn5]
   rw [hA] at hws ⊢
   rw [hlm.live]
   refine live_any hws ?_
   have h1:=HN9.out
   rw [hn5,hA] at h1
   simp at h1
   omega)
  have HST:=yH (show Calls Tryz.prog 55 #[.slice q5 n5 c5] w3 fun e w'=>e= .returned (.tuple #[.int .i64 (hh:Int),.int .i64 sz])∧Below w3.heap.size w3 w' from by
   rw [HHE.out,HSZE.out,hn5]
   exact settle_any HWS.out HLK.out (by have:=HN9.out;omega) hszm HSO.out)
  rw [← hn5]
  clear hn5 hgm hszm HWAY R2 RK2 HSO
  have RS3:=yH ((B23.out.block _ (yL RS2.out)).trans RS2.out)
  have T3:=yH ((B23.out.block _ (yL T2.out)).trans T2.out)
  go_upto_region 5 with fail
  generalize hlv:s'.live=lv at *
  have HLVE:=yH hlv
  clear hlv
  cases lv with
  | true=>
   have hout:=HOUT.out
   rw [if_pos rfl] at hout
   go_wp2_with (first
    | (go_at_call 54;refine HLV.out.mono ?_;rintro _ w4 ⟨rfl,rfl⟩)
    | (refine wpList_build (by rfl) (by rfl) kd0_built ?_)
    | (refine wpList_store_row (by rfl) 34 _ _ (by rfl) (w.heap.size+1) kd0.cells.toArray (by rfl) (by rfl) _ _ RS3.out (by rw [List.size_toArray,kd0_size];exact SKd) rfl (all_oneCell_toArray Kd.one) ?_))
   refine ret_str2 8 9 (by kernel_rfl) (w.heap.size+1) _ kd0.cells.toArray _ HDK.out HDKR.out (by rw [List.size_toArray,kd0_size];exact SKd) (by rfl) (by rfl) (setRow_heap _ _ _ _ _ _ RS3.out) ?_
   rw [← hout]
   exact ⟨rfl,B3.out.trans (Below.setRow (Below.refl _ _) (by omega) _)⟩
  | false=>
   have hout:=HOUT.out
   rw [if_neg Bool.false_ne_true] at hout
   have HOUT2:=yH hout
   clear hout HOUT
   go_upto_region 10 with (first
    | (go_at_call 54;refine HLV.out.mono ?_;rintro _ w4 ⟨rfl,rfl⟩)
    | (go_at_call 55;refine HST.out.mono ?_;rintro _ w4 ⟨rfl,b4⟩;have B34:=yH b4;clear b4))
   have HWS4:=yH (HWS.out.later B34.out)
   have HB4:=yH (B3.out.trans (B34.out.mono B3.out.size))
   have HS4:=yH (show w2.heap.size≤w4.heap.size from Nat.le_trans B23.out.size B34.out.size)
   have HPL4:=yH (HPL.out.keep (fun _=>False) (Only.of_below _ HB4.out) (fun _ _ e=>e))
   have RS4:=yH ((B34.out.block _ (yL RS3.out)).trans RS3.out)
   have T4:=yH ((B34.out.block _ (yL T3.out)).trans T3.out)
   have HQB:=yH (show ∀k,Q k→k<w2.heap.size from fun k hk=>by have:=HQL.out k hk;have:=B2.out.size;omega)
   by_cases hc:hh=n5
   ·have HC:=yH hc
    have hce:((hh:Int)==(n5:Int))=true:=by rw [hc];simp
    have hcp:(hh:Int)=(n5:Int):=by rw [hc]
    have hout:=HOUT2.out
    rw [if_pos (by rw [hc,HNL.out])] at hout
    have HOUT3:=yH hout
    clear hout HOUT2
    have HTURN:=yH (show Calls Tryz.prog 56 #[.agg #[.pointer (some ⟨gs,0,none⟩),.int .i64 d],.slice q5 n5 c5,.bool true] w4 fun e w5=>∃kd:Kd,e= .returned (.agg kd.cells.toArray)∧kd.cells.length=37∧w5.heap[w.heap.size+1]? =some (.cells kd0.cells.toArray 34 (0,0))∧Told2 w gs Q (raiseV L (endV s' true)) (puts s ((endN s' true).bytes::raiseP L (endV s' true))) (.returned (.tuple #[.agg kd.cells.toArray,.int .i64 0])) (w5.setRow (w.heap.size+1) kd.cells.toArray) from by
     obtain ⟨A0,m,hA,hl0,hlm⟩:=links_last HLK.out
     have hws:=HWS4.out
     have hfq:=HFQ.out
     have hgm:=HGM.out
     have h9:=HN9.out
     have hzb:=HZB.out
     rw [HN5.out] at h9 ⊢
     rw [hA] at hws hfq hgm h9 ⊢
     have hN:forkN m.row.R true m.k1.pk m.k2.pk=endN s' true:=by
      unfold endN
      rw [hlm.row,hlm.l,hlm.r]
     have hl9:A0.length≤900:=by simp at h9;omega
     have hmul:A0.length*(u.kid.size.toNat+1)≤900*901:=Nat.mul_le_mul hl9 (by omega)
     have ht:=kturn_any (B:=w2.heap.size) (Z:=u.kid.size.toNat) HDD.out hws HS4.out HQB.out hfq HPL4.out (by have:=HSL.out;omega) (by omega) hgm (by omega) true
     rw [hN] at ht
     refine ht.mono fun e w5 h5=>told_fin h5 ?_ HB4.out ⟨Nat.le_succ _,by have:=HBT.out;omega⟩ HS4.out HQL.out RS4.out
     have hf:=foldR_raise hl0 (endV s' true) (s.put (endN s' true).bytes) A0.length (Nat.le_refl _)
     rw [Nat.sub_self,List.drop_zero] at hf
     exact hf)
    clear HWS4 HPL4 HGM HFQ HLK HWS
    have R4:=yH (range_tr T4.out)
    go_wp2_with (first
     | (refine wpList_load_mid (by rfl) 91 _ (by rfl) bt 0 (by rfl) [.pointer (some ⟨gs,0,none⟩),.int .i64 d] du R4.out HDU.out HDR.out STr ?_)
     | (go_at_call 56;refine HTURN.out.mono ?_;rintro _ w5 ⟨kd,rfl,hl,hbx,htold⟩;have HL5:=yH hl;have HBX:=yH hbx;have HTOLD:=yH htold;clear hl hbx htold)
     | (refine wpList_store_row (by rfl) 34 _ _ (by rfl) (w.heap.size+1) kd.cells.toArray (by rfl) (by rfl) _ _ HBX.out (by rw [List.size_toArray,HL5.out];exact SKd) (by simp only [List.size_toArray,HL5.out,kd0_size]) (all_oneCell_toArray Kd.one) ?_))
    exact ret_str2 8 9 (by kernel_rfl) (w.heap.size+1) _ kd.cells.toArray _ HDK.out HDKR.out (by rw [List.size_toArray,HL5.out];exact SKd) (by rfl) (by rfl) (setRow_heap _ _ _ _ _ _ HBX.out) (by rw [← HOUT3.out];exact HTOLD.out)
   ·have hlt:hh<n5:=by have h1:=HSGE.out;have h2:=HNL.out;omega
    have hne:¬hh=L.length+1:=by rw [← HNL.out];exact hc
    have hce:((hh:Int)==(n5:Int))=false:=by simp;omega
    have hcp:¬(hh:Int)=(n5:Int):=by omega
    have hout:=HOUT2.out
    rw [if_neg hne] at hout
    have HOUT3:=yH hout
    clear hout HOUT2
    obtain ⟨g5,hq5,hc5,hx5⟩:=way_range HWS4.out (fun e=>by have h1:=HN5.out;rw [e] at h1;simp at h1;omega)
    subst hq5
    have HX5:=yH hx5
    have HC5:=yH hc5
    have HG5:=yH (show w2.heap.size≤g5∧g5<w4.heap.size from HWS4.out.own.lt g5 rfl)
    obtain ⟨m,hm⟩:∃m,m=A5.getD hh default:=⟨_,rfl⟩
    obtain ⟨st,hst⟩:∃st,st=(L++[s']).getD hh s':=⟨_,rfl⟩
    rw [← hst] at HOUT3
    have hlkm:Link m st:=by rw [hm,hst];exact links_getD HLK.out hh (by rw [← HN5.out];exact hlt) s'
    have hmA:m∈A5:=by
     rw [hm,List.getD_eq_getElem?_getD,List.getElem?_eq_getElem (by rw [← HN5.out];exact hlt)]
     exact List.getElem_mem _
    have hstm:st∈L++[s']:=by
     rw [hst,List.getD_eq_getElem?_getD,List.getElem?_eq_getElem (by have:=HLK.out.length;rw [← this,← HN5.out];exact hlt)]
     exact List.getElem_mem _
    have hmo:=HWS4.out.way.each m hmA
    have hso:=HSTP.out st hstm
    have HOLD:=yH hso.old
    have HZO:=yH (show st.old.kid.size≤900 from by have h1:=hso.zo;have h2:=HZB.out;omega)
    have HMK:=yH (show w4.rangeAt g5 (hh*41) m.kid.cells from by
     have h1:=hx5 hh (by rw [← HN5.out];exact hlt)
     rw [← hm] at h1
     exact range_kid h1)
    have HML:=yH (Kd.cells_length hmo.kid.len)
    have HROWS:=yH (show ∀x,Below w4.heap.size w4 x→Calls Tryz.prog 57 #[.agg #[.pointer (some ⟨gs,0,none⟩),.int .i64 d],.agg m.kid.cells.toArray] x (RowsPost x st.old) from fun x hx=>rows_any HWT.out st.old m.kid x (HPL4.out.keep (fun _=>False) (Only.of_below _ hx) (fun _ _ e=>e)) HOLD.out (hmo.kid.later hx) hlkm.old.symm (by have:=HZO.out;omega))
    have i1:(0:Int)≤(hh:Int)∧(hh:Int)<(n5:Int):=by omega
    have HLT:=yH hlt
    clear hm hst hlkm hmA hstm hmo hso hx5 hc5
    go_upto_region 12 with fail
    refine wp_region_held_drew (S:=fun w'=>Below w4.heap.size w4 w') (by kernel_rfl) ((Below.refl _ _).drew) (fun hHeld=>?_)
    generalize w4.drew=x0 at *
    refine tQ 0 ?_ ?_ ?_
    rotate_left
    ·intro w' hSw
     refine Eq.trans (b:=Result.ok (Next.value (.agg #[.pointer (some ⟨gs,0,none⟩),.int .i64 d])) w') ?_ ?_
     ·exact op_load_mid 91 (.tmp 10) (by rfl) bt 0 (by rfl) [.pointer (some ⟨gs,0,none⟩),.int .i64 d] du (range_later (range_tr T4.out) hSw) HDU.out HDR.out STr
     ·with_reducible rfl
    refine tK 1 ?_
    refine tK 2 ?_
    refine tK 3 ?_
    refine tK 4 ?_
    refine tQ 5 ?_ ?_ ?_
    rotate_left
    ·intro w' hSw
     refine Eq.trans (b:=Result.ok (Next.value (.agg m.kid.cells.toArray)) w') ?_ ?_
     ·exact op_load_mid 34 (.tmp 53) (by rfl) g5 (hh*41) (by rfl) m.kid.cells dk (range_later HMK.out hSw) HDK.out HDKR.out (by rw [HML.out];exact SKd)
     ·with_reducible rfl
    refine rY [6] ?_
    refine rC (fun K hK=>?_) AllReadyH.nil
    go_simp
    refine (HROWS.out x0 hHeld).mono ?_
    rintro _ x1 ⟨err,q6,c6,O,rfl,ho6,hok6,hw1,hw2,hlen6,hb6⟩
    have HO6:=yH ho6
    have HOK6:=yH hok6
    have HW1:=yH hw1
    have HW2:=yH hw2
    have HL6:=yH hlen6
    have HB6:=yH hb6
    have HX0:=yH hHeld
    have hS1:=hHeld.trans (hb6.mono hHeld.size)
    clear ho6 hok6 hw1 hw2 hlen6 hb6
    try go_wp2_with fail
    refine hK.out _ _ hS1 (fun hHeld=>?_)
    clear hK K
    try simp only [Act.put,yA,yB,yC]
    refine tK 7 ?_
    refine tK 8 ?_
    refine tK 9 ?_
    refine tK 10 ?_
    refine tK 11 ?_
    refine wpAnyH_done (by kernel_rfl) ?_ _
    have HX1:=yH hHeld
    clear hHeld
    have RS5:=yH ((HX1.out.block _ (yL RS4.out)).trans RS4.out)
    have T5:=yH ((HX1.out.block _ (yL T4.out)).trans T4.out)
    cases hwh:st.old.whole with
    | false=>
     have herr:err=21:=HW2.out hwh
     subst herr
     have hout:=HOUT3.out
     rw [hwh,if_neg Bool.false_ne_true] at hout
     have HOUT4:=yH hout
     clear hout HOUT3 hwh
     go_wp2_with (first
      | (refine wpList_build (by rfl) (by rfl) kd0_built ?_)
      | (refine wpList_store_row (by rfl) 34 _ _ (by rfl) (w.heap.size+1) kd0.cells.toArray (by rfl) (by rfl) _ _ RS5.out (by rw [List.size_toArray,kd0_size];exact SKd) rfl (all_oneCell_toArray Kd.one) ?_))
     refine ret_str2 8 9 (by kernel_rfl) (w.heap.size+1) _ kd0.cells.toArray _ HDK.out HDKR.out (by rw [List.size_toArray,kd0_size];exact SKd) (by rfl) (by rfl) (setRow_heap _ _ _ _ _ _ RS5.out) ?_
     rw [← HOUT4.out]
     exact ⟨rfl,(HB4.out.trans (HX1.out.mono HB4.out.size)).trans (Below.setRow (Below.refl _ _) (by omega) _)⟩
    | true=>
     obtain ⟨herr,hare⟩:=HW1.out hwh
     subst herr
     have hout:=HOUT3.out
     rw [hwh,if_pos rfl] at hout
     have HOUT4:=yH hout
     have HARE:=yH hare
     clear hout HOUT3 hwh hare
     go_upto_region 15 with fail
     have HY0:=yH (show Below x1.heap.size x1 x1.drew from (Below.refl _ _).drew)
     have TY0:=yH (show x1.drew.heap[bt]? =some (.cells #[.pointer (some ⟨gs,0,none⟩),.int .i64 d] 91 (0,0)) from T5.out)
     refine wp_region_held_drew (S:=fun w'=>w'.heap[bt]? =some (.cells #[.pointer (some ⟨gs,0,none⟩),.int .i64 d] 91 (0,0))) (by kernel_rfl) (TY0.out) (fun hHeld=>?_)
     generalize x1.drew=y0 at *
     have HXY:=yH (HX1.out.trans (HY0.out.mono HX1.out.size))
     have HOY:=yH (show y0.ownsRow x0.heap.size 24 1 (.slice q6 O.length c6) O.length (hds O) from ⟨HO6.out.1,HO6.out.2.imp id (by
      rintro ⟨g,cap,cur,hv,hg,hh',e⟩
      exact ⟨g,cap,cur,hv,hg,(HY0.out.block _ (yL hh')).trans hh',e⟩)⟩)
     have HPY:=yH (HPL4.out.keep (fun _=>False) (Only.of_below _ HXY.out) (fun _ _ e=>e))
     have HSXY:=yH (show w4.heap.size≤x0.heap.size∧x0.heap.size≤x1.heap.size∧x1.heap.size≤y0.heap.size from ⟨HX0.out.size,HB6.out.size,HY0.out.size⟩)
     have HRY:=yH (HRO.out.later (HB4.out.trans (HXY.out.mono HB4.out.size)))
     have HOO:=yH (show ∀x∈O++[(⟨rp,rn,rc,rR⟩:Rw)],x.Ok y0∧x.n=d∧∀y,x.p=some y→x.R≠[]→(Value.slice q6 O.length c6).ownBlock≠some y.block∧¬Q y.block from fun x hx=>by
      rcases List.mem_append.1 hx with hx | hx
      ·obtain ⟨h1,h2⟩:=HOK6.out x hx
       refine ⟨h1.later HY0.out,?_,fun y hy hR=>⟨(h2 y hy hR).1,fun e=>by have:=HQB.out _ e;have:=(h2 y hy hR).2;have:=HSXY.out.1;have:=HS4.out;omega⟩⟩
       have hl:x.R.length=d:=sees_dims HOLD.out x.R (by rw [← HARE.out];exact List.mem_map_of_mem hx)
       have:=h1.ints.size
       omega
      ·rw [List.mem_singleton.1 hx]
       refine ⟨HRY.out,HRD.out,fun y hy hR=>⟨fun e=>?_,HRA.out y hy hR⟩⟩
       have h1:=(HOY.out.lt _ e).1
       have h2:=rw_lt HRO.out y hy hR
       have h3:=HSXY.out.1
       have h4:=HB4.out.size
       omega)
     have hlen9:O.length≤900:=by have h1:=HL6.out;have h2:=HZO.out;omega
     have HLEN:=yH hlen9
     have hhc:hh≤c5:=by have h1:=HC5.out;rw [← HN5.out] at h1;have:=HLT.out;omega
     clear hlen9
     have HNEXT:=yH (show ∀(y2:World) (g7 c7:Nat) (y3:World) (kd1:Kd) (Q1:Nat→Prop),AppR x0.heap.size gs d Q s y0 (.slice q6 O.length c6) (O++[(⟨rp,rn,rc,rR⟩:Rw)]) g7 c7 y2→kd1.pk=(lay ((O++[(⟨rp,rn,rc,rR⟩:Rw)]).map Rw.R) hh).kid→kd1.Ok y3→Fsh y2 kd1→Aw Q1 kd1→LayR y2 y3 gs Q Q1 (puts s (lay ((O++[(⟨rp,rn,rc,rR⟩:Rw)]).map Rw.R) hh).pages) g7 0 (O++[(⟨rp,rn,rc,rR⟩:Rw)]).length→
       Calls Tryz.prog 58 #[.agg #[.pointer (some ⟨gs,0,none⟩),.int .i64 d],.slice (some ⟨g5,0,none⟩) hh c5,.agg kd1.cells.toArray] y3 fun e y4=>∃kd:Kd,e= .returned (.agg kd.cells.toArray)∧kd.cells.length=37∧y4.heap[w.heap.size+1]? =some (.cells kd0.cells.toArray 34 (0,0))∧y4.heap[bt]? =some (.cells #[.pointer (some ⟨gs,0,none⟩),.int .i64 d] 91 (0,0))∧ChgPost w gs Q s OUT (.returned (.tuple #[.agg kd.cells.toArray,.int .i64 0])) (y4.setRow (w.heap.size+1) kd.cells.toArray) from fun y2 g7 c7 y3 kd1 Q1 hap e1 e2 e3 e4 e5=>by
      have hrows:(O++[(⟨rp,rn,rc,rR⟩:Rw)]).map Rw.R=st.old.rows++[rR]:=by rw [List.map_append,HARE.out];rfl
      rw [hrows] at e1 e5
      obtain ⟨t,ht⟩:∃t,t=lay (st.old.rows++[rR]) hh:=⟨_,rfl⟩
      have hO9:=HLEN.out
      have hdim:t.dims d:=by
       rw [ht]
       refine lay_dims fun x hx=>?_
       rcases List.mem_append.1 hx with hx | hx
       ·exact sees_dims HOLD.out x hx
       ·rw [List.mem_singleton.1 hx];exact HRR.out
      have htz:t.size=O.length+1:=by
       rw [ht,lay_size,← hrows]
       simp
      have hout:=HOUT4.out
      rw [← ht] at e1 e5 hout
      have hkr:=kid_right HDD.out t hdim
      have hks:=kid_size t (by omega)
      have hpl:=pages_length t
      have hsx:=HSXY.out
      have hap2:=hap.only.size
      have hlr:=e5.only.size
      have hgh:g7=g7:=rfl
      have hon:Only Q w4 y3:=by
       have a1:=HXY.out
       have a2:=hap.only
       have a3:=e5.only
       refine ⟨a3.os.trans (a2.os.trans a1.os),a3.tape.trans (a2.tape.trans a1.tape),a3.output.trans (a2.output.trans a1.output),by omega,fun k hk hn=>?_⟩
       have hg7:k≠g7:=fun e=>by have:=hap.low;omega
       rw [a3.block k (by omega) (fun e=>e.elim hn hg7),a2.block k (by omega) (fun e=>by have:=(HOY.out.lt k e).1;omega)]
       exact a1.block k hk
      have htk:(A5.take hh).length=hh:=by rw [List.length_take,← HN5.out];have:=HLT.out;omega
      have hmul:hh*(u.kid.size.toNat+1)≤900*901:=Nat.mul_le_mul (by have h1:=HLT.out;have h2:=HN9.out;omega) (by have:=HZB.out;omega)
      have hpw:=puts_few t.pages s
      have hr:=raise_next (B:=w2.heap.size) (gs:=gs) (d:=d) (Z:=u.kid.size.toNat) (g:=g5) (w:=w4) (x:=y3) (q:=some ⟨g5,0,none⟩) (c:=c5) (A:=A5.take hh) (Q:=Q) (Q1:=Q1) (s1:=puts s t.pages) (kd:=kd1) HDD.out HS4.out HQB.out
       (fun _=>⟨rfl,by rw [htk];exact hhc,HG5.out.2,HG5.out.1,fun i hi=>by
        rw [htk] at hi
        have h1:=HX5.out i (by rw [← HN5.out];have:=HLT.out;omega)
        rw [show (A5.take hh).getD i default=A5.getD i default from by rw [List.getD_eq_getElem?_getD,List.getD_eq_getElem?_getD,List.getElem?_take_of_lt hi]]
        exact h1⟩)
       (HWS4.out.way.take hh) (fun a ha k hk=>⟨fun e=>(HWS4.out.aside a (List.mem_of_mem_take ha) k hk).2 (by rw [e];rfl),HFQ.out a (List.mem_of_mem_take ha) k hk⟩) hon (by rw [htk];have h1:=HLT.out;have h2:=HN9.out;omega) e2 (fun r hr x hx hR=>by have:=e3 r hr x hx hR;omega) e4 e5.st (fun k hk=>(e5.new k hk).imp id (fun e=>by omega)) (puts_ne (fun e=>by rw [e] at hpl;simp at hpl;omega)) (by rw [htk];have h1:=HLT.out;have h2:=HN9.out;have h3:=HSL.out;omega)
       ⟨by rw [e1];exact hkr.1,by rw [e1];exact hkr.2,by rw [e1,hks];omega⟩ (fun a ha=>HGM.out a (List.mem_of_mem_take ha)) (by rw [e1,hks,htk];omega)
      rw [htk,e1] at hr
      refine hr.mono fun e y4 h4=>?_
      have hof:=of_kid (u:=t) (by omega)
      have hf:=foldR_raise (HLK.out.take hh) (V.of t) (puts s t.pages) (A5.take hh).length (Nat.le_refl _)
      rw [Nat.sub_self,List.drop_zero,htk,hof,← puts_append] at hf
      have ho4:∃(kd:Kd) (Q2:Nat→Prop),e= .returned (.agg kd.cells.toArray)∧Only (fun k=>Q k∨w2.heap.size≤k) w4 y4:=by
       obtain ⟨kd,Q',h1,_,_,_,_,_,_,h8⟩:=h4
       exact ⟨kd,Q',h1,h8⟩
      obtain ⟨_,_,_,ho4⟩:=ho4
      have hbt:=HBT.out
      obtain ⟨kd,g1,g2,g3,g4⟩:=told_fin h4 hf HB4.out (b:=w.heap.size+1) ⟨Nat.le_succ _,by omega⟩ HS4.out HQL.out RS4.out
      refine ⟨kd,g1,g2,g3,(ho4.block bt (yL T4.out) (fun e=>e.elim (fun e=>by have:=HQL.out bt e;omega) (fun e=>by omega))).trans T4.out,?_⟩
      rw [← hout]
      exact g4)
     refine tQ 0 ?_ ?_ ?_
     rotate_left
     ·intro w' hSw
      refine Eq.trans (b:=Result.ok (Next.value (.agg #[.pointer (some ⟨gs,0,none⟩),.int .i64 d])) w') ?_ ?_
      ·exact op_load_mid 91 (.tmp 10) (by rfl) bt 0 (by rfl) [.pointer (some ⟨gs,0,none⟩),.int .i64 d] du (range_tr hSw) HDU.out HDR.out STr
      ·with_reducible rfl
     refine tK 1 ?_
     refine tK 2 ?_
     refine tQ 3 ?_ ?_ ?_
     rotate_left
     ·intro w' hSw
      refine Eq.trans (b:=Result.ok (Next.value (.slice (some ⟨g5,0,none⟩) hh c5)) w') ?_ ?_
      ·exact op_headW (x:=.tmp 63) (hi:=.tmp 64) (n:=n5) (c:=c5) (k:=hh) (g:=g5) (i:=0) (by rfl) (by rfl) (by rfl) hhc
      ·with_reducible rfl
     refine tQ 4 ?_ ?_ ?_
     rotate_left
     ·intro w' hSw
      refine Eq.trans (b:=Result.ok (Next.value (.agg #[.pointer (some ⟨gs,0,none⟩),.int .i64 d])) w') ?_ ?_
      ·exact op_load_mid 91 (.tmp 10) (by rfl) bt 0 (by rfl) [.pointer (some ⟨gs,0,none⟩),.int .i64 d] du (range_tr hSw) HDU.out HDR.out STr
      ·with_reducible rfl
     refine tK 5 ?_
     refine tK 6 ?_
     refine tK 9 ?_
     refine rY [7] ?_
     refine rC (fun K hK=>?_) AllReadyH.nil
     refine wp_row_one (.tmp 68) (by rfl) (by rfl) ?_
     have hS1:(y0.alloc (.cells #[.slice rp rn rc] 24)).heap[bt]? =some (.cells #[.pointer (some ⟨gs,0,none⟩),.int .i64 d] 91 (0,0)):=(((Below.refl y0.heap.size y0).alloc (Nat.le_refl _) (.cells #[.slice rp rn rc] 24)).block _ (yL hHeld)).trans hHeld
     have TY1:=yH hHeld
     refine hK.out _ _ hS1 (fun hHeld=>?_)
     clear hK K
     try simp only [Act.put,yA,yB,yC]
     refine rY [8] ?_
     refine rC (fun K hK=>?_) AllReadyH.nil
     refine app_row (r:=(⟨rp,rn,rc,rR⟩:Rw)) HOY.out (by have:=HSXY.out;omega) HOO.out (fun k hk=>by have:=HQB.out k hk;have:=HSXY.out.1;have:=HS4.out;omega) HPY.out (.tmp 67) (.tmp 69) (by rfl) (by rfl) (by rfl) (by have:=HLEN.out;omega) ?_
     intro g7 c7 y2 hap
     have HAP:=yH hap
     have hS2:y2.heap[bt]? =some (.cells #[.pointer (some ⟨gs,0,none⟩),.int .i64 d] 91 (0,0)):=(hap.only.block bt (yL TY1.out) (fun e=>by have h1:=(HOY.out.lt bt e).1;have h2:=HSXY.out.1;have h3:=HS4.out;have h4:=HBT.out.2;omega)).trans TY1.out
     have HLAY:=yH (show Calls Tryz.prog 59 #[.agg #[.pointer (some ⟨gs,0,none⟩),.int .i64 d],.slice (some ⟨g7,0,none⟩) (O.length+1) c7,.int .i64 (hh:Int)] y2 (LaidPost y2 gs Q s g7 0 (O++[(⟨rp,rn,rc,rR⟩:Rw)]) hh) from by
      have hl:(O++[(⟨rp,rn,rc,rR⟩:Rw)]).length=O.length+1:=by simp
      have h:=lay_any HDD.out (O.length+1) (O++[(⟨rp,rn,rc,rR⟩:Rw)]) (some ⟨g7,0,none⟩) c7 hh g7 0 y2 Q s (Nat.le_of_eq hl) (fun _=>rfl) hap.cap hap.seg hap.ok hap.st hap.lt hap.notq (by rw [hl];have:=HSL.out;have:=HLEN.out;omega) (by rw [hl];have:=HLT.out;have:=HN9.out;have:=HLEN.out;omega)
      rw [hl] at h
      exact h)
     clear hap
     refine hK.out _ _ hS2 (fun hHeld=>?_)
     clear hK K
     try simp only [Act.put,yA,yB,yC]
     refine rY [10] ?_
     refine rC (fun K hK=>?_) AllReadyH.nil
     go_simp
     refine HLAY.out.mono ?_
     rintro _ y3 ⟨kd1,Q1,rfl,hpk,hok,hfs,haw,hlr⟩
     have hS3:y3.heap[bt]? =some (.cells #[.pointer (some ⟨gs,0,none⟩),.int .i64 d] 91 (0,0)):=(hlr.only.block bt (yL hHeld) (fun e=>by
      have h1:=HBT.out
      have h2:=HAP.out.low
      have h3:=HSXY.out.1
      have h4:=HS4.out
      rcases e with e | e
      ·have:=HQL.out bt e;have:=HB4.out.size;omega
      ·omega)).trans hHeld
     have HRS:=yH (HNEXT.out y2 g7 c7 y3 kd1 Q1 HAP.out hpk hok hfs haw hlr)
     clear hpk hok hfs haw hlr
     try go_wp2_with fail
     refine hK.out _ _ hS3 (fun hHeld=>?_)
     clear hK K
     try simp only [Act.put,yA,yB,yC]
     refine rY [11] ?_
     refine rC (fun K hK=>?_) AllReadyH.nil
     go_simp
     refine HRS.out.mono ?_
     rintro _ y4 ⟨kd,rfl,hl,hbx,hS4,htold⟩
     have HL8:=yH hl
     have HBX:=yH hbx
     have HTOLD:=yH htold
     clear hl hbx htold
     try go_wp2_with fail
     refine hK.out _ _ hS4 (fun hHeld=>?_)
     clear hK K
     try simp only [Act.put,yA,yB,yC]
     refine rY [12] ?_
     refine rC (fun K hK=>?_) AllReadyH.nil
     refine wp_store_row 34 (.tmp 8) (.tmp 73) (by rfl) (w.heap.size+1) kd.cells.toArray (by rfl) (by rfl) _ _ HBX.out (by rw [List.size_toArray,HL8.out];exact SKd) (by simp only [List.size_toArray,HL8.out,kd0_size]) (all_oneCell_toArray Kd.one) ?_
     have hS5:(y4.setRow (w.heap.size+1) kd.cells.toArray).heap[bt]? =some (.cells #[.pointer (some ⟨gs,0,none⟩),.int .i64 d] 91 (0,0)):=(setRow_other _ _ _ _ (by have:=HBT.out.1;omega)).trans hHeld
     refine hK.out _ _ hS5 (fun hHeld=>?_)
     clear hK K
     try simp only [Act.put,yA,yB,yC]
     refine tK 13 ?_
     refine wpAnyH_done (by kernel_rfl) ?_ _
     go_wp2_with fail
     exact ret_str2 8 9 (by kernel_rfl) (w.heap.size+1) _ kd.cells.toArray _ HDK.out HDKR.out (by rw [List.size_toArray,HL8.out];exact SKd) (by rfl) (by rfl) (setRow_heap _ _ _ _ _ _ HBX.out) HTOLD.out
end Go.Proofs.YtinihaflmdihaaaGreat.Kt
namespace Go.Proofs.YtinihaflmdihaaaGreat.Kt
open Go.Proofs Go.Shelf
def delRen:Go.Shelf.Ren:=⟨fun | 6=>111 | 10=>62 | n=>n,fun | 0=>0 | 3=>3 | 4=>4 | 22=>51 | 23=>24 | 25=>109 | n=>n,fun n=>n⟩
theorem delLays:SlLaysH.n10 Tryz.prog delRen where
 mixed:=by kernel_rfl
 f6:=⟨Tryz.f111.name,by kernel_rfl,Tryz.func111.trans (congrArg some (by kernel_rfl))⟩
 f10:=⟨Tryz.f62.name,by kernel_rfl,Tryz.func62.trans (congrArg some (by kernel_rfl))⟩
 t0:=Tryz.underlying0
 a0:=Tryz.isAgg0
 z0:=Tryz.sizeOf0
 v0:=Tryz.zeroValue0
 t3:=Tryz.underlying3
 a3:=Tryz.isAgg3
 z3:=Tryz.sizeOf3
 v3:=Tryz.zeroValue3
 t4:=Tryz.underlying4
 a4:=Tryz.isAgg4
 z4:=Tryz.sizeOf4
 v4:=Tryz.zeroValue4
 t22:=Tryz.underlying51
 a22:=Tryz.isAgg51
 z22:=Tryz.sizeOf51
 v22:=Tryz.zeroValue51
 a23:=Tryz.isAgg24
 z23:=Tryz.sizeOf24
 t25:=Tryz.underlying109
 a25:=Tryz.isAgg109
 z25:=Tryz.sizeOf109
 v25:=Tryz.zeroValue109
end Go.Proofs.YtinihaflmdihaaaGreat.Kt
namespace Go.Proofs.YtinihaflmdihaaaGreat.Kt
open Go.Proofs Go.RowKit Go.Sort Go.Shelf Go.Proofs.YtinihaflmdihaaaGreat.Nd
theorem delete1_any (r p:Rw) (gp:Nat) (w:World) (hr:r.Ok w) (hp:p.Ok w) (hb:w.cell? ⟨gp,0,none⟩=some p.val):
  Calls Tryz.prog 63 #[r.val,.pointer (some ⟨gp,0,none⟩)] w fun e w'=>e= .returned (.bool (decide (r.R=p.R)))∧∃j,w'=w.drewN j:=by
 have HE:=yH (sleq_any r.p p.p r.n r.c p.n p.c r.R p.R w hr.ints hp.ints hr.top)
 obtain ⟨rp,rn,rc,rR⟩:=r
 obtain ⟨pp,pn,pc,pR⟩:=p
 unfold Rw.val at hb ⊢
 simp only at hb HE ⊢
 clear hr hp
 generalize decide (rR=pR)=b at *
 go_enter Tryz.func63,Tryz.ntmps63
 go_wp2_with (go_at_call 64;refine HE.out.mono ?_;rintro _ w2 ⟨rfl,j,hj⟩;have HJ:=yH hj;clear hj)
 go_ret
 exact ⟨rfl,j,HJ.out⟩
abbrev RwZ (w:World) (g:Nat):={r:Rw//r.Ok w∧Away g r}
section
variable {w:World} {g:Nat}
def encZ (x:RwZ w g):Value:=x.1.val
theorem encZ_one:OneCell (encZ (w:=w) (g:=g)):=fun _=>rfl
def rwz0:RwZ w g:=⟨⟨none,0,0,[]⟩,rw0_ok w,fun x hx=>by cases hx⟩
instance:Inhabited (RwZ w g):=⟨rwz0⟩
end
theorem pred_at (g gp:Nat) (p:Rw) (w:World) (hp:p.Ok w) (hb:w.cell? ⟨gp,0,none⟩=some p.val):PredAt Tryz.prog 63 #[.pointer (some ⟨gp,0,none⟩)] (encZ (w:=w) (g:=g)) (fun x=>decide (x.1.R=p.R)) w:=fun W x hW=>
 delete1_any x.1 p gp W (x.2.1.later hW) (hp.later hW) ((hW.cell (block_lt_of_cell hb)).trans hb)
theorem pred_over (g o n gp:Nat) (p:Rw) (w:World) (hp:p.Ok w) (hpa:Away g p) (hb:w.cell? ⟨gp,0,none⟩=some p.val) (hne:gp≠g):PredOver Tryz.prog 63 #[.pointer (some ⟨gp,0,none⟩)] (encZ (w:=w) (g:=g)) (fun x=>decide (x.1.R=p.R)) g o n w:=fun m os dk x _=>by
 have key:∀r:Rw,r.Ok w→Away g r→r.Ok (sortWorld encZ w g o m dk os):=fun r h1 h2=>Nd.rw_keep h1 fun z hz hR=>sortWorld_only.block _ (rw_lt h1 z hz hR) (h2 z hz hR)
 exact delete1_any x.1 p gp _ (key _ x.2.1 x.2.2) (key _ hp hpa) ((sortWorld_turned.cell _ (Or.inl hne) (block_lt_of_cell hb)).trans hb)
theorem rowsZero:∀w,(zeroValue 24).run Tryz.prog w= .ok (.slice none 0 0) w:=Tryz.zeroValue24
theorem deletef_any (g o c gp:Nat) (L:List Rw) (p:Rw) (w:World) (hS:Seg w g o L) (hok:∀r∈L,r.Ok w∧Away g r) (hp:p.Ok w) (hpa:Away g p) (hb:w.cell? ⟨gp,0,none⟩=some p.val) (hne:gp≠g) (hc:L.length≤c) (hn:L.length≤1000000000):
  Calls Tryz.prog 62 #[.slice (some ⟨g,o,none⟩) L.length c,.func (.func 63) #[] #[.pointer (some ⟨gp,0,none⟩)]] w fun e w'=>e= .returned (.slice (some ⟨g,o,none⟩) (L.filter fun r=> !decide (r.R=p.R)).length c)∧Seg w' g o (L.filter fun r=> !decide (r.R=p.R))∧Dk.Only (fun k=>k=g) w w':=by
 obtain ⟨D,hD⟩:∃D:Array (RwZ w g),D.toList.map (·.1)=L:=⟨(L.attach.map fun r=>(⟨r.1,hok r.1 r.2⟩:RwZ w g)).toArray,by rw [List.toList_toArray];exact attach_fst hok⟩
 have hsz:D.size=L.length:=by rw [← hD];simp
 have hH:Holds encZ w g o D:=fun j hj=>by
  have h:=hS j (by omega)
  unfold encZ
  rw [getD_fst D j hj,hD]
  exact h
 have hfil:(D.toList.filter fun x=> !decide (x.1.R=p.R)).map (·.1)=L.filter fun r=> !decide (r.R=p.R):=by
  rw [← hD,List.filter_map]
  rfl
 have hfl:(D.toList.filter fun x=> !decide (x.1.R=p.R)).length=(L.filter fun r=> !decide (r.R=p.R)).length:=by rw [← hfil,List.length_map]
 have h:=AnyE.slices_DeleteFunc (P:=Tryz.prog) delLays encZ encZ_one (fun x=>decide (x.1.R=p.R)) 63 #[.pointer (some ⟨gp,0,none⟩)] (enters_of Tryz.func63 (by kernel_rfl) rfl) (rwz0:RwZ w g) rowsZero g o c D w (pred_at g gp p w hp hb) (pred_over g o D.size gp p w hp hpa hb hne) hH (by omega) (by omega)
 rw [hsz,hfl] at h
 refine Calls.mono h ?_
 rintro e w' ⟨he,q,hw⟩
 obtain ⟨arr,harr⟩:∃arr,arr=((D.toList.filter fun x=> !decide (x.1.R=p.R))++List.replicate (L.length - (L.filter fun r=> !decide (r.R=p.R)).length) (rwz0:RwZ w g)).toArray:=⟨_,rfl⟩
 rw [← harr] at hw
 have hle:=List.length_filter_le (fun r:Rw=> !decide (r.R=p.R)) L
 have hsa:arr.size=D.size:=by
  rw [harr,List.size_toArray,List.length_append,List.length_replicate,hfl,hsz]
  omega
 have hws:w'=sortWorld encZ w g o q arr #[]:=by
  rw [hw]
  unfold sortWorld
  rw [grow_empty]
 refine ⟨he,fun j hj=>?_,by rw [hws];exact sortWorld_only⟩
 have hj2:j<arr.size:=by omega
 obtain ⟨h1,h2⟩:=holds_putRow encZ _ g o D arr (holds_ahead encZ w q g o D hH) hsa j hj2
 rw [hw]
 refine ⟨h1.trans ?_,h2⟩
 unfold encZ
 rw [getD_fst arr j hj2,harr,List.toList_toArray,List.map_append,hfil]
 rw [List.getD_eq_getElem?_getD,List.getElem?_append_left hj,← List.getD_eq_getElem?_getD]
end Go.Proofs.YtinihaflmdihaaaGreat.Kt
