/- KdEachV, KtWayM, KdClone. -/
import Derived.LoopN
import Derived.Lib.SliceRun
import Derived.Test.YtinihaflmdihaaaGreatK22
set_option maxRecDepth 100000
set_option maxHeartbeats 8000000
set_option linter.all false
namespace Go.Proofs.YtinihaflmdihaaaGreat.Kt
open Go.RowKit Go.Proofs.YtinihaflmdihaaaGreat.Nd Go.Proofs.YtinihaflmdihaaaGreat.Dk Go.Proofs.YtinihaflmdihaaaGreat.Pg
open List renaming setIfInBounds_toArray → yA, set_cons_zero → yB, set_cons_succ → yC
abbrev Ent:=List Int×Bool×Nat
def V.ents:V→Nat→List Ent
 | .nil,_=>[]
 | .bad _,_=>[]
 | .fork p v l r,t=>(p,v,t)::(l.ents (t+1)++r.ents (t+1))
structure DoOk (B:Nat) (F:Nat) (cap:Array Value) (I:(Nat→Prop)→List Ent→World→Prop):Prop where
 lt:∀X L w,I X L w→∀k,X k→k<w.heap.size
 later:∀X L w w',I X L w→Below w.heap.size w w'→I X L w'
 run:∀X L w (r:Rw) (v:Bool) (t:Nat),I X L w→r.Ok w→(∀x,r.p=some x→r.R≠[]→¬X x.block∧B≤x.block)→t≤1000000000→L.length≤100000→
  Calls Tryz.prog F (#[.agg #[r.val,.bool v],.int .i64 t]++cap) w fun e w'=>e= .returned (.tuple #[])∧∃X',I X' (L++[(r.R,v,t)]) w'∧(∀k,X' k→X k∨w.heap.size≤k)∧Only X w w'
def EachPost (w:World) (I:(Nat→Prop)→List Ent→World→Prop) (X:Nat→Prop) (L:List Ent) (u:V) (t:Nat) (e:Ending) (w':World):Prop:=
 ∃(err:Int) (M:List Ent) (X':Nat→Prop),e= .returned (.int .i64 err)∧I X' (L++M) w'∧(∀k,X' k→X k∨w.heap.size≤k)∧Only X w w'∧(u.whole=true→err=0∧M=u.ents t)∧(u.whole=false→err=21)∧(M.length:Int)≤u.kid.size
theorem getSays_nil {gs:Nat} {d:Int} {k:Kd} {ga oa:Nat} {w:World} (hk:k.Ok w) (hr:w.rangeAt ga oa k.cells) (he:k.pk=PK.none):GetSays (some ⟨gs,0,none⟩) d ga oa 0 w:=fun _ hb=>kget_empty _ d k ga oa _ (hk.later hb) (range_later hr hb) he
theorem NodeBad.later {gs:Nat} {k:Kd} {d:Int} {w w':World} (h:NodeBad gs k d w) (hb:Below w.heap.size w w'):NodeBad gs k d w':=fun w2 h2=>h w2 (hb.trans (h2.mono hb.size))
theorem NodeGood.later {gs:Nat} {k:Kd} {d:Int} {N:PN} {w w':World} (h:NodeGood gs k d N w) (hb:Below w.heap.size w w'):NodeGood gs k d N w':=fun w2 h2=>h w2 (hb.trans (h2.mono hb.size))
theorem getSays_bad {gs:Nat} {d:Int} {k:Kd} {ga oa:Nat} {w:World} (hk:k.Ok w) (hr:w.rangeAt ga oa k.cells) (he:k.pk≠PK.none) (hg:NodeBad gs k d w):GetSays (some ⟨gs,0,none⟩) d ga oa 21 w:=fun _ hb=>kget_bad k ga oa _ (hk.later hb) (range_later hr hb) he (hg.later hb)
def TextsK (d:Nat) (W:Pages):Prop:=∀x∈W,∃N,Txt d x.2 N
theorem Forks.texts {d:Nat} {W:Pages} (h:Forks d W):TextsK d W:=fun x hx=>by
 obtain ⟨N,hN,_⟩:=h x hx
 exact ⟨N,hN⟩
theorem says_some {N:PN} (h:1≤N.size):N.says≠PK.none:=fun e=>by
 have:N.size=0:=congrArg PK.size e
 omega
theorem node_bad {gs d:Nat} {Q:Nat→Prop} {s:Pg.S} {k:Kd} {w:World} (hp:PL w gs Q s) (hW:TextsK d s.W) (hk:k.Ok w) (hs:Sees s.W d (.bad k.pk)):NodeBad gs k d w:=by
 obtain ⟨h1,h2,h3,h4⟩:=hs
 cases ht:textAt s.W k.sum with
 | none=>exact nodeBad_none hp hk ht
 | some t=>
  obtain ⟨N,hN⟩:∃N,Txt d t N:=by
   unfold textAt at ht
   split at ht
   ·rename_i hi
    have:=hW _ (Pg.getD_mem hi)
    rw [Option.some.inj ht] at this
    exact this
   ·cases ht
  exact nodeBad_txt hp hk ht hN (h4 t N ht hN)
theorem node_good {gs d:Nat} {Q:Nat→Prop} {s:Pg.S} {k:Kd} {w:World} {p:List Int} {v:Bool} {l r:V} (hp:PL w gs Q s) (hk:k.Ok w) (he:k.pk=(V.fork p v l r).kid) (hs:Sees s.W d (.fork p v l r)):NodeGood gs k d (forkN p v l.kid r.kid) w:=by
 obtain ⟨h1,h2,h3,h4⟩:=hs
 refine nodeGood_txt hp hk ?_ h1 he.symm
 rw [← h2]
 exact congrArg (textAt s.W) (congrArg PK.sum he)
theorem sees_size {d:Nat} {W:Pages} {u:V} (h:Sees W d u):0≤u.kid.size:=(kid_zero (sees_right h).1).1
theorem fork_kids {E:List En} {KK:List Kd} {p:List Int} {v:Bool} {a b:PK} (h:pnOf 1 E KK=forkN p v a b):∃e k1 k2,E=[e]∧KK=[k1,k2]∧e.row.R=p∧e.live=v∧k1.pk=a∧k2.pk=b:=by
 unfold pnOf forkN at h
 simp only [PN.mk.injEq] at h
 obtain ⟨_,h1,h2⟩:=h
 match E,KK,h1,h2 with
 |[e],[k1,k2],h1,h2=>
  simp only [List.map_cons,List.map_nil,List.cons.injEq,and_true] at h1 h2
  exact ⟨e,k1,k2,rfl,rfl,congrArg PE.row h1,congrArg PE.live h1,h2.1,h2.2⟩
 |[],_,h1,_=>simp at h1
 | _::_::_,_,h1,_=>simp at h1
 |[_],[],_,h2=>simp at h2
 |[_],[_],_,h2=>simp at h2
 |[_],_::_::_::_,_,h2=>simp at h2
theorem fresh_parts {B mid:Nat} {w:World} {p:Option Addr} {n c:Nat} {q:Option Addr} {m f:Nat} {e:En} {k1 k2:Kd} (h:Fresh B mid w p n c q m f [e] [k1,k2]):n=1∧m=2∧∃ge gk,p=some ⟨ge,0,none⟩∧q=some ⟨gk,0,none⟩∧w.rangeAt ge 0 [e.row.val,.bool e.live]∧w.rangeAt gk 0 k1.cells∧w.rangeAt gk 37 k2.cells∧e.row.Ok w∧k1.Ok w∧k2.Ok w∧B≤ge∧mid≤gk:=by
 have hn:n=1:=h.ents.len
 have hm:m=2:=h.kids.lst.len
 subst hn hm
 have hE:=h.ents_in (by decide)
 have hK:=h.kids_in (by decide)
 obtain ⟨ge,hge,he⟩:=(h.ents.range (fun e _=>rfl)).resolve_left (by simp)
 obtain ⟨gk,hgk,hk⟩:=(h.kids.lst.range (fun k hk=>Kd.cells_length (h.kids.good k hk).1)).resolve_left (by simp)
 refine ⟨rfl,rfl,ge,gk,hge,hgk,(show w.rangeAt ge 0 e.cells from by have:=he 0 (by simp);simpa using this),by have:=hk 0 (by simp);simpa using this,by have:=hk 1 (by simp);simpa using this,hE.each e (by simp),hK.each k1 (by simp),hK.each k2 (by simp),?_,?_⟩
 ·exact (h.ents.own.lt ge (by rw [hge];rfl)).1
 ·exact (h.kids.lst.own.lt gk (by rw [hgk];rfl)).1
theorem keach_any {gs d B:Nat} {Q:Nat→Prop} {s:Pg.S} {F:Nat} {cap:Array Value} {I:(Nat→Prop)→List Ent→World→Prop} (hW:TextsK d s.W) (hF:∀args w,(callFunc F args).run Tryz.prog w= .ok (.enter F args) w) (hI:DoOk B F cap I):∀(u:V) (k:Kd) (ga oa t:Nat) (w:World) (X:Nat→Prop) (L:List Ent),PL w gs Q s→Sees s.W d u→k.Ok w→w.rangeAt ga oa k.cells→k.pk=u.kid→I X L w→(∀j,Q j→¬X j)→(t:Int)+u.kid.size≤1000000→(L.length:Int)+u.kid.size≤100000→B≤w.heap.size→
  Calls Tryz.prog 74 #[.agg #[.pointer (some ⟨gs,0,none⟩),.int .i64 d],.pointer (some ⟨ga,oa,none⟩),.int .i64 t,.func (.func F) #[] cap] w (EachPost w I X L u t)
 | .nil,k,ga,oa,t,w,X,L,hp,hs,hk,hr,he,hi,hq,ht,hll,hbw=>by
  refine (each_zero (some ⟨gs,0,none⟩) d t 0 ga oa (.func (.func F) #[] cap) w (getSays_nil hk hr he)).mono ?_
  rintro e w' ⟨rfl,hb⟩
  exact ⟨0,[],X,rfl,by rw [List.append_nil];exact hI.later _ _ _ _ hi hb,fun _ h=>Or.inl h,Only.of_below _ hb,(fun _=>⟨rfl,rfl⟩),(fun h=>by cases h),Int.le_refl _⟩
 | .bad kk,k,ga,oa,t,w,X,L,hp,hs,hk,hr,he,hi,hq,ht,hll,hbw=>by
  have he':k.pk=kk:=he
  subst he'
  refine (each_zero (some ⟨gs,0,none⟩) d t 21 ga oa (.func (.func F) #[] cap) w (getSays_bad hk hr hs.1 (node_bad hp hW hk hs))).mono ?_
  rintro e w' ⟨rfl,hb⟩
  exact ⟨21,[],X,rfl,by rw [List.append_nil];exact hI.later _ _ _ _ hi hb,fun _ h=>Or.inl h,Only.of_below _ hb,(fun h=>by cases h),(fun _=>rfl),(kid_zero hs.2.1).1⟩
 | .fork p v l r,k,ga,oa,t,w,X,L,hp,hs,hk,hr,he,hi,hq,ht,hll,hbw=>by
  have ih1:=keach_any (gs:=gs) (Q:=Q) hW hF hI l
  have ih2:=keach_any (gs:=gs) (Q:=Q) hW hF hI r
  have hgd:=node_good hp hk he hs
  have hsz:(V.fork p v l r).kid.size=1+(l.kid.size+r.kid.size):=fork_size p v l.kid r.kid
  have hz1:=sees_size hs.2.2.1
  have hz2:=sees_size hs.2.2.2
  have hne:k.pk≠PK.none:=by
   rw [he]
   exact says_some (by rw [fork_size];omega)
  have b1:Below w.heap.size w (w.alloc (.cells #[.pointer (some ⟨gs,0,none⟩),.int .i64 d] 91)):=(Below.refl _ _).alloc (Nat.le_refl _) _
  have r1:=heap_alloc_new w (.cells #[.pointer (some ⟨gs,0,none⟩),.int .i64 d] 91)
  have HGF:=yH (kget_fork k ga oa _ (hk.later b1) (range_later hr b1) hne (hgd.later b1) rfl)
  have HIH1:=yH ih1
  have HIH2:=yH ih2
  have HI:=yH (hI.later _ _ _ _ hi b1)
  have HII:=yH hI
  have HP:=yH hp
  have HS:=yH hs
  have HQ:=yH hq
  have HT:=yH (show (t:Int)+(1+(l.kid.size+r.kid.size))≤1000000∧0≤l.kid.size∧0≤r.kid.size∧(L.length:Int)+(1+(l.kid.size+r.kid.size))≤100000 from ⟨by omega,hz1,hz2,by omega⟩)
  have HSZ:=yH hsz
  have HBW:=yH hbw
  have HXL:=yH (hI.lt _ _ _ hi)
  have R1:=yH r1
  have R1r:=yH (range_tr r1)
  have B1:=yH b1
  obtain ⟨du,hdu,hdr⟩:=UTr
  obtain ⟨dn,hdn,hdnr⟩:=UNo
  obtain ⟨de,hde,hder⟩:=UEnt
  have HDU:=yH hdu
  have HDR:=yH hdr
  have HDN:=yH hdn
  have HDNR:=yH hdnr
  have HDE:=yH hde
  have HDER:=yH hder
  have q3:IntKind.i64.wrap ((t:Int)+1)=((t+1:Nat):Int):=by rw [IntWalk.i64_in _ (by omega)];rfl
  clear ih1 ih2 hgd hsz hz1 hz2 hne b1 r1 hp hs hk hr he hi hq ht hll hbw hdu hdr hdn hdnr hde hder hI
  go_enter Tryz.func74,Tryz.ntmps74
  go_upto_region 1 with fail
  generalize w.alloc (.cells #[.pointer (some ⟨gs,0,none⟩),.int .i64 d] 91)=w1 at *
  go_upto_region 2 with (first
   | (refine wpList_load_mid (by rfl) 91 _ (by rfl) w.heap.size 0 (by rfl) [.pointer (some ⟨gs,0,none⟩),.int .i64 d] du R1r.out HDU.out HDR.out STr ?_)
   | (go_at_call 120;refine HGF.out.mono ?_;rintro _ w3 ⟨pe,ne,ce,pk,nk,ck,EE,KK,mid,rfl,hpn,hfr,b3⟩;have HPN:=yH hpn;have HFR:=yH hfr;have B3:=yH b3;clear b3 hpn hfr)
   | (refine wpList_store_row (by rfl) 81 (.tmp 9) _ (by rfl) w3.heap.size #[.int .u8 1,.slice pe ne ce,.slice pk nk ck] (by rfl) (by rfl) _ _ (heap_alloc_new w3 _) SNo rfl (nd3_one 1 pe ne ce pk nk ck) ?_;rw [setRow_alloc]))
  obtain ⟨e,k1,k2,rfl,rfl,hR,hlv,hk1,hk2⟩:=fork_kids HPN.out
  obtain ⟨rfl,rfl,ge,gk,rfl,rfl,hra,hrk1,hrk2,hrok,hok1,hok2,hbe,hbk⟩:=fresh_parts HFR.out
  obtain ⟨⟨rp,rn,rc,rR⟩,lv⟩:=e
  simp only at hR hlv hra hrok
  subst hR hlv
  unfold Rw.val at hra
  simp only at hra
  have hb4:Below w3.heap.size w3 (w3.alloc (.cells #[.int .u8 1,.slice (some ⟨ge,0,none⟩) 1 ce,.slice (some ⟨gk,0,none⟩) 2 ck] 81)):=(Below.refl _ _).alloc (Nat.le_refl _) _
  have hr4:=heap_alloc_new w3 (.cells #[.int .u8 1,.slice (some ⟨ge,0,none⟩) 1 ce,.slice (some ⟨gk,0,none⟩) 2 ck] 81)
  have hs4:(w3.alloc (.cells #[.int .u8 1,.slice (some ⟨ge,0,none⟩) 1 ce,.slice (some ⟨gk,0,none⟩) 2 ck] 81)).heap.size=w3.heap.size+1:=by simp
  generalize w3.alloc (.cells #[.int .u8 1,.slice (some ⟨ge,0,none⟩) 1 ce,.slice (some ⟨gk,0,none⟩) 2 ck] 81)=w4 at *
  have hb14:=B3.out.trans (hb4.mono B3.out.size)
  have HB14:=yH hb14
  have HI4:=yH (HII.out.later _ _ _ _ HI.out hb14)
  have HXS:=yH (show ∀j,X j→j<w.heap.size from HXL.out)
  have RA4:=yH (show w4.rangeAt ge 0 [.slice rp rn rc,.bool lv] from range_later hra hb4)
  have HN4:=yH hr4
  have RK1:=yH (range_later hrk1 hb4)
  have RK2:=yH (range_later hrk2 hb4)
  have HRO:=yH (show (⟨rp,rn,rc,rR⟩:Rw).Ok w4 from hrok.later hb4)
  have HK1:=yH (hok1.later hb4)
  have HK2:=yH (hok2.later hb4)
  have HPK1:=yH hk1
  have HPK2:=yH hk2
  have HZ4:=yH (show w.heap.size<w1.heap.size∧w1.heap.size≤w3.heap.size∧w4.heap.size=w3.heap.size+1∧w1.heap.size≤ge∧w1.heap.size≤gk from ⟨(yL R1.out),B3.out.size,hs4,hbe,by have:=HFR.out.base;omega⟩)
  have HT4:=yH ((hb14.block _ (yL R1.out)).trans R1.out)
  have HRX:=yH (show ∀x,rp=some x→rR≠[]→¬X x.block∧B≤x.block from fun x hx hR0=>by
   have h2:=(HFR.out.ents.each ⟨⟨rp,rn,rc,rR⟩,lv⟩ (by simp) ⟨rp,rn,rc,rR⟩ (by simp [En.rows])).1.lo x hx hR0
   have h3:=HZ4.out
   have h4:=HBW.out
   exact ⟨fun h=>by have:=HXL.out _ h;omega,by omega⟩)
  have HKX:=yH (show ∀kd∈[k1,k2],∀r∈kd.rows,∀x,r.p=some x→r.R≠[]→w1.heap.size≤x.block from fun kd hkd r hr x hx hR0=>by
   have h2:=(HFR.out.kids.lst.each kd hkd r hr).1.lo x hx hR0
   have:=HFR.out.base
   omega)
  have c1:=cell_of_row w4 w3.heap.size 1 _ _ _ hr4
  clear hra hrk1 hrk2 hrok hok1 hok2 hbe hbk hb4 hr4 hs4 hb14 hk1 hk2 HFR HPN HI HXL R1 R1r HGF
  go_wp2_with fail
  refine wp_loop_rounds 2 ?_
  rw [rounds_succ]
  go_upto_region 5 with (first
   | (refine wpList_load_mid (by rfl) 85 _ (by rfl) ge 0 (by rfl) [.slice rp rn rc,.bool lv] de RA4.out HDE.out HDER.out SEnt ?_)
   | (refine wpList_store_row (by rfl) 85 (.tmp 12) (.tmp 26) (by rfl) w4.heap.size #[.slice rp rn rc,.bool lv] (by rfl) (by rfl) _ _ (heap_alloc_new w4 _) SEnt rfl (by rfl) ?_;rw [setRow_alloc]))
  have hb5:Below w4.heap.size w4 (w4.alloc (.cells #[.slice rp rn rc,.bool lv] 85)):=(Below.refl _ _).alloc (Nat.le_refl _) _
  have hr5:=heap_alloc_new w4 (.cells #[.slice rp rn rc,.bool lv] 85)
  generalize w4.alloc (.cells #[.slice rp rn rc,.bool lv] 85)=w5 at *
  have HRUN:=yH (HII.out.run X L w5 ⟨rp,rn,rc,rR⟩ lv t (HII.out.later _ _ _ _ HI4.out hb5) (HRO.out.later hb5) HRX.out (by have:=HT.out;omega) (by have:=HT.out;omega))
  have R5:=yH (range_tr hr5)
  have B5:=yH hb5
  unfold Rw.val at HRUN
  simp only at HRUN
  clear hb5 hr5 HI4 HRO HRX
  go_upto_region 6 with (first
   | (refine wpList_load_mid (by rfl) 85 _ (by rfl) w4.heap.size 0 (by rfl) [.slice rp rn rc,.bool lv] de R5.out HDE.out HDER.out SEnt ?_)
   | (refine HRUN.out.mono ?_;rintro _ w6 ⟨rfl,X6,hi6,hx6,ho6⟩;have HI6:=yH hi6;have HX6:=yH hx6;have HO6:=yH ho6;clear hi6 hx6 ho6))
  have HS6:=yH (show w4.heap.size<w6.heap.size from Nat.lt_of_lt_of_le (by have h:=(block_lt_of_cell (R5.out 0 _ rfl):w4.heap.size<w5.heap.size);exact h) HO6.out.size)
  have HK46:=yH (show ∀j,j<w4.heap.size→¬X j→w6.heap[j]? =w4.heap[j]? from fun j hj hx=>(HO6.out.block j (by have:=B5.out.size;omega) hx).trans (B5.out.block j hj))
  have HX46:=yH (show ∀j,X6 j→X j∨w4.heap.size≤j from fun j hj=>(HX6.out j hj).imp id (fun h=>by have:=B5.out.size;omega))
  have HO46:=yH ((Only.of_below X B5.out).trans HO6.out)
  have HN6:=yH ((HK46.out w3.heap.size (by have:=HZ4.out;omega) (fun h=>by have:=HXS.out _ h;have:=HZ4.out;omega)).trans HN4.out)
  have HT6:=yH ((HK46.out w.heap.size (by have:=HZ4.out;omega) (fun h=>by have:=HXS.out _ h;omega)).trans HT4.out)
  have hkeep:∀kd∈[k1,k2],kd.Ok w4→kd.Ok w6:=fun kd hkd h=>by
   have key:∀r∈kd.rows,r.Ok w6:=fun r hr=>Nd.rw_keep (kd_rows_ok h r hr) fun y hy hR=>HK46.out _ (rw_lt (kd_rows_ok h r hr) y hy hR) (fun h2=>by have:=HXS.out _ h2;have:=HKX.out kd hkd r hr y hy hR;have:=HZ4.out;omega)
   exact ⟨h.len,h.ok,key _ (by simp [Kd.rows]),key _ (by simp [Kd.rows]),key _ (by simp [Kd.rows]),h.live,h.size⟩
  have HK16:=yH (hkeep k1 (by simp) HK1.out)
  have HX2:=yH (show ∀r∈k2.rows,∀y,r.p=some y→r.R≠[]→¬X6 y.block from fun r hr y hy hR h=>(HX46.out _ h).elim (fun h=>by have:=HXS.out _ h;have:=HKX.out k2 (by simp) r hr y hy hR;have:=HZ4.out;omega) (fun h=>by have:=rw_lt (kd_rows_ok HK2.out r hr) y hy hR;omega))
  have HK26:=yH (hkeep k2 (by simp) HK2.out)
  have HGKL:=yH (show gk<w4.heap.size from block_lt_of_cell (RK1.out 0 _ (by rw [List.getElem?_eq_getElem (by rw [Kd.cells_length HK1.out.len];decide)])))
  have RK16:=yH (show w6.rangeAt gk 0 k1.cells from fun j v hv=>(World.cell?_of_block (HK46.out gk HGKL.out (fun h2=>by have:=HXS.out _ h2;have:=HZ4.out;omega))).trans (RK1.out j v hv))
  have RK26:=yH (show w6.rangeAt gk 37 k2.cells from fun j v hv=>(World.cell?_of_block (HK46.out gk HGKL.out (fun h2=>by have:=HXS.out _ h2;have:=HZ4.out;omega))).trans (RK2.out j v hv))
  have HP6:=yH (show PL w6 gs Q s from ((HP.out.keep (fun _=>False) (Only.of_below _ B1.out) (fun _ _ e=>e)).keep (fun _=>False) (Only.of_below _ HB14.out) (fun _ _ e=>e)).keep X HO46.out HQ.out)
  have HQ6:=yH (show ∀j,Q j→¬X6 j from fun j hj h=>(HX46.out j h).elim (HQ.out j hj) (fun h=>by have:=HP.out.lt j hj;have:=HZ4.out;omega))
  have HOW:=yH (show Only X w w6 from ((Only.of_below X B1.out).trans (Only.of_below X HB14.out)).trans HO46.out)
  have HC1:=yH (HIH1.out k1 gk 0 (t+1) w6.drew X6 (L++[(rR,lv,t)]) (HP6.out.keep (fun _=>False) (Only.of_below _ (Below.refl _ _).drew) (fun _ _ e=>e)) HS.out.2.2.1 (HK16.out.later (Below.refl _ _).drew) RK16.out HPK1.out (HII.out.later _ _ _ _ HI6.out (Below.refl _ _).drew) HQ6.out (by have:=HT.out;omega) (by have:=HT.out;simp only [List.length_append,List.length_cons,List.length_nil];omega) (by have h1:=HBW.out;have h2:=HOW.out.size;exact Nat.le_trans h1 h2))
  have HX6L:=yH (HII.out.lt _ _ _ HI6.out)
  have HCL1:=yH (Kd.cells_length HK16.out.len)
  clear hkeep HRUN R5 B5 HK1 HK2 RK1 RK2 HN4 HT4 RA4 HIH1 HI6
  clear c1
  have c2:=cell_of_row w6 w3.heap.size 2 _ _ _ HN6.out
  go_wp2_with fail
  rw [rounds_succ]
  go_wp2_with fail
  refine wp_loop_rounds 3 ?_
  rw [rounds_succ]
  have HXW:=yH (show ∀j,w.heap.size≤j→j<w4.heap.size→¬X6 j from fun j h1 h2 h=>(HX46.out j h).elim (fun h=>by have:=HXS.out _ h;omega) (fun h=>by omega))
  cases hlw:l.whole with
  | false=>
   have HLW:=yH hlw
   clear hlw
   go_upto_region 11 with fail
   refine wp_region_held_drew (S:=fun w'=>∀j,j<w6.heap.size→¬X6 j→w'.heap[j]? =w6.heap[j]?) (by kernel_rfl) (fun _ _ _=>rfl) (fun hHeld=>?_)
   refine tQ 0 ?_ ?_ ?_
   rotate_left
   ·intro w' hSw
    refine Eq.trans (b:=Result.ok (Next.value (.agg #[.pointer (some ⟨gs,0,none⟩),.int .i64 d])) w') ?_ ?_
    ·exact op_load_mid 91 (.tmp 4) (by rfl) w.heap.size 0 (by rfl) [.pointer (some ⟨gs,0,none⟩),.int .i64 d] du (range_tr ((hSw w.heap.size (yL HT6.out) (HXW.out _ (by have:=HZ4.out;omega) (by have:=HZ4.out;omega))).trans HT6.out)) HDU.out HDR.out STr
    ·with_reducible rfl
   refine tK 1 ?_
   refine tQ 2 ?_ ?_ ?_
   rotate_left
   ·intro w' hSw
    have y:w'.cell? ⟨w3.heap.size,2,none⟩=some (.slice (some ⟨gk,0,none⟩) 2 ck):=(World.cell?_of_block (hSw w3.heap.size (yL HN6.out) (HXW.out _ (by have:=HZ4.out;omega) (by have:=HZ4.out;omega)))).trans (cell_of_row w6 w3.heap.size 2 _ _ _ HN6.out)
    go_simp
    try with_reducible rfl
   refine tK 3 ?_
   refine tK 4 ?_
   refine tK 5 ?_
   refine tK 6 ?_
   refine tK 7 ?_
   refine rY [8] ?_
   refine rC (fun K hK=>?_) AllReadyH.nil
   go_simp
   refine HC1.out.mono ?_
   rintro _ w7 ⟨err1,M1,X7,rfl,hi7,hx7,ho7,hw7,hb7,hml1⟩
   obtain rfl:=hb7 HLW.out
   have HI7:=yH hi7
   have HML1:=yH hml1
   have HX7:=yH hx7
   have HO7:=yH ho7
   have hS:∀j,j<w6.heap.size→¬X6 j→w7.heap[j]? =w6.heap[j]? :=fun j h1 h2=>HO7.out.block j h1 h2
   clear hi7 hx7 ho7 hw7 hb7 hml1
   try go_wp2_with fail
   refine hK.out _ _ hS (fun hHeld=>?_)
   clear hK K
   try simp only [Act.put,yA,yB,yC]
   refine tK 9 ?_
   refine wpAnyH_done (by kernel_rfl) ?_ _
   go_wp2_with fail
   rw [rounds_succ]
   go_wp2_with fail
   rw [rounds_succ]
   go_wp2_with fail
   (try simp only [Exit.inBlock,Exit.then])
   go_ret
   refine ⟨21,(rR,lv,t)::M1,X7,rfl,by have h:=HI7.out;rw [List.append_assoc] at h;exact h,fun j hj=>?_,?_,fun h=>?_,fun _=>rfl,?_⟩
   ·rcases HX7.out j hj with h | h
    ·exact (HX46.out j h).imp id fun h=>by have:=HZ4.out;omega
    ·have h2:w6.heap.size≤j:=h
     have:=HS6.out
     have:=HZ4.out
     exact Or.inr (by omega)
   ·refine ⟨HO7.out.os.trans HOW.out.os,HO7.out.tape.trans HOW.out.tape,HO7.out.output.trans HOW.out.output,Nat.le_trans HOW.out.size HO7.out.size,fun j hj hn=>(HO7.out.block j (by have:=HOW.out.size;exact Nat.lt_of_lt_of_le hj this) (fun h=>(HX46.out j h).elim hn (fun h=>by have:=HZ4.out;omega))).trans (HOW.out.block j hj hn)⟩
   ·have h2:(l.whole&&r.whole)=true:=h
    rw [HLW.out] at h2
    cases h2
   ·rw [HSZ.out]
    have:=HML1.out
    have:=HT.out
    simp only [List.length_cons]
    omega
  | true=>
   have HLW:=yH hlw
   clear hlw
   go_upto_region 11 with fail
   refine wp_region_held_drew (S:=fun w'=>∀j,j<w6.heap.size→¬X6 j→w'.heap[j]? =w6.heap[j]?) (by kernel_rfl) (fun _ _ _=>rfl) (fun hHeld=>?_)
   refine tQ 0 ?_ ?_ ?_
   rotate_left
   ·intro w' hSw
    refine Eq.trans (b:=Result.ok (Next.value (.agg #[.pointer (some ⟨gs,0,none⟩),.int .i64 d])) w') ?_ ?_
    ·exact op_load_mid 91 (.tmp 4) (by rfl) w.heap.size 0 (by rfl) [.pointer (some ⟨gs,0,none⟩),.int .i64 d] du (range_tr ((hSw w.heap.size (yL HT6.out) (HXW.out _ (by have:=HZ4.out;omega) (by have:=HZ4.out;omega))).trans HT6.out)) HDU.out HDR.out STr
    ·with_reducible rfl
   refine tK 1 ?_
   refine tQ 2 ?_ ?_ ?_
   rotate_left
   ·intro w' hSw
    have y:w'.cell? ⟨w3.heap.size,2,none⟩=some (.slice (some ⟨gk,0,none⟩) 2 ck):=(World.cell?_of_block (hSw w3.heap.size (yL HN6.out) (HXW.out _ (by have:=HZ4.out;omega) (by have:=HZ4.out;omega)))).trans (cell_of_row w6 w3.heap.size 2 _ _ _ HN6.out)
    go_simp
    try with_reducible rfl
   refine tK 3 ?_
   refine tK 4 ?_
   refine tK 5 ?_
   refine tK 6 ?_
   refine tK 7 ?_
   refine rY [8] ?_
   refine rC (fun K hK=>?_) AllReadyH.nil
   go_simp
   refine HC1.out.mono ?_
   rintro _ w7 ⟨err1,M1,X7,rfl,hi7,hx7,ho7,hw7,hb7,hml1⟩
   obtain rfl:=(hw7 HLW.out).1
   obtain rfl:=(hw7 HLW.out).2
   have HI7:=yH hi7
   have HML1:=yH hml1
   have HX7:=yH hx7
   have HO7:=yH ho7
   have hS:∀j,j<w6.heap.size→¬X6 j→w7.heap[j]? =w6.heap[j]? :=fun j h1 h2=>HO7.out.block j h1 h2
   clear hi7 hx7 ho7 hw7 hb7 hml1
   try go_wp2_with fail
   refine hK.out _ _ hS (fun hHeld=>?_)
   clear hK K
   try simp only [Act.put,yA,yB,yC]
   refine tK 9 ?_
   refine wpAnyH_done (by kernel_rfl) ?_ _
   go_wp2_with fail
   have HOW7:=yH (show Only X w w7 from ⟨HO7.out.os.trans HOW.out.os,HO7.out.tape.trans HOW.out.tape,HO7.out.output.trans HOW.out.output,Nat.le_trans HOW.out.size HO7.out.size,fun j hj hn=>(HO7.out.block j (by have:=HOW.out.size;exact Nat.lt_of_lt_of_le hj this) (fun h=>(HX46.out j h).elim hn (fun h=>by have:=HZ4.out;omega))).trans (HOW.out.block j hj hn)⟩)
   have HS7:=yH (show w6.heap.size≤w7.heap.size from HO7.out.size)
   have HX47:=yH (show ∀j,X7 j→X j∨w4.heap.size≤j from fun j hj=>(HX7.out j hj).elim (HX46.out j) (fun h=>Or.inr (by have h2:w6.heap.size≤j:=h;have:=HS6.out;omega)))
   have HK67:=yH (show ∀j,j<w6.heap.size→¬X6 j→w7.heap[j]? =w6.heap[j]? from fun j h1 h2=>HO7.out.block j h1 h2)
   have HT7:=yH ((HK67.out w.heap.size (yL HT6.out) (HXW.out _ (by omega) (by have:=HZ4.out;omega))).trans HT6.out)
   have HN7:=yH ((HK67.out w3.heap.size (yL HN6.out) (HXW.out _ (by have:=HZ4.out;omega) (by have:=HZ4.out;omega))).trans HN6.out)
   have RK27:=yH (show w7.rangeAt gk 37 k2.cells from fun j v hv=>(World.cell?_of_block (HK67.out gk (by have:=HGKL.out;have:=HS6.out;omega) (HXW.out _ (by have:=HZ4.out;omega) HGKL.out))).trans (RK26.out j v hv))
   have HK27:=yH (show k2.Ok w7 from by
    have key:∀r∈k2.rows,r.Ok w7:=fun r hr=>Nd.rw_keep (kd_rows_ok HK26.out r hr) fun y hy hR=>HK67.out _ (rw_lt (kd_rows_ok HK26.out r hr) y hy hR) (HX2.out r hr y hy hR)
    exact ⟨HK26.out.len,HK26.out.ok,key _ (by simp [Kd.rows]),key _ (by simp [Kd.rows]),key _ (by simp [Kd.rows]),HK26.out.live,HK26.out.size⟩)
   have HP7:=yH (show PL w7 gs Q s from (HP6.out.keep (fun _=>False) (Only.of_below _ (Below.refl _ _).drew) (fun _ _ e=>e)).keep X6 HO7.out HQ6.out)
   have HQ7:=yH (show ∀j,Q j→¬X7 j from fun j hj h=>(HX47.out j h).elim (HQ.out j hj) (fun h=>by have:=HP.out.lt j hj;have:=HZ4.out;omega))
   have HXW7:=yH (show ∀j,w.heap.size≤j→j<w4.heap.size→¬X7 j from fun j h1 h2 h=>(HX47.out j h).elim (fun h=>by have:=HXS.out _ h;omega) (fun h=>by omega))
   have HC2:=yH (HIH2.out k2 gk 37 (t+1) w7.drew X7 (L++[(rR,lv,t)]++l.ents (t+1)) (HP7.out.keep (fun _=>False) (Only.of_below _ (Below.refl _ _).drew) (fun _ _ e=>e)) HS.out.2.2.2 (HK27.out.later (Below.refl _ _).drew) RK27.out HPK2.out (HII.out.later _ _ _ _ HI7.out (Below.refl _ _).drew) HQ7.out (by have:=HT.out;omega) (by have:=HT.out;have:=HML1.out;simp only [List.length_append,List.length_cons,List.length_nil];omega) (by have h1:=HBW.out;have h2:=HOW7.out.size;exact Nat.le_trans h1 h2))
   clear HXW
   have HXW:=HXW7
   rw [rounds_succ]
   go_upto_region 11 with fail
   refine wp_region_held_drew (S:=fun w'=>∀j,j<w7.heap.size→¬X7 j→w'.heap[j]? =w7.heap[j]?) (by kernel_rfl) (fun _ _ _=>rfl) (fun hHeld=>?_)
   refine tQ 0 ?_ ?_ ?_
   rotate_left
   ·intro w' hSw
    refine Eq.trans (b:=Result.ok (Next.value (.agg #[.pointer (some ⟨gs,0,none⟩),.int .i64 d])) w') ?_ ?_
    ·exact op_load_mid 91 (.tmp 4) (by rfl) w.heap.size 0 (by rfl) [.pointer (some ⟨gs,0,none⟩),.int .i64 d] du (range_tr ((hSw w.heap.size (yL HT7.out) (HXW.out _ (by have:=HZ4.out;omega) (by have:=HZ4.out;omega))).trans HT7.out)) HDU.out HDR.out STr
    ·with_reducible rfl
   refine tK 1 ?_
   refine tQ 2 ?_ ?_ ?_
   rotate_left
   ·intro w' hSw
    have y:w'.cell? ⟨w3.heap.size,2,none⟩=some (.slice (some ⟨gk,0,none⟩) 2 ck):=(World.cell?_of_block (hSw w3.heap.size (yL HN7.out) (HXW.out _ (by have:=HZ4.out;omega) (by have:=HZ4.out;omega)))).trans (cell_of_row w7 w3.heap.size 2 _ _ _ HN7.out)
    go_simp
    try with_reducible rfl
   refine tK 3 ?_
   refine tK 4 ?_
   refine tK 5 ?_
   refine tK 6 ?_
   refine tK 7 ?_
   refine rY [8] ?_
   refine rC (fun K hK=>?_) AllReadyH.nil
   go_simp
   refine HC2.out.mono ?_
   rintro _ w8 ⟨err2,M2,X8,rfl,hi8,hx8,ho8,hw8,hb8,hml2⟩
   have HI8:=yH hi8
   have HML2:=yH hml2
   have HX8:=yH hx8
   have HO8:=yH ho8
   have HW8:=yH hw8
   have HB8:=yH hb8
   have hS:∀j,j<w7.heap.size→¬X7 j→w8.heap[j]? =w7.heap[j]? :=fun j h1 h2=>HO8.out.block j h1 h2
   clear hi8 hx8 ho8 hw8 hb8 hml2
   try go_wp2_with fail
   refine hK.out _ _ hS (fun hHeld=>?_)
   clear hK K
   try simp only [Act.put,yA,yB,yC]
   refine tK 9 ?_
   refine wpAnyH_done (by kernel_rfl) ?_ _
   go_wp2_with fail
   rw [rounds_succ]
   go_wp2_with fail
   (try simp only [Exit.inBlock,Exit.then])
   go_ret
   refine ⟨err2,(rR,lv,t)::(l.ents (t+1)++M2),X8,rfl,by have h:=HI8.out;simp only [List.append_assoc] at h;exact h,fun j hj=>?_,?_,fun h=>?_,fun h=>?_,?_⟩
   ·rcases HX8.out j hj with h | h
    ·exact (HX47.out j h).imp id fun h=>by have:=HZ4.out;omega
    ·have h2:w7.heap.size≤j:=h
     have:=HS6.out
     have:=HS7.out
     have:=HZ4.out
     exact Or.inr (by omega)
   ·refine ⟨HO8.out.os.trans HOW7.out.os,HO8.out.tape.trans HOW7.out.tape,HO8.out.output.trans HOW7.out.output,Nat.le_trans HOW7.out.size HO8.out.size,fun j hj hn=>(HO8.out.block j (by have:=HOW7.out.size;exact Nat.lt_of_lt_of_le hj this) (fun h=>(HX47.out j h).elim hn (fun h=>by have:=HZ4.out;omega))).trans (HOW7.out.block j hj hn)⟩
   ·have h2:(l.whole&&r.whole)=true:=h
    rw [HLW.out,Bool.true_and] at h2
    obtain ⟨h3,h4⟩:=HW8.out h2
    exact ⟨h3,by rw [h4];rfl⟩
   ·have h2:(l.whole&&r.whole)=false:=h
    rw [HLW.out,Bool.true_and] at h2
    exact HB8.out h2
   ·rw [HSZ.out]
    have:=HML1.out
    have:=HML2.out
    have:=HT.out
    simp only [List.length_cons,List.length_append]
    omega
structure MSt where
 kid:Kd
 ge:Nat
 ce:Nat
 gk:Nat
 ck:Nat
 row:Rw
 live:Bool
 k1:Kd
 k2:Kd
 side:Bool
instance:Inhabited MSt:=⟨⟨default,0,0,0,0,default,false,default,default,false⟩⟩
def MSt.sideN (m:MSt):Nat:=if m.side then 1 else 0
def MSt.cells (m:MSt):List Value:=m.kid.cells++[.int .u8 1,.slice (some ⟨m.ge,0,none⟩) 1 m.ce,.slice (some ⟨m.gk,0,none⟩) 2 m.ck,.int .i64 m.sideN]
def MSt.rows (m:MSt):List Rw:=m.kid.rows++m.row::(m.k1.rows++m.k2.rows)
def MSt.reads (m:MSt) (k:Nat):Prop:=k=m.ge∨k=m.gk∨∃r∈m.rows,∃x,r.p=some x∧r.R≠[]∧k=x.block
structure MSt.Ok (w:World) (m:MSt):Prop where
 kid:m.kid.Ok w
 ent:w.rangeAt m.ge 0 [m.row.val,.bool m.live]
 entT:w.there m.ge 0 2
 kid1:w.rangeAt m.gk 0 m.k1.cells
 kid2:w.rangeAt m.gk 37 m.k2.cells
 kidT:w.there m.gk 0 74
 row:m.row.Ok w
 k1:m.k1.Ok w
 k2:m.k2.Ok w
 caps:1≤m.ce∧2≤m.ck
 ne:m.ge≠m.gk
 apart:∀r∈m.rows,∀x,r.p=some x→r.R≠[]→x.block≠m.ge∧x.block≠m.gk
theorem MSt.cells_length {m:MSt} (h:m.kid.sum.length=32):m.cells.length=41:=by
 unfold MSt.cells
 rw [List.length_append,Kd.cells_length h]
 rfl
theorem there_keep {w w':World} {g o n:Nat} (h:w.there g o n) (hk:w'.heap[g]? =w.heap[g]?):w'.there g o n:=fun j hj=>by
 obtain ⟨h1,h2⟩:=h j hj
 refine ⟨by rw [World.cell?_of_block hk];exact h1,?_⟩
 rw [← h2]
 unfold World.frozen?
 rw [hk]
theorem range_keep {w w':World} {g o:Nat} {cs:List Value} (h:w.rangeAt g o cs) (hk:w'.heap[g]? =w.heap[g]?):w'.rangeAt g o cs:=fun j v hv=>(World.cell?_of_block hk).trans (h j v hv)
theorem kd_keep {w w':World} {k:Kd} (h:k.Ok w) (hk:∀r∈k.rows,∀x,r.p=some x→r.R≠[]→w'.heap[x.block]? =w.heap[x.block]?):k.Ok w':=by
 have key:∀r∈k.rows,r.Ok w':=fun r hr=>Nd.rw_keep (kd_rows_ok h r hr) (hk r hr)
 exact ⟨h.len,h.ok,key _ (by simp [Kd.rows]),key _ (by simp [Kd.rows]),key _ (by simp [Kd.rows]),h.live,h.size⟩
theorem MSt.Ok.keep {w w':World} {m:MSt} (h:m.Ok w) (hk:∀k,m.reads k→w'.heap[k]? =w.heap[k]?):m.Ok w':=by
 have hg:=hk m.ge (Or.inl rfl)
 have hkk:=hk m.gk (Or.inr (Or.inl rfl))
 have hr:∀r∈m.rows,∀x,r.p=some x→r.R≠[]→w'.heap[x.block]? =w.heap[x.block]? :=fun r hr x hx hR=>hk _ (Or.inr (Or.inr ⟨r,hr,x,hx,hR,rfl⟩))
 exact ⟨kd_keep h.kid fun r h1=>hr r (by simp [MSt.rows,h1]),range_keep h.ent hg,there_keep h.entT hg,range_keep h.kid1 hkk,range_keep h.kid2 hkk,there_keep h.kidT hkk,Nd.rw_keep h.row (hr _ (by simp [MSt.rows])),kd_keep h.k1 fun r h1=>hr r (by simp [MSt.rows,h1]),kd_keep h.k2 fun r h1=>hr r (by simp [MSt.rows,h1]),h.caps,h.ne,h.apart⟩
theorem MSt.Ok.lt {w:World} {m:MSt} (h:m.Ok w):∀k,m.reads k→k<w.heap.size:=fun k hk=>by
 rcases hk with rfl | rfl | ⟨r,hr,x,hx,hR,rfl⟩
 ·exact block_lt_of_cell (h.ent 0 _ rfl)
 ·exact block_lt_of_cell (h.kid1 0 _ (List.getElem?_eq_getElem (by rw [Kd.cells_length h.k1.len];decide)))
 ·have key:∀r∈m.rows,r.Ok w:=fun r hr=>by
   simp only [MSt.rows,List.mem_append,List.mem_cons] at hr
   rcases hr with h1 | rfl | h1 | h1
   ·exact kd_rows_ok h.kid r h1
   ·exact h.row
   ·exact kd_rows_ok h.k1 r h1
   ·exact kd_rows_ok h.k2 r h1
  exact rw_lt (key r hr) x hx hR
theorem MSt.Ok.later {w w':World} {m:MSt} (h:m.Ok w) (hb:Below w.heap.size w w'):m.Ok w':=h.keep fun k hk=>hb.block k (h.lt k hk)
structure Link (m:MSt) (s:St):Prop where
 row:s.row=m.row.R
 live:s.live=m.live
 l:s.l.kid=m.k1.pk
 r:s.r.kid=m.k2.pk
 side:s.side=m.side
 old:s.old.kid=m.kid.pk
inductive Links:List MSt→List St→Prop
 | nil:Links [] []
 | cons {m:MSt} {s:St} {A:List MSt} {L:List St} (h:Link m s) (t:Links A L):Links (m::A) (s::L)
theorem Links.length {A:List MSt} {L:List St} (h:Links A L):A.length=L.length:=by
 induction h with
 | nil=>rfl
 | cons _ _ ih=>simp [ih]
theorem Links.append {A B:List MSt} {L M:List St} (h:Links A L) (h2:Links B M):Links (A++B) (L++M):=by
 induction h with
 | nil=>exact h2
 | cons h _ ih=>exact .cons h ih
theorem Links.take {A:List MSt} {L:List St} (h:Links A L):∀n,Links (A.take n) (L.take n):=by
 induction h with
 | nil=>intro n;simp;exact .nil
 | cons h _ ih=>
  intro n
  cases n with
  | zero=>exact .nil
  | succ n=>exact .cons h (ih n)
theorem Links.get {A:List MSt} {L:List St} (h:Links A L):∀(i:Nat) (s:St),L[i]? =some s→∃m,A[i]? =some m∧Link m s:=by
 induction h with
 | nil=>intro i s hs;simp at hs
 | cons h _ ih=>
  intro i s hs
  cases i with
  | zero=>
   simp only [List.getElem?_cons_zero,Option.some.injEq] at hs
   subst hs
   exact ⟨_,rfl,h⟩
  | succ i=>exact ih i s (by simpa using hs)
structure WayM (B:Nat) (w:World) (A:List MSt):Prop where
 each:∀m∈A,m.Ok w
 new:∀m∈A,B≤m.ge∧B≤m.gk
 part:A.Pairwise fun a b=>(¬a.reads b.ge∧¬a.reads b.gk)∧(¬(∃k,b.reads k∧(k=a.ge∨k=a.gk)))
theorem WayM.keep {B:Nat} {w w':World} {A:List MSt} (h:WayM B w A) (hk:∀m∈A,∀k,m.reads k→w'.heap[k]? =w.heap[k]?):WayM B w' A:=⟨fun m hm=>(h.each m hm).keep (hk m hm),h.new,h.part⟩
theorem WayM.later {B:Nat} {w w':World} {A:List MSt} (h:WayM B w A) (hb:Below w.heap.size w w'):WayM B w' A:=⟨fun m hm=>(h.each m hm).later hb,h.new,h.part⟩
theorem WayM.snoc {B:Nat} {w:World} {A:List MSt} {m:MSt} {N:Nat} (h:WayM B w A) (hm:m.Ok w) (hB:B≤N) (hlt:∀a∈A,∀k,a.reads k→k<N) (hnew:N≤m.ge∧N≤m.gk) (hr:∀a∈A,∀k,m.reads k→k≠a.ge∧k≠a.gk):WayM B w (A++[m]):=by
 refine ⟨fun x hx=>?_,fun x hx=>?_,?_⟩
 ·rcases List.mem_append.1 hx with hx | hx
  ·exact h.each x hx
  ·rw [List.mem_singleton.1 hx];exact hm
 ·rcases List.mem_append.1 hx with hx | hx
  ·exact h.new x hx
  ·rw [List.mem_singleton.1 hx];exact ⟨Nat.le_trans hB hnew.1,Nat.le_trans hB hnew.2⟩
 ·rw [List.pairwise_append]
  refine ⟨h.part,List.pairwise_singleton _ _,fun a ha b hb=>?_⟩
  rw [List.mem_singleton.1 hb]
  refine ⟨⟨fun e=>by have:=hlt a ha _ e;omega,fun e=>by have:=hlt a ha _ e;omega⟩,fun ⟨k,h1,h2⟩=>?_⟩
  obtain ⟨h3,h4⟩:=hr a ha k h1
  exact h2.elim h3 h4
structure WaySt (B bw:Nat) (w:World) (v:Value) (A:List MSt):Prop where
 box:w.heap[bw]? =some (.cells #[v] 93 (0,0))
 own:w.ownsRow B 101 41 v A.length (A.flatMap MSt.cells)
 ne:v.ownBlock≠some bw
 way:WayM B w A
 aside:∀m∈A,∀k,m.reads k→k≠bw∧v.ownBlock≠some k
 low:B≤bw
theorem WaySt.later {B bw:Nat} {w w':World} {v:Value} {A:List MSt} (h:WaySt B bw w v A) (hb:Below w.heap.size w w'):WaySt B bw w' v A:=by
 refine ⟨(hb.block _ (yL h.box)).trans h.box,⟨h.own.1,h.own.2.imp id ?_⟩,h.ne,h.way.later hb,h.aside,h.low⟩
 rintro ⟨g,cap,cur,hv,hg,hh,r⟩
 exact ⟨g,cap,cur,hv,hg,(hb.block _ (yL hh)).trans hh,r⟩
theorem mst_fresh {B mid:Nat} {w:World} {ge gk ce ck:Nat} {e:En} {k1 k2:Kd} {k:Kd} (h:Fresh B mid w (some ⟨ge,0,none⟩) 1 ce (some ⟨gk,0,none⟩) 2 ck [e] [k1,k2]) (hk:k.Ok w) (hkr:∀r∈k.rows,∀x,r.p=some x→r.R≠[]→x.block<B) (side:Bool):(MSt.mk k ge ce gk ck e.row e.live k1 k2 side).Ok w∧B≤ge∧B≤gk∧∀j,(MSt.mk k ge ce gk ck e.row e.live k1 k2 side).reads j→B≤j∨∃r∈k.rows,∃x,r.p=some x∧r.R≠[]∧j=x.block:=by
 obtain ⟨-,-,ge',gk',h1,h2,hE,hK1,hK2,hro,ho1,ho2,hbe,hbk⟩:=fresh_parts h
 simp only [Option.some.injEq,Addr.mk.injEq,and_true] at h1 h2
 subst h1 h2
 have hge:ge<mid:=h.low.1 ge rfl
 have there:∀ {t:TypeId} {sz n c g:Nat} {xs:List Value} {B:Nat},w.ownsRow B t sz (.slice (some ⟨g,0,none⟩) n c) n xs→w.there g 0 (n*sz)∧n≤c:=fun {t sz n c g xs B} ho=>by
  rcases ho.2 with ⟨hv,_⟩ | ⟨g',cap,cur,hv,_,hh,hle,_,hs,_⟩
  ·cases hv
  ·simp only [Value.slice.injEq,Option.some.injEq,Addr.mk.injEq,and_true,true_and] at hv
   obtain ⟨rfl,rfl⟩:=hv
   refine ⟨fun j hj=>⟨?_,frozen_of_row w g _ _ _ hh⟩,hle⟩
   rw [cell_of_row w g _ _ _ _ hh,Nat.zero_add,Array.getElem?_eq_getElem (by rw [hs];exact Nat.lt_of_lt_of_le hj (Nat.mul_le_mul_right _ hle))]
   rfl
 have tE:=there h.ents.own
 have tK:=there h.kids.lst.own
 have rE:∀x,e.row.p=some x→e.row.R≠[]→B≤x.block∧x.block<mid∧x.block≠ge:=fun x hx hR=>by
  have h1:=h.ents.each e (by simp) e.row (by simp [En.rows])
  exact ⟨h1.1.lo x hx hR,h.low.2 e (by simp) e.row (by simp [En.rows]) x hx hR,fun e2=>h1.2 x hx hR (by rw [e2];rfl)⟩
 have rK:∀kk∈[k1,k2],∀r∈kk.rows,∀x,r.p=some x→r.R≠[]→mid≤x.block∧x.block≠gk:=fun kk hkk r hr x hx hR=>by
  have h1:=h.kids.lst.each kk hkk r hr
  exact ⟨h1.1.lo x hx hR,fun e2=>h1.2 x hx hR (by rw [e2];rfl)⟩
 have hbm:=h.base
 refine ⟨⟨hk,hE,tE.1,hK1,hK2,tK.1,hro,ho1,ho2,⟨tE.2,tK.2⟩,by simp only;omega,fun r hr x hx hR=>?_⟩,hbe,by omega,fun j hj=>?_⟩
 ·simp only [MSt.rows,List.mem_append,List.mem_cons] at hr
  rcases hr with h1 | rfl | h1 | h1
  ·have:=hkr r h1 x hx hR
   exact ⟨by simp only;omega,by simp only;omega⟩
  ·have:=rE x hx hR
   exact ⟨this.2.2,by simp only;omega⟩
  ·have:=rK k1 (by simp) r h1 x hx hR
   exact ⟨by simp only;omega,this.2⟩
  ·have:=rK k2 (by simp) r h1 x hx hR
   exact ⟨by simp only;omega,this.2⟩
 ·rcases hj with rfl | rfl | ⟨r,hr,x,hx,hR,rfl⟩
  ·exact Or.inl hbe
  ·exact Or.inl (Nat.le_trans hbm hbk)
  ·simp only [MSt.rows,List.mem_append,List.mem_cons] at hr
   rcases hr with h1 | rfl | h1 | h1
   ·exact Or.inr ⟨r,h1,x,hx,hR,rfl⟩
   ·exact Or.inl (rE x hx hR).1
   ·have:=(rK k1 (by simp) r h1 x hx hR).1
    exact Or.inl (by omega)
   ·have:=(rK k2 (by simp) r h1 x hx hR).1
    exact Or.inl (by omega)
end Go.Proofs.YtinihaflmdihaaaGreat.Kt
namespace Go.Proofs.YtinihaflmdihaaaGreat.Kt
open Go.RowKit
theorem own_empty_rows (w:World):(w.alloc (.cells #[] 24)).ownsRow w.heap.size 24 1 (.slice (some ⟨w.heap.size,0,none⟩) 0 0) 0 []:=
 ⟨rfl,Or.inr ⟨w.heap.size,0,#[],rfl,Nat.le_refl _,heap_alloc_new w _,Nat.le_refl _,by unfold maxLen;omega,rfl,rfl⟩⟩
theorem own_seg {w:World} {base n:Nat} {v:Value} {L:List Rw} (h:w.ownsRow base 24 1 v n (hds L)) (hn:1≤n):∃g c,v= .slice (some ⟨g,0,none⟩) n c∧n=L.length∧n≤c∧base≤g∧g<w.heap.size∧Seg w g 0 L:=by
 have hl:n=L.length:=by have:=h.1;rw [hds_length,Nat.mul_one] at this;exact this.symm
 rcases h.2 with ⟨rfl,h0⟩ | ⟨g,cap,cur,rfl,hb,hg,hle,hm,hs,ht⟩
 ·omega
 ·refine ⟨g,cap,rfl,hl,hle,hb,(yL hg),fun j hj=>⟨?_,frozen_of_row w g _ _ _ hg⟩⟩
  rw [Nat.zero_add,cell_of_row w g j cur _ _ hg]
  have e:(cur.toList.take (n*1))[j]? =(hds L)[j]? :=by rw [ht]
  rw [List.getElem?_take_of_lt (by omega)] at e
  simp only [hds,List.getElem?_map,List.getElem?_eq_getElem hj] at e
  rw [List.getD_eq_getElem?_getD,List.getElem?_eq_getElem hj]
  simpa using e
def ClonePostK (w:World) (L:List Rw) (e:Ending) (w':World):Prop:=∃g c,e= .returned (.slice (some ⟨g,0,none⟩) L.length c)∧L.length≤c∧w.heap.size≤g∧g<w'.heap.size∧Seg w' g 0 L∧Below w.heap.size w w'
theorem clone_rows (p:Option Addr) (n c:Nat) (L:List Rw) (w:World) (h:RowsIn w p n c L) (h1:1≤n) (h8:n≤1048576):
  Calls Tryz.prog 76 #[.slice p n c] w (ClonePostK w L):=by
 obtain ⟨gR,oR,rfl,-⟩:=h.cell 0 (by omega)
 obtain ⟨i2,hi0,hi1,hi2,hi3⟩:=info_parts IRs
 have HI:=yH hi0
 have HI0:=yH hi1
 have HI1:=yH hi2
 have HI2:=yH hi3
 clear hi0 hi1 hi2 hi3
 have hal:Below w.heap.size w (w.alloc (.cells #[] 24)):=(Below.refl _ _).alloc (Nat.le_refl _) _
 have HOE:=yH (own_empty_rows w)
 have HAL:=yH hal
 have HNW:=yH (hd_tail (h.later hal) 0)
 have HLN:=yH h.size
 have HRL:=yH (show (hds (L.drop 0)).length=n*1 by rw [List.drop_zero,hds_length,← h.size,Nat.mul_one])
 have qn:∀w',(binOp .eql 51 (.slice (some ⟨gR,oR,none⟩) n c) (.slice none 0 0)).run Tryz.prog w'= .ok (.bool false) w':=fun w'=>Go.Lib.run_eql_slice_nil w' _ _ _ _ _ _ _ URSs
 clear hal h
 go_enter Tryz.func76,Tryz.ntmps76
 go_wp2_with ((at_builtin;(refine wpList_append_own_at _ (by rfl) (.tmp 5) (.tmp 6) 51 (by rfl) w.heap.size 24 i2 (.slice none 0 0) 1 24 URSs HI.out HI0.out HI1.out HI2.out (by rfl) (by decide) _ 0 [] (by rfl) HOE.out ⟨gR,oR+0,none⟩ n c (hds (L.drop 0)) (by rfl) HRL.out HNW.out (hds_one _) (by unfold maxLen;omega) (by omega) (by simp) ?_);intro v7 w7 hown7 hgrow7 _ _;have O7:=yH hown7;have G7:=yH hgrow7;clear hown7 hgrow7))
 obtain ⟨gn,cn,rfl,hn,hc,hb,hlt,hseg⟩:=own_seg (w:=w7) (base:=w.heap.size) (n:=n) (L:=L) (by have h:=O7.out;rw [Nat.zero_add,List.nil_append,List.drop_zero] at h;exact h) h1
 have hb7:Below w.heap.size w w7:=HAL.out.grown G7.out (by simp) (fun k hk=>by simp [Value.ownBlock] at hk;omega)
 go_ret
 exact ⟨gn,cn,by rw [← hn];rfl,by omega,hb,hlt,hseg,hb7⟩
end Go.Proofs.YtinihaflmdihaaaGreat.Kt
