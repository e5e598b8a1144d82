/- KtWay, KdEachV. -/
import Derived.LoopN
import Derived.Test.YtinihaflmdihaaaGreatW1
import Derived.Test.YtinihaflmdihaaaGreatW12
import Derived.Test.YtinihaflmdihaaaGreatW28
import Derived.Test.YtinihaflmdihaaaGreatW29
set_option maxRecDepth 100000
set_option maxHeartbeats 8000000
set_option linter.unusedVariables false
set_option linter.unusedSimpArgs false
namespace Go.Proofs.YtinihaflmdihaaaGreat.Kt
open Go.RowKit Go.Proofs.YtinihaflmdihaaaGreat.Nd Go.Proofs.YtinihaflmdihaaaGreat.Pg
open List renaming setIfInBounds_toArray → sA, set_cons_zero → sZ, set_cons_succ → sS
structure St where
 row:List Int
 live:Bool
 l:V
 r:V
 side:Bool
 old:V
def wayV (d:Nat) (p:List Int):V→Nat→Option (List St×St)
 | .nil,_=>some ([],⟨p,false,.nil,.nil,false,.nil⟩)
 | .bad _,_=>none
 | .fork q v l r,t=>
  if ordC (t%d) p q=0 then some ([],⟨q,v,l,r,false,.fork q v l r⟩)
  else if 0<ordC (t%d) p q then (wayV d p r (t+1)).map fun x=>(⟨q,v,l,r,true,.fork q v l r⟩::x.1,x.2)
  else (wayV d p l (t+1)).map fun x=>(⟨q,v,l,r,false,.fork q v l r⟩::x.1,x.2)
def St.on (s:St):Int:=if s.side then s.r.kid.size else s.l.kid.size
def St.off (s:St):Int:=if s.side then s.l.kid.size else s.r.kid.size
def settle:Nat→List St→Nat×Int×Int
 | i,[]=>(i,0,0)
 | i,s::L=>
  if (s.on+(settle (i+1) L).2.2+s.off+1)*2/3+1<max (s.on+(settle (i+1) L).2.2) s.off then (i,s.old.kid.live+1,s.old.kid.live+1 - s.old.kid.size)
  else ((settle (i+1) L).1,s.on+(settle (i+1) L).2.2+s.off+1,s.on+(settle (i+1) L).2.2+s.off+1 - s.old.kid.size)
theorem settle_ge:∀(L:List St) (i:Nat),i≤(settle i L).1∧(settle i L).1≤i+L.length
 |[],i=>⟨Nat.le_refl _,Nat.le_refl _⟩
 | s::L,i=>by
  have h:=settle_ge L (i+1)
  unfold settle
  rw [List.length_cons]
  split
  ·exact ⟨Nat.le_refl _,by omega⟩
  ·exact ⟨by simp only;omega,by simp only;omega⟩
def raiseV:List St→V→V
 |[],k=>k
 | s::L,k=>if s.side then .fork s.row s.live s.l (raiseV L k) else .fork s.row s.live (raiseV L k) s.r
def V.rows:V→List (List Int)
 | .nil=>[]
 | .bad _=>[]
 | .fork p v l r=>(if v then [p] else [])++(l.rows++r.rows)
theorem sortP_same {a d:Nat} {L M:List (List Int)} (hL:∀y∈L,y.length=d) (hp:L.Perm M):sortP a L=sortP a M:=by
 have hM:∀y∈M,y.length=d:=fun y hy=>hL y (hp.mem_iff.2 hy)
 exact sorted_one hM ((sortP_perm a L).trans hp) (sortP_sorted hL)
theorem lay_perm {d:Nat} {L M:List (List Int)} {t:Nat} (hL:∀y∈L,y.length=d) (hp:L.Perm M):lay L t=lay M t:=by
 have hM:∀y∈M,y.length=d:=fun y hy=>hL y (hp.mem_iff.2 hy)
 by_cases h0:L=[]
 ·subst h0
  rw [List.nil_perm.1 hp]
 ·have h1:M≠[]:=fun e=>h0 (by rw [e] at hp;exact List.perm_nil.1 hp)
  have hd:∀ {K:List (List Int)},K≠[]→(∀y∈K,y.length=d)→(K.headD []).length=d:=fun {K} hK hy=>by
   cases K with
   | nil=>exact absurd rfl hK
   | cons x K=>exact hy x (by simp)
  rw [lay_go h0,lay_go h1,hd h0 hL,hd h1 hM,sortP_same hL hp,hp.length_eq]
def F (side:Bool) (q:List Int) (v:Bool) (c o:T):T:=if side then .fork q v o c else .fork q v c o
end Go.Proofs.YtinihaflmdihaaaGreat.Kt
namespace Go.Proofs.YtinihaflmdihaaaGreat.Kt
open Go.RowKit Go.Proofs.YtinihaflmdihaaaGreat.Nd Go.Proofs.YtinihaflmdihaaaGreat.Dk Go.Proofs.YtinihaflmdihaaaGreat.Pg
open List renaming setIfInBounds_toArray → sA, set_cons_zero → sZ, set_cons_succ → sS
abbrev Ent:=List Int×Bool×Nat
def V.ents:V→Nat→List Ent
 | .nil,_=>[]
 | .bad _,_=>[]
 | .fork p v l r,t=>(p,v,t)::(l.ents (t+1)++r.ents (t+1))
structure DoOk (B:Nat) (F:Nat) (cap:Array Value) (I:(Nat→Prop)→List Ent→World→Prop):Prop where
 lt:∀X L w,I X L w→∀k,X k→k<w.heap.size
 later:∀X L w w',I X L w→Below w.heap.size w w'→I X L w'
 run:∀X L w (r:Rw) (v:Bool) (t:Nat),I X L w→r.Ok w→(∀x,r.p=some x→r.R≠[]→¬X x.block∧B≤x.block)→t≤1000000000→L.length≤100000→
  Calls Tryz.prog F (#[.agg #[r.val,.bool v],.int .i64 t]++cap) w fun e w'=>e= .returned (.tuple #[])∧∃X',I X' (L++[(r.R,v,t)]) w'∧(∀k,X' k→X k∨w.heap.size≤k)∧Only X w w'
def EachPost (w:World) (I:(Nat→Prop)→List Ent→World→Prop) (X:Nat→Prop) (L:List Ent) (u:V) (t:Nat) (e:Ending) (w':World):Prop:=
 ∃(err:Int) (M:List Ent) (X':Nat→Prop),e= .returned (.int .i64 err)∧I X' (L++M) w'∧(∀k,X' k→X k∨w.heap.size≤k)∧Only X w w'∧(u.whole=true→err=0∧M=u.ents t)∧(u.whole=false→err=21)∧(M.length:Int)≤u.kid.size
theorem getSays_nil {gs:Nat} {d:Int} {k:Kd} {ga oa:Nat} {w:World} (hk:k.Ok w) (hr:w.rangeAt ga oa k.cells) (he:k.pk=PK.none):GetSays (some ⟨gs,0,none⟩) d ga oa 0 w:=fun _ hb=>kget_empty _ d k ga oa _ (hk.later hb) (range_later hr hb) he
theorem NodeBad.later {gs:Nat} {k:Kd} {d:Int} {w w':World} (h:NodeBad gs k d w) (hb:Below w.heap.size w w'):NodeBad gs k d w':=fun w2 h2=>h w2 (hb.trans (h2.mono hb.size))
theorem NodeGood.later {gs:Nat} {k:Kd} {d:Int} {N:PN} {w w':World} (h:NodeGood gs k d N w) (hb:Below w.heap.size w w'):NodeGood gs k d N w':=fun w2 h2=>h w2 (hb.trans (h2.mono hb.size))
theorem getSays_bad {gs:Nat} {d:Int} {k:Kd} {ga oa:Nat} {w:World} (hk:k.Ok w) (hr:w.rangeAt ga oa k.cells) (he:k.pk≠PK.none) (hg:NodeBad gs k d w):GetSays (some ⟨gs,0,none⟩) d ga oa 21 w:=fun _ hb=>kget_bad k ga oa _ (hk.later hb) (range_later hr hb) he (hg.later hb)
def TextsK (d:Nat) (W:Pages):Prop:=∀x∈W,∃N,Txt d x.2 N
theorem Forks.texts {d:Nat} {W:Pages} (h:Forks d W):TextsK d W:=fun x hx=>by
 obtain ⟨N,hN,_⟩:=h x hx
 exact ⟨N,hN⟩
theorem says_some {N:PN} (h:1≤N.size):N.says≠PK.none:=fun e=>by
 have:N.size=0:=congrArg PK.size e
 omega
theorem node_bad {gs d:Nat} {Q:Nat→Prop} {s:Pg.S} {k:Kd} {w:World} (hp:PL w gs Q s) (hW:TextsK d s.W) (hk:k.Ok w) (hs:Sees s.W d (.bad k.pk)):NodeBad gs k d w:=by
 obtain ⟨h1,h2,h3,h4⟩:=hs
 cases ht:textAt s.W k.sum with
 | none=>exact nodeBad_none hp hk ht
 | some t=>
  obtain ⟨N,hN⟩:∃N,Txt d t N:=by
   unfold textAt at ht
   split at ht
   ·rename_i hi
    have:=hW _ (Pg.getD_mem hi)
    rw [Option.some.inj ht] at this
    exact this
   ·cases ht
  exact nodeBad_txt hp hk ht hN (h4 t N ht hN)
theorem node_good {gs d:Nat} {Q:Nat→Prop} {s:Pg.S} {k:Kd} {w:World} {p:List Int} {v:Bool} {l r:V} (hp:PL w gs Q s) (hk:k.Ok w) (he:k.pk=(V.fork p v l r).kid) (hs:Sees s.W d (.fork p v l r)):NodeGood gs k d (forkN p v l.kid r.kid) w:=by
 obtain ⟨h1,h2,h3,h4⟩:=hs
 refine nodeGood_txt hp hk ?_ h1 he.symm
 rw [← h2]
 exact congrArg (textAt s.W) (congrArg PK.sum he)
theorem sees_size {d:Nat} {W:Pages} {u:V} (h:Sees W d u):0≤u.kid.size:=(kid_zero (sees_right h).1).1
theorem fork_kids {E:List En} {KK:List Kd} {p:List Int} {v:Bool} {a b:PK} (h:pnOf 1 E KK=forkN p v a b):∃e k1 k2,E=[e]∧KK=[k1,k2]∧e.row.R=p∧e.live=v∧k1.pk=a∧k2.pk=b:=by
 unfold pnOf forkN at h
 simp only [PN.mk.injEq] at h
 obtain ⟨_,h1,h2⟩:=h
 match E,KK,h1,h2 with
 |[e],[k1,k2],h1,h2=>
  simp only [List.map_cons,List.map_nil,List.cons.injEq,and_true] at h1 h2
  exact ⟨e,k1,k2,rfl,rfl,congrArg PE.row h1,congrArg PE.live h1,h2.1,h2.2⟩
 |[],_,h1,_=>simp at h1
 | _::_::_,_,h1,_=>simp at h1
 |[_],[],_,h2=>simp at h2
 |[_],[_],_,h2=>simp at h2
 |[_],_::_::_::_,_,h2=>simp at h2
theorem fresh_parts {B mid:Nat} {w:World} {p:Option Addr} {n c:Nat} {q:Option Addr} {m f:Nat} {e:En} {k1 k2:Kd} (h:Fresh B mid w p n c q m f [e] [k1,k2]):n=1∧m=2∧∃ge gk,p=some ⟨ge,0,none⟩∧q=some ⟨gk,0,none⟩∧w.rangeAt ge 0 [e.row.val,.bool e.live]∧w.rangeAt gk 0 k1.cells∧w.rangeAt gk 37 k2.cells∧e.row.Ok w∧k1.Ok w∧k2.Ok w∧B≤ge∧mid≤gk:=by
 have hn:n=1:=h.ents.len
 have hm:m=2:=h.kids.lst.len
 subst hn hm
 have hE:=h.ents_in (by decide)
 have hK:=h.kids_in (by decide)
 obtain ⟨ge,hge,he⟩:=(h.ents.range (fun e _=>rfl)).resolve_left (by simp)
 obtain ⟨gk,hgk,hk⟩:=(h.kids.lst.range (fun k hk=>Kd.cells_length (h.kids.good k hk).1)).resolve_left (by simp)
 refine ⟨rfl,rfl,ge,gk,hge,hgk,(show w.rangeAt ge 0 e.cells from by have:=he 0 (by simp);simpa using this),by have:=hk 0 (by simp);simpa using this,by have:=hk 1 (by simp);simpa using this,hE.each e (by simp),hK.each k1 (by simp),hK.each k2 (by simp),?_,?_⟩
 ·exact (h.ents.own.lt ge (by rw [hge];rfl)).1
 ·exact (h.kids.lst.own.lt gk (by rw [hgk];rfl)).1
theorem keach_any {gs d B:Nat} {Q:Nat→Prop} {s:Pg.S} {F:Nat} {cap:Array Value} {I:(Nat→Prop)→List Ent→World→Prop} (hW:TextsK d s.W) (hF:∀args w,(callFunc F args).run Tryz.prog w= .ok (.enter F args) w) (hI:DoOk B F cap I):∀(u:V) (k:Kd) (ga oa t:Nat) (w:World) (X:Nat→Prop) (L:List Ent),PL w gs Q s→Sees s.W d u→k.Ok w→w.rangeAt ga oa k.cells→k.pk=u.kid→I X L w→(∀j,Q j→¬X j)→(t:Int)+u.kid.size≤1000000→(L.length:Int)+u.kid.size≤100000→B≤w.heap.size→
  Calls Tryz.prog 74 #[.agg #[.pointer (some ⟨gs,0,none⟩),.int .i64 d],.pointer (some ⟨ga,oa,none⟩),.int .i64 t,.func (.func F) #[] cap] w (EachPost w I X L u t)
 | .nil,k,ga,oa,t,w,X,L,hp,hs,hk,hr,he,hi,hq,ht,hll,hbw=>by
  refine (each_zero (some ⟨gs,0,none⟩) d t 0 ga oa (.func (.func F) #[] cap) w (getSays_nil hk hr he)).mono ?_
  rintro e w' ⟨rfl,hb⟩
  exact ⟨0,[],X,rfl,by rw [List.append_nil];exact hI.later _ _ _ _ hi hb,fun _ h=>Or.inl h,Only.of_below _ hb,(fun _=>⟨rfl,rfl⟩),(fun h=>by cases h),Int.le_refl _⟩
 | .bad kk,k,ga,oa,t,w,X,L,hp,hs,hk,hr,he,hi,hq,ht,hll,hbw=>by
  have he':k.pk=kk:=he
  subst he'
  refine (each_zero (some ⟨gs,0,none⟩) d t 21 ga oa (.func (.func F) #[] cap) w (getSays_bad hk hr hs.1 (node_bad hp hW hk hs))).mono ?_
  rintro e w' ⟨rfl,hb⟩
  exact ⟨21,[],X,rfl,by rw [List.append_nil];exact hI.later _ _ _ _ hi hb,fun _ h=>Or.inl h,Only.of_below _ hb,(fun h=>by cases h),(fun _=>rfl),(kid_zero hs.2.1).1⟩
 | .fork p v l r,k,ga,oa,t,w,X,L,hp,hs,hk,hr,he,hi,hq,ht,hll,hbw=>by
  have ih1:=keach_any (gs:=gs) (Q:=Q) hW hF hI l
  have ih2:=keach_any (gs:=gs) (Q:=Q) hW hF hI r
  have hgd:=node_good hp hk he hs
  have hsz:(V.fork p v l r).kid.size=1+(l.kid.size+r.kid.size):=fork_size p v l.kid r.kid
  have hz1:=sees_size hs.2.2.1
  have hz2:=sees_size hs.2.2.2
  have hne:k.pk≠PK.none:=by
   rw [he]
   exact says_some (by rw [fork_size];omega)
  have b1:Below w.heap.size w (w.alloc (.cells #[.pointer (some ⟨gs,0,none⟩),.int .i64 d] 91)):=(Below.refl _ _).alloc (Nat.le_refl _) _
  have r1:=heap_alloc_new w (.cells #[.pointer (some ⟨gs,0,none⟩),.int .i64 d] 91)
  have HGF:=Lib.hid (kget_fork k ga oa _ (hk.later b1) (range_later hr b1) hne (hgd.later b1) rfl)
  have HIH1:=Lib.hid ih1
  have HIH2:=Lib.hid ih2
  have HI:=Lib.hid (hI.later _ _ _ _ hi b1)
  have HII:=Lib.hid hI
  have HP:=Lib.hid hp
  have HS:=Lib.hid hs
  have HQ:=Lib.hid hq
  have HT:=Lib.hid (show (t:Int)+(1+(l.kid.size+r.kid.size))≤1000000∧0≤l.kid.size∧0≤r.kid.size∧(L.length:Int)+(1+(l.kid.size+r.kid.size))≤100000 from ⟨by omega,hz1,hz2,by omega⟩)
  have HSZ:=Lib.hid hsz
  have HBW:=Lib.hid hbw
  have HXL:=Lib.hid (hI.lt _ _ _ hi)
  have R1:=Lib.hid r1
  have R1r:=Lib.hid (range_tr r1)
  have B1:=Lib.hid b1
  obtain ⟨du,hdu,hdr⟩:=UTr
  obtain ⟨dn,hdn,hdnr⟩:=UNo
  obtain ⟨de,hde,hder⟩:=UEnt
  have HDU:=Lib.hid hdu
  have HDR:=Lib.hid hdr
  have HDN:=Lib.hid hdn
  have HDNR:=Lib.hid hdnr
  have HDE:=Lib.hid hde
  have HDER:=Lib.hid hder
  have q3:IntKind.i64.wrap ((t:Int)+1)=((t+1:Nat):Int):=by rw [IntWalk.i64_in _ (by omega)];rfl
  clear ih1 ih2 hgd hsz hz1 hz2 hne b1 r1 hp hs hk hr he hi hq ht hll hbw hdu hdr hdn hdnr hde hder hI
  go_enter Tryz.func74,Tryz.ntmps74
  go_upto_region 1 with fail
  generalize w.alloc (.cells #[.pointer (some ⟨gs,0,none⟩),.int .i64 d] 91)=w1 at *
  go_upto_region 2 with (first
   | (refine wpList_load_mid (by rfl) 91 _ (by rfl) w.heap.size 0 (by rfl) [.pointer (some ⟨gs,0,none⟩),.int .i64 d] du R1r.out HDU.out HDR.out STr ?_)
   | (go_at_call 120;refine HGF.out.mono ?_;rintro _ w3 ⟨pe,ne,ce,pk,nk,ck,EE,KK,mid,rfl,hpn,hfr,b3⟩;have HPN:=Lib.hid hpn;have HFR:=Lib.hid hfr;have B3:=Lib.hid b3;clear b3 hpn hfr)
   | (refine wpList_store_row (by rfl) 81 (.tmp 9) _ (by rfl) w3.heap.size #[.int .u8 1,.slice pe ne ce,.slice pk nk ck] (by rfl) (by rfl) _ _ (heap_alloc_new w3 _) SNo rfl (nd3_one 1 pe ne ce pk nk ck) ?_;rw [setRow_alloc]))
  obtain ⟨e,k1,k2,rfl,rfl,hR,hlv,hk1,hk2⟩:=fork_kids HPN.out
  obtain ⟨rfl,rfl,ge,gk,rfl,rfl,hra,hrk1,hrk2,hrok,hok1,hok2,hbe,hbk⟩:=fresh_parts HFR.out
  obtain ⟨⟨rp,rn,rc,rR⟩,lv⟩:=e
  simp only at hR hlv hra hrok
  subst hR hlv
  unfold Rw.val at hra
  simp only at hra
  have hb4:Below w3.heap.size w3 (w3.alloc (.cells #[.int .u8 1,.slice (some ⟨ge,0,none⟩) 1 ce,.slice (some ⟨gk,0,none⟩) 2 ck] 81)):=(Below.refl _ _).alloc (Nat.le_refl _) _
  have hr4:=heap_alloc_new w3 (.cells #[.int .u8 1,.slice (some ⟨ge,0,none⟩) 1 ce,.slice (some ⟨gk,0,none⟩) 2 ck] 81)
  have hs4:(w3.alloc (.cells #[.int .u8 1,.slice (some ⟨ge,0,none⟩) 1 ce,.slice (some ⟨gk,0,none⟩) 2 ck] 81)).heap.size=w3.heap.size+1:=by simp
  generalize w3.alloc (.cells #[.int .u8 1,.slice (some ⟨ge,0,none⟩) 1 ce,.slice (some ⟨gk,0,none⟩) 2 ck] 81)=w4 at *
  have hb14:=B3.out.trans (hb4.mono B3.out.size)
  have HB14:=Lib.hid hb14
  have HI4:=Lib.hid (HII.out.later _ _ _ _ HI.out hb14)
  have HXS:=Lib.hid (show ∀j,X j→j<w.heap.size from HXL.out)
  have RA4:=Lib.hid (show w4.rangeAt ge 0 [.slice rp rn rc,.bool lv] from range_later hra hb4)
  have HN4:=Lib.hid hr4
  have RK1:=Lib.hid (range_later hrk1 hb4)
  have RK2:=Lib.hid (range_later hrk2 hb4)
  have HRO:=Lib.hid (show (⟨rp,rn,rc,rR⟩:Rw).Ok w4 from hrok.later hb4)
  have HK1:=Lib.hid (hok1.later hb4)
  have HK2:=Lib.hid (hok2.later hb4)
  have HPK1:=Lib.hid hk1
  have HPK2:=Lib.hid hk2
  have HZ4:=Lib.hid (show w.heap.size<w1.heap.size∧w1.heap.size≤w3.heap.size∧w4.heap.size=w3.heap.size+1∧w1.heap.size≤ge∧w1.heap.size≤gk from ⟨(Array.getElem?_eq_some_iff.1 R1.out).1,B3.out.size,hs4,hbe,by have:=HFR.out.base;omega⟩)
  have HT4:=Lib.hid ((hb14.block _ (Array.getElem?_eq_some_iff.1 R1.out).1).trans R1.out)
  have HRX:=Lib.hid (show ∀x,rp=some x→rR≠[]→¬X x.block∧B≤x.block from fun x hx hR0=>by
   have h2:=(HFR.out.ents.each ⟨⟨rp,rn,rc,rR⟩,lv⟩ (by simp) ⟨rp,rn,rc,rR⟩ (by simp [En.rows])).1.lo x hx hR0
   have h3:=HZ4.out
   have h4:=HBW.out
   exact ⟨fun h=>by have:=HXL.out _ h;omega,by omega⟩)
  have HKX:=Lib.hid (show ∀kd∈[k1,k2],∀r∈kd.rows,∀x,r.p=some x→r.R≠[]→w1.heap.size≤x.block from fun kd hkd r hr x hx hR0=>by
   have h2:=(HFR.out.kids.lst.each kd hkd r hr).1.lo x hx hR0
   have:=HFR.out.base
   omega)
  have c1:=cell_of_row w4 w3.heap.size 1 _ _ _ hr4
  clear hra hrk1 hrk2 hrok hok1 hok2 hbe hbk hb4 hr4 hs4 hb14 hk1 hk2 HFR HPN HI HXL R1 R1r HGF
  go_wp2_with fail
  refine wp_loop_rounds 2 ?_
  rw [rounds_succ]
  go_upto_region 5 with (first
   | (refine wpList_load_mid (by rfl) 85 _ (by rfl) ge 0 (by rfl) [.slice rp rn rc,.bool lv] de RA4.out HDE.out HDER.out SEnt ?_)
   | (refine wpList_store_row (by rfl) 85 (.tmp 12) (.tmp 26) (by rfl) w4.heap.size #[.slice rp rn rc,.bool lv] (by rfl) (by rfl) _ _ (heap_alloc_new w4 _) SEnt rfl (by rfl) ?_;rw [setRow_alloc]))
  have hb5:Below w4.heap.size w4 (w4.alloc (.cells #[.slice rp rn rc,.bool lv] 85)):=(Below.refl _ _).alloc (Nat.le_refl _) _
  have hr5:=heap_alloc_new w4 (.cells #[.slice rp rn rc,.bool lv] 85)
  generalize w4.alloc (.cells #[.slice rp rn rc,.bool lv] 85)=w5 at *
  have HRUN:=Lib.hid (HII.out.run X L w5 ⟨rp,rn,rc,rR⟩ lv t (HII.out.later _ _ _ _ HI4.out hb5) (HRO.out.later hb5) HRX.out (by have:=HT.out;omega) (by have:=HT.out;omega))
  have R5:=Lib.hid (range_tr hr5)
  have B5:=Lib.hid hb5
  unfold Rw.val at HRUN
  simp only at HRUN
  clear hb5 hr5 HI4 HRO HRX
  go_upto_region 6 with (first
   | (refine wpList_load_mid (by rfl) 85 _ (by rfl) w4.heap.size 0 (by rfl) [.slice rp rn rc,.bool lv] de R5.out HDE.out HDER.out SEnt ?_)
   | (refine HRUN.out.mono ?_;rintro _ w6 ⟨rfl,X6,hi6,hx6,ho6⟩;have HI6:=Lib.hid hi6;have HX6:=Lib.hid hx6;have HO6:=Lib.hid ho6;clear hi6 hx6 ho6))
  have HS6:=Lib.hid (show w4.heap.size<w6.heap.size from Nat.lt_of_lt_of_le (by have h:=(block_lt_of_cell (R5.out 0 _ rfl):w4.heap.size<w5.heap.size);exact h) HO6.out.size)
  have HK46:=Lib.hid (show ∀j,j<w4.heap.size→¬X j→w6.heap[j]? =w4.heap[j]? from fun j hj hx=>(HO6.out.block j (by have:=B5.out.size;omega) hx).trans (B5.out.block j hj))
  have HX46:=Lib.hid (show ∀j,X6 j→X j∨w4.heap.size≤j from fun j hj=>(HX6.out j hj).imp id (fun h=>by have:=B5.out.size;omega))
  have HO46:=Lib.hid ((Only.of_below X B5.out).trans HO6.out)
  have HN6:=Lib.hid ((HK46.out w3.heap.size (by have:=HZ4.out;omega) (fun h=>by have:=HXS.out _ h;have:=HZ4.out;omega)).trans HN4.out)
  have HT6:=Lib.hid ((HK46.out w.heap.size (by have:=HZ4.out;omega) (fun h=>by have:=HXS.out _ h;omega)).trans HT4.out)
  have hkeep:∀kd∈[k1,k2],kd.Ok w4→kd.Ok w6:=fun kd hkd h=>by
   have key:∀r∈kd.rows,r.Ok w6:=fun r hr=>Nd.rw_keep (kd_rows_ok h r hr) fun y hy hR=>HK46.out _ (rw_lt (kd_rows_ok h r hr) y hy hR) (fun h2=>by have:=HXS.out _ h2;have:=HKX.out kd hkd r hr y hy hR;have:=HZ4.out;omega)
   exact ⟨h.len,h.ok,key _ (by simp [Kd.rows]),key _ (by simp [Kd.rows]),key _ (by simp [Kd.rows]),h.live,h.size⟩
  have HK16:=Lib.hid (hkeep k1 (by simp) HK1.out)
  have HX2:=Lib.hid (show ∀r∈k2.rows,∀y,r.p=some y→r.R≠[]→¬X6 y.block from fun r hr y hy hR h=>(HX46.out _ h).elim (fun h=>by have:=HXS.out _ h;have:=HKX.out k2 (by simp) r hr y hy hR;have:=HZ4.out;omega) (fun h=>by have:=rw_lt (kd_rows_ok HK2.out r hr) y hy hR;omega))
  have HK26:=Lib.hid (hkeep k2 (by simp) HK2.out)
  have HGKL:=Lib.hid (show gk<w4.heap.size from block_lt_of_cell (RK1.out 0 _ (by rw [List.getElem?_eq_getElem (by rw [Kd.cells_length HK1.out.len];decide)])))
  have RK16:=Lib.hid (show w6.rangeAt gk 0 k1.cells from fun j v hv=>(World.cell?_of_block (HK46.out gk HGKL.out (fun h2=>by have:=HXS.out _ h2;have:=HZ4.out;omega))).trans (RK1.out j v hv))
  have RK26:=Lib.hid (show w6.rangeAt gk 37 k2.cells from fun j v hv=>(World.cell?_of_block (HK46.out gk HGKL.out (fun h2=>by have:=HXS.out _ h2;have:=HZ4.out;omega))).trans (RK2.out j v hv))
  have HP6:=Lib.hid (show PL w6 gs Q s from ((HP.out.keep (fun _=>False) (Only.of_below _ B1.out) (fun _ _ e=>e)).keep (fun _=>False) (Only.of_below _ HB14.out) (fun _ _ e=>e)).keep X HO46.out HQ.out)
  have HQ6:=Lib.hid (show ∀j,Q j→¬X6 j from fun j hj h=>(HX46.out j h).elim (HQ.out j hj) (fun h=>by have:=HP.out.lt j hj;have:=HZ4.out;omega))
  have HOW:=Lib.hid (show Only X w w6 from ((Only.of_below X B1.out).trans (Only.of_below X HB14.out)).trans HO46.out)
  have HC1:=Lib.hid (HIH1.out k1 gk 0 (t+1) w6.drew X6 (L++[(rR,lv,t)]) (HP6.out.keep (fun _=>False) (Only.of_below _ (Below.refl _ _).drew) (fun _ _ e=>e)) HS.out.2.2.1 (HK16.out.later (Below.refl _ _).drew) RK16.out HPK1.out (HII.out.later _ _ _ _ HI6.out (Below.refl _ _).drew) HQ6.out (by have:=HT.out;omega) (by have:=HT.out;simp only [List.length_append,List.length_cons,List.length_nil];omega) (by have h1:=HBW.out;have h2:=HOW.out.size;exact Nat.le_trans h1 h2))
  have HX6L:=Lib.hid (HII.out.lt _ _ _ HI6.out)
  have HCL1:=Lib.hid (Kd.cells_length HK16.out.len)
  clear hkeep HRUN R5 B5 HK1 HK2 RK1 RK2 HN4 HT4 RA4 HIH1 HI6
  clear c1
  have c2:=cell_of_row w6 w3.heap.size 2 _ _ _ HN6.out
  go_wp2_with fail
  rw [rounds_succ]
  go_wp2_with fail
  refine wp_loop_rounds 3 ?_
  rw [rounds_succ]
  have HXW:=Lib.hid (show ∀j,w.heap.size≤j→j<w4.heap.size→¬X6 j from fun j h1 h2 h=>(HX46.out j h).elim (fun h=>by have:=HXS.out _ h;omega) (fun h=>by omega))
  cases hlw:l.whole with
  | false=>
   have HLW:=Lib.hid hlw
   clear hlw
   go_upto_region 11 with fail
   refine wp_region_held_drew (S:=fun w'=>∀j,j<w6.heap.size→¬X6 j→w'.heap[j]? =w6.heap[j]?) (by kernel_rfl) (fun _ _ _=>rfl) (fun hHeld=>?_)
   refine tQ 0 ?_ ?_ ?_
   rotate_left
   ·intro w' hSw
    refine Eq.trans (b:=Result.ok (Next.value (.agg #[.pointer (some ⟨gs,0,none⟩),.int .i64 d])) w') ?_ ?_
    ·exact op_load_mid 91 (.tmp 4) (by rfl) w.heap.size 0 (by rfl) [.pointer (some ⟨gs,0,none⟩),.int .i64 d] du (range_tr ((hSw w.heap.size (Array.getElem?_eq_some_iff.1 HT6.out).1 (HXW.out _ (by have:=HZ4.out;omega) (by have:=HZ4.out;omega))).trans HT6.out)) HDU.out HDR.out STr
    ·with_reducible rfl
   refine tK 1 ?_
   refine tQ 2 ?_ ?_ ?_
   rotate_left
   ·intro w' hSw
    have y:w'.cell? ⟨w3.heap.size,2,none⟩=some (.slice (some ⟨gk,0,none⟩) 2 ck):=(World.cell?_of_block (hSw w3.heap.size (Array.getElem?_eq_some_iff.1 HN6.out).1 (HXW.out _ (by have:=HZ4.out;omega) (by have:=HZ4.out;omega)))).trans (cell_of_row w6 w3.heap.size 2 _ _ _ HN6.out)
    go_simp
    try with_reducible rfl
   refine tK 3 ?_
   refine tK 4 ?_
   refine tK 5 ?_
   refine tK 6 ?_
   refine tK 7 ?_
   refine rY [8] ?_
   refine rC (fun K hK=>?_) AllReadyH.nil
   go_simp
   refine HC1.out.mono ?_
   rintro _ w7 ⟨err1,M1,X7,rfl,hi7,hx7,ho7,hw7,hb7,hml1⟩
   obtain rfl:=hb7 HLW.out
   have HI7:=Lib.hid hi7
   have HML1:=Lib.hid hml1
   have HX7:=Lib.hid hx7
   have HO7:=Lib.hid ho7
   have hS:∀j,j<w6.heap.size→¬X6 j→w7.heap[j]? =w6.heap[j]? :=fun j h1 h2=>HO7.out.block j h1 h2
   clear hi7 hx7 ho7 hw7 hb7 hml1
   try go_wp2_with fail
   refine hK.out _ _ hS (fun hHeld=>?_)
   clear hK K
   try simp only [Act.put,sA,sZ,sS]
   refine tK 9 ?_
   refine wpAnyH_done (by kernel_rfl) ?_ _
   go_wp2_with fail
   rw [rounds_succ]
   go_wp2_with fail
   rw [rounds_succ]
   go_wp2_with fail
   (try simp only [Exit.inBlock,Exit.then])
   go_ret
   refine ⟨21,(rR,lv,t)::M1,X7,rfl,by have h:=HI7.out;rw [List.append_assoc] at h;exact h,fun j hj=>?_,?_,fun h=>?_,fun _=>rfl,?_⟩
   ·rcases HX7.out j hj with h | h
    ·exact (HX46.out j h).imp id fun h=>by have:=HZ4.out;omega
    ·have h2:w6.heap.size≤j:=h
     have:=HS6.out
     have:=HZ4.out
     exact Or.inr (by omega)
   ·refine ⟨HO7.out.os.trans HOW.out.os,HO7.out.tape.trans HOW.out.tape,HO7.out.output.trans HOW.out.output,Nat.le_trans HOW.out.size HO7.out.size,fun j hj hn=>(HO7.out.block j (by have:=HOW.out.size;exact Nat.lt_of_lt_of_le hj this) (fun h=>(HX46.out j h).elim hn (fun h=>by have:=HZ4.out;omega))).trans (HOW.out.block j hj hn)⟩
   ·have h2:(l.whole&&r.whole)=true:=h
    rw [HLW.out] at h2
    cases h2
   ·rw [HSZ.out]
    have:=HML1.out
    have:=HT.out
    simp only [List.length_cons]
    omega
  | true=>
   have HLW:=Lib.hid hlw
   clear hlw
   go_upto_region 11 with fail
   refine wp_region_held_drew (S:=fun w'=>∀j,j<w6.heap.size→¬X6 j→w'.heap[j]? =w6.heap[j]?) (by kernel_rfl) (fun _ _ _=>rfl) (fun hHeld=>?_)
   refine tQ 0 ?_ ?_ ?_
   rotate_left
   ·intro w' hSw
    refine Eq.trans (b:=Result.ok (Next.value (.agg #[.pointer (some ⟨gs,0,none⟩),.int .i64 d])) w') ?_ ?_
    ·exact op_load_mid 91 (.tmp 4) (by rfl) w.heap.size 0 (by rfl) [.pointer (some ⟨gs,0,none⟩),.int .i64 d] du (range_tr ((hSw w.heap.size (Array.getElem?_eq_some_iff.1 HT6.out).1 (HXW.out _ (by have:=HZ4.out;omega) (by have:=HZ4.out;omega))).trans HT6.out)) HDU.out HDR.out STr
    ·with_reducible rfl
   refine tK 1 ?_
   refine tQ 2 ?_ ?_ ?_
   rotate_left
   ·intro w' hSw
    have y:w'.cell? ⟨w3.heap.size,2,none⟩=some (.slice (some ⟨gk,0,none⟩) 2 ck):=(World.cell?_of_block (hSw w3.heap.size (Array.getElem?_eq_some_iff.1 HN6.out).1 (HXW.out _ (by have:=HZ4.out;omega) (by have:=HZ4.out;omega)))).trans (cell_of_row w6 w3.heap.size 2 _ _ _ HN6.out)
    go_simp
    try with_reducible rfl
   refine tK 3 ?_
   refine tK 4 ?_
   refine tK 5 ?_
   refine tK 6 ?_
   refine tK 7 ?_
   refine rY [8] ?_
   refine rC (fun K hK=>?_) AllReadyH.nil
   go_simp
   refine HC1.out.mono ?_
   rintro _ w7 ⟨err1,M1,X7,rfl,hi7,hx7,ho7,hw7,hb7,hml1⟩
   obtain rfl:=(hw7 HLW.out).1
   obtain rfl:=(hw7 HLW.out).2
   have HI7:=Lib.hid hi7
   have HML1:=Lib.hid hml1
   have HX7:=Lib.hid hx7
   have HO7:=Lib.hid ho7
   have hS:∀j,j<w6.heap.size→¬X6 j→w7.heap[j]? =w6.heap[j]? :=fun j h1 h2=>HO7.out.block j h1 h2
   clear hi7 hx7 ho7 hw7 hb7 hml1
   try go_wp2_with fail
   refine hK.out _ _ hS (fun hHeld=>?_)
   clear hK K
   try simp only [Act.put,sA,sZ,sS]
   refine tK 9 ?_
   refine wpAnyH_done (by kernel_rfl) ?_ _
   go_wp2_with fail
   have HOW7:=Lib.hid (show Only X w w7 from ⟨HO7.out.os.trans HOW.out.os,HO7.out.tape.trans HOW.out.tape,HO7.out.output.trans HOW.out.output,Nat.le_trans HOW.out.size HO7.out.size,fun j hj hn=>(HO7.out.block j (by have:=HOW.out.size;exact Nat.lt_of_lt_of_le hj this) (fun h=>(HX46.out j h).elim hn (fun h=>by have:=HZ4.out;omega))).trans (HOW.out.block j hj hn)⟩)
   have HS7:=Lib.hid (show w6.heap.size≤w7.heap.size from HO7.out.size)
   have HX47:=Lib.hid (show ∀j,X7 j→X j∨w4.heap.size≤j from fun j hj=>(HX7.out j hj).elim (HX46.out j) (fun h=>Or.inr (by have h2:w6.heap.size≤j:=h;have:=HS6.out;omega)))
   have HK67:=Lib.hid (show ∀j,j<w6.heap.size→¬X6 j→w7.heap[j]? =w6.heap[j]? from fun j h1 h2=>HO7.out.block j h1 h2)
   have HT7:=Lib.hid ((HK67.out w.heap.size (Array.getElem?_eq_some_iff.1 HT6.out).1 (HXW.out _ (by omega) (by have:=HZ4.out;omega))).trans HT6.out)
   have HN7:=Lib.hid ((HK67.out w3.heap.size (Array.getElem?_eq_some_iff.1 HN6.out).1 (HXW.out _ (by have:=HZ4.out;omega) (by have:=HZ4.out;omega))).trans HN6.out)
   have RK27:=Lib.hid (show w7.rangeAt gk 37 k2.cells from fun j v hv=>(World.cell?_of_block (HK67.out gk (by have:=HGKL.out;have:=HS6.out;omega) (HXW.out _ (by have:=HZ4.out;omega) HGKL.out))).trans (RK26.out j v hv))
   have HK27:=Lib.hid (show k2.Ok w7 from by
    have key:∀r∈k2.rows,r.Ok w7:=fun r hr=>Nd.rw_keep (kd_rows_ok HK26.out r hr) fun y hy hR=>HK67.out _ (rw_lt (kd_rows_ok HK26.out r hr) y hy hR) (HX2.out r hr y hy hR)
    exact ⟨HK26.out.len,HK26.out.ok,key _ (by simp [Kd.rows]),key _ (by simp [Kd.rows]),key _ (by simp [Kd.rows]),HK26.out.live,HK26.out.size⟩)
   have HP7:=Lib.hid (show PL w7 gs Q s from (HP6.out.keep (fun _=>False) (Only.of_below _ (Below.refl _ _).drew) (fun _ _ e=>e)).keep X6 HO7.out HQ6.out)
   have HQ7:=Lib.hid (show ∀j,Q j→¬X7 j from fun j hj h=>(HX47.out j h).elim (HQ.out j hj) (fun h=>by have:=HP.out.lt j hj;have:=HZ4.out;omega))
   have HXW7:=Lib.hid (show ∀j,w.heap.size≤j→j<w4.heap.size→¬X7 j from fun j h1 h2 h=>(HX47.out j h).elim (fun h=>by have:=HXS.out _ h;omega) (fun h=>by omega))
   have HC2:=Lib.hid (HIH2.out k2 gk 37 (t+1) w7.drew X7 (L++[(rR,lv,t)]++l.ents (t+1)) (HP7.out.keep (fun _=>False) (Only.of_below _ (Below.refl _ _).drew) (fun _ _ e=>e)) HS.out.2.2.2 (HK27.out.later (Below.refl _ _).drew) RK27.out HPK2.out (HII.out.later _ _ _ _ HI7.out (Below.refl _ _).drew) HQ7.out (by have:=HT.out;omega) (by have:=HT.out;have:=HML1.out;simp only [List.length_append,List.length_cons,List.length_nil];omega) (by have h1:=HBW.out;have h2:=HOW7.out.size;exact Nat.le_trans h1 h2))
   clear HXW
   have HXW:=HXW7
   rw [rounds_succ]
   go_upto_region 11 with fail
   refine wp_region_held_drew (S:=fun w'=>∀j,j<w7.heap.size→¬X7 j→w'.heap[j]? =w7.heap[j]?) (by kernel_rfl) (fun _ _ _=>rfl) (fun hHeld=>?_)
   refine tQ 0 ?_ ?_ ?_
   rotate_left
   ·intro w' hSw
    refine Eq.trans (b:=Result.ok (Next.value (.agg #[.pointer (some ⟨gs,0,none⟩),.int .i64 d])) w') ?_ ?_
    ·exact op_load_mid 91 (.tmp 4) (by rfl) w.heap.size 0 (by rfl) [.pointer (some ⟨gs,0,none⟩),.int .i64 d] du (range_tr ((hSw w.heap.size (Array.getElem?_eq_some_iff.1 HT7.out).1 (HXW.out _ (by have:=HZ4.out;omega) (by have:=HZ4.out;omega))).trans HT7.out)) HDU.out HDR.out STr
    ·with_reducible rfl
   refine tK 1 ?_
   refine tQ 2 ?_ ?_ ?_
   rotate_left
   ·intro w' hSw
    have y:w'.cell? ⟨w3.heap.size,2,none⟩=some (.slice (some ⟨gk,0,none⟩) 2 ck):=(World.cell?_of_block (hSw w3.heap.size (Array.getElem?_eq_some_iff.1 HN7.out).1 (HXW.out _ (by have:=HZ4.out;omega) (by have:=HZ4.out;omega)))).trans (cell_of_row w7 w3.heap.size 2 _ _ _ HN7.out)
    go_simp
    try with_reducible rfl
   refine tK 3 ?_
   refine tK 4 ?_
   refine tK 5 ?_
   refine tK 6 ?_
   refine tK 7 ?_
   refine rY [8] ?_
   refine rC (fun K hK=>?_) AllReadyH.nil
   go_simp
   refine HC2.out.mono ?_
   rintro _ w8 ⟨err2,M2,X8,rfl,hi8,hx8,ho8,hw8,hb8,hml2⟩
   have HI8:=Lib.hid hi8
   have HML2:=Lib.hid hml2
   have HX8:=Lib.hid hx8
   have HO8:=Lib.hid ho8
   have HW8:=Lib.hid hw8
   have HB8:=Lib.hid hb8
   have hS:∀j,j<w7.heap.size→¬X7 j→w8.heap[j]? =w7.heap[j]? :=fun j h1 h2=>HO8.out.block j h1 h2
   clear hi8 hx8 ho8 hw8 hb8 hml2
   try go_wp2_with fail
   refine hK.out _ _ hS (fun hHeld=>?_)
   clear hK K
   try simp only [Act.put,sA,sZ,sS]
   refine tK 9 ?_
   refine wpAnyH_done (by kernel_rfl) ?_ _
   go_wp2_with fail
   rw [rounds_succ]
   go_wp2_with fail
   (try simp only [Exit.inBlock,Exit.then])
   go_ret
   refine ⟨err2,(rR,lv,t)::(l.ents (t+1)++M2),X8,rfl,by have h:=HI8.out;simp only [List.append_assoc] at h;exact h,fun j hj=>?_,?_,fun h=>?_,fun h=>?_,?_⟩
   ·rcases HX8.out j hj with h | h
    ·exact (HX47.out j h).imp id fun h=>by have:=HZ4.out;omega
    ·have h2:w7.heap.size≤j:=h
     have:=HS6.out
     have:=HS7.out
     have:=HZ4.out
     exact Or.inr (by omega)
   ·refine ⟨HO8.out.os.trans HOW7.out.os,HO8.out.tape.trans HOW7.out.tape,HO8.out.output.trans HOW7.out.output,Nat.le_trans HOW7.out.size HO8.out.size,fun j hj hn=>(HO8.out.block j (by have:=HOW7.out.size;exact Nat.lt_of_lt_of_le hj this) (fun h=>(HX47.out j h).elim hn (fun h=>by have:=HZ4.out;omega))).trans (HOW7.out.block j hj hn)⟩
   ·have h2:(l.whole&&r.whole)=true:=h
    rw [HLW.out,Bool.true_and] at h2
    obtain ⟨h3,h4⟩:=HW8.out h2
    exact ⟨h3,by rw [h4];rfl⟩
   ·have h2:(l.whole&&r.whole)=false:=h
    rw [HLW.out,Bool.true_and] at h2
    exact HB8.out h2
   ·rw [HSZ.out]
    have:=HML1.out
    have:=HML2.out
    have:=HT.out
    simp only [List.length_cons,List.length_append]
    omega
end Go.Proofs.YtinihaflmdihaaaGreat.Kt
