/- KtChg, KlFns, KlBound, KtFine, KlAliveP, KlAliveS, KlAlive. -/
import Derived.Lib.MinMax
import Derived.Test.YtinihaflmdihaaaGreatK33
set_option maxRecDepth 100000
set_option maxHeartbeats 8000000
set_option linter.all false
namespace Go.Proofs.YtinihaflmdihaaaGreat.Kt
open Go.RowKit Go.Proofs.YtinihaflmdihaaaGreat.Nd Go.Proofs.YtinihaflmdihaaaGreat.Pg
structure NewV (W:Pages) (d:Nat) (u u':V) (P:List (List Nat)):Prop where
 kid:NewK d u'.kid
 size:u'.kid.size≤u.kid.size+1
 forks:∀b∈P,∃N,Txt d b N∧N.kind=1
 few:(P.length:Int)≤2*u.kid.size+2
 sees:∀W',(∀x t,textAt W x=some t→textAt W' x=some t)→(∀b∈P,textAt W' (sumOf b)=some b)→u.whole=true→Sees W' d u'
theorem path_whole {u v:V} {L:List St} (h:Path u L v):u.whole=true→v.whole=true:=by
 induction h with
 | nil _=>exact fun h=>h
 | @cons q lv l r sd L v h ih=>
  intro hw
  have hw:(l.whole&&r.whole)=true:=hw
  rw [Bool.and_eq_true] at hw
  cases sd
  ·exact ih hw.1
  ·exact ih hw.2
theorem path_len {W:Pages} {d:Nat} {u v:V} {L:List St} (h:Path u L v):Sees W d u→(L.length:Int)+v.kid.size≤u.kid.size:=by
 induction h with
 | nil _=>intro _;simp
 | @cons q lv l r sd L v h ih=>
  intro hs
  have hsz:(V.fork q lv l r).kid.size=1+(l.kid.size+r.kid.size):=fork_size q lv l.kid r.kid
  have h1:=sees_size hs.2.2.1
  have h2:=sees_size hs.2.2.2
  rw [List.length_cons]
  cases sd
  ·have:=ih hs.2.2.1
   simp only [Bool.false_eq_true,if_false] at this
   omega
  ·have:=ih hs.2.2.2
   simp only [if_true] at this
   omega
theorem end_new {W:Pages} {d:Nat} (hd:1≤d∧d≤8) {p:List Int} (hp:p.length=d) (hpn:∀x∈p,In64 x) {u:V} (hs:Sees W d u) (hz:u.kid.size≤1000000) {L:List St} {s:St} (he:EndOk p s) (hpa:Path u L s.old) (hst:StepOk W d u.kid.size s) (lv:Bool):
  NewV W d u (raiseV L (endV s lv)) ((endN s lv).bytes::raiseP L (endV s lv)):=by
 have hlen:=path_len hpa hs
 have hparts:s.row.length=d∧(∀x∈s.row,In64 x)∧NewK d s.l.kid∧NewK d s.r.kid∧(1+(s.l.kid.size+s.r.kid.size)≤s.old.kid.size+1∧s.old.kid.size≤1+(s.l.kid.size+s.r.kid.size))∧0≤s.old.kid.size∧(s.old.whole=true→s.l.whole=true∧s.r.whole=true):=by
  rcases he with ⟨h1,h2,h3,h4,h5⟩ | h1
  ·rw [h1,h2,h3,h4]
   have hk:NewK d (V.nil).kid:=⟨rfl,rfl,none_nums⟩
   have h0:(V.nil).kid.size=0:=rfl
   exact ⟨hp,hpn,hk,hk,by omega,by omega,fun _=>⟨rfl,rfl⟩⟩
  ·have ho:=hst.old
   rw [h1] at ho ⊢
   obtain ⟨g1,g2,g3,g4⟩:=sees_fork ho
   have hsz:(V.fork s.row s.live s.l s.r).kid.size=1+(s.l.kid.size+s.r.kid.size):=fork_size s.row s.live s.l.kid s.r.kid
   have z1:=g3.size
   have z2:=g4.size
   refine ⟨g1,g2,g3,g4,by omega,by omega,fun hw=>?_⟩
   have hw:(s.l.whole&&s.r.whole)=true:=hw
   rwa [Bool.and_eq_true] at hw
 obtain ⟨h1,h2,h3,h4,h5,h6,h7⟩:=hparts
 have hf:=fork_new (v:=lv) hd h1 h2 h3 h4 (by omega)
 have hz2:=hf.2.2
 have hk:(endV s lv).kid=(forkN s.row lv s.l.kid s.r.kid).says:=rfl
 obtain ⟨g1,g2,g3,g4,g5,g6⟩:=path_raise hd hpa hs (endV s lv) (by rw [hk];exact hf.1) (by rw [hk];omega)
 rw [hk] at g2
 refine ⟨g1,by omega,fun b hb=>?_,?_,fun W' hm hg hw=>?_⟩
 ·rcases List.mem_cons.1 hb with rfl | hb
  ·exact ⟨_,hf.2.1,rfl⟩
  ·exact g4 b hb
 ·rw [List.length_cons,g5]
  omega
 ·obtain ⟨k1,k2⟩:=h7 (path_whole hpa hw)
  exact g6 W' hm (fun b hb=>hg b (List.mem_cons_of_mem _ hb)) hw ⟨hf.2.1,hg _ (List.mem_cons_self ..),whole_stays hm k1 hst.l,whole_stays hm k2 hst.r⟩
theorem lay_new {W:Pages} {d:Nat} (hd:1≤d∧d≤8) {u v:V} (hs:Sees W d u) (hz:u.kid.size≤900000) {L:List St} (hpa:Path u L v) {M:List (List Int)} (t:Nat) (hM:∀y∈M,y.length=d∧∀x∈y,In64 x) (hl:(M.length:Int)≤v.kid.size+1):
  NewV W d u (raiseV L (V.of (lay M t))) ((lay M t).pages++raiseP L (V.of (lay M t))):=by
 have hlen:=path_len hpa hs
 have hsz:=lay_size M t
 have hpl:=pages_length (lay M t)
 have h9:(lay M t).size≤1048576:=by omega
 obtain ⟨h1,h2,h3⟩:=tree_new hd (lay M t) (lay_dims fun y hy=>(hM y hy).1) (fun y hy=>(hM y (lay_ents y hy)).2) h9
 have hof:=of_kid h9
 have hks:=kid_size _ h9
 have hk:(V.of (lay M t)).kid.size=M.length:=by rw [hof,hks,hsz]
 obtain ⟨g1,g2,g3,g4,g5,g6⟩:=path_raise hd hpa hs (V.of (lay M t)) h1 (by omega)
 refine ⟨g1,by omega,fun b hb=>?_,?_,fun W' hm hg hw=>?_⟩
 ·rcases List.mem_append.1 hb with hb | hb
  ·exact h2 b hb
  ·exact g4 b hb
 ·rw [List.length_append,g5]
  omega
 ·exact g6 W' hm (fun b hb=>hg b (List.mem_append_right _ hb)) hw (h3 W' fun b hb=>hg b (List.mem_append_left _ hb))
theorem ins_new {W:Pages} {d:Nat} (hd:1≤d∧d≤8) {p:List Int} (hp:p.length=d) (hpn:∀x∈p,In64 x) {u:V} (hs:Sees W d u) (hz:u.kid.size≤900000) {u':V} {P:List (List Nat)} (h:insV d p u= .inr (u',P)):NewV W d u u' P:=by
 unfold insV at h
 cases hO:wayV d p u 0 with
 | none=>rw [hO] at h;cases h
 | some X=>
  obtain ⟨L,s⟩:=X
  rw [hO] at h
  simp only at h
  obtain ⟨he,hpa,hpt⟩:=way_path u 0 L s hO
  have hst:=way_steps hp (sees_size hs) u 0 hs (Int.le_refl _) L s hO
  have hge:=settle_ge (L++[s]) 0
  split at h
  ·cases h
  ·split at h
   ·cases h
    exact end_new hd hp hpn hs (by omega) he hpa (hst s (by simp)) true
   ·rename_i hne
    split at h
    ·rename_i hw
     cases h
     have hpath:Path u ((L++[s]).take (settle 0 (L++[s])).1) ((L++[s]).getD (settle 0 (L++[s])).1 s).old:=by
      have hle:(settle 0 (L++[s])).1≤L.length:=by have:=hge.2;simp at this;omega
      generalize (settle 0 (L++[s])).1=i at *
      rw [List.take_append_of_le_length hle]
      rcases Nat.lt_or_ge i L.length with hi | hi
      ·rw [List.getD_eq_getElem?_getD,List.getElem?_append_left hi,← List.getD_eq_getElem?_getD]
       exact hpt i hi
      ·obtain rfl:i=L.length:=by omega
       rw [List.take_length,List.getD_eq_getElem?_getD,List.getElem?_append_right (Nat.le_refl _),Nat.sub_self]
       exact hpa
     have hmem:(L++[s]).getD (settle 0 (L++[s])).1 s∈L++[s]:=by
      have hle:(settle 0 (L++[s])).1<(L++[s]).length:=by have:=hge.2;simp at this ⊢;omega
      rw [List.getD_eq_getElem?_getD,List.getElem?_eq_getElem hle]
      exact List.getElem_mem _
     have hso:=(hst _ hmem).old
     refine lay_new hd hs hz hpath _ (fun y hy=>?_) ?_
     ·rcases List.mem_append.1 hy with hy | hy
      ·exact ⟨sees_dims hso y hy,rows64 hso y hy⟩
      ·rw [List.mem_singleton.1 hy]
       exact ⟨hp,hpn⟩
     ·have hr:=rows_size hso
      have hn:=sees_nums hso
      rw [hw] at hr
      rw [List.length_append]
      rw [List.length_singleton]
      rcases hr with hr | hr
      ·omega
      ·cases hr
    ·cases h
theorem del_new {W:Pages} {d:Nat} (hd:1≤d∧d≤8) {p:List Int} (hp:p.length=d) (hpn:∀x∈p,In64 x) {u:V} (hs:Sees W d u) (hz:u.kid.size≤900000) {u':V} {P:List (List Nat)} (h:delV d p u= .inr (u',P)):NewV W d u u' P:=by
 unfold delV at h
 cases hO:wayV d p u 0 with
 | none=>rw [hO] at h;cases h
 | some X=>
  obtain ⟨L,s⟩:=X
  rw [hO] at h
  simp only at h
  obtain ⟨he,hpa,-⟩:=way_path u 0 L s hO
  have hst:=way_steps hp (sees_size hs) u 0 hs (Int.le_refl _) L s hO
  split at h
  ·cases h
  ·split at h
   ·cases h
    exact end_new hd hp hpn hs (by omega) he hpa (hst s (by simp)) false
   ·split at h
    ·rename_i hw
     cases h
     have hl:=lay_new (L:=[]) hd hs hz (.nil u) (M:=u.rows.filter fun y=> !decide (y=p)) 0 (fun y hy=>⟨sees_dims hs y (List.mem_filter.1 hy).1,rows64 hs y (List.mem_filter.1 hy).1⟩) (by
      have hr:=rows_size hs
      have hn:=sees_nums hs
      have hf:=List.length_filter_le (fun y=> !decide (y=p)) u.rows
      rw [hw] at hr
      rcases hr with hr | hr
      ·omega
      ·cases hr)
     have e:∀A:List (List Nat),A++raiseP [] (V.of (lay (u.rows.filter fun y=> !decide (y=p)) 0))=A:=fun A=>List.append_nil A
     rw [e] at hl
     exact hl
    ·cases h
theorem NewV.behind {s:Pg.S} {d:Nat} {u u':V} {P:List (List Nat)} (h:NewV s.W d u u' P) (hw:u.whole=true) (hc:(puts s P).cl=none):Sees (puts s P).W d u':=
 h.sees _ (fun _ _ ht=>text_puts P ht) (fun b hb=>puts_got P hc b hb) hw
end Go.Proofs.YtinihaflmdihaaaGreat.Kt
namespace Go.Proofs.YtinihaflmdihaaaGreat.Kt
open Go.RowKit Go.Proofs.YtinihaflmdihaaaGreat.Nd Go.Proofs.YtinihaflmdihaaaGreat.Mo
def dimsP (d:Nat):Nat:=1+d%5
theorem dims_any (d:Nat) (hd:d<256) (w:World):Calls Tryz.prog 12 #[.int .u8 d] w fun e w'=>e= .returned (.int .i64 (dimsP d))∧w'=w:=by
 have q1:(d:Int).tmod 5=((d%5:Nat):Int):=by rw [Int.tmod_eq_emod_of_nonneg (by omega)];rfl
 have hm:d%5<5:=Nat.mod_lt _ (by omega)
 have HD:=yH (show dimsP d=1+d%5 from rfl)
 generalize hx:d%5=x at *
 clear hx
 have q2:IntKind.i64.wrap (x:Int)=x:=IntWalk.i64_in _ (by omega)
 have q3:IntKind.i64.wrap (1+(x:Int))=1+(x:Int):=IntWalk.i64_in _ (by omega)
 go_enter Tryz.func12,Tryz.ntmps12
 go_wp2_with fail
 go_ret
 refine ⟨?_,rfl⟩
 rw [HD.out]
 first | rfl | (congr 2;omega) | (simp)
def fitP (R:List Int) (d:Nat):List Int:=(List.range d).map fun i=>R.getD i 0
def partP (R:List Int) (d k:Nat):List Int:=(List.range d).map fun i=>if i<k then R.getD i 0 else 0
theorem fitP_length (R:List Int) (d:Nat):(fitP R d).length=d:=by simp [fitP]
theorem partP_length (R:List Int) (d k:Nat):(partP R d k).length=d:=by simp [partP]
theorem partP_zero (R:List Int) (d:Nat):partP R d 0=List.replicate d 0:=by
 unfold partP
 apply List.ext_getElem
 ·simp
 ·intro i h1 h2
  simp
theorem partP_set (R:List Int) (d k:Nat) (hk:k<d):(partP R d k).set k (R.getD k 0)=partP R d (k+1):=by
 unfold partP
 apply List.ext_getElem
 ·simp
 ·intro i h1 h2
  rw [List.getElem_set]
  simp only [List.getElem_map,List.getElem_range]
  by_cases hi:k=i
  ·subst hi
   simp
  ·rw [if_neg hi]
   by_cases hik:i<k
   ·rw [if_pos hik,if_pos (by omega)]
   ·rw [if_neg hik,if_neg (by omega)]
theorem partP_end (R:List Int) (d k:Nat) (h:R.length≤k∨d≤k):partP R d k=fitP R d:=by
 unfold partP fitP
 apply List.map_congr_left
 intro i hi
 have hid:=List.mem_range.1 hi
 split
 ·rfl
 ·rw [List.getD_eq_getElem?_getD,List.getElem?_eq_none (by omega)]
  rfl
theorem fitP_ok {R:List Int} {d:Nat} (h:∀x∈R,-9223372036854775808≤x∧x≤9223372036854775807):∀x∈fitP R d,-9223372036854775808≤x∧x≤9223372036854775807:=fun x hx=>by
 obtain ⟨i,_,rfl⟩:=List.mem_map.1 hx
 rw [List.getD_eq_getElem?_getD]
 cases hr:R[i]? with
 | none=>simp
 | some y=>exact h y (List.mem_of_getElem? hr)
def FtRel (w:World) (X:Nat) (R:List Int) (n d:Nat) (i:Value) (wr:World):Prop:=∃k:Nat,k≤n∧k≤d∧i= .int .i64 k∧wr.heap[X]? =some (.cells (Mo.i64s (partP R d k)) 2 (0,0))∧Below w.heap.size w wr
def FitPost (w:World) (R:List Int) (d:Nat) (e:Ending) (w':World):Prop:=∃r:Rw,e= .returned r.val∧r.R=fitP R d∧r.n=d∧FrRw w' w.heap.size r∧Below w.heap.size w w'
theorem fit_any (p:Option Addr) (n c:Nat) (R:List Int) (d:Nat) (w:World) (h:Ints w p n c R) (hn:n≤9223372036854775807) (hd:d≤8):
  Calls Tryz.prog 14 #[.slice p n c,.int .i64 d] w (FitPost w R d):=by
 have M1:=Mo.make_row d (by omega) w
 have hb1:Below w.heap.size w (w.alloc (.cells (Mo.i64s (List.replicate d 0)) 2)):=(Below.refl _ _).alloc (Nat.le_refl _) _
 have r1:=heap_alloc_new w (.cells (Mo.i64s (List.replicate d 0)) 2)
 rw [← partP_zero R d] at r1
 have HB1:=yH hb1
 have R1:=yH r1
 have HI:=yH h
 have HN:=yH h.size
 have HO:=yH h.ok
 clear h hb1 r1
 go_enter Tryz.func14,Tryz.ntmps14
 go_upto_region 3 with fail
 rw [partP_zero R d] at R1
 generalize w.alloc (.cells (Mo.i64s (List.replicate d 0)) 2)=w1 at *
 rw [← partP_zero R d] at R1
 clear M1
 go_wp2_with fail
 go_loopw [6] (fun i wr=>FtRel w w.heap.size R n d i wr) (fun i _=>d - (intOf i).toNat)
 case atStart=>exact ⟨0,by omega,by omega,rfl,R1.out,HB1.out⟩
 case round=>
  obtain ⟨k,hkn,hkd,rfl,hrow,hb⟩:=hrel
  have HR:=yH hrow
  have HB:=yH hb
  clear hrow hb
  by_cases hln:k<n
  ·have d1:(k:Int)<n:=by omega
   by_cases hld:k<d
   ·have d2:(k:Int)<d:=by omega
    obtain ⟨g,o,rfl,hc⟩:=(HI.out.later HB.out).cell k hln
    have i1:(0:Int)≤k∧(k:Int)<n:=by omega
    have i2:(0:Int)≤k∧(k:Int)<d:=by omega
    have q1:IntKind.i64.wrap ((k:Int)+1)=(k:Int)+1:=IntWalk.i64_in _ (by omega)
    have f1:=frozen_of_row wr w.heap.size k _ _ HR.out
    have c1:=cell_of_row wr w.heap.size k _ _ _ HR.out
    rw [Mo.i64s_get _ _ (by rw [partP_length];exact hld)] at c1
    have r9:=heap_setCell_same wr w.heap.size k _ _ (.int .i64 (R.getD k 0)) HR.out
    rw [Mo.i64s_put,partP_set R d k hld] at r9
    have R9:=yH r9
    have B9:=yH (show Below w.heap.size w (wr.setCell ⟨w.heap.size,k,none⟩ (.int .i64 (R.getD k 0))) from HB.out.setCell (p:=⟨w.heap.size,k,none⟩) (Nat.le_refl _) _)
    generalize R.getD k 0=x at *
    clear r9
    go_wp2_with fail
    go_roundw
    case rel=>exact ⟨k+1,by omega,by omega,by go_num,R9.out,B9.out⟩
    case measure=>simp [intOf];omega
   ·have d2:¬(k:Int)<d:=by omega
    have HE:=yH (partP_end R d k (Or.inr (by omega)))
    go_wp2_with fail
    go_ret
    have hr:=HR.out
    rw [HE.out] at hr
    exact ⟨⟨some ⟨w.heap.size,0,none⟩,d,d,fitP R d⟩,rfl,rfl,rfl,⟨⟨by have:=Mo.i64s_ints hr (fitP_ok HO.out);rwa [fitP_length] at this,by show d≤_;omega⟩,fun y hy _=>by
     obtain rfl:y=⟨w.heap.size,0,none⟩:=by simpa using hy.symm
     exact Nat.le_refl _⟩,HB.out⟩
  ·have d1:¬(k:Int)<n:=by omega
   have HE:=yH (partP_end R d k (Or.inl (by rw [← HN.out];omega)))
   go_wp2_with fail
   go_ret
   have hr:=HR.out
   rw [HE.out] at hr
   exact ⟨⟨some ⟨w.heap.size,0,none⟩,d,d,fitP R d⟩,rfl,rfl,rfl,⟨⟨by have:=Mo.i64s_ints hr (fitP_ok HO.out);rwa [fitP_length] at this,by show d≤_;omega⟩,fun y hy _=>by
    obtain rfl:y=⟨w.heap.size,0,none⟩:=by simpa using hy.symm
    exact Nat.le_refl _⟩,HB.out⟩
end Go.Proofs.YtinihaflmdihaaaGreat.Kt
namespace Go.Proofs.YtinihaflmdihaaaGreat.Kt
open Go.RowKit
end Go.Proofs.YtinihaflmdihaaaGreat.Kt
namespace Go.Proofs.YtinihaflmdihaaaGreat.Kt
open Go.RowKit Go.Proofs.YtinihaflmdihaaaGreat.Nd Go.Proofs.YtinihaflmdihaaaGreat.Pg
def T.bal:T→Prop
 | .nil=>True
 | .fork _ _ l r=>max l.size r.size≤2*(1+l.size+r.size)/3+1∧l.bal∧r.bal
theorem layP_bal:∀(n:Nat) (L:List (List Int)) (t:Nat),L.length≤n→(layP n L t).bal
 | 0,L,t,_=>trivial
 | n+1,L,t,h=>by
  rw [layP]
  by_cases hL:L=[]
  ·rw [if_pos hL]
   trivial
  ·rw [if_neg hL]
   have hp:=List.length_pos_iff.2 hL
   have l1:((sortP (t%(L.headD []).length) L).take (L.length/2)).length≤n:=by rw [List.length_take,sortP_length];omega
   have l2:((sortP (t%(L.headD []).length) L).drop (L.length/2+1)).length≤n:=by rw [List.length_drop,sortP_length];omega
   refine ⟨?_,layP_bal n _ _ l1,layP_bal n _ _ l2⟩
   rw [layP_size _ _ _ l1,layP_size _ _ _ l2,List.length_take,List.length_drop,sortP_length]
   omega
theorem lay_bal (L:List (List Int)) (t:Nat):(lay L t).bal:=layP_bal _ L t (Nat.le_refl _)
theorem light_bal {p:List Int} {v:Bool} {l r:T} {t:Nat} (hl:l.bal) (hr:r.bal):(light (.fork p v l r) t).bal:=by
 unfold light
 simp only
 split
 ·exact lay_bal _ _
 ·exact ⟨by omega,hl,hr⟩
theorem insert_bal:∀(u:T) (p:List Int) (t:Nat),u.bal→(insertT u p t).1.bal
 | .nil,p,t,_=>⟨by decide,trivial,trivial⟩
 | .fork q v l r,p,t,h=>by
  unfold insertT
  split
  ·exact light_bal h.2.1 h.2.2
  ·split
   ·exact light_bal (insert_bal l p (t+1) h.2.1) h.2.2
   ·exact light_bal h.2.1 (insert_bal r p (t+1) h.2.2)
theorem remove_bal:∀(u:T) (p:List Int) (t:Nat),u.bal→(removeT u p t).1.bal
 | .nil,p,t,_=>trivial
 | .fork q v l r,p,t,h=>by
  unfold removeT
  split
  ·exact h
  ·split
   ·exact ⟨by rw [remove_size];exact h.1,remove_bal l p (t+1) h.2.1,h.2.2⟩
   ·exact ⟨by rw [remove_size];exact h.1,h.2.1,remove_bal r p (t+1) h.2.2⟩
structure Fine (d:Nat) (u:T):Prop where
 dims:u.dims d
 bst:u.bst d 0
 bal:u.bal
 few:u.size≤2*u.all.length
 nums:∀y∈u.ents,∀x∈y,In64 x
theorem fine_nil (d:Nat):Fine d .nil:=⟨trivial,trivial,trivial,Nat.le_refl _,fun y hy=>by cases hy⟩
theorem insert_fine {d:Nat} {u:T} {p:List Int} (h:Fine d u) (hp:p.length=d) (hpn:∀x∈p,In64 x) (hi:(insertT u p 0).2=true):Fine d (insertT u p 0).1:=by
 have hb:=insert_bst hp u 0 h.dims h.bst
 have ha:=(insert_all u p 0 hi).length_eq
 have hz:=insert_size u p 0
 have hf:=h.few
 rw [List.length_append,List.length_singleton] at ha
 refine ⟨insert_dims h.dims hp,hb.1,insert_bal u p 0 h.bal,by omega,fun y hy=>?_⟩
 rcases hb.2 y hy with rfl | hy
 ·exact hpn
 ·exact h.nums y hy
theorem delete_fine {d:Nat} {u:T} {p:List Int} (h:Fine d u) (hr:(removeT u p 0).2=true):Fine d (deleteT u p).1:=by
 have hb:=delete_bst (p:=p) h.dims h.bst
 have hd:=delete_dims (p:=p) h.dims
 refine ⟨hd,hb,?_,?_,?_⟩
 ·unfold deleteT
  split
  ·exact lay_bal _ _
  ·exact remove_bal u p 0 h.bal
 ·unfold deleteT
  split
  ·rw [lay_size,(lay_all _ 0).length_eq]
   omega
  ·rename_i hc
   rw [hr] at hc
   simp only [true_and] at hc
   omega
 ·unfold deleteT
  split
  ·intro y hy
   have:=all_ents _ y (lay_ents y hy)
   rw [remove_ents] at this
   exact h.nums y this
  ·intro y hy
   rw [remove_ents] at hy
   exact h.nums y hy
theorem ins_tree {d:Nat} {u:T} {p:List Int} (h:Fine d u) (hp:p.length=d) (hz:u.size<900000):((insertT u p 0).2=false→insV d p (V.of u)= .inl 8)∧((insertT u p 0).2=true→∃P,insV d p (V.of u)= .inr (V.of (insertT u p 0).1,P)):=by
 obtain ⟨A,s,h1,h2,h3⟩:=way_insert hp u 0 h.dims (by omega)
 refine ⟨fun hi=>?_,fun hi=>?_⟩
 ·rw [hi] at h2
  unfold insV
  rw [h1]
  simp only
  rw [if_pos (by simpa using h2)]
 ·rw [hi] at h2
  have hl:s.live=false:=by simpa using h2
  obtain ⟨g1,g2,g3⟩:=h3 hl
  have hlen:(A++[s]).length=A.length+1:=by simp
  unfold insV
  rw [h1]
  simp only
  rw [if_neg (by rw [hl];exact Bool.false_ne_true)]
  rcases g3 with ⟨k1,k2⟩ | ⟨k1,st,w,k2,k3,k4⟩
  ·rw [Nat.zero_add,hlen] at k1
   rw [if_pos k1]
   exact ⟨_,by rw [show raiseV A (endV s true)=V.of (insertT u p 0).1 from k2]⟩
  ·rw [Nat.zero_add,hlen] at k1
   rw [Nat.sub_zero] at k2 k4
   have e:(A++[s]).getD (settle 0 (A++[s])).1 s=st:=by rw [List.getD_eq_getElem?_getD,k2];rfl
   rw [if_neg (by omega),e,k3,of_whole,if_pos rfl]
   exact ⟨_,by rw [k4]⟩
theorem del_tree {d:Nat} {u:T} {p:List Int} (h:Fine d u) (hp:p.length=d) (hz:u.size<900000):((removeT u p 0).2=false→delV d p (V.of u)= .inl 9)∧((removeT u p 0).2=true→∃P,delV d p (V.of u)= .inr (V.of (deleteT u p).1,P)):=by
 obtain ⟨A,s,h1,h2,h3⟩:=way_remove hp u 0 h.dims
 refine ⟨fun hi=>?_,fun hi=>?_⟩
 ·rw [hi] at h2
  unfold delV
  rw [h1]
  simp only
  rw [if_pos h2]
 ·have hl:s.live=true:=h2.trans hi
  have hof:=of_kid (u:=u) (by omega)
  have hks:=kid_size u (by omega)
  have hkl:=kid_live u (by omega)
  have hla:=lives_all u
  have hra:=(remove_all u p 0 hi).length_eq
  rw [List.length_append,List.length_singleton] at hra
  have hrs:=remove_size u p 0
  unfold delV
  rw [h1]
  simp only
  rw [if_neg (by rw [hl];exact fun e=>by cases e),hof,hks,hkl]
  unfold deleteT
  by_cases hc:2*(removeT u p 0).1.all.length<(removeT u p 0).1.size
  ·rw [if_neg (by omega),of_whole,if_pos rfl,if_pos ⟨hi,hc⟩]
   have hlay:=lay_perm (t:=0) (fun y hy=>by
    obtain ⟨h4,-⟩:=List.mem_filter.1 hy
    exact all_dims h.dims y ((rows_perm u).mem_iff.1 h4)) (rows_left h.bst hi)
   exact ⟨_,by rw [hlay]⟩
  ·rw [if_pos (by omega),if_neg (fun e=>hc e.2)]
   exact ⟨_,by rw [show raiseV A (endV s false)=V.of (removeT u p 0).1 from h3 hl]⟩
end Go.Proofs.YtinihaflmdihaaaGreat.Kt
namespace Go.Proofs.YtinihaflmdihaaaGreat.Kt
open Go.RowKit Go.Proofs.YtinihaflmdihaaaGreat.Nd Go.Proofs.YtinihaflmdihaaaGreat.Dk Go.Proofs.YtinihaflmdihaaaGreat.Pg
def exs:Nat→T
 | 0=>.nil
 | 1=>ex4
 | 2=>ex5
 | _=>ex6
def exPg:Nat→List (List Nat)
 | 0=>[]
 | 1=>ex4.pages
 | 2=>ex4.pages++ex5.pages
 | _=>ex4.pages++ex5.pages++ex6.pages
def exS (j:Nat):Pg.S:=puts (puts ⟨[],none⟩ exT.pages) (exPg j)
theorem ex_ins (j:Nat) (hj:j<3):insV 1 [((4+j:Nat):Int)] (V.of (exs j))= .inr (V.of (exs (j+1)),(exs (j+1)).pages):=by
 match j,hj with
 | 0,_=>rfl
 | 1,_=>rfl
 | 2,_=>rfl
theorem exS_succ (j:Nat) (hj:j<3):puts (exS j) (exs (j+1)).pages=exS (j+1):=by
 unfold exS
 generalize puts ⟨[],none⟩ exT.pages=s
 match j,hj with
 | 0,_=>rfl
 | 1,_=>exact (puts_append s ex4.pages ex5.pages).symm
 | 2,_=>exact (puts_append s (ex4.pages++ex5.pages) ex6.pages).symm
theorem exS_clean (j:Nat) (hj:j≤3):(exS j).cl=none:=by
 have h3:(exS 3).cl=none:=by
  have h:=ex_clean
  unfold exPages at h
  rw [puts_append] at h
  exact h
 have hs:∀j,j<3→(exS (j+1)).cl=none→(exS j).cl=none:=fun j hj h=>by
  rw [← exS_succ j hj] at h
  exact clean_puts _ h
 match j,hj with
 | 3,_=>exact h3
 | 2,_=>exact hs 2 (by omega) h3
 | 1,_=>exact hs 1 (by omega) (hs 2 (by omega) h3)
 | 0,_=>exact hs 0 (by omega) (hs 1 (by omega) (hs 2 (by omega) h3))
theorem in64s {x:Int} (h0:0≤x) (h1:x≤100):In64 x:=⟨by omega,by omega⟩
theorem exs_nums (j:Nat):(exs j).dims 1∧(∀y∈(exs j).ents,∀x∈y,In64 x)∧(exs j).size≤3:=by
 have key:∀t:T,t.dims 1→(t.ents.all fun y=>y.all fun x=>decide (0≤x)&&decide (x≤100))=true→t.size≤3→t.dims 1∧(∀y∈t.ents,∀x∈y,In64 x)∧t.size≤3:=fun t h1 h2 h3=>⟨h1,fun y hy x hx=>by
  have:=List.all_eq_true.1 (List.all_eq_true.1 h2 y hy) x hx
  rw [Bool.and_eq_true,decide_eq_true_eq,decide_eq_true_eq] at this
  exact in64s this.1 this.2,h3⟩
 match j with
 | 0=>exact key _ trivial rfl (by decide)
 | 1=>exact key _ ⟨rfl,trivial,trivial⟩ rfl (by decide)
 | 2=>exact key _ ⟨rfl,trivial,rfl,trivial,trivial⟩ rfl (by decide)
 | j+3=>exact key ex6 ⟨rfl,trivial,rfl,trivial,rfl,trivial,trivial⟩ rfl (by decide)
theorem exT_nums:exT.dims 1∧(∀y∈exT.ents,∀x∈y,In64 x)∧exT.size≤3:=by
 refine ⟨⟨rfl,⟨rfl,trivial,trivial⟩,rfl,trivial,trivial⟩,fun y hy x hx=>?_,by decide⟩
 have h2:(exT.ents.all fun y=>y.all fun x=>decide (0≤x)&&decide (x≤100))=true:=rfl
 have:=List.all_eq_true.1 (List.all_eq_true.1 h2 y hy) x hx
 rw [Bool.and_eq_true,decide_eq_true_eq,decide_eq_true_eq] at this
 exact in64s this.1 this.2
theorem puts_gotP {s:Pg.S} {L:List (List Nat)} (h:(puts s L).cl=none):∀b∈L,textAt (puts s L).W (sumOf b)=some b:=puts_got L h
theorem puts_exPg0 (s:Pg.S):puts s (exPg 0)=s:=rfl
theorem sees_puts {t:T} (h1:t.dims 1) (h2:∀y∈t.ents,∀x∈y,In64 x) (h3:t.size≤3) {s:Pg.S} {L:List (List Nat)} (hc:(puts s L).cl=none) (hL:∀b∈t.pages,b∈L):Sees (puts s L).W 1 (V.of t):=
 (tree_new (d:=1) (by omega) t h1 h2 (by omega)).2.2 _ fun b hb=>puts_gotP hc b (hL b hb)
theorem exT_sees:Sees (exS 0).W 1 (V.of exT):=by
 have hc:=exS_clean 0 (by omega)
 unfold exS at hc ⊢
 rw [puts_exPg0] at hc ⊢
 exact sees_puts exT_nums.1 exT_nums.2.1 exT_nums.2.2 hc (fun b hb=>hb)
theorem exs_in (j:Nat) (hj:j≤3):∀b∈(exs j).pages,b∈exPg j:=fun b hb=>by
 match j,hj with
 | 0,_=>cases hb
 | 1,_=>exact hb
 | 2,_=>exact List.mem_append_right _ hb
 | 3,_=>exact List.mem_append_right _ hb
theorem exs_sees (j:Nat) (hj:j≤3):Sees (exS j).W 1 (V.of (exs j)):=by
 have hc:=exS_clean j hj
 unfold exS at hc ⊢
 exact sees_puts (exs_nums j).1 (exs_nums j).2.1 (exs_nums j).2.2 hc (exs_in j hj)
theorem exS_forks (j:Nat):Forks 1 (exS j).W:=by
 have hp:∀j,∀b∈(exs j).pages,∃N,Txt 1 b N∧N.kind=1:=fun j=>(tree_new (d:=1) (by omega) (exs j) (exs_nums j).1 (exs_nums j).2.1 (by have:=(exs_nums j).2.2;omega)).2.1
 have ht:∀b∈exT.pages,∃N,Txt 1 b N∧N.kind=1:=(tree_new (d:=1) (by omega) exT exT_nums.1 exT_nums.2.1 (by have:=exT_nums.2.2;omega)).2.1
 refine forks_puts _ (forks_puts _ (fun x hx=>by cases hx) ht) fun b hb=>?_
 match j with
 | 0=>cases hb
 | 1=>exact hp 1 b hb
 | 2=>
  rcases List.mem_append.1 hb with hb | hb
  ·exact hp 1 b hb
  ·exact hp 2 b hb
 | j+3=>
  rcases List.mem_append.1 hb with hb | hb
  ·rcases List.mem_append.1 hb with hb | hb
   ·exact hp 1 b hb
   ·exact hp 2 b hb
  ·exact hp 3 b hb
theorem exPg_len (j:Nat):(exPg j).length≤6:=by
 have e4:ex4.pages.length=1:=pages_length ex4
 have e5:ex5.pages.length=2:=pages_length ex5
 have e6:ex6.pages.length=3:=pages_length ex6
 unfold exPg
 generalize ex4.pages=p4 at *
 generalize ex5.pages=p5 at *
 generalize ex6.pages=p6 at *
 split
 ·exact Nat.zero_le _
 ·omega
 ·rw [List.length_append];omega
 ·rw [List.length_append,List.length_append];omega
theorem exS_len (j:Nat):(exS j).W.length≤20:=by
 have h1:=puts_few exT.pages ⟨[],none⟩
 have h2:=puts_few (exPg j) (puts ⟨[],none⟩ exT.pages)
 have e0:exT.pages.length=3:=pages_length exT
 have e4:ex4.pages.length=1:=pages_length ex4
 have e5:ex5.pages.length=2:=pages_length ex5
 have e6:ex6.pages.length=3:=pages_length ex6
 have h0:(⟨[],none⟩:Pg.S).W.length=0:=rfl
 unfold exS
 generalize ex4.pages=p4 at *
 generalize ex5.pages=p5 at *
 generalize ex6.pages=p6 at *
 generalize puts ⟨[],none⟩ exT.pages=s at *
 have e:(exPg j).length≤6:=exPg_len j
 omega
theorem exs_size (j:Nat):(V.of (exs j)).kid.size≤3:=by
 rw [of_kid (by have:=(exs_nums j).2.2;omega),kid_size _ (by have:=(exs_nums j).2.2;omega)]
 have:=(exs_nums j).2.2
 omega
theorem ints_one {w:World} {g:Nat} {a:Int} (ha:In64 a) (h:w.heap[g]? =some (.cells #[.int .i64 a] 2 (0,0))):(⟨some ⟨g,0,none⟩,1,1,[a]⟩:Rw).Ok w:=by
 refine ⟨⟨rfl,Nat.le_refl _,fun x hx=>?_,Or.inr ⟨g,0,rfl,fun i hi=>?_⟩⟩,by show 1≤_;omega⟩
 ·rw [List.mem_singleton.1 hx]
  exact ha
 ·have hi:i<1:=hi
  obtain rfl:i=0:=by omega
  exact cell_of_row w g 0 _ _ _ h
def rows3 (b:Nat):List Rw:=[⟨some ⟨b,0,none⟩,1,1,[3]⟩,⟨some ⟨b+1,0,none⟩,1,1,[1]⟩,⟨some ⟨b+1+1,0,none⟩,1,1,[2]⟩]
theorem laid3 (w:World):
  RowsIn ((((w.alloc (.cells #[.int .i64 3] 2)).alloc (.cells #[.int .i64 1] 2)).alloc (.cells #[.int .i64 2] 2)).alloc (.cells #[.slice (some ⟨w.heap.size,0,none⟩) 1 1,.slice (some ⟨w.heap.size+1,0,none⟩) 1 1,.slice (some ⟨w.heap.size+1+1,0,none⟩) 1 1] 24)) (some ⟨w.heap.size+1+1+1,0,none⟩) 3 3 (rows3 w.heap.size)∧
  Below w.heap.size w ((((w.alloc (.cells #[.int .i64 3] 2)).alloc (.cells #[.int .i64 1] 2)).alloc (.cells #[.int .i64 2] 2)).alloc (.cells #[.slice (some ⟨w.heap.size,0,none⟩) 1 1,.slice (some ⟨w.heap.size+1,0,none⟩) 1 1,.slice (some ⟨w.heap.size+1+1,0,none⟩) 1 1] 24)):=by
 obtain ⟨W,hW,r0,r1,r2,r3,b⟩:=four_alloc w (.cells #[.int .i64 3] 2) (.cells #[.int .i64 1] 2) (.cells #[.int .i64 2] 2) (.cells #[.slice (some ⟨w.heap.size,0,none⟩) 1 1,.slice (some ⟨w.heap.size+1,0,none⟩) 1 1,.slice (some ⟨w.heap.size+1+1,0,none⟩) 1 1] 24)
 rw [hW]
 refine ⟨⟨rfl,Nat.le_refl _,fun r hr=>?_,Or.inr ⟨w.heap.size+1+1+1,0,rfl,fun i hi=>?_⟩⟩,b⟩
 ·simp only [rows3,List.mem_cons,List.not_mem_nil,or_false] at hr
  rcases hr with rfl | rfl | rfl
  ·exact ints_one ⟨by omega,by omega⟩ r0
  ·exact ints_one ⟨by omega,by omega⟩ r1
  ·exact ints_one ⟨by omega,by omega⟩ r2
 ·have hi:i<3:=hi
  have h:=cell_of_row W (w.heap.size+3) i _ _ _ r3
  rw [Nat.zero_add]
  match i,hi with
  | 0,_=>exact h
  | 1,_=>exact h
  | 2,_=>exact h
theorem aw_kd0 (Q:Nat→Prop):Aw Q kd0:=fun r hr x hx hR=>by
 have e:r=⟨none,0,0,[]⟩:=by simpa [Kd.rows,kd0] using hr
 subst e
 cases hx
structure AlSt (w w7:World) (g B3 bT m:Nat) (kt:Kd) (Q:Nat→Prop) (wr:World):Prop where
 ok:kt.Ok wr
 pk:kt.pk=(V.of (exs (m - 4))).kid
 aw:Aw Q kt
 row:wr.heap[bT]? =some (.cells kt.cells.toArray 34 (0,0))
 st:PL wr g Q (exS (m - 4))
 own:∀k,Q k→(w.heap.size≤k∧k<B3)∨w7.heap.size≤k
 kept:∀k,B3≤k→k<w7.heap.size→k≠bT→wr.heap[k]? =w7.heap[k]?
 low:Below w.heap.size w wr
 size:w7.heap.size≤wr.heap.size
def AlRel (w w7:World) (g B3 bT:Nat) (i:Value) (wr:World):Prop:=∃(m:Nat) (kt:Kd) (Q:Nat→Prop),4≤m∧m≤7∧i= .int .i64 (m:Int)∧AlSt w w7 g B3 bT m kt Q wr
theorem AlSt.next {w w7 wr wr1 wr2:World} {g B3 bT m:Nat} {kt kd:Kd} {Q Q':Nat→Prop} (h:AlSt w w7 g B3 bT m kt Q wr) (hw:w.heap.size≤bT) (hB:B3≤bT) (hT:bT<w7.heap.size) (hb:Below wr.heap.size wr wr1) (hok:kd.Ok wr2) (hpk:kd.pk=(V.of (exs (m+1 - 4))).kid) (hf:Fsh wr1 kd) (hp:PL wr2 g Q' (exS (m+1 - 4))) (hq:∀k,Q' k→Q k∨wr1.heap.size≤k) (ha:Aw Q' kd) (ho:Only Q wr1 wr2):AlSt w w7 g B3 bT (m+1) kd Q' (wr2.setRow bT kd.cells.toArray):=by
 have s0:=h.size
 have s1:=hb.size
 have s2:=ho.size
 have hnq:¬Q bT:=fun e=>by rcases h.own bT e with e | e<;>omega
 have hnq':¬Q' bT:=fun e=>(hq bT e).elim hnq (fun e=>by omega)
 have hos:=only_setRow wr2 bT kd.cells.toArray
 have hrow2:wr2.heap[bT]? =some (.cells kt.cells.toArray 34 (0,0)):=(ho.block bT (by omega) hnq).trans ((hb.block bT (by omega)).trans h.row)
 refine ⟨kd_keep hok fun r hr x hx hR=>hos.block _ (rw_lt (kd_rows_ok hok r hr) x hx hR) (by have:=hf r hr x hx hR;omega),hpk,ha,setRow_heap _ _ _ _ _ _ hrow2,hp.keep _ hos (fun k hk e=>hnq' (e▸hk)),fun k hk=>?_,fun k h1 h2 h3=>?_,?_,Nat.le_trans (by omega) hos.size⟩
 ·rcases hq k hk with e | e
  ·exact h.own k e
  ·right;omega
 ·have hnk:¬Q k:=fun e=>by rcases h.own k e with e | e<;>omega
  rw [hos.block k (by omega) h3,ho.block k (by omega) hnk,hb.block k (by omega)]
  exact h.kept k h1 h2 h3
 ·have l0:=h.low.size
  refine (h.low.trans (hb.mono l0)).trans (((ho.below (by omega) (fun k hk=>?_))).trans (Below.setRow (Below.refl _ _) hw _))
  rcases h.own k hk with e | e
  ·exact e.1
  ·have:=(Nat.le_trans hw (Nat.le_of_lt hT))
   omega
theorem exT_says:(V.of exT).kid.size=3:=by
 rw [of_kid (by decide),kid_size _ (by decide)]
 rfl
theorem ex6_says:(V.of (exs (7 - 4))).kid.live=3:=by
 rw [of_kid (by decide),kid_live _ (by decide)]
 rfl
theorem ex6_deep:deepE ((V.of (exs (7 - 4))).ents 1)=3:=by
 rw [deepE_ents _ _ (by omega)]
 rfl
theorem alive_any (w:World):
  Calls Tryz.prog 11 #[] w fun e w'=>e= .returned (.bool true)∧Below w.heap.size w w':=by
 obtain ⟨du,hdu,hdr⟩:=UKd
 have HDU:=yH hdu
 have HDR:=yH hdr
 have HZ:=yH (zero_of_info kz)
 have HZN:=yH (zero_of_info nz)
 have hz0:=HZ.out.1
 have hz1:=HZN.out.1
 clear hdu hdr
 have e0:exS 0=puts ⟨[],none⟩ exT.pages:=by
  unfold exS
  exact puts_exPg0 _
 have HE0:=yH e0
 clear e0
 go_enter Tryz.func11,Tryz.ntmps11
 go_upto_region 2 with (go_at_call 13;refine (Pg.new_any w).mono ?_;rintro e w1 ⟨g,Q,rfl,l1,q1,b1⟩;have HP1:=yH l1;have HQ1:=yH q1;have HB1:=yH b1;clear l1 q1 b1)
 obtain ⟨hL,hB⟩:=laid3 w1
 generalize hW:(((w1.alloc (.cells #[.int .i64 3] 2)).alloc (.cells #[.int .i64 1] 2)).alloc (.cells #[.int .i64 2] 2)).alloc (.cells #[.slice (some ⟨w1.heap.size,0,none⟩) 1 1,.slice (some ⟨w1.heap.size+1,0,none⟩) 1 1,.slice (some ⟨w1.heap.size+1+1,0,none⟩) 1 1] 24)=w2 at *
 have hPL2:=HP1.out.keep (fun _=>False) (Only.of_below _ hB) (fun _ _ e=>e)
 have hbld:=Build_some (d:=1) (by omega) (some ⟨w1.heap.size+1+1+1,0,none⟩) 3 3 (rows3 w1.heap.size) w2 hL (by omega) (fun r hr=>by
  simp only [rows3,List.mem_cons,List.not_mem_nil,or_false] at hr
  rcases hr with rfl | rfl | rfl<;>rfl) (fun r hr x hx hR e=>by
  have:=HP1.out.lt _ e
  simp only [rows3,List.mem_cons,List.not_mem_nil,or_false] at hr
  rcases hr with rfl | rfl | rfl<;>(cases hx;simp only at this;omega)) hPL2 (by decide)
 have HBLD:=yH (show Calls Tryz.prog 32 #[.pointer (some ⟨g,0,none⟩),.slice (some ⟨w1.heap.size+1+1+1,0,none⟩) 3 3,.int .i64 1] w2 fun e w3=>∃(kd:Kd) (Q':Nat→Prop),e= .returned (.tuple #[.agg kd.cells.toArray,.int .i64 0])∧kd.pk=(V.of exT).kid∧kd.Ok w3∧PL w3 g Q' (exS 0)∧(∀k,Q' k→w.heap.size≤k)∧Below w.heap.size w w3 from hbld.mono fun e w3 h=>by
  have hmap:(rows3 w1.heap.size).map Rw.R=[[3],[1],[2]]:=rfl
  unfold BuiltPost at h
  rw [hmap,ex_lay] at h
  rcases h with ⟨h,-⟩ | ⟨-,kd,Q',rfl,h1,h2,-,h4,h5,h6,h7⟩
  ·exact absurd (by decide) h
  ·have hs1:=HB1.out.size
   have hs2:=hB.size
   refine ⟨kd,Q',rfl,by rw [h1,of_kid (by decide)],h2,by rw [HE0.out];exact h5,fun k hk=>(h6 k hk).elim (fun e=>HQ1.out k e) (fun e=>by omega),(HB1.out.trans (hB.mono hs1)).trans (h7.below (by omega) (fun k hk=>HQ1.out k hk))⟩)
 clear hbld hL hPL2 hB HP1 HQ1 HB1 HE0
 go_upto_region 3 with (first
  | (go_at_call 32;refine HBLD.out.mono ?_;rintro _ w3 ⟨kd,Q3,rfl,hpk,hok,hp3,hq3,hb3⟩;have HPK:=yH hpk;have HOK:=yH hok;have HP3:=yH hp3;have HQ3:=yH hq3;have HB3:=yH hb3;have HCL:=yH (Kd.cells_length hok.len);clear hpk hok hp3 hq3 hb3)
  | (refine wpList_store_row (by rfl) 34 (.tmp 2) (.tmp 18) (by rfl) w3.heap.size kd.cells.toArray (by rfl) (by rfl) _ _ (heap_alloc_new w3 _) (by rw [List.size_toArray,HCL.out];exact SKd) (by simp only [List.size_toArray,HCL.out,kd0_size]) (all_oneCell_toArray Kd.one) ?_;rw [setRow_alloc]))
 clear hW HBLD
 have hbK:Below w3.heap.size w3 (w3.alloc (.cells kd.cells.toArray 34)):=(Below.refl _ _).alloc (Nat.le_refl _) _
 have hrK:=heap_alloc_new w3 (.cells kd.cells.toArray 34)
 have hsK:(w3.alloc (.cells kd.cells.toArray 34)).heap.size=w3.heap.size+1:=by simp
 generalize w3.alloc (.cells kd.cells.toArray 34)=w4 at *
 obtain ⟨bK,hbKe⟩:∃b,b=w3.heap.size:=⟨_,rfl⟩
 rw [← hbKe] at hrK ⊢
 have RK4:=yH (range_kd hrK)
 have HRK:=yH hrK
 have HSK:=yH (show bK=w3.heap.size∧w4.heap.size=bK+1 from ⟨hbKe,by omega⟩)
 have HP4:=yH (HP3.out.keep (fun _=>False) (Only.of_below _ hbK) (fun _ _ e=>e))
 have HB4:=yH (HB3.out.trans (hbK.mono HB3.out.size))
 have HNG:=yH (show Calls Tryz.prog 52 #[.pointer (some ⟨g,0,none⟩),.agg kd.cells.toArray,.int .i64 1] w4 fun e w5=>Below w4.heap.size w4 w5∧∃ge gk ce ck ew k1 k2 mid,e= .returned (.tuple #[.agg #[.int .u8 1,.slice (some ⟨ge,0,none⟩) 1 ce,.slice (some ⟨gk,0,none⟩) 2 ck],.int .i64 0])∧ew.row.R=[2]∧Fresh w4.heap.size mid w5 (some ⟨ge,0,none⟩) 1 ce (some ⟨gk,0,none⟩) 2 ck [ew] [k1,k2] from
  (node_good (d:=1) HP4.out (HOK.out.later hbK) HPK.out exT_sees w4 (Below.refl _ _)).mono fun e w5 ⟨h1,p,n,c,q,m,f,E,K,mid,he,hpn,hfr⟩=>by
   obtain ⟨ew,k1,k2,rfl,rfl,hR,-,-,-⟩:=fork_kids hpn
   obtain ⟨rfl,rfl,ge,gk,rfl,rfl,-⟩:=fresh_parts hfr
   exact ⟨h1,ge,gk,c,f,ew,k1,k2,mid,he,hR,hfr⟩)
 have HP3L:=yH (show ∀k,Q3 k→k<w3.heap.size from HP3.out.lt)
 have HB3S:=yH (show w.heap.size≤w3.heap.size from HB3.out.size)
 clear hbK hrK hsK hbKe HP3 HB3
 go_upto_region 4 with (first
  | (refine wpList_load_mid (by rfl) 34 _ (by rfl) bK 0 (by rfl) kd.cells du RK4.out HDU.out HDR.out (by rw [HCL.out];exact SKd) ?_)
  | (go_at_call 52;refine HNG.out.mono ?_;rintro _ w5 ⟨hb5,ge,gk,ce,ck,ew,k1,k2,mid,rfl,hR,hfr⟩;have HR:=yH hR;have HFR:=yH hfr;have HB5:=yH hb5;clear hR hfr hb5)
  | (refine wpList_store_row (by rfl) 81 (.tmp 4) (.tmp 24) (by rfl) w5.heap.size #[.int .u8 1,.slice (some ⟨ge,0,none⟩) 1 ce,.slice (some ⟨gk,0,none⟩) 2 ck] (by rfl) (by rfl) _ _ (heap_alloc_new w5 _) SNo rfl (nd3_one 1 _ _ _ _ _ _) ?_;rw [setRow_alloc]))
 obtain ⟨bN,hbN⟩:∃b,b=w5.heap.size:=⟨_,rfl⟩
 have hb6:Below w5.heap.size w5 (w5.alloc (.cells #[.int .u8 1,.slice (some ⟨ge,0,none⟩) 1 ce,.slice (some ⟨gk,0,none⟩) 2 ck] 81)):=(Below.refl _ _).alloc (Nat.le_refl _) _
 have hr6:=heap_alloc_new w5 (.cells #[.int .u8 1,.slice (some ⟨ge,0,none⟩) 1 ce,.slice (some ⟨gk,0,none⟩) 2 ck] 81)
 have hs6:(w5.alloc (.cells #[.int .u8 1,.slice (some ⟨ge,0,none⟩) 1 ce,.slice (some ⟨gk,0,none⟩) 2 ck] 81)).heap.size=w5.heap.size+1:=by simp
 generalize w5.alloc (.cells #[.int .u8 1,.slice (some ⟨ge,0,none⟩) 1 ce,.slice (some ⟨gk,0,none⟩) 2 ck] 81)=w6 at *
 rw [← hbN] at hr6 ⊢
 obtain ⟨⟨rp,rn,rc,rR⟩,lw⟩:=ew
 obtain rfl:rR=[2]:=HR.out
 obtain ⟨-,-,ge',gk',h1,h2,hrow,-,-,hrok,-,-,hge,hgk⟩:=fresh_parts HFR.out
 simp only [Option.some.injEq,Addr.mk.injEq,and_true] at h1 h2
 subst h1 h2
 have hlo:=(HFR.out.ents.each _ (List.mem_singleton.2 rfl) _ (List.mem_singleton.2 rfl)).1.lo
 obtain rfl:rn=1:=hrok.ints.size
 obtain ⟨gr,orr,hrp,hcr⟩:=hrok.ints.at'.resolve_left (by simp)
 simp only at hrp hlo
 subst hrp
 have hgr:w4.heap.size≤gr:=hlo ⟨gr,orr,none⟩ rfl (by simp)
 have hrow0:w6.cell? ⟨ge,0,none⟩=some (.slice (some ⟨gr,orr,none⟩) 1 rc):=(hb6.cell (block_lt_of_cell (hrow 0 _ rfl))).trans (hrow 0 _ rfl)
 have hrow1:w6.cell? ⟨gr,orr,none⟩=some (.int .i64 2):=(hb6.cell (block_lt_of_cell (hcr 0 (by simp)))).trans (hcr 0 (by simp))
 have HC:=yH (And.intro hrow0 hrow1)
 have HG:=yH (And.intro hge hgr)
 have HR6:=yH hr6
 have B56:=yH (HB5.out.trans (hb6.mono HB5.out.size))
 have HP6:=yH (HP4.out.keep (fun _=>False) (Only.of_below _ B56.out) (fun _ _ e=>e))
 have HS6:=yH (show bN=w5.heap.size∧w6.heap.size=bN+1∧w4.heap.size≤bN from ⟨hbN,by omega,by have:=HB5.out.size;omega⟩)
 have HB6:=yH (HB4.out.trans (B56.out.mono HB4.out.size))
 have HRK6:=yH ((B56.out.block _ (yL HRK.out)).trans HRK.out)
 have HQ3L:=yH (show ∀k,Q3 k→w.heap.size≤k∧k<bK from fun k hk=>⟨HQ3.out k hk,by rw [HSK.out.1];exact HP3L.out k hk⟩)
 clear hb6 hr6 hs6 hbN hge hgk hrok hlo hcr hgr hrow hrow0 hrow1 HR HFR RK4 HRK HP4 HB4 HB5 HNG HQ3 HP3L
 go_upto_region 5 with fail
 obtain ⟨bT,hbT⟩:∃b,b=w6.heap.size:=⟨_,rfl⟩
 have hb7:Below w6.heap.size w6 (w6.alloc (.cells kd0.cells.toArray 34)):=(Below.refl _ _).alloc (Nat.le_refl _) _
 have hr7:=heap_alloc_new w6 (.cells kd0.cells.toArray 34)
 have hs7:(w6.alloc (.cells kd0.cells.toArray 34)).heap.size=w6.heap.size+1:=by simp
 generalize w6.alloc (.cells kd0.cells.toArray 34)=w7 at *
 rw [← hbT] at hr7 ⊢
 have HT:=yH (show bT=w6.heap.size∧w7.heap.size=bT+1 from ⟨hbT,by omega⟩)
 have HC7:=yH (show w7.cell? ⟨ge,0,none⟩=some (.slice (some ⟨gr,orr,none⟩) 1 rc)∧w7.cell? ⟨gr,orr,none⟩=some (.int .i64 2)∧ge<bT∧gr<bT from ⟨(hb7.cell (block_lt_of_cell HC.out.1)).trans HC.out.1,(hb7.cell (block_lt_of_cell HC.out.2)).trans HC.out.2,by rw [hbT];exact block_lt_of_cell HC.out.1,by rw [hbT];exact block_lt_of_cell HC.out.2⟩)
 have HR7:=yH ((hb7.block _ (yL HR6.out)).trans HR6.out)
 have HRK7:=yH ((hb7.block _ (yL HRK6.out)).trans HRK6.out)
 have HW:=yH (show w.heap.size≤bK∧bK<bN∧bN<bT from ⟨by rw [HSK.out.1];exact HB3S.out,by have:=HSK.out.2;have:=HS6.out.2.2;omega,by have:=HS6.out.2.1;have:=HT.out.1;omega⟩)
 have HST:=yH (show AlSt w w7 g bK bT 4 kd0 Q3 w7 from ⟨kd0_ok w7,kd0_pk,aw_kd0 _,hr7,HP6.out.keep (fun _=>False) (Only.of_below _ hb7) (fun _ _ e=>e),fun k hk=>Or.inl (HQ3L.out k hk),fun _ _ _ _=>rfl,HB6.out.trans (hb7.mono HB6.out.size),Nat.le_refl _⟩)
 clear hb7 hr7 hs7 hbT HC HR6 HRK6 HB6 HP6 B56 HQ3L hz1
 go_upto_region 6 with fail
 go_loopw [7] (fun i wr=>AlRel w w7 g bK bT i wr) (fun i _=>7 - (intOf i).toNat)
 case atStart=>exact ⟨4,kd0,Q3,by omega,by omega,rfl,HST.out⟩
 case round=>
  obtain ⟨m,kt,Q,hm1,hm2,rfl,hst⟩:=hrel
  have ST:=yH hst
  have HCT:=yH (Kd.cells_length hst.ok.len)
  have RT:=yH (range_kd hst.row)
  clear hst HST
  by_cases hlt:m<7
  ·have l1:(m:Int)<7:=by omega
   have hba:Below wr.heap.size wr (wr.alloc (.cells #[.int .i64 (m:Int)] 2)):=(Below.refl _ _).alloc (Nat.le_refl _) _
   have hra:=heap_alloc_new wr (.cells #[.int .i64 (m:Int)] 2)
   have hins:=Insert_any (gs:=g) (d:=1) (by omega) (exS_forks (m - 4)).texts (V.of (exs (m - 4))) kt ⟨some ⟨wr.heap.size,0,none⟩,1,1,[(m:Int)]⟩ _ (ST.out.st.keep (fun _=>False) (Only.of_below _ hba) (fun _ _ e=>e)) (exs_sees (m - 4) (by omega)) (ST.out.ok.later hba) ST.out.pk (ints_one ⟨by omega,by omega⟩ hra) rfl (by have:=exs_size (m - 4);omega) ST.out.aw (fun y hy _ e=>by
    cases hy
    have:=ST.out.st.lt _ e
    simp only at this
    omega) (by have:=exS_len (m - 4);omega)
   have hi:=ex_ins (m - 4) (by omega)
   rw [show 4+(m - 4)=m by omega] at hi
   simp only at hins
   rw [hi] at hins
   clear hi
   have HINS:=yH (show Calls Tryz.prog 15 #[.pointer (some ⟨g,0,none⟩),.agg kt.cells.toArray,.slice (some ⟨wr.heap.size,0,none⟩) 1 1,.int .i64 1] (wr.alloc (.cells #[.int .i64 (m:Int)] 2)) fun e w2=>∃(kd':Kd) (Q':Nat→Prop),e= .returned (.tuple #[.agg kd'.cells.toArray,.int .i64 0])∧AlSt w w7 g bK bT (m+1) kd' Q' (w2.setRow bT kd'.cells.toArray)∧kd'.cells.length=37∧w2.heap[bT]? =some (.cells kt.cells.toArray 34 (0,0)) from hins.mono fun e w2 h=>by
    have h:Told2 _ g Q (V.of (exs (m - 4+1))) (puts (exS (m - 4)) (exs (m - 4+1)).pages) e w2:=h
    rw [exS_succ (m - 4) (by omega),show m - 4+1=m+1 - 4 by omega] at h
    obtain ⟨kd',Q',rfl,h1,h2,h3,h4,h5,h6,h7⟩:=h
    have s1:=hba.size
    have s2:=ST.out.size
    have s3:=HT.out.2
    have s4:=HW.out
    have s5:bT<(wr.alloc (.cells #[.int .i64 (m:Int)] 2)).heap.size:=by omega
    refine ⟨kd',Q',rfl,ST.out.next (by omega) (by omega) (by omega) hba h2 h1 h3 h4 h5 h6 h7,Kd.cells_length h2.len,(h7.block bT s5 (fun e=>?_)).trans ((hba.block bT (by omega)).trans ST.out.row)⟩
    rcases ST.out.own bT e with e | e<;>omega)
   clear hins hba hra
   go_wp2_with (first
    | (refine wpList_load_mid (by rfl) 34 _ (by rfl) bT 0 (by rfl) kt.cells du RT.out HDU.out HDR.out (by rw [HCT.out];exact SKd) ?_)
    | (go_at_call 15;refine HINS.out.mono ?_;rintro _ w8 ⟨kd',Q',rfl,hst,hcl,hrow⟩;have ST8:=yH hst;have HCL8:=yH hcl;have ROW8:=yH hrow;clear hst hcl hrow)
    | (refine wpList_store_row (by rfl) 34 (.tmp 6) (.tmp 36) (by rfl) bT kd'.cells.toArray (by rfl) (by rfl) _ _ ROW8.out (by rw [List.size_toArray,HCL8.out];exact SKd) (by simp only [List.size_toArray,HCL8.out,HCT.out]) (all_oneCell_toArray Kd.one) ?_))
   go_roundw
   case rel=>exact ⟨m+1,kd',Q',by omega,by omega,by go_num,ST8.out⟩
   case measure=>simp [intOf];omega
  ·obtain rfl:m=7:=by omega
   have hh:=Height_any (gs:=g) (d:=1) (by omega) (exS_forks (7 - 4)).texts (V.of (exs (7 - 4))) kt wr ST.out.st (exs_sees (7 - 4) (by omega)) ST.out.ok ST.out.pk (by have:=exs_size (7 - 4);omega)
   have HH:=yH (show Calls Tryz.prog 24 #[.pointer (some ⟨g,0,none⟩),.agg kt.cells.toArray,.int .i64 1] wr fun e w8=>e= .returned (.tuple #[.int .i64 3,.int .i64 0])∧Below wr.heap.size wr w8 from hh.mono fun e w8 ⟨h1,h2,_⟩=>⟨by
    have h:=h2 (of_whole _)
    rw [ex6_deep] at h
    exact h,h1⟩)
   clear hh
   have hcell:∀a:Addr,bK≤a.block→a.block<bT→wr.cell? a=w7.cell? a:=fun a h1 h2=>World.cell?_of_block (ST.out.kept a.block h1 (by have:=HT.out.2;omega) (by omega))
   have hks:kd.size=3:=(congrArg PK.size HPK.out).trans exT_says
   have hkl:kt.live=3:=(congrArg PK.live ST.out.pk).trans ex6_says
   have hk35:=(kat_row HRK7.out HOK.out.len).size
   have hk34:=(kat_row ST.out.row ST.out.ok.len).live
   rw [hks] at hk35
   rw [hkl] at hk34
   rw [Nat.zero_add] at hk35 hk34
   have HCC:=yH (show wr.cell? ⟨bN,1,none⟩=some (.slice (some ⟨ge,0,none⟩) 1 ce)∧wr.cell? ⟨ge,0,none⟩=some (.slice (some ⟨gr,orr,none⟩) 1 rc)∧wr.cell? ⟨gr,orr,none⟩=some (.int .i64 2)∧wr.cell? ⟨bK,35,none⟩=some (.int .i64 3)∧wr.cell? ⟨bT,34,none⟩=some (.int .i64 3) from by
    have s:=HSK.out.2
    have s2:=HW.out
    have s3:=HG.out
    have s4:=HC7.out.2.2
    refine ⟨(hcell ⟨bN,1,none⟩ (by show bK≤bN;omega) (by show bN<bT;omega)).trans (cell_of_row w7 bN 1 _ _ _ HR7.out),(hcell ⟨ge,0,none⟩ (by show bK≤ge;omega) (by show ge<bT;omega)).trans HC7.out.1,(hcell ⟨gr,orr,none⟩ (by show bK≤gr;omega) (by show gr<bT;omega)).trans HC7.out.2.1,(hcell ⟨bK,35,none⟩ (by show bK≤bK;omega) (by show bK<bT;omega)).trans hk35,hk34⟩)
   clear hcell hks hkl hk35 hk34 hlt
   go_upto_region 10 with (first
    | (refine wpList_load_mid (by rfl) 34 _ (by rfl) bT 0 (by rfl) kt.cells du RT.out HDU.out HDR.out (by rw [HCT.out];exact SKd) ?_)
    | (go_at_call 24;refine HH.out.mono ?_;rintro _ w8 ⟨rfl,hb8⟩;have HB8:=yH hb8;clear hb8))
   have c1:=(HB8.out.cell (block_lt_of_cell HCC.out.1)).trans HCC.out.1
   have c2:=(HB8.out.cell (block_lt_of_cell HCC.out.2.1)).trans HCC.out.2.1
   have c3:=(HB8.out.cell (block_lt_of_cell HCC.out.2.2.1)).trans HCC.out.2.2.1
   have c4:=(HB8.out.cell (block_lt_of_cell HCC.out.2.2.2.1)).trans HCC.out.2.2.2.1
   have c5:=(HB8.out.cell (block_lt_of_cell HCC.out.2.2.2.2)).trans HCC.out.2.2.2.2
   go_wp2_with fail
   go_ret
   exact ⟨rfl,ST.out.low.trans (HB8.out.mono ST.out.low.size)⟩
end Go.Proofs.YtinihaflmdihaaaGreat.Kt
