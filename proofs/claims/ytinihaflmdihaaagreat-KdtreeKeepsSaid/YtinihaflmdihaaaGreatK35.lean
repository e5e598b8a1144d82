/- KtTr, KdChg, PgClash, PgSmall, KdGot, KlKeepS, KrSame. -/
import Derived.OwnWalk
import Derived.Test.YtinihaflmdihaaaGreatK34
set_option maxRecDepth 100000
set_option maxHeartbeats 8000000
set_option linter.all false
namespace Go.Proofs.YtinihaflmdihaaaGreat.Kt
open Go.RowKit Go.Proofs.YtinihaflmdihaaaGreat.Nd Go.Proofs.YtinihaflmdihaaaGreat.Pg
structure Tr (d:Nat) (s:Pg.S) (kp:PK) (t:T):Prop where
 new:NewK d kp
 clean:s.cl=none→kp=(V.of t).kid∧Sees s.W d (V.of t)∧Fine d t
theorem Tr.nil (d:Nat) (s:Pg.S):Tr d s PK.none .nil:=⟨⟨rfl,rfl,none_nums⟩,fun _=>⟨rfl,trivial,fine_nil d⟩⟩
theorem Tr.see {d:Nat} {s:Pg.S} {kp:PK} {t:T} (h:Tr d s kp t) (hf:Forks d s.W):∃u:V,u.kid=kp∧Sees s.W d u∧(s.cl=none→u=V.of t):=by
 by_cases hc:s.cl=none
 ·obtain ⟨h1,h2,_⟩:=h.clean hc
  exact ⟨V.of t,h1.symm,h2,fun _=>rfl⟩
 ·obtain ⟨u,h1,h2⟩:=sees_any hf kp.size.toNat kp (by have:=(kid_zero h.new.right).1;omega) h.new.right h.new.key
  exact ⟨u,h1,h2,fun e=>absurd e hc⟩
theorem clean_back {s:Pg.S} {P:List (List Nat)} (h:(puts s P).cl=none):s.cl=none:=clean_puts P h
theorem Tr.puts {d:Nat} {s:Pg.S} {kp:PK} {t:T} (h:Tr d s kp t) (P:List (List Nat)):Tr d (puts s P) kp t:=
 ⟨h.new,fun hc=>by
  obtain ⟨h1,h2,h3⟩:=h.clean (clean_back hc)
  exact ⟨h1,whole_stays (fun _ _ ht=>text_puts P ht) (of_whole t) h2,h3⟩⟩
theorem fine_size {d:Nat} {t:T} {kp:PK} {W:Pages} (h1:kp=(V.of t).kid) (h2:Sees W d (V.of t)) (hz:kp.size≤900):t.size≤900:=by
 have key:∀(t:T),Sees W d (V.of t)→(V.of t).kid.size=t.size:=by
  intro t
  induction t with
  | nil=>exact fun _=>rfl
  | fork p v l r il ir=>
   intro h
   have e:(V.of (.fork p v l r)).kid.size=1+((V.of l).kid.size+(V.of r).kid.size):=fork_size p v _ _
   rw [e,il h.2.2.1,ir h.2.2.2]
   show (1:Int)+(l.size+r.size)=((1+l.size+r.size:Nat):Int)
   omega
 have:=key t h2
 rw [← h1] at this
 omega
def Left (d:Nat) (s:Pg.S) (kp:PK) (x:T×Bool) (bad:Int):Int ⊕ (V×List (List Nat))→Prop
 | .inl e=>s.cl=none→e=bad∧x.2=false
 | .inr (u',P)=>(∀b∈P,∃N,Txt d b N∧N.kind=1)∧(P.length:Int)≤2*kp.size+2∧u'.kid.size≤kp.size+1∧Tr d (puts s P) u'.kid x.1∧(s.cl=none→x.2=true∧u'=V.of x.1)
theorem Tr.ins {d:Nat} {s:Pg.S} {kp:PK} {t:T} (hd:1≤d∧d≤8) (h:Tr d s kp t) (hz:kp.size≤900) {p:List Int} (hp:p.length=d) (hpn:∀x∈p,In64 x) {u:V} (hu:u.kid=kp) (hs:Sees s.W d u) (hc:s.cl=none→u=V.of t):Left d s kp (insertT t p 0) 8 (insV d p u):=by
 subst hu
 have hcl:s.cl=none→Fine d t∧t.size<900000∧u=V.of t:=fun e=>by
  obtain ⟨h1,h2,h3⟩:=h.clean e
  have:=fine_size h1 h2 hz
  exact ⟨h3,by omega,hc e⟩
 cases hi:insV d p u with
 | inl e=>
  intro e0
  obtain ⟨hf,ht,rfl⟩:=hcl e0
  obtain ⟨g1,g2⟩:=ins_tree hf hp ht
  cases hb:(insertT t p 0).2 with
  | false=>
   rw [g1 hb] at hi
   cases hi
   exact ⟨rfl,rfl⟩
  | true=>
   obtain ⟨P,hP⟩:=g2 hb
   rw [hP] at hi
   cases hi
 | inr y=>
  obtain ⟨u',P⟩:=y
  have hn:=ins_new hd hp hpn hs (by omega) hi
  have key:s.cl=none→(insertT t p 0).2=true∧u'=V.of (insertT t p 0).1:=fun e0=>by
   obtain ⟨hf,ht,rfl⟩:=hcl e0
   obtain ⟨g1,g2⟩:=ins_tree hf hp ht
   cases hb:(insertT t p 0).2 with
   | false=>
    rw [g1 hb] at hi
    cases hi
   | true=>
    obtain ⟨P',hP⟩:=g2 hb
    rw [hP] at hi
    cases hi
    exact ⟨rfl,rfl⟩
  refine ⟨hn.forks,hn.few,hn.size,⟨hn.kid,fun e1=>?_⟩,key⟩
  have e0:=clean_back e1
  obtain ⟨hf,ht,he⟩:=hcl e0
  obtain ⟨k1,k2⟩:=key e0
  have hb:=hn.behind (by rw [he];exact of_whole t) e1
  rw [k2] at hb ⊢
  exact ⟨rfl,hb,insert_fine hf hp hpn k1⟩
theorem Tr.del {d:Nat} {s:Pg.S} {kp:PK} {t:T} (hd:1≤d∧d≤8) (h:Tr d s kp t) (hz:kp.size≤900) {p:List Int} (hp:p.length=d) (hpn:∀x∈p,In64 x) {u:V} (hu:u.kid=kp) (hs:Sees s.W d u) (hc:s.cl=none→u=V.of t):Left d s kp ((deleteT t p).1,(removeT t p 0).2) 9 (delV d p u):=by
 subst hu
 have hcl:s.cl=none→Fine d t∧t.size<900000∧u=V.of t:=fun e=>by
  obtain ⟨h1,h2,h3⟩:=h.clean e
  have:=fine_size h1 h2 hz
  exact ⟨h3,by omega,hc e⟩
 cases hi:delV d p u with
 | inl e=>
  intro e0
  obtain ⟨hf,ht,rfl⟩:=hcl e0
  obtain ⟨g1,g2⟩:=del_tree hf hp ht
  cases hb:(removeT t p 0).2 with
  | false=>
   rw [g1 hb] at hi
   cases hi
   exact ⟨rfl,rfl⟩
  | true=>
   obtain ⟨P,hP⟩:=g2 hb
   rw [hP] at hi
   cases hi
 | inr y=>
  obtain ⟨u',P⟩:=y
  have hn:=del_new hd hp hpn hs (by omega) hi
  have key:s.cl=none→(removeT t p 0).2=true∧u'=V.of (deleteT t p).1:=fun e0=>by
   obtain ⟨hf,ht,rfl⟩:=hcl e0
   obtain ⟨g1,g2⟩:=del_tree hf hp ht
   cases hb:(removeT t p 0).2 with
   | false=>
    rw [g1 hb] at hi
    cases hi
   | true=>
    obtain ⟨P',hP⟩:=g2 hb
    rw [hP] at hi
    cases hi
    exact ⟨rfl,rfl⟩
  refine ⟨hn.forks,hn.few,hn.size,⟨hn.kid,fun e1=>?_⟩,key⟩
  have e0:=clean_back e1
  obtain ⟨hf,ht,he⟩:=hcl e0
  obtain ⟨k1,k2⟩:=key e0
  have hb:=hn.behind (by rw [he];exact of_whole t) e1
  rw [k2] at hb ⊢
  exact ⟨rfl,hb,delete_fine hf k1⟩
end Go.Proofs.YtinihaflmdihaaaGreat.Kt
namespace Go.Proofs.YtinihaflmdihaaaGreat.Kt
open Go.RowKit Go.Proofs.YtinihaflmdihaaaGreat.Nd Go.Proofs.YtinihaflmdihaaaGreat.Dk Go.Proofs.YtinihaflmdihaaaGreat.Pg
structure Chg (w:World) (g d:Nat) (Q:Nat→Prop) (s:Pg.S) (kp:PK) (x:T×Bool) (bad:Int) (kd':Kd) (err:Int) (Q':Nat→Prop) (s':Pg.S) (w':World):Prop where
 ok:kd'.Ok w'
 fsh:Fsh w kd'
 aw:Aw Q' kd'
 st:PL w' g Q' s'
 fk:Forks d s'.W
 own:∀k,Q' k→Q k∨w.heap.size≤k
 only:Only Q w w'
 few:(s'.W.length:Int)≤s.W.length+(2*kp.size+2)
 elder:∃P,s'=puts s P
 size:kd'.pk.size≤kp.size+1
 says:(err=0∧Tr d s' kd'.pk x.1∧(s.cl=none→x.2=true∧kd'.pk=(V.of x.1).kid))∨(err≠0∧kd'=kd0∧s'=s∧(s.cl=none→err=bad∧x.2=false))
theorem ins_err {d:Nat} {p:List Int} {u:V} {e:Int} (h:insV d p u= .inl e):e≠0:=by
 unfold insV at h
 split at h
 ·cases h;decide
 ·split at h
  ·cases h;decide
  ·split at h
   ·cases h
   ·split at h
    ·cases h
    ·cases h;decide
theorem del_err {d:Nat} {p:List Int} {u:V} {e:Int} (h:delV d p u= .inl e):e≠0:=by
 unfold delV at h
 split at h
 ·cases h;decide
 ·split at h
  ·cases h;decide
  ·split at h
   ·cases h
   ·split at h
    ·cases h
    ·cases h;decide
theorem fsh_kd0 (w:World):Fsh w kd0:=fun r hr x hx hR=>by
 have e:r=⟨none,0,0,[]⟩:=by simpa [Kd.rows,kd0] using hr
 subst e
 cases hx
theorem aw_kd0' (Q:Nat→Prop):Aw Q kd0:=fun r hr x hx hR=>by
 have e:r=⟨none,0,0,[]⟩:=by simpa [Kd.rows,kd0] using hr
 subst e
 cases hx
theorem chg_of {w w':World} {g d:Nat} {Q:Nat→Prop} {s:Pg.S} {kp:PK} {x:T×Bool} {bad:Int} {o:Int ⊕ (V×List (List Nat))} {e:Ending} (hp:PL w g Q s) (hf:Forks d s.W) (hk:0≤kp.size) (hl:Left d s kp x bad o) (he:∀err,o= .inl err→err≠0) (h:ChgPost w g Q s o e w'):
  ∃kd' err Q' s',e= .returned (.tuple #[.agg kd'.cells.toArray,.int .i64 err])∧Chg w g d Q s kp x bad kd' err Q' s' w':=by
 cases o with
 | inl err=>
  obtain ⟨rfl,hb⟩:=h
  refine ⟨kd0,err,Q,s,rfl,kd0_ok w',fsh_kd0 w,aw_kd0' Q,hp.keep (fun _=>False) (Only.of_below _ hb) (fun _ _ e=>e),hf,fun _ h=>Or.inl h,Only.of_below _ hb,by omega,⟨[],rfl⟩,?_,Or.inr ⟨he err rfl,rfl,rfl,hl⟩⟩
  have e0:kd0.pk.size=0:=rfl
  rw [e0]
  omega
 | inr y=>
  obtain ⟨u',P⟩:=y
  obtain ⟨kd',Q',rfl,h1,h2,h3,h4,h5,h6,h7⟩:=h
  obtain ⟨l1,l2,l3,l4,l5⟩:=hl
  have hpf:=puts_few P s
  refine ⟨kd',0,Q',puts s P,rfl,h2,h3,h6,h4,forks_puts P hf l1,h5,h7,?_,⟨P,rfl⟩,by rw [h1];exact l3,Or.inl ⟨rfl,by rw [h1];exact l4,fun e0=>⟨(l5 e0).1,by rw [h1,(l5 e0).2]⟩⟩⟩
  have h4':(puts (s,P).1 P).W.length≤s.W.length+P.length:=hpf
  show ((puts s P).W.length:Int)≤_
  have:(puts s P).W.length≤s.W.length+P.length:=hpf
  omega
theorem ins_chg {g d:Nat} {Q:Nat→Prop} {s:Pg.S} (hd:1≤d∧d≤8) (hf:Forks d s.W) (t:T) (k:Kd) (r:Rw) (w:World) (hp:PL w g Q s) (ht:Tr d s k.pk t) (hk:k.Ok w) (hr:r.Ok w) (hrd:r.n=d) (hz:k.pk.size≤900) (hka:Aw Q k) (hra:∀y,r.p=some y→r.R≠[]→¬Q y.block) (hsl:s.W.length≤60000):
  Calls Tryz.prog 15 #[.pointer (some ⟨g,0,none⟩),.agg k.cells.toArray,r.val,.int .i64 d] w fun e w'=>∃kd' err Q' s',e= .returned (.tuple #[.agg kd'.cells.toArray,.int .i64 err])∧Chg w g d Q s k.pk (insertT t r.R 0) 8 kd' err Q' s' w':=by
 obtain ⟨u,hu,hs,hc⟩:=ht.see hf
 have hrR:r.R.length=d:=by have:=hr.ints.size;omega
 refine (Insert_any hd hf.texts u k r w hp hs hk hu.symm hr hrd (by rw [hu];exact hz) hka hra hsl).mono fun e w' h=>?_
 exact chg_of hp hf (kid_zero ht.new.right).1 (ht.ins hd hz hrR (fun x hx=>hr.ints.ok x hx) hu hs hc) (fun err h=>ins_err h) h
theorem del_chg {g d:Nat} {Q:Nat→Prop} {s:Pg.S} (hd:1≤d∧d≤8) (hf:Forks d s.W) (t:T) (k:Kd) (r:Rw) (w:World) (hp:PL w g Q s) (ht:Tr d s k.pk t) (hk:k.Ok w) (hr:r.Ok w) (hrd:r.n=d) (hz:k.pk.size≤900) (hka:Aw Q k) (hra:∀y,r.p=some y→r.R≠[]→¬Q y.block) (hsl:s.W.length≤60000):
  Calls Tryz.prog 17 #[.pointer (some ⟨g,0,none⟩),.agg k.cells.toArray,r.val,.int .i64 d] w fun e w'=>∃kd' err Q' s',e= .returned (.tuple #[.agg kd'.cells.toArray,.int .i64 err])∧Chg w g d Q s k.pk ((deleteT t r.R).1,(removeT t r.R 0).2) 9 kd' err Q' s' w':=by
 obtain ⟨u,hu,hs,hc⟩:=ht.see hf
 have hrR:r.R.length=d:=by have:=hr.ints.size;omega
 refine (Delete_any hd hf.texts u k r w hp hs hk hu.symm hr hrd (by rw [hu];exact hz) hka hra hsl).mono fun e w' h=>?_
 exact chg_of hp hf (kid_zero ht.new.right).1 (ht.del hd hz hrR (fun x hx=>hr.ints.ok x hx) hu hs hc) (fun err h=>del_err h) h
structure KpSt (w0 w:World) (g d:Nat) (kd:Kd) (Q:Nat→Prop) (s:Pg.S) (t:T):Prop where
 ok:kd.Ok w
 tr:Tr d s kd.pk t
 aw:Aw Q kd
 st:PL w g Q s
 fk:Forks d s.W
 own:∀k,Q k→w0.heap.size≤k
 low:Below w0.heap.size w0 w
theorem KpSt.later {w0 w w':World} {g d:Nat} {kd:Kd} {Q:Nat→Prop} {s:Pg.S} {t:T} (h:KpSt w0 w g d kd Q s t) (hb:Below w.heap.size w w'):KpSt w0 w' g d kd Q s t:=
 ⟨h.ok.later hb,h.tr,h.aw,h.st.keep (fun _=>False) (Only.of_below _ hb) (fun _ _ e=>e),h.fk,h.own,h.low.trans (hb.mono h.low.size)⟩
theorem KpSt.aside {w0 w w':World} {g d:Nat} {kd kd':Kd} {Q Q':Nat→Prop} {s s':Pg.S} {t:T} {kp:PK} {x:T×Bool} {bad err:Int} (h:KpSt w0 w g d kd Q s t) (hc:Chg w g d Q s kp x bad kd' err Q' s' w'):KpSt w0 w' g d kd Q' s' t:=by
 have hlt:∀r∈kd.rows,∀x,r.p=some x→r.R≠[]→x.block<w.heap.size:=fun r hr=>rw_lt (kd_rows_ok h.ok r hr)
 obtain ⟨P,hP⟩:=hc.elder
 refine ⟨kd_keep h.ok fun r hr x hx hR=>hc.only.block _ (hlt r hr x hx hR) (h.aw r hr x hx hR),by rw [hP];exact h.tr.puts P,fun r hr x hx hR e=>?_,hc.st,hc.fk,fun k hk=>?_,h.low.trans (hc.only.below h.low.size h.own)⟩
 ·rcases hc.own _ e with e | e
  ·exact h.aw r hr x hx hR e
  ·have:=hlt r hr x hx hR
   omega
 ·rcases hc.own k hk with e | e
  ·exact h.own k e
  ·exact Nat.le_trans h.low.size e
theorem KpSt.next {w0 w w':World} {g d:Nat} {kd kd':Kd} {Q Q':Nat→Prop} {s s':Pg.S} {t:T} {x:T×Bool} {bad:Int} (h:KpSt w0 w g d kd Q s t) (hc:Chg w g d Q s kd.pk x bad kd' 0 Q' s' w'):KpSt w0 w' g d kd' Q' s' x.1:=by
 have ha:=h.aside hc
 refine ⟨hc.ok,?_,hc.aw,hc.st,hc.fk,ha.own,ha.low⟩
 rcases hc.says with ⟨-,h2,-⟩ | ⟨h1,-⟩
 ·exact h2
 ·exact absurd rfl h1
theorem KpSt.set {w0 w:World} {g d b:Nat} {kd:Kd} {Q:Nat→Prop} {s:Pg.S} {t:T} (h:KpSt w0 w g d kd Q s t) (hb:w0.heap.size≤b) (hq:¬Q b) (hr:∀r∈kd.rows,∀x,r.p=some x→r.R≠[]→x.block≠b) (cs:Array Value):KpSt w0 (w.setRow b cs) g d kd Q s t:=by
 have hos:=only_setRow w b cs
 exact ⟨kd_keep h.ok fun r hr' x hx hR=>hos.block _ (rw_lt (kd_rows_ok h.ok r hr') x hx hR) (hr r hr' x hx hR),h.tr,h.aw,h.st.keep _ hos (fun k hk e=>hq (e▸hk)),h.fk,h.own,h.low.trans (Below.setRow (Below.refl _ _) hb _)⟩
end Go.Proofs.YtinihaflmdihaaaGreat.Kt
namespace Go.Proofs.YtinihaflmdihaaaGreat.Pg
open Go.RowKit
open List renaming setIfInBounds_toArray → yA, set_cons_zero → yB, set_cons_succ → yC
theorem clash_no {w:World} {g:Nat} {Q:Nat→Prop} {s:S} (h:PL w g Q s) (hc:s.cl=none):
  Calls Tryz.prog 19 #[.pointer (some ⟨g,0,none⟩)] w fun e w'=>∃p c q d,e= .returned (.tuple #[.slice p 0 c,.slice q 0 d,.bool false])∧Below w.heap.size w w':=by
 obtain ⟨mp,cl,h⟩:=h
 obtain rfl:cl=none:=by
  rcases h.clash with ⟨h1,_⟩ | ⟨c,a,b,_,h2,_⟩
  ·exact h1
  ·rw [hc] at h2;cases h2
 have c1:=h.c1
 clear h hc
 go_enter Tryz.func19,Tryz.ntmps19
 go_wp2_with fail
 go_ret3
 exact ⟨none,0,none,0,rfl,Below.refl _ _⟩
theorem clash_any {w:World} {g:Nat} {Q:Nat→Prop} {s:S} (x y:List Nat) (h:PL w g Q s) (hc:s.cl=some (x,y)):
  Calls Tryz.prog 19 #[.pointer (some ⟨g,0,none⟩)] w fun e w'=>∃p m c q n d,e= .returned (.tuple #[.slice p m c,.slice q n d,.bool true])∧Tx w' p m c x∧Tx w' q n d y∧x.length≤100000∧y.length≤100000∧Below w.heap.size w w':=by
 obtain ⟨mp,cl,h⟩:=h
 obtain ⟨cb,rfl,hP⟩:∃cb,cl=some ⟨cb,0,none⟩∧PairAt Q w cb x y:=by
  rcases h.clash with ⟨_,h1⟩ | ⟨c,a,b,h1,h2,h3⟩
  ·rw [hc] at h1;cases h1
  ·rw [hc] at h2;cases h2;exact ⟨c,h1,h3⟩
 have c1:=h.c1
 obtain ⟨p1,m1,k1,p2,m2,k2,hr,h1,h2⟩:=hP.row
 have d0:w.cell? ⟨cb,0,none⟩=some (.slice p1 m1 k1):=(cell_of_row w cb 0 _ _ _ hr).trans rfl
 have d1:w.cell? ⟨cb,1,none⟩=some (.slice p2 m2 k2):=(cell_of_row w cb 1 _ _ _ hr).trans rfl
 have T1:=yH h1.tx
 have T2:=yH h2.tx
 have L1:=h1.le
 have L2:=h2.le
 have e1:=h1.tx.size
 have e2:=h2.tx.size
 have N1:m1≤100000:=by omega
 have N2:m2≤100000:=by omega
 have C1:=yH c1
 have D0:=yH d0
 have D1:=yH d1
 clear h hc hP hr h1 h2 e1 e2 d0 d1
 go_enter Tryz.func19,Tryz.ntmps19
 go_upto_region 3 with fail
 refine wp_region_held_drew (S:=fun w'=>Below w.heap.size w w') (by kernel_rfl) (Below.refl _ _).drew (fun hHeld=>?_)
 refine tK 0 ?_
 refine tK 1 ?_
 refine tK 2 ?_
 refine tQ 3 ?_ ?_ ?_
 rotate_left
 ·intro w' hSw
  have c1:=(hSw.cell (block_lt_of_cell C1.out)).trans C1.out
  go_simp
  try with_reducible rfl
 refine tK 4 ?_
 refine tK 5 ?_
 refine tQ 6 ?_ ?_ ?_
 rotate_left
 ·intro w' hSw
  have c1:=(hSw.cell (block_lt_of_cell D0.out)).trans D0.out
  go_simp
  try with_reducible rfl
 refine tK 8 ?_
 refine tK 9 ?_
 refine tK 10 ?_
 refine tQ 11 ?_ ?_ ?_
 rotate_left
 ·intro w' hSw
  have c1:=(hSw.cell (block_lt_of_cell C1.out)).trans C1.out
  go_simp
  try with_reducible rfl
 refine tK 12 ?_
 refine tK 13 ?_
 refine tQ 14 ?_ ?_ ?_
 rotate_left
 ·intro w' hSw
  have c1:=(hSw.cell (block_lt_of_cell D1.out)).trans D1.out
  go_simp
  try with_reducible rfl
 refine rY [7] ?_
 refine rC (fun K hK=>?_) AllReadyH.nil
 go_simp
 refine (bclone_any (T1.out.later hHeld) N1).mono ?_
 rintro _ w17 ⟨q17,c17,rfl,o17,b17⟩
 have O17:=yH (show Tx w17 q17 m1 c17 x from by
  have he:m1=x.length:=T1.out.size
  have:=o17
  rw [he] at this ⊢
  exact tx_of_owns this T1.out.ok)
 have hS17:Below w.heap.size w w17:=hHeld.trans (b17.mono hHeld.size)
 have B17:=yH b17
 clear o17 b17
 try go_wp2_with fail
 refine hK.out _ _ hS17 (fun hHeld=>?_)
 clear hK K
 try simp only [Act.put,yA,yB,yC]
 refine rY [15] ?_
 refine rC (fun K hK=>?_) AllReadyH.nil
 go_simp
 refine (bclone_any (T2.out.later hHeld) N2).mono ?_
 rintro _ w25 ⟨q25,c25,rfl,o25,b25⟩
 have O25:=yH (show Tx w25 q25 m2 c25 y from by
  have he:m2=y.length:=T2.out.size
  have:=o25
  rw [he] at this ⊢
  exact tx_of_owns this T2.out.ok)
 have hS25:Below w.heap.size w w25:=hHeld.trans (b25.mono hHeld.size)
 have B25:=yH b25
 clear o25 b25
 try go_wp2_with fail
 refine hK.out _ _ hS25 (fun hHeld=>?_)
 clear hK K
 try simp only [Act.put,yA,yB,yC]
 refine tK 16 ?_
 refine tK 17 ?_
 refine tK 18 ?_
 refine wpAnyH_done (by kernel_rfl) ?_ _
 have O17':=yH (O17.out.later B25.out)
 go_wp2_with fail
 go_ret3
 exact ⟨_,_,_,_,_,_,rfl,O17'.out,O25.out,L1,L2,hHeld⟩
end Go.Proofs.YtinihaflmdihaaaGreat.Pg
namespace Go.Proofs.YtinihaflmdihaaaGreat.Kt
open Go.RowKit Go.Proofs.YtinihaflmdihaaaGreat.Nd Go.Proofs.YtinihaflmdihaaaGreat.Dk Go.Proofs.YtinihaflmdihaaaGreat.Pg
structure Got (w0 wx:World) (g d bK bX:Nat) (kd kd':Kd) (err:Int) (Q':Nat→Prop) (s s':Pg.S) (t:T) (x:T×Bool):Prop where
 old:KpSt w0 wx g d kd Q' s' t
 new:err=0→KpSt w0 wx g d kd' Q' s' x.1
 rowX:wx.heap[bX]? =some (.cells kd'.cells.toArray 34 (0,0))
 rowK:wx.heap[bK]? =some (.cells kd.cells.toArray 34 (0,0))
 ne:bX≠bK
 nq:¬Q' bK
 far:∀r∈kd'.rows,∀x,r.p=some x→r.R≠[]→x.block≠bK
 len:kd'.cells.length=37
 size:kd'.pk.size≤kd.pk.size+1
 few:(s'.W.length:Int)≤s.W.length+(2*kd.pk.size+2)
section
variable {w0 xa xb:World} {g d bK bX:Nat} {kd kd':Kd} {err bad:Int} {Q Q':Nat→Prop} {s s':Pg.S} {t:T} {x:T×Bool}
theorem got_base (h:KpSt w0 xa g d kd Q s t) (hK:xa.heap[bK]? =some (.cells kd.cells.toArray 34 (0,0))) (hq:¬Q bK) (hc:Chg xa g d Q s kd.pk x bad kd' err Q' s' xb):KpSt w0 xb g d kd Q' s' t∧(err=0→KpSt w0 xb g d kd' Q' s' x.1)∧xb.heap[bK]? =some (.cells kd.cells.toArray 34 (0,0))∧¬Q' bK∧∀r∈kd'.rows,∀x,r.p=some x→r.R≠[]→x.block≠bK:=by
 have hlt:=(yL hK)
 refine ⟨h.aside hc,fun e=>?_,(hc.only.block _ hlt hq).trans hK,fun e=>(hc.own _ e).elim hq (fun e=>by omega),fun r hr x hx hR=>by have:=hc.fsh r hr x hx hR;omega⟩
 subst e
 exact h.next hc
theorem got_new (h:KpSt w0 xa g d kd Q s t) (hK:xa.heap[bK]? =some (.cells kd.cells.toArray 34 (0,0))) (hq:¬Q bK) (hc:Chg xa g d Q s kd.pk x bad kd' err Q' s' xb):Got w0 (xb.alloc (.cells kd'.cells.toArray 34)) g d bK xb.heap.size kd kd' err Q' s s' t x:=by
 obtain ⟨h1,h2,h3,h4,h5⟩:=got_base h hK hq hc
 have hb:Below xb.heap.size xb (xb.alloc (.cells kd'.cells.toArray 34)):=(Below.refl _ _).alloc (Nat.le_refl _) _
 have hlt:=(yL h3)
 exact ⟨h1.later hb,fun e=>(h2 e).later hb,heap_alloc_new xb _,(hb.block _ hlt).trans h3,by omega,h4,h5,Kd.cells_length hc.ok.len,hc.size,hc.few⟩
theorem got_old (h:KpSt w0 xa g d kd Q s t) (hK:xa.heap[bK]? =some (.cells kd.cells.toArray 34 (0,0))) (hq:¬Q bK) (hc:Chg xa g d Q s kd.pk x bad kd' err Q' s' xb) {cs:Array Value} (hX:xa.heap[bX]? =some (.cells cs 34 (0,0))) (hqX:¬Q bX) (hne:bX≠bK) (hw:w0.heap.size≤bX) (hr:∀r∈kd.rows,∀x,r.p=some x→r.R≠[]→x.block≠bX):xb.heap[bX]? =some (.cells cs 34 (0,0))∧Got w0 (xb.setRow bX kd'.cells.toArray) g d bK bX kd kd' err Q' s s' t x:=by
 obtain ⟨h1,h2,h3,h4,h5⟩:=got_base h hK hq hc
 have hlt:=(yL hX)
 have hX2:=(hc.only.block _ hlt hqX).trans hX
 have hqX':¬Q' bX:=fun e=>(hc.own _ e).elim hqX (fun e=>by omega)
 exact ⟨hX2,h1.set hw hqX' hr _,fun e=>(h2 e).set hw hqX' (fun r hr x hx hR=>by have:=hc.fsh r hr x hx hR;omega) _,setRow_heap _ _ _ _ _ _ hX2,((only_setRow xb bX kd'.cells.toArray).block _ (yL h3) (fun e=>hne e.symm)).trans h3,hne,h4,h5,Kd.cells_length hc.ok.len,hc.size,hc.few⟩
end
theorem dims_le (dd:Nat):1≤dimsP dd∧dimsP dd≤5:=by
 unfold dimsP
 omega
theorem KpSt.copy {w0 w:World} {g d bK:Nat} {kd kd':Kd} {Q:Nat→Prop} {s:Pg.S} {t:T} (h:KpSt w0 w g d kd' Q s t) (hw:w0.heap.size≤bK) (hq:¬Q bK) (hf:∀r∈kd'.rows,∀x,r.p=some x→r.R≠[]→x.block≠bK) (hK:w.heap[bK]? =some (.cells kd.cells.toArray 34 (0,0))):KpSt w0 (w.setRow bK kd'.cells.toArray) g d kd' Q s t∧(w.setRow bK kd'.cells.toArray).heap[bK]? =some (.cells kd'.cells.toArray 34 (0,0)):=
 ⟨h.set hw hq hf _,setRow_heap _ _ _ _ _ _ hK⟩
theorem Tr.half {d:Nat} {s:Pg.S} {kp:PK} {t:T} (h:Tr d s kp t) (hc:s.cl=none) (hz:kp.size≤900):kp.size≤2*kp.live:=by
 obtain ⟨h1,h2,h3⟩:=h.clean hc
 have hs:=fine_size h1 h2 hz
 have e:=of_kid (u:=t) (by omega)
 have e1:=kid_size t (by omega)
 have e2:=kid_live t (by omega)
 have e3:=lives_all t
 have hf:=h3.few
 rw [h1,e,e1,e2,e3]
 omega
theorem ins_rem {d:Nat} {t:T} {p:List Int} (h:t.dims d) (hp:p.length=d) (hz:t.size<900000):(removeT t p 0).2= !(insertT t p 0).2:=by
 obtain ⟨A,s,h1,h2,_⟩:=way_insert hp t 0 h (by omega)
 obtain ⟨A',s',h3,h4,_⟩:=way_remove hp t 0 h
 rw [h1] at h3
 cases h3
 rw [← h4,h2]
def RdM (q:Option Addr) (M:List Rw) (b:Nat):Prop:=(M≠[]∧∃x,q=some x∧x.block=b)∨∃r∈M,∃x,r.p=some x∧r.R≠[]∧x.block=b
theorem rows_keep {w w':World} {q:Option Addr} {n c:Nat} {M:List Rw} (h:RowsIn w q n c M) (hk:∀b,RdM q M b→w'.heap[b]? =w.heap[b]?):RowsIn w' q n c M:=
 ⟨h.size,h.le,fun r hr=>Nd.rw_keep (h.each r hr) fun x hx hR=>hk _ (Or.inr ⟨r,hr,x,hx,hR,rfl⟩),h.at'.imp id fun ⟨g,o,hp,hc⟩=>⟨g,o,hp,fun i hi=>by
  rw [World.cell?_of_block (w:=w) (w':=w') (a:=⟨g,o+i,none⟩) (hk g (Or.inl ⟨fun e=>by rw [e] at hi;simp at hi,⟨g,o,none⟩,hp,rfl⟩))]
  exact hc i hi⟩⟩
theorem rows_lt {w:World} {q:Option Addr} {n c:Nat} {M:List Rw} (h:RowsIn w q n c M) {b:Nat} (hb:RdM q M b):b<w.heap.size:=by
 rcases hb with ⟨h1,x,hx,rfl⟩ | ⟨r,hr,x,hx,hR,rfl⟩
 ·rcases h.at' with h0 | ⟨g,o,hp,hc⟩
  ·exact absurd h0 h1
  ·rw [hx] at hp
   cases hp
   exact block_lt_of_cell (hc 0 (List.length_pos_iff.2 h1))
 ·exact rw_lt (h.each r hr) x hx hR
theorem rows_chg {w0 w:World} {g d:Nat} {kd:Kd} {Q:Nat→Prop} {s:Pg.S} {t:T} (hd:1≤d∧d≤8) (h:KpSt w0 w g d kd Q s t) (hz:kd.pk.size≤90000):
  Calls Tryz.prog 23 #[.pointer (some ⟨g,0,none⟩),.agg kd.cells.toArray,.int .i64 d] w fun e w'=>∃q c M err,e= .returned (.tuple #[.slice q M.length c,.int .i64 err])∧RowsIn w' q M.length c M∧(∀b,RdM q M b→w.heap.size≤b)∧(s.cl=none→err=0∧M.map Rw.R=sortP 0 (V.of t).rows)∧(M.length:Int)≤90000∧Below w.heap.size w w':=by
 obtain ⟨u,hu,hs,hc⟩:=h.tr.see h.fk
 refine (Rows_any hd h.fk.texts u kd w h.st hs h.ok hu.symm (by rw [hu];exact hz)).mono fun e w' ⟨hb,h1,h2⟩=>?_
 cases hw:u.whole with
 | true=>
  obtain ⟨q,c,M,rfl,k1,k2,k3,k4⟩:=h1 hw
  have hlen:(M.length:Int)≤90000:=by
   have e1:M.length=u.rows.length:=by
    have:=congrArg List.length k2
    rw [List.length_map,sortP_length] at this
    exact this
   have e2:=rows_size hs
   have e3:=sees_nums hs
   rw [hw] at e2
   rcases e2 with e2 | e2
   ·rw [hu] at e2 e3
    omega
   ·cases e2
  refine ⟨q,c,M,0,rfl,k1,fun b hb'=>?_,fun hn=>⟨rfl,by rw [k2,hc hn]⟩,hlen,hb⟩
  rcases hb' with ⟨m1,x,hx,rfl⟩ | ⟨r,hr,x,hx,hR,rfl⟩
  ·obtain ⟨g',o',hq,hl⟩:=k4 m1
   rw [hx] at hq
   cases hq
   exact hl
  ·exact k3 r hr x hx hR
 | false=>
  have he:=h2 hw
  refine ⟨none,0,[],21,he,⟨rfl,Nat.le_refl _,fun r hr=>(by cases hr),Or.inl rfl⟩,fun b hb'=>?_,fun hn=>?_,by simp,hb⟩
  ·rcases hb' with ⟨m1,_⟩ | ⟨r,hr,_⟩
   ·exact absurd rfl m1
   ·cases hr
  ·rw [hc hn,of_whole] at hw
   cases hw
structure K2 (w0 wr:World) (g d bK bM:Nat) (kd:Kd) (t:T) (q:Option Addr) (c:Nat) (M:List Rw) (km:Kd) (Q:Nat→Prop) (s:Pg.S) (tm:T):Prop where
 old:KpSt w0 wr g d kd Q s t
 now:KpSt w0 wr g d km Q s tm
 rowK:wr.heap[bK]? =some (.cells kd.cells.toArray 34 (0,0))
 rowM:wr.heap[bM]? =some (.cells km.cells.toArray 34 (0,0))
 ne:bM≠bK
 nqK:¬Q bK
 nqM:¬Q bM
 farM:∀r∈km.rows,∀x,r.p=some x→r.R≠[]→x.block≠bM
 farD:∀r∈kd.rows,∀x,r.p=some x→r.R≠[]→x.block≠bM
 rows:RowsIn wr q M.length c M
 apart:∀b,RdM q M b→¬Q b∧b≠bM
section
variable {w0 wr w':World} {g d bK bM:Nat} {kd km kx:Kd} {t tm:T} {q:Option Addr} {c:Nat} {M:List Rw} {Q Q':Nat→Prop} {s s':Pg.S} {x:T×Bool} {bad err:Int}
theorem K2.later (h:K2 w0 wr g d bK bM kd t q c M km Q s tm) (hb:Below wr.heap.size wr w'):K2 w0 w' g d bK bM kd t q c M km Q s tm:=
 ⟨h.old.later hb,h.now.later hb,(hb.block _ (yL h.rowK)).trans h.rowK,(hb.block _ (yL h.rowM)).trans h.rowM,h.ne,h.nqK,h.nqM,h.farM,h.farD,h.rows.later hb,h.apart⟩
theorem K2.chg (h:K2 w0 wr g d bK bM kd t q c M km Q s tm) (hc:Chg wr g d Q s km.pk x bad kx err Q' s' w'):K2 w0 w' g d bK bM kd t q c M km Q' s' tm∧∃tx,KpSt w0 w' g d kx Q' s' tx:=by
 have hK:=(yL h.rowK)
 have hM:=(yL h.rowM)
 have up:∀b,b<wr.heap.size→¬Q b→¬Q' b:=fun b hb hq e=>(hc.own b e).elim hq (fun e=>by omega)
 refine ⟨⟨h.old.aside hc,h.now.aside hc,(hc.only.block _ hK h.nqK).trans h.rowK,(hc.only.block _ hM h.nqM).trans h.rowM,h.ne,up _ hK h.nqK,up _ hM h.nqM,h.farM,h.farD,rows_keep h.rows fun b hb=>hc.only.block b (rows_lt h.rows hb) (h.apart b hb).1,fun b hb=>⟨up b (rows_lt h.rows hb) (h.apart b hb).1,(h.apart b hb).2⟩⟩,?_⟩
 have ha:=h.now.aside hc
 rcases hc.says with ⟨rfl,h2,-⟩ | ⟨-,rfl,-,-⟩
 ·exact ⟨x.1,h.now.next hc⟩
 ·exact ⟨.nil,hc.ok,Tr.nil _ _,hc.aw,hc.st,hc.fk,ha.own,ha.low⟩
theorem K2.set (h:K2 w0 wr g d bK bM kd t q c M km Q s tm) {b:Nat} (hb:w0.heap.size≤b) (hq:¬Q b) (h1:b≠bK) (h2:b≠bM) (h3:∀r∈kd.rows,∀x,r.p=some x→r.R≠[]→x.block≠b) (h4:∀r∈km.rows,∀x,r.p=some x→r.R≠[]→x.block≠b) (h5:¬RdM q M b) (cs:Array Value):K2 w0 (wr.setRow b cs) g d bK bM kd t q c M km Q s tm:=by
 have ho:=only_setRow wr b cs
 exact ⟨h.old.set hb hq h3 cs,h.now.set hb hq h4 cs,(ho.block _ (yL h.rowK) (fun e=>h1 e.symm)).trans h.rowK,(ho.block _ (yL h.rowM) (fun e=>h2 e.symm)).trans h.rowM,h.ne,h.nqK,h.nqM,h.farM,h.farD,rows_keep h.rows fun k hk=>ho.block k (rows_lt h.rows hk) (fun e=>h5 (e▸hk)),h.apart⟩
theorem K2.fresh (h:K2 w0 wr g d bK bM kd t q c M km Q s tm) {b:Nat} (hb:wr.heap.size≤b):w0.heap.size≤b∧¬Q b∧b≠bK∧b≠bM∧(∀r∈kd.rows,∀x,r.p=some x→r.R≠[]→x.block≠b)∧(∀r∈km.rows,∀x,r.p=some x→r.R≠[]→x.block≠b)∧¬RdM q M b:=by
 have hK:=(yL h.rowK)
 have hM:=(yL h.rowM)
 refine ⟨Nat.le_trans h.old.low.size hb,fun e=>by have:=h.old.st.lt _ e;omega,by omega,by omega,fun r hr x hx hR=>?_,fun r hr x hx hR=>?_,fun e=>by have:=rows_lt h.rows e;omega⟩
 ·have:=rw_lt (kd_rows_ok h.old.ok r hr) x hx hR
  omega
 ·have:=rw_lt (kd_rows_ok h.now.ok r hr) x hx hR
  omega
theorem K2.next {tx:T} (h:K2 w0 wr g d bK bM kd t q c M km Q s tm) (hx:KpSt w0 wr g d kx Q s tx) (hw:w0.heap.size≤bM) (hf:∀r∈kx.rows,∀x,r.p=some x→r.R≠[]→x.block≠bM):K2 w0 (wr.setRow bM kx.cells.toArray) g d bK bM kd t q c M kx Q s tx:=by
 have ho:=only_setRow wr bM kx.cells.toArray
 exact ⟨h.old.set hw h.nqM h.farD _,hx.set hw h.nqM hf _,(ho.block _ (yL h.rowK) (fun e=>h.ne e.symm)).trans h.rowK,setRow_heap _ _ _ _ _ _ h.rowM,h.ne,h.nqK,h.nqM,hf,h.farD,rows_keep h.rows fun k hk=>ho.block k (rows_lt h.rows hk) (h.apart k hk).2,h.apart⟩
end
end Go.Proofs.YtinihaflmdihaaaGreat.Kt
namespace Go.Proofs.YtinihaflmdihaaaGreat.Kt
open Go.RowKit
def numsK (L:List Rw):List (List Int):=L.map Rw.R
theorem numsK_take_succ (L:List Rw) (k:Nat) (h:k<L.length):numsK (L.take (k+1))=numsK (L.take k)++[(L.getD k default).R]:=by
 unfold numsK
 rw [List.take_succ_eq_append_getElem h,List.map_append,List.getD_eq_getElem?_getD,List.getElem?_eq_getElem h]
 rfl
def SrsRel (w:World) (L M:List Rw) (n:Nat) (i:Value) (wr:World):Prop:=∃k j:Nat,k≤n∧i= .int .i64 k∧numsK (L.take k)=numsK (M.take k)∧wr=w.drewN j
theorem numsK_ne {L M:List Rw} {k:Nat} (hk:k<L.length) (hm:k<M.length) (h:¬(L.getD k default).R=(M.getD k default).R):¬numsK L=numsK M:=fun e=>by
 have:=congrArg (fun l=>l.getD k []) e
 simp [numsK,List.getD_eq_getElem?_getD,hk,hm] at this h
 exact h this
theorem samerows_any (p q:Option Addr) (n c m e:Nat) (L M:List Rw) (w:World) (h:RowsIn w p n c L) (h2:RowsIn w q m e M) (hn9:n≤9223372036854775807):
  Calls Tryz.prog 29 #[.slice p n c,.slice q m e] w fun e w'=>e= .returned (.bool (decide (numsK L=numsK M)))∧∃j,w'=w.drewN j:=by
 have H1:=yH h
 have H2:=yH h2
 clear h h2
 by_cases hn:(n:Int)=m
 case neg=>
  have HNE:=yH (show ¬numsK L=numsK M from fun h=>hn (by
   have:=congrArg List.length h
   simp [numsK] at this
   rw [H1.out.size,H2.out.size,this]))
  go_enter Tryz.func29,Tryz.ntmps29
  go_wp2_with fail
  go_ret
  exact ⟨ret_ndec HNE.out,0,rfl⟩
 obtain rfl:m=n:=by omega
 go_enter Tryz.func29,Tryz.ntmps29
 go_wp2_with fail
 go_loopw [5] (fun i wr=>SrsRel w L M m i wr) (fun i _=>m - (intOf i).toNat)
 case atStart=>exact ⟨0,0,by omega,rfl,rfl,rfl⟩
 case round=>
  obtain ⟨k,j,hk,rfl,heq,hwr⟩:=hrel
  have HL:=yH heq
  have HW:=yH hwr
  have G1:=yH (show RowsIn wr p m c L by rw [hwr];exact H1.out.later (Below.drewN (Below.refl _ _) j))
  have G2:=yH (show RowsIn wr q m e M by rw [hwr];exact H2.out.later (Below.drewN (Below.refl _ _) j))
  clear heq hwr
  by_cases hlt:k<m
  ·obtain ⟨gx,o,rfl,hcx,hox⟩:=G1.out.cell k hlt
   obtain ⟨gy,o2,rfl,hcy,hoy⟩:=G2.out.cell k hlt
   have hkL:k<L.length:=by rw [← H1.out.size];exact hlt
   have hkM:k<M.length:=by rw [← H2.out.size];exact hlt
   have i1:(0:Int)≤k∧(k:Int)<m:=by omega
   have HS1:=yH (numsK_take_succ L k hkL)
   have HS2:=yH (numsK_take_succ M k hkM)
   have HF:=yH (fun h=>numsK_ne (L:=L) (M:=M) hkL hkM h)
   obtain ⟨t,htt⟩:∃t,t=L.getD k default:=⟨_,rfl⟩
   obtain ⟨u,huu⟩:∃u,u=M.getD k default:=⟨_,rfl⟩
   rw [← htt] at hcx hox HS1 HF
   rw [← huu] at hcy hoy HS2 HF
   unfold Rw.val at hcx hcy
   have hcall:∀i,Calls Tryz.prog 28 #[.slice t.p t.n t.c,.slice u.p u.n u.c] (wr.drewN i) fun e w'=>e= .returned (.bool (decide (t.R=u.R)))∧∃m,w'=(wr.drewN i).drewN m:=fun i=>
    samerow_any _ _ _ _ _ _ _ _ (wr.drewN i) (hox.ints.later (Below.drewN (Below.refl _ _) i)) (hoy.ints.later (Below.drewN (Below.refl _ _) i)) hox.top
   clear htt huu hox hoy hkL hkM
   by_cases hxy:t.R=u.R
   ·rw [decide_eq_true hxy] at hcall
    have HC:=yH hcall
    have HXY:=yH hxy
    clear hcall hxy
    go_upto_region 6 with fail
    go_quiet ((go_at_call 28;exact Calls.quiet_of (HC.out _)))
    go_wp2_with fail
    go_roundw
    case rel=>exact ⟨k+1,j+nq,by omega,by go_num,by rw [HS1.out,HS2.out,HL.out,HXY.out],by rw [HW.out,World.drewN_drewN]⟩
    case measure=>simp [intOf];omega
   ·rw [decide_eq_false hxy] at hcall
    have HC:=yH hcall
    have HN:=yH (HF.out hxy)
    clear hcall hxy
    go_upto_region 6 with fail
    go_quiet ((go_at_call 28;exact Calls.quiet_of (HC.out _)))
    go_wp2_with fail
    go_ret
    exact ⟨ret_ndec HN.out,j+nq,by rw [HW.out,World.drewN_drewN]⟩
  ·obtain rfl:k=m:=by omega
   have he:=HL.out
   rw [List.take_of_length_le (by rw [H1.out.size];exact Nat.le_refl _),List.take_of_length_le (by rw [H2.out.size];exact Nat.le_refl _)] at he
   have HE:=yH he
   clear he
   go_wp2_with fail
   go_ret
   exact ⟨ret_dec HE.out,j,HW.out⟩
end Go.Proofs.YtinihaflmdihaaaGreat.Kt
