/- KdApp, KtIns, KdAsk, KdRowsV, KdTwice, KdBuildBad, KdBuild. -/
import Derived.Great.BuildSlice
import Derived.BigRegion
import Derived.Test.YtinihaflmdihaaaGreatK27
import Derived.Test.YtinihaflmdihaaaGreatK30
set_option maxRecDepth 100000
set_option maxHeartbeats 8000000
set_option linter.all false
namespace Go.Proofs.YtinihaflmdihaaaGreat.Kt
open Go.RowKit Go.Proofs.YtinihaflmdihaaaGreat.Nd Go.Proofs.YtinihaflmdihaaaGreat.Dk Go.Proofs.YtinihaflmdihaaaGreat.Pg
theorem row_fill (q:Option Addr) (n c:Nat):Instr.fill (fun i=>some (i*1,1)) ((Array.range (1*1)).map ((Value.slice none 0 0).cells[·%(Value.slice none 0 0).cells.size]!)) [(0,.slice q n c)]=some #[.slice q n c]:=by kernel_rfl
theorem wp_row_one {w:World} {o:Oper} {a:Act} {K:Act→World→Prop} {Q:Exit→Act→World→Prop} (x:Operand) (ho:o.op= .buildSlice 51 1 #[(0,x)]) {q:Option Addr} {n c:Nat} (hx:a.eval x= .slice q n c)
  (h:K (a.put o.dst (.slice (some ⟨w.heap.size,0,none⟩) 1 1)) (w.alloc (.cells #[.slice q n c] 24))):o.wp Tryz.prog a w K Q:=by
 obtain ⟨i,hi,hi0,hi1,hi2⟩:=info_parts IRs
 refine wp_buildSlice 51 24 1 #[(0,x)] ho #[.slice q n c] i _ URSs hi hi0 (by rw [hi1];omega) (by rw [hi1];omega) ?_ h
 rw [hi1]
 simp only [List.map_toArray,List.map_cons,List.map_nil,hx]
 exact row_fill q n c
structure AppR (B gs d:Nat) (Q:Nat→Prop) (s:Pg.S) (w:World) (v:Value) (L:List Rw) (g c:Nat) (w':World):Prop where
 seg:Seg w' g 0 L
 ok:RowsOk w' d g Q L
 st:PL w' gs Q s
 lt:g<w'.heap.size
 notq:¬Q g
 cap:L.length≤c
 low:B≤g
 only:Only (fun k=>v.ownBlock=some k) w w'
theorem app_row {B gs d:Nat} {Q:Nat→Prop} {s:Pg.S} {w:World} {v:Value} {O:List Rw} {r:Rw} (h:w.ownsRow B 24 1 v O.length (hds O)) (hB:B≤w.heap.size) (hO:∀x∈O++[r],x.Ok w∧x.n=d∧∀y,x.p=some y→x.R≠[]→v.ownBlock≠some y.block∧¬Q y.block) (hQB:∀k,Q k→k<B) (hp:PL w gs Q s) {o:Oper} {a:Act} {K:Act→World→Prop} {Qx:Exit→Act→World→Prop} (y x:Operand)
  (ho:o.op= .call {callee:=.builtin .append,args:= #[y,x],argTypes:= #[51,51]}) (hs:a.eval y=v) (hx:a.eval x= .slice (some ⟨w.heap.size,0,none⟩) 1 1) (hlen:O.length≤100000)
  (hK:∀g c w',AppR B gs d Q s w v (O++[r]) g c w'→K (a.put o.dst (.slice (some ⟨g,0,none⟩) (O.length+1) c)) w'):o.wp Tryz.prog a (w.alloc (.cells #[r.val] 24)) K Qx:=by
 obtain ⟨i,hi,hi0,hi1,hi2⟩:=info_parts IRs
 have hb:Below w.heap.size w (w.alloc (.cells #[r.val] 24)):=(Below.refl _ _).alloc (Nat.le_refl _) _
 have h2:(w.alloc (.cells #[r.val] 24)).ownsRow B 24 1 v O.length (hds O):=⟨h.1,h.2.imp id (by
  rintro ⟨g,cap,cur,hv,hg,hh,e⟩
  exact ⟨g,cap,cur,hv,hg,(hb.block _ (yL hh)).trans hh,e⟩)⟩
 refine wp_append_at y x 51 ho B 24 i _ 1 24 URSs hi hi0 hi1 hi2 (by rfl) (by decide) v O.length _ hs h2 ⟨w.heap.size,0,none⟩ 1 1 (hds [r]) hx (by simp [hds]) (hd_new w r.p r.n r.c r.R) (hds_one _) (by unfold maxLen;omega) (by omega) (by simp;omega) fun v' w' k1 k2 k3=>?_
 rw [← hds_append] at k1
 obtain ⟨g,c,rfl,hn,hc,hgB,hgl,hseg⟩:=own_seg k1 (by omega)
 have hon:Only (fun k=>v.ownBlock=some k) w w':=⟨k2.os.trans hb.os,k2.tape.trans hb.tape,k2.output.trans hb.output,Nat.le_trans hb.size k2.size,fun k hk hne=>(k2.block k (Nat.lt_of_lt_of_le hk hb.size) (fun e=>hne e.symm)).trans (hb.block k hk)⟩
 have hgn:v.ownBlock=some g∨w.heap.size+1≤g:=by
  rcases k3 with e | e
  ·exact Or.inl e.symm
  ·right
   have e:some g=some (w.alloc (.cells #[r.val] 24)).heap.size:=e
   have:=Option.some.inj e
   simp at this
   omega
 refine hK g c w' ⟨hseg,fun z hz=>?_,hp.keep _ hon (fun k hk e=>?_),hgl,fun e=>by have:=hQB g e;omega,by rw [← hn];exact hc,hgB,hon⟩
 ·obtain ⟨z1,z2,z3⟩:=hO z hz
  refine ⟨Nd.rw_keep z1 fun t ht hR=>hon.block _ (rw_lt z1 t ht hR) (z3 t ht hR).1,z2,fun t ht hR e=>?_,fun t ht hR=>(z3 t ht hR).2⟩
  rcases hgn with e2 | e2
  ·exact (z3 t ht hR).1 (by rw [e2,e])
  ·have:=rw_lt z1 t ht hR
   omega
 ·have:=(h.lt k e).1
  have:=hQB k hk
  omega
end Go.Proofs.YtinihaflmdihaaaGreat.Kt
namespace Go.Proofs.YtinihaflmdihaaaGreat.Kt
open Go.RowKit Go.Proofs.YtinihaflmdihaaaGreat.Nd Go.Proofs.YtinihaflmdihaaaGreat.Pg
theorem settle_ind:∀(L:List St) (i j:Nat),(settle i L).2=(settle j L).2
 |[],_,_=>rfl
 | s::L,i,j=>by
  rw [settle_cons,settle_cons,settle_ind L (i+1) (j+1)]
  split<;>rfl
theorem setOk_cons {s:St} {L:List St} (h0:0≤s.on+(settle 0 L).2.2+s.off+1) (h:SetOk L):SetOk (s::L):=fun j x hx=>by
 cases j with
 | zero=>
  simp only [List.getElem?_cons_zero,Option.some.injEq] at hx
  subst hx
  show 0≤s.on+(settle (0+1) L).2.2+s.off+1
  rw [settle_ind L (0+1) 0]
  exact h0
 | succ j=>
  have:=h j x (by simpa using hx)
  show 0≤x.on+(settle (j+1+1) (L.drop (j+1))).2.2+x.off+1
  rw [settle_ind _ (j+1+1) (j+1)]
  exact this
structure StepOk (W:Pages) (d:Nat) (Z:Int) (s:St):Prop where
 row:s.row.length=d
 l:Sees W d s.l
 r:Sees W d s.r
 old:Sees W d s.old
 zl:s.l.kid.size≤Z
 zr:s.r.kid.size≤Z
 zo:s.old.kid.size≤Z
theorem sees_nums {d:Nat} {W:Pages} {u:V} (h:Sees W d u):0≤u.kid.live∧u.kid.live≤u.kid.size∧u.kid.size≤1048576:=⟨(kid_split (sees_right h).1).1,kid_le (sees_right h).1,(kid_zero (sees_right h).1).2⟩
theorem fork_len {d:Nat} {W:Pages} {q:List Int} {lv:Bool} {l r:V} (hs:Sees W d (.fork q lv l r)):q.length=d:=by
 have:=(right_split hs.1.right).2.2.1 ⟨q,lv⟩ (by simp [forkN])
 simp only at this
 omega
theorem way_steps {W:Pages} {d:Nat} {Z:Int} {p:List Int} (hp:p.length=d) (hZ:0≤Z):∀(u:V) (t:Nat),Sees W d u→u.kid.size≤Z→∀L s,wayV d p u t=some (L,s)→∀st∈L++[s],StepOk W d Z st
 | .nil,t,_,_,L,s,h,st,hst=>by
  have h:some ([],(⟨p,false,.nil,.nil,false,.nil⟩:St))=some (L,s):=h
  simp only [Option.some.injEq,Prod.mk.injEq] at h
  obtain ⟨rfl,rfl⟩:=h
  rw [List.mem_singleton.1 hst]
  exact ⟨hp,trivial,trivial,trivial,hZ,hZ,hZ⟩
 | .bad k,t,_,_,L,s,h,st,hst=>by cases h
 | .fork q lv l r,t,hs,hz,L,s,h,st,hst=>by
  have hsz:(V.fork q lv l r).kid.size=1+(l.kid.size+r.kid.size):=fork_size q lv l.kid r.kid
  have h1:=sees_size hs.2.2.1
  have h2:=sees_size hs.2.2.2
  have hme:∀sd,StepOk W d Z ⟨q,lv,l,r,sd,.fork q lv l r⟩:=fun sd=>⟨fork_len hs,hs.2.2.1,hs.2.2.2,hs,show l.kid.size≤Z by omega,show r.kid.size≤Z by omega,hz⟩
  have hw:wayV d p (.fork q lv l r) t=(if ordC (t%d) p q=0 then some ([],⟨q,lv,l,r,false,.fork q lv l r⟩)
   else if 0<ordC (t%d) p q then (wayV d p r (t+1)).map fun x=>(⟨q,lv,l,r,true,.fork q lv l r⟩::x.1,x.2)
   else (wayV d p l (t+1)).map fun x=>(⟨q,lv,l,r,false,.fork q lv l r⟩::x.1,x.2)):=rfl
  rw [hw] at h
  split at h
  ·simp only [Option.some.injEq,Prod.mk.injEq] at h
   obtain ⟨rfl,rfl⟩:=h
   rw [List.mem_singleton.1 hst]
   exact hme false
  ·split at h
   ·cases hwr:wayV d p r (t+1) with
    | none=>rw [hwr] at h;cases h
    | some x=>
     rw [hwr] at h
     simp only [Option.map_some,Option.some.injEq,Prod.mk.injEq] at h
     obtain ⟨rfl,rfl⟩:=h
     rcases List.mem_cons.1 hst with rfl | hst
     ·exact hme true
     ·exact way_steps hp hZ r (t+1) hs.2.2.2 (by omega) x.1 x.2 hwr st hst
   ·cases hwl:wayV d p l (t+1) with
    | none=>rw [hwl] at h;cases h
    | some x=>
     rw [hwl] at h
     simp only [Option.map_some,Option.some.injEq,Prod.mk.injEq] at h
     obtain ⟨rfl,rfl⟩:=h
     rcases List.mem_cons.1 hst with rfl | hst
     ·exact hme false
     ·exact way_steps hp hZ l (t+1) hs.2.2.1 (by omega) x.1 x.2 hwl st hst
theorem settle_bound (s:St) (M:List St) (x:Int) (hx:s.on+(settle 0 M).2.2=x) (h0:0≤x+s.off+1) (h1:x+s.off≤s.old.kid.size) (h2:0≤s.old.kid.live∧s.old.kid.live≤s.old.kid.size):0≤(settle 0 (s::M)).2.1∧(settle 0 (s::M)).2.1≤s.old.kid.size+1∧(settle 0 (s::M)).2.2=(settle 0 (s::M)).2.1 - s.old.kid.size:=by
 rw [settle_cons,settle_ind M (0+1) 0,hx]
 split
 ·exact ⟨by simp only;omega,by simp only;omega,rfl⟩
 ·exact ⟨by simp only;omega,by simp only;omega,rfl⟩
theorem way_settle {W:Pages} {d:Nat} {p:List Int}:∀(u:V) (t:Nat),Sees W d u→∀L s,wayV d p u t=some (L,s)→(0≤(settle 0 (L++[s])).2.1∧(settle 0 (L++[s])).2.1≤u.kid.size+1∧(settle 0 (L++[s])).2.2=(settle 0 (L++[s])).2.1 - u.kid.size)∧SetOk (L++[s])∧(((L++[s]).length:Int)≤u.kid.size+1)
 | .nil,t,_,L,s,h=>by
  have h:some ([],(⟨p,false,.nil,.nil,false,.nil⟩:St))=some (L,s):=h
  simp only [Option.some.injEq,Prod.mk.injEq] at h
  obtain ⟨rfl,rfl⟩:=h
  have h00:(V.nil).kid.size=0∧(V.nil).kid.live=0:=⟨rfl,rfl⟩
  exact ⟨settle_bound ⟨p,false,.nil,.nil,false,.nil⟩ [] 0 rfl (by show (0:Int)≤0+(V.nil).kid.size+1;omega) (by show (0:Int)+(V.nil).kid.size≤(V.nil).kid.size;omega) (by show 0≤(V.nil).kid.live∧(V.nil).kid.live≤(V.nil).kid.size;omega),setOk_cons (by show (0:Int)≤(V.nil).kid.size+0+(V.nil).kid.size+1;omega) (fun j x hx=>by simp at hx),by show (1:Int)≤(V.nil).kid.size+1;omega⟩
 | .bad k,t,_,L,s,h=>by cases h
 | .fork q lv l r,t,hs,L,s,h=>by
  have hsz:(V.fork q lv l r).kid.size=1+(l.kid.size+r.kid.size):=fork_size q lv l.kid r.kid
  have h1:=sees_nums hs.2.2.1
  have h2:=sees_nums hs.2.2.2
  have h3:=sees_nums hs
  have hnil:SetOk []:=fun j x hx=>by simp at hx
  have hon:∀sd,(⟨q,lv,l,r,sd,.fork q lv l r⟩:St).on=if sd then r.kid.size else l.kid.size:=fun sd=>rfl
  have hoff:∀sd,(⟨q,lv,l,r,sd,.fork q lv l r⟩:St).off=if sd then l.kid.size else r.kid.size:=fun sd=>rfl
  have key:∀(sd:Bool) (M:List St),0≤(settle 0 M).2.1→(settle 0 M).2.1≤(if sd then r.kid.size else l.kid.size)+1→(settle 0 M).2.2=(settle 0 M).2.1 - (if sd then r.kid.size else l.kid.size)→SetOk M→
    (0≤(settle 0 (⟨q,lv,l,r,sd,.fork q lv l r⟩::M)).2.1∧(settle 0 (⟨q,lv,l,r,sd,.fork q lv l r⟩::M)).2.1≤(V.fork q lv l r).kid.size+1∧(settle 0 (⟨q,lv,l,r,sd,.fork q lv l r⟩::M)).2.2=(settle 0 (⟨q,lv,l,r,sd,.fork q lv l r⟩::M)).2.1 - (V.fork q lv l r).kid.size)∧SetOk (⟨q,lv,l,r,sd,.fork q lv l r⟩::M):=fun sd M g1 g2 g3 g4=>by
   have hx:=hon sd
   have hy:=hoff sd
   refine ⟨settle_bound ⟨q,lv,l,r,sd,.fork q lv l r⟩ M _ rfl ?_ ?_ ⟨h3.1,h3.2.1⟩,setOk_cons ?_ g4⟩
   ·rw [hx,hy]
    cases sd<;>simp only [if_true,Bool.false_eq_true,if_false] at * <;>omega
   ·rw [hx,hy]
    show _≤(V.fork q lv l r).kid.size
    cases sd<;>simp only [if_true,Bool.false_eq_true,if_false] at * <;>omega
   ·rw [hx,hy]
    cases sd<;>simp only [if_true,Bool.false_eq_true,if_false] at * <;>omega
  have hw:wayV d p (.fork q lv l r) t=(if ordC (t%d) p q=0 then some ([],⟨q,lv,l,r,false,.fork q lv l r⟩)
   else if 0<ordC (t%d) p q then (wayV d p r (t+1)).map fun x=>(⟨q,lv,l,r,true,.fork q lv l r⟩::x.1,x.2)
   else (wayV d p l (t+1)).map fun x=>(⟨q,lv,l,r,false,.fork q lv l r⟩::x.1,x.2)):=rfl
  rw [hw] at h
  split at h
  ·simp only [Option.some.injEq,Prod.mk.injEq] at h
   obtain ⟨rfl,rfl⟩:=h
   refine ⟨settle_bound ⟨q,lv,l,r,false,.fork q lv l r⟩ [] l.kid.size (by show l.kid.size+0=_;omega) (by show 0≤l.kid.size+r.kid.size+1;omega) (by show l.kid.size+r.kid.size≤(V.fork q lv l r).kid.size;omega) ⟨h3.1,h3.2.1⟩,setOk_cons (by show 0≤l.kid.size+0+r.kid.size+1;omega) hnil,by show (1:Int)≤(V.fork q lv l r).kid.size+1;omega⟩
  ·split at h
   ·cases hwr:wayV d p r (t+1) with
    | none=>rw [hwr] at h;cases h
    | some x=>
     rw [hwr] at h
     simp only [Option.map_some,Option.some.injEq,Prod.mk.injEq] at h
     obtain ⟨rfl,rfl⟩:=h
     obtain ⟨⟨g1,g2,g3⟩,g4,g5⟩:=way_settle r (t+1) hs.2.2.2 x.1 x.2 hwr
     obtain ⟨k1,k2⟩:=key true (x.1++[x.2]) g1 g2 g3 g4
     exact ⟨k1,k2,by rw [List.cons_append,List.length_cons];omega⟩
   ·cases hwl:wayV d p l (t+1) with
    | none=>rw [hwl] at h;cases h
    | some x=>
     rw [hwl] at h
     simp only [Option.map_some,Option.some.injEq,Prod.mk.injEq] at h
     obtain ⟨rfl,rfl⟩:=h
     obtain ⟨⟨g1,g2,g3⟩,g4,g5⟩:=way_settle l (t+1) hs.2.2.1 x.1 x.2 hwl
     obtain ⟨k1,k2⟩:=key false (x.1++[x.2]) g1 g2 g3 g4
     exact ⟨k1,k2,by rw [List.cons_append,List.length_cons];omega⟩
theorem links_good {W:Pages} {d Z:Nat} {A:List MSt} {L:List St} (hl:Links A L) (h:∀st∈L,StepOk W d Z st):(∀m∈A,GoodM d Z m)∧(∀m∈A,SzM m):=by
 induction hl with
 | nil=>exact ⟨fun m hm=>(by cases hm),fun m hm=>by cases hm⟩
 | cons hk _ ih=>
  obtain ⟨i1,i2⟩:=ih (fun st hst=>h st (by simp [hst]))
  have hs:=h _ (List.mem_cons_self ..)
  have n1:=sees_nums hs.l
  have n2:=sees_nums hs.r
  have n3:=sees_nums hs.old
  have r1:=sees_right hs.l
  have r2:=sees_right hs.r
  have z1:=sees_size hs.l
  have z2:=sees_size hs.r
  have zl:=hs.zl
  have zr:=hs.zr
  have row:=hs.row
  rw [hk.l] at n1 r1 z1 zl
  rw [hk.r] at n2 r2 z2 zr
  rw [hk.old] at n3
  rw [hk.row] at row
  refine ⟨fun m hm=>?_,fun m hm=>?_⟩
  ·rcases List.mem_cons.1 hm with rfl | hm
   ·exact ⟨row,⟨r1.1,r1.2,z1⟩,⟨r2.1,r2.2,z2⟩,zl,zr⟩
   ·exact i1 m hm
  ·rcases List.mem_cons.1 hm with rfl | hm
   ·exact ⟨⟨z1,n1.2.2⟩,⟨z2,n2.2.2⟩,⟨Int.le_trans n3.1 n3.2.1,n3.2.2⟩,⟨n3.1,Int.le_trans n3.2.1 n3.2.2⟩⟩
   ·exact i2 m hm
theorem links_last {A:List MSt} {L:List St} {s:St} (h:Links A (L++[s])):∃A0 m,A=A0++[m]∧Links A0 L∧Link m s:=by
 induction L generalizing A with
 | nil=>
  cases h with
  | cons h1 h2=>
   cases h2
   exact ⟨[],_,rfl,.nil,h1⟩
 | cons x L ih=>
  cases h with
  | cons h1 h2=>
   obtain ⟨A0,m,rfl,h3,h4⟩:=ih h2
   exact ⟨_::A0,m,rfl,.cons h1 h3,h4⟩
end Go.Proofs.YtinihaflmdihaaaGreat.Kt
namespace Go.Proofs.YtinihaflmdihaaaGreat.Kt
open Go.RowKit Go.Proofs.YtinihaflmdihaaaGreat.Nd Go.Proofs.YtinihaflmdihaaaGreat.Dk Go.Proofs.YtinihaflmdihaaaGreat.Pg
theorem rows_nil (w:World):RowsIn w none 0 0 []:=⟨rfl,Nat.le_refl _,(fun t ht=>by cases ht),Or.inl rfl⟩
theorem liveE_ents:∀(u:V) (t:Nat),liveE (u.ents t)=u.rows
 | .nil,_=>rfl
 | .bad _,_=>rfl
 | .fork p v l r,t=>by
  show liveE ((p,v,t)::(l.ents (t+1)++r.ents (t+1)))=(if v then [p] else [])++(l.rows++r.rows)
  rw [show (p,v,t)::(l.ents (t+1)++r.ents (t+1))=[(p,v,t)]++(l.ents (t+1)++r.ents (t+1)) from rfl,liveE_append,liveE_append,liveE_ents l,liveE_ents r]
  cases v<;>rfl
theorem foldl_max:∀(L:List Ent) (a:Nat),L.foldl (fun m e=>max m e.2.2) a=max a (deepE L)
 |[],a=>by simp [deepE]
 | e::L,a=>by
  unfold deepE
  rw [List.foldl_cons,List.foldl_cons,foldl_max L,foldl_max L]
  omega
theorem deepE_append (L M:List Ent):deepE (L++M)=max (deepE L) (deepE M):=by
 unfold deepE
 rw [List.foldl_append,foldl_max M]
 rfl
theorem deepE_ents:∀(u:T) (t:Nat),1≤t→deepE ((V.of u).ents t)=if u.height=0 then 0 else t - 1+u.height
 | .nil,t,_=>rfl
 | .fork p v l r,t,ht=>by
  show deepE ([(p,v,t)]++((V.of l).ents (t+1)++(V.of r).ents (t+1)))=_
  rw [deepE_append,deepE_append,deepE_ents l (t+1) (by omega),deepE_ents r (t+1) (by omega)]
  have h1:deepE [(p,v,t)]=t:=by simp [deepE]
  have h2:(T.fork p v l r).height=1+max l.height r.height:=rfl
  rw [h1,h2]
  split<;>split<;>split<;>omega
def RowsPost (w:World) (u:V) (e:Ending) (w':World):Prop:=∃(err:Int) (q:Option Addr) (c:Nat) (O:List Rw),e= .returned (.tuple #[.slice q O.length c,.int .i64 err])∧w'.ownsRow w.heap.size 24 1 (.slice q O.length c) O.length (hds O)∧(∀r∈O,r.Ok w'∧∀x,r.p=some x→r.R≠[]→(Value.slice q O.length c).ownBlock≠some x.block∧w.heap.size≤x.block)∧(u.whole=true→err=0∧O.map Rw.R=u.rows)∧(u.whole=false→err=21)∧(O.length:Int)≤u.kid.size∧Below w.heap.size w w'
theorem rows_any {gs d:Nat} {Q:Nat→Prop} {s:Pg.S} (hW:TextsK d s.W) (u:V) (k:Kd) (w:World) (hp:PL w gs Q s) (hs:Sees s.W d u) (hk:k.Ok w) (he:k.pk=u.kid) (hz:u.kid.size≤90000):
  Calls Tryz.prog 57 #[.agg #[.pointer (some ⟨gs,0,none⟩),.int .i64 d],.agg k.cells.toArray] w (RowsPost w u):=by
 obtain ⟨W,hW0,r0,r1,b1⟩:=two_alloc w (.cells #[.pointer (some ⟨gs,0,none⟩),.int .i64 d] 91) (.cells k.cells.toArray 34)
 have b2:Below W.heap.size W (W.alloc (.cells #[.slice none 0 0] 51)):=(Below.refl _ _).alloc (Nat.le_refl _) _
 have r2:=heap_alloc_new W (.cells #[.slice none 0 0] 51)
 have b12:=b1.trans (b2.mono b1.size)
 have hcol:ColI w.heap.size W.heap.size (fun k=>k=W.heap.size) [] (W.alloc (.cells #[.slice none 0 0] 51)):=⟨.slice none 0 0,[],⟨r2,⟨rfl,Or.inl ⟨rfl,rfl⟩⟩,(fun r hr=>by cases hr),rfl,fun k=>⟨Or.inl,fun h=>h.elim id (fun h=>by cases h)⟩,(fun h=>by cases h),by simp⟩⟩
 have HE:=yH (keach_any (gs:=gs) (Q:=Q) (B:=w.heap.size) hW rows_enter (rows_do (B:=w.heap.size) (b:=W.heap.size)) u k (w.heap.size+1) 0 0 (W.alloc (.cells #[.slice none 0 0] 51)) (fun k=>k=W.heap.size) [] (hp.keep (fun _=>False) (Only.of_below _ b12) (fun _ _ e=>e)) hs (hk.later b12) (range_later (range_kd r1) b2) he hcol (fun j hj e=>by have:=hp.lt j hj;have:=b1.size;omega) (by omega) (by simp;omega) b12.size)
 have R0:=yH (range_tr ((b2.block _ (yL r0)).trans r0))
 have B2:=yH b12
 have HWS:=yH (show w.heap.size+2≤W.heap.size from (yL r1))
 obtain ⟨du,hdu,hdr⟩:=UTr
 have HDU:=yH hdu
 have HDR:=yH hdr
 clear hW hp hs hk he hz r0 r1 b1 b2 r2 b12 hcol hdu hdr
 go_enter Tryz.func57,Tryz.ntmps57
 go_upto_region 1 with fail
 clear hW0
 go_upto_region 2 with fail
 generalize W.alloc (.cells #[.slice none 0 0] 51)=w2 at *
 go_upto_region 3 with (first
  | (refine wpList_load_mid (by rfl) 91 _ (by rfl) w.heap.size 0 (by rfl) [.pointer (some ⟨gs,0,none⟩),.int .i64 d] du R0.out HDU.out HDR.out STr ?_)
  | (go_at_call 74;refine HE.out.mono ?_;rintro _ w3 ⟨err,M,X3,rfl,⟨v,O,hcol⟩,hx,ho,hw,hb,hml⟩;have HC:=yH hcol;have HX:=yH hx;have HO:=yH ho;have HW:=yH hw;have HB:=yH hb;have HML:=yH hml;clear hcol hx ho hw hb hml))
 obtain ⟨q3,c3,rfl⟩:=lst_form HC.out.own
 have c1:=cell_of_row w3 W.heap.size 0 _ _ _ HC.out.row
 go_wp2_with fail
 go_ret2
 have hbl:Below w.heap.size w w3:=B2.out.trans (HO.out.below B2.out.size (fun k e=>by have:=HWS.out;omega))
 refine ⟨err,q3,c3,O,rfl,?_,fun r hr=>⟨(HC.out.ok r hr).1,fun x hx hR=>⟨fun e=>?_,((HC.out.ok r hr).2 x hx hR).2⟩⟩,fun h=>?_,HB.out,?_,hbl⟩
 ·obtain ⟨h1,h2⟩:=HC.out.own
  refine ⟨h1,h2.imp id ?_⟩
  rintro ⟨g,cap,cur,hv,hg,hh,r⟩
  refine ⟨g,cap,cur,hv,?_,hh,r⟩
  have hX:X3 g:=(HC.out.mine g).2 (Or.inr (by rw [hv];rfl))
  have:=HWS.out
  have:=B2.out.size
  rcases HX.out g hX with h | h
  ·omega
  ·omega
 ·exact ((HC.out.ok r hr).2 x hx hR).1 ((HC.out.mine _).2 (Or.inr e))
 ·obtain ⟨h1,h2⟩:=HW.out h
  refine ⟨h1,?_⟩
  rw [HC.out.are,h2,List.nil_append,liveE_ents]
 ·have h1:=HC.out.are
  have h2:=congrArg List.length h1
  rw [List.length_map,List.nil_append] at h2
  have h3:(liveE M).length≤M.length:=by
   unfold liveE
   rw [List.length_map]
   exact List.length_filter_le _ _
  have:=HML.out
  omega
theorem Height_any {gs d:Nat} {Q:Nat→Prop} {s:Pg.S} (hd:1≤d∧d≤8) (hW:TextsK d s.W) (u:V) (k:Kd) (w:World) (hp:PL w gs Q s) (hs:Sees s.W d u) (hk:k.Ok w) (he:k.pk=u.kid) (hz:u.kid.size≤90000):
  Calls Tryz.prog 24 #[.pointer (some ⟨gs,0,none⟩),.agg k.cells.toArray,.int .i64 d] w fun e w'=>Below w.heap.size w w'∧((u.whole=true→e= .returned (.tuple #[.int .i64 (deepE (u.ents 1)),.int .i64 0]))∧(u.whole=false→e= .returned (.tuple #[.int .i64 0,.int .i64 21]))):=by
 have b1:Below w.heap.size w (w.alloc (.cells k.cells.toArray 34)):=(Below.refl _ _).alloc (Nat.le_refl _) _
 have r1:=heap_alloc_new w (.cells k.cells.toArray 34)
 have HT:=yH (fun w'=>takes_any (some ⟨gs,0,none⟩) d none 0 0 [] w' (rows_nil w') (by omega))
 rw [show takesB d []=true from by unfold takesB;rw [decide_eq_true (by omega)];rfl] at HT
 have HE:=yH (fun (w':World) (hb:Below w.heap.size w w') (hr:w'.rangeAt w.heap.size 0 k.cells) (b:Nat) (hbl:w.heap.size≤b) (hr2:w'.heap[b]? =some (.cells #[.int .i64 (0:Nat)] 3 (0,0)))=>keach_any (gs:=gs) (Q:=Q) (B:=0) hW top_enter (top_do (B:=0) (b:=b)) u k w.heap.size 0 1 w' (fun k=>k=b) [] (hp.keep (fun _=>False) (Only.of_below _ hb) (fun _ _ e=>e)) hs (hk.later hb) hr he ⟨hr2,fun _=>Iff.rfl⟩ (fun j hj e=>by have:=hp.lt j hj;omega) (by omega) (by simp;omega) (Nat.zero_le _))
 have R1:=yH r1
 have B1:=yH b1
 have HWB:=yH (show u.whole=true∨u.whole=false from by cases u.whole<;>simp)
 obtain ⟨du,hdu,hdr⟩:=UTr
 obtain ⟨dk,hdk,hdkr⟩:=UKd
 have HDU:=yH hdu
 have HDR:=yH hdr
 have HDK:=yH hdk
 have HDKR:=yH hdkr
 clear hd hW hp hs hk he hz b1 r1 hdu hdr hdk hdkr
 go_enter Tryz.func24,Tryz.ntmps24
 go_upto_region 1 with fail
 generalize w.alloc (.cells k.cells.toArray 34)=w1 at *
 go_upto_region 2 with (first
  | (refine wpList_build (cells:= #[.pointer (some ⟨gs,0,none⟩),.int .i64 d]) (by rfl) (by rfl) (by simp only [List.map_toArray,List.map_cons,List.map_nil];exact tr_built _ _) ?_)
  | (refine wpList_store_row (by rfl) 91 (.tmp 8) (.tmp 13) (by rfl) w1.heap.size #[.pointer (some ⟨gs,0,none⟩),.int .i64 d] (by rfl) (by rfl) _ _ (heap_alloc_new w1 _) STr rfl (tr_one _ _) ?_;rw [setRow_alloc]))
 have hb2:Below w1.heap.size w1 (w1.alloc (.cells #[.pointer (some ⟨gs,0,none⟩),.int .i64 d] 91)):=(Below.refl _ _).alloc (Nat.le_refl _) _
 have hr2:=heap_alloc_new w1 (.cells #[.pointer (some ⟨gs,0,none⟩),.int .i64 d] 91)
 generalize w1.alloc (.cells #[.pointer (some ⟨gs,0,none⟩),.int .i64 d] 91)=w2 at *
 have R2:=yH hr2
 have R2a:=yH (range_tr hr2)
 have R12:=yH ((hb2.block _ (yL R1.out)).trans R1.out)
 have B2:=yH (B1.out.trans (hb2.mono B1.out.size))
 clear hb2 hr2
 go_upto_region 4 with (first
  | (refine wpList_load_mid (by rfl) 91 (.tmp 8) (by rfl) w1.heap.size 0 (by rfl) [.pointer (some ⟨gs,0,none⟩),.int .i64 d] du R2a.out HDU.out HDR.out STr ?_)
  | (go_at_call 72;refine (HT.out w2).mono ?_;rintro _ w3 ⟨rfl,b3⟩;have B3:=yH (B2.out.trans (b3.mono B2.out.size));have R3:=yH ((b3.block _ (yL R2.out)).trans R2.out);have R13:=yH ((b3.block _ (yL R12.out)).trans R12.out);clear b3))
 go_upto_region 5 with fail
 have hb4:Below w3.heap.size w3 (w3.alloc (.cells #[.int .i64 0] 3)):=(Below.refl _ _).alloc (Nat.le_refl _) _
 have hr4:=heap_alloc_new w3 (.cells #[.int .i64 0] 3)
 have hE5:Calls Tryz.prog 74 #[.agg #[.pointer (some ⟨gs,0,none⟩),.int .i64 d],.pointer (some ⟨w.heap.size,0,none⟩),.int .i64 1,.func (.func 75) #[] #[.pointer (some ⟨w3.heap.size,0,none⟩)]] (w3.alloc (.cells #[.int .i64 0] 3)) (EachPost (w3.alloc (.cells #[.int .i64 0] 3)) (TopI w3.heap.size) (fun k=>k=w3.heap.size) [] u 1):=HE.out _ (B3.out.trans (hb4.mono B3.out.size)) (range_kd ((hb4.block _ (yL R13.out)).trans R13.out)) w3.heap.size B3.out.size hr4
 have HE5:=yH hE5
 have R4:=yH (range_tr ((hb4.block _ (yL R3.out)).trans R3.out))
 have B4:=yH (B3.out.trans (hb4.mono B3.out.size))
 have HZ3:=yH B3.out.size
 clear hE5 hb4 hr4 HE HT
 generalize w3.alloc (.cells #[.int .i64 0] 3)=w4 at *
 rcases HWB.out with hwh | hwh
 ·have HWH:=yH hwh
  clear hwh
  go_upto_region 6 with (first
   | (refine wpList_load_mid (by rfl) 91 (.tmp 8) (by rfl) w1.heap.size 0 (by rfl) [.pointer (some ⟨gs,0,none⟩),.int .i64 d] du R4.out HDU.out HDR.out STr ?_)
   | (go_at_call 74;refine HE5.out.mono ?_;rintro _ w5 ⟨err,M,X5,rfl,⟨hc,hm⟩,hx,ho,hw,hb,hml⟩;obtain ⟨rfl,rfl⟩:=hw HWH.out;have HC:=yH hc;have HO:=yH ho;clear hc hm hx ho hw hb hml))
  have c1:=cell_of_row w5 w3.heap.size 0 _ _ _ HC.out
  rw [List.nil_append] at c1
  have HHW:=yH (show u.whole=true→u.whole=false→False from fun h1 h2=>by rw [h1] at h2;cases h2)
  obtain ⟨D,hD⟩:∃D,deepE (u.ents 1)=D:=⟨_,rfl⟩
  rw [hD] at c1
  have HDE:=yH hD
  clear hD
  go_wp2_with fail
  go_ret2
  exact ⟨B4.out.trans (HO.out.below B4.out.size (fun k e=>by have:=HZ3.out;omega)),(fun _=>by rw [HDE.out];rfl),(fun h=>(HHW.out HWH.out h).elim)⟩
 ·have HWH:=yH hwh
  clear hwh
  go_upto_region 6 with (first
   | (refine wpList_load_mid (by rfl) 91 (.tmp 8) (by rfl) w1.heap.size 0 (by rfl) [.pointer (some ⟨gs,0,none⟩),.int .i64 d] du R4.out HDU.out HDR.out STr ?_)
   | (go_at_call 74;refine HE5.out.mono ?_;rintro _ w5 ⟨err,M,X5,rfl,hi,hx,ho,hw,hb,hml⟩;obtain rfl:=hb HWH.out;have HO:=yH ho;clear hi hx ho hw hb hml))
  go_wp2_with fail
  go_ret2
  exact ⟨B4.out.trans (HO.out.below B4.out.size (fun k e=>by have:=HZ3.out;omega)),(fun h=>by rw [HWH.out] at h;cases h),(fun _=>rfl)⟩
end Go.Proofs.YtinihaflmdihaaaGreat.Kt
namespace Go.Proofs.YtinihaflmdihaaaGreat.Kt
open Go.RowKit Go.Proofs.YtinihaflmdihaaaGreat.Nd
open List renaming setIfInBounds_toArray → yA, set_cons_zero → yB, set_cons_succ → yC
def Twice (L:List Rw):Prop:=∃j,j+1<L.length∧(L.getD j default).R=(L.getD (j+1) default).R
def TwRel (w:World) (L:List Rw) (n:Nat) (i:Value) (wr:World):Prop:=∃k m:Nat,(k+1≤n∨k=0)∧i= .int .i64 k∧(∀j,j<k→(L.getD j default).R≠(L.getD (j+1) default).R)∧wr=w.drewN m
def TwPost (w:World) (L:List Rw) (e:Ending) (w':World):Prop:=∃b:Bool,e= .returned (.bool b)∧(b=true↔Twice L)∧∃j,w'=w.drewN j
theorem twice_any (p:Option Addr) (n c:Nat) (L:List Rw) (w:World) (h:RowsIn w p n c L) (hn:n≤1000000000):
  Calls Tryz.prog 77 #[.slice p n c] w (TwPost w L):=by
 have H:=yH h
 have HN:=yH h.size
 have q1:IntKind.i64.wrap ((n:Int) - 1)=(n:Int) - 1:=IntWalk.i64_in _ (by omega)
 clear h
 go_enter Tryz.func77,Tryz.ntmps77
 go_wp2_with fail
 go_loopw [3,7] (fun _ i wr=>TwRel w L n i wr) (fun _ i _=>n - (intOf i).toNat)
 case atStart=>exact ⟨0,0,Or.inr rfl,rfl,(fun j hj=>by omega),rfl⟩
 case round=>
  obtain ⟨k,m,hk,rfl,heq,rfl⟩:=hrel
  have HB:=yH (show Below w.heap.size w (w.drewN m) from Below.drewN (Below.refl _ _) m)
  have HEQ:=yH heq
  clear heq
  by_cases hlt:k+1<n
  ·have b1:(k:Int)<(n:Int) - 1:=by omega
   obtain ⟨g,o,rfl,c1,ok1⟩:=H.out.cell k (by omega)
   obtain ⟨g',o',hp,c2,ok2⟩:=H.out.cell (k+1) hlt
   simp only [Option.some.injEq,Addr.mk.injEq,and_true] at hp
   obtain ⟨rfl,rfl⟩:=hp
   have i1:(0:Int)≤k∧(k:Int)<n:=by omega
   have i2:(0:Int)≤(k:Int)+1∧(k:Int)+1<n:=by omega
   have q2:IntKind.i64.wrap ((k:Int)+1)=(k:Int)+1:=IntWalk.i64_in _ (by omega)
   have q3:((k:Int)+1).toNat=k+1:=by omega
   have C1:=yH c1
   have C2:=yH c2
   have HX:=yH (show ∀b:Bool,b=decide ((L.getD k default).R=(L.getD (k+1) default).R)→b=true→Twice L from fun b hb h=>⟨k,by rw [← HN.out];exact hlt,by rw [h] at hb;exact of_decide_eq_true hb.symm⟩)
   have HY:=yH (show decide ((L.getD k default).R=(L.getD (k+1) default).R)=false→∀j,j<k+1→(L.getD j default).R≠(L.getD (j+1) default).R from fun h j hj=>by
    rcases Nat.lt_or_ge j k with h1 | h1
    ·exact HEQ.out j h1
    ·obtain rfl:j=k:=by omega
     exact of_decide_eq_false h)
   have HQ:=yH (fun w' (hb:Below w.heap.size w w')=>sleq_any _ _ _ _ _ _ _ _ w' (ok1.ints.later hb) (ok2.ints.later hb) ok1.top)
   clear c1 c2 ok1 ok2
   generalize L.getD k default=r1 at *
   generalize L.getD (k+1) default=r2 at *
   obtain ⟨p1,n1,cc1,R1⟩:=r1
   obtain ⟨p2,n2,cc2,R2⟩:=r2
   unfold Rw.val at C1 C2
   simp only at C1 C2 HX HY HQ
   cases hb:decide (R1=R2) with
   | true=>
    rw [hb] at HQ
    have HT:=yH (HX.out true hb.symm rfl)
    clear hb HX HY HEQ
    go_upto_region 4 with fail
    refine wp_region_held_drew (S:=fun w'=>Below w.heap.size w w') (by kernel_rfl) HB.out.drew (fun hHeld=>?_)
    refine tK 0 ?_
    refine tK 1 ?_
    refine tK 2 ?_
    refine tQ 3 ?_ ?_ ?_
    rotate_left
    ·intro w' hSw
     have c9:=(hSw.cell (block_lt_of_cell C1.out)).trans C1.out
     go_simp
     try with_reducible rfl
    refine tK 4 ?_
    refine tK 5 ?_
    refine tK 6 ?_
    refine tK 7 ?_
    refine tQ 8 ?_ ?_ ?_
    rotate_left
    ·intro w' hSw
     have c9:=(hSw.cell (block_lt_of_cell C2.out)).trans C2.out
     go_simp
     try with_reducible rfl
    refine rY [9] ?_
    refine rC (fun K hK=>?_) AllReadyH.nil
    go_simp
    refine (HQ.out _ hHeld).mono ?_
    rintro _ w5 ⟨rfl,j5,rfl⟩
    try go_wp2_with fail
    refine hK.out _ _ (Below.drewN (Below.refl _ _) _) (fun hHeld=>?_)
    clear hK K
    try simp only [Act.put,yA,yB,yC]
    refine wpAnyH_done (by kernel_rfl) ?_ _
    go_wp2_with fail
    go_ret
    exact ⟨true,rfl,⟨fun _=>HT.out,fun _=>rfl⟩,_,rfl⟩
   | false=>
    rw [hb] at HQ
    have HZ:=yH (HY.out hb)
    clear hb HX HY HEQ
    go_upto_region 4 with fail
    refine wp_region_held_drew (S:=fun w'=>Below w.heap.size w w') (by kernel_rfl) HB.out.drew (fun hHeld=>?_)
    refine tK 0 ?_
    refine tK 1 ?_
    refine tK 2 ?_
    refine tQ 3 ?_ ?_ ?_
    rotate_left
    ·intro w' hSw
     have c9:=(hSw.cell (block_lt_of_cell C1.out)).trans C1.out
     go_simp
     try with_reducible rfl
    refine tK 4 ?_
    refine tK 5 ?_
    refine tK 6 ?_
    refine tK 7 ?_
    refine tQ 8 ?_ ?_ ?_
    rotate_left
    ·intro w' hSw
     have c9:=(hSw.cell (block_lt_of_cell C2.out)).trans C2.out
     go_simp
     try with_reducible rfl
    refine rY [9] ?_
    refine rC (fun K hK=>?_) AllReadyH.nil
    go_simp
    refine (HQ.out _ hHeld).mono ?_
    rintro _ w5 ⟨rfl,j5,rfl⟩
    try go_wp2_with fail
    refine hK.out _ _ (Below.drewN (Below.refl _ _) _) (fun hHeld=>?_)
    clear hK K
    try simp only [Act.put,yA,yB,yC]
    refine wpAnyH_done (by kernel_rfl) ?_ _
    go_wp2_with fail
    go_roundw
    case rel=>exact ⟨k+1,_,Or.inl hlt,by go_num,HZ.out,rfl⟩
    case measure=>simp [intOf];omega
  ·have b1:¬(k:Int)<(n:Int) - 1:=by omega
   have HT:=yH (show ¬Twice L from fun ⟨j,hj,he⟩=>HEQ.out j (by rw [← HN.out] at hj;omega) he)
   go_wp2_with fail
   go_ret
   exact ⟨false,rfl,⟨(fun h=>by cases h),fun h=>absurd h HT.out⟩,_,rfl⟩
end Go.Proofs.YtinihaflmdihaaaGreat.Kt
namespace Go.Proofs.YtinihaflmdihaaaGreat.Kt
open Go.RowKit Go.Proofs.YtinihaflmdihaaaGreat.Nd Go.Proofs.YtinihaflmdihaaaGreat.Dk Go.Proofs.YtinihaflmdihaaaGreat.Pg
theorem wpList_load_midK {ops:Array Oper} {rest:List Oper} {o:Oper} {a:Act} {w:World} {Q:Exit→Act→World→Prop} (hw:Region.wanted o (yielded ops a.tmps)=true) (ty:TypeId) (x:Operand) (ho:o.op= .load ty x)
  (b i:Nat) (hx:a.eval x= .pointer (some ⟨b,i,none⟩)) (cs:List Value) (d:TypeDesc) (hc:w.rangeAt b i cs)
  (hu:Tryz.prog.underlying ty=some d) (hd:d.isRow=true) (hi:(Tryz.prog.info? ty).map (·.size)=some cs.length)
  (h:wpList Tryz.prog ops Q rest (a.put o.dst (.agg cs.toArray)) w):wpList Tryz.prog ops Q (o::rest) a w:=
 BigFrame.wpList_want hw fun _ hK=>wp_load_mid ty x ho b i hx cs d hc hu hd hi (hK _ _ h)
theorem twice_iff {a d:Nat} {M:List Rw} {L:List (List Int)} (hd:∀y∈L,y.length=d) (hs:M.map Rw.R=sortP a L):Twice M↔¬L.Nodup:=by
 have hp:=sortP_perm a L
 have hso:=sortP_sorted (a:=a) hd
 have hdS:∀y∈sortP a L,y.length=d:=fun y hy=>hd y (hp.mem_iff.1 hy)
 rw [← hp.nodup_iff]
 have hlen:M.length=(sortP a L).length:=by rw [← hs,List.length_map]
 have hget:∀j (h:j<(sortP a L).length),(M.getD j default).R=(sortP a L)[j]:=fun j h=>by
  have h2:j<M.length:=by omega
  rw [← getD_R h2,hs,List.getD_eq_getElem?_getD,List.getElem?_eq_getElem h]
  rfl
 generalize sortP a L=S at *
 constructor
 ·rintro ⟨j,hj,he⟩ hn
  rw [hget j (by omega),hget (j+1) (by omega)] at he
  exact (List.pairwise_iff_getElem.1 hn) j (j+1) (by omega) (by omega) (by omega) he
 ·intro hn
  apply Classical.byContradiction
  intro ht
  apply hn
  rw [List.nodup_iff_pairwise_ne,List.pairwise_iff_getElem]
  intro i j hi hj hij he
  apply ht
  refine ⟨i,by omega,?_⟩
  rw [hget i (by omega),hget (i+1) (by omega)]
  by_cases h1:i+1=j
  ·subst h1
   exact he
  ·have s1:=(List.pairwise_iff_getElem.1 hso) i (i+1) hi (by omega) (by omega)
   have s2:=(List.pairwise_iff_getElem.1 hso) (i+1) j (by omega) hj (by omega)
   rw [← he] at s2
   exact less_total ((hdS _ (List.getElem_mem _)).trans (hdS _ (List.getElem_mem _)).symm) s2 s1
def BuiltPost (w:World) (gs:Nat) (Q:Nat→Prop) (s:Pg.S) (L:List Rw) (e:Ending) (w':World):Prop:=
 (¬(L.map Rw.R).Nodup∧e= .returned (.tuple #[.agg kd0.cells.toArray,.int .i64 8])∧Below w.heap.size w w')∨
 ((L.map Rw.R).Nodup∧∃(kd:Kd) (Q':Nat→Prop),e= .returned (.tuple #[.agg kd.cells.toArray,.int .i64 0])∧kd.pk=(lay (L.map Rw.R) 0).kid∧kd.Ok w'∧Fsh w kd∧Aw Q' kd∧PL w' gs Q' (puts s (lay (L.map Rw.R) 0).pages)∧(∀k,Q' k→Q k∨w.heap.size≤k)∧Only Q w w')
theorem rows_of_seg {w:World} {g o c:Nat} {M:List Rw} (h:Seg w g o M) (hok:∀r∈M,r.Ok w) (hc:M.length≤c):RowsIn w (some ⟨g,o,none⟩) M.length c M:=⟨rfl,hc,hok,Or.inr ⟨g,o,rfl,fun i hi=>(h i hi).1⟩⟩
theorem Build_some {gs d:Nat} {Q:Nat→Prop} {s:Pg.S} (hd:1≤d∧d≤8) (p:Option Addr) (n c:Nat) (L:List Rw) (w:World) (hL:RowsIn w p n c L) (hn:1≤n) (hdim:∀r∈L,r.n=d) (haq:∀r∈L,∀x,r.p=some x→r.R≠[]→¬Q x.block) (hp:PL w gs Q s) (hsl:s.W.length+n<100000):
  Calls Tryz.prog 32 #[.pointer (some ⟨gs,0,none⟩),.slice p n c,.int .i64 d] w (BuiltPost w gs Q s L):=by
 have b1:Below w.heap.size w (w.alloc (.cells kd0.cells.toArray 34)):=(Below.refl _ _).alloc (Nat.le_refl _) _
 have r1:=heap_alloc_new w (.cells kd0.cells.toArray 34)
 have htk:takesB d L=true:=by
  unfold takesB
  rw [decide_eq_true (by omega)]
  simp only [Bool.true_and,Bool.not_eq_true',List.any_eq_false,decide_eq_true_eq]
  intro r hr
  have:=hdim r hr
  omega
 have HT:=yH (fun w' (hb:Below w.heap.size w w')=>takes_any (some ⟨gs,0,none⟩) d p n c L w' (hL.later hb) (by omega))
 rw [htk] at HT
 have HCL:=yH (fun w' (hb:Below w.heap.size w w')=>clone_rows p n c L w' (hL.later hb) hn (by omega))
 have HNL:=yH hL.size
 have HDL:=yH (show ∀y∈L.map Rw.R,y.length=d from fun y hy=>by
  obtain ⟨r,hr,rfl⟩:=List.mem_map.1 hy
  exact (hL.each r hr).ints.size.symm.trans (hdim r hr))
 have HRO:=yH (show ∀r∈L,r.Ok w∧r.n=d from fun r hr=>⟨hL.each r hr,hdim r hr⟩)
 have HP:=yH hp
 have HAQ:=yH haq
 have HSL:=yH hsl
 have HDD:=yH hd
 have R1:=yH r1
 have B1:=yH b1
 have e1:¬(n:Int)>1048576:=by omega
 obtain ⟨du,hdu,hdr⟩:=UTr
 obtain ⟨dk,hdk,hdkr⟩:=UKd
 have HDU:=yH hdu
 have HDR:=yH hdr
 have HDK:=yH hdk
 have HDKR:=yH hdkr
 have HZ:=yH (zero_of_info kz)
 have hz0:=HZ.out.1
 clear hL htk hdim haq hp hsl hd b1 r1 hdu hdr hdk hdkr
 go_enter Tryz.func32,Tryz.ntmps32
 go_upto_region 1 with fail
 generalize w.alloc (.cells kd0.cells.toArray 34)=w1 at *
 go_upto_region 2 with (first
  | (refine wpList_build (cells:= #[.pointer (some ⟨gs,0,none⟩),.int .i64 d]) (by rfl) (by rfl) (by simp only [List.map_toArray,List.map_cons,List.map_nil];exact tr_built _ _) ?_)
  | (refine wpList_store_row (by rfl) 91 (.tmp 8) (.tmp 12) (by rfl) w1.heap.size #[.pointer (some ⟨gs,0,none⟩),.int .i64 d] (by rfl) (by rfl) _ _ (heap_alloc_new w1 _) STr rfl (tr_one _ _) ?_;rw [setRow_alloc]))
 have hb2:Below w1.heap.size w1 (w1.alloc (.cells #[.pointer (some ⟨gs,0,none⟩),.int .i64 d] 91)):=(Below.refl _ _).alloc (Nat.le_refl _) _
 have hr2:=heap_alloc_new w1 (.cells #[.pointer (some ⟨gs,0,none⟩),.int .i64 d] 91)
 generalize w1.alloc (.cells #[.pointer (some ⟨gs,0,none⟩),.int .i64 d] 91)=w2 at *
 have R2:=yH (range_tr hr2)
 have R2h:=yH hr2
 have R12:=yH ((hb2.block _ (yL R1.out)).trans R1.out)
 have B2:=yH (B1.out.trans (hb2.mono B1.out.size))
 clear hb2 hr2
 go_upto_region 5 with (first
  | (refine wpList_load_midK (by rfl) 91 (.tmp 8) (by rfl) w1.heap.size 0 (by rfl) [.pointer (some ⟨gs,0,none⟩),.int .i64 d] du R2.out HDU.out HDR.out STr ?_)
  | (go_at_call 72;refine (HT.out w2 B2.out).mono ?_;rintro _ w3 ⟨rfl,b3⟩;have B3:=yH (B2.out.trans (b3.mono B2.out.size));have R3:=yH ((b3.block _ (yL R12.out)).trans R12.out);have R3h:=yH ((b3.block _ (yL R2h.out)).trans R2h.out);clear b3)
  | (go_at_call 76;refine (HCL.out w3 B3.out).mono ?_;rintro _ w4 ⟨gc,cc,rfl,hcc,hgc,hgl,hsg,b4⟩;have B4:=yH (B3.out.trans (b4.mono B3.out.size));have R4:=yH ((b4.block _ (yL R3.out)).trans R3.out);have R4h:=yH ((b4.block _ (yL R3h.out)).trans R3h.out);have HGC:=yH (show w3.heap.size≤gc∧gc<w4.heap.size from ⟨hgc,hgl⟩);have HCC:=yH hcc;have HSG:=yH hsg;clear b4 hcc hgc hgl hsg))
 have R4t:=yH (range_tr R4h.out)
 have HS3:=yH (show w.heap.size≤w3.heap.size from B3.out.size)
 have HB1:=yH (show w1.heap.size<w3.heap.size from (yL R3h.out))
 have HSO:=yH (tsort_any (some ⟨gs,0,none⟩) d 0 gc 0 cc L w4 (fun e=>by have h:=HNL.out;rw [e] at h;simp at h;omega) HSG.out (fun r hr=>⟨(HRO.out r hr).1.later B4.out,(HRO.out r hr).2,fun y hy hR=>by have:=rw_lt (HRO.out r hr).1 y hy hR;have:=HGC.out;have:=HS3.out;omega⟩) (by have:=HDD.out;omega) (by omega) HGC.out.2 (by have:=HNL.out;have:=HSL.out;omega))
 rw [Nat.zero_mod] at HSO
 rw [← HNL.out] at HSO ⊢
 go_upto_region 6 with (first
  | (refine wpList_load_mid (by rfl) 91 (.tmp 8) (by rfl) w1.heap.size 0 (by rfl) [.pointer (some ⟨gs,0,none⟩),.int .i64 d] du R4t.out HDU.out HDR.out STr ?_)
  | (go_at_call 73;refine HSO.out.mono ?_;rintro _ w5 ⟨rfl,M,hM1,hM2,hM3,hM4⟩;have HM1:=yH hM1;have HM2:=yH hM2;have HM3:=yH hM3;have HM4:=yH hM4;clear hM1 hM2 hM3 hM4))
 have HML:=yH (show M.length=n from HM1.out.length_eq.trans HNL.out.symm)
 have R5:=yH ((HM4.out.only.block _ (yL R4.out) (by have:=HGC.out;have:=HS3.out;have:=(yL R3.out);omega)).trans R4.out)
 have R5h:=yH ((HM4.out.only.block _ (yL R4h.out) (by have:=HGC.out;have:=HB1.out;omega)).trans R4h.out)
 have HMR:=yH (show ∀r∈M,r.Ok w5 from fun r hr=>by
  have h:=HRO.out r (HM1.out.mem_iff.1 hr)
  exact Nd.rw_keep (h.1.later B4.out) fun y hy hR=>HM4.out.only.block _ (rw_lt (h.1.later B4.out) y hy hR) (by have:=rw_lt h.1 y hy hR;have:=HGC.out;have:=HS3.out;omega))
 have htw:=twice_any (some ⟨gc,0,none⟩) n cc M w5 (by have h:=rows_of_seg HM3.out HMR.out (c:=cc) (by have h1:=HML.out;have h2:=HCC.out;have h3:=HNL.out;omega);rw [HML.out] at h;exact h) (by have:=HSL.out;omega)
 have HTW:=yH htw
 have HTI:=yH (twice_iff HDL.out HM2.out)
 clear htw
 have HO5:=yH (show Only (fun k=>k=gc) w4 w5 from HM4.out.only)
 have HBC:=yH (show w.heap.size<w1.heap.size∧w1.heap.size<w3.heap.size from ⟨(yL R1.out),HB1.out⟩)
 have HFIN:=yH (show Only (fun k=>k=gc) w w5 from (Only.of_below _ B4.out).trans HO5.out)
 by_cases hnd:(L.map Rw.R).Nodup
 ·have HND:=yH hnd
  have HLY:=yH (show ∀w',Below w5.heap.size w5 w'→Calls Tryz.prog 59 #[.agg #[.pointer (some ⟨gs,0,none⟩),.int .i64 d],.slice (some ⟨gc,0,none⟩) n cc,.int .i64 0] w' (LaidPost w' gs Q s gc 0 M 0) from fun w' hb=>by
   have hp5:PL w5 gs Q s:=(HP.out.keep _ (HFIN.out) (fun k hk e=>by have:=HP.out.lt k hk;have:=HGC.out;have:=HS3.out;omega))
   have h:=lay_any (gs:=gs) HDD.out n M (some ⟨gc,0,none⟩) cc 0 gc 0 w' Q s (by have:=HML.out;omega) (fun _=>rfl) (by have h1:=HML.out;have h2:=HCC.out;have h3:=HNL.out;omega) (HM3.out.later hb (by have:=HGC.out.2;have:=HO5.out.size;omega)) (fun r hr=>by
    have h:=HRO.out r (HM1.out.mem_iff.1 hr)
    refine ⟨(HMR.out r hr).later hb,h.2,fun y hy hR=>by have:=rw_lt h.1 y hy hR;have:=HGC.out;have:=HS3.out;omega,HAQ.out r (HM1.out.mem_iff.1 hr)⟩) (hp5.keep (fun _=>False) (Only.of_below _ hb) (fun _ _ e=>e)) (by have:=HGC.out.2;have:=HO5.out.size;have:=hb.size;omega) (fun e=>by have:=HP.out.lt _ e;have:=HGC.out;have:=HS3.out;omega) (by have:=HML.out;have:=HSL.out;omega) (by have:=HML.out;have:=HSL.out;omega)
   rw [HML.out] at h
   exact h)
  have hLM:lay (M.map Rw.R) 0=lay (L.map Rw.R) 0:=(lay_perm HDL.out (HM1.out.map Rw.R).symm).symm
  have HLM:=yH hLM
  clear hnd hLM
  go_wp2_with (first
   | (go_at_call 77;refine HTW.out.mono ?_;rintro _ w6 ⟨tb,rfl,htb,jj,hw6⟩;obtain rfl:tb=false:=(by rw [Bool.eq_false_iff];intro h;exact HTI.out.1 (htb.1 h) HND.out);have B6:=yH (show Below w5.heap.size w5 w6 from by rw [hw6];exact Below.drewN (Below.refl _ _) _);have R6:=yH ((B6.out.block _ (yL R5.out)).trans R5.out);have R6t:=yH (range_tr ((B6.out.block _ (yL R5h.out)).trans R5h.out));have HL6:=yH (HLY.out w6 B6.out);clear htb hw6)
   | (refine wpList_load_mid (by rfl) 91 (.tmp 8) (by rfl) w1.heap.size 0 (by rfl) [.pointer (some ⟨gs,0,none⟩),.int .i64 d] du R6t.out HDU.out HDR.out STr ?_)
   | (go_at_call 59;refine HL6.out.mono ?_;rintro _ w7 ⟨kd,Q7,rfl,hpk,hok,hfs,haw,hlr⟩;have HPK:=yH hpk;have HOKK:=yH hok;have HFS:=yH hfs;have HAW:=yH haw;have HLR:=yH hlr;have HCK:=yH (Kd.cells_length hok.len);have R7:=yH ((hlr.only.block _ (yL R6.out) (fun e=>e.elim (fun e=>by have:=HP.out.lt _ e;omega) (fun e=>by have:=HGC.out;have:=HBC.out;omega))).trans R6.out);clear hpk hok hfs haw hlr)
   | (refine wpList_store_row (by rfl) 34 _ _ (by rfl) w.heap.size kd.cells.toArray (by rfl) (by rfl) _ _ R7.out (by rw [List.size_toArray,HCK.out];exact SKd) (by simp only [List.size_toArray,HCK.out,kd0_size]) (all_oneCell_toArray Kd.one) ?_))
  refine ret_str2 6 7 (by kernel_rfl) w.heap.size _ kd.cells.toArray _ HDK.out HDKR.out (by rw [List.size_toArray,HCK.out];exact SKd) (by rfl) (by rfl) (setRow_heap _ _ _ _ _ _ R7.out) ?_
  have hb6:=B6.out.size
  have h4:=HO5.out.size
  have hbc:=HBC.out
  have hgc:=HGC.out
  have hs3:=HS3.out
  have ho3:=only_setRow w7 w.heap.size kd.cells.toArray
  have hsz:w.heap.size+1<w6.heap.size:=by omega
  have hrow:∀r∈kd.rows,r.Ok (w7.setRow w.heap.size kd.cells.toArray):=fun r hr=>Nd.rw_keep (kd_rows_ok HOKK.out r hr) (fun x hx hR=>ho3.block _ (rw_lt (kd_rows_ok HOKK.out r hr) x hx hR) (by have:=HFS.out r hr x hx hR;omega))
  have hq7:¬Q7 w.heap.size:=fun e=>(HLR.out.new _ e).elim (fun e=>by have:=HP.out.lt _ e;omega) (fun e=>by omega)
  refine Or.inr ⟨HND.out,kd,Q7,rfl,by rw [HPK.out,HLM.out],⟨HOKK.out.len,HOKK.out.ok,hrow _ (by simp [Kd.rows]),hrow _ (by simp [Kd.rows]),hrow _ (by simp [Kd.rows]),HOKK.out.live,HOKK.out.size⟩,(fun r hr x hx hR=>by have:=HFS.out r hr x hx hR;omega),HAW.out,?_,(fun k hk=>(HLR.out.new k hk).imp id (fun e=>by omega)),?_⟩
  ·rw [← HLM.out]
   exact HLR.out.st.keep _ ho3 (fun k hk e=>hq7 (e▸hk))
  ·have hf:=HFIN.out
   have hb:=Only.of_below (fun k:Nat=>k=gc) B6.out
   have hl:=HLR.out.only
   refine ⟨ho3.os.trans (hl.os.trans (hb.os.trans hf.os)),ho3.tape.trans (hl.tape.trans (hb.tape.trans hf.tape)),ho3.output.trans (hl.output.trans (hb.output.trans hf.output)),by have:=hf.size;have:=hl.size;have:=ho3.size;omega,fun k hk hn=>?_⟩
   have:=hf.size
   have:=hl.size
   rw [ho3.block k (by omega) (by omega),hl.block k (by omega) (fun e=>e.elim hn (fun e=>by omega)),hb.block k (by omega) (by omega)]
   exact hf.block k hk (by omega)
 ·have HND:=yH hnd
  clear hnd
  go_wp2_with (first
   | (go_at_call 77;refine HTW.out.mono ?_;rintro _ w6 ⟨tb,rfl,htb,jj,hw6⟩;obtain rfl:tb=true:=htb.2 (HTI.out.2 HND.out);have B6:=yH (show Below w5.heap.size w5 w6 from by rw [hw6];exact Below.drewN (Below.refl _ _) _);have R6:=yH ((B6.out.block _ (yL R5.out)).trans R5.out);clear htb hw6)
   | (refine wpList_build (by rfl) (by rfl) kd0_built ?_)
   | (refine wpList_store_row (by rfl) 34 _ _ (by rfl) w.heap.size kd0.cells.toArray (by rfl) (by rfl) _ _ R6.out (by rw [List.size_toArray,kd0_size];exact SKd) rfl (all_oneCell_toArray Kd.one) ?_))
  refine ret_str2 6 7 (by kernel_rfl) w.heap.size _ kd0.cells.toArray _ HDK.out HDKR.out (by rw [List.size_toArray,kd0_size];exact SKd) (by rfl) (by rfl) (setRow_heap _ _ _ _ _ _ R6.out) ?_
  refine Or.inl ⟨HND.out,rfl,?_⟩
  have hgc:=HGC.out
  have hs3:=HS3.out
  have hw5:Below w.heap.size w w5:=HFIN.out.below (Nat.le_refl _) (fun k e=>by omega)
  exact (hw5.trans (B6.out.mono hw5.size)).trans (Below.setRow (Below.refl _ _) (Nat.le_refl _) _)
end Go.Proofs.YtinihaflmdihaaaGreat.Kt
