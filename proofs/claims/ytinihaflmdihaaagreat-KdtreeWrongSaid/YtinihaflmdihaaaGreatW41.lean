/- KdApp, KtIns, KdAsk. -/
import Derived.Great.BuildSlice
import Derived.Test.YtinihaflmdihaaaGreatW1
import Derived.Test.YtinihaflmdihaaaGreatW29
import Derived.Test.YtinihaflmdihaaaGreatW31
import Derived.Test.YtinihaflmdihaaaGreatW34
import Derived.Test.YtinihaflmdihaaaGreatW37
import Derived.Test.YtinihaflmdihaaaGreatW40
set_option maxRecDepth 100000
set_option maxHeartbeats 8000000
set_option linter.unusedVariables false
set_option linter.unusedSimpArgs false
namespace Go.Proofs.YtinihaflmdihaaaGreat.Kt
open Go.RowKit Go.Proofs.YtinihaflmdihaaaGreat.Nd Go.Proofs.YtinihaflmdihaaaGreat.Dk Go.Proofs.YtinihaflmdihaaaGreat.Pg
open List renaming setIfInBounds_toArray → sA, set_cons_zero → sZ, set_cons_succ → sS
theorem row_fill (q:Option Addr) (n c:Nat):Instr.fill (fun i=>some (i*1,1)) ((Array.range (1*1)).map ((Value.slice none 0 0).cells[·%(Value.slice none 0 0).cells.size]!)) [(0,.slice q n c)]=some #[.slice q n c]:=by kernel_rfl
theorem wp_row_one {w:World} {o:Oper} {a:Act} {K:Act→World→Prop} {Q:Exit→Act→World→Prop} (x:Operand) (ho:o.op= .buildSlice 51 1 #[(0,x)]) {q:Option Addr} {n c:Nat} (hx:a.eval x= .slice q n c)
  (h:K (a.put o.dst (.slice (some ⟨w.heap.size,0,none⟩) 1 1)) (w.alloc (.cells #[.slice q n c] 24))):o.wp Tryz.prog a w K Q:=by
 obtain ⟨i,hi,hi0,hi1,hi2⟩:=info_parts IRs
 refine wp_buildSlice 51 24 1 #[(0,x)] ho #[.slice q n c] i _ URSs hi hi0 (by rw [hi1];omega) (by rw [hi1];omega) ?_ h
 rw [hi1]
 simp only [List.map_toArray,List.map_cons,List.map_nil,hx]
 exact row_fill q n c
structure AppR (B gs d:Nat) (Q:Nat→Prop) (s:Pg.S) (w:World) (v:Value) (L:List Rw) (g c:Nat) (w':World):Prop where
 seg:Seg w' g 0 L
 ok:RowsOk w' d g Q L
 st:PL w' gs Q s
 lt:g<w'.heap.size
 notq:¬Q g
 cap:L.length≤c
 low:B≤g
 only:Only (fun k=>v.ownBlock=some k) w w'
theorem app_row {B gs d:Nat} {Q:Nat→Prop} {s:Pg.S} {w:World} {v:Value} {O:List Rw} {r:Rw} (h:w.ownsRow B 24 1 v O.length (hds O)) (hB:B≤w.heap.size) (hO:∀x∈O++[r],x.Ok w∧x.n=d∧∀y,x.p=some y→x.R≠[]→v.ownBlock≠some y.block∧¬Q y.block) (hQB:∀k,Q k→k<B) (hp:PL w gs Q s) {o:Oper} {a:Act} {K:Act→World→Prop} {Qx:Exit→Act→World→Prop} (y x:Operand)
  (ho:o.op= .call {callee:=.builtin .append,args:= #[y,x],argTypes:= #[51,51]}) (hs:a.eval y=v) (hx:a.eval x= .slice (some ⟨w.heap.size,0,none⟩) 1 1) (hlen:O.length≤100000)
  (hK:∀g c w',AppR B gs d Q s w v (O++[r]) g c w'→K (a.put o.dst (.slice (some ⟨g,0,none⟩) (O.length+1) c)) w'):o.wp Tryz.prog a (w.alloc (.cells #[r.val] 24)) K Qx:=by
 obtain ⟨i,hi,hi0,hi1,hi2⟩:=info_parts IRs
 have hb:Below w.heap.size w (w.alloc (.cells #[r.val] 24)):=(Below.refl _ _).alloc (Nat.le_refl _) _
 have h2:(w.alloc (.cells #[r.val] 24)).ownsRow B 24 1 v O.length (hds O):=⟨h.1,h.2.imp id (by
  rintro ⟨g,cap,cur,hv,hg,hh,e⟩
  exact ⟨g,cap,cur,hv,hg,(hb.block _ (Array.getElem?_eq_some_iff.1 hh).1).trans hh,e⟩)⟩
 refine wp_append_at y x 51 ho B 24 i _ 1 24 URSs hi hi0 hi1 hi2 (by rfl) (by decide) v O.length _ hs h2 ⟨w.heap.size,0,none⟩ 1 1 (hds [r]) hx (by simp [hds]) (hd_new w r.p r.n r.c r.R) (hds_one _) (by unfold maxLen;omega) (by omega) (by simp;omega) fun v' w' k1 k2 k3=>?_
 rw [← hds_append] at k1
 obtain ⟨g,c,rfl,hn,hc,hgB,hgl,hseg⟩:=own_seg k1 (by omega)
 have hon:Only (fun k=>v.ownBlock=some k) w w':=⟨k2.os.trans hb.os,k2.tape.trans hb.tape,k2.output.trans hb.output,Nat.le_trans hb.size k2.size,fun k hk hne=>(k2.block k (Nat.lt_of_lt_of_le hk hb.size) (fun e=>hne e.symm)).trans (hb.block k hk)⟩
 have hgn:v.ownBlock=some g∨w.heap.size+1≤g:=by
  rcases k3 with e | e
  ·exact Or.inl e.symm
  ·right
   have e:some g=some (w.alloc (.cells #[r.val] 24)).heap.size:=e
   have:=Option.some.inj e
   simp at this
   omega
 refine hK g c w' ⟨hseg,fun z hz=>?_,hp.keep _ hon (fun k hk e=>?_),hgl,fun e=>by have:=hQB g e;omega,by rw [← hn];exact hc,hgB,hon⟩
 ·obtain ⟨z1,z2,z3⟩:=hO z hz
  refine ⟨Nd.rw_keep z1 fun t ht hR=>hon.block _ (rw_lt z1 t ht hR) (z3 t ht hR).1,z2,fun t ht hR e=>?_,fun t ht hR=>(z3 t ht hR).2⟩
  rcases hgn with e2 | e2
  ·exact (z3 t ht hR).1 (by rw [e2,e])
  ·have:=rw_lt z1 t ht hR
   omega
 ·have:=(h.lt k e).1
  have:=hQB k hk
  omega
end Go.Proofs.YtinihaflmdihaaaGreat.Kt
namespace Go.Proofs.YtinihaflmdihaaaGreat.Kt
open Go.RowKit Go.Proofs.YtinihaflmdihaaaGreat.Nd Go.Proofs.YtinihaflmdihaaaGreat.Pg
open List renaming setIfInBounds_toArray → sA, set_cons_zero → sZ, set_cons_succ → sS
theorem settle_ind:∀(L:List St) (i j:Nat),(settle i L).2=(settle j L).2
 |[],_,_=>rfl
 | s::L,i,j=>by
  rw [settle_cons,settle_cons,settle_ind L (i+1) (j+1)]
  split<;>rfl
theorem setOk_cons {s:St} {L:List St} (h0:0≤s.on+(settle 0 L).2.2+s.off+1) (h:SetOk L):SetOk (s::L):=fun j x hx=>by
 cases j with
 | zero=>
  simp only [List.getElem?_cons_zero,Option.some.injEq] at hx
  subst hx
  show 0≤s.on+(settle (0+1) L).2.2+s.off+1
  rw [settle_ind L (0+1) 0]
  exact h0
 | succ j=>
  have:=h j x (by simpa using hx)
  show 0≤x.on+(settle (j+1+1) (L.drop (j+1))).2.2+x.off+1
  rw [settle_ind _ (j+1+1) (j+1)]
  exact this
structure StepOk (W:Pages) (d:Nat) (Z:Int) (s:St):Prop where
 row:s.row.length=d
 l:Sees W d s.l
 r:Sees W d s.r
 old:Sees W d s.old
 zl:s.l.kid.size≤Z
 zr:s.r.kid.size≤Z
 zo:s.old.kid.size≤Z
theorem sees_nums {d:Nat} {W:Pages} {u:V} (h:Sees W d u):0≤u.kid.live∧u.kid.live≤u.kid.size∧u.kid.size≤1048576:=⟨(kid_split (sees_right h).1).1,kid_le (sees_right h).1,(kid_zero (sees_right h).1).2⟩
theorem fork_len {d:Nat} {W:Pages} {q:List Int} {lv:Bool} {l r:V} (hs:Sees W d (.fork q lv l r)):q.length=d:=by
 have:=(right_split hs.1.right).2.2.1 ⟨q,lv⟩ (by simp [forkN])
 simp only at this
 omega
theorem way_steps {W:Pages} {d:Nat} {Z:Int} {p:List Int} (hp:p.length=d) (hZ:0≤Z):∀(u:V) (t:Nat),Sees W d u→u.kid.size≤Z→∀L s,wayV d p u t=some (L,s)→∀st∈L++[s],StepOk W d Z st
 | .nil,t,_,_,L,s,h,st,hst=>by
  have h:some ([],(⟨p,false,.nil,.nil,false,.nil⟩:St))=some (L,s):=h
  simp only [Option.some.injEq,Prod.mk.injEq] at h
  obtain ⟨rfl,rfl⟩:=h
  rw [List.mem_singleton.1 hst]
  exact ⟨hp,trivial,trivial,trivial,hZ,hZ,hZ⟩
 | .bad k,t,_,_,L,s,h,st,hst=>by cases h
 | .fork q lv l r,t,hs,hz,L,s,h,st,hst=>by
  have hsz:(V.fork q lv l r).kid.size=1+(l.kid.size+r.kid.size):=fork_size q lv l.kid r.kid
  have h1:=sees_size hs.2.2.1
  have h2:=sees_size hs.2.2.2
  have hme:∀sd,StepOk W d Z ⟨q,lv,l,r,sd,.fork q lv l r⟩:=fun sd=>⟨fork_len hs,hs.2.2.1,hs.2.2.2,hs,show l.kid.size≤Z by omega,show r.kid.size≤Z by omega,hz⟩
  have hw:wayV d p (.fork q lv l r) t=(if ordC (t%d) p q=0 then some ([],⟨q,lv,l,r,false,.fork q lv l r⟩)
   else if 0<ordC (t%d) p q then (wayV d p r (t+1)).map fun x=>(⟨q,lv,l,r,true,.fork q lv l r⟩::x.1,x.2)
   else (wayV d p l (t+1)).map fun x=>(⟨q,lv,l,r,false,.fork q lv l r⟩::x.1,x.2)):=rfl
  rw [hw] at h
  split at h
  ·simp only [Option.some.injEq,Prod.mk.injEq] at h
   obtain ⟨rfl,rfl⟩:=h
   rw [List.mem_singleton.1 hst]
   exact hme false
  ·split at h
   ·cases hwr:wayV d p r (t+1) with
    | none=>rw [hwr] at h;cases h
    | some x=>
     rw [hwr] at h
     simp only [Option.map_some,Option.some.injEq,Prod.mk.injEq] at h
     obtain ⟨rfl,rfl⟩:=h
     rcases List.mem_cons.1 hst with rfl | hst
     ·exact hme true
     ·exact way_steps hp hZ r (t+1) hs.2.2.2 (by omega) x.1 x.2 hwr st hst
   ·cases hwl:wayV d p l (t+1) with
    | none=>rw [hwl] at h;cases h
    | some x=>
     rw [hwl] at h
     simp only [Option.map_some,Option.some.injEq,Prod.mk.injEq] at h
     obtain ⟨rfl,rfl⟩:=h
     rcases List.mem_cons.1 hst with rfl | hst
     ·exact hme false
     ·exact way_steps hp hZ l (t+1) hs.2.2.1 (by omega) x.1 x.2 hwl st hst
theorem settle_bound (s:St) (M:List St) (x:Int) (hx:s.on+(settle 0 M).2.2=x) (h0:0≤x+s.off+1) (h1:x+s.off≤s.old.kid.size) (h2:0≤s.old.kid.live∧s.old.kid.live≤s.old.kid.size):0≤(settle 0 (s::M)).2.1∧(settle 0 (s::M)).2.1≤s.old.kid.size+1∧(settle 0 (s::M)).2.2=(settle 0 (s::M)).2.1 - s.old.kid.size:=by
 rw [settle_cons,settle_ind M (0+1) 0,hx]
 split
 ·exact ⟨by simp only;omega,by simp only;omega,rfl⟩
 ·exact ⟨by simp only;omega,by simp only;omega,rfl⟩
theorem way_settle {W:Pages} {d:Nat} {p:List Int}:∀(u:V) (t:Nat),Sees W d u→∀L s,wayV d p u t=some (L,s)→(0≤(settle 0 (L++[s])).2.1∧(settle 0 (L++[s])).2.1≤u.kid.size+1∧(settle 0 (L++[s])).2.2=(settle 0 (L++[s])).2.1 - u.kid.size)∧SetOk (L++[s])∧(((L++[s]).length:Int)≤u.kid.size+1)
 | .nil,t,_,L,s,h=>by
  have h:some ([],(⟨p,false,.nil,.nil,false,.nil⟩:St))=some (L,s):=h
  simp only [Option.some.injEq,Prod.mk.injEq] at h
  obtain ⟨rfl,rfl⟩:=h
  have h00:(V.nil).kid.size=0∧(V.nil).kid.live=0:=⟨rfl,rfl⟩
  exact ⟨settle_bound ⟨p,false,.nil,.nil,false,.nil⟩ [] 0 rfl (by show (0:Int)≤0+(V.nil).kid.size+1;omega) (by show (0:Int)+(V.nil).kid.size≤(V.nil).kid.size;omega) (by show 0≤(V.nil).kid.live∧(V.nil).kid.live≤(V.nil).kid.size;omega),setOk_cons (by show (0:Int)≤(V.nil).kid.size+0+(V.nil).kid.size+1;omega) (fun j x hx=>by simp at hx),by show (1:Int)≤(V.nil).kid.size+1;omega⟩
 | .bad k,t,_,L,s,h=>by cases h
 | .fork q lv l r,t,hs,L,s,h=>by
  have hsz:(V.fork q lv l r).kid.size=1+(l.kid.size+r.kid.size):=fork_size q lv l.kid r.kid
  have h1:=sees_nums hs.2.2.1
  have h2:=sees_nums hs.2.2.2
  have h3:=sees_nums hs
  have hnil:SetOk []:=fun j x hx=>by simp at hx
  have hon:∀sd,(⟨q,lv,l,r,sd,.fork q lv l r⟩:St).on=if sd then r.kid.size else l.kid.size:=fun sd=>rfl
  have hoff:∀sd,(⟨q,lv,l,r,sd,.fork q lv l r⟩:St).off=if sd then l.kid.size else r.kid.size:=fun sd=>rfl
  have key:∀(sd:Bool) (M:List St),0≤(settle 0 M).2.1→(settle 0 M).2.1≤(if sd then r.kid.size else l.kid.size)+1→(settle 0 M).2.2=(settle 0 M).2.1 - (if sd then r.kid.size else l.kid.size)→SetOk M→
    (0≤(settle 0 (⟨q,lv,l,r,sd,.fork q lv l r⟩::M)).2.1∧(settle 0 (⟨q,lv,l,r,sd,.fork q lv l r⟩::M)).2.1≤(V.fork q lv l r).kid.size+1∧(settle 0 (⟨q,lv,l,r,sd,.fork q lv l r⟩::M)).2.2=(settle 0 (⟨q,lv,l,r,sd,.fork q lv l r⟩::M)).2.1 - (V.fork q lv l r).kid.size)∧SetOk (⟨q,lv,l,r,sd,.fork q lv l r⟩::M):=fun sd M g1 g2 g3 g4=>by
   have hx:=hon sd
   have hy:=hoff sd
   refine ⟨settle_bound ⟨q,lv,l,r,sd,.fork q lv l r⟩ M _ rfl ?_ ?_ ⟨h3.1,h3.2.1⟩,setOk_cons ?_ g4⟩
   ·rw [hx,hy]
    cases sd<;>simp only [if_true,Bool.false_eq_true,if_false] at * <;>omega
   ·rw [hx,hy]
    show _≤(V.fork q lv l r).kid.size
    cases sd<;>simp only [if_true,Bool.false_eq_true,if_false] at * <;>omega
   ·rw [hx,hy]
    cases sd<;>simp only [if_true,Bool.false_eq_true,if_false] at * <;>omega
  have hw:wayV d p (.fork q lv l r) t=(if ordC (t%d) p q=0 then some ([],⟨q,lv,l,r,false,.fork q lv l r⟩)
   else if 0<ordC (t%d) p q then (wayV d p r (t+1)).map fun x=>(⟨q,lv,l,r,true,.fork q lv l r⟩::x.1,x.2)
   else (wayV d p l (t+1)).map fun x=>(⟨q,lv,l,r,false,.fork q lv l r⟩::x.1,x.2)):=rfl
  rw [hw] at h
  split at h
  ·simp only [Option.some.injEq,Prod.mk.injEq] at h
   obtain ⟨rfl,rfl⟩:=h
   refine ⟨settle_bound ⟨q,lv,l,r,false,.fork q lv l r⟩ [] l.kid.size (by show l.kid.size+0=_;omega) (by show 0≤l.kid.size+r.kid.size+1;omega) (by show l.kid.size+r.kid.size≤(V.fork q lv l r).kid.size;omega) ⟨h3.1,h3.2.1⟩,setOk_cons (by show 0≤l.kid.size+0+r.kid.size+1;omega) hnil,by show (1:Int)≤(V.fork q lv l r).kid.size+1;omega⟩
  ·split at h
   ·cases hwr:wayV d p r (t+1) with
    | none=>rw [hwr] at h;cases h
    | some x=>
     rw [hwr] at h
     simp only [Option.map_some,Option.some.injEq,Prod.mk.injEq] at h
     obtain ⟨rfl,rfl⟩:=h
     obtain ⟨⟨g1,g2,g3⟩,g4,g5⟩:=way_settle r (t+1) hs.2.2.2 x.1 x.2 hwr
     obtain ⟨k1,k2⟩:=key true (x.1++[x.2]) g1 g2 g3 g4
     exact ⟨k1,k2,by rw [List.cons_append,List.length_cons];omega⟩
   ·cases hwl:wayV d p l (t+1) with
    | none=>rw [hwl] at h;cases h
    | some x=>
     rw [hwl] at h
     simp only [Option.map_some,Option.some.injEq,Prod.mk.injEq] at h
     obtain ⟨rfl,rfl⟩:=h
     obtain ⟨⟨g1,g2,g3⟩,g4,g5⟩:=way_settle l (t+1) hs.2.2.1 x.1 x.2 hwl
     obtain ⟨k1,k2⟩:=key false (x.1++[x.2]) g1 g2 g3 g4
     exact ⟨k1,k2,by rw [List.cons_append,List.length_cons];omega⟩
theorem links_good {W:Pages} {d Z:Nat} {A:List MSt} {L:List St} (hl:Links A L) (h:∀st∈L,StepOk W d Z st):(∀m∈A,GoodM d Z m)∧(∀m∈A,SzM m):=by
 induction hl with
 | nil=>exact ⟨fun m hm=>(by cases hm),fun m hm=>by cases hm⟩
 | cons hk _ ih=>
  obtain ⟨i1,i2⟩:=ih (fun st hst=>h st (by simp [hst]))
  have hs:=h _ (List.mem_cons_self ..)
  have n1:=sees_nums hs.l
  have n2:=sees_nums hs.r
  have n3:=sees_nums hs.old
  have r1:=sees_right hs.l
  have r2:=sees_right hs.r
  have z1:=sees_size hs.l
  have z2:=sees_size hs.r
  have zl:=hs.zl
  have zr:=hs.zr
  have row:=hs.row
  rw [hk.l] at n1 r1 z1 zl
  rw [hk.r] at n2 r2 z2 zr
  rw [hk.old] at n3
  rw [hk.row] at row
  refine ⟨fun m hm=>?_,fun m hm=>?_⟩
  ·rcases List.mem_cons.1 hm with rfl | hm
   ·exact ⟨row,⟨r1.1,r1.2,z1⟩,⟨r2.1,r2.2,z2⟩,zl,zr⟩
   ·exact i1 m hm
  ·rcases List.mem_cons.1 hm with rfl | hm
   ·exact ⟨⟨z1,n1.2.2⟩,⟨z2,n2.2.2⟩,⟨Int.le_trans n3.1 n3.2.1,n3.2.2⟩,⟨n3.1,Int.le_trans n3.2.1 n3.2.2⟩⟩
   ·exact i2 m hm
theorem links_last {A:List MSt} {L:List St} {s:St} (h:Links A (L++[s])):∃A0 m,A=A0++[m]∧Links A0 L∧Link m s:=by
 induction L generalizing A with
 | nil=>
  cases h with
  | cons h1 h2=>
   cases h2
   exact ⟨[],_,rfl,.nil,h1⟩
 | cons x L ih=>
  cases h with
  | cons h1 h2=>
   obtain ⟨A0,m,rfl,h3,h4⟩:=ih h2
   exact ⟨_::A0,m,rfl,.cons h1 h3,h4⟩
end Go.Proofs.YtinihaflmdihaaaGreat.Kt
namespace Go.Proofs.YtinihaflmdihaaaGreat.Kt
open Go.RowKit Go.Proofs.YtinihaflmdihaaaGreat.Nd Go.Proofs.YtinihaflmdihaaaGreat.Dk Go.Proofs.YtinihaflmdihaaaGreat.Pg
open List renaming setIfInBounds_toArray → sA, set_cons_zero → sZ, set_cons_succ → sS
theorem rows_nil (w:World):RowsIn w none 0 0 []:=⟨rfl,Nat.le_refl _,(fun t ht=>by cases ht),Or.inl rfl⟩
def RowsSay (sp:Option Addr) (d:Int) (k:Kd) (err:Int) (w:World):Prop:=∀w',Below w.heap.size w w'→Calls Tryz.prog 57 #[.agg #[.pointer sp,.int .i64 d],.agg k.cells.toArray] w' fun e w''=>e= .returned (.tuple #[.slice none 0 0,.int .i64 err])∧Below w'.heap.size w' w''
theorem Rows_bad (sp:Option Addr) (d:Int) (k:Kd) (w:World) (hk:k.Ok w) (ht:takesB d []=false):
  Calls Tryz.prog 23 #[.pointer sp,.agg k.cells.toArray,.int .i64 d] w fun e w'=>e= .returned (.tuple #[.slice none 0 0,.int .i64 1])∧Below w.heap.size w w':=by
 have b1:Below w.heap.size w (w.alloc (.cells k.cells.toArray 34)):=(Below.refl _ _).alloc (Nat.le_refl _) _
 have r1:=heap_alloc_new w (.cells k.cells.toArray 34)
 have HT:=Lib.hid (fun w'=>takes_any sp d none 0 0 [] w' (rows_nil w') (by omega))
 rw [ht] at HT
 have HCL:=Lib.hid (Kd.cells_length hk.len)
 have R1:=Lib.hid r1
 have B1:=Lib.hid b1
 obtain ⟨du,hdu,hdr⟩:=UTr
 obtain ⟨dk,hdk,hdkr⟩:=UKd
 have HDU:=Lib.hid hdu
 have HDR:=Lib.hid hdr
 have HDK:=Lib.hid hdk
 have HDKR:=Lib.hid hdkr
 clear hk ht b1 r1 hdu hdr hdk hdkr
 go_enter Tryz.func23,Tryz.ntmps23
 go_upto_region 1 with fail
 generalize w.alloc (.cells k.cells.toArray 34)=w1 at *
 go_upto_region 2 with (first
  | (refine wpList_build (cells:= #[.pointer sp,.int .i64 d]) (by rfl) (by rfl) (by simp only [List.map_toArray,List.map_cons,List.map_nil];exact tr_built _ _) ?_)
  | (refine wpList_store_row (by rfl) 91 (.tmp 8) (.tmp 13) (by rfl) w1.heap.size #[.pointer sp,.int .i64 d] (by rfl) (by rfl) _ _ (heap_alloc_new w1 _) STr rfl (tr_one _ _) ?_;rw [setRow_alloc]))
 have hb2:Below w1.heap.size w1 (w1.alloc (.cells #[.pointer sp,.int .i64 d] 91)):=(Below.refl _ _).alloc (Nat.le_refl _) _
 have hr2:=heap_alloc_new w1 (.cells #[.pointer sp,.int .i64 d] 91)
 generalize w1.alloc (.cells #[.pointer sp,.int .i64 d] 91)=w2 at *
 have R2:=Lib.hid hr2
 have R2a:=Lib.hid (range_tr hr2)
 have R12:=Lib.hid ((hb2.block _ (Array.getElem?_eq_some_iff.1 R1.out).1).trans R1.out)
 have B2:=Lib.hid (B1.out.trans (hb2.mono B1.out.size))
 clear hb2 hr2
 go_wp2_with (first
  | (refine wpList_load_mid (by rfl) 91 _ (by rfl) w1.heap.size 0 (by rfl) [.pointer sp,.int .i64 d] du R2a.out HDU.out HDR.out STr ?_)
  | (go_at_call 72;refine (HT.out w2).mono ?_;rintro _ w3 ⟨rfl,b3⟩;have B3:=Lib.hid (B2.out.trans (b3.mono B2.out.size));have R3a:=Lib.hid (range_tr ((b3.block _ (Array.getElem?_eq_some_iff.1 R2.out).1).trans R2.out));have R13:=Lib.hid (range_kd ((b3.block _ (Array.getElem?_eq_some_iff.1 R12.out).1).trans R12.out));clear b3))
 go_ret2
 exact ⟨rfl,B3.out⟩
theorem Height_bad (sp:Option Addr) (d:Int) (k:Kd) (w:World) (hk:k.Ok w) (ht:takesB d []=false):
  Calls Tryz.prog 24 #[.pointer sp,.agg k.cells.toArray,.int .i64 d] w fun e w'=>e= .returned (.tuple #[.int .i64 0,.int .i64 1])∧Below w.heap.size w w':=by
 have b1:Below w.heap.size w (w.alloc (.cells k.cells.toArray 34)):=(Below.refl _ _).alloc (Nat.le_refl _) _
 have r1:=heap_alloc_new w (.cells k.cells.toArray 34)
 have HT:=Lib.hid (fun w'=>takes_any sp d none 0 0 [] w' (rows_nil w') (by omega))
 rw [ht] at HT
 have HCL:=Lib.hid (Kd.cells_length hk.len)
 have R1:=Lib.hid r1
 have B1:=Lib.hid b1
 obtain ⟨du,hdu,hdr⟩:=UTr
 obtain ⟨dk,hdk,hdkr⟩:=UKd
 have HDU:=Lib.hid hdu
 have HDR:=Lib.hid hdr
 have HDK:=Lib.hid hdk
 have HDKR:=Lib.hid hdkr
 clear hk ht b1 r1 hdu hdr hdk hdkr
 go_enter Tryz.func24,Tryz.ntmps24
 go_upto_region 1 with fail
 generalize w.alloc (.cells k.cells.toArray 34)=w1 at *
 go_upto_region 2 with (first
  | (refine wpList_build (cells:= #[.pointer sp,.int .i64 d]) (by rfl) (by rfl) (by simp only [List.map_toArray,List.map_cons,List.map_nil];exact tr_built _ _) ?_)
  | (refine wpList_store_row (by rfl) 91 (.tmp 8) (.tmp 13) (by rfl) w1.heap.size #[.pointer sp,.int .i64 d] (by rfl) (by rfl) _ _ (heap_alloc_new w1 _) STr rfl (tr_one _ _) ?_;rw [setRow_alloc]))
 have hb2:Below w1.heap.size w1 (w1.alloc (.cells #[.pointer sp,.int .i64 d] 91)):=(Below.refl _ _).alloc (Nat.le_refl _) _
 have hr2:=heap_alloc_new w1 (.cells #[.pointer sp,.int .i64 d] 91)
 generalize w1.alloc (.cells #[.pointer sp,.int .i64 d] 91)=w2 at *
 have R2:=Lib.hid hr2
 have R2a:=Lib.hid (range_tr hr2)
 have R12:=Lib.hid ((hb2.block _ (Array.getElem?_eq_some_iff.1 R1.out).1).trans R1.out)
 have B2:=Lib.hid (B1.out.trans (hb2.mono B1.out.size))
 clear hb2 hr2
 go_wp2_with (first
  | (refine wpList_load_mid (by rfl) 91 _ (by rfl) w1.heap.size 0 (by rfl) [.pointer sp,.int .i64 d] du R2a.out HDU.out HDR.out STr ?_)
  | (go_at_call 72;refine (HT.out w2).mono ?_;rintro _ w3 ⟨rfl,b3⟩;have B3:=Lib.hid (B2.out.trans (b3.mono B2.out.size));have R3a:=Lib.hid (range_tr ((b3.block _ (Array.getElem?_eq_some_iff.1 R2.out).1).trans R2.out));have R13:=Lib.hid (range_kd ((b3.block _ (Array.getElem?_eq_some_iff.1 R12.out).1).trans R12.out));clear b3))
 go_ret2
 exact ⟨rfl,B3.out⟩
theorem Rows_err (sp:Option Addr) (d err:Int) (k:Kd) (w:World) (hk:k.Ok w) (ht:takesB d []=true) (hr:RowsSay sp d k err w) (he:err≠0):
  Calls Tryz.prog 23 #[.pointer sp,.agg k.cells.toArray,.int .i64 d] w fun e w'=>e= .returned (.tuple #[.slice none 0 0,.int .i64 err])∧Below w.heap.size w w':=by
 have e1:(err !=0)=true:=by simpa using he
 have HR:=Lib.hid hr
 have b1:Below w.heap.size w (w.alloc (.cells k.cells.toArray 34)):=(Below.refl _ _).alloc (Nat.le_refl _) _
 have r1:=heap_alloc_new w (.cells k.cells.toArray 34)
 have HT:=Lib.hid (fun w'=>takes_any sp d none 0 0 [] w' (rows_nil w') (by omega))
 rw [ht] at HT
 have HCL:=Lib.hid (Kd.cells_length hk.len)
 have R1:=Lib.hid r1
 have B1:=Lib.hid b1
 obtain ⟨du,hdu,hdr⟩:=UTr
 obtain ⟨dk,hdk,hdkr⟩:=UKd
 have HDU:=Lib.hid hdu
 have HDR:=Lib.hid hdr
 have HDK:=Lib.hid hdk
 have HDKR:=Lib.hid hdkr
 clear hk ht b1 r1 hdu hdr hdk hdkr hr he
 go_enter Tryz.func23,Tryz.ntmps23
 go_upto_region 1 with fail
 generalize w.alloc (.cells k.cells.toArray 34)=w1 at *
 go_upto_region 2 with (first
  | (refine wpList_build (cells:= #[.pointer sp,.int .i64 d]) (by rfl) (by rfl) (by simp only [List.map_toArray,List.map_cons,List.map_nil];exact tr_built _ _) ?_)
  | (refine wpList_store_row (by rfl) 91 (.tmp 8) (.tmp 13) (by rfl) w1.heap.size #[.pointer sp,.int .i64 d] (by rfl) (by rfl) _ _ (heap_alloc_new w1 _) STr rfl (tr_one _ _) ?_;rw [setRow_alloc]))
 have hb2:Below w1.heap.size w1 (w1.alloc (.cells #[.pointer sp,.int .i64 d] 91)):=(Below.refl _ _).alloc (Nat.le_refl _) _
 have hr2:=heap_alloc_new w1 (.cells #[.pointer sp,.int .i64 d] 91)
 generalize w1.alloc (.cells #[.pointer sp,.int .i64 d] 91)=w2 at *
 have R2:=Lib.hid hr2
 have R2a:=Lib.hid (range_tr hr2)
 have R12:=Lib.hid ((hb2.block _ (Array.getElem?_eq_some_iff.1 R1.out).1).trans R1.out)
 have B2:=Lib.hid (B1.out.trans (hb2.mono B1.out.size))
 clear hb2 hr2
 go_wp2_with (first
  | (refine wpList_load_mid (by rfl) 91 _ (by rfl) w1.heap.size 0 (by rfl) [.pointer sp,.int .i64 d] du R2a.out HDU.out HDR.out STr ?_)
  | (go_at_call 72;refine (HT.out w2).mono ?_;rintro _ w3 ⟨rfl,b3⟩;have B3:=Lib.hid (B2.out.trans (b3.mono B2.out.size));have R3a:=Lib.hid (range_tr ((b3.block _ (Array.getElem?_eq_some_iff.1 R2.out).1).trans R2.out));have R13:=Lib.hid (range_kd ((b3.block _ (Array.getElem?_eq_some_iff.1 R12.out).1).trans R12.out));clear b3)
  | (refine wpList_load_mid (by rfl) 91 _ (by rfl) w1.heap.size 0 (by rfl) [.pointer sp,.int .i64 d] du R3a.out HDU.out HDR.out STr ?_)
  | (refine wpList_load_mid (by rfl) 34 _ (by rfl) w.heap.size 0 (by rfl) k.cells dk R13.out HDK.out HDKR.out (by rw [HCL.out];exact SKd) ?_)
  | (go_at_call 57;refine (HR.out w3 B3.out).mono ?_;rintro _ w4 ⟨rfl,b4⟩;have B4:=Lib.hid (B3.out.trans (b4.mono B3.out.size));clear b4))
 go_ret2
 exact ⟨rfl,B4.out⟩
theorem Height_err (sp:Option Addr) (d err:Int) (k:Kd) (w:World) (hk:k.Ok w) (ht:takesB d []=true) (hg:∀W,Below w.heap.size w W→W.rangeAt w.heap.size 0 k.cells→GetSays sp d w.heap.size 0 err W) (he:err≠0):
  Calls Tryz.prog 24 #[.pointer sp,.agg k.cells.toArray,.int .i64 d] w fun e w'=>e= .returned (.tuple #[.int .i64 0,.int .i64 err])∧Below w.heap.size w w':=by
 have e1:(err !=0)=true:=by simpa using he
 have HGG:=Lib.hid hg
 have b1:Below w.heap.size w (w.alloc (.cells k.cells.toArray 34)):=(Below.refl _ _).alloc (Nat.le_refl _) _
 have r1:=heap_alloc_new w (.cells k.cells.toArray 34)
 have HT:=Lib.hid (fun w'=>takes_any sp d none 0 0 [] w' (rows_nil w') (by omega))
 rw [ht] at HT
 have HCL:=Lib.hid (Kd.cells_length hk.len)
 have R1:=Lib.hid r1
 have B1:=Lib.hid b1
 obtain ⟨du,hdu,hdr⟩:=UTr
 obtain ⟨dk,hdk,hdkr⟩:=UKd
 have HDU:=Lib.hid hdu
 have HDR:=Lib.hid hdr
 have HDK:=Lib.hid hdk
 have HDKR:=Lib.hid hdkr
 clear hk ht b1 r1 hdu hdr hdk hdkr hg he
 go_enter Tryz.func24,Tryz.ntmps24
 go_upto_region 1 with fail
 generalize w.alloc (.cells k.cells.toArray 34)=w1 at *
 go_upto_region 2 with (first
  | (refine wpList_build (cells:= #[.pointer sp,.int .i64 d]) (by rfl) (by rfl) (by simp only [List.map_toArray,List.map_cons,List.map_nil];exact tr_built _ _) ?_)
  | (refine wpList_store_row (by rfl) 91 (.tmp 8) (.tmp 13) (by rfl) w1.heap.size #[.pointer sp,.int .i64 d] (by rfl) (by rfl) _ _ (heap_alloc_new w1 _) STr rfl (tr_one _ _) ?_;rw [setRow_alloc]))
 have hb2:Below w1.heap.size w1 (w1.alloc (.cells #[.pointer sp,.int .i64 d] 91)):=(Below.refl _ _).alloc (Nat.le_refl _) _
 have hr2:=heap_alloc_new w1 (.cells #[.pointer sp,.int .i64 d] 91)
 generalize w1.alloc (.cells #[.pointer sp,.int .i64 d] 91)=w2 at *
 have R2:=Lib.hid hr2
 have R2a:=Lib.hid (range_tr hr2)
 have R12:=Lib.hid ((hb2.block _ (Array.getElem?_eq_some_iff.1 R1.out).1).trans R1.out)
 have B2:=Lib.hid (B1.out.trans (hb2.mono B1.out.size))
 clear hb2 hr2
 go_upto_region 5 with (first
  | (refine wpList_load_mid (by rfl) 91 _ (by rfl) w1.heap.size 0 (by rfl) [.pointer sp,.int .i64 d] du R2a.out HDU.out HDR.out STr ?_)
  | (go_at_call 72;refine (HT.out w2).mono ?_;rintro _ w3 ⟨rfl,b3⟩;have B3:=Lib.hid (B2.out.trans (b3.mono B2.out.size));have R3a:=Lib.hid (range_tr ((b3.block _ (Array.getElem?_eq_some_iff.1 R2.out).1).trans R2.out));have R13:=Lib.hid (range_kd ((b3.block _ (Array.getElem?_eq_some_iff.1 R12.out).1).trans R12.out));clear b3))
 have hb4:Below w3.heap.size w3 (w3.alloc (.cells #[.int .i64 0] 3)):=(Below.refl _ _).alloc (Nat.le_refl _) _
 generalize w3.alloc (.cells #[.int .i64 0] 3)=w4 at *
 have B4:=Lib.hid (B3.out.trans (hb4.mono B3.out.size))
 have R4a:=Lib.hid (range_later R3a.out hb4)
 have HE:=Lib.hid (fun fv t=>each_zero sp d t err w.heap.size 0 fv w4 (HGG.out w4 B4.out (range_later R13.out hb4)))
 clear hb4
 go_wp2_with (first
  | (refine wpList_load_mid (by rfl) 91 _ (by rfl) w1.heap.size 0 (by rfl) [.pointer sp,.int .i64 d] du R4a.out HDU.out HDR.out STr ?_)
  | (go_at_call 74;refine (HE.out _ _).mono ?_;rintro _ w5 ⟨rfl,b5⟩;have B5:=Lib.hid (B4.out.trans (b5.mono B4.out.size));clear b5))
 go_ret2
 exact ⟨rfl,B5.out⟩
end Go.Proofs.YtinihaflmdihaaaGreat.Kt
