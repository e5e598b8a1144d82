/- KdApp, KtIns, KdAsk, KdRowsV, KdTwice, KdBuildBad, KdBuild, KdRowsT. -/
import Derived.Great.BuildSlice
import Derived.BigRegion
import Derived.Test.YtinihaflmdihaaaGreatL24
import Derived.Test.YtinihaflmdihaaaGreatL27
set_option maxRecDepth 100000
set_option maxHeartbeats 8000000
set_option linter.all false
namespace Go.Proofs.YtinihaflmdihaaaGreat.Kt
open Go.RowKit Go.Proofs.YtinihaflmdihaaaGreat.Nd Go.Proofs.YtinihaflmdihaaaGreat.Dk Go.Proofs.YtinihaflmdihaaaGreat.Pg
theorem y3C (q:Option Addr) (n c:Nat):Instr.fill (fun i=>some (i*1,1)) ((Array.range (1*1)).map ((Value.slice none 0 0).cells[·%(Value.slice none 0 0).cells.size]!)) [(0,.slice q n c)]=some #[.slice q n c]:=by kernel_rfl
theorem x9u {w:World} {o:Oper} {a:Act} {K:Act→World→Prop} {Q:Exit→Act→World→Prop} (x:Operand) (ho:o.op= .buildSlice 51 1 #[(0,x)]) {q:Option Addr} {n c:Nat} (hx:a.eval x= .slice q n c)
  (h:K (a.put o.dst (.slice (some ⟨w.heap.size,0,none⟩) 1 1)) (w.alloc (.cells #[.slice q n c] 24))):o.wp Tryz.prog a w K Q:=by
 obtain ⟨i,E,B,A,C⟩:=info_parts IRs
 refine wp_buildSlice 51 24 1 #[(0,x)] ho #[.slice q n c] i _ URSs E B (by rw [A];omega) (by rw [A];omega) ?_ h
 rw [A]
 simp only [List.map_toArray,List.map_cons,List.map_nil,hx]
 exact y3C q n c
structure AppR (B gs d:Nat) (Q:Nat→Prop) (s:Pg.S) (w:World) (v:Value) (L:List Rw) (g c:Nat) (w':World):Prop where
 seg:Seg w' g 0 L
 ok:RowsOk w' d g Q L
 st:PL w' gs Q s
 lt:g<w'.heap.size
 notq:¬Q g
 cap:L.length≤c
 low:B≤g
 only:Only (fun k=>v.ownBlock=some k) w w'
theorem y4u {B gs d:Nat} {Q:Nat→Prop} {s:Pg.S} {w:World} {v:Value} {O:List Rw} {r:Rw} (h:w.ownsRow B 24 1 v O.length (hds O)) (hB:B≤w.heap.size) (hO:∀x∈O++[r],x.Ok w∧x.n=d∧∀y,x.p=some y→x.R≠[]→v.ownBlock≠some y.block∧¬Q y.block) (hQB:∀k,Q k→k<B) (hp:PL w gs Q s) {o:Oper} {a:Act} {K:Act→World→Prop} {Qx:Exit→Act→World→Prop} (y x:Operand)
  (ho:o.op= .call {callee:=.builtin .append,args:= #[y,x],argTypes:= #[51,51]}) (hs:a.eval y=v) (hx:a.eval x= .slice (some ⟨w.heap.size,0,none⟩) 1 1) (hlen:O.length≤100000)
  (hK:∀g c w',AppR B gs d Q s w v (O++[r]) g c w'→K (a.put o.dst (.slice (some ⟨g,0,none⟩) (O.length+1) c)) w'):o.wp Tryz.prog a (w.alloc (.cells #[r.val] 24)) K Qx:=by
 obtain ⟨i,q,L,M,J⟩:=info_parts IRs
 have A:Below w.heap.size w (w.alloc (.cells #[r.val] 24)):=(Below.refl _ _).alloc (Nat.le_refl _) _
 have j:(w.alloc (.cells #[r.val] 24)).ownsRow B 24 1 v O.length (hds O):=⟨h.1,h.2.imp id (by
  rintro ⟨g,U,N,l,m,X,e⟩
  exact ⟨g,U,N,l,m,(A.block _ (yL X)).trans X,e⟩)⟩
 refine x0N y x 51 ho B 24 i _ 1 24 URSs q L M J (by rfl) (by decide) v O.length _ hs j ⟨w.heap.size,0,none⟩ 1 1 (hds [r]) hx (by simp [hds]) (x4A w r.p r.n r.c r.R) (x1Q _) (by unfold maxLen;omega) (by omega) (by simp;omega) fun v' w' k1 k2 k3=>?_
 rw [← x0c] at k1
 obtain ⟨g,c,rfl,Z,f,G,P,E⟩:=x89 k1 (by omega)
 have C:Only (fun k=>v.ownBlock=some k) w w':=⟨k2.os.trans A.os,k2.tape.trans A.tape,k2.output.trans A.output,Nat.le_trans A.size k2.size,fun k hk hne=>(k2.block k (Nat.lt_of_lt_of_le hk A.size) (fun e=>hne e.symm)).trans (A.block k hk)⟩
 have H:v.ownBlock=some g∨w.heap.size+1≤g:=by
  rcases k3 with e | e
  ·exact Or.inl e.symm
  ·right
   have e:some g=some (w.alloc (.cells #[r.val] 24)).heap.size:=e
   have:=Option.some.inj e
   simp at this
   omega
 refine hK g c w' ⟨E,fun z hz=>?_,hp.keep _ C (fun k hk e=>?_),P,fun e=>by have:=hQB g e;omega,by rw [← Z];exact f,G,C⟩
 ·obtain ⟨W,b,I⟩:=hO z hz
  refine ⟨Nd.rw_keep W fun t ht hR=>C.block _ (rw_lt W t ht hR) (I t ht hR).1,b,fun t ht hR e=>?_,fun t ht hR=>(I t ht hR).2⟩
  rcases H with Y | Y
  ·exact (I t ht hR).1 (by rw [Y,e])
  ·have:=rw_lt W t ht hR
   omega
 ·have:=(h.lt k e).1
  have:=hQB k hk
  omega
end Go.Proofs.YtinihaflmdihaaaGreat.Kt
namespace Go.Proofs.YtinihaflmdihaaaGreat.Kt
open Go.RowKit Go.Proofs.YtinihaflmdihaaaGreat.Nd Go.Proofs.YtinihaflmdihaaaGreat.Pg
theorem x2h:∀(L:List St) (i j:Nat),(x0G i L).2=(x0G j L).2
 |[],_,_=>rfl
 | s::L,i,j=>by
  rw [x28,x28,x2h L (i+1) (j+1)]
  split<;>rfl
theorem x45 {s:St} {L:List St} (h0:0≤s.on+(x0G 0 L).2.2+s.off+1) (h:SetOk L):SetOk (s::L):=fun j x hx=>by
 cases j with
 | zero=>
  simp only [List.getElem?_cons_zero,Option.some.injEq] at hx
  subst hx
  show 0≤s.on+(x0G (0+1) L).2.2+s.off+1
  rw [x2h L (0+1) 0]
  exact h0
 | succ j=>
  have:=h j x (by simpa using hx)
  show 0≤x.on+(x0G (j+1+1) (L.drop (j+1))).2.2+x.off+1
  rw [x2h _ (j+1+1) (j+1)]
  exact this
structure y1h (W:Pages) (d:Nat) (Z:Int) (s:St):Prop where
 row:s.row.length=d
 l:Sees W d s.l
 r:Sees W d s.r
 old:Sees W d s.old
 zl:s.l.kid.size≤Z
 zr:s.r.kid.size≤Z
 zo:s.old.kid.size≤Z
theorem x1z {d:Nat} {W:Pages} {u:V} (h:Sees W d u):0≤u.kid.live∧u.kid.live≤u.kid.size∧u.kid.size≤1048576:=⟨(x0l (x19 h).1).1,x8a (x19 h).1,(x2e (x19 h).1).2⟩
theorem y3D {d:Nat} {W:Pages} {q:List Int} {lv:Bool} {l r:V} (hs:Sees W d (.fork q lv l r)):q.length=d:=by
 have:=(x1g hs.1.right).2.2.1 ⟨q,lv⟩ (by simp [forkN])
 simp only at this
 omega
theorem x5L {W:Pages} {d:Nat} {Z:Int} {p:List Int} (hp:p.length=d) (hZ:0≤Z):∀(u:V) (t:Nat),Sees W d u→u.kid.size≤Z→∀L s,wayV d p u t=some (L,s)→∀st∈L++[s],y1h W d Z st
 | .nil,t,_,_,L,s,h,st,hst=>by
  have h:some ([],(⟨p,false,.nil,.nil,false,.nil⟩:St))=some (L,s):=h
  simp only [Option.some.injEq,Prod.mk.injEq] at h
  obtain ⟨rfl,rfl⟩:=h
  rw [List.mem_singleton.1 hst]
  exact ⟨hp,trivial,trivial,trivial,hZ,hZ,hZ⟩
 | .bad k,t,_,_,L,s,h,st,hst=>by cases h
 | .fork q lv l r,t,hs,hz,L,s,h,st,hst=>by
  have hsz:(V.fork q lv l r).kid.size=1+(l.kid.size+r.kid.size):=x0Z q lv l.kid r.kid
  have h1:=x1F hs.2.2.1
  have h2:=x1F hs.2.2.2
  have hme:∀sd,y1h W d Z ⟨q,lv,l,r,sd,.fork q lv l r⟩:=fun sd=>⟨y3D hs,hs.2.2.1,hs.2.2.2,hs,show l.kid.size≤Z by omega,show r.kid.size≤Z by omega,hz⟩
  have hw:wayV d p (.fork q lv l r) t=(if ordC (t%d) p q=0 then some ([],⟨q,lv,l,r,false,.fork q lv l r⟩)
   else if 0<ordC (t%d) p q then (wayV d p r (t+1)).map fun x=>(⟨q,lv,l,r,true,.fork q lv l r⟩::x.1,x.2)
   else (wayV d p l (t+1)).map fun x=>(⟨q,lv,l,r,false,.fork q lv l r⟩::x.1,x.2)):=rfl
  rw [hw] at h
  split at h
  ·simp only [Option.some.injEq,Prod.mk.injEq] at h
   obtain ⟨rfl,rfl⟩:=h
   rw [List.mem_singleton.1 hst]
   exact hme false
  ·split at h
   ·cases hwr:wayV d p r (t+1) with
    | none=>rw [hwr] at h;cases h
    | some x=>
     rw [hwr] at h
     simp only [Option.map_some,Option.some.injEq,Prod.mk.injEq] at h
     obtain ⟨rfl,rfl⟩:=h
     rcases List.mem_cons.1 hst with rfl | hst
     ·exact hme true
     ·exact x5L hp hZ r (t+1) hs.2.2.2 (by omega) x.1 x.2 hwr st hst
   ·cases hwl:wayV d p l (t+1) with
    | none=>rw [hwl] at h;cases h
    | some x=>
     rw [hwl] at h
     simp only [Option.map_some,Option.some.injEq,Prod.mk.injEq] at h
     obtain ⟨rfl,rfl⟩:=h
     rcases List.mem_cons.1 hst with rfl | hst
     ·exact hme false
     ·exact x5L hp hZ l (t+1) hs.2.2.1 (by omega) x.1 x.2 hwl st hst
theorem x2T (s:St) (M:List St) (x:Int) (hx:s.on+(x0G 0 M).2.2=x) (h0:0≤x+s.off+1) (h1:x+s.off≤s.old.kid.size) (h2:0≤s.old.kid.live∧s.old.kid.live≤s.old.kid.size):0≤(x0G 0 (s::M)).2.1∧(x0G 0 (s::M)).2.1≤s.old.kid.size+1∧(x0G 0 (s::M)).2.2=(x0G 0 (s::M)).2.1 - s.old.kid.size:=by
 rw [x28,x2h M (0+1) 0,hx]
 split
 ·exact ⟨by simp only;omega,by simp only;omega,rfl⟩
 ·exact ⟨by simp only;omega,by simp only;omega,rfl⟩
theorem x46 {W:Pages} {d:Nat} {p:List Int}:∀(u:V) (t:Nat),Sees W d u→∀L s,wayV d p u t=some (L,s)→(0≤(x0G 0 (L++[s])).2.1∧(x0G 0 (L++[s])).2.1≤u.kid.size+1∧(x0G 0 (L++[s])).2.2=(x0G 0 (L++[s])).2.1 - u.kid.size)∧SetOk (L++[s])∧(((L++[s]).length:Int)≤u.kid.size+1)
 | .nil,t,_,L,s,h=>by
  have h:some ([],(⟨p,false,.nil,.nil,false,.nil⟩:St))=some (L,s):=h
  simp only [Option.some.injEq,Prod.mk.injEq] at h
  obtain ⟨rfl,rfl⟩:=h
  have h00:(V.nil).kid.size=0∧(V.nil).kid.live=0:=⟨rfl,rfl⟩
  exact ⟨x2T ⟨p,false,.nil,.nil,false,.nil⟩ [] 0 rfl (by show (0:Int)≤0+(V.nil).kid.size+1;omega) (by show (0:Int)+(V.nil).kid.size≤(V.nil).kid.size;omega) (by show 0≤(V.nil).kid.live∧(V.nil).kid.live≤(V.nil).kid.size;omega),x45 (by show (0:Int)≤(V.nil).kid.size+0+(V.nil).kid.size+1;omega) (fun j x hx=>by simp at hx),by show (1:Int)≤(V.nil).kid.size+1;omega⟩
 | .bad k,t,_,L,s,h=>by cases h
 | .fork q lv l r,t,hs,L,s,h=>by
  have hsz:(V.fork q lv l r).kid.size=1+(l.kid.size+r.kid.size):=x0Z q lv l.kid r.kid
  have h1:=x1z hs.2.2.1
  have h2:=x1z hs.2.2.2
  have h3:=x1z hs
  have hnil:SetOk []:=fun j x hx=>by simp at hx
  have hon:∀sd,(⟨q,lv,l,r,sd,.fork q lv l r⟩:St).on=if sd then r.kid.size else l.kid.size:=fun sd=>rfl
  have hoff:∀sd,(⟨q,lv,l,r,sd,.fork q lv l r⟩:St).off=if sd then l.kid.size else r.kid.size:=fun sd=>rfl
  have key:∀(sd:Bool) (M:List St),0≤(x0G 0 M).2.1→(x0G 0 M).2.1≤(if sd then r.kid.size else l.kid.size)+1→(x0G 0 M).2.2=(x0G 0 M).2.1 - (if sd then r.kid.size else l.kid.size)→SetOk M→
    (0≤(x0G 0 (⟨q,lv,l,r,sd,.fork q lv l r⟩::M)).2.1∧(x0G 0 (⟨q,lv,l,r,sd,.fork q lv l r⟩::M)).2.1≤(V.fork q lv l r).kid.size+1∧(x0G 0 (⟨q,lv,l,r,sd,.fork q lv l r⟩::M)).2.2=(x0G 0 (⟨q,lv,l,r,sd,.fork q lv l r⟩::M)).2.1 - (V.fork q lv l r).kid.size)∧SetOk (⟨q,lv,l,r,sd,.fork q lv l r⟩::M):=fun sd M g1 g2 g3 g4=>by
   have hx:=hon sd
   have hy:=hoff sd
   refine ⟨x2T ⟨q,lv,l,r,sd,.fork q lv l r⟩ M _ rfl ?_ ?_ ⟨h3.1,h3.2.1⟩,x45 ?_ g4⟩
   ·rw [hx,hy]
    cases sd<;>simp only [if_true,Bool.false_eq_true,if_false] at * <;>omega
   ·rw [hx,hy]
    show _≤(V.fork q lv l r).kid.size
    cases sd<;>simp only [if_true,Bool.false_eq_true,if_false] at * <;>omega
   ·rw [hx,hy]
    cases sd<;>simp only [if_true,Bool.false_eq_true,if_false] at * <;>omega
  have hw:wayV d p (.fork q lv l r) t=(if ordC (t%d) p q=0 then some ([],⟨q,lv,l,r,false,.fork q lv l r⟩)
   else if 0<ordC (t%d) p q then (wayV d p r (t+1)).map fun x=>(⟨q,lv,l,r,true,.fork q lv l r⟩::x.1,x.2)
   else (wayV d p l (t+1)).map fun x=>(⟨q,lv,l,r,false,.fork q lv l r⟩::x.1,x.2)):=rfl
  rw [hw] at h
  split at h
  ·simp only [Option.some.injEq,Prod.mk.injEq] at h
   obtain ⟨rfl,rfl⟩:=h
   refine ⟨x2T ⟨q,lv,l,r,false,.fork q lv l r⟩ [] l.kid.size (by show l.kid.size+0=_;omega) (by show 0≤l.kid.size+r.kid.size+1;omega) (by show l.kid.size+r.kid.size≤(V.fork q lv l r).kid.size;omega) ⟨h3.1,h3.2.1⟩,x45 (by show 0≤l.kid.size+0+r.kid.size+1;omega) hnil,by show (1:Int)≤(V.fork q lv l r).kid.size+1;omega⟩
  ·split at h
   ·cases hwr:wayV d p r (t+1) with
    | none=>rw [hwr] at h;cases h
    | some x=>
     rw [hwr] at h
     simp only [Option.map_some,Option.some.injEq,Prod.mk.injEq] at h
     obtain ⟨rfl,rfl⟩:=h
     obtain ⟨⟨g1,g2,g3⟩,g4,g5⟩:=x46 r (t+1) hs.2.2.2 x.1 x.2 hwr
     obtain ⟨k1,k2⟩:=key true (x.1++[x.2]) g1 g2 g3 g4
     exact ⟨k1,k2,by rw [List.cons_append,List.length_cons];omega⟩
   ·cases hwl:wayV d p l (t+1) with
    | none=>rw [hwl] at h;cases h
    | some x=>
     rw [hwl] at h
     simp only [Option.map_some,Option.some.injEq,Prod.mk.injEq] at h
     obtain ⟨rfl,rfl⟩:=h
     obtain ⟨⟨g1,g2,g3⟩,g4,g5⟩:=x46 l (t+1) hs.2.2.1 x.1 x.2 hwl
     obtain ⟨k1,k2⟩:=key false (x.1++[x.2]) g1 g2 g3 g4
     exact ⟨k1,k2,by rw [List.cons_append,List.length_cons];omega⟩
theorem x9v {W:Pages} {d Z:Nat} {A:List MSt} {L:List St} (hl:Links A L) (h:∀st∈L,y1h W d Z st):(∀m∈A,GoodM d Z m)∧(∀m∈A,SzM m):=by
 induction hl with
 | nil=>exact ⟨fun m B=>(by cases B),fun m B=>by cases B⟩
 | cons hk _ ih=>
  obtain ⟨R,Q⟩:=ih (fun st hst=>h st (by simp [hst]))
  have C:=h _ (List.mem_cons_self ..)
  have M:=x1z C.l
  have O:=x1z C.r
  have E:=x1z C.old
  have I:=x19 C.l
  have H:=x19 C.r
  have K:=x1F C.l
  have J:=x1F C.r
  have P:=C.zl
  have N:=C.zr
  have G:=C.row
  rw [hk.l] at M I K P
  rw [hk.r] at O H J N
  rw [hk.old] at E
  rw [hk.row] at G
  refine ⟨fun m B=>?_,fun m B=>?_⟩
  ·rcases List.mem_cons.1 B with rfl | B
   ·exact ⟨G,⟨I.1,I.2,K⟩,⟨H.1,H.2,J⟩,P,N⟩
   ·exact R m B
  ·rcases List.mem_cons.1 B with rfl | B
   ·exact ⟨⟨K,M.2.2⟩,⟨J,O.2.2⟩,⟨Int.le_trans E.1 E.2.1,E.2.2⟩,⟨E.1,Int.le_trans E.2.1 E.2.2⟩⟩
   ·exact Q m B
theorem x67 {A:List MSt} {L:List St} {s:St} (h:Links A (L++[s])):∃A0 m,A=A0++[m]∧Links A0 L∧Link m s:=by
 induction L generalizing A with
 | nil=>
  cases h with
  | cons h1 h2=>
   cases h2
   exact ⟨[],_,rfl,.nil,h1⟩
 | cons x L ih=>
  cases h with
  | cons h1 h2=>
   obtain ⟨A0,m,rfl,B,C⟩:=ih h2
   exact ⟨_::A0,m,rfl,.cons h1 B,C⟩
end Go.Proofs.YtinihaflmdihaaaGreat.Kt
namespace Go.Proofs.YtinihaflmdihaaaGreat.Kt
open Go.RowKit Go.Proofs.YtinihaflmdihaaaGreat.Nd Go.Proofs.YtinihaflmdihaaaGreat.Dk Go.Proofs.YtinihaflmdihaaaGreat.Pg
theorem x6n (w:World):RowsIn w none 0 0 []:=⟨rfl,Nat.le_refl _,(fun t ht=>by cases ht),Or.inl rfl⟩
theorem x47:∀(u:V) (t:Nat),liveE (u.ents t)=u.rows
 | .nil,_=>rfl
 | .bad _,_=>rfl
 | .fork p v l r,t=>by
  show liveE ((p,v,t)::(l.ents (t+1)++r.ents (t+1)))=(if v then [p] else [])++(l.rows++r.rows)
  rw [show (p,v,t)::(l.ents (t+1)++r.ents (t+1))=[(p,v,t)]++(l.ents (t+1)++r.ents (t+1)) from rfl,x1o,x1o,x47 l,x47 r]
  cases v<;>rfl
theorem x5M:∀(L:List Ent) (a:Nat),L.foldl (fun m e=>max m e.2.2) a=max a (deepE L)
 |[],a=>by simp [deepE]
 | e::L,a=>by
  unfold deepE
  rw [List.foldl_cons,List.foldl_cons,x5M L,x5M L]
  omega
theorem x4N (L M:List Ent):deepE (L++M)=max (deepE L) (deepE M):=by
 unfold deepE
 rw [List.foldl_append,x5M M]
 rfl
theorem x2i:∀(u:T) (t:Nat),1≤t→deepE ((V.of u).ents t)=if u.height=0 then 0 else t - 1+u.height
 | .nil,t,_=>rfl
 | .fork p v l r,t,ht=>by
  show deepE ([(p,v,t)]++((V.of l).ents (t+1)++(V.of r).ents (t+1)))=_
  rw [x4N,x4N,x2i l (t+1) (by omega),x2i r (t+1) (by omega)]
  have h1:deepE [(p,v,t)]=t:=by simp [deepE]
  have A:(T.fork p v l r).height=1+max l.height r.height:=rfl
  rw [h1,A]
  split<;>split<;>split<;>omega
def x93 (w:World) (u:V) (e:Ending) (w':World):Prop:=∃(err:Int) (q:Option Addr) (c:Nat) (O:List Rw),e= .returned (.tuple #[.slice q O.length c,.int .i64 err])∧w'.ownsRow w.heap.size 24 1 (.slice q O.length c) O.length (hds O)∧(∀r∈O,r.Ok w'∧∀x,r.p=some x→r.R≠[]→(Value.slice q O.length c).ownBlock≠some x.block∧w.heap.size≤x.block)∧(u.whole=true→err=0∧O.map Rw.R=u.rows)∧(u.whole=false→err=21)∧(O.length:Int)≤u.kid.size∧Below w.heap.size w w'
theorem y3E {gs d:Nat} {Q:Nat→Prop} {s:Pg.S} (hW:x4J d s.W) (u:V) (k:Kd) (w:World) (hp:PL w gs Q s) (hs:Sees s.W d u) (hk:k.Ok w) (he:k.pk=u.kid) (hz:u.kid.size≤90000):
  Calls Tryz.prog 57 #[.agg #[.pointer (some ⟨gs,0,none⟩),.int .i64 d],.agg k.cells.toArray] w (x93 w u):=by
 obtain ⟨W,U,q,f,b1⟩:=x0u w (.cells #[.pointer (some ⟨gs,0,none⟩),.int .i64 d] 91) (.cells k.cells.toArray 34)
 have P:Below W.heap.size W (W.alloc (.cells #[.slice none 0 0] 51)):=(Below.refl _ _).alloc (Nat.le_refl _) _
 have o:=heap_alloc_new W (.cells #[.slice none 0 0] 51)
 have C:=b1.trans (P.mono b1.size)
 have A:ColI w.heap.size W.heap.size (fun k=>k=W.heap.size) [] (W.alloc (.cells #[.slice none 0 0] 51)):=⟨.slice none 0 0,[],⟨o,⟨rfl,Or.inl ⟨rfl,rfl⟩⟩,(fun r hr=>by cases hr),rfl,fun k=>⟨Or.inl,fun h=>h.elim id (fun h=>by cases h)⟩,(fun h=>by cases h),by simp⟩⟩
 have HE:=yH (x3X (gs:=gs) (Q:=Q) (B:=w.heap.size) hW x9j (y4m (B:=w.heap.size) (b:=W.heap.size)) u k (w.heap.size+1) 0 0 (W.alloc (.cells #[.slice none 0 0] 51)) (fun k=>k=W.heap.size) [] (hp.keep (fun _=>False) (Only.of_below _ C) (fun _ _ e=>e)) hs (hk.later C) (x02 (x0E f) P) he A (fun j hj e=>by have:=hp.lt j hj;have:=b1.size;omega) (by omega) (by simp;omega) C.size)
 have R0:=yH (x09 (yK P q))
 have B2:=yH C
 have G:=yH (show w.heap.size+2≤W.heap.size from (yL f))
 obtain ⟨du,L,K⟩:=UTr
 have c:=yH L
 have i:=yH K
 clear hW hp hs hk he hz q f b1 P o C A L K
 go_enter Tryz.func57,Tryz.ntmps57
 go_upto_region 1 with fail
 clear U
 go_upto_region 2 with fail
 generalize W.alloc (.cells #[.slice none 0 0] 51)=w2 at *
 go_upto_region 3 with (first
  | (refine wpList_load_mid (by rfl) 91 _ (by rfl) w.heap.size 0 (by rfl) [.pointer (some ⟨gs,0,none⟩),.int .i64 d] du R0.out c.out i.out STr ?_)
  | (go_at_call 74;refine HE.out.mono ?_;rintro _ t ⟨X,M,X3,rfl,⟨v,O,A⟩,H,l,p,m,N⟩;have E:=yH A;have HX:=yH H;have HO:=yH l;have z:=yH p;have HB:=yH m;have Y:=yH N;clear A H l p m N))
 obtain ⟨y,c3,rfl⟩:=x1E E.out.own
 have c1:=cell_of_row t W.heap.size 0 _ _ _ E.out.row
 go_wp2_with fail
 go_ret2
 have R:Below w.heap.size w t:=B2.out.trans (HO.out.below B2.out.size (fun k e=>by have:=G.out;omega))
 refine ⟨X,y,c3,O,rfl,?_,fun r hr=>⟨(E.out.ok r hr).1,fun x H hR=>⟨fun e=>?_,((E.out.ok r hr).2 x H hR).2⟩⟩,fun h=>?_,HB.out,?_,R⟩
 ·obtain ⟨J,I⟩:=E.out.own
  refine ⟨J,I.imp id ?_⟩
  rintro ⟨g,a,Z,n,hg,hh,r⟩
  refine ⟨g,a,Z,n,?_,hh,r⟩
  have hX:X3 g:=(E.out.mine g).2 (Or.inr (by rw [n];rfl))
  have:=G.out
  have:=B2.out.size
  rcases HX.out g hX with h | h
  ·omega
  ·omega
 ·exact ((E.out.ok r hr).2 x H hR).1 ((E.out.mine _).2 (Or.inr e))
 ·obtain ⟨J,I⟩:=z.out h
  refine ⟨J,?_⟩
  rw [E.out.are,I,List.nil_append,x47]
 ·have J:=E.out.are
  have I:=congrArg List.length J
  rw [List.length_map,List.nil_append] at I
  have h3:(liveE M).length≤M.length:=by
   unfold liveE
   rw [List.length_map]
   exact List.length_filter_le _ _
  have:=Y.out
  omega
theorem x68 {gs d:Nat} {Q:Nat→Prop} {s:Pg.S} (hd:1≤d∧d≤8) (hW:x4J d s.W) (u:V) (k:Kd) (w:World) (hp:PL w gs Q s) (hs:Sees s.W d u) (hk:k.Ok w) (he:k.pk=u.kid) (hz:u.kid.size≤90000):
  Calls Tryz.prog 24 #[.pointer (some ⟨gs,0,none⟩),.agg k.cells.toArray,.int .i64 d] w fun e w'=>Below w.heap.size w w'∧((u.whole=true→e= .returned (.tuple #[.int .i64 (deepE (u.ents 1)),.int .i64 0]))∧(u.whole=false→e= .returned (.tuple #[.int .i64 0,.int .i64 21]))):=by
 have b1:Below w.heap.size w (w.alloc (.cells k.cells.toArray 34)):=(Below.refl _ _).alloc (Nat.le_refl _) _
 have r1:=heap_alloc_new w (.cells k.cells.toArray 34)
 have r:=yH (fun w'=>x3S (some ⟨gs,0,none⟩) d none 0 0 [] w' (x6n w') (by omega))
 rw [show x2J d []=true from by unfold x2J;rw [decide_eq_true (by omega)];rfl] at r
 have HE:=yH (fun (w':World) (J:Below w.heap.size w w') (hr:w'.rangeAt w.heap.size 0 k.cells) (b:Nat) (hbl:w.heap.size≤b) (E:w'.heap[b]? =some (.cells #[.int .i64 (0:Nat)] 3 (0,0)))=>x3X (gs:=gs) (Q:=Q) (B:=0) hW y1L (y5U (B:=0) (b:=b)) u k w.heap.size 0 1 w' (fun k=>k=b) [] (hp.keep (fun _=>False) (Only.of_below _ J) (fun _ _ e=>e)) hs (hk.later J) hr he ⟨E,fun _=>Iff.rfl⟩ (fun j hj e=>by have:=hp.lt j hj;omega) (by omega) (by simp;omega) (Nat.zero_le _))
 have R1:=yH r1
 have B1:=yH b1
 have A0:=yH (show u.whole=true∨u.whole=false from by cases u.whole<;>simp)
 obtain ⟨x,Z,Y⟩:=UTr
 obtain ⟨dk,R,I⟩:=UKd
 have K:=yH Z
 have L:=yH Y
 have AG:=yH R
 have A5:=yH I
 clear hd hW hp hs hk he hz b1 r1 Z Y R I
 go_enter Tryz.func24,Tryz.ntmps24
 go_upto_region 1 with fail
 generalize w.alloc (.cells k.cells.toArray 34)=w1 at *
 go_upto_region 2 with (first
  | (refine x07 (cells:= #[.pointer (some ⟨gs,0,none⟩),.int .i64 d]) (by rfl) (by rfl) (by simp only [List.map_toArray,List.map_cons,List.map_nil];exact x3Z _ _) ?_)
  | (refine wpList_store_row (by rfl) 91 (.tmp 8) (.tmp 13) (by rfl) w1.heap.size #[.pointer (some ⟨gs,0,none⟩),.int .i64 d] (by rfl) (by rfl) _ _ (heap_alloc_new w1 _) STr rfl (x7X _ _) ?_;rw [x04]))
 have N:Below w1.heap.size w1 (w1.alloc (.cells #[.pointer (some ⟨gs,0,none⟩),.int .i64 d] 91)):=(Below.refl _ _).alloc (Nat.le_refl _) _
 have E:=heap_alloc_new w1 (.cells #[.pointer (some ⟨gs,0,none⟩),.int .i64 d] 91)
 generalize w1.alloc (.cells #[.pointer (some ⟨gs,0,none⟩),.int .i64 d] 91)=w2 at *
 have R2:=yH E
 have y:=yH (x09 E)
 have o:=yH (yK N R1.out)
 have B2:=yH (B1.out.trans (N.mono B1.out.size))
 clear N E
 go_upto_region 4 with (first
  | (refine wpList_load_mid (by rfl) 91 (.tmp 8) (by rfl) w1.heap.size 0 (by rfl) [.pointer (some ⟨gs,0,none⟩),.int .i64 d] x y.out K.out L.out STr ?_)
  | (go_at_call 72;refine (r.out w2).mono ?_;rintro _ A ⟨rfl,g⟩;have P:=yH (B2.out.trans (g.mono B2.out.size));have R3:=yH (yK g R2.out);have p:=yH (yK g o.out);clear g))
 go_upto_region 5 with fail
 have H:Below A.heap.size A (A.alloc (.cells #[.int .i64 0] 3)):=(Below.refl _ _).alloc (Nat.le_refl _) _
 have X:=heap_alloc_new A (.cells #[.int .i64 0] 3)
 have a:Calls Tryz.prog 74 #[.agg #[.pointer (some ⟨gs,0,none⟩),.int .i64 d],.pointer (some ⟨w.heap.size,0,none⟩),.int .i64 1,.func (.func 75) #[] #[.pointer (some ⟨A.heap.size,0,none⟩)]] (A.alloc (.cells #[.int .i64 0] 3)) (x8v (A.alloc (.cells #[.int .i64 0] 3)) (TopI A.heap.size) (fun k=>k=A.heap.size) [] u 1):=HE.out _ (P.out.trans (H.mono P.out.size)) (x0E (yK H p.out)) A.heap.size P.out.size X
 have c:=yH a
 have R4:=yH (x09 (yK H R3.out))
 have l:=yH (P.out.trans (H.mono P.out.size))
 have f:=yH P.out.size
 clear a H X HE r
 generalize A.alloc (.cells #[.int .i64 0] 3)=w4 at *
 rcases A0.out with C | C
 ·have G:=yH C
  clear C
  go_upto_region 6 with (first
   | (refine wpList_load_mid (by rfl) 91 (.tmp 8) (by rfl) w1.heap.size 0 (by rfl) [.pointer (some ⟨gs,0,none⟩),.int .i64 d] x R4.out K.out L.out STr ?_)
   | (go_at_call 74;refine c.out.mono ?_;rintro _ w5 ⟨q,M,X5,rfl,⟨hc,hm⟩,n,U,i,J,O⟩;obtain ⟨rfl,rfl⟩:=i G.out;have HC:=yH hc;have v:=yH U;clear hc hm n U i J O))
  have c1:=cell_of_row w5 A.heap.size 0 _ _ _ HC.out
  rw [List.nil_append] at c1
  have z:=yH (show u.whole=true→u.whole=false→False from fun h1 h2=>by rw [h1] at h2;cases h2)
  obtain ⟨D,t⟩:∃D,deepE (u.ents 1)=D:=⟨_,rfl⟩
  rw [t] at c1
  have m:=yH t
  clear t
  go_wp2_with fail
  go_ret2
  exact ⟨l.out.trans (v.out.below l.out.size (fun k e=>by have:=f.out;omega)),(fun _=>by rw [m.out];rfl),(fun h=>(z.out G.out h).elim)⟩
 ·have G:=yH C
  clear C
  go_upto_region 6 with (first
   | (refine wpList_load_mid (by rfl) 91 (.tmp 8) (by rfl) w1.heap.size 0 (by rfl) [.pointer (some ⟨gs,0,none⟩),.int .i64 d] x R4.out K.out L.out STr ?_)
   | (go_at_call 74;refine c.out.mono ?_;rintro _ w5 ⟨q,M,X5,rfl,hi,n,U,i,J,O⟩;obtain rfl:=J G.out;have v:=yH U;clear hi n U i J O))
  go_wp2_with fail
  go_ret2
  exact ⟨l.out.trans (v.out.below l.out.size (fun k e=>by have:=f.out;omega)),(fun h=>by rw [G.out] at h;cases h),(fun _=>rfl)⟩
end Go.Proofs.YtinihaflmdihaaaGreat.Kt
namespace Go.Proofs.YtinihaflmdihaaaGreat.Kt
open Go.RowKit Go.Proofs.YtinihaflmdihaaaGreat.Nd
open List renaming setIfInBounds_toArray → yA, set_cons_zero → yB, set_cons_succ → yC
def Twice (L:List Rw):Prop:=∃j,j+1<L.length∧(L.getD j default).R=(L.getD (j+1) default).R
def TwRel (w:World) (L:List Rw) (n:Nat) (i:Value) (wr:World):Prop:=∃k m:Nat,(k+1≤n∨k=0)∧i= .int .i64 k∧(∀j,j<k→(L.getD j default).R≠(L.getD (j+1) default).R)∧wr=w.drewN m
def y5X (w:World) (L:List Rw) (e:Ending) (w':World):Prop:=∃b:Bool,e= .returned (.bool b)∧(b=true↔Twice L)∧∃j,w'=w.drewN j
theorem x7a (p:Option Addr) (n c:Nat) (L:List Rw) (w:World) (h:RowsIn w p n c L) (hn:n≤1000000000):
  Calls Tryz.prog 77 #[.slice p n c] w (y5X w L):=by
 have H:=yH h
 have Z:=yH h.size
 have q1:IntKind.i64.wrap ((n:Int) - 1)=(n:Int) - 1:=IntWalk.i64_in _ (by omega)
 clear h
 go_enter Tryz.func77,Tryz.ntmps77
 go_wp2_with fail
 go_loopw [3,7] (fun _ i wr=>TwRel w L n i wr) (fun _ i _=>n - (intOf i).toNat)
 case atStart=>exact ⟨0,0,Or.inr rfl,rfl,(fun j hj=>by omega),rfl⟩
 case round=>
  obtain ⟨k,m,v,rfl,G,rfl⟩:=hrel
  have U:=yH (show Below w.heap.size w (w.drewN m) from Below.drewN (Below.refl _ _) m)
  have A:=yH G
  clear G
  by_cases hlt:k+1<n
  ·have b1:(k:Int)<(n:Int) - 1:=by omega
   obtain ⟨g,o,rfl,X,B⟩:=H.out.cell k (by omega)
   obtain ⟨u,o',Y,W,I⟩:=H.out.cell (k+1) hlt
   simp only [Option.some.injEq,Addr.mk.injEq,and_true] at Y
   obtain ⟨rfl,rfl⟩:=Y
   have s:(0:Int)≤k∧(k:Int)<n:=by omega
   have y:(0:Int)≤(k:Int)+1∧(k:Int)+1<n:=by omega
   have z:IntKind.i64.wrap ((k:Int)+1)=(k:Int)+1:=IntWalk.i64_in _ (by omega)
   have r:((k:Int)+1).toNat=k+1:=by omega
   have E:=yH X
   have C:=yH W
   have M:=yH (show ∀b:Bool,b=decide ((L.getD k default).R=(L.getD (k+1) default).R)→b=true→Twice L from fun b hb h=>⟨k,by rw [← Z.out];exact hlt,by rw [h] at hb;exact of_decide_eq_true hb.symm⟩)
   have N:=yH (show decide ((L.getD k default).R=(L.getD (k+1) default).R)=false→∀j,j<k+1→(L.getD j default).R≠(L.getD (j+1) default).R from fun h j hj=>by
    rcases Nat.lt_or_ge j k with Q | Q
    ·exact A.out j Q
    ·obtain rfl:j=k:=by omega
     exact of_decide_eq_false h)
   have J:=yH (fun w' (hb:Below w.heap.size w w')=>x3F _ _ _ _ _ _ _ _ w' (B.ints.later hb) (I.ints.later hb) B.top)
   clear X W B I
   generalize L.getD k default=r1 at *
   generalize L.getD (k+1) default=r2 at *
   obtain ⟨p1,t,q,e⟩:=r1
   obtain ⟨x,n2,l,f⟩:=r2
   unfold Rw.val at E C
   simp only at E C M N J
   cases hb:decide (e=f) with
   | true=>
    rw [hb] at J
    have P:=yH (M.out true hb.symm rfl)
    clear hb M N A
    go_upto_region 4 with fail
    refine wp_region_held_drew (S:=fun w'=>Below w.heap.size w w') (by kernel_rfl) U.out.drew (fun hHeld=>?_)
    refine tK 0 ?_
    refine tK 1 ?_
    refine tK 2 ?_
    refine tQ 3 ?_ ?_ ?_
    rotate_left
    ·intro w' hSw
     have O:=(hSw.cell (block_lt_of_cell E.out)).trans E.out
     go_simp
     try with_reducible rfl
    refine tK 4 ?_
    refine tK 5 ?_
    refine tK 6 ?_
    refine tK 7 ?_
    refine tQ 8 ?_ ?_ ?_
    rotate_left
    ·intro w' hSw
     have O:=(hSw.cell (block_lt_of_cell C.out)).trans C.out
     go_simp
     try with_reducible rfl
    refine rO 9 fun K hK=>?_
    go_simp
    refine (J.out _ hHeld).mono ?_
    rintro _ a ⟨rfl,d,rfl⟩
    try go_wp2_with fail
    refine hK.out _ _ (Below.drewN (Below.refl _ _) _) (fun hHeld=>?_)
    clear hK K
    try simp only [Act.put,yA,yB,yC]
    refine wpAnyH_done (by kernel_rfl) ?_ _
    go_wp2_with fail
    go_ret
    exact ⟨true,rfl,⟨fun _=>P.out,fun _=>rfl⟩,_,rfl⟩
   | false=>
    rw [hb] at J
    have HZ:=yH (N.out hb)
    clear hb M N A
    go_upto_region 4 with fail
    refine wp_region_held_drew (S:=fun w'=>Below w.heap.size w w') (by kernel_rfl) U.out.drew (fun hHeld=>?_)
    refine tK 0 ?_
    refine tK 1 ?_
    refine tK 2 ?_
    refine tQ 3 ?_ ?_ ?_
    rotate_left
    ·intro w' hSw
     have O:=(hSw.cell (block_lt_of_cell E.out)).trans E.out
     go_simp
     try with_reducible rfl
    refine tK 4 ?_
    refine tK 5 ?_
    refine tK 6 ?_
    refine tK 7 ?_
    refine tQ 8 ?_ ?_ ?_
    rotate_left
    ·intro w' hSw
     have O:=(hSw.cell (block_lt_of_cell C.out)).trans C.out
     go_simp
     try with_reducible rfl
    refine rO 9 fun K hK=>?_
    go_simp
    refine (J.out _ hHeld).mono ?_
    rintro _ a ⟨rfl,d,rfl⟩
    try go_wp2_with fail
    refine hK.out _ _ (Below.drewN (Below.refl _ _) _) (fun hHeld=>?_)
    clear hK K
    try simp only [Act.put,yA,yB,yC]
    refine wpAnyH_done (by kernel_rfl) ?_ _
    go_wp2_with fail
    go_roundw
    case rel=>exact ⟨k+1,_,Or.inl hlt,by go_num,HZ.out,rfl⟩
    case measure=>simp [intOf];omega
  ·have b1:¬(k:Int)<(n:Int) - 1:=by omega
   have P:=yH (show ¬Twice L from fun ⟨j,hj,he⟩=>A.out j (by rw [← Z.out] at hj;omega) he)
   go_wp2_with fail
   go_ret
   exact ⟨false,rfl,⟨(fun h=>by cases h),fun h=>absurd h P.out⟩,_,rfl⟩
end Go.Proofs.YtinihaflmdihaaaGreat.Kt
namespace Go.Proofs.YtinihaflmdihaaaGreat.Kt
open Go.RowKit Go.Proofs.YtinihaflmdihaaaGreat.Nd Go.Proofs.YtinihaflmdihaaaGreat.Dk Go.Proofs.YtinihaflmdihaaaGreat.Pg
theorem x2B {ops:Array Oper} {rest:List Oper} {o:Oper} {a:Act} {w:World} {Q:Exit→Act→World→Prop} (hw:Region.wanted o (yielded ops a.tmps)=true) (ty:TypeId) (x:Operand) (ho:o.op= .load ty x)
  (b i:Nat) (hx:a.eval x= .pointer (some ⟨b,i,none⟩)) (cs:List Value) (d:TypeDesc) (hc:w.rangeAt b i cs)
  (hu:Tryz.prog.underlying ty=some d) (hd:d.isRow=true) (hi:(Tryz.prog.info? ty).map (·.size)=some cs.length)
  (h:wpList Tryz.prog ops Q rest (a.put o.dst (.agg cs.toArray)) w):wpList Tryz.prog ops Q (o::rest) a w:=
 BigFrame.wpList_want hw fun _ hK=>wp_load_mid ty x ho b i hx cs d hc hu hd hi (hK _ _ h)
theorem y1i {a d:Nat} {M:List Rw} {L:List (List Int)} (hd:∀y∈L,y.length=d) (hs:M.map Rw.R=sortP a L):Twice M↔¬L.Nodup:=by
 have J:=x1Y a L
 have C:=x2I (a:=a) hd
 have E:∀y∈sortP a L,y.length=d:=fun y hy=>hd y (J.mem_iff.1 hy)
 rw [← J.nodup_iff]
 have H:M.length=(sortP a L).length:=by rw [← hs,List.length_map]
 have A:∀j (h:j<(sortP a L).length),(M.getD j default).R=(sortP a L)[j]:=fun j h=>by
  have N:j<M.length:=by omega
  rw [← x5Z N,hs,List.getD_eq_getElem?_getD,List.getElem?_eq_getElem h]
  rfl
 generalize sortP a L=S at *
 constructor
 ·rintro ⟨j,K,B⟩ G
  rw [A j (by omega),A (j+1) (by omega)] at B
  exact (List.pairwise_iff_getElem.1 G) j (j+1) (by omega) (by omega) (by omega) B
 ·intro G
  apply Classical.byContradiction
  intro ht
  apply G
  rw [List.nodup_iff_pairwise_ne,List.pairwise_iff_getElem]
  intro i j hi K hij B
  apply ht
  refine ⟨i,by omega,?_⟩
  rw [A i (by omega),A (i+1) (by omega)]
  by_cases h1:i+1=j
  ·subst h1
   exact B
  ·have s1:=(List.pairwise_iff_getElem.1 C) i (i+1) hi (by omega) (by omega)
   have I:=(List.pairwise_iff_getElem.1 C) (i+1) j (by omega) K (by omega)
   rw [← B] at I
   exact x3t ((E _ (List.getElem_mem _)).trans (E _ (List.getElem_mem _)).symm) I s1
def x20 (w:World) (gs:Nat) (Q:Nat→Prop) (s:Pg.S) (L:List Rw) (e:Ending) (w':World):Prop:=
 (¬(L.map Rw.R).Nodup∧e= .returned (.tuple #[.agg kd0.cells.toArray,.int .i64 8])∧Below w.heap.size w w')∨
 ((L.map Rw.R).Nodup∧∃(kd:Kd) (Q':Nat→Prop),e= .returned (.tuple #[.agg kd.cells.toArray,.int .i64 0])∧kd.pk=(lay (L.map Rw.R) 0).kid∧kd.Ok w'∧Fsh w kd∧Aw Q' kd∧PL w' gs Q' (puts s (lay (L.map Rw.R) 0).pages)∧(∀k,Q' k→Q k∨w.heap.size≤k)∧Only Q w w')
theorem x8D {w:World} {g o c:Nat} {M:List Rw} (h:Seg w g o M) (hok:∀r∈M,r.Ok w) (hc:M.length≤c):RowsIn w (some ⟨g,o,none⟩) M.length c M:=⟨rfl,hc,hok,Or.inr ⟨g,o,rfl,fun i hi=>(h i hi).1⟩⟩
theorem x69 {gs d:Nat} {Q:Nat→Prop} {s:Pg.S} (hd:1≤d∧d≤8) (p:Option Addr) (n c:Nat) (L:List Rw) (w:World) (hL:RowsIn w p n c L) (hn:1≤n) (hdim:∀r∈L,r.n=d) (haq:∀r∈L,∀x,r.p=some x→r.R≠[]→¬Q x.block) (hp:PL w gs Q s) (hsl:s.W.length+n<100000):
  Calls Tryz.prog 32 #[.pointer (some ⟨gs,0,none⟩),.slice p n c,.int .i64 d] w (x20 w gs Q s L):=by
 have b1:Below w.heap.size w (w.alloc (.cells kd0.cells.toArray 34)):=(Below.refl _ _).alloc (Nat.le_refl _) _
 have r1:=heap_alloc_new w (.cells kd0.cells.toArray 34)
 have AJ:x2J d L=true:=by
  unfold x2J
  rw [decide_eq_true (by omega)]
  simp only [Bool.true_and,Bool.not_eq_true',List.any_eq_false,decide_eq_true_eq]
  intro r B
  have:=hdim r B
  omega
 have HT:=yH (fun w' (I:Below w.heap.size w w')=>x3S (some ⟨gs,0,none⟩) d p n c L w' (hL.later I) (by omega))
 rw [AJ] at HT
 have Al:=yH (fun w' (I:Below w.heap.size w w')=>x9i p n c L w' (hL.later I) hn (by omega))
 have J:=yH hL.size
 have AA:=yH (show ∀y∈L.map Rw.R,y.length=d from fun y hy=>by
  obtain ⟨r,B,rfl⟩:=List.mem_map.1 hy
  exact (hL.each r B).ints.size.symm.trans (hdim r B))
 have O:=yH (show ∀r∈L,r.Ok w∧r.n=d from fun r B=>⟨hL.each r B,hdim r B⟩)
 have HP:=yH hp
 have Au:=yH haq
 have f:=yH hsl
 have AB:=yH hd
 have R1:=yH r1
 have B1:=yH b1
 have e1:¬(n:Int)>1048576:=by omega
 obtain ⟨du,AQ,AO⟩:=UTr
 obtain ⟨dk,Ac,m⟩:=UKd
 have A2:=yH AQ
 have A1:=yH AO
 have AZ:=yH Ac
 have o:=yH m
 have HZ:=yH (zero_of_info kz)
 have BM:=HZ.out.1
 clear hL AJ hdim haq hp hsl hd b1 r1 AQ AO Ac m
 go_enter Tryz.func32,Tryz.ntmps32
 go_upto_region 1 with fail
 generalize w.alloc (.cells kd0.cells.toArray 34)=w1 at *
 go_upto_region 2 with (first
  | (refine x07 (cells:= #[.pointer (some ⟨gs,0,none⟩),.int .i64 d]) (by rfl) (by rfl) (by simp only [List.map_toArray,List.map_cons,List.map_nil];exact x3Z _ _) ?_)
  | (refine wpList_store_row (by rfl) 91 (.tmp 8) (.tmp 12) (by rfl) w1.heap.size #[.pointer (some ⟨gs,0,none⟩),.int .i64 d] (by rfl) (by rfl) _ _ (heap_alloc_new w1 _) STr rfl (x7X _ _) ?_;rw [x04]))
 have z:Below w1.heap.size w1 (w1.alloc (.cells #[.pointer (some ⟨gs,0,none⟩),.int .i64 d] 91)):=(Below.refl _ _).alloc (Nat.le_refl _) _
 have A3:=heap_alloc_new w1 (.cells #[.pointer (some ⟨gs,0,none⟩),.int .i64 d] 91)
 generalize w1.alloc (.cells #[.pointer (some ⟨gs,0,none⟩),.int .i64 d] 91)=w2 at *
 have R2:=yH (x09 A3)
 have Aq:=yH A3
 have B7:=yH (yK z R1.out)
 have B2:=yH (B1.out.trans (z.mono B1.out.size))
 clear z A3
 go_upto_region 5 with (first
  | (refine x2B (by rfl) 91 (.tmp 8) (by rfl) w1.heap.size 0 (by rfl) [.pointer (some ⟨gs,0,none⟩),.int .i64 d] du R2.out A2.out A1.out STr ?_)
  | (go_at_call 72;refine (HT.out w2 B2.out).mono ?_;rintro _ w3 ⟨rfl,b3⟩;have B3:=yH (B2.out.trans (b3.mono B2.out.size));have R3:=yH (yK b3 B7.out);have AK:=yH (yK b3 Aq.out);clear b3)
  | (go_at_call 76;refine (Al.out w3 B3.out).mono ?_;rintro _ w4 ⟨a,cc,rfl,AR,j,AM,Aa,b4⟩;have B4:=yH (B3.out.trans (b4.mono B3.out.size));have R4:=yH (yK b4 R3.out);have u:=yH (yK b4 AK.out);have A:=yH (show w3.heap.size≤a∧a<w4.heap.size from ⟨j,AM⟩);have Ag:=yH AR;have Am:=yH Aa;clear b4 AR j AM Aa))
 have B0:=yH (x09 u.out)
 have E:=yH (show w.heap.size≤w3.heap.size from B3.out.size)
 have AL:=yH (show w1.heap.size<w3.heap.size from (yL AK.out))
 have A0:=yH (x7F (some ⟨gs,0,none⟩) d 0 a 0 cc L w4 (fun e=>by have h:=J.out;rw [e] at h;simp at h;omega) Am.out (fun r B=>⟨(O.out r B).1.later B4.out,(O.out r B).2,fun y hy hR=>by have:=rw_lt (O.out r B).1 y hy hR;have:=A.out;have:=E.out;omega⟩) (by have:=AB.out;omega) (by omega) A.out.2 (by have:=J.out;have:=f.out;omega))
 rw [Nat.zero_mod] at A0
 rw [← J.out] at A0 ⊢
 go_upto_region 6 with (first
  | (refine wpList_load_mid (by rfl) 91 (.tmp 8) (by rfl) w1.heap.size 0 (by rfl) [.pointer (some ⟨gs,0,none⟩),.int .i64 d] du B0.out A2.out A1.out STr ?_)
  | (go_at_call 73;refine A0.out.mono ?_;rintro _ K ⟨rfl,M,Ad,Ae,A7,AN⟩;have X:=yH Ad;have At:=yH Ae;have A8:=yH A7;have g:=yH AN;clear Ad Ae A7 AN))
 have G:=yH (show M.length=n from X.out.length_eq.trans J.out.symm)
 have R5:=yH ((g.out.only.block _ (yL R4.out) (by have:=A.out;have:=E.out;have:=(yL R3.out);omega)).trans R4.out)
 have B8:=yH ((g.out.only.block _ (yL u.out) (by have:=A.out;have:=AL.out;omega)).trans u.out)
 have AP:=yH (show ∀r∈M,r.Ok K from fun r B=>by
  have h:=O.out r (X.out.mem_iff.1 B)
  exact Nd.rw_keep (h.1.later B4.out) fun y hy hR=>g.out.only.block _ (rw_lt (h.1.later B4.out) y hy hR) (by have:=rw_lt h.1 y hy hR;have:=A.out;have:=E.out;omega))
 have AW:=x7a (some ⟨a,0,none⟩) n cc M K (by have h:=x8D A8.out AP.out (c:=cc) (by have h1:=G.out;have h2:=Ag.out;have h3:=J.out;omega);rw [G.out] at h;exact h) (by have:=f.out;omega)
 have AC:=yH AW
 have AD:=yH (y1i AA.out At.out)
 clear AW
 have i:=yH (show Only (fun k=>k=a) w4 K from g.out.only)
 have AS:=yH (show w.heap.size<w1.heap.size∧w1.heap.size<w3.heap.size from ⟨(yL R1.out),AL.out⟩)
 have U:=yH (show Only (fun k=>k=a) w K from (Only.of_below _ B4.out).trans i.out)
 by_cases hnd:(L.map Rw.R).Nodup
 ·have Y:=yH hnd
  have Ax:=yH (show ∀w',Below K.heap.size K w'→Calls Tryz.prog 59 #[.agg #[.pointer (some ⟨gs,0,none⟩),.int .i64 d],.slice (some ⟨a,0,none⟩) n cc,.int .i64 0] w' (x29 w' gs Q s a 0 M 0) from fun w' I=>by
   have Ao:PL K gs Q s:=(HP.out.keep _ (U.out) (fun k hk e=>by have:=HP.out.lt k hk;have:=A.out;have:=E.out;omega))
   have h:=y1g (gs:=gs) AB.out n M (some ⟨a,0,none⟩) cc 0 a 0 w' Q s (by have:=G.out;omega) (fun _=>rfl) (by have h1:=G.out;have h2:=Ag.out;have h3:=J.out;omega) (A8.out.later I (by have:=A.out.2;have:=i.out.size;omega)) (fun r B=>by
    have h:=O.out r (X.out.mem_iff.1 B)
    refine ⟨(AP.out r B).later I,h.2,fun y hy hR=>by have:=rw_lt h.1 y hy hR;have:=A.out;have:=E.out;omega,Au.out r (X.out.mem_iff.1 B)⟩) (Ao.keep (fun _=>False) (Only.of_below _ I) (fun _ _ e=>e)) (by have:=A.out.2;have:=i.out.size;have:=I.size;omega) (fun e=>by have:=HP.out.lt _ e;have:=A.out;have:=E.out;omega) (by have:=G.out;have:=f.out;omega) (by have:=G.out;have:=f.out;omega)
   rw [G.out] at h
   exact h)
  have AG:lay (M.map Rw.R) 0=lay (L.map Rw.R) 0:=(y31 AA.out (X.out.map Rw.R).symm).symm
  have Af:=yH AG
  clear hnd AG
  go_wp2_with (first
   | (go_at_call 77;refine AC.out.mono ?_;rintro _ w6 ⟨tb,rfl,P,jj,Z⟩;obtain rfl:tb=false:=(by rw [Bool.eq_false_iff];intro h;exact AD.out.1 (P.1 h) Y.out);have l:=yH (show Below K.heap.size K w6 from by rw [Z];exact Below.drewN (Below.refl _ _) _);have R6:=yH (yK l.out R5.out);have Ap:=yH (x09 (yK l.out B8.out));have B9:=yH (Ax.out w6 l.out);clear P Z)
   | (refine wpList_load_mid (by rfl) 91 (.tmp 8) (by rfl) w1.heap.size 0 (by rfl) [.pointer (some ⟨gs,0,none⟩),.int .i64 d] du Ap.out A2.out A1.out STr ?_)
   | (go_at_call 59;refine B9.out.mono ?_;rintro _ w7 ⟨kd,Q7,rfl,AY,v,AE,AT,t⟩;have Av:=yH AY;have C:=yH v;have AH:=yH AE;have An:=yH AT;have b:=yH t;have q:=yH (Kd.cells_length v.len);have R7:=yH ((t.only.block _ (yL R6.out) (fun e=>e.elim (fun e=>by have:=HP.out.lt _ e;omega) (fun e=>by have:=A.out;have:=AS.out;omega))).trans R6.out);clear AY v AE AT t)
   | (refine wpList_store_row (by rfl) 34 _ _ (by rfl) w.heap.size kd.cells.toArray (by rfl) (by rfl) _ _ R7.out (by rw [List.size_toArray,q.out];exact SKd) (by simp only [List.size_toArray,q.out,x01]) (all_oneCell_toArray Kd.one) ?_))
  refine x0F 6 7 (by kernel_rfl) w.heap.size _ kd.cells.toArray _ AZ.out o.out (by rw [List.size_toArray,q.out];exact SKd) (by rfl) (by rfl) (setRow_heap _ _ _ _ _ _ R7.out) ?_
  have BO:=l.out.size
  have h4:=i.out.size
  have BU:=AS.out
  have j:=A.out
  have Az:=E.out
  have H:=x0C w7 w.heap.size kd.cells.toArray
  have BN:w.heap.size+1<w6.heap.size:=by omega
  have N:∀r∈kd.rows,r.Ok (w7.setRow w.heap.size kd.cells.toArray):=fun r B=>Nd.rw_keep (x05 C.out r B) (fun x hx hR=>H.block _ (rw_lt (x05 C.out r B) x hx hR) (by have:=AH.out r B x hx hR;omega))
  have Ar:¬Q7 w.heap.size:=fun e=>(b.out.new _ e).elim (fun e=>by have:=HP.out.lt _ e;omega) (fun e=>by omega)
  refine Or.inr ⟨Y.out,kd,Q7,rfl,by rw [Av.out,Af.out],⟨C.out.len,C.out.ok,N _ (by simp [Kd.rows]),N _ (by simp [Kd.rows]),N _ (by simp [Kd.rows]),C.out.live,C.out.size⟩,(fun r B x hx hR=>by have:=AH.out r B x hx hR;omega),An.out,?_,(fun k hk=>(b.out.new k hk).imp id (fun e=>by omega)),?_⟩
  ·rw [← Af.out]
   exact b.out.st.keep _ H (fun k hk e=>Ar (e▸hk))
  ·have hf:=U.out
   have I:=Only.of_below (fun k:Nat=>k=a) l.out
   have hl:=b.out.only
   refine ⟨H.os.trans (hl.os.trans (I.os.trans hf.os)),H.tape.trans (hl.tape.trans (I.tape.trans hf.tape)),H.output.trans (hl.output.trans (I.output.trans hf.output)),by have:=hf.size;have:=hl.size;have:=H.size;omega,fun k hk hn=>?_⟩
   have:=hf.size
   have:=hl.size
   rw [H.block k (by omega) (by omega),hl.block k (by omega) (fun e=>e.elim hn (fun e=>by omega)),I.block k (by omega) (by omega)]
   exact hf.block k hk (by omega)
 ·have Y:=yH hnd
  clear hnd
  go_wp2_with (first
   | (go_at_call 77;refine AC.out.mono ?_;rintro _ w6 ⟨tb,rfl,P,jj,Z⟩;obtain rfl:tb=true:=P.2 (AD.out.2 Y.out);have l:=yH (show Below K.heap.size K w6 from by rw [Z];exact Below.drewN (Below.refl _ _) _);have R6:=yH (yK l.out R5.out);clear P Z)
   | (refine x07 (by rfl) (by rfl) x0T ?_)
   | (refine wpList_store_row (by rfl) 34 _ _ (by rfl) w.heap.size kd0.cells.toArray (by rfl) (by rfl) _ _ R6.out (by rw [List.size_toArray,x01];exact SKd) rfl (all_oneCell_toArray Kd.one) ?_))
  refine x0F 6 7 (by kernel_rfl) w.heap.size _ kd0.cells.toArray _ AZ.out o.out (by rw [List.size_toArray,x01];exact SKd) (by rfl) (by rfl) (setRow_heap _ _ _ _ _ _ R6.out) ?_
  refine Or.inl ⟨Y.out,rfl,?_⟩
  have j:=A.out
  have Az:=E.out
  have AF:Below w.heap.size w K:=U.out.below (Nat.le_refl _) (fun k e=>by omega)
  exact (AF.trans (l.out.mono AF.size)).trans (Below.setRow (Below.refl _ _) (Nat.le_refl _) _)
theorem y1j (w:World):Calls Tryz.prog 76 #[.slice none 0 0] w fun e w'=>e= .returned (.slice none 0 0)∧w'=w:=by
 have A:∀w',(binOp .eql 51 (.slice none 0 0) (.slice none 0 0)).run Tryz.prog w'= .ok (.bool true) w':=fun w'=>Go.Lib.run_eql_slice_nil w' _ _ _ _ _ _ _ URSs
 go_enter Tryz.func76,Tryz.ntmps76
 go_wp2_with fail
 go_ret
 exact ⟨rfl,rfl⟩
theorem y1k {gs d:Nat} {Q:Nat→Prop} {s:Pg.S} (hd:1≤d∧d≤8) (w:World) (hp:PL w gs Q s):
  Calls Tryz.prog 32 #[.pointer (some ⟨gs,0,none⟩),.slice none 0 0,.int .i64 d] w (x20 w gs Q s []):=by
 have b1:Below w.heap.size w (w.alloc (.cells kd0.cells.toArray 34)):=(Below.refl _ _).alloc (Nat.le_refl _) _
 have r1:=heap_alloc_new w (.cells kd0.cells.toArray 34)
 have f:x2J d []=true:=by
  unfold x2J
  rw [decide_eq_true (by omega)]
  rfl
 have HT:=yH (fun w'=>x3S (some ⟨gs,0,none⟩) d none 0 0 [] w' (x6n w') (by omega))
 rw [f] at HT
 have y:=yH (fun w'=>x9R (some ⟨gs,0,none⟩) d 0 0 none w' (by omega) (by omega))
 have z:=yH (fun w'=>x7a none 0 0 [] w' (x6n w') (by omega))
 have v:=yH (fun w' (H:Below w.heap.size w w')=>x6m (gs:=gs) (Q:=Q) (s:=s) d none 0 0 gs 0 w' (hp.keep (fun _=>False) (Only.of_below _ H) (fun _ _ e=>e)) (Nat.lt_of_lt_of_le (by obtain ⟨_,_,h⟩:=hp;exact h.lt _ h.mine) H.size))
 have p:=yH hp
 have R1:=yH r1
 have B1:=yH b1
 obtain ⟨du,l,i⟩:=UTr
 obtain ⟨dk,c,G⟩:=UKd
 have O:=yH l
 have L:=yH i
 have A1:=yH c
 have m:=yH G
 have HZ:=yH (zero_of_info kz)
 have AO:=HZ.out.1
 clear f hp b1 r1 l i c G
 go_enter Tryz.func32,Tryz.ntmps32
 go_upto_region 1 with fail
 generalize w.alloc (.cells kd0.cells.toArray 34)=w1 at *
 go_upto_region 2 with (first
  | (refine x07 (cells:= #[.pointer (some ⟨gs,0,none⟩),.int .i64 d]) (by rfl) (by rfl) (by simp only [List.map_toArray,List.map_cons,List.map_nil];exact x3Z _ _) ?_)
  | (refine wpList_store_row (by rfl) 91 (.tmp 8) (.tmp 12) (by rfl) w1.heap.size #[.pointer (some ⟨gs,0,none⟩),.int .i64 d] (by rfl) (by rfl) _ _ (heap_alloc_new w1 _) STr rfl (x7X _ _) ?_;rw [x04]))
 have R:Below w1.heap.size w1 (w1.alloc (.cells #[.pointer (some ⟨gs,0,none⟩),.int .i64 d] 91)):=(Below.refl _ _).alloc (Nat.le_refl _) _
 have P:=heap_alloc_new w1 (.cells #[.pointer (some ⟨gs,0,none⟩),.int .i64 d] 91)
 generalize w1.alloc (.cells #[.pointer (some ⟨gs,0,none⟩),.int .i64 d] 91)=w2 at *
 have R2:=yH (x09 P)
 have AA:=yH P
 have A6:=yH (yK R R1.out)
 have B2:=yH (B1.out.trans (R.mono B1.out.size))
 clear R P
 go_upto_region 5 with (first
  | (refine x2B (by rfl) 91 (.tmp 8) (by rfl) w1.heap.size 0 (by rfl) [.pointer (some ⟨gs,0,none⟩),.int .i64 d] du R2.out O.out L.out STr ?_)
  | (go_at_call 72;refine (HT.out w2).mono ?_;rintro _ w3 ⟨rfl,o⟩;have B3:=yH (B2.out.trans (o.mono B2.out.size));have R3:=yH (yK o A6.out);have g:=yH (yK o AA.out);clear o)
  | (go_at_call 76;refine (y1j _).mono ?_;rintro e4 w4 ⟨rfl,rfl⟩))
 have A3:=yH (x09 g.out)
 go_upto_region 6 with (first
  | (refine wpList_load_mid (by rfl) 91 (.tmp 8) (by rfl) w1.heap.size 0 (by rfl) [.pointer (some ⟨gs,0,none⟩),.int .i64 d] du A3.out O.out L.out STr ?_)
  | (go_at_call 73;refine (y.out _).mono ?_;rintro _ w5 ⟨rfl,b5⟩;have t:=yH b5;clear b5))
 have W:=yH (B3.out.trans (t.out.mono B3.out.size))
 have R5:=yH (yK t.out R3.out)
 have AB:=yH (yK t.out g.out)
 go_wp2_with (first
  | (go_at_call 77;refine (z.out _).mono ?_;rintro _ q ⟨tb,rfl,Z,jj,X⟩;obtain rfl:tb=false:=(by rw [Bool.eq_false_iff];intro h;obtain ⟨j,hj,_⟩:=Z.1 h;simp at hj);have B6:=yH (show Below w5.heap.size w5 q from by rw [X];exact Below.drewN (Below.refl _ _) _);have R6:=yH (yK B6.out R5.out);have A8:=yH (x09 (yK B6.out AB.out));have I:=yH (W.out.trans (B6.out.mono W.out.size));have AD:=yH (v.out q I.out);clear Z X)
  | (refine wpList_load_mid (by rfl) 91 (.tmp 8) (by rfl) w1.heap.size 0 (by rfl) [.pointer (some ⟨gs,0,none⟩),.int .i64 d] du A8.out O.out L.out STr ?_)
  | (go_at_call 59;refine AD.out.mono ?_;rintro _ w7 ⟨U,Q7,rfl,Y,M,a,n,K⟩;have u:=yH Y;have A:=yH M;have b:=yH a;have A5:=yH n;have E:=yH K;have J:=yH (Kd.cells_length M.len);have R7:=yH ((K.only.block _ (yL R6.out) (fun e=>e.elim (fun e=>by have:=p.out.lt _ e;omega) (fun e=>by have N:gs<w.heap.size:=(by obtain ⟨_,_,h⟩:=p.out;exact h.lt _ h.mine);omega))).trans R6.out);clear Y M a n K)
  | (refine wpList_store_row (by rfl) 34 _ _ (by rfl) w.heap.size U.cells.toArray (by rfl) (by rfl) _ _ R7.out (by rw [List.size_toArray,J.out];exact SKd) (by simp only [List.size_toArray,J.out,x01]) (all_oneCell_toArray Kd.one) ?_))
 refine x0F 6 7 (by kernel_rfl) w.heap.size _ U.cells.toArray _ A1.out m.out (by rw [List.size_toArray,J.out];exact SKd) (by rfl) (by rfl) (setRow_heap _ _ _ _ _ _ R7.out) ?_
 have AT:=I.out.size
 have AR:w.heap.size<q.heap.size:=(yL R6.out)
 have A7:Q gs∧gs<w.heap.size:=by obtain ⟨_,_,h⟩:=p.out;exact ⟨h.mine,h.lt _ h.mine⟩
 have B:=x0C w7 w.heap.size U.cells.toArray
 have C:∀r∈U.rows,r.Ok (w7.setRow w.heap.size U.cells.toArray):=fun r hr=>Nd.rw_keep (x05 A.out r hr) (fun x hx hR=>B.block _ (rw_lt (x05 A.out r hr) x hx hR) (by have:=b.out r hr x hx hR;omega))
 have AC:¬Q7 w.heap.size:=fun e=>(E.out.new _ e).elim (fun e=>by have:=p.out.lt _ e;omega) (fun e=>by omega)
 refine Or.inr ⟨List.nodup_nil,U,Q7,rfl,u.out,⟨A.out.len,A.out.ok,C _ (by simp [Kd.rows]),C _ (by simp [Kd.rows]),C _ (by simp [Kd.rows]),A.out.live,A.out.size⟩,(fun r hr x hx hR=>by have:=b.out r hr x hx hR;omega),A5.out,E.out.st.keep _ B (fun k hk e=>AC (e▸hk)),(fun k hk=>(E.out.new k hk).imp id (fun e=>by omega)),?_⟩
 have H:=Only.of_below Q I.out
 have N:=E.out.only
 refine ⟨B.os.trans (N.os.trans H.os),B.tape.trans (N.tape.trans H.tape),B.output.trans (N.output.trans H.output),by have:=N.size;have:=B.size;omega,fun k hk hn=>?_⟩
 have:=N.size
 rw [B.block k (by omega) (by omega),N.block k (by omega) (fun e=>e.elim hn (fun e=>hn (e▸A7.1)))]
 exact H.block k hk hn
theorem x3c {d:Nat} {W:Pages}:∀ {u:V},Sees W d u→∀y∈u.rows,y.length=d
 | .nil,_,y,hy=>by cases hy
 | .bad _,_,y,hy=>by cases hy
 | .fork p v l r,h,y,hy=>by
  have hy:y∈(if v then [p] else [])++(l.rows++r.rows):=hy
  rcases List.mem_append.1 hy with hy | hy
  ·have hp:=(x1g h.1.right).2.2.1 ⟨p,v⟩ (by simp [forkN])
   have hy:y=p:=by cases v<;>simp at hy;exact hy
   rw [hy]
   simp only at hp
   omega
  ·rcases List.mem_append.1 hy with hy | hy
   ·exact x3c h.2.2.1 y hy
   ·exact x3c h.2.2.2 y hy
end Go.Proofs.YtinihaflmdihaaaGreat.Kt
