/- ShaWrite, ShaWriteA, ShaWriteC, ShaWriteD. -/
import Derived.Deep.RegionLaw
import Derived.Test.YtenenciaggbjnaaGreatP13
set_option maxRecDepth 100000
set_option maxHeartbeats 8000000
set_option linter.all false
namespace Go.Proofs.YtenenciaggbjnaaGreat
section
open Go.RowKit
theorem A36:(Tryz.prog.info? 359).map (·.size)=some 73:=by kernel_rfl
theorem x4b (l:List Nat):∀v∈w32 l,v.oneCell'=true:=by
 intro u hu;simp only [w32,kJ] at hu;obtain ⟨x,_,rfl⟩:=hu;rfl
theorem y1A (v:Sm.V8) (bl:List Nat) (L:Nat) (h:bl.length=64):(stL v bl L).length=73:=by simp [stL,w32,vals,Sm.V8.list,h]
theorem y0O {w:World} {g:Nat} {v:Sm.V8} {bl:List Nat} {L:Nat} (hg:w.heap[g]? =some (.cells (stL v bl L).toArray 359 (0,0))):w.rangeAt g 0 (w32 v.list):=
 x3b [] (w32 v.list) (vals bl++[.int .u64 (L:Nat)]) (by simpa [stL] using hg)
theorem y4N {w:World} {g:Nat} {v:Sm.V8} {bl:List Nat} {L:Nat} (hg:w.heap[g]? =some (.cells (stL v bl L).toArray 359 (0,0))) (_h:bl.length=64):w.there g 0 8:=
 x5T hg 0 8 (by simp [stL,w32,vals,Sm.V8.list])
theorem x6z {w:World} {g:Nat} {v:Sm.V8} {bl:List Nat} {L:Nat} (hg:w.heap[g]? =some (.cells (stL v bl L).toArray 359 (0,0))) (h:bl.length=64):w.cell? ⟨g,72,none⟩=some (.int .u64 (L:Nat)):=by
 have:=x3b (w32 v.list++vals bl) [.int .u64 (L:Nat)] [] (by simpa [stL] using hg) 0 _ rfl;have e:(w32 v.list++vals bl).length=72:=by simp [w32,vals,Sm.V8.list,h]
 rw [e] at this;exact this
theorem x3G {w:World} {g:Nat} {v:Sm.V8} {bl:List Nat} {L:Nat} (hg:w.heap[g]? =some (.cells (stL v bl L).toArray 359 (0,0))) (h:bl.length=64) (L':Nat):
  (w.setCell ⟨g,72,none⟩ (.int .u64 (L':Nat))).heap[g]? =some (.cells (stL v bl L').toArray 359 (0,0)):=by
 have e:(w32 v.list++vals bl).length=72:=by simp [w32,vals,Sm.V8.list,h]
 have:=x0R g 359 [.int .u64 (L':Nat)] (w32 v.list++vals bl) [.int .u64 (L:Nat)] [] w (by simpa [stL] using hg) rfl;rw [e] at this
 simpa [World.setCells,stL] using this
theorem x53 {w:World} {g:Nat} {v:Sm.V8} {bl:List Nat} {L:Nat} (hg:w.heap[g]? =some (.cells (stL v bl L).toArray 359 (0,0))) (u:Sm.V8):
  (w.setCells g 0 (w32 u.list)).heap[g]? =some (.cells (stL u bl L).toArray 359 (0,0)):=by
 have:=x0R g 359 (w32 u.list) [] (w32 v.list) (vals bl++[.int .u64 (L:Nat)]) w (by simpa [stL] using hg) rfl
 simpa [stL] using this
structure Mid (w W:World) (g:Nat) (v:Sm.V8) (bl:List Nat) (L:Nat) (p:Option Addr) (len cap:Nat) (B:List Nat):Prop where
 row:W.heap[g]? =some (.cells (stL v bl L).toArray 359 (0,0))
 size:bl.length=64
 bytes:Bytes W p len cap B
 ne:B≠[]->∀a,p=some a->a.block≠g
 grown:w.grownBy W (some g)
theorem x04 {w:World} {g:Nat} {v:Sm.V8} {bl:List Nat} {L:Nat} (hg:w.heap[g]? =some (.cells (stL v bl L).toArray 359 (0,0))) (i:Nat) (hi:i<8):w.cell? ⟨g,i,none⟩=some (.int .u32 (v.list.getD i 0:Nat)):=by
 have:=y0O hg i (.int .u32 (v.list.getD i 0:Nat)) (by
  have h:=x7i v.list i (by simpa [Sm.V8.list] using hi);rw [<- x5w] at h
  simpa using h)
 simpa using this
theorem Mid.later {w W W':World} {g:Nat} {v:Sm.V8} {bl:List Nat} {L:Nat} {p:Option Addr} {len cap:Nat} {B:List Nat} (h:Mid w W g v bl L p len cap B) (hb:Below W.heap.size W W'):Mid w W' g v bl L p len cap B:=
 ⟨(hb.block _ (yL h.row)).trans h.row,h.size,h.bytes.later hb h.bytes.lt,h.ne,x93 h.grown hb⟩
theorem Mid.words {w W:World} {g:Nat} {v:Sm.V8} {bl:List Nat} {L:Nat} {p:Option Addr} {len cap:Nat} {B:List Nat} (h:Mid w W g v bl L p len cap B) (u:Sm.V8):Mid w (W.setCells g 0 (w32 u.list)) g u bl L p len cap B:=
 ⟨x53 h.row u,h.size,h.bytes.grown ⟨(x0S g _ 0 W).2.1,(x0S g _ 0 W).2.2.1,(x0S g _ 0 W).2.2.2,by rw [(x0S g _ 0 W).1];exact jB _,fun k _ hne=>x0X g _ 0 W k (by intro e;exact hne (by rw [e]))⟩ h.ne,h.ne,x0M h.grown 0 _⟩
theorem x1W {W:World} {g:Nat} {v:Sm.V8} {bl:List Nat} {L:Nat} (hg:W.heap[g]? =some (.cells (stL v bl L).toArray 359 (0,0))) (h:bl.length=64) (u:Sm.V8):
  (storeCells ⟨g,0,none⟩ (u32s u.list).toList).run Tryz.prog W= .ok () (W.setCells g 0 (w32 u.list)):=by
 have A:=y4N hg h;have:=run_storeCells_cells (P:=Tryz.prog) g 0 (w32 u.list) 0 W (fun j hj=>by simpa using (A j (by simpa [w32,Sm.V8.list] using hj)).1) (fun j hj=>by simpa using (A j (by simpa [w32,Sm.V8.list] using hj)).2) (x4b u.list);exact this
theorem x9O {w W:World} {g:Nat} {v:Sm.V8} {bl:List Nat} {L gb ob len cap:Nat} {B:List Nat} (h:Mid w W g v bl L (some ⟨gb,ob,none⟩) len cap B) (F:Nat) (hF:len - F<=64) (_hc:F<cap):
  (Builtin.copy_ #[45,45] 3 #[.slice (some ⟨g,8,none⟩) 64 64,.slice (some ⟨gb,ob+F,none⟩) (len - F) (cap - F)]).run Tryz.prog W.drew= .ok (goInt (len - F:Nat)) (W.drew.setCells g 8 (vals (B.drop F))):=by
 have M:=h.bytes.size;have G:=x5T h.row 8 64 (by simp [stL,w32,vals,Sm.V8.list,h.size]);have E:(vals (B.drop F)).length=len - F:=by simp [vals];omega
 have C:∀j u,(vals (B.drop F))[j]? =some u->W.drew.cell? ((⟨gb,ob+F,none⟩:Addr).add j)=some u:=fun j u hu=>by
  have A:j<(B.drop F).length:=by have:=(List.getElem?_eq_some_iff.1 hu).1;simpa [vals] using this
  obtain ⟨J,I,K,H⟩:=h.bytes.ne (by intro e;rw [e] at A;simp at A);obtain ⟨rfl,rfl⟩:gb=J/\ob=I:=by simpa using K
  rw [x1u _ _ A] at hu;rw [Addr.add_mid,World.cell?_drew,H.drop F j A,hu]
 have:=run_copy_cells (P:=Tryz.prog) W.drew 45 45 3 5 g 8 64 64 ⟨gb,ob+F,none⟩ (len - F) (cap - F) (vals (B.drop F)) A22 E5 (by rw [E];exact (Nat.min_eq_left hF).symm) C
  (fun j A=>by have:=(G j (by omega)).1;simpa using this) (fun j A=>by have:=(G j (by omega)).2;simpa using this) (x0L _)
 rw [E] at this;exact this
def Start (T:List Nat) (v:Sm.V8):Prop:=v.ok/\T.length%64=0/\v=Sm.blocks T Sm.first (T.length/64)
theorem Held.next {T B bl:List Nat} {v U:Sm.V8} {len F:Nat} (hs:Start T v) (hT:Sm.allB T) (hB:Sm.allB B) (hl:(T++B).length<1152921504606846976) (hlen:len=B.length) (hF:F=len - len%64)
  (hU:U=Sm.blocks (B.take F) v ((B.take F).length/64)) (hb:bl.length=64) (hbo:Sm.allB bl):Held (T++B) U (B.drop F++bl.drop (len - F)):=by
 obtain ⟨I,K,E⟩:=hs;have J:(B.take F).length/64=len/64:=by simp;omega
 have A:U=Sm.blocks B v (len/64):=by rw [hU,J];exact Sm.blocks_take B v _ F (by omega)
 have H:T.length=64*(T.length/64):=by omega
 have C:(T++B).length/64=T.length/64+len/64:=by simp;omega
 refine ⟨?_,?_,hl,fun _=>?_,by simp [hb];omega,?_,?_⟩
 ·intro x hx;rcases jP.1 hx with h | h
  ·exact hT x h
  ·exact hB x h
 ·rw [hU];exact Sm.blocks_ok I _
 ·rw [C,Sm.blocks_add T B Sm.first _ _ H,<- E,A]
 ·intro x hx;rcases jP.1 hx with h | h
  ·exact hB x (List.mem_of_mem_drop h)
  ·exact hbo x (List.mem_of_mem_drop h)
 ·have G:(T++B).length%64=(B.drop F).length:=by simp;omega
  rw [G,List.take_left,C];rw [show 64*(T.length/64+len/64)=T.length+F from by omega,<- List.drop_drop,List.drop_left]
theorem x1T {W:World} {g:Nat} {v:Sm.V8} {bl:List Nat} {L:Nat} (hg:W.heap[g]? =some (.cells (stL v bl L).toArray 359 (0,0))) (h:bl.length=64) (o:Nat) (X:List Nat) (hX:o+X.length<=64):
  (W.setCells g (8+o) (vals X)).heap[g]? =some (.cells (stL v (bl.take o++X++bl.drop (o+X.length)) L).toArray 359 (0,0)):=by
 have e:bl=bl.take o++((bl.drop o).take X.length++bl.drop (o+X.length)):=by
  rw [<- List.drop_drop,List.take_append_drop,List.take_append_drop]
 have A:W.heap[g]? =some (.cells ((w32 v.list++vals (bl.take o))++vals ((bl.drop o).take X.length)++(vals (bl.drop (o+X.length))++[Value.int .u64 (L:Nat)])).toArray 359 (0,0)):=by
  rw [hg]
  congr 3
  conv=>lhs;rw [stL,e]
  simp [vals]
 have B:(w32 v.list++vals (bl.take o)).length=8+o:=by simp [w32,vals,Sm.V8.list,h];omega
 have:=x0R g 359 (vals X) _ _ _ W A (by simp [vals,h];omega);rw [B] at this;rw [this];simp [stL,vals]
theorem A33:Tryz.prog.underlying 357=some (.array 64 5):=by kernel_rfl
theorem x5x (g r:Nat) (h:r<64) (w:World):(Instr.sliceAt 357 (.pointer (some ⟨g,8,none⟩)) (some (.int .i64 (r:Int))) none none).run Tryz.prog w= .ok (.slice (some ⟨g,8+r,none⟩) (64 - r) (64 - r)) w:=by
 have A:Tryz.prog.arrayLen 357=64:=by simp [Program.arrayLen]
 have E:Tryz.prog.elem 357=5:=by simp [Program.elem]
 have H:=run_sliceAt_array_l (P:=Tryz.prog) w 357 ⟨g,8,none⟩ (by rw [A,E];exact A33) .i64 r (by omega) (by rw [A];omega);obtain ⟨J,I,_,B,_⟩:=info_parts I5;have G:(sizeOf 5).run Tryz.prog w= .ok 1 w:=by simp [sizeOf,typeInfo,I,B]
 rw [H,A,E,G];have C:¬(64=r):=by omega
 simp [slicedAt,C,Addr.add_mid]
theorem x70 {W:World} {g:Nat} {v:Sm.V8} {bl:List Nat} {L gb ob len cap:Nat} {B:List Nat} (hg:W.heap[g]? =some (.cells (stL v bl L).toArray 359 (0,0))) (hb:bl.length=64)
  (h:Bytes W (some ⟨gb,ob,none⟩) len cap B) (r n:Nat) (hr:r<64) (hn:n=Nat.min len (64 - r)):
  (Builtin.copy_ #[45,45] 3 #[.slice (some ⟨g,8+r,none⟩) (64 - r) (64 - r),.slice (some ⟨gb,ob,none⟩) len cap]).run Tryz.prog W= .ok (goInt (n:Nat)) (W.setCells g (8+r) (vals (B.take n))):=by
 have O:=h.size;have H:n<=len:=by rw [hn];exact Nat.min_le_left _ _
 have N:n<=64 - r:=by rw [hn];exact Nat.min_le_right _ _
 have G:=x5T hg 8 64 (by simp [stL,w32,vals,Sm.V8.list,hb]);have E:(vals (B.take n)).length=n:=by simp [vals];omega
 have C:∀j u,(vals (B.take n))[j]? =some u->W.cell? ((⟨gb,ob,none⟩:Addr).add j)=some u:=fun j u hu=>by
  have A:j<(B.take n).length:=by have:=(List.getElem?_eq_some_iff.1 hu).1;simpa [vals] using this
  obtain ⟨K,J,M,I⟩:=h.ne (by intro e;rw [e] at A;simp at A);obtain ⟨rfl,rfl⟩:gb=K/\ob=J:=by simpa using M
  rw [x1u _ _ A] at hu;rw [Addr.add_mid,I.take n j A,hu]
 have:=run_copy_cells (P:=Tryz.prog) W 45 45 3 5 g (8+r) (64 - r) (64 - r) ⟨gb,ob,none⟩ len cap (vals (B.take n)) A22 E5 (by rw [E];exact hn) C
  (fun j A=>by have:=(G (r+j) (by omega)).1;rw [Nat.add_assoc];exact this) (fun j A=>by have:=(G (r+j) (by omega)).2;rw [Nat.add_assoc];exact this) (x0L _)
 rw [E] at this;exact this
theorem Held.small {T B bl:List Nat} {v:Sm.V8} {r:Nat} (h:Held T v bl) (hr:T.length%64=r) (hr0:0<r) (hs:r+B.length<64) (hB:Sm.allB B) (hl:(T++B).length<1152921504606846976):
  Held (T++B) v (bl.take r++B++bl.drop (r+B.length)):=by
 have E:=h.size;have G:T≠[]:=by rintro rfl;simp at hr;omega
 have C:(T++B).length/64=T.length/64:=by simp;omega
 refine ⟨?_,h.vok,hl,fun _=>?_,by simp [E];omega,?_,?_⟩
 ·intro x A;rcases jP.1 A with A | A
  ·exact h.ok x A
  ·exact hB x A
 ·rw [C,Sm.blocks_app T B _ _ (by omega)];exact h.words G
 ·intro x A;rcases jP.1 A with A | A
  ·rcases jP.1 A with A | A
   ·exact h.bok x (List.mem_of_mem_take A)
   ·exact hB x A
  ·exact h.bok x (List.mem_of_mem_drop A)
 ·have H:(T++B).length%64=(bl.take r++B).length:=by simp [E];omega
  rw [H,List.take_left,C,List.drop_append_of_le_length (by omega),<- h.block,hr]
theorem Start.block {T B bl:List Nat} {v:Sm.V8} {r m:Nat} (h:Held T v bl) (hr:T.length%64=r) (hr0:0<r) (hm:r+m=64) (hmB:m<=B.length):
  Start (T++B.take m) (Sm.blocks (bl.take r++B.take m) v 1):=by
 have E:T≠[]:=by rintro rfl;simp at hr;omega
 have A:(T++B.take m).length=64*(T.length/64+1):=by simp;omega
 refine ⟨Sm.blocks_ok h.vok _,by omega,?_⟩;have C:(T++B.take m).length/64=T.length/64+1:=by omega
 have G:Sm.blocks (T++B.take m) Sm.first (T.length/64+1)=Sm.turn Sm.ks (Sm.sched ((T++B.take m).drop (64*(T.length/64)))) (Sm.blocks (T++B.take m) Sm.first (T.length/64)):=rfl;have H:Sm.blocks (bl.take r++B.take m) v 1=Sm.turn Sm.ks (Sm.sched (bl.take r++B.take m)) v:=rfl;rw [C,G,H,Sm.blocks_app T _ _ _ (by omega),<- h.words E,List.drop_append_of_le_length (by omega),<- h.block,hr]
theorem Bytes.block {W:World} {g:Nat} {v:Sm.V8} {bl:List Nat} {L:Nat} (hg:W.heap[g]? =some (.cells (stL v bl L).toArray 359 (0,0))) (hb:bl.length=64) (hbo:Sm.allB bl):Bytes W (some ⟨g,8,none⟩) 64 64 bl:=by
 refine ⟨hb.symm,jB _,hbo,Or.inr ⟨g,8,rfl,fun i hi=>?_⟩⟩;have A:=x3b (w32 v.list) (vals bl) [.int .u64 (L:Nat)] (by simpa [stL] using hg) i _ (x1u bl i hi);have e:(w32 v.list).length=8:=rfl;rw [e] at A;exact A
theorem y6K (T B:List Nat) (g:Nat) (p:Option Addr) (len cap:Nat) (w:World) (hT:T≠[]) (hm:T.length%64=0) (v:Sm.V8) (bl:List Nat) (hh:Held T v bl)
  (hg:w.heap[g]? =some (.cells (stL v bl T.length).toArray 359 (0,0)))
  (hB:Bytes w p len cap B) (hn:B≠[]->∀a,p=some a->a.block≠g) (hl:(T++B).length<1152921504606846976):
  Calls Tryz.prog 301 #[.pointer (some ⟨g,0,none⟩),.slice p len cap] w fun e w'=>e= .returned (.tuple #[])/\StateAt w' g (T++B)/\w.grownBy w' (some g):=by
 have A3:((T.length:Int)==0)=false:=by
  have:=kP.2 hT;simp;omega
 have A0:(T.length:Int)%64=0:=by omega
 have y:w.cell? ⟨g,72,none⟩=some (.int .u64 (T.length:Nat)):=x6z hg hh.size;have AE:w.frozen? ⟨g,72,none⟩=false:=jS w g _ _ _ hg;obtain ⟨N,hN⟩:∃N,N=T.length:=⟨_,rfl⟩
 rw [<- hN] at y A3 A0;have q:=hB.size;have AQ:N+len<1152921504606846976:=by simp at hl;omega
 have X:=yH (show (T++B).length=N+len from by simp;omega);have HG:=yH hg;have R:=yH hh.ok;have Y:=yH hh.bok;have A5:=yH hh.size;have l:=yH hh.vok;have HS:=yH (show Start T v from ⟨hh.vok,hm,hh.words hT⟩);have HB:=yH hB;have HN:=yH hN;clear hg hh hB hN q
 go_enter Tryz.func301,Tryz.ntmps301
 go_wp2_with fail
 rw [show (N:Int)+(len:Int)=((N+len:Nat):Int) from by omega];generalize hW1:w.setCell ⟨g,72,none⟩ (.int .u64 ((N+len:Nat):Int))=W1;have hM:Mid w W1 g v bl (N+len) p len cap B:=by
  subst hW1;have hg:=HG.out;rw [<- HN.out] at hg;exact ⟨x3G hg A5 _,A5.out,HB.grown (x0H _ _ _ _) hn,hn,x0H _ _ _ _⟩
 have C:=yH hM;clear hW1 hM HG HB y AE A3 A0;obtain ⟨F,hF⟩:∃F,F=len - len%64:=⟨_,rfl⟩
 rw [show (len:Int) - (len:Int)%64=(F:Int) from by omega];have Z:F<=len:=by omega
 have i:F%64=0:=by omega
 have HF:=yH hF;have t:=yH i;clear hF i;rcases C.bytes.at' with hc | ⟨gb,ob,hp,hx⟩
 ·subst hc;cases p with
  | none=>
   obtain rfl:len=0:=by have:=C.bytes.le;omega
   obtain rfl:F=0:=by omega
   obtain ⟨U,Q⟩:∃U,U=Sm.blocks (B.take 0) v ((B.take 0).length/64):=⟨_,rfl⟩
   have K:=x2J v l (B.take 0) none 0 0 W1.drew ((C.bytes.take 0 Z).heap rfl) (by simp);rw [show ((0:Nat):Int)=0 from rfl];rw [<- Q] at K;have M:=yH K;have o:=yH Q;clear K Q;obtain ⟨a,b,c,d,e,f,h,k⟩:=v;have s:W1.cell? ⟨g,0,none⟩=some (.int .u32 a):=x04 C.row 0 (by omega);have c1:W1.cell? ⟨g,1,none⟩=some (.int .u32 b):=x04 C.row 1 (by omega);have c2:W1.cell? ⟨g,2,none⟩=some (.int .u32 c):=x04 C.row 2 (by omega);have z:W1.cell? ⟨g,3,none⟩=some (.int .u32 d):=x04 C.row 3 (by omega);have c4:W1.cell? ⟨g,4,none⟩=some (.int .u32 e):=x04 C.row 4 (by omega);have c5:W1.cell? ⟨g,5,none⟩=some (.int .u32 f):=x04 C.row 5 (by omega);have u:W1.cell? ⟨g,6,none⟩=some (.int .u32 h):=x04 C.row 6 (by omega);have c7:W1.cell? ⟨g,7,none⟩=some (.int .u32 k):=x04 C.row 7 (by omega)
   go_region_law ((go_simp;go_at_call 327;refine M.mono ?_;rintro _ w4 ⟨rfl,G⟩;have I:=yH (C.later (x1g G rfl rfl rfl rfl));clear G;have H:=x1W I.row I.size U;have O:=size8 U))
   generalize hW5:w4.setCells g 0 (w32 U.list)=W5;have J:=I.words U;rw [hW5] at J;have A:=yH J;clear hW5 J H O I s c1 c2 z c4 c5 u c7;go_wp2_with fail
   have m:=run_copy_none (P:=Tryz.prog) W5.drew 45 45 3 5 (some ⟨g,8,none⟩) none 64 64 0 0 A22 E5 (by rfl)
   go_still_tail 7,(by kernel_rfl)
   go_wp2_with fail
   go_end0
   have E:=Held.next HS.out R A.bytes.ok hl A.bytes.size (show 0=0 - 0%64 from rfl) o A.size Y;have e1:B.drop 0=[]:=List.drop_eq_nil_of_le (by have:=A.bytes.size;omega);rw [e1,Nat.sub_self,List.drop_zero,kV] at E;refine ⟨rfl,⟨U,bl,E,?_⟩,?_⟩
   ·have L:=X.out;(try simp only [kV] at L);rw [L];exact A.row
   ·exact ⟨A.grown.os,A.grown.tape,A.grown.output,A.grown.size,A.grown.block⟩
  | some x=>
   obtain rfl:len=0:=by have:=C.bytes.le;omega
   obtain rfl:F=0:=by omega
   obtain ⟨U,Q⟩:∃U,U=Sm.blocks (B.take 0) v ((B.take 0).length/64):=⟨_,rfl⟩
   have K:=x2J v l (B.take 0) (some x) 0 0 W1.drew ((C.bytes.take 0 Z).heap rfl) (by simp);rw [show ((0:Nat):Int)=0 from rfl];rw [<- Q] at K;have M:=yH K;have o:=yH Q;clear K Q;obtain ⟨a,b,c,d,e,f,h,k⟩:=v;have s:W1.cell? ⟨g,0,none⟩=some (.int .u32 a):=x04 C.row 0 (by omega);have c1:W1.cell? ⟨g,1,none⟩=some (.int .u32 b):=x04 C.row 1 (by omega);have c2:W1.cell? ⟨g,2,none⟩=some (.int .u32 c):=x04 C.row 2 (by omega);have z:W1.cell? ⟨g,3,none⟩=some (.int .u32 d):=x04 C.row 3 (by omega);have c4:W1.cell? ⟨g,4,none⟩=some (.int .u32 e):=x04 C.row 4 (by omega);have c5:W1.cell? ⟨g,5,none⟩=some (.int .u32 f):=x04 C.row 5 (by omega);have u:W1.cell? ⟨g,6,none⟩=some (.int .u32 h):=x04 C.row 6 (by omega);have c7:W1.cell? ⟨g,7,none⟩=some (.int .u32 k):=x04 C.row 7 (by omega)
   go_region_law ((go_simp;go_at_call 327;refine M.mono ?_;rintro _ w4 ⟨rfl,G⟩;have I:=yH (C.later (x1g G rfl rfl rfl rfl));clear G;have H:=x1W I.row I.size U;have O:=size8 U))
   generalize hW5:w4.setCells g 0 (w32 U.list)=W5;have J:=I.words U;rw [hW5] at J;have A:=yH J;clear hW5 J H O I s c1 c2 z c4 c5 u c7;go_wp2_with fail
   have m:=run_copy_none (P:=Tryz.prog) W5.drew 45 45 3 5 (some ⟨g,8,none⟩) (some x) 64 64 0 0 A22 E5 (by rfl)
   go_still_tail 7,(by kernel_rfl)
   go_wp2_with fail
   go_end0
   have E:=Held.next HS.out R A.bytes.ok hl A.bytes.size (show 0=0 - 0%64 from rfl) o A.size Y;have e1:B.drop 0=[]:=List.drop_eq_nil_of_le (by have:=A.bytes.size;omega);rw [e1,Nat.sub_self,List.drop_zero,kV] at E;refine ⟨rfl,⟨U,bl,E,?_⟩,?_⟩
   ·have L:=X.out;(try simp only [kV] at L);rw [L];exact A.row
   ·exact ⟨A.grown.os,A.grown.tape,A.grown.output,A.grown.size,A.grown.block⟩
 ·subst hp;clear hx;have r:=C.bytes.le;have a1:(0:Int)<=F/\(F:Int)<=cap:=by omega
  obtain ⟨U,Q⟩:∃U,U=Sm.blocks (B.take F) v ((B.take F).length/64):=⟨_,rfl⟩
  have K:=x2J v l (B.take F) (some ⟨gb,ob,none⟩) F cap W1.drew ((C.bytes.take F Z).heap rfl) (by have:=t.out;have:=C.bytes.size;simp;omega);rw [<- Q] at K;have M:=yH K;have o:=yH Q;clear K Q;obtain ⟨a,b,c,d,e,f,h,k⟩:=v;have s:W1.cell? ⟨g,0,none⟩=some (.int .u32 a):=x04 C.row 0 (by omega);have c1:W1.cell? ⟨g,1,none⟩=some (.int .u32 b):=x04 C.row 1 (by omega);have c2:W1.cell? ⟨g,2,none⟩=some (.int .u32 c):=x04 C.row 2 (by omega);have z:W1.cell? ⟨g,3,none⟩=some (.int .u32 d):=x04 C.row 3 (by omega);have c4:W1.cell? ⟨g,4,none⟩=some (.int .u32 e):=x04 C.row 4 (by omega);have c5:W1.cell? ⟨g,5,none⟩=some (.int .u32 f):=x04 C.row 5 (by omega);have u:W1.cell? ⟨g,6,none⟩=some (.int .u32 h):=x04 C.row 6 (by omega);have c7:W1.cell? ⟨g,7,none⟩=some (.int .u32 k):=x04 C.row 7 (by omega)
  go_region_law ((go_simp;go_at_call 327;refine M.mono ?_;rintro _ w4 ⟨rfl,G⟩;have I:=yH (C.later (x1g G rfl rfl rfl rfl));clear G;have H:=x1W I.row I.size U;have O:=size8 U))
  generalize hW5:w4.setCells g 0 (w32 U.list)=W5;have J:=I.words U;rw [hW5] at J;have A:=yH J;clear hW5 J H O I s c1 c2 z c4 c5 u c7;go_wp2_with fail
  rcases Nat.lt_or_eq_of_le (jJ Z r) with n | n
  ·have m:=x9O A.out F (by have:=HF.out;omega) n
   go_still_tail 7,(by kernel_rfl)
   go_wp2_with fail
   go_end0
   have AD:(B.drop F).length=len - F:=by have:=A.bytes.size;simp;omega
   have j:=x1T (W:=W5.drew) A.row A.size 0 (B.drop F) (by have:=HF.out;omega);have E:=Held.next HS.out R A.bytes.ok hl A.bytes.size HF o A.size Y;refine ⟨rfl,⟨U,_,E,?_⟩,?_⟩
   ·rw [AD] at j;have L:=X.out
    (try simp only [kV] at L)
    rw [L]
    simpa using j
   ·exact x0M (w1:=W5.drew) ⟨A.grown.os,A.grown.tape,A.grown.output,A.grown.size,A.grown.block⟩ 8 _
  ·subst n;obtain rfl:len=F:=by omega
   have m:=run_copy_none (P:=Tryz.prog) W5.drew 45 45 3 5 (some ⟨g,8,none⟩) (some ⟨gb,ob,none⟩) 64 64 0 0 A22 E5 (by rfl)
   go_still_tail 7,(by kernel_rfl)
   go_wp2_with fail
   go_end0
   have E:=Held.next HS.out R A.bytes.ok hl A.bytes.size HF o A.size Y;have e1:B.drop len=[]:=List.drop_eq_nil_of_le (by have:=A.bytes.size;omega);rw [e1,Nat.sub_self,List.drop_zero,kV] at E;refine ⟨rfl,⟨U,bl,E,?_⟩,?_⟩
   ·have L:=X.out;(try simp only [kV] at L);rw [L];exact A.row
   ·exact ⟨A.grown.os,A.grown.tape,A.grown.output,A.grown.size,A.grown.block⟩
theorem y6L (T B:List Nat) (g:Nat) (p:Option Addr) (len cap:Nat) (w:World) (hT:T=[]) (v:Sm.V8) (bl:List Nat) (hh:Held T v bl)
  (hg:w.heap[g]? =some (.cells (stL v bl T.length).toArray 359 (0,0)))
  (hB:Bytes w p len cap B) (hn:B≠[]->∀a,p=some a->a.block≠g) (hl:(T++B).length<1152921504606846976):
  Calls Tryz.prog 301 #[.pointer (some ⟨g,0,none⟩),.slice p len cap] w fun e w'=>e= .returned (.tuple #[])/\StateAt w' g (T++B)/\w.grownBy w' (some g):=by
 subst hT;have AJ:w.cell? ⟨g,72,none⟩=some (.int .u64 0):=x6z hg hh.size;have AK:w.frozen? ⟨g,72,none⟩=false:=jS w g _ _ _ hg;have AB:=hB.size;have AW:len<1152921504606846976:=by simp at hl;omega
 have X:=yH (show (([]:List Nat)++B).length=len from by simp;omega);have HG:=yH hg;have R:=yH hh.ok;have Y:=yH hh.bok;have Z:=yH hh.size;have HB:=yH hB;clear hg hh hB AB
 go_enter Tryz.func301,Tryz.ntmps301
 go_wp2_with fail
 refine (x6U w).mono ?_;rintro _ u ⟨rfl,n⟩;have o:u.heap[g]? =_:=(n.block g (yL HG)).trans HG.out;have AI:=x1W o Z Sm.first;have j:=x53 o Sm.first;have A2:(u.setCells g 0 (w32 Sm.first.list)).cell? ⟨g,72,none⟩=some (.int .u64 0):=x6z j Z;have AF:(u.setCells g 0 (w32 Sm.first.list)).frozen? ⟨g,72,none⟩=false:=jS _ g _ _ _ j;have I:=size8 Sm.first;have K:=yH n;have s:=yH j;clear n o j AJ AK;go_wp2_with fail
 obtain ⟨v,hv⟩:∃v,v=Sm.first:=⟨_,rfl⟩
 have HS:=yH (show Start [] v from ⟨by rw [hv];exact Sm.first_ok,rfl,hv⟩);have r:=yH HS.1;rw [<- hv] at s ⊢;generalize hW1:(u.setCells g 0 (w32 v.list)).setCell ⟨g,72,none⟩ (.int .u64 (len:Int))=W1;have hM:Mid w W1 g v bl len p len cap B:=by
  subst hW1;have h1:w.grownBy (u.setCells g 0 (w32 v.list)) (some g):=x0M ⟨K.os,K.tape,K.output,K.size,fun k hk _=>K.block k hk⟩ 0 _;have h2:w.grownBy ((u.setCells g 0 (w32 v.list)).setCell ⟨g,72,none⟩ (.int .u64 (len:Int))) (some g):=x0M h1 72 [.int .u64 (len:Int)];exact ⟨x3G s Z _,Z.out,HB.grown h2 hn,hn,h2⟩
 have C:=yH hM;clear hW1 hM HG HB AI A2 AF I s K hv;obtain ⟨F,hF⟩:∃F,F=len - len%64:=⟨_,rfl⟩
 rw [show (len:Int) - (len:Int)%64=(F:Int) from by omega];have i:F<=len:=by omega
 have m:F%64=0:=by omega
 have HF:=yH hF;have AC:=yH m;clear hF m;rcases C.bytes.at' with hc | ⟨gb,ob,hp,hx⟩
 ·subst hc;cases p with
  | none=>
   obtain rfl:len=0:=by have:=C.bytes.le;omega
   obtain rfl:F=0:=by omega
   obtain ⟨U,Q⟩:∃U,U=Sm.blocks (B.take 0) v ((B.take 0).length/64):=⟨_,rfl⟩
   have M:=x2J v r (B.take 0) none 0 0 W1.drew ((C.bytes.take 0 i).heap rfl) (by simp);rw [show ((0:Nat):Int)=0 from rfl];rw [<- Q] at M;have O:=yH M;have y:=yH Q;clear M Q;obtain ⟨a,b,c,d,e,f,h,k⟩:=v;have c0:W1.cell? ⟨g,0,none⟩=some (.int .u32 a):=x04 C.row 0 (by omega);have c1:W1.cell? ⟨g,1,none⟩=some (.int .u32 b):=x04 C.row 1 (by omega);have c2:W1.cell? ⟨g,2,none⟩=some (.int .u32 c):=x04 C.row 2 (by omega);have c3:W1.cell? ⟨g,3,none⟩=some (.int .u32 d):=x04 C.row 3 (by omega);have c4:W1.cell? ⟨g,4,none⟩=some (.int .u32 e):=x04 C.row 4 (by omega);have c5:W1.cell? ⟨g,5,none⟩=some (.int .u32 f):=x04 C.row 5 (by omega);have c6:W1.cell? ⟨g,6,none⟩=some (.int .u32 h):=x04 C.row 6 (by omega);have c7:W1.cell? ⟨g,7,none⟩=some (.int .u32 k):=x04 C.row 7 (by omega)
   go_region_law ((go_simp;go_at_call 327;refine O.mono ?_;rintro _ w4 ⟨rfl,G⟩;have J:=yH (C.later (x1g G rfl rfl rfl rfl));clear G;have H:=x1W J.row J.size U;have I:=size8 U))
   generalize hW5:w4.setCells g 0 (w32 U.list)=W5;have L:=J.words U;rw [hW5] at L;have A:=yH L;clear hW5 L H I J c0 c1 c2 c3 c4 c5 c6 c7;go_wp2_with fail
   have t:=run_copy_none (P:=Tryz.prog) W5.drew 45 45 3 5 (some ⟨g,8,none⟩) none 64 64 0 0 A22 E5 (by rfl)
   go_still_tail 7,(by kernel_rfl)
   go_wp2_with fail
   go_end0
   have E:=Held.next HS.out R A.bytes.ok hl A.bytes.size (show 0=0 - 0%64 from rfl) y A.size Y;have e1:B.drop 0=[]:=List.drop_eq_nil_of_le (by have:=A.bytes.size;omega);rw [e1,Nat.sub_self,List.drop_zero,kV] at E;refine ⟨rfl,⟨U,bl,E,?_⟩,?_⟩
   ·have N:=X.out;(try simp only [kV] at N);rw [N];exact A.row
   ·exact ⟨A.grown.os,A.grown.tape,A.grown.output,A.grown.size,A.grown.block⟩
  | some x=>
   obtain rfl:len=0:=by have:=C.bytes.le;omega
   obtain rfl:F=0:=by omega
   obtain ⟨U,Q⟩:∃U,U=Sm.blocks (B.take 0) v ((B.take 0).length/64):=⟨_,rfl⟩
   have M:=x2J v r (B.take 0) (some x) 0 0 W1.drew ((C.bytes.take 0 i).heap rfl) (by simp);rw [show ((0:Nat):Int)=0 from rfl];rw [<- Q] at M;have O:=yH M;have y:=yH Q;clear M Q;obtain ⟨a,b,c,d,e,f,h,k⟩:=v;have c0:W1.cell? ⟨g,0,none⟩=some (.int .u32 a):=x04 C.row 0 (by omega);have c1:W1.cell? ⟨g,1,none⟩=some (.int .u32 b):=x04 C.row 1 (by omega);have c2:W1.cell? ⟨g,2,none⟩=some (.int .u32 c):=x04 C.row 2 (by omega);have c3:W1.cell? ⟨g,3,none⟩=some (.int .u32 d):=x04 C.row 3 (by omega);have c4:W1.cell? ⟨g,4,none⟩=some (.int .u32 e):=x04 C.row 4 (by omega);have c5:W1.cell? ⟨g,5,none⟩=some (.int .u32 f):=x04 C.row 5 (by omega);have c6:W1.cell? ⟨g,6,none⟩=some (.int .u32 h):=x04 C.row 6 (by omega);have c7:W1.cell? ⟨g,7,none⟩=some (.int .u32 k):=x04 C.row 7 (by omega)
   go_region_law ((go_simp;go_at_call 327;refine O.mono ?_;rintro _ w4 ⟨rfl,G⟩;have J:=yH (C.later (x1g G rfl rfl rfl rfl));clear G;have H:=x1W J.row J.size U;have I:=size8 U))
   generalize hW5:w4.setCells g 0 (w32 U.list)=W5;have L:=J.words U;rw [hW5] at L;have A:=yH L;clear hW5 L H I J c0 c1 c2 c3 c4 c5 c6 c7;go_wp2_with fail
   have t:=run_copy_none (P:=Tryz.prog) W5.drew 45 45 3 5 (some ⟨g,8,none⟩) (some x) 64 64 0 0 A22 E5 (by rfl)
   go_still_tail 7,(by kernel_rfl)
   go_wp2_with fail
   go_end0
   have E:=Held.next HS.out R A.bytes.ok hl A.bytes.size (show 0=0 - 0%64 from rfl) y A.size Y;have e1:B.drop 0=[]:=List.drop_eq_nil_of_le (by have:=A.bytes.size;omega);rw [e1,Nat.sub_self,List.drop_zero,kV] at E;refine ⟨rfl,⟨U,bl,E,?_⟩,?_⟩
   ·have N:=X.out;(try simp only [kV] at N);rw [N];exact A.row
   ·exact ⟨A.grown.os,A.grown.tape,A.grown.output,A.grown.size,A.grown.block⟩
 ·subst hp;clear hx;have z:=C.bytes.le;have a1:(0:Int)<=F/\(F:Int)<=cap:=by omega
  obtain ⟨U,Q⟩:∃U,U=Sm.blocks (B.take F) v ((B.take F).length/64):=⟨_,rfl⟩
  have M:=x2J v r (B.take F) (some ⟨gb,ob,none⟩) F cap W1.drew ((C.bytes.take F i).heap rfl) (by have:=AC.out;have:=C.bytes.size;simp;omega);rw [<- Q] at M;have O:=yH M;have y:=yH Q;clear M Q;obtain ⟨a,b,c,d,e,f,h,k⟩:=v;have c0:W1.cell? ⟨g,0,none⟩=some (.int .u32 a):=x04 C.row 0 (by omega);have c1:W1.cell? ⟨g,1,none⟩=some (.int .u32 b):=x04 C.row 1 (by omega);have c2:W1.cell? ⟨g,2,none⟩=some (.int .u32 c):=x04 C.row 2 (by omega);have c3:W1.cell? ⟨g,3,none⟩=some (.int .u32 d):=x04 C.row 3 (by omega);have c4:W1.cell? ⟨g,4,none⟩=some (.int .u32 e):=x04 C.row 4 (by omega);have c5:W1.cell? ⟨g,5,none⟩=some (.int .u32 f):=x04 C.row 5 (by omega);have c6:W1.cell? ⟨g,6,none⟩=some (.int .u32 h):=x04 C.row 6 (by omega);have c7:W1.cell? ⟨g,7,none⟩=some (.int .u32 k):=x04 C.row 7 (by omega)
  go_region_law ((go_simp;go_at_call 327;refine O.mono ?_;rintro _ w4 ⟨rfl,G⟩;have J:=yH (C.later (x1g G rfl rfl rfl rfl));clear G;have H:=x1W J.row J.size U;have I:=size8 U))
  generalize hW5:w4.setCells g 0 (w32 U.list)=W5;have L:=J.words U;rw [hW5] at L;have A:=yH L;clear hW5 L H I J c0 c1 c2 c3 c4 c5 c6 c7;go_wp2_with fail
  rcases Nat.lt_or_eq_of_le (jJ i z) with q | q
  ·have t:=x9O A.out F (by have:=HF.out;omega) q
   go_still_tail 7,(by kernel_rfl)
   go_wp2_with fail
   go_end0
   have AL:(B.drop F).length=len - F:=by have:=A.bytes.size;simp;omega
   have l:=x1T (W:=W5.drew) A.row A.size 0 (B.drop F) (by have:=HF.out;omega);have E:=Held.next HS.out R A.bytes.ok hl A.bytes.size HF y A.size Y;refine ⟨rfl,⟨U,_,E,?_⟩,?_⟩
   ·rw [AL] at l;have N:=X.out
    (try simp only [kV] at N)
    rw [N]
    simpa using l
   ·exact x0M (w1:=W5.drew) ⟨A.grown.os,A.grown.tape,A.grown.output,A.grown.size,A.grown.block⟩ 8 _
  ·subst q;obtain rfl:len=F:=by omega
   have t:=run_copy_none (P:=Tryz.prog) W5.drew 45 45 3 5 (some ⟨g,8,none⟩) (some ⟨gb,ob,none⟩) 64 64 0 0 A22 E5 (by rfl)
   go_still_tail 7,(by kernel_rfl)
   go_wp2_with fail
   go_end0
   have E:=Held.next HS.out R A.bytes.ok hl A.bytes.size HF y A.size Y;have e1:B.drop len=[]:=List.drop_eq_nil_of_le (by have:=A.bytes.size;omega);rw [e1,Nat.sub_self,List.drop_zero,kV] at E;refine ⟨rfl,⟨U,bl,E,?_⟩,?_⟩
   ·have N:=X.out;(try simp only [kV] at N);rw [N];exact A.row
   ·exact ⟨A.grown.os,A.grown.tape,A.grown.output,A.grown.size,A.grown.block⟩
theorem y6M (T B:List Nat) (g:Nat) (p:Option Addr) (len cap:Nat) (w:World) (r:Nat) (hr:T.length%64=r) (hr0:0<r) (hs:r+len<64) (v:Sm.V8) (bl:List Nat) (hh:Held T v bl)
  (hg:w.heap[g]? =some (.cells (stL v bl T.length).toArray 359 (0,0)))
  (hB:Bytes w p len cap B) (hn:B≠[]->∀a,p=some a->a.block≠g) (hl:(T++B).length<1152921504606846976):
  Calls Tryz.prog 301 #[.pointer (some ⟨g,0,none⟩),.slice p len cap] w fun e w'=>e= .returned (.tuple #[])/\StateAt w' g (T++B)/\w.grownBy w' (some g):=by
 have W:((T.length:Int)==0)=false:=by
  have:T≠[]:=by rintro rfl;simp at hr;omega
  have:=kP.2 this;simp;omega
 have Z:T≠[]:=by rintro rfl;simp at hr;omega
 have U:(T.length:Int)%64=(r:Int):=by omega
 have R:w.cell? ⟨g,72,none⟩=some (.int .u64 (T.length:Nat)):=x6z hg hh.size;have f:w.frozen? ⟨g,72,none⟩=false:=jS w g _ _ _ hg;have K:=x3G hg hh.size (T.length+len);obtain ⟨N,X⟩:∃N,N=T.length:=⟨_,rfl⟩
 rw [<- X] at R W U K;have I:=hB.size;have k:N+len<1152921504606846976:=by simp at hl;omega
 have Q:=yH (show (T++B).length=N+len from by simp;omega);have n:(0:Int)<r/\(r:Int)<64:=by omega
 have C:=yH (hB.grown (x0H w g 72 (.int .u64 ((N+len:Nat):Int))) hn);have M:=yH hh;have H:=yH K;have j:=yH hr;have o:=yH Z;have Y:=yH X;have A:=yH I;clear hg hh hB X I K hr Z;have h:(r:Int)+len<64:=by omega
 have c:=x5x g r (by omega);rcases C.at' with i | ⟨m,l,d,b⟩
 ·subst i;cases p with
  | none=>
   obtain rfl:len=0:=by have:=C.le;omega
   have E:B=[]:=jZ.1 A.symm;have G:=run_copy_none (P:=Tryz.prog) (w.setCell ⟨g,72,none⟩ (.int .u64 (N:Int))) 45 45 3 5 (some ⟨g,8+r,none⟩) none (64 - r) (64 - r) 0 0 A22 E5 (Nat.zero_min _);have J:=yH E;clear E
   go_enter Tryz.func301,Tryz.ntmps301
   go_wp2_with fail
   (try simp only [Exit.inBlock,Exit.then])
   refine bodyPost_ret (results_none rfl _ _ _) rfl ?_;have L:T++B=T:=by rw [J.out,kW]
   refine ⟨rfl,?_,x0H _ _ _ _⟩;rw [L];refine ⟨v,bl,M.out,?_⟩;rw [<- Y.out];exact H.out
  | some x=>
   obtain rfl:len=0:=by have:=C.le;omega
   have E:B=[]:=jZ.1 A.symm;have G:=run_copy_none (P:=Tryz.prog) (w.setCell ⟨g,72,none⟩ (.int .u64 (N:Int))) 45 45 3 5 (some ⟨g,8+r,none⟩) (some x) (64 - r) (64 - r) 0 0 A22 E5 (Nat.zero_min _);have J:=yH E;clear E
   go_enter Tryz.func301,Tryz.ntmps301
   go_wp2_with fail
   (try simp only [Exit.inBlock,Exit.then])
   refine bodyPost_ret (results_none rfl _ _ _) rfl ?_;have L:T++B=T:=by rw [J.out,kW]
   refine ⟨rfl,?_,x0H _ _ _ _⟩;rw [L];refine ⟨v,bl,M.out,?_⟩;rw [<- Y.out];exact H.out
 ·subst d;clear b;have G:=x70 H.out M.size C r len (by omega) (Nat.min_eq_left (by omega)).symm;rw [show B.take len=B from kQ (by have:=A.out;omega)] at G;rw [show ((N+len:Nat):Int)=(N:Int)+(len:Int) from by omega] at G
  go_enter Tryz.func301,Tryz.ntmps301
  go_wp2_with fail
  (try simp only [Exit.inBlock,Exit.then])
  refine bodyPost_ret (results_none rfl _ _ _) rfl ?_;rw [show (N:Int)+(len:Int)=((N+len:Nat):Int) from by omega];have O:=x1T H.out M.size r B (by have:=A.out;omega);refine ⟨rfl,⟨v,_,M.small j hr0 (by have:=A.out;omega) C.ok hl,?_⟩,x0M (x0H _ _ _ _) _ _⟩;rw [Q.out];exact O
theorem y6N (T B:List Nat) (g:Nat) (p:Option Addr) (len cap:Nat) (w:World) (r m:Nat) (hr:T.length%64=r) (hr0:0<r) (hs:r+m=64) (hml:m<=len) (v:Sm.V8) (bl:List Nat) (hh:Held T v bl)
  (hg:w.heap[g]? =some (.cells (stL v bl T.length).toArray 359 (0,0)))
  (hB:Bytes w p len cap B) (hn:B≠[]->∀a,p=some a->a.block≠g) (hl:(T++B).length<1152921504606846976):
  Calls Tryz.prog 301 #[.pointer (some ⟨g,0,none⟩),.slice p len cap] w fun e w'=>e= .returned (.tuple #[])/\StateAt w' g (T++B)/\w.grownBy w' (some g):=by
 have Ai:((T.length:Int)==0)=false:=by
  have:T≠[]:=by rintro rfl;simp at hr;omega
  have:=kP.2 this;simp;omega
 have hT:T≠[]:=by rintro rfl;simp at hr;omega
 have AY:(T.length:Int)%64=(r:Int):=by omega
 have AW:w.cell? ⟨g,72,none⟩=some (.int .u64 (T.length:Nat)):=x6z hg hh.size;have Ap:w.frozen? ⟨g,72,none⟩=false:=jS w g _ _ _ hg;have Ak:=x3G hg hh.size (T.length+len);obtain ⟨N,hN⟩:∃N,N=T.length:=⟨_,rfl⟩
 rw [<- hN] at AW Ai AY Ak;have AS:=hB.size;have B9:N+len<1152921504606846976:=by simp at hl;omega
 have AU:=yH (show (T++B).length=N+len from by simp;omega);have s:(0:Int)<r/\(r:Int)<64:=by omega
 have O:=yH (hB.grown (x0H w g 72 (.int .u64 ((N+len:Nat):Int))) hn);have HH:=yH hh;have AC:=yH Ak;have HR:=yH hr;have HT:=yH hT;have HN:=yH hN;have M:=yH AS;clear hg hh hB hN AS Ak hr hT;have An:=x5x g r (by omega);obtain ⟨gb,ob,hp,I⟩:=O.ne (by intro e;have:=M.out;rw [e] at this;simp at this;omega);subst hp;clear I;have AB:=x70 AC.out HH.size O r m (by omega) (by rw [show 64 - r=m from by omega];exact (Nat.min_eq_right hml).symm);have t:=yH (show ((N+len:Nat):Int)=(N:Int)+(len:Int) from by omega);rw [t.out] at AB;have Au:(r:Int)+m=64:=by omega
 have Aq:(0:Int)<=m/\(m:Int)<=len:=by omega
 have A1:=O.le;rcases Nat.lt_or_eq_of_le (jJ hml A1) with Al | Al
 ·go_enter Tryz.func301,Tryz.ntmps301
  go_wp2_with fail
  rw [<- t.out];generalize hW2:(w.setCell ⟨g,72,none⟩ (.int .u64 ((N+len:Nat):Int))).setCells g (8+r) (vals (B.take m))=W2;obtain ⟨K,E⟩:∃x,x=bl.take r++B.take m:=⟨_,rfl⟩
  have AF:(B.take m).length=m:=by have:=M.out;simp;omega
  have A0:=HH.size;have J:Mid w W2 g v K (N+len) (some ⟨gb,ob,none⟩) len cap B:=by
   have Z:=x1T AC.out A0 r (B.take m) (by omega);rw [hW2,AF,List.drop_eq_nil_of_le (by omega),kW,<- E] at Z;have AZ:w.grownBy W2 (some g):=by rw [<- hW2];exact x0M (x0H _ _ _ _) _ _
   have AH:(w.setCell ⟨g,72,none⟩ (.int .u64 ((N+len:Nat):Int))).grownBy W2 (some g):=by rw [<- hW2];exact x0M (World.grownBy.refl _ _) _ _
   exact ⟨Z,by have:=M.out;rw [E];simp [A0];omega,O.grown AH hn,hn,AZ⟩
  have j:Sm.allB K:=by
   rw [E];intro x I;rcases jP.1 I with I | I
   ·exact HH.bok x (List.mem_of_mem_take I)
   ·exact O.ok x (List.mem_of_mem_take I)
  have G:=Start.block (B:=B) HH HR hr0 hs (by have:=M.out;omega);rw [<- E] at G;obtain ⟨l,A5⟩:∃l,l=Sm.blocks K v 1:=⟨_,rfl⟩
  have A4:=x2J v HH.vok K (some ⟨g,8,none⟩) 64 64 W2.drew ((Bytes.block J.row J.size j).heap rfl) (by rw [J.size]);rw [J.size,show 64/64=1 from rfl,<- A5] at A4;rw [<- A5] at G;have AJ:=yH A4;have C:=yH J;have AA:=yH G;have AE:=yH G.1;have A7:=yH j;clear A4 J G j A5 E hW2 A0 AF AB AW Ap Ai AY AC;obtain ⟨a,b,c,d,e,f,h,k⟩:=v;have c0:W2.cell? ⟨g,0,none⟩=some (.int .u32 a):=x04 C.row 0 (by omega);have c1:W2.cell? ⟨g,1,none⟩=some (.int .u32 b):=x04 C.row 1 (by omega);have c2:W2.cell? ⟨g,2,none⟩=some (.int .u32 c):=x04 C.row 2 (by omega);have c3:W2.cell? ⟨g,3,none⟩=some (.int .u32 d):=x04 C.row 3 (by omega);have c4:W2.cell? ⟨g,4,none⟩=some (.int .u32 e):=x04 C.row 4 (by omega);have c5:W2.cell? ⟨g,5,none⟩=some (.int .u32 f):=x04 C.row 5 (by omega);have c6:W2.cell? ⟨g,6,none⟩=some (.int .u32 h):=x04 C.row 6 (by omega);have c7:W2.cell? ⟨g,7,none⟩=some (.int .u32 k):=x04 C.row 7 (by omega)
  go_region_law ((go_simp;go_at_call 327;refine AJ.mono ?_;rintro _ w3 ⟨rfl,Q⟩;have o:=yH (C.later (x1g Q rfl rfl rfl rfl));clear Q;have R:=x1W o.row o.size l;have A2:=size8 l))
  generalize hW5:w3.setCells g 0 (w32 l.list)=W3;have m5:=o.words l;rw [hW5] at m5;have AD:=yH m5;clear hW5 m5 R A2 o c0 c1 c2 c3 c4 c5 c6 c7;go_wp2_with fail
  obtain ⟨T2,q⟩:∃x,x=T++B.take m:=⟨_,rfl⟩
  obtain ⟨n,u⟩:∃x,x=B.drop m:=⟨_,rfl⟩
  have Y:=yH (show T2++n=T++B from by rw [q,u,jR,List.take_append_drop]);have AN:(T2++n).length<1152921504606846976:=by rw [Y.out];exact hl
  have A8:=yH (show (T2++n).length=N+len from by rw [Y.out];exact AU.out);have A6:=yH (show Sm.allB T2 from by
   rw [q];intro x I;rcases jP.1 I with I | I
   ·exact HH.ok x I
   ·exact O.ok x (List.mem_of_mem_take I))
  rw [<- q] at AA;have AK:Mid w W3 g l K (N+len) (some ⟨gb,ob+m,none⟩) (len - m) (cap - m) n:=by
   have s:=AD.out;exact ⟨s.row,s.size,by rw [u];exact s.bytes.drop m hml,(fun hb a ha=>by cases ha;exact hn (by intro e0;rw [u,e0] at hb;simp at hb) ⟨gb,ob,none⟩ rfl),s.grown⟩
  have A:=yH AK;clear AK AD q u;obtain ⟨L,z⟩:∃x,x=len - m:=⟨_,rfl⟩
  obtain ⟨AR,y⟩:∃x,x=cap - m:=⟨_,rfl⟩
  obtain ⟨At,AG⟩:∃x,x=ob+m:=⟨_,rfl⟩
  rw [<- z,<- y,<- AG] at A;rw [<- z,<- y,<- AG];clear z y AG Au Aq A1 Al An t O HR HT;obtain ⟨F,hF⟩:∃F,F=L - L%64:=⟨_,rfl⟩
  rw [show (L:Int) - (L:Int)%64=(F:Int) from by omega];have AO:F<=L:=by omega
  have AT:F%64=0:=by omega
  have HF:=yH hF;have Ar:=yH AT;clear hF AT;have Ao:=A.bytes.le;have a1:(0:Int)<=F/\(F:Int)<=AR:=by omega
  obtain ⟨U,hU⟩:∃U,U=Sm.blocks (n.take F) l ((n.take F).length/64):=⟨_,rfl⟩
  have HA:=x2J l AE (n.take F) (some ⟨gb,At,none⟩) F AR W3.drew ((A.bytes.take F AO).heap rfl) (by have:=Ar.out;have:=A.bytes.size;simp;omega);rw [<- hU] at HA;have Aj:=yH HA;have HU:=yH hU;clear HA hU;obtain ⟨a,b,c,d,e,f,h,k⟩:=l;have c0:W3.cell? ⟨g,0,none⟩=some (.int .u32 a):=x04 A.row 0 (by omega);have c1:W3.cell? ⟨g,1,none⟩=some (.int .u32 b):=x04 A.row 1 (by omega);have c2:W3.cell? ⟨g,2,none⟩=some (.int .u32 c):=x04 A.row 2 (by omega);have c3:W3.cell? ⟨g,3,none⟩=some (.int .u32 d):=x04 A.row 3 (by omega);have c4:W3.cell? ⟨g,4,none⟩=some (.int .u32 e):=x04 A.row 4 (by omega);have c5:W3.cell? ⟨g,5,none⟩=some (.int .u32 f):=x04 A.row 5 (by omega);have c6:W3.cell? ⟨g,6,none⟩=some (.int .u32 h):=x04 A.row 6 (by omega);have c7:W3.cell? ⟨g,7,none⟩=some (.int .u32 k):=x04 A.row 7 (by omega)
  go_region_law ((go_simp;go_at_call 327;refine Aj.mono ?_;rintro _ w5 ⟨rfl,Q⟩;have o:=yH (A.later (x1g Q rfl rfl rfl rfl));clear Q;have R:=x1W o.row o.size U;have A2:=size8 U))
  generalize hW5:w5.setCells g 0 (w32 U.list)=W5;have m5:=o.words U;rw [hW5] at m5;have H:=yH m5;clear hW5 m5 R A2 o c0 c1 c2 c3 c4 c5 c6 c7;go_wp2_with fail
  rcases Nat.lt_or_eq_of_le (jJ AO Ao) with Ad | Ad
  ·have AB:=x9O H.out F (by have:=HF.out;omega) Ad
   go_still_tail 7,(by kernel_rfl)
   go_wp2_with fail
   go_end0
   have B1:(n.drop F).length=L - F:=by have:=H.bytes.size;simp;omega
   have AQ:=x1T (W:=W5.drew) H.row H.size 0 (n.drop F) (by have:=HF.out;omega);have X:=Held.next AA.out A6 H.bytes.ok AN H.bytes.size HF HU H.size A7;refine ⟨rfl,⟨U,_,(by rw [<- Y.out];exact X),?_⟩,?_⟩
   ·rw [B1] at AQ;rw [<- Y.out];have s:=A8.out
    (try simp only [kV] at s)
    rw [s]
    simpa using AQ
   ·exact x0M (w1:=W5.drew) ⟨H.grown.os,H.grown.tape,H.grown.output,H.grown.size,H.grown.block⟩ 8 _
  ·subst Ad;obtain rfl:L=F:=by omega
   have AB:=run_copy_none (P:=Tryz.prog) W5.drew 45 45 3 5 (some ⟨g,8,none⟩) (some ⟨gb,At,none⟩) 64 64 0 0 A22 E5 (by rfl)
   go_still_tail 7,(by kernel_rfl)
   go_wp2_with fail
   go_end0
   have X:=Held.next AA.out A6 H.bytes.ok AN H.bytes.size HF HU H.size A7;have e1:n.drop L=[]:=List.drop_eq_nil_of_le (by have:=H.bytes.size;omega);rw [e1,Nat.sub_self,List.drop_zero,kV] at X;refine ⟨rfl,⟨U,K,(by rw [<- Y.out];exact X),?_⟩,?_⟩
   ·rw [<- Y.out];have s:=A8.out;(try simp only [kV] at s);rw [s];exact H.row
   ·exact ⟨H.grown.os,H.grown.tape,H.grown.output,H.grown.size,H.grown.block⟩
 ·subst Al;obtain rfl:m=len:=by omega
  go_enter Tryz.func301,Tryz.ntmps301
  go_wp2_with fail
  rw [<- t.out];generalize hW2:(w.setCell ⟨g,72,none⟩ (.int .u64 ((N+m:Nat):Int))).setCells g (8+r) (vals (B.take m))=W2;obtain ⟨K,E⟩:∃x,x=bl.take r++B.take m:=⟨_,rfl⟩
  have AF:(B.take m).length=m:=by have:=M.out;simp;omega
  have A0:=HH.size;have J:Mid w W2 g v K (N+m) (some ⟨gb,ob,none⟩) m m B:=by
   have Z:=x1T AC.out A0 r (B.take m) (by omega);rw [hW2,AF,List.drop_eq_nil_of_le (by omega),kW,<- E] at Z;have AZ:w.grownBy W2 (some g):=by rw [<- hW2];exact x0M (x0H _ _ _ _) _ _
   have AH:(w.setCell ⟨g,72,none⟩ (.int .u64 ((N+m:Nat):Int))).grownBy W2 (some g):=by rw [<- hW2];exact x0M (World.grownBy.refl _ _) _ _
   exact ⟨Z,by have:=M.out;rw [E];simp [A0];omega,O.grown AH hn,hn,AZ⟩
  have j:Sm.allB K:=by
   rw [E];intro x I;rcases jP.1 I with I | I
   ·exact HH.bok x (List.mem_of_mem_take I)
   ·exact O.ok x (List.mem_of_mem_take I)
  have G:=Start.block (B:=B) HH HR hr0 hs (by have:=M.out;omega);rw [<- E] at G;obtain ⟨l,A5⟩:∃l,l=Sm.blocks K v 1:=⟨_,rfl⟩
  have A4:=x2J v HH.vok K (some ⟨g,8,none⟩) 64 64 W2.drew ((Bytes.block J.row J.size j).heap rfl) (by rw [J.size]);rw [J.size,show 64/64=1 from rfl,<- A5] at A4;rw [<- A5] at G;have AJ:=yH A4;have C:=yH J;have AA:=yH G;have AE:=yH G.1;have A7:=yH j;clear A4 J G j A5 E hW2 A0 AF AB AW Ap Ai AY AC;obtain ⟨a,b,c,d,e,f,h,k⟩:=v;have c0:W2.cell? ⟨g,0,none⟩=some (.int .u32 a):=x04 C.row 0 (by omega);have c1:W2.cell? ⟨g,1,none⟩=some (.int .u32 b):=x04 C.row 1 (by omega);have c2:W2.cell? ⟨g,2,none⟩=some (.int .u32 c):=x04 C.row 2 (by omega);have c3:W2.cell? ⟨g,3,none⟩=some (.int .u32 d):=x04 C.row 3 (by omega);have c4:W2.cell? ⟨g,4,none⟩=some (.int .u32 e):=x04 C.row 4 (by omega);have c5:W2.cell? ⟨g,5,none⟩=some (.int .u32 f):=x04 C.row 5 (by omega);have c6:W2.cell? ⟨g,6,none⟩=some (.int .u32 h):=x04 C.row 6 (by omega);have c7:W2.cell? ⟨g,7,none⟩=some (.int .u32 k):=x04 C.row 7 (by omega)
  go_region_law ((go_simp;go_at_call 327;refine AJ.mono ?_;rintro _ w3 ⟨rfl,Q⟩;have o:=yH (C.later (x1g Q rfl rfl rfl rfl));clear Q;have R:=x1W o.row o.size l;have A2:=size8 l))
  generalize hW5:w3.setCells g 0 (w32 l.list)=W3;have m5:=o.words l;rw [hW5] at m5;have AD:=yH m5;clear hW5 m5 R A2 o c0 c1 c2 c3 c4 c5 c6 c7;go_wp2_with fail
  obtain ⟨T2,q⟩:∃x,x=T++B.take m:=⟨_,rfl⟩
  obtain ⟨n,u⟩:∃x,x=B.drop m:=⟨_,rfl⟩
  have Y:=yH (show T2++n=T++B from by rw [q,u,jR,List.take_append_drop]);have AN:(T2++n).length<1152921504606846976:=by rw [Y.out];exact hl
  have A8:=yH (show (T2++n).length=N+m from by rw [Y.out];exact AU.out);have A6:=yH (show Sm.allB T2 from by
   rw [q];intro x I;rcases jP.1 I with I | I
   ·exact HH.ok x I
   ·exact O.ok x (List.mem_of_mem_take I))
  rw [<- q] at AA;have AK:Mid w W3 g l K (N+m) (some ⟨gb,ob,none⟩) 0 0 n:=by
   have s:=AD.out;have As:n=[]:=by rw [u];exact List.drop_eq_nil_of_le (by have:=M.out;omega)
   exact ⟨s.row,s.size,by rw [As];exact ⟨rfl,jB _,fun x I=>by simp at I,Or.inr ⟨gb,ob,rfl,fun i hi=>by simp at hi⟩⟩,fun hb=>absurd As hb,s.grown⟩
  have A:=yH AK;have AO:0<=0:=jB _;clear AK AD q u Au Aq A1 An t O HR HT;obtain ⟨U,hU⟩:∃U,U=Sm.blocks (n.take 0) l ((n.take 0).length/64):=⟨_,rfl⟩
  have HA:=x2J l AE (n.take 0) (some ⟨gb,ob,none⟩) 0 0 W3.drew ((A.bytes.take 0 AO).heap rfl) (by simp);rw [<- hU] at HA;have Aj:=yH HA;have HU:=yH hU;clear HA hU;obtain ⟨a,b,c,d,e,f,h,k⟩:=l;have c0:W3.cell? ⟨g,0,none⟩=some (.int .u32 a):=x04 A.row 0 (by omega);have c1:W3.cell? ⟨g,1,none⟩=some (.int .u32 b):=x04 A.row 1 (by omega);have c2:W3.cell? ⟨g,2,none⟩=some (.int .u32 c):=x04 A.row 2 (by omega);have c3:W3.cell? ⟨g,3,none⟩=some (.int .u32 d):=x04 A.row 3 (by omega);have c4:W3.cell? ⟨g,4,none⟩=some (.int .u32 e):=x04 A.row 4 (by omega);have c5:W3.cell? ⟨g,5,none⟩=some (.int .u32 f):=x04 A.row 5 (by omega);have c6:W3.cell? ⟨g,6,none⟩=some (.int .u32 h):=x04 A.row 6 (by omega);have c7:W3.cell? ⟨g,7,none⟩=some (.int .u32 k):=x04 A.row 7 (by omega)
  go_region_law ((go_simp;go_at_call 327;refine Aj.mono ?_;rintro _ w5 ⟨rfl,Q⟩;have o:=yH (A.later (x1g Q rfl rfl rfl rfl));clear Q;have R:=x1W o.row o.size U;have A2:=size8 U))
  generalize hW5:w5.setCells g 0 (w32 U.list)=W5;have m5:=o.words U;rw [hW5] at m5;have H:=yH m5;clear hW5 m5 R A2 o c0 c1 c2 c3 c4 c5 c6 c7;go_wp2_with fail
  have AB:=run_copy_none (P:=Tryz.prog) W5.drew 45 45 3 5 (some ⟨g,8,none⟩) (some ⟨gb,ob,none⟩) 64 64 0 0 A22 E5 (by rfl)
  go_still_tail 7,(by kernel_rfl)
  go_wp2_with fail
  go_end0
  have X:=Held.next AA.out A6 H.bytes.ok AN H.bytes.size (show 0=0 - 0%64 from rfl) HU H.size A7;have e1:n.drop 0=[]:=List.drop_eq_nil_of_le (by have:=H.bytes.size;omega);rw [e1,Nat.sub_self,List.drop_zero,kV] at X;refine ⟨rfl,⟨U,K,(by rw [<- Y.out];exact X),?_⟩,?_⟩
  ·rw [<- Y.out];have s:=A8.out;(try simp only [kV] at s);rw [s];exact H.row
  ·exact ⟨H.grown.os,H.grown.tape,H.grown.output,H.grown.size,H.grown.block⟩
end
end Go.Proofs.YtenenciaggbjnaaGreat
