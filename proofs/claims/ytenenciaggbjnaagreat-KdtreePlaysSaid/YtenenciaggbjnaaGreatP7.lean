/- CodDgCopy, NlDigest, NlRet, NlKey, DkMath, NlReadKid, NdLst. -/
import Derived.Laws.ResultCell
import Derived.Maps.AppendAt
import Derived.Great.BuildSlice
import Derived.Test.YtenenciaggbjnaaGreatP6
set_option maxRecDepth 100000
set_option maxHeartbeats 8000000
set_option linter.all false
namespace Go.Proofs.YtenenciaggbjnaaGreat
section
open Go.RowKit
theorem y60 {w:World} {q:Option Addr} {n c:Nat} {B:List Nat} (h:Tx w q n c B) (hB:B≠[]):∃x,q=some x:=by
 rcases h.at' with ⟨_,C⟩ | ⟨x,A,_⟩
 ·have:=h.size;have:=h.le;exact absurd (jZ.1 (by omega)) hB
 ·exact ⟨x,A⟩
theorem x9B {W:World} {g:Nat} {Z D:List Nat} {x:Addr} {c:Nat} (hg:W.heap[g]? =some (.cells (u8s Z) 30 (0,0))) (hZ:Z.length=32) (hD:D.length=32) (h:Tx W (some x) 32 c D):
  (Builtin.copy_ #[45,45] 3 #[.slice (some ⟨g,0,none⟩) 32 32,.slice (some x) 32 c]).run Tryz.prog W= .ok (goInt 32) (W.setCells g 0 (vals D)):=by
 have:=run_copy_cells (P:=Tryz.prog) W 45 45 3 5 g 0 32 32 x 32 c (vals D) A22 E5 (by rw [x00,hD];rfl) h.cells
  (fun j hj=>by rw [x00,hD] at hj;rw [Nat.zero_add,x2B hg j (by omega)];rfl) (fun j _=>jS W g _ _ _ hg) (x0L D)
 rw [x00,hD] at this;exact this
theorem y10 {W:World} {g:Nat} {Z D:List Nat} (hg:W.heap[g]? =some (.cells (u8s Z) 30 (0,0))) (hZ:Z.length=32) (hD:D.length=32):(W.setCells g 0 (vals D)).heap[g]? =some (.cells (u8s D) 30 (0,0)):=by
 have:=x0R g 30 (vals D) [] (vals Z) [] W (by simpa [x07] using hg) (by rw [x00,x00,hZ,hD])
 simpa [x07] using this
end
namespace Nd
open Go.RowKit
theorem x9C (s:Rd) (g:Nat) (w:World) (hs:RSx w g s) (hl:s.R.length<1099511627776):
  Calls Tryz.prog 245 #[.pointer (some ⟨g,0,none⟩)] w (RPost w g (.agg (u8s s.digV)) (s.past 32)):=by
 have t:=(zero_of_info Z25).1;have v:=fun w'=>x5h (w.heap.size+1) w';have z:g<w.heap.size:=hs.lt;have u:=yH hs;have Y:s.digV=s.part 32++zeros (32 - (s.part 32).length):=rfl;have b:=x3i s;have d:=y5x s 32;generalize s.digV=D at *;have H:=yH b;have O:=yH d;have K:=yH Y;clear hs b d Y
 go_enter Tryz.func245,Tryz.ntmps245
 go_upto_region 2 with fail
 have f:=jA w (.cells (u8s (zeros 32)) 30);have p:=jE w (.cells (u8s (zeros 32)) 30);have r:(w.alloc (.cells (u8s (zeros 32)) 30)).heap.size=w.heap.size+1:=by simp
 generalize w.alloc (.cells (u8s (zeros 32)) 30)=w1 at *;have M:=jA w1 (.cells (u8s (zeros 32)) 30);have j:=jE w1 (.cells (u8s (zeros 32)) 30);rw [r] at j;generalize w1.alloc (.cells (u8s (zeros 32)) 30)=w2 at *;have E:Below w.heap.size w w2:=f.trans (M.mono (by omega));have W:=yH ((M.block w.heap.size (by omega)).trans p);have U:=yH j;have n:=yH E;have k:=y00 s 32 g w2.drew (u.later (Below.drew E)) (by omega) hl;unfold x3v at k;have Q:=yH k;clear f M p j r E k t;rcases O.out with I | I
 ·have l:D=zeros 32:=by rw [K.out,I];rfl
  subst l;rw [I] at Q;clear I O K
  go_region_law (go_simp;go_at_call 288;refine Q.mono ?_;rintro e X I;obtain ⟨q,c,rfl,Z,a,N⟩:=I;have A:=(N.block (w.heap.size+1) (yL U) (by simp;omega)).trans U.out;have L:=run_copy_none (P:=Tryz.prog) X 45 45 3 5 (some ⟨w.heap.size+1,0,none⟩) q 32 32 0 c A22 E5 (by rfl);have h:=yH a;have C:=yH N;have B:=yH A;clear Z a N A)
  all_goals
   have i:=yH (x0o (x1h n (some g)) (show w2.grownBy X (some g) from ⟨C.os,C.tape,C.output,C.size,C.block⟩));have G:=yH ((C.block w.heap.size (yL W) (by simp;omega)).trans W.out);clear C L W U Q;go_wp2_with (first
    | (refine kL (by rfl) 30 _ (by rfl) (w.heap.size+1) (by rfl) 30 _ (0,0) _ B A25 (by rfl) (by rw [x0C,H.out];exact S25) ?_)
    | (refine jL (by rfl) 30 _ _ (by rfl) w.heap.size (u8s (zeros 32)) (by rfl) (by rfl) _ _ G (by rw [x0C,H.out];exact S25) rfl (x0f _) ?_))
   refine x0n 2 (by kernel_rfl) w.heap.size _ _ A25 S25 rfl (jT _ _ _ _ _ _ G) (by rw [x0C,H.out]) ⟨rfl,?_,?_⟩
   ·exact h.low (Below.setRow (jC _ _) (by omega) _)
   ·exact x19 i (jB _) (Below.setRow (jC _ _) (jB _) _) (by simp)
 ·have l:s.part 32=D:=by rw [K.out,I];simp [zeros]
  rw [l,H.out] at Q;clear I O K
  go_region_law (go_simp;go_at_call 288;refine Q.mono ?_;rintro e X I;obtain ⟨q,c,rfl,Z,a,N⟩:=I;obtain ⟨x,rfl⟩:=y60 Z (by intro e;have:=H.out;rw [e] at this;simp at this);have A:=(N.block (w.heap.size+1) (yL U) (by simp;omega)).trans U.out;have L:=x9B A (by simp [zeros]) H Z;have h:=yH a;have C:=yH N;have B:=yH A;clear Z a N A)
  all_goals
   have o:=y10 B.out (by simp [zeros]) H;have J:=x6S (w:=X) (w.heap.size+1) 0 (vals D) (w.heap.size+1) (jB _);have m:=yH (h.low (J.mono (by omega)));have i:=yH (x19 (x0o (x1h n (some g)) (show w2.grownBy X (some g) from ⟨C.os,C.tape,C.output,C.size,C.block⟩)) (show w.heap.size<=w.heap.size+1 by omega) J (by rw [(x0S _ _ _ _).1];exact jB _));have G:=yH (((J.block w.heap.size (by omega)).trans (C.block w.heap.size (yL W) (by simp;omega))).trans W.out);generalize X.setCells (w.heap.size+1) 0 (vals D)=w4 at *;have y:=yH o;clear o J h C B L W U Q;go_wp2_with (first
    | (refine kL (by rfl) 30 _ (by rfl) (w.heap.size+1) (by rfl) 30 _ (0,0) _ y A25 (by rfl) (by rw [x0C,H.out];exact S25) ?_)
    | (refine jL (by rfl) 30 _ _ (by rfl) w.heap.size (u8s D) (by rfl) (by rfl) _ _ G (by rw [x0C,H.out];exact S25) (by rw [x0C,x0C,H.out];simp [zeros]) (x0f _) ?_))
   refine x0n 2 (by kernel_rfl) w.heap.size _ _ A25 S25 rfl (jT _ _ _ _ _ _ G) (by rw [x0C,H.out]) ⟨rfl,?_,?_⟩
   ·exact m.low (Below.setRow (jC _ _) (by omega) _)
   ·exact x19 i (jB _) (Below.setRow (jC _ _) (jB _) _) (by simp)
theorem x1U {fn:Func} {P:Ending->World->Prop} (p:Tmp) {ty:TypeId} (hr:fn.results= #[.cell p ty]) {tmps:Array Value} {w:World} (g:Nat) (t:TypeId) (cs:Array Value) {d:TypeDesc}
  (hu:Tryz.prog.underlying ty=some d) (hd:d.isRow=true) (hi:(Tryz.prog.info? ty).map (·.size)=some cs.size)
  (hp:tmps.getD p undef= .pointer (some ⟨g,0,none⟩)) (hg:w.heap[g]? =some (.cells cs t (0,0))) (h:P (.returned (.agg cs)) w):bodyPost Tryz.prog fn P .ret ⟨tmps,[]⟩ w:=
 bodyPost_ret (a:=⟨tmps,[]⟩) (v:=.agg cs) (results_cell_row hr tmps w g t cs (0,0) d hp hg hu (by cases d<;>first | rfl | (cases hd)) hi) rfl h
theorem x0G {fn:Func} {P:Ending->World->Prop} (p u:Tmp) {ty:TypeId} (hr:fn.results= #[.cell p ty,.tmp u]) {tmps:Array Value} {w:World} (g:Nat) (t:TypeId) (cs:Array Value) {d:TypeDesc} (x:Value)
  (hu:Tryz.prog.underlying ty=some d) (hd:d.isRow=true) (hi:(Tryz.prog.info? ty).map (·.size)=some cs.size)
  (hp:tmps.getD p undef= .pointer (some ⟨g,0,none⟩)) (hx:tmps.getD u undef=x) (hg:w.heap[g]? =some (.cells cs t (0,0))) (h:P (.returned (.tuple #[.agg cs,x])) w):bodyPost Tryz.prog fn P .ret ⟨tmps,[]⟩ w:=
 bodyPost_ret (a:=⟨tmps,[]⟩) (v:=.tuple #[.agg cs,x]) (by
  rw [results_cell_tmp hr,hp,hx]
  simp only [asAddr,Sem.run_pure,Result.andThen_ok,run_loadVar_row w g t ty cs (0,0) d hg hu (by cases d<;>first | rfl | (cases hd)) hi]) rfl h
structure FrRw (w:World) (base:Nat) (r:Rw):Prop where
 ok:r.Ok w
 lo:∀x,r.p=some x->r.R≠[]->base<=x.block
theorem FrRw.later {w w':World} {base:Nat} {r:Rw} (h:FrRw w base r) (hb:Below w.heap.size w w'):FrRw w' base r:=⟨h.ok.later hb,h.lo⟩
theorem FrRw.base {w:World} {base base':Nat} {r:Rw} (h:FrRw w base r) (hb:base'<=base):FrRw w base' r:=⟨h.ok,fun x hx hR=>jJ hb (h.lo x hx hR)⟩
theorem rw_keep {w w':World} {r:Rw} (h:r.Ok w) (hk:∀x,r.p=some x->r.R≠[]->w'.heap[x.block]? =w.heap[x.block]?):r.Ok w':=
 ⟨⟨h.ints.size,h.ints.le,h.ints.ok,h.ints.at'.imp id fun ⟨g,o,hp,hx⟩=>⟨g,o,hp,fun i hi=>by
  have hR:r.R≠[]:=by rintro e;rw [e] at hi;simp at hi
  rw [jX (w:=w) (w':=w') (a:=⟨g,o+i,none⟩) (hk ⟨g,o,none⟩ hp hR)]
  exact hx i hi⟩⟩,h.top⟩
theorem FrRw.keep {w w':World} {base:Nat} {r:Rw} (h:FrRw w base r) (hk:∀k,base<=k->k<w.heap.size->w'.heap[k]? =w.heap[k]?):FrRw w' base r:=
 ⟨rw_keep h.ok fun x hx hR=>hk _ (h.lo x hx hR) (by
  rcases h.ok.ints.at' with h0 | ⟨g,o,hp,hc⟩
  ·exact absurd h0 hR
  ·rw [hx] at hp
   obtain rfl:x=⟨g,o,Option.none⟩:=by simpa using hp
   have:=hc 0 (kP.2 hR)
   exact jI this),h.lo⟩
theorem FrRw.lt {w:World} {base:Nat} {r:Rw} (h:FrRw w base r):∀x,r.p=some x->r.R≠[]->x.block<w.heap.size:=fun x hx hR=>by
 rcases h.ok.ints.at' with h0 | ⟨g,o,hp,hc⟩
 ·exact absurd h0 hR
 ·rw [hx] at hp
  obtain rfl:x=⟨g,o,Option.none⟩:=by simpa using hp
  have:=hc 0 (kP.2 hR)
  exact jI this
theorem x2H (w:World) (base:Nat):FrRw w base ⟨Option.none,0,0,[]⟩:=⟨⟨⟨rfl,jB _,(fun x hx=>by cases hx),Or.inl rfl⟩,by simp⟩,(fun x hx=>by cases hx)⟩
theorem x3w {w:World} {base:Nat} {v:Value} {L:List Int} (h:w.ownsRow base 2 1 v L.length (ivs L)) (hL:∀x∈L,-9223372036854775808<=x/\x<=9223372036854775807) (hl:L.length<=9223372036854775807):∃r:Rw,v=r.val/\r.R=L/\r.n=L.length/\FrRw w base r:=by
 rcases h.2 with ⟨rfl,E⟩ | ⟨g,A,B,rfl,C,H,G,J,I,K⟩
 ·obtain rfl:=jZ.1 E;exact ⟨⟨none,0,0,[]⟩,rfl,rfl,rfl,x2H _ _⟩
 ·refine ⟨⟨some ⟨g,0,none⟩,L.length,A,L⟩,rfl,rfl,rfl,⟨(OwnRow.ints (base:=base) h hL),hl⟩,fun x hx _=>?_⟩;obtain rfl:x=⟨g,0,none⟩:=by simpa using hx.symm
  exact C
theorem x0Y {s:Rd} {n:Nat} (h:Sm.allB s.R):Sm.allB (s.past n).R:=by
 unfold Rd.past Rd.refuse;split
 ·exact fun x hx=>h x (List.mem_of_mem_drop hx)
 ·split<;>exact h
theorem y01:∀(n:Nat) (s:Rd) (L:List Int),Sm.allB s.R->(∀x∈L,-9223372036854775808<=x/\x<=9223372036854775807)->∀x∈(readN n s L).1,-9223372036854775808<=x/\x<=9223372036854775807
 | 0,s,L,_,h=>h
 | n+1,s,L,hs,h=>by
  show ∀x∈(if s.e=0 then readN n (s.past 8) (L++[s.numV]) else (L,s)).1,_
  split
  ·exact y01 n _ _ (x0Y hs) (fun x hx=>by
    rcases jP.1 hx with hx | hx
    ·exact h x hx
    ·simp only [jW,jV,or_false] at hx
     rw [hx]
     exact y2C hs)
  ·exact h
theorem x8P:∀(n:Nat) (s:Rd) (L:List Int),(readN n s L).1.length<=L.length+n
 | 0,s,L=>jB _
 | n+1,s,L=>by
  show (if s.e=0 then readN n (s.past 8) (L++[s.numV]) else (L,s)).1.length<=_
  split
  ·have:=x8P n (s.past 8) (L++[s.numV])
   simp at this
   omega
  ·simp
theorem y2D:∀(n:Nat) (s:Rd) (L:List Int),Sm.allB s.R->Sm.allB (readN n s L).2.R/\(readN n s L).2.R.length<=s.R.length
 | 0,s,L,h=>⟨h,jB _⟩
 | n+1,s,L,h=>by
  show Sm.allB (if s.e=0 then readN n (s.past 8) (L++[s.numV]) else (L,s)).2.R/\(if s.e=0 then readN n (s.past 8) (L++[s.numV]) else (L,s)).2.R.length<=_
  split
  ·have:=y2D n (s.past 8) (L++[s.numV]) (x0Y h)
   exact ⟨this.1,jJ this.2 (Rd.past_len s 8)⟩
  ·exact ⟨h,jB _⟩
theorem x7U {s:Rd} {m:Int} (h:Sm.allB s.R):Sm.allB (s.rowN m).R:=by
 unfold Rd.rowN;split
 ·exact x0Y h
 ·exact x0Y h
theorem x2h {s:Rd} {m:Int} (h:Sm.allB s.R):∀x∈s.rowV m,-9223372036854775808<=x/\x<=9223372036854775807:=by
 unfold Rd.rowV;split
 ·exact y01 _ _ _ (x7U h) (fun x hx=>by cases hx)
 ·intro x hx;cases hx
theorem x5E {s:Rd} {m:Int} (h:Sm.allB s.R):(s.rowV m).length<=255:=by
 unfold Rd.rowV;split
 ·have A:=x8P (Cm.val (s.part 1)) (s.rowN m) [];have B:=val1 h;unfold Rd.row;simp at A;omega
 ·simp
theorem row_R {s:Rd} {m:Int} (h:Sm.allB s.R):Sm.allB (s.row m).2.R/\(s.row m).2.R.length<=s.R.length:=by
 have:=y2D (Cm.val (s.part 1)) (s.rowN m) [] (x7U h);exact ⟨this.1,jJ this.2 (y41 s m)⟩
theorem x7V {s:Rd} (h:Sm.allB s.R):Sm.allB s.truth.R/\s.truth.R.length<=s.R.length:=by
 unfold Rd.truth;split
 ·exact ⟨x0Y h,Rd.past_len s 1⟩
 ·exact ⟨x0Y h,Rd.past_len s 1⟩
theorem y2E {s:Rd} {m:Int} (h:Sm.allB s.R):Sm.allB (s.count m).R/\(s.count m).R.length<=s.R.length:=by
 unfold Rd.count;split
 ·refine ⟨?_,jJ (Rd.refuse_len _ _) (Rd.past_len s 3)⟩;have:=x0Y (n:=3) h;unfold Rd.refuse;split<;>exact this
 ·exact ⟨x0Y h,Rd.past_len s 3⟩
theorem x8Q {s:Rd} {m:Int} (_h:Sm.allB s.R) (hm:0<=m):0<=s.countV m/\s.countV m<=1048576:=by
 unfold Rd.countV;split<;>omega
def _root_.Go.Proofs.YtenenciaggbjnaaGreat.Rd.entV (s:Rd) (m:Int):PE:=⟨s.truth.rowV m,s.truthV⟩
def _root_.Go.Proofs.YtenenciaggbjnaaGreat.Rd.entN (s:Rd) (m:Int):Rd:=(s.truth.row m).2
def _root_.Go.Proofs.YtenenciaggbjnaaGreat.Rd.k1 (s:Rd):Rd:=s.past 32
def _root_.Go.Proofs.YtenenciaggbjnaaGreat.Rd.k2 (s:Rd):Rd:=s.k1.count 1048576
def _root_.Go.Proofs.YtenenciaggbjnaaGreat.Rd.k3 (s:Rd):Rd:=s.k2.count 1048576
def _root_.Go.Proofs.YtenenciaggbjnaaGreat.Rd.k4 (s:Rd) (m:Int):Rd:=(s.k3.row m).2
def _root_.Go.Proofs.YtenenciaggbjnaaGreat.Rd.k5 (s:Rd) (m:Int):Rd:=((s.k4 m).row m).2
def _root_.Go.Proofs.YtenenciaggbjnaaGreat.Rd.kidN (s:Rd) (m:Int):Rd:=((s.k5 m).row m).2
def _root_.Go.Proofs.YtenenciaggbjnaaGreat.Rd.kidV (s:Rd) (m:Int):PK:=⟨s.digV,s.k3.rowV m,(s.k4 m).rowV m,s.k1.countV 1048576,s.k2.countV 1048576,(s.k5 m).rowV m⟩
theorem ent_R {s:Rd} {m:Int} (h:Sm.allB s.R):Sm.allB (s.entN m).R/\(s.entN m).R.length<=s.R.length:=by
 have B:=x7V h;have A:=row_R (m:=m) B.1;exact ⟨A.1,jJ A.2 B.2⟩
section
variable {s:Rd} {m:Int} (h:Sm.allB s.R)
include h
theorem k1_R:Sm.allB s.k1.R/\s.k1.R.length<=s.R.length:=by
 unfold Rd.k1;exact ⟨x0Y h,Rd.past_len s 32⟩
theorem k2_R:Sm.allB s.k2.R/\s.k2.R.length<=s.R.length:=by
 have B:=k1_R h;have A:=y2E (m:=1048576) B.1;unfold Rd.k2;exact ⟨A.1,jJ A.2 B.2⟩
theorem k3_R:Sm.allB s.k3.R/\s.k3.R.length<=s.R.length:=by
 have B:=k2_R h;have A:=y2E (m:=1048576) B.1;unfold Rd.k3;exact ⟨A.1,jJ A.2 B.2⟩
theorem k4_R:Sm.allB (s.k4 m).R/\(s.k4 m).R.length<=s.R.length:=by
 have B:=k3_R h;have A:=row_R (m:=m) B.1;unfold Rd.k4;exact ⟨A.1,jJ A.2 B.2⟩
theorem k5_R:Sm.allB (s.k5 m).R/\(s.k5 m).R.length<=s.R.length:=by
 have B:=k4_R (m:=m) h;have A:=row_R (m:=m) B.1;unfold Rd.k5;exact ⟨A.1,jJ A.2 B.2⟩
theorem kid_R:Sm.allB (s.kidN m).R/\(s.kidN m).R.length<=s.R.length:=by
 have B:=k5_R (m:=m) h;have A:=row_R (m:=m) B.1;unfold Rd.kidN;exact ⟨A.1,jJ A.2 B.2⟩
end
def PN.keyOf (n:PN):List Int:=if n.kind=2 then (n.rows.headD ⟨[],false⟩).row else if n.kind=3 then (n.kids.headD PK.none).key else []
theorem PN.kinds {n:PN} {d:Int} (h:n.right d=true):(1<=d/\d<=8)/\(∀e∈n.rows,(e.row.length:Int)=d)/\(∀k∈n.kids,k.right d=true)/\
  ((n.kind=1/\n.rows.length=1/\n.kids.length=2)\/(n.kind=2/\1<=n.rows.length/\n.rows.length<=4/\n.kids.length=0)\/(n.kind=3/\n.rows.length=0/\2<=n.kids.length/\n.kids.length<=4/\∀k∈n.kids,(k.key.length:Int)=d)):=by
 rw [PN.right_shape,Bool.and_eq_true,Bool.and_eq_true,Bool.and_eq_true,jY] at h;obtain ⟨⟨⟨B,A⟩,E⟩,C⟩:=h;refine ⟨B,fun e he=>of_decide_eq_true (List.all_eq_true.1 E e he),fun k hkm=>List.all_eq_true.1 C k hkm,?_⟩;unfold PN.shape at A;split at A
 ·rename_i k1
  rw [Bool.and_eq_true,Bool.and_eq_true,jY,jY] at A;exact Or.inl ⟨k1,A.1.1,A.1.2⟩
 ·split at A
  ·rename_i k2
   rw [Bool.and_eq_true,Bool.and_eq_true,Bool.and_eq_true,jY,jY,jY] at A;exact Or.inr (Or.inl ⟨k2,A.1.1.1,A.1.1.2,A.1.2⟩)
  ·split at A
   ·rename_i k3
    rw [Bool.and_eq_true,Bool.and_eq_true,Bool.and_eq_true,jY,jY,jY] at A;exact Or.inr (Or.inr ⟨k3,A.1.1.1,A.1.1.2,A.1.2,fun k hkm=>of_decide_eq_true (List.all_eq_true.1 A.2 k hkm)⟩)
   ·cases A
def y61 (w:World) (R:List Int) (e:Ending) (w':World):Prop:=∃r:Rw,e= .returned r.val/\r.R=R/\FrRw w' w.heap.size r/\Below w.heap.size w w'
theorem y5U {w:World} {base g n c:Nat} {R:List Int} (h:OwnRow w base g n c R) (hR:∀x∈R,-9223372036854775808<=x/\x<=9223372036854775807) (hg:base<=g) (hn:n<=8):FrRw w base ⟨some ⟨g,0,none⟩,n,c,R⟩:=by
 refine ⟨⟨h.ints hR,by show n<=_;omega⟩,fun x hx _=>?_⟩;obtain rfl:x=⟨g,0,none⟩:=by simpa using hx.symm
 exact hg
theorem y62 (kind:Nat) (p:Option Addr) (n c:Nat) (q:Option Addr) (m f:Nat) (E:List En) (K:List Kd) (d:Int) (w:World) (hE:EntsIn w p n c E) (hK:KidsIn w q m f K) (hr:(pnOf kind E K).right d=true):
  Calls Tryz.prog 298 #[.agg #[.int .u8 kind,.slice p n c,.slice q m f]] w (y61 w (pnOf kind E K).keyOf):=by
 have J:=jA w (.cells #[.int .u8 kind,.slice p n c,.slice q m f] 97);have v:=NodeAt.start w kind p n c q m f;obtain ⟨hd,C,H,y⟩:=PN.kinds hr;have HE:=yH (hE.later J);have z:=yH (hK.later J);have M:=yH J;have l:=yH v;have j:=yH hE.size;have Y:=yH hK.size;clear hr J v hE hK;rcases y with ⟨k1,-,-⟩ | ⟨h,X,t,-⟩ | ⟨k3,-,X,t,L⟩
 ·obtain rfl:kind=1:=k1;have I:=yH (show (pnOf 1 E K).keyOf=[] from rfl);clear C H
  go_enter Tryz.func298,Tryz.ntmps298
  go_upto_region 1 with fail
  generalize w.alloc (.cells #[.int .u8 (1:Nat),.slice p n c,.slice q m f] 97)=w1 at *;obtain ⟨x,t1,t2⟩:=l.cells;go_wp2_with fail
  go_ret;exact ⟨⟨none,0,0,[]⟩,rfl,I.symm,x2H _ _,M.out⟩
 ·obtain rfl:kind=2:=h;have s:1<=n:=by rw [j.out];simpa [pnOf] using X
  obtain ⟨g,o,rfl,k,c2,A⟩:=HE.get 0 (by omega);obtain ⟨e,b,rfl⟩:∃e b,E=e::b:=by
   cases E with
   | nil=>have:=j.out;simp at this;omega
   | cons e b=>exact ⟨e,b,rfl⟩
  have I:=yH (show (pnOf 2 (e::b) K).keyOf=e.row.R from rfl);have B:=C e.pe (by simp [pnOf]);have B:(e.row.R.length:Int)=d:=B;simp only [List.getD_cons_zero,Nat.zero_mul,Nat.add_zero] at k A;have W:=A.ints.size;have u:=yH (x4z e.row.p e.row.n e.row.c e.row.R _ A.ints (by omega) (by omega));have U:=yH A.ints.ok;have O:=yH (show e.row.n<=8 from by omega);have i1:(0:Int)<n:=by omega
  unfold Rw.val at k;clear C H c2 B W A X t
  go_enter Tryz.func298,Tryz.ntmps298
  go_upto_region 1 with fail
  generalize w.alloc (.cells #[.int .u8 (2:Nat),.slice (some ⟨g,o,none⟩) n c,.slice q m f] 97)=w1 at *;obtain ⟨x,t1,t2⟩:=l.cells;go_wp2_with (go_at_call 284;refine u.mono ?_;rintro _ w2 ⟨r,h,rfl,Z,G,i⟩;have N:=yH (y5U Z U G O);have Q:=yH (M.trans (i.mono M.size));clear Z G i)
  go_ret;exact ⟨⟨some ⟨r,0,none⟩,e.row.n,h,e.row.R⟩,rfl,I.symm,N.base M.size,Q.out⟩
 ·obtain rfl:kind=3:=k3;have s:2<=m:=by rw [Y.out];simpa [pnOf] using X
  obtain ⟨g,o,rfl,P,A⟩:=z.get 0 (by omega);obtain ⟨e,a,rfl⟩:∃e a,K=e::a:=by
   cases K with
   | nil=>have:=Y.out;simp at this;omega
   | cons e a=>exact ⟨e,a,rfl⟩
  have I:=yH (show (pnOf 3 E (e::a)).keyOf=e.key.R from rfl);have B:=L e.pk (by simp [pnOf]);have B:(e.key.R.length:Int)=d:=B;simp only [List.getD_cons_zero,Nat.zero_mul,Nat.add_zero] at P A;have k:=(x9o P A.len).key;have W:=A.key.ints.size;have u:=yH (x4z e.key.p e.key.n e.key.c e.key.R _ A.key.ints (by omega) (by omega));have U:=yH A.key.ints.ok;have O:=yH (show e.key.n<=8 from by omega);have i1:(0:Int)<m:=by omega
  unfold Rw.val at k;clear C H P B W A X t L
  go_enter Tryz.func298,Tryz.ntmps298
  go_upto_region 1 with fail
  generalize w.alloc (.cells #[.int .u8 (3:Nat),.slice p n c,.slice (some ⟨g,o,none⟩) m f] 97)=w1 at *;obtain ⟨x,t1,t2⟩:=l.cells;go_wp2_with (go_at_call 284;refine u.mono ?_;rintro _ w2 ⟨r,h,rfl,Z,G,i⟩;have N:=yH (y5U Z U G O);have Q:=yH (M.trans (i.mono M.size));clear Z G i)
  go_ret;exact ⟨⟨some ⟨r,0,none⟩,e.key.n,h,e.key.R⟩,rfl,I.symm,N.base M.size,Q.out⟩
end Nd
namespace Dk
open Go.RowKit
def over (L:List Nat) (o:Nat) (P:List Nat):List Nat:=L.take o++P++L.drop (o+P.length)
theorem x9D {L P:List Nat} {o:Nat} (h:o+P.length<=L.length):(over L o P).length=L.length:=by
 simp [over];omega
theorem y63 {L P:List Nat} {o:Nat} (h:Sm.allB L) (k:Sm.allB P):Sm.allB (over L o P):=fun x hx=>by
 simp only [over,jP] at hx
 rcases hx with (hx | hx) | hx
 ·exact h x (List.mem_of_mem_take hx)
 ·exact k x hx
 ·exact h x (List.mem_of_mem_drop hx)
structure D where
 L:List Nat
 n:Nat
 dead:Bool
 left:Int
 torn:Nat
 writes:Nat
structure D.ok (s:D):Prop where
 len:s.L.length=64*s.n
 bytes:Sm.allB s.L
 small:s.n<=4096
 torn:s.torn<=64
 left: -1<=s.left/\s.left<9223372036854775808
def D.new (n:Nat):D:=⟨zeros (64*n),n,false,-1,0,0⟩
theorem D.new_ok {n:Nat} (h:n<=4096):(D.new n).ok:=⟨by simp [D.new,zeros],x2C _,h,by simp [D.new],by simp [D.new]⟩
def D.many (s:D):Nat:=if s.left=0 then s.torn else 64
def D.put (s:D) (i:Nat) (B:List Nat):D:=
 {s with L:=over s.L (64*i) (B.take s.many),dead:=decide (s.left=0),left:=if s.left=0 then -1 else if s.left>0 then s.left - 1 else s.left,writes:=s.writes+1}
def D.no (s:D) (i:Int) (m:Nat):Nat:=if s.dead=true then 30 else if i<0\/(s.n:Int)<=i then 9 else if m≠64 then 1 else 0
def D.says (s:D) (i:Int) (m:Nat):Nat:=if s.no i m=0 then (if s.left=0 then 30 else 0) else s.no i m
theorem D.put_ok {s:D} (h:s.ok) {i:Nat} {B:List Nat} (hi:i<s.n) (hB:Sm.allB B) (hl:B.length=64):(s.put i B).ok:=by
 have C:s.many<=64:=by
  have:=h.torn;unfold D.many;split<;>omega
 have A:=h.len;refine ⟨?_,y63 h.bytes (fun x hx=>hB x (List.mem_of_mem_take hx)),h.small,h.torn,?_⟩
 ·show (over s.L (64*i) (B.take s.many)).length=64*s.n
  rw [x9D (by rw [kX];omega),A]
 ·have:=h.left;simp only [D.put];split
  ·omega
  ·split<;>omega
structure Only (P:Nat->Prop) (w w':World):Prop where
 os:w'.os=w.os
 tape:w'.tape=w.tape
 output:w'.output=w.output
 size:w.heap.size<=w'.heap.size
 block:∀k,k<w.heap.size->¬P k->w'.heap[k]? =w.heap[k]?
theorem Only.refl (P:Nat->Prop) (w:World):Only P w w:=⟨rfl,rfl,rfl,jB _,fun _ _ _=>rfl⟩
theorem Only.trans {P:Nat->Prop} {a b c:World} (h:Only P a b) (k:Only P b c):Only P a c:=
 ⟨k.os.trans h.os,k.tape.trans h.tape,k.output.trans h.output,jJ h.size k.size,fun i hi hp=>(k.block i (jO hi h.size) hp).trans (h.block i hi hp)⟩
theorem Only.mono {P Q:Nat->Prop} {w w':World} (h:Only P w w') (hq:∀k,P k->Q k):Only Q w w':=
 ⟨h.os,h.tape,h.output,h.size,fun k hk hn=>h.block k hk (fun hp=>hn (hq k hp))⟩
theorem Only.of_below (P:Nat->Prop) {w w':World} (h:Below w.heap.size w w'):Only P w w':=⟨h.os,h.tape,h.output,h.size,fun k hk _=>h.block k hk⟩
theorem Only.setCell {P:Nat->Prop} (w:World) {a:Addr} (ha:P a.block) (v:Value):Only P w (w.setCell a v):=
 ⟨rfl,rfl,rfl,by simp [World.setCell],fun k _ hn=>kG _ _ _ _ (fun e=>hn (by rw [e];exact ha))⟩
theorem Only.below {P:Nat->Prop} {w w':World} {base:Nat} (h:Only P w w') (hs:base<=w.heap.size) (hp:∀k,P k->base<=k):Below base w w':=
 ⟨h.os,h.tape,h.output,h.size,fun k hk=>h.block k (by omega) (fun e=>by have:=hp k e;omega)⟩
theorem tx_keep {w w':World} {p:Option Addr} {n c:Nat} {B:List Nat} (h:Tx w p n c B) (hk:∀x,p=some x->B≠[]->w'.heap[x.block]? =w.heap[x.block]?):Tx w' p n c B:=
 ⟨h.size,h.le,h.ok,h.at'.imp id fun ⟨x,hp,hx⟩=>⟨x,hp,fun j u hu=>by
  have h1:=hx j u hu
  have hB:B≠[]:=by rintro rfl;simp [vals] at hu
  have A:(x.add j).block=x.block:=by cases x;simp [Addr.add];split<;>rfl
  rw [jX (w:=w) (by rw [A];exact hk x hp hB)]
  exact h1⟩,h.sp⟩
end Dk
namespace Nd
open Go.RowKit Dk
section
variable {k:Kd} (h:k.sum.length=32)
include h
theorem y2F (r:Rw):k.cells.toArray.setIfInBounds 32 r.val=({k with lo:=r}:Kd).cells.toArray:=by simp [Kd.cells,x00,h]
theorem y2G (r:Rw):k.cells.toArray.setIfInBounds 33 r.val=({k with hi:=r}:Kd).cells.toArray:=by simp [Kd.cells,x00,h]
theorem x5j (x:Int):k.cells.toArray.setIfInBounds 34 (.int .i64 x)=({k with live:=x}:Kd).cells.toArray:=by simp [Kd.cells,x00,h]
theorem x5k (x:Int):k.cells.toArray.setIfInBounds 35 (.int .i64 x)=({k with size:=x}:Kd).cells.toArray:=by simp [Kd.cells,x00,h]
theorem x6k (r:Rw):k.cells.toArray.setIfInBounds 36 r.val=({k with key:=r}:Kd).cells.toArray:=by simp [Kd.cells,x00,h]
end
structure KdSt (w0 w:World) (gx g:Nat) (k:Kd) (s:Rd):Prop where
 res:w.heap[gx]? =some (.cells kd0.cells.toArray 34 (0,0))
 row:w.heap[gx+1]? =some (.cells k.cells.toArray 34 (0,0))
 rd:RSx w g s
 gr:w0.grownBy w (some g)
 len:k.sum.length=32
 at':w0.heap.size=gx/\g<gx
 lo:FrRw w (gx+2) k.lo
 hi:FrRw w (gx+2) k.hi
 key:FrRw w (gx+2) k.key
section
variable {w0 w w':World} {gx g:Nat} {k k':Kd} {s s':Rd}
theorem KdSt.call (h:KdSt w0 w gx g k s) (hr:RSx w' g s') (hg:w.grownBy w' (some g)):KdSt w0 w' gx g k s':=by
 have B:=h.at';have A:∀j,gx+2<=j->j<w.heap.size->w'.heap[j]? =w.heap[j]? :=fun j hj hl=>hg.block j hl (by simp;omega);exact ⟨(hg.block gx (yL h.res) (by simp;omega)).trans h.res,(hg.block (gx+1) (yL h.row) (by simp;omega)).trans h.row,hr,x0o h.gr hg,h.len,B,h.lo.keep A,h.hi.keep A,h.key.keep A⟩
theorem KdSt.put (h:KdSt w0 w gx g k s) (hr:w'.heap[gx+1]? =some (.cells k'.cells.toArray 34 (0,0))) (ho:Only (fun j=>j=gx+1) w w') (hl:k'.sum.length=32) (h1:FrRw w (gx+2) k'.lo) (h2:FrRw w (gx+2) k'.hi) (h3:FrRw w (gx+2) k'.key):KdSt w0 w' gx g k' s:=by
 have E:=h.at';have C:∀j,gx+2<=j->j<w.heap.size->w'.heap[j]? =w.heap[j]? :=fun j hj hl=>ho.block j hl (by omega);have A:Below (gx+1) w w':=ho.below (by have:=(yL h.row);omega) (fun j hj=>by omega);exact ⟨(A.block gx (by omega)).trans h.res,hr,h.rd.low (A.mono (by omega)),x19 h.gr (B:=gx+1) (by omega) A A.size,hl,E,h1.keep C,h2.keep C,h3.keep C⟩
theorem KdSt.cell (h:KdSt w0 w gx g k s):KAt w (gx+1) 0 k:=x0N h.row h.len
end
theorem x1P (w:World) (g o:Nat) (vs:List Value):Only (fun j=>j=g) w (w.setCells g o vs):=by
 obtain ⟨E,A,C,B⟩:=x0S g vs o w;exact ⟨A,C,B,by omega,fun j _ hj=>x0X g vs o w j hj⟩
theorem x7W {w:World} {g:Nat} {k:Kd} (h:w.heap[g]? =some (.cells k.cells.toArray 34 (0,0))) (hl:k.sum.length=32):w.there g 0 32:=fun j hj=>by
 refine ⟨?_,jS w g _ _ _ h⟩
 rw [jH w g _ _ _ _ h]
 rw [Array.getElem?_eq_getElem (by rw [jF,Kd.cells_length hl];omega)]
 rfl
theorem y2H {w:World} {g:Nat} {k:Kd} {D:List Nat} (h:w.heap[g]? =some (.cells k.cells.toArray 34 (0,0))) (hl:k.sum.length=32) (hD:D.length=32):(w.setCells g 0 (vals D)).heap[g]? =some (.cells ({k with sum:=D}:Kd).cells.toArray 34 (0,0)):=by
 have:=x0R g 34 (vals D) [] (vals k.sum) [k.lo.val,k.hi.val,.int .i64 k.live,.int .i64 k.size,k.key.val] w (by simpa [Kd.cells] using h) (by rw [x00,x00,hl,hD])
 simpa [Kd.cells] using this
def RKid (w:World) (g:Nat) (k:PK) (s:Rd) (e:Ending) (w':World):Prop:=
 ∃kd:Kd,e= .returned (.agg kd.cells.toArray)/\kd.pk=k/\kd.Ok w'/\FrRw w' w.heap.size kd.lo/\FrRw w' w.heap.size kd.hi/\FrRw w' w.heap.size kd.key/\RSx w' g s/\w.grownBy w' (some g)
theorem x9E (s:Rd) (g:Nat) (w:World) (hs:RSx w g s) (hl:s.R.length<1099511627776):
  Calls Tryz.prog 188 #[.pointer (some ⟨g,0,none⟩)] w (RKid w g (s.kidV 8) (s.kidN 8)):=by
 have M:Sm.allB s.R:=by obtain ⟨p,n,c,h⟩:=hs;exact h.tx.ok
 obtain ⟨V,hV⟩:∃V,s.kidV 8=V:=⟨_,rfl⟩
 obtain ⟨sN,hN⟩:∃t,s.kidN 8=t:=⟨_,rfl⟩
 rw [hV,hN];have hV:(⟨s.digV,s.k3.rowV 8,(s.k4 8).rowV 8,s.k1.countV 1048576,s.k2.countV 1048576,(s.k5 8).rowV 8⟩:PK)=V:=hV;have hN:((s.k5 8).row 8).2=sN:=hN;have h1:=k1_R M;have h2:=k2_R M;have B:=k3_R M;have h4:=k4_R (m:=8) M;have h5:=k5_R (m:=8) M;have AD:=yH (x8Q (m:=1048576) h1.1 (by omega));have AI:=yH (x8Q (m:=1048576) h2.1 (by omega));have Aj:=yH (x2h (m:=8) B.1);have Ae:=yH (x2h (m:=8) h4.1);have Af:=yH (x2h (m:=8) h5.1);have Al:=yH (x5E (m:=8) B.1);have AU:=yH (x5E (m:=8) h4.1);have AY:=yH (x5E (m:=8) h5.1);have f:=yH (x3i s);have Ah:=yH (y2B M);have AP:=yH (fun w1 (h:RSx w1 g s)=>x9C s g w1 h hl);have AH:=yH (fun w1 (h:RSx w1 g s.k1)=>x6j s.k1 1048576 g w1 h (Nat.lt_of_le_of_lt h1.2 hl));have AL:=yH (fun w1 (h:RSx w1 g s.k2)=>x6j s.k2 1048576 g w1 h (Nat.lt_of_le_of_lt h2.2 hl));have AO:=yH (fun w1 (h:RSx w1 g s.k3)=>x5D s.k3 g w1 h (Nat.lt_of_le_of_lt B.2 hl));have AM:=yH (fun w1 (h:RSx w1 g (s.k4 8))=>x5D (s.k4 8) g w1 h (Nat.lt_of_le_of_lt h4.2 hl));have AJ:=yH (fun w1 (h:RSx w1 g (s.k5 8))=>x5D (s.k5 8) g w1 h (Nat.lt_of_le_of_lt h5.2 hl));rw [show s.past 32=s.k1 from rfl] at AP;rw [show s.k1.count 1048576=s.k2 from rfl] at AH;rw [show s.k2.count 1048576=s.k3 from rfl] at AL;rw [show (s.k3.row 8).2=s.k4 8 from rfl] at AO;rw [show ((s.k4 8).row 8).2=s.k5 8 from rfl] at AM;rw [hN] at AJ;clear h1 h2 B h4 h5 hN M;generalize s.digV=D at *;generalize s.k1.countV 1048576=cl at *;generalize s.k2.countV 1048576=cz at *;generalize s.k3.rowV 8=A3 at *;generalize (s.k4 8).rowV 8=A4 at *;generalize (s.k5 8).rowV 8=A5 at *;generalize s.k1=s1 at *;generalize s.k2=s2 at *;generalize s.k3=s3 at *;generalize s.k4 8=s4 at *;generalize s.k5 8=s5 at *;have HV:=yH hV;clear hV;have hz:=(zero_of_info kz).1;have hg:g<w.heap.size:=hs.lt;have AG:=jA w (.cells kd0.cells.toArray 34);have r1:=jE w (.cells kd0.cells.toArray 34);have z1:(w.alloc (.cells kd0.cells.toArray 34)).heap.size=w.heap.size+1:=by simp
 go_enter Tryz.func188,Tryz.ntmps188
 go_upto_region 1 with fail
 generalize w.alloc (.cells kd0.cells.toArray 34)=w1 at *;have o:=jA w1 (.cells kd0.cells.toArray 34);have r2:=jE w1 (.cells kd0.cells.toArray 34);rw [z1] at r2;go_upto_region 2 with fail
 generalize w1.alloc (.cells kd0.cells.toArray 34)=w2 at *;have U:Below w.heap.size w w2:=AG.trans (o.mono (by omega));obtain ⟨A,i⟩:∃A,A=w.heap.size:=⟨_,rfl⟩
 have H2:=yH (show KdSt w w2 A g kd0 s from by
  rw [i];exact ⟨(o.block w.heap.size (by omega)).trans r1,r2,hs.later U,x1h U _,by simp [kd0,zeros],⟨rfl,hg⟩,x2H _ _,x2H _ _,x2H _ _⟩)
 have AA:=yH i;rw [<- i];clear AG r1 z1 o r2 U hs hl hg i hz;clear w1;have I:=yH (AP.out w2 H2.rd);go_upto_region 3 with (first
  | (go_at_call 245;refine I.mono ?_;rintro e w3 ⟨rfl,B,K⟩;have H3:=yH (H2.call B K);clear B K)
  | (refine wpList_store_mid (by rfl) 30 _ _ (by rfl) (A+1) 0 (u8s D) (by rfl) (by rfl) (by rw [x0C,f.out];exact x7W H3.row H3.len) (by rw [x0C,f.out];exact S25) (x0f _) ?_))
 have C:=y2H (D:=D) H3.row H3.len f;have H4:=yH (H3.put (k':={kd0 with sum:=D}) C (x1P _ _ _ _) f (x2H _ _) (x2H _ _) (x2H _ _));clear C H3 I H2;rw [show (u8s D).toList=vals D from rfl];generalize w3.setCells (A+1) 0 (vals D)=w4 at *;have I:=yH (AH.out w4 H4.rd);go_upto_region 4 with (go_at_call 246;refine I.mono ?_;rintro e w5 ⟨rfl,B,K⟩;have Y:=yH (H4.call B K);have L:=Y.cell.live;rw [Nat.zero_add] at L;have k:=jS w5 (A+1) 34 _ _ Y.row;clear B K)
 have C:=jU w5 (A+1) 34 _ _ (.int .i64 cl) Y.row;rw [x5j Y.len] at C;have H6:=yH (Y.put C (Only.setCell (P:=fun j=>j=A+1) _ (a:=⟨A+1,34,none⟩) rfl _) Y.len Y.lo Y.hi Y.key);clear C L k I Y H4;generalize w5.setCell ⟨A+1,34,none⟩ (.int .i64 cl)=w6 at *;have I:=yH (AL.out w6 H6.rd);go_upto_region 5 with (go_at_call 246;refine I.mono ?_;rintro e w7 ⟨rfl,B,K⟩;have X:=yH (H6.call B K);have L:=X.cell.size;rw [Nat.zero_add] at L;have k:=jS w7 (A+1) 35 _ _ X.row;clear B K)
 have C:=jU w7 (A+1) 35 _ _ (.int .i64 cz) X.row;rw [x5k X.len] at C;have H8:=yH (X.put C (Only.setCell (P:=fun j=>j=A+1) _ (a:=⟨A+1,35,none⟩) rfl _) X.len X.lo X.hi X.key);clear C L k I X H6;generalize w7.setCell ⟨A+1,35,none⟩ (.int .i64 cz)=w8 at *;have I:=yH (AO.out w8 H8.rd);go_upto_region 6 with (go_at_call 244;refine I.mono ?_;rintro e w9 ⟨v9,rfl,l,B,K⟩;obtain ⟨q3,rfl,H,-,J⟩:=x3w l Aj (by have:=Al.out;omega);have AN:=yH J;have Ab:=yH H;have Z3:=yH (show A+2<=w8.heap.size from (yL H8.row));have b:=yH (H8.call B K);have L:=b.cell.lo;rw [Nat.zero_add] at L;have k:=jS w9 (A+1) 32 _ _ b.row;clear B K l J H;unfold Rw.val at L;unfold Rw.val)
 have C:=jU w9 (A+1) 32 _ _ q3.val b.row;rw [y2F b.len] at C;have W:=yH (b.put C (Only.setCell (P:=fun j=>j=A+1) _ (a:=⟨A+1,32,none⟩) rfl _) b.len (AN.base Z3) b.hi b.key);clear C L k I b H8 AN Z3;unfold Rw.val at W;generalize w9.setCell ⟨A+1,32,none⟩ (.slice q3.p q3.n q3.c)=w10 at *;have I:=yH (AM.out w10 W.rd);go_upto_region 7 with (go_at_call 244;refine I.mono ?_;rintro e z ⟨v9,rfl,l,B,K⟩;obtain ⟨q4,rfl,H,-,J⟩:=x3w l Ae (by have:=AU.out;omega);have AE:=yH J;have Ad:=yH H;have Z4:=yH (show A+2<=w10.heap.size from (yL W.row));have E:=yH (W.call B K);have L:=E.cell.hi;rw [Nat.zero_add] at L;have k:=jS z (A+1) 33 _ _ E.row;clear B K l J H;unfold Rw.val at L;unfold Rw.val)
 have C:=jU z (A+1) 33 _ _ q4.val E.row;rw [y2G E.len] at C;have Q:=yH (E.put C (Only.setCell (P:=fun j=>j=A+1) _ (a:=⟨A+1,33,none⟩) rfl _) E.len E.lo (AE.base Z4) E.key);clear C L k I E W AE Z4;unfold Rw.val at Q;generalize z.setCell ⟨A+1,33,none⟩ (.slice q4.p q4.n q4.c)=w12 at *;have I:=yH (AJ.out w12 Q.rd);go_upto_region 8 with (go_at_call 244;refine I.mono ?_;rintro e v ⟨v9,rfl,l,B,K⟩;obtain ⟨q5,rfl,H,-,J⟩:=x3w l Af (by have:=AY.out;omega);have A8:=yH J;have Ak:=yH H;have Z5:=yH (show A+2<=w12.heap.size from (yL Q.row));have G:=yH (Q.call B K);have L:=G.cell.key;rw [Nat.zero_add] at L;have k:=jS v (A+1) 36 _ _ G.row;clear B K l J H;unfold Rw.val at L;unfold Rw.val)
 have C:=jU v (A+1) 36 _ _ q5.val G.row;rw [x6k G.len] at C;have y:=yH (G.put C (Only.setCell (P:=fun j=>j=A+1) _ (a:=⟨A+1,36,none⟩) rfl _) G.len G.lo G.hi (A8.base Z5));clear C L k I G Q A8 Z5;unfold Rw.val at y;generalize v.setCell ⟨A+1,36,none⟩ (.slice q5.p q5.n q5.c)=w14 at *;have N:=yH (show KdSt w w14 A g (⟨D,q3,q4,cl,cz,q5⟩:Kd) sN from y.out);clear y;obtain ⟨O,d⟩:∃O:Kd,(⟨D,q3,q4,cl,cz,q5⟩:Kd)=O:=⟨_,rfl⟩
 have AV:=yH (show O.pk=V from by rw [<- d,<- HV.out,<- Ab.out,<- Ad.out,<- Ak.out];rfl);have u:=yH (show In64 O.live/\In64 O.size/\Sm.allB O.sum from by rw [<- d];exact ⟨⟨by have:=AD.out;show -9223372036854775808<=cl;omega,by have:=AD.out;show cl<=9223372036854775807;omega⟩,⟨by have:=AI.out;show -9223372036854775808<=cz;omega,by have:=AI.out;show cz<=9223372036854775807;omega⟩,Ah.out⟩);rw [d] at N;clear d;obtain ⟨du,AF,AB⟩:=UKd;have HD:=yH AF;have AC:=yH AB;have Z:=yH (Kd.cells_length N.len);have Ac:=yH (x0E N.row);clear AF AB;go_wp2_with (first
  | (refine jK (by rfl) 34 _ (by rfl) _ 0 (by rfl) O.cells du Ac HD AC (by rw [Z.out];exact SKd) ?_)
  | (refine jL (by rfl) 34 _ _ (by rfl) A O.cells.toArray (by rfl) (by rfl) _ _ N.res (by rw [jF,Z.out];exact SKd) (by simp only [jF,Z.out,x02]) (jN Kd.one) ?_))
 have r9:=jT _ A _ O.cells.toArray _ _ N.res;have x:Below A w14 (w14.setRow A O.cells.toArray):=Below.setRow (jC _ _) (jB _) _;have q:∀r:Rw,FrRw w14 (A+2) r->FrRw (w14.setRow A O.cells.toArray) w.heap.size r:=fun r h=>(h.keep (fun j hj _=>setRow_other _ _ _ _ (by omega))).base (by have:=AA.out;omega);have f1:=q _ N.lo;have f2:=q _ N.hi;have f3:=q _ N.key;refine x1U 2 (by kernel_rfl) A _ _ HD AC (by rw [jF,Z.out];exact SKd) (by rfl) r9 ⟨O,rfl,AV.out,⟨N.len,u.2.2,f1.ok,f2.ok,f3.ok,u.1,u.2.1⟩,f1,f2,f3,N.rd.low (x.mono (by have:=N.at';omega)),x19 N.gr (show w.heap.size<=A by have:=AA.out;omega) x x.size⟩
end Nd
namespace Nd
open Go.RowKit
theorem UEs:Tryz.prog.underlying 94=some (.slice 101):=by kernel_rfl
theorem UKs:Tryz.prog.underlying 95=some (.slice 34):=by kernel_rfl
theorem IEn:(Tryz.prog.info? 101).map (fun i=>(i.zero,i.size,i.bytes))=some (some (.agg #[.slice none 0 0,.bool false]),2,32):=by kernel_rfl
theorem IKd:(Tryz.prog.info? 34).map (fun i=>(i.zero,i.size,i.bytes))=some (some (.agg kd0.cells.toArray),37,120):=by kernel_rfl
def En.cells (e:En):List Value:=[e.row.val,.bool e.live]
def Kd.rows (k:Kd):List Rw:=[k.lo,k.hi,k.key]
def En.rows (e:En):List Rw:=[e.row]
structure Lst {α:Type} (t:TypeId) (sz:Nat) (cells:α->List Value) (rows:α->List Rw) (B:Nat) (w:World) (v:Value) (n:Nat) (L:List α):Prop where
 len:n=L.length
 own:w.ownsRow B t sz v n (L.flatMap cells)
 each:∀e∈L,∀r∈rows e,FrRw w B r/\∀x,r.p=some x->r.R≠[]->v.ownBlock≠some x.block
section
variable {α:Type} {t:TypeId} {sz:Nat} {cells:α->List Value} {rows:α->List Rw} {B:Nat} {w w':World} {v v':Value} {n:Nat} {L:List α}
theorem Lst.nil (w:World):Lst t sz cells rows B w (.slice none 0 0) 0 ([]:List α):=⟨rfl,World.ownsRow_nil _ _ _ _,fun e he=>by cases he⟩
theorem Lst.keep (h:Lst t sz cells rows B w v n L) (hk:∀k,B<=k->k<w.heap.size->w'.heap[k]? =w.heap[k]?):Lst t sz cells rows B w' v n L:=by
 refine ⟨h.len,⟨h.own.1,h.own.2.imp id ?_⟩,fun e he r hr=>⟨(h.each e he r hr).1.keep hk,(h.each e he r hr).2⟩⟩;rintro ⟨g,A,C,H,E,G,r⟩;exact ⟨g,A,C,H,E,(hk g E (yL G)).trans G,r⟩
theorem Lst.later (h:Lst t sz cells rows B w v n L) (hb:Below w.heap.size w w'):Lst t sz cells rows B w' v n L:=h.keep fun k _ hk=>hb.block k hk
theorem Lst.grown (h:Lst t sz cells rows B w v n L) {g:Nat} (hg:w.grownBy w' (some g)) (hlt:g<B):Lst t sz cells rows B w' v n L:=h.keep fun k hB hk=>hg.block k hk (by simp;omega)
theorem Lst.put (h:Lst t sz cells rows B w v n L) {e:α} (he:∀r∈rows e,FrRw w B r/\∀x,r.p=some x->r.R≠[]->v.ownBlock≠some x.block) (hown:w'.ownsRow B t sz v' (n+1) (L.flatMap cells++cells e)) (hg:w.grownBy w' v.ownBlock) (hat:v'.ownBlock=v.ownBlock\/v'.ownBlock=some w.heap.size):Lst t sz cells rows B w' v' (n+1) (L++[e]):=by
 have C:∀r:Rw,(FrRw w B r/\∀x,r.p=some x->r.R≠[]->v.ownBlock≠some x.block)->FrRw w' B r/\∀x,r.p=some x->r.R≠[]->v'.ownBlock≠some x.block:=fun r hr=>by
  refine ⟨⟨rw_keep hr.1.ok fun x hx hR=>hg.block _ (hr.1.lt x hx hR) (fun e=>hr.2 x hx hR e.symm),hr.1.lo⟩,fun x hx hR e=>?_⟩;rcases hat with A | A
  ·exact hr.2 x hx hR (A.symm.trans e)
  ·rw [A] at e;have:=hr.1.lt x hx hR;have E:w.heap.size=x.block:=Option.some.inj e;omega
 refine ⟨by rw [jQ,<- h.len];rfl,by rw [List.flatMap_append];simpa using hown,fun E he' r hr=>?_⟩;rcases jP.1 he' with A | A
 ·exact C r (h.each E A r hr)
 ·simp only [jW,jV,or_false] at A;subst A;exact C r (he r hr)
theorem Lst.form (h:Lst t sz cells rows B w v n L):∃q c,v= .slice q n c/\n<=c:=by
 rcases h.own.2 with ⟨rfl,G⟩ | ⟨g,A,C,rfl,_,_,E,_⟩
 ·exact ⟨none,0,by rw [G],by omega⟩
 ·exact ⟨_,A,rfl,E⟩
theorem y02 (hc:∀e∈L,(cells e).length=sz):∀(i j:Nat) (u:Value) [Inhabited α],i<L.length->(cells (L.getD i default))[j]? =some u->(L.flatMap cells)[i*sz+j]? =some u:=by
 intro i j u _ hi A
 induction L generalizing i with
 | nil=>simp at hi
 | cons a L ih=>
  have B:=hc a (by simp);rw [List.flatMap_cons];cases i with
  | zero=>
   rw [Nat.zero_mul,Nat.zero_add];have A:(cells a)[j]? =some u:=by simpa using A
   rw [kR (List.getElem?_eq_some_iff.1 A).1];exact A
  | succ i=>
   rw [kS (by rw [B,Nat.succ_mul];omega),B,Nat.succ_mul,show i*sz+sz+j - sz=i*sz+j by omega];exact ih (fun e he=>hc e (by simp [he])) i (by simpa using hi) (by simpa using A)
theorem Lst.range [Inhabited α] {q:Option Addr} {c:Nat} (h:Lst t sz cells rows B w (.slice q n c) n L) (hc:∀e∈L,(cells e).length=sz):L=[]\/∃g,q=some ⟨g,0,none⟩/\∀i,i<L.length->w.rangeAt g (i*sz) (cells (L.getD i default)):=by
 rcases h.own.2 with ⟨_,H⟩ | ⟨g,I,G,E,N,K,J,O,M,P⟩
 ·exact Or.inl (jZ.1 (by rw [<- h.len];exact H))
 ·simp only [Value.slice.injEq,true_and] at E;obtain ⟨rfl,rfl⟩:=E;refine Or.inr ⟨g,rfl,fun i hi j u hu=>?_⟩;have C:=y02 hc i j u hi hu;have A:=(List.getElem?_eq_some_iff.1 C).1;rw [World.ownsRow.cellAt h.own (i*sz+j) (by rw [<- h.own.1];exact A),C]
end
abbrev Ens (B:Nat):=Lst 101 2 En.cells En.rows B
structure Kds (B:Nat) (w:World) (v:Value) (n:Nat) (K:List Kd):Prop where
 lst:Lst 34 37 Kd.cells Kd.rows B w v n K
 good:∀k∈K,k.sum.length=32/\Sm.allB k.sum/\In64 k.live/\In64 k.size
theorem Ens.ents {B:Nat} {w:World} {q:Option Addr} {n c:Nat} {E:List En} (h:Ens B w (.slice q n c) n E) (hn:n<=9223372036854775807):EntsIn w q n c E:=by
 have I:n<=c:=by
  obtain ⟨K,J,e,C⟩:=h.form;cases e
  exact C
 refine ⟨h.len,I,hn,fun e he=>(h.each e he e.row (by simp [En.rows])).1.ok,?_⟩;rcases h.range (fun e _=>rfl) with H | ⟨g,G,A⟩
 ·exact Or.inl H
 ·exact Or.inr ⟨g,0,G,fun i hi=>⟨by have:=A i hi 0 _ rfl;simpa using this,by have:=A i hi 1 _ rfl;simpa using this⟩⟩
theorem Kds.kids {B:Nat} {w:World} {q:Option Addr} {n c:Nat} {K:List Kd} (h:Kds B w (.slice q n c) n K) (hn:n<=9223372036854775807):KidsIn w q n c K:=by
 have I:n<=c:=by
  obtain ⟨L,J,e,E⟩:=h.lst.form;cases e
  exact E
 have A:=fun k hk r A=>(h.lst.each k hk r A).1.ok;refine ⟨h.lst.len,I,hn,fun k hk=>⟨(h.good k hk).1,(h.good k hk).2.1,A k hk k.lo (by simp [Kd.rows]),A k hk k.hi (by simp [Kd.rows]),A k hk k.key (by simp [Kd.rows]),(h.good k hk).2.2.1,(h.good k hk).2.2.2⟩,?_⟩;rcases h.lst.range (fun k hk=>Kd.cells_length (h.good k hk).1) with H | ⟨g,G,C⟩
 ·exact Or.inl H
 ·exact Or.inr ⟨g,0,G,fun i hi=>by have:=C i hi;simpa using this⟩
theorem y47 (q:Option Addr) (m c:Nat) (b:Bool):Instr.fill (fun i=>some (i*2,2)) ((Array.range (1*2)).map ((Value.agg #[.slice none 0 0,.bool false]).cells[·%(Value.agg #[.slice none 0 0,.bool false]).cells.size]!)) [(0,.agg #[.slice q m c,.bool b])]=some #[.slice q m c,.bool b]:=by kernel_rfl
theorem y48 (q1 q2 q3:Option Addr) (m1 c1 m2 c2 m3 c3:Nat) (x y:Int):∀(D:List Nat),D.length=32->Instr.fill (fun i=>some (i*37,37)) ((Array.range (1*37)).map ((Value.agg kd0.cells.toArray).cells[·%(Value.agg kd0.cells.toArray).cells.size]!)) [(0,.agg (vals D++[Value.slice q1 m1 c1,.slice q2 m2 c2,.int .i64 x,.int .i64 y,.slice q3 m3 c3]).toArray)]=some ((vals D++[Value.slice q1 m1 c1,.slice q2 m2 c2,.int .i64 x,.int .i64 y,.slice q3 m3 c3]).toArray)
 |[a0,a1,a2,a3,a4,a5,a6,a7,a8,a9,a10,a11,a12,a13,a14,a15,a16,a17,a18,a19,a20,a21,a22,a23,a24,a25,a26,a27,a28,a29,a30,a31],_=>by kernel_rfl
theorem x1Q {w:World} {o:Oper} {a:Act} {K:Act->World->Prop} {Q:Exit->Act->World->Prop} (x:Operand) (ho:o.op= .buildSlice 94 1 #[(0,x)]) {q:Option Addr} {m c:Nat} {b:Bool} (hx:a.eval x= .agg #[.slice q m c,.bool b])
  (h:K (a.put o.dst (.slice (some ⟨w.heap.size,0,none⟩) 1 1)) (w.alloc (.cells #[.slice q m c,.bool b] 101))):o.wp Tryz.prog a w K Q:=by
 obtain ⟨i,C,B,A,E⟩:=info_parts IEn;refine wp_buildSlice 94 101 1 #[(0,x)] ho _ i _ UEs C B (by rw [A];omega) (by rw [A];omega) ?_ h;rw [A];simp only [kA,kB,kC,hx];exact y47 q m c b
theorem x4W {w:World} {o:Oper} {a:Act} {K:Act->World->Prop} {Q:Exit->Act->World->Prop} (x:Operand) (ho:o.op= .buildSlice 95 1 #[(0,x)]) {k:Kd} (hk:k.sum.length=32) (hx:a.eval x= .agg k.cells.toArray)
  (h:K (a.put o.dst (.slice (some ⟨w.heap.size,0,none⟩) 1 1)) (w.alloc (.cells k.cells.toArray 34))):o.wp Tryz.prog a w K Q:=by
 obtain ⟨i,C,B,A,E⟩:=info_parts IKd;refine wp_buildSlice 95 34 1 #[(0,x)] ho k.cells.toArray i _ UKs C B (by rw [A];omega) (by rw [A];omega) ?_ h;rw [A];simp only [kA,kB,kC,hx];exact y48 _ _ _ _ _ _ _ _ _ _ _ k.sum hk
theorem En.one {e:En}:∀u∈e.cells,u.oneCell'=true:=by
 intro u hu;simp only [En.cells,jW,jV,or_false] at hu;rcases hu with rfl | rfl<;>rfl
theorem y49 (w:World) (e:En):∀j u,e.cells[j]? =some u->(w.alloc (.cells #[.slice e.row.p e.row.n e.row.c,.bool e.live] 101)).cell? ((⟨w.heap.size,0,none⟩:Addr).add j)=some u:=fun j u hu=>by
 rw [Addr.add_mid,Nat.zero_add,jH _ w.heap.size j _ _ _ (jE w _)]
 simpa [En.cells,Rw.val] using hu
theorem x7X (w:World) (k:Kd):∀j u,k.cells[j]? =some u->(w.alloc (.cells k.cells.toArray 34)).cell? ((⟨w.heap.size,0,none⟩:Addr).add j)=some u:=fun j u hu=>by
 rw [Addr.add_mid,Nat.zero_add,jH _ w.heap.size j _ _ _ (jE w _)]
 simpa using hu
end Nd
end Go.Proofs.YtenenciaggbjnaaGreat
