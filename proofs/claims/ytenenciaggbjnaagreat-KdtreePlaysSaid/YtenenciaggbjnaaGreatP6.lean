/- NlWriteKid, NlEncode, CodR, CodRV, CodRByte, CodRLow, CodRCount, NdRd, NlReads, NlRow. -/
import Derived.Lib.BitFns
import Derived.Lib.MinMax
import Derived.Test.YtenenciaggbjnaaGreatP5
set_option maxRecDepth 100000
set_option maxHeartbeats 8000000
set_option linter.all false
namespace Go.Proofs.YtenenciaggbjnaaGreat
namespace Nd
open Go.RowKit
structure PK.Fit (k:PK):Prop where
 live:0<=k.live/\k.live<=1048576
 size:0<=k.size/\k.size<=1048576
 lo:k.lo.length<=8
 hi:k.hi.length<=8
 key:k.key.length<=8
theorem x2W {w:World} {x:Addr} {p:Option Addr} {n c:Nat} {R:List Int} (h:Ints w p n c R) (hx:p=some x) (hR:R≠[]):x.block<w.heap.size:=by
 rcases h.at' with C | ⟨g,o,A,B⟩
 ·exact absurd C hR
 ·rw [hx] at A;obtain rfl:x=⟨g,o,Option.none⟩:=by simpa using A
  have:=B 0 (kP.2 hR);exact jI this
theorem y3z {R:List Int} (h:R.length<=8):rowB R=rowBs R:=by
 unfold rowB rowBs;rw [Nat.mod_eq_of_lt (by omega)]
theorem x7R {s:St} {R:List Int} (h:R.length<=8):s.row' R=s.put (rowBs R):=by
 unfold St.row';rw [if_pos (by omega),y3z h]
theorem x8O {s:St} {n:Int} (h:0<=n/\n<=1048576):s.count n=s.put (Cm.be n.toNat 3):=by
 unfold St.count;rw [if_pos h]
structure WkSt (w0:World) (gx:Nat) (kd:Kd) (w:World) (g:Nat) (v:Value) (s:St):Prop where
 ws:WS w w0.heap.size g v s
 row:w.heap[gx]? =some (.cells kd.cells.toArray 34 (0,0))
 ne:v.ownBlock≠some gx
 ng:gx≠g
 low:Below w0.heap.size w0 w
 lg:w0.heap.size<=g
theorem WkSt.step {w0 w w':World} {gx g:Nat} {kd:Kd} {v v':Value} {s s':St} (h:WkSt w0 gx kd w g v s) (hs:WS w' w0.heap.size g v' s') (k:WStep w w' g v v'):WkSt w0 gx kd w' g v' s':=
 ⟨hs,(k.block _ (yL h.row) h.ng h.ne).trans h.row,fun e=>by
  rcases k.own _ e with h1 | h1
  ·exact h.ne h1
  ·have:=(yL h.row)
   omega,h.ng,h.low.trans (k.below h.lg (fun j hj=>(h.ws.own.lt j hj).1) h.low.size),h.lg⟩
theorem WkSt.start {w0 w:World} {g:Nat} {kd:Kd} {v:Value} {s:St} (h:WS w w0.heap.size g v s) (hl:Below w0.heap.size w0 w) (hg:w0.heap.size<=g):WkSt w0 w.heap.size kd (w.alloc (.cells kd.cells.toArray 34)) g v s:=
 ⟨h.later (jA _ _),jE w _,(fun e=>by have:=(h.own.lt _ e).2;omega),(fun e=>by have:=h.lt;omega),hl.alloc hl.size _,hg⟩
theorem y40 (w0:World) (kd:Kd) (hk:kd.Ok w0) (hf:kd.pk.Fit) (s:St) (g:Nat) (v:Value) (w:World) (hs:WS w w0.heap.size g v s) (hl:s.B.length+2000<1099511627776) (hlow:Below w0.heap.size w0 w) (hg:w0.heap.size<=g):
  Calls Tryz.prog 296 #[.pointer (some ⟨g,0,Option.none⟩),.agg kd.cells.toArray] w (WPost w w0.heap.size g v (s.put kd.pk.bytes)):=by
 have o:=WkSt.start (kd:=kd) hs hlow hg;have L:=yH hk.len;have z:=yH hk.ok;have W:=yH hk;have r:=yH hf;have m:=yH hl;have HA:=yH (WStep.alloc w g v (.cells kd.cells.toArray 34));have AB:w.heap.size=w.heap.size:=rfl;have t:=yH hk.live;have u:=yH hk.size;clear hk hf hl hs hlow hg
 go_enter Tryz.func296,Tryz.ntmps296
 go_upto_region 1 with fail
 generalize w.alloc (.cells kd.cells.toArray 34)=w1 at *;generalize w.heap.size=gx at *;have f:=yH o;clear o AB;have C:s.B.length<=s.B.length+0:=by omega
 have K9:=yH (x0N f.out.row L.out);have I:=yH (x98 s kd.sum L.out z.out w0.heap.size g v w1 f.out.ws (by have:=m.out;omega) f.out.low.size);clear C;go_upto_region 2 with (first
  | (refine jK (by rfl) 30 _ (by rfl) _ 0 (by rfl) (vals kd.sum) _ K9.out.sum A25 (by rfl) (by rw [x00,L.out];exact S25) ?_;rw [x07])
  | (go_at_call 320;refine I.out.mono ?_;rintro _ w2 ⟨rfl,v1,U,K⟩;have a:=yH (f.out.step U K);have A2:=yH ((WStep.refl _ _ _).trans K);clear U K))
 have H:=St.put_len s kd.sum;rw [L.out] at H;have A:(s.put kd.sum).B.length<=s.B.length+32:=by omega
 have c:=yH A;obtain ⟨s1,E⟩:∃s1,s.put kd.sum=s1:=⟨_,rfl⟩
 rw [E] at a c;have AC:=yH E;clear E H A I K9;have C:s1.B.length<=s.B.length+32:=c.out;have P:=(x0N a.out.row L.out).live;rw [Nat.zero_add] at P;have G:=x8I s1 kd.live t.out.1 t.out.2 w0.heap.size g v1 w2 a.out.ws (by have:=m.out;omega) a.out.low.size;rw [x8O (n:=kd.live) r.out.live] at G;have I:=yH G;clear G;clear C;go_upto_region 3 with (go_at_call 321;refine I.out.mono ?_;rintro _ w3 ⟨rfl,v2,U,K⟩;have b:=yH (a.out.step U K);have A8:=yH ((WStep.refl _ _ _).trans K);clear U K)
 have H:=St.put_len s1 (Cm.be kd.live.toNat 3);rw [Cm.be_length] at H;have A:(s1.put (Cm.be kd.live.toNat 3)).B.length<=s.B.length+35:=by have:=c.out;omega
 have Y:=yH A;obtain ⟨j,E⟩:∃j,s1.put (Cm.be kd.live.toNat 3)=j:=⟨_,rfl⟩
 rw [E] at b Y;have A0:=yH E;clear E H A I P;have C:j.B.length<=s.B.length+35:=Y.out;have P:=(x0N b.out.row L.out).size;rw [Nat.zero_add] at P;have G:=x8I j kd.size u.out.1 u.out.2 w0.heap.size g v2 w3 b.out.ws (by have:=m.out;omega) b.out.low.size;rw [x8O (n:=kd.size) r.out.size] at G;have I:=yH G;clear G;clear C;go_upto_region 4 with (go_at_call 321;refine I.out.mono ?_;rintro _ w4 ⟨rfl,v3,U,K⟩;have M:=yH (b.out.step U K);have A3:=yH ((WStep.refl _ _ _).trans K);clear U K)
 have H:=St.put_len j (Cm.be kd.size.toNat 3);rw [Cm.be_length] at H;have A:(j.put (Cm.be kd.size.toNat 3)).B.length<=s.B.length+38:=by have:=Y.out;omega
 have Z:=yH A;obtain ⟨l,E⟩:∃l,j.put (Cm.be kd.size.toNat 3)=l:=⟨_,rfl⟩
 rw [E] at M Z;have A4:=yH E;clear E H A I P;have C:l.B.length<=s.B.length+38:=Z.out;have P:=(x0N M.out.row L.out).lo;rw [Nat.zero_add] at P;unfold Rw.val at P;have J:=W.out.lo.later M.out.low;have A:kd.lo.R.length<=8:=r.out.lo;have G:=x5A l kd.lo.R _ _ _ w0.heap.size g v3 w4 M.out.ws J.ints (by have:=m.out;omega) M.out.low.size (fun x hx hR=>by have h8:=x2W W.out.lo.ints hx hR;exact ⟨fun e=>by have:=M.out.lg;omega,fun e=>by have:=(M.out.ws.own.lt _ e).1;omega⟩);rw [x7R A] at G;have I:=yH G;have N:=yH A;clear G J A;clear C;go_upto_region 5 with (go_at_call 295;refine I.out.mono ?_;rintro _ w5 ⟨rfl,v4,U,K⟩;have O:=yH (M.out.step U K);have A6:=yH ((WStep.refl _ _ _).trans K);clear U K)
 have H:=St.put_len l (rowBs kd.lo.R);rw [x0Z] at H;have A:(l.put (rowBs kd.lo.R)).B.length<=s.B.length+103:=by have:=Z.out;have:=N.out;omega
 have d:=yH A;obtain ⟨i,E⟩:∃i,l.put (rowBs kd.lo.R)=i:=⟨_,rfl⟩
 rw [E] at O d;have A1:=yH E;clear E H A I P N;have C:i.B.length<=s.B.length+103:=d.out;have P:=(x0N O.out.row L.out).hi;rw [Nat.zero_add] at P;unfold Rw.val at P;have J:=W.out.hi.later O.out.low;have A:kd.hi.R.length<=8:=r.out.hi;have G:=x5A i kd.hi.R _ _ _ w0.heap.size g v4 w5 O.out.ws J.ints (by have:=m.out;omega) O.out.low.size (fun x hx hR=>by have h8:=x2W W.out.hi.ints hx hR;exact ⟨fun e=>by have:=O.out.lg;omega,fun e=>by have:=(O.out.ws.own.lt _ e).1;omega⟩);rw [x7R A] at G;have I:=yH G;have N:=yH A;clear G J A;clear C;go_upto_region 6 with (go_at_call 295;refine I.out.mono ?_;rintro _ w6 ⟨rfl,v5,U,K⟩;have Q:=yH (O.out.step U K);have A7:=yH ((WStep.refl _ _ _).trans K);clear U K)
 have H:=St.put_len i (rowBs kd.hi.R);rw [x0Z] at H;have A:(i.put (rowBs kd.hi.R)).B.length<=s.B.length+168:=by have:=d.out;have:=N.out;omega
 have X:=yH A;obtain ⟨k,E⟩:∃k,i.put (rowBs kd.hi.R)=k:=⟨_,rfl⟩
 rw [E] at Q X;have AA:=yH E;clear E H A I P N;have C:k.B.length<=s.B.length+168:=X.out;have P:=(x0N Q.out.row L.out).key;rw [Nat.zero_add] at P;unfold Rw.val at P;have J:=W.out.key.later Q.out.low;have A:kd.key.R.length<=8:=r.out.key;have G:=x5A k kd.key.R _ _ _ w0.heap.size g v5 w6 Q.out.ws J.ints (by have:=m.out;omega) Q.out.low.size (fun x hx hR=>by have h8:=x2W W.out.key.ints hx hR;exact ⟨fun e=>by have:=Q.out.lg;omega,fun e=>by have:=(Q.out.ws.own.lt _ e).1;omega⟩);rw [x7R A] at G;have I:=yH G;have N:=yH A;clear G J A;clear C;go_wp2_with (go_at_call 295;refine I.out.mono ?_;rintro _ w7 ⟨rfl,v6,U,K⟩;have p:=yH (Q.out.step U K);have A5:=yH ((WStep.refl _ _ _).trans K);clear U K)
 have H:=St.put_len k (rowBs kd.key.R);rw [x0Z] at H;have A:(k.put (rowBs kd.key.R)).B.length<=s.B.length+233:=by have:=X.out;have:=N.out;omega
 have q:=yH A;obtain ⟨s6,E⟩:∃s6,k.put (rowBs kd.key.R)=s6:=⟨_,rfl⟩
 rw [E] at p q;have y:=yH E;clear E H A I P N
 go_end0
 refine ⟨rfl,v6,?_,((((((HA.out.trans A2.out).trans A8.out).trans A3.out).trans A6.out).trans A7.out).trans A5.out)⟩;have h:=p.out.ws;rw [<- y.out,<- AA.out,<- A1.out,<- A4.out,<- A0.out,<- AC.out] at h;simp only [St.put_put] at h;have e:kd.pk.bytes=kd.sum++Cm.be kd.live.toNat 3++Cm.be kd.size.toNat 3++rowBs kd.lo.R++rowBs kd.hi.R++rowBs kd.key.R:=by
  show kd.sum++(Cm.be kd.live.toNat 3++(Cm.be kd.size.toNat 3++(rowBs kd.lo.R++(rowBs kd.hi.R++rowBs kd.key.R))))=_
  simp only [jR]
 rw [e]
 simpa only [jR] using h
end Nd
namespace Nd
open Go.RowKit Wl
theorem x5i {k:PK} {d:Int} (h:k.right d=true):(0<=k.live/\k.live<=1048576)/\(0<=k.size/\k.size<=1048576)/\k.lo.length<=8/\k.hi.length<=8:=by
 unfold PK.right at h;split at h
 ·rename_i h0
  rw [h0];simp [PK.none]
 ·split at h
  ·cases h
  ·split at h
   ·have:=of_decide_eq_true h;omega
   ·have:=x5d h;omega
structure PN.Fit (n:PN):Prop where
 rows:n.rows.length<=4
 kids:n.kids.length<=4
 row:∀e∈n.rows,e.row.length<=8
 kid:∀k∈n.kids,k.Fit
theorem PN.fit {n:PN} {d:Int} (h:n.right d=true):n.Fit:=by
 rw [PN.right_shape,Bool.and_eq_true,Bool.and_eq_true,Bool.and_eq_true,jY] at h;obtain ⟨⟨⟨G,A⟩,I⟩,H⟩:=h;have B:∀e∈n.rows,e.row.length<=8:=fun e he=>by
  have:=of_decide_eq_true (List.all_eq_true.1 I e he);omega
 have C:∀(x:Int),x<=8->n.kids.all (PK.keys x)=true->∀k∈n.kids,k.Fit:=fun x hx hh k hkm=>by
  have E:=x5i (List.all_eq_true.1 H k hkm);have J:=of_decide_eq_true (List.all_eq_true.1 hh k hkm);exact ⟨E.1,E.2.1,E.2.2.1,E.2.2.2,by omega⟩
 unfold PN.shape at A;split at A
 ·rw [Bool.and_eq_true,Bool.and_eq_true,jY,jY] at A;exact ⟨by omega,by omega,B,C 0 (by omega) A.2⟩
 ·split at A
  ·rw [Bool.and_eq_true,Bool.and_eq_true,Bool.and_eq_true,jY,jY,jY] at A;exact ⟨by omega,by omega,B,fun k hkm=>by rw [jZ.1 A.1.2] at hkm;cases hkm⟩
  ·split at A
   ·rw [Bool.and_eq_true,Bool.and_eq_true,Bool.and_eq_true,jY,jY,jY] at A;exact ⟨by omega,by omega,B,C d G.2 A.2⟩
   ·cases A
structure EcSt (w0 w:World) (gn kind:Nat) (p:Option Addr) (n c:Nat) (q:Option Addr) (m f:Nat) (g:Nat) (v:Value) (s:St):Prop where
 ws:WS w w0.heap.size g v s
 node:NodeAt w gn kind p n c q m f
 ne:v.ownBlock≠some gn
 ng:gn≠g
 low:Below w0.heap.size w0 w
 lg:w0.heap.size<=g
section
variable {w0 w w':World} {gn kind:Nat} {p:Option Addr} {n c:Nat} {q:Option Addr} {m f g:Nat} {v v':Value} {s s':St}
theorem EcSt.step (h:EcSt w0 w gn kind p n c q m f g v s) (hs:WS w' w0.heap.size g v' s') (k:WStep w w' g v v'):EcSt w0 w' gn kind p n c q m f g v' s':=
 ⟨hs,⟨(k.block _ (yL h.node.row) h.ng h.ne).trans h.node.row⟩,fun e=>by
  rcases k.own _ e with h1 | h1
  ·exact h.ne h1
  ·have:=(yL h.node.row)
   omega,h.ng,h.low.trans (k.below h.lg (fun j hj=>(h.ws.own.lt j hj).1) h.low.size),h.lg⟩
theorem EcSt.later (h:EcSt w0 w gn kind p n c q m f g v s) (hb:Below w.heap.size w w'):EcSt w0 w' gn kind p n c q m f g v s:=
 ⟨h.ws.later hb,h.node.later hb,h.ne,h.ng,h.low.trans (hb.mono h.low.size),h.lg⟩
theorem EcSt.cell_keep {x:Nat} {o:Nat} {u:Value} (_h:EcSt w0 w gn kind p n c q m f g v s) (k:WStep w w' g v v') (hx:x≠g) (hv:v.ownBlock≠some x) (hc:w.cell? ⟨x,o,Option.none⟩=some u):w'.cell? ⟨x,o,Option.none⟩=some u:=
 (jX (w:=w) (w':=w') (a:=⟨x,o,Option.none⟩) (k.block x (jI hc) hx hv)).trans hc
theorem EcSt.fresh (h:EcSt w0 w gn kind p n c q m f g v s):w.heap.size≠g/\v.ownBlock≠some w.heap.size:=
 ⟨fun e=>by have:=h.ws.lt;omega,fun e=>by have:=(h.ws.own.lt _ e).2;omega⟩
end
def Ec1 (w0:World) (gn kind:Nat) (p:Option Addr) (n c:Nat) (q:Option Addr) (m f g:Nat) (E:List En) (H:List Nat) (i:Value) (wr:World):Prop:=
 ∃(k:Nat) (v:Value) (X:List Nat),k<=n/\i= .int .i64 k/\X=H++(E.take k).flatMap (fun e=>e.pe.bytes)/\X.length<=2+70*k/\EcSt w0 wr gn kind p n c q m f g v ⟨X,0⟩
def Ec2 (w0:World) (gn kind:Nat) (p:Option Addr) (n c:Nat) (q:Option Addr) (m f g:Nat) (K:List Kd) (H:List Nat) (i:Value) (wr:World):Prop:=
 ∃(k:Nat) (v:Value) (X:List Nat),k<=m/\i= .int .i64 k/\X=H++(K.take k).flatMap (fun e=>e.pk.bytes)/\X.length<=1000+300*k/\EcSt w0 wr gn kind p n c q m f g v ⟨X,0⟩
theorem x3u {k:PK} (h:k.Fit) (hs:k.sum.length=32):k.bytes.length<=300:=by
 unfold PK.bytes;simp only [jQ,Cm.be_length,x0Z,hs];have:=h.lo;have:=h.hi;have:=h.key
 omega
def y5v (w:World) (n:PN) (d:Int) (e:Ending) (w':World):Prop:=
 Below w.heap.size w w'/\
 ((n.right d=true/\∃q c,e= .returned (.tuple #[.slice q n.bytes.length c,.int .i64 0])/\w'.ownsRow w.heap.size 5 1 (.slice q n.bytes.length c) n.bytes.length (vals n.bytes)/\Sm.allB n.bytes)\/
  (n.right d=false/\e= .returned (.tuple #[.slice Option.none 0 0,.int .i64 1])))
theorem x7S {n:PN} (hk:n.kind<256) (h:∀k∈n.kids,Sm.allB k.sum):Sm.allB n.bytes:=by
 intro x A;unfold PN.bytes at A;simp only [jW,jP,List.mem_flatMap] at A;rcases A with rfl | rfl | ⟨e,_,A⟩ | rfl | ⟨k,B,A⟩
 ·exact hk
 ·exact Nat.mod_lt _ (by omega)
 ·unfold PE.bytes at A;rcases jW.1 A with rfl | A
  ·split<;>omega
  ·exact x1F _ x A
 ·exact Nat.mod_lt _ (by omega)
 ·unfold PK.bytes at A;simp only [jP] at A;rcases A with A | A | A | A | A | A
  ·exact h k B x A
  ·exact Cm.be_ok _ _ x A
  ·exact Cm.be_ok _ _ x A
  ·exact x1F _ x A
  ·exact x1F _ x A
  ·exact x1F _ x A
theorem x6i (kind:Nat) (hkd:kind<256) (p:Option Addr) (n c:Nat) (q:Option Addr) (m f:Nat) (E:List En) (K:List Kd) (d:Int) (w:World) (hE:EntsIn w p n c E) (hK:KidsIn w q m f K):
  Calls Tryz.prog 254 #[.agg #[.int .u8 kind,.slice p n c,.slice q m f],.int .i64 d] w (y5v w (pnOf kind E K) d):=by
 have s:=jA w (.cells #[.int .u8 kind,.slice p n c,.slice q m f] 97);have hn:=NodeAt.start w kind p n c q m f;have u:=yH (x4S kind p n c q m f E K d _ (hE.later s) (hK.later s));obtain ⟨X,hX⟩:∃X,(pnOf kind E K).right d=X:=⟨_,rfl⟩
 rw [hX] at u;have HB:=yH s;have HN:=yH hn;have Ae:=yH hE;have AY:=yH hK;have o:=yH hE.size;have t:=yH hK.size;obtain ⟨du,AH,AB⟩:=UKd;have HD:=yH AH;have AD:=yH AB;have HZ:=yH (zero_of_info kz);clear hE hK s hn AH AB;cases X with
 | false=>
  have HX:=yH hX;clear hX
  go_enter Tryz.func254,Tryz.ntmps254
  go_upto_region 1 with fail
  generalize w.alloc (.cells #[.int .u8 kind,.slice p n c,.slice q m f] 97)=w1 at *;obtain ⟨N,t1,t2⟩:=HN.out.cells;go_wp2_with (go_at_call 190;refine u.out.mono ?_;rintro e w2 ⟨rfl,b2⟩;have a:=yH (HB.out.trans (b2.mono HB.out.size));clear b2)
  go_ret2;exact ⟨a.out,Or.inr ⟨HX.out,rfl⟩⟩
 | true=>
 have W:=PN.fit hX;have HX:=yH hX;have r:n<=4:=by have:=W.rows;simp only [pnOf,kH] at this;rw [o.out];exact this
 have A4:m<=4:=by have:=W.kids;simp only [pnOf,kH] at this;rw [t.out];exact this
 have Ag:=yH (show ∀e∈E,e.row.R.length<=8 from fun e he=>W.row _ (kJ.2 ⟨e,he,rfl⟩));have Aa:=yH (show ∀k∈K,k.pk.Fit from fun k hk=>W.kid _ (kJ.2 ⟨k,hk,rfl⟩));clear hX W;have e8:IntKind.u8.wrap (n:Int)=(n:Nat):=by rw [IntKind.wrap_u8];omega
 have e9:IntKind.u8.wrap (m:Int)=(m:Nat):=by rw [IntKind.wrap_u8];omega
 have Ah:=yH hkd;have A0:=yH r;have AO:=yH A4;clear hkd r A4
 go_enter Tryz.func254,Tryz.ntmps254
 go_upto_region 1 with fail
 generalize w.alloc (.cells #[.int .u8 kind,.slice p n c,.slice q m f] 97)=w1 at *;obtain ⟨N,t1,t2⟩:=HN.out.cells;go_upto_region 3 with (go_at_call 190;refine u.out.mono ?_;rintro e w2 ⟨rfl,b2⟩;have a:=yH (HB.out.trans (b2.mono HB.out.size));have AG:=yH (HN.out.later b2);clear b2)
 clear N t1 t2 u HN HB;have Av:w.heap.size<w2.heap.size:=(yL AG.out.row)
 have B:EcSt w (w2.alloc (.cells #[.slice Option.none 0 0,.int .i64 0] 347)) w.heap.size kind p n c q m f w2.heap.size (.slice Option.none 0 0) ⟨[],0⟩:=
  ⟨⟨jE w2 _,World.ownsRow_nil _ _ _ _,(fun x hx=>by cases hx),(fun h=>absurd rfl h)⟩,AG.out.later (jA _ _),by simp [Value.ownBlock],by omega,a.out.alloc a.out.size _,a.out.size⟩
 go_upto_region 4 with fail
 generalize w2.alloc (.cells #[.slice Option.none 0 0,.int .i64 0] 347)=w3 at *;generalize w2.heap.size=g at *;have b:=yH B;obtain ⟨N,t1,t2⟩:=B.node.cells;clear B
 -- the kind,how many rows
 go_upto_region 5 with (go_at_call 293;refine (x2V ⟨[],0⟩ kind Ah.out w.heap.size g _ w3 b.out.ws (by simp) b.out.low.size).mono ?_;rintro _ w4 ⟨rfl,v4,H,G⟩;have P:=yH (b.out.step H G);clear H G)
 clear N t1 t2;obtain ⟨N,t1,t2⟩:=P.out.node.cells;go_upto_region 6 with (go_at_call 293;refine (x2V _ n (by have:=A0.out;omega) w.heap.size g _ w4 P.out.ws (by simp [St.put]) P.out.low.size).mono ?_;rintro _ w5 ⟨rfl,v5,H,G⟩;have J:=P.out.step H G;rw [show (((St.mk [] 0).put [kind]).put [n])=⟨[kind,n],0⟩ from rfl] at J;have HC5:=yH J;clear H G J)
 clear N t1 t2 P b;obtain ⟨N,t1,t2⟩:=HC5.out.node.cells;go_wp2_with fail
 go_loopw [26] (fun i wr=>Ec1 w w.heap.size kind p n c q m f g E [kind,n] i wr) (fun i _=>n - (intOf i).toNat)
 case atStart=>exact ⟨0,v5,[kind,n],by omega,rfl,by simp,by simp,HC5.out⟩
 case round=>
  obtain ⟨k,v,Y,hk,rfl,hY,AJ,B⟩:=hrel;have C:=yH B;have HY:=yH hY;have Q:=yH AJ;have r:=A0.out;clear B hY AJ HC5 N t1 t2;by_cases hlt:k<n
  ·obtain ⟨g1,o1,rfl,c1,c2,M⟩:=Ae.out.get k hlt;have i1:(0:Int)<=k/\(k:Int)<n:=by omega
   have I:k<E.length:=by rw [<- o.out];exact hlt
   have HS:=yH (x3t (fun e:En=>e.pe.bytes) E k I);have AI:=Ag.out _ (getD_mem E k I);have c1:=(C.out.low.cell (jI c1)).trans c1;have c2:=(C.out.low.cell (jI c2)).trans c2;generalize E.getD k default=e at *;have O:=yH M;have A5:=yH AI;simp only [Rw.val] at c1;clear M AI;go_upto_region 9 with fail
   obtain ⟨z0,z1⟩:=x0a wr (.slice e.row.p e.row.n e.row.c) (.bool e.live) 101;have A:=yH (C.out.later (show Below wr.heap.size wr (wr.alloc (.cells #[.slice e.row.p e.row.n e.row.c,.bool e.live] 101)) from jA _ _));have AC:=yH C.out.fresh;generalize wr.alloc (.cells #[.slice e.row.p e.row.n e.row.c,.bool e.live] 101)=wa at *;generalize wr.heap.size=gx at *;clear c1 c2;go_upto_region 10 with (go_at_call 294;refine (y29 ⟨Y,0⟩ e.live w.heap.size g _ wa A.out.ws (by have:=Q.out;simp only [];omega) A.out.low.size).mono ?_;rintro _ w6 ⟨rfl,v6,H,G⟩;have z0:=A.out.cell_keep G AC.out.1 AC.out.2 z0;have L:=yH (A.out.step H G);have Ay:=yH (show w6.heap.size>=wa.heap.size from G.size);clear H G)
   have AN:=yH (show (St.mk Y 0).truth e.live=⟨Y++[if e.live then 1 else 0],0⟩ from rfl);rw [AN.out] at L;clear z1 A AN;have U:=x5A ⟨Y++[if e.live then 1 else 0],0⟩ e.row.R _ _ _ w.heap.size g v6 w6 L.out.ws (O.out.later L.out.low).ints (by have:=Q.out;have:=A5.out;simp only [jQ,kI,List.length_nil];omega) L.out.low.size (fun x hx hR=>by have h8:=x2W O.out.ints hx hR;exact ⟨fun e=>by have:=L.out.lg;omega,fun e=>by have:=(L.out.ws.own.lt _ e).1;omega⟩);rw [x7R A5.out] at U;have AL:=yH U;clear U;go_wp2_with (go_at_call 295;refine AL.out.mono ?_;rintro _ w7 ⟨rfl,v7,H,G⟩;have A1:=yH (L.out.step H G);clear H G)
   go_roundw
   case rel=>
    refine ⟨k+1,v7,(Y++[if e.live then 1 else 0])++rowBs e.row.R,by omega,by go_num,?_,?_,A1.out⟩
    ·rw [HS.out,HY.out];cases hlv:e.live<;>simp [PE.bytes,En.pe,hlv]
    ·have:=Q.out;have:=A5.out;simp only [jQ,kI,List.length_nil,x0Z];omega
   case measure=>simp [intOf];omega
  ·obtain rfl:n=k:=by omega
   have e0:E.take n=E:=kQ (by rw [<- o.out];exact jB _);rw [e0] at HY;have HYB:=yH (show Y.length<=300 from by have:=Q.out;omega);clear e0 hlt hk Q;obtain ⟨N,t1,t2⟩:=C.out.node.cells;go_upto_region 13 with (go_at_call 293;refine (x2V ⟨Y,0⟩ m (by have:=AO.out;omega) w.heap.size g _ wr C.out.ws (by have:=HYB.out;simp only [];omega) C.out.low.size).mono ?_;rintro _ w5 ⟨rfl,v5,H,G⟩;have J:=C.out.step H G;rw [show ((St.mk Y 0).put [m])=⟨Y++[m],0⟩ from rfl] at J;have HC5:=yH J;clear H G J)
   clear N t1 t2 C;obtain ⟨N,t1,t2⟩:=HC5.out.node.cells;go_wp2_with fail
   go_loopw [45] (fun i wr=>Ec2 w w.heap.size kind p n c q m f g K (Y++[m]) i wr) (fun i _=>m - (intOf i).toNat)
   case atStart=>exact ⟨0,v5,Y++[m],by omega,rfl,by simp,by have:=HYB.out;simp;omega,HC5.out⟩
   case round=>
    obtain ⟨k,v,Z,hk,rfl,hZ,AK,B⟩:=hrel;have C:=yH B;have l:=yH hZ;have A2:=yH AK;have A4:=AO.out;clear B hZ AK HC5 N t1 t2;by_cases hlt:k<m
    ·obtain ⟨g1,o1,rfl,AE,M⟩:=AY.out.get k hlt;have i1:(0:Int)<=k/\(k:Int)<m:=by omega
     have I:k<K.length:=by rw [<- t.out];exact hlt
     have HS:=yH (x3t (fun e:Kd=>e.pk.bytes) K k I);have z:=Aa.out _ (getD_mem K k I);generalize K.getD k default=e at *;have HR:=yH (x01 AE C.out.low);have O:=yH M;have y:=yH z;have j:=yH (Kd.cells_length M.len);have AZ:=HZ.out.1;clear M z AE;go_upto_region 16 with (first
      | (refine jK (by rfl) 34 _ (by rfl) g1 (o1+k*37) (by rfl) e.cells du HR.out HD.out AD.out (by rw [j.out];exact SKd) ?_)
      | (refine jL (by rfl) 34 (.tmp 10) (.tmp 48) (by rfl) wr.heap.size e.cells.toArray (by rfl) (by rfl) _ _ (jE wr _) (by rw [jF,j.out];exact SKd) (by simp only [jF,j.out,x02]) (jN Kd.one) ?_;rw [x03]))
     have Ab:=yH (x0E (jE wr (.cells e.cells.toArray 34)));have A:=yH (C.out.later (show Below wr.heap.size wr (wr.alloc (.cells e.cells.toArray 34)) from jA _ _));generalize wr.alloc (.cells e.cells.toArray 34)=wa at *;clear AZ C;have HW:=yH (y40 w e O.out y.out ⟨Z,0⟩ g v wa A.out.ws (by have:=A2.out;simp only [];omega) A.out.low A.out.lg);go_wp2_with (first
      | (refine jK (by rfl) 34 _ (by rfl) _ 0 (by rfl) e.cells du Ab.out HD.out AD.out (by rw [j.out];exact SKd) ?_)
      | (go_at_call 296;refine HW.out.mono ?_;rintro _ w7 ⟨rfl,v7,H,G⟩;have A1:=yH (A.out.step H G);clear H G))
     go_roundw
     case rel=>
      refine ⟨k+1,v7,Z++e.pk.bytes,by omega,by go_num,?_,?_,A1.out⟩
      ·rw [HS.out,l.out];simp
      ·have:=A2.out;have:=x3u y.out O.out.len;simp only [jQ];omega
     case measure=>simp [intOf];omega
    ·obtain rfl:m=k:=by omega
     have e0:K.take m=K:=kQ (by rw [<- t.out];exact jB _);rw [e0] at l;have he:Z=(pnOf kind E K).bytes:=by
      have AX:=o.out;have Ad:=t.out;have r:=A0.out;rw [l.out,HY.out];unfold PN.bytes pnOf;simp only [kH,List.flatMap_map];rw [<- AX,<- Ad,Nat.mod_eq_of_lt (show n<256 by omega),Nat.mod_eq_of_lt (show m<256 by omega)];simp
     rw [he] at C;have AU:=yH (show (pnOf kind E K).bytes.length<1099511627776 from by rw [<- he];have:=A2.out;omega);clear he l HY e0;go_wp2_with (go_at_call 297;refine (y0x ⟨(pnOf kind E K).bytes,0⟩ w.heap.size g v wr C.out.ws AU.out).mono ?_;rintro _ w7 ⟨q7,c7,rfl,o7,b7⟩;have Af:=yH o7;have AT:=yH b7;clear o7 b7)
     go_ret2;exact ⟨C.out.low.trans (AT.out.mono C.out.low.size),Or.inl ⟨HX.out,q7,c7,rfl,x8G Af.out C.out.low.size,C.out.ws.ok⟩⟩
end Nd
section
open Go.RowKit
structure RS (w:World) (g:Nat) (p:Option Addr) (n c:Nat) (s:Rd):Prop where
 row:w.heap[g]? =some (.cells #[.slice p n c,.int .i64 s.e] 300 (0,0))
 tx:Tx w p n c s.R
 lo:∀x,p=some x->s.R≠[]->x.block<g
def RSx (w:World) (g:Nat) (s:Rd):Prop:=∃p n c,RS w g p n c s
theorem RS.lt {w:World} {g:Nat} {p:Option Addr} {n c:Nat} {s:Rd} (h:RS w g p n c s):g<w.heap.size:=(yL h.row)
theorem RS.err {w:World} {g:Nat} {p:Option Addr} {n c:Nat} {s:Rd} (h:RS w g p n c s):w.cell? ⟨g,1,none⟩=some (.int .i64 s.e):=(jH w g 1 _ _ _ h.row).trans rfl
theorem RS.rest {w:World} {g:Nat} {p:Option Addr} {n c:Nat} {s:Rd} (h:RS w g p n c s):w.cell? ⟨g,0,none⟩=some (.slice p n c):=(jH w g 0 _ _ _ h.row).trans rfl
theorem RS.fz {w:World} {g:Nat} {p:Option Addr} {n c:Nat} {s:Rd} (h:RS w g p n c s) (j:Nat):w.frozen? ⟨g,j,none⟩=false:=jS w g j _ _ h.row
theorem RS.later {w w':World} {g:Nat} {p:Option Addr} {n c:Nat} {s:Rd} (h:RS w g p n c s) (hb:Below w.heap.size w w'):RS w' g p n c s:=
 ⟨(hb.block _ h.lt).trans h.row,h.tx.later hb,h.lo⟩
theorem RSx.later {w w':World} {g:Nat} {s:Rd} (h:RSx w g s) (hb:Below w.heap.size w w'):RSx w' g s:=by
 obtain ⟨p,n,c,h⟩:=h;exact ⟨p,n,c,h.later hb⟩
theorem RSx.lt {w:World} {g:Nat} {s:Rd} (h:RSx w g s):g<w.heap.size:=by
 obtain ⟨p,n,c,h⟩:=h;exact h.lt
theorem x5B {w:World} {g:Nat} {p q:Option Addr} {n c m d:Nat} {e:Nat} {B:List Nat} (hr:w.heap[g]? =some (.cells #[.slice p n c,.int .i64 e] 300 (0,0))) (h:Tx w q m d B):∀x,q=some x->B≠[]->x.block≠g:=by
 intro x hx hB hg;subst hx;have A:=h.cells 0 _ (x1u _ 0 (kP.2 hB));have C:x.add 0=x:=by simp [Addr.add]
 rw [C] at A;simp only [World.cell?,hg,hr] at A;split at A<;>simp_all
 match hx:x.off with
 | 0=>rw [hx] at A;simp at A
 | 1=>rw [hx] at A;simp at A
 | k+2=>rw [hx] at A;simp at A
def RPost (w:World) (g:Nat) (v:Value) (s:Rd) (e:Ending) (w':World):Prop:=e= .returned v/\RSx w' g s/\w.grownBy w' (some g)
theorem x2X (s:Rd) (k:Nat) (g:Nat) (w:World) (hs:RSx w g s):
  Calls Tryz.prog 247 #[.pointer (some ⟨g,0,none⟩),.int .i64 k] w (RPost w g (.tuple #[]) (s.refuse k)):=by
 obtain ⟨p,n,c,hs⟩:=hs;have C:=hs.err;have E:=hs.fz 1;have A:=yH hs;clear hs;by_cases he:s.e=0
 ·have e:s.refuse k=⟨s.R,k⟩:=by unfold Rd.refuse;rw [if_pos he]
  rw [he] at C;rw [e];clear he e
  go_enter Tryz.func247,Tryz.ntmps247
  go_wp2_with fail
  go_end0
  have B:=jU w g 1 _ _ (.int .i64 k) A.row;refine ⟨rfl,⟨p,n,c,B,A.tx.grown (x0H w g 1 _) (x5B A.row A.tx),A.lo⟩,x0H w g 1 _⟩
 ·have e:s.refuse k=s:=by unfold Rd.refuse;rw [if_neg he]
  have b1:((s.e:Int)==0)=false:=by simp;omega
  rw [e];clear he e
  go_enter Tryz.func247,Tryz.ntmps247
  go_wp2_with fail
  go_end0
  exact ⟨rfl,⟨p,n,c,A.out⟩,⟨rfl,rfl,rfl,jB _,fun _ _ _=>rfl⟩⟩
def x3v (w:World) (g:Nat) (s:Rd) (n:Nat) (e:Ending) (w':World):Prop:=∃q c,e= .returned (.slice q (s.part n).length c)/\Tx w' q (s.part n).length c (s.part n)/\RSx w' g (s.past n)/\w.grownBy w' (some g)
theorem y00 (s:Rd) (n:Nat) (g:Nat) (w:World) (hs:RSx w g s) (hn:n<9223372036854775808) (hl:s.R.length<1099511627776):
  Calls Tryz.prog 288 #[.pointer (some ⟨g,0,none⟩),.int .i64 n] w (x3v w g s n):=by
 obtain ⟨p,m,c,hs⟩:=hs;have f:=hs.rest;have J:=hs.err;have K:=hs.tx.size;have a:=hs.tx.le;have Y:m<1099511627776:=by omega
 have G:=yH K;have A:=yH hs;clear hs K;by_cases hlt:m<n
 ·have b1:(m:Int)<n:=by omega
  have e:¬s.fits n:=fun h=>by have:=h.2;have:=G.out;omega
  have C:s.part n=[]:=by unfold Rd.part;rw [if_neg e]
  have B:s.past n=s.refuse 20:=by unfold Rd.past;rw [if_neg e]
  unfold x3v;rw [C,B];clear e C B J
  go_enter Tryz.func288,Tryz.ntmps288
  go_wp2_with fail
  refine (x2X s 20 g _ ⟨p,m,c,A.out⟩).mono ?_;rintro e d O;obtain ⟨rfl,⟨W,X,Q,H⟩,I⟩:=O;have j:=H.err;have Z:(((s.refuse 20).e:Int) !=0)=true:=by
   unfold Rd.refuse;split<;>simp
   assumption
  have U:=yH H;have P:=yH I;clear H I;go_wp2_with fail
  go_ret;exact ⟨none,0,rfl,y5T _,⟨W,X,Q,U.out⟩,P.out⟩
 ·have b1:¬(m:Int)<n:=by omega
  by_cases he:s.e=0
  ·have e:s.fits n:=⟨he,by have:=G.out;omega⟩
   have C:s.part n=s.R.take n:=by unfold Rd.part;rw [if_pos e]
   have B:s.past n=⟨s.R.drop n,0⟩:=by unfold Rd.past;rw [if_pos e]
   have L:(s.R.take n).length=n:=by rw [kX];have:=G.out;omega
   unfold x3v;rw [C,B,L];rw [he] at J;clear e C B L;have b:=A.fz 0;have M:=yH he;clear he;have i:(0:Int)<=n:=by omega
   by_cases hcn:c=n
   ·subst hcn;obtain rfl:m=c:=by omega
    go_enter Tryz.func288,Tryz.ntmps288
    go_wp2_with fail
    go_ret;have E:=jU w g 0 _ _ (.slice p 0 0) A.row;rw [M.out] at E;have N:s.R.drop m=[]:=List.drop_eq_nil_of_le (by have:=G.out;omega);refine ⟨p,m,rfl,(A.tx.take m (jB _)).grown (x0H w g 0 _) (x5B A.row (A.tx.take m (jB _))),?_,x0H w g 0 _⟩;rw [N];exact ⟨p,0,0,E,A.tx.nothing.grown (x0H w g 0 _) (fun x hx h=>absurd rfl h),fun x hx h=>absurd rfl h⟩
   ·go_enter Tryz.func288,Tryz.ntmps288
    go_wp2_with fail
    go_ret;have E:=jU w g 0 _ _ (.slice (Option.map (fun x=>x.add n) p) (m - n) (c - n)) A.row;rw [M.out] at E;have t1:=A.tx.take n (by omega);have t2:=A.tx.drop n (by omega);exact ⟨p,c,rfl,t1.grown (x0H w g 0 _) (x5B A.row t1),⟨_,_,_,E,t2.grown (x0H w g 0 _) (x5B A.row t2),fun x hx h=>y5q A.lo n x hx h⟩,x0H w g 0 _⟩
  ·have e:¬s.fits n:=fun h=>he h.1;have C:s.part n=[]:=by unfold Rd.part;rw [if_neg e]
   have B:s.past n=s:=by unfold Rd.past Rd.refuse;rw [if_neg e,if_neg he]
   have Z:((s.e:Int) !=0)=true:=by simp;omega
   unfold x3v;rw [C,B];clear e C B he
   go_enter Tryz.func288,Tryz.ntmps288
   go_wp2_with fail
   go_ret;exact ⟨none,0,rfl,y5T _,⟨p,m,c,A.out⟩,x4R _ _⟩
theorem y5w {m b:Nat} (hm:m<72057594037927936) (hb:b<256):bits .or .u64 ((m:Int)*256) (b:Int)=((m*256+b:Nat):Int):=by
 rw [show (m:Int)*256=((m*256:Nat):Int) from by omega,u64_or_nat _ _ (by omega) (by omega)];have:m*256||| b=m*256+b:=by
  have h:=Nat.shiftLeft_add_eq_or_of_lt (i:=8) (b:=b) (by omega) m;rw [Nat.shiftLeft_eq] at h;exact h.symm
 rw [this]
def RVRel (w:World) (g:Nat) (s:Rd) (B:List Nat) (q:Option Addr) (c:Nat) (a i:Value) (wr:World):Prop:=
 ∃k:Nat,k<=B.length/\i= .int .i64 k/\a= .int .u64 (Cm.val (B.take k):Nat)/\Tx wr q B.length c B/\RSx wr g s/\w.grownBy wr (some g)
theorem x4T (s:Rd) (n:Nat) (g:Nat) (w:World) (hs:RSx w g s) (hn:n<=8) (hl:s.R.length<1099511627776):
  Calls Tryz.prog 242 #[.pointer (some ⟨g,0,none⟩),.int .i64 n] w (RPost w g (.int .u64 (Cm.val (s.part n):Nat)) (s.past n)):=by
 have N:=yH hs;have Y:=yH hl;clear hs hl
 go_enter Tryz.func242,Tryz.ntmps242
 go_wp2_with fail
 refine (y00 s n g _ N (by omega) Y).mono ?_;rintro e f K;obtain ⟨q,c,rfl,M,P,L⟩:=K;have W:=Rd.part_len s n;generalize s.part n=B at *;generalize s.past n=s1 at *;have H1:=yH M;have H2:=yH P;have H3:=yH L;clear M P L N;go_wp2_with fail
 go_loopw [5,12] (fun a i wr=>RVRel w g s1 B q c a i wr) (fun _ i _=>B.length - (intOf i).toNat)
 case atStart=>exact ⟨0,by omega,rfl,rfl,H1.out,H2.out,H3.out⟩
 case round=>
  obtain ⟨k,Z,rfl,rfl,Q,O,U⟩:=hrel;have H4:=yH Q;have H5:=yH O;have H6:=yH U;clear Q O U H1 H2 H3;by_cases hlt:k<B.length
  ·obtain ⟨d,j,K,G⟩:=H4.bytes.ne (by rintro rfl;simp at hlt);subst K;have h:=G k hlt;have X:=H4.le;have J:B.getD k 0<256:=Sm.getD_lt H4.ok (by omega) k;have E:Cm.val (B.take k)<256^(B.take k).length:=Cm.val_lt (fun x G=>H4.ok x (List.mem_of_mem_take G));have H:Cm.val (B.take k)<72057594037927936:=jO E (y79 _ (by rw [kX];omega));have A:Cm.val (B.take (k+1))=Cm.val (B.take k)*256+B.getD k 0:=by rw [y25 B k hlt,Cm.val_snoc]
   have HST:=yH A;clear A E G;generalize Cm.val (B.take k)=m at *;generalize B.getD k 0=b at *;have C:=y5w H J;have I:=yH C;clear C;go_wp2_with fail
   rw [I.out];go_roundw
   case rel=>exact ⟨k+1,by omega,by go_num,by rw [HST.out],H4.out,H5.out,H6.out⟩
   case measure=>simp [intOf];omega
  ·obtain rfl:k=B.length:=by omega
   rw [List.take_length];go_wp2_with fail
   go_ret;exact ⟨rfl,H5.out,H6.out⟩
theorem x2g (s:Rd) (g:Nat) (w:World) (hs:RSx w g s) (hl:s.R.length<1099511627776):
  Calls Tryz.prog 186 #[.pointer (some ⟨g,0,none⟩)] w (RPost w g (.int .u8 (Cm.val (s.part 1):Nat)) (s.past 1)):=by
 have A:Sm.allB s.R:=by obtain ⟨p,n,c,h⟩:=hs;exact h.tx.ok
 have K:=val1 A;have E:=x4T s 1 g w hs (by omega) hl;generalize Cm.val (s.part 1)=x at *;have G:=yH E;have M:IntKind.u8.wrap (x:Int)=(x:Nat):=by rw [IntKind.wrap_u8];omega
 clear hs E A
 go_enter Tryz.func186,Tryz.ntmps186
 go_wp2_with fail
 refine G.mono ?_;rintro e L I;obtain ⟨rfl,C,B⟩:=I;have H:=yH C;have J:=yH B;clear C B;go_wp2_with fail
 go_ret;exact ⟨rfl,H.out,J.out⟩
theorem y2A {n:Int} (h1: -9223372036854775808<=n) (h2:n<=9223372036854775807):IntKind.i64.wrap (bits .xor .u64 ((Cm.z64 n:Nat):Int) 9223372036854775808)=n:=by
 have A:=(Cm.z64_lt h1 h2).2;by_cases h:n<0
 ·have:=Cm.sign_int (n:=n+9223372036854775808) (by omega) (by omega);rw [Cm.wrap_u64,show (n+9223372036854775808)%18446744073709551616=((Cm.z64 n:Nat):Int) from by omega] at this;rw [this,(Cm.z64_lt (n:=n+9223372036854775808) (by omega) (by omega)).2,IntKind.wrap_i64];omega
 ·have:=Cm.sign_int (n:=n - 9223372036854775808) (by omega) (by omega);rw [Cm.wrap_u64,show (n - 9223372036854775808)%18446744073709551616=((Cm.z64 n:Nat):Int) from by omega] at this;rw [this,(Cm.z64_lt (n:=n - 9223372036854775808) (by omega) (by omega)).2,IntKind.wrap_i64];omega
theorem RSx.low {w w':World} {g:Nat} {s:Rd} (h:RSx w g s) (hb:Below (g+1) w w'):RSx w' g s:=by
 obtain ⟨p,n,c,h⟩:=h;refine ⟨p,n,c,(hb.block g (Nat.lt_succ_self g)).trans h.row,⟨h.tx.size,h.tx.le,h.tx.ok,h.tx.at'.imp id fun ⟨x,hp,hx⟩=>⟨x,hp,fun j u hu=>?_⟩,h.tx.sp⟩,h.lo⟩;have B:s.R≠[]:=by rintro e;rw [e] at hu;simp [vals] at hu
 have A:(x.add j).block=x.block:=by cases x;simp [Addr.add];split<;>rfl
 exact (hb.cell (p:=x.add j) (by rw [A];exact Nat.lt_succ_of_lt (h.lo x hp B))).trans (hx j u hu)
theorem x6S {w:World} (k o:Nat) (vs:List Value) (B:Nat) (hB:B<=k):Below B w (w.setCells k o vs):=by
 obtain ⟨G,A,E,C⟩:=x0S k vs o w;exact ⟨A,E,C,by omega,fun j hj=>x0X k vs o w j (by omega)⟩
theorem x4U (s:Rd) (most n:Int) (g:Nat) (w:World) (hs:RSx w g s):
  Calls Tryz.prog 289 #[.pointer (some ⟨g,0,none⟩),.int .i64 most,.int .i64 n] w (RPost w g (.int .i64 (if most<n then 0 else n)) (if most<n then s.refuse 10 else s)):=by
 have C:=yH hs;clear hs;by_cases h:most<n
 ·rw [if_pos h,if_pos h]
  go_enter Tryz.func289,Tryz.ntmps289
  go_wp2_with fail
  refine (x2X s 10 g _ C).mono ?_;rintro e I E;obtain ⟨rfl,A,B⟩:=E;have G:=yH A;have H:=yH B;clear A B;go_wp2_with fail
  go_ret;exact ⟨rfl,G.out,H.out⟩
 ·rw [if_neg h,if_neg h]
  go_enter Tryz.func289,Tryz.ntmps289
  go_wp2_with fail
  go_ret;exact ⟨rfl,C.out,x4R _ _⟩
theorem x6j (s:Rd) (most:Int) (g:Nat) (w:World) (hs:RSx w g s) (hl:s.R.length<1099511627776):
  Calls Tryz.prog 246 #[.pointer (some ⟨g,0,none⟩),.int .i64 most] w (RPost w g (.int .i64 (s.countV most)) (s.count most)):=by
 have G:Sm.allB s.R:=by obtain ⟨p,n,c,h⟩:=hs;exact h.tx.ok
 have W:=val3 G;have B:=x4T s 3 g w hs (by omega) hl;clear hs G;by_cases hc:min most 1048576<((Cm.val (s.part 3):Nat):Int)
 focus
  have E:s.countV most=0:=by unfold Rd.countV;rw [if_pos hc]
  have K:s.count most=(s.past 3).refuse 10:=by unfold Rd.count;rw [if_pos hc]
  rw [E,K];clear E K;generalize Cm.val (s.part 3)=m at *;have H:=yH hc;clear hc
  go_enter Tryz.func246,Tryz.ntmps246
  go_wp2_with fail
  refine B.mono ?_;rintro e U I;obtain ⟨rfl,J,C⟩:=I;have L:=yH J;have N:=yH C;clear J C B;go_wp2_with fail
  have A:=x4U (s.past 3) (min most 1048576) m g _ L;rw [if_pos H.out,if_pos H.out] at A
 rotate_left
 focus
  have E:s.countV most=((Cm.val (s.part 3):Nat):Int):=by unfold Rd.countV;rw [if_neg hc]
  have K:s.count most=s.past 3:=by unfold Rd.count;rw [if_neg hc]
  rw [E,K];clear E K;generalize Cm.val (s.part 3)=m at *;have H:=yH hc;clear hc
  go_enter Tryz.func246,Tryz.ntmps246
  go_wp2_with fail
  refine B.mono ?_;rintro e U I;obtain ⟨rfl,J,C⟩:=I;have L:=yH J;have N:=yH C;clear J C B;go_wp2_with fail
  have A:=x4U (s.past 3) (min most 1048576) m g _ L;rw [if_neg (Int.not_lt.mpr H),if_neg (Int.not_lt.mpr H)] at A
 rotate_left;all_goals
  refine A.mono ?_;rintro e X I;obtain ⟨rfl,O,M⟩:=I;have Q:=yH O;have P:=yH (x0o N M);clear O M A;go_wp2_with fail
  go_ret;exact ⟨rfl,Q.out,P.out⟩
end
namespace Nd
open Go.RowKit
theorem part1 (s:Rd):s.part 1=[]\/∃b,s.part 1=[b]:=by
 have h:=Rd.part_len s 1
 match hp:s.part 1 with
 |[]=>exact Or.inl rfl
 |[b]=>exact Or.inr ⟨b,rfl⟩
 | a::b::L=>rw [hp] at h;simp at h
theorem x4V (b:Nat):Cm.val [b]=b:=by simp [Cm.val]
def _root_.Go.Proofs.YtenenciaggbjnaaGreat.Rd.truth (s:Rd):Rd:=if (s.past 1).e=0/\1<Cm.val (s.part 1) then ⟨(s.past 1).R,21⟩ else s.past 1
def _root_.Go.Proofs.YtenenciaggbjnaaGreat.Rd.truthV (s:Rd):Bool:=decide ((s.past 1).e=0/\Cm.val (s.part 1)=1)
theorem y5x (s:Rd) (n:Nat):s.part n=[]\/(s.part n).length=n:=by
 unfold Rd.part;split
 ·rename_i h
  exact Or.inr (by rw [kX];have:=h.2;omega)
 ·exact Or.inl rfl
def _root_.Go.Proofs.YtenenciaggbjnaaGreat.Rd.numV (s:Rd):Int:=if s.part 8=[] then 0 else ((Cm.val (s.part 8):Nat):Int) - 9223372036854775808
theorem y5y (k:Nat) (h:k<=8):256^k<=18446744073709551616:=jJ (Nat.pow_le_pow_right (by omega) h) (by decide)
def _root_.Go.Proofs.YtenenciaggbjnaaGreat.Rd.digV (s:Rd):List Nat:=s.part 32++zeros (32 - (s.part 32).length)
theorem x3i (s:Rd):s.digV.length=32:=by
 have:=Rd.part_len s 32;simp [Rd.digV,zeros];omega
theorem y2B {s:Rd} (h:Sm.allB s.R):Sm.allB s.digV:=by
 intro x hx;rcases jP.1 hx with k | k
 ·exact Rd.part_ok h 32 x k
 ·exact x2C _ x k
def readN:Nat->Rd->List Int->List Int×Rd
 | 0,s,L=>(L,s)
 | n+1,s,L=>if s.e=0 then readN n (s.past 8) (L++[s.numV]) else (L,s)
theorem x7T {n:Nat} {s:Rd} {L:List Int} (h:s.e=0) (hn:0<n):readN n s L=readN (n - 1) (s.past 8) (L++[s.numV]):=by
 obtain ⟨m,rfl⟩:∃m,n=m+1:=⟨n - 1,by omega⟩
 show (if s.e=0 then _ else _)=_
 rw [if_pos h];rfl
theorem x5C {n:Nat} {s:Rd} {L:List Int} (h:s.e≠0):readN n s L=(L,s):=by
 cases n with
 | zero=>rfl
 | succ n=>
  show (if s.e=0 then _ else _)=_
  rw [if_neg h]
def _root_.Go.Proofs.YtenenciaggbjnaaGreat.Rd.rowN (s:Rd) (most:Int):Rd:=if (s.past 1).e=0/\most<(Cm.val (s.part 1):Nat) then ⟨(s.past 1).R,10⟩ else s.past 1
def _root_.Go.Proofs.YtenenciaggbjnaaGreat.Rd.row (s:Rd) (most:Int):List Int×Rd:=readN (Cm.val (s.part 1)) (s.rowN most) []
def _root_.Go.Proofs.YtenenciaggbjnaaGreat.Rd.rowV (s:Rd) (most:Int):List Int:=if (s.row most).2.e=0 then (s.row most).1 else []
theorem y41 (s:Rd) (most:Int):(s.rowN most).R.length<=s.R.length:=by
 unfold Rd.rowN;split
 ·exact Rd.past_len s 1
 ·exact Rd.past_len s 1
theorem y42 (w:World) (base:Nat):w.ownsRow base 2 1 (.slice none 0 0) 0 (ivs []):=⟨rfl,Or.inl ⟨rfl,rfl⟩⟩
theorem y0y (A B:List Int):ivs (A++B)=ivs A++ivs B:=List.map_append ..
theorem x9A {s:Rd} (h:Cm.val (s.part 1)≠0):(s.past 1).e=0:=by
 unfold Rd.part at h;unfold Rd.past;split at h
 ·rename_i k;rw [if_pos k]
 ·exact absurd rfl h
theorem y0z (s:Rd) (g:Nat) (w:World) (hs:RSx w g s) (hl:s.R.length<1099511627776):
  Calls Tryz.prog 243 #[.pointer (some ⟨g,0,none⟩)] w (RPost w g (.bool s.truthV) s.truth):=by
 have L:=yH (x2g s g w hs hl);clear hs;by_cases hx:1<Cm.val (s.part 1)
 ·have J:=x9A (s:=s) (by omega);have B:s.truthV=false:=by unfold Rd.truthV;exact kE (by omega)
  have G:s.truth=(s.past 1).refuse 21:=by unfold Rd.truth Rd.refuse;rw [if_pos ⟨J,hx⟩,if_pos J]
  rw [B,G];clear B G J;have b1:(1:Int)<(Cm.val (s.part 1):Nat):=by omega
  have U:(((Cm.val (s.part 1):Nat):Int)==1)=false:=by simp;omega
  generalize Cm.val (s.part 1)=x at *;clear hx
  go_enter Tryz.func243,Tryz.ntmps243
  go_wp2_with fail
  refine L.mono ?_;rintro e O E;obtain ⟨rfl,A,C⟩:=E;have H:=yH A;have I:=yH C;clear A C;go_wp2_with fail
  refine (x2X (s.past 1) 21 g _ H).mono ?_;rintro e W E;obtain ⟨rfl,K,M⟩:=E;have P:=yH K;have N:=yH (x0o I M);clear K M;go_wp2_with fail
  go_ret;exact ⟨rfl,P.out,N.out⟩
 ·have G:s.truth=s.past 1:=by unfold Rd.truth;rw [if_neg (fun h=>hx h.2)]
  have B:(((Cm.val (s.part 1):Nat):Int)==1)=s.truthV:=by
   unfold Rd.truthV;rw [Bool.eq_iff_iff,beq_iff_eq,jY];constructor
   ·intro h;exact ⟨x9A (by omega),by omega⟩
   ·intro h;omega
  rw [G];have b1:¬(1:Int)<(Cm.val (s.part 1):Nat):=by omega
  generalize s.truthV=X at *;generalize Cm.val (s.part 1)=x at *;clear hx G;have Q:=yH B;clear B
  go_enter Tryz.func243,Tryz.ntmps243
  go_wp2_with fail
  refine L.mono ?_;rintro e O E;obtain ⟨rfl,A,C⟩:=E;have H:=yH A;have I:=yH C;clear A C;go_wp2_with fail
  go_ret;exact ⟨by rw [<- Q.out];rfl,H.out,I.out⟩
theorem y43 {s:Rd} {n:Nat} (hn:0<n) (h:(s.past n).e=0):s.part n≠[]:=by
 unfold Rd.past Rd.refuse at h;unfold Rd.part;split at h
 ·rename_i k
  rw [if_pos k];intro e;have A:=congrArg List.length e;rw [kX,List.length_nil] at A;have B:=k.2;omega
 ·split at h
  ·cases h
  ·rename_i k;exact absurd h k
theorem y44 {s:Rd} {n:Nat} (h:(s.past n).e≠0):s.part n=[]:=by
 unfold Rd.past at h;unfold Rd.part;split at h
 ·exact absurd rfl h
 ·rename_i k;rw [if_neg k]
theorem y2C {s:Rd} (h:Sm.allB s.R): -9223372036854775808<=s.numV/\s.numV<=9223372036854775807:=by
 have B:=Cm.val_lt (Rd.part_ok h 8);have A:=y5y _ (Rd.part_len s 8);unfold Rd.numV;split<;>omega
theorem y45 (s:Rd) (g:Nat) (w:World) (hs:RSx w g s) (hl:s.R.length<1099511627776):
  Calls Tryz.prog 290 #[.pointer (some ⟨g,0,none⟩)] w (RPost w g (.int .i64 s.numV) (s.past 8)):=by
 have E:Sm.allB s.R:=by obtain ⟨p,n,c,h⟩:=hs;exact h.tx.ok
 have O:=yH (x4T s 8 g w hs (by omega) hl);have B:=y2C E;clear hs;by_cases he:(s.past 8).e=0
 ·have G:=y43 (n:=8) (by omega) he;have P:Cm.z64 s.numV=Cm.val (s.part 8):=by
   unfold Cm.z64 Rd.numV;rw [if_neg G];omega
  have A:=y2A B.1 B.2;rw [P] at A;have I:=yH A;have X:=yH he;clear G P A B E he;generalize s.numV=x at *;generalize Cm.val (s.part 8)=z at *
  go_enter Tryz.func290,Tryz.ntmps290
  go_wp2_with fail
  refine O.mono ?_;rintro e W G;obtain ⟨rfl,⟨N,L,M,C⟩,H⟩:=G;have U:=C.err;rw [X.out] at U;have K:=yH C;have J:=yH H;have A:=I.out;clear C H;go_wp2_with fail
  go_ret;exact ⟨rfl,⟨N,L,M,K.out⟩,J.out⟩
 ·have Q:s.numV=0:=by unfold Rd.numV;rw [if_pos (y44 he)]
  have b1:(((s.past 8).e:Int) !=0)=true:=by simp;omega
  rw [Q];clear Q B E he;generalize Cm.val (s.part 8)=z at *
  go_enter Tryz.func290,Tryz.ntmps290
  go_wp2_with fail
  refine O.mono ?_;rintro e W G;obtain ⟨rfl,⟨N,L,M,C⟩,H⟩:=G;have U:=C.err;have K:=yH C;have J:=yH H;clear C H;go_wp2_with fail
  go_ret;exact ⟨rfl,⟨N,L,M,K.out⟩,J.out⟩
def LRow (w:World) (g:Nat) (L:List Int) (s:Rd) (e:Ending) (w':World):Prop:=
 ∃v,e= .returned v/\w'.ownsRow w.heap.size 2 1 v L.length (ivs L)/\RSx w' g s/\w.grownBy w' (some g)
structure LrSt (w:World) (g gr n:Nat) (T:List Int×Rd) (k:Nat) (C:Array Value) (s:Rd) (wr:World):Prop where
 row:wr.heap[gr]? =some (.cells C 2 (0,0))
 size:C.size=n
 rd:RSx wr g s
 grown:w.grownBy wr (some g)
 len:s.R.length<1099511627776
 run:(∃L,s.e=0/\L.length=k/\C.toList.take k=ivs L/\readN (n - k) s L=T)\/(s.e≠0/\T.2=s)
def LrRel (w:World) (g gr n:Nat) (T:List Int×Rd) (i:Value) (wr:World):Prop:=∃k C s,k<=n/\i= .int .i64 k/\LrSt w g gr n T k C s wr
theorem y46 {s:Rd} {n:Nat} (h:s.e≠0):s.past n=s:=by
 unfold Rd.past Rd.refuse;rw [if_neg (fun k=>h k.1),if_neg h]
theorem y5z {s:Rd} {n k:Nat} {T:List Int×Rd} {C:Array Value} (hk:k<n) (hC:C.size=n) (h:(∃L,s.e=0/\L.length=k/\C.toList.take k=ivs L/\readN (n - k) s L=T)\/(s.e≠0/\T.2=s)):
  (∃L,(s.past 8).e=0/\L.length=k+1/\(C.setIfInBounds k (.int .i64 s.numV)).toList.take (k+1)=ivs L/\readN (n - (k+1)) (s.past 8) L=T)\/((s.past 8).e≠0/\T.2=s.past 8):=by
 rcases h with ⟨L,A,G,H,B⟩ | ⟨A,J⟩
 ·have I:=x7T (n:=n - k) (L:=L) A (by omega);rw [I] at B;by_cases h8:(s.past 8).e=0
  ·refine Or.inl ⟨L++[s.numV],h8,by rw [jQ,G];rfl,?_,by rw [show n - (k+1)=n - k - 1 by omega];exact B⟩;have E:k<(C.setIfInBounds k (.int .i64 s.numV)).toList.length:=by simp [hC,hk]
   have K:(C.setIfInBounds k (.int .i64 s.numV)).toList.take k=C.toList.take k:=by
    rw [Array.toList_setIfInBounds,List.take_set_of_le (jB _)]
   have M:(C.setIfInBounds k (.int .i64 s.numV)).toList[k]= .int .i64 s.numV:=by
    simp [Array.toList_setIfInBounds]
   rw [List.take_succ_eq_append_getElem E,K,M,H,y0y];rfl
  ·refine Or.inr ⟨h8,?_⟩;rw [x5C h8] at B;rw [<- B]
 ·rw [y46 A];exact Or.inr ⟨A,J⟩
theorem x5D (s:Rd) (g:Nat) (w:World) (hs:RSx w g s) (hl:s.R.length<1099511627776):
  Calls Tryz.prog 244 #[.pointer (some ⟨g,0,none⟩),.int .i64 8] w (LRow w g (s.rowV 8) (s.row 8).2):=by
 have v:Sm.allB s.R:=by obtain ⟨p,n,c,h⟩:=hs;exact h.tx.ok
 have HB:=yH (x2g s g w hs hl);have W:=Rd.past_len s 1
 -- how many numbers are read,and with what
 obtain ⟨m,s2,hm,a,hT,An⟩:∃(m:Nat) (s2:Rd),(if (8:Int)<(Cm.val (s.part 1):Nat) then (0:Int) else (Cm.val (s.part 1):Nat))=(m:Int)/\(if (8:Int)<(Cm.val (s.part 1):Nat) then (s.past 1).refuse 10 else s.past 1)=s2/\(readN m s2 []=s.row 8\/(s2.e≠0/\(s.row 8).2=s2))/\m<=8:=by
  have I:s.row 8=readN (Cm.val (s.part 1)) (s.rowN 8) []:=rfl;by_cases h:(8:Int)<(Cm.val (s.part 1):Nat)
  ·have G:=x9A (s:=s) (by omega);refine ⟨0,_,if_pos h,if_pos h,Or.inr ?_,by omega⟩;have e1:s.rowN 8=⟨(s.past 1).R,10⟩:=by unfold Rd.rowN;rw [if_pos ⟨G,h⟩]
   have e2:(s.past 1).refuse 10=⟨(s.past 1).R,10⟩:=by unfold Rd.refuse;rw [if_pos G]
   rw [e2,I,e1,x5C (by simp)];exact ⟨by simp,rfl⟩
  ·refine ⟨Cm.val (s.part 1),_,if_neg h,if_neg h,Or.inl ?_,by omega⟩;have e1:s.rowN 8=s.past 1:=by unfold Rd.rowN;rw [if_neg (fun k=>h k.2)]
   rw [I,e1]
 have hV:s.rowV 8=if (s.row 8).2.e=0 then (s.row 8).1 else []:=rfl;have O:s2.R.length<1099511627776:=by
  rw [<- a];split
  ·exact Nat.lt_of_le_of_lt (Rd.refuse_len _ _) (Nat.lt_of_le_of_lt W hl)
  ·exact Nat.lt_of_le_of_lt W hl
 have f:=yH (fun w1 (h:RSx w1 g (s.past 1))=>by
  have:=x4U (s.past 1) 8 (Cm.val (s.part 1):Nat) g w1 h;rw [hm,a] at this;exact this)
 have HT:=yH hT;have HV:=yH hV;have AK:=val1 v;generalize s.rowV 8=X at *;generalize s.row 8=T at *;generalize Cm.val (s.part 1)=cnt at *;have AF:=yH O;obtain ⟨i2,hi,A0,l,A1⟩:=info_parts I2n;have HI:=yH hi;have AC:=yH A0;have AL:=yH l;have AG:=yH A1;have e8:IntKind.i64.wrap (cnt:Int)=(cnt:Nat):=by rw [IntKind.wrap_i64];omega
 clear hs v W hm a hT hV O hi A0 l A1 hl
 go_enter Tryz.func244,Tryz.ntmps244
 go_wp2_with fail
 refine HB.mono ?_;rintro e w1 j;obtain ⟨rfl,h1,h2⟩:=j;have HA:=yH (f.out w1 h1);have H2:=yH h2;clear h1 h2;go_wp2_with fail
 refine HA.mono ?_;rintro e P j;obtain ⟨rfl,h3,h4⟩:=j;have hg:g<P.heap.size:=h3.lt;have H3:=yH h3;have H4:=yH (x0o H2 h4);clear h3 h4;go_wp2_with (at_make;refine wpList_make_full _ (by rfl) _ _ 24 (by rfl) P.heap.size 2 i2 (.int .i64 0) 1 URn HI AC AL .i64 .i64 _ _ m (by rfl) (by rfl) (by rfl) (by rfl) (by rw [AG.out];omega) (by unfold maxLen;omega) (jB _) ?_;intro w3 hown3 hgrow3;have O3:=yH hown3;have b:=yH hgrow3;clear hown3 hgrow3)
 have H:Below P.heap.size P w3:=⟨b.os,b.tape,b.output,b.size,fun k hk=>b.block k hk (by simp)⟩
 have z:=x19 (w:=w) H4 H4.size H H.size;have o:=H3.later H;obtain ⟨cur,N,r⟩:∃cur,w3.heap[P.heap.size]? =some (.cells cur 2 (0,0))/\cur.size=m:=by
  rcases O3.2 with ⟨h1,_⟩ | ⟨k,Ai,cur,hv,_,q,_,_,Aj,_⟩
  ·simp at h1
  ·simp only [Value.slice.injEq,Option.some.injEq,Addr.mk.injEq,true_and,and_true] at hv;obtain ⟨rfl,rfl⟩:=hv;exact ⟨cur,q,by omega⟩
 have M:=yH (show g<P.heap.size/\w.heap.size<=P.heap.size from ⟨hg,H4.size⟩);generalize P.heap.size=gr at *;have HR3:=yH (show LrSt w g gr m T 0 cur s2 w3 from ⟨N,r,o,z,AF.out,by
  by_cases G:s2.e=0
  ·rcases HT.out with h | h
   ·exact Or.inl ⟨[],G,rfl,rfl,h⟩
   ·exact absurd G h.1
  ·rcases HT.out with h | h
   ·rw [x5C G] at h;exact Or.inr ⟨G,by rw [<- h]⟩
   ·exact Or.inr h⟩)
 clear H z o N r O3 b H3 H4 H2 hg HB HA f HT e8;go_loopw [16] (fun i wr=>LrRel w g gr m T i wr) (fun i _=>m - (intOf i).toNat)
 case atStart=>exact ⟨0,cur,s2,by omega,rfl,HR3.out⟩
 case round=>
  obtain ⟨k,C,K,hk,rfl,I⟩:=hrel;have E:=yH I;clear I HR3;by_cases hlt:k<m
  ·have Q:=y45 K g wr E.rd E.len;have AE:=yH (y5z hlt E.size E.run);have AJ:=yH (Nat.lt_of_le_of_lt (Rd.past_len K 8) E.len);have y:=yH Q;have i1:(0:Int)<=k/\(k:Int)<m:=by omega
   clear Q;generalize K.numV=x at *;generalize K.past 8=t at *;go_wp2_with fail
   refine y.mono ?_;rintro e w4 j;obtain ⟨rfl,h5,Z⟩:=j;have A:=(Z.block gr (yL E.row) (by simp;have:=M.1;omega)).trans E.row;obtain ⟨u,hu⟩:∃u,w4.cell? ⟨gr,k,none⟩=some u:=by
    rw [jH w4 gr k _ _ _ A];exact ⟨_,Array.getElem?_eq_getElem (by rw [E.size];exact hlt)⟩
   have hf:=jS w4 gr k _ _ A;have J:=jU w4 gr k _ _ (.int .i64 x) A;have H5:=yH h5;have H6:=yH (x0o E.grown Z);have Y:=yH J;clear h5 Z A J;go_wp2_with fail
   go_roundw
   case rel=>
    refine ⟨k+1,_,t,by omega,by go_num,Y.out,by simp [E.size],H5.low ((jC _ _).setCell (p:=⟨gr,k,none⟩) (by have:=M.1;show g+1<=gr;omega) _),x19 H6 (B:=gr) M.2 ((jC _ _).setCell (p:=⟨gr,k,none⟩) (jB _) _) (by simp [World.setCell]),AJ.out,AE.out⟩
   case measure=>simp [intOf];omega
  ·obtain rfl:m=k:=by omega
   have AB:=E.rd;obtain ⟨p6,n6,c6,Z⟩:=AB;have h7:=Z.err;have H6:=yH Z;clear Z;by_cases G:K.e=0
   ·rw [G] at h7;rcases E.run with ⟨L,_,hl,hc,I⟩ | ⟨A8,_⟩
    ·rw [Nat.sub_self] at I;have I:(L,K)=T:=I;have HX:=yH (show X=L from by rw [HV.out,<- I,if_pos G]);have U:=yH (show T.2=K from by rw [<- I]);have HC:=yH hc;have d:=yH hl;clear I hc hl G;go_wp2_with fail
     go_ret;rw [HX.out,U.out];refine ⟨_,rfl,?_,⟨p6,n6,c6,H6.out⟩,E.grown⟩;rw [d.out];exact ⟨by rw [x3C,d.out,Nat.mul_one],Or.inr ⟨gr,m,C,rfl,M.2,E.row,jB _,by unfold maxLen;omega,by rw [E.size,Nat.mul_one],by rw [Nat.mul_one];exact HC.out⟩⟩
    ·exact absurd G A8
   ·have ht:T.2=K:=by
     rcases E.run with ⟨L,AA,_⟩ | ⟨_,h⟩
     ·exact absurd AA G
     ·exact h
    have hx:X=[]:=by rw [HV.out,if_neg (by rw [ht];exact G)]
    have b1:((K.e:Int) !=0)=true:=by simp;omega
    have HX:=yH hx;have U:=yH ht;clear G ht hx;go_wp2_with fail
    go_ret;rw [HX.out,U.out];exact ⟨_,rfl,y42 _ _,⟨p6,n6,c6,H6.out⟩,E.grown⟩
end Nd
end Go.Proofs.YtenenciaggbjnaaGreat
