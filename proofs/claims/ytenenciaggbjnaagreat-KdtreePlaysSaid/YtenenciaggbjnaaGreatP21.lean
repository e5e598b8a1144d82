/- KdStep, KdMeetV. -/
import Derived.Great.BuildSlice
import Derived.BigRegion
import Derived.Test.YtenenciaggbjnaaGreatP20
set_option maxRecDepth 100000
set_option maxHeartbeats 8000000
set_option linter.all false
namespace Go.Proofs.YtenenciaggbjnaaGreat
namespace Kt
open Go.RowKit Nd Dk Pg
theorem UWy:Tryz.prog.underlying 109=some (.slice 117):=by kernel_rfl
def sp0:List Value:=kd0.cells++[.int .u8 0,.slice none 0 0,.slice none 0 0,.int .i64 0]
theorem ISp:(Tryz.prog.info? 117).map (fun i=>(i.zero,i.size,i.bytes))=some (some (.agg sp0.toArray),41,184):=by kernel_rfl
theorem USp0:(Tryz.prog.underlying 117).map (·.isRow)=some true:=by kernel_rfl
theorem USp:∃d,Tryz.prog.underlying 117=some d/\d.isRow=true:=by
 have h:=USp0
 revert h
 cases Tryz.prog.underlying 117 with
 | none=>intro h;cases h
 | some d=>intro h;exact ⟨d,rfl,by simpa using h⟩
theorem SSp:(Tryz.prog.info? 117).map (·.size)=some 41:=by kernel_rfl
theorem x8o (ge gk:Nat) (ce ck:Nat):Tryz.prog.built 117 [(1,.agg #[.int .u8 1,.slice (some ⟨ge,0,none⟩) 1 ce,.slice (some ⟨gk,0,none⟩) 2 ck])]=some (kd0.cells++[Value.int .u8 1,.slice (some ⟨ge,0,none⟩) 1 ce,.slice (some ⟨gk,0,none⟩) 2 ck,.int .i64 0]).toArray:=by kernel_rfl
theorem y33 (q1 q2 q3:Option Addr) (m1 c1 m2 c2 m3 c3:Nat) (x y:Int) (ge gk ce ck:Nat):∀(D:List Nat),D.length=32->Tryz.prog.built 117 [(0,.agg (vals D++[Value.slice q1 m1 c1,.slice q2 m2 c2,.int .i64 x,.int .i64 y,.slice q3 m3 c3]).toArray),(1,.agg #[.int .u8 1,.slice (some ⟨ge,0,none⟩) 1 ce,.slice (some ⟨gk,0,none⟩) 2 ck])]=some ((vals D++[Value.slice q1 m1 c1,.slice q2 m2 c2,.int .i64 x,.int .i64 y,.slice q3 m3 c3])++[Value.int .u8 1,.slice (some ⟨ge,0,none⟩) 1 ce,.slice (some ⟨gk,0,none⟩) 2 ck,.int .i64 0]).toArray
 |[a0,a1,a2,a3,a4,a5,a6,a7,a8,a9,a10,a11,a12,a13,a14,a15,a16,a17,a18,a19,a20,a21,a22,a23,a24,a25,a26,a27,a28,a29,a30,a31],_=>by kernel_rfl
theorem y6b (q1 q2 q3:Option Addr) (m1 c1 m2 c2 m3 c3:Nat) (x y z:Int) (ge gk ce ck:Nat):∀(D:List Nat),D.length=32->Instr.fill (fun i=>some (i*41,41)) ((Array.range (1*41)).map ((Value.agg sp0.toArray).cells[·%(Value.agg sp0.toArray).cells.size]!)) [(0,.agg ((vals D++[Value.slice q1 m1 c1,.slice q2 m2 c2,.int .i64 x,.int .i64 y,.slice q3 m3 c3])++[Value.int .u8 1,.slice (some ⟨ge,0,none⟩) 1 ce,.slice (some ⟨gk,0,none⟩) 2 ck,.int .i64 z]).toArray)]=some ((vals D++[Value.slice q1 m1 c1,.slice q2 m2 c2,.int .i64 x,.int .i64 y,.slice q3 m3 c3])++[Value.int .u8 1,.slice (some ⟨ge,0,none⟩) 1 ce,.slice (some ⟨gk,0,none⟩) 2 ck,.int .i64 z]).toArray
 |[a0,a1,a2,a3,a4,a5,a6,a7,a8,a9,a10,a11,a12,a13,a14,a15,a16,a17,a18,a19,a20,a21,a22,a23,a24,a25,a26,a27,a28,a29,a30,a31],_=>by kernel_rfl
theorem x1M {w:World} {o:Oper} {a:Act} {K:Act->World->Prop} {Q:Exit->Act->World->Prop} (x:Operand) (ho:o.op= .buildSlice 109 1 #[(0,x)]) {m:MSt} (hm:m.kid.sum.length=32) (hx:a.eval x= .agg m.cells.toArray)
  (h:K (a.put o.dst (.slice (some ⟨w.heap.size,0,none⟩) 1 1)) (w.alloc (.cells m.cells.toArray 117))):o.wp Tryz.prog a w K Q:=by
 obtain ⟨i,C,B,A,E⟩:=info_parts ISp;refine wp_buildSlice 109 117 1 #[(0,x)] ho m.cells.toArray i _ UWy C B (by rw [A];omega) (by rw [A];omega) ?_ h;rw [A];simp only [kA,kB,kC,hx];exact y6b _ _ _ _ _ _ _ _ _ _ _ _ _ _ _ _ m.kid.sum hm
theorem MSt.one {m:MSt}:∀u∈m.cells,u.oneCell'=true:=by
 intro u A;unfold MSt.cells at A;rcases jP.1 A with A | A
 ·exact Kd.one u A
 ·simp only [jW,jV,or_false] at A;rcases A with rfl | rfl | rfl | rfl<;>rfl
theorem y34 (w:World) (m:MSt):∀j u,m.cells[j]? =some u->(w.alloc (.cells m.cells.toArray 117)).cell? ((⟨w.heap.size,0,none⟩:Addr).add j)=some u:=fun j u hu=>by
 rw [Addr.add_mid,Nat.zero_add,jH _ w.heap.size j _ _ _ (jE w _)]
 simpa using hu
theorem x1d {B bw:Nat} {w:World} {v:Value} {A:List MSt} {m:MSt} (h:WaySt B bw w v A) (hm:m.kid.sum.length=32) {o:Oper} {a:Act} {K:Act->World->Prop} {Q:Exit->Act->World->Prop} (s x:Operand)
  (ho:o.op= .call {callee:=.builtin .append,args:= #[s,x],argTypes:= #[109,109]}) (hs:a.eval s=v) (hx:a.eval x= .slice (some ⟨w.heap.size,0,none⟩) 1 1) (hlen:A.length<=100000)
  (hK:∀q c w',w'.ownsRow B 117 41 (.slice q (A.length+1) c) (A.length+1) ((A++[m]).flatMap MSt.cells)->(w.alloc (.cells m.cells.toArray 117)).grownBy w' v.ownBlock->((Value.slice q (A.length+1) c).ownBlock=v.ownBlock\/(Value.slice q (A.length+1) c).ownBlock=some (w.heap.size+1))->K (a.put o.dst (.slice q (A.length+1) c)) w'):o.wp Tryz.prog a (w.alloc (.cells m.cells.toArray 117)) K Q:=by
 obtain ⟨i,J,G,E,H⟩:=info_parts ISp;have I:=jA w (.cells m.cells.toArray 117);have C:=(h.later I).own;refine x0l s x 109 ho B 117 i _ 41 184 UWy J G E H (by rfl) (by decide) v A.length _ hs C ⟨w.heap.size,0,none⟩ 1 1 m.cells hx (by rw [MSt.cells_length hm]) (y34 w m) MSt.one (by unfold maxLen;omega) (by omega) (by have:=h.low;have:=(yL h.box);simp;omega) fun v' w' h1 h2 h3=>?_;obtain ⟨q,c,rfl⟩:=x1x h1;refine hK q c w' (by rw [List.flatMap_append];simpa using h1) h2 ?_
 simpa using h3
theorem x4h {B bw:Nat} {w w':World} {v:Value} {A:List MSt} {m:MSt} {q:Option Addr} {c:Nat} (h:WaySt B bw w v A) (hm:m.Ok w) (hlt:B<=w.heap.size) (ho:w'.ownsRow B 117 41 (.slice q (A.length+1) c) (A.length+1) ((A++[m]).flatMap MSt.cells)) (hg:(w.alloc (.cells m.cells.toArray 117)).grownBy w' v.ownBlock) (hat:(Value.slice q (A.length+1) c).ownBlock=v.ownBlock\/(Value.slice q (A.length+1) c).ownBlock=some (w.heap.size+1))
  (hnew:WayM B w (A++[m])) (hx:∀k,m.reads k->k≠bw/\v.ownBlock≠some k):
  WaySt B bw (w'.setCell ⟨bw,0,none⟩ (.slice q (A.length+1) c)) (.slice q (A.length+1) c) (A++[m])/\Only (fun k=>k=bw\/v.ownBlock=some k) w (w'.setCell ⟨bw,0,none⟩ (.slice q (A.length+1) c))/\w'.heap[bw]? =some (.cells #[v] 109 (0,0)):=by
 have H:=jA w (.cells m.cells.toArray 117);have I:=(yL h.box)
 have K:w'.heap[bw]? =some (.cells #[v] 109 (0,0)):=(hg.block bw (jO I H.size) (fun e=>h.ne e.symm)).trans ((H.block bw I).trans h.box);have L:(Value.slice q (A.length+1) c).ownBlock≠some bw:=fun e=>by
  rcases hat with E | E
  ·exact h.ne (E.symm.trans e)
  ·rw [E] at e;have:=Option.some.inj e;omega
 have G:Only (fun k=>k=bw) w' (w'.setCell ⟨bw,0,none⟩ (.slice q (A.length+1) c)):=Only.setCell (P:=fun j=>j=bw) w' (a:=⟨bw,0,none⟩) rfl _;have J:Only (fun k=>k=bw\/v.ownBlock=some k) w (w'.setCell ⟨bw,0,none⟩ (.slice q (A.length+1) c)):=
  ⟨G.os.trans (hg.os.trans H.os),G.tape.trans (hg.tape.trans H.tape),G.output.trans (hg.output.trans H.output),jJ H.size (jJ hg.size G.size),fun k hk hn=>
   (G.block k (jO hk (jJ H.size hg.size)) (fun e=>hn (Or.inl e))).trans ((hg.block k (jO hk H.size) (fun e=>hn (Or.inr e.symm))).trans (H.block k hk))⟩
 have C:∀x∈A++[m],∀k,x.reads k->k≠bw/\v.ownBlock≠some k:=fun x hx' k hk=>by
  rcases jP.1 hx' with E | E
  ·exact h.aside x E k hk
  ·rw [kZ.1 E] at hk;exact hx k hk
 refine ⟨⟨x6A K,?_,L,hnew.keep fun x hx' k hk=>J.block k ((hnew.each x hx').lt k hk) (fun e=>e.elim (C x hx' k hk).1 (C x hx' k hk).2),fun x hx' k hk=>⟨(C x hx' k hk).1,fun e=>?_⟩,h.low⟩,J,K⟩
 ·obtain ⟨E,U⟩:=ho;rw [jQ];refine ⟨E,U.imp id ?_⟩;rintro ⟨g,O,N,R,M,Q,r⟩;refine ⟨g,O,N,R,M,(G.block g (yL Q) (fun e=>L (by rw [R,<- e];rfl))).trans Q,r⟩
 ·rcases hat with E | E
  ·exact (C x hx' k hk).2 (E.symm.trans e)
  ·rw [E] at e;have:=Option.some.inj e;have:=(hnew.each x hx').lt k hk;omega
end Kt
namespace Kt
open Go.RowKit Nd Dk Pg
open List renaming setIfInBounds_toArray -> yA, set_cons_zero -> yB, set_cons_succ -> yC
def x4D (bw:Nat) (v:Value) (A:List MSt) (r:Rw):Prop:=∀x,r.p=some x->r.R≠[]->x.block≠bw/\v.ownBlock≠some x.block/\∀a∈A,x.block≠a.ge/\x.block≠a.gk
def FarK (X:List Rw) (w:World) (m:MSt):Prop:=∀j,m.reads j->w.heap.size<=j\/∃r∈X,∃x,r.p=some x/\r.R≠[]/\j=x.block
def Met (B bw:Nat) (w:World) (v:Value) (A:List MSt) (s:St) (X:List Rw) (w':World) (m:MSt):Prop:=∃v',WaySt B bw w' v' (A++[m])/\Link m s/\Only (fun k=>k=bw\/v.ownBlock=some k) w w'/\(v'.ownBlock=v.ownBlock\/∃k,v'.ownBlock=some k/\w.heap.size<=k)/\w.heap.size<=m.ge/\w.heap.size<=m.gk/\FarK X w m
theorem spz:(Tryz.prog.info? 117).map (fun i=>(i.zero,i.size))=some (some (.agg sp0.toArray),41):=by kernel_rfl
theorem y4k:sp0.length=41:=rfl
theorem y1Q (p:Option Addr) (n c:Nat):Tryz.prog.built 101 [(0,.slice p n c)]=some #[.slice p n c,.bool false]:=by kernel_rfl
theorem x1H {r:Rw} (h:r∈kd0.rows):r.p=none:=by
 simp only [Kd.rows,kd0,jW,jV,or_false] at h;rcases h with rfl | rfl | rfl<;>rfl
theorem y0V {w:World} {ge gk:Nat} {r:Rw} (he:w.heap[ge]? =some (.cells #[r.val,.bool false] 101 (0,0))) (hk:w.heap[gk]? =some (.cells (kd0.cells++kd0.cells).toArray 34 (0,0))) (hn:ge≠gk) (hr:r.Ok w) (ha:∀x,r.p=some x->r.R≠[]->x.block≠ge/\x.block≠gk):(MSt.mk kd0 ge 1 gk 2 r false kd0 kd0 false).Ok w:=by
 have C:∀ {g n:Nat} {cs:Array Value} {t:TypeId},w.heap[g]? =some (.cells cs t (0,0))->n<=cs.size->w.there g 0 n:=fun {g n cs t} hh hle j hj=>by
  refine ⟨?_,jS w g _ _ _ hh⟩;rw [jH w g _ _ _ _ hh,Nat.zero_add,Array.getElem?_eq_getElem (jO hj hle)];rfl
 refine ⟨x24 w,x09 he,C he (by simp),fun j u A=>?_,fun j u A=>?_,C hk (by rw [jF,jQ,x02];exact jB _),hr,x24 w,x24 w,⟨jB _,jB _⟩,hn,fun x hx y hy hR=>?_⟩
 ·have A:kd0.cells[j]? =some u:=A;rw [Nat.zero_add,jH w gk j _ _ _ hk];simp only [List.getElem?_toArray];rw [kR (List.getElem?_eq_some_iff.1 A).1];exact A
 ·have A:kd0.cells[j]? =some u:=A;rw [jH w gk _ _ _ _ hk];simp only [List.getElem?_toArray];rw [kS (by rw [x02];omega),x02,Nat.add_sub_cancel_left];exact A
 ·simp only [MSt.rows,jP,jW] at hx;rcases hx with B | rfl | B | B
  ·rw [x1H B] at hy;cases hy
  ·exact ha y hy hR
  ·rw [x1H B] at hy;cases hy
  ·rw [x1H B] at hy;cases hy
theorem x2Y {ge ce gk ck:Nat} {r:Rw} {v:Bool} {k a b:Nat} (h:(MSt.mk kd0 ge ce gk ck r v kd0 kd0 false).reads k) (h1:(k=ge\/k=gk)->k≠a/\k≠b) (h2:∀y,r.p=some y->r.R≠[]->y.block≠a/\y.block≠b):k≠a/\k≠b:=by
 rcases h with h | h | ⟨x,C,y,A,E,rfl⟩
 ·exact h1 (Or.inl h)
 ·exact h1 (Or.inr h)
 ·simp only [MSt.rows,jP,jW] at C;rcases C with B | rfl | B | B
  ·rw [x1H B] at A;cases A
  ·exact h2 y A E
  ·rw [x1H B] at A;cases A
  ·rw [x1H B] at A;cases A
theorem x9T {ge ce gk ck:Nat} {r:Rw} {v:Bool} {w:World} (h:w.heap.size<=ge/\w.heap.size<=gk):FarK [r] w (MSt.mk kd0 ge ce gk ck r v kd0 kd0 false):=fun j hj=>by
 rcases hj with rfl | rfl | ⟨x,hx,y,hy,hR,rfl⟩
 ·exact Or.inl h.1
 ·exact Or.inl h.2
 ·simp only [MSt.rows,jP,jW] at hx
  rcases hx with h3 | rfl | h3 | h3
  ·rw [x1H h3] at hy;cases hy
  ·exact Or.inr ⟨x,by simp,y,hy,hR,rfl⟩
  ·rw [x1H h3] at hy;cases hy
  ·rw [x1H h3] at hy;cases hy
theorem x2K {ge ce gk ck:Nat} {r:Rw} {v:Bool} {k bw:Nat} {u:Value} (h:(MSt.mk kd0 ge ce gk ck r v kd0 kd0 false).reads k) (h1:(k=ge\/k=gk)->k≠bw/\u.ownBlock≠some k) (h2:∀y,r.p=some y->r.R≠[]->y.block≠bw/\u.ownBlock≠some y.block):k≠bw/\u.ownBlock≠some k:=by
 rcases h with h | h | ⟨x,C,y,A,E,rfl⟩
 ·exact h1 (Or.inl h)
 ·exact h1 (Or.inr h)
 ·simp only [MSt.rows,jP,jW] at C;rcases C with B | rfl | B | B
  ·rw [x1H B] at A;cases A
  ·exact h2 y A E
  ·rw [x1H B] at A;cases A
  ·rw [x1H B] at A;cases A
theorem y4l {g:Nat} (d:Int) (ga oa:Nat) (wp p:Option Addr) (n c:Nat) (w:World) (hg:x64 (some ⟨g,0,none⟩) d ga oa 21 w):
  Calls Tryz.prog 193 #[.agg #[.pointer (some ⟨g,0,none⟩),.int .i64 d],.pointer wp,.pointer (some ⟨ga,oa,none⟩),.slice p n c] w fun e w'=>e= .returned (.tuple #[.pointer none,.int .i64 21])/\Below w.heap.size w w':=by
 have b1:=jA w (.cells #[.pointer (some ⟨g,0,none⟩),.int .i64 d] 107);have I:=jE w (.cells #[.pointer (some ⟨g,0,none⟩),.int .i64 d] 107);have P:=yH (hg _ b1);have O:=yH (x09 I);have K:=yH b1;obtain ⟨M,C,E⟩:=UTr;have G:=yH C;have H:=yH E;clear hg b1 I C E
 go_enter Tryz.func193,Tryz.ntmps193
 go_upto_region 1 with fail
 generalize w.alloc (.cells #[.pointer (some ⟨g,0,none⟩),.int .i64 d] 107)=w1 at *;go_upto_region 2 with (first
  | (refine jK (by rfl) 107 _ (by rfl) w.heap.size 0 (by rfl) [.pointer (some ⟨g,0,none⟩),.int .i64 d] M O G H STr ?_)
  | (go_at_call 145;refine P.mono ?_;rintro _ A ⟨rfl,L⟩;have J:=yH (K.trans (L.mono K.size));clear L)
  | (refine jL (by rfl) 97 (.tmp 10) _ (by rfl) A.heap.size #[.int .u8 0,.slice none 0 0,.slice none 0 0] (by rfl) (by rfl) _ _ (jE A _) SNo rfl x2u ?_))
 have B:Below A.heap.size A ((A.alloc (.cells #[.int .u8 0,.slice none 0 0,.slice none 0 0] 97)).setRow A.heap.size #[.int .u8 0,.slice none 0 0,.slice none 0 0]):=Below.setRow (jA _ _) (jB _) _;generalize (A.alloc (.cells #[.int .u8 0,.slice none 0 0,.slice none 0 0] 97)).setRow A.heap.size #[.int .u8 0,.slice none 0 0,.slice none 0 0]=w4 at *;have N:=yH (J.trans (B.mono J.size));clear B;go_wp2_with fail
 go_ret2;exact ⟨rfl,N.out⟩
theorem y4m {g B bw:Nat} {v:Value} {A:List MSt} (d:Int) (ga oa:Nat) (r:Rw) (w:World) (hg:x64 (some ⟨g,0,none⟩) d ga oa 0 w) (hw:WaySt B bw w v A) (hB:B<=w.heap.size) (hr:r.Ok w) (ha:x4D bw v A r) (hA:A.length<=100000):
  Calls Tryz.prog 193 #[.agg #[.pointer (some ⟨g,0,none⟩),.int .i64 d],.pointer (some ⟨bw,0,none⟩),.pointer (some ⟨ga,oa,none⟩),r.val] w fun e w'=>e= .returned (.tuple #[.pointer none,.int .i64 0])/\∃m,Met B bw w v A ⟨r.R,false,.nil,.nil,false,.nil⟩ [r] w' m:=by
 have b1:=jA w (.cells #[.pointer (some ⟨g,0,none⟩),.int .i64 d] 107);have r1:=jE w (.cells #[.pointer (some ⟨g,0,none⟩),.int .i64 d] 107);have HG:=yH (hg _ b1);have R1:=yH (x09 r1);have B1:=yH b1;have HW:=yH hw;have j:=yH hB;have HR:=yH hr;have U:=yH ha;have HA:=yH hA;obtain ⟨f,c,i,l⟩:=r;unfold Rw.val;simp only;obtain ⟨du,AB,A6⟩:=UTr;have AE:=yH AB;have AI:=yH A6;clear hg hw hB hr ha hA b1 r1 AB A6
 go_enter Tryz.func193,Tryz.ntmps193
 go_upto_region 1 with fail
 generalize w.alloc (.cells #[.pointer (some ⟨g,0,none⟩),.int .i64 d] 107)=w1 at *;go_upto_region 2 with (first
  | (refine jK (by rfl) 107 _ (by rfl) w.heap.size 0 (by rfl) [.pointer (some ⟨g,0,none⟩),.int .i64 d] du R1 AE AI STr ?_)
  | (go_at_call 145;refine HG.mono ?_;rintro _ w3 ⟨rfl,b3⟩;have B3:=yH (B1.trans (b3.mono B1.size));clear b3)
  | (refine jL (by rfl) 97 (.tmp 10) _ (by rfl) w3.heap.size #[.int .u8 0,.slice none 0 0,.slice none 0 0] (by rfl) (by rfl) _ _ (jE w3 _) SNo rfl x2u ?_;rw [x03]))
 have AA:=jA w3 (.cells #[.int .u8 0,.slice none 0 0,.slice none 0 0] 97);have A8:=jE w3 (.cells #[.int .u8 0,.slice none 0 0,.slice none 0 0] 97);generalize w3.alloc (.cells #[.int .u8 0,.slice none 0 0,.slice none 0 0] 97)=w4 at *;have B4:=yH (B3.trans (AA.mono B3.size));have c0:=jH w4 w3.heap.size 0 _ _ _ A8;clear AA A8;go_upto_region 5 with fail
 clear c0;have AH:=yH (HW.later B4);have AF:=yH (HR.later B4);refine kD (S:=fun _=>True) (by kernel_rfl) (trivial) (fun hH=>?_);have E:=yH (AH.later (jC _ _).drew);have Q:=yH (B4.trans ((jC _ _).drew.mono B4.size));have P:=yH (AF.later (jC _ _).drew);generalize w4.drew=x0 at *;refine tK 0 ?_;refine tK 1 ?_;refine tK 2 ?_;refine tK 4 ?_;refine tQ 5 ?_ ?_ ?_;rotate_left
 ·intro w' hSw;refine Eq.trans (b:=Result.ok (Next.value (.agg #[.slice f c i,.bool false])) w') ?_ ?_
  ·apply x1A (t:=101) (parts:= #[(0,.tmp 30)])
   ·rfl
   ·simp only [kA,kB,kC];exact y1Q _ _ _
  ·with_reducible rfl
 refine tQ 6 ?_ ?_ ?_;rotate_left
 ·intro w' hSw;refine Eq.trans (b:=Result.ok (Next.value (.agg kd0.cells.toArray)) w') ?_ ?_
  ·apply x1A (t:=34) (parts:= #[])
   ·rfl
   ·simp only [kA,kC];exact x0T
  ·with_reducible rfl
 refine tQ 7 ?_ ?_ ?_;rotate_left
 ·intro w' hSw;refine Eq.trans (b:=Result.ok (Next.value (.agg kd0.cells.toArray)) w') ?_ ?_
  ·apply x1A (t:=34) (parts:= #[])
   ·rfl
   ·simp only [kA,kC];exact x0T
  ·with_reducible rfl
 refine rY [3,8] ?_;refine rC (fun K C=>?_) (rC (fun K C=>?_) AllReadyH.nil)
 ·
  have n:x0.cell? ⟨bw,0,none⟩=some v:=jH x0 bw 0 _ _ _ E.box;go_simp;refine C.out _ _ trivial (fun hH=>?_);clear C K;try simp only [Act.put,yA,yB,yC]
  refine rO 8 fun K C=>?_;go_simp;refine (x7e ⟨f,c,i,l⟩ false kd0 kd0 x0 P (x24 _) (x24 _)).mono ?_;rintro _ x1 ⟨W,Z,rfl,hE,C,hb,he,M,x,q⟩;have L:=yH (E.later hb);have O:=yH (Q.trans (hb.mono Q.size));have p:=yH (P.later hb);have HM:=yH (show (MSt.mk kd0 W 1 Z 2 ⟨f,c,i,l⟩ false kd0 kd0 false).Ok x1 from y0V he M (by omega) p (fun z hz hR=>by have:=rw_lt P.out z hz hR;omega));have I:=yH (show x0.heap.size<=W/\W<Z from ⟨x,q⟩);have H:=yH (show w.heap.size<=W/\w.heap.size<=Z by have:=Q.size;omega);clear hE C hb he M x q;try go_wp2_with fail
  refine C.out _ _ trivial (fun hH=>?_);clear C K;try simp only [Act.put,yA,yB,yC]
  refine tQ 9 ?_ ?_ ?_;rotate_left
  ·intro w' hSw;refine Eq.trans (b:=Result.ok (Next.value (.agg (MSt.mk kd0 W 1 Z 2 ⟨f,c,i,l⟩ false kd0 kd0 false).cells.toArray)) w') ?_ ?_
   ·apply x1A (t:=117) (parts:= #[(1,.tmp 34)])
    ·rfl
    ·simp only [kA,kB,kC];exact x8o _ _ _ _
   ·with_reducible rfl
  refine rO 10 fun K C=>?_;refine x1M (.tmp 35) (by rfl) (m:=MSt.mk kd0 W 1 Z 2 ⟨f,c,i,l⟩ false kd0 kd0 false) (by simp [kd0,zeros]) (by rfl) ?_;refine C.out _ _ trivial (fun hH=>?_);clear C K;try simp only [Act.put,yA,yB,yC]
  refine rO 11 fun K C=>?_;refine x1d L (m:=MSt.mk kd0 W 1 Z 2 ⟨f,c,i,l⟩ false kd0 kd0 false) (by simp [kd0,zeros]) (.tmp 29) (.tmp 36) (by rfl) (by rfl) (by rfl) HA ?_;intro q7 c7 w7 hown7 hg7 hat7;refine C.out _ _ trivial (fun hH=>?_);clear C K;try simp only [Act.put,yA,yB,yC]
  have A0:=Q.size;obtain ⟨X,G,J⟩:=x4h L.out HM (by have:=j.out;have:=O.size;omega) hown7 hg7 hat7 (L.way.snoc HM (N:=x0.heap.size) (by have:=j.out;omega) (fun a ha k M=>by have:=(E.way.each a ha).lt k M;omega) (by have:=I.out;exact ⟨this.1,jJ this.1 (Nat.le_of_lt this.2)⟩) (fun a ha k M=>x2Y M (fun e=>by have:=(E.way.each a ha).lt _ (Or.inl rfl);have:=(E.way.each a ha).lt _ (Or.inr (Or.inl rfl));have:=I.out;omega) (fun y hy hR=>(U.out y hy hR).2.2 a ha))) (fun k M=>x2K M (fun e=>⟨fun e2=>by have:=(yL E.box);have:=I.out;omega,fun e2=>by have:=(E.own.lt _ e2).2;have:=I.out;omega⟩) (fun y hy hR=>⟨(U.out y hy hR).1,(U.out y hy hR).2.1⟩));have o:=yH X;have u:=yH G;have Y:=yH J;have s:=yH hat7;clear X G J hown7 hg7 hat7 A0;refine tK 12 ?_;refine rO 13 fun K C=>?_;have n:w7.cell? ⟨bw,0,none⟩=some v:=jH w7 bw 0 _ _ _ Y;have A5:=jS w7 bw 0 _ _ Y;go_simp;refine C.out _ _ trivial (fun hH=>?_);clear C K;try simp only [Act.put,yA,yB,yC]
  refine jD ?_;generalize w7.setCell ⟨bw,0,none⟩ (.slice q7 (A.length+1) c7)=w8 at *;go_wp2_with fail
  go_ret2;refine ⟨rfl,_,_,o.out,⟨rfl,rfl,rfl,rfl,rfl,rfl⟩,(Only.of_below _ O).trans u.out,?_,H.1,H.2,x9T H⟩;rcases s.out with h | h
  ·exact Or.inl h
  ·exact Or.inr ⟨_,h,by have:=O.size;omega⟩
 ·
  go_simp;refine (x7e ⟨f,c,i,l⟩ false kd0 kd0 x0 P (x24 _) (x24 _)).mono ?_;rintro _ x1 ⟨W,Z,rfl,hE,C,hb,he,M,x,q⟩;have L:=yH (E.later hb);have O:=yH (Q.trans (hb.mono Q.size));have p:=yH (P.later hb);have HM:=yH (show (MSt.mk kd0 W 1 Z 2 ⟨f,c,i,l⟩ false kd0 kd0 false).Ok x1 from y0V he M (by omega) p (fun z hz hR=>by have:=rw_lt P.out z hz hR;omega));have I:=yH (show x0.heap.size<=W/\W<Z from ⟨x,q⟩);have H:=yH (show w.heap.size<=W/\w.heap.size<=Z by have:=Q.size;omega);clear hE C hb he M x q;try go_wp2_with fail
  refine C.out _ _ trivial (fun hH=>?_);clear C K;try simp only [Act.put,yA,yB,yC]
  refine tQ 9 ?_ ?_ ?_;rotate_left
  ·intro w' hSw;refine Eq.trans (b:=Result.ok (Next.value (.agg (MSt.mk kd0 W 1 Z 2 ⟨f,c,i,l⟩ false kd0 kd0 false).cells.toArray)) w') ?_ ?_
   ·apply x1A (t:=117) (parts:= #[(1,.tmp 34)])
    ·rfl
    ·simp only [kA,kB,kC];exact x8o _ _ _ _
   ·with_reducible rfl
  refine rY [3,10] ?_;refine rC (fun K C=>?_) (rC (fun K C=>?_) AllReadyH.nil)
  ·
   have n:x1.cell? ⟨bw,0,none⟩=some v:=jH x1 bw 0 _ _ _ L.box;go_simp;refine C.out _ _ trivial (fun hH=>?_);clear C K;try simp only [Act.put,yA,yB,yC]
   refine rO 10 fun K C=>?_;refine x1M (.tmp 35) (by rfl) (m:=MSt.mk kd0 W 1 Z 2 ⟨f,c,i,l⟩ false kd0 kd0 false) (by simp [kd0,zeros]) (by rfl) ?_;refine C.out _ _ trivial (fun hH=>?_);clear C K;try simp only [Act.put,yA,yB,yC]
   refine rO 11 fun K C=>?_;refine x1d L (m:=MSt.mk kd0 W 1 Z 2 ⟨f,c,i,l⟩ false kd0 kd0 false) (by simp [kd0,zeros]) (.tmp 29) (.tmp 36) (by rfl) (by rfl) (by rfl) HA ?_;intro q7 c7 w7 hown7 hg7 hat7;refine C.out _ _ trivial (fun hH=>?_);clear C K;try simp only [Act.put,yA,yB,yC]
   have A0:=Q.size;obtain ⟨X,G,J⟩:=x4h L.out HM (by have:=j.out;have:=O.size;omega) hown7 hg7 hat7 (L.way.snoc HM (N:=x0.heap.size) (by have:=j.out;omega) (fun a ha k M=>by have:=(E.way.each a ha).lt k M;omega) (by have:=I.out;exact ⟨this.1,jJ this.1 (Nat.le_of_lt this.2)⟩) (fun a ha k M=>x2Y M (fun e=>by have:=(E.way.each a ha).lt _ (Or.inl rfl);have:=(E.way.each a ha).lt _ (Or.inr (Or.inl rfl));have:=I.out;omega) (fun y hy hR=>(U.out y hy hR).2.2 a ha))) (fun k M=>x2K M (fun e=>⟨fun e2=>by have:=(yL E.box);have:=I.out;omega,fun e2=>by have:=(E.own.lt _ e2).2;have:=I.out;omega⟩) (fun y hy hR=>⟨(U.out y hy hR).1,(U.out y hy hR).2.1⟩));have o:=yH X;have u:=yH G;have Y:=yH J;have s:=yH hat7;clear X G J hown7 hg7 hat7 A0;refine tK 12 ?_;refine rO 13 fun K C=>?_;have n:w7.cell? ⟨bw,0,none⟩=some v:=jH w7 bw 0 _ _ _ Y;have A5:=jS w7 bw 0 _ _ Y;go_simp;refine C.out _ _ trivial (fun hH=>?_);clear C K;try simp only [Act.put,yA,yB,yC]
   refine jD ?_;generalize w7.setCell ⟨bw,0,none⟩ (.slice q7 (A.length+1) c7)=w8 at *;go_wp2_with fail
   go_ret2;refine ⟨rfl,_,_,o.out,⟨rfl,rfl,rfl,rfl,rfl,rfl⟩,(Only.of_below _ O).trans u.out,?_,H.1,H.2,x9T H⟩;rcases s.out with h | h
   ·exact Or.inl h
   ·exact Or.inr ⟨_,h,by have:=O.size;omega⟩
  ·
   refine x1M (.tmp 35) (by rfl) (m:=MSt.mk kd0 W 1 Z 2 ⟨f,c,i,l⟩ false kd0 kd0 false) (by simp [kd0,zeros]) (by rfl) ?_;refine C.out _ _ trivial (fun hH=>?_);clear C K;try simp only [Act.put,yA,yB,yC]
   refine rO 3 fun K C=>?_;have n:(x1.alloc (.cells (MSt.mk kd0 W 1 Z 2 ⟨f,c,i,l⟩ false kd0 kd0 false).cells.toArray 117)).cell? ⟨bw,0,none⟩=some v:=jH _ bw 0 _ _ _ (L.later (jA _ _)).box;go_simp;refine C.out _ _ trivial (fun hH=>?_);clear C K;try simp only [Act.put,yA,yB,yC]
   refine rO 11 fun K C=>?_;refine x1d L (m:=MSt.mk kd0 W 1 Z 2 ⟨f,c,i,l⟩ false kd0 kd0 false) (by simp [kd0,zeros]) (.tmp 29) (.tmp 36) (by rfl) (by rfl) (by rfl) HA ?_;intro q7 c7 w7 hown7 hg7 hat7;refine C.out _ _ trivial (fun hH=>?_);clear C K;try simp only [Act.put,yA,yB,yC]
   have A0:=Q.size;obtain ⟨X,G,J⟩:=x4h L.out HM (by have:=j.out;have:=O.size;omega) hown7 hg7 hat7 (L.way.snoc HM (N:=x0.heap.size) (by have:=j.out;omega) (fun a ha k M=>by have:=(E.way.each a ha).lt k M;omega) (by have:=I.out;exact ⟨this.1,jJ this.1 (Nat.le_of_lt this.2)⟩) (fun a ha k M=>x2Y M (fun e=>by have:=(E.way.each a ha).lt _ (Or.inl rfl);have:=(E.way.each a ha).lt _ (Or.inr (Or.inl rfl));have:=I.out;omega) (fun y hy hR=>(U.out y hy hR).2.2 a ha))) (fun k M=>x2K M (fun e=>⟨fun e2=>by have:=(yL E.box);have:=I.out;omega,fun e2=>by have:=(E.own.lt _ e2).2;have:=I.out;omega⟩) (fun y hy hR=>⟨(U.out y hy hR).1,(U.out y hy hR).2.1⟩));have o:=yH X;have u:=yH G;have Y:=yH J;have s:=yH hat7;clear X G J hown7 hg7 hat7 A0;refine tK 12 ?_;refine rO 13 fun K C=>?_;have n:w7.cell? ⟨bw,0,none⟩=some v:=jH w7 bw 0 _ _ _ Y;have A5:=jS w7 bw 0 _ _ Y;go_simp;refine C.out _ _ trivial (fun hH=>?_);clear C K;try simp only [Act.put,yA,yB,yC]
   refine jD ?_;generalize w7.setCell ⟨bw,0,none⟩ (.slice q7 (A.length+1) c7)=w8 at *;go_wp2_with fail
   go_ret2;refine ⟨rfl,_,_,o.out,⟨rfl,rfl,rfl,rfl,rfl,rfl⟩,(Only.of_below _ O).trans u.out,?_,H.1,H.2,x9T H⟩;rcases s.out with h | h
   ·exact Or.inl h
   ·exact Or.inr ⟨_,h,by have:=O.size;omega⟩
end Kt
end Go.Proofs.YtenenciaggbjnaaGreat
