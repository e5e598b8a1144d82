/- NlRet, NlKey, DkMath, NlReadKid, NdLst, NdTally. -/
import Derived.Laws.ResultCell
import Derived.Maps.AppendAt
import Derived.Great.BuildSlice
import Derived.Test.YtinihaflmdihaaaGreatL6
set_option maxRecDepth 100000
set_option maxHeartbeats 8000000
set_option linter.all false
namespace Go.Proofs.YtinihaflmdihaaaGreat.Nd
open Go.RowKit
theorem x1B {fn:Func} {P:Ending→World→Prop} (p:Tmp) {ty:TypeId} (hr:fn.results= #[.cell p ty]) {tmps:Array Value} {w:World} (g:Nat) (t:TypeId) (cs:Array Value) {d:TypeDesc}
  (hu:Tryz.prog.underlying ty=some d) (hd:d.isRow=true) (hi:(Tryz.prog.info? ty).map (·.size)=some cs.size)
  (hp:tmps.getD p undef= .pointer (some ⟨g,0,none⟩)) (hg:w.heap[g]? =some (.cells cs t (0,0))) (h:P (.returned (.agg cs)) w):bodyPost Tryz.prog fn P .ret ⟨tmps,[]⟩ w:=
 bodyPost_ret (a:=⟨tmps,[]⟩) (v:=.agg cs) (results_cell_row hr tmps w g t cs (0,0) d hp hg hu (by cases d<;>first | rfl | (cases hd)) hi) rfl h
theorem x0F {fn:Func} {P:Ending→World→Prop} (p u:Tmp) {ty:TypeId} (hr:fn.results= #[.cell p ty,.tmp u]) {tmps:Array Value} {w:World} (g:Nat) (t:TypeId) (cs:Array Value) {d:TypeDesc} (x:Value)
  (hu:Tryz.prog.underlying ty=some d) (hd:d.isRow=true) (hi:(Tryz.prog.info? ty).map (·.size)=some cs.size)
  (hp:tmps.getD p undef= .pointer (some ⟨g,0,none⟩)) (hx:tmps.getD u undef=x) (hg:w.heap[g]? =some (.cells cs t (0,0))) (h:P (.returned (.tuple #[.agg cs,x])) w):bodyPost Tryz.prog fn P .ret ⟨tmps,[]⟩ w:=
 bodyPost_ret (a:=⟨tmps,[]⟩) (v:=.tuple #[.agg cs,x]) (by
  rw [results_cell_tmp hr,hp,hx]
  simp only [asAddr,Sem.run_pure,Result.andThen_ok,run_loadVar_row w g t ty cs (0,0) d hg hu (by cases d<;>first | rfl | (cases hd)) hi]) rfl h
structure FrRw (w:World) (base:Nat) (r:Rw):Prop where
 ok:r.Ok w
 lo:∀x,r.p=some x→r.R≠[]→base≤x.block
theorem FrRw.later {w w':World} {base:Nat} {r:Rw} (h:FrRw w base r) (hb:Below w.heap.size w w'):FrRw w' base r:=⟨h.ok.later hb,h.lo⟩
theorem FrRw.base {w:World} {base base':Nat} {r:Rw} (h:FrRw w base r) (hb:base'≤base):FrRw w base' r:=⟨h.ok,fun x hx hR=>Nat.le_trans hb (h.lo x hx hR)⟩
theorem rw_keep {w w':World} {r:Rw} (h:r.Ok w) (hk:∀x,r.p=some x→r.R≠[]→w'.heap[x.block]? =w.heap[x.block]?):r.Ok w':=
 ⟨⟨h.ints.size,h.ints.le,h.ints.ok,h.ints.at'.imp id fun ⟨g,o,hp,hx⟩=>⟨g,o,hp,fun i hi=>by
  have hR:r.R≠[]:=by rintro e;rw [e] at hi;simp at hi
  rw [World.cell?_of_block (w:=w) (w':=w') (a:=⟨g,o+i,none⟩) (hk ⟨g,o,none⟩ hp hR)]
  exact hx i hi⟩⟩,h.top⟩
theorem FrRw.keep {w w':World} {base:Nat} {r:Rw} (h:FrRw w base r) (hk:∀k,base≤k→k<w.heap.size→w'.heap[k]? =w.heap[k]?):FrRw w' base r:=
 ⟨rw_keep h.ok fun x hx hR=>hk _ (h.lo x hx hR) (by
  rcases h.ok.ints.at' with h0 | ⟨g,o,hp,hc⟩
  ·exact absurd h0 hR
  ·rw [hx] at hp
   obtain rfl:x=⟨g,o,Option.none⟩:=by simpa using hp
   have:=hc 0 (List.length_pos_iff.2 hR)
   exact block_lt_of_cell this),h.lo⟩
theorem FrRw.lt {w:World} {base:Nat} {r:Rw} (h:FrRw w base r):∀x,r.p=some x→r.R≠[]→x.block<w.heap.size:=fun x hx hR=>by
 rcases h.ok.ints.at' with h0 | ⟨g,o,hp,hc⟩
 ·exact absurd h0 hR
 ·rw [hx] at hp
  obtain rfl:x=⟨g,o,Option.none⟩:=by simpa using hp
  have:=hc 0 (List.length_pos_iff.2 hR)
  exact block_lt_of_cell this
theorem x1p (w:World) (base:Nat):FrRw w base ⟨Option.none,0,0,[]⟩:=⟨⟨⟨rfl,Nat.le_refl _,(fun x hx=>by cases hx),Or.inl rfl⟩,by simp⟩,(fun x hx=>by cases hx)⟩
theorem x3L {w:World} {base:Nat} {v:Value} {L:List Int} (h:w.ownsRow base 2 1 v L.length (ivs L)) (hL:∀x∈L,-9223372036854775808≤x∧x≤9223372036854775807) (hl:L.length≤9223372036854775807):∃r:Rw,v=r.val∧r.R=L∧r.n=L.length∧FrRw w base r:=by
 rcases h.2 with ⟨rfl,E⟩ | ⟨g,A,G,rfl,C,I,B,J,K,H⟩
 ·obtain rfl:=List.length_eq_zero_iff.1 E
  exact ⟨⟨none,0,0,[]⟩,rfl,rfl,rfl,x1p _ _⟩
 ·refine ⟨⟨some ⟨g,0,none⟩,L.length,A,L⟩,rfl,rfl,rfl,⟨(OwnRow.ints (base:=base) h hL),hl⟩,fun x hx _=>?_⟩
  obtain rfl:x=⟨g,0,none⟩:=by simpa using hx.symm
  exact C
theorem x0U {s:Rd} {n:Nat} (h:Sm.allB s.R):Sm.allB (s.past n).R:=by
 unfold Rd.past Rd.refuse
 split
 ·exact fun x hx=>h x (List.mem_of_mem_drop hx)
 ·split<;>exact h
theorem x8S:∀(n:Nat) (s:Rd) (L:List Int),Sm.allB s.R→(∀x∈L,-9223372036854775808≤x∧x≤9223372036854775807)→∀x∈(readN n s L).1,-9223372036854775808≤x∧x≤9223372036854775807
 | 0,s,L,_,h=>h
 | n+1,s,L,hs,h=>by
  show ∀x∈(if s.e=0 then readN n (s.past 8) (L++[s.numV]) else (L,s)).1,_
  split
  ·exact x8S n _ _ (x0U hs) (fun x hx=>by
    rcases List.mem_append.1 hx with hx | hx
    ·exact h x hx
    ·simp only [List.mem_cons,List.not_mem_nil,or_false] at hx
     rw [hx]
     exact y0V hs)
  ·exact h
theorem x76:∀(n:Nat) (s:Rd) (L:List Int),(readN n s L).1.length≤L.length+n
 | 0,s,L=>Nat.le_refl _
 | n+1,s,L=>by
  show (if s.e=0 then readN n (s.past 8) (L++[s.numV]) else (L,s)).1.length≤_
  split
  ·have:=x76 n (s.past 8) (L++[s.numV])
   simp at this
   omega
  ·simp
theorem y0W:∀(n:Nat) (s:Rd) (L:List Int),Sm.allB s.R→Sm.allB (readN n s L).2.R∧(readN n s L).2.R.length≤s.R.length
 | 0,s,L,h=>⟨h,Nat.le_refl _⟩
 | n+1,s,L,h=>by
  show Sm.allB (if s.e=0 then readN n (s.past 8) (L++[s.numV]) else (L,s)).2.R∧(if s.e=0 then readN n (s.past 8) (L++[s.numV]) else (L,s)).2.R.length≤_
  split
  ·have:=y0W n (s.past 8) (L++[s.numV]) (x0U h)
   exact ⟨this.1,Nat.le_trans this.2 (Rd.past_len s 8)⟩
  ·exact ⟨h,Nat.le_refl _⟩
theorem x6M {s:Rd} {m:Int} (h:Sm.allB s.R):Sm.allB (s.rowN m).R:=by
 unfold Rd.rowN
 split
 ·exact x0U h
 ·exact x0U h
theorem x2F {s:Rd} {m:Int} (h:Sm.allB s.R):∀x∈s.rowV m,-9223372036854775808≤x∧x≤9223372036854775807:=by
 unfold Rd.rowV
 split
 ·exact x8S _ _ _ (x6M h) (fun x hx=>by cases hx)
 ·intro x hx;cases hx
theorem x4U {s:Rd} {m:Int} (h:Sm.allB s.R):(s.rowV m).length≤255:=by
 unfold Rd.rowV
 split
 ·have A:=x76 (Cm.val (s.part 1)) (s.rowN m) []
  have B:=val1 h
  unfold Rd.row
  simp at A
  omega
 ·simp
theorem row_R {s:Rd} {m:Int} (h:Sm.allB s.R):Sm.allB (s.row m).2.R∧(s.row m).2.R.length≤s.R.length:=by
 have:=y0W (Cm.val (s.part 1)) (s.rowN m) [] (x6M h)
 exact ⟨this.1,Nat.le_trans this.2 (y2L s m)⟩
theorem x6N {s:Rd} (h:Sm.allB s.R):Sm.allB s.truth.R∧s.truth.R.length≤s.R.length:=by
 unfold Rd.truth
 split
 ·exact ⟨x0U h,Rd.past_len s 1⟩
 ·exact ⟨x0U h,Rd.past_len s 1⟩
theorem y0X {s:Rd} {m:Int} (h:Sm.allB s.R):Sm.allB (s.count m).R∧(s.count m).R.length≤s.R.length:=by
 unfold Rd.count
 split
 ·refine ⟨?_,Nat.le_trans (Rd.refuse_len _ _) (Rd.past_len s 3)⟩
  have:=x0U (n:=3) h
  unfold Rd.refuse
  split<;>exact this
 ·exact ⟨x0U h,Rd.past_len s 3⟩
theorem x77 {s:Rd} {m:Int} (_h:Sm.allB s.R) (hm:0≤m):0≤s.countV m∧s.countV m≤1048576:=by
 unfold Rd.countV
 split<;>omega
def _root_.Go.Proofs.YtinihaflmdihaaaGreat.Rd.entV (s:Rd) (m:Int):PE:=⟨s.truth.rowV m,s.truthV⟩
def _root_.Go.Proofs.YtinihaflmdihaaaGreat.Rd.entN (s:Rd) (m:Int):Rd:=(s.truth.row m).2
def _root_.Go.Proofs.YtinihaflmdihaaaGreat.Rd.k1 (s:Rd):Rd:=s.past 32
def _root_.Go.Proofs.YtinihaflmdihaaaGreat.Rd.k2 (s:Rd):Rd:=s.k1.count 1048576
def _root_.Go.Proofs.YtinihaflmdihaaaGreat.Rd.k3 (s:Rd):Rd:=s.k2.count 1048576
def _root_.Go.Proofs.YtinihaflmdihaaaGreat.Rd.k4 (s:Rd) (m:Int):Rd:=(s.k3.row m).2
def _root_.Go.Proofs.YtinihaflmdihaaaGreat.Rd.k5 (s:Rd) (m:Int):Rd:=((s.k4 m).row m).2
def _root_.Go.Proofs.YtinihaflmdihaaaGreat.Rd.kidN (s:Rd) (m:Int):Rd:=((s.k5 m).row m).2
def _root_.Go.Proofs.YtinihaflmdihaaaGreat.Rd.kidV (s:Rd) (m:Int):PK:=⟨s.digV,s.k3.rowV m,(s.k4 m).rowV m,s.k1.countV 1048576,s.k2.countV 1048576,(s.k5 m).rowV m⟩
theorem ent_R {s:Rd} {m:Int} (h:Sm.allB s.R):Sm.allB (s.entN m).R∧(s.entN m).R.length≤s.R.length:=by
 have B:=x6N h
 have A:=row_R (m:=m) B.1
 exact ⟨A.1,Nat.le_trans A.2 B.2⟩
section
variable {s:Rd} {m:Int} (h:Sm.allB s.R)
include h
theorem k1_R:Sm.allB s.k1.R∧s.k1.R.length≤s.R.length:=by
 unfold Rd.k1
 exact ⟨x0U h,Rd.past_len s 32⟩
theorem k2_R:Sm.allB s.k2.R∧s.k2.R.length≤s.R.length:=by
 have B:=k1_R h
 have A:=y0X (m:=1048576) B.1
 unfold Rd.k2
 exact ⟨A.1,Nat.le_trans A.2 B.2⟩
theorem k3_R:Sm.allB s.k3.R∧s.k3.R.length≤s.R.length:=by
 have B:=k2_R h
 have A:=y0X (m:=1048576) B.1
 unfold Rd.k3
 exact ⟨A.1,Nat.le_trans A.2 B.2⟩
theorem k4_R:Sm.allB (s.k4 m).R∧(s.k4 m).R.length≤s.R.length:=by
 have B:=k3_R h
 have A:=row_R (m:=m) B.1
 unfold Rd.k4
 exact ⟨A.1,Nat.le_trans A.2 B.2⟩
theorem k5_R:Sm.allB (s.k5 m).R∧(s.k5 m).R.length≤s.R.length:=by
 have B:=k4_R (m:=m) h
 have A:=row_R (m:=m) B.1
 unfold Rd.k5
 exact ⟨A.1,Nat.le_trans A.2 B.2⟩
theorem kid_R:Sm.allB (s.kidN m).R∧(s.kidN m).R.length≤s.R.length:=by
 have B:=k5_R (m:=m) h
 have A:=row_R (m:=m) B.1
 unfold Rd.kidN
 exact ⟨A.1,Nat.le_trans A.2 B.2⟩
end
def PN.keyOf (n:PN):List Int:=if n.kind=2 then (n.rows.headD ⟨[],false⟩).row else if n.kind=3 then (n.kids.headD PK.none).key else []
theorem PN.kinds {n:PN} {d:Int} (h:n.right d=true):(1≤d∧d≤8)∧(∀e∈n.rows,(e.row.length:Int)=d)∧(∀k∈n.kids,k.right d=true)∧
  ((n.kind=1∧n.rows.length=1∧n.kids.length=2)∨(n.kind=2∧1≤n.rows.length∧n.rows.length≤4∧n.kids.length=0)∨(n.kind=3∧n.rows.length=0∧2≤n.kids.length∧n.kids.length≤4∧∀k∈n.kids,(k.key.length:Int)=d)):=by
 rw [PN.right_shape,Bool.and_eq_true,Bool.and_eq_true,Bool.and_eq_true,decide_eq_true_iff] at h
 obtain ⟨⟨⟨C,A⟩,B⟩,E⟩:=h
 refine ⟨C,fun e he=>of_decide_eq_true (List.all_eq_true.1 B e he),fun k hkm=>List.all_eq_true.1 E k hkm,?_⟩
 unfold PN.shape at A
 split at A
 ·rename_i k1
  rw [Bool.and_eq_true,Bool.and_eq_true,decide_eq_true_iff,decide_eq_true_iff] at A
  exact Or.inl ⟨k1,A.1.1,A.1.2⟩
 ·split at A
  ·rename_i k2
   rw [Bool.and_eq_true,Bool.and_eq_true,Bool.and_eq_true,decide_eq_true_iff,decide_eq_true_iff,decide_eq_true_iff] at A
   exact Or.inr (Or.inl ⟨k2,A.1.1.1,A.1.1.2,A.1.2⟩)
  ·split at A
   ·rename_i k3
    rw [Bool.and_eq_true,Bool.and_eq_true,Bool.and_eq_true,decide_eq_true_iff,decide_eq_true_iff,decide_eq_true_iff] at A
    exact Or.inr (Or.inr ⟨k3,A.1.1.1,A.1.1.2,A.1.2,fun k hkm=>of_decide_eq_true (List.all_eq_true.1 A.2 k hkm)⟩)
   ·cases A
def y4E (w:World) (R:List Int) (e:Ending) (w':World):Prop:=∃r:Rw,e= .returned r.val∧r.R=R∧FrRw w' w.heap.size r∧Below w.heap.size w w'
theorem y3j {w:World} {base g n c:Nat} {R:List Int} (h:OwnRow w base g n c R) (hR:∀x∈R,-9223372036854775808≤x∧x≤9223372036854775807) (hg:base≤g) (hn:n≤8):FrRw w base ⟨some ⟨g,0,none⟩,n,c,R⟩:=by
 refine ⟨⟨h.ints hR,by show n≤_;omega⟩,fun x hx _=>?_⟩
 obtain rfl:x=⟨g,0,none⟩:=by simpa using hx.symm
 exact hg
theorem y4F (kind:Nat) (p:Option Addr) (n c:Nat) (q:Option Addr) (m f:Nat) (E:List En) (K:List Kd) (d:Int) (w:World) (hE:EntsIn w p n c E) (hK:KidsIn w q m f K) (hr:(pnOf kind E K).right d=true):
  Calls Tryz.prog 243 #[.agg #[.int .u8 kind,.slice p n c,.slice q m f]] w (y4E w (pnOf kind E K).keyOf):=by
 have J:Below w.heap.size w (w.alloc (.cells #[.int .u8 kind,.slice p n c,.slice q m f] 81)):=(Below.refl _ _).alloc (Nat.le_refl _) _
 have v:=NodeAt.start w kind p n c q m f
 obtain ⟨hd,C,I,hk⟩:=PN.kinds hr
 have HE:=yH (hE.later J)
 have z:=yH (hK.later J)
 have O:=yH J
 have u:=yH v
 have b:=yH hE.size
 have i:=yH hK.size
 clear hr J v hE hK
 rcases hk with ⟨k1,-,-⟩ | ⟨Z,Y,s,-⟩ | ⟨k3,-,Y,s,L⟩
 ·obtain rfl:kind=1:=k1
  have H:=yH (show (pnOf 1 E K).keyOf=[] from rfl)
  clear C I
  go_enter Tryz.func243,Tryz.ntmps243
  go_upto_region 1 with fail
  generalize w.alloc (.cells #[.int .u8 (1:Nat),.slice p n c,.slice q m f] 81)=w1 at *
  obtain ⟨x,t1,t2⟩:=u.out.cells
  go_wp2_with fail
  go_ret
  exact ⟨⟨none,0,0,[]⟩,rfl,H.out.symm,x1p _ _,O.out⟩
 ·obtain rfl:kind=2:=Z
  have l:1≤n:=by rw [b.out];simpa [pnOf] using Y
  obtain ⟨g,o,rfl,k,c2,A⟩:=HE.out.get 0 (by omega)
  obtain ⟨e,j,rfl⟩:∃e j,E=e::j:=by
   cases E with
   | nil=>have:=b.out;simp at this;omega
   | cons e j=>exact ⟨e,j,rfl⟩
  have H:=yH (show (pnOf 2 (e::j) K).keyOf=e.row.R from rfl)
  have B:=C e.pe (by simp [pnOf])
  have B:(e.row.R.length:Int)=d:=B
  simp only [List.getD_cons_zero,Nat.zero_mul,Nat.add_zero] at k A
  have W:=A.ints.size
  have t:=yH (x4B e.row.p e.row.n e.row.c e.row.R _ A.ints (by omega) (by omega))
  have N:=yH A.ints.ok
  have U:=yH (show e.row.n≤8 from by omega)
  have y:(0:Int)<n:=by omega
  unfold Rw.val at k
  clear C I c2 B W A Y s
  go_enter Tryz.func243,Tryz.ntmps243
  go_upto_region 1 with fail
  generalize w.alloc (.cells #[.int .u8 (2:Nat),.slice (some ⟨g,o,none⟩) n c,.slice q m f] 81)=w1 at *
  obtain ⟨x,t1,t2⟩:=u.out.cells
  go_wp2_with (go_at_call 271;refine t.out.mono ?_;rintro _ w2 ⟨r,Z,rfl,X,G,a⟩;have Q:=yH (y3j X N.out G U.out);have P:=yH (O.out.trans (a.mono O.out.size));clear X G a)
  go_ret
  exact ⟨⟨some ⟨r,0,none⟩,e.row.n,Z,e.row.R⟩,rfl,H.out.symm,Q.out.base O.out.size,P.out⟩
 ·obtain rfl:kind=3:=k3
  have l:2≤m:=by rw [i.out];simpa [pnOf] using Y
  obtain ⟨g,o,rfl,M,A⟩:=z.out.get 0 (by omega)
  obtain ⟨e,h,rfl⟩:∃e h,K=e::h:=by
   cases K with
   | nil=>have:=i.out;simp at this;omega
   | cons e h=>exact ⟨e,h,rfl⟩
  have H:=yH (show (pnOf 3 E (e::h)).keyOf=e.key.R from rfl)
  have B:=L e.pk (by simp [pnOf])
  have B:(e.key.R.length:Int)=d:=B
  simp only [List.getD_cons_zero,Nat.zero_mul,Nat.add_zero] at M A
  have k:=(x8M M A.len).key
  have W:=A.key.ints.size
  have t:=yH (x4B e.key.p e.key.n e.key.c e.key.R _ A.key.ints (by omega) (by omega))
  have N:=yH A.key.ints.ok
  have U:=yH (show e.key.n≤8 from by omega)
  have y:(0:Int)<m:=by omega
  unfold Rw.val at k
  clear C I M B W A Y s L
  go_enter Tryz.func243,Tryz.ntmps243
  go_upto_region 1 with fail
  generalize w.alloc (.cells #[.int .u8 (3:Nat),.slice p n c,.slice (some ⟨g,o,none⟩) m f] 81)=w1 at *
  obtain ⟨x,t1,t2⟩:=u.out.cells
  go_wp2_with (go_at_call 271;refine t.out.mono ?_;rintro _ w2 ⟨r,Z,rfl,X,G,a⟩;have Q:=yH (y3j X N.out G U.out);have P:=yH (O.out.trans (a.mono O.out.size));clear X G a)
  go_ret
  exact ⟨⟨some ⟨r,0,none⟩,e.key.n,Z,e.key.R⟩,rfl,H.out.symm,Q.out.base O.out.size,P.out⟩
end Go.Proofs.YtinihaflmdihaaaGreat.Nd
namespace Go.Proofs.YtinihaflmdihaaaGreat.Dk
open Go.RowKit
def over (L:List Nat) (o:Nat) (P:List Nat):List Nat:=L.take o++P++L.drop (o+P.length)
theorem x7t {L P:List Nat} {o:Nat} (h:o+P.length≤L.length):(over L o P).length=L.length:=by
 simp [over];omega
theorem y4G {L P:List Nat} {o:Nat} (h:Sm.allB L) (k:Sm.allB P):Sm.allB (over L o P):=fun x hx=>by
 simp only [over,List.mem_append] at hx
 rcases hx with (hx | hx) | hx
 ·exact h x (List.mem_of_mem_take hx)
 ·exact k x hx
 ·exact h x (List.mem_of_mem_drop hx)
structure D where
 L:List Nat
 n:Nat
 dead:Bool
 left:Int
 torn:Nat
 writes:Nat
structure D.ok (s:D):Prop where
 len:s.L.length=64*s.n
 bytes:Sm.allB s.L
 small:s.n≤4096
 torn:s.torn≤64
 left: -1≤s.left∧s.left<9223372036854775808
def D.new (n:Nat):D:=⟨zeros (64*n),n,false,-1,0,0⟩
theorem D.new_ok {n:Nat} (h:n≤4096):(D.new n).ok:=⟨by simp [D.new,zeros],x1l _,h,by simp [D.new],by simp [D.new]⟩
def D.many (s:D):Nat:=if s.left=0 then s.torn else 64
def D.put (s:D) (i:Nat) (B:List Nat):D:=
 {s with L:=over s.L (64*i) (B.take s.many),dead:=decide (s.left=0),left:=if s.left=0 then -1 else if s.left>0 then s.left - 1 else s.left,writes:=s.writes+1}
def D.no (s:D) (i:Int) (m:Nat):Nat:=if s.dead=true then 30 else if i<0∨(s.n:Int)≤i then 9 else if m≠64 then 1 else 0
def D.says (s:D) (i:Int) (m:Nat):Nat:=if s.no i m=0 then (if s.left=0 then 30 else 0) else s.no i m
theorem D.put_ok {s:D} (h:s.ok) {i:Nat} {B:List Nat} (hi:i<s.n) (hB:Sm.allB B) (hl:B.length=64):(s.put i B).ok:=by
 have C:s.many≤64:=by
  have:=h.torn
  unfold D.many
  split<;>omega
 have A:=h.len
 refine ⟨?_,y4G h.bytes (fun x hx=>hB x (List.mem_of_mem_take hx)),h.small,h.torn,?_⟩
 ·show (over s.L (64*i) (B.take s.many)).length=64*s.n
  rw [x7t (by rw [List.length_take];omega),A]
 ·have:=h.left
  simp only [D.put]
  split
  ·omega
  ·split<;>omega
structure Only (P:Nat→Prop) (w w':World):Prop where
 os:w'.os=w.os
 tape:w'.tape=w.tape
 output:w'.output=w.output
 size:w.heap.size≤w'.heap.size
 block:∀k,k<w.heap.size→¬P k→w'.heap[k]? =w.heap[k]?
theorem Only.refl (P:Nat→Prop) (w:World):Only P w w:=⟨rfl,rfl,rfl,Nat.le_refl _,fun _ _ _=>rfl⟩
theorem Only.trans {P:Nat→Prop} {a b c:World} (h:Only P a b) (k:Only P b c):Only P a c:=
 ⟨k.os.trans h.os,k.tape.trans h.tape,k.output.trans h.output,Nat.le_trans h.size k.size,fun i hi hp=>(k.block i (Nat.lt_of_lt_of_le hi h.size) hp).trans (h.block i hi hp)⟩
theorem Only.mono {P Q:Nat→Prop} {w w':World} (h:Only P w w') (hq:∀k,P k→Q k):Only Q w w':=
 ⟨h.os,h.tape,h.output,h.size,fun k hk hn=>h.block k hk (fun hp=>hn (hq k hp))⟩
theorem Only.of_below (P:Nat→Prop) {w w':World} (h:Below w.heap.size w w'):Only P w w':=⟨h.os,h.tape,h.output,h.size,fun k hk _=>h.block k hk⟩
theorem Only.setCell {P:Nat→Prop} (w:World) {a:Addr} (ha:P a.block) (v:Value):Only P w (w.setCell a v):=
 ⟨rfl,rfl,rfl,by simp [World.setCell],fun k _ hn=>heap_setCell_other _ _ _ _ (fun e=>hn (by rw [e];exact ha))⟩
theorem Only.below {P:Nat→Prop} {w w':World} {base:Nat} (h:Only P w w') (hs:base≤w.heap.size) (hp:∀k,P k→base≤k):Below base w w':=
 ⟨h.os,h.tape,h.output,h.size,fun k hk=>h.block k (by omega) (fun e=>by have:=hp k e;omega)⟩
theorem tx_keep {w w':World} {p:Option Addr} {n c:Nat} {B:List Nat} (h:Tx w p n c B) (hk:∀x,p=some x→B≠[]→w'.heap[x.block]? =w.heap[x.block]?):Tx w' p n c B:=
 ⟨h.size,h.le,h.ok,h.at'.imp id fun ⟨x,hp,hx⟩=>⟨x,hp,fun j u hu=>by
  have h1:=hx j u hu
  have hB:B≠[]:=by rintro rfl;simp [vals] at hu
  have A:(x.add j).block=x.block:=by cases x;simp [Addr.add];split<;>rfl
  rw [World.cell?_of_block (w:=w) (by rw [A];exact hk x hp hB)]
  exact h1⟩,h.sp⟩
end Go.Proofs.YtinihaflmdihaaaGreat.Dk
namespace Go.Proofs.YtinihaflmdihaaaGreat.Nd
open Go.RowKit Go.Proofs.YtinihaflmdihaaaGreat.Dk
section
variable {k:Kd} (h:k.sum.length=32)
include h
theorem y0Y (r:Rw):k.cells.toArray.setIfInBounds 32 r.val=({k with lo:=r}:Kd).cells.toArray:=by simp [Kd.cells,x00,h]
theorem y0Z (r:Rw):k.cells.toArray.setIfInBounds 33 r.val=({k with hi:=r}:Kd).cells.toArray:=by simp [Kd.cells,x00,h]
theorem x4r (x:Int):k.cells.toArray.setIfInBounds 34 (.int .i64 x)=({k with live:=x}:Kd).cells.toArray:=by simp [Kd.cells,x00,h]
theorem x4s (x:Int):k.cells.toArray.setIfInBounds 35 (.int .i64 x)=({k with size:=x}:Kd).cells.toArray:=by simp [Kd.cells,x00,h]
theorem x5i (r:Rw):k.cells.toArray.setIfInBounds 36 r.val=({k with key:=r}:Kd).cells.toArray:=by simp [Kd.cells,x00,h]
end
structure KdSt (w0 w:World) (gx g:Nat) (k:Kd) (s:Rd):Prop where
 res:w.heap[gx]? =some (.cells kd0.cells.toArray 34 (0,0))
 row:w.heap[gx+1]? =some (.cells k.cells.toArray 34 (0,0))
 rd:RSx w g s
 gr:w0.grownBy w (some g)
 len:k.sum.length=32
 at':w0.heap.size=gx∧g<gx
 lo:FrRw w (gx+2) k.lo
 hi:FrRw w (gx+2) k.hi
 key:FrRw w (gx+2) k.key
section
variable {w0 w w':World} {gx g:Nat} {k k':Kd} {s s':Rd}
theorem KdSt.call (h:KdSt w0 w gx g k s) (hr:RSx w' g s') (hg:w.grownBy w' (some g)):KdSt w0 w' gx g k s':=by
 have B:=h.at'
 have A:∀j,gx+2≤j→j<w.heap.size→w'.heap[j]? =w.heap[j]? :=fun j hj hl=>hg.block j hl (by simp;omega)
 exact ⟨(hg.block gx (yL h.res) (by simp;omega)).trans h.res,(hg.block (gx+1) (yL h.row) (by simp;omega)).trans h.row,hr,x0a h.gr hg,h.len,B,h.lo.keep A,h.hi.keep A,h.key.keep A⟩
theorem KdSt.put (h:KdSt w0 w gx g k s) (hr:w'.heap[gx+1]? =some (.cells k'.cells.toArray 34 (0,0))) (ho:Only (fun j=>j=gx+1) w w') (hl:k'.sum.length=32) (h1:FrRw w (gx+2) k'.lo) (h2:FrRw w (gx+2) k'.hi) (h3:FrRw w (gx+2) k'.key):KdSt w0 w' gx g k' s:=by
 have E:=h.at'
 have C:∀j,gx+2≤j→j<w.heap.size→w'.heap[j]? =w.heap[j]? :=fun j hj hl=>ho.block j hl (by omega)
 have A:Below (gx+1) w w':=ho.below (by have:=(yL h.row);omega) (fun j hj=>by omega)
 exact ⟨(A.block gx (by omega)).trans h.res,hr,h.rd.low (A.mono (by omega)),x0s h.gr (B:=gx+1) (by omega) A A.size,hl,E,h1.keep C,h2.keep C,h3.keep C⟩
theorem KdSt.cell (h:KdSt w0 w gx g k s):KAt w (gx+1) 0 k:=x0M h.row h.len
end
theorem x13 (w:World) (g o:Nat) (vs:List Value):Only (fun j=>j=g) w (w.setCells g o vs):=by
 obtain ⟨E,B,C,A⟩:=x0R g vs o w
 exact ⟨B,C,A,by omega,fun j _ hj=>x0L g vs o w j hj⟩
theorem x6O {w:World} {g:Nat} {k:Kd} (h:w.heap[g]? =some (.cells k.cells.toArray 34 (0,0))) (hl:k.sum.length=32):w.there g 0 32:=fun j hj=>by
 refine ⟨?_,frozen_of_row w g _ _ _ h⟩
 rw [cell_of_row w g _ _ _ _ h]
 rw [Array.getElem?_eq_getElem (by rw [List.size_toArray,Kd.cells_length hl];omega)]
 rfl
theorem y0a {w:World} {g:Nat} {k:Kd} {D:List Nat} (h:w.heap[g]? =some (.cells k.cells.toArray 34 (0,0))) (hl:k.sum.length=32) (hD:D.length=32):(w.setCells g 0 (vals D)).heap[g]? =some (.cells ({k with sum:=D}:Kd).cells.toArray 34 (0,0)):=by
 have:=x0Q g 34 (vals D) [] (vals k.sum) [k.lo.val,k.hi.val,.int .i64 k.live,.int .i64 k.size,k.key.val] w (by simpa [Kd.cells] using h) (by rw [x00,x00,hl,hD])
 simpa [Kd.cells] using this
def RKid (w:World) (g:Nat) (k:PK) (s:Rd) (e:Ending) (w':World):Prop:=
 ∃kd:Kd,e= .returned (.agg kd.cells.toArray)∧kd.pk=k∧kd.Ok w'∧FrRw w' w.heap.size kd.lo∧FrRw w' w.heap.size kd.hi∧FrRw w' w.heap.size kd.key∧RSx w' g s∧w.grownBy w' (some g)
theorem x7u (s:Rd) (g:Nat) (w:World) (hs:RSx w g s) (hl:s.R.length<1099511627776):
  Calls Tryz.prog 147 #[.pointer (some ⟨g,0,none⟩)] w (RKid w g (s.kidV 8) (s.kidN 8)):=by
 have M:Sm.allB s.R:=by obtain ⟨p,n,c,h⟩:=hs;exact h.tx.ok
 obtain ⟨V,hV⟩:∃V,s.kidV 8=V:=⟨_,rfl⟩
 obtain ⟨sN,hN⟩:∃t,s.kidN 8=t:=⟨_,rfl⟩
 rw [hV,hN]
 have hV:(⟨s.digV,s.k3.rowV 8,(s.k4 8).rowV 8,s.k1.countV 1048576,s.k2.countV 1048576,(s.k5 8).rowV 8⟩:PK)=V:=hV
 have hN:((s.k5 8).row 8).2=sN:=hN
 have h1:=k1_R M
 have h2:=k2_R M
 have B:=k3_R M
 have h4:=k4_R (m:=8) M
 have h5:=k5_R (m:=8) M
 have AI:=yH (x77 (m:=1048576) h1.1 (by omega))
 have AJ:=yH (x77 (m:=1048576) h2.1 (by omega))
 have AW:=yH (x2F (m:=8) B.1)
 have An:=yH (x2F (m:=8) h4.1)
 have Af:=yH (x2F (m:=8) h5.1)
 have AX:=yH (x4U (m:=8) B.1)
 have Al:=yH (x4U (m:=8) h4.1)
 have AV:=yH (x4U (m:=8) h5.1)
 have k:=yH (x2y s)
 have Ad:=yH (y0U M)
 have AD:=yH (fun w1 (h:RSx w1 g s)=>x7s s g w1 h hl)
 have AK:=yH (fun w1 (h:RSx w1 g s.k1)=>x5h s.k1 1048576 g w1 h (Nat.lt_of_le_of_lt h1.2 hl))
 have AQ:=yH (fun w1 (h:RSx w1 g s.k2)=>x5h s.k2 1048576 g w1 h (Nat.lt_of_le_of_lt h2.2 hl))
 have AH:=yH (fun w1 (h:RSx w1 g s.k3)=>x4T s.k3 g w1 h (Nat.lt_of_le_of_lt B.2 hl))
 have AG:=yH (fun w1 (h:RSx w1 g (s.k4 8))=>x4T (s.k4 8) g w1 h (Nat.lt_of_le_of_lt h4.2 hl))
 have AF:=yH (fun w1 (h:RSx w1 g (s.k5 8))=>x4T (s.k5 8) g w1 h (Nat.lt_of_le_of_lt h5.2 hl))
 rw [show s.past 32=s.k1 from rfl] at AD
 rw [show s.k1.count 1048576=s.k2 from rfl] at AK
 rw [show s.k2.count 1048576=s.k3 from rfl] at AQ
 rw [show (s.k3.row 8).2=s.k4 8 from rfl] at AH
 rw [show ((s.k4 8).row 8).2=s.k5 8 from rfl] at AG
 rw [hN] at AF
 clear h1 h2 B h4 h5 hN M
 generalize s.digV=D at *
 generalize s.k1.countV 1048576=cl at *
 generalize s.k2.countV 1048576=cz at *
 generalize s.k3.rowV 8=A3 at *
 generalize (s.k4 8).rowV 8=A4 at *
 generalize (s.k5 8).rowV 8=A5 at *
 generalize s.k1=s1 at *
 generalize s.k2=s2 at *
 generalize s.k3=s3 at *
 generalize s.k4 8=s4 at *
 generalize s.k5 8=s5 at *
 have HV:=yH hV
 clear hV
 have hz:=(zero_of_info kz).1
 have hg:g<w.heap.size:=hs.lt
 have AL:Below w.heap.size w (w.alloc (.cells kd0.cells.toArray 34)):=(Below.refl _ _).alloc (Nat.le_refl _) _
 have r1:=heap_alloc_new w (.cells kd0.cells.toArray 34)
 have z1:(w.alloc (.cells kd0.cells.toArray 34)).heap.size=w.heap.size+1:=by simp
 go_enter Tryz.func147,Tryz.ntmps147
 go_upto_region 1 with fail
 generalize w.alloc (.cells kd0.cells.toArray 34)=w1 at *
 have x:Below w1.heap.size w1 (w1.alloc (.cells kd0.cells.toArray 34)):=(Below.refl _ _).alloc (Nat.le_refl _) _
 have r2:=heap_alloc_new w1 (.cells kd0.cells.toArray 34)
 rw [z1] at r2
 go_upto_region 2 with fail
 generalize w1.alloc (.cells kd0.cells.toArray 34)=w2 at *
 have Q:Below w.heap.size w w2:=AL.trans (x.mono (by omega))
 obtain ⟨A,Z⟩:∃A,A=w.heap.size:=⟨_,rfl⟩
 have H2:=yH (show KdSt w w2 A g kd0 s from by
  rw [Z]
  exact ⟨(x.block w.heap.size (by omega)).trans r1,r2,hs.later Q,x1L Q _,by simp [kd0,zeros],⟨rfl,hg⟩,x1p _ _,x1p _ _,x1p _ _⟩)
 have AA:=yH Z
 rw [← Z]
 clear AL r1 z1 x r2 Q hs hl hg Z hz
 clear w1
 have K:=yH (AD.out w2 H2.out.rd)
 go_upto_region 3 with (first
  | (go_at_call 196;refine K.out.mono ?_;rintro e w3 ⟨rfl,B,L⟩;have H3:=yH (H2.out.call B L);clear B L)
  | (refine wpList_store_mid (by rfl) 30 _ _ (by rfl) (A+1) 0 (u8s D) (by rfl) (by rfl) (by rw [x08,k.out];exact x6O H3.out.row H3.out.len) (by rw [x08,k.out];exact S25) (x0b _) ?_))
 have C:=y0a (D:=D) H3.out.row H3.out.len k.out
 have H4:=yH (H3.out.put (k':={kd0 with sum:=D}) C (x13 _ _ _ _) k.out (x1p _ _) (x1p _ _) (x1p _ _))
 clear C H3 K H2
 rw [show (u8s D).toList=vals D from rfl]
 generalize w3.setCells (A+1) 0 (vals D)=w4 at *
 have K:=yH (AK.out w4 H4.out.rd)
 go_upto_region 4 with (go_at_call 197;refine K.out.mono ?_;rintro e w5 ⟨rfl,B,L⟩;have Y:=yH (H4.out.call B L);have H:=Y.out.cell.live;rw [Nat.zero_add] at H;have f:=frozen_of_row w5 (A+1) 34 _ _ Y.out.row;clear B L)
 have C:=heap_setCell_same w5 (A+1) 34 _ _ (.int .i64 cl) Y.out.row
 rw [x4r Y.out.len] at C
 have H6:=yH (Y.out.put C (Only.setCell (P:=fun j=>j=A+1) _ (a:=⟨A+1,34,none⟩) rfl _) Y.out.len Y.out.lo Y.out.hi Y.out.key)
 clear C H f K Y H4
 generalize w5.setCell ⟨A+1,34,none⟩ (.int .i64 cl)=w6 at *
 have K:=yH (AQ.out w6 H6.out.rd)
 go_upto_region 5 with (go_at_call 197;refine K.out.mono ?_;rintro e w7 ⟨rfl,B,L⟩;have X:=yH (H6.out.call B L);have H:=X.out.cell.size;rw [Nat.zero_add] at H;have f:=frozen_of_row w7 (A+1) 35 _ _ X.out.row;clear B L)
 have C:=heap_setCell_same w7 (A+1) 35 _ _ (.int .i64 cz) X.out.row
 rw [x4s X.out.len] at C
 have H8:=yH (X.out.put C (Only.setCell (P:=fun j=>j=A+1) _ (a:=⟨A+1,35,none⟩) rfl _) X.out.len X.out.lo X.out.hi X.out.key)
 clear C H f K X H6
 generalize w7.setCell ⟨A+1,35,none⟩ (.int .i64 cz)=w8 at *
 have K:=yH (AH.out w8 H8.out.rd)
 go_upto_region 6 with (go_at_call 195;refine K.out.mono ?_;rintro e w9 ⟨v9,rfl,l,B,L⟩;obtain ⟨q3,rfl,J,-,I⟩:=x3L l AW.out (by have:=AX.out;omega);have AP:=yH I;have AU:=yH J;have Z3:=yH (show A+2≤w8.heap.size from (yL H8.out.row));have d:=yH (H8.out.call B L);have H:=d.out.cell.lo;rw [Nat.zero_add] at H;have f:=frozen_of_row w9 (A+1) 32 _ _ d.out.row;clear B L l I J;unfold Rw.val at H;unfold Rw.val)
 have C:=heap_setCell_same w9 (A+1) 32 _ _ q3.val d.out.row
 rw [y0Y d.out.len] at C
 have U:=yH (d.out.put C (Only.setCell (P:=fun j=>j=A+1) _ (a:=⟨A+1,32,none⟩) rfl _) d.out.len (AP.out.base Z3.out) d.out.hi d.out.key)
 clear C H f K d H8 AP Z3
 unfold Rw.val at U
 generalize w9.setCell ⟨A+1,32,none⟩ (.slice q3.p q3.n q3.c)=w10 at *
 have K:=yH (AG.out w10 U.out.rd)
 go_upto_region 7 with (go_at_call 195;refine K.out.mono ?_;rintro e z ⟨v9,rfl,l,B,L⟩;obtain ⟨q4,rfl,J,-,I⟩:=x3L l An.out (by have:=Al.out;omega);have AM:=yH I;have Ai:=yH J;have Z4:=yH (show A+2≤w10.heap.size from (yL U.out.row));have E:=yH (U.out.call B L);have H:=E.out.cell.hi;rw [Nat.zero_add] at H;have f:=frozen_of_row z (A+1) 33 _ _ E.out.row;clear B L l I J;unfold Rw.val at H;unfold Rw.val)
 have C:=heap_setCell_same z (A+1) 33 _ _ q4.val E.out.row
 rw [y0Z E.out.len] at C
 have W:=yH (E.out.put C (Only.setCell (P:=fun j=>j=A+1) _ (a:=⟨A+1,33,none⟩) rfl _) E.out.len E.out.lo (AM.out.base Z4.out) E.out.key)
 clear C H f K E U AM Z4
 unfold Rw.val at W
 generalize z.setCell ⟨A+1,33,none⟩ (.slice q4.p q4.n q4.c)=w12 at *
 have K:=yH (AF.out w12 W.out.rd)
 go_upto_region 8 with (go_at_call 195;refine K.out.mono ?_;rintro e u ⟨v9,rfl,l,B,L⟩;obtain ⟨q5,rfl,J,-,I⟩:=x3L l Af.out (by have:=AV.out;omega);have A8:=yH I;have Ah:=yH J;have Z5:=yH (show A+2≤w12.heap.size from (yL W.out.row));have G:=yH (W.out.call B L);have H:=G.out.cell.key;rw [Nat.zero_add] at H;have f:=frozen_of_row u (A+1) 36 _ _ G.out.row;clear B L l I J;unfold Rw.val at H;unfold Rw.val)
 have C:=heap_setCell_same u (A+1) 36 _ _ q5.val G.out.row
 rw [x5i G.out.len] at C
 have v:=yH (G.out.put C (Only.setCell (P:=fun j=>j=A+1) _ (a:=⟨A+1,36,none⟩) rfl _) G.out.len G.out.lo G.out.hi (A8.out.base Z5.out))
 clear C H f K G W A8 Z5
 unfold Rw.val at v
 generalize u.setCell ⟨A+1,36,none⟩ (.slice q5.p q5.n q5.c)=w14 at *
 have N:=yH (show KdSt w w14 A g (⟨D,q3,q4,cl,cz,q5⟩:Kd) sN from v.out)
 clear v
 obtain ⟨O,i⟩:∃O:Kd,(⟨D,q3,q4,cl,cz,q5⟩:Kd)=O:=⟨_,rfl⟩
 have Ab:=yH (show O.pk=V from by rw [← i,← HV.out,← AU.out,← Ai.out,← Ah.out];rfl)
 have o:=yH (show In64 O.live∧In64 O.size∧Sm.allB O.sum from by rw [← i];exact ⟨⟨by have:=AI.out;show -9223372036854775808≤cl;omega,by have:=AI.out;show cl≤9223372036854775807;omega⟩,⟨by have:=AJ.out;show -9223372036854775808≤cz;omega,by have:=AJ.out;show cz≤9223372036854775807;omega⟩,Ad.out⟩)
 rw [i] at N
 clear i
 obtain ⟨du,AO,AN⟩:=UKd
 have HD:=yH AO
 have AC:=yH AN
 have b:=yH (Kd.cells_length N.out.len)
 have Ae:=yH (x0E N.out.row)
 clear AO AN
 go_wp2_with (first
  | (refine wpList_load_mid (by rfl) 34 _ (by rfl) _ 0 (by rfl) O.cells du Ae.out HD.out AC.out (by rw [b.out];exact SKd) ?_)
  | (refine wpList_store_row (by rfl) 34 _ _ (by rfl) A O.cells.toArray (by rfl) (by rfl) _ _ N.out.res (by rw [List.size_toArray,b.out];exact SKd) (by simp only [List.size_toArray,b.out,x01]) (all_oneCell_toArray Kd.one) ?_))
 have r9:=setRow_heap _ A _ O.cells.toArray _ _ N.out.res
 have y:Below A w14 (w14.setRow A O.cells.toArray):=Below.setRow (Below.refl _ _) (Nat.le_refl _) _
 have q:∀r:Rw,FrRw w14 (A+2) r→FrRw (w14.setRow A O.cells.toArray) w.heap.size r:=fun r h=>(h.keep (fun j hj _=>setRow_other _ _ _ _ (by omega))).base (by have:=AA.out;omega)
 have f1:=q _ N.out.lo
 have f2:=q _ N.out.hi
 have f3:=q _ N.out.key
 refine x1B 2 (by kernel_rfl) A _ _ HD.out AC.out (by rw [List.size_toArray,b.out];exact SKd) (by rfl) r9 ⟨O,rfl,Ab.out,⟨N.out.len,o.out.2.2,f1.ok,f2.ok,f3.ok,o.out.1,o.out.2.1⟩,f1,f2,f3,N.out.rd.low (y.mono (by have:=N.out.at';omega)),x0s N.out.gr (show w.heap.size≤A by have:=AA.out;omega) y y.size⟩
end Go.Proofs.YtinihaflmdihaaaGreat.Nd
namespace Go.Proofs.YtinihaflmdihaaaGreat.Nd
open Go.RowKit
theorem UEs:Tryz.prog.underlying 78=some (.slice 85):=by kernel_rfl
theorem UKs:Tryz.prog.underlying 79=some (.slice 34):=by kernel_rfl
theorem IEn:(Tryz.prog.info? 85).map (fun i=>(i.zero,i.size,i.bytes))=some (some (.agg #[.slice none 0 0,.bool false]),2,32):=by kernel_rfl
theorem IKd:(Tryz.prog.info? 34).map (fun i=>(i.zero,i.size,i.bytes))=some (some (.agg kd0.cells.toArray),37,120):=by kernel_rfl
def En.cells (e:En):List Value:=[e.row.val,.bool e.live]
def Kd.rows (k:Kd):List Rw:=[k.lo,k.hi,k.key]
def En.rows (e:En):List Rw:=[e.row]
structure Lst {α:Type} (t:TypeId) (sz:Nat) (cells:α→List Value) (rows:α→List Rw) (B:Nat) (w:World) (v:Value) (n:Nat) (L:List α):Prop where
 len:n=L.length
 own:w.ownsRow B t sz v n (L.flatMap cells)
 each:∀e∈L,∀r∈rows e,FrRw w B r∧∀x,r.p=some x→r.R≠[]→v.ownBlock≠some x.block
section
variable {α:Type} {t:TypeId} {sz:Nat} {cells:α→List Value} {rows:α→List Rw} {B:Nat} {w w':World} {v v':Value} {n:Nat} {L:List α}
theorem Lst.nil (w:World):Lst t sz cells rows B w (.slice none 0 0) 0 ([]:List α):=⟨rfl,World.ownsRow_nil _ _ _ _,fun e he=>by cases he⟩
theorem Lst.keep (h:Lst t sz cells rows B w v n L) (hk:∀k,B≤k→k<w.heap.size→w'.heap[k]? =w.heap[k]?):Lst t sz cells rows B w' v n L:=by
 refine ⟨h.len,⟨h.own.1,h.own.2.imp id ?_⟩,fun e he r hr=>⟨(h.each e he r hr).1.keep hk,(h.each e he r hr).2⟩⟩
 rintro ⟨g,C,A,H,E,G,r⟩
 exact ⟨g,C,A,H,E,(hk g E (yL G)).trans G,r⟩
theorem Lst.later (h:Lst t sz cells rows B w v n L) (hb:Below w.heap.size w w'):Lst t sz cells rows B w' v n L:=h.keep fun k _ hk=>hb.block k hk
theorem Lst.grown (h:Lst t sz cells rows B w v n L) {g:Nat} (hg:w.grownBy w' (some g)) (hlt:g<B):Lst t sz cells rows B w' v n L:=h.keep fun k hB hk=>hg.block k hk (by simp;omega)
theorem Lst.put (h:Lst t sz cells rows B w v n L) {e:α} (he:∀r∈rows e,FrRw w B r∧∀x,r.p=some x→r.R≠[]→v.ownBlock≠some x.block) (hown:w'.ownsRow B t sz v' (n+1) (L.flatMap cells++cells e)) (hg:w.grownBy w' v.ownBlock) (hat:v'.ownBlock=v.ownBlock∨v'.ownBlock=some w.heap.size):Lst t sz cells rows B w' v' (n+1) (L++[e]):=by
 have C:∀r:Rw,(FrRw w B r∧∀x,r.p=some x→r.R≠[]→v.ownBlock≠some x.block)→FrRw w' B r∧∀x,r.p=some x→r.R≠[]→v'.ownBlock≠some x.block:=fun r hr=>by
  refine ⟨⟨rw_keep hr.1.ok fun x hx hR=>hg.block _ (hr.1.lt x hx hR) (fun e=>hr.2 x hx hR e.symm),hr.1.lo⟩,fun x hx hR e=>?_⟩
  rcases hat with A | A
  ·exact hr.2 x hx hR (A.symm.trans e)
  ·rw [A] at e
   have:=hr.1.lt x hx hR
   have E:w.heap.size=x.block:=Option.some.inj e
   omega
 refine ⟨by rw [List.length_append,← h.len];rfl,by rw [List.flatMap_append];simpa using hown,fun E he' r hr=>?_⟩
 rcases List.mem_append.1 he' with A | A
 ·exact C r (h.each E A r hr)
 ·simp only [List.mem_cons,List.not_mem_nil,or_false] at A
  subst A
  exact C r (he r hr)
theorem Lst.form (h:Lst t sz cells rows B w v n L):∃q c,v= .slice q n c∧n≤c:=by
 rcases h.own.2 with ⟨rfl,C⟩ | ⟨g,A,E,rfl,_,_,G,_⟩
 ·exact ⟨none,0,by rw [C],by omega⟩
 ·exact ⟨_,A,rfl,G⟩
theorem x8T (hc:∀e∈L,(cells e).length=sz):∀(i j:Nat) (u:Value) [Inhabited α],i<L.length→(cells (L.getD i default))[j]? =some u→(L.flatMap cells)[i*sz+j]? =some u:=by
 intro i j u _ hi A
 induction L generalizing i with
 | nil=>simp at hi
 | cons a L ih=>
  have B:=hc a (by simp)
  rw [List.flatMap_cons]
  cases i with
  | zero=>
   rw [Nat.zero_mul,Nat.zero_add]
   have A:(cells a)[j]? =some u:=by simpa using A
   rw [List.getElem?_append_left (List.getElem?_eq_some_iff.1 A).1]
   exact A
  | succ i=>
   rw [List.getElem?_append_right (by rw [B,Nat.succ_mul];omega),B,Nat.succ_mul,show i*sz+sz+j - sz=i*sz+j by omega]
   exact ih (fun e he=>hc e (by simp [he])) i (by simpa using hi) (by simpa using A)
theorem Lst.range [Inhabited α] {q:Option Addr} {c:Nat} (h:Lst t sz cells rows B w (.slice q n c) n L) (hc:∀e∈L,(cells e).length=sz):L=[]∨∃g,q=some ⟨g,0,none⟩∧∀i,i<L.length→w.rangeAt g (i*sz) (cells (L.getD i default)):=by
 rcases h.own.2 with ⟨_,H⟩ | ⟨g,J,I,C,P,M,G,N,O,K⟩
 ·exact Or.inl (List.length_eq_zero_iff.1 (by rw [← h.len];exact H))
 ·simp only [Value.slice.injEq,true_and] at C
  obtain ⟨rfl,rfl⟩:=C
  refine Or.inr ⟨g,rfl,fun i hi j u hu=>?_⟩
  have E:=x8T hc i j u hi hu
  have A:=(List.getElem?_eq_some_iff.1 E).1
  rw [World.ownsRow.cellAt h.own (i*sz+j) (by rw [← h.own.1];exact A),E]
end
abbrev Ens (B:Nat):=Lst 85 2 En.cells En.rows B
structure Kds (B:Nat) (w:World) (v:Value) (n:Nat) (K:List Kd):Prop where
 lst:Lst 34 37 Kd.cells Kd.rows B w v n K
 good:∀k∈K,k.sum.length=32∧Sm.allB k.sum∧In64 k.live∧In64 k.size
theorem Ens.ents {B:Nat} {w:World} {q:Option Addr} {n c:Nat} {E:List En} (h:Ens B w (.slice q n c) n E) (hn:n≤9223372036854775807):EntsIn w q n c E:=by
 have C:n≤c:=by
  obtain ⟨J,K,e,I⟩:=h.form
  cases e
  exact I
 refine ⟨h.len,C,hn,fun e he=>(h.each e he e.row (by simp [En.rows])).1.ok,?_⟩
 rcases h.range (fun e _=>rfl) with H | ⟨g,G,A⟩
 ·exact Or.inl H
 ·exact Or.inr ⟨g,0,G,fun i hi=>⟨by have:=A i hi 0 _ rfl;simpa using this,by have:=A i hi 1 _ rfl;simpa using this⟩⟩
theorem Kds.kids {B:Nat} {w:World} {q:Option Addr} {n c:Nat} {K:List Kd} (h:Kds B w (.slice q n c) n K) (hn:n≤9223372036854775807):KidsIn w q n c K:=by
 have E:n≤c:=by
  obtain ⟨J,L,e,I⟩:=h.lst.form
  cases e
  exact I
 have A:=fun k hk r A=>(h.lst.each k hk r A).1.ok
 refine ⟨h.lst.len,E,hn,fun k hk=>⟨(h.good k hk).1,(h.good k hk).2.1,A k hk k.lo (by simp [Kd.rows]),A k hk k.hi (by simp [Kd.rows]),A k hk k.key (by simp [Kd.rows]),(h.good k hk).2.2.1,(h.good k hk).2.2.2⟩,?_⟩
 rcases h.lst.range (fun k hk=>Kd.cells_length (h.good k hk).1) with H | ⟨g,G,C⟩
 ·exact Or.inl H
 ·exact Or.inr ⟨g,0,G,fun i hi=>by have:=C i hi;simpa using this⟩
theorem y2R (q:Option Addr) (m c:Nat) (b:Bool):Instr.fill (fun i=>some (i*2,2)) ((Array.range (1*2)).map ((Value.agg #[.slice none 0 0,.bool false]).cells[·%(Value.agg #[.slice none 0 0,.bool false]).cells.size]!)) [(0,.agg #[.slice q m c,.bool b])]=some #[.slice q m c,.bool b]:=by kernel_rfl
theorem y2S (q1 q2 q3:Option Addr) (m1 c1 m2 c2 m3 c3:Nat) (x y:Int):∀(D:List Nat),D.length=32→Instr.fill (fun i=>some (i*37,37)) ((Array.range (1*37)).map ((Value.agg kd0.cells.toArray).cells[·%(Value.agg kd0.cells.toArray).cells.size]!)) [(0,.agg (vals D++[Value.slice q1 m1 c1,.slice q2 m2 c2,.int .i64 x,.int .i64 y,.slice q3 m3 c3]).toArray)]=some ((vals D++[Value.slice q1 m1 c1,.slice q2 m2 c2,.int .i64 x,.int .i64 y,.slice q3 m3 c3]).toArray)
 |[a0,a1,a2,a3,a4,a5,a6,a7,a8,a9,a10,a11,a12,a13,a14,a15,a16,a17,a18,a19,a20,a21,a22,a23,a24,a25,a26,a27,a28,a29,a30,a31],_=>by kernel_rfl
theorem x15 {w:World} {o:Oper} {a:Act} {K:Act→World→Prop} {Q:Exit→Act→World→Prop} (x:Operand) (ho:o.op= .buildSlice 78 1 #[(0,x)]) {q:Option Addr} {m c:Nat} {b:Bool} (hx:a.eval x= .agg #[.slice q m c,.bool b])
  (h:K (a.put o.dst (.slice (some ⟨w.heap.size,0,none⟩) 1 1)) (w.alloc (.cells #[.slice q m c,.bool b] 85))):o.wp Tryz.prog a w K Q:=by
 obtain ⟨i,E,B,A,C⟩:=info_parts IEn
 refine wp_buildSlice 78 85 1 #[(0,x)] ho _ i _ UEs E B (by rw [A];omega) (by rw [A];omega) ?_ h
 rw [A]
 simp only [List.map_toArray,List.map_cons,List.map_nil,hx]
 exact y2R q m c b
theorem x3p {w:World} {o:Oper} {a:Act} {K:Act→World→Prop} {Q:Exit→Act→World→Prop} (x:Operand) (ho:o.op= .buildSlice 79 1 #[(0,x)]) {k:Kd} (hk:k.sum.length=32) (hx:a.eval x= .agg k.cells.toArray)
  (h:K (a.put o.dst (.slice (some ⟨w.heap.size,0,none⟩) 1 1)) (w.alloc (.cells k.cells.toArray 34))):o.wp Tryz.prog a w K Q:=by
 obtain ⟨i,E,B,A,C⟩:=info_parts IKd
 refine wp_buildSlice 79 34 1 #[(0,x)] ho k.cells.toArray i _ UKs E B (by rw [A];omega) (by rw [A];omega) ?_ h
 rw [A]
 simp only [List.map_toArray,List.map_cons,List.map_nil,hx]
 exact y2S _ _ _ _ _ _ _ _ _ _ _ k.sum hk
theorem En.one {e:En}:∀u∈e.cells,u.oneCell'=true:=by
 intro u hu
 simp only [En.cells,List.mem_cons,List.not_mem_nil,or_false] at hu
 rcases hu with rfl | rfl<;>rfl
theorem x6P (w:World) (e:En):∀j u,e.cells[j]? =some u→(w.alloc (.cells #[.slice e.row.p e.row.n e.row.c,.bool e.live] 85)).cell? ((⟨w.heap.size,0,none⟩:Addr).add j)=some u:=fun j u hu=>by
 rw [Addr.add_mid,Nat.zero_add,cell_of_row _ w.heap.size j _ _ _ (heap_alloc_new w _)]
 simpa [En.cells,Rw.val] using hu
theorem x6Q (w:World) (k:Kd):∀j u,k.cells[j]? =some u→(w.alloc (.cells k.cells.toArray 34)).cell? ((⟨w.heap.size,0,none⟩:Addr).add j)=some u:=fun j u hu=>by
 rw [Addr.add_mid,Nat.zero_add,cell_of_row _ w.heap.size j _ _ _ (heap_alloc_new w _)]
 simpa using hu
end Go.Proofs.YtinihaflmdihaaaGreat.Nd
namespace Go.Proofs.YtinihaflmdihaaaGreat.Nd
open Go.RowKit Go.Proofs.YtinihaflmdihaaaGreat.Dk
def boxE (b:List Int×List Int) (e:PE):List Int×List Int:=if e.live then hull b (e.row,e.row) else b
def boxK (b:List Int×List Int) (k:PK):List Int×List Int:=hull b (k.lo,k.hi)
def boxR (L:List PE):List Int×List Int:=L.foldl boxE ([],[])
def liveR (L:List PE):Int:=(L.map fun e=>if e.live then (1:Int) else 0).sum
def PN.box (n:PN):List Int×List Int:=n.kids.foldl boxK (boxR n.rows)
def PN.live (n:PN):Int:=liveR n.rows+(n.kids.map PK.live).sum
def PN.size (n:PN):Int:=n.rows.length+(n.kids.map PK.size).sum
def PN.tally (n:PN):PK:=⟨zeros 32,n.box.1,n.box.2,n.live,n.size,n.keyOf⟩
theorem x3M {α β:Type} [Inhabited α] (f:β→α→β) (b:β) (L:List α) (k:Nat) (h:k<L.length):(L.take (k+1)).foldl f b=f ((L.take k).foldl f b) (L.getD k default):=by
 rw [List.take_succ_eq_append_getElem h,List.foldl_append,List.getD_eq_getElem?_getD,List.getElem?_eq_getElem h]
 rfl
theorem x2Y {α:Type} [Inhabited α] (f:α→Int) (L:List α) (k:Nat) (h:k<L.length):((L.take (k+1)).map f).sum=((L.take k).map f).sum+f (L.getD k default):=by
 rw [List.take_succ_eq_append_getElem h,List.map_append,List.sum_append,List.getD_eq_getElem?_getD,List.getElem?_eq_getElem h]
 simp
theorem x1M {α β:Type} [Inhabited α] [Inhabited β] (g:α→β) (L:List α) (k:Nat) (h:k<L.length):(L.map g).getD k default=g (L.getD k default):=by
 rw [List.getD_eq_getElem?_getD,List.getD_eq_getElem?_getD,List.getElem?_map,List.getElem?_eq_getElem h]
 rfl
instance:Inhabited PE:=⟨⟨[],false⟩⟩
instance:Inhabited PK:=⟨PK.none⟩
theorem x5j {α:Type} (f:α→Int) (B:Int):∀L:List α,(∀x∈L,0≤f x∧f x≤B)→0≤(L.map f).sum∧(L.map f).sum≤B*L.length
 |[],_=>by simp
 | x::L,h=>by
  have h1:=h x (by simp)
  have h2:=x5j f B L (fun y hy=>h y (by simp [hy]))
  simp only [List.map_cons,List.sum_cons,List.length_cons,Int.natCast_add,Int.natCast_one,Int.mul_add,Int.mul_one]
  omega
theorem x3q (L:List PE):0≤liveR L∧liveR L≤L.length:=by
 have:=x5j (fun e:PE=>if e.live then (1:Int) else 0) 1 L (fun e _=>by split<;>omega)
 unfold liveR
 omega
def Away (X:Nat) (r:Rw):Prop:=∀x,r.p=some x→r.R≠[]→x.block≠X
theorem FrRw.away {w:World} {base X:Nat} {r:Rw} (h:FrRw w base r) (hX:X<base):Away X r:=fun x hx hR=>by have:=h.lo x hx hR;omega
theorem x1U (X:Nat) {r:Rw} (h:r.R=[]):Away X r:=fun _ _ hR=>absurd h hR
structure TaSt (w0 w:World) (gn kind:Nat) (p:Option Addr) (n c:Nat) (q:Option Addr) (m f gr gx:Nat) (kd:Kd):Prop where
 node:NodeAt w gn kind p n c q m f
 res:w.heap[gr]? =some (.cells kd0.cells.toArray 34 (0,0))
 row:w.heap[gx]? =some (.cells kd.cells.toArray 34 (0,0))
 ok:kd.Ok w
 away:∀r∈kd.rows,Away gx r∧Away gr r
 low:Below w0.heap.size w0 w
 ge:w0.heap.size≤gn∧w0.heap.size≤gr∧w0.heap.size≤gx
 ne:gn≠gx∧gr≠gx∧gn≠gr
section
variable {w0 w w':World} {gn kind:Nat} {p:Option Addr} {n c:Nat} {q:Option Addr} {m f gr gx:Nat} {kd kd':Kd}
theorem TaSt.later (h:TaSt w0 w gn kind p n c q m f gr gx kd) (hb:Below w.heap.size w w'):TaSt w0 w' gn kind p n c q m f gr gx kd:=
 ⟨h.node.later hb,(hb.block _ (yL h.res)).trans h.res,(hb.block _ (yL h.row)).trans h.row,h.ok.later hb,h.away,h.low.trans (hb.mono h.low.size),h.ge,h.ne⟩
theorem TaSt.cell (h:TaSt w0 w gn kind p n c q m f gr gx kd):KAt w gx 0 kd:=x0M h.row h.ok.len
theorem TaSt.turn (h:TaSt w0 w gn kind p n c q m f gr gx kd) (hrow:w'.heap[gx]? =some (.cells kd'.cells.toArray 34 (0,0))) (ho:Only (fun j=>j=gx) w w') (hs:kd'.sum=kd.sum) (hr:∀r∈kd'.rows,r.Ok w∧Away gx r∧Away gr r) (hl:In64 kd'.live) (hz:In64 kd'.size):TaSt w0 w' gn kind p n c q m f gr gx kd':=by
 have A:∀r:Rw,r.Ok w∧Away gx r∧Away gr r→r.Ok w':=fun r hr=>rw_keep hr.1 fun x hx hR=>ho.block _ (by
  rcases hr.1.ints.at' with C | ⟨g,o,B,E⟩
  ·exact absurd C hR
  ·rw [hx] at B
   obtain rfl:x=⟨g,o,Option.none⟩:=by simpa using B
   have:=E 0 (List.length_pos_iff.2 hR)
   exact block_lt_of_cell this) (hr.2.1 x hx hR)
 refine ⟨⟨(ho.block _ (yL h.node.row) h.ne.1).trans h.node.row⟩,(ho.block _ (yL h.res) h.ne.2.1).trans h.res,hrow,⟨by rw [hs];exact h.ok.len,by rw [hs];exact h.ok.ok,A _ (hr _ (by simp [Kd.rows])),A _ (hr _ (by simp [Kd.rows])),A _ (hr _ (by simp [Kd.rows])),hl,hz⟩,fun r hm=>(hr r hm).2,h.low.trans (ho.below (by have:=h.low.size;omega) (fun j e=>by rw [e];exact h.ge.2.2)),h.ge,h.ne⟩
theorem TaSt.rows (h:TaSt w0 w gn kind p n c q m f gr gx kd):∀r∈kd.rows,r.Ok w∧Away gx r∧Away gr r:=fun r hr=>by
 refine ⟨?_,h.away r hr⟩
 simp only [Kd.rows,List.mem_cons,List.not_mem_nil,or_false] at hr
 rcases hr with rfl | rfl | rfl
 ·exact h.ok.lo
 ·exact h.ok.hi
 ·exact h.ok.key
theorem TaSt.setLive (h:TaSt w0 w gn kind p n c q m f gr gx kd) (x:Int) (hx:In64 x):TaSt w0 (w.setCell ⟨gx,34,none⟩ (.int .i64 x)) gn kind p n c q m f gr gx {kd with live:=x}:=by
 have r:=heap_setCell_same w gx 34 _ _ (.int .i64 x) h.row
 rw [x4r h.ok.len] at r
 exact h.turn r (Only.setCell (P:=fun j=>j=gx) _ (a:=⟨gx,34,none⟩) rfl _) rfl h.rows hx h.ok.size
theorem TaSt.setSize (h:TaSt w0 w gn kind p n c q m f gr gx kd) (x:Int) (hx:In64 x):TaSt w0 (w.setCell ⟨gx,35,none⟩ (.int .i64 x)) gn kind p n c q m f gr gx {kd with size:=x}:=by
 have r:=heap_setCell_same w gx 35 _ _ (.int .i64 x) h.row
 rw [x4s h.ok.len] at r
 exact h.turn r (Only.setCell (P:=fun j=>j=gx) _ (a:=⟨gx,35,none⟩) rfl _) rfl h.rows h.ok.live hx
theorem y5D {w:World} {g:Nat} {k:Kd} {r1 r2:Rw} (h:w.heap[g]? =some (.cells k.cells.toArray 34 (0,0))) (hl:k.sum.length=32):(w.setCells g 32 [r1.val,r2.val]).heap[g]? =some (.cells ({k with lo:=r1,hi:=r2}:Kd).cells.toArray 34 (0,0)):=by
 have:=x0Q g 34 [r1.val,r2.val] (vals k.sum) [k.lo.val,k.hi.val] [.int .i64 k.live,.int .i64 k.size,k.key.val] w (by simpa [Kd.cells] using h) rfl
 rw [x00,hl] at this
 simpa [Kd.cells] using this
theorem x2G {w:World} {g:Nat} {k:Kd} (h:w.heap[g]? =some (.cells k.cells.toArray 34 (0,0))) (hl:k.sum.length=32) (r1 r2:Rw):w.there g 32 (#[r1.val,r2.val]:Array Value).size:=fun j hj=>by
 refine ⟨?_,frozen_of_row w g _ _ _ h⟩
 have hj:j<2:=hj
 rw [cell_of_row w g _ _ _ _ h]
 rw [Array.getElem?_eq_getElem (by rw [List.size_toArray,Kd.cells_length hl];omega)]
 rfl
theorem TaSt.setBox (h:TaSt w0 w gn kind p n c q m f gr gx kd) {r1 r2:Rw} (h1:r1.Ok w∧Away gx r1∧Away gr r1) (h2:r2.Ok w∧Away gx r2∧Away gr r2):TaSt w0 (w.setCells gx 32 [r1.val,r2.val]) gn kind p n c q m f gr gx {kd with lo:=r1,hi:=r2}:=by
 refine h.turn (y5D h.row h.ok.len) (x13 _ _ _ _) rfl (fun r hr=>?_) h.ok.live h.ok.size
 simp only [Kd.rows,List.mem_cons,List.not_mem_nil,or_false] at hr
 rcases hr with rfl | rfl | rfl
 ·exact h1
 ·exact h2
 ·exact h.rows _ (by simp [Kd.rows])
end
theorem x6R (x:Int) (r:Rw):(⟨zeros 32,⟨none,0,0,[]⟩,⟨none,0,0,[]⟩,0,x,r⟩:Kd).cells.length=37:=Kd.cells_length (by simp [zeros])
section
variable {w0 w w':World} {gn kind:Nat} {p:Option Addr} {n c:Nat} {q:Option Addr} {m f gr gx:Nat}
theorem x8U {r:Rw} {x:Int} {O:Array Value} (hn:NodeAt w gn kind p n c q m f) (hr:w.heap[gr]? =some (.cells kd0.cells.toArray 34 (0,0))) (hx:w.heap[gx]? =some (.cells O 34 (0,0))) (hro:r.Ok w∧Away gx r∧Away gr r) (hl:Below w0.heap.size w0 w) (ge:w0.heap.size≤gn∧w0.heap.size≤gr∧w0.heap.size≤gx) (ne:gn≠gx∧gr≠gx∧gn≠gr) (h64:In64 x):
  TaSt w0 (w.setRow gx (⟨zeros 32,⟨none,0,0,[]⟩,⟨none,0,0,[]⟩,0,x,r⟩:Kd).cells.toArray) gn kind p n c q m f gr gx ⟨zeros 32,⟨none,0,0,[]⟩,⟨none,0,0,[]⟩,0,x,r⟩:=by
 have A:Below gx w (w.setRow gx (⟨zeros 32,⟨none,0,0,[]⟩,⟨none,0,0,[]⟩,0,x,r⟩:Kd).cells.toArray):=Below.setRow (Below.refl _ _) (Nat.le_refl _) _
 refine ⟨⟨(setRow_other _ _ _ _ ne.1).trans hn.row⟩,(setRow_other _ _ _ _ ne.2.1).trans hr,setRow_heap _ _ _ _ _ _ hx,⟨by simp [zeros],x1l 32,x4k _,x4k _,rw_keep hro.1 (fun y hy hR=>setRow_other _ _ _ _ (hro.2.1 y hy hR)),⟨by show -9223372036854775808≤(0:Int);omega,by show (0:Int)≤9223372036854775807;omega⟩,h64⟩,fun r' hr'=>?_,hl.trans (A.mono ge.2.2),ge,ne⟩
 simp only [Kd.rows,List.mem_cons,List.not_mem_nil,or_false] at hr'
 rcases hr' with rfl | rfl | rfl
 ·exact ⟨x1U _ rfl,x1U _ rfl⟩
 ·exact ⟨x1U _ rfl,x1U _ rfl⟩
 ·exact hro.2
theorem IBx:(Tryz.prog.info? 32).map (·.size)=some 2:=by kernel_rfl
theorem x4t (r1 r2:Rw):(#[r1.val,r2.val]:Array Value).all (·.oneCell')=true:=by
 simp [Rw.val,Value.oneCell']
end
theorem x0t {P:Program} {ρ:Operand→Value} {o:Oper} {t:TypeId} {parts:Array (Nat×Operand)} {cells:Array Value} (ho:o.op= .build t parts) (h:P.built t (parts.map fun (i,x)=>(i,ρ x)).toList=some cells) (w:World):
  (execOp ρ o).run P w= .ok (.value (.agg cells)) w:=by
 unfold execOp
 simp only [ho,Sem.run_bind,run_build w t _ cells h,Result.andThen_ok,Sem.run_pure]
theorem x8V (x:Int) (p:Option Addr) (n c:Nat) (R:List Int):Tryz.prog.built 34 [(3,.int .i64 x),(4,.slice p n c)]=some (⟨zeros 32,⟨none,0,0,[]⟩,⟨none,0,0,[]⟩,0,x,⟨p,n,c,R⟩⟩:Kd).cells.toArray:=by kernel_rfl
end Go.Proofs.YtinihaflmdihaaaGreat.Nd
