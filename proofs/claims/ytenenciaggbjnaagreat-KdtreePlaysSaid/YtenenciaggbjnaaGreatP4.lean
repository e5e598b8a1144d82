/- NdSame, NlEqual, NlBoxSame, NlSame, NlEmpty, GenBox, BoxEach, NlKid, NdRightP, NlEach, WlOut, CodRd. -/
import Derived.Maps.AppendAt
import Derived.Test.YtenenciaggbjnaaGreatP3
set_option maxRecDepth 100000
set_option maxHeartbeats 8000000
set_option linter.all false
namespace Go.Proofs.YtenenciaggbjnaaGreat
namespace Nd
open Go.RowKit
theorem pk_eq (a b:Kd):a.pk=b.pk↔a.sum=b.sum/\a.live=b.live/\a.size=b.size/\(a.lo.R=b.lo.R/\a.hi.R=b.hi.R)/\a.key.R=b.key.R:=by
 simp only [Kd.pk,PK.mk.injEq];constructor
 ·rintro ⟨C,A,B,G,E,H⟩;exact ⟨C,G,E,⟨A,B⟩,H⟩
 ·rintro ⟨C,G,E,⟨A,B⟩,H⟩;exact ⟨C,A,B,G,E,H⟩
theorem y22 (a b:Kd) (w:World) (ha:a.Ok w) (hb:b.Ok w):
  Calls Tryz.prog 25 #[.agg a.cells.toArray,.agg b.cells.toArray] w fun e w'=>e= .returned (.bool (decide (a.pk=b.pk)))/\Below w.heap.size w w':=by
 have X:=jA w (.cells a.cells.toArray 34);have Z:=jE w (.cells a.cells.toArray 34);have o:(w.alloc (.cells a.cells.toArray 34)).heap.size=w.heap.size+1:=by simp
 have M:Below (w.heap.size+1) (w.alloc (.cells a.cells.toArray 34)) ((w.alloc (.cells a.cells.toArray 34)).alloc (.cells b.cells.toArray 34)):=(jC _ _).alloc (by omega) _;have d:=jE (w.alloc (.cells a.cells.toArray 34)) (.cells b.cells.toArray 34);rw [o] at d;have B:=X.trans (M.mono (by omega));have Z:=(M.block w.heap.size (by omega)).trans Z;have f:=yH ha;have J:=yH hb;clear ha hb X M o
 go_enter Tryz.func25,Tryz.ntmps25
 go_upto_region 1 with fail
 generalize (w.alloc (.cells a.cells.toArray 34)).alloc (.cells b.cells.toArray 34)=W at *;have G:=yH (x0N Z f.len);have E:=yH (x0N d J.len);have A:=yH (f.later B);have C:=yH (J.later B);have P:=yH f.len;have O:=yH J.len;have L:=yH B;have U:=yH (pk_eq a b);have m:(Op.equalIn 10000 30 (.agg (u8s a.sum)) (.agg (u8s b.sum))).run Tryz.prog W= .ok (decide (a.sum=b.sum)) W:=x4w a.sum b.sum P O 9998 W;have u:=G.live;have y:=G.size;have q:=G.lo;have a5:=G.hi;have c:=G.key;have v:=E.live;have s:=E.size;have c4:=E.lo;have t:=E.hi;have Y:=E.key;simp only [Nat.zero_add] at u y q a5 c v s c4 t Y;clear Z d B;by_cases h1:a.sum=b.sum
 case neg=>
  rw [kE h1] at m;have K:=yH (fun h=>h1 (U.1 h).1);clear h1;go_wp2_with (first | (refine jK (by rfl) 30 _ (by rfl) _ 0 (by rfl) (vals a.sum) _ G.sum A25 (by rfl) (by rw [x00,P.out];exact S25) ?_;rw [x07]) | (refine jK (by rfl) 30 _ (by rfl) _ 0 (by rfl) (vals b.sum) _ E.sum A25 (by rfl) (by rw [x00,O.out];exact S25) ?_;rw [x07]))
  go_ret;exact ⟨x0e K,L.out⟩
 rw [kF h1] at m;have x:=yH h1;clear h1;by_cases h2:a.live=b.live
 case neg=>
  have k:(a.live==b.live)=false:=by simp [h2]
  have K:=yH (fun h=>h2 (U.1 h).2.1);clear h2;go_wp2_with (first | (refine jK (by rfl) 30 _ (by rfl) _ 0 (by rfl) (vals a.sum) _ G.sum A25 (by rfl) (by rw [x00,P.out];exact S25) ?_;rw [x07]) | (refine jK (by rfl) 30 _ (by rfl) _ 0 (by rfl) (vals b.sum) _ E.sum A25 (by rfl) (by rw [x00,O.out];exact S25) ?_;rw [x07]))
  go_ret;exact ⟨x0e K,L.out⟩
 have k:(a.live==b.live)=true:=by simp [h2]
 have z:=yH h2;clear h2;by_cases h3:a.size=b.size
 case neg=>
  have l:(a.size==b.size)=false:=by simp [h3]
  have K:=yH (fun h=>h3 (U.1 h).2.2.1);clear h3;go_wp2_with (first | (refine jK (by rfl) 30 _ (by rfl) _ 0 (by rfl) (vals a.sum) _ G.sum A25 (by rfl) (by rw [x00,P.out];exact S25) ?_;rw [x07]) | (refine jK (by rfl) 30 _ (by rfl) _ 0 (by rfl) (vals b.sum) _ E.sum A25 (by rfl) (by rw [x00,O.out];exact S25) ?_;rw [x07]))
  go_ret;exact ⟨x0e K,L.out⟩
 have l:(a.size==b.size)=true:=by simp [h3]
 have r:=yH h3;clear h3;by_cases h4:a.lo.R=b.lo.R/\a.hi.R=b.hi.R
 case neg=>
  have K:=yH (fun h=>h4 (U.1 h).2.2.2.1);have j:=yH (kE h4);clear h4;go_wp2_with (first | (refine jK (by rfl) 30 _ (by rfl) _ 0 (by rfl) (vals a.sum) _ G.sum A25 (by rfl) (by rw [x00,P.out];exact S25) ?_;rw [x07]) | (refine jK (by rfl) 30 _ (by rfl) _ 0 (by rfl) (vals b.sum) _ E.sum A25 (by rfl) (by rw [x00,O.out];exact S25) ?_;rw [x07]) | (refine (x5e _ _ _ _ _ _ _ _ _ _ _ _ _ _ _ _ W A.lo.ints A.hi.ints C.lo.ints C.hi.ints A.lo.top A.hi.top).mono ?_;rintro _ n ⟨rfl,H⟩;rw [j.out];have N:=yH (L.trans (H.mono L.size));clear H))
  go_ret;exact ⟨x0e K,N.out⟩
 have j:=yH (kF h4);have g:=yH h4;clear h4;have I:=U.out;have HP:=yH (show decide (a.pk=b.pk)=decide (a.key.R=b.key.R) from by
  rw [Bool.eq_iff_iff,jY,jY,I];exact ⟨fun h=>h.2.2.2.2,fun h=>⟨x.out,z.out,r.out,g.out,h⟩⟩)
 clear I;go_wp2_with (first | (refine jK (by rfl) 30 _ (by rfl) _ 0 (by rfl) (vals a.sum) _ G.sum A25 (by rfl) (by rw [x00,P.out];exact S25) ?_;rw [x07]) | (refine jK (by rfl) 30 _ (by rfl) _ 0 (by rfl) (vals b.sum) _ E.sum A25 (by rfl) (by rw [x00,O.out];exact S25) ?_;rw [x07]) | (refine (x5e _ _ _ _ _ _ _ _ _ _ _ _ _ _ _ _ W A.lo.ints A.hi.ints C.lo.ints C.hi.ints A.lo.top A.hi.top).mono ?_;rintro _ n ⟨rfl,H⟩;rw [j.out];have e6:=(H.cell (jI c)).trans c;have f6:=(H.cell (jI Y)).trans Y;have N:=yH (L.trans (H.mono L.size));have Q:=yH (A.later H);have i:=yH (C.later H);clear H c Y) | (refine (x0y _ _ _ _ _ _ _ _ n Q.key.ints i.key.ints Q.key.top).mono ?_;rintro _ w6 ⟨rfl,p,rfl⟩))
 rw [HP.out];go_ret;exact ⟨rfl,Below.drewN N p⟩
theorem x3D (p q:Option Addr) (n c m e:Nat) (R S:List Int) (w:World) (h:Ints w p n c R) (h2:Ints w q m e S) (hn9:n<=9223372036854775807):
  Calls Tryz.prog 79 #[.slice p n c,.slice q m e] w fun e w'=>e= .returned (.bool (decide (R=S)))/\∃j,w'=w.drewN j:=by
 have C:=yH h;have E:=yH h2;clear h h2;by_cases hn:(n:Int)=m
 case neg=>
  have B:¬R=S:=fun h=>hn (by rw [C.size,E.size,h]);have H:=yH B;have b0:((n:Int) !=m)=true:=by simpa using hn
  clear B
  go_enter Tryz.func79,Tryz.ntmps79
  go_wp2_with fail
  go_ret;exact ⟨x0e H,0,rfl⟩
 obtain rfl:m=n:=by omega
 go_enter Tryz.func79,Tryz.ntmps79
 go_wp2_with fail
 go_loopw [13] (fun i wr=>y5S w R S m i wr) (fun i _=>m - (intOf i).toNat)
 case atStart=>exact ⟨0,0,by omega,rfl,rfl,rfl⟩
 case round=>
  obtain ⟨k,j,O,rfl,A,rfl⟩:=hrel;have HL:=yH A;clear A;by_cases hlt:k<m
  ·obtain ⟨P,o,rfl,J⟩:=C.cell k hlt;obtain ⟨Q,N,rfl,K⟩:=E.cell k hlt;have U:(0:Int)<=k/\(k:Int)<m:=by omega
   have I:eqs R S (k+1)=(eqs R S k&&(R.getD k 0==S.getD k 0)):=rfl;have HS:=yH I;have L:=yH (show ¬R.getD k 0=S.getD k 0->¬R=S from fun h h3=>h (by rw [h3]));clear I;generalize R.getD k 0=x at *;generalize S.getD k 0=y at *;by_cases hxy:x=y
   ·subst hxy;go_upto_region 6 with fail
    go_quiet (fail)
    go_wp2_with fail
    go_roundw
    case rel=>exact ⟨k+1,j+nq,by omega,by go_num,by rw [HS.out,HL.out];simp,rfl⟩
    case measure=>simp [intOf];omega
   ·have b1:(x !=y)=true:=by simpa using hxy
    go_upto_region 6 with fail
    go_quiet (fail)
    go_wp2_with fail
    go_ret;exact ⟨x0e (L.out hxy),j+nq,by first | rfl | (simp only [World.drewN];done) | simp [World.drewN_drewN]⟩
  ·obtain rfl:k=m:=by omega
   have G:=HL.out;rw [C.size] at G;have M:=yH (y5R (C.size.symm.trans E.size) G);clear G;go_wp2_with fail
   go_ret;exact ⟨x7Q M,_,rfl⟩
theorem x4P (p q r s:Option Addr) (n c m e k f l g:Nat) (R S T U:List Int) (w:World) (h1:Ints w p n c R) (h2:Ints w q m e S) (h3:Ints w r k f T) (h4:Ints w s l g U)
  (hn:n<=9223372036854775807) (hm:m<=9223372036854775807):
  Calls Tryz.prog 137 #[.agg #[.slice p n c,.slice q m e],.agg #[.slice r k f,.slice s l g]] w fun e w'=>e= .returned (.bool (decide (R=T/\S=U)))/\Below w.heap.size w w':=by
 have B:=jA w (.cells #[.slice p n c,.slice q m e] 32);have C:(w.alloc (.cells #[.slice p n c,.slice q m e] 32)).heap.size=w.heap.size+1:=by simp
 obtain ⟨M,N⟩:=x0a w (.slice p n c) (.slice q m e) 32
 go_enter Tryz.func137,Tryz.ntmps137
 go_upto_region 1 with fail
 generalize w.alloc (.cells #[.slice p n c,.slice q m e] 32)=w1 at *;have A:=jA w1 (.cells #[.slice r k f,.slice s l g] 32);obtain ⟨b0,b1⟩:=x0a w1 (.slice r k f) (.slice s l g) 32;rw [C] at b0 b1;have X:=(A.cell (p:=⟨w.heap.size,0,none⟩) (by show w.heap.size<_;omega)).trans M;have J:=(A.cell (p:=⟨w.heap.size,1,none⟩) (by show w.heap.size<_;omega)).trans N;have P:=yH ((h1.later B).later A);have Y:=yH ((h2.later B).later A);have O:=yH ((h3.later B).later A);have d:=yH ((h4.later B).later A);have I:=yH (B.trans (A.mono (by omega)));generalize w1.alloc (.cells #[.slice r k f,.slice s l g] 32)=w2 at *;clear B C M N A h1 h2 h3 h4;clear w1;by_cases hRT:R=T
 case neg=>
  have Q:=yH (show ¬(R=T/\S=U) from fun h=>hRT h.1);have L:=yH hRT;clear hRT;go_wp2_with fail
  refine (x3D p r n c k f R T w2 P O hn).mono ?_;rintro _ K ⟨rfl,j,rfl⟩;rw [kE L.out];go_wp2_with fail
  go_ret;exact ⟨x0e Q,Below.drewN I _⟩
 have i:=yH (show decide (S=U)=decide (R=T/\S=U) from decide_eq_decide.2 ⟨fun h=>⟨hRT,h⟩,fun h=>h.2⟩);have L:=yH hRT;clear hRT;go_wp2_with fail
 refine (x3D p r n c k f R T w2 P O hn).mono ?_;rintro _ K ⟨rfl,j,G⟩;have E:=yH (show Below w2.heap.size w2 K by rw [G];exact Below.drewN (jC _ _) _);have v:=(E.cell (p:=⟨w.heap.size,1,none⟩) (jI J)).trans J;have u:=(E.cell (p:=⟨w.heap.size+1,1,none⟩) (jI b1)).trans b1;have Z:=yH (Y.later E);have W:=yH (d.later E);have t:=yH (I.trans (E.mono I.size));clear G X J b0 b1;rw [kF L.out];go_wp2_with fail
 refine (x3D q s m e l g S U K Z W hm).mono ?_;rintro _ a ⟨rfl,x,H⟩;have o:=yH (show Below w.heap.size w a by rw [H];exact Below.drewN t _);clear H;go_wp2_with fail
 go_ret;exact ⟨congrArg (fun b=>Ending.returned (.bool b)) i,o.out⟩
theorem x5f (a b:Kd) (w:World) (ha:a.Ok w) (hb:b.Ok w):
  Calls Tryz.prog 83 #[.agg a.cells.toArray,.agg b.cells.toArray] w fun e w'=>e= .returned (.bool (decide (a.pk=b.pk)))/\Below w.heap.size w w':=by
 have X:=jA w (.cells a.cells.toArray 34);have Z:=jE w (.cells a.cells.toArray 34);have o:(w.alloc (.cells a.cells.toArray 34)).heap.size=w.heap.size+1:=by simp
 have M:Below (w.heap.size+1) (w.alloc (.cells a.cells.toArray 34)) ((w.alloc (.cells a.cells.toArray 34)).alloc (.cells b.cells.toArray 34)):=(jC _ _).alloc (by omega) _;have d:=jE (w.alloc (.cells a.cells.toArray 34)) (.cells b.cells.toArray 34);rw [o] at d;have B:=X.trans (M.mono (by omega));have Z:=(M.block w.heap.size (by omega)).trans Z;have f:=yH ha;have J:=yH hb;clear ha hb X M o
 go_enter Tryz.func83,Tryz.ntmps83
 go_upto_region 1 with fail
 generalize (w.alloc (.cells a.cells.toArray 34)).alloc (.cells b.cells.toArray 34)=W at *;have G:=yH (x0N Z f.len);have E:=yH (x0N d J.len);have A:=yH (f.later B);have C:=yH (J.later B);have P:=yH f.len;have O:=yH J.len;have L:=yH B;have U:=yH (pk_eq a b);have m:(Op.equalIn 10000 30 (.agg (u8s a.sum)) (.agg (u8s b.sum))).run Tryz.prog W= .ok (decide (a.sum=b.sum)) W:=x4w a.sum b.sum P O 9998 W;have u:=G.live;have y:=G.size;have q:=G.lo;have a5:=G.hi;have c:=G.key;have v:=E.live;have s:=E.size;have c4:=E.lo;have t:=E.hi;have Y:=E.key;simp only [Nat.zero_add] at u y q a5 c v s c4 t Y;clear Z d B;by_cases h1:a.sum=b.sum
 case neg=>
  rw [kE h1] at m;have K:=yH (fun h=>h1 (U.1 h).1);clear h1;go_wp2_with (first | (refine jK (by rfl) 30 _ (by rfl) _ 0 (by rfl) (vals a.sum) _ G.sum A25 (by rfl) (by rw [x00,P.out];exact S25) ?_;rw [x07]) | (refine jK (by rfl) 30 _ (by rfl) _ 0 (by rfl) (vals b.sum) _ E.sum A25 (by rfl) (by rw [x00,O.out];exact S25) ?_;rw [x07]))
  go_ret;exact ⟨x0e K,L.out⟩
 rw [kF h1] at m;have x:=yH h1;clear h1;by_cases h2:a.live=b.live
 case neg=>
  have k:(a.live==b.live)=false:=by simp [h2]
  have K:=yH (fun h=>h2 (U.1 h).2.1);clear h2;go_wp2_with (first | (refine jK (by rfl) 30 _ (by rfl) _ 0 (by rfl) (vals a.sum) _ G.sum A25 (by rfl) (by rw [x00,P.out];exact S25) ?_;rw [x07]) | (refine jK (by rfl) 30 _ (by rfl) _ 0 (by rfl) (vals b.sum) _ E.sum A25 (by rfl) (by rw [x00,O.out];exact S25) ?_;rw [x07]))
  go_ret;exact ⟨x0e K,L.out⟩
 have k:(a.live==b.live)=true:=by simp [h2]
 have z:=yH h2;clear h2;by_cases h3:a.size=b.size
 case neg=>
  have l:(a.size==b.size)=false:=by simp [h3]
  have K:=yH (fun h=>h3 (U.1 h).2.2.1);clear h3;go_wp2_with (first | (refine jK (by rfl) 30 _ (by rfl) _ 0 (by rfl) (vals a.sum) _ G.sum A25 (by rfl) (by rw [x00,P.out];exact S25) ?_;rw [x07]) | (refine jK (by rfl) 30 _ (by rfl) _ 0 (by rfl) (vals b.sum) _ E.sum A25 (by rfl) (by rw [x00,O.out];exact S25) ?_;rw [x07]))
  go_ret;exact ⟨x0e K,L.out⟩
 have l:(a.size==b.size)=true:=by simp [h3]
 have r:=yH h3;clear h3;by_cases h4:a.lo.R=b.lo.R/\a.hi.R=b.hi.R
 case neg=>
  have K:=yH (fun h=>h4 (U.1 h).2.2.2.1);have j:=yH (kE h4);clear h4;go_wp2_with (first | (refine jK (by rfl) 30 _ (by rfl) _ 0 (by rfl) (vals a.sum) _ G.sum A25 (by rfl) (by rw [x00,P.out];exact S25) ?_;rw [x07]) | (refine jK (by rfl) 30 _ (by rfl) _ 0 (by rfl) (vals b.sum) _ E.sum A25 (by rfl) (by rw [x00,O.out];exact S25) ?_;rw [x07]) | (refine (x4P _ _ _ _ _ _ _ _ _ _ _ _ _ _ _ _ W A.lo.ints A.hi.ints C.lo.ints C.hi.ints A.lo.top A.hi.top).mono ?_;rintro _ n ⟨rfl,H⟩;rw [j.out];have N:=yH (L.trans (H.mono L.size));clear H))
  go_ret;exact ⟨x0e K,N.out⟩
 have j:=yH (kF h4);have g:=yH h4;clear h4;have I:=U.out;have HP:=yH (show decide (a.pk=b.pk)=decide (a.key.R=b.key.R) from by
  rw [Bool.eq_iff_iff,jY,jY,I];exact ⟨fun h=>h.2.2.2.2,fun h=>⟨x.out,z.out,r.out,g.out,h⟩⟩)
 clear I;go_wp2_with (first | (refine jK (by rfl) 30 _ (by rfl) _ 0 (by rfl) (vals a.sum) _ G.sum A25 (by rfl) (by rw [x00,P.out];exact S25) ?_;rw [x07]) | (refine jK (by rfl) 30 _ (by rfl) _ 0 (by rfl) (vals b.sum) _ E.sum A25 (by rfl) (by rw [x00,O.out];exact S25) ?_;rw [x07]) | (refine (x4P _ _ _ _ _ _ _ _ _ _ _ _ _ _ _ _ W A.lo.ints A.hi.ints C.lo.ints C.hi.ints A.lo.top A.hi.top).mono ?_;rintro _ n ⟨rfl,H⟩;rw [j.out];have e6:=(H.cell (jI c)).trans c;have f6:=(H.cell (jI Y)).trans Y;have N:=yH (L.trans (H.mono L.size));have Q:=yH (A.later H);have i:=yH (C.later H);clear H c Y) | (refine (x3D _ _ _ _ _ _ _ _ n Q.key.ints i.key.ints Q.key.top).mono ?_;rintro _ w6 ⟨rfl,p,rfl⟩))
 rw [HP.out];go_ret;exact ⟨rfl,Below.drewN N p⟩
theorem x21 (a:Kd) (w:World) (ha:a.Ok w):
  Calls Tryz.prog 24 #[.agg a.cells.toArray] w fun e w'=>e= .returned (.bool (decide (a.pk=PK.none)))/\Below w.heap.size w w':=by
 have A:=jA w (.cells a.cells.toArray 34);have G:=jE w (.cells a.cells.toArray 34);obtain ⟨d,I,B⟩:=UKd;have H:=yH ha;have M:=yH I;have C:=yH B;clear ha I B
 go_enter Tryz.func24,Tryz.ntmps24
 go_upto_region 1 with fail
 generalize w.alloc (.cells a.cells.toArray 34)=W at *;have N:=yH (x0E G);have E:=yH (H.later A);have L:=yH (Kd.cells_length H.len);have J:=yH A;clear G A;go_wp2_with (first
  | (refine jK (by rfl) 34 _ (by rfl) _ 0 (by rfl) a.cells d N M C (by rw [L.out];exact SKd) ?_)
  | (refine x05 (by rfl) (by rfl) x0T ?_)
  | (refine (x5f a kd0 W E (x24 W)).mono ?_;rintro _ O ⟨rfl,K⟩;rw [x9w]))
 go_ret;exact ⟨rfl,J.trans (K.mono J.size)⟩
end Nd
section
open Go.RowKit
def BoxAt (w:World) (B:Nat) (p:Option Addr) (n c:Nat) (q:Option Addr) (m d:Nat):Prop:=w.cell? ⟨B,0,none⟩=some (.slice p n c)/\w.cell? ⟨B,1,none⟩=some (.slice q m d)
theorem x4Q {F:Nat} {fn:Func} {c:Code} (hf:Tryz.prog.funcs[F]? =some fn) (hname:(fn.name== "runtime.NumGoroutine")=false) (hb:fn.body=some c):∀args w,(callFunc F args).run Tryz.prog w= .ok (.enter F args) w:=fun args w=>by
 have h1:fn.name≠ "runtime.NumGoroutine" :=by simpa using hname
 simp [callFunc,hf,h1,hb,mark]
theorem boxed (w:World) (v:Value) (t:TypeId):(w.alloc (.cells #[v] t)).cell? ⟨w.heap.size,0,none⟩=some v:=jH _ _ 0 _ t (0,0) (jE w _)
theorem x3W (d:Int) (w:World):
  Calls Tryz.prog 174 #[.int .i64 d] w fun e w'=>e= .returned (.bool (decide (1<=d/\d<=8)))/\w=w':=by
 by_cases h1:1<=d
 ·by_cases h2:d<=8
  ·go_enter Tryz.func174,Tryz.ntmps174
   go_wp2_with fail
   go_ret;exact ⟨x7Q ⟨h1,h2⟩,rfl⟩
  ·go_enter Tryz.func174,Tryz.ntmps174
   go_wp2_with fail
   go_ret;exact ⟨x0e (by omega),rfl⟩
 ·go_enter Tryz.func174,Tryz.ntmps174
  go_wp2_with fail
  go_ret;exact ⟨congrArg (fun b=>Ending.returned (.bool b)) (by rw [kE (show ¬1<=d by omega)];rfl),rfl⟩
def alls (f:Nat->Bool):Nat->Bool
 | 0=>true
 | k+1=>alls f k&&f k
theorem x9x (f:Nat->Bool):∀n,alls f n=true↔∀k,k<n->f k=true
 | 0=>⟨fun _ k hk=>by omega,fun _=>rfl⟩
 | n+1=>by
  show (alls f n&&f n)=true↔_
  rw [Bool.and_eq_true,x9x f n]
  constructor
  ·rintro ⟨h1,h2⟩ k hk
   by_cases hkn:k=n
   ·rw [hkn];exact h2
   ·exact h1 k (by omega)
  ·intro h
   exact ⟨fun k hk=>h k (by omega),h n (by omega)⟩
theorem y0t {f:Nat->Bool} {k n:Nat} (hk:k<n) (h:f k=false):alls f n=false:=by
 cases e:alls f n with
 | false=>rfl
 | true=>rw [(x9x f n).1 e k hk] at h;cases h
theorem x9y (R S:List Int):∀n,alls (fun k=>decide (R.getD k 0<=S.getD k 0)) n=les R S n
 | 0=>rfl
 | n+1=>by
  show (alls _ n&&_)=(les R S n&&_)
  rw [x9y R S n]
def Asks (w:World) (n:Nat) (f:Nat->Bool) (F:Nat) (cap:Array Value):Prop:=
 ∀(k:Nat) (w':World),k<n->Below w.heap.size w w'->Calls Tryz.prog F (#[.int .i64 k]++cap) w' fun e w''=>e= .returned (.bool (f k))/\∃j,w''=w'.drewN j
def y5o (w:World) (f:Nat->Bool) (n:Nat) (i:Value) (wr:World):Prop:=∃k j:Nat,k<=n/\i= .int .i64 k/\alls f k=true/\wr=w.drewN j
theorem y3v (n:Nat) (hn:n<9223372036854775807) (f:Nat->Bool) (F:Nat) (cap:Array Value) (hF:∀args w,(callFunc F args).run Tryz.prog w= .ok (.enter F args) w) (w:World) (hs:Asks w n f F cap):
  Calls Tryz.prog 175 #[.int .i64 n,.func (.func F) #[] cap] w fun e w'=>e= .returned (.bool (alls f n))/\∃j,w'=w.drewN j:=by
 have H:=yH hs;clear hs
 go_enter Tryz.func175,Tryz.ntmps175
 go_wp2_with fail
 go_loopw [7] (fun i wr=>y5o w f n i wr) (fun i _=>n - (intOf i).toNat)
 case atStart=>exact ⟨0,0,by omega,rfl,rfl,rfl⟩
 case round=>
  obtain ⟨k,j,I,rfl,B,rfl⟩:=hrel;have G:=yH B;clear B;by_cases hlt:k<n
  ·have A:=H.out k (w.drewN j) hlt (Below.drewN (jC _ _) j);cases hfk:f k with
   | false=>
    rw [hfk] at A;have C:=yH A;have HX:=yH (y0t hlt hfk);clear A hfk;go_wp2_with (refine C.mono ?_;rintro e E ⟨rfl,j2,rfl⟩)
    go_ret;exact ⟨congrArg (fun b=>Ending.returned (.bool b)) HX.symm,j+j2,rfl⟩
   | true=>
    rw [hfk] at A;have C:=yH A;have HX:=yH (show alls f (k+1)=true by show (alls f k&&f k)=true;rw [G.out,hfk];rfl);clear A hfk;go_wp2_with (refine C.mono ?_;rintro e E ⟨rfl,j2,rfl⟩)
    go_roundw
    case rel=>exact ⟨k+1,j+j2,by omega,by go_num,HX.out,rfl⟩
    case measure=>simp [intOf];omega
  ·obtain rfl:k=n:=by omega
   go_wp2_with fail
   go_ret;exact ⟨congrArg (fun b=>Ending.returned (.bool b)) G.symm,j,rfl⟩
theorem y23 (B:Nat) (p q:Option Addr) (n c m e:Nat) (R S:List Int) (k:Nat) (hk:k<n) (hm:k<m) (w:World) (hB:BoxAt w B p n c q m e) (h:Ints w p n c R) (h2:Ints w q m e S):
  Calls Tryz.prog 176 #[.int .i64 k,.pointer (some ⟨B,0,none⟩)] w fun e w'=>e= .returned (.bool (decide (R.getD k 0<=S.getD k 0)))/\∃j,w'=w.drewN j:=by
 obtain ⟨A,C⟩:=hB;obtain ⟨g,o,rfl,I⟩:=h.cell k hk;obtain ⟨G,J,rfl,E⟩:=h2.cell k hm;clear h h2;generalize R.getD k 0=x at *;generalize S.getD k 0=y at *;have b1:(0:Int)<=k/\(k:Int)<n:=by omega
 have H:(0:Int)<=k/\(k:Int)<m:=by omega
 go_enter Tryz.func176,Tryz.ntmps176
 go_wp2_with fail
 go_quiet (fail)
 go_wp2_with fail
 go_ret;exact ⟨rfl,_,rfl⟩
theorem x2f (p q:Option Addr) (n c m e:Nat) (R S:List Int) (d:Int) (w:World) (h:Ints w p n c R) (h2:Ints w q m e S):
  Calls Tryz.prog 123 #[.agg #[.slice p n c,.slice q m e],.int .i64 d] w fun e w'=>e= .returned (.bool (x0g R S n m d))/\Below w.heap.size w w':=by
 have A:=jA w (.cells #[.slice p n c,.slice q m e] 32);obtain ⟨L,N⟩:=x0a w (.slice p n c) (.slice q m e) 32;have K:=yH (h.later A);have M:=yH (h2.later A);have G:=yH A;clear h h2 A;have B:=x3W d;by_cases hd:1<=d/\d<=8
 case neg=>
  rw [kE hd] at B;have C:=yH B;rw [x1N (by omega)];clear B hd
  go_enter Tryz.func123,Tryz.ntmps123
  go_wp2_with ((go_at_call 174;refine (C.out _).mono ?_;rintro _ w' ⟨rfl,rfl⟩))
  go_ret;exact ⟨rfl,G.out⟩
 rw [kF hd] at B;have C:=yH B;clear B;by_cases hn:(n:Int)=d
 case neg=>
  rw [x1N (fun h=>hn h.2.2.1)];have J:((n:Int)==d)=false:=by simpa using hn
  clear hd hn
  go_enter Tryz.func123,Tryz.ntmps123
  go_wp2_with ((go_at_call 174;refine (C.out _).mono ?_;rintro _ w' ⟨rfl,rfl⟩))
  go_ret;exact ⟨rfl,G.out⟩
 subst hn;by_cases hm:(m:Int)=n
 case neg=>
  rw [x1N (fun h=>hm h.2.2.2)];have J:((m:Int)==n)=false:=by simpa using hm
  clear hd hm
  go_enter Tryz.func123,Tryz.ntmps123
  go_wp2_with ((go_at_call 174;refine (C.out _).mono ?_;rintro _ w' ⟨rfl,rfl⟩))
  go_ret;exact ⟨rfl,G.out⟩
 obtain rfl:m=n:=by omega
 rw [x6c (by omega)];have H:m<9223372036854775807:=by omega
 clear hm hd
 go_enter Tryz.func123,Tryz.ntmps123
 go_upto_region 1 with fail
 have E:w.heap.size<(w.alloc (.cells #[.slice p m c,.slice q m e] 32)).heap.size:=by simp
 generalize w.alloc (.cells #[.slice p m c,.slice q m e] 32)=w0 at *;have I:=yH (y3v m H (fun k=>decide (R.getD k 0<=S.getD k 0)) 176 #[.pointer (some ⟨w.heap.size,0,none⟩)] (x4Q Tryz.func176 (by kernel_rfl) rfl) w0 (fun k w' hk A=>y23 w.heap.size p q m c m e R S k hk hk w' ⟨(A.cell (p:=⟨w.heap.size,0,none⟩) E).trans L,(A.cell (p:=⟨w.heap.size,1,none⟩) E).trans N⟩ (K.later A) (M.later A)));rw [x9y] at I;go_wp2_with (first | (go_at_call 174;refine (C.out _).mono ?_;rintro _ w' ⟨rfl,rfl⟩) | (go_at_call 175;refine I.mono ?_;rintro _ w' ⟨rfl,j,rfl⟩))
 go_ret;exact ⟨rfl,Below.drewN G _⟩
end
namespace Nd
open Go.RowKit
theorem y3w (R S:List Int):(decide (R=[])&&decide (S=[]))=decide (R.length+S.length=0):=by
 rw [Bool.eq_iff_iff,Bool.and_eq_true,jY,jY,jY,<- jZ,<- jZ];omega
theorem y3x (a:Kd) (dm:Int) (w:World) (ha:a.Ok w):
  Calls Tryz.prog 253 #[.agg a.cells.toArray,.int .i64 dm] w fun e w'=>e= .returned (.bool (a.pk.right dm))/\Below w.heap.size w w':=by
 have K:=jA w (.cells a.cells.toArray 34);have Y:=jE w (.cells a.cells.toArray 34);obtain ⟨d,h,L⟩:=UKd;have U:a.pk.right dm=if a.pk=PK.none then true else if a.size<1\/1048576<a.size\/a.live<0\/a.size<a.live then false else if a.live=0 then decide (a.lo.R.length+a.hi.R.length=0) else x0g a.lo.R a.hi.R a.lo.n a.hi.n dm:=by
  rw [ha.lo.ints.size,ha.hi.ints.size];rfl
 obtain ⟨X,b⟩:∃X,a.pk.right dm=X:=⟨_,rfl⟩
 rw [b] at U;rw [b];have O:=yH U;have P:=yH ha;have j:=yH h;have M:=yH L;clear ha h L U b
 go_enter Tryz.func253,Tryz.ntmps253
 go_upto_region 1 with fail
 generalize w.alloc (.cells a.cells.toArray 34)=W at *;have i:=yH (x0E Y);have H:=yH (x0N Y P.len);have J:=yH (P.later K);have g:=yH (Kd.cells_length P.len);have N:=yH K;clear Y K;by_cases h0:a.pk=PK.none
 ·have A:=O.out;rw [if_pos h0] at A;subst A;have f:=yH (kF h0);clear h0;go_wp2_with (first
   | (refine jK (by rfl) 34 _ (by rfl) _ 0 (by rfl) a.cells d i j M (by rw [g.out];exact SKd) ?_)
   | (refine (x21 a W J).mono ?_;rintro _ c ⟨rfl,G⟩;rw [f.out]))
  go_ret;exact ⟨rfl,N.trans (G.mono N.size)⟩
 have A:=O.out;rw [if_neg h0] at A;have C:=yH A;have f:=yH (kE h0);clear h0 A O;go_upto_region 3 with (first
  | (refine jK (by rfl) 34 _ (by rfl) _ 0 (by rfl) a.cells d i j M (by rw [g.out];exact SKd) ?_)
  | (refine (x21 a W J).mono ?_;rintro _ c ⟨rfl,G⟩;rw [f.out];have l:=(G.cell (jI H.live)).trans H.live;have o:=(G.cell (jI H.size)).trans H.size;have k:=(G.cell (jI H.lo)).trans H.lo;have p:=(G.cell (jI H.hi)).trans H.hi;have B:=yH (N.trans (G.mono N.size));have E:=yH (J.later G);clear G))
 simp only [Nat.zero_add,Rw.val] at l o k p;by_cases h1:a.size<1
 ·have A:=C.out;rw [if_pos (Or.inl h1)] at A;subst A;go_wp2_with fail
  go_ret;exact ⟨rfl,B.out⟩
 by_cases h2:1048576<a.size
 ·have A:=C.out;rw [if_pos (Or.inr (Or.inl h2))] at A;subst A;go_wp2_with fail
  go_ret;exact ⟨rfl,B.out⟩
 by_cases h3:a.live<0
 ·have A:=C.out;rw [if_pos (Or.inr (Or.inr (Or.inl h3)))] at A;subst A;go_wp2_with fail
  go_ret;exact ⟨rfl,B.out⟩
 by_cases h4:a.size<a.live
 ·have A:=C.out;rw [if_pos (Or.inr (Or.inr (Or.inr h4)))] at A;subst A;go_wp2_with fail
  go_ret;exact ⟨rfl,B.out⟩
 have A:=C.out;rw [if_neg (by omega)] at A;by_cases h5:a.live=0
 ·have Z:(a.live==0)=true:=by simp [h5]
  rw [if_pos h5,<- y3w] at A;have I:=yH A;have q:=yH h5;clear h5 A C;go_wp2_with (refine (x4P _ _ _ _ _ _ _ _ _ _ _ _ a.lo.R a.hi.R [] [] c E.lo.ints E.hi.ints (x39 _ _ _) (x39 _ _ _) E.lo.top E.hi.top).mono ?_;rintro _ m ⟨rfl,Q⟩)
  go_ret;exact ⟨by rw [I.out];rfl,B.trans (Q.mono B.size)⟩
 ·have Z:(a.live==0)=false:=by simp [h5]
  rw [if_neg h5] at A;have I:=yH A;clear h5 A C;go_wp2_with (refine (x2f _ _ _ _ _ _ _ _ dm c E.lo.ints E.hi.ints).mono ?_;rintro _ m ⟨rfl,Q⟩)
  go_ret;exact ⟨by rw [I.out];rfl,B.trans (Q.mono B.size)⟩
def AskE (w:World) (E:List En) (f:PE->Bool) (F:Nat) (cap:Array Value):Prop:=
 ∀(e:En) (w':World),e∈E->e.row.Ok w'->Below w.heap.size w w'->Calls Tryz.prog F (#[.agg #[e.row.val,.bool e.live]]++cap) w' fun r w''=>r= .returned (.bool (f e.pe))/\Below w'.heap.size w' w''
def AskK (w:World) (K:List Kd) (f:PK->Bool) (F:Nat) (cap:Array Value):Prop:=
 ∀(k:Kd) (w':World),k∈K->k.Ok w'->Below w.heap.size w w'->Calls Tryz.prog F (#[.agg k.cells.toArray]++cap) w' fun r w''=>r= .returned (.bool (f k.pk))/\Below w'.heap.size w' w''
theorem x9z {α β:Type} [Inhabited α] (g:α->β) (f:β->Bool) (L:List α) (k:Nat) (h:k<L.length):allT f (L.map g) (k+1)=(allT f (L.map g) k&&f (g (L.getD k default))):=by
 unfold allT;rw [<- List.map_take,<- List.map_take,List.take_succ_eq_append_getElem h,List.map_append,List.all_append,jG,jM h];simp
theorem x3r {α β:Type} [Inhabited α] (g:α->β) (f:β->Bool) (L:List α) (k:Nat) (h:k<L.length) (hf:f (g (L.getD k default))=false):(L.map g).all f=false:=by
 rw [List.all_eq_false];refine ⟨g L[k],kJ.2 ⟨_,kM h,rfl⟩,?_⟩;rw [jG,jM h] at hf
 simpa using hf
theorem x6f {α β:Type} (g:α->β) (f:β->Bool) (L:List α):allT f (L.map g) L.length=(L.map g).all f:=by
 have:=y3r f (L.map g)
 rwa [kH] at this
def EaRel {α:Type} (w:World) (n:Nat) (f:α->Bool) (L:List α) (i:Value) (wr:World):Prop:=∃k:Nat,k<=n/\i= .int .i64 k/\allT f L k=true/\Below w.heap.size w wr
theorem UEn0:(Tryz.prog.underlying 101).map (·.isRow)=some true:=by kernel_rfl
theorem UEn:∃d,Tryz.prog.underlying 101=some d/\d.isRow=true:=by
 have h:=UEn0
 revert h
 cases Tryz.prog.underlying 101 with
 | none=>intro h;cases h
 | some d=>intro h;exact ⟨d,rfl,by simpa using h⟩
theorem SEn:(Tryz.prog.info? 101).map (·.size)=some 2:=by kernel_rfl
theorem x8F (p:Option Addr) (n c:Nat) (E:List En) (f:PE->Bool) (F:Nat) (cap:Array Value) (hF:∀args w,(callFunc F args).run Tryz.prog w= .ok (.enter F args) w) (w:World) (hE:EntsIn w p n c E) (hs:AskE w E f F cap):
  Calls Tryz.prog 249 #[.slice p n c,.func (.func F) #[] cap] w fun e w'=>e= .returned (.bool ((E.map En.pe).all f))/\Below w.heap.size w w':=by
 have Y:=yH hs;have a:=yH hE;have R:=yH hE.size;have K:=yH hE.top;clear hs hE
 go_enter Tryz.func249,Tryz.ntmps249
 go_wp2_with fail
 go_loopw [9] (fun i wr=>EaRel w n f (E.map En.pe) i wr) (fun i _=>n - (intOf i).toNat)
 case atStart=>exact ⟨0,by omega,rfl,rfl,jC _ _⟩
 case round=>
  obtain ⟨k,h,rfl,L,U⟩:=hrel;have W:=yH L;have I:=yH U;have X:=K.out;clear L U;by_cases hlt:k<n
  ·obtain ⟨g,o,rfl,d,l,J⟩:=(a.later I).get k hlt;have j:(0:Int)<=k/\(k:Int)<n:=by omega
   have A:k<E.length:=by rw [<- R.out];exact hlt
   have P:=yH (x9z En.pe f E k A);have N:=yH (x3r En.pe f E k A);have G:=getD_mem E k A;generalize E.getD k default=e at *;have C:=jA wr (.cells #[e.row.val,.bool e.live] 101);have H:=Y.out e _ G (J.later C) (I.trans (C.mono I.size));have B:=yH (I.trans (C.mono I.size));simp only [Rw.val] at d;unfold Rw.val at H B;clear J G C;go_upto_region 4 with fail
   obtain ⟨m,q⟩:=x0a wr (.slice e.row.p e.row.n e.row.c) (.bool e.live) 101;generalize wr.alloc (.cells #[.slice e.row.p e.row.n e.row.c,.bool e.live] 101)=w1 at *;cases hfk:f e.pe with
   | false=>
    rw [hfk] at H;have Q:=yH H;have HXX:=yH (N.out hfk);clear H hfk N P;go_wp2_with (refine Q.mono ?_;rintro e O ⟨rfl,M⟩)
    go_ret;exact ⟨congrArg (fun b=>Ending.returned (.bool b)) HXX.symm,B.trans (M.mono B.size)⟩
   | true=>
    rw [hfk] at H;have Q:=yH H;have HXX:=yH (show allT f (E.map En.pe) (k+1)=true by rw [P.out,W.out,hfk];rfl);clear H hfk N P;go_wp2_with (refine Q.mono ?_;rintro e O ⟨rfl,M⟩;have HB2:=yH (B.trans (M.mono B.size));clear M)
    go_roundw
    case rel=>exact ⟨k+1,by omega,by go_num,HXX.out,HB2.out⟩
    case measure=>simp [intOf];omega
  ·obtain rfl:n=k:=by omega
   have Z:=yH (show allT f (E.map En.pe) n=(E.map En.pe).all f from by rw [R.out];exact x6f En.pe f E);go_wp2_with fail
   go_ret;exact ⟨congrArg (fun b=>Ending.returned (.bool b)) (by rw [<- Z.out,W.out]),I.out⟩
end Nd
namespace Wl
open Go.RowKit
structure Out (w0 w:World) (v:Value) (n:Nat) (B:List Nat):Prop where
 len:n=B.length
 own:w.ownsRow w0.heap.size 5 1 v n (vals B)
 ok:Sm.allB B
 low:Below w0.heap.size w0 w
theorem Out.none (w:World):Out w w (.slice none 0 0) 0 []:=⟨rfl,World.ownsRow_nil w w.heap.size 5 1,(fun x hx=>by cases hx),jC _ _⟩
theorem Out.later {w0 w w':World} {v:Value} {n:Nat} {B:List Nat} (h:Out w0 w v n B) (hb:Below w.heap.size w w'):Out w0 w' v n B:=⟨h.len,x4J h.own hb,h.ok,h.low.trans (hb.mono h.low.size)⟩
theorem Out.put {w0 w1 w7:World} {v v7:Value} {n:Nat} {B P:List Nat} {m:Nat} (h:Out w0 w1 v n B) (hP:Sm.allB P) (hm:P.length=m) (hown:w7.ownsRow w0.heap.size 5 1 v7 (n+m) (vals B++vals P)) (hg:w1.grownBy w7 v.ownBlock):Out w0 w7 v7 (n+m) (B++P):=
 ⟨by rw [jQ,hm,h.len],by rw [x0w];exact hown,(fun x hx=>by
  rcases jP.1 hx with hx | hx
  ·exact h.ok x hx
  ·exact hP x hx),h.low.grown hg h.low.size (fun k hk=>(h.own.lt k hk).1)⟩
theorem Out.form {w0 w:World} {v:Value} {n:Nat} {B:List Nat} (h:Out w0 w v n B):∃q c,v= .slice q n c:=by
 rcases h.own.2 with ⟨rfl,E⟩ | ⟨g,A,C,rfl,_⟩
 ·exact ⟨Option.none,0,by rw [E]⟩
 ·exact ⟨_,A,rfl⟩
theorem Out.tx {w0 w:World} {q:Option Addr} {n c:Nat} {B:List Nat} (h:Out w0 w (.slice q n c) n B):Tx w q n c B:=x0K h.own h.ok
theorem x8G {w:World} {base base' n size:Nat} {e:TypeId} {v:Value} {xs:List Value} (h:w.ownsRow base e size v n xs) (hb:base'<=base):w.ownsRow base' e size v n xs:=
 ⟨h.1,h.2.imp id fun ⟨g,cap,cur,hv,hg,r⟩=>⟨g,cap,cur,hv,jJ hb hg,r⟩⟩
end Wl
section
open Go.RowKit
structure Rd where
 R:List Nat
 e:Nat
theorem Tx.grown {w w':World} {p:Option Addr} {n c:Nat} {B:List Nat} (h:Tx w p n c B) {g:Nat} (hg:w.grownBy w' (some g)) (hn:∀x,p=some x->B≠[]->x.block≠g):Tx w' p n c B:=
 ⟨h.size,h.le,h.ok,h.at'.imp id fun ⟨x,hp,hx⟩=>⟨x,hp,fun j u hu=>by
  have h1:=hx j u hu
  have hB:B≠[]:=by rintro rfl;simp [vals] at hu
  have A:(x.add j).block=x.block:=by cases x;simp [Addr.add];split<;>rfl
  rw [jX (w:=w) (hg.block _ (jI h1) (by rw [A];intro e;exact hn x hp hB (by simpa using e)))]
  exact h1⟩,h.sp⟩
theorem y5p (x:Addr) (n j:Nat):(x.add n).add j=x.add (n+j):=by
 simp only [Addr.add];by_cases h1:n=0
 ·subst h1;simp
 ·by_cases h2:j=0
  ·subst h2;simp
  ·rw [if_neg h1,if_neg h2,if_neg (by omega)];simp [Nat.add_assoc]
theorem y24 (B:List Nat) (n:Nat):vals (B.take n)=(vals B).take n:=by simp [vals]
theorem Tx.take {w:World} {p:Option Addr} {m c:Nat} {B:List Nat} (h:Tx w p m c B) (n:Nat) (hn:n<=m):Tx w p n c (B.take n):=
 ⟨by have:=h.size;rw [kX];omega,jJ hn h.le,fun x hx=>h.ok x (List.mem_of_mem_take hx),h.at'.imp id fun ⟨x,hp,hx⟩=>⟨x,hp,fun j u hu=>hx j u (by
  rw [y24] at hu
  rw [List.getElem?_take] at hu
  split at hu
  ·exact hu
  ·cases hu)⟩,h.sp⟩
theorem Tx.drop {w:World} {p:Option Addr} {m c:Nat} {B:List Nat} (h:Tx w p m c B) (n:Nat) (hn:n<=m):Tx w (Option.map (fun x=>x.add n) p) (m - n) (c - n) (B.drop n):=by
 have H:=h.size;have G:=h.le;refine ⟨by rw [kY];omega,by omega,fun x A=>h.ok x (List.mem_of_mem_drop A),?_,?_⟩
 ·rcases h.at' with ⟨C,E⟩ | ⟨x,C,A⟩
  ·subst C;subst E;exact Or.inl ⟨rfl,by omega⟩
  ·subst C;refine Or.inr ⟨x.add n,rfl,fun j u hu=>?_⟩;rw [y5p];refine A (n+j) u ?_;rw [y1o,List.getElem?_drop] at hu;exact hu
 ·intro x A E;cases p with
  | none=>cases A
  | some y=>
   simp at A;subst A;simp only [Addr.add];split
   ·exact h.sp y rfl (by omega)
   ·rfl
theorem Tx.nothing {w:World} {p:Option Addr} {m c:Nat} {B:List Nat} (h:Tx w p m c B):Tx w p 0 0 []:=
 ⟨rfl,jB _,fun x hx=>by simp at hx,by
  cases p with
  | none=>exact Or.inl ⟨rfl,rfl⟩
  | some x=>exact Or.inr ⟨x,rfl,fun j u hu=>by simp [vals] at hu⟩,fun _ _ h=>by omega⟩
theorem y5q {g:Nat} {p:Option Addr} {B:List Nat} (h:∀x,p=some x->B≠[]->x.block<g) (n:Nat):∀x,Option.map (fun x=>x.add n) p=some x->B.drop n≠[]->x.block<g:=by
 intro x hx hB;cases p with
 | none=>cases hx
 | some y=>
  simp only [Option.map_some,Option.some.injEq] at hx;subst hx;have:(y.add n).block=y.block:=by cases y;simp [Addr.add];split<;>rfl
  rw [this];exact h y rfl (by rintro rfl;simp at hB)
def Rd.refuse (s:Rd) (k:Nat):Rd:=if s.e=0 then ⟨s.R,k⟩ else s
def Rd.fits (s:Rd) (n:Nat):Prop:=s.e=0/\n<=s.R.length
instance (s:Rd) (n:Nat):Decidable (s.fits n):=by unfold Rd.fits;infer_instance
def Rd.part (s:Rd) (n:Nat):List Nat:=if s.fits n then s.R.take n else []
def Rd.past (s:Rd) (n:Nat):Rd:=if s.fits n then ⟨s.R.drop n,0⟩ else s.refuse 20
theorem x4R (w:World) (r:Option Nat):w.grownBy w r:=⟨rfl,rfl,rfl,jB _,fun _ _ _=>rfl⟩
theorem y5T (w:World):Tx w none 0 0 []:=⟨rfl,jB _,fun x hx=>by simp at hx,Or.inl ⟨rfl,rfl⟩,fun _ h _=>by cases h⟩
theorem Rd.past_len (s:Rd) (n:Nat):(s.past n).R.length<=s.R.length:=by
 unfold Rd.past Rd.refuse;split
 ·simp
 ·split<;>simp
theorem Rd.refuse_len (s:Rd) (n:Nat):(s.refuse n).R.length<=s.R.length:=by
 unfold Rd.refuse;split<;>simp
theorem Rd.part_ok {s:Rd} (h:Sm.allB s.R) (n:Nat):Sm.allB (s.part n):=by
 unfold Rd.part;split
 ·exact fun x hx=>h x (List.mem_of_mem_take hx)
 ·intro x hx;simp at hx
theorem Rd.part_len (s:Rd) (n:Nat):(s.part n).length<=n:=by
 unfold Rd.part;split
 ·rw [kX];omega
 ·simp
theorem y25 (B:List Nat) (k:Nat) (h:k<B.length):B.take (k+1)=B.take k++[B.getD k 0]:=by
 rw [List.take_succ_eq_append_getElem h,jG,jM h];rfl
theorem y79 (k:Nat) (h:k<=7):256^k<=72057594037927936:=jJ (Nat.pow_le_pow_right (by omega) h) (by decide)
theorem val1 {s:Rd} (h:Sm.allB s.R):Cm.val (s.part 1)<256:=by
 have B:=Cm.val_lt (Rd.part_ok h 1);have A:256^(s.part 1).length<=256^1:=Nat.pow_le_pow_right (by omega) (Rd.part_len s 1);exact jO B (jJ A (by decide))
def Rd.count (s:Rd) (most:Int):Rd:=if min most 1048576<(Cm.val (s.part 3):Nat) then (s.past 3).refuse 10 else s.past 3
def Rd.countV (s:Rd) (most:Int):Int:=if min most 1048576<(Cm.val (s.part 3):Nat) then 0 else (Cm.val (s.part 3):Nat)
theorem val3 {s:Rd} (h:Sm.allB s.R):Cm.val (s.part 3)<16777216:=by
 have B:=Cm.val_lt (Rd.part_ok h 3);have A:256^(s.part 3).length<=256^3:=Nat.pow_le_pow_right (by omega) (Rd.part_len s 3);exact jO B (jJ A (by decide))
theorem x3s (P R:List Nat) (n:Nat) (h:P.length=n):(Rd.mk (P++R) 0).part n=P/\(Rd.mk (P++R) 0).past n=⟨R,0⟩:=by
 have A:(Rd.mk (P++R) 0).fits n:=⟨rfl,by simp;omega⟩
 unfold Rd.part Rd.past;rw [if_pos A,if_pos A];subst h;exact ⟨List.take_left' rfl,by rw [show (Rd.mk (P++R) 0).R=P++R from rfl,List.drop_left' rfl]⟩
theorem x1h {w w':World} (hb:Below w.heap.size w w') (r:Option Nat):w.grownBy w' r:=⟨hb.os,hb.tape,hb.output,hb.size,fun k hk _=>hb.block k hk⟩
theorem x19 {w w':World} {r:Option Nat} (h:w.grownBy w' r) {B:Nat} (hB:w.heap.size<=B) {w'':World} (hb:Below B w' w'') (hs:w'.heap.size<=w''.heap.size):w.grownBy w'' r:=
 ⟨hb.os.trans h.os,hb.tape.trans h.tape,hb.output.trans h.output,jJ h.size hs,fun k hk hne=>(hb.block k (by omega)).trans (h.block k hk hne)⟩
theorem x3f {w w':World} {g B:Nat} (h:w.grownBy w' (some g)) (hB:B<=g) (hs:B<=w.heap.size:=by omega):Below B w w':=
 ⟨h.os,h.tape,h.output,h.size,fun k hk=>h.block k (by omega) (by simp;omega)⟩
theorem x1v {w:World} {base n:Nat} {v:Value} {xs:List Value} (h:w.ownsRow base 5 1 v n xs):∃q c,v= .slice q n c:=by
 rcases h.2 with ⟨rfl,rfl⟩ | ⟨g,A,B,rfl,_⟩
 ·exact ⟨_,_,rfl⟩
 ·exact ⟨_,_,rfl⟩
end
end Go.Proofs.YtenenciaggbjnaaGreat
