/- ShaRefTurn, ShaRefWith. -/
import Derived.Test.YtinihaflmdihaaaGreatL31
set_option maxRecDepth 100000
set_option maxHeartbeats 8000000
set_option linter.all false
namespace Go.Proofs.YtinihaflmdihaaaGreat
open Go.RowKit
theorem x0m (x n:Nat) (hx:x<4294967296) (hn:0<n) (hn':n<32) (w:World):
  Calls Tryz.prog 280 #[.int .u32 x,.int .u64 n] w fun e w'=>e= .returned (.int .u32 (Sm.rot n x))∧w'=w:=by
 have E:(0:Int)≤n:=by omega
 have C:(n:Int)≤32:=by omega
 have G:(0:Int)≤32 - n:=by omega
 have H:(32 - n:Int)≤32:=by omega
 go_enter Tryz.func280,Tryz.ntmps280
 go_wp2
 go_ret
 refine ⟨y12 ?_,rfl⟩
 have A:(x:Int)*2^(32 - n)%4294967296=((x*2^(32 - n)%4294967296:Nat):Int):=by
  rw [Int.natCast_emod,Int.natCast_mul,Int.natCast_pow];rfl
 have B:(x:Int)/2^n=((x/2^n:Nat):Int):=by
  rw [Int.natCast_ediv,Int.natCast_pow];rfl
 rw [A,B,u32_or_nat _ _ (Nat.lt_of_le_of_lt (Nat.div_le_self _ _) hx) (Nat.mod_lt _ (by omega))]
 rw [Nat.or_comm]
 rfl
theorem y50 (x:Nat) (hx:x<4294967296) (w:World):Calls Tryz.prog 280 #[.int .u32 x,.int .u64 2] w fun e w'=>e= .returned (.int .u32 (Sm.rot 2 x))∧w'=w:=x0m x 2 hx (by omega) (by omega) w
theorem y51 (x:Nat) (hx:x<4294967296) (w:World):Calls Tryz.prog 280 #[.int .u32 x,.int .u64 6] w fun e w'=>e= .returned (.int .u32 (Sm.rot 6 x))∧w'=w:=x0m x 6 hx (by omega) (by omega) w
theorem y3O (x:Nat) (hx:x<4294967296) (w:World):Calls Tryz.prog 280 #[.int .u32 x,.int .u64 11] w fun e w'=>e= .returned (.int .u32 (Sm.rot 11 x))∧w'=w:=x0m x 11 hx (by omega) (by omega) w
theorem y3P (x:Nat) (hx:x<4294967296) (w:World):Calls Tryz.prog 280 #[.int .u32 x,.int .u64 13] w fun e w'=>e= .returned (.int .u32 (Sm.rot 13 x))∧w'=w:=x0m x 13 hx (by omega) (by omega) w
theorem y3Q (x:Nat) (hx:x<4294967296) (w:World):Calls Tryz.prog 280 #[.int .u32 x,.int .u64 22] w fun e w'=>e= .returned (.int .u32 (Sm.rot 22 x))∧w'=w:=x0m x 22 hx (by omega) (by omega) w
theorem y3R (x:Nat) (hx:x<4294967296) (w:World):Calls Tryz.prog 280 #[.int .u32 x,.int .u64 25] w fun e w'=>e= .returned (.int .u32 (Sm.rot 25 x))∧w'=w:=x0m x 25 hx (by omega) (by omega) w
theorem A50:Tryz.prog.underlying 263=some (.slice 241):=by kernel_rfl
theorem I31:(Tryz.prog.info? 241).map (fun i=>(i.zero,i.size,i.bytes))=some (some (.int .u32 0),1,4):=by kernel_rfl
theorem y1w (w:World):
  Calls Tryz.prog 210 #[] w fun e w'=>e= .returned (.slice (some ⟨w.heap.size,0,none⟩) 64 64)∧w.alloc (.cells (u32s Sm.ks) 241)=w':=by
 go_enter Tryz.func210,Tryz.ntmps210
 go_wp2
 go_ret
 exact ⟨rfl,rfl⟩
theorem y5b (w:World):(Instr.makeSlice 263 (.int .i64 64) (.int .i64 64)).run Tryz.prog w= .ok (.slice (some ⟨w.heap.size,0,none⟩) 64 64) (w.alloc (.cells (u32s (zeros 64)) 241)):=by kernel_rfl
def pw (B:List Nat) (i:Nat):Nat→Nat
 | 0=>0
 | n+1=>256*pw B i n+B.getD (4*i+n) 0
theorem pw_lt {B:List Nat} (h:Sm.allB B) (i:Nat):∀n,pw B i n<256^n
 | 0=>by simp [pw]
 | n+1=>by
  have h1:=pw_lt h i n
  have h2:=Sm.getD_lt h (by omega) (4*i+n)
  rw [pw,Nat.pow_succ]
  omega
theorem y52 (B:List Nat) (i:Nat):pw B i 4=Sm.word B i:=by
 simp only [pw,Sm.word,Nat.add_zero]
 omega
structure RW (w wr:World) (g:Nat) (l:List Nat):Prop where
 below:Below w.heap.size w wr
 row:wr.heap[g]? =some (.cells (u32s l) 241 (0,0))
 lg:w.heap.size≤g
theorem RW.store {w wr:World} {g:Nat} {p q:List Nat} {y:Nat} (h:RW w wr g (p++y::q)) (k:Nat) (hk:p.length=k) (x:Nat):RW w (wr.setCell ⟨g,k,none⟩ (.int .u32 (x:Nat))) g (p++x::q):=
 ⟨h.below.setCell h.lg _,by rw [heap_setCell_same _ _ _ _ _ _ h.row,x6c p q y x k hk],h.lg⟩
theorem RW.drewN {w wr:World} {g:Nat} {l:List Nat} (h:RW w wr g l) (n:Nat):RW w (wr.drewN n) g l:=⟨Below.drewN h.below n,h.row,h.lg⟩
def R1Rel (w:World) (g:Nat) (B:List Nat) (i:Value) (wr:World):Prop:=∃k:Nat,k≤16∧i= .int .i64 k∧RW w wr g (Sm.words B k++zeros (64 - k))
def R2Rel (w:World) (g:Nat) (B:List Nat) (k:Nat) (n:Value) (wr:World):Prop:=∃m:Nat,m≤4∧n= .int .i64 m∧RW w wr g (Sm.words B k++pw B k m::zeros (63 - k))
def R3Rel (w:World) (g:Nat) (B:List Nat) (i:Value) (wr:World):Prop:=∃k:Nat,k≤48∧i= .int .i64 (k+16:Nat)∧RW w wr g (Sm.more (Sm.words B 16) k++zeros (48 - k))
theorem x5X {w:World} {base n:Nat} {v:Value} {xs:List Value} (h:w.ownsRow base 241 1 v n xs):∃q c,v= .slice q n c:=by
 rcases h.2 with ⟨rfl,rfl⟩ | ⟨g,B,A,rfl,_⟩
 ·exact ⟨_,_,rfl⟩
 ·exact ⟨_,_,rfl⟩
theorem y01 {w:World} {base n c:Nat} {q:Option Addr} {xs:List Value} (h:w.ownsRow base 241 1 (.slice q n c) n xs) (hq:Value.slice q n c≠ .slice none 0 0):
  ∃g C,q=some ⟨g,0,none⟩∧base≤g∧w.heap[g]? =some (.cells C 241 (0,0))∧n≤c∧C.toList.take n=xs:=by
 rcases h.2 with ⟨A,_⟩ | ⟨g,I,E,A,H,J,B,_,_,G⟩
 ·exact absurd A hq
 ·simp at A
  obtain ⟨rfl,rfl⟩:=A
  rw [Nat.mul_one] at G
  exact ⟨g,E,rfl,H,J,B,G⟩
theorem y5c {e f g:Nat} (he:e<4294967296) (hf:f<4294967296) (hg:g<4294967296):bits .xor .u32 (bits .and .u32 (e:Nat) (f:Nat)) (bits .and .u32 (4294967295 - (e:Int)) (g:Nat))=((Sm.ch e f g:Nat):Int):=by
 rw [show 4294967295 - (e:Int)=((4294967295 - e:Nat):Int) from by omega,u32_and_nat _ _ he hf,u32_and_nat _ _ (by omega) hg,u32_xor_nat _ _ (Sm.and_lt hf) (Sm.and_lt hg)];rfl
theorem y53 {h e:Nat} (he:e<4294967296) {c k w:Nat}:(((h:Nat)+bits .xor .u32 (bits .xor .u32 (Sm.rot 6 e:Nat) (Sm.rot 11 e:Nat)) (Sm.rot 25 e:Nat)+(c:Nat)+(k:Nat))%4294967296+(w:Nat))%4294967296=(((h+Sm.b1 e+c+k+w)%4294967296:Nat):Int):=by
 rw [Sm.b1_int he];omega
theorem y54 {a m:Nat} (ha:a<4294967296):(bits .xor .u32 (bits .xor .u32 (Sm.rot 2 a:Nat) (Sm.rot 13 a:Nat)) (Sm.rot 22 a:Nat)+(m:Nat))%4294967296=(((Sm.b0 a+m)%4294967296:Nat):Int):=by
 rw [Sm.b0_int ha];omega
theorem y3S (v u:Sm.V8) (k:Nat) (hk:k<8):(Sm.add8 v u).list.getD k 0=(v.list.getD k 0+u.list.getD k 0)%4294967296:=by
 match k,hk with
 | 0,_=>rfl
 | 1,_=>rfl
 | 2,_=>rfl
 | 3,_=>rfl
 | 4,_=>rfl
 | 5,_=>rfl
 | 6,_=>rfl
 | 7,_=>rfl
theorem y5d {v:Sm.V8} (h:v.ok):Sm.allW v.list:=by
 obtain ⟨B,A,E,G,J,H,I,C⟩:=h
 intro x hx
 simp only [Sm.V8.list,List.mem_cons,List.not_mem_nil,or_false] at hx
 rcases hx with rfl | rfl | rfl | rfl | rfl | rfl | rfl | rfl<;>assumption
theorem v8_lt {v:Sm.V8} (h:v.ok) (k:Nat):v.list.getD k 0<4294967296:=Sm.getD_lt (y5d h) (by omega) k
def R5Rel (w:World) (v U:Sm.V8) (g:Nat) (i:Value) (wr:World):Prop:=
 ∃k:Nat,k≤8∧i= .int .i64 k∧wr.heap[g]? =some (.cells (u32s ((Sm.add8 v U).list.take k++U.list.drop k)) 241 (0,0))∧Below w.heap.size w wr
def R4Rel (w:World) (K W:List Nat) (v:Sm.V8) (s i:Value) (wr:World):Prop:=
 ∃(k g c:Nat) (C:Array Value),k≤64∧i= .int .i64 k∧s= .slice (some ⟨g,0,none⟩) 8 c∧8≤c∧wr.heap[g]? =some (.cells C 241 (0,0))∧C.toList.take 8=w32 (Sm.rounds K W v k).list∧
  (0<k→c=8∧C=u32s (Sm.rounds K W v k).list)∧w.heap.size<g∧RW w wr w.heap.size W
theorem x1J {f:FuncId} {args:Array Value} {w:World} {a n:Nat} {v:Value} (h:Calls Tryz.prog f args (w.drewN (a+n)) fun e w'=>e= .returned v∧w'=w.drewN (a+n)):
  Calls Tryz.prog f args (w.drewN (a+n)) fun e w'=>e= .returned v∧∃m,w'=w.drewN (a+m):=by
 refine h.mono fun e w' hw=>⟨hw.1,n,hw.2⟩
theorem x8E (v:Sm.V8) (hv:v.ok) (B K:List Nat) (hB:Sm.allB B) (hK:Sm.allW K) (lB:64≤B.length) (lK:K.length=64) (gh gb ob cb gk:Nat) (_hcb:64≤cb) (w:World)
  (hh:w.heap[gh]? =some (.cells (u32s v.list) 241 (0,0))) (hb:bytesAt w gb ob B) (hk:w.heap[gk]? =some (.cells (u32s K) 241 (0,0))):
  Calls Tryz.prog 251 #[.slice (some ⟨gh,0,none⟩) 8 8,.slice (some ⟨gb,ob,none⟩) 64 cb,.slice (some ⟨gk,0,none⟩) 64 64] w
   fun e w'=>∃g,e= .returned (.slice (some ⟨g,0,none⟩) 8 8)∧w'.heap[g]? =some (.cells (u32s (Sm.turn K (Sm.sched B) v).list) 241 (0,0))∧w.heap.size≤g∧Below w.heap.size w w':=by
 have HH:=yH hh
 have HB:=yH hb
 have HK:=yH hk
 have A5:=yH hB
 have Bo:=yH hK
 have LB:=yH lB
 have LK:=yH lK
 have HV:=yH hv
 clear hh hb hk hB hK lB lK hv
 have mk:=fun w=>y5b w
 go_enter Tryz.func251,Tryz.ntmps251
 go_wp2_with fail
 have h0:RW w (w.alloc (.cells (u32s (zeros 64)) 241)) w.heap.size (zeros 64):=⟨(Below.refl _ _).alloc (Nat.le_refl _) _,heap_alloc_new w _,Nat.le_refl _⟩
 have H0:=yH h0
 clear h0 mk
 go_loopw [8,9] (fun i _ wr=>R1Rel w w.heap.size B i wr) (fun i _ _=>16 - (intOf i).toNat)
 case atStart=>exact ⟨0,by omega,rfl,H0.out⟩
 case round=>
  obtain ⟨k,hk,rfl,hs⟩:=hrel
  have HS:=yH hs
  clear hs H0
  by_cases hlt:k<16
  ·have At:decide ((k:Int)<16)=true:=decide_eq_true (by omega)
   go_wp2_with fail
   obtain ⟨wo,rfl⟩:∃wo:World,wo=wr:=⟨_,rfl⟩
   go_loopw [9] (fun n wr=>R2Rel w w.heap.size B k n wr) (fun n _=>4 - (intOf n).toNat)
   case atStart=>
    refine ⟨0,by omega,rfl,?_⟩
    have:=HS.out
    rw [x1X (show 0<64 - k from by omega),show 64 - k - 1=63 - k from by omega] at this
    exact this
   case round=>
    obtain ⟨m,hm,rfl,I⟩:=hrel
    have H:=yH I
    clear I
    by_cases hlm:m<4
    ·have C1:wr.cell? ⟨w.heap.size,k,none⟩=some (.int .u32 (pw B k m:Nat)):=by
      have:=x0K H.out.row k (by simp [Sm.length_words])
      rw [List.getD_eq_getElem?_getD,List.getElem?_append_right (by rw [Sm.length_words];exact Nat.le_refl _),Sm.length_words,Nat.sub_self] at this
      exact this
     have Cm:wr.frozen? ⟨w.heap.size,k,none⟩=false:=frozen_of_row wr _ k _ _ H.out.row
     have M:gb<w.heap.size:=block_lt_of_cell (HB.out 0 (by have:=LB.out;omega))
     have BU:wr.cell? ⟨gb,ob+(4*k+m),none⟩=some (.int .u8 (B.getD (4*k+m) 0:Nat)):=(H.out.below.cell (p:=⟨gb,ob+(4*k+m),none⟩) M).trans (HB.out _ (by have:=LB.out;omega))
     have Bh:pw B k m<16777216:=Nat.lt_of_lt_of_le (pw_lt A5.out k m) (Nat.le_trans (Nat.pow_le_pow_right (by omega) (show m≤3 from by omega)) (by decide))
     have Be:B.getD (4*k+m) 0<256:=Sm.getD_lt A5.out (by omega) _
     obtain ⟨P,hP⟩:∃P,P=pw B k m:=⟨_,rfl⟩
     obtain ⟨b,AO⟩:∃b,b=B.getD (4*k+m) 0:=⟨_,rfl⟩
     rw [← hP] at C1 Bh
     rw [← AO] at BU Be
     have HP:=yH hP
     have C9:=yH AO
     have D3:(0:Int)≤k:=by omega
     have Cy:(k:Int)<64:=by omega
     have q1:IntKind.i64.wrap (4*(k:Int))=4*(k:Int):=IntWalk.i64_in _ (by omega)
     have q2:IntKind.i64.wrap (4*(k:Int)+m)=4*(k:Int)+m:=IntWalk.i64_in _ (by omega)
     have q3:(0:Int)≤4*(k:Int)+m:=by omega
     have q4:4*(k:Int)+m<64:=by omega
     have q5:(4*(k:Int)+m).toNat=4*k+m:=by omega
     have q6:IntKind.u32.wrap (256*(P:Int))=256*(P:Int):=by rw [IntKind.wrap_u32'];omega
     have q7:IntKind.u32.wrap (256*(P:Int)+b)=256*(P:Int)+b:=by rw [IntKind.wrap_u32'];omega
     clear hP AO M
     go_wp2_with fail
     go_still_tail 17,(by kernel_rfl)
     go_wp2_with fail
     go_roundw
     case rel=>
      have Q:pw B k (m+1)=256*P+b:=by rw [pw,← HP.out,← C9.out]
      refine ⟨m+1,by omega,by go_num,?_⟩
      rw [Q,show 256*(P:Int)+(b:Int)=((256*P+b:Nat):Int) from by omega]
      have h2:=H.out
      rw [← HP.out] at h2
      exact (h2.store k (Sm.length_words B k) (256*P+b)).drewN 1
     case measure=>simp [intOf];omega
    ·obtain rfl:m=4:=by omega
     go_wp2_with fail
     go_roundw
     case rel=>
      refine ⟨k+1,by omega,by go_num,?_⟩
      have:=H.out
      rw [y52] at this
      rw [Sm.words,List.append_assoc,show 64 - (k+1)=63 - k from by omega]
      exact this
     case measure=>simp [intOf];omega
  ·have AH:k=16:=by omega
   have At:decide ((k:Int)<16)=false:=decide_eq_false (by omega)
   have Ar:R3Rel w w.heap.size B (.int .i64 16) wr:=by
    have:=HS.out
    rw [AH] at this
    exact ⟨0,by omega,rfl,this⟩
   have HS3:=yH Ar
   clear Ar HS AH
   obtain ⟨kk,AY⟩:∃kk:Int,kk=(k:Int):=⟨_,rfl⟩
   rw [← AY] at At ⊢
   clear AY hk hlt
   go_wp2_with fail
   go_loopw [10,11,12] (fun i _ _ wr=>R3Rel w w.heap.size B i wr) (fun i _ _ _=>64 - (intOf i).toNat)
   case atStart=>exact HS3.out
   case round=>
    obtain ⟨k,hk,rfl,hs⟩:=hrel
    have H:=yH hs
    clear hs HS3
    obtain ⟨j,hj⟩:∃j,j=k+16:=⟨_,rfl⟩
    rw [← hj]
    by_cases hlt:k<48
    ·obtain ⟨l,hl⟩:∃l,l=Sm.more (Sm.words B 16) k:=⟨_,rfl⟩
     have A7:l.length=j:=by rw [hl,Sm.length_more,Sm.length_words];omega
     have t:Sm.allW l:=by rw [hl];exact Sm.more_ok (Sm.words_ok A5.out 16) k
     have I:=H.out
     rw [← hl] at I
     have N:∀i,i<j→wr.cell? ⟨w.heap.size,i,none⟩=some (.int .u32 (l.getD i 0:Nat)):=fun i hi=>by
      have:=x0K I.row i (by rw [List.length_append,A7];omega)
      rw [x6q _ _ (by omega)] at this
      exact this
     have g0:=N (j - 16) (by omega)
     have g1:=N (j - 15) (by omega)
     have g9:=N (j - 7) (by omega)
     have B9:=N (j - 2) (by omega)
     have Q:wr.cell? ⟨w.heap.size,j,none⟩=_:=x0K I.row j (by simp [A7,zeros];omega)
     have Ap:wr.frozen? ⟨w.heap.size,j,none⟩=false:=frozen_of_row wr _ j _ _ I.row
     obtain ⟨x0,A6⟩:∃x,x=l.getD (j - 16) 0:=⟨_,rfl⟩
     obtain ⟨x1,A8⟩:∃x,x=l.getD (j - 15) 0:=⟨_,rfl⟩
     obtain ⟨x9,A4⟩:∃x,x=l.getD (j - 7) 0:=⟨_,rfl⟩
     obtain ⟨Y,R⟩:∃x,x=l.getD (j - 2) 0:=⟨_,rfl⟩
     have w0:x0<4294967296:=by rw [A6];exact Sm.getD_lt t (by omega) _
     have w1:x1<4294967296:=by rw [A8];exact Sm.getD_lt t (by omega) _
     have w9:x9<4294967296:=by rw [A4];exact Sm.getD_lt t (by omega) _
     have AM:Y<4294967296:=by rw [R];exact Sm.getD_lt t (by omega) _
     rw [← A6] at g0
     rw [← A8] at g1
     rw [← A4] at g9
     rw [← R] at B9
     have X0:=yH A6
     have X1:=yH A8
     have X9:=yH A4
     have Bp:=yH R
     have HL:=yH hl
     have CD:=yH A7
     have HJ:=yH hj
     have H2:=yH I
     have Ch:16≤j:=by omega
     have D0:j<64:=by omega
     have D7:(0:Int)≤(j:Int) - 15:=by omega
     have r2:(0:Int)≤(j:Int) - 2:=by omega
     have Bq:IntKind.i64.wrap ((j:Int) - 15)=(j:Int) - 15:=IntWalk.i64_in _ (by omega)
     have q2:IntKind.i64.wrap ((j:Int) - 2)=(j:Int) - 2:=IntWalk.i64_in _ (by omega)
     have BT:((j:Int) - 15).toNat=j - 15:=by omega
     have p2:((j:Int) - 2).toNat=j - 2:=by omega
     have Ck:(j:Int) - 15<64:=by omega
     have t2:(j:Int) - 2<64:=by omega
     have Cu:(15:Int)≤j:=by omega
     have u2:(2:Int)≤j:=by omega
     clear A6 A8 A4 R hl A7 t I N hj hk hlt
     go_wp2_with fail
     go_quiet (fail)
     go_wp2_with fail
     generalize A:wr.drewN nq=W2
     have f0:W2.cell? ⟨w.heap.size,j - 16,none⟩=some (.int .u32 (x0:Nat)):=by rw [← A];exact g0
     have f9:W2.cell? ⟨w.heap.size,j - 7,none⟩=some (.int .u32 (x9:Nat)):=by rw [← A];exact g9
     have D2:W2.cell? ⟨w.heap.size,j,none⟩=some (.int .u32 ((l++zeros (48 - k)).getD j 0:Nat)):=by rw [← A];exact Q
     have Ca:W2.frozen? ⟨w.heap.size,j,none⟩=false:=by rw [← A];exact Ap
     have Al:RW w W2 w.heap.size (l++zeros (48 - k)):=by rw [← A];exact H2.out.drewN nq
     have Bm:=yH Al
     clear A g0 g1 g9 B9 Q Ap Al H2 Bq q2 BT p2
     have Bd:IntKind.i64.wrap ((j:Int) - 16)=(j:Int) - 16:=IntWalk.i64_in _ (by omega)
     have q7:IntKind.i64.wrap ((j:Int) - 7)=(j:Int) - 7:=IntWalk.i64_in _ (by omega)
     have BS:((j:Int) - 16).toNat=j - 16:=by omega
     have p7:((j:Int) - 7).toNat=j - 7:=by omega
     have Ce:(16:Int)≤j:=by omega
     have r7:(7:Int)≤j:=by omega
     have jj:(j:Int)<64:=by omega
     have Cg:(j:Int) - 16<64:=by omega
     have t7:(j:Int) - 7<64:=by omega
     go_still_tail 32,(by kernel_rfl)
     still_call (x0m x1 7 w1 (by omega) (by omega) _)
     repeat still_step
     still_call (x0m x1 18 w1 (by omega) (by omega) _)
     repeat still_step
     still_call (x0m Y 17 AM (by omega) (by omega) _)
     repeat still_step
     still_call (x0m Y 19 AM (by omega) (by omega) _)
     repeat still_step
     refine wpStill_nil ?_
     clear Bd q7 BS p7
     go_wp2_with fail
     go_roundw
     case rel=>
      rw [Sm.s0_int w1,Sm.s1_int AM]
      have ej:=HJ.out
      have e0:j - 16=k:=by omega
      have e1:j - 15=k+1:=by omega
      have e9:j - 7=k+9:=by omega
      have C4:j - 2=k+14:=by omega
      have ev:(((x0:Nat):Int)+(Sm.s0 x1:Nat)+(x9:Nat)+(Sm.s1 Y:Nat))%4294967296=(((x0+Sm.s0 x1+x9+Sm.s1 Y)%4294967296:Nat):Int):=by omega
      rw [ev]
      refine ⟨k+1,by omega,by rw [ej];exact congrArg (Value.int .i64) (by omega),?_⟩
      have e:Sm.more (Sm.words B 16) (k+1)++zeros (48 - (k+1))=l++((x0+Sm.s0 x1+x9+Sm.s1 Y)%4294967296)::zeros (48 - (k+1)):=by
       rw [Sm.more,← HL.out,X0.out,X1.out,X9.out,Bp.out,e0,e1,e9,C4,List.append_assoc];rfl
      rw [e]
      refine (RW.store (y:=0) ?_ j CD.out _).drewN 1
      rw [show 48 - (k+1)=48 - k - 1 from by omega,← x1X (by omega)]
      exact Bm.out
     case measure=>simp [intOf];omega
    ·have AI:k=48:=by omega
     have hw:RW w wr w.heap.size (Sm.sched B):=by
      have:=H.out
      rw [AI,show zeros (48 - 48)=[] from rfl,List.append_nil] at this
      exact this
     have HW:=yH hw
     have Cv:decide ((j:Int)<64)=false:=decide_eq_false (by omega)
     have Cx:¬(j:Int)<64:=by omega
     clear AI hw H hk hlt hj
     obtain ⟨i5,hi,Aj,Ak,Am⟩:=info_parts I31
     have HI:=yH hi
     have BV:=yH Aj
     have Bn:=yH Ak
     have CE:=yH Am
     clear hi Aj Ak Am
     have hE:(wr.alloc (.cells #[] 241)).ownsRow wr.heap.size 241 1 (.slice (some ⟨wr.heap.size,0,none⟩) 0 0) 0 []:=World.ownsRow_made wr #[] 0 (Nat.le_refl _) (by unfold maxLen;decide) rfl
     have HE:=yH hE
     have Aq:∀j u,(w32 v.list)[j]? =some u→(wr.alloc (.cells #[] 241)).cell? ((⟨gh,0,none⟩:Addr).add j)=some u:=fun j u hu=>by
      have h1:=(HW.out.below.block gh (yL HH.out)).trans HH.out
      have h2:=(Below.heap_alloc wr (.cells #[] 241) gh (yL h1)).trans h1
      rw [Addr.add_mid,Nat.zero_add,cell_of_row _ gh j _ _ _ h2,← Array.getElem?_toList]
      rw [← x56]
      exact hu
     have AW:=yH Aq
     clear hE Aq
     go_wp2_with (at_builtin;refine wpList_append_own _ (by rfl) (.tmp 92) (.tmp 93) 263 (by rfl) wr.heap.size 241 i5 (.int .u32 0) 1 4 A50 HI.out BV.out Bn.out CE.out (by rfl) (by decide) _ 0 [] (by rfl) HE.out ⟨gh,0,none⟩ 8 8 (w32 v.list) (by rfl) (by rfl) AW.out (x3w _) (by unfold maxLen;decide) (by decide) (by simp) ?_;intro v2 w2 hown2 hgrow2 hnil2)
     obtain ⟨qv,cv,A3⟩:=x5X hown2
     have O:=hown2
     rw [A3] at O
     obtain ⟨gv,C0,rfl,C8,Aa,CA,B6⟩:=y01 O (fun e=>by
      rw [← A3] at e
      have:=(hnil2.1 e).1
      simp at this)
     have Ac:Below w.heap.size w w2:=HW.out.below.trans ((((Below.refl wr.heap.size wr).alloc (Nat.le_refl _) _).grown hgrow2 (by simp) (fun k hk=>by simp [Value.ownBlock] at hk;omega)).mono HW.out.below.size)
     have Ae:w.heap.size<wr.heap.size:=(yL HW.out.row)
     have A:RW w w2 w.heap.size (Sm.sched B):=⟨Ac,(hgrow2.block _ (by simp;omega) (by simp [Value.ownBlock];omega)).trans ((Below.heap_alloc _ _ _ Ae).trans HW.out.row),Nat.le_refl _⟩
     have An:v2= .slice (some ⟨gv,0,none⟩) 8 cv:=A3
     rw [An]
     have Q:R4Rel w K (Sm.sched B) v (.slice (some ⟨gv,0,none⟩) 8 cv) (.int .i64 0) w2:=⟨0,gv,cv,C0,by omega,rfl,rfl,by omega,Aa,B6,fun h=>absurd h (by omega),by omega,A⟩
     have HST:=yH Q
     clear hown2 O hgrow2 hnil2 A3 An C8 Aa CA B6 Ac Ae A Q HE AW HW
     have Z:=Sm.length_sched B
     have q:=Sm.sched_ok A5.out
     obtain ⟨W,AN⟩:∃W,W=Sm.sched B:=⟨_,rfl⟩
     have o:=HST.out
     rw [← AN] at o Z q
     clear HST
     have HST:=yH o
     have LW:=yH Z
     have WW:=yH q
     have BX:=yH AN
     clear Z q AN o
     go_loopw [13,14,15,16,17,18] (fun s i _ _ _ _ wr=>R4Rel w K W v s i wr) (fun _ i _ _ _ _ _=>64 - (intOf i).toNat)
     case atStart=>exact HST.out
     case round=>
      obtain ⟨k,g,c,C,hk,rfl,rfl,C6,J,L,AE,Az,B5⟩:=hrel
      have HR:=yH J
      have B3:=yH L
      have AB:=yH AE
      have z:=yH B5
      have Ax:=yH Az
      clear J L AE B5 HST Az
      by_cases hlt:k<64
      ·obtain ⟨u,hu⟩:∃u,u=Sm.rounds K W v k:=⟨_,rfl⟩
       have AG:u.ok:=by rw [hu];exact Sm.rounds_ok HV.out k
       have E:∀i,i<8→wr.cell? ⟨g,i,none⟩=some (.int .u32 (u.list.getD i 0:Nat)):=fun i hi=>by
        rw [cell_of_row wr g i _ _ _ HR.out,← Array.getElem?_toList]
        have h1:=congrArg (·[i]?) B3.out
        simp only [List.getElem?_take_of_lt hi] at h1
        rw [h1,← hu]
        simp [w32,List.getD_eq_getElem?_getD,show i<u.list.length from hi]
       have HU:=yH hu
       obtain ⟨ua,ub,uc,ud,r,uf,ug,uh⟩:=u
       have c0:=E 0 (by omega)
       have c1:=E 1 (by omega)
       have c2:=E 2 (by omega)
       have c3:=E 3 (by omega)
       have c4:=E 4 (by omega)
       have c5:=E 5 (by omega)
       have c6:=E 6 (by omega)
       have c7:=E 7 (by omega)
       have HO:=yH AG
       obtain ⟨ha,hb,hc,hd,he,hf,hg,hh⟩:=AG
       simp only [Sm.V8.list,List.getD_cons_zero,List.getD_cons_succ] at c0 c1 c2 c3 c4 c5 c6 c7 ha hb hc hd he hf hg hh
       have cK:wr.cell? ⟨gk,k,none⟩=some (.int .u32 (K.getD k 0:Nat)):=(z.out.below.cell (p:=⟨gk,k,none⟩) (yL HK.out)).trans (x0K HK.out k (by rw [LK.out];exact hlt))
       have cW:wr.cell? ⟨w.heap.size,k,none⟩=some (.int .u32 (W.getD k 0:Nat)):=x0K z.out.row k (by rw [LW.out];exact hlt)
       have bK:K.getD k 0<4294967296:=Sm.getD_lt Bo.out (by omega) k
       have bW:W.getD k 0<4294967296:=Sm.getD_lt WW.out (by omega) k
       obtain ⟨AZ,d⟩:∃x,x=K.getD k 0:=⟨_,rfl⟩
       obtain ⟨B7,f⟩:∃x,x=W.getD k 0:=⟨_,rfl⟩
       rw [← d] at cK bK
       rw [← f] at cW bW
       have C2:=yH d
       have Bf:=yH f
       have i4:(4:Int)<8:=by omega
       have kd:decide ((k:Int)<64)=true:=decide_eq_true (by omega)
       have k0:(0:Int)≤k:=by omega
       have Cq:(k:Int)<64:=by omega
       have qs:IntKind.u32.wrap (4294967295 - (r:Int))=4294967295 - (r:Int):=IntWalk.u32_in _ (by omega)
       clear hu E d f
       go_wp2_with fail
       go_quiet (fail)
       go_wp2_with fail
       rw [y5c he hf hg]
       go_quiet ((go_at_call 280;first | (with_reducible exact x1J (y51 r he _)) | (with_reducible exact x1J (y3O r he _)) | (with_reducible exact x1J (y3R r he _))))
       go_wp2_with fail
       rw [y53 he]
       have Av:(uh+Sm.b1 r+Sm.ch r uf ug+AZ+B7)%4294967296<4294967296:=Nat.mod_lt _ (by omega)
       obtain ⟨T1,AJ⟩:∃T1,T1=(uh+Sm.b1 r+Sm.ch r uf ug+AZ+B7)%4294967296:=⟨_,rfl⟩
       rw [← AJ] at Av ⊢
       have Br:=yH AJ
       clear AJ
       go_quiet (fail)
       go_wp2_with fail
       rw [Sm.mj_int ha hb hc]
       go_quiet ((go_at_call 280;first | (with_reducible exact x1J (y50 ua ha _)) | (with_reducible exact x1J (y3P ua ha _)) | (with_reducible exact x1J (y3Q ua ha _))))
       go_wp2_with fail
       rw [y54 ha]
       have Af:(Sm.b0 ua+Sm.mj ua ub uc)%4294967296<4294967296:=Nat.mod_lt _ (by omega)
       obtain ⟨T2,AL⟩:∃T2,T2=(Sm.b0 ua+Sm.mj ua ub uc)%4294967296:=⟨_,rfl⟩
       rw [← AL] at Af ⊢
       have Bl:=yH AL
       clear AL
       simp only [World.drewN_drewN]
       generalize A:World.drewN wr _=W2
       have d0:W2.cell? ⟨g,0,none⟩=some (.int .u32 (ua:Nat)):=by rw [← A];exact c0
       have d1:W2.cell? ⟨g,1,none⟩=some (.int .u32 (ub:Nat)):=by rw [← A];exact c1
       have d2:W2.cell? ⟨g,2,none⟩=some (.int .u32 (uc:Nat)):=by rw [← A];exact c2
       have d3:W2.cell? ⟨g,3,none⟩=some (.int .u32 (ud:Nat)):=by rw [← A];exact c3
       have d4:W2.cell? ⟨g,4,none⟩=some (.int .u32 (r:Nat)):=by rw [← A];exact c4
       have d5:W2.cell? ⟨g,5,none⟩=some (.int .u32 (uf:Nat)):=by rw [← A];exact c5
       have d6:W2.cell? ⟨g,6,none⟩=some (.int .u32 (ug:Nat)):=by rw [← A];exact c6
       have d7:W2.cell? ⟨g,7,none⟩=some (.int .u32 (uh:Nat)):=by rw [← A];exact c7
       have X:=yH (show RW w W2 w.heap.size W from by rw [← A];exact z.out.drewN _)
       clear A c0 c1 c2 c3 c4 c5 c6 c7 cK cW
       go_still_tail 26,(by kernel_rfl)
       go_wp2_with fail
       go_roundw
       case rel=>
        have e1:((T1:Int)+(T2:Int))%4294967296=(((T1+T2)%4294967296:Nat):Int):=by omega
        have e2:((ud:Int)+(T1:Int))%4294967296=(((ud+T1)%4294967296:Nat):Int):=by omega
        rw [e1,e2]
        have hC:(#[.int .u32 (((T1+T2)%4294967296:Nat):Int),.int .u32 (ua:Nat),.int .u32 (ub:Nat),.int .u32 (uc:Nat),.int .u32 (((ud+T1)%4294967296:Nat):Int),.int .u32 (r:Nat),.int .u32 (uf:Nat),.int .u32 (ug:Nat)]:Array Value)=u32s (Sm.rounds K W v (k+1)).list:=by
         rw [Sm.rounds,← HU.out,← C2.out,← Bf.out,Br.out,Bl.out]
         rfl
        rw [hC]
        refine ⟨k+1,W2.heap.size,8,_,by omega,by go_num,rfl,Nat.le_refl _,heap_alloc_new W2 _,rfl,fun _=>⟨rfl,rfl⟩,(yL X.out.row),?_⟩
        have M:=X.out.below
        have Ah:=(yL X.out.row)
        exact (show RW w (W2.alloc _) w.heap.size W from ⟨M.alloc M.size _,(Below.heap_alloc _ _ _ Ah).trans X.out.row,Nat.le_refl _⟩).drewN 1
       case measure=>simp [intOf];omega
      ·have AD:k=64:=by omega
       obtain ⟨hc,hC⟩:=AB.out (by omega)
       have hr:=HR.out
       rw [hC,AD] at hr
       subst hc
       obtain ⟨U,hU⟩:∃U,U=Sm.rounds K W v 64:=⟨_,rfl⟩
       rw [← hU] at hr
       have AC:U.ok:=by rw [hU];exact Sm.rounds_ok HV.out 64
       have AF:R5Rel w v U g (.int .i64 0) wr:=⟨0,by omega,rfl,hr,z.out.below⟩
       have HST5:=yH AF
       have HU:=yH hU
       have Bv:=yH AC
       have AX:decide ((k:Int)<64)=false:=decide_eq_false (by omega)
       obtain ⟨k4,Au⟩:∃kk:Int,kk=(k:Int):=⟨_,rfl⟩
       rw [← Au] at AX ⊢
       clear AD hC hr hU AC AF Au hk hlt AB HR B3 C6
       go_wp2_with fail
       go_loopw [19] (fun i wr=>R5Rel w v U g i wr) (fun i _=>8 - (intOf i).toNat)
       case atStart=>exact HST5.out
       case round=>
        obtain ⟨k,hk,rfl,J,M⟩:=hrel
        have A1:=yH J
        have AP:=yH M
        clear J M HST5
        by_cases hlt:k<8
        ·have BA:U.list.drop k=U.list.getD k 0::U.list.drop (k+1):=by
          rw [List.drop_eq_getElem_cons (show k<U.list.length from hlt),List.getD_eq_getElem?_getD,List.getElem?_eq_getElem (show k<U.list.length from hlt)];rfl
         have G:=A1.out
         rw [BA] at G
         have A0:((Sm.add8 v U).list.take k).length=k:=by rw [List.length_take];exact Nat.min_eq_left (Nat.le_of_lt hlt)
         have e1:wr.cell? ⟨g,k,none⟩=some (.int .u32 (U.list.getD k 0:Nat)):=by
          have:=x0K G k (by rw [List.length_append,A0];simp)
          rw [List.getD_eq_getElem?_getD,List.getElem?_append_right (by omega),A0,Nat.sub_self] at this
          exact this
         have f1:wr.frozen? ⟨g,k,none⟩=false:=frozen_of_row wr g k _ _ G
         have e2:wr.cell? ⟨gh,k,none⟩=some (.int .u32 (v.list.getD k 0:Nat)):=(AP.out.cell (p:=⟨gh,k,none⟩) (yL HH.out)).trans (x0K HH.out k hlt)
         have B0:=y3S v U k hlt
         have b1:U.list.getD k 0<4294967296:=v8_lt Bv.out k
         have b2:v.list.getD k 0<4294967296:=v8_lt HV.out k
         have L:(Sm.add8 v U).list.take (k+1)=(Sm.add8 v U).list.take k++[(Sm.add8 v U).list.getD k 0]:=by
          rw [List.take_succ_eq_append_getElem (show k<(Sm.add8 v U).list.length from hlt),List.getD_eq_getElem?_getD,List.getElem?_eq_getElem (show k<(Sm.add8 v U).list.length from hlt)];rfl
         rw [B0] at L
         obtain ⟨a,Ag⟩:∃a,a=U.list.getD k 0:=⟨_,rfl⟩
         obtain ⟨b,B8⟩:∃b,b=v.list.getD k 0:=⟨_,rfl⟩
         rw [← Ag] at e1 b1 G L
         rw [← B8] at e2 b2 L
         have AK:=yH G
         have BW:=yH A0
         have Ad:=yH L
         have k0:(0:Int)≤k:=by omega
         have k8:(k:Int)<8:=by omega
         clear BA G A0 B0 L Ag B8 A1
         go_wp2_with fail
         go_still_tail 12,(by kernel_rfl)
         go_wp2_with fail
         go_roundw
         case rel=>
          rw [show ((a:Int)+(b:Int))%4294967296=(((b+a)%4294967296:Nat):Int) from by omega]
          refine ⟨k+1,by omega,by go_num,?_,(AP.out.setCell (Nat.le_of_lt Ax.out) _).drew⟩
          show (World.setCell _ _ _).heap[g]? =_
          rw [heap_setCell_same _ _ _ _ _ _ AK.out,x6c _ _ _ _ k BW.out,Ad.out,List.append_assoc]
          rfl
         case measure=>simp [intOf];omega
        ·obtain rfl:k=8:=by omega
         have G:=A1.out
         rw [show (Sm.add8 v U).list.take 8++U.list.drop 8=(Sm.add8 v U).list from rfl] at G
         have AK:=yH G
         clear G A1
         go_wp2_with fail
         go_ret
         refine ⟨g,rfl,?_,Nat.le_of_lt Ax.out,AP.out⟩
         rw [Sm.turn,← BX.out,← HU.out]
         exact AK.out
theorem y3T (n:Nat):∀x∈Sm.bigs n,x<256:=by
 intro x hx
 simp only [Sm.bigs,List.mem_cons,List.not_mem_nil,or_false] at hx
 rcases hx with rfl | rfl | rfl | rfl | rfl | rfl | rfl | rfl<;>exact Sm.big_lt _ _
def pad (n:Nat):Nat:=(119 - n%64)%64
theorem y1x (T:List Nat):Sm.full T=T++128::(zeros (pad T.length)++Sm.bigs (8*T.length)):=rfl
theorem y3U (T:List Nat):(Sm.full T).length=T.length+1+pad T.length+8:=by
 rw [y1x,List.length_append,List.length_cons,List.length_append]
 simp [zeros,Sm.bigs]
 omega
theorem y3V (T:List Nat):(Sm.full T).length%64=0:=by
 rw [y3U];unfold pad;omega
def zs (T:List Nat) (k:Nat):List Nat:=T++128::zeros k
theorem y55 (T:List Nat) (k:Nat):zs T (k+1)=zs T k++[0]:=by
 unfold zs zeros
 rw [List.replicate_succ',List.append_assoc,List.cons_append]
theorem zs_ok {T:List Nat} (h:Sm.allB T) (k:Nat):Sm.allB (zs T k):=fun x hx=>by
 unfold zs at hx
 simp only [List.mem_append,List.mem_cons] at hx
 rcases hx with hx | rfl | hx
 ·exact h x hx
 ·omega
 ·exact x1l k x hx
theorem y56 (n:Nat):Sm.allB (Sm.bigs n):=fun x hx=>y3T n x hx
theorem y1y (T:List Nat):Sm.full T=zs T (pad T.length)++Sm.bigs (8*T.length):=by
 rw [y1x]
 unfold zs
 rw [List.append_assoc,List.cons_append]
theorem y1z {T:List Nat} (h:Sm.allB T):Sm.allB (Sm.full T):=fun x hx=>by
 rw [y1y] at hx
 rcases List.mem_append.1 hx with hx | hx
 ·exact zs_ok h _ x hx
 ·exact y56 _ x hx
def W1Rel (w:World) (T:List Nat) (m:Nat) (s:Value) (wr:World):Prop:=
 ∃(k:Nat) (q:Option Addr) (d:Nat),k≤m∧s= .slice q (T.length+1+k) d∧wr.ownsRow w.heap.size 5 1 (.slice q (T.length+1+k) d) (T.length+1+k) (vals (zs T k))∧Below w.heap.size w wr
theorem x49 {w:World} {base n:Nat} {v:Value} {xs:List Value} (h:w.ownsRow base 5 1 v n xs):∃q c,v= .slice q n c:=by
 rcases h.2 with ⟨rfl,rfl⟩ | ⟨g,B,A,rfl,_⟩
 ·exact ⟨_,_,rfl⟩
 ·exact ⟨_,_,rfl⟩
theorem y57 {w:World} {base n:Nat} {v:Value} {B:List Nat} (h:w.ownsRow base 5 1 v n (vals B)) (hB:Sm.allB B) (h0:0<n):∃g c,v= .slice (some ⟨g,0,none⟩) n c∧n≤c∧n=B.length∧bytesAt w g 0 B:=by
 obtain ⟨q,c,rfl,I⟩:=x6s h hB
 have G:=I.size
 obtain ⟨g,o,H,J⟩:=I.ne (by rintro rfl;simp at G;omega)
 rcases h.2 with ⟨A,_⟩ | ⟨M,L,K,A,_,_,C,_⟩
 ·cases A;omega
 ·simp only [Value.slice.injEq] at A
  obtain ⟨E,-,rfl⟩:=A
  rw [H] at E
  simp only [Option.some.injEq,Addr.mk.injEq] at E
  obtain ⟨rfl,rfl,-⟩:=E
  exact ⟨g,c,by rw [H],C,G,J⟩
def B3Rel (w:World) (F:List Nat) (M:Nat) (h i:Value) (wr:World):Prop:=
 ∃k g:Nat,k≤M∧i= .int .i64 (64*k:Nat)∧h= .slice (some ⟨g,0,none⟩) 8 8∧wr.heap[g]? =some (.cells (u32s (Sm.blocks F Sm.first k).list) 241 (0,0))∧Below w.heap.size w wr
theorem y3W (V:Sm.V8) (a r:Nat) (ha:a<8) (hr:r<4):(Sm.bytesOf V).getD (4*a+r) 0=V.list.getD a 0/2^(24 - 8*r)%256:=
 match a,ha,r,hr with
 | 0,_,0,_=>rfl
 | 0,_,1,_=>rfl
 | 0,_,2,_=>rfl
 | 0,_,3,_=>(congrArg (·%256) (Nat.div_one _)).symm
 | 1,_,0,_=>rfl
 | 1,_,1,_=>rfl
 | 1,_,2,_=>rfl
 | 1,_,3,_=>(congrArg (·%256) (Nat.div_one _)).symm
 | 2,_,0,_=>rfl
 | 2,_,1,_=>rfl
 | 2,_,2,_=>rfl
 | 2,_,3,_=>(congrArg (·%256) (Nat.div_one _)).symm
 | 3,_,0,_=>rfl
 | 3,_,1,_=>rfl
 | 3,_,2,_=>rfl
 | 3,_,3,_=>(congrArg (·%256) (Nat.div_one _)).symm
 | 4,_,0,_=>rfl
 | 4,_,1,_=>rfl
 | 4,_,2,_=>rfl
 | 4,_,3,_=>(congrArg (·%256) (Nat.div_one _)).symm
 | 5,_,0,_=>rfl
 | 5,_,1,_=>rfl
 | 5,_,2,_=>rfl
 | 5,_,3,_=>(congrArg (·%256) (Nat.div_one _)).symm
 | 6,_,0,_=>rfl
 | 6,_,1,_=>rfl
 | 6,_,2,_=>rfl
 | 6,_,3,_=>(congrArg (·%256) (Nat.div_one _)).symm
 | 7,_,0,_=>rfl
 | 7,_,1,_=>rfl
 | 7,_,2,_=>rfl
 | 7,_,3,_=>(congrArg (·%256) (Nat.div_one _)).symm
def B4Rel (w:World) (V:Sm.V8) (i:Value) (wr:World):Prop:=
 ∃k:Nat,k≤32∧i= .int .i64 k∧wr.heap[w.heap.size]? =some (.cells (u8s ((Sm.bytesOf V).take k++zeros (32 - k))) 30 (0,0))∧Below w.heap.size w wr
def lenV:Value→Nat
 | .slice _ n _=>n
 | _=>0
theorem y3X (T:List Nat) (p:Option Addr) (n c gk:Nat) (w:World) (hT:Tx w p n c T) (hl:T.length<1000000) (hk:w.heap[gk]? =some (.cells (u32s Sm.ks) 241 (0,0))):
  Calls Tryz.prog 209 #[.slice p n c,.slice (some ⟨gk,0,none⟩) 64 64] w fun e w'=>e= .returned (.agg (u8s (Sm.sum T)))∧Below w.heap.size w w':=by
 have HT:=yH hT
 have HN:=yH hT.size
 have HK:=yH hk
 have HZ:=yH (zero_of_info Z25).1
 have U:=(zero_of_info Z25).1
 have C6:n<1000000:=by rw [HN.out];exact hl
 clear hT hk
 obtain ⟨i5,hi,Am,An,Ar⟩:=info_parts I5
 have HI:=yH hi
 have X:=yH Am
 have f:=yH An
 have A5:=yH Ar
 clear hi Am An Ar
 go_enter Tryz.func209,Tryz.ntmps209
 go_upto_region 1 with fail
 generalize hW0:w.alloc (.cells (u8s (zeros 32)) 30)=W0
 obtain ⟨Q,u⟩:∃Q,Q=w.heap.size:=⟨_,rfl⟩
 rw [← u]
 have Ah:=yH (show W0.heap[Q]? =some (.cells (u8s (zeros 32)) 30 (0,0)) from by rw [u,← hW0];exact heap_alloc_new w _)
 have Bw:=yH (show W0.heap.size=Q+1 from by rw [u,← hW0];simp)
 have AC:Below w.heap.size w W0:=by rw [← hW0];exact (Below.refl _ _).alloc (Nat.le_refl _) _
 have R:=yH (HT.out.later AC)
 have Ay:=yH (show W0.heap[gk]? =some (.cells (u32s Sm.ks) 241 (0,0)) from (AC.block gk (yL HK.out)).trans HK.out)
 have Ag:=yH AC
 have BI:=yH u
 clear AC HT HK hW0 u U
 obtain ⟨z,U⟩:∃z,z=T.length:=⟨_,rfl⟩
 have BM:n=z:=by rw [HN.out,U]
 subst BM
 go_cut [5] (fun s wx=>∃q d,s= .slice q (n+1) d∧wx.ownsRow W0.heap.size 5 1 (.slice q (n+1) d) (n+1) (vals (T++[128]))∧Below W0.heap.size W0 wx)
 case first=>
  have hE:(W0.alloc (.cells #[] 5)).ownsRow W0.heap.size 5 1 (.slice (some ⟨W0.heap.size,0,none⟩) 0 0) 0 (vals ([]:List Nat)):=x1b (L:=[]) (heap_alloc_new W0 _) rfl (Nat.le_refl _) (by unfold maxLen;omega) (Nat.le_refl _)
  have HE:=yH hE
  have AU:=yH (show Below W0.heap.size W0 (W0.alloc (.cells #[] 5)) from (Below.refl _ _).alloc (Nat.le_refl _) _)
  clear hE
  have J:=yH U
  clear U
  rcases R.out.at' with ⟨hp,hc⟩ | ⟨x,hp,_⟩
  ·subst hp
   subst hc
   obtain rfl:n=0:=by have:=R.out.le;omega
   have BO:=yH (show T=[] from List.length_eq_zero_iff.1 J.out.symm)
   have BR:=yH (show ((W0.alloc (.cells #[] 5)).alloc (.cells (u8s [128]) 5)).heap[W0.heap.size+1]? =some (.cells (u8s [128]) 5 (0,0)) from by
    have:=heap_alloc_new (W0.alloc (.cells #[] 5)) (.cells (u8s [128]) 5)
    rw [show (W0.alloc (.cells #[] 5)).heap.size=W0.heap.size+1 from by simp] at this
    exact this)
   go_wp2_with (at_builtin;first | (refine wpList_append_own_none (by rfl) (.tmp 12) (.tmp 13) 45 (by rfl) W0.heap.size 5 i5 1 A22 HI.out _ 0 _ (by rfl) HE.out (by rfl) ?_) | (refine wpList_append_own _ (by rfl) (.tmp 14) (.tmp 15) 45 (by rfl) W0.heap.size 5 i5 (.int .u8 0) 1 1 A22 HI.out X.out f.out A5.out (by rfl) (by decide) _ 0 [] (by rfl) (HE.out.alloc _) ⟨W0.heap.size+1,0,none⟩ 1 1 (vals [128]) (by rfl) (by rfl) (x0o (L:=[128]) BR.out) (x0I _) (by unfold maxLen;omega) (by omega) (by simp;omega) ?_;intro v4 w4 hown4 hgrow4 _;obtain ⟨q4,d4,C⟩:=x49 hown4;have Z:=yH hown4;have b:=yH hgrow4;have Y:=yH C;rw [C];clear hown4 hgrow4 C))
   go_meet
   refine ⟨q4,d4,rfl,?_,(AU.out.alloc (by simp) (.cells (u8s [128]) 5)).grown b.out (by simp;omega) (fun k hk=>by simp [Value.ownBlock] at hk;omega)⟩
   have P:=Z.out
   rw [Y.out] at P
   rw [BO.out]
   exact P
  ·subst hp
   go_wp2_with (at_builtin;first | (refine wpList_append_own _ (by rfl) (.tmp 12) (.tmp 13) 45 (by rfl) W0.heap.size 5 i5 (.int .u8 0) 1 1 A22 HI.out X.out f.out A5.out (by rfl) (by decide) _ 0 [] (by rfl) HE.out x n c (vals T) (by rfl) (by rw [x00,Nat.mul_one];exact J.out.symm) ((R.out.later AU.out).cells) (x0I _) (by unfold maxLen;omega) (by omega) (by simp) ?_;intro v3 H hown3 hgrow3 _;rw [Nat.zero_add,List.nil_append] at hown3;have Au:=yH hown3;have A7:=yH (AU.out.grown hgrow3 (by simp) (fun k hk=>by simp [Value.ownBlock] at hk;omega));clear hown3 hgrow3) | (refine wpList_append_own _ (by rfl) (.tmp 14) (.tmp 15) 45 (by rfl) W0.heap.size 5 i5 (.int .u8 0) 1 1 A22 HI.out X.out f.out A5.out (by rfl) (by decide) _ n (vals T) (by rfl) (Au.out.alloc _) ⟨H.heap.size,0,none⟩ 1 1 (vals [128]) (by rfl) (by rfl) (x0o (L:=[128]) (heap_alloc_new H _)) (x0I _) (by unfold maxLen;omega) (by omega) (by have:=A7.out.size;simp;omega) ?_;intro v4 w4 hown4 hgrow4 _;obtain ⟨q4,d4,C⟩:=x49 hown4;have Z:=yH hown4;have b:=yH hgrow4;have Y:=yH C;rw [C];clear hown4 hgrow4 C))
   go_meet
   refine ⟨q4,d4,rfl,?_,(A7.out.alloc A7.out.size (.cells (u8s [128]) 5)).grown b.out (by have:=A7.out.size;simp;omega) (fun k hk=>((Au.out.alloc (.cells (u8s [128]) 5)).lt k hk).1)⟩
   have P:=Z.out
   rw [Y.out,← x0p] at P
   exact P
 case rest=>
 obtain ⟨q1,d1,rfl,AK,AO⟩:=hcut
 obtain ⟨w1,Aj⟩:∃w1,w1=wc:=⟨_,rfl⟩
 rw [← Aj] at AK AO ⊢
 clear Aj
 have HST:=yH (show W1Rel W0 T (pad n) (.slice q1 (n+1) d1) w1 from ⟨0,q1,d1,by omega,by rw [← U],by rw [← U];exact AK,AO⟩)
 have J:=yH U
 clear AK AO U
 obtain ⟨m,hm⟩:∃m,m=pad n:=⟨_,rfl⟩
 rw [← hm] at HST
 have Bb:m<64:=by rw [hm];unfold pad;omega
 have Bk:(n+1+m)%64=56:=by rw [hm];unfold pad;omega
 have HM:=yH hm
 clear hm
 go_wp2_with fail
 go_loopw [5] (fun s wr=>W1Rel W0 T m s wr) (fun s _=>m - (lenV s - n - 1))
 case atStart=>exact HST.out
 case round=>
  obtain ⟨k,q,d,C3,rfl,P,hb⟩:=hrel
  rw [← J.out] at P ⊢
  clear HST
  have HO:=yH P
  have K:=yH hb
  clear P hb
  obtain ⟨L,hL⟩:∃L,L=n+1+k:=⟨_,rfl⟩
  rw [← hL] at HO ⊢
  by_cases hlt:k<m
  ·have Ae:((L:Int)%64 !=56)=true:=by simp;omega
   have B8:L<1000100:=by omega
   have HL:=yH hL
   clear hL
   go_wp2_with (at_builtin;refine wpList_append_own _ (by rfl) (.tmp 21) (.tmp 22) 45 (by rfl) W0.heap.size 5 i5 (.int .u8 0) 1 1 A22 HI.out X.out f.out A5.out (by rfl) (by decide) _ L _ (by rfl) (HO.out.alloc _) ⟨wr.heap.size,0,none⟩ 1 1 (vals [0]) (by rfl) (by rfl) (x0o (L:=[0]) (heap_alloc_new wr _)) (x0I _) (by unfold maxLen;omega) (by omega) (by have:=K.out.size;simp;omega) ?_;intro v4 w4 hown4 hgrow4 _;obtain ⟨q4,d4,C⟩:=x49 hown4;have Z:=yH hown4;have b:=yH hgrow4;have Y:=yH C;rw [C];clear hown4 hgrow4 C)
   go_roundw
   case rel=>
    have P:=Z.out
    rw [Y.out,← x0p,← y55] at P
    have Ao:L+1=T.length+1+(k+1):=by rw [← J.out,HL.out];omega
    rw [Ao] at P
    exact ⟨k+1,q4,d4,by omega,by rw [Ao],P,(K.out.alloc K.out.size _).grown b.out (by have:=K.out.size;simp;omega) (fun i hi=>((HO.out.alloc (.cells (u8s [0]) 5)).lt i hi).1)⟩
   case measure=>have:=HL.out;simp [lenV];omega
  ·obtain rfl:m=k:=by omega
   have Ae:((L:Int)%64 !=56)=false:=by simp;omega
   have B8:L<1000100:=by omega
   have HL:=yH hL
   clear hL
   go_wp2_with fail
   rw [show (8*(n:Int))=((8*n:Nat):Int) from by omega]
   obtain ⟨N,hN⟩:∃N,N=8*n:=⟨_,rfl⟩
   rw [← hN]
   have Br:N<10000000:=by omega
   have AH:y1v W0 L (zs T m) N (.slice q L d) (.int .i64 0) wr:=⟨0,by omega,rfl,by rw [List.take_zero,List.append_nil];exact HO.out,K.out⟩
   have HST2:=yH AH
   have At:=yH hN
   clear AH hN Ae
   go_loopw [5,7] (fun v i wr'=>y1v W0 L (zs T m) N v i wr') (fun _ i _=>8 - (intOf i).toNat)
   case atStart=>exact HST2.out
   case round=>
    obtain ⟨j,hj,rfl,Ab,G⟩:=hrel
    have A8:=yH Ab
    have E:=yH G
    clear Ab G HST2
    by_cases hj8:j<8
    ·obtain ⟨y,hy⟩:∃y,y=N/2^(56 - 8*j):=⟨_,rfl⟩
     have BS:(N:Int)/2^(56 - 8*j)=(y:Int):=by rw [hy,Int.natCast_ediv,Int.natCast_pow];rfl
     have BE:=yH hy
     clear hy
     go_wp2_with (at_builtin;refine wpList_append_own _ (by rfl) (.tmp 32) (.tmp 41) 45 (by rfl) W0.heap.size 5 i5 (.int .u8 0) 1 1 A22 HI.out X.out f.out A5.out (by rfl) (by decide) _ (L+j) _ (by rfl) (A8.out.alloc _) ⟨wr.heap.size,0,none⟩ 1 1 (vals [y%256]) (by rfl) (by rfl) (x0o (L:=[y%256]) (heap_alloc_new wr _)) (x0I _) (by unfold maxLen;omega) (by omega) (by have:=E.out.size;simp;omega) ?_;intro v4 w4 hown4 hgrow4 _)
     have o:Below W0.heap.size W0 w4:=(E.out.alloc E.out.size _).grown hgrow4 (by have:=E.out.size;simp;omega) (fun i hi=>((A8.out.alloc (.cells (u8s [y%256]) 5)).lt i hi).1)
     have e:w4.ownsRow W0.heap.size 5 1 v4 (L+(j+1)) (vals (zs T m++(Sm.bigs N).take (j+1))):=by
      rw [x7h N j hj8,← List.append_assoc,x0p _ [Sm.big N j],y3v N j hj8,← BE.out]
      exact hown4
     have HE:=yH e
     have HB4:=yH o
     clear hown4 hgrow4 e o
     go_wp2_with fail
     go_roundw
     case rel=>exact ⟨j+1,by omega,by go_num,HE.out,HB4.out⟩
     case measure=>simp [intOf];omega
    ·obtain rfl:j=8:=by omega
     rw [show ((8:Nat):Int)=(8:Int) from rfl]
     have AT:=A8.out
     rw [show (Sm.bigs N).take 8=Sm.bigs N from rfl,At.out,J.out,HM.out,J.out,← y1y] at AT
     obtain ⟨gb,cb,rfl,AL,A1,O⟩:=y57 AT (y1z R.out.ok) (by omega)
     have AQ:=y3V T
     obtain ⟨F,hF⟩:∃F,F=Sm.full T:=⟨_,rfl⟩
     rw [← hF] at A1 O AQ
     obtain ⟨S,hS⟩:∃S,S=L+8:=⟨_,rfl⟩
     rw [← hS] at A1 AL ⊢
     have By:S<1000200:=by omega
     rw [← A1] at AQ
     obtain ⟨M,hM⟩:∃M,S=64*M:=⟨S/64,by omega⟩
     have AR:=yH A1
     have AJ:=yH O
     have HF:=yH hF
     have BD:=yH (show Sm.allB F from by rw [hF];exact y1z R.out.ok)
     have HMM:=yH hM
     have BL:=yH hS
     have BW:=yH AL
     clear A1 O hF AT AQ hM hS AL A8 At HO HL
     go_wp2_with fail
     obtain ⟨w2,A3⟩:∃w2,w2=wr.alloc (.cells (u32s Sm.first.list) 241):=⟨_,rfl⟩
     rw [show wr.alloc (.cells #[.int .u32 1779033703,.int .u32 3144134277,.int .u32 1013904242,.int .u32 2773480762,.int .u32 1359893119,.int .u32 2600822924,.int .u32 528734635,.int .u32 1541459225] 241)=w2 from by rw [A3];rfl]
     have G:Below W0.heap.size W0 w2:=by rw [A3];exact E.out.alloc E.out.size _
     have AS:Below wr.heap.size wr w2:=by rw [A3];exact (Below.refl _ _).alloc (Nat.le_refl _) _
     have l:gb<wr.heap.size:=by
      have:=AJ.out 0 (by rw [← AR.out,BL.out];omega)
      exact block_lt_of_cell this
     have Ax:=yH (show bytesAt w2 gb 0 F from fun i hi=>(AS.cell (p:=⟨gb,0+i,none⟩) l).trans (AJ.out i hi))
     have BT:=yH (Nat.lt_of_lt_of_le l AS.size)
     have AF:=yH G
     have Ai:=yH (show w2.heap[gk]? =some (.cells (u32s Sm.ks) 241 (0,0)) from (G.block gk (yL Ay.out)).trans Ay.out)
     have AV:=yH (show w2.heap[Q]? =some (.cells (u8s (zeros 32)) 30 (0,0)) from (G.block Q (yL Ah.out)).trans Ah.out)
     have AI:B3Rel w2 F M (.slice (some ⟨wr.heap.size,0,none⟩) 8 8) (.int .i64 0) w2:=⟨0,wr.heap.size,by omega,rfl,rfl,by rw [A3];exact heap_alloc_new wr _,Below.refl _ _⟩
     have HST3:=yH AI
     clear G AS l AI A3 E AJ
     go_loopw [8,9] (fun h i wr=>B3Rel w2 F M h i wr) (fun _ i _=>64*M - (intOf i).toNat)
     case atStart=>exact HST3.out
     case round=>
      obtain ⟨k,g,Bv,rfl,rfl,A,hb⟩:=hrel
      have HR:=yH A
      have K:=yH hb
      clear HST3 A hb
      obtain ⟨I,hI⟩:∃I,I=64*k:=⟨_,rfl⟩
      rw [← hI]
      have HII:=yH hI
      by_cases hlt:k<M
      ·have BC:I+64≤S:=by have:=HMM.out;omega
       have Bs:I+64≤cb:=by have:=BW.out;omega
       clear hI
       go_wp2_with fail
       obtain ⟨V,hV⟩:∃V,V=Sm.blocks F Sm.first k:=⟨_,rfl⟩
       have AD:V.ok:=by rw [hV];exact Sm.blocks_ok Sm.first_ok k
       have hr:=HR.out
       rw [← hV] at hr
       have Bm:g<wr.heap.size:=(yL hr)
       have O:bytesAt wr gb I (F.drop I):=fun i hi=>by
        have:=(Ax.out.drop I) i hi
        rw [Nat.zero_add] at this
        exact (K.out.cell (p:=⟨gb,I+i,none⟩) BT.out).trans this
       have AZ:wr.heap[gk]? =some (.cells (u32s Sm.ks) 241 (0,0)):=(K.out.block gk (yL Ai.out)).trans Ai.out
       refine (x8E V AD (F.drop I) Sm.ks (Sm.allB_drop BD.out I) Sm.ks_ok (by rw [List.length_drop,← AR.out];omega) rfl g gb I (cb - I) gk (by omega) wr hr O AZ).mono ?_
       rintro e w5 ⟨g5,rfl,Av,Bp,B3⟩
       have AP:=yH Av
       have BY:=yH B3
       have HV:=yH hV
       clear Av B3 hV hr O AZ
       go_wp2_with fail
       go_roundw
       case rel=>
        refine ⟨k+1,g5,by omega,by rw [show (((64*(k+1):Nat):Int))=(I:Int)+64 from by have:=HII.out;omega],rfl,?_,K.out.trans (BY.out.mono K.out.size)⟩
        rw [Sm.blocks,← HV.out,← HII.out]
        exact AP.out
       case measure=>have:=HII.out;have:=HMM.out;simp [intOf];omega
      ·have BC:I=S:=by have:=HMM.out;omega
       clear hI
       have U:=HZ.out
       go_wp2_with fail
       obtain ⟨H,B0⟩:∃H,H=wr:=⟨_,rfl⟩
       rw [← B0] at HR K ⊢
       obtain ⟨V,hV⟩:∃V,V=Sm.blocks F Sm.first k:=⟨_,rfl⟩
       have AD:V.ok:=by rw [hV];exact Sm.blocks_ok Sm.first_ok k
       have hr:=HR.out
       rw [← hV] at hr
       have AE:Sm.bytesOf V=Sm.sum T:=by
        rw [hV,Sm.sum,← HF.out,← AR.out,HMM.out,Nat.mul_div_cancel_left M (by omega),show k=M from by omega]
       have BQ:=yH hr
       have BA:=yH (yL hr)
       have BK:=yH AD
       have Az:=yH AE
       have AG:B4Rel H V (.int .i64 0) (H.alloc (.cells (u8s (zeros 32)) 30)):=⟨0,by omega,rfl,heap_alloc_new H _,(Below.refl _ _).alloc (Nat.le_refl _) _⟩
       have HST4:=yH AG
       clear B0 hV hr AD AE AG U HR
       go_loopw [11] (fun i wr=>B4Rel H V i wr) (fun i _=>32 - (intOf i).toNat)
       case atStart=>exact HST4.out
       case round=>
        obtain ⟨B,C0,rfl,A,o⟩:=hrel
        have AA:=yH A
        have HB4:=yH o
        clear A o HST4
        by_cases hlt4:B<32
        ·obtain ⟨a,ha⟩:∃a,a=B/4:=⟨_,rfl⟩
         obtain ⟨r,hr⟩:∃r,r=B%4:=⟨_,rfl⟩
         have Bl:(B:Int)/4=(a:Int):=by omega
         have C1:(B:Int)%4=(r:Int):=by omega
         have Ad:a<8:=by omega
         have BG:r<4:=by omega
         have t:=y3W V a r Ad BG
         rw [show 4*a+r=B from by omega] at t
         have cx:wr.cell? ⟨g,a,none⟩=some (.int .u32 (V.list.getD a 0:Nat)):=(HB4.out.cell (p:=⟨g,a,none⟩) BA.out).trans (x0K BQ.out a Ad)
         have bx:V.list.getD a 0<4294967296:=v8_lt BK.out a
         obtain ⟨x,hx⟩:∃x,x=V.list.getD a 0:=⟨_,rfl⟩
         rw [← hx] at cx bx t
         obtain ⟨y,hy⟩:∃y,y=x/2^(24 - 8*r):=⟨_,rfl⟩
         have BS:(x:Int)/2^(24 - 8*r)=(y:Int):=by rw [hy,Int.natCast_ediv,Int.natCast_pow];rfl
         rw [← hy] at t
         have AM:((Sm.bytesOf V).take B).length=B:=by rw [List.length_take];exact Nat.min_eq_left (Nat.le_of_lt hlt4)
         have A4:=AA.out
         rw [show 32 - B=(32 - (B+1))+1 from by omega,x1X (Nat.succ_pos _),Nat.succ_sub_one] at A4
         have ck:wr.cell? ⟨H.heap.size,B,none⟩=some (.int .u8 (((Sm.bytesOf V).take B++0::zeros (32 - (B+1))).getD B 0:Nat)):=x1k A4 B (by rw [List.length_append,AM];simp)
         have fk:wr.frozen? ⟨H.heap.size,B,none⟩=false:=frozen_of_row wr _ B _ _ A4
         have W:(Sm.bytesOf V).take (B+1)=(Sm.bytesOf V).take B++[y%256]:=by
          rw [List.take_succ_eq_append_getElem (show B<(Sm.bytesOf V).length from hlt4),← t,List.getD_eq_getElem?_getD,List.getElem?_eq_getElem (show B<(Sm.bytesOf V).length from hlt4)];rfl
         have BB:=yH A4
         have BV:=yH AM
         have B7:=yH W
         have k0:(0:Int)≤B:=by omega
         clear hx hy ha hr t AM A4 W AA
         go_wp2_with fail
         go_roundw
         case rel=>
          refine ⟨B+1,by omega,by go_num,?_,HB4.out.setCell (Nat.le_refl _) _⟩
          rw [show (y:Int)%256=((y%256:Nat):Int) from by omega,heap_setCell_same _ _ _ _ _ _ BB.out,x6C _ _ _ _ B BV.out,B7.out,List.append_assoc]
          rfl
         case measure=>simp [intOf];omega
        ·obtain rfl:B=32:=by omega
         have A:wr.heap[H.heap.size]? =some (.cells (u8s (Sm.bytesOf V)) 30 (0,0)):=AA.out
         have AP:=yH A
         have Ac:Q<H.heap.size:=Nat.lt_of_lt_of_le (yL AV.out) K.out.size
         have HC:=yH (show wr.heap[Q]? =some (.cells (u8s (zeros 32)) 30 (0,0)) from (HB4.out.block Q Ac).trans ((K.out.block Q (yL AV.out)).trans AV.out))
         have Ap:Below w.heap.size w wr:=by
          have h3:Below W0.heap.size W0 H:=AF.out.trans (K.out.mono AF.out.size)
          have h4:Below W0.heap.size W0 wr:=h3.trans (HB4.out.mono h3.size)
          exact Ag.out.trans (h4.mono Ag.out.size)
         have BX:=yH Ap
         clear A Ac Ap AA
         go_wp2_with (first | (refine wpList_load_row (by rfl) 30 _ (by rfl) H.heap.size (by rfl) 30 _ (0,0) _ AP.out A25 (by rfl) (by exact S25) ?_) | (refine wpList_store_row (by rfl) 30 _ _ (by rfl) Q (u8s (Sm.bytesOf V)) (by rfl) (by rfl) _ _ HC.out (by exact S25) (by rfl) (x0b _) ?_))
         refine x0h 4 (by kernel_rfl) Q _ _ A25 S25 rfl (setRow_heap _ _ _ _ _ _ HC.out) rfl ⟨by rw [← Az.out],?_⟩
         exact Below.setRow BX.out (by rw [BI.out];exact Nat.le_refl _) _
end Go.Proofs.YtinihaflmdihaaaGreat
