/- KdGetV, KdDown, KdWay, KdEach, KtWay. -/
import Derived.BigRegion
import Derived.Deep.MidRow
import Derived.LoopN
import Derived.Test.YtenenciaggbjnaaGreatP18
set_option maxRecDepth 100000
set_option maxHeartbeats 8000000
set_option linter.all false
namespace Go.Proofs.YtenenciaggbjnaaGreat
namespace Kt
open Go.RowKit Nd Dk Pg
open List renaming setIfInBounds_toArray -> yA, set_cons_zero -> yB, set_cons_succ -> yC
def NodeBad (gs:Nat) (k:Kd) (d:Int) (w:World):Prop:=∀w',Below w.heap.size w w'->Calls Tryz.prog 67 #[.pointer (some ⟨gs,0,none⟩),.agg k.cells.toArray,.int .i64 d] w' fun e w''=>e= .returned (.tuple #[.agg #[.int .u8 0,.slice none 0 0,.slice none 0 0],.int .i64 21])/\Below w'.heap.size w' w''
def NodeGood (gs:Nat) (k:Kd) (d:Int) (N:PN) (w:World):Prop:=∀w',Below w.heap.size w w'->Calls Tryz.prog 67 #[.pointer (some ⟨gs,0,none⟩),.agg k.cells.toArray,.int .i64 d] w' fun e w''=>Below w'.heap.size w' w''/\∃p n c q m f E K mid,e= .returned (.tuple #[.agg #[.int .u8 N.kind,.slice p n c,.slice q m f],.int .i64 0])/\pnOf N.kind E K=N/\Fresh w'.heap.size mid w'' p n c q m f E K
theorem x8j {gs:Nat} {Q:Nat->Prop} {s:Pg.S} {k:Kd} {d:Int} {w:World} (hp:PL w gs Q s) (hk:k.Ok w) (ht:x0J s.W k.sum=none):NodeBad gs k d w:=fun w' hb=>
 y4e k d w' (hp.keep (fun _=>False) (Only.of_below _ hb) (fun _ _ e=>e)) (hk.later hb) ht
theorem x9S {gs:Nat} {Q:Nat->Prop} {s:Pg.S} {k:Kd} {d:Int} {w:World} {t:List Nat} {N:PN} (hp:PL w gs Q s) (hk:k.Ok w) (ht:x0J s.W k.sum=some t) (hN:Txt d t N) (hs:N.says≠k.pk):NodeBad gs k d w:=fun w' hb=>by
 have h:=y1I k d t w' (hp.keep (fun _=>False) (Only.of_below _ hb) (fun _ _ e=>e)) (hk.later hb) ht hN.ok hN.len hN.good (by rw [hN.node];exact hN.size) (by rw [hN.node];exact hs)
 exact h
theorem x8k {gs:Nat} {Q:Nat->Prop} {s:Pg.S} {k:Kd} {d:Int} {w:World} {t:List Nat} {N:PN} (hp:PL w gs Q s) (hk:k.Ok w) (ht:x0J s.W k.sum=some t) (hN:Txt d t N) (hs:N.says=k.pk):NodeGood gs k d N w:=fun w' hb=>by
 have h:=y4f k d t w' (hp.keep (fun _=>False) (Only.of_below _ hb) (fun _ _ e=>e)) (hk.later hb) ht hN.ok hN.len hN.good (by rw [hN.node];exact hN.size) (by rw [hN.node];exact hs)
 refine h.mono ?_
 rintro e w'' ⟨hb2,kind,p,n,c,q,m,f,E,K,rfl,-,-,hpn,mid,hfr⟩
 rw [hN.node] at hpn
 have hkd:N.kind=kind:=by rw [<- hpn];rfl
 rw [hkd]
 exact ⟨hb2,p,n,c,q,m,f,E,K,mid,rfl,hpn,hfr⟩
theorem y4h {g:Nat} {d:Int} (k:Kd) (ga oa:Nat) (w:World) (hk:k.Ok w) (hr:w.rangeAt ga oa k.cells) (he:k.pk≠PK.none) (hg:NodeBad g k d w):
  Calls Tryz.prog 145 #[.agg #[.pointer (some ⟨g,0,none⟩),.int .i64 d],.pointer (some ⟨ga,oa,none⟩)] w (x9R w 21):=by
 obtain ⟨W,x,o,r,b1⟩:=x1B w (.cells #[.pointer (some ⟨g,0,none⟩),.int .i64 d] 107) (.cells #[.int .u8 0,.slice none 0 0,.slice none 0 0] 97);have I:=yH (x21 k W (hk.later b1));rw [kE he] at I;have c:=yH (x01 hr b1);have E:=yH (show ∀w',Below W.heap.size W w'->Calls Tryz.prog 67 #[.pointer (some ⟨g,0,none⟩),.agg k.cells.toArray,.int .i64 d] w' _ from fun w' hb=>hg w' (b1.trans (hb.mono b1.size)));have M:=yH (Kd.cells_length hk.len);have Q:=yH o;have p:=yH r;have h:=yH b1;obtain ⟨u,Z,P⟩:=UKd;obtain ⟨dn,O,G⟩:=UNo;have N:=yH Z;have U:=yH P;have f:=yH O;have Y:=yH G;clear hk hr he hg o r b1 Z P O G
 go_enter Tryz.func145,Tryz.ntmps145
 go_upto_region 1 with fail
 clear x;go_upto_region 3 with (first
  | (refine jK (by rfl) 34 _ (by rfl) ga oa (by rfl) k.cells u c N U (by rw [M.out];exact SKd) ?_)
  | (go_at_call 24;refine I.mono ?_;rintro _ L ⟨rfl,q⟩;have C:=yH q;clear q))
 have n:=(C.cell (jI (jH W w.heap.size 0 _ _ _ Q))).trans (jH W w.heap.size 0 _ _ _ Q);have s:=(C.cell (jI (jH W w.heap.size 1 _ _ _ Q))).trans (jH W w.heap.size 1 _ _ _ Q);have e:=yH (x01 c C);have X:=yH (fun w' (hb:Below L.heap.size L w')=>E.out w' (C.trans (hb.mono C.size)));have RS:=yH (yK C p);have m:=yH (h.trans (C.mono h.size));have z:=yH (show w.heap.size+2<=L.heap.size from (yL RS));clear E I c Q p h C;refine kD (S:=fun w'=>Below L.heap.size L w') (by kernel_rfl) (jC _ _).drew (fun hH=>?_);generalize L.drew=x0 at *;refine tK 0 ?_;refine tQ 1 ?_ ?_ ?_;rotate_left
 ·intro w' hSw;have y:=(hSw.cell (jI n)).trans n;go_simp;try with_reducible rfl
 refine tK 2 ?_;refine tK 3 ?_;refine tQ 4 ?_ ?_ ?_;rotate_left
 ·intro w' hSw;refine Eq.trans (b:=Result.ok (Next.value (.agg k.cells.toArray)) w') ?_ ?_
  ·exact x0F 34 (.tmp 17) (by rfl) ga oa (by rfl) k.cells u (x01 e hSw) N U (by rw [M.out];exact SKd)
  ·with_reducible rfl
 refine tK 5 ?_;refine tQ 6 ?_ ?_ ?_;rotate_left
 ·intro w' hSw;have y:=(hSw.cell (jI s)).trans s;go_simp;try with_reducible rfl
 refine rY [7,11] ?_;refine rC (fun K hK=>?_) (rC (fun K hK=>?_) AllReadyH.nil)
 focus
  go_simp;refine (X.out _ hH).mono ?_;rintro _ B ⟨rfl,b1⟩;have J:=hH.trans (b1.mono hH.size);try go_wp2_with fail
  refine hK.out _ _ J (fun hH=>?_);clear hK K;try simp only [Act.put,yA,yB,yC]
  refine tK 8 ?_;refine tK 9 ?_;refine tK 10 ?_;refine rO 11 fun K hK=>?_;go_simp;have a:=jA B (.cells #[.int .u8 0,.slice none 0 0,.slice none 0 0] 97);have H:=hH.trans (a.mono hH.size);have A:=yH (jE B (.cells #[.int .u8 0,.slice none 0 0,.slice none 0 0] 97));have j:=yH hH.size;try go_wp2_with fail
  refine hK.out _ _ H (fun hH=>?_);clear hK K;try simp only [Act.put,yA,yB,yC]
  generalize B.alloc (.cells #[.int .u8 0,.slice none 0 0,.slice none 0 0] 97)=l at *;refine rO 12 fun K hK=>?_;refine wp_store_row 97 (.tmp 6) (.tmp 22) (by rfl) B.heap.size #[.int .u8 0,.slice none 0 0,.slice none 0 0] (by rfl) (by rfl) _ _ A SNo rfl x2u ?_;have R:=Below.setRow hH j #[.int .u8 0,.slice none 0 0,.slice none 0 0];have v:=yH (jT _ _ _ #[.int .u8 0,.slice none 0 0,.slice none 0 0] _ _ A);refine hK.out _ _ R (fun hH=>?_);clear hK K;try simp only [Act.put,yA,yB,yC]
  generalize l.setRow B.heap.size #[.int .u8 0,.slice none 0 0,.slice none 0 0]=y1 at *
 rotate_left
 focus
  go_simp;have b1:=jA x0 (.cells #[.int .u8 0,.slice none 0 0,.slice none 0 0] 97);have J:=hH.trans (b1.mono hH.size);have i:=yH (jE x0 (.cells #[.int .u8 0,.slice none 0 0,.slice none 0 0] 97));have j:=yH hH.size;try go_wp2_with fail
  refine hK.out _ _ J (fun hH=>?_);clear hK K;try simp only [Act.put,yA,yB,yC]
  generalize x0.alloc (.cells #[.int .u8 0,.slice none 0 0,.slice none 0 0] 97)=B at *;refine rO 7 fun K hK=>?_;go_simp;refine (X.out _ hH).mono ?_;rintro _ l ⟨rfl,a⟩;have H:=hH.trans (a.mono hH.size);have A:=yH (yK a i);try go_wp2_with fail
  refine hK.out _ _ H (fun hH=>?_);clear hK K;try simp only [Act.put,yA,yB,yC]
  refine tK 8 ?_;refine tK 9 ?_;refine tK 10 ?_;refine rO 12 fun K hK=>?_;refine wp_store_row 97 (.tmp 6) (.tmp 22) (by rfl) x0.heap.size #[.int .u8 0,.slice none 0 0,.slice none 0 0] (by rfl) (by rfl) _ _ A SNo rfl x2u ?_;have R:=Below.setRow hH j #[.int .u8 0,.slice none 0 0,.slice none 0 0];have v:=yH (jT _ _ _ #[.int .u8 0,.slice none 0 0,.slice none 0 0] _ _ A);refine hK.out _ _ R (fun hH=>?_);clear hK K;try simp only [Act.put,yA,yB,yC]
  generalize l.setRow x0.heap.size #[.int .u8 0,.slice none 0 0,.slice none 0 0]=y1 at *
 rotate_left;all_goals
  refine tK 13 ?_;refine jD ?_;have t:=yH (yK R RS);go_wp2_with (first
   | (refine x05 (by rfl) (by rfl) x49 ?_)
   | (refine jL (by rfl) 97 _ _ (by rfl) (w.heap.size+1) #[.int .u8 0,.slice none 0 0,.slice none 0 0] (by rfl) (by rfl) _ _ t SNo rfl x2u ?_))
  refine x0G 4 5 (by kernel_rfl) (w.heap.size+1) _ #[.int .u8 0,.slice none 0 0,.slice none 0 0] _ f Y SNo (by rfl) (by rfl) (jT _ _ _ _ _ _ t) ?_;exact ⟨rfl,(m.trans (R.mono m.size)).trans (Below.setRow (jC _ _) (by omega) _)⟩
def y6Y (w:World) (N:PN) (e:Ending) (w':World):Prop:=∃p n c q m f E K mid,e= .returned (.tuple #[.agg #[.int .u8 1,.slice p n c,.slice q m f],.int .i64 0])/\pnOf 1 E K=N/\Fresh w.heap.size mid w' p n c q m f E K/\Below w.heap.size w w'
theorem x2v (kind:Nat) (p:Option Addr) (n c:Nat) (q:Option Addr) (m f:Nat):(#[.int .u8 kind,.slice p n c,.slice q m f]:Array Value).all (·.oneCell')=true:=jN (cs:=[.int .u8 kind,.slice p n c,.slice q m f]) fun u hu=>by
 simp only [jW,jV,or_false] at hu
 rcases hu with rfl | rfl | rfl<;>rfl
theorem x8l {g:Nat} {d:Int} {N:PN} (k:Kd) (ga oa:Nat) (w:World) (hk:k.Ok w) (hr:w.rangeAt ga oa k.cells) (he:k.pk≠PK.none) (hg:NodeGood g k d N w) (h1:N.kind=1):
  Calls Tryz.prog 145 #[.agg #[.pointer (some ⟨g,0,none⟩),.int .i64 d],.pointer (some ⟨ga,oa,none⟩)] w (y6Y w N):=by
 unfold NodeGood at hg;rw [h1] at hg;obtain ⟨W,hW,r0,r1,b1⟩:=x1B w (.cells #[.pointer (some ⟨g,0,none⟩),.int .i64 d] 107) (.cells #[.int .u8 0,.slice none 0 0,.slice none 0 0] 97);have Q:=yH (x21 k W (hk.later b1));rw [kE he] at Q;have RK:=yH (x01 hr b1);have L:=yH (show ∀w',Below W.heap.size W w'->Calls Tryz.prog 67 #[.pointer (some ⟨g,0,none⟩),.agg k.cells.toArray,.int .i64 d] w' _ from fun w' hb=>hg w' (b1.trans (hb.mono b1.size)));have e:=yH (Kd.cells_length hk.len);have z:=yH r0;have R1:=yH r1;have B1:=yH b1;obtain ⟨du,v,i⟩:=UKd;obtain ⟨dn,x,O⟩:=UNo;have h:=yH v;have o:=yH i;have X:=yH x;have G:=yH O;clear hk hr he hg h1 r0 r1 b1 v i x O
 go_enter Tryz.func145,Tryz.ntmps145
 go_upto_region 1 with fail
 clear hW;go_upto_region 3 with (first
  | (refine jK (by rfl) 34 _ (by rfl) ga oa (by rfl) k.cells du RK h o (by rw [e.out];exact SKd) ?_)
  | (go_at_call 24;refine Q.mono ?_;rintro _ M ⟨rfl,b3⟩;have J:=yH b3;clear b3))
 have c0:=(J.cell (jI (jH W w.heap.size 0 _ _ _ z))).trans (jH W w.heap.size 0 _ _ _ z);have c1:=(J.cell (jI (jH W w.heap.size 1 _ _ _ z))).trans (jH W w.heap.size 1 _ _ _ z);have AB:=yH (x01 RK J);have A0:=yH (fun w' (hb:Below M.heap.size M w')=>L.out w' (J.trans (hb.mono J.size)));have RS:=yH (yK J R1);have BW:=yH (B1.trans (J.mono B1.size));have SW:=yH (show w.heap.size+2<=M.heap.size from (yL RS));clear L Q RK z R1 B1 J;refine kD (S:=fun w'=>Below M.heap.size M w') (by kernel_rfl) (jC _ _).drew (fun hH=>?_);generalize M.drew=x0 at *;refine tK 0 ?_;refine tQ 1 ?_ ?_ ?_;rotate_left
 ·intro w' hSw;have y:=(hSw.cell (jI c0)).trans c0;go_simp;try with_reducible rfl
 refine tK 2 ?_;refine tK 3 ?_;refine tQ 4 ?_ ?_ ?_;rotate_left
 ·intro w' hSw;refine Eq.trans (b:=Result.ok (Next.value (.agg k.cells.toArray)) w') ?_ ?_
  ·exact x0F 34 (.tmp 17) (by rfl) ga oa (by rfl) k.cells du (x01 AB hSw) h o (by rw [e.out];exact SKd)
  ·with_reducible rfl
 refine tK 5 ?_;refine tQ 6 ?_ ?_ ?_;rotate_left
 ·intro w' hSw;have y:=(hSw.cell (jI c1)).trans c1;go_simp;try with_reducible rfl
 refine rY [7,11] ?_;refine rC (fun K hK=>?_) (rC (fun K hK=>?_) AllReadyH.nil)
 focus
  go_simp;refine (A0.out _ hH).mono ?_;rintro _ B ⟨b1,p,n,c,q,m,f,EE,KK,l,rfl,C,A⟩;have r:=yH C;have H:=yH A.ents.low;have I:=yH A.kids.low;have A7:=yH A;have R:=hH.trans (b1.mono hH.size);have U:=yH (show M.heap.size<=x0.heap.size from hH.size);clear C A;try go_wp2_with fail
  refine hK.out _ _ R (fun hH=>?_);clear hK K;try simp only [Act.put,yA,yB,yC]
  refine tK 8 ?_;refine tK 9 ?_;refine tK 10 ?_;refine rO 11 fun K hK=>?_;go_simp;have s:=jA B (.cells #[.int .u8 0,.slice none 0 0,.slice none 0 0] 97);have Z:=hH.trans (s.mono hH.size);have E:=yH (jE B (.cells #[.int .u8 0,.slice none 0 0,.slice none 0 0] 97));have AS:=yH hH.size;have P:=yH (A7.later s);try go_wp2_with fail
  refine hK.out _ _ Z (fun hH=>?_);clear hK K;try simp only [Act.put,yA,yB,yC]
  generalize B.alloc (.cells #[.int .u8 0,.slice none 0 0,.slice none 0 0] 97)=u at *;refine rO 12 fun K hK=>?_;refine wp_store_row 97 (.tmp 6) (.tmp 22) (by rfl) B.heap.size #[.int .u8 1,.slice p n c,.slice q m f] (by rfl) (by rfl) _ _ E SNo rfl (x2v 1 p n c q m f) ?_;have a:=Below.setRow hH AS #[.int .u8 1,.slice p n c,.slice q m f];have RY:=yH (jT _ _ _ #[.int .u8 1,.slice p n c,.slice q m f] _ _ E);have t:=yH (P.keepIn H I (fun j h1 h2 _=>setRow_other u B.heap.size j #[.int .u8 1,.slice p n c,.slice q m f] (by omega)));refine hK.out _ _ a (fun hH=>?_);clear hK K;try simp only [Act.put,yA,yB,yC]
  generalize u.setRow B.heap.size #[.int .u8 1,.slice p n c,.slice q m f]=y1 at *;refine tK 13 ?_;refine jD ?_;have R9:=yH (yK a RS);have A5:=jH y1 B.heap.size 0 _ _ _ RY;have Y:=yH (show y1.rangeAt B.heap.size 0 [.int .u8 1,.slice p n c,.slice q m f] from x47 RY);go_wp2_with (first
   | (refine jK (by rfl) 97 _ (by rfl) B.heap.size 0 (by rfl) [.int .u8 1,.slice p n c,.slice q m f] dn Y X G SNo ?_)
   | (refine jL (by rfl) 97 _ _ (by rfl) (w.heap.size+1) #[.int .u8 1,.slice p n c,.slice q m f] (by rfl) (by rfl) _ _ R9 SNo rfl (x2v 1 p n c q m f) ?_))
 rotate_left
 focus
  go_simp;have b1:=jA x0 (.cells #[.int .u8 0,.slice none 0 0,.slice none 0 0] 97);have R:=hH.trans (b1.mono hH.size);have A1:=yH (jE x0 (.cells #[.int .u8 0,.slice none 0 0,.slice none 0 0] 97));have AS:=yH hH.size;try go_wp2_with fail
  refine hK.out _ _ R (fun hH=>?_);clear hK K;try simp only [Act.put,yA,yB,yC]
  generalize x0.alloc (.cells #[.int .u8 0,.slice none 0 0,.slice none 0 0] 97)=B at *;refine rO 7 fun K hK=>?_;go_simp;refine (A0.out _ hH).mono ?_;rintro _ u ⟨s,p,n,c,q,m,f,EE,KK,l,rfl,C,A⟩;have r:=yH C;have H:=yH A.ents.low;have I:=yH A.kids.low;have P:=yH A;have Z:=hH.trans (s.mono hH.size);have AA:=yH (show x0.heap.size<B.heap.size from (yL A1));have U:=yH (show M.heap.size<=B.heap.size from hH.size);clear C A;have E:=yH (yK s A1);try go_wp2_with fail
  refine hK.out _ _ Z (fun hH=>?_);clear hK K;try simp only [Act.put,yA,yB,yC]
  refine tK 8 ?_;refine tK 9 ?_;refine tK 10 ?_;refine rO 12 fun K hK=>?_;refine wp_store_row 97 (.tmp 6) (.tmp 22) (by rfl) x0.heap.size #[.int .u8 1,.slice p n c,.slice q m f] (by rfl) (by rfl) _ _ E SNo rfl (x2v 1 p n c q m f) ?_;have a:=Below.setRow hH AS #[.int .u8 1,.slice p n c,.slice q m f];have RY:=yH (jT _ _ _ #[.int .u8 1,.slice p n c,.slice q m f] _ _ E);have t:=yH (P.keepIn H I (fun j h1 h2 _=>setRow_other u x0.heap.size j #[.int .u8 1,.slice p n c,.slice q m f] (by have:=AA.out;omega)));refine hK.out _ _ a (fun hH=>?_);clear hK K;try simp only [Act.put,yA,yB,yC]
  generalize u.setRow x0.heap.size #[.int .u8 1,.slice p n c,.slice q m f]=y1 at *;refine tK 13 ?_;refine jD ?_;have R9:=yH (yK a RS);have A5:=jH y1 x0.heap.size 0 _ _ _ RY;have Y:=yH (show y1.rangeAt x0.heap.size 0 [.int .u8 1,.slice p n c,.slice q m f] from x47 RY);go_wp2_with (first
   | (refine jK (by rfl) 97 _ (by rfl) x0.heap.size 0 (by rfl) [.int .u8 1,.slice p n c,.slice q m f] dn Y X G SNo ?_)
   | (refine jL (by rfl) 97 _ _ (by rfl) (w.heap.size+1) #[.int .u8 1,.slice p n c,.slice q m f] (by rfl) (by rfl) _ _ R9 SNo rfl (x2v 1 p n c q m f) ?_))
 rotate_left;all_goals
  refine x0G 4 5 (by kernel_rfl) (w.heap.size+1) _ #[.int .u8 1,.slice p n c,.slice q m f] _ X G SNo (by rfl) (by rfl) (jT _ _ _ _ _ _ R9) ?_;exact ⟨p,n,c,q,m,f,EE,KK,l,rfl,r.out,(t.keepIn H I (fun j h1 h2 _=>setRow_other y1 (w.heap.size+1) j _ (by have:=U.out;have:=SW.out;omega))).down (by have:=U.out;have:=SW.out;omega),(BW.trans (a.mono BW.size)).trans (Below.setRow (jC _ _) (by omega) _)⟩
theorem y4i {w:World} {r:Rw} (hr:r.Ok w):RowsIn (w.alloc (.cells #[r.val] 24)) (some ⟨w.heap.size,0,none⟩) 1 1 [r]:=by
 have b1:=jA w (.cells #[r.val] 24);refine ⟨rfl,jB _,fun t ht=>?_,Or.inr ⟨w.heap.size,0,rfl,fun i hi=>?_⟩⟩
 ·obtain rfl:=kZ.1 ht;exact hr.later b1
 ·obtain rfl:i=0:=by simpa using hi
  exact jH _ _ 0 _ _ _ (jE w _)
def y7Q (w:World) (err:Int) (e:Ending) (w':World):Prop:=e= .returned (.tuple #[.slice none 0 0,.int .i64 err])/\Below w.heap.size w w'
def x64 (sp:Option Addr) (d:Int) (ga oa:Nat) (err:Int) (w:World):Prop:=∀w',Below w.heap.size w w'->Calls Tryz.prog 145 #[.agg #[.pointer sp,.int .i64 d],.pointer (some ⟨ga,oa,none⟩)] w' (x9R w' err)
theorem x8m (sp:Option Addr) (d t err:Int) (ga oa:Nat) (fv:Value) (w:World) (hg:x64 sp d ga oa err w):
  Calls Tryz.prog 89 #[.agg #[.pointer sp,.int .i64 d],.pointer (some ⟨ga,oa,none⟩),.int .i64 t,fv] w fun e w'=>e= .returned (.int .i64 err)/\Below w.heap.size w w':=by
 have b1:=jA w (.cells #[.pointer sp,.int .i64 d] 107);have J:=jE w (.cells #[.pointer sp,.int .i64 d] 107);have N:=yH (hg _ b1);have Q:=yH (x09 J);have L:=yH b1;obtain ⟨O,G,E⟩:=UTr;have H:=yH G;have I:=yH E;clear hg b1 J G E
 go_enter Tryz.func89,Tryz.ntmps89
 go_upto_region 1 with fail
 generalize w.alloc (.cells #[.pointer sp,.int .i64 d] 107)=w1 at *;go_upto_region 2 with (first
  | (refine jK (by rfl) 107 _ (by rfl) w.heap.size 0 (by rfl) [.pointer sp,.int .i64 d] O Q H I STr ?_)
  | (go_at_call 145;refine N.mono ?_;rintro _ A ⟨rfl,M⟩;have K:=yH (L.trans (M.mono L.size));clear M)
  | (refine jL (by rfl) 97 (.tmp 9) _ (by rfl) A.heap.size #[.int .u8 0,.slice none 0 0,.slice none 0 0] (by rfl) (by rfl) _ _ (jE A _) SNo rfl x2u ?_;rw [x03]))
 have C:=jA A (.cells #[.int .u8 0,.slice none 0 0,.slice none 0 0] 97);have B:=jE A (.cells #[.int .u8 0,.slice none 0 0,.slice none 0 0] 97);generalize A.alloc (.cells #[.int .u8 0,.slice none 0 0,.slice none 0 0] 97)=w4 at *;have P:=yH (K.trans (C.mono K.size));have U:=jH w4 A.heap.size 1 _ _ _ B;have R:=jH w4 A.heap.size 2 _ _ _ B;clear C B;go_wp2_with fail
 refine wp_loop_rounds 1 ?_;rw [rounds_succ];go_wp2_with fail
 refine wp_loop_rounds 1 ?_;rw [rounds_succ];go_wp2_with fail
 (try simp only [Exit.inBlock,Exit.then])
 go_ret;exact ⟨rfl,P.out⟩
end Kt
namespace Kt
open Go.RowKit Nd Pg
structure St where
 row:List Int
 live:Bool
 l:V
 r:V
 side:Bool
 old:V
def wayV (d:Nat) (p:List Int):V->Nat->Option (List St×St)
 | .nil,_=>some ([],⟨p,false,.nil,.nil,false,.nil⟩)
 | .bad _,_=>none
 | .fork q v l r,t=>
  if ordC (t%d) p q=0 then some ([],⟨q,v,l,r,false,.fork q v l r⟩)
  else if 0<ordC (t%d) p q then (wayV d p r (t+1)).map fun x=>(⟨q,v,l,r,true,.fork q v l r⟩::x.1,x.2)
  else (wayV d p l (t+1)).map fun x=>(⟨q,v,l,r,false,.fork q v l r⟩::x.1,x.2)
def St.on (s:St):Int:=if s.side then s.r.kid.size else s.l.kid.size
def St.off (s:St):Int:=if s.side then s.l.kid.size else s.r.kid.size
def x0D:Nat->List St->Nat×Int×Int
 | i,[]=>(i,0,0)
 | i,s::L=>
  if (s.on+(x0D (i+1) L).2.2+s.off+1)*2/3+1<max (s.on+(x0D (i+1) L).2.2) s.off then (i,s.old.kid.live+1,s.old.kid.live+1 - s.old.kid.size)
  else ((x0D (i+1) L).1,s.on+(x0D (i+1) L).2.2+s.off+1,s.on+(x0D (i+1) L).2.2+s.off+1 - s.old.kid.size)
theorem x4B:∀(L:List St) (i:Nat),i<=(x0D i L).1/\(x0D i L).1<=i+L.length
 |[],i=>⟨jB _,jB _⟩
 | s::L,i=>by
  have h:=x4B L (i+1)
  unfold x0D
  rw [kI]
  split
  ·exact ⟨jB _,by omega⟩
  ·exact ⟨by simp only;omega,by simp only;omega⟩
def x0V:List St->V->V
 |[],k=>k
 | s::L,k=>if s.side then .fork s.row s.live s.l (x0V L k) else .fork s.row s.live (x0V L k) s.r
def V.rows:V->List (List Int)
 | .nil=>[]
 | .bad _=>[]
 | .fork p v l r=>(if v then [p] else [])++(l.rows++r.rows)
theorem x0s:∀u:T,(V.of u).rows.Perm u.all
 | .nil=>List.Perm.refl _
 | .fork p v l r=>by
  have h1:=x0s l
  have h2:=x0s r
  show ((if v then [p] else [])++((V.of l).rows++(V.of r).rows)).Perm (l.all++r.all++if v then [p] else [])
  exact List.perm_append_comm.trans ((h1.append h2).append_right _)
theorem x78 {a d:Nat} {L M:List (List Int)} (hL:∀y∈L,y.length=d) (hp:L.Perm M):sortP a L=sortP a M:=by
 have A:∀y∈M,y.length=d:=fun y hy=>hL y (hp.mem_iff.2 hy);exact x6s A ((x17 a L).trans hp) (x2D hL)
theorem x5N {d:Nat} {L M:List (List Int)} {t:Nat} (hL:∀y∈L,y.length=d) (hp:L.Perm M):lay L t=lay M t:=by
 have C:∀y∈M,y.length=d:=fun y hy=>hL y (hp.mem_iff.2 hy);by_cases h0:L=[]
 ·subst h0;rw [List.nil_perm.1 hp]
 ·have B:M≠[]:=fun e=>h0 (by rw [e] at hp;exact List.perm_nil.1 hp);have A:∀ {K:List (List Int)},K≠[]->(∀y∈K,y.length=d)->(K.headD []).length=d:=fun {K} hK hy=>by
   cases K with
   | nil=>exact absurd rfl hK
   | cons x K=>exact hy x (by simp)
  rw [x9q h0,x9q B,A h0 hL,A B C,x78 hL hp,hp.length_eq]
theorem x7p:∀(n:Nat) (L:List (List Int)) (t:Nat),L.length<=n->(layP n L t).all.Perm L
 | 0,L,t,h=>by
  obtain rfl:L=[]:=jZ.1 (by omega)
  exact List.Perm.refl _
 | n+1,L,t,h=>by
  rw [layP]
  by_cases hL:L=[]
  ·rw [if_pos hL,hL]
   exact List.Perm.refl _
  ·rw [if_neg hL]
   have hp:=kP.2 hL
   have l1:((sortP (t%(L.headD []).length) L).take (L.length/2)).length<=n:=by rw [kX,x0I];omega
   have B:((sortP (t%(L.headD []).length) L).drop (L.length/2+1)).length<=n:=by rw [kY,x0I];omega
   have C:=x7p n _ (t+1) l1
   have A:=x7p n _ (t+1) B
   refine List.Perm.trans ?_ (x17 (t%(L.headD []).length) L)
   generalize hS:sortP (t%(L.headD []).length) L=S at *
   have G:S.length=L.length:=by rw [<- hS,x0I]
   have E:L.length/2<S.length:=by omega
   show ((layP n (S.take (L.length/2)) (t+1)).all++(layP n (S.drop (L.length/2+1)) (t+1)).all++[S.getD (L.length/2) []]).Perm S
   refine ((C.append A).append_right _).trans ?_
   have e:S=S.take (L.length/2)++S.getD (L.length/2) []::S.drop (L.length/2+1):=by
    rw [jG,jM E];simp
   conv=>rhs;rw [e]
   rw [jR];exact List.Perm.append_left _ (List.perm_append_singleton _ _)
theorem y2z (L:List (List Int)) (t:Nat):(lay L t).all.Perm L:=x7p _ L t (jB _)
theorem x65 (u:T) (t:Nat):(light u t).all.Perm u.all:=by
 cases u with
 | nil=>exact List.Perm.refl _
 | fork p v l r=>
  unfold light;simp only;split
  ·exact y2z _ t
  ·exact List.Perm.refl _
theorem x2Q:∀(u:T) (p:List Int) (t:Nat),(x0A u p t).2=true->(x0A u p t).1.all.Perm (u.all++[p])
 | .nil,p,t,_=>List.Perm.refl _
 | .fork q v l r,p,t,h=>by
  unfold x0A at h ⊢
  split at h
  ·rename_i hq
   rw [if_pos hq]
   have hv:v=false:=by simpa using h
   refine (x65 (.fork q true l r) t).trans ?_
   subst hv hq
   show (l.all++r.all++[q]).Perm (l.all++r.all++[]++[q])
   rw [kW]
  ·rename_i hq
   rw [if_neg hq]
   split at h
   ·rename_i hl
    rw [if_pos hl]
    refine (x65 (.fork q v (x0A l p (t+1)).1 r) t).trans ?_
    show ((x0A l p (t+1)).1.all++r.all++if v then [q] else []).Perm (l.all++r.all++(if v then [q] else [])++[p])
    have A:=x2Q l p (t+1) h
    refine ((A.append_right _).append_right _).trans ?_
    rw [jR,jR,jR,jR]
    refine List.Perm.append_left _ ?_
    rw [<- jR r.all]
    exact List.perm_append_comm
   ·rename_i hl
    rw [if_neg hl]
    refine (x65 (.fork q v l (x0A r p (t+1)).1) t).trans ?_
    show (l.all++(x0A r p (t+1)).1.all++if v then [q] else []).Perm (l.all++r.all++(if v then [q] else [])++[p])
    have A:=x2Q r p (t+1) h
    rw [jR,jR,jR]
    refine List.Perm.append_left _ ?_
    refine (A.append_right _).trans ?_
    rw [jR]
    refine List.Perm.append_left _ ?_
    exact List.perm_append_comm
theorem x2w {a:Nat} {R S:List Int} (h:R.length=S.length):ordC a R S=0↔R=S:=by
 constructor
 ·intro h0;have H:lessP a R S=false:=by rw [Bool.eq_false_iff,Ne,<- x2j h];omega
  apply x22 h H;rw [Bool.eq_false_iff,Ne,<- x2j h.symm];intro h2;unfold ordC at h0 h2;have C:∀ {x y:Int},icmp x y=0->icmp y x=0:=fun {x y} e=>x1p.2 (x1p.1 e).symm;have E:∀A B:List Int,cmpL A B=0->cmpL B A=0:=by
   intro A
   induction A with
   | nil=>
    intro B h;cases B with
    | nil=>rfl
    | cons b B=>simp [cmpL] at h
   | cons a A ih=>
    intro B h;cases B with
    | nil=>simp [cmpL] at h
    | cons b B=>
     unfold cmpL at h ⊢;by_cases hab:icmp a b=0
     ·rw [if_pos hab] at h;rw [if_pos (C hab)];exact ih B h
     ·rw [if_neg hab] at h;exact absurd h hab
  split at h0
  ·rename_i e
   rw [if_pos (C e),E _ _ h0] at h2;exact absurd h2 (by decide)
  ·rename_i e
   exact e h0
 ·rintro rfl;have G:∀A:List Int,cmpL A A=0:=by
   intro A
   induction A with
   | nil=>rfl
   | cons a A ih=>
    unfold cmpL;rw [if_pos (x1p.2 rfl)];exact ih
  unfold ordC;rw [if_pos (x1p.2 rfl)];exact G R
def F (side:Bool) (q:List Int) (v:Bool) (c o:T):T:=if side then .fork q v o c else .fork q v c o
theorem y5c (side:Bool) (q:List Int) (v:Bool) (c o:T):(F side q v c o).size=1+c.size+o.size:=by
 unfold F;cases side
 ·rfl
 ·show 1+o.size+c.size=_
  omega
theorem F_all (side:Bool) (q:List Int) (v:Bool) (c o:T):(F side q v c o).all.Perm (c.all++(o.all++if v then [q] else [])):=by
 unfold F;cases side
 ·show (c.all++o.all++_).Perm _
  rw [jR]
 ·show (o.all++c.all++_).Perm _
  rw [<- jR];exact List.perm_append_comm.append_right _
theorem y6Z (side:Bool) (q:List Int) (v:Bool) (c o:T) (t:Nat):light (F side q v c o) t=if 2*(1+c.size+o.size)/3+1<max c.size o.size then lay (F side q v c o).all t else F side q v c o:=by
 cases side
 ·rfl
 ·show (if 2*(1+o.size+c.size)/3+1<max o.size c.size then _ else _)=_
  rw [Nat.max_comm,show 1+o.size+c.size=1+c.size+o.size from by omega];rfl
def Goes (u u':T) (p:List Int) (t:Nat) (A:List St) (s:St):Prop:=
 (x0D t (A++[s])).2.1=u'.size/\(x0D t (A++[s])).2.2=u'.size - u.size/\
 (((x0D t (A++[s])).1=t+(A++[s]).length/\x0V A (.fork s.row true s.l s.r)=V.of u')\/
  ((x0D t (A++[s])).1<t+(A++[s]).length/\∃st w,(A++[s])[(x0D t (A++[s])).1 - t]? =some st/\st.old=V.of w/\x0V ((A++[s]).take ((x0D t (A++[s])).1 - t)) (V.of (lay ((V.of w).rows++[p]) (x0D t (A++[s])).1))=V.of u'))
theorem x8n {d:Nat} {side:Bool} {q:List Int} {v:Bool} {c c' o:T} {p:List Int} {t:Nat} {A:List St} {s:St} (hd:(F side q v c o).dims d) (hp:p.length=d) (hz:(F side q v c o).size<1048576)
  (hc:c'.all.Perm (c.all++[p])) (h:Goes c c' p (t+1) A s):Goes (F side q v c o) (light (F side q v c' o) t) p t (⟨q,v,V.of (if side then o else c),V.of (if side then c else o),side,V.of (F side q v c o)⟩::A) s:=by
 obtain ⟨j,f,X⟩:=h;have E:=y5c side q v c o;have U:((V.of c).kid.size)=c.size:=by rw [x1C (by omega)];exact x0W c (by omega)
 have R:((V.of o).kid.size)=o.size:=by rw [x1C (by omega)];exact x0W o (by omega)
 have W:((V.of (F side q v c o)).kid.size)=(1+c.size+o.size:Nat):=by rw [x1C (by omega),x0W _ (by omega),E]
 have a:((V.of (F side q v c o)).kid.live)=((F side q v c o).all.length:Nat):=by rw [x1C (by omega),x3H _ (by omega),x2p]
 have e:=x4B (A++[s]) (t+1);have Q:(St.mk q v (V.of (if side then o else c)) (V.of (if side then c else o)) side (V.of (F side q v c o))).on=c.size:=by
  unfold St.on;cases side
  ·exact U
  ·exact U
 have K:(St.mk q v (V.of (if side then o else c)) (V.of (if side then c else o)) side (V.of (F side q v c o))).off=o.size:=by
  unfold St.off;cases side
  ·exact R
  ·exact R
 have H:(F side q v c' o).all.Perm ((V.of (F side q v c o)).rows++[p]):=by
  refine (F_all side q v c' o).trans ?_;refine (hc.append_right _).trans ?_;refine List.Perm.trans ?_ (((x0s _).trans (F_all side q v c o)).append_right [p]).symm;rw [jR,jR];refine List.Perm.append_left _ ?_;exact List.perm_append_comm
 have O:∀y∈(F side q v c' o).all,y.length=d:=fun y G=>by
  have G:=H.mem_iff.1 G;rcases jP.1 G with G | G
  ·exact x1E hd y ((x0s _).mem_iff.1 G)
  ·rw [kZ.1 G];exact hp
 have L:=x5N (t:=t) O H;have J:(F side q v c' o).all.length=(F side q v c o).all.length+1:=by
  rw [H.length_eq,jQ,(x0s _).length_eq];rfl
 unfold Goes;rw [List.cons_append];generalize hst:St.mk q v (V.of (if side then o else c)) (V.of (if side then c else o)) side (V.of (F side q v c o))=st at *;have B:st.old=V.of (F side q v c o):=by rw [<- hst]
 unfold x0D;rw [Q,K,f];have i:((c.size:Int)+((c'.size:Int) - c.size)+o.size+1)=((1+c'.size+o.size:Nat):Int):=by omega
 have b:((c.size:Int)+((c'.size:Int) - c.size))=(c'.size:Int):=by omega
 rw [i,b,y6Z];by_cases hh:2*(1+c'.size+o.size)/3+1<max c'.size o.size
 ·have I:((1+c'.size+o.size:Nat):Int)*2/3+1<max (c'.size:Int) o.size:=by omega
  rw [if_pos hh,if_pos I];simp only;rw [B,a,W,x1X,J,E];refine ⟨by omega,by omega,Or.inr ⟨by rw [kI];omega,st,F side q v c o,?_,B,?_⟩⟩
  ·rw [Nat.sub_self];rfl
  ·rw [Nat.sub_self,List.take_zero,<- L];rfl
 ·have I:¬((1+c'.size+o.size:Nat):Int)*2/3+1<max (c'.size:Int) o.size:=by omega
  rw [if_neg hh,if_neg I];simp only;rw [B,W,y5c,E];have C:∀x y,x0V (st::x) y=if side then .fork q v (V.of o) (x0V x y) else .fork q v (x0V x y) (V.of o):=fun x y=>by
   rw [<- hst];show (if side then V.fork q v (V.of (if side then o else c)) (x0V x y) else V.fork q v (x0V x y) (V.of (if side then c else o)))=_
   cases side<;>rfl
  have M:V.of (F side q v c' o)=if side then .fork q v (V.of o) (V.of c') else .fork q v (V.of c') (V.of o):=by cases side<;>rfl
  refine ⟨rfl,rfl,?_⟩;rw [kI];rcases X with ⟨Z,N⟩ | ⟨Z,P,w,N,Y,g⟩
  ·refine Or.inl ⟨by omega,?_⟩;rw [C,N,M]
  ·refine Or.inr ⟨by omega,P,w,?_,Y,?_⟩
   ·rw [show (x0D (t+1) (A++[s])).1 - t=((x0D (t+1) (A++[s])).1 - (t+1))+1 from by omega,List.getElem?_cons_succ];exact N
   ·rw [show (x0D (t+1) (A++[s])).1 - t=((x0D (t+1) (A++[s])).1 - (t+1))+1 from by omega,List.take_succ_cons,C,g,M]
theorem y4j {d:Nat} {q:List Int} {l r:T} {t:Nat} (hd:(T.fork q false l r).dims d) (hz:(T.fork q false l r).size<1048576):Goes (.fork q false l r) (light (.fork q true l r) t) q t [] ⟨q,false,V.of l,V.of r,false,V.of (.fork q false l r)⟩:=by
 have C:(T.fork q false l r).size=1+l.size+r.size:=rfl;have N:(V.of l).kid.size=l.size:=by rw [x1C (by omega)];exact x0W l (by omega)
 have O:(V.of r).kid.size=r.size:=by rw [x1C (by omega)];exact x0W r (by omega)
 have L:(V.of (.fork q false l r)).kid.size=(1+l.size+r.size:Nat):=by rw [x1C (by omega),x0W _ (by omega),C]
 have Q:(V.of (.fork q false l r)).kid.live=((T.fork q false l r).all.length:Nat):=by rw [x1C (by omega),x3H _ (by omega),x2p]
 have G:(T.fork q true l r).all.Perm ((V.of (.fork q false l r)).rows++[q]):=by
  refine List.Perm.trans ?_ ((x0s _).append_right [q]).symm;show (l.all++r.all++[q]).Perm (l.all++r.all++[]++[q])
  rw [kW]
 have H:(T.fork q true l r).all.length=(T.fork q false l r).all.length+1:=by
  rw [G.length_eq,jQ,(x0s _).length_eq];rfl
 have E:=x5N (t:=t) (d:=d) (fun y hy=>x1E (u:=.fork q true l r) ⟨hd.1,hd.2.1,hd.2.2⟩ y hy) G;have K:(St.mk q false (V.of l) (V.of r) false (V.of (.fork q false l r))).on=l.size:=N;have J:(St.mk q false (V.of l) (V.of r) false (V.of (.fork q false l r))).off=r.size:=O;have A:(St.mk q false (V.of l) (V.of r) false (V.of (.fork q false l r))).old=V.of (.fork q false l r):=rfl;have I:V.fork (St.mk q false (V.of l) (V.of r) false (V.of (.fork q false l r))).row true (St.mk q false (V.of l) (V.of r) false (V.of (.fork q false l r))).l (St.mk q false (V.of l) (V.of r) false (V.of (.fork q false l r))).r=V.of (.fork q true l r):=rfl;have M:x0D (t+1) []=(t+1,0,0):=rfl;unfold Goes;rw [kV,I];generalize St.mk q false (V.of l) (V.of r) false (V.of (.fork q false l r))=st at *;unfold x0D light;rw [M,K,J];have P:((l.size:Int)+0+r.size+1)=((1+l.size+r.size:Nat):Int):=by omega
 simp only;rw [P,Int.add_zero];by_cases hh:2*(1+l.size+r.size)/3+1<max l.size r.size
 ·have B:((1+l.size+r.size:Nat):Int)*2/3+1<max (l.size:Int) r.size:=by omega
  rw [if_pos hh,if_pos B];simp only;rw [A,Q,L,x1X,H,C];refine ⟨by omega,by omega,Or.inr ⟨by simp,st,_,?_,A,?_⟩⟩
  ·rw [Nat.sub_self];rfl
  ·rw [Nat.sub_self,List.take_zero,<- E];rfl
 ·have B:¬((1+l.size+r.size:Nat):Int)*2/3+1<max (l.size:Int) r.size:=by omega
  rw [if_neg hh,if_neg B];simp only;rw [A,L,C];exact ⟨by rw [show (T.fork q true l r).size=1+l.size+r.size from rfl],by rw [show (T.fork q true l r).size=1+l.size+r.size from rfl],Or.inl ⟨rfl,rfl⟩⟩
theorem x3L {d:Nat} {p:List Int} (hp:p.length=d):∀(u:T) (t:Nat),u.dims d->u.size<1048576->∃A s,wayV d p (V.of u) t=some (A,s)/\s.live= !(x0A u p t).2/\(s.live=false->Goes u (x0A u p t).1 p t A s)
 | .nil,t,_,_=>⟨[],_,rfl,rfl,fun _=>⟨rfl,rfl,Or.inl ⟨rfl,rfl⟩⟩⟩
 | .fork q v l r,t,hd,hz=>by
  have hzz:(T.fork q v l r).size=1+l.size+r.size:=rfl
  have hl:p.length=q.length:=hp.trans hd.1.symm
  have hw:wayV d p (V.of (.fork q v l r)) t=(if ordC (t%d) p q=0 then some ([],⟨q,v,V.of l,V.of r,false,V.of (.fork q v l r)⟩)
   else if 0<ordC (t%d) p q then (wayV d p (V.of r) (t+1)).map fun x=>(⟨q,v,V.of l,V.of r,true,V.of (.fork q v l r)⟩::x.1,x.2)
   else (wayV d p (V.of l) (t+1)).map fun x=>(⟨q,v,V.of l,V.of r,false,V.of (.fork q v l r)⟩::x.1,x.2)):=rfl
  rw [hw]
  have hlt:=x2j (a:=t%d) hl
  unfold x0A
  rw [hp]
  by_cases h0:ordC (t%d) p q=0
  ·have hq:q=p:=((x2w hl).1 h0).symm
   rw [if_pos h0,if_pos hq]
   refine ⟨[],_,rfl,by simp,fun hv=>?_⟩
   have hv:v=false:=hv
   subst hv hq
   exact y4j hd hz
  ·have hq:¬q=p:=fun e=>h0 ((x2w hl).2 e.symm)
   rw [if_neg h0,if_neg hq]
   by_cases h1:0<ordC (t%d) p q
   ·rw [if_pos h1,if_neg (fun e=>by have:=hlt.2 e;omega)]
    obtain ⟨A,s,h2,h3,h4⟩:=x3L hp r (t+1) hd.2.2 (by omega)
    refine ⟨_::A,s,by rw [h2];rfl,h3,fun hs=>?_⟩
    have hi:(x0A r p (t+1)).2=true:=by rw [hs] at h3;simpa using h3.symm
    exact x8n (side:=true) (c:=r) (o:=l) hd hp hz (x2Q r p (t+1) hi) (h4 hs)
   ·rw [if_neg h1,if_pos (hlt.1 (by omega))]
    obtain ⟨A,s,h2,h3,h4⟩:=x3L hp l (t+1) hd.2.1 (by omega)
    refine ⟨_::A,s,by rw [h2];rfl,h3,fun hs=>?_⟩
    have hi:(x0A l p (t+1)).2=true:=by rw [hs] at h3;simpa using h3.symm
    exact x8n (side:=false) (c:=l) (o:=r) hd hp hz (x2Q l p (t+1) hi) (h4 hs)
end Kt
end Go.Proofs.YtenenciaggbjnaaGreat
