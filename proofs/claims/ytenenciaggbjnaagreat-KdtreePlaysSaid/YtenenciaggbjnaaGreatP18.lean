/- NlSaySum, NlSay, NlGetNone, NlGet, NlGetUn, KdGet, KtSee. -/
import Derived.BigRegion
import Derived.Deep.MidRow
import Derived.Test.YtenenciaggbjnaaGreatP17
set_option maxRecDepth 100000
set_option maxHeartbeats 8000000
set_option linter.all false
namespace Go.Proofs.YtenenciaggbjnaaGreat
namespace Nd
open Go.RowKit Dk Pg
def y2w (w:World) (N:PN) (d:Int) (e:Ending) (w':World):Prop:=
 Below w.heap.size w w'/\
 (((N.right d=true/\N.size<=1048576)/\∃kd:Kd,e= .returned (.tuple #[.agg kd.cells.toArray,.int .i64 0])/\kd.pk=N.says/\kd.Ok w'/\Fsh w kd)\/
  (¬(N.right d=true/\N.size<=1048576)/\e= .returned (.tuple #[.agg kd0.cells.toArray,.int .i64 1])))
theorem x4f {w w':World} {N:PN} {d:Int} (h:¬(N.right d=true/\N.size<=1048576)) (hb:Below w.heap.size w w'):y2w w N d (.returned (.tuple #[.agg kd0.cells.toArray,.int .i64 1])) w':=⟨hb,Or.inr ⟨h,rfl⟩⟩
theorem y6X (kind:Nat) (hkd:kind<256) (p:Option Addr) (n c:Nat) (q:Option Addr) (m f:Nat) (E:List En) (K:List Kd) (d:Int) (w:World) (hE:EntsIn w p n c E) (hK:KidsIn w q m f K):
  Calls Tryz.prog 191 #[.agg #[.int .u8 kind,.slice p n c,.slice q m f],.int .i64 d,.func (.func 192) #[] #[]] w (y2w w (pnOf kind E K) d):=by
 have AM:=jA w (.cells #[.int .u8 kind,.slice p n c,.slice q m f] 97);have AH:=NodeAt.start w kind p n c q m f;have z1:(w.alloc (.cells #[.int .u8 kind,.slice p n c,.slice q m f] 97)).heap.size=w.heap.size+1:=by simp
 have At:=yH hkd;have HE:=yH hE;have HK:=yH hK;obtain ⟨du,AL,A6⟩:=UKd;have X:=yH AL;have Z:=yH A6;have HZ:=yH (zero_of_info kz);clear hkd hE hK AL A6;have B2:=HZ.1
 go_enter Tryz.func191,Tryz.ntmps191
 go_upto_region 1 with fail
 have l:Below (w.heap.size+1) (w.alloc (.cells #[.int .u8 kind,.slice p n c,.slice q m f] 97)) ((w.alloc (.cells #[.int .u8 kind,.slice p n c,.slice q m f] 97)).alloc (.cells kd0.cells.toArray 34)):=(jC _ _).alloc (by omega) _;have r2:=jE (w.alloc (.cells #[.int .u8 kind,.slice p n c,.slice q m f] 97)) (.cells kd0.cells.toArray 34);rw [z1] at r2;have v:=yH (AH.later (by rw [z1];exact l));have G:=yH (AM.trans (l.mono (by omega)));have t:=yH r2;clear AM AH z1 l r2;generalize (w.alloc (.cells #[.int .u8 kind,.slice p n c,.slice q m f] 97)).alloc (.cells kd0.cells.toArray 34)=w2 at *;have M:=yH (x6i kind At p n c q m f E K d w2 (HE.later G) (HK.later G));have i:=yH (fun U (h:Below w.heap.size w U) (hr:(pnOf kind E K).right d=true)=>x8d kind p n c q m f E K d U (HE.later h) (HK.later h) hr);have Af:=yH (fun (hr:(pnOf kind E K).right d=true)=>x1j (PN.fit hr) (fun k hk=>by obtain ⟨y,hy,rfl⟩:=kJ.1 hk;exact (HK.each y hy).len));generalize pnOf kind E K=N at *;obtain ⟨t0,t1,t2⟩:=v.cells;cases hr:N.right d with
 | false=>
  have u:=yH (show ¬(N.right d=true/\N.size<=1048576) from fun h=>by rw [hr] at h;exact absurd h.1 (by simp));have Q:=yH hr;clear hr;go_wp2_with (first
   | (go_at_call 254;refine M.mono ?_;rintro e U ⟨b,h3⟩;obtain rfl:e= .returned (.tuple #[.slice Option.none 0 0,.int .i64 1]):=(h3.elim (fun h=>by rw [Q.out] at h;exact absurd h.1 (by simp)) (fun h=>h.2));have J:=yH (yK b t);have I:=yH (G.trans (b.mono G.size));clear b h3)
   | (refine x05 (by rfl) (by rfl) x0T ?_)
   | (refine jL (by rfl) 34 _ _ (by rfl) (w.heap.size+1) kd0.cells.toArray (by rfl) (by rfl) _ _ J (by rw [jF,x02];exact SKd) rfl (jN Kd.one) ?_))
  have r9:=jT _ (w.heap.size+1) _ kd0.cells.toArray _ _ J;have z:Below (w.heap.size+1) U (U.setRow (w.heap.size+1) kd0.cells.toArray):=Below.setRow (jC _ _) (jB _) _;refine x0G 6 7 (by kernel_rfl) (w.heap.size+1) _ kd0.cells.toArray _ X Z (by rw [jF,x02];exact SKd) (by rfl) (by rfl) r9 ?_;exact x4f u (I.trans (z.mono (by omega)))
 | true=>
  have Q:=yH hr;have Am:=yH (Af.out hr);clear hr;go_upto_region 5 with (first
   | (go_at_call 254;refine M.mono ?_;rintro e U ⟨b,h3⟩;obtain ⟨q9,c9,rfl,o9,AY⟩:=(h3.elim (fun h=>h.2) (fun h=>by rw [Q.out] at h;exact absurd h.1 (by simp)));have AV:=yH (x0K o9 AY);have A7:=yH (v.later b);have J:=yH (yK b t);have I:=yH (G.trans (b.mono G.size));obtain ⟨t0,t1,t2⟩:=A7.cells;have AI:=yH (i.out U I Q);clear b h3 o9 AY)
   | (go_at_call 255;refine AI.mono ?_;rintro e H ⟨C,rfl,A8,g,A5,b4⟩;have AD:=yH A8;have A:=yH g;have Ae:=yH A5;have AC:=yH (AV.later b4);have A2:=yH (yK b4 J);have o:=yH (I.trans (b4.mono I.size));have AT:=yH b4.size;clear A8 g A5 b4)
   | (refine jL (by rfl) 34 (.tmp 10) (.tmp 22) (by rfl) H.heap.size C.cells.toArray (by rfl) (by rfl) _ _ (jE H _) (by rw [jF,Kd.cells_length A.len];exact SKd) (by simp only [jF,Kd.cells_length A.len,x02]) (jN Kd.one) ?_;rw [x03]))
  have AR:=jE H (.cells C.cells.toArray 34);have P:=jA H (.cells C.cells.toArray 34);have Ai:=yH (AC.later P);have A0:=yH (yK P A2);have A1:=yH (o.trans (P.mono o.size));have B:=yH (A.later P);have AK:=yH AR;have Y:=yH (show w.heap.size+1<U.heap.size/\U.heap.size<=H.heap.size from ⟨(yL J),AT.out⟩);have AB:=yH (show ∀r∈C.rows,r.Ok H/\(∀x,r.p=some x->r.R≠[]->U.heap.size<=x.block/\x.block<H.heap.size) from fun r hr=>by
   have AE:r.Ok H:=by
    simp only [Kd.rows,jW,jV,or_false] at hr;rcases hr with rfl | rfl | rfl
    ·exact A.lo
    ·exact A.hi
    ·exact A.key
   exact ⟨AE,fun x hx hR=>⟨Ae.out r hr x hx hR,x2W AE.ints hx hR⟩⟩)
  have A4:H.heap.size<(H.alloc (.cells C.cells.toArray 34)).heap.size:=by simp
  have B3:=yH A4;generalize H.alloc (.cells C.cells.toArray 34)=w5 at *;clear AR P A4 AC A2 AV J A7 AI M i t v G t0 t1 t2 I o;generalize H.heap.size=gk at *;have AJ:=(x0N AK B.len).size;rw [Nat.zero_add] at AJ;have AQ:C.size=N.size:=congrArg PK.size AD;by_cases hz:1048576<C.size
  ·have u:=yH (show ¬(N.right d=true/\N.size<=1048576) from fun h=>by have:=h.2;omega);clear AQ;go_wp2_with (first
    | (refine x05 (by rfl) (by rfl) x0T ?_)
    | (refine jL (by rfl) 34 _ _ (by rfl) (w.heap.size+1) kd0.cells.toArray (by rfl) (by rfl) _ _ A0 (by rw [jF,x02];exact SKd) rfl (jN Kd.one) ?_))
   have r9:=jT _ (w.heap.size+1) _ kd0.cells.toArray _ _ A0;have z:Below (w.heap.size+1) w5 (w5.setRow (w.heap.size+1) kd0.cells.toArray):=Below.setRow (jC _ _) (jB _) _;refine x0G 6 7 (by kernel_rfl) (w.heap.size+1) _ kd0.cells.toArray _ X Z (by rw [jF,x02];exact SKd) (by rfl) (by rfl) r9 ?_;exact x4f u (A1.trans (z.mono (by omega)))
  ·have Ap:=yH (show N.right d=true/\N.size<=1048576 from ⟨Q.out,by omega⟩);obtain ⟨D,hD⟩:∃D,D=sumOf N.bytes:=⟨_,rfl⟩
   have AN:=yH hD;have L:=yH (show D.length=32 from by rw [hD];rfl);have Ar:=yH (show Sm.allB D from by rw [hD];exact x3z _);clear AQ hD;have AG:=yH (x06 B);have s:=y0P N.bytes q9 N.bytes.length c9 w5 Ai Am;rw [<- AN.out] at s;have Ad:=yH s;clear s;go_upto_region 8 with (first
    | (go_at_call 192;refine Ad.mono ?_;rintro e w6 ⟨rfl,b6⟩;have AX:=yH (yK b6 AK);have Aa:=yH (yK b6 A0);have a:=yH (show ∀r∈C.rows,r.Ok w6 from fun r hr=>(AG.out r hr).later b6);have AP:=yH (A1.trans (b6.mono A1.size));clear b6)
    | (refine wpList_store_mid (by rfl) 30 _ _ (by rfl) gk 0 (u8s D) (by rfl) (by rfl) (by rw [x0C,L.out];exact x7W AX B.len) (by rw [x0C,L.out];exact S25) (x0f _) ?_))
   have r7:=y2H (D:=D) AX B.len L;have o7:=x1P w6 gk 0 (vals D);rw [show (u8s D).toList=vals D from rfl];have AW:=yH o7;have Ag:=yH r7;have AO:=yH ((o7.block _ (yL Aa) (by have:=Y.out;omega)).trans Aa.out);clear o7 r7;generalize w6.setCells gk 0 (vals D)=w7 at *;have W:=yH (show ({C with sum:=D}:Kd).cells.length=37 from Kd.cells_length L);have Aq:=yH (x0E Ag);clear AJ;go_wp2_with (first
    | (refine jK (by rfl) 34 _ (by rfl) gk 0 (by rfl) ({C with sum:=D}:Kd).cells du Aq X Z (by rw [W.out];exact SKd) ?_)
    | (refine jL (by rfl) 34 _ _ (by rfl) (w.heap.size+1) ({C with sum:=D}:Kd).cells.toArray (by rfl) (by rfl) _ _ AO (by rw [jF,W.out];exact SKd) (by simp only [jF,W.out,x02]) (jN Kd.one) ?_))
   have r9:=jT _ (w.heap.size+1) _ ({C with sum:=D}:Kd).cells.toArray _ _ AO;have O:∀r∈C.rows,r.Ok (w7.setRow (w.heap.size+1) ({C with sum:=D}:Kd).cells.toArray):=fun r hr=>rw_keep (a.out r hr) (fun x hx hR=>by
    have h9:=(AB.out r hr).2 x hx hR;have Aj:x.block<w6.heap.size:=x2W (a.out r hr).ints hx hR;rw [setRow_other _ _ _ _ (by have:=Y.out;omega)];exact AW.block _ Aj (by omega))
   refine x0G 6 7 (by kernel_rfl) (w.heap.size+1) _ ({C with sum:=D}:Kd).cells.toArray _ X Z (by rw [jF,W.out];exact SKd) (by rfl) (by rfl) r9 ?_;have AU:({C with sum:=D}:Kd).Ok (w7.setRow (w.heap.size+1) ({C with sum:=D}:Kd).cells.toArray):=⟨L.out,Ar.out,O _ (by simp [Kd.rows]),O _ (by simp [Kd.rows]),O _ (by simp [Kd.rows]),B.live,B.size⟩
   have AF:({C with sum:=D}:Kd).pk=N.says:=by
    have e4:=AD.out;unfold PN.says;rw [<- e4,<- AN.out];rfl
   have Ao:Fsh w ({C with sum:=D}:Kd):=fun r hr x hx hR=>by have:=((AB.out r hr).2 x hx hR).1;have:=Y.out;omega
   have Ah:Below w.heap.size w w7:=AP.trans (AW.below AP.size (fun j e=>by have:=Y.out;omega));exact ⟨Below.setRow Ah (by omega) _,Or.inl ⟨Ap.out,_,rfl,AF,AU,Ao⟩⟩
theorem y2x (kind:Nat) (hkd:kind<256) (p:Option Addr) (n c:Nat) (q:Option Addr) (m f:Nat) (E:List En) (K:List Kd) (d:Int) (w:World) (hE:EntsIn w p n c E) (hK:KidsIn w q m f K):
  Calls Tryz.prog 130 #[.agg #[.int .u8 kind,.slice p n c,.slice q m f],.int .i64 d] w (y2w w (pnOf kind E K) d):=by
 have l:=jA w (.cells #[.int .u8 kind,.slice p n c,.slice q m f] 97);have i:=NodeAt.start w kind p n c q m f;have z1:(w.alloc (.cells #[.int .u8 kind,.slice p n c,.slice q m f] 97)).heap.size=w.heap.size+1:=by simp
 have A1:=yH hkd;have HE:=yH hE;have HK:=yH hK;obtain ⟨du,j,Y⟩:=UKd;have U:=yH j;have b:=yH Y;have HZ:=yH (zero_of_info kz);clear hkd hE hK j Y;have A5:=HZ.1
 go_enter Tryz.func130,Tryz.ntmps130
 go_upto_region 1 with fail
 have O:Below (w.heap.size+1) (w.alloc (.cells #[.int .u8 kind,.slice p n c,.slice q m f] 97)) ((w.alloc (.cells #[.int .u8 kind,.slice p n c,.slice q m f] 97)).alloc (.cells kd0.cells.toArray 34)):=(jC _ _).alloc (by omega) _;have s:=jE (w.alloc (.cells #[.int .u8 kind,.slice p n c,.slice q m f] 97)) (.cells kd0.cells.toArray 34);rw [z1] at s;have z:=yH (i.later (by rw [z1];exact O));have A:=yH (l.trans (O.mono (by omega)));have Q:=yH s;clear l i z1 O s;generalize (w.alloc (.cells #[.int .u8 kind,.slice p n c,.slice q m f] 97)).alloc (.cells kd0.cells.toArray 34)=w2 at *;have I:=yH (y6X kind A1 p n c q m f E K d w2 (HE.later A) (HK.later A));generalize pnOf kind E K=N at *;obtain ⟨t0,t1,t2⟩:=z.cells;have R:=yH (show w.heap.size+1<w2.heap.size from (yL Q));by_cases hg:N.right d=true/\N.size<=1048576
 ·have W:=yH hg;clear hg;go_wp2_with (first
   | (go_at_call 191;refine I.mono ?_;rintro e g ⟨P,o⟩;obtain ⟨H,rfl,Z,M,k⟩:=(o.elim (fun h=>h.2) (fun h=>absurd W.out h.1));have C:=yH (yK P Q);have L:=yH (A.trans (P.mono A.size));clear P;have J:=yH (Kd.cells_length M.len);have y:=yH Z;have B:=yH M;have X:=yH k;clear Z M k)
   | (refine jL (by rfl) 34 _ _ (by rfl) (w.heap.size+1) H.cells.toArray (by rfl) (by rfl) _ _ C (by rw [jF,J.out];exact SKd) (by simp only [jF,J.out,x02]) (jN Kd.one) ?_))
  have v:=jT _ (w.heap.size+1) _ H.cells.toArray _ _ C;have G:∀r∈H.rows,r.Ok (g.setRow (w.heap.size+1) H.cells.toArray):=fun r hr=>rw_keep (x06 B r hr) (fun x hx hR=>setRow_other _ _ _ _ (by have:=X.out r hr x hx hR;have:=R.out;omega));refine x0G 4 5 (by kernel_rfl) (w.heap.size+1) _ H.cells.toArray _ U b (by rw [jF,J.out];exact SKd) (by rfl) (by rfl) v ?_;have a:H.Ok (g.setRow (w.heap.size+1) H.cells.toArray):=⟨B.len,B.ok,G _ (by simp [Kd.rows]),G _ (by simp [Kd.rows]),G _ (by simp [Kd.rows]),B.live,B.size⟩
  have u:Fsh w H:=fun r hr x hx hR=>by have:=X.out r hr x hx hR;have:=R.out;omega
  exact ⟨Below.setRow L (by omega) _,Or.inl ⟨W.out,H,rfl,y.out,a,u⟩⟩
 ·have W:=yH hg;clear hg;go_wp2_with (first
   | (go_at_call 191;refine I.mono ?_;rintro e g ⟨P,o⟩;obtain rfl:e= .returned (.tuple #[.agg kd0.cells.toArray,.int .i64 1]):=(o.elim (fun h=>absurd h.1 W) (fun h=>h.2));have C:=yH (yK P Q);have L:=yH (A.trans (P.mono A.size));clear P)
   | (refine jL (by rfl) 34 _ _ (by rfl) (w.heap.size+1) kd0.cells.toArray (by rfl) (by rfl) _ _ C (by rw [jF,x02];exact SKd) rfl (jN Kd.one) ?_))
  have v:=jT _ (w.heap.size+1) _ kd0.cells.toArray _ _ C;have t:Below (w.heap.size+1) g (g.setRow (w.heap.size+1) kd0.cells.toArray):=Below.setRow (jC _ _) (jB _) _;refine x0G 4 5 (by kernel_rfl) (w.heap.size+1) _ kd0.cells.toArray _ U b (by rw [jF,x02];exact SKd) (by rfl) (by rfl) v ?_;exact x4f W (L.trans (t.mono (by omega)))
theorem x49:Tryz.prog.built 97 []=some #[.int .u8 0,.slice none 0 0,.slice none 0 0]:=by kernel_rfl
theorem x2u:(#[.int .u8 0,.slice none 0 0,.slice none 0 0]:Array Value).all (·.oneCell')=true:=jN (cs:=[.int .u8 0,.slice none 0 0,.slice none 0 0]) fun u hu=>by
 simp only [jW,jV,or_false] at hu
 rcases hu with rfl | rfl | rfl<;>rfl
theorem y4e {g:Nat} {Q:Nat->Prop} {s:Pg.S} (k:Kd) (d:Int) (w:World) (hp:PL w g Q s) (hk:k.Ok w) (ht:x0J s.W k.sum=none):
  Calls Tryz.prog 67 #[.pointer (some ⟨g,0,none⟩),.agg k.cells.toArray,.int .i64 d] w fun e w'=>e= .returned (.tuple #[.agg #[.int .u8 0,.slice none 0 0,.slice none 0 0],.int .i64 21])/\Below w.heap.size w w':=by
 have L:=jA w (.cells k.cells.toArray 34);have Y:=jE w (.cells k.cells.toArray 34);have a:(w.alloc (.cells k.cells.toArray 34)).heap.size=w.heap.size+1:=by simp
 have G:Below (w.heap.size+1) (w.alloc (.cells k.cells.toArray 34)) ((w.alloc (.cells k.cells.toArray 34)).alloc (.cells #[.int .u8 0,.slice none 0 0,.slice none 0 0] 97)):=(jC _ _).alloc (by omega) _;have P:=jE (w.alloc (.cells k.cells.toArray 34)) (.cells #[.int .u8 0,.slice none 0 0,.slice none 0 0] 97);rw [a] at P;have N:=yH ((G.block _ (by omega)).trans Y);have X:=yH P;have H:=yH (L.trans (G.mono (by omega)));have Z:=yH hp;have E:=yH hk.len;have M:=yH hk.ok;have b:=yH ht;obtain ⟨i,I,B⟩:=UNo;have R:=yH I;have K:=yH B;clear L Y a G P hp hk ht I B
 go_enter Tryz.func67,Tryz.ntmps67
 go_upto_region 1 with fail
 generalize (w.alloc (.cells k.cells.toArray 34)).alloc (.cells #[.int .u8 0,.slice none 0 0,.slice none 0 0] 97)=w2 at *;have K2:=yH (x0N N E);have A:=yH (Z.keep (fun _=>False) (Only.of_below _ H) (fun _ _ e=>e));have J:=yH (y4M k.sum A E M b);clear Z A;go_wp2_with (first
  | (refine jK (by rfl) 30 _ (by rfl) _ 0 (by rfl) (vals k.sum) _ K2.sum A25 (by rfl) (by rw [x00,E.out];exact S25) ?_;rw [x07])
  | (go_at_call 128;refine J.mono ?_;rintro e h ⟨c,f,rfl,U⟩;have C:=yH (yK U X);have O:=yH (H.trans (U.mono H.size));clear U)
  | (refine x05 (by rfl) (by rfl) x49 ?_)
  | (refine jL (by rfl) 97 _ _ (by rfl) (w.heap.size+1) #[.int .u8 0,.slice none 0 0,.slice none 0 0] (by rfl) (by rfl) _ _ C SNo rfl x2u ?_))
 refine x0G 6 7 (by kernel_rfl) (w.heap.size+1) _ #[.int .u8 0,.slice none 0 0,.slice none 0 0] _ R K SNo (by rfl) (by rfl) (jT _ _ _ _ _ _ C) ?_;exact ⟨rfl,O.trans (Below.setRow (jC _ _) (by omega) _)⟩
theorem y4f {g:Nat} {Q:Nat->Prop} {s:Pg.S} (k:Kd) (d:Int) (t:List Nat) (w:World) (hp:PL w g Q s) (hk:k.Ok w) (ht:x0J s.W k.sum=some t) (hto:Sm.allB t) (htl:t.length<=100000) (hgood:(rdN 8 t).good d) (hz:(rdN 8 t).node.size<=1048576) (hsay:(rdN 8 t).node.says=k.pk):
  Calls Tryz.prog 67 #[.pointer (some ⟨g,0,none⟩),.agg k.cells.toArray,.int .i64 d] w fun e w'=>Below w.heap.size w w'/\∃kind p n c q m f E K,e= .returned (.tuple #[.agg #[.int .u8 (kind:Nat),.slice p n c,.slice q m f],.int .i64 0])/\EntsIn w' p n c E/\KidsIn w' q m f K/\pnOf kind E K=(rdN 8 t).node/\∃mid,Fresh w.heap.size mid w' p n c q m f E K:=by
 have AM:=jA w (.cells k.cells.toArray 34);have r1:=jE w (.cells k.cells.toArray 34);have z1:(w.alloc (.cells k.cells.toArray 34)).heap.size=w.heap.size+1:=by simp
 have A5:Below (w.heap.size+1) (w.alloc (.cells k.cells.toArray 34)) ((w.alloc (.cells k.cells.toArray 34)).alloc (.cells #[.int .u8 0,.slice none 0 0,.slice none 0 0] 97)):=(jC _ _).alloc (by omega) _;have r2:=jE (w.alloc (.cells k.cells.toArray 34)) (.cells #[.int .u8 0,.slice none 0 0,.slice none 0 0] 97);rw [z1] at r2;have A8:=yH ((A5.block _ (by omega)).trans r1);have AY:=yH r2;have O:=yH (AM.trans (A5.mono (by omega)));have HP:=yH hp;have J:=yH hk.len;have Ax:=yH hk.ok;have At:=yH hk;have HT:=yH ht;have Al:=yH hto;have As:=yH htl;have Av:=yH hgood;have AT:=yH (show (rdN 8 t).node.right d=true/\(rdN 8 t).node.size<=1048576 from ⟨hgood.2.2,hz⟩);have AH:=yH hsay;obtain ⟨N,hN⟩:∃N,(rdN 8 t).node=N:=⟨_,rfl⟩
 rw [hN] at AT AH ⊢;have B4:=yH hN;clear hN;obtain ⟨du,Ab,AG⟩:=UKd;have AE:=yH Ab;have AI:=yH AG;obtain ⟨dn,AN,X⟩:=UNo;have Au:=yH AN;have Ag:=yH X;have HZ:=yH (zero_of_info kz);clear AM r1 z1 A5 r2 hp hk ht hto htl hgood hz hsay Ab AG AN X;have Ap:=HZ.1
 go_enter Tryz.func67,Tryz.ntmps67
 go_upto_region 1 with fail
 generalize (w.alloc (.cells k.cells.toArray 34)).alloc (.cells #[.int .u8 0,.slice none 0 0,.slice none 0 0] 97)=w2 at *;have K2:=yH (x0N A8 J);have u:=yH (HP.keep (fun _=>False) (Only.of_below _ O) (fun _ _ e=>e));have P:=yH (y2f t k.sum u J Ax HT);clear HP u;go_upto_region 4 with (first
  | (refine jK (by rfl) 30 _ (by rfl) _ 0 (by rfl) (vals k.sum) _ K2.sum A25 (by rfl) (by rw [x00,J.out];exact S25) ?_;rw [x07])
  | (go_at_call 128;refine P.mono ?_;rintro e w3 ⟨q3,c3,rfl,o3,b3⟩;have Af:=yH (x0K o3 Al);have b:=yH (yK b3 A8);have I:=yH (yK b3 AY);have z:=yH (O.trans (b3.mono O.size));clear o3 b3))
 have a:=yH (x77 t q3 t.length c3 d w3 Af (by have:=As.out;omega));clear K2 P A8 AY O;go_upto_region 7 with (go_at_call 129;refine a.mono ?_;rintro e G ⟨b4,h4⟩;obtain ⟨kind,p,n,c,q,m,f,E,K,rfl,AX,A7,H,mid,r⟩:=(h4.elim (fun h=>h.2) (fun h=>absurd Av.out h.1));rw [B4.out] at A7;have AS:=yH AX;have AZ:=yH A7;have A4:=yH H;have AJ:=yH r;have x:=yH (yK b4 b);have i:=yH (yK b4 I);have A6:=yH (z.trans (b4.mono z.size));have BG:=yH b4.size;have Z:=yH (show w.heap.size+1<w3.heap.size from (yL I));clear b4 h4 AX A7 H r)
 have A:=jA G (.cells #[.int .u8 (kind:Nat),.slice p n c,.slice q m f] 97);have AB:=yH (NodeAt.start G kind p n c q m f);have Y:=yH (yK A x);have l:=yH (yK A i);have A2:=yH (A6.trans (A.mono A6.size));have AL:=yH (AS.out (G.alloc (.cells #[.int .u8 (kind:Nat),.slice p n c,.slice q m f] 97)) (fun j _ hj=>A.block j hj));have Ay:=yH (show ∀j,j<G.heap.size->(G.alloc (.cells #[.int .u8 (kind:Nat),.slice p n c,.slice q m f] 97)).heap[j]? =G.heap[j]? from fun j hj=>A.block j hj);have Ad:G.heap.size<(G.alloc (.cells #[.int .u8 (kind:Nat),.slice p n c,.slice q m f] 97)).heap.size:=by simp
 have B3:=yH Ad;generalize G.alloc (.cells #[.int .u8 (kind:Nat),.slice p n c,.slice q m f] 97)=w5 at *;clear A Ad x i b I A6 Af a z;obtain ⟨t0,t1,t2⟩:=AB.cells;have hsay:=y2x kind A4 p n c q m f E K d w5 AL.1 AL.2;rw [AZ.out] at hsay;have R:=yH hsay;clear hsay;go_upto_region 8 with (first
  | (go_at_call 130;refine R.mono ?_;rintro e C ⟨b6,h6⟩;obtain ⟨M,rfl,AV,A1,-⟩:=(h6.elim (fun h=>h.2) (fun h=>absurd AT.out h.1));have Az:=yH AV;have AU:=yH A1;have A3:=yH (Kd.cells_length A1.len);have Aa:=yH (AB.later b6);have U:=yH (yK b6 Y);have v:=yH (yK b6 l);have AA:=yH (A2.trans (b6.mono A2.size));have AW:=yH (show w5.heap.size<=C.heap.size/\∀j,j<w5.heap.size->C.heap[j]? =w5.heap[j]? from ⟨b6.size,fun j hj=>b6.block j hj⟩);clear b6 h6 AV A1)
  | (refine jL (by rfl) 34 (.tmp 11) (.tmp 35) (by rfl) C.heap.size M.cells.toArray (by rfl) (by rfl) _ _ (jE C _) (by rw [jF,A3.out];exact SKd) (by simp only [jF,A3.out,x02]) (jN Kd.one) ?_;rw [x03]))
 have A:=jA C (.cells M.cells.toArray 34);have AR:=jE C (.cells M.cells.toArray 34);have Ar:=yH (Aa.later A);have Ac:=yH (x0E (yK A U));have An:=yH (x0E AR);have AK:=yH (yK A v);have y:=yH (AA.trans (A.mono AA.size));have AP:=yH (AU.later A);have Ae:=yH (At.later y);have AO:=yH (show C.heap.size<=(C.alloc (.cells M.cells.toArray 34)).heap.size/\∀j,j<C.heap.size->(C.alloc (.cells M.cells.toArray 34)).heap[j]? =C.heap[j]? from ⟨A.size,fun j hj=>A.block j hj⟩);generalize C.alloc (.cells M.cells.toArray 34)=w7 at *;generalize C.heap.size=g6 at *;have Aq:=yH (Kd.cells_length J);have Am:=yH (kF (show M.pk=k.pk from by rw [Az.out,AH.out]));clear A AR Aa U v AA AU A2 Y l AB R t0 t1 t2 Ap;go_upto_region 10 with (first
  | (refine x0q (by rfl) 34 _ (by rfl) g6 0 (by rfl) M.cells du An AE AI (by rw [A3.out];exact SKd) ?_)
  | (refine x0q (by rfl) 34 _ (by rfl) w.heap.size 0 (by rfl) k.cells du Ac AE AI (by rw [Aq.out];exact SKd) ?_)
  | (go_at_call 83;refine (x5f M k w7 AP Ae).mono ?_;rintro e L ⟨rfl,b8⟩;rw [Am.out];have B1:=yH (Ar.later b8);have B:=yH (yK b8 AK);have Ai:=yH (y.trans (b8.mono y.size));have AQ:=yH (show w7.heap.size<=L.heap.size/\∀j,j<w7.heap.size->L.heap[j]? =w7.heap[j]? from ⟨b8.size,fun j hj=>b8.block j hj⟩);clear b8))
 obtain ⟨t0,t1,t2⟩:=B1.cells;have a0:=jH L (w.heap.size+1) 0 _ _ _ B;have a1:=jH L (w.heap.size+1) 1 _ _ _ B;have a2:=jH L (w.heap.size+1) 2 _ _ _ B;have f0:=jS L (w.heap.size+1) 0 _ _ B;have f1:=jS L (w.heap.size+1) 1 _ _ B;have f2:=jS L (w.heap.size+1) 2 _ _ B;go_wp2_with fail
 obtain ⟨r1,r2⟩:=x63 (a':=.int .u8 (kind:Nat)) (b':=.slice p n c) (c':=.slice q m f) B;have AF:∀j,w3.heap.size<=j->j<G.heap.size->(((L.setCell ⟨w.heap.size+1,0,none⟩ (.int .u8 (kind:Nat))).setCell ⟨w.heap.size+1,1,none⟩ (.slice p n c)).setCell ⟨w.heap.size+1,2,none⟩ (.slice q m f)).heap[j]? =G.heap[j]? :=fun j hj hj4=>by
  have h5:=B3.out;have h6:=AW.1;have h7:=AO.1;have h8:=AQ.1;have h3:=Z.out;rw [r2.block j (by omega) (by omega),AQ.2 j (by omega),AO.2 j (by omega),AW.2 j (by omega)];exact Ay.out j hj4
 have o:=AS.out _ AF;exact x0G 6 7 (by kernel_rfl) (w.heap.size+1) _ #[.int .u8 (kind:Nat),.slice p n c,.slice q m f] _ Au Ag SNo (by rfl) (by rfl) r1 ⟨Ai.trans (r2.below Ai.size (fun j e=>by omega)),kind,p,n,c,q,m,f,E,K,rfl,o.1,o.2,AZ.out,mid,(AJ.keep AF).down (by have:=Z.out;omega)⟩
theorem y1I {g:Nat} {Q:Nat->Prop} {s:Pg.S} (k:Kd) (d:Int) (t:List Nat) (w:World) (hp:PL w g Q s) (hk:k.Ok w) (ht:x0J s.W k.sum=some t) (hto:Sm.allB t) (htl:t.length<=100000) (hgood:(rdN 8 t).good d) (hz:(rdN 8 t).node.size<=1048576) (hsay:(rdN 8 t).node.says≠k.pk):
  Calls Tryz.prog 67 #[.pointer (some ⟨g,0,none⟩),.agg k.cells.toArray,.int .i64 d] w fun e w'=>e= .returned (.tuple #[.agg #[.int .u8 0,.slice none 0 0,.slice none 0 0],.int .i64 21])/\Below w.heap.size w w':=by
 have AI:=jA w (.cells k.cells.toArray 34);have r1:=jE w (.cells k.cells.toArray 34);have z1:(w.alloc (.cells k.cells.toArray 34)).heap.size=w.heap.size+1:=by simp
 have A4:Below (w.heap.size+1) (w.alloc (.cells k.cells.toArray 34)) ((w.alloc (.cells k.cells.toArray 34)).alloc (.cells #[.int .u8 0,.slice none 0 0,.slice none 0 0] 97)):=(jC _ _).alloc (by omega) _;have r2:=jE (w.alloc (.cells k.cells.toArray 34)) (.cells #[.int .u8 0,.slice none 0 0,.slice none 0 0] 97);rw [z1] at r2;have A7:=yH ((A4.block _ (by omega)).trans r1);have AQ:=yH r2;have O:=yH (AI.trans (A4.mono (by omega)));have HP:=yH hp;have L:=yH hk.len;have Ao:=yH hk.ok;have Ak:=yH hk;have HT:=yH ht;have Ad:=yH hto;have Aj:=yH htl;have Am:=yH hgood;have AM:=yH (show (rdN 8 t).node.right d=true/\(rdN 8 t).node.size<=1048576 from ⟨hgood.2.2,hz⟩);have AE:=yH hsay;obtain ⟨N,hN⟩:∃N,(rdN 8 t).node=N:=⟨_,rfl⟩
 rw [hN] at AM AE;have At:=yH hN;clear hN;obtain ⟨du,AS,AD⟩:=UKd;have AC:=yH AS;have AF:=yH AD;obtain ⟨dn,AJ,Y⟩:=UNo;have Al:=yH AJ;have AY:=yH Y;have HZ:=yH (zero_of_info kz);clear AI r1 z1 A4 r2 hp hk ht hto htl hgood hz hsay AS AD AJ Y;have Ag:=HZ.1
 go_enter Tryz.func67,Tryz.ntmps67
 go_upto_region 1 with fail
 generalize (w.alloc (.cells k.cells.toArray 34)).alloc (.cells #[.int .u8 0,.slice none 0 0,.slice none 0 0] 97)=w2 at *;have K2:=yH (x0N A7 L);have r:=yH (HP.keep (fun _=>False) (Only.of_below _ O) (fun _ _ e=>e));have R:=yH (y2f t k.sum r L Ao HT);clear HP r;go_upto_region 4 with (first
  | (refine jK (by rfl) 30 _ (by rfl) _ 0 (by rfl) (vals k.sum) _ K2.sum A25 (by rfl) (by rw [x00,L.out];exact S25) ?_;rw [x07])
  | (go_at_call 128;refine R.mono ?_;rintro e w3 ⟨q3,c3,rfl,o3,b3⟩;have AX:=yH (x0K o3 Ad);have b:=yH (yK b3 A7);have I:=yH (yK b3 AQ);have y:=yH (O.trans (b3.mono O.size));clear o3 b3))
 have a:=yH (x77 t q3 t.length c3 d w3 AX (by have:=Aj.out;omega));clear K2 R A7 AQ O;go_upto_region 7 with (go_at_call 129;refine a.mono ?_;rintro e J ⟨b4,h4⟩;obtain ⟨B,p,n,c,q,m,f,E,K,rfl,AP,A6,H,B4,o⟩:=(h4.elim (fun h=>h.2) (fun h=>absurd Am.out h.1));rw [At.out] at A6;have An:=yH AP;have Ap:=yH A6;have A3:=yH H;have Av:=yH o;have v:=yH (yK b4 b);have i:=yH (yK b4 I);have A5:=yH (y.trans (b4.mono y.size));have BD:=yH b4.size;have B0:=yH (show w.heap.size+1<w3.heap.size from (yL I));clear b4 h4 AP A6 H o)
 have A:=jA J (.cells #[.int .u8 (B:Nat),.slice p n c,.slice q m f] 97);have AA:=yH (NodeAt.start J B p n c q m f);have Z:=yH (yK A v);have l:=yH (yK A i);have A1:=yH (A5.trans (A.mono A5.size));have AH:=yH (An.out (J.alloc (.cells #[.int .u8 (B:Nat),.slice p n c,.slice q m f] 97)) (fun j _ hj=>A.block j hj));have BC:=yH (show ∀j,j<J.heap.size->(J.alloc (.cells #[.int .u8 (B:Nat),.slice p n c,.slice q m f] 97)).heap[j]? =J.heap[j]? from fun j hj=>A.block j hj);have AV:J.heap.size<(J.alloc (.cells #[.int .u8 (B:Nat),.slice p n c,.slice q m f] 97)).heap.size:=by simp
 have BE:=yH AV;generalize J.alloc (.cells #[.int .u8 (B:Nat),.slice p n c,.slice q m f] 97)=w5 at *;clear A AV v i b I A5 AX a y;obtain ⟨t0,t1,t2⟩:=AA.cells;have hsay:=y2x B A3 p n c q m f E K d w5 AH.1 AH.2;rw [Ap.out] at hsay;have U:=yH hsay;clear hsay;go_upto_region 8 with (first
  | (go_at_call 130;refine U.mono ?_;rintro e G ⟨z,h6⟩;obtain ⟨M,rfl,AO,A0,-⟩:=(h6.elim (fun h=>h.2) (fun h=>absurd AM.out h.1));have Aq:=yH AO;have AN:=yH A0;have A2:=yH (Kd.cells_length A0.len);have AR:=yH (AA.later z);have X:=yH (yK z Z);have u:=yH (yK z l);have A8:=yH (A1.trans (z.mono A1.size));have BA:=yH (show w5.heap.size<=G.heap.size/\∀j,j<w5.heap.size->G.heap[j]? =w5.heap[j]? from ⟨z.size,fun j hj=>z.block j hj⟩);clear z h6 AO A0)
  | (refine jL (by rfl) 34 (.tmp 11) (.tmp 35) (by rfl) G.heap.size M.cells.toArray (by rfl) (by rfl) _ _ (jE G _) (by rw [jF,A2.out];exact SKd) (by simp only [jF,A2.out,x02]) (jN Kd.one) ?_;rw [x03]))
 have A:=jA G (.cells M.cells.toArray 34);have AL:=jE G (.cells M.cells.toArray 34);have Ai:=yH (AR.later A);have AT:=yH (x0E (yK A X));have Af:=yH (x0E AL);have AG:=yH (yK A u);have x:=yH (A8.trans (A.mono A8.size));have AK:=yH (AN.later A);have AW:=yH (Ak.later x);have B6:=yH (show G.heap.size<=(G.alloc (.cells M.cells.toArray 34)).heap.size/\∀j,j<G.heap.size->(G.alloc (.cells M.cells.toArray 34)).heap[j]? =G.heap[j]? from ⟨A.size,fun j hj=>A.block j hj⟩);generalize G.alloc (.cells M.cells.toArray 34)=w7 at *;generalize G.heap.size=g6 at *;have Ah:=yH (Kd.cells_length L);have Ae:=yH (kE (show ¬M.pk=k.pk from by rw [Aq.out];exact AE.out));clear A AL AR X u A8 AN A1 Z l AA U t0 t1 t2 Ag;go_upto_region 9 with (first
  | (refine x0q (by rfl) 34 _ (by rfl) g6 0 (by rfl) M.cells du Af AC AF (by rw [A2.out];exact SKd) ?_)
  | (refine x0q (by rfl) 34 _ (by rfl) w.heap.size 0 (by rfl) k.cells du AT AC AF (by rw [Ah.out];exact SKd) ?_)
  | (go_at_call 83;refine (x5f M k w7 AK AW).mono ?_;rintro e P ⟨rfl,b8⟩;rw [Ae.out];have As:=yH (Ai.later b8);have C:=yH (yK b8 AG);have Aa:=yH (x.trans (b8.mono x.size));have B8:=yH (show w7.heap.size<=P.heap.size/\∀j,j<w7.heap.size->P.heap[j]? =w7.heap[j]? from ⟨b8.size,fun j hj=>b8.block j hj⟩);clear b8))
 clear As;have a0:=jH P (w.heap.size+1) 0 _ _ _ C;have a1:=jH P (w.heap.size+1) 1 _ _ _ C;have a2:=jH P (w.heap.size+1) 2 _ _ _ C;have f0:=jS P (w.heap.size+1) 0 _ _ C;have f1:=jS P (w.heap.size+1) 1 _ _ C;have f2:=jS P (w.heap.size+1) 2 _ _ C;go_wp2_with (refine x05 (by rfl) (by rfl) x49 ?_)
 obtain ⟨r1,r2⟩:=x63 (a':=.int .u8 0) (b':=.slice none 0 0) (c':=.slice none 0 0) C;exact x0G 6 7 (by kernel_rfl) (w.heap.size+1) _ #[.int .u8 0,.slice none 0 0,.slice none 0 0] _ Al AY SNo (by rfl) (by rfl) r1 ⟨rfl,Aa.trans (r2.below Aa.size (fun j e=>by omega))⟩
end Nd
namespace Kt
open Go.RowKit Nd Dk Pg
theorem x1B (w:World) (A B:Obj):∃W,(w.alloc A).alloc B=W/\W.heap[w.heap.size]? =some A/\W.heap[w.heap.size+1]? =some B/\Below w.heap.size w W:=by
 have H:=jE w A;have G:=jE (w.alloc A) B;have C:(w.alloc A).heap.size=w.heap.size+1:=by simp
 have b1:=jA w A;have E:Below (w.alloc A).heap.size (w.alloc A) ((w.alloc A).alloc B):=jA _ _;rw [C] at G;exact ⟨_,rfl,(E.block _ (by rw [C];omega)).trans H,G,b1.trans (E.mono b1.size)⟩
def x9R (w:World) (err:Int) (e:Ending) (w':World):Prop:=e= .returned (.tuple #[.agg #[.int .u8 0,.slice none 0 0,.slice none 0 0],.int .i64 err])/\Below w.heap.size w w'
theorem y1J (sp:Option Addr) (d:Int) (k:Kd) (ga oa:Nat) (w:World) (hk:k.Ok w) (hr:w.rangeAt ga oa k.cells) (he:k.pk=PK.none):
  Calls Tryz.prog 145 #[.agg #[.pointer sp,.int .i64 d],.pointer (some ⟨ga,oa,none⟩)] w (x9R w 0):=by
 obtain ⟨W,Z,R,N,b1⟩:=x1B w (.cells #[.pointer sp,.int .i64 d] 107) (.cells #[.int .u8 0,.slice none 0 0,.slice none 0 0] 97);have H:=yH (x21 k W (hk.later b1));rw [kF he] at H;have Q:=yH (x01 hr b1);have I:=yH (Kd.cells_length hk.len);have Y:=yH N;have P:=yH b1;obtain ⟨X,E,G⟩:=UKd;obtain ⟨b,B,A⟩:=UNo;have J:=yH E;have K:=yH G;have L:=yH B;have C:=yH A;clear hk hr he R N b1 E G B A
 go_enter Tryz.func145,Tryz.ntmps145
 go_upto_region 1 with fail
 clear Z;go_wp2_with (first
  | (refine jK (by rfl) 34 _ (by rfl) ga oa (by rfl) k.cells X Q J K (by rw [I.out];exact SKd) ?_)
  | (go_at_call 24;refine H.mono ?_;rintro _ a ⟨rfl,M⟩;have O:=yH (yK M Y);have U:=yH (P.trans (M.mono P.size));clear M)
  | (refine x05 (by rfl) (by rfl) x49 ?_)
  | (refine jL (by rfl) 97 _ _ (by rfl) (w.heap.size+1) #[.int .u8 0,.slice none 0 0,.slice none 0 0] (by rfl) (by rfl) _ _ O SNo rfl x2u ?_))
 refine x0G 4 5 (by kernel_rfl) (w.heap.size+1) _ #[.int .u8 0,.slice none 0 0,.slice none 0 0] _ L C SNo (by rfl) (by rfl) (jT _ _ _ _ _ _ O) ?_;exact ⟨rfl,U.trans (Below.setRow (jC _ _) (by omega) _)⟩
end Kt
namespace Kt
open Go.RowKit Nd Pg
inductive V where
 | nil:V
 | bad (k:PK):V
 | fork (row:List Int) (live:Bool) (l r:V):V
def V.kid:V->PK
 | .nil=>PK.none
 | .bad k=>k
 | .fork p v l r=>(forkN p v l.kid r.kid).says
def V.of:T->V
 | .nil=>.nil
 | .fork p v l r=>.fork p v (V.of l) (V.of r)
def V.whole:V->Bool
 | .nil=>true
 | .bad _=>false
 | .fork _ _ l r=>l.whole&&r.whole
theorem x1m:∀u:T,(V.of u).whole=true
 | .nil=>rfl
 | .fork p v l r=>by
  show ((V.of l).whole&&(V.of r).whole)=true
  rw [x1m l,x1m r]
  rfl
def V.tree:V->T
 | .nil=>.nil
 | .bad _=>.nil
 | .fork p v l r=>.fork p v l.tree r.tree
theorem x1C:∀ {u:T},u.size<=1048576->(V.of u).kid=u.kid
 | .nil,_=>rfl
 | .fork p v l r,h=>by
  have hz:(T.fork p v l r).size=1+l.size+r.size:=rfl
  rw [y0Q h]
  show (forkN p v (V.of l).kid (V.of r).kid).says=_
  rw [x1C (show l.size<=1048576 by omega),x1C (show r.size<=1048576 by omega)]
def Sees (W:Pages) (d:Nat):V->Prop
 | .nil=>True
 | .bad k=>k≠PK.none/\k.right d=true/\k.key=[]/\∀t N,x0J W k.sum=some t->Txt d t N->N.says≠k
 | .fork p v l r=>Txt d (forkN p v l.kid r.kid).bytes (forkN p v l.kid r.kid)/\x0J W (sumOf (forkN p v l.kid r.kid).bytes)=some (forkN p v l.kid r.kid).bytes/\Sees W d l/\Sees W d r
def Forks (d:Nat) (W:Pages):Prop:=∀x∈W,∃N,Txt d x.2 N/\N.kind=1
theorem y1K {n:PN} {d:Int} (h:n.right d=true) (hk:n.kind=1):∃p v a b,n=forkN p v a b/\(p.length:Int)=d/\a.right d=true/\b.right d=true/\a.key=[]/\b.key=[]:=by
 obtain ⟨I,H,E,C⟩:=x1a h;obtain ⟨G,A,B⟩:=n;simp only at hk E C;subst hk;unfold PN.right at h;split at h
 ·cases h
 split at h
 ·cases h
 split at h
 ·cases h
 rw [if_pos rfl] at h;split at h
 ·rename_i hl
  simp only at hl h
  match A,B,hl with
  |[e],[a,b],_=>
   refine ⟨e.row,e.live,a,b,rfl,E e (by simp),C a (by simp),C b (by simp),?_,?_⟩
   ·have:=List.all_eq_true.1 h a (by simp);exact jZ.1 (of_decide_eq_true this)
   ·have:=List.all_eq_true.1 h b (by simp);exact jZ.1 (of_decide_eq_true this)
 ·cases h
theorem x1G {k:PK} {d:Int} (h:k.right d=true):0<=k.size/\k.size<=1048576:=by
 unfold PK.right at h;split at h
 ·rename_i e
  rw [e];exact ⟨Int.le_refl _,by decide⟩
 ·split at h
  ·cases h
  ·omega
theorem y4g {d:Nat} {W:Pages} (hW:Forks d W):∀(n:Nat) (k:PK),k.size<=n->k.right d=true->k.key=[]->∃u:V,u.kid=k/\Sees W d u:=by
 intro n
 induction n with
 | zero=>
  intro k hn hk hy;by_cases h0:k=PK.none
  ·exact ⟨.nil,h0.symm,trivial⟩
  ·refine ⟨.bad k,rfl,h0,hk,hy,fun t N A B e=>?_⟩;have X:=x1G hk;unfold PK.right at hk;rw [if_neg h0] at hk;split at hk
   ·cases hk
   ·omega
 | succ n ih=>
  intro k hn hk hy;by_cases h0:k=PK.none
  ·exact ⟨.nil,h0.symm,trivial⟩
  ·by_cases hg:∃t N,x0J W k.sum=some t/\Txt d t N/\N.says=k
   ·obtain ⟨t,N,A,B,H⟩:=hg;obtain ⟨C,G,E⟩:∃C,Txt d t C/\C.kind=1:=by
     unfold x0J at A;split at A
     ·rename_i hi
      have:=hW _ (Pg.getD_mem hi);rw [Option.some.inj A] at this;exact this
     ·cases A
    obtain rfl:C=N:=G.node.symm.trans B.node;obtain ⟨p,v,a,b,rfl,Y,K,I,P,Q⟩:=y1K B.right E;have R:k.size=1+(a.size+b.size):=by
     rw [<- H];exact x0U p v a b
    have Z:=x1G K;have U:=x1G I;obtain ⟨l,J,M⟩:=ih a (by omega) K P;obtain ⟨r,L,O⟩:=ih b (by omega) I Q;refine ⟨.fork p v l r,?_,?_⟩
    ·show (forkN p v l.kid r.kid).says=k
     rw [J,L];exact H
    ·unfold Sees;rw [J,L,B.bytes];refine ⟨B,?_,M,O⟩;rw [<- A,<- H,<- B.bytes];rfl
   ·exact ⟨.bad k,rfl,h0,hk,hy,fun t N A B e=>hg ⟨t,N,A,B,e⟩⟩
theorem y1L {W:Pages} {d t:List Nat} (b:List Nat) (h:x0J W d=some t):x0J (putW W b) d=some t:=by
 unfold putW;split
 ·exact h
 ·unfold x0J at h ⊢;split at h
  ·rename_i hi
   have e:idx d (W++[(sumOf b,b)])=idx d W:=by
    refine y5W (by rw [jQ];omega) ?_ fun j hj=>?_
    ·rw [jG,kR hi,<- jG];exact x6n hi
    ·rw [jG,kR (by omega),<- jG];exact x2L hj
   rw [e,if_pos (by rw [jQ];omega),jG,kR hi,<- jG];exact h
  ·cases h
theorem x4A {d t:List Nat}:∀(L:List (List Nat)) {s:Pg.S},x0J s.W d=some t->x0J (L.foldl Pg.S.put s).W d=some t
 |[],_,h=>h
 | b::L,s,h=>x4A L (s:=s.put b) (y1L b h)
theorem y2y {s:Pg.S} {b:List Nat} (h:(s.put b).cl=none):s.cl=none:=by
 unfold Pg.S.put at h;cases hc:s.cl with
 | none=>rfl
 | some x=>rw [hc] at h;cases h
theorem x3J:∀(L:List (List Nat)) {s:Pg.S},(L.foldl Pg.S.put s).cl=none->s.cl=none
 |[],_,h=>h
 | b::L,s,h=>y2y (x3J L (s:=s.put b) h)
theorem x7o:∀(L:List (List Nat)) {s:Pg.S},(L.foldl Pg.S.put s).cl=none->∀b∈L,x0J (L.foldl Pg.S.put s).W (sumOf b)=some b
 |[],_,_,b,hb=>by cases hb
 | a::L,s,h,b,hb=>by
  rcases jW.1 hb with rfl | hb
  ·exact x4A L (s:=s.put b) (y69 (x3J L (s:=s.put b) h))
  ·exact x7o L (s:=s.put a) h b hb
theorem x1K {W W':Pages} {d:Nat} (h:∀x t,x0J W x=some t->x0J W' x=some t):∀ {u:V},u.whole=true->Sees W d u->Sees W' d u
 | .nil,_,_=>trivial
 | .bad _,hw,_=>by cases hw
 | .fork p v l r,hw,hs=>by
  have hw:(l.whole&&r.whole)=true:=hw
  rw [Bool.and_eq_true] at hw
  exact ⟨hs.1,h _ _ hs.2.1,x1K h hw.1 hs.2.2.1,x1K h hw.2 hs.2.2.2⟩
theorem x3K {d:Nat}:∀(L:List (List Nat)) {s:Pg.S},Forks d s.W->(∀b∈L,∃N,Txt d b N/\N.kind=1)->Forks d (L.foldl Pg.S.put s).W
 |[],_,h,_=>h
 | b::L,s,h,hL=>by
  refine x3K L (s:=s.put b) (fun x hx=>?_) fun c hc=>hL c (by simp [hc])
  have hx:x∈putW s.W b:=hx
  unfold putW at hx
  split at hx
  ·exact h x hx
  ·rcases jP.1 hx with hx | hx
   ·exact h x hx
   ·rw [kZ.1 hx]
    exact hL b (by simp)
theorem x0d {d:Nat} {W:Pages}:∀ {u:V},Sees W d u->u.kid.right d=true/\u.kid.key=[]
 | .nil,_=>⟨rfl,rfl⟩
 | .bad k,h=>⟨h.2.1,h.2.2.1⟩
 | .fork p v l r,h=>by
  refine ⟨x2M h.1.right ?_ h.1.size,rfl⟩
  have hl:=x1G (x0d h.2.2.1).1
  have hr:=x1G (x0d h.2.2.2).1
  rw [x0U]
  omega
end Kt
end Go.Proofs.YtenenciaggbjnaaGreat
