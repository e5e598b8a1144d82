/- ShaDone, ShaHash, PgHashS, PgBEq, PgPutL, NlSayPut, NlPut. -/
import Derived.Test.YtenenciaggbjnaaGreatP14
set_option maxRecDepth 100000
set_option maxHeartbeats 8000000
set_option linter.all false
namespace Go.Proofs.YtenenciaggbjnaaGreat
section
open Go.RowKit
theorem x46 (T B:List Nat) (g:Nat) (p:Option Addr) (len cap:Nat) (w:World) (hs:StateAt w g T)
  (hB:Bytes w p len cap B) (hn:B≠[]->∀a,p=some a->a.block≠g) (hl:(T++B).length<1152921504606846976):
  Calls Tryz.prog 301 #[.pointer (some ⟨g,0,none⟩),.slice p len cap] w fun e w'=>e= .returned (.tuple #[])/\StateAt w' g (T++B)/\w.grownBy w' (some g):=by
 obtain ⟨v,C,E,A⟩:=hs;by_cases h0:T=[]
 ·exact y6L T B g p len cap w h0 v C E A hB hn hl
 ·by_cases h1:T.length%64=0
  ·exact y6K T B g p len cap w h0 h1 v C E A hB hn hl
  ·by_cases h2:T.length%64+len<64
   ·exact y6M T B g p len cap w _ rfl (by omega) h2 v C E A hB hn hl
   ·exact y6N T B g p len cap w _ (64 - T.length%64) rfl (by omega) (by omega) (by omega) v C E A hB hn hl
theorem U36':(match Tryz.prog.underlying 359 with | some (.struct _)=>true | _=>false)=true:=by kernel_rfl
theorem U36:∃fs,Tryz.prog.underlying 359=some (.struct fs):=by
 have h:=U36';split at h
 ·rename_i fs hfs;exact ⟨fs,hfs⟩
 ·cases h
def zero8:Sm.V8:=⟨0,0,0,0,0,0,0,0⟩
theorem Z36:(Tryz.prog.info? 359).map (fun i=>(i.zero,i.size))=some (some (.agg (stL zero8 (zeros 64) 0).toArray),73):=by kernel_rfl
theorem y2k:Held [] zero8 (zeros 64):=
 ⟨fun x hx=>by simp at hx,⟨by decide,by decide,by decide,by decide,by decide,by decide,by decide,by decide⟩,by decide,fun h=>absurd rfl h,by simp [zeros],x2C 64,by simp⟩
theorem y1B {w:World} {g:Nat} (h:w.heap[g]? =some (.cells (stL zero8 (zeros 64) 0).toArray 359 (0,0))):StateAt w g []:=⟨_,_,y2k,h⟩
theorem y6O (v:Sm.V8) (bl:List Nat) (L:Nat):((stL v bl L).toArray).all (·.oneCell')=true:=
 jN fun u hu=>by
  simp only [stL,jP,kZ] at hu
  rcases hu with (hu | hu) | rfl
  ·exact x4b _ u hu
  ·exact x0L _ u hu
  ·rfl
theorem x5L (v:Sm.V8) (bl:List Nat) (L:Nat) (h:bl.length=64):((stL v bl L).toArray).size=73:=by simp [y1A v bl L h]
theorem StateAt.later {w w':World} {g:Nat} {T:List Nat} (h:StateAt w g T) (hb:Below w.heap.size w w'):StateAt w' g T:=by
 obtain ⟨v,B,C,A⟩:=h;exact ⟨v,B,C,(hb.block _ (yL A)).trans A⟩
theorem StateAt.lt {w:World} {g:Nat} {T:List Nat} (h:StateAt w g T):g<w.heap.size:=by
 obtain ⟨v,B,C,A⟩:=h;exact (yL A)
theorem x7k (B:List Nat):(u8s (Sm.sum B)).size=32:=rfl
theorem x4c (v:Sm.V8):(u8s (Sm.bytesOf v)).size=32:=rfl
theorem y4O (T:List Nat) (g:Nat) (w:World) (hs:StateAt w g T) (hl:T.length<576460752303423488):
  Calls Tryz.prog 303 #[.pointer (some ⟨g,0,none⟩)] w fun e w'=>e= .returned (.agg (u8s (Sm.sum T)))/\Below w.heap.size w w':=by
 have y:=hs.lt;obtain ⟨v,L,m,hg⟩:=hs;obtain ⟨fs,hu⟩:=U36;have hz:=(zero_of_info Z25).1;have A7:=(zero_of_info Z36).1;have G:(w.alloc (.cells (u8s (zeros 32)) 30)).heap[g]? =_:=(Below.heap_alloc w _ _ y).trans hg;have Y:((w.alloc (.cells (u8s (zeros 32)) 30)).alloc (.cells (stL v L T.length).toArray 359)).heap[g]? =_:=(Below.heap_alloc _ _ _ (by simp;omega)).trans G;have t:((w.alloc (.cells (u8s (zeros 32)) 30)).alloc (.cells (stL v L T.length).toArray 359)).cell? ⟨g,72,none⟩=some (.int .u64 (T.length:Nat)):=x6z Y m.size;have O:StateAt ((w.alloc (.cells (u8s (zeros 32)) 30)).alloc (.cells (stL v L T.length).toArray 359)) (w.heap.size+1) T:=⟨v,L,m,heap_alloc2_new _ _ _⟩
 have X:Below w.heap.size w ((w.alloc (.cells (u8s (zeros 32)) 30)).alloc (.cells (stL v L T.length).toArray 359)):=(jA _ _).alloc (by simp) _;have Q:((w.alloc (.cells (u8s (zeros 32)) 30)).alloc (.cells (stL v L T.length).toArray 359)).heap[w.heap.size]? =some (.cells (u8s (zeros 32)) 30 (0,0)):=heap_alloc2_old _ _ _;have z:=yH G;have n:=yH O;have c:=yH X;have Z:=yH Q;have HU:=yH hu;have K:=yH m.size;clear hu G Y m hg O X Q
 go_enter Tryz.func303,Tryz.ntmps303
 go_wp2_with (first | (refine kL (by rfl) 359 _ (by rfl) g (by rfl) 359 _ (0,0) _ z HU (by rfl) (by rw [x5L _ _ _ K.out];exact A36) ?_) | (refine jL (by rfl) 359 _ _ (by rfl) (w.heap.size+1) _ (by rfl) (by rfl) _ _ (by exact heap_alloc2_new _ _ _) (by rw [x5L _ _ _ K.out];exact A36) (by rw [x5L _ _ _ K,x5L _ _ _ (by simp [zeros])]) (y6O _ _ _) ?_;rw [x7I]))
 refine (x9L T.length (by omega) _).mono ?_;rintro _ w3 ⟨A2,q,rfl,E,C⟩;rw [show ((w.alloc (.cells (u8s (zeros 32)) 30)).alloc (.cells (stL v L T.length).toArray 359)).heap.size=w.heap.size+2 from by simp] at E ⊢;have x:(T++Sm.fill T.length).length<1152921504606846976:=by simp [Sm.fill,Sm.bigs];omega
 have R:=n.later C;have M:=c.trans (C.mono c.size);have f:=(C.block _ (yL Z)).trans Z.out;have r:=yH R;have B:=yH M;have H:=yH f;have s:=yH E;clear R M f C E t;go_wp2_with fail
 refine (x46 T (Sm.fill T.length) (w.heap.size+1) (some ⟨w.heap.size+2,0,none⟩) A2 q w3 r s (fun _ a ha=>by cases ha;show w.heap.size+2≠w.heap.size+1;omega) x).mono ?_;rintro _ l ⟨rfl,⟨j,A5,I,h⟩,A⟩;have P:T++Sm.fill T.length≠[]:=by simp [Sm.fill]
 have d:w.heap.size<l.heap.size:=jO (yL H) A.size;have i:l.heap[w.heap.size]? =_:=(A.block _ (yL H) (by simp)).trans H.out;have N:Below w.heap.size w l:=⟨A.os.trans B.os,A.tape.trans B.tape,A.output.trans B.output,jJ B.size A.size,fun k hk=>(A.block k (jO hk B.size) (by simp;omega)).trans (B.block k hk)⟩
 have A0:=yH I.vok;have u:=yH (I.words P);have o:=yH h;have p:=yH i;have U:=yH N;clear I h i N A P;go_wp2_with (refine jK (by rfl) 356 _ (by rfl) (w.heap.size+1) 0 (by rfl) (w32 j.list) _ (y0O o) A32 (by rfl) (by exact S32) ?_)
 refine (x9K j A0 l).mono ?_;rintro _ w5 ⟨rfl,J⟩;have b:=(J.block _ d).trans p.out;have W:=yH b;have A1:=yH (U.trans (J.mono U.size));clear b J;go_wp2_with (refine jL (by rfl) 30 _ _ (by rfl) w.heap.size (u8s (Sm.bytesOf j)) (by rfl) (by rfl) _ _ W (by rw [x4c];exact S25) (by rw [x4c];simp [u8s,zeros]) (x0f _) ?_)
 refine x0n 2 (by kernel_rfl) w.heap.size _ _ A25 S25 rfl (jT _ _ _ _ _ _ W) (x4c j) ⟨?_,Below.setRow A1 (jB _) _⟩;rw [u.out];rfl
def y6P (w:World) (tag len:Nat) (L:List (List Nat)) (i:Value) (wr:World):Prop:=
 ∃k:Nat,k<=len/\i= .int .i64 k/\StateAt wr (w.heap.size+1) (pre tag (L.take k))/\wr.heap[w.heap.size]? =some (.cells (u8s (zeros 32)) 30 (0,0))/\Below w.heap.size w wr
theorem y4P (tag:Nat) (htag:tag<256) (L:List (List Nat)) (p:Option Addr) (len cap:Nat) (w:World) (hL:Texts w p len cap L) (hl:tot L<1099511627776):
  Calls Tryz.prog 256 #[.int .u8 tag,.slice p len cap] w fun e w'=>e= .returned (.agg (u8s (Sm.sum (pre tag L))))/\Below w.heap.size w w':=by
 have Z:=hL.size;have AR:=hL.le;have AH:len<1099511627776:=by have:=x6m L;omega
 have hz:=(zero_of_info Z25).1;have AQ:=(zero_of_info Z36).1;have AJ:=(zero_of_info Z59).1;have HL:=yH hL;have C:=yH Z;clear hL Z;have l:Below w.heap.size w ((w.alloc (.cells (u8s (zeros 32)) 30)).alloc (.cells (stL zero8 (zeros 64) 0).toArray 359)):=(jA _ _).alloc (by simp) _;have Y:StateAt ((w.alloc (.cells (u8s (zeros 32)) 30)).alloc (.cells (stL zero8 (zeros 64) 0).toArray 359)) (w.heap.size+1) []:=y1B (heap_alloc2_new _ _ _);have b:((w.alloc (.cells (u8s (zeros 32)) 30)).alloc (.cells (stL zero8 (zeros 64) 0).toArray 359)).heap[w.heap.size]? =some (.cells (u8s (zeros 32)) 30 (0,0)):=heap_alloc2_old _ _ _;have I:=yH l;have O:=yH Y;have M:=yH b;clear l Y b
 go_enter Tryz.func256,Tryz.ntmps256
 go_wp2_with fail
 generalize hWW:(w.alloc (.cells (u8s (zeros 32)) 30)).alloc (.cells (stL zero8 (zeros 64) 0).toArray 359)=WW;have K:WW.heap.size=w.heap.size+1+1:=by subst hWW;simp
 rw [hWW] at I O M;have E:StateAt (WW.alloc (.cells #[.int .u8 tag] 5)) (w.heap.size+1) []:=O.later (jA _ _);have A:Bytes (WW.alloc (.cells #[.int .u8 tag] 5)) (some ⟨w.heap.size+1+1,0,none⟩) 1 1 [tag]:=by
  rw [<- K];exact Bytes.row (L:=[tag]) (jE WW _) (by intro x t;simp at t;omega)
 have G:Below w.heap.size w (WW.alloc (.cells #[.int .u8 tag] 5)):=I.alloc I.size _;have B:(WW.alloc (.cells #[.int .u8 tag] 5)).heap[w.heap.size]? =some (.cells (u8s (zeros 32)) 30 (0,0)):=(Below.heap_alloc _ _ _ (by omega)).trans M.out;refine (x46 [] [tag] (w.heap.size+1) _ 1 1 _ E A (fun _ a ha=>by cases ha;show w.heap.size+1+1≠w.heap.size+1;omega) (by simp)).mono ?_;rintro _ w4 ⟨rfl,f,U⟩;have HB4:=yH (x3c G U (by omega));have HR4:=yH ((U.block _ (yL B) (by simp)).trans B);have HS4:=yH f;clear E A G B f U hWW K I O M;go_wp2_with fail
 go_loopw [14] (fun i wr=>y6P w tag len L i wr) (fun i _=>len - (intOf i).toNat)
 case atStart=>exact ⟨0,by omega,rfl,HS4.out,HR4.out,HB4.out⟩
 case round=>
  obtain ⟨k,hk,rfl,hs,hr,hb⟩:=hrel;have u:=yH hs;have HR:=yH hr;have X:=yH hb;clear hs hr hb HB4 HR4 HS4;by_cases hlt:k<len
  ·obtain ⟨g,o,hp,t⟩:=HL.at' (by intro e;have:=C.out;rw [e] at this;simp at this;omega);obtain ⟨q,n,c,h1,v⟩:=t k (by have:=C.out;omega);subst hp;have e1:=y05 L k (by have:=C.out;omega);have e2:=x5l L (k+1);have e3:n=(L.getD k []).length:=v.size;have j:∀a,q=some a->L.getD k []≠[]->a.block<w.heap.size:=fun a ha hn=>by
    subst ha;have:=v.cells 0 _ (x1u _ 0 (kP.2 hn));exact jI this
   have A7:wr.cell? ⟨g,o+k,none⟩=some (.slice q n c):=(X.cell (p:=⟨g,o+k,none⟩) (jI h1)).trans h1;have HT:=yH v;have z:=yH j;have HE:=yH (show tot (L.take k)+(8+n)<1099511627776 from by omega);have r:=yH e3;have hn:n<1099511627776:=by omega
   clear t h1 v j e1 e2 e3;go_wp2_with fail
   refine (x6y n (by omega) _).mono ?_;rintro _ R ⟨rfl,A⟩;have E:StateAt (R.alloc (.cells (u8s (Sm.bigs n)) 361)) (w.heap.size+1) (pre tag (L.take k)):=(u.later A).later (jA _ _);have G:Below w.heap.size w (R.alloc (.cells (u8s (Sm.bigs n)) 361)):=(X.trans (A.mono X.size)).alloc (jJ X.size A.size) _;have N:=(A.block _ (yL HR)).trans HR.out;have B:(R.alloc (.cells (u8s (Sm.bigs n)) 361)).heap[w.heap.size]? =some (.cells (u8s (zeros 32)) 30 (0,0)):=(Below.heap_alloc _ _ _ (yL N)).trans N;have s:w.heap.size+1<R.heap.size:=jO u.lt A.size;have A5:=yH E;have A0:=yH G;have d:=yH B;have A6:=yH s;have A1:=yH (Bytes.row (L:=Sm.bigs n) (jE R (.cells (u8s (Sm.bigs n)) 361)) (y06 n));clear E G B N s A;go_wp2_with (refine jL (by rfl) 361 _ _ (by rfl) R.heap.size (u8s (Sm.bigs n)) (by rfl) (by rfl) _ _ (jE _ _) (by exact S59) (by simp [u8s,zeros];rfl) (x0f _) ?_;rw [x03])
   refine (x46 (pre tag (L.take k)) (Sm.bigs n) (w.heap.size+1) _ 8 8 _ A5 A1 (fun _ a ha=>by cases ha;have:=A6.out;show R.heap.size≠w.heap.size+1;omega) (by have:=HE.out;simp only [jQ,x4Y,Sm.bigs,kI,List.length_nil];omega)).mono ?_;rintro _ w5 ⟨rfl,m,W⟩;have J:=yH (x3c A0 W (by omega));have H:=yH ((W.block _ (yL d) (by simp)).trans d.out);have A8:=yH m;clear m W;go_wp2_with fail
   refine (x46 (pre tag (L.take k)++Sm.bigs n) (L.getD k []) (w.heap.size+1) q n c _ A8 (HT.later J).bytes (fun hne a ha=>by have:=z.out a ha hne;omega) (by have:=HE.out;have:=r.out;simp only [jQ,x4Y,Sm.bigs,kI,List.length_nil];omega)).mono ?_;rintro _ w6 ⟨rfl,h,P⟩;have A4:=yH (x3c J P (by omega));have AA:=yH ((P.block _ (yL H) (by simp)).trans H.out);have y:=yH h;clear h P;go_wp2_with fail
   go_roundw
   case rel=>
    refine ⟨k+1,by omega,by go_num,?_,AA.out,A4.out⟩;have e:=y.out;rw [x5F tag L k (by have:=C.out;omega),tpart,<- r.out,<- jR];exact e
   case measure=>simp [intOf];omega
  ·obtain rfl:k=len:=by omega
   have hT:pre tag (L.take k)=pre tag L:=by rw [kQ (by have:=C.out;omega)]
   rw [hT] at u;clear hT;go_wp2_with fail
   refine (y4O (pre tag L) _ _ u (by rw [x4Y];omega)).mono ?_;rintro _ w5 ⟨rfl,Q⟩;have H:=yH (yK Q HR);have J:=yH (X.trans (Q.mono X.size));clear Q;go_wp2_with (refine jL (by rfl) 30 _ _ (by rfl) w.heap.size (u8s (Sm.sum (pre tag L))) (by rfl) (by rfl) _ _ H (by rw [x7k];exact S25) (by rw [x7k];simp [u8s,zeros]) (x0f _) ?_)
   exact x0n 4 (by kernel_rfl) w.heap.size _ _ A25 S25 rfl (jT _ _ _ _ _ _ H) (x7k _) ⟨rfl,Below.setRow J (jB _) _⟩
end
namespace Pg
open Go.RowKit
theorem y0P (b:List Nat) (p:Option Addr) (n c:Nat) (w:World) (hT:Tx w p n c b) (hn:n<=100000):
  Calls Tryz.prog 192 #[.slice p n c] w fun e w'=>e= .returned (.agg (u8s (sumOf b)))/\Below w.heap.size w w':=by
 have O:=(zero_of_info Z25).1;have B:=(jC w.heap.size w).alloc (jB _) (.cells (u8s (zeros 32)) 30);have G:=(jC (w.alloc (.cells (u8s (zeros 32)) 30)).heap.size (w.alloc (.cells (u8s (zeros 32)) 30))).alloc (jB _) (.cells #[.slice p n c] 45);have K:=yH (y0M (jE (w.alloc (.cells (u8s (zeros 32)) 30)) (.cells #[.slice p n c] 45)) ((hT.later B).later G));have I:=yH (B.trans (G.mono B.size));have N:=yH ((heap_alloc_old (w.alloc (.cells (u8s (zeros 32)) 30)) (.cells #[.slice p n c] 45) (kK.1 (jE w (.cells (u8s (zeros 32)) 30))).1).trans (jE w (.cells (u8s (zeros 32)) 30)));have L:=yH hT.size;clear hT G B
 go_enter Tryz.func192,Tryz.ntmps192
 go_wp2_with fail
 rw [show (w.alloc (.cells (u8s (zeros 32)) 30)).heap.size=w.heap.size+1 from by simp] at K;generalize (w.alloc (.cells (u8s (zeros 32)) 30)).alloc (.cells #[.slice p n c] 45)=w1 at *;refine (y4P 80 (by omega) [b] _ 1 1 w1 K (by have:=L.out;rw [y2h];omega)).mono ?_;rintro e P ⟨rfl,H⟩;have M:=yH (I.trans (H.mono I.size));have J:=yH (yK H N);obtain ⟨D,C⟩:∃D,D=sumOf b:=⟨_,rfl⟩
 rw [show Sm.sum (pre 80 [b])=D from C.symm];have A:=yH (show D.length=32 from by rw [C];rfl);have E:=yH C;clear H C;go_wp2_with (refine jL (by rfl) 30 _ _ (by rfl) w.heap.size (u8s D) (by rfl) (by rfl) _ _ J (by rw [x0C,A.out];exact S25) (by rw [x0C,x0C,A.out];rfl) (x0f _) ?_)
 exact x0n 2 (by kernel_rfl) w.heap.size _ _ A25 S25 rfl (jT _ _ _ _ _ _ J) (by rw [x0C];exact A.out) ⟨by rw [E.out],Below.setRow M (jB _) _⟩
theorem x71 {a b:List Nat} {p q:Option Addr} {n c m d:Nat} {w:World} (ha:Tx w p n c a) (hb:Tx w q m d b):
  Calls Tryz.prog 305 #[.slice p n c,.slice q m d] w fun e w'=>e= .returned (.bool (decide (a=b)))/\w=w':=by
 have C:=x6b ha;have B:=x6b hb;have A:=yH (y77 ha.ok hb.ok);rw [<- A.out];clear ha hb
 go_enter Tryz.func305,Tryz.ntmps305
 go_wp2_with fail
 go_ret;exact ⟨rfl,rfl⟩
end Pg
namespace Pg
open Go.RowKit
open List renaming setIfInBounds_toArray -> yA, set_cons_zero -> yB, set_cons_succ -> yC
section
variable {Q QX:Nat->Prop} {w:World} {g:Nat} {mp:Option Nat} {cl:Option Addr} {s:S}
theorem SAt.f1 (h:SAt Q w g mp cl s):w.frozen? ⟨g,1,none⟩=false:=jS w g 1 _ _ h.row
theorem SAt.aside {k:Nat} {w':World} (h:SAt Q w g mp cl s) (ho:Dk.Only (fun j=>j=k) w w') (hk:¬Q k):SAt Q w' g mp cl s:=h.only ho (fun _ hj e=>hk (e▸hj))
theorem SAt.clashed {p q:Option Addr} {m c n d:Nat} {t b:List Nat} (h:SAt Q w g mp cl s) (h1:TQ Q w p m c t) (h2:TQ QX w q n d b) (hlt:∀k,QX k->k<w.heap.size) (hok:S.ok ⟨s.W,some (t,b)⟩):
  SAt (fun k=>Q k\/QX k\/k=w.heap.size) ((w.alloc (.cells #[.slice p m c,.slice q n d] 128)).setCell ⟨g,1,none⟩ (.pointer (some ⟨w.heap.size,0,none⟩))) g mp (some ⟨w.heap.size,0,none⟩) ⟨s.W,some (t,b)⟩/\
  Dk.Only (fun j=>j=g) w ((w.alloc (.cells #[.slice p m c,.slice q n d] 128)).setCell ⟨g,1,none⟩ (.pointer (some ⟨w.heap.size,0,none⟩))):=by
 have J:g<w.heap.size:=h.lt g h.mine;have H:=(jC w.heap.size w).alloc (jB _) (.cells #[.slice p m c,.slice q n d] 128);have E:=jE w (.cells #[.slice p m c,.slice q n d] 128);have C:=h.later H;have t1:=h1.keep (w':=w.alloc (.cells #[.slice p m c,.slice q n d] 128)) (fun k B=>H.block k (h.lt k B));have t2:=h2.keep (w':=w.alloc (.cells #[.slice p m c,.slice q n d] 128)) (fun k B=>H.block k (hlt k B));have A:=Dk.Only.setCell (P:=fun j=>j=g) (w.alloc (.cells #[.slice p m c,.slice q n d] 128)) (a:=⟨g,1,none⟩) rfl (.pointer (some ⟨w.heap.size,0,none⟩));have I:=A.size;rw [World.size_alloc] at I;have G:=jU (w.alloc (.cells #[.slice p m c,.slice q n d] 128)) g 1 _ _ (.pointer (some ⟨w.heap.size,0,none⟩)) C.row;refine ⟨⟨G,(C.pages.turn_row C.row A).wide (fun _ k=>Or.inl k),Or.inr ⟨_,_,_,rfl,rfl,⟨Or.inr (Or.inr rfl),p,m,c,q,n,d,(A.block _ (by simp) (by omega)).trans E,(t1.turn A (fun z hz hz'=>x1R t1.tx hz hz' C.row)).wide (fun _ k=>Or.inl k),(t2.turn A (fun z hz hz'=>x1R t2.tx hz hz' C.row)).wide (fun _ k=>Or.inr (Or.inl k))⟩⟩,Or.inl h.mine,?_,hok⟩,(Dk.Only.of_below _ H).trans A⟩;intro k B;rcases B with B | B | rfl
 ·have:=h.lt k B;omega
 ·have:=hlt k B;omega
 ·omega
end
theorem x8i {w w':World} {q:Option Addr} {n c:Nat} {B:List Nat} (ho:w'.ownsRow w.heap.size 5 1 (.slice q n c) n (vals B)) (hn:n=B.length) (hB:Sm.allB B) (hl:B.length<=100000):TQ (fun k=>w.heap.size<=k/\k<w'.heap.size) w' q n c B:=
 ⟨by subst hn;exact x0K ho hB,fun x hx _=>ho.lt x.block (by rw [hx];rfl),hl⟩
theorem x08 (w:World) (g:Nat) (cs:Array Value):Dk.Only (fun j=>j=g) w (w.setRow g cs):=
 ⟨rfl,rfl,rfl,by simp [World.setRow],fun k _ hn=>by simp only [World.setRow];rw [Array.getElem?_modify,if_neg (fun e=>hn e.symm)]⟩
theorem PL.mine {w:World} {g:Nat} {Q:Nat->Prop} {s:S} (h:PL w g Q s):Q g:=by obtain ⟨_,_,h⟩:=h;exact h.mine
def x3n (Q:Nat->Prop) (w:World) (g:Nat) (s':S) (w':World):Prop:=(∃Q',PL w' g Q' s'/\∀k,Q' k->Q k\/w.heap.size<=k)/\Dk.Only Q w w'/\Mst g w w'
theorem x26 {w wX:World} {g r4:Nat} {Q Q':Nat->Prop} {mp0 mp:Option Nat} {cl:Option Addr} {s':S} (h0:w.cell? ⟨g,0,none⟩=some (.map mp0)) (hm:∀b,mp0=some b->mp=some b) (h:SAt Q' wX g mp cl s') (ho:Dk.Only Q w wX) (hn:¬Q' r4) (hq:∀k,Q' k->Q k\/w.heap.size<=k) (hr:w.heap.size<=r4) (cs:Array Value):x3n Q w g s' (wX.setRow r4 cs):=
 ⟨⟨Q',⟨_,_,h.aside (x08 wX r4 cs) hn⟩,hq⟩,y0L ((ho.mono (Q:=fun k=>Q k\/k=r4) (fun k e=>Or.inl e)).trans ((x08 wX r4 cs).mono (fun k e=>Or.inr e))) (fun k e=>e.imp id (fun e=>by omega)),fun b hb=>by
  rw [h0] at hb
  have e:=hm b (by simpa using hb)
  rw [<- e]
  exact (h.aside (x08 wX r4 cs) hn).c0⟩
theorem pput_any {w:World} {g:Nat} {Q:Nat->Prop} {s:S} (b:List Nat) (p:Option Addr) (n c:Nat) (h:PL w g Q s) (hT:Tx w p n c b) (hn:n<=100000) (hsm:s.W.length<100000):
  Calls Tryz.prog 257 #[.pointer (some ⟨g,0,none⟩),.slice p n c] w fun e w'=>e= .returned (.agg (u8s (sumOf b)))/\x3n Q w g (s.put b) w':=by
 obtain ⟨mp,cl,h⟩:=h;have R:=yH h.c0;have hz:=(zero_of_info Z25).1;obtain ⟨D,hD⟩:∃D,D=sumOf b:=⟨_,rfl⟩
 have A:=yH (show D.length=32 from by rw [hD];rfl);have Aa:=yH (show Sm.allB D from by rw [hD];exact x3z b);have m:=yH (show n=b.length from hT.size);have h0:=(jC w.heap.size w).alloc (jB _) (.cells (u8s (zeros 32)) 30);have A5:=yH h0;have R0:=yH (jE w (.cells (u8s (zeros 32)) 30));have T0:=yH (hT.later h0);have H0:=yH (h.later h0);have G:=yH h.lt;have AD:=yH hT.ok;have l:=yH hD;have AQ:=yH (S.put_ok h.ok hT.ok);clear h hT h0 hD
 go_enter Tryz.func257,Tryz.ntmps257
 go_wp2_with fail
 generalize w.alloc (.cells (u8s (zeros 32)) 30)=w1 at *;generalize hr4:w.heap.size=r4 at *;refine (y0P b p n c w1 T0 hn).mono ?_;rintro _ o ⟨rfl,b2⟩;rw [<- l.out];have A6:=yH (A5.trans (b2.mono (hr4▸A5.size)));have R2:=yH (yK b2 R0);have T2:=yH (T0.later b2);have H2:=yH (H0.later b2);have C:=(jC o.heap.size o).alloc (jB _) (.cells (u8s D) 30);have M:=yH (A6.trans (C.mono (hr4▸A6.size)));have R3:=yH (yK C R2);have T3:=yH (T2.later C);have H3:=yH (H2.later C);have R5:=yH (jE o (.cells (u8s D) 30));have RZ:=yH (jE o (.cells (u8s (zeros 32)) 30));have AH:=yH (x03 o (u8s (zeros 32)) (u8s D) 30);have v:=yH (show r4<o.heap.size from by have:=(yL R2);exact this);clear C b2 A5 R0 T0 H0 A6 R2 T2 H2;go_upto_region 2 with (refine jL (by rfl) 30 _ _ (by rfl) o.heap.size (u8s D) (by rfl) (by rfl) _ _ RZ (by rw [x0C,A.out];exact S25) (by rw [x0C,x0C,A.out];rfl) (x0f _) ?_)
 rw [AH.out];generalize o.alloc (.cells (u8s D) 30)=w3 at *;generalize o.heap.size=r5 at *;clear RZ AH;obtain ⟨pp,mm,cc,hl,f,Z⟩:=x7g H3.pages A Aa;have AG:=yH H3.c0;have Ab:=yH f;have y:=yH Z;clear f Z;simp only [Act.put];have N:∀s':S,s'=s->x3n Q w g s' (w3.setRow r4 (u8s D)):=fun s' e=>by
  rw [e];exact x26 R (fun b e=>e) H3 (Dk.Only.of_below _ (by rw [hr4];exact M.out)) (fun e=>by have:=G.out _ e;omega) (fun k hk=>Or.inl hk) (by omega) _
 have AY:=yH N;clear N;by_cases hi:idx D s.W<s.W.length
 ·rw [kF hi] at hl;have HL:=yH hl;obtain ⟨t,ht⟩:∃t,x0J s.W D=some t:=⟨_,x25 hi⟩
  have HT:=yH (y.out t ht);have AK:=yH ht;have B8:mm<=100000:=by have:=HT.tx.size;have:=HT.le;omega
  clear hl ht hi y Ab;refine kD (S:=fun w'=>w'.heap=w3.heap) (by kernel_rfl) rfl (fun hH=>?_);refine tK 0 ?_;refine tK 1 ?_;refine tK 2 ?_;refine tQ 3 ?_ ?_ ?_;rotate_left
  ·intro w' hSw;have c0:=(jX (w:=w3) (a:=⟨g,0,none⟩) (by rw [hSw])).trans AG.out;go_simp;try with_reducible rfl
  refine tQ 4 ?_ ?_ ?_;rotate_left
  ·intro w' hSw;refine Eq.trans (b:=Result.ok (Next.value (.agg (u8s D))) w') ?_ ?_
   ·exact x1I (by rfl) (by rfl) A (x0p ((congrArg (fun h=>h[r5]?) hSw).trans R5.out))
   ·with_reducible rfl
  refine tQ 5 ?_ ?_ ?_;rotate_left
  ·intro w' hSw;refine Eq.trans (b:=Result.ok (Next.value (.tuple #[.slice pp mm cc,.bool true])) w') ?_ ?_
   ·exact x7h (by rfl) (by rfl) (by rfl) (HL.out w' hSw)
   ·with_reducible rfl
  refine tK 6 ?_;refine tK 7 ?_;refine tK 8 ?_;refine tK 9 ?_;refine tK 10 ?_;refine jD ?_;have U:=yH (M.drew);have H:=yH (show w3.drew.heap[r5]? =_ from R5.out);have B:=yH (show w3.drew.heap[r4]? =_ from R3.out);have T5:=yH (T3.later (jC _ _).drew);have O:=yH (H3.later (jC _ _).drew);have J:=yH (show ∀s':S,s'=s->x3n Q w g s' (w3.drew.setRow r4 (u8s D)) from fun s' e=>by
   rw [e];exact x26 R (fun b e=>e) O (Dk.Only.of_below _ (by rw [hr4];exact U.out)) (fun e=>by have:=G.out _ e;omega) (fun k hk=>Or.inl hk) (by omega) _)
  have A3:=yH (HT.keep (w':=w3.drew) (fun _ _=>rfl));have C1:=O.c1;clear hH M R5 R3 T3 H3 HL AY HT;generalize w3.drew=w5 at *;have A7:=yH A3.tx;have A1:=yH (show s.put b=⟨s.W,match s.cl with | some x=>some x | none=>if t=b then none else some (t,b)⟩ from by
   have i:idx (sumOf b) s.W<s.W.length:=by rw [<- l.out];exact x8g AK
   have h2:x0J s.W (sumOf b)=some t:=by rw [<- l.out];exact AK.out
   unfold S.put putW;rw [if_pos i,h2];cases s.cl<;>rfl)
  cases cl with
  | some ca=>
   have HS:=yH (show s.put b=s from by
    rw [A1.out];rcases O.clash with ⟨i,_⟩ | ⟨_,a,b',_,h2,_⟩
    ·cases i
    ·cases s with | mk W c=>cases h2;rfl)
   go_wp2_with (first | (refine kL (by rfl) 30 (.tmp 5) (by rfl) r5 (by rfl) 30 (u8s D) (0,0) _ H A25 rfl (by rw [x0C,A.out];exact S25) ?_) | (refine jL (by rfl) 30 _ _ (by rfl) r4 (u8s D) (by rfl) (by rfl) _ _ B (by rw [x0C,A.out];exact S25) (by rw [x0C,x0C,A.out];rfl) (x0f _) ?_))
   exact x0n 4 (by kernel_rfl) r4 _ _ A25 S25 rfl (jT _ _ _ _ _ _ B) (by rw [x0C];exact A.out) ⟨by rw [l.out],J.out _ HS⟩
  | none=>
   have X:s.cl=none:=by
    rcases O.clash with ⟨_,i⟩ | ⟨_,_,_,i,_⟩
    ·exact i
    ·cases i
   by_cases htb:t=b
   ·have HS:=yH (show s.put b=s from by
     rw [A1.out,if_pos htb,X];cases s with | mk W c=>cases X;rfl)
    have z:=yH (kF htb);clear htb X;go_wp2_with (first | (refine kL (by rfl) 30 (.tmp 5) (by rfl) r5 (by rfl) 30 (u8s D) (0,0) _ H A25 rfl (by rw [x0C,A.out];exact S25) ?_) | (refine jL (by rfl) 30 _ _ (by rfl) r4 (u8s D) (by rfl) (by rfl) _ _ B (by rw [x0C,A.out];exact S25) (by rw [x0C,x0C,A.out];rfl) (x0f _) ?_) | (go_at_call 305;refine (x71 A7 T5).mono ?_;rintro _ _ ⟨rfl,rfl⟩;rw [z.out]))
    exact x0n 4 (by kernel_rfl) r4 _ _ A25 S25 rfl (jT _ _ _ _ _ _ B) (by rw [x0C];exact A.out) ⟨by rw [l.out],J.out _ HS⟩
   ·have HS:=yH (show s.put b=⟨s.W,some (t,b)⟩ from by rw [A1.out,X];simp only [if_neg htb]);have z:=yH (kE htb);clear htb X;have Ak:=yH (show S.ok ⟨s.W,some (t,b)⟩ from by rw [<- HS.out];exact AQ.out);go_upto_region 6 with (first | (go_at_call 305;refine (x71 A7 T5).mono ?_;rintro _ _ ⟨rfl,rfl⟩;rw [z.out]))
    go_wp2_with fail
    refine (x2P T5 hn).mono ?_;rintro _ P ⟨AU,AR,rfl,AW,E⟩;have AO:=x8i AW m AD (by rw [<- m.out];exact hn);have j:=O.later E;have r:=A3.keep (w':=P) (fun k hk=>E.block k (O.lt k hk));obtain ⟨AT,q⟩:=j.clashed r AO (fun k hk=>hk.2) Ak;have C:=(jC P.heap.size P).alloc (jB _) (.cells #[.slice pp mm cc,.slice AU n AR] 128);have cA:=(j.later C).c1;have fA:=(j.later C).f1;have B5:g<r4:=G.out _ O.mine;have d:=yH ((q.block r4 (jO (yL B) E.size) (by omega)).trans (yK E B));have A4:=yH ((q.block r5 (jO (yL H) E.size) (by have:=v.out;omega)).trans (yK E H));have Y:=yH (show x3n Q w g (s.put b) (((P.alloc (.cells #[.slice pp mm cc,.slice AU n AR] 128)).setCell ⟨g,1,none⟩ (.pointer (some ⟨P.heap.size,0,none⟩))).setRow r4 (u8s D)) from by
     rw [HS.out];have Aq:r4<w5.heap.size:=(yL B)
     have At:w.heap.size<=w5.heap.size:=by omega
     have B2:=E.size;refine x26 R (fun b e=>e) AT ((Dk.Only.of_below _ (by rw [hr4];exact U.trans (E.mono (by omega)))).trans (q.mono (fun k e=>by rw [e];exact O.mine))) (fun e=>?_) (fun k hk=>?_) (by omega) _
     ·rcases e with e | ⟨e,_⟩ | e
      ·have:=G.out _ e;omega
      ·omega
      ·omega
     ·rcases hk with e | ⟨e,_⟩ | e
      ·exact Or.inl e
      ·right;omega
      ·right;omega)
    clear AW E AO j r AT q C A3 A7 C1;go_wp2_with (first | (refine kL (by rfl) 30 (.tmp 5) (by rfl) r5 (by rfl) 30 (u8s D) (0,0) _ A4 A25 rfl (by rw [x0C,A.out];exact S25) ?_) | (refine jL (by rfl) 30 _ _ (by rfl) r4 (u8s D) (by rfl) (by rfl) _ _ d (by rw [x0C,A.out];exact S25) (by rw [x0C,x0C,A.out];rfl) (x0f _) ?_))
    exact x0n 4 (by kernel_rfl) r4 _ _ A25 S25 rfl (jT _ _ _ _ _ _ d) (by rw [x0C];exact A.out) ⟨by rw [l.out],Y.out⟩
 ·rw [kE hi] at hl;have HL:=yH hl;have B7:=yH (x3j hi);have AV:=yH hi;clear hl hi y Ab;refine kD (S:=fun w'=>w'.heap=w3.heap) (by kernel_rfl) rfl (fun hH=>?_);refine tK 0 ?_;refine tK 1 ?_;refine tK 2 ?_;refine tQ 3 ?_ ?_ ?_;rotate_left
  ·intro w' hSw;have c0:=(jX (w:=w3) (a:=⟨g,0,none⟩) (by rw [hSw])).trans AG.out;go_simp;try with_reducible rfl
  refine tQ 4 ?_ ?_ ?_;rotate_left
  ·intro w' hSw;refine Eq.trans (b:=Result.ok (Next.value (.agg (u8s D))) w') ?_ ?_
   ·exact x1I (by rfl) (by rfl) A (x0p ((congrArg (fun h=>h[r5]?) hSw).trans R5.out))
   ·with_reducible rfl
  refine tQ 5 ?_ ?_ ?_;rotate_left
  ·intro w' hSw;refine Eq.trans (b:=Result.ok (Next.value (.tuple #[.slice pp mm cc,.bool false])) w') ?_ ?_
   ·exact x7h (by rfl) (by rfl) (by rfl) (HL.out w' hSw)
   ·with_reducible rfl
  refine tK 6 ?_;refine tK 7 ?_;refine tK 8 ?_;refine tK 9 ?_;refine tK 10 ?_;refine jD ?_;have U:=yH (M.drew);have H:=yH (show w3.drew.heap[r5]? =_ from R5.out);have B:=yH (show w3.drew.heap[r4]? =_ from R3.out);have T5:=yH (T3.later (jC _ _).drew);have O:=yH (H3.later (jC _ _).drew);have J:=yH (show ∀s':S,s'=s->x3n Q w g s' (w3.drew.setRow r4 (u8s D)) from fun s' e=>by
   rw [e];exact x26 R (fun b e=>e) O (Dk.Only.of_below _ (by rw [hr4];exact U.out)) (fun e=>by have:=G.out _ e;omega) (fun k hk=>Or.inl hk) (by omega) _)
  have u:=yH (show s.put b=⟨s.W++[(D,b)],s.cl⟩ from by
   have i:¬idx (sumOf b) s.W<s.W.length:=by rw [<- l.out];exact AV.out
   have h2:x0J s.W (sumOf b)=none:=x3j i;unfold S.put putW;rw [if_neg i,h2,<- l.out];cases s.cl<;>rfl)
  clear hH M R5 R3 T3 H3 HL AY J;generalize w3.drew=w5 at *;go_upto_region 4 with fail
  refine kD (S:=fun w'=>w'.heap[r5]? =some (.cells (u8s D) 30 (0,0))) (by kernel_rfl) H (fun hH=>?_);refine tK 0 ?_;refine tQ 1 ?_ ?_ ?_;rotate_left
  ·intro w' hSw;refine Eq.trans (b:=Result.ok (Next.value (.agg (u8s D))) w') ?_ ?_
   ·exact x1I (by rfl) (by rfl) A (x0p hSw)
   ·with_reducible rfl
  refine tK 2 ?_;refine rO 3 fun K hK=>?_;go_simp;refine (x2P (T5.later (jC _ _).drew) hn).mono ?_;rintro _ Ar ⟨B4,BA,rfl,AS,AN⟩;have I:=(jC w5.heap.size w5).drew.trans AN;have L:=yH I;have Ac:=yH (x8i (w:=w5.drew) AS m AD (by rw [<- m.out];exact hn));have AL:=yH (O.later I);have AJ:Ar.heap[r5]? =some (.cells (u8s D) 30 (0,0)):=(I.block _ (yL H)).trans H.out;have HC:=yH AJ;clear AS AN I;try go_wp2_with fail
  refine hK.out _ _ AJ (fun hH=>?_);clear hK K;try simp only [Act.put,yA,yB,yC]
  refine rO 4 fun K hK=>?_;go_simp;refine (y6I AL A Aa AV Ac (fun k hk=>hk.2) (by rw [<- u.out];exact AQ.out) hsm).mono ?_;rintro _ AZ ⟨rfl,A0⟩;have An:AZ.heap[r5]? =some (.cells (u8s D) 30 (0,0)):=(A0.2.block _ (yL HC) (fun e=>by have:=G.out _ e;have:=v.out;omega)).trans HC.out;have A8:=yH A0;clear A0;try go_wp2_with fail
  refine hK.out _ _ An (fun hH=>?_);clear hK K;try simp only [Act.put,yA,yB,yC]
  refine jD ?_;have A4:=yH hH;have d:=yH ((A8.2.block _ (jO (yL B) L.size) (fun e=>by have:=G.out _ e;omega)).trans (yK L B));have Y:=yH (show x3n Q w g (s.put b) (AZ.setRow r4 (u8s D)) from by
   obtain ⟨⟨B6,Ao,AP⟩,ho⟩:=A8.out;rw [u.out];have Aq:r4<w5.heap.size:=(yL B)
   have At:w.heap.size<=w5.heap.size:=by omega
   have B3:w5.drew.heap.size=w5.heap.size:=rfl;refine x26 R AP Ao ((Dk.Only.of_below _ (by rw [hr4];exact U.trans (L.mono (by omega)))).trans ho) (fun e=>?_) (fun k hk=>?_) (by omega) _
   ·rcases e with e | ⟨e,_⟩ | ⟨e,_⟩
    ·have:=G.out _ e;omega
    ·omega
    ·have:=L.size;omega
   ·rcases hk with e | ⟨e,_⟩ | ⟨e,_⟩
    ·exact Or.inl e
    ·right;omega
    ·have:=L.size;right;omega)
  clear A8 L Ac AL hH HC;go_wp2_with (first | (refine kL (by rfl) 30 (.tmp 5) (by rfl) r5 (by rfl) 30 (u8s D) (0,0) _ A4 A25 rfl (by rw [x0C,A.out];exact S25) ?_) | (refine jL (by rfl) 30 _ _ (by rfl) r4 (u8s D) (by rfl) (by rfl) _ _ d (by rw [x0C,A.out];exact S25) (by rw [x0C,x0C,A.out];rfl) (x0f _) ?_))
  exact x0n 4 (by kernel_rfl) r4 _ _ A25 S25 rfl (jT _ _ _ _ _ _ d) (by rw [x0C];exact A.out) ⟨by rw [l.out],Y.out⟩
end Pg
namespace Nd
open Go.RowKit Dk Pg
def Aw (Q:Nat->Prop) (kd:Kd):Prop:=∀r∈kd.rows,∀x,r.p=some x->r.R≠[]->¬Q x.block
def y2l (w:World) (g:Nat) (Q:Nat->Prop) (s:Pg.S) (N:PN) (d:Int) (e:Ending) (w':World):Prop:=
 ((N.right d=true/\N.size<=1048576)/\∃kd:Kd,e= .returned (.tuple #[.agg kd.cells.toArray,.int .i64 0])/\kd.pk=N.says/\kd.Ok w'/\Fsh w kd/\(∃Q',PL w' g Q' (s.put N.bytes)/\(∀k,Q' k->Q k\/w.heap.size<=k)/\Aw Q' kd)/\Only Q w w'/\Mst g w w')\/
 (¬(N.right d=true/\N.size<=1048576)/\e= .returned (.tuple #[.agg kd0.cells.toArray,.int .i64 1])/\Below w.heap.size w w')
theorem x4d {w w':World} {g:Nat} {Q:Nat->Prop} {s:Pg.S} {N:PN} {d:Int} (h:¬(N.right d=true/\N.size<=1048576)) (hb:Below w.heap.size w w'):y2l w g Q s N d (.returned (.tuple #[.agg kd0.cells.toArray,.int .i64 1])) w':=Or.inr ⟨h,rfl,hb⟩
theorem y6Q (kind:Nat) (hkd:kind<256) (p:Option Addr) (n c:Nat) (q:Option Addr) (m f:Nat) (E:List En) (K:List Kd) (d:Int) (w:World) (hE:EntsIn w p n c E) (hK:KidsIn w q m f K) {g:Nat} {Q:Nat->Prop} {s:Pg.S} (hp:PL w g Q s) (hsl:s.W.length<100000):
  Calls Tryz.prog 191 #[.agg #[.int .u8 kind,.slice p n c,.slice q m f],.int .i64 d,.func (.func 257) #[.pointer (some ⟨g,0,none⟩)] #[]] w (y2l w g Q s (pnOf kind E K) d):=by
 have Ai:=yH hp;have P:=yH (show ∀k,Q k->k<w.heap.size from hp.lt);have Au:=yH hsl;clear hp hsl;have AP:=jA w (.cells #[.int .u8 kind,.slice p n c,.slice q m f] 97);have AN:=NodeAt.start w kind p n c q m f;have z1:(w.alloc (.cells #[.int .u8 kind,.slice p n c,.slice q m f] 97)).heap.size=w.heap.size+1:=by simp
 have B3:=yH hkd;have HE:=yH hE;have HK:=yH hK;obtain ⟨du,Ag,AI⟩:=UKd;have o:=yH Ag;have t:=yH AI;have HZ:=yH (zero_of_info kz);clear hkd hE hK Ag AI;have BJ:=HZ.1
 go_enter Tryz.func191,Tryz.ntmps191
 go_upto_region 1 with fail
 have AA:Below (w.heap.size+1) (w.alloc (.cells #[.int .u8 kind,.slice p n c,.slice q m f] 97)) ((w.alloc (.cells #[.int .u8 kind,.slice p n c,.slice q m f] 97)).alloc (.cells kd0.cells.toArray 34)):=(jC _ _).alloc (by omega) _;have r2:=jE (w.alloc (.cells #[.int .u8 kind,.slice p n c,.slice q m f] 97)) (.cells kd0.cells.toArray 34);rw [z1] at r2;have A7:=yH (AN.later (by rw [z1];exact AA));have L:=yH (AP.trans (AA.mono (by omega)));have AC:=yH r2;clear AP AN z1 AA r2;generalize (w.alloc (.cells #[.int .u8 kind,.slice p n c,.slice q m f] 97)).alloc (.cells kd0.cells.toArray 34)=w2 at *;have Y:=yH (x6i kind B3 p n c q m f E K d w2 (HE.later L) (HK.later L));have A3:=yH (fun l (h:Below w.heap.size w l) (hr:(pnOf kind E K).right d=true)=>x8d kind p n c q m f E K d l (HE.later h) (HK.later h) hr);have Av:=yH (fun (hr:(pnOf kind E K).right d=true)=>x1j (PN.fit hr) (fun k hk=>by obtain ⟨y,hy,rfl⟩:=kJ.1 hk;exact (HK.each y hy).len));generalize pnOf kind E K=N at *;obtain ⟨t0,t1,t2⟩:=A7.cells;cases hr:N.right d with
 | false=>
  have AD:=yH (show ¬(N.right d=true/\N.size<=1048576) from fun h=>by rw [hr] at h;exact absurd h.1 (by simp));have Z:=yH hr;clear hr;go_wp2_with (first
   | (go_at_call 254;refine Y.mono ?_;rintro e l ⟨b3,h3⟩;obtain rfl:e= .returned (.tuple #[.slice Option.none 0 0,.int .i64 1]):=(h3.elim (fun h=>by rw [Z.out] at h;exact absurd h.1 (by simp)) (fun h=>h.2));have U:=yH (yK b3 AC);have O:=yH (L.trans (b3.mono L.size));clear b3 h3)
   | (refine x05 (by rfl) (by rfl) x0T ?_)
   | (refine jL (by rfl) 34 _ _ (by rfl) (w.heap.size+1) kd0.cells.toArray (by rfl) (by rfl) _ _ U (by rw [jF,x02];exact SKd) rfl (jN Kd.one) ?_))
  have r9:=jT _ (w.heap.size+1) _ kd0.cells.toArray _ _ U;have AF:Below (w.heap.size+1) l (l.setRow (w.heap.size+1) kd0.cells.toArray):=Below.setRow (jC _ _) (jB _) _;refine x0G 6 7 (by kernel_rfl) (w.heap.size+1) _ kd0.cells.toArray _ o t (by rw [jF,x02];exact SKd) (by rfl) (by rfl) r9 ?_;exact x4d AD (O.trans (AF.mono (by omega)))
 | true=>
  have Z:=yH hr;have B9:=yH (Av.out hr);clear hr;go_upto_region 5 with (first
   | (go_at_call 254;refine Y.mono ?_;rintro e l ⟨b3,h3⟩;obtain ⟨q9,c9,rfl,o9,AW⟩:=(h3.elim (fun h=>h.2) (fun h=>by rw [Z.out] at h;exact absurd h.1 (by simp)));have An:=yH (x0K o9 AW);have AJ:=yH (A7.later b3);have U:=yH (yK b3 AC);have O:=yH (L.trans (b3.mono L.size));obtain ⟨t0,t1,t2⟩:=AJ.cells;have AO:=yH (A3.out l O Z);clear b3 h3 o9 AW)
   | (go_at_call 255;refine AO.mono ?_;rintro e M ⟨C,rfl,AY,A4,Ar,b4⟩;have Ab:=yH AY;have G:=yH A4;have B5:=yH Ar;have AL:=yH (An.later b4);have AG:=yH (yK b4 U);have AB:=yH (O.trans (b4.mono O.size));have AU:=yH b4.size;clear AY A4 Ar b4)
   | (refine jL (by rfl) 34 (.tmp 10) (.tmp 22) (by rfl) M.heap.size C.cells.toArray (by rfl) (by rfl) _ _ (jE M _) (by rw [jF,Kd.cells_length G.len];exact SKd) (by simp only [jF,Kd.cells_length G.len,x02]) (jN Kd.one) ?_;rw [x03]))
  have AR:=jE M (.cells C.cells.toArray 34);have i:=jA M (.cells C.cells.toArray 34);have B6:=yH (AL.later i);have z:=yH (yK i AG);have I:=yH (AB.trans (i.mono AB.size));have H:=yH (G.later i);have AE:=yH AR;have B:=yH (show w.heap.size+1<l.heap.size/\l.heap.size<=M.heap.size from ⟨(yL U),AU.out⟩);have v:=yH (show ∀r∈C.rows,r.Ok M/\(∀x,r.p=some x->r.R≠[]->l.heap.size<=x.block/\x.block<M.heap.size) from fun r hr=>by
   have Ad:r.Ok M:=by
    simp only [Kd.rows,jW,jV,or_false] at hr;rcases hr with rfl | rfl | rfl
    ·exact G.lo
    ·exact G.hi
    ·exact G.key
   exact ⟨Ad,fun x hx hR=>⟨B5.out r hr x hx hR,x2W Ad.ints hx hR⟩⟩)
  have AX:M.heap.size<(M.alloc (.cells C.cells.toArray 34)).heap.size:=by simp
  have A6:=yH AX;generalize M.alloc (.cells C.cells.toArray 34)=w5 at *;clear AR i AX AL AG An U AJ AO Y A3 AC A7 L t0 t1 t2 O AB;generalize M.heap.size=gk at *;have Af:=(x0N AE H.len).size;rw [Nat.zero_add] at Af;have Ak:C.size=N.size:=congrArg PK.size Ab;by_cases hz:1048576<C.size
  ·have AD:=yH (show ¬(N.right d=true/\N.size<=1048576) from fun h=>by have:=h.2;omega);clear Ak;go_wp2_with (first
    | (refine x05 (by rfl) (by rfl) x0T ?_)
    | (refine jL (by rfl) 34 _ _ (by rfl) (w.heap.size+1) kd0.cells.toArray (by rfl) (by rfl) _ _ z (by rw [jF,x02];exact SKd) rfl (jN Kd.one) ?_))
   have r9:=jT _ (w.heap.size+1) _ kd0.cells.toArray _ _ z;have AF:Below (w.heap.size+1) w5 (w5.setRow (w.heap.size+1) kd0.cells.toArray):=Below.setRow (jC _ _) (jB _) _;refine x0G 6 7 (by kernel_rfl) (w.heap.size+1) _ kd0.cells.toArray _ o t (by rw [jF,x02];exact SKd) (by rfl) (by rfl) r9 ?_;exact x4d AD (I.trans (AF.mono (by omega)))
  ·have B0:=yH (show N.right d=true/\N.size<=1048576 from ⟨Z.out,by omega⟩);obtain ⟨D,hD⟩:∃D,D=sumOf N.bytes:=⟨_,rfl⟩
   have AQ:=yH hD;have X:=yH (show D.length=32 from by rw [hD];rfl);have BB:=yH (show Sm.allB D from by rw [hD];exact x3z _);clear Ak hD;have AM:=yH (x06 H);have AZ:=yH (Ai.keep (fun _=>False) (Only.of_below _ I) (fun _ _ e=>e));have A5:=Pg.pput_any N.bytes q9 N.bytes.length c9 AZ B6 B9 Au;rw [<- AQ.out] at A5;have At:=yH A5;clear A5;go_upto_region 8 with (first
    | (go_at_call 257;refine At.mono ?_;rintro e w6 ⟨rfl,⟨Q6,Aj,AK⟩,a,A2⟩;have AS:=yH A2;clear A2;have Ao:=yH ((a.block _ (yL AE) (fun h=>by have:=P.out _ h;have:=B.out;omega)).trans AE.out);have Aq:=yH ((a.block _ (yL z) (fun h=>by have:=P.out _ h;omega)).trans z.out);have A0:=yH (show ∀r∈C.rows,r.Ok w6 from fun r hr=>rw_keep (AM.out r hr) (fun x hx hR=>by have h9:=(v.out r hr).2 x hx hR;exact a.block _ (by have:=A6.out;omega) (fun h=>by have:=P.out _ h;have:=B.out;omega)));have B4:=yH Aj;have A8:=yH AK;have A:=yH a;clear Aj AK a)
    | (refine wpList_store_mid (by rfl) 30 _ _ (by rfl) gk 0 (u8s D) (by rfl) (by rfl) (by rw [x0C,X.out];exact x7W Ao H.len) (by rw [x0C,X.out];exact S25) (x0f _) ?_))
   have r7:=y2H (D:=D) Ao H.len X;have o7:=x1P w6 gk 0 (vals D);rw [show (u8s D).toList=vals D from rfl];have AV:=yH o7;have Ax:=yH r7;have Ah:=yH ((o7.block _ (yL Aq) (by have:=B.out;omega)).trans Aq.out);clear o7 r7;generalize w6.setCells gk 0 (vals D)=w7 at *;have u:=yH (show ({C with sum:=D}:Kd).cells.length=37 from Kd.cells_length X);have B1:=yH (x0E Ax);clear Af;go_wp2_with (first
    | (refine jK (by rfl) 34 _ (by rfl) gk 0 (by rfl) ({C with sum:=D}:Kd).cells du B1 o t (by rw [u.out];exact SKd) ?_)
    | (refine jL (by rfl) 34 _ _ (by rfl) (w.heap.size+1) ({C with sum:=D}:Kd).cells.toArray (by rfl) (by rfl) _ _ Ah (by rw [jF,u.out];exact SKd) (by simp only [jF,u.out,x02]) (jN Kd.one) ?_))
   have r9:=jT _ (w.heap.size+1) _ ({C with sum:=D}:Kd).cells.toArray _ _ Ah;have b:∀r∈C.rows,r.Ok (w7.setRow (w.heap.size+1) ({C with sum:=D}:Kd).cells.toArray):=fun r hr=>rw_keep (A0.out r hr) (fun x hx hR=>by
    have h9:=(v.out r hr).2 x hx hR;have B7:x.block<w6.heap.size:=x2W (A0.out r hr).ints hx hR;rw [setRow_other _ _ _ _ (by have:=B.out;omega)];exact AV.block _ B7 (by omega))
   refine x0G 6 7 (by kernel_rfl) (w.heap.size+1) _ ({C with sum:=D}:Kd).cells.toArray _ o t (by rw [jF,u.out];exact SKd) (by rfl) (by rfl) r9 ?_;have Am:({C with sum:=D}:Kd).Ok (w7.setRow (w.heap.size+1) ({C with sum:=D}:Kd).cells.toArray):=⟨X.out,BB.out,b _ (by simp [Kd.rows]),b _ (by simp [Kd.rows]),b _ (by simp [Kd.rows]),H.live,H.size⟩
   have Ac:({C with sum:=D}:Kd).pk=N.says:=by
    have e4:=Ab.out;unfold PN.says;rw [<- e4,<- AQ.out];rfl
   have BA:Fsh w ({C with sum:=D}:Kd):=fun r hr x hx hR=>by have:=((v.out r hr).2 x hx hR).1;have:=B.out;omega
   have J:Only (fun j=>j=gk\/j=w.heap.size+1) w6 (w7.setRow (w.heap.size+1) ({C with sum:=D}:Kd).cells.toArray):=(AV.mono (fun j e=>Or.inl e)).trans ((x08 w7 (w.heap.size+1) _).mono (fun j e=>Or.inr e));have Al:=I.size;have Ae:g<w.heap.size:=P.out g (PL.mine Ai);refine Or.inl ⟨B0.out,_,rfl,Ac,Am,BA,⟨Q6,B4.keep _ J (fun k hk e=>?_),fun k hk=>(A8.out k hk).imp id (fun h=>by omega),fun r hr x hx hR h=>by
    have h9:=(v.out r hr).2 x hx hR;rcases A8.out _ h with h | h
    ·have:=P.out _ h;have:=B.out;omega
    ·have:=A6.out;omega⟩,?_,AS.keep (I.block g Ae) (J.block g (jO Ae (jJ Al A.size)) (by have:=B.out;omega))⟩
   ·rcases A8.out k hk with h | h
    ·have:=P.out k h;have:=B.out;rcases e with e | e<;>omega
    ·have:=A6.out;have:=B.out;rcases e with e | e<;>omega
   ·refine ⟨J.os.trans (A.os.trans I.os),J.tape.trans (A.tape.trans I.tape),J.output.trans (A.output.trans I.output),jJ Al (jJ A.size J.size),fun k hk hn=>?_⟩;have h6:=A.size;rw [J.block k (by omega) (by have:=B.out;omega),A.block k (by omega) hn];exact I.block k hk
theorem y6R (kind:Nat) (hkd:kind<256) (p:Option Addr) (n c:Nat) (q:Option Addr) (m f:Nat) (E:List En) (K:List Kd) (d:Int) (w:World) (hE:EntsIn w p n c E) (hK:KidsIn w q m f K) {g:Nat} {Q:Nat->Prop} {s:Pg.S} (hp:PL w g Q s) (hsl:s.W.length<100000):
  Calls Tryz.prog 195 #[.pointer (some ⟨g,0,none⟩),.agg #[.int .u8 kind,.slice p n c,.slice q m f],.int .i64 d] w (y2l w g Q s (pnOf kind E K) d):=by
 have j:=yH hp;have R:=yH (show ∀k,Q k->k<w.heap.size from hp.lt);have AE:=yH hsl;clear hp hsl;have A8:=jA w (.cells #[.int .u8 kind,.slice p n c,.slice q m f] 97);have A4:=NodeAt.start w kind p n c q m f;have z1:(w.alloc (.cells #[.int .u8 kind,.slice p n c,.slice q m f] 97)).heap.size=w.heap.size+1:=by simp
 have AM:=yH hkd;have HE:=yH hE;have HK:=yH hK;obtain ⟨du,A6,t⟩:=UKd;have b:=yH A6;have A3:=yH t;have HZ:=yH (zero_of_info kz);clear hkd hE hK A6 t;have AS:=HZ.1
 go_enter Tryz.func195,Tryz.ntmps195
 go_upto_region 1 with fail
 have Y:Below (w.heap.size+1) (w.alloc (.cells #[.int .u8 kind,.slice p n c,.slice q m f] 97)) ((w.alloc (.cells #[.int .u8 kind,.slice p n c,.slice q m f] 97)).alloc (.cells kd0.cells.toArray 34)):=(jC _ _).alloc (by omega) _;have r2:=jE (w.alloc (.cells #[.int .u8 kind,.slice p n c,.slice q m f] 97)) (.cells kd0.cells.toArray 34);rw [z1] at r2;have AK:=yH (A4.later (by rw [z1];exact Y));have A:=yH (A8.trans (Y.mono (by omega)));have M:=yH r2;clear A8 A4 z1 Y r2;generalize (w.alloc (.cells #[.int .u8 kind,.slice p n c,.slice q m f] 97)).alloc (.cells kd0.cells.toArray 34)=w2 at *;have i:=yH (j.keep (fun _=>False) (Only.of_below _ A) (fun _ _ e=>e));have O:=yH (y6Q kind AM p n c q m f E K d w2 (HE.later A) (HK.later A) i AE);generalize pnOf kind E K=N at *;obtain ⟨t0,t1,t2⟩:=AK.cells;have L:=yH (show w.heap.size+1<w2.heap.size from (yL M));by_cases hg:N.right d=true/\N.size<=1048576
 ·have l:=yH hg;clear hg;go_wp2_with (first
   | (go_at_call 191;refine O.mono ?_;rintro e a h3;obtain ⟨-,J,rfl,v,X,A7,⟨Q6,y,z,A0⟩,Z,P⟩:=(h3.resolve_right (fun h=>absurd l.out h.1));have A1:=yH P;clear P;have H:=yH ((Z.block _ (yL M) (fun h=>by have:=R.out _ h;omega)).trans M.out);have AC:=yH y;have AN:=yH A0;have u:=yH z;have B:=yH Z;clear y z A0 Z h3;have U:=yH (Kd.cells_length X.len);have AJ:=yH v;have G:=yH X;have o:=yH A7;clear v X A7)
   | (refine jL (by rfl) 34 _ _ (by rfl) (w.heap.size+1) J.cells.toArray (by rfl) (by rfl) _ _ H (by rw [jF,U.out];exact SKd) (by simp only [jF,U.out,x02]) (jN Kd.one) ?_))
  have r9:=jT _ (w.heap.size+1) _ J.cells.toArray _ _ H;have I:∀r∈J.rows,r.Ok (a.setRow (w.heap.size+1) J.cells.toArray):=fun r hr=>rw_keep (x06 G r hr) (fun x hx hR=>setRow_other _ _ _ _ (by have:=o.out r hr x hx hR;have:=L.out;omega));refine x0G 6 7 (by kernel_rfl) (w.heap.size+1) _ J.cells.toArray _ b A3 (by rw [jF,U.out];exact SKd) (by rfl) (by rfl) r9 ?_;have A2:J.Ok (a.setRow (w.heap.size+1) J.cells.toArray):=⟨G.len,G.ok,I _ (by simp [Kd.rows]),I _ (by simp [Kd.rows]),I _ (by simp [Kd.rows]),G.live,G.size⟩
  have AG:Fsh w J:=fun r hr x hx hR=>by have:=o.out r hr x hx hR;have:=L.out;omega
  have C:=x08 a (w.heap.size+1) J.cells.toArray;have A5:g<w.heap.size:=R.out g (PL.mine j);refine Or.inl ⟨l.out,J,rfl,AJ.out,A2,AG,⟨Q6,AC.keep _ C (fun k hk e=>?_),fun k hk=>(u.out k hk).imp id (fun h=>by have:=A.size;omega),AN.out⟩,?_,A1.keep (A.block g A5) (C.block g (jO A5 (jJ A.size B.size)) (by omega))⟩
  ·rcases u.out k hk with h | h
   ·have:=R.out k h;omega
   ·have:=L.out;omega
  ·refine ⟨C.os.trans (B.os.trans A.os),C.tape.trans (B.tape.trans A.tape),C.output.trans (B.output.trans A.output),jJ A.size (jJ B.size C.size),fun k hk hn=>?_⟩;have h6:=B.size;have h2:=L.out;rw [C.block k (by omega) (by omega),B.block k (by omega) hn];exact A.block k hk
 ·have l:=yH hg;clear hg;go_wp2_with (first
   | (go_at_call 191;refine O.mono ?_;rintro e a h3;obtain ⟨-,rfl,b3⟩:=(h3.resolve_left (fun h=>absurd h.1 l));have H:=yH (yK b3 M);have AB:=yH (A.trans (b3.mono A.size));clear b3)
   | (refine jL (by rfl) 34 _ _ (by rfl) (w.heap.size+1) kd0.cells.toArray (by rfl) (by rfl) _ _ H (by rw [jF,x02];exact SKd) rfl (jN Kd.one) ?_))
  have r9:=jT _ (w.heap.size+1) _ kd0.cells.toArray _ _ H;have AF:Below (w.heap.size+1) a (a.setRow (w.heap.size+1) kd0.cells.toArray):=Below.setRow (jC _ _) (jB _) _;refine x0G 6 7 (by kernel_rfl) (w.heap.size+1) _ kd0.cells.toArray _ b A3 (by rw [jF,x02];exact SKd) (by rfl) (by rfl) r9 ?_;exact x4d l (AB.trans (AF.mono (by omega)))
end Nd
end Go.Proofs.YtenenciaggbjnaaGreat
