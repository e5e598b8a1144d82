/- ShaMath, ShaPreMath, ShaSumOk, PgMath, NdSays, KtKid, NdSides, KtRight, NdTwoKids. -/
import Derived.Deep.AppendLies
import Derived.Laws.AppendOwnNone
import Derived.Test.YtinihaflmdihaaaGreatL7
set_option maxRecDepth 100000
set_option maxHeartbeats 8000000
set_option linter.all false
namespace Go.Proofs.YtinihaflmdihaaaGreat.Sm
def rot (n x:Nat):Nat:=(x*2^(32 - n))%4294967296||| x/2^n
def s0 (x:Nat):Nat:=(rot 7 x^^^rot 18 x)^^^x/8
def s1 (x:Nat):Nat:=(rot 17 x^^^rot 19 x)^^^x/1024
def b0 (a:Nat):Nat:=(rot 2 a^^^rot 13 a)^^^rot 22 a
def b1 (e:Nat):Nat:=(rot 6 e^^^rot 11 e)^^^rot 25 e
def ch (e f g:Nat):Nat:=(e&&& f)^^^((4294967295 - e)&&& g)
def mj (a b c:Nat):Nat:=((a&&& b)^^^(a&&& c))^^^(b&&& c)
structure V8 where
 (a b c d e f g h:Nat)
def V8.ok (v:V8):Prop:=v.a<4294967296∧v.b<4294967296∧v.c<4294967296∧v.d<4294967296∧v.e<4294967296∧v.f<4294967296∧v.g<4294967296∧v.h<4294967296
def V8.list (v:V8):List Nat:=[v.a,v.b,v.c,v.d,v.e,v.f,v.g,v.h]
def t1 (k w:Nat) (v:V8):Nat:=(v.h+b1 v.e+ch v.e v.f v.g+k+w)%4294967296
def t2 (v:V8):Nat:=(b0 v.a+mj v.a v.b v.c)%4294967296
def step (k w:Nat) (v:V8):V8:=⟨(t1 k w v+t2 v)%4294967296,v.a,v.b,v.c,(v.d+t1 k w v)%4294967296,v.e,v.f,v.g⟩
def rounds (K W:List Nat) (v:V8):Nat→V8
 | 0=>v
 | n+1=>step (K.getD n 0) (W.getD n 0) (rounds K W v n)
def add8 (v u:V8):V8:=⟨(v.a+u.a)%4294967296,(v.b+u.b)%4294967296,(v.c+u.c)%4294967296,(v.d+u.d)%4294967296,(v.e+u.e)%4294967296,(v.f+u.f)%4294967296,(v.g+u.g)%4294967296,(v.h+u.h)%4294967296⟩
def turn (K W:List Nat) (v:V8):V8:=add8 v (rounds K W v 64)
def word (B:List Nat) (i:Nat):Nat:=B.getD (4*i) 0*16777216+B.getD (4*i+1) 0*65536+B.getD (4*i+2) 0*256+B.getD (4*i+3) 0
def words (B:List Nat):Nat→List Nat
 | 0=>[]
 | n+1=>words B n++[word B n]
def more (l:List Nat):Nat→List Nat
 | 0=>l
 | n+1=>more l n++[((more l n).getD n 0+s0 ((more l n).getD (n+1) 0)+(more l n).getD (n+9) 0+s1 ((more l n).getD (n+14) 0))%4294967296]
def sched (B:List Nat):List Nat:=more (words B 16) 48
def ks:List Nat:=[0x428a2f98,0x71374491,0xb5c0fbcf,0xe9b5dba5,0x3956c25b,0x59f111f1,0x923f82a4,0xab1c5ed5,0xd807aa98,0x12835b01,0x243185be,0x550c7dc3,0x72be5d74,0x80deb1fe,0x9bdc06a7,0xc19bf174,0xe49b69c1,0xefbe4786,0x0fc19dc6,0x240ca1cc,0x2de92c6f,0x4a7484aa,0x5cb0a9dc,0x76f988da,0x983e5152,0xa831c66d,0xb00327c8,0xbf597fc7,0xc6e00bf3,0xd5a79147,0x06ca6351,0x14292967,0x27b70a85,0x2e1b2138,0x4d2c6dfc,0x53380d13,0x650a7354,0x766a0abb,0x81c2c92e,0x92722c85,0xa2bfe8a1,0xa81a664b,0xc24b8b70,0xc76c51a3,0xd192e819,0xd6990624,0xf40e3585,0x106aa070,0x19a4c116,0x1e376c08,0x2748774c,0x34b0bcb5,0x391c0cb3,0x4ed8aa4a,0x5b9cca4f,0x682e6ff3,0x748f82ee,0x78a5636f,0x84c87814,0x8cc70208,0x90befffa,0xa4506ceb,0xbef9a3f7,0xc67178f2]
def first:V8:=⟨0x6a09e667,0xbb67ae85,0x3c6ef372,0xa54ff53a,0x510e527f,0x9b05688c,0x1f83d9ab,0x5be0cd19⟩
def blocks (B:List Nat) (v:V8):Nat→V8
 | 0=>v
 | n+1=>turn ks (sched (B.drop (64*n))) (blocks B v n)
def big (n:Nat) (k:Nat):Nat:=n/2^(8*(7 - k))%256
def bigs (n:Nat):List Nat:=[big n 0,big n 1,big n 2,big n 3,big n 4,big n 5,big n 6,big n 7]
def fill (n:Nat):List Nat:=128::(List.replicate ((119 - n%64)%64) 0++bigs (8*n))
def bytes4 (w:Nat):List Nat:=[w/16777216%256,w/65536%256,w/256%256,w%256]
def bytesOf (v:V8):List Nat:=v.list.flatMap bytes4
def full (T:List Nat):List Nat:=T++fill T.length
def sum (T:List Nat):List Nat:=bytesOf (blocks (full T) first ((full T).length/64))
theorem x1G {n x:Nat} (h:x<4294967296):rot n x<4294967296:=by
 unfold rot
 have A:x/2^n<2^32:=Nat.lt_of_le_of_lt (Nat.div_le_self _ _) (by omega)
 have B:x*2^(32 - n)%4294967296<2^32:=by have:=Nat.mod_lt (x*2^(32 - n)) (show 0<4294967296 by omega);omega
 have:=Nat.or_lt_two_pow B A
 omega
theorem x78 {a b:Nat} (h1:a<4294967296) (h2:b<4294967296):a^^^b<4294967296:=by
 have:=Nat.xor_lt_two_pow (n:=32) (x:=a) (y:=b) (by omega) (by omega);omega
theorem and_lt {a b:Nat} (h2:b<4294967296):a&&& b<4294967296:=by
 have:=Nat.and_lt_two_pow (n:=32) a (y:=b) (by omega);omega
theorem y4H {k w:Nat} {v:V8} (h:v.ok):(step k w v).ok:=by
 obtain ⟨B,E,G,I,A,H,C,J⟩:=h
 exact ⟨Nat.mod_lt _ (by omega),B,E,G,Nat.mod_lt _ (by omega),A,H,C⟩
theorem rounds_ok {K W:List Nat} {v:V8} (h:v.ok) (n:Nat):(rounds K W v n).ok:=by
 induction n with
 | zero=>exact h
 | succ n ih=>exact y4H ih
theorem y4I {v u:V8}:(add8 v u).ok:=by
 refine ⟨?_,?_,?_,?_,?_,?_,?_,?_⟩<;>exact Nat.mod_lt _ (by omega)
theorem first_ok:first.ok:=by unfold V8.ok first;decide
theorem blocks_ok {B:List Nat} {v:V8} (h:v.ok) (n:Nat):(blocks B v n).ok:=by
 cases n with
 | zero=>exact h
 | succ n=>exact y4I
theorem length_words (B:List Nat) (n:Nat):(words B n).length=n:=by
 induction n with
 | zero=>rfl
 | succ n ih=>simp [words,ih]
theorem length_more (l:List Nat) (n:Nat):(more l n).length=l.length+n:=by
 induction n with
 | zero=>rfl
 | succ n ih=>simp [more,ih];omega
theorem length_sched (B:List Nat):(sched B).length=64:=by simp [sched,length_more,length_words]
def allW (l:List Nat):Prop:=∀x∈l,x<4294967296
theorem y4J {B:List Nat} (h:allB B) (i:Nat):word B i<4294967296:=by
 have A:=getD_lt h (by omega) (4*i)
 have E:=getD_lt h (by omega) (4*i+1)
 have C:=getD_lt h (by omega) (4*i+2)
 have G:=getD_lt h (by omega) (4*i+3)
 unfold word;omega
theorem words_ok {B:List Nat} (h:allB B) (n:Nat):allW (words B n):=by
 induction n with
 | zero=>intro x A;simp [words] at A
 | succ n ih=>
  intro x A
  simp only [words,List.mem_append,List.mem_singleton] at A
  rcases A with A | rfl
  ·exact ih x A
  ·exact y4J h n
theorem more_ok {l:List Nat} (h:allW l) (n:Nat):allW (more l n):=by
 induction n with
 | zero=>exact h
 | succ n ih=>
  intro x A
  simp only [more,List.mem_append,List.mem_singleton] at A
  rcases A with A | rfl
  ·exact ih x A
  ·exact Nat.mod_lt _ (by omega)
theorem sched_ok {B:List Nat} (h:allB B):allW (sched B):=more_ok (words_ok h 16) 48
theorem ks_ok:allW ks:=by unfold allW ks;decide
theorem big_lt (n k:Nat):big n k<256:=Nat.mod_lt _ (by omega)
theorem y4K {e:Nat} (h:e<4294967296):4294967295^^^e=4294967295 - e:=by
 have A:(BitVec.allOnes 32^^^BitVec.ofNat 32 e).toNat=(~~~ BitVec.ofNat 32 e).toNat:=by rw [BitVec.allOnes_xor]
 rw [BitVec.toNat_xor,BitVec.toNat_not,BitVec.toNat_allOnes,BitVec.toNat_ofNat,Nat.mod_eq_of_lt (by omega)] at A
 exact A
theorem y4L:IntKind.u32.max=4294967295:=by decide
theorem b1_int {e:Nat} (h:e<4294967296):bits .xor .u32 (bits .xor .u32 (rot 6 e:Nat) (rot 11 e:Nat)) (rot 25 e:Nat)=((b1 e:Nat):Int):=by
 rw [u32_xor_nat _ _ (x1G h) (x1G h),u32_xor_nat _ _ (x78 (x1G h) (x1G h)) (x1G h)];rfl
theorem b0_int {e:Nat} (h:e<4294967296):bits .xor .u32 (bits .xor .u32 (rot 2 e:Nat) (rot 13 e:Nat)) (rot 22 e:Nat)=((b0 e:Nat):Int):=by
 rw [u32_xor_nat _ _ (x1G h) (x1G h),u32_xor_nat _ _ (x78 (x1G h) (x1G h)) (x1G h)];rfl
theorem y5E {e f g:Nat} (he:e<4294967296) (hf:f<4294967296) (hg:g<4294967296):
  bits .xor .u32 (bits .and .u32 (e:Nat) (f:Nat)) (bits .and .u32 (bits .xor .u32 IntKind.u32.max (e:Nat)) (g:Nat))=((ch e f g:Nat):Int):=by
 have A:bits .xor .u32 IntKind.u32.max (e:Nat)=((4294967295 - e:Nat):Int):=by
  rw [y4L]
  have:=u32_xor_nat 4294967295 e (by omega) he
  rw [y4K he] at this
  exact this
 rw [A,u32_and_nat _ _ he hf,u32_and_nat _ _ (by omega) hg,u32_xor_nat _ _ (and_lt hf) (and_lt hg)];rfl
theorem mj_int {a b c:Nat} (ha:a<4294967296) (hb:b<4294967296) (hc:c<4294967296):
  bits .xor .u32 (bits .xor .u32 (bits .and .u32 (a:Nat) (b:Nat)) (bits .and .u32 (a:Nat) (c:Nat))) (bits .and .u32 (b:Nat) (c:Nat))=((mj a b c:Nat):Int):=by
 rw [u32_and_nat _ _ ha hb,u32_and_nat _ _ ha hc,u32_and_nat _ _ hb hc,u32_xor_nat _ _ (and_lt hb) (and_lt hc),u32_xor_nat _ _ (x78 (and_lt hb) (and_lt hc)) (and_lt hc)];rfl
theorem t1_int {u:V8} (hu:u.ok) (k w:Nat):
  ((u.h:Nat)+bits .xor .u32 (bits .xor .u32 (rot 6 u.e:Nat) (rot 11 u.e:Nat)) (rot 25 u.e:Nat)+bits .xor .u32 (bits .and .u32 (u.e:Nat) (u.f:Nat)) (bits .and .u32 (bits .xor .u32 IntKind.u32.max (u.e:Nat)) (u.g:Nat))+(k:Nat)+(w:Nat))%4294967296=((t1 k w u:Nat):Int):=by
 obtain ⟨G,H,I,E,A,C,B,J⟩:=hu
 rw [b1_int A,y5E A C B];unfold t1;omega
theorem t2_int {u:V8} (hu:u.ok):
  (bits .xor .u32 (bits .xor .u32 (rot 2 u.a:Nat) (rot 13 u.a:Nat)) (rot 22 u.a:Nat)+bits .xor .u32 (bits .xor .u32 (bits .and .u32 (u.a:Nat) (u.b:Nat)) (bits .and .u32 (u.a:Nat) (u.c:Nat))) (bits .and .u32 (u.b:Nat) (u.c:Nat)))%4294967296=((t2 u:Nat):Int):=by
 obtain ⟨A,B,C,G,E,I,H,J⟩:=hu
 rw [b0_int A,mj_int A B C];unfold t2;omega
theorem y0b {a b n:Nat} (h:b<2^n):a*2^n||| b=a*2^n+b:=by
 have:=Nat.shiftLeft_add_eq_or_of_lt h a
 rw [Nat.shiftLeft_eq] at this
 exact this.symm
theorem y2T {x0 x1 x2 x3:Nat} (h1:x1<256) (h2:x2<256) (h3:x3<256):((x0*16777216||| x1*65536)||| x2*256)||| x3=x0*16777216+x1*65536+x2*256+x3:=by
 have A:x0*16777216||| x1*65536=x0*16777216+x1*65536:=y0b (n:=24) (by omega)
 have C:(x0*16777216+x1*65536)||| x2*256=x0*16777216+x1*65536+x2*256:=by
  have:=y0b (a:=x0*256+x1) (n:=16) (b:=x2*256) (by omega)
  rw [show (x0*256+x1)*2^16=x0*16777216+x1*65536 from by omega] at this
  exact this
 have B:(x0*16777216+x1*65536+x2*256)||| x3=x0*16777216+x1*65536+x2*256+x3:=by
  have:=y0b (a:=x0*65536+x1*256+x2) (n:=8) (b:=x3) (by omega)
  rw [show (x0*65536+x1*256+x2)*2^8=x0*16777216+x1*65536+x2*256 from by omega] at this
  exact this
 rw [A,C,B]
theorem word_int {x0 x1 x2 x3:Nat} (h0:x0<256) (h1:x1<256) (h2:x2<256) (h3:x3<256):
  bits .or .u32 (bits .or .u32 (bits .or .u32 ((x0:Nat)*16777216) ((x1:Nat)*65536)) ((x2:Nat)*256)) (x3:Nat)=((x0*16777216+x1*65536+x2*256+x3:Nat):Int):=by
 have E:((x0:Nat):Int)*16777216=((x0*16777216:Nat):Int):=by omega
 have B:((x1:Nat):Int)*65536=((x1*65536:Nat):Int):=by omega
 have C:((x2:Nat):Int)*256=((x2*256:Nat):Int):=by omega
 have G:x0*16777216||| x1*65536<4294967296:=by have:=Nat.or_lt_two_pow (n:=32) (x:=x0*16777216) (y:=x1*65536) (by omega) (by omega);omega
 have A:(x0*16777216||| x1*65536)||| x2*256<4294967296:=by have:=Nat.or_lt_two_pow (n:=32) (x:=x0*16777216||| x1*65536) (y:=x2*256) (by omega) (by omega);omega
 rw [E,B,C,u32_or_nat _ _ (by omega) (by omega),u32_or_nat _ _ G (by omega),u32_or_nat _ _ A (by omega),y2T h1 h2 h3]
theorem s0_int {x:Nat} (h:x<4294967296):bits .xor .u32 (bits .xor .u32 (rot 7 x:Nat) (rot 18 x:Nat)) ((x:Nat)/8)=((s0 x:Nat):Int):=by
 have e:((x:Nat):Int)/8=((x/8:Nat):Int):=by omega
 rw [e,u32_xor_nat _ _ (x1G h) (x1G h),u32_xor_nat _ _ (x78 (x1G h) (x1G h)) (by omega)];rfl
theorem s1_int {x:Nat} (h:x<4294967296):bits .xor .u32 (bits .xor .u32 (rot 17 x:Nat) (rot 19 x:Nat)) ((x:Nat)/1024)=((s1 x:Nat):Int):=by
 have e:((x:Nat):Int)/1024=((x/1024:Nat):Int):=by omega
 rw [e,u32_xor_nat _ _ (x1G h) (x1G h),u32_xor_nat _ _ (x78 (x1G h) (x1G h)) (by omega)];rfl
end Go.Proofs.YtinihaflmdihaaaGreat.Sm
namespace Go.Proofs.YtinihaflmdihaaaGreat
open Go.RowKit
def tpart (t:List Nat):List Nat:=Sm.bigs t.length++t
def pre (tag:Nat) (L:List (List Nat)):List Nat:=tag::L.flatMap tpart
def tot (L:List (List Nat)):Nat:=(pre 0 L).length
theorem x3r (tag:Nat) (L:List (List Nat)):(pre tag L).length=tot L:=by simp [pre,tot]
theorem x4V (tag:Nat) (L:List (List Nat)) (k:Nat) (h:k<L.length):pre tag (L.take (k+1))=pre tag (L.take k)++tpart (L.getD k []):=by
 rw [x5R L k h];simp [pre]
theorem x2H (t:List Nat):(tpart t).length=8+t.length:=by simp [tpart,Sm.bigs];omega
theorem x8W (L:List (List Nat)) (k:Nat) (h:k<L.length):tot (L.take (k+1))=tot (L.take k)+(8+(L.getD k []).length):=by
 have:=congrArg List.length (x4V 0 L k h)
 rw [List.length_append,x2H] at this
 exact this
theorem y0c (L:List (List Nat)) (k:Nat):tot L=tot (L.take k)+((L.drop k).flatMap tpart).length:=by
 have h:L.flatMap tpart=(L.take k).flatMap tpart++(L.drop k).flatMap tpart:=by rw [← List.flatMap_append,List.take_append_drop]
 simp only [tot,pre,List.length_cons]
 rw [h,List.length_append]
 omega
theorem x4u (L:List (List Nat)) (k:Nat):tot (L.take k)≤tot L:=by
 have:=y0c L k
 omega
theorem x7v (M:List (List Nat)):M.length≤(M.flatMap tpart).length:=by
 induction M with
 | nil=>simp
 | cons t M ih=>rw [List.flatMap_cons,List.length_append,x2H];simp only [List.length_cons];omega
theorem x5k (L:List (List Nat)):L.length≤tot L:=by
 have:=x7v L
 simp only [tot,pre,List.length_cons]
 omega
def y5F (w:World) (tag len:Nat) (L:List (List Nat)) (v i:Value) (wr:World):Prop:=
 ∃k:Nat,k≤len∧i= .int .i64 k∧wr.ownsRow w.heap.size 5 1 v (tot (L.take k)) (vals (pre tag (L.take k)))∧Below w.heap.size w wr
theorem x8X (n:Nat):Sm.allB (Sm.bigs n):=by
 have h:∀k,Sm.big n k<256:=fun k=>by unfold Sm.big;exact Nat.mod_lt _ (by omega)
 intro x hx
 simp only [Sm.bigs,List.mem_cons,List.not_mem_nil,or_false] at hx
 rcases hx with rfl | rfl | rfl | rfl | rfl | rfl | rfl | rfl<;>exact h _
end Go.Proofs.YtinihaflmdihaaaGreat
namespace Go.Proofs.YtinihaflmdihaaaGreat
theorem y5G (B:List Nat):Sm.allB (Sm.sum B):=by
 intro x A
 simp only [Sm.sum,Sm.bytesOf,List.mem_flatMap] at A
 obtain ⟨w,_,A⟩:=A
 simp only [Sm.bytes4,List.mem_cons,List.not_mem_nil,or_false] at A
 rcases A with rfl | rfl | rfl | rfl<;>exact Nat.mod_lt _ (by omega)
end Go.Proofs.YtinihaflmdihaaaGreat
namespace Go.Proofs.YtinihaflmdihaaaGreat.Pg
open Go.RowKit
def sumOf (b:List Nat):List Nat:=Sm.sum (pre 80 [b])
theorem x79 (b:List Nat):(sumOf b).length=32:=rfl
theorem x3N (b:List Nat):Sm.allB (sumOf b):=y5G _
abbrev Pages:=List (List Nat×List Nat)
def idx (d:List Nat):Pages→Nat
 |[]=>0
 | x::r=>if x.1=d then 0 else idx d r+1
theorem y3k (d:List Nat):∀W:Pages,idx d W≤W.length
 |[]=>Nat.le_refl _
 | x::r=>by
  rw [idx]
  split
  ·omega
  ·have:=y3k d r;simp;omega
theorem x5l {d:List Nat}:∀ {W:Pages},idx d W<W.length→(W.getD (idx d W) default).1=d
 |[],h=>absurd h (Nat.not_lt_zero _)
 | x::r,h=>by
  rw [idx] at h ⊢
  split
  ·next e=>exact e
  ·next e=>
   rw [if_neg e] at h
   simpa using x5l (W:=r) (by simpa using h)
theorem x1v {d:List Nat}:∀ {W:Pages} {i:Nat},i<idx d W→(W.getD i default).1≠d
 |[],i,h=>absurd h (Nat.not_lt_zero _)
 | x::r,i,h=>by
  rw [idx] at h
  split at h
  ·omega
  ·next e=>
   cases i with
   | zero=>simpa using e
   | succ i=>simpa using x1v (W:=r) (by omega:i<idx d r)
theorem y3l {d:List Nat} {W:Pages} {i:Nat} (hi:i<W.length) (h:(W.getD i default).1=d) (hb:∀j,j<i→(W.getD j default).1≠d):idx d W=i:=by
 rcases Nat.lt_trichotomy (idx d W) i with A | A | A
 ·exact absurd (x5l (Nat.lt_trans A hi)) (hb _ A)
 ·exact A
 ·exact absurd h (x1v A)
def x0O (W:Pages) (d:List Nat):Option (List Nat):=if idx d W<W.length then some (W.getD (idx d W) default).2 else none
structure S where
 W:Pages
 cl:Option (List Nat×List Nat)
def putW (W:Pages) (b:List Nat):Pages:=if idx (sumOf b) W<W.length then W else W++[(sumOf b,b)]
def S.put (s:S) (b:List Nat):S:=
 ⟨putW s.W b,match s.cl with
  | some x=>some x
  | none=>match x0O s.W (sumOf b) with
   | none=>none
   | some t=>if t=b then none else some (t,b)⟩
def keepW (W:Pages) (K:List (List Nat)):Pages:=W.filter (fun x=>decide (x.1∈K))
def S.keep (s:S) (K:List (List Nat)):S:=⟨keepW s.W K,s.cl⟩
structure S.ok (s:S):Prop where
 one:(s.W.map (·.1)).Nodup
 sum:∀x∈s.W,x.1=sumOf x.2
 bytes:∀x∈s.W,Sm.allB x.2
 clash:∀x,s.cl=some x→x.1≠x.2∧sumOf x.1=sumOf x.2
theorem x7w {d:List Nat} {W:Pages}:idx d W<W.length↔d∈W.map (·.1):=by
 constructor
 ·intro h
  have A:=x5l h
  rw [← A,List.getD_eq_getElem?_getD,List.getElem?_eq_getElem h,Option.getD_some]
  exact List.mem_map_of_mem (List.getElem_mem h)
 ·intro h
  obtain ⟨x,B,rfl⟩:=List.mem_map.1 h
  obtain ⟨i,C,rfl⟩:=List.getElem_of_mem B
  rcases Nat.lt_or_ge (idx W[i].1 W) W.length with A | A
  ·exact A
  ·exact absurd (show (W.getD i default).1=W[i].1 from by rw [List.getD_eq_getElem?_getD,List.getElem?_eq_getElem C];rfl) (x1v (by omega))
theorem x1f {W:Pages} {d:List Nat} (h:idx d W<W.length):x0O W d=some (W.getD (idx d W) default).2:=if_pos h
theorem x2z {W:Pages} {d:List Nat} (h:¬idx d W<W.length):x0O W d=none:=if_neg h
theorem S.new_ok:S.ok ⟨[],none⟩:=⟨List.nodup_nil,(fun x hx=>by cases hx),(fun x hx=>by cases hx),fun x hx=>by cases hx⟩
theorem getD_mem {W:Pages} {i:Nat} (h:i<W.length):W.getD i default∈W:=by
 rw [List.getD_eq_getElem?_getD,List.getElem?_eq_getElem h]
 exact List.getElem_mem h
theorem S.put_ok {s:S} (h:s.ok) {b:List Nat} (hb:Sm.allB b):(s.put b).ok:=by
 refine ⟨?_,?_,?_,?_⟩
 ·show ((putW s.W b).map (·.1)).Nodup
  unfold putW
  split
  ·exact h.one
  ·next hn=>
   rw [List.map_append,List.nodup_append]
   refine ⟨h.one,by simp,fun a ha c hc e=>hn (x7w.2 ?_)⟩
   simp only [List.map_cons,List.map_nil,List.mem_singleton] at hc
   rw [← hc,← e]
   exact ha
 ·intro x A
  simp only [S.put,putW] at A
  split at A
  ·exact h.sum x A
  ·rcases List.mem_append.1 A with A | A
   ·exact h.sum x A
   ·rw [List.mem_singleton.1 A]
 ·intro x A
  simp only [S.put,putW] at A
  split at A
  ·exact h.bytes x A
  ·rcases List.mem_append.1 A with A | A
   ·exact h.bytes x A
   ·rw [List.mem_singleton.1 A];exact hb
 ·intro x A
  simp only [S.put] at A
  split at A
  ·next y hy=>exact h.clash x (by rw [hy];exact A)
  ·split at A
   ·cases A
   ·next t ht=>
    split at A
    ·cases A
    ·next hne=>
     cases A
     refine ⟨hne,?_⟩
     unfold x0O at ht
     split at ht
     ·next hi=>
      cases ht
      have B:=h.sum _ (getD_mem hi)
      rw [← B]
      exact x5l hi
     ·cases ht
theorem y4M {s:S} {b:List Nat} (hc:(s.put b).cl=none):x0O (s.put b).W (sumOf b)=some b:=by
 simp only [S.put] at hc
 split at hc
 ·cases hc
 ·show x0O (putW s.W b) (sumOf b)=some b
  unfold putW
  split
  ·next hi=>
   rw [x1f hi] at hc
   simp only at hc
   split at hc
   ·next e=>rw [x1f hi,e]
   ·cases hc
  ·next hi=>
   have A:idx (sumOf b) (s.W++[(sumOf b,b)])=s.W.length:=y3l (by simp) (by simp) (fun j hj=>by
    rw [List.getD_eq_getElem?_getD,List.getElem?_append_left hj,← List.getD_eq_getElem?_getD]
    exact x1v (by have:=y3k (sumOf b) s.W;omega))
   rw [x1f (by rw [A];simp),A]
   simp
end Go.Proofs.YtinihaflmdihaaaGreat.Pg
namespace Go.Proofs.YtinihaflmdihaaaGreat.Nd
open Go.RowKit Go.Proofs.YtinihaflmdihaaaGreat.Pg
def PN.says (n:PN):PK:={n.tally with sum:=sumOf n.bytes}
theorem x6S {α:Type} (f:α→List Nat) (B:Nat):∀L:List α,(∀x∈L,(f x).length≤B)→(L.flatMap f).length≤B*L.length
 |[],_=>by simp
 | x::L,h=>by
  have h1:=h x (by simp)
  have h2:=x6S f B L (fun y hy=>h y (by simp [hy]))
  rw [List.flatMap_cons,List.length_append,List.length_cons,Nat.mul_add]
  omega
theorem x1N {n:PN} (h:n.Fit) (hs:∀k∈n.kids,k.sum.length=32):n.bytes.length≤100000:=by
 have C:=x6S PE.bytes 70 n.rows (fun e he=>by
  have:=h.row e he
  unfold PE.bytes
  rw [List.length_cons,x0V]
  omega)
 have B:=x6S PK.bytes 300 n.kids (fun k hk=>x3J (h.kid k hk) (hs k hk))
 have E:=h.rows
 have A:=h.kids
 unfold PN.bytes
 simp only [List.length_cons,List.length_append]
 omega
theorem x05 {w:World} {kd:Kd} (h:kd.Ok w):∀r∈kd.rows,r.Ok w:=fun r hr=>by
 simp only [Kd.rows,List.mem_cons,List.not_mem_nil,or_false] at hr
 rcases hr with rfl | rfl | rfl
 ·exact h.lo
 ·exact h.hi
 ·exact h.key
end Go.Proofs.YtinihaflmdihaaaGreat.Nd
namespace Go.Proofs.YtinihaflmdihaaaGreat.Kt
open Go.RowKit Go.Proofs.YtinihaflmdihaaaGreat.Nd
def forkN (p:List Int) (v:Bool) (a b:PK):PN:=⟨1,[⟨p,v⟩],[a,b]⟩
def T.kid:T→PK
 | .nil=>PK.none
 | .fork p v l r=>if (forkN p v l.kid r.kid).size≤1048576 then (forkN p v l.kid r.kid).says else PK.none
end Go.Proofs.YtinihaflmdihaaaGreat.Kt
namespace Go.Proofs.YtinihaflmdihaaaGreat.Nd
open Go.RowKit
def BxN (d:Nat) (x:List Int×List Int):Prop:=rb x.1 x.2=true∧x.1.length=d
theorem x5m {d:Nat} {x:List Int×List Int}:BxN d x↔1≤d∧d≤8∧x.1.length=d∧x.2.length=d∧∀i,i<d→x.1.getD i 0≤x.2.getD i 0:=by
 unfold BxN rb x0d
 rw [Bool.and_eq_true,decide_eq_true_eq,x3f]
 constructor
 ·rintro ⟨⟨C,B⟩,A⟩
  subst A
  exact ⟨by omega,by omega,rfl,by omega,B⟩
 ·rintro ⟨C,B,A,E,G⟩
  rw [A,E]
  exact ⟨⟨by omega,G⟩,rfl⟩
theorem y0d:rb [] []=false:=rfl
def x8Y (d:Nat) (L:List (List Int×List Int)) (b:List Int×List Int):Prop:=
 ((∀x∈L,x=([],[]))∧b=([],[]))∨
 (BxN d b∧(∀x∈L,BxN d x→∀i,i<d→b.1.getD i 0≤x.1.getD i 0∧x.2.getD i 0≤b.2.getD i 0)∧(∃x∈L,BxN d x)∧
  ∀i,i<d→(∃x∈L,BxN d x∧x.1.getD i 0=b.1.getD i 0)∧∃x∈L,BxN d x∧x.2.getD i 0=b.2.getD i 0)
theorem x5n {d:Nat}:¬BxN d ([],[]):=fun h=>by have:=(x5m.1 h);simp at this;omega
theorem x5T {d:Nat} {b:List Int×List Int} (h:BxN d b):hull b ([],[])=b:=by
 unfold hull
 rw [if_pos ⟨h.1,y0d⟩]
theorem x6T {d:Nat} {b:List Int×List Int} (h:BxN d b):hull ([],[]) b=b:=by
 unfold hull
 rw [if_neg (fun k=>by have:=k.1;rw [y0d] at this;cases this),if_pos ⟨h.1,y0d⟩]
theorem y2U:hull ([],[]) ([],[])=([],[]):=rfl
theorem y2V {d:Nat} {a b:List Int×List Int} (ha:BxN d a) (hb:BxN d b):hull a b=(two min a.1 b.1 d,two max a.2 b.2 d):=by
 unfold hull
 rw [if_neg (fun k=>by have:=k.2;rw [hb.1] at this;cases this),if_neg (fun k=>by have:=k.2;rw [ha.1] at this;cases this),if_neg (fun k=>by
  rcases k with k | k
  ·rw [ha.1] at k;cases k
  ·exact k (ha.2.trans hb.2.symm)),ha.2]
theorem y5H {d:Nat} {a b:List Int×List Int} (ha:BxN d a) (_hb:BxN d b):BxN d (two min a.1 b.1 d,two max a.2 b.2 d):=by
 have A:=x5m.1 ha
 refine x5m.2 ⟨A.1,A.2.1,x3g _ _ _ _,x3g _ _ _ _,fun i hi=>?_⟩
 rw [x2X _ _ _ _ _ hi,x2X _ _ _ _ _ hi]
 have:=A.2.2.2.2 i hi
 omega
theorem x9M {d:Nat} {L:List (List Int×List Int)} {b x:List Int×List Int} (h:x8Y d L b) (hx:x=([],[])∨BxN d x):x8Y d (L++[x]) (hull b x):=by
 rcases h with ⟨G,rfl⟩ | ⟨G,J,M,I⟩
 ·rcases hx with rfl | hx
  ·refine Or.inl ⟨fun y A=>?_,y2U⟩
   rcases List.mem_append.1 A with A | A
   ·exact G y A
   ·simpa using A
  ·rw [x6T hx]
   have C:x∈L++[x]:=by simp
   refine Or.inr ⟨hx,fun y A B i hi=>?_,⟨x,C,hx⟩,fun i hi=>⟨⟨x,C,hx,rfl⟩,⟨x,C,hx,rfl⟩⟩⟩
   rcases List.mem_append.1 A with A | A
   ·exact absurd (G y A▸B) x5n
   ·obtain rfl:y=x:=by simpa using A
    exact ⟨Int.le_refl _,Int.le_refl _⟩
 ·rcases hx with rfl | hx
  ·rw [x5T G]
   refine Or.inr ⟨G,fun y A B i hi=>?_,?_,fun i hi=>?_⟩
   ·rcases List.mem_append.1 A with A | A
    ·exact J y A B i hi
    ·obtain rfl:y=([],[]):=by simpa using A
     exact absurd B x5n
   ·obtain ⟨y,A,B⟩:=M
    exact ⟨y,List.mem_append_left _ A,B⟩
   ·obtain ⟨⟨y,A,B,e⟩,⟨z,H,E,K⟩⟩:=I i hi
    exact ⟨⟨y,List.mem_append_left _ A,B,e⟩,⟨z,List.mem_append_left _ H,E,K⟩⟩
  ·rw [y2V G hx]
   have C:x∈L++[x]:=by simp
   refine Or.inr ⟨y5H G hx,fun y A B i hi=>?_,⟨x,C,hx⟩,fun i hi=>?_⟩
   ·show (two min b.1 x.1 d).getD i 0≤_∧_≤(two max b.2 x.2 d).getD i 0
    rw [x2X _ _ _ _ _ hi,x2X _ _ _ _ _ hi]
    rcases List.mem_append.1 A with A | A
    ·have:=J y A B i hi
     omega
    ·obtain rfl:y=x:=by simpa using A
     omega
   ·show (∃y∈L++[x],BxN d y∧y.1.getD i 0=(two min b.1 x.1 d).getD i 0)∧(∃y∈L++[x],BxN d y∧y.2.getD i 0=(two max b.2 x.2 d).getD i 0)
    rw [x2X _ _ _ _ _ hi,x2X _ _ _ _ _ hi]
    obtain ⟨⟨y,A,B,e⟩,⟨z,H,E,K⟩⟩:=I i hi
    constructor
    ·by_cases hc:b.1.getD i 0≤x.1.getD i 0
     ·exact ⟨y,List.mem_append_left _ A,B,by omega⟩
     ·exact ⟨x,C,hx,by omega⟩
    ·by_cases hc:x.2.getD i 0≤b.2.getD i 0
     ·exact ⟨z,List.mem_append_left _ H,E,by omega⟩
     ·exact ⟨x,C,hx,by omega⟩
theorem x5o {d:Nat}:∀(L M:List (List Int×List Int)) (b:List Int×List Int),x8Y d M b→(∀x∈L,x=([],[])∨BxN d x)→x8Y d (M++L) (L.foldl hull b)
 |[],M,b,h,_=>by rw [List.append_nil];exact h
 | x::L,M,b,h,hL=>by
  have:=x5o L (M++[x]) (hull b x) (x9M h (hL x (by simp))) (fun y hy=>hL y (by simp [hy]))
  rw [List.append_assoc] at this
  exact this
def PN.boxes (n:PN):List (List Int×List Int):=(n.rows.filter PE.live).map (fun e=>(e.row,e.row))++n.kids.map fun k=>(k.lo,k.hi)
theorem x7A:∀(L:List PE) (b:List Int×List Int),L.foldl boxE b=((L.filter PE.live).map fun e=>(e.row,e.row)).foldl hull b
 |[],_=>rfl
 | e::L,b=>by
  rw [List.foldl_cons,x7A L]
  cases he:e.live with
  | true=>rw [List.filter_cons_of_pos he];simp [boxE,he]
  | false=>rw [List.filter_cons_of_neg (by simp [he])];simp [boxE,he]
theorem x9N (n:PN):n.box=n.boxes.foldl hull ([],[]):=by
 unfold PN.box PN.boxes boxR
 rw [List.foldl_append,← x7A,List.foldl_map]
 rfl
def mkE (A:List Int) (L:List PE) (i:Nat):Bool:=L.any fun e=>e.live&&(e.row.getD i 0==A.getD i 0)
def mkK (f:PK→List Int) (A:List Int) (L:List PK) (i:Nat):Bool:=L.any fun k=> !(k.live==0)&&((f k).getD i 0==A.getD i 0)
theorem x1g {n:PN} {d:Int} (h:n.right d=true):1≤d∧d≤8∧(∀e∈n.rows,(e.row.length:Int)=d)∧∀k∈n.kids,k.right d=true:=by
 unfold PN.right at h
 split at h
 ·cases h
 rename_i h1
 split at h
 ·cases h
 rename_i h2
 split at h
 ·cases h
 rename_i h3
 simp only [Bool.not_eq_false,List.all_eq_true] at h2 h3
 exact ⟨by omega,by omega,fun e he=>by simpa [PE.long] using h2 e he,h3⟩
theorem x0l {k:PK} {d:Nat} (h:k.right d=true):0≤k.live∧(k.live=0→(k.lo,k.hi)=([],[]))∧(k.live≠0→BxN d (k.lo,k.hi)):=by
 unfold PK.right at h
 split at h
 ·rename_i e
  subst e
  exact ⟨Int.le_refl _,fun _=>rfl,fun h=>absurd rfl h⟩
 split at h
 ·cases h
 rename_i h1
 split at h
 ·rename_i h2
  simp only [decide_eq_true_eq] at h
  exact ⟨by omega,fun _=>by rw [List.length_eq_zero_iff.1 (by omega:k.lo.length=0),List.length_eq_zero_iff.1 (by omega:k.hi.length=0)],fun h=>absurd h2 h⟩
 ·rename_i h2
  refine ⟨by omega,fun h=>absurd h h2,fun _=>?_⟩
  have A:=x4l h
  have e:k.lo.length=d:=by omega
  refine ⟨?_,e⟩
  show x0d k.lo k.hi k.lo.length k.hi.length k.lo.length=true
  rw [e] at h ⊢
  exact h
theorem x8Z {α:Type} (f:α→Int):∀L:List α,(∀x∈L,0≤f x)→0≤(L.map f).sum
 |[],_=>by simp
 | y::L,h=>by
  have:=h y (by simp)
  have:=x8Z f L fun x hx=>h x (by simp [hx])
  rw [List.map_cons,List.sum_cons]
  omega
theorem x6U {α:Type} (f:α→Int):∀L:List α,(∀x∈L,0≤f x)→(L.map f).sum=0→∀x∈L,f x=0
 |[],_,_=>by simp
 | y::L,h,h0=>by
  have h1:=h y (by simp)
  have h2:0≤(L.map f).sum:=x8Z f L fun x hx=>h x (by simp [hx])
  rw [List.map_cons,List.sum_cons] at h0
  have h3:=x6U f L (fun x hx=>h x (by simp [hx])) (by omega)
  intro x hx
  rcases List.mem_cons.1 hx with rfl | hx
  ·omega
  ·exact h3 x hx
theorem x9O {n:PN} {d:Nat} (h:n.right d=true):
  (n.live=0→n.box=([],[]))∧
  (n.live≠0→n.box.1.length=d∧n.box.2.length=d∧(∀e∈n.rows,e.live=true→hasB n.box.1 n.box.2 e.row d d d=true)∧
   (∀k∈n.kids,k.live≠0→k.lo.length=d∧k.hi.length=d∧hasB n.box.1 n.box.2 k.lo d d d=true∧hasB n.box.1 n.box.2 k.hi d d d=true)∧
   ∀i,i<d→(mkE n.box.1 n.rows i||mkK PK.lo n.box.1 n.kids i)=true∧(mkE n.box.2 n.rows i||mkK PK.hi n.box.2 n.kids i)=true):=by
 obtain ⟨p,s,Y,G⟩:=x1g h
 have c:∀e∈n.rows,BxN d (e.row,e.row):=fun e C=>by
  have hl:e.row.length=d:=by have:=Y e C;omega
  exact x5m.2 ⟨by omega,by omega,hl,hl,fun i _=>Int.le_refl _⟩
 have O:∀x∈n.boxes,x=([],[])∨BxN d x:=fun x B=>by
  rcases List.mem_append.1 B with B | B
  ·obtain ⟨e,C,rfl⟩:=List.mem_map.1 B
   exact Or.inr (c e (List.mem_filter.1 C).1)
  ·obtain ⟨k,A,rfl⟩:=List.mem_map.1 B
   have W:=x0l (G k A)
   by_cases hl:k.live=0
   ·exact Or.inl (W.2.1 hl)
   ·exact Or.inr (W.2.2 hl)
 have H:=x5o n.boxes [] ([],[]) (d:=d) (Or.inl ⟨(fun x B=>by cases B),rfl⟩) O
 rw [List.nil_append,← x9N] at H
 have K:∀e∈n.rows,e.live=true→(e.row,e.row)∈n.boxes:=fun e C hl=>List.mem_append_left _ (List.mem_map.2 ⟨e,List.mem_filter.2 ⟨C,hl⟩,rfl⟩)
 have I:∀k∈n.kids,(k.lo,k.hi)∈n.boxes:=fun k G=>List.mem_append_right _ (List.mem_map.2 ⟨k,G,rfl⟩)
 have f:0≤liveR n.rows:=(x3q n.rows).1
 have t:0≤(n.kids.map PK.live).sum:=x8Z PK.live n.kids fun k A=>(x0l (G k A)).1
 constructor
 ·intro h0
  unfold PN.live at h0
  have q:=x6U PK.live n.kids (fun k A=>(x0l (G k A)).1) (by omega)
  have b:=x6U (fun e:PE=>if e.live then (1:Int) else 0) n.rows (fun e _=>by split<;>omega) (by unfold liveR at h0 f;omega)
  rcases H with H | H
  ·exact H.2
  ·obtain ⟨x,B,N⟩:=H.2.2.1
   rcases List.mem_append.1 B with B | B
   ·obtain ⟨e,C,rfl⟩:=List.mem_map.1 B
    have J:=List.mem_filter.1 C
    have:=b e J.1
    rw [if_pos J.2] at this
    omega
   ·obtain ⟨k,A,rfl⟩:=List.mem_map.1 B
    rw [(x0l (G k A)).2.1 (q k A)] at N
    exact absurd N x5n
 ·intro h0
  have g:∃x∈n.boxes,BxN d x:=by
   apply Classical.byContradiction
   intro hno
   apply h0
   unfold PN.live
   have v:liveR n.rows=0:=by
    unfold liveR
    have:n.rows.map (fun e:PE=>if e.live then (1:Int) else 0)=n.rows.map fun _=>0:=List.map_congr_left fun e C=>by
     split
     ·rename_i hl
      exact absurd ⟨_,K e C hl,c e C⟩ hno
     ·rfl
    rw [this]
    induction n.rows with
    | nil=>rfl
    | cons a l ih=>rw [List.map_cons,List.sum_cons,ih];rfl
   have u:(n.kids.map PK.live).sum=0:=by
    have:n.kids.map PK.live=n.kids.map fun _=>(0:Int):=List.map_congr_left fun k A=>by
     apply Classical.byContradiction
     intro hl
     exact hno ⟨_,I k A,(x0l (G k A)).2.2 hl⟩
    rw [this]
    induction n.kids with
    | nil=>rfl
    | cons a l ih=>rw [List.map_cons,List.sum_cons,ih];rfl
   rw [v,u]
   rfl
  rcases H with H | ⟨N,U,-,j⟩
  ·obtain ⟨x,B,N⟩:=g
   exact absurd (H.1 x B▸N) x5n
  have M:=x5m.1 N
  have L:∀r:List Int,(∀i,i<d→n.box.1.getD i 0≤r.getD i 0∧r.getD i 0≤n.box.2.getD i 0)→hasB n.box.1 n.box.2 r d d d=true:=fun r Y=>by
   unfold hasB x0d
   rw [Bool.and_eq_true,Bool.and_eq_true,Bool.and_eq_true,decide_eq_true_eq,x3f,x3f,x3f]
   exact ⟨⟨by omega,M.2.2.2.2⟩,fun i hi=>(Y i hi).1,fun i hi=>(Y i hi).2⟩
  refine ⟨M.2.2.1,M.2.2.2.1,fun e C hl=>L _ fun i hi=>U _ (K e C hl) (c e C) i hi,fun k A hl=>?_,fun i hi=>?_⟩
  ·have R:=(x0l (G k A)).2.2 hl
   have E:=x5m.1 R
   have Z:=U _ (I k A) R
   refine ⟨E.2.2.1,E.2.2.2.1,L _ fun i hi=>⟨(Z i hi).1,?_⟩,L _ fun i hi=>⟨?_,(Z i hi).2⟩⟩
   ·exact Int.le_trans (E.2.2.2.2 i hi) (Z i hi).2
   ·exact Int.le_trans (Z i hi).1 (E.2.2.2.2 i hi)
  ·obtain ⟨⟨x,B,X,m⟩,⟨y,P,Q,o⟩⟩:=j i hi
   rw [Bool.or_eq_true,Bool.or_eq_true]
   constructor
   ·rcases List.mem_append.1 B with B | B
    ·obtain ⟨e,C,rfl⟩:=List.mem_map.1 B
     have J:=List.mem_filter.1 C
     exact Or.inl (List.any_eq_true.2 ⟨e,J.1,by rw [Bool.and_eq_true,beq_iff_eq];exact ⟨J.2,m⟩⟩)
    ·obtain ⟨k,A,rfl⟩:=List.mem_map.1 B
     refine Or.inr (List.any_eq_true.2 ⟨k,A,?_⟩)
     rw [Bool.and_eq_true,beq_iff_eq]
     refine ⟨?_,m⟩
     by_cases hl:k.live=0
     ·rw [(x0l (G k A)).2.1 hl] at X
      exact absurd X x5n
     ·simp [hl]
   ·rcases List.mem_append.1 P with P | P
    ·obtain ⟨e,C,rfl⟩:=List.mem_map.1 P
     have J:=List.mem_filter.1 C
     exact Or.inl (List.any_eq_true.2 ⟨e,J.1,by rw [Bool.and_eq_true,beq_iff_eq];exact ⟨J.2,o⟩⟩)
    ·obtain ⟨k,A,rfl⟩:=List.mem_map.1 P
     refine Or.inr (List.any_eq_true.2 ⟨k,A,?_⟩)
     rw [Bool.and_eq_true,beq_iff_eq]
     refine ⟨?_,o⟩
     by_cases hl:k.live=0
     ·rw [(x0l (G k A)).2.1 hl] at Q
      exact absurd Q x5n
     ·simp [hl]
end Go.Proofs.YtinihaflmdihaaaGreat.Nd
namespace Go.Proofs.YtinihaflmdihaaaGreat.Kt
open Go.RowKit Go.Proofs.YtinihaflmdihaaaGreat.Nd
theorem x8a {k:PK} {d:Int} (h:k.right d=true):k.live≤k.size:=by
 unfold PK.right at h
 split at h
 ·rename_i e
  rw [e]
  exact Int.le_refl _
 ·split at h
  ·cases h
  ·omega
theorem x8b {α:Type} (f g:α→Int):∀L:List α,(∀x∈L,f x≤g x)→(L.map f).sum≤(L.map g).sum
 |[],_=>Int.le_refl _
 | x::L,h=>by
  have h1:=h x (by simp)
  have h2:=x8b f g L fun y hy=>h y (by simp [hy])
  simp only [List.map_cons,List.sum_cons]
  omega
theorem x1w {n:PN} {d:Nat} (h:n.right d=true) (h1:1≤n.size) (hz:n.size≤1048576):n.says.right d=true:=by
 obtain ⟨L,K,G,J⟩:=x1g h
 have E:=x9O h
 have N:0≤n.live∧n.live≤n.size:=by
  unfold PN.live PN.size
  have X:=x3q n.rows
  have U:=x8Z PK.live n.kids fun k hk'=>(x0l (J k hk')).1
  have W:=x8b PK.live PK.size n.kids fun k hk'=>x8a (J k hk')
  omega
 unfold PK.right
 by_cases H:n.says=PK.none
 ·rw [if_pos H]
 have M:¬(n.says.size<1∨1048576<n.says.size∨n.says.live<0∨n.says.size<n.says.live):=by
  show ¬(n.size<1∨1048576<n.size∨n.live<0∨n.size<n.live)
  omega
 rw [if_neg H,if_neg M]
 by_cases hl:n.live=0
 ·rw [if_pos (show n.says.live=0 from hl)]
  have:=E.1 hl
  show decide (n.box.1.length+n.box.2.length=0)=true
  rw [this]
  rfl
 ·rw [if_neg (show ¬n.says.live=0 from hl)]
  obtain ⟨b1,O,R,Q,P⟩:=E.2 hl
  show x0d n.box.1 n.box.2 n.box.1.length n.box.2.length d=true
  rw [b1,O]
  have A:=(P 0 (by omega)).1
  rw [Bool.or_eq_true] at A
  have B:∀r:List Int,hasB n.box.1 n.box.2 r d d d=true→x0d n.box.1 n.box.2 d d d=true:=fun r G=>by
   unfold hasB at G
   rw [Bool.and_eq_true] at G
   exact G.1
  rcases A with A | A
  ·obtain ⟨e,H,C⟩:=List.any_eq_true.1 A
   rw [Bool.and_eq_true] at C
   exact B _ (R e H C.1)
  ·obtain ⟨k,I,C⟩:=List.any_eq_true.1 A
   rw [Bool.and_eq_true] at C
   exact B _ (Q k I (by simpa using C.1)).2.2.1
theorem x1H {d:Nat} {p:List Int} {v:Bool} {a b:PK} (hd:1≤d∧d≤8) (hp:p.length=d) (ha:a.right d=true) (hb:b.right d=true) (ka:a.key=[]) (kb:b.key=[]):(forkN p v a b).right d=true:=by
 unfold PN.right forkN
 rw [if_neg (by omega),if_neg (by simp [PE.long,hp]),if_neg (by simp [ha,hb]),if_pos rfl,if_pos ⟨rfl,rfl⟩]
 simp [PK.keyless,ka,kb]
theorem x1C {d:Nat} (hd:1≤d∧d≤8):∀u:T,u.dims d→u.kid.right d=true∧u.kid.key=[]
 | .nil,_=>⟨rfl,rfl⟩
 | .fork p v l r,h=>by
  have hl:=x1C hd l h.2.1
  have hr:=x1C hd r h.2.2
  have hf:=x1H (v:=v) hd h.1 hl.1 hr.1 hl.2 hr.2
  unfold T.kid
  split
  ·rename_i hz
   refine ⟨x1w hf ?_ hz,rfl⟩
   show (1:Int)≤((1:Nat):Int)+(l.kid.size+(r.kid.size+0))
   have h1:=x0l hl.1
   have h2:=x0l hr.1
   have h3:=x8a hl.1
   have h4:=x8a hr.1
   omega
  ·exact ⟨rfl,rfl⟩
end Go.Proofs.YtinihaflmdihaaaGreat.Kt
namespace Go.Proofs.YtinihaflmdihaaaGreat.Nd
open Go.RowKit
theorem y0e (q1 q2 q3:Option Addr) (m1 c1 m2 c2 m3 c3:Nat) (x y:Int) (q1' q2' q3':Option Addr) (m1' c1' m2' c2' m3' c3':Nat) (x' y':Int):∀(D F:List Nat),D.length=32→F.length=32→Instr.fill (fun i=>some (i*37,37)) ((Array.range (2*37)).map ((Value.agg kd0.cells.toArray).cells[·%(Value.agg kd0.cells.toArray).cells.size]!)) [(0,.agg (vals D++[Value.slice q1 m1 c1,.slice q2 m2 c2,.int .i64 x,.int .i64 y,.slice q3 m3 c3]).toArray),(1,.agg (vals F++[Value.slice q1' m1' c1',.slice q2' m2' c2',.int .i64 x',.int .i64 y',.slice q3' m3' c3']).toArray)]=some ((vals D++[Value.slice q1 m1 c1,.slice q2 m2 c2,.int .i64 x,.int .i64 y,.slice q3 m3 c3])++(vals F++[Value.slice q1' m1' c1',.slice q2' m2' c2',.int .i64 x',.int .i64 y',.slice q3' m3' c3'])).toArray
 |[a0,a1,a2,a3,a4,a5,a6,a7,a8,a9,a10,a11,a12,a13,a14,a15,a16,a17,a18,a19,a20,a21,a22,a23,a24,a25,a26,a27,a28,a29,a30,a31],[b0,b1,b2,b3,b4,b5,b6,b7,b8,b9,b10,b11,b12,b13,b14,b15,b16,b17,b18,b19,b20,b21,b22,b23,b24,b25,b26,b27,b28,b29,b30,b31],_,_=>by kernel_rfl
theorem x1x {w:World} {o:Oper} {a:Act} {K:Act→World→Prop} {Q:Exit→Act→World→Prop} (x y:Operand) (ho:o.op= .buildSlice 79 2 #[(0,x),(1,y)]) {k l:Kd} (hk:k.sum.length=32) (hl:l.sum.length=32) (hx:a.eval x= .agg k.cells.toArray) (hy:a.eval y= .agg l.cells.toArray)
  (h:K (a.put o.dst (.slice (some ⟨w.heap.size,0,none⟩) 2 2)) (w.alloc (.cells (k.cells++l.cells).toArray 34))):o.wp Tryz.prog a w K Q:=by
 obtain ⟨i,E,B,A,C⟩:=info_parts IKd
 refine wp_buildSlice 79 34 2 #[(0,x),(1,y)] ho (k.cells++l.cells).toArray i _ UKs E B (by rw [A];omega) (by rw [A];omega) ?_ h
 rw [A]
 simp only [List.map_toArray,List.map_cons,List.map_nil,hx,hy]
 exact y0e _ _ _ _ _ _ _ _ _ _ _ _ _ _ _ _ _ _ _ _ _ _ k.sum l.sum hk hl
theorem x4v {w:World} {ops:Array Oper} {rest:List Oper} {o:Oper} {a:Act} {Q:Exit→Act→World→Prop} (hw:Region.wanted o (yielded ops a.tmps)=true) (x y:Operand) (ho:o.op= .buildSlice 79 2 #[(0,x),(1,y)]) {k l:Kd} (hk:k.sum.length=32) (hl:l.sum.length=32) (hx:a.eval x= .agg k.cells.toArray) (hy:a.eval y= .agg l.cells.toArray)
  (h:wpList Tryz.prog ops Q rest (a.put o.dst (.slice (some ⟨w.heap.size,0,none⟩) 2 2)) (w.alloc (.cells (k.cells++l.cells).toArray 34))):wpList Tryz.prog ops Q (o::rest) a w:=
 BigFrame.wpList_want hw fun _ hK=>x1x x y ho hk hl hx hy (hK _ _ h)
theorem x8c {w:World} {g:Nat} {a b:Kd} {t:TypeId} (h:w.heap[g]? =some (.cells (a.cells++b.cells).toArray t (0,0))) (ha:a.Ok w) (hb:b.Ok w):KidsIn w (some ⟨g,0,none⟩) 2 2 [a,b]:=by
 have B:=Kd.cells_length ha.len
 refine ⟨rfl,Nat.le_refl _,by omega,fun k hk=>?_,Or.inr ⟨g,0,rfl,fun i hi=>?_⟩⟩
 ·simp only [List.mem_cons,List.not_mem_nil,or_false] at hk
  rcases hk with rfl | rfl
  ·exact ha
  ·exact hb
 ·have E:i=0∨i=1:=by simp at hi;omega
  intro j v hv
  rcases E with rfl | rfl
  ·have A:a.cells[j]? =some v:=hv
   rw [cell_of_row w g _ _ _ _ h]
   have C:=(List.getElem?_eq_some_iff.1 A).1
   simp only [Nat.zero_mul,Nat.zero_add,List.getElem?_toArray]
   rw [List.getElem?_append_left C]
   exact A
  ·have A:b.cells[j]? =some v:=hv
   rw [cell_of_row w g _ _ _ _ h]
   simp only [Nat.one_mul,Nat.zero_add,List.getElem?_toArray]
   rw [List.getElem?_append_right (by omega),B,Nat.add_sub_cancel_left]
   exact A
end Go.Proofs.YtinihaflmdihaaaGreat.Nd
