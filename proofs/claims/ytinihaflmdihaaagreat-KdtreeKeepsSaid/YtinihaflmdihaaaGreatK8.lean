/- ShaMath, ShaPreMath, ShaSumOk, PgMath, NdSays, KtKid, NdSides, KtRight, NdTwoKids, KrNode, KdSortLay. -/
import Derived.Deep.AppendLies
import Derived.Laws.AppendOwnNone
import Derived.BigRegion
import Derived.Shelf.SlSortCmp.Whole1
import Derived.Test.YtinihaflmdihaaaGreatK7
set_option maxRecDepth 100000
set_option maxHeartbeats 8000000
set_option linter.all false
namespace Go.Proofs.YtinihaflmdihaaaGreat.Sm
def rot (n x:Nat):Nat:=(x*2^(32 - n))%4294967296||| x/2^n
def s0 (x:Nat):Nat:=(rot 7 x^^^rot 18 x)^^^x/8
def s1 (x:Nat):Nat:=(rot 17 x^^^rot 19 x)^^^x/1024
def b0 (a:Nat):Nat:=(rot 2 a^^^rot 13 a)^^^rot 22 a
def b1 (e:Nat):Nat:=(rot 6 e^^^rot 11 e)^^^rot 25 e
def ch (e f g:Nat):Nat:=(e&&& f)^^^((4294967295 - e)&&& g)
def mj (a b c:Nat):Nat:=((a&&& b)^^^(a&&& c))^^^(b&&& c)
structure V8 where
 (a b c d e f g h:Nat)
def V8.ok (v:V8):Prop:=v.a<4294967296∧v.b<4294967296∧v.c<4294967296∧v.d<4294967296∧v.e<4294967296∧v.f<4294967296∧v.g<4294967296∧v.h<4294967296
def V8.list (v:V8):List Nat:=[v.a,v.b,v.c,v.d,v.e,v.f,v.g,v.h]
def t1 (k w:Nat) (v:V8):Nat:=(v.h+b1 v.e+ch v.e v.f v.g+k+w)%4294967296
def t2 (v:V8):Nat:=(b0 v.a+mj v.a v.b v.c)%4294967296
def step (k w:Nat) (v:V8):V8:=⟨(t1 k w v+t2 v)%4294967296,v.a,v.b,v.c,(v.d+t1 k w v)%4294967296,v.e,v.f,v.g⟩
def rounds (K W:List Nat) (v:V8):Nat→V8
 | 0=>v
 | n+1=>step (K.getD n 0) (W.getD n 0) (rounds K W v n)
def add8 (v u:V8):V8:=⟨(v.a+u.a)%4294967296,(v.b+u.b)%4294967296,(v.c+u.c)%4294967296,(v.d+u.d)%4294967296,(v.e+u.e)%4294967296,(v.f+u.f)%4294967296,(v.g+u.g)%4294967296,(v.h+u.h)%4294967296⟩
def turn (K W:List Nat) (v:V8):V8:=add8 v (rounds K W v 64)
def word (B:List Nat) (i:Nat):Nat:=B.getD (4*i) 0*16777216+B.getD (4*i+1) 0*65536+B.getD (4*i+2) 0*256+B.getD (4*i+3) 0
def words (B:List Nat):Nat→List Nat
 | 0=>[]
 | n+1=>words B n++[word B n]
def more (l:List Nat):Nat→List Nat
 | 0=>l
 | n+1=>more l n++[((more l n).getD n 0+s0 ((more l n).getD (n+1) 0)+(more l n).getD (n+9) 0+s1 ((more l n).getD (n+14) 0))%4294967296]
def sched (B:List Nat):List Nat:=more (words B 16) 48
def ks:List Nat:=[0x428a2f98,0x71374491,0xb5c0fbcf,0xe9b5dba5,0x3956c25b,0x59f111f1,0x923f82a4,0xab1c5ed5,0xd807aa98,0x12835b01,0x243185be,0x550c7dc3,0x72be5d74,0x80deb1fe,0x9bdc06a7,0xc19bf174,0xe49b69c1,0xefbe4786,0x0fc19dc6,0x240ca1cc,0x2de92c6f,0x4a7484aa,0x5cb0a9dc,0x76f988da,0x983e5152,0xa831c66d,0xb00327c8,0xbf597fc7,0xc6e00bf3,0xd5a79147,0x06ca6351,0x14292967,0x27b70a85,0x2e1b2138,0x4d2c6dfc,0x53380d13,0x650a7354,0x766a0abb,0x81c2c92e,0x92722c85,0xa2bfe8a1,0xa81a664b,0xc24b8b70,0xc76c51a3,0xd192e819,0xd6990624,0xf40e3585,0x106aa070,0x19a4c116,0x1e376c08,0x2748774c,0x34b0bcb5,0x391c0cb3,0x4ed8aa4a,0x5b9cca4f,0x682e6ff3,0x748f82ee,0x78a5636f,0x84c87814,0x8cc70208,0x90befffa,0xa4506ceb,0xbef9a3f7,0xc67178f2]
def first:V8:=⟨0x6a09e667,0xbb67ae85,0x3c6ef372,0xa54ff53a,0x510e527f,0x9b05688c,0x1f83d9ab,0x5be0cd19⟩
def blocks (B:List Nat) (v:V8):Nat→V8
 | 0=>v
 | n+1=>turn ks (sched (B.drop (64*n))) (blocks B v n)
def big (n:Nat) (k:Nat):Nat:=n/2^(8*(7 - k))%256
def bigs (n:Nat):List Nat:=[big n 0,big n 1,big n 2,big n 3,big n 4,big n 5,big n 6,big n 7]
def fill (n:Nat):List Nat:=128::(List.replicate ((119 - n%64)%64) 0++bigs (8*n))
def bytes4 (w:Nat):List Nat:=[w/16777216%256,w/65536%256,w/256%256,w%256]
def bytesOf (v:V8):List Nat:=v.list.flatMap bytes4
def full (T:List Nat):List Nat:=T++fill T.length
def sum (T:List Nat):List Nat:=bytesOf (blocks (full T) first ((full T).length/64))
theorem rot_lt {n x:Nat} (h:x<4294967296):rot n x<4294967296:=by
 unfold rot
 have h2:x/2^n<2^32:=Nat.lt_of_le_of_lt (Nat.div_le_self _ _) (by omega)
 have h1:x*2^(32 - n)%4294967296<2^32:=by have:=Nat.mod_lt (x*2^(32 - n)) (show 0<4294967296 by omega);omega
 have:=Nat.or_lt_two_pow h1 h2
 omega
theorem xor_lt {a b:Nat} (h1:a<4294967296) (h2:b<4294967296):a^^^b<4294967296:=by
 have:=Nat.xor_lt_two_pow (n:=32) (x:=a) (y:=b) (by omega) (by omega);omega
theorem and_lt {a b:Nat} (h2:b<4294967296):a&&& b<4294967296:=by
 have:=Nat.and_lt_two_pow (n:=32) a (y:=b) (by omega);omega
theorem step_ok {k w:Nat} {v:V8} (h:v.ok):(step k w v).ok:=by
 obtain ⟨ha,hb,hc,hd,he,hf,hg,hh⟩:=h
 exact ⟨Nat.mod_lt _ (by omega),ha,hb,hc,Nat.mod_lt _ (by omega),he,hf,hg⟩
theorem rounds_ok {K W:List Nat} {v:V8} (h:v.ok) (n:Nat):(rounds K W v n).ok:=by
 induction n with
 | zero=>exact h
 | succ n ih=>exact step_ok ih
theorem add8_ok {v u:V8}:(add8 v u).ok:=by
 refine ⟨?_,?_,?_,?_,?_,?_,?_,?_⟩<;>exact Nat.mod_lt _ (by omega)
theorem first_ok:first.ok:=by unfold V8.ok first;decide
theorem blocks_ok {B:List Nat} {v:V8} (h:v.ok) (n:Nat):(blocks B v n).ok:=by
 cases n with
 | zero=>exact h
 | succ n=>exact add8_ok
theorem length_words (B:List Nat) (n:Nat):(words B n).length=n:=by
 induction n with
 | zero=>rfl
 | succ n ih=>simp [words,ih]
theorem length_more (l:List Nat) (n:Nat):(more l n).length=l.length+n:=by
 induction n with
 | zero=>rfl
 | succ n ih=>simp [more,ih];omega
theorem length_sched (B:List Nat):(sched B).length=64:=by simp [sched,length_more,length_words]
def allW (l:List Nat):Prop:=∀x∈l,x<4294967296
theorem word_lt {B:List Nat} (h:allB B) (i:Nat):word B i<4294967296:=by
 have h0:=getD_lt h (by omega) (4*i)
 have h1:=getD_lt h (by omega) (4*i+1)
 have h2:=getD_lt h (by omega) (4*i+2)
 have h3:=getD_lt h (by omega) (4*i+3)
 unfold word;omega
theorem words_ok {B:List Nat} (h:allB B) (n:Nat):allW (words B n):=by
 induction n with
 | zero=>intro x hx;simp [words] at hx
 | succ n ih=>
  intro x hx
  simp only [words,List.mem_append,List.mem_singleton] at hx
  rcases hx with hx | rfl
  ·exact ih x hx
  ·exact word_lt h n
theorem more_ok {l:List Nat} (h:allW l) (n:Nat):allW (more l n):=by
 induction n with
 | zero=>exact h
 | succ n ih=>
  intro x hx
  simp only [more,List.mem_append,List.mem_singleton] at hx
  rcases hx with hx | rfl
  ·exact ih x hx
  ·exact Nat.mod_lt _ (by omega)
theorem sched_ok {B:List Nat} (h:allB B):allW (sched B):=more_ok (words_ok h 16) 48
theorem ks_ok:allW ks:=by unfold allW ks;decide
theorem big_lt (n k:Nat):big n k<256:=Nat.mod_lt _ (by omega)
theorem not_nat {e:Nat} (h:e<4294967296):4294967295^^^e=4294967295 - e:=by
 have h1:(BitVec.allOnes 32^^^BitVec.ofNat 32 e).toNat=(~~~ BitVec.ofNat 32 e).toNat:=by rw [BitVec.allOnes_xor]
 rw [BitVec.toNat_xor,BitVec.toNat_not,BitVec.toNat_allOnes,BitVec.toNat_ofNat,Nat.mod_eq_of_lt (by omega)] at h1
 exact h1
theorem max_u32:IntKind.u32.max=4294967295:=by decide
theorem b1_int {e:Nat} (h:e<4294967296):bits .xor .u32 (bits .xor .u32 (rot 6 e:Nat) (rot 11 e:Nat)) (rot 25 e:Nat)=((b1 e:Nat):Int):=by
 rw [u32_xor_nat _ _ (rot_lt h) (rot_lt h),u32_xor_nat _ _ (xor_lt (rot_lt h) (rot_lt h)) (rot_lt h)];rfl
theorem b0_int {e:Nat} (h:e<4294967296):bits .xor .u32 (bits .xor .u32 (rot 2 e:Nat) (rot 13 e:Nat)) (rot 22 e:Nat)=((b0 e:Nat):Int):=by
 rw [u32_xor_nat _ _ (rot_lt h) (rot_lt h),u32_xor_nat _ _ (xor_lt (rot_lt h) (rot_lt h)) (rot_lt h)];rfl
theorem ch_int {e f g:Nat} (he:e<4294967296) (hf:f<4294967296) (hg:g<4294967296):
  bits .xor .u32 (bits .and .u32 (e:Nat) (f:Nat)) (bits .and .u32 (bits .xor .u32 IntKind.u32.max (e:Nat)) (g:Nat))=((ch e f g:Nat):Int):=by
 have h1:bits .xor .u32 IntKind.u32.max (e:Nat)=((4294967295 - e:Nat):Int):=by
  rw [max_u32]
  have:=u32_xor_nat 4294967295 e (by omega) he
  rw [not_nat he] at this
  exact this
 rw [h1,u32_and_nat _ _ he hf,u32_and_nat _ _ (by omega) hg,u32_xor_nat _ _ (and_lt hf) (and_lt hg)];rfl
theorem mj_int {a b c:Nat} (ha:a<4294967296) (hb:b<4294967296) (hc:c<4294967296):
  bits .xor .u32 (bits .xor .u32 (bits .and .u32 (a:Nat) (b:Nat)) (bits .and .u32 (a:Nat) (c:Nat))) (bits .and .u32 (b:Nat) (c:Nat))=((mj a b c:Nat):Int):=by
 rw [u32_and_nat _ _ ha hb,u32_and_nat _ _ ha hc,u32_and_nat _ _ hb hc,u32_xor_nat _ _ (and_lt hb) (and_lt hc),u32_xor_nat _ _ (xor_lt (and_lt hb) (and_lt hc)) (and_lt hc)];rfl
theorem t1_int {u:V8} (hu:u.ok) (k w:Nat):
  ((u.h:Nat)+bits .xor .u32 (bits .xor .u32 (rot 6 u.e:Nat) (rot 11 u.e:Nat)) (rot 25 u.e:Nat)+bits .xor .u32 (bits .and .u32 (u.e:Nat) (u.f:Nat)) (bits .and .u32 (bits .xor .u32 IntKind.u32.max (u.e:Nat)) (u.g:Nat))+(k:Nat)+(w:Nat))%4294967296=((t1 k w u:Nat):Int):=by
 obtain ⟨ha,hb,hc,hd,he,hf,hg,hh⟩:=hu
 rw [b1_int he,ch_int he hf hg];unfold t1;omega
theorem t2_int {u:V8} (hu:u.ok):
  (bits .xor .u32 (bits .xor .u32 (rot 2 u.a:Nat) (rot 13 u.a:Nat)) (rot 22 u.a:Nat)+bits .xor .u32 (bits .xor .u32 (bits .and .u32 (u.a:Nat) (u.b:Nat)) (bits .and .u32 (u.a:Nat) (u.c:Nat))) (bits .and .u32 (u.b:Nat) (u.c:Nat)))%4294967296=((t2 u:Nat):Int):=by
 obtain ⟨ha,hb,hc,hd,he,hf,hg,hh⟩:=hu
 rw [b0_int ha,mj_int ha hb hc];unfold t2;omega
theorem or_shl {a b n:Nat} (h:b<2^n):a*2^n||| b=a*2^n+b:=by
 have:=Nat.shiftLeft_add_eq_or_of_lt h a
 rw [Nat.shiftLeft_eq] at this
 exact this.symm
theorem word_nat {x0 x1 x2 x3:Nat} (h1:x1<256) (h2:x2<256) (h3:x3<256):((x0*16777216||| x1*65536)||| x2*256)||| x3=x0*16777216+x1*65536+x2*256+x3:=by
 have e1:x0*16777216||| x1*65536=x0*16777216+x1*65536:=or_shl (n:=24) (by omega)
 have e2:(x0*16777216+x1*65536)||| x2*256=x0*16777216+x1*65536+x2*256:=by
  have:=or_shl (a:=x0*256+x1) (n:=16) (b:=x2*256) (by omega)
  rw [show (x0*256+x1)*2^16=x0*16777216+x1*65536 from by omega] at this
  exact this
 have e3:(x0*16777216+x1*65536+x2*256)||| x3=x0*16777216+x1*65536+x2*256+x3:=by
  have:=or_shl (a:=x0*65536+x1*256+x2) (n:=8) (b:=x3) (by omega)
  rw [show (x0*65536+x1*256+x2)*2^8=x0*16777216+x1*65536+x2*256 from by omega] at this
  exact this
 rw [e1,e2,e3]
theorem word_int {x0 x1 x2 x3:Nat} (h0:x0<256) (h1:x1<256) (h2:x2<256) (h3:x3<256):
  bits .or .u32 (bits .or .u32 (bits .or .u32 ((x0:Nat)*16777216) ((x1:Nat)*65536)) ((x2:Nat)*256)) (x3:Nat)=((x0*16777216+x1*65536+x2*256+x3:Nat):Int):=by
 have e0:((x0:Nat):Int)*16777216=((x0*16777216:Nat):Int):=by omega
 have e1:((x1:Nat):Int)*65536=((x1*65536:Nat):Int):=by omega
 have e2:((x2:Nat):Int)*256=((x2*256:Nat):Int):=by omega
 have l1:x0*16777216||| x1*65536<4294967296:=by have:=Nat.or_lt_two_pow (n:=32) (x:=x0*16777216) (y:=x1*65536) (by omega) (by omega);omega
 have l2:(x0*16777216||| x1*65536)||| x2*256<4294967296:=by have:=Nat.or_lt_two_pow (n:=32) (x:=x0*16777216||| x1*65536) (y:=x2*256) (by omega) (by omega);omega
 rw [e0,e1,e2,u32_or_nat _ _ (by omega) (by omega),u32_or_nat _ _ l1 (by omega),u32_or_nat _ _ l2 (by omega),word_nat h1 h2 h3]
theorem s0_int {x:Nat} (h:x<4294967296):bits .xor .u32 (bits .xor .u32 (rot 7 x:Nat) (rot 18 x:Nat)) ((x:Nat)/8)=((s0 x:Nat):Int):=by
 have e:((x:Nat):Int)/8=((x/8:Nat):Int):=by omega
 rw [e,u32_xor_nat _ _ (rot_lt h) (rot_lt h),u32_xor_nat _ _ (xor_lt (rot_lt h) (rot_lt h)) (by omega)];rfl
theorem s1_int {x:Nat} (h:x<4294967296):bits .xor .u32 (bits .xor .u32 (rot 17 x:Nat) (rot 19 x:Nat)) ((x:Nat)/1024)=((s1 x:Nat):Int):=by
 have e:((x:Nat):Int)/1024=((x/1024:Nat):Int):=by omega
 rw [e,u32_xor_nat _ _ (rot_lt h) (rot_lt h),u32_xor_nat _ _ (xor_lt (rot_lt h) (rot_lt h)) (by omega)];rfl
end Go.Proofs.YtinihaflmdihaaaGreat.Sm
namespace Go.Proofs.YtinihaflmdihaaaGreat
open Go.RowKit
def tpart (t:List Nat):List Nat:=Sm.bigs t.length++t
def pre (tag:Nat) (L:List (List Nat)):List Nat:=tag::L.flatMap tpart
def tot (L:List (List Nat)):Nat:=(pre 0 L).length
theorem pre_length (tag:Nat) (L:List (List Nat)):(pre tag L).length=tot L:=by simp [pre,tot]
theorem pre_step (tag:Nat) (L:List (List Nat)) (k:Nat) (h:k<L.length):pre tag (L.take (k+1))=pre tag (L.take k)++tpart (L.getD k []):=by
 rw [take_succ_getD L k h];simp [pre]
theorem tpart_length (t:List Nat):(tpart t).length=8+t.length:=by simp [tpart,Sm.bigs];omega
theorem tot_step (L:List (List Nat)) (k:Nat) (h:k<L.length):tot (L.take (k+1))=tot (L.take k)+(8+(L.getD k []).length):=by
 have:=congrArg List.length (pre_step 0 L k h)
 rw [List.length_append,tpart_length] at this
 exact this
theorem tot_split (L:List (List Nat)) (k:Nat):tot L=tot (L.take k)+((L.drop k).flatMap tpart).length:=by
 have h:L.flatMap tpart=(L.take k).flatMap tpart++(L.drop k).flatMap tpart:=by rw [← List.flatMap_append,List.take_append_drop]
 simp only [tot,pre,List.length_cons]
 rw [h,List.length_append]
 omega
theorem tot_take_le (L:List (List Nat)) (k:Nat):tot (L.take k)≤tot L:=by
 have:=tot_split L k
 omega
theorem len_le_flat (M:List (List Nat)):M.length≤(M.flatMap tpart).length:=by
 induction M with
 | nil=>simp
 | cons t M ih=>rw [List.flatMap_cons,List.length_append,tpart_length];simp only [List.length_cons];omega
theorem len_le_tot (L:List (List Nat)):L.length≤tot L:=by
 have:=len_le_flat L
 simp only [tot,pre,List.length_cons]
 omega
theorem bigs_all (n:Nat):Sm.allB (Sm.bigs n):=by
 have h:∀k,Sm.big n k<256:=fun k=>by unfold Sm.big;exact Nat.mod_lt _ (by omega)
 intro x hx
 simp only [Sm.bigs,List.mem_cons,List.not_mem_nil,or_false] at hx
 rcases hx with rfl | rfl | rfl | rfl | rfl | rfl | rfl | rfl<;>exact h _
end Go.Proofs.YtinihaflmdihaaaGreat
namespace Go.Proofs.YtinihaflmdihaaaGreat
theorem sum_ok (B:List Nat):Sm.allB (Sm.sum B):=by
 intro x hx
 simp only [Sm.sum,Sm.bytesOf,List.mem_flatMap] at hx
 obtain ⟨w,_,hx⟩:=hx
 simp only [Sm.bytes4,List.mem_cons,List.not_mem_nil,or_false] at hx
 rcases hx with rfl | rfl | rfl | rfl<;>exact Nat.mod_lt _ (by omega)
end Go.Proofs.YtinihaflmdihaaaGreat
namespace Go.Proofs.YtinihaflmdihaaaGreat.Pg
open Go.RowKit
def sumOf (b:List Nat):List Nat:=Sm.sum (pre 80 [b])
theorem sumOf_length (b:List Nat):(sumOf b).length=32:=rfl
theorem sumOf_ok (b:List Nat):Sm.allB (sumOf b):=sum_ok _
abbrev Pages:=List (List Nat×List Nat)
def idx (d:List Nat):Pages→Nat
 |[]=>0
 | x::r=>if x.1=d then 0 else idx d r+1
theorem idx_le (d:List Nat):∀W:Pages,idx d W≤W.length
 |[]=>Nat.le_refl _
 | x::r=>by
  rw [idx]
  split
  ·omega
  ·have:=idx_le d r;simp;omega
theorem idx_at {d:List Nat}:∀ {W:Pages},idx d W<W.length→(W.getD (idx d W) default).1=d
 |[],h=>absurd h (Nat.not_lt_zero _)
 | x::r,h=>by
  rw [idx] at h ⊢
  split
  ·next e=>exact e
  ·next e=>
   rw [if_neg e] at h
   simpa using idx_at (W:=r) (by simpa using h)
theorem idx_before {d:List Nat}:∀ {W:Pages} {i:Nat},i<idx d W→(W.getD i default).1≠d
 |[],i,h=>absurd h (Nat.not_lt_zero _)
 | x::r,i,h=>by
  rw [idx] at h
  split at h
  ·omega
  ·next e=>
   cases i with
   | zero=>simpa using e
   | succ i=>simpa using idx_before (W:=r) (by omega:i<idx d r)
theorem idx_is {d:List Nat} {W:Pages} {i:Nat} (hi:i<W.length) (h:(W.getD i default).1=d) (hb:∀j,j<i→(W.getD j default).1≠d):idx d W=i:=by
 rcases Nat.lt_trichotomy (idx d W) i with h1 | h1 | h1
 ·exact absurd (idx_at (Nat.lt_trans h1 hi)) (hb _ h1)
 ·exact h1
 ·exact absurd h (idx_before h1)
def textAt (W:Pages) (d:List Nat):Option (List Nat):=if idx d W<W.length then some (W.getD (idx d W) default).2 else none
structure S where
 W:Pages
 cl:Option (List Nat×List Nat)
def putW (W:Pages) (b:List Nat):Pages:=if idx (sumOf b) W<W.length then W else W++[(sumOf b,b)]
def S.put (s:S) (b:List Nat):S:=
 ⟨putW s.W b,match s.cl with
  | some x=>some x
  | none=>match textAt s.W (sumOf b) with
   | none=>none
   | some t=>if t=b then none else some (t,b)⟩
def keepW (W:Pages) (K:List (List Nat)):Pages:=W.filter (fun x=>decide (x.1∈K))
def S.keep (s:S) (K:List (List Nat)):S:=⟨keepW s.W K,s.cl⟩
structure S.ok (s:S):Prop where
 one:(s.W.map (·.1)).Nodup
 sum:∀x∈s.W,x.1=sumOf x.2
 bytes:∀x∈s.W,Sm.allB x.2
 clash:∀x,s.cl=some x→x.1≠x.2∧sumOf x.1=sumOf x.2
theorem idx_mem {d:List Nat} {W:Pages}:idx d W<W.length↔d∈W.map (·.1):=by
 constructor
 ·intro h
  have h1:=idx_at h
  rw [← h1,List.getD_eq_getElem?_getD,List.getElem?_eq_getElem h,Option.getD_some]
  exact List.mem_map_of_mem (List.getElem_mem h)
 ·intro h
  obtain ⟨x,hx,rfl⟩:=List.mem_map.1 h
  obtain ⟨i,hi,rfl⟩:=List.getElem_of_mem hx
  rcases Nat.lt_or_ge (idx W[i].1 W) W.length with h1 | h1
  ·exact h1
  ·exact absurd (show (W.getD i default).1=W[i].1 from by rw [List.getD_eq_getElem?_getD,List.getElem?_eq_getElem hi];rfl) (idx_before (by omega))
theorem textAt_some {W:Pages} {d:List Nat} (h:idx d W<W.length):textAt W d=some (W.getD (idx d W) default).2:=if_pos h
theorem textAt_none {W:Pages} {d:List Nat} (h:¬idx d W<W.length):textAt W d=none:=if_neg h
theorem S.new_ok:S.ok ⟨[],none⟩:=⟨List.nodup_nil,(fun x hx=>by cases hx),(fun x hx=>by cases hx),fun x hx=>by cases hx⟩
theorem getD_mem {W:Pages} {i:Nat} (h:i<W.length):W.getD i default∈W:=by
 rw [List.getD_eq_getElem?_getD,List.getElem?_eq_getElem h]
 exact List.getElem_mem h
theorem S.put_ok {s:S} (h:s.ok) {b:List Nat} (hb:Sm.allB b):(s.put b).ok:=by
 refine ⟨?_,?_,?_,?_⟩
 ·show ((putW s.W b).map (·.1)).Nodup
  unfold putW
  split
  ·exact h.one
  ·next hn=>
   rw [List.map_append,List.nodup_append]
   refine ⟨h.one,by simp,fun a ha c hc e=>hn (idx_mem.2 ?_)⟩
   simp only [List.map_cons,List.map_nil,List.mem_singleton] at hc
   rw [← hc,← e]
   exact ha
 ·intro x hx
  simp only [S.put,putW] at hx
  split at hx
  ·exact h.sum x hx
  ·rcases List.mem_append.1 hx with hx | hx
   ·exact h.sum x hx
   ·rw [List.mem_singleton.1 hx]
 ·intro x hx
  simp only [S.put,putW] at hx
  split at hx
  ·exact h.bytes x hx
  ·rcases List.mem_append.1 hx with hx | hx
   ·exact h.bytes x hx
   ·rw [List.mem_singleton.1 hx];exact hb
 ·intro x hx
  simp only [S.put] at hx
  split at hx
  ·next y hy=>exact h.clash x (by rw [hy];exact hx)
  ·split at hx
   ·cases hx
   ·next t ht=>
    split at hx
    ·cases hx
    ·next hne=>
     cases hx
     refine ⟨hne,?_⟩
     unfold textAt at ht
     split at ht
     ·next hi=>
      cases ht
      have h1:=h.sum _ (getD_mem hi)
      rw [← h1]
      exact idx_at hi
     ·cases ht
theorem put_got {s:S} {b:List Nat} (hc:(s.put b).cl=none):textAt (s.put b).W (sumOf b)=some b:=by
 simp only [S.put] at hc
 split at hc
 ·cases hc
 ·show textAt (putW s.W b) (sumOf b)=some b
  unfold putW
  split
  ·next hi=>
   rw [textAt_some hi] at hc
   simp only at hc
   split at hc
   ·next e=>rw [textAt_some hi,e]
   ·cases hc
  ·next hi=>
   have h1:idx (sumOf b) (s.W++[(sumOf b,b)])=s.W.length:=idx_is (by simp) (by simp) (fun j hj=>by
    rw [List.getD_eq_getElem?_getD,List.getElem?_append_left hj,← List.getD_eq_getElem?_getD]
    exact idx_before (by have:=idx_le (sumOf b) s.W;omega))
   rw [textAt_some (by rw [h1];simp),h1]
   simp
end Go.Proofs.YtinihaflmdihaaaGreat.Pg
namespace Go.Proofs.YtinihaflmdihaaaGreat.Nd
open Go.RowKit Go.Proofs.YtinihaflmdihaaaGreat.Pg
def PN.says (n:PN):PK:={n.tally with sum:=sumOf n.bytes}
theorem flat_len {α:Type} (f:α→List Nat) (B:Nat):∀L:List α,(∀x∈L,(f x).length≤B)→(L.flatMap f).length≤B*L.length
 |[],_=>by simp
 | x::L,h=>by
  have h1:=h x (by simp)
  have h2:=flat_len f B L (fun y hy=>h y (by simp [hy]))
  rw [List.flatMap_cons,List.length_append,List.length_cons,Nat.mul_add]
  omega
theorem node_bytes_len {n:PN} (h:n.Fit) (hs:∀k∈n.kids,k.sum.length=32):n.bytes.length≤100000:=by
 have h1:=flat_len PE.bytes 70 n.rows (fun e he=>by
  have:=h.row e he
  unfold PE.bytes
  rw [List.length_cons,rowBs_length]
  omega)
 have h2:=flat_len PK.bytes 300 n.kids (fun k hk=>kid_bytes_len (h.kid k hk) (hs k hk))
 have h3:=h.rows
 have h4:=h.kids
 unfold PN.bytes
 simp only [List.length_cons,List.length_append]
 omega
theorem kd_rows_ok {w:World} {kd:Kd} (h:kd.Ok w):∀r∈kd.rows,r.Ok w:=fun r hr=>by
 simp only [Kd.rows,List.mem_cons,List.not_mem_nil,or_false] at hr
 rcases hr with rfl | rfl | rfl
 ·exact h.lo
 ·exact h.hi
 ·exact h.key
end Go.Proofs.YtinihaflmdihaaaGreat.Nd
namespace Go.Proofs.YtinihaflmdihaaaGreat.Kt
open Go.RowKit Go.Proofs.YtinihaflmdihaaaGreat.Nd
def forkN (p:List Int) (v:Bool) (a b:PK):PN:=⟨1,[⟨p,v⟩],[a,b]⟩
def T.kid:T→PK
 | .nil=>PK.none
 | .fork p v l r=>if (forkN p v l.kid r.kid).size≤1048576 then (forkN p v l.kid r.kid).says else PK.none
end Go.Proofs.YtinihaflmdihaaaGreat.Kt
namespace Go.Proofs.YtinihaflmdihaaaGreat.Nd
open Go.RowKit
def BxN (d:Nat) (x:List Int×List Int):Prop:=rb x.1 x.2=true∧x.1.length=d
theorem bx_iff {d:Nat} {x:List Int×List Int}:BxN d x↔1≤d∧d≤8∧x.1.length=d∧x.2.length=d∧∀i,i<d→x.1.getD i 0≤x.2.getD i 0:=by
 unfold BxN rb rightB
 rw [Bool.and_eq_true,decide_eq_true_eq,les_iff]
 constructor
 ·rintro ⟨⟨h1,h2⟩,h3⟩
  subst h3
  exact ⟨by omega,by omega,rfl,by omega,h2⟩
 ·rintro ⟨h1,h2,h3,h4,h5⟩
  rw [h3,h4]
  exact ⟨⟨by omega,h5⟩,rfl⟩
theorem rb_nil:rb [] []=false:=rfl
def SidesN (d:Nat) (L:List (List Int×List Int)) (b:List Int×List Int):Prop:=
 ((∀x∈L,x=([],[]))∧b=([],[]))∨
 (BxN d b∧(∀x∈L,BxN d x→∀i,i<d→b.1.getD i 0≤x.1.getD i 0∧x.2.getD i 0≤b.2.getD i 0)∧(∃x∈L,BxN d x)∧
  ∀i,i<d→(∃x∈L,BxN d x∧x.1.getD i 0=b.1.getD i 0)∧∃x∈L,BxN d x∧x.2.getD i 0=b.2.getD i 0)
theorem bx_nil {d:Nat}:¬BxN d ([],[]):=fun h=>by have:=(bx_iff.1 h);simp at this;omega
theorem hull_nil_right {d:Nat} {b:List Int×List Int} (h:BxN d b):hull b ([],[])=b:=by
 unfold hull
 rw [if_pos ⟨h.1,rb_nil⟩]
theorem hull_nil_left {d:Nat} {b:List Int×List Int} (h:BxN d b):hull ([],[]) b=b:=by
 unfold hull
 rw [if_neg (fun k=>by have:=k.1;rw [rb_nil] at this;cases this),if_pos ⟨h.1,rb_nil⟩]
theorem hull_nil:hull ([],[]) ([],[])=([],[]):=rfl
theorem hull_two {d:Nat} {a b:List Int×List Int} (ha:BxN d a) (hb:BxN d b):hull a b=(two min a.1 b.1 d,two max a.2 b.2 d):=by
 unfold hull
 rw [if_neg (fun k=>by have:=k.2;rw [hb.1] at this;cases this),if_neg (fun k=>by have:=k.2;rw [ha.1] at this;cases this),if_neg (fun k=>by
  rcases k with k | k
  ·rw [ha.1] at k;cases k
  ·exact k (ha.2.trans hb.2.symm)),ha.2]
theorem bx_two {d:Nat} {a b:List Int×List Int} (ha:BxN d a) (_hb:BxN d b):BxN d (two min a.1 b.1 d,two max a.2 b.2 d):=by
 have h1:=bx_iff.1 ha
 refine bx_iff.2 ⟨h1.1,h1.2.1,two_length _ _ _ _,two_length _ _ _ _,fun i hi=>?_⟩
 rw [two_getD _ _ _ _ _ hi,two_getD _ _ _ _ _ hi]
 have:=h1.2.2.2.2 i hi
 omega
theorem sides_snoc {d:Nat} {L:List (List Int×List Int)} {b x:List Int×List Int} (h:SidesN d L b) (hx:x=([],[])∨BxN d x):SidesN d (L++[x]) (hull b x):=by
 rcases h with ⟨h1,rfl⟩ | ⟨h1,h2,h3,h4⟩
 ·rcases hx with rfl | hx
  ·refine Or.inl ⟨fun y hy=>?_,hull_nil⟩
   rcases List.mem_append.1 hy with hy | hy
   ·exact h1 y hy
   ·simpa using hy
  ·rw [hull_nil_left hx]
   have hm:x∈L++[x]:=by simp
   refine Or.inr ⟨hx,fun y hy hy2 i hi=>?_,⟨x,hm,hx⟩,fun i hi=>⟨⟨x,hm,hx,rfl⟩,⟨x,hm,hx,rfl⟩⟩⟩
   rcases List.mem_append.1 hy with hy | hy
   ·exact absurd (h1 y hy▸hy2) bx_nil
   ·obtain rfl:y=x:=by simpa using hy
    exact ⟨Int.le_refl _,Int.le_refl _⟩
 ·rcases hx with rfl | hx
  ·rw [hull_nil_right h1]
   refine Or.inr ⟨h1,fun y hy hy2 i hi=>?_,?_,fun i hi=>?_⟩
   ·rcases List.mem_append.1 hy with hy | hy
    ·exact h2 y hy hy2 i hi
    ·obtain rfl:y=([],[]):=by simpa using hy
     exact absurd hy2 bx_nil
   ·obtain ⟨y,hy,hy2⟩:=h3
    exact ⟨y,List.mem_append_left _ hy,hy2⟩
   ·obtain ⟨⟨y,hy,hy2,e⟩,⟨z,hz,hz2,e2⟩⟩:=h4 i hi
    exact ⟨⟨y,List.mem_append_left _ hy,hy2,e⟩,⟨z,List.mem_append_left _ hz,hz2,e2⟩⟩
  ·rw [hull_two h1 hx]
   have hm:x∈L++[x]:=by simp
   refine Or.inr ⟨bx_two h1 hx,fun y hy hy2 i hi=>?_,⟨x,hm,hx⟩,fun i hi=>?_⟩
   ·show (two min b.1 x.1 d).getD i 0≤_∧_≤(two max b.2 x.2 d).getD i 0
    rw [two_getD _ _ _ _ _ hi,two_getD _ _ _ _ _ hi]
    rcases List.mem_append.1 hy with hy | hy
    ·have:=h2 y hy hy2 i hi
     omega
    ·obtain rfl:y=x:=by simpa using hy
     omega
   ·show (∃y∈L++[x],BxN d y∧y.1.getD i 0=(two min b.1 x.1 d).getD i 0)∧(∃y∈L++[x],BxN d y∧y.2.getD i 0=(two max b.2 x.2 d).getD i 0)
    rw [two_getD _ _ _ _ _ hi,two_getD _ _ _ _ _ hi]
    obtain ⟨⟨y,hy,hy2,e⟩,⟨z,hz,hz2,e2⟩⟩:=h4 i hi
    constructor
    ·by_cases hc:b.1.getD i 0≤x.1.getD i 0
     ·exact ⟨y,List.mem_append_left _ hy,hy2,by omega⟩
     ·exact ⟨x,hm,hx,by omega⟩
    ·by_cases hc:x.2.getD i 0≤b.2.getD i 0
     ·exact ⟨z,List.mem_append_left _ hz,hz2,by omega⟩
     ·exact ⟨x,hm,hx,by omega⟩
theorem sides_fold {d:Nat}:∀(L M:List (List Int×List Int)) (b:List Int×List Int),SidesN d M b→(∀x∈L,x=([],[])∨BxN d x)→SidesN d (M++L) (L.foldl hull b)
 |[],M,b,h,_=>by rw [List.append_nil];exact h
 | x::L,M,b,h,hL=>by
  have:=sides_fold L (M++[x]) (hull b x) (sides_snoc h (hL x (by simp))) (fun y hy=>hL y (by simp [hy]))
  rw [List.append_assoc] at this
  exact this
def PN.boxes (n:PN):List (List Int×List Int):=(n.rows.filter PE.live).map (fun e=>(e.row,e.row))++n.kids.map fun k=>(k.lo,k.hi)
theorem boxE_fold:∀(L:List PE) (b:List Int×List Int),L.foldl boxE b=((L.filter PE.live).map fun e=>(e.row,e.row)).foldl hull b
 |[],_=>rfl
 | e::L,b=>by
  rw [List.foldl_cons,boxE_fold L]
  cases he:e.live with
  | true=>rw [List.filter_cons_of_pos he];simp [boxE,he]
  | false=>rw [List.filter_cons_of_neg (by simp [he])];simp [boxE,he]
theorem boxes_fold (n:PN):n.box=n.boxes.foldl hull ([],[]):=by
 unfold PN.box PN.boxes boxR
 rw [List.foldl_append,← boxE_fold,List.foldl_map]
 rfl
def mkE (A:List Int) (L:List PE) (i:Nat):Bool:=L.any fun e=>e.live&&(e.row.getD i 0==A.getD i 0)
def mkK (f:PK→List Int) (A:List Int) (L:List PK) (i:Nat):Bool:=L.any fun k=> !(k.live==0)&&((f k).getD i 0==A.getD i 0)
theorem right_split {n:PN} {d:Int} (h:n.right d=true):1≤d∧d≤8∧(∀e∈n.rows,(e.row.length:Int)=d)∧∀k∈n.kids,k.right d=true:=by
 unfold PN.right at h
 split at h
 ·cases h
 rename_i h1
 split at h
 ·cases h
 rename_i h2
 split at h
 ·cases h
 rename_i h3
 simp only [Bool.not_eq_false,List.all_eq_true] at h2 h3
 exact ⟨by omega,by omega,fun e he=>by simpa [PE.long] using h2 e he,h3⟩
theorem kid_split {k:PK} {d:Nat} (h:k.right d=true):0≤k.live∧(k.live=0→(k.lo,k.hi)=([],[]))∧(k.live≠0→BxN d (k.lo,k.hi)):=by
 unfold PK.right at h
 split at h
 ·rename_i e
  subst e
  exact ⟨Int.le_refl _,fun _=>rfl,fun h=>absurd rfl h⟩
 split at h
 ·cases h
 rename_i h1
 split at h
 ·rename_i h2
  simp only [decide_eq_true_eq] at h
  exact ⟨by omega,fun _=>by rw [List.length_eq_zero_iff.1 (by omega:k.lo.length=0),List.length_eq_zero_iff.1 (by omega:k.hi.length=0)],fun h=>absurd h2 h⟩
 ·rename_i h2
  refine ⟨by omega,fun h=>absurd h h2,fun _=>?_⟩
  have hd:=rightB_dims h
  have e:k.lo.length=d:=by omega
  refine ⟨?_,e⟩
  show rightB k.lo k.hi k.lo.length k.hi.length k.lo.length=true
  rw [e] at h ⊢
  exact h
theorem sum_nn {α:Type} (f:α→Int):∀L:List α,(∀x∈L,0≤f x)→0≤(L.map f).sum
 |[],_=>by simp
 | y::L,h=>by
  have:=h y (by simp)
  have:=sum_nn f L fun x hx=>h x (by simp [hx])
  rw [List.map_cons,List.sum_cons]
  omega
theorem sum_zero {α:Type} (f:α→Int):∀L:List α,(∀x∈L,0≤f x)→(L.map f).sum=0→∀x∈L,f x=0
 |[],_,_=>by simp
 | y::L,h,h0=>by
  have h1:=h y (by simp)
  have h2:0≤(L.map f).sum:=sum_nn f L fun x hx=>h x (by simp [hx])
  rw [List.map_cons,List.sum_cons] at h0
  have h3:=sum_zero f L (fun x hx=>h x (by simp [hx])) (by omega)
  intro x hx
  rcases List.mem_cons.1 hx with rfl | hx
  ·omega
  ·exact h3 x hx
theorem node_sides {n:PN} {d:Nat} (h:n.right d=true):
  (n.live=0→n.box=([],[]))∧
  (n.live≠0→n.box.1.length=d∧n.box.2.length=d∧(∀e∈n.rows,e.live=true→hasB n.box.1 n.box.2 e.row d d d=true)∧
   (∀k∈n.kids,k.live≠0→k.lo.length=d∧k.hi.length=d∧hasB n.box.1 n.box.2 k.lo d d d=true∧hasB n.box.1 n.box.2 k.hi d d d=true)∧
   ∀i,i<d→(mkE n.box.1 n.rows i||mkK PK.lo n.box.1 n.kids i)=true∧(mkE n.box.2 n.rows i||mkK PK.hi n.box.2 n.kids i)=true):=by
 obtain ⟨hd1,hd8,hr,hk⟩:=right_split h
 have hE:∀e∈n.rows,BxN d (e.row,e.row):=fun e he=>by
  have hl:e.row.length=d:=by have:=hr e he;omega
  exact bx_iff.2 ⟨by omega,by omega,hl,hl,fun i _=>Int.le_refl _⟩
 have hall:∀x∈n.boxes,x=([],[])∨BxN d x:=fun x hx=>by
  rcases List.mem_append.1 hx with hx | hx
  ·obtain ⟨e,he,rfl⟩:=List.mem_map.1 hx
   exact Or.inr (hE e (List.mem_filter.1 he).1)
  ·obtain ⟨k,hk',rfl⟩:=List.mem_map.1 hx
   have hks:=kid_split (hk k hk')
   by_cases hl:k.live=0
   ·exact Or.inl (hks.2.1 hl)
   ·exact Or.inr (hks.2.2 hl)
 have hs:=sides_fold n.boxes [] ([],[]) (d:=d) (Or.inl ⟨(fun x hx=>by cases hx),rfl⟩) hall
 rw [List.nil_append,← boxes_fold] at hs
 have memE:∀e∈n.rows,e.live=true→(e.row,e.row)∈n.boxes:=fun e he hl=>List.mem_append_left _ (List.mem_map.2 ⟨e,List.mem_filter.2 ⟨he,hl⟩,rfl⟩)
 have memK:∀k∈n.kids,(k.lo,k.hi)∈n.boxes:=fun k hk=>List.mem_append_right _ (List.mem_map.2 ⟨k,hk,rfl⟩)
 have hnn:0≤liveR n.rows:=(live_le n.rows).1
 have hkn:0≤(n.kids.map PK.live).sum:=sum_nn PK.live n.kids fun k hk'=>(kid_split (hk k hk')).1
 constructor
 ·intro h0
  unfold PN.live at h0
  have hz:=sum_zero PK.live n.kids (fun k hk'=>(kid_split (hk k hk')).1) (by omega)
  have hz2:=sum_zero (fun e:PE=>if e.live then (1:Int) else 0) n.rows (fun e _=>by split<;>omega) (by unfold liveR at h0 hnn;omega)
  rcases hs with hs | hs
  ·exact hs.2
  ·obtain ⟨x,hx,hb⟩:=hs.2.2.1
   rcases List.mem_append.1 hx with hx | hx
   ·obtain ⟨e,he,rfl⟩:=List.mem_map.1 hx
    have h1:=List.mem_filter.1 he
    have:=hz2 e h1.1
    rw [if_pos h1.2] at this
    omega
   ·obtain ⟨k,hk',rfl⟩:=List.mem_map.1 hx
    rw [(kid_split (hk k hk')).2.1 (hz k hk')] at hb
    exact absurd hb bx_nil
 ·intro h0
  have hex:∃x∈n.boxes,BxN d x:=by
   apply Classical.byContradiction
   intro hno
   apply h0
   unfold PN.live
   have z1:liveR n.rows=0:=by
    unfold liveR
    have:n.rows.map (fun e:PE=>if e.live then (1:Int) else 0)=n.rows.map fun _=>0:=List.map_congr_left fun e he=>by
     split
     ·rename_i hl
      exact absurd ⟨_,memE e he hl,hE e he⟩ hno
     ·rfl
    rw [this]
    induction n.rows with
    | nil=>rfl
    | cons a l ih=>rw [List.map_cons,List.sum_cons,ih];rfl
   have z2:(n.kids.map PK.live).sum=0:=by
    have:n.kids.map PK.live=n.kids.map fun _=>(0:Int):=List.map_congr_left fun k hk'=>by
     apply Classical.byContradiction
     intro hl
     exact hno ⟨_,memK k hk',(kid_split (hk k hk')).2.2 hl⟩
    rw [this]
    induction n.kids with
    | nil=>rfl
    | cons a l ih=>rw [List.map_cons,List.sum_cons,ih];rfl
   rw [z1,z2]
   rfl
  rcases hs with hs | ⟨hb,hin,-,hat⟩
  ·obtain ⟨x,hx,hb⟩:=hex
   exact absurd (hs.1 x hx▸hb) bx_nil
  have hbi:=bx_iff.1 hb
  have has:∀r:List Int,(∀i,i<d→n.box.1.getD i 0≤r.getD i 0∧r.getD i 0≤n.box.2.getD i 0)→hasB n.box.1 n.box.2 r d d d=true:=fun r hr=>by
   unfold hasB rightB
   rw [Bool.and_eq_true,Bool.and_eq_true,Bool.and_eq_true,decide_eq_true_eq,les_iff,les_iff,les_iff]
   exact ⟨⟨by omega,hbi.2.2.2.2⟩,fun i hi=>(hr i hi).1,fun i hi=>(hr i hi).2⟩
  refine ⟨hbi.2.2.1,hbi.2.2.2.1,fun e he hl=>has _ fun i hi=>hin _ (memE e he hl) (hE e he) i hi,fun k hk' hl=>?_,fun i hi=>?_⟩
  ·have hbk:=(kid_split (hk k hk')).2.2 hl
   have hbki:=bx_iff.1 hbk
   have hh:=hin _ (memK k hk') hbk
   refine ⟨hbki.2.2.1,hbki.2.2.2.1,has _ fun i hi=>⟨(hh i hi).1,?_⟩,has _ fun i hi=>⟨?_,(hh i hi).2⟩⟩
   ·exact Int.le_trans (hbki.2.2.2.2 i hi) (hh i hi).2
   ·exact Int.le_trans (hh i hi).1 (hbki.2.2.2.2 i hi)
  ·obtain ⟨⟨x,hx,hbx,e1⟩,⟨y,hy,hby,e2⟩⟩:=hat i hi
   rw [Bool.or_eq_true,Bool.or_eq_true]
   constructor
   ·rcases List.mem_append.1 hx with hx | hx
    ·obtain ⟨e,he,rfl⟩:=List.mem_map.1 hx
     have h1:=List.mem_filter.1 he
     exact Or.inl (List.any_eq_true.2 ⟨e,h1.1,by rw [Bool.and_eq_true,beq_iff_eq];exact ⟨h1.2,e1⟩⟩)
    ·obtain ⟨k,hk',rfl⟩:=List.mem_map.1 hx
     refine Or.inr (List.any_eq_true.2 ⟨k,hk',?_⟩)
     rw [Bool.and_eq_true,beq_iff_eq]
     refine ⟨?_,e1⟩
     by_cases hl:k.live=0
     ·rw [(kid_split (hk k hk')).2.1 hl] at hbx
      exact absurd hbx bx_nil
     ·simp [hl]
   ·rcases List.mem_append.1 hy with hy | hy
    ·obtain ⟨e,he,rfl⟩:=List.mem_map.1 hy
     have h1:=List.mem_filter.1 he
     exact Or.inl (List.any_eq_true.2 ⟨e,h1.1,by rw [Bool.and_eq_true,beq_iff_eq];exact ⟨h1.2,e2⟩⟩)
    ·obtain ⟨k,hk',rfl⟩:=List.mem_map.1 hy
     refine Or.inr (List.any_eq_true.2 ⟨k,hk',?_⟩)
     rw [Bool.and_eq_true,beq_iff_eq]
     refine ⟨?_,e2⟩
     by_cases hl:k.live=0
     ·rw [(kid_split (hk k hk')).2.1 hl] at hby
      exact absurd hby bx_nil
     ·simp [hl]
end Go.Proofs.YtinihaflmdihaaaGreat.Nd
namespace Go.Proofs.YtinihaflmdihaaaGreat.Kt
open Go.RowKit Go.Proofs.YtinihaflmdihaaaGreat.Nd
theorem kid_le {k:PK} {d:Int} (h:k.right d=true):k.live≤k.size:=by
 unfold PK.right at h
 split at h
 ·rename_i e
  rw [e]
  exact Int.le_refl _
 ·split at h
  ·cases h
  ·omega
theorem sum_mono {α:Type} (f g:α→Int):∀L:List α,(∀x∈L,f x≤g x)→(L.map f).sum≤(L.map g).sum
 |[],_=>Int.le_refl _
 | x::L,h=>by
  have h1:=h x (by simp)
  have h2:=sum_mono f g L fun y hy=>h y (by simp [hy])
  simp only [List.map_cons,List.sum_cons]
  omega
theorem says_right {n:PN} {d:Nat} (h:n.right d=true) (h1:1≤n.size) (hz:n.size≤1048576):n.says.right d=true:=by
 obtain ⟨hd1,hd8,hr,hk⟩:=right_split h
 have hns:=node_sides h
 have hl1:0≤n.live∧n.live≤n.size:=by
  unfold PN.live PN.size
  have g1:=live_le n.rows
  have g2:=sum_nn PK.live n.kids fun k hk'=>(kid_split (hk k hk')).1
  have g3:=sum_mono PK.live PK.size n.kids fun k hk'=>kid_le (hk k hk')
  omega
 unfold PK.right
 by_cases he:n.says=PK.none
 ·rw [if_pos he]
 have hc:¬(n.says.size<1∨1048576<n.says.size∨n.says.live<0∨n.says.size<n.says.live):=by
  show ¬(n.size<1∨1048576<n.size∨n.live<0∨n.size<n.live)
  omega
 rw [if_neg he,if_neg hc]
 by_cases hl:n.live=0
 ·rw [if_pos (show n.says.live=0 from hl)]
  have:=hns.1 hl
  show decide (n.box.1.length+n.box.2.length=0)=true
  rw [this]
  rfl
 ·rw [if_neg (show ¬n.says.live=0 from hl)]
  obtain ⟨b1,b2,hE,hK,hi⟩:=hns.2 hl
  show rightB n.box.1 n.box.2 n.box.1.length n.box.2.length d=true
  rw [b1,b2]
  have h0:=(hi 0 (by omega)).1
  rw [Bool.or_eq_true] at h0
  have key:∀r:List Int,hasB n.box.1 n.box.2 r d d d=true→rightB n.box.1 n.box.2 d d d=true:=fun r hr=>by
   unfold hasB at hr
   rw [Bool.and_eq_true] at hr
   exact hr.1
  rcases h0 with h0 | h0
  ·obtain ⟨e,he,h2⟩:=List.any_eq_true.1 h0
   rw [Bool.and_eq_true] at h2
   exact key _ (hE e he h2.1)
  ·obtain ⟨k,hk2,h2⟩:=List.any_eq_true.1 h0
   rw [Bool.and_eq_true] at h2
   exact key _ (hK k hk2 (by simpa using h2.1)).2.2.1
theorem fork_right {d:Nat} {p:List Int} {v:Bool} {a b:PK} (hd:1≤d∧d≤8) (hp:p.length=d) (ha:a.right d=true) (hb:b.right d=true) (ka:a.key=[]) (kb:b.key=[]):(forkN p v a b).right d=true:=by
 unfold PN.right forkN
 rw [if_neg (by omega),if_neg (by simp [PE.long,hp]),if_neg (by simp [ha,hb]),if_pos rfl,if_pos ⟨rfl,rfl⟩]
 simp [PK.keyless,ka,kb]
theorem kid_right {d:Nat} (hd:1≤d∧d≤8):∀u:T,u.dims d→u.kid.right d=true∧u.kid.key=[]
 | .nil,_=>⟨rfl,rfl⟩
 | .fork p v l r,h=>by
  have hl:=kid_right hd l h.2.1
  have hr:=kid_right hd r h.2.2
  have hf:=fork_right (v:=v) hd h.1 hl.1 hr.1 hl.2 hr.2
  unfold T.kid
  split
  ·rename_i hz
   refine ⟨says_right hf ?_ hz,rfl⟩
   show (1:Int)≤((1:Nat):Int)+(l.kid.size+(r.kid.size+0))
   have h1:=kid_split hl.1
   have h2:=kid_split hr.1
   have h3:=kid_le hl.1
   have h4:=kid_le hr.1
   omega
  ·exact ⟨rfl,rfl⟩
end Go.Proofs.YtinihaflmdihaaaGreat.Kt
namespace Go.Proofs.YtinihaflmdihaaaGreat.Nd
open Go.RowKit
theorem kid_fill2 (q1 q2 q3:Option Addr) (m1 c1 m2 c2 m3 c3:Nat) (x y:Int) (q1' q2' q3':Option Addr) (m1' c1' m2' c2' m3' c3':Nat) (x' y':Int):∀(D F:List Nat),D.length=32→F.length=32→Instr.fill (fun i=>some (i*37,37)) ((Array.range (2*37)).map ((Value.agg kd0.cells.toArray).cells[·%(Value.agg kd0.cells.toArray).cells.size]!)) [(0,.agg (vals D++[Value.slice q1 m1 c1,.slice q2 m2 c2,.int .i64 x,.int .i64 y,.slice q3 m3 c3]).toArray),(1,.agg (vals F++[Value.slice q1' m1' c1',.slice q2' m2' c2',.int .i64 x',.int .i64 y',.slice q3' m3' c3']).toArray)]=some ((vals D++[Value.slice q1 m1 c1,.slice q2 m2 c2,.int .i64 x,.int .i64 y,.slice q3 m3 c3])++(vals F++[Value.slice q1' m1' c1',.slice q2' m2' c2',.int .i64 x',.int .i64 y',.slice q3' m3' c3'])).toArray
 |[a0,a1,a2,a3,a4,a5,a6,a7,a8,a9,a10,a11,a12,a13,a14,a15,a16,a17,a18,a19,a20,a21,a22,a23,a24,a25,a26,a27,a28,a29,a30,a31],[b0,b1,b2,b3,b4,b5,b6,b7,b8,b9,b10,b11,b12,b13,b14,b15,b16,b17,b18,b19,b20,b21,b22,b23,b24,b25,b26,b27,b28,b29,b30,b31],_,_=>by kernel_rfl
theorem wp_kid_two {w:World} {o:Oper} {a:Act} {K:Act→World→Prop} {Q:Exit→Act→World→Prop} (x y:Operand) (ho:o.op= .buildSlice 79 2 #[(0,x),(1,y)]) {k l:Kd} (hk:k.sum.length=32) (hl:l.sum.length=32) (hx:a.eval x= .agg k.cells.toArray) (hy:a.eval y= .agg l.cells.toArray)
  (h:K (a.put o.dst (.slice (some ⟨w.heap.size,0,none⟩) 2 2)) (w.alloc (.cells (k.cells++l.cells).toArray 34))):o.wp Tryz.prog a w K Q:=by
 obtain ⟨i,hi,hi0,hi1,hi2⟩:=info_parts IKd
 refine wp_buildSlice 79 34 2 #[(0,x),(1,y)] ho (k.cells++l.cells).toArray i _ UKs hi hi0 (by rw [hi1];omega) (by rw [hi1];omega) ?_ h
 rw [hi1]
 simp only [List.map_toArray,List.map_cons,List.map_nil,hx,hy]
 exact kid_fill2 _ _ _ _ _ _ _ _ _ _ _ _ _ _ _ _ _ _ _ _ _ _ k.sum l.sum hk hl
theorem wpList_kid_twoG {w:World} {ops:Array Oper} {rest:List Oper} {o:Oper} {a:Act} {Q:Exit→Act→World→Prop} (hw:Region.wanted o (yielded ops a.tmps)=true) (x y:Operand) (ho:o.op= .buildSlice 79 2 #[(0,x),(1,y)]) {k l:Kd} (hk:k.sum.length=32) (hl:l.sum.length=32) (hx:a.eval x= .agg k.cells.toArray) (hy:a.eval y= .agg l.cells.toArray)
  (h:wpList Tryz.prog ops Q rest (a.put o.dst (.slice (some ⟨w.heap.size,0,none⟩) 2 2)) (w.alloc (.cells (k.cells++l.cells).toArray 34))):wpList Tryz.prog ops Q (o::rest) a w:=
 BigFrame.wpList_want hw fun _ hK=>wp_kid_two x y ho hk hl hx hy (hK _ _ h)
theorem kids_two {w:World} {g:Nat} {a b:Kd} {t:TypeId} (h:w.heap[g]? =some (.cells (a.cells++b.cells).toArray t (0,0))) (ha:a.Ok w) (hb:b.Ok w):KidsIn w (some ⟨g,0,none⟩) 2 2 [a,b]:=by
 have hl:=Kd.cells_length ha.len
 refine ⟨rfl,Nat.le_refl _,by omega,fun k hk=>?_,Or.inr ⟨g,0,rfl,fun i hi=>?_⟩⟩
 ·simp only [List.mem_cons,List.not_mem_nil,or_false] at hk
  rcases hk with rfl | rfl
  ·exact ha
  ·exact hb
 ·have h2:i=0∨i=1:=by simp at hi;omega
  intro j v hv
  rcases h2 with rfl | rfl
  ·have hv':a.cells[j]? =some v:=hv
   rw [cell_of_row w g _ _ _ _ h]
   have hj:=(List.getElem?_eq_some_iff.1 hv').1
   simp only [Nat.zero_mul,Nat.zero_add,List.getElem?_toArray]
   rw [List.getElem?_append_left hj]
   exact hv'
  ·have hv':b.cells[j]? =some v:=hv
   rw [cell_of_row w g _ _ _ _ h]
   simp only [Nat.one_mul,Nat.zero_add,List.getElem?_toArray]
   rw [List.getElem?_append_right (by omega),hl,Nat.add_sub_cancel_left]
   exact hv'
end Go.Proofs.YtinihaflmdihaaaGreat.Nd
namespace Go.Proofs.YtinihaflmdihaaaGreat.Kt
open Go.RowKit Go.Proofs.YtinihaflmdihaaaGreat.Nd
theorem nd_built (p q:Option Addr) (n c m f:Nat):Tryz.prog.built 81 [(0,.int .u8 1),(1,.slice p n c),(2,.slice q m f)]=some #[.int .u8 1,.slice p n c,.slice q m f]:=by kernel_rfl
theorem UNode0:(Tryz.prog.underlying 81).map (·.isRow)=some true:=by kernel_rfl
theorem UNode:∃d,Tryz.prog.underlying 81=some d∧d.isRow=true:=by
 have h:=UNode0
 revert h
 cases Tryz.prog.underlying 81 with
 | none=>intro h;cases h
 | some d=>intro h;exact ⟨d,rfl,by simpa using h⟩
theorem SNode:(Tryz.prog.info? 81).map (·.size)=some 3:=by kernel_rfl
theorem nd_one (p q:Option Addr) (n c m f:Nat):(#[.int .u8 1,.slice p n c,.slice q m f]:Array Value).all (·.oneCell')=true:=all_oneCell_toArray (cs:=[.int .u8 1,.slice p n c,.slice q m f]) fun u hu=>by
 simp only [List.mem_cons,List.not_mem_nil,or_false] at hu
 rcases hu with rfl | rfl | rfl<;>rfl
structure NdSt (w x:World):Prop where
 low:Below w.heap.size w x
 res:x.heap[w.heap.size]? =some (.cells #[.int .u8 0,.slice none 0 0,.slice none 0 0] 81 (0,0))
theorem NdSt.lt {w x:World} (h:NdSt w x):w.heap.size+1≤x.heap.size:=(yL h.res)
theorem NdSt.later {w x y:World} (h:NdSt w x) (hb:Below x.heap.size x y):NdSt w y:=⟨h.low.trans (hb.mono h.low.size),(hb.block _ (yL h.res)).trans h.res⟩
theorem NdSt.start (w:World):NdSt w (w.alloc (.cells #[.int .u8 0,.slice none 0 0,.slice none 0 0] 81)):=⟨(Below.refl _ _).alloc (Nat.le_refl _) _,heap_alloc_new w _⟩
theorem away_ok {w:World} {r:Rw} (h:r.Ok w) {X:Nat} (hX:w.heap.size≤X):Away X r:=fun _ hx hR e=>by have:=rw_lt h _ hx hR;omega
theorem ents_one {w:World} {g m c:Nat} {q:Option Addr} {R:List Int} {b:Bool} {t:TypeId} (h:w.heap[g]? =some (.cells #[.slice q m c,.bool b] t (0,0))) (ok:(⟨q,m,c,R⟩:Rw).Ok w):EntsIn w (some ⟨g,0,none⟩) 1 1 [⟨⟨q,m,c,R⟩,b⟩]:=by
 refine ⟨rfl,Nat.le_refl _,by omega,fun e he=>?_,Or.inr ⟨g,0,rfl,fun i hi=>?_⟩⟩
 ·obtain rfl:=List.mem_singleton.1 he
  exact ok
 ·obtain rfl:i=0:=by simpa using hi
  exact ⟨cell_of_row w g 0 _ _ _ h,cell_of_row w g 1 _ _ _ h⟩
end Go.Proofs.YtinihaflmdihaaaGreat.Kt
namespace Go.Proofs.YtinihaflmdihaaaGreat.Kt
open Go.Proofs Go.Shelf
def sortRen:Go.Shelf.Ren:=⟨fun | 6=>118 | 15=>139 | 14=>161 | 28=>184 | 29=>142 | 20=>212 | 21=>213 | 22=>214 | 23=>215 | 24=>216 | 25=>217 | 26=>218 | 27=>219 | 46=>252 | 47=>253 | 48=>254 | 49=>255 | 50=>256 | 57=>281 | n=>n,fun | 22=>51 | 24=>24 | 25=>173 | 3=>3 | 39=>198 | 0=>0 | 53=>241 | 55=>204 | 4=>4 | 46=>268 | 45=>267 | 50=>248 | 5=>5 | 9=>9 | 66=>309 | 70=>285 | 76=>330 | 77=>96 | n=>n,fun n=>n⟩
theorem sortLays:SlLaysF.n6 Tryz.prog sortRen where
 mixed:=by kernel_rfl
 f6:=⟨Tryz.f118.name,by kernel_rfl,Tryz.func118.trans (congrArg some (by kernel_rfl))⟩
 f14:=⟨Tryz.f161.name,by kernel_rfl,Tryz.func161.trans (congrArg some (by kernel_rfl))⟩
 f15:=Tryz.func139.trans (congrArg some (by kernel_rfl))
 f20:=⟨Tryz.f212.name,by kernel_rfl,Tryz.func212.trans (congrArg some (by kernel_rfl))⟩
 f21:=⟨Tryz.f213.name,by kernel_rfl,Tryz.func213.trans (congrArg some (by kernel_rfl))⟩
 f22:=⟨Tryz.f214.name,by kernel_rfl,Tryz.func214.trans (congrArg some (by kernel_rfl))⟩
 f23:=⟨Tryz.f215.name,by kernel_rfl,Tryz.func215.trans (congrArg some (by kernel_rfl))⟩
 f24:=⟨Tryz.f216.name,by kernel_rfl,Tryz.func216.trans (congrArg some (by kernel_rfl))⟩
 f25:=⟨Tryz.f217.name,by kernel_rfl,Tryz.func217.trans (congrArg some (by kernel_rfl))⟩
 f26:=⟨Tryz.f218.name,by kernel_rfl,Tryz.func218.trans (congrArg some (by kernel_rfl))⟩
 f27:=⟨Tryz.f219.name,by kernel_rfl,Tryz.func219.trans (congrArg some (by kernel_rfl))⟩
 f28:=Tryz.func184.trans (congrArg some (by kernel_rfl))
 f29:=Tryz.func142.trans (congrArg some (by kernel_rfl))
 f46:=⟨Tryz.f252.name,by kernel_rfl,Tryz.func252.trans (congrArg some (by kernel_rfl))⟩
 f47:=Tryz.func253.trans (congrArg some (by kernel_rfl))
 f48:=Tryz.func254.trans (congrArg some (by kernel_rfl))
 f49:=⟨Tryz.f255.name,by kernel_rfl,Tryz.func255.trans (congrArg some (by kernel_rfl))⟩
 f50:=⟨Tryz.f256.name,by kernel_rfl,Tryz.func256.trans (congrArg some (by kernel_rfl))⟩
 f57:=⟨Tryz.f281.name,by kernel_rfl,Tryz.func281.trans (congrArg some (by kernel_rfl))⟩
 t0:=Tryz.underlying0
 a0:=Tryz.isAgg0
 z0:=Tryz.sizeOf0
 v0:=Tryz.zeroValue0
 t3:=Tryz.underlying3
 a3:=Tryz.isAgg3
 z3:=Tryz.sizeOf3
 v3:=Tryz.zeroValue3
 t4:=Tryz.underlying4
 a4:=Tryz.isAgg4
 z4:=Tryz.sizeOf4
 v4:=Tryz.zeroValue4
 t5:=Tryz.underlying5
 a5:=Tryz.isAgg5
 z5:=Tryz.sizeOf5
 v5:=Tryz.zeroValue5
 t9:=Tryz.underlying9
 a9:=Tryz.isAgg9
 z9:=Tryz.sizeOf9
 v9:=Tryz.zeroValue9
 t22:=Tryz.underlying51
 a22:=Tryz.isAgg51
 z22:=Tryz.sizeOf51
 v22:=Tryz.zeroValue51
 a24:=Tryz.isAgg24
 z24:=Tryz.sizeOf24
 t25:=Tryz.underlying173
 a25:=Tryz.isAgg173
 z25:=Tryz.sizeOf173
 v25:=Tryz.zeroValue173
 t39:=Tryz.underlying198
 a39:=Tryz.isAgg198
 z39:=Tryz.sizeOf198
 v39:=Tryz.zeroValue198
 t45:=Tryz.underlying267
 a45:=Tryz.isAgg267
 z45:=Tryz.sizeOf267
 v45:=Tryz.zeroValue267
 t46:=Tryz.underlying268
 a46:=Tryz.isAgg268
 z46:=Tryz.sizeOf268
 v46:=Tryz.zeroValue268
 t50:=Tryz.underlying248
 a50:=Tryz.isAgg248
 z50:=Tryz.sizeOf248
 v50:=Tryz.zeroValue248
 t53:=Tryz.underlying241
 a53:=Tryz.isAgg241
 z53:=Tryz.sizeOf241
 v53:=Tryz.zeroValue241
 t55:=Tryz.underlying204
 a55:=Tryz.isAgg204
 z55:=Tryz.sizeOf204
 v55:=Tryz.zeroValue204
 t66:=Tryz.underlying309
 a66:=Tryz.isAgg309
 z66:=Tryz.sizeOf309
 v66:=Tryz.zeroValue309
 t70:=Tryz.underlying285
 a70:=Tryz.isAgg285
 z70:=Tryz.sizeOf285
 v70:=Tryz.zeroValue285
 t76:=Tryz.underlying330
 a76:=Tryz.isAgg330
 z76:=Tryz.sizeOf330
 v76:=Tryz.zeroValue330
 t77:=Tryz.underlying96
 a77:=Tryz.isAgg96
 z77:=Tryz.sizeOf96
 v77:=Tryz.zeroValue96
end Go.Proofs.YtinihaflmdihaaaGreat.Kt
