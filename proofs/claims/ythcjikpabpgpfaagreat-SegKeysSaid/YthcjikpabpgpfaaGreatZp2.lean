import Derived.Test.YthcjikpabpgpfaaGreatZp0
set_option linter.unusedSimpArgs false
set_option maxHeartbeats 16000000
set_option maxRecDepth 100000
namespace Go.Proofs.YthcjikpabpgpfaaGreat
theorem div_lt' {n:Nat} (h:¬ n < 128):n / 128 < n:=Nat.div_lt_self (by omega) (by omega)
def putL (n:Nat):List UInt8:=if h:n < 128 then [UInt8.ofNat n] else UInt8.ofNat (n % 128+128) :: putL (n / 128)
termination_by n
decreasing_by exact div_lt' h
theorem putL_small {n:Nat} (h:n < 128):putL n=[UInt8.ofNat n]:=by
 rw [putL,dif_pos h]
theorem putL_big {n:Nat} (h:¬ n < 128):putL n=UInt8.ofNat (n % 128+128) :: putL (n / 128):=by
 rw [putL,dif_neg h]
def getAux:Nat→Nat→List UInt8→Nat×Nat×Int
 | _,_,[]=>(0,0,31)
 | i,acc,c :: r=>
  if (i=9∧1 < c.toNat)∨(c.toNat=0∧0 < i) then (0,0,32)
  else if c.toNat < 128 then (acc+c.toNat % 128 * 2 ^ (7 * i),i+1,0)
  else getAux (i+1) (acc+c.toNat % 128 * 2 ^ (7 * i)) r
def getL (l:List UInt8):Nat×Nat×Int:=getAux 0 0 l
theorem ofNat_toNat {n:Nat} (h:n < 256):(UInt8.ofNat n).toNat=n:=UInt8.toNat_ofNat_of_lt' (by show _ < 256;omega)
theorem pow7 (i:Nat):2 ^ (7 * (i+1))=128 * 2 ^ (7 * i):=by rw [Nat.mul_add,Nat.pow_add];omega
theorem putL_pos (n:Nat):0 < (putL n).length:=by
 by_cases h:n < 128
 ·rw [putL_small h];simp
 ·rw [putL_big h];simp
theorem split7 (n p:Nat):n % 128 * p+n / 128 * (128 * p)=n * p:=by
 have h:=Nat.div_add_mod n 128
 have e:n * p=(128 * (n / 128)+n % 128) * p:=by rw [h]
 rw [e,Nat.add_mul,Nat.add_comm,← Nat.mul_assoc,Nat.mul_comm (n / 128) 128]
theorem small_of_mul {n i:Nat} (h:n * 2 ^ (7 * i) < 2 ^ 64) (hi:9≤i):n < 2:=by
 have h1:2 ^ 63≤2 ^ (7 * i):=Nat.pow_le_pow_right (by omega) (by omega)
 rcases Nat.lt_or_ge n 2 with h2 | h2
 ·exact h2
 ·have:=Nat.mul_le_mul h2 h1
  omega
theorem getAux_put (n:Nat):∀ (i acc:Nat) (more:List UInt8),n * 2 ^ (7 * i) < 2 ^ 64→(0 < i→0 < n)→
  getAux i acc (putL n++more)=(acc+n * 2 ^ (7 * i),i+(putL n).length,0):=by
 induction n using Nat.strongRecOn with
 | _ n ih=>
  intro i acc more hn hp
  by_cases h:n < 128
  ·rw [putL_small h]
   have e:(UInt8.ofNat n).toNat=n:=ofNat_toNat (by omega)
   simp only [List.cons_append,List.nil_append,getAux,e,List.length_singleton]
   rw [if_neg,if_pos h,Nat.mod_eq_of_lt h]
   rintro (⟨h1,h2⟩ | ⟨h1,h2⟩)
   ·have:=small_of_mul hn (by omega)
    omega
   ·have:=hp h2
    omega
  ·rw [putL_big h]
   have e:(UInt8.ofNat (n % 128+128)).toNat=n % 128+128:=ofNat_toNat (by omega)
   simp only [List.cons_append,getAux,e,List.length_cons]
   rw [if_neg,if_neg (by omega)]
   ·rw [ih (n / 128) (div_lt' h) (i+1) _ more]
    ·rw [pow7,Nat.add_mod_right,Nat.mod_mod,Nat.add_assoc,split7,Nat.add_assoc,Nat.add_comm 1]
    ·rw [pow7]
     have:=split7 n (2 ^ (7 * i))
     omega
    ·intro _
     omega
   ·rintro (⟨h1,h2⟩ | ⟨h1,h2⟩)
    ·have:=small_of_mul hn (by omega)
     omega
    ·omega
theorem getL_put {n:Nat} (hn:n < 2 ^ 64) (more:List UInt8):getL (putL n++more)=(n,(putL n).length,0):=by
 have:=getAux_put n 0 0 more (by simpa using hn) (by omega)
 simpa [getL] using this
theorem getAux_inv:∀ (l:List UInt8) (i acc v k:Nat),getAux i acc l=(v,k,0)→i≤9→
  ∃ n,v=acc+n * 2 ^ (7 * i)∧i < k∧k≤10∧k≤i+l.length∧l.take (k - i)=putL n∧(0 < i→0 < n)∧n * 2 ^ (7 * i)+2 ^ (7 * i)≤2 ^ 64
 | [],i,acc,v,k,h,_=>by simp [getAux] at h
 | c :: r,i,acc,v,k,h,hi=>by
  have hc:=c.toNat_lt
  simp only [getAux] at h
  split at h
  ·simp at h
  ·rename_i hn
   have hn1:i=9→c.toNat≤1:=fun e=>by
    rcases Nat.lt_or_ge 1 c.toNat with h1 | h1
    ·exact absurd (Or.inl ⟨e,h1⟩) hn
    ·exact h1
   have hn2:0 < i→0 < c.toNat:=fun e=>by
    rcases Nat.eq_zero_or_pos c.toNat with h1 | h1
    ·exact absurd (Or.inr ⟨h1,e⟩) hn
    ·exact h1
   split at h
   ·rename_i hs
    simp only [Prod.mk.injEq,and_true] at h
    obtain ⟨rfl,rfl⟩:=h
    refine ⟨c.toNat,by rw [Nat.mod_eq_of_lt hs],by omega,by omega,by simp,?_,hn2,?_⟩
    ·rw [show i+1 - i=1 by omega,putL_small hs]
     simp
    ·rcases Nat.lt_or_ge i 9 with h9 | h9
     ·have h1:2 ^ (7 * i)≤2 ^ 56:=Nat.pow_le_pow_right (by omega) (by omega)
      have h2:=Nat.mul_le_mul (show c.toNat+1≤128 by omega) h1
      rw [Nat.add_mul] at h2
      omega
     ·obtain rfl:i=9:=by omega
      have:=hn1 rfl
      omega
   ·rename_i hs
    have hi9:i≠9:=fun e=>by have:=hn1 e;omega
    obtain ⟨n,h1,h2,h3,h4,h5,h6,h7⟩:=getAux_inv r (i+1) _ v k h (by omega)
    have hn0:=h6 (by omega)
    refine ⟨c.toNat % 128+128 * n,?_,by omega,h3,by simp;omega,?_,fun _=>(by clear h1 h7;omega),?_⟩
    ·rw [h1,pow7,Nat.add_assoc,Nat.add_mul,Nat.mul_assoc,Nat.mul_left_comm n 128]
    ·rw [show k - i=(k - (i+1))+1 by omega,List.take_succ_cons,h5,putL_big (n:=c.toNat % 128+128 * n) (by omega)]
     have e1:(c.toNat % 128+128 * n) % 128=c.toNat % 128:=by omega
     have e2:(c.toNat % 128+128 * n) / 128=n:=by omega
     rw [e1,e2]
     congr 1
     apply UInt8.toNat_inj.1
     rw [ofNat_toNat (by omega)]
     omega
    ·rw [pow7] at h7
     have h8:c.toNat % 128+1≤128:=by omega
     have h9:=Nat.mul_le_mul_right (2 ^ (7 * i)) h8
     rw [Nat.add_mul] at h9 ⊢
     rw [Nat.mul_left_comm] at h7
     rw [Nat.mul_assoc]
     omega
theorem getL_inv {l:List UInt8} {v k:Nat} (h:getL l=(v,k,0)):0 < k∧k≤10∧k≤l.length∧l.take k=putL v∧v < 2 ^ 64:=by
 obtain ⟨n,h1,h2,h3,h4,h5,_,h7⟩:=getAux_inv l 0 0 v k h (by omega)
 simp at h1 h4 h5 h7
 subst h1
 exact ⟨h2,h3,h4,h5,by omega⟩
theorem putL_len (n:Nat) (hn:n < 2 ^ 64):(putL n).length≤10:=(getL_inv (getL_put hn [])).2.1
def gaps:Int→List Int→List Nat
 | _,[]=>[]
 | p,x :: r=>(x - p - 1).toNat :: gaps x r
def rises:Int→List Int→Bool
 | _,[]=>true
 | p,x :: r=>decide (p < x)&&rises x r
def putGaps (l:List Nat):List UInt8:=l.flatMap putL
def putR (l:List Int):List UInt8:=putL l.length++putGaps (gaps (-1) l)
def getRAux:Nat→Int→Nat→List UInt8→List Int→List Int×Nat×Int
 | 0,_,at_,_,acc=>(acc,at_,0)
 | m+1,p,at_,b,acc=>
  if (getL b).2.2≠0 then ([],0,(getL b).2.2)
  else if 9223372036854775807 < p+(getL b).1+1 then ([],0,32)
  else getRAux m (p+(getL b).1+1) (at_+(getL b).2.1) (b.drop (getL b).2.1) (acc++[p+(getL b).1+1])
def getR (b:List UInt8) (most:Int):List Int×Nat×Int:=
 if (getL b).2.2≠0 then ([],0,(getL b).2.2)
 else if most < 0∨most < ((getL b).1:Int) then ([],0,2)
 else getRAux (getL b).1 (-1) (getL b).2.1 (b.drop (getL b).2.1) []
theorem gaps_len (l:List Int):∀ p,(gaps p l).length=l.length:=by
 induction l with
 | nil=>intro p;rfl
 | cons x r ih=>intro p;simp [gaps,ih x]
theorem getL_drop {n:Nat} (more:List UInt8):(putL n++more).drop (putL n).length=more:=by
 simp
theorem getRAux_put (l:List Int):∀ (p:Int) (at_:Nat) (more:List UInt8) (acc:List Int),-1≤p→rises p l=true→(∀ x∈l,x≤9223372036854775807)→
  getRAux l.length p at_ (putGaps (gaps p l)++more) acc=(acc++l,at_+(putGaps (gaps p l)).length,0):=by
 induction l with
 | nil=>intro p at_ more acc _ _ _;simp [getRAux,gaps,putGaps]
 | cons x r ih=>
  intro p at_ more acc hp hr hx
  simp only [rises,Bool.and_eq_true,decide_eq_true_eq] at hr
  have hxm:=hx x (List.mem_cons_self ..)
  have hn:(x - p - 1).toNat < 2 ^ 64:=by omega
  have hg:getL (putGaps (gaps p (x :: r))++more)=((x - p - 1).toNat,(putL (x - p - 1).toNat).length,0):=by
   simp only [gaps,putGaps,List.flatMap_cons,List.append_assoc]
   exact getL_put hn _
  simp only [List.length_cons,getRAux,hg]
  rw [if_neg (by simp),if_neg (by omega)]
  have e:p+(x - p - 1).toNat+1=x:=by omega
  rw [e]
  have hd:(putGaps (gaps p (x :: r))++more).drop (putL (x - p - 1).toNat).length=putGaps (gaps x r)++more:=by
   simp only [gaps,putGaps,List.flatMap_cons,List.append_assoc]
   exact getL_drop _
  rw [hd,ih x _ more _ (by omega) hr.2 (fun y hy=>hx y (List.mem_cons_of_mem _ hy))]
  simp only [gaps,putGaps,List.flatMap_cons,List.length_append,List.append_assoc,List.cons_append,List.nil_append]
  rw [Nat.add_assoc]
theorem getR_put (l:List Int) (hl:l.length < 2 ^ 63) (hr:rises (-1) l=true) (hx:∀ x∈l,x≤9223372036854775807) (more:List UInt8) (most:Int) (hm:(l.length:Int)≤most):
  getR (putR l++more) most=(l,(putR l).length,0):=by
 have hg:getL (putR l++more)=(l.length,(putL l.length).length,0):=by
  unfold putR
  rw [List.append_assoc]
  exact getL_put (by omega) _
 unfold getR
 rw [hg]
 simp only
 rw [if_neg (by simp),if_neg (by omega)]
 have hd:(putR l++more).drop (putL l.length).length=putGaps (gaps (-1) l)++more:=by
  unfold putR
  rw [List.append_assoc]
  exact getL_drop _
 rw [hd,getRAux_put l (-1) _ more [] (by omega) hr hx]
 simp [putR]
theorem getRAux_inv:∀ (m:Nat) (p:Int) (at_:Nat) (b:List UInt8) (acc:List Int) (l:List Int) (k:Nat),getRAux m p at_ b acc=(l,k,0)→-1≤p→
  ∃ r,l=acc++r∧r.length=m∧rises p r=true∧(∀ x∈r,x≤9223372036854775807)∧at_≤k∧k≤at_+b.length∧b.take (k - at_)=putGaps (gaps p r)
 | 0,p,at_,b,acc,l,k,h,_=>by
  simp only [getRAux,Prod.mk.injEq,and_true] at h
  obtain ⟨rfl,rfl⟩:=h
  exact ⟨[],by simp,rfl,rfl,by simp,Nat.le_refl _,by omega,by simp [gaps,putGaps]⟩
 | m+1,p,at_,b,acc,l,k,h,hp=>by
  simp only [getRAux] at h
  split at h
  ·rename_i he
   simp only [Prod.mk.injEq] at h
   exact absurd h.2.2 he
  ·rename_i he
   split at h
   ·simp at h
   ·rename_i ho
    rcases hgl:getL b with ⟨n,j,e⟩
    rw [hgl] at h he ho
    simp only at h he ho
    have he0:e=0:=by
     rcases Int.lt_trichotomy e 0 with h1 | h1 | h1
     ·exact absurd (show e≠0 by omega) he
     ·exact h1
     ·exact absurd (show e≠0 by omega) he
    subst he0
    obtain ⟨g1,g2,g3,g4,g5⟩:=getL_inv hgl
    obtain ⟨r,h1,h2,h3,h4,h5,h6,h7⟩:=getRAux_inv m _ _ _ _ l k h (by omega)
    refine ⟨(p+n+1) :: r,by rw [h1];simp,by simp [h2],by simp [rises,h3];omega,fun x hx=>?_,by omega,by rw [List.length_drop] at h6;omega,?_⟩
    ·rcases List.mem_cons.1 hx with rfl | hx
     ·omega
     ·exact h4 x hx
    ·have e1:(p+n+1 - p - 1).toNat=n:=by omega
     simp only [gaps,putGaps,List.flatMap_cons,e1]
     have e2:b=putL n++b.drop j:=by rw [← g4,List.take_append_drop]
     have e3:(putL n).length=j:=by rw [← g4];simp;omega
     rw [e2,List.take_append]
     rw [List.take_of_length_le (by omega),e3,show k - at_ - j=k - (at_+j) by omega,h7]
     rfl
theorem getR_inv {b:List UInt8} {most:Int} {l:List Int} {k:Nat} (h:getR b most=(l,k,0)):
  rises (-1) l=true∧(∀ x∈l,x≤9223372036854775807)∧k≤b.length∧b.take k=putR l∧(l.length:Int)≤most:=by
 unfold getR at h
 split at h
 ·rename_i he
  simp only [Prod.mk.injEq] at h
  exact absurd h.2.2 he
 ·rename_i he
  split at h
  ·simp at h
  ·rename_i hm
   rcases hgl:getL b with ⟨n,j,e⟩
   rw [hgl] at h he hm
   simp only at h he hm
   have he0:e=0:=by
    rcases Int.lt_trichotomy e 0 with h1 | h1 | h1
    ·exact absurd (show e≠0 by omega) he
    ·exact h1
    ·exact absurd (show e≠0 by omega) he
   subst he0
   obtain ⟨g1,g2,g3,g4,g5⟩:=getL_inv hgl
   obtain ⟨r,h1,h2,h3,h4,h5,h6,h7⟩:=getRAux_inv n _ _ _ _ l k h (by omega)
   rw [List.nil_append] at h1
   subst h1
   refine ⟨h3,h4,by rw [List.length_drop] at h6;omega,?_,by rw [h2];omega⟩
   have e2:b=putL n++b.drop j:=by rw [← g4,List.take_append_drop]
   have e3:(putL n).length=j:=by rw [← g4];simp;omega
   rw [e2,List.take_append,List.take_of_length_le (by omega),e3,h7,putR,h2]
theorem rises_at (l:List Int):∀ p,rises p l=true↔∀ (i:Nat) (x:Int),l[i]?=some x→(if i=0 then p else l.getD (i - 1) 0) < x:=by
 induction l with
 | nil=>intro p;simp [rises]
 | cons y r ih=>
  intro p
  simp only [rises,Bool.and_eq_true,decide_eq_true_eq,ih y]
  constructor
  ·rintro ⟨h1,h2⟩ i x hx
   cases i with
   | zero=>simp at hx;subst hx;simpa using h1
   | succ i=>
    have h:=h2 i x (by simpa using hx)
    rw [if_neg (by omega)]
    cases i with
    | zero=>simpa using h
    | succ i=>simpa using h
  ·intro h
   refine ⟨by simpa using h 0 y rfl,fun i x hx=>?_⟩
   have:=h (i+1) x (by simpa using hx)
   cases i with
   | zero=>simpa using this
   | succ i=>simpa using this
structure Rd where
 bs:List UInt8
 p:Nat
 e:Int
def rInt (s:Rd) (most:Int):Int×Rd:=
 if s.e≠0 then (0,s)
 else if (getL (s.bs.drop s.p)).2.2≠0 then (0,{ s with e:=(getL (s.bs.drop s.p)).2.2 })
 else if most < 0∨most < ((getL (s.bs.drop s.p)).1:Int) then (0,{ s with e:=32 })
 else ((getL (s.bs.drop s.p)).1,{ s with p:=s.p+(getL (s.bs.drop s.p)).2.1 })
def rBytes (s:Rd) (n:Int):List UInt8×Rd:=
 if s.e≠0∨n≤0 then ([],s)
 else if (s.bs.length:Int) - s.p < n then ([],{ s with e:=31 })
 else ((s.bs.drop s.p).take n.toNat,{ s with p:=s.p+n.toNat })
def rText (s:Rd) (most:Int):List UInt8×Rd:=rBytes (rInt s most).2 (rInt s most).1
def rLeft (s:Rd):Nat:=if s.e≠0 then 0 else s.bs.length - s.p
structure Rd.Ok (s:Rd):Prop where
 place:s.p≤s.bs.length
theorem rInt_ok {s:Rd} (h:s.Ok) (most:Int):(rInt s most).2.Ok∧(rInt s most).2.bs=s.bs:=by
 unfold rInt
 split
 ·exact ⟨h,rfl⟩
 ·split
  ·exact ⟨⟨h.place⟩,rfl⟩
  ·split
   ·exact ⟨⟨h.place⟩,rfl⟩
   ·rename_i he _
    refine ⟨⟨?_⟩,rfl⟩
    rcases hg:getL (s.bs.drop s.p) with ⟨v,k,e⟩
    rw [hg] at he
    have he0:e=0:=by simpa using he
    subst he0
    have h3:=(getL_inv hg).2.2.1
    have:=h.place
    simp only [List.length_drop] at h3 ⊢
    omega
theorem rBytes_ok {s:Rd} (h:s.Ok) (n:Int):(rBytes s n).2.Ok∧(rBytes s n).2.bs=s.bs:=by
 have:=h.place
 unfold rBytes
 split
 ·exact ⟨h,rfl⟩
 ·split
  ·exact ⟨⟨h.place⟩,rfl⟩
  ·exact ⟨⟨by simp only;omega⟩,rfl⟩
theorem rText_ok {s:Rd} (h:s.Ok) (most:Int):(rText s most).2.Ok∧(rText s most).2.bs=s.bs:=by
 have h1:=rInt_ok h most
 have h2:=rBytes_ok h1.1 (rInt s most).1
 exact ⟨h2.1,h2.2.trans h1.2⟩
def poly:Nat:=3988292384
def all1:Nat:=4294967295
def bitStep (r:Nat):Nat:=if r % 2=1 then (r / 2) ^^^ poly else r / 2
def bitSteps:Nat→Nat→Nat
 | 0,r=>r
 | k+1,r=>bitStep (bitSteps k r)
def s8 (r:Nat):Nat:=bitSteps 8 r
def step (r:Nat) (c:UInt8):Nat:=s8 (r ^^^ c.toNat)
def reg (r:Nat) (l:List UInt8):Nat:=l.foldl step r
def moreN (s:Nat) (l:List UInt8):Nat:=all1 ^^^ reg (all1 ^^^ s) l
def sumN (l:List UInt8):Nat:=moreN 0 l
theorem xor_mod2 (x y:Nat):(x ^^^ y) % 2=(x % 2+y % 2) % 2:=by
 have h:=Nat.testBit_xor x y 0
 rw [Nat.testBit_zero,Nat.testBit_zero,Nat.testBit_zero] at h
 have hx:x % 2=0∨x % 2=1:=by omega
 have hy:y % 2=0∨y % 2=1:=by omega
 have hz:(x ^^^ y) % 2=0∨(x ^^^ y) % 2=1:=by omega
 rcases hx with hx | hx <;> rcases hy with hy | hy <;> rcases hz with hz | hz <;> simp [hx,hy,hz] at h ⊢
theorem xor_div2 (x y:Nat):(x ^^^ y) / 2=x / 2 ^^^ y / 2:=by
 have:=@Nat.shiftRight_xor_distrib 1 x y
 simpa [Nat.shiftRight_eq_div_pow] using this
theorem xor_lt {x y:Nat} (hx:x < 4294967296) (hy:y < 4294967296):x ^^^ y < 4294967296:=Nat.xor_lt_two_pow (n:=32) hx hy
theorem xor_lt8 {x y:Nat} (hx:x < 256) (hy:y < 256):x ^^^ y < 256:=Nat.xor_lt_two_pow (n:=8) hx hy
theorem xor4 (a b c d:Nat):(a ^^^ b) ^^^ (c ^^^ d)=(a ^^^ c) ^^^ (b ^^^ d):=by
 rw [Nat.xor_assoc,Nat.xor_assoc,← Nat.xor_assoc b c d,Nat.xor_comm b c,Nat.xor_assoc c b d]
theorem bitStep_xor (x y:Nat):bitStep (x ^^^ y)=bitStep x ^^^ bitStep y:=by
 unfold bitStep
 rw [xor_mod2,xor_div2]
 have hx:x % 2=0∨x % 2=1:=by omega
 have hy:y % 2=0∨y % 2=1:=by omega
 rcases hx with hx | hx <;> rcases hy with hy | hy <;> simp only [hx,hy]
 ·rfl
 ·simp [Nat.xor_assoc]
 ·rw [if_pos (by decide),if_pos trivial,if_neg (by decide),Nat.xor_assoc,Nat.xor_assoc,Nat.xor_comm poly]
 ·rw [if_neg (by decide),if_pos trivial,if_pos trivial,xor4,Nat.xor_self,Nat.xor_zero]
theorem bitSteps_xor (k x y:Nat):bitSteps k (x ^^^ y)=bitSteps k x ^^^ bitSteps k y:=by
 induction k with
 | zero=>rfl
 | succ k ih=>simp only [bitSteps,ih,bitStep_xor]
theorem s8_xor (x y:Nat):s8 (x ^^^ y)=s8 x ^^^ s8 y:=bitSteps_xor 8 x y
theorem bitStep_even (q:Nat):bitStep (2 * q)=q:=by
 unfold bitStep
 rw [if_neg (by omega)]
 omega
theorem s8_high (q:Nat):s8 (256 * q)=q:=by
 unfold s8 bitSteps bitSteps bitSteps bitSteps bitSteps bitSteps bitSteps bitSteps bitSteps
 rw [show 256 * q=2 * (128 * q) by omega,bitStep_even,show 128 * q=2 * (64 * q) by omega,bitStep_even,show 64 * q=2 * (32 * q) by omega,bitStep_even,
  show 32 * q=2 * (16 * q) by omega,bitStep_even,show 16 * q=2 * (8 * q) by omega,bitStep_even,show 8 * q=2 * (4 * q) by omega,bitStep_even,
  show 4 * q=2 * (2 * q) by omega,bitStep_even,bitStep_even]
theorem low_split (r c:Nat):r ^^^ c=256 * (r / 256) ^^^ (r % 256 ^^^ c):=by
 have h:r=256 * (r / 256) ^^^ (r % 256):=by
  have h1:=@Nat.two_pow_add_eq_or_of_lt 8 (r % 256) (Nat.mod_lt _ (by decide)) (r / 256)
  apply Nat.eq_of_testBit_eq
  intro i
  have h2:r=2 ^ 8 * (r / 256)+r % 256:=by omega
  rw [Nat.testBit_xor]
  have h3:=Nat.testBit_two_pow_mul_add (r / 256) (b:=r % 256) (i:=8) (Nat.mod_lt _ (by decide)) i
  have h4:=Nat.testBit_two_pow_mul (i:=8) (a:=r / 256) (j:=i)
  rw [show (2:Nat) ^ 8=256 by decide] at h3 h4
  rw [h4]
  conv=>lhs;rw [h2,show (2:Nat) ^ 8=256 by decide]
  rw [h3]
  by_cases hi:i < 8
  ·have h8:¬ 8≤i:=by omega
   simp [hi,h8]
  ·have h8:8≤i:=by omega
   have:(r % 256).testBit i=false:=Nat.testBit_lt_two_pow (Nat.lt_of_lt_of_le (Nat.mod_lt _ (by decide)) (by
    have:2 ^ 8≤2 ^ i:=Nat.pow_le_pow_right (by omega) (by omega)
    simpa using this))
   simp [hi,h8,this]
 have h5:r ^^^ c=256 * (r / 256) ^^^ (r % 256) ^^^ c:=congrArg (· ^^^ c) h
 rw [h5,Nat.xor_assoc]
theorem step_tab (r:Nat) (c:UInt8):step r c=r / 256 ^^^ s8 (r % 256 ^^^ c.toNat):=by
 unfold step
 rw [low_split r c.toNat,s8_xor,s8_high]
theorem bitStep_lt {x:Nat} (h:x < 4294967296):bitStep x < 4294967296:=by
 unfold bitStep
 split
 ·exact xor_lt (by omega) (by decide)
 ·omega
theorem bitSteps_lt (k:Nat) {x:Nat} (h:x < 4294967296):bitSteps k x < 4294967296:=by
 induction k with
 | zero=>exact h
 | succ k ih=>exact bitStep_lt ih
theorem s8_lt {x:Nat} (h:x < 4294967296):s8 x < 4294967296:=bitSteps_lt 8 h
theorem byte_lt (c:UInt8):c.toNat < 4294967296:=by have:=c.toNat_lt;omega
theorem step_lt {r:Nat} (h:r < 4294967296) (c:UInt8):step r c < 4294967296:=s8_lt (xor_lt h (byte_lt c))
theorem reg_lt {r:Nat} (h:r < 4294967296) (l:List UInt8):reg r l < 4294967296:=by
 induction l generalizing r with
 | nil=>exact h
 | cons c l ih=>exact ih (step_lt h c)
theorem inv_lt {r:Nat} (h:r < 4294967296):all1 ^^^ r < 4294967296:=xor_lt (by decide) h
theorem moreN_lt {s:Nat} (h:s < 4294967296) (l:List UInt8):moreN s l < 4294967296:=inv_lt (reg_lt (inv_lt h) l)
theorem reg_append (r:Nat) (a b:List UInt8):reg r (a++b)=reg (reg r a) b:=List.foldl_append ..
theorem tab_step:∀ (i:Fin 8) (j:Fin 128),j.val < 2 ^ i.val→s8 (2 ^ i.val ||| j.val)=s8 j.val ^^^ (#[1996959894,3993919788,124634137,249268274,498536548,997073096,1994146192,3988292384]:Array Nat)[i]:=by decide +kernel
def le4 (s:Nat):List UInt8:=[UInt8.ofNat (s % 256),UInt8.ofNat (s / 256 % 256),UInt8.ofNat (s / 65536 % 256),UInt8.ofNat (s / 16777216 % 256)]
def un4 (l:List UInt8):Nat:=(l.getD 0 0).toNat+256 * (l.getD 1 0).toNat+65536 * (l.getD 2 0).toNat+16777216 * (l.getD 3 0).toNat
theorem un4_le4 {s:Nat} (h:s < 4294967296) (more:List UInt8):un4 (le4 s++more)=s:=by
 simp only [le4,un4,List.cons_append,List.nil_append,List.getD_cons_zero,List.getD_cons_succ]
 rw [ofNat_toNat (by omega),ofNat_toNat (by omega),ofNat_toNat (by omega),ofNat_toNat (by omega)]
 omega
theorem le4_un4 (a b c d:UInt8) (r:List UInt8):le4 (un4 (a :: b :: c :: d :: r))=[a,b,c,d]:=by
 have h0:=a.toNat_lt
 have h1:=b.toNat_lt
 have h2:=c.toNat_lt
 have h3:=d.toNat_lt
 simp only [le4,un4,List.getD_cons_zero,List.getD_cons_succ]
 congr 1
 ·apply UInt8.toNat_inj.1
  rw [ofNat_toNat (by omega)]
  omega
 ·congr 1
  ·apply UInt8.toNat_inj.1
   rw [ofNat_toNat (by omega)]
   omega
  ·congr 1
   ·apply UInt8.toNat_inj.1
    rw [ofNat_toNat (by omega)]
    omega
   ·congr 1
    apply UInt8.toNat_inj.1
    rw [ofNat_toNat (by omega)]
    omega
theorem le4_len (s:Nat):(le4 s).length=4:=rfl
theorem four {l:List UInt8} (h:4≤l.length):∃ a b c d r,l=a :: b :: c :: d :: r:=by
 match l,h with
 | a :: b :: c :: d :: r,_=>exact ⟨a,b,c,d,r,rfl⟩
theorem sumN_lt (l:List UInt8):sumN l < 4294967296:=moreN_lt (by decide) l
def putF (b:List UInt8):List UInt8:=putL b.length++(le4 (sumN b)++b)
def getF (c:List UInt8):List UInt8×Nat×Int:=
 if (getL c).2.2≠0 then ([],0,(getL c).2.2)
 else if 262144 < (getL c).1 then ([],0,32)
 else if c.length < (getL c).2.1+4+(getL c).1 then ([],0,31)
 else if sumN ((c.drop ((getL c).2.1+4)).take (getL c).1)≠un4 (c.drop (getL c).2.1) then ([],0,41)
 else ((c.drop ((getL c).2.1+4)).take (getL c).1,(getL c).2.1+4+(getL c).1,0)
theorem putF_len (b:List UInt8):(putF b).length=(putL b.length).length+4+b.length:=by
 simp only [putF,List.length_append,le4_len]
 omega
theorem putF_pos (b:List UInt8):0 < (putF b).length:=by rw [putF_len];omega
theorem getF_put (b:List UInt8) (hb:b.length≤262144) (more:List UInt8):getF (putF b++more)=(b,(putF b).length,0):=by
 have hg:getL (putF b++more)=(b.length,(putL b.length).length,0):=by
  unfold putF
  rw [List.append_assoc]
  exact getL_put (by omega) _
 have h1:(putF b++more).drop (putL b.length).length=le4 (sumN b)++(b++more):=by
  unfold putF
  rw [List.append_assoc,List.append_assoc]
  simp
 have h2:(putF b++more).drop ((putL b.length).length+4)=b++more:=by
  rw [← List.drop_drop,h1]
  rfl
 unfold getF
 rw [hg]
 simp only
 rw [if_neg (by simp),if_neg (by omega),if_neg (by rw [List.length_append,putF_len];omega),h1,h2,un4_le4 (sumN_lt b)]
 rw [List.take_append_of_le_length (Nat.le_refl _),List.take_length,if_neg (by simp),putF_len]
theorem getF_inv {c x:List UInt8} {m:Nat} (h:getF c=(x,m,0)):0 < m∧m≤c.length∧c.take m=putF x∧x.length≤262144:=by
 unfold getF at h
 rcases hg:getL c with ⟨n,k,e⟩
 rw [hg] at h
 simp only at h
 split at h
 ·rename_i he
  simp only [Prod.mk.injEq] at h
  exact absurd h.2.2 he
 rename_i he
 have he0:e=0:=by simpa using he
 subst he0
 split at h
 ·simp at h
 rename_i hn
 split at h
 ·simp at h
 rename_i hl
 split at h
 ·simp at h
 rename_i hs
 simp only [Prod.mk.injEq,and_true] at h
 obtain ⟨hx,rfl⟩:=h
 obtain ⟨g1,g2,g3,g4,g5⟩:=getL_inv hg
 have hxl:x.length=n:=by rw [← hx];simp;omega
 refine ⟨by omega,by omega,?_,by omega⟩
 obtain ⟨a,b,c',d,r,hd⟩:=four (l:=c.drop k) (by simp;omega)
 have hd4:c.drop (k+4)=r:=by rw [← List.drop_drop,hd];rfl
 have hs':sumN x=un4 (c.drop k):=by
  rw [← hx]
  exact Decidable.not_not.1 hs
 have e1:c.take (k+4+n)=c.take k++(c.drop k).take (4+n):=by rw [Nat.add_assoc,List.take_add]
 rw [e1,g4,putF,hxl]
 congr 1
 rw [hs',hd,le4_un4,Nat.add_comm 4 n]
 simp only [List.take_succ_cons]
 rw [hd4] at hx
 rw [hx]
 rfl
def allAux:Nat→List UInt8→List (List UInt8)→List (List UInt8)×Int
 | 0,_,acc=>(acc,0)
 | f+1,c,acc=>if c.length=0 then (acc,0) else if (getF c).2.2≠0 then ([],(getF c).2.2) else allAux f (c.drop (getF c).2.1) (acc++[(getF c).1])
def allF (c:List UInt8):List (List UInt8)×Int:=allAux c.length c []
def wholeAux:Nat→Nat→List UInt8→List (List UInt8)→List (List UInt8)×Nat
 | 0,at_,_,acc=>(acc,at_)
 | f+1,at_,c,acc=>if c.length=0 then (acc,at_) else if (getF c).2.2≠0 then (acc,at_) else wholeAux f (at_+(getF c).2.1) (c.drop (getF c).2.1) (acc++[(getF c).1])
def wholeF (c:List UInt8):List (List UInt8)×Nat:=wholeAux c.length 0 c []
def Short (L:List (List UInt8)):Prop:=∀ x∈L,x.length≤262144
theorem allAux_put (L:List (List UInt8)) (hL:Short L):∀ (f:Nat) (c:List UInt8) (acc:List (List UInt8)),(L.flatMap putF).length+c.length≤f→∃ f',c.length≤f'∧allAux f (L.flatMap putF++c) acc=allAux f' c (acc++L):=by
 induction L with
 | nil=>intro f c acc hf;exact ⟨f,by simpa using hf,by simp⟩
 | cons x r ih=>
  intro f c acc hf
  simp only [List.flatMap_cons,List.length_append] at hf
  have hp:=putF_pos x
  cases f with
  | zero=>omega
  | succ f=>
   have hg:=getF_put x (hL x (List.mem_cons_self ..)) (r.flatMap putF++c)
   obtain ⟨f',h1,h2⟩:=ih (fun y hy=>hL y (List.mem_cons_of_mem _ hy)) f c (acc++[x]) (by omega)
   refine ⟨f',h1,?_⟩
   simp only [List.flatMap_cons,List.append_assoc,allAux,hg]
   rw [if_neg (by simp only [List.length_append];omega),if_neg (by simp)]
   rw [List.drop_append_of_le_length (Nat.le_refl _),List.drop_length,List.nil_append,h2]
   simp
theorem allF_put (L:List (List UInt8)) (hL:Short L):allF (L.flatMap putF)=(L,0):=by
 obtain ⟨f',_,h2⟩:=allAux_put L hL (L.flatMap putF).length [] [] (by simp)
 rw [List.append_nil] at h2
 unfold allF
 rw [h2]
 cases f' <;> simp [allAux]
end Go.Proofs.YthcjikpabpgpfaaGreat
