import Derived.Test.YthcjikpabpgpfaaGreatZp0
set_option linter.unusedSimpArgs false
set_option maxHeartbeats 16000000
set_option maxRecDepth 100000
namespace Go.Proofs.YthcjikpabpgpfaaGreat
theorem Zzw {n:Nat} (h:¬ n<128):n/128<n:=Nat.div_lt_self (by omega) (by omega)
def putL (n:Nat):List UInt8:=if h:n<128 then [UInt8.ofNat n] else UInt8.ofNat (n % 128+128) :: putL (n/128)
termination_by n
decreasing_by exact Zzw h
theorem Zez {n:Nat} (h:n<128):putL n=[UInt8.ofNat n]:=by
 rw[putL,dif_pos h]
theorem Zii {n:Nat} (h:¬ n<128):putL n=UInt8.ofNat (n % 128+128) :: putL (n/128):=by
 rw[putL,dif_neg h]
def Zdg:Nat->Nat->List UInt8->Nat×Nat×Int
 | _,_,[]=>(0,0,31)
 | i,acc,c :: r=>
  if (i=9/\1<c.toNat)\/(c.toNat=0/\0<i) then (0,0,32)
  else if c.toNat<128 then (acc+c.toNat % 128*2 ^ (7*i),i+1,0)
  else Zdg (i+1) (acc+c.toNat % 128*2 ^ (7*i)) r
def getL (l:List UInt8):Nat×Nat×Int:=Zdg 0 0 l
theorem Zau {n:Nat} (h:n<256):(UInt8.ofNat n).toNat=n:=Yaa (by show _<256;omega)
theorem pow7 (i:Nat):2 ^ (7*(i+1))=128*2 ^ (7*i):=by rw[Nat.mul_add,Nat.pow_add];omega
theorem Zeo (n:Nat):0<(putL n).length:=by
 by_cases h:n<128
 ·rw[Zez h];simp
 ·rw[Zii h];simp
theorem Qcl (n p:Nat):n % 128*p+n/128*(128*p)=n*p:=by
 have h:=Nat.div_add_mod n 128;have e:n*p=(128*(n/128)+n % 128)*p:=by rw[h]
 rw[e,Nat.add_mul,Nat.add_comm,<- Nat.mul_assoc,Nat.mul_comm (n/128) 128]
theorem Zjk {n i:Nat} (h:n*2 ^ (7*i)<2 ^ 64) (hi:9<=i):n<2:=by
 have h1:2 ^ 63<=2 ^ (7*i):=Nat.pow_le_pow_right (by omega) (by omega);rcases Yab n 2 with h2|h2
 ·exact h2
 ·have:=Nat.mul_le_mul h2 h1
  omega
theorem Zu6 (n:Nat):∀ (i acc:Nat) (more:List UInt8),n*2 ^ (7*i)<2 ^ 64->(0<i->0<n)->
  Zdg i acc (putL n++more)=(acc+n*2 ^ (7*i),i+(putL n).length,0):=by
 induction n using Nat.strongRecOn with
 | _ n ih=>
  intro i acc more hn hp;by_cases h:n<128
  ·rw[Zez h]
   have e:(UInt8.ofNat n).toNat=n:=Zau (by omega);simp only[Yac,Yad,Zdg,e,Yae];rw[Yaf,Yag h,Nat.mod_eq_of_lt h];rintro(⟨h1,h2⟩|⟨h1,h2⟩)
   ·have:=Zjk hn (by omega)
    omega
   ·have:=hp h2
    omega
  ·rw[Zii h]
   have e:(UInt8.ofNat (n % 128+128)).toNat=n % 128+128:=Zau (by omega);simp only[Yac,Zdg,e,Yah];rw[Yaf,Yaf (by omega)]
   ·rw[ih (n/128) (Zzw h) (i+1) _ more]
    ·rw[pow7,Nat.add_mod_right,Nat.mod_mod,Nat.add_assoc,Qcl,Nat.add_assoc,Nat.add_comm 1]
    ·rw[pow7]
     have:=Qcl n (2 ^ (7*i))
     omega
    ·intro _
     omega
   ·rintro(⟨h1,h2⟩|⟨h1,h2⟩)
    ·have:=Zjk hn (by omega)
     omega
    ·omega
theorem Zcz {n:Nat} (hn:n<2 ^ 64) (more:List UInt8):getL (putL n++more)=(n,(putL n).length,0):=by
 have:=Zu6 n 0 0 more (by simpa using hn) (by omega)
 simpa[getL]using this
theorem Zl8:∀ (l:List UInt8) (i acc v k:Nat),Zdg i acc l=(v,k,0)->i<=9->
  ∃ n,v=acc+n*2 ^ (7*i)/\i<k/\k<=10/\k<=i+l.length/\l.take (k-i)=putL n/\(0<i->0<n)/\n*2 ^ (7*i)+2 ^ (7*i)<=2 ^ 64
 | [],i,acc,v,k,h,_=>by simp[Zdg]at h
 | c :: r,i,acc,v,k,h,hi=>by
  have hc:=c.toNat_lt;simp only[Zdg]at h;split at h
  ·simp at h
  ·rename_i hn
   have hn1:i=9->c.toNat<=1:=λe=>by
    rcases Yab 1 c.toNat with h1|h1
    ·exact absurd (Or.inl ⟨e,h1⟩) hn
    ·exact h1
   have hn2:0<i->0<c.toNat:=λe=>by
    rcases Yai c.toNat with h1|h1
    ·exact absurd (Or.inr ⟨h1,e⟩) hn
    ·exact h1
   split at h
   ·rename_i hs
    simp only[Prod.mk.injEq,and_true]at h;obtain⟨rfl,rfl⟩:=h;refine⟨c.toNat,by rw[Nat.mod_eq_of_lt hs],by omega,by omega,by simp,?_,hn2,?_⟩
    ·rw[show i+1-i=1 by omega,Zez hs]
     simp
    ·rcases Yab i 9 with h9|h9
     ·have h1:2 ^ (7*i)<=2 ^ 56:=Nat.pow_le_pow_right (by omega) (by omega)
      have h2:=Nat.mul_le_mul (show c.toNat+1<=128 by omega) h1;rw[Nat.add_mul]at h2;omega
     ·obtain rfl:i=9:=by omega
      have:=hn1 rfl
      omega
   ·rename_i hs
    have hi9:i≠9:=λe=>by have:=hn1 e;omega
    obtain⟨n,h1,h2,h3,h4,h5,h6,h7⟩:=Zl8 r (i+1) _ v k h (by omega);have hn0:=h6 (by omega);refine⟨c.toNat % 128+128*n,?_,by omega,h3,by simp;omega,?_,λ_=>(by clear h1 h7;omega),?_⟩
    ·rw[h1,pow7,Nat.add_assoc,Nat.add_mul,Nat.mul_assoc,Nat.mul_left_comm n 128]
    ·rw[show k-i=(k-(i+1))+1 by omega,Yaj,h5,Zii (n:=c.toNat % 128+128*n) (by omega)]
     have e1:(c.toNat % 128+128*n) % 128=c.toNat % 128:=by omega
     have e2:(c.toNat % 128+128*n)/128=n:=by omega
     rw[e1,e2];congr 1;apply UInt8.toNat_inj.1;rw[Zau (by omega)];omega
    ·rw[pow7]at h7
     have h8:c.toNat % 128+1<=128:=by omega
     have h9:=Yak (2 ^ (7*i)) h8;rw[Nat.add_mul]at h9 ⊢;rw[Nat.mul_left_comm]at h7;rw[Nat.mul_assoc];omega
theorem Zby {l:List UInt8} {v k:Nat} (h:getL l=(v,k,0)):0<k/\k<=10/\k<=l.length/\l.take k=putL v/\v<2 ^ 64:=by
 obtain⟨n,h1,h2,h3,h4,h5,_,h7⟩:=Zl8 l 0 0 v k h (by omega);simp at h1 h4 h5 h7;subst h1;exact⟨h2,h3,h4,h5,by omega⟩
theorem Zao (n:Nat) (hn:n<2 ^ 64):(putL n).length<=10:=(Zby (Zcz hn [])).2.1
def gaps:Int->List Int->List Nat
 | _,[]=>[]
 | p,x :: r=>(x-p-1).toNat :: gaps x r
def Za4:Int->List Int->Bool
 | _,[]=>true
 | p,x :: r=>decide (p<x)&&Za4 x r
def Zbl (l:List Nat):List UInt8:=l.flatMap putL
def putR (l:List Int):List UInt8:=putL l.length++Zbl (gaps (-1) l)
def Zdf:Nat->Int->Nat->List UInt8->List Int->List Int×Nat×Int
 | 0,_,at_,_,acc=>(acc,at_,0)
 | m+1,p,at_,b,acc=>
  if (getL b).2.2≠0 then ([],0,(getL b).2.2)
  else if 9223372036854775807<p+(getL b).1+1 then ([],0,32)
  else Zdf m (p+(getL b).1+1) (at_+(getL b).2.1) (b.drop (getL b).2.1) (acc++[p+(getL b).1+1])
def getR (b:List UInt8) (most:Int):List Int×Nat×Int:=
 if (getL b).2.2≠0 then ([],0,(getL b).2.2)
 else if most<0\/most<((getL b).1:Int) then ([],0,2)
 else Zdf (getL b).1 (-1) (getL b).2.1 (b.drop (getL b).2.1) []
theorem Qaw (l:List Int):∀ p,(gaps p l).length=l.length:=by
 induction l with
 | nil=>intro p;rfl
 | cons x r ih=>intro p;simp[gaps,ih x]
theorem Zeb {n:Nat} (more:List UInt8):(putL n++more).drop (putL n).length=more:=by
 simp
theorem Zqs (l:List Int):∀ (p:Int) (at_:Nat) (more:List UInt8) (acc:List Int),-1<=p->Za4 p l=true->(∀ x∈l,x<=9223372036854775807)->
  Zdf l.length p at_ (Zbl (gaps p l)++more) acc=(acc++l,at_+(Zbl (gaps p l)).length,0):=by
 induction l with
 | nil=>intro p at_ more acc _ _ _;simp[Zdf,gaps,Zbl]
 | cons x r ih=>
  intro p at_ more acc hp hr hx;simp only[Za4,Yal,decide_eq_true_eq]at hr;have hxm:=hx x (Yam ..);have hn:(x-p-1).toNat<2 ^ 64:=by omega
  have hg:getL (Zbl (gaps p (x :: r))++more)=((x-p-1).toNat,(putL (x-p-1).toNat).length,0):=by
   simp only[gaps,Zbl,Yan,Yao];exact Zcz hn _
  simp only[Yah,Zdf,hg];rw[Yaf (by simp),Yaf (by omega)];have e:p+(x-p-1).toNat+1=x:=by omega
  rw[e];have hd:(Zbl (gaps p (x :: r))++more).drop (putL (x-p-1).toNat).length=Zbl (gaps x r)++more:=by
   simp only[gaps,Zbl,Yan,Yao];exact Zeb _
  rw[hd,ih x _ more _ (by omega) hr.2 (λy hy=>hx y (Yap _ hy))];simp only[gaps,Zbl,Yan,Yaq,Yao,Yac,Yad];rw[Nat.add_assoc]
theorem Zjx (l:List Int) (hl:l.length<2 ^ 63) (hr:Za4 (-1) l=true) (hx:∀ x∈l,x<=9223372036854775807) (more:List UInt8) (most:Int) (hm:(l.length:Int)<=most):
  getR (putR l++more) most=(l,(putR l).length,0):=by
 have hg:getL (putR l++more)=(l.length,(putL l.length).length,0):=by
  unfold putR;rw[Yao];exact Zcz (by omega) _
 unfold getR;rw[hg];simp only;rw[Yaf (by simp),Yaf (by omega)];have hd:(putR l++more).drop (putL l.length).length=Zbl (gaps (-1) l)++more:=by
  unfold putR;rw[Yao];exact Zeb _
 rw[hd,Zqs l (-1) _ more [] (by omega) hr hx];simp[putR]
theorem Zlg:∀ (m:Nat) (p:Int) (at_:Nat) (b:List UInt8) (acc:List Int) (l:List Int) (k:Nat),Zdf m p at_ b acc=(l,k,0)->-1<=p->
  ∃ r,l=acc++r/\r.length=m/\Za4 p r=true/\(∀ x∈r,x<=9223372036854775807)/\at_<=k/\k<=at_+b.length/\b.take (k-at_)=Zbl (gaps p r)
 | 0,p,at_,b,acc,l,k,h,_=>by
  simp only[Zdf,Prod.mk.injEq,and_true]at h;obtain⟨rfl,rfl⟩:=h;exact⟨[],by simp,rfl,rfl,by simp,Yar _,by omega,by simp[gaps,Zbl]⟩
 | m+1,p,at_,b,acc,l,k,h,hp=>by
  simp only[Zdf]at h;split at h
  ·rename_i he
   simp only[Prod.mk.injEq]at h;exact absurd h.2.2 he
  ·rename_i he
   split at h
   ·simp at h
   ·rename_i ho
    rcases hgl:getL b with⟨n,j,e⟩
    rw[hgl]at h he ho;simp only at h he ho;have he0:e=0:=by
     rcases Int.lt_trichotomy e 0 with h1|h1|h1
     ·exact absurd (show e≠0 by omega) he
     ·exact h1
     ·exact absurd (show e≠0 by omega) he
    subst he0;obtain⟨g1,g2,g3,g4,g5⟩:=Zby hgl;obtain⟨r,h1,h2,h3,h4,h5,h6,h7⟩:=Zlg m _ _ _ _ l k h (by omega);refine⟨(p+n+1) :: r,by rw[h1];simp,by simp[h2],by simp[Za4,h3];omega,λx hx=>?_,by omega,by rw[Yas]at h6;omega,?_⟩
    ·rcases Yat.1 hx with rfl|hx
     ·omega
     ·exact h4 x hx
    ·have e1:(p+n+1-p-1).toNat=n:=by omega
     simp only[gaps,Zbl,Yan,e1];have e2:b=putL n++b.drop j:=by rw[<- g4,Yau]
     have e3:(putL n).length=j:=by rw[<- g4];simp;omega
     rw[e2,List.take_append];rw[Yav (by omega),e3,show k-at_-j=k-(at_+j) by omega,h7];rfl
theorem Zs9 {b:List UInt8} {most:Int} {l:List Int} {k:Nat} (h:getR b most=(l,k,0)):
  Za4 (-1) l=true/\(∀ x∈l,x<=9223372036854775807)/\k<=b.length/\b.take k=putR l/\(l.length:Int)<=most:=by
 unfold getR at h;split at h
 ·rename_i he
  simp only[Prod.mk.injEq]at h;exact absurd h.2.2 he
 ·rename_i he
  split at h
  ·simp at h
  ·rename_i hm
   rcases hgl:getL b with⟨n,j,e⟩
   rw[hgl]at h he hm;simp only at h he hm;have he0:e=0:=by
    rcases Int.lt_trichotomy e 0 with h1|h1|h1
    ·exact absurd (show e≠0 by omega) he
    ·exact h1
    ·exact absurd (show e≠0 by omega) he
   subst he0;obtain⟨g1,g2,g3,g4,g5⟩:=Zby hgl;obtain⟨r,h1,h2,h3,h4,h5,h6,h7⟩:=Zlg n _ _ _ _ l k h (by omega);rw[Yad]at h1;subst h1;refine⟨h3,h4,by rw[Yas]at h6;omega,?_,by rw[h2];omega⟩;have e2:b=putL n++b.drop j:=by rw[<- g4,Yau]
   have e3:(putL n).length=j:=by rw[<- g4];simp;omega
   rw[e2,List.take_append,Yav (by omega),e3,h7,putR,h2]
theorem Qca (l:List Int):∀ p,Za4 p l=true↔∀ (i:Nat) (x:Int),l[i]?=some x->(if i=0 then p else l.getD (i-1) 0)<x:=by
 induction l with
 | nil=>intro p;simp[Za4]
 | cons y r ih=>
  intro p;simp only[Za4,Yal,decide_eq_true_eq,ih y];constructor
  ·rintro⟨h1,h2⟩ i x hx
   cases i with
   | zero=>simp at hx;subst hx;simpa using h1
   | succ i=>
    have h:=h2 i x (by simpa using hx);rw[Yaf (by omega)];cases i with
    | zero=>simpa using h
    | succ i=>simpa using h
  ·intro h
   refine⟨by simpa using h 0 y rfl,λi x hx=>?_⟩;have:=h (i+1) x (by simpa using hx)
   cases i with
   | zero=>simpa using this
   | succ i=>simpa using this
structure Rd where
 bs:List UInt8
 p:Nat
 e:Int
def rInt (s:Rd) (most:Int):Int×Rd:=
 if s.e≠0 then (0,s)
 else if (getL (s.bs.drop s.p)).2.2≠0 then (0,{ s with e:=(getL (s.bs.drop s.p)).2.2 })
 else if most<0\/most<((getL (s.bs.drop s.p)).1:Int) then (0,{ s with e:=32 })
 else ((getL (s.bs.drop s.p)).1,{ s with p:=s.p+(getL (s.bs.drop s.p)).2.1 })
def Zbd (s:Rd) (n:Int):List UInt8×Rd:=
 if s.e≠0\/n<=0 then ([],s)
 else if (s.bs.length:Int)-s.p<n then ([],{ s with e:=31 })
 else ((s.bs.drop s.p).take n.toNat,{ s with p:=s.p+n.toNat })
def Zek (s:Rd) (most:Int):List UInt8×Rd:=Zbd (rInt s most).2 (rInt s most).1
def Zbt (s:Rd):Nat:=if s.e≠0 then 0 else s.bs.length-s.p
structure Rd.Ok (s:Rd):Prop where
 place:s.p<=s.bs.length
theorem Zv9 {s:Rd} (h:s.Ok) (most:Int):(rInt s most).2.Ok/\(rInt s most).2.bs=s.bs:=by
 unfold rInt;split
 ·exact⟨h,rfl⟩
 ·split
  ·exact⟨⟨h.place⟩,rfl⟩
  ·split
   ·exact⟨⟨h.place⟩,rfl⟩
   ·rename_i he _
    refine⟨⟨?_⟩,rfl⟩;rcases hg:getL (s.bs.drop s.p)with⟨v,k,e⟩
    rw[hg]at he;have he0:e=0:=by simpa using he
    subst he0;have h3:=(Zby hg).2.2.1;have:=h.place
    simp only[Yas]at h3 ⊢;omega
theorem Zw1 {s:Rd} (h:s.Ok) (n:Int):(Zbd s n).2.Ok/\(Zbd s n).2.bs=s.bs:=by
 have:=h.place
 unfold Zbd;split
 ·exact⟨h,rfl⟩
 ·split
  ·exact⟨⟨h.place⟩,rfl⟩
  ·exact⟨⟨by simp only;omega⟩,rfl⟩
theorem Qa4 {s:Rd} (h:s.Ok) (most:Int):(Zek s most).2.Ok/\(Zek s most).2.bs=s.bs:=by
 have h1:=Zv9 h most;have h2:=Zw1 h1.1 (rInt s most).1;exact⟨h2.1,h2.2.trans h1.2⟩
abbrev Pst:=Int×List (Int×Int)
def poss (s:List (Int×Int)):List Int:=s.map (·.1)
def atss (s:List (Int×Int)):List Int:=s.map (·.2)
def pAt (l:List Pst) (i:Nat):Pst:=l.getD i (0,[])
def Zaq (l:List Pst) (i:Nat):Int:=if i=0 then -1 else (pAt l (i-1)).1
def Zbh (l:List Pst) (i:Nat):List UInt8:=putL ((pAt l i).1-Zaq l i-1).toNat++(putR (poss (pAt l i).2)++putR (atss (pAt l i).2))
def cat (f:Nat->List UInt8) (a:Nat):Nat->List UInt8
 | 0=>[]
 | k+1=>cat f a k++f (a+k)
def Zdl (l:List Pst) (f t:Nat) (b:List UInt8):List UInt8:=putL ((pAt l (t-1)).1-Zaq l f-1).toNat++putL b.length
def Zfy (l:List Pst) (i:Nat):List UInt8:=Zdl l i (min l.length (i+4)) (cat (Zbh l) i (min l.length (i+4)-i))
def linB (l:List Pst) (i:Nat):List UInt8:=(if i % 4=0 then Zfy l i else [])++Zbh l i
def Zge (l:List Pst) (i:Nat):List UInt8:=Zdl l i (min l.length (i+16)) (cat (linB l) i (min l.length (i+16)-i))
def lin (l:List Pst) (i:Nat):List UInt8:=(if i % 16=0 then Zge l i else [])++linB l i
def putP (l:List Pst):List UInt8:=putL l.length++cat (lin l) 0 l.length
theorem Zen (f:Nat->List UInt8) (a k:Nat):cat f a (k+1)=f a++cat f (a+1) k:=by
 induction k with
 | zero=>simp[cat]
 | succ k ih=>
  rw[cat,ih,cat,Yao,show a+(k+1)=a+1+k by omega]
theorem Zhp (f:Nat->List UInt8) (a j k:Nat):cat f a (j+k)=cat f a j++cat f (a+j) k:=by
 induction k with
 | zero=>simp[cat]
 | succ k ih=>rw[<- Nat.add_assoc,cat,ih,cat,Yao,show a+(j+k)=a+j+k by omega]
theorem Zky {f g:Nat->List UInt8} {a k:Nat} (h:∀ i,a<=i->i<a+k->f i=g i):cat f a k=cat g a k:=by
 induction k with
 | zero=>rfl
 | succ k ih=>rw[cat,cat,ih λi h1 h2=>h i h1 (by omega),h (a+k) (by omega) (by omega)]
theorem Zru (f:Nat->List UInt8) (a k m:Nat) (h:∀ i,a<=i->i<a+k->(f i).length<=m):(cat f a k).length<=m*k:=by
 induction k with
 | zero=>simp[cat]
 | succ k ih=>
  have h1:=ih λi h2 h3=>h i h2 (by omega);have h2:=h (a+k) (by omega) (by omega);rw[cat,Yaq,Nat.mul_succ];omega
theorem Zh1 (l:List Pst) {i k:Nat} (hi:i % 4=0) (hk:0<k) (hk4:k<=4):cat (linB l) i k=Zfy l i++cat (Zbh l) i k:=by
 obtain⟨k,rfl⟩:∃ q,k=q+1:=⟨k-1,by omega⟩
 rw[Zen,Zen,linB,Yag hi,Yao];congr 2;exact Zky λj h1 h2=>by rw[linB,Yaf (by omega)];rfl
theorem Zh8 (l:List Pst) {i k:Nat} (hi:i % 16=0) (hk:0<k) (hk4:k<=16):cat (lin l) i k=Zge l i++cat (linB l) i k:=by
 obtain⟨k,rfl⟩:∃ q,k=q+1:=⟨k-1,by omega⟩
 rw[Zen,Zen,lin,Yag hi,Yao];congr 2;exact Zky λj h1 h2=>by rw[lin,Yaf (by omega)];rfl
structure ValidP (l:List Pst):Prop where
 few:l.length<=4096
 spots:∀ x∈l,x.2.length<=4096
 some:∀ x∈l,0<x.2.length
 docs:∀ x∈l,0<=x.1/\x.1<=4294967296
 up:∀ i,i<l.length->Zaq l i<(pAt l i).1
 pos:∀ x∈l,Za4 (-1) (poss x.2)=true
 at_:∀ x∈l,Za4 (-1) (atss x.2)=true
 fit:∀ x∈l,∀ s∈x.2,s.1<=9223372036854775807/\s.2<=9223372036854775807
theorem Zay {l:List Pst} {i:Nat} (h:i<l.length):pAt l i∈l:=by
 unfold pAt;rw[Yaw,Yax h];exact Yay h
theorem ValidP.last {l:List Pst} (h:ValidP l) {i:Nat} (hi:i<=l.length):-1<=Zaq l i/\Zaq l i<=4294967296:=by
 unfold Zaq;split
 ·omega
 ·have:=h.docs _ (Zay (show i-1<l.length by omega))
  omega
theorem Zhv {s:List (Int×Int)} (h:∀ x∈s,x.1<=9223372036854775807/\x.2<=9223372036854775807):(∀ y∈poss s,y<=9223372036854775807)/\∀ y∈atss s,y<=9223372036854775807:=by
 constructor
 ·intro y hy
  obtain⟨x,hx,rfl⟩:=Yaz.1 hy;exact(h x hx).1
 ·intro y hy
  obtain⟨x,hx,rfl⟩:=Yaz.1 hy;exact(h x hx).2
theorem Zcx (s:List (Int×Int)):(poss s).length=s.length/\(atss s).length=s.length:=by simp[poss,atss]
theorem Zg4 {l:List Pst} (hl:ValidP l) {f t:Nat} (ht:t<=l.length) (hf:f<=l.length):((pAt l (t-1)).1-Zaq l f-1).toNat<2 ^ 64:=by
 have w1:=hl.last hf;rcases Yai l.length with h0|h0
 ·have:l=[]:=Ya0 h0
  subst this;simp[pAt];omega
 ·have:=hl.docs _ (Zay (show t-1<l.length by omega))
  omega
theorem Zf6 (l:List Int):∀ p:Int,-1<=p->Za4 p l=true->(∀ x∈l,x<=9223372036854775807)->(Zbl (gaps p l)).length<=10*l.length:=by
 induction l with
 | nil=>intro p _ _ _;simp[gaps,Zbl]
 | cons x l ih=>
  intro p hp hr h;simp only[Za4,Yal,decide_eq_true_eq]at hr;have hx:=h x (Yam ..);have h1:=Zao (x-p-1).toNat (by omega);have:=ih x (by omega) hr.2 λy hy=>h y (Yap _ hy)
  simp only[gaps,Zbl,Yan,Yaq,Yah]at this ⊢;omega
theorem Zep {l:List Int} (hn:l.length<=4096) (hr:Za4 (-1) l=true) (h:∀ x∈l,x<=9223372036854775807):(putR l).length<=40970:=by
 have h1:=Zf6 l (-1) (by omega) hr h;have h2:=Zao l.length (by omega);unfold putR;rw[Yaq];omega
theorem Zts {l:List Pst} (hl:ValidP l) {i:Nat} (hi:i<l.length):(Zbh l i).length<=90000:=by
 have p1:=Zhv (hl.fit _ (Zay hi));have n1:=Zcx (pAt l i).2;have s1:=hl.spots _ (Zay hi);have h1:=Zep (by omega) (hl.pos _ (Zay hi)) p1.1;have h2:=Zep (by omega) (hl.at_ _ (Zay hi)) p1.2;have q1:=hl.docs _ (Zay hi);have w1:=hl.last (Nat.le_of_lt hi);have h3:=Zao ((pAt l i).1-Zaq l i-1).toNat (by omega);unfold Zbh;simp only[Yaq];omega
theorem Zd1 {l:List Pst} (hl:ValidP l) {i k:Nat} (h:i+k<=l.length):(cat (Zbh l) i k).length<=90000*k:=Zru _ _ _ _ λj h1 h2=>Zts hl (by omega)
theorem Zp9 {l:List Pst} (hl:ValidP l) {i:Nat} (hi:i<l.length):(Zfy l i).length<=20:=by
 have h1:=Zd1 hl (i:=i) (k:=min l.length (i+4)-i) (by omega);unfold Zfy Zdl;have h2:=Zao _ (Zg4 hl (f:=i) (t:=min l.length (i+4)) (by omega) (by omega));have h3:=Zao (cat (Zbh l) i (min l.length (i+4)-i)).length (by omega);rw[Yaq];omega
theorem Zs5 {l:List Pst} (hl:ValidP l) {i:Nat} (hi:i<l.length):(linB l i).length<=90020:=by
 have h1:=Zts hl hi;have h2:=Zp9 hl hi;unfold linB;rw[Yaq];split
 ·omega
 ·simp;omega
theorem Zd2 {l:List Pst} (hl:ValidP l) {i k:Nat} (h:i+k<=l.length):(cat (linB l) i k).length<=90020*k:=Zru _ _ _ _ λj h1 h2=>Zs5 hl (by omega)
theorem Zn1 {l:List Pst} (hl:ValidP l) {i:Nat} (hi:i<l.length):(Zge l i).length<=20:=by
 have h1:=Zd2 hl (i:=i) (k:=min l.length (i+16)-i) (by omega);unfold Zge Zdl;have h2:=Zao _ (Zg4 hl (f:=i) (t:=min l.length (i+16)) (by omega) (by omega));have h3:=Zao (cat (linB l) i (min l.length (i+16)-i)).length (by omega);rw[Yaq];omega
theorem Qdt {l:List Pst} (hl:ValidP l) {i:Nat} (hi:i<l.length):(lin l i).length<=90040:=by
 have h1:=Zs5 hl hi;have h2:=Zn1 hl hi;unfold lin;rw[Yaq];split
 ·omega
 ·simp;omega
theorem Zid {l:List Pst} (hl:ValidP l) {i k:Nat} (h:i+k<=l.length):(cat (lin l) i k).length<=90040*k:=Zru _ _ _ _ λj h1 h2=>Qdt hl (by omega)
theorem Zsm {l:List Pst} (hl:ValidP l):(putP l).length<=368803860:=by
 have h1:=Zid hl (i:=0) (k:=l.length) (by omega);have h2:=hl.few;have h3:=Zao l.length (by omega);unfold putP;rw[Yaq];omega
def okAt (l:List Pst) (i:Nat):Bool:=decide (0<=(pAt l i).1)&&(decide ((pAt l i).1<=4294967296)&&(decide (Zaq l i<(pAt l i).1)&&(decide (0<(pAt l i).2.length)&&(Za4 (-1) (poss (pAt l i).2)&&Za4 (-1) (atss (pAt l i).2)))))
def okUp (l:List Pst):Nat->Bool
 | 0=>true
 | i+1=>okUp l i&&okAt l i
def Zcv (l:List Pst):Nat->Bool
 | 0=>false
 | i+1=>Zcv l i||decide (4096<(pAt l i).2.length)
def Zb3 (l:List Pst):Int:=if 4096<l.length then 2 else if Zcv l l.length then 2 else if okUp l l.length then 0 else 1
def FitP (l:List Pst):Prop:=∀ x∈l,∀ s∈x.2,s.1<=9223372036854775807/\s.2<=9223372036854775807
theorem okUp_iff {l:List Pst} {n:Nat}:okUp l n=true↔∀ i,i<n->okAt l i=true:=by
 induction n with
 | zero=>simp[okUp]
 | succ n ih=>
  rw[okUp,Yal,ih];constructor
  ·rintro⟨h1,h2⟩ i hi
   rcases Yab i n with h|h
   ·exact h1 i h
   ·obtain rfl:i=n:=by omega
    exact h2
  ·exact λh=>⟨λi hi=>h i (by omega),h n (by omega)⟩
theorem manyUp_iff {l:List Pst} {n:Nat}:Zcv l n=false↔∀ i,i<n->(pAt l i).2.length<=4096:=by
 induction n with
 | zero=>simp[Zcv]
 | succ n ih=>
  rw[Zcv,Bool.or_eq_false_iff,ih,decide_eq_false_iff_not];constructor
  ·rintro⟨h1,h2⟩ i hi
   rcases Yab i n with h|h
   ·exact h1 i h
   ·obtain rfl:i=n:=by omega
    omega
  ·exact λh=>⟨λi hi=>h i (by omega),by have:=h n (by omega);omega⟩
theorem okAt_iff {l:List Pst} {i:Nat}:okAt l i=true↔0<=(pAt l i).1/\(pAt l i).1<=4294967296/\Zaq l i<(pAt l i).1/\0<(pAt l i).2.length/\Za4 (-1) (poss (pAt l i).2)=true/\Za4 (-1) (atss (pAt l i).2)=true:=by
 unfold okAt;simp only[Yal,decide_eq_true_eq]
theorem Zxd {l:List Pst} {x:Pst} (h:x∈l):∃ i,i<l.length/\pAt l i=x:=by
 obtain⟨i,hi,rfl⟩:=List.mem_iff_getElem.1 h;exact⟨i,hi,by unfold pAt;rw[Yaw,Yax hi];rfl⟩
theorem Zex {l:List Pst} (hf:FitP l):Zb3 l=0↔ValidP l:=by
 unfold Zb3;constructor
 ·intro h
  split at h
  ·cases h
  ·split at h
   ·cases h
   ·split at h
    ·rename_i h1 h2 h3
     have h2:=manyUp_iff.1 (by simpa using h2);have h3:=okUp_iff.1 h3;have at1:∀ x∈l,∃ i,i<l.length/\pAt l i=x/\okAt l i=true:=λx hx=>by
      obtain⟨i,hi,e⟩:=Zxd hx;exact⟨i,hi,e,h3 i hi⟩
     exact {
      few:=by omega
      spots:=λx hx=>by obtain⟨i,hi,rfl,_⟩:=at1 x hx;exact h2 i hi
      some:=λx hx=>by obtain⟨i,hi,rfl,h⟩:=at1 x hx;exact(okAt_iff.1 h).2.2.2.1
      docs:=λx hx=>by obtain⟨i,hi,rfl,h⟩:=at1 x hx;exact⟨(okAt_iff.1 h).1,(okAt_iff.1 h).2.1⟩
      up:=λi hi=>(okAt_iff.1 (h3 i hi)).2.2.1
      pos:=λx hx=>by obtain⟨i,hi,rfl,h⟩:=at1 x hx;exact(okAt_iff.1 h).2.2.2.2.1
      at_:=λx hx=>by obtain⟨i,hi,rfl,h⟩:=at1 x hx;exact(okAt_iff.1 h).2.2.2.2.2
      fit:=hf }
    ·cases h
 ·intro h
  have h1:=h.few;rw[Yaf (by omega),Yaf,Yag]
  ·exact okUp_iff.2 λi hi=>okAt_iff.2 ⟨(h.docs _ (Zay hi)).1,(h.docs _ (Zay hi)).2,h.up i hi,h.some _ (Zay hi),h.pos _ (Zay hi),h.at_ _ (Zay hi)⟩
  ·rw[manyUp_iff.2 λi hi=>h.spots _ (Zay hi)]
   simp
def Zju (b:List UInt8) (n:Nat):Nat:=if (getL (b.drop n)).2.2=0 then n+(getL (b.drop n)).2.1 else n
def Zja (b:List UInt8) (n:Nat):Nat:=Zju b (Zju b n)
def Zls (b:List UInt8) (i n:Nat):Nat:=if i % 4=0 then Zja b (if i % 16=0 then Zja b n else n) else (if i % 16=0 then Zja b n else n)
def Zfw (b:List UInt8) (n:Nat):Option (Nat×List (Int×Int)×Nat):=
 if (getL (b.drop n)).2.2≠0\/4294967296<(getL (b.drop n)).1 then none
 else
  if (getR (b.drop (n+(getL (b.drop n)).2.1)) 4096).2.2≠0 then none
  else
   if (getR (b.drop (n+(getL (b.drop n)).2.1+(getR (b.drop (n+(getL (b.drop n)).2.1)) 4096).2.1)) 4096).2.2≠0\/(getR (b.drop (n+(getL (b.drop n)).2.1+(getR (b.drop (n+(getL (b.drop n)).2.1)) 4096).2.1)) 4096).1.length≠(getR (b.drop (n+(getL (b.drop n)).2.1)) 4096).1.length then none
   else some ((getL (b.drop n)).1,(getR (b.drop (n+(getL (b.drop n)).2.1)) 4096).1.zip (getR (b.drop (n+(getL (b.drop n)).2.1+(getR (b.drop (n+(getL (b.drop n)).2.1)) 4096).2.1)) 4096).1,
    n+(getL (b.drop n)).2.1+(getR (b.drop (n+(getL (b.drop n)).2.1)) 4096).2.1+(getR (b.drop (n+(getL (b.drop n)).2.1+(getR (b.drop (n+(getL (b.drop n)).2.1)) 4096).2.1)) 4096).2.1)
def rdUp (b:List UInt8) (n0:Nat):Nat->Option (List Pst×Nat×Int)
 | 0=>some ([],n0,-1)
 | i+1=>match rdUp b n0 i with
  | none=>none
  | some (l,n,doc)=>match Zfw b (Zls b i n)with
   | none=>none
   | some (d,s,n2)=>some (l++[(doc+d+1,s)],n2,doc+d+1)
def getP (b:List UInt8):List Pst×Int:=
 if (getL b).2.2≠0\/4096<(getL b).1 then ([],3)
 else match rdUp b (getL b).2.1 (getL b).1 with
  | none=>([],3)
  | some (l,_,_)=>if Zb3 l=0/\putP l=b then (l,0) else ([],3)
theorem Zot {b:List UInt8} {n:Nat} {u v:Nat} {r:List UInt8} (hu:u<2 ^ 64) (hv:v<2 ^ 64) (h:b.drop n=putL u++putL v++r):Zja b n=n+(putL u++putL v).length/\b.drop (Zja b n)=r:=by
 have h1:getL (b.drop n)=(u,(putL u).length,0):=by rw[h,Yao];exact Zcz hu _
 have e1:Zju b n=n+(putL u).length:=by unfold Zju;rw[h1];simp
 have h2:b.drop (n+(putL u).length)=putL v++r:=by rw[<- Ya1,h,Yao,Zeb]
 have h3:getL (b.drop (n+(putL u).length))=(v,(putL v).length,0):=by rw[h2];exact Zcz hv _
 have e2:Zja b n=n+(putL u).length+(putL v).length:=by
  unfold Zja;rw[e1];unfold Zju;rw[h3];simp
 refine⟨by rw[e2,Yaq];omega,?_⟩;rw[e2,<- Ya1,h2,Zeb]
theorem Zk4 (s:List (Int×Int)):(poss s).zip (atss s)=s:=by
 induction s with
 | nil=>rfl
 | cons x s ih=>
  simp only[poss,atss,Ya2,List.zip_cons_cons]at ih ⊢;rw[ih]
theorem Zwa {l:List Pst} (hl:ValidP l) {i:Nat} (hi:i<l.length) {b:List UInt8} {n:Nat} {r:List UInt8} (h:b.drop n=Zbh l i++r):
  Zfw b n=some (((pAt l i).1-Zaq l i-1).toNat,(pAt l i).2,n+(Zbh l i).length)/\b.drop (n+(Zbh l i).length)=r:=by
 have q1:=hl.docs _ (Zay hi);have w1:=hl.last (Nat.le_of_lt hi);have u1:=hl.up i hi;have p1:=Zhv (hl.fit _ (Zay hi));have n1:=Zcx (pAt l i).2;have s1:=hl.spots _ (Zay hi);have h0:=h;obtain⟨d,hd⟩:=Ze (((pAt l i).1-Zaq l i-1).toNat);obtain⟨P,hP⟩:=Ze (poss (pAt l i).2);obtain⟨Q,hQ⟩:=Ze (atss (pAt l i).2);have e0:Zbh l i=putL d++(putR P++putR Q):=by unfold Zbh;rw[<- hd,<- hP,<- hQ]
 rw[e0,Yao]at h;have g1:getL (b.drop n)=(d,(putL d).length,0):=by rw[h];exact Zcz (by omega) _
 have h2:b.drop (n+(putL d).length)=putR P++(putR Q++r):=by rw[<- Ya1,h,Zeb,Yao]
 have g2:getR (b.drop (n+(putL d).length)) 4096=(P,(putR P).length,0):=by
  rw[h2];exact Zjx P (by rw[hP];omega) (by rw[hP];exact hl.pos _ (Zay hi)) (by rw[hP];exact p1.1) _ _ (by rw[hP];omega)
 have h3:b.drop (n+(putL d).length+(putR P).length)=putR Q++r:=by rw[<- Ya1,h2,Ya3]
 have g3:getR (b.drop (n+(putL d).length+(putR P).length)) 4096=(Q,(putR Q).length,0):=by
  rw[h3];exact Zjx Q (by rw[hQ];omega) (by rw[hQ];exact hl.at_ _ (Zay hi)) (by rw[hQ];exact p1.2) _ _ (by rw[hQ];omega)
 constructor
 ·unfold Zfw
  simp only[g1,g2,g3];rw[Yaf (by simp;omega),Yaf (by simp),Yaf (by rw[hP,hQ];simp;omega),hP,hQ,Zk4,<- hP,<- hQ,e0,<- hd];simp only[Yaq,Option.some.injEq,Prod.mk.injEq,true_and];omega
 ·rw[<- Ya1,h0,Ya3]
theorem Qb3 {l:List Pst} (hl:ValidP l) {i:Nat} (hi:i<l.length) {b:List UInt8} {n:Nat} {r:List UInt8} (h:b.drop n=lin l i++r):b.drop (Zls b i n)=Zbh l i++r/\Zls b i n+(Zbh l i).length=n+(lin l i).length:=by
 have b1:=Zd1 hl (i:=i) (k:=min l.length (i+4)-i) (by omega);have g1:=Zd2 hl (i:=i) (k:=min l.length (i+16)-i) (by omega);obtain⟨n1,hn1⟩:=Ze (if i % 16=0 then Zja b n else n);have hb:b.drop n1=linB l i++r/\n1+(linB l i).length=n+(lin l i).length:=by
  unfold lin at h ⊢;by_cases h16:i % 16=0
  ·rw[Yag h16]at h hn1 ⊢
   rw[Yao]at h;obtain⟨e1,e2⟩:=Zot (Zg4 hl (by omega) (by omega)) (by omega) h;rw[hn1];refine⟨e2,?_⟩;rw[e1];unfold Zge Zdl;simp only[Yaq];omega
  ·rw[Yaf h16]at h hn1 ⊢
   rw[hn1];exact⟨h,by simp⟩
 have hs:Zls b i n=if i % 4=0 then Zja b n1 else n1:=by rw[hn1];rfl
 rw[hs];obtain⟨hb1,hb2⟩:=hb;unfold linB at hb1 hb2;by_cases h4:i % 4=0
 ·rw[Yag h4]at hb1 hb2 ⊢
  rw[Yao]at hb1;obtain⟨e1,e2⟩:=Zot (Zg4 hl (by omega) (by omega)) (by omega) hb1;refine⟨e2,?_⟩;rw[e1,<- hb2];unfold Zfy Zdl;simp only[Yaq];omega
 ·rw[Yaf h4]at hb1 hb2 ⊢
  exact⟨hb1,by rw[<- hb2];simp⟩
theorem Zsf {l:List Pst} (hl:ValidP l) {b:List UInt8} {n0:Nat} (hb:b.drop n0=cat (lin l) 0 l.length):∀ i,i<=l.length->rdUp b n0 i=some (l.take i,n0+(cat (lin l) 0 i).length,Zaq l i)
 | 0,_=>by simp[rdUp,cat,Zaq]
 | i+1,hi=>by
  have ih:=Zsf hl hb i (by omega);have hx:=Zay (show i<l.length by omega);have hd:b.drop (n0+(cat (lin l) 0 i).length)=lin l i++cat (lin l) (i+1) (l.length-(i+1)):=by
   have e:=Zhp (lin l) 0 i (l.length-i);rw[show i+(l.length-i)=l.length by omega,Ya4]at e;rw[<- Ya1,hb,e,Ya3,show l.length-i=(l.length-(i+1))+1 by omega,Zen]
  obtain⟨h1,h2⟩:=Qb3 hl (by omega) hd;obtain⟨h3,_⟩:=Zwa hl (by omega) h1;have u1:=hl.up i (by omega);unfold rdUp;rw[ih];simp only[h3];have e1:Zaq l i+(((pAt l i).1-Zaq l i-1).toNat:Int)+1=(pAt l i).1:=by omega
  have e2:Zaq l (i+1)=(pAt l i).1:=by unfold Zaq;rw[Yaf (by omega)];rfl
  have e3:l.take (i+1)=l.take i++[pAt l i]:=by
   rw[Ya5];unfold pAt;rw[Yaw,Yax (by omega)];rfl
  rw[e1,e2,e3,h2,cat,Yaq,Ya4];simp only[Option.some.injEq,Prod.mk.injEq];exact⟨trivial,by omega,trivial⟩
theorem Ztw {l:List Pst} (hl:ValidP l):getP (putP l)=(l,0):=by
 have f1:=hl.few;have h1:getL (putP l)=(l.length,(putL l.length).length,0):=by unfold putP;exact Zcz (by omega) _
 have h2:(putP l).drop (putL l.length).length=cat (lin l) 0 l.length:=by unfold putP;rw[Zeb]
 unfold getP;rw[h1];simp only;rw[Yaf (by simp;omega),Zsf hl h2 l.length (Yar _)];simp only[Ya6];rw[Yag ⟨(Zex hl.fit).2 hl,trivial⟩]
theorem Zh9 {b:List UInt8} (h:(getP b).2=0):Zb3 (getP b).1=0/\putP (getP b).1=b:=by
 unfold getP at h ⊢;split at h
 ·cases h
 ·rename_i h1
  rw[Yaf h1];split at h
  ·cases h
  ·rename_i l n d h2
   split at h
   ·rename_i h3
    rw[Yag h3];exact h3
   ·cases h
theorem Zse (b:List UInt8):(getP b).2=0\/getP b=([],3):=by
 unfold getP;split
 ·exact .inr rfl
 ·split
  ·exact .inr rfl
  ·split
   ·exact .inl rfl
   ·exact .inr rfl
def poly:Nat:=3988292384
def all1:Nat:=4294967295
def Zd4 (r:Nat):Nat:=if r % 2=1 then (r/2) ^^^ poly else r/2
def Zbo:Nat->Nat->Nat
 | 0,r=>r
 | k+1,r=>Zd4 (Zbo k r)
def s8 (r:Nat):Nat:=Zbo 8 r
def step (r:Nat) (c:UInt8):Nat:=s8 (r ^^^ c.toNat)
def reg (r:Nat) (l:List UInt8):Nat:=l.foldl step r
def Qbt (s:Nat) (l:List UInt8):Nat:=all1 ^^^ reg (all1 ^^^ s) l
def sumN (l:List UInt8):Nat:=Qbt 0 l
theorem Qbo (x y:Nat):(x ^^^ y) % 2=(x % 2+y % 2) % 2:=by
 have h:=Nat.testBit_xor x y 0;rw[Nat.testBit_zero,Nat.testBit_zero,Nat.testBit_zero]at h;have hx:x % 2=0\/x % 2=1:=by omega
 have hy:y % 2=0\/y % 2=1:=by omega
 have hz:(x ^^^ y) % 2=0\/(x ^^^ y) % 2=1:=by omega
 rcases hx with hx|hx<;>rcases hy with hy|hy<;>rcases hz with hz|hz<;>simp[hx,hy,hz]at h ⊢
theorem Qax (x y:Nat):(x ^^^ y)/2=x/2 ^^^ y/2:=by
 have:=@Nat.shiftRight_xor_distrib 1 x y
 simpa[Nat.shiftRight_eq_div_pow]using this
theorem Ztm {x y:Nat} (hx:x<4294967296) (hy:y<4294967296):x ^^^ y<4294967296:=Nat.xor_lt_two_pow (n:=32) hx hy
theorem Qc5 {x y:Nat} (hx:x<256) (hy:y<256):x ^^^ y<256:=Nat.xor_lt_two_pow (n:=8) hx hy
theorem xor4 (a b c d:Nat):(a ^^^ b) ^^^ (c ^^^ d)=(a ^^^ c) ^^^ (b ^^^ d):=by
 rw[Nat.xor_assoc,Nat.xor_assoc,<- Nat.xor_assoc b c d,Nat.xor_comm b c,Nat.xor_assoc c b d]
theorem Zq3 (x y:Nat):Zd4 (x ^^^ y)=Zd4 x ^^^ Zd4 y:=by
 unfold Zd4;rw[Qbo,Qax];have hx:x % 2=0\/x % 2=1:=by omega
 have hy:y % 2=0\/y % 2=1:=by omega
 rcases hx with hx|hx<;>rcases hy with hy|hy<;>simp only[hx,hy]
 ·rfl
 ·simp[Nat.xor_assoc]
 ·rw[Yag (by decide),Yag trivial,Yaf (by decide),Nat.xor_assoc,Nat.xor_assoc,Nat.xor_comm poly]
 ·rw[Yaf (by decide),Yag trivial,Yag trivial,xor4,Nat.xor_self,Nat.xor_zero]
theorem Zo4 (k x y:Nat):Zbo k (x ^^^ y)=Zbo k x ^^^ Zbo k y:=by
 induction k with
 | zero=>rfl
 | succ k ih=>simp only[Zbo,ih,Zq3]
theorem Qer (x y:Nat):s8 (x ^^^ y)=s8 x ^^^ s8 y:=Zo4 8 x y
theorem Zb4 (q:Nat):Zd4 (2*q)=q:=by
 unfold Zd4;rw[Yaf (by omega)];omega
theorem Qc6 (q:Nat):s8 (256*q)=q:=by
 unfold s8 Zbo Zbo Zbo Zbo Zbo Zbo Zbo Zbo Zbo;rw[show 256*q=2*(128*q) by omega,Zb4,show 128*q=2*(64*q) by omega,Zb4,show 64*q=2*(32*q) by omega,Zb4,
  show 32*q=2*(16*q) by omega,Zb4,show 16*q=2*(8*q) by omega,Zb4,show 8*q=2*(4*q) by omega,Zb4,
  show 4*q=2*(2*q) by omega,Zb4,Zb4]
theorem Zy1 (r c:Nat):r ^^^ c=256*(r/256) ^^^ (r % 256 ^^^ c):=by
 have h:r=256*(r/256) ^^^ (r % 256):=by
  have h1:=@Nat.two_pow_add_eq_or_of_lt 8 (r % 256) (Nat.mod_lt _ (by decide)) (r/256);apply Nat.eq_of_testBit_eq;intro i;have h2:r=2 ^ 8*(r/256)+r % 256:=by omega
  rw[Nat.testBit_xor];have h3:=Nat.testBit_two_pow_mul_add (r/256) (b:=r % 256) (i:=8) (Nat.mod_lt _ (by decide)) i;have h4:=Nat.testBit_two_pow_mul (i:=8) (a:=r/256) (j:=i);rw[show(2:Nat) ^ 8=256 by decide]at h3 h4;rw[h4];conv=>lhs;rw[h2,show(2:Nat) ^ 8=256 by decide]
  rw[h3];by_cases hi:i<8
  ·have h8:¬ 8<=i:=by omega
   simp[hi,h8]
  ·have h8:8<=i:=by omega
   have:(r % 256).testBit i=false:=Nat.testBit_lt_two_pow (Ya7 (Nat.mod_lt _ (by decide)) (by
    have:2 ^ 8<=2 ^ i:=Nat.pow_le_pow_right (by omega) (by omega);simpa using this))
   simp[hi,h8,this]
 have h5:r ^^^ c=256*(r/256) ^^^ (r % 256) ^^^ c:=congrArg (· ^^^ c) h;rw[h5,Nat.xor_assoc]
theorem Qal (r:Nat) (c:UInt8):step r c=r/256 ^^^ s8 (r % 256 ^^^ c.toNat):=by
 unfold step;rw[Zy1 r c.toNat,Qer,Qc6]
theorem Zt9 {x:Nat} (h:x<4294967296):Zd4 x<4294967296:=by
 unfold Zd4;split
 ·exact Ztm (by omega) (by decide)
 ·omega
theorem Zkc (k:Nat) {x:Nat} (h:x<4294967296):Zbo k x<4294967296:=by
 induction k with
 | zero=>exact h
 | succ k ih=>exact Zt9 ih
theorem Qda {x:Nat} (h:x<4294967296):s8 x<4294967296:=Zkc 8 h
theorem Qdh (c:UInt8):c.toNat<4294967296:=by have:=c.toNat_lt;omega
theorem Qdv {r:Nat} (h:r<4294967296) (c:UInt8):step r c<4294967296:=Qda (Ztm h (Qdh c))
theorem Zn3 {r:Nat} (h:r<4294967296) (l:List UInt8):reg r l<4294967296:=by
 induction l generalizing r with
 | nil=>exact h
 | cons c l ih=>exact ih (Qdv h c)
theorem Ztv {r:Nat} (h:r<4294967296):all1 ^^^ r<4294967296:=Ztm (by decide) h
theorem Qbv {s:Nat} (h:s<4294967296) (l:List UInt8):Qbt s l<4294967296:=Ztv (Zn3 (Ztv h) l)
theorem Zuc (r:Nat) (a b:List UInt8):reg r (a++b)=reg (reg r a) b:=List.foldl_append ..
theorem Qae:∀ (i:Fin 8) (j:Fin 128),j.val<2 ^ i.val->s8 (2 ^ i.val ||| j.val)=s8 j.val ^^^ (#[1996959894,3993919788,124634137,249268274,498536548,997073096,1994146192,3988292384]:Array Nat)[i]:=by decide +kernel
def le4 (s:Nat):List UInt8:=[UInt8.ofNat (s % 256),UInt8.ofNat (s/256 % 256),UInt8.ofNat (s/65536 % 256),UInt8.ofNat (s/16777216 % 256)]
def un4 (l:List UInt8):Nat:=(l.getD 0 0).toNat+256*(l.getD 1 0).toNat+65536*(l.getD 2 0).toNat+16777216*(l.getD 3 0).toNat
theorem Zy0 {s:Nat} (h:s<4294967296) (more:List UInt8):un4 (le4 s++more)=s:=by
 simp only[le4,un4,Yac,Yad,List.getD_cons_zero,List.getD_cons_succ];rw[Zau (by omega),Zau (by omega),Zau (by omega),Zau (by omega)];omega
theorem Zv1 (a b c d:UInt8) (r:List UInt8):le4 (un4 (a :: b :: c :: d :: r))=[a,b,c,d]:=by
 have h0:=a.toNat_lt;have h1:=b.toNat_lt;have h2:=c.toNat_lt;have h3:=d.toNat_lt;simp only[le4,un4,List.getD_cons_zero,List.getD_cons_succ];congr 1
 ·apply UInt8.toNat_inj.1
  rw[Zau (by omega)];omega
 ·congr 1
  ·apply UInt8.toNat_inj.1
   rw[Zau (by omega)];omega
  ·congr 1
   ·apply UInt8.toNat_inj.1
    rw[Zau (by omega)];omega
   ·congr 1
    apply UInt8.toNat_inj.1;rw[Zau (by omega)];omega
theorem Zyu (s:Nat):(le4 s).length=4:=rfl
theorem four {l:List UInt8} (h:4<=l.length):∃ a b c d r,l=a :: b :: c :: d :: r:=by
 match l,h with
 | a :: b :: c :: d :: r,_=>exact⟨a,b,c,d,r,rfl⟩
theorem Znt (l:List UInt8):sumN l<4294967296:=Qbv (by decide) l
def putF (b:List UInt8):List UInt8:=putL b.length++(le4 (sumN b)++b)
def getF (c:List UInt8):List UInt8×Nat×Int:=
 if (getL c).2.2≠0 then ([],0,(getL c).2.2)
 else if 262144<(getL c).1 then ([],0,32)
 else if c.length<(getL c).2.1+4+(getL c).1 then ([],0,31)
 else if sumN ((c.drop ((getL c).2.1+4)).take (getL c).1)≠un4 (c.drop (getL c).2.1) then ([],0,41)
 else ((c.drop ((getL c).2.1+4)).take (getL c).1,(getL c).2.1+4+(getL c).1,0)
theorem Zj0 (b:List UInt8):(putF b).length=(putL b.length).length+4+b.length:=by
 simp only[putF,Yaq,Zyu];omega
theorem Qby (b:List UInt8):0<(putF b).length:=by rw[Zj0];omega
theorem Qa2 (b:List UInt8) (hb:b.length<=262144) (more:List UInt8):getF (putF b++more)=(b,(putF b).length,0):=by
 have hg:getL (putF b++more)=(b.length,(putL b.length).length,0):=by
  unfold putF;rw[Yao];exact Zcz (by omega) _
 have h1:(putF b++more).drop (putL b.length).length=le4 (sumN b)++(b++more):=by
  unfold putF;rw[Yao,Yao];simp
 have h2:(putF b++more).drop ((putL b.length).length+4)=b++more:=by
  rw[<- Ya1,h1];rfl
 unfold getF;rw[hg];simp only;rw[Yaf (by simp),Yaf (by omega),Yaf (by rw[Yaq,Zj0];omega),h1,h2,Zy0 (Znt b)];rw[Ya8 (Yar _),Ya6,Yaf (by simp),Zj0]
theorem Zsd {c x:List UInt8} {m:Nat} (h:getF c=(x,m,0)):0<m/\m<=c.length/\c.take m=putF x/\x.length<=262144:=by
 unfold getF at h;rcases hg:getL c with⟨n,k,e⟩
 rw[hg]at h;simp only at h;split at h
 ·rename_i he
  simp only[Prod.mk.injEq]at h;exact absurd h.2.2 he
 rename_i he;have he0:e=0:=by simpa using he
 subst he0;split at h
 ·simp at h
 rename_i hn;split at h
 ·simp at h
 rename_i hl;split at h
 ·simp at h
 rename_i hs;simp only[Prod.mk.injEq,and_true]at h;obtain⟨hx,rfl⟩:=h;obtain⟨g1,g2,g3,g4,g5⟩:=Zby hg;have hxl:x.length=n:=by rw[<- hx];simp;omega
 refine⟨by omega,by omega,?_,by omega⟩;obtain⟨a,b,c',d,r,hd⟩:=four (l:=c.drop k) (by simp;omega);have hd4:c.drop (k+4)=r:=by rw[<- Ya1,hd];rfl
 have hs':sumN x=un4 (c.drop k):=by
  rw[<- hx];exact Decidable.not_not.1 hs
 have e1:c.take (k+4+n)=c.take k++(c.drop k).take (4+n):=by rw[Nat.add_assoc,List.take_add]
 rw[e1,g4,putF,hxl];congr 1;rw[hs',hd,Zv1,Nat.add_comm 4 n];simp only[Yaj];rw[hd4]at hx;rw[hx];rfl
def Zc4:Nat->List UInt8->List (List UInt8)->List (List UInt8)×Int
 | 0,_,acc=>(acc,0)
 | f+1,c,acc=>if c.length=0 then (acc,0) else if (getF c).2.2≠0 then ([],(getF c).2.2) else Zc4 f (c.drop (getF c).2.1) (acc++[(getF c).1])
def allF (c:List UInt8):List (List UInt8)×Int:=Zc4 c.length c []
def Zfo:Nat->Nat->List UInt8->List (List UInt8)->List (List UInt8)×Nat
 | 0,at_,_,acc=>(acc,at_)
 | f+1,at_,c,acc=>if c.length=0 then (acc,at_) else if (getF c).2.2≠0 then (acc,at_) else Zfo f (at_+(getF c).2.1) (c.drop (getF c).2.1) (acc++[(getF c).1])
def Zzn (c:List UInt8):List (List UInt8)×Nat:=Zfo c.length 0 c []
def Qdp (L:List (List UInt8)):Prop:=∀ x∈L,x.length<=262144
theorem Zua (L:List (List UInt8)) (hL:Qdp L):∀ (f:Nat) (c:List UInt8) (acc:List (List UInt8)),(L.flatMap putF).length+c.length<=f->∃ f',c.length<=f'/\Zc4 f (L.flatMap putF++c) acc=Zc4 f' c (acc++L):=by
 induction L with
 | nil=>intro f c acc hf;exact⟨f,by simpa using hf,by simp⟩
 | cons x r ih=>
  intro f c acc hf;simp only[Yan,Yaq]at hf;have hp:=Qby x;cases f with
  | zero=>omega
  | succ f=>
   have hg:=Qa2 x (hL x (Yam ..)) (r.flatMap putF++c);obtain⟨f',h1,h2⟩:=ih (λy hy=>hL y (Yap _ hy)) f c (acc++[x]) (by omega);refine⟨f',h1,?_⟩;simp only[Yan,Yao,Zc4,hg];rw[Yaf (by simp only[Yaq];omega),Yaf (by simp)];rw[List.drop_append_of_le_length (Yar _),List.drop_length,Yad,h2];simp
theorem Qbi (L:List (List UInt8)) (hL:Qdp L):allF (L.flatMap putF)=(L,0):=by
 obtain⟨f',_,h2⟩:=Zua L hL (L.flatMap putF).length [] [] (by simp);rw[List.append_nil]at h2;unfold allF;rw[h2];cases f'<;>simp[Zc4]
end Go.Proofs.YthcjikpabpgpfaaGreat
