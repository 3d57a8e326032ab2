import Derived.Test.YthcjikpabpgpfaaGreatZp0
set_option linter.unusedSimpArgs false
set_option maxHeartbeats 16000000
set_option maxRecDepth 100000
namespace Go.Proofs.YthcjikpabpgpfaaGreat
section
structure Mg where
 a:Int
 b:Int
 t:Int
deriving DecidableEq
structure Voc where
 tok:List (List UInt8)
 mer:List Mg
def Zdj (s:List UInt8):Nat->List (List UInt8)->Int
 | _,[]=>-1
 | k,x :: r=>if x=s then (k:Int) else Zdj s (k+1) r
def Zbb (l:List (List UInt8)) (s:List UInt8):Int:=Zdj s 0 l
def Zba (l:List Mg) (a b:Int):Bool:=l.any λm=>(m.a==a)&&(m.b==b)
theorem Znn (l:List (List UInt8)) (s:List UInt8) (h:∀ x∈l,x≠s):∀ k,Zdj s k l=-1:=by
 induction l with
 | nil=>intro k;rfl
 | cons x r ih=>
  intro k;simp only[Zdj];rw[Yaf (h x (Yam ..))];exact ih (λy hy=>h y (Yap _ hy)) (k+1)
theorem Zqm (l:List (List UInt8)) (s:List UInt8):∀ (k i:Nat),l[i]?=some s->(∀ j x,j<i->l[j]?=some x->x≠s)->Zdj s k l=((k+i:Nat):Int):=by
 induction l with
 | nil=>intro k i h _;simp at h
 | cons x r ih=>
  intro k i h hn;simp only[Zdj];cases i with
  | zero=>
   simp at h;rw[Yag h];rfl
  | succ i=>
   rw[Yaf (hn 0 x (by omega) rfl),ih (k+1) i (by simpa using h) (λj y hj hy=>hn (j+1) y (by omega) (by simpa using hy))];omega
theorem Ziu {l:List (List UInt8)} {s:List UInt8} (h:∀ x∈l,x≠s):Zbb l s=-1:=Znn l s h 0
theorem Zio {l:List (List UInt8)} {s:List UInt8} {i:Nat} (h:l[i]?=some s) (hn:∀ j x,j<i->l[j]?=some x->x≠s):Zbb l s=(i:Int):=by
 have:=Zqm l s 0 i h hn
 simpa[Zbb]using this
theorem Zlr (l:List (List UInt8)) (s:List UInt8):∀ k,(Zdj s k l=-1/\∀ x∈l,x≠s)\/∃ i:Nat,Zdj s k l=((k+i:Nat):Int)/\l[i]?=some s/\∀ j x,j<i->l[j]?=some x->x≠s:=by
 induction l with
 | nil=>intro k;exact .inl ⟨rfl,by simp⟩
 | cons x r ih=>
  intro k;by_cases hx:x=s
  ·exact .inr ⟨0,by simp[Zdj,hx],by simp[hx],λj y hj=>by omega⟩
  ·rcases ih (k+1)with⟨h1,h2⟩|⟨i,h1,h2,h3⟩
   ·refine .inl ⟨by simp only[Zdj];rw[Yaf hx];exact h1,λy hy=>?_⟩
    rcases Yat.1 hy with rfl|hy
    ·exact hx
    ·exact h2 y hy
   ·refine .inr ⟨i+1,?_,by simpa using h2,λj y hj hy=>?_⟩
    ·simp only[Zdj]
     rw[Yaf hx,h1];omega
    ·cases j with
     | zero=>simp at hy;subst hy;exact hx
     | succ j=>exact h3 j y (by omega) (by simpa using hy)
theorem Zc1 (l:List (List UInt8)) (s:List UInt8):(Zbb l s=-1/\∀ x∈l,x≠s)\/∃ i:Nat,Zbb l s=(i:Int)/\l[i]?=some s/\∀ j x,j<i->l[j]?=some x->x≠s:=by
 rcases Zlr l s 0 with h|⟨i,h1,h2,h3⟩
 ·exact .inl h
 ·exact .inr ⟨i,by simpa[Zbb]using h1,h2,h3⟩
theorem Zon {l:List Mg} {k:Nat} {m:Mg} (h:l[k]?=some m) (a b:Int):Zba (l.take (k+1)) a b=(Zba (l.take k) a b||((m.a==a)&&(m.b==b))):=by
 unfold Zba;rw[Ya5,h];simp[List.any_append]
def Zoh (l:List (List UInt8)) (i:Nat):Bool:=decide (1<=(l.getD i []).length)&&(decide ((l.getD i []).length<=16)&&decide (Zbb l (l.getD i [])=(i:Int)))
def Zow (v:Voc) (i:Nat):Bool:=
 let m:=v.mer.getD i ⟨-1,-1,-1⟩;decide (0<=m.a/\m.a<v.tok.length/\0<=m.b/\m.b<v.tok.length/\0<=m.t/\m.t<v.tok.length)&&(!(Zba (v.mer.take i) m.a m.b)&&decide (v.tok.getD m.t.toNat []=v.tok.getD m.a.toNat []++v.tok.getD m.b.toNat []))
def Zqh (v:Voc):Int:=
 if 512<v.tok.length\/512<v.mer.length then 2
 else if ¬ (List.range v.tok.length).all (Zoh v.tok)=true then 52
 else if ¬ (List.range 256).all (λc=>decide (0<=Zbb v.tok [UInt8.ofNat c]))=true then 51
 else if ¬ (List.range v.mer.length).all (Zow v)=true then 53
 else 0
def rkOf (M:List Mg) (a b:Int):Option Nat:=M.findIdx? λm=>decide (m.a=a/\m.b=b)
def Zb0 (M:List Mg) (l:List Int) (i:Nat):Option Nat:=
 match l[i]?,l[i+1]? with
 | some a,some b=>rkOf M a b
 | _,_=>none
theorem Zci {M:List Mg} {l:List Int} {i k:Nat} (h:Zb0 M l i=some k):∃ a b,l[i]?=some a/\l[i+1]?=some b/\rkOf M a b=some k:=by
 unfold Zb0 at h;split at h
 ·rename_i a b h1 h2;exact⟨a,b,h1,h2,h⟩
 ·cases h
theorem Zpq {M:List Mg} {l:List Int} {i:Nat} {a b:Int} (h1:l[i]?=some a) (h2:l[i+1]?=some b):Zb0 M l i=rkOf M a b:=by
 unfold Zb0;rw[h1,h2]
theorem Zg1 {M:List Mg} {l:List Int} {i:Nat} (h:l.length<=i+1):Zb0 M l i=none:=by
 unfold Zb0;rw[List.getElem?_eq_none h];split<;>simp_all
theorem Zf3 {M:List Mg} {a b:Int} {k:Nat} (h:rkOf M a b=some k):k<M.length/\∃ m,M[k]?=some m/\m.a=a/\m.b=b:=by
 unfold rkOf at h;rw[List.findIdx?_eq_some_iff_getElem]at h;obtain⟨h1,h2,_⟩:=h;exact⟨h1,_,Yax h1,by simpa using h2⟩
theorem rkOf_none {M:List Mg} {a b:Int}:rkOf M a b=none↔Zba M a b=false:=by
 unfold rkOf Zba;rw[List.findIdx?_eq_none_iff,List.any_eq_false];constructor
 ·intro h m hm
  have:=h m hm
  simpa[decide_eq_false_iff_not]using this
 ·intro h m hm
  have:=h m hm
  simpa using this
def Zcw (M:List Mg) (l:List Int):Nat->Option (Nat×Nat)
 | 0=>none
 | i+1=>
  match Zb0 M l i,Zcw M l i with
  | none,o=>o
  | some k,none=>some (k,i)
  | some k,some (k0,i0)=>if k<k0 then some (k,i) else some (k0,i0)
def Zdm (M:List Mg) (l:List Int):Option (Nat×Nat):=Zcw M l (l.length-1)
structure Qbb (M:List Mg) (l:List Int) (n k i:Nat):Prop where
 lt:i<n
 rk:Zb0 M l i=some k
 least:∀ j k',j<n->Zb0 M l j=some k'->k<k'\/(k=k'/\i<=j)
theorem Zc0 (M:List Mg) (l:List Int):∀ n,(Zcw M l n=none/\∀ j,j<n->Zb0 M l j=none)\/∃ k i,Zcw M l n=some (k,i)/\Qbb M l n k i
 | 0=>.inl ⟨rfl,λj hj=>by omega⟩
 | n+1=>by
  rcases Zc0 M l n with⟨h1,h2⟩|⟨k,i,h1,h2⟩
  ·cases hp:Zb0 M l n with
   | none=>
    refine .inl ⟨by simp only[Zcw];rw[hp,h1],λj hj=>?_⟩;rcases Yab j n with h|h
    ·exact h2 j h
    ·obtain rfl:j=n:=by omega
     exact hp
   | some k=>
    refine .inr ⟨k,n,by simp only[Zcw];rw[hp,h1],⟨by omega,hp,λj k' hj hk=>?_⟩⟩;rcases Yab j n with h|h
    ·rw[h2 j h]at hk;cases hk
    ·obtain rfl:j=n:=by omega
     rw[hp]at hk;cases hk
     exact .inr ⟨rfl,Yar _⟩
  ·cases hp:Zb0 M l n with
   | none=>
    refine .inr ⟨k,i,by simp only[Zcw];rw[hp,h1],⟨by have:=h2.lt;omega,h2.rk,λj k' hj hk=>?_⟩⟩;rcases Yab j n with h|h
    ·exact h2.least j k' h hk
    ·obtain rfl:j=n:=by omega
     rw[hp]at hk;cases hk
   | some k1=>
    by_cases hlt:k1<k
    ·refine .inr ⟨k1,n,by simp only[Zcw];rw[hp,h1];simp[hlt],⟨by omega,hp,λj k' hj hk=>?_⟩⟩
     rcases Yab j n with h|h
     ·rcases h2.least j k' h hk with h3|h3<;>omega
     ·obtain rfl:j=n:=by omega
      rw[hp]at hk;cases hk
      exact .inr ⟨rfl,Yar _⟩
    ·refine .inr ⟨k,i,by simp only[Zcw];rw[hp,h1];simp[hlt],⟨by have:=h2.lt;omega,h2.rk,λj k' hj hk=>?_⟩⟩
     rcases Yab j n with h|h
     ·exact h2.least j k' h hk
     ·obtain rfl:j=n:=by omega
      rw[hp]at hk;cases hk
      have:=h2.lt
      omega
theorem Zr3 {M:List Mg} {l:List Int} (h:∀ j,Zb0 M l j=none):Zdm M l=none:=by
 rcases Zc0 M l (l.length-1)with⟨h1,_⟩|⟨k,i,_,h2⟩
 ·exact h1
 ·have:=h2.rk
  rw[h]at this;cases this
theorem Qey {M:List Mg} {l:List Int} (h:Zdm M l=none) (j:Nat):Zb0 M l j=none:=by
 rcases Zc0 M l (l.length-1)with⟨_,h2⟩|⟨k,i,h1,_⟩
 ·rcases Yab j (l.length-1)with h3|h3
  ·exact h2 j h3
  ·exact Zg1 (by omega)
 ·rw[show Zcw M l (l.length-1)=Zdm M l from rfl,h]at h1;cases h1
theorem Zw4 {M:List Mg} {l:List Int} {k i:Nat} (h:Zb0 M l i=some k) (hl:∀ j k',Zb0 M l j=some k'->k<k'\/(k=k'/\i<=j)):Zdm M l=some (k,i):=by
 have hi:i<l.length-1:=by
  rcases Yab i (l.length-1)with h1|h1
  ·exact h1
  ·rw[Zg1 (by omega)]at h;cases h
 rcases Zc0 M l (l.length-1)with⟨_,h2⟩|⟨k',i',h1,h2⟩
 ·rw[h2 i hi]at h;cases h
 ·have h3:=hl i' k' h2.rk
  have h4:=h2.least i k hi h;have e1:k'=k:=by omega
  have e2:i'=i:=by omega
  subst e1;subst e2;exact h1
theorem Zki {M:List Mg} {l:List Int} {k i:Nat} (h:Zdm M l=some (k,i)):Zb0 M l i=some k:=by
 rcases Zc0 M l (l.length-1)with⟨h1,_⟩|⟨k',i',h1,h2⟩
 ·rw[show Zcw M l (l.length-1)=Zdm M l from rfl,h]at h1;cases h1
 ·rw[show Zcw M l (l.length-1)=Zdm M l from rfl,h]at h1
  cases h1
  exact h2.rk
def toOf (M:List Mg) (k:Nat):Int:=(M.getD k ⟨0,0,0⟩).t
def Za2 (l:List Int) (i:Nat) (t:Int):List Int:=l.take i++t :: l.drop (i+2)
theorem Zeg {l:List Int} {i:Nat} (h:i+1<l.length) (t:Int):(Za2 l i t).length=l.length-1:=by
 unfold Za2;simp;omega
theorem Zhq {l:List Int} {i:Nat} (h:i+1<l.length) (t:Int) (j:Nat):(Za2 l i t)[j]?=if j<i then l[j]? else if j=i then some t else l[j+1]?:=by
 unfold Za2;by_cases h1:j<i
 ·rw[Yag h1,Yba (by simp;omega),Yci,Yag h1]
 ·rw[Yaf h1,Ybc (by simp;omega)]
  have hl:(l.take i).length=i:=by simp;omega
  rw[hl];by_cases h2:j=i
  ·rw[Yag h2,h2,Ybq];rfl
  ·rw[Yaf h2]
   obtain⟨d,rfl⟩:∃ d,j=i+(d+1):=⟨j-i-1,by omega⟩
   rw[show i+(d+1)-i=d+1 by omega,lz2,Ybv];congr 1;omega
def Zfp (M:List Mg):Nat->List Int->List Int
 | 0,l=>l
 | f+1,l=>
  match Zdm M l with
  | none=>l
  | some (k,i)=>Zfp M f (Za2 l i (toOf M k))
theorem Zhm {M:List Mg} {l:List Int} (h:Zdm M l=none) (f:Nat):Zfp M f l=l:=by
 cases f with
 | zero=>rfl
 | succ f=>simp only[Zfp];rw[h]
theorem Zhi {M:List Mg} {l:List Int} {k i:Nat} (h:Zdm M l=some (k,i)) (f:Nat):Zfp M (f+1) l=Zfp M f (Za2 l i (toOf M k)):=by
 simp only[Zfp];rw[h]
theorem Zei {M:List Mg} {l:List Int} {i k:Nat} (h:Zb0 M l i=some k):i+1<l.length:=by
 rcases Yab (i+1) l.length with h1|h1
 ·exact h1
 ·rw[Zg1 h1]at h;cases h
theorem Zeu {M:List Mg} {Q:List Int->Prop} (hQ:∀ l i k,Q l->Zb0 M l i=some k->Q (Za2 l i (toOf M k))):∀ (f:Nat) (l:List Int),Q l->Q (Zfp M f l)
 | 0,_,h=>h
 | f+1,l,h=>by
  cases hb:Zdm M l with
  | none=>rw[Zhm hb];exact h
  | some p=>
   obtain⟨k,i⟩:=p;rw[Zhi hb];exact Zeu hQ f _ (hQ l i k h (Zki hb))
theorem Zun (M:List Mg) (f:Nat) (l:List Int):(Zfp M f l).length<=l.length:=
 Zeu (Q:=λx=>x.length<=l.length) (λx i k h hp=>by rw[Zeg (Zei hp)];omega) f l (Yar _)
def Zb6 (s:List UInt8):List Int:=s.map λc=>(c.toNat:Int)
def encL (M:List Mg) (s:List UInt8):List Int:=Zfp M s.length (Zb6 s)
theorem Za8 (s:List UInt8):(Zb6 s).length=s.length:=by simp[Zb6]
theorem Qay (M:List Mg) (s:List UInt8):(encL M s).length<=s.length:=by
 have:=Zun M s.length (Zb6 s)
 rw[Za8]at this;exact this
def gtS (x y:Nat×Nat):Prop:=y.1<x.1\/(y.1=x.1/\y.2<x.2)
instance (x y:Nat×Nat):Decidable (gtS x y):=by unfold gtS;infer_instance
theorem Znj (x:Nat×Nat):¬ gtS x x:=by unfold gtS;omega
theorem Zk6 {x y z:Nat×Nat} (h:gtS x y) (h2:gtS y z):gtS x z:=by unfold gtS at *;omega
theorem Zph {x y:Nat×Nat} (h:¬ gtS x y) (h2:¬ gtS y x):x=y:=by
 unfold gtS at *;exact Prod.ext (by omega) (by omega)
def idxS (st:List (Nat×Nat)) (s:Nat×Nat):Nat:=st.countP λx=>decide (gtS x s)
theorem Zxo (st:List (Nat×Nat)) (s:Nat×Nat):idxS st s<=st.length:=List.countP_le_length
theorem Zzf (x:Nat×Nat) (st:List (Nat×Nat)) (s:Nat×Nat):idxS (x :: st) s=if gtS x s then idxS st s+1 else idxS st s:=by
 unfold idxS;rw[List.countP_cons];by_cases h:gtS x s<;>simp[h]
theorem Zzk {st:List (Nat×Nat)} {s:Nat×Nat} (h:∀ y∈st,¬ gtS y s):idxS st s=0:=by
 unfold idxS;rw[List.countP_eq_zero];intro y hy;simpa using h y hy
theorem Zmm {st:List (Nat×Nat)} (hs:st.Pairwise gtS) (s:Nat×Nat):(∀ x∈st.take (idxS st s),gtS x s)/\∀ x∈st.drop (idxS st s),¬ gtS x s:=by
 induction st with
 | nil=>simp
 | cons x r ih=>
  rw[Ycj]at hs;have h:=ih hs.2;rw[Zzf];by_cases hx:gtS x s
  ·rw[Yag hx]
   refine⟨λy hy=>?_,λy hy=>h.2 y (by simpa using hy)⟩;rw[Yaj]at hy;rcases Yat.1 hy with rfl|hy
   ·exact hx
   ·exact h.1 y hy
  ·rw[Yaf hx]
   have hz:idxS r s=0:=Zzk λy hy hg=>hx (Zk6 (hs.1 y hy) hg);rw[hz];refine⟨by simp,λy hy hg=>?_⟩;rw[List.drop_zero]at hy;rcases Yat.1 hy with rfl|hy
   ·exact hx hg
   ·exact hx (Zk6 (hs.1 y hy) hg)
theorem Zm9 {st:List (Nat×Nat)} (hs:st.Pairwise gtS) (s:Nat×Nat) {i:Nat} {x:Nat×Nat} (hx:st[i]?=some x):gtS x s↔i<idxS st s:=by
 have h:=Zmm hs s;constructor
 ·intro hg
  rcases Yab i (idxS st s)with h1|h1
  ·exact h1
  ·refine absurd hg (h.2 x ?_)
   refine Ybz (i:=i-idxS st s) ?_;rw[Ybv,show idxS st s+(i-idxS st s)=i by omega];exact hx
 ·intro hi
  refine h.1 x (Ybz (i:=i) ?_);rw[Yci,Yag hi];exact hx
structure StOK (st:List (Nat×Nat)) (S:Nat×Nat->Prop):Prop where
 sorted:st.Pairwise gtS
 mem:∀ s,s∈st↔S s
def Zhu (st:List (Nat×Nat)) (s:Nat×Nat):List (Nat×Nat):=st.take (idxS st s)++st.drop (idxS st s+1)
def addS (st:List (Nat×Nat)) (s:Nat×Nat):List (Nat×Nat):=st.take (idxS st s)++s :: st.drop (idxS st s)
theorem StOK.at_ {st:List (Nat×Nat)} {S:Nat×Nat->Prop} (h:StOK st S) {s:Nat×Nat} (hs:S s):st[idxS st s]?=some s:=by
 obtain⟨i,hi⟩:=List.mem_iff_getElem?.1 ((h.mem s).2 hs);have h1:=Zm9 h.sorted s hi;have h2:¬ i<idxS st s:=λe=>Znj s (h1.2 e);rcases Yab (idxS st s) i with h3|h3
 ·have hlt:=(Ybb.1 hi).1
  have hx:st[idxS st s]?=some (st[idxS st s]'(by omega)):=Yax _;have h4:=Zm9 h.sorted s hx;have h5:=Yck.1 h.sorted (idxS st s) i (by omega) hlt h3;rw[(Ybb.1 hi).2]at h5;exact absurd (h4.1 h5) (by omega)
 ·obtain rfl:i=idxS st s:=by omega
  exact hi
theorem StOK.drop {st:List (Nat×Nat)} {S:Nat×Nat->Prop} (h:StOK st S) {s:Nat×Nat} (hs:S s):StOK (Zhu st s) (λx=>S x/\x≠s):=by
 have ha:=h.at_ hs;have hlt:=(Ybb.1 ha).1;have hsub:(Zhu st s).Sublist st:=by
  unfold Zhu;have:st=st.take (idxS st s)++st.drop (idxS st s):=(Yau _ _).symm;conv=>rhs;rw[this]
  refine List.Sublist.append (List.Sublist.refl _) ?_;rw[<- Ya1];exact List.drop_sublist _ _
 refine⟨h.sorted.sublist hsub,λx=>?_⟩;have hd:st.drop (idxS st s)=s :: st.drop (idxS st s+1):=by
  rw[Ycg hlt,(Ybb.1 ha).2]
 have hst:st=st.take (idxS st s)++(s :: st.drop (idxS st s+1)):=by
  rw[<- hd];exact(Yau _ _).symm
 have hpw:=h.sorted;rw[hst,Ycl]at hpw;obtain⟨_,h2,h3⟩:=hpw;rw[Ycj]at h2;constructor
 ·intro hx
  refine⟨(h.mem x).1 (hsub.subset hx),?_⟩;rintro rfl;unfold Zhu at hx;rcases Ybj.1 hx with hx|hx
  ·exact Znj _ (h3 _ hx _ (Yam ..))
  ·exact Znj _ (h2.1 _ hx)
 ·rintro⟨hx,hne⟩
  have:=(h.mem x).2 hx
  rw[hst]at this;unfold Zhu;rcases Ybj.1 this with hx|hx
  ·exact List.mem_append_left _ hx
  ·rcases Yat.1 hx with hx|hx
   ·exact absurd hx hne
   ·exact List.mem_append_right _ hx
theorem StOK.add {st:List (Nat×Nat)} {S:Nat×Nat->Prop} (h:StOK st S) {s:Nat×Nat} (hs:¬ S s):StOK (addS st s) (λx=>S x\/x=s):=by
 have hsp:=Zmm h.sorted s;have hst:=(Yau (idxS st s) st).symm;have hpw:=h.sorted;rw[hst,Ycl]at hpw;obtain⟨h1,h2,h3⟩:=hpw;refine⟨?_,λx=>?_⟩
 ·unfold addS
  rw[Ycl];refine⟨h1,?_,λx hx y hy=>?_⟩
  ·rw[Ycj]
   refine⟨λy hy=>?_,h2⟩;rcases Decidable.em (gtS s y)with hg|hg
   ·exact hg
   ·exact absurd ((h.mem y).1 (Ycf hy)) (Zph hg (hsp.2 y hy) ▸ hs)
  ·rcases Yat.1 hy with rfl|hy
   ·exact hsp.1 x hx
   ·exact h3 x hx y hy
 ·unfold addS
  rw[Ybj,Yat,<- h.mem x];conv=>rhs;rw[hst]
  rw[Ybj];constructor
  ·rintro(h|rfl|h)
   ·exact .inl (.inl h)
   ·exact .inr rfl
   ·exact .inl (.inr h)
  ·rintro((h|h)|rfl)
   ·exact .inl h
   ·exact .inr (.inr h)
   ·exact .inr (.inl rfl)
structure RowOK (n:Nat) (l:List Int) (qs:List Nat) (at_ before behind:List Int):Prop where
 len:qs.length=l.length+1
 last:qs[l.length]?=some n
 first:qs[0]?=some 0
 inc:∀ (i j p q:Nat),i<j->qs[i]?=some p->qs[j]?=some q->p<q
 tok:∀ (i:Nat) (a:Int) (p:Nat),l[i]?=some a->qs[i]?=some p->at_[p]?=some a
 beh:∀ (i p q:Nat),qs[i]?=some p->qs[i+1]?=some q->behind[p]?=some (q:Int)
 bef:∀ (i p q:Nat),qs[i]?=some p->qs[i+1]?=some q->before[q]?=some (p:Int)
 bef0:before[0]?=some (-1)
 atL:at_.length=n
 befL:before.length=n+1
 behL:behind.length=n
section
variable {n:Nat} {l:List Int} {qs:List Nat} {at_ before behind:List Int}
theorem RowOK.lt (h:RowOK n l qs at_ before behind) {i p:Nat} (hi:i<l.length) (hp:qs[i]?=some p):p<n:=h.inc i l.length p n hi hp h.last
theorem RowOK.le (h:RowOK n l qs at_ before behind) {i p:Nat} (hp:qs[i]?=some p):p<=n:=by
 have hi:=(Ybb.1 hp).1;rw[h.len]at hi;rcases Yab i l.length with h1|h1
 ·exact Nat.le_of_lt (h.lt h1 hp)
 ·obtain rfl:i=l.length:=by omega
  rw[h.last]at hp;cases hp
  exact Yar _
theorem RowOK.inj (h:RowOK n l qs at_ before behind) {i j p:Nat} (hi:qs[i]?=some p) (hj:qs[j]?=some p):i=j:=by
 rcases Nat.lt_trichotomy i j with h1|h1|h1
 ·exact absurd (h.inc i j p p h1 hi hj) (Ycm _)
 ·exact h1
 ·exact absurd (h.inc j i p p h1 hj hi) (Ycm _)
theorem RowOK.get (h:RowOK n l qs at_ before behind) {i:Nat} (hi:i<=l.length):∃ p,qs[i]?=some p:=⟨_,Yax (by rw[h.len];omega)⟩
theorem RowOK.merge (h:RowOK n l qs at_ before behind) {i p g q:Nat} (hp:qs[i]?=some p) (hg:qs[i+1]?=some g) (hq:qs[i+2]?=some q) (t:Int):
  RowOK n (Za2 l i t) (qs.eraseIdx (i+1)) (at_.set p t) (before.set q p) (behind.set p q):=by
 have hi2:i+2<qs.length:=(Ybb.1 hq).1;have hil:i+1<l.length:=by rw[h.len]at hi2;omega
 have hget:∀ j,(qs.eraseIdx (i+1))[j]?=if j<i+1 then qs[j]? else qs[j+1]?:=λj=>List.getElem?_eraseIdx
 have hml:=Zeg hil t;refine {
  len:=?_,last:=?_,first:=?_,inc:=?_,tok:=?_,beh:=?_,bef:=?_,bef0:=?_
  atL:=by rw[Ybp];exact h.atL
  befL:=by rw[Ybp];exact h.befL
  behL:=by rw[Ybp];exact h.behL }
 ·rw[List.length_eraseIdx,Yag (by omega),hml,h.len];omega
 ·rw[hget,hml,Yaf (by omega),show l.length-1+1=l.length by omega];exact h.last
 ·rw[hget,Yag (by omega)];exact h.first
 ·intro x y a b hxy hx hy
  rw[hget]at hx hy;split at hx<;>split at hy
  ·exact h.inc x y a b hxy hx hy
  ·exact h.inc x (y+1) a b (by omega) hx hy
  ·omega
  ·exact h.inc (x+1) (y+1) a b (by omega) hx hy
 ·intro j a r ha hr
  rw[Zhq hil]at ha;rw[hget]at hr;by_cases h1:j<i
  ·rw[Yag h1]at ha
   rw[Yag (by omega)]at hr;have hne:p≠r:=λe=>by have:=h.inj hp (e ▸ hr);omega
   rw[Ycn hne];exact h.tok j a r ha hr
  ·rw[Yaf h1]at ha
   by_cases h2:j=i
   ·subst h2
    rw[Yag rfl]at ha;rw[Yag (by omega),hp]at hr;cases ha;cases hr
    rw[List.getElem?_set_self (by rw[h.atL];exact h.lt (by omega) hp)]
   ·rw[Yaf h2]at ha
    rw[Yaf (by omega)]at hr;have hne:p≠r:=λe=>by have:=h.inj hp (e ▸ hr);omega
    rw[Ycn hne];exact h.tok (j+1) a r ha hr
 ·intro j a b ha hb
  rw[hget]at ha hb;by_cases h1:j<i
  ·rw[Yag (by omega)]at ha hb
   have hne:p≠a:=λe=>by have:=h.inj hp (e ▸ ha);omega
   rw[Ycn hne];exact h.beh j a b ha hb
  ·by_cases h2:j=i
   ·subst h2
    rw[Yag (by omega),hp]at ha;rw[Yaf (by omega),show j+1+1=j+2 from rfl,hq]at hb;cases ha;cases hb
    rw[List.getElem?_set_self (by rw[h.behL];exact h.lt (by omega) hp)]
   ·rw[Yaf (by omega)]at ha hb
    have hne:p≠a:=λe=>by have:=h.inj hp (e ▸ ha);omega
    rw[Ycn hne];exact h.beh (j+1) a b ha hb
 ·intro j a b ha hb
  rw[hget]at ha hb;by_cases h1:j<i
  ·rw[Yag (by omega)]at ha hb
   have hne:q≠b:=λe=>by have:=h.inj hq (e ▸ hb);omega
   rw[Ycn hne];exact h.bef j a b ha hb
  ·by_cases h2:j=i
   ·subst h2
    rw[Yag (by omega),hp]at ha;rw[Yaf (by omega),show j+1+1=j+2 from rfl,hq]at hb;cases ha;cases hb
    rw[List.getElem?_set_self (by rw[h.befL];have:=h.le hq;omega)]
   ·rw[Yaf (by omega)]at ha hb
    have hne:q≠b:=λe=>by have:=h.inj hq (e ▸ hb);omega
    rw[Ycn hne];exact h.bef (j+1) a b ha hb
 ·have hne:q≠0:=λe=>by have:=h.inc 0 (i+2) 0 q (by omega) h.first hq;omega
  rw[Ycn hne];exact h.bef0
def Za5 (M:List Mg) (l:List Int) (qs:List Nat) (j:Nat):Option (Nat×Nat):=
 match qs[j]?,Zb0 M l j with
 | some p,some k=>some (k,p)
 | _,_=>none
theorem stepOf_some {M:List Mg} {j:Nat} {s:Nat×Nat}:Za5 M l qs j=some s↔qs[j]?=some s.2/\Zb0 M l j=some s.1:=by
 unfold Za5;constructor
 ·intro h
  split at h
  ·rename_i p k h1 h2;cases h;exact⟨h1,h2⟩
  ·cases h
 ·rintro⟨h1,h2⟩
  rw[h1,h2]
def Zcg (M:List Mg) (l:List Int) (qs:List Nat) (s:Nat×Nat):Prop:=∃ j,Za5 M l qs j=some s
theorem RowOK.step_inj (h:RowOK n l qs at_ before behind) {M:List Mg} {i j:Nat} {s s':Nat×Nat} (hi:Za5 M l qs i=some s) (hj:Za5 M l qs j=some s') (e:s.2=s'.2):i=j:=by
 rw[stepOf_some]at hi hj;exact h.inj hi.1 (e ▸ hj.1)
theorem Zxn {M:List Mg} {st:List (Nat×Nat)} {k p:Nat} (h:RowOK n l qs at_ before behind) (hs:StOK st (Zcg M l qs)) (hl:st[st.length-1]?=some (k,p)):
  ∃ i g q,Zdm M l=some (k,i)/\qs[i]?=some p/\qs[i+1]?=some g/\qs[i+2]?=some q/\Za5 M l qs i=some (k,p):=by
 have hm:=(hs.mem _).1 (Ybz hl);obtain⟨i,hi⟩:=hm;have hi':=stepOf_some.1 hi;have hin:=Zei hi'.2;obtain⟨g,hg⟩:=h.get (i:=i+1) (by omega);obtain⟨q,hq⟩:=h.get (i:=i+2) (by omega);refine⟨i,g,q,Zw4 hi'.2 (λj k' hk=>?_),hi'.1,hg,hq,hi⟩;obtain⟨r,hr⟩:=h.get (i:=j) (by have:=Zei hk;omega);have hmem:(k',r)∈st:=(hs.mem _).2 ⟨j,stepOf_some.2 ⟨hr,hk⟩⟩;obtain⟨a,ha⟩:=List.mem_iff_getElem?.1 hmem;have hlt:=(Ybb.1 ha).1;have hll:=(Ybb.1 hl).1;rcases Yab a (st.length-1)with h1|h1
 ·have h2:=Yck.1 hs.sorted a (st.length-1) hlt hll h1
  rw[(Ybb.1 ha).2,(Ybb.1 hl).2]at h2;rcases h2 with h2|⟨h2,h3⟩
  ·exact .inl h2
  ·refine .inr ⟨h2,?_⟩
   rcases Yab j i with h4|h4
   ·have:=h.inc j i r p h4 hr hi'.1
    have h3':p<r:=h3;omega
   ·exact h4
 ·obtain rfl:a=st.length-1:=by omega
  rw[hl]at ha;cases ha
  exact .inr ⟨rfl,Nat.le_of_eq (h.inj hi'.1 hr)⟩
def dropO (st:List (Nat×Nat)):Option (Nat×Nat)->List (Nat×Nat)
 | none=>st
 | some s=>Zhu st s
def addO (st:List (Nat×Nat)):Option (Nat×Nat)->List (Nat×Nat)
 | none=>st
 | some s=>addS st s
theorem StOK.dropO {st:List (Nat×Nat)} {S:Nat×Nat->Prop} (h:StOK st S) {o:Option (Nat×Nat)} (ho:∀ s,o=some s->S s):StOK (dropO st o) (λx=>S x/\o≠some x):=by
 cases o with
 | none=>exact⟨h.sorted,λs=>by simp[Go.Proofs.YthcjikpabpgpfaaGreat.dropO,h.mem]⟩
 | some s=>
  have:=h.drop (ho s rfl)
  refine⟨this.sorted,λx=>?_⟩;show x∈Zhu st s↔_;rw[this.mem x];constructor
  ·rintro⟨h1,h2⟩;exact⟨h1,λe=>h2 (Ya9 e).symm⟩
  ·rintro⟨h1,h2⟩;exact⟨h1,λe=>h2 (by rw[e])⟩
theorem StOK.addO {st:List (Nat×Nat)} {S:Nat×Nat->Prop} (h:StOK st S) {o:Option (Nat×Nat)} (ho:∀ s,o=some s->¬ S s):StOK (addO st o) (λx=>S x\/o=some x):=by
 cases o with
 | none=>exact⟨h.sorted,λs=>by simp[Go.Proofs.YthcjikpabpgpfaaGreat.addO,h.mem]⟩
 | some s=>
  have:=h.add (ho s rfl)
  refine⟨this.sorted,λx=>?_⟩;show x∈addS st s↔_;rw[this.mem x];constructor
  ·rintro(h1|h1)
   ·exact .inl h1
   ·exact .inr (by rw[h1])
  ·rintro(h1|h1)
   ·exact .inl h1
   ·exact .inr (Ya9 h1).symm
theorem StOK.iff {st:List (Nat×Nat)} {S S':Nat×Nat->Prop} (h:StOK st S) (e:∀ s,S s↔S' s):StOK st S':=⟨h.sorted,λs=>(h.mem s).trans (e s)⟩
def Zaw (M:List Mg) (l:List Int) (qs:List Nat):Nat->Option (Nat×Nat)
 | 0=>none
 | j+1=>Za5 M l qs j
theorem stepAhead_some {M:List Mg} {j:Nat} {s:Nat×Nat}:Zaw M l qs j=some s↔∃ i,j=i+1/\Za5 M l qs i=some s:=by
 cases j with
 | zero=>simp[Zaw]
 | succ j=>
  constructor
  ·intro h;exact⟨j,rfl,h⟩
  ·rintro⟨i,e,h⟩
   obtain rfl:j=i:=by omega
   exact h
def st3 (M:List Mg) (l:List Int) (qs:List Nat) (i:Nat) (st:List (Nat×Nat)):List (Nat×Nat):=
 dropO (dropO (dropO st (Zaw M l qs i)) (Za5 M l qs i)) (Za5 M l qs (i+1))
theorem RowOK.drop3 (h:RowOK n l qs at_ before behind) {M:List Mg} {st:List (Nat×Nat)} (hs:StOK st (Zcg M l qs)) (i:Nat):
  StOK (dropO st (Zaw M l qs i)) (λx=>Zcg M l qs x/\Zaw M l qs i≠some x)/\
  (∀ s,Za5 M l qs i=some s->Zcg M l qs s/\Zaw M l qs i≠some s)/\
  StOK (dropO (dropO st (Zaw M l qs i)) (Za5 M l qs i)) (λx=>(Zcg M l qs x/\Zaw M l qs i≠some x)/\Za5 M l qs i≠some x)/\
  (∀ s,Za5 M l qs (i+1)=some s->(Zcg M l qs s/\Zaw M l qs i≠some s)/\Za5 M l qs i≠some s)/\
  StOK (st3 M l qs i st) (λx=>((Zcg M l qs x/\Zaw M l qs i≠some x)/\Za5 M l qs i≠some x)/\Za5 M l qs (i+1)≠some x):=by
 have h1:=hs.dropO (o:=Zaw M l qs i) (λs e=>by
  obtain⟨j,_,hj⟩:=stepAhead_some.1 e;exact⟨j,hj⟩)
 have e2:∀ s,Za5 M l qs i=some s->Zcg M l qs s/\Zaw M l qs i≠some s:=λs e=>⟨⟨i,e⟩,λe2=>by
  obtain⟨j,hj,h3⟩:=stepAhead_some.1 e2;have:=h.step_inj e h3 rfl
  omega⟩
 have h2:=h1.dropO (o:=Za5 M l qs i) e2;have e3:∀ s,Za5 M l qs (i+1)=some s->(Zcg M l qs s/\Zaw M l qs i≠some s)/\Za5 M l qs i≠some s:=λs e=>⟨⟨⟨i+1,e⟩,λe2=>by
  obtain⟨j,hj,h3⟩:=stepAhead_some.1 e2;have:=h.step_inj e h3 rfl
  omega⟩,λe2=>by
  have:=h.step_inj e e2 rfl
  omega⟩
 exact⟨h1,e2,h2,e3,h2.dropO e3⟩
theorem Zjh {M:List Mg} {i:Nat} (hi:i+1<l.length) (t:Int) (j:Nat) (h1:j+1<i\/i<j):
  Za5 M (Za2 l i t) (qs.eraseIdx (i+1)) j=Za5 M l qs (if j<i then j else j+1):=by
 have hget:(qs.eraseIdx (i+1))[j]?=if j<i+1 then qs[j]? else qs[j+1]?:=List.getElem?_eraseIdx
 unfold Za5 Zb0;rw[hget,Zhq hi,Zhq hi];rcases h1 with h1|h1
 ·rw[Yag (by omega),Yag (by omega),Yag (by omega),Yag (by omega)]
 ·rw[Yaf (by omega),Yaf (by omega),Yaf (by omega),Yaf (by omega),Yaf (by omega),Yaf (by omega)]
def st5 (M:List Mg) (l:List Int) (qs:List Nat) (i:Nat) (t:Int) (st:List (Nat×Nat)):List (Nat×Nat):=
 addO (addO (st3 M l qs i st) (Zaw M (Za2 l i t) (qs.eraseIdx (i+1)) i)) (Za5 M (Za2 l i t) (qs.eraseIdx (i+1)) i)
theorem RowOK.add2 (h:RowOK n l qs at_ before behind) {M:List Mg} {st:List (Nat×Nat)} (hs:StOK st (Zcg M l qs)) {i p g q:Nat} (hp:qs[i]?=some p) (hg:qs[i+1]?=some g) (hq:qs[i+2]?=some q) (t:Int):
  StOK (addO (st3 M l qs i st) (Zaw M (Za2 l i t) (qs.eraseIdx (i+1)) i)) (λx=>(((Zcg M l qs x/\Zaw M l qs i≠some x)/\Za5 M l qs i≠some x)/\Za5 M l qs (i+1)≠some x)\/Zaw M (Za2 l i t) (qs.eraseIdx (i+1)) i=some x)/\
  StOK (st5 M l qs i t st) (Zcg M (Za2 l i t) (qs.eraseIdx (i+1))):=by
 have hm:=h.merge hp hg hq t;have hi2:i+2<qs.length:=(Ybb.1 hq).1;have hil:i+1<l.length:=by rw[h.len]at hi2;omega
 obtain⟨_,_,_,_,h3⟩:=h.drop3 hs i;have hget:∀ j,(qs.eraseIdx (i+1))[j]?=if j<i+1 then qs[j]? else qs[j+1]?:=λj=>List.getElem?_eraseIdx
 -- what is left stands elsewhere
 have hold:∀ x,(((Zcg M l qs x/\Zaw M l qs i≠some x)/\Za5 M l qs i≠some x)/\Za5 M l qs (i+1)≠some x)↔∃ j,(j+1<i\/i<j)/\Za5 M (Za2 l i t) (qs.eraseIdx (i+1)) j=some x:=by
  intro x;constructor
  ·rintro⟨⟨⟨⟨j,hj⟩,n1⟩,n2⟩,n3⟩
   have a1:j+1≠i:=λe=>n1 (stepAhead_some.2 ⟨j,e.symm,hj⟩);have a2:j≠i:=λe=>n2 (e ▸ hj);have a3:j≠i+1:=λe=>n3 (e ▸ hj);rcases Yab j i with h4|h4
   ·refine⟨j,.inl (by omega),?_⟩
    rw[Zjh hil t j (.inl (by omega)),Yag h4];exact hj
   ·refine⟨j-1,.inr (by omega),?_⟩
    rw[Zjh hil t (j-1) (.inr (by omega)),Yaf (by omega),show j-1+1=j by omega];exact hj
  ·rintro⟨j,hj,e⟩
   rw[Zjh hil t j hj]at e;refine⟨⟨⟨⟨_,e⟩,λe2=>?_⟩,λe2=>?_⟩,λe2=>?_⟩
   ·obtain⟨r,hr,h4⟩:=stepAhead_some.1 e2
    have:=h.step_inj e h4 rfl
    split at this<;>omega
   ·have:=h.step_inj e e2 rfl
    split at this<;>omega
   ·have:=h.step_inj e e2 rfl
    split at this<;>omega
 have h4:=h3.addO (o:=Zaw M (Za2 l i t) (qs.eraseIdx (i+1)) i) (λs e hS=>by
  obtain⟨j,hj,e2⟩:=(hold s).1 hS;obtain⟨r,hr,e3⟩:=stepAhead_some.1 e;have:=hm.step_inj e2 e3 rfl
  omega)
 have h5:=h4.addO (o:=Za5 M (Za2 l i t) (qs.eraseIdx (i+1)) i) (λs e hS=>by
  rcases hS with hS|hS
  ·obtain⟨j,hj,e2⟩:=(hold s).1 hS
   have:=hm.step_inj e2 e rfl
   omega
  ·obtain⟨r,hr,e3⟩:=stepAhead_some.1 hS
   have:=hm.step_inj e3 e rfl
   omega)
 refine⟨h4,h5.iff λx=>?_⟩;rw[hold x];constructor
 ·rintro((⟨j,_,e⟩|e)|e)
  ·exact⟨j,e⟩
  ·obtain⟨r,_,e⟩:=stepAhead_some.1 e
   exact⟨r,e⟩
  ·exact⟨i,e⟩
 ·rintro⟨j,e⟩
  by_cases a1:j=i
  ·exact .inr (a1 ▸ e)
  ·by_cases a2:j+1=i
   ·exact .inl (.inr (stepAhead_some.2 ⟨j,a2.symm,e⟩))
   ·exact .inl (.inl ⟨j,by omega,e⟩)
end
end
section
def befI (n:Nat):List Int:=(List.range n).map λ(i:Nat)=>(i:Int)-1
def behI (n:Nat):List Int:=(List.range n).map λ(i:Nat)=>(i:Int)+1
theorem Zkh (n:Nat):befI (n+1)=befI n++[(n:Int)-1]:=by unfold befI;rw[List.range_succ,Ybe];rfl
theorem Zpd (n:Nat):behI (n+1)=behI n++[(n:Int)+1]:=by unfold behI;rw[List.range_succ,Ybe];rfl
theorem Zbr (n:Nat):(befI n).length=n:=by simp[befI]
theorem Zc9 (n:Nat):(behI n).length=n:=by simp[behI]
theorem Zx1 {n i:Nat} (h:i<n):(befI n)[i]?=some ((i:Int)-1):=by unfold befI;rw[Ych,Ycd h];rfl
theorem Qd5 {n i:Nat} (h:i<n):(behI n)[i]?=some ((i:Int)+1):=by unfold behI;rw[Ych,Ycd h];rfl
theorem Zfn {n i p:Nat} (h:(List.range n)[i]?=some p):i=p/\i<n:=by
 have hi:=(Ybb.1 h).1;rw[List.length_range]at hi;rw[Ycd hi]at h;exact⟨Ya9 h,hi⟩
theorem Zmf (s:List UInt8):RowOK s.length (Zb6 s) (List.range (s.length+1)) (Zb6 s) (befI (s.length+1)) (behI s.length) where
 len:=by rw[List.length_range,Za8]
 last:=by rw[Za8,Ycd (by omega)]
 first:=by rw[Ycd (by omega)]
 inc:=λi j p q hij hi hj=>by
  obtain⟨rfl,_⟩:=Zfn hi;obtain⟨rfl,_⟩:=Zfn hj;exact hij
 tok:=λi a p ha hp=>by
  obtain⟨rfl,_⟩:=Zfn hp;exact ha
 beh:=λi p q hp hq=>by
  obtain⟨rfl,_⟩:=Zfn hp;obtain⟨rfl,h2⟩:=Zfn hq;rw[Qd5 (by omega)];rfl
 bef:=λi p q hp hq=>by
  obtain⟨rfl,_⟩:=Zfn hp;obtain⟨rfl,h2⟩:=Zfn hq;rw[Zx1 h2];congr 1;omega
 bef0:=by rw[Zx1 (by omega)];rfl
 atL:=Za8 s
 befL:=Zbr _
 behL:=Zc9 _
structure StUp (M:List Mg) (l:List Int) (qs:List Nat) (j:Nat) (st:List (Nat×Nat)):Prop where
 mem:∀ s,s∈st↔∃ i,i<j/\Za5 M l qs i=some s
 pw:st.Pairwise λx y=>x.2<y.2
 len:st.length<=j
theorem StUp.nil (M:List Mg) (l:List Int) (qs:List Nat):StUp M l qs 0 []:=⟨λs=>by simp,.nil,Yar _⟩
theorem StUp.skip {M:List Mg} {l:List Int} {qs:List Nat} {j:Nat} {st:List (Nat×Nat)} (h:StUp M l qs j st) (hj:Za5 M l qs j=none):StUp M l qs (j+1) st:=
 ⟨λs=>(h.mem s).trans ⟨λ⟨i,h1,h2⟩=>⟨i,by omega,h2⟩,λ⟨i,h1,h2⟩=>⟨i,(by
  rcases Yab i j with h3|h3
  ·exact h3
  ·obtain rfl:i=j:=by omega
   rw[hj]at h2;cases h2),h2⟩⟩,h.pw,by have:=h.len;omega⟩
theorem StUp.push {M:List Mg} {l:List Int} {qs:List Nat} {j:Nat} {st:List (Nat×Nat)} (h:StUp M l qs j st) (hq:∀ (i k p q:Nat),i<k->qs[i]?=some p->qs[k]?=some q->p<q) {s:Nat×Nat} (hj:Za5 M l qs j=some s):StUp M l qs (j+1) (st++[s]):=by
 refine⟨λx=>?_,?_,by rw[Yaq,Yae];have:=h.len;omega⟩
 ·rw[Ybj,Ybi,h.mem x]
  constructor
  ·rintro(⟨i,h1,h2⟩|rfl)
   ·exact⟨i,by omega,h2⟩
   ·exact⟨j,by omega,hj⟩
  ·rintro⟨i,h1,h2⟩
   rcases Yab i j with h3|h3
   ·exact .inl ⟨i,h3,h2⟩
   ·obtain rfl:i=j:=by omega
    rw[hj]at h2;exact .inr (Ya9 h2).symm
 ·rw[Ycl]
  refine⟨h.pw,by simp,λx hx y hy=>?_⟩;rw[Ybi.1 hy];obtain⟨i,h1,h2⟩:=(h.mem x).1 hx;exact hq i j x.2 s.2 h1 (stepOf_some.1 h2).1 (stepOf_some.1 hj).1
theorem StUp.ok {M:List Mg} {l:List Int} {qs:List Nat} {j:Nat} {st st':List (Nat×Nat)} (h:StUp M l qs j st) (hj:l.length<=j) (hp:st'.Perm st) (hs:∀ (i j:Nat) (x y:Nat×Nat),i<j->st'[i]?=some x->st'[j]?=some y->¬ gtS y x):StOK st' (Zcg M l qs):=by
 refine⟨?_,λs=>?_⟩
 ·have hnd:st'.Pairwise (·≠·):=by
   have:st.Pairwise (·≠·):=h.pw.imp λ{a b} hab e=>by rw[e]at hab;exact Ycm _ hab
   exact(hp.pairwise_iff (λh1 h2=>h1 h2.symm)).2 this
  rw[Yck]at hnd ⊢;intro i k hi hk hik;have h1:=hnd i k hi hk hik;have h2:=hs i k _ _ hik (Yax hi) (Yax hk);rcases Decidable.em (gtS st'[i] st'[k])with h3|h3
  ·exact h3
  ·exact absurd (Zph h3 h2) h1
 ·rw[hp.mem_iff,h.mem s]
  exact⟨λ⟨i,_,h2⟩=>⟨i,h2⟩,λ⟨i,h2⟩=>⟨i,(by
   have:=Zei (stepOf_some.1 h2).2
   omega),h2⟩⟩
end
end Go.Proofs.YthcjikpabpgpfaaGreat
