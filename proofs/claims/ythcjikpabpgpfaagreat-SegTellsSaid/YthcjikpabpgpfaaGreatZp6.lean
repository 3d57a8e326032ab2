import Derived.Test.YthcjikpabpgpfaaGreatZp1
import Derived.Test.YthcjikpabpgpfaaGreatZp3
import Derived.Deep.QuietTactic
import Derived.BigQuiet
import Derived.Laws.StructEq
import Derived.Deep.DeepCutAuto
set_option linter.unusedSimpArgs false
set_option maxHeartbeats 16000000
set_option maxRecDepth 100000
namespace Go.Proofs.YthcjikpabpgpfaaGreat
section
theorem Zef {l:List Pst} {i:Nat} {x:Pst} (h:l[i]?=some x):pAt l i=x:=by
 unfold pAt;rw[Yaw,h];rfl
def spAt (s:List (Int×Int)) (k:Nat):Bool:=decide ((if k=0 then -1 else (s.getD (k-1) (0,0)).1)<(s.getD k (0,0)).1)&&decide ((if k=0 then -1 else (s.getD (k-1) (0,0)).2)<(s.getD k (0,0)).2)
theorem Zpp {l:List Int} {p:Int}:Za4 p l=true↔∀ k,k<l.length->(if k=0 then p else l.getD (k-1) 0)<l.getD k 0:=by
 rw[Qca];constructor
 ·intro h k hk
  have h1:=h k (l[k]'hk) (Yax hk);rw[Yaw (l:=l) (i:=k),Yax hk];exact h1
 ·intro h k x hx
  have hk:=(Ybb.1 hx).1;have h1:=h k hk;rw[Yaw (l:=l) (i:=k),hx]at h1;exact h1
theorem Zd0 (s:List (Int×Int)) (k:Nat):(poss s).getD k 0=(s.getD k (0,0)).1/\(atss s).getD k 0=(s.getD k (0,0)).2:=by
 unfold poss atss;rw[Yaw,Yaw,Yaw,Ych,Ych];cases s[k]? <;>exact⟨rfl,rfl⟩
theorem spots_rise {s:List (Int×Int)}:(Za4 (-1) (poss s)&&Za4 (-1) (atss s))=true↔∀ k,k<s.length->spAt s k=true:=by
 rw[Yal,Zpp,Zpp];have n1:=Zcx s;constructor
 ·rintro⟨h1,h2⟩ k hk
  have q1:=h1 k (by omega);have q2:=h2 k (by omega);rw[(Zd0 s k).1,(Zd0 s (k-1)).1]at q1;rw[(Zd0 s k).2,(Zd0 s (k-1)).2]at q2;unfold spAt;rw[Yb0 q1,Yb0 q2];rfl
 ·intro h
  constructor
  ·intro k hk
   have h1:=h k (by omega);unfold spAt at h1;rw[Yal,decide_eq_true_eq,decide_eq_true_eq]at h1;rw[(Zd0 s k).1,(Zd0 s (k-1)).1];exact h1.1
  ·intro k hk
   have h1:=h k (by omega);unfold spAt at h1;rw[Yal,decide_eq_true_eq,decide_eq_true_eq]at h1;rw[(Zd0 s k).2,(Zd0 s (k-1)).2];exact h1.2
theorem Zv2 {s:List (Int×Int)} {k:Nat} (h:∀ j,j<k->spAt s j=true):∀ j,j<k->0<=(s.getD j (0,0)).1/\0<=(s.getD j (0,0)).2
 | 0,hj=>by
  have h1:=h 0 hj;unfold spAt at h1;simp only[Yal,decide_eq_true_eq,if_true]at h1;omega
 | j+1,hj=>by
  have ih:=Zv2 h j (by omega);have h1:=h (j+1) hj;unfold spAt at h1;simp only[Yal,decide_eq_true_eq,Ybk,Yaf (Nat.succ_ne_zero j)]at h1;omega
theorem Zji {l:List Pst} (h:4096<l.length):Zb3 l=2:=by unfold Zb3;rw[Yag h]
theorem Zrc {l:List Pst} {k:Nat} (hk:k<l.length) (h:4096<(pAt l k).2.length):Zb3 l=2:=by
 unfold Zb3;split
 ·rfl
 ·rw[Yag]
  cases hm:Zcv l l.length with
  | true=>rfl
  | false=>have:=manyUp_iff.1 hm k hk;omega
theorem Zwn {l:List Pst} (h1:l.length<=4096) (h2:Zcv l l.length=false) {k:Nat} (hk:k<l.length) (h:okAt l k=false):Zb3 l=1:=by
 unfold Zb3;rw[Yaf (by omega),h2,Yaf (by simp),Yaf];intro e;rw[okUp_iff.1 e k hk]at h;cases h
theorem Zt8 {l:List Pst} (h1:l.length<=4096) (h2:Zcv l l.length=false) (h:okUp l l.length=true):Zb3 l=0:=by
 unfold Zb3;rw[Yaf (by omega),h2,Yaf (by simp),Yag h]
theorem Zbw {l:List Pst} {i:Nat} (h:(Za4 (-1) (poss (pAt l i).2)&&Za4 (-1) (atss (pAt l i).2))=false):okAt l i=false:=by
 unfold okAt;rw[h];simp
structure MDoc where
 doc:Int
 T:List Int
 S:List Int
def mD (L:List MDoc) (i:Nat):MDoc:=L.getD i ⟨0,[],[]⟩
def Zbu (x:MDoc) (t:Int):Nat->List (Int×Int)
 | 0=>[]
 | k+1=>if x.T.getD k 0=t then Zbu x t k++[((k:Int),x.S.getD k 0)] else Zbu x t k
def Zdw (x:MDoc) (t:Int):List (Int×Int):=Zbu x t x.T.length
def Zed (x:MDoc) (t:Int):List Pst:=if 0<(Zdw x t).length then [(x.doc,Zdw x t)] else []
def Zb5 (L:List MDoc) (t:Int):Nat->List Pst
 | 0=>[]
 | i+1=>Zb5 L t i++Zed (mD L i) t
def Zax (L:List MDoc) (t:Int):List Pst:=Zb5 L t L.length
def insI (n:Int):List Int->List Int
 | []=>[n]
 | a :: r=>if a<n then a :: insI n r else if a=n then a :: r else n :: a :: r
def Zbv (a:List Int) (T:List Int):List Int:=T.foldl (λa t=>insI t a) a
def Zas (L:List MDoc):List Int:=L.foldl (λa x=>Zbv a x.T) []
def Zjs (x:MDoc) (i:Nat):Bool:=decide (x.T.getD i 0<0)||(decide (x.S.getD i 0<0)||(decide (0<i)&&decide (x.S.getD i 0<=x.S.getD (i-1) 0)))
def Zdk (x:MDoc):Nat->Bool
 | 0=>false
 | i+1=>Zdk x i||Zjs x i
def Zjr (L:List MDoc):Int:=if L.length=0 then -1 else (mD L (L.length-1)).doc
def mErr (L:List MDoc) (x:MDoc):Int:=
 if 4096<=L.length\/4096<x.T.length then 2
 else if x.doc<0\/4294967296<x.doc\/(0<L.length/\x.doc<=(mD L (L.length-1)).doc)\/x.T.length≠x.S.length then 1
 else if Zdk x x.T.length=true then 1 else 0
def mAdd (L:List MDoc) (x:MDoc):List MDoc:=if mErr L x=0 then L++[x] else L
def Zof (X:List MDoc):Nat->List MDoc
 | 0=>[]
 | i+1=>mAdd (Zof X i) (mD X i)
structure DocOk (x:MDoc):Prop where
 few:x.T.length<=4096
 same:x.S.length=x.T.length
 doc:0<=x.doc/\x.doc<=4294967296
 good:Zdk x x.T.length=false
 fit:(∀ y∈x.T,y<=9223372036854775807)/\∀ y∈x.S,y<=9223372036854775807
structure MWF (L:List MDoc):Prop where
 few:L.length<=4096
 ok:∀ x∈L,DocOk x
 up:∀ i j,i<j->j<L.length->(mD L i).doc<(mD L j).doc
theorem Zq8 {L:List MDoc} {i:Nat} {x:MDoc} (h:L[i]?=some x):mD L i=x:=by
 unfold mD;rw[Yaw,h];rfl
theorem Zp0 {L:List MDoc} {i:Nat} (h:i<L.length):mD L i∈L:=by
 rw[Zq8 (Yax h)];exact Yay h
theorem Zrp {L M:List MDoc} {i:Nat} (h:i<L.length):mD (L++M) i=mD L i:=by
 unfold mD;rw[Yaw,Yaw,Yba h]
theorem Zyk (L:List MDoc) (x:MDoc):mD (L++[x]) L.length=x:=by
 unfold mD;rw[Yaw,Ybc (Yar _),Ybq];rfl
theorem MWF.nil:MWF []:=⟨by simp,by simp,λi j _ h=>by simp at h⟩
theorem Zw6 {L:List MDoc} {x:MDoc} (h:mErr L x=0):L.length<4096/\x.T.length<=4096/\(0<=x.doc/\x.doc<=4294967296)/\(0<L.length->(mD L (L.length-1)).doc<x.doc)/\x.S.length=x.T.length/\Zdk x x.T.length=false:=by
 unfold mErr at h;split at h
 ·cases h
 ·rename_i h1
  split at h
  ·cases h
  ·rename_i h2
   split at h
   ·cases h
   ·rename_i h3
    refine⟨by omega,by omega,by omega,λh0=>by omega,by omega,by simpa using h3⟩
theorem MWF.add {L:List MDoc} (h:MWF L) {x:MDoc} (hf:(∀ y∈x.T,y<=9223372036854775807)/\∀ y∈x.S,y<=9223372036854775807):MWF (mAdd L x):=by
 unfold mAdd;split
 ·rename_i h0
  obtain⟨h1,h2,h3,h4,h5,h6⟩:=Zw6 h0;refine⟨by simp;omega,λy hy=>?_,λi j hij hj=>?_⟩
  ·rcases Ybj.1 hy with hy|hy
   ·exact h.ok y hy
   ·rw[Ybi.1 hy]
    exact⟨h2,h5,h3,h6,hf⟩
  ·rw[Yaq,Yae]at hj
   rcases Yab j L.length with hj2|hj2
   ·rw[Zrp (by omega),Zrp hj2]
    exact h.up i j hij hj2
   ·obtain rfl:j=L.length:=by omega
    rw[Zyk,Zrp hij];have h7:=h4 (by omega);rcases Yab i (L.length-1)with hi|hi
    ·have:=h.up i (L.length-1) hi (by omega);omega
    ·rw[show i=L.length-1 by omega];exact h7
 ·exact h
theorem badTo_iff {x:MDoc} {n:Nat}:Zdk x n=false↔∀ i,i<n->Zjs x i=false:=by
 induction n with
 | zero=>simp[Zdk]
 | succ n ih=>
  rw[Zdk,Bool.or_eq_false_iff,ih];constructor
  ·rintro⟨h1,h2⟩ i hi
   rcases Yab i n with h|h
   ·exact h1 i h
   ·obtain rfl:i=n:=by omega
    exact h2
  ·exact λh=>⟨λi hi=>h i (by omega),h n (by omega)⟩
theorem badAt_iff {x:MDoc} {i:Nat}:Zjs x i=false↔0<=x.T.getD i 0/\0<=x.S.getD i 0/\(0<i->x.S.getD (i-1) 0<x.S.getD i 0):=by
 unfold Zjs;simp only[Bool.or_eq_false_iff,decide_eq_false_iff_not,Bool.and_eq_false_iff];constructor
 ·rintro⟨h1,h2,h3⟩
  refine⟨by omega,by omega,λh=>?_⟩;rcases h3 with h3|h3
  ·exact absurd h h3
  ·omega
 ·rintro⟨h1,h2,h3⟩
  refine⟨by omega,by omega,?_⟩;by_cases h:0<i
  ·right;have:=h3 h;omega
  ·left;exact h
theorem DocOk.tok {x:MDoc} (h:DocOk x) {i:Nat} (hi:i<x.T.length):0<=x.T.getD i 0/\0<=x.S.getD i 0:=by
 have:=badAt_iff.1 (badTo_iff.1 h.good i hi)
 exact⟨this.1,this.2.1⟩
theorem DocOk.up {x:MDoc} (h:DocOk x) {i:Nat}:∀ {j:Nat},i<j->j<x.T.length->x.S.getD i 0<x.S.getD j 0
 | 0,h1,_=>by omega
 | j+1,h1,h2=>by
  have h3:=(badAt_iff.1 (badTo_iff.1 h.good (j+1) h2)).2.2 (by omega);rw[Ybk]at h3;rcases Yab i j with h4|h4
  ·have:=h.up (i:=i) (j:=j) h4 (by omega);omega
  ·obtain rfl:i=j:=by omega
   exact h3
theorem Zgj (x:MDoc) (t:Int):∀ k,(Zbu x t k).length<=k
 | 0=>Yar _
 | k+1=>by
  have:=Zgj x t k
  rw[Zbu];split
  ·rw[Yaq,Yae];omega
  ·omega
theorem spotUp_mem {x:MDoc} {t:Int} {s:Int×Int}:∀ {k:Nat},s∈Zbu x t k↔∃ i,i<k/\x.T.getD i 0=t/\s=((i:Int),x.S.getD i 0)
 | 0=>by simp[Zbu]
 | k+1=>by
  have ih:=spotUp_mem (x:=x) (t:=t) (s:=s) (k:=k);rw[Zbu];split
  ·rename_i h
   rw[Ybj,ih,Ybi];constructor
   ·rintro(⟨i,h1,h2,h3⟩|h1)
    ·exact⟨i,by omega,h2,h3⟩
    ·exact⟨k,by omega,h,h1⟩
   ·rintro⟨i,h1,h2,h3⟩
    rcases Yab i k with h4|h4
    ·exact .inl ⟨i,h4,h2,h3⟩
    ·obtain rfl:i=k:=by omega
     exact .inr h3
  ·rename_i h
   rw[ih];constructor
   ·rintro⟨i,h1,h2,h3⟩
    exact⟨i,by omega,h2,h3⟩
   ·rintro⟨i,h1,h2,h3⟩
    rcases Yab i k with h4|h4
    ·exact⟨i,h4,h2,h3⟩
    ·obtain rfl:i=k:=by omega
     exact absurd h2 h
theorem insI_mem {n x:Int}:∀ {l:List Int},x∈insI n l↔x=n\/x∈l
 | []=>by simp[insI]
 | a :: r=>by
  rw[insI];split
  ·rw[Yat,insI_mem,Yat]
   constructor
   ·rintro(h|h|h)
    ·exact .inr (.inl h)
    ·exact .inl h
    ·exact .inr (.inr h)
   ·rintro(h|h|h)
    ·exact .inr (.inl h)
    ·exact .inl h
    ·exact .inr (.inr h)
  ·split
   ·rename_i h
    rw[h];simp
   ·simp
theorem Zwo {n:Int}:∀ {l:List Int},l.Pairwise (·<·)->(insI n l).Pairwise (·<·)
 | [],_=>by simp[insI]
 | a :: r,h=>by
  rw[Ycj]at h;rw[insI];split
  ·rename_i h1
   rw[Ycj];refine⟨λy hy=>?_,Zwo h.2⟩;rcases insI_mem.1 hy with h2|h2
   ·rw[h2];exact h1
   ·exact h.1 y h2
  ·split
   ·exact Ycj.2 h
   ·rename_i h1 h2
    rw[Ycj,Ycj];refine⟨λy hy=>?_,h⟩;rcases Yat.1 hy with rfl|h3
    ·omega
    ·have:=h.1 y h3;omega
theorem Ztr (n:Int):∀ l:List Int,(insI n l).length<=l.length+1
 | []=>by simp[insI]
 | a :: r=>by
  have:=Ztr n r
  rw[insI];split
  ·simp only[Yah];omega
  ·split
   ·omega
   ·simp
theorem termOne_mem {x:Int}:∀ {T a:List Int},x∈Zbv a T↔x∈a\/x∈T
 | [],a=>by simp[Zbv]
 | t :: T,a=>by
  have:=termOne_mem (x:=x) (T:=T) (a:=insI t a)
  unfold Zbv at this ⊢;rw[List.foldl_cons,this,insI_mem,Yat];constructor
  ·rintro((h|h)|h)
   ·exact .inr (.inl h)
   ·exact .inl h
   ·exact .inr (.inr h)
  ·rintro(h|h|h)
   ·exact .inl (.inr h)
   ·exact .inl (.inl h)
   ·exact .inr h
theorem Zmj:∀ {T a:List Int},a.Pairwise (·<·)->(Zbv a T).Pairwise (·<·)
 | [],a,h=>h
 | t :: T,a,h=>by
  unfold Zbv;rw[List.foldl_cons];exact Zmj (T:=T) (Zwo h)
theorem Zht:∀ (T a:List Int),(Zbv a T).length<=a.length+T.length
 | [],a=>by simp[Zbv]
 | t :: T,a=>by
  have h1:=Zht T (insI t a);have h2:=Ztr t a;unfold Zbv at h1 ⊢;rw[List.foldl_cons,Yah];omega
theorem Zlw (T U a:List Int):Zbv a (T++U)=Zbv (Zbv a T) U:=by unfold Zbv;rw[List.foldl_append]
theorem Zoi (L:List MDoc) (x:MDoc):Zas (L++[x])=Zbv (Zas L) x.T:=by unfold Zas;rw[List.foldl_append];rfl
theorem terms_mem {x:Int} {L:List MDoc}:x∈Zas L↔∃ y∈L,x∈y.T:=by
 have key:∀ (L:List MDoc) (a:List Int),x∈L.foldl (λa x=>Zbv a x.T) a↔x∈a\/∃ y∈L,x∈y.T:=by
  intro L
  induction L with
  | nil=>intro a;simp
  | cons y L ih=>
   intro a;rw[List.foldl_cons,ih,termOne_mem];constructor
   ·rintro((h|h)|⟨z,h1,h2⟩)
    ·exact .inl h
    ·exact .inr ⟨y,Yam ..,h⟩
    ·exact .inr ⟨z,Yap _ h1,h2⟩
   ·rintro(h|⟨z,h1,h2⟩)
    ·exact .inl (.inl h)
    ·rcases Yat.1 h1 with rfl|h3
     ·exact .inl (.inr h2)
     ·exact .inr ⟨z,h3,h2⟩
 have:=key L []
 simpa[Zas]using this
theorem Zna (L:List MDoc):(Zas L).Pairwise (·<·):=by
 have key:∀ (L:List MDoc) (a:List Int),a.Pairwise (·<·)->(L.foldl (λa x=>Zbv a x.T) a).Pairwise (·<·):=by
  intro L
  induction L with
  | nil=>intro a h;exact h
  | cons y L ih=>intro a h;rw[List.foldl_cons];exact ih _ (Zmj h)
 exact key L [] List.Pairwise.nil
def totT (L:List MDoc):Nat:=(L.map λx=>x.T.length).sum
theorem Zee (L M:List MDoc):totT (L++M)=totT L+totT M:=by simp[totT]
theorem Zeh (L:List MDoc):(Zas L).length<=totT L:=by
 have key:∀ (L:List MDoc) (a:List Int),(L.foldl (λa x=>Zbv a x.T) a).length<=a.length+totT L:=by
  intro L
  induction L with
  | nil=>intro a;simp[totT]
  | cons y L ih=>
   intro a;have h1:=ih (Zbv a y.T);have h2:=Zht y.T a;have h3:totT (y :: L)=y.T.length+totT L:=by simp[totT]
   rw[List.foldl_cons];omega
 have:=key L []
 simpa[Zas]using this
theorem Zty {X:List MDoc} (h:∀ x∈X,(∀ y∈x.T,y<=9223372036854775807)/\∀ y∈x.S,y<=9223372036854775807):∀ i,i<=X.length->MWF (Zof X i)
 | 0,_=>MWF.nil
 | i+1,hi=>(Zty h i (by omega)).add (h _ (Zp0 (by omega)))
theorem Zea (L:List MDoc) (t:Int):∀ i,(Zb5 L t i).length<=i
 | 0=>Yar _
 | i+1=>by
  have:=Zea L t i
  rw[Zb5,Yaq];unfold Zed;split
  ·simp only[Yae];omega
  ·simp only[List.length_nil];omega
theorem rises_pw:∀ {l:List Int} {p:Int},Za4 p l=true↔(∀ y∈l,p<y)/\l.Pairwise (·<·)
 | [],p=>by simp[Za4]
 | a :: r,p=>by
  rw[Za4,Yal,rises_pw,decide_eq_true_iff,Ycj];constructor
  ·rintro⟨h1,h2,h3⟩
   exact⟨λy hy=>by
    rcases Yat.1 hy with rfl|hy
    ·exact h1
    ·have:=h2 y hy;omega,h2,h3⟩
  ·rintro⟨h1,h2,h3⟩
   exact⟨h1 a (Yam ..),h2,h3⟩
theorem Zhe {x:MDoc} (hx:DocOk x) (t:Int):∀ k,k<=x.T.length->(poss (Zbu x t k)).Pairwise (·<·)/\(atss (Zbu x t k)).Pairwise (·<·)
 | 0,_=>by simp[Zbu,poss,atss]
 | k+1,h=>by
  obtain⟨h1,h2⟩:=Zhe hx t k (by omega);rw[Zbu];split
  ·unfold poss at h1 ⊢
   unfold atss at h2 ⊢;rw[Ybe,Ybe,Ycl,Ycl];refine⟨⟨h1,by simp,λa ha b hb=>?_⟩,h2,by simp,λa ha b hb=>?_⟩
   ·obtain⟨s,hs,rfl⟩:=Yaz.1 ha
    obtain⟨i,hi,-,rfl⟩:=spotUp_mem.1 hs;simp at hb;subst hb;simp only;omega
   ·obtain⟨s,hs,rfl⟩:=Yaz.1 ha
    obtain⟨i,hi,-,rfl⟩:=spotUp_mem.1 hs;simp at hb;subst hb;have:=hx.up hi (by omega:k<x.T.length)
    simpa[Yaw]using this
  ·exact⟨h1,h2⟩
theorem Zej {L:List MDoc} {t:Int} {p:Pst}:∀ {k:Nat},p∈Zb5 L t k->∃ i,i<k/\p=((mD L i).doc,Zdw (mD L i) t)/\0<(Zdw (mD L i) t).length
 | 0,h=>by simp[Zb5]at h
 | k+1,h=>by
  rw[Zb5,Ybj]at h;rcases h with h|h
  ·obtain⟨i,h1,h2⟩:=Zej h
   exact⟨i,by omega,h2⟩
  ·unfold Zed at h
   split at h
   ·rename_i h0
    simp at h;exact⟨k,by omega,h,h0⟩
   ·simp at h
theorem Zpl {L:List MDoc} (hL:MWF L) (t:Int):∀ k,k<=L.length->((Zb5 L t k).map (·.1)).Pairwise (·<·)
 | 0,_=>by simp[Zb5]
 | k+1,h=>by
  have ih:=Zpl hL t k (by omega);rw[Zb5,Ybe,Ycl];refine⟨ih,?_,λa ha b hb=>?_⟩
  ·unfold Zed
   split<;>simp
  ·obtain⟨p,hp,rfl⟩:=Yaz.1 ha
   obtain⟨i,hi,rfl,-⟩:=Zej hp;unfold Zed at hb;split at hb
   ·simp at hb
    subst hb;exact hL.up i k hi (by omega)
   ·simp at hb
theorem Zdq {L:List MDoc} (hL:MWF L) (t:Int):ValidP (Zax L t):=by
 have hm:∀ p∈Zax L t,∃ x,DocOk x/\p=(x.doc,Zdw x t)/\0<(Zdw x t).length:=λp hp=>by
  obtain⟨i,hi,h1,h2⟩:=Zej hp;exact⟨mD L i,hL.ok _ (Zp0 hi),h1,h2⟩
 have hs:∀ x,DocOk x->∀ s∈Zdw x t,0<=s.1/\0<=s.2/\s.1<=9223372036854775807/\s.2<=9223372036854775807:=λx hx s hs=>by
  obtain⟨i,hi,-,rfl⟩:=spotUp_mem.1 hs;have h1:=(hx.tok hi).2;have h2:=hx.few;have h3:=hx.same;have h4:x.S.getD i 0<=9223372036854775807:=by
   refine hx.fit.2 _ ?_;rw[Yaw,Yax (by omega)];exact Yay (by omega)
  exact⟨by simp only;omega,h1,by simp only;omega,h4⟩
 have hd:=Zpl hL t L.length (Yar _);refine⟨?_,λp hp=>?_,λp hp=>?_,λp hp=>?_,λi hi=>?_,λp hp=>?_,λp hp=>?_,λp hp s hs'=>?_⟩
 ·have:=Zea L t L.length
  have:=hL.few
  unfold Zax;omega
 ·obtain⟨x,hx,rfl,-⟩:=hm p hp
  have h1:=Zgj x t x.T.length;have h2:=hx.few;unfold Zdw;simp only;omega
 ·obtain⟨x,hx,rfl,h⟩:=hm p hp
  exact h
 ·obtain⟨x,hx,rfl,-⟩:=hm p hp
  exact hx.doc
 ·unfold Zaq
  split
  ·obtain⟨x,hx,h,-⟩:=hm _ (Zay hi)
   rw[h];have:=hx.doc.1
   simp only;omega
  ·have h1:=Yck.1 hd (i-1) i (by rw[Ybf];have:i<(Zb5 L t L.length).length:=hi;omega) (by rw[Ybf];exact hi) (by omega)
   have e:∀ j,(hj:j<(Zax L t).length)->(pAt (Zax L t) j).1=((Zb5 L t L.length).map (·.1))[j]'(by rw[Ybf];exact hj):=λj hj=>by
    unfold pAt;rw[Yaw,Yax hj,List.getElem_map];rfl
   rw[e (i-1) (by omega),e i hi];exact h1
 ·obtain⟨x,hx,rfl,-⟩:=hm p hp
  refine rises_pw.2 ⟨λy hy=>?_,(Zhe hx t _ (Yar _)).1⟩;obtain⟨s,h1,rfl⟩:=Yaz.1 hy;have:=hs x hx s h1
  omega
 ·obtain⟨x,hx,rfl,-⟩:=hm p hp
  refine rises_pw.2 ⟨λy hy=>?_,(Zhe hx t _ (Yar _)).2⟩;obtain⟨s,h1,rfl⟩:=Yaz.1 hy;have:=hs x hx s h1
  omega
 ·obtain⟨x,hx,rfl,-⟩:=hm p hp
  have:=hs x hx s hs'
  omega
theorem Zq1 {L:List MDoc} (hL:MWF L) (t:Int):Zb3 (Zax L t)=0:=(Zex (Zdq hL t).fit).2 (Zdq hL t)
end
section
open Go.RowKit Go.Maps Go.WideMaps
def Zat (p:Int×Int):List Value:=[.int .i64 p.1,.int .i64 p.2]
theorem Qec (l:List (Int×Int)):(l.flatMap Zat).length=l.length*2:=by
 induction l with
 | nil=>rfl
 | cons a r ih=>rw[Yan,Yaq,ih,Yah];simp[Zat];omega
theorem Qcn:∀ (l:List (Int×Int)) (i j:Nat) (p:Int×Int) (u:Value),l[i]?=some p->(Zat p)[j]?=some u->(l.flatMap Zat)[i*2+j]?=some u
 | [],i,j,p,u,h,_=>by simp at h
 | a :: r,0,j,p,u,h,h2=>by
  simp at h;subst h;rw[Yan,Yba (by have:=(Ybb.1 h2).1;omega)];simpa using h2
 | a :: r,i+1,j,p,u,h,h2=>by
  have hl:(Zat a).length=2:=rfl;rw[Yan,Ybc (by omega),hl,show(i+1)*2+j-2=i*2+j by omega];exact Qcn r i j p u (by simpa using h) h2
theorem Zgg (p:Int×Int):∀ u∈Zat p,u.oneCell'=true:=λu hu=>by
 simp[Zat]at hu;rcases hu with rfl|rfl<;>rfl
theorem Zv7 (w:World) (e:TypeId) (p:Int×Int):∀ (j:Nat) (u:Value),(Zat p)[j]?=some u->(w.alloc (.cells #[.int .i64 p.1,.int .i64 p.2] e)).cell? ((⟨w.heap.size,0,none⟩:Addr).add j)=some u:=by
 intro j u h;have hB:=Blk.new w e #[.int .i64 p.1,.int .i64 p.2]
 match j with
 | 0=>
  simp[Zat]at h;subst h;exact hB.cell 0
 | 1=>
  simp[Zat]at h;subst h;exact hB.cell 1
 | j+2=>simp[Zat]at h
theorem PairsIn.ownTwo {w:World} {base:Nat} {e:TypeId} {A:Option Addr} {n c:Nat} {l:List (Int×Int)} (h:w.ownsRow base e 2 (.slice A n c) n (l.flatMap Zat)) (hl:l.length=n) (h63:n<=maxLen) (hf:∀ p∈l,Zaj p.1/\Zaj p.2):PairsIn w A n l where
 len:=hl
 fit:=h63
 vals:=hf
 nil:=λe1=>by
  rcases h.2 with⟨_,h0⟩|⟨g,cap,cur,h1,_⟩
  ·exact h0
  ·rw[e1]at h1;cases h1
 cells:=λad e1 i p hp=>by
  subst e1;have hz:ad=⟨ad.block,0,none⟩:=by
   rcases h.2 with⟨h1,_⟩|⟨g,cap,cur,h1,_⟩
   ·cases h1
   ·cases h1;rfl
  have hc:=λj u (hj:(Zat p)[j]?=some u)=>h.cells (g:=ad.block) rfl (i*2+j) u (Qcn l i j p u hp hj);have c0:=hc 0 _ rfl;have c1:=hc 1 _ rfl;have ha:∀ k,(⟨ad.block,0,none⟩:Addr).add k=⟨ad.block,k,none⟩:=λk=>by
   unfold Addr.add;split
   ·rename_i h0;rw[h0]
   ·simp
  rw[ha]at c0 c1;rw[hz,ha,ha];exact⟨c0,c1⟩
theorem PairsIn.drewN {w:World} {A:Option Addr} {n:Nat} {l:List (Int×Int)} (h:PairsIn w A n l) (q:Nat):PairsIn (w.drewN q) A n l:=h.below (Zaf (Ybm _ _) q)
theorem Zwt {w:World} {ad:Addr} {n:Nat} {l:List (Int×Int)} (h:PairsIn w (some ad) n l):∀ (j:Nat) (u:Value),(l.flatMap Zat)[j]?=some u->w.cell? (ad.add j)=some u:=by
 have key:∀ (R:List (Int×Int)) (j:Nat) (u:Value),(R.flatMap Zat)[j]?=some u->∃ i r p,j=i*2+r/\r<2/\R[i]?=some p/\(Zat p)[r]?=some u:=by
  intro R
  induction R with
  | nil=>intro j u h;simp at h
  | cons a R ih=>
   intro j u h;rw[Yan]at h;have hl:(Zat a).length=2:=rfl;rcases Yab j 2 with hj|hj
   ·rw[Yba (by omega)]at h
    exact⟨0,j,a,by omega,hj,rfl,h⟩
   ·rw[Ybc (by omega),hl]at h
    obtain⟨i,r,p,h1,h2,h3,h4⟩:=ih (j-2) u h;exact⟨i+1,r,p,by omega,h2,by simpa using h3,h4⟩
 intro j u hu;obtain⟨i,r,p,rfl,hr,hp,hu2⟩:=key l j u hu;obtain⟨c0,c1⟩:=h.cells ad rfl i p hp
 match r,hr with
 | 0,_=>simp[Zat]at hu2;subst hu2;exact c0
 | 1,_=>simp[Zat]at hu2;subst hu2;exact c1
structure PostsSee (w:World) (A:Option Addr) (n:Nat) (l:List (Int×List (Int×Int))):Prop where
 len:l.length=n
 fit:n<=maxLen
 nil:A=none->n=0
 at_:∀ ad,A=some ad->∀ (i:Nat) (x:Int×List (Int×Int)),l[i]?=some x->Zaj x.1/\w.cell? (ad.add (i*2))=some (.int .i64 x.1)/\∃ B c,w.cell? (ad.add (i*2+1))=some (.slice B x.2.length c)/\x.2.length<=c/\PairsIn w B x.2.length x.2
theorem PostsSee.below {w w':World} {A:Option Addr} {n:Nat} {l:List (Int×List (Int×Int))} (h:PostsSee w A n l) (hb:Below w.heap.size w w'):PostsSee w' A n l where
 len:=h.len
 fit:=h.fit
 nil:=h.nil
 at_:=λad e i x hx=>by
  obtain⟨h1,h2,B,c,h3,h4,h5⟩:=h.at_ ad e i x hx;exact⟨h1,Zag hb h2,B,c,Zag hb h3,h4,h5.below hb⟩
theorem PostsSee.drewN {w:World} {A:Option Addr} {n:Nat} {l:List (Int×List (Int×Int))} (h:PostsSee w A n l) (q:Nat):PostsSee (w.drewN q) A n l:=h.below (Zaf (Ybm _ _) q)
theorem PostsSee.at {w:World} {A:Option Addr} {n:Nat} {l:List (Int×List (Int×Int))} (h:PostsSee w A n l) (k:Nat) (hk:k<n):
  ∃ ad x B c,A=some ad/\l[k]?=some x/\Zaj x.1/\w.cell? (ad.add (k*2))=some (.int .i64 x.1)/\w.cell? ⟨(ad.add (k*2)).block,(ad.add (k*2)).off+1,none⟩=some (.slice B x.2.length c)/\x.2.length<=c/\PairsIn w B x.2.length x.2:=by
 have hl:=h.len;cases hA:A with
 | none=>have:=h.nil hA;omega
 | some ad=>
  subst hA;have hx:l[k]?=some (l[k]'(by omega)):=Yax _;obtain⟨h1,h2,B,c,h3,h4,h5⟩:=h.at_ ad rfl k _ hx;rw[Zcy _ _ _ (by omega)]at h3;exact⟨ad,_,B,c,rfl,hx,h1,h2,h3,h4,h5⟩
def Zan (p:Int×Value):List Value:=[.int .i64 p.1,p.2]
theorem Zy9 (l:List (Int×Value)):(l.flatMap Zan).length=l.length*2:=by
 induction l with
 | nil=>rfl
 | cons a r ih=>rw[Yan,Yaq,ih,Yah];simp[Zan];omega
theorem Zok:∀ (l:List (Int×Value)) (i j:Nat) (p:Int×Value) (u:Value),l[i]?=some p->(Zan p)[j]?=some u->(l.flatMap Zan)[i*2+j]?=some u
 | [],i,j,p,u,h,_=>by simp at h
 | a :: r,0,j,p,u,h,h2=>by
  simp at h;subst h;rw[Yan,Yba (by have:=(Ybb.1 h2).1;omega)];simpa using h2
 | a :: r,i+1,j,p,u,h,h2=>by
  have hl:(Zan a).length=2:=rfl;rw[Yan,Ybc (by omega),hl,show(i+1)*2+j-2=i*2+j by omega];exact Zok r i j p u (by simpa using h) h2
theorem Zfl (d:Int) (A:Option Addr) (n c:Nat):∀ u∈Zan (d,.slice A n c),u.oneCell'=true:=λu hu=>by
 simp[Zan]at hu;rcases hu with rfl|rfl<;>rfl
theorem Zda {w:World} {g:Nat} {e:TypeId} {p:Int×Value} (h:Blk w g e #[.int .i64 p.1,p.2]):∀ (j:Nat) (u:Value),(Zan p)[j]?=some u->w.cell? ((⟨g,0,none⟩:Addr).add j)=some u:=by
 intro j u hu
 match j with
 | 0=>
  simp[Zan]at hu;subst hu;exact h.cell 0
 | 1=>
  simp[Zan]at hu;subst hu;exact h.cell 1
 | j+2=>simp[Zan]at hu
def PostAt (w:World) (x:Int×List (Int×Int)) (p:Int×Value) (far:Nat->Prop):Prop:=
 p.1=x.1/\Zaj x.1/\∃ A c,p.2=.slice A x.2.length c/\x.2.length<=c/\PairsIn w A x.2.length x.2/\∀ ad,A=some ad->0<x.2.length->ad.block<w.heap.size/\far ad.block
theorem PostAt.mono {w w':World} {x:Int×List (Int×Int)} {p:Int×Value} {f g:Nat->Prop} (h:PostAt w x p f) (hk:∀ i,i<w.heap.size->f i->w'.heap[i]?=w.heap[i]?/\g i) (hs:w.heap.size<=w'.heap.size):PostAt w' x p g:=by
 obtain⟨h1,h2,A,c,h3,h4,h5,h6⟩:=h;refine⟨h1,h2,A,c,h3,h4,⟨h5.len,h5.fit,h5.vals,h5.nil,λad e i q hq=>?_⟩,λad e h0=>⟨Ya7 (h6 ad e h0).1 hs,(hk _ (h6 ad e h0).1 (h6 ad e h0).2).2⟩⟩;have hlt:=(Ybb.1 hq).1;obtain⟨q1,q2⟩:=h6 ad e (by omega);obtain⟨c1,c2⟩:=h5.cells ad e i q hq;have hb:=(hk _ q1 q2).1;have hblk:∀ k,(ad.add k).block=ad.block:=λk=>by unfold Addr.add;split<;>rfl
 exact⟨(Yb4 (by rw[hblk];exact hb)).trans c1,(Yb4 (by rw[hblk];exact hb)).trans c2⟩
def PostsO (w:World) (base:Nat) (v:Value) (L:List (Int×List (Int×Int))):Prop:=
 ∃ R:List (Int×Value),R.length=L.length/\w.ownsRow base 62 2 v L.length (R.flatMap Zan)/\∀ (i:Nat) (p:Int×Value) (x:Int×List (Int×Int)),R[i]?=some p->L[i]?=some x->PostAt w x p λi=>base<=i/\v.ownBlock≠some i
theorem PostsO.nil (w:World) (base:Nat):PostsO w base (.slice none 0 0) []:=⟨[],rfl,⟨rfl,.inl ⟨rfl,rfl⟩⟩,λi p x h _=>by simp at h⟩
theorem PostsO.below {w w':World} {base:Nat} {v:Value} {L:List (Int×List (Int×Int))} (h:PostsO w base v L) (hb:Below w.heap.size w w'):PostsO w' base v L:=by
 obtain⟨R,h0,h1,h2⟩:=h;exact⟨R,h0,Zab h1 λg hg=>hb.block g (h1.lt g hg).2,λi p x e1 e2=>(h2 i p x e1 e2).mono (λi hi hf=>⟨hb.block i hi,hf⟩) hb.size⟩
theorem PostsO.keepIn {w w':World} {base:Nat} {v:Value} {L:List (Int×List (Int×Int))} (h:PostsO w base v L) (hk:∀ i,base<=i->i<w.heap.size->w'.heap[i]?=w.heap[i]?) (hs:w.heap.size<=w'.heap.size):PostsO w' base v L:=by
 obtain⟨R,h0,h1,h2⟩:=h;exact⟨R,h0,Zab h1 λg hg=>hk g (h1.lt g hg).1 (h1.lt g hg).2,λi p x e1 e2=>(h2 i p x e1 e2).mono (λi hi hf=>⟨hk i hf.1 hi,hf⟩) hs⟩
theorem PostsO.see {w:World} {base n c:Nat} {A:Option Addr} {L:List (Int×List (Int×Int))} (h:PostsO w base (.slice A n c) L) (hn:L.length=n) (h63:n<=maxLen):PostsSee w A n L where
 len:=hn
 fit:=h63
 nil:=λe=>by
  obtain⟨R,h0,h1,h2⟩:=h;rcases h1.2 with⟨_,h3⟩|⟨g,cap,cur,h3,_⟩
  ·omega
  ·rw[e]at h3;cases h3
 at_:=λad e i x hx=>by
  obtain⟨R,h0,h1,h2⟩:=h;subst e;have hz:ad=⟨ad.block,0,none⟩:=by
   rcases h1.2 with⟨h3,_⟩|⟨g,cap,cur,h3,_⟩
   ·cases h3
   ·cases h3;rfl
  have hlt:=(Ybb.1 hx).1;obtain⟨p,hp⟩:∃ p,R[i]?=some p:=⟨_,Yax (by omega)⟩
  obtain⟨q1,q2,B,cc,q3,q4,q5,q6⟩:=h2 i p x hp hx;have hc:=λj u (hj:(Zan p)[j]?=some u)=>h1.cells (g:=ad.block) rfl (i*2+j) u (Zok R i j p u hp hj);have c0:=hc 0 _ rfl;have c1:=hc 1 _ rfl;have ha:∀ k,(⟨ad.block,0,none⟩:Addr).add k=⟨ad.block,k,none⟩:=λk=>by
   unfold Addr.add;split
   ·rename_i h0;rw[h0]
   ·simp
  rw[ha]at c0 c1;refine⟨q2,?_,B,cc,?_,q4,q5⟩
  ·rw[hz,ha,<- q1];exact c0
  ·rw[hz,ha,<- q3];exact c1
theorem PostsO.push {w w':World} {base:Nat} {v v':Value} {L:List (Int×List (Int×Int))} {x:Int×List (Int×Int)} {p:Int×Value} {R:List (Int×Value)} (h0:R.length=L.length)
  (h2:∀ (i:Nat) (p:Int×Value) (x:Int×List (Int×Int)),R[i]?=some p->L[i]?=some x->PostAt w x p λi=>base<=i/\v.ownBlock≠some i) (hx:PostAt w x p λi=>base<=i/\v.ownBlock≠some i)
  (ho:w'.ownsRow base 62 2 v' (L.length+1) (R.flatMap Zan++Zan p)) (hg:w.grownBy w' v.ownBlock) (hloc:v'.ownBlock=v.ownBlock\/∃ g,v'.ownBlock=some g/\w.heap.size<=g):PostsO w' base v' (L++[x]):=by
 have keep:∀ {y q},PostAt w y q (λi=>base<=i/\v.ownBlock≠some i)->PostAt w' y q λi=>base<=i/\v'.ownBlock≠some i:=λh=>h.mono (λi hi hf=>⟨hg.block i hi (λe=>hf.2 e.symm),hf.1,by
  rcases hloc with e|⟨g,e,hge⟩
  ·rw[e];exact hf.2
  ·rw[e]
   intro e2;have:g=i:=Ya9 e2;omega⟩) hg.size
 refine⟨R++[p],by simp[h0],by simpa using ho,λi q y e1 e2=>?_⟩;rcases Yab i L.length with hi|hi
 ·rw[Yba (by omega)]at e1 e2
  exact keep (h2 i q y e1 e2)
 ·have hlt:=(Ybb.1 e2).1
  simp at hlt;obtain rfl:i=L.length:=by omega
  rw[Ybc (by omega)]at e1 e2;simp[h0]at e1 e2;subst e1 e2;exact keep hx
end
section
structure CSt where
 l:List Pst
 at_:Nat
 read:Nat
 last:Int
def Zes (s:CSt):CSt:=if s.at_<s.l.length/\(s.at_/4:Nat)≠s.last then { s with read:=s.read+1,last:=(s.at_/4:Nat) } else s
def cIn (s:CSt):Bool:=decide (s.at_<s.l.length)
def Zf7 (l:List Pst):CSt:=Zes ⟨l,0,0,-1⟩
def Zit (s:CSt):CSt:=Zes (if s.at_<s.l.length then { s with at_:=s.at_+1 } else s)
def Zhz (l:List Pst) (d:Int):Nat->Nat->Nat
 | 0,a=>a
 | f+1,a=>if a<l.length/\(pAt l a).1<d then Zhz l d f (a+1) else a
def Zlb (s:CSt) (d:Int):CSt:=Zes { s with at_:=Zhz s.l d (s.l.length-s.at_) s.at_ }
def cDoc (s:CSt):Int:=if s.at_<s.l.length then (pAt s.l s.at_).1 else 0
def Zo3 (s:CSt):List (Int×Int):=if s.at_<s.l.length then (pAt s.l s.at_).2 else []
theorem Zgz (s:CSt):(Zes s).l=s.l/\(Zes s).at_=s.at_:=by
 unfold Zes;split<;>exact⟨rfl,rfl⟩
theorem Zzs (s:CSt):cIn (Zes s)=cIn s:=by
 unfold cIn;rw[(Zgz s).1,(Zgz s).2]
structure CWF (s:CSt):Prop where
 few:s.l.length<=4096
 at_:s.at_<=s.l.length
 last:-1<=s.last/\s.last<=(s.at_/4:Nat)
 read:(s.read:Int)<=s.last+1
 end_:4*s.last<(s.l.length:Int)
 some:∀ x∈s.l,0<x.2.length/\x.2.length<=4096
theorem CWF.stand {s:CSt} (h:CWF s):CWF (Zes s):=by
 have h1:=h.last;have h2:=h.read;unfold Zes;split
 ·rename_i hc
  refine⟨h.few,h.at_,⟨?_,?_⟩,?_,?_,h.some⟩
  ·simp only;omega
  ·simp only;omega
  ·simp only;push_cast;omega
  ·simp only;have:=hc.1;omega
 ·exact h
theorem CWF.start {l:List Pst} (h:l.length<=4096) (h1:∀ x∈l,0<x.2.length/\x.2.length<=4096):CWF (Zf7 l):=by
 unfold Zf7;exact CWF.stand ⟨h,Ybd _,⟨by simp,by simp⟩,by simp,by simp only;omega,h1⟩
theorem CWF.move {s:CSt} (h:CWF s) {a:Nat} (h1:s.at_<=a) (h2:a<=s.l.length):CWF { s with at_:=a }:=by
 have h3:=h.last;refine⟨h.few,h2,⟨h3.1,?_⟩,h.read,h.end_,h.some⟩;simp only;omega
theorem CWF.next {s:CSt} (h:CWF s):CWF (Zit s):=by
 unfold Zit;refine CWF.stand ?_;split
 ·exact h.move (Nat.le_succ _) (by omega)
 ·exact h
theorem Zs2 (l:List Pst) (d:Int):∀ (f a:Nat),a<=l.length->a<=Zhz l d f a/\Zhz l d f a<=l.length
 | 0,a,h=>⟨Yar _,h⟩
 | f+1,a,h=>by
  simp only[Zhz];split
  ·rename_i hc
   have:=Zs2 l d f (a+1) (by omega)
   omega
  ·exact⟨Yar _,h⟩
end
section
open Go.RowKit Go.Maps Go.WideMaps
def Zg6 (w:World) (l:List Int) (e:Ending) (w':World):Prop:=∃ A c,e=.returned (.slice A l.length c)/\IntsIn w' A l.length l/\l.length<=c/\Below w.heap.size w w'
def Zwc (w:World) (l:List (Int×List (Int×Int))) (e:Ending) (w':World):Prop:=∃ A c,e=.returned (.slice A l.length c)/\PostsSee w' A l.length l/\l.length<=c/\Below w.heap.size w w'
theorem Zqw (w:World) (A:Option Addr) (n c:Nat) (l:List Pst) (h:PostsSee w A n l) (hn:n<=9223372036854775807):
  Calls Tryz.prog 96 #[.slice A n c] w λe w'=>e=.returned (.int .i64 (Zb3 l))/\Below w.heap.size w w':=by
 have HP:=Zh h;have HLEN:=Zh h.len;obtain⟨R,hR⟩:=Ze (Zb3 l);rw[<- hR];have HR:=Zh hR;clear h hR;by_cases hmany:4096<n
 ·have d0:decide ((4096:Int)<(n:Int))=true:=Yb0 (by omega)
  have hr:R=2:=by rw[HR.out,Zji (by rw[HLEN.out];exact hmany)]
  subst hr;go_enter Tryz.func96,Tryz.ntmps96;go_wp2;go_ret;exact⟨rfl,Ybm _ _⟩
 ·have d0:decide ((4096:Int)<(n:Int))=false:=Ybt (by omega)
  go_enter Tryz.func96,Tryz.ntmps96;go_wp2;go_loopw [3] (λi wr=>∃ k:Nat,k<=n/\i=.int .i64 k/\Zcv l k=false/\wr=w) (λi _=>n-(intOf i).toNat);case atStart=>exact⟨0,by omega,rfl,rfl,rfl⟩
  case round=>
   obtain⟨k,hk,rfl,hmu,hwr⟩:=hrel;obtain rfl:=hwr.symm;have HMU:=Zh hmu;clear hmu;rcases Yab k n with hlt|hge
   ·have hlt':(k:Int)<(n:Int):=by omega
    have p0:(0:Int)<=(k:Int):=by omega
    have hw5:IntKind.i64.wrap ((k:Int)+1)=(k:Int)+1:=Ybo _ (by omega);obtain⟨pa,x,SA,da,rfl,hx,-,a0,a1,-,-⟩:=HP.out.at k hlt;have hpx:=Zef hx;have HPX:=Zh hpx;clear hx hpx a0;by_cases hsp:4096<x.2.length
    ·have d1:decide ((4096:Int)<(x.2.length:Int))=true:=Yb0 (by omega)
     have hr:R=2:=by rw[HR.out,Zrc (k:=k) (by rw[HLEN.out];exact hlt) (by rw[HPX.out];exact hsp)]
     subst hr;go_wp2;go_ret;exact⟨rfl,Ybm _ _⟩
    ·have d1:decide ((4096:Int)<(x.2.length:Int))=false:=Ybt (by omega)
     have hnx:Zcv l (k+1)=false:=by rw[Zcv,HMU.out,HPX.out,Ybt hsp];rfl
     have HNX:=Zh hnx;clear hnx;go_wp2;go_roundw;case rel=>exact⟨k+1,by omega,by go_num,HNX.out,by first|rfl|trivial⟩
     case measure=>simp[intOf];omega
   ·obtain rfl:k=n:=by omega
    have hlz:¬ ((k:Int)<(k:Int)):=by omega
    have HM0:=HMU;go_wp2;go_loopw [4] (λi wr=>∃ j:Nat,j<=k/\i=.int .i64 j/\okUp l j=true/\Below w.heap.size w wr) (λi _=>k-(intOf i).toNat);case atStart=>exact⟨0,by omega,rfl,rfl,Ybm _ _⟩
    case round=>
     obtain⟨j,hj,rfl,hok,hB⟩:=hrel;have HOK:=Zh hok;have HB:=Zh hB;clear hok hB;rcases Yab j k with hlt|hge
     ·have hlt':(j:Int)<(k:Int):=by omega
      have p0:(0:Int)<=(j:Int):=by omega
      have hw5:IntKind.i64.wrap ((j:Int)+1)=(j:Int)+1:=Ybo _ (by omega);obtain⟨pa,x,SA,da,rfl,hx,hfx,a0,a1,hda,sa⟩:=(HP.out.below HB.out).at j hlt;have hpx:=Zef hx;have HPX:=Zh hpx;have hxs:x.2.length<=4096:=by have:=manyUp_iff.1 HM0.out j hlt;rw[hpx]at this;exact this
      obtain⟨x1,x2⟩:=x;simp only at a0 a1 hda sa hxs hfx;have hbad:okAt l j=false->R=1:=λe=>by rw[HR.out,Zwn (by rw[HLEN.out];omega) (by rw[HLEN.out];exact HM0.out) (by rw[HLEN.out];exact hlt) e]
      have HBAD:=Zh hbad;obtain⟨W1,hW1⟩:=Ze (wr.alloc (.cells #[.int .i64 x1,.slice SA x2.length da] 62));have hBk:Blk W1 wr.heap.size 62 #[.int .i64 x1,.slice SA x2.length da]:=by rw[hW1];exact Blk.new _ _ _
      have hb1:Below wr.heap.size wr W1:=by rw[hW1];exact(Ybm _ wr).alloc (Yar _) _
      obtain⟨g,hg⟩:=Ze wr.heap.size;rw[<- hg]at hBk;have e0:∀ q,(W1.drewN q).cell? ⟨g,0,none⟩=some (.int .i64 x1):=λ_=>hBk.cell 0;have e1:∀ q,(W1.drewN q).cell? ⟨g,1,none⟩=some (.slice SA x2.length da):=λ_=>hBk.cell 1;have HBK:=Zh hBk;have HW1:=Zh hW1;have HG:=Zh hg;have HBW:=Zh (Zaa HB.out hb1 HB.out.size);have HSA:=Zh (sa.below hb1);clear hx hpx hbad hW1 hBk hb1 hg sa hfx;by_cases hj0:j=0
      ·have dj:decide ((0:Int)<(j:Int))=false:=Ybt (by omega)
       have djm:decide (0<j)=false:=Ybt (by omega);have hlast:Zaq l j=-1:=by unfold Zaq;rw[Yag hj0]
       have HLAST:=Zh hlast;clear hlast hj0;by_cases c1:x1<0
       ·have d2:decide (x1<0)=true:=Yb0 c1
        have hb:okAt l j=false:=by
         rw[Yb1];intro e;obtain⟨q1,q2,q3,q4,-,-⟩:=okAt_iff.1 e;rw[HPX.out]at q1 q2 q3 q4;rw[HLAST.out]at q3;simp only at q1 q2 q3 q4;omega
        obtain rfl:R=1:=HBAD.out hb;clear hb;go_wp2_with fail;rw[<- HW1.out,<- HG.out];go_quiet (fail);go_wp2;go_ret;exact⟨rfl,Zaf HBW.out _⟩
       ·have d2:decide (x1<0)=false:=Ybt c1
        by_cases c2:4294967296<x1
        ·have d3:decide ((4294967296:Int)<x1)=true:=Yb0 c2
         have hb:okAt l j=false:=by
          rw[Yb1];intro e;obtain⟨q1,q2,q3,q4,-,-⟩:=okAt_iff.1 e;rw[HPX.out]at q1 q2 q3 q4;rw[HLAST.out]at q3;simp only at q1 q2 q3 q4;omega
         obtain rfl:R=1:=HBAD.out hb;clear hb;go_wp2_with fail;rw[<- HW1.out,<- HG.out];go_quiet (fail);go_wp2;go_ret;exact⟨rfl,Zaf HBW.out _⟩
        ·have d3:decide ((4294967296:Int)<x1)=false:=Ybt c2
         by_cases c4:x2.length=0
         ·have d5:((x2.length:Int)==0)=true:=by rw[c4];rfl
          have C4:=Zh c4;clear c4;have hb:okAt l j=false:=by
           rw[Yb1];intro e;obtain⟨q1,q2,q3,q4,-,-⟩:=okAt_iff.1 e;rw[HPX.out]at q1 q2 q3 q4;rw[HLAST.out]at q3;simp only at q1 q2 q3 q4;have c4:=C4.out;omega
          obtain rfl:R=1:=HBAD.out hb;clear hb;go_wp2_with fail;rw[<- HW1.out,<- HG.out];go_quiet (fail);go_wp2;go_ret;exact⟨rfl,Zaf HBW.out _⟩
         ·have d5:((x2.length:Int)==0)=false:=beq_eq_false_iff_ne.2 (λe=>c4 (by omega))
          have hdoc:0<=x1/\x1<=4294967296/\Zaq l j<x1/\0<x2.length:=by
           rw[HLAST.out];omega
          have HDOC:=Zh hdoc;clear hdoc;go_wp2_with fail;rw[<- HW1.out,<- HG.out];go_quiet (fail);have hk2:=HBK.out.drewN nq;have hB2:=Zaf HBW.out nq;have hs2:=HSA.out.drewN nq;obtain⟨W2,hW2⟩:=Ze (W1.drewN nq);rw[<- hW2]at hk2 hB2 hs2 ⊢;have HBK2:=Zh hk2;have HB2:=Zh hB2;have HS2:=Zh hs2;have t1:W2.cell? ⟨g,1,none⟩=some (.slice SA x2.length da):=hk2.cell 1;clear hW2 hk2 hB2 hs2 e0 e1;go_wp2;go_loopw [6] (λi wi=>∃ z:Nat,z<=x2.length/\i=.int .i64 z/\(∀ t,t<z->spAt x2 t=true)/\Below W2.heap.size W2 wi) (λi _=>x2.length-(intOf i).toNat);case atStart=>exact⟨0,by omega,rfl,λt ht=>by omega,Ybm _ _⟩
          case round=>
           obtain⟨z,hz,rfl,hsp,hBi⟩:=hrel;have HSP:=Zh hsp;have HBi:=Zh hBi;clear hsp hBi t1;have hkz:=HBK2.out.below HBi.out HBK2.out.lt;have f1:wr.cell? ⟨g,1,none⟩=some (.slice SA x2.length da):=hkz.cell 1;rcases Yab z x2.length with hz2|hz2
           ·have hzi:(z:Int)<(x2.length:Int):=by omega
            have z0:(0:Int)<=(z:Int):=by omega
            have hw8:IntKind.i64.wrap ((z:Int)+1)=(z:Int)+1:=Ybo _ (by omega);obtain⟨ps,v,rfl,hv,b0,b1,-,-⟩:=(HS2.out.below HBi.out).at z hz2;obtain⟨v1,v2⟩:=v;simp only at b0 b1;obtain⟨V1,hV1⟩:=Ze (wr.alloc (.cells #[.int .i64 v1,.int .i64 v2] 64));have hvk:Blk V1 wr.heap.size 64 #[.int .i64 v1,.int .i64 v2]:=by rw[hV1];exact Blk.new _ _ _
            have hvb:Below wr.heap.size wr V1:=by rw[hV1];exact(Ybm _ wr).alloc (Yar _) _
            obtain⟨gg,hgg⟩:=Ze wr.heap.size;rw[<- hgg]at hvk;have r0:∀ q,(V1.drewN q).cell? ⟨gg,0,none⟩=some (.int .i64 v1):=λ_=>hvk.cell 0;have r1:∀ q,(V1.drewN q).cell? ⟨gg,1,none⟩=some (.int .i64 v2):=λ_=>hvk.cell 1;have f1z:V1.cell? ⟨g,1,none⟩=some (.slice (some ps) x2.length da):=Zag hvb f1;have f1q:∀ q,(V1.drewN q).cell? ⟨g,1,none⟩=some (.slice (some ps) x2.length da):=λ_=>f1z;have HV1:=Zh hV1;have HGG:=Zh hgg;have HBV2:=Zh (Zaa HBi.out hvb HBi.out.size);have HBV:=Zh (Zaa HB2.out HBV2.out HB2.out.size);have hgv:x2.getD z (0,0)=(v1,v2):=by rw[Yaw,hv];rfl
            by_cases hz0:z=0
            ·have dz:decide ((0:Int)<(z:Int))=false:=Ybt (by omega)
             have dzm:decide (0<z)=false:=Ybt (by omega);have hsz:spAt x2 z=(decide ((-1:Int)<v1)&&decide ((-1:Int)<v2)):=by unfold spAt;rw[Yag hz0,Yag hz0,hgv]
             have HSZ:=Zh hsz;clear hsz hv hgv hvk hvb hV1 hgg hkz f1z hz0;by_cases c6:v1<0
             ·have m1:decide (v1<0)=true:=Yb0 c6
              have hb:okAt l j=false:=Zbw (by
               rw[Yb1];intro e;rw[HPX.out]at e;have e2:=spots_rise.1 e z hz2;rw[HSZ.out,Yal,decide_eq_true_eq,decide_eq_true_eq]at e2;omega)
              obtain rfl:R=1:=HBAD.out hb;clear hb;go_wp2_with fail;rw[<- HV1.out,<- HGG.out];go_quiet (fail);go_wp2;go_ret;exact⟨rfl,Zaf HBV.out _⟩
             ·have m1:decide (v1<0)=false:=Ybt c6
              by_cases c7:v2<0
              ·have m2:decide (v2<0)=true:=Yb0 c7
               have hb:okAt l j=false:=Zbw (by
                rw[Yb1];intro e;rw[HPX.out]at e;have e2:=spots_rise.1 e z hz2;rw[HSZ.out,Yal,decide_eq_true_eq,decide_eq_true_eq]at e2;omega)
               obtain rfl:R=1:=HBAD.out hb;clear hb;go_wp2_with fail;rw[<- HV1.out,<- HGG.out];go_quiet (fail);go_wp2;go_ret;exact⟨rfl,Zaf HBV.out _⟩
              ·have m2:decide (v2<0)=false:=Ybt c7
               have hsz2:spAt x2 z=true:=by
                rw[HSZ.out,Yal,decide_eq_true_eq,decide_eq_true_eq];omega
               have HNX:=Zh hsz2;clear hsz2;go_wp2_with fail;rw[<- HV1.out,<- HGG.out];go_quiet (fail);go_wp2;go_roundw;case rel=>exact⟨z+1,by omega,by go_num,λt ht=>by
                rcases Yab t z with h1|h1
                ·exact HSP.out t h1
                ·obtain rfl:t=z:=by omega
                 exact HNX.out,Zaf HBV2.out _⟩
               case measure=>simp[intOf];omega
            ·have dz:decide ((0:Int)<(z:Int))=true:=Yb0 (by omega)
             have dzn:0<z:=by omega
             have dzm:decide (0<z)=true:=Yb0 dzn;obtain⟨y,hy⟩:∃ y,z=y+1:=⟨z-1,by omega⟩
             have hw9:IntKind.i64.wrap ((z:Int)-1)=(y:Int):=by rw[show(z:Int)-1=(y:Int) by omega];exact Ybo _ (by omega)
             have y0:(0:Int)<=(y:Int):=by omega
             have y1i:(y:Int)<(x2.length:Int):=by omega
             have y1n:y<x2.length:=by omega
             obtain⟨pt,u,hpt,hu,s0,s1,-,-⟩:=((HS2.out.below HBi.out).below hvb).at y y1n;obtain rfl:ps=pt:=Ya9 hpt;obtain⟨u1,u2⟩:=u;simp only at s0 s1;have s0':∀ q,(V1.drewN q).cell? (ps.add (y*2))=some (.int .i64 u1):=λ_=>s0;have s1':∀ q,(V1.drewN q).cell? ⟨(ps.add (y*2)).block,(ps.add (y*2)).off+1,none⟩=some (.int .i64 u2):=λ_=>s1;have hgu:x2.getD (z-1) (0,0)=(u1,u2):=by rw[hy,Ybk,Yaw,hu];rfl
             have hlow:=Zv2 HSP.out (z-1) (by omega);rw[hgu]at hlow;obtain⟨hlo1,hlo2⟩:=hlow;simp only at hlo1 hlo2;have hsz:spAt x2 z=(decide (u1<v1)&&decide (u2<v2)):=by unfold spAt;rw[Yaf hz0,Yaf hz0,hgv,hgu]
             have HSZ:=Zh hsz;clear hsz hv hgv hvk hvb hV1 hgg hkz f1z hpt hu s0 s1 hgu hy;by_cases c6:v1<0
             ·have m1:decide (v1<0)=true:=Yb0 c6
              have hb:okAt l j=false:=Zbw (by
               rw[Yb1];intro e;rw[HPX.out]at e;have e2:=spots_rise.1 e z hz2;rw[HSZ.out,Yal,decide_eq_true_eq,decide_eq_true_eq]at e2;omega)
              obtain rfl:R=1:=HBAD.out hb;clear hb;go_wp2_with fail;rw[<- HV1.out,<- HGG.out];go_quiet (fail);go_wp2;go_ret;exact⟨rfl,Zaf HBV.out _⟩
             ·have m1:decide (v1<0)=false:=Ybt c6
              by_cases c7:v2<0
              ·have m2:decide (v2<0)=true:=Yb0 c7
               have hb:okAt l j=false:=Zbw (by
                rw[Yb1];intro e;rw[HPX.out]at e;have e2:=spots_rise.1 e z hz2;rw[HSZ.out,Yal,decide_eq_true_eq,decide_eq_true_eq]at e2;omega)
               obtain rfl:R=1:=HBAD.out hb;clear hb;go_wp2_with fail;rw[<- HV1.out,<- HGG.out];go_quiet (fail);go_wp2;go_ret;exact⟨rfl,Zaf HBV.out _⟩
              ·have m2:decide (v2<0)=false:=Ybt c7
               by_cases c8:v1<=u1
               ·have m3:decide (v1<=u1)=true:=Yb0 c8
                have hb:okAt l j=false:=Zbw (by
                 rw[Yb1];intro e;rw[HPX.out]at e;have e2:=spots_rise.1 e z hz2;rw[HSZ.out,Yal,decide_eq_true_eq,decide_eq_true_eq]at e2;omega)
                obtain rfl:R=1:=HBAD.out hb;clear hb;go_wp2_with fail;rw[<- HV1.out,<- HGG.out];go_quiet (fail);go_wp2;go_ret;exact⟨rfl,Zaf HBV.out _⟩
               ·have m3:decide (v1<=u1)=false:=Ybt c8
                by_cases c9:v2<=u2
                ·have m4:decide (v2<=u2)=true:=Yb0 c9
                 have hb:okAt l j=false:=Zbw (by
                  rw[Yb1];intro e;rw[HPX.out]at e;have e2:=spots_rise.1 e z hz2;rw[HSZ.out,Yal,decide_eq_true_eq,decide_eq_true_eq]at e2;omega)
                 obtain rfl:R=1:=HBAD.out hb;clear hb;go_wp2_with fail;rw[<- HV1.out,<- HGG.out];go_quiet (fail);go_wp2;go_ret;exact⟨rfl,Zaf HBV.out _⟩
                ·have m4:decide (v2<=u2)=false:=Ybt c9
                 have hsz2:spAt x2 z=true:=by
                  rw[HSZ.out,Yal,decide_eq_true_eq,decide_eq_true_eq];omega
                 have HNX:=Zh hsz2;clear hsz2;go_wp2_with fail;rw[<- HV1.out,<- HGG.out];go_quiet (fail);go_wp2;go_roundw;case rel=>exact⟨z+1,by omega,by go_num,λt ht=>by
                  rcases Yab t z with h1|h1
                  ·exact HSP.out t h1
                  ·obtain rfl:t=z:=by omega
                   exact HNX.out,Zaf HBV2.out _⟩
                 case measure=>simp[intOf];omega
           ·obtain rfl:z=x2.length:=by omega
            have hlz3:¬ ((x2.length:Int)<(x2.length:Int)):=by omega
            have hnext:okUp l (j+1)=true:=by
             rw[okUp,HOK.out,Bool.true_and];have hri:=spots_rise.2 HSP.out;rw[Yal]at hri;refine okAt_iff.2 ?_;rw[HPX.out];exact⟨HDOC.out.1,HDOC.out.2.1,HDOC.out.2.2.1,HDOC.out.2.2.2,hri.1,hri.2⟩
            have HNEXT:=Zh hnext;have HFIN:=Zh (Zaa HB2.out HBi.out HB2.out.size);clear hnext hkz;go_wp2;exact⟨⟨j+1,by omega,by go_num,HNEXT.out,HFIN.out⟩,by simp[intOf];omega⟩
      ·have dj:decide ((0:Int)<(j:Int))=true:=Yb0 (by omega)
       have djn:0<j:=by omega
       have djm:decide (0<j)=true:=Yb0 djn;obtain⟨i,hi⟩:∃ i,j=i+1:=⟨j-1,by omega⟩
       have hw7:IntKind.i64.wrap ((j:Int)-1)=(i:Int):=by rw[show(j:Int)-1=(i:Int) by omega];exact Ybo _ (by omega)
       have i0:(0:Int)<=(i:Int):=by omega
       have i1:(i:Int)<(k:Int):=by omega
       have i1n:i<k:=by omega
       obtain⟨pb,y,SB,db,hpb,hy,-,b0,-,-,-⟩:=(HP.out.below HBW.out).at i i1n;obtain rfl:pa=pb:=Ya9 hpb;obtain⟨y1,yy⟩:=y;simp only at b0;have b0':∀ q,(W1.drewN q).cell? (pa.add (i*2))=some (.int .i64 y1):=λ_=>b0;have hlast:Zaq l j=y1:=by unfold Zaq;rw[Yaf hj0,hi,Ybk,Zef hy]
       have HLAST:=Zh hlast;clear hlast hpb hy b0 hi;by_cases c1:x1<0
       ·have d2:decide (x1<0)=true:=Yb0 c1
        have hb:okAt l j=false:=by
         rw[Yb1];intro e;obtain⟨q1,q2,q3,q4,-,-⟩:=okAt_iff.1 e;rw[HPX.out]at q1 q2 q3 q4;rw[HLAST.out]at q3;simp only at q1 q2 q3 q4;omega
        obtain rfl:R=1:=HBAD.out hb;clear hb;go_wp2_with fail;rw[<- HW1.out,<- HG.out];go_quiet (fail);go_wp2;go_ret;exact⟨rfl,Zaf HBW.out _⟩
       ·have d2:decide (x1<0)=false:=Ybt c1
        by_cases c2:4294967296<x1
        ·have d3:decide ((4294967296:Int)<x1)=true:=Yb0 c2
         have hb:okAt l j=false:=by
          rw[Yb1];intro e;obtain⟨q1,q2,q3,q4,-,-⟩:=okAt_iff.1 e;rw[HPX.out]at q1 q2 q3 q4;rw[HLAST.out]at q3;simp only at q1 q2 q3 q4;omega
         obtain rfl:R=1:=HBAD.out hb;clear hb;go_wp2_with fail;rw[<- HW1.out,<- HG.out];go_quiet (fail);go_wp2;go_ret;exact⟨rfl,Zaf HBW.out _⟩
        ·have d3:decide ((4294967296:Int)<x1)=false:=Ybt c2
         by_cases c3:x1<=y1
         ·have d4:decide (x1<=y1)=true:=Yb0 c3
          have hb:okAt l j=false:=by
           rw[Yb1];intro e;obtain⟨q1,q2,q3,q4,-,-⟩:=okAt_iff.1 e;rw[HPX.out]at q1 q2 q3 q4;rw[HLAST.out]at q3;simp only at q1 q2 q3 q4;omega
          obtain rfl:R=1:=HBAD.out hb;clear hb;go_wp2_with fail;rw[<- HW1.out,<- HG.out];go_quiet (fail);go_wp2;go_ret;exact⟨rfl,Zaf HBW.out _⟩
         ·have d4:decide (x1<=y1)=false:=Ybt c3
          by_cases c4:x2.length=0
          ·have d5:((x2.length:Int)==0)=true:=by rw[c4];rfl
           have C4:=Zh c4;clear c4;have hb:okAt l j=false:=by
            rw[Yb1];intro e;obtain⟨q1,q2,q3,q4,-,-⟩:=okAt_iff.1 e;rw[HPX.out]at q1 q2 q3 q4;rw[HLAST.out]at q3;simp only at q1 q2 q3 q4;have c4:=C4.out;omega
           obtain rfl:R=1:=HBAD.out hb;clear hb;go_wp2_with fail;rw[<- HW1.out,<- HG.out];go_quiet (fail);go_wp2;go_ret;exact⟨rfl,Zaf HBW.out _⟩
          ·have d5:((x2.length:Int)==0)=false:=beq_eq_false_iff_ne.2 (λe=>c4 (by omega))
           have hdoc:0<=x1/\x1<=4294967296/\Zaq l j<x1/\0<x2.length:=by
            rw[HLAST.out];omega
           have HDOC:=Zh hdoc;clear hdoc;go_wp2_with fail;rw[<- HW1.out,<- HG.out];go_quiet (fail);have hk2:=HBK.out.drewN nq;have hB2:=Zaf HBW.out nq;have hs2:=HSA.out.drewN nq;obtain⟨W2,hW2⟩:=Ze (W1.drewN nq);rw[<- hW2]at hk2 hB2 hs2 ⊢;have HBK2:=Zh hk2;have HB2:=Zh hB2;have HS2:=Zh hs2;have t1:W2.cell? ⟨g,1,none⟩=some (.slice SA x2.length da):=hk2.cell 1;clear hW2 hk2 hB2 hs2 e0 e1;go_wp2;go_loopw [6] (λi wi=>∃ z:Nat,z<=x2.length/\i=.int .i64 z/\(∀ t,t<z->spAt x2 t=true)/\Below W2.heap.size W2 wi) (λi _=>x2.length-(intOf i).toNat);case atStart=>exact⟨0,by omega,rfl,λt ht=>by omega,Ybm _ _⟩
           case round=>
            obtain⟨z,hz,rfl,hsp,hBi⟩:=hrel;have HSP:=Zh hsp;have HBi:=Zh hBi;clear hsp hBi t1;have hkz:=HBK2.out.below HBi.out HBK2.out.lt;have f1:wr.cell? ⟨g,1,none⟩=some (.slice SA x2.length da):=hkz.cell 1;rcases Yab z x2.length with hz2|hz2
            ·have hzi:(z:Int)<(x2.length:Int):=by omega
             have z0:(0:Int)<=(z:Int):=by omega
             have hw8:IntKind.i64.wrap ((z:Int)+1)=(z:Int)+1:=Ybo _ (by omega);obtain⟨ps,v,rfl,hv,b0,b1,-,-⟩:=(HS2.out.below HBi.out).at z hz2;obtain⟨v1,v2⟩:=v;simp only at b0 b1;obtain⟨V1,hV1⟩:=Ze (wr.alloc (.cells #[.int .i64 v1,.int .i64 v2] 64));have hvk:Blk V1 wr.heap.size 64 #[.int .i64 v1,.int .i64 v2]:=by rw[hV1];exact Blk.new _ _ _
             have hvb:Below wr.heap.size wr V1:=by rw[hV1];exact(Ybm _ wr).alloc (Yar _) _
             obtain⟨gg,hgg⟩:=Ze wr.heap.size;rw[<- hgg]at hvk;have r0:∀ q,(V1.drewN q).cell? ⟨gg,0,none⟩=some (.int .i64 v1):=λ_=>hvk.cell 0;have r1:∀ q,(V1.drewN q).cell? ⟨gg,1,none⟩=some (.int .i64 v2):=λ_=>hvk.cell 1;have f1z:V1.cell? ⟨g,1,none⟩=some (.slice (some ps) x2.length da):=Zag hvb f1;have f1q:∀ q,(V1.drewN q).cell? ⟨g,1,none⟩=some (.slice (some ps) x2.length da):=λ_=>f1z;have HV1:=Zh hV1;have HGG:=Zh hgg;have HBV2:=Zh (Zaa HBi.out hvb HBi.out.size);have HBV:=Zh (Zaa HB2.out HBV2.out HB2.out.size);have hgv:x2.getD z (0,0)=(v1,v2):=by rw[Yaw,hv];rfl
             by_cases hz0:z=0
             ·have dz:decide ((0:Int)<(z:Int))=false:=Ybt (by omega)
              have dzm:decide (0<z)=false:=Ybt (by omega);have hsz:spAt x2 z=(decide ((-1:Int)<v1)&&decide ((-1:Int)<v2)):=by unfold spAt;rw[Yag hz0,Yag hz0,hgv]
              have HSZ:=Zh hsz;clear hsz hv hgv hvk hvb hV1 hgg hkz f1z hz0;by_cases c6:v1<0
              ·have m1:decide (v1<0)=true:=Yb0 c6
               have hb:okAt l j=false:=Zbw (by
                rw[Yb1];intro e;rw[HPX.out]at e;have e2:=spots_rise.1 e z hz2;rw[HSZ.out,Yal,decide_eq_true_eq,decide_eq_true_eq]at e2;omega)
               obtain rfl:R=1:=HBAD.out hb;clear hb;go_wp2_with fail;rw[<- HV1.out,<- HGG.out];go_quiet (fail);go_wp2;go_ret;exact⟨rfl,Zaf HBV.out _⟩
              ·have m1:decide (v1<0)=false:=Ybt c6
               by_cases c7:v2<0
               ·have m2:decide (v2<0)=true:=Yb0 c7
                have hb:okAt l j=false:=Zbw (by
                 rw[Yb1];intro e;rw[HPX.out]at e;have e2:=spots_rise.1 e z hz2;rw[HSZ.out,Yal,decide_eq_true_eq,decide_eq_true_eq]at e2;omega)
                obtain rfl:R=1:=HBAD.out hb;clear hb;go_wp2_with fail;rw[<- HV1.out,<- HGG.out];go_quiet (fail);go_wp2;go_ret;exact⟨rfl,Zaf HBV.out _⟩
               ·have m2:decide (v2<0)=false:=Ybt c7
                have hsz2:spAt x2 z=true:=by
                 rw[HSZ.out,Yal,decide_eq_true_eq,decide_eq_true_eq];omega
                have HNX:=Zh hsz2;clear hsz2;go_wp2_with fail;rw[<- HV1.out,<- HGG.out];go_quiet (fail);go_wp2;go_roundw;case rel=>exact⟨z+1,by omega,by go_num,λt ht=>by
                 rcases Yab t z with h1|h1
                 ·exact HSP.out t h1
                 ·obtain rfl:t=z:=by omega
                  exact HNX.out,Zaf HBV2.out _⟩
                case measure=>simp[intOf];omega
             ·have dz:decide ((0:Int)<(z:Int))=true:=Yb0 (by omega)
              have dzn:0<z:=by omega
              have dzm:decide (0<z)=true:=Yb0 dzn;obtain⟨y,hy⟩:∃ y,z=y+1:=⟨z-1,by omega⟩
              have hw9:IntKind.i64.wrap ((z:Int)-1)=(y:Int):=by rw[show(z:Int)-1=(y:Int) by omega];exact Ybo _ (by omega)
              have y0:(0:Int)<=(y:Int):=by omega
              have y1i:(y:Int)<(x2.length:Int):=by omega
              have y1n:y<x2.length:=by omega
              obtain⟨pt,u,hpt,hu,s0,s1,-,-⟩:=((HS2.out.below HBi.out).below hvb).at y y1n;obtain rfl:ps=pt:=Ya9 hpt;obtain⟨u1,u2⟩:=u;simp only at s0 s1;have s0':∀ q,(V1.drewN q).cell? (ps.add (y*2))=some (.int .i64 u1):=λ_=>s0;have s1':∀ q,(V1.drewN q).cell? ⟨(ps.add (y*2)).block,(ps.add (y*2)).off+1,none⟩=some (.int .i64 u2):=λ_=>s1;have hgu:x2.getD (z-1) (0,0)=(u1,u2):=by rw[hy,Ybk,Yaw,hu];rfl
              have hlow:=Zv2 HSP.out (z-1) (by omega);rw[hgu]at hlow;obtain⟨hlo1,hlo2⟩:=hlow;simp only at hlo1 hlo2;have hsz:spAt x2 z=(decide (u1<v1)&&decide (u2<v2)):=by unfold spAt;rw[Yaf hz0,Yaf hz0,hgv,hgu]
              have HSZ:=Zh hsz;clear hsz hv hgv hvk hvb hV1 hgg hkz f1z hpt hu s0 s1 hgu hy;by_cases c6:v1<0
              ·have m1:decide (v1<0)=true:=Yb0 c6
               have hb:okAt l j=false:=Zbw (by
                rw[Yb1];intro e;rw[HPX.out]at e;have e2:=spots_rise.1 e z hz2;rw[HSZ.out,Yal,decide_eq_true_eq,decide_eq_true_eq]at e2;omega)
               obtain rfl:R=1:=HBAD.out hb;clear hb;go_wp2_with fail;rw[<- HV1.out,<- HGG.out];go_quiet (fail);go_wp2;go_ret;exact⟨rfl,Zaf HBV.out _⟩
              ·have m1:decide (v1<0)=false:=Ybt c6
               by_cases c7:v2<0
               ·have m2:decide (v2<0)=true:=Yb0 c7
                have hb:okAt l j=false:=Zbw (by
                 rw[Yb1];intro e;rw[HPX.out]at e;have e2:=spots_rise.1 e z hz2;rw[HSZ.out,Yal,decide_eq_true_eq,decide_eq_true_eq]at e2;omega)
                obtain rfl:R=1:=HBAD.out hb;clear hb;go_wp2_with fail;rw[<- HV1.out,<- HGG.out];go_quiet (fail);go_wp2;go_ret;exact⟨rfl,Zaf HBV.out _⟩
               ·have m2:decide (v2<0)=false:=Ybt c7
                by_cases c8:v1<=u1
                ·have m3:decide (v1<=u1)=true:=Yb0 c8
                 have hb:okAt l j=false:=Zbw (by
                  rw[Yb1];intro e;rw[HPX.out]at e;have e2:=spots_rise.1 e z hz2;rw[HSZ.out,Yal,decide_eq_true_eq,decide_eq_true_eq]at e2;omega)
                 obtain rfl:R=1:=HBAD.out hb;clear hb;go_wp2_with fail;rw[<- HV1.out,<- HGG.out];go_quiet (fail);go_wp2;go_ret;exact⟨rfl,Zaf HBV.out _⟩
                ·have m3:decide (v1<=u1)=false:=Ybt c8
                 by_cases c9:v2<=u2
                 ·have m4:decide (v2<=u2)=true:=Yb0 c9
                  have hb:okAt l j=false:=Zbw (by
                   rw[Yb1];intro e;rw[HPX.out]at e;have e2:=spots_rise.1 e z hz2;rw[HSZ.out,Yal,decide_eq_true_eq,decide_eq_true_eq]at e2;omega)
                  obtain rfl:R=1:=HBAD.out hb;clear hb;go_wp2_with fail;rw[<- HV1.out,<- HGG.out];go_quiet (fail);go_wp2;go_ret;exact⟨rfl,Zaf HBV.out _⟩
                 ·have m4:decide (v2<=u2)=false:=Ybt c9
                  have hsz2:spAt x2 z=true:=by
                   rw[HSZ.out,Yal,decide_eq_true_eq,decide_eq_true_eq];omega
                  have HNX:=Zh hsz2;clear hsz2;go_wp2_with fail;rw[<- HV1.out,<- HGG.out];go_quiet (fail);go_wp2;go_roundw;case rel=>exact⟨z+1,by omega,by go_num,λt ht=>by
                   rcases Yab t z with h1|h1
                   ·exact HSP.out t h1
                   ·obtain rfl:t=z:=by omega
                    exact HNX.out,Zaf HBV2.out _⟩
                  case measure=>simp[intOf];omega
            ·obtain rfl:z=x2.length:=by omega
             have hlz3:¬ ((x2.length:Int)<(x2.length:Int)):=by omega
             have hnext:okUp l (j+1)=true:=by
              rw[okUp,HOK.out,Bool.true_and];have hri:=spots_rise.2 HSP.out;rw[Yal]at hri;refine okAt_iff.2 ?_;rw[HPX.out];exact⟨HDOC.out.1,HDOC.out.2.1,HDOC.out.2.2.1,HDOC.out.2.2.2,hri.1,hri.2⟩
             have HNEXT:=Zh hnext;have HFIN:=Zh (Zaa HB2.out HBi.out HB2.out.size);clear hnext hkz;go_wp2;exact⟨⟨j+1,by omega,by go_num,HNEXT.out,HFIN.out⟩,by simp[intOf];omega⟩
     ·obtain rfl:j=k:=by omega
      have hlz2:¬ ((j:Int)<(j:Int)):=by omega
      have hr:R=0:=by rw[HR.out,Zt8 (by rw[HLEN.out];omega) (by rw[HLEN.out];exact HM0.out) (by rw[HLEN.out];exact HOK.out)]
      subst hr;go_wp2;go_ret;exact⟨rfl,HB.out⟩
end
section
theorem Zos {b:List UInt8} {n0 k:Nat} (h:rdUp b n0 k=none):∀ m,rdUp b n0 (k+m)=none
 | 0=>h
 | m+1=>by
  have ih:=Zos h m;rw[<- Nat.add_assoc,rdUp,ih]
theorem Zis {l:List UInt8} (h:(getL l).2.2=0):(getL l).2.1<=l.length/\(getL l).1<2 ^ 64:=by
 rcases hg:getL l with⟨v,k,e⟩
 rw[hg]at h;simp only at h;subst h;obtain⟨_,_,h3,_,h5⟩:=Zby hg;exact⟨h3,h5⟩
theorem Zf4 {l:List UInt8} {most:Int} (h:(getR l most).2.2=0):(getR l most).2.1<=l.length/\((getR l most).1.length:Int)<=most/\Za4 (-1) (getR l most).1=true/\∀ x∈(getR l most).1,x<=9223372036854775807:=by
 rcases hg:getR l most with⟨v,k,e⟩
 rw[hg]at h;simp only at h;subst h;obtain⟨h1,h2,h3,_,h5⟩:=Zs9 hg;exact⟨h3,h5,h1,h2⟩
theorem Zsu {b:List UInt8} {n:Nat} (h:n<=b.length):Zju b n<=b.length:=by
 unfold Zju;split
 ·rename_i h1
  have:=(Zis h1).1
  rw[Yas]at this;omega
 ·exact h
theorem Zij {b:List UInt8} {n:Nat} (h:n<=b.length):Zja b n<=b.length:=Zsu (Zsu h)
theorem Qa9 {b:List UInt8} {i n:Nat} (h:n<=b.length):Zls b i n<=b.length:=by
 unfold Zls;have h1:=Zij h;split<;>split<;>first|exact Zij h1|exact Zij h|exact h1|exact h
theorem Zd7 {l:List Int} {p:Int} (h:Za4 p l=true):∀ y∈l,p<y:=by
 induction l generalizing p with
 | nil=>intro y hy;cases hy
 | cons x l ih=>
  simp only[Za4,Yal,decide_eq_true_eq]at h;intro y hy;rcases Yat.1 hy with rfl|hy
  ·exact h.1
  ·have:=ih h.2 y hy;omega
theorem Zn0 {a c:List Int} {x:Int×Int} (h:x∈a.zip c):x.1∈a/\x.2∈c:=⟨(List.of_mem_zip h).1,(List.of_mem_zip h).2⟩
structure Qfh (b:List UInt8) (d:Nat) (s:List (Int×Int)) (n2:Nat):Prop where
 doc:d<=4294967296
 end_:n2<=b.length
 few:s.length<=4096
 fit:∀ x∈s,0<=x.1/\x.1<=9223372036854775807/\0<=x.2/\x.2<=9223372036854775807
theorem Zsj {b:List UInt8} {n d n2:Nat} {s:List (Int×Int)} (h:Zfw b n=some (d,s,n2)) (hn:n<=b.length):Qfh b d s n2:=by
 unfold Zfw at h;split at h
 ·cases h
 ·rename_i h1
  split at h
  ·cases h
  ·rename_i h2
   split at h
   ·cases h
   ·rename_i h3
    simp only[Option.some.injEq,Prod.mk.injEq]at h;obtain⟨e1,e2,e3⟩:=h;have g1:=Zis (Decidable.not_not.1 λh=>h1 (.inl h));have g2:=Zf4 (Decidable.not_not.1 h2);have g3:=Zf4 (Decidable.not_not.1 λh=>h3 (.inl h));rw[Yas]at g1 g2 g3;refine⟨by omega,by omega,?_,λx hx=>?_⟩
    ·rw[<- e2,List.length_zip]
     omega
    ·rw[<- e2]at hx
     obtain⟨q1,q2⟩:=Zn0 hx;have a1:=Zd7 g2.2.2.1 _ q1;have a2:=Zd7 g3.2.2.1 _ q2;exact⟨by omega,g2.2.2.2 _ q1,by omega,g3.2.2.2 _ q2⟩
structure UpOk (b:List UInt8) (k:Nat) (l:List Pst) (n:Nat) (doc:Int):Prop where
 len:l.length=k
 end_:n<=b.length
 doc:-1<=doc/\doc<=-1+4294967297*(k:Int)
 docs:∀ x∈l,-1<=x.1/\x.1<=4294967297*(k:Int)
 few:∀ x∈l,x.2.length<=4096
 fit:∀ x∈l,∀ s∈x.2,0<=s.1/\s.1<=9223372036854775807/\0<=s.2/\s.2<=9223372036854775807
theorem Zr2 {b:List UInt8} {n0:Nat} (h0:n0<=b.length):∀ (k:Nat) (l:List Pst) (n:Nat) (doc:Int),rdUp b n0 k=some (l,n,doc)->UpOk b k l n doc
 | 0,l,n,doc,h=>by
  simp only[rdUp,Option.some.injEq,Prod.mk.injEq]at h;obtain⟨rfl,rfl,rfl⟩:=h;exact⟨rfl,h0,by omega,λx hx=>(by cases hx),λx hx=>(by cases hx),λx hx=>(by cases hx)⟩
 | k+1,l,n,doc,h=>by
  rw[rdUp]at h;split at h
  ·cases h
  ·rename_i l' n' doc' h1
   have ih:=Zr2 h0 k l' n' doc' h1;split at h
   ·cases h
   ·rename_i d s n2 h2
    simp only[Option.some.injEq,Prod.mk.injEq]at h;obtain⟨rfl,rfl,rfl⟩:=h;have ho:=Zsj h2 (Qa9 ih.end_);have hd:=ho.doc;have i1:=ih.doc;refine⟨by simp[ih.len],ho.end_,by omega,λx hx=>?_,λx hx=>?_,λx hx=>?_⟩
    ·rcases Ybj.1 hx with h|h
     ·have:=ih.docs x h;omega
     ·rw[Ybi.1 h];simp only;omega
    ·rcases Ybj.1 hx with h|h
     ·exact ih.few x h
     ·rw[Ybi.1 h];exact ho.few
    ·rcases Ybj.1 hx with h|h
     ·exact ih.fit x h
     ·rw[Ybi.1 h];exact ho.fit
theorem Zz8 {l:List Pst} {k i:Nat} (h:i<k):pAt (l.take k) i=pAt l i:=by
 unfold pAt;rw[Yaw,Yaw,Yci,Yag h]
theorem Zm3 {b:List UInt8}:FitP (getP b).1:=by
 intro x hx s hs;unfold getP at hx;split at hx
 ·cases hx
 ·rename_i hc
  split at hx
  ·cases hx
  ·rename_i l' n' d' hu
   have hg:=Zis (l:=b) (Decidable.not_not.1 λh=>hc (.inl h));have hok:=Zr2 hg.1 _ _ _ _ hu;split at hx
   ·exact⟨(hok.fit x hx s hs).2.1,(hok.fit x hx s hs).2.2.2⟩
   ·cases hx
theorem Zxp {l:List Pst} (h:ValidP l) {i:Nat}:∀ {k:Nat},i+k<l.length->(pAt l i).1<=(pAt l (i+k)).1
 | 0,_=>Int.le_refl _
 | k+1,hk=>by
  have h1:=Zxp h (i:=i) (k:=k) (by omega);have h2:=h.up (i+(k+1)) hk;unfold Zaq at h2;rw[Yaf (by omega),show i+(k+1)-1=i+k by omega]at h2;omega
theorem Zqi {l:List Pst} (h:ValidP l) {i j:Nat} (hij:i<=j) (hj:j<l.length):(pAt l i).1<=(pAt l j).1:=by
 have:=Zxp h (i:=i) (k:=j-i) (by omega)
 rwa [show i+(j-i)=j by omega]at this
section
variable {l:List Pst} (h:ValidP l) {m:Nat} (hm:m<=l.length)
include h hm
end
end
section
theorem Qbu {a b:List Pst} {i:Nat} (h:i<a.length):pAt (a++b) i=pAt a i:=by
 unfold pAt;rw[Yaw,Yaw,Yba h]
theorem Zx7 {a b:List Pst} {i:Nat} (h:a.length<=i):pAt (a++b) i=pAt b (i-a.length):=by
 unfold pAt;rw[Yaw,Yaw,Ybc h]
theorem Qbn {l:List Pst} {k i:Nat}:pAt (l.drop k) i=pAt l (k+i):=by
 unfold pAt;rw[Yaw,Yaw,Ybv]
end
section
open Go.RowKit Go.Maps Go.WideMaps
theorem Zri:∃ f g:Field,Tryz.prog.fieldsOf 64=#[f,g]/\f.name≠"_"/\g.name≠"_"/\f.type=2/\g.type=2/\f.offset=0/\g.offset=1:=
 ⟨_,_,rfl,by decide,by decide,rfl,rfl,rfl,rfl⟩
theorem Zwi (y1 y2 x1 x2:Int) {r:Bool} (h:((y1==x1)&&(y2==x2))=r) (w:World):(binOp .neq 64 (.agg #[.int .i64 y1,.int .i64 y2]) (.agg #[.int .i64 x1,.int .i64 x2])).run Tryz.prog w=.ok (.bool (!r)) w:=by
 subst h;obtain⟨f,g,h1,h2,h3,h4,h5,h6,h7⟩:=Zri;rw[run_neq_struct,run_equalIn_struct w 9999 64 _ _ rfl (by kernel_rfl),h1];have he:∀ a b:Int,∀ w:World,(Op.equalIn 9999 2 (.int .i64 a) (.int .i64 b)).run Tryz.prog w=.ok (a==b) w:=λa b w=>run_equalIn_int w 9998 2 .i64 .i64 a b Tryz.underlying2;simp only[Op.eqFields,h4,h5,h6,h7,Yag h2,Yag h3];simp[part,he];cases hA:(y1==x1)<;>cases hB:(y2==x2)<;>simp_all
theorem Zj6 (w:World) (A B:Option Addr) (n m ca cb:Nat) (a b:List (Int×Int)) (ha:PairsIn w A n a) (hb:PairsIn w B m b):
  Calls Tryz.prog 112 #[.slice A n ca,.slice B m cb] w λe w'=>e=.returned (.bool (decide (a=b)))/\∃ q,w'=w.drewN q:=by
 have HA:=Zh ha;have HB:=Zh hb;have hn63:n<=9223372036854775807:=ha.fit;by_cases hnm:n=m
 ·subst hnm
  have d0:(((n:Nat):Int) != ((n:Nat):Int))=false:=by simp
  obtain⟨r,hr⟩:=Ze (decide (a=b));rw[<- hr];have HR:=Zh hr;clear ha hb hr;go_enter Tryz.func112,Tryz.ntmps112;go_wp2;go_loopw [5] (λi wr=>∃ k q:Nat,k<=n/\i=.int .i64 k/\a.take k=b.take k/\wr=w.drewN q) (λi _=>n-(intOf i).toNat);case atStart=>exact⟨0,0,by omega,rfl,by simp,rfl⟩
  case round=>
   obtain⟨k,q,hk,rfl,htk,rfl⟩:=hrel;have HTK:=Zh htk;clear htk;rcases Yab k n with hlt|hge
   ·have hlt':(k:Int)<(n:Int):=by omega
    have p0:(0:Int)<=(k:Int):=by omega
    obtain⟨pa,x,rfl,hx,a0,a1,-,-⟩:=HA.out.at k hlt;obtain⟨pb,y,rfl,hy,c0,c1,-,-⟩:=HB.out.at k hlt;obtain⟨x1,x2⟩:=x;obtain⟨y1,y2⟩:=y;simp only at a0 a1 c0 c1;have a0':∀ q,(w.drewN q).cell? (pa.add (k*2))=some (.int .i64 x1):=λ_=>a0;have a1':∀ q,(w.drewN q).cell? ⟨(pa.add (k*2)).block,(pa.add (k*2)).off+1,none⟩=some (.int .i64 x2):=λ_=>a1;have c0':∀ q,(w.drewN q).cell? (pb.add (k*2))=some (.int .i64 y1):=λ_=>c0;have c1':∀ q,(w.drewN q).cell? ⟨(pb.add (k*2)).block,(pb.add (k*2)).off+1,none⟩=some (.int .i64 y2):=λ_=>c1;have hw5:IntKind.i64.wrap ((k:Int)+1)=(k:Int)+1:=Ybo _ (by omega);have ta:a.take (k+1)=a.take k++[(x1,x2)]:=by rw[Ya5,hx];rfl
    have tb:b.take (k+1)=b.take k++[(y1,y2)]:=by rw[Ya5,hy];rfl
    have TA:=Zh ta;have TB:=Zh tb;clear a0 a1 c0 c1 ta tb;cases hd:((x1==y1)&&(x2==y2))with
    | true=>
     have heq:=Zwi x1 x2 y1 y2 hd;simp only[Yal,beq_iff_eq]at hd;obtain⟨rfl,rfl⟩:=hd;clear hx hy;go_wp2_with fail;go_quiet (fail);go_wp2;go_roundw;case rel=>exact⟨k+1,_,by omega,by go_num,by rw[TA.out,TB.out,HTK.out],rfl⟩
     case measure=>simp[intOf];omega
    | false=>
     have heq:=Zwi x1 x2 y1 y2 hd;obtain rfl:r=false:=by
      rw[HR.out];refine Ybt λe=>?_;subst e;rw[hx]at hy;obtain⟨rfl,rfl⟩:=Prod.mk.inj (Ya9 hy);simp at hd
     clear hx hy;go_wp2_with fail;go_quiet (fail);go_wp2;go_ret;exact⟨rfl,q+nq,by rw[Ybs]⟩
   ·obtain rfl:k=n:=by omega
    have hlz:¬ ((k:Int)<(k:Int)):=by omega
    obtain rfl:r=true:=by
     have h1:=HTK.out;rw[Yav (by rw[HA.out.len];exact Yar _),Yav (by rw[HB.out.len];exact Yar _)]at h1;rw[HR.out,h1];simp
    go_wp2;go_ret;exact⟨rfl,_,rfl⟩
 ·have d0:(((n:Nat):Int) != ((m:Nat):Int))=true:=by simp;omega
  have hr:decide (a=b)=false:=Ybt λe=>hnm (by rw[<- ha.len,<- hb.len,e]);rw[hr];clear ha hb hr;go_enter Tryz.func112,Tryz.ntmps112;go_wp2;go_ret;exact⟨rfl,0,rfl⟩
def Zya (w:World) (l:List Int) (e:Ending) (w':World):Prop:=∃ v,e=.returned v/\w'.ownsRow w.heap.size 3 1 v l.length (l.map i64V)/\Below w.heap.size w w'
theorem Zkl (m x:Int) (r:List Int):insI m (x :: r)=if x<m then x :: insI m r else if x=m then x :: r else m :: x :: r:=rfl
theorem Zzu {l:List Int} {k:Nat} {x:Int} (h:l[k]?=some x):l.drop k=x :: l.drop (k+1):=by
 obtain⟨h1,rfl⟩:=Ybb.1 h;exact Ycg h1
theorem Zpz {l:List Int} {k:Nat} {x:Int} (h:l[k]?=some x):l.take (k+1)=l.take k++[x]:=by
 rw[Ya5,h];rfl
theorem Zrz (w:World) (A:Option Addr) (n c:Nat) (l:List Int) (m:Int) (h:IntsIn w A n l) (hn:n<=1000000):Calls Tryz.prog 94 #[.slice A n c,.int .i64 m] w (Zya w (insI m l)):=by
 obtain⟨i0,hi,hz0,hz1,hz2⟩:=info_parts Ztk;have HL:=Zh h;have HLN:=Zh h.len;clear h;go_enter Tryz.func94,Tryz.ntmps94;go_wp2;go_loopw [5,6,7] (λv dv iv wr=>∃ (k:Nat) (o:List Int) (dn:Bool),k<=n/\iv=.int .i64 k/\dv=.bool dn/\o.length<=k+1/\wr.ownsRow w.heap.size 3 1 v o.length (o.map i64V)/\Below w.heap.size w wr/\(dn=true->insI m l=o++l.drop k)/\(dn=false->o=l.take k/\insI m l=l.take k++insI m (l.drop k))) (λ_ _ iv _=>n-(intOf iv).toNat);case atStart=>exact⟨0,[],false,by omega,rfl,rfl,by simp,⟨rfl,.inl ⟨rfl,rfl⟩⟩,Ybm _ _,(λe=>by cases e),λ_=>⟨rfl,rfl⟩⟩
 case round=>
  obtain⟨k,o,dn,hk,rfl,rfl,hol,hO,hB,hT,hF⟩:=hrel;have HO:=Zh hO;have HB:=Zh hB;have HT:=Zh hT;have HF:=Zh hF;have hbz:=hB.size;clear hO hB hT hF;obtain⟨Av,cv,rfl,hcv⟩:=Za0 HO.out;rcases Yab k n with hlt|hge
  ·have hlt':(k:Int)<(n:Int):=by omega
   have p0:(0:Int)<=(k:Int):=by omega
   have hw5:IntKind.i64.wrap ((k:Int)+1)=(k:Int)+1:=Ybo _ (by omega);obtain⟨pa,x,rfl,hx,a0,-,-⟩:=(HL.out.below HB.out).at k hlt;have HDT:=Zh (Zzu hx);have HTT:=Zh (Zpz hx);have HST:Hid (∀ u,Below w.heap.size w u->u.cell? (pa.add k)=some (.int .i64 x)):=Zh (λu hu=>by
    obtain⟨pa',x',e1,e2,e3,-,-⟩:=(HL.out.below hu).at k hlt;obtain rfl:=Ya9 e1;obtain rfl:=Ya9 (hx.symm.trans e2);exact e3)
   clear hx;cases dn with
   | true=>
    have HFN:Hid (insI m l=(o++[x])++l.drop (k+1)):=Zh (by rw[HT.out rfl,HDT.out];simp);go_wp2_with (at_builtin;refine Zae _ rfl (.tmp 34) (.tmp 39) 52 rfl w.heap.size 3 i0 (.int .i64 0) 8 Tryz.underlying52 hi hz0 hz1 hz2 rfl _ o.length _ rfl (Yb6 HO.out _) _ 1 1 _ rfl (Zbe _ 3 x) (Zco [x]) (by unfold maxLen;omega) (by omega) (by have:=HB.out.size;simp;omega) ?_;intro v3 w9 hown hgrow _;have HO9:=Zh hown;have HB9:=Zh ((HB.out.alloc HB.out.size _).grown hgrow (by have:=HB.out.size;simp;omega) (λg hg=>(HO.out.lt g hg).1));clear hown hgrow);go_roundw;case rel=>exact⟨k+1,o++[x],true,by omega,by go_num,rfl,by simp;omega,by simpa using HO9.out,HB9.out,λ_=>HFN.out,λe=>by cases e⟩
    case measure=>simp[intOf];omega
   | false=>
    by_cases hxm:m<=x
    ·have d1:decide (m<=x)=true:=Yb0 hxm
     by_cases hxe:m<x
     ·have d2:decide (m<x)=true:=Yb0 hxe
      have HOL:Hid (o.length<=k):=Zh (by rw[(HF.out rfl).1,Ycc];omega);have HFN:Hid (insI m l=((o++[m])++[x])++l.drop (k+1)):=Zh (by
       obtain⟨h1,h2⟩:=HF.out rfl;rw[h2,HDT.out,Zkl,Yaf (by omega),Yaf (by omega),h1];simp)
      go_upto_region 10 with(at_builtin;refine Zae _ rfl (.tmp 30) (.tmp 32) 52 rfl w.heap.size 3 i0 (.int .i64 0) 8 Tryz.underlying52 hi hz0 hz1 hz2 rfl _ o.length _ rfl (Yb6 HO.out _) _ 1 1 _ rfl (Zbe _ 3 m) (Zco [m]) (by unfold maxLen;omega) (by omega) (by have:=HB.out.size;simp;omega) ?_;intro v3 w9 hown hgrow _;have HO9:=Zh hown;have HB9:=Zh ((HB.out.alloc HB.out.size _).grown hgrow (by have:=HB.out.size;simp;omega) (λg hg=>(HO.out.lt g hg).1));clear hown hgrow)
      obtain⟨A9,c9,rfl,-⟩:=Za0 HO9.out;have a9:=HST.out w9 HB9.out;have b9:=HB9.out.size;go_wp2_with (at_builtin;refine Zae _ rfl (.tmp 34) (.tmp 39) 52 rfl w.heap.size 3 i0 (.int .i64 0) 8 Tryz.underlying52 hi hz0 hz1 hz2 rfl _ (o.length+1) _ rfl (Yb6 HO9.out _) _ 1 1 _ rfl (Zbe _ 3 x) (Zco [x]) (by unfold maxLen;omega) (by omega) (by simp;omega) ?_;intro v4 w10 hown hgrow _;have HO10:=Zh hown;have HB10:=Zh ((HB9.out.alloc b9 _).grown hgrow (by simp;omega) (λg hg=>(HO9.out.lt g hg).1));clear hown hgrow);go_roundw;case rel=>exact⟨k+1,(o++[m])++[x],true,by omega,by go_num,rfl,by have h2:=HOL.out;simp;omega,by simpa using HO10.out,HB10.out,λ_=>HFN.out,λe=>by cases e⟩
      case measure=>simp[intOf];omega
     ·have d2:decide (m<x)=false:=Ybt hxe
      have HFN:Hid (insI m l=(o++[x])++l.drop (k+1)):=Zh (by
       obtain⟨h1,h2⟩:=HF.out rfl;rw[h2,HDT.out,Zkl,Yaf (by omega),Yag (by omega),h1];simp)
      go_wp2_with (at_builtin;refine Zae _ rfl (.tmp 34) (.tmp 39) 52 rfl w.heap.size 3 i0 (.int .i64 0) 8 Tryz.underlying52 hi hz0 hz1 hz2 rfl _ o.length _ rfl (Yb6 HO.out _) _ 1 1 _ rfl (Zbe _ 3 x) (Zco [x]) (by unfold maxLen;omega) (by omega) (by have:=HB.out.size;simp;omega) ?_;intro v3 w9 hown hgrow _;have HO9:=Zh hown;have HB9:=Zh ((HB.out.alloc HB.out.size _).grown hgrow (by have:=HB.out.size;simp;omega) (λg hg=>(HO.out.lt g hg).1));clear hown hgrow);go_roundw;case rel=>exact⟨k+1,o++[x],true,by omega,by go_num,rfl,by simp;omega,by simpa using HO9.out,HB9.out,λ_=>HFN.out,λe=>by cases e⟩
      case measure=>simp[intOf];omega
    ·have d1:decide (m<=x)=false:=Ybt hxm
     have HFN:Hid (o++[x]=l.take (k+1)/\insI m l=l.take (k+1)++insI m (l.drop (k+1))):=Zh (by
      obtain⟨h1,h2⟩:=HF.out rfl;refine⟨by rw[HTT.out,h1],?_⟩;rw[h2,HDT.out,Zkl,Yag (by omega),HTT.out];simp)
     go_wp2_with (at_builtin;refine Zae _ rfl (.tmp 34) (.tmp 39) 52 rfl w.heap.size 3 i0 (.int .i64 0) 8 Tryz.underlying52 hi hz0 hz1 hz2 rfl _ o.length _ rfl (Yb6 HO.out _) _ 1 1 _ rfl (Zbe _ 3 x) (Zco [x]) (by unfold maxLen;omega) (by omega) (by have:=HB.out.size;simp;omega) ?_;intro v3 w9 hown hgrow _;have HO9:=Zh hown;have HB9:=Zh ((HB.out.alloc HB.out.size _).grown hgrow (by have:=HB.out.size;simp;omega) (λg hg=>(HO.out.lt g hg).1));clear hown hgrow);go_roundw;case rel=>exact⟨k+1,o++[x],false,by omega,by go_num,rfl,by simp;omega,by simpa using HO9.out,HB9.out,(λe=>by cases e),λ_=>HFN.out⟩
     case measure=>simp[intOf];omega
  ·obtain rfl:k=n:=by omega
   have hlz:¬ ((k:Int)<(k:Int)):=by omega
   cases dn with
   | true=>
    have HFN:Hid (insI m l=o):=Zh (by rw[HT.out rfl,List.drop_of_length_le (by rw[HLN.out];exact Yar _),List.append_nil]);go_wp2;go_ret;rw[HFN.out];exact⟨_,rfl,HO.out,HB.out⟩
   | false=>
    have HFN:Hid (insI m l=o++[m]):=Zh (by
     obtain⟨h1,h2⟩:=HF.out rfl;rw[h2,List.drop_of_length_le (by rw[HLN.out];exact Yar _),h1];rfl)
    go_wp2_with (at_builtin;refine Zae _ rfl (.tmp 43) (.tmp 45) 52 rfl w.heap.size 3 i0 (.int .i64 0) 8 Tryz.underlying52 hi hz0 hz1 hz2 rfl _ o.length _ rfl (Yb6 HO.out _) _ 1 1 _ rfl (Zbe _ 3 m) (Zco [m]) (by unfold maxLen;omega) (by omega) (by have:=HB.out.size;simp;omega) ?_;intro v3 w9 hown hgrow _;have HO9:=Zh hown;have HB9:=Zh ((HB.out.alloc HB.out.size _).grown hgrow (by have:=HB.out.size;simp;omega) (λg hg=>(HO.out.lt g hg).1));clear hown hgrow);go_ret;rw[HFN.out];exact⟨_,rfl,by simpa using HO9.out,HB9.out⟩
end
section
theorem Zmq (l:List Pst) (d:Int):∀ (f a:Nat),f=l.length-a->a<=l.length->(∀ i,a<=i->i<Zhz l d f a->(pAt l i).1<d)/\(Zhz l d f a<l.length->d<=(pAt l (Zhz l d f a)).1)
 | 0,a,hf,ha=>by
  simp only[Zhz];exact⟨λi h1 h2=>by omega,λh=>by omega⟩
 | f+1,a,hf,ha=>by
  simp only[Zhz];split
  ·rename_i hc
   obtain⟨h1,h2⟩:=Zmq l d f (a+1) (by omega) (by omega);refine⟨λi h3 h4=>?_,h2⟩;rcases Nat.eq_or_lt_of_le h3 with rfl|h5
   ·exact hc.2
   ·exact h1 i h5 h4
  ·rename_i hc
   refine⟨λi h1 h2=>by omega,λh=>?_⟩;by_cases h3:(pAt l a).1<d
   ·exact absurd ⟨h,h3⟩ hc
   ·omega
def Qcx (l:List Pst) (d:Int) (a:Nat):Nat:=Zhz l d (l.length-a) a
structure IsFirst (l:List Pst) (d:Int) (a p:Nat):Prop where
 from_:a<=p
 upto:p<=l.length
 less:∀ i,a<=i->i<p->(pAt l i).1<d
 here:p<l.length->d<=(pAt l p).1
theorem Zza {l:List Pst} {d:Int} {a:Nat} (ha:a<=l.length):IsFirst l d a (Qcx l d a):=by
 have h1:=Zs2 l d (l.length-a) a ha;have h2:=Zmq l d (l.length-a) a rfl ha;exact⟨h1.1,h1.2,h2.1,h2.2⟩
theorem IsFirst.unique {l:List Pst} {d:Int} {a p q:Nat} (h:IsFirst l d a p) (k:IsFirst l d a q):p=q:=by
 rcases Nat.lt_trichotomy p q with h1|h1|h1
 ·have h2:=k.less p h.from_ h1
  have h3:=h.here (by have:=k.upto;omega);omega
 ·exact h1
 ·have h2:=h.less q k.from_ h1
  have h3:=k.here (by have:=h.upto;omega);omega
theorem IsFirst.eq {l:List Pst} {d:Int} {a p:Nat} (h:IsFirst l d a p) (ha:a<=l.length):Qcx l d a=p:=(Zza ha).unique h
end
end Go.Proofs.YthcjikpabpgpfaaGreat
