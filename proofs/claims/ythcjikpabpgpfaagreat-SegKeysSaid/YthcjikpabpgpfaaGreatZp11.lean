import Derived.Test.YthcjikpabpgpfaaGreatZp0
import Derived.Test.YthcjikpabpgpfaaGreatZp7
import Derived.Test.YthcjikpabpgpfaaGreatZp6
import Derived.Test.YthcjikpabpgpfaaGreatZp5
import Derived.Laws.StructEq
import Derived.Lib.SmallJoins
import Derived.Deep.SlicePairs
import Derived.Deep.Strs
import Derived.ChangeOld
set_option linter.unusedSimpArgs false
set_option maxHeartbeats 16000000
set_option maxRecDepth 100000
namespace Go.Proofs.YthcjikpabpgpfaaGreat
open Go.RowKit Go.Maps Go.WideMaps Go.ChangeShapes Go.WideShapes Go.ChangeAt Go.Deep
structure DocsIn (w:World) (A:Option Addr) (n:Nat) (l:List (Nm×Nm)):Prop where
 len:l.length=n
 fit:n≤maxLen
 vals:∀ p∈l,p.1.length≤maxLen∧p.2.length≤maxLen
 nil:A=none→n=0
 cells:∀ ad,A=some ad→∀ (i:Nat) (p:Nm×Nm),l[i]?=some p→w.cell? (ad.add (i * 2))=some (.string ⟨p.1.toArray⟩)∧w.cell? (ad.add (i * 2+1))=some (.string ⟨p.2.toArray⟩)
theorem DocsIn.below {w w':World} {A:Option Addr} {n:Nat} {l:List (Nm×Nm)} (h:DocsIn w A n l) (hb:Below w.heap.size w w'):DocsIn w' A n l:=
 ⟨h.len,h.fit,h.vals,h.nil,fun ad e i p hp=>by
  obtain ⟨h1,h2⟩:=h.cells ad e i p hp
  exact ⟨(hb.cell (World.block_lt_of_cell? w _ h1)).trans h1,(hb.cell (World.block_lt_of_cell? w _ h2)).trans h2⟩⟩
theorem DocsIn.at {w:World} {A:Option Addr} {n:Nat} {l:List (Nm×Nm)} (h:DocsIn w A n l) (k:Nat) (hk:k < n):
  ∃ ad p,A=some ad∧l[k]?=some p∧w.cell? (ad.add (k * 2))=some (.string ⟨p.1.toArray⟩)∧w.cell? ⟨(ad.add (k * 2)).block,(ad.add (k * 2)).off+1,none⟩=some (.string ⟨p.2.toArray⟩)∧p.1.length≤maxLen∧p.2.length≤maxLen:=by
 have hl:=h.len
 cases hA:A with
 | none=>have:=h.nil hA;omega
 | some ad=>
  subst hA
  have hx:l[k]?=some (l[k]'(by omega)):=List.getElem?_eq_getElem _
  obtain ⟨h1,h2⟩:=h.cells ad rfl k _ hx
  have hv:=h.vals _ (List.getElem_mem (h:=(by omega:k < l.length)))
  rw [add_pos' _ _ _ (by omega)] at h2
  exact ⟨ad,_,rfl,hx,h1,h2,hv.1,hv.2⟩
def docOk (p:Nm×Nm):Prop:=1≤p.1.length∧p.1.length≤32∧p.2.length≤4096
instance (p:Nm×Nm):Decidable (docOk p):=by unfold docOk;infer_instance
def docsR (l:List (Nm×Nm)):Prop:=l.length≤64∧(∀ p∈l,docOk p)∧(l.map Prod.fst).Nodup
instance (l:List (Nm×Nm)):Decidable (docsR l):=by unfold docsR;infer_instance
theorem docsR_bad {l:List (Nm×Nm)} {i:Nat} {p:Nm×Nm} (h:l[i]?=some p) (hb:¬ docOk p):¬ docsR l:=fun e=>hb (e.2.1 p (List.mem_of_getElem? h))
theorem str_size (x:Nm):(⟨x.toArray⟩:ByteArray).size=x.length:=by simp [ByteArray.size]
end Go.Proofs.YthcjikpabpgpfaaGreat
namespace Go.Proofs.YthcjikpabpgpfaaGreat
structure MDoc where
 doc:Int
 T:List Int
 S:List Int
def mD (L:List MDoc) (i:Nat):MDoc:=L.getD i ⟨0,[],[]⟩
def spotUp (x:MDoc) (t:Int):Nat→List (Int×Int)
 | 0=>[]
 | k+1=>if x.T.getD k 0=t then spotUp x t k++[((k:Int),x.S.getD k 0)] else spotUp x t k
def mSpots (x:MDoc) (t:Int):List (Int×Int):=spotUp x t x.T.length
def postOne (x:MDoc) (t:Int):List Pst:=if 0 < (mSpots x t).length then [(x.doc,mSpots x t)] else []
def postUp (L:List MDoc) (t:Int):Nat→List Pst
 | 0=>[]
 | i+1=>postUp L t i++postOne (mD L i) t
def mPosts (L:List MDoc) (t:Int):List Pst:=postUp L t L.length
def insI (n:Int):List Int→List Int
 | []=>[n]
 | a :: r=>if a < n then a :: insI n r else if a=n then a :: r else n :: a :: r
def termOne (a:List Int) (T:List Int):List Int:=T.foldl (fun a t=>insI t a) a
def mTerms (L:List MDoc):List Int:=L.foldl (fun a x=>termOne a x.T) []
def badAt (x:MDoc) (i:Nat):Bool:=decide (x.T.getD i 0 < 0)||(decide (x.S.getD i 0 < 0)||(decide (0 < i)&&decide (x.S.getD i 0≤x.S.getD (i - 1) 0)))
def badTo (x:MDoc):Nat→Bool
 | 0=>false
 | i+1=>badTo x i||badAt x i
def lastM (L:List MDoc):Int:=if L.length=0 then -1 else (mD L (L.length - 1)).doc
def mErr (L:List MDoc) (x:MDoc):Int:=
 if 4096≤L.length∨4096 < x.T.length then 2
 else if x.doc < 0∨4294967296 < x.doc∨(0 < L.length∧x.doc≤(mD L (L.length - 1)).doc)∨x.T.length≠x.S.length then 1
 else if badTo x x.T.length=true then 1 else 0
def mAdd (L:List MDoc) (x:MDoc):List MDoc:=if mErr L x=0 then L++[x] else L
def addUp (X:List MDoc):Nat→List MDoc
 | 0=>[]
 | i+1=>mAdd (addUp X i) (mD X i)
structure DocOk (x:MDoc):Prop where
 few:x.T.length≤4096
 same:x.S.length=x.T.length
 doc:0≤x.doc∧x.doc≤4294967296
 good:badTo x x.T.length=false
 fit:(∀ y∈x.T,y≤9223372036854775807)∧∀ y∈x.S,y≤9223372036854775807
structure MWF (L:List MDoc):Prop where
 few:L.length≤4096
 ok:∀ x∈L,DocOk x
 up:∀ i j,i < j→j < L.length→(mD L i).doc < (mD L j).doc
theorem mD_at {L:List MDoc} {i:Nat} {x:MDoc} (h:L[i]?=some x):mD L i=x:=by
 unfold mD
 rw [List.getD_eq_getElem?_getD,h]
 rfl
theorem mD_mem {L:List MDoc} {i:Nat} (h:i < L.length):mD L i∈L:=by
 rw [mD_at (List.getElem?_eq_getElem h)]
 exact List.getElem_mem h
theorem mD_left {L M:List MDoc} {i:Nat} (h:i < L.length):mD (L++M) i=mD L i:=by
 unfold mD
 rw [List.getD_eq_getElem?_getD,List.getD_eq_getElem?_getD,List.getElem?_append_left h]
theorem mD_last (L:List MDoc) (x:MDoc):mD (L++[x]) L.length=x:=by
 unfold mD
 rw [List.getD_eq_getElem?_getD,List.getElem?_append_right (Nat.le_refl _),Nat.sub_self]
 rfl
theorem MWF.nil:MWF []:=⟨by simp,by simp,fun i j _ h=>by simp at h⟩
theorem mErr_ok {L:List MDoc} {x:MDoc} (h:mErr L x=0):L.length < 4096∧x.T.length≤4096∧(0≤x.doc∧x.doc≤4294967296)∧(0 < L.length→(mD L (L.length - 1)).doc < x.doc)∧x.S.length=x.T.length∧badTo x x.T.length=false:=by
 unfold mErr at h
 split at h
 ·cases h
 ·rename_i h1
  split at h
  ·cases h
  ·rename_i h2
   split at h
   ·cases h
   ·rename_i h3
    refine ⟨by omega,by omega,by omega,fun h0=>by omega,by omega,by simpa using h3⟩
theorem MWF.add {L:List MDoc} (h:MWF L) {x:MDoc} (hf:(∀ y∈x.T,y≤9223372036854775807)∧∀ y∈x.S,y≤9223372036854775807):MWF (mAdd L x):=by
 unfold mAdd
 split
 ·rename_i h0
  obtain ⟨h1,h2,h3,h4,h5,h6⟩:=mErr_ok h0
  refine ⟨by simp;omega,fun y hy=>?_,fun i j hij hj=>?_⟩
  ·rcases List.mem_append.1 hy with hy | hy
   ·exact h.ok y hy
   ·rw [List.mem_singleton.1 hy]
    exact ⟨h2,h5,h3,h6,hf⟩
  ·rw [List.length_append,List.length_singleton] at hj
   rcases Nat.lt_or_ge j L.length with hj2 | hj2
   ·rw [mD_left (by omega),mD_left hj2]
    exact h.up i j hij hj2
   ·obtain rfl:j=L.length:=by omega
    rw [mD_last,mD_left hij]
    have h7:=h4 (by omega)
    rcases Nat.lt_or_ge i (L.length - 1) with hi | hi
    ·have:=h.up i (L.length - 1) hi (by omega);omega
    ·rw [show i=L.length - 1 by omega];exact h7
 ·exact h
theorem badTo_iff {x:MDoc} {n:Nat}:badTo x n=false↔∀ i,i < n→badAt x i=false:=by
 induction n with
 | zero=>simp [badTo]
 | succ n ih=>
  rw [badTo,Bool.or_eq_false_iff,ih]
  constructor
  ·rintro ⟨h1,h2⟩ i hi
   rcases Nat.lt_or_ge i n with h | h
   ·exact h1 i h
   ·obtain rfl:i=n:=by omega
    exact h2
  ·exact fun h=>⟨fun i hi=>h i (by omega),h n (by omega)⟩
theorem badAt_iff {x:MDoc} {i:Nat}:badAt x i=false↔0≤x.T.getD i 0∧0≤x.S.getD i 0∧(0 < i→x.S.getD (i - 1) 0 < x.S.getD i 0):=by
 unfold badAt
 simp only [Bool.or_eq_false_iff,decide_eq_false_iff_not,Bool.and_eq_false_iff]
 constructor
 ·rintro ⟨h1,h2,h3⟩
  refine ⟨by omega,by omega,fun h=>?_⟩
  rcases h3 with h3 | h3
  ·exact absurd h h3
  ·omega
 ·rintro ⟨h1,h2,h3⟩
  refine ⟨by omega,by omega,?_⟩
  by_cases h:0 < i
  ·right;have:=h3 h;omega
  ·left;exact h
theorem DocOk.tok {x:MDoc} (h:DocOk x) {i:Nat} (hi:i < x.T.length):0≤x.T.getD i 0∧0≤x.S.getD i 0:=by
 have:=badAt_iff.1 (badTo_iff.1 h.good i hi)
 exact ⟨this.1,this.2.1⟩
theorem DocOk.up {x:MDoc} (h:DocOk x) {i:Nat}:∀ {j:Nat},i < j→j < x.T.length→x.S.getD i 0 < x.S.getD j 0
 | 0,h1,_=>by omega
 | j+1,h1,h2=>by
  have h3:=(badAt_iff.1 (badTo_iff.1 h.good (j+1) h2)).2.2 (by omega)
  rw [Nat.add_sub_cancel] at h3
  rcases Nat.lt_or_ge i j with h4 | h4
  ·have:=h.up (i:=i) (j:=j) h4 (by omega);omega
  ·obtain rfl:i=j:=by omega
   exact h3
theorem spotUp_len (x:MDoc) (t:Int):∀ k,(spotUp x t k).length≤k
 | 0=>Nat.le_refl _
 | k+1=>by
  have:=spotUp_len x t k
  rw [spotUp]
  split
  ·rw [List.length_append,List.length_singleton];omega
  ·omega
theorem spotUp_mem {x:MDoc} {t:Int} {s:Int×Int}:∀ {k:Nat},s∈spotUp x t k↔∃ i,i < k∧x.T.getD i 0=t∧s=((i:Int),x.S.getD i 0)
 | 0=>by simp [spotUp]
 | k+1=>by
  have ih:=spotUp_mem (x:=x) (t:=t) (s:=s) (k:=k)
  rw [spotUp]
  split
  ·rename_i h
   rw [List.mem_append,ih,List.mem_singleton]
   constructor
   ·rintro (⟨i,h1,h2,h3⟩ | h1)
    ·exact ⟨i,by omega,h2,h3⟩
    ·exact ⟨k,by omega,h,h1⟩
   ·rintro ⟨i,h1,h2,h3⟩
    rcases Nat.lt_or_ge i k with h4 | h4
    ·exact .inl ⟨i,h4,h2,h3⟩
    ·obtain rfl:i=k:=by omega
     exact .inr h3
  ·rename_i h
   rw [ih]
   constructor
   ·rintro ⟨i,h1,h2,h3⟩
    exact ⟨i,by omega,h2,h3⟩
   ·rintro ⟨i,h1,h2,h3⟩
    rcases Nat.lt_or_ge i k with h4 | h4
    ·exact ⟨i,h4,h2,h3⟩
    ·obtain rfl:i=k:=by omega
     exact absurd h2 h
theorem insI_mem {n x:Int}:∀ {l:List Int},x∈insI n l↔x=n∨x∈l
 | []=>by simp [insI]
 | a :: r=>by
  rw [insI]
  split
  ·rw [List.mem_cons,insI_mem,List.mem_cons]
   constructor
   ·rintro (h | h | h)
    ·exact .inr (.inl h)
    ·exact .inl h
    ·exact .inr (.inr h)
   ·rintro (h | h | h)
    ·exact .inr (.inl h)
    ·exact .inl h
    ·exact .inr (.inr h)
  ·split
   ·rename_i h
    rw [h]
    simp
   ·simp
theorem insI_up {n:Int}:∀ {l:List Int},l.Pairwise (· < ·)→(insI n l).Pairwise (· < ·)
 | [],_=>by simp [insI]
 | a :: r,h=>by
  rw [List.pairwise_cons] at h
  rw [insI]
  split
  ·rename_i h1
   rw [List.pairwise_cons]
   refine ⟨fun y hy=>?_,insI_up h.2⟩
   rcases insI_mem.1 hy with h2 | h2
   ·rw [h2];exact h1
   ·exact h.1 y h2
  ·split
   ·exact List.pairwise_cons.2 h
   ·rename_i h1 h2
    rw [List.pairwise_cons,List.pairwise_cons]
    refine ⟨fun y hy=>?_,h⟩
    rcases List.mem_cons.1 hy with rfl | h3
    ·omega
    ·have:=h.1 y h3;omega
theorem insI_len (n:Int):∀ l:List Int,(insI n l).length≤l.length+1
 | []=>by simp [insI]
 | a :: r=>by
  have:=insI_len n r
  rw [insI]
  split
  ·simp only [List.length_cons];omega
  ·split
   ·omega
   ·simp
theorem termOne_mem {x:Int}:∀ {T a:List Int},x∈termOne a T↔x∈a∨x∈T
 | [],a=>by simp [termOne]
 | t :: T,a=>by
  have:=termOne_mem (x:=x) (T:=T) (a:=insI t a)
  unfold termOne at this ⊢
  rw [List.foldl_cons,this,insI_mem,List.mem_cons]
  constructor
  ·rintro ((h | h) | h)
   ·exact .inr (.inl h)
   ·exact .inl h
   ·exact .inr (.inr h)
  ·rintro (h | h | h)
   ·exact .inl (.inr h)
   ·exact .inl (.inl h)
   ·exact .inr h
theorem termOne_up:∀ {T a:List Int},a.Pairwise (· < ·)→(termOne a T).Pairwise (· < ·)
 | [],a,h=>h
 | t :: T,a,h=>by
  unfold termOne
  rw [List.foldl_cons]
  exact termOne_up (T:=T) (insI_up h)
theorem termOne_len:∀ (T a:List Int),(termOne a T).length≤a.length+T.length
 | [],a=>by simp [termOne]
 | t :: T,a=>by
  have h1:=termOne_len T (insI t a)
  have h2:=insI_len t a
  unfold termOne at h1 ⊢
  rw [List.foldl_cons,List.length_cons]
  omega
theorem terms_mem {x:Int} {L:List MDoc}:x∈mTerms L↔∃ y∈L,x∈y.T:=by
 have key:∀ (L:List MDoc) (a:List Int),x∈L.foldl (fun a x=>termOne a x.T) a↔x∈a∨∃ y∈L,x∈y.T:=by
  intro L
  induction L with
  | nil=>intro a;simp
  | cons y L ih=>
   intro a
   rw [List.foldl_cons,ih,termOne_mem]
   constructor
   ·rintro ((h | h) | ⟨z,h1,h2⟩)
    ·exact .inl h
    ·exact .inr ⟨y,List.mem_cons_self ..,h⟩
    ·exact .inr ⟨z,List.mem_cons_of_mem _ h1,h2⟩
   ·rintro (h | ⟨z,h1,h2⟩)
    ·exact .inl (.inl h)
    ·rcases List.mem_cons.1 h1 with rfl | h3
     ·exact .inl (.inr h2)
     ·exact .inr ⟨z,h3,h2⟩
 have:=key L []
 simpa [mTerms] using this
theorem terms_up (L:List MDoc):(mTerms L).Pairwise (· < ·):=by
 have key:∀ (L:List MDoc) (a:List Int),a.Pairwise (· < ·)→(L.foldl (fun a x=>termOne a x.T) a).Pairwise (· < ·):=by
  intro L
  induction L with
  | nil=>intro a h;exact h
  | cons y L ih=>intro a h;rw [List.foldl_cons];exact ih _ (termOne_up h)
 exact key L [] List.Pairwise.nil
def totT (L:List MDoc):Nat:=(L.map fun x=>x.T.length).sum
theorem totT_append (L M:List MDoc):totT (L++M)=totT L+totT M:=by simp [totT]
theorem terms_len (L:List MDoc):(mTerms L).length≤totT L:=by
 have key:∀ (L:List MDoc) (a:List Int),(L.foldl (fun a x=>termOne a x.T) a).length≤a.length+totT L:=by
  intro L
  induction L with
  | nil=>intro a;simp [totT]
  | cons y L ih=>
   intro a
   have h1:=ih (termOne a y.T)
   have h2:=termOne_len y.T a
   have h3:totT (y :: L)=y.T.length+totT L:=by simp [totT]
   rw [List.foldl_cons]
   omega
 have:=key L []
 simpa [mTerms] using this
theorem addUp_wf {X:List MDoc} (h:∀ x∈X,(∀ y∈x.T,y≤9223372036854775807)∧∀ y∈x.S,y≤9223372036854775807):∀ i,i≤X.length→MWF (addUp X i)
 | 0,_=>MWF.nil
 | i+1,hi=>(addUp_wf h i (by omega)).add (h _ (mD_mem (by omega)))
theorem postUp_len (L:List MDoc) (t:Int):∀ i,(postUp L t i).length≤i
 | 0=>Nat.le_refl _
 | i+1=>by
  have:=postUp_len L t i
  rw [postUp,List.length_append]
  unfold postOne
  split
  ·simp only [List.length_singleton];omega
  ·simp only [List.length_nil];omega
theorem rises_pw:∀ {l:List Int} {p:Int},rises p l=true↔(∀ y∈l,p < y)∧l.Pairwise (· < ·)
 | [],p=>by simp [rises]
 | a :: r,p=>by
  rw [rises,Bool.and_eq_true,rises_pw,decide_eq_true_iff,List.pairwise_cons]
  constructor
  ·rintro ⟨h1,h2,h3⟩
   exact ⟨fun y hy=>by
    rcases List.mem_cons.1 hy with rfl | hy
    ·exact h1
    ·have:=h2 y hy;omega,h2,h3⟩
  ·rintro ⟨h1,h2,h3⟩
   exact ⟨h1 a (List.mem_cons_self ..),h2,h3⟩
theorem mspots_rise {x:MDoc} (hx:DocOk x) (t:Int):∀ k,k≤x.T.length→(poss (spotUp x t k)).Pairwise (· < ·)∧(atss (spotUp x t k)).Pairwise (· < ·)
 | 0,_=>by simp [spotUp,poss,atss]
 | k+1,h=>by
  obtain ⟨h1,h2⟩:=mspots_rise hx t k (by omega)
  rw [spotUp]
  split
  ·unfold poss at h1 ⊢
   unfold atss at h2 ⊢
   rw [List.map_append,List.map_append,List.pairwise_append,List.pairwise_append]
   refine ⟨⟨h1,by simp,fun a ha b hb=>?_⟩,h2,by simp,fun a ha b hb=>?_⟩
   ·obtain ⟨s,hs,rfl⟩:=List.mem_map.1 ha
    obtain ⟨i,hi,-,rfl⟩:=spotUp_mem.1 hs
    simp at hb
    subst hb
    simp only
    omega
   ·obtain ⟨s,hs,rfl⟩:=List.mem_map.1 ha
    obtain ⟨i,hi,-,rfl⟩:=spotUp_mem.1 hs
    simp at hb
    subst hb
    have:=hx.up hi (by omega:k < x.T.length)
    simpa [List.getD_eq_getElem?_getD] using this
  ·exact ⟨h1,h2⟩
theorem mposts_from {L:List MDoc} {t:Int} {p:Pst}:∀ {k:Nat},p∈postUp L t k→∃ i,i < k∧p=((mD L i).doc,mSpots (mD L i) t)∧0 < (mSpots (mD L i) t).length
 | 0,h=>by simp [postUp] at h
 | k+1,h=>by
  rw [postUp,List.mem_append] at h
  rcases h with h | h
  ·obtain ⟨i,h1,h2⟩:=mposts_from h
   exact ⟨i,by omega,h2⟩
  ·unfold postOne at h
   split at h
   ·rename_i h0
    simp at h
    exact ⟨k,by omega,h,h0⟩
   ·simp at h
theorem docs_rise {L:List MDoc} (hL:MWF L) (t:Int):∀ k,k≤L.length→((postUp L t k).map (·.1)).Pairwise (· < ·)
 | 0,_=>by simp [postUp]
 | k+1,h=>by
  have ih:=docs_rise hL t k (by omega)
  rw [postUp,List.map_append,List.pairwise_append]
  refine ⟨ih,?_,fun a ha b hb=>?_⟩
  ·unfold postOne
   split <;> simp
  ·obtain ⟨p,hp,rfl⟩:=List.mem_map.1 ha
   obtain ⟨i,hi,rfl,-⟩:=mposts_from hp
   unfold postOne at hb
   split at hb
   ·simp at hb
    subst hb
    exact hL.up i k hi (by omega)
   ·simp at hb
theorem posts_valid {L:List MDoc} (hL:MWF L) (t:Int):ValidP (mPosts L t):=by
 have hm:∀ p∈mPosts L t,∃ x,DocOk x∧p=(x.doc,mSpots x t)∧0 < (mSpots x t).length:=fun p hp=>by
  obtain ⟨i,hi,h1,h2⟩:=mposts_from hp
  exact ⟨mD L i,hL.ok _ (mD_mem hi),h1,h2⟩
 have hs:∀ x,DocOk x→∀ s∈mSpots x t,0≤s.1∧0≤s.2∧s.1≤9223372036854775807∧s.2≤9223372036854775807:=fun x hx s hs=>by
  obtain ⟨i,hi,-,rfl⟩:=spotUp_mem.1 hs
  have h1:=(hx.tok hi).2
  have h2:=hx.few
  have h3:=hx.same
  have h4:x.S.getD i 0≤9223372036854775807:=by
   refine hx.fit.2 _ ?_
   rw [List.getD_eq_getElem?_getD,List.getElem?_eq_getElem (by omega)]
   exact List.getElem_mem (by omega)
  exact ⟨by simp only;omega,h1,by simp only;omega,h4⟩
 have hd:=docs_rise hL t L.length (Nat.le_refl _)
 refine ⟨?_,fun p hp=>?_,fun p hp=>?_,fun p hp=>?_,fun i hi=>?_,fun p hp=>?_,fun p hp=>?_,fun p hp s hs'=>?_⟩
 ·have:=postUp_len L t L.length
  have:=hL.few
  unfold mPosts
  omega
 ·obtain ⟨x,hx,rfl,-⟩:=hm p hp
  have h1:=spotUp_len x t x.T.length
  have h2:=hx.few
  unfold mSpots
  simp only
  omega
 ·obtain ⟨x,hx,rfl,h⟩:=hm p hp
  exact h
 ·obtain ⟨x,hx,rfl,-⟩:=hm p hp
  exact hx.doc
 ·unfold lastD
  split
  ·obtain ⟨x,hx,h,-⟩:=hm _ (pAt_mem hi)
   rw [h]
   have:=hx.doc.1
   simp only
   omega
  ·have h1:=List.pairwise_iff_getElem.1 hd (i - 1) i (by rw [List.length_map];have:i < (postUp L t L.length).length:=hi;omega) (by rw [List.length_map];exact hi) (by omega)
   have e:∀ j,(hj:j < (mPosts L t).length)→(pAt (mPosts L t) j).1=((postUp L t L.length).map (·.1))[j]'(by rw [List.length_map];exact hj):=fun j hj=>by
    unfold pAt
    rw [List.getD_eq_getElem?_getD,List.getElem?_eq_getElem hj,List.getElem_map]
    rfl
   rw [e (i - 1) (by omega),e i hi]
   exact h1
 ·obtain ⟨x,hx,rfl,-⟩:=hm p hp
  refine rises_pw.2 ⟨fun y hy=>?_,(mspots_rise hx t _ (Nat.le_refl _)).1⟩
  obtain ⟨s,h1,rfl⟩:=List.mem_map.1 hy
  have:=hs x hx s h1
  omega
 ·obtain ⟨x,hx,rfl,-⟩:=hm p hp
  refine rises_pw.2 ⟨fun y hy=>?_,(mspots_rise hx t _ (Nat.le_refl _)).2⟩
  obtain ⟨s,h1,rfl⟩:=List.mem_map.1 hy
  have:=hs x hx s h1
  omega
 ·obtain ⟨x,hx,rfl,-⟩:=hm p hp
  have:=hs x hx s hs'
  omega
theorem posts_check {L:List MDoc} (hL:MWF L) (t:Int):checkP (mPosts L t)=0:=(check_ok (posts_valid hL t).fit).2 (posts_valid hL t)
end Go.Proofs.YthcjikpabpgpfaaGreat
namespace Go.Proofs.YthcjikpabpgpfaaGreat
open Go.RowKit Go.Maps Go.WideMaps
theorem segNil (w:World) (p:Option Addr):(binOp .eql 38 (.pointer p) (.pointer none)).run Tryz.prog w=.ok (.bool p.isNone) w∧(binOp .neq 38 (.pointer p) (.pointer none)).run Tryz.prog w=.ok (.bool (!p.isNone)) w:=by
 have h:∀ d:Nat,(Op.equalIn (d+1) 38 (.pointer p) (.pointer none)).run Tryz.prog w=.ok p.isNone w:=fun d=>by
  cases p <;> simp [Op.equalIn,run_underlying Tryz.underlying38]
 simp only [binOp]
 simp [Op.equal,Op.maxDepth,h 9999]
theorem coderNil (w:World) (p:Option Addr):(binOp .eql 35 (.pointer p) (.pointer none)).run Tryz.prog w=.ok (.bool p.isNone) w∧(binOp .neq 35 (.pointer p) (.pointer none)).run Tryz.prog w=.ok (.bool (!p.isNone)) w:=by
 have h:∀ d:Nat,(Op.equalIn (d+1) 35 (.pointer p) (.pointer none)).run Tryz.prog w=.ok p.isNone w:=fun d=>by
  cases p <;> simp [Op.equalIn,run_underlying Tryz.underlying35]
 simp only [binOp]
 simp [Op.equal,Op.maxDepth,h 9999]
theorem cursNil (w:World) (p:Option Addr):(binOp .eql 58 (.pointer p) (.pointer none)).run Tryz.prog w=.ok (.bool p.isNone) w∧(binOp .neq 58 (.pointer p) (.pointer none)).run Tryz.prog w=.ok (.bool (!p.isNone)) w:=by
 have h:∀ d:Nat,(Op.equalIn (d+1) 58 (.pointer p) (.pointer none)).run Tryz.prog w=.ok p.isNone w:=fun d=>by
  cases p <;> simp [Op.equalIn,run_underlying Tryz.underlying58]
 simp only [binOp]
 simp [Op.equal,Op.maxDepth,h 9999]
end Go.Proofs.YthcjikpabpgpfaaGreat
namespace Go.Proofs.YthcjikpabpgpfaaGreat
open Go.RowKit Go.Maps Go.WideMaps Go.ChangeShapes Go.WideShapes Go.ChangeAt Go.Deep
section
variable {H:Type} {enc:TypeId×Value→H} {w:World}
theorem doc_in {cs:List Value} {x:DataW H×List MemPlace} {fuel:Nat} {base:Nat} {spare:Nat→Bool} {held:Bool} (h:DataW.trod enc Tryz.prog w base spare held fuel 49 cs=some x):
  ∃ p:Nm×Nm,cs=[.string ⟨p.1.toArray⟩,.string ⟨p.2.toArray⟩]∧p.1.length≤maxLen∧p.2.length≤maxLen:=by
 obtain ⟨fs,f0,f1,he,hf0,hf1,hs2,t0,t1,c0,c1,o0,o1⟩:∃ (fs:Array Field) (f0 f1:Field),Tryz.prog.underlying 49=some (.struct fs)∧fs[0]?=some f0∧fs[1]?=some f1∧fs.size=2∧Tryz.prog.underlying f0.type=some .string∧Tryz.prog.underlying f1.type=some .string∧Tryz.prog.cellsOf f0.type=1∧Tryz.prog.cellsOf f1.type=1∧f0.offset=0∧f1.offset=1:=
  ⟨_,_,_,Tryz.underlying49,rfl,rfl,rfl,Tryz.underlying9,Tryz.underlying9,by kernel_rfl,by kernel_rfl,rfl,rfl⟩
 have h2:Tryz.prog.cellsOf 49=2:=by kernel_rfl
 obtain ⟨ys,m,_,_,hlen,hy,hf⟩:=DataW.trod_struct he h
 rw [h2] at hlen
 have g0:=hf 0 _ hf0
 have g1:=hf 1 _ hf1
 rw [c0,o0,List.getElem?_eq_getElem (by omega)] at g0
 rw [c1,o1,List.getElem?_eq_getElem (by omega)] at g1
 match cs,hlen with
 | [a,b],_=>
  simp only [List.drop_zero,List.drop_succ_cons,List.take_succ_cons,List.take_zero] at g0 g1
  obtain ⟨s0,e0,_,w0⟩:=DataW.trod_string t0 g0
  obtain ⟨s1,e1,_,w1⟩:=DataW.trod_string t1 g1
  simp only [List.cons.injEq,and_true] at e0 e1
  subst e0 e1
  exact ⟨(s0.data.toList,s1.data.toList),by simp,by show s0.data.toList.length≤maxLen;rw [Array.length_toList];exact w0,by show s1.data.toList.length≤maxLen;rw [Array.length_toList];exact w1⟩
theorem docsIn {A:Option Addr} {n c:Nat} {x:DataW H×List MemPlace} {fuel:Nat} {base:Nat} {spare:Nat→Bool} {held:Bool} (h:DataW.trod enc Tryz.prog w base spare held fuel 23 [.slice A n c]=some x) (_:Sized 23 x.1):∃ l,DocsIn w A n l:=by
 have ht:Tryz.prog.underlying 23=some (.slice 49):=by kernel_rfl
 have h2:Tryz.prog.cellsOf 49=2:=by kernel_rfl
 rcases open_slice ht h with ⟨hcs,_⟩ | ⟨a,len,cap,m,f,D,Pl,hcs,_,hl,hm,hmm,hx,hi⟩
 ·simp only [List.cons.injEq,Value.slice.injEq,and_true] at hcs
  obtain ⟨rfl,rfl,rfl⟩:=hcs
  exact ⟨[],rfl,by unfold maxLen;omega,by simp,fun _=>rfl,fun ad e=>by cases e⟩
 ·simp only [List.cons.injEq,Value.slice.injEq,and_true] at hcs
  obtain ⟨rfl,rfl,rfl⟩:=hcs
  have hlm:n≤m:=by rw [hmm];split <;> omega
  have hex:∀ i,i < n→∃ p:Nm×Nm,(p.1.length≤maxLen∧p.2.length≤maxLen)∧w.cell? (a.add (i * 2))=some (.string ⟨p.1.toArray⟩)∧w.cell? (a.add (i * 2+1))=some (.string ⟨p.2.toArray⟩):=by
   intro i hlt
   obtain ⟨cs',hc,hd⟩:=hi i (by omega)
   rw [h2] at hc
   obtain ⟨p,rfl,h3,h4⟩:=doc_in hd
   obtain ⟨_,_,hat⟩:=World.cells?_some hc
   have k0:=hat 0 (by simp)
   have k1:=hat 1 (by simp)
   rw [add_add] at k0 k1
   exact ⟨p,⟨h3,h4⟩,k0,k1⟩
  have hw:∀ k,k≤n→∃ l:List (Nm×Nm),l.length=k∧∀ (i:Nat) (p:Nm×Nm),l[i]?=some p→(p.1.length≤maxLen∧p.2.length≤maxLen)∧w.cell? (a.add (i * 2))=some (.string ⟨p.1.toArray⟩)∧w.cell? (a.add (i * 2+1))=some (.string ⟨p.2.toArray⟩):=by
   intro k
   induction k with
   | zero=>intro _;exact ⟨[],rfl,by simp⟩
   | succ k ih=>
    intro hk
    obtain ⟨l,h1,h4⟩:=ih (by omega)
    obtain ⟨p,h5⟩:=hex k (by omega)
    refine ⟨l++[p],by simp [h1],fun i y hy=>?_⟩
    rcases Nat.lt_or_ge i k with hik | hik
    ·rw [List.getElem?_append_left (by omega)] at hy
     exact h4 i y hy
    ·have hlt:=(List.getElem?_eq_some_iff.1 hy).1
     simp [h1] at hlt
     obtain rfl:i=k:=by omega
     rw [List.getElem?_append_right (by omega),h1,Nat.sub_self] at hy
     simp at hy
     subst hy
     exact h5
  obtain ⟨l,h1,h4⟩:=hw n (Nat.le_refl _)
  refine ⟨l,h1,by omega,fun p hp=>?_,(fun e=>by cases e),fun ad e i p hp=>?_⟩
  ·obtain ⟨i,hi⟩:=List.getElem?_of_mem hp
   exact (h4 i p hi).1
  ·cases e
   exact (h4 i p hp).2
end
end Go.Proofs.YthcjikpabpgpfaaGreat
