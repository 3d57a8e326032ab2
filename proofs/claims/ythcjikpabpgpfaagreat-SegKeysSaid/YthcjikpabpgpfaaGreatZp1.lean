import Derived.Test.YthcjikpabpgpfaaGreatZp0
set_option linter.unusedSimpArgs false
set_option maxHeartbeats 16000000
set_option maxRecDepth 100000
namespace Go.Proofs.YthcjikpabpgpfaaGreat
structure Mg where
 a:Int
 b:Int
 t:Int
deriving DecidableEq
structure Voc where
 tok:List (List UInt8)
 mer:List Mg
def findFrom (s:List UInt8):Nat→List (List UInt8)→Int
 | _,[]=>-1
 | k,x :: r=>if x=s then (k:Int) else findFrom s (k+1) r
def findT (l:List (List UInt8)) (s:List UInt8):Int:=findFrom s 0 l
def mergedB (l:List Mg) (a b:Int):Bool:=l.any fun m=>(m.a==a)&&(m.b==b)
theorem findFrom_drop (l:List (List UInt8)) (s:List UInt8) (h:∀ x∈l,x≠s):∀ k,findFrom s k l=-1:=by
 induction l with
 | nil=>intro k;rfl
 | cons x r ih=>
  intro k
  simp only [findFrom]
  rw [if_neg (h x (List.mem_cons_self ..))]
  exact ih (fun y hy=>h y (List.mem_cons_of_mem _ hy)) (k+1)
theorem findFrom_at (l:List (List UInt8)) (s:List UInt8):∀ (k i:Nat),l[i]?=some s→(∀ j x,j < i→l[j]?=some x→x≠s)→findFrom s k l=((k+i:Nat):Int):=by
 induction l with
 | nil=>intro k i h _;simp at h
 | cons x r ih=>
  intro k i h hn
  simp only [findFrom]
  cases i with
  | zero=>
   simp at h
   rw [if_pos h]
   rfl
  | succ i=>
   rw [if_neg (hn 0 x (by omega) rfl),ih (k+1) i (by simpa using h) (fun j y hj hy=>hn (j+1) y (by omega) (by simpa using hy))]
   omega
theorem findT_none {l:List (List UInt8)} {s:List UInt8} (h:∀ x∈l,x≠s):findT l s=-1:=findFrom_drop l s h 0
theorem findT_at {l:List (List UInt8)} {s:List UInt8} {i:Nat} (h:l[i]?=some s) (hn:∀ j x,j < i→l[j]?=some x→x≠s):findT l s=(i:Int):=by
 have:=findFrom_at l s 0 i h hn
 simpa [findT] using this
theorem findFrom_cases (l:List (List UInt8)) (s:List UInt8):∀ k,(findFrom s k l=-1∧∀ x∈l,x≠s)∨∃ i:Nat,findFrom s k l=((k+i:Nat):Int)∧l[i]?=some s∧∀ j x,j < i→l[j]?=some x→x≠s:=by
 induction l with
 | nil=>intro k;exact .inl ⟨rfl,by simp⟩
 | cons x r ih=>
  intro k
  by_cases hx:x=s
  ·exact .inr ⟨0,by simp [findFrom,hx],by simp [hx],fun j y hj=>by omega⟩
  ·rcases ih (k+1) with ⟨h1,h2⟩ | ⟨i,h1,h2,h3⟩
   ·refine .inl ⟨by simp only [findFrom];rw [if_neg hx];exact h1,fun y hy=>?_⟩
    rcases List.mem_cons.1 hy with rfl | hy
    ·exact hx
    ·exact h2 y hy
   ·refine .inr ⟨i+1,?_,by simpa using h2,fun j y hj hy=>?_⟩
    ·simp only [findFrom]
     rw [if_neg hx,h1]
     omega
    ·cases j with
     | zero=>simp at hy;subst hy;exact hx
     | succ j=>exact h3 j y (by omega) (by simpa using hy)
theorem findT_cases (l:List (List UInt8)) (s:List UInt8):(findT l s=-1∧∀ x∈l,x≠s)∨∃ i:Nat,findT l s=(i:Int)∧l[i]?=some s∧∀ j x,j < i→l[j]?=some x→x≠s:=by
 rcases findFrom_cases l s 0 with h | ⟨i,h1,h2,h3⟩
 ·exact .inl h
 ·exact .inr ⟨i,by simpa [findT] using h1,h2,h3⟩
theorem mergedB_take {l:List Mg} {k:Nat} {m:Mg} (h:l[k]?=some m) (a b:Int):mergedB (l.take (k+1)) a b=(mergedB (l.take k) a b||((m.a==a)&&(m.b==b))):=by
 unfold mergedB
 rw [List.take_add_one,h]
 simp [List.any_append]
def tokOk (l:List (List UInt8)) (i:Nat):Bool:=decide (1≤(l.getD i []).length)&&(decide ((l.getD i []).length≤16)&&decide (findT l (l.getD i [])=(i:Int)))
def merOk (v:Voc) (i:Nat):Bool:=
 let m:=v.mer.getD i ⟨-1,-1,-1⟩
 decide (0≤m.a∧m.a < v.tok.length∧0≤m.b∧m.b < v.tok.length∧0≤m.t∧m.t < v.tok.length)&&(!(mergedB (v.mer.take i) m.a m.b)&&decide (v.tok.getD m.t.toNat []=v.tok.getD m.a.toNat []++v.tok.getD m.b.toNat []))
def checkV (v:Voc):Int:=
 if 512 < v.tok.length∨512 < v.mer.length then 2
 else if ¬ (List.range v.tok.length).all (tokOk v.tok)=true then 52
 else if ¬ (List.range 256).all (fun c=>decide (0≤findT v.tok [UInt8.ofNat c]))=true then 51
 else if ¬ (List.range v.mer.length).all (merOk v)=true then 53
 else 0
def rkOf (M:List Mg) (a b:Int):Option Nat:=M.findIdx? fun m=>decide (m.a=a∧m.b=b)
def pairRk (M:List Mg) (l:List Int) (i:Nat):Option Nat:=
 match l[i]?,l[i+1]? with
 | some a,some b=>rkOf M a b
 | _,_=>none
theorem pairRk_some {M:List Mg} {l:List Int} {i k:Nat} (h:pairRk M l i=some k):∃ a b,l[i]?=some a∧l[i+1]?=some b∧rkOf M a b=some k:=by
 unfold pairRk at h
 split at h
 ·rename_i a b h1 h2;exact ⟨a,b,h1,h2,h⟩
 ·cases h
theorem pairRk_at {M:List Mg} {l:List Int} {i:Nat} {a b:Int} (h1:l[i]?=some a) (h2:l[i+1]?=some b):pairRk M l i=rkOf M a b:=by
 unfold pairRk;rw [h1,h2]
theorem pairRk_end {M:List Mg} {l:List Int} {i:Nat} (h:l.length≤i+1):pairRk M l i=none:=by
 unfold pairRk
 rw [List.getElem?_eq_none h]
 split <;> simp_all
theorem rkOf_lt {M:List Mg} {a b:Int} {k:Nat} (h:rkOf M a b=some k):k < M.length∧∃ m,M[k]?=some m∧m.a=a∧m.b=b:=by
 unfold rkOf at h
 rw [List.findIdx?_eq_some_iff_getElem] at h
 obtain ⟨h1,h2,_⟩:=h
 exact ⟨h1,_,List.getElem?_eq_getElem h1,by simpa using h2⟩
theorem rkOf_none {M:List Mg} {a b:Int}:rkOf M a b=none↔mergedB M a b=false:=by
 unfold rkOf mergedB
 rw [List.findIdx?_eq_none_iff,List.any_eq_false]
 constructor
 ·intro h m hm
  have:=h m hm
  simpa [decide_eq_false_iff_not] using this
 ·intro h m hm
  have:=h m hm
  simpa using this
def bestUp (M:List Mg) (l:List Int):Nat→Option (Nat×Nat)
 | 0=>none
 | i+1=>
  match pairRk M l i,bestUp M l i with
  | none,o=>o
  | some k,none=>some (k,i)
  | some k,some (k0,i0)=>if k < k0 then some (k,i) else some (k0,i0)
def bestOf (M:List Mg) (l:List Int):Option (Nat×Nat):=bestUp M l (l.length - 1)
structure IsBestUp (M:List Mg) (l:List Int) (n k i:Nat):Prop where
 lt:i < n
 rk:pairRk M l i=some k
 least:∀ j k',j < n→pairRk M l j=some k'→k < k'∨(k=k'∧i≤j)
theorem bestUp_spec (M:List Mg) (l:List Int):∀ n,(bestUp M l n=none∧∀ j,j < n→pairRk M l j=none)∨∃ k i,bestUp M l n=some (k,i)∧IsBestUp M l n k i
 | 0=>.inl ⟨rfl,fun j hj=>by omega⟩
 | n+1=>by
  rcases bestUp_spec M l n with ⟨h1,h2⟩ | ⟨k,i,h1,h2⟩
  ·cases hp:pairRk M l n with
   | none=>
    refine .inl ⟨by simp only [bestUp];rw [hp,h1],fun j hj=>?_⟩
    rcases Nat.lt_or_ge j n with h | h
    ·exact h2 j h
    ·obtain rfl:j=n:=by omega
     exact hp
   | some k=>
    refine .inr ⟨k,n,by simp only [bestUp];rw [hp,h1],⟨by omega,hp,fun j k' hj hk=>?_⟩⟩
    rcases Nat.lt_or_ge j n with h | h
    ·rw [h2 j h] at hk;cases hk
    ·obtain rfl:j=n:=by omega
     rw [hp] at hk
     cases hk
     exact .inr ⟨rfl,Nat.le_refl _⟩
  ·cases hp:pairRk M l n with
   | none=>
    refine .inr ⟨k,i,by simp only [bestUp];rw [hp,h1],⟨by have:=h2.lt;omega,h2.rk,fun j k' hj hk=>?_⟩⟩
    rcases Nat.lt_or_ge j n with h | h
    ·exact h2.least j k' h hk
    ·obtain rfl:j=n:=by omega
     rw [hp] at hk;cases hk
   | some k1=>
    by_cases hlt:k1 < k
    ·refine .inr ⟨k1,n,by simp only [bestUp];rw [hp,h1];simp [hlt],⟨by omega,hp,fun j k' hj hk=>?_⟩⟩
     rcases Nat.lt_or_ge j n with h | h
     ·rcases h2.least j k' h hk with h3 | h3 <;> omega
     ·obtain rfl:j=n:=by omega
      rw [hp] at hk
      cases hk
      exact .inr ⟨rfl,Nat.le_refl _⟩
    ·refine .inr ⟨k,i,by simp only [bestUp];rw [hp,h1];simp [hlt],⟨by have:=h2.lt;omega,h2.rk,fun j k' hj hk=>?_⟩⟩
     rcases Nat.lt_or_ge j n with h | h
     ·exact h2.least j k' h hk
     ·obtain rfl:j=n:=by omega
      rw [hp] at hk
      cases hk
      have:=h2.lt
      omega
theorem bestOf_none {M:List Mg} {l:List Int} (h:∀ j,pairRk M l j=none):bestOf M l=none:=by
 rcases bestUp_spec M l (l.length - 1) with ⟨h1,_⟩ | ⟨k,i,_,h2⟩
 ·exact h1
 ·have:=h2.rk
  rw [h] at this;cases this
theorem bestOf_no {M:List Mg} {l:List Int} (h:bestOf M l=none) (j:Nat):pairRk M l j=none:=by
 rcases bestUp_spec M l (l.length - 1) with ⟨_,h2⟩ | ⟨k,i,h1,_⟩
 ·rcases Nat.lt_or_ge j (l.length - 1) with h3 | h3
  ·exact h2 j h3
  ·exact pairRk_end (by omega)
 ·rw [show bestUp M l (l.length - 1)=bestOf M l from rfl,h] at h1;cases h1
theorem bestOf_is {M:List Mg} {l:List Int} {k i:Nat} (h:pairRk M l i=some k) (hl:∀ j k',pairRk M l j=some k'→k < k'∨(k=k'∧i≤j)):bestOf M l=some (k,i):=by
 have hi:i < l.length - 1:=by
  rcases Nat.lt_or_ge i (l.length - 1) with h1 | h1
  ·exact h1
  ·rw [pairRk_end (by omega)] at h;cases h
 rcases bestUp_spec M l (l.length - 1) with ⟨_,h2⟩ | ⟨k',i',h1,h2⟩
 ·rw [h2 i hi] at h;cases h
 ·have h3:=hl i' k' h2.rk
  have h4:=h2.least i k hi h
  have e1:k'=k:=by omega
  have e2:i'=i:=by omega
  subst e1;subst e2
  exact h1
theorem bestOf_rk {M:List Mg} {l:List Int} {k i:Nat} (h:bestOf M l=some (k,i)):pairRk M l i=some k:=by
 rcases bestUp_spec M l (l.length - 1) with ⟨h1,_⟩ | ⟨k',i',h1,h2⟩
 ·rw [show bestUp M l (l.length - 1)=bestOf M l from rfl,h] at h1;cases h1
 ·rw [show bestUp M l (l.length - 1)=bestOf M l from rfl,h] at h1
  cases h1
  exact h2.rk
def toOf (M:List Mg) (k:Nat):Int:=(M.getD k ⟨0,0,0⟩).t
def mergeAt (l:List Int) (i:Nat) (t:Int):List Int:=l.take i++t :: l.drop (i+2)
theorem mergeAt_len {l:List Int} {i:Nat} (h:i+1 < l.length) (t:Int):(mergeAt l i t).length=l.length - 1:=by
 unfold mergeAt
 simp
 omega
theorem mergeAt_get {l:List Int} {i:Nat} (h:i+1 < l.length) (t:Int) (j:Nat):(mergeAt l i t)[j]?=if j < i then l[j]? else if j=i then some t else l[j+1]?:=by
 unfold mergeAt
 by_cases h1:j < i
 ·rw [if_pos h1,List.getElem?_append_left (by simp;omega),List.getElem?_take,if_pos h1]
 ·rw [if_neg h1,List.getElem?_append_right (by simp;omega)]
  have hl:(l.take i).length=i:=by simp;omega
  rw [hl]
  by_cases h2:j=i
  ·rw [if_pos h2,h2,Nat.sub_self];rfl
  ·rw [if_neg h2]
   obtain ⟨d,rfl⟩:∃ d,j=i+(d+1):=⟨j - i - 1,by omega⟩
   rw [show i+(d+1) - i=d+1 by omega,lz2,List.getElem?_drop]
   congr 1
   omega
def encRun (M:List Mg):Nat→List Int→List Int
 | 0,l=>l
 | f+1,l=>
  match bestOf M l with
  | none=>l
  | some (k,i)=>encRun M f (mergeAt l i (toOf M k))
theorem encRun_done {M:List Mg} {l:List Int} (h:bestOf M l=none) (f:Nat):encRun M f l=l:=by
 cases f with
 | zero=>rfl
 | succ f=>simp only [encRun];rw [h]
theorem encRun_step {M:List Mg} {l:List Int} {k i:Nat} (h:bestOf M l=some (k,i)) (f:Nat):encRun M (f+1) l=encRun M f (mergeAt l i (toOf M k)):=by
 simp only [encRun];rw [h]
theorem pairRk_in {M:List Mg} {l:List Int} {i k:Nat} (h:pairRk M l i=some k):i+1 < l.length:=by
 rcases Nat.lt_or_ge (i+1) l.length with h1 | h1
 ·exact h1
 ·rw [pairRk_end h1] at h;cases h
theorem encRun_keeps {M:List Mg} {Q:List Int→Prop} (hQ:∀ l i k,Q l→pairRk M l i=some k→Q (mergeAt l i (toOf M k))):∀ (f:Nat) (l:List Int),Q l→Q (encRun M f l)
 | 0,_,h=>h
 | f+1,l,h=>by
  cases hb:bestOf M l with
  | none=>rw [encRun_done hb];exact h
  | some p=>
   obtain ⟨k,i⟩:=p
   rw [encRun_step hb]
   exact encRun_keeps hQ f _ (hQ l i k h (bestOf_rk hb))
theorem encRun_len (M:List Mg) (f:Nat) (l:List Int):(encRun M f l).length≤l.length:=
 encRun_keeps (Q:=fun x=>x.length≤l.length) (fun x i k h hp=>by rw [mergeAt_len (pairRk_in hp)];omega) f l (Nat.le_refl _)
def bytesI (s:List UInt8):List Int:=s.map fun c=>(c.toNat:Int)
def encL (M:List Mg) (s:List UInt8):List Int:=encRun M s.length (bytesI s)
theorem bytesI_len (s:List UInt8):(bytesI s).length=s.length:=by simp [bytesI]
theorem encL_len (M:List Mg) (s:List UInt8):(encL M s).length≤s.length:=by
 have:=encRun_len M s.length (bytesI s)
 rw [bytesI_len] at this
 exact this
def gtS (x y:Nat×Nat):Prop:=y.1 < x.1∨(y.1=x.1∧y.2 < x.2)
instance (x y:Nat×Nat):Decidable (gtS x y):=by unfold gtS;infer_instance
theorem gtS_irr (x:Nat×Nat):¬ gtS x x:=by unfold gtS;omega
theorem gtS_trans {x y z:Nat×Nat} (h:gtS x y) (h2:gtS y z):gtS x z:=by unfold gtS at *;omega
theorem gtS_total {x y:Nat×Nat} (h:¬ gtS x y) (h2:¬ gtS y x):x=y:=by
 unfold gtS at *
 exact Prod.ext (by omega) (by omega)
def idxS (st:List (Nat×Nat)) (s:Nat×Nat):Nat:=st.countP fun x=>decide (gtS x s)
theorem idxS_le (st:List (Nat×Nat)) (s:Nat×Nat):idxS st s≤st.length:=List.countP_le_length
theorem idxS_cons (x:Nat×Nat) (st:List (Nat×Nat)) (s:Nat×Nat):idxS (x :: st) s=if gtS x s then idxS st s+1 else idxS st s:=by
 unfold idxS
 rw [List.countP_cons]
 by_cases h:gtS x s <;> simp [h]
theorem idxS_zero {st:List (Nat×Nat)} {s:Nat×Nat} (h:∀ y∈st,¬ gtS y s):idxS st s=0:=by
 unfold idxS
 rw [List.countP_eq_zero]
 intro y hy
 simpa using h y hy
theorem idxS_split {st:List (Nat×Nat)} (hs:st.Pairwise gtS) (s:Nat×Nat):(∀ x∈st.take (idxS st s),gtS x s)∧∀ x∈st.drop (idxS st s),¬ gtS x s:=by
 induction st with
 | nil=>simp
 | cons x r ih=>
  rw [List.pairwise_cons] at hs
  have h:=ih hs.2
  rw [idxS_cons]
  by_cases hx:gtS x s
  ·rw [if_pos hx]
   refine ⟨fun y hy=>?_,fun y hy=>h.2 y (by simpa using hy)⟩
   rw [List.take_succ_cons] at hy
   rcases List.mem_cons.1 hy with rfl | hy
   ·exact hx
   ·exact h.1 y hy
  ·rw [if_neg hx]
   have hz:idxS r s=0:=idxS_zero fun y hy hg=>hx (gtS_trans (hs.1 y hy) hg)
   rw [hz]
   refine ⟨by simp,fun y hy hg=>?_⟩
   rw [List.drop_zero] at hy
   rcases List.mem_cons.1 hy with rfl | hy
   ·exact hx hg
   ·exact hx (gtS_trans (hs.1 y hy) hg)
theorem idxS_at {st:List (Nat×Nat)} (hs:st.Pairwise gtS) (s:Nat×Nat) {i:Nat} {x:Nat×Nat} (hx:st[i]?=some x):gtS x s↔i < idxS st s:=by
 have h:=idxS_split hs s
 constructor
 ·intro hg
  rcases Nat.lt_or_ge i (idxS st s) with h1 | h1
  ·exact h1
  ·refine absurd hg (h.2 x ?_)
   refine List.mem_of_getElem? (i:=i - idxS st s) ?_
   rw [List.getElem?_drop,show idxS st s+(i - idxS st s)=i by omega]
   exact hx
 ·intro hi
  refine h.1 x (List.mem_of_getElem? (i:=i) ?_)
  rw [List.getElem?_take,if_pos hi]
  exact hx
structure StOK (st:List (Nat×Nat)) (S:Nat×Nat→Prop):Prop where
 sorted:st.Pairwise gtS
 mem:∀ s,s∈st↔S s
def dropS (st:List (Nat×Nat)) (s:Nat×Nat):List (Nat×Nat):=st.take (idxS st s)++st.drop (idxS st s+1)
def addS (st:List (Nat×Nat)) (s:Nat×Nat):List (Nat×Nat):=st.take (idxS st s)++s :: st.drop (idxS st s)
theorem StOK.at_ {st:List (Nat×Nat)} {S:Nat×Nat→Prop} (h:StOK st S) {s:Nat×Nat} (hs:S s):st[idxS st s]?=some s:=by
 obtain ⟨i,hi⟩:=List.mem_iff_getElem?.1 ((h.mem s).2 hs)
 have h1:=idxS_at h.sorted s hi
 have h2:¬ i < idxS st s:=fun e=>gtS_irr s (h1.2 e)
 rcases Nat.lt_or_ge (idxS st s) i with h3 | h3
 ·have hlt:=(List.getElem?_eq_some_iff.1 hi).1
  have hx:st[idxS st s]?=some (st[idxS st s]'(by omega)):=List.getElem?_eq_getElem _
  have h4:=idxS_at h.sorted s hx
  have h5:=List.pairwise_iff_getElem.1 h.sorted (idxS st s) i (by omega) hlt h3
  rw [(List.getElem?_eq_some_iff.1 hi).2] at h5
  exact absurd (h4.1 h5) (by omega)
 ·obtain rfl:i=idxS st s:=by omega
  exact hi
theorem StOK.drop {st:List (Nat×Nat)} {S:Nat×Nat→Prop} (h:StOK st S) {s:Nat×Nat} (hs:S s):StOK (dropS st s) (fun x=>S x∧x≠s):=by
 have ha:=h.at_ hs
 have hlt:=(List.getElem?_eq_some_iff.1 ha).1
 have hsub:(dropS st s).Sublist st:=by
  unfold dropS
  have:st=st.take (idxS st s)++st.drop (idxS st s):=(List.take_append_drop _ _).symm
  conv=>rhs;rw [this]
  refine List.Sublist.append (List.Sublist.refl _) ?_
  rw [← List.drop_drop]
  exact List.drop_sublist _ _
 refine ⟨h.sorted.sublist hsub,fun x=>?_⟩
 have hd:st.drop (idxS st s)=s :: st.drop (idxS st s+1):=by
  rw [List.drop_eq_getElem_cons hlt,(List.getElem?_eq_some_iff.1 ha).2]
 have hst:st=st.take (idxS st s)++(s :: st.drop (idxS st s+1)):=by
  rw [← hd];exact (List.take_append_drop _ _).symm
 have hpw:=h.sorted
 rw [hst,List.pairwise_append] at hpw
 obtain ⟨_,h2,h3⟩:=hpw
 rw [List.pairwise_cons] at h2
 constructor
 ·intro hx
  refine ⟨(h.mem x).1 (hsub.subset hx),?_⟩
  rintro rfl
  unfold dropS at hx
  rcases List.mem_append.1 hx with hx | hx
  ·exact gtS_irr _ (h3 _ hx _ (List.mem_cons_self ..))
  ·exact gtS_irr _ (h2.1 _ hx)
 ·rintro ⟨hx,hne⟩
  have:=(h.mem x).2 hx
  rw [hst] at this
  unfold dropS
  rcases List.mem_append.1 this with hx | hx
  ·exact List.mem_append_left _ hx
  ·rcases List.mem_cons.1 hx with hx | hx
   ·exact absurd hx hne
   ·exact List.mem_append_right _ hx
theorem StOK.add {st:List (Nat×Nat)} {S:Nat×Nat→Prop} (h:StOK st S) {s:Nat×Nat} (hs:¬ S s):StOK (addS st s) (fun x=>S x∨x=s):=by
 have hsp:=idxS_split h.sorted s
 have hst:=(List.take_append_drop (idxS st s) st).symm
 have hpw:=h.sorted
 rw [hst,List.pairwise_append] at hpw
 obtain ⟨h1,h2,h3⟩:=hpw
 refine ⟨?_,fun x=>?_⟩
 ·unfold addS
  rw [List.pairwise_append]
  refine ⟨h1,?_,fun x hx y hy=>?_⟩
  ·rw [List.pairwise_cons]
   refine ⟨fun y hy=>?_,h2⟩
   rcases Decidable.em (gtS s y) with hg | hg
   ·exact hg
   ·exact absurd ((h.mem y).1 (List.mem_of_mem_drop hy)) (gtS_total hg (hsp.2 y hy) ▸ hs)
  ·rcases List.mem_cons.1 hy with rfl | hy
   ·exact hsp.1 x hx
   ·exact h3 x hx y hy
 ·unfold addS
  rw [List.mem_append,List.mem_cons,← h.mem x]
  conv=>rhs;rw [hst]
  rw [List.mem_append]
  constructor
  ·rintro (h | rfl | h)
   ·exact .inl (.inl h)
   ·exact .inr rfl
   ·exact .inl (.inr h)
  ·rintro ((h | h) | rfl)
   ·exact .inl h
   ·exact .inr (.inr h)
   ·exact .inr (.inl rfl)
structure RowOK (n:Nat) (l:List Int) (qs:List Nat) (at_ before behind:List Int):Prop where
 len:qs.length=l.length+1
 last:qs[l.length]?=some n
 first:qs[0]?=some 0
 inc:∀ (i j p q:Nat),i < j→qs[i]?=some p→qs[j]?=some q→p < q
 tok:∀ (i:Nat) (a:Int) (p:Nat),l[i]?=some a→qs[i]?=some p→at_[p]?=some a
 beh:∀ (i p q:Nat),qs[i]?=some p→qs[i+1]?=some q→behind[p]?=some (q:Int)
 bef:∀ (i p q:Nat),qs[i]?=some p→qs[i+1]?=some q→before[q]?=some (p:Int)
 bef0:before[0]?=some (-1)
 atL:at_.length=n
 befL:before.length=n+1
 behL:behind.length=n
section
variable {n:Nat} {l:List Int} {qs:List Nat} {at_ before behind:List Int}
theorem RowOK.lt (h:RowOK n l qs at_ before behind) {i p:Nat} (hi:i < l.length) (hp:qs[i]?=some p):p < n:=h.inc i l.length p n hi hp h.last
theorem RowOK.le (h:RowOK n l qs at_ before behind) {i p:Nat} (hp:qs[i]?=some p):p≤n:=by
 have hi:=(List.getElem?_eq_some_iff.1 hp).1
 rw [h.len] at hi
 rcases Nat.lt_or_ge i l.length with h1 | h1
 ·exact Nat.le_of_lt (h.lt h1 hp)
 ·obtain rfl:i=l.length:=by omega
  rw [h.last] at hp
  cases hp
  exact Nat.le_refl _
theorem RowOK.inj (h:RowOK n l qs at_ before behind) {i j p:Nat} (hi:qs[i]?=some p) (hj:qs[j]?=some p):i=j:=by
 rcases Nat.lt_trichotomy i j with h1 | h1 | h1
 ·exact absurd (h.inc i j p p h1 hi hj) (Nat.lt_irrefl _)
 ·exact h1
 ·exact absurd (h.inc j i p p h1 hj hi) (Nat.lt_irrefl _)
theorem RowOK.get (h:RowOK n l qs at_ before behind) {i:Nat} (hi:i≤l.length):∃ p,qs[i]?=some p:=⟨_,List.getElem?_eq_getElem (by rw [h.len];omega)⟩
theorem RowOK.merge (h:RowOK n l qs at_ before behind) {i p g q:Nat} (hp:qs[i]?=some p) (hg:qs[i+1]?=some g) (hq:qs[i+2]?=some q) (t:Int):
  RowOK n (mergeAt l i t) (qs.eraseIdx (i+1)) (at_.set p t) (before.set q p) (behind.set p q):=by
 have hi2:i+2 < qs.length:=(List.getElem?_eq_some_iff.1 hq).1
 have hil:i+1 < l.length:=by rw [h.len] at hi2;omega
 have hget:∀ j,(qs.eraseIdx (i+1))[j]?=if j < i+1 then qs[j]? else qs[j+1]?:=fun j=>List.getElem?_eraseIdx
 have hml:=mergeAt_len hil t
 refine {
  len:=?_,last:=?_,first:=?_,inc:=?_,tok:=?_,beh:=?_,bef:=?_,bef0:=?_
  atL:=by rw [List.length_set];exact h.atL
  befL:=by rw [List.length_set];exact h.befL
  behL:=by rw [List.length_set];exact h.behL }
 ·rw [List.length_eraseIdx,if_pos (by omega),hml,h.len];omega
 ·rw [hget,hml,if_neg (by omega),show l.length - 1+1=l.length by omega];exact h.last
 ·rw [hget,if_pos (by omega)];exact h.first
 ·intro x y a b hxy hx hy
  rw [hget] at hx hy
  split at hx <;> split at hy
  ·exact h.inc x y a b hxy hx hy
  ·exact h.inc x (y+1) a b (by omega) hx hy
  ·omega
  ·exact h.inc (x+1) (y+1) a b (by omega) hx hy
 ·intro j a r ha hr
  rw [mergeAt_get hil] at ha
  rw [hget] at hr
  by_cases h1:j < i
  ·rw [if_pos h1] at ha
   rw [if_pos (by omega)] at hr
   have hne:p≠r:=fun e=>by have:=h.inj hp (e ▸ hr);omega
   rw [List.getElem?_set_ne hne]
   exact h.tok j a r ha hr
  ·rw [if_neg h1] at ha
   by_cases h2:j=i
   ·subst h2
    rw [if_pos rfl] at ha
    rw [if_pos (by omega),hp] at hr
    cases ha;cases hr
    rw [List.getElem?_set_self (by rw [h.atL];exact h.lt (by omega) hp)]
   ·rw [if_neg h2] at ha
    rw [if_neg (by omega)] at hr
    have hne:p≠r:=fun e=>by have:=h.inj hp (e ▸ hr);omega
    rw [List.getElem?_set_ne hne]
    exact h.tok (j+1) a r ha hr
 ·intro j a b ha hb
  rw [hget] at ha hb
  by_cases h1:j < i
  ·rw [if_pos (by omega)] at ha hb
   have hne:p≠a:=fun e=>by have:=h.inj hp (e ▸ ha);omega
   rw [List.getElem?_set_ne hne]
   exact h.beh j a b ha hb
  ·by_cases h2:j=i
   ·subst h2
    rw [if_pos (by omega),hp] at ha
    rw [if_neg (by omega),show j+1+1=j+2 from rfl,hq] at hb
    cases ha;cases hb
    rw [List.getElem?_set_self (by rw [h.behL];exact h.lt (by omega) hp)]
   ·rw [if_neg (by omega)] at ha hb
    have hne:p≠a:=fun e=>by have:=h.inj hp (e ▸ ha);omega
    rw [List.getElem?_set_ne hne]
    exact h.beh (j+1) a b ha hb
 ·intro j a b ha hb
  rw [hget] at ha hb
  by_cases h1:j < i
  ·rw [if_pos (by omega)] at ha hb
   have hne:q≠b:=fun e=>by have:=h.inj hq (e ▸ hb);omega
   rw [List.getElem?_set_ne hne]
   exact h.bef j a b ha hb
  ·by_cases h2:j=i
   ·subst h2
    rw [if_pos (by omega),hp] at ha
    rw [if_neg (by omega),show j+1+1=j+2 from rfl,hq] at hb
    cases ha;cases hb
    rw [List.getElem?_set_self (by rw [h.befL];have:=h.le hq;omega)]
   ·rw [if_neg (by omega)] at ha hb
    have hne:q≠b:=fun e=>by have:=h.inj hq (e ▸ hb);omega
    rw [List.getElem?_set_ne hne]
    exact h.bef (j+1) a b ha hb
 ·have hne:q≠0:=fun e=>by have:=h.inc 0 (i+2) 0 q (by omega) h.first hq;omega
  rw [List.getElem?_set_ne hne]
  exact h.bef0
def stepOf (M:List Mg) (l:List Int) (qs:List Nat) (j:Nat):Option (Nat×Nat):=
 match qs[j]?,pairRk M l j with
 | some p,some k=>some (k,p)
 | _,_=>none
theorem stepOf_some {M:List Mg} {j:Nat} {s:Nat×Nat}:stepOf M l qs j=some s↔qs[j]?=some s.2∧pairRk M l j=some s.1:=by
 unfold stepOf
 constructor
 ·intro h
  split at h
  ·rename_i p k h1 h2;cases h;exact ⟨h1,h2⟩
  ·cases h
 ·rintro ⟨h1,h2⟩
  rw [h1,h2]
def stepSet (M:List Mg) (l:List Int) (qs:List Nat) (s:Nat×Nat):Prop:=∃ j,stepOf M l qs j=some s
theorem RowOK.step_inj (h:RowOK n l qs at_ before behind) {M:List Mg} {i j:Nat} {s s':Nat×Nat} (hi:stepOf M l qs i=some s) (hj:stepOf M l qs j=some s') (e:s.2=s'.2):i=j:=by
 rw [stepOf_some] at hi hj
 exact h.inj hi.1 (e ▸ hj.1)
theorem best_last {M:List Mg} {st:List (Nat×Nat)} {k p:Nat} (h:RowOK n l qs at_ before behind) (hs:StOK st (stepSet M l qs)) (hl:st[st.length - 1]?=some (k,p)):
  ∃ i g q,bestOf M l=some (k,i)∧qs[i]?=some p∧qs[i+1]?=some g∧qs[i+2]?=some q∧stepOf M l qs i=some (k,p):=by
 have hm:=(hs.mem _).1 (List.mem_of_getElem? hl)
 obtain ⟨i,hi⟩:=hm
 have hi':=stepOf_some.1 hi
 have hin:=pairRk_in hi'.2
 obtain ⟨g,hg⟩:=h.get (i:=i+1) (by omega)
 obtain ⟨q,hq⟩:=h.get (i:=i+2) (by omega)
 refine ⟨i,g,q,bestOf_is hi'.2 (fun j k' hk=>?_),hi'.1,hg,hq,hi⟩
 obtain ⟨r,hr⟩:=h.get (i:=j) (by have:=pairRk_in hk;omega)
 have hmem:(k',r)∈st:=(hs.mem _).2 ⟨j,stepOf_some.2 ⟨hr,hk⟩⟩
 obtain ⟨a,ha⟩:=List.mem_iff_getElem?.1 hmem
 have hlt:=(List.getElem?_eq_some_iff.1 ha).1
 have hll:=(List.getElem?_eq_some_iff.1 hl).1
 rcases Nat.lt_or_ge a (st.length - 1) with h1 | h1
 ·have h2:=List.pairwise_iff_getElem.1 hs.sorted a (st.length - 1) hlt hll h1
  rw [(List.getElem?_eq_some_iff.1 ha).2,(List.getElem?_eq_some_iff.1 hl).2] at h2
  rcases h2 with h2 | ⟨h2,h3⟩
  ·exact .inl h2
  ·refine .inr ⟨h2,?_⟩
   rcases Nat.lt_or_ge j i with h4 | h4
   ·have:=h.inc j i r p h4 hr hi'.1
    have h3':p < r:=h3
    omega
   ·exact h4
 ·obtain rfl:a=st.length - 1:=by omega
  rw [hl] at ha
  cases ha
  exact .inr ⟨rfl,Nat.le_of_eq (h.inj hi'.1 hr)⟩
def dropO (st:List (Nat×Nat)):Option (Nat×Nat)→List (Nat×Nat)
 | none=>st
 | some s=>dropS st s
def addO (st:List (Nat×Nat)):Option (Nat×Nat)→List (Nat×Nat)
 | none=>st
 | some s=>addS st s
theorem StOK.dropO {st:List (Nat×Nat)} {S:Nat×Nat→Prop} (h:StOK st S) {o:Option (Nat×Nat)} (ho:∀ s,o=some s→S s):StOK (dropO st o) (fun x=>S x∧o≠some x):=by
 cases o with
 | none=>exact ⟨h.sorted,fun s=>by simp [Go.Proofs.YthcjikpabpgpfaaGreat.dropO,h.mem]⟩
 | some s=>
  have:=h.drop (ho s rfl)
  refine ⟨this.sorted,fun x=>?_⟩
  show x∈dropS st s↔_
  rw [this.mem x]
  constructor
  ·rintro ⟨h1,h2⟩;exact ⟨h1,fun e=>h2 (Option.some.inj e).symm⟩
  ·rintro ⟨h1,h2⟩;exact ⟨h1,fun e=>h2 (by rw [e])⟩
theorem StOK.addO {st:List (Nat×Nat)} {S:Nat×Nat→Prop} (h:StOK st S) {o:Option (Nat×Nat)} (ho:∀ s,o=some s→¬ S s):StOK (addO st o) (fun x=>S x∨o=some x):=by
 cases o with
 | none=>exact ⟨h.sorted,fun s=>by simp [Go.Proofs.YthcjikpabpgpfaaGreat.addO,h.mem]⟩
 | some s=>
  have:=h.add (ho s rfl)
  refine ⟨this.sorted,fun x=>?_⟩
  show x∈addS st s↔_
  rw [this.mem x]
  constructor
  ·rintro (h1 | h1)
   ·exact .inl h1
   ·exact .inr (by rw [h1])
  ·rintro (h1 | h1)
   ·exact .inl h1
   ·exact .inr (Option.some.inj h1).symm
theorem StOK.iff {st:List (Nat×Nat)} {S S':Nat×Nat→Prop} (h:StOK st S) (e:∀ s,S s↔S' s):StOK st S':=⟨h.sorted,fun s=>(h.mem s).trans (e s)⟩
def stepAhead (M:List Mg) (l:List Int) (qs:List Nat):Nat→Option (Nat×Nat)
 | 0=>none
 | j+1=>stepOf M l qs j
theorem stepAhead_some {M:List Mg} {j:Nat} {s:Nat×Nat}:stepAhead M l qs j=some s↔∃ i,j=i+1∧stepOf M l qs i=some s:=by
 cases j with
 | zero=>simp [stepAhead]
 | succ j=>
  constructor
  ·intro h;exact ⟨j,rfl,h⟩
  ·rintro ⟨i,e,h⟩
   obtain rfl:j=i:=by omega
   exact h
def st3 (M:List Mg) (l:List Int) (qs:List Nat) (i:Nat) (st:List (Nat×Nat)):List (Nat×Nat):=
 dropO (dropO (dropO st (stepAhead M l qs i)) (stepOf M l qs i)) (stepOf M l qs (i+1))
theorem RowOK.drop3 (h:RowOK n l qs at_ before behind) {M:List Mg} {st:List (Nat×Nat)} (hs:StOK st (stepSet M l qs)) (i:Nat):
  StOK (dropO st (stepAhead M l qs i)) (fun x=>stepSet M l qs x∧stepAhead M l qs i≠some x)∧
  (∀ s,stepOf M l qs i=some s→stepSet M l qs s∧stepAhead M l qs i≠some s)∧
  StOK (dropO (dropO st (stepAhead M l qs i)) (stepOf M l qs i)) (fun x=>(stepSet M l qs x∧stepAhead M l qs i≠some x)∧stepOf M l qs i≠some x)∧
  (∀ s,stepOf M l qs (i+1)=some s→(stepSet M l qs s∧stepAhead M l qs i≠some s)∧stepOf M l qs i≠some s)∧
  StOK (st3 M l qs i st) (fun x=>((stepSet M l qs x∧stepAhead M l qs i≠some x)∧stepOf M l qs i≠some x)∧stepOf M l qs (i+1)≠some x):=by
 have h1:=hs.dropO (o:=stepAhead M l qs i) (fun s e=>by
  obtain ⟨j,_,hj⟩:=stepAhead_some.1 e
  exact ⟨j,hj⟩)
 have e2:∀ s,stepOf M l qs i=some s→stepSet M l qs s∧stepAhead M l qs i≠some s:=fun s e=>⟨⟨i,e⟩,fun e2=>by
  obtain ⟨j,hj,h3⟩:=stepAhead_some.1 e2
  have:=h.step_inj e h3 rfl
  omega⟩
 have h2:=h1.dropO (o:=stepOf M l qs i) e2
 have e3:∀ s,stepOf M l qs (i+1)=some s→(stepSet M l qs s∧stepAhead M l qs i≠some s)∧stepOf M l qs i≠some s:=fun s e=>⟨⟨⟨i+1,e⟩,fun e2=>by
  obtain ⟨j,hj,h3⟩:=stepAhead_some.1 e2
  have:=h.step_inj e h3 rfl
  omega⟩,fun e2=>by
  have:=h.step_inj e e2 rfl
  omega⟩
 exact ⟨h1,e2,h2,e3,h2.dropO e3⟩
theorem step_merge {M:List Mg} {i:Nat} (hi:i+1 < l.length) (t:Int) (j:Nat) (h1:j+1 < i∨i < j):
  stepOf M (mergeAt l i t) (qs.eraseIdx (i+1)) j=stepOf M l qs (if j < i then j else j+1):=by
 have hget:(qs.eraseIdx (i+1))[j]?=if j < i+1 then qs[j]? else qs[j+1]?:=List.getElem?_eraseIdx
 unfold stepOf pairRk
 rw [hget,mergeAt_get hi,mergeAt_get hi]
 rcases h1 with h1 | h1
 ·rw [if_pos (by omega),if_pos (by omega),if_pos (by omega),if_pos (by omega)]
 ·rw [if_neg (by omega),if_neg (by omega),if_neg (by omega),if_neg (by omega),if_neg (by omega),if_neg (by omega)]
def st5 (M:List Mg) (l:List Int) (qs:List Nat) (i:Nat) (t:Int) (st:List (Nat×Nat)):List (Nat×Nat):=
 addO (addO (st3 M l qs i st) (stepAhead M (mergeAt l i t) (qs.eraseIdx (i+1)) i)) (stepOf M (mergeAt l i t) (qs.eraseIdx (i+1)) i)
theorem RowOK.add2 (h:RowOK n l qs at_ before behind) {M:List Mg} {st:List (Nat×Nat)} (hs:StOK st (stepSet M l qs)) {i p g q:Nat} (hp:qs[i]?=some p) (hg:qs[i+1]?=some g) (hq:qs[i+2]?=some q) (t:Int):
  StOK (addO (st3 M l qs i st) (stepAhead M (mergeAt l i t) (qs.eraseIdx (i+1)) i)) (fun x=>(((stepSet M l qs x∧stepAhead M l qs i≠some x)∧stepOf M l qs i≠some x)∧stepOf M l qs (i+1)≠some x)∨stepAhead M (mergeAt l i t) (qs.eraseIdx (i+1)) i=some x)∧
  StOK (st5 M l qs i t st) (stepSet M (mergeAt l i t) (qs.eraseIdx (i+1))):=by
 have hm:=h.merge hp hg hq t
 have hi2:i+2 < qs.length:=(List.getElem?_eq_some_iff.1 hq).1
 have hil:i+1 < l.length:=by rw [h.len] at hi2;omega
 obtain ⟨_,_,_,_,h3⟩:=h.drop3 hs i
 have hget:∀ j,(qs.eraseIdx (i+1))[j]?=if j < i+1 then qs[j]? else qs[j+1]?:=fun j=>List.getElem?_eraseIdx
 -- what is left stands elsewhere
 have hold:∀ x,(((stepSet M l qs x∧stepAhead M l qs i≠some x)∧stepOf M l qs i≠some x)∧stepOf M l qs (i+1)≠some x)↔∃ j,(j+1 < i∨i < j)∧stepOf M (mergeAt l i t) (qs.eraseIdx (i+1)) j=some x:=by
  intro x
  constructor
  ·rintro ⟨⟨⟨⟨j,hj⟩,n1⟩,n2⟩,n3⟩
   have a1:j+1≠i:=fun e=>n1 (stepAhead_some.2 ⟨j,e.symm,hj⟩)
   have a2:j≠i:=fun e=>n2 (e ▸ hj)
   have a3:j≠i+1:=fun e=>n3 (e ▸ hj)
   rcases Nat.lt_or_ge j i with h4 | h4
   ·refine ⟨j,.inl (by omega),?_⟩
    rw [step_merge hil t j (.inl (by omega)),if_pos h4]
    exact hj
   ·refine ⟨j - 1,.inr (by omega),?_⟩
    rw [step_merge hil t (j - 1) (.inr (by omega)),if_neg (by omega),show j - 1+1=j by omega]
    exact hj
  ·rintro ⟨j,hj,e⟩
   rw [step_merge hil t j hj] at e
   refine ⟨⟨⟨⟨_,e⟩,fun e2=>?_⟩,fun e2=>?_⟩,fun e2=>?_⟩
   ·obtain ⟨r,hr,h4⟩:=stepAhead_some.1 e2
    have:=h.step_inj e h4 rfl
    split at this <;> omega
   ·have:=h.step_inj e e2 rfl
    split at this <;> omega
   ·have:=h.step_inj e e2 rfl
    split at this <;> omega
 have h4:=h3.addO (o:=stepAhead M (mergeAt l i t) (qs.eraseIdx (i+1)) i) (fun s e hS=>by
  obtain ⟨j,hj,e2⟩:=(hold s).1 hS
  obtain ⟨r,hr,e3⟩:=stepAhead_some.1 e
  have:=hm.step_inj e2 e3 rfl
  omega)
 have h5:=h4.addO (o:=stepOf M (mergeAt l i t) (qs.eraseIdx (i+1)) i) (fun s e hS=>by
  rcases hS with hS | hS
  ·obtain ⟨j,hj,e2⟩:=(hold s).1 hS
   have:=hm.step_inj e2 e rfl
   omega
  ·obtain ⟨r,hr,e3⟩:=stepAhead_some.1 hS
   have:=hm.step_inj e3 e rfl
   omega)
 refine ⟨h4,h5.iff fun x=>?_⟩
 rw [hold x]
 constructor
 ·rintro ((⟨j,_,e⟩ | e) | e)
  ·exact ⟨j,e⟩
  ·obtain ⟨r,_,e⟩:=stepAhead_some.1 e
   exact ⟨r,e⟩
  ·exact ⟨i,e⟩
 ·rintro ⟨j,e⟩
  by_cases a1:j=i
  ·exact .inr (a1 ▸ e)
  ·by_cases a2:j+1=i
   ·exact .inl (.inr (stepAhead_some.2 ⟨j,a2.symm,e⟩))
   ·exact .inl (.inl ⟨j,by omega,e⟩)
end
end Go.Proofs.YthcjikpabpgpfaaGreat
namespace Go.Proofs.YthcjikpabpgpfaaGreat
def befI (n:Nat):List Int:=(List.range n).map fun (i:Nat)=>(i:Int) - 1
def behI (n:Nat):List Int:=(List.range n).map fun (i:Nat)=>(i:Int)+1
theorem befI_succ (n:Nat):befI (n+1)=befI n++[(n:Int) - 1]:=by unfold befI;rw [List.range_succ,List.map_append];rfl
theorem behI_succ (n:Nat):behI (n+1)=behI n++[(n:Int)+1]:=by unfold behI;rw [List.range_succ,List.map_append];rfl
theorem befI_len (n:Nat):(befI n).length=n:=by simp [befI]
theorem behI_len (n:Nat):(behI n).length=n:=by simp [behI]
theorem befI_at {n i:Nat} (h:i < n):(befI n)[i]?=some ((i:Int) - 1):=by unfold befI;rw [List.getElem?_map,List.getElem?_range h];rfl
theorem behI_at {n i:Nat} (h:i < n):(behI n)[i]?=some ((i:Int)+1):=by unfold behI;rw [List.getElem?_map,List.getElem?_range h];rfl
theorem range_at {n i p:Nat} (h:(List.range n)[i]?=some p):i=p∧i < n:=by
 have hi:=(List.getElem?_eq_some_iff.1 h).1
 rw [List.length_range] at hi
 rw [List.getElem?_range hi] at h
 exact ⟨Option.some.inj h,hi⟩
theorem rowOK_init (s:List UInt8):RowOK s.length (bytesI s) (List.range (s.length+1)) (bytesI s) (befI (s.length+1)) (behI s.length) where
 len:=by rw [List.length_range,bytesI_len]
 last:=by rw [bytesI_len,List.getElem?_range (by omega)]
 first:=by rw [List.getElem?_range (by omega)]
 inc:=fun i j p q hij hi hj=>by
  obtain ⟨rfl,_⟩:=range_at hi
  obtain ⟨rfl,_⟩:=range_at hj
  exact hij
 tok:=fun i a p ha hp=>by
  obtain ⟨rfl,_⟩:=range_at hp
  exact ha
 beh:=fun i p q hp hq=>by
  obtain ⟨rfl,_⟩:=range_at hp
  obtain ⟨rfl,h2⟩:=range_at hq
  rw [behI_at (by omega)]
  rfl
 bef:=fun i p q hp hq=>by
  obtain ⟨rfl,_⟩:=range_at hp
  obtain ⟨rfl,h2⟩:=range_at hq
  rw [befI_at h2]
  congr 1
  omega
 bef0:=by rw [befI_at (by omega)];rfl
 atL:=bytesI_len s
 befL:=befI_len _
 behL:=behI_len _
structure StUp (M:List Mg) (l:List Int) (qs:List Nat) (j:Nat) (st:List (Nat×Nat)):Prop where
 mem:∀ s,s∈st↔∃ i,i < j∧stepOf M l qs i=some s
 pw:st.Pairwise fun x y=>x.2 < y.2
 len:st.length≤j
theorem StUp.nil (M:List Mg) (l:List Int) (qs:List Nat):StUp M l qs 0 []:=⟨fun s=>by simp,.nil,Nat.le_refl _⟩
theorem StUp.skip {M:List Mg} {l:List Int} {qs:List Nat} {j:Nat} {st:List (Nat×Nat)} (h:StUp M l qs j st) (hj:stepOf M l qs j=none):StUp M l qs (j+1) st:=
 ⟨fun s=>(h.mem s).trans ⟨fun ⟨i,h1,h2⟩=>⟨i,by omega,h2⟩,fun ⟨i,h1,h2⟩=>⟨i,(by
  rcases Nat.lt_or_ge i j with h3 | h3
  ·exact h3
  ·obtain rfl:i=j:=by omega
   rw [hj] at h2;cases h2),h2⟩⟩,h.pw,by have:=h.len;omega⟩
theorem StUp.push {M:List Mg} {l:List Int} {qs:List Nat} {j:Nat} {st:List (Nat×Nat)} (h:StUp M l qs j st) (hq:∀ (i k p q:Nat),i < k→qs[i]?=some p→qs[k]?=some q→p < q) {s:Nat×Nat} (hj:stepOf M l qs j=some s):StUp M l qs (j+1) (st++[s]):=by
 refine ⟨fun x=>?_,?_,by rw [List.length_append,List.length_singleton];have:=h.len;omega⟩
 ·rw [List.mem_append,List.mem_singleton,h.mem x]
  constructor
  ·rintro (⟨i,h1,h2⟩ | rfl)
   ·exact ⟨i,by omega,h2⟩
   ·exact ⟨j,by omega,hj⟩
  ·rintro ⟨i,h1,h2⟩
   rcases Nat.lt_or_ge i j with h3 | h3
   ·exact .inl ⟨i,h3,h2⟩
   ·obtain rfl:i=j:=by omega
    rw [hj] at h2
    exact .inr (Option.some.inj h2).symm
 ·rw [List.pairwise_append]
  refine ⟨h.pw,by simp,fun x hx y hy=>?_⟩
  rw [List.mem_singleton.1 hy]
  obtain ⟨i,h1,h2⟩:=(h.mem x).1 hx
  exact hq i j x.2 s.2 h1 (stepOf_some.1 h2).1 (stepOf_some.1 hj).1
theorem StUp.ok {M:List Mg} {l:List Int} {qs:List Nat} {j:Nat} {st st':List (Nat×Nat)} (h:StUp M l qs j st) (hj:l.length≤j) (hp:st'.Perm st) (hs:∀ (i j:Nat) (x y:Nat×Nat),i < j→st'[i]?=some x→st'[j]?=some y→¬ gtS y x):StOK st' (stepSet M l qs):=by
 refine ⟨?_,fun s=>?_⟩
 ·have hnd:st'.Pairwise (·≠·):=by
   have:st.Pairwise (·≠·):=h.pw.imp fun {a b} hab e=>by rw [e] at hab;exact Nat.lt_irrefl _ hab
   exact (hp.pairwise_iff (fun h1 h2=>h1 h2.symm)).2 this
  rw [List.pairwise_iff_getElem] at hnd ⊢
  intro i k hi hk hik
  have h1:=hnd i k hi hk hik
  have h2:=hs i k _ _ hik (List.getElem?_eq_getElem hi) (List.getElem?_eq_getElem hk)
  rcases Decidable.em (gtS st'[i] st'[k]) with h3 | h3
  ·exact h3
  ·exact absurd (gtS_total h3 h2) h1
 ·rw [hp.mem_iff,h.mem s]
  exact ⟨fun ⟨i,_,h2⟩=>⟨i,h2⟩,fun ⟨i,h2⟩=>⟨i,(by
   have:=pairRk_in (stepOf_some.1 h2).2
   omega),h2⟩⟩
end Go.Proofs.YthcjikpabpgpfaaGreat
