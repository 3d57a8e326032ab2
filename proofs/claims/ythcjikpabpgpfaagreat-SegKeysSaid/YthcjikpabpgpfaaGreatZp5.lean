import Derived.Test.YthcjikpabpgpfaaGreatZp0
import Derived.Test.YthcjikpabpgpfaaGreatZp2
set_option linter.unusedSimpArgs false
set_option maxHeartbeats 16000000
set_option maxRecDepth 100000
namespace Go.Proofs.YthcjikpabpgpfaaGreat
abbrev Pst:=Int×List (Int×Int)
def poss (s:List (Int×Int)):List Int:=s.map (·.1)
def atss (s:List (Int×Int)):List Int:=s.map (·.2)
def pAt (l:List Pst) (i:Nat):Pst:=l.getD i (0,[])
def lastD (l:List Pst) (i:Nat):Int:=if i=0 then -1 else (pAt l (i - 1)).1
def unitB (l:List Pst) (i:Nat):List UInt8:=putL ((pAt l i).1 - lastD l i - 1).toNat++(putR (poss (pAt l i).2)++putR (atss (pAt l i).2))
def cat (f:Nat→List UInt8) (a:Nat):Nat→List UInt8
 | 0=>[]
 | k+1=>cat f a k++f (a+k)
def headB (l:List Pst) (f t:Nat) (b:List UInt8):List UInt8:=putL ((pAt l (t - 1)).1 - lastD l f - 1).toNat++putL b.length
def blockB (l:List Pst) (i:Nat):List UInt8:=headB l i (min l.length (i+4)) (cat (unitB l) i (min l.length (i+4) - i))
def linB (l:List Pst) (i:Nat):List UInt8:=(if i % 4=0 then blockB l i else [])++unitB l i
def groupB (l:List Pst) (i:Nat):List UInt8:=headB l i (min l.length (i+16)) (cat (linB l) i (min l.length (i+16) - i))
def lin (l:List Pst) (i:Nat):List UInt8:=(if i % 16=0 then groupB l i else [])++linB l i
def putP (l:List Pst):List UInt8:=putL l.length++cat (lin l) 0 l.length
theorem cat_cons (f:Nat→List UInt8) (a k:Nat):cat f a (k+1)=f a++cat f (a+1) k:=by
 induction k with
 | zero=>simp [cat]
 | succ k ih=>
  rw [cat,ih,cat,List.append_assoc,show a+(k+1)=a+1+k by omega]
theorem cat_add (f:Nat→List UInt8) (a j k:Nat):cat f a (j+k)=cat f a j++cat f (a+j) k:=by
 induction k with
 | zero=>simp [cat]
 | succ k ih=>rw [← Nat.add_assoc,cat,ih,cat,List.append_assoc,show a+(j+k)=a+j+k by omega]
theorem cat_congr {f g:Nat→List UInt8} {a k:Nat} (h:∀ i,a≤i→i < a+k→f i=g i):cat f a k=cat g a k:=by
 induction k with
 | zero=>rfl
 | succ k ih=>rw [cat,cat,ih fun i h1 h2=>h i h1 (by omega),h (a+k) (by omega) (by omega)]
theorem len_cat (f:Nat→List UInt8) (a k m:Nat) (h:∀ i,a≤i→i < a+k→(f i).length≤m):(cat f a k).length≤m * k:=by
 induction k with
 | zero=>simp [cat]
 | succ k ih=>
  have h1:=ih fun i h2 h3=>h i h2 (by omega)
  have h2:=h (a+k) (by omega) (by omega)
  rw [cat,List.length_append,Nat.mul_succ]
  omega
theorem cat_block (l:List Pst) {i k:Nat} (hi:i % 4=0) (hk:0 < k) (hk4:k≤4):cat (linB l) i k=blockB l i++cat (unitB l) i k:=by
 obtain ⟨k,rfl⟩:∃ q,k=q+1:=⟨k - 1,by omega⟩
 rw [cat_cons,cat_cons,linB,if_pos hi,List.append_assoc]
 congr 2
 exact cat_congr fun j h1 h2=>by rw [linB,if_neg (by omega)];rfl
theorem cat_group (l:List Pst) {i k:Nat} (hi:i % 16=0) (hk:0 < k) (hk4:k≤16):cat (lin l) i k=groupB l i++cat (linB l) i k:=by
 obtain ⟨k,rfl⟩:∃ q,k=q+1:=⟨k - 1,by omega⟩
 rw [cat_cons,cat_cons,lin,if_pos hi,List.append_assoc]
 congr 2
 exact cat_congr fun j h1 h2=>by rw [lin,if_neg (by omega)];rfl
structure ValidP (l:List Pst):Prop where
 few:l.length≤4096
 spots:∀ x∈l,x.2.length≤4096
 some:∀ x∈l,0 < x.2.length
 docs:∀ x∈l,0≤x.1∧x.1≤4294967296
 up:∀ i,i < l.length→lastD l i < (pAt l i).1
 pos:∀ x∈l,rises (-1) (poss x.2)=true
 at_:∀ x∈l,rises (-1) (atss x.2)=true
 fit:∀ x∈l,∀ s∈x.2,s.1≤9223372036854775807∧s.2≤9223372036854775807
theorem pAt_mem {l:List Pst} {i:Nat} (h:i < l.length):pAt l i∈l:=by
 unfold pAt
 rw [List.getD_eq_getElem?_getD,List.getElem?_eq_getElem h]
 exact List.getElem_mem h
theorem ValidP.last {l:List Pst} (h:ValidP l) {i:Nat} (hi:i≤l.length):-1≤lastD l i∧lastD l i≤4294967296:=by
 unfold lastD
 split
 ·omega
 ·have:=h.docs _ (pAt_mem (show i - 1 < l.length by omega))
  omega
theorem poss_le {s:List (Int×Int)} (h:∀ x∈s,x.1≤9223372036854775807∧x.2≤9223372036854775807):(∀ y∈poss s,y≤9223372036854775807)∧∀ y∈atss s,y≤9223372036854775807:=by
 constructor
 ·intro y hy
  obtain ⟨x,hx,rfl⟩:=List.mem_map.1 hy
  exact (h x hx).1
 ·intro y hy
  obtain ⟨x,hx,rfl⟩:=List.mem_map.1 hy
  exact (h x hx).2
theorem poss_len (s:List (Int×Int)):(poss s).length=s.length∧(atss s).length=s.length:=by simp [poss,atss]
theorem head_val {l:List Pst} (hl:ValidP l) {f t:Nat} (ht:t≤l.length) (hf:f≤l.length):((pAt l (t - 1)).1 - lastD l f - 1).toNat < 2 ^ 64:=by
 have w1:=hl.last hf
 rcases Nat.eq_zero_or_pos l.length with h0 | h0
 ·have:l=[]:=List.eq_nil_of_length_eq_zero h0
  subst this
  simp [pAt]
  omega
 ·have:=hl.docs _ (pAt_mem (show t - 1 < l.length by omega))
  omega
theorem putGapsR_len (l:List Int):∀ p:Int,-1≤p→rises p l=true→(∀ x∈l,x≤9223372036854775807)→(putGaps (gaps p l)).length≤10 * l.length:=by
 induction l with
 | nil=>intro p _ _ _;simp [gaps,putGaps]
 | cons x l ih=>
  intro p hp hr h
  simp only [rises,Bool.and_eq_true,decide_eq_true_eq] at hr
  have hx:=h x (List.mem_cons_self ..)
  have h1:=putL_len (x - p - 1).toNat (by omega)
  have:=ih x (by omega) hr.2 fun y hy=>h y (List.mem_cons_of_mem _ hy)
  simp only [gaps,putGaps,List.flatMap_cons,List.length_append,List.length_cons] at this ⊢
  omega
theorem putR_len {l:List Int} (hn:l.length≤4096) (hr:rises (-1) l=true) (h:∀ x∈l,x≤9223372036854775807):(putR l).length≤40970:=by
 have h1:=putGapsR_len l (-1) (by omega) hr h
 have h2:=putL_len l.length (by omega)
 unfold putR
 rw [List.length_append]
 omega
theorem unit_len {l:List Pst} (hl:ValidP l) {i:Nat} (hi:i < l.length):(unitB l i).length≤90000:=by
 have p1:=poss_le (hl.fit _ (pAt_mem hi))
 have n1:=poss_len (pAt l i).2
 have s1:=hl.spots _ (pAt_mem hi)
 have h1:=putR_len (by omega) (hl.pos _ (pAt_mem hi)) p1.1
 have h2:=putR_len (by omega) (hl.at_ _ (pAt_mem hi)) p1.2
 have q1:=hl.docs _ (pAt_mem hi)
 have w1:=hl.last (Nat.le_of_lt hi)
 have h3:=putL_len ((pAt l i).1 - lastD l i - 1).toNat (by omega)
 unfold unitB
 simp only [List.length_append]
 omega
theorem units_len {l:List Pst} (hl:ValidP l) {i k:Nat} (h:i+k≤l.length):(cat (unitB l) i k).length≤90000 * k:=len_cat _ _ _ _ fun j h1 h2=>unit_len hl (by omega)
theorem block_len {l:List Pst} (hl:ValidP l) {i:Nat} (hi:i < l.length):(blockB l i).length≤20:=by
 have h1:=units_len hl (i:=i) (k:=min l.length (i+4) - i) (by omega)
 unfold blockB headB
 have h2:=putL_len _ (head_val hl (f:=i) (t:=min l.length (i+4)) (by omega) (by omega))
 have h3:=putL_len (cat (unitB l) i (min l.length (i+4) - i)).length (by omega)
 rw [List.length_append]
 omega
theorem linB_len {l:List Pst} (hl:ValidP l) {i:Nat} (hi:i < l.length):(linB l i).length≤90020:=by
 have h1:=unit_len hl hi
 have h2:=block_len hl hi
 unfold linB
 rw [List.length_append]
 split
 ·omega
 ·simp;omega
theorem linBs_len {l:List Pst} (hl:ValidP l) {i k:Nat} (h:i+k≤l.length):(cat (linB l) i k).length≤90020 * k:=len_cat _ _ _ _ fun j h1 h2=>linB_len hl (by omega)
theorem group_len {l:List Pst} (hl:ValidP l) {i:Nat} (hi:i < l.length):(groupB l i).length≤20:=by
 have h1:=linBs_len hl (i:=i) (k:=min l.length (i+16) - i) (by omega)
 unfold groupB headB
 have h2:=putL_len _ (head_val hl (f:=i) (t:=min l.length (i+16)) (by omega) (by omega))
 have h3:=putL_len (cat (linB l) i (min l.length (i+16) - i)).length (by omega)
 rw [List.length_append]
 omega
theorem lin_len {l:List Pst} (hl:ValidP l) {i:Nat} (hi:i < l.length):(lin l i).length≤90040:=by
 have h1:=linB_len hl hi
 have h2:=group_len hl hi
 unfold lin
 rw [List.length_append]
 split
 ·omega
 ·simp;omega
theorem lins_len {l:List Pst} (hl:ValidP l) {i k:Nat} (h:i+k≤l.length):(cat (lin l) i k).length≤90040 * k:=len_cat _ _ _ _ fun j h1 h2=>lin_len hl (by omega)
theorem putP_len {l:List Pst} (hl:ValidP l):(putP l).length≤368803860:=by
 have h1:=lins_len hl (i:=0) (k:=l.length) (by omega)
 have h2:=hl.few
 have h3:=putL_len l.length (by omega)
 unfold putP
 rw [List.length_append]
 omega
def okAt (l:List Pst) (i:Nat):Bool:=decide (0≤(pAt l i).1)&&(decide ((pAt l i).1≤4294967296)&&(decide (lastD l i < (pAt l i).1)&&(decide (0 < (pAt l i).2.length)&&(rises (-1) (poss (pAt l i).2)&&rises (-1) (atss (pAt l i).2)))))
def okUp (l:List Pst):Nat→Bool
 | 0=>true
 | i+1=>okUp l i&&okAt l i
def manyUp (l:List Pst):Nat→Bool
 | 0=>false
 | i+1=>manyUp l i||decide (4096 < (pAt l i).2.length)
def checkP (l:List Pst):Int:=if 4096 < l.length then 2 else if manyUp l l.length then 2 else if okUp l l.length then 0 else 1
def FitP (l:List Pst):Prop:=∀ x∈l,∀ s∈x.2,s.1≤9223372036854775807∧s.2≤9223372036854775807
theorem okUp_iff {l:List Pst} {n:Nat}:okUp l n=true↔∀ i,i < n→okAt l i=true:=by
 induction n with
 | zero=>simp [okUp]
 | succ n ih=>
  rw [okUp,Bool.and_eq_true,ih]
  constructor
  ·rintro ⟨h1,h2⟩ i hi
   rcases Nat.lt_or_ge i n with h | h
   ·exact h1 i h
   ·obtain rfl:i=n:=by omega
    exact h2
  ·exact fun h=>⟨fun i hi=>h i (by omega),h n (by omega)⟩
theorem manyUp_iff {l:List Pst} {n:Nat}:manyUp l n=false↔∀ i,i < n→(pAt l i).2.length≤4096:=by
 induction n with
 | zero=>simp [manyUp]
 | succ n ih=>
  rw [manyUp,Bool.or_eq_false_iff,ih,decide_eq_false_iff_not]
  constructor
  ·rintro ⟨h1,h2⟩ i hi
   rcases Nat.lt_or_ge i n with h | h
   ·exact h1 i h
   ·obtain rfl:i=n:=by omega
    omega
  ·exact fun h=>⟨fun i hi=>h i (by omega),by have:=h n (by omega);omega⟩
theorem okAt_iff {l:List Pst} {i:Nat}:okAt l i=true↔0≤(pAt l i).1∧(pAt l i).1≤4294967296∧lastD l i < (pAt l i).1∧0 < (pAt l i).2.length∧rises (-1) (poss (pAt l i).2)=true∧rises (-1) (atss (pAt l i).2)=true:=by
 unfold okAt
 simp only [Bool.and_eq_true,decide_eq_true_eq]
theorem pAt_of {l:List Pst} {x:Pst} (h:x∈l):∃ i,i < l.length∧pAt l i=x:=by
 obtain ⟨i,hi,rfl⟩:=List.mem_iff_getElem.1 h
 exact ⟨i,hi,by unfold pAt;rw [List.getD_eq_getElem?_getD,List.getElem?_eq_getElem hi];rfl⟩
theorem check_ok {l:List Pst} (hf:FitP l):checkP l=0↔ValidP l:=by
 unfold checkP
 constructor
 ·intro h
  split at h
  ·cases h
  ·split at h
   ·cases h
   ·split at h
    ·rename_i h1 h2 h3
     have h2:=manyUp_iff.1 (by simpa using h2)
     have h3:=okUp_iff.1 h3
     have at1:∀ x∈l,∃ i,i < l.length∧pAt l i=x∧okAt l i=true:=fun x hx=>by
      obtain ⟨i,hi,e⟩:=pAt_of hx
      exact ⟨i,hi,e,h3 i hi⟩
     exact {
      few:=by omega
      spots:=fun x hx=>by obtain ⟨i,hi,rfl,_⟩:=at1 x hx;exact h2 i hi
      some:=fun x hx=>by obtain ⟨i,hi,rfl,h⟩:=at1 x hx;exact (okAt_iff.1 h).2.2.2.1
      docs:=fun x hx=>by obtain ⟨i,hi,rfl,h⟩:=at1 x hx;exact ⟨(okAt_iff.1 h).1,(okAt_iff.1 h).2.1⟩
      up:=fun i hi=>(okAt_iff.1 (h3 i hi)).2.2.1
      pos:=fun x hx=>by obtain ⟨i,hi,rfl,h⟩:=at1 x hx;exact (okAt_iff.1 h).2.2.2.2.1
      at_:=fun x hx=>by obtain ⟨i,hi,rfl,h⟩:=at1 x hx;exact (okAt_iff.1 h).2.2.2.2.2
      fit:=hf }
    ·cases h
 ·intro h
  have h1:=h.few
  rw [if_neg (by omega),if_neg,if_pos]
  ·exact okUp_iff.2 fun i hi=>okAt_iff.2 ⟨(h.docs _ (pAt_mem hi)).1,(h.docs _ (pAt_mem hi)).2,h.up i hi,h.some _ (pAt_mem hi),h.pos _ (pAt_mem hi),h.at_ _ (pAt_mem hi)⟩
  ·rw [manyUp_iff.2 fun i hi=>h.spots _ (pAt_mem hi)]
   simp
def past1 (b:List UInt8) (n:Nat):Nat:=if (getL (b.drop n)).2.2=0 then n+(getL (b.drop n)).2.1 else n
def pastB (b:List UInt8) (n:Nat):Nat:=past1 b (past1 b n)
def skipB (b:List UInt8) (i n:Nat):Nat:=if i % 4=0 then pastB b (if i % 16=0 then pastB b n else n) else (if i % 16=0 then pastB b n else n)
def rdOne (b:List UInt8) (n:Nat):Option (Nat×List (Int×Int)×Nat):=
 if (getL (b.drop n)).2.2≠0∨4294967296 < (getL (b.drop n)).1 then none
 else
  if (getR (b.drop (n+(getL (b.drop n)).2.1)) 4096).2.2≠0 then none
  else
   if (getR (b.drop (n+(getL (b.drop n)).2.1+(getR (b.drop (n+(getL (b.drop n)).2.1)) 4096).2.1)) 4096).2.2≠0∨(getR (b.drop (n+(getL (b.drop n)).2.1+(getR (b.drop (n+(getL (b.drop n)).2.1)) 4096).2.1)) 4096).1.length≠(getR (b.drop (n+(getL (b.drop n)).2.1)) 4096).1.length then none
   else some ((getL (b.drop n)).1,(getR (b.drop (n+(getL (b.drop n)).2.1)) 4096).1.zip (getR (b.drop (n+(getL (b.drop n)).2.1+(getR (b.drop (n+(getL (b.drop n)).2.1)) 4096).2.1)) 4096).1,
    n+(getL (b.drop n)).2.1+(getR (b.drop (n+(getL (b.drop n)).2.1)) 4096).2.1+(getR (b.drop (n+(getL (b.drop n)).2.1+(getR (b.drop (n+(getL (b.drop n)).2.1)) 4096).2.1)) 4096).2.1)
def rdUp (b:List UInt8) (n0:Nat):Nat→Option (List Pst×Nat×Int)
 | 0=>some ([],n0,-1)
 | i+1=>match rdUp b n0 i with
  | none=>none
  | some (l,n,doc)=>match rdOne b (skipB b i n) with
   | none=>none
   | some (d,s,n2)=>some (l++[(doc+d+1,s)],n2,doc+d+1)
def getP (b:List UInt8):List Pst×Int:=
 if (getL b).2.2≠0∨4096 < (getL b).1 then ([],3)
 else match rdUp b (getL b).2.1 (getL b).1 with
  | none=>([],3)
  | some (l,_,_)=>if checkP l=0∧putP l=b then (l,0) else ([],3)
theorem past_head {b:List UInt8} {n:Nat} {u v:Nat} {r:List UInt8} (hu:u < 2 ^ 64) (hv:v < 2 ^ 64) (h:b.drop n=putL u++putL v++r):pastB b n=n+(putL u++putL v).length∧b.drop (pastB b n)=r:=by
 have h1:getL (b.drop n)=(u,(putL u).length,0):=by rw [h,List.append_assoc];exact getL_put hu _
 have e1:past1 b n=n+(putL u).length:=by unfold past1;rw [h1];simp
 have h2:b.drop (n+(putL u).length)=putL v++r:=by rw [← List.drop_drop,h,List.append_assoc,getL_drop]
 have h3:getL (b.drop (n+(putL u).length))=(v,(putL v).length,0):=by rw [h2];exact getL_put hv _
 have e2:pastB b n=n+(putL u).length+(putL v).length:=by
  unfold pastB
  rw [e1]
  unfold past1
  rw [h3]
  simp
 refine ⟨by rw [e2,List.length_append];omega,?_⟩
 rw [e2,← List.drop_drop,h2,getL_drop]
theorem zip_spots (s:List (Int×Int)):(poss s).zip (atss s)=s:=by
 induction s with
 | nil=>rfl
 | cons x s ih=>
  simp only [poss,atss,List.map_cons,List.zip_cons_cons] at ih ⊢
  rw [ih]
theorem rdOne_put {l:List Pst} (hl:ValidP l) {i:Nat} (hi:i < l.length) {b:List UInt8} {n:Nat} {r:List UInt8} (h:b.drop n=unitB l i++r):
  rdOne b n=some (((pAt l i).1 - lastD l i - 1).toNat,(pAt l i).2,n+(unitB l i).length)∧b.drop (n+(unitB l i).length)=r:=by
 have q1:=hl.docs _ (pAt_mem hi)
 have w1:=hl.last (Nat.le_of_lt hi)
 have u1:=hl.up i hi
 have p1:=poss_le (hl.fit _ (pAt_mem hi))
 have n1:=poss_len (pAt l i).2
 have s1:=hl.spots _ (pAt_mem hi)
 have h0:=h
 obtain ⟨d,hd⟩:∃ d,d=((pAt l i).1 - lastD l i - 1).toNat:=⟨_,rfl⟩
 obtain ⟨P,hP⟩:∃ P,P=poss (pAt l i).2:=⟨_,rfl⟩
 obtain ⟨Q,hQ⟩:∃ Q,Q=atss (pAt l i).2:=⟨_,rfl⟩
 have e0:unitB l i=putL d++(putR P++putR Q):=by unfold unitB;rw [← hd,← hP,← hQ]
 rw [e0,List.append_assoc] at h
 have g1:getL (b.drop n)=(d,(putL d).length,0):=by rw [h];exact getL_put (by omega) _
 have h2:b.drop (n+(putL d).length)=putR P++(putR Q++r):=by rw [← List.drop_drop,h,getL_drop,List.append_assoc]
 have g2:getR (b.drop (n+(putL d).length)) 4096=(P,(putR P).length,0):=by
  rw [h2]
  exact getR_put P (by rw [hP];omega) (by rw [hP];exact hl.pos _ (pAt_mem hi)) (by rw [hP];exact p1.1) _ _ (by rw [hP];omega)
 have h3:b.drop (n+(putL d).length+(putR P).length)=putR Q++r:=by rw [← List.drop_drop,h2,List.drop_left]
 have g3:getR (b.drop (n+(putL d).length+(putR P).length)) 4096=(Q,(putR Q).length,0):=by
  rw [h3]
  exact getR_put Q (by rw [hQ];omega) (by rw [hQ];exact hl.at_ _ (pAt_mem hi)) (by rw [hQ];exact p1.2) _ _ (by rw [hQ];omega)
 constructor
 ·unfold rdOne
  simp only [g1,g2,g3]
  rw [if_neg (by simp;omega),if_neg (by simp),if_neg (by rw [hP,hQ];simp;omega),hP,hQ,zip_spots,← hP,← hQ,e0,← hd]
  simp only [List.length_append,Option.some.injEq,Prod.mk.injEq,true_and]
  omega
 ·rw [← List.drop_drop,h0,List.drop_left]
theorem skip_put {l:List Pst} (hl:ValidP l) {i:Nat} (hi:i < l.length) {b:List UInt8} {n:Nat} {r:List UInt8} (h:b.drop n=lin l i++r):b.drop (skipB b i n)=unitB l i++r∧skipB b i n+(unitB l i).length=n+(lin l i).length:=by
 have b1:=units_len hl (i:=i) (k:=min l.length (i+4) - i) (by omega)
 have g1:=linBs_len hl (i:=i) (k:=min l.length (i+16) - i) (by omega)
 obtain ⟨n1,hn1⟩:∃ n1,n1=if i % 16=0 then pastB b n else n:=⟨_,rfl⟩
 have hb:b.drop n1=linB l i++r∧n1+(linB l i).length=n+(lin l i).length:=by
  unfold lin at h ⊢
  by_cases h16:i % 16=0
  ·rw [if_pos h16] at h hn1 ⊢
   rw [List.append_assoc] at h
   obtain ⟨e1,e2⟩:=past_head (head_val hl (by omega) (by omega)) (by omega) h
   rw [hn1]
   refine ⟨e2,?_⟩
   rw [e1]
   unfold groupB headB
   simp only [List.length_append]
   omega
  ·rw [if_neg h16] at h hn1 ⊢
   rw [hn1]
   exact ⟨h,by simp⟩
 have hs:skipB b i n=if i % 4=0 then pastB b n1 else n1:=by rw [hn1];rfl
 rw [hs]
 obtain ⟨hb1,hb2⟩:=hb
 unfold linB at hb1 hb2
 by_cases h4:i % 4=0
 ·rw [if_pos h4] at hb1 hb2 ⊢
  rw [List.append_assoc] at hb1
  obtain ⟨e1,e2⟩:=past_head (head_val hl (by omega) (by omega)) (by omega) hb1
  refine ⟨e2,?_⟩
  rw [e1,← hb2]
  unfold blockB headB
  simp only [List.length_append]
  omega
 ·rw [if_neg h4] at hb1 hb2 ⊢
  exact ⟨hb1,by rw [← hb2];simp⟩
theorem rdUp_put {l:List Pst} (hl:ValidP l) {b:List UInt8} {n0:Nat} (hb:b.drop n0=cat (lin l) 0 l.length):∀ i,i≤l.length→rdUp b n0 i=some (l.take i,n0+(cat (lin l) 0 i).length,lastD l i)
 | 0,_=>by simp [rdUp,cat,lastD]
 | i+1,hi=>by
  have ih:=rdUp_put hl hb i (by omega)
  have hx:=pAt_mem (show i < l.length by omega)
  have hd:b.drop (n0+(cat (lin l) 0 i).length)=lin l i++cat (lin l) (i+1) (l.length - (i+1)):=by
   have e:=cat_add (lin l) 0 i (l.length - i)
   rw [show i+(l.length - i)=l.length by omega,Nat.zero_add] at e
   rw [← List.drop_drop,hb,e,List.drop_left,show l.length - i=(l.length - (i+1))+1 by omega,cat_cons]
  obtain ⟨h1,h2⟩:=skip_put hl (by omega) hd
  obtain ⟨h3,_⟩:=rdOne_put hl (by omega) h1
  have u1:=hl.up i (by omega)
  unfold rdUp
  rw [ih]
  simp only [h3]
  have e1:lastD l i+(((pAt l i).1 - lastD l i - 1).toNat:Int)+1=(pAt l i).1:=by omega
  have e2:lastD l (i+1)=(pAt l i).1:=by unfold lastD;rw [if_neg (by omega)];rfl
  have e3:l.take (i+1)=l.take i++[pAt l i]:=by
   rw [List.take_add_one]
   unfold pAt
   rw [List.getD_eq_getElem?_getD,List.getElem?_eq_getElem (by omega)]
   rfl
  rw [e1,e2,e3,h2,cat,List.length_append,Nat.zero_add]
  simp only [Option.some.injEq,Prod.mk.injEq]
  exact ⟨trivial,by omega,trivial⟩
theorem getP_put {l:List Pst} (hl:ValidP l):getP (putP l)=(l,0):=by
 have f1:=hl.few
 have h1:getL (putP l)=(l.length,(putL l.length).length,0):=by unfold putP;exact getL_put (by omega) _
 have h2:(putP l).drop (putL l.length).length=cat (lin l) 0 l.length:=by unfold putP;rw [getL_drop]
 unfold getP
 rw [h1]
 simp only
 rw [if_neg (by simp;omega),rdUp_put hl h2 l.length (Nat.le_refl _)]
 simp only [List.take_length]
 rw [if_pos ⟨(check_ok hl.fit).2 hl,trivial⟩]
theorem getP_some {b:List UInt8} (h:(getP b).2=0):checkP (getP b).1=0∧putP (getP b).1=b:=by
 unfold getP at h ⊢
 split at h
 ·cases h
 ·rename_i h1
  rw [if_neg h1]
  split at h
  ·cases h
  ·rename_i l n d h2
   split at h
   ·rename_i h3
    rw [if_pos h3]
    exact h3
   ·cases h
theorem getP_err (b:List UInt8):(getP b).2=0∨getP b=([],3):=by
 unfold getP
 split
 ·exact .inr rfl
 ·split
  ·exact .inr rfl
  ·split
   ·exact .inl rfl
   ·exact .inr rfl
theorem pAt_eq {l:List Pst} {i:Nat} {x:Pst} (h:l[i]?=some x):pAt l i=x:=by
 unfold pAt
 rw [List.getD_eq_getElem?_getD,h]
 rfl
def spAt (s:List (Int×Int)) (k:Nat):Bool:=decide ((if k=0 then -1 else (s.getD (k - 1) (0,0)).1) < (s.getD k (0,0)).1)&&decide ((if k=0 then -1 else (s.getD (k - 1) (0,0)).2) < (s.getD k (0,0)).2)
theorem rises_iff {l:List Int} {p:Int}:rises p l=true↔∀ k,k < l.length→(if k=0 then p else l.getD (k - 1) 0) < l.getD k 0:=by
 rw [rises_at]
 constructor
 ·intro h k hk
  have h1:=h k (l[k]'hk) (List.getElem?_eq_getElem hk)
  rw [List.getD_eq_getElem?_getD (l:=l) (i:=k),List.getElem?_eq_getElem hk]
  exact h1
 ·intro h k x hx
  have hk:=(List.getElem?_eq_some_iff.1 hx).1
  have h1:=h k hk
  rw [List.getD_eq_getElem?_getD (l:=l) (i:=k),hx] at h1
  exact h1
theorem getD_poss (s:List (Int×Int)) (k:Nat):(poss s).getD k 0=(s.getD k (0,0)).1∧(atss s).getD k 0=(s.getD k (0,0)).2:=by
 unfold poss atss
 rw [List.getD_eq_getElem?_getD,List.getD_eq_getElem?_getD,List.getD_eq_getElem?_getD,List.getElem?_map,List.getElem?_map]
 cases s[k]? <;> exact ⟨rfl,rfl⟩
theorem spots_rise {s:List (Int×Int)}:(rises (-1) (poss s)&&rises (-1) (atss s))=true↔∀ k,k < s.length→spAt s k=true:=by
 rw [Bool.and_eq_true,rises_iff,rises_iff]
 have n1:=poss_len s
 constructor
 ·rintro ⟨h1,h2⟩ k hk
  have q1:=h1 k (by omega)
  have q2:=h2 k (by omega)
  rw [(getD_poss s k).1,(getD_poss s (k - 1)).1] at q1
  rw [(getD_poss s k).2,(getD_poss s (k - 1)).2] at q2
  unfold spAt
  rw [decide_eq_true q1,decide_eq_true q2]
  rfl
 ·intro h
  constructor
  ·intro k hk
   have h1:=h k (by omega)
   unfold spAt at h1
   rw [Bool.and_eq_true,decide_eq_true_eq,decide_eq_true_eq] at h1
   rw [(getD_poss s k).1,(getD_poss s (k - 1)).1]
   exact h1.1
  ·intro k hk
   have h1:=h k (by omega)
   unfold spAt at h1
   rw [Bool.and_eq_true,decide_eq_true_eq,decide_eq_true_eq] at h1
   rw [(getD_poss s k).2,(getD_poss s (k - 1)).2]
   exact h1.2
theorem check_many {l:List Pst} (h:4096 < l.length):checkP l=2:=by unfold checkP;rw [if_pos h]
structure CSt where
 l:List Pst
 at_:Nat
 read:Nat
 last:Int
def cStand (s:CSt):CSt:=if s.at_ < s.l.length∧(s.at_ / 4:Nat)≠s.last then { s with read:=s.read+1,last:=(s.at_ / 4:Nat) } else s
def cIn (s:CSt):Bool:=decide (s.at_ < s.l.length)
def cStart (l:List Pst):CSt:=cStand ⟨l,0,0,-1⟩
def cNext (s:CSt):CSt:=cStand (if s.at_ < s.l.length then { s with at_:=s.at_+1 } else s)
def skipN (l:List Pst) (d:Int):Nat→Nat→Nat
 | 0,a=>a
 | f+1,a=>if a < l.length∧(pAt l a).1 < d then skipN l d f (a+1) else a
def cSkip (s:CSt) (d:Int):CSt:=cStand { s with at_:=skipN s.l d (s.l.length - s.at_) s.at_ }
def cDoc (s:CSt):Int:=if s.at_ < s.l.length then (pAt s.l s.at_).1 else 0
def cSpots (s:CSt):List (Int×Int):=if s.at_ < s.l.length then (pAt s.l s.at_).2 else []
theorem cStand_l (s:CSt):(cStand s).l=s.l∧(cStand s).at_=s.at_:=by
 unfold cStand
 split <;> exact ⟨rfl,rfl⟩
theorem cIn_stand (s:CSt):cIn (cStand s)=cIn s:=by
 unfold cIn
 rw [(cStand_l s).1,(cStand_l s).2]
structure CWF (s:CSt):Prop where
 few:s.l.length≤4096
 at_:s.at_≤s.l.length
 last:-1≤s.last∧s.last≤(s.at_ / 4:Nat)
 read:(s.read:Int)≤s.last+1
 end_:4 * s.last < (s.l.length:Int)
 some:∀ x∈s.l,0 < x.2.length∧x.2.length≤4096
theorem CWF.stand {s:CSt} (h:CWF s):CWF (cStand s):=by
 have h1:=h.last
 have h2:=h.read
 unfold cStand
 split
 ·rename_i hc
  refine ⟨h.few,h.at_,⟨?_,?_⟩,?_,?_,h.some⟩
  ·simp only;omega
  ·simp only;omega
  ·simp only;push_cast;omega
  ·simp only;have:=hc.1;omega
 ·exact h
theorem CWF.start {l:List Pst} (h:l.length≤4096) (h1:∀ x∈l,0 < x.2.length∧x.2.length≤4096):CWF (cStart l):=by
 unfold cStart
 exact CWF.stand ⟨h,Nat.zero_le _,⟨by simp,by simp⟩,by simp,by simp only;omega,h1⟩
theorem skipN_le (l:List Pst) (d:Int):∀ (f a:Nat),a≤l.length→a≤skipN l d f a∧skipN l d f a≤l.length
 | 0,a,h=>⟨Nat.le_refl _,h⟩
 | f+1,a,h=>by
  simp only [skipN]
  split
  ·rename_i hc
   have:=skipN_le l d f (a+1) (by omega)
   omega
  ·exact ⟨Nat.le_refl _,h⟩
end Go.Proofs.YthcjikpabpgpfaaGreat
