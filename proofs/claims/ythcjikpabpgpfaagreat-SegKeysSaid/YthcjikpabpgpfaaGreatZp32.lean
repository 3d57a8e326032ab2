import Derived.Test.YthcjikpabpgpfaaGreatZp0
import Derived.Test.YthcjikpabpgpfaaGreatZp28
import Derived.Test.YthcjikpabpgpfaaGreatZp14
import Derived.Test.YthcjikpabpgpfaaGreatZp12
import Derived.Test.YthcjikpabpgpfaaGreatZp2
import Derived.Test.YthcjikpabpgpfaaGreatZp13
import Derived.Test.YthcjikpabpgpfaaGreatZp7
import Derived.Deep.QuietTactic
import Derived.BigQuiet
import Derived.Lib.MinMax
import Derived.Deep.DeepCutAuto
set_option linter.unusedSimpArgs false
set_option maxHeartbeats 16000000
set_option maxRecDepth 100000
namespace Go.Proofs.YthcjikpabpgpfaaGreat
theorem tok_pos {V:Voc} (hV:VOk V) {x:Int} (h:TokI V x):0 < (tokI V.tok x).length:=by
 unfold tokI
 rw [if_pos (show 0≤x∧x < (V.tok.length:Int) from h)]
 have h2:x.toNat < V.tok.length:=by have:=h.1;have:=h.2;omega
 rw [List.getD_eq_getElem?_getD,List.getElem?_eq_getElem h2]
 have:=(hV.short _ (List.getElem_mem h2)).1
 exact this
theorem flat_pos (L:List Nm):∀ l:List Int,(∀ x∈l,0 < (tokI L x).length)→l.length≤(l.flatMap (tokI L)).length
 | [],_=>by simp
 | a :: r,h=>by
  have h1:=flat_pos L r fun x hx=>h x (List.mem_cons_of_mem _ hx)
  have h2:=h a (List.mem_cons_self ..)
  rw [List.flatMap_cons,List.length_append,List.length_cons]
  omega
theorem enc_le {V:Voc} (hV:VOk V) (s:Nm):(encL V.mer s).length≤s.length:=by
 have h1:=flat_pos V.tok (encL V.mer s) fun x hx=>tok_pos hV (hV.enc_in s x hx)
 rw [hV.enc_text] at h1
 exact h1
theorem enc_starts {V:Voc} (hV:VOk V) {s:Nm} (hs:s.length≤4096):startsR V.tok (encR V.mer s)=startsUp V.tok (encL V.mer s) (encL V.mer s).length:=by
 rw [encR_is hs]
 unfold startsR
 rw [if_pos (hV.enc_walk hs).1]
theorem starts_at (L:List Nm) (l:List Int) {n j:Nat} (h:j < n):(startsUp L l n).getD j 0=((textUp L l j).length:Int):=by
 unfold startsUp
 rw [List.getD_eq_getElem?_getD,List.getElem?_map,List.getElem?_range h]
 rfl
theorem docM_ok {V:Voc} (hV:VOk V) {i:Nat} (hi:i < 4096) {p:Nm×Nm} (hp:docOk p):DocOk (docM V i p):=by
 have h3:=hp.2.2
 have hT:(docM V i p).T=encL V.mer p.2:=encR_is h3
 have hS:(docM V i p).S=startsUp V.tok (encL V.mer p.2) (encL V.mer p.2).length:=enc_starts hV h3
 have hle:=enc_le hV p.2
 refine ⟨by rw [hT];omega,by rw [hS,hT,startsUp_len],⟨by show (0:Int)≤(i:Int);omega,by show (i:Int)≤4294967296;omega⟩,?_,?_⟩
 ·rw [badTo_iff]
  intro j hj
  rw [hT] at hj
  rw [badAt_iff,hT,hS,starts_at _ _ hj]
  refine ⟨?_,by omega,fun h0=>?_⟩
  ·rw [List.getD_eq_getElem?_getD,List.getElem?_eq_getElem hj]
   exact (hV.enc_in p.2 _ (List.getElem_mem hj)).1
  ·rw [starts_at _ _ (by omega)]
   have h4:textUp V.tok (encL V.mer p.2) j=textUp V.tok (encL V.mer p.2) (j - 1)++tokI V.tok ((encL V.mer p.2).getD (j - 1) 0):=by
    conv=>lhs;rw [show j=(j - 1)+1 by omega]
    rfl
   rw [h4,List.length_append]
   have h5:0 < (tokI V.tok ((encL V.mer p.2).getD (j - 1) 0)).length:=by
    refine tok_pos hV ?_
    rw [List.getD_eq_getElem?_getD,List.getElem?_eq_getElem (by omega)]
    exact hV.enc_in p.2 _ (List.getElem_mem _)
   omega
 ·obtain ⟨h1,h2⟩:=docM_fit hV i p
  exact ⟨fun y hy=>by have:=h1 y hy;omega,fun y hy=>by have:=h2 y hy;omega⟩
theorem mErr_zero {L:List MDoc} {x:MDoc} (h1:L.length < 4096) (h2:DocOk x) (h3:0 < L.length→(mD L (L.length - 1)).doc < x.doc):mErr L x=0:=by
 unfold mErr
 have:=h2.few
 have:=h2.same
 have:=h2.doc
 rw [if_neg (by omega),if_neg,if_neg (by rw [h2.good];simp)]
 rintro (h | h | ⟨h,h'⟩ | h)
 ·omega
 ·omega
 ·have:=h3 h;omega
 ·omega
theorem docsM_at {V:Voc} {l:List (Nm×Nm)} {i:Nat} {p:Nm×Nm} (h:l[i]?=some p):(docsM V l)[i]?=some (docM V i p):=by
 unfold docsM
 rw [List.getElem?_mapIdx,h]
 rfl
theorem docsM_len (V:Voc) (l:List (Nm×Nm)):(docsM V l).length=l.length:=by unfold docsM;rw [List.length_mapIdx]
theorem segM_take {V:Voc} (hV:VOk V) {l:List (Nm×Nm)} (hl:docsR l):∀ k,k≤l.length→segM V l k=(docsM V l).take k
 | 0,_=>by simp [segM,addUp]
 | k+1,hk=>by
  have h64:=hl.1
  have hp:l[k]?=some (l[k]'(by omega)):=List.getElem?_eq_getElem _
  have ih:=segM_take hV hl k (by omega)
  have hok:=hl.2.1 _ (List.getElem_mem (h:=(by omega:k < l.length)))
  have hlen:(segM V l k).length=k:=by rw [ih,List.length_take,docsM_len];omega
  rw [segM_succ hp]
  unfold mAdd
  rw [if_pos (mErr_zero (by omega) (docM_ok hV (by omega) hok) fun h0=>?_),List.take_add_one,docsM_at hp,ih]
  ·rfl
  ·rw [hlen]
   have hq:l[k - 1]?=some (l[k - 1]'(by omega)):=List.getElem?_eq_getElem _
   have h1:(segM V l k)[k - 1]?=some (docM V (k - 1) (l[k - 1]'(by omega))):=by
    rw [ih,List.getElem?_take,if_pos (by omega),docsM_at hq]
   rw [mD_at h1]
   show ((k - 1:Nat):Int) < ((k:Nat):Int)
   omega
theorem segM_all {V:Voc} (hV:VOk V) {l:List (Nm×Nm)} (hl:docsR l):segM V l l.length=docsM V l:=by
 rw [segM_take hV hl _ (Nat.le_refl _),List.take_of_length_le (by rw [docsM_len];exact Nat.le_refl _)]
theorem docsM_wf {V:Voc} (hV:VOk V) {l:List (Nm×Nm)} (hl:docsR l):MWF (docsM V l):=by
 rw [← segM_all hV hl]
 exact segM_wf hV l (Nat.le_refl _)
def textN (l:List (Nm×Nm)):Nat:=(l.map fun p=>p.2.length).sum
theorem tot_from {V:Voc} (hV:VOk V):∀ (l:List (Nm×Nm)) (i:Nat),(∀ p∈l,docOk p)→totT (l.mapIdx fun j p=>docM V (i+j) p)≤textN l
 | [],_,_=>by simp [totT,textN]
 | p :: r,i,h=>by
  have h1:=tot_from hV r (i+1) fun x hx=>h x (List.mem_cons_of_mem _ hx)
  have h2:=enc_le hV p.2
  have h3:(docM V (i+0) p).T=encL V.mer p.2:=encR_is (h p (List.mem_cons_self ..)).2.2
  have h4:(List.mapIdx (fun j q=>docM V (i+j) q) (p :: r))=docM V (i+0) p :: List.mapIdx (fun j q=>docM V (i+1+j) q) r:=by
   rw [List.mapIdx_cons]
   congr 1
   refine List.ext_getElem? fun k=>?_
   rw [List.getElem?_mapIdx,List.getElem?_mapIdx]
   congr 2
   funext q
   rw [show i+(k+1)=i+1+k by omega]
  rw [h4]
  have h5:totT (docM V (i+0) p :: List.mapIdx (fun j q=>docM V (i+1+j) q) r)=(docM V (i+0) p).T.length+totT (List.mapIdx (fun j q=>docM V (i+1+j) q) r):=by simp [totT]
  have h6:textN (p :: r)=p.2.length+textN r:=by simp [textN]
  rw [h5,h6,h3]
  omega
theorem docsM_tot {V:Voc} (hV:VOk V) {l:List (Nm×Nm)} (hl:docsR l):totT (docsM V l)≤textN l:=by
 have h:=tot_from hV l 0 hl.2.1
 have e:docsM V l=l.mapIdx fun j p=>docM V (0+j) p:=by
  unfold docsM
  congr 1
  funext j p
  rw [Nat.zero_add]
 rw [e]
 exact h
theorem posts_spots (L:List MDoc) (t:Int):spotsOf (mPosts L t)≤totT L:=by
 unfold mPosts
 rw [posts_count L t _ (Nat.le_refl _),List.take_length]
 unfold totT
 induction L with
 | nil=>simp
 | cons x r ih=>
  simp only [List.map_cons,List.sum_cons]
  have:=List.count_le_length (a:=t) (l:=x.T)
  omega
theorem putP_fine {l:List Pst} (hl:ValidP l):(putP l).length≤10+70 * l.length+20 * spotsOf l:=by
 have hs:∀ k,k≤l.length→(cat (lin l) 0 k).length≤70 * k+20 * spotsOf (l.take k):=by
  intro k
  induction k with
  | zero=>intro _;simp [cat,spotsOf]
  | succ k ih=>
   intro hk
   have ih:=ih (by omega)
   have hx:l[k]?=some (l[k]'(by omega)):=List.getElem?_eq_getElem _
   have hmem:=List.getElem_mem (h:=(by omega:k < l.length))
   have hp:pAt l k=l[k]'(by omega):=pAt_eq hx
   have h1:(lin l k).length≤70+20 * (l[k]'(by omega)).2.length:=by
    have hfit:=hl.fit _ hmem
    have hsm:=hl.spots _ hmem
    have hl1:=poss_len (l[k]'(by omega)).2
    have hpl:=poss_le hfit
    have g1:=putGapsR_len (poss (l[k]'(by omega)).2) (-1) (by omega) (hl.pos _ hmem) hpl.1
    have g2:=putGapsR_len (atss (l[k]'(by omega)).2) (-1) (by omega) (hl.at_ _ hmem) hpl.2
    have q1:=putL_len (poss (l[k]'(by omega)).2).length (by rw [hl1.1];omega)
    have q2:=putL_len (atss (l[k]'(by omega)).2).length (by rw [hl1.2];omega)
    have q3:=putL_len ((pAt l k).1 - lastD l k - 1).toNat (by
     have:=hl.docs _ (pAt_mem (by omega:k < l.length))
     have:=hl.last (by omega:k≤l.length)
     omega)
    have hu:(unitB l k).length≤30+20 * (l[k]'(by omega)).2.length:=by
     unfold unitB putR
     simp only [List.length_append]
     rw [hp] at q3 ⊢
     rw [hl1.1] at g1
     rw [hl1.2] at g2
     omega
    have hb:=block_len hl (by omega:k < l.length)
    have hg:=group_len hl (by omega:k < l.length)
    unfold lin linB
    rw [List.length_append,List.length_append]
    split <;> split <;> simp <;> omega
   have h2:spotsOf (l.take (k+1))=spotsOf (l.take k)+(l[k]'(by omega)).2.length:=by
    have e:l.take (k+1)=l.take k++[l[k]'(by omega)]:=by rw [List.take_add_one,hx];rfl
    unfold spotsOf
    rw [e,List.map_append,List.sum_append,List.map_cons,List.map_nil,List.sum_cons,List.sum_nil,Nat.add_zero]
   rw [cat_add (lin l) 0 k 1,List.length_append,h2]
   have h3:(cat (lin l) (0+k) 1).length=(lin l k).length:=by simp [cat]
   rw [h3]
   omega
 have h1:=hs l.length (Nat.le_refl _)
 rw [List.take_length] at h1
 have h2:=putL_len l.length (by have:=hl.few;omega)
 unfold putP
 rw [List.length_append]
 omega
end Go.Proofs.YthcjikpabpgpfaaGreat
namespace Go.Proofs.YthcjikpabpgpfaaGreat
open Go.RowKit Go.Maps Go.WideMaps
def docG (f:Nm):(Nm×Nm)×Int:=
 (((rText ⟨f,0,0⟩ 32).1,(rBytes (rText ⟨f,0,0⟩ 32).2 (rLeft (rText ⟨f,0,0⟩ 32).2)).1),(rBytes (rText ⟨f,0,0⟩ 32).2 (rLeft (rText ⟨f,0,0⟩ 32).2)).2.e)
def docsG (l:List Nm):Nat→Option (List (Nm×Nm))
 | 0=>some []
 | i+1=>match docsG l i with
  | none=>none
  | some D=>if (docG (l.getD (1+i) [])).2≠0 then none else some (D++[(docG (l.getD (1+i) [])).1])
def termT (f:Nm):Int:=(rInt ⟨f,0,0⟩ 511).1
def termR (f:Nm):Nm×Rd:=rBytes (rInt ⟨f,0,0⟩ 511).2 (rLeft (rInt ⟨f,0,0⟩ 511).2)
def termP (f:Nm):List Pst×Int:=getP (termR f).1
def lastT (T:List (Int×List Pst)):Int:=if T.length=0 then -1 else (T.getD (T.length - 1) (0,[])).1
def lastP (p:List Pst):Int:=(p.getD (p.length - 1) (0,[])).1
def termBad (f:Nm) (T:List (Int×List Pst)) (docs:Int):Prop:=(termR f).2.e≠0∨(termP f).2≠0∨termT f≤lastT T∨(termP f).1.length=0∨docs≤lastP (termP f).1
instance (f:Nm) (T:List (Int×List Pst)) (docs:Int):Decidable (termBad f T docs):=by unfold termBad;infer_instance
def termsG (l:List Nm) (docs:Nat):Nat→Option (List (Int×List Pst))
 | 0=>some []
 | i+1=>match termsG l docs i with
  | none=>none
  | some T=>if termBad (l.getD (1+docs+i) []) T docs then none else some (T++[(termT (l.getD (1+docs+i) []),(termP (l.getD (1+docs+i) [])).1)])
def headG (f:Nm):Int×Int×Rd:=((rInt ⟨f,0,0⟩ 1073741824).1,(rInt (rInt ⟨f,0,0⟩ 1073741824).2 1073741824).1,(rInt (rInt ⟨f,0,0⟩ 1073741824).2 1073741824).2)
def openR (b:Nm):Option (List (Nm×Nm)×List (Int×List Pst)):=
 if (allF b).2≠0∨(allF b).1.length=0 then none
 else if (headG ((allF b).1.getD 0 [])).2.2.e≠0∨0 < rLeft (headG ((allF b).1.getD 0 [])).2.2∨((allF b).1.length:Int) - 1≠(headG ((allF b).1.getD 0 [])).1+(headG ((allF b).1.getD 0 [])).2.1 then none
 else match docsG (allF b).1 (headG ((allF b).1.getD 0 [])).1.toNat with
  | none=>none
  | some D=>if docsR D then (termsG (allF b).1 (headG ((allF b).1.getD 0 [])).1.toNat (headG ((allF b).1.getD 0 [])).2.1.toNat).map fun T=>(D,T) else none
end Go.Proofs.YthcjikpabpgpfaaGreat
namespace Go.Proofs.YthcjikpabpgpfaaGreat
def docB (p:Nm×Nm):Nm:=putL p.1.length++p.1++p.2
def headW (n m:Nat):Nm:=putL n++putL m
def segL (l:List (Nm×Nm)) (L:List MDoc):List Nm:=headW l.length (mTerms L).length :: (l.map docB++(mTerms L).map (termB L))
def segT (L:List MDoc):List (Int×List Pst):=(mTerms L).map fun t=>(t,mPosts L t)
theorem segB_flat (V:Voc) (l:List (Nm×Nm)):segB V l=(segL l (segM V l l.length)).flatMap putF:=by
 unfold segB segL
 rw [List.flatMap_cons,List.flatMap_append,List.flatMap_map,List.flatMap_map,List.append_assoc]
 rfl
theorem segL_len (l:List (Nm×Nm)) (L:List MDoc):(segL l L).length=1+l.length+(mTerms L).length:=by
 unfold segL
 rw [List.length_cons,List.length_append,List.length_map,List.length_map]
 omega
theorem segL_doc {l:List (Nm×Nm)} (L:List MDoc) {i:Nat} {p:Nm×Nm} (h:l[i]?=some p):(segL l L).getD (1+i) []=docB p:=by
 have hlt:=(List.getElem?_eq_some_iff.1 h).1
 unfold segL
 rw [List.getD_eq_getElem?_getD,Nat.add_comm 1 i,lz2,List.getElem?_append_left (by rw [List.length_map];exact hlt),List.getElem?_map,h]
 rfl
theorem segL_term (l:List (Nm×Nm)) {L:List MDoc} {i:Nat} {t:Int} (h:(mTerms L)[i]?=some t):(segL l L).getD (1+l.length+i) []=termB L t:=by
 unfold segL
 rw [List.getD_eq_getElem?_getD,show 1+l.length+i=(l.length+i)+1 by omega,lz2,List.getElem?_append_right (by rw [List.length_map];omega),List.length_map,Nat.add_sub_cancel_left,List.getElem?_map,h]
 rfl
theorem rInt_put {f x r:Nm} {p n:Nat} {most:Int} (hf:f=x++(putL n++r)) (hp:x.length=p) (hn:n < 2 ^ 64) (hm:(n:Int)≤most):rInt ⟨f,p,0⟩ most=((n:Int),⟨f,p+(putL n).length,0⟩):=by
 have hd:f.drop p=putL n++r:=by rw [hf,← hp,List.drop_left]
 unfold rInt
 simp only
 rw [hd,getL_put hn]
 simp only
 rw [if_neg (by simp),if_neg (by simp),if_neg (by omega)]
theorem rBytes_put {f x y r:Nm} {p:Nat} (hf:f=x++(y++r)) (hp:x.length=p):rBytes ⟨f,p,0⟩ (y.length:Nat)=(y,⟨f,p+y.length,0⟩):=by
 unfold rBytes
 simp only
 by_cases h:y.length=0
 ·have:y=[]:=List.length_eq_zero_iff.1 h
  subst this
  simp
 ·have hl:f.length=p+y.length+r.length:=by rw [hf];simp;omega
  rw [if_neg (by omega),if_neg (by omega)]
  have hd:f.drop p=y++r:=by rw [hf,← hp,List.drop_left]
  rw [hd,Int.toNat_natCast,List.take_left]
theorem rLeft_put {f:Nm} {p:Nat}:rLeft ⟨f,p,0⟩=f.length - p:=rfl
theorem docG_put {p:Nm×Nm} (hp:docOk p):docG (docB p)=(p,0):=by
 obtain ⟨h1,h2,h3⟩:=hp
 obtain ⟨k,t⟩:=p
 simp only at h1 h2 h3
 have e1:rInt ⟨docB (k,t),0,0⟩ 32=((k.length:Int),⟨docB (k,t),0+(putL k.length).length,0⟩):=rInt_put (x:=[]) (r:=k++t) (by simp [docB]) rfl (by omega) (by omega)
 have e2:rText ⟨docB (k,t),0,0⟩ 32=(k,⟨docB (k,t),0+(putL k.length).length+k.length,0⟩):=by
  unfold rText
  rw [e1]
  exact rBytes_put (x:=putL k.length) (r:=t) (by simp [docB]) (by omega)
 have e3:rLeft ⟨docB (k,t),0+(putL k.length).length+k.length,0⟩=t.length:=by
  rw [rLeft_put]
  simp [docB]
  omega
 have e4:rBytes ⟨docB (k,t),0+(putL k.length).length+k.length,0⟩ (t.length:Nat)=(t,⟨docB (k,t),0+(putL k.length).length+k.length+t.length,0⟩):=rBytes_put (x:=putL k.length++k) (r:=[]) (by simp [docB]) (by simp)
 unfold docG
 rw [e2]
 simp only
 rw [e3,e4]
theorem term_put {L:List MDoc} {t:Int} (h0:0≤t) (h1:t≤511):termT (termB L t)=t∧termR (termB L t)=(putE (mPosts L t),⟨termB L t,(putL t.toNat).length+(putE (mPosts L t)).length,0⟩):=by
 have e1:rInt ⟨termB L t,0,0⟩ 511=(((t.toNat:Nat):Int),⟨termB L t,0+(putL t.toNat).length,0⟩):=rInt_put (x:=[]) (r:=putE (mPosts L t)) (by simp [termB]) rfl (by omega) (by omega)
 refine ⟨?_,?_⟩
 ·unfold termT
  rw [e1]
  exact Int.toNat_of_nonneg h0
 ·unfold termR
  rw [e1]
  have e3:rLeft ⟨termB L t,0+(putL t.toNat).length,0⟩=(putE (mPosts L t)).length:=by
   rw [rLeft_put]
   simp [termB]
  simp only
  rw [e3]
  have:=rBytes_put (f:=termB L t) (x:=putL t.toNat) (y:=putE (mPosts L t)) (r:=[]) (p:=0+(putL t.toNat).length) (by simp [termB]) (by simp)
  rw [this]
  simp
theorem docsG_put {l:List (Nm×Nm)} (L:List MDoc) (h:∀ p∈l,docOk p):∀ i,i≤l.length→docsG (segL l L) i=some (l.take i)
 | 0,_=>by simp [docsG]
 | i+1,hi=>by
  have hp:l[i]?=some (l[i]'(by omega)):=List.getElem?_eq_getElem _
  have hok:=h _ (List.getElem_mem (h:=(by omega:i < l.length)))
  rw [docsG,docsG_put L h i (by omega)]
  simp only
  rw [segL_doc L hp,docG_put hok,if_neg (by simp),List.take_add_one,hp]
  rfl
theorem lastT_take {T:List (Int×List Pst)} {i:Nat} (hi:i≤T.length):lastT (T.take i)=if i=0 then -1 else (T.getD (i - 1) (0,[])).1:=by
 unfold lastT
 rw [List.length_take,Nat.min_eq_left hi]
 by_cases h:i=0
 ·rw [if_pos h,if_pos h]
 ·rw [if_neg h,if_neg h,List.getD_eq_getElem?_getD,List.getD_eq_getElem?_getD,List.getElem?_take,if_pos (by omega)]
theorem segT_len (L:List MDoc):(segT L).length=(mTerms L).length:=by unfold segT;rw [List.length_map]
theorem segT_at {L:List MDoc} {i:Nat} {t:Int} (h:(mTerms L)[i]?=some t):(segT L)[i]?=some (t,mPosts L t):=by
 unfold segT
 rw [List.getElem?_map,h]
 rfl
theorem posts_some {L:List MDoc} {t:Int} (h:t∈mTerms L):0 < (mPosts L t).length:=by
 have:=posts_pos L t
 rw [decide_eq_true h] at this
 exact of_decide_eq_true this
theorem putE_is {L:List MDoc} (hL:MWF L) (t:Int):putE (mPosts L t)=putP (mPosts L t)∧getP (putE (mPosts L t))=(mPosts L t,0):=by
 have h1:putE (mPosts L t)=putP (mPosts L t):=by unfold putE;rw [if_pos (posts_check hL t)]
 exact ⟨h1,by rw [h1];exact getP_put (posts_valid hL t)⟩
structure SegW (L:List MDoc) (n:Nat):Prop where
 wf:MWF L
 tok:∀ t∈mTerms L,0≤t∧t≤511
 doc:∀ x∈L,x.doc < (n:Int)
theorem termsG_put {l:List (Nm×Nm)} {L:List MDoc} (hW:SegW L l.length):∀ i,i≤(mTerms L).length→termsG (segL l L) l.length i=some ((segT L).take i)
 | 0,_=>by simp [termsG]
 | i+1,hi=>by
  have hp:(mTerms L)[i]?=some ((mTerms L)[i]'(by omega)):=List.getElem?_eq_getElem _
  obtain ⟨t,ht⟩:∃ t,t=(mTerms L)[i]'(by omega):=⟨_,rfl⟩
  rw [← ht] at hp
  have hmem:t∈mTerms L:=List.mem_of_getElem? hp
  obtain ⟨t0,t1⟩:=hW.tok t hmem
  obtain ⟨e1,e2⟩:=term_put (L:=L) t0 t1
  obtain ⟨p1,p2⟩:=putE_is hW.wf t
  have hpos:=posts_some hmem
  have e3:termP (termB L t)=(mPosts L t,0):=by unfold termP;rw [e2];exact p2
  rw [termsG,termsG_put hW i (by omega)]
  simp only
  rw [segL_term l hp,if_neg,e1,e3,List.take_add_one,segT_at hp]
  ·rfl
  ·unfold termBad
   rw [e1,e2,e3,lastT_take (by rw [segT_len];omega)]
   rintro (h | h | h | h | h)
   ·exact h rfl
   ·exact h rfl
   ·split at h
    ·omega
    ·rename_i h0
     have hq:(mTerms L)[i - 1]?=some ((mTerms L)[i - 1]'(by omega)):=List.getElem?_eq_getElem _
     rw [List.getD_eq_getElem?_getD,segT_at hq] at h
     simp only [Option.getD_some] at h
     have h2:=List.pairwise_iff_getElem.1 (terms_up L) (i - 1) i (by omega) (by omega) (by omega)
     rw [← ht] at h2
     omega
   ·simp only at h;omega
   ·unfold lastP at h
    simp only at h
    have h2:(mPosts L t).getD ((mPosts L t).length - 1) (0,[])∈mPosts L t:=by
     rw [List.getD_eq_getElem?_getD,List.getElem?_eq_getElem (by omega)]
     exact List.getElem_mem _
    obtain ⟨j,hj,e,-⟩:=mposts_from h2
    rw [e] at h
    simp only at h
    have:=hW.doc _ (mD_mem hj)
    omega
theorem headG_put (n m:Nat) (hn:n≤1073741824) (hm:m≤1073741824):headG (headW n m)=((n:Int),(m:Int),⟨headW n m,(headW n m).length,0⟩):=by
 have e1:rInt ⟨headW n m,0,0⟩ 1073741824=((n:Int),⟨headW n m,0+(putL n).length,0⟩):=rInt_put (x:=[]) (r:=putL m) (by simp [headW]) rfl (by omega) (by omega)
 have e2:rInt ⟨headW n m,0+(putL n).length,0⟩ 1073741824=((m:Int),⟨headW n m,0+(putL n).length+(putL m).length,0⟩):=rInt_put (x:=putL n) (r:=[]) (by simp [headW]) (by omega) (by omega) (by omega)
 unfold headG
 rw [e1]
 simp only
 rw [e2]
 simp only
 congr 3
 simp [headW]
theorem segL_short {l:List (Nm×Nm)} {L:List MDoc} (hl:docsR l) (hW:SegW L l.length) (hd:L.length≤64) (hT:totT L≤4000):Short (segL l L):=by
 intro x hx
 have hlt:=hl.1
 unfold segL at hx
 rcases List.mem_cons.1 hx with rfl | hx
 ·unfold headW
  have h1:=putL_len l.length (by omega)
  have h2:=putL_len (mTerms L).length (by have:=terms_len L;omega)
  rw [List.length_append]
  omega
 ·rcases List.mem_append.1 hx with hx | hx
  ·obtain ⟨p,hp,rfl⟩:=List.mem_map.1 hx
   obtain ⟨h1,h2,h3⟩:=hl.2.1 p hp
   unfold docB
   have h4:=putL_len p.1.length (by omega)
   simp only [List.length_append]
   omega
  ·obtain ⟨t,ht,rfl⟩:=List.mem_map.1 hx
   obtain ⟨t0,t1⟩:=hW.tok t ht
   have h1:=putL_len t.toNat (by omega)
   have h2:=putP_fine (posts_valid hW.wf t)
   have h3:=posts_spots L t
   have h4:(mPosts L t).length≤L.length:=postUp_len L t _
   unfold termB
   rw [List.length_append,(putE_is hW.wf t).1]
   omega
theorem openR_put {l:List (Nm×Nm)} {L:List MDoc} (hl:docsR l) (hW:SegW L l.length) (hd:L.length≤64) (hT:totT L≤4000):openR ((segL l L).flatMap putF)=some (l,segT L):=by
 have hn:=hl.1
 have hm:=terms_len L
 have e0:allF ((segL l L).flatMap putF)=(segL l L,0):=allF_put _ (segL_short hl hW hd hT)
 have e1:(segL l L).getD 0 []=headW l.length (mTerms L).length:=rfl
 have e2:=headG_put l.length (mTerms L).length (by omega) (by omega)
 have e3:=segL_len l L
 have e4:=docsG_put L hl.2.1 l.length (Nat.le_refl _)
 have e5:=termsG_put hW (mTerms L).length (Nat.le_refl _)
 rw [List.take_length] at e4
 rw [← segT_len L,List.take_length] at e5
 unfold openR
 rw [e0]
 simp only
 rw [e1,e2]
 simp only
 rw [if_neg,if_neg,Int.toNat_natCast,Int.toNat_natCast,e4]
 ·simp only
  rw [if_pos hl,← segT_len L,e5]
  rfl
 ·rintro (h | h | h)
  ·exact h rfl
  ·rw [rLeft_put] at h;omega
  ·rw [e3] at h
   push_cast at h
   omega
 ·rintro (h | h)
  ·exact h rfl
  ·rw [e3] at h;omega
theorem segW_of {V:Voc} (hV:VOk V) {l:List (Nm×Nm)} (hl:docsR l):SegW (docsM V l) l.length where
 wf:=docsM_wf hV hl
 tok:=fun t ht=>by
  obtain ⟨x,hx,h⟩:=terms_mem.1 ht
  obtain ⟨i,hi⟩:=List.getElem?_of_mem hx
  unfold docsM at hi
  rw [List.getElem?_mapIdx] at hi
  obtain ⟨p,hp,rfl⟩:=Option.map_eq_some_iff.1 hi
  have:=(docM_fit hV i p).1 t h
  omega
 doc:=fun x hx=>by
  obtain ⟨i,hi⟩:=List.getElem?_of_mem hx
  have hlt:=(List.getElem?_eq_some_iff.1 hi).1
  rw [docsM_len] at hlt
  unfold docsM at hi
  rw [List.getElem?_mapIdx] at hi
  obtain ⟨p,hp,rfl⟩:=Option.map_eq_some_iff.1 hi
  show (i:Int) < _
  omega
theorem open_build {V:Voc} (hV:VOk V) {l:List (Nm×Nm)} (hl:docsR l) (ht:textN l≤4000):openR (segB V l)=some (l,segT (docsM V l)):=by
 rw [segB_flat,segM_all hV hl]
 exact openR_put hl (segW_of hV hl) (by rw [docsM_len];exact hl.1) (by have:=docsM_tot hV hl;omega)
theorem getF_small (c:List UInt8):(getF c).1.length≤262144:=by
 unfold getF
 split
 ·simp
 ·split
  ·simp
  ·split
   ·simp
   ·split
    ·simp
    ·rename_i h _ _
     simp only [List.length_take]
     omega
theorem allAux_small:∀ (f:Nat) (c:List UInt8) (acc:List (List UInt8)),(∀ x∈acc,x.length≤262144)→∀ x∈(allAux f c acc).1,x.length≤262144
 | 0,c,acc,h=>by simpa [allAux] using h
 | f+1,c,acc,h=>by
  simp only [allAux]
  split
  ·exact h
  ·split
   ·simp
   ·refine allAux_small f _ _ fun x hx=>?_
    rcases List.mem_append.1 hx with hx | hx
    ·exact h x hx
    ·rw [List.mem_singleton.1 hx];exact getF_small c
theorem allF_small (c:List UInt8):∀ x∈(allF c).1,x.length≤262144:=allAux_small _ _ _ (by simp)
theorem allAux_many:∀ (f:Nat) (c:List UInt8) (acc:List (List UInt8)),(allAux f c acc).1.length≤acc.length+f
 | 0,c,acc=>by simp [allAux]
 | f+1,c,acc=>by
  simp only [allAux]
  split
  ·simp
  ·split
   ·simp
   ·have:=allAux_many f (c.drop (getF c).2.1) (acc++[(getF c).1])
    simp only [List.length_append,List.length_singleton] at this
    omega
theorem allF_many (c:List UInt8):(allF c).1.length≤c.length:=by
 have:=allAux_many c.length c []
 simpa [allF] using this
theorem rBytes_le13 (s:Rd) (n:Int):(rBytes s n).1.length≤s.bs.length∧(rBytes s n).2.bs=s.bs:=by
 unfold rBytes
 split
 ·simp
 ·split
  ·simp
  ·exact ⟨by simp only [List.length_take,List.length_drop];omega,rfl⟩
theorem rInt_bs (s:Rd) (m:Int):(rInt s m).2.bs=s.bs:=by
 unfold rInt
 split
 ·rfl
 ·split
  ·rfl
  ·split <;> rfl
theorem rInt_in (s:Rd) {m:Int} (h:0≤m):0≤(rInt s m).1∧(rInt s m).1≤m:=by
 unfold rInt
 split
 ·exact ⟨by simp,by simpa using h⟩
 ·split
  ·exact ⟨by simp,by simpa using h⟩
  ·split
   ·exact ⟨by simp,by simpa using h⟩
   ·rename_i h2
    simp only
    omega
theorem rLeft_le (s:Rd):rLeft s≤s.bs.length:=by
 unfold rLeft
 split <;> omega
theorem docsG_none {l:List Nm} {i:Nat} (h:docsG l i=none):∀ {j:Nat},i≤j→docsG l j=none
 | 0,hj=>by obtain rfl:i=0:=by omega
            exact h
 | j+1,hj=>by
  rcases Nat.lt_or_ge i (j+1) with h1 | h1
  ·simp only [docsG]
   rw [docsG_none h (show i≤j by omega)]
  ·obtain rfl:i=j+1:=by omega
   exact h
theorem termsG_none {l:List Nm} {d i:Nat} (h:termsG l d i=none):∀ {j:Nat},i≤j→termsG l d j=none
 | 0,hj=>by obtain rfl:i=0:=by omega
            exact h
 | j+1,hj=>by
  rcases Nat.lt_or_ge i (j+1) with h1 | h1
  ·simp only [termsG]
   rw [termsG_none h (show i≤j by omega)]
  ·obtain rfl:i=j+1:=by omega
   exact h
theorem docsG_len {l:List Nm}:∀ {i:Nat} {D:List (Nm×Nm)},docsG l i=some D→D.length=i
 | 0,D,h=>by simp [docsG] at h;subst h;rfl
 | i+1,D,h=>by
  simp only [docsG] at h
  split at h
  ·cases h
  ·rename_i D0 h0
   split at h
   ·cases h
   ·cases h
    rw [List.length_append,docsG_len h0]
    rfl
theorem termsG_len {l:List Nm} {d:Nat}:∀ {i:Nat} {T:List (Int×List Pst)},termsG l d i=some T→T.length=i
 | 0,T,h=>by simp [termsG] at h;subst h;rfl
 | i+1,T,h=>by
  simp only [termsG] at h
  split at h
  ·cases h
  ·rename_i T0 h0
   split at h
   ·cases h
   ·cases h
    rw [List.length_append,termsG_len h0]
    rfl
theorem docG_small (f:Nm):(docG f).1.1.length≤f.length∧(docG f).1.2.length≤f.length:=by
 have h1:=rBytes_le13 (rInt ⟨f,0,0⟩ 32).2 (rInt ⟨f,0,0⟩ 32).1
 rw [rInt_bs] at h1
 have h2:=(rBytes_le13 (rText ⟨f,0,0⟩ 32).2 (rLeft (rText ⟨f,0,0⟩ 32).2)).1
 have h3:(rText ⟨f,0,0⟩ 32).2.bs=f:=h1.2
 rw [h3] at h2
 exact ⟨h1.1,h2⟩
theorem lastT_snoc (T:List (Int×List Pst)) (x:Int×List Pst):lastT (T++[x])=x.1:=by
 unfold lastT
 rw [if_neg (by simp),List.getD_eq_getElem?_getD,List.length_append,List.length_singleton,Nat.add_sub_cancel,List.getElem?_append_right (Nat.le_refl _),Nat.sub_self]
 rfl
end Go.Proofs.YthcjikpabpgpfaaGreat
namespace Go.Proofs.YthcjikpabpgpfaaGreat
open Go.RowKit Go.Maps Go.WideMaps
def bigD (l:List (Nm×Nm)):Nat→Nat
 | 0=>0
 | k+1=>bigD l k+(5+min (l.getD k ([],[])).1.length 3000+min (l.getD k ([],[])).2.length 3000)
theorem bigD_in {l:List (Nm×Nm)}:∀ {n:Nat},n≤l.length→bigD l n < 3000→n≤600∧textN (l.take n)≤bigD l n∧∀ p∈l.take n,p.1.length < 3000∧p.2.length < 3000
 | 0,_,_=>by simp [textN,bigD]
 | n+1,hn,h=>by
  have hx:l[n]?=some (l[n]'(by omega)):=List.getElem?_eq_getElem _
  have hd:l.getD n ([],[])=l[n]'(by omega):=by rw [List.getD_eq_getElem?_getD,hx];rfl
  rw [bigD,hd] at h ⊢
  obtain ⟨h1,h2,h3⟩:=bigD_in (l:=l) (n:=n) (by omega) (by omega)
  have e:l.take (n+1)=l.take n++[l[n]'(by omega)]:=by rw [List.take_add_one,hx];rfl
  have hsum:n * 5≤bigD l n:=by
   clear h h1 h2 h3 e hd hx hn
   induction n with
   | zero=>simp
   | succ n ih=>rw [bigD];omega
  refine ⟨by omega,?_,fun p hp=>?_⟩
  ·rw [e]
   unfold textN at h2 ⊢
   rw [List.map_append,List.sum_append]
   simp only [List.map_cons,List.map_nil,List.sum_cons,List.sum_nil]
   omega
  ·rw [e] at hp
   rcases List.mem_append.1 hp with hp | hp
   ·exact h3 p hp
   ·rw [List.mem_singleton.1 hp]
    omega
structure SmallD (l:List (Nm×Nm)):Prop where
 few:l.length≤600
 text:textN l≤3000
 each:∀ p∈l,p.1.length < 3000∧p.2.length < 3000
theorem smallD {l:List (Nm×Nm)} (h:bigD l l.length < 3000):SmallD l:=by
 obtain ⟨h1,h2,h3⟩:=bigD_in (Nat.le_refl l.length) h
 rw [List.take_length] at h2 h3
 exact ⟨h1,by omega,h3⟩
theorem sgGreat_any (w:World) (P A:Option Addr) (p cp n c:Nat) (l:List (Nm×Nm)) (hp63:p≤9223372036854775807) (h:DocsIn w A n l):Calls Tryz.prog 10 #[.slice P p cp,.slice A n c] w fun e w'=>∃ r,e=.returned (.bool r)∧(∃ q,w'=w.drewN q)∧(r=false→p≤60∧SmallD l):=by
 have HP:=Lib.hid h
 have hn63:=h.fit
 have hlen:=h.len
 have HLEN:=Lib.hid hlen
 unfold maxLen at hn63
 clear h hlen
 go_enter Tryz.func10,Tryz.ntmps10
 go_wp2
 go_loopw [5,6] (fun v i wr=>∃ k N q:Nat,k≤n∧v=.int .i64 N∧i=.int .i64 k∧wr=w.drewN q∧(N=p∨N≤9005)∧N=p+bigD l k) (fun _ i _=>n - (intOf i).toNat)
 case atStart=>exact ⟨0,p,0,by omega,rfl,rfl,rfl,.inl rfl,rfl⟩
 case round=>
  obtain ⟨k,N,q,hk,rfl,rfl,hwr,h1,h3⟩:=hrel
  have H3:=Lib.hid h3
  have HWR:=Lib.hid hwr
  clear h3 hwr
  by_cases hkn:k < n
  ·have d1:decide ((k:Int) < (n:Int))=true:=by simpa using hkn
   by_cases hN:N < 3000
   ·have d2:decide ((N:Int) < 3000)=true:=by simp;omega
    have p0:(0:Int)≤(k:Int):=by omega
    have p1:(k:Int) < (n:Int):=by omega
    obtain ⟨pa,x,rfl,hx,a1,a2,hv1,hv2⟩:=HP.out.at k hkn
    have hpx:l.getD k ([],[])=x:=by rw [List.getD_eq_getElem?_getD,hx];rfl
    obtain ⟨xk,xt⟩:=x
    simp only at a1 a2 hv1 hv2
    unfold maxLen at hv1 hv2
    have z1:=str_size xk
    have z2:=str_size xt
    obtain ⟨S1,hS1⟩:∃ S1,S1=xk.length:=⟨_,rfl⟩
    obtain ⟨S2,hS2⟩:∃ S2,S2=xt.length:=⟨_,rfl⟩
    rw [← hS1] at z1 hv1
    rw [← hS2] at z2 hv2
    obtain ⟨E1,hE1⟩:∃ E1:Nat,E1=min S1 3000:=⟨_,rfl⟩
    obtain ⟨E2,hE2⟩:∃ E2:Nat,E2=min S2 3000:=⟨_,rfl⟩
    have hm1:∀ w ty,(Builtin.min_ #[3,3] ty #[.int .i64 (S1:Int),.int .i64 3000]).run Tryz.prog w=.ok (.int .i64 (E1:Int)) w:=fun w ty=>by
     rw [Lib.run_min_ints,show min (S1:Int) 3000=(E1:Int) by omega]
    have hm2:∀ w ty,(Builtin.min_ #[3,3] ty #[.int .i64 (S2:Int),.int .i64 3000]).run Tryz.prog w=.ok (.int .i64 (E2:Int)) w:=fun w ty=>by
     rw [Lib.run_min_ints,show min (S2:Int) 3000=(E2:Int) by omega]
    have e1:E1≤3000:=by omega
    have e2:E2≤3000:=by omega
    have hw1:IntKind.i64.wrap ((N:Int)+5)=((N+5:Nat):Int):=by rw [IntWalk.i64_in _ (by omega)];push_cast;rfl
    have hw2:IntKind.i64.wrap (((N+5:Nat):Int)+(E1:Int))=((N+5+E1:Nat):Int):=by rw [IntWalk.i64_in _ (by omega)];push_cast;rfl
    have hw2':IntKind.i64.wrap (((N+5+E1:Nat):Int)+(E2:Int))=((N+5+E1+E2:Nat):Int):=by rw [IntWalk.i64_in _ (by omega)];push_cast;rfl
    have hw3:IntKind.i64.wrap ((k:Int)+1)=(k:Int)+1:=IntWalk.i64_in _ (by omega)
    have HNX:Hid (N+5+E1+E2=p+bigD l (k+1)):=Lib.hid (by have:=H3.out;simp only [bigD,hpx];omega)
    clear hx hpx hS1 hS2 hE1 hE2
    have a1w:∀ k',(wr.drewN k').cell? (pa.add (k * 2))=some (.string ⟨xk.toArray⟩):=fun k'=>by rw [HWR.out];exact a1
    have a2w:∀ k',(wr.drewN k').cell? ⟨(pa.add (k * 2)).block,(pa.add (k * 2)).off+1,none⟩=some (.string ⟨xt.toArray⟩):=fun k'=>by rw [HWR.out];exact a2
    clear a1 a2
    go_upto_region 5 with fail
    go_quiet (fail)
    go_wp2
    go_roundw
    case rel=>exact ⟨k+1,N+5+E1+E2,_,by omega,by go_num,by go_num,by rw [HWR.out,World.drewN_drewN],.inr (by omega),HNX.out⟩
    case measure=>simp [intOf];omega
   ·have d2:decide ((N:Int) < 3000)=false:=by simp;omega
    have d3:decide ((3000:Int)≤(N:Int))=true:=by simp;omega
    go_wp2
    go_ret
    exact ⟨true,rfl,⟨q,HWR.out⟩,fun e=>by cases e⟩
  ·have d1:decide ((k:Int) < (n:Int))=false:=by simpa using hkn
   by_cases hN:N < 3000
   ·have d3:decide ((3000:Int)≤(N:Int))=false:=by simp;omega
    obtain ⟨r,hr⟩:∃ r:Bool,r=decide ((60:Int) < (p:Int)):=⟨_,rfl⟩
    have hfin:r=false→p≤60∧SmallD l:=fun e=>by
     rw [e] at hr
     have h5:=of_decide_eq_false hr.symm
     have h4:=H3.out
     rw [show k=l.length by rw [HLEN.out];omega] at h4
     exact ⟨by omega,smallD (by omega)⟩
    have HFIN:=Lib.hid hfin
    have HRR:=Lib.hid hr.symm
    clear hfin hr
    have d4:=HRR.out
    go_wp2
    go_ret
    exact ⟨r,rfl,⟨q,HWR.out⟩,HFIN.out⟩
   ·have d3:decide ((3000:Int)≤(N:Int))=true:=by simp;omega
    go_wp2
    go_ret
    exact ⟨true,rfl,⟨q,HWR.out⟩,fun e=>by cases e⟩
def docVs (p:Nm×Nm):List Value:=[.string ⟨p.1.toArray⟩,.string ⟨p.2.toArray⟩]
theorem docVs_at:∀ (l:List (Nm×Nm)) (i j:Nat) (p:Nm×Nm) (u:Value),l[i]?=some p→(docVs p)[j]?=some u→(l.flatMap docVs)[i * 2+j]?=some u
 | [],i,j,p,u,h,_=>by simp at h
 | a :: r,0,j,p,u,h,h2=>by
  simp at h
  subst h
  rw [List.flatMap_cons,List.getElem?_append_left (by have:=(List.getElem?_eq_some_iff.1 h2).1;omega)]
  simpa using h2
 | a :: r,i+1,j,p,u,h,h2=>by
  have hl:(docVs a).length=2:=rfl
  rw [List.flatMap_cons,List.getElem?_append_right (by omega),hl,show (i+1) * 2+j - 2=i * 2+j by omega]
  exact docVs_at r i j p u (by simpa using h) h2
theorem zero_add (g k:Nat):(⟨g,0,none⟩:Addr).add k=⟨g,k,none⟩:=by
 unfold Addr.add
 split
 ·rename_i h0;rw [h0]
 ·simp
theorem DocsIn.ofRow {w:World} {base n c:Nat} {e:TypeId} {A:Option Addr} {l:List (Nm×Nm)} (h:w.ownsRow base e 2 (.slice A n c) n (l.flatMap docVs)) (hn:l.length=n) (h63:n≤maxLen) (hv:∀ p∈l,p.1.length≤maxLen∧p.2.length≤maxLen):DocsIn w A n l where
 len:=hn
 fit:=h63
 vals:=hv
 nil:=fun e1=>by
  rcases h.2 with ⟨_,h0⟩ | ⟨g,cap,cur,h1,_⟩
  ·exact h0
  ·rw [e1] at h1;cases h1
 cells:=fun ad e1 i p hp=>by
  subst e1
  have hz:ad=⟨ad.block,0,none⟩:=by
   rcases h.2 with ⟨h1,_⟩ | ⟨g,cap,cur,h1,_⟩
   ·cases h1
   ·cases h1;rfl
  have hc:=fun j u (hj:(docVs p)[j]?=some u)=>h.cells (g:=ad.block) rfl (i * 2+j) u (docVs_at l i j p u hp hj)
  have c0:=hc 0 _ rfl
  have c1:=hc 1 _ rfl
  rw [hz,zero_add,zero_add]
  rw [zero_add] at c0 c1
  exact ⟨c0,c1⟩
end Go.Proofs.YthcjikpabpgpfaaGreat
