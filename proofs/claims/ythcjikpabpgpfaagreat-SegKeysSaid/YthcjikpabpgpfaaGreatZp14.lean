import Derived.Test.YthcjikpabpgpfaaGreatZp0
import Derived.Test.YthcjikpabpgpfaaGreatZp11
import Derived.Test.YthcjikpabpgpfaaGreatZp12
import Derived.Test.YthcjikpabpgpfaaGreatZp7
import Derived.Maps.OwnRows
import Derived.Maps.GroupsBeside
import Derived.Lib.SlKeysI
set_option linter.unusedSimpArgs false
set_option maxHeartbeats 16000000
set_option maxRecDepth 100000
namespace Go.Proofs.YthcjikpabpgpfaaGreat
theorem mD_get {L:List MDoc} {i:Nat} (h:i < L.length):L[i]?=some (mD L i):=by
 unfold mD
 rw [List.getD_eq_getElem?_getD,List.getElem?_eq_getElem h]
 rfl
theorem spots_none {x:MDoc} {t:Int} (h:(mSpots x t).length=0):t ∉ x.T:=fun hm=>by
 obtain ⟨k,hk,rfl⟩:=List.getElem_of_mem hm
 have h1:((k:Int),x.S.getD k 0)∈mSpots x x.T[k]:=spotUp_mem.2 ⟨k,hk,by rw [List.getD_eq_getElem?_getD,List.getElem?_eq_getElem hk];rfl,rfl⟩
 have:=List.length_pos_of_mem h1
 omega
theorem spots_some {x:MDoc} {t:Int} (h:0 < (mSpots x t).length):t∈x.T:=by
 obtain ⟨s,hs⟩:=List.exists_mem_of_length_pos h
 obtain ⟨k,hk,h1,-⟩:=spotUp_mem.1 hs
 rw [← h1,List.getD_eq_getElem?_getD,List.getElem?_eq_getElem hk]
 exact List.getElem_mem hk
theorem postUp_pos {L:List MDoc} {t:Int}:∀ {i:Nat},i≤L.length→(0 < (postUp L t i).length↔∃ y∈L.take i,t∈y.T)
 | 0,_=>by simp [postUp]
 | i+1,h=>by
  rw [postUp,List.length_append,List.take_add_one,mD_get (by omega)]
  have ih:=postUp_pos (L:=L) (t:=t) (i:=i) (by omega)
  unfold postOne
  by_cases h0:0 < (mSpots (mD L i) t).length
  ·rw [if_pos h0]
   refine ⟨fun _=>⟨mD L i,by simp,spots_some h0⟩,fun _=>by simp⟩
  ·rw [if_neg h0]
   rw [List.length_nil,Nat.add_zero,ih]
   refine ⟨fun ⟨y,h1,h2⟩=>⟨y,by simp [h1],h2⟩,fun ⟨y,h1,h2⟩=>?_⟩
   rcases List.mem_append.1 h1 with h3 | h3
   ·exact ⟨y,h3,h2⟩
   ·simp at h3
    subst h3
    exact absurd h2 (spots_none (by omega))
theorem posts_pos (L:List MDoc) (t:Int):decide (0 < (mPosts L t).length)=decide (t∈mTerms L):=by
 rw [Bool.eq_iff_iff,decide_eq_true_iff,decide_eq_true_iff,terms_mem]
 unfold mPosts
 rw [postUp_pos (Nat.le_refl _),List.take_length]
theorem spot_count (x:MDoc) (t:Int):∀ k,k≤x.T.length→(spotUp x t k).length=(x.T.take k).count t
 | 0,_=>by simp [spotUp]
 | k+1,h=>by
  have ih:=spot_count x t k (by omega)
  have h1:x.T[k]?=some (x.T.getD k 0):=by rw [List.getD_eq_getElem?_getD,List.getElem?_eq_getElem (by omega)];rfl
  rw [spotUp,List.take_add_one,h1,List.count_append]
  by_cases e:x.T.getD k 0=t
  ·rw [if_pos e,List.length_append,ih,e]
   simp
  ·rw [if_neg e,ih]
   have h2:List.count t (some (x.T.getD k 0)).toList=0:=List.count_eq_zero.2 (by simp;exact fun h=>e h.symm)
   rw [h2]
   rfl
theorem spots_count (x:MDoc) (t:Int):(mSpots x t).length=x.T.count t:=by
 unfold mSpots
 rw [spot_count x t _ (Nat.le_refl _),List.take_length]
def spotsOf (l:List Pst):Nat:=(l.map fun p=>p.2.length).sum
theorem posts_count (L:List MDoc) (t:Int):∀ k,k≤L.length→spotsOf (postUp L t k)=((L.take k).map fun x=>x.T.count t).sum
 | 0,_=>by simp [postUp,spotsOf]
 | k+1,h=>by
  have ih:=posts_count L t k (by omega)
  unfold spotsOf at ih
  rw [postUp,List.take_add_one,mD_get (by omega)]
  unfold spotsOf
  rw [List.map_append,List.map_append,List.sum_append,List.sum_append,ih]
  unfold postOne
  have hc:=spots_count (mD L k) t
  split
  ·simp [hc]
  ·simp
   omega
theorem count_all:∀ (T l:List Int),l.Nodup→(∀ a∈T,a∈l)→(l.map fun t=>T.count t).sum=T.length
 | [],l,_,_=>by
  rw [show (fun t:Int=>List.count t [])=fun _=>0 by funext t;simp]
  induction l with
  | nil=>rfl
  | cons a r ih=>simp_all
 | a :: T,l,hn,hm=>by
  have ih:=count_all T l hn (fun b hb=>hm b (List.mem_cons_of_mem _ hb))
  have h1:∀ m:List Int,(m.map fun t=>(a :: T).count t).sum=(m.map fun t=>T.count t).sum+m.count a:=fun m=>by
   induction m with
   | nil=>rfl
   | cons b r ih2=>
    rw [List.map_cons,List.sum_cons,ih2,List.map_cons,List.sum_cons,List.count_cons,List.count_cons]
    by_cases e:a=b
    ·subst e
     simp
     omega
    ·have e2:¬ b=a:=fun h=>e h.symm
     simp [e,e2]
     omega
  rw [h1,ih,hn.count (a:=a),if_pos (hm a (List.mem_cons_self ..))]
  rfl
theorem sum_swap {α:Type} (l:List Int) (L:List α) (f:Int→α→Nat):(l.map fun t=>(L.map fun x=>f t x).sum).sum=(L.map fun x=>(l.map fun t=>f t x).sum).sum:=by
 induction L with
 | nil=>
  simp only [List.map_nil,List.sum_nil]
  induction l with
  | nil=>rfl
  | cons a r ih=>simp_all
 | cons x r ih=>
  simp only [List.map_cons,List.sum_cons]
  rw [← ih]
  clear ih
  induction l with
  | nil=>rfl
  | cons a s ih2=>
   simp only [List.map_cons,List.sum_cons]
   omega
theorem terms_count (L:List MDoc):((mTerms L).map fun t=>spotsOf (mPosts L t)).sum=totT L:=by
 have hn:(mTerms L).Nodup:=(terms_up L).imp fun h=>by omega
 have h1:(fun t=>spotsOf (mPosts L t))=fun t=>(L.map fun x=>x.T.count t).sum:=by
  funext t
  unfold mPosts
  rw [posts_count L t _ (Nat.le_refl _),List.take_length]
 rw [h1,sum_swap]
 unfold totT
 congr 1
 refine List.map_congr_left fun x hx=>count_all x.T _ hn fun a ha=>terms_mem.2 ⟨x,hx,ha⟩
abbrev Pl:=Int×Int×Int
def plUp (x:MDoc) (t:Int) (k:Nat):List Pl:=(spotUp x t k).map fun s=>(x.doc,s)
def plOf (L:List MDoc) (t:Int):List Pl:=L.flatMap fun x=>plUp x t x.T.length
theorem plUp_next (x:MDoc) (t:Int) (k:Nat):plUp x t (k+1)=if x.T.getD k 0=t then plUp x t k++[(x.doc,(k:Int),x.S.getD k 0)] else plUp x t k:=by
 unfold plUp
 rw [spotUp]
 split
 ·rw [List.map_append];rfl
 ·rfl
theorem plUp_len (x:MDoc) (t:Int) (k:Nat):(plUp x t k).length≤k:=by
 unfold plUp
 rw [List.length_map]
 exact spotUp_len x t k
theorem plOf_append (L:List MDoc) (x:MDoc) (t:Int):plOf (L++[x]) t=plOf L t++plUp x t x.T.length:=by
 unfold plOf
 rw [List.flatMap_append,List.flatMap_singleton]
theorem plOf_len (L:List MDoc) (t:Int):(plOf L t).length≤totT L:=by
 induction L with
 | nil=>simp [plOf]
 | cons x L ih=>
  have h1:=plUp_len x t x.T.length
  have h2:plOf (x :: L) t=plUp x t x.T.length++plOf L t:=rfl
  have h3:totT (x :: L)=x.T.length+totT L:=by simp [totT]
  rw [h2,List.length_append]
  omega
theorem plUp_some {x:MDoc} {t:Int}:plUp x t x.T.length≠[]↔t∈x.T:=by
 constructor
 ·intro h
  obtain ⟨p,hp⟩:=List.exists_mem_of_ne_nil _ h
  obtain ⟨s,hs,-⟩:=List.mem_map.1 hp
  obtain ⟨i,h1,h2,-⟩:=spotUp_mem.1 hs
  rw [← h2,List.getD_eq_getElem?_getD,List.getElem?_eq_getElem h1]
  exact List.getElem_mem h1
 ·intro h e
  obtain ⟨i,h1,h2⟩:=List.getElem_of_mem h
  have h3:((i:Int),x.S.getD i 0)∈spotUp x t x.T.length:=spotUp_mem.2 ⟨i,h1,by rw [List.getD_eq_getElem?_getD,List.getElem?_eq_getElem h1];exact h2,rfl⟩
  have h4:(x.doc,(i:Int),x.S.getD i 0)∈plUp x t x.T.length:=List.mem_map.2 ⟨_,h3,rfl⟩
  rw [e] at h4
  cases h4
theorem plOf_some {L:List MDoc} {t:Int}:plOf L t≠[]↔t∈mTerms L:=by
 rw [terms_mem]
 induction L with
 | nil=>simp [plOf]
 | cons x L ih=>
  have h2:plOf (x :: L) t=plUp x t x.T.length++plOf L t:=rfl
  rw [h2]
  constructor
  ·intro h
   by_cases h3:plUp x t x.T.length=[]
   ·rw [h3,List.nil_append] at h
    obtain ⟨y,hy,h4⟩:=ih.1 h
    exact ⟨y,List.mem_cons_of_mem _ hy,h4⟩
   ·exact ⟨x,List.mem_cons_self ..,plUp_some.1 h3⟩
  ·rintro ⟨y,hy,h4⟩ e
   obtain ⟨e1,e2⟩:=List.append_eq_nil_iff.1 e
   rcases List.mem_cons.1 hy with rfl | h5
   ·exact plUp_some.2 h4 e1
   ·exact ih.2 ⟨y,h5,h4⟩ e2
def grp1 (l:List Pst) (p:Pl):List Pst:=match l.getLast? with
 | none=>[(p.1,[p.2])]
 | some x=>if x.1=p.1 then l.dropLast++[(x.1,x.2++[p.2])] else l++[(p.1,[p.2])]
theorem grp1_nil (p:Pl):grp1 [] p=[(p.1,[p.2])]:=rfl
theorem grp1_same {P:List Pst} {x:Pst} {p:Pl} (h:x.1=p.1):grp1 (P++[x]) p=P++[(x.1,x.2++[p.2])]:=by
 unfold grp1
 rw [List.getLast?_concat]
 simp only [if_pos h,List.dropLast_concat]
theorem grp1_other {P:List Pst} {x:Pst} {p:Pl} (h:x.1≠p.1):grp1 (P++[x]) p=(P++[x])++[(p.1,[p.2])]:=by
 unfold grp1
 rw [List.getLast?_concat]
 simp only [if_neg h]
theorem last_split:∀ (l:List Pst),l=[]∨∃ P x,l=P++[x]:=fun l=>by
 rcases List.eq_nil_or_concat l with h | ⟨P,x,h⟩
 ·exact .inl h
 ·exact .inr ⟨P,x,by simpa using h⟩
def grpUp (ps:List Pl):List Pst:=ps.foldl grp1 []
theorem grpUp_next {ps:List Pl} {k:Nat} {p:Pl} (h:ps[k]?=some p):grpUp (ps.take (k+1))=grp1 (grpUp (ps.take k)) p:=by
 unfold grpUp
 rw [List.take_add_one,h,List.foldl_append]
 rfl
theorem grp1_len (l:List Pst) (p:Pl):(grp1 l p).length≤l.length+1:=by
 rcases last_split l with rfl | ⟨P,x,rfl⟩
 ·rw [grp1_nil];simp
 ·by_cases h:x.1=p.1
  ·rw [grp1_same h];simp
  ·rw [grp1_other h];simp
theorem grp_small (ps:List Pl):∀ k,k≤ps.length→(grpUp (ps.take k)).length≤k∧∀ x∈grpUp (ps.take k),x.2.length≤k
 | 0,_=>by simp [grpUp]
 | k+1,hk=>by
  obtain ⟨h1,h2⟩:=grp_small ps k (by omega)
  rw [grpUp_next (List.getElem?_eq_getElem (by omega:k < ps.length))]
  refine ⟨by have:=grp1_len (grpUp (ps.take k)) ps[k];omega,fun y hy=>?_⟩
  rcases last_split (grpUp (ps.take k)) with e | ⟨P,x,e⟩
  ·rw [e,grp1_nil] at hy
   rw [List.mem_singleton.1 hy]
   simp
  ·rw [e] at hy h2
   by_cases h:x.1=(ps[k]).1
   ·rw [grp1_same h] at hy
    rcases List.mem_append.1 hy with hy | hy
    ·have:=h2 y (by simp [hy]);omega
    ·have:=h2 x (by simp)
     rw [List.mem_singleton.1 hy]
     simp;omega
   ·rw [grp1_other h] at hy
    rcases List.mem_append.1 hy with hy | hy
    ·have:=h2 y hy;omega
    ·rw [List.mem_singleton.1 hy]
     simp
theorem grp_doc {P:List Pst} {x:MDoc} {t:Int} (hP:∀ y∈P,y.1≠x.doc):∀ k,(plUp x t k).foldl grp1 P=if spotUp x t k=[] then P else P++[(x.doc,spotUp x t k)]
 | 0=>by simp [plUp,spotUp]
 | k+1=>by
  have ih:=grp_doc hP (t:=t) k
  rw [plUp_next,spotUp]
  split
  ·rw [List.foldl_append,ih]
   simp only [List.foldl_cons,List.foldl_nil]
   rw [if_neg (by simp:¬ (spotUp x t k++[((k:Int),x.S.getD k 0)]=[]))]
   by_cases h:spotUp x t k=[]
   ·rw [if_pos h,h]
    rcases last_split P with rfl | ⟨Q,y,rfl⟩
    ·rfl
    ·rw [grp1_other (hP y (by simp))]
     rfl
   ·rw [if_neg h,grp1_same rfl]
  ·exact ih
theorem grp_docs {L:List MDoc} (hL:MWF L) (t:Int):∀ i,i≤L.length→(plOf (L.take i) t).foldl grp1 []=postUp L t i
 | 0,_=>by simp [plOf,postUp]
 | i+1,hi=>by
  have hx:L[i]?=some (L[i]'(by omega)):=List.getElem?_eq_getElem _
  have ih:=grp_docs hL t i (by omega)
  rw [List.take_add_one,hx,Option.toList_some,plOf_append,List.foldl_append,ih,postUp,mD_at hx,grp_doc (fun y hy e=>?_)]
  ·unfold postOne mSpots
   by_cases h:spotUp L[i] t L[i].T.length=[]
   ·rw [if_pos h,if_neg (by rw [h];simp),List.append_nil]
   ·rw [if_neg h,if_pos (List.length_pos_iff.2 h)]
  ·obtain ⟨j,h1,rfl,-⟩:=mposts_from hy
   have:=hL.up j i h1 (by omega)
   rw [mD_at hx] at this
   simp only at e
   omega
theorem grp_posts {L:List MDoc} (hL:MWF L) (t:Int):grpUp (plOf L t)=mPosts L t:=by
 have:=grp_docs hL t L.length (Nat.le_refl _)
 rw [List.take_length] at this
 exact this
theorem plUp_fit {x:MDoc} (hx:DocOk x) {t:Int} {p:Pl}:∀ {k:Nat},k≤x.T.length→p∈plUp x t k→(0≤p.1∧p.1≤4294967296)∧(0≤p.2.1∧p.2.1 < 4096)∧0≤p.2.2∧p.2.2≤9223372036854775807:=fun {k} hk h=>by
 obtain ⟨s,hs,rfl⟩:=List.mem_map.1 h
 obtain ⟨i,h1,h2,rfl⟩:=spotUp_mem.1 hs
 have h3:=hx.tok (i:=i) (by omega)
 have h4:x.S.getD i 0∈x.S:=by
  have:=hx.same
  rw [List.getD_eq_getElem?_getD,List.getElem?_eq_getElem (by omega)]
  exact List.getElem_mem _
 have h5:=hx.fit.2 _ h4
 have:=hx.few
 exact ⟨hx.doc,⟨by simp,by simp;omega⟩,h3.2,h5⟩
theorem plOf_fit {L:List MDoc} (hL:MWF L) {t:Int} {p:Pl} (h:p∈plOf L t):(0≤p.1∧p.1≤4294967296)∧(0≤p.2.1∧p.2.1 < 4096)∧0≤p.2.2∧p.2.2≤9223372036854775807:=by
 obtain ⟨x,hx,h2⟩:=List.mem_flatMap.1 h
 exact plUp_fit (hL.ok x hx) (Nat.le_refl _) h2
theorem lastM_at {L:List MDoc} (h:0 < L.length):lastM L=(mD L (L.length - 1)).doc:=by
 unfold lastM
 rw [if_neg (by omega)]
theorem lastM_low {L:List MDoc} (hL:MWF L):-1≤lastM L∧lastM L≤4294967296:=by
 unfold lastM
 split
 ·omega
 ·have:=(hL.ok _ (mD_mem (by omega:L.length - 1 < L.length))).doc
  omega
theorem mErr_is {L:List MDoc} (hL:MWF L) (x:MDoc):mErr L x=if L.length=4096∨4096 < x.T.length then 2 else if x.doc < lastM L+1∨4294967296 < x.doc∨x.T.length≠x.S.length∨badTo x x.T.length=true then 1 else 0:=by
 have h1:=hL.few
 unfold mErr
 by_cases h2:L.length=4096∨4096 < x.T.length
 ·rw [if_pos h2,if_pos (by omega)]
 ·rw [if_neg h2,if_neg (by omega)]
  have h3:(x.doc < 0∨4294967296 < x.doc∨(0 < L.length∧x.doc≤(mD L (L.length - 1)).doc))↔(x.doc < lastM L+1∨4294967296 < x.doc):=by
   rcases Nat.eq_zero_or_pos L.length with h0 | h0
   ·unfold lastM
    rw [if_pos h0]
    omega
   ·rw [lastM_at h0]
    have:=(hL.ok _ (mD_mem (by omega:L.length - 1 < L.length))).doc
    omega
  by_cases h4:x.doc < lastM L+1∨4294967296 < x.doc
  ·have h5:=h3.2 h4
   rw [if_pos (by omega),if_pos (by omega)]
  ·have h5:=fun h=>h4 (h3.1 h)
   by_cases h6:x.T.length≠x.S.length
   ·rw [if_pos (by omega),if_pos (by omega)]
   ·rw [if_neg (by omega)]
    by_cases h7:badTo x x.T.length=true
    ·rw [if_pos h7,if_pos (.inr (.inr (.inr h7)))]
    ·rw [if_neg h7,if_neg (by rintro (h | h | h | h) <;> first | exact h7 h | omega)]
theorem lastM_next {L:List MDoc} {x:MDoc}:lastM (L++[x])=x.doc:=by
 rw [lastM_at (by simp),List.length_append,List.length_singleton,Nat.add_sub_cancel,mD_last]
end Go.Proofs.YthcjikpabpgpfaaGreat
namespace Go.Proofs.YthcjikpabpgpfaaGreat
open Go.RowKit Go.Maps Go.WideMaps
def plCells (p:Pl):List Value:=[.int .i64 p.1,.int .i64 p.2.1,.int .i64 p.2.2]
theorem pl_at:∀ (l:List Pl) (i j:Nat) (p:Pl) (u:Value),l[i]?=some p→(plCells p)[j]?=some u→(l.flatMap plCells)[i * 3+j]?=some u
 | [],i,j,p,u,h,_=>by simp at h
 | a :: r,0,j,p,u,h,h2=>by
  simp at h
  subst h
  rw [List.flatMap_cons,List.getElem?_append_left (by have:=(List.getElem?_eq_some_iff.1 h2).1;omega)]
  simpa using h2
 | a :: r,i+1,j,p,u,h,h2=>by
  have hl:(plCells a).length=3:=rfl
  rw [List.flatMap_cons,List.getElem?_append_right (by omega),hl,show (i+1) * 3+j - 3=i * 3+j by omega]
  exact pl_at r i j p u (by simpa using h) h2
theorem pl_one (p:Pl):∀ u∈plCells p,u.oneCell'=true:=fun u hu=>by
 simp [plCells] at hu
 rcases hu with rfl | rfl | rfl <;> rfl
theorem pl_new {w:World} {g:Nat} {e:TypeId} {p:Pl} (h:Blk w g e #[.int .i64 p.1,.int .i64 p.2.1,.int .i64 p.2.2]):∀ (j:Nat) (u:Value),(plCells p)[j]?=some u→w.cell? ((⟨g,0,none⟩:Addr).add j)=some u:=by
 intro j u hu
 match j with
 | 0=>simp [plCells] at hu;subst hu;exact h.cell 0
 | 1=>simp [plCells] at hu;subst hu;exact h.cell 1
 | 2=>simp [plCells] at hu;subst hu;exact h.cell 2
 | j+3=>simp [plCells] at hu
def OwnPl (w:World) (base:Nat) (v:Value) (ps:List Pl):Prop:=w.ownsRow base 165 3 v ps.length (ps.flatMap plCells)
theorem OwnPl.at {w:World} {base:Nat} {A:Option Addr} {n c:Nat} {ps:List Pl} (h:OwnPl w base (.slice A n c) ps) (k:Nat) (hk:k < ps.length):
  ∃ ad p,A=some ad∧ps[k]?=some p∧w.cell? (ad.add (k * 3))=some (.int .i64 p.1)∧w.cell? ⟨(ad.add (k * 3)).block,(ad.add (k * 3)).off+1,none⟩=some (.int .i64 p.2.1)∧w.cell? ⟨(ad.add (k * 3)).block,(ad.add (k * 3)).off+2,none⟩=some (.int .i64 p.2.2):=by
 unfold OwnPl at h
 have hx:ps[k]?=some (ps[k]'(by omega)):=List.getElem?_eq_getElem _
 rcases h.2 with ⟨_,h0⟩ | ⟨g,cap,cur,h1,_⟩
 ·omega
 ·simp only [Value.slice.injEq] at h1
  obtain ⟨rfl,rfl,rfl⟩:=h1
  have hc:=fun j u (hj:(plCells ps[k])[j]?=some u)=>h.cells (g:=g) rfl (k * 3+j) u (pl_at ps k j _ u hx hj)
  have c0:=hc 0 _ rfl
  have c1:=hc 1 _ rfl
  have c2:=hc 2 _ rfl
  rw [add_pos' _ _ _ (by omega)] at c1 c2
  exact ⟨_,_,rfl,hx,c0,c1,c2⟩
def anyElem:Value→Option (DataW Unit×List MemPlace):=fun _=>some (.lit (.bool true),[])
theorem pIntLaw:Keyed Tryz.prog 3:=int_keyed Tryz.underlying3
theorem p64 {x:Int} (h:fits64 x):(Lit.int .i64 x).wf=true:=by
 obtain ⟨h1,h2⟩:=h
 simp [Lit.wf,IntKind.min,IntKind.max,IntKind.signed,IntKind.bits]
 omega
theorem p64key {x:Int} (h:fits64 x):keyOf Tryz.prog 3 (.int .i64 x)=some (.int .i64 x):=Maps.keyOf_int_mk Tryz.underlying3 (p64 h)
theorem zeroPls (w:World):(zeroValue 154).run Tryz.prog w=.ok (.slice none 0 0) w:=by kernel_rfl
theorem v64_inj {c d:Int} (h:Value.int .i64 c=.int .i64 d):c=d:=(Value.int.inj h).2
theorem p64_inj {c d:Int} (h:Lit.int .i64 c=.int .i64 d):c=d:=by injection h
def markD (b:Bool):DataW Unit:=if b then .lit (.bool true) else .nil
structure KeysD (D:DataW Unit) (f:Int→List Pl):Prop where
 isMap:IsMap D
 at_:∀ t:Int,D.atKey (.int .i64 t) .nil=markD (decide (f t≠[]))
 has:∀ t:Int,Maps.has D (.int .i64 t)=decide (f t≠[])
theorem KeysD.nil:KeysD (.map []) fun _=>[]:=⟨isMap_empty,fun _=>rfl,fun _=>rfl⟩
def plPut (f:Int→List Pl) (t:Int) (p:Pl):Int→List Pl:=fun u=>if u=t then f u++[p] else f u
theorem KeysD.put {D:DataW Unit} {f:Int→List Pl} (h:KeysD D f) (t:Int) (p:Pl):KeysD (D.put (.int .i64 t) (.lit (.bool true))) (plPut f t p):=by
 refine ⟨h.isMap.put _ _,fun u=>?_,fun u=>?_⟩
 ·by_cases e:u=t
  ·subst e
   rw [atKey_put_same h.isMap (show WideAt.IsKeyLit (.int .i64 u) from trivial)]
   simp [plPut,markD]
  ·rw [atKey_put_other (fun e2=>e (p64_inj e2)),h.at_]
   simp only [plPut,if_neg e]
 ·by_cases e:u=t
  ·subst e
   rw [has_put_same h.isMap (show WideAt.IsKeyLit (.int .i64 u) from trivial)]
   simp [plPut]
  ·rw [has_put_other (fun e2=>e (p64_inj e2)),h.has]
   simp only [plPut,if_neg e]
structure EntOk (w:World) (mb:Nat) (f:Int→List Pl) (G:Nat→Prop) (x:MapEntry):Prop where
 own:∃ t:Int,x.key=.int .i64 t∧OwnPl w (mb+1) x.val (f t)
 inG:∀ g,x.val.ownBlock=some g→G g
def Apart (u v:Value):Prop:=u.ownBlock=none∨u.ownBlock≠v.ownBlock
structure PMap (w:World) (mb n:Nat) (f:Int→List Pl) (G:Nat→Prop):Prop where
 own:∃ D,w.ownsMap Tryz.prog 3 anyElem mb n D∧KeysD D f
 ent:∀ es clock,w.heap[mb]?=some (.map es clock)→(∀ x∈es.toList,EntOk w mb f G x)∧∀ x∈es.toList,∀ y∈es.toList,x.key≠y.key→Apart x.val y.val
 inG:G mb
theorem PMap.lt {w:World} {mb n:Nat} {f:Int→List Pl} {G:Nat→Prop} (h:PMap w mb n f G):mb < w.heap.size:=by
 obtain ⟨D,h1,_⟩:=h.own
 exact h1.lt
theorem PMap.made (w:World):PMap (w.alloc (.map #[] 0)) w.heap.size 0 (fun _=>[]) fun i=>i=w.heap.size where
 own:=⟨_,World.ownsMap_made w _ _ _,KeysD.nil⟩
 ent:=fun es clock h=>by
  have h1:(w.alloc (.map #[] 0)).heap[w.heap.size]?=some (.map #[] 0):=heap_alloc_new w _
  rw [h1] at h
  obtain ⟨rfl,-⟩:#[]=es∧0=clock:=by simpa using h
  simp
 inG:=rfl
theorem PMap.keep {w w':World} {mb n:Nat} {f:Int→List Pl} {G:Nat→Prop} (h:PMap w mb n f G) (hk:∀ i,G i→w'.heap[i]?=w.heap[i]?):PMap w' mb n f G where
 own:=by
  obtain ⟨D,h1,h2⟩:=h.own
  exact ⟨D,ownsMap_block h1 (hk mb h.inG),h2⟩
 ent:=fun es clock e=>by
  obtain ⟨h1,h2⟩:=h.ent es clock (by rw [← hk mb h.inG];exact e)
  refine ⟨fun x hx=>?_,h2⟩
  obtain ⟨⟨t,q1,q2⟩,q3⟩:=h1 x hx
  exact ⟨⟨t,q1,ownsRow_block q2 fun g hg=>hk g (q3 g hg)⟩,q3⟩
 inG:=h.inG
theorem PMap.lets {w:World} {mb n:Nat} {f g:Int→List Pl} {G G':Nat→Prop} (h:PMap w mb n f G) (e:∀ t,g t=f t) (hG:∀ i,G i→G' i):PMap w mb n g G':=by
 have:g=f:=funext e
 subst this
 exact ⟨h.own,fun es clock hb=>by
  obtain ⟨h1,h2⟩:=h.ent es clock hb
  exact ⟨fun x hx=>⟨(h1 x hx).own,fun j hj=>hG j ((h1 x hx).inG j hj)⟩,h2⟩,hG _ h.inG⟩
theorem PMap.more {w:World} {mb n n':Nat} {f:Int→List Pl} {G:Nat→Prop} (h:PMap w mb n f G) (hn:n≤n'):PMap w mb n' f G:=
 ⟨by obtain ⟨D,h1,h2⟩:=h.own;exact ⟨D,h1.mono hn,h2⟩,h.ent,h.inG⟩
theorem PMap.step {w:World} {mb n:Nat} {f:Int→List Pl} {G:Nat→Prop} (h:PMap w mb n f G) (hn:n < maxLen) {t:Int} (ht:fits64 t):
  ∃ v,(Instr.lookup 153 (.map (some mb)) (.int .i64 t) false).run Tryz.prog w=.ok v w∧OwnPl w (mb+1) v (f t)∧(∀ g,v.ownBlock=some g→G g∧g≠mb)∧
   ∀ (w1:World) (v':Value) (p:Pl),w.grownBy w1 v.ownBlock→w1.ownsRow (mb+1) 165 3 v' ((f t).length+1) ((f t).flatMap plCells++plCells p)→(v'.ownBlock=v.ownBlock∨∃ g,v'.ownBlock=some g∧w.heap.size≤g)→
    ∃ w2,(Instr.mapUpdate 153 (.map (some mb)) (.int .i64 t) v').run Tryz.prog w1=.ok () w2∧PMap w2 mb (n+1) (plPut f t p) (fun i=>G i∨(w.heap.size≤i∧i < w2.heap.size))∧w1.grownBy w2 (some mb):=by
 obtain ⟨D,hM,hD⟩:=h.own
 have hM':=hM
 obtain ⟨es,clock,hb,F,hs,rfl⟩:=hM
 obtain ⟨hent,hap⟩:=h.ent es clock hb
 have hlk:∃ v,(Instr.lookup 153 (.map (some mb)) (.int .i64 t) false).run Tryz.prog w=.ok v w∧OwnPl w (mb+1) v (f t)∧(∀ g,v.ownBlock=some g→G g∧g≠mb)∧∀ x∈es.toList,x.key≠.int .i64 t→Apart x.val v:=by
  rcases Maps.fit_look false pIntLaw Tryz.underlying153 (zeroPls _) hb F (p64key ht) with ⟨hrun,_,hat⟩ | ⟨e0,y,hm0,hk0,hrun,hR,hat,_⟩
  ·have hf:f t=[]:=by
    have h1:=hD.at_ t
    rw [hat] at h1
    unfold markD at h1
    split at h1
    ·cases h1
    ·rename_i h2
     simpa using h2
   refine ⟨.slice none 0 0,hrun,by rw [hf];exact ⟨rfl,.inl ⟨rfl,rfl⟩⟩,fun g hg=>(by cases hg),fun x hx _=>?_⟩
   unfold Apart
   cases x.val.ownBlock with
   | none=>exact .inl rfl
   | some g=>exact .inr (by simp [Value.ownBlock])
  ·obtain ⟨⟨u,q1,q2⟩,q3⟩:=hent e0 hm0
   have hu:u=t:=by rw [hk0] at q1;exact (v64_inj q1).symm
   subst hu
   exact ⟨e0.val,hrun,q2,fun g hg=>⟨q3 g hg,by have:=(World.ownsRow.lt q2 g hg).1;omega⟩,fun x hx hne=>hap x hx e0 hm0 (by rw [hk0];exact hne)⟩
 obtain ⟨v,hrun,hov,hvG,hvA⟩:=hlk
 refine ⟨v,hrun,hov,hvG,fun w1 v' p hgr hown hloc=>?_⟩
 have hmb:mb < w.heap.size:=h.lt
 have hM1:w1.ownsMap Tryz.prog 3 anyElem mb n _:=hM'.kept hgr (fun e=>(hvG mb e.symm).2 rfl)
 obtain ⟨w2,hrun2,r1,r2⟩:=hM1.update pIntLaw Tryz.underlying153 hn (val:=v') (p64key ht) (show anyElem v'=some (.lit (.bool true),[]) from rfl)
 have hb1:w1.heap[mb]?=some (.map es clock):=(hgr.block mb hmb (fun e=>(hvG mb e.symm).2 rfl)).trans hb
 obtain ⟨es',clock',hb2,hwho⟩:=stored_who pIntLaw Tryz.underlying153 hb1 F (Nat.lt_of_le_of_lt hs hn) (p64key ht) hrun2
 have hsz1:=hgr.size
 have hsz2:=r2.size
 have hv'2:w2.ownsRow (mb+1) 165 3 v' ((f t).length+1) ((f t).flatMap plCells++plCells p):=hown.kept r2 (by
  cases e:v'.ownBlock with
  | none=>exact .inl rfl
  | some g=>exact .inr (fun e2=>by have:=(hown.lt g e).1;cases e2;omega))
 have hold:∀ x∈es.toList,x.key≠.int .i64 t→EntOk w2 mb (plPut f t p) (fun i=>G i∨(w.heap.size≤i∧i < w2.heap.size)) x∧Apart x.val v'∧Apart v' x.val:=by
  intro x hx hne
  obtain ⟨⟨u,q1,q2⟩,q3⟩:=hent x hx
  have hu:u≠t:=fun e=>hne (by rw [q1,e])
  have hA:=hvA x hx hne
  refine ⟨⟨⟨u,q1,?_⟩,fun g hg=>.inl (q3 g hg)⟩,?_,?_⟩
  ·unfold plPut
   rw [if_neg hu]
   refine ownsRow_block q2 fun g hg=>?_
   have h1:=World.ownsRow.lt q2 g hg
   have h2:some g≠v.ownBlock:=by
    rcases hA with h3 | h3
    ·rw [h3] at hg;cases hg
    ·rw [hg] at h3;exact h3
   exact (r2.block g (by omega) (fun e=>by cases e;omega)).trans (hgr.block g h1.2 h2)
  ·rcases hloc with e | ⟨j,e,hj⟩
   ·unfold Apart;rw [e];exact hA
   ·cases e2:x.val.ownBlock with
    | none=>exact .inl e2
    | some g=>
     refine .inr (fun e3=>?_)
     have h1:=World.ownsRow.lt q2 g e2
     rw [e,e2] at e3
     cases e3
     omega
  ·rcases hloc with e | ⟨j,e,hj⟩
   ·rcases hA with h3 | h3
    ·cases e4:v'.ownBlock with
     | none=>exact .inl e4
     | some g=>exact .inr (by rw [h3,e4];simp)
    ·exact .inr (by rw [e];exact fun e4=>h3 e4.symm)
   ·refine .inr (fun e3=>?_)
    rw [e] at e3
    have h1:=World.ownsRow.lt q2 _ e3.symm
    omega
 refine ⟨w2,hrun2,⟨⟨_,r1,hD.put t p⟩,fun es2 clock2 hb3=>?_,.inl h.inG⟩,r2⟩
 obtain ⟨rfl,rfl⟩:es'=es2∧clock'=clock2:=by rw [hb2] at hb3;simpa using hb3
 have hnew:∀ x∈es'.toList,x.key=.int .i64 t→x.val=v'→EntOk w2 mb (plPut f t p) (fun i=>G i∨(w.heap.size≤i∧i < w2.heap.size)) x:=fun x _ e1 e2=>by
  refine ⟨⟨t,e1,?_⟩,fun g hg=>?_⟩
  ·rw [e2]
   unfold plPut OwnPl
   rw [if_pos rfl,List.length_append,List.flatMap_append,List.flatMap_singleton]
   exact hv'2
  ·rw [e2] at hg
   have h1:=(hv'2.lt g hg).2
   rcases hloc with e | ⟨j,e,hj⟩
   ·exact .inl (hvG g (by rw [← e];exact hg)).1
   ·rw [hg] at e
    cases e
    exact .inr ⟨hj,h1⟩
 refine ⟨fun x hx=>?_,fun x hx y hy hne=>?_⟩
 ·rcases hwho x hx with ⟨h1,h2⟩ | ⟨h1,h2⟩
  ·exact (hold x h1 h2).1
  ·exact hnew x hx h1 h2
 ·rcases hwho x hx with ⟨h1,h2⟩ | ⟨h1,h2⟩ <;> rcases hwho y hy with ⟨h3,h4⟩ | ⟨h3,h4⟩
  ·exact hap x h1 y h3 hne
  ·rw [h4];exact (hold x h1 h2).2.1
  ·rw [h2];exact (hold y h3 h4).2.2
  ·exact absurd (h1.trans h3.symm) hne
theorem PMap.keys {w:World} {mb n:Nat} {f:Int→List Pl} {D:DataW Unit} (hM:w.ownsMap Tryz.prog 3 anyElem mb n D) (hD:KeysD D f) {K:List Int} (hK:K.Pairwise (· < ·)) (hm:∀ t,t∈K↔f t≠[]) {ss:List Int} (hP:ss.Perm (intKeys D)):ss.mergeSort leI=K:=by
 have hc:CollectedI D (fun _=>false) K:=by
  refine ⟨hK.imp fun {a b} h=>by omega,fun x=>?_⟩
  rw [hD.has,hm]
  simp
 have hp2:=hc.perm hM pIntLaw Tryz.underlying3 (fun _=>rfl)
 rw [mergeSort_of_perm_i hP,← mergeSort_of_perm_i hp2]
 exact List.mergeSort_of_pairwise (hK.imp fun {a b} h=>by simp;omega)
end Go.Proofs.YthcjikpabpgpfaaGreat
