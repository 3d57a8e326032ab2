import Derived.Test.YthcjikpabpgpfaaGreatZp0
import Derived.Test.YthcjikpabpgpfaaGreatZp3
import Derived.Deep.Fields
set_option linter.unusedSimpArgs false
set_option maxHeartbeats 16000000
set_option maxRecDepth 100000
namespace Go.Proofs.YthcjikpabpgpfaaGreat
open Go.RowKit Go.Maps Go.WideMaps Go.ChangeShapes Go.WideShapes Go.ChangeAt Go.Deep
def fits64 (x:Int):Prop:=-9223372036854775808≤x∧x≤9223372036854775807
structure PairsIn (w:World) (A:Option Addr) (n:Nat) (l:List (Int×Int)):Prop where
 len:l.length=n
 fit:n≤maxLen
 vals:∀ p∈l,fits64 p.1∧fits64 p.2
 nil:A=none→n=0
 cells:∀ ad,A=some ad→∀ (i:Nat) (p:Int×Int),l[i]?=some p→w.cell? (ad.add (i * 2))=some (.int .i64 p.1)∧w.cell? (ad.add (i * 2+1))=some (.int .i64 p.2)
theorem PairsIn.below {w w':World} {A:Option Addr} {n:Nat} {l:List (Int×Int)} (h:PairsIn w A n l) (hb:Below w.heap.size w w'):PairsIn w' A n l:=
 ⟨h.len,h.fit,h.vals,h.nil,fun ad e i p hp=>by
  obtain ⟨h1,h2⟩:=h.cells ad e i p hp
  exact ⟨(hb.cell (World.block_lt_of_cell? w _ h1)).trans h1,(hb.cell (World.block_lt_of_cell? w _ h2)).trans h2⟩⟩
theorem add_pos' (ad:Addr) (i j:Nat) (h:0 < j):ad.add (i+j)=⟨(ad.add i).block,(ad.add i).off+j,none⟩:=by
 unfold Addr.add
 split <;> split <;> (first | rfl | (simp_all;done) | (simp_all;omega) | (simp;omega))
theorem PairsIn.at {w:World} {A:Option Addr} {n:Nat} {l:List (Int×Int)} (h:PairsIn w A n l) (k:Nat) (hk:k < n):
  ∃ ad p,A=some ad∧l[k]?=some p∧w.cell? (ad.add (k * 2))=some (.int .i64 p.1)∧w.cell? ⟨(ad.add (k * 2)).block,(ad.add (k * 2)).off+1,none⟩=some (.int .i64 p.2)∧fits64 p.1∧fits64 p.2:=by
 have hl:=h.len
 cases hA:A with
 | none=>have:=h.nil hA;omega
 | some ad=>
  subst hA
  have hx:l[k]?=some (l[k]'(by omega)):=List.getElem?_eq_getElem _
  obtain ⟨h1,h2⟩:=h.cells ad rfl k _ hx
  have hv:=h.vals _ (List.getElem_mem (h:=(by omega:k < l.length)))
  rw [add_pos' _ _ _ (by omega)] at h2
  exact ⟨ad,_,rfl,hx,h1,h2,hv.1,hv.2⟩
section
variable {H:Type} {enc:TypeId×Value→H} {w:World}
end
def i64V (n:Int):Value:=.int .i64 n
theorem i64V_one (l:List Int):∀ u∈l.map i64V,u.oneCell'=true:=by
 intro u hu
 obtain ⟨x,_,rfl⟩:=List.mem_map.1 hu
 rfl
def IntsIn (w:World) (A:Option Addr) (n:Nat) (l:List Int):Prop:=n≤maxLen∧Src w A n (l.map i64V)∧(∀ x∈l,-9223372036854775808≤x∧x≤9223372036854775807)∧∀ ad,A=some ad→0 < n→ad.block < w.heap.size
theorem IntsIn.len {w:World} {A:Option Addr} {n:Nat} {l:List Int} (h:IntsIn w A n l):l.length=n:=by have:=h.2.1.len;simpa using this
theorem IntsIn.below {w w':World} {A:Option Addr} {n:Nat} {l:List Int} (h:IntsIn w A n l) (hb:Below w.heap.size w w'):IntsIn w' A n l:=
 ⟨h.1,h.2.1.keep fun ad e hn=>hb.block _ (h.2.2.2 ad e hn),h.2.2.1,fun ad e hn=>Nat.lt_of_lt_of_le (h.2.2.2 ad e hn) hb.size⟩
theorem IntsIn.own {w:World} {base:Nat} {e:TypeId} {A:Option Addr} {n c:Nat} {l:List Int} (h:w.ownsRow base e 1 (.slice A n c) n (l.map i64V)) (h63:n≤maxLen) (hl:∀ x∈l,-9223372036854775808≤x∧x≤9223372036854775807):IntsIn w A n l:=
 ⟨h63,src_of_own h,hl,fun ad e _=>(h.lt ad.block (by rw [e];rfl)).2⟩
theorem IntsIn.at {w:World} {A:Option Addr} {n:Nat} {l:List Int} (h:IntsIn w A n l) (k:Nat) (hk:k < n):∃ ad x,A=some ad∧l[k]?=some x∧w.cell? (ad.add k)=some (.int .i64 x)∧-9223372036854775808≤x∧x≤9223372036854775807:=by
 have hl:=h.len
 cases hA:A with
 | none=>have:=h.2.1.nil hA;omega
 | some ad=>
  subst hA
  have hx:l[k]?=some (l[k]'(by omega)):=List.getElem?_eq_getElem _
  have hb:=h.2.2.1 _ (List.getElem_mem (h:=(by omega:k < l.length)))
  exact ⟨ad,_,rfl,hx,h.2.1.cells ad rfl k (i64V (l[k]'(by omega))) (by rw [List.getElem?_map,hx];rfl),hb.1,hb.2⟩
section
variable {H:Type} {enc:TypeId×Value→H} {w:World}
end
theorem one_int_src (w:World) (e:TypeId) (x:Int):Src (w.alloc (.cells #[.int .i64 x] e)) (some ⟨w.heap.size,0,none⟩) 1 ([x].map i64V):=by
 refine ⟨rfl,fun ad e' j u hu=>?_,fun e'=>by cases e'⟩
 cases e'
 have hj:j=0:=by
  have:=(List.getElem?_eq_some_iff.1 hu).1
  simp at this
  exact this
 subst hj
 rw [show (⟨w.heap.size,0,none⟩:Addr).add 0=⟨w.heap.size,0,none⟩ by simp [Addr.add],cell_of_row _ w.heap.size 0 _ e (0,0) (heap_alloc_new w _)]
 simpa [i64V] using hu
end Go.Proofs.YthcjikpabpgpfaaGreat
namespace Go.Proofs.YthcjikpabpgpfaaGreat
open Go.RowKit Go.Maps Go.WideMaps
def tokI (L:List Nm) (i:Int):Nm:=if 0≤i∧i < L.length then L.getD i.toNat [] else []
def textUp (L:List Nm) (l:List Int):Nat→Nm
 | 0=>[]
 | k+1=>textUp L l k++tokI L (l.getD k 0)
theorem textUp_mono (L:List Nm) (l:List Int) {a b:Nat} (h:a≤b):(textUp L l a).length≤(textUp L l b).length:=by
 induction b with
 | zero=>obtain rfl:a=0:=by omega
         exact Nat.le_refl _
 | succ b ih=>
  rcases Nat.lt_or_ge a (b+1) with h1 | h1
  ·have:=ih (by omega)
   simp only [textUp,List.length_append]
   omega
  ·obtain rfl:a=b+1:=by omega
   exact Nat.le_refl _
theorem textUp_yes {L:List Nm} {l:List Int} {k I:Nat} {x:Nm} (hi:l[k]?=some (I:Int)) (hx:L[I]?=some x):textUp L l (k+1)=textUp L l k++x:=by
 have hlt:=(List.getElem?_eq_some_iff.1 hx).1
 simp only [textUp,tokI,List.getD_eq_getElem?_getD,hi,Option.getD_some,Int.toNat_natCast,hx]
 rw [if_pos ⟨by omega,by omega⟩]
def twoCells (p:Int×Int):List Value:=[.int .i64 p.1,.int .i64 p.2]
theorem two_len (l:List (Int×Int)):(l.flatMap twoCells).length=l.length * 2:=by
 induction l with
 | nil=>rfl
 | cons a r ih=>rw [List.flatMap_cons,List.length_append,ih,List.length_cons];simp [twoCells];omega
theorem two_at:∀ (l:List (Int×Int)) (i j:Nat) (p:Int×Int) (u:Value),l[i]?=some p→(twoCells p)[j]?=some u→(l.flatMap twoCells)[i * 2+j]?=some u
 | [],i,j,p,u,h,_=>by simp at h
 | a :: r,0,j,p,u,h,h2=>by
  simp at h
  subst h
  rw [List.flatMap_cons,List.getElem?_append_left (by have:=(List.getElem?_eq_some_iff.1 h2).1;omega)]
  simpa using h2
 | a :: r,i+1,j,p,u,h,h2=>by
  have hl:(twoCells a).length=2:=rfl
  rw [List.flatMap_cons,List.getElem?_append_right (by omega),hl,show (i+1) * 2+j - 2=i * 2+j by omega]
  exact two_at r i j p u (by simpa using h) h2
theorem two_one (p:Int×Int):∀ u∈twoCells p,u.oneCell'=true:=fun u hu=>by
 simp [twoCells] at hu
 rcases hu with rfl | rfl <;> rfl
theorem two_new (w:World) (e:TypeId) (p:Int×Int):∀ (j:Nat) (u:Value),(twoCells p)[j]?=some u→(w.alloc (.cells #[.int .i64 p.1,.int .i64 p.2] e)).cell? ((⟨w.heap.size,0,none⟩:Addr).add j)=some u:=by
 intro j u h
 have hB:=Blk.new w e #[.int .i64 p.1,.int .i64 p.2]
 match j with
 | 0=>
  simp [twoCells] at h
  subst h
  exact hB.cell 0
 | 1=>
  simp [twoCells] at h
  subst h
  exact hB.cell 1
 | j+2=>simp [twoCells] at h
theorem PairsIn.ownTwo {w:World} {base:Nat} {e:TypeId} {A:Option Addr} {n c:Nat} {l:List (Int×Int)} (h:w.ownsRow base e 2 (.slice A n c) n (l.flatMap twoCells)) (hl:l.length=n) (h63:n≤maxLen) (hf:∀ p∈l,fits64 p.1∧fits64 p.2):PairsIn w A n l where
 len:=hl
 fit:=h63
 vals:=hf
 nil:=fun e1=>by
  rcases h.2 with ⟨_,h0⟩ | ⟨g,cap,cur,h1,_⟩
  ·exact h0
  ·rw [e1] at h1;cases h1
 cells:=fun ad e1 i p hp=>by
  subst e1
  have hz:ad=⟨ad.block,0,none⟩:=by
   rcases h.2 with ⟨h1,_⟩ | ⟨g,cap,cur,h1,_⟩
   ·cases h1
   ·cases h1;rfl
  have hc:=fun j u (hj:(twoCells p)[j]?=some u)=>h.cells (g:=ad.block) rfl (i * 2+j) u (two_at l i j p u hp hj)
  have c0:=hc 0 _ rfl
  have c1:=hc 1 _ rfl
  have ha:∀ k,(⟨ad.block,0,none⟩:Addr).add k=⟨ad.block,k,none⟩:=fun k=>by
   unfold Addr.add
   split
   ·rename_i h0;rw [h0]
   ·simp
  rw [ha] at c0 c1
  rw [hz,ha,ha]
  exact ⟨c0,c1⟩
theorem pairs_src {w:World} {ad:Addr} {n:Nat} {l:List (Int×Int)} (h:PairsIn w (some ad) n l):∀ (j:Nat) (u:Value),(l.flatMap twoCells)[j]?=some u→w.cell? (ad.add j)=some u:=by
 have key:∀ (R:List (Int×Int)) (j:Nat) (u:Value),(R.flatMap twoCells)[j]?=some u→∃ i r p,j=i * 2+r∧r < 2∧R[i]?=some p∧(twoCells p)[r]?=some u:=by
  intro R
  induction R with
  | nil=>intro j u h;simp at h
  | cons a R ih=>
   intro j u h
   rw [List.flatMap_cons] at h
   have hl:(twoCells a).length=2:=rfl
   rcases Nat.lt_or_ge j 2 with hj | hj
   ·rw [List.getElem?_append_left (by omega)] at h
    exact ⟨0,j,a,by omega,hj,rfl,h⟩
   ·rw [List.getElem?_append_right (by omega),hl] at h
    obtain ⟨i,r,p,h1,h2,h3,h4⟩:=ih (j - 2) u h
    exact ⟨i+1,r,p,by omega,h2,by simpa using h3,h4⟩
 intro j u hu
 obtain ⟨i,r,p,rfl,hr,hp,hu2⟩:=key l j u hu
 obtain ⟨c0,c1⟩:=h.cells ad rfl i p hp
 match r,hr with
 | 0,_=>simp [twoCells] at hu2;subst hu2;exact c0
 | 1,_=>simp [twoCells] at hu2;subst hu2;exact c1
end Go.Proofs.YthcjikpabpgpfaaGreat
