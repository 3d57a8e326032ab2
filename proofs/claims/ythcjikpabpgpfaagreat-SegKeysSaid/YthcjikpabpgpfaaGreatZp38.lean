import Derived.Test.YthcjikpabpgpfaaGreatZp0
import Derived.Test.YthcjikpabpgpfaaGreatZp32
import Derived.Test.YthcjikpabpgpfaaGreatZp8
set_option linter.unusedSimpArgs false
set_option maxHeartbeats 16000000
set_option maxRecDepth 100000
namespace Go.Proofs.YthcjikpabpgpfaaGreat
open Go.RowKit Go.Maps Go.WideMaps
theorem docInfoL:(Tryz.prog.info? 49).map (fun i=>(i.zero,i.size,i.bytes))=some (some (.agg #[.string ⟨#[]⟩,.string ⟨#[]⟩]),2,32):=by kernel_rfl
theorem docs_cells1 {w:World} {g:Nat} {k t:Nm} (h:Blk w g 49 #[.string ⟨k.toArray⟩,.string ⟨t.toArray⟩]):∀ (j:Nat) (u:Value),(docVs (k,t))[j]?=some u→w.cell? ((⟨g,0,none⟩:Addr).add j)=some u:=fun j u hu=>by
 rw [zero_add]
 match j with
 | 0=>simp [docVs] at hu;subst hu;exact h.cell 0
 | 1=>simp [docVs] at hu;subst hu;exact h.cell 1
 | j+2=>simp [docVs] at hu
theorem docs_ones (l:List (Nm×Nm)):∀ u∈l.flatMap docVs,u.oneCell'=true:=fun u hu=>by
 obtain ⟨p,_,h⟩:=List.mem_flatMap.1 hu
 simp [docVs] at h
 rcases h with rfl | rfl <;> rfl
theorem docs_one1 (p:Nm×Nm):∀ u∈docVs p,u.oneCell'=true:=fun u hu=>by
 simp [docVs] at hu
 rcases hu with rfl | rfl <;> rfl
theorem docs_len2 (l:List (Nm×Nm)):(l.flatMap docVs).length=l.length * 2:=by
 induction l with
 | nil=>rfl
 | cons a r ih=>rw [List.flatMap_cons,List.length_append,ih,List.length_cons];simp [docVs];omega
theorem docs_src {w:World} {ad:Addr} {n:Nat} {l:List (Nm×Nm)} (h:DocsIn w (some ad) n l):∀ (j:Nat) (u:Value),(l.flatMap docVs)[j]?=some u→w.cell? (ad.add j)=some u:=fun j u hu=>by
 have hlt:=(List.getElem?_eq_some_iff.1 hu).1
 rw [docs_len2] at hlt
 have hi:j / 2 < l.length:=by omega
 have hx:l[j / 2]?=some (l[j / 2]'hi):=List.getElem?_eq_getElem _
 obtain ⟨h1,h2⟩:=h.cells ad rfl (j / 2) _ hx
 rcases Nat.mod_two_eq_zero_or_one j with hm | hm
 ·have e:j=j / 2 * 2:=by omega
  have h3:=docVs_at l (j / 2) 0 _ _ hx rfl
  rw [Nat.add_zero,← e,hu] at h3
  rw [← e] at h1
  rw [h1,Option.some.inj h3]
 ·have e:j=j / 2 * 2+1:=by omega
  have h3:=docVs_at l (j / 2) 1 _ _ hx rfl
  rw [← e,hu] at h3
  rw [← e] at h2
  rw [h2,Option.some.inj h3]
def More1 (w0:World) (n:Nat) (l:List (Nm×Nm)) (p:Nm×Nm) (v:Value) (w:World):Prop:=∃ A c,v=.slice A (n+1) c∧n+1≤c∧DocsIn w A (n+1) (l++[p])∧Below w0.heap.size w0 w
theorem More1.of {w0 w:World} {n:Nat} {l:List (Nm×Nm)} {p:Nm×Nm} {v:Value} (h:w.ownsRow w0.heap.size 49 2 v (n+1) (l.flatMap docVs++docVs p)) (hl:l.length=n) (hn:n≤1000) (hv:∀ q∈l,q.1.length≤maxLen∧q.2.length≤maxLen) (hp:p.1.length≤maxLen∧p.2.length≤maxLen) (hb:Below w0.heap.size w0 w):More1 w0 n l p v w:=by
 obtain ⟨A,c,rfl⟩:=own_slice h
 refine ⟨A,c,rfl,rowCap_le h,DocsIn.ofRow (l:=l++[p]) (by rw [List.flatMap_append,List.flatMap_singleton];exact h) (by simp [hl]) (by unfold maxLen;omega) (fun q hq=>?_),hb⟩
 rcases List.mem_append.1 hq with hq | hq
 ·exact hv q hq
 ·rw [List.mem_singleton.1 hq];exact hp
theorem docsR_more {l:List (Nm×Nm)} {p:Nm×Nm} (h:¬ docOk p):¬ docsR (l++[p]):=fun e=>h (e.2.1 p (by simp))
theorem docsR_again {l:List (Nm×Nm)} {p q:Nm×Nm} (hq:q∈l) (h:p.1=q.1):¬ docsR (l++[p]):=fun e=>by
 have h1:=e.2.2
 rw [List.map_append,List.nodup_append] at h1
 exact h1.2.2 q.1 (List.mem_map.2 ⟨q,hq,rfl⟩) p.1 (by simp) h.symm
theorem docsR_take {l:List (Nm×Nm)} (h:docsR l) (k:Nat):docsR (l.take k):=
 ⟨by rw [List.length_take];have:=h.1;omega,fun p hp=>h.2.1 p (List.mem_of_mem_take hp),by
  have h1:=h.2.2
  rw [List.map_take]
  exact h1.sublist (List.take_sublist _ _)⟩
theorem DocsIn.upto {w:World} {A:Option Addr} {n:Nat} {l:List (Nm×Nm)} (h:DocsIn w A n l) {k:Nat} (hk:k≤n):DocsIn w A k (l.take k) where
 len:=by rw [List.length_take,h.len];omega
 fit:=Nat.le_trans hk h.fit
 vals:=fun p hp=>h.vals p (List.mem_of_mem_take hp)
 nil:=fun e=>by have:=h.nil e;omega
 cells:=fun ad e i p hp=>by
  rw [List.getElem?_take] at hp
  split at hp
  ·exact h.cells ad e i p hp
  ·cases hp
theorem textN_take (l:List (Nm×Nm)) (k:Nat):textN (l.take k)≤textN l:=by
 conv=>rhs;rw [← List.take_append_drop k l]
 unfold textN
 rw [List.map_append,List.sum_append]
 omega
end Go.Proofs.YthcjikpabpgpfaaGreat
