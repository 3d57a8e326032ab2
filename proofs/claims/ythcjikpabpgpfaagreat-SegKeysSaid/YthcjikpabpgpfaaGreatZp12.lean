import Derived.Test.YthcjikpabpgpfaaGreatZp0
import Derived.Test.YthcjikpabpgpfaaGreatZp7
import Derived.Test.YthcjikpabpgpfaaGreatZp5
import Derived.Deep.QuietTactic
import Derived.BigQuiet
import Derived.Laws.StructEq
import Derived.Test.YthcjikpabpgpfaaGreatZp6
set_option linter.unusedSimpArgs false
set_option maxHeartbeats 16000000
set_option maxRecDepth 100000
namespace Go.Proofs.YthcjikpabpgpfaaGreat
open Go.RowKit Go.Maps Go.WideMaps
structure PostsSee (w:World) (A:Option Addr) (n:Nat) (l:List (Int×List (Int×Int))):Prop where
 len:l.length=n
 fit:n≤maxLen
 nil:A=none→n=0
 at_:∀ ad,A=some ad→∀ (i:Nat) (x:Int×List (Int×Int)),l[i]?=some x→fits64 x.1∧w.cell? (ad.add (i * 2))=some (.int .i64 x.1)∧∃ B c,w.cell? (ad.add (i * 2+1))=some (.slice B x.2.length c)∧x.2.length≤c∧PairsIn w B x.2.length x.2
theorem PostsSee.below {w w':World} {A:Option Addr} {n:Nat} {l:List (Int×List (Int×Int))} (h:PostsSee w A n l) (hb:Below w.heap.size w w'):PostsSee w' A n l where
 len:=h.len
 fit:=h.fit
 nil:=h.nil
 at_:=fun ad e i x hx=>by
  obtain ⟨h1,h2,B,c,h3,h4,h5⟩:=h.at_ ad e i x hx
  exact ⟨h1,below_cells hb h2,B,c,below_cells hb h3,h4,h5.below hb⟩
theorem PostsSee.at {w:World} {A:Option Addr} {n:Nat} {l:List (Int×List (Int×Int))} (h:PostsSee w A n l) (k:Nat) (hk:k < n):
  ∃ ad x B c,A=some ad∧l[k]?=some x∧fits64 x.1∧w.cell? (ad.add (k * 2))=some (.int .i64 x.1)∧w.cell? ⟨(ad.add (k * 2)).block,(ad.add (k * 2)).off+1,none⟩=some (.slice B x.2.length c)∧x.2.length≤c∧PairsIn w B x.2.length x.2:=by
 have hl:=h.len
 cases hA:A with
 | none=>have:=h.nil hA;omega
 | some ad=>
  subst hA
  have hx:l[k]?=some (l[k]'(by omega)):=List.getElem?_eq_getElem _
  obtain ⟨h1,h2,B,c,h3,h4,h5⟩:=h.at_ ad rfl k _ hx
  rw [add_pos' _ _ _ (by omega)] at h3
  exact ⟨ad,_,B,c,rfl,hx,h1,h2,h3,h4,h5⟩
def docCells (p:Int×Value):List Value:=[.int .i64 p.1,p.2]
theorem doc_len (l:List (Int×Value)):(l.flatMap docCells).length=l.length * 2:=by
 induction l with
 | nil=>rfl
 | cons a r ih=>rw [List.flatMap_cons,List.length_append,ih,List.length_cons];simp [docCells];omega
theorem doc_at:∀ (l:List (Int×Value)) (i j:Nat) (p:Int×Value) (u:Value),l[i]?=some p→(docCells p)[j]?=some u→(l.flatMap docCells)[i * 2+j]?=some u
 | [],i,j,p,u,h,_=>by simp at h
 | a :: r,0,j,p,u,h,h2=>by
  simp at h
  subst h
  rw [List.flatMap_cons,List.getElem?_append_left (by have:=(List.getElem?_eq_some_iff.1 h2).1;omega)]
  simpa using h2
 | a :: r,i+1,j,p,u,h,h2=>by
  have hl:(docCells a).length=2:=rfl
  rw [List.flatMap_cons,List.getElem?_append_right (by omega),hl,show (i+1) * 2+j - 2=i * 2+j by omega]
  exact doc_at r i j p u (by simpa using h) h2
theorem doc_one (d:Int) (A:Option Addr) (n c:Nat):∀ u∈docCells (d,.slice A n c),u.oneCell'=true:=fun u hu=>by
 simp [docCells] at hu
 rcases hu with rfl | rfl <;> rfl
theorem doc_src {w:World} {g:Nat} {e:TypeId} {p:Int×Value} (h:Blk w g e #[.int .i64 p.1,p.2]):∀ (j:Nat) (u:Value),(docCells p)[j]?=some u→w.cell? ((⟨g,0,none⟩:Addr).add j)=some u:=by
 intro j u hu
 match j with
 | 0=>
  simp [docCells] at hu
  subst hu
  exact h.cell 0
 | 1=>
  simp [docCells] at hu
  subst hu
  exact h.cell 1
 | j+2=>simp [docCells] at hu
def PostAt (w:World) (x:Int×List (Int×Int)) (p:Int×Value) (far:Nat→Prop):Prop:=
 p.1=x.1∧fits64 x.1∧∃ A c,p.2=.slice A x.2.length c∧x.2.length≤c∧PairsIn w A x.2.length x.2∧∀ ad,A=some ad→0 < x.2.length→ad.block < w.heap.size∧far ad.block
theorem PostAt.mono {w w':World} {x:Int×List (Int×Int)} {p:Int×Value} {f g:Nat→Prop} (h:PostAt w x p f) (hk:∀ i,i < w.heap.size→f i→w'.heap[i]?=w.heap[i]?∧g i) (hs:w.heap.size≤w'.heap.size):PostAt w' x p g:=by
 obtain ⟨h1,h2,A,c,h3,h4,h5,h6⟩:=h
 refine ⟨h1,h2,A,c,h3,h4,⟨h5.len,h5.fit,h5.vals,h5.nil,fun ad e i q hq=>?_⟩,fun ad e h0=>⟨Nat.lt_of_lt_of_le (h6 ad e h0).1 hs,(hk _ (h6 ad e h0).1 (h6 ad e h0).2).2⟩⟩
 have hlt:=(List.getElem?_eq_some_iff.1 hq).1
 obtain ⟨q1,q2⟩:=h6 ad e (by omega)
 obtain ⟨c1,c2⟩:=h5.cells ad e i q hq
 have hb:=(hk _ q1 q2).1
 have hblk:∀ k,(ad.add k).block=ad.block:=fun k=>by unfold Addr.add;split <;> rfl
 exact ⟨(World.cell?_of_block (by rw [hblk];exact hb)).trans c1,(World.cell?_of_block (by rw [hblk];exact hb)).trans c2⟩
def PostsO (w:World) (base:Nat) (v:Value) (L:List (Int×List (Int×Int))):Prop:=
 ∃ R:List (Int×Value),R.length=L.length∧w.ownsRow base 62 2 v L.length (R.flatMap docCells)∧∀ (i:Nat) (p:Int×Value) (x:Int×List (Int×Int)),R[i]?=some p→L[i]?=some x→PostAt w x p fun i=>base≤i∧v.ownBlock≠some i
theorem PostsO.nil (w:World) (base:Nat):PostsO w base (.slice none 0 0) []:=⟨[],rfl,⟨rfl,.inl ⟨rfl,rfl⟩⟩,fun i p x h _=>by simp at h⟩
theorem PostsO.below {w w':World} {base:Nat} {v:Value} {L:List (Int×List (Int×Int))} (h:PostsO w base v L) (hb:Below w.heap.size w w'):PostsO w' base v L:=by
 obtain ⟨R,h0,h1,h2⟩:=h
 exact ⟨R,h0,ownsRow_block h1 fun g hg=>hb.block g (h1.lt g hg).2,fun i p x e1 e2=>(h2 i p x e1 e2).mono (fun i hi hf=>⟨hb.block i hi,hf⟩) hb.size⟩
theorem PostsO.keepIn {w w':World} {base:Nat} {v:Value} {L:List (Int×List (Int×Int))} (h:PostsO w base v L) (hk:∀ i,base≤i→i < w.heap.size→w'.heap[i]?=w.heap[i]?) (hs:w.heap.size≤w'.heap.size):PostsO w' base v L:=by
 obtain ⟨R,h0,h1,h2⟩:=h
 exact ⟨R,h0,ownsRow_block h1 fun g hg=>hk g (h1.lt g hg).1 (h1.lt g hg).2,fun i p x e1 e2=>(h2 i p x e1 e2).mono (fun i hi hf=>⟨hk i hf.1 hi,hf⟩) hs⟩
theorem PostsO.see {w:World} {base n c:Nat} {A:Option Addr} {L:List (Int×List (Int×Int))} (h:PostsO w base (.slice A n c) L) (hn:L.length=n) (h63:n≤maxLen):PostsSee w A n L where
 len:=hn
 fit:=h63
 nil:=fun e=>by
  obtain ⟨R,h0,h1,h2⟩:=h
  rcases h1.2 with ⟨_,h3⟩ | ⟨g,cap,cur,h3,_⟩
  ·omega
  ·rw [e] at h3;cases h3
 at_:=fun ad e i x hx=>by
  obtain ⟨R,h0,h1,h2⟩:=h
  subst e
  have hz:ad=⟨ad.block,0,none⟩:=by
   rcases h1.2 with ⟨h3,_⟩ | ⟨g,cap,cur,h3,_⟩
   ·cases h3
   ·cases h3;rfl
  have hlt:=(List.getElem?_eq_some_iff.1 hx).1
  obtain ⟨p,hp⟩:∃ p,R[i]?=some p:=⟨_,List.getElem?_eq_getElem (by omega)⟩
  obtain ⟨q1,q2,B,cc,q3,q4,q5,q6⟩:=h2 i p x hp hx
  have hc:=fun j u (hj:(docCells p)[j]?=some u)=>h1.cells (g:=ad.block) rfl (i * 2+j) u (doc_at R i j p u hp hj)
  have c0:=hc 0 _ rfl
  have c1:=hc 1 _ rfl
  have ha:∀ k,(⟨ad.block,0,none⟩:Addr).add k=⟨ad.block,k,none⟩:=fun k=>by
   unfold Addr.add
   split
   ·rename_i h0;rw [h0]
   ·simp
  rw [ha] at c0 c1
  refine ⟨q2,?_,B,cc,?_,q4,q5⟩
  ·rw [hz,ha,← q1];exact c0
  ·rw [hz,ha,← q3];exact c1
theorem PostsO.push {w w':World} {base:Nat} {v v':Value} {L:List (Int×List (Int×Int))} {x:Int×List (Int×Int)} {p:Int×Value} {R:List (Int×Value)} (h0:R.length=L.length)
  (h2:∀ (i:Nat) (p:Int×Value) (x:Int×List (Int×Int)),R[i]?=some p→L[i]?=some x→PostAt w x p fun i=>base≤i∧v.ownBlock≠some i) (hx:PostAt w x p fun i=>base≤i∧v.ownBlock≠some i)
  (ho:w'.ownsRow base 62 2 v' (L.length+1) (R.flatMap docCells++docCells p)) (hg:w.grownBy w' v.ownBlock) (hloc:v'.ownBlock=v.ownBlock∨∃ g,v'.ownBlock=some g∧w.heap.size≤g):PostsO w' base v' (L++[x]):=by
 have keep:∀ {y q},PostAt w y q (fun i=>base≤i∧v.ownBlock≠some i)→PostAt w' y q fun i=>base≤i∧v'.ownBlock≠some i:=fun h=>h.mono (fun i hi hf=>⟨hg.block i hi (fun e=>hf.2 e.symm),hf.1,by
  rcases hloc with e | ⟨g,e,hge⟩
  ·rw [e];exact hf.2
  ·rw [e]
   intro e2
   have:g=i:=Option.some.inj e2
   omega⟩) hg.size
 refine ⟨R++[p],by simp [h0],by simpa using ho,fun i q y e1 e2=>?_⟩
 rcases Nat.lt_or_ge i L.length with hi | hi
 ·rw [List.getElem?_append_left (by omega)] at e1 e2
  exact keep (h2 i q y e1 e2)
 ·have hlt:=(List.getElem?_eq_some_iff.1 e2).1
  simp at hlt
  obtain rfl:i=L.length:=by omega
  rw [List.getElem?_append_right (by omega)] at e1 e2
  simp [h0] at e1 e2
  subst e1 e2
  exact keep hx
def IntsBack (w:World) (l:List Int) (e:Ending) (w':World):Prop:=∃ A c,e=.returned (.slice A l.length c)∧IntsIn w' A l.length l∧l.length≤c∧Below w.heap.size w w'
def PostsBack (w:World) (l:List (Int×List (Int×Int))) (e:Ending) (w':World):Prop:=∃ A c,e=.returned (.slice A l.length c)∧PostsSee w' A l.length l∧l.length≤c∧Below w.heap.size w w'
theorem int64Info:(Tryz.prog.info? 2).map (fun i=>(i.zero,i.size,i.bytes))=some (some (.int .i64 0),1,8):=by kernel_rfl
end Go.Proofs.YthcjikpabpgpfaaGreat
namespace Go.Proofs.YthcjikpabpgpfaaGreat
theorem getL_le {l:List UInt8} (h:(getL l).2.2=0):(getL l).2.1≤l.length∧(getL l).1 < 2 ^ 64:=by
 rcases hg:getL l with ⟨v,k,e⟩
 rw [hg] at h
 simp only at h
 subst h
 obtain ⟨_,_,h3,_,h5⟩:=getL_inv hg
 exact ⟨h3,h5⟩
theorem getR_le {l:List UInt8} {most:Int} (h:(getR l most).2.2=0):(getR l most).2.1≤l.length∧((getR l most).1.length:Int)≤most∧rises (-1) (getR l most).1=true∧∀ x∈(getR l most).1,x≤9223372036854775807:=by
 rcases hg:getR l most with ⟨v,k,e⟩
 rw [hg] at h
 simp only at h
 subst h
 obtain ⟨h1,h2,h3,_,h5⟩:=getR_inv hg
 exact ⟨h3,h5,h1,h2⟩
theorem past1_in {b:List UInt8} {n:Nat} (h:n≤b.length):past1 b n≤b.length:=by
 unfold past1
 split
 ·rename_i h1
  have:=(getL_le h1).1
  rw [List.length_drop] at this
  omega
 ·exact h
theorem pastB_in {b:List UInt8} {n:Nat} (h:n≤b.length):pastB b n≤b.length:=past1_in (past1_in h)
theorem skipB_in {b:List UInt8} {i n:Nat} (h:n≤b.length):skipB b i n≤b.length:=by
 unfold skipB
 have h1:=pastB_in h
 split <;> split <;> first | exact pastB_in h1 | exact pastB_in h | exact h1 | exact h
theorem rises_ge {l:List Int} {p:Int} (h:rises p l=true):∀ y∈l,p < y:=by
 induction l generalizing p with
 | nil=>intro y hy;cases hy
 | cons x l ih=>
  simp only [rises,Bool.and_eq_true,decide_eq_true_eq] at h
  intro y hy
  rcases List.mem_cons.1 hy with rfl | hy
  ·exact h.1
  ·have:=ih h.2 y hy;omega
theorem zip_in {a c:List Int} {x:Int×Int} (h:x∈a.zip c):x.1∈a∧x.2∈c:=⟨(List.of_mem_zip h).1,(List.of_mem_zip h).2⟩
structure OneOk (b:List UInt8) (d:Nat) (s:List (Int×Int)) (n2:Nat):Prop where
 doc:d≤4294967296
 end_:n2≤b.length
 few:s.length≤4096
 fit:∀ x∈s,0≤x.1∧x.1≤9223372036854775807∧0≤x.2∧x.2≤9223372036854775807
theorem rdOne_ok {b:List UInt8} {n d n2:Nat} {s:List (Int×Int)} (h:rdOne b n=some (d,s,n2)) (hn:n≤b.length):OneOk b d s n2:=by
 unfold rdOne at h
 split at h
 ·cases h
 ·rename_i h1
  split at h
  ·cases h
  ·rename_i h2
   split at h
   ·cases h
   ·rename_i h3
    simp only [Option.some.injEq,Prod.mk.injEq] at h
    obtain ⟨e1,e2,e3⟩:=h
    have g1:=getL_le (Decidable.not_not.1 fun h=>h1 (.inl h))
    have g2:=getR_le (Decidable.not_not.1 h2)
    have g3:=getR_le (Decidable.not_not.1 fun h=>h3 (.inl h))
    rw [List.length_drop] at g1 g2 g3
    refine ⟨by omega,by omega,?_,fun x hx=>?_⟩
    ·rw [← e2,List.length_zip]
     omega
    ·rw [← e2] at hx
     obtain ⟨q1,q2⟩:=zip_in hx
     have a1:=rises_ge g2.2.2.1 _ q1
     have a2:=rises_ge g3.2.2.1 _ q2
     exact ⟨by omega,g2.2.2.2 _ q1,by omega,g3.2.2.2 _ q2⟩
structure UpOk (b:List UInt8) (k:Nat) (l:List Pst) (n:Nat) (doc:Int):Prop where
 len:l.length=k
 end_:n≤b.length
 doc:-1≤doc∧doc≤-1+4294967297 * (k:Int)
 docs:∀ x∈l,-1≤x.1∧x.1≤4294967297 * (k:Int)
 few:∀ x∈l,x.2.length≤4096
 fit:∀ x∈l,∀ s∈x.2,0≤s.1∧s.1≤9223372036854775807∧0≤s.2∧s.2≤9223372036854775807
theorem rdUp_ok {b:List UInt8} {n0:Nat} (h0:n0≤b.length):∀ (k:Nat) (l:List Pst) (n:Nat) (doc:Int),rdUp b n0 k=some (l,n,doc)→UpOk b k l n doc
 | 0,l,n,doc,h=>by
  simp only [rdUp,Option.some.injEq,Prod.mk.injEq] at h
  obtain ⟨rfl,rfl,rfl⟩:=h
  exact ⟨rfl,h0,by omega,fun x hx=>(by cases hx),fun x hx=>(by cases hx),fun x hx=>(by cases hx)⟩
 | k+1,l,n,doc,h=>by
  rw [rdUp] at h
  split at h
  ·cases h
  ·rename_i l' n' doc' h1
   have ih:=rdUp_ok h0 k l' n' doc' h1
   split at h
   ·cases h
   ·rename_i d s n2 h2
    simp only [Option.some.injEq,Prod.mk.injEq] at h
    obtain ⟨rfl,rfl,rfl⟩:=h
    have ho:=rdOne_ok h2 (skipB_in ih.end_)
    have hd:=ho.doc
    have i1:=ih.doc
    refine ⟨by simp [ih.len],ho.end_,by omega,fun x hx=>?_,fun x hx=>?_,fun x hx=>?_⟩
    ·rcases List.mem_append.1 hx with h | h
     ·have:=ih.docs x h;omega
     ·rw [List.mem_singleton.1 h];simp only;omega
    ·rcases List.mem_append.1 hx with h | h
     ·exact ih.few x h
     ·rw [List.mem_singleton.1 h];exact ho.few
    ·rcases List.mem_append.1 hx with h | h
     ·exact ih.fit x h
     ·rw [List.mem_singleton.1 h];exact ho.fit
theorem pAt_take {l:List Pst} {k i:Nat} (h:i < k):pAt (l.take k) i=pAt l i:=by
 unfold pAt
 rw [List.getD_eq_getElem?_getD,List.getD_eq_getElem?_getD,List.getElem?_take,if_pos h]
theorem getP_fit {b:List UInt8}:FitP (getP b).1:=by
 intro x hx s hs
 unfold getP at hx
 split at hx
 ·cases hx
 ·rename_i hc
  split at hx
  ·cases hx
  ·rename_i l' n' d' hu
   have hg:=getL_le (l:=b) (Decidable.not_not.1 fun h=>hc (.inl h))
   have hok:=rdUp_ok hg.1 _ _ _ _ hu
   split at hx
   ·exact ⟨(hok.fit x hx s hs).2.1,(hok.fit x hx s hs).2.2.2⟩
   ·cases hx
theorem docs_le {l:List Pst} (h:ValidP l) {i:Nat}:∀ {k:Nat},i+k < l.length→(pAt l i).1≤(pAt l (i+k)).1
 | 0,_=>Int.le_refl _
 | k+1,hk=>by
  have h1:=docs_le h (i:=i) (k:=k) (by omega)
  have h2:=h.up (i+(k+1)) hk
  unfold lastD at h2
  rw [if_neg (by omega),show i+(k+1) - 1=i+k by omega] at h2
  omega
theorem docs_mono {l:List Pst} (h:ValidP l) {i j:Nat} (hij:i≤j) (hj:j < l.length):(pAt l i).1≤(pAt l j).1:=by
 have:=docs_le h (i:=i) (k:=j - i) (by omega)
 rwa [show i+(j - i)=j by omega] at this
section
variable {l:List Pst} (h:ValidP l) {m:Nat} (hm:m≤l.length)
include h hm
end
end Go.Proofs.YthcjikpabpgpfaaGreat
namespace Go.Proofs.YthcjikpabpgpfaaGreat
theorem pAt_left {a b:List Pst} {i:Nat} (h:i < a.length):pAt (a++b) i=pAt a i:=by
 unfold pAt
 rw [List.getD_eq_getElem?_getD,List.getD_eq_getElem?_getD,List.getElem?_append_left h]
theorem pAt_right {a b:List Pst} {i:Nat} (h:a.length≤i):pAt (a++b) i=pAt b (i - a.length):=by
 unfold pAt
 rw [List.getD_eq_getElem?_getD,List.getD_eq_getElem?_getD,List.getElem?_append_right h]
theorem pAt_drop {l:List Pst} {k i:Nat}:pAt (l.drop k) i=pAt l (k+i):=by
 unfold pAt
 rw [List.getD_eq_getElem?_getD,List.getD_eq_getElem?_getD,List.getElem?_drop]
end Go.Proofs.YthcjikpabpgpfaaGreat
namespace Go.Proofs.YthcjikpabpgpfaaGreat
open Go.RowKit Go.Maps Go.WideMaps
theorem clone_any (w:World) (A:Option Addr) (n c:Nat) (l:Nm) (hl:BytesIn w A n l) (hn:n≤140737488355328):
  Calls Tryz.prog 40 #[.slice A n c] w fun e w'=>∃ v,e=.returned v∧w'.ownsRow w.heap.size 5 1 v n (l.map byteV)∧Below w.heap.size w w':=by
 obtain ⟨i0,hi,hz0,hz1,hz2⟩:=info_parts byteInfo
 have q22:∀ (w:World) (a:Option Addr) (n c n' c':Nat),(binOp .eql 24 (.slice a n c) (.slice none n' c')).run Tryz.prog w=.ok (.bool a.isNone) w:=fun w a n c n' c'=>Lib.run_eql_slice_nil w _ _ a n c n' c' Tryz.underlying24
 cases A with
 | none=>
  have h0:=hl.2.1.nil rfl
  have hx:l=[]:=List.eq_nil_of_length_eq_zero (by have:=hl.2.1.len;simp at this;omega)
  subst h0 hx
  clear hl
  go_enter Tryz.func40,Tryz.ntmps40
  go_wp2
  go_ret
  exact ⟨_,rfl,⟨rfl,.inl ⟨rfl,rfl⟩⟩,Below.refl _ _⟩
 | some ad=>
  have HL:=Lib.hid (BytesIn.below hl ((Below.refl _ w).alloc (Nat.le_refl _) (.cells #[] 5)))
  clear hl
  go_enter Tryz.func40,Tryz.ntmps40
  go_wp2_with (at_builtin;refine wpList_append_src _ rfl (.tmp 5) (.tmp 6) 24 rfl w.heap.size 5 i0 (.int .u8 0) 1 Tryz.underlying24 hi hz0 hz1 hz2 rfl _ 0 [] rfl (World.ownsRow_made w #[] 0 (Nat.le_refl _) (Nat.zero_le _) rfl) (some ad) n c (l.map byteV) rfl HL.out.2.1 (u8_one l) (by unfold maxLen;omega) (by omega) (by simp) ?_;intro v w2 hown hgrow hloc;rw [Nat.zero_add,List.nil_append] at hown;have HO:=Lib.hid hown;have HB:Hid (Below w.heap.size w w2):=Lib.hid ((((Below.refl _ w).alloc (Nat.le_refl _) (.cells #[] 5)).grown hgrow (by simp) (fun k e=>by cases e;exact Nat.le_refl _)));clear hown hgrow hloc)
  go_ret
  exact ⟨_,rfl,HO.out,HB.out⟩
end Go.Proofs.YthcjikpabpgpfaaGreat
namespace Go.Proofs.YthcjikpabpgpfaaGreat
theorem skipN_spec (l:List Pst) (d:Int):∀ (f a:Nat),f=l.length - a→a≤l.length→(∀ i,a≤i→i < skipN l d f a→(pAt l i).1 < d)∧(skipN l d f a < l.length→d≤(pAt l (skipN l d f a)).1)
 | 0,a,hf,ha=>by
  simp only [skipN]
  exact ⟨fun i h1 h2=>by omega,fun h=>by omega⟩
 | f+1,a,hf,ha=>by
  simp only [skipN]
  split
  ·rename_i hc
   obtain ⟨h1,h2⟩:=skipN_spec l d f (a+1) (by omega) (by omega)
   refine ⟨fun i h3 h4=>?_,h2⟩
   rcases Nat.eq_or_lt_of_le h3 with rfl | h5
   ·exact hc.2
   ·exact h1 i h5 h4
  ·rename_i hc
   refine ⟨fun i h1 h2=>by omega,fun h=>?_⟩
   by_cases h3:(pAt l a).1 < d
   ·exact absurd ⟨h,h3⟩ hc
   ·omega
def firstN (l:List Pst) (d:Int) (a:Nat):Nat:=skipN l d (l.length - a) a
structure IsFirst (l:List Pst) (d:Int) (a p:Nat):Prop where
 from_:a≤p
 upto:p≤l.length
 less:∀ i,a≤i→i < p→(pAt l i).1 < d
 here:p < l.length→d≤(pAt l p).1
theorem firstN_is {l:List Pst} {d:Int} {a:Nat} (ha:a≤l.length):IsFirst l d a (firstN l d a):=by
 have h1:=skipN_le l d (l.length - a) a ha
 have h2:=skipN_spec l d (l.length - a) a rfl ha
 exact ⟨h1.1,h1.2,h2.1,h2.2⟩
theorem IsFirst.unique {l:List Pst} {d:Int} {a p q:Nat} (h:IsFirst l d a p) (k:IsFirst l d a q):p=q:=by
 rcases Nat.lt_trichotomy p q with h1 | h1 | h1
 ·have h2:=k.less p h.from_ h1
  have h3:=h.here (by have:=k.upto;omega)
  omega
 ·exact h1
 ·have h2:=h.less q k.from_ h1
  have h3:=k.here (by have:=h.upto;omega)
  omega
theorem IsFirst.eq {l:List Pst} {d:Int} {a p:Nat} (h:IsFirst l d a p) (ha:a≤l.length):firstN l d a=p:=(firstN_is ha).unique h
end Go.Proofs.YthcjikpabpgpfaaGreat
