import Derived.Test.YthcjikpabpgpfaaGreatZp0
import Derived.Test.YthcjikpabpgpfaaGreatZp1
import Derived.Test.YthcjikpabpgpfaaGreatZp27
import Derived.Test.YthcjikpabpgpfaaGreatZp15
import Derived.Test.YthcjikpabpgpfaaGreatZp7
import Derived.Test.YthcjikpabpgpfaaGreatZp11
import Derived.Test.YthcjikpabpgpfaaGreatZp2
import Derived.Test.YthcjikpabpgpfaaGreatZp13
import Derived.Laws.ResultCell
import Derived.Test.YthcjikpabpgpfaaGreatZp8
import Derived.Test.YthcjikpabpgpfaaGreatZp6
import Derived.Maps.AppendAt
set_option linter.unusedSimpArgs false
set_option maxHeartbeats 16000000
set_option maxRecDepth 100000
namespace Go.Proofs.YthcjikpabpgpfaaGreat
open Go.RowKit Go.Maps Go.WideMaps
def tokIn (L:List Nm) (i:Int):Prop:=0≤i∧i < L.length
instance (L:List Nm) (i:Int):Decidable (tokIn L i):=by unfold tokIn;infer_instance
def decT (L:List Nm) (l:List Int):Nm:=textUp L l l.length
def walkE (L:List Nm) (l:List Int):Int:=if ∀ i∈l,tokIn L i then (if 4096 < (decT L l).length then 2 else 0) else 1
def startsUp (L:List Nm) (l:List Int) (k:Nat):List Int:=(List.range k).map fun j=>((textUp L l j).length:Int)
theorem startsUp_succ (L:List Nm) (l:List Int) (k:Nat):startsUp L l (k+1)=startsUp L l k++[((textUp L l k).length:Int)]:=by unfold startsUp;rw [List.range_succ,List.map_append];rfl
theorem startsUp_len (L:List Nm) (l:List Int) (k:Nat):(startsUp L l k).length=k:=by simp [startsUp]
def decR (L:List Nm) (l:List Int):Nm:=if walkE L l=0 then decT L l else []
def startsR (L:List Nm) (l:List Int):List Int:=if walkE L l=0 then startsUp L l l.length else []
theorem walkE_fits (L:List Nm) (l:List Int):0≤walkE L l∧walkE L l≤2:=by unfold walkE;split <;> (try split) <;> omega
def encR (M:List Mg) (s:Nm):List Int:=if 4096 < s.length then [] else encL M s
def encE (s:Nm):Int:=if 4096 < s.length then 2 else 0
def TokI (V:Voc) (x:Int):Prop:=0≤x∧x < V.tok.length
theorem VOk.to_in {V:Voc} (h:VOk V) {k:Nat} (hk:k < V.mer.length):TokI V (toOf V.mer k):=by
 have hm:V.mer[k]?=some V.mer[k]:=List.getElem?_eq_getElem hk
 have h1:=((merOk_iff hm).1 (h.mer k hk)).1
 have e:toOf V.mer k=V.mer[k].t:=by simp [toOf,List.getD_eq_getElem?_getD,hm]
 rw [e]
 exact ⟨h1.2.2.2.2.1,h1.2.2.2.2.2⟩
theorem mem_mergeAt {l:List Int} {i:Nat} {t x:Int} (h:x∈mergeAt l i t):x∈l∨x=t:=by
 unfold mergeAt at h
 rcases List.mem_append.1 h with h | h
 ·exact .inl (List.mem_of_mem_take h)
 ·rcases List.mem_cons.1 h with h | h
  ·exact .inr h
  ·exact .inl (List.mem_of_mem_drop h)
theorem VOk.enc_in {V:Voc} (h:VOk V) (s:Nm):∀ x∈encL V.mer s,TokI V x:=by
 unfold encL
 refine encRun_keeps (M:=V.mer) (Q:=fun l=>∀ x∈l,TokI V x) ?_ _ _ ?_
 ·intro l i k hl hk x hx
  obtain ⟨a,b,_,_,h3⟩:=pairRk_some hk
  rcases mem_mergeAt hx with h4 | h4
  ·exact hl x h4
  ·rw [h4]
   exact h.to_in (rkOf_lt h3).1
 ·intro x hx
  obtain ⟨c,_,rfl⟩:=List.mem_map.1 hx
  have:=h.long
  have:=c.toNat_lt
  exact ⟨by omega,by omega⟩
theorem VOk.s16 {V:Voc} (h:VOk V):∀ x∈V.tok,x.length≤4096:=fun x hx=>by have:=h.short x hx;omega
theorem encR_len (M:List Mg) (s:Nm):(encR M s).length≤4096:=by
 unfold encR
 split
 ·exact Nat.zero_le _
 ·have:=encL_len M s;omega
theorem decT_le {L:List Nm} {l:List Int} (h:walkE L l=0):(decT L l).length≤4096:=by
 unfold walkE at h
 split at h
 ·split at h
  ·omega
  ·omega
 ·omega
theorem startsR_fit (L:List Nm) (l:List Int):∀ x∈startsR L l,0≤x∧x≤4096:=by
 unfold startsR
 split
 ·rename_i h
  intro x hx
  obtain ⟨j,hj,rfl⟩:=List.mem_map.1 hx
  have h1:=textUp_mono L l (Nat.le_of_lt (List.mem_range.1 hj))
  have h2:=decT_le h
  unfold decT at h2
  exact ⟨by omega,by omega⟩
 ·intro x hx;cases hx
theorem startsR_len {L:List Nm} {l:List Int}:(startsR L l).length≤l.length:=by
 unfold startsR
 split
 ·rw [startsUp_len];exact Nat.le_refl _
 ·exact Nat.zero_le _
theorem encR_is {M:List Mg} {s:Nm} (h:s.length≤4096):encR M s=encL M s:=by unfold encR;rw [if_neg (by omega)]
end Go.Proofs.YthcjikpabpgpfaaGreat
namespace Go.Proofs.YthcjikpabpgpfaaGreat
def docM (V:Voc) (i:Nat) (p:Nm×Nm):MDoc:=⟨i,encR V.mer p.2,startsR V.tok (encR V.mer p.2)⟩
def docsM (V:Voc) (l:List (Nm×Nm)):List MDoc:=l.mapIdx (docM V)
def segM (V:Voc) (l:List (Nm×Nm)) (k:Nat):List MDoc:=addUp (docsM V l) k
theorem mD_docsM {V:Voc} {l:List (Nm×Nm)} {i:Nat} {p:Nm×Nm} (h:l[i]?=some p):mD (docsM V l) i=docM V i p:=by
 refine mD_at ?_
 unfold docsM
 rw [List.getElem?_mapIdx,h]
 rfl
theorem segM_succ {V:Voc} {l:List (Nm×Nm)} {i:Nat} {p:Nm×Nm} (h:l[i]?=some p):segM V l (i+1)=mAdd (segM V l i) (docM V i p):=by
 unfold segM
 rw [addUp,mD_docsM h]
theorem docM_fit {V:Voc} (hV:VOk V) (i:Nat) (p:Nm×Nm):(∀ y∈(docM V i p).T,0≤y∧y < 512)∧∀ y∈(docM V i p).S,0≤y∧y≤4096:=by
 refine ⟨fun y hy=>?_,startsR_fit _ _⟩
 have hy':y∈encR V.mer p.2:=hy
 unfold encR at hy'
 split at hy'
 ·simp at hy'
 ·have h1:=hV.enc_in p.2 y hy'
  have:=hV.tl
  have:=h1.1
  have:=h1.2
  omega
theorem segM_wf {V:Voc} (hV:VOk V) (l:List (Nm×Nm)) {k:Nat} (hk:k≤l.length):MWF (segM V l k):=by
 refine addUp_wf (fun x hx=>?_) k (by unfold docsM;rw [List.length_mapIdx];exact hk)
 obtain ⟨i,hi⟩:=List.mem_iff_getElem?.1 hx
 unfold docsM at hi
 rw [List.getElem?_mapIdx] at hi
 cases hp:l[i]? with
 | none=>rw [hp] at hi;simp at hi
 | some p=>
  rw [hp] at hi
  simp at hi
  subst hi
  obtain ⟨h1,h2⟩:=docM_fit hV i p
  exact ⟨fun y hy=>by have:=h1 y hy;omega,fun y hy=>by have:=h2 y hy;omega⟩
theorem sterms_fit {L:List MDoc} (hL:MWF L) {t:Int} (ht:t∈mTerms L):0≤t∧t≤9223372036854775807:=by
 obtain ⟨x,hx,h⟩:=terms_mem.1 ht
 have hd:=hL.ok x hx
 obtain ⟨i,hi,e⟩:=List.mem_iff_getElem.1 h
 have h1:=(hd.tok hi).1
 rw [List.getD_eq_getElem?_getD,List.getElem?_eq_getElem hi,Option.getD_some,e] at h1
 exact ⟨h1,hd.fit.1 t h⟩
def docF (p:Nm×Nm):Nm:=putF (putL p.1.length++p.1++p.2)
def termB (L:List MDoc) (t:Int):Nm:=putL t.toNat++putE (mPosts L t)
def termF (L:List MDoc) (t:Int):Nm:=putF (termB L t)
def headF (n m:Nat):Nm:=putF (putL n++putL m)
def segB (V:Voc) (l:List (Nm×Nm)):Nm:=headF l.length (mTerms (segM V l l.length)).length++l.flatMap docF++(mTerms (segM V l l.length)).flatMap (termF (segM V l l.length))
theorem putF_le {b:Nm} (h:b.length < 2 ^ 64):(putF b).length≤b.length+14:=by
 rw [putF_len]
 have:=putL_len b.length h
 omega
theorem putE_le {L:List MDoc} (hL:MWF L) (t:Int):(putE (mPosts L t)).length≤368803860:=by
 unfold putE
 split
 ·exact putP_len (posts_valid hL t)
 ·simp
theorem termB_le {L:List MDoc} (hL:MWF L) {t:Int} (ht:t≤9223372036854775807):(termB L t).length≤368803870:=by
 unfold termB
 rw [List.length_append]
 have h1:=putE_le hL t
 have h2:=putL_len t.toNat (by omega)
 omega
theorem termF_le {L:List MDoc} (hL:MWF L) {t:Int} (ht:t≤9223372036854775807):(termF L t).length≤368803900:=by
 have h1:=termB_le hL ht
 have h2:=putF_le (b:=termB L t) (by omega)
 unfold termF
 omega
theorem docF_le {p:Nm×Nm} (hp:docOk p):(docF p).length≤4200:=by
 obtain ⟨h1,h2,h3⟩:=hp
 have h4:=putL_len p.1.length (by omega)
 have h5:=putF_le (b:=putL p.1.length++p.1++p.2) (by simp only [List.length_append];omega)
 unfold docF
 simp only [List.length_append] at h5
 omega
theorem flat_le {α:Type} (f:α→Nm) (c:Nat):∀ l:List α,(∀ x∈l,(f x).length≤c)→(l.flatMap f).length≤l.length * c
 | [],_=>by simp
 | a :: r,h=>by
  rw [List.flatMap_cons,List.length_append,List.length_cons,Nat.add_mul]
  have h1:=flat_le f c r fun x hx=>h x (List.mem_cons_of_mem _ hx)
  have h2:=h a (List.mem_cons_self ..)
  omega
theorem flat_take {α:Type} (f:α→Nm) {l:List α} {k:Nat} {x:α} (h:l[k]?=some x):(l.take (k+1)).flatMap f=(l.take k).flatMap f++f x:=by
 rw [List.take_add_one,h]
 simp
theorem textUp_flat (L:List Nm) (l:List Int):∀ k,k≤l.length→textUp L l k=(l.take k).flatMap (tokI L)
 | 0,_=>by simp [textUp]
 | k+1,h=>by
  have e:l[k]?=some (l[k]'(by omega)):=List.getElem?_eq_getElem _
  rw [textUp,textUp_flat L l k (by omega),List.take_add_one,e,List.flatMap_append,List.getD_eq_getElem?_getD,e]
  simp
theorem decT_flat (L:List Nm) (l:List Int):decT L l=l.flatMap (tokI L):=by
 unfold decT
 rw [textUp_flat L l _ (Nat.le_refl _),List.take_length]
theorem VOk.to_text {V:Voc} (h:VOk V) {k:Nat} {m:Mg} (hm:V.mer[k]?=some m):tokI V.tok (toOf V.mer k)=tokI V.tok m.a++tokI V.tok m.b:=by
 have e:toOf V.mer k=m.t:=by simp [toOf,List.getD_eq_getElem?_getD,hm]
 obtain ⟨⟨b1,b2,b3,b4,b5,b6⟩,_,h3⟩:=(merOk_iff hm).1 (h.mer k (List.getElem?_eq_some_iff.1 hm).1)
 rw [e]
 unfold tokI
 rw [if_pos ⟨b5,b6⟩,if_pos ⟨b1,b2⟩,if_pos ⟨b3,b4⟩,h3]
theorem pair_split {l:List Int} {i:Nat} {a b:Int} (ha:l[i]?=some a) (hb:l[i+1]?=some b):l=l.take i++a :: b :: l.drop (i+2):=by
 have h1:l.drop i=a :: l.drop (i+1):=by
  obtain ⟨h,e⟩:=List.getElem?_eq_some_iff.1 ha
  rw [List.drop_eq_getElem_cons h,e]
 have h2:l.drop (i+1)=b :: l.drop (i+2):=by
  obtain ⟨h,e⟩:=List.getElem?_eq_some_iff.1 hb
  rw [List.drop_eq_getElem_cons h,e]
 rw [← h2,← h1,List.take_append_drop]
theorem VOk.enc_text {V:Voc} (h:VOk V) (s:Nm):(encL V.mer s).flatMap (tokI V.tok)=s:=by
 unfold encL
 refine encRun_keeps (M:=V.mer) (Q:=fun l=>l.flatMap (tokI V.tok)=s) ?_ _ _ ?_
 ·intro l i k hl hk
  obtain ⟨a,b,ha,hb,h3⟩:=pairRk_some hk
  obtain ⟨_,m,hm,rfl,rfl⟩:=rkOf_lt h3
  have e:=pair_split ha hb
  rw [← hl]
  conv=>rhs;rw [e]
  unfold mergeAt
  simp only [List.flatMap_append,List.flatMap_cons,List.append_assoc]
  rw [h.to_text hm,List.append_assoc]
 ·unfold bytesI
  rw [List.flatMap_map]
  have:∀ c:UInt8,tokI V.tok (c.toNat:Int)=[c]:=fun c=>by
   have h1:=h.single c.toNat c.toNat_lt
   have h2:=h.long
   have h3:=c.toNat_lt
   unfold tokI
   rw [if_pos ⟨by omega,by omega⟩,Int.toNat_natCast,List.getD_eq_getElem?_getD,h1]
   simp
  simp only [this]
  simp
theorem VOk.enc_walk {V:Voc} (h:VOk V) {s:Nm} (hs:s.length≤4096):walkE V.tok (encL V.mer s)=0∧decR V.tok (encL V.mer s)=s:=by
 have e:decT V.tok (encL V.mer s)=s:=by rw [decT_flat,h.enc_text]
 have h0:walkE V.tok (encL V.mer s)=0:=by
  unfold walkE
  rw [if_pos (show ∀ i∈encL V.mer s,tokIn V.tok i from h.enc_in s),if_neg (by rw [e];omega)]
 refine ⟨h0,?_⟩
 unfold decR
 rw [if_pos h0,e]
end Go.Proofs.YthcjikpabpgpfaaGreat
namespace Go.Proofs.YthcjikpabpgpfaaGreat
open Go.RowKit Go.Maps Go.WideMaps
theorem results_cell_row_tmp {P:Program} {fn:Func} {p u:Tmp} {ty:TypeId} (h:fn.results=#[.cell p ty,.tmp u]) (tmps:Array Value) (w:World) (g:Nat) (t:TypeId) (cs:Array Value) (fr:Nat×Nat) (d:TypeDesc)
  (hp:tmps.getD p undef=.pointer (some ⟨g,0,none⟩)) (hg:w.heap[g]?=some (.cells cs t fr))
  (hu:P.underlying ty=some d) (hd:(match d with | .struct _ | .array _ _=>true | _=>false)=true) (hi:(P.info? ty).map (·.size)=some cs.size):
  (results fn tmps).run P w=.ok (.tuple #[.agg cs,tmps.getD u undef]) w:=by
 rw [results_cell_tmp h,hp]
 simp [asAddr,run_loadVar_row w g t ty cs fr d hg hu hd hi,Result.andThen]
theorem addr_add (g k:Nat):(⟨g,0,none⟩:Addr).add k=⟨g,k,none⟩:=by unfold Addr.add;split <;> simp_all
theorem vocabCells:(Tryz.prog.info? 30).map (·.size)=some 2:=by kernel_rfl
theorem not_bytes {w:World} {g:Nat} {t:TypeId} {cs:Array Value} (hb:Blk w g t cs) (hcs:∀ (i:Nat) (c:UInt8),cs[i]?≠some (byteV c)) (A:Option Addr) (x:Nm) (hx:BytesIn w A x.length x):∀ ad,A=some ad→0 < x.length→ad.block≠g:=fun ad e h0 hg=>by
 subst e
 obtain ⟨_,c,e1,_,hc⟩:=hx.at 0 h0
 cases e1
 have:w.cell? ad=some (byteV c):=by simpa [Addr.add,byteV] using hc
 have h2:w.cell? ad=cs[ad.off]?:=by
  have hb':w.heap[ad.block]?=some (.cells cs t (0,0)):=by rw [hg];exact hb
  unfold World.cell?
  rw [hb']
  by_cases hs:ad.spot.isSome=true
  ·unfold World.cell? at this
   rw [hb'] at this
   simp [hs] at this
  ·simp [hs]
 rw [h2] at this
 exact hcs _ _ this
theorem ones_take {j:Nat} (h:j < 256):ones.take (j+1)=ones.take j++[[UInt8.ofNat j]]:=by
 rw [List.take_add_one,ones_at h];rfl
theorem own_leE {w:World} {base base':Nat} {e:TypeId} {size n:Nat} {v:Value} {xs:List Value} (h:w.ownsRow base e size v n xs) (hb:base'≤base):w.ownsRow base' e size v n xs:=
 ⟨h.1,h.2.imp id fun ⟨g,cap,cur,h1,h2,h3⟩=>⟨g,cap,cur,h1,Nat.le_trans hb h2,h3⟩⟩
def ListOut (w:World) (l:List Int) (r:Int) (e:Ending) (w':World):Prop:=
 ∃ v,e=.returned (.tuple #[v,.int .i64 r])∧w'.ownsRow w.heap.size 3 1 v l.length (l.map i64V)∧Below w.heap.size w w'
def TxtOut (w:World) (s:Nm) (r:Int) (e:Ending) (w':World):Prop:=
 ∃ v,e=.returned (.tuple #[v,.int .i64 r])∧w'.ownsRow w.heap.size 5 1 v s.length (s.map byteV)∧Below w.heap.size w w'
def TextIs (w:World) (s:Nm) (k:Nat) (r:Int) (e:Ending) (w':World):Prop:=
 ∃ A c,e=.returned (.tuple #[.slice A k c,.int .i64 r])∧BytesIn w' A k s∧k≤c∧Below w.heap.size w w'
theorem TxtOut.is {w w':World} {s:Nm} {r:Int} {e:Ending} {k:Nat} (h:TxtOut w s r e w') (hk:s.length=k) (hn:k≤1099511627776):TextIs w s k r e w':=by
 obtain ⟨v,rfl,h1,h2⟩:=h
 obtain ⟨A,c,rfl,hc⟩:=own_cap h1
 subst hk
 exact ⟨A,c,rfl,BytesIn.own h1 (by unfold maxLen;omega),hc,h2⟩
theorem at_one {w:World} {ad:Addr} {v:Value} (h:w.cell? (ad.add 1)=some v):w.cell? ⟨ad.block,ad.off+1,none⟩=some v:=by
 have e:ad.add 1=⟨(ad.add 0).block,(ad.add 0).off+1,none⟩:=add_pos' ad 0 1 (by omega)
 have e0:ad.add 0=ad:=by simp [Addr.add]
 rw [e,e0] at h
 exact h
theorem one_cell_at {w:World} {t:TypeId} {x:Value}:∀ (j:Nat) (u:Value),[x][j]?=some u→(w.alloc (.cells #[x] t)).cell? ((⟨w.heap.size,0,none⟩:Addr).add j)=some u:=fun j u hu=>by
 rw [addr_add,(Blk.new w t #[x]).cell j]
 simpa using hu
theorem one_single {V:Voc} (hO:VOk V) {t:Nat} {x:Nm} (hx:V.tok[t]?=some x) (h1:x.length=1):t < 256∧x=[UInt8.ofNat t]:=by
 obtain ⟨y,rfl⟩:∃ y,x=[y]:=List.length_eq_one_iff.1 h1
 have h2:=hO.single y.toNat (y.toBitVec.isLt)
 have e:UInt8.ofNat y.toNat=y:=by simp
 rw [e] at h2
 have h3:=hO.uniq t _ hx
 have h4:=hO.uniq y.toNat _ h2
 have h5:t=y.toNat:=by omega
 subst h5
 exact ⟨y.toBitVec.isLt,by rw [e]⟩
theorem own_int_at {w:World} {base:Nat} {v:Value} {l:List Int} (h:w.ownsRow base 3 1 v l.length (l.map i64V)) {p:Nat} {x:Int} (hx:l[p]?=some x):∃ ad c,v=.slice (some ad) l.length c∧w.cell? (ad.add p)=some (.int .i64 x)∧l.length≤c:=by
 obtain ⟨A,c,e,hc⟩:=own_cap h
 have hp:=(List.getElem?_eq_some_iff.1 hx).1
 cases A with
 | none=>
  subst e
  rcases h.2 with ⟨h1,h2⟩ | ⟨g,cap,cur,h1,_⟩
  ·omega
  ·cases h1
 | some ad=>
  refine ⟨ad,c,e,?_,hc⟩
  subst e
  exact (src_of_own h).cells ad rfl p (.int .i64 x) (by rw [List.getElem?_map,hx];rfl)
structure SrcN (w:World) (A:Option Addr) (m size:Nat) (xs:List Value):Prop where
 len:xs.length=m * size
 cells:∀ ad,A=some ad→∀ j u,xs[j]?=some u→w.cell? (ad.add j)=some u
 nil:A=none→m=0
theorem append_srcN {P:Program} (w:World) (base:Nat) (t ty e:TypeId) (i:TypeInfo) (z:Value) (size bytes:Nat) (ht:P.underlying t=some (.slice e)) (hi:P.info? e=some i) (hz:i.zero=some z)
  (hsize:i.size=size) (hby:i.bytes=bytes) (hzs:z.cells.size=size) (hsz:0 < size) (v:Value) (n:Nat) (xs:List Value) (hown:w.ownsRow base e size v n xs)
  (A:Option Addr) (m c:Nat) (news:List Value) (hr:SrcN w A m size news) (h1:∀ u∈news,u.oneCell'=true)
  (h63:n+m≤maxLen) (hbytes:(n+m) * bytes≤140737488355328) (hbase:base≤w.heap.size):
  ∃ v' w',(Builtin.append_ #[t,t] ty #[v,.slice A m c]).run P w=.ok v' w'∧w'.ownsRow base e size v' (n+m) (xs++news)∧w.grownBy w' v.ownBlock∧
   (v'.ownBlock=v.ownBlock∨v'.ownBlock=some w.heap.size):=by
 cases A with
 | none=>
  have hm:=hr.nil rfl
  subst hm
  have hn:news=[]:=List.eq_nil_of_length_eq_zero (by rw [hr.len];omega)
  subst hn
  refine ⟨v,w,?_,by simpa using hown,World.grownBy.refl w _,.inl rfl⟩
  rcases hown.2 with ⟨rfl,rfl⟩ | ⟨g,cap,cur,rfl,_,_,hnc,_⟩
  ·simp [Builtin.append_,run_underlying ht,sizeOf,typeInfo,hi,Builtin.lenOf,Builtin.firstCells]
  ·simp [Builtin.append_,run_underlying ht,sizeOf,typeInfo,hi,Builtin.lenOf,Builtin.firstCells,hnc,storeCells]
 | some ad=>
  obtain ⟨v',w',hrun,h2,h3,_,h5⟩:=run_append_own_at (P:=P) w base t ty e i z size bytes ht hi hz hsize hby hzs hsz v n xs hown ad m c news hr.len (hr.cells ad rfl) h1 h63 hbytes hbase
  exact ⟨v',w',hrun,h2,h3,h5⟩
theorem step_append_srcN {P:Program} (w:World) {ops:Array Oper} {o:Oper} {a:Act} {K:Act→World→Prop} {Q:Exit→Act→World→Prop} {E:Prop} (hgd:o.guard=none) (s x:Operand) (t:TypeId)
  (ho:o.op=.call { callee:=.builtin .append,args:=#[s,x],argTypes:=#[t,t] })
  (base:Nat) (e:TypeId) (i:TypeInfo) (z:Value) (size bytes:Nat) (ht:P.underlying t=some (.slice e)) (hi:P.info? e=some i) (hz:i.zero=some z)
  (hsize:i.size=size) (hby:i.bytes=bytes) (hzs:z.cells.size=size) (hsz:0 < size)
  (v:Value) (n:Nat) (xs:List Value) (hs:a.eval s=v) (hown:w.ownsRow base e size v n xs)
  (A:Option Addr) (m c:Nat) (news:List Value) (hx:a.eval x=.slice A m c) (hr:SrcN w A m size news) (h1:∀ u∈news,u.oneCell'=true)
  (h63:n+m≤maxLen) (hbytes:(n+m) * bytes≤140737488355328) (hbase:base≤w.heap.size)
  (h:∀ v' w',w'.ownsRow base e size v' (n+m) (xs++news)→w.grownBy w' v.ownBlock→(v'.ownBlock=v.ownBlock∨v'.ownBlock=some w.heap.size)→K (a.put o.dst v') w'):
  if Region.wanted o (yielded ops a.tmps)=true then Oper.wp P o a w K Q else E:=by
 have hw:Region.wanted o (yielded ops a.tmps)=true:=by simp [Region.wanted,hgd]
 rw [if_pos hw]
 obtain ⟨v',w',hrun,h2,h3,h4⟩:=append_srcN (P:=P) w base t o.type e i z size bytes ht hi hz hsize hby hzs hsz v n xs hown A m c news hr h1 h63 hbytes hbase
 unfold Oper.wp execOp
 simp only [ho,resolve,invoke,builtin,Sem.run_bind,Sem.run_pure,Result.andThen_ok,List.map_toArray,List.map_cons,List.map_nil,hs,hx,hrun]
 exact h v' w' h2 h3 h4
theorem flat_at {α:Type} {f:α→List Value} {s:Nat} (hs:∀ a,(f a).length=s):∀ (L:List α) (i j:Nat) (a:α) (u:Value),L[i]?=some a→(f a)[j]?=some u→(L.flatMap f)[i * s+j]?=some u
 | [],i,j,a,u,h1,_=>by simp at h1
 | b :: r,i,j,a,u,h1,h2=>by
  have hj:j < s:=by have:=(List.getElem?_eq_some_iff.1 h2).1;rw [hs] at this;exact this
  rw [List.flatMap_cons]
  cases i with
  | zero=>
   simp at h1
   subst h1
   rw [List.getElem?_append_left (by rw [hs];omega)]
   simpa using h2
  | succ i=>
   simp at h1
   rw [List.getElem?_append_right (by rw [hs,Nat.add_mul];omega)]
   have:(i+1) * s+j - (f b).length=i * s+j:=by rw [hs,Nat.add_mul];omega
   rw [this]
   exact flat_at hs r i j a u h1 h2
theorem flat_inv {α:Type} {f:α→List Value} {s:Nat} (hs0:0 < s) (hs:∀ a,(f a).length=s) (L:List α) (q:Nat) (u:Value) (h:(L.flatMap f)[q]?=some u):∃ a,L[q / s]?=some a∧(f a)[q % s]?=some u:=by
 have hlen:∀ L:List α,(L.flatMap f).length=L.length * s:=fun L=>by
  induction L with
  | nil=>simp
  | cons a r ih=>rw [List.flatMap_cons,List.length_append,ih,hs,List.length_cons,Nat.add_mul];omega
 have hq:=(List.getElem?_eq_some_iff.1 h).1
 rw [hlen] at hq
 have hi:q / s < L.length:=(Nat.div_lt_iff_lt_mul hs0).2 hq
 have ha:L[q / s]?=some (L[q / s]'hi):=List.getElem?_eq_getElem _
 have hj:q % s < (f (L[q / s]'hi)).length:=by rw [hs];exact Nat.mod_lt _ hs0
 have hu:=flat_at hs L (q / s) (q % s) _ _ ha (List.getElem?_eq_getElem hj)
 have e:q / s * s+q % s=q:=by rw [Nat.mul_comm];exact Nat.div_add_mod q s
 rw [e,h] at hu
 exact ⟨_,ha,by rw [hu];exact List.getElem?_eq_getElem hj⟩
end Go.Proofs.YthcjikpabpgpfaaGreat
