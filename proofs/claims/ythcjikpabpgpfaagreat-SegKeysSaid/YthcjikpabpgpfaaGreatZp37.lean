import Derived.Test.YthcjikpabpgpfaaGreatZp0
import Derived.Test.YthcjikpabpgpfaaGreatZp32
import Derived.Test.YthcjikpabpgpfaaGreatZp34
import Derived.Test.YthcjikpabpgpfaaGreatZp5
import Derived.Test.YthcjikpabpgpfaaGreatZp31
import Derived.Test.YthcjikpabpgpfaaGreatZp12
import Derived.Test.YthcjikpabpgpfaaGreatZp14
import Derived.Maps.OwnSet
import Derived.Test.YthcjikpabpgpfaaGreatZp23
import Derived.Test.YthcjikpabpgpfaaGreatZp18
import Derived.Test.YthcjikpabpgpfaaGreatZp8
set_option linter.unusedSimpArgs false
set_option maxHeartbeats 16000000
set_option maxRecDepth 100000
namespace Go.Proofs.YthcjikpabpgpfaaGreat
open Go.RowKit Go.Maps Go.WideMaps
def SpotsNew (w:World) (l:List (Int×Int)) (e:Ending) (w':World):Prop:=∃ A c,e=.returned (.slice A l.length c)∧PairsIn w' A l.length l∧l.length≤c∧(∀ ad,A=some ad→0 < l.length→w.heap.size≤ad.block∧ad.block < w'.heap.size)∧Below w.heap.size w w'
structure CurW (K:World→(Nat→Prop)→Nat→CSt→Prop):Prop where
 keep:∀ {w w':World} {F:Nat→Prop} {b:Nat} {s:CSt},K w F b s→(∀ i,F i→w'.heap[i]?=w.heap[i]?)→w.heap.size≤w'.heap.size→K w' F b s
 lt:∀ {w:World} {F:Nat→Prop} {b:Nat} {s:CSt},K w F b s→∀ i,F i→i < w.heap.size
 doc:∀ {w:World} {F:Nat→Prop} {b:Nat} {s:CSt},K w F b s→CWF s→Calls Tryz.prog 66 #[.pointer (some ⟨b,0,none⟩)] w fun e w'=>e=.returned (.tuple #[.int .i64 (cDoc s),.bool (cIn s)])∧Below w.heap.size w w'
 spots:∀ {w:World} {F:Nat→Prop} {b:Nat} {s:CSt},K w F b s→CWF s→Calls Tryz.prog 27 #[.pointer (some ⟨b,0,none⟩)] w (SpotsNew w (cSpots s))
 next:∀ {w:World} {F:Nat→Prop} {b:Nat} {s:CSt},K w F b s→CWF s→Calls Tryz.prog 67 #[.pointer (some ⟨b,0,none⟩)] w fun e w'=>e=.returned (.bool (cIn (cNext s)))∧∃ F',K w' F' b (cNext s)∧Kept F w w'∧∀ i,F' i→F i∨w.heap.size≤i
abbrev SegSt:=World→(Nat→Prop)→Nat→List (Nm×Nm)→List (Int×List Pst)→Prop
def SegOpen (S:SegSt) (w:World) (r:Option (List (Nm×Nm)×List (Int×List Pst))) (e:Ending) (w':World):Prop:=
 Below w.heap.size w w'∧match r with
  | none=>e=.returned (.tuple #[.pointer none,.int .i64 3])
  | some x=>∃ g F,e=.returned (.tuple #[.pointer (some ⟨g,0,none⟩),.int .i64 0])∧S w' F g x.1 x.2∧∀ i,F i→w.heap.size≤i
def CurBack (K:World→(Nat→Prop)→Nat→CSt→Prop) (w:World) (p:Option (List Pst)) (e:Ending) (w':World):Prop:=
 Below w.heap.size w w'∧match p with
  | none=>e=.returned (.pointer none)
  | some l=>∃ b F,e=.returned (.pointer (some ⟨b,0,none⟩))∧K w' F b (cStart l)∧∀ i,F i→w.heap.size≤i
def postsT (T:List (Int×List Pst)) (t:Int):Option (List Pst):=(T.find? fun x=>x.1==t).map Prod.snd
def docAt (D:List (Nm×Nm)) (i:Int):Nm×Nm:=if 0≤i∧i < (D.length:Int) then D.getD i.toNat ([],[]) else ([],[])
structure SegWF (D:List (Nm×Nm)) (T:List (Int×List Pst)):Prop where
 docs:docsR D
 up:(T.map Prod.fst).Pairwise (· < ·)
 tok:∀ x∈T,0≤x.1∧x.1≤511
 good:∀ x∈T,ValidP x.2∧0 < x.2.length
structure SegOk (S:SegSt) (K:World→(Nat→Prop)→Nat→CSt→Prop):Prop where
 keep:∀ {w w':World} {F:Nat→Prop} {g:Nat} {D:List (Nm×Nm)} {T:List (Int×List Pst)},S w F g D T→(∀ i,F i→w'.heap[i]?=w.heap[i]?)→w.heap.size≤w'.heap.size→S w' F g D T
 lt:∀ {w:World} {F:Nat→Prop} {g:Nat} {D:List (Nm×Nm)} {T:List (Int×List Pst)},S w F g D T→∀ i,F i→i < w.heap.size
 build:∀ {w:World} {b:Nat} {V:Voc},Coder w b V→VOk V→∀ (A:Option Addr) (n c:Nat) (l:List (Nm×Nm)),DocsIn w A n l→n≤c→textN l≤4000→Calls Tryz.prog 12 #[.pointer (some ⟨b,0,none⟩),.slice A n c] w (SegOut w V l)
 build_no:∀ {w:World} {b:Nat} {V:Voc},Coder w b V→VOk V→∀ (A:Option Addr) (n c:Nat) (l:List (Nm×Nm)),DocsIn w A n l→n≤c→¬ docsR l→Calls Tryz.prog 12 #[.pointer (some ⟨b,0,none⟩),.slice A n c] w (SegOut w V l)
 build_nil:∀ (w:World) (A:Option Addr) (n c:Nat) (l:List (Nm×Nm)),DocsIn w A n l→n≤c→Calls Tryz.prog 12 #[.pointer none,.slice A n c] w fun e w'=>e=.returned (.tuple #[.slice none 0 0,.int .i64 1])∧Below w.heap.size w w'
 open_:∀ (w:World) (A:Option Addr) (n c:Nat) (b:Nm),BytesIn w A n b→n≤c→n≤1000000→Calls Tryz.prog 15 #[.slice A n c] w (SegOpen S w (openR b))
 many:∀ {w:World} {F:Nat→Prop} {g:Nat} {D:List (Nm×Nm)} {T:List (Int×List Pst)},S w F g D T→SegWF D T→Calls Tryz.prog 19 #[.pointer (some ⟨g,0,none⟩)] w fun e w'=>e=.returned (.int .i64 (D.length:Int))∧Below w.heap.size w w'
 doc:∀ {w:World} {F:Nat→Prop} {g:Nat} {D:List (Nm×Nm)} {T:List (Int×List Pst)},S w F g D T→SegWF D T→∀ i:Int,fits64 i→Calls Tryz.prog 20 #[.pointer (some ⟨g,0,none⟩),.int .i64 i] w fun e w'=>
  e=.returned (.tuple #[.agg #[.string ⟨(docAt D i).1.toArray⟩,.string ⟨(docAt D i).2.toArray⟩],.bool (decide (0≤i∧i < (D.length:Int)))])∧Below w.heap.size w w'
 terms:∀ {w:World} {F:Nat→Prop} {g:Nat} {D:List (Nm×Nm)} {T:List (Int×List Pst)},S w F g D T→SegWF D T→Calls Tryz.prog 25 #[.pointer (some ⟨g,0,none⟩)] w (IntsBack w (T.map Prod.fst))
 cursor:∀ {w:World} {F:Nat→Prop} {g:Nat} {D:List (Nm×Nm)} {T:List (Int×List Pst)},S w F g D T→SegWF D T→∀ t:Int,fits64 t→Calls Tryz.prog 24 #[.pointer (some ⟨g,0,none⟩),.int .i64 t] w (CurBack K w (postsT T t))
section
variable {S:SegSt} {K:World→(Nat→Prop)→Nat→CSt→Prop} (hS:SegOk S K)
include hS
theorem SegOk.below {w w':World} {F:Nat→Prop} {g:Nat} {D:List (Nm×Nm)} {T:List (Int×List Pst)} (h:S w F g D T) (hb:Below w.heap.size w w'):S w' F g D T:=hS.keep h (fun i hi=>hb.block i (hS.lt h i hi)) hb.size
end
end Go.Proofs.YthcjikpabpgpfaaGreat
namespace Go.Proofs.YthcjikpabpgpfaaGreat
theorem lastT_app (T:List (Int×List Pst)) (x:Int×List Pst):lastT (T++[x])=x.1:=by
 unfold lastT
 rw [if_neg (by simp),List.length_append,List.length_singleton,Nat.add_sub_cancel,List.getD_eq_getElem?_getD,List.getElem?_append_right (Nat.le_refl _),Nat.sub_self]
 rfl
theorem termsG_wf {l:List Nm} {d:Nat}:∀ {i:Nat} {T:List (Int×List Pst)},termsG l d i=some T→(∀ x∈T,(0≤x.1∧x.1≤511)∧x.1≤lastT T∧ValidP x.2∧0 < x.2.length)∧(T.map Prod.fst).Pairwise (· < ·)
 | 0,T,h=>by
  simp only [termsG,Option.some.injEq] at h
  subst h
  simp
 | i+1,T,h=>by
  rw [termsG] at h
  split at h
  ·cases h
  ·rename_i T0 h0
   obtain ⟨h1,h2⟩:=termsG_wf h0
   split at h
   ·cases h
   ·rename_i hb
    simp only [Option.some.injEq] at h
    subst h
    obtain ⟨f,hf⟩:∃ f,f=l.getD (1+d+i) []:=⟨_,rfl⟩
    rw [← hf] at hb ⊢
    have hlast:lastT T0 < termT f:=by
     rcases Int.lt_or_le (lastT T0) (termT f) with h3 | h3
     ·exact h3
     ·exact absurd (show termBad f T0 d from .inr (.inr (.inl h3))) hb
    have hok:(termP f).2=0:=Classical.byContradiction fun h3=>hb (.inr (.inl h3))
    have hpos:0 < (termP f).1.length:=Nat.pos_of_ne_zero fun h3=>hb (.inr (.inr (.inr (.inl h3))))
    have hval:ValidP (termP f).1:=(check_ok getP_fit).1 (getP_some (b:=(termR f).1) hok).1
    have htok:=rInt_in ⟨f,0,0⟩ (m:=511) (by omega)
    refine ⟨fun x hx=>?_,?_⟩
    ·rw [lastT_app]
     rcases List.mem_append.1 hx with hx | hx
     ·obtain ⟨q1,q2,q3,q4⟩:=h1 x hx
      exact ⟨q1,by simp only;omega,q3,q4⟩
     ·rw [List.mem_singleton.1 hx]
      exact ⟨htok,Int.le_refl _,hval,hpos⟩
    ·rw [List.map_append,List.pairwise_append]
     refine ⟨h2,by simp,fun a ha b hb2=>?_⟩
     obtain ⟨x,hx,rfl⟩:=List.mem_map.1 ha
     simp at hb2
     subst hb2
     have:=(h1 x hx).2.1
     omega
theorem segWF_of {b:Nm} {D:List (Nm×Nm)} {T:List (Int×List Pst)} (h:openR b=some (D,T)):SegWF D T:=by
 unfold openR at h
 split at h
 ·cases h
 ·split at h
  ·cases h
  ·split at h
   ·cases h
   ·rename_i D0 hD
    split at h
    ·rename_i hR
     obtain ⟨T0,hT,e⟩:=Option.map_eq_some_iff.1 h
     simp only [Prod.mk.injEq] at e
     obtain ⟨rfl,rfl⟩:=e
     obtain ⟨h1,h2⟩:=termsG_wf hT
     exact ⟨hR,h2,fun x hx=>(h1 x hx).1,fun x hx=>(h1 x hx).2.2⟩
    ·cases h
def skeysUp (l:List (Nm×Nm)):Nat→List Nm
 | 0=>[]
 | k+1=>if (l.getD k ([],[])).1∈skeysUp l k then skeysUp l k else skeysUp l k++[(l.getD k ([],[])).1]
theorem skeysUp_next (l:List (Nm×Nm)) (k:Nat):skeysUp l (k+1)=if (l.getD k ([],[])).1∈skeysUp l k then skeysUp l k else skeysUp l k++[(l.getD k ([],[])).1]:=rfl
theorem skeysUp_len (l:List (Nm×Nm)):∀ k,(skeysUp l k).length≤k
 | 0=>Nat.le_refl _
 | k+1=>by
  have:=skeysUp_len l k
  rw [skeysUp_next]
  split
  ·omega
  ·rw [List.length_append,List.length_singleton];omega
theorem skeysUp_mem (l:List (Nm×Nm)):∀ k,k≤l.length→∀ x,x∈skeysUp l k↔x∈(l.map Prod.fst).take k
 | 0,_,x=>by simp [skeysUp]
 | k+1,hk,x=>by
  have ih:=skeysUp_mem l k (by omega) x
  have e:(l.map Prod.fst).take (k+1)=(l.map Prod.fst).take k++[(l.getD k ([],[])).1]:=by
   rw [List.take_add_one,List.getElem?_map,List.getD_eq_getElem?_getD,List.getElem?_eq_getElem (by omega)]
   rfl
  rw [e,List.mem_append,List.mem_singleton,← ih]
  rw [skeysUp_next]
  split
  ·rename_i h
   constructor
   ·exact .inl
   ·rintro (h2 | h2)
    ·exact h2
    ·rw [h2];exact h
  ·rw [List.mem_append,List.mem_singleton]
theorem skeysUp_all (l:List (Nm×Nm)):∀ k,k≤l.length→((skeysUp l k).length=k↔((l.map Prod.fst).take k).Nodup)
 | 0,_=>by simp [skeysUp]
 | k+1,hk=>by
  have ih:=skeysUp_all l k (by omega)
  have hm:=skeysUp_mem l k (by omega) (l.getD k ([],[])).1
  have hl:=skeysUp_len l k
  have e:(l.map Prod.fst).take (k+1)=(l.map Prod.fst).take k++[(l.getD k ([],[])).1]:=by
   rw [List.take_add_one,List.getElem?_map,List.getD_eq_getElem?_getD,List.getElem?_eq_getElem (by omega)]
   rfl
  rw [e,List.nodup_append]
  rw [skeysUp_next]
  split
  ·rename_i h
   constructor
   ·intro h2;omega
   ·rintro ⟨-,-,h2⟩
    exact absurd rfl (h2 _ (hm.1 h) _ (List.mem_singleton.2 rfl))
  ·rename_i h
   rw [List.length_append,List.length_singleton]
   constructor
   ·intro h2
    refine ⟨ih.1 (by omega),by simp,fun a ha b hb e2=>?_⟩
    rw [List.mem_singleton] at hb
    subst hb
    exact h (hm.2 (e2 ▸ ha))
   ·rintro ⟨h2,-,-⟩
    have:=ih.2 h2
    omega
theorem keysUp_one {l:List (Nm×Nm)} (h1:l.length≤64) (h2:∀ p∈l,docOk p):docsR l↔(skeysUp l l.length).length=l.length:=by
 rw [skeysUp_all l l.length (Nat.le_refl _),List.take_of_length_le (by simp)]
 exact ⟨fun h=>h.2.2,fun h=>⟨h1,h2,h⟩⟩
theorem rInt_e {s:Rd} {m:Int} (h:(rInt s m).2.e=0):s.e=0:=by
 unfold rInt at h
 split at h
 ·exact h
 ·rename_i h2;omega
theorem rInt_up {s:Rd} {m m':Int} (h:(rInt s m).2.e=0) (hm:m≤m'):rInt s m'=rInt s m:=by
 have he:=rInt_e h
 have hn:¬ s.e≠0:=by omega
 unfold rInt at h ⊢
 rw [if_neg hn] at h ⊢
 rw [if_neg hn]
 split at h
 ·rename_i h2;exact absurd h h2
 ·rename_i h2
  rw [if_neg h2,if_neg h2]
  split at h
  ·simp at h
  ·rename_i h3
   rw [if_neg h3,if_neg (by omega)]
theorem rInt_down {s:Rd} {m m':Int} (h:(rInt s m').2.e=0) (h0:0≤m) (hm:(rInt s m').1≤m):rInt s m=rInt s m':=by
 have he:=rInt_e h
 have hn:¬ s.e≠0:=by omega
 unfold rInt at h hm ⊢
 rw [if_neg hn] at h hm ⊢
 rw [if_neg hn]
 split at h
 ·rename_i h2;exact absurd h h2
 ·rename_i h2
  rw [if_neg h2] at hm ⊢
  rw [if_neg h2]
  split at h
  ·simp at h
  ·rename_i h3
   rw [if_neg h3] at hm ⊢
   rw [if_neg]
   simp only at hm
   omega
def headP (f:Nm) (N:Int):Int×Bool:=
 ((rInt ⟨f,0,0⟩ N).1,decide ((rInt ⟨f,0,0⟩ N).1+(rInt (rInt ⟨f,0,0⟩ N).2 N).1=N∧(rInt (rInt ⟨f,0,0⟩ N).2 N).2.e=0∧rLeft (rInt (rInt ⟨f,0,0⟩ N).2 N).2=0))
theorem headP_is (f:Nm) {N:Int} (h0:0≤N) (hN:N≤1073741824):
  ((headP f N).2=true↔¬ ((headG f).2.2.e≠0∨0 < rLeft (headG f).2.2∨N≠(headG f).1+(headG f).2.1))∧((headP f N).2=true→(headP f N).1=(headG f).1):=by
 have key:(headP f N).2=true→rInt ⟨f,0,0⟩ 1073741824=rInt ⟨f,0,0⟩ N∧rInt (rInt ⟨f,0,0⟩ N).2 1073741824=rInt (rInt ⟨f,0,0⟩ N).2 N:=by
  intro h
  unfold headP at h
  obtain ⟨-,h2,-⟩:=of_decide_eq_true h
  exact ⟨rInt_up (rInt_e h2) hN,rInt_up h2 hN⟩
 refine ⟨⟨fun h=>?_,fun h=>?_⟩,fun h=>?_⟩
 ·obtain ⟨k1,k2⟩:=key h
  unfold headP at h
  obtain ⟨h1,h2,h3⟩:=of_decide_eq_true h
  unfold headG
  rw [k1,k2]
  simp only
  omega
 ·unfold headG at h
  simp only [not_or] at h
  obtain ⟨h1,h2,h3⟩:=h
  have h1:(rInt (rInt ⟨f,0,0⟩ 1073741824).2 1073741824).2.e=0:=by omega
  have h3:N=(rInt ⟨f,0,0⟩ 1073741824).1+(rInt (rInt ⟨f,0,0⟩ 1073741824).2 1073741824).1:=by omega
  have b1:=rInt_in ⟨f,0,0⟩ (m:=1073741824) (by omega)
  have b2:=rInt_in (rInt ⟨f,0,0⟩ 1073741824).2 (m:=1073741824) (by omega)
  have k1:=rInt_down (m:=N) (rInt_e h1) h0 (by omega)
  have k2:=rInt_down (m:=N) h1 h0 (by omega)
  unfold headP
  rw [k1,k2]
  exact decide_eq_true ⟨h3.symm,h1,by omega⟩
 ·obtain ⟨k1,k2⟩:=key h
  unfold headP headG
  rw [k1]
theorem rRest_left {s:Rd} (hs:s.Ok) (h:(rBytes s (rLeft s)).2.e=0):rLeft (rBytes s (rLeft s)).2=0:=by
 have hp:=hs.place
 unfold rBytes at h ⊢
 split at h
 ·rename_i h2
  rw [if_pos h2]
  unfold rLeft
  split
  ·rfl
  ·rename_i h3
   rcases h2 with h2 | h2
   ·exact absurd h2 h3
   ·unfold rLeft at h2
    have h4:¬ s.e≠0:=h3
    rw [if_neg h4] at h2
    show s.bs.length - s.p=0
    omega
 ·rename_i h2
  rw [if_neg h2]
  split at h
  ·simp at h
  ·rename_i h3
   rw [if_neg h3]
   unfold rLeft
   split
   ·rfl
   ·simp only
    omega
theorem termBad_is {f:Nm} {T:List (Int×List Pst)} {docs:Int}:¬ termBad f T docs↔(lastT T+1≤termT f∧((termP f).2=0∧0 < (termP f).1.length∧lastP (termP f).1 < docs)∧(termR f).2.e=0):=by
 unfold termBad
 omega
end Go.Proofs.YthcjikpabpgpfaaGreat
namespace Go.Proofs.YthcjikpabpgpfaaGreat
open Go.RowKit Go.Maps Go.WideMaps
theorem spStrLaw:Keyed Tryz.prog 9:=string_keyed Tryz.underlying9
theorem zeroBs (w:World):(zeroValue 24).run Tryz.prog w=.ok (.slice none 0 0) w:=by kernel_rfl
theorem spStrKey {s:Nm} (hs:s.length≤maxLen):keyOf Tryz.prog 9 (.string ⟨s.toArray⟩)=some (.string s):=by
 have:=keyOf_string_mk Tryz.underlying9 (s:=⟨s.toArray⟩) (by simpa [ByteArray.size] using hs)
 simpa using this
structure SetD (D:DataW Unit) (l:List Nm):Prop where
 isMap:IsMap D
 has:∀ s:Nm,Maps.has D (.string s)=decide (s∈l)
theorem SetD.nil:SetD (.map []) []:=⟨isMap_empty,fun _=>rfl⟩
theorem SetD.put {D:DataW Unit} {l l':List Nm} (h:SetD D l) (x:Nm) (d:DataW Unit) (hl:∀ s,s∈l'↔s∈l∨s=x):SetD (D.put (.string x) d) l':=by
 refine ⟨h.isMap.put _ _,fun s=>?_⟩
 by_cases e:s=x
 ·subst e
  rw [has_put_same h.isMap (show WideAt.IsKeyLit (.string s) from trivial),decide_eq_true ((hl s).2 (.inr rfl))]
 ·rw [has_put_other (fun e2=>e (by injection e2)),h.has]
  have:s∈l'↔s∈l:=by rw [hl];exact ⟨fun h=>h.resolve_right e,.inl⟩
  simp [this]
def BytesV (w:World) (G:Nat→Prop) (v:Value) (s:Nm):Prop:=∃ A n c,v=.slice A n c∧BytesIn w A n s∧(n≤c∧n≤1000000)∧∀ ad,A=some ad→0 < n→G ad.block
theorem BytesV.keep {w w':World} {G G':Nat→Prop} {v:Value} {s:Nm} (h:BytesV w G v s) (hk:∀ i,G i→w'.heap[i]?=w.heap[i]?) (hG:∀ i,G i→G' i) (hs:w.heap.size≤w'.heap.size):BytesV w' G' v s:=by
 obtain ⟨A,n,c,h1,h2,h3,h4⟩:=h
 exact ⟨A,n,c,h1,⟨h2.1,h2.2.1.keep fun ad e h0=>hk _ (h4 ad e h0),fun ad e h0=>Nat.lt_of_lt_of_le (h2.2.2 ad e h0) hs⟩,h3,fun ad e h0=>hG _ (h4 ad e h0)⟩
structure KeysB (D:DataW Unit) (f:Int→Option Nm):Prop where
 isMap:IsMap D
 has:∀ t:Int,Maps.has D (.int .i64 t)=(f t).isSome
theorem KeysB.nil:KeysB (.map []) fun _=>none:=⟨isMap_empty,fun _=>rfl⟩
def bPut (f:Int→Option Nm) (t:Int) (s:Nm):Int→Option Nm:=fun u=>if u=t then some s else f u
theorem KeysB.put {D:DataW Unit} {f:Int→Option Nm} (h:KeysB D f) (t:Int) (s:Nm):KeysB (D.put (.int .i64 t) (.lit (.bool true))) (bPut f t s):=by
 refine ⟨h.isMap.put _ _,fun u=>?_⟩
 by_cases e:u=t
 ·subst e
  rw [has_put_same h.isMap (show WideAt.IsKeyLit (.int .i64 u) from trivial)]
  simp [bPut]
 ·rw [has_put_other (fun e2=>e (p64_inj e2)),h.has]
  simp only [bPut,if_neg e]
def EntB (w:World) (f:Int→Option Nm) (G:Nat→Prop) (x:MapEntry):Prop:=∃ t s,x.key=.int .i64 t∧f t=some s∧BytesV w G x.val s
structure BMap (w:World) (mb n:Nat) (f:Int→Option Nm) (G:Nat→Prop):Prop where
 own:∃ D,w.ownsMap Tryz.prog 3 anyElem mb n D∧KeysB D f
 ent:∀ es clock,w.heap[mb]?=some (.map es clock)→∀ x∈es.toList,EntB w f G x
theorem BMap.lt {w:World} {mb n:Nat} {f:Int→Option Nm} {G:Nat→Prop} (h:BMap w mb n f G):mb < w.heap.size:=by
 obtain ⟨D,h1,_⟩:=h.own
 exact h1.lt
theorem BMap.made (w:World) (G:Nat→Prop):BMap (w.alloc (.map #[] 0)) w.heap.size 0 (fun _=>none) G where
 own:=⟨_,World.ownsMap_made w _ _ _,KeysB.nil⟩
 ent:=fun es clock h=>by
  have h1:(w.alloc (.map #[] 0)).heap[w.heap.size]?=some (.map #[] 0):=heap_alloc_new w _
  rw [h1] at h
  obtain ⟨rfl,-⟩:#[]=es∧0=clock:=by simpa using h
  simp
theorem BMap.keep {w w':World} {mb n:Nat} {f:Int→Option Nm} {G G':Nat→Prop} (h:BMap w mb n f G) (hb:w'.heap[mb]?=w.heap[mb]?) (hk:∀ i,G i→w'.heap[i]?=w.heap[i]?) (hG:∀ i,G i→G' i) (hs:w.heap.size≤w'.heap.size):BMap w' mb n f G' where
 own:=by
  obtain ⟨D,h1,h2⟩:=h.own
  exact ⟨D,ownsMap_block h1 hb,h2⟩
 ent:=fun es clock e x hx=>by
  obtain ⟨t,s,q1,q2,q3⟩:=h.ent es clock (by rw [← hb];exact e) x hx
  exact ⟨t,s,q1,q2,q3.keep hk hG hs⟩
theorem BMap.put {w:World} {mb n:Nat} {f:Int→Option Nm} {G:Nat→Prop} (h:BMap w mb n f G) (hG:∀ i,G i→i≠mb) (hn:n < maxLen) {t:Int} (ht:fits64 t) {v:Value} {s:Nm} (hv:BytesV w G v s):
  ∃ w2,(Instr.mapUpdate 108 (.map (some mb)) (.int .i64 t) v).run Tryz.prog w=.ok () w2∧BMap w2 mb (n+1) (bPut f t s) G∧w.grownBy w2 (some mb):=by
 obtain ⟨D,hM,hD⟩:=h.own
 have hM':=hM
 obtain ⟨es,clock,hb,F,hs,rfl⟩:=hM
 obtain ⟨w2,hrun2,r1,r2⟩:=hM'.update pIntLaw Tryz.underlying108 hn (val:=v) (p64key ht) (show anyElem v=some (.lit (.bool true),[]) from rfl)
 obtain ⟨es',clock',hb2,hwho⟩:=stored_who pIntLaw Tryz.underlying108 hb F (Nat.lt_of_le_of_lt hs hn) (p64key ht) hrun2
 have hsz2:=r2.size
 have hkeep:∀ i,G i→i < w.heap.size→w2.heap[i]?=w.heap[i]?:=fun i hi hlt=>r2.block i hlt (fun e=>by cases e;exact hG mb hi rfl)
 have hup:∀ {z:Value} {y:Nm},BytesV w G z y→BytesV w2 G z y:=fun hz=>by
  obtain ⟨A,m,c,h1,h2,h3,h4⟩:=hz
  exact ⟨A,m,c,h1,⟨h2.1,h2.2.1.keep fun ad e h0=>hkeep _ (h4 ad e h0) (h2.2.2 ad e h0),fun ad e h0=>Nat.lt_of_lt_of_le (h2.2.2 ad e h0) hsz2⟩,h3,h4⟩
 refine ⟨w2,hrun2,⟨⟨_,r1,hD.put t s⟩,fun es2 clock2 hb3 x hx=>?_⟩,r2⟩
 obtain ⟨rfl,rfl⟩:es'=es2∧clock'=clock2:=by rw [hb2] at hb3;simpa using hb3
 rcases hwho x hx with ⟨h1,h2⟩ | ⟨h1,h2⟩
 ·obtain ⟨u,y,q1,q2,q3⟩:=h.ent es clock hb x h1
  have hu:u≠t:=fun e=>h2 (by rw [q1,e])
  exact ⟨u,y,q1,by unfold bPut;rw [if_neg hu];exact q2,hup q3⟩
 ·exact ⟨t,s,h1,by unfold bPut;rw [if_pos rfl],by rw [h2];exact hup hv⟩
theorem BMap.look {w:World} {mb n:Nat} {f:Int→Option Nm} {G:Nat→Prop} (h:BMap w mb n f G) {t:Int} (ht:fits64 t):
  ∃ v,(Instr.lookup 108 (.map (some mb)) (.int .i64 t) true).run Tryz.prog w=.ok (.tuple #[v,.bool (f t).isSome]) w∧∀ s,f t=some s→BytesV w G v s:=by
 obtain ⟨D,hM,hD⟩:=h.own
 obtain ⟨es,clock,hb,F,hs,rfl⟩:=hM
 have h2:=hD.has t
 rcases Maps.fit_look true pIntLaw Tryz.underlying108 (zeroBs _) hb F (p64key ht) with ⟨hrun,_,hat⟩ | ⟨e0,y,hm0,hk0,hrun,hR,hat,_⟩
 ·rw [Maps.has_false_of_atKey hat] at h2
  refine ⟨.slice none 0 0,by rw [← h2];exact hrun,fun s hs=>?_⟩
  rw [hs] at h2
  cases h2
 ·rw [Maps.has_true_of_atKey hat] at h2
  obtain ⟨u,s,q1,q2,q3⟩:=h.ent es clock hb e0 hm0
  have hu:u=t:=by rw [hk0] at q1;exact (v64_inj q1).symm
  subst hu
  refine ⟨e0.val,by rw [← h2];exact hrun,fun s' hs'=>?_⟩
  rw [q2] at hs'
  cases hs'
  exact q3
theorem BMap.keys {w:World} {mb n:Nat} {f:Int→Option Nm} {D:DataW Unit} (hM:w.ownsMap Tryz.prog 3 anyElem mb n D) (hD:KeysB D f) {K:List Int} (hK:K.Pairwise (· < ·)) (hm:∀ t,t∈K↔(f t).isSome=true) {ss:List Int} (hP:ss.Perm (intKeys D)):ss.mergeSort leI=K:=by
 have hc:CollectedI D (fun _=>false) K:=by
  refine ⟨hK.imp fun {a b} h=>by omega,fun x=>?_⟩
  rw [hD.has,hm]
  simp
 have hp2:=hc.perm hM pIntLaw Tryz.underlying3 (fun _=>rfl)
 rw [mergeSort_of_perm_i hP,← mergeSort_of_perm_i hp2]
 exact List.mergeSort_of_pairwise (hK.imp fun {a b} h=>by simp;omega)
def SegF (f:Int→Option Nm) (T:List (Int×List Pst)):Prop:=∀ t,(f t).map (fun s=>(getP s).1)=postsT T t∧∀ s,f t=some s→(getP s).2=0
theorem SegF.nil:SegF (fun _=>none) []:=fun t=>⟨rfl,fun s h=>by cases h⟩
theorem postsT_no {T:List (Int×List Pst)} {t:Int} (h:∀ x∈T,x.1≠t):postsT T t=none:=by
 unfold postsT
 rw [List.find?_eq_none.2 (fun x hx=>by simpa using h x hx)]
 rfl
theorem postsT_some {T:List (Int×List Pst)} {t:Int}:(postsT T t).isSome=true↔t∈T.map Prod.fst:=by
 unfold postsT
 rw [Option.isSome_map,List.find?_isSome,List.mem_map]
 constructor
 ·rintro ⟨x,h1,h2⟩;exact ⟨x,h1,by simpa using h2⟩
 ·rintro ⟨x,h1,h2⟩;exact ⟨x,h1,by simpa using h2⟩
theorem SegF.put {f:Int→Option Nm} {T:List (Int×List Pst)} (h:SegF f T) {t:Int} {s:Nm} (hT:∀ x∈T,x.1≠t) (hs:(getP s).2=0):SegF (bPut f t s) (T++[(t,(getP s).1)]):=by
 intro u
 obtain ⟨h1,h2⟩:=h u
 unfold bPut
 by_cases e:u=t
 ·subst e
  rw [if_pos rfl]
  have h3:=postsT_no hT
  unfold postsT at h3 ⊢
  rw [List.find?_append]
  rw [Option.map_eq_none_iff] at h3
  rw [h3]
  exact ⟨by simp,fun s' hs'=>by cases hs';exact hs⟩
 ·rw [if_neg e]
  refine ⟨?_,h2⟩
  rw [h1]
  unfold postsT
  rw [List.find?_append]
  have:([(t,(getP s).1)]:List (Int×List Pst)).find? (fun x=>x.1==u)=none:=by simp;exact fun e2=>e e2.symm
  rw [this,Option.or_none]
theorem SegF.isSome {f:Int→Option Nm} {T:List (Int×List Pst)} (h:SegF f T) (t:Int):(f t).isSome=true↔t∈T.map Prod.fst:=by
 rw [← postsT_some,← (h t).1,Option.isSome_map]
structure IsQ (w:World) (q b:Nat) (g:Nat→Prop) (s:Rd) (bad:Bool):Prop where
 blk:Blk w q 189 #[.pointer (some ⟨b,0,none⟩),.bool bad]
 rd:IsR w b g s
 ne:q≠b
 far:¬ g q
theorem IsQ.read {w w':World} {q b:Nat} {g:Nat→Prop} {s s':Rd} {bad:Bool} (h:IsQ w q b g s bad) (hk:Kept (fun i=>i=b) w w') (hr:IsR w' b g s'):IsQ w' q b g s' bad:=
 ⟨h.blk.kept hk h.ne,hr,h.ne,h.far⟩
theorem IsQ.later {w w':World} {q b:Nat} {g:Nat→Prop} {s:Rd} {bad:Bool} (h:IsQ w q b g s bad) (hb:Below w.heap.size w w'):IsQ w' q b g s bad:=
 have hl:b < w.heap.size:=by obtain ⟨A,c,h1,_⟩:=h.rd.at_;exact h1.lt
 have hk:Kept (fun i=>w.heap.size≤i) w w':=Kept.below hb
 ⟨h.blk.below hb h.blk.lt,h.rd.kept hk (by omega) (fun i hi=>by have:=h.rd.lt i hi;omega),h.ne,h.far⟩
theorem spNew_any (w:World) (A:Option Addr) (n c:Nat) (l:Nm) (hl:BytesIn w A n l) (hn:n≤1099511627776):
  Calls Tryz.prog 101 #[.slice A n c] w fun e w'=>∃ q b g,e=.returned (.pointer (some ⟨q,0,none⟩))∧IsQ w' q b g ⟨l,0,0⟩ false∧w.heap.size≤q∧w.heap.size≤b∧Below w.heap.size w w':=by
 have HL:=Lib.hid hl
 clear hl
 go_enter Tryz.func101,Tryz.ntmps101
 go_wp2_with fail
 refine (lNew_any w A n c l HL.out hn).mono ?_
 rintro e w1 ⟨b,g,rfl,hb,hg,hr,hB⟩
 have HR:=Lib.hid hr
 have HB:=Lib.hid hB
 have hbl:b < w1.heap.size:=by obtain ⟨A,c,h1,_⟩:=hr.at_;exact h1.lt
 have HGL:=Lib.hid hr.lt
 unfold at0
 clear hr hB
 go_wp2
 go_ret
 obtain ⟨W,hW⟩:∃ z,z=w1.alloc (.cells #[.pointer (some ⟨b,0,none⟩),.bool false] 189):=⟨_,rfl⟩
 have hk:Kept (fun _=>False) w1 W:=by rw [hW];exact (Kept.refl _ w1).alloc _
 rw [← hW]
 refine ⟨w1.heap.size,b,g,rfl,⟨by rw [hW];exact Blk.new _ _ _,HR.out.kept hk (fun h=>h) (fun _ _ h=>h),by omega,fun h=>by have:=HGL.out _ h;omega⟩,HB.out.size,hb,?_⟩
 rw [hW]
 exact HB.out.alloc HB.out.size _
theorem spWant_any {w:World} {q b:Nat} {g:Nat→Prop} {s:Rd} {bad:Bool} (h:IsQ w q b g s bad) (r:Bool):
  Calls Tryz.prog 103 #[.pointer (some ⟨q,0,none⟩),.bool r] w fun e w'=>e=.returned (.tuple #[])∧IsQ w' q b g s (bad||!r)∧Kept (fun i=>i=q) w w':=by
 have H:=Lib.hid h
 have c1:=h.blk.cell 1
 have z1:=h.blk.frozen 1
 simp only [lz0,lz1,lz2] at c1
 clear h
 have HFIN:Hid (∀ v:Bool,v=(bad||!r)→IsQ (w.setCell ⟨q,1,none⟩ (.bool v)) q b g s (bad||!r)∧Kept (fun i=>i=q) w (w.setCell ⟨q,1,none⟩ (.bool v))):=Lib.hid (fun v hv=>by
  have hk:Kept (fun i=>i=q) w (w.setCell ⟨q,1,none⟩ (.bool v)):=(Kept.refl (fun i=>i=q) w).setCell (.inl rfl) _
  refine ⟨⟨?_,H.out.rd.kept hk (fun e=>H.out.ne e.symm) (fun i hi e=>H.out.far (e ▸ hi)),H.out.ne,H.out.far⟩,hk⟩
  rw [← hv]
  simpa using H.out.blk.set_ 1 (.bool v))
 cases bad with
 | true=>
  go_enter Tryz.func103,Tryz.ntmps103
  go_wp2
  go_end0
  exact ⟨rfl,HFIN.out true rfl⟩
 | false=>
  cases r with
  | true=>
   go_enter Tryz.func103,Tryz.ntmps103
   go_wp2
   go_end0
   exact ⟨rfl,HFIN.out false rfl⟩
  | false=>
   go_enter Tryz.func103,Tryz.ntmps103
   go_wp2
   go_end0
   exact ⟨rfl,HFIN.out true rfl⟩
theorem spIsRead_any {w:World} {q b:Nat} {g:Nat→Prop} {s:Rd} {bad:Bool} (h:IsQ w q b g s bad):
  Calls Tryz.prog 104 #[.pointer (some ⟨q,0,none⟩)] w fun e w'=>e=.returned (.bool (!bad&&decide (s.e=0∧rLeft s=0)))∧w'=w:=by
 have H:=Lib.hid h
 have c0:=h.blk.cell 0
 have c1:=h.blk.cell 1
 simp only [lz0,lz1,lz2] at c0 c1
 have HE:=Lib.hid (lErr_any w b g s h.rd)
 have HF:=Lib.hid (lLeft_any w b g s h.rd)
 obtain ⟨E,hE⟩:∃ E,E=s.e:=⟨_,rfl⟩
 obtain ⟨L,hL⟩:∃ L,L=rLeft s:=⟨_,rfl⟩
 rw [← hE] at HE
 rw [← hL] at HF
 rw [← hE,← hL]
 unfold at0 at HE HF
 clear h hE hL H
 cases bad with
 | true=>
  go_enter Tryz.func104,Tryz.ntmps104
  go_wp2
  go_ret
  exact ⟨rfl,rfl⟩
 | false=>
  by_cases h0:E=0
  ·subst h0
   obtain ⟨r,hr⟩:∃ r,r=decide (L=0):=⟨_,rfl⟩
   have HR:=Lib.hid hr
   have d1:(((L:Nat):Int)==0)=r:=by rw [hr];by_cases h:L=0 <;> simp [h]
   clear hr
   go_enter Tryz.func104,Tryz.ntmps104
   go_wp2_with fail
   refine HE.out.mono ?_
   rintro e w1 ⟨rfl,rfl⟩
   go_wp2_with fail
   refine HF.out.mono ?_
   rintro e w1 ⟨rfl,rfl⟩
   go_wp2
   go_ret
   exact ⟨by rw [HR.out];simp,rfl⟩
  ·have d0:(E==0)=false:=by simpa using h0
   have HN:=Lib.hid h0
   clear h0
   go_enter Tryz.func104,Tryz.ntmps104
   go_wp2_with fail
   refine HE.out.mono ?_
   rintro e w1 ⟨rfl,rfl⟩
   go_wp2
   go_ret
   exact ⟨by simp [HN.out],rfl⟩
end Go.Proofs.YthcjikpabpgpfaaGreat
