import Derived.Test.YthcjikpabpgpfaaGreatZp0
import Derived.Test.YthcjikpabpgpfaaGreatZp25
set_option linter.unusedSimpArgs false
set_option maxHeartbeats 16000000
set_option maxRecDepth 100000
namespace Go.Proofs.YthcjikpabpgpfaaGreat
open Go.RowKit Go.Maps Go.WideMaps
def pairErr (V:Voc) (a b:Int):Int:=
 if freeB V a b=false then 53
 else if 16 < (bothT V a b).length then 52
 else if 512≤V.mer.length∨(findT V.tok (bothT V a b) < 0∧512≤V.tok.length) then 2
 else 0
def pairAdd (V:Voc) (a b:Int):Voc:=
 if findT V.tok (bothT V a b) < 0 then ⟨V.tok++[bothT V a b],V.mer++[⟨a,b,V.tok.length⟩]⟩
 else ⟨V.tok,V.mer++[⟨a,b,findT V.tok (bothT V a b)⟩]⟩
theorem find_fits {L:List Nm} (h:L.length≤1048576) (s:Nm):fits64 (findT L s):=by
 rcases findT_cases L s with ⟨h1,_⟩ | ⟨i,h1,h2,_⟩
 ·rw [h1];exact ⟨by omega,by omega⟩
 ·have:=(List.getElem?_eq_some_iff.1 h2).1
  rw [h1];exact ⟨by omega,by omega⟩
end Go.Proofs.YthcjikpabpgpfaaGreat
namespace Go.Proofs.YthcjikpabpgpfaaGreat
def ones:List Nm:=(List.range 256).map fun c=>[UInt8.ofNat c]
theorem ones_len:ones.length=256:=by simp [ones]
theorem ones_at {c:Nat} (h:c < 256):ones[c]?=some [UInt8.ofNat c]:=by
 simp [ones,List.getElem?_range h]
def buildV:Voc→List (Int×Int)→Voc×Int
 | v,[]=>(v,0)
 | v,p :: r=>if pairErr v p.1 p.2≠0 then (⟨[],[]⟩,pairErr v p.1 p.2) else buildV (pairAdd v p.1 p.2) r
def buildAll (l:List (Int×Int)):Voc×Int:=buildV ⟨ones,[]⟩ l
structure VOk (V:Voc):Prop where
 short:ShortT V
 tl:V.tok.length≤512
 ml:V.mer.length≤512
 uniq:∀ (i:Nat) (x:Nm),V.tok[i]?=some x→findT V.tok x=(i:Int)
 single:∀ c,c < 256→V.tok[c]?=some [UInt8.ofNat c]
 mer:∀ i,i < V.mer.length→merOk V i=true
theorem VOk.long {V:Voc} (h:VOk V):256≤V.tok.length:=by
 have:=(List.getElem?_eq_some_iff.1 (h.single 255 (by omega))).1
 omega
theorem single_inj {c d:Nat} (hc:c < 256) (hd:d < 256) (h:([UInt8.ofNat c]:Nm)=[UInt8.ofNat d]):c=d:=by
 have h1:UInt8.ofNat c=UInt8.ofNat d:=by injection h
 have h2:=congrArg UInt8.toNat h1
 rw [UInt8.toNat_ofNat_of_lt' (by show _ < 256;omega),UInt8.toNat_ofNat_of_lt' (by show _ < 256;omega)] at h2
 exact h2
theorem ones_ok:VOk ⟨ones,[]⟩ where
 short:=fun x hx=>by
  simp only [ones,List.mem_map] at hx
  obtain ⟨c,_,rfl⟩:=hx
  exact ⟨by simp,by simp⟩
 tl:=by show ones.length≤_;rw [ones_len];omega
 ml:=by show 0≤_;omega
 uniq:=fun i x hx=>by
  have hi:=(List.getElem?_eq_some_iff.1 hx).1
  have hi':i < 256:=by have h:i < ones.length:=hi;rw [ones_len] at h;exact h
  have hx':ones[i]?=some x:=hx
  rw [ones_at hi'] at hx'
  cases hx'
  exact findT_at (ones_at hi') fun j y hj hy=>by
   have hy':ones[j]?=some y:=hy
   rw [ones_at (by omega)] at hy'
   cases hy'
   exact fun e=>by have:=single_inj (by omega) hi' e;omega
 single:=fun c hc=>ones_at hc
 mer:=fun i hi=>by simp at hi
theorem VOk.check {V:Voc} (h:VOk V):checkV V=0:=by
 unfold checkV
 have h1:=h.tl
 have h2:=h.ml
 rw [if_neg (by omega),if_neg,if_neg,if_neg]
 ·rw [all_range_true h.mer];simp
 ·rw [all_range_true]
  ·simp
  ·intro c hc
   rw [h.uniq c _ (h.single c hc)]
   exact decide_eq_true (by omega)
 ·rw [all_range_true]
  ·simp
  ·intro k hk
   have hx:V.tok[k]?=some (V.tok[k]'hk):=List.getElem?_eq_getElem _
   have hs:=h.short _ (List.getElem_mem (h:=hk))
   unfold tokOk
   rw [List.getD_eq_getElem?_getD,hx]
   simp only [Option.getD_some,Bool.and_eq_true,decide_eq_true_eq]
   exact ⟨hs.1,hs.2,h.uniq k _ hx⟩
theorem merOk_iff {V:Voc} {i:Nat} {m:Mg} (hm:V.mer[i]?=some m):merOk V i=true↔(0≤m.a∧m.a < V.tok.length∧0≤m.b∧m.b < V.tok.length∧0≤m.t∧m.t < V.tok.length)∧mergedB (V.mer.take i) m.a m.b=false∧V.tok.getD m.t.toNat []=V.tok.getD m.a.toNat []++V.tok.getD m.b.toNat []:=by
 unfold merOk
 rw [List.getD_eq_getElem?_getD,hm]
 simp only [Option.getD_some,Bool.and_eq_true,decide_eq_true_eq,Bool.not_eq_true']
theorem getD_more {L:List Nm} {x:Nm} {i:Int} (h0:0≤i) (h:i < L.length):(L++[x]).getD i.toNat []=L.getD i.toNat []:=by
 rw [List.getD_eq_getElem?_getD,List.getD_eq_getElem?_getD,List.getElem?_append_left (by omega)]
theorem VOk.add {V:Voc} (h:VOk V) {a b:Int} (he:pairErr V a b=0):VOk (pairAdd V a b):=by
 unfold pairErr at he
 split at he
 ·omega
 rename_i hf
 have hf:freeB V a b=true:=by simpa using hf
 split at he
 ·omega
 rename_i h16
 split at he
 ·omega
 rename_i hfull
 have hml:=h.ml
 have htl:=h.tl
 obtain ⟨i,j,x,y,ha,hb,hx,hy,hboth,hmer⟩:=free_idx hf
 have hi:=(List.getElem?_eq_some_iff.1 hx).1
 have hj:=(List.getElem?_eq_some_iff.1 hy).1
 have hxs:=h.short x (List.mem_of_getElem? hx)
 have gx:V.tok.getD a.toNat []=x:=by rw [ha,Int.toNat_natCast,List.getD_eq_getElem?_getD,hx];rfl
 have gy:V.tok.getD b.toNat []=y:=by rw [hb,Int.toNat_natCast,List.getD_eq_getElem?_getD,hy];rfl
 unfold pairAdd
 by_cases hn:findT V.tok (bothT V a b) < 0
 ·rw [if_pos hn]
  have hlen:V.tok.length < 512:=by omega
  exact {
   short:=fun z hz=>by
    rcases List.mem_append.1 hz with hz | hz
    ·exact h.short z hz
    ·rw [List.mem_singleton.1 hz]
     refine ⟨?_,by omega⟩
     rw [hboth,List.length_append]
     omega
   tl:=by show (V.tok++_).length≤_;rw [List.length_append,List.length_singleton];omega
   ml:=by show (V.mer++_).length≤_;rw [List.length_append,List.length_singleton];omega
   uniq:=fun k z hz=>by
    have hz':(V.tok++[bothT V a b])[k]?=some z:=hz
    show findT (V.tok++[bothT V a b]) z=_
    rw [findT_snoc hn]
    rcases Nat.lt_or_ge k V.tok.length with hk | hk
    ·rw [List.getElem?_append_left hk] at hz'
     have hu:=h.uniq k z hz'
     rw [if_neg (fun e=>by rw [← e,hu] at hn;omega),hu]
    ·have hk2:=(List.getElem?_eq_some_iff.1 hz').1
     rw [List.length_append,List.length_singleton] at hk2
     obtain rfl:k=V.tok.length:=by omega
     rw [List.getElem?_append_right (Nat.le_refl _),Nat.sub_self] at hz'
     cases hz'
     rw [if_pos rfl]
   single:=fun c hc=>by
    show (V.tok++_)[c]?=_
    rw [List.getElem?_append_left (by have:=h.long;omega)]
    exact h.single c hc
   mer:=fun k hk=>by
    have hk':k < V.mer.length+1:=by have:k < (V.mer++[(⟨a,b,(V.tok.length:Nat)⟩:Mg)]).length:=hk;simpa using this
    rcases Nat.lt_or_ge k V.mer.length with hkl | hkl
    ·have hm:V.mer[k]?=some (V.mer[k]'hkl):=List.getElem?_eq_getElem _
     have hm':(V.mer++[(⟨a,b,(V.tok.length:Nat)⟩:Mg)])[k]?=some (V.mer[k]'hkl):=by rw [List.getElem?_append_left hkl];exact hm
     obtain ⟨⟨b1,b2,b3,b4,b5,b6⟩,h2,h3⟩:=(merOk_iff hm).1 (h.mer k hkl)
     refine (merOk_iff (V:=⟨_,_⟩) hm').2 ⟨⟨b1,?_,b3,?_,b5,?_⟩,?_,?_⟩
     ·show _ < ((V.tok++_).length:Int);rw [List.length_append,List.length_singleton];omega
     ·show _ < ((V.tok++_).length:Int);rw [List.length_append,List.length_singleton];omega
     ·show _ < ((V.tok++_).length:Int);rw [List.length_append,List.length_singleton];omega
     ·show mergedB ((V.mer++_).take k) _ _=false
      rw [List.take_append_of_le_length (by omega)]
      exact h2
     ·show (V.tok++_).getD _ _=_
      rw [getD_more b5 b6,getD_more b1 b2,getD_more b3 b4]
      exact h3
    ·obtain rfl:k=V.mer.length:=by omega
     have hm':(V.mer++[(⟨a,b,(V.tok.length:Nat)⟩:Mg)])[V.mer.length]?=some ⟨a,b,(V.tok.length:Nat)⟩:=by
      rw [List.getElem?_append_right (Nat.le_refl _),Nat.sub_self];rfl
     refine (merOk_iff (V:=⟨_,_⟩) hm').2 ⟨⟨?_,?_,?_,?_,?_,?_⟩,?_,?_⟩
     ·show 0≤a;omega
     ·show a < ((V.tok++_).length:Int);rw [List.length_append,List.length_singleton];omega
     ·show 0≤b;omega
     ·show b < ((V.tok++_).length:Int);rw [List.length_append,List.length_singleton];omega
     ·show 0≤((V.tok.length:Nat):Int);omega
     ·show ((V.tok.length:Nat):Int) < ((V.tok++_).length:Int);rw [List.length_append,List.length_singleton];omega
     ·show mergedB ((V.mer++_).take V.mer.length) a b=false
      rw [List.take_append_of_le_length (Nat.le_refl _),List.take_length]
      exact hmer
     ·show (V.tok++[bothT V a b]).getD (((V.tok.length:Nat):Int).toNat) []=(V.tok++[bothT V a b]).getD a.toNat []++(V.tok++[bothT V a b]).getD b.toNat []
      rw [getD_more (i:=a) (by omega) (by omega),getD_more (i:=b) (by omega) (by omega),gx,gy,Int.toNat_natCast,List.getD_eq_getElem?_getD,List.getElem?_append_right (Nat.le_refl _),Nat.sub_self]
      exact hboth }
 ·rw [if_neg hn]
  rcases findT_cases V.tok (bothT V a b) with ⟨h1,_⟩ | ⟨t,h1,h2,_⟩
  ·omega
  have ht:=(List.getElem?_eq_some_iff.1 h2).1
  exact {
   short:=h.short
   tl:=h.tl
   ml:=by show (V.mer++_).length≤_;rw [List.length_append,List.length_singleton];omega
   uniq:=h.uniq
   single:=h.single
   mer:=fun k hk=>by
    have hk':k < V.mer.length+1:=by have:k < (V.mer++[(⟨a,b,findT V.tok (bothT V a b)⟩:Mg)]).length:=hk;simpa using this
    rcases Nat.lt_or_ge k V.mer.length with hkl | hkl
    ·have hm:V.mer[k]?=some (V.mer[k]'hkl):=List.getElem?_eq_getElem _
     have hm':(V.mer++[(⟨a,b,findT V.tok (bothT V a b)⟩:Mg)])[k]?=some (V.mer[k]'hkl):=by rw [List.getElem?_append_left hkl];exact hm
     obtain ⟨hb',h2',h3⟩:=(merOk_iff hm).1 (h.mer k hkl)
     refine (merOk_iff (V:=⟨_,_⟩) hm').2 ⟨hb',?_,h3⟩
     show mergedB ((V.mer++_).take k) _ _=false
     rw [List.take_append_of_le_length (by omega)]
     exact h2'
    ·obtain rfl:k=V.mer.length:=by omega
     have hm':(V.mer++[(⟨a,b,findT V.tok (bothT V a b)⟩:Mg)])[V.mer.length]?=some ⟨a,b,findT V.tok (bothT V a b)⟩:=by
      rw [List.getElem?_append_right (Nat.le_refl _),Nat.sub_self];rfl
     refine (merOk_iff (V:=⟨_,_⟩) hm').2 ⟨⟨?_,?_,?_,?_,?_,?_⟩,?_,?_⟩
     ·show 0≤a;omega
     ·show a < (V.tok.length:Int);omega
     ·show 0≤b;omega
     ·show b < (V.tok.length:Int);omega
     ·show 0≤findT V.tok (bothT V a b);omega
     ·show findT V.tok (bothT V a b) < (V.tok.length:Int);omega
     ·show mergedB ((V.mer++_).take V.mer.length) a b=false
      rw [List.take_append_of_le_length (Nat.le_refl _),List.take_length]
      exact hmer
     ·show V.tok.getD (findT V.tok (bothT V a b)).toNat []=V.tok.getD a.toNat []++V.tok.getD b.toNat []
      rw [gx,gy,h1,Int.toNat_natCast,List.getD_eq_getElem?_getD,h2]
      exact hboth }
theorem build_ok:∀ (l:List (Int×Int)) (V:Voc),VOk V→(buildV V l).2=0→VOk (buildV V l).1
 | [],V,h,_=>h
 | p :: r,V,h,he=>by
  simp only [buildV] at he ⊢
  split at he
  ·rename_i h1;exact absurd he h1
  ·rename_i h1
   rw [if_neg h1]
   exact build_ok r _ (h.add (by simpa using h1)) he
end Go.Proofs.YthcjikpabpgpfaaGreat
