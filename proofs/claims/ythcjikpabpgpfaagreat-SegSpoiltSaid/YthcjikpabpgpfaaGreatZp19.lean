import Derived.Test.YthcjikpabpgpfaaGreatZp0
import Derived.Test.YthcjikpabpgpfaaGreatZp18
import Derived.Test.YthcjikpabpgpfaaGreatZp2
import Derived.Test.YthcjikpabpgpfaaGreatZp11
import Derived.Test.YthcjikpabpgpfaaGreatZp8
import Derived.Test.YthcjikpabpgpfaaGreatZp5
import Derived.Test.YthcjikpabpgpfaaGreatZp6
import Derived.Test.YthcjikpabpgpfaaGreatZp1
import Derived.Test.YthcjikpabpgpfaaGreatZp9
import Derived.Laws.ResultCell
import Derived.Test.YthcjikpabpgpfaaGreatZp3
import Derived.Maps.AppendAt
set_option linter.unusedSimpArgs false
set_option maxHeartbeats 16000000
set_option maxRecDepth 100000
namespace Go.Proofs.YthcjikpabpgpfaaGreat
def ones : List Nm := (List.range 256).map fun c => [UInt8.ofNat c]
theorem ones_len : ones.length = 256 := by simp [ones]
theorem ones_at {c : Nat} (h : c < 256) : ones[c]? = some [UInt8.ofNat c] := by
 simp [ones, List.getElem?_range h]
def buildV : Voc → List (Int × Int) → Voc × Int
 | v, [] => (v, 0)
 | v, p :: r => if pairErr v p.1 p.2 ≠ 0 then (⟨[], []⟩, pairErr v p.1 p.2) else buildV (pairAdd v p.1 p.2) r
def buildAll (l : List (Int × Int)) : Voc × Int := buildV ⟨ones, []⟩ l
structure VOk (V : Voc) : Prop where
 short : ShortT V
 tl : V.tok.length ≤ 512
 ml : V.mer.length ≤ 512
 uniq : ∀ (i : Nat) (x : Nm), V.tok[i]? = some x → findT V.tok x = (i : Int)
 single : ∀ c, c < 256 → V.tok[c]? = some [UInt8.ofNat c]
 mer : ∀ i, i < V.mer.length → merOk V i = true
theorem VOk.long {V : Voc} (h : VOk V) : 256 ≤ V.tok.length := by
 have := (List.getElem?_eq_some_iff.1 (h.single 255 (by omega))).1
 omega
theorem single_inj {c d : Nat} (hc : c < 256) (hd : d < 256) (h : ([UInt8.ofNat c] : Nm) = [UInt8.ofNat d]) : c = d := by
 have h1 : UInt8.ofNat c = UInt8.ofNat d := by injection h
 have h2 := congrArg UInt8.toNat h1
 rw [UInt8.toNat_ofNat_of_lt' (by show _ < 256; omega), UInt8.toNat_ofNat_of_lt' (by show _ < 256; omega)] at h2
 exact h2
theorem ones_ok : VOk ⟨ones, []⟩ where
 short := fun x hx => by
  simp only [ones, List.mem_map] at hx
  obtain ⟨c, _, rfl⟩ := hx
  exact ⟨by simp, by simp⟩
 tl := by show ones.length ≤ _; rw [ones_len]; omega
 ml := by show 0 ≤ _; omega
 uniq := fun i x hx => by
  have hi := (List.getElem?_eq_some_iff.1 hx).1
  have hi' : i < 256 := by have h : i < ones.length := hi; rw [ones_len] at h; exact h
  have hx' : ones[i]? = some x := hx
  rw [ones_at hi'] at hx'
  cases hx'
  exact findT_at (ones_at hi') fun j y hj hy => by
   have hy' : ones[j]? = some y := hy
   rw [ones_at (by omega)] at hy'
   cases hy'
   exact fun e => by have := single_inj (by omega) hi' e; omega
 single := fun c hc => ones_at hc
 mer := fun i hi => by simp at hi
theorem VOk.check {V : Voc} (h : VOk V) : checkV V = 0 := by
 unfold checkV
 have h1 := h.tl
 have h2 := h.ml
 rw [if_neg (by omega), if_neg, if_neg, if_neg]
 ·rw [all_range_true h.mer]; simp
 ·rw [all_range_true]
  ·simp
  ·intro c hc
   rw [h.uniq c _ (h.single c hc)]
   exact decide_eq_true (by omega)
 ·rw [all_range_true]
  ·simp
  ·intro k hk
   have hx : V.tok[k]? = some (V.tok[k]'hk) := List.getElem?_eq_getElem _
   have hs := h.short _ (List.getElem_mem (h := hk))
   unfold tokOk
   rw [List.getD_eq_getElem?_getD, hx]
   simp only [Option.getD_some, Bool.and_eq_true, decide_eq_true_eq]
   exact ⟨hs.1, hs.2, h.uniq k _ hx⟩
theorem merOk_iff {V : Voc} {i : Nat} {m : Mg} (hm : V.mer[i]? = some m) : merOk V i = true ↔ (0 ≤ m.a ∧ m.a < V.tok.length ∧ 0 ≤ m.b ∧ m.b < V.tok.length ∧ 0 ≤ m.t ∧ m.t < V.tok.length) ∧ mergedB (V.mer.take i) m.a m.b = false ∧ V.tok.getD m.t.toNat [] = V.tok.getD m.a.toNat [] ++ V.tok.getD m.b.toNat [] := by
 unfold merOk
 rw [List.getD_eq_getElem?_getD, hm]
 simp only [Option.getD_some, Bool.and_eq_true, decide_eq_true_eq, Bool.not_eq_true']
theorem getD_more {L : List Nm} {x : Nm} {i : Int} (h0 : 0 ≤ i) (h : i < L.length) : (L ++ [x]).getD i.toNat [] = L.getD i.toNat [] := by
 rw [List.getD_eq_getElem?_getD, List.getD_eq_getElem?_getD, List.getElem?_append_left (by omega)]
theorem VOk.add {V : Voc} (h : VOk V) {a b : Int} (he : pairErr V a b = 0) : VOk (pairAdd V a b) := by
 unfold pairErr at he
 split at he
 ·omega
 rename_i hf
 have hf : freeB V a b = true := by simpa using hf
 split at he
 ·omega
 rename_i h16
 split at he
 ·omega
 rename_i hfull
 have hml := h.ml
 have htl := h.tl
 obtain ⟨i, j, x, y, ha, hb, hx, hy, hboth, hmer⟩ := free_idx hf
 have hi := (List.getElem?_eq_some_iff.1 hx).1
 have hj := (List.getElem?_eq_some_iff.1 hy).1
 have hxs := h.short x (List.mem_of_getElem? hx)
 have gx : V.tok.getD a.toNat [] = x := by rw [ha, Int.toNat_natCast, List.getD_eq_getElem?_getD, hx]; rfl
 have gy : V.tok.getD b.toNat [] = y := by rw [hb, Int.toNat_natCast, List.getD_eq_getElem?_getD, hy]; rfl
 unfold pairAdd
 by_cases hn : findT V.tok (bothT V a b) < 0
 ·rw [if_pos hn]
  have hlen : V.tok.length < 512 := by omega
  exact {
   short := fun z hz => by
    rcases List.mem_append.1 hz with hz | hz
    ·exact h.short z hz
    ·rw [List.mem_singleton.1 hz]
     refine ⟨?_, by omega⟩
     rw [hboth, List.length_append]
     omega
   tl := by show (V.tok ++ _).length ≤ _; rw [List.length_append, List.length_singleton]; omega
   ml := by show (V.mer ++ _).length ≤ _; rw [List.length_append, List.length_singleton]; omega
   uniq := fun k z hz => by
    have hz' : (V.tok ++ [bothT V a b])[k]? = some z := hz
    show findT (V.tok ++ [bothT V a b]) z = _
    rw [findT_snoc hn]
    rcases Nat.lt_or_ge k V.tok.length with hk | hk
    ·rw [List.getElem?_append_left hk] at hz'
     have hu := h.uniq k z hz'
     rw [if_neg (fun e => by rw [← e, hu] at hn; omega), hu]
    ·have hk2 := (List.getElem?_eq_some_iff.1 hz').1
     rw [List.length_append, List.length_singleton] at hk2
     obtain rfl : k = V.tok.length := by omega
     rw [List.getElem?_append_right (Nat.le_refl _), Nat.sub_self] at hz'
     cases hz'
     rw [if_pos rfl]
   single := fun c hc => by
    show (V.tok ++ _)[c]? = _
    rw [List.getElem?_append_left (by have := h.long; omega)]
    exact h.single c hc
   mer := fun k hk => by
    have hk' : k < V.mer.length + 1 := by have : k < (V.mer ++ [(⟨a, b, (V.tok.length : Nat)⟩ : Mg)]).length := hk; simpa using this
    rcases Nat.lt_or_ge k V.mer.length with hkl | hkl
    ·have hm : V.mer[k]? = some (V.mer[k]'hkl) := List.getElem?_eq_getElem _
     have hm' : (V.mer ++ [(⟨a, b, (V.tok.length : Nat)⟩ : Mg)])[k]? = some (V.mer[k]'hkl) := by rw [List.getElem?_append_left hkl]; exact hm
     obtain ⟨⟨b1, b2, b3, b4, b5, b6⟩, h2, h3⟩ := (merOk_iff hm).1 (h.mer k hkl)
     refine (merOk_iff (V := ⟨_, _⟩) hm').2 ⟨⟨b1, ?_, b3, ?_, b5, ?_⟩, ?_, ?_⟩
     ·show _ < ((V.tok ++ _).length : Int); rw [List.length_append, List.length_singleton]; omega
     ·show _ < ((V.tok ++ _).length : Int); rw [List.length_append, List.length_singleton]; omega
     ·show _ < ((V.tok ++ _).length : Int); rw [List.length_append, List.length_singleton]; omega
     ·show mergedB ((V.mer ++ _).take k) _ _ = false
      rw [List.take_append_of_le_length (by omega)]
      exact h2
     ·show (V.tok ++ _).getD _ _ = _
      rw [getD_more b5 b6, getD_more b1 b2, getD_more b3 b4]
      exact h3
    ·obtain rfl : k = V.mer.length := by omega
     have hm' : (V.mer ++ [(⟨a, b, (V.tok.length : Nat)⟩ : Mg)])[V.mer.length]? = some ⟨a, b, (V.tok.length : Nat)⟩ := by
      rw [List.getElem?_append_right (Nat.le_refl _), Nat.sub_self]; rfl
     refine (merOk_iff (V := ⟨_, _⟩) hm').2 ⟨⟨?_, ?_, ?_, ?_, ?_, ?_⟩, ?_, ?_⟩
     ·show 0 ≤ a; omega
     ·show a < ((V.tok ++ _).length : Int); rw [List.length_append, List.length_singleton]; omega
     ·show 0 ≤ b; omega
     ·show b < ((V.tok ++ _).length : Int); rw [List.length_append, List.length_singleton]; omega
     ·show 0 ≤ ((V.tok.length : Nat) : Int); omega
     ·show ((V.tok.length : Nat) : Int) < ((V.tok ++ _).length : Int); rw [List.length_append, List.length_singleton]; omega
     ·show mergedB ((V.mer ++ _).take V.mer.length) a b = false
      rw [List.take_append_of_le_length (Nat.le_refl _), List.take_length]
      exact hmer
     ·show (V.tok ++ [bothT V a b]).getD (((V.tok.length : Nat) : Int).toNat) [] = (V.tok ++ [bothT V a b]).getD a.toNat [] ++ (V.tok ++ [bothT V a b]).getD b.toNat []
      rw [getD_more (i := a) (by omega) (by omega), getD_more (i := b) (by omega) (by omega), gx, gy, Int.toNat_natCast, List.getD_eq_getElem?_getD, List.getElem?_append_right (Nat.le_refl _), Nat.sub_self]
      exact hboth }
 ·rw [if_neg hn]
  rcases findT_cases V.tok (bothT V a b) with ⟨h1, _⟩ | ⟨t, h1, h2, _⟩
  ·omega
  have ht := (List.getElem?_eq_some_iff.1 h2).1
  exact {
   short := h.short
   tl := h.tl
   ml := by show (V.mer ++ _).length ≤ _; rw [List.length_append, List.length_singleton]; omega
   uniq := h.uniq
   single := h.single
   mer := fun k hk => by
    have hk' : k < V.mer.length + 1 := by have : k < (V.mer ++ [(⟨a, b, findT V.tok (bothT V a b)⟩ : Mg)]).length := hk; simpa using this
    rcases Nat.lt_or_ge k V.mer.length with hkl | hkl
    ·have hm : V.mer[k]? = some (V.mer[k]'hkl) := List.getElem?_eq_getElem _
     have hm' : (V.mer ++ [(⟨a, b, findT V.tok (bothT V a b)⟩ : Mg)])[k]? = some (V.mer[k]'hkl) := by rw [List.getElem?_append_left hkl]; exact hm
     obtain ⟨hb', h2', h3⟩ := (merOk_iff hm).1 (h.mer k hkl)
     refine (merOk_iff (V := ⟨_, _⟩) hm').2 ⟨hb', ?_, h3⟩
     show mergedB ((V.mer ++ _).take k) _ _ = false
     rw [List.take_append_of_le_length (by omega)]
     exact h2'
    ·obtain rfl : k = V.mer.length := by omega
     have hm' : (V.mer ++ [(⟨a, b, findT V.tok (bothT V a b)⟩ : Mg)])[V.mer.length]? = some ⟨a, b, findT V.tok (bothT V a b)⟩ := by
      rw [List.getElem?_append_right (Nat.le_refl _), Nat.sub_self]; rfl
     refine (merOk_iff (V := ⟨_, _⟩) hm').2 ⟨⟨?_, ?_, ?_, ?_, ?_, ?_⟩, ?_, ?_⟩
     ·show 0 ≤ a; omega
     ·show a < (V.tok.length : Int); omega
     ·show 0 ≤ b; omega
     ·show b < (V.tok.length : Int); omega
     ·show 0 ≤ findT V.tok (bothT V a b); omega
     ·show findT V.tok (bothT V a b) < (V.tok.length : Int); omega
     ·show mergedB ((V.mer ++ _).take V.mer.length) a b = false
      rw [List.take_append_of_le_length (Nat.le_refl _), List.take_length]
      exact hmer
     ·show V.tok.getD (findT V.tok (bothT V a b)).toNat [] = V.tok.getD a.toNat [] ++ V.tok.getD b.toNat []
      rw [gx, gy, h1, Int.toNat_natCast, List.getD_eq_getElem?_getD, h2]
      exact hboth }
theorem build_ok : ∀ (l : List (Int × Int)) (V : Voc), VOk V → (buildV V l).2 = 0 → VOk (buildV V l).1
 | [], V, h, _ => h
 | p :: r, V, h, he => by
  simp only [buildV] at he ⊢
  split at he
  ·rename_i h1; exact absurd he h1
  ·rename_i h1
   rw [if_neg h1]
   exact build_ok r _ (h.add (by simpa using h1)) he
end Go.Proofs.YthcjikpabpgpfaaGreat
namespace Go.Proofs.YthcjikpabpgpfaaGreat
open Go.RowKit Go.Maps Go.WideMaps
def tokIn (L : List Nm) (i : Int) : Prop := 0 ≤ i ∧ i < L.length
instance (L : List Nm) (i : Int) : Decidable (tokIn L i) := by unfold tokIn; infer_instance
def decT (L : List Nm) (l : List Int) : Nm := textUp L l l.length
def walkE (L : List Nm) (l : List Int) : Int := if ∀ i ∈ l, tokIn L i then (if 4096 < (decT L l).length then 2 else 0) else 1
def startsUp (L : List Nm) (l : List Int) (k : Nat) : List Int := (List.range k).map fun j => ((textUp L l j).length : Int)
theorem startsUp_succ (L : List Nm) (l : List Int) (k : Nat) : startsUp L l (k + 1) = startsUp L l k ++ [((textUp L l k).length : Int)] := by unfold startsUp; rw [List.range_succ, List.map_append]; rfl
theorem startsUp_len (L : List Nm) (l : List Int) (k : Nat) : (startsUp L l k).length = k := by simp [startsUp]
def decR (L : List Nm) (l : List Int) : Nm := if walkE L l = 0 then decT L l else []
def startsR (L : List Nm) (l : List Int) : List Int := if walkE L l = 0 then startsUp L l l.length else []
theorem walkE_fits (L : List Nm) (l : List Int) : 0 ≤ walkE L l ∧ walkE L l ≤ 2 := by unfold walkE; split <;> (try split) <;> omega
def encR (M : List Mg) (s : Nm) : List Int := if 4096 < s.length then [] else encL M s
def encE (s : Nm) : Int := if 4096 < s.length then 2 else 0
def TokI (V : Voc) (x : Int) : Prop := 0 ≤ x ∧ x < V.tok.length
theorem VOk.to_in {V : Voc} (h : VOk V) {k : Nat} (hk : k < V.mer.length) : TokI V (toOf V.mer k) := by
 have hm : V.mer[k]? = some V.mer[k] := List.getElem?_eq_getElem hk
 have h1 := ((merOk_iff hm).1 (h.mer k hk)).1
 have e : toOf V.mer k = V.mer[k].t := by simp [toOf, List.getD_eq_getElem?_getD, hm]
 rw [e]
 exact ⟨h1.2.2.2.2.1, h1.2.2.2.2.2⟩
theorem mem_mergeAt {l : List Int} {i : Nat} {t x : Int} (h : x ∈ mergeAt l i t) : x ∈ l ∨ x = t := by
 unfold mergeAt at h
 rcases List.mem_append.1 h with h | h
 ·exact .inl (List.mem_of_mem_take h)
 ·rcases List.mem_cons.1 h with h | h
  ·exact .inr h
  ·exact .inl (List.mem_of_mem_drop h)
theorem VOk.enc_in {V : Voc} (h : VOk V) (s : Nm) : ∀ x ∈ encL V.mer s, TokI V x := by
 unfold encL
 refine encRun_keeps (M := V.mer) (Q := fun l => ∀ x ∈ l, TokI V x) ?_ _ _ ?_
 ·intro l i k hl hk x hx
  obtain ⟨a, b, _, _, h3⟩ := pairRk_some hk
  rcases mem_mergeAt hx with h4 | h4
  ·exact hl x h4
  ·rw [h4]
   exact h.to_in (rkOf_lt h3).1
 ·intro x hx
  obtain ⟨c, _, rfl⟩ := List.mem_map.1 hx
  have := h.long
  have := c.toNat_lt
  exact ⟨by omega, by omega⟩
theorem VOk.s16 {V : Voc} (h : VOk V) : ∀ x ∈ V.tok, x.length ≤ 4096 := fun x hx => by have := h.short x hx; omega
theorem encR_len (M : List Mg) (s : Nm) : (encR M s).length ≤ 4096 := by
 unfold encR
 split
 ·exact Nat.zero_le _
 ·have := encL_len M s; omega
theorem decT_le {L : List Nm} {l : List Int} (h : walkE L l = 0) : (decT L l).length ≤ 4096 := by
 unfold walkE at h
 split at h
 ·split at h
  ·omega
  ·omega
 ·omega
theorem startsR_fit (L : List Nm) (l : List Int) : ∀ x ∈ startsR L l, 0 ≤ x ∧ x ≤ 4096 := by
 unfold startsR
 split
 ·rename_i h
  intro x hx
  obtain ⟨j, hj, rfl⟩ := List.mem_map.1 hx
  have h1 := textUp_mono L l (Nat.le_of_lt (List.mem_range.1 hj))
  have h2 := decT_le h
  unfold decT at h2
  exact ⟨by omega, by omega⟩
 ·intro x hx; cases hx
theorem startsR_len {L : List Nm} {l : List Int} : (startsR L l).length ≤ l.length := by
 unfold startsR
 split
 ·rw [startsUp_len]; exact Nat.le_refl _
 ·exact Nat.zero_le _
theorem encR_is {M : List Mg} {s : Nm} (h : s.length ≤ 4096) : encR M s = encL M s := by unfold encR; rw [if_neg (by omega)]
end Go.Proofs.YthcjikpabpgpfaaGreat
namespace Go.Proofs.YthcjikpabpgpfaaGreat
def docM (V : Voc) (i : Nat) (p : Nm × Nm) : MDoc := ⟨i, encR V.mer p.2, startsR V.tok (encR V.mer p.2)⟩
def docsM (V : Voc) (l : List (Nm × Nm)) : List MDoc := l.mapIdx (docM V)
def segM (V : Voc) (l : List (Nm × Nm)) (k : Nat) : List MDoc := addUp (docsM V l) k
theorem mD_docsM {V : Voc} {l : List (Nm × Nm)} {i : Nat} {p : Nm × Nm} (h : l[i]? = some p) : mD (docsM V l) i = docM V i p := by
 refine mD_at ?_
 unfold docsM
 rw [List.getElem?_mapIdx, h]
 rfl
theorem segM_succ {V : Voc} {l : List (Nm × Nm)} {i : Nat} {p : Nm × Nm} (h : l[i]? = some p) : segM V l (i + 1) = mAdd (segM V l i) (docM V i p) := by
 unfold segM
 rw [addUp, mD_docsM h]
theorem docM_fit {V : Voc} (hV : VOk V) (i : Nat) (p : Nm × Nm) : (∀ y ∈ (docM V i p).T, 0 ≤ y ∧ y < 512) ∧ ∀ y ∈ (docM V i p).S, 0 ≤ y ∧ y ≤ 4096 := by
 refine ⟨fun y hy => ?_, startsR_fit _ _⟩
 have hy' : y ∈ encR V.mer p.2 := hy
 unfold encR at hy'
 split at hy'
 ·simp at hy'
 ·have h1 := hV.enc_in p.2 y hy'
  have := hV.tl
  have := h1.1
  have := h1.2
  omega
theorem segM_wf {V : Voc} (hV : VOk V) (l : List (Nm × Nm)) {k : Nat} (hk : k ≤ l.length) : MWF (segM V l k) := by
 refine addUp_wf (fun x hx => ?_) k (by unfold docsM; rw [List.length_mapIdx]; exact hk)
 obtain ⟨i, hi⟩ := List.mem_iff_getElem?.1 hx
 unfold docsM at hi
 rw [List.getElem?_mapIdx] at hi
 cases hp : l[i]? with
 | none => rw [hp] at hi; simp at hi
 | some p =>
  rw [hp] at hi
  simp at hi
  subst hi
  obtain ⟨h1, h2⟩ := docM_fit hV i p
  exact ⟨fun y hy => by have := h1 y hy; omega, fun y hy => by have := h2 y hy; omega⟩
theorem sterms_fit {L : List MDoc} (hL : MWF L) {t : Int} (ht : t ∈ mTerms L) : 0 ≤ t ∧ t ≤ 9223372036854775807 := by
 obtain ⟨x, hx, h⟩ := terms_mem.1 ht
 have hd := hL.ok x hx
 obtain ⟨i, hi, e⟩ := List.mem_iff_getElem.1 h
 have h1 := (hd.tok hi).1
 rw [List.getD_eq_getElem?_getD, List.getElem?_eq_getElem hi, Option.getD_some, e] at h1
 exact ⟨h1, hd.fit.1 t h⟩
def docF (p : Nm × Nm) : Nm := putF (putL p.1.length ++ p.1 ++ p.2)
def termB (L : List MDoc) (t : Int) : Nm := putL t.toNat ++ putE (mPosts L t)
def termF (L : List MDoc) (t : Int) : Nm := putF (termB L t)
def headF (n m : Nat) : Nm := putF (putL n ++ putL m)
def segB (V : Voc) (l : List (Nm × Nm)) : Nm := headF l.length (mTerms (segM V l l.length)).length ++ l.flatMap docF ++ (mTerms (segM V l l.length)).flatMap (termF (segM V l l.length))
theorem putF_le {b : Nm} (h : b.length < 2 ^ 64) : (putF b).length ≤ b.length + 14 := by
 rw [putF_len]
 have := putL_len b.length h
 omega
theorem putE_le {L : List MDoc} (hL : MWF L) (t : Int) : (putE (mPosts L t)).length ≤ 368803860 := by
 unfold putE
 split
 ·exact putP_len (posts_valid hL t)
 ·simp
theorem termB_le {L : List MDoc} (hL : MWF L) {t : Int} (ht : t ≤ 9223372036854775807) : (termB L t).length ≤ 368803870 := by
 unfold termB
 rw [List.length_append]
 have h1 := putE_le hL t
 have h2 := putL_len t.toNat (by omega)
 omega
theorem termF_le {L : List MDoc} (hL : MWF L) {t : Int} (ht : t ≤ 9223372036854775807) : (termF L t).length ≤ 368803900 := by
 have h1 := termB_le hL ht
 have h2 := putF_le (b := termB L t) (by omega)
 unfold termF
 omega
theorem docF_le {p : Nm × Nm} (hp : docOk p) : (docF p).length ≤ 4200 := by
 obtain ⟨h1, h2, h3⟩ := hp
 have h4 := putL_len p.1.length (by omega)
 have h5 := putF_le (b := putL p.1.length ++ p.1 ++ p.2) (by simp only [List.length_append]; omega)
 unfold docF
 simp only [List.length_append] at h5
 omega
theorem flat_le {α : Type} (f : α → Nm) (c : Nat) : ∀ l : List α, (∀ x ∈ l, (f x).length ≤ c) → (l.flatMap f).length ≤ l.length * c
 | [], _ => by simp
 | a :: r, h => by
  rw [List.flatMap_cons, List.length_append, List.length_cons, Nat.add_mul]
  have h1 := flat_le f c r fun x hx => h x (List.mem_cons_of_mem _ hx)
  have h2 := h a (List.mem_cons_self ..)
  omega
theorem flat_take {α : Type} (f : α → Nm) {l : List α} {k : Nat} {x : α} (h : l[k]? = some x) : (l.take (k + 1)).flatMap f = (l.take k).flatMap f ++ f x := by
 rw [List.take_add_one, h]
 simp
theorem textUp_flat (L : List Nm) (l : List Int) : ∀ k, k ≤ l.length → textUp L l k = (l.take k).flatMap (tokI L)
 | 0, _ => by simp [textUp]
 | k + 1, h => by
  have e : l[k]? = some (l[k]'(by omega)) := List.getElem?_eq_getElem _
  rw [textUp, textUp_flat L l k (by omega), List.take_add_one, e, List.flatMap_append, List.getD_eq_getElem?_getD, e]
  simp
theorem decT_flat (L : List Nm) (l : List Int) : decT L l = l.flatMap (tokI L) := by
 unfold decT
 rw [textUp_flat L l _ (Nat.le_refl _), List.take_length]
theorem VOk.to_text {V : Voc} (h : VOk V) {k : Nat} {m : Mg} (hm : V.mer[k]? = some m) : tokI V.tok (toOf V.mer k) = tokI V.tok m.a ++ tokI V.tok m.b := by
 have e : toOf V.mer k = m.t := by simp [toOf, List.getD_eq_getElem?_getD, hm]
 obtain ⟨⟨b1, b2, b3, b4, b5, b6⟩, _, h3⟩ := (merOk_iff hm).1 (h.mer k (List.getElem?_eq_some_iff.1 hm).1)
 rw [e]
 unfold tokI
 rw [if_pos ⟨b5, b6⟩, if_pos ⟨b1, b2⟩, if_pos ⟨b3, b4⟩, h3]
theorem pair_split {l : List Int} {i : Nat} {a b : Int} (ha : l[i]? = some a) (hb : l[i + 1]? = some b) : l = l.take i ++ a :: b :: l.drop (i + 2) := by
 have h1 : l.drop i = a :: l.drop (i + 1) := by
  obtain ⟨h, e⟩ := List.getElem?_eq_some_iff.1 ha
  rw [List.drop_eq_getElem_cons h, e]
 have h2 : l.drop (i + 1) = b :: l.drop (i + 2) := by
  obtain ⟨h, e⟩ := List.getElem?_eq_some_iff.1 hb
  rw [List.drop_eq_getElem_cons h, e]
 rw [← h2, ← h1, List.take_append_drop]
theorem VOk.enc_text {V : Voc} (h : VOk V) (s : Nm) : (encL V.mer s).flatMap (tokI V.tok) = s := by
 unfold encL
 refine encRun_keeps (M := V.mer) (Q := fun l => l.flatMap (tokI V.tok) = s) ?_ _ _ ?_
 ·intro l i k hl hk
  obtain ⟨a, b, ha, hb, h3⟩ := pairRk_some hk
  obtain ⟨_, m, hm, rfl, rfl⟩ := rkOf_lt h3
  have e := pair_split ha hb
  rw [← hl]
  conv => rhs; rw [e]
  unfold mergeAt
  simp only [List.flatMap_append, List.flatMap_cons, List.append_assoc]
  rw [h.to_text hm, List.append_assoc]
 ·unfold bytesI
  rw [List.flatMap_map]
  have : ∀ c : UInt8, tokI V.tok (c.toNat : Int) = [c] := fun c => by
   have h1 := h.single c.toNat c.toNat_lt
   have h2 := h.long
   have h3 := c.toNat_lt
   unfold tokI
   rw [if_pos ⟨by omega, by omega⟩, Int.toNat_natCast, List.getD_eq_getElem?_getD, h1]
   simp
  simp only [this]
  simp
theorem VOk.enc_walk {V : Voc} (h : VOk V) {s : Nm} (hs : s.length ≤ 4096) : walkE V.tok (encL V.mer s) = 0 ∧ decR V.tok (encL V.mer s) = s := by
 have e : decT V.tok (encL V.mer s) = s := by rw [decT_flat, h.enc_text]
 have h0 : walkE V.tok (encL V.mer s) = 0 := by
  unfold walkE
  rw [if_pos (show ∀ i ∈ encL V.mer s, tokIn V.tok i from h.enc_in s), if_neg (by rw [e]; omega)]
 refine ⟨h0, ?_⟩
 unfold decR
 rw [if_pos h0, e]
end Go.Proofs.YthcjikpabpgpfaaGreat
namespace Go.Proofs.YthcjikpabpgpfaaGreat
open Go.RowKit Go.Maps Go.WideMaps
theorem results_cell_row_tmp {P : Program} {fn : Func} {p u : Tmp} {ty : TypeId} (h : fn.results = #[.cell p ty, .tmp u]) (tmps : Array Value) (w : World) (g : Nat) (t : TypeId) (cs : Array Value) (fr : Nat × Nat) (d : TypeDesc)
  (hp : tmps.getD p undef = .pointer (some ⟨g, 0, none⟩)) (hg : w.heap[g]? = some (.cells cs t fr))
  (hu : P.underlying ty = some d) (hd : (match d with | .struct _ | .array _ _ => true | _ => false) = true) (hi : (P.info? ty).map (·.size) = some cs.size) :
  (results fn tmps).run P w = .ok (.tuple #[.agg cs, tmps.getD u undef]) w := by
 rw [results_cell_tmp h, hp]
 simp [asAddr, run_loadVar_row w g t ty cs fr d hg hu hd hi, Result.andThen]
theorem addr_add (g k : Nat) : (⟨g, 0, none⟩ : Addr).add k = ⟨g, k, none⟩ := by unfold Addr.add; split <;> simp_all
theorem vocabCells : (Tryz.prog.info? 30).map (·.size) = some 2 := by kernel_rfl
theorem not_bytes {w : World} {g : Nat} {t : TypeId} {cs : Array Value} (hb : Blk w g t cs) (hcs : ∀ (i : Nat) (c : UInt8), cs[i]? ≠ some (byteV c)) (A : Option Addr) (x : Nm) (hx : BytesIn w A x.length x) : ∀ ad, A = some ad → 0 < x.length → ad.block ≠ g := fun ad e h0 hg => by
 subst e
 obtain ⟨_, c, e1, _, hc⟩ := hx.at 0 h0
 cases e1
 have : w.cell? ad = some (byteV c) := by simpa [Addr.add, byteV] using hc
 have h2 : w.cell? ad = cs[ad.off]? := by
  have hb' : w.heap[ad.block]? = some (.cells cs t (0, 0)) := by rw [hg]; exact hb
  unfold World.cell?
  rw [hb']
  by_cases hs : ad.spot.isSome = true
  ·unfold World.cell? at this
   rw [hb'] at this
   simp [hs] at this
  ·simp [hs]
 rw [h2] at this
 exact hcs _ _ this
theorem ones_take {j : Nat} (h : j < 256) : ones.take (j + 1) = ones.take j ++ [[UInt8.ofNat j]] := by
 rw [List.take_add_one, ones_at h]; rfl
theorem own_leE {w : World} {base base' : Nat} {e : TypeId} {size n : Nat} {v : Value} {xs : List Value} (h : w.ownsRow base e size v n xs) (hb : base' ≤ base) : w.ownsRow base' e size v n xs :=
 ⟨h.1, h.2.imp id fun ⟨g, cap, cur, h1, h2, h3⟩ => ⟨g, cap, cur, h1, Nat.le_trans hb h2, h3⟩⟩
def ListOut (w : World) (l : List Int) (r : Int) (e : Ending) (w' : World) : Prop :=
 ∃ v, e = .returned (.tuple #[v, .int .i64 r]) ∧ w'.ownsRow w.heap.size 3 1 v l.length (l.map i64V) ∧ Below w.heap.size w w'
def TxtOut (w : World) (s : Nm) (r : Int) (e : Ending) (w' : World) : Prop :=
 ∃ v, e = .returned (.tuple #[v, .int .i64 r]) ∧ w'.ownsRow w.heap.size 5 1 v s.length (s.map byteV) ∧ Below w.heap.size w w'
def TextIs (w : World) (s : Nm) (k : Nat) (r : Int) (e : Ending) (w' : World) : Prop :=
 ∃ A c, e = .returned (.tuple #[.slice A k c, .int .i64 r]) ∧ BytesIn w' A k s ∧ k ≤ c ∧ Below w.heap.size w w'
theorem TxtOut.is {w w' : World} {s : Nm} {r : Int} {e : Ending} {k : Nat} (h : TxtOut w s r e w') (hk : s.length = k) (hn : k ≤ 1099511627776) : TextIs w s k r e w' := by
 obtain ⟨v, rfl, h1, h2⟩ := h
 obtain ⟨A, c, rfl, hc⟩ := own_cap h1
 subst hk
 exact ⟨A, c, rfl, BytesIn.own h1 (by unfold maxLen; omega), hc, h2⟩
theorem at_one {w : World} {ad : Addr} {v : Value} (h : w.cell? (ad.add 1) = some v) : w.cell? ⟨ad.block, ad.off + 1, none⟩ = some v := by
 have e : ad.add 1 = ⟨(ad.add 0).block, (ad.add 0).off + 1, none⟩ := add_pos' ad 0 1 (by omega)
 have e0 : ad.add 0 = ad := by simp [Addr.add]
 rw [e, e0] at h
 exact h
theorem one_cell_at {w : World} {t : TypeId} {x : Value} : ∀ (j : Nat) (u : Value), [x][j]? = some u → (w.alloc (.cells #[x] t)).cell? ((⟨w.heap.size, 0, none⟩ : Addr).add j) = some u := fun j u hu => by
 rw [addr_add, (Blk.new w t #[x]).cell j]
 simpa using hu
theorem one_single {V : Voc} (hO : VOk V) {t : Nat} {x : Nm} (hx : V.tok[t]? = some x) (h1 : x.length = 1) : t < 256 ∧ x = [UInt8.ofNat t] := by
 obtain ⟨y, rfl⟩ : ∃ y, x = [y] := List.length_eq_one_iff.1 h1
 have h2 := hO.single y.toNat (y.toBitVec.isLt)
 have e : UInt8.ofNat y.toNat = y := by simp
 rw [e] at h2
 have h3 := hO.uniq t _ hx
 have h4 := hO.uniq y.toNat _ h2
 have h5 : t = y.toNat := by omega
 subst h5
 exact ⟨y.toBitVec.isLt, by rw [e]⟩
theorem own_int_at {w : World} {base : Nat} {v : Value} {l : List Int} (h : w.ownsRow base 3 1 v l.length (l.map i64V)) {p : Nat} {x : Int} (hx : l[p]? = some x) : ∃ ad c, v = .slice (some ad) l.length c ∧ w.cell? (ad.add p) = some (.int .i64 x) ∧ l.length ≤ c := by
 obtain ⟨A, c, e, hc⟩ := own_cap h
 have hp := (List.getElem?_eq_some_iff.1 hx).1
 cases A with
 | none =>
  subst e
  rcases h.2 with ⟨h1, h2⟩ | ⟨g, cap, cur, h1, _⟩
  ·omega
  ·cases h1
 | some ad =>
  refine ⟨ad, c, e, ?_, hc⟩
  subst e
  exact (src_of_own h).cells ad rfl p (.int .i64 x) (by rw [List.getElem?_map, hx]; rfl)
structure SrcN (w : World) (A : Option Addr) (m size : Nat) (xs : List Value) : Prop where
 len : xs.length = m * size
 cells : ∀ ad, A = some ad → ∀ j u, xs[j]? = some u → w.cell? (ad.add j) = some u
 nil : A = none → m = 0
theorem append_srcN {P : Program} (w : World) (base : Nat) (t ty e : TypeId) (i : TypeInfo) (z : Value) (size bytes : Nat) (ht : P.underlying t = some (.slice e)) (hi : P.info? e = some i) (hz : i.zero = some z)
  (hsize : i.size = size) (hby : i.bytes = bytes) (hzs : z.cells.size = size) (hsz : 0 < size) (v : Value) (n : Nat) (xs : List Value) (hown : w.ownsRow base e size v n xs)
  (A : Option Addr) (m c : Nat) (news : List Value) (hr : SrcN w A m size news) (h1 : ∀ u ∈ news, u.oneCell' = true)
  (h63 : n + m ≤ maxLen) (hbytes : (n + m) * bytes ≤ 140737488355328) (hbase : base ≤ w.heap.size) :
  ∃ v' w', (Builtin.append_ #[t, t] ty #[v, .slice A m c]).run P w = .ok v' w' ∧ w'.ownsRow base e size v' (n + m) (xs ++ news) ∧ w.grownBy w' v.ownBlock ∧
   (v'.ownBlock = v.ownBlock ∨ v'.ownBlock = some w.heap.size) := by
 cases A with
 | none =>
  have hm := hr.nil rfl
  subst hm
  have hn : news = [] := List.eq_nil_of_length_eq_zero (by rw [hr.len]; omega)
  subst hn
  refine ⟨v, w, ?_, by simpa using hown, World.grownBy.refl w _, .inl rfl⟩
  rcases hown.2 with ⟨rfl, rfl⟩ | ⟨g, cap, cur, rfl, _, _, hnc, _⟩
  ·simp [Builtin.append_, run_underlying ht, sizeOf, typeInfo, hi, Builtin.lenOf, Builtin.firstCells]
  ·simp [Builtin.append_, run_underlying ht, sizeOf, typeInfo, hi, Builtin.lenOf, Builtin.firstCells, hnc, storeCells]
 | some ad =>
  obtain ⟨v', w', hrun, h2, h3, _, h5⟩ := run_append_own_at (P := P) w base t ty e i z size bytes ht hi hz hsize hby hzs hsz v n xs hown ad m c news hr.len (hr.cells ad rfl) h1 h63 hbytes hbase
  exact ⟨v', w', hrun, h2, h3, h5⟩
theorem step_append_srcN {P : Program} (w : World) {ops : Array Oper} {o : Oper} {a : Act} {K : Act → World → Prop} {Q : Exit → Act → World → Prop} {E : Prop} (hgd : o.guard = none) (s x : Operand) (t : TypeId)
  (ho : o.op = .call { callee := .builtin .append, args := #[s, x], argTypes := #[t, t] })
  (base : Nat) (e : TypeId) (i : TypeInfo) (z : Value) (size bytes : Nat) (ht : P.underlying t = some (.slice e)) (hi : P.info? e = some i) (hz : i.zero = some z)
  (hsize : i.size = size) (hby : i.bytes = bytes) (hzs : z.cells.size = size) (hsz : 0 < size)
  (v : Value) (n : Nat) (xs : List Value) (hs : a.eval s = v) (hown : w.ownsRow base e size v n xs)
  (A : Option Addr) (m c : Nat) (news : List Value) (hx : a.eval x = .slice A m c) (hr : SrcN w A m size news) (h1 : ∀ u ∈ news, u.oneCell' = true)
  (h63 : n + m ≤ maxLen) (hbytes : (n + m) * bytes ≤ 140737488355328) (hbase : base ≤ w.heap.size)
  (h : ∀ v' w', w'.ownsRow base e size v' (n + m) (xs ++ news) → w.grownBy w' v.ownBlock → (v'.ownBlock = v.ownBlock ∨ v'.ownBlock = some w.heap.size) → K (a.put o.dst v') w') :
  if Region.wanted o (yielded ops a.tmps) = true then Oper.wp P o a w K Q else E := by
 have hw : Region.wanted o (yielded ops a.tmps) = true := by simp [Region.wanted, hgd]
 rw [if_pos hw]
 obtain ⟨v', w', hrun, h2, h3, h4⟩ := append_srcN (P := P) w base t o.type e i z size bytes ht hi hz hsize hby hzs hsz v n xs hown A m c news hr h1 h63 hbytes hbase
 unfold Oper.wp execOp
 simp only [ho, resolve, invoke, builtin, Sem.run_bind, Sem.run_pure, Result.andThen_ok, List.map_toArray, List.map_cons, List.map_nil, hs, hx, hrun]
 exact h v' w' h2 h3 h4
theorem flat_at {α : Type} {f : α → List Value} {s : Nat} (hs : ∀ a, (f a).length = s) : ∀ (L : List α) (i j : Nat) (a : α) (u : Value), L[i]? = some a → (f a)[j]? = some u → (L.flatMap f)[i * s + j]? = some u
 | [], i, j, a, u, h1, _ => by simp at h1
 | b :: r, i, j, a, u, h1, h2 => by
  have hj : j < s := by have := (List.getElem?_eq_some_iff.1 h2).1; rw [hs] at this; exact this
  rw [List.flatMap_cons]
  cases i with
  | zero =>
   simp at h1
   subst h1
   rw [List.getElem?_append_left (by rw [hs]; omega)]
   simpa using h2
  | succ i =>
   simp at h1
   rw [List.getElem?_append_right (by rw [hs, Nat.add_mul]; omega)]
   have : (i + 1) * s + j - (f b).length = i * s + j := by rw [hs, Nat.add_mul]; omega
   rw [this]
   exact flat_at hs r i j a u h1 h2
theorem flat_inv {α : Type} {f : α → List Value} {s : Nat} (hs0 : 0 < s) (hs : ∀ a, (f a).length = s) (L : List α) (q : Nat) (u : Value) (h : (L.flatMap f)[q]? = some u) : ∃ a, L[q / s]? = some a ∧ (f a)[q % s]? = some u := by
 have hlen : ∀ L : List α, (L.flatMap f).length = L.length * s := fun L => by
  induction L with
  | nil => simp
  | cons a r ih => rw [List.flatMap_cons, List.length_append, ih, hs, List.length_cons, Nat.add_mul]; omega
 have hq := (List.getElem?_eq_some_iff.1 h).1
 rw [hlen] at hq
 have hi : q / s < L.length := (Nat.div_lt_iff_lt_mul hs0).2 hq
 have ha : L[q / s]? = some (L[q / s]'hi) := List.getElem?_eq_getElem _
 have hj : q % s < (f (L[q / s]'hi)).length := by rw [hs]; exact Nat.mod_lt _ hs0
 have hu := flat_at hs L (q / s) (q % s) _ _ ha (List.getElem?_eq_getElem hj)
 have e : q / s * s + q % s = q := by rw [Nat.mul_comm]; exact Nat.div_add_mod q s
 rw [e, h] at hu
 exact ⟨_, ha, by rw [hu]; exact List.getElem?_eq_getElem hj⟩
end Go.Proofs.YthcjikpabpgpfaaGreat
namespace Go.Proofs.YthcjikpabpgpfaaGreat
theorem build_more_err (p : Int × Int) : ∀ (l : List (Int × Int)) (V : Voc), (buildV V l).2 ≠ 0 → buildV V (l ++ [p]) = buildV V l
 | [], V, h => absurd rfl h
 | q :: r, V, h => by
  rw [List.cons_append]
  by_cases hq : pairErr V q.1 q.2 ≠ 0
  ·simp only [buildV, if_pos hq]
  ·simp only [buildV, if_neg hq] at h ⊢
   exact build_more_err p r _ h
end Go.Proofs.YthcjikpabpgpfaaGreat
namespace Go.Proofs.YthcjikpabpgpfaaGreat
open Go.RowKit Go.Maps Go.WideMaps
theorem find_take {L : List Nm} {k : Nat} {x : Nm} (hx : L[k]? = some x) : findT L x = (k : Int) ↔ findT (L.take k) x < 0 := by
 have hk := (List.getElem?_eq_some_iff.1 hx).1
 constructor
 ·intro h
  rw [findT_none]
  ·omega
  ·intro y hy e
   obtain ⟨j, hj, rfl⟩ := List.mem_iff_getElem.1 hy
   rw [List.length_take] at hj
   rcases findT_cases L x with ⟨h1, h2⟩ | ⟨i, h1, _, h3⟩
   ·omega
   ·obtain rfl : i = k := by omega
    rw [List.getElem_take] at e
    exact h3 j _ (by omega) (List.getElem?_eq_getElem (by omega)) e
 ·intro h
  refine findT_at hx fun j y hj hy e => ?_
  rcases findT_cases (L.take k) x with ⟨_, h2⟩ | ⟨i, h1, _⟩
  ·exact h2 y (List.mem_of_getElem? (i := j) (by rw [List.getElem?_take, if_pos hj]; exact hy)) e
  ·omega
theorem tokOk_eq {L : List Nm} {k : Nat} {x : Nm} (hx : L[k]? = some x) : tokOk L k = (decide (0 < x.length) && (decide (x.length ≤ 16) && decide (findT (L.take k) x < 0))) := by
 unfold tokOk
 rw [List.getD_eq_getElem?_getD, hx]
 simp only [Option.getD_some]
 congr 2
 exact decide_eq_decide.2 (find_take hx)
theorem vtake_snoc {α : Type} {L : List α} {k : Nat} {x : α} (hx : L[k]? = some x) : L.take (k + 1) = L.take k ++ [x] := by
 rw [List.take_add_one, hx]; rfl
theorem tokOk_short {L : List Nm} (h : ∀ k, k < L.length → tokOk L k = true) : ∀ x ∈ L, 1 ≤ x.length ∧ x.length ≤ 16 := fun x hx => by
 obtain ⟨k, hk, rfl⟩ := List.mem_iff_getElem.1 hx
 have := h k hk
 rw [tokOk_eq (List.getElem?_eq_getElem hk)] at this
 simp only [Bool.and_eq_true, decide_eq_true_eq] at this
 exact ⟨this.1, this.2.1⟩
theorem merOk_eq {V : Voc} (h : ∀ k, k < V.tok.length → tokOk V.tok k = true) {k : Nat} {m : Mg} (hm : V.mer[k]? = some m) : merOk V k = mayM ⟨V.tok, V.mer.take k⟩ m := by
 rw [Bool.eq_iff_iff, merOk_iff hm]
 unfold mayM freeB
 simp only [Bool.and_eq_true, decide_eq_true_eq, Bool.not_eq_true']
 have e : bothT ⟨V.tok, V.mer.take k⟩ m.a m.b = V.tok.getD m.a.toNat [] ++ V.tok.getD m.b.toNat [] := rfl
 rw [e]
 constructor
 ·rintro ⟨⟨h1, h2, h3, h4, h5, h6⟩, h7, h8⟩
  have ht : V.tok[m.t.toNat]? = some (V.tok.getD m.a.toNat [] ++ V.tok.getD m.b.toNat []) := by
   rw [← h8, List.getD_eq_getElem?_getD, List.getElem?_eq_getElem (by omega)]
   rfl
  have hk := h m.t.toNat (by omega)
  rw [tokOk_eq ht] at hk
  simp only [Bool.and_eq_true, decide_eq_true_eq] at hk
  have hf := (find_take ht).2 hk.2.2
  exact ⟨⟨⟨h1, h2⟩, ⟨h3, h4⟩, h7⟩, by omega, by omega⟩
 ·rintro ⟨⟨⟨h1, h2⟩, ⟨h3, h4⟩, h7⟩, h8, h9⟩
  rcases findT_cases V.tok (V.tok.getD m.a.toNat [] ++ V.tok.getD m.b.toNat []) with ⟨hn, _⟩ | ⟨i, hi, hx, _⟩
  ·omega
  ·have hl := (List.getElem?_eq_some_iff.1 hx).1
   refine ⟨⟨h1, h2, h3, h4, by omega, by omega⟩, h7, ?_⟩
   have : m.t.toNat = i := by omega
   rw [this, List.getD_eq_getElem?_getD, hx]
   rfl
theorem vCheck_any (w : World) (A B : Option Addr) (n m ca cb : Nat) (V : Voc) (hV : VocSee w A B n m ca cb V) :
  Calls Tryz.prog 38 #[vocV A B n m ca cb] w fun e w' => e = .returned (.int .i64 (checkV V)) ∧ Below w.heap.size w w' := by
 obtain ⟨R, hR⟩ : ∃ R, R = checkV V := ⟨_, rfl⟩
 rw [← hR]
 unfold checkV at hR
 have HV := Lib.hid hV
 have hn := hV.tok.len
 have hm := hV.mer.len
 have hn63 : n ≤ 9223372036854775807 := hV.tok.fit
 have hm63 : m ≤ 9223372036854775807 := hV.mer.fit
 rw [hn, hm] at hR
 have HN := Lib.hid hn
 have HM := Lib.hid hm
 clear hV hn hm
 unfold vocV
 by_cases hbig : 512 < n ∨ 512 < m
 ·rw [if_pos hbig] at hR
  have HR := Lib.hid hR
  clear hR
  by_cases h1 : 512 < n
  ·have d1 : decide ((512 : Int) < (n : Int)) = true := by simp; omega
   go_enter Tryz.func38, Tryz.ntmps38
   go_wp2
   go_ret
   exact ⟨by rw [HR.out]; rfl, (Below.refl _ w).alloc (Nat.le_refl _) _⟩
  ·have d1 : decide ((512 : Int) < (n : Int)) = false := by simp; omega
   have d2 : decide ((512 : Int) < (m : Int)) = true := by simp; omega
   go_enter Tryz.func38, Tryz.ntmps38
   go_wp2
   go_ret
   exact ⟨by rw [HR.out]; rfl, (Below.refl _ w).alloc (Nat.le_refl _) _⟩
 ·rw [if_neg hbig] at hR
  have HR := Lib.hid hR
  clear hR
  have hn512 : n ≤ 512 := by omega
  have hm512 : m ≤ 512 := by omega
  have d1 : decide ((512 : Int) < (n : Int)) = false := by simp; omega
  have d2 : decide ((512 : Int) < (m : Int)) = false := by simp; omega
  have b1 : Below w.heap.size w (w.alloc (.cells #[.slice A n ca, .slice B m cb] 30)) := (Below.refl _ w).alloc (Nat.le_refl _) _
  obtain ⟨W1, hW1⟩ : ∃ W1, W1 = w.alloc (.cells #[.slice A n ca, .slice B m cb] 30) := ⟨_, rfl⟩
  have hv0 : Blk W1 w.heap.size 30 #[.slice A n ca, .slice B m cb] := by rw [hW1]; exact Blk.new _ _ _
  rw [← hW1] at b1
  have hs1 : W1.heap.size = w.heap.size + 1 := by rw [hW1]; simp
  have y0 := hv0.cell 0
  have y1 := hv0.cell 1
  simp only [lz0, lz1, lz2] at y0 y1
  have HW := Lib.hid hW1
  have HB1 := Lib.hid b1
  have HV0 := Lib.hid hv0
  have HS1 := Lib.hid hs1
  clear hW1 b1 hv0 hs1 hbig
  go_enter Tryz.func38, Tryz.ntmps38
  go_wp2_with fail
  rw [← HW.out]
  refine (newGrowing_any W1).mono ?_
  rintro e w2 ⟨b, rfl, hg2, hb2⟩
  have HG2 := Lib.hid hg2
  have HB2 := Lib.hid hb2
  have hv2 := HV0.out.below hb2 HV0.out.lt
  have y0' := hv2.cell 0
  simp only [lz0, lz1, lz2] at y0'
  clear hg2 hb2 y0 y1 hv2
  unfold at0
  go_wp2_with fail
  go_loopw [22] (fun i wr => ∃ (k : Nat) (F : Nat → Prop), k ≤ n ∧ i = .int .i64 k ∧ Grow wr F b ⟨V.tok.take k, []⟩ ∧ (∀ i, F i → W1.heap.size ≤ i) ∧ Below W1.heap.size W1 wr ∧ ∀ c, c < k → tokOk V.tok c = true) (fun i _ => n - (intOf i).toNat)
  case atStart => exact ⟨0, _, by omega, rfl, HG2.out, fun i hi => hi.1, HB2.out, fun c h => by omega⟩
  case round =>
   clear y0'
   obtain ⟨k, F, hk, rfl, hG, hF, hB, hok⟩ := hrel
   have HG := Lib.hid hG
   have HF := Lib.hid hF
   have HB := Lib.hid hB
   have HOK := Lib.hid hok
   have HBW := Lib.hid (below_then HB1.out hB HB1.out.size)
   clear hG hF hB hok
   rcases Nat.lt_or_ge k n with hlt | hge
   ·have hlt' : (k : Int) < (n : Int) := by omega
    obtain ⟨x, hx⟩ : ∃ x, V.tok[k]? = some x := ⟨_, List.getElem?_eq_getElem (by rw [HN.out]; exact hlt)⟩
    obtain ⟨ad, A', c', rfl, ec, hc', hA⟩ := HV.out.tok.at_ k x hx
    have ec' := (HBW.out.cell (World.block_lt_of_cell? w _ ec)).trans ec
    have htk := tokOk_eq hx
    have HTS := Lib.hid (vtake_snoc hx)
    have hA' := hA.below HBW.out
    have hap : ∀ ad, A' = some ad → 0 < x.length → ¬ F ad.block := fun ad e h0 hf => by
     have h1 := hA.2.2 ad e h0
     have h2 := HF.out _ hf
     have h3 := HS1.out
     omega
    have hx16 : V.tok.length = n := HN.out
    have HA := Lib.hid hA'
    have HAP := Lib.hid hap
    have HC := Lib.hid hc'
    clear hA hA' hap ec hx hc' hx16
    cases hr : (decide (0 < x.length) && (decide (x.length ≤ 16) && decide (findT (V.tok.take k) x < 0))) with
    | false =>
     rw [hr] at htk
     have HRR := Lib.hid hr
     have hfin : R = 52 := by
      rw [HR.out, if_pos]
      rw [all_range_false hlt htk]
      simp
     have HFIN := Lib.hid hfin
     clear hr htk hfin
     go_wp2_with fail
     refine (mayAdd_is _ F b ⟨V.tok.take k, []⟩ HG.out A' x.length c' x HA.out HRR.out).mono ?_
     rintro e w3 ⟨rfl, hb3⟩
     have HB3 := Lib.hid (below_then HBW.out hb3 HBW.out.size)
     clear hb3 ec'
     go_wp2
     go_ret
     exact ⟨by rw [HFIN.out]; rfl, HB3.out⟩
    | true =>
     rw [hr] at htk
     have HRR := Lib.hid hr
     have HTK := Lib.hid htk
     have hnew : findT (V.tok.take k) x < 0 := by simp only [Bool.and_eq_true, decide_eq_true_eq] at hr; exact hr.2.2
     have HNEW := Lib.hid hnew
     clear hr htk hnew
     go_wp2_with fail
     refine (mayAdd_is _ F b ⟨V.tok.take k, []⟩ HG.out A' x.length c' x HA.out HRR.out).mono ?_
     rintro e w3 ⟨rfl, hb3⟩
     have HG3 := Lib.hid (HG.out.kept hb3)
     have HB3 := Lib.hid (below_then HB.out hb3 HB.out.size)
     have HTI := Lib.hid (⟨A', c', rfl, HC.out, HA.out.below hb3, HAP.out⟩ : TokIn w3 F (.slice A' x.length c') x)
     clear hb3 ec'
     go_wp2_with fail
     refine (addToken_any w3 F b ⟨V.tok.take k, []⟩ HG3.out A' x.length c' x HTI.out HNEW.out (by show (V.tok.take k).length < _; rw [List.length_take]; omega)).mono ?_
     rintro e w4 ⟨rfl, hg4, hk4⟩
     have HG4 := Lib.hid hg4
     have HB4 := Lib.hid (HB3.out.trans (hk4.toBelow HB3.out.size HF.out))
     clear hg4 hk4
     go_wp2
     go_roundw
     case rel =>
      refine ⟨k + 1, _, by omega, by go_num, by rw [HTS.out]; exact HG4.out, fun i hi => ?_, HB4.out, fun c hc => ?_⟩
      ·rcases hi with hi | hi
       ·exact HF.out i hi
       ·have := HB3.out.size
        omega
      ·rcases Nat.lt_or_ge c k with h | h
       ·exact HOK.out c h
       ·obtain rfl : c = k := by omega
        exact HTK.out
     case measure => simp [intOf]; omega
   ·obtain rfl : k = n := by omega
    have hkz : ¬ ((k : Int) < (k : Int)) := by omega
    have hall : (List.range k).all (tokOk V.tok) = true := all_range_true HOK.out
    have htl : V.tok.take k = V.tok := List.take_of_length_le (by rw [HN.out]; exact Nat.le_refl _)
    have HG' := Lib.hid (htl ▸ HG.out)
    have HTOK := Lib.hid (fun c (hc : c < V.tok.length) => HOK.out c (by rw [← HN.out]; exact hc))
    have hres : R = if ¬ (List.range 256).all (fun c => decide (0 ≤ findT V.tok [UInt8.ofNat c])) = true then 51 else if ¬ (List.range m).all (merOk V) = true then 53 else 0 := by
     rw [HR.out, if_neg (by rw [hall]; simp)]
    have HRES := Lib.hid hres
    clear hall htl hres HG
    go_wp2_with fail
    refine (hasSingles_any wr F b ⟨V.tok, []⟩ HG'.out).mono ?_
    rintro e w3 ⟨rfl, hb3⟩
    have HG3 := Lib.hid (HG'.out.kept hb3)
    have HB3 := Lib.hid (below_then HB.out hb3 HB.out.size)
    have HBW3 := Lib.hid (below_then HBW.out hb3 HBW.out.size)
    have hv3 := HV0.out.below HB3.out (by have := HS1.out; omega)
    have y1 := hv3.cell 1
    simp only [lz0, lz1, lz2] at y1
    clear hb3 hv3
    cases hsg : (List.range 256).all (fun c => decide (0 ≤ findT V.tok [UInt8.ofNat c])) with
    | false =>
     have hfin : R = 51 := by rw [HRES.out, if_pos (by rw [hsg]; simp)]
     have HFIN := Lib.hid hfin
     clear hfin
     go_wp2
     go_ret
     exact ⟨by rw [HFIN.out]; rfl, HBW3.out⟩
    | true =>
     have hres : R = if ¬ (List.range m).all (merOk V) = true then 53 else 0 := by rw [HRES.out, if_neg (by rw [hsg]; simp)]
     have HRES2 := Lib.hid hres
     clear hres
     go_wp2_with fail
     go_loopw [40] (fun i wr => ∃ (k : Nat) (F : Nat → Prop), k ≤ m ∧ i = .int .i64 k ∧ Grow wr F b ⟨V.tok, V.mer.take k⟩ ∧ (∀ i, F i → W1.heap.size ≤ i) ∧ Below W1.heap.size W1 wr ∧ ∀ c, c < k → merOk V c = true) (fun i _ => m - (intOf i).toNat)
     case atStart => exact ⟨0, F, by omega, rfl, HG3.out, HF.out, HB3.out, fun c h => by omega⟩
     case round =>
      clear HB HF HG3 HB3 HBW HBW3 HG' y1
      obtain ⟨i, F, hi, rfl, hG, hF, hB, hok⟩ := hrel
      have HG := Lib.hid hG
      have HF := Lib.hid hF
      have HB := Lib.hid hB
      have HOK3 := Lib.hid hok
      have HBW := Lib.hid (below_then HB1.out hB HB1.out.size)
      clear hG hF hB hok
      rcases Nat.lt_or_ge i m with hlt | hge
      ·have hlt' : (i : Int) < (m : Int) := by omega
       obtain ⟨mg, hmg⟩ : ∃ mg, V.mer[i]? = some mg := ⟨_, List.getElem?_eq_getElem (by rw [HM.out]; exact hlt)⟩
       obtain ⟨pb, rfl, ea, eb, et⟩ := (HV.out.mer.below HBW.out).at_ i mg hmg
       have hfit : mgFits mg := HV.out.mer.bound mg (List.mem_of_getElem? hmg)
       have hmo := merOk_eq HTOK.out hmg
       have HTS := Lib.hid (vtake_snoc hmg)
       have hb1 := HB.out.alloc HB.out.size (.cells #[.int .i64 mg.a, .int .i64 mg.b, .int .i64 mg.t] 88)
       have hg1 := HG.out.kept ((Below.refl _ wr).alloc (Nat.le_refl _) (.cells #[.int .i64 mg.a, .int .i64 mg.b, .int .i64 mg.t] 88))
       obtain ⟨W4, hW4⟩ : ∃ W4, W4 = wr.alloc (.cells #[.int .i64 mg.a, .int .i64 mg.b, .int .i64 mg.t] 88) := ⟨_, rfl⟩
       have hp4 : Blk W4 wr.heap.size 88 #[.int .i64 mg.a, .int .i64 mg.b, .int .i64 mg.t] := by rw [hW4]; exact Blk.new _ _ _
       rw [← hW4] at hb1 hg1
       have HW4 := Lib.hid hW4
       have HP4 := Lib.hid hp4
       have HB4 := Lib.hid hb1
       have HG4 := Lib.hid hg1
       have HMO := Lib.hid hmo
       have HFT := Lib.hid hfit
       have z0 := hp4.cell 0
       have z1 := hp4.cell 1
       have z2 := hp4.cell 2
       simp only [lz0, lz1, lz2] at z0 z1 z2
       have HSHT := Lib.hid (tokOk_short HTOK.out)
       clear hb1 hg1 hW4 hp4 hmo hfit hmg
       go_wp2_with fail
       try rw [← HW4.out]
       obtain ⟨r, hr⟩ : ∃ r, mayM ⟨V.tok, V.mer.take i⟩ mg = r := ⟨_, rfl⟩
       refine (mayMerge_any W4 F b ⟨V.tok, V.mer.take i⟩ HG4.out HSHT.out mg HFT.out).mono ?_
       rintro e w5 ⟨rfl, hb5⟩
       rw [hr] at HMO ⊢
       have HB5 := Lib.hid (below_then HB4.out hb5 HB4.out.size)
       have HG5 := Lib.hid (HG4.out.kept hb5)
       have hp5 := HP4.out.below hb5 HP4.out.lt
       have x0 := hp5.cell 0
       have x1 := hp5.cell 1
       have x2 := hp5.cell 2
       simp only [lz0, lz1, lz2] at x0 x1 x2
       clear hb5 hr hp5 ea eb et z0 z1 z2
       cases r with
       | false =>
        have hfin : R = 53 := by
         rw [HRES2.out, if_pos]
         rw [all_range_false hlt HMO.out]
         simp
        have HFIN := Lib.hid hfin
        clear hfin
        go_wp2
        go_ret
        exact ⟨by rw [HFIN.out]; rfl, below_then HB1.out HB5.out HB1.out.size⟩
       | true =>
        go_wp2_with fail
        refine (addMerge_any w5 F b ⟨V.tok, V.mer.take i⟩ HG5.out mg HFT.out (by show (V.mer.take i).length < _; rw [List.length_take]; omega)).mono ?_
        rintro e w6 ⟨rfl, hg6, hk6⟩
        have HG6 := Lib.hid hg6
        have HB6 := Lib.hid (HB5.out.trans (hk6.toBelow HB5.out.size HF.out))
        clear hg6 hk6 x0 x1 x2
        go_wp2
        go_roundw
        case rel =>
         refine ⟨i + 1, _, by omega, by go_num, by rw [HTS.out]; exact HG6.out, fun c hc => ?_, HB6.out, fun c hc => ?_⟩
         ·rcases hc with hc | hc
          ·exact HF.out c hc
          ·have := HB5.out.size
           omega
         ·rcases Nat.lt_or_ge c i with h | h
          ·exact HOK3.out c h
          ·obtain rfl : c = i := by omega
           exact HMO.out
        case measure => simp [intOf]; omega
      ·obtain rfl : i = m := by omega
       have hiz : ¬ ((i : Int) < (i : Int)) := by omega
       have hfin : R = 0 := by rw [HRES2.out, if_neg (by rw [all_range_true HOK3.out]; simp)]
       have HFIN := Lib.hid hfin
       clear hfin
       go_wp2
       go_ret
       exact ⟨by rw [HFIN.out]; rfl, HBW.out⟩
end Go.Proofs.YthcjikpabpgpfaaGreat
