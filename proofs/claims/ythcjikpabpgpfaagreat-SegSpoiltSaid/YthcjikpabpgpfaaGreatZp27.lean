import Derived.Test.YthcjikpabpgpfaaGreatZp0
import Derived.Test.YthcjikpabpgpfaaGreatZp23
import Derived.Test.YthcjikpabpgpfaaGreatZp25
import Derived.Test.YthcjikpabpgpfaaGreatZp6
import Derived.Test.YthcjikpabpgpfaaGreatZp22
import Derived.Test.YthcjikpabpgpfaaGreatZp10
import Derived.Maps.OwnSet
import Derived.Test.YthcjikpabpgpfaaGreatZp5
import Derived.Test.YthcjikpabpgpfaaGreatZp17
import Derived.Test.YthcjikpabpgpfaaGreatZp4
set_option linter.unusedSimpArgs false
set_option maxHeartbeats 16000000
set_option maxRecDepth 100000
namespace Go.Proofs.YthcjikpabpgpfaaGreat
open Go.RowKit Go.Maps Go.WideMaps
def SpotsNew (w : World) (l : List (Int × Int)) (e : Ending) (w' : World) : Prop := ∃ A c, e = .returned (.slice A l.length c) ∧ PairsIn w' A l.length l ∧ l.length ≤ c ∧ (∀ ad, A = some ad → 0 < l.length → w.heap.size ≤ ad.block ∧ ad.block < w'.heap.size) ∧ Below w.heap.size w w'
structure CurW (K : World → (Nat → Prop) → Nat → CSt → Prop) : Prop where
 keep : ∀ {w w' : World} {F : Nat → Prop} {b : Nat} {s : CSt}, K w F b s → (∀ i, F i → w'.heap[i]? = w.heap[i]?) → w.heap.size ≤ w'.heap.size → K w' F b s
 lt : ∀ {w : World} {F : Nat → Prop} {b : Nat} {s : CSt}, K w F b s → ∀ i, F i → i < w.heap.size
 doc : ∀ {w : World} {F : Nat → Prop} {b : Nat} {s : CSt}, K w F b s → CWF s → Calls Tryz.prog 66 #[.pointer (some ⟨b, 0, none⟩)] w fun e w' => e = .returned (.tuple #[.int .i64 (cDoc s), .bool (cIn s)]) ∧ Below w.heap.size w w'
 spots : ∀ {w : World} {F : Nat → Prop} {b : Nat} {s : CSt}, K w F b s → CWF s → Calls Tryz.prog 27 #[.pointer (some ⟨b, 0, none⟩)] w (SpotsNew w (cSpots s))
 next : ∀ {w : World} {F : Nat → Prop} {b : Nat} {s : CSt}, K w F b s → CWF s → Calls Tryz.prog 67 #[.pointer (some ⟨b, 0, none⟩)] w fun e w' => e = .returned (.bool (cIn (cNext s))) ∧ ∃ F', K w' F' b (cNext s) ∧ Kept F w w' ∧ ∀ i, F' i → F i ∨ w.heap.size ≤ i
abbrev SegSt := World → (Nat → Prop) → Nat → List (Nm × Nm) → List (Int × List Pst) → Prop
def SegOpen (S : SegSt) (w : World) (r : Option (List (Nm × Nm) × List (Int × List Pst))) (e : Ending) (w' : World) : Prop :=
 Below w.heap.size w w' ∧ match r with
  | none => e = .returned (.tuple #[.pointer none, .int .i64 3])
  | some x => ∃ g F, e = .returned (.tuple #[.pointer (some ⟨g, 0, none⟩), .int .i64 0]) ∧ S w' F g x.1 x.2 ∧ ∀ i, F i → w.heap.size ≤ i
def CurBack (K : World → (Nat → Prop) → Nat → CSt → Prop) (w : World) (p : Option (List Pst)) (e : Ending) (w' : World) : Prop :=
 Below w.heap.size w w' ∧ match p with
  | none => e = .returned (.pointer none)
  | some l => ∃ b F, e = .returned (.pointer (some ⟨b, 0, none⟩)) ∧ K w' F b (cStart l) ∧ ∀ i, F i → w.heap.size ≤ i
def postsT (T : List (Int × List Pst)) (t : Int) : Option (List Pst) := (T.find? fun x => x.1 == t).map Prod.snd
def docAt (D : List (Nm × Nm)) (i : Int) : Nm × Nm := if 0 ≤ i ∧ i < (D.length : Int) then D.getD i.toNat ([], []) else ([], [])
structure SegWF (D : List (Nm × Nm)) (T : List (Int × List Pst)) : Prop where
 docs : docsR D
 up : (T.map Prod.fst).Pairwise (· < ·)
 tok : ∀ x ∈ T, 0 ≤ x.1 ∧ x.1 ≤ 511
 good : ∀ x ∈ T, ValidP x.2 ∧ 0 < x.2.length
structure SegOk (S : SegSt) (K : World → (Nat → Prop) → Nat → CSt → Prop) : Prop where
 keep : ∀ {w w' : World} {F : Nat → Prop} {g : Nat} {D : List (Nm × Nm)} {T : List (Int × List Pst)}, S w F g D T → (∀ i, F i → w'.heap[i]? = w.heap[i]?) → w.heap.size ≤ w'.heap.size → S w' F g D T
 lt : ∀ {w : World} {F : Nat → Prop} {g : Nat} {D : List (Nm × Nm)} {T : List (Int × List Pst)}, S w F g D T → ∀ i, F i → i < w.heap.size
 build : ∀ {w : World} {b : Nat} {V : Voc}, Coder w b V → VOk V → ∀ (A : Option Addr) (n c : Nat) (l : List (Nm × Nm)), DocsIn w A n l → n ≤ c → textN l ≤ 4000 → Calls Tryz.prog 12 #[.pointer (some ⟨b, 0, none⟩), .slice A n c] w (SegOut w V l)
 build_no : ∀ {w : World} {b : Nat} {V : Voc}, Coder w b V → VOk V → ∀ (A : Option Addr) (n c : Nat) (l : List (Nm × Nm)), DocsIn w A n l → n ≤ c → ¬ docsR l → Calls Tryz.prog 12 #[.pointer (some ⟨b, 0, none⟩), .slice A n c] w (SegOut w V l)
 build_nil : ∀ (w : World) (A : Option Addr) (n c : Nat) (l : List (Nm × Nm)), DocsIn w A n l → n ≤ c → Calls Tryz.prog 12 #[.pointer none, .slice A n c] w fun e w' => e = .returned (.tuple #[.slice none 0 0, .int .i64 1]) ∧ Below w.heap.size w w'
 open_ : ∀ (w : World) (A : Option Addr) (n c : Nat) (b : Nm), BytesIn w A n b → n ≤ c → n ≤ 1000000 → Calls Tryz.prog 15 #[.slice A n c] w (SegOpen S w (openR b))
 many : ∀ {w : World} {F : Nat → Prop} {g : Nat} {D : List (Nm × Nm)} {T : List (Int × List Pst)}, S w F g D T → SegWF D T → Calls Tryz.prog 19 #[.pointer (some ⟨g, 0, none⟩)] w fun e w' => e = .returned (.int .i64 (D.length : Int)) ∧ Below w.heap.size w w'
 doc : ∀ {w : World} {F : Nat → Prop} {g : Nat} {D : List (Nm × Nm)} {T : List (Int × List Pst)}, S w F g D T → SegWF D T → ∀ i : Int, fits64 i → Calls Tryz.prog 20 #[.pointer (some ⟨g, 0, none⟩), .int .i64 i] w fun e w' =>
  e = .returned (.tuple #[.agg #[.string ⟨(docAt D i).1.toArray⟩, .string ⟨(docAt D i).2.toArray⟩], .bool (decide (0 ≤ i ∧ i < (D.length : Int)))]) ∧ Below w.heap.size w w'
 terms : ∀ {w : World} {F : Nat → Prop} {g : Nat} {D : List (Nm × Nm)} {T : List (Int × List Pst)}, S w F g D T → SegWF D T → Calls Tryz.prog 25 #[.pointer (some ⟨g, 0, none⟩)] w (IntsBack w (T.map Prod.fst))
 cursor : ∀ {w : World} {F : Nat → Prop} {g : Nat} {D : List (Nm × Nm)} {T : List (Int × List Pst)}, S w F g D T → SegWF D T → ∀ t : Int, fits64 t → Calls Tryz.prog 24 #[.pointer (some ⟨g, 0, none⟩), .int .i64 t] w (CurBack K w (postsT T t))
section
variable {S : SegSt} {K : World → (Nat → Prop) → Nat → CSt → Prop} (hS : SegOk S K)
include hS
theorem SegOk.below {w w' : World} {F : Nat → Prop} {g : Nat} {D : List (Nm × Nm)} {T : List (Int × List Pst)} (h : S w F g D T) (hb : Below w.heap.size w w') : S w' F g D T := hS.keep h (fun i hi => hb.block i (hS.lt h i hi)) hb.size
end
end Go.Proofs.YthcjikpabpgpfaaGreat
namespace Go.Proofs.YthcjikpabpgpfaaGreat
theorem lastT_app (T : List (Int × List Pst)) (x : Int × List Pst) : lastT (T ++ [x]) = x.1 := by
 unfold lastT
 rw [if_neg (by simp), List.length_append, List.length_singleton, Nat.add_sub_cancel, List.getD_eq_getElem?_getD, List.getElem?_append_right (Nat.le_refl _), Nat.sub_self]
 rfl
theorem termsG_wf {l : List Nm} {d : Nat} : ∀ {i : Nat} {T : List (Int × List Pst)}, termsG l d i = some T → (∀ x ∈ T, (0 ≤ x.1 ∧ x.1 ≤ 511) ∧ x.1 ≤ lastT T ∧ ValidP x.2 ∧ 0 < x.2.length) ∧ (T.map Prod.fst).Pairwise (· < ·)
 | 0, T, h => by
  simp only [termsG, Option.some.injEq] at h
  subst h
  simp
 | i + 1, T, h => by
  rw [termsG] at h
  split at h
  ·cases h
  ·rename_i T0 h0
   obtain ⟨h1, h2⟩ := termsG_wf h0
   split at h
   ·cases h
   ·rename_i hb
    simp only [Option.some.injEq] at h
    subst h
    obtain ⟨f, hf⟩ : ∃ f, f = l.getD (1 + d + i) [] := ⟨_, rfl⟩
    rw [← hf] at hb ⊢
    have hlast : lastT T0 < termT f := by
     rcases Int.lt_or_le (lastT T0) (termT f) with h3 | h3
     ·exact h3
     ·exact absurd (show termBad f T0 d from .inr (.inr (.inl h3))) hb
    have hok : (termP f).2 = 0 := Classical.byContradiction fun h3 => hb (.inr (.inl h3))
    have hpos : 0 < (termP f).1.length := Nat.pos_of_ne_zero fun h3 => hb (.inr (.inr (.inr (.inl h3))))
    have hval : ValidP (termP f).1 := (check_ok getP_fit).1 (getP_some (b := (termR f).1) hok).1
    have htok := rInt_in ⟨f, 0, 0⟩ (m := 511) (by omega)
    refine ⟨fun x hx => ?_, ?_⟩
    ·rw [lastT_app]
     rcases List.mem_append.1 hx with hx | hx
     ·obtain ⟨q1, q2, q3, q4⟩ := h1 x hx
      exact ⟨q1, by simp only; omega, q3, q4⟩
     ·rw [List.mem_singleton.1 hx]
      exact ⟨htok, Int.le_refl _, hval, hpos⟩
    ·rw [List.map_append, List.pairwise_append]
     refine ⟨h2, by simp, fun a ha b hb2 => ?_⟩
     obtain ⟨x, hx, rfl⟩ := List.mem_map.1 ha
     simp at hb2
     subst hb2
     have := (h1 x hx).2.1
     omega
theorem segWF_of {b : Nm} {D : List (Nm × Nm)} {T : List (Int × List Pst)} (h : openR b = some (D, T)) : SegWF D T := by
 unfold openR at h
 split at h
 ·cases h
 ·split at h
  ·cases h
  ·split at h
   ·cases h
   ·rename_i D0 hD
    split at h
    ·rename_i hR
     obtain ⟨T0, hT, e⟩ := Option.map_eq_some_iff.1 h
     simp only [Prod.mk.injEq] at e
     obtain ⟨rfl, rfl⟩ := e
     obtain ⟨h1, h2⟩ := termsG_wf hT
     exact ⟨hR, h2, fun x hx => (h1 x hx).1, fun x hx => (h1 x hx).2.2⟩
    ·cases h
end Go.Proofs.YthcjikpabpgpfaaGreat
namespace Go.Proofs.YthcjikpabpgpfaaGreat
open Go.RowKit Go.Maps Go.WideMaps
theorem spStrLaw : Keyed Tryz.prog 9 := string_keyed Tryz.underlying9
theorem zeroBs (w : World) : (zeroValue 24).run Tryz.prog w = .ok (.slice none 0 0) w := by kernel_rfl
theorem spStrKey {s : Nm} (hs : s.length ≤ maxLen) : keyOf Tryz.prog 9 (.string ⟨s.toArray⟩) = some (.string s) := by
 have := keyOf_string_mk Tryz.underlying9 (s := ⟨s.toArray⟩) (by simpa [ByteArray.size] using hs)
 simpa using this
structure SetD (D : DataW Unit) (l : List Nm) : Prop where
 isMap : IsMap D
 has : ∀ s : Nm, Maps.has D (.string s) = decide (s ∈ l)
theorem SetD.nil : SetD (.map []) [] := ⟨isMap_empty, fun _ => rfl⟩
theorem SetD.put {D : DataW Unit} {l l' : List Nm} (h : SetD D l) (x : Nm) (d : DataW Unit) (hl : ∀ s, s ∈ l' ↔ s ∈ l ∨ s = x) : SetD (D.put (.string x) d) l' := by
 refine ⟨h.isMap.put _ _, fun s => ?_⟩
 by_cases e : s = x
 ·subst e
  rw [has_put_same h.isMap (show WideAt.IsKeyLit (.string s) from trivial), decide_eq_true ((hl s).2 (.inr rfl))]
 ·rw [has_put_other (fun e2 => e (by injection e2)), h.has]
  have : s ∈ l' ↔ s ∈ l := by rw [hl]; exact ⟨fun h => h.resolve_right e, .inl⟩
  simp [this]
def BytesV (w : World) (G : Nat → Prop) (v : Value) (s : Nm) : Prop := ∃ A n c, v = .slice A n c ∧ BytesIn w A n s ∧ (n ≤ c ∧ n ≤ 1000000) ∧ ∀ ad, A = some ad → 0 < n → G ad.block
theorem BytesV.keep {w w' : World} {G G' : Nat → Prop} {v : Value} {s : Nm} (h : BytesV w G v s) (hk : ∀ i, G i → w'.heap[i]? = w.heap[i]?) (hG : ∀ i, G i → G' i) (hs : w.heap.size ≤ w'.heap.size) : BytesV w' G' v s := by
 obtain ⟨A, n, c, h1, h2, h3, h4⟩ := h
 exact ⟨A, n, c, h1, ⟨h2.1, h2.2.1.keep fun ad e h0 => hk _ (h4 ad e h0), fun ad e h0 => Nat.lt_of_lt_of_le (h2.2.2 ad e h0) hs⟩, h3, fun ad e h0 => hG _ (h4 ad e h0)⟩
structure KeysB (D : DataW Unit) (f : Int → Option Nm) : Prop where
 isMap : IsMap D
 has : ∀ t : Int, Maps.has D (.int .i64 t) = (f t).isSome
theorem KeysB.nil : KeysB (.map []) fun _ => none := ⟨isMap_empty, fun _ => rfl⟩
def bPut (f : Int → Option Nm) (t : Int) (s : Nm) : Int → Option Nm := fun u => if u = t then some s else f u
theorem KeysB.put {D : DataW Unit} {f : Int → Option Nm} (h : KeysB D f) (t : Int) (s : Nm) : KeysB (D.put (.int .i64 t) (.lit (.bool true))) (bPut f t s) := by
 refine ⟨h.isMap.put _ _, fun u => ?_⟩
 by_cases e : u = t
 ·subst e
  rw [has_put_same h.isMap (show WideAt.IsKeyLit (.int .i64 u) from trivial)]
  simp [bPut]
 ·rw [has_put_other (fun e2 => e (p64_inj e2)), h.has]
  simp only [bPut, if_neg e]
def EntB (w : World) (f : Int → Option Nm) (G : Nat → Prop) (x : MapEntry) : Prop := ∃ t s, x.key = .int .i64 t ∧ f t = some s ∧ BytesV w G x.val s
structure BMap (w : World) (mb n : Nat) (f : Int → Option Nm) (G : Nat → Prop) : Prop where
 own : ∃ D, w.ownsMap Tryz.prog 3 anyElem mb n D ∧ KeysB D f
 ent : ∀ es clock, w.heap[mb]? = some (.map es clock) → ∀ x ∈ es.toList, EntB w f G x
theorem BMap.lt {w : World} {mb n : Nat} {f : Int → Option Nm} {G : Nat → Prop} (h : BMap w mb n f G) : mb < w.heap.size := by
 obtain ⟨D, h1, _⟩ := h.own
 exact h1.lt
theorem BMap.made (w : World) (G : Nat → Prop) : BMap (w.alloc (.map #[] 0)) w.heap.size 0 (fun _ => none) G where
 own := ⟨_, World.ownsMap_made w _ _ _, KeysB.nil⟩
 ent := fun es clock h => by
  have h1 : (w.alloc (.map #[] 0)).heap[w.heap.size]? = some (.map #[] 0) := heap_alloc_new w _
  rw [h1] at h
  obtain ⟨rfl, -⟩ : #[] = es ∧ 0 = clock := by simpa using h
  simp
theorem BMap.keep {w w' : World} {mb n : Nat} {f : Int → Option Nm} {G G' : Nat → Prop} (h : BMap w mb n f G) (hb : w'.heap[mb]? = w.heap[mb]?) (hk : ∀ i, G i → w'.heap[i]? = w.heap[i]?) (hG : ∀ i, G i → G' i) (hs : w.heap.size ≤ w'.heap.size) : BMap w' mb n f G' where
 own := by
  obtain ⟨D, h1, h2⟩ := h.own
  exact ⟨D, ownsMap_block h1 hb, h2⟩
 ent := fun es clock e x hx => by
  obtain ⟨t, s, q1, q2, q3⟩ := h.ent es clock (by rw [← hb]; exact e) x hx
  exact ⟨t, s, q1, q2, q3.keep hk hG hs⟩
theorem BMap.put {w : World} {mb n : Nat} {f : Int → Option Nm} {G : Nat → Prop} (h : BMap w mb n f G) (hG : ∀ i, G i → i ≠ mb) (hn : n < maxLen) {t : Int} (ht : fits64 t) {v : Value} {s : Nm} (hv : BytesV w G v s) :
  ∃ w2, (Instr.mapUpdate 108 (.map (some mb)) (.int .i64 t) v).run Tryz.prog w = .ok () w2 ∧ BMap w2 mb (n + 1) (bPut f t s) G ∧ w.grownBy w2 (some mb) := by
 obtain ⟨D, hM, hD⟩ := h.own
 have hM' := hM
 obtain ⟨es, clock, hb, F, hs, rfl⟩ := hM
 obtain ⟨w2, hrun2, r1, r2⟩ := hM'.update pIntLaw Tryz.underlying108 hn (val := v) (p64key ht) (show anyElem v = some (.lit (.bool true), []) from rfl)
 obtain ⟨es', clock', hb2, hwho⟩ := stored_who pIntLaw Tryz.underlying108 hb F (Nat.lt_of_le_of_lt hs hn) (p64key ht) hrun2
 have hsz2 := r2.size
 have hkeep : ∀ i, G i → i < w.heap.size → w2.heap[i]? = w.heap[i]? := fun i hi hlt => r2.block i hlt (fun e => by cases e; exact hG mb hi rfl)
 have hup : ∀ {z : Value} {y : Nm}, BytesV w G z y → BytesV w2 G z y := fun hz => by
  obtain ⟨A, m, c, h1, h2, h3, h4⟩ := hz
  exact ⟨A, m, c, h1, ⟨h2.1, h2.2.1.keep fun ad e h0 => hkeep _ (h4 ad e h0) (h2.2.2 ad e h0), fun ad e h0 => Nat.lt_of_lt_of_le (h2.2.2 ad e h0) hsz2⟩, h3, h4⟩
 refine ⟨w2, hrun2, ⟨⟨_, r1, hD.put t s⟩, fun es2 clock2 hb3 x hx => ?_⟩, r2⟩
 obtain ⟨rfl, rfl⟩ : es' = es2 ∧ clock' = clock2 := by rw [hb2] at hb3; simpa using hb3
 rcases hwho x hx with ⟨h1, h2⟩ | ⟨h1, h2⟩
 ·obtain ⟨u, y, q1, q2, q3⟩ := h.ent es clock hb x h1
  have hu : u ≠ t := fun e => h2 (by rw [q1, e])
  exact ⟨u, y, q1, by unfold bPut; rw [if_neg hu]; exact q2, hup q3⟩
 ·exact ⟨t, s, h1, by unfold bPut; rw [if_pos rfl], by rw [h2]; exact hup hv⟩
theorem BMap.look {w : World} {mb n : Nat} {f : Int → Option Nm} {G : Nat → Prop} (h : BMap w mb n f G) {t : Int} (ht : fits64 t) :
  ∃ v, (Instr.lookup 108 (.map (some mb)) (.int .i64 t) true).run Tryz.prog w = .ok (.tuple #[v, .bool (f t).isSome]) w ∧ ∀ s, f t = some s → BytesV w G v s := by
 obtain ⟨D, hM, hD⟩ := h.own
 obtain ⟨es, clock, hb, F, hs, rfl⟩ := hM
 have h2 := hD.has t
 rcases Maps.fit_look true pIntLaw Tryz.underlying108 (zeroBs _) hb F (p64key ht) with ⟨hrun, _, hat⟩ | ⟨e0, y, hm0, hk0, hrun, hR, hat, _⟩
 ·rw [Maps.has_false_of_atKey hat] at h2
  refine ⟨.slice none 0 0, by rw [← h2]; exact hrun, fun s hs => ?_⟩
  rw [hs] at h2
  cases h2
 ·rw [Maps.has_true_of_atKey hat] at h2
  obtain ⟨u, s, q1, q2, q3⟩ := h.ent es clock hb e0 hm0
  have hu : u = t := by rw [hk0] at q1; exact (v64_inj q1).symm
  subst hu
  refine ⟨e0.val, by rw [← h2]; exact hrun, fun s' hs' => ?_⟩
  rw [q2] at hs'
  cases hs'
  exact q3
theorem BMap.keys {w : World} {mb n : Nat} {f : Int → Option Nm} {D : DataW Unit} (hM : w.ownsMap Tryz.prog 3 anyElem mb n D) (hD : KeysB D f) {K : List Int} (hK : K.Pairwise (· < ·)) (hm : ∀ t, t ∈ K ↔ (f t).isSome = true) {ss : List Int} (hP : ss.Perm (intKeys D)) : ss.mergeSort leI = K := by
 have hc : CollectedI D (fun _ => false) K := by
  refine ⟨hK.imp fun {a b} h => by omega, fun x => ?_⟩
  rw [hD.has, hm]
  simp
 have hp2 := hc.perm hM pIntLaw Tryz.underlying3 (fun _ => rfl)
 rw [mergeSort_of_perm_i hP, ← mergeSort_of_perm_i hp2]
 exact List.mergeSort_of_pairwise (hK.imp fun {a b} h => by simp; omega)
def SegF (f : Int → Option Nm) (T : List (Int × List Pst)) : Prop := ∀ t, (f t).map (fun s => (getP s).1) = postsT T t ∧ ∀ s, f t = some s → (getP s).2 = 0
theorem SegF.nil : SegF (fun _ => none) [] := fun t => ⟨rfl, fun s h => by cases h⟩
theorem postsT_no {T : List (Int × List Pst)} {t : Int} (h : ∀ x ∈ T, x.1 ≠ t) : postsT T t = none := by
 unfold postsT
 rw [List.find?_eq_none.2 (fun x hx => by simpa using h x hx)]
 rfl
theorem postsT_some {T : List (Int × List Pst)} {t : Int} : (postsT T t).isSome = true ↔ t ∈ T.map Prod.fst := by
 unfold postsT
 rw [Option.isSome_map, List.find?_isSome, List.mem_map]
 constructor
 ·rintro ⟨x, h1, h2⟩; exact ⟨x, h1, by simpa using h2⟩
 ·rintro ⟨x, h1, h2⟩; exact ⟨x, h1, by simpa using h2⟩
theorem SegF.put {f : Int → Option Nm} {T : List (Int × List Pst)} (h : SegF f T) {t : Int} {s : Nm} (hT : ∀ x ∈ T, x.1 ≠ t) (hs : (getP s).2 = 0) : SegF (bPut f t s) (T ++ [(t, (getP s).1)]) := by
 intro u
 obtain ⟨h1, h2⟩ := h u
 unfold bPut
 by_cases e : u = t
 ·subst e
  rw [if_pos rfl]
  have h3 := postsT_no hT
  unfold postsT at h3 ⊢
  rw [List.find?_append]
  rw [Option.map_eq_none_iff] at h3
  rw [h3]
  exact ⟨by simp, fun s' hs' => by cases hs'; exact hs⟩
 ·rw [if_neg e]
  refine ⟨?_, h2⟩
  rw [h1]
  unfold postsT
  rw [List.find?_append]
  have : ([(t, (getP s).1)] : List (Int × List Pst)).find? (fun x => x.1 == u) = none := by simp; exact fun e2 => e e2.symm
  rw [this, Option.or_none]
theorem SegF.isSome {f : Int → Option Nm} {T : List (Int × List Pst)} (h : SegF f T) (t : Int) : (f t).isSome = true ↔ t ∈ T.map Prod.fst := by
 rw [← postsT_some, ← (h t).1, Option.isSome_map]
theorem spNumber_any (w : World) (n : Nat) (hn : n < 18446744073709551616 / 2) :
  Calls Tryz.prog 35 #[.int .i64 n] w fun e w' => ∃ v, e = .returned v ∧ w'.ownsRow w.heap.size 5 1 v (putL n).length ((putL n).map byteV) ∧ Below w.heap.size w w' := by
 have hwz : IntKind.u64.wrap (n : Int) = (n : Int) := by rw [IntKind.wrap_u64]; omega
 go_enter Tryz.func35, Tryz.ntmps35
 go_wp2_with fail
 refine (lPut_any w n (by omega)).mono ?_
 rintro e w1 ⟨v, rfl, ho, hb⟩
 have HO := Lib.hid ho
 have HB := Lib.hid hb
 clear ho hb
 go_wp2
 go_ret
 exact ⟨v, rfl, HO.out, HB.out⟩
theorem spValid_any (w : World) (A : Option Addr) (n c : Nat) (l : List (Nm × Nm)) (h : DocsIn w A n l) :
  Calls Tryz.prog 29 #[.slice A n c] w fun e w' => e = .returned (.bool (decide (docsR l))) ∧ Below w.heap.size w w' := by
 have HL := Lib.hid h
 have hlen := h.len
 have hn63 := h.fit
 unfold maxLen at hn63
 obtain ⟨r, hr⟩ : ∃ r, r = decide (docsR l) := ⟨_, rfl⟩
 rw [← hr]
 have HR := Lib.hid hr
 have HLEN := Lib.hid hlen
 clear h hr hlen
 go_enter Tryz.func29, Tryz.ntmps29
 by_cases h64 : 64 < n
 ·have d1 : decide ((64 : Int) < (n : Int)) = true := by simp; omega
  have HF : Hid (false = r) := Lib.hid (by rw [HR.out]; exact (decide_eq_false (fun e => by have := e.1; have := HLEN.out; omega)).symm)
  go_wp2
  go_ret
  exact ⟨congrArg (fun b => Ending.returned (.bool b)) HF.out, Below.refl _ _⟩
 have d1 : decide ((64 : Int) < (n : Int)) = false := by simp; omega
 have hmm := @run_makeMap Tryz.prog
 go_wp2
 clear hmm
 obtain ⟨W, hW⟩ : ∃ z, z = w.alloc (.map #[] 0) := ⟨_, rfl⟩
 have hm0 : W.ownsMap Tryz.prog 9 (unitElem (H := Unit)) w.heap.size 0 (.map []) := by rw [hW]; exact World.ownsMap_made w _ _ _
 have hb0 : Below w.heap.size w W := by rw [hW]; exact (Below.refl _ w).alloc (Nat.le_refl _) _
 rw [← hW]
 have HM0 := Lib.hid hm0
 have HB0 := Lib.hid hb0
 clear hm0 hb0 hW
 go_loopw [12] (fun i wr => ∃ (k : Nat) (D : DataW Unit), k ≤ n ∧ i = .int .i64 k ∧ wr.ownsMap Tryz.prog 9 (unitElem (H := Unit)) w.heap.size k D ∧ SetD D (skeysUp l k) ∧ Maps.size D = (skeysUp l k).length ∧ (∀ p ∈ l.take k, docOk p) ∧ Below w.heap.size w wr) (fun i _ => n - (intOf i).toNat)
 case atStart => exact ⟨0, _, by omega, rfl, HM0.out, SetD.nil, rfl, by simp, HB0.out⟩
 case round =>
  obtain ⟨k, D, hk, rfl, hm, hs, hz, ho, hb⟩ := hrel
  have HM := Lib.hid hm
  have HS := Lib.hid hs
  have HZ := Lib.hid hz
  have HO := Lib.hid ho
  have HB := Lib.hid hb
  have hsz := hb.size
  clear hm hs hz ho hb
  rcases Nat.lt_or_ge k n with hlt | hge
  ·have d2 : decide ((k : Int) < (n : Int)) = true := by simpa using hlt
   have p0 : (0 : Int) ≤ (k : Int) := by omega
   have p1 : (k : Int) < (n : Int) := by omega
   obtain ⟨pa, p, rfl, hp, a0, a1, v1, v2⟩ := (HL.out.below HB.out).at k hlt
   obtain ⟨pk, pt⟩ := p
   simp only at a0 a1 v1 v2
   obtain ⟨N1, hN1⟩ : ∃ z, z = pk.length := ⟨_, rfl⟩
   obtain ⟨N2, hN2⟩ : ∃ z, z = pt.length := ⟨_, rfl⟩
   have z1 : (⟨pk.toArray⟩ : ByteArray).size = N1 := by rw [str_size, hN1]
   have z2 : (⟨pt.toArray⟩ : ByteArray).size = N2 := by rw [str_size, hN2]
   have HP := Lib.hid hp
   have HN1 := Lib.hid hN1
   have HN2 := Lib.hid hN2
   have HV1 := Lib.hid v1
   obtain ⟨W1, hW1⟩ : ∃ z, z = wr.alloc (.cells #[.string ⟨pk.toArray⟩, .string ⟨pt.toArray⟩] 49) := ⟨_, rfl⟩
   have hbl : Blk W1 wr.heap.size 49 #[.string ⟨pk.toArray⟩, .string ⟨pt.toArray⟩] := by rw [hW1]; exact Blk.new _ _ _
   have hb1 : Below wr.heap.size wr W1 := by rw [hW1]; exact (Below.refl _ wr).alloc (Nat.le_refl _) _
   obtain ⟨g, hg⟩ : ∃ g, g = wr.heap.size := ⟨_, rfl⟩
   have HW1 := Lib.hid hW1
   have HG := Lib.hid hg
   have HB1 := Lib.hid (below_then HB.out hb1 hsz)
   have HBL := Lib.hid hbl
   have HM1 := Lib.hid (show W1.ownsMap Tryz.prog 9 (unitElem (H := Unit)) w.heap.size k D from by rw [hW1]; exact HM.out.alloc _)
   have hBAD : ¬ docOk (pk, pt) → false = r := fun hb => by rw [HR.out]; exact (decide_eq_false (docsR_bad HP.out hb)).symm
   have HBAD := Lib.hid hBAD
   have hin : k < n := hlt
   clear hp hN1 hN2 v1 v2 hW1 hbl hb1 hg hBAD
   have hno : ∀ u, Below w.heap.size w u → ¬ docOk (pk, pt) → Ending.returned (.bool false) = .returned (.bool r) ∧ Below w.heap.size w u := fun u hu hb => ⟨congrArg (fun b => Ending.returned (.bool b)) (HBAD.out hb), hu⟩
   have HNO := Lib.hid hno
   have hB1 := HB1.out
   rw [HW1.out] at hB1
   have HB2 := Lib.hid hB1
   clear hno hB1 hin
   by_cases q1 : N1 = 0
   ·have e1 : ((N1 : Int) == 0) = true := by simp; omega
    have HX := Lib.hid (HNO.out _ HB2.out (fun h => by have h1 := h.1; simp only at h1; have := HN1.out; omega))
    clear q1
    go_wp2
    go_ret
    exact HX.out
   have e1 : ((N1 : Int) == 0) = false := by simp; omega
   by_cases q2 : 32 < N1
   ·have e2 : decide ((32 : Int) < (N1 : Int)) = true := by simp; omega
    have HX := Lib.hid (HNO.out _ HB2.out (fun h => by have h1 := h.2.1; simp only at h1; have := HN1.out; omega))
    clear q1 q2
    go_wp2
    go_ret
    exact HX.out
   have e2 : decide ((32 : Int) < (N1 : Int)) = false := by simp; omega
   by_cases q3 : 4096 < N2
   ·have e3 : decide ((4096 : Int) < (N2 : Int)) = true := by simp; omega
    have HX := Lib.hid (HNO.out _ HB2.out (fun h => by have h1 := h.2.2; simp only at h1; have := HN2.out; omega))
    clear q1 q2 q3
    go_wp2
    go_ret
    exact HX.out
   have e3 : decide ((4096 : Int) < (N2 : Int)) = false := by simp; omega
   have HOK : Hid (docOk (pk, pt)) := Lib.hid (by refine ⟨?_, ?_, ?_⟩ <;> simp only <;> have := HN1.out <;> have := HN2.out <;> omega)
   obtain ⟨W2, hrun, hM2, hg2⟩ := HM1.out.update spStrLaw Tryz.underlying149 (show k < maxLen by unfold maxLen; omega) (val := .agg #[]) (spStrKey HV1.out) unitElem_mk
   rw [HW1.out] at hrun
   have HM2 := Lib.hid hM2
   have HG2 := Lib.hid hg2
   clear hM2 hg2 q1 q2 q3
   go_wp2
   have hkd : l.getD k ([], []) = (pk, pt) := by rw [List.getD_eq_getElem?_getD, HP.out]; rfl
   have hsn := skeysUp_next l k
   rw [hkd] at hsn
   refine ⟨⟨k + 1, _, by omega, by go_num, HM2.out, HS.out.put pk _ (fun s => ?_), ?_, fun p hp => ?_, HB1.out.grown HG2.out HB1.out.size (fun g hg => by cases hg; exact Nat.le_refl _)⟩, by simp [intOf]; omega⟩
   ·rw [hsn]
    split
    ·rename_i hin
     exact ⟨.inl, fun h => h.elim id (fun e => e ▸ hin)⟩
    ·rw [List.mem_append, List.mem_singleton]
   ·rw [size_put (HM1.out.tidy spStrLaw), HS.out.has, HZ.out, hsn]
    by_cases hin : pk ∈ skeysUp l k
    ·simp only [hin, decide_true, if_true]
    ·simp only [hin, decide_false, if_false, List.length_append, List.length_singleton, Bool.false_eq_true]
   ·rw [List.take_add_one, HP.out] at hp
    rcases List.mem_append.1 hp with h1 | h1
    ·exact HO.out p h1
    ·simp at h1; rw [h1]; exact HOK.out
  ·obtain rfl : k = n := by omega
   have d2 : decide ((k : Int) < (k : Int)) = false := by simp
   have hall : ∀ p ∈ l, docOk p := fun p hp => HO.out p (by rw [List.take_of_length_le (by rw [HLEN.out]; exact Nat.le_refl _)]; exact hp)
   have hone := keysUp_one (l := l) (by rw [HLEN.out]; omega) hall
   rw [HLEN.out] at hone
   have hlm := HM.out.len Tryz.underlying149 3
   rw [HZ.out] at hlm
   obtain ⟨K, hK⟩ : ∃ K, K = (skeysUp l k).length := ⟨_, rfl⟩
   rw [← hK] at hlm hone
   have hfin : ((K : Int) == (k : Int)) = r := by
    rw [HR.out, Bool.eq_iff_iff, decide_eq_true_iff, hone]
    simp only [beq_iff_eq]
    omega
   have HFIN := Lib.hid hfin
   clear hall hone hK hfin
   go_wp2
   go_ret
   exact ⟨congrArg (fun b => Ending.returned (.bool b)) HFIN.out, HB.out⟩
theorem docCellsN : (Tryz.prog.info? 49).map (·.size) = some 2 := by kernel_rfl
theorem rising_few : ∀ {l : List Int} {a : Int}, (∀ x ∈ l, a ≤ x ∧ x < 512) → l.Pairwise (· < ·) → a ≤ 512 → (l.length : Int) ≤ 512 - a
 | [], _, _, _, h => by simp; omega
 | x :: r, a, h, hp, _ => by
  rw [List.pairwise_cons] at hp
  have h1 := h x (List.mem_cons_self ..)
  have h2 := rising_few (a := x + 1) (fun y hy => by have := hp.1 y hy; have := h y (List.mem_cons_of_mem _ hy); omega) hp.2 (by omega)
  rw [List.length_cons]
  omega
def DocsF (w : World) (G : Nat → Prop) (A : Option Addr) (n : Nat) (l : List (Nm × Nm)) : Prop := DocsIn w A n l ∧ ∀ ad, A = some ad → 0 < n → G ad.block
theorem DocsF.keep {w w' : World} {G : Nat → Prop} {A : Option Addr} {n : Nat} {l : List (Nm × Nm)} (h : DocsF w G A n l) (hk : ∀ i, G i → w'.heap[i]? = w.heap[i]?) : DocsF w' G A n l := by
 obtain ⟨h1, h2⟩ := h
 refine ⟨⟨h1.len, h1.fit, h1.vals, h1.nil, fun ad e i p hp => ?_⟩, h2⟩
 have hlt := (List.getElem?_eq_some_iff.1 hp).1
 have hb := hk _ (h2 ad e (by have := h1.len; omega))
 obtain ⟨c1, c2⟩ := h1.cells ad e i p hp
 have hbl : ∀ j, (ad.add j).block = ad.block := fun j => by unfold Addr.add; split <;> rfl
 exact ⟨(World.cell?_of_block (by rw [hbl]; exact hb)).trans c1, (World.cell?_of_block (by rw [hbl]; exact hb)).trans c2⟩
def Sg0 (w : World) (F : Nat → Prop) (g : Nat) (D : List (Nm × Nm)) (T : List (Int × List Pst)) : Prop :=
 F g ∧ (∀ i, F i → i < w.heap.size) ∧ ∃ A c mb f, Blk w g 112 #[.slice A D.length c, .map (some mb)] ∧ D.length ≤ c ∧ DocsF w F A D.length D ∧ F mb ∧ BMap w mb T.length f (fun i => F i ∧ i ≠ mb) ∧ SegF f T
theorem Sg0.keep {w w' : World} {F : Nat → Prop} {g : Nat} {D : List (Nm × Nm)} {T : List (Int × List Pst)} (h : Sg0 w F g D T) (hk : ∀ i, F i → w'.heap[i]? = w.heap[i]?) (hs : w.heap.size ≤ w'.heap.size) : Sg0 w' F g D T := by
 obtain ⟨h1, h2, A, c, mb, f, h3, h4, h5, h6, h7, h8⟩ := h
 exact ⟨h1, fun i hi => Nat.lt_of_lt_of_le (h2 i hi) hs, A, c, mb, f, (hk g h1).trans h3, h4, h5.keep hk, h6, h7.keep (hk mb h6) (fun i hi => hk i hi.1) (fun _ h => h) hs, h8⟩
theorem s0Many_any {w : World} {F : Nat → Prop} {g : Nat} {D : List (Nm × Nm)} {T : List (Int × List Pst)} (h : Sg0 w F g D T) : Calls Tryz.prog 19 #[.pointer (some ⟨g, 0, none⟩)] w fun e w' => e = .returned (.int .i64 (D.length : Int)) ∧ Below w.heap.size w w' := by
 obtain ⟨h1, h2, A, c, mb, f, h3, h4, h5, h6, h7, h8⟩ := h
 have c0 := h3.cell 0
 simp only [lz0, lz1, lz2] at c0
 obtain ⟨n, hn⟩ : ∃ n, n = D.length := ⟨_, rfl⟩
 rw [← hn] at c0 ⊢
 clear h1 h2 h3 h4 h5 h6 h7 h8 hn
 go_enter Tryz.func19, Tryz.ntmps19
 go_wp2
 go_ret
 exact ⟨rfl, Below.refl _ _⟩
theorem s0Cursor_any {w : World} {F : Nat → Prop} {g : Nat} {D : List (Nm × Nm)} {T : List (Int × List Pst)} (h : Sg0 w F g D T) (t : Int) (ht : fits64 t) : Calls Tryz.prog 24 #[.pointer (some ⟨g, 0, none⟩), .int .i64 t] w (CurBack K0 w (postsT T t)) := by
 obtain ⟨h1, h2, A, c, mb, f, h3, h4, h5, h6, h7, h8⟩ := h
 have c1 := h3.cell 1
 simp only [lz0, lz1, lz2] at c1
 obtain ⟨v, hlook, hv⟩ := h7.look ht
 obtain ⟨hf1, hf2⟩ := h8 t
 rw [← hf1]
 cases hft : f t with
 | none =>
  rw [hft] at hlook
  simp only [Option.isSome_none] at hlook
  clear h1 h2 h3 h4 h5 h6 h7 h8 hv hf1 hf2 hft
  go_enter Tryz.func24, Tryz.ntmps24
  go_wp2
  go_ret
  exact ⟨Below.refl _ _, rfl⟩
 | some s =>
  rw [hft] at hlook
  simp only [Option.isSome_some] at hlook
  obtain ⟨B, n, cc, rfl, hbi, ⟨hcc, hnm⟩, -⟩ := hv s hft
  have HBI := Lib.hid hbi
  have HE := Lib.hid (hf2 s hft)
  have hn : n ≤ 1099511627776 := by omega
  clear hnm
  clear h1 h2 h3 h4 h5 h6 h7 h8 hv hf1 hf2 hft hbi
  go_enter Tryz.func24, Tryz.ntmps24
  go_wp2_with fail
  refine (k0_new w B n cc s HBI.out hcc hn HE.out).mono ?_
  rintro e w1 ⟨b, G, rfl, hb, hk, hg⟩
  have HB := Lib.hid hb
  have HK := Lib.hid hk
  clear hb hk
  go_wp2
  go_ret
  exact ⟨HB.out, b, G, rfl, HK.out, hg⟩
theorem s0Terms_any {w : World} {F : Nat → Prop} {g : Nat} {D : List (Nm × Nm)} {T : List (Int × List Pst)} (h : Sg0 w F g D T) (hup : (T.map Prod.fst).Pairwise (· < ·)) (htok : ∀ x ∈ T, 0 ≤ x.1 ∧ x.1 ≤ 511) : Calls Tryz.prog 25 #[.pointer (some ⟨g, 0, none⟩)] w (IntsBack w (T.map Prod.fst)) := by
 obtain ⟨h1, h2, A, c, mb, f, h3, h4, h5, h6, h7, h8⟩ := h
 obtain ⟨E, hM, hD⟩ := h7.own
 have c1 := h3.cell 1
 simp only [lz0, lz1, lz2] at c1
 obtain ⟨K, hK⟩ : ∃ K, K = T.map Prod.fst := ⟨_, rfl⟩
 rw [← hK] at hup ⊢
 have hfit : ∀ x ∈ K, 0 ≤ x ∧ x ≤ 511 := fun x hx => by
  rw [hK] at hx
  obtain ⟨y, hy, rfl⟩ := List.mem_map.1 hx
  exact htok y hy
 have hlen : K.length ≤ 512 := by have := rising_few (a := 0) (fun x hx => by have := hfit x hx; omega) hup (by omega); omega
 have htl : T.length ≤ 512 := by rw [hK, List.length_map] at hlen; exact hlen
 have hmax : Maps.size E ≤ maxLen := by have := hM.size_le; unfold maxLen; omega
 have hbytes : Maps.size E * 8 ≤ 140737488355328 := by have := hM.size_le; omega
 have hmem : ∀ t, t ∈ K ↔ (f t).isSome = true := fun t => by rw [hK, h8.isSome]
 have HKE := Lib.hid ((callsIn_wide (n := 5)).1 (Tryz.imaps_KeysB (some mb) w))
 have hso : Calls Tryz.prog 69 #[.func (.func 125) #[] #[.pointer (some ⟨w.heap.size, 0, none⟩)]] (w.alloc (.cells #[.map (some mb)] 108)) (IntsBack w K) := by
  refine ((callsIn_wide (n := 5)).1 (Tryz.islices_Sorted_keysB mb T.length E _ w hM hmax hbytes)).mono ?_
  rintro e2 w2 ⟨v, ss, rfl, hP, hrow, hnil, hb⟩
  have hk1 : ss.mergeSort leI = K := BMap.keys hM hD hup hmem hP
  have hrow' : w2.ownsRow (w.alloc (.cells #[.map (some mb)] 108)).heap.size 3 1 v ss.length ((ss.mergeSort leI).map i64V) := hrow
  have hsl : ss.length = K.length := by rw [← hk1]; exact (List.mergeSort_perm ss leI).length_eq.symm
  rw [hk1, hsl] at hrow'
  obtain ⟨A, c, rfl, hc⟩ := own_cap hrow'
  exact ⟨A, c, rfl, IntsIn.own hrow' (by unfold maxLen; omega) (fun x hx => by have := hfit x hx; omega), hc, ((Below.refl _ w).alloc (Nat.le_refl _) _).trans (hb.mono (by simp))⟩
 have HSO := Lib.hid hso
 clear hso hmax hbytes hfit hup hM hD h1 h2 h3 h4 h5 h6 h7 h8 hmem hlen htl htok hK
 go_enter Tryz.func25, Tryz.ntmps25
 go_wp2_with (first
  | (go_at_call 70; refine HKE.out.mono ?_; rintro e2 w2 ⟨rfl, rfl⟩)
  | (go_at_call 69; refine HSO.out.mono ?_; rintro e2 w2 ⟨Ak, ck, rfl, hki, hck, hb2⟩))
 go_ret
 exact ⟨Ak, ck, rfl, hki, hck, hb2⟩
theorem s0Doc_any {w : World} {F : Nat → Prop} {g : Nat} {D : List (Nm × Nm)} {T : List (Int × List Pst)} (h : Sg0 w F g D T) (i : Int) (hi : fits64 i) : Calls Tryz.prog 20 #[.pointer (some ⟨g, 0, none⟩), .int .i64 i] w fun e w' =>
  e = .returned (.tuple #[.agg #[.string ⟨(docAt D i).1.toArray⟩, .string ⟨(docAt D i).2.toArray⟩], .bool (decide (0 ≤ i ∧ i < (D.length : Int)))]) ∧ Below w.heap.size w w' := by
 obtain ⟨h1, h2, A, c, mb, f, h3, h4, h5, h6, h7, h8⟩ := h
 have hb0 : Below w.heap.size w (w.alloc (.cells #[.string ⟨#[]⟩, .string ⟨#[]⟩] 49)) := (Below.refl _ w).alloc (Nat.le_refl _) _
 have c0 := (h3.below hb0 h3.lt).cell 0
 simp only [lz0, lz1, lz2] at c0
 obtain ⟨n, hn⟩ : ∃ n, n = D.length := ⟨_, rfl⟩
 have HL := Lib.hid h5.1
 rw [← hn] at c0 HL
 have HN := Lib.hid hn
 have HD : Hid (docAt D i = if 0 ≤ i ∧ i < (n : Int) then D.getD i.toNat ([], []) else ([], [])) := Lib.hid (by unfold docAt; rw [← hn])
 rw [← hn]
 have hil := hi.1
 have hih := hi.2
 clear h1 h2 h3 h4 h5 h6 h7 h8 hn hi
 by_cases q1 : i < 0
 ·have d1 : decide (i < 0) = true := decide_eq_true q1
  have hd : docAt D i = ([], []) := by rw [HD.out, if_neg (by omega)]
  rw [hd, decide_eq_false (show ¬ (0 ≤ i ∧ i < (n : Int)) by omega)]
  clear hd
  go_enter Tryz.func20, Tryz.ntmps20
  go_wp2
  refine bodyPost_ret (results_cell_row_tmp rfl _ _ w.heap.size 49 #[.string ⟨#[]⟩, .string ⟨#[]⟩] (0, 0) _ rfl (heap_alloc_new w _) Tryz.underlying49 rfl docCellsN) rfl ?_
  exact ⟨rfl, hb0⟩
 have d1 : decide (i < 0) = false := decide_eq_false q1
 obtain ⟨k, rfl⟩ : ∃ k : Nat, i = k := ⟨i.toNat, by omega⟩
 by_cases q2 : n ≤ k
 ·have d2 : decide ((n : Int) ≤ (k : Int)) = true := decide_eq_true (by omega)
  have hd : docAt D (k : Int) = ([], []) := by rw [HD.out, if_neg (by omega)]
  rw [hd, decide_eq_false (show ¬ (0 ≤ (k : Int) ∧ (k : Int) < (n : Int)) by omega)]
  have q3 : (n : Int) ≤ (k : Int) := by omega
  clear hd q1
  go_enter Tryz.func20, Tryz.ntmps20
  go_wp2
  refine bodyPost_ret (results_cell_row_tmp rfl _ _ w.heap.size 49 #[.string ⟨#[]⟩, .string ⟨#[]⟩] (0, 0) _ rfl (heap_alloc_new w _) Tryz.underlying49 rfl docCellsN) rfl ?_
  exact ⟨rfl, hb0⟩
 have d2 : decide ((n : Int) ≤ (k : Int)) = false := decide_eq_false (by omega)
 have hkn : k < n := by omega
 obtain ⟨pa, p, rfl, hp, a0, a1, v1, v2⟩ := (HL.out.below hb0).at k hkn
 obtain ⟨pk, pt⟩ := p
 simp only at a0 a1
 have hd : docAt D (k : Int) = (pk, pt) := by rw [HD.out, if_pos (by omega), Int.toNat_natCast, List.getD_eq_getElem?_getD, hp]; rfl
 rw [hd, decide_eq_true (show 0 ≤ (k : Int) ∧ (k : Int) < (n : Int) by omega)]
 have p0 : (0 : Int) ≤ (k : Int) := by omega
 have p1 : (k : Int) < (n : Int) := by omega
 have q3 : ¬ (n : Int) ≤ (k : Int) := by omega
 have hb1 : Below w.heap.size w (w.alloc (.cells #[.string ⟨pk.toArray⟩, .string ⟨pt.toArray⟩] 49)) := (Below.refl _ w).alloc (Nat.le_refl _) _
 have HB1 := Lib.hid hb1
 clear hd q1 hp v1 v2 hb1
 go_enter Tryz.func20, Tryz.ntmps20
 go_wp2
 refine bodyPost_ret (results_cell_row_tmp rfl _ _ w.heap.size 49 #[.string ⟨pk.toArray⟩, .string ⟨pt.toArray⟩] (0, 0) _ rfl (heap_alloc_new w _) Tryz.underlying49 rfl docCellsN) rfl ?_
 exact ⟨rfl, HB1.out⟩
end Go.Proofs.YthcjikpabpgpfaaGreat
