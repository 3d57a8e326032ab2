/- Vocabularies that are none: a single byte is away, a token or a merge stands twice. -/
import Derived.Test.YtimbimnbaoaboaaVBMath2
import Derived.Test.YtimbimnbaoaboaaVProg2
namespace Go.Proofs.Ytimbimnbaoaboaa

theorem uniq_ne {V : Voc} (h : VOk V) {i j : Nat} {x y : Nm} (hi : V.tok[i]? = some x) (hj : V.tok[j]? = some y) (hn : i ≠ j) : x ≠ y := fun e => by
  have h1 := h.uniq i x hi
  have h2 := h.uniq j y hj
  rw [e] at h1
  omega
/-- Each token is right where all are unlike and of some bytes. -/
theorem toks_ok {L : List Nm} (hs : ∀ x ∈ L, 1 ≤ x.length ∧ x.length ≤ 16) (hu : ∀ (i j : Nat) (x y : Nm), L[i]? = some x → L[j]? = some y → i < j → x ≠ y) : ∀ k, k < L.length → tokOk L k = true := fun k hk => by
  have hx : L[k]? = some (L[k]'hk) := List.getElem?_eq_getElem _
  have h := hs _ (List.getElem_mem (h := hk))
  have hf : findT L (L[k]'hk) = (k : Int) := findT_at hx fun j y hj hy => hu j k y _ hy hx hj
  unfold tokOk
  rw [List.getD_eq_getElem?_getD, hx]
  simp only [Option.getD_some, Bool.and_eq_true, decide_eq_true_eq]
  exact ⟨h.1, h.2, hf⟩
theorem cut_at {α : Type} {L : List α} {at_ : Nat} (ha : at_ < L.length) (i : Nat) : (L.take at_ ++ L.drop (at_ + 1))[i]? = L[if i < at_ then i else i + 1]? := by
  by_cases h : i < at_
  · rw [if_pos h, List.getElem?_append_left (by rw [List.length_take]; omega), List.getElem?_take, if_pos h]
  · rw [if_neg h, List.getElem?_append_right (by rw [List.length_take]; omega), List.getElem?_drop, List.length_take]
    congr 1
    omega
theorem check_none {V : Voc} (h : VOk V) {at_ : Nat} (ha : at_ < 256) : checkV ⟨V.tok.take at_ ++ V.tok.drop (at_ + 1), []⟩ = 51 := by
  have hl := h.long
  have htl := h.tl
  have hat : at_ < V.tok.length := by omega
  have hlen : (V.tok.take at_ ++ V.tok.drop (at_ + 1)).length = V.tok.length - 1 := by rw [List.length_append, List.length_take, List.length_drop]; omega
  unfold checkV
  rw [if_neg (by show ¬ (512 < (V.tok.take at_ ++ V.tok.drop (at_ + 1)).length ∨ 512 < 0); omega), if_neg, if_pos]
  · show ¬ (List.range 256).all (fun c => decide (0 ≤ findT (V.tok.take at_ ++ V.tok.drop (at_ + 1)) [UInt8.ofNat c])) = true
    rw [all_range_false ha]
    · simp
    · rw [findT_none]
      · simp
      · intro x hx e
        obtain ⟨i, hi, rfl⟩ := List.mem_iff_getElem.1 hx
        have h1 := cut_at hat i
        rw [List.getElem?_eq_getElem hi] at h1
        have h2 := h.single at_ ha
        refine uniq_ne h h1.symm h2 ?_ e
        split <;> omega
  · show ¬ ¬ (List.range (V.tok.take at_ ++ V.tok.drop (at_ + 1)).length).all (tokOk (V.tok.take at_ ++ V.tok.drop (at_ + 1))) = true
    rw [all_range_true]
    · simp
    · refine toks_ok (fun x hx => ?_) (fun i j x y hi hj hij => ?_)
      · rcases List.mem_append.1 hx with hx | hx
        · exact h.short x (List.mem_of_mem_take hx)
        · exact h.short x (List.mem_of_mem_drop hx)
      · rw [cut_at hat] at hi hj
        refine uniq_ne h hi hj ?_
        split <;> split <;> omega
theorem check_twice {V : Voc} (h : VOk V) {at_ : Nat} {x : Nm} (hx : V.tok[at_]? = some x) (hl : V.tok.length < 512) : checkV ⟨V.tok ++ [x], []⟩ = 52 := by
  have hat := (List.getElem?_eq_some_iff.1 hx).1
  unfold checkV
  rw [if_neg (by show ¬ (512 < (V.tok ++ [x]).length ∨ 512 < 0); rw [List.length_append, List.length_singleton]; omega), if_pos]
  show ¬ (List.range (V.tok ++ [x]).length).all (tokOk (V.tok ++ [x])) = true
  have hlast : (V.tok ++ [x])[V.tok.length]? = some x := by rw [List.getElem?_append_right (Nat.le_refl _), Nat.sub_self]; rfl
  have hfirst : (V.tok ++ [x])[at_]? = some x := by rw [List.getElem?_append_left hat]; exact hx
  rw [all_range_false (k := V.tok.length) (by rw [List.length_append, List.length_singleton]; omega)]
  · simp
  · rw [tokOk_eq hlast]
    have : ¬ findT ((V.tok ++ [x]).take V.tok.length) x < 0 := by
      rw [List.take_append_of_le_length (Nat.le_refl _), List.take_length, h.uniq at_ x hx]
      omega
    rw [decide_eq_false this]
    simp
theorem check_bare {V : Voc} (h : VOk V) : checkV ⟨V.tok, []⟩ = 0 :=
  VOk.check ⟨h.short, h.tl, by show 0 ≤ 512; omega, h.uniq, h.single, fun i hi => by simp at hi⟩
theorem check_again {V : Voc} (h : VOk V) {m : Mg} (hm : V.mer[0]? = some m) (hl : V.mer.length < 512) : checkV ⟨V.tok, V.mer ++ [m]⟩ = 53 := by
  have htl := h.tl
  have hlong := h.long
  have h0 := (List.getElem?_eq_some_iff.1 hm).1
  have hb := VOk.check (V := ⟨V.tok, []⟩) ⟨h.short, h.tl, by show 0 ≤ 512; omega, h.uniq, h.single, fun i hi => by simp at hi⟩
  unfold checkV at hb ⊢
  rw [if_neg (by show ¬ (512 < V.tok.length ∨ 512 < 0); omega)] at hb
  rw [if_neg (by show ¬ (512 < V.tok.length ∨ 512 < (V.mer ++ [m]).length); rw [List.length_append, List.length_singleton]; omega)]
  split at hb
  · omega
  rename_i h1
  split at hb
  · omega
  rename_i h2
  rw [if_neg h1, if_neg h2, if_pos]
  show ¬ (List.range (V.mer ++ [m]).length).all (merOk ⟨V.tok, V.mer ++ [m]⟩) = true
  have hlast : (V.mer ++ [m])[V.mer.length]? = some m := by rw [List.getElem?_append_right (Nat.le_refl _), Nat.sub_self]; rfl
  rw [all_range_false (k := V.mer.length) (by rw [List.length_append, List.length_singleton]; omega)]
  · simp
  · rw [Bool.eq_false_iff]
    intro ht
    obtain ⟨-, h3, -⟩ := (merOk_iff (V := ⟨V.tok, V.mer ++ [m]⟩) hlast).1 ht
    rw [List.take_append_of_le_length (Nat.le_refl _), List.take_length] at h3
    have : mergedB V.mer m.a m.b = true := by
      unfold mergedB
      rw [List.any_eq_true]
      exact ⟨m, List.mem_of_getElem? hm, by simp⟩
    rw [this] at h3
    cases h3
end Go.Proofs.Ytimbimnbaoaboaa
