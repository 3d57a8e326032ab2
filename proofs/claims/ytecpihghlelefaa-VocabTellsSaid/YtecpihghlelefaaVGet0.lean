/- Reading a vocabulary: what both readers leave it. -/
import Derived.Test.YtecpihghlelefaaVRv
import Derived.Test.YtecpihghlelefaaVPMath
import Derived.Test.YtecpihghlelefaaLProg7
import Derived.Test.YtecpihghlelefaaLRef7
namespace Go.Proofs.Ytecpihghlelefaa
open Go.RowKit Go.Maps Go.WideMaps
set_option linter.unusedSimpArgs false

theorem rInt_512 (s : Rd) {m : Nat} (hm : m ≤ 512) : ∃ (n : Nat) (s' : Rd), rInt s m = ((n : Int), s') ∧ n ≤ m := by
  unfold rInt
  split
  · exact ⟨0, _, rfl, by omega⟩
  · split
    · exact ⟨0, _, rfl, by omega⟩
    · split
      · exact ⟨0, _, rfl, by omega⟩
      · rename_i h
        exact ⟨_, _, rfl, by omega⟩
theorem rText_16 (s : Rd) : ∃ (x : Nm) (s' : Rd), rText s 16 = (x, s') ∧ x.length ≤ 16 := by
  obtain ⟨n, s', h, hn⟩ := rInt_512 s (m := 16) (by omega)
  have h' : rInt s 16 = ((n : Int), s') := h
  refine ⟨(rText s 16).1, (rText s 16).2, rfl, ?_⟩
  unfold rText
  rw [h']
  unfold rBytes
  simp only
  split
  · simp
  · split
    · simp
    · simp only [List.length_take, Int.toNat_natCast]; omega
/-- Behind an error the reader stands still. -/
theorem rInt_bad {s : Rd} (h : s.e ≠ 0) (m : Int) : rInt s m = (0, s) := by unfold rInt; rw [if_pos h]
theorem readTok_bad : ∀ (n : Nat) (s : Rd) (acc : List Nm), s.e ≠ 0 → (readTok n s acc).2 = s
  | 0, _, _, _ => rfl
  | n + 1, s, acc, h => by
    have e : (rText s 16).2 = s := by unfold rText; rw [rInt_bad h]; unfold rBytes; rw [if_pos (.inl h)]
    rw [readTok, readTok_bad n _ _ (by rw [e]; exact h), e]
theorem rMer_bad {s : Rd} (h : s.e ≠ 0) : (rMer s).2 = s := by unfold rMer; simp [rInt_bad h]
theorem readMer_bad : ∀ (n : Nat) (s : Rd) (acc : List Mg), s.e ≠ 0 → (readMer n s acc).2 = s
  | 0, _, _, _ => rfl
  | n + 1, s, acc, h => by rw [readMer, readMer_bad n _ _ (by rw [rMer_bad h]; exact h), rMer_bad h]
theorem IsR.notB {w : World} {b : Nat} {g : Nat → Prop} {s : Rd} (h : IsR w b g s) : ∀ (A : Option Addr) (x : Nm), BytesIn w A x.length x → ∀ ad, A = some ad → 0 < x.length → ad.block ≠ b := by
  obtain ⟨A, c, h1, _⟩ := h.at_
  exact fun A x hx => not_bytes h1 (fun i c => by
    match i with
    | 0 => simp [byteV]
    | 1 => simp [byteV]
    | i + 2 => simp) A x hx
theorem IsR3.notB {w : World} {b : Nat} {s : Rd} {A : Option Addr} {c : Nat} (h : IsR3 w b s A c) : ∀ (A : Option Addr) (x : Nm), BytesIn w A x.length x → ∀ ad, A = some ad → 0 < x.length → ad.block ≠ b :=
  fun A x hx => not_bytes h.blk (fun i c => by
    match i with
    | 0 => simp [byteV]
    | 1 => simp [byteV]
    | 2 => simp [byteV]
    | i + 3 => simp) A x hx
/-- A text more has been read: a token of its own. -/
theorem text_tok' {u u2 : World} {F : Nat → Prop} {v : Value} {x : Nm} (hF : ∀ i, F i → i < u.heap.size) (ho : u2.ownsRow u.heap.size 5 1 v x.length (x.map byteV)) (hx : x.length ≤ maxLen) : ∃ A c, v = .slice A x.length c ∧ TokIn u2 F (.slice A x.length c) x := by
  obtain ⟨A, c, rfl, hc⟩ := own_cap ho
  refine ⟨A, c, rfl, A, c, rfl, hc, BytesIn.own ho hx, fun ad e h0 hf => ?_⟩
  subst e
  have h1 := (ho.lt ad.block rfl).1
  have := hF _ hf
  omega
theorem text_tok {u u2 : World} {F : Nat → Prop} {v : Value} {x : Nm} (hF : ∀ i, F i → i < u.heap.size) (ho : u2.ownsRow u.heap.size 5 1 v x.length (x.map byteV)) (hx : x.length ≤ 16) : ∃ A c, v = .slice A x.length c ∧ TokIn u2 F (.slice A x.length c) x := text_tok' hF ho (by unfold maxLen; omega)
theorem readTok_len : ∀ (n : Nat) (s : Rd) (acc : List Nm), (readTok n s acc).1.length = acc.length + n
  | 0, _, _ => rfl
  | n + 1, s, acc => by rw [readTok, readTok_len, List.length_append, List.length_singleton]; omega
theorem readMer_len : ∀ (n : Nat) (s : Rd) (acc : List Mg), (readMer n s acc).1.length = acc.length + n
  | 0, _, _ => rfl
  | n + 1, s, acc => by rw [readMer, readMer_len, List.length_append, List.length_singleton]; omega
theorem readT_len (s : Rd) : (readT s).1.length ≤ 512 := by
  obtain ⟨n, s', h, hn⟩ := rInt_512 s (m := 512) (by omega)
  have h' : rInt s 512 = ((n : Int), s') := h
  unfold readT
  rw [readTok_len, h']
  simp only [List.length_nil, Int.toNat_natCast]; omega
theorem readM_len (s : Rd) : (readM s).1.length ≤ 512 := by
  obtain ⟨n, s', h, hn⟩ := rInt_512 s (m := 512) (by omega)
  have h' : rInt s 512 = ((n : Int), s') := h
  unfold readM
  rw [readMer_len, h']
  simp only [List.length_nil, Int.toNat_natCast]; omega
theorem mgFits_512 {a b t : Nat} (ha : a ≤ 512) (hb : b ≤ 512) (ht : t ≤ 512) : mgFits ⟨a, b, t⟩ := by
  refine ⟨⟨?_, ?_⟩, ⟨?_, ?_⟩, ⟨?_, ?_⟩⟩ <;> simp only <;> omega
end Go.Proofs.Ytecpihghlelefaa
