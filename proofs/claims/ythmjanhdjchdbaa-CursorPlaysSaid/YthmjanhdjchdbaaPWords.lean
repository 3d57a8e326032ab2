/- Words of the laws of post, and of the layers above. -/
import Derived.Test.YthmjanhdjchdbaaPRef9
import Derived.Test.YthmjanhdjchdbaaKSizedB
namespace Go.Proofs.Ythmjanhdjchdbaa
open Go.RowKit Go.Maps Go.WideMaps

theorem putE_len {l : List Pst} (hf : FitP l) : (putE l).length ≤ 368803860 := by
  unfold putE
  split
  · rename_i h
    exact putP_len ((check_ok hf).1 h)
  · simp
theorem getP_few (b : List UInt8) : (getP b).1.length ≤ 4096 := by
  rcases getP_err b with h | h
  · have h1 := (getP_some h).1
    have h2 : ¬ 4096 < (getP b).1.length := fun h3 => by rw [check_many h3] at h1; omega
    omega
  · rw [h]
    simp
/-- Postings' bytes, or an error, have come back. -/
def PutFound (w : World) (b : List UInt8) (r : Int) (e : Ending) (w' : World) : Prop := ∃ A c, e = .returned (.tuple #[.slice A b.length c, .int .i64 r]) ∧ BytesIn w' A b.length b ∧ b.length ≤ c ∧ (∀ ad, A = some ad → w.heap.size ≤ ad.block) ∧ Below w.heap.size w w'
def GetFound (w : World) (l : List Pst) (r : Int) (e : Ending) (w' : World) : Prop := ∃ A c, e = .returned (.tuple #[.slice A l.length c, .int .i64 r]) ∧ PostsSee w' A l.length l ∧ l.length ≤ c ∧ Below w.heap.size w w'
theorem put_found {w : World} {l : List Pst} {f : FuncId} {args : Array Value} (hf : FitP l) (h : Calls Try.prog f args w (PutPOut w l)) {b : List UInt8} {r : Int} (hb : putE l = b) (hr : checkP l = r) : Calls Try.prog f args w (PutFound w b r) := by
  subst hb hr
  refine h.mono ?_
  rintro e w' ⟨v, rfl, ho, hbl⟩
  obtain ⟨A, c, rfl⟩ := own_slice ho
  exact ⟨A, c, rfl, BytesIn.own ho (by have := putE_len hf; unfold maxLen; omega), rowCap_le ho, fun ad e => (ho.lt ad.block (by rw [e]; rfl)).1, hbl⟩
theorem get_found {w : World} {b : List UInt8} {f : FuncId} {args : Array Value} (h : Calls Try.prog f args w (GetPOut w (getP b))) {l : List Pst} {r : Int} (hg : getP b = (l, r)) : Calls Try.prog f args w (GetFound w l r) := by
  have hfew := getP_few b
  rw [hg] at h hfew
  refine h.mono ?_
  rintro e w' ⟨v, rfl, ho, hbl⟩
  simp only at ho hfew
  obtain ⟨R, hR0, hR1, hR2⟩ := ho
  obtain ⟨A, c, rfl⟩ := own_slice hR1
  exact ⟨A, c, rfl, PostsO.see ⟨R, hR0, hR1, hR2⟩ rfl (by unfold maxLen; omega), rowCap_le hR1, hbl⟩
theorem postsOf1 {w : World} {g : Nat} {B : Option Addr} {k c : Nat} {d : Int} {s : List (Int × Int)} (h : Blk w g 49 #[.int .i64 d, .slice B k c]) (hs : PairsIn w B k s) (hc : k ≤ c) (hd : fits64 d) : PostsSee w (some ⟨g, 0, none⟩) 1 [(d, s)] where
  len := rfl
  fit := by unfold maxLen; omega
  nil := fun e => by cases e
  at_ := fun ad e i x hx => by
    cases e
    match i with
    | 0 =>
      simp at hx
      subst hx
      have hl := hs.len
      simp only at hl ⊢
      rw [hl]
      exact ⟨hd, h.cell 0, B, c, h.cell 1, hc, hs⟩
    | i + 1 => simp at hx
theorem pairsOf1 (w : World) (e : TypeId) (p : Int × Int) (h : fits64 p.1 ∧ fits64 p.2) : PairsIn (w.alloc (.cells #[.int .i64 p.1, .int .i64 p.2] e)) (some ⟨w.heap.size, 0, none⟩) 1 [p] where
  len := rfl
  fit := by unfold maxLen; omega
  vals := fun q hq => by simp at hq; subst hq; exact h
  nil := fun e => by cases e
  cells := fun ad e1 i q hq => by
    cases e1
    have hB := Blk.new w e #[.int .i64 p.1, .int .i64 p.2]
    match i with
    | 0 =>
      simp at hq
      subst hq
      exact ⟨hB.cell 0, hB.cell 1⟩
    | i + 1 => simp at hq
theorem PostsSee.nil0 (w : World) : PostsSee w none 0 [] := ⟨rfl, by unfold maxLen; omega, fun _ => rfl, fun ad e => by cases e⟩

/-- All spots up to a place. -/
def spUp (l : List Pst) : Nat → Nat
  | 0 => 0
  | k + 1 => spUp l k + (pAt l k).2.length
theorem spUp_le {l : List Pst} {i n : Nat} (h : i < n) : (pAt l i).2.length ≤ spUp l n := by
  induction n with
  | zero => omega
  | succ n ih =>
    simp only [spUp]
    rcases Nat.lt_or_ge i n with h1 | h1
    · have := ih h1; omega
    · obtain rfl : i = n := by omega
      omega

/-- Postings that came in, with how long they may be. -/
def PostsSz (w : World) (A : Option Addr) (n : Nat) (l : List Pst) : Prop := PostsSee w A n l ∧ (∀ x ∈ l, x.2.length ≤ 140737488351232) ∧ n ≤ 140737488351232
theorem putE_good {l : List Pst} (h : checkP l = 0) : putE l = putP l := by unfold putE; rw [if_pos h]
theorem get_put {l : List Pst} (hf : FitP l) (h : checkP l = 0) : getP (putP l) = (l, 0) := getP_put ((check_ok hf).1 h)
theorem check_few {l : List Pst} (h : checkP l = 0) : l.length ≤ 4096 := by
  rcases Nat.lt_or_ge 4096 l.length with h1 | h1
  · rw [check_many h1] at h; omega
  · exact h1
theorem check_spots0 {l : List Pst} (h : checkP l = 0) : ∀ x ∈ l, x.2.length ≤ 4096 := fun x hx => by
  obtain ⟨i, hi, rfl⟩ := pAt_of hx
  rcases Nat.lt_or_ge 4096 (pAt l i).2.length with h1 | h1
  · rw [check_spots hi h1] at h; omega
  · exact h1
end Go.Proofs.Ythmjanhdjchdbaa
