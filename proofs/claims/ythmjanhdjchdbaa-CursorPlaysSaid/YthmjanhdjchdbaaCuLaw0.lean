/- One cursor, two cursors: what a law does with them. -/
import Derived.Test.YthmjanhdjchdbaaPRef2
import Derived.Test.YthmjanhdjchdbaaCuHead
namespace Go.Proofs.Ythmjanhdjchdbaa
open Go.RowKit Go.Maps Go.WideMaps

variable {K : World → (Nat → Prop) → Nat → CSt → Prop}
/-- A cursor of the law's own, since W. -/
structure Cur (K : World → (Nat → Prop) → Nat → CSt → Prop) (W w : World) (F : Nat → Prop) (b : Nat) (s : CSt) (l : List Pst) : Prop where
  at_ : K w F b s
  wf : CWF s
  same : s.l = l
  new : NewIn W F
  below : Below W.heap.size W w
theorem Cur.later (hK : CursorOk K) {W w w' : World} {F : Nat → Prop} {b : Nat} {s : CSt} {l : List Pst} (h : Cur K W w F b s l) (hb : Below w.heap.size w w') : Cur K W w' F b s l :=
  ⟨hK.below h.at_ hb, h.wf, h.same, h.new, below_then h.below hb h.below.size⟩
theorem cStart_l (l : List Pst) : (cStart l).l = l := (cStand_l _).1
theorem cNext_l (s : CSt) : (cNext s).l = s.l := by
  unfold cNext
  rw [(cStand_l _).1]
  split <;> rfl
theorem cSkip_l (s : CSt) (d : Int) : (cSkip s d).l = s.l := by
  unfold cSkip
  rw [(cStand_l _).1]
theorem wf_start {x : List UInt8} {l : List Pst} (hg : getP x = (l, 0)) : CWF (cStart l) := by
  have h1 := getP_some (b := x) (by rw [hg])
  have h2 := getP_fit (b := x)
  rw [hg] at h1 h2
  have hV := (check_ok h2).1 h1.1
  exact CWF.start hV.few (fun x hx => ⟨hV.some x hx, hV.spots x hx⟩)
theorem cur_new (hK : CursorOk K) {W w : World} (hb : Below W.heap.size W w) {A : Option Addr} {n c : Nat} {x : Nm} (hx : BytesIn w A n x) (hc : n ≤ c) (hn : n ≤ 1099511627776) {l : List Pst} (hg : getP x = (l, 0)) :
    Calls Try.prog 11 #[.slice A n c] w fun e w' => ∃ b F, e = .returned (.tuple #[.pointer (some ⟨b, 0, none⟩), .int .i64 0]) ∧ Cur K W w' F b (cStart l) l ∧ Below w.heap.size w w' ∧ ∀ i, F i → w.heap.size ≤ i := by
  refine (hK.new w A n c x hx hc hn (by rw [hg])).mono ?_
  rintro e w' ⟨b, F, rfl, h1, h2, h3⟩
  rw [hg] at h2
  exact ⟨b, F, rfl, ⟨h2, wf_start hg, cStart_l l, fun i hi => by have := h3 i hi; have := hb.size; omega, below_then hb h1 hb.size⟩, h1, h3⟩
section
variable (hK : CursorOk K) {W w : World} {F : Nat → Prop} {b : Nat} {s : CSt} {l : List Pst} (h : Cur K W w F b s l)
include hK h
theorem cur_doc : Calls Try.prog 13 #[.pointer (some ⟨b, 0, none⟩)] w fun e w' => e = .returned (.tuple #[.int .i64 (cDoc s), .bool (cIn s)]) ∧ Below w.heap.size w w' := hK.doc h.at_ h.wf
theorem cur_reads : Calls Try.prog 18 #[.pointer (some ⟨b, 0, none⟩)] w fun e w' => e = .returned (.int .i64 s.read) ∧ Below w.heap.size w w' := hK.reads h.at_ h.wf
theorem cur_next : Calls Try.prog 19 #[.pointer (some ⟨b, 0, none⟩)] w fun e w' => e = .returned (.bool (cIn (cNext s))) ∧ ∃ F', Cur K W w' F' b (cNext s) l ∧ Kept F w w' ∧ ∀ i, F' i → F i ∨ w.heap.size ≤ i := by
  refine (hK.next h.at_ h.wf).mono ?_
  rintro e w' ⟨rfl, F', h1, h2, h3⟩
  exact ⟨rfl, F', ⟨h1, h.wf.next, by rw [cNext_l]; exact h.same, h.new.more h3 h.below.size, below_kept h.below h2 h.new⟩, h2, h3⟩
theorem cur_skip (d : Int) (hd : fits64 d) : Calls Try.prog 21 #[.pointer (some ⟨b, 0, none⟩), .int .i64 d] w fun e w' => e = .returned (.bool (cIn (cSkip s d))) ∧ ∃ F', Cur K W w' F' b (cSkip s d) l ∧ Kept F w w' ∧ ∀ i, F' i → F i ∨ w.heap.size ≤ i := by
  refine (hK.skip h.at_ h.wf d hd).mono ?_
  rintro e w' ⟨rfl, F', h1, h2, h3⟩
  exact ⟨rfl, F', ⟨h1, h.wf.skip d, by rw [cSkip_l]; exact h.same, h.new.more h3 h.below.size, below_kept h.below h2 h.new⟩, h2, h3⟩
end
/-- Two of them, apart. -/
structure Duo (K : World → (Nat → Prop) → Nat → CSt → Prop) (W w : World) (F : Nat → Prop) (b : Nat) (s : CSt) (G : Nat → Prop) (c : Nat) (t : CSt) (l : List Pst) : Prop where
  one : Cur K W w F b s l
  two : Cur K W w G c t l
  apart : ∀ i, F i → ¬ G i
theorem Duo.swap {W w : World} {F G : Nat → Prop} {b c : Nat} {s t : CSt} {l : List Pst} (h : Duo K W w F b s G c t l) : Duo K W w G c t F b s l := ⟨h.two, h.one, fun i hg hf => h.apart i hf hg⟩
theorem Duo.later (hK : CursorOk K) {W w w' : World} {F G : Nat → Prop} {b c : Nat} {s t : CSt} {l : List Pst} (h : Duo K W w F b s G c t l) (hb : Below w.heap.size w w') : Duo K W w' F b s G c t l := ⟨h.one.later hK hb, h.two.later hK hb, h.apart⟩
theorem Duo.turn (hK : CursorOk K) {W w w' : World} {F F' G : Nat → Prop} {b c : Nat} {s s' t : CSt} {l : List Pst} (h : Duo K W w F b s G c t l) (h1 : Cur K W w' F' b s' l) (hk : Kept F w w') (h2 : ∀ i, F' i → F i ∨ w.heap.size ≤ i) : Duo K W w' F' b s' G c t l :=
  ⟨h1, ⟨hK.far h.two.at_ hk (fun i hg hf => h.apart i hf hg), h.two.wf, h.two.same, h.two.new, h1.below⟩, fun i hf hg => by
    rcases h2 i hf with h3 | h3
    · exact h.apart i h3 hg
    · have := hK.lt h.two.at_ i hg; omega⟩
theorem Duo.made (hK : CursorOk K) {W w w' : World} {F G : Nat → Prop} {b c : Nat} {s t : CSt} {l : List Pst} (h : Cur K W w F b s l) (h2 : Cur K W w' G c t l) (hb : Below w.heap.size w w') (hG : ∀ i, G i → w.heap.size ≤ i) : Duo K W w' F b s G c t l :=
  ⟨h.later hK hb, h2, fun i hf hg => by have h3 := hK.lt h.at_ i hf; have h4 := hG i hg; omega⟩
section
variable (hK : CursorOk K) {W w : World} {F G : Nat → Prop} {b c : Nat} {s t : CSt} {l : List Pst} (h : Duo K W w F b s G c t l)
include hK h
theorem duo_next : Calls Try.prog 19 #[.pointer (some ⟨b, 0, none⟩)] w fun e w' => e = .returned (.bool (cIn (cNext s))) ∧ ∃ F', Duo K W w' F' b (cNext s) G c t l := by
  refine (cur_next hK h.one).mono ?_
  rintro e w' ⟨rfl, F', h1, h2, h3⟩
  exact ⟨rfl, F', h.turn hK h1 h2 h3⟩
theorem duo_skip (d : Int) (hd : fits64 d) : Calls Try.prog 21 #[.pointer (some ⟨b, 0, none⟩), .int .i64 d] w fun e w' => e = .returned (.bool (cIn (cSkip s d))) ∧ ∃ F', Duo K W w' F' b (cSkip s d) G c t l := by
  refine (cur_skip hK h.one d hd).mono ?_
  rintro e w' ⟨rfl, F', h1, h2, h3⟩
  exact ⟨rfl, F', h.turn hK h1 h2 h3⟩
end
/-- Postings that have bytes. -/
theorem has_bytes {l : List Pst} (hf : FitP l) {b : List UInt8} (hb : putE l = b) (h0 : 0 < b.length) : getP b = (l, 0) := by
  have hc : checkP l = 0 := by
    rcases Int.lt_trichotomy (checkP l) 0 with h | h | h
    · unfold putE at hb
      rw [if_neg (by omega)] at hb
      subst hb
      simp at h0
    · exact h
    · unfold putE at hb
      rw [if_neg (by omega)] at hb
      subst hb
      simp at h0
  rw [← hb, putE_good hc]
  exact get_put hf hc
end Go.Proofs.Ythmjanhdjchdbaa
