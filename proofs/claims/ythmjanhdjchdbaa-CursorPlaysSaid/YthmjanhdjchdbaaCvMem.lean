/- The program's cursor in memory; number, head, pass, begins. -/
import Derived.Test.YthmjanhdjchdbaaCvMath
import Derived.Test.YthmjanhdjchdbaaLProg2
import Derived.Test.YthmjanhdjchdbaaKPostsG
import Derived.Test.YthmjanhdjchdbaaKPostsA
import Derived.Test.YthmjanhdjchdbaaKInts
import Derived.Deep.RegionHeld3
import Derived.StillTailTactics
import Derived.RegionTactic
namespace Go.Proofs.Ythmjanhdjchdbaa
open Go.RowKit Go.Maps Go.WideMaps
set_option linter.unusedSimpArgs false

theorem add_block (ad : Addr) (k : Nat) : (ad.add k).block = ad.block := by unfold Addr.add; split <;> rfl
theorem add_add (ad : Addr) (i j : Nat) : (ad.add i).add j = ad.add (i + j) := by
  unfold Addr.add
  by_cases hi : i = 0
  · subst hi
    simp
  · by_cases hj : j = 0
    · subst hj
      simp [hi]
    · rw [if_neg hi, if_neg hj, if_neg (by omega)]
      simp only [Addr.mk.injEq, and_true, true_and]
      omega
/-- Postings to read, all in the blocks F. -/
def PostsF (w : World) (F : Nat → Prop) (A : Option Addr) (n : Nat) (l : List Pst) : Prop :=
  PostsSee w A n l ∧ (∀ ad, A = some ad → 0 < n → F ad.block) ∧ ∀ ad (i : Nat) (x : Pst), A = some ad → l[i]? = some x → ∀ B c, w.cell? (ad.add (i * 2 + 1)) = some (.slice B x.2.length c) → ∀ bd, B = some bd → 0 < x.2.length → F bd.block
theorem PostsF.keep {w w' : World} {F : Nat → Prop} {A : Option Addr} {n : Nat} {l : List Pst} (h : PostsF w F A n l) (hk : ∀ i, F i → w'.heap[i]? = w.heap[i]?) : PostsF w' F A n l := by
  obtain ⟨h1, h2, h3⟩ := h
  have hc : ∀ ad (i k : Nat) (x : Pst), A = some ad → l[i]? = some x → w'.cell? (ad.add k) = w.cell? (ad.add k) := fun ad i k x e hx => by
    have hn := h1.len
    have hi := (List.getElem?_eq_some_iff.1 hx).1
    exact World.cell?_of_block (by rw [add_block]; exact hk _ (h2 ad e (by omega)))
  refine ⟨⟨h1.len, h1.fit, h1.nil, fun ad e i x hx => ?_⟩, h2, fun ad i x e hx B c hB => h3 ad i x e hx B c (by rw [← hB]; exact (hc ad i _ x e hx).symm)⟩
  obtain ⟨q1, q2, B, c, q3, q4, q5⟩ := h1.at_ ad e i x hx
  refine ⟨q1, (hc ad i _ x e hx).trans q2, B, c, (hc ad i _ x e hx).trans q3, q4, ⟨q5.len, q5.fit, q5.vals, q5.nil, fun bd eb j q hq => ?_⟩⟩
  have hj := (List.getElem?_eq_some_iff.1 hq).1
  have hF := hk _ (h3 ad i x e hx B c q3 bd eb (by omega))
  obtain ⟨c1, c2⟩ := q5.cells bd eb j q hq
  exact ⟨(World.cell?_of_block (by rw [add_block]; exact hF)).trans c1, (World.cell?_of_block (by rw [add_block]; exact hF)).trans c2⟩
theorem PostsF.mono {w : World} {F G : Nat → Prop} {A : Option Addr} {n : Nat} {l : List Pst} (h : PostsF w F A n l) (hk : ∀ i, F i → G i) : PostsF w G A n l :=
  ⟨h.1, fun ad e h0 => hk _ (h.2.1 ad e h0), fun ad i x e hx B c hB bd eb h0 => hk _ (h.2.2 ad i x e hx B c hB bd eb h0)⟩
theorem PostsF.nil (w : World) (F : Nat → Prop) : PostsF w F none 0 [] := ⟨⟨rfl, Nat.zero_le _, (fun _ => rfl), (fun ad e => (by cases e))⟩, (fun ad e => (by cases e)), (fun ad i x e => (by cases e))⟩
theorem PostsO.seeF {w : World} {base n c : Nat} {A : Option Addr} {L : List Pst} (h : PostsO w base (.slice A n c) L) (hn : L.length = n) (h63 : n ≤ maxLen) : PostsF w (fun i => base ≤ i ∧ i < w.heap.size) A n L := by
  have hz : ∀ ad, A = some ad → ad = ⟨ad.block, 0, none⟩ := fun ad e => by
    obtain ⟨R, h0, h1, h2⟩ := h
    subst e
    rcases h1.2 with ⟨h3, _⟩ | ⟨g, cap, cur, h3, _⟩
    · cases h3
    · cases h3; rfl
  have ha : ∀ g k, (⟨g, 0, none⟩ : Addr).add k = ⟨g, k, none⟩ := fun g k => by
    unfold Addr.add
    split
    · rename_i h0; rw [h0]
    · simp
  refine ⟨h.see hn h63, fun ad e _ => ?_, fun ad i x e hx B c2 hB bd eb h0 => ?_⟩
  · obtain ⟨R, h0, h1, h2⟩ := h
    exact h1.lt ad.block (by rw [e]; rfl)
  · have hz := hz ad e
    obtain ⟨R, h0', h1, h2⟩ := h
    have hlt := (List.getElem?_eq_some_iff.1 hx).1
    obtain ⟨p, hp⟩ : ∃ p, R[i]? = some p := ⟨_, List.getElem?_eq_getElem (by omega)⟩
    obtain ⟨q1, q2, B', cc, q3, q4, q5, q6⟩ := h2 i p x hp hx
    have hc := h1.cells (g := ad.block) (by rw [e]; rfl) (i * 2 + 1) _ (doc_at R i 1 p p.2 hp rfl)
    rw [ha] at hc
    rw [hz, ha, hc, q3] at hB
    simp only [Option.some.injEq, Value.slice.injEq] at hB
    obtain ⟨rfl, _⟩ := hB
    have := q6 bd eb h0
    exact ⟨this.2.1, this.1⟩
/-- Where 'x[p:]' of postings begins. -/
def cutAddr2 (A : Option Addr) (p c : Nat) : Option Addr := if c = p then A else A.map (·.add (p * 2))
theorem PostsF.cut {w : World} {F : Nat → Prop} {A : Option Addr} {n c : Nat} {l : List Pst} (h : PostsF w F A n l) (hc : n ≤ c) {p : Nat} (hp : p ≤ n) : PostsF w F (cutAddr2 A p c) (n - p) (l.drop p) := by
  obtain ⟨h1, h2, h3⟩ := h
  have hl := h1.len
  have hf := h1.fit
  unfold cutAddr2
  split
  · have e : l.drop p = [] := List.eq_nil_of_length_eq_zero (by simp; omega)
    rw [e, show n - p = 0 by omega]
    exact ⟨⟨rfl, Nat.zero_le _, fun _ => rfl, fun ad _ i x hx => by simp at hx⟩, fun ad _ h0 => by omega, fun ad i x _ hx => by simp at hx⟩
  · cases A with
    | none =>
      have hz := h1.nil rfl
      have e : l.drop p = [] := List.eq_nil_of_length_eq_zero (by simp; omega)
      rw [e, show n - p = 0 by omega]
      exact ⟨⟨rfl, Nat.zero_le _, fun _ => rfl, fun ad _ i x hx => by simp at hx⟩, fun ad _ h0 => by omega, fun ad i x _ hx => by simp at hx⟩
    | some a =>
      refine ⟨⟨by simp; omega, by omega, fun e => by simp at e, fun ad e i x hx => ?_⟩, fun ad e h0 => ?_, fun ad i x e hx B c2 hB => ?_⟩
      · simp at e
        subst e
        rw [List.getElem?_drop] at hx
        rw [add_add, add_add]
        have := h1.at_ a rfl (p + i) x hx
        rw [show p * 2 + i * 2 = (p + i) * 2 by omega, show p * 2 + (i * 2 + 1) = (p + i) * 2 + 1 by omega]
        exact this
      · simp at e
        subst e
        rw [add_block]
        exact h2 a rfl (by omega)
      · simp at e
        subst e
        rw [List.getElem?_drop] at hx
        rw [add_add, show p * 2 + (i * 2 + 1) = (p + i) * 2 + 1 by omega] at hB
        exact h3 a (p + i) x rfl hx B c2 hB
/-- Bytes in the blocks F. -/
def BytesF (w : World) (F : Nat → Prop) (A : Option Addr) (n : Nat) (l : Nm) : Prop := BytesIn w A n l ∧ ∀ ad, A = some ad → 0 < n → F ad.block
theorem BytesF.keep {w w' : World} {F : Nat → Prop} {A : Option Addr} {n : Nat} {l : Nm} (h : BytesF w F A n l) (hk : ∀ i, F i → w'.heap[i]? = w.heap[i]?) (hs : w.heap.size ≤ w'.heap.size) : BytesF w' F A n l :=
  ⟨⟨h.1.1, h.1.2.1.keep fun ad e h0 => hk _ (h.2 ad e h0), fun ad e h0 => Nat.lt_of_lt_of_le (h.1.2.2 ad e h0) hs⟩, h.2⟩
theorem BytesF.sub {w : World} {F : Nat → Prop} {A : Option Addr} {n c : Nat} {l : Nm} (h : BytesF w F A n l) (hc : n ≤ c) (p : Nat) (hp : p ≤ n) : BytesF w F (cutAddr A p c) (n - p) (l.drop p) := by
  have hl : l.length = n := by have := h.1.2.1.len; simpa using this
  have h1 := h.1.sub hc p n hp (Nat.le_refl _)
  rw [List.take_of_length_le (by omega)] at h1
  refine ⟨h1, fun ad e h0 => ?_⟩
  unfold cutAddr at e
  split at e
  · exact h.2 ad e (by omega)
  · cases A with
    | none => cases e
    | some a =>
      simp at e
      subst e
      rw [add_block]
      exact h.2 a rfl (by omega)
/-- What a cursor's struct refers to. -/
structure CuIn (w : World) (F : Nat → Prop) (b : Nat) (A : Option Addr) (n c : Nat) (L : Option Addr) (m k : Nat) (po : List Pst) (lf : Nm) : Prop where
  po : PostsF w (fun i => F i ∧ i ≠ b) A n po
  cap : n ≤ c
  lf : BytesF w (fun i => F i ∧ i ≠ b) L m lf
  room : m ≤ k ∧ m ≤ 1099511627776
  own : F b
  low : ∀ i, F i → i < w.heap.size
theorem CuIn.kept {w w' : World} {F : Nat → Prop} {b : Nat} {A : Option Addr} {n c : Nat} {L : Option Addr} {m k : Nat} {po : List Pst} {lf : Nm} (h : CuIn w F b A n c L m k po lf) (hk : Kept (fun i => i = b) w w') : CuIn w' F b A n c L m k po lf where
  po := h.po.keep fun i hi => hk.block i (h.low i hi.1) hi.2
  cap := h.cap
  lf := h.lf.keep (fun i hi => hk.block i (h.low i hi.1) hi.2) hk.size
  room := h.room
  own := h.own
  low := fun i hi => Nat.lt_of_lt_of_le (h.low i hi) hk.size
theorem CuIn.all {w w' : World} {F : Nat → Prop} {b : Nat} {A : Option Addr} {n c : Nat} {L : Option Addr} {m k : Nat} {po : List Pst} {lf : Nm} (h : CuIn w F b A n c L m k po lf) (hk : ∀ i, F i → w'.heap[i]? = w.heap[i]?) (hs : w.heap.size ≤ w'.heap.size) : CuIn w' F b A n c L m k po lf where
  po := h.po.keep fun i hi => hk i hi.1
  cap := h.cap
  lf := h.lf.keep (fun i hi => hk i hi.1) hs
  room := h.room
  own := h.own
  low := fun i hi => Nat.lt_of_lt_of_le (h.low i hi) hs
theorem CuIn.left {w : World} {F : Nat → Prop} {b : Nat} {A : Option Addr} {n c : Nat} {L : Option Addr} {m k : Nat} {po : List Pst} {lf : Nm} (h : CuIn w F b A n c L m k po lf) {p : Nat} (hp : p ≤ m) : CuIn w F b A n c (cutAddr L p k) (m - p) (k - p) po (lf.drop p) :=
  ⟨h.po, h.cap, h.lf.sub h.room.1 p hp, by have := h.room; omega, h.own, h.low⟩
/-- A cursor lies at b, in the blocks F: the postings of its block, what is left, and its numbers. -/
def CuRaw (w : World) (F : Nat → Prop) (b : Nat) (po : List Pst) (lf : Nm) (la P N r : Int) : Prop :=
  ∃ A n c L m k, Blk w b 62 #[.slice A n c, .slice L m k, .int .i64 la, .int .i64 P, .int .i64 N, .int .i64 r] ∧ CuIn w F b A n c L m k po lf
theorem CuRaw.all {w w' : World} {F : Nat → Prop} {b : Nat} {po : List Pst} {lf : Nm} {la P N r : Int} (h : CuRaw w F b po lf la P N r) (hk : ∀ i, F i → w'.heap[i]? = w.heap[i]?) (hs : w.heap.size ≤ w'.heap.size) : CuRaw w' F b po lf la P N r := by
  obtain ⟨A, n, c, L, m, k, h1, h2⟩ := h
  exact ⟨A, n, c, L, m, k, (hk b h2.own).trans h1, h2.all hk hs⟩
theorem CuRaw.lt {w : World} {F : Nat → Prop} {b : Nat} {po : List Pst} {lf : Nm} {la P N r : Int} (h : CuRaw w F b po lf la P N r) : b < w.heap.size := by
  obtain ⟨A, n, c, L, m, k, h1, h2⟩ := h
  exact h1.lt
theorem CuRaw.low {w : World} {F : Nat → Prop} {b : Nat} {po : List Pst} {lf : Nm} {la P N r : Int} (h : CuRaw w F b po lf la P N r) : F b ∧ ∀ i, F i → i < w.heap.size := by
  obtain ⟨A, n, c, L, m, k, h1, h2⟩ := h
  exact ⟨h2.own, h2.low⟩
theorem CuRaw.below {w w' : World} {F : Nat → Prop} {b : Nat} {po : List Pst} {lf : Nm} {la P N r : Int} (h : CuRaw w F b po lf la P N r) (hb : Below w.heap.size w w') : CuRaw w' F b po lf la P N r :=
  h.all (fun i hi => hb.block i (h.low.2 i hi)) hb.size
theorem cu_set {b : Nat} {a w : World} (h : Kept (fun i => i = b) a w) (i : Nat) (u : Value) : Kept (fun i => i = b) a (w.setCell ⟨b, i, none⟩ u) := h.setCell (p := ⟨b, i, none⟩) (.inl rfl) u
theorem cu_then {b : Nat} {x y z : World} (h : Kept (fun i => i = b) x y) (k : Kept (fun i => i = b) y z) : Kept (fun i => i = b) x z := h.trans k (fun _ _ h => h)

set_option maxHeartbeats 4000000 in
set_option maxRecDepth 100000 in
theorem cNum_any {w : World} {F : Nat → Prop} {b : Nat} {po : List Pst} {lf rest : Nm} {la P N r : Int} (h : CuRaw w F b po lf la P N r) {v : Nat} (hv : v < 2 ^ 63) (hl : lf = putL v ++ rest) :
    Calls Try.prog 26 #[at0 b] w fun e w' => e = .returned (.int .i64 v) ∧ CuRaw w' F b po rest la P N r ∧ Kept (fun i => i = b) w w' := by
  obtain ⟨A, n, c, L, m, k, h1, h2⟩ := h
  have hln : lf.length = m := by have := h2.lf.1.2.1.len; simpa using this
  have hg : getL lf = (v, (putL v).length, 0) := by rw [hl]; exact getL_put (by omega) _
  have HG := Lib.hid (lGet_any w L m k lf h2.lf.1)
  unfold gotV at HG
  rw [hg] at HG
  simp only at HG
  obtain ⟨j, hj⟩ : ∃ j, j = (putL v).length := ⟨_, rfl⟩
  rw [← hj] at HG
  have hjm : j ≤ m := by rw [hj, ← hln, hl, List.length_append]; omega
  have hdr : lf.drop j = rest := by rw [hj, hl, List.drop_left]
  have hk := h2.room.1
  have HB := Lib.hid h1
  have H2 := Lib.hid (h2.left hjm)
  rw [hdr] at H2
  have c1 := h1.cell 1
  have z1 := h1.frozen 1
  simp at c1
  have hsl := fun w => slice_from w L m k j hjm
  have hw : IntKind.i64.wrap (v : Int) = (v : Int) := IntWalk.i64_in _ (by omega)
  clear h1 h2 hg hj hl hln hdr
  unfold at0
  go_enter Try.func26, Try.ntmps26
  go_wp2_with fail
  refine HG.out.mono ?_
  rintro e w1 ⟨rfl, rfl⟩
  go_wp2
  go_ret
  have hk : Kept (fun i => i = b) w1 (w1.setCell ⟨b, 1, none⟩ (.slice (cutAddr L j k) (m - j) (k - j))) := cu_set (Kept.refl _ w1) 1 _
  exact ⟨rfl, ⟨A, n, c, _, _, _, by simpa using HB.out.set_ 1 (.slice (cutAddr L j k) (m - j) (k - j)), H2.out.kept hk⟩, hk⟩
end Go.Proofs.Ythmjanhdjchdbaa
