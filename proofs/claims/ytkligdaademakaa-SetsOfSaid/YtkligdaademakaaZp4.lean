/- Bytes of postings from a place on: what a head says, what stands behind it; where a Skip gets to. The program's cursor in memory; number, head, pass, begins. The program's cursor: head, pass, begins. The program's reading of a block: spots, the closure that reads rising numbers, read. The program's skip within a block. The program's enter: past groups and blocks to the first block that is wanted. -/
import Derived.Test.YtkligdaademakaaQMath
import Derived.Test.YtkligdaademakaaZp5
import Derived.Test.YtkligdaademakaaLProg2
import Derived.Test.YtkligdaademakaaZp6
import Derived.Test.YtkligdaademakaaKInts
import Derived.Deep.RegionHeld3
import Derived.StillTailTactics
import Derived.RegionTactic
import Derived.Test.YtkligdaademakaaLProg4
import Derived.Test.YtkligdaademakaaPInfo
import Derived.Shelf.Abstract
import Derived.Deep.LoopGhost
import Derived.Deep.DeepCutAuto
import Derived.Deep.QuietTactic
import Derived.BigQuiet
namespace Go.Proofs.Ytkligdaademakaa

/-- All bytes from a place on. -/
def restP (l : List Pst) (P : Nat) : List UInt8 := cat (lin l) P (l.length - P)
/-- Where a part of so many places ends. -/
def endP (l : List Pst) (P m : Nat) : Nat := min l.length (P + m)
/-- A block's bytes, behind its head. -/
def inB (l : List Pst) (P : Nat) : List UInt8 := cat (unitB l) P (endP l P 4 - P)
/-- A group's bytes, behind its head. -/
def inG (l : List Pst) (P : Nat) : List UInt8 := cat (linB l) P (endP l P 16 - P)
/-- All bytes from a block on, behind its group's head. -/
def restI (l : List Pst) (P : Nat) : List UInt8 := blockB l P ++ (inB l P ++ restP l (P + 4))

theorem rest_none {l : List Pst} {P : Nat} (h : l.length ≤ P) : restP l P = [] := by
  unfold restP
  rw [show l.length - P = 0 by omega]
  rfl
theorem rest_cut {l : List Pst} {P m : Nat} (h : P < l.length) : restP l P = cat (lin l) P (endP l P m - P) ++ restP l (P + m) := by
  unfold restP endP
  rcases Nat.lt_or_ge l.length (P + m) with h1 | h1
  · rw [show l.length - (P + m) = 0 by omega, show min l.length (P + m) - P = l.length - P by omega]
    simp [cat]
  · have := cat_add (lin l) P m (l.length - (P + m))
    rw [show m + (l.length - (P + m)) = l.length - P by omega] at this
    rw [show min l.length (P + m) - P = m by omega]
    exact this
theorem rest_split {l : List Pst} {P : Nat} (h : P < l.length) (h4 : P % 4 = 0) : restP l P = (if P % 16 = 0 then groupB l P else []) ++ restI l P := by
  rw [rest_cut (m := 4) h]
  unfold restI
  rw [← List.append_assoc (blockB l P), ← List.append_assoc (if P % 16 = 0 then groupB l P else [])]
  congr 1
  have hk : 0 < endP l P 4 - P := by unfold endP; omega
  have hk4 : endP l P 4 - P ≤ 4 := by unfold endP; omega
  unfold inB
  rw [← cat_block l h4 hk hk4]
  obtain ⟨k, hk'⟩ : ∃ k, endP l P 4 - P = k + 1 := ⟨endP l P 4 - P - 1, by omega⟩
  rw [hk', cat_cons, cat_cons, lin, List.append_assoc]
  congr 2
  exact cat_congr fun j h1 h2 => by rw [lin, if_neg (by omega)]; rfl
theorem group_rest {l : List Pst} {P : Nat} (h : P < l.length) (h16 : P % 16 = 0) : restI l P = inG l P ++ restP l (P + 16) := by
  have h1 := rest_split h (by omega)
  rw [if_pos h16, rest_cut (m := 16) h] at h1
  have hk : 0 < endP l P 16 - P := by unfold endP; omega
  have hk4 : endP l P 16 - P ≤ 16 := by unfold endP; omega
  rw [cat_group l h16 hk hk4, List.append_assoc] at h1
  exact (List.append_cancel_left h1).symm

/-- How far a part's last Doc is, as its head says. -/
def gapP (l : List Pst) (P m : Nat) : Nat := (lastD l (endP l P m) - lastD l P - 1).toNat
theorem last_end {l : List Pst} {P m : Nat} (h : P < l.length) (hm : 0 < m) : lastD l (endP l P m) = (pAt l (endP l P m - 1)).1 := by
  unfold lastD
  rw [if_neg (by unfold endP; omega)]
theorem last_mono {l : List Pst} (hV : ValidP l) {P E : Nat} (h1 : P < E) (h2 : E ≤ l.length) : lastD l P < lastD l E := by
  have h3 := hV.up P (by omega)
  have h4 := docs_mono hV (show P ≤ E - 1 by omega) (by omega)
  rw [show lastD l E = (pAt l (E - 1)).1 by unfold lastD; rw [if_neg (by omega)]]
  omega
theorem gap_is {l : List Pst} (hV : ValidP l) {P m : Nat} (h : P < l.length) (hm : 0 < m) : lastD l P + 1 + (gapP l P m : Int) = lastD l (endP l P m) ∧ gapP l P m < 2 ^ 40 := by
  have h1 := last_mono hV (P := P) (E := endP l P m) (by unfold endP; omega) (by unfold endP; omega)
  have h2 := hV.last (i := P) (by omega)
  have h3 := hV.last (i := endP l P m) (by unfold endP; omega)
  unfold gapP
  omega
theorem head_group {l : List Pst} {P : Nat} (h : P < l.length) (h16 : P % 16 = 0) : restP l P = putL (gapP l P 16) ++ (putL (inG l P).length ++ restI l P) := by
  rw [rest_split h (by omega), if_pos h16]
  unfold groupB headB gapP
  rw [last_end h (by omega), List.append_assoc]
  rfl
theorem head_block {l : List Pst} {P : Nat} (h : P < l.length) : restI l P = putL (gapP l P 4) ++ (putL (inB l P).length ++ (inB l P ++ restP l (P + 4))) := by
  unfold restI blockB headB gapP
  rw [last_end h (by omega), List.append_assoc]
  rfl
theorem rest_here {l : List Pst} {P : Nat} (h : P < l.length) (h4 : P % 4 = 0) (h16 : P % 16 ≠ 0) : restP l P = restI l P := by
  rw [rest_split h h4, if_neg h16]
  rfl
theorem inB_len {l : List Pst} (hV : ValidP l) {P : Nat} (h : P < l.length) : (inB l P).length ≤ 360000 := by
  have := units_len hV (i := P) (k := endP l P 4 - P) (by unfold endP; omega)
  unfold inB
  have h2 : endP l P 4 - P ≤ 4 := by unfold endP; omega
  omega
theorem inG_len {l : List Pst} (hV : ValidP l) {P : Nat} (h : P < l.length) : (inG l P).length ≤ 1440320 := by
  have := linBs_len hV (i := P) (k := endP l P 16 - P) (by unfold endP; omega)
  unfold inG
  have h2 : endP l P 16 - P ≤ 16 := by unfold endP; omega
  omega
theorem lastD_end (l : List Pst) (P m : Nat) : lastD l (min (P + m) l.length) = lastD l (endP l P m) := by unfold endP; rw [Nat.min_comm]
/-- Behind a part that ends ahead of d all places ahead are. -/
theorem less_part {l : List Pst} (hV : ValidP l) {P m : Nat} {d : Int} (h : P < l.length) (hm : 0 < m) (hd : lastD l (endP l P m) < d) : ∀ i, i < endP l P m → (pAt l i).1 < d := fun i hi => by
  rw [last_end h hm] at hd
  have := docs_mono hV (show i ≤ endP l P m - 1 by omega) (by unfold endP; omega)
  omega
/-- Of a block's places, the first one's number at which the Doc is d or greater, or as many as there are. -/
def idxFrom (l : List Pst) (d : Int) : Nat → Nat → Nat
  | 0, _ => 0
  | k + 1, a => if (pAt l a).1 < d then idxFrom l d k (a + 1) + 1 else 0

theorem pAt_sl {l : List Pst} {x y i : Nat} (h : i < y - x) : pAt (sl l x y) i = pAt l (x + i) := by
  unfold sl
  rw [pAt_take h, pAt_drop]
theorem sl_len {l : List Pst} {x y : Nat} (h : y ≤ l.length) : (sl l x y).length = y - x := by
  unfold sl
  rw [List.length_take, List.length_drop]
  omega
theorem sl_drop {l : List Pst} {x y k : Nat} : (sl l x y).drop k = sl l (x + k) y := by
  unfold sl
  rw [List.drop_take, List.drop_drop, show y - x - k = y - (x + k) by omega]
theorem putL_get {v : Nat} (h : v < 2 ^ 64) (r : List UInt8) : getL (putL v ++ r) = (v, (putL v).length, 0) := getL_put h r
end Go.Proofs.Ytkligdaademakaa
namespace Go.Proofs.Ytkligdaademakaa
open Go.RowKit Go.Maps Go.WideMaps
set_option linter.unusedSimpArgs false

theorem cu_add_block (ad : Addr) (k : Nat) : (ad.add k).block = ad.block := by unfold Addr.add; split <;> rfl
theorem cu_add_add (ad : Addr) (i j : Nat) : (ad.add i).add j = ad.add (i + j) := by
  unfold Addr.add
  by_cases hi : i = 0
  · subst hi
    simp
  · by_cases hj : j = 0
    · subst hj
      simp [hi]
    · rw [if_neg hi, if_neg hj, if_neg (by omega)]
      simp only [Addr.mk.injEq, and_true, true_and]
      omega
/-- Postings to read, all in the blocks F. -/
def PostsF (w : World) (F : Nat → Prop) (A : Option Addr) (n : Nat) (l : List Pst) : Prop :=
  PostsSee w A n l ∧ (∀ ad, A = some ad → 0 < n → F ad.block) ∧ ∀ ad (i : Nat) (x : Pst), A = some ad → l[i]? = some x → ∀ B c, w.cell? (ad.add (i * 2 + 1)) = some (.slice B x.2.length c) → ∀ bd, B = some bd → 0 < x.2.length → F bd.block
theorem PostsF.keep {w w' : World} {F : Nat → Prop} {A : Option Addr} {n : Nat} {l : List Pst} (h : PostsF w F A n l) (hk : ∀ i, F i → w'.heap[i]? = w.heap[i]?) : PostsF w' F A n l := by
  obtain ⟨h1, h2, h3⟩ := h
  have hc : ∀ ad (i k : Nat) (x : Pst), A = some ad → l[i]? = some x → w'.cell? (ad.add k) = w.cell? (ad.add k) := fun ad i k x e hx => by
    have hn := h1.len
    have hi := (List.getElem?_eq_some_iff.1 hx).1
    exact World.cell?_of_block (by rw [cu_add_block]; exact hk _ (h2 ad e (by omega)))
  refine ⟨⟨h1.len, h1.fit, h1.nil, fun ad e i x hx => ?_⟩, h2, fun ad i x e hx B c hB => h3 ad i x e hx B c (by rw [← hB]; exact (hc ad i _ x e hx).symm)⟩
  obtain ⟨q1, q2, B, c, q3, q4, q5⟩ := h1.at_ ad e i x hx
  refine ⟨q1, (hc ad i _ x e hx).trans q2, B, c, (hc ad i _ x e hx).trans q3, q4, ⟨q5.len, q5.fit, q5.vals, q5.nil, fun bd eb j q hq => ?_⟩⟩
  have hj := (List.getElem?_eq_some_iff.1 hq).1
  have hF := hk _ (h3 ad i x e hx B c q3 bd eb (by omega))
  obtain ⟨c1, c2⟩ := q5.cells bd eb j q hq
  exact ⟨(World.cell?_of_block (by rw [cu_add_block]; exact hF)).trans c1, (World.cell?_of_block (by rw [cu_add_block]; exact hF)).trans c2⟩
theorem PostsF.mono {w : World} {F G : Nat → Prop} {A : Option Addr} {n : Nat} {l : List Pst} (h : PostsF w F A n l) (hk : ∀ i, F i → G i) : PostsF w G A n l :=
  ⟨h.1, fun ad e h0 => hk _ (h.2.1 ad e h0), fun ad i x e hx B c hB bd eb h0 => hk _ (h.2.2 ad i x e hx B c hB bd eb h0)⟩
theorem PostsF.nil (w : World) (F : Nat → Prop) : PostsF w F none 0 [] := ⟨⟨rfl, Nat.zero_le _, (fun _ => rfl), (fun ad e => (by cases e))⟩, (fun ad e => (by cases e)), (fun ad i x e => (by cases e))⟩
theorem PostsO.seeF {w : World} {base n c : Nat} {A : Option Addr} {L : List Pst} (h : PostsO w base (.slice A n c) L) (hn : L.length = n) (h63 : n ≤ maxLen) : PostsF w (fun i => base ≤ i ∧ i < w.heap.size) A n L := by
  have hz : ∀ ad, A = some ad → ad = ⟨ad.block, 0, none⟩ := fun ad e => by
    obtain ⟨R, h0, h1, h2⟩ := h
    subst e
    rcases h1.2 with ⟨h3, _⟩ | ⟨g, cap, cur, h3, _⟩
    · cases h3
    · cases h3; rfl
  have ha : ∀ g k, (⟨g, 0, none⟩ : Addr).add k = ⟨g, k, none⟩ := fun g k => by
    unfold Addr.add
    split
    · rename_i h0; rw [h0]
    · simp
  refine ⟨h.see hn h63, fun ad e _ => ?_, fun ad i x e hx B c2 hB bd eb h0 => ?_⟩
  · obtain ⟨R, h0, h1, h2⟩ := h
    exact h1.lt ad.block (by rw [e]; rfl)
  · have hz := hz ad e
    obtain ⟨R, h0', h1, h2⟩ := h
    have hlt := (List.getElem?_eq_some_iff.1 hx).1
    obtain ⟨p, hp⟩ : ∃ p, R[i]? = some p := ⟨_, List.getElem?_eq_getElem (by omega)⟩
    obtain ⟨q1, q2, B', cc, q3, q4, q5, q6⟩ := h2 i p x hp hx
    have hc := h1.cells (g := ad.block) (by rw [e]; rfl) (i * 2 + 1) _ (doc_at R i 1 p p.2 hp rfl)
    rw [ha] at hc
    rw [hz, ha, hc, q3] at hB
    simp only [Option.some.injEq, Value.slice.injEq] at hB
    obtain ⟨rfl, _⟩ := hB
    have := q6 bd eb h0
    exact ⟨this.2.1, this.1⟩
/-- Where 'x[p:]' of postings begins. -/
def cutAddr2 (A : Option Addr) (p c : Nat) : Option Addr := if c = p then A else A.map (·.add (p * 2))
theorem PostsF.cut {w : World} {F : Nat → Prop} {A : Option Addr} {n c : Nat} {l : List Pst} (h : PostsF w F A n l) (hc : n ≤ c) {p : Nat} (hp : p ≤ n) : PostsF w F (cutAddr2 A p c) (n - p) (l.drop p) := by
  obtain ⟨h1, h2, h3⟩ := h
  have hl := h1.len
  have hf := h1.fit
  unfold cutAddr2
  split
  · have e : l.drop p = [] := List.eq_nil_of_length_eq_zero (by simp; omega)
    rw [e, show n - p = 0 by omega]
    exact ⟨⟨rfl, Nat.zero_le _, fun _ => rfl, fun ad _ i x hx => by simp at hx⟩, fun ad _ h0 => by omega, fun ad i x _ hx => by simp at hx⟩
  · cases A with
    | none =>
      have hz := h1.nil rfl
      have e : l.drop p = [] := List.eq_nil_of_length_eq_zero (by simp; omega)
      rw [e, show n - p = 0 by omega]
      exact ⟨⟨rfl, Nat.zero_le _, fun _ => rfl, fun ad _ i x hx => by simp at hx⟩, fun ad _ h0 => by omega, fun ad i x _ hx => by simp at hx⟩
    | some a =>
      refine ⟨⟨by simp; omega, by omega, fun e => by simp at e, fun ad e i x hx => ?_⟩, fun ad e h0 => ?_, fun ad i x e hx B c2 hB => ?_⟩
      · simp at e
        subst e
        rw [List.getElem?_drop] at hx
        rw [cu_add_add, cu_add_add]
        have := h1.at_ a rfl (p + i) x hx
        rw [show p * 2 + i * 2 = (p + i) * 2 by omega, show p * 2 + (i * 2 + 1) = (p + i) * 2 + 1 by omega]
        exact this
      · simp at e
        subst e
        rw [cu_add_block]
        exact h2 a rfl (by omega)
      · simp at e
        subst e
        rw [List.getElem?_drop] at hx
        rw [cu_add_add, show p * 2 + (i * 2 + 1) = (p + i) * 2 + 1 by omega] at hB
        exact h3 a (p + i) x rfl hx B c2 hB
/-- Bytes in the blocks F. -/
def BytesF (w : World) (F : Nat → Prop) (A : Option Addr) (n : Nat) (l : Nm) : Prop := BytesIn w A n l ∧ ∀ ad, A = some ad → 0 < n → F ad.block
theorem BytesF.keep {w w' : World} {F : Nat → Prop} {A : Option Addr} {n : Nat} {l : Nm} (h : BytesF w F A n l) (hk : ∀ i, F i → w'.heap[i]? = w.heap[i]?) (hs : w.heap.size ≤ w'.heap.size) : BytesF w' F A n l :=
  ⟨⟨h.1.1, h.1.2.1.keep fun ad e h0 => hk _ (h.2 ad e h0), fun ad e h0 => Nat.lt_of_lt_of_le (h.1.2.2 ad e h0) hs⟩, h.2⟩
theorem BytesF.sub {w : World} {F : Nat → Prop} {A : Option Addr} {n c : Nat} {l : Nm} (h : BytesF w F A n l) (hc : n ≤ c) (p : Nat) (hp : p ≤ n) : BytesF w F (cutAddr A p c) (n - p) (l.drop p) := by
  have hl : l.length = n := by have := h.1.2.1.len; simpa using this
  have h1 := h.1.sub hc p n hp (Nat.le_refl _)
  rw [List.take_of_length_le (by omega)] at h1
  refine ⟨h1, fun ad e h0 => ?_⟩
  unfold cutAddr at e
  split at e
  · exact h.2 ad e (by omega)
  · cases A with
    | none => cases e
    | some a =>
      simp at e
      subst e
      rw [cu_add_block]
      exact h.2 a rfl (by omega)
/-- What a cursor's struct refers to. -/
structure CuIn (w : World) (F : Nat → Prop) (b : Nat) (A : Option Addr) (n c : Nat) (L : Option Addr) (m k : Nat) (po : List Pst) (lf : Nm) : Prop where
  po : PostsF w (fun i => F i ∧ i ≠ b) A n po
  cap : n ≤ c
  lf : BytesF w (fun i => F i ∧ i ≠ b) L m lf
  room : m ≤ k ∧ m ≤ 1099511627776
  own : F b
  low : ∀ i, F i → i < w.heap.size
theorem CuIn.kept {w w' : World} {F : Nat → Prop} {b : Nat} {A : Option Addr} {n c : Nat} {L : Option Addr} {m k : Nat} {po : List Pst} {lf : Nm} (h : CuIn w F b A n c L m k po lf) (hk : Kept (fun i => i = b) w w') : CuIn w' F b A n c L m k po lf where
  po := h.po.keep fun i hi => hk.block i (h.low i hi.1) hi.2
  cap := h.cap
  lf := h.lf.keep (fun i hi => hk.block i (h.low i hi.1) hi.2) hk.size
  room := h.room
  own := h.own
  low := fun i hi => Nat.lt_of_lt_of_le (h.low i hi) hk.size
theorem CuIn.all {w w' : World} {F : Nat → Prop} {b : Nat} {A : Option Addr} {n c : Nat} {L : Option Addr} {m k : Nat} {po : List Pst} {lf : Nm} (h : CuIn w F b A n c L m k po lf) (hk : ∀ i, F i → w'.heap[i]? = w.heap[i]?) (hs : w.heap.size ≤ w'.heap.size) : CuIn w' F b A n c L m k po lf where
  po := h.po.keep fun i hi => hk i hi.1
  cap := h.cap
  lf := h.lf.keep (fun i hi => hk i hi.1) hs
  room := h.room
  own := h.own
  low := fun i hi => Nat.lt_of_lt_of_le (h.low i hi) hs
theorem CuIn.left {w : World} {F : Nat → Prop} {b : Nat} {A : Option Addr} {n c : Nat} {L : Option Addr} {m k : Nat} {po : List Pst} {lf : Nm} (h : CuIn w F b A n c L m k po lf) {p : Nat} (hp : p ≤ m) : CuIn w F b A n c (cutAddr L p k) (m - p) (k - p) po (lf.drop p) :=
  ⟨h.po, h.cap, h.lf.sub h.room.1 p hp, by have := h.room; omega, h.own, h.low⟩
/-- A cursor lies at b, in the blocks F: the postings of its block, what is left, and its numbers. -/
def CuRaw (w : World) (F : Nat → Prop) (b : Nat) (po : List Pst) (lf : Nm) (la P N r : Int) : Prop :=
  ∃ A n c L m k, Blk w b 89 #[.slice A n c, .slice L m k, .int .i64 la, .int .i64 P, .int .i64 N, .int .i64 r] ∧ CuIn w F b A n c L m k po lf
theorem CuRaw.all {w w' : World} {F : Nat → Prop} {b : Nat} {po : List Pst} {lf : Nm} {la P N r : Int} (h : CuRaw w F b po lf la P N r) (hk : ∀ i, F i → w'.heap[i]? = w.heap[i]?) (hs : w.heap.size ≤ w'.heap.size) : CuRaw w' F b po lf la P N r := by
  obtain ⟨A, n, c, L, m, k, h1, h2⟩ := h
  exact ⟨A, n, c, L, m, k, (hk b h2.own).trans h1, h2.all hk hs⟩
theorem CuRaw.lt {w : World} {F : Nat → Prop} {b : Nat} {po : List Pst} {lf : Nm} {la P N r : Int} (h : CuRaw w F b po lf la P N r) : b < w.heap.size := by
  obtain ⟨A, n, c, L, m, k, h1, h2⟩ := h
  exact h1.lt
theorem CuRaw.low {w : World} {F : Nat → Prop} {b : Nat} {po : List Pst} {lf : Nm} {la P N r : Int} (h : CuRaw w F b po lf la P N r) : F b ∧ ∀ i, F i → i < w.heap.size := by
  obtain ⟨A, n, c, L, m, k, h1, h2⟩ := h
  exact ⟨h2.own, h2.low⟩
theorem CuRaw.below {w w' : World} {F : Nat → Prop} {b : Nat} {po : List Pst} {lf : Nm} {la P N r : Int} (h : CuRaw w F b po lf la P N r) (hb : Below w.heap.size w w') : CuRaw w' F b po lf la P N r :=
  h.all (fun i hi => hb.block i (h.low.2 i hi)) hb.size
theorem cu_set {b : Nat} {a w : World} (h : Kept (fun i => i = b) a w) (i : Nat) (u : Value) : Kept (fun i => i = b) a (w.setCell ⟨b, i, none⟩ u) := h.setCell (p := ⟨b, i, none⟩) (.inl rfl) u
theorem cu_then {b : Nat} {x y z : World} (h : Kept (fun i => i = b) x y) (k : Kept (fun i => i = b) y z) : Kept (fun i => i = b) x z := h.trans k (fun _ _ h => h)

set_option maxHeartbeats 4000000 in
set_option maxRecDepth 100000 in
theorem cNum_any {w : World} {F : Nat → Prop} {b : Nat} {po : List Pst} {lf rest : Nm} {la P N r : Int} (h : CuRaw w F b po lf la P N r) {v : Nat} (hv : v < 2 ^ 63) (hl : lf = putL v ++ rest) :
    Calls Try.prog 51 #[at0 b] w fun e w' => e = .returned (.int .i64 v) ∧ CuRaw w' F b po rest la P N r ∧ Kept (fun i => i = b) w w' := by
  obtain ⟨A, n, c, L, m, k, h1, h2⟩ := h
  have hln : lf.length = m := by have := h2.lf.1.2.1.len; simpa using this
  have hg : getL lf = (v, (putL v).length, 0) := by rw [hl]; exact getL_put (by omega) _
  have HG := Lib.hid (lGet_any w L m k lf h2.lf.1)
  unfold gotV at HG
  rw [hg] at HG
  simp only at HG
  obtain ⟨j, hj⟩ : ∃ j, j = (putL v).length := ⟨_, rfl⟩
  rw [← hj] at HG
  have hjm : j ≤ m := by rw [hj, ← hln, hl, List.length_append]; omega
  have hdr : lf.drop j = rest := by rw [hj, hl, List.drop_left]
  have hk := h2.room.1
  have HB := Lib.hid h1
  have H2 := Lib.hid (h2.left hjm)
  rw [hdr] at H2
  have c1 := h1.cell 1
  have z1 := h1.frozen 1
  simp at c1
  have hsl := fun w => slice_from w L m k j hjm
  have hw : IntKind.i64.wrap (v : Int) = (v : Int) := IntWalk.i64_in _ (by omega)
  clear h1 h2 hg hj hl hln hdr
  unfold at0
  go_enter Try.func51, Try.ntmps51
  go_wp2_with fail
  refine HG.out.mono ?_
  rintro e w1 ⟨rfl, rfl⟩
  go_wp2
  go_ret
  have hk : Kept (fun i => i = b) w1 (w1.setCell ⟨b, 1, none⟩ (.slice (cutAddr L j k) (m - j) (k - j))) := cu_set (Kept.refl _ w1) 1 _
  exact ⟨rfl, ⟨A, n, c, _, _, _, by simpa using HB.out.set_ 1 (.slice (cutAddr L j k) (m - j) (k - j)), H2.out.kept hk⟩, hk⟩
end Go.Proofs.Ytkligdaademakaa
namespace Go.Proofs.Ytkligdaademakaa
open Go.RowKit Go.Maps Go.WideMaps
set_option linter.unusedSimpArgs false

theorem CuRaw.after {w w' : World} {F : Nat → Prop} {b : Nat} {po : List Pst} {lf : Nm} {la P N r : Int} (h : CuRaw w F b po lf la P N r) (hb : Below w.heap.size w w') : CuRaw w' F b po lf la P N r ∧ Kept (fun i => i = b) w w' := ⟨h.below hb, Kept.below hb⟩
theorem partCells : (Try.prog.info? 118).map (·.size) = some 2 := by kernel_rfl

set_option maxHeartbeats 4000000 in
set_option maxRecDepth 100000 in
theorem cHead_any {w : World} {F : Nat → Prop} {b : Nat} {po : List Pst} {lf rest : Nm} {la P N r : Int} (h : CuRaw w F b po lf la P N r) {u v : Nat} (hla : -1 ≤ la) (hla2 : la ≤ 4294967296) (hu : u < 2 ^ 40) (hv : v < 2 ^ 40) (hl : lf = putL u ++ (putL v ++ rest)) {t : Int} (ht : la + 1 + (u : Int) = t) :
    Calls Try.prog 78 #[at0 b] w fun e w' => e = .returned (.agg #[.int .i64 t, .int .i64 v]) ∧ CuRaw w' F b po rest la P N r ∧ Kept (fun i => i = b) w w' := by
  have hbl := h.lt
  have hFl := h.low.2
  obtain ⟨W1, hW1⟩ : ∃ W1, W1 = w.alloc (.cells #[.int .i64 0, .int .i64 0] 118) := ⟨_, rfl⟩
  have hb1 : Below w.heap.size w W1 := by rw [hW1]; exact (Below.refl _ w).alloc (Nat.le_refl _) _
  have hT1 : Blk W1 w.heap.size 118 #[.int .i64 0, .int .i64 0] := by rw [hW1]; exact Blk.new _ _ _
  have h1 := h.below hb1
  have hs1 : W1.heap.size = w.heap.size + 1 := by rw [hW1]; simp
  have HB1 := Lib.hid hb1
  have HT1 := Lib.hid hT1
  have HNUM := Lib.hid (cNum_any (h1.below ((Below.refl _ W1).drew)) (v := u) (rest := putL v ++ rest) (by omega) hl)
  have c2 : W1.cell? ⟨b, 2, none⟩ = some (.int .i64 la) := by
    obtain ⟨A, n, c, L, m, k, q1, q2⟩ := h1
    have := q1.cell 2
    simpa using this
  have HW1 := Lib.hid hW1
  have hw1 : IntKind.i64.wrap (la + 1) = la + 1 := IntWalk.i64_in _ (by omega)
  have hw3 : IntKind.i64.wrap (la + 1 + (u : Int)) = la + 1 + (u : Int) := IntWalk.i64_in _ (by omega)
  have HT := Lib.hid ht
  clear h h1 hW1 hb1 hT1 hl ht
  unfold at0
  go_enter Try.func78, Try.ntmps78
  go_wp2_with fail
  rw [← HW1.out]
  refine wp_region_held_drew (S := fun w' => w'.cell? ⟨b, 2, none⟩ = some (.int .i64 la)) (by kernel_rfl) ?_ (fun hHeld => ?_)
  · exact c2
  refine wpAnyH_take (i := 0) (oi := ?oit0) (v := ?vt0) ?hit0 (by kernel_rfl) (by kernel_rfl) (by kernel_rfl) ?hQt0 (Or.inl ⟨?hwt0, ?hyt0⟩) (by assumption) ?restt0
  case hit0 => (first | (simp only [List.getElem?_toArray, List.getElem?_cons_zero, List.getElem?_cons_succ]; rfl) | rfl)
  case hQt0 => exact fun _ _ _ h => h
  case hwt0 => rfl
  case hyt0 => ((intro w hSw; go_simp); first | done | with_reducible rfl)
  try simp only [Act.put, List.setIfInBounds_toArray, List.set_cons_zero, List.set_cons_succ]
  refine wpAnyH_take (i := 1) (oi := ?oit1) (v := ?vt1) ?hit1 (by kernel_rfl) (by kernel_rfl) (by kernel_rfl) ?hQt1 (Or.inl ⟨?hwt1, ?hyt1⟩) (by assumption) ?restt1
  case hit1 => (first | (simp only [List.getElem?_toArray, List.getElem?_cons_zero, List.getElem?_cons_succ]; rfl) | rfl)
  case hQt1 => exact fun _ _ _ h => h
  case hwt1 => rfl
  case hyt1 => ((intro w hSw; go_simp); first | done | with_reducible rfl)
  try simp only [Act.put, List.setIfInBounds_toArray, List.set_cons_zero, List.set_cons_succ]
  refine wpAnyH_take (i := 2) (oi := ?oit2) (v := ?vt2) ?hit2 (by kernel_rfl) (by kernel_rfl) (by kernel_rfl) ?hQt2 (Or.inl ⟨?hwt2, ?hyt2⟩) (by assumption) ?restt2
  case hit2 => (first | (simp only [List.getElem?_toArray, List.getElem?_cons_zero, List.getElem?_cons_succ]; rfl) | rfl)
  case hQt2 => exact fun _ _ _ h => h
  case hwt2 => rfl
  case hyt2 => ((intro w hSw; go_simp); first | done | with_reducible rfl)
  try simp only [Act.put, List.setIfInBounds_toArray, List.set_cons_zero, List.set_cons_succ]
  refine wpAnyH_take (i := 3) (oi := ?oit3) (v := ?vt3) ?hit3 (by kernel_rfl) (by kernel_rfl) (by kernel_rfl) ?hQt3 (Or.inl ⟨?hwt3, ?hyt3⟩) (by assumption) ?restt3
  case hit3 => (first | (simp only [List.getElem?_toArray, List.getElem?_cons_zero, List.getElem?_cons_succ]; rfl) | rfl)
  case hQt3 => exact fun _ _ _ h => h
  case hwt3 => rfl
  case hyt3 => ((intro w hSw; go_simp); first | done | with_reducible rfl)
  try simp only [Act.put, List.setIfInBounds_toArray, List.set_cons_zero, List.set_cons_succ]
  refine wpAnyH_take (i := 4) (oi := ?oit4) (v := ?vt4) ?hit4 (by kernel_rfl) (by kernel_rfl) (by kernel_rfl) ?hQt4 (Or.inl ⟨?hwt4, ?hyt4⟩) (by assumption) ?restt4
  case hit4 => (first | (simp only [List.getElem?_toArray, List.getElem?_cons_zero, List.getElem?_cons_succ]; rfl) | rfl)
  case hQt4 => exact fun _ _ _ h => h
  case hwt4 => rfl
  case hyt4 => ((intro w hSw; go_simp); first | done | with_reducible rfl)
  try simp only [Act.put, List.setIfInBounds_toArray, List.set_cons_zero, List.set_cons_succ]
  refine wpAnyH_take (i := 5) (oi := ?oit5) (v := ?vt5) ?hit5 (by kernel_rfl) (by kernel_rfl) (by kernel_rfl) ?hQt5 (Or.inl ⟨?hwt5, ?hyt5⟩) (by assumption) ?restt5
  case hit5 => (first | (simp only [List.getElem?_toArray, List.getElem?_cons_zero, List.getElem?_cons_succ]; rfl) | rfl)
  case hQt5 => exact fun _ _ _ h => h
  case hwt5 => rfl
  case hyt5 => ((intro w hSw; go_simp); first | done | with_reducible rfl)
  try simp only [Act.put, List.setIfInBounds_toArray, List.set_cons_zero, List.set_cons_succ]
  refine wpAnyH_ready (rs := [6]) (by kernel_rfl) (by simp) ?_
  refine AllReadyH.cons (o := ?oc1) ?hcc1 ?stc1 AllReadyH.nil
  case hcc1 => (simp only [List.getElem?_toArray, List.getElem?_cons_zero, List.getElem?_cons_succ]; rfl)
  intro K hK
  go_simp
  refine HNUM.out.mono ?_
  rintro e w2 ⟨rfl, hr2, hk2⟩
  have hS2 : w2.cell? ⟨b, 2, none⟩ = some (.int .i64 la) := by
    obtain ⟨A, n, c, L, m, k, q1, q2⟩ := hr2
    have := q1.cell 2
    simpa using this
  have HR2 := Lib.hid hr2
  have HK2 : Hid (Kept (fun i => i = b) W1 w2) := Lib.hid ⟨hk2.os, hk2.tape, hk2.output, hk2.size, hk2.block⟩
  have hs2 : W1.heap.size ≤ w2.heap.size := hk2.size
  clear hr2 hk2
  go_wp2_with fail
  refine hK.out _ _ hS2 (fun _ => ?_)
  clear hK K
  refine wpAnyH_take (i := 7) (oi := ?oiu7) (v := ?vu7) ?hiu7 (by kernel_rfl) (by kernel_rfl) (by kernel_rfl) ?hQu7 (Or.inl ⟨?hwu7, ?hyu7⟩) (by assumption) ?restu7
  case hiu7 => (first | (simp only [List.getElem?_toArray, List.getElem?_cons_zero, List.getElem?_cons_succ]; rfl) | rfl)
  case hQu7 => exact fun _ _ _ h => h
  case hwu7 => rfl
  case hyu7 => ((intro w hSw; go_simp); first | done | with_reducible rfl)
  try simp only [Act.put, List.setIfInBounds_toArray, List.set_cons_zero, List.set_cons_succ]
  refine wpAnyH_take (i := 8) (oi := ?oiu8) (v := ?vu8) ?hiu8 (by kernel_rfl) (by kernel_rfl) (by kernel_rfl) ?hQu8 (Or.inl ⟨?hwu8, ?hyu8⟩) (by assumption) ?restu8
  case hiu8 => (first | (simp only [List.getElem?_toArray, List.getElem?_cons_zero, List.getElem?_cons_succ]; rfl) | rfl)
  case hQu8 => exact fun _ _ _ h => h
  case hwu8 => rfl
  case hyu8 => ((intro w hSw; go_simp); first | done | with_reducible rfl)
  try simp only [Act.put, List.setIfInBounds_toArray, List.set_cons_zero, List.set_cons_succ]
  refine wpAnyH_done (by kernel_rfl) ?_ _
  have HT2 := Lib.hid (HT1.out.kept HK2.out (by omega))
  rw [HT.out]
  clear hw1 hw3
  have HNUM2 := Lib.hid (cNum_any HR2.out (v := v) (rest := rest) (by omega) rfl)
  go_wp2_with fail
  refine HNUM2.out.mono ?_
  rintro e w3 ⟨rfl, hr3, hk3⟩
  have HR3 := Lib.hid hr3
  have HK3 := Lib.hid (cu_then (cu_then (Kept.below HB1.out) HK2.out) hk3)
  have hs3 := hk3.size
  have HT3 := Lib.hid (HT2.out.kept hk3 (by omega))
  clear hr3 hk3
  have z0 := HT3.out.frozen 0
  have z1 := HT3.out.frozen 1
  have y0 := HT3.out.cell 0
  have y1 := HT3.out.cell 1
  simp at y0 y1
  have HT4 := Lib.hid ((HT3.out.set_ 0 (.int .i64 t)).set_ 1 (.int .i64 v))
  obtain ⟨W4, hW4⟩ : ∃ W4, W4 = (w3.setCell ⟨w.heap.size, 0, none⟩ (.int .i64 t)).setCell ⟨w.heap.size, 1, none⟩ (.int .i64 v) := ⟨_, rfl⟩
  rw [← hW4] at HT4
  have hk4 : Kept (fun i => i = w.heap.size) w3 W4 := by rw [hW4]; exact cu_set (cu_set (Kept.refl _ w3) 0 _) 1 _
  have HK4 := Lib.hid hk4
  have HR4 : Hid (CuRaw W4 F b po rest la P N r) := Lib.hid (HR3.out.all (fun i hi => ?hR) (by rw [hW4, size_setCell', size_setCell']; exact Nat.le_refl _))
  case hR =>
    have : i < w.heap.size := hFl i hi
    rw [hW4, heap_setCell_other _ _ _ (by simp only; omega), heap_setCell_other _ _ _ (by simp only; omega)]
  have HW4 := Lib.hid hW4
  clear hk4 hW4
  go_wp2
  rw [← HW4.out]
  refine bodyPost_ret (results_cell_row rfl _ _ w.heap.size 118 #[.int .i64 t, .int .i64 v] (0, 0) _ rfl ?_ Try.underlying118 rfl partCells) rfl ?_
  · have := HT4.out
    unfold Blk at this
    simpa using this
  · exact ⟨rfl, HR4.out, HK3.out.trans HK4.out (fun i hi e => by omega)⟩

set_option maxHeartbeats 4000000 in
set_option maxRecDepth 100000 in
theorem cPass_any {w : World} {F : Nat → Prop} {b : Nat} {po : List Pst} {lf : Nm} {la P N r : Int} (h : CuRaw w F b po lf la P N r) {t : Int} {v : Nat} {mm : Int} (hv : v ≤ lf.length) (h1 : 0 ≤ P) (h2 : P ≤ 10000) (h3 : 0 ≤ mm) (h4 : mm ≤ 16) :
    Calls Try.prog 79 #[at0 b, .agg #[.int .i64 t, .int .i64 v], .int .i64 mm] w fun e w' => e = .returned (.tuple #[]) ∧ CuRaw w' F b po (lf.drop v) t (P + mm) N r ∧ Kept (fun i => i = b) w w' := by
  have hbl := h.lt
  have hFl := h.low.2
  obtain ⟨W1, hW1⟩ : ∃ W1, W1 = w.alloc (.cells #[.int .i64 t, .int .i64 v] 118) := ⟨_, rfl⟩
  have hb1 : Below w.heap.size w W1 := by rw [hW1]; exact (Below.refl _ w).alloc (Nat.le_refl _) _
  have hT1 : Blk W1 w.heap.size 118 #[.int .i64 t, .int .i64 v] := by rw [hW1]; exact Blk.new _ _ _
  obtain ⟨A, n, c, L, m, k, q1, q2⟩ := h.below hb1
  have hln : lf.length = m := by have := q2.lf.1.2.1.len; simpa using this
  rw [hln] at hv
  have hk := q2.room.1
  have HB1 := Lib.hid hb1
  have HQ2 := Lib.hid (q2.left hv)
  have HQ1 := Lib.hid q1
  have c1 := q1.cell 1
  have c2 := q1.cell 2
  have c3 := q1.cell 3
  have z1 := q1.frozen 1
  have z2 := q1.frozen 2
  have z3 := q1.frozen 3
  have t0 := hT1.cell 0
  have t1 := hT1.cell 1
  simp only [List.getElem?_toArray, List.getElem?_cons_zero, List.getElem?_cons_succ] at c1 c2 c3 t0 t1
  have hsl := fun w => slice_from w L m k v hv
  have hw : IntKind.i64.wrap (P + mm) = P + mm := IntWalk.i64_in _ (by omega)
  have HW1 := Lib.hid hW1
  clear h q1 q2 hb1 hT1 hW1 hFl
  unfold at0
  go_enter Try.func79, Try.ntmps79
  go_wp2_with fail
  rw [← HW1.out]
  go_region
  obtain ⟨W2, hW2⟩ : ∃ W2, W2 = (W1.setCell ⟨b, 1, none⟩ (.slice (cutAddr L v k) (m - v) (k - v))).drew := ⟨_, rfl⟩
  have HB2 : Hid (Blk W2 b 89 #[.slice A n c, .slice (cutAddr L v k) (m - v) (k - v), .int .i64 la, .int .i64 P, .int .i64 N, .int .i64 r]) := Lib.hid (by rw [hW2]; simpa using (HQ1.out.set_ 1 (.slice (cutAddr L v k) (m - v) (k - v))).drew)
  have HK2 : Hid (Kept (fun i => i = b) W1 W2) := Lib.hid (by rw [hW2]; exact (cu_set (Kept.refl _ W1) 1 _).drew)
  have HI2 := Lib.hid (HQ2.out.kept HK2.out)
  have t0' : W2.cell? ⟨w.heap.size, 0, none⟩ = some (.int .i64 t) := by rw [hW2]; exact (World.cell?_of_block (heap_setCell_other W1 _ _ (by simp only; omega))).trans t0
  have c2' := HB2.out.cell 2
  have c3' := HB2.out.cell 3
  have z2' := HB2.out.frozen 2
  have z3' := HB2.out.frozen 3
  simp only [List.getElem?_toArray, List.getElem?_cons_zero, List.getElem?_cons_succ] at c2' c3'
  rw [← hW2]
  clear hW2 t0 t1 c1 c2 c3 z1 z2 z3
  go_wp2
  go_end0
  obtain ⟨W3, hW3⟩ : ∃ W3, W3 = (W2.setCell ⟨b, 2, none⟩ (.int .i64 t)).setCell ⟨b, 3, none⟩ (.int .i64 (P + mm)) := ⟨_, rfl⟩
  rw [← hW3]
  have hk3 : Kept (fun i => i = b) W2 W3 := by rw [hW3]; exact cu_set (cu_set (Kept.refl _ W2) 2 _) 3 _
  have hb3 := (HB2.out.set_ 2 (.int .i64 t)).set_ 3 (.int .i64 (P + mm))
  rw [← hW3] at hb3
  exact ⟨rfl, ⟨A, n, c, _, _, _, by simpa using hb3, HI2.out.kept hk3⟩, cu_then (cu_then (Kept.below HB1.out) HK2.out) hk3⟩

set_option maxHeartbeats 4000000 in
set_option maxRecDepth 100000 in
theorem cBegins_any {w : World} {F : Nat → Prop} {b : Nat} {po : List Pst} {lf : Nm} {la N r : Int} {P : Nat} (h : CuRaw w F b po lf la P N r) :
    Calls Try.prog 77 #[at0 b] w fun e w' => ∃ A n c l, e = .returned (.slice A n c) ∧ IntsIn w' A n l ∧ Below w.heap.size w w' ∧ l = (if P % 16 = 0 then [16, 4] else [4]) ∧ ∀ ad, A = some ad → w.heap.size ≤ ad.block := by
  obtain ⟨A, n, c, L, m, k, q1, q2⟩ := h
  have c3 := q1.cell 3
  simp only [List.getElem?_toArray, List.getElem?_cons_zero, List.getElem?_cons_succ] at c3
  clear q1 q2
  have hb := (Below.refl w.heap.size w).alloc (Nat.le_refl _)
  have hr : (P : Int).tmod 16 = ((P % 16 : Nat) : Int) := (Int.ofNat_tmod P 16).symm
  unfold at0
  by_cases h16 : P % 16 = 0
  · rw [if_pos h16]
    have hr0 : (P : Int).tmod 16 = 0 := by rw [hr, h16]; rfl
    go_enter Try.func77, Try.ntmps77
    go_wp2
    go_ret
    refine ⟨_, _, _, [16, 4], rfl, ?_, hb _, rfl, fun ad e => by cases e; exact Nat.le_refl _⟩
    refine ⟨by unfold maxLen; omega, ⟨rfl, fun ad e j x hx => ?_, fun e => by cases e⟩, by simp, fun ad e _ => by cases e; simp⟩
    cases e
    match j with
    | 0 => simp [i64V] at hx; subst hx; simp [Addr.add]
    | 1 => simp [i64V] at hx; subst hx; simp [Addr.add]
    | j + 2 => simp at hx
  · rw [if_neg h16]
    have hr1 : (((P % 16 : Nat) : Int) == 0) = false := beq_eq_false_iff_ne.2 (by omega)
    go_enter Try.func77, Try.ntmps77
    go_wp2
    go_ret
    exact ⟨_, _, _, [4], rfl, ⟨by unfold maxLen; omega, one_int_src w 3 4, by simp, fun ad e _ => by cases e; simp⟩, hb _, rfl, fun ad e => by cases e; exact Nat.le_refl _⟩
end Go.Proofs.Ytkligdaademakaa
namespace Go.Proofs.Ytkligdaademakaa
open Go.RowKit Go.Maps Go.WideMaps
set_option linter.unusedSimpArgs false

set_option maxHeartbeats 8000000 in
set_option maxRecDepth 100000 in
theorem cSpots_any (w : World) (AP AA : Option Addr) (n cP cA : Nat) (P A : List Int) (hP : IntsIn w AP n P) (hA : IntsIn w AA n A) (hn4 : n ≤ 4096) :
    Calls Try.prog 83 #[.slice AP n cP, .slice AA n cA] w fun e w' => ∃ v, e = .returned v ∧ w'.ownsRow w.heap.size 97 2 v n ((P.zip A).flatMap twoCells) ∧ Below w.heap.size w w' := by
  obtain ⟨i1, hi1, hy0, hy1, hy2⟩ := info_parts spotInfo
  have HPI := Lib.hid hP
  have HAI := Lib.hid hA
  have hzl : (P.zip A).length = n := by rw [List.length_zip, hP.len, hA.len]; omega
  have HZL := Lib.hid hzl
  clear hP hA hzl
  go_enter Try.func83, Try.ntmps83
  go_wp2_with fail
  go_loopw [5, 9] (fun v i wr => ∃ k : Nat, k ≤ n ∧ i = .int .i64 k ∧ wr.ownsRow w.heap.size 97 2 v k (((P.zip A).take k).flatMap twoCells) ∧ Below w.heap.size w wr) (fun _ i _ => n - (intOf i).toNat)
  case atStart => exact ⟨0, by omega, rfl, ⟨rfl, .inl ⟨rfl, rfl⟩⟩, Below.refl _ _⟩
  case round =>
    obtain ⟨k, hk, rfl, hO, hB⟩ := hrel
    have HO := Lib.hid hO
    have HB := Lib.hid hB
    have hbz := hB.size
    clear hO hB
    obtain ⟨Av, cv, hv⟩ := own_slice HO.out
    subst hv
    rcases Nat.lt_or_ge k n with hlt2 | hge
    · have hlt' : (k : Int) < (n : Int) := by omega
      have p0 : (0 : Int) ≤ (k : Int) := by omega
      have hw5 : IntKind.i64.wrap ((k : Int) + 1) = (k : Int) + 1 := IntWalk.i64_in _ (by omega)
      obtain ⟨pP, x1, rfl, hx1, a0, -, -⟩ := (HPI.out.below HB.out).at k hlt2
      obtain ⟨pA, x2, rfl, hx2, b0, -, -⟩ := (HAI.out.below HB.out).at k hlt2
      obtain ⟨_, y1, e1, hy, g0, -, -⟩ := HPI.out.at k hlt2
      obtain ⟨_, y2, e2, hy', g1, -, -⟩ := HAI.out.at k hlt2
      obtain rfl := Option.some.inj e1
      obtain rfl := Option.some.inj e2
      obtain rfl := Option.some.inj (hx1.symm.trans hy)
      obtain rfl := Option.some.inj (hx2.symm.trans hy')
      have HPI4 := Lib.hid g0
      have HAI4 := Lib.hid g1
      clear e1 e2 hy hy' g0 g1
      have HTK : Hid ((P.zip A).take (k + 1) = (P.zip A).take k ++ [(x1, x2)]) := Lib.hid (by
        rw [List.take_add_one, (List.getElem?_zip_eq_some (z := (x1, x2))).2 ⟨hx1, hx2⟩]
        rfl)
      clear hx1 hx2
      go_wp2_with fail
      refine wp_region_held_drew (S := fun w' => w'.cell? (pP.add k) = some (.int .i64 x1) ∧ w'.cell? (pA.add k) = some (.int .i64 x2)) (by kernel_rfl) ?_ (fun hHeld => ?_)
      · exact ⟨a0, b0⟩
      refine wpAnyH_take (i := 0) (oi := ?oit0) (v := ?vt0) ?hit0 (by kernel_rfl) (by kernel_rfl) (by kernel_rfl) ?hQt0 (Or.inl ⟨?hwt0, ?hyt0⟩) (by assumption) ?restt0
      case hit0 => (first | (simp only [List.getElem?_toArray, List.getElem?_cons_zero, List.getElem?_cons_succ]; rfl) | rfl)
      case hQt0 => exact fun _ _ _ h => h
      case hwt0 => rfl
      case hyt0 => ((intro w hSw; obtain ⟨hS1, hS2⟩ := hSw; go_simp); first | done | with_reducible rfl)
      try simp only [Act.put, List.setIfInBounds_toArray, List.set_cons_zero, List.set_cons_succ]
      refine wpAnyH_take (i := 1) (oi := ?oit1) (v := ?vt1) ?hit1 (by kernel_rfl) (by kernel_rfl) (by kernel_rfl) ?hQt1 (Or.inl ⟨?hwt1, ?hyt1⟩) (by assumption) ?restt1
      case hit1 => (first | (simp only [List.getElem?_toArray, List.getElem?_cons_zero, List.getElem?_cons_succ]; rfl) | rfl)
      case hQt1 => exact fun _ _ _ h => h
      case hwt1 => rfl
      case hyt1 => ((intro w hSw; obtain ⟨hS1, hS2⟩ := hSw; go_simp); first | done | with_reducible rfl)
      try simp only [Act.put, List.setIfInBounds_toArray, List.set_cons_zero, List.set_cons_succ]
      refine wpAnyH_take (i := 2) (oi := ?oit2) (v := ?vt2) ?hit2 (by kernel_rfl) (by kernel_rfl) (by kernel_rfl) ?hQt2 (Or.inl ⟨?hwt2, ?hyt2⟩) (by assumption) ?restt2
      case hit2 => (first | (simp only [List.getElem?_toArray, List.getElem?_cons_zero, List.getElem?_cons_succ]; rfl) | rfl)
      case hQt2 => exact fun _ _ _ h => h
      case hwt2 => rfl
      case hyt2 => ((intro w hSw; obtain ⟨hS1, hS2⟩ := hSw; go_simp); first | done | with_reducible rfl)
      try simp only [Act.put, List.setIfInBounds_toArray, List.set_cons_zero, List.set_cons_succ]
      refine wpAnyH_take (i := 3) (oi := ?oit3) (v := ?vt3) ?hit3 (by kernel_rfl) (by kernel_rfl) (by kernel_rfl) ?hQt3 (Or.inl ⟨?hwt3, ?hyt3⟩) (by assumption) ?restt3
      case hit3 => (first | (simp only [List.getElem?_toArray, List.getElem?_cons_zero, List.getElem?_cons_succ]; rfl) | rfl)
      case hQt3 => exact fun _ _ _ h => h
      case hwt3 => rfl
      case hyt3 => ((intro w hSw; obtain ⟨hS1, hS2⟩ := hSw; go_simp); first | done | with_reducible rfl)
      try simp only [Act.put, List.setIfInBounds_toArray, List.set_cons_zero, List.set_cons_succ]
      refine wpAnyH_take (i := 4) (oi := ?oit4) (v := ?vt4) ?hit4 (by kernel_rfl) (by kernel_rfl) (by kernel_rfl) ?hQt4 (Or.inl ⟨?hwt4, ?hyt4⟩) (by assumption) ?restt4
      case hit4 => (first | (simp only [List.getElem?_toArray, List.getElem?_cons_zero, List.getElem?_cons_succ]; rfl) | rfl)
      case hQt4 => exact fun _ _ _ h => h
      case hwt4 => rfl
      case hyt4 => ((intro w hSw; obtain ⟨hS1, hS2⟩ := hSw; go_simp); first | done | with_reducible rfl)
      try simp only [Act.put, List.setIfInBounds_toArray, List.set_cons_zero, List.set_cons_succ]
      refine wpAnyH_take (i := 5) (oi := ?oit5) (v := ?vt5) ?hit5 (by kernel_rfl) (by kernel_rfl) (by kernel_rfl) ?hQt5 (Or.inl ⟨?hwt5, ?hyt5⟩) (by assumption) ?restt5
      case hit5 => (first | (simp only [List.getElem?_toArray, List.getElem?_cons_zero, List.getElem?_cons_succ]; rfl) | rfl)
      case hQt5 => exact fun _ _ _ h => h
      case hwt5 => rfl
      case hyt5 => ((intro w hSw; obtain ⟨hS1, hS2⟩ := hSw; go_simp); first | done | with_reducible rfl)
      try simp only [Act.put, List.setIfInBounds_toArray, List.set_cons_zero, List.set_cons_succ]
      refine wpAnyH_take (i := 6) (oi := ?oit6) (v := ?vt6) ?hit6 (by kernel_rfl) (by kernel_rfl) (by kernel_rfl) ?hQt6 (Or.inl ⟨?hwt6, ?hyt6⟩) (by assumption) ?restt6
      case hit6 => (first | (simp only [List.getElem?_toArray, List.getElem?_cons_zero, List.getElem?_cons_succ]; rfl) | rfl)
      case hQt6 => exact fun _ _ _ h => h
      case hwt6 => rfl
      case hyt6 => ((intro w hSw; obtain ⟨hS1, hS2⟩ := hSw; go_simp); first | done | with_reducible rfl)
      try simp only [Act.put, List.setIfInBounds_toArray, List.set_cons_zero, List.set_cons_succ]
      refine wpAnyH_take (i := 7) (oi := ?oit7) (v := ?vt7) ?hit7 (by kernel_rfl) (by kernel_rfl) (by kernel_rfl) ?hQt7 (Or.inl ⟨?hwt7, ?hyt7⟩) (by assumption) ?restt7
      case hit7 => (first | (simp only [List.getElem?_toArray, List.getElem?_cons_zero, List.getElem?_cons_succ]; rfl) | rfl)
      case hQt7 => exact fun _ _ _ h => h
      case hwt7 => rfl
      case hyt7 => ((intro w hSw; obtain ⟨hS1, hS2⟩ := hSw; go_simp); first | done | with_reducible rfl)
      try simp only [Act.put, List.setIfInBounds_toArray, List.set_cons_zero, List.set_cons_succ]
      refine wpAnyH_take (i := 8) (oi := ?oit8) (v := ?vt8) ?hit8 (by kernel_rfl) (by kernel_rfl) (by kernel_rfl) ?hQt8 (Or.inl ⟨?hwt8, ?hyt8⟩) (by assumption) ?restt8
      case hit8 => (first | (simp only [List.getElem?_toArray, List.getElem?_cons_zero, List.getElem?_cons_succ]; rfl) | rfl)
      case hQt8 => exact fun _ _ _ h => h
      case hwt8 => rfl
      case hyt8 => ((intro w hSw; obtain ⟨hS1, hS2⟩ := hSw; go_simp); first | done | with_reducible rfl)
      try simp only [Act.put, List.setIfInBounds_toArray, List.set_cons_zero, List.set_cons_succ]
      refine wpAnyH_take (i := 9) (oi := ?oit9) (v := ?vt9) ?hit9 (by kernel_rfl) (by kernel_rfl) (by kernel_rfl) ?hQt9 (Or.inl ⟨?hwt9, ?hyt9⟩) (by assumption) ?restt9
      case hit9 => (first | (simp only [List.getElem?_toArray, List.getElem?_cons_zero, List.getElem?_cons_succ]; rfl) | rfl)
      case hQt9 => exact fun _ _ _ h => h
      case hwt9 => rfl
      case hyt9 => ((intro w hSw; obtain ⟨hS1, hS2⟩ := hSw; go_simp); first | done | with_reducible rfl)
      try simp only [Act.put, List.setIfInBounds_toArray, List.set_cons_zero, List.set_cons_succ]
      obtain ⟨wd, hwd⟩ : ∃ z, z = wr.drew := ⟨_, rfl⟩
      have hbd : Below wr.heap.size wr wd := by rw [hwd]; exact (Below.refl _ wr).drew
      have HOD := Lib.hid (ownsRow_block HO.out (w' := wd) fun g hg => hbd.block g (HO.out.lt g hg).2)
      have hzd : wr.heap.size ≤ wd.heap.size := by rw [hwd]; exact Nat.le_refl _
      rw [← hwd]
      have hba : Below wd.heap.size wd (wd.alloc (.cells #[.int .i64 x1, .int .i64 x2] 97)) := (Below.refl _ wd).alloc (Nat.le_refl _) _
      have hSd := And.intro (below_cells hbd a0) (below_cells hbd b0)
      have hSa := And.intro (below_cells hba hSd.1) (below_cells hba hSd.2)
      have HBA := Lib.hid (below_then (below_then HB.out hbd hbz) hba (by omega))
      clear hwd
      refine wpAnyH_ready (rs := [10]) (by kernel_rfl) (by simp) ?_
      refine AllReadyH.cons (o := ?oc1) ?hcc1 ?stc1 AllReadyH.nil
      case hcc1 => (simp only [List.getElem?_toArray, List.getElem?_cons_zero, List.getElem?_cons_succ]; rfl)
      intro K hK
      go_simp
      refine hK.out _ _ hSa (fun _ => ?_)
      clear hK K
      try simp only [Act.put, List.setIfInBounds_toArray, List.set_cons_zero, List.set_cons_succ]
      refine wpAnyH_ready (rs := [11]) (by kernel_rfl) (by simp) ?_
      refine AllReadyH.cons (o := ?oc2) ?hcc2 ?stc2 AllReadyH.nil
      case hcc2 => (simp only [List.getElem?_toArray, List.getElem?_cons_zero, List.getElem?_cons_succ]; rfl)
      intro K hK
      refine step_append_recK _ rfl (.tmp 12) (.tmp 22) 50 rfl w.heap.size 97 i1 _ 2 16 Try.underlying50 hi1 hy0 hy1 hy2 rfl (by decide) _ k _ rfl (World.ownsRow.alloc HOD.out _) ⟨wd.heap.size, 0, none⟩ 1 1 (twoCells (x1, x2)) rfl rfl (two_new wd 97 (x1, x2)) (two_one _) (by unfold maxLen; omega) (by omega) (by simp; omega) ?_
      intro v5 w5 hown hgrow hloc
      have HO5 := Lib.hid hown
      have HB5 := Lib.hid (HBA.out.grown hgrow (by simp; omega) (fun g hg => (HO.out.lt g hg).1))
      have hS5 : w5.cell? (pP.add k) = some (.int .i64 x1) ∧ w5.cell? (pA.add k) = some (.int .i64 x2) := ⟨below_cells HB5.out HPI4.out, below_cells HB5.out HAI4.out⟩
      clear hown hgrow hloc
      refine hK.out _ _ hS5 (fun _ => ?_)
      clear hK K
      try simp only [Act.put, List.setIfInBounds_toArray, List.set_cons_zero, List.set_cons_succ]
      refine wpAnyH_take (i := 12) (oi := ?oiu12) (v := ?vu12) ?hiu12 (by kernel_rfl) (by kernel_rfl) (by kernel_rfl) ?hQu12 (Or.inl ⟨?hwu12, ?hyu12⟩) (by assumption) ?restu12
      case hiu12 => (first | (simp only [List.getElem?_toArray, List.getElem?_cons_zero, List.getElem?_cons_succ]; rfl) | rfl)
      case hQu12 => exact fun _ _ _ h => h
      case hwu12 => rfl
      case hyu12 => ((intro w hSw; obtain ⟨hS1, hS2⟩ := hSw; go_simp); first | done | with_reducible rfl)
      try simp only [Act.put, List.setIfInBounds_toArray, List.set_cons_zero, List.set_cons_succ]
      refine wpAnyH_done (by kernel_rfl) ?_ _
      go_wp2
      go_roundw
      case rel =>
        refine ⟨k + 1, by omega, by go_num, ?_, HB5.out⟩
        rw [HTK.out, List.flatMap_append]
        simpa using HO5.out
      case measure => simp [intOf]; omega
    · obtain rfl : k = n := by omega
      have hlz : ¬ ((k : Int) < (k : Int)) := by omega
      have hall : (P.zip A).take k = P.zip A := List.take_of_length_le (by rw [HZL.out]; exact Nat.le_refl _)
      rw [hall] at HO
      have HO' := Lib.hid HO.out
      clear hall HO
      go_wp2
      go_ret
      exact ⟨_, rfl, HO'.out, HB.out⟩

/-- Bytes that are still to be read, in a variable of their own. -/
def LeftAt (w : World) (g : Nat) (x : Nm) : Prop := ∃ A n c, Blk w g 46 #[.slice A n c] ∧ BytesIn w A n x ∧ n ≤ c ∧ n ≤ 1099511627776 ∧ ∀ ad, A = some ad → 0 < n → ad.block < g
theorem LeftAt.kept {w w' : World} {g : Nat} {x : Nm} (h : LeftAt w g x) (hk : ∀ i, i ≤ g → w'.heap[i]? = w.heap[i]?) (hs : w.heap.size ≤ w'.heap.size) : LeftAt w' g x := by
  obtain ⟨A, n, c, h1, h2, h3, h4, h5⟩ := h
  exact ⟨A, n, c, (hk g (Nat.le_refl _)).trans h1, ⟨h2.1, h2.2.1.keep fun ad e h0 => hk _ (Nat.le_of_lt (h5 ad e h0)), fun ad e h0 => Nat.lt_of_lt_of_le (h2.2.2 ad e h0) hs⟩, h3, h4, h5⟩
theorem LeftAt.lt {w : World} {g : Nat} {x : Nm} (h : LeftAt w g x) : g < w.heap.size := by
  obtain ⟨A, n, c, h1, _⟩ := h
  exact h1.lt
theorem LeftAt.below {w w' : World} {g : Nat} {x : Nm} (h : LeftAt w g x) (hb : Below w.heap.size w w') : LeftAt w' g x := h.kept (fun i hi => hb.block i (by have := h.lt; omega)) hb.size
/-- The variable is cut. -/
theorem LeftAt.cut {w w2 w' : World} {g : Nat} {x : Nm} {A : Option Addr} {n c : Nat} (h2 : BytesIn w A n x) (h3 : n ≤ c) (h4 : n ≤ 1099511627776) (h5 : ∀ ad, A = some ad → 0 < n → ad.block < g) (hb : Below w.heap.size w w2) {j : Nat} (hj : j ≤ n)
    (hw : w' = w2.setCell ⟨g, 0, none⟩ (.slice (cutAddr A j c) (n - j) (c - j))) (hB : Blk w2 g 46 #[.slice A n c]) : LeftAt w' g (x.drop j) := by
  have hs := (h2.below hb).sub h3 j n hj (Nat.le_refl _)
  have hl : x.length = n := by have := h2.2.1.len; simpa using this
  rw [List.take_of_length_le (by omega)] at hs
  have hne : ∀ ad, cutAddr A j c = some ad → 0 < n - j → ad.block < g := fun ad e h0 => by
    unfold cutAddr at e
    split at e
    · exact h5 ad e (by omega)
    · cases A with
      | none => cases e
      | some a =>
        simp at e
        subst e
        rw [cu_add_block]
        exact h5 a rfl (by omega)
  subst hw
  exact ⟨_, _, _, by simpa using hB.set_ 0 (.slice (cutAddr A j c) (n - j) (c - j)), ⟨hs.1, hs.2.1.keep fun ad e h0 => Below.heap_setCell _ _ _ _ (Nat.ne_of_lt (hne ad e h0)), fun ad e h0 => by rw [size_setCell']; exact hs.2.2 ad e h0⟩, by omega, by omega, hne⟩

set_option maxHeartbeats 4000000 in
set_option maxRecDepth 100000 in
theorem cRise_any {w : World} {g : Nat} {x rest : Nm} (h : LeftAt w g x) {l : List Int} (hl : l.length ≤ 4096) (hr : rises (-1) l = true) (hf : ∀ y ∈ l, y ≤ 9223372036854775807) (hx : x = putR l ++ rest) :
    Calls Try.prog 82 #[.pointer (some ⟨g, 0, none⟩)] w fun e w' => ∃ v, e = .returned v ∧ w'.ownsRow w.heap.size 2 1 v l.length (l.map i64V) ∧ LeftAt w' g rest ∧ Kept (fun i => i = g) w w' := by
  obtain ⟨A, n, c, h1, h2, h3, h4, h5⟩ := h
  have hln : x.length = n := by have := h2.2.1.len; simpa using this
  have hgl := h1.lt
  have HG := Lib.hid (lGetRising_any w A n c x h2 h3 h4 4096 (by omega) (by omega))
  have hg : getR x 4096 = (l, (putR l).length, 0) := by rw [hx]; exact getR_put l (by omega) hr hf _ _ (by omega)
  unfold GetROut at HG
  rw [hg] at HG
  simp only at HG
  obtain ⟨j, hj⟩ : ∃ j, j = (putR l).length := ⟨_, rfl⟩
  rw [← hj] at HG
  have hjn : j ≤ n := by rw [hj, ← hln, hx, List.length_append]; omega
  have hdr : x.drop j = rest := by rw [hj, hx, List.drop_left]
  have HB := Lib.hid h1
  have H2 := Lib.hid h2
  have H5 := Lib.hid h5
  have HDR := Lib.hid hdr
  have c0 := h1.cell 0
  simp at c0
  have hsl := fun w => slice_from w A n c j hjn
  clear h1 h2 h5 hg hj hx hln hdr
  go_enter Try.func82, Try.ntmps82
  go_wp2_with fail
  refine HG.out.mono ?_
  rintro e w1 ⟨v1, rfl, hb1, ho1⟩
  have HB1 := Lib.hid hb1
  have HO1 := Lib.hid ho1
  have HBK1 := Lib.hid (HB.out.below hb1 hgl)
  have t0 := HBK1.out.cell 0
  have z0 := HBK1.out.frozen 0
  simp at t0
  clear hb1 ho1 c0
  go_wp2
  go_ret
  refine ⟨v1, rfl, ownsRow_block HO1.out fun i hi => Below.heap_setCell _ _ _ _ (by have := (HO1.out.lt i hi).1; simp only; omega), ?_, cu_set (Kept.below HB1.out) 0 _⟩
  have := LeftAt.cut (g := g) H2.out h3 h4 H5.out HB1.out hjn rfl HBK1.out
  rw [HDR.out] at this
  exact this

/-- What a reading has in memory: what is left, the result, the block that is made. -/
structure RdB (w wr : World) (x : Nm) (vv : Value) : Prop where
  left : LeftAt wr w.heap.size x
  res : Blk wr (w.heap.size + 1) 87 #[.slice none 0 0]
  blk : Blk wr (w.heap.size + 2) 87 #[vv]
  below : Below w.heap.size w wr
theorem RdB.more {w wr w' : World} {x : Nm} {vv : Value} (h : RdB w wr x vv) (hb : Below wr.heap.size wr w') : RdB w w' x vv :=
  ⟨h.left.below hb, h.res.below hb h.res.lt, h.blk.below hb h.blk.lt, below_then h.below hb h.below.size⟩
theorem RdB.turn {w wr w' : World} {x x' : Nm} {vv : Value} (h : RdB w wr x vv) (hk : Kept (fun i => i = w.heap.size) wr w') (hl : LeftAt w' w.heap.size x') : RdB w w' x' vv :=
  ⟨hl, h.res.kept hk (by omega), h.blk.kept hk (by omega), h.below.trans (hk.toBelow h.below.size (fun i e => by omega))⟩
theorem RdB.grown {w wr w' : World} {x : Nm} {vv : Value} {row : Option Nat} (h : RdB w wr x vv) (hg : wr.grownBy w' row) (hr : ∀ g, row = some g → w.heap.size + 3 ≤ g) : RdB w w' x vv :=
  ⟨h.left.kept (fun i hi => hg.block i (by have := h.left.lt; omega) (fun e => by have := hr i e.symm; omega)) hg.size, h.res.grown hg (fun e => by have := hr _ e.symm; omega), h.blk.grown hg (fun e => by have := hr _ e.symm; omega), h.below.grown hg h.below.size (fun g e => by have := hr g e; omega)⟩
theorem RdB.put {w wr : World} {x : Nm} {vv : Value} (h : RdB w wr x vv) (u : Value) : RdB w (wr.setCell ⟨w.heap.size + 2, 0, none⟩ u) x u :=
  ⟨h.left.kept (fun i hi => heap_setCell_other _ _ _ (by simp only; omega)) (by rw [size_setCell']; exact Nat.le_refl _), h.res.far (by simp only; omega) u, by simpa using h.blk.set_ 0 u, h.below.setCell (p := ⟨w.heap.size + 2, 0, none⟩) (by simp only; omega) u⟩
theorem cblkCells : (Try.prog.info? 87).map (·.size) = some 1 := by kernel_rfl
theorem unit_pos (l : List Pst) (i : Nat) : 0 < (unitB l i).length := by
  unfold unitB
  rw [List.length_append]
  have := putL_pos ((pAt l i).1 - lastD l i - 1).toNat
  omega

set_option maxHeartbeats 8000000 in
set_option maxRecDepth 100000 in
theorem cRead_any (w : World) (A : Option Addr) (n c : Nat) {l : List Pst} (hV : ValidP l) {Q E : Nat} (hQE : Q ≤ E) (hE : E ≤ l.length) (hb : BytesIn w A n (cat (unitB l) Q (E - Q))) (hc : n ≤ c) (hn : n ≤ 1099511627776) {d0 : Int} (hd0 : d0 = lastD l Q) :
    Calls Try.prog 80 #[.slice A n c, .int .i64 d0] w fun e w' => ∃ v, e = .returned (.agg #[v]) ∧ PostsO w' w.heap.size v (sl l Q E) ∧ Below w.heap.size w w' := by
  obtain ⟨i1, hi1, hy0, hy1, hy2⟩ := info_parts postInfo
  obtain ⟨W3, hW3⟩ : ∃ W3, W3 = ((w.alloc (.cells #[.slice A n c] 46)).alloc (.cells #[.slice none 0 0] 87)).alloc (.cells #[.slice none 0 0] 87) := ⟨_, rfl⟩
  have hb3 : Below w.heap.size w W3 := by rw [hW3]; exact (((Below.refl _ w).alloc (Nat.le_refl _) _).alloc (by simp) _).alloc (by simp; omega) _
  have hR3 : RdB w W3 (cat (unitB l) Q (E - Q)) (.slice none 0 0) := by
    refine ⟨⟨A, n, c, ?_, hb.below hb3, hc, hn, fun ad e h0 => hb.2.2 ad e h0⟩, ?_, ?_, hb3⟩
    · rw [hW3]; exact ((Blk.new w _ _).alloc _).alloc _
    · rw [hW3]; have := (Blk.new (w.alloc (.cells #[.slice A n c] 46)) 87 #[.slice none 0 0]).alloc (.cells #[.slice none 0 0] 87); simpa using this
    · rw [hW3]; have := Blk.new ((w.alloc (.cells #[.slice A n c] 46)).alloc (.cells #[.slice none 0 0] 87)) 87 #[.slice none 0 0]; simpa using this
  have HR3 := Lib.hid hR3
  have HW3 := Lib.hid hW3
  have HV := Lib.hid hV
  have HD0 := Lib.hid hd0
  clear hb hW3 hb3 hR3 hV hd0 hc hn
  go_enter Try.func80, Try.ntmps80
  go_wp2_with fail
  rw [← HW3.out]
  go_loopw [1] (fun s1 wr => ∃ q vv, Q ≤ q ∧ q ≤ E ∧ s1 = .int .i64 (lastD l q) ∧ RdB w wr (cat (unitB l) q (E - q)) vv ∧ PostsO wr (w.heap.size + 3) vv (sl l Q q)) (fun s1 _ => (4294967297 - Go.RowKit.intOf s1).toNat)
  case atStart => exact ⟨Q, .slice none 0 0, Nat.le_refl _, hQE, by rw [HD0.out], HR3.out, by rw [sl_none]; exact PostsO.nil _ _⟩
  case round =>
    obtain ⟨q, vv, hq1, hq2, rfl, hR, hP⟩ := hrel
    have HR := Lib.hid hR
    have HP := Lib.hid hP
    obtain ⟨A1, n1, c1, b1, b2, b3, b4, b5⟩ := hR.left
    have hxl : (cat (unitB l) q (E - q)).length = n1 := by have := b2.2.1.len; simpa using this
    have t0 := b1.cell 0
    have z0 := b1.frozen 0
    simp only [List.getElem?_toArray, List.getElem?_cons_zero] at t0
    have HB1 := Lib.hid b1
    have HB2 := Lib.hid b2
    have HB5 := Lib.hid b5
    clear b1 b2 b5 hR hP
    rcases Nat.lt_or_ge q E with hlt | hge
    · have hx : cat (unitB l) q (E - q) = unitB l q ++ cat (unitB l) (q + 1) (E - (q + 1)) := by
        rw [show E - q = (E - (q + 1)) + 1 by omega, cat_cons]
      have hp := HV.out.last (i := q) (by omega)
      have hu := HV.out.up q (by omega)
      have hd := HV.out.docs _ (pAt_mem (show q < l.length by omega))
      have hsp := HV.out.spots _ (pAt_mem (show q < l.length by omega))
      have hpos := HV.out.pos _ (pAt_mem (show q < l.length by omega))
      have hats := HV.out.at_ _ (pAt_mem (show q < l.length by omega))
      have hfit := poss_le (HV.out.fit _ (pAt_mem (show q < l.length by omega)))
      have hnl := poss_len (pAt l q).2
      have hzip := zip_spots (pAt l q).2
      have hsl1 := sl_cat l (x := Q) (y := q) (z := q + 1) hq1 (by omega)
      rw [sl_one (show q < l.length by omega)] at hsl1
      have hnx := lastD_succ l q
      have hslen : (sl l Q q).length = q - Q := sl_len (by omega)
      have hUP := unit_pos l q
      obtain ⟨x, hxx⟩ : ∃ x, x = pAt l q := ⟨_, rfl⟩
      obtain ⟨D, hD⟩ : ∃ D, D = lastD l q := ⟨_, rfl⟩
      obtain ⟨gap, hgap⟩ : ∃ gap, gap = ((pAt l q).1 - lastD l q - 1).toNat := ⟨_, rfl⟩
      have hun : unitB l q = putL gap ++ (putR (poss x.2) ++ putR (atss x.2)) := by unfold unitB; rw [← hgap, ← hxx]
      rw [← hxx] at hu hd hsp hpos hats hfit hnl hzip hsl1 hnx hgap
      rw [← hD] at hp hu hgap ⊢
      obtain ⟨R, hRR⟩ : ∃ R, R = cat (unitB l) (q + 1) (E - (q + 1)) := ⟨_, rfl⟩
      rw [← hRR, hun] at hx
      have hn1 : 0 < n1 := by rw [← hxl, hx]; rw [hun] at hUP; simp only [List.length_append] at hUP ⊢; omega
      have hg64 : gap < 2 ^ 40 := by omega
      have hDg : D + (1 + (gap : Int)) = x.1 := by omega
      have hg : getL (cat (unitB l) q (E - q)) = (gap, (putL gap).length, 0) := by rw [hx, List.append_assoc]; exact getL_put (by omega) _
      have HG := Lib.hid (lGet_any wr A1 n1 c1 _ HB2.out)
      unfold gotV at HG
      rw [hg] at HG
      simp only at HG
      obtain ⟨j, hj⟩ : ∃ j, j = (putL gap).length := ⟨_, rfl⟩
      rw [← hj] at HG
      have hjn : j ≤ n1 := by rw [hj, ← hxl, hx]; simp only [List.length_append]; omega
      have hdr : (cat (unitB l) q (E - q)).drop j = putR (poss x.2) ++ (putR (atss x.2) ++ R) := by rw [hj, hx, List.append_assoc, List.drop_left, List.append_assoc]
      have HDR := Lib.hid hdr
      have hpl : (poss x.2).length = x.2.length := hnl.1
      have hal : (atss x.2).length = x.2.length := hnl.2
      have HX := Lib.hid (show (x = pAt l q ∧ R = cat (unitB l) (q + 1) (E - (q + 1)) ∧ sl l Q q ++ [x] = sl l Q (q + 1) ∧ lastD l (q + 1) = x.1) from ⟨hxx, hRR, hsl1, hnx⟩)
      have HSL := Lib.hid hslen
      have HZ := Lib.hid hzip
      have HPO := Lib.hid (show rises (-1) (poss x.2) = true ∧ (∀ y ∈ poss x.2, y ≤ 9223372036854775807) from ⟨hpos, hfit.1⟩)
      have HAT := Lib.hid (show rises (-1) (atss x.2) = true ∧ (∀ y ∈ atss x.2, y ≤ 9223372036854775807) from ⟨hats, hfit.2⟩)
      have HPL := Lib.hid hpl
      have HAL := Lib.hid hal
      obtain ⟨ns, hns⟩ : ∃ ns, ns = x.2.length := ⟨_, rfl⟩
      have hns4 : ns ≤ 4096 := by omega
      obtain ⟨DD, hDD⟩ : ∃ DD, DD = x.1 := ⟨_, rfl⟩
      rw [← hDD] at hd hDg hu
      have HNS := Lib.hid hns
      have HDD := Lib.hid hDD
      have hsl := fun w => slice_from w A1 n1 c1 j hjn
      have hw0 : IntKind.i64.wrap (gap : Int) = (gap : Int) := IntWalk.i64_in _ (by omega)
      have hw1 : IntKind.i64.wrap (1 + (gap : Int)) = 1 + (gap : Int) := IntWalk.i64_in _ (by omega)
      have hw2 : IntKind.i64.wrap (D + (1 + (gap : Int))) = D + (1 + (gap : Int)) := IntWalk.i64_in _ (by omega)
      have HDG := Lib.hid hDg
      have d1 : decide ((0 : Int) < (n1 : Int)) = true := decide_eq_true (by omega)
      clear hx hun hsl1 hnx hslen hUP hRR hg hj hdr hpl hal hxx hD hgap hnl hzip hpos hats hfit hsp hns hDD hxl
      obtain ⟨wo, hwo⟩ : ∃ z, z = wr := ⟨_, rfl⟩
      subst hwo
      go_wp2_with fail
      refine HG.out.mono ?_
      rintro e w1 ⟨rfl, rfl⟩
      have HL2 : ∀ w2, w2 = w1.setCell ⟨w.heap.size, 0, none⟩ (.slice (cutAddr A1 j c1) (n1 - j) (c1 - j)) → LeftAt w2 w.heap.size (putR (poss x.2) ++ (putR (atss x.2) ++ R)) := fun w2 e => by
        have := LeftAt.cut HB2.out b3 b4 HB5.out (Below.refl _ w1) hjn e HB1.out
        rw [HDR.out] at this
        exact this
      have HL2 := Lib.hid HL2
      go_wp2_with fail
      obtain ⟨w2, hw2⟩ : ∃ w2, w2 = w1.setCell ⟨w.heap.size, 0, none⟩ (.slice (cutAddr A1 j c1) (n1 - j) (c1 - j)) := ⟨_, rfl⟩
      rw [← hw2]
      have hl2 := HL2.out w2 hw2
      have hk2 : Kept (fun i => i = w.heap.size) w1 w2 := by rw [hw2]; exact cu_set (Kept.refl _ w1) 0 _
      have HR2 := Lib.hid (HR.out.turn hk2 hl2)
      have HP2 := Lib.hid (HP.out.keepIn (fun i h1 h2 => hk2.block i h2 (fun e => by omega)) hk2.size)
      clear hw2 hk2 t0 z0 d1
      refine (cRise_any hl2 (by rw [HPL.out, ← HNS.out]; exact hns4) HPO.out.1 HPO.out.2 rfl).mono ?_
      rintro e w3 ⟨v3, rfl, ho3, hl3, hk3⟩
      have HR3 := Lib.hid (HR2.out.turn hk3 hl3)
      have HP3 := Lib.hid (HP2.out.keepIn (fun i h1 h2 => hk3.block i h2 (fun e => by omega)) hk3.size)
      have HO3 := Lib.hid ho3
      obtain ⟨AP, cP, rfl⟩ := own_slice ho3
      have hz3 := HR2.out.left.lt
      clear hl2 ho3 hk3
      go_wp2_with fail
      refine (cRise_any hl3 (by rw [HAL.out, ← HNS.out]; exact hns4) HAT.out.1 HAT.out.2 rfl).mono ?_
      rintro e w4 ⟨v4, rfl, ho4, hl4, hk4⟩
      have HR4 := Lib.hid (HR3.out.turn hk4 hl4)
      have HP4 := Lib.hid (HP3.out.keepIn (fun i h1 h2 => hk4.block i h2 (fun e => by omega)) hk4.size)
      have HI3 : Hid (IntsIn w4 AP ns (poss x.2)) := Lib.hid (by
        have := IntsIn.own (ownsRow_block HO3.out (w' := w4) fun g hg => hk4.block g (HO3.out.lt g hg).2 (fun e => by have := (HO3.out.lt g hg).1; omega)) (by unfold maxLen; have := HPL.out; have := HNS.out; omega) (fun y hy => ⟨by have := rises_ge HPO.out.1 y hy; omega, HPO.out.2 y hy⟩)
        rwa [HPL.out, ← HNS.out] at this)
      obtain ⟨AA, cA, rfl⟩ := own_slice ho4
      have HI4 : Hid (IntsIn w4 AA ns (atss x.2)) := Lib.hid (by
        have := IntsIn.own ho4 (by unfold maxLen; have := HAL.out; have := HNS.out; omega) (fun y hy => ⟨by have := rises_ge HAT.out.1 y hy; omega, HAT.out.2 y hy⟩)
        rwa [HAL.out, ← HNS.out] at this)
      clear hl3 ho4 hl4 hk4
      rw [HPL.out, HAL.out, ← HNS.out]
      go_wp2_with fail
      refine wp_region_held_drew (S := fun _ => True) (by kernel_rfl) trivial (fun hHeld => ?_)
      obtain ⟨u0, hu0⟩ : ∃ z, z = w4.drew := ⟨_, rfl⟩
      rw [← hu0]
      have hb0 : Below w4.heap.size w4 u0 := by rw [hu0]; exact (Below.refl _ w4).drew
      have HB0 := Lib.hid (HR4.out.more hb0)
      have HQ0 := Lib.hid (HP4.out.below hb0)
      have HSP := Lib.hid (cSpots_any u0 AP AA ns cP cA _ _ (HI3.out.below hb0) (HI4.out.below hb0) hns4)
      rw [HZ.out] at HSP
      have hsq : (sl l Q q).length ≤ 4096 := by have := HSL.out; have := HV.out.few; omega
      have hfx : fits64 DD := by unfold fits64; omega
      clear hu0 hb0
      have HFP : Hid (∀ p ∈ x.2, fits64 p.1 ∧ fits64 p.2) := Lib.hid (fun p hp => by
        have h1 := HPO.out.2 p.1 (List.mem_map_of_mem hp)
        have h2 := HAT.out.2 p.2 (List.mem_map_of_mem hp)
        have h3 := rises_ge HPO.out.1 p.1 (List.mem_map_of_mem hp)
        have h4 := rises_ge HAT.out.1 p.2 (List.mem_map_of_mem hp)
        unfold fits64
        omega)
      have HOW : Hid (∀ g, vv.ownBlock = some g → g < u0.heap.size) := Lib.hid (fun g hg => by
        obtain ⟨_, _, h1, _⟩ := HQ0.out
        exact (h1.lt g hg).2)
      refine wpAnyH_take (i := 0) (oi := ?oit10) (v := ?vt10) ?hit10 (by kernel_rfl) (by kernel_rfl) (by kernel_rfl) ?hQt10 (Or.inl ⟨?hwt10, ?hyt10⟩) (by assumption) ?restt10
      case hit10 => (first | (simp only [List.getElem?_toArray, List.getElem?_cons_zero, List.getElem?_cons_succ]; rfl) | rfl)
      case hQt10 => exact fun _ _ _ h => h
      case hwt10 => rfl
      case hyt10 => ((intro w hSw; go_simp); first | done | with_reducible rfl)
      try simp only [Act.put, List.setIfInBounds_toArray, List.set_cons_zero, List.set_cons_succ]
      refine wpAnyH_take (i := 2) (oi := ?oit22) (v := ?vt22) ?hit22 (by kernel_rfl) (by kernel_rfl) (by kernel_rfl) ?hQt22 (Or.inl ⟨?hwt22, ?hyt22⟩) (by assumption) ?restt22
      case hit22 => (first | (simp only [List.getElem?_toArray, List.getElem?_cons_zero, List.getElem?_cons_succ]; rfl) | rfl)
      case hQt22 => exact fun _ _ _ h => h
      case hwt22 => rfl
      case hyt22 => ((intro w hSw; go_simp); first | done | with_reducible rfl)
      try simp only [Act.put, List.setIfInBounds_toArray, List.set_cons_zero, List.set_cons_succ]
      refine wpAnyH_take (i := 3) (oi := ?oit33) (v := ?vt33) ?hit33 (by kernel_rfl) (by kernel_rfl) (by kernel_rfl) ?hQt33 (Or.inl ⟨?hwt33, ?hyt33⟩) (by assumption) ?restt33
      case hit33 => (first | (simp only [List.getElem?_toArray, List.getElem?_cons_zero, List.getElem?_cons_succ]; rfl) | rfl)
      case hQt33 => exact fun _ _ _ h => h
      case hwt33 => rfl
      case hyt33 => ((intro w hSw; go_simp); first | done | with_reducible rfl)
      try simp only [Act.put, List.setIfInBounds_toArray, List.set_cons_zero, List.set_cons_succ]
      refine wpAnyH_take (i := 4) (oi := ?oit44) (v := ?vt44) ?hit44 (by kernel_rfl) (by kernel_rfl) (by kernel_rfl) ?hQt44 (Or.inl ⟨?hwt44, ?hyt44⟩) (by assumption) ?restt44
      case hit44 => (first | (simp only [List.getElem?_toArray, List.getElem?_cons_zero, List.getElem?_cons_succ]; rfl) | rfl)
      case hQt44 => exact fun _ _ _ h => h
      case hwt44 => rfl
      case hyt44 => ((intro w hSw; go_simp); first | done | with_reducible rfl)
      try simp only [Act.put, List.setIfInBounds_toArray, List.set_cons_zero, List.set_cons_succ]
      refine wpAnyH_ready (rs := [1, 5]) (by kernel_rfl) (by simp) ?_
      refine AllReadyH.cons (o := ?ot5) ?ht5 ?st5 (AllReadyH.cons (o := ?ot6) ?ht6 ?st6 AllReadyH.nil)
      case ht5 => (simp only [List.getElem?_toArray, List.getElem?_cons_zero, List.getElem?_cons_succ]; rfl)
      case ht6 => (simp only [List.getElem?_toArray, List.getElem?_cons_zero, List.getElem?_cons_succ]; rfl)
      case st5 =>
        intro K hK
        have yq1 := HB0.out.blk.cell 0
        simp only [List.getElem?_toArray, List.getElem?_cons_zero] at yq1
        go_simp
        clear yq1
        refine hK.out _ _ trivial (fun ht7 => ?_)
        clear hK K
        try simp only [Act.put, List.setIfInBounds_toArray, List.set_cons_zero, List.set_cons_succ]
        refine wpAnyH_ready (rs := [5]) (by kernel_rfl) (by simp) ?_
        refine AllReadyH.cons (o := ?ot8) ?ht8 ?st8 AllReadyH.nil
        case ht8 => (simp only [List.getElem?_toArray, List.getElem?_cons_zero, List.getElem?_cons_succ]; rfl)
        case st8 =>
          intro K hK
          go_simp
          refine HSP.out.mono ?_
          rintro e uq2 ⟨svq3, rfl, hoq4, hbq5⟩
          obtain ⟨SAq8, scq9, rfl⟩ := own_slice hoq4
          have Bq6 := Lib.hid (HB0.out.more hbq5)
          have Qq7 := Lib.hid (HQ0.out.below hbq5)
          have Hhoq4 := Lib.hid hoq4
          have Hhbq5 := Lib.hid hbq5
          clear hoq4 hbq5
          go_wp2_with fail
          refine hK.out _ _ trivial (fun ht9 => ?_)
          clear hK K
          try simp only [Act.put, List.setIfInBounds_toArray, List.set_cons_zero, List.set_cons_succ]
          refine wpAnyH_take (i := 6) (oi := ?oit106) (v := ?vt106) ?hit106 (by kernel_rfl) (by kernel_rfl) (by kernel_rfl) ?hQt106 (Or.inl ⟨?hwt106, ?hyt106⟩) (by assumption) ?restt106
          case hit106 => (first | (simp only [List.getElem?_toArray, List.getElem?_cons_zero, List.getElem?_cons_succ]; rfl) | rfl)
          case hQt106 => exact fun _ _ _ h => h
          case hwt106 => rfl
          case hyt106 => ((intro w hSw; go_simp); first | done | with_reducible rfl)
          try simp only [Act.put, List.setIfInBounds_toArray, List.set_cons_zero, List.set_cons_succ]
          refine wpAnyH_ready (rs := [7]) (by kernel_rfl) (by simp) ?_
          refine AllReadyH.cons (o := ?ot11) ?ht11 ?st11 AllReadyH.nil
          case ht11 => (simp only [List.getElem?_toArray, List.getElem?_cons_zero, List.getElem?_cons_succ]; rfl)
          case st11 =>
            intro K hK
            go_simp
            obtain ⟨uq10, huq15⟩ : ∃ z, z = uq2.alloc (.cells #[.int .i64 DD, .slice SAq8 ns scq9] 52) := ⟨_, rfl⟩
            have Nq11 : Hid (Blk uq10 uq2.heap.size 52 #[.int .i64 DD, .slice SAq8 ns scq9]) := Lib.hid (by rw [huq15]; exact Blk.new _ _ _)
            rw [← huq15]
            have hbq16 : Below uq2.heap.size uq2 uq10 := by rw [huq15]; exact (Below.refl _ uq2).alloc (Nat.le_refl _) _
            have Bq12 := Lib.hid (Bq6.out.more hbq16)
            have Qq13 := Lib.hid (Qq7.out.below hbq16)
            have SOq14 := Lib.hid (ownsRow_block Hhoq4.out (w' := uq10) fun g hg => hbq16.block g (Hhoq4.out.lt g hg).2)
            have HShbq16 := Lib.hid hbq16.size
            clear huq15 hbq16
            refine hK.out _ _ trivial (fun ht12 => ?_)
            clear hK K
            try simp only [Act.put, List.setIfInBounds_toArray, List.set_cons_zero, List.set_cons_succ]
            refine wpAnyH_ready (rs := [8]) (by kernel_rfl) (by simp) ?_
            refine AllReadyH.cons (o := ?ot13) ?ht13 ?st13 AllReadyH.nil
            case ht13 => (simp only [List.getElem?_toArray, List.getElem?_cons_zero, List.getElem?_cons_succ]; rfl)
            case st13 =>
              intro K hK
              obtain ⟨Rq24, kq25, kq26, kq27⟩ := Qq13.out
              refine step_append_recK _ rfl (.tmp 35) (.tmp 41) 45 rfl (w.heap.size + 3) 52 i1 _ 2 32 Try.underlying45 hi1 hy0 hy1 hy2 rfl (by decide) _ _ _ rfl kq26 ⟨uq2.heap.size, 0, none⟩ 1 1 (docCells (DD, .slice SAq8 ns scq9)) rfl rfl (doc_src (p := (DD, .slice SAq8 ns scq9)) Nq11.out) (doc_one _ _ _ _) (by unfold maxLen; omega) (by omega) (by have := Bq12.out.blk.lt; omega) ?_
              intro vq21 uq17 hwq18 hgq19 hlq20
              have Bq22 := Lib.hid (Bq12.out.grown hgq19 (fun g hg => (kq26.lt g hg).1))
              have Qq23 : Hid (PostsO uq17 (w.heap.size + 3) vq21 (sl l Q q ++ [x])) := Lib.hid (PostsO.push kq25 kq27 (p := (DD, .slice SAq8 ns scq9)) ⟨HDD.out, by rw [← HDD.out]; exact hfx, _, _, by simp only; rw [HNS.out], by rw [← HNS.out]; exact rowCap_le SOq14.out, by
                  rw [← HNS.out]
                  exact PairsIn.ownTwo SOq14.out HNS.out.symm (by unfold maxLen; omega) (fun p hp => HFP.out p hp), fun ad e h0 => by
                  have q1 := SOq14.out.lt ad.block (by rw [e]; rfl)
                  refine ⟨q1.2, by have := HB0.out.blk.lt; omega, fun e2 => ?_⟩
                  have q2 := (HOW.out _ e2)
                  omega⟩ hwq18 hgq19 (by
                  rcases hlq20 with e | e
                  · exact .inl e
                  · exact .inr ⟨_, e, Nat.le_refl _⟩))
              clear hwq18 hgq19 hlq20 kq25 kq26 kq27
              refine hK.out _ _ trivial (fun ht14 => ?_)
              clear hK K
              try simp only [Act.put, List.setIfInBounds_toArray, List.set_cons_zero, List.set_cons_succ]
              refine wpAnyH_take (i := 9) (oi := ?oit159) (v := ?vt159) ?hit159 (by kernel_rfl) (by kernel_rfl) (by kernel_rfl) ?hQt159 (Or.inl ⟨?hwt159, ?hyt159⟩) (by assumption) ?restt159
              case hit159 => (first | (simp only [List.getElem?_toArray, List.getElem?_cons_zero, List.getElem?_cons_succ]; rfl) | rfl)
              case hQt159 => exact fun _ _ _ h => h
              case hwt159 => rfl
              case hyt159 => ((intro w hSw; go_simp); first | done | with_reducible rfl)
              try simp only [Act.put, List.setIfInBounds_toArray, List.set_cons_zero, List.set_cons_succ]
              refine wpAnyH_ready (rs := [10]) (by kernel_rfl) (by simp) ?_
              refine AllReadyH.cons (o := ?ot16) ?ht16 ?st16 AllReadyH.nil
              case ht16 => (simp only [List.getElem?_toArray, List.getElem?_cons_zero, List.getElem?_cons_succ]; rfl)
              case st16 =>
                intro K hK
                have yq28 := Bq22.out.blk.cell 0
                have zq29 := Bq22.out.blk.frozen 0
                simp only [List.getElem?_toArray, List.getElem?_cons_zero] at yq28
                obtain ⟨Avq21, cvq21, evq21⟩ : ∃ A c, vq21 = .slice A ((sl l Q q).length + 1) c := by
                  obtain ⟨_, _, h1, _⟩ := Qq23.out
                  have := own_slice h1
                  simpa using this
                subst evq21
                go_simp
                clear yq28 zq29
                have Bq30 := Lib.hid (Bq22.out.put (.slice Avq21 ((sl l Q q).length + 1) cvq21))
                have Qq31 := Lib.hid (Qq23.out.keepIn (w' := uq17.setCell ⟨w.heap.size + 2, 0, none⟩ (.slice Avq21 ((sl l Q q).length + 1) cvq21)) (fun i h1 h2 => heap_setCell_other _ _ _ (by simp only; omega)) (by rw [size_setCell']; exact Nat.le_refl _))
                refine hK.out _ _ trivial (fun ht17 => ?_)
                clear hK K
                try simp only [Act.put, List.setIfInBounds_toArray, List.set_cons_zero, List.set_cons_succ]
                refine wpAnyH_done (by kernel_rfl) ?_ _
                go_wp2
                go_roundw
                case rel =>
                  obtain ⟨e1, e2, e3, e4⟩ := HX.out
                  have hb := Bq30.out
                  have hq := Qq31.out
                  rw [e2] at hb
                  rw [e3] at hq
                  exact ⟨q + 1, _, by omega, by omega, by rw [e4, HDD.out], hb, hq⟩
                case measure => simp [Go.RowKit.intOf]; omega
      case st6 =>
        intro K hK
        go_simp
        refine HSP.out.mono ?_
        rintro e uq32 ⟨svq33, rfl, hoq34, hbq35⟩
        obtain ⟨SAq38, scq39, rfl⟩ := own_slice hoq34
        have Bq36 := Lib.hid (HB0.out.more hbq35)
        have Qq37 := Lib.hid (HQ0.out.below hbq35)
        have Hhoq34 := Lib.hid hoq34
        have Hhbq35 := Lib.hid hbq35
        clear hoq34 hbq35
        go_wp2_with fail
        refine hK.out _ _ trivial (fun ht18 => ?_)
        clear hK K
        try simp only [Act.put, List.setIfInBounds_toArray, List.set_cons_zero, List.set_cons_succ]
        refine wpAnyH_take (i := 6) (oi := ?oit196) (v := ?vt196) ?hit196 (by kernel_rfl) (by kernel_rfl) (by kernel_rfl) ?hQt196 (Or.inl ⟨?hwt196, ?hyt196⟩) (by assumption) ?restt196
        case hit196 => (first | (simp only [List.getElem?_toArray, List.getElem?_cons_zero, List.getElem?_cons_succ]; rfl) | rfl)
        case hQt196 => exact fun _ _ _ h => h
        case hwt196 => rfl
        case hyt196 => ((intro w hSw; go_simp); first | done | with_reducible rfl)
        try simp only [Act.put, List.setIfInBounds_toArray, List.set_cons_zero, List.set_cons_succ]
        refine wpAnyH_ready (rs := [1, 7]) (by kernel_rfl) (by simp) ?_
        refine AllReadyH.cons (o := ?ot20) ?ht20 ?st20 (AllReadyH.cons (o := ?ot21) ?ht21 ?st21 AllReadyH.nil)
        case ht20 => (simp only [List.getElem?_toArray, List.getElem?_cons_zero, List.getElem?_cons_succ]; rfl)
        case ht21 => (simp only [List.getElem?_toArray, List.getElem?_cons_zero, List.getElem?_cons_succ]; rfl)
        case st20 =>
          intro K hK
          have yq40 := Bq36.out.blk.cell 0
          simp only [List.getElem?_toArray, List.getElem?_cons_zero] at yq40
          go_simp
          clear yq40
          refine hK.out _ _ trivial (fun ht22 => ?_)
          clear hK K
          try simp only [Act.put, List.setIfInBounds_toArray, List.set_cons_zero, List.set_cons_succ]
          refine wpAnyH_ready (rs := [7]) (by kernel_rfl) (by simp) ?_
          refine AllReadyH.cons (o := ?ot23) ?ht23 ?st23 AllReadyH.nil
          case ht23 => (simp only [List.getElem?_toArray, List.getElem?_cons_zero, List.getElem?_cons_succ]; rfl)
          case st23 =>
            intro K hK
            go_simp
            obtain ⟨uq41, huq46⟩ : ∃ z, z = uq32.alloc (.cells #[.int .i64 DD, .slice SAq38 ns scq39] 52) := ⟨_, rfl⟩
            have Nq42 : Hid (Blk uq41 uq32.heap.size 52 #[.int .i64 DD, .slice SAq38 ns scq39]) := Lib.hid (by rw [huq46]; exact Blk.new _ _ _)
            rw [← huq46]
            have hbq47 : Below uq32.heap.size uq32 uq41 := by rw [huq46]; exact (Below.refl _ uq32).alloc (Nat.le_refl _) _
            have Bq43 := Lib.hid (Bq36.out.more hbq47)
            have Qq44 := Lib.hid (Qq37.out.below hbq47)
            have SOq45 := Lib.hid (ownsRow_block Hhoq34.out (w' := uq41) fun g hg => hbq47.block g (Hhoq34.out.lt g hg).2)
            have HShbq47 := Lib.hid hbq47.size
            clear huq46 hbq47
            refine hK.out _ _ trivial (fun ht24 => ?_)
            clear hK K
            try simp only [Act.put, List.setIfInBounds_toArray, List.set_cons_zero, List.set_cons_succ]
            refine wpAnyH_ready (rs := [8]) (by kernel_rfl) (by simp) ?_
            refine AllReadyH.cons (o := ?ot25) ?ht25 ?st25 AllReadyH.nil
            case ht25 => (simp only [List.getElem?_toArray, List.getElem?_cons_zero, List.getElem?_cons_succ]; rfl)
            case st25 =>
              intro K hK
              obtain ⟨Rq55, kq56, kq57, kq58⟩ := Qq44.out
              refine step_append_recK _ rfl (.tmp 35) (.tmp 41) 45 rfl (w.heap.size + 3) 52 i1 _ 2 32 Try.underlying45 hi1 hy0 hy1 hy2 rfl (by decide) _ _ _ rfl kq57 ⟨uq32.heap.size, 0, none⟩ 1 1 (docCells (DD, .slice SAq38 ns scq39)) rfl rfl (doc_src (p := (DD, .slice SAq38 ns scq39)) Nq42.out) (doc_one _ _ _ _) (by unfold maxLen; omega) (by omega) (by have := Bq43.out.blk.lt; omega) ?_
              intro vq52 uq48 hwq49 hgq50 hlq51
              have Bq53 := Lib.hid (Bq43.out.grown hgq50 (fun g hg => (kq57.lt g hg).1))
              have Qq54 : Hid (PostsO uq48 (w.heap.size + 3) vq52 (sl l Q q ++ [x])) := Lib.hid (PostsO.push kq56 kq58 (p := (DD, .slice SAq38 ns scq39)) ⟨HDD.out, by rw [← HDD.out]; exact hfx, _, _, by simp only; rw [HNS.out], by rw [← HNS.out]; exact rowCap_le SOq45.out, by
                  rw [← HNS.out]
                  exact PairsIn.ownTwo SOq45.out HNS.out.symm (by unfold maxLen; omega) (fun p hp => HFP.out p hp), fun ad e h0 => by
                  have q1 := SOq45.out.lt ad.block (by rw [e]; rfl)
                  refine ⟨q1.2, by have := HB0.out.blk.lt; omega, fun e2 => ?_⟩
                  have q2 := (HOW.out _ e2)
                  omega⟩ hwq49 hgq50 (by
                  rcases hlq51 with e | e
                  · exact .inl e
                  · exact .inr ⟨_, e, Nat.le_refl _⟩))
              clear hwq49 hgq50 hlq51 kq56 kq57 kq58
              refine hK.out _ _ trivial (fun ht26 => ?_)
              clear hK K
              try simp only [Act.put, List.setIfInBounds_toArray, List.set_cons_zero, List.set_cons_succ]
              refine wpAnyH_take (i := 9) (oi := ?oit279) (v := ?vt279) ?hit279 (by kernel_rfl) (by kernel_rfl) (by kernel_rfl) ?hQt279 (Or.inl ⟨?hwt279, ?hyt279⟩) (by assumption) ?restt279
              case hit279 => (first | (simp only [List.getElem?_toArray, List.getElem?_cons_zero, List.getElem?_cons_succ]; rfl) | rfl)
              case hQt279 => exact fun _ _ _ h => h
              case hwt279 => rfl
              case hyt279 => ((intro w hSw; go_simp); first | done | with_reducible rfl)
              try simp only [Act.put, List.setIfInBounds_toArray, List.set_cons_zero, List.set_cons_succ]
              refine wpAnyH_ready (rs := [10]) (by kernel_rfl) (by simp) ?_
              refine AllReadyH.cons (o := ?ot28) ?ht28 ?st28 AllReadyH.nil
              case ht28 => (simp only [List.getElem?_toArray, List.getElem?_cons_zero, List.getElem?_cons_succ]; rfl)
              case st28 =>
                intro K hK
                have yq59 := Bq53.out.blk.cell 0
                have zq60 := Bq53.out.blk.frozen 0
                simp only [List.getElem?_toArray, List.getElem?_cons_zero] at yq59
                obtain ⟨Avq52, cvq52, evq52⟩ : ∃ A c, vq52 = .slice A ((sl l Q q).length + 1) c := by
                  obtain ⟨_, _, h1, _⟩ := Qq54.out
                  have := own_slice h1
                  simpa using this
                subst evq52
                go_simp
                clear yq59 zq60
                have Bq61 := Lib.hid (Bq53.out.put (.slice Avq52 ((sl l Q q).length + 1) cvq52))
                have Qq62 := Lib.hid (Qq54.out.keepIn (w' := uq48.setCell ⟨w.heap.size + 2, 0, none⟩ (.slice Avq52 ((sl l Q q).length + 1) cvq52)) (fun i h1 h2 => heap_setCell_other _ _ _ (by simp only; omega)) (by rw [size_setCell']; exact Nat.le_refl _))
                refine hK.out _ _ trivial (fun ht29 => ?_)
                clear hK K
                try simp only [Act.put, List.setIfInBounds_toArray, List.set_cons_zero, List.set_cons_succ]
                refine wpAnyH_done (by kernel_rfl) ?_ _
                go_wp2
                go_roundw
                case rel =>
                  obtain ⟨e1, e2, e3, e4⟩ := HX.out
                  have hb := Bq61.out
                  have hq := Qq62.out
                  rw [e2] at hb
                  rw [e3] at hq
                  exact ⟨q + 1, _, by omega, by omega, by rw [e4, HDD.out], hb, hq⟩
                case measure => simp [Go.RowKit.intOf]; omega
        case st21 =>
          intro K hK
          go_simp
          obtain ⟨uq63, huq68⟩ : ∃ z, z = uq32.alloc (.cells #[.int .i64 DD, .slice SAq38 ns scq39] 52) := ⟨_, rfl⟩
          have Nq64 : Hid (Blk uq63 uq32.heap.size 52 #[.int .i64 DD, .slice SAq38 ns scq39]) := Lib.hid (by rw [huq68]; exact Blk.new _ _ _)
          rw [← huq68]
          have hbq69 : Below uq32.heap.size uq32 uq63 := by rw [huq68]; exact (Below.refl _ uq32).alloc (Nat.le_refl _) _
          have Bq65 := Lib.hid (Bq36.out.more hbq69)
          have Qq66 := Lib.hid (Qq37.out.below hbq69)
          have SOq67 := Lib.hid (ownsRow_block Hhoq34.out (w' := uq63) fun g hg => hbq69.block g (Hhoq34.out.lt g hg).2)
          have HShbq69 := Lib.hid hbq69.size
          clear huq68 hbq69
          refine hK.out _ _ trivial (fun ht30 => ?_)
          clear hK K
          try simp only [Act.put, List.setIfInBounds_toArray, List.set_cons_zero, List.set_cons_succ]
          refine wpAnyH_ready (rs := [1]) (by kernel_rfl) (by simp) ?_
          refine AllReadyH.cons (o := ?ot31) ?ht31 ?st31 AllReadyH.nil
          case ht31 => (simp only [List.getElem?_toArray, List.getElem?_cons_zero, List.getElem?_cons_succ]; rfl)
          case st31 =>
            intro K hK
            have yq70 := Bq65.out.blk.cell 0
            simp only [List.getElem?_toArray, List.getElem?_cons_zero] at yq70
            go_simp
            clear yq70
            refine hK.out _ _ trivial (fun ht32 => ?_)
            clear hK K
            try simp only [Act.put, List.setIfInBounds_toArray, List.set_cons_zero, List.set_cons_succ]
            refine wpAnyH_ready (rs := [8]) (by kernel_rfl) (by simp) ?_
            refine AllReadyH.cons (o := ?ot33) ?ht33 ?st33 AllReadyH.nil
            case ht33 => (simp only [List.getElem?_toArray, List.getElem?_cons_zero, List.getElem?_cons_succ]; rfl)
            case st33 =>
              intro K hK
              obtain ⟨Rq78, kq79, kq80, kq81⟩ := Qq66.out
              refine step_append_recK _ rfl (.tmp 35) (.tmp 41) 45 rfl (w.heap.size + 3) 52 i1 _ 2 32 Try.underlying45 hi1 hy0 hy1 hy2 rfl (by decide) _ _ _ rfl kq80 ⟨uq32.heap.size, 0, none⟩ 1 1 (docCells (DD, .slice SAq38 ns scq39)) rfl rfl (doc_src (p := (DD, .slice SAq38 ns scq39)) Nq64.out) (doc_one _ _ _ _) (by unfold maxLen; omega) (by omega) (by have := Bq65.out.blk.lt; omega) ?_
              intro vq75 uq71 hwq72 hgq73 hlq74
              have Bq76 := Lib.hid (Bq65.out.grown hgq73 (fun g hg => (kq80.lt g hg).1))
              have Qq77 : Hid (PostsO uq71 (w.heap.size + 3) vq75 (sl l Q q ++ [x])) := Lib.hid (PostsO.push kq79 kq81 (p := (DD, .slice SAq38 ns scq39)) ⟨HDD.out, by rw [← HDD.out]; exact hfx, _, _, by simp only; rw [HNS.out], by rw [← HNS.out]; exact rowCap_le SOq67.out, by
                  rw [← HNS.out]
                  exact PairsIn.ownTwo SOq67.out HNS.out.symm (by unfold maxLen; omega) (fun p hp => HFP.out p hp), fun ad e h0 => by
                  have q1 := SOq67.out.lt ad.block (by rw [e]; rfl)
                  refine ⟨q1.2, by have := HB0.out.blk.lt; omega, fun e2 => ?_⟩
                  have q2 := (HOW.out _ e2)
                  omega⟩ hwq72 hgq73 (by
                  rcases hlq74 with e | e
                  · exact .inl e
                  · exact .inr ⟨_, e, Nat.le_refl _⟩))
              clear hwq72 hgq73 hlq74 kq79 kq80 kq81
              refine hK.out _ _ trivial (fun ht34 => ?_)
              clear hK K
              try simp only [Act.put, List.setIfInBounds_toArray, List.set_cons_zero, List.set_cons_succ]
              refine wpAnyH_take (i := 9) (oi := ?oit359) (v := ?vt359) ?hit359 (by kernel_rfl) (by kernel_rfl) (by kernel_rfl) ?hQt359 (Or.inl ⟨?hwt359, ?hyt359⟩) (by assumption) ?restt359
              case hit359 => (first | (simp only [List.getElem?_toArray, List.getElem?_cons_zero, List.getElem?_cons_succ]; rfl) | rfl)
              case hQt359 => exact fun _ _ _ h => h
              case hwt359 => rfl
              case hyt359 => ((intro w hSw; go_simp); first | done | with_reducible rfl)
              try simp only [Act.put, List.setIfInBounds_toArray, List.set_cons_zero, List.set_cons_succ]
              refine wpAnyH_ready (rs := [10]) (by kernel_rfl) (by simp) ?_
              refine AllReadyH.cons (o := ?ot36) ?ht36 ?st36 AllReadyH.nil
              case ht36 => (simp only [List.getElem?_toArray, List.getElem?_cons_zero, List.getElem?_cons_succ]; rfl)
              case st36 =>
                intro K hK
                have yq82 := Bq76.out.blk.cell 0
                have zq83 := Bq76.out.blk.frozen 0
                simp only [List.getElem?_toArray, List.getElem?_cons_zero] at yq82
                obtain ⟨Avq75, cvq75, evq75⟩ : ∃ A c, vq75 = .slice A ((sl l Q q).length + 1) c := by
                  obtain ⟨_, _, h1, _⟩ := Qq77.out
                  have := own_slice h1
                  simpa using this
                subst evq75
                go_simp
                clear yq82 zq83
                have Bq84 := Lib.hid (Bq76.out.put (.slice Avq75 ((sl l Q q).length + 1) cvq75))
                have Qq85 := Lib.hid (Qq77.out.keepIn (w' := uq71.setCell ⟨w.heap.size + 2, 0, none⟩ (.slice Avq75 ((sl l Q q).length + 1) cvq75)) (fun i h1 h2 => heap_setCell_other _ _ _ (by simp only; omega)) (by rw [size_setCell']; exact Nat.le_refl _))
                refine hK.out _ _ trivial (fun ht37 => ?_)
                clear hK K
                try simp only [Act.put, List.setIfInBounds_toArray, List.set_cons_zero, List.set_cons_succ]
                refine wpAnyH_done (by kernel_rfl) ?_ _
                go_wp2
                go_roundw
                case rel =>
                  obtain ⟨e1, e2, e3, e4⟩ := HX.out
                  have hb := Bq84.out
                  have hq := Qq85.out
                  rw [e2] at hb
                  rw [e3] at hq
                  exact ⟨q + 1, _, by omega, by omega, by rw [e4, HDD.out], hb, hq⟩
                case measure => simp [Go.RowKit.intOf]; omega
    · obtain rfl : q = E := by omega
      have hz : n1 = 0 := by rw [← hxl, Nat.sub_self]; rfl
      have d1 : decide ((0 : Int) < (n1 : Int)) = false := decide_eq_false (by omega)
      have y1 := HR.out.blk.cell 0
      have y2 := HR.out.res.cell 0
      have z2 := HR.out.res.frozen 0
      simp only [List.getElem?_toArray, List.getElem?_cons_zero] at y1 y2
      obtain ⟨Av, nv, cv, rfl⟩ : ∃ A n c, vv = .slice A n c := by
        obtain ⟨_, _, h1, _⟩ := HP.out
        obtain ⟨A, c, e⟩ := own_slice h1
        exact ⟨A, _, c, e⟩
      clear hxl
      go_wp2
      refine bodyPost_ret (results_cell_row rfl _ _ (w.heap.size + 1) 87 #[.slice Av nv cv] (0, 0) _ rfl ?_ Try.underlying87 rfl cblkCells) rfl ?_
      · have := HR.out.res.set_ 0 (.slice Av nv cv)
        unfold Blk at this
        simpa using this
      · refine ⟨_, rfl, (HP.out.keepIn (fun i h1 h2 => heap_setCell_other _ _ _ (by simp only; omega)) (by rw [size_setCell']; exact Nat.le_refl _)).le (by omega), HR.out.below.setCell (p := ⟨w.heap.size + 1, 0, none⟩) (by simp only; omega) _⟩
end Go.Proofs.Ytkligdaademakaa
namespace Go.Proofs.Ytkligdaademakaa
open Go.RowKit Go.Maps Go.WideMaps
set_option linter.unusedSimpArgs false

set_option maxRecDepth 100000 in
theorem posts_size (w : World) : (sizeOf (Try.prog.elem 45)).run Try.prog w = .ok 2 w := by
  obtain ⟨i0, hi, hz0, hz1, hz2⟩ := info_parts postInfo
  rw [show Try.prog.elem 45 = 52 by kernel_rfl, run_sizeOf w hi]
  unfold Program.cellsOf
  rw [hi]
  simp [hz1]
set_option maxRecDepth 100000 in
theorem posts_from (w : World) (A : Option Addr) (n c p : Nat) (hp : p ≤ n) : (Instr.slice 45 (.slice A n c) (some (.int .i64 p)) none none).run Try.prog w = .ok (.slice (cutAddr2 A p c) (n - p) (c - p)) w := by
  rw [run_slice_l (P := Try.prog) (w := w) 45 A n c Try.underlying45 .i64 p (by omega) (by omega), posts_size]
  simp [Result.andThen, sliced, cutAddr2]

set_option maxHeartbeats 4000000 in
set_option maxRecDepth 100000 in
theorem cLess_any (w : World) (g : Nat) (d x : Int) (hg : Blk w g 2 #[.int .i64 d]) (B : Option Addr) (k c : Nat) : Calls Try.prog 76 #[.agg #[.int .i64 x, .slice B k c], .pointer (some ⟨g, 0, none⟩)] w fun e w' => e = .returned (.bool (decide (d ≤ x))) ∧ Below w.heap.size w w' := by
  have HB := Lib.hid ((Below.refl w.heap.size w).alloc (Nat.le_refl _) (.cells #[.int .i64 x, .slice B k c] 52))
  have c0 := (hg.alloc (.cells #[.int .i64 x, .slice B k c] 52)).cell 0
  simp only [List.getElem?_toArray, List.getElem?_cons_zero] at c0
  clear hg
  go_enter Try.func76, Try.ntmps76
  go_wp2
  go_ret
  exact ⟨rfl, HB.out⟩

/-- The first posting from a Doc on: where it is, or -1. -/
def IdxD (l : List Pst) (d : Int) (n : Nat) (r : Int) : Prop := (r = -1 ∧ ∀ i, i < n → (pAt l i).1 < d) ∨ ∃ k : Nat, r = k ∧ k < n ∧ (∀ i, i < k → (pAt l i).1 < d) ∧ d ≤ (pAt l k).1

set_option maxHeartbeats 4000000 in
set_option maxRecDepth 100000 in
theorem cIdx_any (w : World) (A : Option Addr) (n c : Nat) (l : List Pst) (h : PostsSee w A n l) (hn : n ≤ 4096) (g : Nat) (d : Int) (hg : Blk w g 2 #[.int .i64 d]) :
    Calls Try.prog 75 #[.slice A n c, .func (.func 76) #[] #[.pointer (some ⟨g, 0, none⟩)]] w fun e w' => ∃ r : Int, e = .returned (.int .i64 r) ∧ IdxD l d n r ∧ Below w.heap.size w w' := by
  have HP := Lib.hid h
  have HG := Lib.hid hg
  clear h hg
  go_enter Try.func75, Try.ntmps75
  go_wp2
  go_loopw [8] (fun i wr => ∃ k : Nat, k ≤ n ∧ i = .int .i64 k ∧ (∀ i, i < k → (pAt l i).1 < d) ∧ Below w.heap.size w wr) (fun i _ => n - (Go.RowKit.intOf i).toNat)
  case atStart => exact ⟨0, by omega, rfl, (fun i hi => by omega), Below.refl _ _⟩
  case round =>
    obtain ⟨k, hk, rfl, hmu, hB⟩ := hrel
    have HMU := Lib.hid hmu
    have HB := Lib.hid hB
    have HGR := Lib.hid (HG.out.below hB HG.out.lt)
    clear hmu hB
    rcases Nat.lt_or_ge k n with hlt | hge
    · have hlt' : (k : Int) < (n : Int) := by omega
      have p0 : (0 : Int) ≤ (k : Int) := by omega
      have hw5 : IntKind.i64.wrap ((k : Int) + 1) = (k : Int) + 1 := IntWalk.i64_in _ (by omega)
      obtain ⟨pa, x, SA, da, rfl, hx, -, a0, a1, -, -⟩ := (HP.out.below HB.out).at k hlt
      have HPX := Lib.hid (pAt_eq hx)
      obtain ⟨x1, x2⟩ := x
      simp only at a0 a1
      obtain ⟨m, hm⟩ : ∃ m, m = x2.length := ⟨_, rfl⟩
      rw [← hm] at a1
      clear hx hm
      go_wp2_with fail
      refine (cLess_any wr g d x1 HGR.out SA m da).mono ?_
      rintro e w2 ⟨rfl, hb2⟩
      have HB2 := Lib.hid (below_then HB.out hb2 HB.out.size)
      clear hb2
      by_cases hsp : d ≤ x1
      · have d1 : decide (d ≤ x1) = true := decide_eq_true hsp
        have hfin : IdxD l d n (k : Int) := .inr ⟨k, rfl, hlt, HMU.out, by rw [HPX.out]; exact hsp⟩
        have HF := Lib.hid hfin
        rw [d1]
        clear hfin
        go_wp2
        go_ret
        exact ⟨_, rfl, HF.out, HB2.out⟩
      · have d1 : decide (d ≤ x1) = false := decide_eq_false hsp
        have hnx : ∀ i, i < k + 1 → (pAt l i).1 < d := fun i hi => by
          rcases Nat.lt_or_ge i k with h1 | h1
          · exact HMU.out i h1
          · obtain rfl : i = k := by omega
            rw [HPX.out]
            simp only
            omega
        have HNX := Lib.hid hnx
        rw [d1]
        clear hnx d1
        go_wp2
        go_roundw
        case rel => exact ⟨k + 1, by omega, by go_num, HNX.out, HB2.out⟩
        case measure => simp [Go.RowKit.intOf]; omega
    · obtain rfl : k = n := by omega
      have hlz : ¬ ((k : Int) < (k : Int)) := by omega
      go_wp2
      go_ret
      exact ⟨_, rfl, .inl ⟨rfl, HMU.out⟩, HB.out⟩

/-- What skip leaves of a block's postings. -/
def SkipIn (po : List Pst) (d : Int) (t : Bool) (po' : List Pst) : Prop := (t = false ∧ (∀ i, i < po.length → (pAt po i).1 < d) ∧ po' = []) ∨ (t = true ∧ ∃ k, k < po.length ∧ (∀ i, i < k → (pAt po i).1 < d) ∧ d ≤ (pAt po k).1 ∧ po' = po.drop k)

set_option maxHeartbeats 4000000 in
set_option maxRecDepth 100000 in
theorem cBskip_any {w : World} {F : Nat → Prop} {b : Nat} {po : List Pst} {lf : Nm} {la P N r : Int} (h : CuRaw w F b po lf la P N r) (d : Int) (hpl : po.length ≤ 4096) :
    Calls Try.prog 68 #[at0 b, .int .i64 d] w fun e w' => ∃ t po', e = .returned (.bool t) ∧ SkipIn po d t po' ∧ CuRaw w' F b po' lf la P N r ∧ Kept (fun i => i = b) w w' := by
  obtain ⟨W1, hW1⟩ : ∃ W1, W1 = w.alloc (.cells #[.int .i64 d] 2) := ⟨_, rfl⟩
  have hb1 : Below w.heap.size w W1 := by rw [hW1]; exact (Below.refl _ w).alloc (Nat.le_refl _) _
  have hT1 : Blk W1 w.heap.size 2 #[.int .i64 d] := by rw [hW1]; exact Blk.new _ _ _
  obtain ⟨A, n, c, L, m, k, q1, q2⟩ := h.below hb1
  have hpn := q2.po.1.len
  have HIDX := Lib.hid (cIdx_any W1 A n c po q2.po.1 (by omega) w.heap.size d hT1)
  have HB1 := Lib.hid hb1
  have HQ1 := Lib.hid q1
  have HQ2 := Lib.hid q2
  have c0 := q1.cell 0
  simp only [List.getElem?_toArray, List.getElem?_cons_zero] at c0
  rw [hW1] at c0
  have HW1 := Lib.hid hW1
  have HPN := Lib.hid hpn
  have hcap := q2.cap
  clear h hb1 hT1 q1 q2 hW1 hpn hpl
  unfold at0
  go_enter Try.func68, Try.ntmps68
  go_wp2_with fail
  rw [← HW1.out]
  refine HIDX.out.mono ?_
  rintro e w2 ⟨r', rfl, hi, hb2⟩
  have HB2 := Lib.hid hb2
  have HQ12 := Lib.hid (HQ1.out.below hb2 HQ1.out.lt)
  have HQ22 := Lib.hid (HQ2.out.kept (Kept.below hb2))
  have y0 := HQ12.out.cell 0
  have z0 := HQ12.out.frozen 0
  simp only [List.getElem?_toArray, List.getElem?_cons_zero] at y0
  have HK2 := Lib.hid (cu_then (Kept.below (F := fun i => i = b) HB1.out) (Kept.below hb2))
  clear hb2 c0
  rcases hi with ⟨rfl, hall⟩ | ⟨K, rfl, hK, hless, hhere⟩
  · have HA := Lib.hid hall
    clear hall
    go_wp2
    go_ret
    obtain ⟨W3, hW3⟩ : ∃ W3, W3 = w2.setCell ⟨b, 0, none⟩ (.slice none 0 0) := ⟨_, rfl⟩
    have hk3 : Kept (fun i => i = b) w2 W3 := by rw [hW3]; exact cu_set (Kept.refl _ w2) 0 _
    have hb3 := HQ12.out.set_ 0 (.slice none 0 0)
    rw [← hW3] at hb3 ⊢
    have h3 := HQ22.out.kept hk3
    exact ⟨false, [], rfl, .inl ⟨rfl, by rw [HPN.out]; exact HA.out, rfl⟩, ⟨none, 0, 0, L, m, k, by simpa using hb3, ⟨PostsF.nil _ _, Nat.le_refl _, h3.lf, h3.room, h3.own, h3.low⟩⟩, cu_then HK2.out hk3⟩
  · have d1 : decide ((K : Int) < 0) = false := decide_eq_false (by omega)
    have HA := Lib.hid hless
    have HH := Lib.hid hhere
    have hsl := fun w => posts_from w A n c K (by omega)
    clear hless hhere
    go_wp2
    go_ret
    obtain ⟨W3, hW3⟩ : ∃ W3, W3 = w2.setCell ⟨b, 0, none⟩ (.slice (cutAddr2 A K c) (n - K) (c - K)) := ⟨_, rfl⟩
    have hk3 : Kept (fun i => i = b) w2 W3 := by rw [hW3]; exact cu_set (Kept.refl _ w2) 0 _
    have hb3 := HQ12.out.set_ 0 (.slice (cutAddr2 A K c) (n - K) (c - K))
    rw [← hW3] at hb3 ⊢
    have h3 := HQ22.out.kept hk3
    exact ⟨true, po.drop K, rfl, .inr ⟨rfl, K, by rw [HPN.out]; exact hK, HA.out, HH.out, rfl⟩, ⟨_, _, _, L, m, k, by simpa using hb3, ⟨h3.po.cut h3.cap (by omega), by omega, h3.lf, h3.room, h3.own, h3.low⟩⟩, cu_then HK2.out hk3⟩
end Go.Proofs.Ytkligdaademakaa
namespace Go.Proofs.Ytkligdaademakaa
open Go.RowKit Go.Maps Go.WideMaps
set_option linter.unusedSimpArgs false

/-- Within a round: the cursor, the part's variable, the sizes. -/
structure EnIn (w wr : World) (F : Nat → Prop) (b g : Nat) (po : List Pst) (lf : Nm) (la P N r : Int) (x y : Int) (A : Option Addr) (n : Nat) (L : List Int) : Prop where
  cu : CuRaw wr F b po lf la P N r
  part : Blk wr g 118 #[.int .i64 x, .int .i64 y]
  ints : IntsIn wr A n L
  far : ∀ ad, A = some ad → g < ad.block
  new : w.heap.size ≤ g
  near : ∀ i, F i → i < g
  kept : Kept (fun i => i = b) w wr
theorem ints_far {w w' : World} {A : Option Addr} {n : Nat} {L : List Int} (h : IntsIn w A n L) (hk : ∀ ad, A = some ad → w'.heap[ad.block]? = w.heap[ad.block]?) (hs : w.heap.size ≤ w'.heap.size) : IntsIn w' A n L :=
  ⟨h.1, h.2.1.keep fun ad e _ => hk ad e, h.2.2.1, fun ad e h0 => Nat.lt_of_lt_of_le (h.2.2.2 ad e h0) hs⟩
theorem EnIn.step {w wr w' : World} {F : Nat → Prop} {b g : Nat} {po : List Pst} {lf lf' : Nm} {la P N r la' P' : Int} {x y : Int} {A : Option Addr} {n : Nat} {L : List Int} (hn : 0 < n) (h : EnIn w wr F b g po lf la P N r x y A n L) (hc : CuRaw w' F b po lf' la' P' N r) (hk : Kept (fun i => i = b) wr w') : EnIn w w' F b g po lf' la' P' N r x y A n L where
  cu := hc
  part := h.part.kept hk (by have := h.near b h.cu.low.1; omega)
  ints := ints_far h.ints (fun ad e => hk.block _ (h.ints.2.2.2 ad e hn) (by have := h.near b h.cu.low.1; have := h.far ad e; omega)) hk.size
  far := h.far
  new := h.new
  near := h.near
  kept := cu_then h.kept hk
theorem EnIn.put {w wr : World} {F : Nat → Prop} {b g : Nat} {po : List Pst} {lf : Nm} {la P N r : Int} {x y : Int} {A : Option Addr} {n : Nat} {L : List Int} (h : EnIn w wr F b g po lf la P N r x y A n L) (x' y' : Int) : EnIn w ((wr.setCell ⟨g, 0, none⟩ (.int .i64 x')).setCell ⟨g, 1, none⟩ (.int .i64 y')) F b g po lf la P N r x' y' A n L where
  cu := h.cu.all (fun i hi => by have := h.near i hi; rw [heap_setCell_other _ _ _ (by simp only; omega), heap_setCell_other _ _ _ (by simp only; omega)]) (by rw [size_setCell', size_setCell']; exact Nat.le_refl _)
  part := by simpa using (h.part.set_ 0 (.int .i64 x')).set_ 1 (.int .i64 y')
  ints := ints_far h.ints (fun ad e => by have := h.far ad e; rw [heap_setCell_other _ _ _ (by simp only; omega), heap_setCell_other _ _ _ (by simp only; omega)]) (by rw [size_setCell', size_setCell']; exact Nat.le_refl _)
  far := h.far
  new := h.new
  near := h.near
  kept := (h.kept.setCell (p := ⟨g, 0, none⟩) (.inr h.new) _).setCell (p := ⟨g, 1, none⟩) (.inr h.new) _
/-- What is left when so many heads of a round have been read. -/
def leftJ (l : List Pst) (P : Nat) : Nat → Nm
  | 0 => restP l P
  | 1 => restI l P
  | _ => inB l P ++ restP l (P + 4)
/-- How many places the part has whose head is read next. -/
def mJ (j : Nat) : Nat := if j = 0 then 16 else 4
def partJ (l : List Pst) (P j : Nat) : Nm := if j = 0 then inG l P else inB l P
theorem leftJ_head {l : List Pst} {P j : Nat} (h : P < l.length) (hj : j < 2) (h0 : j = 0 → P % 16 = 0) : leftJ l P j = putL (gapP l P (mJ j)) ++ (putL (partJ l P j).length ++ leftJ l P (j + 1)) := by
  match j with
  | 0 => exact head_group h (h0 rfl)
  | 1 => exact head_block h
theorem leftJ_pass {l : List Pst} {P j : Nat} (h : P < l.length) (hj : j < 2) (h0 : j = 0 → P % 16 = 0) : leftJ l P (j + 1) = partJ l P j ++ restP l (P + mJ j) := by
  match j with
  | 0 => exact group_rest h (h0 rfl)
  | 1 => rfl
theorem partJ_len {l : List Pst} (hV : ValidP l) {P j : Nat} (h : P < l.length) : (partJ l P j).length < 2 ^ 40 := by
  have h1 := inG_len hV h
  have h2 := inB_len hV h
  unfold partJ
  split <;> omega
theorem mJ_in (j : Nat) : 0 < mJ j ∧ mJ j ≤ 16 ∧ mJ j % 4 = 0 := by
  unfold mJ
  split <;> omega
theorem BytesF.mono {w : World} {F G : Nat → Prop} {A : Option Addr} {n : Nat} {l : Nm} (h : BytesF w F A n l) (hk : ∀ i, F i → G i) : BytesF w G A n l := ⟨h.1, fun ad e h0 => hk _ (h.2 ad e h0)⟩
/-- Where enter has got to. -/
def EnterOut (w : World) (F : Nat → Prop) (b : Nat) (l : List Pst) (po : List Pst) (P0 r : Nat) (d : Int) (e : Ending) (w' : World) : Prop :=
  (e = .returned (.bool true) ∧ ∃ P F', P0 ≤ P ∧ P % 4 = 0 ∧ P < l.length ∧ (∀ i, P0 ≤ i → i < P → (pAt l i).1 < d) ∧ d ≤ lastD l (endP l P 4) ∧ CuRaw w' F' b (sl l P (endP l P 4)) (restP l (P + 4)) (lastD l (endP l P 4)) (P + 4 : Nat) l.length (r + 1 : Nat) ∧ Kept F w w' ∧ ∀ i, F' i → F i ∨ w.heap.size ≤ i) ∨
  (e = .returned (.bool false) ∧ ∃ P, l.length ≤ P ∧ P % 4 = 0 ∧ P ≤ l.length + 16 ∧ (∀ i, P0 ≤ i → i < l.length → (pAt l i).1 < d) ∧ CuRaw w' F b po (restP l P) (lastD l (min P l.length)) P l.length r ∧ Kept F w w')

set_option maxHeartbeats 16000000 in
set_option maxRecDepth 100000 in
theorem cEnter_any {w : World} {F : Nat → Prop} {b : Nat} {l po : List Pst} (hV : ValidP l) {P0 r : Nat} (h : CuRaw w F b po (restP l P0) (lastD l (min P0 l.length)) P0 l.length r) (h4 : P0 % 4 = 0) (h16 : P0 ≤ l.length + 16) (hr : r ≤ 10000) (d : Int) :
    Calls Try.prog 69 #[at0 b, .int .i64 d] w (EnterOut w F b l po P0 r d) := by
  obtain ⟨N, hN⟩ : ∃ N, N = l.length := ⟨_, rfl⟩
  have hN4 := hV.few
  rw [← hN] at hN4 h16
  have HV := Lib.hid hV
  have HH := Lib.hid h
  have HNN := Lib.hid hN
  clear h hV
  rw [← hN] at HH
  clear hN
  unfold at0
  go_enter Try.func69, Try.ntmps69
  go_wp2
  go_step3
  go_wp2
  go_step3
  go_wp2
  go_loopg [] (5000 - P0) (fun g wr => ∃ P : Nat, g = 5000 - P ∧ P0 ≤ P ∧ P % 4 = 0 ∧ P ≤ N + 16 ∧ (∀ i, P0 ≤ i → i < min P N → (pAt l i).1 < d) ∧ CuRaw wr F b po (restP l P) (lastD l (min P N)) P N r ∧ Kept (fun i => i = b) w wr)
  case atStart => exact ⟨P0, rfl, Nat.le_refl _, h4, h16, (fun i h1 h2 => by omega), HH.out, Kept.refl _ _⟩
  case round =>
    obtain ⟨P, hg, hP0, hP4, hP16, hless, hC, hK⟩ := hrel
    have HL := Lib.hid hless
    have HC := Lib.hid hC
    have HK := Lib.hid hK
    have hbl := hC.lt
    have hkz := hK.size
    obtain ⟨A0, n0, c0, L0, m0, k0, q1, q2⟩ := hC
    have c3 : ∀ q, (wr.drewN q).cell? ⟨b, 3, none⟩ = some (.int .i64 (P : Int)) := fun q => by simpa using (q1.drewN q).cell 3
    have c4 : ∀ q, (wr.drewN q).cell? ⟨b, 4, none⟩ = some (.int .i64 (N : Int)) := fun q => by simpa using (q1.drewN q).cell 4
    clear hless hK q1 q2
    by_cases hlt : P < N
    · have d1 : decide ((P : Int) < (N : Int)) = true := decide_eq_true (by omega)
      have p1 : (P : Int) < (N : Int) := by omega
      go_wp2
      go_quiet (fail)
      clear c3 c4
      obtain ⟨wo, hwo⟩ : ∃ wo, wo = (wr.drewN nq).alloc (.cells #[.int .i64 0, .int .i64 0] 118) := ⟨_, rfl⟩
      have hbo : Below wr.heap.size wr wo := by rw [hwo]; exact (below_drewN (Below.refl _ wr) nq).alloc (Nat.le_refl _) _
      have hT : Blk wo wr.heap.size 118 #[.int .i64 0, .int .i64 0] := by rw [hwo]; exact Blk.new (wr.drewN nq) _ _
      have hCo := HC.out.below hbo
      have hso : wr.heap.size < wo.heap.size := hT.lt
      have hbeg := cBegins_any hCo
      unfold at0 at hbeg
      have HWO := Lib.hid hwo
      have HBO := Lib.hid hbo
      have HT := Lib.hid hT
      have HBEG := Lib.hid hbeg
      clear hwo hbo hT hCo hbeg
      go_wp2_with fail
      rw [← HWO.out]
      refine HBEG.out.mono ?_
      rintro e w2 ⟨LA, n, LC, L, rfl, hI, hb2, hLL, hLf⟩
      obtain ⟨g, hgg⟩ : ∃ g, g = wr.heap.size := ⟨_, rfl⟩
      rw [← hgg] at HT hso hbl
      have hmin : min P N = P := by omega
      have hN0 : n = L.length := (IntsIn.len hI).symm
      obtain ⟨e0, he0⟩ : ∃ e0, e0 = 2 - n := ⟨_, rfl⟩
      have hn2 : (P % 16 = 0 → n = 2) ∧ (P % 16 ≠ 0 → n = 1) := by
        rw [hN0, hLL]
        constructor
        · intro h; rw [if_pos h]; rfl
        · intro h; rw [if_neg h]; rfl
      have hn3 : 0 < n ∧ n ≤ 2 := by
        by_cases h : P % 16 = 0
        · have := hn2.1 h; omega
        · have := hn2.2 h; omega
      have hLat : ∀ j, e0 ≤ j → j < 2 → L[j - e0]? = some (mJ j : Int) ∧ (j = 0 → P % 16 = 0) := by
        intro j h1 h2
        by_cases h : P % 16 = 0
        · have h3 := hn2.1 h
          rw [hLL, if_pos h]
          refine ⟨?_, fun _ => h⟩
          match j with
          | 0 => simp [mJ]
          | 1 => rw [he0, h3]; rfl
        · have h3 := hn2.2 h
          rw [hLL, if_neg h]
          have : j = 1 := by omega
          subst this
          exact ⟨by rw [he0, h3]; rfl, fun e => by omega⟩
      have hEn : EnIn w w2 F b g po (leftJ l P e0) (lastD l P) P N r 0 0 LA n L := {
        cu := by
          have h1 := (HC.out.below HBO.out).below hb2
          rw [hmin] at h1
          have h2 : leftJ l P e0 = restP l P := by
            by_cases h : P % 16 = 0
            · have h3 := hn2.1 h
              rw [he0, h3]; rfl
            · have h3 := hn2.2 h
              rw [he0, h3, rest_here (by rw [← HNN.out]; exact hlt) hP4 h]; rfl
          rw [h2]; exact h1
        part := HT.out.below hb2 hso
        ints := hI
        far := fun ad e => by have := hLf ad e; omega
        new := by rw [hgg]; exact hkz
        near := fun i hi => by rw [hgg]; exact HC.out.low.2 i hi
        kept := cu_then (cu_then HK.out (Kept.below HBO.out)) (Kept.below hb2) }
      have HEN := Lib.hid hEn
      have HLAT := Lib.hid hLat
      have hV := HV.out
      have hPl : P < l.length := by rw [← HNN.out]; exact hlt
      have hlaP := hV.last (i := P) (by omega)
      obtain ⟨la, hla⟩ : ∃ la, la = lastD l P := ⟨_, rfl⟩
      rw [← hla] at hlaP HEN
      have HLA := Lib.hid hla
      have HV := Lib.hid hV
      have HGK := Lib.hid hg
      have HGG := Lib.hid hgg
      have HPL := Lib.hid hPl
      clear hI hb2 hLL hLf hEn hLat hV hla hN0 hg hPl hmin hgg hso hbl hkz hn2
      obtain ⟨wx, hwx⟩ : ∃ z, z = wr := ⟨_, rfl⟩
      subst hwx
      go_wp2
      rw [← HGG.out]
      go_loopg [20] (2 - e0) (fun k i wi => ∃ (j : Nat) (x y : Int), e0 ≤ j ∧ j ≤ 2 ∧ k = 2 - j ∧ i = .int .i64 ((j - e0 : Nat) : Int) ∧ (j = 2 → x = lastD l (endP l P 4) ∧ y = ((inB l P).length : Int) ∧ d ≤ x) ∧ EnIn w wi F b g po (leftJ l P j) la P N r x y LA n L)
      case atStart => exact ⟨e0, 0, 0, Nat.le_refl _, by omega, rfl, by rw [Nat.sub_self]; rfl, (fun e => by omega), HEN.out⟩
      case round =>
        obtain ⟨j, x, y, hj1, hj2, hgk, rfl, hxy, hE⟩ := hrel
        obtain ⟨I, hI⟩ : ∃ I, I = j - e0 := ⟨_, rfl⟩
        rw [← hI]
        have HE := Lib.hid hE
        have HXY := Lib.hid hxy
        have hbg := hE.near b hE.cu.low.1
        obtain ⟨A, nA, cA, L1, m1, k1, q1, q2⟩ := hE.cu
        have HQ1 := Lib.hid q1
        have HQ2 := Lib.hid q2
        have HGI := Lib.hid hgk
        clear hE hxy q1 q2 hgk
        rcases Nat.lt_or_ge j 2 with hlt2 | hge2
        · obtain ⟨hL1, hj0⟩ := HLAT.out j hj1 hlt2
          rw [← hI] at hL1
          have hIn : I < n := by omega
          have hIn' : (I : Int) < (n : Int) := by omega
          have pI : (0 : Int) ≤ (I : Int) := by omega
          obtain ⟨pL, z, hpL, hz, a0, -, -⟩ := HE.out.ints.at I hIn
          obtain rfl := Option.some.inj (hL1.symm.trans hz)
          have hgap := gap_is HV.out HPL.out (mJ_in j).1
          have hhead := cHead_any HE.out.cu (u := gapP l P (mJ j)) (v := (partJ l P j).length) (rest := leftJ l P (j + 1)) hlaP.1 hlaP.2 hgap.2 (partJ_len HV.out HPL.out) (leftJ_head HPL.out hlt2 hj0) (t := lastD l (endP l P (mJ j))) (by rw [HLA.out]; exact hgap.1)
          unfold at0 at hhead
          have HHEAD := Lib.hid hhead
          have HPASS := Lib.hid (leftJ_pass HPL.out hlt2 hj0)
          have HMJ := Lib.hid (mJ_in j)
          have HLESS := Lib.hid (fun h => less_part HV.out (m := mJ j) (d := d) HPL.out (mJ_in j).1 h)
          have HJ0 := Lib.hid (show j = 1 → endP l P (mJ j) = endP l P 4 ∧ partJ l P j = inB l P from fun e => by subst e; exact ⟨rfl, rfl⟩)
          obtain ⟨t, ht⟩ : ∃ t, t = lastD l (endP l P (mJ j)) := ⟨_, rfl⟩
          rw [← ht] at HHEAD HLESS
          have HTT := Lib.hid ht
          obtain ⟨v, hv⟩ : ∃ v, v = (partJ l P j).length := ⟨_, rfl⟩
          rw [← hv] at HHEAD
          have HVV := Lib.hid hv
          obtain ⟨M, hM⟩ : ∃ M, M = mJ j := ⟨_, rfl⟩
          rw [← hM] at a0 HPASS HMJ HLESS HTT
          have HM := Lib.hid hM
          have HI := Lib.hid hI
          subst hpL
          have hw5 : IntKind.i64.wrap ((I : Int) + 1) = (I : Int) + 1 := IntWalk.i64_in _ (by omega)
          clear hL1 hz hgap hhead ht hv hj0 hM hI
          go_wp2_with fail
          refine HHEAD.out.mono ?_
          rintro e w3 ⟨rfl, hc3, hk3⟩
          have HE3 := Lib.hid (HE.out.step hn3.1 hc3 hk3)
          have y0 := HE3.out.part.cell 0
          have y1 := HE3.out.part.cell 1
          have z0 := HE3.out.part.frozen 0
          have z1 := HE3.out.part.frozen 1
          simp only [List.getElem?_toArray, List.getElem?_cons_zero, List.getElem?_cons_succ] at y0 y1
          obtain ⟨w4, hw4⟩ : ∃ w4, w4 = (w3.setCell ⟨g, 0, none⟩ (.int .i64 t)).setCell ⟨g, 1, none⟩ (.int .i64 v) := ⟨_, rfl⟩
          have HE4 := Lib.hid (HE3.out.put t v)
          rw [← hw4] at HE4
          have HW4 := Lib.hid hw4
          clear hc3 hk3 hw4 a0
          go_upto_region 7 with fail
          rw [← HW4.out]
          clear y0 y1 z0 z1
          have y0 := HE4.out.part.cell 0
          have y1 := HE4.out.part.cell 1
          simp only [List.getElem?_toArray, List.getElem?_cons_zero, List.getElem?_cons_succ] at y0 y1
          by_cases htd : t < d
          · have d2 : decide (t < d) = true := decide_eq_true htd
            have hvl : v ≤ (leftJ l P (j + 1)).length := by rw [HPASS.out, HVV.out, List.length_append]; omega
            have hdrop : (leftJ l P (j + 1)).drop v = restP l (P + M) := by rw [HPASS.out, HVV.out, List.drop_left]
            have hpass := cPass_any HE4.out.cu (t := t) (v := v) (mm := M) hvl (by omega) (by omega) (by omega) (by have := HMJ.out; omega)
            rw [hdrop] at hpass
            unfold at0 at hpass
            have HPA := Lib.hid hpass
            clear hvl hdrop hpass
            go_wp2_with fail
            refine HPA.out.mono ?_
            rintro e w5 ⟨rfl, hc5, hk5⟩
            have HC5 := Lib.hid hc5
            have HK5 := Lib.hid (cu_then HE4.out.kept hk5)
            clear hc5 hk5
            go_wp2
            go_roundg (5000 - (P + M))
            case rel =>
              have h1 := HMJ.out
              have h2 := HLESS.out htd
              have h3 := HNN.out
              refine ⟨P + M, rfl, by omega, by omega, by omega, fun i i1 i2 => h2 i (by unfold endP; omega), ?_, HK5.out⟩
              have h4 := HC5.out
              rw [show lastD l (min (P + M) N) = t by rw [HTT.out, h3, lastD_end]]
              simpa using h4
            all_goals (have := HMJ.out; have := HGK.out; omega)
          · have d2 : decide (t < d) = false := decide_eq_false htd
            go_wp2
            go_roundg (2 - (j + 1))
            case rel =>
              refine ⟨j + 1, t, v, by omega, by omega, rfl, by have := HI.out; go_num, fun e => ?_, HE4.out⟩
              obtain ⟨h1, h2⟩ := HJ0.out (by omega)
              refine ⟨by rw [HTT.out, HM.out, h1], by rw [HVV.out, h2], by omega⟩
            all_goals (have := HGI.out; omega)
        · have hj : j = 2 := by omega
          subst hj
          have hIn : I = n := by omega
          have hIl : ¬ ((I : Int) < (n : Int)) := by omega
          have dI : decide ((I : Int) < (n : Int)) = false := decide_eq_false (by omega)
          obtain ⟨hx, hy, hxd⟩ := HXY.out rfl
          obtain ⟨sz, hsz⟩ : ∃ sz, sz = (inB l P).length := ⟨_, rfl⟩
          rw [← hsz] at hy
          subst hy
          have hm1 : (leftJ l P 2).length = m1 := by have := HQ2.out.lf.1.2.1.len; simpa using this
          have hcat : leftJ l P 2 = inB l P ++ restP l (P + 4) := rfl
          have hsm : sz ≤ m1 := by rw [← hm1, hcat, List.length_append]; omega
          have hmk := HQ2.out.room
          have htk : (leftJ l P 2).take sz = inB l P := by rw [hcat, hsz, List.take_left]
          have hE4 : endP l P 4 ≤ l.length := by unfold endP; omega
          have hPE : P ≤ endP l P 4 := by have := HPL.out; unfold endP; omega
          obtain ⟨u0, hu0⟩ : ∃ u0, u0 = wr.drew := ⟨_, rfl⟩
          have hb0 : Below wr.heap.size wr u0 := by rw [hu0]; exact (Below.refl _ wr).drew
          have hby := (HQ2.out.lf.1.below hb0).upto sz hsm
          rw [htk] at hby
          have hread := cRead_any u0 L1 sz k1 HV.out hPE hE4 hby (by omega) (by omega) (d0 := la) HLA.out
          have HREAD := Lib.hid hread
          have hsl := fun w => slice_to w L1 m1 k1 sz (by omega)
          have x1 := HQ1.out.cell 1
          have x2 := HQ1.out.cell 2
          have x3 := HE.out.part.cell 1
          simp only [List.getElem?_toArray, List.getElem?_cons_zero, List.getElem?_cons_succ] at x1 x2 x3
          have HB0 := Lib.hid hb0
          have HU0 := Lib.hid hu0
          have HX := Lib.hid hx
          have HXD := Lib.hid hxd
          have HSZ := Lib.hid hsz
          have HCAT := Lib.hid hcat
          have HI := Lib.hid hI
          have hEx : ∀ (X : Value) (u : World), Blk u b 89 #[X, .slice L1 m1 k1, .int .i64 la, .int .i64 P, .int .i64 N, .int .i64 r] → u.cell? ⟨g, 1, none⟩ = some (.int .i64 (sz : Int)) → u.cell? ⟨b, 1, none⟩ = some (.slice L1 m1 k1) ∧ u.cell? ⟨g, 1, none⟩ = some (.int .i64 (sz : Int)) ∧ u.cell? ⟨b, 2, none⟩ = some (.int .i64 la) := fun X u h1 h2 => ⟨by simpa using h1.cell 1, h2, by simpa using h1.cell 2⟩
          have HEX := Lib.hid hEx
          clear hb0 hu0 hby htk hread hx hxd hm1 hsz hcat hI hEx hE4 hPE
          go_wp2_with fail
          refine wp_region_held_drew (S := fun w' => w'.cell? ⟨b, 1, none⟩ = some (.slice L1 m1 k1) ∧ w'.cell? ⟨g, 1, none⟩ = some (.int .i64 (sz : Int)) ∧ w'.cell? ⟨b, 2, none⟩ = some (.int .i64 la)) (by kernel_rfl) ?_ (fun hHeld => ?_)
          · exact ⟨x1, x3, x2⟩
          rw [← HU0.out] at hHeld ⊢
          refine wpAnyH_take (i := 0) (oi := ?oit0) (v := ?vt0) ?hit0 (by kernel_rfl) (by kernel_rfl) (by kernel_rfl) ?hQt0 (Or.inl ⟨?hwt0, ?hyt0⟩) (by assumption) ?restt0
          case hit0 => (first | (simp only [List.getElem?_toArray, List.getElem?_cons_zero, List.getElem?_cons_succ]; rfl) | rfl)
          case hQt0 => exact fun _ _ _ h => h
          case hwt0 => rfl
          case hyt0 => ((intro w hSw; obtain ⟨hS1, hS2, hS3⟩ := hSw; go_simp); first | done | with_reducible rfl)
          try simp only [Act.put, List.setIfInBounds_toArray, List.set_cons_zero, List.set_cons_succ]
          refine wpAnyH_take (i := 1) (oi := ?oit1) (v := ?vt1) ?hit1 (by kernel_rfl) (by kernel_rfl) (by kernel_rfl) ?hQt1 (Or.inl ⟨?hwt1, ?hyt1⟩) (by assumption) ?restt1
          case hit1 => (first | (simp only [List.getElem?_toArray, List.getElem?_cons_zero, List.getElem?_cons_succ]; rfl) | rfl)
          case hQt1 => exact fun _ _ _ h => h
          case hwt1 => rfl
          case hyt1 => ((intro w hSw; obtain ⟨hS1, hS2, hS3⟩ := hSw; go_simp); first | done | with_reducible rfl)
          try simp only [Act.put, List.setIfInBounds_toArray, List.set_cons_zero, List.set_cons_succ]
          refine wpAnyH_take (i := 2) (oi := ?oit2) (v := ?vt2) ?hit2 (by kernel_rfl) (by kernel_rfl) (by kernel_rfl) ?hQt2 (Or.inl ⟨?hwt2, ?hyt2⟩) (by assumption) ?restt2
          case hit2 => (first | (simp only [List.getElem?_toArray, List.getElem?_cons_zero, List.getElem?_cons_succ]; rfl) | rfl)
          case hQt2 => exact fun _ _ _ h => h
          case hwt2 => rfl
          case hyt2 => ((intro w hSw; obtain ⟨hS1, hS2, hS3⟩ := hSw; go_simp); first | done | with_reducible rfl)
          try simp only [Act.put, List.setIfInBounds_toArray, List.set_cons_zero, List.set_cons_succ]
          refine wpAnyH_take (i := 3) (oi := ?oit3) (v := ?vt3) ?hit3 (by kernel_rfl) (by kernel_rfl) (by kernel_rfl) ?hQt3 (Or.inl ⟨?hwt3, ?hyt3⟩) (by assumption) ?restt3
          case hit3 => (first | (simp only [List.getElem?_toArray, List.getElem?_cons_zero, List.getElem?_cons_succ]; rfl) | rfl)
          case hQt3 => exact fun _ _ _ h => h
          case hwt3 => rfl
          case hyt3 => ((intro w hSw; obtain ⟨hS1, hS2, hS3⟩ := hSw; go_simp); first | done | with_reducible rfl)
          try simp only [Act.put, List.setIfInBounds_toArray, List.set_cons_zero, List.set_cons_succ]
          refine wpAnyH_take (i := 4) (oi := ?oit4) (v := ?vt4) ?hit4 (by kernel_rfl) (by kernel_rfl) (by kernel_rfl) ?hQt4 (Or.inl ⟨?hwt4, ?hyt4⟩) (by assumption) ?restt4
          case hit4 => (first | (simp only [List.getElem?_toArray, List.getElem?_cons_zero, List.getElem?_cons_succ]; rfl) | rfl)
          case hQt4 => exact fun _ _ _ h => h
          case hwt4 => rfl
          case hyt4 => ((intro w hSw; obtain ⟨hS1, hS2, hS3⟩ := hSw; go_simp); first | done | with_reducible rfl)
          try simp only [Act.put, List.setIfInBounds_toArray, List.set_cons_zero, List.set_cons_succ]
          refine wpAnyH_take (i := 5) (oi := ?oit5) (v := ?vt5) ?hit5 (by kernel_rfl) (by kernel_rfl) (by kernel_rfl) ?hQt5 (Or.inl ⟨?hwt5, ?hyt5⟩) (by assumption) ?restt5
          case hit5 => (first | (simp only [List.getElem?_toArray, List.getElem?_cons_zero, List.getElem?_cons_succ]; rfl) | rfl)
          case hQt5 => exact fun _ _ _ h => h
          case hwt5 => rfl
          case hyt5 => ((intro w hSw; obtain ⟨hS1, hS2, hS3⟩ := hSw; go_simp); first | done | with_reducible rfl)
          try simp only [Act.put, List.setIfInBounds_toArray, List.set_cons_zero, List.set_cons_succ]
          refine wpAnyH_take (i := 6) (oi := ?oit6) (v := ?vt6) ?hit6 (by kernel_rfl) (by kernel_rfl) (by kernel_rfl) ?hQt6 (Or.inl ⟨?hwt6, ?hyt6⟩) (by assumption) ?restt6
          case hit6 => (first | (simp only [List.getElem?_toArray, List.getElem?_cons_zero, List.getElem?_cons_succ]; rfl) | rfl)
          case hQt6 => exact fun _ _ _ h => h
          case hwt6 => rfl
          case hyt6 => ((intro w hSw; obtain ⟨hS1, hS2, hS3⟩ := hSw; go_simp); first | done | with_reducible rfl)
          try simp only [Act.put, List.setIfInBounds_toArray, List.set_cons_zero, List.set_cons_succ]
          refine wpAnyH_take (i := 7) (oi := ?oit7) (v := ?vt7) ?hit7 (by kernel_rfl) (by kernel_rfl) (by kernel_rfl) ?hQt7 (Or.inl ⟨?hwt7, ?hyt7⟩) (by assumption) ?restt7
          case hit7 => (first | (simp only [List.getElem?_toArray, List.getElem?_cons_zero, List.getElem?_cons_succ]; rfl) | rfl)
          case hQt7 => exact fun _ _ _ h => h
          case hwt7 => rfl
          case hyt7 => ((intro w hSw; obtain ⟨hS1, hS2, hS3⟩ := hSw; go_simp); first | done | with_reducible rfl)
          try simp only [Act.put, List.setIfInBounds_toArray, List.set_cons_zero, List.set_cons_succ]
          refine wpAnyH_take (i := 8) (oi := ?oit8) (v := ?vt8) ?hit8 (by kernel_rfl) (by kernel_rfl) (by kernel_rfl) ?hQt8 (Or.inl ⟨?hwt8, ?hyt8⟩) (by assumption) ?restt8
          case hit8 => (first | (simp only [List.getElem?_toArray, List.getElem?_cons_zero, List.getElem?_cons_succ]; rfl) | rfl)
          case hQt8 => exact fun _ _ _ h => h
          case hwt8 => rfl
          case hyt8 => ((intro w hSw; obtain ⟨hS1, hS2, hS3⟩ := hSw; go_simp); first | done | with_reducible rfl)
          try simp only [Act.put, List.setIfInBounds_toArray, List.set_cons_zero, List.set_cons_succ]
          refine wpAnyH_take (i := 9) (oi := ?oit9) (v := ?vt9) ?hit9 (by kernel_rfl) (by kernel_rfl) (by kernel_rfl) ?hQt9 (Or.inl ⟨?hwt9, ?hyt9⟩) (by assumption) ?restt9
          case hit9 => (first | (simp only [List.getElem?_toArray, List.getElem?_cons_zero, List.getElem?_cons_succ]; rfl) | rfl)
          case hQt9 => exact fun _ _ _ h => h
          case hwt9 => rfl
          case hyt9 => ((intro w hSw; obtain ⟨hS1, hS2, hS3⟩ := hSw; go_simp); first | done | with_reducible rfl)
          try simp only [Act.put, List.setIfInBounds_toArray, List.set_cons_zero, List.set_cons_succ]
          refine wpAnyH_take (i := 10) (oi := ?oit10) (v := ?vt10) ?hit10 (by kernel_rfl) (by kernel_rfl) (by kernel_rfl) ?hQt10 (Or.inl ⟨?hwt10, ?hyt10⟩) (by assumption) ?restt10
          case hit10 => (first | (simp only [List.getElem?_toArray, List.getElem?_cons_zero, List.getElem?_cons_succ]; rfl) | rfl)
          case hQt10 => exact fun _ _ _ h => h
          case hwt10 => rfl
          case hyt10 => ((intro w hSw; obtain ⟨hS1, hS2, hS3⟩ := hSw; go_simp); first | done | with_reducible rfl)
          try simp only [Act.put, List.setIfInBounds_toArray, List.set_cons_zero, List.set_cons_succ]
          refine wpAnyH_take (i := 11) (oi := ?oit11) (v := ?vt11) ?hit11 (by kernel_rfl) (by kernel_rfl) (by kernel_rfl) ?hQt11 (Or.inl ⟨?hwt11, ?hyt11⟩) (by assumption) ?restt11
          case hit11 => (first | (simp only [List.getElem?_toArray, List.getElem?_cons_zero, List.getElem?_cons_succ]; rfl) | rfl)
          case hQt11 => exact fun _ _ _ h => h
          case hwt11 => rfl
          case hyt11 => ((intro w hSw; obtain ⟨hS1, hS2, hS3⟩ := hSw; go_simp); first | done | with_reducible rfl)
          try simp only [Act.put, List.setIfInBounds_toArray, List.set_cons_zero, List.set_cons_succ]
          refine wpAnyH_ready (rs := [12]) (by kernel_rfl) (by simp) ?_
          refine AllReadyH.cons (o := ?oc1) ?hcc1 ?stc1 AllReadyH.nil
          case hcc1 => (simp only [List.getElem?_toArray, List.getElem?_cons_zero, List.getElem?_cons_succ]; rfl)
          intro K hK
          go_simp
          refine HREAD.out.mono ?_
          rintro e u1 ⟨pv, rfl, hpo, hb1⟩
          have hb01 : Below wr.heap.size wr u1 := below_then HB0.out hb1 HB0.out.size
          have HBL := Lib.hid hb01
          have HPO := Lib.hid hpo
          have HBU := Lib.hid hb1
          have hq1 := HQ1.out.below hb01 HQ1.out.lt
          have hp1 := HE.out.part.below hb01 HE.out.part.lt
          have HQ11 := Lib.hid hq1
          have HP1 := Lib.hid hp1
          have hS1 := HEX.out _ u1 hq1 (by simpa using hp1.cell 1)
          obtain ⟨PA, PN, PC, hpv⟩ : ∃ A n c, pv = .slice A n c := by
            obtain ⟨_, _, h1, _⟩ := hpo
            obtain ⟨A, c, e⟩ := own_slice h1
            exact ⟨A, _, c, e⟩
          subst hpv
          clear hb1 hpo hb01 hq1 hp1
          go_wp2_with fail
          refine hK.out _ _ hS1 (fun _ => ?_)
          clear hK K
          refine wpAnyH_take (i := 13) (oi := ?oiu13) (v := ?vu13) ?hiu13 (by kernel_rfl) (by kernel_rfl) (by kernel_rfl) ?hQu13 (Or.inl ⟨?hwu13, ?hyu13⟩) (by assumption) ?restu13
          case hiu13 => (first | (simp only [List.getElem?_toArray, List.getElem?_cons_zero, List.getElem?_cons_succ]; rfl) | rfl)
          case hQu13 => exact fun _ _ _ h => h
          case hwu13 => rfl
          case hyu13 => ((intro w hSw; obtain ⟨hS1, hS2, hS3⟩ := hSw; go_simp); first | done | with_reducible rfl)
          try simp only [Act.put, List.setIfInBounds_toArray, List.set_cons_zero, List.set_cons_succ]
          refine wpAnyH_take (i := 14) (oi := ?oiu14) (v := ?vu14) ?hiu14 (by kernel_rfl) (by kernel_rfl) (by kernel_rfl) ?hQu14 (Or.inl ⟨?hwu14, ?hyu14⟩) (by assumption) ?restu14
          case hiu14 => (first | (simp only [List.getElem?_toArray, List.getElem?_cons_zero, List.getElem?_cons_succ]; rfl) | rfl)
          case hQu14 => exact fun _ _ _ h => h
          case hwu14 => rfl
          case hyu14 => ((intro w hSw; obtain ⟨hS1, hS2, hS3⟩ := hSw; go_simp); first | done | with_reducible rfl)
          try simp only [Act.put, List.setIfInBounds_toArray, List.set_cons_zero, List.set_cons_succ]
          refine wpAnyH_ready (rs := [15]) (by kernel_rfl) (by simp) ?_
          refine AllReadyH.cons (o := ?oc2) ?hcc2 ?stc2 AllReadyH.nil
          case hcc2 => (simp only [List.getElem?_toArray, List.getElem?_cons_zero, List.getElem?_cons_succ]; rfl)
          intro K hK
          have y0 := HQ11.out.cell 0
          have z0 := HQ11.out.frozen 0
          simp only [List.getElem?_toArray, List.getElem?_cons_zero, List.getElem?_cons_succ] at y0
          go_simp
          clear y0 z0
          obtain ⟨u2, hu2⟩ : ∃ u2, u2 = u1.setCell ⟨b, 0, none⟩ (.slice PA PN PC) := ⟨_, rfl⟩
          rw [← hu2]
          have hq2 : Blk u2 b 89 #[.slice PA PN PC, .slice L1 m1 k1, .int .i64 la, .int .i64 P, .int .i64 N, .int .i64 r] := by rw [hu2]; simpa using HQ11.out.set_ 0 (.slice PA PN PC)
          have hp2 : Blk u2 g 118 #[.int .i64 x, .int .i64 sz] := by rw [hu2]; exact HP1.out.far (by simp only; omega) _
          have HQ12 := Lib.hid hq2
          have HP2 := Lib.hid hp2
          have hS2 := HEX.out _ u2 hq2 (by simpa using hp2.cell 1)
          have HU2 := Lib.hid hu2
          clear hq2 hp2 hu2
          refine hK.out _ _ hS2 (fun _ => ?_)
          clear hK K
          refine wpAnyH_done (by kernel_rfl) ?_ _
          clear x1 x2 x3 hS1 hS2
          have y5 := HQ12.out.cell 5
          have z5 := HQ12.out.frozen 5
          have x0 := HP2.out.cell 0
          have x1 := HP2.out.cell 1
          simp only [List.getElem?_toArray, List.getElem?_cons_zero, List.getElem?_cons_succ] at y5 x0 x1
          have hwr : IntKind.i64.wrap ((r : Int) + 1) = (r : Int) + 1 := IntWalk.i64_in _ (by omega)
          obtain ⟨u3, hu3⟩ : ∃ u3, u3 = u2.setCell ⟨b, 5, none⟩ (.int .i64 ((r : Int) + 1)) := ⟨_, rfl⟩
          have hq3 : Blk u3 b 89 #[.slice PA PN PC, .slice L1 m1 k1, .int .i64 la, .int .i64 P, .int .i64 N, .int .i64 ((r : Int) + 1)] := by rw [hu3]; simpa using HQ12.out.set_ 5 (.int .i64 ((r : Int) + 1))
          have hk13 : Kept (fun i => i = b) u1 u3 := by rw [hu3, HU2.out]; exact cu_set (cu_set (Kept.refl _ u1) 0 _) 5 _
          have hseF : PostsF u1 (fun i => u0.heap.size ≤ i ∧ i < u1.heap.size) PA PN (sl l P (endP l P 4)) := by
            have h1 := HPO.out
            have hlen : (sl l P (endP l P 4)).length = PN := by
              obtain ⟨_, _, h2, _⟩ := h1
              obtain ⟨_, _, e⟩ := own_slice h2
              simp only [Value.slice.injEq] at e
              exact e.2.1.symm
            exact h1.seeF hlen (by have h2 := sl_len (l := l) (x := P) (y := endP l P 4) (by unfold endP; omega); have h3 : endP l P 4 - P ≤ 4 := (by unfold endP; omega); rw [hlen] at h2; unfold maxLen; omega)
          have hbu : b < u0.heap.size := by have h1 := HQ1.out.lt; have h2 := HB0.out.size; omega
          have hcap : PN ≤ PC := by
            obtain ⟨_, _, h2, _⟩ := HPO.out
            obtain ⟨_, _, e⟩ := own_slice h2
            simp only [Value.slice.injEq] at e
            rw [e.2.1]
            rw [e.2.1] at h2
            exact rowCap_le h2
          have hci1 : CuIn u1 (fun i => F i ∨ (u0.heap.size ≤ i ∧ i < u1.heap.size)) b PA PN PC L1 m1 k1 (sl l P (endP l P 4)) (leftJ l P 2) := {
            po := hseF.mono fun i hi => ⟨.inr hi, by omega⟩
            cap := hcap
            lf := ((HQ2.out.lf.keep (fun i hi => HBL.out.block i (HQ2.out.low i hi.1)) HBL.out.size).mono fun i hi => ⟨.inl hi.1, hi.2⟩)
            room := HQ2.out.room
            own := .inl HQ2.out.own
            low := fun i hi => hi.elim (fun h => Nat.lt_of_lt_of_le (HQ2.out.low i h) HBL.out.size) (fun h => h.2) }
          have hcu3 : CuRaw u3 (fun i => F i ∨ (u0.heap.size ≤ i ∧ i < u1.heap.size)) b (sl l P (endP l P 4)) (leftJ l P 2) la P N ((r : Int) + 1) := ⟨_, _, _, _, _, _, hq3, hci1.kept hk13⟩
          have hpass := cPass_any hcu3 (t := x) (v := sz) (mm := 4) (by rw [HCAT.out, HSZ.out, List.length_append]; omega) (by omega) (by omega) (by omega) (by omega)
          rw [show (leftJ l P 2).drop sz = restP l (P + 4) by rw [HCAT.out, HSZ.out, List.drop_left]] at hpass
          unfold at0 at hpass
          have HPASS := Lib.hid hpass
          have HU3 := Lib.hid hu3
          have HK13 := Lib.hid hk13
          have hbu0 := HB0.out.size
          clear hq3 hk13 hseF hcap hci1 hcu3 hpass hu3
          go_wp2_with fail
          rw [← HU3.out]
          refine HPASS.out.mono ?_
          rintro e u4 ⟨rfl, hc4, hk4⟩
          have HC4 := Lib.hid hc4
          have HK4 := Lib.hid (cu_then HK13.out hk4)
          clear hc4 hk4
          go_wp2
          try rw [Exit.noGoto_ret]
          go_ret
          have hNl := HNN.out
          have hxx := HX.out
          refine .inl ⟨rfl, P, (fun i => F i ∨ (u0.heap.size ≤ i ∧ i < u1.heap.size)), hP0, hP4, by omega, fun i h1 h2 => HL.out i h1 (by omega), by rw [← hxx]; exact HXD.out, ?_, ?_, ?_⟩
          · have h1 := HC4.out
            rw [hxx] at h1
            rw [← hNl]
            push_cast
            exact h1
          · exact (cu_then (cu_then HE.out.kept (Kept.below HBL.out)) HK4.out).mono (fun i e => by subst e; exact HQ2.out.own)
          · intro i hi
            rcases hi with h1 | ⟨h1, _⟩
            · exact .inl h1
            · right
              have := HE.out.kept.size
              omega
    · have d1 : decide ((P : Int) < (N : Int)) = false := decide_eq_false (by omega)
      have p1 : ¬ ((P : Int) < (N : Int)) := by omega
      go_wp2
      go_quiet (fail)
      go_wp2
      try rw [Exit.noGoto_ret]
      go_ret
      have hC2 := HC.out.below (below_drewN (Below.refl _ wr) nq)
      refine .inr ⟨rfl, P, by rw [← HNN.out]; omega, hP4, by rw [← HNN.out]; omega, fun i h1 h2 => HL.out i h1 (by have := HNN.out; omega), ?_, (cu_then HK.out (Kept.below (below_drewN (Below.refl _ wr) nq))).mono (fun i e => by subst e; exact HC.out.low.1)⟩
      rw [← HNN.out]
      exact hC2
end Go.Proofs.Ytkligdaademakaa
