/- Bytes of postings from a place on: what a head says, what stands behind it; where a Skip gets to. -/
import Derived.Test.YthmjanhdjchdbaaQMath
import Derived.Test.YthmjanhdjchdbaaCuMath
namespace Go.Proofs.Ythmjanhdjchdbaa

/-- All bytes from a place on. -/
def restP (l : List Pst) (P : Nat) : List UInt8 := cat (lin l) P (l.length - P)
/-- Where a part of so many places ends. -/
def endP (l : List Pst) (P m : Nat) : Nat := min l.length (P + m)
/-- A block's bytes, behind its head. -/
def inB (l : List Pst) (P : Nat) : List UInt8 := cat (unitB l) P (endP l P 4 - P)
/-- A group's bytes, behind its head. -/
def inG (l : List Pst) (P : Nat) : List UInt8 := cat (linB l) P (endP l P 16 - P)
/-- All bytes from a block on, behind its group's head. -/
def restI (l : List Pst) (P : Nat) : List UInt8 := blockB l P ++ (inB l P ++ restP l (P + 4))

theorem rest_none {l : List Pst} {P : Nat} (h : l.length ≤ P) : restP l P = [] := by
  unfold restP
  rw [show l.length - P = 0 by omega]
  rfl
theorem rest_cut {l : List Pst} {P m : Nat} (h : P < l.length) : restP l P = cat (lin l) P (endP l P m - P) ++ restP l (P + m) := by
  unfold restP endP
  rcases Nat.lt_or_ge l.length (P + m) with h1 | h1
  · rw [show l.length - (P + m) = 0 by omega, show min l.length (P + m) - P = l.length - P by omega]
    simp [cat]
  · have := cat_add (lin l) P m (l.length - (P + m))
    rw [show m + (l.length - (P + m)) = l.length - P by omega] at this
    rw [show min l.length (P + m) - P = m by omega]
    exact this
theorem rest_split {l : List Pst} {P : Nat} (h : P < l.length) (h4 : P % 4 = 0) : restP l P = (if P % 16 = 0 then groupB l P else []) ++ restI l P := by
  rw [rest_cut (m := 4) h]
  unfold restI
  rw [← List.append_assoc (blockB l P), ← List.append_assoc (if P % 16 = 0 then groupB l P else [])]
  congr 1
  have hk : 0 < endP l P 4 - P := by unfold endP; omega
  have hk4 : endP l P 4 - P ≤ 4 := by unfold endP; omega
  unfold inB
  rw [← cat_block l h4 hk hk4]
  obtain ⟨k, hk'⟩ : ∃ k, endP l P 4 - P = k + 1 := ⟨endP l P 4 - P - 1, by omega⟩
  rw [hk', cat_cons, cat_cons, lin, List.append_assoc]
  congr 2
  exact cat_congr fun j h1 h2 => by rw [lin, if_neg (by omega)]; rfl
theorem group_rest {l : List Pst} {P : Nat} (h : P < l.length) (h16 : P % 16 = 0) : restI l P = inG l P ++ restP l (P + 16) := by
  have h1 := rest_split h (by omega)
  rw [if_pos h16, rest_cut (m := 16) h] at h1
  have hk : 0 < endP l P 16 - P := by unfold endP; omega
  have hk4 : endP l P 16 - P ≤ 16 := by unfold endP; omega
  rw [cat_group l h16 hk hk4, List.append_assoc] at h1
  exact (List.append_cancel_left h1).symm

/-- How far a part's last Doc is, as its head says. -/
def gapP (l : List Pst) (P m : Nat) : Nat := (lastD l (endP l P m) - lastD l P - 1).toNat
theorem last_end {l : List Pst} {P m : Nat} (h : P < l.length) (hm : 0 < m) : lastD l (endP l P m) = (pAt l (endP l P m - 1)).1 := by
  unfold lastD
  rw [if_neg (by unfold endP; omega)]
theorem last_mono {l : List Pst} (hV : ValidP l) {P E : Nat} (h1 : P < E) (h2 : E ≤ l.length) : lastD l P < lastD l E := by
  have h3 := hV.up P (by omega)
  have h4 := docs_mono hV (show P ≤ E - 1 by omega) (by omega)
  rw [show lastD l E = (pAt l (E - 1)).1 by unfold lastD; rw [if_neg (by omega)]]
  omega
theorem gap_is {l : List Pst} (hV : ValidP l) {P m : Nat} (h : P < l.length) (hm : 0 < m) : lastD l P + 1 + (gapP l P m : Int) = lastD l (endP l P m) ∧ gapP l P m < 2 ^ 40 := by
  have h1 := last_mono hV (P := P) (E := endP l P m) (by unfold endP; omega) (by unfold endP; omega)
  have h2 := hV.last (i := P) (by omega)
  have h3 := hV.last (i := endP l P m) (by unfold endP; omega)
  unfold gapP
  omega
theorem head_group {l : List Pst} {P : Nat} (h : P < l.length) (h16 : P % 16 = 0) : restP l P = putL (gapP l P 16) ++ (putL (inG l P).length ++ restI l P) := by
  rw [rest_split h (by omega), if_pos h16]
  unfold groupB headB gapP
  rw [last_end h (by omega), List.append_assoc]
  rfl
theorem head_block {l : List Pst} {P : Nat} (h : P < l.length) : restI l P = putL (gapP l P 4) ++ (putL (inB l P).length ++ (inB l P ++ restP l (P + 4))) := by
  unfold restI blockB headB gapP
  rw [last_end h (by omega), List.append_assoc]
  rfl
theorem rest_here {l : List Pst} {P : Nat} (h : P < l.length) (h4 : P % 4 = 0) (h16 : P % 16 ≠ 0) : restP l P = restI l P := by
  rw [rest_split h h4, if_neg h16]
  rfl
theorem inB_len {l : List Pst} (hV : ValidP l) {P : Nat} (h : P < l.length) : (inB l P).length ≤ 360000 := by
  have := units_len hV (i := P) (k := endP l P 4 - P) (by unfold endP; omega)
  unfold inB
  have h2 : endP l P 4 - P ≤ 4 := by unfold endP; omega
  omega
theorem inG_len {l : List Pst} (hV : ValidP l) {P : Nat} (h : P < l.length) : (inG l P).length ≤ 1440320 := by
  have := linBs_len hV (i := P) (k := endP l P 16 - P) (by unfold endP; omega)
  unfold inG
  have h2 : endP l P 16 - P ≤ 16 := by unfold endP; omega
  omega
theorem lastD_end (l : List Pst) (P m : Nat) : lastD l (min (P + m) l.length) = lastD l (endP l P m) := by unfold endP; rw [Nat.min_comm]
/-- Behind a part that ends ahead of d all places ahead are. -/
theorem less_part {l : List Pst} (hV : ValidP l) {P m : Nat} {d : Int} (h : P < l.length) (hm : 0 < m) (hd : lastD l (endP l P m) < d) : ∀ i, i < endP l P m → (pAt l i).1 < d := fun i hi => by
  rw [last_end h hm] at hd
  have := docs_mono hV (show i ≤ endP l P m - 1 by omega) (by unfold endP; omega)
  omega
/-- Of a block's places, the first one's number at which the Doc is d or greater, or as many as there are. -/
def idxFrom (l : List Pst) (d : Int) : Nat → Nat → Nat
  | 0, _ => 0
  | k + 1, a => if (pAt l a).1 < d then idxFrom l d k (a + 1) + 1 else 0

theorem pAt_sl {l : List Pst} {x y i : Nat} (h : i < y - x) : pAt (sl l x y) i = pAt l (x + i) := by
  unfold sl
  rw [pAt_take h, pAt_drop]
theorem sl_len {l : List Pst} {x y : Nat} (h : y ≤ l.length) : (sl l x y).length = y - x := by
  unfold sl
  rw [List.length_take, List.length_drop]
  omega
theorem sl_drop {l : List Pst} {x y k : Nat} : (sl l x y).drop k = sl l (x + k) y := by
  unfold sl
  rw [List.drop_take, List.drop_drop, show y - x - k = y - (x + k) by omega]
theorem putL_get {v : Nat} (h : v < 2 ^ 64) (r : List UInt8) : getL (putL v ++ r) = (v, (putL v).length, 0) := getL_put h r
end Go.Proofs.Ythmjanhdjchdbaa
