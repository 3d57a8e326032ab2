/- The bytes of a pair's tokens. -/
import Derived.Test.YtimbimnbaoaboaaVGrow2
import Derived.StillTailTactics
namespace Go.Proofs.Ytimbimnbaoaboaa
open Go.RowKit Go.Maps Go.WideMaps

/-- A token of a growing vocabulary, as it lies. -/
theorem IsGrow.tok {w : World} {F : Nat → Prop} {b : Nat} {V : Voc} {tv mv : Value} {bt bp : Nat} {svs : List Value} {DT DP : DataW Unit} (h : IsGrow w F b V tv mv bt bp svs DT DP) {i : Nat} {x : Nm} (hx : V.tok[i]? = some x) :
    ∃ ad n c A k, tv = .slice (some ad) n c ∧ i < n ∧ w.cell? (ad.add i) = some (.slice A x.length k) ∧ x.length ≤ k ∧ BytesIn w A x.length x := by
  obtain ⟨A0, c0, e0⟩ := own_slice h.trow
  have hi := (List.getElem?_eq_some_iff.1 hx).1
  have hl : svs.length = V.tok.length := by have := h.trow.1; simpa using this
  have hs : svs[i]? = some (svs[i]'(by omega)) := List.getElem?_eq_getElem _
  obtain ⟨A, k, h1, h2, h3, _⟩ := h.toks i _ x hs hx
  have ht := h.trow
  rw [e0] at ht
  have hsrc := src_of_own ht
  cases A0 with
  | none => have := hsrc.nil rfl; omega
  | some ad =>
    have := hsrc.cells ad rfl i _ hs
    rw [h1] at this
    exact ⟨ad, _, _, A, k, e0, hi, this, h2, h3⟩

set_option maxHeartbeats 8000000 in
set_option maxRecDepth 100000 in
theorem joined_any (w : World) (F : Nat → Prop) (b : Nat) (V : Voc) (hG : Grow w F b V) (i j : Nat) (x y : Nm) (hx : V.tok[i]? = some x) (hy : V.tok[j]? = some y) (h0 : 0 < x.length + y.length) (hxl : x.length ≤ 1048576) (hyl : y.length ≤ 1048576) :
    Calls Try.prog 47 #[at0 b, .agg #[.int .i64 i, .int .i64 j]] w fun e w' => ∃ v, e = .returned v ∧ w'.ownsRow w.heap.size 5 1 v (x.length + y.length) ((x ++ y).map byteV) ∧ Below w.heap.size w w' := by
  obtain ⟨tv, mv, bt, bp, svs, DT, DP, h⟩ := hG
  obtain ⟨ad, n, c, A, k, rfl, hi, ei, hk, hA⟩ := h.tok hx
  obtain ⟨_, _, _, B, k2, e2, hj, ej, hk2, hB⟩ := h.tok hy
  cases e2
  have HBK := Lib.hid h.blk
  have b1 : Below w.heap.size w (w.alloc (.cells #[.int .i64 i, .int .i64 j] 49)) := (Below.refl _ w).alloc (Nat.le_refl _) _
  obtain ⟨W1, hW1⟩ : ∃ W1, W1 = w.alloc (.cells #[.int .i64 i, .int .i64 j] 49) := ⟨_, rfl⟩
  have hpb : Blk W1 w.heap.size 49 #[.int .i64 i, .int .i64 j] := by rw [hW1]; exact Blk.new _ _ _
  rw [← hW1] at b1
  have HB1 := Lib.hid b1
  have HA := Lib.hid (hA.below b1)
  have HB := Lib.hid (hB.below b1)
  have g0 : W1.cell? ⟨b, 0, none⟩ = some (.slice (some ad) n c) := by
    have := (HBK.out.below b1 HBK.out.lt).cell 0
    simpa using this
  have g1 : W1.cell? ⟨w.heap.size, 0, none⟩ = some (.int .i64 i) := by
    have := hpb.cell 0
    simpa using this
  have g2 : W1.cell? ⟨w.heap.size, 1, none⟩ = some (.int .i64 j) := by
    have := hpb.cell 1
    simpa using this
  have g3 : W1.cell? (ad.add i) = some (.slice A x.length k) := (b1.cell (World.block_lt_of_cell? w _ ei)).trans ei
  have g4 : W1.cell? (ad.add j) = some (.slice B y.length k2) := (b1.cell (World.block_lt_of_cell? w _ ej)).trans ej
  have hiz : (i : Int) < (n : Int) := by omega
  have hjz : (j : Int) < (n : Int) := by omega
  have hi0 : (0 : Int) ≤ (i : Int) := by omega
  have hj0 : (0 : Int) ≤ (j : Int) := by omega
  clear h ei ej hA hB b1 hpb hx hy
  have HW := Lib.hid hW1
  clear hW1
  unfold at0
  go_enter Try.func47, Try.ntmps47
  go_wp2_with fail
  rw [← HW.out]
  go_still_tail 18, (by kernel_rfl)
  change wpList _ _ _ _ _ W1.drew
  have hs1 : W1.heap.size = w.heap.size + 1 := by rw [HW.out]; simp
  obtain ⟨W2, hW2⟩ : ∃ W2, W2 = (W1.alloc (.cells #[.slice A x.length k, .slice B y.length k2] 23)).drew := ⟨_, rfl⟩
  have hb2 : Below w.heap.size w W2 := by rw [hW2]; exact (HB1.out.alloc (by omega) _).drew
  have hn : Blk W2 (w.heap.size + 1) 23 #[.slice A x.length k, .slice B y.length k2] := by rw [hW2, ← hs1]; exact Blk.new W1 _ _
  have hbd : Below W1.heap.size W1 W2 := by rw [hW2]; exact ((Below.refl _ W1).alloc (Nat.le_refl _) _).drew
  have HW2 := Lib.hid hW2
  have HN := Lib.hid hn
  have HA2 := Lib.hid (HA.out.below hbd)
  have HB2 := Lib.hid (HB.out.below hbd)
  have HBB := Lib.hid hb2
  clear hW2 hbd
  clear g0 g1 g2 g3 g4 hn hb2 HA HB HB1
  go_wp2_with fail
  rw [← HW2.out]
  refine (concat_any W2 (w.heap.size + 1) A B x.length y.length k k2 x y HN.out HA2.out HB2.out h0 hxl hyl).mono ?_
  rintro e w2 ⟨v, rfl, hown, hb⟩
  have HO := Lib.hid (Go.Joins.ownsRow_le hown HBB.out.size)
  have HF := Lib.hid (below_then HBB.out hb HBB.out.size)
  clear hown hb hs1
  go_wp2
  go_ret
  exact ⟨_, rfl, HO.out, HF.out⟩

end Go.Proofs.Ytimbimnbaoaboaa
