/- The contract of the document's Starts. -/
import Derived.Test.YtimbimnbaoaboaaEDec
namespace Go.Proofs.Ytimbimnbaoaboaa
open Go.RowKit Go.Maps Go.WideMaps
set_option linter.unusedSimpArgs false

/-- The two ways to gather the text agree. -/
theorem decUp_text {L : List Nm} {l : List Int} : ∀ k, k ≤ l.length → ((textUp L l k).length ≤ 4096 → decUp L l k = textUp L l k) ∧ (4096 < (textUp L l k).length → 4096 < (decUp L l k).length)
  | 0, _ => ⟨fun _ => rfl, fun h => by simp [textUp] at h⟩
  | k + 1, hk => by
    obtain ⟨h1, h2⟩ := decUp_text (L := L) (l := l) k (by omega)
    have hm : (textUp L l k).length ≤ (textUp L l (k + 1)).length := textUp_mono L l (Nat.le_succ k)
    constructor
    · intro h
      have e := h1 (by omega)
      rw [decUp, textUp, e, if_pos (by omega)]
    · intro h
      rcases Nat.lt_or_ge 4096 (textUp L l k).length with h3 | h3
      · have := h2 h3
        rw [decUp, if_neg (by omega)]
        exact this
      · have e := h1 h3
        rw [decUp, e, if_pos h3]
        rw [textUp] at h
        exact h
theorem decB_is (L : List Nm) (l : List Int) : (decB L l).1 = decR L l ∧ ((decB L l).2 : Int) = walkE L l := by
  obtain ⟨h1, h2⟩ := decUp_text (L := L) (l := l) l.length (Nat.le_refl _)
  by_cases ha : ∀ i ∈ l, tokIn L i
  · have hw : walkE L l = if 4096 < (decT L l).length then 2 else 0 := by unfold walkE; rw [if_pos ha]
    rcases Nat.lt_or_ge 4096 (textUp L l l.length).length with h3 | h3
    · rw [if_pos (show 4096 < (decT L l).length from h3)] at hw
      have hd : decB L l = ([], 2) := by unfold decB; rw [if_pos ha, if_pos (h2 h3)]
      rw [hd, hw]
      unfold decR
      rw [if_neg (by rw [hw]; omega)]
      exact ⟨rfl, rfl⟩
    · have e := h1 h3
      rw [if_neg (show ¬ 4096 < (decT L l).length by unfold decT; omega)] at hw
      have hd : decB L l = (decT L l, 0) := by unfold decB; rw [if_pos ha, e, if_neg (by omega)]; rfl
      rw [hd, hw]
      unfold decR
      rw [if_pos hw]
      exact ⟨rfl, rfl⟩
  · have hw : walkE L l = 1 := by unfold walkE; rw [if_neg ha]
    have hd : decB L l = ([], 1) := by unfold decB; rw [if_neg ha]
    rw [hd, hw]
    unfold decR
    rw [if_neg (by rw [hw]; omega)]
    exact ⟨rfl, rfl⟩
theorem decT_le0 {L : List Nm} {l : List Int} (h : walkE L l = 0) : (decT L l).length ≤ 4096 := by
  unfold walkE at h
  split at h
  · split at h
    · omega
    · omega
  · omega
theorem vocab_cellsO {w : World} {A B : Option Addr} {n m ca cb : Nat} (g : Nat) (h : Blk w g 29 #[.slice A n ca, .slice B m cb]) : w.cell? ⟨g, 0, none⟩ = some (.slice A n ca) ∧ w.cell? ⟨g, 1, none⟩ = some (.slice B m cb) := by
  have h0 := h.cell 0
  have h1 := h.cell 1
  exact ⟨h0, h1⟩
set_option maxHeartbeats 8000000 in
set_option maxRecDepth 100000 in
theorem r6Starts_any (w : World) (A B C : Option Addr) (n m ca cb p cc : Nat) (V : Voc) (l : List Int) (hV : VocSee w A B n m ca cb V) (hl : IntsIn w C p l) (hF : ∀ x ∈ V.tok, x.length ≤ 4096) (hp : p ≤ 1099511627776) :
    Calls Try.prog 17 #[.agg #[.slice A n ca, .slice B m cb], .slice C p cc] w (ListOut w (startsR V.tok l) (walkE V.tok l)) := by
  have HV := Lib.hid hV
  have HL := Lib.hid hl
  have HLL := Lib.hid hl.len
  have hp63 : p ≤ 9223372036854775807 := hl.1
  have hn63 : n ≤ 9223372036854775807 := hV.tok.fit
  have HFt : Hid (Fits V.tok) := Lib.hid fun x hx => by have := hF x hx; omega
  have HF := Lib.hid hF
  have HTL := Lib.hid hV.tok.len
  obtain ⟨W, hW⟩ : ∃ W, W = w.alloc (.cells #[.slice A n ca, .slice B m cb] 29) := ⟨_, rfl⟩
  have hb0 : Below w.heap.size w W := by rw [hW]; exact (Below.refl _ w).alloc (Nat.le_refl _) _
  have hbl : Blk W w.heap.size 29 #[.slice A n ca, .slice B m cb] := by rw [hW]; exact Blk.new _ _ _
  have HW := Lib.hid hW
  have HB0 := Lib.hid hb0
  have HBL := Lib.hid hbl
  obtain ⟨R, hR⟩ : ∃ R, R = walkE V.tok l := ⟨_, rfl⟩
  obtain ⟨T, hT⟩ : ∃ T, T = startsR V.tok l := ⟨_, rfl⟩
  rw [← hR, ← hT]
  have HR := Lib.hid hR
  have HT := Lib.hid hT
  have hD := r6Decode_any W A B C n m ca cb p cc V l (hV.below hb0) (hl.below hb0) HFt.out
  unfold vocV at hD
  have HD := Lib.hid hD
  have HDI := Lib.hid (decB_is V.tok l)
  clear hV hl hF hW hb0 hbl hR hT hD
  go_enter Try.func17, Try.ntmps17
  go_wp2_with fail
  rw [← HW.out]
  refine HD.out.mono ?_
  rintro e w1 ⟨v, rfl, ho, hb⟩
  rw [HDI.out.2, ← HR.out]
  obtain ⟨vA, vc, rfl⟩ := own_slice ho
  have HB1 := Lib.hid (below_then HB0.out hb HB0.out.size)
  have HBL1 := Lib.hid (HBL.out.below hb HBL.out.lt)
  clear ho hb
  by_cases hr : R = 0
  · subst hr
    have hTT : T = startsUp V.tok l p := by rw [HT.out]; unfold startsR; rw [if_pos HR.out.symm, HLL.out]
    have hT4 : ∀ j, j ≤ p → (textUp V.tok l j).length ≤ 4096 := fun j hj => by
      have h1 := textUp_mono V.tok l (a := j) (b := l.length) (by rw [HLL.out]; exact hj)
      have h2 := decT_le0 HR.out.symm
      unfold decT at h2
      omega
    have hin : ∀ i ∈ l, tokIn V.tok i := by
      have h := HR.out.symm
      unfold walkE at h
      split at h
      · assumption
      · omega
    have HTT := Lib.hid hTT
    have HT4 := Lib.hid hT4
    have HIN := Lib.hid hin
    clear hTT hT4 hin
    go_wp2_with fail
    obtain ⟨i0, hi, hz0, hz1, hz2⟩ := info_parts intInfo1
    go_loopw [8, 9, 10] (fun v a i wr => ∃ j : Nat, j ≤ p ∧ i = .int .i64 (j : Nat) ∧ a = .int .i64 ((textUp V.tok l j).length : Nat) ∧ wr.ownsRow w1.heap.size 3 1 v j ((startsUp V.tok l j).map i64V) ∧ Below w1.heap.size w1 wr) (fun _ _ i _ => p - (intOf i).toNat)
    case atStart => exact ⟨0, by omega, rfl, rfl, World.ownsRow_nil _ _ _ _, Below.refl _ _⟩
    case round =>
      obtain ⟨j, hj, rfl, rfl, hv, hbr⟩ := hrel
      obtain ⟨A1, q1, rfl⟩ := own_slice hv
      rcases Nat.lt_or_ge j p with hlt | hge
      · have c1 : (j : Int) < (p : Int) := by omega
        have c2 : (0 : Int) ≤ (j : Int) := by omega
        obtain ⟨ad, x, rfl, hx, lx, -, -⟩ := (HL.out.below HB1.out).at j hlt
        obtain ⟨t0, t1⟩ := HIN.out x (List.mem_of_getElem? hx)
        obtain ⟨t, rfl⟩ : ∃ t : Nat, x = t := ⟨x.toNat, by omega⟩
        have htn : t < n := by have := HTL.out; omega
        have hy : V.tok[t]? = some (V.tok[t]'(by omega)) := List.getElem?_eq_getElem _
        obtain ⟨y, hye⟩ : ∃ y, y = V.tok[t]'(by omega) := ⟨_, rfl⟩
        rw [← hye] at hy
        obtain ⟨adt, A', c', e1, tc, -, -⟩ := (HV.out.tok.below HB1.out).at_ t y hy
        subst e1
        obtain ⟨X, hX⟩ : ∃ X, (textUp V.tok l j).length = X := ⟨_, rfl⟩
        have hZ : (textUp V.tok l (j + 1)).length = X + y.length := by
          rw [textUp, List.length_append, hX]
          congr 1
          rw [List.getD_eq_getElem?_getD, hx]
          unfold tokI
          rw [Option.getD_some, if_pos ⟨t0, t1⟩, Int.toNat_natCast, List.getD_eq_getElem?_getD, hy]
          rfl
        have hXp : X ≤ 4096 := by have := HT4.out j hj; omega
        have hy16 := HF.out y (List.mem_of_getElem? hy)
        have hst : (startsUp V.tok l (j + 1)).map i64V = (startsUp V.tok l j).map i64V ++ [.int .i64 (X : Int)] := by rw [startsUp_succ, List.map_append, hX]; rfl
        have HZ := Lib.hid hZ
        have HST := Lib.hid hst
        have HOWN := Lib.hid hv
        have HB := Lib.hid hbr
        have TC := Lib.hid tc
        have LX := Lib.hid lx
        rw [hX]
        have g3 : (t : Int) < (n : Int) := by omega
        have g4 : (0 : Int) ≤ (t : Int) := by omega
        clear hx lx t0 t1 hy hye tc hX hZ hst hv hbr
        go_wp2_with (at_builtin; refine wpList_append_own_at _ rfl _ _ 24 rfl w1.heap.size 3 i0 (.int .i64 0) 1 8 Try.underlying24 hi hz0 hz1 hz2 rfl (by decide) _ j _ rfl (HOWN.out.alloc _) ⟨wr.heap.size, 0, none⟩ 1 1 [.int .i64 (X : Int)] rfl rfl one_cell_at (by simp [Value.oneCell']) (by unfold maxLen; omega) (by omega) (by simp; have := HB.out.size; omega) ?_; intro v' w2 hown' hg2 hnil hloc; obtain ⟨A2, c2, hv⟩ := own_slice hown'; rw [hv]; clear hnil hloc; have HVV := Lib.hid hv; clear hv; have HOWN2 := Lib.hid hown'; have hb2 : Below w1.heap.size wr w2 := (((Below.refl _ wr).alloc HB.out.size _).grown hg2 (by simp; have := HB.out.size; omega) (fun k e => (HOWN.out.lt k e).1)); have HB2 := Lib.hid (HB.out.trans hb2); clear hown' hg2 hb2)
        have laq : ∀ r, (w2.drewN r).cell? (ad.add j) = some (.int .i64 (t : Nat)) := fun _ => (HB2.out.cell (World.block_lt_of_cell? w1 _ LX.out)).trans LX.out
        have v0q : ∀ r, (w2.drewN r).cell? ⟨w.heap.size, 0, none⟩ = some (.slice (some adt) n ca) := fun _ => (vocab_cellsO _ (HBL1.out.below HB2.out HBL1.out.lt)).1
        have taq : ∀ r, (w2.drewN r).cell? (adt.add t) = some (.slice A' y.length c') := fun _ => (HB2.out.cell (World.block_lt_of_cell? w1 _ TC.out)).trans TC.out
        have cw : IntKind.i64.wrap ((X : Int) + (y.length : Int)) = (X : Int) + (y.length : Int) := by rw [IntKind.wrap_i64]; omega
        go_quiet (fail)
        clear cw
        go_wp2_with fail
        go_roundw
        case rel => exact ⟨j + 1, by omega, by go_num, by rw [HZ.out]; congr 1, by rw [HST.out, ← HVV.out]; exact HOWN2.out, below_drewN HB2.out _⟩
        case measure => simp [intOf]; omega
      · obtain rfl : j = p := by omega
        have c1 : ¬ (j : Int) < (j : Int) := by omega
        have HVV := Lib.hid hv
        have HBR := Lib.hid (below_then HB1.out hbr HB1.out.size)
        clear hv hbr
        go_wp2_with fail
        go_ret2
        refine ⟨_, rfl, ?_, HBR.out⟩
        rw [HTT.out, startsUp_len]
        exact own_le HVV.out HB1.out.size
  · have d0 : (R != 0) = true := by simpa using hr
    have hTT : T = [] := by rw [HT.out]; unfold startsR; rw [if_neg (by rw [← HR.out]; exact hr)]
    clear hr
    go_wp2_with fail
    go_ret2
    rw [hTT]
    exact ⟨_, rfl, World.ownsRow_nil _ _ _ _, HB1.out⟩
end Go.Proofs.Ytimbimnbaoaboaa
