/- The list that a script makes. -/
import Derived.Test.YtkligdaademakaaSeWant1
namespace Go.Proofs.Ytkligdaademakaa
open Go.RowKit Go.Maps Go.WideMaps
set_option linter.unusedSimpArgs false

theorem rowsInfo : (Try.prog.info? 26).map (fun i => (i.zero, i.size, i.bytes)) = some (some (.slice none 0 0), 1, 24) := by kernel_rfl
theorem rows_size (w : World) : (sizeOf (Try.prog.elem 59)).run Try.prog w = .ok 1 w := by
  obtain ⟨i0, hi, hz0, hz1, hz2⟩ := info_parts rowsInfo
  rw [show Try.prog.elem 59 = 26 by kernel_rfl, run_sizeOf w hi]
  unfold Program.cellsOf
  rw [hi]
  simp [hz1]
set_option maxRecDepth 100000 in
theorem rows_to (w : World) (A : Option Addr) (n c p : Nat) (h : p ≤ c) : (Instr.slice 59 (.slice A n c) none (some (.int .i64 p)) none).run Try.prog w = .ok (.slice A p c) w := by
  rw [run_slice_h (P := Try.prog) (w := w) 59 A n c Try.underlying59 .i64 p (by omega) (by omega), rows_size]
  simp [Result.andThen, sliced, Addr.add]
theorem one_any_src (w : World) (e : TypeId) (y : Value) : Src (w.alloc (.cells #[y] e)) (some ⟨w.heap.size, 0, none⟩) 1 [y] := by
  refine ⟨rfl, fun ad e' j u hu => ?_, fun e => by cases e⟩
  cases e'
  have hj : j = 0 := by
    have := (List.getElem?_eq_some_iff.1 hu).1
    simp at this
    exact this
  subst hj
  cases hu
  rw [show (⟨w.heap.size, 0, none⟩ : Addr).add 0 = ⟨w.heap.size, 0, none⟩ by simp [Addr.add], cell_of_row _ w.heap.size 0 _ e (0, 0) (heap_alloc_new w _)]
  rfl
theorem slice_cell (A : Option Addr) (n c : Nat) : ∀ u ∈ [Value.slice A n c], u.oneCell' = true := fun u hu => by
  rw [List.mem_singleton.1 hu]
  rfl
/-- All numbers of a stack are numbers of 64 bits. -/
def Fit64 (l : List Int) : Prop := ∀ x ∈ l, -9223372036854775808 ≤ x ∧ x ≤ 9223372036854775807

set_option maxHeartbeats 32000000 in
set_option maxRecDepth 100000 in
theorem seWant_any (w : World) (A : Option Addr) (n c : Nat) (T : List SOp) (h : SOpsSee w A n T) (hT : SmallS T) : Calls Try.prog 13 #[.slice A n c] w (WantOut w (wantL T)) := by
  obtain ⟨i0, hi, hz0, hz1, hz2⟩ := info_parts rowsInfo
  have HT := Lib.hid h
  have HLEN := Lib.hid h.len
  have HSM := Lib.hid hT
  have hn6 : n ≤ 600 := by have := hT.few; rw [h.len] at this; exact this
  have HTOT := Lib.hid (runO_tot hT)
  clear h hT
  go_enter Try.func13, Try.ntmps13
  go_wp2
  go_loopw [3, 4] (fun v iv wr => ∃ (i : Nat) (X : List (List Int)) (U : List Value), i ≤ n ∧ iv = .int .i64 i ∧ X = runO T i ∧ RowI wr w.heap.size v X U ∧ Below w.heap.size w wr) (fun _ iv _ => n - (intOf iv).toNat)
  case atStart => exact ⟨0, [], [], by omega, rfl, rfl, RowI.nil _ _, Below.refl _ _⟩
  case round =>
    obtain ⟨i, X, U, hin, rfl, hX, hR, hB⟩ := hrel
    have HX := Lib.hid hX
    have HR := Lib.hid hR
    have HBW := Lib.hid hB
    obtain ⟨N, hN⟩ : ∃ N, N = X.length := ⟨_, rfl⟩
    have hNi : N ≤ i := by rw [hN, hX]; exact runO_len T i
    obtain ⟨Av, cv, hv⟩ := own_slice hR.own
    rw [← hN] at hv
    subst hv
    have hown := hR.own
    rw [← hN] at hown
    have hNc := (own_cap hown)
    have hNcv : N ≤ cv := by
      obtain ⟨_, _, e, h2⟩ := hNc
      cases e
      exact h2
    have HN := Lib.hid hN.symm
    have hbz := hB.size
    have HTX : Hid (totL X ≤ 660 * i) := Lib.hid (by rw [hX]; exact HTOT.out i)
    clear hX hR hB hN hown hNc
    rcases Nat.lt_or_ge i n with hlt | hge
    · have hlt' : (i : Int) < (n : Int) := by omega
      have p0 : (0 : Int) ≤ (i : Int) := by omega
      have hw0 : IntKind.i64.wrap ((i : Int) + 1) = (i : Int) + 1 := IntWalk.i64_in _ (by omega)
      obtain ⟨pa, x, B, cb, rfl, hx, hf1, hf2, a0, a1, a2, hcb, hB⟩ := (HT.out.below HBW.out).at i hlt
      have HXM := Lib.hid (HSM.out.len x (List.mem_of_getElem? hx))
      have HXA := Lib.hid (HSM.out.all x (List.mem_of_getElem? hx))
      have HST : Hid (runO T (i + 1) = stepO X x) := Lib.hid (by rw [runO, List.getD_eq_getElem?_getD, hx, HX.out]; rfl)
      obtain ⟨x1, xl, x3⟩ := x
      simp only at hf1 hf2 a0 a1 a2 hcb hB HXM HXA
      obtain ⟨K, hK⟩ : ∃ K, K = xl.length := ⟨_, rfl⟩
      rw [← hK] at a1 hcb hB HXM
      have HK := Lib.hid hK.symm
      obtain ⟨W1, hW1⟩ : ∃ W1, W1 = wr.alloc (.cells #[.int .i64 x1, .slice B K cb, .int .i64 x3] 65) := ⟨_, rfl⟩
      have hb1 : Below wr.heap.size wr W1 := by rw [hW1]; exact (Below.refl _ wr).alloc (Nat.le_refl _) _
      have HR1 : Hid (RowI W1 w.heap.size (.slice Av N cv) X U) := Lib.hid (HR.out.below hb1)
      have HB1 : Hid (Below w.heap.size w W1) := Lib.hid (HBW.out.trans (hb1.mono hbz))
      have HW1 := Lib.hid hW1
      have HB := Lib.hid (hB.below hb1)
      have HBF : Hid (Fit64 xl) := Lib.hid (fun z hz => hB.2.2.1 z hz)
      have hbz1 : w.heap.size ≤ W1.heap.size := HB1.out.size
      have h3a := hf2.1
      have h3b := hf2.2
      have HGL : Hid (∀ j, (Value.slice Av N cv).ownBlock = some j → j < W1.heap.size) := Lib.hid (fun j e => (HR1.out.own.lt j e).2)
      clear hx hB hW1 hb1 hK
      have hob : Blk W1 wr.heap.size 65 #[.int .i64 x1, .slice B K cb, .int .i64 x3] := by rw [HW1.out]; exact Blk.new _ _ _
      have o0 : W1.cell? ⟨wr.heap.size, 0, none⟩ = some (.int .i64 x1) := hob.cell 0
      have o1 : W1.cell? ⟨wr.heap.size, 1, none⟩ = some (.slice B K cb) := hob.cell 1
      have o2 : W1.cell? ⟨wr.heap.size, 2, none⟩ = some (.int .i64 x3) := hob.cell 2
      obtain ⟨q, hq⟩ : ∃ q, q = kOf ⟨x1, xl, x3⟩ N := ⟨_, rfl⟩
      have hqN : q ≤ N := by
        rw [hq]
        unfold kOf
        by_cases h1 : 0 < x3 ∧ x3 ≤ (N : Int)
        · rw [if_pos h1]; simp only; omega
        · rw [if_neg h1]; omega
      have HKO := Lib.hid hq.symm
      have HQX : Hid ((0 < x3 ∧ x3 ≤ (N : Int) → x3 = (q : Int)) ∧ (¬ (0 < x3 ∧ x3 ≤ (N : Int)) → q = 0)) := Lib.hid (by
        rw [hq]
        unfold kOf
        constructor
        · intro h1
          rw [if_pos h1]
          simp only
          omega
        · intro h1
          rw [if_neg h1])
      clear hob hq
      obtain ⟨tb, htb⟩ : ∃ tb : Bool, tb = decide (0 < x3 ∧ x3 ≤ (N : Int)) := ⟨_, rfl⟩
      have HTB := Lib.hid htb
      clear htb
      go_upto_region 8 with fail
      rw [← HW1.out]
      go_cut [32] (fun v wx => v = .bool tb ∧ wx = W1)
      case first =>
        by_cases hk1 : 0 < x3
        · have dk1 : decide ((0 : Int) < x3) = true := decide_eq_true hk1
          by_cases hk2 : x3 ≤ (N : Int)
          · have dk2 : decide (x3 ≤ (N : Int)) = true := decide_eq_true hk2
            go_wp2_with fail
            go_meet
            case rel => exact ⟨by rw [HTB.out]; simp [hk1, hk2], rfl⟩
          · have dk2 : decide (x3 ≤ (N : Int)) = false := decide_eq_false hk2
            go_wp2_with fail
            go_meet
            case rel => exact ⟨by rw [HTB.out]; simp [hk1, hk2], rfl⟩
        · have dk1 : decide ((0 : Int) < x3) = false := decide_eq_false hk1
          go_wp2_with fail
          go_meet
          case rel => exact ⟨by rw [HTB.out, decide_eq_false (fun h => absurd h.1 (by omega))], rfl⟩
      case rest =>
      obtain ⟨rfl, hwx⟩ := hcut
      rw [hwx]
      clear hwx
      go_upto_if 32 with fail
      go_cut [7] (fun v wx => v = .int .i64 (q : Int) ∧ wx = W1)
      case first =>
        cases tb with
        | true =>
          have hk : 0 < x3 ∧ x3 ≤ (N : Int) := of_decide_eq_true HTB.out.symm
          have HQ := Lib.hid (HQX.out.1 hk)
          have hwk : IntKind.i64.wrap x3 = x3 := IntWalk.i64_in _ (by omega)
          go_wp2_with fail
          go_meet
          case rel => exact ⟨by rw [HQ.out], rfl⟩
        | false =>
          have hk := of_decide_eq_false HTB.out.symm
          have HQ := Lib.hid (HQX.out.2 hk)
          go_wp2_with fail
          go_meet
          case rel => exact ⟨by rw [HQ.out]; rfl, rfl⟩
      case rest =>
        obtain ⟨rfl, hwx⟩ := hcut
        rw [hwx]
        clear hwx
        by_cases c0 : x1 = 0
        · subst c0
          have HL1 := Lib.hid (r11List_any W1 B K cb xl HB.out (by have := HXM.out; omega))
          have HLF : Hid (Fit64 (listI xl)) := Lib.hid (fun z hz => HBF.out z (list_mem hz))
          have HLM : Hid ((listI xl).length ≤ maxLen) := Lib.hid (by have h1 := listI_len xl; have h2 := HXM.out; have h3 := HK.out; unfold maxLen; omega)
          go_wp2_with fail
          refine HL1.out.mono ?_
          rintro e w2 hno
          obtain ⟨Y, cy, rfl, hy2, hb2⟩ := NumO.made hno HLF.out HLM.out hbz1 HGL.out
          obtain ⟨ly, hly⟩ : ∃ ly, ly = listI xl := ⟨_, rfl⟩
          rw [← hly] at hy2 ⊢
          have HYn := Lib.hid hy2
          have HRn := Lib.hid (HR1.out.below hb2)
          have HBn : Hid (Below w.heap.size w w2) := Lib.hid (HB1.out.trans (hb2.mono hbz1))
          have HLY := Lib.hid hly
          clear hno hy2 hb2 hly HL1
          have HML := HN
          have HFIN : Hid (X ++ [ly] = runO T (i + 1)) := Lib.hid (by rw [HST.out, HLY.out]; simp [stepO])
          have hra := HRn.out.own
          rw [HML.out] at hra
          have HRA := Lib.hid hra
          have hbz2 := HBn.out.size
          clear hra
          go_wp2_with (at_builtin; refine wpList_append_src _ rfl (.tmp 39) (.tmp 43) 59 rfl w.heap.size 26 i0 (.slice none 0 0) 24 Try.underlying59 hi hz0 hz1 hz2 rfl _ N _ rfl (World.ownsRow.alloc HRA.out _) _ 1 1 _ rfl (one_any_src w2 26 _) (slice_cell _ _ _) (by unfold maxLen; omega) (by omega) (by simp; omega) ?_; intro v9 w9 hown hgrow hloc; obtain ⟨hr9, hk9⟩ := RowI.push HRn.out HYn.out (by rw [HML.out]; exact hown) hgrow hloc; have HR9 := Lib.hid hr9; have HB9 : Hid (Below w.heap.size w w9) := Lib.hid (HBn.out.trans (hk9.toBelow HBn.out.size (fun b e => (HRA.out.lt b e).1))); clear hown hgrow hloc hr9 hk9)
          go_roundw
          case rel => exact ⟨i + 1, _, _, by omega, by go_num, HFIN.out, HR9.out, HB9.out⟩
          case measure => simp [intOf]; omega
        by_cases c1 : x1 = 1
        · subst c1
          have HL1 := Lib.hid (r11All_any W1 x3 (by have := HXA.out rfl; omega))
          have HLF : Hid (Fit64 (allI x3.toNat)) := Lib.hid (fun z hz => by
            obtain ⟨k, h1, rfl⟩ := List.mem_map.1 hz
            have h2 := List.mem_range.1 h1
            have := HXA.out rfl
            omega)
          have HLM : Hid ((allI x3.toNat).length ≤ maxLen) := Lib.hid (by rw [all_len]; have := HXA.out rfl; unfold maxLen; omega)
          go_wp2_with fail
          refine HL1.out.mono ?_
          rintro e w2 hno
          obtain ⟨Y, cy, rfl, hy2, hb2⟩ := NumO.made hno HLF.out HLM.out hbz1 HGL.out
          obtain ⟨ly, hly⟩ : ∃ ly, ly = allI x3.toNat := ⟨_, rfl⟩
          rw [← hly] at hy2 ⊢
          have HYn := Lib.hid hy2
          have HRn := Lib.hid (HR1.out.below hb2)
          have HBn : Hid (Below w.heap.size w w2) := Lib.hid (HB1.out.trans (hb2.mono hbz1))
          have HLY := Lib.hid hly
          clear hno hy2 hb2 hly HL1
          have HML := HN
          have HFIN : Hid (X ++ [ly] = runO T (i + 1)) := Lib.hid (by rw [HST.out, HLY.out]; simp [stepO])
          have hra := HRn.out.own
          rw [HML.out] at hra
          have HRA := Lib.hid hra
          have hbz2 := HBn.out.size
          clear hra
          go_wp2_with (at_builtin; refine wpList_append_src _ rfl (.tmp 47) (.tmp 51) 59 rfl w.heap.size 26 i0 (.slice none 0 0) 24 Try.underlying59 hi hz0 hz1 hz2 rfl _ N _ rfl (World.ownsRow.alloc HRA.out _) _ 1 1 _ rfl (one_any_src w2 26 _) (slice_cell _ _ _) (by unfold maxLen; omega) (by omega) (by simp; omega) ?_; intro v9 w9 hown hgrow hloc; obtain ⟨hr9, hk9⟩ := RowI.push HRn.out HYn.out (by rw [HML.out]; exact hown) hgrow hloc; have HR9 := Lib.hid hr9; have HB9 : Hid (Below w.heap.size w w9) := Lib.hid (HBn.out.trans (hk9.toBelow HBn.out.size (fun b e => (HRA.out.lt b e).1))); clear hown hgrow hloc hr9 hk9)
          go_roundw
          case rel => exact ⟨i + 1, _, _, by omega, by go_num, HFIN.out, HR9.out, HB9.out⟩
          case measure => simp [intOf]; omega
        by_cases c2 : x1 = 2
        · subst c2
          by_cases hN2 : N < 2
          · have d2 : decide ((N : Int) < 2) = true := decide_eq_true (by omega)
            have HFIN : Hid (X = runO T (i + 1)) := Lib.hid (by rw [HST.out, stepO]; simp only; rw [HN.out]; simp; intro h; omega)
            go_wp2
            go_roundw
            case rel => exact ⟨i + 1, X, U, by omega, by go_num, HFIN.out, HR1.out, HB1.out⟩
            case measure => simp [intOf]; omega
          have d2 : decide ((N : Int) < 2) = false := decide_eq_false (by omega)
          obtain ⟨m, hm⟩ : ∃ m, N = m + 2 := ⟨N - 2, by omega⟩
          obtain ⟨m1, hm1⟩ : ∃ m1, m1 = m + 1 := ⟨_, rfl⟩
          have hwa : IntKind.i64.wrap ((N : Int) - 2) = (m : Int) := by rw [show (N : Int) - 2 = (m : Int) by omega]; exact IntWalk.i64_in _ (by omega)
          have hwb : IntKind.i64.wrap ((N : Int) - 1) = (m1 : Int) := by rw [show (N : Int) - 1 = (m1 : Int) by omega]; exact IntWalk.i64_in _ (by omega)
          have pm0 : (0 : Int) ≤ (m : Int) := by omega
          have pm1 : (m : Int) < (N : Int) := by omega
          have pn0 : (0 : Int) ≤ (m1 : Int) := by omega
          have pn1 : (m1 : Int) < (N : Int) := by omega
          have hsl := fun w => rows_to w Av N cv m (by omega)
          obtain ⟨la, lb, hdr, hxa, hxb⟩ := last_two HN.out hm
          have hta := totL_mem hxa
          have htb := totL_mem hxb
          have htx := HTX.out
          obtain ⟨_, hua, ⟨A1, k1, rfl, -, HIA, -⟩⟩ := HR1.out.each m la hxa
          obtain ⟨_, hub, ⟨A2, k2, rfl, -, HIB, -⟩⟩ := HR1.out.each (m + 1) lb hxb
          have HIA := Lib.hid HIA
          have HIB := Lib.hid HIB
          have hla : la.length ≤ 400000 := by omega
          have hlb : lb.length ≤ 400000 := by omega
          have HL1 := Lib.hid (r11And_any W1 A1 A2 la.length lb.length k1 k2 la lb HIA.out HIB.out (by omega))
          have HLF : Hid (Fit64 (andI la lb)) := Lib.hid (fun z hz => by
            exact HIA.out.2.2.1 z (List.mem_filter.1 hz).1)
          have HLM : Hid ((andI la lb).length ≤ maxLen) := Lib.hid (by have := andI_len la lb; unfold maxLen; omega)
          have hro := HR1.out.own
          rw [HN.out] at hro
          have hsr := src_of_own hro
          cases Av with
          | none => have := hsr.nil rfl; omega
          | some ad =>
          have ea : W1.cell? (ad.add m) = some (.slice A1 la.length k1) := hsr.cells ad rfl m _ hua
          have eb : W1.cell? (ad.add m1) = some (.slice A2 lb.length k2) := hsr.cells ad rfl m1 _ (by rw [hm1]; exact hub)
          have HRT := Lib.hid (HR1.out.take HN.out (show m ≤ N by omega))
          have HML : Hid ((X.take m).length = m) := Lib.hid (by rw [List.length_take, HN.out]; omega)
          have HST2 : Hid (X.take m ++ [andI la lb] = runO T (i + 1)) := Lib.hid (by
            rw [HST.out, stepO]
            simp only
            rw [HN.out, List.getD_eq_getElem?_getD, List.getD_eq_getElem?_getD, show N - 2 = m by omega, show N - 1 = m + 1 by omega, hxa, hxb]
            simp [hN2])
          have hmle : m ≤ 600 := by omega
          have hmc : m ≤ cv := by omega
          clear hdr hxa hxb hua hub hta htb htx hro hsr hm hm1
          go_wp2_with fail
          refine HL1.out.mono ?_
          rintro e w2 hno
          obtain ⟨Y, cy, rfl, hy2, hb2⟩ := NumO.made hno HLF.out HLM.out hbz1 HGL.out
          obtain ⟨ly, hly⟩ : ∃ ly, ly = andI la lb := ⟨_, rfl⟩
          rw [← hly] at hy2 ⊢
          have HYn := Lib.hid hy2
          have HRn := Lib.hid (HRT.out.below hb2)
          have HBn : Hid (Below w.heap.size w w2) := Lib.hid (HB1.out.trans (hb2.mono hbz1))
          have HLY := Lib.hid hly
          clear hno hy2 hb2 hly HL1
          have HFIN : Hid (X.take m ++ [ly] = runO T (i + 1)) := Lib.hid (by rw [HLY.out]; exact HST2.out)
          clear ea eb
          have hra := HRn.out.own
          rw [HML.out] at hra
          have HRA := Lib.hid hra
          have hbz2 := HBn.out.size
          clear hra
          go_wp2_with (at_builtin; refine wpList_append_src _ rfl (.tmp 76) (.tmp 80) 59 rfl w.heap.size 26 i0 (.slice none 0 0) 24 Try.underlying59 hi hz0 hz1 hz2 rfl _ m _ rfl (World.ownsRow.alloc HRA.out _) _ 1 1 _ rfl (one_any_src w2 26 _) (slice_cell _ _ _) (by unfold maxLen; omega) (by omega) (by simp; omega) ?_; intro v9 w9 hown hgrow hloc; obtain ⟨hr9, hk9⟩ := RowI.push HRn.out HYn.out (by rw [HML.out]; exact hown) hgrow hloc; have HR9 := Lib.hid hr9; have HB9 : Hid (Below w.heap.size w w9) := Lib.hid (HBn.out.trans (hk9.toBelow HBn.out.size (fun b e => (HRA.out.lt b e).1))); clear hown hgrow hloc hr9 hk9)
          go_roundw
          case rel => exact ⟨i + 1, _, _, by omega, by go_num, HFIN.out, HR9.out, HB9.out⟩
          case measure => simp [intOf]; omega
        by_cases c3 : x1 = 3
        · subst c3
          by_cases hN2 : N < 2
          · have d2 : decide ((N : Int) < 2) = true := decide_eq_true (by omega)
            have HFIN : Hid (X = runO T (i + 1)) := Lib.hid (by rw [HST.out, stepO]; simp only; rw [HN.out]; simp; intro h; omega)
            go_wp2
            go_roundw
            case rel => exact ⟨i + 1, X, U, by omega, by go_num, HFIN.out, HR1.out, HB1.out⟩
            case measure => simp [intOf]; omega
          have d2 : decide ((N : Int) < 2) = false := decide_eq_false (by omega)
          obtain ⟨m, hm⟩ : ∃ m, N = m + 2 := ⟨N - 2, by omega⟩
          obtain ⟨m1, hm1⟩ : ∃ m1, m1 = m + 1 := ⟨_, rfl⟩
          have hwa : IntKind.i64.wrap ((N : Int) - 2) = (m : Int) := by rw [show (N : Int) - 2 = (m : Int) by omega]; exact IntWalk.i64_in _ (by omega)
          have hwb : IntKind.i64.wrap ((N : Int) - 1) = (m1 : Int) := by rw [show (N : Int) - 1 = (m1 : Int) by omega]; exact IntWalk.i64_in _ (by omega)
          have pm0 : (0 : Int) ≤ (m : Int) := by omega
          have pm1 : (m : Int) < (N : Int) := by omega
          have pn0 : (0 : Int) ≤ (m1 : Int) := by omega
          have pn1 : (m1 : Int) < (N : Int) := by omega
          have hsl := fun w => rows_to w Av N cv m (by omega)
          obtain ⟨la, lb, hdr, hxa, hxb⟩ := last_two HN.out hm
          have hta := totL_mem hxa
          have htb := totL_mem hxb
          have htx := HTX.out
          obtain ⟨_, hua, ⟨A1, k1, rfl, -, HIA, -⟩⟩ := HR1.out.each m la hxa
          obtain ⟨_, hub, ⟨A2, k2, rfl, -, HIB, -⟩⟩ := HR1.out.each (m + 1) lb hxb
          have HIA := Lib.hid HIA
          have HIB := Lib.hid HIB
          have hla : la.length ≤ 400000 := by omega
          have hlb : lb.length ≤ 400000 := by omega
          have HL1 := Lib.hid (r11Or_any W1 A1 A2 la.length lb.length k1 k2 la lb HIA.out HIB.out (by omega) (by omega))
          have HLF : Hid (Fit64 (orI la lb)) := Lib.hid (fun z hz => by
            rcases (mem_or la lb z).1 hz with h1 | h1
            · exact HIA.out.2.2.1 z h1
            · exact HIB.out.2.2.1 z h1)
          have HLM : Hid ((orI la lb).length ≤ maxLen) := Lib.hid (by have := orI_len la lb; unfold maxLen; omega)
          have hro := HR1.out.own
          rw [HN.out] at hro
          have hsr := src_of_own hro
          cases Av with
          | none => have := hsr.nil rfl; omega
          | some ad =>
          have ea : W1.cell? (ad.add m) = some (.slice A1 la.length k1) := hsr.cells ad rfl m _ hua
          have eb : W1.cell? (ad.add m1) = some (.slice A2 lb.length k2) := hsr.cells ad rfl m1 _ (by rw [hm1]; exact hub)
          have HRT := Lib.hid (HR1.out.take HN.out (show m ≤ N by omega))
          have HML : Hid ((X.take m).length = m) := Lib.hid (by rw [List.length_take, HN.out]; omega)
          have HST2 : Hid (X.take m ++ [orI la lb] = runO T (i + 1)) := Lib.hid (by
            rw [HST.out, stepO]
            simp only
            rw [HN.out, List.getD_eq_getElem?_getD, List.getD_eq_getElem?_getD, show N - 2 = m by omega, show N - 1 = m + 1 by omega, hxa, hxb]
            simp [hN2])
          have hmle : m ≤ 600 := by omega
          have hmc : m ≤ cv := by omega
          clear hdr hxa hxb hua hub hta htb htx hro hsr hm hm1
          go_wp2_with fail
          refine HL1.out.mono ?_
          rintro e w2 hno
          obtain ⟨Y, cy, rfl, hy2, hb2⟩ := NumO.made hno HLF.out HLM.out hbz1 HGL.out
          obtain ⟨ly, hly⟩ : ∃ ly, ly = orI la lb := ⟨_, rfl⟩
          rw [← hly] at hy2 ⊢
          have HYn := Lib.hid hy2
          have HRn := Lib.hid (HRT.out.below hb2)
          have HBn : Hid (Below w.heap.size w w2) := Lib.hid (HB1.out.trans (hb2.mono hbz1))
          have HLY := Lib.hid hly
          clear hno hy2 hb2 hly HL1
          have HFIN : Hid (X.take m ++ [ly] = runO T (i + 1)) := Lib.hid (by rw [HLY.out]; exact HST2.out)
          clear ea eb
          have hra := HRn.out.own
          rw [HML.out] at hra
          have HRA := Lib.hid hra
          have hbz2 := HBn.out.size
          clear hra
          go_wp2_with (at_builtin; refine wpList_append_src _ rfl (.tmp 85) (.tmp 89) 59 rfl w.heap.size 26 i0 (.slice none 0 0) 24 Try.underlying59 hi hz0 hz1 hz2 rfl _ m _ rfl (World.ownsRow.alloc HRA.out _) _ 1 1 _ rfl (one_any_src w2 26 _) (slice_cell _ _ _) (by unfold maxLen; omega) (by omega) (by simp; omega) ?_; intro v9 w9 hown hgrow hloc; obtain ⟨hr9, hk9⟩ := RowI.push HRn.out HYn.out (by rw [HML.out]; exact hown) hgrow hloc; have HR9 := Lib.hid hr9; have HB9 : Hid (Below w.heap.size w w9) := Lib.hid (HBn.out.trans (hk9.toBelow HBn.out.size (fun b e => (HRA.out.lt b e).1))); clear hown hgrow hloc hr9 hk9)
          go_roundw
          case rel => exact ⟨i + 1, _, _, by omega, by go_num, HFIN.out, HR9.out, HB9.out⟩
          case measure => simp [intOf]; omega
        by_cases c4 : x1 = 4
        · subst c4
          by_cases hN2 : N < 2
          · have d2 : decide ((N : Int) < 2) = true := decide_eq_true (by omega)
            have HFIN : Hid (X = runO T (i + 1)) := Lib.hid (by rw [HST.out, stepO]; simp only; rw [HN.out]; simp; intro h; omega)
            go_wp2
            go_roundw
            case rel => exact ⟨i + 1, X, U, by omega, by go_num, HFIN.out, HR1.out, HB1.out⟩
            case measure => simp [intOf]; omega
          have d2 : decide ((N : Int) < 2) = false := decide_eq_false (by omega)
          obtain ⟨m, hm⟩ : ∃ m, N = m + 2 := ⟨N - 2, by omega⟩
          obtain ⟨m1, hm1⟩ : ∃ m1, m1 = m + 1 := ⟨_, rfl⟩
          have hwa : IntKind.i64.wrap ((N : Int) - 2) = (m : Int) := by rw [show (N : Int) - 2 = (m : Int) by omega]; exact IntWalk.i64_in _ (by omega)
          have hwb : IntKind.i64.wrap ((N : Int) - 1) = (m1 : Int) := by rw [show (N : Int) - 1 = (m1 : Int) by omega]; exact IntWalk.i64_in _ (by omega)
          have pm0 : (0 : Int) ≤ (m : Int) := by omega
          have pm1 : (m : Int) < (N : Int) := by omega
          have pn0 : (0 : Int) ≤ (m1 : Int) := by omega
          have pn1 : (m1 : Int) < (N : Int) := by omega
          have hsl := fun w => rows_to w Av N cv m (by omega)
          obtain ⟨la, lb, hdr, hxa, hxb⟩ := last_two HN.out hm
          have hta := totL_mem hxa
          have htb := totL_mem hxb
          have htx := HTX.out
          obtain ⟨_, hua, ⟨A1, k1, rfl, -, HIA, -⟩⟩ := HR1.out.each m la hxa
          obtain ⟨_, hub, ⟨A2, k2, rfl, -, HIB, -⟩⟩ := HR1.out.each (m + 1) lb hxb
          have HIA := Lib.hid HIA
          have HIB := Lib.hid HIB
          have hla : la.length ≤ 400000 := by omega
          have hlb : lb.length ≤ 400000 := by omega
          have HL1 := Lib.hid (r11Less_any W1 A1 A2 la.length lb.length k1 k2 la lb HIA.out HIB.out (by omega))
          have HLF : Hid (Fit64 (lessI la lb)) := Lib.hid (fun z hz => by
            exact HIA.out.2.2.1 z (List.mem_filter.1 hz).1)
          have HLM : Hid ((lessI la lb).length ≤ maxLen) := Lib.hid (by have := lessI_len la lb; unfold maxLen; omega)
          have hro := HR1.out.own
          rw [HN.out] at hro
          have hsr := src_of_own hro
          cases Av with
          | none => have := hsr.nil rfl; omega
          | some ad =>
          have ea : W1.cell? (ad.add m) = some (.slice A1 la.length k1) := hsr.cells ad rfl m _ hua
          have eb : W1.cell? (ad.add m1) = some (.slice A2 lb.length k2) := hsr.cells ad rfl m1 _ (by rw [hm1]; exact hub)
          have HRT := Lib.hid (HR1.out.take HN.out (show m ≤ N by omega))
          have HML : Hid ((X.take m).length = m) := Lib.hid (by rw [List.length_take, HN.out]; omega)
          have HST2 : Hid (X.take m ++ [lessI la lb] = runO T (i + 1)) := Lib.hid (by
            rw [HST.out, stepO]
            simp only
            rw [HN.out, List.getD_eq_getElem?_getD, List.getD_eq_getElem?_getD, show N - 2 = m by omega, show N - 1 = m + 1 by omega, hxa, hxb]
            simp [hN2])
          have hmle : m ≤ 600 := by omega
          have hmc : m ≤ cv := by omega
          clear hdr hxa hxb hua hub hta htb htx hro hsr hm hm1
          go_wp2_with fail
          refine HL1.out.mono ?_
          rintro e w2 hno
          obtain ⟨Y, cy, rfl, hy2, hb2⟩ := NumO.made hno HLF.out HLM.out hbz1 HGL.out
          obtain ⟨ly, hly⟩ : ∃ ly, ly = lessI la lb := ⟨_, rfl⟩
          rw [← hly] at hy2 ⊢
          have HYn := Lib.hid hy2
          have HRn := Lib.hid (HRT.out.below hb2)
          have HBn : Hid (Below w.heap.size w w2) := Lib.hid (HB1.out.trans (hb2.mono hbz1))
          have HLY := Lib.hid hly
          clear hno hy2 hb2 hly HL1
          have HFIN : Hid (X.take m ++ [ly] = runO T (i + 1)) := Lib.hid (by rw [HLY.out]; exact HST2.out)
          clear ea eb
          have hra := HRn.out.own
          rw [HML.out] at hra
          have HRA := Lib.hid hra
          have hbz2 := HBn.out.size
          clear hra
          go_wp2_with (at_builtin; refine wpList_append_src _ rfl (.tmp 91) (.tmp 95) 59 rfl w.heap.size 26 i0 (.slice none 0 0) 24 Try.underlying59 hi hz0 hz1 hz2 rfl _ m _ rfl (World.ownsRow.alloc HRA.out _) _ 1 1 _ rfl (one_any_src w2 26 _) (slice_cell _ _ _) (by unfold maxLen; omega) (by omega) (by simp; omega) ?_; intro v9 w9 hown hgrow hloc; obtain ⟨hr9, hk9⟩ := RowI.push HRn.out HYn.out (by rw [HML.out]; exact hown) hgrow hloc; have HR9 := Lib.hid hr9; have HB9 : Hid (Below w.heap.size w w9) := Lib.hid (HBn.out.trans (hk9.toBelow HBn.out.size (fun b e => (HRA.out.lt b e).1))); clear hown hgrow hloc hr9 hk9)
          go_roundw
          case rel => exact ⟨i + 1, _, _, by omega, by go_num, HFIN.out, HR9.out, HB9.out⟩
          case measure => simp [intOf]; omega
        by_cases c7 : x1 = 7
        · subst c7
          have HRn := HR1
          have HBn := HB1
          have HML := HN
          have HYn : Hid (NumO W1 w.heap.size (Value.slice Av N cv).ownBlock (.slice none 0 0) []) := Lib.hid (NumO.nil _ _ _)
          have HFIN : Hid (X ++ [[]] = runO T (i + 1)) := Lib.hid (by rw [HST.out]; simp [stepO])
          have hra := HRn.out.own
          rw [HML.out] at hra
          have HRA := Lib.hid hra
          have hbz2 := HBn.out.size
          clear hra
          go_wp2_with (at_builtin; refine wpList_append_src _ rfl (.tmp 143) (.tmp 144) 59 rfl w.heap.size 26 i0 (.slice none 0 0) 24 Try.underlying59 hi hz0 hz1 hz2 rfl _ N _ rfl (World.ownsRow.alloc HRA.out _) _ 1 1 _ rfl (one_any_src W1 26 _) (slice_cell _ _ _) (by unfold maxLen; omega) (by omega) (by simp; omega) ?_; intro v9 w9 hown hgrow hloc; obtain ⟨hr9, hk9⟩ := RowI.push HRn.out HYn.out (by rw [HML.out]; exact hown) hgrow hloc; have HR9 := Lib.hid hr9; have HB9 : Hid (Below w.heap.size w w9) := Lib.hid (HBn.out.trans (hk9.toBelow HBn.out.size (fun b e => (HRA.out.lt b e).1))); clear hown hgrow hloc hr9 hk9)
          go_roundw
          case rel => exact ⟨i + 1, _, _, by omega, by go_num, HFIN.out, HR9.out, HB9.out⟩
          case measure => simp [intOf]; omega
        by_cases c5 : x1 = 5
        · subst c5
          obtain ⟨m0, hm0⟩ : ∃ m0, N = m0 + q := ⟨N - q, by omega⟩
          have hwm : IntKind.i64.wrap ((N : Int) - (q : Int)) = (m0 : Int) := by rw [show (N : Int) - (q : Int) = (m0 : Int) by omega]; exact IntWalk.i64_in _ (by omega)
          have hN600 : N ≤ 600 := by omega
          have hm0c : m0 ≤ cv := by omega
          have hm6 : m0 ≤ 600 := by omega
          have HWF : Hid (X.take m0 ++ [andL ((X.drop m0).take q)] = runO T (i + 1)) := Lib.hid (by
            have h1 : stepO X ⟨5, xl, x3⟩ = X.take (X.length - kOf ⟨5, xl, x3⟩ X.length) ++ [andL (X.drop (X.length - kOf ⟨5, xl, x3⟩ X.length))] := by simp [stepO]
            have h2 : (X.drop m0).take q = X.drop m0 := List.take_of_length_le (by rw [List.length_drop, HN.out]; omega)
            rw [HST.out, h1, HN.out, HKO.out, show N - q = m0 by omega, h2])
          have HM0 := Lib.hid hm0
          have htx := HTX.out
          have hbig : totL X ≤ 396000 := by omega
          have HBIG := Lib.hid hbig
          have hsl := fun w => rows_to w Av N cv m0 hm0c
          have HRT := Lib.hid (HR1.out.take HN.out (show m0 ≤ N by omega))
          clear hm0 htx hbig
          obtain ⟨wo, hwo⟩ : ∃ z, z = wr := ⟨_, rfl⟩
          subst hwo
          go_wp2
          go_loopw [10, 11] (fun xv jv wi => ∃ (t : Nat) (x : List Int), t ≤ q ∧ jv = .int .i64 ((m0 + t : Nat) : Int) ∧ x = andL ((X.drop m0).take t) ∧ NumO wi w.heap.size (Value.slice Av N cv).ownBlock xv x ∧ RowI wi w.heap.size (.slice Av N cv) X U ∧ RowI wi w.heap.size (.slice Av m0 cv) (X.take m0) (U.take m0) ∧ Below w.heap.size w wi ∧ Below W1.heap.size W1 wi) (fun _ jv _ => N - (intOf jv).toNat)
          case atStart => exact ⟨0, _, by omega, by go_num, rfl, NumO.nil _ _ _, HR1.out, HRT.out, HB1.out, Below.refl _ _⟩
          case round =>
            obtain ⟨t, x, htq, rfl, hx, hno, hri, hrt, hbi, hbo⟩ := hrel
            have htl := andL_tot ((X.drop m0).take t)
            rw [← hx] at htl
            have ht2 := totL_cut X m0
            have ht3 := totL_cut (X.drop m0) t
            have hbg := HBIG.out
            have hxl : x.length ≤ 400000 := by omega
            have HX2 := Lib.hid hx
            have HRI := Lib.hid hri
            have HRT2 := Lib.hid hrt
            have HBI := Lib.hid hbi
            have HBO := Lib.hid hbo
            have hbzi := hbi.size
            have p0' := below_cells hbo o0
            obtain ⟨A1, k1, rfl, h1c, h1i, h1f⟩ := hno.see
            have HNO := Lib.hid hno
            have HI1 := Lib.hid h1i
            obtain ⟨j, hj⟩ : ∃ j, j = m0 + t := ⟨_, rfl⟩
            rw [← hj]
            clear htl ht2 ht3 hx hno hri hrt hbi hbo h1f h1i
            rcases Nat.lt_or_ge t q with hlt3 | hge3
            · have hjN : j < N := by have := HM0.out; omega
              have hjN' : (j : Int) < (N : Int) := by omega
              have pj0 : (0 : Int) ≤ (j : Int) := by omega
              have hwj : IntKind.i64.wrap ((j : Int) + 1) = (j : Int) + 1 := IntWalk.i64_in _ (by omega)
              obtain ⟨y, hy⟩ : ∃ y, X[j]? = some y := ⟨_, List.getElem?_eq_getElem (by rw [HN.out]; exact hjN)⟩
              have hyt := totL_mem hy
              have hyl : y.length ≤ 400000 := by omega
              obtain ⟨_, hu, hny⟩ := HRI.out.each j y hy
              obtain ⟨A2, k2, rfl, h2c, h2i, h2f⟩ := hny.see
              have HNY := Lib.hid hny
              have HI2 := Lib.hid h2i
              have hro := HRI.out.own
              rw [HN.out] at hro
              have hsr := src_of_own hro
              have hgl : ∀ i, (Value.slice Av N cv).ownBlock = some i → i < wr.heap.size := fun i e => (HRI.out.own.lt i e).2
              have HGL2 := Lib.hid hgl
              have HTS : Hid ((X.drop m0).take (t + 1) = (X.drop m0).take t ++ [y]) := Lib.hid (take_snoc (by rw [List.getElem?_drop, ← hj]; exact hy))
              cases Av with
              | none => have := hsr.nil rfl; omega
              | some ad =>
              have ea : wr.cell? (ad.add j) = some (.slice A2 y.length k2) := hsr.cells ad rfl j _ hu
              have HJ := Lib.hid hj
              clear hy hyt hu hny h2i h2f hro hsr hgl hj
              by_cases ht0 : t = 0
              · have hj0 : j = m0 := by have := HJ.out; omega
                have dj : ((j : Int) == (m0 : Int)) = true := by rw [hj0]; simp
                have HT0 := Lib.hid ht0
                clear ht0 hj0
                go_wp2
                go_roundw
                case rel => exact ⟨t + 1, y, by omega, by have := HJ.out; go_num, by rw [HTS.out, HT0.out]; rfl, HNY.out, HRI.out, HRT2.out, HBI.out, HBO.out⟩
                case measure => simp [intOf]; omega
              · have dj : ((j : Int) == (m0 : Int)) = false := beq_eq_false_iff_ne.2 (by have := HJ.out; omega)
                have hne : (X.drop m0).take t ≠ [] := fun e => by
                  have h1 := congrArg List.length e
                  rw [List.length_take, List.length_drop, HN.out] at h1
                  simp at h1
                  have := HM0.out
                  omega
                have HNE := Lib.hid hne
                clear ht0 hne
                have HL1 := Lib.hid (r11And_any wr A1 A2 x.length y.length k1 k2 x y HI1.out HI2.out (by omega))
                have HLF : Hid (Fit64 (andI x y)) := Lib.hid (fun z hz => by
                  exact HI1.out.2.2.1 z (List.mem_filter.1 hz).1)
                have HLM : Hid ((andI x y).length ≤ maxLen) := Lib.hid (by have := andI_len x y; unfold maxLen; omega)
                go_wp2_with fail
                refine HL1.out.mono ?_
                rintro e w2 hno
                obtain ⟨Y, cy, rfl, hy2, hb2⟩ := NumO.made hno HLF.out HLM.out hbzi HGL2.out
                obtain ⟨ly, hly⟩ : ∃ ly, ly = andI x y := ⟨_, rfl⟩
                rw [← hly] at hy2 ⊢
                have HYn := Lib.hid hy2
                have HRn := Lib.hid (HRI.out.below hb2)
                have HRm := Lib.hid (HRT2.out.below hb2)
                have HBn : Hid (Below w.heap.size w w2) := Lib.hid (HBI.out.trans (hb2.mono hbzi))
                have HBp : Hid (Below W1.heap.size W1 w2) := Lib.hid (below_then HBO.out hb2 HBO.out.size)
                have HLY := Lib.hid hly
                clear hno hy2 hb2 hly HL1
                go_wp2
                go_roundw
                case rel => exact ⟨t + 1, ly, by omega, by have := HJ.out; go_num, by rw [HTS.out, andL_snoc HNE.out, HLY.out, HX2.out], HYn.out, HRn.out, HRm.out, HBn.out, HBp.out⟩
                case measure => simp [intOf]; omega
            · have hjN : j = N := by have := HM0.out; omega
              have hjl : ¬ ((j : Int) < (N : Int)) := by omega
              have dl : decide ((j : Int) < (N : Int)) = false := decide_eq_false hjl
              have htq2 : t = q := by omega
              have HFIN : Hid (X.take m0 ++ [x] = runO T (i + 1)) := Lib.hid (by rw [← HWF.out, HX2.out, htq2])
              have HRn := HRT2
              have HBn := HBI
              have HML : Hid ((X.take m0).length = m0) := Lib.hid (by have := HM0.out; rw [List.length_take, HN.out]; omega)
              have hoe : (Value.slice Av m0 cv).ownBlock = (Value.slice Av N cv).ownBlock := by cases Av <;> rfl
              have HYn : Hid (NumO wr w.heap.size (Value.slice Av m0 cv).ownBlock (.slice A1 x.length k1) x) := Lib.hid (by rw [hoe]; exact HNO.out)
              clear hjN htq2 hoe hj
              have hra := HRn.out.own
              rw [HML.out] at hra
              have HRA := Lib.hid hra
              have hbz2 := HBn.out.size
              clear hra
              go_wp2_with (at_builtin; refine wpList_append_src _ rfl (.tmp 137) (.tmp 139) 59 rfl w.heap.size 26 i0 (.slice none 0 0) 24 Try.underlying59 hi hz0 hz1 hz2 rfl _ m0 _ rfl (World.ownsRow.alloc HRA.out _) _ 1 1 _ rfl (one_any_src wr 26 _) (slice_cell _ _ _) (by unfold maxLen; omega) (by omega) (by simp; omega) ?_; intro v9 w9 hown hgrow hloc; obtain ⟨hr9, hk9⟩ := RowI.push HRn.out HYn.out (by rw [HML.out]; exact hown) hgrow hloc; have HR9 := Lib.hid hr9; have HB9 : Hid (Below w.heap.size w w9) := Lib.hid (HBn.out.trans (hk9.toBelow HBn.out.size (fun b e => (HRA.out.lt b e).1))); clear hown hgrow hloc hr9 hk9)
              go_roundw
              case rel => exact ⟨i + 1, _, _, by omega, by go_num, HFIN.out, HR9.out, HB9.out⟩
              case measure => simp [intOf]; omega
        by_cases c6 : x1 = 6
        · subst c6
          obtain ⟨m0, hm0⟩ : ∃ m0, N = m0 + q := ⟨N - q, by omega⟩
          have hwm : IntKind.i64.wrap ((N : Int) - (q : Int)) = (m0 : Int) := by rw [show (N : Int) - (q : Int) = (m0 : Int) by omega]; exact IntWalk.i64_in _ (by omega)
          have hN600 : N ≤ 600 := by omega
          have hm0c : m0 ≤ cv := by omega
          have hm6 : m0 ≤ 600 := by omega
          have HWF : Hid (X.take m0 ++ [orL ((X.drop m0).take q)] = runO T (i + 1)) := Lib.hid (by
            have h1 : stepO X ⟨6, xl, x3⟩ = X.take (X.length - kOf ⟨6, xl, x3⟩ X.length) ++ [orL (X.drop (X.length - kOf ⟨6, xl, x3⟩ X.length))] := by simp [stepO]
            have h2 : (X.drop m0).take q = X.drop m0 := List.take_of_length_le (by rw [List.length_drop, HN.out]; omega)
            rw [HST.out, h1, HN.out, HKO.out, show N - q = m0 by omega, h2])
          have HM0 := Lib.hid hm0
          have htx := HTX.out
          have hbig : totL X ≤ 396000 := by omega
          have HBIG := Lib.hid hbig
          have hsl := fun w => rows_to w Av N cv m0 hm0c
          have HRT := Lib.hid (HR1.out.take HN.out (show m0 ≤ N by omega))
          clear hm0 htx hbig
          obtain ⟨wo, hwo⟩ : ∃ z, z = wr := ⟨_, rfl⟩
          subst hwo
          go_wp2
          go_loopw [10, 11] (fun xv jv wi => ∃ (t : Nat) (x : List Int), t ≤ q ∧ jv = .int .i64 ((m0 + t : Nat) : Int) ∧ x = orL ((X.drop m0).take t) ∧ NumO wi w.heap.size (Value.slice Av N cv).ownBlock xv x ∧ RowI wi w.heap.size (.slice Av N cv) X U ∧ RowI wi w.heap.size (.slice Av m0 cv) (X.take m0) (U.take m0) ∧ Below w.heap.size w wi ∧ Below W1.heap.size W1 wi) (fun _ jv _ => N - (intOf jv).toNat)
          case atStart => exact ⟨0, _, by omega, by go_num, rfl, NumO.nil _ _ _, HR1.out, HRT.out, HB1.out, Below.refl _ _⟩
          case round =>
            obtain ⟨t, x, htq, rfl, hx, hno, hri, hrt, hbi, hbo⟩ := hrel
            have htl := orL_tot ((X.drop m0).take t)
            rw [← hx] at htl
            have ht2 := totL_cut X m0
            have ht3 := totL_cut (X.drop m0) t
            have hbg := HBIG.out
            have hxl : x.length ≤ 400000 := by omega
            have HX2 := Lib.hid hx
            have HRI := Lib.hid hri
            have HRT2 := Lib.hid hrt
            have HBI := Lib.hid hbi
            have HBO := Lib.hid hbo
            have hbzi := hbi.size
            have p0' := below_cells hbo o0
            obtain ⟨A1, k1, rfl, h1c, h1i, h1f⟩ := hno.see
            have HNO := Lib.hid hno
            have HI1 := Lib.hid h1i
            obtain ⟨j, hj⟩ : ∃ j, j = m0 + t := ⟨_, rfl⟩
            rw [← hj]
            clear htl ht2 ht3 hx hno hri hrt hbi hbo h1f h1i
            rcases Nat.lt_or_ge t q with hlt3 | hge3
            · have hjN : j < N := by have := HM0.out; omega
              have hjN' : (j : Int) < (N : Int) := by omega
              have pj0 : (0 : Int) ≤ (j : Int) := by omega
              have hwj : IntKind.i64.wrap ((j : Int) + 1) = (j : Int) + 1 := IntWalk.i64_in _ (by omega)
              obtain ⟨y, hy⟩ : ∃ y, X[j]? = some y := ⟨_, List.getElem?_eq_getElem (by rw [HN.out]; exact hjN)⟩
              have hyt := totL_mem hy
              have hyl : y.length ≤ 400000 := by omega
              obtain ⟨_, hu, hny⟩ := HRI.out.each j y hy
              obtain ⟨A2, k2, rfl, h2c, h2i, h2f⟩ := hny.see
              have HNY := Lib.hid hny
              have HI2 := Lib.hid h2i
              have hro := HRI.out.own
              rw [HN.out] at hro
              have hsr := src_of_own hro
              have hgl : ∀ i, (Value.slice Av N cv).ownBlock = some i → i < wr.heap.size := fun i e => (HRI.out.own.lt i e).2
              have HGL2 := Lib.hid hgl
              have HTS : Hid ((X.drop m0).take (t + 1) = (X.drop m0).take t ++ [y]) := Lib.hid (take_snoc (by rw [List.getElem?_drop, ← hj]; exact hy))
              cases Av with
              | none => have := hsr.nil rfl; omega
              | some ad =>
              have ea : wr.cell? (ad.add j) = some (.slice A2 y.length k2) := hsr.cells ad rfl j _ hu
              have HJ := Lib.hid hj
              clear hy hyt hu hny h2i h2f hro hsr hgl hj
              have HL1 := Lib.hid (r11Or_any wr A1 A2 x.length y.length k1 k2 x y HI1.out HI2.out (by omega) (by omega))
              have HLF : Hid (Fit64 (orI x y)) := Lib.hid (fun z hz => by
                rcases (mem_or x y z).1 hz with h1 | h1
                · exact HI1.out.2.2.1 z h1
                · exact HI2.out.2.2.1 z h1)
              have HLM : Hid ((orI x y).length ≤ maxLen) := Lib.hid (by have := orI_len x y; unfold maxLen; omega)
              go_wp2_with fail
              refine HL1.out.mono ?_
              rintro e w2 hno
              obtain ⟨Y, cy, rfl, hy2, hb2⟩ := NumO.made hno HLF.out HLM.out hbzi HGL2.out
              obtain ⟨ly, hly⟩ : ∃ ly, ly = orI x y := ⟨_, rfl⟩
              rw [← hly] at hy2 ⊢
              have HYn := Lib.hid hy2
              have HRn := Lib.hid (HRI.out.below hb2)
              have HRm := Lib.hid (HRT2.out.below hb2)
              have HBn : Hid (Below w.heap.size w w2) := Lib.hid (HBI.out.trans (hb2.mono hbzi))
              have HBp : Hid (Below W1.heap.size W1 w2) := Lib.hid (below_then HBO.out hb2 HBO.out.size)
              have HLY := Lib.hid hly
              clear hno hy2 hb2 hly HL1
              go_wp2
              go_roundw
              case rel => exact ⟨t + 1, ly, by omega, by have := HJ.out; go_num, by rw [HTS.out, orL_snoc, HLY.out, HX2.out], HYn.out, HRn.out, HRm.out, HBn.out, HBp.out⟩
              case measure => simp [intOf]; omega
            · have hjN : j = N := by have := HM0.out; omega
              have hjl : ¬ ((j : Int) < (N : Int)) := by omega
              have dl : decide ((j : Int) < (N : Int)) = false := decide_eq_false hjl
              have htq2 : t = q := by omega
              have HFIN : Hid (X.take m0 ++ [x] = runO T (i + 1)) := Lib.hid (by rw [← HWF.out, HX2.out, htq2])
              have HRn := HRT2
              have HBn := HBI
              have HML : Hid ((X.take m0).length = m0) := Lib.hid (by have := HM0.out; rw [List.length_take, HN.out]; omega)
              have hoe : (Value.slice Av m0 cv).ownBlock = (Value.slice Av N cv).ownBlock := by cases Av <;> rfl
              have HYn : Hid (NumO wr w.heap.size (Value.slice Av m0 cv).ownBlock (.slice A1 x.length k1) x) := Lib.hid (by rw [hoe]; exact HNO.out)
              clear hjN htq2 hoe hj
              have hra := HRn.out.own
              rw [HML.out] at hra
              have HRA := Lib.hid hra
              have hbz2 := HBn.out.size
              clear hra
              go_wp2_with (at_builtin; refine wpList_append_src _ rfl (.tmp 137) (.tmp 139) 59 rfl w.heap.size 26 i0 (.slice none 0 0) 24 Try.underlying59 hi hz0 hz1 hz2 rfl _ m0 _ rfl (World.ownsRow.alloc HRA.out _) _ 1 1 _ rfl (one_any_src wr 26 _) (slice_cell _ _ _) (by unfold maxLen; omega) (by omega) (by simp; omega) ?_; intro v9 w9 hown hgrow hloc; obtain ⟨hr9, hk9⟩ := RowI.push HRn.out HYn.out (by rw [HML.out]; exact hown) hgrow hloc; have HR9 := Lib.hid hr9; have HB9 : Hid (Below w.heap.size w w9) := Lib.hid (HBn.out.trans (hk9.toBelow HBn.out.size (fun b e => (HRA.out.lt b e).1))); clear hown hgrow hloc hr9 hk9)
              go_roundw
              case rel => exact ⟨i + 1, _, _, by omega, by go_num, HFIN.out, HR9.out, HB9.out⟩
              case measure => simp [intOf]; omega
        have e0 : (x1 == 0) = false := by simpa using c0
        have e1 : (x1 == 1) = false := by simpa using c1
        have e2 : (x1 == 2) = false := by simpa using c2
        have e3 : (x1 == 3) = false := by simpa using c3
        have e4 : (x1 == 4) = false := by simpa using c4
        have e5 : (x1 == 5) = false := by simpa using c5
        have e6 : (x1 == 6) = false := by simpa using c6
        have e7 : (x1 == 7) = false := by simpa using c7
        have HFIN : Hid (X = runO T (i + 1)) := Lib.hid (by rw [HST.out, stepO]; simp [c0, c1, c2, c3, c4, c5, c6, c7])
        clear c0 c1 c2 c3 c4 c5 c6 c7
        go_wp2
        go_roundw
        case rel => exact ⟨i + 1, X, U, by omega, by go_num, HFIN.out, HR1.out, HB1.out⟩
        case measure => simp [intOf]; omega
    · obtain rfl : i = n := by omega
      have hlz : ¬ ((i : Int) < (i : Int)) := by omega
      have HWL : Hid (wantL T = X.getLastD []) := Lib.hid (by unfold wantL; rw [HLEN.out, HX.out])
      by_cases hN0 : N = 0
      · have d0 : ((N : Int) == 0) = true := by rw [hN0]; rfl
        have HE : Hid (wantL T = []) := Lib.hid (by rw [HWL.out, List.eq_nil_of_length_eq_zero (HN.out.trans hN0)]; rfl)
        clear hN0
        go_wp2
        go_ret
        rw [HE.out]
        exact ⟨_, rfl, NumO.nil _ _ _, HBW.out⟩
      · have d0 : ((N : Int) == 0) = false := beq_eq_false_iff_ne.2 (by omega)
        obtain ⟨m, hm⟩ : ∃ m, N = m + 1 := ⟨N - 1, by omega⟩
        have hwa : IntKind.i64.wrap ((N : Int) - 1) = (m : Int) := by rw [show (N : Int) - 1 = (m : Int) by omega]; exact IntWalk.i64_in _ (by omega)
        have pm0 : (0 : Int) ≤ (m : Int) := by omega
        have pm1 : (m : Int) < (N : Int) := by omega
        obtain ⟨y, hxm⟩ : ∃ y, X[m]? = some y := ⟨_, List.getElem?_eq_getElem (by rw [HN.out]; omega)⟩
        obtain ⟨_, hu, ⟨A1, k1, rfl, h1c, h1i, h1f⟩⟩ := HR.out.each m y hxm
        have HY : Hid (NumO wr w.heap.size none (.slice A1 y.length k1) y) := Lib.hid ⟨A1, k1, rfl, h1c, h1i, fun ad e h0 => ⟨(h1f ad e h0).1, fun e2 => by cases e2⟩⟩
        have hro := HR.out.own
        rw [HN.out] at hro
        have hsr := src_of_own hro
        cases Av with
        | none => have := hsr.nil rfl; omega
        | some ad =>
        have ea : wr.cell? (ad.add m) = some (.slice A1 y.length k1) := hsr.cells ad rfl m _ hu
        have HWY : Hid (wantL T = y) := Lib.hid (by
          rw [HWL.out, List.getLastD_eq_getLast?, List.getLast?_eq_getElem?, HN.out, show N - 1 = m by omega, hxm]
          rfl)
        clear hm hxm hu h1c h1i h1f hro hsr hN0
        go_wp2
        go_ret
        rw [HWY.out]
        exact ⟨_, rfl, HY.out, HBW.out⟩
end Go.Proofs.Ytkligdaademakaa
