/- The contracts of the document's frame: All, Whole. -/
import Derived.Test.YtmhiekbpmoikfaaGreatDoorZp2
import Derived.Test.YtmhiekbpmoikfaaGreatDoorKRows
namespace Go.Proofs.YtmhiekbpmoikfaaGreatDoor
open Go.RowKit Go.Maps Go.WideMaps

def sliceN : Value → Nat
  | .slice _ n _ => n
  | _ => 0
/-- What All leaves. -/
def AllOut (w : World) (g : List Nm × Int) (e : Ending) (w' : World) : Prop :=
  ∃ v, e = .returned (.tuple #[v, .int .i64 g.2]) ∧ RowsAt w' w.heap.size v g.1 ∧ Below w.heap.size w w'
theorem alok {w w' : World} {g : List Nm × Int} {L : List Nm} {e : Int} {v : Value} (h : g = (L, e)) (hr : RowsAt w' w.heap.size v L) (hb : Below w.heap.size w w') : AllOut w g (.returned (.tuple #[v, .int .i64 e])) w' := by
  subst h
  exact ⟨v, rfl, hr, hb⟩
theorem allAux_nil (f : Nat) (acc : List Nm) : allAux f [] acc = (acc, 0) := by cases f <;> simp [allAux]
theorem wholeAux_nil (f at_ : Nat) (acc : List Nm) : wholeAux f at_ [] acc = (acc, at_) := by cases f <;> simp [wholeAux]

set_option maxHeartbeats 4000000 in
set_option maxRecDepth 100000 in
theorem r4All_any (w : World) (A : Option Addr) (n c : Nat) (l : Nm) (hl : BytesIn w A n l) (hc : n ≤ c) (hn : n ≤ 1099511627776) :
    Calls Tryz.prog 60 #[.slice A n c] w (AllOut w (allF l)) := by
  obtain ⟨i0, hi, hz0, hz1, hz2⟩ := info_parts rowInfo
  have hln : l.length = n := by have := hl.2.1.len; simpa using this
  obtain ⟨G, hG⟩ : ∃ G, G = allF l := ⟨_, rfl⟩
  rw [← hG]
  have HG0 : Hid (allAux n l [] = G) := Lib.hid (by rw [hG]; unfold allF; rw [hln])
  have HL := Lib.hid hl
  have HLN := Lib.hid hln
  clear hl hln hG
  go_enter Tryz.func60, Tryz.ntmps60
  go_wp2
  go_loopw [0, 4] (fun s v wr => ∃ (B : Option Addr) (m cb f : Nat) (r : Nm) (acc : List Nm), s = .slice B m cb ∧ m ≤ cb ∧ BytesIn w B m r ∧ m ≤ f ∧ allAux f r acc = G ∧ acc.length + m ≤ n ∧ RowsAt wr w.heap.size v acc ∧ Below w.heap.size w wr) (fun s _ _ => sliceN s)
  case atStart => exact ⟨A, n, c, n, l, [], rfl, hc, HL.out, Nat.le_refl _, HG0.out, by simp, RowsAt.nil _ _, Below.refl _ _⟩
  case round =>
    obtain ⟨B, m, cb, f, r, acc, rfl, hmc, hr, hmf, hg, hacc, hrow, hB⟩ := hrel
    have HR := Lib.hid hr
    have HGG := Lib.hid hg
    have HROW := Lib.hid hrow
    have HB := Lib.hid hB
    have hrl : r.length = m := by have := hr.2.1.len; simpa using this
    have HRL := Lib.hid hrl
    clear hr hg hrow hB hrl HG0 HL HLN
    rcases Nat.eq_zero_or_pos m with h0 | hpos
    · subst h0
      have hz : ¬ (0 : Int) < ((0 : Nat) : Int) := by omega
      have hfin : G = (acc, 0) := by rw [← HGG.out, List.eq_nil_of_length_eq_zero HRL.out, allAux_nil]
      have HF := Lib.hid hfin
      clear hfin
      go_wp2
      go_ret2
      exact alok HF.out HROW.out HB.out
    · have hposz : (0 : Int) < (m : Int) := by omega
      obtain ⟨f', rfl⟩ : ∃ f', f = f' + 1 := ⟨f - 1, by omega⟩
      have hstep := HGG.out
      simp only [allAux] at hstep
      rw [if_neg (by rw [HRL.out]; omega)] at hstep
      obtain ⟨x, k, e, hgf⟩ : ∃ x k e, getF r = (x, k, e) := ⟨_, _, _, rfl⟩
      rw [hgf] at hstep
      simp only at hstep
      have HST := Lib.hid hstep
      have HGF := Lib.hid hgf
      clear hstep hgf
      go_wp2_with fail
      refine (r4Get_any wr B m cb r (HR.out.below HB.out) hmc (by omega)).mono ?_
      rintro e2 w2 ⟨v2, rfl, ho2, hb2⟩
      rw [HGF.out] at ho2 ⊢
      simp only at ho2
      have HO2 := Lib.hid ho2
      have HB2 := Lib.hid (below_then HB.out hb2 HB.out.size)
      have HROW2 := Lib.hid (HROW.out.below hb2)
      have hsz2 := hb2.size
      clear ho2 hb2
      by_cases he : e = 0
      · subst he
        have hst := HST.out
        rw [if_neg (by simp)] at hst
        have HS := Lib.hid hst
        have hinv := getF_inv HGF.out
        obtain ⟨q1, q2, q3, q4⟩ := hinv
        rw [HRL.out] at q2
        clear hst q3
        obtain ⟨A2, c2, hv2⟩ := own_slice HO2.out
        subst hv2
        obtain ⟨svs, ho, h2⟩ := HROW2.out
        obtain ⟨Av, cv, hv⟩ := own_slice ho
        subst hv
        have hvl : ∀ g, (Value.slice Av acc.length cv).ownBlock = some g → g < wr.heap.size := by
          obtain ⟨_, ho0, _⟩ := HROW.out
          exact fun g hg => (ho0.lt g hg).2
        have HVL := Lib.hid hvl
        have hsl : svs.length = acc.length := by have := ho.1; simpa using this
        have HSL := Lib.hid hsl
        have HSO := Lib.hid ho
        have HS2 := Lib.hid h2
        have s1 : ∀ w, (Instr.slice 25 (.slice B m cb) (some (.int .i64 k)) none none).run Tryz.prog w = .ok (.slice (cutAddr B k cb) (m - k) (cb - k)) w := fun w => slice_from w B m cb k q2
        have hone : ∀ u ∈ [Value.slice A2 x.length c2], u.oneCell' = true := by simp [Value.oneCell']
        have HONE := Lib.hid hone
        clear ho h2 hvl hsl hone
        go_wp2_with (at_builtin; refine wpList_append_src _ rfl (.tmp 20) (.tmp 22) 98 rfl w.heap.size 25 i0 (.slice none 0 0) 24 Tryz.underlying98 hi hz0 hz1 hz2 rfl _ acc.length svs rfl (HSO.out.alloc _) _ 1 1 _ rfl (one_row_src w2 (.slice A2 x.length c2) rfl) HONE.out (by unfold maxLen; omega) (by omega) (by have := HB2.out.size; simp; omega) ?_; intro v3 w3 hown hgrow hloc; have HO3 := Lib.hid hown; have HG3 := Lib.hid hgrow; have HLOC : Hid (v3.ownBlock = (Value.slice Av acc.length cv).ownBlock ∨ v3.ownBlock = some (w2.alloc (.cells #[.slice A2 x.length c2] 25)).heap.size) := Lib.hid hloc; clear hown hgrow hloc)
        have hB3 := (HB2.out.alloc HB2.out.size (.cells #[.slice A2 x.length c2] 25)).grown HG3.out (by have := HB2.out.size; simp; omega) (fun g hg => (HSO.out.lt g hg).1)
        have HB3 := Lib.hid hB3
        have hkeep : Below w2.heap.size w2 (w2.alloc (.cells #[.slice A2 x.length c2] 25)) := (Below.refl _ w2).alloc (Nat.le_refl _) _
        have hnew : RowsAt w3 w.heap.size v3 (acc ++ [x]) := by
          refine RowsAt.push (w := w2.alloc (.cells #[.slice A2 x.length c2] 25)) (v := .slice Av acc.length cv) (svs := svs) (fun i sv y e1 e2 => ?_) HSL.out (Holds1.below (Holds1.own HO2.out (by unfold maxLen; omega)) hkeep) ?_ HO3.out HG3.out ?_
          · obtain ⟨A4, c4, h3, h4, h5, h6⟩ := HS2.out i sv y e1 e2
            exact ⟨A4, c4, h3, h4, h5.below hkeep, h6⟩
          · intro A4 c4 ad e1 e2 _ e3
            injection e1 with e1
            subst e1
            have h3 := HVL.out _ e3
            have h4 := (HO2.out.lt ad.block (by rw [e2]; rfl)).1
            omega
          · rcases HLOC.out with h | h
            · exact .inl h
            · exact .inr ⟨_, h, Nat.le_refl _⟩
        have HNEW := Lib.hid hnew
        clear hB3 hkeep hnew
        go_roundw
        case rel =>
          refine ⟨cutAddr B k cb, m - k, cb - k, f', r.drop k, acc ++ [x], rfl, by omega, ?_, by omega, HS.out, by rw [List.length_append, List.length_singleton]; omega, HNEW.out, HB3.out⟩
          have h := HR.out.sub hmc k m q2 (Nat.le_refl _)
          rw [List.take_of_length_le (by rw [HRL.out]; exact Nat.le_refl _)] at h
          exact h
        case measure => simp [sliceN]; omega
      · have hst := HST.out
        rw [if_pos he] at hst
        have HS := Lib.hid hst
        have d1 : (e != 0) = true := by simpa using he
        clear hst he
        go_wp2
        go_ret2
        exact alok HS.out.symm (RowsAt.nil _ _) HB2.out
end Go.Proofs.YtmhiekbpmoikfaaGreatDoor
