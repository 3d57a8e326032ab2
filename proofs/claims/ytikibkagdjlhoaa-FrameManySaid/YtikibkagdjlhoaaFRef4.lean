/- The contract of the document's frame: Whole. -/
import Derived.Test.YtikibkagdjlhoaaFRef3
namespace Go.Proofs.Ytikibkagdjlhoaa
open Go.RowKit Go.Maps Go.WideMaps

/-- What Whole leaves. -/
def WholeOut (w : World) (g : List Nm × Nat) (e : Ending) (w' : World) : Prop :=
  ∃ v, e = .returned (.tuple #[v, .int .i64 g.2]) ∧ RowsAt w' w.heap.size v g.1 ∧ Below w.heap.size w w'
theorem whok {w w' : World} {g : List Nm × Nat} {L : List Nm} {k : Nat} {v : Value} (h : g = (L, k)) (hr : RowsAt w' w.heap.size v L) (hb : Below w.heap.size w w') : WholeOut w g (.returned (.tuple #[v, .int .i64 k])) w' := by
  subst h
  exact ⟨v, rfl, hr, hb⟩
theorem wholeAux_nil (f at_ : Nat) (acc : List Nm) : wholeAux f at_ [] acc = (acc, at_) := by cases f <;> simp [wholeAux]

set_option maxHeartbeats 4000000 in
set_option maxRecDepth 100000 in
theorem r4Whole_any (w : World) (A : Option Addr) (n c : Nat) (l : Nm) (hl : BytesIn w A n l) (hc : n ≤ c) (hn : n ≤ 1099511627776) :
    Calls Try.prog 13 #[.slice A n c] w (WholeOut w (wholeF l)) := by
  obtain ⟨i0, hi, hz0, hz1, hz2⟩ := info_parts rowInfo
  have hln : l.length = n := by have := hl.2.1.len; simpa using this
  obtain ⟨G, hG⟩ : ∃ G, G = wholeF l := ⟨_, rfl⟩
  rw [← hG]
  have HG0 : Hid (wholeAux n 0 l [] = G) := Lib.hid (by rw [hG]; unfold wholeF; rw [hln])
  have HL := Lib.hid hl
  have HLN := Lib.hid hln
  clear hl hln hG
  go_enter Try.func13, Try.ntmps13
  go_wp2
  go_loopw [4, 5] (fun v s wr => ∃ (at_ f : Nat) (acc : List Nm), s = .int .i64 at_ ∧ at_ ≤ n ∧ n - at_ ≤ f ∧ wholeAux f at_ (l.drop at_) acc = G ∧ acc.length ≤ at_ ∧ RowsAt wr w.heap.size v acc ∧ Below w.heap.size w wr) (fun _ s _ => n - (intOf s).toNat)
  case atStart => exact ⟨0, n, [], rfl, by omega, by omega, HG0.out, by simp, RowsAt.nil _ _, Below.refl _ _⟩
  case round =>
    obtain ⟨at_, f, acc, rfl, hat, hmf, hg, hacc, hrow, hB⟩ := hrel
    obtain ⟨r, hr0⟩ : ∃ r, r = l.drop at_ := ⟨_, rfl⟩
    obtain ⟨m, hm0⟩ : ∃ m, m = n - at_ := ⟨_, rfl⟩
    have hsub := HL.out.sub hc at_ n hat (Nat.le_refl _)
    rw [show (l.take n).drop at_ = r by rw [hr0, List.take_of_length_le (by rw [HLN.out]; exact Nat.le_refl _)], ← hm0] at hsub
    have HR := Lib.hid hsub
    rw [← hr0] at hg
    rw [← hm0] at hmf
    have HGG := Lib.hid hg
    have HROW := Lib.hid hrow
    have HB := Lib.hid hB
    have hrl : r.length = m := by have := hsub.2.1.len; simpa using this
    have HRL := Lib.hid hrl
    have HRD := Lib.hid hr0
    have sA : ∀ w, (Instr.slice 22 (.slice A n c) (some (.int .i64 at_)) none none).run Try.prog w = .ok (.slice (cutAddr A at_ c) m (c - at_)) w := fun w => by rw [hm0]; exact slice_from w A n c at_ hat
    have hmc : m ≤ c - at_ := by omega
    have hmn : at_ + m = n := by omega
    clear hr0 hm0 hsub hg hrow hB hrl HG0 HL HLN
    rcases Nat.eq_zero_or_pos m with h0 | hpos
    · obtain rfl : at_ = n := by omega
      have hz : ¬ ((at_ : Int) < (at_ : Int)) := by omega
      have hfin : G = (acc, at_) := by rw [← HGG.out, List.eq_nil_of_length_eq_zero (HRL.out.trans h0), wholeAux_nil]
      have HF := Lib.hid hfin
      clear hfin
      go_wp2
      go_ret2
      exact whok HF.out HROW.out HB.out
    · have hposz : (at_ : Int) < (n : Int) := by omega
      obtain ⟨f', rfl⟩ : ∃ f', f = f' + 1 := ⟨f - 1, by omega⟩
      have hstep := HGG.out
      simp only [wholeAux] at hstep
      rw [if_neg (by rw [HRL.out]; omega)] at hstep
      obtain ⟨x, k, e, hgf⟩ : ∃ x k e, getF r = (x, k, e) := ⟨_, _, _, rfl⟩
      rw [hgf] at hstep
      simp only at hstep
      have HST := Lib.hid hstep
      have HGF := Lib.hid hgf
      clear hstep hgf
      go_wp2_with fail
      refine (r4Get_any wr (cutAddr A at_ c) m (c - at_) r (HR.out.below HB.out) hmc (by omega)).mono ?_
      rintro e2 w2 ⟨v2, rfl, ho2, hb2⟩
      rw [HGF.out] at ho2 ⊢
      simp only at ho2
      have HO2 := Lib.hid ho2
      have HB2 := Lib.hid (below_then HB.out hb2 HB.out.size)
      have HROW2 := Lib.hid (HROW.out.below hb2)
      have hsz2 := hb2.size
      clear ho2 hb2
      by_cases he : e = 0
      · subst he
        have hst := HST.out
        rw [if_neg (by simp)] at hst
        have HS := Lib.hid hst
        have hinv := getF_inv HGF.out
        obtain ⟨q1, q2, q3, q4⟩ := hinv
        rw [HRL.out] at q2
        clear hst q3
        obtain ⟨A2, c2, hv2⟩ := own_slice HO2.out
        subst hv2
        obtain ⟨svs, ho, h2⟩ := HROW2.out
        obtain ⟨Av, cv, hv⟩ := own_slice ho
        subst hv
        have hvl : ∀ g, (Value.slice Av acc.length cv).ownBlock = some g → g < wr.heap.size := by
          obtain ⟨_, ho0, _⟩ := HROW.out
          exact fun g hg => (ho0.lt g hg).2
        have HVL := Lib.hid hvl
        have hsl : svs.length = acc.length := by have := ho.1; simpa using this
        have HSL := Lib.hid hsl
        have HSO := Lib.hid ho
        have HS2 := Lib.hid h2
        have hat2 : IntKind.i64.wrap ((at_ : Int) + (k : Int)) = ((at_ + k : Nat) : Int) := by rw [IntWalk.i64_in _ (by omega)]; simp
        obtain ⟨at2, hA2⟩ : ∃ a, a = at_ + k := ⟨_, rfl⟩
        rw [← hA2] at hat2
        have hone : ∀ u ∈ [Value.slice A2 x.length c2], u.oneCell' = true := by simp [Value.oneCell']
        have HONE := Lib.hid hone
        clear ho h2 hvl hsl hone
        go_wp2_with (at_builtin; refine wpList_append_src _ rfl (.tmp 25) (.tmp 27) 27 rfl w.heap.size 22 i0 (.slice none 0 0) 24 Try.underlying27 hi hz0 hz1 hz2 rfl _ acc.length svs rfl (HSO.out.alloc _) _ 1 1 _ rfl (one_row_src w2 (.slice A2 x.length c2) rfl) HONE.out (by unfold maxLen; omega) (by omega) (by have := HB2.out.size; simp; omega) ?_; intro v3 w3 hown hgrow hloc; have HO3 := Lib.hid hown; have HG3 := Lib.hid hgrow; have HLOC : Hid (v3.ownBlock = (Value.slice Av acc.length cv).ownBlock ∨ v3.ownBlock = some (w2.alloc (.cells #[.slice A2 x.length c2] 22)).heap.size) := Lib.hid hloc; clear hown hgrow hloc)
        have hB3 := (HB2.out.alloc HB2.out.size (.cells #[.slice A2 x.length c2] 22)).grown HG3.out (by have := HB2.out.size; simp; omega) (fun g hg => (HSO.out.lt g hg).1)
        have HB3 := Lib.hid hB3
        have hkeep : Below w2.heap.size w2 (w2.alloc (.cells #[.slice A2 x.length c2] 22)) := (Below.refl _ w2).alloc (Nat.le_refl _) _
        have hnew : RowsAt w3 w.heap.size v3 (acc ++ [x]) := by
          refine RowsAt.push (w := w2.alloc (.cells #[.slice A2 x.length c2] 22)) (v := .slice Av acc.length cv) (svs := svs) (fun i sv y e1 e2 => ?_) HSL.out (Holds1.below (Holds1.own HO2.out (by unfold maxLen; omega)) hkeep) ?_ HO3.out HG3.out ?_
          · obtain ⟨A4, c4, h3, h4, h5, h6⟩ := HS2.out i sv y e1 e2
            exact ⟨A4, c4, h3, h4, h5.below hkeep, h6⟩
          · intro A4 c4 ad e1 e2 _ e3
            injection e1 with e1
            subst e1
            have h3 := HVL.out _ e3
            have h4 := (HO2.out.lt ad.block (by rw [e2]; rfl)).1
            omega
          · rcases HLOC.out with h | h
            · exact .inl h
            · exact .inr ⟨_, h, Nat.le_refl _⟩
        have HNEW := Lib.hid hnew
        clear hB3 hkeep hnew
        go_roundw
        case rel =>
          exact ⟨at2, f', acc ++ [x], by rw [hA2]; go_num, by omega, by omega, by have h := HS.out; rw [HRD.out, List.drop_drop, ← hA2] at h; exact h, by rw [List.length_append, List.length_singleton]; omega, HNEW.out, HB3.out⟩
        case measure => simp [intOf]; omega
      · have hst := HST.out
        rw [if_pos he] at hst
        have HS := Lib.hid hst
        have d1 : (e != 0) = true := by simpa using he
        clear hst he
        go_wp2
        go_ret2
        exact whok HS.out.symm HROW2.out HB2.out
end Go.Proofs.Ytikibkagdjlhoaa
