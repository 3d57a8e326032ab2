/- The landed sets: Gather. -/
import Derived.Test.YtkligdaademakaaSoLess
import Derived.Test.YtkligdaademakaaSeCut
namespace Go.Proofs.Ytkligdaademakaa
open Go.RowKit Go.Maps Go.WideMaps Go.Shelf
set_option linter.unusedSimpArgs false

set_option maxHeartbeats 4000000 in
set_option maxRecDepth 100000 in
theorem seGather_any {Q : MvP} (hQ : MovesOk Q) (w : World) (F : Nat → Prop) (p : Option Addr) (l : List Int) (h : SetLv Q w F p l) (hn : l.length ≤ 1000000) : Calls Try.prog 11 #[.pointer p] w fun e w' => ∃ A c, e = .returned (.slice A l.length c) ∧ l.length ≤ c ∧ IntsIn w' A l.length l ∧ (∀ ad, A = some ad → 0 < l.length → F ad.block ∨ w.heap.size ≤ ad.block) ∧ Kept F w w' := by
  obtain ⟨i0, hi, hz0, hz1, hz2⟩ := info_parts intInfo64
  have HD := Lib.hid (seDoc_any h)
  have HH := Lib.hid h
  have HU := Lib.hid h.up
  have HLT := Lib.hid h.lt
  clear h
  go_enter Try.func11, Try.ntmps11
  go_wp2_with fail
  refine HD.out.mono ?_
  rintro e w1 ⟨rfl, hw⟩
  rw [hw]
  clear hw
  go_wp2
  go_loopw [3, 4, 5] (fun v dv iv wr => ∃ (pre r : List Int) (F' : Nat → Prop), l = pre ++ r ∧ dv = .int .i64 (r.headD 0) ∧ iv = .bool (!r.isEmpty) ∧ SetLv Q wr F' p r ∧ Kept F w wr ∧ (∀ i, F' i → F i ∨ w.heap.size ≤ i) ∧ wr.ownsRow w.heap.size 2 1 v pre.length (pre.map i64V) ∧ ∀ g, v.ownBlock = some g → ¬ F' g) (fun _ dv iv _ => lessMeas dv iv)
  case atStart => exact ⟨[], l, F, rfl, by simp, rfl, HH.out, Kept.refl _ _, fun i hi => .inl hi, ⟨rfl, .inl ⟨rfl, rfl⟩⟩, fun g e => by simp [Value.ownBlock] at e⟩
  case round =>
    obtain ⟨pre, r, F', hl, rfl, rfl, hs, hk, hF, hO, hfar⟩ := hrel
    have HL := Lib.hid hl
    have HS := Lib.hid hs
    have HK := Lib.hid hk
    have HF := Lib.hid hF
    have HO := Lib.hid hO
    have HFAR := Lib.hid hfar
    have hzr := hk.size
    have hlen : pre.length + r.length = l.length := by rw [hl, List.length_append]
    clear hl hs hk hF hO hfar
    cases r with
    | nil =>
      have hpre : pre = l := by rw [HL.out, List.append_nil]
      obtain ⟨A, c, rfl, hc⟩ := own_cap HO.out
      have HPRE := Lib.hid hpre
      clear hpre hlen
      go_wp2
      go_ret
      rw [← HPRE.out]
      refine ⟨A, c, rfl, hc, IntsIn.own HO.out (by have := HPRE.out; rw [← this] at hn; unfold maxLen; omega) (fun x hx => ?_), fun ad e _ => .inr (HO.out.lt ad.block (by rw [e]; rfl)).1, HK.out⟩
      have hx2 : x ∈ l := by rw [← HPRE.out]; exact hx
      exact ⟨by have := HU.out.pos x hx2; omega, HU.out.most x hx2⟩
    | cons x r =>
      have hx : (x :: r).headD 0 = x := rfl
      have hxl : x ∈ l := by rw [HL.out]; simp
      have hup := HS.out.up
      have HUP := Lib.hid hup
      have hmem : ∀ y ∈ r, x < y := rises_gt (by have := hup.up; simp only [rises, Bool.and_eq_true, decide_eq_true_eq] at this; exact this.2)
      have HMEM := Lib.hid hmem
      have hpl : pre.length < 1000000 := by simp only [List.length_cons] at hlen; omega
      have hxm := HU.out.most x hxl
      obtain ⟨Av, cv, hv⟩ := own_slice HO.out
      subst hv
      clear hx hup hmem hlen hxl
      go_wp2_with (at_builtin; refine wpList_append_src _ rfl (.tmp 17) (.tmp 19) 26 rfl w.heap.size 2 i0 (.int .i64 0) 8 Try.underlying26 hi hz0 hz1 hz2 rfl _ pre.length _ rfl (World.ownsRow.alloc HO.out _) _ 1 1 _ rfl (one_int_src _ 2 x) (i64V_one [x]) (by unfold maxLen; omega) (by omega) (by simp; omega) ?_; intro v3 w3 hown hgrow hloc)
      have hk3 : Kept (fun g => (Value.slice Av pre.length cv).ownBlock = some g) wr w3 := ((Kept.refl _ wr).alloc _).grown hgrow (fun k e => .inl e)
      have hs3 : SetLv Q w3 F' p (x :: r) := HS.out.keep hQ (fun b hb => hk3.block b (HS.out.lt b hb) (fun e => HFAR.out b e hb)) hk3.size
      have hfar3 : ∀ g, v3.ownBlock = some g → ¬ F' g ∧ g < w3.heap.size := fun g e => ⟨fun hf => by
        rcases hloc with h1 | h1
        · have h2 : v3.ownBlock = (Value.slice Av pre.length cv).ownBlock := h1
          exact HFAR.out g (by rw [← h2]; exact e) hf
        · rw [h1] at e
          have h2 := Option.some.inj e
          have h3 := HS.out.lt g hf
          simp at h2
          omega, (hown.lt g e).2⟩
      have HK3 : Hid (Kept F w w3) := Lib.hid (HK.out.trans hk3 (fun i hi e => by have := (HO.out.lt i e).1; omega))
      have HNEXT := Lib.hid (seNext_any hQ hs3)
      have HO3 := Lib.hid hown
      have HFAR3 := Lib.hid hfar3
      have hz3 := hk3.size
      clear hown hgrow hloc hk3 hs3 hfar3
      refine HNEXT.out.mono ?_
      rintro e w4 ⟨rfl, F2, h1, h2, h3⟩
      have HO4 : Hid (w4.ownsRow w.heap.size 2 1 v3 (pre.length + 1) (pre.map i64V ++ [x].map i64V)) := Lib.hid (ownsRow_block HO3.out fun g e => h2.block g (HFAR3.out g e).2 (HFAR3.out g e).1)
      have HFAR4 : Hid (∀ g, v3.ownBlock = some g → ¬ F2 g) := Lib.hid fun g e hf => by
        rcases h3 g hf with h4 | h4
        · exact (HFAR3.out g e).1 h4
        · have := (HFAR3.out g e).2; omega
      have HK4 : Hid (Kept F w w4) := Lib.hid (HK3.out.trans h2 (fun i hi e => by
        rcases HF.out i e with h4 | h4
        · exact h4
        · omega))
      have HF4 : Hid (∀ i, F2 i → F i ∨ w.heap.size ≤ i) := Lib.hid fun i hi => by
        rcases h3 i hi with h4 | h4
        · exact HF.out i h4
        · right; omega
      have HS4 : Hid (SetLv Q w4 F2 p r) := Lib.hid h1
      have HD4 := Lib.hid (seDoc_any h1)
      clear h1 h2 h3 HNEXT
      go_wp2_with fail
      refine HD4.out.mono ?_
      rintro e w5 ⟨rfl, hw⟩
      rw [hw]
      clear hw
      go_wp2
      go_roundw
      case rel => exact ⟨pre ++ [x], r, F2, by rw [HL.out]; simp, by simp, rfl, HS4.out, HK4.out, HF4.out, by rw [List.length_append, List.map_append]; exact HO4.out, HFAR4.out⟩
      case measure =>
        have hm := HMEM.out
        have hu := HS4.out.up
        clear HS4 HO4 HL
        cases r with
        | nil => simp [lessMeas]
        | cons y r =>
          have h1 := hm y (List.mem_cons_self ..)
          have h2 := hu.most y (List.mem_cons_self ..)
          simp [lessMeas, intOf]
          omega
end Go.Proofs.Ytkligdaademakaa
