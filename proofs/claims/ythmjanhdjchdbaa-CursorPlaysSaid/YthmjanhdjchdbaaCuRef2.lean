/- The document's cursor: Next, Skip. -/
import Derived.Test.YthmjanhdjchdbaaCuRef1
namespace Go.Proofs.Ythmjanhdjchdbaa
open Go.RowKit Go.Maps Go.WideMaps
set_option linter.unusedSimpArgs false

/-- It stands further on. -/
theorem R10At.move {w w' : World} {lo b : Nat} {s : CSt} (h : R10At w lo b s) {a : Nat} (h1 : s.at_ ≤ a) (h2 : a ≤ s.l.length) (hw : w' = w.setCell ⟨b, 1, none⟩ (.int .i64 a)) : R10At w' lo b { s with at_ := a } ∧ Kept (fun i => i = b) w w' := by
  have hk : Kept (fun i => i = b) w w' := by rw [hw]; exact (Kept.refl (fun i => i = b) w).setCell (p := ⟨b, 1, none⟩) (.inl rfl) _
  refine ⟨h.turn rfl (h.1.move h1 h2) (fun i hi hlt => hk.block i hlt hi) (fun v hv => ?_), hk⟩
  rw [hw]
  exact r10_at hv _
theorem keptB {b : Nat} {u v w : World} (h : Kept (fun i => i = b) u v) (k : Kept (fun i => i = b) v w) : Kept (fun i => i = b) u w := h.trans k fun _ _ h => h

set_option maxHeartbeats 4000000 in
set_option maxRecDepth 100000 in
theorem r10Next_any {w : World} {lo b : Nat} {s : CSt} (h : R10At w lo b s) (hlo : lo ≤ b) : Calls Try.prog 20 #[.pointer (some ⟨b, 0, none⟩)] w fun e w' => e = .returned (.bool (cIn (cNext s))) ∧ R10At w' lo b (cNext s) ∧ Kept (fun i => i = b) w w' := by
  obtain ⟨A, c, hS⟩ := h.sees
  have hW := h.1
  have HH := Lib.hid h
  obtain ⟨N, hN⟩ : ∃ N, N = s.l.length := ⟨_, rfl⟩
  obtain ⟨a, ha⟩ : ∃ a, a = s.at_ := ⟨_, rfl⟩
  have hN4 : N ≤ 4096 := by rw [hN]; exact hW.few
  have c0 : ∀ q, (w.drewN q).cell? ⟨b, 0, none⟩ = some (.slice A N c) := fun q => by rw [hN]; exact hS.blk.cell 0
  have c1 : ∀ q, (w.drewN q).cell? ⟨b, 1, none⟩ = some (.int .i64 (a : Int)) := fun q => by rw [ha]; exact hS.blk.cell 1
  have f1 : ∀ q, (w.drewN q).frozen? ⟨b, 1, none⟩ = false := fun q => hS.blk.frozen 1
  have HE := Lib.hid (And.intro ha hN)
  clear h hS hW hN ha
  rcases Nat.lt_or_ge a N with hlt | hge
  · have d1 : decide ((a : Int) < (N : Int)) = true := decide_eq_true (by omega)
    have d1n : decide (a < N) = true := decide_eq_true hlt
    have hw1 : IntKind.i64.wrap ((a : Int) + 1) = (a : Int) + 1 := IntWalk.i64_in _ (by omega)
    have HMV : Hid (∀ q, R10At ((w.drewN q).setCell ⟨b, 1, none⟩ (.int .i64 ((a : Int) + 1))) lo b { s with at_ := s.at_ + 1 } ∧ Kept (fun i => i = b) w ((w.drewN q).setCell ⟨b, 1, none⟩ (.int .i64 ((a : Int) + 1)))) := Lib.hid (fun q => by
      have h1 := (HH.out.keep (w' := w.drewN q) (fun _ _ _ => rfl) hlo).move (a := s.at_ + 1) (Nat.le_succ _) (by rw [← HE.out.1, ← HE.out.2]; exact hlt) rfl
      rw [show ((s.at_ + 1 : Nat) : Int) = (a : Int) + 1 by rw [HE.out.1]; push_cast; rfl] at h1
      exact ⟨h1.1, keptB ((Kept.refl _ _).drewN q) h1.2⟩)
    have HNX : Hid (cNext s = cStand { s with at_ := s.at_ + 1 }) := Lib.hid (by unfold cNext; rw [if_pos (by rw [← HE.out.1, ← HE.out.2]; exact hlt)])
    go_enter Try.func20, Try.ntmps20
    go_wp2
    go_quiet (fail)
    go_wp2_with fail
    refine (r10stand_any (HMV.out _).1 hlo).mono ?_
    rintro e w2 ⟨rfl, h2, hk2⟩
    have H2 := Lib.hid h2
    have HK2 := Lib.hid hk2
    clear h2 hk2
    go_wp2
    go_ret
    rw [HNX.out, cIn_stand]
    exact ⟨rfl, H2.out, keptB (HMV.out _).2 HK2.out⟩
  · have d1 : decide ((a : Int) < (N : Int)) = false := decide_eq_false (by omega)
    have d1n : decide (a < N) = false := decide_eq_false (by omega)
    have HNX : Hid (cNext s = cStand s) := Lib.hid (by unfold cNext; rw [if_neg (by rw [← HE.out.1, ← HE.out.2]; omega)])
    go_enter Try.func20, Try.ntmps20
    go_wp2
    go_quiet (fail)
    go_wp2_with fail
    refine (r10stand_any (HH.out.keep (w' := w.drewN _) (fun _ _ _ => rfl) hlo) hlo).mono ?_
    rintro e w2 ⟨rfl, h2, hk2⟩
    have H2 := Lib.hid h2
    have HK2 := Lib.hid hk2
    clear h2 hk2
    go_wp2
    go_ret
    rw [HNX.out, cIn_stand]
    exact ⟨rfl, H2.out, keptB ((Kept.refl _ _).drewN _) HK2.out⟩

/-- Where it stands, in memory. -/
def atOf (w : World) (b : Nat) : Nat := match w.cell? ⟨b, 1, none⟩ with | some (.int _ n) => n.toNat | _ => 0
theorem atOf_is {w : World} {lo b : Nat} {s : CSt} (h : R10At w lo b s) : atOf w b = s.at_ := by
  obtain ⟨_, w0, A, c, _, _, _, h1⟩ := h
  have h2 := h1.cell 1
  unfold atOf
  rw [h2]
  simp

set_option maxHeartbeats 8000000 in
set_option maxRecDepth 100000 in
theorem r10Skip_any {w : World} {lo b : Nat} {s : CSt} (h : R10At w lo b s) (hlo : lo ≤ b) (d : Int) : Calls Try.prog 22 #[.pointer (some ⟨b, 0, none⟩), .int .i64 d] w fun e w' => e = .returned (.bool (cIn (cSkip s d))) ∧ R10At w' lo b (cSkip s d) ∧ Kept (fun i => i = b) w w' := by
  have hW := h.1
  have HH := Lib.hid h
  obtain ⟨N, hN⟩ : ∃ N, N = s.l.length := ⟨_, rfl⟩
  have hN4 : N ≤ 4096 := by rw [hN]; exact hW.few
  have HN := Lib.hid hN
  have HAT := Lib.hid hW.at_
  clear h hW hN
  go_enter Try.func22, Try.ntmps22
  go_wp2
  go_loopw [] (fun wr => ∃ a : Nat, s.at_ ≤ a ∧ a ≤ N ∧ R10At wr lo b { s with at_ := a } ∧ Kept (fun i => i = b) w wr ∧ skipN s.l d (s.l.length - a) a = skipN s.l d (s.l.length - s.at_) s.at_) (fun wr => N - atOf wr b)
  case atStart => exact ⟨s.at_, Nat.le_refl _, by rw [HN.out]; exact HAT.out, HH.out, Kept.refl _ _, rfl⟩
  case round =>
    obtain ⟨a, ha1, ha2, hR, hK, hsk⟩ := hrel
    obtain ⟨A, c, hS⟩ := hR.sees
    have HR := Lib.hid hR
    have HK := Lib.hid hK
    have HSK := Lib.hid hsk
    have c0 : ∀ q, (wr.drewN q).cell? ⟨b, 0, none⟩ = some (.slice A N c) := fun q => by rw [HN.out]; exact hS.blk.cell 0
    have c1 : ∀ q, (wr.drewN q).cell? ⟨b, 1, none⟩ = some (.int .i64 (a : Int)) := fun q => hS.blk.cell 1
    have f1 : ∀ q, (wr.drewN q).frozen? ⟨b, 1, none⟩ = false := fun q => hS.blk.frozen 1
    have hsee := hS.see
    simp only at hsee
    rw [← HN.out] at hsee
    have HP := Lib.hid hsee
    have HME : Hid (∀ q, atOf (wr.drewN q) b = a) := Lib.hid (fun q => atOf_is (hR.keep (w' := wr.drewN q) (fun _ _ _ => rfl) hlo))
    clear hR hK hsk hS hsee
    rcases Nat.lt_or_ge a N with hlt | hge
    · have d1 : decide ((a : Int) < (N : Int)) = true := decide_eq_true (by omega)
      have d1n : decide (a < N) = true := decide_eq_true hlt
      have p0 : (0 : Int) ≤ (a : Int) := by omega
      have p1 : (a : Int) < (N : Int) := by omega
      obtain ⟨pa, x, SA, da, rfl, hx, -, a0, -, -, -⟩ := HP.out.at a hlt
      have a0q : ∀ q, (wr.drewN q).cell? (pa.add (a * 2)) = some (.int .i64 x.1) := fun q => a0
      have HPX := Lib.hid (pAt_eq hx)
      clear hx a0
      obtain ⟨x1, hx1⟩ : ∃ z, z = x.1 := ⟨_, rfl⟩
      rw [← hx1] at a0q
      have HX1 := Lib.hid hx1
      clear hx1
      by_cases hd : x1 < d
      · have d2 : decide (x1 < d) = true := decide_eq_true hd
        have hw1 : IntKind.i64.wrap ((a : Int) + 1) = (a : Int) + 1 := IntWalk.i64_in _ (by omega)
        have HMV : Hid (∀ q, R10At ((wr.drewN q).setCell ⟨b, 1, none⟩ (.int .i64 ((a : Int) + 1))) lo b { s with at_ := a + 1 } ∧ Kept (fun i => i = b) wr ((wr.drewN q).setCell ⟨b, 1, none⟩ (.int .i64 ((a : Int) + 1)))) := Lib.hid (fun q => by
          have h1 := (HR.out.keep (w' := wr.drewN q) (fun _ _ _ => rfl) hlo).move (a := a + 1) (Nat.le_succ _) (by simp only; rw [← HN.out]; exact hlt) rfl
          rw [show ((a + 1 : Nat) : Int) = (a : Int) + 1 by push_cast; rfl] at h1
          exact ⟨h1.1, keptB ((Kept.refl _ _).drewN q) h1.2⟩)
        have HS2 : Hid (skipN s.l d (s.l.length - (a + 1)) (a + 1) = skipN s.l d (s.l.length - s.at_) s.at_) := Lib.hid (by
          rw [← HSK.out, ← HN.out, show N - a = (N - (a + 1)) + 1 by omega]
          simp only [skipN]
          rw [if_pos ⟨by rw [← HN.out]; exact hlt, by rw [HPX.out, ← HX1.out]; exact hd⟩])
        clear hd
        go_wp2
        go_quiet (fail)
        go_wp2
        go_roundw
        case rel => exact ⟨a + 1, by omega, by omega, (HMV.out _).1, keptB HK.out (HMV.out _).2, HS2.out⟩
        case measure =>
          rw [atOf_is (HMV.out _).1]
          have := HME.out 0
          have h0 : atOf wr b = a := this
          rw [h0]
          simp only
          omega
      · have d2 : decide (x1 < d) = false := decide_eq_false hd
        have HS2 : Hid (cSkip s d = cStand { s with at_ := a }) := Lib.hid (by
          unfold cSkip
          rw [← HSK.out, ← HN.out, show N - a = (N - (a + 1)) + 1 by omega]
          simp only [skipN]
          rw [if_neg (fun h => by rw [HPX.out, ← HX1.out] at h; exact hd h.2)])
        clear hd
        go_wp2
        go_quiet (fail)
        go_wp2_with fail
        refine (r10stand_any (HR.out.keep (w' := wr.drewN _) (fun _ _ _ => rfl) hlo) hlo).mono ?_
        rintro e w2 ⟨rfl, h2, hk2⟩
        have H2 := Lib.hid h2
        have HK2 := Lib.hid hk2
        clear h2 hk2
        go_wp2
        go_ret
        rw [HS2.out, cIn_stand]
        exact ⟨rfl, H2.out, keptB (keptB HK.out ((Kept.refl _ _).drewN _)) HK2.out⟩
    · have d1 : decide ((a : Int) < (N : Int)) = false := decide_eq_false (by omega)
      have d1n : decide (a < N) = false := decide_eq_false (by omega)
      have HS2 : Hid (cSkip s d = cStand { s with at_ := a }) := Lib.hid (by
        unfold cSkip
        rw [← HSK.out, ← HN.out, show N - a = 0 by omega]
        rfl)
      go_wp2
      go_quiet (fail)
      go_wp2_with fail
      refine (r10stand_any (HR.out.keep (w' := wr.drewN _) (fun _ _ _ => rfl) hlo) hlo).mono ?_
      rintro e w2 ⟨rfl, h2, hk2⟩
      have H2 := Lib.hid h2
      have HK2 := Lib.hid hk2
      clear h2 hk2
      go_wp2
      go_ret
      rw [HS2.out, cIn_stand]
      exact ⟨rfl, H2.out, keptB (keptB HK.out ((Kept.refl _ _).drewN _)) HK2.out⟩
end Go.Proofs.Ythmjanhdjchdbaa
