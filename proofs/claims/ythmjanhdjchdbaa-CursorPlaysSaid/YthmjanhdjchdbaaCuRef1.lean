/- The document's cursor: how it lies; stand, Doc. -/
import Derived.Test.YthmjanhdjchdbaaCuMath
import Derived.Test.YthmjanhdjchdbaaPRef9
import Derived.Deep.QuietTactic
import Derived.BigQuiet
namespace Go.Proofs.Ythmjanhdjchdbaa
open Go.RowKit Go.Maps Go.WideMaps
set_option linter.unusedSimpArgs false

/-- The document's cursor lies there; its blocks are those from lo up to b. -/
def R10At (w : World) (lo b : Nat) (s : CSt) : Prop := CWF s ∧ ∃ (w0 : World) (A : Option Addr) (c : Nat), PostsO w0 lo (.slice A s.l.length c) s.l ∧ w0.heap.size ≤ b ∧ (∀ i, lo ≤ i → i < w0.heap.size → w.heap[i]? = w0.heap[i]?) ∧ Blk w b 42 #[.slice A s.l.length c, .int .i64 s.at_, .int .i64 s.read, .int .i64 s.last]
theorem R10At.lt {w : World} {lo b : Nat} {s : CSt} (h : R10At w lo b s) : b < w.heap.size := by
  obtain ⟨_, w0, A, c, _, _, _, h1⟩ := h
  exact h1.lt
theorem R10At.keep {w w' : World} {lo b : Nat} {s : CSt} (h : R10At w lo b s) (hk : ∀ i, lo ≤ i → i ≤ b → w'.heap[i]? = w.heap[i]?) (hlo : lo ≤ b) : R10At w' lo b s := by
  obtain ⟨h0, w0, A, c, h1, h2, h3, h4⟩ := h
  exact ⟨h0, w0, A, c, h1, h2, fun i hi hi2 => (hk i hi (by omega)).trans (h3 i hi hi2), (hk b hlo (Nat.le_refl _)).trans h4⟩
/-- What a walk reads of it. -/
structure R10See (w : World) (b : Nat) (s : CSt) (A : Option Addr) (c : Nat) : Prop where
  see : PostsSee w A s.l.length s.l
  blk : Blk w b 42 #[.slice A s.l.length c, .int .i64 s.at_, .int .i64 s.read, .int .i64 s.last]
  cap : s.l.length ≤ c
theorem R10At.sees {w : World} {lo b : Nat} {s : CSt} (h : R10At w lo b s) : ∃ A c, R10See w b s A c := by
  obtain ⟨h0, w0, A, c, h1, h2, h3, h4⟩ := h
  have h5 := h1.keepIn h3 (by have := h4.lt; omega)
  refine ⟨A, c, h5.see rfl (by have := h0.few; unfold maxLen; omega), h4, ?_⟩
  obtain ⟨R, _, h6, _⟩ := h5
  exact rowCap_le h6
/-- Its struct has turned. -/
theorem R10At.turn {w w' : World} {lo b : Nat} {s s' : CSt} (h : R10At w lo b s) (hl : s'.l = s.l) (hw : CWF s') (hk : ∀ i, i ≠ b → i < w.heap.size → w'.heap[i]? = w.heap[i]?) (hb : ∀ (v : Value), Blk w b 42 #[v, .int .i64 s.at_, .int .i64 s.read, .int .i64 s.last] → Blk w' b 42 #[v, .int .i64 s'.at_, .int .i64 s'.read, .int .i64 s'.last]) : R10At w' lo b s' := by
  obtain ⟨h0, w0, A, c, h1, h2, h3, h4⟩ := h
  refine ⟨hw, w0, A, c, by rw [hl]; exact h1, h2, fun i hi hi2 => ?_, by rw [hl]; exact hb _ h4⟩
  have := h4.lt
  exact (hk i (by omega) (by omega)).trans (h3 i hi hi2)

theorem r10_set {W : World} {b : Nat} {v x y z : Value} (h : Blk W b 42 #[v, x, y, z]) (y' z' : Value) : Blk ((W.setCell ⟨b, 3, none⟩ z').setCell ⟨b, 2, none⟩ y') b 42 #[v, x, y', z'] := by
  have h1 := (h.set_ 3 z').set_ 2 y'
  simpa using h1
theorem r10_at {W : World} {b : Nat} {v x y z : Value} (h : Blk W b 42 #[v, x, y, z]) (x' : Value) : Blk (W.setCell ⟨b, 1, none⟩ x') b 42 #[v, x', y, z] := by
  have h1 := h.set_ 1 x'
  simpa using h1

set_option maxHeartbeats 4000000 in
set_option maxRecDepth 100000 in
theorem r10Doc_any {w : World} {lo b : Nat} {s : CSt} (h : R10At w lo b s) : Calls Try.prog 14 #[.pointer (some ⟨b, 0, none⟩)] w fun e w' => e = .returned (.tuple #[.int .i64 (cDoc s), .bool (cIn s)]) ∧ ∃ q, w' = w.drewN q := by
  obtain ⟨A, c, hS⟩ := h.sees
  have hW := h.1
  obtain ⟨N, hN⟩ : ∃ N, N = s.l.length := ⟨_, rfl⟩
  obtain ⟨a, ha⟩ : ∃ a, a = s.at_ := ⟨_, rfl⟩
  have hN4 : N ≤ 4096 := by rw [hN]; exact hW.few
  have c0 : ∀ q, (w.drewN q).cell? ⟨b, 0, none⟩ = some (.slice A N c) := fun q => by rw [hN]; exact hS.blk.cell 0
  have c1 : ∀ q, (w.drewN q).cell? ⟨b, 1, none⟩ = some (.int .i64 (a : Int)) := fun q => by rw [ha]; exact hS.blk.cell 1
  have HP := Lib.hid hS.see
  rw [← hN] at HP
  obtain ⟨D, hD⟩ : ∃ D, D = cDoc s := ⟨_, rfl⟩
  rw [← hD]
  unfold cDoc at hD
  unfold cIn
  rw [← ha, ← hN] at hD ⊢
  clear h hS hW hN ha
  rcases Nat.lt_or_ge a N with hlt | hge
  · have d1 : decide ((N : Int) ≤ (a : Int)) = false := decide_eq_false (by omega)
    have d1n : decide (N ≤ a) = false := decide_eq_false (by omega)
    have d2 : decide (a < N) = true := decide_eq_true hlt
    have p0 : (0 : Int) ≤ (a : Int) := by omega
    have p1 : (a : Int) < (N : Int) := by omega
    rw [if_pos hlt] at hD
    obtain ⟨pa, x, SA, da, rfl, hx, -, a0, -, -, -⟩ := HP.out.at a hlt
    have hpx := pAt_eq hx
    rw [hpx] at hD
    have a0q : ∀ q, (w.drewN q).cell? (pa.add (a * 2)) = some (.int .i64 D) := fun q => by rw [hD]; exact a0
    have HD := Lib.hid hD
    rw [d2]
    clear hx hpx hD a0
    go_enter Try.func14, Try.ntmps14
    go_wp2
    go_quiet (fail)
    go_wp2
    go_quiet (fail)
    go_wp2
    go_ret2
    rw [World.drewN_drewN]
    exact ⟨rfl, _, rfl⟩
  · have d1 : decide ((N : Int) ≤ (a : Int)) = true := decide_eq_true (by omega)
    have d1n : decide (N ≤ a) = true := decide_eq_true hge
    have d2 : decide (a < N) = false := decide_eq_false (by omega)
    rw [if_neg (by omega)] at hD
    subst hD
    rw [d2]
    go_enter Try.func14, Try.ntmps14
    go_wp2
    go_quiet (fail)
    go_wp2
    go_ret2
    exact ⟨rfl, _, rfl⟩

set_option maxHeartbeats 4000000 in
set_option maxRecDepth 100000 in
theorem r10stand_any {w : World} {lo b : Nat} {s : CSt} (h : R10At w lo b s) (hlo : lo ≤ b) : Calls Try.prog 28 #[.pointer (some ⟨b, 0, none⟩)] w fun e w' => e = .returned (.bool (cIn s)) ∧ R10At w' lo b (cStand s) ∧ Kept (fun i => i = b) w w' := by
  obtain ⟨A, c, hS⟩ := h.sees
  have hW := h.1
  have HH := Lib.hid h
  have HWS := Lib.hid hW.stand
  obtain ⟨N, hN⟩ : ∃ N, N = s.l.length := ⟨_, rfl⟩
  obtain ⟨a, ha⟩ : ∃ a, a = s.at_ := ⟨_, rfl⟩
  obtain ⟨r, hr⟩ : ∃ r, r = s.read := ⟨_, rfl⟩
  obtain ⟨L, hL⟩ : ∃ L, L = s.last := ⟨_, rfl⟩
  have hN4 : N ≤ 4096 := by rw [hN]; exact hW.few
  have hr4 : r ≤ 4097 := by have h1 := hW.read; have h2 := hW.last; have h3 := hW.at_; have h4 := hW.few; omega
  have ha4 : a ≤ 4096 := by have h3 := hW.at_; have h4 := hW.few; omega
  have c0 : ∀ q, (w.drewN q).cell? ⟨b, 0, none⟩ = some (.slice A N c) := fun q => by rw [hN]; exact hS.blk.cell 0
  have c1 : ∀ q, (w.drewN q).cell? ⟨b, 1, none⟩ = some (.int .i64 (a : Int)) := fun q => by rw [ha]; exact hS.blk.cell 1
  have c3 : ∀ q, (w.drewN q).cell? ⟨b, 3, none⟩ = some (.int .i64 L) := fun q => by rw [hL]; exact hS.blk.cell 3
  have HBK := Lib.hid hS.blk
  have HE := Lib.hid (And.intro ha (And.intro hN (And.intro hr hL)))
  obtain ⟨Q, hQ⟩ : ∃ Q, Q = a / 4 := ⟨_, rfl⟩
  have hq : (a : Int) / 4 = (Q : Int) := by omega
  have HIN : Hid (cIn s = decide (a < N)) := Lib.hid (by unfold cIn; rw [ha, hN])
  have hst : cStand s = if a < N ∧ (Q : Int) ≠ L then { s with read := s.read + 1, last := (Q : Int) } else s := by rw [hQ, ha, hN, hL]; rfl
  have HST := Lib.hid hst
  clear h hS hW hN ha hr hL hQ hst
  rw [HIN.out]
  rcases Nat.lt_or_ge a N with hlt | hge
  · have d1 : decide ((N : Int) ≤ (a : Int)) = false := decide_eq_false (by omega)
    have d1n : decide (N ≤ a) = false := decide_eq_false (by omega)
    have d2 : decide (a < N) = true := decide_eq_true hlt
    rw [d2]
    by_cases hQL : (Q : Int) = L
    · have d3 : ((Q : Int) != L) = false := by simp [hQL]
      have HS2 := Lib.hid (by rw [HST.out, if_neg (by simp [hQL])] : cStand s = s)
      clear hQL
      go_enter Try.func28, Try.ntmps28
      go_wp2
      go_quiet (fail)
      go_wp2
      go_quiet (fail)
      go_wp2
      go_ret
      refine ⟨rfl, ?_, ((Kept.refl _ _).drewN _).drewN _⟩
      rw [HS2.out]
      exact HH.out.keep (fun _ _ _ => rfl) hlo
    · have d3 : ((Q : Int) != L) = true := by simpa using hQL
      have HS2 := Lib.hid (by rw [HST.out, if_pos ⟨hlt, hQL⟩] : cStand s = { s with read := s.read + 1, last := (Q : Int) })
      have f3 : ∀ q, (w.drewN q).frozen? ⟨b, 3, none⟩ = false := fun q => HBK.out.frozen 3
      have c2 : ∀ q v, ((w.drewN q).setCell ⟨b, 3, none⟩ v).cell? ⟨b, 2, none⟩ = some (.int .i64 (r : Int)) := fun q v => by rw [HE.out.2.2.1]; exact (Blk.set_ (w := w.drewN q) HBK.out 3 v).cell 2
      have f2 : ∀ q v, ((w.drewN q).setCell ⟨b, 3, none⟩ v).frozen? ⟨b, 2, none⟩ = false := fun q v => (Blk.set_ (w := w.drewN q) HBK.out 3 v).frozen 2
      have hw1 : IntKind.i64.wrap ((r : Int) + 1) = (r : Int) + 1 := IntWalk.i64_in _ (by omega)
      clear hQL
      go_enter Try.func28, Try.ntmps28
      go_wp2
      go_quiet (fail)
      go_wp2
      go_quiet (fail)
      go_wp2
      go_ret
      have hk : ∀ q, Kept (fun i => i = b) w (((w.drewN q).setCell ⟨b, 3, none⟩ (.int .i64 Q)).setCell ⟨b, 2, none⟩ (.int .i64 ((r : Int) + 1))) := fun q => (((Kept.refl (fun i => i = b) w).drewN q).setCell (p := ⟨b, 3, none⟩) (.inl rfl) _).setCell (p := ⟨b, 2, none⟩) (.inl rfl) _
      refine ⟨rfl, ?_, hk _⟩
      rw [HS2.out]
      refine HH.out.turn rfl (by rw [← HS2.out]; exact HWS.out) (fun i hi hlt => (hk _).block i hlt hi) (fun v hv => ?_)
      have e : (r : Int) + 1 = ((s.read + 1 : Nat) : Int) := by rw [HE.out.2.2.1]; push_cast; rfl
      rw [e]
      exact r10_set (W := w.drewN _) hv _ _
  · have d1 : decide ((N : Int) ≤ (a : Int)) = true := decide_eq_true (by omega)
    have d1n : decide (N ≤ a) = true := decide_eq_true hge
    have d2 : decide (a < N) = false := decide_eq_false (by omega)
    have HS2 := Lib.hid (by rw [HST.out, if_neg (by omega)] : cStand s = s)
    rw [d2]
    go_enter Try.func28, Try.ntmps28
    go_wp2
    go_quiet (fail)
    go_wp2
    go_ret
    refine ⟨rfl, ?_, (Kept.refl _ _).drewN _⟩
    rw [HS2.out]
    exact HH.out.keep (fun _ _ _ => rfl) hlo
end Go.Proofs.Ythmjanhdjchdbaa
