/- The document's walk through a list: Doc, Next, Skip. -/
import Derived.Test.YtkligdaademakaaSeRef1
import Derived.Test.YtkligdaademakaaZp6
import Derived.Deep.QuietTactic
import Derived.BigQuiet
namespace Go.Proofs.Ytkligdaademakaa
open Go.RowKit Go.Maps Go.WideMaps
set_option linter.unusedSimpArgs false

def wDoc (l : List Int) (a : Nat) : Int := if a < l.length then l.getD a 0 else 0
def wNext (l : List Int) (a : Nat) : Nat := if a < l.length then a + 1 else a
def wSkipN (l : List Int) (d : Int) : Nat → Nat → Nat
  | 0, a => a
  | f + 1, a => if a < l.length ∧ l.getD a 0 < d then wSkipN l d f (a + 1) else a
def wSkip (l : List Int) (d : Int) (a : Nat) : Nat := wSkipN l d (l.length - a) a
/-- A walk through a list lies there, at a place; its blocks are those from lo up to b. -/
def WalkAt (w : World) (lo b : Nat) (l : List Int) (a : Nat) : Prop := a ≤ l.length ∧ ∃ (w0 : World) (A : Option Addr) (c : Nat), IntsIn w0 A l.length l ∧ (∀ ad, A = some ad → 0 < l.length → lo ≤ ad.block) ∧ w0.heap.size ≤ b ∧ (∀ i, lo ≤ i → i < w0.heap.size → w.heap[i]? = w0.heap[i]?) ∧ Blk w b 34 #[.slice A l.length c, .int .i64 a]
theorem WalkAt.lt {w : World} {lo b : Nat} {l : List Int} {a : Nat} (h : WalkAt w lo b l a) : b < w.heap.size := by
  obtain ⟨_, w0, A, c, _, _, _, _, h1⟩ := h
  exact h1.lt
theorem WalkAt.keep {w w' : World} {lo b : Nat} {l : List Int} {a : Nat} (h : WalkAt w lo b l a) (hk : ∀ i, lo ≤ i → i ≤ b → w'.heap[i]? = w.heap[i]?) (hlo : lo ≤ b) : WalkAt w' lo b l a := by
  obtain ⟨h0, w0, A, c, h1, hn, h2, h3, h4⟩ := h
  exact ⟨h0, w0, A, c, h1, hn, h2, fun i hi hi2 => (hk i hi (by omega)).trans (h3 i hi hi2), (hk b hlo (Nat.le_refl _)).trans h4⟩
theorem WalkAt.sees {w : World} {lo b : Nat} {l : List Int} {a : Nat} (h : WalkAt w lo b l a) : ∃ A c, IntsIn w A l.length l ∧ Blk w b 34 #[.slice A l.length c, .int .i64 a] := by
  obtain ⟨h0, w0, A, c, h1, hn, h2, h3, h4⟩ := h
  have hlt := h4.lt
  exact ⟨A, c, ⟨h1.1, h1.2.1.keep fun ad e h5 => h3 _ (hn ad e h5) (h1.2.2.2 ad e h5), h1.2.2.1, fun ad e h5 => by have := h1.2.2.2 ad e h5; omega⟩, h4⟩
theorem WalkAt.move {w w' : World} {lo b : Nat} {l : List Int} {a a' : Nat} (h : WalkAt w lo b l a) (ha : a' ≤ l.length) (hw : w' = w.setCell ⟨b, 1, none⟩ (.int .i64 a')) : WalkAt w' lo b l a' ∧ Kept (fun i => i = b) w w' := by
  have hk : Kept (fun i => i = b) w w' := by rw [hw]; exact (Kept.refl (fun i => i = b) w).setCell (p := ⟨b, 1, none⟩) (.inl rfl) _
  obtain ⟨h0, w0, A, c, h1, hn, h2, h3, h4⟩ := h
  have hlt := h4.lt
  refine ⟨⟨ha, w0, A, c, h1, hn, h2, fun i hi hi2 => (hk.block i (by omega) (by omega)).trans (h3 i hi hi2), ?_⟩, hk⟩
  rw [hw]
  have h5 := h4.set_ 1 (.int .i64 a')
  simpa using h5

set_option maxHeartbeats 4000000 in
set_option maxRecDepth 100000 in
theorem r11Doc_any {w : World} {lo b : Nat} {l : List Int} {a : Nat} (h : WalkAt w lo b l a) : Calls Try.prog 15 #[.pointer (some ⟨b, 0, none⟩)] w fun e w' => e = .returned (.tuple #[.int .i64 (wDoc l a), .bool (decide (a < l.length))]) ∧ ∃ q, w' = w.drewN q := by
  obtain ⟨A, c, hI, hB⟩ := h.sees
  obtain ⟨N, hN⟩ : ∃ N, N = l.length := ⟨_, rfl⟩
  rw [← hN] at hI hB
  have c0 : ∀ q, (w.drewN q).cell? ⟨b, 0, none⟩ = some (.slice A N c) := fun q => hB.cell 0
  have c1 : ∀ q, (w.drewN q).cell? ⟨b, 1, none⟩ = some (.int .i64 (a : Int)) := fun q => hB.cell 1
  have HI := Lib.hid hI
  obtain ⟨D, hD⟩ : ∃ D, D = wDoc l a := ⟨_, rfl⟩
  rw [← hD]
  unfold wDoc at hD
  rw [← hN] at hD ⊢
  clear h hI hB hN
  rcases Nat.lt_or_ge a N with hlt | hge
  · have d1 : decide ((N : Int) ≤ (a : Int)) = false := decide_eq_false (by omega)
    have d1n : decide (N ≤ a) = false := decide_eq_false (by omega)
    have d2 : decide (a < N) = true := decide_eq_true hlt
    have p0 : (0 : Int) ≤ (a : Int) := by omega
    have p1 : (a : Int) < (N : Int) := by omega
    rw [if_pos hlt] at hD
    obtain ⟨pa, x, rfl, hx, ex, -, -⟩ := HI.out.at a hlt
    rw [List.getD_eq_getElem?_getD, hx] at hD
    have a0q : ∀ q, (w.drewN q).cell? (pa.add a) = some (.int .i64 D) := fun q => by rw [hD]; exact ex
    rw [d2]
    clear hx hD ex
    go_enter Try.func15, Try.ntmps15
    go_wp2
    go_quiet (fail)
    go_wp2
    go_quiet (fail)
    go_wp2
    go_ret2
    rw [World.drewN_drewN]
    exact ⟨rfl, _, rfl⟩
  · have d1 : decide ((N : Int) ≤ (a : Int)) = true := decide_eq_true (by omega)
    have d1n : decide (N ≤ a) = true := decide_eq_true hge
    have d2 : decide (a < N) = false := decide_eq_false (by omega)
    rw [if_neg (by omega)] at hD
    subst hD
    rw [d2]
    go_enter Try.func15, Try.ntmps15
    go_wp2
    go_quiet (fail)
    go_wp2
    go_ret2
    exact ⟨rfl, _, rfl⟩

set_option maxHeartbeats 4000000 in
set_option maxRecDepth 100000 in
theorem r11Next_any {w : World} {lo b : Nat} {l : List Int} {a : Nat} (h : WalkAt w lo b l a) (hlo : lo ≤ b) (hn : l.length ≤ 1000000) : Calls Try.prog 17 #[.pointer (some ⟨b, 0, none⟩)] w fun e w' => e = .returned (.bool (decide (wNext l a < l.length))) ∧ WalkAt w' lo b l (wNext l a) ∧ Kept (fun i => i = b) w w' := by
  obtain ⟨A, c, hI, hB⟩ := h.sees
  have HH := Lib.hid h
  obtain ⟨N, hN⟩ : ∃ N, N = l.length := ⟨_, rfl⟩
  rw [← hN] at hB hn
  have c0 : ∀ q, (w.drewN q).cell? ⟨b, 0, none⟩ = some (.slice A N c) := fun q => hB.cell 0
  have c1 : ∀ q, (w.drewN q).cell? ⟨b, 1, none⟩ = some (.int .i64 (a : Int)) := fun q => hB.cell 1
  have f1 : ∀ q, (w.drewN q).frozen? ⟨b, 1, none⟩ = false := fun q => hB.frozen 1
  have HN := Lib.hid hN
  have HBK := Lib.hid hB
  clear h hI hB
  unfold wNext
  rw [← hN]
  clear hN
  rcases Nat.lt_or_ge a N with hlt | hge
  · have d1 : decide ((a : Int) < (N : Int)) = true := decide_eq_true (by omega)
    have d1n : decide (a < N) = true := decide_eq_true hlt
    have hw1 : IntKind.i64.wrap ((a : Int) + 1) = (a : Int) + 1 := IntWalk.i64_in _ (by omega)
    rw [if_pos hlt]
    obtain ⟨z, hz⟩ : ∃ z, z = decide (a + 1 < N) := ⟨_, rfl⟩
    rw [← hz]
    have HZ := Lib.hid hz
    clear hz
    go_enter Try.func17, Try.ntmps17
    go_wp2
    go_quiet (fail)
    go_wp2
    obtain ⟨V, hV⟩ : ∃ V, V = (w.drewN nq).setCell ⟨b, 1, none⟩ (.int .i64 ((a : Int) + 1)) := ⟨_, rfl⟩
    rw [← hV]
    have hm := (HH.out.keep (w' := w.drewN nq) (fun _ _ _ => rfl) hlo).move (a' := a + 1) (w' := V) (by rw [← HN.out]; exact hlt) (by rw [hV]; push_cast; rfl)
    have hb2 : Blk V b 34 #[.slice A N c, .int .i64 ((a : Int) + 1)] := by
      rw [hV]
      have h5 := Blk.set_ (w := w.drewN nq) HBK.out 1 (.int .i64 ((a : Int) + 1))
      simpa using h5
    have e0 : ∀ q, (V.drewN q).cell? ⟨b, 0, none⟩ = some (.slice A N c) := fun q => hb2.cell 0
    have e1 : ∀ q, (V.drewN q).cell? ⟨b, 1, none⟩ = some (.int .i64 ((a : Int) + 1)) := fun q => hb2.cell 1
    have d3 : decide ((a : Int) + 1 < (N : Int)) = z := by
      rw [HZ.out]
      rcases Nat.lt_or_ge (a + 1) N with h | h
      · rw [show decide (a + 1 < N) = true from decide_eq_true h]; exact decide_eq_true (by omega)
      · rw [show decide (a + 1 < N) = false from decide_eq_false (by omega)]; exact decide_eq_false (by omega)
    have HM := Lib.hid hm
    clear hV hm hb2 c0 c1 f1
    go_quiet (fail)
    go_wp2
    go_ret
    refine ⟨rfl, HM.out.1.keep (fun _ _ _ => rfl) hlo, ?_⟩
    exact (((Kept.refl (fun i => i = b) w).drewN _).trans HM.out.2 (fun _ _ h => h)).drewN _
  · have d1 : decide ((a : Int) < (N : Int)) = false := decide_eq_false (by omega)
    have d1n : decide (a < N) = false := decide_eq_false (by omega)
    rw [if_neg (by omega), d1n]
    go_enter Try.func17, Try.ntmps17
    go_wp2
    go_quiet (fail)
    go_wp2
    go_quiet (fail)
    go_wp2
    go_ret
    exact ⟨rfl, HH.out.keep (fun _ _ _ => rfl) hlo, ((Kept.refl (fun i => i = b) w).drewN _).drewN _⟩

def wAtOf (w : World) (b : Nat) : Nat := match w.cell? ⟨b, 1, none⟩ with | some (.int _ n) => n.toNat | _ => 0
theorem wAtOf_is {w : World} {lo b : Nat} {l : List Int} {a : Nat} (h : WalkAt w lo b l a) : wAtOf w b = a := by
  obtain ⟨_, w0, A, c, _, _, _, _, h1⟩ := h
  have h2 := h1.cell 1
  unfold wAtOf
  rw [h2]
  simp

set_option maxHeartbeats 8000000 in
set_option maxRecDepth 100000 in
theorem r11Skip_any {w : World} {lo b : Nat} {l : List Int} {a0 : Nat} (h : WalkAt w lo b l a0) (hlo : lo ≤ b) (hn : l.length ≤ 1000000) (d : Int) : Calls Try.prog 19 #[.pointer (some ⟨b, 0, none⟩), .int .i64 d] w fun e w' => e = .returned (.bool (decide (wSkip l d a0 < l.length))) ∧ WalkAt w' lo b l (wSkip l d a0) ∧ Kept (fun i => i = b) w w' := by
  have HH := Lib.hid h
  have HA0 := Lib.hid h.1
  obtain ⟨N, hN⟩ : ∃ N, N = l.length := ⟨_, rfl⟩
  have HN := Lib.hid hN
  rw [← hN] at hn
  clear h hN
  go_enter Try.func19, Try.ntmps19
  go_wp2
  go_loopw [] (fun wr => ∃ a : Nat, a ≤ N ∧ WalkAt wr lo b l a ∧ Kept (fun i => i = b) w wr ∧ wSkip l d a = wSkip l d a0) (fun wr => N - wAtOf wr b)
  case atStart => exact ⟨a0, by rw [HN.out]; exact HA0.out, HH.out, Kept.refl _ _, rfl⟩
  case round =>
    obtain ⟨a, ha2, hR, hK, hsk⟩ := hrel
    obtain ⟨A, c, hI, hB⟩ := hR.sees
    have HR := Lib.hid hR
    have HK := Lib.hid hK
    have HSK := Lib.hid hsk
    rw [← HN.out] at hI hB
    have c0 : ∀ q, (wr.drewN q).cell? ⟨b, 0, none⟩ = some (.slice A N c) := fun q => hB.cell 0
    have c1 : ∀ q, (wr.drewN q).cell? ⟨b, 1, none⟩ = some (.int .i64 (a : Int)) := fun q => hB.cell 1
    have f1 : ∀ q, (wr.drewN q).frozen? ⟨b, 1, none⟩ = false := fun q => hB.frozen 1
    have HI := Lib.hid hI
    have HME : Hid (wAtOf wr b = a) := Lib.hid (wAtOf_is hR)
    clear hR hK hsk hI hB
    rcases Nat.lt_or_ge a N with hlt | hge
    · have d1 : decide ((a : Int) < (N : Int)) = true := decide_eq_true (by omega)
      have d1n : decide (a < N) = true := decide_eq_true hlt
      have p0 : (0 : Int) ≤ (a : Int) := by omega
      have p1 : (a : Int) < (N : Int) := by omega
      obtain ⟨pa, x, rfl, hx, ex, -, -⟩ := HI.out.at a hlt
      have a0q : ∀ q, (wr.drewN q).cell? (pa.add a) = some (.int .i64 x) := fun q => ex
      have HGD : Hid (l.getD a 0 = x) := Lib.hid (by rw [List.getD_eq_getElem?_getD, hx]; rfl)
      clear hx ex
      by_cases hd : x < d
      · have d2 : decide (x < d) = true := decide_eq_true hd
        have hw1 : IntKind.i64.wrap ((a : Int) + 1) = (a : Int) + 1 := IntWalk.i64_in _ (by omega)
        have HMV : Hid (∀ q, WalkAt ((wr.drewN q).setCell ⟨b, 1, none⟩ (.int .i64 ((a : Int) + 1))) lo b l (a + 1) ∧ Kept (fun i => i = b) wr ((wr.drewN q).setCell ⟨b, 1, none⟩ (.int .i64 ((a : Int) + 1)))) := Lib.hid (fun q => by
          have h1 := (HR.out.keep (w' := wr.drewN q) (fun _ _ _ => rfl) hlo).move (a' := a + 1) (w' := (wr.drewN q).setCell ⟨b, 1, none⟩ (.int .i64 ((a : Int) + 1))) (by rw [← HN.out]; exact hlt) (by push_cast; rfl)
          exact ⟨h1.1, ((Kept.refl (fun i => i = b) wr).drewN q).trans h1.2 (fun _ _ h => h)⟩)
        have HS2 : Hid (wSkip l d (a + 1) = wSkip l d a0) := Lib.hid (by
          rw [← HSK.out]
          unfold wSkip
          rw [← HN.out, show N - a = (N - (a + 1)) + 1 by omega]
          simp only [wSkipN]
          rw [if_pos ⟨by rw [← HN.out]; exact hlt, by rw [HGD.out]; exact hd⟩])
        clear hd
        go_wp2
        go_quiet (fail)
        go_wp2
        go_roundw
        case rel => exact ⟨a + 1, by omega, (HMV.out _).1, HK.out.trans (HMV.out _).2 (fun _ _ h => h), HS2.out⟩
        case measure =>
          rw [wAtOf_is (HMV.out _).1, HME.out]
          omega
      · have d2 : decide (x < d) = false := decide_eq_false hd
        have HS2 : Hid (wSkip l d a0 = a) := Lib.hid (by
          rw [← HSK.out]
          unfold wSkip
          rw [← HN.out, show N - a = (N - (a + 1)) + 1 by omega]
          simp only [wSkipN]
          rw [if_neg (fun h => by rw [HGD.out] at h; exact hd h.2)])
        clear hd
        go_wp2
        go_quiet (fail)
        go_wp2
        go_quiet (fail)
        go_wp2
        go_ret
        rw [HS2.out, ← HN.out]
        exact ⟨by rw [show decide (a < N) = true from decide_eq_true hlt]; rfl, HR.out.keep (fun _ _ _ => rfl) hlo, (HK.out.drewN _).drewN _⟩
    · have d1 : decide ((a : Int) < (N : Int)) = false := decide_eq_false (by omega)
      have d1n : decide (a < N) = false := decide_eq_false (by omega)
      have HS2 : Hid (wSkip l d a0 = a) := Lib.hid (by
        rw [← HSK.out]
        unfold wSkip
        rw [← HN.out, show N - a = 0 by omega]
        rfl)
      go_wp2
      go_quiet (fail)
      go_wp2
      go_quiet (fail)
      go_wp2
      go_ret
      rw [HS2.out, ← HN.out]
      exact ⟨by rw [show decide (a < N) = false from decide_eq_false (by omega)]; rfl, HR.out.keep (fun _ _ _ => rfl) hlo, (HK.out.drewN _).drewN _⟩
end Go.Proofs.Ytkligdaademakaa
