/- The laws' own comparison of files; a name that is right. -/
import Derived.Test.YtmhiekbpmoikfaaGreatDoorZp9
namespace Go.Proofs.YtmhiekbpmoikfaaGreatDoor
open Go.RowKit Go.Maps Go.WideMaps

theorem FilesRow.slice {w : World} {base : Nat} {v : Value} {l : List (Nm × Nm)} (h : FilesRow w base v l) : ∃ A c, v = .slice A l.length c := by
  obtain ⟨svs, _, h2, _⟩ := h
  exact own_slice h2
theorem FilesRow.at_ {w : World} {base : Nat} {A : Option Addr} {n c : Nat} {l : List (Nm × Nm)} (h : FilesRow w base (.slice A n c) l) {i : Nat} {x : Nm × Nm} (hx : l[i]? = some x) :
    ∃ g sv, A = some ⟨g, 0, none⟩ ∧ n = l.length ∧ w.cell? ⟨g, i * 2, none⟩ = some (.string ⟨x.1.toArray⟩) ∧ w.cell? ⟨g, i * 2 + 1, none⟩ = some sv ∧ w.ownsRow base 5 1 sv x.2.length (x.2.map byteV) := by
  obtain ⟨svs, h1, h2, h3⟩ := h
  have hl := (List.getElem?_eq_some_iff.1 hx).1
  obtain ⟨sv, hsv⟩ : ∃ sv, svs[i]? = some sv := ⟨_, List.getElem?_eq_getElem (by omega)⟩
  obtain ⟨c1, c2⟩ := fileCells_at l svs i x sv hx hsv
  rcases h2.2 with ⟨_, h0⟩ | ⟨g, cap, cur, hv, _⟩
  · omega
  · injection hv with hA hn _
    have e1 := h2.cells (g := g) (by rw [hA]; rfl) _ _ c1
    have e2 := h2.cells (g := g) (by rw [hA]; rfl) _ _ c2
    rw [Addr.add_mid] at e1 e2
    simp only [Nat.zero_add, encStr] at e1 e2
    exact ⟨g, sv, hA, hn, e1, e2, h3 i sv x hsv hx⟩

theorem bs_ne {x y : Nm} (h : ¬ x = y) : (x == y) = false := by simpa using h

set_option maxHeartbeats 4000000 in
set_option maxRecDepth 100000 in
theorem SameFiles_any {w : World} {base base' : Nat} {v v' : Value} {l l' : List (Nm × Nm)} (h : FilesRow w base v l) (h' : FilesRow w base' v' l') (hl : l.length ≤ 300) :
    Calls Tryz.prog 40 #[v, v'] w fun e w' => e = .returned (.bool (decide (l = l'))) ∧ ∃ m, w' = w.drewN m := by
  obtain ⟨A, c, rfl⟩ := h.slice
  obtain ⟨A', c', rfl⟩ := h'.slice
  have H := Lib.hid h
  have H' := Lib.hid h'
  clear h h'
  by_cases hll : l.length = l'.length
  · have HLL := Lib.hid hll
    rw [← hll]
    clear hll
    go_enter Tryz.func40, Tryz.ntmps40
    go_wp2
    go_loopw [5] (fun i wr => ∃ k m : Nat, k ≤ l.length ∧ i = .int .i64 k ∧ l.take k = l'.take k ∧ wr = w.drewN m) (fun i _ => l.length - (intOf i).toNat)
    case atStart => exact ⟨0, 0, Nat.zero_le _, rfl, rfl, rfl⟩
    case round =>
      obtain ⟨k, m, hk, rfl, htk, rfl⟩ := hrel
      have HT := Lib.hid htk
      clear htk
      by_cases hc : k < l.length
      · obtain ⟨x, hx⟩ : ∃ x, l[k]? = some x := ⟨_, List.getElem?_eq_getElem hc⟩
        obtain ⟨y, hy⟩ : ∃ y, l'[k]? = some y := ⟨_, List.getElem?_eq_getElem (by have := HLL.out; omega)⟩
        obtain ⟨g, sv, rfl, _, e1, e2, e3⟩ := H.out.at_ hx
        obtain ⟨g', sv', rfl, _, f1, f2, f3⟩ := H'.out.at_ hy
        have e1' : ∀ q, (w.drewN q).cell? ⟨g, k * 2, none⟩ = some (.string ⟨x.1.toArray⟩) := fun _ => e1
        have e2' : ∀ q, (w.drewN q).cell? ⟨g, k * 2 + 1, none⟩ = some sv := fun _ => e2
        have f1' : ∀ q, (w.drewN q).cell? ⟨g', k * 2, none⟩ = some (.string ⟨y.1.toArray⟩) := fun _ => f1
        have f2' : ∀ q, (w.drewN q).cell? ⟨g', k * 2 + 1, none⟩ = some sv' := fun _ => f2
        have cv := fun q => string_of_row (w := w.drewN q) e3
        have cv' := fun q => string_of_row (w := w.drewN q) f3
        have HX := Lib.hid hx
        have HY := Lib.hid hy
        have hk0 : (0 : Int) ≤ k := by omega
        have hkl : (k : Int) < l.length := by omega
        clear e1 e2 f1 f2 e3 f3 hx hy
        have hdiff : x ≠ y → decide (l = l') = false := fun hn => by
          simp only [decide_eq_false_iff_not]
          intro e
          have h1 := HX.out
          rw [e, HY.out] at h1
          injection h1 with h1
          exact hn h1.symm
        have HD := Lib.hid hdiff
        clear hdiff
        obtain ⟨x1, x2⟩ := x
        obtain ⟨y1, y2⟩ := y
        simp only at e1' f1' cv cv'
        by_cases hn : x1 = y1
        · subst hn
          by_cases hd : x2 = y2
          · subst hd
            go_wp2
            go_quiet (fail)
            go_wp2
            go_roundw
            case rel => exact ⟨k + 1, m + nq, by omega, by go_num, by rw [take_snoc' _ _ _ HX.out, take_snoc' _ _ _ HY.out, HT.out], rfl⟩
            case measure => simp [intOf]; omega
          · have hne := bs_ne hd
            go_wp2
            go_quiet (fail)
            go_wp2
            go_ret
            rw [HD.out (by simp [hd])]
            exact ⟨rfl, m + nq, World.drewN_drewN _ _ _⟩
        · have hne := bs_ne hn
          go_wp2
          go_quiet (fail)
          go_wp2
          go_ret
          rw [HD.out (by simp [hn])]
          exact ⟨rfl, m + nq, World.drewN_drewN _ _ _⟩
      · obtain rfl : k = l.length := by omega
        have hb : decide (l = l') = true := by
          have h1 := HT.out
          rw [List.take_of_length_le (Nat.le_refl _), List.take_of_length_le (by have := HLL.out; omega)] at h1
          simpa using h1
        have HB := Lib.hid hb
        clear hb
        go_wp2
        go_ret
        rw [HB.out]
        exact ⟨rfl, _, rfl⟩
  · have hn : ((l.length : Int) != (l'.length : Int)) = true := by simp; omega
    have hb : decide (l = l') = false := by
      simp only [decide_eq_false_iff_not]
      intro e
      exact hll (by rw [e])
    rw [hb]
    clear hll hb
    go_enter Tryz.func40, Tryz.ntmps40
    go_wp2
    go_ret
    exact ⟨rfl, 0, rfl⟩
end Go.Proofs.YtmhiekbpmoikfaaGreatDoor
