/- The document's Same, of two that are alike. -/
import Derived.Test.YtecpihghlelefaaVRef2
import Derived.Deep.QuietTactic
import Derived.BigQuiet
namespace Go.Proofs.Ytecpihghlelefaa
open Go.RowKit Go.Maps Go.WideMaps
set_option linter.unusedSimpArgs false

set_option maxHeartbeats 8000000 in
set_option maxRecDepth 100000 in
theorem r5Same_any (w : World) (A B A' B' : Option Addr) (n m ca cb ca' cb' : Nat) (V : Voc) (h1 : VocSee w A B n m ca cb V) (h2 : VocSee w A' B' n m ca' cb' V) :
    Calls Try.prog 12 #[vocV A B n m ca cb, vocV A' B' n m ca' cb'] w fun e w' => e = .returned (.bool true) ∧ Below w.heap.size w w' := by
  have hn63 : n ≤ 9223372036854775807 := h1.tok.fit
  have hm63 : m ≤ 9223372036854775807 := h1.mer.fit
  have HN := Lib.hid h1.tok.len
  have HM := Lib.hid h1.mer.len
  have b1 := (Below.refl w.heap.size w).alloc (Nat.le_refl _) (.cells #[.slice A n ca, .slice B m cb] 33)
  obtain ⟨W1, hW1⟩ : ∃ z, z = w.alloc (.cells #[.slice A n ca, .slice B m cb] 33) := ⟨_, rfl⟩
  have hv1 : Blk W1 w.heap.size 33 #[.slice A n ca, .slice B m cb] := by rw [hW1]; exact Blk.new _ _ _
  have hs1 : W1.heap.size = w.heap.size + 1 := by rw [hW1]; simp
  rw [← hW1] at b1
  have b2 := (Below.refl W1.heap.size W1).alloc (Nat.le_refl _) (.cells #[.slice A' n ca', .slice B' m cb'] 33)
  obtain ⟨W, hW⟩ : ∃ z, z = W1.alloc (.cells #[.slice A' n ca', .slice B' m cb'] 33) := ⟨_, rfl⟩
  have hv2 : Blk W W1.heap.size 33 #[.slice A' n ca', .slice B' m cb'] := by rw [hW]; exact Blk.new _ _ _
  rw [← hW] at b2
  rw [hs1] at hv2
  have b12 := b1.trans (b2.mono b1.size)
  have HB := Lib.hid b12
  have HV1 := Lib.hid (h1.below b12)
  have HV2 := Lib.hid (h2.below b12)
  have hv1' := hv1.below b2 hv1.lt
  have e0 : ∀ q, (W.drewN q).cell? ⟨w.heap.size, 0, none⟩ = some (.slice A n ca) := fun _ => hv1'.cell 0
  have e1 : ∀ q, (W.drewN q).cell? ⟨w.heap.size, 1, none⟩ = some (.slice B m cb) := fun _ => hv1'.cell 1
  have f0 : ∀ q, (W.drewN q).cell? ⟨w.heap.size + 1, 0, none⟩ = some (.slice A' n ca') := fun _ => hv2.cell 0
  have f1 : ∀ q, (W.drewN q).cell? ⟨w.heap.size + 1, 1, none⟩ = some (.slice B' m cb') := fun _ => hv2.cell 1
  have e0z := e0 0
  have e1z := e1 0
  have f0z := f0 0
  have f1z := f1 0
  rw [show W.drewN 0 = W from rfl] at e0z e1z f0z f1z
  rw [hW1] at hW
  have HW := Lib.hid hW
  clear h1 h2 b1 b2 b12 hv1 hv1' hv2 hs1 hW1 hW W1
  unfold vocV
  go_enter Try.func12, Try.ntmps12
  go_wp2_with fail
  rw [← HW.out]
  go_wp2_with fail
  go_loopw [5] (fun i wr => ∃ k q : Nat, k ≤ n ∧ i = .int .i64 k ∧ wr = W.drewN q) (fun i _ => n - (intOf i).toNat)
  case atStart => exact ⟨0, 0, by omega, rfl, rfl⟩
  case round =>
    obtain ⟨k, q, hk, rfl, rfl⟩ := hrel
    rcases Nat.lt_or_ge k n with hlt | hge
    · have hlt' : (k : Int) < (n : Int) := by omega
      have p0 : (0 : Int) ≤ (k : Int) := by omega
      obtain ⟨x, hx⟩ : ∃ x, V.tok[k]? = some x := ⟨_, List.getElem?_eq_getElem (by rw [HN.out]; exact hlt)⟩
      obtain ⟨pa, Ax, cx, rfl, ea, _, ex⟩ := HV1.out.tok.at_ k x hx
      obtain ⟨pb, Bx, dx, rfl, eb, _, fx⟩ := HV2.out.tok.at_ k x hx
      have ea' : ∀ q, (W.drewN q).cell? (pa.add k) = some (.slice Ax x.length cx) := fun _ => ea
      have eb' : ∀ q, (W.drewN q).cell? (pb.add k) = some (.slice Bx x.length dx) := fun _ => eb
      have cv := fun q => str_of (ex.drewN q) cx
      have dv := fun q => str_of (fx.drewN q) dx
      clear hx ex fx ea eb
      go_wp2_with fail
      go_quiet (fail)
      go_wp2
      go_roundw
      case rel => exact ⟨k + 1, _, by omega, by go_num, rfl⟩
      case measure => simp [intOf]; omega
    · obtain rfl : k = n := by omega
      have hkz : ¬ ((k : Int) < (k : Int)) := by omega
      go_wp2_with fail
      go_loopw [6] (fun i wr => ∃ j q : Nat, j ≤ m ∧ i = .int .i64 j ∧ wr = W.drewN q) (fun i _ => m - (intOf i).toNat)
      case atStart => exact ⟨0, _, by omega, rfl, rfl⟩
      case round =>
        clear q
        obtain ⟨j, q, hj, rfl, rfl⟩ := hrel
        rcases Nat.lt_or_ge j m with hlt | hge
        · have hlt' : (j : Int) < (m : Int) := by omega
          have p0 : (0 : Int) ≤ (j : Int) := by omega
          obtain ⟨mg, hmg⟩ : ∃ x, V.mer[j]? = some x := ⟨_, List.getElem?_eq_getElem (by rw [HM.out]; exact hlt)⟩
          obtain ⟨pa, rfl, a0, a1, a2⟩ := HV1.out.mer.at_ j mg hmg
          obtain ⟨pb, rfl, c0, c1, c2⟩ := HV2.out.mer.at_ j mg hmg
          obtain ⟨x, y, z⟩ := mg
          simp only at a0 a1 a2 c0 c1 c2
          have a0' : ∀ q, (W.drewN q).cell? (pa.add (j * 3)) = some (.int .i64 x) := fun _ => a0
          have a1' : ∀ q, (W.drewN q).cell? ⟨(pa.add (j * 3)).block, (pa.add (j * 3)).off + 1, none⟩ = some (.int .i64 y) := fun _ => a1
          have a2' : ∀ q, (W.drewN q).cell? ⟨(pa.add (j * 3)).block, (pa.add (j * 3)).off + 2, none⟩ = some (.int .i64 z) := fun _ => a2
          have c0' : ∀ q, (W.drewN q).cell? (pb.add (j * 3)) = some (.int .i64 x) := fun _ => c0
          have c1' : ∀ q, (W.drewN q).cell? ⟨(pb.add (j * 3)).block, (pb.add (j * 3)).off + 1, none⟩ = some (.int .i64 y) := fun _ => c1
          have c2' : ∀ q, (W.drewN q).cell? ⟨(pb.add (j * 3)).block, (pb.add (j * 3)).off + 2, none⟩ = some (.int .i64 z) := fun _ => c2
          clear hmg a0 a1 a2 c0 c1 c2
          go_wp2_with fail
          go_quiet (fail)
          go_wp2
          go_roundw
          case rel => exact ⟨j + 1, _, by omega, by go_num, rfl⟩
          case measure => simp [intOf]; omega
        · obtain rfl : j = m := by omega
          have hjz : ¬ ((j : Int) < (j : Int)) := by omega
          go_wp2
          go_ret
          exact ⟨rfl, below_drewN HB.out _⟩
end Go.Proofs.Ytecpihghlelefaa
