/- Rows and integers in new blocks: literals of a law's head. -/
import Derived.Test.YtjnbilcanfhkjaaKRows
import Derived.Test.YtjnbilcanfhkjaaKInts
namespace Go.Proofs.Ytjnbilcanfhkjaa
open Go.RowKit Go.Maps Go.WideMaps

theorem rowsOf1 {w : World} {A : Option Addr} {n c : Nat} {x : Nm} (h : BytesIn w A n x) (hn : x.length = n) (hc : n ≤ c) : RowsSee (w.alloc (.cells #[.slice A n c] 23)) (some ⟨w.heap.size, 0, none⟩) 1 [x] where
  len := rfl
  fit := by unfold maxLen; omega
  at_ := fun i y hy => by
    have hB := Blk.new w 23 #[.slice A n c]
    match i with
    | 0 =>
      simp at hy
      subst hy hn
      exact ⟨_, A, c, rfl, hB.cell 0, hc, h.below ((Below.refl _ w).alloc (Nat.le_refl _) _)⟩
    | i + 1 => simp at hy
theorem rowsOf3 {w : World} {A B C : Option Addr} {a b c : Nat} {x y z : Nm} (ha : BytesIn w A a x) (hb : BytesIn w B b y) (hc : BytesIn w C c z) (e1 : x.length = a) (e2 : y.length = b) (e3 : z.length = c) :
    RowsSee (w.alloc (.cells #[.slice A a a, .slice B b b, .slice C c c] 23)) (some ⟨w.heap.size, 0, none⟩) 3 [x, y, z] where
  len := rfl
  fit := by unfold maxLen; omega
  at_ := fun i u hu => by
    have hB := Blk.new w 23 #[.slice A a a, .slice B b b, .slice C c c]
    have hb2 := (Below.refl w.heap.size w).alloc (Nat.le_refl _) (.cells #[.slice A a a, .slice B b b, .slice C c c] 23)
    subst e1 e2 e3
    match i with
    | 0 =>
      simp at hu
      subst hu
      exact ⟨_, A, _, rfl, hB.cell 0, Nat.le_refl _, ha.below hb2⟩
    | 1 =>
      simp at hu
      subst hu
      exact ⟨_, B, _, rfl, hB.cell 1, Nat.le_refl _, hb.below hb2⟩
    | 2 =>
      simp at hu
      subst hu
      exact ⟨_, C, _, rfl, hB.cell 2, Nat.le_refl _, hc.below hb2⟩
    | i + 3 => simp at hu
theorem intsOf3 (w : World) (e : TypeId) (a b c : Int) (ha : -9223372036854775808 ≤ a ∧ a ≤ 9223372036854775807) (hb : -9223372036854775808 ≤ b ∧ b ≤ 9223372036854775807) (hc : -9223372036854775808 ≤ c ∧ c ≤ 9223372036854775807) :
    IntsIn (w.alloc (.cells #[.int .i64 a, .int .i64 b, .int .i64 c] e)) (some ⟨w.heap.size, 0, none⟩) 3 [a, b, c] := by
  have hB := Blk.new w e #[.int .i64 a, .int .i64 b, .int .i64 c]
  refine ⟨by unfold maxLen; omega, ⟨rfl, fun ad e1 j u hu => ?_, fun e1 => by cases e1⟩, fun x hx => ?_, fun ad e1 _ => by cases e1; simp⟩
  · cases e1
    match j with
    | 0 => simp [i64V] at hu; subst hu; exact hB.cell 0
    | 1 => simp [i64V] at hu; subst hu; exact hB.cell 1
    | 2 => simp [i64V] at hu; subst hu; exact hB.cell 2
    | j + 3 => simp at hu
  · simp at hx
    rcases hx with rfl | rfl | rfl
    · exact ha
    · exact hb
    · exact hc
theorem made17z (w : World) : (Instr.makeSlice 23 (.int .i64 17) (.int .i64 17)).run Try.prog w = .ok (.slice (some ⟨w.heap.size, 0, none⟩) 17 17) (w.alloc (.cells ((List.replicate 17 (0 : UInt8)).map byteV).toArray 5)) := by kernel_rfl
end Go.Proofs.Ytjnbilcanfhkjaa
