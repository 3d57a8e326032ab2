/- What all laws of crc ask first; and the first laws. -/
import Derived.Test.YtegjlmdnjnebgaaMore
namespace Go.Proofs.Ytegjlmdnjnebgaa
open Go.RowKit Go.Maps Go.WideMaps

def nine : Nm := [49, 50, 51, 52, 53, 54, 55, 56, 57]
theorem sum_nine : sumN nine = 3421780262 := by decide +kernel
theorem sum_nil : sumN [] = 0 := by decide +kernel
set_option maxHeartbeats 4000000 in
set_option maxRecDepth 100000 in
theorem head_any (w : World) : Calls Try.prog 9 #[] w fun e w' => e = .returned (.bool true) ∧ Below w.heap.size w w' := by
  have hcv := const_bytes w (nine.map byteV).toArray 9 9
  have hin := const_in w nine (9, 10) (by decide)
  simp only [nine, byteV, List.map_cons, List.map_nil] at hcv hin
  simp at hcv hin
  have HIN := Lib.hid hin
  clear hin
  go_enter Try.func9, Try.ntmps9
  go_wp2_with fail
  refine (sum_any _ _ 9 9 nine HIN.out).mono ?_
  rintro e w1 ⟨rfl, hb⟩
  rw [sum_nine]
  have HB := Lib.hid hb
  clear hb
  go_wp2_with fail
  refine (sum_any _ none 0 0 [] (BytesIn.nil _)).mono ?_
  rintro e w2 ⟨rfl, hb2⟩
  rw [sum_nil]
  have HB2 := Lib.hid hb2
  clear hb2
  go_wp2
  go_ret
  have h1 := HB.out
  have h2 := HB2.out
  have h0 : Below w.heap.size w (w.alloc (.cells (nine.map byteV).toArray 5 (9, 10))) := (Below.refl _ w).alloc (Nat.le_refl _) _
  exact ⟨rfl, (h0.trans (h1.mono h0.size)).trans (h2.mono (Nat.le_trans h0.size h1.size))⟩
end Go.Proofs.Ytegjlmdnjnebgaa
