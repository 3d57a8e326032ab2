/- What all laws of post ask first. -/
import Derived.Test.YtmcoooepoikgjaaPSpec
namespace Go.Proofs.Ytmcoooepoikgjaa
open Go.RowKit Go.Maps Go.WideMaps
set_option linter.unusedSimpArgs false

abbrev phL : List Pst := [(3, [(2, 5)])]
theorem phC0 : checkP [] = 0 := by decide +kernel
theorem phB0 : putE [] = [0] := by decide +kernel
theorem phC1 : checkP phL = 0 := by decide +kernel
theorem phB1 : putE phL = [1, 3, 7, 3, 5, 3, 1, 2, 1, 5] := by decide +kernel
theorem phG1 : getP [1, 3, 7, 3, 5, 3, 1, 2, 1, 5] = (phL, 0) := by decide +kernel
theorem phG2 : getP [1] = ([], 3) := by decide +kernel

set_option maxHeartbeats 8000000 in
set_option maxRecDepth 100000 in
theorem postHead_any (hK : PostOk) (w : World) : Calls Try.prog 7 #[] w fun e w' => e = .returned (.bool true) ∧ Below w.heap.size w w' := by
  have HC1 := Lib.hid (put_is hK (c := 0) (PostsSee.nil0 w) (Nat.le_refl _) (by omega) (by simp) phB0 phC0)
  have HK := Lib.hid hK
  clear hK
  go_enter Try.func7, Try.ntmps7
  go_wp2_with fail
  refine HC1.out.mono ?_
  rintro e w1 ⟨A1, c1, rfl, hi1, -, -, hb1⟩
  have HB1 := Lib.hid hb1
  have HI1 := Lib.hid hi1
  clear hb1 hi1
  obtain ⟨V2, hV2⟩ : ∃ V, V = w1.alloc (.cells #[.int .i64 2, .int .i64 5] 40) := ⟨_, rfl⟩
  have hs2 : V2.heap.size = w1.heap.size + 1 := by rw [hV2]; simp
  obtain ⟨V3, hV3⟩ : ∃ V, V = V2.alloc (.cells #[.int .i64 3, .slice (some ⟨w1.heap.size, 0, none⟩) 1 1] 36) := ⟨_, rfl⟩
  have hp2 : PairsIn V2 (some ⟨w1.heap.size, 0, none⟩) 1 [(2, 5)] := by rw [hV2]; exact pairsOf1 w1 40 (2, 5) ⟨by unfold fits64; omega, by unfold fits64; omega⟩
  have hb23 : Below V2.heap.size V2 V3 := by rw [hV3]; exact (Below.refl _ _).alloc (Nat.le_refl _) _
  have hB3 : Blk V3 V2.heap.size 36 #[.int .i64 3, .slice (some ⟨w1.heap.size, 0, none⟩) 1 1] := by rw [hV3]; exact Blk.new _ _ _
  have hsee := postsOf1 hB3 (hp2.below hb23) (Nat.le_refl 1) (by unfold fits64; omega)
  have hb13 : Below w1.heap.size w1 V3 := by rw [hV3, hV2]; exact ((Below.refl _ _).alloc (Nat.le_refl _) _).alloc (by simp) _
  have HC3 := Lib.hid (put_is HK.out (c := 1) hsee (Nat.le_refl _) (by omega) (by simp) phB1 phC1)
  rw [hs2] at HC3
  rw [hV2] at hV3
  have HV3 := Lib.hid hV3
  have HB3 := Lib.hid (below_then HB1.out hb13 HB1.out.size)
  have HI3 := Lib.hid (HI1.out.below hb13)
  clear hV2 hs2 hV3 hp2 hb23 hB3 hsee hb13
  go_wp2_with fail
  rw [← HV3.out]
  refine HC3.out.mono ?_
  rintro e w4 ⟨A4, c4, rfl, hi4, hc4, -, hb4⟩
  have HB4 := Lib.hid (below_then HB3.out hb4 HB3.out.size)
  have HI4 := Lib.hid (HI3.out.below hb4)
  have HJ4 := Lib.hid hi4
  have HC4 := Lib.hid (get_is HK.out hi4 hc4 (by simp) phG1)
  clear hi4 hc4 hb4 HC3 HV3
  go_wp2_with fail
  refine HC4.out.mono ?_
  rintro e w5 ⟨A5, c5, rfl, hs5, hc5, hb5⟩
  have HB5 := Lib.hid (below_then HB4.out hb5 HB4.out.size)
  have HI5 := Lib.hid (HI4.out.below hb5)
  have HJ5 := Lib.hid (HJ4.out.below hb5)
  have HS5 := Lib.hid hs5
  clear hb5 hs5 hc5
  have hin := const_in w5 [1] (0, 0) (by decide)
  obtain ⟨V6, hV6⟩ : ∃ V, V = w5.alloc (.cells #[.int .u8 1] 5) := ⟨_, rfl⟩
  have hin' : BytesIn V6 (some ⟨w5.heap.size, 0, none⟩) 1 [1] := by rw [hV6]; exact hin
  have hb6 : Below w5.heap.size w5 V6 := by rw [hV6]; exact (Below.refl _ _).alloc (Nat.le_refl _) _
  have HC6 := Lib.hid (get_is HK.out (c := 1) hin' (Nat.le_refl _) (by omega) phG2)
  have HV6 := Lib.hid hV6
  have HB6 := Lib.hid (below_then HB5.out hb6 HB5.out.size)
  have HI6 := Lib.hid (HI5.out.below hb6)
  have HJ6 := Lib.hid (HJ5.out.below hb6)
  have HS6 := Lib.hid (HS5.out.below hb6)
  clear hin hV6 hin' hb6
  go_wp2_with fail
  rw [← HV6.out]
  refine HC6.out.mono ?_
  rintro e w7 ⟨A7, c7, rfl, -, -, hb7⟩
  have HB7 := Lib.hid (below_then HB6.out hb7 HB6.out.size)
  have cv1 : (convert 23 9 (.slice A1 1 c1)).run Try.prog w7 = .ok (.string ⟨#[0]⟩) w7 := str_of (HI6.out.below hb7) c1
  have cv4 : (convert 23 9 (.slice A4 10 c4)).run Try.prog w7 = .ok (.string ⟨#[1, 3, 7, 3, 5, 3, 1, 2, 1, 5]⟩) w7 := str_of (HJ6.out.below hb7) c4
  obtain ⟨pa, x, SA, da, rfl, hx, -, a0, -, -, -⟩ := (HS6.out.below hb7).at 0 (by decide)
  simp at hx
  subst hx
  have a0' : w7.cell? pa = some (.int .i64 3) := by simpa [Addr.add] using a0
  have a0'' : w7.cell? (pa.add 0) = some (.int .i64 3) := a0
  simp only [List.length_cons, List.length_nil, Nat.zero_add, Nat.reduceAdd]
  clear hb7 a0
  go_wp2
  go_ret
  exact ⟨rfl, HB7.out⟩
end Go.Proofs.Ytmcoooepoikgjaa
