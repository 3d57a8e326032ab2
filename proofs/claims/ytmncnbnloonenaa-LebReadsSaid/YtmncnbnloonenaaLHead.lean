/- What all laws of leb ask first. -/
import Derived.Test.YtmncnbnloonenaaLProg3
import Derived.Test.YtmncnbnloonenaaLProg7
import Derived.Test.YtmncnbnloonenaaKStr
namespace Go.Proofs.Ytmncnbnloonenaa
open Go.RowKit Go.Maps Go.WideMaps Go.Shelf

theorem ints_new (w : World) (l : List Int) (e : TypeId) (h63 : l.length ≤ maxLen) (hl : ∀ x ∈ l, -9223372036854775808 ≤ x ∧ x ≤ 9223372036854775807) : IntsIn (w.alloc (.cells (l.map i64V).toArray e)) (some ⟨w.heap.size, 0, none⟩) l.length l := by
  refine ⟨h63, ⟨by simp, fun ad e' j u hu => ?_, fun e' => by cases e'⟩, hl, fun ad e' _ => ?_⟩
  · cases e'
    have e2 : (⟨w.heap.size, 0, none⟩ : Addr).add j = ⟨w.heap.size, j, none⟩ := by
      unfold Addr.add
      split
      · rename_i h0; rw [h0]
      · simp
    rw [e2, cell_of_row _ w.heap.size j _ e (0, 0) (heap_alloc_new w _)]
    simpa using hu
  · cases e'
    simp
theorem put300 : putL 300 = [172, 2] := by
  rw [putL_big (by decide), putL_small (by decide)]
  rfl
theorem get300 : getL [172, 2, 7] = (300, 2, 0) := by decide +kernel
theorem get128 : getL [128, 0] = (0, 0, 32) := by decide +kernel
theorem put349 : putR [3, 4, 9] = [3, 3, 0, 4] := by
  simp only [putR, putGaps, gaps, List.flatMap_cons, List.flatMap_nil, List.length_cons, List.length_nil]
  rw [putL_small (by decide), putL_small (by decide), putL_small (by decide), putL_small (by decide)]
  rfl
theorem read25 : rText ⟨[2, 97, 98, 5], 0, 0⟩ 9 = ([97, 98], ⟨[2, 97, 98, 5], 3, 0⟩) := by
  have : getL [2, 97, 98, 5] = (2, 1, 0) := by decide +kernel
  simp [rText, rInt, rBytes, this]

set_option maxHeartbeats 8000000 in
set_option maxRecDepth 100000 in
theorem lebHead_any (w : World) : Calls Try.prog 10 #[] w fun e w' => e = .returned (.bool true) ∧ Below w.heap.size w w' := by
  go_enter Try.func10, Try.ntmps10
  go_wp2_with fail
  refine (lPut_any w 300 (by decide)).mono ?_
  rintro e w1 ⟨v1, rfl, hO1, hB1⟩
  rw [put300] at hO1
  obtain ⟨A1, c1, hv⟩ := own_slice hO1
  subst hv
  have S1 := Lib.hid (BytesIn.own (l := [172, 2]) hO1 (by unfold maxLen; decide))
  have B1 := Lib.hid hB1
  have hin := const_in w1 [172, 2, 7] (0, 0) (by decide)
  simp only [byteV, List.map_cons, List.map_nil] at hin
  simp at hin
  have HIN := Lib.hid hin
  clear hin hO1 hB1
  go_wp2_with fail
  refine (lGet_is _ _ 3 3 _ HIN.out get300).mono ?_
  rintro e w2 ⟨rfl, hw⟩
  have B2 := Lib.hid (B1.out.alloc B1.out.size (.cells #[.int .u8 172, .int .u8 2, .int .u8 7] 5))
  rw [← hw] at B2
  have S2 := Lib.hid (S1.out.below (by rw [hw]; exact (Below.refl _ w1).alloc (Nat.le_refl _) _ : Below w1.heap.size w1 w2))
  clear hw S1 HIN B1
  have hin := ints_new w2 [3, 4, 9] 2 (by decide) (by decide)
  simp only [i64V, List.map_cons, List.map_nil] at hin
  simp at hin
  have HIN := Lib.hid hin
  clear hin
  go_wp2_with fail
  refine (lPutRising_any _ _ 3 3 _ HIN.out (by decide)).mono ?_
  rintro e w3 ⟨v3, n3, rfl, hB3, h3⟩
  have hr : rises (-1) [3, 4, 9] = true := by decide
  rw [hr, put349] at h3
  obtain ⟨rfl, hO3⟩ : n3 = 0 ∧ w3.ownsRow (w2.alloc (.cells #[.int .i64 3, .int .i64 4, .int .i64 9] 2)).heap.size 5 1 v3 4 ([3, 3, 0, 4].map byteV) := by
    rcases h3 with ⟨_, h1, h2⟩ | ⟨h1, _⟩
    · exact ⟨h1, h2⟩
    · cases h1
  obtain ⟨A3, c3, hv⟩ := own_slice hO3
  subst hv
  have S3 := Lib.hid (BytesIn.own (l := [3, 3, 0, 4]) hO3 (by unfold maxLen; decide))
  have hb2 := (Below.refl w2.heap.size w2).alloc (Nat.le_refl _) (.cells #[.int .i64 3, .int .i64 4, .int .i64 9] 2)
  have B3 := Lib.hid (below_then (below_then B2.out hb2 B2.out.size) hB3 (below_then B2.out hb2 B2.out.size).size)
  have S23 := Lib.hid ((S2.out.below hb2).below hB3)
  clear hb2 hB3 h3 hO3 HIN B2 S2 hr
  have hin := const_in w3 [128, 0] (0, 0) (by decide)
  simp only [byteV, List.map_cons, List.map_nil] at hin
  simp at hin
  have HIN := Lib.hid hin
  clear hin
  go_wp2_with fail
  refine (lGet_is _ _ 2 2 _ HIN.out get128).mono ?_
  rintro e w4 ⟨rfl, hw⟩
  have B4 := Lib.hid (B3.out.alloc B3.out.size (.cells #[.int .u8 128, .int .u8 0] 5))
  rw [← hw] at B4
  have b34 : Below w3.heap.size w3 w4 := by rw [hw]; exact (Below.refl _ w3).alloc (Nat.le_refl _) _
  have S4 := Lib.hid (S3.out.below b34)
  have S24 := Lib.hid (S23.out.below b34)
  clear hw S3 S23 HIN B3 b34
  have hin := const_in w4 [2, 97, 98, 5] (0, 0) (by decide)
  simp only [byteV, List.map_cons, List.map_nil] at hin
  simp at hin
  have HIN := Lib.hid hin
  clear hin
  go_wp2_with fail
  refine (lNew_any _ _ 4 4 _ HIN.out (by decide)).mono ?_
  rintro e w5 ⟨b, g, rfl, hb, hg, hR, hB⟩
  have hb4 := (Below.refl w4.heap.size w4).alloc (Nat.le_refl _) (.cells #[.int .u8 2, .int .u8 97, .int .u8 98, .int .u8 5] 5)
  have b45 := below_then hb4 hB hb4.size
  have hlt : w4.heap.size < b := by simp at hb; omega
  have S5 := Lib.hid (S4.out.below b45)
  have S25 := Lib.hid (S24.out.below b45)
  have B5 := Lib.hid (below_then B4.out b45 B4.out.size)
  have HR := Lib.hid hR
  have L5 := Lib.hid (S4.out.2.2)
  have L25 := Lib.hid (S24.out.2.2)
  clear hb4 hB hb hR b45 S4 S24 HIN
  unfold at0
  go_wp2_with fail
  refine (lText_any w5 b g _ HR.out 9 (by decide) (by decide)).mono ?_
  rw [read25]
  rintro e w6 ⟨v6, rfl, hO60, hR6, hK⟩
  have hO6 : w6.ownsRow w5.heap.size 5 1 v6 2 ([97, 98].map byteV) := hO60
  clear hO60
  obtain ⟨A6, c6, hv⟩ := own_slice hO6
  subst hv
  have S6 : (convert 23 9 (.slice A6 2 c6)).run Try.prog w6 = .ok (.string ⟨#[97, 98]⟩) w6 := str_of (BytesIn.own (l := [97, 98]) hO6 (by unfold maxLen; decide)) c6
  have S56 : (convert 23 9 (.slice A3 4 c3)).run Try.prog w6 = .ok (.string ⟨#[3, 3, 0, 4]⟩) w6 := str_of (S5.out.keep hK (fun ad e h0 h => by have := L5.out ad e h0; omega)) c3
  have S26 : (convert 23 9 (.slice A1 2 c1)).run Try.prog w6 = .ok (.string ⟨#[172, 2]⟩) w6 := str_of (S25.out.keep hK (fun ad e h0 h => by have := L25.out ad e h0; omega)) c1
  have B6 := Lib.hid (B5.out.trans (hK.toBelow B5.out.size (fun i (h : i = b) => by have := B4.out.size; omega)))
  have HR6 := Lib.hid hR6
  clear hO6 hR6 hK S5 S25 HR B5
  go_wp2_with fail
  refine (lLeft_any w6 b g _ HR6.out).mono ?_
  rintro e w7 ⟨rfl, hw⟩
  rw [hw]
  clear hw
  have hl : rLeft ⟨[2, 97, 98, 5], 3, 0⟩ = 1 := by decide
  rw [hl]
  go_wp2
  go_ret
  exact ⟨rfl, B6.out⟩
end Go.Proofs.Ytmncnbnloonenaa
