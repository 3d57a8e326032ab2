/- What all laws of vocab ask first. -/
import Derived.Test.YtecpihghlelefaaVProg1
import Derived.Test.YtecpihghlelefaaVProg2
namespace Go.Proofs.Ytecpihghlelefaa
open Go.RowKit Go.Maps Go.WideMaps
set_option linter.unusedSimpArgs false

theorem pairs_new2 (w : World) (a b c d : Int) (ha : fits64 a) (hb : fits64 b) (hc : fits64 c) (hd : fits64 d) : PairsIn (w.alloc (.cells #[.int .i64 a, .int .i64 b, .int .i64 c, .int .i64 d] 45)) (some ⟨w.heap.size, 0, none⟩) 2 [(a, b), (c, d)] where
  len := rfl
  fit := by unfold maxLen; omega
  vals := fun p hp => by
    simp only [List.mem_cons, List.not_mem_nil, or_false] at hp
    rcases hp with rfl | rfl
    · exact ⟨ha, hb⟩
    · exact ⟨hc, hd⟩
  nil := fun e => by cases e
  cells := fun ad e i p hp => by
    cases e
    have hn := Blk.new w 45 #[.int .i64 a, .int .i64 b, .int .i64 c, .int .i64 d]
    rw [addr_add, addr_add, hn.cell, hn.cell]
    match i with
    | 0 => simp at hp; subst hp; exact ⟨rfl, rfl⟩
    | 1 => simp at hp; subst hp; exact ⟨rfl, rfl⟩
    | i + 2 => simp at hp
abbrev hl1 : List (Int × Int) := [(97, 98), (256, 99)]
abbrev hl2 : List (Int × Int) := [(97, 98), (97, 98)]
theorem hb1 : (buildAll hl1).2 = 0 := by decide +kernel
theorem hb1n : (buildAll hl1).1.tok.length = 258 := by decide +kernel
theorem hb1t : (buildAll hl1).1.tok[257]? = some [97, 98, 99] := by decide +kernel
theorem hb2 : (buildAll hl2).2 = 53 := by decide +kernel
theorem hbn : checkV ⟨[], []⟩ = 51 := by decide +kernel

theorem vBuild_is (w : World) (A : Option Addr) (n c : Nat) (l : List (Int × Int)) (hl : PairsIn w A n l) {V : Voc} {E : Int} (h : buildAll l = (V, E)) {k m : Nat} (hk : V.tok.length = k) (hm : V.mer.length = m) :
    Calls Try.prog 10 #[.slice A n c] w fun e w' => ∃ A B ca cb, e = .returned (.tuple #[.agg #[.slice A k ca, .slice B m cb], .int .i64 E]) ∧ VocSee w' A B k m ca cb V ∧ Below w.heap.size w w' := by
  have h1 := vBuild_any w A n c l hl
  unfold VocOut at h1
  rw [h] at h1
  subst hk hm
  exact h1
theorem vCheck_is (w : World) (A B : Option Addr) (n m ca cb : Nat) (V : Voc) (hV : VocSee w A B n m ca cb V) {r : Int} (h : checkV V = r) :
    Calls Try.prog 18 #[.agg #[.slice A n ca, .slice B m cb]] w fun e w' => e = .returned (.int .i64 r) ∧ Below w.heap.size w w' := by
  have h1 := vCheck_any w A B n m ca cb V hV
  rw [h] at h1
  exact h1

set_option maxHeartbeats 8000000 in
set_option maxRecDepth 100000 in
theorem vocabHead_any (w : World) : Calls Try.prog 8 #[] w fun e w' => e = .returned (.bool true) ∧ Below w.heap.size w w' := by
  have HIN := Lib.hid (pairs_new2 w 97 98 256 99 ⟨by decide, by decide⟩ ⟨by decide, by decide⟩ ⟨by decide, by decide⟩ ⟨by decide, by decide⟩)
  obtain ⟨V, hV⟩ : ∃ V, V = (buildAll hl1).1 := ⟨_, rfl⟩
  have hck : checkV V = 0 := by rw [hV]; exact (build_ok _ _ ones_ok hb1).check
  have hn : V.tok.length = 258 := by rw [hV]; exact hb1n
  have ht : V.tok[257]? = some [97, 98, 99] := by rw [hV]; exact hb1t
  have hB : buildAll hl1 = (V, 0) := by rw [hV, ← hb1]
  obtain ⟨m, hm⟩ : ∃ m, V.mer.length = m := ⟨_, rfl⟩
  obtain ⟨V2, hV2⟩ : ∃ V, V = (buildAll hl2).1 := ⟨_, rfl⟩
  have hB2 : buildAll hl2 = (V2, 53) := by rw [hV2, ← hb2]
  obtain ⟨k2, hk2⟩ : ∃ m, V2.tok.length = m := ⟨_, rfl⟩
  obtain ⟨m2, hm2⟩ : ∃ m, V2.mer.length = m := ⟨_, rfl⟩
  have HCK := Lib.hid hck
  have HT := Lib.hid ht
  have HN := Lib.hid hn
  have HM := Lib.hid hm
  have HBA := Lib.hid hB
  have HBA2 := Lib.hid hB2
  have HK2 := Lib.hid hk2
  have HM2 := Lib.hid hm2
  clear hck hn ht hB hm hB2 hk2 hm2 hV hV2
  go_enter Try.func8, Try.ntmps8
  go_wp2_with fail
  refine (vBuild_is _ _ 2 2 hl1 HIN.out HBA.out HN.out HM.out).mono ?_
  rintro e w1 ⟨A, B, ca, cb, rfl, hsee, hb⟩
  have HB1 := Lib.hid (below_then ((Below.refl _ w).alloc (Nat.le_refl _) _) hb (by simp))
  have HSEE := Lib.hid hsee
  have hb2 := HB1.out.alloc HB1.out.size (.cells #[.slice A 258 ca, .slice B m cb] 33)
  obtain ⟨W2, hW2⟩ : ∃ W2, W2 = w1.alloc (.cells #[.slice A 258 ca, .slice B m cb] 33) := ⟨_, rfl⟩
  have hv2 : Blk W2 w1.heap.size 33 #[.slice A 258 ca, .slice B m cb] := by rw [hW2]; exact Blk.new _ _ _
  have HS2 := Lib.hid (hsee.below (by rw [hW2]; exact (Below.refl _ w1).alloc (Nat.le_refl _) _ : Below w1.heap.size w1 W2))
  have hs2 : W2.heap.size = w1.heap.size + 1 := by rw [hW2]; simp
  rw [← hW2] at hb2
  have HB2 := Lib.hid hb2
  have HV2 := Lib.hid hv2
  have HW2 := Lib.hid hW2
  have HSZ2 := Lib.hid hs2
  have HIN2 := Lib.hid (pairs_new2 W2 97 98 97 98 ⟨by decide, by decide⟩ ⟨by decide, by decide⟩ ⟨by decide, by decide⟩ ⟨by decide, by decide⟩)
  clear hsee hb HIN hb2 hW2 hv2 hs2 HSEE
  go_wp2_with fail
  rw [← HW2.out, ← HSZ2.out]
  refine (vBuild_is _ _ 2 2 hl2 HIN2.out HBA2.out HK2.out HM2.out).mono ?_
  rintro e w3 ⟨A3, B3, ca3, cb3, rfl, -, hb⟩
  have hb3 := below_then ((Below.refl W2.heap.size W2).alloc (Nat.le_refl _) _) hb (by simp)
  have HB3 := Lib.hid (below_then HB2.out hb3 HB2.out.size)
  have hv3 := HV2.out.below hb3 HV2.out.lt
  have HS3 := Lib.hid (HS2.out.below hb3)
  have hb4 := (Below.refl w3.heap.size w3).alloc (Nat.le_refl _) (.cells #[.slice A3 k2 ca3, .slice B3 m2 cb3] 33)
  obtain ⟨W4, hW4⟩ : ∃ W4, W4 = w3.alloc (.cells #[.slice A3 k2 ca3, .slice B3 m2 cb3] 33) := ⟨_, rfl⟩
  rw [← hW4] at hb4
  have hv4 := hv3.below hb4 hv3.lt
  have HS4 := Lib.hid (HS3.out.below hb4)
  have HB4 := Lib.hid (below_then HB3.out hb4 HB3.out.size)
  have HW4 := Lib.hid hW4
  have y0 := hv4.cell 0
  have y1 := hv4.cell 1
  simp only [List.getElem?_toArray, List.getElem?_cons_zero, List.getElem?_cons_succ] at y0 y1
  obtain ⟨ad, A5, c5, rfl, e5, _, h5⟩ := HS4.out.tok.at_ 257 _ HT.out
  have hcv : (convert 23 9 (.slice A5 [97, 98, 99].length c5)).run Try.prog W4 = .ok (.string ⟨#[97, 98, 99]⟩) W4 := str_of h5 c5
  have e5' : W4.cell? ⟨ad.block, ad.off + 257, none⟩ = some (.slice A5 3 c5) := e5
  have hcv' : (convert 23 9 (.slice A5 3 c5)).run Try.prog W4 = .ok (.string ⟨#[97, 98, 99]⟩) W4 := hcv
  have HNIL := Lib.hid (VocSee.nil)
  rw [hW4] at y0 y1 e5' hcv'
  clear hb hb3 hv3 hb4 hv4 hW4 e5 hcv h5 HIN2
  go_wp2_with fail
  rw [← HW4.out]
  refine (vCheck_is W4 (some ad) B 258 m ca cb V HS4.out HCK.out).mono ?_
  rintro e w5 ⟨rfl, hb5⟩
  have HB5 := Lib.hid (below_then HB4.out hb5 HB4.out.size)
  clear hb5 y0 y1 e5' hcv'
  go_wp2_with fail
  refine (vCheck_is w5 none none 0 0 0 0 ⟨[], []⟩ (HNIL.out w5) hbn).mono ?_
  rintro e w6 ⟨rfl, hb6⟩
  have HB6 := Lib.hid (below_then HB5.out hb6 HB5.out.size)
  clear hb6
  go_wp2
  go_ret
  exact ⟨rfl, HB6.out⟩
end Go.Proofs.Ytecpihghlelefaa
