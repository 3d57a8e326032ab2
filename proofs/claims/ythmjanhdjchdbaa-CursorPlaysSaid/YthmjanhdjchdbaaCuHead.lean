/- What all laws of cursor ask first. -/
import Derived.Test.YthmjanhdjchdbaaCuSpec
namespace Go.Proofs.Ythmjanhdjchdbaa
open Go.RowKit Go.Maps Go.WideMaps
set_option linter.unusedSimpArgs false

theorem eqCurNil (w : World) (p : Option Addr) : (binOp .eql 28 (.pointer p) (.pointer none)).run Try.prog w = .ok (.bool p.isNone) w := by
  have h : ∀ d : Nat, (Op.equalIn (d + 1) 28 (.pointer p) (.pointer none)).run Try.prog w = .ok p.isNone w := fun d => by
    cases p <;> simp [Op.equalIn, run_underlying Try.underlying28]
  simp only [binOp]
  simp [Op.equal, Op.maxDepth, h 9999]
theorem postsOf3 {w : World} {g : Nat} {B : Option Addr} {k c : Nat} {d1 d2 d3 : Int} {s : List (Int × Int)} (h : Blk w g 49 #[.int .i64 d1, .slice B k c, .int .i64 d2, .slice B k c, .int .i64 d3, .slice B k c]) (hs : PairsIn w B k s) (hc : k ≤ c) (h1 : fits64 d1) (h2 : fits64 d2) (h3 : fits64 d3) : PostsSee w (some ⟨g, 0, none⟩) 3 [(d1, s), (d2, s), (d3, s)] where
  len := rfl
  fit := by unfold maxLen; omega
  nil := fun e => by cases e
  at_ := fun ad e i x hx => by
    cases e
    have hl := hs.len
    match i with
    | 0 =>
      simp at hx
      subst hx
      simp only at hl ⊢
      rw [hl]
      exact ⟨h1, h.cell 0, B, c, h.cell 1, hc, hs⟩
    | 1 =>
      simp at hx
      subst hx
      simp only at hl ⊢
      rw [hl]
      exact ⟨h2, h.cell 2, B, c, h.cell 3, hc, hs⟩
    | 2 =>
      simp at hx
      subst hx
      simp only at hl ⊢
      rw [hl]
      exact ⟨h3, h.cell 4, B, c, h.cell 5, hc, hs⟩
    | i + 3 => simp at hx
abbrev chL : List Pst := [(1, [(1, 2)]), (5, [(1, 2)]), (9, [(1, 2)])]
theorem chB : (getP (putE chL)) = (chL, 0) := by decide +kernel
theorem chG : getP [1] = ([], 3) := by decide +kernel
theorem chW : CWF (cStart chL) := CWF.start (by decide) (by decide)
abbrev chS1 : CSt := cSkip (cStart chL) 3
abbrev chS2 : CSt := cNext chS1
abbrev chS3 : CSt := cNext chS2
theorem ch1 : cIn chS1 = true ∧ cDoc chS1 = 5 := by decide +kernel
theorem ch2 : cIn chS2 = true ∧ cDoc chS2 = 9 := by decide +kernel
theorem ch3 : cIn chS3 = false ∧ chS3.read = 1 := by decide +kernel

set_option maxHeartbeats 8000000 in
set_option maxRecDepth 100000 in
theorem cuHead_any {K : World → (Nat → Prop) → Nat → CSt → Prop} (hK : CursorOk K) (w : World) : Calls Try.prog 8 #[] w fun e w' => e = .returned (.bool true) ∧ Below w.heap.size w w' := by
  have hep := eqCurNil
  have HK := Lib.hid hK
  obtain ⟨V2, hV2⟩ : ∃ V, V = w.alloc (.cells #[.int .i64 1, .int .i64 2] 53) := ⟨_, rfl⟩
  have hs2 : V2.heap.size = w.heap.size + 1 := by rw [hV2]; simp
  obtain ⟨V3, hV3⟩ : ∃ V, V = V2.alloc (.cells #[.int .i64 1, .slice (some ⟨w.heap.size, 0, none⟩) 1 1, .int .i64 5, .slice (some ⟨w.heap.size, 0, none⟩) 1 1, .int .i64 9, .slice (some ⟨w.heap.size, 0, none⟩) 1 1] 49) := ⟨_, rfl⟩
  have hp2 : PairsIn V2 (some ⟨w.heap.size, 0, none⟩) 1 [(1, 2)] := by rw [hV2]; exact pairsOf1 w 53 (1, 2) ⟨by unfold fits64; omega, by unfold fits64; omega⟩
  have hb23 : Below V2.heap.size V2 V3 := by rw [hV3]; exact (Below.refl _ _).alloc (Nat.le_refl _) _
  have hB3 : Blk V3 V2.heap.size 49 #[.int .i64 1, .slice (some ⟨w.heap.size, 0, none⟩) 1 1, .int .i64 5, .slice (some ⟨w.heap.size, 0, none⟩) 1 1, .int .i64 9, .slice (some ⟨w.heap.size, 0, none⟩) 1 1] := by rw [hV3]; exact Blk.new _ _ _
  have hsee := postsOf3 hB3 (hp2.below hb23) (Nat.le_refl 1) (by unfold fits64; omega) (by unfold fits64; omega) (by unfold fits64; omega)
  have hb13 : Below w.heap.size w V3 := by rw [hV3, hV2]; exact ((Below.refl _ _).alloc (Nat.le_refl _) _).alloc (by simp) _
  obtain ⟨Z, hZ⟩ : ∃ Z, putE chL = Z := ⟨_, rfl⟩
  have HC3 := Lib.hid (cuBytes_any V3 _ 3 3 chL hsee (by omega) hZ)
  have hzl : Z.length ≤ 368803860 := by rw [← hZ]; exact putE_len (fit_of hsee)
  rw [hs2] at HC3
  rw [hV2] at hV3
  have HV3 := Lib.hid hV3
  have HB3 := Lib.hid hb13
  have HZ := Lib.hid hZ
  clear hV2 hs2 hV3 hp2 hb23 hB3 hsee hb13 hK hZ
  go_enter Try.func8, Try.ntmps8
  go_wp2_with fail
  rw [← HV3.out]
  refine HC3.out.mono ?_
  rintro e w4 ⟨A4, c4, rfl, hi4, hc4, -, hb4⟩
  have HB4 := Lib.hid (below_then HB3.out hb4 HB3.out.size)
  have HN4 := Lib.hid (HK.out.new w4 A4 Z.length c4 Z hi4 hc4 (by omega) (by rw [← HZ.out, chB]))
  clear hi4 hc4 hb4 HC3 HV3
  go_wp2_with fail
  refine HN4.out.mono ?_
  rintro e w5 ⟨bc, F, rfl, hb5, hk5, hf5⟩
  rw [← HZ.out, chB] at hk5
  have HB5 := Lib.hid (below_then HB4.out hb5 HB4.out.size)
  have HF5 : Hid (NewIn w F) := Lib.hid (fun i hi => by have h1 := hf5 i hi; have h2 := HB4.out.size; omega)
  have hin := const_in w5 [1] (0, 0) (by decide)
  obtain ⟨V6, hV6⟩ : ∃ V, V = w5.alloc (.cells #[.int .u8 1] 5) := ⟨_, rfl⟩
  have hin' : BytesIn V6 (some ⟨w5.heap.size, 0, none⟩) 1 [1] := by rw [hV6]; exact hin
  have hb6 : Below w5.heap.size w5 V6 := by rw [hV6]; exact (Below.refl _ _).alloc (Nat.le_refl _) _
  have hnb := HK.out.new_bad V6 _ 1 1 [1] hin' (Nat.le_refl _) (by omega) (by rw [chG]; decide)
  rw [chG] at hnb
  have HNB := Lib.hid hnb
  have HV6 := Lib.hid hV6
  have HB6 := Lib.hid (below_then HB5.out hb6 HB5.out.size)
  have HK6 := Lib.hid (HK.out.below hk5 hb6)
  clear hin hV6 hin' hb6 hnb hk5 hf5 hb5 HN4
  go_wp2_with fail
  rw [← HV6.out]
  refine HNB.out.mono ?_
  rintro e w7 ⟨rfl, hb7⟩
  have HB7 := Lib.hid (below_then HB6.out hb7 HB6.out.size)
  have HK7 := Lib.hid (HK.out.below HK6.out hb7)
  clear hb7 HNB HV6
  go_wp2_with fail
  refine (HK.out.skip HK7.out chW 3 (by unfold fits64; omega)).mono ?_
  rintro e w8 ⟨rfl, F8, hk8, hkk8, hf8⟩
  rw [ch1.1]
  have HB8 := Lib.hid (below_kept HB7.out hkk8 HF5.out)
  have HF8 := Lib.hid (HF5.out.more hf8 HB7.out.size)
  have HK8 := Lib.hid hk8
  clear hk8 hkk8 hf8
  go_wp2_with fail
  refine (HK.out.doc HK8.out (chW.skip 3)).mono ?_
  rintro e w9 ⟨rfl, hb9⟩
  rw [ch1.1, ch1.2]
  have HB9 := Lib.hid (below_then HB8.out hb9 HB8.out.size)
  have HK9 := Lib.hid (HK.out.below HK8.out hb9)
  clear hb9
  go_wp2_with fail
  refine (HK.out.next HK9.out (chW.skip 3)).mono ?_
  rintro e w10 ⟨rfl, F10, hk10, hkk10, hf10⟩
  rw [ch2.1]
  have HB10 := Lib.hid (below_kept HB9.out hkk10 HF8.out)
  have HF10 := Lib.hid (HF8.out.more hf10 HB9.out.size)
  have HK10 := Lib.hid hk10
  clear hk10 hkk10 hf10
  go_wp2_with fail
  refine (HK.out.doc HK10.out (chW.skip 3).next).mono ?_
  rintro e w11 ⟨rfl, hb11⟩
  rw [ch2.1, ch2.2]
  have HB11 := Lib.hid (below_then HB10.out hb11 HB10.out.size)
  have HK11 := Lib.hid (HK.out.below HK10.out hb11)
  clear hb11
  go_wp2_with fail
  refine (HK.out.next HK11.out (chW.skip 3).next).mono ?_
  rintro e w12 ⟨rfl, F12, hk12, hkk12, hf12⟩
  rw [ch3.1]
  have HB12 := Lib.hid (below_kept HB11.out hkk12 HF10.out)
  have HK12 := Lib.hid hk12
  clear hk12 hkk12 hf12
  go_wp2_with fail
  refine (HK.out.reads HK12.out (chW.skip 3).next.next).mono ?_
  rintro e w13 ⟨rfl, hb13⟩
  rw [ch3.2]
  have HB13 := Lib.hid (below_then HB12.out hb13 HB12.out.size)
  clear hb13
  go_wp2
  go_ret
  exact ⟨rfl, HB13.out⟩
end Go.Proofs.Ythmjanhdjchdbaa
