/- What all laws of cover ask first. -/
import Derived.Test.YtjnbilcanfhkjaaOSpec
import Derived.Test.YtjnbilcanfhkjaaKNews
namespace Go.Proofs.Ytjnbilcanfhkjaa
open Go.RowKit Go.Maps Go.WideMaps
set_option linter.unusedSimpArgs false

theorem eqCoverNil (w : World) (p : Option Addr) : (binOp .eql 29 (.pointer p) (.pointer none)).run Try.prog w = .ok (.bool p.isNone) w := by
  have h : ∀ d : Nat, (Op.equalIn (d + 1) 29 (.pointer p) (.pointer none)).run Try.prog w = .ok p.isNone w := fun d => by
    cases p <;> simp [Op.equalIn, run_underlying Try.underlying29]
  simp only [binOp]
  simp [Op.equal, Op.maxDepth, h 9999]
theorem neqCoverNil (w : World) (p : Option Addr) : (binOp .neq 29 (.pointer p) (.pointer none)).run Try.prog w = .ok (.bool p.isSome) w := by
  have h : ∀ d : Nat, (Op.equalIn (d + 1) 29 (.pointer p) (.pointer none)).run Try.prog w = .ok p.isNone w := fun d => by
    cases p <;> simp [Op.equalIn, run_underlying Try.underlying29]
  simp only [binOp]
  cases p <;> simp [Op.equal, Op.maxDepth, h 9999]
abbrev chT : List Nm := [[97, 98], [98], [98, 99]]
theorem chR : rightB chT = true := by decide +kernel
theorem chO : alUp chT [98, 99] 3 = [(0, 1), (1, 0), (2, 0)] := by decide +kernel
theorem chC : chUp chT [98, 99] [0, 2, 1] 3 = [1, 2, 4] := by decide +kernel
theorem chS1 : sureB chT [98, 99] 2 0 = true := by decide +kernel
theorem chS2 : sureB chT [98, 99] 0 1 = false := by decide +kernel
theorem chN : alUp chT [] 3 = [] := by decide +kernel
section
variable {K : World → Nat → List Nm → Prop} {w : World} {b : Nat} {L : List Nm}
theorem of_is (hK : CoverOk K) (hT : K w b L) (hr : rightB L = true) (B : Option Addr) (m cb : Nat) (s : Nm) (hs : BytesIn w B m s) (hc : m ≤ cb) (hm : m ≤ 30000) {l : List (Int × Int)} (hl : alUp L s L.length = l) : Calls Try.prog 13 #[.pointer (some ⟨b, 0, none⟩), .slice B m cb] w (PairsFound w l) := by
  subst hl
  exact pairs_found (hK.of_ hT hr B m cb s hs hc hm) (Nat.le_trans (al_few hr s) (by omega)) (al_fits hr s (Nat.le_refl _))
theorem sure_is (hK : CoverOk K) (hT : K w b L) (hr : rightB L = true) (B : Option Addr) (m cb : Nat) (s : Nm) (hs : BytesIn w B m s) (hc : m ≤ cb) (hm : m ≤ 30000) {t i : Int} (ht : fits64 t) (hi : fits64 i) {r : Bool} (h : sureB L s t i = r) :
    Calls Try.prog 18 #[.pointer (some ⟨b, 0, none⟩), .slice B m cb, .agg #[.int .i64 t, .int .i64 i]] w fun e w' => e = .returned (.bool r) ∧ Below w.heap.size w w' := by
  subst h
  exact hK.sure hT hr B m cb s hs hc hm t i ht hi
theorem chances_is (hK : CoverOk K) (hT : K w b L) (hr : rightB L = true) (B C : Option Addr) (m p cb cp : Nat) (s : Nm) (l : List Int) (hs : BytesIn w B m s) (hl : IntsIn w C p l) (hc : m ≤ cb) (hm : m ≤ 30000) (hp : p ≤ 500) {r : List Int} (h : chUp L s l p = r) :
    Calls Try.prog 16 #[.pointer (some ⟨b, 0, none⟩), .slice B m cb, .slice C p cp] w fun e w' => ∃ A c, e = .returned (.slice A r.length c) ∧ IntsIn w' A r.length r ∧ Below w.heap.size w w' := by
  subst h
  exact ints_found (hK.chances hT hr B C m p cb cp s l hs hl hc hm hp) (Nat.le_trans (ch_few hr s l hp) (by omega)) (ch_fits hr s l hp)
end

set_option maxHeartbeats 8000000 in
set_option maxRecDepth 100000 in
theorem coverHead_any {K : World → Nat → List Nm → Prop} (hK : CoverOk K) (w : World) : Calls Try.prog 8 #[] w fun e w' => e = .returned (.bool true) ∧ Below w.heap.size w w' := by
  have hk1 := const_bytes w #[.int .u8 97, .int .u8 98] 2 2
  have hk2 := const_bytes (w.alloc (.cells #[.int .u8 97, .int .u8 98] 5 (2, 3))) #[.int .u8 98] 1 1
  have hk3 := const_bytes ((w.alloc (.cells #[.int .u8 97, .int .u8 98] 5 (2, 3))).alloc (.cells #[.int .u8 98] 5 (1, 2))) #[.int .u8 98, .int .u8 99] 2 2
  simp only [World.size_alloc] at hk2 hk3
  have hep := eqCoverNil
  have hnp := neqCoverNil
  obtain ⟨Z, hZ⟩ : ∃ Z, Z = ((List.replicate 17 (0 : UInt8)).map byteV).toArray := ⟨_, rfl⟩
  have hmk := made17z
  rw [← hZ] at hmk
  have HZ := Lib.hid hZ
  have HK := Lib.hid hK
  clear hZ hK
  obtain ⟨w1, hw1⟩ : ∃ w1, w1 = ((w.alloc (.cells #[.int .u8 97, .int .u8 98] 5 (2, 3))).alloc (.cells #[.int .u8 98] 5 (1, 2))).alloc (.cells #[.int .u8 98, .int .u8 99] 5 (2, 3)) := ⟨_, rfl⟩
  have hb1 : Below w.heap.size w w1 := by rw [hw1]; exact (((Below.refl _ w).alloc (Nat.le_refl _) _).alloc (by simp) _).alloc (by simp; omega) _
  have hA := const_in w [97, 98] (2, 3) (by decide)
  have hB := const_in (w.alloc (.cells #[.int .u8 97, .int .u8 98] 5 (2, 3))) [98] (1, 2) (by decide)
  have hC := const_in ((w.alloc (.cells #[.int .u8 97, .int .u8 98] 5 (2, 3))).alloc (.cells #[.int .u8 98] 5 (1, 2))) [98, 99] (2, 3) (by decide)
  have hA1 : BytesIn w1 (some ⟨w.heap.size, 0, none⟩) 2 [97, 98] := by rw [hw1]; exact (hA.below ((Below.refl _ _).alloc (Nat.le_refl _) _)).below ((Below.refl _ _).alloc (Nat.le_refl _) _)
  have hB1 : BytesIn w1 (some ⟨w.heap.size + 1, 0, none⟩) 1 [98] := by rw [hw1]; have := hB.below ((Below.refl _ _).alloc (Nat.le_refl _) (.cells #[.int .u8 98, .int .u8 99] 5 (2, 3))); simpa [byteV] using this
  have hC1 : BytesIn w1 (some ⟨w.heap.size + 1 + 1, 0, none⟩) 2 [98, 99] := by rw [hw1]; simpa [byteV] using hC
  have hrows := rowsOf3 hA1 hB1 hC1 rfl rfl rfl
  have hnew := HK.out.new _ _ 3 3 chT hrows chR
  have hb2 := hb1.alloc hb1.size (.cells #[.slice (some ⟨w.heap.size, 0, none⟩) 2 2, .slice (some ⟨w.heap.size + 1, 0, none⟩) 1 1, .slice (some ⟨w.heap.size + 1 + 1, 0, none⟩) 2 2] 23)
  have HNEW := Lib.hid hnew
  have HB2 := Lib.hid hb2
  have hs1 : w1.heap.size = w.heap.size + 1 + 1 + 1 := by rw [hw1]; simp
  have HW1 := Lib.hid hw1
  have HS1 := Lib.hid hs1
  clear hA hB hC hA1 hB1 hC1 hrows hnew hb1 hb2 hw1 hs1
  go_enter Try.func8, Try.ntmps8
  go_wp2_with fail
  rw [← HW1.out, ← HS1.out]
  refine HNEW.out.mono ?_
  rintro e w2 ⟨b, rfl, hbn, hT⟩
  have HB3 := Lib.hid (HB2.out.trans (hbn.mono HB2.out.size))
  have HT := Lib.hid hT
  have h17 : BytesIn (w2.alloc (.cells Z 5)) (some ⟨w2.heap.size, 0, none⟩) 17 (List.replicate 17 0) := by rw [HZ.out]; exact const_in w2 (List.replicate 17 0) (0, 0) (by decide)
  have hrow17 := rowsOf1 h17 (by decide) (Nat.le_refl 17)
  have hnone := HK.out.new_none _ _ 1 1 _ hrow17 (by decide) (by decide +kernel)
  rw [World.size_alloc] at hnone
  obtain ⟨W3, hW3⟩ : ∃ W3, W3 = (w2.alloc (.cells Z 5)).alloc (.cells #[.slice (some ⟨w2.heap.size, 0, none⟩) 17 17] 23) := ⟨_, rfl⟩
  have hb3 : Below w2.heap.size w2 W3 := by rw [hW3]; exact ((Below.refl _ w2).alloc (Nat.le_refl _) _).alloc (by simp) _
  rw [← hW3] at hnone
  have HNONE := Lib.hid hnone
  have HB4 := Lib.hid (below_then HB3.out hb3 HB3.out.size)
  have HT4 := Lib.hid (HK.out.below hT hb3)
  have HW3 := Lib.hid hW3
  clear hbn hT h17 hrow17 hnone hb3 hW3 hk1 hk2 hk3
  go_wp2_with fail
  rw [← HW3.out]
  refine HNONE.out.mono ?_
  rintro e w4 ⟨rfl, hb⟩
  have HB5 := Lib.hid (below_then HB4.out hb HB4.out.size)
  have HT5 := Lib.hid (HK.out.below HT4.out hb)
  clear hb HNONE
  have hcb := const_bytes w4 #[.int .u8 98, .int .u8 99] 2 2
  have hin := const_in w4 [98, 99] (2, 3) (by decide)
  obtain ⟨V5, hV⟩ : ∃ V, V = w4.alloc (.cells #[.int .u8 98, .int .u8 99] 5 (2, 3)) := ⟨_, rfl⟩
  have hin' : BytesIn V5 (some ⟨w4.heap.size, 0, none⟩) 2 [98, 99] := by rw [hV]; exact hin
  have hb := (Below.refl w4.heap.size w4).alloc (Nat.le_refl _) (.cells #[.int .u8 98, .int .u8 99] 5 (2, 3))
  rw [← hV] at hb
  have HC5 := Lib.hid (of_is HK.out (HK.out.below HT5.out hb) chR _ 2 2 _ hin' (Nat.le_refl _) (by omega) chO)
  have HV5 := Lib.hid hV
  have HBV5 := Lib.hid (below_then HB5.out hb HB5.out.size)
  have HTV5 := Lib.hid (HK.out.below HT5.out hb)
  clear hin hV hin' hb
  go_wp2_with fail
  rw [← HV5.out]
  refine HC5.out.mono ?_
  rintro e w5 ⟨A5, c5, rfl, hi, hb⟩
  have HB6 := Lib.hid (below_then HBV5.out hb HBV5.out.size)
  have HT6 := Lib.hid (HK.out.below HTV5.out hb)
  have HI6 := Lib.hid hi
  clear hi hb hcb
  have hcb := const_bytes w5 #[.int .u8 98, .int .u8 99] 2 2
  have hin := const_in w5 [98, 99] (2, 3) (by decide)
  obtain ⟨V6, hV⟩ : ∃ V, V = w5.alloc (.cells #[.int .u8 98, .int .u8 99] 5 (2, 3)) := ⟨_, rfl⟩
  have hin' : BytesIn V6 (some ⟨w5.heap.size, 0, none⟩) 2 [98, 99] := by rw [hV]; exact hin
  have hsz6 : V6.heap.size = w5.heap.size + 1 := by rw [hV]; simp
  obtain ⟨V7, hV7⟩ : ∃ V, V = V6.alloc (.cells #[.int .i64 0, .int .i64 2, .int .i64 1] 3) := ⟨_, rfl⟩
  have hints : IntsIn V7 (some ⟨V6.heap.size, 0, none⟩) 3 [0, 2, 1] := by rw [hV7]; exact intsOf3 V6 3 0 2 1 (by decide) (by decide) (by decide)
  have hb67 : Below V6.heap.size V6 V7 := by rw [hV7]; exact (Below.refl _ _).alloc (Nat.le_refl _) _
  have hb : Below w5.heap.size w5 V7 := by rw [hV7, hV]; exact ((Below.refl w5.heap.size w5).alloc (Nat.le_refl _) _).alloc (by simp) _
  have HC7 := Lib.hid (chances_is HK.out (HK.out.below HT6.out hb) chR _ _ 2 3 2 3 _ _ (hin'.below hb67) hints (Nat.le_refl _) (by omega) (by omega) chC)
  rw [hsz6] at HC7
  rw [hV] at hV7
  have HV7 := Lib.hid hV7
  have HBV7 := Lib.hid (below_then HB6.out hb HB6.out.size)
  have HTV7 := Lib.hid (HK.out.below HT6.out hb)
  have HI7 := Lib.hid (HI6.out.below hb)
  clear hin hV hV7 hin' hb hints hb67 hsz6
  go_wp2_with fail
  rw [← HV7.out]
  refine HC7.out.mono ?_
  rintro e w8 ⟨A8, c8, rfl, hi, hb⟩
  have HB8 := Lib.hid (below_then HBV7.out hb HBV7.out.size)
  have HT8 := Lib.hid (HK.out.below HTV7.out hb)
  have HP8 := Lib.hid (HI7.out.below hb)
  have HI8 := Lib.hid hi
  clear hi hb hcb
  simp only [List.length_cons, List.length_nil, Nat.zero_add, Nat.reduceAdd]
  obtain ⟨pa, _, rfl, -, -, -, -, -⟩ := HP8.out.at 0 (by decide)
  obtain ⟨pb, _, rfl, -, -, -, -⟩ := HI8.out.at 0 (by decide)
  have y0 : w8.cell? pa = some (.int .i64 0) := by have := (HP8.out.cells pa rfl 0 (0, 1) rfl).1; simpa [Addr.add] using this
  have y1 : w8.cell? ⟨pa.block, pa.off + 1, none⟩ = some (.int .i64 1) := by have := (HP8.out.cells pa rfl 0 (0, 1) rfl).2; simpa [Addr.add] using this
  have y2 : w8.cell? ⟨pa.block, pa.off + 4, none⟩ = some (.int .i64 2) := by have := (HP8.out.cells pa rfl 2 (2, 0) rfl).1; simpa [Addr.add] using this
  have y3 : w8.cell? ⟨pa.block, pa.off + 4 + 1, none⟩ = some (.int .i64 0) := by have := (HP8.out.cells pa rfl 2 (2, 0) rfl).2; simpa [Addr.add] using this
  have y4 : w8.cell? ⟨pa.block, pa.off + 5, none⟩ = some (.int .i64 0) := by have := (HP8.out.cells pa rfl 2 (2, 0) rfl).2; simpa [Addr.add] using this
  have z1 : w8.cell? ⟨pb.block, pb.off + 1, none⟩ = some (.int .i64 2) := by have := HI8.out.2.1.cells pb rfl 1 (.int .i64 2) rfl; simpa [Addr.add] using this
  have hcb := const_bytes w8 #[.int .u8 98, .int .u8 99] 2 2
  have hin := const_in w8 [98, 99] (2, 3) (by decide)
  have hb := (Below.refl w8.heap.size w8).alloc (Nat.le_refl _) (.cells #[.int .u8 98, .int .u8 99] 5 (2, 3))
  have hpv := HP8.out.below hb
  have u0 : (w8.alloc (.cells #[.int .u8 98, .int .u8 99] 5 (2, 3))).cell? pa = some (.int .i64 0) := by have := (hpv.cells pa rfl 0 (0, 1) rfl).1; simpa [Addr.add] using this
  have u1 : (w8.alloc (.cells #[.int .u8 98, .int .u8 99] 5 (2, 3))).cell? ⟨pa.block, pa.off + 1, none⟩ = some (.int .i64 1) := by have := (hpv.cells pa rfl 0 (0, 1) rfl).2; simpa [Addr.add] using this
  have u2 : (w8.alloc (.cells #[.int .u8 98, .int .u8 99] 5 (2, 3))).cell? ⟨pa.block, pa.off + 4, none⟩ = some (.int .i64 2) := by have := (hpv.cells pa rfl 2 (2, 0) rfl).1; simpa [Addr.add] using this
  have u3 : (w8.alloc (.cells #[.int .u8 98, .int .u8 99] 5 (2, 3))).cell? ⟨pa.block, pa.off + 4 + 1, none⟩ = some (.int .i64 0) := by have := (hpv.cells pa rfl 2 (2, 0) rfl).2; simpa [Addr.add] using this
  have u4 : (w8.alloc (.cells #[.int .u8 98, .int .u8 99] 5 (2, 3))).cell? ⟨pa.block, pa.off + 5, none⟩ = some (.int .i64 0) := by have := (hpv.cells pa rfl 2 (2, 0) rfl).2; simpa [Addr.add] using this
  obtain ⟨V8, hV⟩ : ∃ V, V = w8.alloc (.cells #[.int .u8 98, .int .u8 99] 5 (2, 3)) := ⟨_, rfl⟩
  have hin' : BytesIn V8 (some ⟨w8.heap.size, 0, none⟩) 2 [98, 99] := by rw [hV]; exact hin
  rw [← hV] at hb
  have HC := Lib.hid (sure_is HK.out (HK.out.below HT8.out hb) chR _ 2 2 _ hin' (Nat.le_refl _) (by omega) ⟨by decide, by decide⟩ ⟨by decide, by decide⟩ chS1)
  have HV := Lib.hid hV
  have HBV := Lib.hid (below_then HB8.out hb HB8.out.size)
  have HTV := Lib.hid (HK.out.below HT8.out hb)
  have HPV := Lib.hid (HP8.out.below hb)
  clear hin hV hin' hb hpv
  go_wp2_with fail
  rw [← HV.out]
  refine HC.out.mono ?_
  rintro e w9 ⟨rfl, hb⟩
  have HB9 := Lib.hid (below_then HBV.out hb HBV.out.size)
  have HT9 := Lib.hid (HK.out.below HTV.out hb)
  have HP9 := Lib.hid (HPV.out.below hb)
  clear hb hcb u0 u1 u2 u3 u4 HC HV HBV HTV HPV
  clear y0 y1 y2 y3 y4 z1
  have hcb := const_bytes w9 #[.int .u8 98, .int .u8 99] 2 2
  have hin := const_in w9 [98, 99] (2, 3) (by decide)
  have hb := (Below.refl w9.heap.size w9).alloc (Nat.le_refl _) (.cells #[.int .u8 98, .int .u8 99] 5 (2, 3))
  have hpv := HP9.out.below hb
  have u0 : (w9.alloc (.cells #[.int .u8 98, .int .u8 99] 5 (2, 3))).cell? pa = some (.int .i64 0) := by have := (hpv.cells pa rfl 0 (0, 1) rfl).1; simpa [Addr.add] using this
  have u1 : (w9.alloc (.cells #[.int .u8 98, .int .u8 99] 5 (2, 3))).cell? ⟨pa.block, pa.off + 1, none⟩ = some (.int .i64 1) := by have := (hpv.cells pa rfl 0 (0, 1) rfl).2; simpa [Addr.add] using this
  have u2 : (w9.alloc (.cells #[.int .u8 98, .int .u8 99] 5 (2, 3))).cell? ⟨pa.block, pa.off + 4, none⟩ = some (.int .i64 2) := by have := (hpv.cells pa rfl 2 (2, 0) rfl).1; simpa [Addr.add] using this
  have u3 : (w9.alloc (.cells #[.int .u8 98, .int .u8 99] 5 (2, 3))).cell? ⟨pa.block, pa.off + 4 + 1, none⟩ = some (.int .i64 0) := by have := (hpv.cells pa rfl 2 (2, 0) rfl).2; simpa [Addr.add] using this
  have u4 : (w9.alloc (.cells #[.int .u8 98, .int .u8 99] 5 (2, 3))).cell? ⟨pa.block, pa.off + 5, none⟩ = some (.int .i64 0) := by have := (hpv.cells pa rfl 2 (2, 0) rfl).2; simpa [Addr.add] using this
  obtain ⟨V9, hV⟩ : ∃ V, V = w9.alloc (.cells #[.int .u8 98, .int .u8 99] 5 (2, 3)) := ⟨_, rfl⟩
  have hin' : BytesIn V9 (some ⟨w9.heap.size, 0, none⟩) 2 [98, 99] := by rw [hV]; exact hin
  rw [← hV] at hb
  have HC := Lib.hid (sure_is HK.out (HK.out.below HT9.out hb) chR _ 2 2 _ hin' (Nat.le_refl _) (by omega) ⟨by decide, by decide⟩ ⟨by decide, by decide⟩ chS2)
  have HV := Lib.hid hV
  have HBV := Lib.hid (below_then HB9.out hb HB9.out.size)
  have HTV := Lib.hid (HK.out.below HT9.out hb)
  have HPV := Lib.hid (HP9.out.below hb)
  clear hin hV hin' hb hpv
  go_wp2_with fail
  rw [← HV.out]
  refine HC.out.mono ?_
  rintro e w10 ⟨rfl, hb⟩
  have HB10 := Lib.hid (below_then HBV.out hb HBV.out.size)
  have HT10 := Lib.hid (HK.out.below HTV.out hb)
  have HP10 := Lib.hid (HPV.out.below hb)
  clear hb hcb u0 u1 u2 u3 u4 HC HV HBV HTV HPV
  have HC := Lib.hid (of_is HK.out HT10.out chR none 0 0 [] (BytesIn.nil w10) (Nat.le_refl _) (by omega) chN)
  go_wp2_with fail
  refine HC.out.mono ?_
  rintro e w11 ⟨A11, c11, rfl, -, hb⟩
  have HB11 := Lib.hid (below_then HB10.out hb HB10.out.size)
  clear hb
  simp only [List.length_nil]
  go_wp2
  go_ret
  exact ⟨rfl, HB11.out⟩
end Go.Proofs.Ytjnbilcanfhkjaa
