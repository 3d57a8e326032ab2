/- What all laws of trie ask first. -/
import Derived.Test.YtjmpngghjbiajaaTAsk
import Derived.Test.YtjmpngghjbiajaaKSized
namespace Go.Proofs.Ytjmpngghjbiajaa
open Go.RowKit Go.Maps Go.WideMaps
set_option linter.unusedSimpArgs false

abbrev preL (L : List Nm) (s : Nm) : List Int := idxUp (fun t => atB t 0 s) L L.length
abbrev sufL (L : List Nm) (s : Nm) : List Int := idxUp (fun t => atB t ((t.length : Int) - (s.length : Int)) s) L L.length
abbrev infL (L : List Nm) (s : Nm) : List Int := idxUp (fun t => infB t s) L L.length
section
variable {w : World} {b base : Nat} {L : List Nm} (hT : TrieAt w b base L) (hL : L.length ≤ 1000000) (B : Option Addr) (m cb : Nat) (s : Nm) (hs : BytesIn w B m s) (hm : m ≤ 1099511627776)
theorem prefix_is (hT : TrieAt w b base L) (hL : L.length ≤ 1000000) (B : Option Addr) (m cb : Nat) (s : Nm) (hs : BytesIn w B m s) (hm : m ≤ 1099511627776) {l : List Int} (hl : preL L s = l) : Calls Try.prog 13 #[.pointer (some ⟨b, 0, none⟩), .slice B m cb] w (Found w l) :=
  found_of hL (tPrefix_any hT B m cb s hs hm) hl
theorem suffix_is (hT : TrieAt w b base L) (hL : L.length ≤ 1000000) (B : Option Addr) (m cb : Nat) (s : Nm) (hs : BytesIn w B m s) (hm : m ≤ 1099511627776) {l : List Int} (hl : sufL L s = l) : Calls Try.prog 15 #[.pointer (some ⟨b, 0, none⟩), .slice B m cb] w (Found w l) :=
  found_of hL (tSuffix_any hT B m cb s hs hm) hl
theorem infix_is (hT : TrieAt w b base L) (hL : L.length ≤ 1000000) (B : Option Addr) (m cb : Nat) (s : Nm) (hs : BytesIn w B m s) (hm : m ≤ 1099511627776) {l : List Int} (hl : infL L s = l) : Calls Try.prog 17 #[.pointer (some ⟨b, 0, none⟩), .slice B m cb] w (Found w l) :=
  found_of hL (tInfix_any hT B m cb s hs hm) hl
end
theorem eqTrieNil (w : World) (p : Option Addr) : (binOp .eql 26 (.pointer p) (.pointer none)).run Try.prog w = .ok (.bool p.isNone) w := by
  have h : ∀ d : Nat, (Op.equalIn (d + 1) 26 (.pointer p) (.pointer none)).run Try.prog w = .ok p.isNone w := fun d => by
    cases p <;> simp [Op.equalIn, run_underlying Try.underlying26]
  simp only [binOp]
  simp [Op.equal, Op.maxDepth, h 9999]
theorem neqTrieNil (w : World) (p : Option Addr) : (binOp .neq 26 (.pointer p) (.pointer none)).run Try.prog w = .ok (.bool p.isSome) w := by
  have h : ∀ d : Nat, (Op.equalIn (d + 1) 26 (.pointer p) (.pointer none)).run Try.prog w = .ok p.isNone w := fun d => by
    cases p <;> simp [Op.equalIn, run_underlying Try.underlying26]
  simp only [binOp]
  cases p <;> simp [Op.equal, Op.maxDepth, h 9999]
/-- One row in a new block. -/
theorem rows_one {w : World} {A : Option Addr} {n c : Nat} {x : Nm} (h : BytesIn w A n x) (hn : x.length = n) (hc : n ≤ c) : RowsSee (w.alloc (.cells #[.slice A n c] 23)) (some ⟨w.heap.size, 0, none⟩) 1 [x] where
  len := rfl
  fit := by unfold maxLen; omega
  at_ := fun i y hy => by
    have hB := Blk.new w 23 #[.slice A n c]
    match i with
    | 0 =>
      simp at hy
      subst hy hn
      exact ⟨_, A, c, rfl, hB.cell 0, hc, h.below ((Below.refl _ w).alloc (Nat.le_refl _) _)⟩
    | i + 1 => simp at hy
abbrev hdL : List Nm := [[97, 98], [98, 97], [98]]
theorem rows_three {w : World} {A B C : Option Addr} (ha : BytesIn w A 2 [97, 98]) (hb : BytesIn w B 2 [98, 97]) (hc : BytesIn w C 1 [98]) : RowsSee (w.alloc (.cells #[.slice A 2 2, .slice B 2 2, .slice C 1 1] 23)) (some ⟨w.heap.size, 0, none⟩) 3 hdL where
  len := rfl
  fit := by unfold maxLen; omega
  at_ := fun i y hy => by
    have hB := Blk.new w 23 #[.slice A 2 2, .slice B 2 2, .slice C 1 1]
    have hb2 := (Below.refl w.heap.size w).alloc (Nat.le_refl _) (.cells #[.slice A 2 2, .slice B 2 2, .slice C 1 1] 23)
    match i with
    | 0 =>
      simp at hy
      subst hy
      exact ⟨_, A, 2, rfl, hB.cell 0, Nat.le_refl _, ha.below hb2⟩
    | 1 =>
      simp at hy
      subst hy
      exact ⟨_, B, 2, rfl, hB.cell 1, Nat.le_refl _, hb.below hb2⟩
    | 2 =>
      simp at hy
      subst hy
      exact ⟨_, C, 1, rfl, hB.cell 2, Nat.le_refl _, hc.below hb2⟩
    | i + 3 => simp at hy
theorem made17 (w : World) : (Instr.makeSlice 23 (.int .i64 17) (.int .i64 17)).run Try.prog w = .ok (.slice (some ⟨w.heap.size, 0, none⟩) 17 17) (w.alloc (.cells ((List.replicate 17 (0 : UInt8)).map byteV).toArray 5)) := by kernel_rfl
theorem hdR : rightB hdL = true := by decide +kernel
theorem hdP : preL hdL [98] = [1, 2] := by decide +kernel
theorem hdS : sufL hdL [98] = [0, 2] := by decide +kernel
theorem hdI : infL hdL [98] = [0, 1, 2] := by decide +kernel
theorem hdN : infL hdL [98, 98] = [] := by decide +kernel
theorem hdA : preL hdL [] = [0, 1, 2] := by decide +kernel

set_option maxHeartbeats 4000000 in
set_option maxRecDepth 100000 in
theorem trieHead_any (w : World) : Calls Try.prog 8 #[] w fun e w' => e = .returned (.bool true) ∧ Below w.heap.size w w' := by
  have hk1 := const_bytes w #[.int .u8 97, .int .u8 98] 2 2
  have hk2 := const_bytes (w.alloc (.cells #[.int .u8 97, .int .u8 98] 5 (2, 3))) #[.int .u8 98, .int .u8 97] 2 2
  have hk3 := const_bytes ((w.alloc (.cells #[.int .u8 97, .int .u8 98] 5 (2, 3))).alloc (.cells #[.int .u8 98, .int .u8 97] 5 (2, 3))) #[.int .u8 98] 1 1
  simp only [World.size_alloc] at hk2 hk3
  have hep := eqTrieNil
  have hnp := neqTrieNil
  obtain ⟨Z, hZ⟩ : ∃ Z, Z = ((List.replicate 17 (0 : UInt8)).map byteV).toArray := ⟨_, rfl⟩
  have hmk := made17
  rw [← hZ] at hmk
  have HZ := Lib.hid hZ
  clear hZ
  obtain ⟨w1, hw1⟩ : ∃ w1, w1 = ((w.alloc (.cells #[.int .u8 97, .int .u8 98] 5 (2, 3))).alloc (.cells #[.int .u8 98, .int .u8 97] 5 (2, 3))).alloc (.cells #[.int .u8 98] 5 (1, 2)) := ⟨_, rfl⟩
  have hb1 : Below w.heap.size w w1 := by rw [hw1]; exact (((Below.refl _ w).alloc (Nat.le_refl _) _).alloc (by simp) _).alloc (by simp; omega) _
  have hA := const_in w [97, 98] (2, 3) (by decide)
  have hB := const_in (w.alloc (.cells #[.int .u8 97, .int .u8 98] 5 (2, 3))) [98, 97] (2, 3) (by decide)
  have hC := const_in ((w.alloc (.cells #[.int .u8 97, .int .u8 98] 5 (2, 3))).alloc (.cells #[.int .u8 98, .int .u8 97] 5 (2, 3))) [98] (1, 2) (by decide)
  have hA1 : BytesIn w1 (some ⟨w.heap.size, 0, none⟩) 2 [97, 98] := by rw [hw1]; exact (hA.below ((Below.refl _ _).alloc (Nat.le_refl _) _)).below ((Below.refl _ _).alloc (Nat.le_refl _) _)
  have hB1 : BytesIn w1 (some ⟨w.heap.size + 1, 0, none⟩) 2 [98, 97] := by rw [hw1]; have := hB.below ((Below.refl _ _).alloc (Nat.le_refl _) (.cells #[.int .u8 98] 5 (1, 2))); simpa [byteV] using this
  have hC1 : BytesIn w1 (some ⟨w.heap.size + 1 + 1, 0, none⟩) 1 [98] := by rw [hw1]; simpa [byteV] using hC
  have hrows := rows_three hA1 hB1 hC1
  have hnew := tnew_any _ _ 3 3 hdL hrows hdR
  have hb2 := hb1.alloc hb1.size (.cells #[.slice (some ⟨w.heap.size, 0, none⟩) 2 2, .slice (some ⟨w.heap.size + 1, 0, none⟩) 2 2, .slice (some ⟨w.heap.size + 1 + 1, 0, none⟩) 1 1] 23)
  have HNEW := Lib.hid hnew
  have HB2 := Lib.hid hb2
  have hs1 : w1.heap.size = w.heap.size + 1 + 1 + 1 := by rw [hw1]; simp
  have HW1 := Lib.hid hw1
  have HS1 := Lib.hid hs1
  clear hA hB hC hA1 hB1 hC1 hrows hnew hb1 hb2 hw1 hs1
  go_enter Try.func8, Try.ntmps8
  go_wp2_with fail
  rw [← HW1.out, ← HS1.out]
  refine HNEW.out.mono ?_
  rintro e w2 ⟨b, rfl, hbn, hT⟩
  have HB3 := Lib.hid (HB2.out.trans (hbn.mono HB2.out.size))
  have HT := Lib.hid hT
  have h17 : BytesIn (w2.alloc (.cells Z 5)) (some ⟨w2.heap.size, 0, none⟩) 17 (List.replicate 17 0) := by rw [HZ.out]; exact const_in w2 (List.replicate 17 0) (0, 0) (by decide)
  have hrow17 := rows_one h17 (by decide) (Nat.le_refl 17)
  have hnone := tnew_none _ _ 1 1 _ hrow17 (by decide) (by decide +kernel)
  rw [World.size_alloc] at hnone
  obtain ⟨W3, hW3⟩ : ∃ W3, W3 = (w2.alloc (.cells Z 5)).alloc (.cells #[.slice (some ⟨w2.heap.size, 0, none⟩) 17 17] 23) := ⟨_, rfl⟩
  have hb3 : Below w2.heap.size w2 W3 := by rw [hW3]; exact ((Below.refl _ w2).alloc (Nat.le_refl _) _).alloc (by simp) _
  rw [← hW3] at hnone
  have HNONE := Lib.hid hnone
  have HB4 := Lib.hid (below_then HB3.out hb3 HB3.out.size)
  have HT4 := Lib.hid (hT.below hb3)
  have HW3 := Lib.hid hW3
  clear hbn hT h17 hrow17 hnone hb3 hW3 hk1 hk2 hk3
  go_wp2_with fail
  rw [← HW3.out]
  refine HNONE.out.mono ?_
  rintro e w3 ⟨rfl, rfl⟩
  clear HNONE HT
  have hcb := const_bytes w3 #[.int .u8 98] 1 1
  have hin := const_in w3 [98] (1, 2) (by decide)
  obtain ⟨V5, hV⟩ : ∃ V, V = w3.alloc (.cells #[.int .u8 98] 5 (1, 2)) := ⟨_, rfl⟩
  have hin' : BytesIn V5 (some ⟨w3.heap.size, 0, none⟩) 1 [98] := by rw [hV]; exact hin
  have hb := (Below.refl w3.heap.size w3).alloc (Nat.le_refl _) (.cells #[.int .u8 98] 5 (1, 2))
  rw [← hV] at hb
  have HC5 := Lib.hid (prefix_is (HT4.out.below hb) (by decide) _ 1 1 _ hin' (by omega) hdP)
  have HV5 := Lib.hid hV
  have HBV5 := Lib.hid (below_then HB4.out hb HB4.out.size)
  have HTV5 := Lib.hid (HT4.out.below hb)
  have HBL5 := Lib.hid hb
  clear hin hV hin' hb
  go_wp2_with fail
  rw [← HV5.out]
  refine HC5.out.mono ?_
  rintro e w5 ⟨A5, c5, rfl, hi, hb⟩
  have HB5 := Lib.hid (below_then HBV5.out hb HBV5.out.size)
  have HT5 := Lib.hid (HTV5.out.below hb)
  have HI5 := Lib.hid hi
  have HBW5 := Lib.hid (below_then HBL5.out hb HBL5.out.size)
  clear hi hb hcb
  have hcb := const_bytes w5 #[.int .u8 98] 1 1
  have hin := const_in w5 [98] (1, 2) (by decide)
  obtain ⟨V6, hV⟩ : ∃ V, V = w5.alloc (.cells #[.int .u8 98] 5 (1, 2)) := ⟨_, rfl⟩
  have hin' : BytesIn V6 (some ⟨w5.heap.size, 0, none⟩) 1 [98] := by rw [hV]; exact hin
  have hb := (Below.refl w5.heap.size w5).alloc (Nat.le_refl _) (.cells #[.int .u8 98] 5 (1, 2))
  rw [← hV] at hb
  have HC6 := Lib.hid (suffix_is (HT5.out.below hb) (by decide) _ 1 1 _ hin' (by omega) hdS)
  have HV6 := Lib.hid hV
  have HBV6 := Lib.hid (below_then HB5.out hb HB5.out.size)
  have HTV6 := Lib.hid (HT5.out.below hb)
  have HBL6 := Lib.hid hb
  clear hin hV hin' hb
  go_wp2_with fail
  rw [← HV6.out]
  refine HC6.out.mono ?_
  rintro e w6 ⟨A6, c6, rfl, hi, hb⟩
  have HB6 := Lib.hid (below_then HBV6.out hb HBV6.out.size)
  have HT6 := Lib.hid (HTV6.out.below hb)
  have HI6 := Lib.hid hi
  have HBW6 := Lib.hid (below_then HBL6.out hb HBL6.out.size)
  clear hi hb hcb
  have hcb := const_bytes w6 #[.int .u8 98] 1 1
  have hin := const_in w6 [98] (1, 2) (by decide)
  obtain ⟨V7, hV⟩ : ∃ V, V = w6.alloc (.cells #[.int .u8 98] 5 (1, 2)) := ⟨_, rfl⟩
  have hin' : BytesIn V7 (some ⟨w6.heap.size, 0, none⟩) 1 [98] := by rw [hV]; exact hin
  have hb := (Below.refl w6.heap.size w6).alloc (Nat.le_refl _) (.cells #[.int .u8 98] 5 (1, 2))
  rw [← hV] at hb
  have HC7 := Lib.hid (infix_is (HT6.out.below hb) (by decide) _ 1 1 _ hin' (by omega) hdI)
  have HV7 := Lib.hid hV
  have HBV7 := Lib.hid (below_then HB6.out hb HB6.out.size)
  have HTV7 := Lib.hid (HT6.out.below hb)
  have HBL7 := Lib.hid hb
  clear hin hV hin' hb
  go_wp2_with fail
  rw [← HV7.out]
  refine HC7.out.mono ?_
  rintro e w7 ⟨A7, c7, rfl, hi, hb⟩
  have HB7 := Lib.hid (below_then HBV7.out hb HBV7.out.size)
  have HT7 := Lib.hid (HTV7.out.below hb)
  have HI7 := Lib.hid hi
  have HBW7 := Lib.hid (below_then HBL7.out hb HBL7.out.size)
  clear hi hb hcb
  have HI57 := Lib.hid ((HI5.out.below HBW6.out).below HBW7.out)
  have HI67 := Lib.hid (HI6.out.below HBW7.out)
  obtain ⟨a5, x5, rfl, hx5, y5, -, -⟩ := HI57.out.at 0 (by decide)
  obtain ⟨a6, x6, rfl, hx6, y6, -, -⟩ := HI67.out.at 0 (by decide)
  obtain rfl : (1 : Int) = x5 := by simpa using hx5
  obtain rfl : (0 : Int) = x6 := by simpa using hx6
  have e5 : a5.add 0 = a5 := by simp [Addr.add]
  have e6 : a6.add 0 = a6 := by simp [Addr.add]
  have z5 : w7.cell? a5 = some (.int .i64 1) := by rw [e5] at y5; exact y5
  have z6 : w7.cell? a6 = some (.int .i64 0) := by rw [e6] at y6; exact y6
  clear hx5 hx6 e5 e6
  simp only [List.length_cons, List.length_nil, Nat.zero_add, Nat.reduceAdd]
  have hcb := const_bytes w7 #[.int .u8 98, .int .u8 98] 2 2
  have hin := const_in w7 [98, 98] (2, 3) (by decide)
  obtain ⟨V8, hV⟩ : ∃ V, V = w7.alloc (.cells #[.int .u8 98, .int .u8 98] 5 (2, 3)) := ⟨_, rfl⟩
  have hin' : BytesIn V8 (some ⟨w7.heap.size, 0, none⟩) 2 [98, 98] := by rw [hV]; exact hin
  have hb := (Below.refl w7.heap.size w7).alloc (Nat.le_refl _) (.cells #[.int .u8 98, .int .u8 98] 5 (2, 3))
  rw [← hV] at hb
  have HC8 := Lib.hid (infix_is (HT7.out.below hb) (by decide) _ 2 2 _ hin' (by omega) hdN)
  have HV8 := Lib.hid hV
  have HBV8 := Lib.hid (below_then HB7.out hb HB7.out.size)
  have HTV8 := Lib.hid (HT7.out.below hb)
  have HBL8 := Lib.hid hb
  clear hin hV hin' hb
  go_wp2_with fail
  rw [← HV8.out]
  refine HC8.out.mono ?_
  rintro e w8 ⟨A8, c8, rfl, hi, hb⟩
  have HB8 := Lib.hid (below_then HBV8.out hb HBV8.out.size)
  have HT8 := Lib.hid (HTV8.out.below hb)
  have HI8 := Lib.hid hi
  have HBW8 := Lib.hid (below_then HBL8.out hb HBL8.out.size)
  clear hi hb hcb
  clear y5 y6 z5 z6
  have HCN := Lib.hid (prefix_is HT8.out (by decide) none 0 0 [] (BytesIn.nil w8) (by omega) hdA)
  simp only [List.length_cons, List.length_nil, Nat.zero_add, Nat.reduceAdd]
  go_wp2_with fail
  refine HCN.out.mono ?_
  rintro e w9 ⟨A9, c9, rfl, -, hb⟩
  have HB9 := Lib.hid (below_then HB8.out hb HB8.out.size)
  clear hb
  simp only [List.length_cons, List.length_nil, Nat.zero_add, Nat.reduceAdd]
  go_wp2
  go_ret
  exact ⟨rfl, HB9.out⟩
end Go.Proofs.Ytjmpngghjbiajaa
