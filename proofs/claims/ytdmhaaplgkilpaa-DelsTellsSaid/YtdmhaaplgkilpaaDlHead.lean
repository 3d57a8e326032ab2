/- What all laws of dels ask first; a Dels of the law's own. -/
import Derived.Test.YtdmhaaplgkilpaaDlSpec
import Derived.BigQuiet
namespace Go.Proofs.Ytdmhaaplgkilpaa
open Go.RowKit Go.Maps Go.WideMaps
set_option linter.unusedSimpArgs false

/-- A Dels that lies in blocks newer than W, and nothing older has turned. -/
structure Lv (D : DelsSt) (W w : World) (b : Nat) (s : DSt) : Prop where
  at_ : ∃ F, D w F b s ∧ ∀ i, F i → W.heap.size ≤ i
  below : Below W.heap.size W w
section
variable {D : DelsSt} (hD : DelsOk D)
include hD
theorem Lv.later {W w w' : World} {b : Nat} {s : DSt} (h : Lv D W w b s) (hb : Below w.heap.size w w') : Lv D W w' b s := by
  obtain ⟨F, h1, h2⟩ := h.at_
  exact ⟨⟨F, hD.below h1 hb, h2⟩, below_then h.below hb h.below.size⟩
theorem Lv.drewN {W w : World} {b : Nat} {s : DSt} (h : Lv D W w b s) (q : Nat) : Lv D W (w.drewN q) b s := h.later hD (below_drewN (Below.refl _ w) q)
theorem Lv.few {W w : World} {b : Nat} {s : DSt} (h : Lv D W w b s) : s.n ≤ 64 := by
  obtain ⟨F, h1, -⟩ := h.at_
  exact hD.few h1
theorem Lv.same {W w : World} {b : Nat} {s t : DSt} (h : Lv D W w b s) (hs : DSame s t) : Lv D W w b t := by
  obtain ⟨F, h1, h2⟩ := h.at_
  exact ⟨⟨F, hD.same h1 hs, h2⟩, h.below⟩
theorem lv_new {W w : World} (hb : Below W.heap.size W w) (n : Nat) (hn : n ≤ 64) :
    Calls Try.prog 14 #[.int .i64 n] w fun e w' => ∃ b, e = .returned (.pointer (some ⟨b, 0, none⟩)) ∧ Lv D W w' b (dNew n) := by
  refine (hD.new w n (by unfold fits64; omega)).mono ?_
  rintro e w' ⟨h1, h2⟩
  rw [if_pos (by omega)] at h2
  obtain ⟨b, F, rfl, h3, h4⟩ := h2
  exact ⟨b, rfl, ⟨F, h3, fun i hi => Nat.le_trans hb.size (h4 i hi)⟩, below_then hb h1 hb.size⟩
theorem lv_none (w : World) (n : Int) (hf : fits64 n) (hn : ¬ (0 ≤ n ∧ n ≤ 64)) :
    Calls Try.prog 14 #[.int .i64 n] w fun e w' => e = .returned (.pointer none) ∧ Below w.heap.size w w' := by
  refine (hD.new w n hf).mono ?_
  rintro e w' ⟨h1, h2⟩
  rw [if_neg hn] at h2
  exact ⟨h2, h1⟩
theorem lv_add {W w : World} {b : Nat} {s : DSt} (h : Lv D W w b s) (i : Int) (hi : fits64 i) :
    Calls Try.prog 16 #[.pointer (some ⟨b, 0, none⟩), .int .i64 i] w fun e w' => e = .returned (.bool (dCan s i)) ∧ Lv D W w' b (dAdd s i) := by
  obtain ⟨F, h1, h2⟩ := h.at_
  refine (hD.add h1 i hi).mono ?_
  rintro e w' ⟨rfl, F', h3, h4, h5⟩
  refine ⟨rfl, ⟨F', h3, fun i hi => ?_⟩, h.below.trans (h4.toBelow h.below.size h2)⟩
  rcases h5 i hi with h6 | h6
  · exact h2 i h6
  · exact Nat.le_trans h.below.size h6
theorem lv_has {W w : World} {b : Nat} {s : DSt} (h : Lv D W w b s) (i : Int) (hi : fits64 i) :
    Calls Try.prog 18 #[.pointer (some ⟨b, 0, none⟩), .int .i64 i] w fun e w' => e = .returned (.bool (dHas s i)) ∧ ∃ q, w' = w.drewN q := by
  obtain ⟨F, h1, h2⟩ := h.at_
  exact hD.has h1 i hi
theorem lv_many {W w : World} {b : Nat} {s : DSt} (h : Lv D W w b s) :
    Calls Try.prog 20 #[.pointer (some ⟨b, 0, none⟩)] w fun e w' => e = .returned (.int .i64 (dMany s : Int)) ∧ ∃ q, w' = w.drewN q := by
  obtain ⟨F, h1, h2⟩ := h.at_
  exact hD.many h1
theorem lv_size {W w : World} {b : Nat} {s : DSt} (h : Lv D W w b s) :
    Calls Try.prog 10 #[.pointer (some ⟨b, 0, none⟩)] w fun e w' => e = .returned (.int .i64 (s.n : Int)) ∧ ∃ q, w' = w.drewN q := by
  obtain ⟨F, h1, h2⟩ := h.at_
  exact hD.size h1
theorem lv_live {W w : World} {b : Nat} {s : DSt} (h : Lv D W w b s) :
    Calls Try.prog 12 #[.pointer (some ⟨b, 0, none⟩)] w fun e w' => ∃ A c, e = .returned (.slice A (dLive s).length c) ∧ IntsIn w' A (dLive s).length (dLive s) ∧ (dLive s).length ≤ c ∧ Below w.heap.size w w' := by
  obtain ⟨F, h1, h2⟩ := h.at_
  exact hD.live h1
theorem lv_put {W w : World} {b : Nat} {s : DSt} (h : Lv D W w b s) :
    Calls Try.prog 21 #[.pointer (some ⟨b, 0, none⟩)] w (BytesBack w (dPut s)) := by
  obtain ⟨F, h1, h2⟩ := h.at_
  exact hD.put h1
end
theorem eqDelsNil (w : World) (p : Option Addr) : (binOp .eql 25 (.pointer p) (.pointer none)).run Try.prog w = .ok (.bool p.isNone) w := by
  have h : ∀ d : Nat, (Op.equalIn (d + 1) 25 (.pointer p) (.pointer none)).run Try.prog w = .ok p.isNone w := fun d => by
    cases p <;> simp [Op.equalIn, run_underlying Try.underlying25]
  simp only [binOp]
  simp [Op.equal, Op.maxDepth, h 9999]
theorem neDelsNil (w : World) (p : Option Addr) : (binOp .neq 25 (.pointer p) (.pointer none)).run Try.prog w = .ok (.bool !p.isNone) w := by
  have h : ∀ d : Nat, (Op.equalIn (d + 1) 25 (.pointer p) (.pointer none)).run Try.prog w = .ok p.isNone w := fun d => by
    cases p <;> simp [Op.equalIn, run_underlying Try.underlying25]
  simp only [binOp]
  simp [Op.equal, Op.maxDepth, h 9999]
abbrev dhA : DSt := dAdd (dNew 3) 2
abbrev dhB : DSt := dAdd dhA 0
theorem dh1 : dCan (dNew 3) 2 = true := by decide +kernel
theorem dh2 : dCan dhA 0 = true := by decide +kernel
theorem dh3 : dCan dhB 0 = false := by decide +kernel
theorem dh4 : dCan dhB 3 = false := by decide +kernel
theorem dh5 : dAdd dhB 0 = dhB := by unfold dAdd; rw [if_neg (by rw [dh3]; decide)]
theorem dh6 : dAdd dhB 3 = dhB := by unfold dAdd; rw [if_neg (by rw [dh4]; decide)]
theorem dh7 : (dPut dhB).length = 7 ∧ (dPut dhB)[5]? = some 3 ∧ (dPut dhB)[6]? = some 5 := by
  have hn : dhB.n = 3 := by decide +kernel
  obtain ⟨h1, h2, h3⟩ := dPut_one (s := dhB) (by rw [hn]; decide)
  refine ⟨by rw [h1, hn], by rw [h2, hn]; rfl, ?_⟩
  rw [h3 0]
  decide +kernel
theorem dh8 : dLive dhB = [1] := by decide +kernel
theorem dh9 : dMany dhB = 2 ∧ dhB.n = 3 := ⟨by decide +kernel, by decide +kernel⟩

set_option maxHeartbeats 8000000 in
set_option maxRecDepth 100000 in
theorem dlHead_any {D : DelsSt} (hD : DelsOk D) (w : World) : Calls Try.prog 7 #[] w fun e w' => e = .returned (.bool true) ∧ Below w.heap.size w w' := by
  have hep := eqDelsNil
  have hnp := neDelsNil
  have HK := Lib.hid hD
  clear hD
  go_enter Try.func7, Try.ntmps7
  go_wp2_with fail
  refine (lv_new HK.out (Below.refl _ w) 3 (by omega)).mono ?_
  rintro e w1 ⟨b, rfl, hl1⟩
  have HL1 := Lib.hid hl1
  clear hl1
  go_wp2_with fail
  refine (lv_none HK.out w1 65 (by unfold fits64; decide) (by decide)).mono ?_
  rintro e w2 ⟨rfl, hb2⟩
  have HL2 := Lib.hid (HL1.out.later HK.out hb2)
  clear hb2 HL1
  go_wp2_with fail
  refine (lv_add HK.out HL2.out 2 (by unfold fits64; decide)).mono ?_
  rintro e w3 ⟨rfl, hl3⟩
  rw [dh1]
  have HL3 : Hid (Lv D w w3 b dhA) := Lib.hid hl3
  clear hl3 HL2
  go_wp2_with fail
  refine (lv_add HK.out HL3.out 0 (by unfold fits64; decide)).mono ?_
  rintro e w4 ⟨rfl, hl4⟩
  rw [dh2]
  have HL4 : Hid (Lv D w w4 b dhB) := Lib.hid hl4
  clear hl4 HL3
  go_wp2_with fail
  refine (lv_add HK.out HL4.out 0 (by unfold fits64; decide)).mono ?_
  rintro e w5 ⟨rfl, hl5⟩
  rw [dh3]
  rw [dh5] at hl5
  have HL5 : Hid (Lv D w w5 b dhB) := Lib.hid hl5
  clear hl5 HL4
  go_wp2_with fail
  refine (lv_add HK.out HL5.out 3 (by unfold fits64; decide)).mono ?_
  rintro e w6 ⟨rfl, hl6⟩
  rw [dh4]
  rw [dh6] at hl6
  have HL6 : Hid (Lv D w w6 b dhB) := Lib.hid hl6
  clear hl6 HL5
  go_wp2_with fail
  refine (lv_put HK.out HL6.out).mono ?_
  rintro e w7 ⟨A7, c7, rfl, hi7, -, -, hb7⟩
  obtain ⟨q1, q2, q3⟩ := dh7
  rw [q1] at hi7 ⊢
  obtain ⟨pa, x, rfl, hx, x0⟩ := hi7.at 5 (by decide)
  obtain rfl : (3 : UInt8) = x := Option.some.inj (q2.symm.trans hx)
  obtain ⟨pb, y, hpb, hy, y0⟩ := hi7.at 6 (by decide)
  obtain rfl : pa = pb := Option.some.inj hpb
  obtain rfl : (5 : UInt8) = y := Option.some.inj (q3.symm.trans hy)
  have HL7 := Lib.hid (HL6.out.later HK.out hb7)
  have X0 : Hid (∀ u : World, Below w7.heap.size w7 u → u.cell? (pa.add 5) = some (.int .u8 3) ∧ u.cell? (pa.add 6) = some (.int .u8 5)) := Lib.hid (fun u hu => ⟨below_cells hu x0, below_cells hu y0⟩)
  clear hi7 hb7 hx hy hpb q1 q2 q3 x0 y0 HL6
  go_wp2_with fail
  refine (lv_live HK.out HL7.out).mono ?_
  rintro e w8 ⟨A8, c8, rfl, hi8, -, hb8⟩
  rw [dh8] at hi8 ⊢
  obtain ⟨pc, z, rfl, hz, z0, -, -⟩ := hi8.at 0 (by decide)
  obtain rfl : (1 : Int) = z := Option.some.inj hz
  obtain ⟨x0, y0⟩ := X0.out w8 hb8
  have HL8 := Lib.hid (HL7.out.later HK.out hb8)
  have e2 : pa.add 5 = ⟨pa.block, pa.off + 5, none⟩ := by simp [Addr.add]
  have e3 : pa.add 6 = ⟨pa.block, pa.off + 6, none⟩ := by simp [Addr.add]
  rw [e2] at x0
  rw [e3] at y0
  rw [Addr.add_zero'] at z0
  clear hi8 hb8 hz X0 HL7 e2 e3
  go_wp2_with fail
  refine (lv_many HK.out HL8.out).mono ?_
  rintro e w9 ⟨rfl, q9, hb9⟩
  rw [dh9.1]
  have HL9 : Hid (Lv D w w9 b dhB) := Lib.hid (by rw [hb9]; exact HL8.out.drewN HK.out q9)
  clear hb9 HL8
  go_wp2_with fail
  refine (lv_size HK.out HL9.out).mono ?_
  rintro e w10 ⟨rfl, q10, hb10⟩
  rw [dh9.2]
  have HL10 : Hid (Lv D w w10 b dhB) := Lib.hid (by rw [hb10]; exact HL9.out.drewN HK.out q10)
  clear hb10 HL9
  go_wp2
  go_ret
  exact ⟨rfl, HL10.out.below⟩
end Go.Proofs.Ytdmhaaplgkilpaa
