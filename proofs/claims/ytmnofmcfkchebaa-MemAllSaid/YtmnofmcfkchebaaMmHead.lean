/- What all laws of mem ask first. -/
import Derived.Test.YtmnofmcfkchebaaMmSpec
namespace Go.Proofs.Ytmnofmcfkchebaa
open Go.RowKit Go.Maps Go.WideMaps
set_option linter.unusedSimpArgs false

theorem eqMemNil (w : World) (p : Option Addr) : (binOp .eql 24 (.pointer p) (.pointer none)).run Try.prog w = .ok (.bool p.isNone) w := by
  have h : ∀ d : Nat, (Op.equalIn (d + 1) 24 (.pointer p) (.pointer none)).run Try.prog w = .ok p.isNone w := fun d => by
    cases p <;> simp [Op.equalIn, run_underlying Try.underlying24]
  simp only [binOp]
  simp [Op.equal, Op.maxDepth, h 9999]
abbrev mhX : MDoc := ⟨3, [5, 7, 5], [0, 1, 4]⟩
abbrev mhL : List MDoc := [mhX]
theorem mh1 : mErr [] mhX = 0 ∧ mAdd [] mhX = mhL := ⟨by decide +kernel, by unfold mAdd; rw [if_pos (by decide +kernel)]; rfl⟩
theorem mh2 : mErr mhL ⟨3, [], []⟩ = 1 ∧ mAdd mhL ⟨3, [], []⟩ = mhL := ⟨by decide +kernel, by unfold mAdd; rw [if_neg (by decide +kernel)]⟩
theorem mh3 : mPosts mhL 5 = [(3, [(0, 0), (2, 4)])] := by decide +kernel
theorem mh4 : mTerms mhL = [5, 7] := by decide +kernel
theorem mhW : MWF mhL := by
  have := MWF.nil.add (x := mhX) ⟨by decide, by decide⟩
  rw [mh1.2] at this
  exact this
theorem mhT : totT mhL ≤ 20000 := by decide +kernel
theorem totNil : totT [] ≤ 20000 := by decide +kernel

set_option maxHeartbeats 8000000 in
set_option maxRecDepth 100000 in
theorem mmHead_any {M : World → (Nat → Prop) → Nat → List MDoc → Prop} (hM : MemOk M) (w : World) : Calls Try.prog 7 #[] w fun e w' => e = .returned (.bool true) ∧ Below w.heap.size w w' := by
  have hep := eqMemNil
  have HK := Lib.hid hM
  clear hM
  go_enter Try.func7, Try.ntmps7
  go_wp2_with fail
  refine (HK.out.new w).mono ?_
  rintro e w1 ⟨b, F1, rfl, hb1, hm1, hf1⟩
  have HB1 := Lib.hid hb1
  have HF1 : Hid (MNew w F1) := Lib.hid hf1
  obtain ⟨V2, hV2⟩ : ∃ V, V = w1.alloc (.cells #[.int .i64 5, .int .i64 7, .int .i64 5] 3) := ⟨_, rfl⟩
  have hs2 : V2.heap.size = w1.heap.size + 1 := by rw [hV2]; simp
  obtain ⟨V3, hV3⟩ : ∃ V, V = V2.alloc (.cells #[.int .i64 0, .int .i64 1, .int .i64 4] 3) := ⟨_, rfl⟩
  have hk2 : Blk V2 w1.heap.size 3 #[.int .i64 5, .int .i64 7, .int .i64 5] := by rw [hV2]; exact Blk.new _ _ _
  have hi2 : IntsIn V2 (some ⟨w1.heap.size, 0, none⟩) 3 [5, 7, 5] := ints_three hk2 (by decide)
  have hb3 : Below V2.heap.size V2 V3 := by rw [hV3]; exact (Below.refl _ _).alloc (Nat.le_refl _) _
  have hk3 : Blk V3 V2.heap.size 3 #[.int .i64 0, .int .i64 1, .int .i64 4] := by rw [hV3]; exact Blk.new _ _ _
  have hi3 : IntsIn V3 (some ⟨V2.heap.size, 0, none⟩) 3 [0, 1, 4] := ints_three hk3 (by decide)
  have hb2 : Below w1.heap.size w1 V2 := by rw [hV2]; exact (Below.refl _ _).alloc (Nat.le_refl _) _
  have hb13 := below_then hb2 hb3 hb2.size
  have hm3 := HK.out.below hm1 hb13
  have HLT := Lib.hid (HK.out.lt hm1)
  have hca := HK.out.add hm3 MWF.nil totNil mhX _ _ 3 3 3 3 (hi2.below hb3) hi3 (Nat.le_refl _) (Nat.le_refl _) (fun ad e _ hF => by cases e; exact Nat.lt_irrefl _ (HLT.out _ hF)) (fun ad e _ hF => by cases e; have := HLT.out _ hF; simp only at this; omega) (by unfold fits64; decide)
  rw [hs2] at hca
  rw [hV2] at hV3
  have HV3 := Lib.hid hV3
  have HCA := Lib.hid hca
  have HB3 := Lib.hid (below_then hb1 hb13 hb1.size)
  clear hca hV2 hV3 hs2 hk2 hi2 hb3 hk3 hi3 hb2 hb13 hm3 HLT hm1 hb1 hf1
  go_wp2_with fail
  rw [← HV3.out]
  refine HCA.out.mono ?_
  rintro e w4 ⟨rfl, F4, hm4, hkk4, hf4⟩
  rw [mh1.2] at hm4
  rw [mh1.1]
  have HB4 := Lib.hid (below_mine HB3.out hkk4 HF1.out)
  have HF4 := Lib.hid (HF1.out.more hf4 HB3.out.size)
  have HCB := Lib.hid (HK.out.add hm4 mhW mhT ⟨3, [], []⟩ none none 0 0 0 0 (ints_none _) (ints_none _) (Nat.le_refl _) (Nat.le_refl _) (fun ad e => by cases e) (fun ad e => by cases e) (by unfold fits64; decide))
  clear hm4 hkk4 hf4 HCA HV3
  go_wp2_with fail
  refine HCB.out.mono ?_
  rintro e w5 ⟨rfl, F5, hm5, hkk5, hf5⟩
  rw [mh2.2] at hm5
  rw [mh2.1]
  have HB5 := Lib.hid (below_mine HB4.out hkk5 HF4.out)
  have HM5 := Lib.hid hm5
  have HCP := Lib.hid (HK.out.posts hm5 mhW mhT 5 (by unfold fits64; decide))
  clear hm5 hkk5 hf5 HCB
  go_wp2_with fail
  refine HCP.out.mono ?_
  rintro e w6 ⟨A6, c6, rfl, hs6, -, hb6⟩
  rw [mh3] at hs6 ⊢
  have HS6 := Lib.hid hs6
  have HB6 := Lib.hid (below_then HB5.out hb6 HB5.out.size)
  have hm6 := HK.out.below HM5.out hb6
  have HM6 := Lib.hid hm6
  have HCT := Lib.hid (HK.out.terms hm6 mhW mhT)
  clear hs6 hb6 hm6 HCP
  go_wp2_with fail
  refine HCT.out.mono ?_
  rintro e w7 ⟨A7, c7, rfl, hi7, -, hb7⟩
  rw [mh4] at hi7 ⊢
  have hs7 := HS6.out.below hb7
  have HB7 := Lib.hid (below_then HB6.out hb7 HB6.out.size)
  have HM7 := Lib.hid (HK.out.below HM6.out hb7)
  have HCM := Lib.hid (HK.out.many HM7.out mhW)
  obtain ⟨pa, x, SA, da, rfl, hx, -, p0, p1, -, hp⟩ := hs7.at 0 (by decide)
  obtain rfl : (3, [(0, 0), (2, 4)]) = x := Option.some.inj hx
  obtain ⟨pb, y, rfl, hy, y0, y1, -, -⟩ := hp.at 1 (by decide)
  obtain rfl : ((2 : Int), (4 : Int)) = y := Option.some.inj hy
  obtain ⟨pc, z, rfl, hz, z0, -, -⟩ := hi7.at 1 (by decide)
  obtain rfl : (7 : Int) = z := Option.some.inj hz
  simp only [Nat.zero_mul, List.length_cons, List.length_nil, Nat.zero_add, Nat.reduceAdd, Addr.add_zero', Nat.one_mul] at p0 p1 y0 y1
  have e2 : pb.add 2 = ⟨pb.block, pb.off + 2, none⟩ := by simp [Addr.add]
  have e3 : pc.add 1 = ⟨pc.block, pc.off + 1, none⟩ := by simp [Addr.add]
  rw [e2] at y0 y1
  rw [e3] at z0
  simp only at y1
  clear e2 e3
  clear hx hy hz hp hs7 hi7 hb7 HCT
  go_wp2_with fail
  refine HCM.out.mono ?_
  rintro e w8 ⟨rfl, hb8⟩
  have HB8 := Lib.hid (below_then HB7.out hb8 HB7.out.size)
  clear hb8 HCM
  go_wp2
  go_ret
  exact ⟨rfl, HB8.out⟩
end Go.Proofs.Ytmnofmcfkchebaa
