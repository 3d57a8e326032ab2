/- The contracts of the document's More and Sum: a fold of steps. -/
import Derived.Test.YtdmhaaplgkilpaaKHead
import Derived.Test.YtdmhaaplgkilpaaCMath
import Derived.Laws.BitsAllLaws
namespace Go.Proofs.Ytdmhaaplgkilpaa
open Go.RowKit Go.Maps Go.WideMaps

theorem inv_u32 (s : Nat) (h : s < 4294967296) : bits .xor .u32 IntKind.u32.max (s : Int) = ((all1 ^^^ s : Nat) : Int) := u32_xor_nat 4294967295 s (by decide) h

theorem reg_snoc {l : Nm} {k : Nat} {x : UInt8} (r : Nat) (h : l[k]? = some x) : reg r (l.take (k + 1)) = step (reg r (l.take k)) x := by
  rw [List.take_add_one, h]
  simp only [Option.toList, reg_append]
  rfl

set_option maxHeartbeats 4000000 in
set_option maxRecDepth 100000 in
theorem refMore_any (w : World) (s : Nat) (hs : s < 4294967296) (A : Option Addr) (n c : Nat) (l : Nm) (hl : BytesIn w A n l) :
    Calls Try.prog 46 #[.int .u32 s, .slice A n c] w fun e w' => e = .returned (.int .u32 (moreN s l)) ∧ Below w.heap.size w w' := by
  have hinv := inv_u32 s hs
  have hsg : IntKind.u32.signed = false := rfl
  have hr0 : all1 ^^^ s < 4294967296 := inv_lt hs
  have hln : l.length = n := by have := hl.2.1.len; simpa using this
  have HL := Lib.hid hl
  have HLN := Lib.hid hln
  clear hl hln
  go_enter Try.func46, Try.ntmps46
  go_wp2
  clear hinv
  go_loop [5, 6] (fun r i => ∃ k : Nat, k ≤ n ∧ i = .int .i64 k ∧ r = .int .u32 (reg (all1 ^^^ s) (l.take k))) (fun _ i => n - (intOf i).toNat)
  case atStart => exact ⟨0, by omega, rfl, by simp [reg]⟩
  case round =>
    obtain ⟨k, hk, rfl, rfl⟩ := hrel
    rcases Nat.lt_or_ge k n with hlt | hge
    · have hlt' : (k : Int) < (n : Int) := by omega
      have hn63 : n ≤ 9223372036854775807 := HL.out.1
      obtain ⟨ad, hA⟩ : ∃ ad, A = some ad := by
        cases hA : A with
        | none => have := HL.out.2.1.nil hA; omega
        | some ad => exact ⟨ad, rfl⟩
      subst hA
      obtain ⟨x, hx⟩ : ∃ x, l[k]? = some x := ⟨l[k]'(by rw [HLN.out]; exact hlt), List.getElem?_eq_getElem _⟩
      have hcx := HL.out.2.1.cells ad rfl k (byteV x) (by rw [List.getElem?_map, hx]; rfl)
      unfold byteV at hcx
      obtain ⟨R, hR⟩ : ∃ R, R = reg (all1 ^^^ s) (l.take k) := ⟨_, rfl⟩
      have hR32 : R < 4294967296 := by rw [hR]; exact reg_lt hr0 _
      rw [← hR]
      have hx8 := x.toNat_lt
      have hxo : bits .xor .u32 (R : Int) (x.toNat : Int) = ((R ^^^ x.toNat : Nat) : Int) := u32_xor_nat _ _ hR32 (by omega)
      have hxl : R ^^^ x.toNat < 4294967296 := xor_lt hR32 (by omega)
      obtain ⟨X, hX⟩ : ∃ X, X = R ^^^ x.toNat := ⟨_, rfl⟩
      rw [← hX] at hxo hxl
      have HX2 := Lib.hid hX
      have HR := Lib.hid hR
      have HX := Lib.hid hx
      clear hR hx hX
      obtain ⟨blk, off, sp⟩ := ad
      go_wp2
      go_loop [5, 7] (fun r i => ∃ j : Nat, j ≤ 8 ∧ i = .int .i64 j ∧ r = .int .u32 (bitSteps j X)) (fun _ i => 8 - (intOf i).toNat)
      case atStart => exact ⟨0, by omega, rfl, rfl⟩
      case round =>
        obtain ⟨j, hj, rfl, rfl⟩ := hrel
        rcases Nat.lt_or_ge j 8 with hj8 | hj8
        · have hj8' : (j : Int) < 8 := by omega
          obtain ⟨Y, hY⟩ : ∃ Y, Y = bitSteps j X := ⟨_, rfl⟩
          have hY32 : Y < 4294967296 := by rw [hY]; exact bitSteps_lt j hxl
          rw [← hY]
          have hst : bitSteps (j + 1) X = bitStep Y := by rw [hY]; rfl
          have HST := Lib.hid hst
          clear hst hY
          have hand : bits .and .u32 (Y : Int) 1 = ((Y % 2 : Nat) : Int) := by
            have := u32_and_nat Y 1 hY32 (by decide)
            rw [nat_mask1] at this
            exact this
          rcases Nat.mod_two_eq_zero_or_one Y with h0 | h1
          · rw [h0] at hand
            go_wp2
            refine ⟨⟨j + 1, by omega, by go_num, ?_⟩, by simp [intOf]; omega⟩
            rw [HST.out]
            unfold bitStep
            rw [if_neg (by omega)]
            go_num
          · rw [h1] at hand
            have hxp : bits .xor .u32 ((Y : Int) / 2) 3988292384 = ((Y / 2 ^^^ poly : Nat) : Int) := by
              rw [show (Y : Int) / 2 = ((Y / 2 : Nat) : Int) by omega]
              exact u32_xor_nat _ _ (by omega) (by decide)
            go_wp2
            refine ⟨⟨j + 1, by omega, by go_num, ?_⟩, by simp [intOf]; omega⟩
            rw [HST.out]
            unfold bitStep
            rw [if_pos h1]
        · obtain rfl : j = 8 := by omega
          have hj8' : ¬ (((8 : Nat) : Int) < 8) := by omega
          have hst : bitSteps 8 X = step R x := by rw [HX2.out]; rfl
          rw [hst]
          clear hst
          go_wp2
          refine ⟨⟨k + 1, by omega, by go_num, ?_⟩, by simp [intOf]; omega⟩
          rw [reg_snoc _ HX.out, ← HR.out]
    · obtain rfl : k = n := by omega
      have hlz : ¬ ((k : Int) < (k : Int)) := by omega
      have hrl : l.take k = l := List.take_of_length_le (by rw [HLN.out]; exact Nat.le_refl _)
      rw [hrl]
      have hinv2 := inv_u32 (reg (all1 ^^^ s) l) (reg_lt hr0 l)
      clear hrl
      go_wp2
      go_ret
      exact ⟨rfl, Below.refl _ _⟩
set_option maxRecDepth 100000 in
theorem refSum_any (w : World) (A : Option Addr) (n c : Nat) (l : Nm) (hl : BytesIn w A n l) :
    Calls Try.prog 44 #[.slice A n c] w fun e w' => e = .returned (.int .u32 (sumN l)) ∧ Below w.heap.size w w' := by
  have HL := Lib.hid hl
  clear hl
  go_enter Try.func44, Try.ntmps44
  go_wp2_with fail
  refine (refMore_any w 0 (by decide) A n c l HL.out).mono ?_
  rintro e w' ⟨rfl, hb⟩
  have HB := Lib.hid hb
  clear hb
  go_wp2
  go_ret
  exact ⟨rfl, HB.out⟩

end Go.Proofs.Ytdmhaaplgkilpaa
