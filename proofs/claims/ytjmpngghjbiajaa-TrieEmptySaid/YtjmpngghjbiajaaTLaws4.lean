/- TrieEmpty. -/
import Derived.Test.YtjmpngghjbiajaaTLaws3
namespace Go.Proofs.Ytjmpngghjbiajaa
open Go.RowKit Go.Maps Go.WideMaps
set_option linter.unusedSimpArgs false

theorem one_len (P : Nm → Bool) (x : Nm) {b : Bool} (h : P x = b) : (idxUp P [x] 1).length = b.toNat := by
  cases b with
  | true => rw [show (1 : Nat) = 0 + 1 from rfl, idxUp_yes (x := x) rfl h]; rfl
  | false => rw [show (1 : Nat) = 0 + 1 from rfl, idxUp_no (x := x) rfl h]; rfl
theorem right_one (x : Nm) : rightB [x] = decide (x.length ≤ 16) := by
  unfold rightB
  simp
theorem anyUp_past {x s : Nm} {k : Nat} (h : x.length < k + s.length) : ∀ j, k ≤ j → anyUp x s j = anyUp x s k
  | 0, hj => by rw [show k = 0 by omega]
  | j + 1, hj => by
    rcases Nat.lt_or_ge j k with h1 | h1
    · rw [show k = j + 1 by omega]
    · rw [anyUp_succ, anyUp_past h j h1]
      have : atB x j s = false := by
        rw [Bool.eq_false_iff]
        intro h2
        have := ((atB_nat x s j).1 h2).1
        omega
      rw [this, Bool.or_false]
theorem atB_eq {x s : Nm} {k : Nat} (h : k + s.length ≤ x.length) : (((x.drop k).take s.length) == s) = atB x k s := by
  have := atB_nat x s k
  rw [Bool.eq_iff_iff, this]
  simp only [beq_iff_eq]
  exact ⟨fun h2 => ⟨h, h2⟩, fun h2 => h2.2⟩

set_option maxHeartbeats 8000000 in
set_option maxRecDepth 100000 in
theorem trieEmpty_any (W : World) (A : Option Addr) (n ca : Nat) (x : Nm) (hx : BytesSz W A n x) (hca : n ≤ ca) (B : Option Addr) (m cb : Nat) (s : Nm) (hs : BytesSz W B m s) :
    Calls Try.prog 7 #[.slice A n ca, .slice B m cb] W fun e w' => e = .returned (.bool true) ∧ Below W.heap.size W w' := by
  have hep := eqTrieNil
  have hnp := neqTrieNil
  have hxl : x.length = n := by have := hx.1.2.1.len; simpa using this
  have hsl : s.length = m := by have := hs.1.2.1.len; simpa using this
  have HX := Lib.hid hx
  have HS := Lib.hid hs
  have HXL := Lib.hid hxl
  have HSL := Lib.hid hsl
  clear hx hs hxl hsl
  go_enter Try.func7, Try.ntmps7
  go_wp2_with fail
  refine (trieHead_any _).mono ?_
  rintro e w1 ⟨rfl, hb1⟩
  have HB1 := Lib.hid hb1
  have HN := Lib.hid (tnew_any w1 none 0 0 [] ⟨rfl, Nat.zero_le _, fun i y h => by simp at h⟩ (by decide))
  clear hb1
  go_wp2_with fail
  refine HN.out.mono ?_
  rintro e w2 ⟨b0, rfl, hb, hT⟩
  have HB2 := Lib.hid (below_then HB1.out hb HB1.out.size)
  have HT0 := Lib.hid hT
  clear hb hT HN
  have hrow := rows_one (HX.out.1.below HB2.out) HXL.out hca
  obtain ⟨w3, hw3⟩ : ∃ w3, w3 = w2.alloc (.cells #[.slice A n ca] 23) := ⟨_, rfl⟩
  rw [← hw3] at hrow
  have HB3 := Lib.hid (by rw [hw3]; exact HB2.out.alloc HB2.out.size _ : Below W.heap.size W w3)
  have hb23 : Below w2.heap.size w2 w3 := by rw [hw3]; exact (Below.refl _ w2).alloc (Nat.le_refl _) _
  have HT3 := Lib.hid (HT0.out.below hb23)
  have HROW := Lib.hid hrow
  have HW3 := Lib.hid hw3
  clear hrow hw3 hb23
  by_cases h16 : n ≤ 16
  · have hr : rightB [x] = true := by rw [right_one]; simp; rw [HXL.out]; exact h16
    have HN := Lib.hid (tnew_any w3 _ 1 1 [x] HROW.out hr)
    clear hr
    go_wp2_with fail
    rw [← HW3.out]
    refine HN.out.mono ?_
    rintro e w5 ⟨b1, rfl, hb, hT⟩
    have HB5 := Lib.hid (below_then HB3.out hb HB3.out.size)
    have HT5 := Lib.hid (HT3.out.below hb)
    have HU5 := Lib.hid hT
    clear hb hT HN
    have dx : decide ((1000 : Int) < (n : Int)) = false := by simp; omega
    by_cases hm : 1000 < m
    · have d1 : decide ((1000 : Int) < (m : Int)) = true := by simp; omega
      go_wp2
      go_ret
      exact ⟨rfl, HB5.out⟩
    · have d1 : decide ((1000 : Int) < (m : Int)) = false := by simp; omega
      have HX5 := Lib.hid (HX.out.1.below HB5.out)
      have HS5 := Lib.hid (HS.out.1.below HB5.out)
      go_wp2
      go_loopw [8, 9] (fun v i wr => ∃ k q : Nat, k ≤ n + 1 ∧ v = .bool (anyUp x s k) ∧ i = .int .i64 k ∧ wr = w5.drewN q) (fun _ i _ => n + 1 - (intOf i).toNat)
      case atStart => exact ⟨0, 0, by omega, rfl, rfl, rfl⟩
      case round =>
        obtain ⟨k, q, hk, rfl, rfl, hwr⟩ := hrel
        have HWR := Lib.hid hwr
        replace hwr : Below w5.heap.size w5 wr := by rw [hwr]; exact below_drewN (Below.refl _ _) q
        have HBR := Lib.hid hwr
        clear hwr
        obtain ⟨E, hE⟩ : ∃ E, E = k + m := ⟨_, rfl⟩
        have hw1 : IntKind.i64.wrap ((k : Int) + (m : Int)) = (E : Int) := by rw [IntWalk.i64_in _ (by omega), hE]; rfl
        by_cases hEn : E ≤ n
        · have d2 : decide ((E : Int) ≤ (n : Int)) = true := by simp; omega
          have hEi : (E : Int) ≤ (n : Int) := by omega
          have hw5 : IntKind.i64.wrap ((k : Int) + 1) = (k : Int) + 1 := IntWalk.i64_in _ (by omega)
          have hkn : k ≤ n := by omega
          have hup := anyUp_succ x s k
          have HUP := Lib.hid hup
          clear hup
          cases hg : anyUp x s k with
          | true =>
            rw [hg, Bool.true_or] at HUP
            clear hg hE
            go_wp2_with fail
            go_quiet (fail)
            go_wp2
            go_roundw
            case rel => exact ⟨k + 1, _, by omega, by rw [HUP.out], by go_num, by rw [HWR.out]; exact World.drewN_drewN _ _ _⟩
            case measure => simp [intOf]; omega
          | false =>
            rw [hg, Bool.false_or] at HUP
            have hs3 := fun w => slice_both w A n ca k E (by omega) (by omega)
            have hsub := (HX5.out.below HBR.out).sub hca k E (by omega) hEn
            rw [hE, drop_take', Nat.add_sub_cancel_left] at hsub
            have hEk : E - k = m := by omega
            rw [hEk] at hs3
            have cv1 := fun q => str_of (hsub.drewN q) (ca - k)
            have cv2 := fun q => str_of ((HS5.out.below HBR.out).drewN q) cb
            have hat : (((x.drop k).take m) == s) = atB x k s := by
              have := atB_eq (x := x) (s := s) (k := k) (by rw [HXL.out, HSL.out]; omega)
              rwa [HSL.out] at this
            obtain ⟨r, hr⟩ : ∃ r, r = atB x k s := ⟨_, rfl⟩
            rw [← hr] at hat HUP
            clear hg hsub hE hr
            go_wp2_with fail
            go_quiet (fail)
            go_wp2
            go_roundw
            case rel => exact ⟨k + 1, _, by omega, by rw [HUP.out], by go_num, by rw [HWR.out]; exact World.drewN_drewN _ _ _⟩
            case measure => simp [intOf]; omega
        · have d2 : decide ((E : Int) ≤ (n : Int)) = false := by simp; omega
          have hEi : ¬ (E : Int) ≤ (n : Int) := by omega
          have hinf : anyUp x s k = infB x s := by
            unfold infB
            rw [HXL.out]
            exact (anyUp_past (by rw [HXL.out, HSL.out]; omega) (n + 1) hk).symm
          rw [hinf]
          obtain ⟨g, hg⟩ : ∃ g, g = infB x s := ⟨_, rfl⟩
          rw [← hg]
          have HGG := Lib.hid hg
          have ef : ∀ b : Bool, (((b.toNat : Nat) : Int) == 1) = b := by decide
          have eb : ∀ b : Bool, (b == b) = true := by decide
          clear hg hinf hE
          by_cases hmn : m ≤ n
          · have d3 : decide ((m : Int) ≤ (n : Int)) = true := by simp; omega
            have d3n : decide (m ≤ n) = true := by simp; omega
            obtain ⟨D, hD⟩ : ∃ D, D = n - m := ⟨_, rfl⟩
            have hw2 : IntKind.i64.wrap ((n : Int) - (m : Int)) = (D : Int) := by rw [show (n : Int) - (m : Int) = (D : Int) by omega]; exact IntWalk.i64_in _ (by omega)
            obtain ⟨f, hf⟩ : ∃ f, f = atB x 0 s := ⟨_, rfl⟩
            obtain ⟨l, hl⟩ : ∃ l, l = atB x ((x.length : Int) - (s.length : Int)) s := ⟨_, rfl⟩
            have hat0 : ((x.take m) == s) = f := by
              have := atB_eq (x := x) (s := s) (k := 0) (by rw [HXL.out, HSL.out]; omega)
              rw [HSL.out, List.drop_zero] at this
              rw [this, hf]
              rfl
            have hat1 : ((x.drop D) == s) = l := by
              have := atB_eq (x := x) (s := s) (k := D) (by rw [HXL.out, HSL.out]; omega)
              rw [List.take_of_length_le (by rw [List.length_drop, HXL.out, HSL.out]; omega)] at this
              rw [this, hl, HXL.out, HSL.out, show (n : Int) - (m : Int) = ((D : Nat) : Int) by omega]
            have HF := Lib.hid hf
            have HLL := Lib.hid hl
            have hs2 := fun w => slice_to w A n ca m (by omega)
            have hs3 := fun w => slice_from w A n ca D (by omega)
            have HCV := Lib.hid (fun w' (hb : Below w5.heap.size w5 w') => str_of (HS5.out.below hb) cb)
            have HCU := Lib.hid (fun w' (hb : Below w5.heap.size w5 w') => str_of ((HX5.out.below hb).upto m hmn) ca)
            have hdr : (x.take n).drop D = x.drop D := by rw [List.take_of_length_le (by rw [HXL.out]; exact Nat.le_refl _)]
            have HCW := Lib.hid (fun w' (hb : Below w5.heap.size w5 w') => by
              have h := (HX5.out.below hb).sub hca D n (by omega) (Nat.le_refl _)
              rw [hdr] at h
              exact str_of h (ca - D))
            have hDn : D ≤ n := by omega
            clear hf hl hD hdr
            have cv1 := fun r => HCU.out (wr.drewN r) (below_drewN HBR.out r)
            have cv2 := fun r => HCV.out (wr.drewN r) (below_drewN HBR.out r)
            go_wp2
            go_quiet (fail)
            obtain ⟨w6, hw6⟩ : ∃ w, w = wr.drewN nq := ⟨_, rfl⟩
            have hb6 : Below w5.heap.size w5 w6 := by rw [hw6]; exact below_drewN HBR.out nq
            have HB6 := Lib.hid hb6
            rw [← hw6]
            clear hw6 hb6
            have cv3 := fun r => HCW.out (w6.drewN r) (below_drewN HB6.out r)
            have cv4 := fun r => HCV.out (w6.drewN r) (below_drewN HB6.out r)
            clear cv1 cv2
            go_wp2
            go_quiet (fail)
            obtain ⟨w8, hw8⟩ : ∃ w, w = w6.drewN nq := ⟨_, rfl⟩
            have hb8 : Below w5.heap.size w5 w8 := by rw [hw8]; exact below_drewN HB6.out nq
            have HB8 := Lib.hid (below_then HB5.out hb8 HB5.out.size)
            have HT8 := Lib.hid (HT5.out.below hb8)
            have HU8 := Lib.hid (HU5.out.below hb8)
            have HS8 := Lib.hid (HS5.out.below hb8)
            rw [← hw8]
            clear hw8 hb8
            clear cv3 cv4 hat0 hat1
            have ef0 := ef f
            have ef1 := ef l
            have ef2 := ef g
            have eb0 := eb f
            have eb1 := eb l
            have eb2 := eb g
            clear ef eb
            have HC := Lib.hid (found_len (prefix_is HT8.out (by simp) B m cb s HS8.out (by omega) rfl) (rfl : (preL [] s).length = 0))
            go_wp2_with fail
            refine HC.out.mono ?_
            rintro e w9 ⟨X0, x0, rfl, -, hb⟩
            have HB9 := Lib.hid (below_then HB8.out hb HB8.out.size)
            have HT9 := Lib.hid (HT8.out.below hb)
            have HU9 := Lib.hid (HU8.out.below hb)
            have HS9 := Lib.hid (HS8.out.below hb)
            clear hb HC
            have HC := Lib.hid (found_len (suffix_is HT9.out (by simp) B m cb s HS9.out (by omega) rfl) (rfl : (sufL [] s).length = 0))
            go_wp2_with fail
            refine HC.out.mono ?_
            rintro e w10 ⟨X1, x1, rfl, -, hb⟩
            have HB10 := Lib.hid (below_then HB9.out hb HB9.out.size)
            have HT10 := Lib.hid (HT9.out.below hb)
            have HU10 := Lib.hid (HU9.out.below hb)
            have HS10 := Lib.hid (HS9.out.below hb)
            clear hb HC
            have HC := Lib.hid (found_len (infix_is HT10.out (by simp) B m cb s HS10.out (by omega) rfl) (rfl : (infL [] s).length = 0))
            go_wp2_with fail
            refine HC.out.mono ?_
            rintro e w11 ⟨X2, x2, rfl, -, hb⟩
            have HB11 := Lib.hid (below_then HB10.out hb HB10.out.size)
            have HT11 := Lib.hid (HT10.out.below hb)
            have HU11 := Lib.hid (HU10.out.below hb)
            have HS11 := Lib.hid (HS10.out.below hb)
            clear hb HC
            have HC := Lib.hid (found_len (prefix_is HU11.out (by simp) B m cb s HS11.out (by omega) rfl) (one_len _ x HF.out.symm : (preL [x] s).length = f.toNat))
            go_wp2_with fail
            refine HC.out.mono ?_
            rintro e w12 ⟨X3, x3, rfl, -, hb⟩
            have HB12 := Lib.hid (below_then HB11.out hb HB11.out.size)
            have HT12 := Lib.hid (HT11.out.below hb)
            have HU12 := Lib.hid (HU11.out.below hb)
            have HS12 := Lib.hid (HS11.out.below hb)
            clear hb HC
            have HC := Lib.hid (found_len (suffix_is HU12.out (by simp) B m cb s HS12.out (by omega) rfl) (one_len _ x HLL.out.symm : (sufL [x] s).length = l.toNat))
            go_wp2_with fail
            refine HC.out.mono ?_
            rintro e w13 ⟨X4, x4, rfl, -, hb⟩
            have HB13 := Lib.hid (below_then HB12.out hb HB12.out.size)
            have HT13 := Lib.hid (HT12.out.below hb)
            have HU13 := Lib.hid (HU12.out.below hb)
            have HS13 := Lib.hid (HS12.out.below hb)
            clear hb HC
            have HC := Lib.hid (found_len (infix_is HU13.out (by simp) B m cb s HS13.out (by omega) rfl) (one_len _ x HGG.out.symm : (infL [x] s).length = g.toNat))
            go_wp2_with fail
            refine HC.out.mono ?_
            rintro e w14 ⟨X5, x5, rfl, -, hb⟩
            have HB14 := Lib.hid (below_then HB13.out hb HB13.out.size)
            have HT14 := Lib.hid (HT13.out.below hb)
            have HU14 := Lib.hid (HU13.out.below hb)
            have HS14 := Lib.hid (HS13.out.below hb)
            clear hb HC
            go_wp2
            go_ret
            exact ⟨rfl, HB14.out⟩
          · have d3 : decide ((m : Int) ≤ (n : Int)) = false := by simp; omega
            have d3n : decide (m ≤ n) = false := by simp; omega
            obtain ⟨f, hf⟩ : ∃ f, f = false := ⟨_, rfl⟩
            obtain ⟨l, hl⟩ : ∃ l, l = false := ⟨_, rfl⟩
            have HF : Hid (f = atB x 0 s) := Lib.hid (by
              rw [hf]
              symm
              rw [Bool.eq_false_iff]
              intro h
              have := ((pre_iff x s).1 h).length_le
              rw [HXL.out, HSL.out] at this
              omega)
            have HLL : Hid (l = atB x ((x.length : Int) - (s.length : Int)) s) := Lib.hid (by
              rw [hl]
              symm
              rw [Bool.eq_false_iff]
              intro h
              have := ((suf_iff x s).1 h).length_le
              rw [HXL.out, HSL.out] at this
              omega)
            subst hf hl
            go_wp2
            go_quiet (fail)
            obtain ⟨w6, hw6⟩ : ∃ w, w = wr.drewN nq := ⟨_, rfl⟩
            have hb6 : Below w5.heap.size w5 w6 := by rw [hw6]; exact below_drewN HBR.out nq
            have HB6 := Lib.hid hb6
            rw [← hw6]
            clear hw6 hb6
            go_wp2
            go_quiet (fail)
            obtain ⟨w8, hw8⟩ : ∃ w, w = w6.drewN nq := ⟨_, rfl⟩
            have hb8 : Below w5.heap.size w5 w8 := by rw [hw8]; exact below_drewN HB6.out nq
            have HB8 := Lib.hid (below_then HB5.out hb8 HB5.out.size)
            have HT8 := Lib.hid (HT5.out.below hb8)
            have HU8 := Lib.hid (HU5.out.below hb8)
            have HS8 := Lib.hid (HS5.out.below hb8)
            rw [← hw8]
            clear hw8 hb8
            have ef2 := ef g
            have eb2 := eb g
            clear ef eb
            have HC := Lib.hid (found_len (prefix_is HT8.out (by simp) B m cb s HS8.out (by omega) rfl) (rfl : (preL [] s).length = 0))
            go_wp2_with fail
            refine HC.out.mono ?_
            rintro e w9 ⟨X0, x0, rfl, -, hb⟩
            have HB9 := Lib.hid (below_then HB8.out hb HB8.out.size)
            have HT9 := Lib.hid (HT8.out.below hb)
            have HU9 := Lib.hid (HU8.out.below hb)
            have HS9 := Lib.hid (HS8.out.below hb)
            clear hb HC
            have HC := Lib.hid (found_len (suffix_is HT9.out (by simp) B m cb s HS9.out (by omega) rfl) (rfl : (sufL [] s).length = 0))
            go_wp2_with fail
            refine HC.out.mono ?_
            rintro e w10 ⟨X1, x1, rfl, -, hb⟩
            have HB10 := Lib.hid (below_then HB9.out hb HB9.out.size)
            have HT10 := Lib.hid (HT9.out.below hb)
            have HU10 := Lib.hid (HU9.out.below hb)
            have HS10 := Lib.hid (HS9.out.below hb)
            clear hb HC
            have HC := Lib.hid (found_len (infix_is HT10.out (by simp) B m cb s HS10.out (by omega) rfl) (rfl : (infL [] s).length = 0))
            go_wp2_with fail
            refine HC.out.mono ?_
            rintro e w11 ⟨X2, x2, rfl, -, hb⟩
            have HB11 := Lib.hid (below_then HB10.out hb HB10.out.size)
            have HT11 := Lib.hid (HT10.out.below hb)
            have HU11 := Lib.hid (HU10.out.below hb)
            have HS11 := Lib.hid (HS10.out.below hb)
            clear hb HC
            have HC := Lib.hid (found_len (prefix_is HU11.out (by simp) B m cb s HS11.out (by omega) rfl) (one_len (b := false) _ x HF.out.symm : (preL [x] s).length = 0))
            go_wp2_with fail
            refine HC.out.mono ?_
            rintro e w12 ⟨X3, x3, rfl, -, hb⟩
            have HB12 := Lib.hid (below_then HB11.out hb HB11.out.size)
            have HT12 := Lib.hid (HT11.out.below hb)
            have HU12 := Lib.hid (HU11.out.below hb)
            have HS12 := Lib.hid (HS11.out.below hb)
            clear hb HC
            have HC := Lib.hid (found_len (suffix_is HU12.out (by simp) B m cb s HS12.out (by omega) rfl) (one_len (b := false) _ x HLL.out.symm : (sufL [x] s).length = 0))
            go_wp2_with fail
            refine HC.out.mono ?_
            rintro e w13 ⟨X4, x4, rfl, -, hb⟩
            have HB13 := Lib.hid (below_then HB12.out hb HB12.out.size)
            have HT13 := Lib.hid (HT12.out.below hb)
            have HU13 := Lib.hid (HU12.out.below hb)
            have HS13 := Lib.hid (HS12.out.below hb)
            clear hb HC
            have HC := Lib.hid (found_len (infix_is HU13.out (by simp) B m cb s HS13.out (by omega) rfl) (one_len _ x HGG.out.symm : (infL [x] s).length = g.toNat))
            go_wp2_with fail
            refine HC.out.mono ?_
            rintro e w14 ⟨X5, x5, rfl, -, hb⟩
            have HB14 := Lib.hid (below_then HB13.out hb HB13.out.size)
            have HT14 := Lib.hid (HT13.out.below hb)
            have HU14 := Lib.hid (HU13.out.below hb)
            have HS14 := Lib.hid (HS13.out.below hb)
            clear hb HC
            go_wp2
            go_ret
            exact ⟨rfl, HB14.out⟩
  · have hr : rightB [x] = false := by rw [right_one]; simp; rw [HXL.out]; omega
    have HN := Lib.hid (tnew_none w3 _ 1 1 [x] HROW.out (by omega) hr)
    clear hr
    go_wp2_with fail
    rw [← HW3.out]
    refine HN.out.mono ?_
    rintro e w5 ⟨rfl, rfl⟩
    have d16 : decide ((16 : Int) < (n : Int)) = true := by simp; omega
    by_cases hm : 1000 < m
    · have d1 : decide ((1000 : Int) < (m : Int)) = true := by simp; omega
      go_wp2
      go_ret
      exact ⟨rfl, HB3.out⟩
    · have d1 : decide ((1000 : Int) < (m : Int)) = false := by simp; omega
      by_cases hn : 1000 < n
      · have d2 : decide ((1000 : Int) < (n : Int)) = true := by simp; omega
        go_wp2
        go_ret
        exact ⟨rfl, HB3.out⟩
      · have d2 : decide ((1000 : Int) < (n : Int)) = false := by simp; omega
        go_wp2
        go_ret
        exact ⟨rfl, HB3.out⟩
end Go.Proofs.Ytjmpngghjbiajaa
