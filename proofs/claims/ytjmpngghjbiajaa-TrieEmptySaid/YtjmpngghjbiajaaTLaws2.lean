/- TrieWithin. -/
import Derived.Test.YtjmpngghjbiajaaTLaws1
import Derived.Deep.QuietTactic
import Derived.BigQuiet
import Derived.Deep.DeepCutAuto
namespace Go.Proofs.Ytjmpngghjbiajaa
open Go.RowKit Go.Maps Go.WideMaps
set_option linter.unusedSimpArgs false

theorem has_quiet {w : World} (A : Option Addr) (n c : Nat) (l : List Int) (h : IntsIn w A n l) (x : Int) {b : Bool} (hb : decide (x ∈ l) = b) {q : Nat} :
    Calls Try.prog 19 #[.slice A n c, .int .i64 x] (w.drewN q) fun e w'' => e = .returned (.bool b) ∧ ∃ m, w'' = w.drewN m := by
  have h1 := has_any (w.drewN q) A n c l (h.below (below_drewN (Below.refl _ _) q)) x
  rw [hb] at h1
  exact h1.mono fun e w'' ⟨he, hw⟩ => ⟨he, q, hw⟩
theorem IntsIn.drewN {w : World} {A : Option Addr} {n : Nat} {l : List Int} (h : IntsIn w A n l) (q : Nat) : IntsIn (w.drewN q) A n l := h.below (below_drewN (Below.refl _ _) q)

set_option maxHeartbeats 8000000 in
set_option maxRecDepth 100000 in
theorem trieWithin_any (W : World) (A : Option Addr) (n ca : Nat) (L : List Nm) (hl : RowsSz W A n L) (B : Option Addr) (m cb : Nat) (s : Nm) (hs : BytesSz W B m s) (wh fr tt : Nat) (hwh : wh ≤ 255) (hfr : fr ≤ 255) (hto : tt ≤ 255) :
    Calls Try.prog 4 #[.slice A n ca, .slice B m cb, .int .u8 wh, .int .u8 fr, .int .u8 tt] W fun e w' => e = .returned (.bool true) ∧ Below W.heap.size W w' := by
  have hep := eqTrieNil
  have HL := Lib.hid hl
  have HS := Lib.hid hs
  have HLEN := Lib.hid hl.1.len
  clear hl hs
  go_enter Try.func4, Try.ntmps4
  go_wp2_with fail
  refine (trieHead_any _).mono ?_
  rintro e w1 ⟨rfl, hb1⟩
  have HB1 := Lib.hid hb1
  clear hb1
  cases hr : rightB L with
  | false =>
    have HN := Lib.hid (tnew_none w1 A n ca L (HL.out.1.below HB1.out) (by have := HL.out.2.2; omega) hr)
    clear hr
    go_wp2_with fail
    refine HN.out.mono ?_
    rintro e w2 ⟨rfl, rfl⟩
    go_wp2
    go_ret
    exact ⟨rfl, HB1.out⟩
  | true =>
    have hn512 : L.length ≤ 512 := by
      rcases Nat.lt_or_ge 512 L.length with h | h
      · rw [rightB_long h] at hr; cases hr
      · exact h
    have h16 : ∀ (k : Nat) (x : Nm), L[k]? = some x → x.length ≤ 16 := fun k x hx => by
      rcases Nat.lt_or_ge 16 x.length with h | h
      · rw [rightB_wide hx h] at hr; cases hr
      · exact h
    have HN := Lib.hid (tnew_any w1 A n ca L (HL.out.1.below HB1.out) hr)
    have HL512 := Lib.hid hn512
    have H16 := Lib.hid h16
    clear hr hn512 h16
    go_wp2_with fail
    refine HN.out.mono ?_
    rintro e w2 ⟨b, rfl, hb2, hT2⟩
    have HB2 := Lib.hid (below_then HB1.out hb2 HB1.out.size)
    have HT2 := Lib.hid hT2
    have HG := Lib.hid (great_any w2 A B n m ca cb L ((HL.out.1.below HB1.out).below hb2) HL.out.2.1 HL.out.2.2 HS.out.2)
    clear hb2 hT2
    go_wp2_with fail
    refine HG.out.mono ?_
    rintro e w5 ⟨r, rfl, rfl, hrr⟩
    cases r with
    | true =>
      clear hrr
      go_wp2
      go_ret
      exact ⟨rfl, HB2.out⟩
    | false =>
      obtain ⟨hm, -, -⟩ := hrr rfl
      clear hrr
      by_cases hn0 : n = 0
      · have d1 : ((n : Int) == 0) = true := by simp; omega
        go_wp2
        go_ret
        exact ⟨rfl, HB2.out⟩
      · have d1 : ((n : Int) == 0) = false := by simp; omega
        have HS5 := Lib.hid (HS.out.1.below HB2.out)
        have HT5 := HT2
        have HW5 := HB2
        obtain ⟨P0, hP0⟩ : ∃ P, P = preL L s := ⟨_, rfl⟩
        have HC := Lib.hid (prefix_is HT5.out (by have := HL512.out; omega) B m cb s HS5.out (by omega) hP0.symm)
        have HP0 := Lib.hid hP0
        clear hP0
        go_wp2_with fail
        refine HC.out.mono ?_
        rintro e w6 ⟨X0, x0, rfl, hi0, hb⟩
        have HI0 := Lib.hid hi0
        have HW6 := Lib.hid (below_then HW5.out hb HW5.out.size)
        have HT6 := Lib.hid (HT5.out.below hb)
        have HS6 := Lib.hid (HS5.out.below hb)
        clear hb hi0 HC
        obtain ⟨P1, hP1⟩ : ∃ P, P = sufL L s := ⟨_, rfl⟩
        have HC := Lib.hid (suffix_is HT6.out (by have := HL512.out; omega) B m cb s HS6.out (by omega) hP1.symm)
        have HP1 := Lib.hid hP1
        clear hP1
        go_wp2_with fail
        refine HC.out.mono ?_
        rintro e w7 ⟨X1, x1, rfl, hi1, hb⟩
        have HI1 := Lib.hid hi1
        have HW7 := Lib.hid (below_then HW6.out hb HW6.out.size)
        have HT7 := Lib.hid (HT6.out.below hb)
        have HS7 := Lib.hid (HS6.out.below hb)
        replace HI0 := Lib.hid (HI0.out.below hb)
        clear hb hi1 HC
        obtain ⟨P2, hP2⟩ : ∃ P, P = infL L s := ⟨_, rfl⟩
        have HC := Lib.hid (infix_is HT7.out (by have := HL512.out; omega) B m cb s HS7.out (by omega) hP2.symm)
        have HP2 := Lib.hid hP2
        clear hP2
        go_wp2_with fail
        refine HC.out.mono ?_
        rintro e w8 ⟨X2, x2, rfl, hi2, hb⟩
        have HI2 := Lib.hid hi2
        have HW8 := Lib.hid (below_then HW7.out hb HW7.out.size)
        have HT8 := Lib.hid (HT7.out.below hb)
        have HS8 := Lib.hid (HS7.out.below hb)
        replace HI0 := Lib.hid (HI0.out.below hb)
        replace HI1 := Lib.hid (HI1.out.below hb)
        clear hb hi2 HC
        have HN1 := Lib.hid (by rw [HP0.out, HP2.out]; exact pre_inf L s : ∀ v ∈ P0, v ∈ P2)
        have HN2 := Lib.hid (by rw [HP1.out, HP2.out]; exact suf_inf L s : ∀ v ∈ P1, v ∈ P2)
        have HR1 := Lib.hid (by rw [HP0.out]; exact fun k x y h1 h2 => idx_rises h1 h2 : ∀ (k : Nat) (x y : Int), P0[k]? = some x → P0[k + 1]? = some y → x < y)
        have HR2 := Lib.hid (by rw [HP1.out]; exact fun k x y h1 h2 => idx_rises h1 h2 : ∀ (k : Nat) (x y : Int), P1[k]? = some x → P1[k + 1]? = some y → x < y)
        obtain ⟨v8, hv8⟩ : ∃ v, v = w8 := ⟨_, rfl⟩
        have HV8 := Lib.hid hv8
        clear hv8
        go_wp2
        go_loopw [16] (fun i wr => ∃ k q : Nat, k ≤ P0.length ∧ i = .int .i64 k ∧ wr = w8.drewN q) (fun i _ => P0.length - (intOf i).toNat)
        case atStart => exact ⟨0, 0, by omega, rfl, rfl⟩
        case round =>
          obtain ⟨k, q, hk, rfl, hwr⟩ := hrel
          have HWR := Lib.hid hwr
          replace hwr : Below w8.heap.size w8 wr := by rw [hwr]; exact below_drewN (Below.refl _ _) q
          have HIJ := Lib.hid (HI0.out.below hwr)
          have HCQ := Lib.hid (HI2.out.below hwr)
          clear hwr
          have hpl : P0.length ≤ 9223372036854775807 := HI0.out.1
          rcases Nat.lt_or_ge k P0.length with hlt | hge
          · have hlt' : (k : Int) < (P0.length : Int) := by omega
            have p0 : (0 : Int) ≤ (k : Int) := by omega
            obtain ⟨pa, y, rfl, hy, cy, -, -⟩ := HIJ.out.at k hlt
            have hy2 : decide (y ∈ P2) = true := decide_eq_true (HN1.out y (List.mem_of_getElem? hy))
            have hyq : ∀ r, (wr.drewN r).cell? (pa.add k) = some (.int .i64 y) := fun _ => cy
            have hw5 : IntKind.i64.wrap ((k : Int) + 1) = (k : Int) + 1 := IntWalk.i64_in _ (by omega)
            have HHY := Lib.hid hy
            clear hy
            by_cases hk0 : k = 0
            · have d2 : decide ((0 : Int) < (k : Int)) = false := by simp; omega
              have d2n : decide (0 < k) = false := by simp; omega
              clear cy hk0
              go_wp2_with fail
              go_quiet (first | (go_at_call 19; refine has_quiet X2 P2.length x2 P2 HCQ.out y hy2))
              go_wp2
              go_roundw
              case rel => exact ⟨k + 1, _, by omega, by go_num, by rw [HWR.out]; exact World.drewN_drewN _ _ _⟩
              case measure => simp [intOf]; omega
            · have d2 : decide ((0 : Int) < (k : Int)) = true := by simp; omega
              have d2n : decide (0 < k) = true := by simp; omega
              obtain ⟨i, hi⟩ : ∃ i, k = i + 1 := ⟨k - 1, by omega⟩
              obtain ⟨pa', z, epa, hz, cz, -, -⟩ := HIJ.out.at i (by omega)
              obtain rfl : pa = pa' := by injection epa
              have hyz : z < y := HR1.out i z y hz (by rw [← hi]; exact HHY.out)
              have d3 : decide (y ≤ z) = false := by simp; omega
              have hwz : IntKind.i64.wrap ((k : Int) - 1) = (i : Int) := by rw [show (k : Int) - 1 = (i : Int) by omega]; exact IntWalk.i64_in _ (by omega)
              have hzq : ∀ r, (wr.drewN r).cell? (pa.add i) = some (.int .i64 z) := fun _ => cz
              have hil : (i : Int) < (P0.length : Int) := by omega
              have hi0 : (0 : Int) ≤ (i : Int) := by omega
              have HHI := Lib.hid hi
              clear cy cz hz hi epa hyz
              go_wp2_with fail
              go_quiet (first | (go_at_call 19; refine has_quiet X2 P2.length x2 P2 HCQ.out y hy2))
              go_wp2
              go_roundw
              case rel => exact ⟨k + 1, _, by omega, by go_num, by rw [HWR.out]; exact World.drewN_drewN _ _ _⟩
              case measure => simp [intOf]; omega
          · obtain rfl := HWR.out
            obtain rfl : k = P0.length := by omega
            have hlz : ¬ ((P0.length : Int) < (P0.length : Int)) := by omega
            go_wp2
            go_loopw [17] (fun i wr => ∃ k q : Nat, k ≤ P1.length ∧ i = .int .i64 k ∧ wr = w8.drewN q) (fun i _ => P1.length - (intOf i).toNat)
            case atStart => exact ⟨0, q, by omega, rfl, rfl⟩
            case round =>
              obtain ⟨k, q, hk, rfl, hwr⟩ := hrel
              have HWR := Lib.hid hwr
              replace hwr : Below w8.heap.size w8 wr := by rw [hwr]; exact below_drewN (Below.refl _ _) q
              have HIJ := Lib.hid (HI1.out.below hwr)
              have HCQ := Lib.hid (HI2.out.below hwr)
              clear hwr
              have hpl : P1.length ≤ 9223372036854775807 := HI1.out.1
              rcases Nat.lt_or_ge k P1.length with hlt | hge
              · have hlt' : (k : Int) < (P1.length : Int) := by omega
                have p0 : (0 : Int) ≤ (k : Int) := by omega
                obtain ⟨pa, y, rfl, hy, cy, -, -⟩ := HIJ.out.at k hlt
                have hy2 : decide (y ∈ P2) = true := decide_eq_true (HN2.out y (List.mem_of_getElem? hy))
                have hyq : ∀ r, (wr.drewN r).cell? (pa.add k) = some (.int .i64 y) := fun _ => cy
                have hw5 : IntKind.i64.wrap ((k : Int) + 1) = (k : Int) + 1 := IntWalk.i64_in _ (by omega)
                have HHY := Lib.hid hy
                clear hy
                by_cases hk0 : k = 0
                · have d2 : decide ((0 : Int) < (k : Int)) = false := by simp; omega
                  have d2n : decide (0 < k) = false := by simp; omega
                  clear cy hk0
                  go_wp2_with fail
                  go_quiet (first | (go_at_call 19; refine has_quiet X2 P2.length x2 P2 HCQ.out y hy2))
                  go_wp2
                  go_roundw
                  case rel => exact ⟨k + 1, _, by omega, by go_num, by rw [HWR.out]; exact World.drewN_drewN _ _ _⟩
                  case measure => simp [intOf]; omega
                · have d2 : decide ((0 : Int) < (k : Int)) = true := by simp; omega
                  have d2n : decide (0 < k) = true := by simp; omega
                  obtain ⟨i, hi⟩ : ∃ i, k = i + 1 := ⟨k - 1, by omega⟩
                  obtain ⟨pa', z, epa, hz, cz, -, -⟩ := HIJ.out.at i (by omega)
                  obtain rfl : pa = pa' := by injection epa
                  have hyz : z < y := HR2.out i z y hz (by rw [← hi]; exact HHY.out)
                  have d3 : decide (y ≤ z) = false := by simp; omega
                  have hwz : IntKind.i64.wrap ((k : Int) - 1) = (i : Int) := by rw [show (k : Int) - 1 = (i : Int) by omega]; exact IntWalk.i64_in _ (by omega)
                  have hzq : ∀ r, (wr.drewN r).cell? (pa.add i) = some (.int .i64 z) := fun _ => cz
                  have hil : (i : Int) < (P1.length : Int) := by omega
                  have hi0 : (0 : Int) ≤ (i : Int) := by omega
                  have HHI := Lib.hid hi
                  clear cy cz hz hi epa hyz
                  go_wp2_with fail
                  go_quiet (first | (go_at_call 19; refine has_quiet X2 P2.length x2 P2 HCQ.out y hy2))
                  go_wp2
                  go_roundw
                  case rel => exact ⟨k + 1, _, by omega, by go_num, by rw [HWR.out]; exact World.drewN_drewN _ _ _⟩
                  case measure => simp [intOf]; omega
              · obtain rfl := HWR.out
                obtain rfl : k = P1.length := by omega
                have hlz : ¬ ((P1.length : Int) < (P1.length : Int)) := by omega
                go_upto_region 18 with fail
                obtain ⟨w9, hw9⟩ : ∃ w, w = w8.drewN q := ⟨_, rfl⟩
                have HB89 := Lib.hid (by rw [hw9]; exact below_drewN (Below.refl _ _) q : Below w8.heap.size w8 w9)
                rw [← hw9]
                have hn1 : n ≤ 512 := by have := HL512.out; have := HLEN.out; omega
                obtain ⟨K, hK⟩ : ∃ K : Nat, K = wh % n := ⟨_, rfl⟩
                have hk1 : (wh : Int) % (n : Int) = (K : Int) := by rw [hK]; exact (Int.natCast_emod wh n).symm
                have hKn : K < n := by rw [hK]; exact Nat.mod_lt _ (by omega)
                have hKi : (K : Int) < (n : Int) := by omega
                have hK0 : (0 : Int) ≤ (K : Int) := by omega
                obtain ⟨x, hx⟩ : ∃ x, L[K]? = some x := ⟨_, List.getElem?_eq_getElem (by rw [HLEN.out]; exact hKn)⟩
                obtain ⟨pa, Ax, cx, rfl, ea, ecx, ex⟩ := ((HL.out.1.below HW8.out).below HB89.out).at_ K x hx
                have hx16 := H16.out K x hx
                obtain ⟨E, hE⟩ : ∃ E, E = x.length + 1 := ⟨_, rfl⟩
                have hw1 : IntKind.i64.wrap ((x.length : Int) + 1) = (E : Int) := by rw [IntWalk.i64_in _ (by omega), hE]; rfl
                obtain ⟨I, hI⟩ : ∃ I : Nat, I = fr % E := ⟨_, rfl⟩
                have hi1 : (fr : Int) % (E : Int) = (I : Int) := by rw [hI]; exact (Int.natCast_emod fr E).symm
                have hIE : I < E := by rw [hI]; exact Nat.mod_lt _ (by omega)
                obtain ⟨D, hD⟩ : ∃ D, D = x.length - I := ⟨_, rfl⟩
                have hw2 : IntKind.i64.wrap ((x.length : Int) - (I : Int)) = (D : Int) := by rw [show (x.length : Int) - (I : Int) = (D : Int) by omega]; exact IntWalk.i64_in _ (by omega)
                obtain ⟨F, hF⟩ : ∃ F, F = D + 1 := ⟨_, rfl⟩
                have hw3 : IntKind.i64.wrap ((D : Int) + 1) = (F : Int) := by rw [IntWalk.i64_in _ (by omega), hF]; rfl
                obtain ⟨R, hR⟩ : ∃ R : Nat, R = tt % F := ⟨_, rfl⟩
                have hr1 : (tt : Int) % (F : Int) = (R : Int) := by rw [hR]; exact (Int.natCast_emod tt F).symm
                have hRF : R < F := by rw [hR]; exact Nat.mod_lt _ (by omega)
                obtain ⟨J, hJ⟩ : ∃ J, J = I + R := ⟨_, rfl⟩
                have hw4 : IntKind.i64.wrap ((I : Int) + (R : Int)) = (J : Int) := by rw [show (I : Int) + (R : Int) = (J : Int) by omega]; exact IntWalk.i64_in _ (by omega)
                have hJx : J ≤ x.length := by omega
                have hIJ : I ≤ J := by omega
                have hEp : ¬ (E : Int) = 0 := by omega
                have hFp : ¬ (F : Int) = 0 := by omega
                have hnp : ¬ (n : Int) = 0 := by omega
                have hsl1 := fun w => slice_both w Ax x.length cx I J hIJ (by omega)
                have hsl2 := fun w => slice_to w Ax x.length cx J (by omega)
                have hsl3 := fun w => slice_from w Ax x.length cx I (by omega)
                have hb1 := ex.sub ecx I J hIJ hJx
                have hb2 := ex.upto J hJx
                have hb3 := ex.sub ecx I x.length (by omega) (Nat.le_refl _)
                rw [List.take_length] at hb3
                have hgd : L.getD K [] = x := by rw [List.getD_eq_getElem?_getD, hx]; rfl
                have hm1 : decide ((K : Int) ∈ infL L ((x.take J).drop I)) = true := decide_eq_true (idx_iff.2 ⟨K, by rw [HLEN.out]; exact hKn, rfl, by rw [hgd]; exact (inf_iff _ _).2 ((List.drop_suffix I (x.take J)).isInfix.trans (List.take_prefix J x).isInfix)⟩)
                have hm2 : decide ((K : Int) ∈ preL L (x.take J)) = true := decide_eq_true (idx_iff.2 ⟨K, by rw [HLEN.out]; exact hKn, rfl, by rw [hgd]; exact (pre_iff _ _).2 (List.take_prefix J x)⟩)
                have hm3 : decide ((K : Int) ∈ sufL L (x.drop I)) = true := decide_eq_true (idx_iff.2 ⟨K, by rw [HLEN.out]; exact hKn, rfl, by rw [hgd]; exact (suf_iff _ _).2 (List.drop_suffix I x)⟩)
                have HM1 := Lib.hid hm1
                have HM2 := Lib.hid hm2
                have HM3 := Lib.hid hm3
                have HX1 := Lib.hid hb1
                have HX2 := Lib.hid hb2
                have HX3 := Lib.hid hb3
                have HT9 := Lib.hid (HT8.out.below HB89.out)
                have HW9 := Lib.hid (below_then HW8.out HB89.out HW8.out.size)
                have HL5 := HL512.out
                have hxz : J - I ≤ 16 := by omega
                clear hx ex hK hE hI hD hF hR hJ hb1 hb2 hb3 hgd hm1 hm2 hm3 hw9
                have HC := Lib.hid (infix_is HT9.out (by omega) _ (J - I) (cx - I) _ HX1.out (by omega) rfl)
                go_wp2_with fail
                refine HC.out.mono ?_
                rintro e w10 ⟨Y1, y1, rfl, hi, hb⟩
                have HT10 := Lib.hid (HT9.out.below hb)
                have HW10 := Lib.hid (below_then HW9.out hb HW9.out.size)
                have HXX2 := Lib.hid (HX2.out.below hb)
                have HXX3 := Lib.hid (HX3.out.below hb)
                have HC2 := Lib.hid (has_any w10 Y1 _ y1 _ hi (K : Int))
                rw [HM1.out] at HC2
                clear hi hb HC
                go_wp2_with fail
                refine HC2.out.mono ?_
                rintro e w11 ⟨rfl, rfl⟩
                clear HC2
                have HC := Lib.hid (prefix_is HT10.out (by omega) _ J cx _ HXX2.out (by omega) rfl)
                go_wp2_with fail
                refine HC.out.mono ?_
                rintro e w12 ⟨Y2, y2, rfl, hi, hb⟩
                have HT12 := Lib.hid (HT10.out.below hb)
                have HW12 := Lib.hid (below_then HW10.out hb HW10.out.size)
                have HXX4 := Lib.hid (HXX3.out.below hb)
                have HC2 := Lib.hid (has_any w12 Y2 _ y2 _ hi (K : Int))
                rw [HM2.out] at HC2
                clear hi hb HC
                go_wp2_with fail
                refine HC2.out.mono ?_
                rintro e w13 ⟨rfl, rfl⟩
                clear HC2
                have HC := Lib.hid (suffix_is HT12.out (by omega) _ (x.length - I) (cx - I) _ HXX4.out (by omega) rfl)
                go_wp2_with fail
                refine HC.out.mono ?_
                rintro e w14 ⟨Y3, y3, rfl, hi, hb⟩
                have HW14 := Lib.hid (below_then HW12.out hb HW12.out.size)
                have HC2 := Lib.hid (has_any w14 Y3 _ y3 _ hi (K : Int))
                rw [HM3.out] at HC2
                clear hi hb HC
                go_wp2_with fail
                refine HC2.out.mono ?_
                rintro e w15 ⟨rfl, rfl⟩
                go_wp2
                go_ret
                exact ⟨rfl, HW14.out⟩
end Go.Proofs.Ytjmpngghjbiajaa
