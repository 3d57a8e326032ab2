/- TrieWhole. -/
import Derived.Test.YtjmpngghjbiajaaTLaws2
namespace Go.Proofs.Ytjmpngghjbiajaa
open Go.RowKit Go.Maps Go.WideMaps
set_option linter.unusedSimpArgs false

/-- has, where a wrong arm must fail at once. -/
theorem has_quiet2 {w : World} (A : Option Addr) (n c : Nat) (l : List Int) (h : IntsIn w A n l) (x : Int) {b : Bool} (hb : decide (x ∈ l) = b) {q : Nat} {args : Array Value} (ha : args = #[.slice A n c, .int .i64 x]) :
    Calls Try.prog 19 args (w.drewN q) fun e w'' => e = .returned (.bool b) ∧ ∃ m, w'' = w.drewN m := by
  subst ha
  exact has_quiet A n c l h x hb
theorem pre_self {L : List Nm} {k : Nat} {x : Nm} (hx : L[k]? = some x) : (k : Int) ∈ preL L x :=
  idx_iff.2 ⟨k, (List.getElem?_eq_some_iff.1 hx).1, rfl, by rw [List.getD_eq_getElem?_getD, hx]; exact (pre_iff _ _).2 (List.prefix_refl x)⟩
theorem suf_self {L : List Nm} {k : Nat} {x : Nm} (hx : L[k]? = some x) : (k : Int) ∈ sufL L x :=
  idx_iff.2 ⟨k, (List.getElem?_eq_some_iff.1 hx).1, rfl, by rw [List.getD_eq_getElem?_getD, hx]; exact (suf_iff _ _).2 (List.suffix_refl x)⟩
theorem pre_long {L : List Nm} {k : Nat} {x y : Nm} (hy : L[k]? = some y) (h : (k : Int) ∈ preL L x) : x.length ≤ y.length := by
  obtain ⟨j, _, h2, h3⟩ := idx_iff.1 h
  obtain rfl : k = j := by omega
  rw [List.getD_eq_getElem?_getD, hy] at h3
  exact ((pre_iff _ _).1 h3).length_le

set_option maxHeartbeats 8000000 in
set_option maxRecDepth 100000 in
theorem trieWhole_any (W : World) (A : Option Addr) (n ca : Nat) (L : List Nm) (hl : RowsSz W A n L) (wh : Nat) (hwh : wh ≤ 255) :
    Calls Try.prog 6 #[.slice A n ca, .int .u8 wh] W fun e w' => e = .returned (.bool true) ∧ Below W.heap.size W w' := by
  have hep := eqTrieNil
  have HL := Lib.hid hl
  have HLEN := Lib.hid hl.1.len
  clear hl
  go_enter Try.func6, Try.ntmps6
  go_wp2_with fail
  refine (trieHead_any _).mono ?_
  rintro e w1 ⟨rfl, hb1⟩
  have HB1 := Lib.hid hb1
  clear hb1
  cases hr : rightB L with
  | false =>
    have HN := Lib.hid (tnew_none w1 A n ca L (HL.out.1.below HB1.out) (by have := HL.out.2.2; omega) hr)
    clear hr
    go_wp2_with fail
    refine HN.out.mono ?_
    rintro e w2 ⟨rfl, rfl⟩
    go_wp2
    go_ret
    exact ⟨rfl, HB1.out⟩
  | true =>
    have hn512 : L.length ≤ 512 := by
      rcases Nat.lt_or_ge 512 L.length with h | h
      · rw [rightB_long h] at hr; cases hr
      · exact h
    have h16 : ∀ (k : Nat) (x : Nm), L[k]? = some x → x.length ≤ 16 := fun k x hx => by
      rcases Nat.lt_or_ge 16 x.length with h | h
      · rw [rightB_wide hx h] at hr; cases hr
      · exact h
    have HN := Lib.hid (tnew_any w1 A n ca L (HL.out.1.below HB1.out) hr)
    have HL512 := Lib.hid hn512
    have H16 := Lib.hid h16
    clear hr hn512 h16
    go_wp2_with fail
    refine HN.out.mono ?_
    rintro e w2 ⟨b, rfl, hb2, hT2⟩
    have HB2 := Lib.hid (below_then HB1.out hb2 HB1.out.size)
    have HT2 := Lib.hid hT2
    have HG := Lib.hid (great_any w2 A none n 0 ca 0 L ((HL.out.1.below HB1.out).below hb2) HL.out.2.1 HL.out.2.2 (by omega))
    clear hb2 hT2
    go_wp2_with fail
    refine HG.out.mono ?_
    rintro e w5 ⟨r, rfl, rfl, hrr⟩
    cases r with
    | true =>
      clear hrr
      go_wp2
      go_ret
      exact ⟨rfl, HB2.out⟩
    | false =>
      clear hrr
      by_cases hn0 : n = 0
      · have d1 : ((n : Int) == 0) = true := by simp; omega
        go_wp2
        go_ret
        exact ⟨rfl, HB2.out⟩
      · have d1 : ((n : Int) == 0) = false := by simp; omega
        obtain ⟨K, hK⟩ : ∃ K : Nat, K = wh % n := ⟨_, rfl⟩
        have hk1 : (wh : Int) % (n : Int) = (K : Int) := by rw [hK]; exact (Int.natCast_emod wh n).symm
        have hKn : K < n := by rw [hK]; exact Nat.mod_lt _ (by omega)
        have hKi : (K : Int) < (n : Int) := by omega
        have hK0 : (0 : Int) ≤ (K : Int) := by omega
        have hnp : ¬ (n : Int) = 0 := by omega
        have hn1 : n ≤ 512 := by have := HL512.out; have := HLEN.out; omega
        obtain ⟨x, hx⟩ : ∃ x, L[K]? = some x := ⟨_, List.getElem?_eq_getElem (by rw [HLEN.out]; exact hKn)⟩
        have HL5 := Lib.hid (HL.out.1.below HB2.out)
        obtain ⟨pa, Ax, cx, rfl, ea, ecx, ex⟩ := HL5.out.at_ K x hx
        have hx16 := H16.out K x hx
        have HEX := Lib.hid ex
        have HXX := Lib.hid hx
        clear ex hK hx
        obtain ⟨P0, hP0⟩ : ∃ P, P = preL L x := ⟨_, rfl⟩
        obtain ⟨P1, hP1⟩ : ∃ P, P = sufL L x := ⟨_, rfl⟩
        have HP0 := Lib.hid hP0
        have HP1 := Lib.hid hP1
        have HC := Lib.hid (prefix_is HT2.out (by have := HL512.out; omega) Ax x.length cx x HEX.out (by omega) hP0.symm)
        clear hP0 hP1
        go_wp2_with fail
        refine HC.out.mono ?_
        rintro e w6 ⟨X0, x0, rfl, hi0, hb⟩
        have HI0 := Lib.hid hi0
        have HW6 := Lib.hid (below_then HB2.out hb HB2.out.size)
        have HB6 := Lib.hid hb
        have HC := Lib.hid (suffix_is (HT2.out.below hb) (by have := HL512.out; omega) Ax x.length cx x (HEX.out.below hb) (by omega) HP1.out.symm)
        clear hi0 hb
        go_wp2_with fail
        refine HC.out.mono ?_
        rintro e w7 ⟨X1, x1, rfl, hi1, hb⟩
        have HI1 := Lib.hid hi1
        have HW7 := Lib.hid (below_then HW6.out hb HW6.out.size)
        have HB7 := Lib.hid (below_then HB6.out hb HB6.out.size)
        replace HI0 := Lib.hid (HI0.out.below hb)
        clear hi1 hb HC
        go_wp2
        go_loopw [10] (fun i wr => ∃ k q : Nat, k ≤ n ∧ i = .int .i64 k ∧ wr = w7.drewN q) (fun i _ => n - (intOf i).toNat)
        case atStart => exact ⟨0, 0, by omega, rfl, rfl⟩
        case round =>
          obtain ⟨k, q, hk, rfl, hwr⟩ := hrel
          have HWR := Lib.hid hwr
          replace hwr : Below w7.heap.size w7 wr := by rw [hwr]; exact below_drewN (Below.refl _ _) q
          have HIQ0 := Lib.hid (HI0.out.below hwr)
          have HIQ1 := Lib.hid (HI1.out.below hwr)
          have HBR := Lib.hid (below_then HB7.out hwr HB7.out.size)
          clear hwr
          rcases Nat.lt_or_ge k n with hlt | hge
          · have hlt' : (k : Int) < (n : Int) := by omega
            have p0 : (0 : Int) ≤ (k : Int) := by omega
            obtain ⟨y, hy⟩ : ∃ y, L[k]? = some y := ⟨_, List.getElem?_eq_getElem (by rw [HLEN.out]; exact hlt)⟩
            obtain ⟨pa', Ay, cy, epa, ey, ecy, exy⟩ := (HL5.out.below HBR.out).at_ k y hy
            obtain rfl : pa = pa' := by injection epa
            have heq : ∀ r, (wr.drewN r).cell? (pa.add k) = some (.slice Ay y.length cy) := fun _ => ey
            have cv1 := fun r => str_of (exy.drewN r) cy
            have cv2 := fun r => str_of ((HEX.out.below HBR.out).drewN r) cx
            have hw5 : IntKind.i64.wrap ((k : Int) + 1) = (k : Int) + 1 := IntWalk.i64_in _ (by omega)
            have hlong := fun h => pre_long (x := x) hy h
            rw [← HP0.out] at hlong
            have HLONG := Lib.hid hlong
            have HY := Lib.hid hy
            clear exy hy epa hlong ea
            by_cases hyx : y = x
            · have d2 : (y == x) = true := by simpa using hyx
              have hm0 : decide ((k : Int) ∈ P0) = true := decide_eq_true (by rw [HP0.out, ← hyx]; exact pre_self HY.out)
              have hm1 : decide ((k : Int) ∈ P1) = true := decide_eq_true (by rw [HP1.out, ← hyx]; exact suf_self HY.out)
              have d3 : decide ((y.length : Int) < (x.length : Int)) = false := by rw [hyx]; simp
              have d3n : decide (y.length < x.length) = false := by rw [hyx]; simp
              have HYX := Lib.hid hyx
              clear hyx ey
              go_wp2_with fail
              go_quiet (first | (go_at_call 19; refine has_quiet2 X0 P0.length x0 P0 HIQ0.out (k : Int) hm0 ?_; exact rfl) | (go_at_call 19; refine has_quiet2 X1 P1.length x1 P1 HIQ1.out (k : Int) hm1 ?_; exact rfl))
              obtain ⟨w9, hw9⟩ : ∃ w9, w9 = wr.drewN nq := ⟨_, rfl⟩
              have ey9 : w9.cell? (pa.add k) = some (.slice Ay y.length cy) := by rw [hw9]; exact heq nq
              have HC1 := Lib.hid (has_any w9 X0 P0.length x0 P0 (by rw [hw9]; exact HIQ0.out.drewN nq) (k : Int))
              have HC2 := Lib.hid (has_any w9 X1 P1.length x1 P1 (by rw [hw9]; exact HIQ1.out.drewN nq) (k : Int))
              rw [hm0] at HC1
              rw [hm1] at HC2
              rw [← hw9]
              have HW9 := Lib.hid hw9
              clear hw9 heq cv1 cv2
              go_wp2_with fail
              refine HC1.out.mono ?_
              rintro e w10 ⟨rfl, hw⟩
              obtain rfl := hw
              go_wp2_with fail
              refine HC2.out.mono ?_
              rintro e w11 ⟨rfl, hw⟩
              obtain rfl := hw
              go_wp2
              go_roundw
              case rel => exact ⟨k + 1, _, by omega, by go_num, by rw [HW9.out, HWR.out]; exact World.drewN_drewN _ _ _⟩
              case measure => simp [intOf]; omega
            · have d2 : (y == x) = false := by simpa using hyx
              clear hyx ey
              go_wp2_with fail
              go_quiet (fail)
              obtain ⟨w9, hw9⟩ : ∃ w9, w9 = wr.drewN nq := ⟨_, rfl⟩
              have ey9 : w9.cell? (pa.add k) = some (.slice Ay y.length cy) := by rw [hw9]; exact heq nq
              have HC1 := Lib.hid (has_any w9 X0 P0.length x0 P0 (by rw [hw9]; exact HIQ0.out.drewN nq) (k : Int))
              have HC2 := Lib.hid (has_any w9 X1 P1.length x1 P1 (by rw [hw9]; exact HIQ1.out.drewN nq) (k : Int))
              rw [← hw9]
              have HW9 := Lib.hid hw9
              clear hw9 heq cv1 cv2
              by_cases hm0 : (k : Int) ∈ P0
              · have hle := HLONG.out hm0
                have d3 : decide ((y.length : Int) < (x.length : Int)) = false := by simp; omega
                have d3n : decide (y.length < x.length) = false := by simp; omega
                rw [decide_eq_true hm0] at HC1
                clear hm0 hle
                by_cases hm1 : (k : Int) ∈ P1
                · rw [decide_eq_true hm1] at HC2
                  clear hm1
                  go_wp2_with fail
                  refine HC1.out.mono ?_
                  rintro e w10 ⟨rfl, hw⟩
                  obtain rfl := hw
                  go_wp2_with fail
                  refine HC2.out.mono ?_
                  rintro e w11 ⟨rfl, hw⟩
                  obtain rfl := hw
                  go_wp2
                  go_roundw
                  case rel => exact ⟨k + 1, _, by omega, by go_num, by rw [HW9.out, HWR.out]; exact World.drewN_drewN _ _ _⟩
                  case measure => simp [intOf]; omega
                · rw [decide_eq_false hm1] at HC2
                  clear hm1
                  go_wp2_with fail
                  refine HC1.out.mono ?_
                  rintro e w10 ⟨rfl, hw⟩
                  obtain rfl := hw
                  go_wp2_with fail
                  refine HC2.out.mono ?_
                  rintro e w11 ⟨rfl, hw⟩
                  obtain rfl := hw
                  go_wp2
                  go_roundw
                  case rel => exact ⟨k + 1, _, by omega, by go_num, by rw [HW9.out, HWR.out]; exact World.drewN_drewN _ _ _⟩
                  case measure => simp [intOf]; omega
              · rw [decide_eq_false hm0] at HC1
                clear hm0
                go_wp2_with fail
                refine HC1.out.mono ?_
                rintro e w10 ⟨rfl, hw⟩
                obtain rfl := hw
                go_wp2
                go_roundw
                case rel => exact ⟨k + 1, _, by omega, by go_num, by rw [HW9.out, HWR.out]; exact World.drewN_drewN _ _ _⟩
                case measure => simp [intOf]; omega
          · obtain rfl : k = n := by omega
            have hlz : ¬ ((k : Int) < (k : Int)) := by omega
            have HWR2 := Lib.hid (by rw [HWR.out]; exact below_drewN HW7.out q : Below W.heap.size W wr)
            go_wp2
            go_ret
            exact ⟨rfl, HWR2.out⟩
end Go.Proofs.Ytjmpngghjbiajaa
