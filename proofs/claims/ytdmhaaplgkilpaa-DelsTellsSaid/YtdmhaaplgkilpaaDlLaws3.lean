/- DelsStay. -/
import Derived.Test.YtdmhaaplgkilpaaDlHead
import Derived.Deep.QuietTactic
namespace Go.Proofs.Ytdmhaaplgkilpaa
open Go.RowKit Go.Maps Go.WideMaps
set_option linter.unusedSimpArgs false

theorem dUp_take {s : DSt} {l : List Int} {k : Nat} {x : Int} (h : l[k]? = some x) : dUp s l (k + 1) = dAdd (dUp s l k) x := by
  rw [dUp, List.getD_eq_getElem?_getD, h]
  rfl
/-- What was asked to be deleted is, if there is such a document. -/
theorem stay_has {N : Nat} {l r : List Int} {k : Nat} {x : Int} (h : l[k]? = some x) : dHas (dUp (dUp (dNew N) l l.length) r r.length) x = decide (0 ≤ x ∧ x < (N : Int)) := by
  have hx : x ∈ l := List.mem_of_getElem? h
  rw [has_up _ _ _ _ (Nat.le_refl _), has_up _ _ _ _ (Nat.le_refl _), dUp_n, List.take_length]
  have h0 : dHas (dNew N) x = false := by unfold dHas dNew; simp
  rw [h0, Bool.false_or]
  by_cases hr : 0 ≤ x ∧ x < ((dNew N).n : Int)
  · rw [decide_eq_true (⟨hr.1, hr.2, hx⟩ : 0 ≤ x ∧ x < ((dNew N).n : Int) ∧ x ∈ l), Bool.true_or]
    exact (decide_eq_true hr).symm
  · rw [decide_eq_false (fun e : 0 ≤ x ∧ x < ((dNew N).n : Int) ∧ x ∈ l => hr ⟨e.1, e.2.1⟩), decide_eq_false (fun e : 0 ≤ x ∧ x < ((dNew N).n : Int) ∧ x ∈ r.take r.length => hr ⟨e.1, e.2.1⟩)]
    exact (decide_eq_false hr).symm
theorem drewN_add (w : World) (q p : Nat) : (w.drewN q).drewN p = w.drewN (q + p) := by simp [World.drewN, Nat.add_assoc]
theorem ints_fit {w : World} {A : Option Addr} {n : Nat} {l : List Int} (h : IntsIn w A n l) {k : Nat} {x : Int} (hx : l[k]? = some x) : fits64 x := h.2.2.1 x (List.mem_of_getElem? hx)

set_option maxHeartbeats 8000000 in
set_option maxRecDepth 100000 in
theorem delsStay_any {D : DelsSt} (hD : DelsOk D) (W : World) (m : Nat) (hm : m < 256) (A : Option Addr) (n c : Nat) (l : List Int) (hl : IntsIn W A n l) (B : Option Addr) (k d : Nat) (r : List Int) (hr : IntsIn W B k r) :
    Calls Try.prog 5 #[.int .u8 m, .slice A n c, .slice B k d] W fun e w' => e = .returned (.bool true) ∧ Below W.heap.size W w' := by
  have hep := eqDelsNil
  have hnp := neDelsNil
  have HK := Lib.hid hD
  have HH := Lib.hid (dlHead_any hD W)
  have HX := Lib.hid hl
  have HY := Lib.hid hr
  have HLN := Lib.hid hl.len
  have HRN := Lib.hid hr.len
  have hn63 := hl.1
  have hk63 := hr.1
  unfold maxLen at hn63 hk63
  obtain ⟨N, hN⟩ : ∃ N, N = m % 65 := ⟨_, rfl⟩
  have hN64 : N ≤ 64 := by omega
  have hmod : (m : Int) % 65 = (N : Int) := by omega
  clear hD hl hr hN
  go_enter Try.func5, Try.ntmps5
  go_wp2_with fail
  refine HH.out.mono ?_
  rintro e w1 ⟨rfl, hb1⟩
  have HB1 := Lib.hid hb1
  clear hb1 HH
  go_wp2_with fail
  refine (lv_new HK.out HB1.out N hN64).mono ?_
  rintro e w2 ⟨b, rfl, hl2⟩
  have HL2 := Lib.hid hl2
  clear hl2
  by_cases h5 : 500 < n
  · have h5' : (500 : Int) < (n : Int) := by omega
    go_wp2
    go_ret
    exact ⟨rfl, HL2.out.below⟩
  by_cases h6 : 500 < k
  · have h5' : ¬ (500 : Int) < (n : Int) := by omega
    have h6' : (500 : Int) < (k : Int) := by omega
    go_wp2
    go_ret
    exact ⟨rfl, HL2.out.below⟩
  have h5' : ¬ (500 : Int) < (n : Int) := by omega
  have h6' : ¬ (500 : Int) < (k : Int) := by omega
  go_wp2
  go_loopw [9] (fun iv wr => ∃ (i : Nat), i ≤ n ∧ iv = .int .i64 i ∧ Lv D W wr b (dUp (dNew N) l i)) (fun iv _ => n - (intOf iv).toNat)
  case atStart => exact ⟨0, by omega, rfl, HL2.out⟩
  case round =>
    obtain ⟨i, hi, rfl, hlv⟩ := hrel
    have HV := Lib.hid hlv
    clear hlv
    rcases Nat.lt_or_ge i n with hlt | hge
    · have hlt' : (i : Int) < (n : Int) := by omega
      have p0 : (0 : Int) ≤ (i : Int) := by omega
      have hw1 : IntKind.i64.wrap ((i : Int) + 1) = (i : Int) + 1 := IntWalk.i64_in _ (by omega)
      obtain ⟨pa, x, rfl, hx, x0, -, -⟩ := (HX.out.below HV.out.below).at i hlt
      have HXX := Lib.hid hx
      have HFX := Lib.hid (ints_fit HX.out hx)
      clear hx
      go_wp2_with fail
      refine (lv_add HK.out HV.out x HFX.out).mono ?_
      rintro e w3 ⟨rfl, hl3⟩
      rw [← dUp_take HXX.out] at hl3
      have HL3 := Lib.hid hl3
      clear hl3 x0
      go_wp2
      go_roundw
      case rel => exact ⟨i + 1, by omega, by go_num, HL3.out⟩
      case measure => simp [intOf]; omega
    · have hlz : ¬ ((i : Int) < (n : Int)) := by omega
      have HIN : Hid (i = l.length) := Lib.hid (by have := HLN.out; omega)
      have HV1 : Hid (Lv D W wr b (dUp (dNew N) l l.length)) := Lib.hid (by rw [← HIN.out]; exact HV.out)
      obtain ⟨s1, hs1⟩ : ∃ s1, s1 = dUp (dNew N) l l.length := ⟨_, rfl⟩
      rw [← hs1] at HV1
      have HS1 := Lib.hid hs1
      clear hs1 HIN HV
      obtain ⟨wo, hwo⟩ : ∃ zz, zz = wr := ⟨_, rfl⟩
      subst hwo
      go_wp2
      go_loopw [10] (fun iv wr => ∃ (i : Nat), i ≤ k ∧ iv = .int .i64 i ∧ Lv D W wr b (dUp s1 r i)) (fun iv _ => k - (intOf iv).toNat)
      case atStart => exact ⟨0, by omega, rfl, HV1.out⟩
      case round =>
        obtain ⟨i2, hi2, rfl, hlv⟩ := hrel
        have HV := Lib.hid hlv
        clear hlv
        rcases Nat.lt_or_ge i2 k with hlt | hge
        · have hlt' : (i2 : Int) < (k : Int) := by omega
          have p0 : (0 : Int) ≤ (i2 : Int) := by omega
          have hw1 : IntKind.i64.wrap ((i2 : Int) + 1) = (i2 : Int) + 1 := IntWalk.i64_in _ (by omega)
          obtain ⟨pa, x, rfl, hx, x0, -, -⟩ := (HY.out.below HV.out.below).at i2 hlt
          have HXX := Lib.hid hx
          have HFX := Lib.hid (ints_fit HY.out hx)
          clear hx
          go_wp2_with fail
          refine (lv_add HK.out HV.out x HFX.out).mono ?_
          rintro e w3 ⟨rfl, hl3⟩
          rw [← dUp_take HXX.out] at hl3
          have HL3 := Lib.hid hl3
          clear hl3 x0
          go_wp2
          go_roundw
          case rel => exact ⟨i2 + 1, by omega, by go_num, HL3.out⟩
          case measure => simp [intOf]; omega
        · have hlz : ¬ ((i2 : Int) < (k : Int)) := by omega
          have HIN : Hid (i2 = r.length) := Lib.hid (by have := HRN.out; omega)
          have HV2 : Hid (Lv D W wr b (dUp s1 r r.length)) := Lib.hid (by rw [← HIN.out]; exact HV.out)
          obtain ⟨s2, hs2⟩ : ∃ s2, s2 = dUp s1 r r.length := ⟨_, rfl⟩
          rw [← hs2] at HV2
          have HST : Hid (∀ (j : Nat) (x : Int), l[j]? = some x → dHas s2 x = decide (0 ≤ x ∧ x < (N : Int))) := Lib.hid (fun j x hx => by rw [hs2, HS1.out]; exact stay_has hx)
          have HSN : Hid (s2.n = N) := Lib.hid (by rw [hs2, dUp_n, HS1.out, dUp_n]; rfl)
          clear hs2 HIN HV
          obtain ⟨wp, hwp⟩ : ∃ zz, zz = wr := ⟨_, rfl⟩
          subst hwp
          go_wp2
          go_loopw [11] (fun iv wr => ∃ (i : Nat), i ≤ n ∧ iv = .int .i64 i ∧ Lv D W wr b s2) (fun iv _ => n - (intOf iv).toNat)
          case atStart => exact ⟨0, by omega, rfl, HV2.out⟩
          case round =>
            obtain ⟨i3, hi3, rfl, hlv⟩ := hrel
            have HV := Lib.hid hlv
            clear hlv
            rcases Nat.lt_or_ge i3 n with hlt | hge
            · have hlt' : (i3 : Int) < (n : Int) := by omega
              have p0 : (0 : Int) ≤ (i3 : Int) := by omega
              have hw1 : IntKind.i64.wrap ((i3 : Int) + 1) = (i3 : Int) + 1 := IntWalk.i64_in _ (by omega)
              obtain ⟨pa, x, rfl, hx, x0, -, -⟩ := (HX.out.below HV.out.below).at i3 hlt
              have hsx := HST.out i3 x hx
              have HFX := Lib.hid (ints_fit HX.out hx)
              have hx0 : ∀ q, (wr.drewN q).cell? (pa.add i3) = some (.int .i64 x) := fun _ => x0
              have HHAS : Hid (∀ q, Calls Try.prog 18 #[.pointer (some ⟨b, 0, none⟩), .int .i64 x] (wr.drewN q) fun e w' => e = .returned (.bool (decide (0 ≤ x ∧ x < (N : Int)))) ∧ ∃ p, w' = wr.drewN p) := Lib.hid (fun q => by
                rw [← hsx]
                refine (lv_has HK.out (HV.out.drewN HK.out q) x HFX.out).mono ?_
                rintro e w' ⟨rfl, p, rfl⟩
                exact ⟨rfl, q + p, drewN_add _ _ _⟩)
              obtain ⟨t, ht⟩ : ∃ t, t = decide (0 ≤ x ∧ x < (N : Int)) := ⟨_, rfl⟩
              rw [← ht] at HHAS
              clear hx hsx
              by_cases hp : 0 ≤ x
              · by_cases hq : x < (N : Int)
                · obtain rfl : t = true := by rw [ht]; exact decide_eq_true ⟨hp, hq⟩
                  have d1 : decide (0 ≤ x) = true := decide_eq_true hp
                  have d2 : decide (x < (N : Int)) = true := decide_eq_true hq
                  clear ht
                  go_wp2_with fail
                  go_quiet (first | (go_at_call 18; exact HHAS.out _))
                  go_wp2
                  go_roundw
                  case rel => exact ⟨i3 + 1, by omega, by go_num, HV.out.drewN HK.out _⟩
                  case measure => simp [intOf]; omega
                · obtain rfl : t = false := by rw [ht]; exact decide_eq_false fun h => hq h.2
                  have d1 : decide (0 ≤ x) = true := decide_eq_true hp
                  have d2 : decide (x < (N : Int)) = false := decide_eq_false hq
                  clear ht
                  go_wp2_with fail
                  go_quiet (first | (go_at_call 18; exact HHAS.out _))
                  go_wp2
                  go_roundw
                  case rel => exact ⟨i3 + 1, by omega, by go_num, HV.out.drewN HK.out _⟩
                  case measure => simp [intOf]; omega
              · obtain rfl : t = false := by rw [ht]; exact decide_eq_false fun h => hp h.1
                have d1 : decide (0 ≤ x) = false := decide_eq_false hp
                clear ht
                go_wp2_with fail
                go_quiet (first | (go_at_call 18; exact HHAS.out _))
                go_wp2
                go_roundw
                case rel => exact ⟨i3 + 1, by omega, by go_num, HV.out.drewN HK.out _⟩
                case measure => simp [intOf]; omega
            · have hlz : ¬ ((i3 : Int) < (n : Int)) := by omega
              have HLV := Lib.hid (lv_live HK.out HV.out)
              obtain ⟨L, hL⟩ : ∃ L, L = dLive s2 := ⟨_, rfl⟩
              rw [← hL] at HLV
              have HUP : Hid (L.Pairwise (· < ·)) := Lib.hid (by rw [hL]; exact live_up s2)
              have HNO : Hid (∀ x, x ∈ L → dHas s2 x = false) := Lib.hid (fun x hx => live_has (by rw [← hL]; exact hx))
              have HML : Hid (L.length + dMany s2 = N) := Lib.hid (by rw [hL, dMany_live, HSN.out])
              clear hL
              go_wp2_with fail
              refine HLV.out.mono ?_
              rintro e w8 ⟨A8, c8, rfl, hi8, -, hb8⟩
              have HV8 := Lib.hid (HV.out.later HK.out hb8)
              have HI8 := Lib.hid hi8
              obtain ⟨nL, hnL⟩ : ∃ nL, nL = L.length := ⟨_, rfl⟩
              rw [← hnL] at HI8 HML ⊢
              have hnl64 := HML.out
              have HNL := Lib.hid hnL
              clear hi8 hb8 HLV hnL HV
              obtain ⟨wq, hwq⟩ : ∃ zz, zz = wr := ⟨_, rfl⟩
              subst hwq
              go_wp2
              go_loopw [13] (fun iv wr => ∃ (i : Nat), i ≤ nL ∧ iv = .int .i64 i ∧ ∃ q, wr = w8.drewN q) (fun iv _ => nL - (intOf iv).toNat)
              case atStart => exact ⟨0, by omega, rfl, 0, rfl⟩
              case round =>
                obtain ⟨i4, hi4, rfl, q4, hwk⟩ := hrel
                have HV9 : Hid (Lv D W wr b s2) := Lib.hid (by rw [hwk]; exact HV8.out.drewN HK.out q4)
                have HB9 : Hid (Below w8.heap.size w8 wr) := Lib.hid (by rw [hwk]; exact below_drewN (Below.refl _ w8) q4)
                have HW9 := Lib.hid hwk
                clear hwk
                rcases Nat.lt_or_ge i4 nL with hlt | hge
                · have hlt' : (i4 : Int) < (nL : Int) := by omega
                  have p0 : (0 : Int) ≤ (i4 : Int) := by omega
                  have hw1 : IntKind.i64.wrap ((i4 : Int) + 1) = (i4 : Int) + 1 := IntWalk.i64_in _ (by omega)
                  obtain ⟨pa, x, rfl, hx, x0, -, -⟩ := (HI8.out.below HB9.out).at i4 hlt
                  have hsx := HNO.out x (List.mem_of_getElem? hx)
                  have HFX := Lib.hid (ints_fit HI8.out hx)
                  have hx0 : ∀ q, (wr.drewN q).cell? (pa.add i4) = some (.int .i64 x) := fun _ => x0
                  have HHAS : Hid (∀ q, Calls Try.prog 18 #[.pointer (some ⟨b, 0, none⟩), .int .i64 x] (wr.drewN q) fun e w' => e = .returned (.bool false) ∧ ∃ p, w' = wr.drewN p) := Lib.hid (fun q => by
                    rw [← hsx]
                    refine (lv_has HK.out (HV9.out.drewN HK.out q) x HFX.out).mono ?_
                    rintro e w' ⟨rfl, p, rfl⟩
                    exact ⟨rfl, q + p, drewN_add _ _ _⟩)
                  clear hsx
                  cases i4 with
                  | zero =>
                    rw [Addr.add_zero'] at x0
                    have hx0 : ∀ q, (wr.drewN q).cell? pa = some (.int .i64 x) := fun _ => x0
                    clear hx
                    go_wp2_with fail
                    go_quiet (first | (go_at_call 18; exact HHAS.out _))
                    go_wp2
                    go_roundw
                    case rel => exact ⟨1, by omega, by go_num, q4 + _, by rw [HW9.out, drewN_add]⟩
                    case measure => simp [intOf]; omega
                  | succ j4 =>
                    obtain ⟨pb, y, hpb, hy, y0, -, -⟩ := (HI8.out.below HB9.out).at j4 (by omega)
                    obtain rfl := Option.some.inj hpb
                    have hyx : y < x := by
                      have := List.pairwise_iff_getElem.1 HUP.out j4 (j4 + 1) (List.getElem?_eq_some_iff.1 hy).1 (List.getElem?_eq_some_iff.1 hx).1 (by omega)
                      rw [(List.getElem?_eq_some_iff.1 hy).2, (List.getElem?_eq_some_iff.1 hx).2] at this
                      exact this
                    have hy0 : ∀ q, (wr.drewN q).cell? (pa.add j4) = some (.int .i64 y) := fun _ => y0
                    have hw2 : IntKind.i64.wrap (((j4 + 1 : Nat) : Int) - 1) = (j4 : Int) := by rw [show ((j4 + 1 : Nat) : Int) - 1 = (j4 : Int) by omega]; exact IntWalk.i64_in _ (by omega)
                    have p1 : (0 : Int) ≤ (j4 : Int) := by omega
                    have p2 : (j4 : Int) < (nL : Int) := by omega
                    have d3 : decide (x ≤ y) = false := decide_eq_false (by omega)
                    obtain ⟨J, hJ⟩ : ∃ J, J = j4 + 1 := ⟨_, rfl⟩
                    have hJ0 : decide ((0 : Int) < (J : Int)) = true := decide_eq_true (by omega)
                    have hJ1 : decide (0 < J) = true := decide_eq_true (by omega)
                    rw [← hJ] at hlt hlt' p0 hw1 x0 hx0 hw2 hi4 ⊢
                    clear hx hy hJ
                    go_wp2_with fail
                    go_quiet (first | (go_at_call 18; exact HHAS.out _))
                    go_wp2
                    go_roundw
                    case rel => exact ⟨J + 1, by omega, by go_num, q4 + _, by rw [HW9.out, drewN_add]⟩
                    case measure => simp [intOf]; omega
                · have hlz : ¬ ((i4 : Int) < (nL : Int)) := by omega
                  have HMN := Lib.hid (lv_many HK.out HV9.out)
                  obtain ⟨M, hM⟩ : ∃ M, M = dMany s2 := ⟨_, rfl⟩
                  rw [← hM] at HML HMN
                  have hml := HML.out
                  have hw3 : IntKind.i64.wrap ((nL : Int) + (M : Int)) = (N : Int) := by rw [show (nL : Int) + (M : Int) = (N : Int) by omega]; exact IntWalk.i64_in _ (by omega)
                  clear hM hml hnl64
                  go_wp2_with fail
                  refine HMN.out.mono ?_
                  rintro e w10 ⟨rfl, q10, hb10⟩
                  have HV10 : Hid (Lv D W w10 b s2) := Lib.hid (by rw [hb10]; exact HV9.out.drewN HK.out q10)
                  clear hb10
                  go_wp2
                  go_ret
                  exact ⟨rfl, HV10.out.below⟩
end Go.Proofs.Ytdmhaaplgkilpaa
