/- CoverMissed. -/
import Derived.Test.YtjnbilcanfhkjaaOHead
import Derived.Test.YtjnbilcanfhkjaaOMiss
import Derived.Test.YtjnbilcanfhkjaaKStr
import Derived.Deep.QuietTactic
import Derived.BigQuiet
namespace Go.Proofs.Ytjnbilcanfhkjaa
open Go.RowKit Go.Maps Go.WideMaps
set_option linter.unusedSimpArgs false

set_option maxHeartbeats 8000000 in
set_option maxRecDepth 100000 in
theorem coverMissed_any {K : World → Nat → List Nm → Prop} (hK : CoverOk K) (W : World) (A : Option Addr) (n ca : Nat) (L : List Nm) (hl : RowsSz W A n L) (B : Option Addr) (m cb : Nat) (s : Nm) (hs : BytesSz W B m s) (hcb : m ≤ cb) (C : Option Addr) (p cp : Nat) (l : List Int) (hp : IntsIn W C p l) (hpz : p ≤ 140737488351232) :
    Calls Try.prog 4 #[.slice A n ca, .slice B m cb, .slice C p cp] W fun e w' => e = .returned (.bool true) ∧ Below W.heap.size W w' := by
  have hep := eqCoverNil
  have HK := Lib.hid hK
  have HL := Lib.hid hl
  have HS := Lib.hid hs
  have HP := Lib.hid hp
  have HLEN := Lib.hid hl.1.len
  have hsl : s.length = m := by have := hs.1.2.1.len; simpa using this
  have HSL := Lib.hid hsl
  have hmz : m ≤ 140737488351232 := hs.2
  clear hl hs hK hsl hp
  go_enter Try.func4, Try.ntmps4
  go_wp2_with fail
  refine (coverHead_any HK.out _).mono ?_
  rintro e w1 ⟨rfl, hb1⟩
  have HB1 := Lib.hid hb1
  clear hb1
  cases hr : rightB L with
  | false =>
    have HN := Lib.hid (HK.out.new_none w1 A n ca L (HL.out.1.below HB1.out) (by have := HL.out.2.2; omega) hr)
    clear hr
    go_wp2_with fail
    refine HN.out.mono ?_
    rintro e w2 ⟨rfl, hb2⟩
    have HB2 := Lib.hid (below_then HB1.out hb2 HB1.out.size)
    clear hb2
    go_wp2
    go_ret
    exact ⟨rfl, HB2.out⟩
  | true =>
    have HN := Lib.hid (HK.out.new w1 A n ca L (HL.out.1.below HB1.out) hr)
    have HR := Lib.hid hr
    clear hr
    go_wp2_with fail
    refine HN.out.mono ?_
    rintro e w2 ⟨b, rfl, hb2, hk2⟩
    have HB2 := Lib.hid (below_then HB1.out hb2 HB1.out.size)
    have HK2 := Lib.hid hk2
    have HG := Lib.hid (coverGreat_any w2 A B C n m p ca cb cp L ((HL.out.1.below HB1.out).below hb2) HL.out.2.1 HL.out.2.2 HS.out.2 hpz)
    clear hb2 hk2
    go_wp2_with fail
    refine HG.out.mono ?_
    rintro e w3 ⟨r, rfl, hw3, hrr⟩
    obtain rfl := hw3
    cases r with
    | true =>
      clear hrr
      go_wp2
      go_ret
      exact ⟨rfl, HB2.out⟩
    | false =>
      obtain ⟨hm, hn, hp5, -, -⟩ := hrr rfl
      clear hrr
      by_cases hm0 : m = 0
      · have d2 : ((m : Int) == 0) = true := by simp; omega
        go_wp2
        go_ret
        exact ⟨rfl, HB2.out⟩
      · have d2 : ((m : Int) == 0) = false := by simp; omega
        have htx := right_text HR.out l p
        obtain ⟨T, hT⟩ : ∃ T, T = textUp L l p := ⟨_, rfl⟩
        obtain ⟨N, hN⟩ : ∃ N, N = T.length := ⟨_, rfl⟩
        have hN8 : N ≤ 8000 := by rw [hN, hT]; omega
        have HC := Lib.hid (r8Text_any w3 A C n p ca cp L l (HL.out.1.below HB2.out) (HP.out.below HB2.out) (by omega))
        rw [← hT, ← hN] at HC
        have HT := Lib.hid hT
        have HN2 := Lib.hid hN
        clear htx hT hN
        go_wp2_with fail
        refine HC.out.mono ?_
        rintro e w4 ⟨v4, rfl, ho4, hb4⟩
        obtain ⟨X4, x4, hv4, hc4⟩ := own_cap ho4
        subst hv4
        have HI4 := Lib.hid (BytesIn.own ho4 (by unfold maxLen; omega))
        have HB4 := Lib.hid (below_then HB2.out hb4 HB2.out.size)
        have HK4 := Lib.hid (HK.out.below HK2.out hb4)
        clear ho4 hb4 HC
        obtain ⟨R, hR⟩ : ∃ R, R = chUp L s l p := ⟨_, rfl⟩
        have HC := Lib.hid (chances_is HK.out HK4.out HR.out B C m p cb cp s l (HS.out.1.below HB4.out) (HP.out.below HB4.out) hcb (by omega) hp5 hR.symm)
        have hR8 : R.length ≤ 8000 := by rw [hR]; exact ch_few HR.out s l hp5
        have HRR := Lib.hid hR
        clear hR
        go_wp2_with fail
        refine HC.out.mono ?_
        rintro e w5 ⟨X5, x5, rfl, hi5, hb5⟩
        have HI5 := Lib.hid hi5
        have HB5 := Lib.hid (below_then HB4.out hb5 HB4.out.size)
        have HT5 := Lib.hid (HI4.out.below hb5)
        clear hi5 hb5 HC
        have HS5 := Lib.hid (HS.out.1.below HB5.out)
        go_wp2
        go_loopw [11, 12] (fun c i wr => ∃ k : Nat, k ≤ N ∧ i = .int .i64 k ∧ c = .int .i64 (upTo R k) ∧ Below w5.heap.size w5 wr) (fun _ i _ => N - (intOf i).toNat)
        case atStart => exact ⟨0, by omega, rfl, by rw [show ((0 : Nat) : Int) = 0 from rfl, upTo_zero (by rw [HRR.out]; exact fun y hy => (ch_under y hy).1)]; rfl, Below.refl _ _⟩
        case round =>
          obtain ⟨k, hk, rfl, rfl, hB⟩ := hrel
          have HB := Lib.hid hB
          have hcl := upTo_le R (k : Int)
          clear hB
          rcases Nat.lt_or_ge k N with hlt | hge
          · have hlt' : (k : Int) < (N : Int) := by omega
            have p0 : (0 : Int) ≤ (k : Int) := by omega
            have hw5 : IntKind.i64.wrap ((k : Int) + 1) = (k : Int) + 1 := IntWalk.i64_in _ (by omega)
            obtain ⟨c, hc⟩ : ∃ c, c = upTo R (k : Int) := ⟨_, rfl⟩
            rw [← hc] at hcl ⊢
            have c0 : (0 : Int) ≤ (c : Int) := by omega
            obtain ⟨E, hE⟩ : ∃ E, E = k + m := ⟨_, rfl⟩
            have hwE : IntKind.i64.wrap ((k : Int) + (m : Int)) = (E : Int) := by rw [show (k : Int) + (m : Int) = (E : Int) by omega]; exact IntWalk.i64_in _ (by omega)
            have HC := Lib.hid hc
            clear hc
            have hTl : T.length = N := HN2.out.symm
            have HSr := Lib.hid (HS5.out.below HB.out)
            have HTr := Lib.hid (HT5.out.below HB.out)
            have HIr := Lib.hid (HI5.out.below HB.out)
            have cv2 : ∀ q, (convert 23 9 (.slice B m cb)).run Try.prog (wr.drewN q) = .ok (.string ⟨s.toArray⟩) (wr.drewN q) := fun q => str_of (HSr.out.drewN q) cb
            have hkE : k ≤ E := by omega
            have hEm : E - k = m := by omega
            have HE := Lib.hid hE
            clear hE hTl
            by_cases hin : (k : Int) ∈ R
            · obtain ⟨q1, q2⟩ := upTo_hit (by rw [HRR.out]; exact ch_rises L s l p) hin
              rw [← HC.out] at q1 q2
              have hclt := (List.getElem?_eq_some_iff.1 q1).1
              have d3 : decide ((c : Int) < (R.length : Int)) = true := by simpa using hclt
              have d3n : decide (c < R.length) = true := by simpa using hclt
              have hcli : (c : Int) < (R.length : Int) := by omega
              have hw6 : IntKind.i64.wrap ((c : Int) + 1) = (c : Int) + 1 := IntWalk.i64_in _ (by omega)
              obtain ⟨pr, y, rfl, hy, r0, -, -⟩ := HIr.out.at c hclt
              obtain rfl : (k : Int) = y := by rw [q1] at hy; exact Option.some.inj hy
              have r0' : ∀ q, (wr.drewN q).cell? (pr.add c) = some (.int .i64 (k : Int)) := fun _ => r0
              obtain ⟨h1, h2⟩ := hit_head (by rw [← HRR.out]; exact hin)
              rw [← HT.out] at h1 h2
              obtain ⟨pt, x, rfl, hx, t0⟩ := HTr.out.at k hlt
              obtain ⟨ps, x', rfl, hx', s0⟩ := HSr.out.at 0 (by omega)
              obtain rfl : x = x' := by rw [hx, hx'] at h2; exact Option.some.inj h2
              have t0' : ∀ q, (wr.drewN q).cell? (pt.add k) = some (.int .u8 x.toNat) := fun _ => t0
              have s0' : ∀ q, (wr.drewN q).cell? (ps.add 0) = some (.int .u8 x.toNat) := fun _ => s0
              have s1' : ∀ q, (wr.drewN q).cell? ps = some (.int .u8 x.toNat) := fun _ => by have := s0; simpa [Addr.add] using this
              have m0 : (0 : Int) < (m : Int) := by omega
              have dke : ((k : Int) == (k : Int)) = true := by simp
              have dxe : ((x.toNat : Int) != (x.toNat : Int)) = false := by simp
              have HQ2 := Lib.hid q2
              clear q1 q2 hy h1 h2 hx hx' hin
              go_wp2_with fail
              go_quiet (fail)
              have HBP := Lib.hid (fun z => below_drewN HB.out (nq + z))
              by_cases hf : E ≤ N
              · have d5 : decide ((E : Int) ≤ (N : Int)) = true := decide_eq_true (by omega)
                have d5n : decide (E ≤ N) = true := decide_eq_true hf
                have d5i : (E : Int) ≤ (N : Int) := by omega
                have hsl := fun w => slice_both w (some pt) N x4 k E hkE (by omega)
                rw [hEm] at hsl
                have hpart := HTr.out.sub hc4 k E hkE hf
                rw [hEm] at hpart
                have HPART := Lib.hid hpart
                obtain ⟨Y, hY⟩ : ∃ Y, Y = (T.take E).drop k := ⟨_, rfl⟩
                rw [← hY] at HPART
                have cv1 : ∀ q, (convert 23 9 (.slice (cutAddr (some pt) k x4) m (x4 - k))).run Try.prog (wr.drewN q) = .ok (.string ⟨Y.toArray⟩) (wr.drewN q) := fun q => str_of (HPART.out.drewN q) _
                have HY := Lib.hid hY
                clear hY hpart
                cases hq : decide (Y = s) with
                | true =>
                  have heq := eqStr Y s hq
                  have hYs := of_decide_eq_true hq
                  have hYb : (Y == s) = true := by simp [hYs]
                  clear hq hYs
                  go_wp2_with fail
                  go_quiet (fail)
                  have HBQ := Lib.hid (HBP.out nq)
                  go_wp2
                  go_roundw
                  case rel => exact ⟨k + 1, by omega, by go_num, by rw [show ((k + 1 : Nat) : Int) = (k : Int) + 1 by omega, HQ2.out]; go_num, HBQ.out⟩
                  case measure => simp [intOf]; omega
                | false =>
                  have heq := eqStr Y s hq
                  have hYs := of_decide_eq_false hq
                  have hYb : (Y == s) = false := by simp [hYs]
                  clear hq
                  go_wp2_with fail
                  go_quiet (fail)
                  have HBQ := Lib.hid (HBP.out nq)
                  go_wp2
                  go_roundw
                  case rel => exact ⟨k + 1, by omega, by go_num, by rw [show ((k + 1 : Nat) : Int) = (k : Int) + 1 by omega, HQ2.out]; go_num, HBQ.out⟩
                  case measure => simp [intOf]; omega
              · have d5 : decide ((E : Int) ≤ (N : Int)) = false := decide_eq_false (by omega)
                have d5n : decide (E ≤ N) = false := decide_eq_false hf
                have d5i : ¬ (E : Int) ≤ (N : Int) := by omega
                go_wp2_with fail
                go_quiet (fail)
                have HBQ := Lib.hid (HBP.out nq)
                go_wp2
                go_roundw
                case rel => exact ⟨k + 1, by omega, by go_num, by rw [show ((k + 1 : Nat) : Int) = (k : Int) + 1 by omega, HQ2.out]; go_num, HBQ.out⟩
                case measure => simp [intOf]; omega
            · have q2 := upTo_miss hin
              rw [← HC.out] at q2
              have HQ2 := Lib.hid q2
              have HNO := Lib.hid hin
              clear q2
              by_cases hclt : c < R.length
              · have d3 : decide ((c : Int) < (R.length : Int)) = true := by simpa using hclt
                have d3n : decide (c < R.length) = true := by simpa using hclt
                have hcli : (c : Int) < (R.length : Int) := by omega
                obtain ⟨pr, y, rfl, hy, r0, -, -⟩ := HIr.out.at c hclt
                have hyk : y ≠ (k : Int) := fun e => hin (e ▸ List.mem_of_getElem? hy)
                have r0' : ∀ q, (wr.drewN q).cell? (pr.add c) = some (.int .i64 y) := fun _ => r0
                have dke : (y == (k : Int)) = false := by simpa using hyk
                clear hy hin hyk
                by_cases hf : E ≤ N
                · have d5 : decide ((E : Int) ≤ (N : Int)) = true := decide_eq_true (by omega)
                  have d5n : decide (E ≤ N) = true := decide_eq_true hf
                  have d5i : (E : Int) ≤ (N : Int) := by omega
                  have hsl := fun w => slice_both w X4 N x4 k E hkE (by omega)
                  rw [hEm] at hsl
                  have hpart := HTr.out.sub hc4 k E hkE hf
                  rw [hEm] at hpart
                  have HPART := Lib.hid hpart
                  obtain ⟨Y, hY⟩ : ∃ Y, Y = (T.take E).drop k := ⟨_, rfl⟩
                  rw [← hY] at HPART
                  have cv1 : ∀ q, (convert 23 9 (.slice (cutAddr X4 k x4) m (x4 - k))).run Try.prog (wr.drewN q) = .ok (.string ⟨Y.toArray⟩) (wr.drewN q) := fun q => str_of (HPART.out.drewN q) _
                  have HY := Lib.hid hY
                  clear hY hpart
                  have hne : decide (Y = s) = false := decide_eq_false fun e => HNO.out (by
                    rw [HRR.out]
                    refine miss_hit (by have := HSL.out; omega) (by rw [← HT.out]; have := HSL.out; have := HN2.out; have := HE.out; omega) ?_
                    rw [← HT.out, HSL.out, ← HE.out, ← HY.out]
                    exact e)
                  have heq := eqStr Y s hne
                  have hYs := of_decide_eq_false hne
                  have hYb : (Y == s) = false := by simp [hYs]
                  clear hne
                  go_wp2_with fail
                  go_quiet (fail)
                  have HBQ := Lib.hid (below_drewN HB.out nq)
                  go_wp2
                  go_roundw
                  case rel => exact ⟨k + 1, by omega, by go_num, by rw [show ((k + 1 : Nat) : Int) = (k : Int) + 1 by omega, HQ2.out], HBQ.out⟩
                  case measure => simp [intOf]; omega
                · have d5 : decide ((E : Int) ≤ (N : Int)) = false := decide_eq_false (by omega)
                  have d5n : decide (E ≤ N) = false := decide_eq_false hf
                  have d5i : ¬ (E : Int) ≤ (N : Int) := by omega
                  go_wp2_with fail
                  go_quiet (fail)
                  have HBQ := Lib.hid (below_drewN HB.out nq)
                  go_wp2
                  go_roundw
                  case rel => exact ⟨k + 1, by omega, by go_num, by rw [show ((k + 1 : Nat) : Int) = (k : Int) + 1 by omega, HQ2.out], HBQ.out⟩
                  case measure => simp [intOf]; omega
              · have d3 : decide ((c : Int) < (R.length : Int)) = false := by simpa using hclt
                have d3n : decide (c < R.length) = false := by simpa using hclt
                have hcli : ¬ (c : Int) < (R.length : Int) := by omega
                clear hin
                by_cases hf : E ≤ N
                · have d5 : decide ((E : Int) ≤ (N : Int)) = true := decide_eq_true (by omega)
                  have d5n : decide (E ≤ N) = true := decide_eq_true hf
                  have d5i : (E : Int) ≤ (N : Int) := by omega
                  have hsl := fun w => slice_both w X4 N x4 k E hkE (by omega)
                  rw [hEm] at hsl
                  have hpart := HTr.out.sub hc4 k E hkE hf
                  rw [hEm] at hpart
                  have HPART := Lib.hid hpart
                  obtain ⟨Y, hY⟩ : ∃ Y, Y = (T.take E).drop k := ⟨_, rfl⟩
                  rw [← hY] at HPART
                  have cv1 : ∀ q, (convert 23 9 (.slice (cutAddr X4 k x4) m (x4 - k))).run Try.prog (wr.drewN q) = .ok (.string ⟨Y.toArray⟩) (wr.drewN q) := fun q => str_of (HPART.out.drewN q) _
                  have HY := Lib.hid hY
                  clear hY hpart
                  have hne : decide (Y = s) = false := decide_eq_false fun e => HNO.out (by
                    rw [HRR.out]
                    refine miss_hit (by have := HSL.out; omega) (by rw [← HT.out]; have := HSL.out; have := HN2.out; have := HE.out; omega) ?_
                    rw [← HT.out, HSL.out, ← HE.out, ← HY.out]
                    exact e)
                  have heq := eqStr Y s hne
                  have hYs := of_decide_eq_false hne
                  have hYb : (Y == s) = false := by simp [hYs]
                  clear hne
                  go_wp2_with fail
                  go_quiet (fail)
                  have HBQ := Lib.hid (below_drewN HB.out nq)
                  go_wp2
                  go_roundw
                  case rel => exact ⟨k + 1, by omega, by go_num, by rw [show ((k + 1 : Nat) : Int) = (k : Int) + 1 by omega, HQ2.out], HBQ.out⟩
                  case measure => simp [intOf]; omega
                · have d5 : decide ((E : Int) ≤ (N : Int)) = false := decide_eq_false (by omega)
                  have d5n : decide (E ≤ N) = false := decide_eq_false hf
                  have d5i : ¬ (E : Int) ≤ (N : Int) := by omega
                  go_wp2_with fail
                  go_quiet (fail)
                  have HBQ := Lib.hid (below_drewN HB.out nq)
                  go_wp2
                  go_roundw
                  case rel => exact ⟨k + 1, by omega, by go_num, by rw [show ((k + 1 : Nat) : Int) = (k : Int) + 1 by omega, HQ2.out], HBQ.out⟩
                  case measure => simp [intOf]; omega
          · have hge' : ¬ (k : Int) < (N : Int) := by omega
            have hend : upTo R (k : Int) = R.length := by
              obtain rfl : k = N := by omega
              rw [HRR.out]
              refine upTo_end fun y hy => ?_
              have := (ch_under y hy).2
              rw [← HT.out, ← HN2.out] at this
              exact this
            rw [hend]
            have d4 : ((R.length : Int) == (R.length : Int)) = true := by simp
            have HFIN := Lib.hid (below_then HB5.out HB.out HB5.out.size)
            clear hend hcl
            go_wp2
            go_ret
            exact ⟨rfl, HFIN.out⟩
end Go.Proofs.Ytjnbilcanfhkjaa
