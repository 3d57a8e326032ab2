/- The contract of the document's PutRising. -/
import Derived.Test.YtkligdaademakaaLWordsB
import Derived.Test.YtkligdaademakaaLRef1
import Derived.Test.YtkligdaademakaaLMath2
import Derived.Test.YtkligdaademakaaKInts
namespace Go.Proofs.Ytkligdaademakaa
open Go.RowKit Go.Maps Go.WideMaps

set_option maxHeartbeats 4000000 in
set_option maxRecDepth 100000 in
theorem r3PutRising_any (w : World) (A : Option Addr) (n c : Nat) (l : List Int) (hl : IntsIn w A n l) (hn : n ≤ 1099511627776) :
    Calls Try.prog 58 #[.slice A n c] w (PutROut w l) := by
  obtain ⟨i0, hi, hz0, hz1, hz2⟩ := info_parts byteInfo
  have HL := Lib.hid hl
  have HLN := Lib.hid hl.len
  have HLX := Lib.hid (fun x hx => (hl.2.2.1 x hx).2)
  clear hl
  go_enter Try.func58, Try.ntmps58
  go_wp2_with fail
  refine (r3Put_any w n (by omega)).mono ?_
  rintro e w1 ⟨v1, rfl, hO, hB⟩
  have HO := Lib.hid hO
  have HB := Lib.hid hB
  clear hO hB
  go_wp2
  go_loopw [4, 5] (fun v i wr => ∃ k : Nat, k ≤ n ∧ i = .int .i64 k ∧ rises (-1) (l.take k) = true ∧ Below w.heap.size w wr ∧ wr.ownsRow w.heap.size 5 1 v (putUp l k).length ((putUp l k).map byteV)) (fun _ i _ => n - (intOf i).toNat)
  case atStart => exact ⟨0, by omega, rfl, rfl, HB.out, by have := HO.out; rw [← HLN.out] at this; simpa [putUp, gaps, putGaps] using this⟩
  case round =>
    clear HO HB
    obtain ⟨k, hk, rfl, hr, hB, hO⟩ := hrel
    have HR := Lib.hid hr
    have HO := Lib.hid hO
    have HB := Lib.hid hB
    clear hr hO hB
    rcases Nat.lt_or_ge k n with hlt | hge
    · have hlt' : (k : Int) < (n : Int) := by omega
      obtain ⟨Av, cv, hv⟩ := own_slice HO.out
      subst hv
      obtain ⟨ad, x, rfl, hx, hcx, hx1, hx2⟩ := (HL.out.below HB.out).at k hlt
      have HX := Lib.hid hx
      clear hx
      have hpos : (0 : Int) ≤ (k : Int) := by omega
      have hul := putUp_len (by rw [HLN.out]; exact hk) HR.out HLX.out (by rw [HLN.out]; omega)
      have hlast := rises_last _ _ HR.out
      by_cases hneg : x < 0
      · have hbad : rises (-1) l = false := by
          cases h : rises (-1) l with
          | false => rfl
          | true =>
            have h1 := rises_prefix (l.take (k + 1)) (l.drop (k + 1)) (-1) (by rw [List.take_append_drop]; exact h)
            rw [take_snoc HX.out, rises_snoc] at h1
            simp only [Bool.and_eq_true, decide_eq_true_eq] at h1
            omega
        have HBAD := Lib.hid hbad
        clear hbad hlast hul
        go_wp2_with fail
        go_quiet (fail)
        go_wp2
        go_ret2
        exact ⟨_, _, rfl, below_drewN HB.out _, .inr ⟨HBAD.out, rfl, rfl⟩⟩
      have hneg' : ¬ x < 0 := hneg
      by_cases hk0 : k = 0
      · have hk0z : ¬ (0 : Int) < (k : Int) := by omega
        have hk0n : ¬ 0 < k := by omega
        have d1 : decide (x < 0) = false := by simpa using hneg
        have d2 : decide (0 < k) = false := by simpa using hk0n
        obtain ⟨g, hg⟩ : ∃ g : Nat, x = g := ⟨x.toNat, by omega⟩
        have hG : (x - (l.take k).getLastD (-1) - 1).toNat = g := by rw [hk0, hg]; simp
        have hLT : decide ((l.take k).getLastD (-1) < x) = true := by rw [hk0]; simp; omega
        have hgm : g < 9223372036854775808 := by omega
        have hwr : IntKind.u64.wrap x = (g : Int) := by rw [hg, IntKind.wrap_u64]; omega
        clear hg
        have HG := Lib.hid hG
        have HLT := Lib.hid hLT
        clear hG hLT hk0 hlast hneg hneg'
        go_wp2_with fail
        go_quiet (fail)
        go_wp2_with fail
        refine (r3Put_any _ g (by omega)).mono ?_
        rintro e w2 ⟨v2, rfl, hO2, hB2⟩
        obtain ⟨A2, c2, hv2⟩ := own_slice hO2
        subst hv2
        have HB2 := Lib.hid (below_then (below_drewN HB.out _) hB2 HB.out.size)
        have HS2 := Lib.hid (src_of_own hO2)
        have HO2 := Lib.hid (ownsRow_block HO.out fun j hj => hB2.block j (HO.out.lt j hj).2)
        have hgl := putL_len g (by omega)
        clear hO2 hB2
        go_wp2_with (at_builtin; refine wpList_append_src _ rfl (.tmp 57) (.tmp 59) 46 rfl w.heap.size 5 i0 (.int .u8 0) 1 Try.underlying46 hi hz0 hz1 hz2 rfl _ _ _ rfl HO2.out A2 _ c2 _ rfl HS2.out (u8_one _) (by unfold maxLen; omega) (by omega) HB2.out.size ?_; intro v3 w3 hown hgrow _)
        have HO3 := Lib.hid hown
        have HB3 := Lib.hid (HB2.out.grown hgrow HB2.out.size (fun j hj => (HO2.out.lt j hj).1))
        clear hown hgrow
        have hup : putUp l (k + 1) = putUp l k ++ putL g := by
          unfold putUp
          rw [take_snoc HX.out, gaps_snoc, putGaps_snoc, HG.out, List.append_assoc]
        have HUP := Lib.hid hup
        clear hup hul hgl
        go_roundw
        case rel =>
          refine ⟨k + 1, by omega, by go_num, ?_, HB3.out, ?_⟩
          · rw [take_snoc HX.out, rises_snoc, HR.out, HLT.out]
            rfl
          · rw [HUP.out, List.length_append, List.map_append]
            exact HO3.out
        case measure => simp [intOf]; omega
      · have hk0z : (0 : Int) < (k : Int) := by omega
        have hk0n : 0 < k := by omega
        have d1 : decide (x < 0) = false := by simpa using hneg
        have d2 : decide (0 < k) = true := by simpa using hk0n
        obtain ⟨J, hJ⟩ : ∃ J, J = k - 1 := ⟨_, rfl⟩
        have hJz : (k : Int) - 1 = (J : Int) := by omega
        have hJn : (J : Int) < (n : Int) := by omega
        obtain ⟨ad', y, had, hy, hcy, hy1, hy2⟩ := (HL.out.below HB.out).at J (by omega)
        cases had
        have hla : (l.take k).getLastD (-1) = y := by
          rw [show k = J + 1 by omega]
          exact last_take hy _
        have hy0 : 0 ≤ y := by
          have h1 := HR.out
          rw [show k = J + 1 by omega, take_snoc hy, rises_snoc] at h1
          simp only [Bool.and_eq_true, decide_eq_true_eq] at h1
          have h2 := rises_last _ _ h1.1
          omega
        clear hJ hy hlast
        by_cases hle : x ≤ y
        · have hbad : rises (-1) l = false := by
            cases h : rises (-1) l with
            | false => rfl
            | true =>
              have h1 := rises_prefix (l.take (k + 1)) (l.drop (k + 1)) (-1) (by rw [List.take_append_drop]; exact h)
              rw [take_snoc HX.out, rises_snoc, hla] at h1
              simp only [Bool.and_eq_true, decide_eq_true_eq] at h1
              omega
          have HBAD := Lib.hid hbad
          have d3 : decide (x ≤ y) = true := by simpa using hle
          clear hbad hul hla
          go_wp2_with fail
          go_quiet (fail)
          go_wp2
          go_ret2
          exact ⟨_, _, rfl, below_drewN HB.out _, .inr ⟨HBAD.out, rfl, rfl⟩⟩
        · have d3 : decide (x ≤ y) = false := by simpa using hle
          have hs1 : IntKind.i64.wrap (x - y) = x - y := IntWalk.i64_in _ (by omega)
          obtain ⟨g, hg⟩ : ∃ g : Nat, x - y - 1 = (g : Int) := ⟨(x - y - 1).toNat, by omega⟩
          have hwr : IntKind.u64.wrap (x - y - 1) = (g : Int) := by rw [hg, IntKind.wrap_u64]; omega
          have hs2 : IntKind.i64.wrap (x - y - 1) = x - y - 1 := IntWalk.i64_in _ (by omega)
          have hgm : g < 9223372036854775808 := by omega
          have hG : (x - (l.take k).getLastD (-1) - 1).toNat = g := by rw [hla]; omega
          have hLT : decide ((l.take k).getLastD (-1) < x) = true := by rw [hla]; simp; omega
          have HG := Lib.hid hG
          have HLT := Lib.hid hLT
          clear hG hLT hla hg hle
          go_wp2_with fail
          go_quiet (fail)
          go_wp2_with fail
          go_quiet (fail)
          go_wp2_with fail
          refine (r3Put_any _ g (by omega)).mono ?_
          rintro e w2 ⟨v2, rfl, hO2, hB2⟩
          obtain ⟨A2, c2, hv2⟩ := own_slice hO2
          subst hv2
          have HB2 := Lib.hid (below_then (below_drewN HB.out _) hB2 HB.out.size)
          have HS2 := Lib.hid (src_of_own hO2)
          have HO2 := Lib.hid (ownsRow_block HO.out fun j hj => hB2.block j (HO.out.lt j hj).2)
          have hgl := putL_len g (by omega)
          clear hO2 hB2
          go_wp2_with (at_builtin; refine wpList_append_src _ rfl (.tmp 57) (.tmp 59) 46 rfl w.heap.size 5 i0 (.int .u8 0) 1 Try.underlying46 hi hz0 hz1 hz2 rfl _ _ _ rfl HO2.out A2 _ c2 _ rfl HS2.out (u8_one _) (by unfold maxLen; omega) (by omega) HB2.out.size ?_; intro v3 w3 hown hgrow _)
          have HO3 := Lib.hid hown
          have HB3 := Lib.hid (HB2.out.grown hgrow HB2.out.size (fun j hj => (HO2.out.lt j hj).1))
          clear hown hgrow
          have hup : putUp l (k + 1) = putUp l k ++ putL g := by
            unfold putUp
            rw [take_snoc HX.out, gaps_snoc, putGaps_snoc, HG.out, List.append_assoc]
          have HUP := Lib.hid hup
          clear hup hul hgl
          go_roundw
          case rel =>
            refine ⟨k + 1, by omega, by go_num, ?_, HB3.out, ?_⟩
            · rw [take_snoc HX.out, rises_snoc, HR.out, HLT.out]
              rfl
            · rw [HUP.out, List.length_append, List.map_append]
              exact HO3.out
          case measure => simp [intOf]; omega
    · obtain rfl : k = n := by omega
      have hlz : ¬ ((k : Int) < (k : Int)) := by omega
      have htk : l.take k = l := List.take_of_length_le (by rw [HLN.out]; exact Nat.le_refl _)
      go_wp2
      go_ret2
      refine ⟨_, _, rfl, HB.out, .inl ⟨?_, rfl, ?_⟩⟩
      · rw [← htk]; exact HR.out
      · have := HO.out
        unfold putUp at this
        rw [htk] at this
        exact this
end Go.Proofs.Ytkligdaademakaa

