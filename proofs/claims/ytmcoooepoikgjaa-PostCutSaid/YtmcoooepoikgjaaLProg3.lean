/- The contract of the program's PutRising. -/
import Derived.Test.YtmcoooepoikgjaaLProg1
import Derived.Test.YtmcoooepoikgjaaLRef3
namespace Go.Proofs.Ytmcoooepoikgjaa
open Go.RowKit Go.Maps Go.WideMaps

set_option maxHeartbeats 4000000 in
set_option maxRecDepth 100000 in
theorem lPutRising_any (w : World) (A : Option Addr) (n c : Nat) (l : List Int) (hl : IntsIn w A n l) (hn : n ≤ 1099511627776) :
    Calls Try.prog 41 #[.slice A n c] w (PutROut w l) := by
  have HL := Lib.hid hl
  have HLN := Lib.hid hl.len
  have HLX := Lib.hid (fun x hx => (hl.2.2.1 x hx).2)
  clear hl
  go_enter Try.func41, Try.ntmps41
  go_wp2_with fail
  refine (lPut_any w n (by omega)).mono ?_
  rintro e w1 ⟨v1, rfl, hO, hB⟩
  have HO := Lib.hid hO
  have HB := Lib.hid hB
  clear hO hB
  go_wp2
  go_loopw [4, 5, 14] (fun v p i wr => ∃ (k : Nat) (la : Int), k ≤ n ∧ i = .int .i64 k ∧ p = .int .i64 la ∧ la = (l.take k).getLastD (-1) ∧ la ≤ 9223372036854775807 ∧ rises (-1) (l.take k) = true ∧ Below w.heap.size w wr ∧ wr.ownsRow w.heap.size 5 1 v (putUp l k).length ((putUp l k).map byteV)) (fun _ _ i _ => n - (intOf i).toNat)
  case atStart => exact ⟨0, -1, by omega, rfl, rfl, rfl, by omega, rfl, HB.out, by have := HO.out; rw [← HLN.out] at this; simpa [putUp, gaps, putGaps] using this⟩
  case round =>
    clear HO HB
    obtain ⟨k, la, hk, rfl, rfl, hla, hla2, hr, hB, hO⟩ := hrel
    have HR := Lib.hid hr
    have HO := Lib.hid hO
    have HB := Lib.hid hB
    have HLA := Lib.hid hla
    clear hr hO hB hla
    rcases Nat.lt_or_ge k n with hlt | hge
    · have hlt' : (k : Int) < (n : Int) := by omega
      obtain ⟨Av, cv, hv⟩ := own_slice HO.out
      subst hv
      obtain ⟨ad, x, rfl, hx, hcx, hx1, hx2⟩ := (HL.out.below HB.out).at k hlt
      have HX := Lib.hid hx
      clear hx
      have hul := putUp_len (by rw [HLN.out]; exact hk) HR.out HLX.out (by rw [HLN.out]; omega)
      have hlast := rises_last _ _ HR.out
      rw [← HLA.out] at hlast
      by_cases hle : x ≤ la
      · have hbad : rises (-1) l = false := by
          cases h : rises (-1) l with
          | false => rfl
          | true =>
            have h1 := rises_prefix (l.take (k + 1)) (l.drop (k + 1)) (-1) (by rw [List.take_append_drop]; exact h)
            rw [take_snoc HX.out, rises_snoc, ← HLA.out] at h1
            simp only [Bool.and_eq_true, decide_eq_true_eq] at h1
            omega
        have HBAD := Lib.hid hbad
        clear hbad hul
        go_wp2
        go_ret2
        exact ⟨_, _, rfl, HB.out, .inr ⟨HBAD.out, rfl, rfl⟩⟩
      · have hs1 : IntKind.i64.wrap (la + 1) = la + 1 := IntWalk.i64_in _ (by omega)
        have hs2 : IntKind.i64.wrap (x - (la + 1)) = x - (la + 1) := IntWalk.i64_in _ (by omega)
        obtain ⟨g, hg⟩ : ∃ g : Nat, x - (la + 1) = (g : Int) := ⟨(x - (la + 1)).toNat, by omega⟩
        have hwr : IntKind.u64.wrap (x - (la + 1)) = (g : Int) := by rw [hg, IntKind.wrap_u64]; omega
        have hgm : g < 9223372036854775808 := by omega
        have hG : (x - (l.take k).getLastD (-1) - 1).toNat = g := by rw [← HLA.out]; omega
        have hLT : decide ((l.take k).getLastD (-1) < x) = true := by rw [← HLA.out]; simp; omega
        have HG := Lib.hid hG
        have HLT := Lib.hid hLT
        have hyl : (putUp l k).length ≤ 70368744177664 := by omega
        have hup : putUp l (k + 1) = putUp l k ++ putL g := by
          unfold putUp
          rw [take_snoc HX.out, gaps_snoc, putGaps_snoc, HG.out, List.append_assoc]
        have HUP := Lib.hid hup
        clear hG hLT hg hup hul
        go_wp2_with fail
        refine (lAdd_any wr w.heap.size HB.out.size (.slice Av (putUp l k).length cv) (putUp l k) hyl HO.out g (by omega)).mono ?_
        rintro e w2 ⟨v2, rfl, hO2, hB2⟩
        have HO2 := Lib.hid hO2
        have HB2 := Lib.hid (HB.out.trans hB2)
        clear hO2 hB2
        go_wp2
        go_roundw
        case rel =>
          refine ⟨k + 1, x, by omega, by go_num, rfl, ?_, by omega, ?_, HB2.out, ?_⟩
          · rw [take_snoc HX.out, List.getLastD_concat]
          · rw [take_snoc HX.out, rises_snoc, HR.out, HLT.out]
            rfl
          · rw [HUP.out]
            exact HO2.out
        case measure => simp [intOf]; omega
    · obtain rfl : k = n := by omega
      have hlz : ¬ ((k : Int) < (k : Int)) := by omega
      have htk : l.take k = l := List.take_of_length_le (by rw [HLN.out]; exact Nat.le_refl _)
      go_wp2
      go_ret2
      refine ⟨_, _, rfl, HB.out, .inl ⟨?_, rfl, ?_⟩⟩
      · rw [← htk]; exact HR.out
      · have := HO.out
        unfold putUp at this
        rw [htk] at this
        exact this
end Go.Proofs.Ytmcoooepoikgjaa
