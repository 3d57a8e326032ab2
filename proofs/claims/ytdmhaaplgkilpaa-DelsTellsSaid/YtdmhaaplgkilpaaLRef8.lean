/- The document's SameNums. -/
import Derived.Test.YtdmhaaplgkilpaaLWordsB
namespace Go.Proofs.Ytdmhaaplgkilpaa
open Go.RowKit Go.Maps Go.WideMaps

set_option maxHeartbeats 4000000 in
set_option maxRecDepth 100000 in
theorem r3Same_any (w : World) (A B : Option Addr) (n m ca cb : Nat) (la lb : List Int) (ha : IntsIn w A n la) (hb : IntsIn w B m lb) :
    Calls Try.prog 11 #[.slice A n ca, .slice B m cb] w fun e w' => e = .returned (.bool (decide (la = lb))) ∧ ∃ q, w' = w.drewN q := by
  have HA := Lib.hid ha
  have HB := Lib.hid hb
  have HLA := Lib.hid ha.len
  have HLB := Lib.hid hb.len
  have hn63 : n ≤ 9223372036854775807 := ha.1
  clear ha hb
  by_cases hnm : n = m
  · subst hnm
    have d0 : (((n : Nat) : Int) != ((n : Nat) : Int)) = false := by simp
    obtain ⟨R, hR⟩ : ∃ R, R = decide (la = lb) := ⟨_, rfl⟩
    rw [← hR]
    have HR := Lib.hid hR
    clear hR
    go_enter Try.func11, Try.ntmps11
    go_wp2
    go_loopw [5] (fun i wr => ∃ k q : Nat, k ≤ n ∧ i = .int .i64 k ∧ la.take k = lb.take k ∧ wr = w.drewN q) (fun i _ => n - (intOf i).toNat)
    case atStart => exact ⟨0, 0, by omega, rfl, rfl, rfl⟩
    case round =>
      obtain ⟨k, q, hk, rfl, ht, rfl⟩ := hrel
      have HT := Lib.hid ht
      clear ht
      rcases Nat.lt_or_ge k n with hlt | hge
      · have hlt' : (k : Int) < (n : Int) := by omega
        have p0 : (0 : Int) ≤ (k : Int) := by omega
        obtain ⟨pa, xa, rfl, hxa, ca', -, -⟩ := HA.out.at k hlt
        obtain ⟨pb, xb, rfl, hxb, cb', -, -⟩ := HB.out.at k hlt
        have HXA := Lib.hid hxa
        have HXB := Lib.hid hxb
        clear hxa hxb
        by_cases hx : xa = xb
        · subst hx
          go_wp2_with fail
          go_quiet (fail)
          go_wp2
          go_roundw
          case rel => exact ⟨k + 1, _, by omega, by go_num, by rw [take_snoc HXA.out, take_snoc HXB.out, HT.out], rfl⟩
          case measure => simp [intOf]; omega
        · have d1 : (xa != xb) = true := by simpa using hx
          have hne : ¬ la = lb := fun e => hx (by
            have h1 := HXA.out
            rw [e, HXB.out] at h1
            exact (Option.some.inj h1).symm)
          have HNE := Lib.hid hne
          clear hne hx
          go_wp2_with fail
          go_quiet (fail)
          go_wp2
          go_ret
          refine ⟨?_, _, World.drewN_drewN _ _ _⟩
          rw [HR.out, decide_eq_false HNE.out]
          rfl
      · obtain rfl : k = n := by omega
        have hlz : ¬ ((k : Int) < (k : Int)) := by omega
        have heq : la = lb := by
          have h1 := HT.out
          rwa [List.take_of_length_le (by rw [HLA.out]; exact Nat.le_refl _), List.take_of_length_le (by rw [HLB.out]; exact Nat.le_refl _)] at h1
        have HEQ := Lib.hid heq
        clear heq
        go_wp2
        go_ret
        refine ⟨?_, _, rfl⟩
        rw [HR.out, decide_eq_true HEQ.out]
        rfl
  · have d0 : (((n : Nat) : Int) != ((m : Nat) : Int)) = true := by simpa using fun e => hnm (by omega)
    have hne : ¬ la = lb := fun e => hnm (by rw [← HLA.out, ← HLB.out, e])
    rw [decide_eq_false hne]
    clear hne hnm
    go_enter Try.func11, Try.ntmps11
    go_wp2
    go_ret
    exact ⟨rfl, 0, rfl⟩
end Go.Proofs.Ytdmhaaplgkilpaa
