/- The document's Same. -/
import Derived.Test.YtmnofmcfkchebaaPRef2
import Derived.Test.YtmnofmcfkchebaaPPlain
namespace Go.Proofs.Ytmnofmcfkchebaa
open Go.RowKit Go.Maps Go.WideMaps
set_option linter.unusedSimpArgs false

theorem r9SameSpots_quiet {w : World} (A B : Option Addr) (n m ca cb : Nat) (a b : List (Int × Int)) (ha : PairsIn w A n a) (hb : PairsIn w B m b) {r : Bool} (h : decide (a = b) = r) {q z : Nat} :
    Calls Try.prog 24 #[.slice A n ca, .slice B m cb] (w.drewN (q + z)) fun e w'' => e = .returned (.bool r) ∧ ∃ m, w'' = w.drewN (q + m) := by
  have h1 := r9SameSpots_any (w.drewN (q + z)) A B n m ca cb a b (ha.drewN _) (hb.drewN _)
  rw [h] at h1
  exact h1.mono fun e w'' ⟨he, q2, hw⟩ => ⟨he, z + q2, by rw [hw, World.drewN_drewN, Nat.add_assoc]⟩

set_option maxHeartbeats 4000000 in
set_option maxRecDepth 100000 in
theorem r9Same_any (w : World) (A B : Option Addr) (n m ca cb : Nat) (a b : List Pst) (ha : PostsSee w A n a) (hb : PostsSee w B m b) :
    Calls Try.prog 16 #[.slice A n ca, .slice B m cb] w fun e w' => e = .returned (.bool (decide (a = b))) ∧ ∃ q, w' = w.drewN q := by
  have HA := Lib.hid ha
  have HB := Lib.hid hb
  have hn63 : n ≤ 9223372036854775807 := ha.fit
  by_cases hnm : n = m
  · subst hnm
    have d0 : (((n : Nat) : Int) != ((n : Nat) : Int)) = false := by simp
    obtain ⟨r, hr⟩ : ∃ r, r = decide (a = b) := ⟨_, rfl⟩
    rw [← hr]
    have HR := Lib.hid hr
    clear ha hb hr
    go_enter Try.func16, Try.ntmps16
    go_wp2
    go_loopw [5] (fun i wr => ∃ k q : Nat, k ≤ n ∧ i = .int .i64 k ∧ a.take k = b.take k ∧ wr = w.drewN q) (fun i _ => n - (intOf i).toNat)
    case atStart => exact ⟨0, 0, by omega, rfl, by simp, rfl⟩
    case round =>
      obtain ⟨k, q, hk, rfl, htk, rfl⟩ := hrel
      have HTK := Lib.hid htk
      clear htk
      rcases Nat.lt_or_ge k n with hlt | hge
      · have hlt' : (k : Int) < (n : Int) := by omega
        have p0 : (0 : Int) ≤ (k : Int) := by omega
        obtain ⟨pa, x, SA, da, rfl, hx, -, a0, a1, -, sa⟩ := HA.out.at k hlt
        obtain ⟨pb, y, SB, db, rfl, hy, -, c0, c1, -, sb⟩ := HB.out.at k hlt
        obtain ⟨x1, x2⟩ := x
        obtain ⟨y1, y2⟩ := y
        simp only at a0 a1 c0 c1 sa sb
        have a0' : ∀ q, (w.drewN q).cell? (pa.add (k * 2)) = some (.int .i64 x1) := fun _ => a0
        have a1' : ∀ q, (w.drewN q).cell? ⟨(pa.add (k * 2)).block, (pa.add (k * 2)).off + 1, none⟩ = some (.slice SA x2.length da) := fun _ => a1
        have c0' : ∀ q, (w.drewN q).cell? (pb.add (k * 2)) = some (.int .i64 y1) := fun _ => c0
        have c1' : ∀ q, (w.drewN q).cell? ⟨(pb.add (k * 2)).block, (pb.add (k * 2)).off + 1, none⟩ = some (.slice SB y2.length db) := fun _ => c1
        have hw5 : IntKind.i64.wrap ((k : Int) + 1) = (k : Int) + 1 := IntWalk.i64_in _ (by omega)
        have ta : a.take (k + 1) = a.take k ++ [(x1, x2)] := by rw [List.take_add_one, hx]; rfl
        have tb : b.take (k + 1) = b.take k ++ [(y1, y2)] := by rw [List.take_add_one, hy]; rfl
        have TA := Lib.hid ta
        have TB := Lib.hid tb
        have HX := Lib.hid hx
        have HY := Lib.hid hy
        have SSA := Lib.hid sa
        have SSB := Lib.hid sb
        clear a0 a1 c0 c1 ta tb hx hy sa sb
        by_cases hd : x1 = y1
        · subst hd
          have dd : (x1 != x1) = false := by simp
          cases hs : decide (x2 = y2) with
          | true =>
            go_wp2_with fail
            go_quiet (first | (go_at_call 24; refine r9SameSpots_quiet SA SB x2.length y2.length da db x2 y2 SSA.out SSB.out hs))
            have hxy := of_decide_eq_true hs
            have HXY := Lib.hid hxy
            clear hxy hs
            go_wp2
            go_roundw
            case rel => exact ⟨k + 1, q + nq, by omega, by go_num, by rw [TA.out, TB.out, HTK.out, HXY.out], by first | rfl | rw [World.drewN_drewN]⟩
            case measure => simp [intOf]; omega
          | false =>
            go_wp2_with fail
            go_quiet (first | (go_at_call 24; refine r9SameSpots_quiet SA SB x2.length y2.length da db x2 y2 SSA.out SSB.out hs))
            obtain rfl : r = false := by
              rw [HR.out]
              refine decide_eq_false fun e => ?_
              have h1 := HX.out
              rw [e, HY.out] at h1
              exact of_decide_eq_false hs (Prod.mk.inj (Option.some.inj h1)).2.symm
            go_wp2
            go_ret
            exact ⟨rfl, q + nq, by rw [World.drewN_drewN]⟩
        · have dd : (x1 != y1) = true := by simpa using hd
          obtain rfl : r = false := by
            rw [HR.out]
            refine decide_eq_false fun e => ?_
            have h1 := HX.out
            rw [e, HY.out] at h1
            exact hd (Prod.mk.inj (Option.some.inj h1)).1.symm
          go_wp2_with fail
          go_quiet (fail)
          go_wp2
          go_ret
          exact ⟨rfl, q + nq, by rw [World.drewN_drewN]⟩
      · obtain rfl : k = n := by omega
        have hlz : ¬ ((k : Int) < (k : Int)) := by omega
        obtain rfl : r = true := by
          have h1 := HTK.out
          rw [List.take_of_length_le (by rw [HA.out.len]; exact Nat.le_refl _), List.take_of_length_le (by rw [HB.out.len]; exact Nat.le_refl _)] at h1
          rw [HR.out, h1]
          simp
        go_wp2
        go_ret
        exact ⟨rfl, _, rfl⟩
  · have d0 : (((n : Nat) : Int) != ((m : Nat) : Int)) = true := by simp; omega
    have hr : decide (a = b) = false := decide_eq_false fun e => hnm (by rw [← ha.len, ← hb.len, e])
    rw [hr]
    clear ha hb hr
    go_enter Try.func16, Try.ntmps16
    go_wp2
    go_ret
    exact ⟨rfl, 0, rfl⟩
end Go.Proofs.Ytmnofmcfkchebaa
