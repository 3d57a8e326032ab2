/- The document's SameSpots. -/
import Derived.Test.YtmnofmcfkchebaaKPosts
import Derived.Deep.QuietTactic
import Derived.BigQuiet
import Derived.Laws.StructEq
namespace Go.Proofs.Ytmnofmcfkchebaa
open Go.RowKit Go.Maps Go.WideMaps
set_option linter.unusedSimpArgs false

set_option maxRecDepth 100000 in
theorem spot_fields : ∃ f g : Field, Try.prog.fieldsOf 48 = #[f, g] ∧ f.name ≠ "_" ∧ g.name ≠ "_" ∧ f.type = 2 ∧ g.type = 2 ∧ f.offset = 0 ∧ g.offset = 1 :=
  ⟨_, _, rfl, by decide, by decide, rfl, rfl, rfl, rfl⟩
set_option maxRecDepth 100000 in
theorem neqSpot (y1 y2 x1 x2 : Int) {r : Bool} (h : ((y1 == x1) && (y2 == x2)) = r) (w : World) : (binOp .neq 48 (.agg #[.int .i64 y1, .int .i64 y2]) (.agg #[.int .i64 x1, .int .i64 x2])).run Try.prog w = .ok (.bool (!r)) w := by
  subst h
  obtain ⟨f, g, h1, h2, h3, h4, h5, h6, h7⟩ := spot_fields
  rw [run_neq_struct, run_equalIn_struct w 9999 48 _ _ rfl (by kernel_rfl), h1]
  have he : ∀ a b : Int, ∀ w : World, (Op.equalIn 9999 2 (.int .i64 a) (.int .i64 b)).run Try.prog w = .ok (a == b) w := fun a b w => run_equalIn_int w 9998 2 .i64 .i64 a b Try.underlying2
  simp only [Op.eqFields, h4, h5, h6, h7, if_pos h2, if_pos h3]
  simp [part, he]
  cases hA : (y1 == x1) <;> cases hB : (y2 == x2) <;> simp_all

set_option maxHeartbeats 4000000 in
set_option maxRecDepth 100000 in
theorem r9SameSpots_any (w : World) (A B : Option Addr) (n m ca cb : Nat) (a b : List (Int × Int)) (ha : PairsIn w A n a) (hb : PairsIn w B m b) :
    Calls Try.prog 24 #[.slice A n ca, .slice B m cb] w fun e w' => e = .returned (.bool (decide (a = b))) ∧ ∃ q, w' = w.drewN q := by
  have HA := Lib.hid ha
  have HB := Lib.hid hb
  have hn63 : n ≤ 9223372036854775807 := ha.fit
  by_cases hnm : n = m
  · subst hnm
    have d0 : (((n : Nat) : Int) != ((n : Nat) : Int)) = false := by simp
    obtain ⟨r, hr⟩ : ∃ r, r = decide (a = b) := ⟨_, rfl⟩
    rw [← hr]
    have HR := Lib.hid hr
    clear ha hb hr
    go_enter Try.func24, Try.ntmps24
    go_wp2
    go_loopw [5] (fun i wr => ∃ k q : Nat, k ≤ n ∧ i = .int .i64 k ∧ a.take k = b.take k ∧ wr = w.drewN q) (fun i _ => n - (intOf i).toNat)
    case atStart => exact ⟨0, 0, by omega, rfl, by simp, rfl⟩
    case round =>
      obtain ⟨k, q, hk, rfl, htk, rfl⟩ := hrel
      have HTK := Lib.hid htk
      clear htk
      rcases Nat.lt_or_ge k n with hlt | hge
      · have hlt' : (k : Int) < (n : Int) := by omega
        have p0 : (0 : Int) ≤ (k : Int) := by omega
        obtain ⟨pa, x, rfl, hx, a0, a1, -, -⟩ := HA.out.at k hlt
        obtain ⟨pb, y, rfl, hy, c0, c1, -, -⟩ := HB.out.at k hlt
        obtain ⟨x1, x2⟩ := x
        obtain ⟨y1, y2⟩ := y
        simp only at a0 a1 c0 c1
        have a0' : ∀ q, (w.drewN q).cell? (pa.add (k * 2)) = some (.int .i64 x1) := fun _ => a0
        have a1' : ∀ q, (w.drewN q).cell? ⟨(pa.add (k * 2)).block, (pa.add (k * 2)).off + 1, none⟩ = some (.int .i64 x2) := fun _ => a1
        have c0' : ∀ q, (w.drewN q).cell? (pb.add (k * 2)) = some (.int .i64 y1) := fun _ => c0
        have c1' : ∀ q, (w.drewN q).cell? ⟨(pb.add (k * 2)).block, (pb.add (k * 2)).off + 1, none⟩ = some (.int .i64 y2) := fun _ => c1
        have hw5 : IntKind.i64.wrap ((k : Int) + 1) = (k : Int) + 1 := IntWalk.i64_in _ (by omega)
        have ta : a.take (k + 1) = a.take k ++ [(x1, x2)] := by rw [List.take_add_one, hx]; rfl
        have tb : b.take (k + 1) = b.take k ++ [(y1, y2)] := by rw [List.take_add_one, hy]; rfl
        have TA := Lib.hid ta
        have TB := Lib.hid tb
        clear a0 a1 c0 c1 ta tb
        cases hd : ((x1 == y1) && (x2 == y2)) with
        | true =>
          have heq := neqSpot x1 x2 y1 y2 hd
          simp only [Bool.and_eq_true, beq_iff_eq] at hd
          obtain ⟨rfl, rfl⟩ := hd
          clear hx hy
          go_wp2_with fail
          go_quiet (fail)
          go_wp2
          go_roundw
          case rel => exact ⟨k + 1, _, by omega, by go_num, by rw [TA.out, TB.out, HTK.out], rfl⟩
          case measure => simp [intOf]; omega
        | false =>
          have heq := neqSpot x1 x2 y1 y2 hd
          obtain rfl : r = false := by
            rw [HR.out]
            refine decide_eq_false fun e => ?_
            subst e
            rw [hx] at hy
            obtain ⟨rfl, rfl⟩ := Prod.mk.inj (Option.some.inj hy)
            simp at hd
          clear hx hy
          go_wp2_with fail
          go_quiet (fail)
          go_wp2
          go_ret
          exact ⟨rfl, q + nq, by rw [World.drewN_drewN]⟩
      · obtain rfl : k = n := by omega
        have hlz : ¬ ((k : Int) < (k : Int)) := by omega
        obtain rfl : r = true := by
          have h1 := HTK.out
          rw [List.take_of_length_le (by rw [HA.out.len]; exact Nat.le_refl _), List.take_of_length_le (by rw [HB.out.len]; exact Nat.le_refl _)] at h1
          rw [HR.out, h1]
          simp
        go_wp2
        go_ret
        exact ⟨rfl, _, rfl⟩
  · have d0 : (((n : Nat) : Int) != ((m : Nat) : Int)) = true := by simp; omega
    have hr : decide (a = b) = false := decide_eq_false fun e => hnm (by rw [← ha.len, ← hb.len, e])
    rw [hr]
    clear ha hb hr
    go_enter Try.func24, Try.ntmps24
    go_wp2
    go_ret
    exact ⟨rfl, 0, rfl⟩
end Go.Proofs.Ytmnofmcfkchebaa
