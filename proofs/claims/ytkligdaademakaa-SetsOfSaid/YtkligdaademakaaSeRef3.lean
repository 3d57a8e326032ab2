/- The contract of the document's Or. Printed by mk/ref3.py. -/
import Derived.Test.YtkligdaademakaaSeRef2
import Derived.Deep.QuietTactic
import Derived.BigQuiet
namespace Go.Proofs.Ytkligdaademakaa
open Go.RowKit Go.Maps Go.WideMaps
set_option linter.unusedSimpArgs false

set_option maxHeartbeats 8000000 in
set_option maxRecDepth 100000 in
theorem r11Or_any (w : World) (A B : Option Addr) (n m ca cb : Nat) (a b : List Int) (ha : IntsIn w A n a) (hb : IntsIn w B m b) (hn : n ≤ 1000000) (hm : m ≤ 1000000) : Calls Try.prog 29 #[.slice A n ca, .slice B m cb] w (NumsOut w (orI a b)) := by
  obtain ⟨i0, hi, hz0, hz1, hz2⟩ := info_parts intInfo64
  have HA := Lib.hid ha
  have HBB := Lib.hid hb
  have HAN := Lib.hid ha.len
  have HBN := Lib.hid hb.len
  clear ha hb
  go_enter Try.func29, Try.ntmps29
  go_wp2
  go_loopw [5, 6, 7] (fun v iv kv wr => ∃ (i k : Nat) (M : List Int), i ≤ n ∧ k ≤ m ∧ iv = .int .i64 i ∧ kv = .int .i64 k ∧ M.length ≤ i + k ∧ M ++ orI (a.drop i) (b.drop k) = orI a b ∧ wr.ownsRow w.heap.size 2 1 v M.length (M.map i64V) ∧ Below w.heap.size w wr) (fun _ iv kv _ => n + m - (intOf iv).toNat - (intOf kv).toNat)
  case atStart => exact ⟨0, 0, [], by omega, by omega, rfl, rfl, by simp, rfl, ⟨rfl, .inl ⟨rfl, rfl⟩⟩, Below.refl _ _⟩
  case round =>
    obtain ⟨i, k, M, hin, hkm, rfl, rfl, hMl, hor, hO, hB⟩ := hrel
    have HO : Hid (∀ q, (wr.drewN q).ownsRow w.heap.size 2 1 _ M.length (M.map i64V)) := Lib.hid (fun _ => hO)
    have HB : Hid (∀ q, Below w.heap.size w (wr.drewN q)) := Lib.hid (fun q => below_drewN hB q)
    have HOR := Lib.hid hor
    have HB0 := Lib.hid hB
    obtain ⟨Av, cv, hv⟩ := own_slice hO
    subst hv
    clear hO hB hor
    rcases Nat.lt_or_ge i n with hi1 | hi1
    · rcases Nat.lt_or_ge k m with hk1 | hk1
      · obtain ⟨pa, x, rfl, hx, ex, hx1, hx2⟩ := (HA.out.below HB0.out).at i hi1
        have HXX := Lib.hid hx
        have exq : ∀ q, (wr.drewN q).cell? (pa.add i) = some (.int .i64 x) := fun q => ex
        have HCX := Lib.hid (int_stays HA.out HB0.out hi1 ex)
        clear hx ex
        obtain ⟨pb, y, rfl, hy, ey, hy1, hy2⟩ := (HBB.out.below HB0.out).at k hk1
        have HYY := Lib.hid hy
        have eyq : ∀ q, (wr.drewN q).cell? (pb.add k) = some (.int .i64 y) := fun q => ey
        have HCY := Lib.hid (int_stays HBB.out HB0.out hk1 ey)
        clear hy ey
        have a1 : decide ((i : Int) < (n : Int)) = true := decide_eq_true (by omega)
        have a2 : decide (i < n) = true := decide_eq_true (by omega)
        have a3 : decide ((n : Int) ≤ (i : Int)) = false := decide_eq_false (by omega)
        have a4 : decide (n ≤ i) = false := decide_eq_false (by omega)
        have b1 : decide ((k : Int) < (m : Int)) = true := decide_eq_true (by omega)
        have b2 : decide (k < m) = true := decide_eq_true (by omega)
        have b3 : decide ((m : Int) ≤ (k : Int)) = false := decide_eq_false (by omega)
        have b4 : decide (m ≤ k) = false := decide_eq_false (by omega)
        have p0 : (0 : Int) ≤ (i : Int) := by omega
        have p1 : (i : Int) < (n : Int) := by omega
        have hwi : IntKind.i64.wrap ((i : Int) + 1) = (i : Int) + 1 := IntWalk.i64_in _ (by omega)
        have q0 : (0 : Int) ≤ (k : Int) := by omega
        have q1 : (k : Int) < (m : Int) := by omega
        have hwk : IntKind.i64.wrap ((k : Int) + 1) = (k : Int) + 1 := IntWalk.i64_in _ (by omega)
        rcases Int.lt_trichotomy x y with hxy | hxy | hxy
        · have HST := Lib.hid (or_left HXX.out (.inr ⟨y, HYY.out, hxy⟩))
          have c1 : decide (x < y) = true := decide_eq_true hxy
          go_wp2
          go_quiet (fail)
          go_wp2_with (at_builtin; refine wpList_append_src _ rfl (.tmp 39) (.tmp 44) 26 rfl w.heap.size 2 i0 (.int .i64 0) 8 Try.underlying26 hi hz0 hz1 hz2 rfl _ M.length _ rfl (World.ownsRow.alloc (HO.out _) _) _ 1 1 _ rfl (one_int_src _ 2 x) (i64V_one [x]) (by unfold maxLen; omega) (by omega) (by have := HB0.out.size; simp; omega) ?_; intro v3 w3 hown hgrow _; have HO3 := Lib.hid hown; have HB3 := Lib.hid (((HB.out _).alloc (by have := HB0.out.size; simpa using this) _).grown hgrow (by have := HB0.out.size; simp; omega) (fun g hg => ((HO.out 0).lt g hg).1)); clear hown hgrow)
          go_roundw
          case rel => exact ⟨i + 1, k, M ++ [x], by omega, by omega, by go_num, by go_num, by simp; omega, by rw [← HOR.out, HST.out]; simp, by rw [List.length_append, List.map_append]; exact HO3.out, HB3.out⟩
          case measure => simp [intOf]; omega
        · subst hxy
          have HST := Lib.hid (or_both HXX.out HYY.out)
          have c1 : decide (x < x) = false := decide_eq_false (by omega)
          go_wp2
          go_quiet (fail)
          go_wp2
          go_quiet (fail)
          go_wp2_with (at_builtin; refine wpList_append_src _ rfl (.tmp 72) (.tmp 77) 26 rfl w.heap.size 2 i0 (.int .i64 0) 8 Try.underlying26 hi hz0 hz1 hz2 rfl _ M.length _ rfl (World.ownsRow.alloc (HO.out _) _) _ 1 1 _ rfl (one_int_src _ 2 x) (i64V_one [x]) (by unfold maxLen; omega) (by omega) (by have := HB0.out.size; simp; omega) ?_; intro v3 w3 hown hgrow _; have HO3 := Lib.hid hown; have HB3 := Lib.hid (((HB.out _).alloc (by have := HB0.out.size; simpa using this) _).grown hgrow (by have := HB0.out.size; simp; omega) (fun g hg => ((HO.out 0).lt g hg).1)); clear hown hgrow)
          go_roundw
          case rel => exact ⟨i + 1, k + 1, M ++ [x], by omega, by omega, by go_num, by go_num, by simp; omega, by rw [← HOR.out, HST.out]; simp, by rw [List.length_append, List.map_append]; exact HO3.out, HB3.out⟩
          case measure => simp [intOf]; omega
        · have HST := Lib.hid (or_right (b := b) HYY.out (.inr ⟨x, HXX.out, hxy⟩))
          have c1 : decide (x < y) = false := decide_eq_false (by omega)
          have c2 : decide (y < x) = true := decide_eq_true hxy
          go_wp2
          go_quiet (fail)
          go_wp2
          go_quiet (fail)
          go_wp2_with (at_builtin; refine wpList_append_src _ rfl (.tmp 63) (.tmp 68) 26 rfl w.heap.size 2 i0 (.int .i64 0) 8 Try.underlying26 hi hz0 hz1 hz2 rfl _ M.length _ rfl (World.ownsRow.alloc (HO.out _) _) _ 1 1 _ rfl (one_int_src _ 2 y) (i64V_one [y]) (by unfold maxLen; omega) (by omega) (by have := HB0.out.size; simp; omega) ?_; intro v3 w3 hown hgrow _; have HO3 := Lib.hid hown; have HB3 := Lib.hid (((HB.out _).alloc (by have := HB0.out.size; simpa using this) _).grown hgrow (by have := HB0.out.size; simp; omega) (fun g hg => ((HO.out 0).lt g hg).1)); clear hown hgrow)
          go_roundw
          case rel => exact ⟨i, k + 1, M ++ [y], by omega, by omega, by go_num, by go_num, by simp; omega, by rw [← HOR.out, HST.out]; simp, by rw [List.length_append, List.map_append]; exact HO3.out, HB3.out⟩
          case measure => simp [intOf]; omega
      · obtain ⟨pa, x, rfl, hx, ex, hx1, hx2⟩ := (HA.out.below HB0.out).at i hi1
        have HXX := Lib.hid hx
        have exq : ∀ q, (wr.drewN q).cell? (pa.add i) = some (.int .i64 x) := fun q => ex
        have HCX := Lib.hid (int_stays HA.out HB0.out hi1 ex)
        clear hx ex
        have a1 : decide ((i : Int) < (n : Int)) = true := decide_eq_true (by omega)
        have a2 : decide (i < n) = true := decide_eq_true (by omega)
        have a3 : decide ((n : Int) ≤ (i : Int)) = false := decide_eq_false (by omega)
        have a4 : decide (n ≤ i) = false := decide_eq_false (by omega)
        have b1 : decide ((k : Int) < (m : Int)) = false := decide_eq_false (by omega)
        have b2 : decide (k < m) = false := decide_eq_false (by omega)
        have b3 : decide ((m : Int) ≤ (k : Int)) = true := decide_eq_true (by omega)
        have b4 : decide (m ≤ k) = true := decide_eq_true (by omega)
        have p0 : (0 : Int) ≤ (i : Int) := by omega
        have p1 : (i : Int) < (n : Int) := by omega
        have hwi : IntKind.i64.wrap ((i : Int) + 1) = (i : Int) + 1 := IntWalk.i64_in _ (by omega)
        have HST := Lib.hid (or_left (b := b) (k := k) HXX.out (.inl (by rw [HBN.out]; exact hk1)))
        go_wp2
        go_quiet (fail)
        go_wp2_with (at_builtin; refine wpList_append_src _ rfl (.tmp 39) (.tmp 44) 26 rfl w.heap.size 2 i0 (.int .i64 0) 8 Try.underlying26 hi hz0 hz1 hz2 rfl _ M.length _ rfl (World.ownsRow.alloc (HO.out _) _) _ 1 1 _ rfl (one_int_src _ 2 x) (i64V_one [x]) (by unfold maxLen; omega) (by omega) (by have := HB0.out.size; simp; omega) ?_; intro v3 w3 hown hgrow _; have HO3 := Lib.hid hown; have HB3 := Lib.hid (((HB.out _).alloc (by have := HB0.out.size; simpa using this) _).grown hgrow (by have := HB0.out.size; simp; omega) (fun g hg => ((HO.out 0).lt g hg).1)); clear hown hgrow)
        go_roundw
        case rel => exact ⟨i + 1, k, M ++ [x], by omega, by omega, by go_num, by go_num, by simp; omega, by rw [← HOR.out, HST.out]; simp, by rw [List.length_append, List.map_append]; exact HO3.out, HB3.out⟩
        case measure => simp [intOf]; omega
    · rcases Nat.lt_or_ge k m with hk1 | hk1
      · obtain ⟨pb, y, rfl, hy, ey, hy1, hy2⟩ := (HBB.out.below HB0.out).at k hk1
        have HYY := Lib.hid hy
        have eyq : ∀ q, (wr.drewN q).cell? (pb.add k) = some (.int .i64 y) := fun q => ey
        have HCY := Lib.hid (int_stays HBB.out HB0.out hk1 ey)
        clear hy ey
        have a1 : decide ((i : Int) < (n : Int)) = false := decide_eq_false (by omega)
        have a2 : decide (i < n) = false := decide_eq_false (by omega)
        have a3 : decide ((n : Int) ≤ (i : Int)) = true := decide_eq_true (by omega)
        have a4 : decide (n ≤ i) = true := decide_eq_true (by omega)
        have b1 : decide ((k : Int) < (m : Int)) = true := decide_eq_true (by omega)
        have b2 : decide (k < m) = true := decide_eq_true (by omega)
        have b3 : decide ((m : Int) ≤ (k : Int)) = false := decide_eq_false (by omega)
        have b4 : decide (m ≤ k) = false := decide_eq_false (by omega)
        have q0 : (0 : Int) ≤ (k : Int) := by omega
        have q1 : (k : Int) < (m : Int) := by omega
        have hwk : IntKind.i64.wrap ((k : Int) + 1) = (k : Int) + 1 := IntWalk.i64_in _ (by omega)
        have HST := Lib.hid (or_right (a := a) (i := i) HYY.out (.inl (by rw [HAN.out]; exact hi1)))
        go_wp2
        go_quiet (fail)
        go_wp2
        go_quiet (fail)
        go_wp2_with (at_builtin; refine wpList_append_src _ rfl (.tmp 63) (.tmp 68) 26 rfl w.heap.size 2 i0 (.int .i64 0) 8 Try.underlying26 hi hz0 hz1 hz2 rfl _ M.length _ rfl (World.ownsRow.alloc (HO.out _) _) _ 1 1 _ rfl (one_int_src _ 2 y) (i64V_one [y]) (by unfold maxLen; omega) (by omega) (by have := HB0.out.size; simp; omega) ?_; intro v3 w3 hown hgrow _; have HO3 := Lib.hid hown; have HB3 := Lib.hid (((HB.out _).alloc (by have := HB0.out.size; simpa using this) _).grown hgrow (by have := HB0.out.size; simp; omega) (fun g hg => ((HO.out 0).lt g hg).1)); clear hown hgrow)
        go_roundw
        case rel => exact ⟨i, k + 1, M ++ [y], by omega, by omega, by go_num, by go_num, by simp; omega, by rw [← HOR.out, HST.out]; simp, by rw [List.length_append, List.map_append]; exact HO3.out, HB3.out⟩
        case measure => simp [intOf]; omega
      · have a1 : decide ((i : Int) < (n : Int)) = false := decide_eq_false (by omega)
        have a2 : decide (i < n) = false := decide_eq_false (by omega)
        have a3 : decide ((n : Int) ≤ (i : Int)) = true := decide_eq_true (by omega)
        have a4 : decide (n ≤ i) = true := decide_eq_true (by omega)
        have b1 : decide ((k : Int) < (m : Int)) = false := decide_eq_false (by omega)
        have b2 : decide (k < m) = false := decide_eq_false (by omega)
        have b3 : decide ((m : Int) ≤ (k : Int)) = true := decide_eq_true (by omega)
        have b4 : decide (m ≤ k) = true := decide_eq_true (by omega)
        have HFIN : Hid (M = orI a b) := Lib.hid (by
          have := HOR.out
          rw [List.drop_eq_nil_of_le (by rw [HAN.out]; exact hi1), List.drop_eq_nil_of_le (by rw [HBN.out]; exact hk1)] at this
          simpa [orI] using this)
        go_wp2
        go_ret
        exact ⟨_, rfl, by rw [← HFIN.out]; exact HO.out 0, HB0.out⟩
end Go.Proofs.Ytkligdaademakaa
