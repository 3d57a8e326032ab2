/- The contracts of the document's All, Has, And, Less. Printed by mk/ref2.py. -/
import Derived.Test.YtkligdaademakaaSeRef1
namespace Go.Proofs.Ytkligdaademakaa
open Go.RowKit Go.Maps Go.WideMaps

theorem all_succ (k : Nat) : allI (k + 1) = allI k ++ [(k : Int)] := by
  unfold allI
  rw [List.range_succ, List.map_append]
  rfl
theorem all_len (k : Nat) : (allI k).length = k := by simp [allI]

set_option maxHeartbeats 4000000 in
set_option maxRecDepth 100000 in
theorem r11All_any (w : World) (n : Int) (hn : n ≤ 1000000) : Calls Try.prog 31 #[.int .i64 n] w (NumsOut w (allI n.toNat)) := by
  obtain ⟨i0, hi, hz0, hz1, hz2⟩ := info_parts intInfo64
  go_enter Try.func31, Try.ntmps31
  go_wp2
  go_loopw [3, 4] (fun v i wr => ∃ k : Nat, k ≤ n.toNat ∧ i = .int .i64 k ∧ wr.ownsRow w.heap.size 2 1 v (allI k).length ((allI k).map i64V) ∧ Below w.heap.size w wr) (fun _ i _ => n.toNat - (intOf i).toNat)
  case atStart => exact ⟨0, by omega, rfl, ⟨rfl, .inl ⟨rfl, rfl⟩⟩, Below.refl _ _⟩
  case round =>
    obtain ⟨k, hk, rfl, hO, hB⟩ := hrel
    have HO := Lib.hid hO
    have HB := Lib.hid hB
    clear hO hB
    by_cases hlt : (k : Int) < n
    · have d1 : decide ((k : Int) < n) = true := decide_eq_true hlt
      have hw5 : IntKind.i64.wrap ((k : Int) + 1) = (k : Int) + 1 := IntWalk.i64_in _ (by omega)
      obtain ⟨M, hMM⟩ : ∃ M, M = allI k := ⟨_, rfl⟩
      have hMl : M.length ≤ 1000000 := by rw [hMM, all_len]; omega
      have HNX := Lib.hid (by rw [all_succ, hMM] : allI (k + 1) = M ++ [(k : Int)])
      rw [← hMM] at HO
      obtain ⟨Av, cv, hv⟩ := own_slice HO.out
      subst hv
      clear hMM
      go_wp2_with (at_builtin; refine wpList_append_src _ rfl (.tmp 10) (.tmp 12) 26 rfl w.heap.size 2 i0 (.int .i64 0) 8 Try.underlying26 hi hz0 hz1 hz2 rfl _ M.length _ rfl (World.ownsRow.alloc HO.out _) _ 1 1 _ rfl (one_int_src _ 2 (k : Int)) (i64V_one [(k : Int)]) (by unfold maxLen; omega) (by omega) (by have := HB.out.size; simp; omega) ?_; intro v3 w3 hown hgrow _; have HO3 := Lib.hid hown; have HB3 := Lib.hid ((HB.out.alloc HB.out.size _).grown hgrow (by have := HB.out.size; simp; omega) (fun g hg => (HO.out.lt g hg).1)); clear hown hgrow)
      go_roundw
      case rel => exact ⟨k + 1, by omega, by go_num, by rw [HNX.out, List.length_append, List.map_append]; exact HO3.out, HB3.out⟩
      case measure => simp [intOf]; omega
    · have d1 : decide ((k : Int) < n) = false := decide_eq_false hlt
      have hkn : n.toNat = k := by omega
      have HKN := Lib.hid hkn
      clear hkn
      go_wp2
      go_ret
      exact ⟨_, rfl, by rw [HKN.out]; exact HO.out, HB.out⟩

set_option maxHeartbeats 4000000 in
set_option maxRecDepth 100000 in
theorem r11Has_any (w : World) (A : Option Addr) (n c : Nat) (l : List Int) (hl : IntsIn w A n l) (x : Int) : Calls Try.prog 54 #[.slice A n c, .int .i64 x] w fun e w' => e = .returned (.bool (hasI l x)) ∧ w' = w := by
  have HL := Lib.hid hl
  have HLN := Lib.hid hl.len
  have hn63 : n ≤ 9223372036854775807 := hl.1
  obtain ⟨R, hR⟩ : ∃ R, R = hasI l x := ⟨_, rfl⟩
  rw [← hR]
  have HR := Lib.hid hR
  clear hl hR
  go_enter Try.func54, Try.ntmps54
  go_wp2
  go_loopw [5] (fun i wr => ∃ k : Nat, k ≤ n ∧ i = .int .i64 k ∧ x ∉ l.take k ∧ wr = w) (fun i _ => n - (intOf i).toNat)
  case atStart => exact ⟨0, by omega, rfl, by simp, rfl⟩
  case round =>
    obtain ⟨k, hk, rfl, hno, hw⟩ := hrel
    obtain rfl := hw.symm
    have HNO := Lib.hid hno
    clear hno
    rcases Nat.lt_or_ge k n with hlt | hge
    · have hlt' : (k : Int) < (n : Int) := by omega
      have p0 : (0 : Int) ≤ (k : Int) := by omega
      have hw5 : IntKind.i64.wrap ((k : Int) + 1) = (k : Int) + 1 := IntWalk.i64_in _ (by omega)
      obtain ⟨pa, y, rfl, hy, ey, hy1, hy2⟩ := HL.out.at k hlt
      by_cases hxy : y = x
      · have d1 : (y == x) = true := by simpa using hxy
        have hr : R = true := by rw [HR.out]; unfold hasI; rw [← hxy]; exact decide_eq_true (List.mem_of_getElem? hy)
        subst hr
        clear hxy hy
        go_wp2
        go_ret
        exact ⟨rfl, rfl⟩
      · have d1 : (y == x) = false := by simpa using hxy
        have HNX : Hid (x ∉ l.take (k + 1)) := Lib.hid (by
          rw [List.take_add_one, hy]
          intro h
          rcases List.mem_append.1 h with h | h
          · exact HNO.out h
          · simp at h; exact hxy h.symm)
        clear hxy hy
        go_wp2
        go_roundw
        case rel => exact ⟨k + 1, by omega, by go_num, HNX.out, by first | rfl | trivial⟩
        case measure => simp [intOf]; omega
    · obtain rfl : k = n := by omega
      have hlz : ¬ ((k : Int) < (k : Int)) := by omega
      have hr : R = false := by
        rw [HR.out]
        unfold hasI
        refine decide_eq_false fun h => HNO.out ?_
        rw [List.take_of_length_le (by rw [HLN.out]; exact Nat.le_refl _)]
        exact h
      subst hr
      go_wp2
      go_ret
      exact ⟨rfl, rfl⟩

set_option maxHeartbeats 4000000 in
set_option maxRecDepth 100000 in
theorem r11And_any (w : World) (A B : Option Addr) (n m ca cb : Nat) (a b : List Int) (ha : IntsIn w A n a) (hb : IntsIn w B m b) (hn : n ≤ 1000000) : Calls Try.prog 27 #[.slice A n ca, .slice B m cb] w (NumsOut w (andI a b)) := by
  obtain ⟨i0, hi, hz0, hz1, hz2⟩ := info_parts intInfo64
  have HL := Lib.hid ha
  have HBB := Lib.hid hb
  have HLN := Lib.hid ha.len
  clear ha hb
  go_enter Try.func27, Try.ntmps27
  go_wp2
  go_loopw [5, 6] (fun v i wr => ∃ k : Nat, k ≤ n ∧ i = .int .i64 k ∧ wr.ownsRow w.heap.size 2 1 v ((a.take k).filter (hasI b)).length (((a.take k).filter (hasI b)).map i64V) ∧ Below w.heap.size w wr) (fun _ i _ => n - (intOf i).toNat)
  case atStart => exact ⟨0, by omega, rfl, ⟨rfl, .inl ⟨rfl, rfl⟩⟩, Below.refl _ _⟩
  case round =>
    obtain ⟨k, hk, rfl, hO, hB⟩ := hrel
    have HO := Lib.hid hO
    have HB := Lib.hid hB
    clear hO hB
    rcases Nat.lt_or_ge k n with hlt | hge
    · have hlt' : (k : Int) < (n : Int) := by omega
      have p0 : (0 : Int) ≤ (k : Int) := by omega
      have hw5 : IntKind.i64.wrap ((k : Int) + 1) = (k : Int) + 1 := IntWalk.i64_in _ (by omega)
      obtain ⟨pa, x, rfl, hx, ex, hx1, hx2⟩ := (HL.out.below HB.out).at k hlt
      obtain ⟨M, hMM⟩ : ∃ M, M = (a.take k).filter (hasI b) := ⟨_, rfl⟩
      have hMl : M.length ≤ 1000000 := by
        rw [hMM]
        refine Nat.le_trans (List.length_filter_le _ _) ?_
        rw [List.length_take]
        omega
      rw [← hMM] at HO
      have HCK := Lib.hid (int_stays HL.out HB.out hlt ex)
      obtain ⟨r, hr⟩ : ∃ r, r = hasI b x := ⟨_, rfl⟩
      have HC := Lib.hid (r11Has_any wr B m cb b (HBB.out.below HB.out) x)
      rw [← hr] at HC
      have hnx : (a.take (k + 1)).filter (hasI b) = if r = true then M ++ [x] else M := by
        rw [List.take_add_one, hx, List.filter_append, ← hMM, hr]
        cases hh : hasI b x <;> simp [hh]
      have HNX := Lib.hid hnx
      clear hx hMM hr hnx
      go_wp2_with fail
      refine HC.out.mono ?_
      rintro e w2 ⟨rfl, hw2⟩
      rw [hw2]
      clear hw2
      cases r with
      | true =>
        obtain ⟨Av, cv, hv⟩ := own_slice HO.out
        subst hv
        go_wp2_with (at_builtin; refine wpList_append_src _ rfl (.tmp 19) (.tmp 24) 26 rfl w.heap.size 2 i0 (.int .i64 0) 8 Try.underlying26 hi hz0 hz1 hz2 rfl _ M.length _ rfl (World.ownsRow.alloc HO.out _) _ 1 1 _ rfl (one_int_src _ 2 x) (i64V_one [x]) (by unfold maxLen; omega) (by omega) (by have := HB.out.size; simp; omega) ?_; intro v3 w3 hown hgrow _; have HO3 := Lib.hid hown; have HB3 := Lib.hid ((HB.out.alloc HB.out.size _).grown hgrow (by have := HB.out.size; simp; omega) (fun g hg => (HO.out.lt g hg).1)); clear hown hgrow)
        go_roundw
        case rel => exact ⟨k + 1, by omega, by go_num, by rw [HNX.out, if_pos (by simp), List.length_append, List.map_append]; exact HO3.out, HB3.out⟩
        case measure => simp [intOf]; omega
      | false =>
        go_wp2
        go_roundw
        case rel => exact ⟨k + 1, by omega, by go_num, by rw [HNX.out, if_neg (by simp)]; exact HO.out, HB.out⟩
        case measure => simp [intOf]; omega
    · obtain rfl : k = n := by omega
      have hlz : ¬ ((k : Int) < (k : Int)) := by omega
      rw [List.take_of_length_le (by rw [HLN.out]; exact Nat.le_refl _)] at HO
      go_wp2
      go_ret
      exact ⟨_, rfl, HO.out, HB.out⟩

set_option maxHeartbeats 4000000 in
set_option maxRecDepth 100000 in
theorem r11Less_any (w : World) (A B : Option Addr) (n m ca cb : Nat) (a b : List Int) (ha : IntsIn w A n a) (hb : IntsIn w B m b) (hn : n ≤ 1000000) : Calls Try.prog 32 #[.slice A n ca, .slice B m cb] w (NumsOut w (lessI a b)) := by
  obtain ⟨i0, hi, hz0, hz1, hz2⟩ := info_parts intInfo64
  have HL := Lib.hid ha
  have HBB := Lib.hid hb
  have HLN := Lib.hid ha.len
  clear ha hb
  go_enter Try.func32, Try.ntmps32
  go_wp2
  go_loopw [5, 6] (fun v i wr => ∃ k : Nat, k ≤ n ∧ i = .int .i64 k ∧ wr.ownsRow w.heap.size 2 1 v ((a.take k).filter (fun x => !hasI b x)).length (((a.take k).filter (fun x => !hasI b x)).map i64V) ∧ Below w.heap.size w wr) (fun _ i _ => n - (intOf i).toNat)
  case atStart => exact ⟨0, by omega, rfl, ⟨rfl, .inl ⟨rfl, rfl⟩⟩, Below.refl _ _⟩
  case round =>
    obtain ⟨k, hk, rfl, hO, hB⟩ := hrel
    have HO := Lib.hid hO
    have HB := Lib.hid hB
    clear hO hB
    rcases Nat.lt_or_ge k n with hlt | hge
    · have hlt' : (k : Int) < (n : Int) := by omega
      have p0 : (0 : Int) ≤ (k : Int) := by omega
      have hw5 : IntKind.i64.wrap ((k : Int) + 1) = (k : Int) + 1 := IntWalk.i64_in _ (by omega)
      obtain ⟨pa, x, rfl, hx, ex, hx1, hx2⟩ := (HL.out.below HB.out).at k hlt
      obtain ⟨M, hMM⟩ : ∃ M, M = (a.take k).filter (fun x => !hasI b x) := ⟨_, rfl⟩
      have hMl : M.length ≤ 1000000 := by
        rw [hMM]
        refine Nat.le_trans (List.length_filter_le _ _) ?_
        rw [List.length_take]
        omega
      rw [← hMM] at HO
      have HCK := Lib.hid (int_stays HL.out HB.out hlt ex)
      obtain ⟨r, hr⟩ : ∃ r, r = hasI b x := ⟨_, rfl⟩
      have HC := Lib.hid (r11Has_any wr B m cb b (HBB.out.below HB.out) x)
      rw [← hr] at HC
      have hnx : (a.take (k + 1)).filter (fun x => !hasI b x) = if !r = true then M ++ [x] else M := by
        rw [List.take_add_one, hx, List.filter_append, ← hMM, hr]
        cases hh : hasI b x <;> simp [hh]
      have HNX := Lib.hid hnx
      clear hx hMM hr hnx
      go_wp2_with fail
      refine HC.out.mono ?_
      rintro e w2 ⟨rfl, hw2⟩
      rw [hw2]
      clear hw2
      cases r with
      | false =>
        obtain ⟨Av, cv, hv⟩ := own_slice HO.out
        subst hv
        go_wp2_with (at_builtin; refine wpList_append_src _ rfl (.tmp 20) (.tmp 25) 26 rfl w.heap.size 2 i0 (.int .i64 0) 8 Try.underlying26 hi hz0 hz1 hz2 rfl _ M.length _ rfl (World.ownsRow.alloc HO.out _) _ 1 1 _ rfl (one_int_src _ 2 x) (i64V_one [x]) (by unfold maxLen; omega) (by omega) (by have := HB.out.size; simp; omega) ?_; intro v3 w3 hown hgrow _; have HO3 := Lib.hid hown; have HB3 := Lib.hid ((HB.out.alloc HB.out.size _).grown hgrow (by have := HB.out.size; simp; omega) (fun g hg => (HO.out.lt g hg).1)); clear hown hgrow)
        go_roundw
        case rel => exact ⟨k + 1, by omega, by go_num, by rw [HNX.out, if_pos (by simp), List.length_append, List.map_append]; exact HO3.out, HB3.out⟩
        case measure => simp [intOf]; omega
      | true =>
        go_wp2
        go_roundw
        case rel => exact ⟨k + 1, by omega, by go_num, by rw [HNX.out, if_neg (by simp)]; exact HO.out, HB.out⟩
        case measure => simp [intOf]; omega
    · obtain rfl : k = n := by omega
      have hlz : ¬ ((k : Int) < (k : Int)) := by omega
      rw [List.take_of_length_le (by rw [HLN.out]; exact Nat.le_refl _)] at HO
      go_wp2
      go_ret
      exact ⟨_, rfl, HO.out, HB.out⟩
end Go.Proofs.Ytkligdaademakaa
