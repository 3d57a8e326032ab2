/- The contracts of the document's find and merged; merges in slices. -/
import Derived.Test.YtimbimnbaoaboaaKRows
import Derived.Test.YtimbimnbaoaboaaKStr
import Derived.Test.YtimbimnbaoaboaaKInts
import Derived.Test.YtimbimnbaoaboaaVMath
import Derived.Deep.QuietTactic
import Derived.BigQuiet
namespace Go.Proofs.Ytimbimnbaoaboaa
open Go.RowKit Go.Maps Go.WideMaps

set_option maxHeartbeats 4000000 in
set_option maxRecDepth 100000 in
theorem r5find_any (w : World) (A : Option Addr) (n c : Nat) (L : List Nm) (s : Nm) (ha : RowsSee w A n L) :
    Calls Try.prog 30 #[.slice A n c, .string ⟨s.toArray⟩] w fun e w' => e = .returned (.int .i64 (findT L s)) ∧ w' = w := by
  have HA := Lib.hid ha
  have HLA := Lib.hid ha.len
  have hn63 : n ≤ 9223372036854775807 := ha.fit
  obtain ⟨R, hR⟩ : ∃ R, R = findT L s := ⟨_, rfl⟩
  rw [← hR]
  have HR := Lib.hid hR
  clear ha hR
  go_enter Try.func30, Try.ntmps30
  go_wp2
  go_loop [5] (fun i => ∃ k : Nat, k ≤ n ∧ i = .int .i64 k ∧ ∀ j x, j < k → L[j]? = some x → x ≠ s) (fun i => n - (intOf i).toNat)
  case atStart => exact ⟨0, by omega, rfl, fun j x h => by omega⟩
  case round =>
    obtain ⟨k, hk, rfl, hno⟩ := hrel
    have HNO := Lib.hid hno
    clear hno
    rcases Nat.lt_or_ge k n with hlt | hge
    · have hlt' : (k : Int) < (n : Int) := by omega
      obtain ⟨x, hx⟩ : ∃ x, L[k]? = some x := ⟨_, List.getElem?_eq_getElem (by rw [HLA.out]; exact hlt)⟩
      obtain ⟨pa, Ax, cx, rfl, ea, _, ex⟩ := HA.out.at_ k x hx
      have cv := str_of ex cx
      have HX := Lib.hid hx
      clear hx ex
      by_cases hxs : x = s
      · have d1 : (x == s) = true := by simpa using hxs
        have hfin : R = (k : Int) := by rw [HR.out]; exact findT_at (by rw [HX.out, hxs]) HNO.out
        have HF := Lib.hid hfin
        clear hxs hfin
        go_wp2
        go_ret
        exact ⟨by rw [HF.out]; rfl, rfl⟩
      · have d1 : (x == s) = false := by simpa using hxs
        have HXS := Lib.hid hxs
        clear hxs
        go_wp2
        go_round
        case rel =>
          refine ⟨k + 1, by omega, by go_num, fun j y hj hy => ?_⟩
          rcases Nat.lt_or_ge j k with h | h
          · exact HNO.out j y h hy
          · obtain rfl : j = k := by omega
            rw [HX.out] at hy
            cases hy
            exact HXS.out
        case measure => simp [intOf]; omega
    · obtain rfl : k = n := by omega
      have hlz : ¬ ((k : Int) < (k : Int)) := by omega
      have hfin : R = -1 := by
        rw [HR.out]
        refine findT_none fun x hx => ?_
        obtain ⟨j, hj, rfl⟩ := List.mem_iff_getElem.1 hx
        exact HNO.out j _ (by rw [← HLA.out]; exact hj) (List.getElem?_eq_getElem hj)
      have HF := Lib.hid hfin
      clear hfin
      go_wp2
      go_ret
      exact ⟨by rw [HF.out]; rfl, rfl⟩

theorem r5find_is (w : World) (A : Option Addr) (n c : Nat) (L : List Nm) (s : Nm) (ha : RowsSee w A n L) {r : Int} (hr : findT L s = r) :
    Calls Try.prog 30 #[.slice A n c, .string ⟨s.toArray⟩] w fun e w' => e = .returned (.int .i64 r) ∧ w' = w := by
  have h := r5find_any w A n c L s ha
  rw [hr] at h
  exact h
/-- What can be read of a slice of merges. -/
structure MgSee (w : World) (A : Option Addr) (n : Nat) (L : List Mg) : Prop where
  len : L.length = n
  fit : n ≤ maxLen
  at_ : ∀ (i : Nat) (m : Mg), L[i]? = some m → ∃ ad, A = some ad ∧ w.cell? (ad.add (i * 3)) = some (.int .i64 m.a) ∧ w.cell? ⟨(ad.add (i * 3)).block, (ad.add (i * 3)).off + 1, none⟩ = some (.int .i64 m.b) ∧ w.cell? ⟨(ad.add (i * 3)).block, (ad.add (i * 3)).off + 2, none⟩ = some (.int .i64 m.t)
  bound : ∀ m ∈ L, (-9223372036854775808 ≤ m.a ∧ m.a ≤ 9223372036854775807) ∧ (-9223372036854775808 ≤ m.b ∧ m.b ≤ 9223372036854775807) ∧ (-9223372036854775808 ≤ m.t ∧ m.t ≤ 9223372036854775807)
theorem MgSee.below {w w' : World} {A : Option Addr} {n : Nat} {L : List Mg} (h : MgSee w A n L) (hb : Below w.heap.size w w') : MgSee w' A n L :=
  ⟨h.len, h.fit, fun i m hm => by
    obtain ⟨ad, h1, h2, h3, h4⟩ := h.at_ i m hm
    exact ⟨ad, h1, (hb.cell (World.block_lt_of_cell? w _ h2)).trans h2, (hb.cell (World.block_lt_of_cell? w _ h3)).trans h3, (hb.cell (World.block_lt_of_cell? w _ h4)).trans h4⟩, h.bound⟩
theorem MgSee.drewN {w : World} {A : Option Addr} {n : Nat} {L : List Mg} (h : MgSee w A n L) (q : Nat) : MgSee (w.drewN q) A n L := h.below (below_drewN (Below.refl _ _) q)
theorem MgSee.upto {w : World} {A : Option Addr} {n : Nat} {L : List Mg} (h : MgSee w A n L) (q : Nat) (hq : q ≤ n) : MgSee w A q (L.take q) where
  len := by rw [List.length_take, h.len]; omega
  fit := Nat.le_trans hq h.fit
  at_ := fun i m hm => by
    rw [List.getElem?_take] at hm
    split at hm
    · exact h.at_ i m hm
    · cases hm
  bound := fun m hm => h.bound m (List.mem_of_mem_take hm)

set_option maxHeartbeats 4000000 in
set_option maxRecDepth 100000 in
theorem r5merged_any (w : World) (A : Option Addr) (n c : Nat) (L : List Mg) (ha : MgSee w A n L) (a b : Int) :
    Calls Try.prog 29 #[.slice A n c, .int .i64 a, .int .i64 b] w fun e w' => e = .returned (.bool (mergedB L a b)) ∧ w' = w := by
  have HA := Lib.hid ha
  have HLA := Lib.hid ha.len
  have hn63 : n ≤ 9223372036854775807 := ha.fit
  obtain ⟨R, hR⟩ : ∃ R, R = mergedB L a b := ⟨_, rfl⟩
  rw [← hR]
  have HR := Lib.hid hR
  clear ha hR
  go_enter Try.func29, Try.ntmps29
  go_wp2
  go_loop [7] (fun i => ∃ k : Nat, k ≤ n ∧ i = .int .i64 k ∧ mergedB (L.take k) a b = false) (fun i => n - (intOf i).toNat)
  case atStart => exact ⟨0, by omega, rfl, rfl⟩
  case round =>
    obtain ⟨k, hk, rfl, hno⟩ := hrel
    have HNO := Lib.hid hno
    clear hno
    rcases Nat.lt_or_ge k n with hlt | hge
    · have hlt' : (k : Int) < (n : Int) := by omega
      obtain ⟨m, hm⟩ : ∃ m, L[k]? = some m := ⟨_, List.getElem?_eq_getElem (by rw [HLA.out]; exact hlt)⟩
      obtain ⟨pa, rfl, ea, eb, -⟩ := HA.out.at_ k m hm
      have hup := mergedB_take hm a b
      rw [HNO.out, Bool.false_or] at hup
      have HM := Lib.hid hm
      clear hm
      by_cases h1 : m.a = a
      · have d1 : (m.a == a) = true := by simpa using h1
        by_cases h2 : m.b = b
        · have d2 : (m.b == b) = true := by simpa using h2
          have hfin : R = true := by
            rw [HR.out]
            unfold mergedB
            rw [List.any_eq_true]
            exact ⟨m, List.mem_of_getElem? HM.out, by rw [d1, d2]; rfl⟩
          have HF := Lib.hid hfin
          clear h1 h2 hfin hup
          go_wp2
          go_ret
          exact ⟨by rw [HF.out]; rfl, rfl⟩
        · have d2 : (m.b == b) = false := by simpa using h2
          rw [d1, d2] at hup
          have HUP := Lib.hid hup
          clear h1 h2 hup
          go_wp2
          go_round
          case rel => exact ⟨k + 1, by omega, by go_num, HUP.out⟩
          case measure => simp [intOf]; omega
      · have d1 : (m.a == a) = false := by simpa using h1
        rw [d1, Bool.false_and] at hup
        have HUP := Lib.hid hup
        clear h1 hup
        go_wp2
        go_round
        case rel => exact ⟨k + 1, by omega, by go_num, HUP.out⟩
        case measure => simp [intOf]; omega
    · obtain rfl : k = n := by omega
      have hlz : ¬ ((k : Int) < (k : Int)) := by omega
      have hfin : R = false := by
        rw [HR.out, ← HNO.out, List.take_of_length_le (by rw [HLA.out]; exact Nat.le_refl _)]
      have HF := Lib.hid hfin
      clear hfin
      go_wp2
      go_ret
      exact ⟨by rw [HF.out]; rfl, rfl⟩
theorem r5merged_is (w : World) (A : Option Addr) (n c : Nat) (L : List Mg) (ha : MgSee w A n L) (a b : Int) {r : Bool} (hr : mergedB L a b = r) :
    Calls Try.prog 29 #[.slice A n c, .int .i64 a, .int .i64 b] w fun e w' => e = .returned (.bool r) ∧ w' = w := by
  have h := r5merged_any w A n c L ha a b
  rw [hr] at h
  exact h
theorem mergeInfo : (Try.prog.info? 46).map (fun i => (i.zero, i.size, i.bytes)) = some (some (.agg #[.int .i64 0, .int .i64 0, .int .i64 0]), 3, 24) := by kernel_rfl
set_option maxRecDepth 100000 in
theorem mslice_to (w : World) (A : Option Addr) (n c p : Nat) (h : p ≤ c) : (Instr.slice 27 (.slice A n c) none (some (.int .i64 p)) none).run Try.prog w = .ok (.slice A p c) w := by
  obtain ⟨i0, hi, hz0, hz1, hz2⟩ := info_parts mergeInfo
  rw [run_slice_h (P := Try.prog) (w := w) 27 A n c Try.underlying27 .i64 p (by omega) (by omega)]
  have he : Try.prog.elem 27 = 46 := by kernel_rfl
  rw [he]
  have hs : (sizeOf 46).run Try.prog w = Result.ok i0.size w := by
    rw [run_sizeOf w hi]
    unfold Program.cellsOf
    rw [hi]
    rfl
  rw [hs]
  simp [Result.andThen, sliced, Addr.add]
end Go.Proofs.Ytimbimnbaoaboaa
