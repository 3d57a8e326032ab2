/- The contract of the document's Right. -/
import Derived.Test.YtjnbilcanfhkjaaTWords
namespace Go.Proofs.Ytjnbilcanfhkjaa
open Go.RowKit Go.Maps Go.WideMaps

set_option maxHeartbeats 4000000 in
set_option maxRecDepth 100000 in
theorem r7Right_any (w : World) (A : Option Addr) (n ca : Nat) (L : List Nm) (ha : RowsSee w A n L) :
    Calls Try.prog 11 #[.slice A n ca] w fun e w' => e = .returned (.bool (rightB L)) ∧ w' = w := by
  have HA := Lib.hid ha
  have hla := ha.len
  have hn63 : n ≤ 9223372036854775807 := ha.fit
  clear ha
  obtain ⟨R, hR⟩ : ∃ R, R = rightB L := ⟨_, rfl⟩
  rw [← hR]
  have HR := Lib.hid hR
  have HLA := Lib.hid hla
  clear hR hla
  by_cases hbig : 512 < n
  · have d1 : decide ((512 : Int) < (n : Int)) = true := by simp; omega
    have hf : R = false := by rw [HR.out, rightB_long (by rw [HLA.out]; exact hbig)]
    have HF := Lib.hid hf
    clear hf
    go_enter Try.func11, Try.ntmps11
    go_wp2
    go_ret
    exact ⟨by rw [HF.out]; rfl, rfl⟩
  · have d1 : decide ((512 : Int) < (n : Int)) = false := by simp; omega
    go_enter Try.func11, Try.ntmps11
    go_wp2
    go_loopw [3] (fun i wr => ∃ k : Nat, k ≤ n ∧ i = .int .i64 k ∧ wr = w ∧ ∀ j x, j < k → L[j]? = some x → List.length x ≤ 16) (fun i _ => n - (intOf i).toNat)
    case atStart => exact ⟨0, by omega, rfl, rfl, fun j x h => by omega⟩
    case round =>
      obtain ⟨k, hk, rfl, rfl, hall⟩ := hrel
      have HALL := Lib.hid hall
      clear hall
      rcases Nat.lt_or_ge k n with hlt | hge
      · have hlt' : (k : Int) < (n : Int) := by omega
        have p0 : (0 : Int) ≤ (k : Int) := by omega
        obtain ⟨x, hx⟩ : ∃ x, L[k]? = some x := ⟨_, List.getElem?_eq_getElem (by rw [HLA.out]; exact hlt)⟩
        obtain ⟨pa, Ax, cx, rfl, ea, ecx, ex⟩ := HA.out.at_ k x hx
        have hxx := Lib.hid hx
        clear hx ex
        by_cases hw : 16 < x.length
        · have d2 : decide ((16 : Int) < (x.length : Int)) = true := by simp; omega
          have hf : R = false := by rw [HR.out, rightB_wide hxx.out hw]
          have HF := Lib.hid hf
          clear hf
          go_wp2
          go_ret
          exact ⟨by rw [HF.out]; rfl, rfl⟩
        · have d2 : decide ((16 : Int) < (x.length : Int)) = false := by simp; omega
          go_wp2
          go_roundw
          case rel =>
            refine ⟨k + 1, by omega, by go_num, by first | rfl | trivial, fun j y hj hy => ?_⟩
            rcases Nat.lt_or_ge j k with h | h
            · exact HALL.out j y h hy
            · obtain rfl : j = k := by omega
              rw [hxx.out] at hy
              obtain rfl := Option.some.inj hy
              omega
          case measure => simp [intOf]; omega
      · obtain rfl : k = n := by omega
        have hlz : ¬ ((k : Int) < (k : Int)) := by omega
        have hf : R = true := by
          rw [HR.out]
          refine rightB_yes (by rw [HLA.out]; omega) fun j y hy => HALL.out j y ?_ hy
          have := (List.getElem?_eq_some_iff.1 hy).1
          have hl := HLA.out
          omega
        have HF := Lib.hid hf
        clear hf
        go_wp2
        go_ret
        exact ⟨by rw [HF.out]; rfl, rfl⟩

end Go.Proofs.Ytjnbilcanfhkjaa
