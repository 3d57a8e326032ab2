/- The contract of the document's May: may a text begin at a shift of a token? -/
import Derived.Test.YtjnbilcanfhkjaaTWords
import Derived.Lib.MinMax
namespace Go.Proofs.Ytjnbilcanfhkjaa
open Go.RowKit Go.Maps Go.WideMaps

def mayB (t s : Nm) (i : Int) : Bool := decide (0 ≤ i) && (decide (i < t.length) && (decide (0 < s.length) && ((t.drop i.toNat).take (min (t.length - i.toNat) s.length) == s.take (min (t.length - i.toNat) s.length))))

set_option maxHeartbeats 4000000 in
set_option maxRecDepth 100000 in
theorem r8May_any (w : World) (A B : Option Addr) (n m ca cb : Nat) (t s : Nm) (ha : BytesIn w A n t) (hb : BytesIn w B m s) (hca : n ≤ ca) (hcb : m ≤ cb) (i : Int) :
    Calls Try.prog 26 #[.slice A n ca, .slice B m cb, .int .i64 i] w fun e w' => e = .returned (.bool (mayB t s i)) ∧ ∃ q, w' = w.drewN q := by
  have hlt : t.length = n := by have := ha.2.1.len; simpa using this
  have hls : s.length = m := by have := hb.2.1.len; simpa using this
  have hn63 : n ≤ 9223372036854775807 := ha.1
  have hm63 : m ≤ 9223372036854775807 := hb.1
  obtain ⟨R, hR⟩ : ∃ R, R = mayB t s i := ⟨_, rfl⟩
  rw [← hR]
  unfold mayB at hR
  rw [hlt, hls] at hR
  have HA := Lib.hid ha
  have HB := Lib.hid hb
  clear ha hb
  by_cases hi : 0 ≤ i
  · have d1 : decide (i < 0) = false := decide_eq_false (by omega)
    rw [decide_eq_true hi] at hR
    by_cases hn : i < (n : Int)
    · have d2 : decide ((n : Int) ≤ i) = false := decide_eq_false (by omega)
      rw [decide_eq_true hn] at hR
      by_cases hm : 0 < m
      · have d3 : ((m : Int) == 0) = false := by simp; omega
        rw [decide_eq_true hm] at hR
        simp only [Bool.true_and] at hR
        obtain ⟨I, rfl⟩ : ∃ I : Nat, i = I := ⟨i.toNat, by omega⟩
        rw [Int.toNat_natCast] at hR
        obtain ⟨K, hK⟩ : ∃ K, K = min (n - I) m := ⟨_, rfl⟩
        rw [← hK] at hR
        have s1 : ∀ w, (Instr.slice 23 (.slice A n ca) (some (.int .i64 I)) none none).run Try.prog w = .ok (.slice (cutAddr A I ca) (n - I) (ca - I)) w := fun w => slice_from w A n ca I (by omega)
        have s2 : ∀ w, (Instr.slice 23 (.slice (cutAddr A I ca) (n - I) (ca - I)) none (some (.int .i64 K)) none).run Try.prog w = .ok (.slice (cutAddr A I ca) K (ca - I)) w := fun w => slice_to w _ (n - I) (ca - I) K (by omega)
        have s3 : ∀ w, (Instr.slice 23 (.slice B m cb) none (some (.int .i64 K)) none).run Try.prog w = .ok (.slice B K cb) w := fun w => slice_to w _ m cb K (by omega)
        have hm1 : ∀ w ty, (Builtin.min_ #[3, 3] ty #[.int .i64 ((n - I : Nat) : Int), .int .i64 m]).run Try.prog w = .ok (.int .i64 K) w := fun w ty => by
          rw [Lib.run_min_ints, show min ((n - I : Nat) : Int) (m : Int) = (K : Int) by omega]
        have hsub := HA.out.sub hca I (I + K) (by omega) (by omega)
        rw [drop_take', Nat.add_sub_cancel_left] at hsub
        have cv1 := fun q => str_of (hsub.drewN q) (ca - I)
        have cv2 := fun q => str_of ((HB.out.upto K (by omega)).drewN q) cb
        have HRR := Lib.hid hR
        clear hR hsub hK hi hlt hls
        go_enter Try.func26, Try.ntmps26
        go_wp2
        go_quiet (fail)
        go_wp2
        go_ret
        exact ⟨by rw [HRR.out]; rfl, _, rfl⟩
      · have d3 : ((m : Int) == 0) = true := by simp; omega
        rw [decide_eq_false hm] at hR
        have HRR := Lib.hid hR
        clear hR hlt hls
        go_enter Try.func26, Try.ntmps26
        go_wp2
        go_ret
        exact ⟨by rw [HRR.out]; rfl, 0, rfl⟩
    · have d2 : decide ((n : Int) ≤ i) = true := decide_eq_true (by omega)
      rw [decide_eq_false hn] at hR
      have HRR := Lib.hid hR
      clear hR hlt hls
      go_enter Try.func26, Try.ntmps26
      go_wp2
      go_ret
      exact ⟨by rw [HRR.out]; rfl, 0, rfl⟩
  · have d1 : decide (i < 0) = true := decide_eq_true (by omega)
    rw [decide_eq_false hi] at hR
    have HRR := Lib.hid hR
    clear hR hlt hls
    go_enter Try.func26, Try.ntmps26
    go_wp2
    go_ret
    exact ⟨by rw [HRR.out]; rfl, 0, rfl⟩
end Go.Proofs.Ytjnbilcanfhkjaa
