/- Where a text stands in another one; the document's at, Prefix, Suffix, Infix, Right. -/
import Derived.Test.YtjmpngghjbiajaaKRows
import Derived.Test.YtjmpngghjbiajaaKStr
import Derived.Test.YtjmpngghjbiajaaKInts
import Derived.Deep.QuietTactic
import Derived.BigQuiet
namespace Go.Proofs.Ytjmpngghjbiajaa
open Go.RowKit Go.Maps Go.WideMaps

def atB (t : Nm) (i : Int) (s : Nm) : Bool := decide (0 ≤ i) && (decide (i + s.length ≤ t.length) && ((t.drop i.toNat).take s.length == s))

set_option maxHeartbeats 4000000 in
set_option maxRecDepth 100000 in
theorem r7at_any (w : World) (A B : Option Addr) (n m ca cb : Nat) (t s : Nm) (ha : BytesIn w A n t) (hb : BytesIn w B m s) (hc : n ≤ ca) (hm : m ≤ 1099511627776) (i : Int) (h1 : -4398046511104 ≤ i) (h2 : i ≤ 4398046511104) :
    Calls Try.prog 25 #[.slice A n ca, .int .i64 i, .slice B m cb] w fun e w' => e = .returned (.bool (atB t i s)) ∧ ∃ q, w' = w.drewN q := by
  have hlt : t.length = n := by have := ha.2.1.len; simpa using this
  have hls : s.length = m := by have := hb.2.1.len; simpa using this
  obtain ⟨R, hR⟩ : ∃ R, R = atB t i s := ⟨_, rfl⟩
  rw [← hR]
  unfold atB at hR
  rw [hlt, hls] at hR
  have HA := Lib.hid ha
  have HB := Lib.hid hb
  clear ha hb
  by_cases hi : 0 ≤ i
  · have d1 : decide (0 ≤ i) = true := by simpa using hi
    have hadd : IntKind.i64.wrap (i + (m : Int)) = i + (m : Int) := IntWalk.i64_in _ (by omega)
    by_cases hfit : i + (m : Int) ≤ (n : Int)
    · have d2 : decide (i + (m : Int) ≤ (n : Int)) = true := by simpa using hfit
      rw [d1, d2] at hR
      simp only [Bool.true_and] at hR
      obtain ⟨I, rfl⟩ : ∃ I : Nat, i = I := ⟨i.toNat, by omega⟩
      rw [Int.toNat_natCast] at hR
      obtain ⟨E, hE⟩ : ∃ E, E = I + m := ⟨_, rfl⟩
      have hEz : (I : Int) + (m : Int) = (E : Int) := by omega
      have s3 : ∀ w, (Instr.slice 23 (.slice A n ca) (some (.int .i64 I)) (some (.int .i64 E)) none).run Try.prog w = .ok (.slice (cutAddr A I ca) m (ca - I)) w := fun w => by
        have h := slice_both w A n ca I E (by omega) (by omega)
        rw [h, show E - I = m by omega]
      have hsub := HA.out.sub hc I E (by omega) (by omega)
      rw [hE, drop_take', Nat.add_sub_cancel_left] at hsub
      have cv1 := fun q => str_of (hsub.drewN q) (ca - I)
      have cv2 := fun q => str_of (HB.out.drewN q) cb
      rw [hEz] at hadd d2
      have d3 : decide (E ≤ n) = true := by simp; omega
      have HRR := Lib.hid hR
      clear hR hsub hE hfit hi hlt hls
      go_enter Try.func25, Try.ntmps25
      go_wp2
      go_quiet (fail)
      go_wp2
      go_ret
      exact ⟨by rw [HRR.out]; rfl, _, rfl⟩
    · have d2 : decide (i + (m : Int) ≤ (n : Int)) = false := by simpa using hfit
      rw [d1, d2] at hR
      have HRR := Lib.hid hR
      clear hR hfit hi hlt hls
      go_enter Try.func25, Try.ntmps25
      go_wp2
      go_quiet (fail)
      go_wp2
      go_ret
      exact ⟨by rw [HRR.out]; rfl, _, rfl⟩
  · have d1 : decide (0 ≤ i) = false := by simpa using hi
    rw [d1] at hR
    have HRR := Lib.hid hR
    clear hR hi hlt hls
    go_enter Try.func25, Try.ntmps25
    go_wp2
    go_quiet (fail)
    go_wp2
    go_ret
    exact ⟨by rw [HRR.out]; rfl, _, rfl⟩
end Go.Proofs.Ytjmpngghjbiajaa
