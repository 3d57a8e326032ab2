/- CrcPieces, walked. -/
import Derived.Test.YtegjlmdnjnebgaaLaws1
import Derived.Deep.RegionHeld3
import Derived.Deep.QuietTactic
import Derived.BigQuiet
namespace Go.Proofs.Ytegjlmdnjnebgaa
open Go.RowKit Go.Maps Go.WideMaps

set_option maxHeartbeats 4000000 in
set_option maxRecDepth 100000 in
theorem crcPieces_any (w : World) (A : Option Addr) (n c : Nat) (l : Nm) (hl : BytesIn w A n l) (hc : n ≤ c) (t : Nat) (ht : t < 65536) :
    Calls Try.prog 4 #[.slice A n c, .int .u16 t] w fun e w' => e = .returned (.bool true) ∧ Below w.heap.size w w' := by
  have HL := Lib.hid hl
  clear hl
  have hn63 : n ≤ 9223372036854775807 := HL.out.1
  go_enter Try.func4, Try.ntmps4
  go_wp2_with fail
  refine (head_any w).mono ?_
  rintro e w1 ⟨rfl, hb⟩
  have B1 := Lib.hid hb
  have L1 := Lib.hid (HL.out.below hb)
  clear hb
  by_cases hbig : 100000 < n
  · have hbz : (100000 : Int) < (n : Int) := by omega
    go_wp2
    go_ret
    exact ⟨rfl, B1.out⟩
  · have hbz : ¬ (100000 : Int) < (n : Int) := by omega
    obtain ⟨K, hK⟩ : ∃ K, K = t % (n + 1) := ⟨_, rfl⟩
    have hKn : K ≤ n := by have := Nat.mod_lt t (show 0 < n + 1 by omega); omega
    have hKz : (t : Int) % ((n : Int) + 1) = (K : Int) := by rw [hK]; simp
    clear hK
    have s1 : ∀ w, (Instr.slice 22 (.slice A n c) none (some (.int .i64 K)) none).run Try.prog w = .ok (.slice A K c) w := fun w => slice_to w A n c K (by omega)
    have s2 : ∀ w, (Instr.slice 22 (.slice A n c) (some (.int .i64 K)) none none).run Try.prog w = .ok (.slice (cutAddr A K c) (n - K) (c - K)) w := fun w => slice_from w A n c K hKn
    have hcat : moreN (sumN (l.take K)) ((l.take n).drop K) = sumN l := by
      have hl : l.length = n := by have := HL.out.2.1.len; simpa using this
      rw [show l.take n = l from List.take_of_length_le (by omega)]
      unfold sumN
      rw [← moreN_append, List.take_append_drop]
    have h1 : sumN (l.take K) < 4294967296 := moreN_lt (by decide) _
    have h2 : sumN l < 4294967296 := moreN_lt (by decide) _
    have H1 := Lib.hid h1
    have H2 := Lib.hid h2
    have HC := Lib.hid hcat
    clear h1 h2 hcat
    have hnil := moreN_nil (sumN l)
    have hq : Still w A n l w1.drew := Still.drew ⟨B1.out, L1.out⟩
    go_wp2_with fail
    go_region_held3 (fun w' => Still w A n l w')
      (first | go_keep | exact hq | exact Still.then (by assumption) hb)
      (first
        | (go_at_call 10; refine (sum_eq _ _ A K c (l.take K) ?_ ?_).mono ?_; exact rfl; exact BytesIn.upto (Still.bytes (by assumption)) K hKn; rintro e w' ⟨rfl, hb⟩)
        | (go_at_call 10; refine (sum_eq _ _ A n c l ?_ ?_).mono ?_; exact rfl; exact Still.bytes (by assumption); rintro e w' ⟨rfl, hb⟩)
        | (go_at_call 12; refine (more_eq _ _ (sumN (l.take K)) _ H1.out (cutAddr A K c) (n - K) (c - K) ((l.take n).drop K) HC.out ?_ ?_).mono ?_; exact rfl; exact BytesIn.sub (Still.bytes (by assumption)) hc K n hKn (Nat.le_refl _); rintro e w' ⟨rfl, hb⟩)
        | (go_at_call 12; refine (more_eq _ _ (sumN l) _ H2.out none 0 0 [] hnil ?_ (BytesIn.nil _)).mono ?_; exact rfl; rintro e w' ⟨rfl, hb⟩))
    rename_i hHeld
    have hfin := Lib.hid (Below.size hHeld.below)
    clear hfin
    go_wp2
    go_ret
    exact ⟨rfl, Still.below (by assumption)⟩
end Go.Proofs.Ytegjlmdnjnebgaa
