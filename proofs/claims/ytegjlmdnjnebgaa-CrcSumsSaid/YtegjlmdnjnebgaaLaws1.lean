/- CrcTells and CrcMore, walked. -/
import Derived.Test.YtegjlmdnjnebgaaHead
namespace Go.Proofs.Ytegjlmdnjnebgaa
open Go.RowKit Go.Maps Go.WideMaps

theorem sum_eq (w : World) (args : Array Value) (A : Option Addr) (n c : Nat) (l : Nm) (h : args = #[.slice A n c]) (hl : BytesIn w A n l) :
    Calls Try.prog 10 args w fun e w' => e = .returned (.int .u32 (sumN l)) ∧ Below w.heap.size w w' := by
  rw [h]; exact sum_any w A n c l hl
theorem more_eq (w : World) (args : Array Value) (s r : Nat) (hs : s < 4294967296) (A : Option Addr) (n c : Nat) (l : Nm) (hr : moreN s l = r) (h : args = #[.int .u32 s, .slice A n c]) (hl : BytesIn w A n l) :
    Calls Try.prog 12 args w fun e w' => e = .returned (.int .u32 r) ∧ Below w.heap.size w w' := by
  rw [h, ← hr]; exact more_any w s hs A n c l hl

set_option maxRecDepth 100000 in
theorem refSum_any (w : World) (A : Option Addr) (n c : Nat) (l : Nm) (hl : BytesIn w A n l) :
    Calls Try.prog 11 #[.slice A n c] w fun e w' => e = .returned (.int .u32 (sumN l)) ∧ Below w.heap.size w w' := by
  have HL := Lib.hid hl
  clear hl
  go_enter Try.func11, Try.ntmps11
  go_wp2_with fail
  refine (refMore_any w 0 (by decide) A n c l HL.out).mono ?_
  rintro e w' ⟨rfl, hb⟩
  have HB := Lib.hid hb
  clear hb
  go_wp2
  go_ret
  exact ⟨rfl, HB.out⟩

set_option maxHeartbeats 4000000 in
set_option maxRecDepth 100000 in
theorem crcTells_any (w : World) (A : Option Addr) (n c : Nat) (l : Nm) (hl : BytesIn w A n l) (s : Nat) (hs : s < 4294967296) :
    Calls Try.prog 3 #[.slice A n c, .int .u32 s] w fun e w' => e = .returned (.bool true) ∧ Below w.heap.size w w' := by
  have HL := Lib.hid hl
  clear hl
  have hn63 : n ≤ 9223372036854775807 := HL.out.1
  go_enter Try.func3, Try.ntmps3
  go_wp2_with fail
  refine (head_any w).mono ?_
  rintro e w1 ⟨rfl, hb⟩
  have B1 := Lib.hid hb
  have L1 := Lib.hid (HL.out.below hb)
  clear hb
  by_cases hbig : 100000 < n
  · have hbz : (100000 : Int) < (n : Int) := by omega
    go_wp2
    go_ret
    exact ⟨rfl, B1.out⟩
  · have hbz : ¬ (100000 : Int) < (n : Int) := by omega
    go_wp2_with fail
    refine (sum_any w1 A n c l L1.out).mono ?_
    rintro e w2 ⟨rfl, hb⟩
    have B2 := Lib.hid (below_then B1.out hb B1.out.size)
    have L2 := Lib.hid (L1.out.below hb)
    clear hb
    go_wp2_with fail
    refine (refSum_any w2 A n c l L2.out).mono ?_
    rintro e w3 ⟨rfl, hb⟩
    have B3 := Lib.hid (below_then B2.out hb B2.out.size)
    have L3 := Lib.hid (L2.out.below hb)
    clear hb
    go_wp2_with fail
    refine (more_any w3 s hs A n c l L3.out).mono ?_
    rintro e w4 ⟨rfl, hb⟩
    have B4 := Lib.hid (below_then B3.out hb B3.out.size)
    have L4 := Lib.hid (L3.out.below hb)
    clear hb
    go_wp2_with fail
    refine (refMore_any w4 s hs A n c l L4.out).mono ?_
    rintro e w5 ⟨rfl, hb⟩
    have B5 := Lib.hid (below_then B4.out hb B4.out.size)
    clear hb
    go_wp2
    go_ret
    exact ⟨rfl, B5.out⟩

set_option maxHeartbeats 4000000 in
set_option maxRecDepth 100000 in
theorem crcMore_any (w : World) (A : Option Addr) (n c : Nat) (l : Nm) (hl : BytesIn w A n l) (a b : Nat) (ha : a < 4294967296) (hb : b < 4294967296) :
    Calls Try.prog 8 #[.int .u32 a, .int .u32 b, .slice A n c] w fun e w' => e = .returned (.bool true) ∧ Below w.heap.size w w' := by
  have HL := Lib.hid hl
  clear hl
  have hn63 : n ≤ 9223372036854775807 := HL.out.1
  go_enter Try.func8, Try.ntmps8
  go_wp2_with fail
  refine (head_any w).mono ?_
  rintro e w1 ⟨rfl, hb⟩
  have B1 := Lib.hid hb
  have L1 := Lib.hid (HL.out.below hb)
  clear hb
  by_cases hbig : 100000 < n
  · have hbz : (100000 : Int) < (n : Int) := by omega
    go_wp2
    go_ret
    exact ⟨rfl, B1.out⟩
  · have hbz : ¬ (100000 : Int) < (n : Int) := by omega
    go_wp2_with fail
    refine (more_any w1 a ha A n c l L1.out).mono ?_
    rintro e w2 ⟨rfl, hb⟩
    have B2 := Lib.hid (below_then B1.out hb B1.out.size)
    have L2 := Lib.hid (L1.out.below hb)
    clear hb
    go_wp2_with fail
    refine (more_any w2 b (by assumption) A n c l L2.out).mono ?_
    rintro e w3 ⟨rfl, hb⟩
    have B3 := Lib.hid (below_then B2.out hb B2.out.size)
    clear hb
    by_cases hab : a = b
    · subst hab
      go_wp2_with fail
      refine (more_any w3 a ha none 0 0 [] (BytesIn.nil _)).mono ?_
      rintro e w4 ⟨rfl, hb⟩
      have B4 := Lib.hid (below_then B3.out hb B3.out.size)
      clear hb
      rw [moreN_nil]
      go_wp2
      go_ret
      exact ⟨rfl, B4.out⟩
    · have hne : ¬ ((moreN a l : Nat) : Int) = ((moreN b l : Nat) : Int) := fun e => hab (moreN_inj ha (by assumption) l (by omega))
      have hne2 : ¬ (a : Int) = (b : Int) := by omega
      have q1 : (((moreN a l : Nat) : Int) == ((moreN b l : Nat) : Int)) = false := by simpa using fun e => hne (by omega)
      have q2 : ((a : Int) == (b : Int)) = false := by simpa using fun e => hne2 (by omega)
      go_wp2_with fail
      refine (more_any w3 a ha none 0 0 [] (BytesIn.nil _)).mono ?_
      rintro e w4 ⟨rfl, hb⟩
      have B4 := Lib.hid (below_then B3.out hb B3.out.size)
      clear hb
      rw [moreN_nil]
      go_wp2
      go_ret
      exact ⟨rfl, B4.out⟩
end Go.Proofs.Ytegjlmdnjnebgaa
