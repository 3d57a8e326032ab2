/- May a token, may a merge be added? Are all single bytes there? -/
import Derived.Test.YtimbimnbaoaboaaVGrow5
import Derived.Test.YtimbimnbaoaboaaVVoc
namespace Go.Proofs.Ytimbimnbaoaboaa
open Go.RowKit Go.Maps Go.WideMaps
set_option linter.unusedSimpArgs false

theorem hasToken_is (w : World) (F : Nat → Prop) (b : Nat) (V : Voc) (hG : Grow w F b V) (A : Option Addr) (n c : Nat) (x : Nm) (hx : BytesIn w A n x) {r : Bool} (hr : decide (0 ≤ findT V.tok x) = r) :
    Calls Try.prog 44 #[at0 b, .slice A n c] w fun e w' => e = .returned (.bool r) ∧ Below w.heap.size w w' := by
  have h := hasToken_any w F b V hG A n c x hx
  rw [hr] at h
  exact h
theorem isFree_is (w : World) (F : Nat → Prop) (b : Nat) (V : Voc) (hG : Grow w F b V) (x y : Int) (hx : fits64 x) (hy : fits64 y) {r : Bool} (hr : (decide (0 ≤ x ∧ x < V.tok.length) && (decide (0 ≤ y ∧ y < V.tok.length) && !(mergedB V.mer x y))) = r) :
    Calls Try.prog 46 #[at0 b, .agg #[.int .i64 x, .int .i64 y]] w fun e w' => e = .returned (.bool r) ∧ Below w.heap.size w w' := by
  have h := isFree_any w F b V hG x y hx hy
  rw [hr] at h
  exact h

set_option maxHeartbeats 2000000 in
set_option maxRecDepth 100000 in
theorem mayAdd_any (w : World) (F : Nat → Prop) (b : Nat) (V : Voc) (hG : Grow w F b V) (A : Option Addr) (n c : Nat) (x : Nm) (hx : BytesIn w A n x) :
    Calls Try.prog 32 #[at0 b, .slice A n c] w fun e w' => e = .returned (.bool (decide (0 < n) && (decide (n ≤ 16) && decide (findT V.tok x < 0)))) ∧ Below w.heap.size w w' := by
  have HG := Lib.hid hG
  have HX := Lib.hid hx
  clear hG hx
  by_cases h0 : 0 < n
  · have z0 : (0 : Int) < (n : Int) := by omega
    by_cases h1 : n ≤ 16
    · have z1 : (n : Int) ≤ 16 := by omega
      rw [decide_eq_true h0, decide_eq_true h1]
      cases hr : decide (0 ≤ findT V.tok x) with
      | false =>
        have HR := Lib.hid hr
        have hneg : decide (findT V.tok x < 0) = true := by simp at hr; simpa using hr
        rw [hneg]
        clear hr hneg
        go_enter Try.func32, Try.ntmps32
        go_wp2_with fail
        refine (hasToken_is _ F b V HG.out A n c x HX.out HR.out).mono ?_
        rintro e w1 ⟨rfl, hb⟩
        have HB := Lib.hid hb
        clear hb
        go_wp2
        go_ret
        exact ⟨rfl, HB.out⟩
      | true =>
        have HR := Lib.hid hr
        have hneg : decide (findT V.tok x < 0) = false := by simp at hr; simpa using hr
        rw [hneg]
        clear hr hneg
        go_enter Try.func32, Try.ntmps32
        go_wp2_with fail
        refine (hasToken_is _ F b V HG.out A n c x HX.out HR.out).mono ?_
        rintro e w1 ⟨rfl, hb⟩
        have HB := Lib.hid hb
        clear hb
        go_wp2
        go_ret
        exact ⟨rfl, HB.out⟩
    · have z1 : ¬ (n : Int) ≤ 16 := by omega
      rw [decide_eq_false h1]
      go_enter Try.func32, Try.ntmps32
      go_wp2
      go_ret
      exact ⟨by simp, Below.refl _ _⟩
  · have z0 : ¬ (0 : Int) < (n : Int) := by omega
    rw [decide_eq_false h0]
    go_enter Try.func32, Try.ntmps32
    go_wp2
    go_ret
    exact ⟨rfl, Below.refl _ _⟩

theorem mayAdd_is (w : World) (F : Nat → Prop) (b : Nat) (V : Voc) (hG : Grow w F b V) (A : Option Addr) (n c : Nat) (x : Nm) (hx : BytesIn w A n x) {r : Bool} (hr : (decide (0 < n) && (decide (n ≤ 16) && decide (findT V.tok x < 0))) = r) :
    Calls Try.prog 32 #[at0 b, .slice A n c] w fun e w' => e = .returned (.bool r) ∧ Below w.heap.size w w' := by
  have h := mayAdd_any w F b V hG A n c x hx
  rw [hr] at h
  exact h

set_option maxHeartbeats 4000000 in
set_option maxRecDepth 100000 in
theorem hasSingles_any (w : World) (F : Nat → Prop) (b : Nat) (V : Voc) (hG : Grow w F b V) :
    Calls Try.prog 34 #[at0 b] w fun e w' => e = .returned (.bool ((List.range 256).all fun c => decide (0 ≤ findT V.tok [UInt8.ofNat c]))) ∧ Below w.heap.size w w' := by
  have HG := Lib.hid hG
  obtain ⟨R, hR⟩ : ∃ R, R = (List.range 256).all fun c => decide (0 ≤ findT V.tok [UInt8.ofNat c]) := ⟨_, rfl⟩
  rw [← hR]
  have HR := Lib.hid hR
  clear hG hR
  go_enter Try.func34, Try.ntmps34
  go_wp2
  go_loopw [4] (fun i wr => ∃ j : Nat, j ≤ 256 ∧ i = .int .i64 j ∧ Below w.heap.size w wr ∧ ∀ c, c < j → 0 ≤ findT V.tok [UInt8.ofNat c]) (fun i _ => 256 - (intOf i).toNat)
  case atStart => exact ⟨0, by omega, rfl, Below.refl _ _, fun c h => by omega⟩
  case round =>
    obtain ⟨j, hj, rfl, hB, hok⟩ := hrel
    have HB := Lib.hid hB
    have HOK := Lib.hid hok
    clear hB hok
    rcases Nat.lt_or_ge j 256 with hlt | hge
    · have hlt' : (j : Int) < 256 := by omega
      obtain ⟨x, rfl⟩ : ∃ x : UInt8, j = x.toNat := ⟨UInt8.ofNat j, by rw [UInt8.toNat_ofNat_of_lt' (by show _ < 256; omega)]⟩
      have hxx : UInt8.ofNat x.toNat = x := by simp
      have HXX := Lib.hid hxx
      have hin := const_in wr [x] (0, 0) (by unfold maxLen; simp)
      have hb1 := HB.out.alloc HB.out.size (.cells #[.int .u8 x.toNat] 5)
      have HB1 := Lib.hid hb1
      have HIN := Lib.hid hin
      have HG1 := Lib.hid (HG.out.kept hb1)
      clear hin hb1 hxx
      go_wp2_with fail
      cases hr : decide (0 ≤ findT V.tok [x]) with
      | false =>
        have HRR := Lib.hid hr
        refine (hasToken_is _ F b V HG1.out (some ⟨wr.heap.size, 0, none⟩) 1 1 [x] HIN.out HRR.out).mono ?_
        rintro e w1 ⟨rfl, hb⟩
        have HF := Lib.hid (below_then HB1.out hb HB1.out.size)
        have hfin : R = false := by
          rw [HR.out]
          exact all_range_false hlt (by rw [HXX.out]; exact hr)
        have HFIN := Lib.hid hfin
        clear hfin hb hr
        go_wp2
        go_ret
        exact ⟨by rw [HFIN.out]; rfl, HF.out⟩
      | true =>
        have HRR := Lib.hid hr
        refine (hasToken_is _ F b V HG1.out (some ⟨wr.heap.size, 0, none⟩) 1 1 [x] HIN.out HRR.out).mono ?_
        rintro e w1 ⟨rfl, hb⟩
        have HF := Lib.hid (below_then HB1.out hb HB1.out.size)
        clear hb hr
        go_wp2
        go_roundw
        case rel =>
          refine ⟨x.toNat + 1, by omega, by go_num, HF.out, fun c hc => ?_⟩
          rcases Nat.lt_or_ge c x.toNat with h | h
          · exact HOK.out c h
          · obtain rfl : c = x.toNat := by omega
            rw [HXX.out]
            exact of_decide_eq_true HRR.out
        case measure => simp [intOf]; omega
    · obtain rfl : j = 256 := by omega
      have hjz : ¬ (((256 : Nat) : Int) < 256) := by omega
      have hfin : R = true := by
        rw [HR.out]
        exact all_range_true fun c hc => decide_eq_true (HOK.out c hc)
      have HFIN := Lib.hid hfin
      clear hfin
      go_wp2
      go_ret
      exact ⟨by rw [HFIN.out]; rfl, HB.out⟩
end Go.Proofs.Ytimbimnbaoaboaa
