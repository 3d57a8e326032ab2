/- The contract of the document's Text: the bytes of tokens. -/
import Derived.Test.YtjnbilcanfhkjaaTWords
import Derived.Test.YtjnbilcanfhkjaaKTok
namespace Go.Proofs.Ytjnbilcanfhkjaa
open Go.RowKit Go.Maps Go.WideMaps

set_option maxHeartbeats 4000000 in
set_option maxRecDepth 100000 in
theorem r8Text_any (w : World) (A B : Option Addr) (n m ca cb : Nat) (L : List Nm) (l : List Int) (ha : RowsSee w A n L) (hb : IntsIn w B m l) (hF : (textUp L l m).length ≤ 1099511627776) :
    Calls Try.prog 20 #[.slice A n ca, .slice B m cb] w fun e w' => ∃ v, e = .returned v ∧ w'.ownsRow w.heap.size 5 1 v (textUp L l m).length ((textUp L l m).map byteV) ∧ Below w.heap.size w w' := by
  obtain ⟨i0, hi, hz0, hz1, hz2⟩ := info_parts byteInfo
  have HA := Lib.hid ha
  have HB := Lib.hid hb
  have HLA := Lib.hid ha.len
  have HF := Lib.hid hF
  have hn63 : n ≤ 9223372036854775807 := ha.fit
  have hm63 : m ≤ 9223372036854775807 := hb.1
  clear ha hb hF
  go_enter Try.func20, Try.ntmps20
  go_wp2
  go_loopw [5, 6] (fun v i wr => ∃ k : Nat, k ≤ m ∧ i = .int .i64 k ∧ wr.ownsRow w.heap.size 5 1 v (textUp L l k).length ((textUp L l k).map byteV) ∧ Below w.heap.size w wr) (fun _ i _ => m - (intOf i).toNat)
  case atStart => exact ⟨0, by omega, rfl, ⟨rfl, .inl ⟨rfl, rfl⟩⟩, Below.refl _ _⟩
  case round =>
    obtain ⟨k, hk, rfl, hO, hW⟩ := hrel
    have HO := Lib.hid hO
    have HW := Lib.hid hW
    have hsz := hW.size
    clear hO hW
    obtain ⟨Av, cv, hv⟩ := own_slice HO.out
    subst hv
    rcases Nat.lt_or_ge k m with hlt | hge
    · have hlt' : (k : Int) < (m : Int) := by omega
      have p0 : (0 : Int) ≤ (k : Int) := by omega
      obtain ⟨pb, i, rfl, hii, eb, hb1, hb2⟩ := (HB.out.below HW.out).at k hlt
      have HI := Lib.hid hii
      clear hii
      by_cases hyes : 0 ≤ i ∧ i < (n : Int)
      · obtain ⟨I, rfl⟩ : ∃ I : Nat, i = I := ⟨i.toNat, by omega⟩
        have d1 : decide ((0 : Int) ≤ (I : Int)) = true := decide_eq_true hyes.1
        have d2 : decide ((I : Int) < (n : Int)) = true := decide_eq_true hyes.2
        have d3 : decide (I < n) = true := decide_eq_true (by omega)
        have q0 : (0 : Int) ≤ (I : Int) := hyes.1
        have q1 : (I : Int) < (n : Int) := hyes.2
        clear hyes
        obtain ⟨x, hx⟩ : ∃ x, L[I]? = some x := ⟨_, List.getElem?_eq_getElem (by rw [HLA.out]; omega)⟩
        obtain ⟨pa, Ax, cx, rfl, ea, ecx, ex⟩ := (HA.out.below HW.out).at_ I x hx
        have hT := textUp_yes HI.out hx
        have hmo := textUp_mono L l (show k + 1 ≤ m by omega)
        rw [hT, List.length_append] at hmo
        have hFF := HF.out
        have HT := Lib.hid hT
        have EX := Lib.hid ex
        clear hx ex hT
        go_wp2_with (at_builtin; refine wpList_append_src _ rfl (.tmp 27) (.tmp 34) 23 rfl w.heap.size 5 i0 (.int .u8 0) 1 Try.underlying23 hi hz0 hz1 hz2 rfl _ (textUp L l k).length _ rfl HO.out Ax x.length cx (x.map byteV) rfl EX.out.2.1 (u8_one x) (by unfold maxLen; omega) (by omega) hsz ?_; intro v3 w3 hown hgrow _; have HO3 := Lib.hid hown; have HB3 := Lib.hid (HW.out.grown hgrow hsz (fun g hg => (HO.out.lt g hg).1)); clear hown hgrow)
        go_roundw
        case rel =>
          refine ⟨k + 1, by omega, by go_num, ?_, HB3.out⟩
          rw [HT.out, List.length_append, List.map_append]
          exact HO3.out
        case measure => simp [intOf]; omega
      · have hT := textUp_no HI.out (by rw [HLA.out]; exact hyes)
        have HT := Lib.hid hT
        clear hT
        by_cases h0 : 0 ≤ i
        · have d1 : decide ((0 : Int) ≤ i) = true := decide_eq_true h0
          have d2 : decide (i < (n : Int)) = false := decide_eq_false (fun e => hyes ⟨h0, e⟩)
          clear hyes
          go_wp2
          go_roundw
          case rel =>
            refine ⟨k + 1, by omega, by go_num, ?_, HW.out⟩
            rw [HT.out]
            exact HO.out
          case measure => simp [intOf]; omega
        · have d1 : decide ((0 : Int) ≤ i) = false := decide_eq_false h0
          clear hyes
          go_wp2
          go_roundw
          case rel =>
            refine ⟨k + 1, by omega, by go_num, ?_, HW.out⟩
            rw [HT.out]
            exact HO.out
          case measure => simp [intOf]; omega
    · obtain rfl : k = m := by omega
      have hlz : ¬ ((k : Int) < (k : Int)) := by omega
      go_wp2
      go_ret
      exact ⟨_, rfl, HO.out, HW.out⟩
end Go.Proofs.Ytjnbilcanfhkjaa
