/- TrieMore. -/
import Derived.Test.YtjmpngghjbiajaaTLMath
namespace Go.Proofs.Ytjmpngghjbiajaa
open Go.RowKit Go.Maps Go.WideMaps
set_option linter.unusedSimpArgs false

/-- A row of integers of known length has come back. -/
theorem found_len {w : World} {l : List Int} {n : Nat} {f : FuncId} {args : Array Value} (h : Calls Try.prog f args w (Found w l)) (hl : l.length = n) :
    Calls Try.prog f args w fun e w' => ∃ A c, e = .returned (.slice A n c) ∧ IntsIn w' A n l ∧ Below w.heap.size w w' := by
  subst hl
  exact h

set_option maxHeartbeats 8000000 in
set_option maxRecDepth 100000 in
theorem trieMore_any (W : World) (A : Option Addr) (n ca : Nat) (L : List Nm) (hl : RowsSz W A n L) (B : Option Addr) (m cb : Nat) (s : Nm) (hs : BytesSz W B m s) (C : Option Addr) (p cp : Nat) (u : Nm) (hu : BytesSz W C p u) :
    Calls Try.prog 5 #[.slice A n ca, .slice B m cb, .slice C p cp] W fun e w' => e = .returned (.bool true) ∧ Below W.heap.size W w' := by
  obtain ⟨i0, hi, hz0, hz1, hz2⟩ := info_parts byteInfo
  have hep := eqTrieNil
  have HL := Lib.hid hl
  have HS := Lib.hid hs
  have HU := Lib.hid hu
  have hmz : m ≤ 140737488351232 := hs.2
  have hlen := hl.1.len
  have HLEN := Lib.hid hlen
  clear hl hs hu hlen
  go_enter Try.func5, Try.ntmps5
  go_wp2_with fail
  refine (trieHead_any _).mono ?_
  rintro e w1 ⟨rfl, hb1⟩
  have HB1 := Lib.hid hb1
  clear hb1
  cases hr : rightB L with
  | false =>
    have HN := Lib.hid (tnew_none w1 A n ca L (HL.out.1.below HB1.out) (by have := HL.out.2.2; omega) hr)
    clear hr
    go_wp2_with fail
    refine HN.out.mono ?_
    rintro e w2 ⟨rfl, rfl⟩
    go_wp2
    go_ret
    exact ⟨rfl, HB1.out⟩
  | true =>
    have hn512 : L.length ≤ 512 := by
      rcases Nat.lt_or_ge 512 L.length with h | h
      · rw [rightB_long h] at hr; cases hr
      · exact h
    have HN := Lib.hid (tnew_any w1 A n ca L (HL.out.1.below HB1.out) hr)
    have HL512 := Lib.hid hn512
    clear hr hn512
    go_wp2_with fail
    refine HN.out.mono ?_
    rintro e w2 ⟨b, rfl, hb2, hT2⟩
    have HB2 := Lib.hid (below_then HB1.out hb2 HB1.out.size)
    have HT2 := Lib.hid hT2
    have HG := Lib.hid (great_any w2 A B n m ca cb L ((HL.out.1.below HB1.out).below hb2) HL.out.2.1 HL.out.2.2 HS.out.2)
    clear hb2 hT2
    go_wp2_with fail
    refine HG.out.mono ?_
    rintro e w3 ⟨r, rfl, rfl, hrr⟩
    cases r with
    | true =>
      clear hrr
      go_wp2
      go_ret
      exact ⟨rfl, HB2.out⟩
    | false =>
      obtain ⟨hm, -, -⟩ := hrr rfl
      clear hrr
      by_cases hp : 1000 < p
      · have d1 : decide ((1000 : Int) < (p : Int)) = true := by simp; omega
        go_wp2
        go_ret
        exact ⟨rfl, HB2.out⟩
      · have d1 : decide ((1000 : Int) < (p : Int)) = false := by simp; omega
        have HS3 := Lib.hid (HS.out.1.below HB2.out)
        have HU3 := Lib.hid (HU.out.1.below HB2.out)
        go_wp2_with (at_builtin; refine wpList_append_src _ rfl (.tmp 35) (.tmp 36) 23 rfl w3.heap.size 5 i0 (.int .u8 0) 1 Try.underlying23 hi hz0 hz1 hz2 rfl _ 0 [] rfl (World.ownsRow_made w3 #[] 0 (Nat.le_refl _) (Nat.zero_le _) rfl) B m cb (s.map byteV) rfl (HS3.out.below ((Below.refl _ w3).alloc (Nat.le_refl _) (.cells #[] 5))).2.1 (u8_one s) (by unfold maxLen; omega) (by omega) (by simp) ?_; intro v4 w4 hown hgrow hloc; rw [Nat.zero_add, List.nil_append] at hown; obtain ⟨A4, c4, hv⟩ := own_slice hown; subst hv; have HO4 := Lib.hid hown; have HB4 : Hid (Below w3.heap.size w3 w4) := Lib.hid ((((Below.refl _ w3).alloc (Nat.le_refl _) (.cells #[] 5)).grown hgrow (by simp) (fun k e => by cases e; exact Nat.le_refl _))); clear hown hgrow hloc; go_wp2_with (at_builtin; refine wpList_append_src _ rfl (.tmp 37) (.tmp 38) 23 rfl w3.heap.size 5 i0 (.int .u8 0) 1 Try.underlying23 hi hz0 hz1 hz2 rfl _ m _ rfl HO4.out C p cp (u.map byteV) rfl (HU3.out.below HB4.out).2.1 (u8_one u) (by unfold maxLen; omega) (by omega) HB4.out.size ?_; intro v5 w5 hown hgrow hloc; obtain ⟨A5, c5, hv⟩ := own_slice hown; subst hv; have HO5 := Lib.hid hown; have hgr2 : w4.grownBy w5 (Value.slice A4 m c4).ownBlock := hgrow; have HB5 : Hid (Below w3.heap.size w3 w5) := Lib.hid (HB4.out.grown hgr2 HB4.out.size (fun k e => by have h := HO4.out.lt k e; exact h.1)); clear hown hgrow hgr2 hloc))
        have hlong : BytesIn w5 A5 (m + p) (s ++ u) := BytesIn.own (by rw [List.map_append]; exact HO5.out) (by unfold maxLen; omega)
        have ht5 := HT2.out.below HB5.out
        have HLG5 := Lib.hid hlong
        have HS5 := Lib.hid (HS3.out.below HB5.out)
        have HU5 := Lib.hid (HU3.out.below HB5.out)
        have HT5 := Lib.hid ht5
        have HW5 := Lib.hid (below_then HB2.out HB5.out HB2.out.size)
        clear hlong ht5 HO4 HB4
        obtain ⟨P0, hP0⟩ : ∃ P, P = preL L (s ++ u) := ⟨_, rfl⟩
        have HC := Lib.hid (prefix_is HT5.out (by have := HL512.out; omega) A5 (m + p) c5 (s ++ u) HLG5.out (by omega) hP0.symm)
        have HP0 := Lib.hid hP0
        clear hP0
        go_wp2_with fail
        refine HC.out.mono ?_
        rintro e w6 ⟨X0, x0, rfl, hi0, hb⟩
        have HI0 := Lib.hid hi0
        have HW6 := Lib.hid (below_then HW5.out hb HW5.out.size)
        have HT6 := Lib.hid (HT5.out.below hb)
        have HLG6 := Lib.hid (HLG5.out.below hb)
        have HS6 := Lib.hid (HS5.out.below hb)
        have HU6 := Lib.hid (HU5.out.below hb)
        clear hb hi0 HC
        obtain ⟨P1, hP1⟩ : ∃ P, P = preL L s := ⟨_, rfl⟩
        have HC := Lib.hid (prefix_is HT6.out (by have := HL512.out; omega) B m cb s HS6.out (by omega) hP1.symm)
        have HP1 := Lib.hid hP1
        clear hP1
        go_wp2_with fail
        refine HC.out.mono ?_
        rintro e w7 ⟨X1, x1, rfl, hi1, hb⟩
        have HI1 := Lib.hid hi1
        have HW7 := Lib.hid (below_then HW6.out hb HW6.out.size)
        have HT7 := Lib.hid (HT6.out.below hb)
        have HLG7 := Lib.hid (HLG6.out.below hb)
        have HS7 := Lib.hid (HS6.out.below hb)
        have HU7 := Lib.hid (HU6.out.below hb)
        replace HI0 := Lib.hid (HI0.out.below hb)
        clear hb hi1 HC
        obtain ⟨P2, hP2⟩ : ∃ P, P = infL L (s ++ u) := ⟨_, rfl⟩
        have HC := Lib.hid (infix_is HT7.out (by have := HL512.out; omega) A5 (m + p) c5 (s ++ u) HLG7.out (by omega) hP2.symm)
        have HP2 := Lib.hid hP2
        clear hP2
        go_wp2_with fail
        refine HC.out.mono ?_
        rintro e w8 ⟨X2, x2, rfl, hi2, hb⟩
        have HI2 := Lib.hid hi2
        have HW8 := Lib.hid (below_then HW7.out hb HW7.out.size)
        have HT8 := Lib.hid (HT7.out.below hb)
        have HLG8 := Lib.hid (HLG7.out.below hb)
        have HS8 := Lib.hid (HS7.out.below hb)
        have HU8 := Lib.hid (HU7.out.below hb)
        replace HI0 := Lib.hid (HI0.out.below hb)
        replace HI1 := Lib.hid (HI1.out.below hb)
        clear hb hi2 HC
        obtain ⟨P3, hP3⟩ : ∃ P, P = infL L s := ⟨_, rfl⟩
        have HC := Lib.hid (infix_is HT8.out (by have := HL512.out; omega) B m cb s HS8.out (by omega) hP3.symm)
        have HP3 := Lib.hid hP3
        clear hP3
        go_wp2_with fail
        refine HC.out.mono ?_
        rintro e w9 ⟨X3, x3, rfl, hi3, hb⟩
        have HI3 := Lib.hid hi3
        have HW9 := Lib.hid (below_then HW8.out hb HW8.out.size)
        have HT9 := Lib.hid (HT8.out.below hb)
        have HLG9 := Lib.hid (HLG8.out.below hb)
        have HS9 := Lib.hid (HS8.out.below hb)
        have HU9 := Lib.hid (HU8.out.below hb)
        replace HI0 := Lib.hid (HI0.out.below hb)
        replace HI1 := Lib.hid (HI1.out.below hb)
        replace HI2 := Lib.hid (HI2.out.below hb)
        clear hb hi3 HC
        obtain ⟨P4, hP4⟩ : ∃ P, P = sufL L (s ++ u) := ⟨_, rfl⟩
        have HC := Lib.hid (suffix_is HT9.out (by have := HL512.out; omega) A5 (m + p) c5 (s ++ u) HLG9.out (by omega) hP4.symm)
        have HP4 := Lib.hid hP4
        clear hP4
        go_wp2_with fail
        refine HC.out.mono ?_
        rintro e w10 ⟨X4, x4, rfl, hi4, hb⟩
        have HI4 := Lib.hid hi4
        have HW10 := Lib.hid (below_then HW9.out hb HW9.out.size)
        have HT10 := Lib.hid (HT9.out.below hb)
        have HLG10 := Lib.hid (HLG9.out.below hb)
        have HS10 := Lib.hid (HS9.out.below hb)
        have HU10 := Lib.hid (HU9.out.below hb)
        replace HI0 := Lib.hid (HI0.out.below hb)
        replace HI1 := Lib.hid (HI1.out.below hb)
        replace HI2 := Lib.hid (HI2.out.below hb)
        replace HI3 := Lib.hid (HI3.out.below hb)
        clear hb hi4 HC
        obtain ⟨P5, hP5⟩ : ∃ P, P = sufL L u := ⟨_, rfl⟩
        have HC := Lib.hid (suffix_is HT10.out (by have := HL512.out; omega) C p cp u HU10.out (by omega) hP5.symm)
        have HP5 := Lib.hid hP5
        clear hP5
        go_wp2_with fail
        refine HC.out.mono ?_
        rintro e w11 ⟨X5, x5, rfl, hi5, hb⟩
        have HI5 := Lib.hid hi5
        have HW11 := Lib.hid (below_then HW10.out hb HW10.out.size)
        have HT11 := Lib.hid (HT10.out.below hb)
        have HLG11 := Lib.hid (HLG10.out.below hb)
        have HS11 := Lib.hid (HS10.out.below hb)
        have HU11 := Lib.hid (HU10.out.below hb)
        replace HI0 := Lib.hid (HI0.out.below hb)
        replace HI1 := Lib.hid (HI1.out.below hb)
        replace HI2 := Lib.hid (HI2.out.below hb)
        replace HI3 := Lib.hid (HI3.out.below hb)
        replace HI4 := Lib.hid (HI4.out.below hb)
        clear hb hi5 HC
        have HN1 := Lib.hid (by rw [HP0.out, HP1.out]; exact pre_more L s u : ∀ v ∈ P0, v ∈ P1)
        have HN2 := Lib.hid (by rw [HP2.out, HP3.out]; exact inf_more L s u : ∀ v ∈ P2, v ∈ P3)
        have HN3 := Lib.hid (by rw [HP4.out, HP5.out]; exact suf_more L s u : ∀ v ∈ P4, v ∈ P5)
        go_wp2
        go_loopw [16] (fun i wr => ∃ k : Nat, k ≤ P0.length ∧ i = .int .i64 k ∧ w11 = wr) (fun i _ => P0.length - (intOf i).toNat)
        case atStart => exact ⟨0, by omega, rfl, rfl⟩
        case round =>
          obtain ⟨k, hk, rfl, rfl⟩ := hrel
          have hpl : P0.length ≤ 9223372036854775807 := HI0.out.1
          rcases Nat.lt_or_ge k P0.length with hlt | hge
          · have hlt' : (k : Int) < (P0.length : Int) := by omega
            have p0 : (0 : Int) ≤ (k : Int) := by omega
            obtain ⟨pa, y, rfl, hy, cy, -, -⟩ := HI0.out.at k hlt
            have hy2 := HN1.out y (List.mem_of_getElem? hy)
            have HC := Lib.hid (has_any w11 X1 P1.length x1 P1 HI1.out y)
            rw [decide_eq_true hy2] at HC
            have hw5 : IntKind.i64.wrap ((k : Int) + 1) = (k : Int) + 1 := IntWalk.i64_in _ (by omega)
            clear hy hy2
            go_wp2_with fail
            refine HC.out.mono ?_
            rintro e w12 ⟨rfl, rfl⟩
            go_wp2
            go_roundw
            case rel => exact ⟨k + 1, by omega, by go_num, by first | rfl | trivial⟩
            case measure => simp [intOf]; omega
          · obtain rfl : k = P0.length := by omega
            have hlz : ¬ ((P0.length : Int) < (P0.length : Int)) := by omega
            go_wp2
            go_loopw [17] (fun i wr => ∃ k : Nat, k ≤ P2.length ∧ i = .int .i64 k ∧ w11 = wr) (fun i _ => P2.length - (intOf i).toNat)
            case atStart => exact ⟨0, by omega, rfl, rfl⟩
            case round =>
              obtain ⟨k, hk, rfl, rfl⟩ := hrel
              have hpl : P2.length ≤ 9223372036854775807 := HI2.out.1
              rcases Nat.lt_or_ge k P2.length with hlt | hge
              · have hlt' : (k : Int) < (P2.length : Int) := by omega
                have p0 : (0 : Int) ≤ (k : Int) := by omega
                obtain ⟨pa, y, rfl, hy, cy, -, -⟩ := HI2.out.at k hlt
                have hy2 := HN2.out y (List.mem_of_getElem? hy)
                have HC := Lib.hid (has_any w11 X3 P3.length x3 P3 HI3.out y)
                rw [decide_eq_true hy2] at HC
                have hw5 : IntKind.i64.wrap ((k : Int) + 1) = (k : Int) + 1 := IntWalk.i64_in _ (by omega)
                clear hy hy2
                go_wp2_with fail
                refine HC.out.mono ?_
                rintro e w12 ⟨rfl, rfl⟩
                go_wp2
                go_roundw
                case rel => exact ⟨k + 1, by omega, by go_num, by first | rfl | trivial⟩
                case measure => simp [intOf]; omega
              · obtain rfl : k = P2.length := by omega
                have hlz : ¬ ((P2.length : Int) < (P2.length : Int)) := by omega
                go_wp2
                go_loopw [18] (fun i wr => ∃ k : Nat, k ≤ P4.length ∧ i = .int .i64 k ∧ w11 = wr) (fun i _ => P4.length - (intOf i).toNat)
                case atStart => exact ⟨0, by omega, rfl, rfl⟩
                case round =>
                  obtain ⟨k, hk, rfl, rfl⟩ := hrel
                  have hpl : P4.length ≤ 9223372036854775807 := HI4.out.1
                  rcases Nat.lt_or_ge k P4.length with hlt | hge
                  · have hlt' : (k : Int) < (P4.length : Int) := by omega
                    have p0 : (0 : Int) ≤ (k : Int) := by omega
                    obtain ⟨pa, y, rfl, hy, cy, -, -⟩ := HI4.out.at k hlt
                    have hy2 := HN3.out y (List.mem_of_getElem? hy)
                    have HC := Lib.hid (has_any w11 X5 P5.length x5 P5 HI5.out y)
                    rw [decide_eq_true hy2] at HC
                    have hw5 : IntKind.i64.wrap ((k : Int) + 1) = (k : Int) + 1 := IntWalk.i64_in _ (by omega)
                    clear hy hy2
                    go_wp2_with fail
                    refine HC.out.mono ?_
                    rintro e w12 ⟨rfl, rfl⟩
                    go_wp2
                    go_roundw
                    case rel => exact ⟨k + 1, by omega, by go_num, by first | rfl | trivial⟩
                    case measure => simp [intOf]; omega
                  · obtain rfl : k = P4.length := by omega
                    have hlz : ¬ ((P4.length : Int) < (P4.length : Int)) := by omega
                    have HCA := Lib.hid (found_len (prefix_is HT11.out (by have := HL512.out; omega) none 0 0 [] (BytesIn.nil _) (by omega) rfl) ((pre_all L).trans HLEN.out))
                    have dn : ((n : Int) == (n : Int)) = true := by simp
                    go_wp2_with fail
                    refine HCA.out.mono ?_
                    rintro e w12 ⟨X6, x6, rfl, -, hb⟩
                    have HW12 := Lib.hid (below_then HW11.out hb HW11.out.size)
                    have HT12 := Lib.hid (HT11.out.below hb)
                    have HCB := Lib.hid (found_len (suffix_is HT12.out (by have := HL512.out; omega) none 0 0 [] (BytesIn.nil _) (by omega) rfl) ((suf_all L).trans HLEN.out))
                    clear hb
                    go_wp2_with fail
                    refine HCB.out.mono ?_
                    rintro e w13 ⟨X7, x7, rfl, -, hb⟩
                    have HW13 := Lib.hid (below_then HW12.out hb HW12.out.size)
                    have HT13 := Lib.hid (HT12.out.below hb)
                    have HCC := Lib.hid (found_len (infix_is HT13.out (by have := HL512.out; omega) none 0 0 [] (BytesIn.nil _) (by omega) rfl) ((inf_all L).trans HLEN.out))
                    clear hb
                    go_wp2_with fail
                    refine HCC.out.mono ?_
                    rintro e w14 ⟨X8, x8, rfl, -, hb⟩
                    have HW14 := Lib.hid (below_then HW13.out hb HW13.out.size)
                    clear hb
                    go_wp2
                    go_ret
                    exact ⟨rfl, HW14.out⟩
end Go.Proofs.Ytjmpngghjbiajaa
