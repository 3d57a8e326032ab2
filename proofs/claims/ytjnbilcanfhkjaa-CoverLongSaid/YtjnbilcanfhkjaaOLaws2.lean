/- CoverLong. -/
import Derived.Test.YtjnbilcanfhkjaaOHead
import Derived.Test.YtjnbilcanfhkjaaOLMath
import Derived.Test.YtjnbilcanfhkjaaOEq
import Derived.Deep.QuietTactic
import Derived.BigQuiet
namespace Go.Proofs.Ytjnbilcanfhkjaa
open Go.RowKit Go.Maps Go.WideMaps
set_option linter.unusedSimpArgs false

theorem own_le {w : World} {base : Nat} {D : Option Addr} {k c n : Nat} {xs : List Value} (h : w.ownsRow base 5 1 (.slice D k c) n xs) : n ≤ c := by
  obtain ⟨A', c', e1, e2⟩ := own_cap h
  injection e1 with _ _ e3
  omega
set_option maxHeartbeats 8000000 in
set_option maxRecDepth 100000 in
theorem coverLong_any {K : World → Nat → List Nm → Prop} (hK : CoverOk K) (W : World) (A : Option Addr) (n ca : Nat) (L : List Nm) (hl : RowsSz W A n L) (B : Option Addr) (m cb : Nat) (s : Nm) (hs : BytesSz W B m s) (hcb : m ≤ cb) (C : Option Addr) (p cp : Nat) (u : Nm) (hu : BytesSz W C p u) :
    Calls Try.prog 7 #[.slice A n ca, .slice B m cb, .slice C p cp] W fun e w' => e = .returned (.bool true) ∧ Below W.heap.size W w' := by
  obtain ⟨i0, hi, hz0, hz1, hz2⟩ := info_parts byteInfo
  have hep := eqCoverNil
  have HK := Lib.hid hK
  have HL := Lib.hid hl
  have HS := Lib.hid hs
  have HU := Lib.hid hu
  have HLEN := Lib.hid hl.1.len
  have hsl : s.length = m := by have := hs.1.2.1.len; simpa using this
  have HSL := Lib.hid hsl
  have hmz : m ≤ 140737488351232 := hs.2
  clear hl hs hu hK hsl
  go_enter Try.func7, Try.ntmps7
  go_wp2_with fail
  refine (coverHead_any HK.out _).mono ?_
  rintro e w1 ⟨rfl, hb1⟩
  have HB1 := Lib.hid hb1
  clear hb1
  cases hr : rightB L with
  | false =>
    have HN := Lib.hid (HK.out.new_none w1 A n ca L (HL.out.1.below HB1.out) (by have := HL.out.2.2; omega) hr)
    clear hr
    go_wp2_with fail
    refine HN.out.mono ?_
    rintro e w2 ⟨rfl, hb2⟩
    have HB2 := Lib.hid (below_then HB1.out hb2 HB1.out.size)
    clear hb2
    go_wp2
    go_ret
    exact ⟨rfl, HB2.out⟩
  | true =>
    have HN := Lib.hid (HK.out.new w1 A n ca L (HL.out.1.below HB1.out) hr)
    have HR := Lib.hid hr
    clear hr
    go_wp2_with fail
    refine HN.out.mono ?_
    rintro e w2 ⟨b, rfl, hb2, hk2⟩
    have HB2 := Lib.hid (below_then HB1.out hb2 HB1.out.size)
    have HK2 := Lib.hid hk2
    have HG := Lib.hid (coverGreat_any w2 A B none n m 0 ca cb 0 L ((HL.out.1.below HB1.out).below hb2) HL.out.2.1 HL.out.2.2 HS.out.2 (by omega))
    clear hb2 hk2
    go_wp2_with fail
    refine HG.out.mono ?_
    rintro e w3 ⟨r, rfl, hw3, hrr⟩
    obtain rfl := hw3
    cases r with
    | true =>
      clear hrr
      go_wp2
      go_ret
      exact ⟨rfl, HB2.out⟩
    | false =>
      obtain ⟨hm, -, -, -, -⟩ := hrr rfl
      clear hrr
      by_cases hp : 1000 < p
      · have d1 : decide ((1000 : Int) < (p : Int)) = true := by simp; omega
        go_wp2
        go_ret
        exact ⟨rfl, HB2.out⟩
      · have d1 : decide ((1000 : Int) < (p : Int)) = false := by simp; omega
        by_cases hm0 : m = 0
        · have d2 : ((m : Int) == 0) = true := by simp; omega
          go_wp2
          go_ret
          exact ⟨rfl, HB2.out⟩
        · have d2 : ((m : Int) == 0) = false := by simp; omega
          have HS3 := Lib.hid (HS.out.1.below HB2.out)
          have HC := Lib.hid (of_is HK.out HK2.out HR.out B m cb s HS3.out hcb (by omega) rfl)
          obtain ⟨a, ha⟩ : ∃ a, a = alUp L s L.length := ⟨_, rfl⟩
          rw [← ha] at HC
          have HA := Lib.hid ha
          clear ha
          go_wp2_with fail
          refine HC.out.mono ?_
          rintro e w4 ⟨X4, x4, rfl, hi4, hb4⟩
          have HI4 := Lib.hid hi4
          have HB4 := Lib.hid (below_then HB2.out hb4 HB2.out.size)
          have HK4 := Lib.hid (HK.out.below HK2.out hb4)
          clear hi4 hb4 HC
          have HS4 := Lib.hid (HS.out.1.below HB4.out)
          have HU4 := Lib.hid (HU.out.1.below HB4.out)
          go_wp2_with (at_builtin; refine wpList_append_src _ rfl (.tmp 39) (.tmp 40) 23 rfl w4.heap.size 5 i0 (.int .u8 0) 1 Try.underlying23 hi hz0 hz1 hz2 rfl _ 0 [] rfl (World.ownsRow_made w4 #[] 0 (Nat.le_refl _) (Nat.zero_le _) rfl) B m cb (s.map byteV) rfl (HS4.out.below ((Below.refl _ w4).alloc (Nat.le_refl _) (.cells #[] 5))).2.1 (u8_one s) (by unfold maxLen; omega) (by omega) (by simp) ?_; intro v5 w5 hown hgrow hloc; rw [Nat.zero_add, List.nil_append] at hown; obtain ⟨A5, c5, hv⟩ := own_slice hown; subst hv; have HO5 := Lib.hid hown; have HB5 : Hid (Below w4.heap.size w4 w5) := Lib.hid ((((Below.refl _ w4).alloc (Nat.le_refl _) (.cells #[] 5)).grown hgrow (by simp) (fun k e => by cases e; exact Nat.le_refl _))); clear hown hgrow hloc; go_wp2_with (at_builtin; refine wpList_append_src _ rfl (.tmp 41) (.tmp 42) 23 rfl w4.heap.size 5 i0 (.int .u8 0) 1 Try.underlying23 hi hz0 hz1 hz2 rfl _ m _ rfl HO5.out C p cp (u.map byteV) rfl (HU4.out.below HB5.out).2.1 (u8_one u) (by unfold maxLen; omega) (by omega) HB5.out.size ?_; intro v6 w6 hown hgrow hloc; obtain ⟨A6, c6, hv⟩ := own_slice hown; subst hv; have HO6 := Lib.hid hown; have hgr2 : w5.grownBy w6 (Value.slice A5 m c5).ownBlock := hgrow; have HB6 : Hid (Below w4.heap.size w4 w6) := Lib.hid (HB5.out.grown hgr2 HB5.out.size (fun k e => by have h := HO5.out.lt k e; exact h.1)); clear hown hgrow hgr2 hloc))
          have hlong : BytesIn w6 A6 (m + p) (s ++ u) := BytesIn.own (by rw [List.map_append]; exact HO6.out) (by unfold maxLen; omega)
          have HC := Lib.hid (of_is HK.out (HK.out.below HK4.out HB6.out) HR.out A6 (m + p) c6 (s ++ u) hlong (own_le HO6.out) (by omega) rfl)
          have hfil := alUp_filter (L := L) (s := s) (u := u) (by have := HSL.out; omega) L.length
          rw [← HA.out] at hfil
          obtain ⟨P, hP⟩ : ∃ P, P = leftP L (s ++ u) := ⟨_, rfl⟩
          rw [← hP] at hfil
          rw [hfil] at HC
          have HPP := Lib.hid hP
          have HKK := Lib.hid (HK.out.below HK4.out HB6.out)
          have HB66 := Lib.hid (below_then HB4.out HB6.out HB4.out.size)
          have HI6 := Lib.hid (HI4.out.below HB6.out)
          have hfl : (a.filter P).length ≤ a.length := List.length_filter_le _ _
          clear hlong hfil hP
          go_wp2_with fail
          refine HC.out.mono ?_
          rintro e w7 ⟨X7, x7, rfl, hi7, hb7⟩
          have HI7 := Lib.hid hi7
          have HB7 := Lib.hid (below_then HB66.out hb7 HB66.out.size)
          have HK7 := Lib.hid (HK.out.below HKK.out hb7)
          have HJ7 := Lib.hid (HI6.out.below hb7)
          clear hi7 hb7 HC
          have HS7 := Lib.hid (HS.out.1.below HB7.out)
          have HAF := Lib.hid (by rw [HA.out]; exact al_few HR.out s : a.length ≤ 8192)
          go_wp2
          go_loopw [12, 13] (fun c i wr => ∃ k : Nat, k ≤ a.length ∧ i = .int .i64 k ∧ c = .int .i64 ((a.take k).filter P).length ∧ Below w7.heap.size w7 wr) (fun _ i _ => a.length - (intOf i).toNat)
          case atStart => exact ⟨0, by omega, rfl, rfl, Below.refl _ _⟩
          case round =>
            obtain ⟨k, hk, rfl, rfl, hB⟩ := hrel
            have HB := Lib.hid hB
            have ha8 := HAF.out
            have hcl : ((a.take k).filter P).length ≤ k := Nat.le_trans (List.length_filter_le _ _) (by rw [List.length_take]; omega)
            clear hB
            rcases Nat.lt_or_ge k a.length with hlt | hge
            · have hlt' : (k : Int) < (a.length : Int) := by omega
              have p0 : (0 : Int) ≤ (k : Int) := by omega
              have hw5 : IntKind.i64.wrap ((k : Int) + 1) = (k : Int) + 1 := IntWalk.i64_in _ (by omega)
              obtain ⟨pa, x, rfl, hx, a0, a1, hf0, hf1⟩ := (HJ7.out.below HB.out).at k hlt
              have HX := Lib.hid hx
              have HF := Lib.hid (⟨hf0, hf1⟩ : fits64 x.1 ∧ fits64 x.2)
              have a0' : ∀ q, (wr.drewN q).cell? (pa.add (k * 2)) = some (.int .i64 x.1) := fun _ => a0
              have a1' : ∀ q, (wr.drewN q).cell? ⟨(pa.add (k * 2)).block, (pa.add (k * 2)).off + 1, none⟩ = some (.int .i64 x.2) := fun _ => a1
              obtain ⟨c, hc⟩ : ∃ c, c = ((a.take k).filter P).length := ⟨_, rfl⟩
              rw [← hc] at hcl ⊢
              have c0 : (0 : Int) ≤ (c : Int) := by omega
              cases hpx : P x with
              | true =>
                obtain ⟨q1, q2⟩ := filter_yes hx hpx
                rw [← hc] at q1 q2
                have hclt := (List.getElem?_eq_some_iff.1 q1).1
                have d3 : decide ((c : Int) < ((a.filter P).length : Int)) = true := by simpa using hclt
                have d3n : decide (c < (a.filter P).length) = true := by simpa using hclt
                have hcli : (c : Int) < ((a.filter P).length : Int) := by omega
                have hw6 : IntKind.i64.wrap ((c : Int) + 1) = (c : Int) + 1 := IntWalk.i64_in _ (by omega)
                obtain ⟨pb, y, rfl, hy, b0, b1, -, -⟩ := (HI7.out.below HB.out).at c hclt
                obtain rfl : x = y := by rw [q1] at hy; exact Option.some.inj hy
                have b0' : ∀ q, (wr.drewN q).cell? (pb.add (c * 2)) = some (.int .i64 x.1) := fun _ => b0
                have b1' : ∀ q, (wr.drewN q).cell? ⟨(pb.add (c * 2)).block, (pb.add (c * 2)).off + 1, none⟩ = some (.int .i64 x.2) := fun _ => b1
                have HQ2 := Lib.hid q2
                clear hx q1 q2 hy hc hpx a0 a1 b0 b1 hf0 hf1
                go_wp2_with fail
                go_quiet (fail)
                have HBQ := Lib.hid (below_drewN HB.out nq)
                go_wp2
                go_roundw
                case rel => exact ⟨k + 1, by omega, by go_num, by rw [HQ2.out]; go_num, HBQ.out⟩
                case measure => simp [intOf]; omega
              | false =>
                have hnx := filter_no hx hpx
                rw [← hc] at hnx
                have hsure := al_sure (L := L) (s := s) (u := u) (Nat.le_refl _) (p := x) (by rw [← HA.out]; exact List.mem_of_getElem? hx) (by rw [← HPP.out]; exact hpx)
                have HNX := Lib.hid hnx
                have HSU := Lib.hid hsure
                by_cases hclt : c < (a.filter P).length
                · have d3 : decide ((c : Int) < ((a.filter P).length : Int)) = true := by simpa using hclt
                  have d3n : decide (c < (a.filter P).length) = true := by simpa using hclt
                  have hcli : (c : Int) < ((a.filter P).length : Int) := by omega
                  obtain ⟨pb, y, rfl, hy, b0, b1, -, -⟩ := (HI7.out.below HB.out).at c hclt
                  have hne := filter_ne hy hpx
                  have b0' : ∀ q, (wr.drewN q).cell? (pb.add (c * 2)) = some (.int .i64 y.1) := fun _ => b0
                  have b1' : ∀ q, (wr.drewN q).cell? ⟨(pb.add (c * 2)).block, (pb.add (c * 2)).off + 1, none⟩ = some (.int .i64 y.2) := fun _ => b1
                  obtain ⟨x1, x2⟩ := x
                  obtain ⟨y1, y2⟩ := y
                  simp only at a0' a1' b0' b1'
                  have hne2 : ((y1 == x1) && (y2 == x2)) = false := by
                    rw [Bool.eq_false_iff]
                    intro e
                    simp at e
                    exact hne (Prod.ext e.1 e.2)
                  have heq := eqAlign y1 y2 x1 x2 hne2
                  clear hx hy hc hpx a0 a1 b0 b1 hf0 hf1 hnx hsure hne hne2
                  go_wp2_with fail
                  go_quiet (fail)
                  have HBQ := Lib.hid (below_drewN HB.out nq)
                  have HC := Lib.hid (sure_is HK.out (HK.out.below HK7.out HBQ.out) HR.out B m cb s (HS7.out.below HBQ.out) hcb (by omega) HF.out.1 HF.out.2 HSU.out)
                  go_wp2_with fail
                  refine HC.out.mono ?_
                  rintro e w8 ⟨rfl, hb8⟩
                  have HB8 := Lib.hid (below_then HBQ.out hb8 HBQ.out.size)
                  clear hb8 HC
                  go_wp2
                  go_roundw
                  case rel => exact ⟨k + 1, by omega, by go_num, by rw [HNX.out], HB8.out⟩
                  case measure => simp [intOf]; omega
                · have d3 : decide ((c : Int) < ((a.filter P).length : Int)) = false := by simpa using hclt
                  have d3n : decide (c < (a.filter P).length) = false := by simpa using hclt
                  have hcli : ¬ (c : Int) < ((a.filter P).length : Int) := by omega
                  obtain ⟨x1, x2⟩ := x
                  simp only at a0' a1'
                  clear hx hc hpx a0 a1 hf0 hf1 hnx hsure
                  go_wp2_with fail
                  go_quiet (fail)
                  have HBQ := Lib.hid (below_drewN HB.out nq)
                  have HC := Lib.hid (sure_is HK.out (HK.out.below HK7.out HBQ.out) HR.out B m cb s (HS7.out.below HBQ.out) hcb (by omega) HF.out.1 HF.out.2 HSU.out)
                  go_wp2_with fail
                  refine HC.out.mono ?_
                  rintro e w8 ⟨rfl, hb8⟩
                  have HB8 := Lib.hid (below_then HBQ.out hb8 HBQ.out.size)
                  clear hb8 HC
                  go_wp2
                  go_roundw
                  case rel => exact ⟨k + 1, by omega, by go_num, by rw [HNX.out], HB8.out⟩
                  case measure => simp [intOf]; omega
            · have hge' : ¬ (k : Int) < (a.length : Int) := by omega
              have d1 : decide ((k : Int) < (a.length : Int)) = false := by simpa using hge
              have hall : a.take k = a := List.take_of_length_le hge
              rw [hall]
              have d4 : (((a.filter P).length : Int) == ((a.filter P).length : Int)) = true := by simp
              have HFIN := Lib.hid (below_then HB7.out HB.out HB7.out.size)
              go_wp2
              go_ret
              exact ⟨rfl, HFIN.out⟩
end Go.Proofs.Ytjnbilcanfhkjaa
