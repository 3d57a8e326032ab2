/- FrameMany, walked. -/
import Derived.Test.YtikibkagdjlhoaaFLaws3
namespace Go.Proofs.Ytikibkagdjlhoaa
open Go.RowKit Go.Maps Go.WideMaps Go.Shelf

set_option linter.unusedSimpArgs false in
set_option maxHeartbeats 8000000 in
set_option maxRecDepth 100000 in
theorem frameMany_any (w : World) (A : Option Addr) (n ca : Nat) (L : List Nm) (hL : RowsSz w A n L) (y : UInt8) :
    Calls Try.prog 6 #[.slice A n ca, .int .u8 y.toNat] w fun e w' => e = .returned (.bool true) ∧ Below w.heap.size w w' := by
  obtain ⟨i0, hi, hz0, hz1, hz2⟩ := info_parts byteInfo
  have HL := Lib.hid hL.1
  have HSZ := Lib.hid hL.2.1
  have n63 := hL.2.2
  have HLN := Lib.hid hL.1.len
  have hy8 := y.toNat_lt
  have hn5 : ∀ w : World, Src (w.alloc (.cells #[.int .u8 0, .int .u8 y.toNat, .int .u8 1, .int .u8 y.toNat, .int .u8 y.toNat] 5)) (some ⟨w.heap.size, 0, none⟩) 5 ([0, y, 1, y, y].map byteV) := fun w => new_src w [0, y, 1, y, y] (by unfold maxLen; simp)
  have HN5 := Lib.hid hn5
  clear hL hn5
  go_enter Try.func6, Try.ntmps6
  go_wp2_with fail
  refine (frameHead_any w).mono ?_
  rintro e w1 ⟨rfl, hb⟩
  have B1 := Lib.hid hb
  clear hb
  go_wp2
  go_loop [6, 7] (fun s i => ∃ (t a : Nat), a ≤ n ∧ i = .int .i64 a ∧ s = .int .i64 t ∧ t = totF (L.take a) ∧ t ≤ 600000000000000) (fun _ i => n - (intOf i).toNat)
  case atStart => exact ⟨0, 0, by omega, rfl, rfl, by simp [totF], by omega⟩
  case round =>
    obtain ⟨t, a, ha, rfl, rfl, ht, ht6⟩ := hrel
    have HT := Lib.hid ht
    clear ht
    rcases Nat.lt_or_ge a n with hlt | hge
    · have hlt' : (a : Int) < (n : Int) := by omega
      have p0 : (0 : Int) ≤ (a : Int) := by omega
      by_cases hbig : 100000 < t
      · have hbz : ¬ (t : Int) ≤ 100000 := by omega
        have hbz2 : (100000 : Int) < (t : Int) := by omega
        go_wp2
        go_ret
        exact ⟨rfl, B1.out⟩
      have hbz : (t : Int) ≤ 100000 := by omega
      obtain ⟨x, hx⟩ : ∃ x, L[a]? = some x := ⟨L[a]'(by rw [HLN.out]; exact hlt), List.getElem?_eq_getElem _⟩
      have hx63 := HSZ.out x (List.mem_of_getElem? hx)
      obtain ⟨ad, X, cx, rfl, hcx, hxc, hxb⟩ := (HL.out.below B1.out).at_ a x hx
      have HX := Lib.hid hx
      have hw10 : IntKind.i64.wrap ((t : Int) + 10) = (t : Int) + 10 := IntWalk.i64_in _ (by omega)
      obtain ⟨t2, ht2⟩ : ∃ t2, t2 = t + 10 + x.length := ⟨_, rfl⟩
      have hwx : IntKind.i64.wrap ((t : Int) + 10 + (x.length : Int)) = (t2 : Int) := by rw [IntWalk.i64_in _ (by omega)]; omega
      have HT2 := Lib.hid ht2
      clear hxb hx ht2
      go_wp2
      go_round
      case rel =>
        exact ⟨t2, a + 1, by omega, by go_num, rfl, by rw [take_snoc2 HX.out, totF_snoc, HT2.out, HT.out], by have := HT2.out; omega⟩
      case measure => simp [intOf]; omega
    obtain rfl : a = n := by omega
    have hlz : ¬ ((a : Int) < (a : Int)) := by omega
    by_cases hbig : 100000 < t
    · have hbz2 : (100000 : Int) < (t : Int) := by omega
      go_wp2
      go_ret
      exact ⟨rfl, B1.out⟩
    have hbz2 : ¬ (100000 : Int) < (t : Int) := by omega
    have hta : L.take a = L := List.take_of_length_le (by rw [HLN.out]; exact Nat.le_refl _)
    have htot : totF L ≤ 100000 := by have := HT.out; rw [hta] at this; omega
    have hshort : ∀ x ∈ L, x.length ≤ 100000 := fun x hx => Nat.le_trans (totF_mem hx) htot
    have HS := Lib.hid hshort
    clear hta HT ht6 hshort
    go_wp2
    go_loopw [8, 9] (fun v i wr => ∃ b : Nat, b ≤ a ∧ i = .int .i64 b ∧ Below w.heap.size w wr ∧ wr.ownsRow w.heap.size 5 1 v ((L.take b).flatMap putF).length (((L.take b).flatMap putF).map byteV)) (fun _ i _ => a - (intOf i).toNat)
    case atStart => exact ⟨0, by omega, rfl, B1.out, ⟨by simp, .inl ⟨rfl, rfl⟩⟩⟩
    case round =>
      clear B1
      obtain ⟨b, hb, rfl, hB, hO⟩ := hrel
      have HB := Lib.hid hB
      have HO := Lib.hid hO
      clear hB hO
      obtain ⟨T, hT⟩ : ∃ T, T = (L.take b).flatMap putF := ⟨_, rfl⟩
      obtain ⟨s, hs⟩ : ∃ s, s = T.length := ⟨_, rfl⟩
      have hsl : s ≤ 200000 := by
        have h1 := flat_len (L.take b) (fun x hx => by have := HS.out x (List.mem_of_mem_take hx); omega)
        have h2 := totF_take L b
        rw [hs, hT]
        omega
      rw [← hT, ← hs] at HO
      have HTT := Lib.hid hT
      have HSS := Lib.hid hs
      clear hT hs
      obtain ⟨Av, cv, hv⟩ := own_slice HO.out
      subst hv
      rcases Nat.lt_or_ge b a with hlt | hge
      · have hlt' : (b : Int) < (a : Int) := by omega
        have p0 : (0 : Int) ≤ (b : Int) := by omega
        obtain ⟨x, hx⟩ : ∃ x, L[b]? = some x := ⟨L[b]'(by rw [HLN.out]; exact hlt), List.getElem?_eq_getElem _⟩
        have hx63 := HS.out x (List.mem_of_getElem? hx)
        obtain ⟨ad, X, cx, rfl, hcx, hxc, hxb⟩ := (HL.out.below HB.out).at_ b x hx
        have HX := Lib.hid hx
        have HXB := Lib.hid hxb
        have hp10 := putL_len x.length (by omega)
        obtain ⟨F, hF⟩ : ∃ F, F = putF x := ⟨_, rfl⟩
        obtain ⟨fl, hfl⟩ : ∃ fl, fl = F.length := ⟨_, rfl⟩
        obtain ⟨p, hp⟩ : ∃ p, p = (putL x.length).length := ⟨_, rfl⟩
        have hfp : fl = p + 4 + x.length := by rw [hfl, hF, putF_len, hp]
        rw [← hp] at hp10
        have HF := Lib.hid hF
        have HFL := Lib.hid hfl
        have HP := Lib.hid hp
        have HFP := Lib.hid hfp
        have hfb : fl ≤ 300000 := by omega
        clear hx hxb hF hfl hp hfp
        go_wp2_with fail
        refine (fPut_any wr X x.length cx x HXB.out (by omega)).mono ?_
        rintro e w2 ⟨v2, rfl, hO2, hB2⟩
        rw [← HF.out, ← HFL.out] at hO2
        obtain ⟨A2, c2, hv2⟩ := own_slice hO2
        subst hv2
        have HB2 := Lib.hid (below_then HB.out hB2 HB.out.size)
        have HS2 := Lib.hid (src_of_own hO2)
        have HO2 := Lib.hid (ownsRow_block HO.out fun g hg => hB2.block g (HO.out.lt g hg).2)
        obtain ⟨ad', X', cx', h1, hcx2, _, _⟩ := (HL.out.below HB2.out).at_ b x HX.out
        cases h1
        clear hO2 hB2 hcx
        go_wp2
        go_loop [11, 12] (fun u q => ∃ (r z : Nat), u = .int .i64 r ∧ q = .int .i64 z ∧ z ≤ x.length ∧ r + (putL z).length = 5 + p) (fun _ q => (intOf q).toNat)
        case atStart => exact ⟨5, x.length, rfl, rfl, Nat.le_refl _, by rw [HP.out]⟩
        case round =>
          obtain ⟨r, z, rfl, rfl, hz, hr⟩ := hrel
          have hzp := putL_pos z
          rcases Nat.lt_or_ge z 128 with h128 | h128
          · have hz128 : ¬ (z : Int) ≥ 128 := by omega
            have hr4 : r = 4 + p := by rw [putL_small h128] at hr; simp at hr; omega
            have hrl : r ≤ 100 := by omega
            have hrx : (r : Int) + (x.length : Int) = (fl : Int) := by have := HFP.out; omega
            have dd : ((fl : Int) != (fl : Int)) = false := by simp
            clear hr hzp hr4
            go_wp2_with (at_builtin; refine wpList_append_src _ rfl (.tmp 72) (.tmp 73) 22 rfl w.heap.size 5 i0 (.int .u8 0) 1 Try.underlying22 hi hz0 hz1 hz2 rfl _ _ _ rfl HO2.out A2 _ c2 _ rfl HS2.out (u8_one _) (by unfold maxLen; omega) (by omega) HB2.out.size ?_; intro v3 w3 hown hgrow _; have HO3 := Lib.hid hown; have HB3 := Lib.hid (HB2.out.grown hgrow HB2.out.size (fun g hg => (HO2.out.lt g hg).1)); clear hown hgrow)
            go_roundw
            case rel =>
              have e1 : (L.take (b + 1)).flatMap putF = T ++ F := by rw [take_snoc2 HX.out, flat_snoc, ← HTT.out, HF.out]
              refine ⟨b + 1, by omega, by go_num, HB3.out, ?_⟩
              rw [e1, List.length_append, List.map_append, ← HSS.out, ← HFL.out]
              exact HO3.out
            case measure => simp [intOf]; omega
          · have hz128 : (z : Int) ≥ 128 := by omega
            have hrl : r ≤ 100 := by omega
            have hr2 : r + 1 + (putL (z / 128)).length = 5 + p := by rw [putL_big (by omega)] at hr; simp at hr; omega
            have HR2 := Lib.hid hr2
            clear hr hr2 hzp
            go_wp2
            go_round
            case rel => exact ⟨r + 1, z / 128, by go_num, by go_num, by omega, HR2.out⟩
            case measure => simp [intOf]; omega
      obtain rfl : b = a := by omega
      have hlz : ¬ ((b : Int) < (b : Int)) := by omega
      have htb : L.take b = L := List.take_of_length_le (by rw [HLN.out]; exact Nat.le_refl _)
      have hT2 := HTT.out
      rw [htb] at hT2
      have hSh : Short L := fun x hx => by have := HS.out x hx; omega
      have ha := allF_bad L hSh [0, y, 1, y, y] (by simp) (get_bad y) (by decide)
      rw [← hT2] at ha
      have HA := Lib.hid ha
      have hw := wholeF_bad L hSh [0, y, 1, y, y] (by simp) (get_bad y) (by decide)
      rw [← hT2, ← HSS.out] at hw
      have HW := Lib.hid hw
      have hLb : L.length = b := HLN.out
      have HLB := Lib.hid hLb
      clear htb hT2 hSh ha hw hLb
      have HSRC := Lib.hid (src_of_own (own_alloc HO.out (.cells #[] 5)))
      go_wp2_with (first
        | (at_builtin; refine wpList_append_src _ rfl (.tmp 75) (.tmp 76) 22 rfl w.heap.size 5 i0 (.int .u8 0) 1 Try.underlying22 hi hz0 hz1 hz2 rfl _ 0 [] rfl (World.ownsRow_made wr #[] 0 HB.out.size (Nat.zero_le _) rfl) Av s cv (T.map byteV) rfl HSRC.out (u8_one T) (by unfold maxLen; omega) (by omega) (by have := HB.out.size; simp; omega) ?_; intro v4 w4 hown hgrow hloc; obtain ⟨A4, c4, hv⟩ := own_slice hown; subst hv; rw [Nat.zero_add, List.nil_append] at hown; have HO4 := Lib.hid hown; have HB4 := Lib.hid ((HB.out.alloc HB.out.size (.cells #[] 5)).grown hgrow (by have := HB.out.size; simp; omega) (fun g e => by cases e; exact HB.out.size)); have HV4 := Lib.hid (ownsRow_block (own_alloc HO.out (.cells #[] 5)) (w' := w4) fun g hg => hgrow.block g (by have := (HO.out.lt g hg).2; simp; omega) (fun e => by cases e; exact Nat.lt_irrefl _ (HO.out.lt _ hg).2)); clear hown hgrow hloc)
        | (at_builtin; refine wpList_append_src _ rfl (.tmp 77) (.tmp 81) 22 rfl w.heap.size 5 i0 (.int .u8 0) 1 Try.underlying22 hi hz0 hz1 hz2 rfl _ _ _ rfl (own_alloc HO4.out _) _ 5 5 _ rfl (HN5.out _) (u8_one [0, y, 1, y, y]) (by unfold maxLen; omega) (by omega) (by have := HB4.out.size; simp; omega) ?_; intro v5 w5 hown hgrow hloc; obtain ⟨A5, c5, hv, hc5⟩ := own_cap hown; subst hv; rw [← List.map_append] at hown; have HO5 := Lib.hid hown; have HB5 := Lib.hid ((HB4.out.alloc HB4.out.size _).grown hgrow (by have := HB4.out.size; simp; omega) (fun g hg => (HO4.out.lt g hg).1)); clear hown hgrow hloc))
      refine (fAll_any w5 A5 (s + 5) c5 (T ++ [0, y, 1, y, y]) (BytesIn.own HO5.out (by unfold maxLen; omega)) hc5 (by omega)).mono ?_
      rintro e w6 ⟨v6, rfl, hR6, hB6⟩
      rw [HA.out] at hR6 ⊢
      obtain ⟨A6, c6, hv, _⟩ := see_of hR6 (by show 0 ≤ _; omega)
      subst hv
      have HB6 := Lib.hid (below_then HB5.out hB6 HB5.out.size)
      have HO6 := Lib.hid (ownsRow_block HO5.out fun g hg => hB6.block g (HO5.out.lt g hg).2)
      clear hR6 hB6 HSRC HO4 HB4 HV4 HO5 HB5
      go_wp2_with fail
      refine (fWhole_any w6 A5 (s + 5) c5 (T ++ [0, y, 1, y, y]) (BytesIn.own HO6.out (by unfold maxLen; omega)) hc5 (by omega)).mono ?_
      rintro e w7 ⟨v7, rfl, hR7, hB7⟩
      rw [HW.out] at hR7 ⊢
      obtain ⟨A7, c7, hv, hsee⟩ := see_of hR7 (by show L.length ≤ _; rw [HLB.out]; unfold maxLen; omega)
      subst hv
      have hsee2 : RowsSee w7 A7 L.length L := hsee
      rw [HLB.out] at hsee2
      have J7 := Lib.hid hsee2
      have HB7 := Lib.hid (below_then HB6.out hB7 HB6.out.size)
      have hLb : L.length = b := HLB.out
      clear hR7 hB7 hsee hsee2 HO6 HB6
      go_wp2_with fail
      refine (r4Same_any w7 A7 A b b c7 ca L L J7.out (HL.out.below HB7.out)).mono ?_
      rintro e w8 ⟨rfl, qd, hw⟩
      rw [decide_eq_true rfl]
      have HB8 : Hid (Below w.heap.size w w8) := Lib.hid (by rw [hw]; exact below_drewN HB7.out _)
      clear hw HB7 J7
      go_wp2
      go_ret
      exact ⟨rfl, HB8.out⟩
end Go.Proofs.Ytikibkagdjlhoaa
